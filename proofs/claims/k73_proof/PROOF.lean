import PyProof.Rows.All
import Wide.All
import OpenK.AllK
import Wide.FinOn
import Lean
import PyProof.EqAt
import PyProof.EqKinds
import PyProof.TupleCall
import PyProof.ExcBaseAll.ValueError
import PyProof.ExcAttrAll.ValueError
import PyProof.NsDelKeeps
import PySem.Challenge.RW_dutyproof_k73_slack
set_option Elab.async false
set_option linter.all false
set_option maxRecDepth 100000
theorem Zf {p:Prop}(h:False):p:=h.elim
namespace L2
open PySem PySem.Spec PyProof.Rows
noncomputable abbrev Key:=Sum Int Str
noncomputable def Jtb:Key->Value->Bool
 | .inl k,v=>Value.isInt k v
 | .inr x,v=>Value.isStrOf x v
noncomputable def keyH (w:World):Key->Int
 | .inl k=>hashInt k
 | .inr x=>hashStr w x
theorem Jz:∀{k:Key}{v:Value},Jtb k v=true->(∃i t,k=Sum.inl i/\v=Value.int i t)∨(∃x t,k=Sum.inr x/\v=Value.str x t)
 | .inl i,v,h=>by
  obtain⟨t,e⟩:=Value.isInt_shape (k:=i) (v:=v) h
  exact .inl ⟨i,t,rfl,e⟩
 | .inr x,v,h=>by
  obtain⟨t,e⟩:=Value.isStrOf_shape (x:=x) (v:=v) h
  exact .inr ⟨x,t,rfl,e⟩
theorem Jv3 (i:Int) (t:Tok):Jtb (.inl i) (.int i t)=true:=by simp[Jtb,Value.isInt]
theorem Jv4 (x:Str) (t:Tok):Jtb (.inr x) (.str x t)=true:=by simp[Jtb,Value.isStrOf]
theorem J6b (a b:Int):decide ((Sum.inl a:Key)=Sum.inl b)=(a==b):=by
 by_cases e:a=b
 ·subst e;simp
 ·have h:¬(Sum.inl a:Key)=Sum.inl b:=λ q=>e (Sum.inl.inj q)
  rw[decide_eq_false h]
  exact(beq_eq_false_iff_ne.mpr e).symm
theorem J6e (a b:Str):decide ((Sum.inr a:Key)=Sum.inr b)=decide (a=b):=by
 by_cases e:a=b
 ·subst e;simp
 ·have h:¬(Sum.inr a:Key)=Sum.inr b:=λ q=>e (Sum.inr.inj q)
  rw[decide_eq_false h,decide_eq_false e]
theorem J6c (a:Int) (b:Str):decide ((Sum.inl a:Key)=Sum.inr b)=false:=decide_eq_false (λ q=>nomatch q)
theorem J6d (a:Str) (b:Int):decide ((Sum.inr a:Key)=Sum.inl b)=false:=decide_eq_false (λ q=>nomatch q)
noncomputable def Jbc (prog:Program) (w:World):PySem.KeyKind prog w Key where
 is:=Jtb
 hash:=keyH w
 inj:=λ v a b ha hb=>by
  rcases Jz ha with⟨i,t,rfl,rfl⟩|⟨x,t,rfl,rfl⟩
  ·rcases Jz hb with⟨j,u,rfl,e⟩|⟨y,u,rfl,e⟩
   ·injection e with e1 _;rw[e1]
   ·exact nomatch e
  ·rcases Jz hb with⟨j,u,rfl,e⟩|⟨y,u,rfl,e⟩
   ·exact nomatch e
   ·injection e with e1 _;rw[e1]
 byValue:=λ k v h=>by
  rcases Jz h with⟨i,t,rfl,rfl⟩|⟨x,t,rfl,rfl⟩<;>rfl
 pyHash:=λ hv h=>by
  rcases Jz hv with⟨i,t,rfl,rfl⟩|⟨x,t,rfl,rfl⟩
  ·exact wpAny_pyHash_int h
  ·exact wpAny_pyHash_str h
 eqBool:=λ hu hv h=>by
  rcases Jz hu with⟨i,t,rfl,rfl⟩|⟨x,t,rfl,rfl⟩
  ·rcases Jz hv with⟨j,u,rfl,rfl⟩|⟨y,u,rfl,rfl⟩
   ·rw[J6b] at h;exact wpAny_eqBool_int h
   ·rw[J6c] at h;exact SeqAt.EqAt.int_str i t y u _ _ _ _ h
  ·rcases Jz hv with⟨j,u,rfl,rfl⟩|⟨y,u,rfl,rfl⟩
   ·rw[J6d] at h;exact SeqAt.EqAt.str_int x t j u _ _ _ _ h
   ·rw[J6e] at h;exact wpAny_eqBool_str h
 «strs» :=λ k x t v h=>by
  rcases Jz h with⟨i,u,rfl,e⟩|⟨y,u,rfl,e⟩
  ·exact nomatch e
  ·injection e with e1 _
   subst e1
   cases v<;>rfl
theorem Jqs (prog:Program) (w:World) (i:Int) (t:Tok):(Jbc prog w).is (.inl i) (.int i t)=true:=Jv3 i t
theorem Jqt (prog:Program) (w:World) (x:Str) (t:Tok):(Jbc prog w).is (.inr x) (.str x t)=true:=Jv4 x t
inductive V where
 | non|bl (b:Bool)|int (i:Int)|str (x:Str)|byt (b:Array UInt8)|flt (b:UInt64)|ref (a:Addr)|ty (n:String)
 deriving DecidableEq
noncomputable def RelV:V->Value->Prop
 | .non,u=>u=Value.none
 | .bl b,u=>u=Value.bool b
 | .int i,u=>∃t,u=Value.int i t
 | .str x,u=>∃t,u=Value.str x t
 | .byt b,u=>∃t,u=Value.bytes b t
 | .flt b,u=>∃t,u=Value.float b t
 | .ref a,u=>u=Value.ref a
 | .ty n,u=>u=Value.type n
noncomputable abbrev Vals:List V->List Value->Prop:=Paired RelV
theorem Vals.length {xs:List V}{us:List Value}(r:Vals xs us):xs.length=us.length:=Paired.length r
theorem Vals.get:∀{xs:List V}{us:List Value}{i:Nat}{x:V},Vals xs us->xs[i]?=some x->∃u,us[i]?=some u/\RelV x u
 | _,_,_,_,.nil,e=>by simp at e
 | _,_,0,_,.cons r _,e=>by simp at e;subst e;exact⟨_,rfl,r⟩
 | _,_,i+1,x,.cons _ t,e=>by
  obtain⟨u,h1,h2⟩:=Vals.get (i:=i) (x:=x) t (by simpa using e)
  exact⟨u,by simpa using h1,h2⟩
theorem Vals.set {x:V}{u:Value}(r:RelV x u):∀{xs:List V}{us:List Value}(i:Nat),Vals xs us->Vals (xs.set i x) (us.set i u)
 | _,_,_,.nil=>.nil
 | _,_,0,.cons _ t=>.cons r t
 | _,_,i+1,.cons q t=>.cons q (Vals.set r i t)
theorem Vals.append:∀{xs ys:List V}{us ws:List Value},Vals xs us->Vals ys ws->Vals (xs++ys) (us++ws)
 | _,_,_,_,.nil,s=>s
 | _,_,_,_,.cons r t,s=>.cons r (Vals.append t s)
theorem Vals.take:∀{xs:List V}{us:List Value}(n:Nat),Vals xs us->Vals (xs.take n) (us.take n)
 | _,_,0,_=>.nil
 | _,_,_+1,.nil=>.nil
 | _,_,n+1,.cons r t=>.cons r (Vals.take n t)
theorem Vals.drop:∀{xs:List V}{us:List Value}(n:Nat),Vals xs us->Vals (xs.drop n) (us.drop n)
 | _,_,0,r=>r
 | _,_,_+1,.nil=>.nil
 | _,_,n+1,.cons _ t=>Vals.drop n t
theorem Vals.none_of:∀{xs:List V}{us:List Value}{i:Nat},Vals xs us->xs[i]?=none->us[i]?=none:=λ {xs us i} r e=>by
 have h1:=r.length
 have h2:xs.length<=i:=List.getElem?_eq_none_iff.mp e
 exact List.getElem?_eq_none_iff.mpr (by omega)
noncomputable def RelO:Option V->Option Value->Prop
 | some v,some u=>RelV v u
 | none,none=>True
 | _,_=>False
noncomputable def KV {κ:Type}:List (κ×V)->List (κ×Value)->Prop:=Paired λ (p:κ×V) (q:κ×Value)=>p.1=q.1/\RelV p.2 q.2
noncomputable def kV:Key->V
 | .inl i=>.int i
 | .inr x=>.str x
inductive HO where
 /-- a list -/
 | lst (xs:List V)
 /-- a tuple (never changes) -/
 | tup (xs:List V)
 /-- a dict whose keys are ints and texts; one whose keys are tuples of ints and texts (the empty one is both) -/
 | dK (kvs:List (Key×V))|dT (kvs:List (List Key×V))
 /-- a set of ints: its members, its size -/
 | set (S:Int->Bool) (n:Nat)
 /-- an instance of the class at C, its dict at dx, its attributes -/
 | ins (C dx:Addr) (fs:List (Str×V))
 /-- the dict of the instance at x -/
 | own (x:Addr)
 /-- the dict of an exception -/
 | xd (fs:List (Str×V))
 /-- a bound method, f of x -/
 | met (f x:Addr)
 /-- a range object lo, lo + 1, .. below hi -/
 | rng (lo hi:Int)
 /-- a thing that is known to the object (the script; a dict while a loop walks it): read, never written while it is so -/
 | frz (o:Obj) (u:HO)
 /-- a code object's table -/
 | tbl (ps:Array Value)
 /-- any other thing, by what is true of its one object (a def of one's own: SetO a S n := HO.ext λ h => ..) -/
 | ext (φ:Heap->Prop)
noncomputable abbrev Hp:=Addr->Option HO
noncomputable def upd (H:Hp) (a:Addr) (o:HO):Hp:=λ b=>if b=a then some o else H b
theorem Je {H:Hp}{a:Addr}{o:HO}:upd H a o a=some o:=by unfold upd;rw[if_pos rfl]
theorem Jg {H:Hp}{a b:Addr}{o:HO}(h:b≠a):upd H a o b=H b:=by unfold upd;rw[if_neg h]
theorem J2 {H:Hp}{a b:Addr}{o:HO}(h:H a=some o) (h':H b=none):a≠b:=by
 intro e;subst e;rw[h] at h';cases h'
section
variable (P:Program) (w:World)
noncomputable def Jbn (H:Hp) (h:Heap) (a:Addr):HO->Prop
 | .lst xs=>xs.length<=sizeLine/\∃(its:List Value) (n:Nat),Vals xs its/\h.get? a=some { cls:=.type "list",data:=.seq its.toArray n }
 | .tup xs=>xs.length<=sizeLine/\∃its:List Value,Vals xs its/\IsTup h a its.toArray
 | .dK kvs=>kvs.length<=sizeLine/\(a==sysModules)=false/\∃vs,KV kvs vs/\h.DictOf (Jbc P w) a vs
 | .dT kvs=>kvs.length<=sizeLine/\(a==sysModules)=false/\∃xs:List (List Key×Addr×Value),
   Paired (λ (p:List Key×V) (q:List Key×Addr×Value)=>p.1=q.1/\H q.2.1=some (.tup (p.1.map kV))/\RelV p.2 q.2.2) kvs xs /\
   ∃o es ep,h.get? a=some o/\o.ExactDict/\o.data=.dict es ep/\es.toList=xs.map (entryOfKey (tupleKind (Jbc P w)))/\(xs.map (·.1)).Nodup
 | .set S n=>h.SetOf (intKind P w) a S n
 | .ins C dx fs=>H dx=some (.own a)/\fs.length<=1000/\dx≠a/\h.get? a=some (W.instObj C dx) /\
   ∃mA,h.Ns1 dx mA/\(∀f,RelO (fs.lookup f) (mA f))/\PySem.Within mA (fs.map (·.1))
 | .own _=>∃o,h.get? a=some o
 | .xd fs=>∃mA,h.Ns1 a mA/\∀f,RelO (fs.lookup f) (mA f)
 | .rng lo hi=>∃t u v,h.get? a=some { cls:=.type "range",data:=.fields #[.int lo t,.int hi u,.int 1 v] }
 | .frz o u=>h.get? a=some o/\Jbn H h a u
 | .tbl ps=>h.get? a=some { cls:=.none,data:=.fields ps }
 | .met f x=>h.get? a=some (W.methodObj (.ref f) (.ref x))
 | .ext φ=>φ h/\(∃o,h.get? a=some o)/\∀h1 h2:Heap,φ h1->(∀o,h1.get? a=some o->h2.get? a=some o)->φ h2
noncomputable def HOk (H:Hp) (h:Heap):Prop:=∀a o,H a=some o->Jbn P w H h a o
end
section
variable {P:Program}{w:World}{H H':Hp}{h h':Heap}{a:Addr}{o:HO}
theorem Jbn.lt (x:Jbn P w H h a o):a<h.objs.size:=by
 cases o with
 | lst xs=>obtain⟨_,_,_,_,e⟩:=x;exact Heap.lt_size e
 | tup xs=>obtain⟨_,_,_,p⟩:=x;exact p.lt
 | dK kvs=>obtain⟨_,_,_,_,o,_,_,e,_⟩:=x;exact Heap.lt_size e
 | dT kvs=>obtain⟨_,_,_,_,o,_,_,e,_⟩:=x;exact Heap.lt_size e
 | set S n=>obtain⟨o,_,_,_,e,_⟩:=x;exact Heap.lt_size e
 | ins C dx fs=>obtain⟨_,_,_,e,_⟩:=x;exact Heap.lt_size e
 | own y=>obtain⟨_,e⟩:=x;exact Heap.lt_size e
 | xd fs=>obtain⟨_,⟨_,_,_,e,_⟩,_⟩:=x;exact Heap.lt_size e
 | rng lo hi=>obtain⟨_,_,_,e⟩:=x;exact Heap.lt_size e
 | frz ob u=>obtain⟨e,_⟩:=x;exact Heap.lt_size e
 | tbl ps=>exact Heap.lt_size (show h.get? a=some _ from x)
 | met f y=>exact Heap.lt_size (show h.get? a=some _ from x)
 | ext φ=>obtain⟨_,⟨_,e⟩,_⟩:=x;exact Heap.lt_size e
theorem Paired.mapP {α β:Type}{F G:α->β->Prop}:∀{l₁:List α}{l₂:List β},Paired F l₁ l₂->(∀a b,F a b->G a b)->Paired G l₁ l₂
 | _,_,.nil,_=>.nil
 | _,_,.cons r t,f=>.cons (f _ _ r) (Paired.mapP t f)
theorem Jbn.stay (x:Jbn P w H h a o) (k:∀b u,(b=a∨H b=some (.own a))->h.get? b=some u->h'.get? b=some u)
  (ho:∀b,H b=some (.own a)->H' b=some (.own a)) (ht:∀b xs,H b=some (.tup xs)->H' b=some (.tup xs)):Jbn P w H' h' a o:=by
 induction o with
 | lst xs=>obtain⟨z,its,n,r,e⟩:=x;exact⟨z,its,n,r,k _ _ (.inl rfl) e⟩
 | tup xs=>obtain⟨z,its,r,ob,e,c⟩:=x;exact⟨z,its,r,ob,k _ _ (.inl rfl) e,c⟩
 | dK kvs=>obtain⟨z,y,vs,r,ob,es,ep,e,c⟩:=x;exact⟨z,y,vs,r,ob,es,ep,k _ _ (.inl rfl) e,c⟩
 | dT kvs =>
  obtain⟨z,y,xs,r,ob,es,ep,e,c⟩:=x
  exact⟨z,y,xs,Paired.mapP r λ p q z=>⟨z.1,ht _ _ z.2.1,z.2.2⟩,ob,es,ep,k _ _ (.inl rfl) e,c⟩
 | set S n=>obtain⟨ob,es,ep,t,e,c⟩:=x;exact⟨ob,es,ep,t,k _ _ (.inl rfl) e,c⟩
 | ins C dx fs =>
  obtain⟨d,z,ne,e,mA,⟨od,es,ep,e2,c⟩,r⟩:=x
  exact⟨ho _ d,z,ne,k _ _ (.inl rfl) e,mA,⟨od,es,ep,k _ _ (.inr d) e2,c⟩,r⟩
 | own y=>obtain⟨ob,e⟩:=x;exact⟨ob,k _ _ (.inl rfl) e⟩
 | xd fs=>obtain⟨mA,⟨od,es,ep,e,c⟩,r⟩:=x;exact⟨mA,⟨od,es,ep,k _ _ (.inl rfl) e,c⟩,r⟩
 | rng lo hi=>obtain⟨t,u,v,e⟩:=x;exact⟨t,u,v,k _ _ (.inl rfl) e⟩
 | frz ob u ih=>obtain⟨e,q⟩:=x;exact⟨k _ _ (.inl rfl) e,ih q⟩
 | tbl ps =>
  have e:h.get? a=some { cls:=.none,data:=.fields ps }:=x
  show h'.get? a=some { cls:=.none,data:=.fields ps }
  exact k a _ (.inl rfl) e
 | met f y =>
  have e:h.get? a=some (W.methodObj (.ref f) (.ref y)):=x
  show h'.get? a=some (W.methodObj (.ref f) (.ref y))
  exact k a _ (.inl rfl) e
 | ext φ=>obtain⟨p,⟨o,e⟩,st⟩:=x;exact⟨st _ _ p λ o q=>k _ _ (.inl rfl) q,⟨o,k _ _ (.inl rfl) e⟩,st⟩
theorem HOk.lt (x:HOk P w H h) (e:H a=some o):a<h.objs.size:=(x a o e).lt
theorem HOk.fresh (x:HOk P w H h) (e:h.objs.size<=a):H a=none:=by
 cases q:H a with
 | none=>rfl
 | some u=>exact absurd (Nat.lt_of_lt_of_le (x.lt q) e) (Nat.lt_irrefl _)
theorem HOk.kept (x:HOk P w H h) (k:∀b u,h.get? b=some u->h'.get? b=some u):HOk P w H h':=λ a o e =>
 (x a o e).stay (λ b u _ q=>k b u q) (λ _ q=>q) λ _ _ q=>q
theorem HOk.laid (x:HOk P w H h) (k:∀b u,h.get? b=some u->h'.get? b=some u) (hp:h.objs.size<=a) (new:Jbn P w (upd H a o) h' a o):HOk P w (upd H a o) h':=λ b u e=>by
 have hn:=x.fresh hp
 by_cases hb:b=a
 ·subst hb;rw[Je] at e;cases e;exact new
 ·rw[Jg hb] at e
  exact(x b u e).stay (λ c v _ q=>k c v q) (λ c q=>by rw[Jg (J2 q hn)];exact q) λ c xs q=>by rw[Jg (J2 q hn)];exact q
end
noncomputable def Rd (H:Hp) (a:Addr) (u:HO):Prop:=H a=some u∨∃o,H a=some (.frz o u)
theorem Rd.of {H:Hp}{a:Addr}{u:HO}(h:H a=some u):Rd H a u:=.inl h
theorem Rd.ok {P:Program}{w:World}{H:Hp}{h:Heap}{a:Addr}{u:HO}(r:Rd H a u) (x:HOk P w H h):Jbn P w H h a u:=by
 rcases r with r|⟨o,r⟩
 ·exact x a u r
 ·obtain⟨_,q⟩:=x a _ r
  exact q
noncomputable def Mut:Option HO->Prop
 | some (.lst _)=>True
 | some (.dK _)=>True
 | some (.dT _)=>True
 | some (.set _ _)=>True
 | some (.ins _ _ _)=>True
 | some (.ext _)=>True
 | _=>False
section
variable {P:Program}{w:World}{H:Hp}{h h':Heap}{x e:Addr}{o':HO}
theorem HOk.write (ok:HOk P w H h) (mu:Mut (H x)) (he:e=x∨H e=some (.own x)) (k:∀b u,b≠e->h.get? b=some u->h'.get? b=some u) (heo:∃u,h'.get? e=some u)
  (new:Jbn P w (upd H x o') h' x o'):HOk P w (upd H x o') h':=λ b u q=>by
 have nown:∀c y,H c=some (.own y)->c≠x:=λ c y r z=>by subst z;rw[r] at mu;exact mu
 have ntup:∀c xs,H c=some (.tup xs)->c≠x:=λ c xs r z=>by subst z;rw[r] at mu;exact mu
 by_cases hb:b=x
 ·subst hb;rw[Je] at q;cases q;exact new
 ·rw[Jg hb] at q
  by_cases hbe:b=e
  ·have q':H b=some (.own x):=by
    rcases he with z|z
    ·exact absurd (hbe.trans z) hb
    ·rw[hbe];exact z
   rw[q] at q';cases q'
   obtain⟨v,hv⟩:=heo
   exact⟨v,by rw[hbe];exact hv⟩
  ·refine(ok b u q).stay (λ c v hc r=>k c v ?_ r) (λ c r=>by rw[Jg (nown c b r)];exact r) λ c xs r=>by rw[Jg (ntup c xs r)];exact r
   rcases hc with rfl|hc
   ·exact hbe
   ·rintro rfl
    rcases he with z|z
    ·exact nown c b hc z
    ·rw[hc] at z;cases z;exact hb rfl
end
structure Un (fs ex:List Addr) (H H':Hp) (h h':Heap):Prop where
 keep:∀b o,h.get? b=some o->H b=none->b∉fs->b∉ex->h'.get? b=some o
 slot:∀b o,h.get? b=some o->H b=none->b∈fs->b∉ex->∃sl,h'.get? b=some { o with slots:=sl }
 free:∀b o,h.get? b=some o->H b=none->b∉ex->H' b=none
 there:∀b o,h.get? b=some o->b∉ex->∃o',h'.get? b=some o'
 tups:∀b xs,H b=some (.tup xs)->H' b=some (.tup xs)
 frzs:∀b o u,H b=some (.frz o u)->H' b=some (.frz o u)
 tbls:∀b ps,H b=some (.tbl ps)->∃more,H' b=some (.tbl (ps++more))
section
variable {fs fs' ex ex':List Addr}{H H1 H2:Hp}{h h1 h2 h':Heap}{a x e:Addr}{o:HO}
theorem Un.any (u:Un fs ex H H1 h h1){b:Addr}{ob:Obj}(q:h.get? b=some ob) (n:H b=none) (hx:b∉ex):∃sl,h1.get? b=some { ob with slots:=sl }:=by
 by_cases hb:b∈fs
 ·exact u.slot b ob q n hb hx
 ·exact⟨ob.slots,u.keep b ob q n hb hx⟩
theorem Un.trans (a:Un fs ex H H1 h h1) (b:Un fs ex H1 H2 h1 h2):Un fs ex H H2 h h2 where
 keep:=λ c ob q n hc hx=>b.keep c ob (a.keep c ob q n hc hx) (a.free c ob q n hx) hc hx
 slot:=λ c ob q n hc hx=>by
  obtain⟨sl,e1⟩:=a.slot c ob q n hc hx
  obtain⟨sl',e2⟩:=b.slot c _ e1 (a.free c ob q n hx) hc hx
  exact⟨sl',e2⟩
 free:=λ c ob q n hx=>by
  obtain⟨o',e1⟩:=a.there c ob q hx
  exact b.free c o' e1 (a.free c ob q n hx) hx
 there:=λ c ob q hx=>by
  obtain⟨o',e1⟩:=a.there c ob q hx
  exact b.there c o' e1 hx
 tups:=λ c xs q=>b.tups c xs (a.tups c xs q)
 frzs:=λ c ob xs q=>b.frzs c ob xs (a.frzs c ob xs q)
 tbls:=λ c ps q=>by
  obtain⟨m1,e1⟩:=a.tbls c ps q
  obtain⟨m2,e2⟩:=b.tbls c _ e1
  exact⟨m1++m2,by rw[e2,Array.append_assoc]⟩
theorem Un.kept (k:∀b u,h.get? b=some u->h'.get? b=some u):Un fs ex H H h h' :=
 ⟨λ b ob q _ _ _=>k b ob q,λ b ob q _ _ _=>⟨ob.slots,k b ob q⟩,λ _ _ _ n _=>n,λ b ob q _=>⟨ob,k b ob q⟩,λ _ _ q=>q,λ _ _ _ q=>q,λ _ ps q=>⟨#[],by rw[q];simp⟩⟩
theorem Un.refl:Un fs ex H H h h:=Un.kept λ _ _ q=>q
theorem Un.laid (k:∀b u,h.get? b=some u->h'.get? b=some u) (hp:h.objs.size<=a) (hn:H a=none):Un fs ex H (upd H a o) h h' where
 keep:=λ b u q _ _ _=>k b u q
 slot:=λ b u q _ _ _=>⟨u.slots,k b u q⟩
 free:=λ b u q n _=>by rw[Jg (Nat.ne_of_lt (Nat.lt_of_lt_of_le (Heap.lt_size q) hp))];exact n
 there:=λ b u q _=>⟨u,k b u q⟩
 tups:=λ b xs q=>by rw[Jg (J2 q hn)];exact q
 frzs:=λ b u xs q=>by rw[Jg (J2 q hn)];exact q
 tbls:=λ b ps q=>⟨#[],by rw[Jg (J2 q hn),q];simp⟩
theorem Un.write (mu:Mut (H x)) (he:e=x∨H e=some (.own x)) (k:∀b u,b≠e->h.get? b=some u->h'.get? b=some u) (heo:∃u,h'.get? e=some u):Un fs ex H (upd H x o) h h':=by
 have hx:∀b,H b=none->b≠x:=λ b n z=>by subst z;rw[n] at mu;exact mu
 have hb:∀b,H b=none->b≠e:=λ b n z=>by
  subst z
  rcases he with r|r
  ·exact hx b n r
  ·rw[n] at r;cases r
 have hm:∀b u,H b=some u->¬Mut (some u)->b≠x:=λ b u q nm z=>by subst z;rw[q] at mu;exact nm mu
 refine⟨λ b u q n _ _=>k b u (hb b n) q,λ b u q n _ _=>⟨u.slots,k b u (hb b n) q⟩,λ b u q n _=>by rw[Jg (hx b n)];exact n,λ b u q _=>?_,
  λ b xs q=>by rw[Jg (hm b _ q λ z=>z)];exact q,λ b u xs q=>by rw[Jg (hm b _ q λ z=>z)];exact q,λ b ps q=>⟨#[],by rw[Jg (hm b _ q λ z=>z),q];simp⟩⟩
 by_cases hbe:b=e
 ·subst hbe;exact heo
 ·exact⟨u,k b u hbe q⟩
theorem Un.mono (u:Un fs ex H H1 h h1) (hs:∀b∈fs,b∈fs') (hx:∀b∈ex,b∈ex'):Un fs' ex' H H1 h h1 :=
 ⟨λ b ob q n hb he=>u.keep b ob q n (λ z=>hb (hs b z)) λ z=>he (hx b z),λ _ _ q n _ he=>u.any q n λ z=>he (hx _ z),λ b ob q n he=>u.free b ob q n λ z=>he (hx b z),λ b ob q he=>u.there b ob q λ z=>he (hx b z),u.tups,u.frzs,u.tbls⟩
end
noncomputable def trk (h:Heap) (H:Hp):List Addr:=(List.range h.objs.size).filter λ a=>(H a).isSome
noncomputable def hidT (h:Heap) (H:Hp):Heap:=W.hideAll h (trk h H)
theorem Jvr (h:Heap) (H:Hp):(hidT h H).objs.size=h.objs.size:=W.hideAll_size _ _
theorem Jyt {h:Heap}{H:Hp}{b:Addr}{o:Obj}(e:h.get? b=some o) (n:H b=none):(hidT h H).get? b=some o :=
 W.hideAll_get _ e λ hm=>by
  have q:(H b).isSome=true:=(List.mem_filter.mp hm).2
  rw[n] at q;simp at q
theorem J29 {h:Heap}{H:Hp}{b:Addr}{o:Obj}(e:(hidT h H).get? b=some o):h.get? b=some o/\H b=none:=by
 have e':h.get? b=some o:=W.of_hideAll (trk h H) e
 refine⟨e',?_⟩
 cases q:H b with
 | none=>rfl
 | some x =>
  have hm:b∈trk h H:=List.mem_filter.mpr ⟨List.mem_range.mpr (Heap.lt_size e'),by simp[q]⟩
  have z:(hidT h H).get? b=none:=W.hideAll_none (trk h H) hm
  rw[z] at e;cases e
noncomputable def J1y (g h:Heap) (L:Addr):List (Addr×Obj):=(List.range h.objs.size).filterMap λ a=>if a=L∨(g.get? a).isSome=true then none else(h.get? a).map λ o=>(a,o)
noncomputable def rest (g h:Heap) (L d:Addr):List (Addr×Obj):=(J1y g h L).filter λ p=>decide (p.1≠d)
structure Mod (K:W.Frag) (mg:Str->Option Value) (base:Heap):Prop where
 kin:K.In base
 glob:base.Ns mainGlobals mg
 blt:∃mb,base.Ns builtinsNs mb/\∀x:Str,x≠"__name__"->mb x=bootBuiltins x
 nolimit:base.NoLimit
structure Cx where
 prog:Program
 w:World
 K:W.Frag
 mg:Str->Option Value
 base:Heap
 A:Around
 N:List Str
 s₀:Shared
 H₀:Hp
 env:Env
 outer:List Env
 stack:List Env
 ex:List Addr
 fn:Str->Bool
 calm:Bool
 pn:List (Addr×Obj)
 xe:Value->Shared->Prop
noncomputable def frs (l:List Env):List Addr:=l.filterMap (·.frame)
noncomputable abbrev Cx.fs (X:Cx):List Addr:=frs X.outer
noncomputable def Vis (sc:Scope) (x:Str):Prop:=sc.names.lookup x=some .local∨sc.names.lookup x=some .cell∨sc.names.lookup x=some .free
noncomputable def Loc (sc:Scope) (x:Str):Prop:=sc.names.lookup x=some .local∨sc.names.lookup x=some .cell
noncomputable def Look (env:Env) (h:Heap) (m:Str->Option Value) (x:Str) (u:Value):Prop :=
 (env.kindOf x=some .local/\m x=some u)∨((env.kindOf x=some .cell∨env.kindOf x=some .free)/\∃c,env.cells.lookup x=some c/\h.IsCell c (some u))
structure Cx.Ok (X:Cx):Prop where
 mod:Mod X.K X.mg X.base
 kind:X.env.scope.kind=.function
 glob:X.env.globals=mainGlobals
 blt:X.env.builtins=builtinsNs
 above:X.s₀.heap.objs.size<=X.env.locals
 inj:∀x y c,X.env.cells.lookup x=some c->X.env.cells.lookup y=some c->x=y
 has:∀x,(X.env.kindOf x=some .cell∨X.env.kindOf x=some .free)->∃c,X.env.cells.lookup x=some c
 cab:∀x c,X.fn x=true->X.env.cells.lookup x=some c->X.s₀.heap.objs.size<=c
 hd:X.calm=true->X.A.handled=none
 frames:X.A.frames=some X.stack
 stk:X.stack=X.outer∨(X.stack=X.env::X.outer/\X.env.frame=some X.env.locals)
 exf:∀b∈X.ex,b≠X.env.locals/\∀x c,X.env.cells.lookup x=some c->c≠b
 bs:∀b o,X.base.get? b=some o->X.s₀.heap.get? b=some o/\X.H₀ b=none
 bsz:X.base.objs.size<=X.s₀.heap.objs.size
 noex:∀b o,X.base.get? b=some o->b∉X.ex
 exfs:∀b∈X.ex,b∉X.fs
 funs:X.s₀.heap.FunFrames X.base X.outer
 frf:∀b∈X.fs,X.H₀ b=none
structure Inv (X:Cx) (pins:List (Addr×Obj)) (σ:List (Option V)) (H:Hp) (s:Shared):Prop where
 ok:X.Ok
 os:s.os=X.s₀.os
 bare:AllBare s.gens
 base:Un X.fs X.ex X.H₀ H X.s₀.heap s.heap
 loc:∃m,s.heap.Ns X.env.locals m/\∀(i:Nat) (x:Str) (v:V),X.N[i]?=some x->σ[i]?=some (some v)->Vis X.env.scope x->∃u,RelV v u/\Look X.env s.heap m x u
 cell:∀x c,X.env.cells.lookup x=some c->∃v,s.heap.IsCell c v
 free:H X.env.locals=none
 freeC:∀x c,X.env.cells.lookup x=some c->H c=none
 pin:∀p∈X.pn++pins,s.heap.get? p.1=some p.2/\H p.1=none/\p.1≠X.env.locals/\p.1∉X.fs/\∀v,p.2.data≠.cell v
 hok:HOk X.prog X.w H s.heap
 len:σ.length=X.N.length
section
variable {X:Cx}{pins:List (Addr×Obj)}{σ:List (Option V)}{H H':Hp}{s:Shared}{h':Heap}
theorem Cx.Ok.nofr (ok:X.Ok){b:Addr}{o:Obj}(e:X.base.get? b=some o):b∉X.fs:=λ hb=>by
 have:=(ok.funs.mem hb).1
 rw[e] at this;cases this
theorem Inv.bs (I:Inv X pins σ H s):∀b o,X.base.get? b=some o->s.heap.get? b=some o/\H b=none:=λ b o e =>
 ⟨I.base.keep b o (I.ok.bs b o e).1 (I.ok.bs b o e).2 (I.ok.nofr e) (I.ok.noex b o e),I.base.free b o (I.ok.bs b o e).1 (I.ok.bs b o e).2 (I.ok.noex b o e)⟩
theorem Inv.bk (I:Inv X pins σ H s):∀b o,X.base.get? b=some o->s.heap.get? b=some o:=λ b o e=>(I.bs b o e).1
theorem Inv.mod (I:Inv X pins σ H s):Mod X.K X.mg X.base:=I.ok.mod
theorem Inv.kIn (I:Inv X pins σ H s):X.K.In s.heap:=I.ok.mod.kin.keeps I.bk
theorem Inv.nolimit (I:Inv X pins σ H s):s.heap.NoLimit:=I.ok.mod.nolimit.keeps I.bk
theorem Inv.fr (I:Inv X pins σ H s):∃m,Fr X.base X.env.locals s.heap m :=
 let ⟨m,hn,_⟩:=I.loc
 ⟨m,hn,I.bk,Nat.le_trans I.ok.bsz I.ok.above⟩
theorem Inv.lt (I:Inv X pins σ H s):X.env.locals<s.heap.objs.size:=let ⟨_,hn,_⟩:=I.loc;hn.lt
theorem Inv.sz (I:Inv X pins σ H s):X.s₀.heap.objs.size<=s.heap.objs.size:=Nat.le_trans I.ok.above (Nat.le_of_lt I.lt)
theorem Inv.nofs (I:Inv X pins σ H s){a:Addr}(h:s.heap.objs.size<=a):a∉X.fs:=λ hb=>by
 obtain⟨_,o,ho,_⟩:=I.ok.funs.mem hb
 exact absurd (Nat.lt_of_lt_of_le (Heap.lt_size ho) (Nat.le_trans I.sz h)) (Nat.lt_irrefl _)
theorem Inv.cne (I:Inv X pins σ H s):∀x c,X.env.cells.lookup x=some c->c≠X.env.locals:=λ x c e z=>by
 obtain⟨v,o,ho,hd⟩:=I.cell x c e
 obtain⟨m,⟨o',es,ep,ho',hd',_⟩,_⟩:=I.loc
 rw[z,ho'] at ho;cases ho;rw[hd'] at hd;cases hd
theorem Inv.funs (I:Inv X pins σ H s):s.heap.FunFrames X.base X.outer:=by
 have all:∀(l:List Env),(∀b∈frs l,b∈X.fs)->X.s₀.heap.FunFrames X.base l->s.heap.FunFrames X.base l:=by
  intro l
  induction l with
  | nil=>intro _ _;trivial
  | cons env r ih =>
   intro hs hl
   obtain⟨hk,⟨L,o,hf,hn,ho,hd⟩,hr⟩:=hl
   have hL:L∈X.fs:=hs L (by unfold frs;rw[List.filterMap_cons,hf];exact List.mem_cons_self)
   obtain⟨sl,e⟩:=I.base.slot L o ho (I.ok.frf L hL) hL λ z=>I.ok.exfs L z hL
   exact⟨hk,⟨L,_,hf,hn,e,hd⟩,ih (λ b hb=>hs b (by unfold frs;rw[List.filterMap_cons,hf];exact List.mem_cons_of_mem _ hb)) hr⟩
 exact all X.outer (λ _ hb=>hb) I.ok.funs
theorem Inv.stack (I:Inv X pins σ H s):s.heap.FunFrames X.base X.stack:=by
 rcases I.ok.stk with e|⟨e,hf⟩
 ·rw[e];exact I.funs
 ·rw[e]
  obtain⟨m,hn,_⟩:=I.loc
  refine .cons (by rw[I.ok.kind];decide) hf hn ?_ I.funs
  exact Heap.get?_none_of_le (Nat.le_trans I.ok.bsz I.ok.above)
theorem Inv.stkSub (I:Inv X pins σ H s):∀b∈frs X.stack,b∈X.env.locals::X.fs:=λ b hb=>by
 rcases I.ok.stk with e|⟨e,hf⟩
 ·rw[e] at hb;exact List.mem_cons_of_mem _ hb
 ·rw[e] at hb
  unfold frs at hb
  rw[List.filterMap_cons,hf] at hb
  exact hb
theorem Inv.stkFree (I:Inv X pins σ H s):∀b∈frs X.stack,H b=none:=λ b hb=>by
 rcases List.mem_cons.mp (I.stkSub b hb) with e|hb
 ·rw[e];exact I.free
 ·obtain⟨_,o,ho,_⟩:=I.ok.funs.mem hb
  exact I.base.free b o ho (I.ok.frf b hb) λ z=>I.ok.exfs b z hb
theorem Inv.step {g':Array GenState}{t':Nat}{d':Drawn}{ch:List Addr}(I:Inv X pins σ H s)
  (hch:∀b∈ch,(b∈X.ex∨X.s₀.heap.objs.size<=b)/\b≠X.env.locals/\(∀x c,X.env.cells.lookup x=some c->c≠b)/\∀p∈X.pn++pins,p.1≠b)
  (keep:∀b o,b≠X.env.locals->b∉X.fs->b∉ch->s.heap.get? b=some o->H b=none->h'.get? b=some o)
  (slot:∀b o,b≠X.env.locals->b∈X.fs->b∉ch->s.heap.get? b=some o->H b=none->∃sl,h'.get? b=some { o with slots:=sl }) (free:∀b o,b∉ch->s.heap.get? b=some o->H b=none->H' b=none)
  (there:∀b o,b∉ch->s.heap.get? b=some o->∃o',h'.get? b=some o')
  (tups:∀b xs,H b=some (.tup xs)->H' b=some (.tup xs)) (frzs:∀b o u,H b=some (.frz o u)->H' b=some (.frz o u)) (tbls:∀b ps,H b=some (.tbl ps)->∃more,H' b=some (.tbl (ps++more)))
  (ns:∀m,s.heap.Ns X.env.locals m->h'.Ns X.env.locals m) (hok:HOk X.prog X.w H' h') (hg:AllBare g') :
  Inv X pins σ H' { s with heap:=h',gens:=g',drawn:=d',toks:=t' }:=by
 have neL:∀b o,X.s₀.heap.get? b=some o->b≠X.env.locals:=λ b o e=>Nat.ne_of_lt (Nat.lt_of_lt_of_le (Heap.lt_size e) I.ok.above)
 have neC:∀b o,X.s₀.heap.get? b=some o->b∉X.ex->b∉ch:=λ b o e hx hb=>by
  rcases(hch b hb).1 with z|z
  ·exact hx z
  ·exact absurd (Nat.lt_of_lt_of_le (Heap.lt_size e) z) (Nat.lt_irrefl _)
 have cellK:∀x c,X.env.cells.lookup x=some c->∀v,s.heap.IsCell c v->h'.IsCell c v:=λ x c e v ⟨o,ho,hd⟩=>by
  have nch:c∉ch:=λ z=>(hch c z).2.2.1 x c e rfl
  by_cases hc:c∈X.fs
  ·obtain⟨sl,q⟩:=slot c o (I.cne x c e) hc nch ho (I.freeC x c e)
   exact⟨_,q,hd⟩
  ·exact⟨o,keep c o (I.cne x c e) hc nch ho (I.freeC x c e),hd⟩
 refine⟨I.ok,I.os,hg,⟨λ b o e n hb hx=>?_,λ b o e n hb hx=>?_,λ b o e n hx=>?_,λ b o e hx=>?_,λ b xs e=>tups b xs (I.base.tups b xs e),λ b o xs e=>frzs b o xs (I.base.frzs b o xs e),λ b ps e=>?_⟩,?_,λ x c e=>?_,?_,λ x c e=>?_,λ p hp=>?_,hok,I.len⟩
 ·exact keep b o (neL b o e) hb (neC b o e hx) (I.base.keep b o e n hb hx) (I.base.free b o e n hx)
 ·obtain⟨sl,e1⟩:=I.base.slot b o e n hb hx
  obtain⟨sl',e2⟩:=slot b _ (neL b o e) hb (neC b o e hx) e1 (I.base.free b o e n hx)
  exact⟨sl',e2⟩
 ·obtain⟨o',e1⟩:=I.base.there b o e hx
  exact free b o' (neC b o e hx) e1 (I.base.free b o e n hx)
 ·obtain⟨o',e1⟩:=I.base.there b o e hx
  exact there b o' (neC b o e hx) e1
 ·obtain⟨m1,e1⟩:=I.base.tbls b ps e
  obtain⟨m2,e2⟩:=tbls b _ e1
  exact⟨m1++m2,by rw[e2,Array.append_assoc]⟩
 ·obtain⟨m,hn,hl⟩:=I.loc
  refine⟨m,ns m hn,λ i x v e1 e2 e3=>?_⟩
  obtain⟨u,r,l⟩:=hl i x v e1 e2 e3
  refine⟨u,r,?_⟩
  rcases l with l|⟨k,c,e,z⟩
  ·exact .inl l
  ·exact .inr ⟨k,c,e,cellK x c e _ z⟩
 ·obtain⟨v,z⟩:=I.cell x c e
  exact⟨v,cellK x c e v z⟩
 ·obtain⟨m,⟨o,_,_,ho,_⟩,_⟩:=I.loc
  exact free _ o (λ z=>(hch _ z).2.1 rfl) ho I.free
 ·obtain⟨v,o,ho,hd⟩:=I.cell x c e
  exact free c o (λ z=>(hch c z).2.2.1 x c e rfl) ho (I.freeC x c e)
 ·obtain⟨e,n,ne,nf,d⟩:=I.pin p hp
  have nch:p.1∉ch:=λ z=>(hch p.1 z).2.2.2 p hp rfl
  exact⟨keep p.1 p.2 ne nf nch e n,free p.1 p.2 nch e n,ne,nf,d⟩
theorem Inv.un {t':Nat}(I:Inv X pins σ H s) (u:Un X.fs [] H H' s.heap h') (hok:HOk X.prog X.w H' h'):Inv X pins σ H' { s with heap:=h',toks:=t' }:=by
 obtain⟨m,⟨o,es,ep,ho,r⟩,_⟩:=id I.loc
 obtain⟨sl,hL⟩:=u.any ho I.free (by simp)
 exact I.step (g':=s.gens) (d':=s.drawn) (ch:=[]) (λ _ z=>nomatch z) (λ b o _ hb _ e n=>u.keep b o e n hb (by simp)) (λ b o _ hb _ e n=>u.slot b o e n hb (by simp)) (λ b o _ e n=>u.free b o e n (by simp)) (λ b o _ e=>u.there b o e (by simp)) u.tups u.frzs u.tbls (λ m' hm=>by
  obtain⟨o',es',ep',ho',r'⟩:=hm
  rw[ho] at ho';cases ho'
  exact⟨_,es',ep',hL,r'⟩) hok I.bare
theorem Inv.call {g':Array GenState}{t':Nat}{d':Drawn}{ch:List Addr}(I:Inv X pins σ H s) (u:Un (frs X.stack) ch H H' s.heap h') (hok:HOk X.prog X.w H' h') (hg:AllBare g')
  (hch:∀b∈ch,(b∈X.ex∨X.s₀.heap.objs.size<=b)/\b≠X.env.locals/\(∀x c,X.env.cells.lookup x=some c->c≠b)/\∀p∈X.pn++pins,p.1≠b) :
  Inv X pins σ H' { s with heap:=h',gens:=g',drawn:=d',toks:=t' }:=by
 obtain⟨m,⟨o,es,ep,ho,r⟩,_⟩:=id I.loc
 obtain⟨sl,hL⟩:=u.any ho I.free λ z=>(hch _ z).2.1 rfl
 exact I.step (ch:=ch) hch (λ b o hL hb hc e n=>u.keep b o e n (λ z=>(List.mem_cons.mp (I.stkSub b z)).elim hL hb) hc) (λ b o _ _ hc e n=>u.any e n hc) (λ b o hc e n=>u.free b o e n hc) (λ b o hc e=>u.there b o e hc) u.tups u.frzs u.tbls (λ m' hm=>by
  obtain⟨o',es',ep',ho',r'⟩:=hm
  rw[ho] at ho';cases ho'
  exact⟨_,es',ep',hL,r'⟩) hok hg
theorem Inv.turned {t':Nat}{it:Addr}(I:Inv X pins σ H s) (k:∀b o,b≠it->s.heap.get? b=some o->h'.get? b=some o) (hn:H it=none) (hL:it≠X.env.locals)
  (h1:it∈X.ex∨X.s₀.heap.objs.size<=it) (h2:∀x c,X.env.cells.lookup x=some c->c≠it) (h3:∀p∈X.pn++pins,p.1≠it):Inv X pins σ H { s with heap:=h',toks:=t' }:=by
 have nit:∀b u,H b=some u->b≠it:=λ b u e z=>by rw[z,hn] at e;cases e
 refine I.step (g':=s.gens) (d':=s.drawn) (ch:=[it]) (λ b hb=>?_) (λ b o _ _ hc e _=>k b o (λ z=>hc (by simp[z])) e) (λ b o _ _ hc e _=>⟨o.slots,k b o (λ z=>hc (by simp[z])) e⟩) (λ _ _ _ _ n=>n)
  (λ b o hc e=>⟨o,k b o (λ z=>hc (by simp[z])) e⟩) (λ _ _ e=>e) (λ _ _ _ e=>e) (λ b ps e=>⟨#[],by rw[e];simp⟩) (λ m hm=>?_) (λ b u e=>?_) I.bare
 ·have e:b=it:=by simpa using hb
  subst e
  exact⟨h1,hL,h2,h3⟩
 ·obtain⟨o,es,ep,ho,r⟩:=hm
  exact⟨o,es,ep,k _ o (Ne.symm hL) ho,r⟩
 ·refine(I.hok b u e).stay (λ c v hc q=>k c v ?_ q) (λ _ q=>q) λ _ _ q=>q
  rcases hc with z|z
  ·rw[z];exact nit b u e
  ·exact nit c _ z
theorem Inv.tok (I:Inv X pins σ H s) (t:Nat):Inv X pins σ H { s with toks:=t }:=I.un (h':=s.heap) (t':=t) Un.refl I.hok
theorem Inv.kept {t':Nat}(I:Inv X pins σ H s) (k:∀b u,s.heap.get? b=some u->h'.get? b=some u):Inv X pins σ H { s with heap:=h',toks:=t' }:=I.un (Un.kept k) (I.hok.kept k)
theorem Inv.laid {a:Addr}{o:HO}{t':Nat}(I:Inv X pins σ H s) (k:∀b u,s.heap.get? b=some u->h'.get? b=some u) (hp:s.heap.objs.size<=a) (new:Jbn X.prog X.w (upd H a o) h' a o) :
  Inv X pins σ (upd H a o) { s with heap:=h',toks:=t' }:=I.un (Un.laid k hp (I.hok.fresh hp)) (I.hok.laid k hp new)
theorem Inv.write {x e:Addr}{o:HO}{t':Nat}(I:Inv X pins σ H s) (mu:Mut (H x)) (he:e=x∨H e=some (.own x)) (k:∀b u,b≠e->s.heap.get? b=some u->h'.get? b=some u) (heo:∃u,h'.get? e=some u)
  (new:Jbn X.prog X.w (upd H x o) h' x o):Inv X pins σ (upd H x o) { s with heap:=h',toks:=t' }:=I.un (Un.write mu he k heo) (I.hok.write mu he k heo new)
theorem Inv.pins_of {pins':List (Addr×Obj)}(I:Inv X pins σ H s) (h:∀p∈pins',s.heap.get? p.1=some p.2/\H p.1=none/\p.1≠X.env.locals/\p.1∉X.fs/\∀v,p.2.data≠.cell v):Inv X pins' σ H s :=
 ⟨I.ok,I.os,I.bare,I.base,I.loc,I.cell,I.free,I.freeC,λ p hp=>(List.mem_append.mp hp).elim (λ z=>I.pin p (List.mem_append_left _ z)) (h p),I.hok,I.len⟩
theorem Jm9 {N:List Str}(hN:N.Nodup){i j:Nat}{x:Str}(a:N[i]?=some x) (b:N[j]?=some x):i=j:=by
 obtain⟨h1,e1⟩:=List.getElem?_eq_some_iff.mp a
 obtain⟨h2,e2⟩:=List.getElem?_eq_some_iff.mp b
 exact(List.getElem_inj hN).mp (e1.trans e2.symm)
theorem Jwx {M:Model}{A:Around}{E:Value->Shared->Prop}{i:Nat}{x:Str}{v:V}{u:Value}{Q:Unit->Shared->Prop}(I:Inv X pins σ H s) (hN:X.N.Nodup) (hi:X.N[i]?=some x) (hx:Loc X.env.scope x) (r:RelV v u)
  (h:∀s',Inv X pins (σ.set i (some v)) H s'->(∃a,Heap.SameBut a s.heap s'.heap/\(a=X.env.locals∨X.env.cells.lookup x=some a))->Q () s') (hf:X.fn x=true∨X.env.scope.names.lookup x=some .local:=by assumption):wpAny M A (storeName X.env x u) Q E s:=by
 obtain⟨m,hn,hl⟩:=id I.loc
 have hcls:(X.env.scope.kind==.class||(X.env.scope.kind==.module&&X.env.locals != X.env.globals))=false:=by rw[I.ok.kind];rfl
 have hiσ:i<σ.length:=by rw[I.len];exact(List.getElem?_eq_some_iff.mp hi).1
 have cne:=I.cne
 have tracked:∀{a:Addr}{h':Heap},(∃o,s.heap.get? a=some o/\H a=none)->Heap.SameBut a s.heap h'->HOk X.prog X.w H h':=λ {a h'} ha hs b ob e=>by
  obtain⟨_,_,hfree⟩:=ha
  refine(I.hok b ob e).stay (λ c w' hc q=>(hs.2 c ?_).trans q) (λ _ q=>q) λ _ _ q=>q
  rintro rfl
  rcases hc with rfl|hc
  ·rw[hfree] at e;cases e
  ·rw[hfree] at hc;cases hc
 rcases hx with hk|hk
 ·refine wpAny_storeName_local hk hn (λ h' hn' hs=>?_) hcls
  obtain⟨oL,_,_,hoL,_⟩:=id hn
  refine h _ ⟨I.ok,I.os,I.bare,⟨λ b o e n hb hx=>?_,λ b o e n hb hx=>?_,I.base.free,λ b o e hx=>?_,I.base.tups,I.base.frzs,I.base.tbls⟩,⟨_,hn',λ j y v' e1 e2 e3=>?_⟩,λ y c e=>?_,I.free,I.freeC,λ p hp=>?_,tracked ⟨oL,hoL,I.free⟩ hs,by simpa using I.len⟩ ⟨_,hs,.inl rfl⟩
  ·exact(hs.2 b (Nat.ne_of_lt (Nat.lt_of_lt_of_le (Heap.lt_size e) I.ok.above))).trans (I.base.keep b o e n hb hx)
  ·obtain⟨sl,e1⟩:=I.base.slot b o e n hb hx
   exact⟨sl,(hs.2 b (Nat.ne_of_lt (Nat.lt_of_lt_of_le (Heap.lt_size e) I.ok.above))).trans e1⟩
  ·obtain⟨o',e1⟩:=I.base.there b o e hx
   exact⟨o',(hs.2 b (Nat.ne_of_lt (Nat.lt_of_lt_of_le (Heap.lt_size e) I.ok.above))).trans e1⟩
  ·by_cases hj:j=i
   ·subst hj
    rw[hi] at e1;cases e1
    rw[List.getElem?_set_self hiσ] at e2
    cases e2
    exact⟨u,r,.inl ⟨hk,by simp⟩⟩
   ·rw[List.getElem?_set_ne (Ne.symm hj)] at e2
    obtain⟨u',r',q⟩:=hl j y v' e1 e2 e3
    refine⟨u',r',?_⟩
    rcases q with⟨k,e⟩|⟨k,c,e,z⟩
    ·refine .inl ⟨k,?_⟩
     have:y≠x:=λ e=>hj (Jm9 hN e1 (e▸hi))
     simp[this,e]
    ·exact .inr ⟨k,c,e,z.sameBut hs (cne y c e)⟩
  ·obtain⟨w',z⟩:=I.cell y c e
   exact⟨w',z.sameBut hs (cne y c e)⟩
  ·obtain⟨e,n,ne,nf,d⟩:=I.pin p hp
   exact⟨(hs.2 p.1 ne).trans e,n,ne,nf,d⟩
 ·have hfn:X.fn x=true:=by
   rcases hf with z|z
   ·exact z
   ·rw[z] at hk;cases hk
  obtain⟨c,hc⟩:=I.ok.has x (.inl hk)
  obtain⟨w',z⟩:=I.cell x c hc
  refine wpAny_storeName_cell I.ok.kind hk hc z (λ h' hc' hs=>?_)
  obtain⟨oc,hoc,hocd⟩:=id z
  refine h { s with heap:=h' } ⟨I.ok,I.os,I.bare,⟨λ b o e n hb hx=>?_,λ b o e n hb hx=>?_,I.base.free,λ b o e hx=>?_,I.base.tups,I.base.frzs,I.base.tbls⟩,⟨m,hn.sameBut hs (Ne.symm (cne x c hc)),λ j y v' e1 e2 e3=>?_⟩,λ y c' e=>?_,I.free,I.freeC,λ p hp=>?_,tracked ⟨oc,hoc,I.freeC x c hc⟩ hs,by simpa using I.len⟩ ⟨c,hs,.inr hc⟩
  ·exact(hs.2 b (Nat.ne_of_lt (Nat.lt_of_lt_of_le (Heap.lt_size e) (I.ok.cab x c hfn hc)))).trans (I.base.keep b o e n hb hx)
  ·obtain⟨sl,e1⟩:=I.base.slot b o e n hb hx
   exact⟨sl,(hs.2 b (Nat.ne_of_lt (Nat.lt_of_lt_of_le (Heap.lt_size e) (I.ok.cab x c hfn hc)))).trans e1⟩
  ·obtain⟨o',e1⟩:=I.base.there b o e hx
   exact⟨o',(hs.2 b (Nat.ne_of_lt (Nat.lt_of_lt_of_le (Heap.lt_size e) (I.ok.cab x c hfn hc)))).trans e1⟩
  ·by_cases hj:j=i
   ·subst hj
    rw[hi] at e1;cases e1
    rw[List.getElem?_set_self hiσ] at e2
    cases e2
    exact⟨u,r,.inr ⟨.inl hk,c,hc,hc'⟩⟩
   ·rw[List.getElem?_set_ne (Ne.symm hj)] at e2
    obtain⟨u',r',q⟩:=hl j y v' e1 e2 e3
    refine⟨u',r',?_⟩
    rcases q with q|⟨k,c',e,z'⟩
    ·exact .inl q
    ·refine .inr ⟨k,c',e,z'.sameBut hs ?_⟩
     rintro rfl
     exact hj (Jm9 hN e1 (I.ok.inj _ _ _ e hc▸hi))
  ·by_cases hcc:c'=c
   ·subst hcc;exact⟨_,hc'⟩
   ·obtain⟨w2,z2⟩:=I.cell y c' e
    exact⟨w2,z2.sameBut hs hcc⟩
  ·obtain⟨e,n,ne,nf,d⟩:=I.pin p hp
   refine⟨(hs.2 p.1 ?_).trans e,n,ne,nf,d⟩
   intro q
   rw[q,hoc] at e
   have q':oc=p.2:=Option.some.inj e
   exact d w' (by rw[<- q'];exact hocd)
theorem Jjj {M:Model}{A:Around}{E:Value->Shared->Prop}{i:Nat}{x:Str}{v:V}{u:Value}{Q:Unit->Shared->Prop}(I:Inv X pins σ H s) (hN:X.N.Nodup) (hi:X.N[i]?=some x) (hx:Loc X.env.scope x) (r:RelV v u)
  (h:∀s',Inv X pins (σ.set i (some v)) H s'->Q () s') (hf:X.fn x=true∨X.env.scope.names.lookup x=some .local:=by assumption):wpAny M A (storeName X.env x u) Q E s :=
 Jwx I hN hi hx r (λ s' I' _=>h s' I') hf
theorem Inv.call' {s':Shared}{ch:List Addr}(I:Inv X pins σ H s) (ho:s'.os=s.os) (u:Un (frs X.stack) ch H H' s.heap s'.heap) (hok:HOk X.prog X.w H' s'.heap) (hg:AllBare s'.gens)
  (hch:∀b∈ch,(b∈X.ex∨X.s₀.heap.objs.size<=b)/\b≠X.env.locals/\(∀x c,X.env.cells.lookup x=some c->c≠b)/\∀p∈X.pn++pins,p.1≠b):Inv X pins σ H' s':=by
 obtain⟨h',g',d',t',o'⟩:=s'
 have e:o'=s.os:=ho
 subst e
 exact I.call (g':=g') (t':=t') (d':=d') u hok hg hch
end
noncomputable abbrev XK:=Value->Option Addr->Hp->Prop
noncomputable abbrev St:=List (Option V)
noncomputable abbrev VK:=V->Hp->Prop
noncomputable abbrev TE:=St->Hp->VK->Prop
noncomputable abbrev TT:=St->Hp->(Bool->Hp->Prop)->Prop
noncomputable abbrev TA:=St->Hp->(List V->Hp->Prop)->Prop
structure Ends where
 nx:St->Hp->Prop
 rt:VK
 bk:St->Hp->Prop:=λ _ _=>False
 ct:St->Hp->Prop:=λ _ _=>False
noncomputable abbrev TS:=Ends->St->Hp->Prop
noncomputable def EP (X:Cx) (pins:List (Addr×Obj)) (σ:St) (Q:VK) (u:Value) (s':Shared):Prop:=∃v H',Inv X pins σ H' s'/\RelV v u/\Q v H'
noncomputable def TP (X:Cx) (pins:List (Addr×Obj)) (σ:St) (Q:Bool->Hp->Prop) (b:Bool) (s':Shared):Prop:=∃H',Inv X pins σ H' s'/\Q b H'
noncomputable def SP (X:Cx) (pins:List (Addr×Obj)) (D:Ends) (f:Flow) (s':Shared):Prop :=
 match f with
 | .next=>∃σ' H',Inv X pins σ' H' s'/\D.nx σ' H'
 | .brk=>∃σ' H',Inv X pins σ' H' s'/\D.bk σ' H'
 | .cont=>∃σ' H',Inv X pins σ' H' s'/\D.ct σ' H'
 | .ret u=>∃v σ' H',Inv X pins σ' H' s'/\RelV v u/\D.rt v H'
noncomputable def PE (X:Cx) (e:Expr) (t:TE):Prop :=
 ∀(pins:List (Addr×Obj)) (s:Shared) (σ:St) (H:Hp) (Q:VK),Inv X pins σ H s->t σ H Q->wpAny (model X.prog X.w) X.A (eval e X.env) (EP X pins σ Q) X.xe s
noncomputable def PT (X:Cx) (e:Expr) (t:TT):Prop :=
 ∀(pins:List (Addr×Obj)) (s:Shared) (σ:St) (H:Hp) (Q:Bool->Hp->Prop),Inv X pins σ H s->t σ H Q->wpAny (model X.prog X.w) X.A (isTrue e X.env (eval e X.env)) (TP X pins σ Q) X.xe s
noncomputable def PW (X:Cx) (e:Expr) (t:TT):Prop :=
 ∀(whole:Sem Value) (pins:List (Addr×Obj)) (s:Shared) (σ:St) (H:Hp) (Q:Bool->Hp->Prop),Inv X pins σ H s->t σ H Q->wpAny (model X.prog X.w) X.A (isTrue e X.env whole) (TP X pins σ Q) X.xe s
theorem PW.pt {X:Cx}{e:Expr}{t:TT}(h:PW X e t):PT X e t:=h _
noncomputable def PSs (X:Cx) (st:List Stmt) (t:TS):Prop :=
 ∀(pins:List (Addr×Obj)) (s:Shared) (σ:St) (H:Hp) (D:Ends),Inv X pins σ H s->t D σ H->wpAny (model X.prog X.w) X.A (execs st X.env) (SP X pins D) X.xe s
theorem thn {α:Type}{t:Sem α}{Q Q':α->Shared->Prop}{M:Model}{A:Around}{E:Value->Shared->Prop}{s:Shared}(h:wpAny M A t Q E s) (hQ:∀a s,Q a s->Q' a s):wpAny M A t Q' E s:=wpAny_mono h hQ λ _ _ x=>x
section
variable {X:Cx}
noncomputable def tVar (i:Nat):TE:=λ σ H Q=>∃v,σ[i]?=some (some v)/\Q v H
noncomputable def tC (v:V):TE:=λ _ H Q=>Q v H
theorem J6w {i:Nat}{x:Str}{pos:Pos}(hN:X.N[i]?=some x) (hv:Vis X.env.scope x) (hd:(x==("__debug__":Str))=false:=by decide) (hcd:(x==("__classdict__":Str))=false:=by decide):PE X (.Name x pos) (tVar i):=by
 intro pins s σ H Q I h
 obtain⟨v,e,h⟩:=h
 obtain⟨m,hn,hl⟩:=I.loc
 obtain⟨u,r,l⟩:=hl i x v hN e hv
 have fin:EP X pins σ Q u s:=⟨v,H,I,r,h⟩
 rcases l with⟨hk,hm⟩|⟨hk,c,hc,hcell⟩
 ·exact wpAny_Name (wpAny_loadName_local I.ok.kind hk hn hm fin) hd
 ·rcases hk with hk|hk
  ·exact wpAny_Name (wpAny_loadName_cell I.ok.kind hk hc hcell fin) hd
  ·exact wpAny_Name (wpAny_loadName_free I.ok.kind hk hc hcell fin hcd) hd
theorem J6t {i j pos}:PE X (.Constant (.int i) j pos) (tC (.int i)):=λ _ _ _ H _ I h=>wpAny_Constant_int ⟨.int i,H,I.tok _,⟨_,rfl⟩,h⟩
theorem pe_bl {b j pos}:PE X (.Constant (.bool b) j pos) (tC (.bl b)):=λ _ _ _ H _ I h=>Constant_bool ⟨.bl b,H,I,rfl,h⟩
theorem J6u {j pos}:PE X (.Constant .none j pos) (tC .non):=λ _ _ _ H _ I h=>Constant_none ⟨.non,H,I,rfl,h⟩
theorem J6v {x j pos}:PE X (.Constant (.str x) j pos) (tC (.str x)):=λ _ _ _ H _ I h=>Calls.Constant_str ⟨.str x,H,I.tok _,⟨_,rfl⟩,h⟩
noncomputable def Gl (X:Cx) (x:Str):Prop:=X.env.kindOf x=some .globalImplicit
theorem Jdv {E:Value->Shared->Prop}{pins:List (Addr×Obj)}{s:Shared}{σ:St}{H:Hp}{x:Str}{u:Value}{pos:Pos}{Q:Value->Shared->Prop}(I:Inv X pins σ H s) (hg:Gl X x) (hm:X.mg x=some u) (h:Q u s)
  (hd:(x==("__debug__":Str))=false:=by decide):wpAny (model X.prog X.w) X.A (eval (.Name x pos) X.env) Q E s :=
 Calls.Name_function_global I.ok.kind hg (Calls.loadGlobal_global (by rw[I.ok.glob];exact I.mod.glob.keeps I.bk) hm h) hd
theorem Jcp {E:Value->Shared->Prop}{pins:List (Addr×Obj)}{s:Shared}{σ:St}{H:Hp}{x:Str}{u:Value}{pos:Pos}{Q:Value->Shared->Prop}(I:Inv X pins σ H s) (hg:Gl X x) (hm:X.mg x=none) (hv:bootBuiltins x=some u) (h:Q u s)
  (hn:x≠"__name__":=by decide) (hd:(x==("__debug__":Str))=false:=by decide):wpAny (model X.prog X.w) X.A (eval (.Name x pos) X.env) Q E s:=by
 obtain⟨mb,h1,h2⟩:=I.mod.blt
 exact Calls.Name_function_global I.ok.kind hg (Calls.loadGlobal_builtin (by rw[I.ok.glob];exact I.mod.glob.keeps I.bk) hm (by rw[I.ok.blt];exact h1.keeps I.bk) ((h2 x hn).trans hv) h) hd
theorem J3f {x:Str}{v:V}{u:Value}{pos:Pos}(hg:Gl X x) (hm:X.mg x=some u) (r:RelV v u) (hd:(x==("__debug__":Str))=false:=by decide):PE X (.Name x pos) (tC v) :=
 λ _ _ _ H _ I h=>Jdv I hg hm ⟨v,H,I,r,h⟩ hd
variable {a b:Expr}{ta tb:TE}{pos:Pos}
variable {tA tB':TT}{rest:List Expr}
end
noncomputable def SqL (K:W.Frag) (H:Hp) (a:Addr) (xs:List V):Prop :=
 Rd H a (.lst xs) ∨
  ∃(o:Obj) (its:Array Value) (n:Nat),K.lookup a=some o/\o.cls=.type "list"/\o.dict=none/\o.data=.seq its n/\its.size<=sizeLine/\Vals xs its.toList
noncomputable def SqT (K:W.Frag) (H:Hp) (a:Addr) (xs:List V):Prop :=
 Rd H a (.tup xs) ∨
  ∃(o:Obj) (its:Array Value) (n:Nat),K.lookup a=some o/\o.cls=.type "tuple"/\o.data=.seq its n/\its.size<=sizeLine/\Vals xs its.toList
noncomputable def absV:Value->Option V
 | .none=>some .non
 | .bool b=>some (.bl b)
 | .int i _=>some (.int i)
 | .str x _=>some (.str x)
 | .bytes b _=>some (.byt b)
 | .float b _=>some (.flt b)
 | .ref a=>some (.ref a)
 | .type n=>some (.ty n)
 | _=>none
theorem RelV.abs {x:V}{u:Value}(r:RelV x u):absV u=some x:=by
 cases x with
 | non=>cases r;rfl
 | bl _=>cases r;rfl
 | int _=>obtain⟨t,rfl⟩:=r;rfl
 | str _=>obtain⟨t,rfl⟩:=r;rfl
 | byt _=>obtain⟨t,rfl⟩:=r;rfl
 | flt _=>obtain⟨t,rfl⟩:=r;rfl
 | ref _=>cases r;rfl
 | ty _=>cases r;rfl
theorem RelV.inj {x y:V}{u:Value}(r:RelV x u) (q:RelV y u):x=y:=Option.some.inj (r.abs.symm.trans q.abs)
theorem Vals.inj:∀{xs ys:List V}{us:List Value},Vals xs us->Vals ys us->xs=ys
 | _,_,_,.nil,.nil=>rfl
 | _,_,_,.cons r t,.cons r' t'=>by rw[r.inj r',Vals.inj t t']
section
variable {X:Cx}{pins:List (Addr×Obj)}{σ:St}{H:Hp}{s:Shared}{a:Addr}{xs ys:List V}
theorem SqL.of {K:W.Frag}(h:H a=some (.lst xs)):SqL K H a xs:=.inl (.inl h)
theorem SqT.of {K:W.Frag}(h:H a=some (.tup xs)):SqT K H a xs:=.inl (.inl h)
theorem Inv.list (I:Inv X pins σ H s) (h:SqL X.K H a xs):∃its:List Value,Vals xs its/\PlainL s.heap a its.toArray/\xs.length<=sizeLine:=by
 rcases h with h|⟨o,its,n,hk,hc,hd,hs,hz,r⟩
 ·obtain⟨z,its,n,r,e⟩:=h.ok I.hok
  exact⟨its,r,⟨_,n,e,rfl,rfl,rfl⟩,z⟩
 ·refine⟨its.toList,r,⟨o,n,I.kIn a o hk,hc,hd,by simpa using hs⟩,?_⟩
  have e:=r.length
  simp only[Array.length_toList] at e
  omega
theorem Inv.tuple (I:Inv X pins σ H s) (h:SqT X.K H a xs):∃its:List Value,Vals xs its/\IsTup s.heap a its.toArray/\xs.length<=sizeLine:=by
 rcases h with h|⟨o,its,n,hk,hc,hs,hz,r⟩
 ·obtain⟨z,its,r,p⟩:=h.ok I.hok
  exact⟨its,r,p,z⟩
 ·refine⟨its.toList,r,⟨o,I.kIn a o hk,hc,n,by simpa using hs⟩,?_⟩
  have e:=r.length
  simp only[Array.length_toList] at e
  omega
theorem Inv.list_inj (I:Inv X pins σ H s) (h:SqL X.K H a xs) (h':SqL X.K H a ys):xs=ys:=by
 obtain⟨its,r,⟨o,n,e,_,_,d⟩,_⟩:=I.list h
 obtain⟨its',r',⟨o',n',e',_,_,d'⟩,_⟩:=I.list h'
 rw[e] at e';cases e'
 rw[d] at d'
 injection d' with d1 _
 have:its=its':=by simpa using congrArg Array.toList d1
 subst this
 exact r.inj r'
theorem Inv.tuple_inj (I:Inv X pins σ H s) (h:SqT X.K H a xs) (h':SqT X.K H a ys):xs=ys:=by
 obtain⟨its,r,⟨o,e,_,n,d⟩,_⟩:=I.tuple h
 obtain⟨its',r',⟨o',e',_,n',d'⟩,_⟩:=I.tuple h'
 rw[e] at e';cases e'
 rw[d] at d'
 injection d' with d1 _
 have:its=its':=by simpa using congrArg Array.toList d1
 subst this
 exact r.inj r'
end
noncomputable abbrev Cx.wish (X:Cx) (E:Value->Shared->Prop):Cx:={ X with xe:=E }
noncomputable abbrev Cx.nox (X:Cx):Cx:=X.wish λ _ _=>False
theorem Cx.Ok.wish {X:Cx}(ok:X.Ok) (E:Value->Shared->Prop):(X.wish E).Ok :=
 ⟨ok.mod,ok.kind,ok.glob,ok.blt,ok.above,ok.inj,ok.has,ok.cab,ok.hd,ok.frames,ok.stk,ok.exf,ok.bs,ok.bsz,ok.noex,ok.exfs,ok.funs,ok.frf⟩
theorem Cx.Ok.unwish {X:Cx}{E:Value->Shared->Prop}(ok:(X.wish E).Ok):X.Ok :=
 ⟨ok.mod,ok.kind,ok.glob,ok.blt,ok.above,ok.inj,ok.has,ok.cab,ok.hd,ok.frames,ok.stk,ok.exf,ok.bs,ok.bsz,ok.noex,ok.exfs,ok.funs,ok.frf⟩
section
variable {X:Cx}{pins:List (Addr×Obj)}{σ:St}{H:Hp}{s:Shared}{E:Value->Shared->Prop}
theorem Inv.wish (I:Inv X pins σ H s) (E:Value->Shared->Prop):Inv (X.wish E) pins σ H s:=⟨I.ok.wish E,I.os,I.bare,I.base,I.loc,I.cell,I.free,I.freeC,I.pin,I.hok,I.len⟩
theorem Inv.unwish (I:Inv (X.wish E) pins σ H s):Inv X pins σ H s:=⟨I.ok.unwish,I.os,I.bare,I.base,I.loc,I.cell,I.free,I.freeC,I.pin,I.hok,I.len⟩
theorem SP.unwish {D:Ends}{f:Flow}{s':Shared}(h:SP (X.wish E) pins D f s'):SP X pins D f s':=by
 cases f with
 | next=>obtain⟨σ',H',I,q⟩:=h;exact⟨σ',H',I.unwish,q⟩
 | brk=>obtain⟨σ',H',I,q⟩:=h;exact⟨σ',H',I.unwish,q⟩
 | cont=>obtain⟨σ',H',I,q⟩:=h;exact⟨σ',H',I.unwish,q⟩
 | ret u=>obtain⟨v,σ',H',I,r,q⟩:=h;exact⟨v,σ',H',I.unwish,r,q⟩
theorem PE.nox {e:Expr}{t:TE}(h:PE X.nox e t):PE X e t:=λ pins s σ H Q I hw =>
 wpAny_mono (h pins s σ H Q (I.wish _) hw) (λ _ _ ⟨v,H',I',r,q⟩=>⟨v,H',I'.unwish,r,q⟩) λ _ _ z=>False.elim z
theorem PT.nox {e:Expr}{t:TT}(h:PT X.nox e t):PT X e t:=λ pins s σ H Q I hw =>
 wpAny_mono (h pins s σ H Q (I.wish _) hw) (λ _ _ ⟨H',I',q⟩=>⟨H',I'.unwish,q⟩) λ _ _ z=>False.elim z
theorem PSs.nox {st:List Stmt}{t:TS}(h:PSs X.nox st t):PSs X st t:=λ pins s σ H D I hw =>
 wpAny_mono (h pins s σ H D (I.wish _) hw) (λ _ _ q=>q.unwish) λ _ _ z=>False.elim z
end
section
variable {X:Cx}{st:Stmt}{rest:List Stmt}{t u:TS}{e:Expr}{te:TE}{pos:Pos}
theorem Inv.quiet {pins:List (Addr×Obj)}{σ:St}{H:Hp}{s:Shared}(I:Inv X pins σ H s):interactive X.env=false:=by simp[interactive,I.ok.kind]
end
noncomputable abbrev TSet:=V->V->V->Hp->(Hp->Prop)->Prop
noncomputable def PSet (X:Cx) (t:TSet):Prop :=
 ∀(pins:List (Addr×Obj)) (s:Shared) (σ:St) (H:Hp) (o i v:V) (ov iv u:Value) (Q:Hp->Prop),Inv X pins σ H s->RelV o ov->RelV i iv->RelV v u->t o i v H Q ->
  wpAny (model X.prog X.w) X.A (setItem ov iv u) (λ _ s'=>∃H',Inv X pins σ H' s'/\Q H') X.xe s
noncomputable abbrev TIp:=V->V->Hp->VK->Prop
section
variable {X:Cx}{pos:Pos}
noncomputable def ipI (f:Int->Int->Int):TIp:=λ x y H Q=>∃i j,x=.int i/\y=.int j/\Q (.int (f i j)) H
end
structure It where
 go:Nat->Hp->Prop
 yld:Nat->Hp->V->Hp->Prop
 stop:Nat->Hp->Prop
noncomputable def FpOk (X:Cx) (pins:List (Addr×Obj)) (H:Hp) (b:Addr):Prop :=
 H b=none/\b≠X.env.locals/\b∉X.fs/\(b∈X.ex∨X.s₀.heap.objs.size<=b)/\(∀x c,X.env.cells.lookup x=some c->c≠b)/\∀p∈X.pn++pins,p.1≠b
theorem Inv.fpOk {X:Cx}{pins:List (Addr×Obj)}{σ:St}{H H':Hp}{s:Shared}{b:Addr}(I:Inv X pins σ H s) (hb:s.heap.objs.size<=b) (hn:H' b=none):FpOk X pins H' b:=by
 refine⟨hn,Nat.ne_of_gt (Nat.lt_of_lt_of_le I.lt hb),I.nofs hb,.inr (Nat.le_trans I.sz hb),λ x c e z=>?_,λ p hp z=>?_⟩
 ·obtain⟨v,q⟩:=I.cell x c e
  exact absurd (Nat.lt_of_lt_of_le q.lt (by rw[z];exact hb)) (Nat.lt_irrefl _)
 ·exact absurd (Nat.lt_of_lt_of_le (Heap.lt_size (I.pin p hp).1) (by rw[z];exact hb)) (Nat.lt_irrefl _)
structure Turn (P:Program) (w:World) (K:W.Frag) (tg:Expr) (J:It) (fp:List Addr) (it:Addr) (tn:Nat->Heap->Prop):Prop where
 mem:it∈fp
 obj:∀i h,tn i h->∀b∈fp,∃o,h.get? b=some o/\∀v,o.data≠.cell v
 keep:∀i h h',tn i h->(∀b∈fp,∀o,h.get? b=some o->h'.get? b=some o)->tn i h'
 item:∀(X:Cx),X.prog=P->X.w=w->X.K=K->X.calm=true->∀(i:Nat) (pins:List (Addr×Obj)) (s:Shared) (σ:St) (H:Hp) (E:Value->Shared->Prop),Inv X pins σ H s->(∀b∈fp,FpOk X pins H b)->tn i s.heap->J.go i H ->
  wpAny (model P w) X.A (pyNext (.ref it)) (λ r s1=>∃u,r=some u /\
   wpAny (model P w) X.A (letOwnedTupleGo tg (.ref it) u) (λ _ s2=>∃x H',Inv X pins σ H' s2/\RelV x u/\J.yld i H x H'/\tn (i+1) s2.heap/\∀b∈fp,H' b=none) E s1) E s
 done:∀(X:Cx),X.prog=P->X.w=w->X.K=K->X.calm=true->∀(i:Nat) (pins:List (Addr×Obj)) (s:Shared) (σ:St) (H:Hp) (E:Value->Shared->Prop),Inv X pins σ H s->(∀b∈fp,FpOk X pins H b)->tn i s.heap->J.stop i H ->
  wpAny (model P w) X.A (pyNext (.ref it)) (λ r s1=>r=none/\Inv X pins σ H s1) E s
 self:∀(A:Around) (i:Nat) (s:Shared) (Q:Value->Shared->Prop) (E:Value->Shared->Prop),tn i s.heap->Q (.ref it) s->wpAny (model P w) A (pyIter (.ref it)) Q E s
noncomputable abbrev TI:=St->Hp->(It->Hp->Prop)->Prop
noncomputable def PIE (X:Cx) (pins:List (Addr×Obj)) (σ:St) (tg:Expr) (R:It->Hp->Prop) (itv:Value) (s2:Shared):Prop :=
 ∃(it:Addr) (fp:List Addr) (tn:Nat->Heap->Prop) (J:It) (H':Hp),itv=.ref it/\Inv X pins σ H' s2/\Turn X.prog X.w X.K tg J fp it tn/\tn 0 s2.heap/\(∀b∈fp,FpOk X pins H' b)/\R J H'
noncomputable def PI (X:Cx) (tg iter:Expr) (wi:TI):Prop :=
 ∀(pins:List (Addr×Obj)) (s:Shared) (σ:St) (H:Hp) (R:It->Hp->Prop),Inv X pins σ H s->wi σ H R ->
  wpAny (model X.prog X.w) X.A (eval iter X.env) (λ v s1=>wpAny (model X.prog X.w) X.A (pyIter v) (PIE X pins σ tg R) X.xe s1) X.xe s
theorem Jyo {M:Model}{A:Around}{E:Value->Shared->Prop}{s:Shared}{tg:Expr}{it:Addr}{u:Value}{o:Obj}{n:String}{vs:Array Value}{Q:Unit->Shared->Prop}(ho:s.heap.get? it=some o) (hc:o.cls=.type n) (hd:o.data=.fields vs)
  (hn:["enumerate","zip","dict_itemiterator","dict_reverseitemiterator","odict_iterator","itertools.zip_longest","itertools.pairwise"].contains n=false) (hQ:Q () s):wpAny M A (letOwnedTupleGo tg (.ref it) u) Q E s:=by
 unfold letOwnedTupleGo
 cases tg<;>first
  | exact wpAny_pure hQ
  | (cases u<;>first
    | exact wpAny_pure hQ
    | (refine wpAny_bind (wpAny_load ho ?_)
       rw[hc,hd]
       show wpAny M A (if (["enumerate","zip","dict_itemiterator","dict_reverseitemiterator","odict_iterator","itertools.zip_longest","itertools.pairwise"].contains n&&vs[0]?==some (rawInt _))=true then _ else _) Q E s
       rw[if_neg (by intro h;rw[hn,Bool.false_and] at h;cases h)]
       exact wpAny_pure hQ))
noncomputable def Itl (K:W.Frag) (a:Addr):It :=
 ⟨λ i H=>∃xs x,SqL K H a xs/\xs[i]?=some x,λ i H x H'=>H'=H/\∀xs,SqL K H a xs->xs[i]?=some x,λ i H=>∃xs,SqL K H a xs/\xs.length<=i⟩
noncomputable def Itt (K:W.Frag) (a:Addr):It :=
 ⟨λ i H=>∃xs x,SqT K H a xs/\xs[i]?=some x,λ i H x H'=>H'=H/\∀xs,SqT K H a xs->xs[i]?=some x,λ i H=>∃xs,SqT K H a xs/\xs.length<=i⟩
noncomputable def Itr (lo:Int) (n:Nat):It:=⟨λ i _=>i<n,λ i H x H'=>H'=H/\x=.int (lo+i),λ i _=>n<=i⟩
theorem Jpz {P:Program}{w:World}{K:W.Frag}{tg:Expr}(a it:Addr):Turn P w K tg (Itl K a) [it] it (λ i h=>h.IsListIter it a i) where
 mem:=by simp
 obj:=λ i h st b hb=>by
  have e:b=it:=by simpa using hb
  subst e
  obtain⟨o,e,c,d⟩:=st
  exact⟨o,e,λ v z=>by rw[d] at z;cases z⟩
 keep:=λ i h h' st k=>st.at λ o e=>k it (by simp) o e
 item:=by
  intro X hP hw hK hc i pins s σ H E I hf st hg
  subst hP hw hK
  obtain⟨xs,x,hq,hx⟩:=hg
  obtain⟨its,rv,p,hz⟩:=I.list hq
  obtain⟨u,hu,ru⟩:=rv.get hx
  obtain⟨f0,f1,f2,f3,f4,f5⟩:=hf it (by simp)
  refine wpAny_pyNext_list_item st p.isList (x:=u) (by simpa using hu) λ h' st' sb=>?_
  have I1:Inv X pins σ H { s with heap:=h' }:=I.turned (t':=s.toks) (λ b o hb e=>(sb.2 b hb).trans e) f0 f1 f3 f4 f5
  obtain⟨o,e,c,d⟩:=id st'
  exact⟨u,rfl,Jyo (s:={ s with heap:=h' }) e c d (by decide) ⟨x,H,I1,ru,⟨rfl,λ ys hy=>by rw[I.list_inj hy hq];exact hx⟩,st',λ b hb=>(hf b hb).1⟩⟩
 done:=by
  intro X hP hw hK hc i pins s σ H E I hf st hg
  subst hP hw hK
  obtain⟨xs,hq,hx⟩:=hg
  obtain⟨its,rv,p,hz⟩:=I.list hq
  obtain⟨f0,f1,f2,f3,f4,f5⟩:=hf it (by simp)
  have hl:=rv.length
  exact wpAny_pyNext_list_end (I.ok.hd hc) st p.isList (by simp;omega) λ h' eb=>⟨rfl,I.turned (t':=s.toks) (λ b o hb e=>eb b o hb e) f0 f1 f3 f4 f5⟩
 self:=λ _ _ _ _ _ st h=>wpAny_pyIter_listiter st h
theorem Jud {P:Program}{w:World}{K:W.Frag}{tg:Expr}(a it:Addr):Turn P w K tg (Itt K a) [it] it (λ i h=>h.IsTupleIter it a i) where
 mem:=by simp
 obj:=λ i h st b hb=>by
  have e:b=it:=by simpa using hb
  subst e
  obtain⟨o,e,c,d⟩:=st
  exact⟨o,e,λ v z=>by rw[d] at z;cases z⟩
 keep:=λ i h h' st k=>st.at λ o e=>k it (by simp) o e
 item:=by
  intro X hP hw hK hc i pins s σ H E I hf st hg
  subst hP hw hK
  obtain⟨xs,x,hq,hx⟩:=hg
  obtain⟨its,rv,p,hz⟩:=I.tuple hq
  obtain⟨u,hu,ru⟩:=rv.get hx
  obtain⟨f0,f1,f2,f3,f4,f5⟩:=hf it (by simp)
  refine wpAny_pyNext_tuple_item st (show s.heap.IsTuple a its.toArray from p) (x:=u) (by simpa using hu) λ h' st' sb=>?_
  have I1:Inv X pins σ H { s with heap:=h' }:=I.turned (t':=s.toks) (λ b o hb e=>(sb.2 b hb).trans e) f0 f1 f3 f4 f5
  obtain⟨o,e,c,d⟩:=id st'
  exact⟨u,rfl,Jyo (s:={ s with heap:=h' }) e c d (by decide) ⟨x,H,I1,ru,⟨rfl,λ ys hy=>by rw[I.tuple_inj hy hq];exact hx⟩,st',λ b hb=>(hf b hb).1⟩⟩
 done:=by
  intro X hP hw hK hc i pins s σ H E I hf st hg
  subst hP hw hK
  obtain⟨xs,hq,hx⟩:=hg
  obtain⟨its,rv,p,hz⟩:=I.tuple hq
  obtain⟨f0,f1,f2,f3,f4,f5⟩:=hf it (by simp)
  have hl:=rv.length
  exact wpAny_pyNext_tuple_end (I.ok.hd hc) st (show s.heap.IsTuple a its.toArray from p) (by simp;omega) λ h' eb=>⟨rfl,I.turned (t':=s.toks) (λ b o hb e=>eb b o hb e) f0 f1 f3 f4 f5⟩
 self:=λ _ _ _ _ _ st h=>wpAny_pyIter_tupleiter st h
theorem Juc {P:Program}{w:World}{K:W.Frag}{tg:Expr}(it:Addr) (lo:Int) (n:Nat):Turn P w K tg (Itr lo n) [it] it (λ i h=>IsRangeIter h it (lo+(i:Nat)*1) ((n:Int)-(i:Nat)) 1) where
 mem:=by simp
 obj:=λ i h st b hb=>by
  have e:b=it:=by simpa using hb
  subst e
  exact⟨_,st,λ v z=>by
   have z':Data.fields _=Data.cell v:=z
   cases z'⟩
 keep:=λ i h h' st k=>k it (by simp) _ st
 item:=by
  intro X hP hw hK hc i pins s σ H E I hf st hg
  subst hP hw hK
  obtain⟨f0,f1,f2,f3,f4,f5⟩:=hf it (by simp)
  have W:=Walks.range (prog:=X.prog) (w:=X.w) (I.ok.hd hc) it lo 1 n
  refine W.item i s _ _ hg st λ v h' tk hv st' kk=>?_
  obtain⟨t,rfl⟩:=hv
  have I1:Inv X pins σ H { s with heap:=h',toks:=tk }:=I.turned (λ b o hb e=>kk b o (by simpa using hb) e) f0 f1 f3 f4 f5
  refine⟨_,rfl,Jyo (s:={ s with heap:=h',toks:=tk }) (n:="range_iterator") st' rfl rfl (by decide) ⟨.int (lo+i),H,I1,⟨t,?_⟩,⟨rfl,rfl⟩,st',λ b hb=>(hf b hb).1⟩⟩
  rw[Int.mul_one]
 done:=by
  intro X hP hw hK hc i pins s σ H E I hf st hg
  subst hP hw hK
  obtain⟨f0,f1,f2,f3,f4,f5⟩:=hf it (by simp)
  exact wpAny_pyNext_range_end (I.ok.hd hc) st (by have:n<=i:=hg;omega) λ h' eb=>⟨rfl,I.turned (t':=s.toks) (λ b o hb e=>eb b o hb e) f0 f1 f3 f4 f5⟩
 self:=λ _ _ _ _ _ st h=>wpAny_pyIter_rangeiter st h
section
variable {X:Cx}{tg:Expr}
theorem Jzq {pins:List (Addr×Obj)}{σ:St}{H:Hp}{s:Shared}{R:It->Hp->Prop}{E:Value->Shared->Prop}{lo hi:Int}{t u v:Tok}{tk:Nat}(I:Inv X pins σ H s) (h1: -(2^62)<=lo) (h2:lo<2^62) (h3: -(2^62)<=hi) (h4:hi<2^62)
  (q:R (Itr lo (hi-lo).toNat) H):wpAny (model X.prog X.w) X.A (pyIter (.ref s.heap.objs.size)) (PIE X pins σ tg R) E { s with heap:=s.heap.push { cls:=.type "range",data:=.fields #[.int lo t,.int hi u,.int 1 v] },toks:=tk }:=by
 refine wpAny_pyIter_range (IsRange.new ..) (small_one h1 h2 h3 h4) ?_
 have I1:Inv X pins σ H { s with heap:=s.heap.push { cls:=.type "range",data:=.fields #[.int lo t,.int hi u,.int 1 v] },toks:=tk }:=I.kept λ b o e=>Heap.get?_push_of_some _ e
 refine⟨(s.heap.push { cls:=.type "range",data:=.fields #[.int lo t,.int hi u,.int 1 v] }).objs.size,[(s.heap.push { cls:=.type "range",data:=.fields #[.int lo t,.int hi u,.int 1 v] }).objs.size],_,_,H,rfl,
  I1.kept (t':=tk) λ b o e=>Heap.get?_push_of_some _ e,Juc _ lo (hi-lo).toNat,?_,λ b hb=>?_,q⟩
 ·have e1:lo+((0:Nat):Int)*1=lo:=by simp
  have e2:(((hi-lo).toNat:Nat):Int)-((0:Nat):Int)=Builtin.Range.rangeSize lo hi 1:=by rw[rangeSize_one];split<;>omega
  show IsRangeIter _ _ (lo+((0:Nat):Int)*1) ((((hi-lo).toNat:Nat):Int)-((0:Nat):Int)) 1
  rw[e1,e2]
  exact Heap.get?_push_size _ rfl
 ·have e:b=(s.heap.push { cls:=.type "range",data:=.fields #[.int lo t,.int hi u,.int 1 v] }).objs.size:=by simpa using hb
  subst e
  exact I1.fpOk (Nat.le_refl _) (I1.hok.fresh (Nat.le_refl _))
noncomputable def Jd4 (fp:List Addr) (h:Heap):List (Addr×Obj):=fp.filterMap λ b=>(h.get? b).map λ o=>(b,o)
theorem Jcr {fp:List Addr}{h:Heap}{b:Addr}{o:Obj}(hb:b∈fp) (e:h.get? b=some o):(b,o)∈Jd4 fp h:=List.mem_filterMap.mpr ⟨b,hb,by rw[e];rfl⟩
theorem Jwk {fp:List Addr}{h:Heap}{p:Addr×Obj}(hp:p∈Jd4 fp h):p.1∈fp/\h.get? p.1=some p.2:=by
 obtain⟨b,hb,e⟩:=List.mem_filterMap.mp hp
 cases q:h.get? b with
 | none=>rw[q] at e;cases e
 | some o =>
  rw[q] at e
  have e':(b,o)=p:=Option.some.inj e
  subst e'
  exact⟨hb,q⟩
theorem Inv.pinned {pins:List (Addr×Obj)}{σ:St}{H:Hp}{s:Shared}{fp:List Addr}(I:Inv X pins σ H s) (hf:∀b∈fp,FpOk X pins H b) (ho:∀b∈fp,∃o,s.heap.get? b=some o/\∀v,o.data≠.cell v):Inv X (pins++Jd4 fp s.heap) σ H s :=
 I.pins_of λ p hp=>(List.mem_append.mp hp).elim (λ z=>I.pin p (List.mem_append_right _ z)) λ z=>by
  obtain⟨hb,e⟩:=Jwk z
  obtain⟨f0,f1,f2,_⟩:=hf p.1 hb
  obtain⟨o,e',d⟩:=ho p.1 hb
  rw[e] at e';cases e'
  exact⟨e,f0,f1,f2,d⟩
theorem Inv.unpinned {pins pl:List (Addr×Obj)}{σ:St}{H:Hp}{s:Shared}(I:Inv X (pins++pl) σ H s):Inv X pins σ H s:=I.pins_of λ p hp=>I.pin p (List.mem_append_right _ (List.mem_append_left _ hp))
end
noncomputable abbrev R2:=V->V->Hp->VK->Prop
noncomputable def OpR (X:Cx) (f:Value->Value->Sem Value) (r:R2):Prop :=
 ∀(pins:List (Addr×Obj)) (s:Shared) (σ:St) (H:Hp) (x y:V) (v u:Value) (Q:VK),Inv X pins σ H s->RelV x v->RelV y u->r x y H Q ->
  wpAny (model X.prog X.w) X.A (f v u) (EP X pins σ Q) X.xe s
noncomputable def UnR (X:Cx) (f:Value->Sem Value) (r:V->Hp->VK->Prop):Prop :=
 ∀(pins:List (Addr×Obj)) (s:Shared) (σ:St) (H:Hp) (x:V) (v:Value) (Q:VK),Inv X pins σ H s->RelV x v->r x H Q ->
  wpAny (model X.prog X.w) X.A (f v) (EP X pins σ Q) X.xe s
noncomputable def Jsn (X:Cx) (f:Value) (r:List V->Hp->VK->Prop):Prop :=
 ∀(pins:List (Addr×Obj)) (s:Shared) (σ:St) (H:Hp) (xs:List V) (us:List Value) (Q:VK),Inv X pins σ H s->Vals xs us->r xs H Q ->
  wpAny (model X.prog X.w) X.A (call f us) (EP X pins σ Q) X.xe s
noncomputable def TruR (X:Cx) (r:V->Hp->(Bool->Hp->Prop)->Prop):Prop :=
 ∀(pins:List (Addr×Obj)) (s:Shared) (σ:St) (H:Hp) (x:V) (v:Value) (Q:Bool->Hp->Prop),Inv X pins σ H s->RelV x v->r x H Q ->
  wpAny (model X.prog X.w) X.A (truthy v) (TP X pins σ Q) X.xe s
noncomputable def rI (C:Int->Int->Prop) (g:Int->Int->V):R2:=λ x y H Q=>∃i j,x=.int i/\y=.int j/\C i j/\Q (g i j) H
noncomputable def rI0 (g:Int->Int->V):R2:=λ x y H Q=>∃i j,x=.int i/\y=.int j/\Q (g i j) H
noncomputable def rU (g:Int->V):V->Hp->VK->Prop:=λ x H Q=>∃i,x=.int i/\Q (g i) H
section
variable {X:Cx}{a b c:Expr}{ta tb tc:TE}{pos:Pos}
theorem opI {f:Value->Value->Sem Value}{C:Int->Int->Prop}{g:Int->Int->Int}
  (rule:∀(i j:Int) (t u:Tok) (s:Shared) (Q:Value->Shared->Prop) (E:Value->Shared->Prop),C i j->Q (.int (g i j) s.toks) { s with toks:=s.toks+1 }->wpAny (model X.prog X.w) X.A (f (.int i t) (.int j u)) Q E s) :
  OpR X f (rI C λ i j=>.int (g i j)):=by
 intro pins s σ H x y v u Q I rx ry h
 obtain⟨i,j,rfl,rfl,hc,q⟩:=h
 obtain⟨t,rfl⟩:=rx
 obtain⟨t',rfl⟩:=ry
 exact rule i j t t' s _ _ hc ⟨.int (g i j),H,I.tok _,⟨_,rfl⟩,q⟩
theorem opI0 {f:Value->Value->Sem Value}{g:Int->Int->Int}
  (rule:∀(i j:Int) (t u:Tok) (s:Shared) (Q:Value->Shared->Prop) (E:Value->Shared->Prop),Q (.int (g i j) s.toks) { s with toks:=s.toks+1 }->wpAny (model X.prog X.w) X.A (f (.int i t) (.int j u)) Q E s) :
  OpR X f (rI0 λ i j=>.int (g i j)):=by
 intro pins s σ H x y v u Q I rx ry h
 obtain⟨i,j,rfl,rfl,q⟩:=h
 obtain⟨t,rfl⟩:=rx
 obtain⟨t',rfl⟩:=ry
 exact rule i j t t' s _ _ ⟨.int (g i j),H,I.tok _,⟨_,rfl⟩,q⟩
theorem opB0 {f:Value->Value->Sem Value}{g:Int->Int->Bool}
  (rule:∀(i j:Int) (t u:Tok) (s:Shared) (Q:Value->Shared->Prop) (E:Value->Shared->Prop),Q (.bool (g i j)) s->wpAny (model X.prog X.w) X.A (f (.int i t) (.int j u)) Q E s) :
  OpR X f (rI0 λ i j=>.bl (g i j)):=by
 intro pins s σ H x y v u Q I rx ry h
 obtain⟨i,j,rfl,rfl,q⟩:=h
 obtain⟨t,rfl⟩:=rx
 obtain⟨t',rfl⟩:=ry
 exact rule i j t t' s _ _ ⟨.bl (g i j),H,I,rfl,q⟩
noncomputable def CPow (i j:Int):Prop:=0<=j/\j<=1000000/\i.natAbs<2^64
noncomputable def CMul (i j:Int):Prop:=(-(2^64)<i/\i<2^64)∨(-(2^64)<j/\j<2^64)
theorem CMul.ok {i j:Int}(h:CMul i j):IntMulOk i j:=by
 rcases h with⟨h1,h2⟩|⟨h1,h2⟩
 ·exact .of_left (intBits_le_64 h1 h2)
 ·exact .of_right (intBits_le_64 h1 h2)
theorem J6l:OpR X (binaryOp .Add) (rI0 λ i j=>.int (i+j)):=opI0 λ _ _ _ _ _ _ _ q=>add_int q
theorem J6q:OpR X (binaryOp .Sub) (rI0 λ i j=>.int (i-j)):=opI0 λ _ _ _ _ _ _ _ q=>sub_int q
theorem J6n:OpR X (binaryOp .Mod) (rI (λ _ j=>0<j) λ i j=>.int (i%j)):=opI λ i j _ _ _ _ _ hc q=>by
 have h1:(0:Int)<j:=hc
 exact mod_int' (by omega) (by rw[Int.fmod_eq_emod_of_nonneg i (by omega)];exact q)
theorem J6o:OpR X (binaryOp .Pow) (rI CPow λ i j=>.int (i^j.toNat)):=opI λ _ _ _ _ _ _ _ hc q=>pow_int_small hc.1 hc.2.1 hc.2.2 q
theorem unI {f:Value->Sem Value}{g:Int->Int}
  (rule:∀(i:Int) (t:Tok) (s:Shared) (Q:Value->Shared->Prop) (E:Value->Shared->Prop),Q (.int (g i) s.toks) { s with toks:=s.toks+1 }->wpAny (model X.prog X.w) X.A (f (.int i t)) Q E s) :
  UnR X f (rU λ i=>.int (g i)):=by
 intro pins s σ H x v Q I rx h
 obtain⟨i,rfl,q⟩:=h
 obtain⟨t,rfl⟩:=rx
 exact rule i t s _ _ ⟨.int (g i),H,I.tok _,⟨_,rfl⟩,q⟩
theorem J7n:UnR X (unaryOp .USub) (rU λ i=>.int (-i)):=unI λ _ _ _ _ _ q=>neg_int q
end
noncomputable def scal:V->V->Bool
 | .non,.non=>true|.non,.int _=>true|.int _,.non=>true|.non,.bl _=>true|.bl _,.non=>true|.non,.str _=>true|.str _,.non=>true
 | .int _,.int _=>true|.bl _,.bl _=>true|.str _,.str _=>true|.byt _,.byt _=>true
 | .int _,.str _=>true|.str _,.int _=>true|.bl _,.str _=>true|.str _,.bl _=>true
 | _,_=>false
noncomputable def rEq:R2:=λ x y H Q=>scal x y=true/\Q (.bl (decide (x=y))) H
noncomputable def rNe:R2:=λ x y H Q=>scal x y=true/\Q (.bl (!decide (x=y))) H
theorem Ju6 {i j:Int}:decide (V.int i=V.int j)=(i==j):=by
 rw[Bool.eq_iff_iff]
 simp
theorem J0w {i j:Bool}:decide (V.bl i=V.bl j)=(i==j):=by
 rw[Bool.eq_iff_iff]
 simp
theorem Ju7 {i j:Str}:decide (V.str i=V.str j)=(i==j):=by
 rw[Bool.eq_iff_iff]
 simp
theorem Ju5 {i j:Array UInt8}:decide (V.byt i=V.byt j)=(i.toList==j.toList):=by
 rw[Bool.eq_iff_iff]
 cases i
 cases j
 simp
section
variable {X:Cx}{a b c:Expr}{ta tb tc:TE}{pos:Pos}
theorem Js {pins:List (Addr×Obj)}{σ:St}{H:Hp}{s:Shared}{Q:VK}{k k':Bool}(I:Inv X pins σ H s) (q:Q (.bl k) H) (e:k=k'):EP X pins σ Q (.bool k') s:=by
 subst e
 exact⟨.bl k,H,I,rfl,q⟩
theorem op_eq:OpR X (compareOp .Eq) rEq:=by
 intro pins s σ H x y v u Q I rx ry h
 obtain⟨hs,q⟩:=h
 cases x with
 | non =>
  cases rx
  cases y with
  | non=>cases ry;exact PySem.EqNone.eq_none_none (Js I q (by simp))
  | bl j=>cases ry;exact PySem.EqNone.eq_none_bool (Js I q (by simp))
  | int j=>obtain⟨t',rfl⟩:=ry;exact PySem.EqNone.eq_none_int (Js I q (by simp))
  | str j=>obtain⟨t',rfl⟩:=ry;exact PySem.EqNone.eq_none_str (Js I q (by simp))
  | _=>exact absurd (show false=true from hs) Bool.false_ne_true
 | bl i =>
  cases rx
  cases y with
  | non=>cases ry;exact PySem.EqNone.eq_bool_none (Js I q (by simp))
  | bl j=>cases ry;exact eq_bool (Js I q J0w)
  | str j=>obtain⟨t',rfl⟩:=ry;exact PySem.EqMixed.eq_bool_str (Js I q (by simp))
  | _=>exact absurd (show false=true from hs) Bool.false_ne_true
 | int i =>
  obtain⟨t,rfl⟩:=rx
  cases y with
  | non=>cases ry;exact PySem.EqNone.eq_int_none (Js I q (by simp))
  | int j=>obtain⟨t',rfl⟩:=ry;exact eq_int (Js I q Ju6)
  | str j=>obtain⟨t',rfl⟩:=ry;exact PySem.EqMixed.eq_int_str (Js I q (by simp))
  | _=>exact absurd (show false=true from hs) Bool.false_ne_true
 | str i =>
  obtain⟨t,rfl⟩:=rx
  cases y with
  | non=>cases ry;exact PySem.EqNone.eq_str_none (Js I q (by simp))
  | bl j=>cases ry;exact PySem.EqMixed.eq_str_bool (Js I q (by simp))
  | int j=>obtain⟨t',rfl⟩:=ry;exact PySem.EqMixed.eq_str_int (Js I q (by simp))
  | str j=>obtain⟨t',rfl⟩:=ry;exact eq_str (Js I q Ju7)
  | _=>exact absurd (show false=true from hs) Bool.false_ne_true
 | byt i =>
  obtain⟨t,rfl⟩:=rx
  cases y with
  | byt j=>obtain⟨t',rfl⟩:=ry;exact W.eq_bytes (Js I q Ju5)
  | _=>exact absurd (show false=true from hs) Bool.false_ne_true
 | _=>cases y<;>exact absurd (show false=true from hs) Bool.false_ne_true
theorem op_ne:OpR X (compareOp .NotEq) rNe:=by
 intro pins s σ H x y v u Q I rx ry h
 obtain⟨hs,q⟩:=h
 cases x with
 | non =>
  cases rx
  cases y with
  | non=>cases ry;exact PySem.EqNone.ne_none_none (Js I q (by simp))
  | bl j=>cases ry;exact PySem.EqNone.ne_none_bool (Js I q (by simp))
  | int j=>obtain⟨t',rfl⟩:=ry;exact PySem.EqNone.ne_none_int (Js I q (by simp))
  | str j=>obtain⟨t',rfl⟩:=ry;exact PySem.EqNone.ne_none_str (Js I q (by simp))
  | _=>exact absurd (show false=true from hs) Bool.false_ne_true
 | bl i =>
  cases rx
  cases y with
  | non=>cases ry;exact PySem.EqNone.ne_bool_none (Js I q (by simp))
  | bl j=>cases ry;exact ne_bool (Js I q (congrArg not J0w))
  | str j=>obtain⟨t',rfl⟩:=ry;exact PySem.EqMixed.ne_bool_str (Js I q (by simp))
  | _=>exact absurd (show false=true from hs) Bool.false_ne_true
 | int i =>
  obtain⟨t,rfl⟩:=rx
  cases y with
  | non=>cases ry;exact PySem.EqNone.ne_int_none (Js I q (by simp))
  | int j=>obtain⟨t',rfl⟩:=ry;exact ne_int (Js I q (congrArg not Ju6))
  | str j=>obtain⟨t',rfl⟩:=ry;exact PySem.EqMixed.ne_int_str (Js I q (by simp))
  | _=>exact absurd (show false=true from hs) Bool.false_ne_true
 | str i =>
  obtain⟨t,rfl⟩:=rx
  cases y with
  | non=>cases ry;exact PySem.EqNone.ne_str_none (Js I q (by simp))
  | bl j=>cases ry;exact PySem.EqMixed.ne_str_bool (Js I q (by simp))
  | int j=>obtain⟨t',rfl⟩:=ry;exact PySem.EqMixed.ne_str_int (Js I q (by simp))
  | str j=>obtain⟨t',rfl⟩:=ry;exact ne_str (Js I q (congrArg not Ju7))
  | _=>exact absurd (show false=true from hs) Bool.false_ne_true
 | byt i =>
  obtain⟨t,rfl⟩:=rx
  cases y with
  | byt j=>obtain⟨t',rfl⟩:=ry;exact W.ne_bytes (Js I q (congrArg not Ju5))
  | _=>exact absurd (show false=true from hs) Bool.false_ne_true
 | _=>cases y<;>exact absurd (show false=true from hs) Bool.false_ne_true
theorem op_lt:OpR X (compareOp .Lt) (rI0 λ i j=>.bl (decide (i<j))):=opB0 λ _ _ _ _ _ _ _ q=>lt_int q
theorem op_le:OpR X (compareOp .LtE) (rI0 λ i j=>.bl (decide (i<=j))):=opB0 λ _ _ _ _ _ _ _ q=>le_int q
theorem op_gt:OpR X (compareOp .Gt) (rI0 λ i j=>.bl (decide (j<i))):=opB0 λ _ _ _ _ _ _ _ q=>gt_int q
theorem op_ge:OpR X (compareOp .GtE) (rI0 λ i j=>.bl (decide (j<=i))):=opB0 λ _ _ _ _ _ _ _ q=>ge_int q
theorem Jwm:OpR X (compareOp .Lt) (λ x y H Q=>∃i j,x=.str i/\y=.str j/\Q (.bl (decide (i.cps.toList<j.cps.toList))) H):=by
 intro pins s σ H x y v u Q I rx ry h
 obtain⟨i,j,rfl,rfl,q⟩:=h
 obtain⟨t,rfl⟩:=rx
 obtain⟨t',rfl⟩:=ry
 exact lt_str (Js I q rfl)
theorem nomark (b:Expr){op:CmpOp}(h:op≠.In:=by decide) (h2:op≠.NotIn:=by decide):behindInMarks op b=false:=by
 have e1:(op==CmpOp.In)=false:=by cases op<;>first|rfl|exact absurd rfl h
 have e2:(op==CmpOp.NotIn)=false:=by cases op<;>first|rfl|exact absurd rfl h2
 cases b<;>simp[behindInMarks,e1,e2]
noncomputable def TruV (K:W.Frag) (x:V) (H:Hp) (k:Bool):Prop :=
 match x with
 | .non=>k=false
 | .bl b=>k=b
 | .int i=>k=(i != 0)
 | .str y=>y.length<=sizeLine/\k=((y.length:Int) != 0)
 | .byt y=>y.size<=sizeLine/\k=((y.size:Int) != 0)
 | .ref p=>(∃xs,SqL K H p xs/\k=!xs.isEmpty)∨(∃xs,SqT K H p xs/\k=!xs.isEmpty)∨∃kvs,H p=some (.dK kvs)/\k=!kvs.isEmpty
 | _=>False
theorem Js6 {κ:Type}{kvs:List (κ×V)}{vs:List (κ×Value)}(r:KV kvs vs):(!vs.isEmpty)=!kvs.isEmpty:=by
 cases r<;>rfl
theorem Jlp {xs:List V}{its:List Value}(r:Vals xs its):(!its.toArray.isEmpty)=!xs.isEmpty:=by
 cases r<;>simp
theorem Jlt:(sizeLine:Nat)<2^63:=by rw[sizeLine_eq];decide
theorem Ji0:TruR X (λ x H Q=>∃k,TruV X.K x H k/\Q k H):=by
 intro pins s σ H x v Q I rx h
 obtain⟨k,e,q⟩:=h
 have hl:=Jlt
 have hs:sizeLine=16777216:=sizeLine_eq
 cases x with
 | non =>
  cases rx
  have e':k=false:=e
  subst e'
  exact truthy_none ⟨H,I,q⟩
 | bl b =>
  cases rx
  have e':k=b:=e
  subst e'
  exact wpAny_truthy_bool ⟨H,I,q⟩
 | int i =>
  obtain⟨t,rfl⟩:=rx
  have e':k=(i != 0):=e
  subst e'
  exact PySem.P.truthy_int ⟨H,I,q⟩
 | str y =>
  obtain⟨t,rfl⟩:=rx
  obtain⟨hy,e'⟩:y.length<=sizeLine/\k=((y.length:Int) != 0):=e
  subst e'
  exact PySem.P.truthy_str (by omega) ⟨H,I.tok _,q⟩
 | byt y =>
  obtain⟨t,rfl⟩:=rx
  obtain⟨hy,e'⟩:y.size<=sizeLine/\k=((y.size:Int) != 0):=e
  subst e'
  exact W.truthy_bytes (by omega) ⟨H,I.tok _,q⟩
 | ref p =>
  cases rx
  have e':(∃xs,SqL X.K H p xs/\k=!xs.isEmpty)∨(∃xs,SqT X.K H p xs/\k=!xs.isEmpty)∨∃kvs,H p=some (.dK kvs)/\k=!kvs.isEmpty:=e
  rcases e' with⟨xs,hx,e'⟩|⟨xs,hx,e'⟩|⟨kvs,hx,e'⟩
  ·subst e'
   obtain⟨its,r,pl,hz⟩:=I.list hx
   have hlen:=r.length
   exact wpAny_truthy_list pl.isList (by simp only[List.size_toArray];omega) ⟨H,I.tok _,by rw[Jlp r];exact q⟩
  ·subst e'
   obtain⟨its,r,pl,hz⟩:=I.tuple hx
   have hlen:=r.length
   exact truthy_tuple pl (by simp only[List.size_toArray];omega) ⟨H,I.tok _,by rw[Jlp r];exact q⟩
  ·subst e'
   obtain⟨hz,hS,vs,r,m⟩:kvs.length<=sizeLine/\(p==sysModules)=false/\∃vs,KV kvs vs/\s.heap.DictOf (Jbc X.prog X.w) p vs:=I.hok p _ hx
   have hlen:kvs.length=vs.length:=Paired.length r
   exact wpAny_truthy_dict hS m (by omega) ⟨H,I.tok _,by rw[Js6 r];exact q⟩
 | _=>exact Zf e
theorem Jts:OpR X (binaryOp .Add) (λ x y H Q=>∃i j,x=.str i/\y=.str j/\i.length+j.length<=sizeLine/\Q (.str (i++j)) H):=by
 intro pins s σ H x y v u Q I rx ry h
 obtain⟨i,j,rfl,rfl,hz,q⟩:=h
 obtain⟨t,rfl⟩:=rx
 obtain⟨t',rfl⟩:=ry
 exact add_str (λ t' tk=>⟨.str (i++j),H,I.tok _,⟨_,rfl⟩,q⟩) hz
theorem Jnq {x:V}{us:List Value}(r:Vals [x] us):∃u,us=[u]/\RelV x u:=by
 cases r with
 | cons r1 r2=>cases r2;exact⟨_,rfl,r1⟩
theorem J7r {x y:V}{us:List Value}(r:Vals [x,y] us):∃u w',us=[u,w']/\RelV x u/\RelV y w':=by
 cases r with
 | cons r1 r2 =>
  cases r2 with
  | cons r3 r4=>cases r4;exact⟨_,_,rfl,r1,r3⟩
theorem Juz (hc:X.calm=true):Jsn X (.builtin "max") (λ xs H Q=>∃i j,xs=[.int i,.int j]/\Q (.int (if j>i then j else i)) H):=by
 intro pins s σ H xs us Q I r h
 obtain⟨i,j,rfl,q⟩:=h
 obtain⟨u,w',rfl,⟨t,rfl⟩,⟨t',rfl⟩⟩:=J7r r
 refine max_two_ints (I.ok.hd hc) λ h' tk k=>⟨_,H,I.kept k,?_,q⟩
 by_cases hj:j>i
 ·rw[if_pos hj,if_pos hj];exact⟨_,rfl⟩
 ·rw[if_neg hj,if_neg hj];exact⟨_,rfl⟩
theorem Ju0 (hc:X.calm=true):Jsn X (.builtin "min") (λ xs H Q=>∃i j,xs=[.int i,.int j]/\Q (.int (if j<i then j else i)) H):=by
 intro pins s σ H xs us Q I r h
 obtain⟨i,j,rfl,q⟩:=h
 obtain⟨u,w',rfl,⟨t,rfl⟩,⟨t',rfl⟩⟩:=J7r r
 refine min_two_ints (I.ok.hd hc) λ h' tk k=>⟨_,H,I.kept k,?_,q⟩
 by_cases hj:j<i
 ·rw[if_pos hj,if_pos hj];exact⟨_,rfl⟩
 ·rw[if_neg hj,if_neg hj];exact⟨_,rfl⟩
noncomputable def LenV (K:W.Frag) (x:V) (H:Hp) (n:Nat):Prop :=
 match x with
 | .str y=>y.length<=sizeLine/\n=y.length
 | .byt y=>y.size<=sizeLine/\n=y.size
 | .ref p=>(∃xs,SqL K H p xs/\n=xs.length)∨∃xs,SqT K H p xs/\n=xs.length
 | _=>False
theorem Jjc:Jsn X (.builtin "len") (λ xs H Q=>∃x n,xs=[x]/\LenV X.K x H n/\Q (.int n) H):=by
 intro pins s σ H xs us Q I r h
 obtain⟨x,n,rfl,e,q⟩:=h
 obtain⟨u,rfl,rx⟩:=Jnq r
 have hl:=Jlt
 have hs:sizeLine=16777216:=sizeLine_eq
 cases x with
 | str y =>
  obtain⟨t,rfl⟩:=rx
  obtain⟨hy,e'⟩:y.length<=sizeLine/\n=y.length:=e
  subst e'
  exact len_str (by omega) ⟨.int _,H,I.tok _,⟨_,rfl⟩,q⟩
 | byt y =>
  obtain⟨t,rfl⟩:=rx
  obtain⟨hy,e'⟩:y.size<=sizeLine/\n=y.size:=e
  subst e'
  exact W.len_bytes (by omega) ⟨.int _,H,I.tok _,⟨_,rfl⟩,q⟩
 | ref p =>
  cases rx
  have e':(∃xs,SqL X.K H p xs/\n=xs.length)∨∃xs,SqT X.K H p xs/\n=xs.length:=e
  rcases e' with⟨xs,hx,e'⟩|⟨xs,hx,e'⟩
  ·subst e'
   obtain⟨its,r',pl,hz⟩:=I.list hx
   have hlen:=r'.length
   exact Calls.call_len_list pl.isList (by simp only[List.size_toArray];omega) ⟨.int xs.length,H,I.tok _,⟨_,by simp only[List.size_toArray];rw[hlen]⟩,q⟩
  ·subst e'
   obtain⟨its,r',pl,hz⟩:=I.tuple hx
   have hlen:=r'.length
   exact len_tuple pl (by simp only[List.size_toArray];omega) ⟨.int xs.length,H,I.tok _,⟨_,by simp only[List.size_toArray];rw[hlen]⟩,q⟩
 | _=>exact Zf e
end
structure ObjM (h:Heap) (x dx C:Addr) (mA:Str->Option Value):Prop where
 obj:h.get? x=some (W.instObj C dx)
 ns:h.Ns1 dx mA
 ne:dx≠x
theorem Jwc {h:Heap}{dx:Addr}{mA:Str->Option Value}(n:h.Ns1 dx mA):∃od,h.get? dx=some od/\∀name,W.lookIn name od=some (mA name):=by
 obtain⟨o,es,ep,ho,hd,hk,_,hm⟩:=n
 refine⟨o,ho,λ name=>?_⟩
 have e:=hm name
 unfold nsFind findBy at e
 rw[<- Array.find?_toList] at e
 unfold W.lookIn
 rw[hd]
 dsimp only
 split
 ·rename_i y q
  rw[q] at e
  exact congrArg some e
 ·rename_i q
  rw[q] at e
  have a:es.toList.any (·.refKey)=false:=by
   rw[List.any_eq_false]
   intro y hy
   obtain⟨z,t,hkey⟩:=hk y (Array.mem_toList_iff.mp hy)
   simp[DictEntry.refKey,hkey]
  have a':¬es.toList.any (·.refKey)=true:=by rw[a];exact Bool.false_ne_true
  rw[if_neg a']
  exact congrArg some e
theorem ObjM.look {h:Heap}{x dx C:Addr}{mA:Str->Option Value}(I:ObjM h x dx C mA):∃od,W.InstAt h x (W.instObj C dx) C (some od)/\∀name,W.lookIn name od=some (mA name) :=
 let ⟨od,ho,hl⟩:=Jwc I.ns
 ⟨od,⟨I.obj,rfl,rfl,ho⟩,hl⟩
section
variable {prog:Program}{w:World}{A:Around}{E:Value->Shared->Prop}{s:Shared}{K:W.Frag}{x dx C f:Addr}{mA:Str->Option Value}{name:Str}{v:Value}
theorem J2f {expr:Bool}{Q:Value->Shared->Prop}(X:K.In s.heap) (I:ObjM s.heap x dx C mA) (hg:W.plainGet K C name=true) (hh:W.hasDictIn K C=true)
  (ha:W.findIn K (.ref C) name=some none) (hv:mA name=some v) (hv':W.handedIn v=true) (h:Q v { s with toks:=s.toks+1 }) :
  wpAny (model prog w) A (getAttr (.ref x) name expr) Q E s:=by
 obtain⟨od,J,hl⟩:=I.look
 exact W.get_value X J (W.plainGet_of hg).1 (W.findObj_own hh ha rfl (by rw[hl,hv])) hv' h
theorem Jyn {pl:Sem Bool}{Q:Value×List Value->Shared->Prop}(X:K.In s.heap) (I:ObjM s.heap x dx C mA) (hg:W.plainGet K C name=true)
  (hf:W.findIn K (.ref C) name=some (some (.ref f))) (ht:W.isFn K (.ref f)=true) (hv:mA name=none) (h:Q (.ref f,[.ref x]) s) :
  wpAny (model prog w) A (getMethod (.ref x) name pl) Q E s:=by
 obtain⟨od,J,hl⟩:=I.look
 exact W.method_fn X J (W.plainGet_of hg).1 (W.plainGet_of hg).2 hf (beq_iff_eq.mp ht) (by show(W.lookIn name od).map (·.isSome)=some false;rw[hl,hv];rfl) h
theorem J3x {ns:List Str}{Q:Unit->Shared->Prop}(X:K.In s.heap) (I:ObjM s.heap x dx C mA)
  (hs:W.findIn K (.ref C) "__setattr__"=some (some (.builtin "object.__setattr__"))) (hp:W.plainOver K C=true) (ht:W.takerIn K C name=some none) (hh:W.hasDictIn K C=true)
  (hw:PySem.Within mA ns) (hsz:ns.length<=sizeLine)
  (h:∀h',ObjM h' x dx C (λ y=>if y=name then some v else mA y)->Heap.SameBut dx s.heap h'->Q () { s with heap:=h',toks:=s.toks+2 }) :
  wpAny (model prog w) A (setAttr (.ref x) name v) Q E s:=by
 obtain⟨od,J,hl⟩:=I.look
 refine W.set_plain X J hs (W.osa_open (s:={ s with toks:=s.toks+1 }) (r:=none) X J hp ht λ b=>?_)
 obtain⟨cd,hc,hd'⟩:=W.any_some hh
 have hx:s.heap.get? x=some ⟨.ref C,some dx,.plain,#[]⟩:=I.obj
 refine wpAny_bind (wpAny_pure (wpAny_bind (wpAny_bind (wpAny_loadPart hx (wpAny_bind (W.Looks.here (s:={ s with toks:=s.toks+1 }) (W.looks_clsIn X hc) ?_))))))
 rw[hd']
 refine wpAny_pure (a:=some dx) (wpAny_bind (wpAny_pure (wpAny_bind ?_)))
 refine wpAny_nsSet1 (s:={ s with toks:=s.toks+1 }) I.ns λ h' hn2 hs2=>?_
 obtain⟨oD,esD,epD,hoD,hdD,hcD⟩:=hn2.count (PySem.Within.cons name v hw)
 refine wpAny_bind (wpAny_lookBehind hoD (by rw[hdD];exact pastItsLine_dict (Nat.le_trans hcD (by rw[List.length_cons];omega))) ?_)
 exact wpAny_pure (h _ ⟨(hs2.2 _ (Ne.symm I.ne)).trans I.obj,hn2,I.ne⟩ hs2)
theorem Jzf {R:Result->Shared->Prop}{vs:List Value}{kw:List (Str×Value)}(X:K.In s.heap) (hm:W.makesIn K C=true)
  (hi:W.findIn K (.ref C) "__init__"=some (some (.ref f))) (hf:W.typeIn K (.ref f)=some (.type "function"))
  (h:codeAny (model prog w) (A.under (.builtin "type.__call__" ⟨.ref C::vs,kw⟩)) (.call (.ref f) ⟨.ref (s.heap.objs.size+1)::vs,kw⟩) (W.InitBack (s.heap.objs.size+1) R)
   { s with heap:=(s.heap.push W.emptyDict).push (W.instObj C s.heap.objs.size) }) :
  codeAny (model prog w) A (.call (.ref C) ⟨vs,kw⟩) R s:=by
 obtain⟨hh,g,d,t,os⟩:=s
 exact W.make_core (W.makes_of X hm) (W.looks_findIn X hi) (λ self=>W.bind_fn X self hf) (.inl rfl) h
end
noncomputable def putF (f:Str) (v:V):List (Str×V)->List (Str×V)
 | []=>[(f,v)]
 | (g,x)::r=>if g=f then(g,v)::r else(g,x)::putF f v r
theorem Jkg (f g:Str) (v:V):∀fs:List (Str×V),(putF f v fs).lookup g=if g=f then some v else fs.lookup g
 | []=>by
  show List.lookup g [(f,v)]=_
  by_cases h:g=f
  ·have hb:(g==f)=true:=beq_iff_eq.mpr h
   simp only[List.lookup,hb,if_pos h]
  ·have hb:(g==f)=false:=beq_eq_false_iff_ne.mpr h
   simp only[List.lookup,hb,if_neg h]
 | (k,x)::r=>by
  have ih:=Jkg f g v r
  rw[show putF f v ((k,x)::r)=(if k=f then(k,v)::r else(k,x)::putF f v r) from rfl]
  by_cases hk:k=f
  ·rw[if_pos hk]
   by_cases h:g=k
   ·have hb:(g==k)=true:=beq_iff_eq.mpr h
    simp only[List.lookup,hb,if_pos (h.trans hk)]
   ·have hb:(g==k)=false:=beq_eq_false_iff_ne.mpr h
    simp only[List.lookup,hb,if_neg (λ e:g=f=>h (e.trans hk.symm))]
  ·rw[if_neg hk]
   by_cases h:g=k
   ·have hb:(g==k)=true:=beq_iff_eq.mpr h
    simp only[List.lookup,hb,if_neg (λ e:g=f=>hk (h.symm.trans e))]
   ·have hb:(g==k)=false:=beq_eq_false_iff_ne.mpr h
    simp only[List.lookup,hb]
    exact ih
theorem Jkb (f:Str) (v:V):∀fs:List (Str×V),f∈(putF f v fs).map (·.1)/\∀g,g∈fs.map (·.1)->g∈(putF f v fs).map (·.1)
 | []=>⟨by simp[putF],λ g h=>by simp at h⟩
 | (k,x)::r=>by
  obtain⟨i1,i2⟩:=Jkb f v r
  rw[show putF f v ((k,x)::r)=(if k=f then(k,v)::r else(k,x)::putF f v r) from rfl]
  by_cases hk:k=f
  ·rw[if_pos hk]
   subst hk
   exact⟨by simp,λ g h=>by simpa using h⟩
  ·rw[if_neg hk]
   refine⟨?_,λ g h=>?_⟩
   ·rw[List.map_cons]
    exact List.mem_cons_of_mem _ i1
   ·rw[List.map_cons] at h ⊢
    rcases List.mem_cons.mp h with e|e
    ·exact List.mem_cons.mpr (.inl e)
    ·exact List.mem_cons_of_mem _ (i2 g e)
theorem Jkc (f:Str) (v:V):∀fs:List (Str×V),(putF f v fs).length<=fs.length+1
 | []=>by simp[putF]
 | (k,x)::r=>by
  have ih:=Jkc f v r
  rw[show putF f v ((k,x)::r)=(if k=f then(k,v)::r else(k,x)::putF f v r) from rfl]
  by_cases hk:k=f
  ·rw[if_pos hk,List.length_cons,List.length_cons];omega
  ·rw[if_neg hk,List.length_cons,List.length_cons];omega
theorem RelO.some_of {v:V}{o:Option Value}(r:RelO (some v) o):∃u,o=some u/\RelV v u:=by
 cases o with
 | none=>exact Zf r
 | some u=>exact⟨u,rfl,r⟩
theorem RelO.none_of {o:Option Value}(r:RelO none o):o=none:=by
 cases o with
 | none=>rfl
 | some u=>exact Zf r
theorem Jvo {v:V}{u:Value}(r:RelV v u):W.handedIn u=true:=by
 cases v with
 | non=>cases (show u=Value.none from r);rfl
 | bl b=>cases (show u=Value.bool b from r);rfl
 | int i=>obtain⟨t,e⟩:=(show ∃t,u=Value.int i t from r);cases e;rfl
 | str x=>obtain⟨t,e⟩:=(show ∃t,u=Value.str x t from r);cases e;rfl
 | byt b=>obtain⟨t,e⟩:=(show ∃t,u=Value.bytes b t from r);cases e;rfl
 | flt b=>obtain⟨t,e⟩:=(show ∃t,u=Value.float b t from r);cases e;rfl
 | ref a=>cases (show u=Value.ref a from r);rfl
 | ty n=>cases (show u=Value.type n from r);rfl
section
variable {P:Program}{w:World}{H H':Hp}{h h':Heap}{a C dx:Addr}{fs fs':List (Str×V)}
theorem Jm1 (hok:HOk P w H h) (e:H a=some (.ins C dx fs)):∃mA,ObjM h a dx C mA/\(∀f,RelO (fs.lookup f) (mA f))/\PySem.Within mA (fs.map (·.1))/\fs.length<=1000/\H dx=some (.own a):=by
 obtain⟨d,z,ne,ob,mA,n,r,q⟩:=(show Jbn P w H h a (.ins C dx fs) from hok a _ e)
 exact⟨mA,⟨ob,n,ne⟩,r,q,z,d⟩
end
structure Cls (K:W.Frag) (C:Addr):Prop where
 pg:W.plainGet K C Str.empty=true
 hd:W.hasDictIn K C=true
 po:W.plainOver K C=true
 sa:W.findIn K (.ref C) "__setattr__"=some (some (.builtin "object.__setattr__"))
theorem Cls.get {K:W.Frag}{C:Addr}(c:Cls K C) (f:Str):W.plainGet K C f=true:=c.pg
noncomputable def Jgk (K:W.Frag) (C:Addr) (f:Str):Prop:=W.findIn K (.ref C) f=some none
theorem Jgk.taker {K:W.Frag}{C:Addr}{f:Str}(n:Jgk K C f):W.takerIn K C f=some none:=by
 unfold W.takerIn
 rw[show W.findIn K (.ref C) f=some none from n]
 rfl
structure Con (K:W.Frag) (C:Addr) (f:Str) (v:V) (u:Value):Prop where
 at_:W.findIn K (.ref C) f=some (some u)
 rel:RelV v u
 get:W.specialIn K u "__get__"=some none
 cp:W.copiedNames.contains f=false
structure Meth (K:W.Frag) (C:Addr) (m:Str) (f:Addr):Prop where
 at_:W.findIn K (.ref C) m=some (some (.ref f))
 fn:W.isFn K (.ref f)=true
 kp:W.keepIn K (.ref f)=true
section
variable {X:Cx}{pins:List (Addr×Obj)}{σ:St}{H:Hp}{s:Shared}{a C dx:Addr}{fs:List (Str×V)}{f:Str}{v:V}{A:Around}{E:Value->Shared->Prop}
theorem Jsu {b:Bool}{Q:Value->Shared->Prop}(I:Inv X pins σ H s) (e:H a=some (.ins C dx fs)) (c:Cls X.K C) (n:Jgk X.K C f) (l:fs.lookup f=some v)
  (h:∀u s',Inv X pins σ H s'->RelV v u->Q u s'):wpAny (model X.prog X.w) A (getAttr (.ref a) f b) Q E s:=by
 obtain⟨mA,O,r,_,_,_⟩:=Jm1 I.hok e
 obtain⟨u,hu,ru⟩:=RelO.some_of (v:=v) (o:=mA f) (by rw[<- l];exact r f)
 exact J2f I.kIn O (c.get f) c.hd n hu (Jvo ru) (h u _ (I.tok _) ru)
theorem Jlo {m:Str}{g:Addr}{pl:Sem Bool}{Q:Value×List Value->Shared->Prop}(I:Inv X pins σ H s) (e:H a=some (.ins C dx fs)) (c:Cls X.K C) (k:Meth X.K C m g) (l:fs.lookup m=none)
  (h:Q (.ref g,[.ref a]) s):wpAny (model X.prog X.w) A (getMethod (.ref a) m pl) Q E s:=by
 obtain⟨mA,O,r,_,_,_⟩:=Jm1 I.hok e
 have hn:mA m=none:=RelO.none_of (by rw[<- l];exact r m)
 exact Jyn I.kIn O (c.get m) k.at_ k.fn hn h
theorem Jua {y:V}{u:Value}{Q:Unit->Shared->Prop}(I:Inv X pins σ H s) (e:H a=some (.ins C dx fs)) (c:Cls X.K C) (n:Jgk X.K C f) (hl:fs.length<1000) (ry:RelV y u)
  (h:∀s',Inv X pins σ (upd H a (.ins C dx (putF f y fs))) s'->Q () s'):wpAny (model X.prog X.w) A (setAttr (.ref a) f u) Q E s:=by
 obtain⟨mA,O,r,wi,_,ho⟩:=Jm1 I.hok e
 have hz:(fs.map (·.1)).length<=sizeLine:=by rw[List.length_map,sizeLine_eq];omega
 refine J3x I.kIn O c.sa c.po n.taker c.hd wi hz λ h' O' sb=>h _ ?_
 have hd:∃o,h'.get? dx=some o:=let ⟨o,_,_,e',_⟩:=O'.ns;⟨o,e'⟩
 refine I.write (x:=a) (e:=dx) (by rw[e];exact True.intro) (.inr ho) (λ b q hb z=>(sb.2 b hb).trans z) hd ?_
 refine⟨by rw[Jg O.ne];exact ho,?_,O.ne,O'.obj,_,O'.ns,λ g=>?_,λ g hg=>?_⟩
 ·have:=Jkc f y fs;omega
 ·show RelO ((putF f y fs).lookup g) (if g=f then some u else mA g)
  rw[Jkg]
  by_cases q:g=f
  ·rw[if_pos q,if_pos q];exact ry
  ·rw[if_neg q,if_neg q];exact r g
 ·by_cases q:g=f
  ·rw[q];exact(Jkb f y fs).1
  ·refine(Jkb f y fs).2 g (wi g λ z=>hg ?_)
   show(if g=f then some u else mA g)=none
   rw[if_neg q];exact z
theorem Inv.made (I:Inv X pins σ H s):Inv X pins σ (upd (upd H s.heap.objs.size (.own (s.heap.objs.size+1))) (s.heap.objs.size+1) (.ins C s.heap.objs.size []))
  { s with heap:=(s.heap.push W.emptyDict).push (W.instObj C s.heap.objs.size) }:=by
 have e1:(s.heap.push W.emptyDict).get? s.heap.objs.size=some W.emptyDict:=Heap.get?_push_size s.heap rfl
 have e2:((s.heap.push W.emptyDict).push (W.instObj C s.heap.objs.size)).get? (s.heap.objs.size+1)=some (W.instObj C s.heap.objs.size):=by
  have:=Heap.get?_push_size (s.heap.push W.emptyDict) (o:=W.instObj C s.heap.objs.size) rfl
  rwa [Heap.size_push] at this
 have e3:(s.heap.push W.emptyDict).Ns s.heap.objs.size (λ _=>none):=⟨W.emptyDict,#[],_,e1,rfl,(λ e he=>absurd he (by simp)),λ _=>rfl⟩
 have I1:=I.laid (a:=s.heap.objs.size) (o:=.own (s.heap.objs.size+1)) (h':=s.heap.push W.emptyDict) (t':=s.toks) (λ b u q=>Heap.get?_push_of_some _ q) (Nat.le_refl _) ⟨_,e1⟩
 refine I1.laid (a:=s.heap.objs.size+1) (o:=.ins C s.heap.objs.size []) (t':=s.toks) (λ b u q=>Heap.get?_push_of_some _ q) (Nat.le_of_eq (Heap.size_push _ _)) ?_
 have ne:s.heap.objs.size≠s.heap.objs.size+1:=Nat.ne_of_lt (Nat.lt_succ_self _)
 refine⟨by rw[Jg ne,Je],Nat.zero_le _,ne,e2,λ _=>none,(Heap.Ns1.of_empty e3).at λ o q=>Heap.get?_push_of_some _ q,λ _=>True.intro,λ y hy=>absurd rfl hy⟩
theorem Jur {prog:Program}{w:World}{env:Env}{e:Expr}{f:Str}{pos:Pos}{s:Shared}{Q:Value->Shared->Prop}(hb:attributeBase e f env (eval e env)=eval e env)
  (h:wpAny (model prog w) A (eval e env) (λ o s₁=>wpAny (model prog w) A (getAttr o f true) Q E s₁) E s):wpAny (model prog w) A (eval (.Attribute e f pos) env) Q E s :=
 Attribute_any_ h (by rw[arm_eval_Attribute,hb])
end
section
variable {X:Cx}{o e value:Expr}{f:Str}{pos pos' tpos:Pos}{ta tv:TE}
end
section
variable {X:Cx}{pins:List (Addr×Obj)}{σ:St}{H:Hp}{s:Shared}{A:Around}{E:Value->Shared->Prop}{Q:Value->Shared->Prop}{c:Value}{b:Bool}
inductive TyOf (K:W.Frag) (H:Hp):V->Value->Prop where
 | non:TyOf K H .non (.type "NoneType")
 | bl (x:Bool):TyOf K H (.bl x) (.type "bool")
 | int (i:Int):TyOf K H (.int i) (.type "int")
 | str (x:Str):TyOf K H (.str x) (.type "str")
 | flt (x:UInt64):TyOf K H (.flt x) (.type "float")
 | lst {a:Addr}{xs:List V}(e:H a=some (.lst xs)):TyOf K H (.ref a) (.type "list")
 | frz {a:Addr}{o:Obj}{xs:List V}(e:H a=some (.frz o (.lst xs))):TyOf K H (.ref a) (.type "list")
 | tup {a:Addr}{xs:List V}(e:H a=some (.tup xs)):TyOf K H (.ref a) (.type "tuple")
 | dK {a:Addr}{kvs:List (Key×V)}(e:H a=some (.dK kvs)):TyOf K H (.ref a) (.type "dict")
 | dT {a:Addr}{kvs:List (List Key×V)}(e:H a=some (.dT kvs)):TyOf K H (.ref a) (.type "dict")
 | ins {a C dx:Addr}{fs:List (Str×V)}(e:H a=some (.ins C dx fs)) (cl:Cls K C) (ha:W.findIn K (.ref C) "__class__"=some (some (.builtin "object.__class__")))
   (hn:W.specialIn K (.builtin "object.__class__") "__get__"=some (some (.builtin "getset_descriptor.__get__"))) (htk:W.takesIn K (.builtin "object.__class__")=some true)
   (hm:W.mroIn K C (.type "object")=some true):TyOf K H (.ref a) (.ref C)
end
structure Room (k:Nat) (A:Around):Prop where
 hd:A.handled=none
 dp:A.depth+3*k+5<recursionLimit
 un:A.units+16*k+200<cLine
theorem Room.mono {j k:Nat}{A:Around}(r:Room k A) (h:j<=k):Room j A:=⟨r.hd,by have:=r.dp;omega,by have:=r.un;omega⟩
theorem Room.deeper {k:Nat}{A:Around}(r:Room (k+1) A) (env:Env):Room k (A.deeper env) :=
 ⟨r.hd,by have:=r.dp;show A.depth+1+3*k+5<_;omega,by have:=r.un;show A.units+3+16*k+200<_;omega⟩
theorem Room.in1 {k:Nat}{A:Around}(r:Room (k+1) A):Room k A.in1 :=
 ⟨r.hd,by have:=r.dp;show A.depth+3*k+5<_;omega,by have:=r.un;show A.units+1+16*k+200<_;omega⟩
theorem Jth {A:Around}{C:Addr}{us:List Value}{kw:List (Str×Value)}:(A.under (.builtin "type.__call__" ⟨.ref C::us,kw⟩)).depth=A.depth+1:=by
 first|rfl|simp[Around.under,Code.weight,Code.isCreation,Code.isGuard,Code.isCaller,Code.frames,Code.isFrame,guardIds]
theorem Jti {A:Around}{C:Addr}{us:List Value}{kw:List (Str×Value)}:(A.under (.builtin "type.__call__" ⟨.ref C::us,kw⟩)).units=A.units+1:=by
 first|rfl|simp[Around.under,Code.cUnits,Code.frames,Code.isFrame]
theorem Room.make {k:Nat}{A:Around}(r:Room (k+1) A) (C:Addr) (us:List Value) (kw:List (Str×Value)):Room k (A.under (.builtin "type.__call__" ⟨.ref C::us,kw⟩)) :=
 ⟨r.hd,by have:=r.dp;rw[Jth];omega,by have:=r.un;rw[Jti];omega⟩
theorem Room.depth {k:Nat}{A:Around}(r:Room k A):A.depth<recursionLimit:=by have:=r.dp;omega
theorem Room.units {k:Nat}{A:Around}(r:Room k A):A.units+64<cLine:=by have:=r.un;omega
section
variable {X:Cx}{e:Expr}{es:List Expr}{te:TE}{t:TA}{pos:Pos}
end
noncomputable abbrev Sp:=List V->Hp->VK->XK->Prop
noncomputable abbrev CXT:=List Env->Hp->Shared->XK->Value->Shared->Prop
structure Env0 (P:Program) (w:World) (K:W.Frag) (mg:Str->Option Value) (base:Heap) (A:Around) (outer:List Env) (s:Shared) (H:Hp):Prop where
 frames:A.frames=some outer
 mod:Mod K mg base
 bs:∀b o,base.get? b=some o->s.heap.get? b=some o/\H b=none
 bsz:base.objs.size<=s.heap.objs.size
 funs:s.heap.FunFrames base outer
 frf:∀b∈frs outer,H b=none
 hok:HOk P w H s.heap
 bare:AllBare s.gens
noncomputable def CE (outer:List Env) (P:Program) (w:World) (H:Hp) (s:Shared) (Q:VK) (u:Value) (s':Shared):Prop :=
 ∃v H',s'.os=s.os/\AllBare s'.gens/\Un (frs outer) [] H H' s.heap s'.heap/\HOk P w H' s'.heap/\RelV v u/\Q v H'
noncomputable def CR (CX:CXT) (outer:List Env) (P:Program) (w:World) (H:Hp) (s:Shared) (Q:VK) (E:XK) (r:Result) (s':Shared):Prop :=
 match r with
 | .ok (.ret u)=>CE outer P w H s Q u s'
 | .ok _=>False
 | .error e=>CX outer H s E e s'
structure FnOk (P:Program) (w:World) (K:W.Frag) (mg:Str->Option Value) (base:Heap) (CX:CXT) (k:Nat) (f:Addr) (fd:FuncData) (ps:List Str) (sp:Sp):Prop where
 len:∀vs H Q E,sp vs H Q E->vs.length=ps.length
 run:∀(A:Around) (outer:List Env) (s:Shared) (H:Hp) (args:Args) (us:List Value) (vs:List V) (Q:VK) (E:XK),Room k A->Env0 P w K mg base A outer s H->BindsTo s fd args (ps.zip us)->Vals vs us->sp vs H Q E ->
  codeAny (model P w) A (.call (.ref f) args) (CR CX outer P w H s Q E) s
theorem FnOk.mono {P:Program}{w:World}{K:W.Frag}{mg:Str->Option Value}{base:Heap}{CX:CXT}{j k:Nat}{f:Addr}{fd:FuncData}{ps:List Str}{sp:Sp}(F:FnOk P w K mg base CX j f fd ps sp) (h:j<=k) :
  FnOk P w K mg base CX k f fd ps sp:=⟨F.len,λ A outer s H args us vs Q E hr=>F.run A outer s H args us vs Q E (hr.mono h)⟩
theorem FnOk.imp {P:Program}{w:World}{K:W.Frag}{mg:Str->Option Value}{base:Heap}{CX:CXT}{k:Nat}{f:Addr}{fd:FuncData}{ps:List Str}{sp sp':Sp}(F:FnOk P w K mg base CX k f fd ps sp)
  (h:∀vs H Q E,sp' vs H Q E->sp vs H Q E):FnOk P w K mg base CX k f fd ps sp' :=
 ⟨λ vs H Q E q=>F.len vs H Q E (h _ _ _ _ q),λ A outer s H args us vs Q E hr he hb hv hs=>F.run A outer s H args us vs Q E hr he hb hv (h _ _ _ _ hs)⟩
theorem Env0.make {P:Program}{w:World}{K:W.Frag}{mg:Str->Option Value}{base:Heap}{A:Around}{outer:List Env}{s:Shared}{H:Hp}(e:Env0 P w K mg base A outer s H) (C:Addr) (us:List Value) (kw:List (Str×Value)) :
  Env0 P w K mg base (A.under (.builtin "type.__call__" ⟨.ref C::us,kw⟩)) outer s H:=⟨by first|exact e.frames|(simpa [Around.under,Code.envs,Code.isFrame,pushEnvs] using e.frames),e.mod,e.bs,e.bsz,e.funs,e.frf,e.hok,e.bare⟩
theorem Env0.in1 {P:Program}{w:World}{K:W.Frag}{mg:Str->Option Value}{base:Heap}{A:Around}{outer:List Env}{s:Shared}{H:Hp}(e:Env0 P w K mg base A outer s H) :
  Env0 P w K mg base A.in1 outer s H:=⟨e.frames,e.mod,e.bs,e.bsz,e.funs,e.frf,e.hok,e.bare⟩
section
variable {X:Cx}{pins:List (Addr×Obj)}{σ:St}{H:Hp}{s s':Shared}
theorem Inv.env0 (I:Inv X pins σ H s):Env0 X.prog X.w X.K X.mg X.base X.A X.stack s H :=
 ⟨I.ok.frames,I.ok.mod,I.bs,Nat.le_trans I.ok.bsz I.sz,I.stack,I.stkFree,I.hok,I.bare⟩
theorem Inv.after {Q:VK}{u:Value}(I:Inv X pins σ H s) (h:CE X.stack X.prog X.w H s Q u s'):EP X pins σ Q u s':=by
 obtain⟨v,H',os,bare,un,hok,r,q⟩:=h
 obtain⟨hh,g,d,t,os'⟩:=s'
 obtain rfl:os'=s.os:=os
 exact⟨v,H',I.call (h':=hh) (g':=g) (d':=d) (t':=t) (ch:=[]) un hok bare (λ b z=>absurd z (by simp)),r,q⟩
end
noncomputable def Jd6 (K:W.Frag) (fd:FuncData) (ps:List Str) (ds:List Value):Prop :=
 ∀(s:Shared) (us:List Value),K.In s.heap->(us++ds).length=ps.length->BindsTo s fd ⟨us,[]⟩ (ps.zip (us++ds))
theorem Jd6.all {K:W.Frag}{fd:FuncData}{ps:List Str}(h:∀us:List Value,us.length=ps.length->bindArgs fd ⟨us,[]⟩=pure (ps.zip us)):Jd6 K fd ps []:=λ s us _ hl=>by
 rw[List.append_nil] at hl ⊢
 exact .of_eq (h us hl)
section
variable {X:Cx}{CX:CXT}{k:Nat}{f C:Addr}{fd:FuncData}{ps:List Str}{sp:Sp}{dvs:List V}{ds:List Value}{E:XK}{x m:Str}{p pos apos:Pos}{e o:Expr}{es:List Expr}{ta:TE}{t:TA}
structure Mk (K:W.Frag) (C f:Addr):Prop where
 makes:W.makesIn K C=true
 init:W.findIn K (.ref C) "__init__"=some (some (.ref f))
 fn:W.isFn K (.ref f)=true
 kp:W.keepIn K (.ref C)=true
end
section
variable {X:Cx}{CX:CXT}{k:Nat}{f C:Addr}{fd:FuncData}{ps ks:List Str}{sp:Sp}{E:XK}{x m:Str}{p pos apos kpos:Pos}{e o:Expr}{es:List Expr}{kws:List Keyword}{te ta:TE}{t tk:TA}{nm:Option Str}
structure KBinds (K:W.Frag) (fd:FuncData) (ps ks:List Str) (g:List Value->List Value->List Value) (gV:List V->List V->List V):Prop where
 to:∀(s:Shared) (us ws:List Value),K.In s.heap->(g us ws).length=ps.length->BindsTo s fd ⟨us,ks.zip ws⟩ (ps.zip (g us ws))
 rel:∀{vs:List V}{us:List Value}{zs:List V}{ws:List Value},Vals vs us->Vals zs ws->Vals (gV vs zs) (g us ws)
variable {g:List Value->List Value->List Value}{gV:List V->List V->List V}
end
structure FnScope (N P:List Str) (sc:Scope):Prop where
 kind:sc.kind=.function
 co:sc.isCoroutine=false
 gen:sc.isGenerator=false
 nd:N.Nodup
 pre:N.take P.length=P
 par:∀x∈P,sc.names.lookup x=some .local∨sc.names.lookup x=some .cell
 nofree:∀y∈sc.names,y.2≠.free
theorem Jn2 {kindOf:Str->Option NameKind}{x:Str}:∀{binds:List (Str×Value)}{m:Str->Option Value},(∀v,(x,v)∉binds)->bindL kindOf binds m x=m x
 | [],_,_=>rfl
 | (n,v)::r,m,h=>by
  unfold bindL
  rw[Jn2 λ w hw=>h w (List.mem_cons_of_mem _ hw)]
  split
  ·have:x≠n:=by rintro rfl;exact h v List.mem_cons_self
   simp[this]
  ·rfl
theorem Jn0 {kindOf:Str->Option NameKind}{x:Str}:∀{binds:List (Str×Value)}{m:Str->Option Value},(∀v,(x,v)∉binds)->bindC kindOf binds m x=m x
 | [],_,_=>rfl
 | (n,v)::r,m,h=>by
  unfold bindC
  rw[Jn0 λ w hw=>h w (List.mem_cons_of_mem _ hw)]
  split
  ·rfl
  ·have:x≠n:=by rintro rfl;exact h v List.mem_cons_self
   simp[this]
theorem Jn1 {kindOf:Str->Option NameKind}{x:Str}{v:Value}:∀{P:List Str}{vs:List Value}{i:Nat}{m:Str->Option Value},P.Nodup->P[i]?=some x->vs[i]?=some v->kindOf x=some .local ->
  bindL kindOf (P.zip vs) m x=some v
 | [],_,_,_,_,h,_,_=>by simp at h
 | _::_,[],_,_,_,_,h,_=>by simp at h
 | p::P,w::vs,0,m,nd,h1,h2,hk=>by
  simp at h1 h2;subst h1;subst h2
  show bindL kindOf ((p,w)::P.zip vs) m p=_
  unfold bindL
  rw[Jn2 λ v hv=>(List.nodup_cons.mp nd).1 (List.of_mem_zip hv).1,if_pos hk]
  simp
 | p::P,w::vs,i+1,m,nd,h1,h2,hk=>by
  show bindL kindOf ((p,w)::P.zip vs) m x=_
  unfold bindL
  exact Jn1 (i:=i) (List.nodup_cons.mp nd).2 (by simpa using h1) (by simpa using h2) hk
theorem Jnz {kindOf:Str->Option NameKind}{x:Str}{v:Value}:∀{P:List Str}{vs:List Value}{i:Nat}{m:Str->Option Value},P.Nodup->P[i]?=some x->vs[i]?=some v->kindOf x≠some .local ->
  bindC kindOf (P.zip vs) m x=some v
 | [],_,_,_,_,h,_,_=>by simp at h
 | _::_,[],_,_,_,_,h,_=>by simp at h
 | p::P,w::vs,0,m,nd,h1,h2,hk=>by
  simp at h1 h2;subst h1;subst h2
  show bindC kindOf ((p,w)::P.zip vs) m p=_
  unfold bindC
  rw[Jn0 λ v hv=>(List.nodup_cons.mp nd).1 (List.of_mem_zip hv).1,if_neg hk]
  simp
 | p::P,w::vs,i+1,m,nd,h1,h2,hk=>by
  show bindC kindOf ((p,w)::P.zip vs) m x=_
  unfold bindC
  exact Jnz (i:=i) (List.nodup_cons.mp nd).2 (by simpa using h1) (by simpa using h2) hk
noncomputable def start (N:List Str) (vs:List V):St:=vs.map some++List.replicate (N.length-vs.length) none
noncomputable def cxOf (CX:CXT) (P:Program) (w:World) (K:W.Frag) (mg:Str->Option Value) (base:Heap) (N:List Str) (qual:Str) (scope:Scope) (f:Addr) (cd:Value) (A:Around) (outer:List Env) (s:Shared) (H:Hp) (E:XK):Cx where
 prog:=P
 w:=w
 K:=K
 mg:=mg
 base:=base
 A:=A.deeper (envOfC qual scope s.heap.objs.size f cd)
 N:=N
 s₀:=s
 H₀:=H
 env:=envOfC qual scope s.heap.objs.size f cd
 outer:=outer
 stack:=envOfC qual scope s.heap.objs.size f cd::outer
 ex:=[]
 calm:=true
 fn:=λ _=>true
 pn:=[]
 xe:=λ e s'=>wpAny (model P w) (A.deeper (envOfC qual scope s.heap.objs.size f cd)) (leaving (envOfC qual scope s.heap.objs.size f cd) e) (λ _ s''=>CX outer H s E e s'') (λ e' s''=>CX outer H s E e' s'') s'
theorem Jrs {sc:Scope}{n:Nat}{x:Str}(h:sc.names.lookup x=some .cell):∃c,(cellsFrom n sc.names []).lookup x=some c:=by
 have q:=W.cellsFrom_some sc.names n [] (.inl h)
 exact Option.isSome_iff_exists.mp q
theorem Jvw {CX:CXT}{P:Program}{w:World}{K:W.Frag}{mg:Str->Option Value}{base:Heap}{N ps:List Str}{qual:Str}{scope:Scope}{f:Addr}{cd:Value}{A:Around}{outer:List Env}{s s1:Shared}{H:Hp}{E:XK}{us:List Value}{vs:List V}
  (S:FnScope N ps scope) (hd:A.handled=none) (e0:Env0 P w K mg base A outer s H) (hl:vs.length=ps.length) (r:Vals vs us)
  (x:InCallC s s.heap.objs.size (bindL (envOfC qual scope s.heap.objs.size f cd).kindOf (ps.zip us) λ _=>none) (cellsFrom (s.heap.objs.size+1) scope.names []) (bindC (envOfC qual scope s.heap.objs.size f cd).kindOf (ps.zip us) λ _=>none) s1) :
  Inv (cxOf CX P w K mg base N qual scope f cd A outer s H E) [] (start N vs) H s1:=by
 have hpl:ps.length<=N.length:=by have:=congrArg List.length S.pre;rw[List.length_take] at this;omega
 obtain⟨h1,tk,rfl,hk⟩:=x.done
 have noA:∀b:Addr,b∉(cxOf CX P w K mg base N qual scope f cd A outer s H E).ex:=λ b z=>absurd (show b∈([]:List Addr) from z) (by simp)
 refine⟨⟨e0.mod,S.kind,rfl,rfl,Nat.le_refl _,λ y z c h1 h2=>?_,λ y hy=>?_,λ y c _ h=>?_,λ _=>hd,Around.frames_deeper e0.frames,.inr ⟨rfl,rfl⟩,λ b z=>absurd z (noA b),e0.bs,e0.bsz,λ b _ _=>noA b,λ b z=>absurd z (noA b),e0.funs,e0.frf⟩,
  rfl,e0.bare,Un.kept hk,⟨_,x.toInCall.ns,λ i y v h1 h2 h3=>?_⟩,λ y c h=>⟨_,x.cell y c h⟩,e0.hok.fresh (Nat.le_refl _),λ y c h=>?_,λ p hp=>absurd (show p∈([]:List (Addr×Obj)) from hp) (by simp),e0.hok.kept hk,?_⟩
 ·exact name_of_addr x.apart (PySem.mem_of_lookup h1) (PySem.mem_of_lookup h2)
 ·have hy:scope.names.lookup y=some .cell∨scope.names.lookup y=some .free:=hy
  rcases hy with hy|hy
  ·exact Jrs hy
  ·exact absurd rfl (S.nofree _ (PySem.mem_of_lookup hy))
 ·exact Nat.le_of_lt (x.above y c (PySem.mem_of_lookup h))
 ·have hi:i<vs.length:=by
   unfold start at h2
   by_cases hi:i<vs.length
   ·exact hi
   ·rw[List.getElem?_append_right (by simpa using hi)] at h2
    rw[List.getElem?_replicate] at h2
    split at h2<;>cases h2
  have ha:vs[i]?=some v:=by
   unfold start at h2
   rw[List.getElem?_append_left (by simpa using hi),List.getElem?_map] at h2
   cases e:vs[i]? with
   | none=>rw[e] at h2;cases h2
   | some a=>rw[e] at h2;cases h2;rfl
  obtain⟨u,hu,rv⟩:=r.get ha
  have hp:ps[i]?=some y:=by
   rw[<- S.pre,List.getElem?_take_of_lt (by omega)];exact h1
  have ndP:ps.Nodup:=by rw[<- S.pre];exact S.nd.sublist (List.take_sublist _ _)
  refine⟨u,rv,?_⟩
  rcases S.par y (List.mem_of_getElem? hp) with k|k
  ·exact .inl ⟨k,Jn1 ndP hp hu k⟩
  ·obtain⟨c,e⟩:=Jrs (n:=s.heap.objs.size+1) k
   refine .inr ⟨.inl k,c,e,?_⟩
   have q:=x.cell y c e
   rw[Jnz ndP hp hu (by show scope.names.lookup y≠_;rw[k];decide)] at q
   exact q
 ·exact e0.hok.fresh (Nat.le_of_lt (x.above y c (PySem.mem_of_lookup h)))
 ·unfold start
  show _=N.length
  rw[List.length_append,List.length_map,List.length_replicate]
  omega
theorem J5g {CX:CXT}{P:Program}{w:World}{K:W.Frag}{mg:Str->Option Value}{base:Heap}{k:Nat}{f:Addr}{name qual:Str}{params:Arguments}{body:List Stmt}{scope:Scope}{dV kV doc pm cdv ct oc:Value}{an od:Option Addr}
  {osl:Array (Option Value)}{N ps:List Str}{sp:Sp}(lk:K.lookup f=some ⟨oc,od,.func (W.fnOf name qual params body scope dV kV doc pm an cdv ct),osl⟩) (hcd:W.codeIn K cdv qual=true) (S:FnScope N ps scope)
  (len:∀vs H Q E,sp vs H Q E->vs.length=ps.length)
  (hbody:∀(A:Around) (outer:List Env) (s:Shared) (H:Hp) (vs:List V) (Q:VK) (E:XK),Room k (A.deeper (envOfC qual scope s.heap.objs.size f cdv))->sp vs H Q E ->
   ∃t,PSs (cxOf CX P w K mg base N qual scope f cdv A outer s H E) body t/\t { nx:=λ _ H'=>Q .non H',rt:=Q } (start N vs) H) :
  FnOk P w K mg base CX (k+1) f (W.fnOf name qual params body scope dV kV doc pm an cdv ct) ps sp:=by
 refine⟨len,λ A outer s H args us vs Q E hr e0 hb r hsp=>?_⟩
 have hl:=len _ _ _ _ hsp
 have KX:K.In s.heap:=e0.mod.kin.keeps λ b o e=>(e0.bs b o e).1
 have lim:s.heap.NoLimit:=e0.mod.nolimit.keeps λ b o e=>(e0.bs b o e).1
 have hkind:∀y∈ps.zip us,scope.names.lookup y.1=some .local∨(scope.names.lookup y.1=some .cell/\((cellsFrom (s.heap.objs.size+1) scope.names []).lookup y.1).isSome=true):=λ ⟨n,v⟩ hy=>by
  rcases S.par n (List.of_mem_zip hy).1 with q|q
  ·exact .inl q
  ·exact .inr ⟨q,W.cellsFrom_some _ _ _ (.inl q)⟩
 refine codeAny_call_function hr.depth (KX _ _ lk) rfl S.co S.gen rfl (W.codeRec_of KX hcd) (hb _ _ _ _ ?_)
 refine wpAny_newFunctionEnv_cells S.kind hkind λ env he s1 x=>?_
 subst he
 refine⟨lim.keeps x.toInCall.keep,codeAny_func ?_⟩
 obtain⟨t,ht,hq⟩:=hbody A outer s H vs Q E (hr.deeper _) hsp
 have I:Inv (cxOf CX P w K mg base N qual scope f cdv A outer s H E) [] (start N vs) H s1:=Jvw S hr.hd e0 hl r x
 refine wpAny_mono (ht [] s1 (start N vs) H _ I hq) (λ fl s' hs=>?_) λ e s' hs=>hs
 have fin:∀{σ':St}{H':Hp}{v:V}{u:Value},Inv (cxOf CX P w K mg base N qual scope f cdv A outer s H E) [] σ' H' s'->RelV v u->Q v H'->CE outer P w H s Q u s' :=
  λ {σ' H' v u} J rv q=>⟨v,H',J.os,J.bare,J.base,J.hok,rv,q⟩
 cases fl with
 | ret u =>
  obtain⟨v,σ',H',J,rv,q⟩:=hs
  exact fin J rv q
 | next =>
  obtain⟨σ',H',J,q⟩:=hs
  exact fin (v:=V.non) (u:=Value.none) J rfl q
 | brk =>
  obtain⟨_,_,_,q⟩:=hs
  exact False.elim q
 | cont =>
  obtain⟨_,_,_,q⟩:=hs
  exact False.elim q
section
variable {X:Cx}{x:Str}{p pos:Pos}{e:Expr}{es:List Expr}{t:TA}{id T:String}{r:List V->Hp->VK->Prop}
end
end L2
namespace HT
open PySem PyProof.Rows
section
open PySem.SeqAt
open PySem.AutoSeq1 (wpAny_loadPart')
open PySem.MeetsSeq PySem.MeetsSeq2 PySem.MeetsSeq3
end
section
variable {prog:Program}{w:World}{A:Around}{E:Value->Shared->Prop}{s:Shared}
noncomputable def sIx (n d:Nat):Option Int->Nat
 | none=>d
 | some v=>if v<0 then(v+(n:Int)).toNat else min v.toNat n
theorem sIx_none (n d:Nat):sIx n d none=d:=rfl
theorem sIx_nat (n d k:Nat):sIx n d (some (k:Int))=min k n:=by
 show(if (k:Int)<0 then((k:Int)+(n:Int)).toNat else min (k:Int).toNat n)=min k n
 rw[if_neg (by omega),Int.toNat_natCast]
theorem J62 (n d:Nat) (hd:d<=n) (o:Option Int):sIx n d o<=n:=by
 cases o with
 | none=>exact hd
 | some v =>
  show(if v<0 then(v+(n:Int)).toNat else min v.toNat n)<=n
  by_cases hv:v<0
  ·rw[if_pos hv];omega
  ·rw[if_neg hv];exact Nat.min_le_right _ _
theorem Ju1 (v:Int) (n d:Nat):(if v<0 then max (v+(n:Int)) 0 else min v (n:Int))=((sIx n d (some v):Nat):Int):=by
 show(if v<0 then max (v+(n:Int)) 0 else min v (n:Int))=(((if v<0 then(v+(n:Int)).toNat else min v.toNat n):Nat):Int)
 by_cases hv:v<0
 ·simp only[if_pos hv];omega
 ·simp only[if_neg hv];omega
theorem Jso (lo hi:Option Int) (n:Nat):Builtin.Slice.sliceAdjust lo hi 1 (n:Int)=(((sIx n 0 lo:Nat):Int),((sIx n n hi:Nat):Int)):=by
 have h1:¬((1:Int)<0):=by omega
 unfold Builtin.Slice.sliceAdjust
 simp only[h1,if_false]
 refine Prod.ext ?_ ?_
 ·cases lo with
  | none=>rfl
  | some v=>exact Ju1 v n 0
 ·cases hi with
  | none=>rfl
  | some v=>exact Ju1 v n n
theorem Jtt (i j:Nat):Builtin.Slice.slicePlaces (i:Int) (j:Int) 1=j-i:=by
 unfold Builtin.Slice.slicePlaces
 have h1:(1:Int)>0:=by omega
 simp only[h1,if_true,Int.ediv_one]
 split<;>omega
theorem Jl1 {v:Value}{o:Option Int}{Q:Option Int->Shared->Prop}(p:IsPart v o) (h:Q o s):wpAny (model prog w) A (Builtin.Slice.slicePartIndex v) Q E s:=by
 cases p with
 | none=>exact slicePart_none h
 | int i t=>exact slicePart_int h
theorem Jja {sl:Addr}{vl vu:Value}{lo hi:Option Int}{n:Nat}{Q:Int×Int×Nat->Shared->Prop}(hs:s.heap.IsSliceOf sl vl vu .none) (pl:IsPart vl lo) (pu:IsPart vu hi)
  (h:Q (((sIx n 0 lo:Nat):Int),1,sIx n n hi-sIx n 0 lo) s):wpAny (model prog w) A (Builtin.Slice.sliceApplied (.ref sl) (pure (n:Int))) Q E s:=by
 obtain⟨os,hos,hcs,hds⟩:=id hs
 unfold Builtin.Slice.sliceApplied Builtin.Slice.sliceFields
 refine wpAny_bind (wpAny_bind (wpAny_field hos hds (x:=vl) rfl (wpAny_bind (wpAny_field hos hds (x:=vu) rfl (wpAny_bind (wpAny_field hos hds (x:=.none) rfl (wpAny_pure ?_)))))))
 refine wpAny_bind (slicePart_none ?_)
 show wpAny _ _ (if ((1:Int)==0)=true then _ else _) _ _ s
 rw[if_neg (by decide)]
 refine wpAny_bind (Jl1 pl (wpAny_bind (Jl1 pu (wpAny_bind (wpAny_pure ?_)))))
 show wpAny _ _ (match Builtin.Slice.sliceAdjust lo hi 1 (n:Int) with|(lo,hi)=>pure (lo,(1:Int),Builtin.Slice.slicePlaces lo hi 1)) _ _ s
 rw[Jso lo hi n]
 show wpAny _ _ (pure (((sIx n 0 lo:Nat):Int),(1:Int),Builtin.Slice.slicePlaces ((sIx n 0 lo:Nat):Int) ((sIx n n hi:Nat):Int) 1)) _ _ s
 rw[Jtt]
 exact wpAny_pure h
theorem Jzo (xs:Array Value) (i k:Nat):((List.range k).filterMap λ (m:Nat)=>xs[((i:Int)+(m:Int)*1).toNat]?).toArray=((xs.toList.drop i).take k).toArray:=by
 have e:(λ (m:Nat)=>xs[((i:Int)+(m:Int)*1).toNat]?)=λ m=>xs[i+m]?:=by
  funext m
  have:((i:Int)+(m:Int)*1).toNat=i+m:=by omega
  rw[this]
 rw[e]
 have:=pick_run xs i k
 rw[List.filterMap_map] at this
 have e2:((λ x=>xs[x]?)∘λ x=>i+x)=λ m=>xs[i+m]?:=rfl
 rw[e2] at this
 rw[this]
theorem getItem_tuple_cut {t sl:Addr}{items:Array Value}{vl vu:Value}{lo hi:Option Int}{Q:Value->Shared->Prop}(ht:IsTup s.heap t items) (hs:s.heap.IsSliceOf sl vl vu .none) (pl:IsPart vl lo) (pu:IsPart vu hi)
  (hw:¬(sIx items.size 0 lo=0/\sIx items.size items.size hi=items.size))
  (h:Q (.ref s.heap.objs.size) { s with heap:=s.heap.push { cls:=.type "tuple",data:=.seq ((items.toList.drop (sIx items.size 0 lo)).take (sIx items.size items.size hi-sIx items.size 0 lo)).toArray } })
  (hsz:items.size<=sizeLine):wpAny (model prog w) A (getItem (.ref t) (.ref sl)) Q E s:=by
 have htake:sizeOk (.seq ((items.toList.drop (sIx items.size 0 lo)).take (sIx items.size items.size hi-sIx items.size 0 lo)).toArray):=by
  show((items.toList.drop (sIx items.size 0 lo)).take (sIx items.size items.size hi-sIx items.size 0 lo)).toArray.size<=sizeLine
  rw[List.size_toArray,List.length_take,List.length_drop,Array.length_toList]
  omega
 have hj:sIx items.size items.size hi<=items.size:=J62 _ _ (Nat.le_refl _) hi
 obtain⟨os,hos,hcs,hds⟩:=id hs
 have hTs:s.TypeIs (.ref sl) "slice":=⟨os,hos,hcs⟩
 unfold getItem
 try with_reducible refine wpAny_holding ?_
 first|refine wpAny_bind (wpAny_pure ?_)|skip
 refine wpAny_bind (wpAny_sequenceKey ht.typeIs (by decide) ?_)
 refine wpAny_bind (wpAny_callSpecial?_slot (name:=Str.ofString "__getitem__") ht.typeIs PyProof.Rows.slot_tuple_getitem
  (wpAny_call_entry PyProof.Rows.slot_tuple_getitem ht.typeIs entry_tuple_getitem ?_ (args_tuple_getitem _ _)))
 show wpAny _ _ (Builtin.Tuple.tupleItemsOf (.ref t)>>=_) _ _ s
 refine wpAny_bind (tupleItemsOf_ ht ?_)
 refine wpAny_bind (wpAny_typeOf hTs ?_)
 rw[if_pos (by decide)]
 refine wpAny_bind (Jja hs pl pu ?_)
 have hno:¬((((sIx items.size 0 lo:Nat):Int)==0&&(1:Int)==1&&(sIx items.size items.size hi-sIx items.size 0 lo)==items.size)=true):=by
  intro q
  rw[Bool.and_eq_true,Bool.and_eq_true] at q
  have q1:((sIx items.size 0 lo:Nat):Int)=0:=eq_of_beq q.1.1
  have q2:sIx items.size items.size hi-sIx items.size 0 lo=items.size:=eq_of_beq q.2
  exact hw ⟨by omega,by omega⟩
 show wpAny _ _ (if (((sIx items.size 0 lo:Nat):Int)==0&&(1:Int)==1&&(sIx items.size items.size hi-sIx items.size 0 lo)==items.size)=true then _ else _) _ _ s
 rw[if_neg hno,Jzo]
 first
  | exact wpAny_bind (m:=Builtin.Tuple.tupleExact _) (wpAny_newObj_type (wpAny_pure ⟨_,rfl,wpAny_pure h⟩) htake)
  | exact wpAny_bind (m:=Builtin.Tuple.tupleExact _) (wpAny_newObj_type (wpAny_bind (wpAny_pure (wpAny_pure ⟨_,rfl,wpAny_pure h⟩))) htake)
  | exact wpAny_bind (wpAny_bind (m:=Builtin.Tuple.tupleExact _) (wpAny_newObj_type (wpAny_pure (wpAny_pure ⟨_,rfl,wpAny_pure h⟩)) htake))
  | exact wpAny_bind (wpAny_bind (m:=Builtin.Tuple.tupleExact _) (wpAny_newObj_type (wpAny_pure ⟨_,rfl,wpAny_pure h⟩) htake))
end
end HT
namespace L2
open PySem PySem.Spec PyProof.Rows
noncomputable abbrev TO:=St->Hp->(Option Int->Hp->Prop)->Prop
section
variable {X:Cx}{e:Expr}{te:TE}{lo hi:Option Expr}{tl th:TO}{pos p2:Pos}
noncomputable def SlR (X:Cx) (r:V->Option Int->Option Int->Hp->VK->Prop):Prop :=
 ∀(pins:List (Addr×Obj)) (s:Shared) (σ:St) (H:Hp) (x:V) (v vl vu:Value) (lo hi:Option Int) (sl:Addr) (Q:VK),Inv X pins σ H s->RelV x v->s.heap.IsSliceOf sl vl vu .none->IsPart vl lo->IsPart vu hi->r x lo hi H Q ->
  ∃T id,typeLookup (.type T) "__getitem__"=pure (some (.builtin id))/\s.TypeIs v T/\wpAny (model X.prog X.w) X.A (getItem v (.ref sl)) (EP X pins σ Q) X.xe s
noncomputable def cutV (xs:List V) (lo hi:Option Int):List V:=(xs.drop (HT.sIx xs.length 0 lo)).take (HT.sIx xs.length xs.length hi-HT.sIx xs.length 0 lo)
theorem Jj0 (xs:List V) (lo hi:Option Int):(cutV xs lo hi).length<=xs.length:=by
 unfold cutV
 rw[List.length_take,List.length_drop]
 omega
noncomputable def rSlT (K:W.Frag):V->Option Int->Option Int->Hp->VK->Prop:=λ x lo hi H Q=>∃a xs,x=.ref a/\SqT K H a xs /\
 ¬(HT.sIx xs.length 0 lo=0/\HT.sIx xs.length xs.length hi=xs.length)/\∀p,H p=none->Q (.ref p) (upd H p (.tup (cutV xs lo hi)))
theorem J7a:SlR X (rSlT X.K):=by
 intro pins s σ H x v vl vu lo hi sl Q I rx hs pl pu h
 obtain⟨a,xs,rfl,hx,hw,q⟩:=h
 cases rx
 obtain⟨its,r,ht,hz⟩:=I.tuple hx
 have hlen:its.toArray.size=xs.length:=by rw[List.size_toArray];exact r.length.symm
 refine⟨"tuple",_,PyProof.Rows.slot_tuple_getitem.lookup,ht.typeIs,?_⟩
 refine HT.getItem_tuple_cut ht hs pl pu (by rw[hlen];exact hw) ?_ (by rw[hlen];exact hz)
 rw[hlen]
 refine⟨.ref s.heap.objs.size,_,I.laid (t':=s.toks) (o:=.tup (cutV xs lo hi)) (λ b ob q=>Heap.get?_push_of_some _ q) (Nat.le_refl _) ?_,rfl,q _ (I.hok.fresh (Nat.le_refl _))⟩
 exact⟨Nat.le_trans (Jj0 xs lo hi) hz,_,(r.drop (HT.sIx xs.length 0 lo)).take (HT.sIx xs.length xs.length hi-HT.sIx xs.length 0 lo),IsTup.new _ _⟩
end
noncomputable def ixN (n:Nat) (i:Int):Option Nat:=if 0<=i then(if i<n then some i.toNat else none) else if -(n:Int)<=i then some (i+n).toNat else none
noncomputable def atI {α:Type}(xs:List α) (i:Int):Option α:=(ixN xs.length i).bind λ j=>xs[j]?
theorem Jv1 {n:Nat}{i:Int}{j:Nat}(h:ixN n i=some j):seqIndex? i n=some j/\j<n/\ -(n:Int)<=i/\i<n:=by
 unfold ixN at h
 by_cases h0:0<=i
 ·rw[if_pos h0] at h
  by_cases h1:i<n
  ·rw[if_pos h1] at h
   have e:i.toNat=j:=Option.some.inj h
   exact⟨by rw[seqIndex_of h0 h1,e],by omega,by omega,h1⟩
  ·rw[if_neg h1] at h;cases h
 ·rw[if_neg h0] at h
  by_cases h1: -(n:Int)<=i
  ·rw[if_pos h1] at h
   have e:(i+n).toNat=j:=Option.some.inj h
   exact⟨by rw[seqIndex_neg (by omega) h1,e],by omega,h1,by omega⟩
  ·rw[if_neg h1] at h;cases h
theorem Jp7 {α:Type}{xs:List α}{i:Int}{v:α}(h:atI xs i=some v):∃j,seqIndex? i xs.length=some j/\xs[j]?=some v/\j<xs.length/\ -(xs.length:Int)<=i/\i<xs.length:=by
 unfold atI at h
 cases e:ixN xs.length i with
 | none=>rw[e] at h;cases h
 | some j =>
  rw[e] at h
  obtain⟨h1,h2,h3,h4⟩:=Jv1 e
  exact⟨j,h1,h,h2,h3,h4⟩
noncomputable def Jui (b:Expr):Prop:=∀o i,subscripted b false o i=operate [o,i] (getItem o i)
noncomputable def IxR (X:Cx) (r:R2):Prop :=
 ∀(value slice:Expr) (pins:List (Addr×Obj)) (s:Shared) (σ:St) (H:Hp) (x y:V) (v u:Value) (Q:VK),Inv X pins σ H s->RelV x v->RelV y u->r x y H Q ->
  subscripted slice false v u=operate [v,u] (getItem v u)->wpAny (model X.prog X.w) X.A (subscriptTail value slice v u) (EP X pins σ Q) X.xe s
section
variable {X:Cx}{a b:Expr}{ta tb:TE}{pos:Pos}
noncomputable def rIxL (K:W.Frag):R2:=λ x y H Q=>∃p xs i v,x=.ref p/\y=.int i/\SqL K H p xs/\atI xs i=some v/\Q v H
noncomputable def rIxT (K:W.Frag):R2:=λ x y H Q=>∃p xs i v,x=.ref p/\y=.int i/\SqT K H p xs/\atI xs i=some v/\Q v H
noncomputable def rIxS:R2:=λ x y H Q=>∃z i c,x=.str z/\y=.int i/\z.length<=sizeLine/\atI z.cps.toList i=some c/\Q (.str ⟨#[c]⟩) H
theorem Jv2:IxR X (rIxL X.K):=by
 intro value slice pins s σ H x y v u Q I rx ry h hs
 obtain⟨p,xs,i,z,rfl,rfl,hq,he,q⟩:=h
 cases rx
 obtain⟨t,rfl⟩:=ry
 obtain⟨its,r,pl,hz⟩:=I.list hq
 obtain⟨j,h1,h2,h3,h4,h5⟩:=Jp7 he
 obtain⟨w,ew,rw'⟩:=r.get h2
 have hl:=r.length
 have hn:=Jlt
 have fin:EP X pins σ Q w s:=⟨z,H,I,rw',q⟩
 by_cases h0:0<=i
 ·have hj:i.toNat=j:=by
   rw[seqIndex_of h0 h5] at h1
   exact Option.some.inj h1
  exact item_listR pl.isList h0 (by omega) (by rw[hj];simpa using ew) fin hs
 ·have hj:(i+(its.toArray.size:Int)).toNat=j:=by
   rw[seqIndex_neg (by omega) h4] at h1
   rw[List.size_toArray,<-hl]
   exact Option.some.inj h1
  exact subscriptTail_builtinR (x:=w) pl.isList.typeIs slot_list_getitem.lookup
   (wpAny_getItem_list_neg (Q:=λ r s'=>r=w/\EP X pins σ Q r s') pl.isList (by omega) (by rw[List.size_toArray]<;>omega) (by omega) (by rw[hj];simpa using ew) ⟨rfl,fin⟩) hs
theorem J59:IxR X (rIxT X.K):=by
 intro value slice pins s σ H x y v u Q I rx ry h hs
 obtain⟨p,xs,i,z,rfl,rfl,hq,he,q⟩:=h
 cases rx
 obtain⟨t,rfl⟩:=ry
 obtain⟨its,r,pl,hz⟩:=I.tuple hq
 obtain⟨j,h1,h2,h3,h4,h5⟩:=Jp7 he
 obtain⟨w,ew,rw'⟩:=r.get h2
 have hl:=r.length
 have hn:=Jlt
 have fin:EP X pins σ Q w s:=⟨z,H,I,rw',q⟩
 exact subscriptTail_builtinR (x:=w) pl.typeIs slot_tuple_getitem.lookup
  (getItem_tuple (j:=j) (Q:=λ r s'=>r=w/\EP X pins σ Q r s') pl (by omega) (by omega) (by rw[List.size_toArray,<-hl];exact h1) (by simpa using ew) ⟨rfl,fin⟩) hs
theorem J58:IxR X rIxS:=by
 intro value slice pins s σ H x y v u Q I rx ry h hs
 obtain⟨z,i,c,rfl,rfl,hz,he,q⟩:=h
 obtain⟨t,rfl⟩:=rx
 obtain⟨t',rfl⟩:=ry
 obtain⟨j,h1,h2,h3,h4,h5⟩:=Jp7 he
 have hl:z.cps.toList.length=z.length:=by simp[Str.length]
 rw[hl] at h1 h4 h5
 have hn:=Jlt
 exact tail_any (typeIs_str s z t) slot_str_getitem.lookup (getItem_str (c:=c) (by
  have e1:decide (i< -(2^63:Int))=false:=decide_eq_false (by omega)
  have e2:decide (i ≥ 2^63)=false:=decide_eq_false (by omega)
  rw[e1,e2,Bool.or_false]) (by rw[h1];simpa using h2) ⟨.str ⟨#[c]⟩,H,I.tok _,⟨_,rfl⟩,q⟩) hs
theorem Jtj (its:List Value) (n j:Nat) (u:Value):Obj.mapSeq (·.setIfInBounds j u) { cls:=.type "list",data:=.seq its.toArray n }={ cls:=.type "list",data:=.seq (its.set j u).toArray n }:=by
 simp[Obj.mapSeq]
theorem Inv.lst {pins:List (Addr×Obj)}{σ:St}{H:Hp}{s:Shared}{p:Addr}{xs:List V}(I:Inv X pins σ H s) (h:H p=some (.lst xs)) :
  ∃(its:List Value) (n:Nat),Vals xs its/\s.heap.get? p=some { cls:=.type "list",data:=.seq its.toArray n }/\xs.length<=sizeLine:=by
 obtain⟨z,its,n,r,e⟩:=I.hok p _ h
 exact⟨its,n,r,e,z⟩
theorem Inv.lstUpd {pins:List (Addr×Obj)}{σ:St}{H:Hp}{s:Shared}{p:Addr}{xs ys:List V}{its its':List Value}{n n':Nat}{f:Obj->Obj}(I:Inv X pins σ H s) (h:H p=some (.lst xs))
  (ho:s.heap.get? p=some { cls:=.type "list",data:=.seq its.toArray n }) (hf:f { cls:=.type "list",data:=.seq its.toArray n }={ cls:=.type "list",data:=.seq its'.toArray n' }) (r:Vals ys its') (hz:ys.length<=sizeLine) (t:Nat) :
  Inv X pins σ (upd H p (.lst ys)) { s with heap:=s.heap.update p f,toks:=t }:=by
 have e:(s.heap.update p f).get? p=some { cls:=.type "list",data:=.seq its'.toArray n' }:=by
  rw[Heap.get?_update_self f ho (by rw[hf]<;>rfl),hf]
 refine I.write (x:=p) (e:=p) (by rw[h];trivial) (.inl rfl) (λ b u hb q=>(Heap.get?_update_other _ _ (Ne.symm hb)).trans q) ⟨_,e⟩ ?_
 exact⟨hz,its',n',r,e⟩
noncomputable def rSetL:V->V->V->Hp->(Hp->Prop)->Prop:=λ o i v H Q=>∃p xs k j,o=.ref p/\i=.int k/\H p=some (.lst xs)/\ixN xs.length k=some j/\Q (upd H p (.lst (xs.set j v)))
theorem Jz0:PSet X rSetL:=by
 intro pins s σ H o i v ov iv u Q I ro ri rv h
 obtain⟨p,xs,k,j,rfl,rfl,hp,hj,q⟩:=h
 cases ro
 obtain⟨t,rfl⟩:=ri
 obtain⟨its,n,r,ho,hz⟩:=I.lst hp
 obtain⟨h1,h2,h3,h4⟩:=Jv1 hj
 have hl:=r.length
 have hn:=Jlt
 have I':Inv X pins σ (upd H p (.lst (xs.set j v))) { s with heap:=s.heap.update p (Obj.mapSeq (·.setIfInBounds j u)) } :=
  I.lstUpd hp ho (Jtj its n j u) (r.set rv j) (by rw[List.length_set];exact hz) s.toks
 by_cases h0:0<=k
 ·have hk:k.toNat=j:=by
   rw[seqIndex_of h0 h4] at h1
   exact Option.some.inj h1
  exact W.ki_setAt ho h0 (by omega) (by rw[List.size_toArray,<-hl];exact h4) (by rw[hk];exact⟨_,I',q⟩)
 ·have hk:(k+(its.toArray.size:Int)).toNat=j:=by
   rw[seqIndex_neg (by omega) h3] at h1
   rw[List.size_toArray,<-hl]
   exact Option.some.inj h1
  exact W.ki_setBack ho (by omega) (by rw[List.size_toArray,<-hl];exact h3) (by omega) (by rw[hk];exact⟨_,I',q⟩)
theorem Jpw (lo hi:Option Int) (n:Nat):(sliceBounds lo hi none n).1=((HT.sIx n 0 lo:Nat):Int)/\(sliceBounds lo hi none n).2.1=((HT.sIx n n hi:Nat):Int)/\(sliceBounds lo hi none n).2.2=1:=by
 refine⟨?_,?_,rfl⟩
 ·cases lo with
  | none=>simp[sliceBounds,HT.sIx]
  | some i =>
   simp only[sliceBounds,HT.sIx,Option.getD_none,show(1:Int)>0 by decide,if_true]
   by_cases h:i<0
   ·simp only[h,if_true]<;>omega
   ·simp only[h,if_false]<;>omega
 ·cases hi with
  | none=>simp[sliceBounds,HT.sIx]
  | some i =>
   simp only[sliceBounds,HT.sIx,Option.getD_none,show(1:Int)>0 by decide,if_true]
   by_cases h:i<0
   ·simp only[h,if_true]<;>omega
   ·simp only[h,if_false]<;>omega
theorem Jnn (its:List Value) (lo hi:Option Int):slicePick its.toArray lo hi none=((its.drop (HT.sIx its.length 0 lo)).take (HT.sIx its.length its.length hi-HT.sIx its.length 0 lo)).toArray:=by
 obtain⟨h1,h2,h3⟩:=Jpw lo hi its.toArray.size
 unfold slicePick
 rw[h1,h2,h3]
 simp only[sliceRange_one,pick_run,List.size_toArray]<;>rfl
noncomputable def rSlL (K:W.Frag):V->Option Int->Option Int->Hp->VK->Prop:=λ x lo hi H Q=>∃a xs,x=.ref a/\SqL K H a xs/\∀p,H p=none->Q (.ref p) (upd H p (.lst (cutV xs lo hi)))
theorem Jwt:SlR X (rSlL X.K):=by
 intro pins s σ H x v vl vu lo hi sl Q I rx hs pl pu h
 obtain⟨a,xs,rfl,hx,q⟩:=h
 cases rx
 obtain⟨its,r,ht,hz⟩:=I.list hx
 have hlen:=r.length
 refine⟨"list",_,slot_list_getitem.lookup,ht.isList.typeIs,?_⟩
 refine wpAny_getItem_list_slice ht.isList hs pl pu .none (by simp) ?_ (by rw[List.size_toArray]<;>omega)
 rw[Jnn,<-hlen]
 refine⟨.ref s.heap.objs.size,_,I.laid (t':=s.toks) (o:=.lst (cutV xs lo hi)) (λ b ob q=>Heap.get?_push_of_some _ q) (Nat.le_refl _) ?_,rfl,q _ (I.hok.fresh (Nat.le_refl _))⟩
 exact⟨Nat.le_trans (Jj0 xs lo hi) hz,_,0,(r.drop (HT.sIx xs.length 0 lo)).take (HT.sIx xs.length xs.length hi-HT.sIx xs.length 0 lo),Heap.get?_push_size _ rfl⟩
theorem Jew:Jsn X (.type "list") (λ xs H Q=>∃p ys,xs=[.ref p]/\(SqL X.K H p ys∨SqT X.K H p ys)/\∀l,H l=none->Q (.ref l) (upd H l (.lst ys))):=by
 intro pins s σ H xs us Q I r h
 obtain⟨p,ys,rfl,hq,q⟩:=h
 obtain⟨u,rfl,rx⟩:=Jnq r
 cases rx
 have fin:∀(its:List Value),Vals ys its->ys.length<=sizeLine->∀(h':Heap) (c':Nat),(∀b o',s.heap.get? b=some o'->h'.get? b=some o') ->
   h'.get? s.heap.objs.size=some { cls:=.type "list",dict:=none,data:=.seq its.toArray c',slots:=#[] }->EP X pins σ Q (.ref s.heap.objs.size) { s with heap:=h' }:=λ its r' hz h' c' kp e =>
  ⟨.ref s.heap.objs.size,_,I.laid (t':=s.toks) kp (Nat.le_refl _) (show Jbn X.prog X.w _ h' _ (.lst ys) from⟨hz,its,c',r',e⟩),rfl,q _ (I.hok.fresh (Nat.le_refl _))⟩
 rcases hq with hq|hq
 ·obtain⟨its,r',pl,hz⟩:=I.list hq
  have hlen:=r'.length
  obtain⟨o,ho,hc,n,hd⟩:=pl.isList
  exact call_list_seq p (.inl rfl) ho hc hd (λ h' c' kp e=>fin its r' hz h' c' kp e) (by simp only[List.size_toArray]<;>omega)
 ·obtain⟨its,r',pl,hz⟩:=I.tuple hq
  have hlen:=r'.length
  obtain⟨o,ho,hc,n,hd⟩:=pl
  exact call_list_seq p (.inr rfl) ho hc hd (λ h' c' kp e=>fin its r' hz h' c' kp e) (by simp only[List.size_toArray]<;>omega)
theorem Jhf:Jsn X (.type "tuple") (λ xs H Q=>∃p ys,xs=[.ref p]/\((SqL X.K H p ys/\∀l,H l=none->Q (.ref l) (upd H l (.tup ys)))∨(SqT X.K H p ys/\Q (.ref p) H))):=by
 intro pins s σ H xs us Q I r h
 obtain⟨p,ys,rfl,h⟩:=h
 obtain⟨u,rfl,rx⟩:=Jnq r
 cases rx
 rcases h with⟨hq,q⟩|⟨hq,q⟩
 ·obtain⟨its,r',pl,hz⟩:=I.list hq
  have hlen:=r'.length
  refine call_tuple_list pl.isList (λ h' kp=>?_) (by simp only[List.size_toArray]<;>omega)
  have I1:Inv X pins σ H { s with heap:=h' }:=I.kept (t':=s.toks) kp
  have I2:Inv X pins σ (upd H h'.objs.size (.tup ys)) { s with heap:=h'.push { cls:=.type "tuple",data:=.seq its.toArray } } :=
   I1.laid (t':=s.toks) (λ b o e=>Heap.get?_push_of_some _ e) (Nat.le_refl _) (show Jbn X.prog X.w _ _ _ (.tup ys) from⟨hz,its,r',IsTup.new _ _⟩)
  exact⟨.ref h'.objs.size,_,I2,rfl,q _ (I1.hok.fresh (Nat.le_refl _))⟩
 ·obtain⟨its,r',pl,hz⟩:=I.tuple hq
  exact call_tuple_same pl ⟨.ref p,H,I,rfl,q⟩
noncomputable def tyV (K:W.Frag) (T:String) (x:V) (H:Hp):Prop:=match x with
 | .str _=>T="str"
 | .int _=>T="int"
 | .ref p=>(T="list"/\∃xs,SqL K H p xs)∨(T="tuple"/\∃o,K.lookup p=some o/\o.cls=.type "tuple"/\o.dict=none) ∨
   (T="dict"/\((∃kvs,H p=some (.dK kvs))∨∃kvs,H p=some (.dT kvs)))∨(T="set"/\∃S n,H p=some (.set S n))
 | _=>False
theorem J1q {pins:List (Addr×Obj)}{σ:St}{H:Hp}{s:Shared}{T:String}{x:V}{v:Value}(I:Inv X pins σ H s) (r:RelV x v) (ty:tyV X.K T x H) :
  s.TypeIs v T/\∀a,v=.ref a->∃ob,s.heap.get? a=some ob/\ob.dict=none:=by
 cases x with
 | str z =>
  obtain⟨t,rfl⟩:=r
  cases (show T="str" from ty)
  exact⟨typeIs_str s z t,λ _ e=>nomatch e⟩
 | int i =>
  obtain⟨t,rfl⟩:=r
  cases (show T="int" from ty)
  exact⟨typeIs_int s i t,λ _ e=>nomatch e⟩
 | ref p =>
  cases r
  rcases ty with⟨rfl,xs,hq⟩|⟨rfl,o,hk,hc,hd⟩|⟨rfl,hk⟩|⟨rfl,S,n,hk⟩
  ·obtain⟨its,_,pl,_⟩:=I.list hq
   refine⟨pl.isList.typeIs,λ a e=>?_⟩
   cases e
   obtain⟨o,n,e,c,hd,_⟩:=pl
   exact⟨o,e,hd⟩
  ·refine⟨⟨o,I.kIn p o hk,hc⟩,λ a e=>?_⟩
   cases e
   exact⟨o,I.kIn _ o hk,hd⟩
  ·have z:∃o,s.heap.get? p=some o/\o.ExactDict:=by
    rcases hk with⟨kvs,hk⟩|⟨kvs,hk⟩
    ·obtain⟨_,_,_,_,o,_,_,e,ex,_⟩:=I.hok p _ hk
     exact⟨o,e,ex⟩
    ·obtain⟨_,_,_,_,o,_,_,e,ex,_⟩:=I.hok p _ hk
     exact⟨o,e,ex⟩
   obtain⟨o,e,ex⟩:=z
   refine⟨⟨o,e,ex.1⟩,λ a e2=>?_⟩
   cases e2
   exact⟨o,e,ex.2.1⟩
  ·obtain⟨o,_,_,_,e,ex,_⟩:=I.hok p _ hk
   refine⟨⟨o,e,ex.1⟩,λ a e2=>?_⟩
   cases e2
   exact⟨o,e,ex.2.1⟩
 | _=>exact False.elim ty
variable {o e:Expr}{es:List Expr}{to:TE}{t:TA}{name:Str}{apos cpos:Pos}{T id:String}{r:V->List V->Hp->VK->Prop}
end
noncomputable def MtM (X:Cx) (id:String) (r:V->List V->Hp->VK->Prop):Prop :=
 ∀(pins:List (Addr×Obj)) (s:Shared) (σ:St) (H:Hp) (x:V) (xs:List V) (v:Value) (us:List Value) (Q:VK),Inv X pins σ H s->RelV x v->Vals xs us->r x xs H Q ->
  wpAny (model X.prog X.w) X.A (call (.builtin id) (v::us)) (EP X pins σ Q) X.xe s
theorem Vals.one:∀{x:V}{us:List Value},Vals [x] us->∃u,us=[u]/\RelV x u
 | _,_,.cons r .nil=>⟨_,rfl,r⟩
theorem Vals.two:∀{x y:V}{us:List Value},Vals [x,y] us->∃u v,us=[u,v]/\RelV x u/\RelV y v
 | _,_,_,.cons r (.cons q .nil)=>⟨_,_,rfl,r,q⟩
theorem Vals.zero:∀{us:List Value},Vals [] us->us=[]
 | _,.nil=>rfl
theorem Vals.rep {xs:List V}{us:List Value}(h:Vals xs us):∀k:Nat,Vals (List.replicate k xs).flatten (List.replicate k us).flatten
 | 0=>.nil
 | k+1=>by
  rw[List.replicate_succ,List.replicate_succ,List.flatten_cons,List.flatten_cons]
  exact Vals.append h (Vals.rep h k)
theorem Jog (its:List Value):∀(k:Nat) (acc:List Value),
  List.foldl (λ x1 x2=>x1++x2) acc.toArray (List.replicate k its.toArray)=(acc++(List.replicate k its).flatten).toArray
 | 0,acc=>by simp
 | k+1,acc=>by
  have e:acc.toArray++its.toArray=(acc++its).toArray:=by simp
  have e2:(acc++its)++(List.replicate k its).flatten=acc++(List.replicate (k+1) its).flatten:=by
   rw[List.replicate_succ,List.flatten_cons,List.append_assoc]
  rw[<- e2,<-Jog its k (acc++its),<-e,List.replicate_succ,List.foldl_cons]
section
variable {X:Cx}{pins:List (Addr×Obj)}{σ:St}{H:Hp}{s:Shared}{l b:Addr}{xs ys zs:List V}
theorem Inv.lset {its its':List Value}{n:Nat}{f:Array Value->Array Value}{t':Nat}(I:Inv X pins σ H s) (hH:H l=some (.lst xs))
  (e:s.heap.get? l=some { cls:=.type "list",data:=.seq its.toArray n }) (hf:f its.toArray=its'.toArray) (hv:Vals ys its') (hz:ys.length<=sizeLine) :
  Inv X pins σ (upd H l (.lst ys)) { s with heap:=s.heap.update l (Obj.mapSeq f),toks:=t' }:=by
 have q:=PySem.IsL.update e f
 rw[hf] at q
 refine I.write (x:=l) (e:=l) (by rw[hH];exact trivial) (.inl rfl) (λ b' u hb hu=>(Heap.get?_update_other s.heap (Obj.mapSeq f) (Ne.symm hb)).trans hu) ⟨_,q⟩ ?_
 exact⟨hz,its',_,hv,q⟩
theorem Inv.lnew {its:List Value}{t':Nat}(I:Inv X pins σ H s) (hv:Vals ys its) (hz:ys.length<=sizeLine) :
  Inv X pins σ (upd H s.heap.objs.size (.lst ys)) { s with heap:=s.heap.push { cls:=.type "list",data:=.seq its.toArray },toks:=t' } :=
 I.laid (λ _ _ q=>Heap.get?_push_of_some _ q) (Nat.le_refl _) ⟨hz,its,0,hv,Heap.get?_push_size _ rfl⟩
theorem Inv.fresh (I:Inv X pins σ H s):H s.heap.objs.size=none:=I.hok.fresh (Nat.le_refl _)
theorem Inv.lstM (I:Inv X pins σ H s) (hH:H l=some (.lst xs)):xs.length<=sizeLine/\∃(its:List Value) (n:Nat),Vals xs its/\xs.length=its.length/\s.heap.get? l=some { cls:=.type "list",data:=.seq its.toArray n }:=by
 obtain⟨z,its,n,r,e⟩:=I.hok l _ hH
 exact⟨z,its,n,r,r.length,e⟩
theorem Jsb {n:Nat}(h:n<=sizeLine):Builtin.List.listTooLong n=false:=by
 unfold Builtin.List.listTooLong
 exact decide_eq_false (by omega)
end
section
variable {X:Cx}
noncomputable def J3g:V->List V->Hp->VK->Prop:=λ x vs H Q=>∃l xs y,x=.ref l/\vs=[y]/\H l=some (.lst xs)/\xs.length<sizeLine/\Q .non (upd H l (.lst (xs++[y])))
theorem Jo0:MtM X "list.append" J3g:=by
 intro pins s σ H x vs v us Q I rx rv h
 obtain⟨l,xs,y,rfl,rfl,hH,hz,q⟩:=h
 cases rx
 obtain⟨u,rfl,ru⟩:=rv.one
 obtain⟨z,its,n,r,hl,e⟩:=I.lstM hH
 refine call_meets F.slot_list_append ⟨_,e,rfl⟩ F.entry_list_append (F.args_list_append_2 _ _) (PySem.list_append l its.toArray n u (by rw[List.size_toArray];omega)) ⟨e,?_⟩
 refine⟨.non,_,I.lset (its':=its++[u]) hH e (by simp) (r.append (.cons ru .nil)) ?_,rfl,q⟩
 rw[List.length_append,List.length_singleton]
 omega
noncomputable def J3h:V->List V->Hp->VK->Prop:=λ x vs H Q=>∃l b xs zs,x=.ref l/\vs=[.ref b]/\H l=some (.lst xs)/\H b=some (.lst zs)/\xs.length+zs.length<=sizeLine/\Q .non (upd H l (.lst (xs++zs)))
theorem Jwh:MtM X "list.extend" J3h:=by
 intro pins s σ H x vs v us Q I rx rv h
 obtain⟨l,b,xs,zs,rfl,rfl,hH,hB,hz,q⟩:=h
 cases rx
 obtain⟨u,rfl,ru⟩:=rv.one
 cases ru
 obtain⟨z,its,n,r,hl,e⟩:=I.lstM hH
 obtain⟨z2,its2,n2,r2,hl2,e2⟩:=I.lstM hB
 have hsz:its.toArray.size+its2.toArray.size<=sizeLine:=by rw[List.size_toArray,List.size_toArray];omega
 have hlong:¬(!its.toArray.isEmpty&&Builtin.List.listTooLong (its.toArray.size+its2.toArray.size))=true:=by
  rw[Jsb hsz,Bool.and_false]
  exact Bool.false_ne_true
 refine call_meets F.slot_list_extend ⟨_,e,rfl⟩ F.entry_list_extend (F.args_list_extend_2 _ _)
  (AutoSeq1.list_extend_list_list_0 l its.toArray n b its2.toArray n2 hlong (by rw[List.size_toArray];omega) (by omega)) ⟨e,e2,?_⟩
 refine⟨.non,_,I.lset (its':=its++its2) hH e (by simp) (r.append r2) ?_,rfl,q⟩
 rw[List.length_append]
 omega
noncomputable def rCat:R2:=λ x y H Q=>∃l b xs zs,x=.ref l/\y=.ref b/\H l=some (.lst xs)/\H b=some (.lst zs)/\xs.length+zs.length<=sizeLine/\∀p,H p=none->Q (.ref p) (upd H p (.lst (xs++zs)))
theorem J6m:OpR X (binaryOp .Add) rCat:=by
 intro pins s σ H x y v u Q I rx ry h
 obtain⟨l,b,xs,zs,rfl,rfl,hH,hB,hz,q⟩:=h
 cases rx
 cases ry
 obtain⟨z,its,n,r,hl,e⟩:=I.lstM hH
 obtain⟨z2,its2,n2,r2,hl2,e2⟩:=I.lstM hB
 refine PySem.P.add_list e e2 ?_ (by rw[List.size_toArray,List.size_toArray];omega)
 have ea:its.toArray++its2.toArray=(its++its2).toArray:=by simp
 rw[ea]
 exact⟨.ref _,_,I.lnew (t':=s.toks) (r.append r2) (by rw[List.length_append];omega),rfl,q _ I.fresh⟩
noncomputable def rRep:R2:=λ x y H Q=>∃l k xs,x=.ref l/\y=.int k/\H l=some (.lst xs)/\ -(2^63)<=k/\k<2^63/\xs.length*k.toNat<=sizeLine /\
 ∀p,H p=none->Q (.ref p) (upd H p (.lst (List.replicate k.toNat xs).flatten))
theorem J2y {α:Type}(xs:List α) (k:Nat):(List.replicate k xs).flatten.length=k*xs.length:=by
 induction k with
 | zero=>simp
 | succ k ih=>rw[List.replicate_succ,List.flatten_cons,List.length_append,ih,Nat.succ_mul,Nat.add_comm]
theorem J6p:OpR X (binaryOp .Mult) rRep:=by
 intro pins s σ H x y v u Q I rx ry h
 obtain⟨l,k,xs,rfl,rfl,hH,h1,h2,hz,q⟩:=h
 cases rx
 obtain⟨t,rfl⟩:=ry
 obtain⟨z,its,n,r,hl,e⟩:=I.lstM hH
 have hlen:its.toArray.size*k.toNat<=sizeLine:=by rw[List.size_toArray,<-hl];exact hz
 have hcap:¬its.toArray.size*k.toNat>(2^63-1)/8:=by
  have:(sizeLine:Nat)<=(2^63-1)/8:=by decide
  omega
 have hfit:¬(!Builtin.List.listFitsIndex k)=true:=by
  rw[fitsIndex_both h1 h2]
  exact Bool.false_ne_true
 have hlong:¬Builtin.List.listTooLong (its.toArray.size*k.toNat)=true:=by
  rw[Jsb hlen]
  exact Bool.false_ne_true
 have hnew:List.foldl (λ x1 x2=>x1++x2) #[] (List.replicate (if its.toArray.isEmpty=true then 0 else k.toNat) its.toArray)=(List.replicate k.toNat its).flatten.toArray:=by
  have f0:∀m:Nat,List.foldl (λ x1 x2=>x1++x2) #[] (List.replicate m its.toArray)=(List.replicate m its).flatten.toArray:=λ m=>by
   have:=Jog its m []
   rw[List.nil_append] at this
   exact this
  rw[f0]
  cases its with
  | nil=>simp
  | cons a r'=>rw[if_neg (by simp)]
 refine wpAny_binaryOp_repeat_ref (T:="list") (U:="int") (by decide) ⟨_,e,rfl⟩ (λ s'=>typeIs_int s' k t) noFill_list_mul F.fills_int_mul F.slot_int_rmul repeat_list F.slot_int_index.lookup
  (call_meets F.slot_int_rmul (typeIs_int s k t) F.entry_int_rmul (F.args_int_rmul_2 _ _) (int___rmul___int_list k t l its.toArray n)
   ⟨e,rfl,⟨_,e,rfl⟩,call_meets F.slot_list_mul ⟨_,e,rfl⟩ F.entry_list_mul (F.args_list_mul_2 _ _) (AutoListH.list___mul___list_int_3 l its.toArray n k t hfit hcap hlong) ⟨e,?_⟩⟩)
 rw[hnew]
 exact⟨.ref _,_,I.lnew (t':=s.toks) (r.rep k.toNat) (by rw[J2y,Nat.mul_comm];exact hz),rfl,q _ I.fresh⟩
end
section
variable {prog:Program}{w:World}{A:Around}{E:Value->Shared->Prop}{s:Shared}
end
section
variable {X:Cx}
end
section
variable {κ:Type}[DecidableEq κ]
noncomputable def valV (kvs:List (κ×V)) (k:κ):Option V:=(kvs.find? λ kv=>decide (kv.1=k)).map (·.2)
noncomputable def putK (kvs:List (κ×V)) (k:κ) (v:V):List (κ×V) :=
 if (kvs.any λ kv=>decide (kv.1=k))=true then kvs.map (λ kv=>if kv.1=k then(kv.1,v) else kv) else kvs++[(k,v)]
noncomputable def J5b (kvs:List (κ×V)) (k:κ):List (κ×V):=kvs.filter λ kv=>decide (kv.1≠k)
theorem Jjo {p:κ×V}{r:List (κ×V)}{k:κ}(e:p.1=k):valV (p::r) k=some p.2:=by simp[valV,List.find?_cons,e]
theorem Jjn {p:κ×V}{r:List (κ×V)}{k:κ}(e:¬p.1=k):valV (p::r) k=valV r k:=by simp[valV,List.find?_cons,e]
theorem Jjm (k:κ):∀kvs:List (κ×V),(kvs.any λ kv=>decide (kv.1=k))=(valV kvs k).isSome
 | []=>rfl
 | p::r=>by
  rw[List.any_cons]
  by_cases e:p.1=k
  ·simp only[Jjo e,decide_eq_true e,Bool.true_or,Option.isSome_some]
  ·rw[Jjn e,decide_eq_false e,Bool.false_or];exact Jjm k r
theorem Jkd (kvs:List (κ×V)) (k:κ) (v:V):(putK kvs k v).length<=kvs.length+1:=by
 unfold putK
 split
 ·rw[List.length_map];omega
 ·rw[List.length_append,List.length_cons,List.length_nil];omega
theorem Jnb {kvs:List (κ×V)}{k:κ}(v:V) (h:valV kvs k=none):putK kvs k v=kvs++[(k,v)]:=by
 unfold putK
 rw[Jjm,h]
 exact if_neg (by decide)
theorem RelO.isSome_eq {o:Option V}{u:Option Value}(r:RelO o u):o.isSome=u.isSome:=by
 cases o with
 | none=>cases u with
  | none=>rfl
  | some _=>exact Zf r
 | some _=>cases u with
  | none=>exact Zf r
  | some _=>rfl
theorem RelO.getD {o:Option V}{u:Option Value}{d:V}{d':Value}(r:RelO o u) (rd:RelV d d'):RelV (o.getD d) (u.getD d'):=by
 cases o with
 | none=>cases u with
  | none=>exact rd
  | some _=>exact Zf r
 | some _=>cases u with
  | none=>exact Zf r
  | some _=>exact r
theorem KV.val {kvs:List (κ×V)}{vs:List (κ×Value)}(r:KV kvs vs) (k:κ):RelO (valV kvs k) (valueAt vs k):=by
 unfold KV at r
 induction r with
 | nil=>exact True.intro
 | @cons p q ps qs h t ih =>
  obtain⟨h1,h2⟩:=h
  by_cases e:p.1=k
  ·have e':q.1=k:=h1.symm.trans e
   have b:valueAt (q::qs) k=some q.2:=by simp[valueAt,List.find?_cons,e']
   rw[Jjo e,b];exact h2
  ·have e':¬q.1=k:=λ z=>e (h1.trans z)
   have b:valueAt (q::qs) k=valueAt qs k:=by simp[valueAt,List.find?_cons,e']
   rw[Jjn e,b];exact ih
theorem KV.any {kvs:List (κ×V)}{vs:List (κ×Value)}(r:KV kvs vs) (k:κ):(kvs.any λ kv=>decide (kv.1=k))=vs.any λ kv=>decide (kv.1=k):=by
 unfold KV at r
 induction r with
 | nil=>rfl
 | cons h t ih=>rw[List.any_cons,List.any_cons,ih,h.1]
theorem KV.repl {kvs:List (κ×V)}{vs:List (κ×Value)}(r:KV kvs vs) (k:κ){y:V}{u:Value}(ry:RelV y u) :
  KV (kvs.map λ kv=>if kv.1=k then(kv.1,y) else kv) (vs.map λ kv=>if kv.1=k then(kv.1,u) else kv):=by
 unfold KV at r ⊢
 induction r with
 | nil=>exact .nil
 | @cons p q ps qs h t ih =>
  rw[List.map_cons,List.map_cons]
  refine .cons ?_ ih
  obtain⟨h1,h2⟩:=h
  by_cases e:p.1=k
  ·rw[if_pos e,if_pos (h1.symm.trans e)];exact⟨h1,ry⟩
  ·rw[if_neg e,if_neg (λ z=>e (h1.trans z))];exact⟨h1,h2⟩
theorem KV.put {kvs:List (κ×V)}{vs:List (κ×Value)}(r:KV kvs vs) (k:κ){y:V}{u:Value}(ry:RelV y u):KV (putK kvs k y) (stored vs k u):=by
 unfold putK stored
 rw[r.any k]
 by_cases e:(vs.any λ kv=>decide (kv.1=k))=true
 ·rw[if_pos e,if_pos e];exact r.repl k ry
 ·rw[if_neg e,if_neg e];exact Paired.snoc r ⟨rfl,ry⟩
theorem KV.drop {kvs:List (κ×V)}{vs:List (κ×Value)}(r:KV kvs vs) (k:κ):KV (J5b kvs k) (without vs k):=by
 unfold KV at r ⊢
 unfold J5b without
 induction r with
 | nil=>exact .nil
 | @cons p q ps qs h t ih =>
  obtain⟨h1,h2⟩:=h
  rw[List.filter_cons,List.filter_cons]
  by_cases e:p.1=k
  ·have a:¬decide (p.1≠k)=true:=by simp[e]
   have b:¬decide (q.1≠k)=true:=by simp[h1.symm.trans e]
   rw[if_neg a,if_neg b];exact ih
  ·have e':¬q.1=k:=λ z=>e (h1.trans z)
   have a:decide (p.1≠k)=true:=by simp[e]
   have b:decide (q.1≠k)=true:=by simp[e']
   rw[if_pos a,if_pos b];exact .cons ⟨h1,h2⟩ ih
theorem KV.keys {kvs:List (κ×V)}{vs:List (κ×Value)}(r:KV kvs vs):kvs.map (·.1)=vs.map (·.1):=by
 unfold KV at r
 induction r with
 | nil=>rfl
 | cons h t ih=>rw[List.map_cons,List.map_cons,ih,h.1]
theorem KV.length {kvs:List (κ×V)}{vs:List (κ×Value)}(r:KV kvs vs):kvs.length=vs.length:=Paired.length r
end
theorem Jy5 {P:Program}{w:World}{k:Key}{u:Value}(r:RelV (kV k) u):(Jbc P w).is k u=true:=by
 cases k with
 | inl i=>obtain⟨t,e⟩:=(show ∃t,u=Value.int i t from r);subst e;exact Jqs P w i t
 | inr x=>obtain⟨t,e⟩:=(show ∃t,u=Value.str x t from r);subst e;exact Jqt P w x t
noncomputable abbrev KT (H:Hp):List (List Key×V)->List (List Key×Addr×Value)->Prop:=Paired λ p q=>p.1=q.1/\H q.2.1=some (.tup (p.1.map kV))/\RelV p.2 q.2.2
theorem KT.val {H:Hp}{kvs:List (List Key×V)}{xs:List (List Key×Addr×Value)}(r:KT H kvs xs) (k:List Key):RelO (valV kvs k) ((atKey xs k).map (·.2)):=by
 induction r with
 | nil=>exact True.intro
 | @cons p q ps qs h t ih =>
  obtain⟨h1,_,h2⟩:=h
  by_cases e:p.1=k
  ·have e':q.1=k:=h1.symm.trans e
   have b:atKey (q::qs) k=some q.2:=by simp[atKey,List.find?_cons,e']
   rw[Jjo e,b];exact h2
  ·have e':¬q.1=k:=λ z=>e (h1.trans z)
   have b:atKey (q::qs) k=atKey qs k:=by simp[atKey,List.find?_cons,e']
   rw[Jjn e,b];exact ih
theorem KT.repl {H:Hp}{kvs:List (List Key×V)}{xs:List (List Key×Addr×Value)}(r:KT H kvs xs) (k:List Key){y:V}{u:Value}(ry:RelV y u) :
  KT H (kvs.map λ kv=>if kv.1=k then(kv.1,y) else kv) (xs.map (putAt k u)):=by
 induction r with
 | nil=>exact .nil
 | @cons p q ps qs h t ih =>
  rw[List.map_cons,List.map_cons]
  refine .cons ?_ ih
  obtain⟨h1,h2,h3⟩:=h
  unfold putAt
  by_cases e:p.1=k
  ·rw[if_pos e,if_pos (h1.symm.trans e)];exact⟨h1,h2,ry⟩
  ·rw[if_neg e,if_neg (λ z=>e (h1.trans z))];exact⟨h1,h2,h3⟩
theorem KT.put {H:Hp}{kvs:List (List Key×V)}{xs:List (List Key×Addr×Value)}(r:KT H kvs xs) (k:List Key){b:Addr}{y:V}{u:Value}(hb:H b=some (.tup (k.map kV))) (ry:RelV y u) :
  KT H (putK kvs k y) (storedH xs k b u):=by
 have e:(kvs.any λ kv=>decide (kv.1=k))=(atKey xs k).isSome:=by
  rw[Jjm,(r.val k).isSome_eq,Option.isSome_map]
 unfold putK storedH
 rw[e]
 by_cases q:(atKey xs k).isSome=true
 ·rw[if_pos q,if_pos q];exact r.repl k ry
 ·rw[if_neg q,if_neg q];exact Paired.snoc r ⟨rfl,hb,ry⟩
theorem KT.keeps {H H':Hp}{kvs:List (List Key×V)}{xs:List (List Key×Addr×Value)}(r:KT H kvs xs) (ht:∀b ys,H b=some (.tup ys)->H' b=some (.tup ys)):KT H' kvs xs :=
 Paired.mapP r λ _ _ z=>⟨z.1,ht _ _ z.2.1,z.2.2⟩
section
variable {P:Program}{w:World}{H:Hp}{h:Heap}{a:Addr}
theorem rd_of {u:HO}(ok:HOk P w H h) (e:Rd H a u):Jbn P w H h a u:=e.ok ok
theorem dk_rd {kvs:List (Key×V)}(ok:HOk P w H h) (e:Rd H a (.dK kvs)):kvs.length<=sizeLine/\(a==sysModules)=false/\∃vs,KV kvs vs/\h.DictOf (Jbc P w) a vs :=
 show Jbn P w H h a (.dK kvs) from rd_of ok e
theorem Jye {kvs:List (Key×V)}(ok:HOk P w H h) (e:H a=some (.dK kvs)):kvs.length<=sizeLine/\(a==sysModules)=false/\∃vs,KV kvs vs/\h.DictOf (Jbc P w) a vs:=dk_rd ok (.inl e)
end
noncomputable def DGet (H:Hp) (a:Addr) (y:V) (r:Option V):Prop :=
 (∃kvs k,Rd H a (.dK kvs)/\y=kV k/\r=valV kvs k)∨∃kvs k b,Rd H a (.dT kvs)/\y=.ref b/\H b=some (.tup (k.map kV))/\r=valV kvs k
noncomputable def DPut (H:Hp) (a:Addr) (y v:V) (H':Hp):Prop :=
 (∃kvs k,H a=some (.dK kvs)/\y=kV k/\kvs.length<sizeLine/\H'=upd H a (.dK (putK kvs k v))) ∨
 ∃kvs k b,H a=some (.dT kvs)/\y=.ref b/\H b=some (.tup (k.map kV))/\kvs.length<sizeLine/\H'=upd H a (.dT (putK kvs k v))
theorem DGet.k {H:Hp}{a:Addr}{kvs:List (Key×V)}{k:Key}(e:H a=some (.dK kvs)):DGet H a (kV k) (valV kvs k):=.inl ⟨kvs,k,.inl e,rfl,rfl⟩
theorem DGet.t {H:Hp}{a b:Addr}{kvs:List (List Key×V)}{k:List Key}(e:H a=some (.dT kvs)) (eb:H b=some (.tup (k.map kV))):DGet H a (.ref b) (valV kvs k):=.inr ⟨kvs,k,b,.inl e,rfl,eb,rfl⟩
theorem DPut.k {H:Hp}{a:Addr}{kvs:List (Key×V)}{k:Key}{v:V}(e:H a=some (.dK kvs)) (hl:kvs.length<sizeLine):DPut H a (kV k) v (upd H a (.dK (putK kvs k v))):=.inl ⟨kvs,k,e,rfl,hl,rfl⟩
theorem DPut.t {H:Hp}{a b:Addr}{kvs:List (List Key×V)}{k:List Key}{v:V}(e:H a=some (.dT kvs)) (eb:H b=some (.tup (k.map kV))) (hl:kvs.length<sizeLine) :
  DPut H a (.ref b) v (upd H a (.dT (putK kvs k v))):=.inr ⟨kvs,k,b,e,rfl,eb,hl,rfl⟩
section
variable {X:Cx}{pins:List (Addr×Obj)}{σ:St}{H:Hp}{s:Shared}{a:Addr}{y v:V}{u r:Value}{o:Option V}{A:Around}{E:Value->Shared->Prop}
theorem Inv.big (I:Inv X pins σ H s):sysModules<s.heap.objs.size:=by
 have h:mainGlobals<s.heap.objs.size:=(I.mod.glob.keeps I.bk).lt
 exact Nat.lt_trans (by decide) h
theorem Jqj {h':Heap}{t':Nat}{ob:HO}(I:Inv X pins σ H s) (mu:Mut (H a)) (hs:Heap.SameBut a s.heap h') (he:∃q,h'.get? a=some q) (new:Jbn X.prog X.w (upd H a ob) h' a ob) :
  Inv X pins σ (upd H a ob) { s with heap:=h',toks:=t' } :=
 I.write (x:=a) (e:=a) mu (.inl rfl) (λ b q hb z=>(hs.2 b hb).trans z) he new
theorem Ju9 {P:Program}{w:World}{H':Hp}{h':Heap}{kvs:List (Key×V)}{vs:List (Key×Value)}(z:kvs.length<=sizeLine) (hd:(a==sysModules)=false) (rel:KV kvs vs) (dd:h'.DictOf (Jbc P w) a vs) :
  Jbn P w H' h' a (.dK kvs):=⟨z,hd,vs,rel,dd⟩
end
section
variable {X:Cx}{pins:List (Addr×Obj)}{σ:St}{H:Hp}{s:Shared}{a:Addr}{kvs:List (Key×V)}{k:Key}{u:Value}{A:Around}{E:Value->Shared->Prop}
end
section
variable {X:Cx}{o i e value:Expr}{pos pos' tpos:Pos}{td ty tv:TE}
end
theorem Jr0 {P:Program}{w:World}{H:Hp}(h:Heap) (hb:sysModules<h.objs.size):Jbn P w H (h.push { cls:=.type "dict",data:=.dict #[] }) h.objs.size (.dK []) :=
 ⟨Nat.zero_le _,beq_eq_false_iff_ne.mpr (Ne.symm (Nat.ne_of_lt hb)),[],.nil,Heap.DictOf.new h⟩
section
variable {X:Cx}{pos:Pos}
end
noncomputable abbrev VV:List (V×V)->List (Value×Value)->Prop:=Paired λ p q=>RelV p.1 q.1/\RelV p.2 q.2
noncomputable def Jlw (kvs more:List (Key×V)):List (Key×V):=more.foldl (λ acc kv=>putK acc kv.1 kv.2) kvs
theorem KV.merge:∀{more:List (Key×V)}{rs:List (Key×Value)}{kvs:List (Key×V)}{vs:List (Key×Value)},KV more rs->KV kvs vs->KV (Jlw kvs more) (merged vs rs):=by
 intro more rs kvs vs r
 unfold KV at r
 induction r generalizing kvs vs with
 | nil=>intro q;exact q
 | @cons p q ps qs h t ih =>
  intro r0
  have e:KV (putK kvs p.1 p.2) (stored vs q.1 q.2):=by
   have:=r0.put p.1 h.2
   rw[<- h.1];exact this
  exact ih e
theorem Jhs:∀(more kvs:List (Key×V)),(Jlw kvs more).length<=kvs.length+more.length
 | [],kvs=>by show kvs.length<=kvs.length+0;omega
 | p::r,kvs=>by
  have h1:=Jhs r (putK kvs p.1 p.2)
  have h2:=Jkd kvs p.1 p.2
  show(Jlw (putK kvs p.1 p.2) r).length<=_
  rw[List.length_cons];omega
theorem Jln {P:Program}{w:World}:∀{kvs:List (Key×V)}{ws:List (Value×Value)},VV (kvs.map λ kv=>(kV kv.1,kv.2)) ws->∃rs,Carries (Jbc P w) ws rs/\KV kvs rs
 | [],_,r=>by rw[List.map_nil] at r;cases r;exact⟨[],True.intro,.nil⟩
 | p::kvs,_,r=>by
  rw[List.map_cons] at r
  cases r with
  | @cons a b as bs h t =>
   obtain⟨rs,c,q⟩:=Jln (P:=P) (w:=w) t
   obtain⟨b1,b2⟩:=b
   exact⟨(p.1,b2)::rs,⟨Jy5 h.1,rfl,c⟩,.cons ⟨rfl,h.2⟩ q⟩
structure M1 (X:Cx) (o:Expr) (m:Str) (apos:Pos) (e:Expr) (cpos:Pos):Prop where
 base:attributeBase o m X.env (eval o X.env)=eval o X.env
 few:((backTo cpos (starEach [e] X.env)).all (λ x=>!x.1)&&(backToKw cpos (keywordEach [] X.env)).all (λ x=>x.1.isSome)
  && decide (([e]:List Expr).length+([]:List Keyword).length+(if ([]:List Keyword).isEmpty then 0 else 1)<30))=true
 line:(apos.endLine==cpos.line)=true
 trees:backTo cpos (starEach [e] X.env)=[(false,eval e X.env)]
structure M2 (X:Cx) (o:Expr) (m:Str) (apos:Pos) (e f:Expr) (cpos:Pos):Prop where
 base:attributeBase o m X.env (eval o X.env)=eval o X.env
 few:((backTo cpos (starEach [e,f] X.env)).all (λ x=>!x.1)&&(backToKw cpos (keywordEach [] X.env)).all (λ x=>x.1.isSome)
  && decide (([e,f]:List Expr).length+([]:List Keyword).length+(if ([]:List Keyword).isEmpty then 0 else 1)<30))=true
 line:(apos.endLine==cpos.line)=true
 trees:backTo cpos (starEach [e,f] X.env)=[(false,eval e X.env),(false,eval f X.env)]
section
variable {X:Cx}{pins:List (Addr×Obj)}{σ:St}{H:Hp}{s:Shared}{a:Addr}{y d:V}{u r:Value}{o:Option V}{A:Around}{E:Value->Shared->Prop}
end
section
variable {X:Cx}{o e f:Expr}{apos cpos:Pos}{td ty tx:TE}
end
section
variable {X:Cx}{pins:List (Addr×Obj)}{σ:St}{H:Hp}{s:Shared}{a:Addr}{kvs:List (Key×V)}{A:Around}{E:Value->Shared->Prop}
end
end L2
namespace Att
open PySem PySem.W PySem.Calls PyProof.Rows
theorem Jka {P:Params}{h:Heap}:∀(ns:List Int) (vs:List Value),WellAll P h vs (ns.map WData.int)->IntsAre vs ns:=by
 intro ns
 induction ns with
 | nil =>
  intro vs w
  rw[List.map_nil] at w
  cases w
  exact .nil
 | cons n ns ih =>
  intro vs w
  rw[List.map_cons] at w
  cases w with
  | cons a b =>
   cases a
   exact .cons _ _ (ih _ b)
theorem Jws {l:OpenLaw}{n:Nat}(hn:l.most=some n){P:Params}{h:Heap}{args:List WData}{vals:List Value}
  (hpre:l.row.toRowW.claim.pre args=true) (hwl:WellAll P h vals args) :
  ∃a vs ns,vals=[Value.ref a]/\args=[WData.list (ns.map WData.int)]/\h.get? a=some { cls:=.type "list",data:=.seq vs.toArray }/\IntsAre vs ns/\ns.length<=n:=by
 have hsh:WShape.hasAll [] args [.list .int]=true:=(pre_splitW hpre).1
 have hc:l.pre.holds [] { args:=args }=true:=(pre_splitW hpre).2
 obtain⟨d,r,rfl,h1,h2⟩:=hasAllW_cons hsh
 obtain rfl:=hasAllW_nil h2
 obtain⟨xs,rfl,h3⟩:=hasW_list h1
 obtain⟨ns,rfl⟩:=items_int h3
 have hlen:ns.length<=n:=by
  unfold OpenLaw.pre at hc
  have h4:(WTm.not (.lt (.lit (.int (n:Int))) (.len (.arg 0)))).holds [] { args:=[.list (ns.map .int)] }=true:=by
   have h4:=(holds_andW hc).1
   rw[hn] at h4
   exact h4
  have h5:=condW_of h4 (w_not (w_lt w_lit (w_len_list (w_arg rfl))))
  rw[List.length_map] at h5
  refine Nat.le_of_not_lt λ q=>?_
  have q':(n:Int)<((ns.length:Nat):Int):=by omega
  first
   | (rw[decide_eq_true q'] at h5;exact absurd h5 (by decide))
   | (simp at h5;omega)
 cases hwl with
 | cons w1 w2 =>
  cases w2
  cases w1 with
  | list ho hall=>exact⟨_,_,ns,rfl,rfl,ho,Jka ns _ hall,hlen⟩
theorem Jwn (l:OpenLaw) (args:List WData):l.row.toRowW.claim.post args (.bool true) args=true :=
 postW_of (r:=l.row.toRowW) (X:=(true==true))
  (show WShape.has [] (.bool true) .bool=true by first|rfl|decide|simp[WShape.has,WShape.arms,WShape.armsAll])
  (show(WTm.eq .res (.lit (.bool true))).value [] { args:=args,res:=some (.bool true),after:=args }=some (.bool (true==true)) from w_eq_bool (w_res rfl) w_lit) rfl
theorem attach_call {l:OpenLaw}{n:Nat}{q:Program}{loose:List Str}{XP:(Str->Option Value)->Heap->Prop}{YP:World->Heap->Prop}{d:DefRec}
  (hn:l.most=some n) (hdf:d.params.defaults=[])
  (call:∀(w:World) (s₀ s₁:Shared) (mg mb:Str->Option Value) (fa:Addr) (o:Obj) (pm cd doc:Value) (a:Addr) (vs:List Value) (ns:List Int),
   Ground q loose [] XP w s₀ mg mb s₁.heap->YP w s₁.heap ->
   s₁.heap.get? fa=some o->o.data=.func (docDef d.name d.params d.body d.scope pm cd doc)->s₁.heap.CodeRec cd d.name->mg d.name=some (.ref fa) ->
   s₁.heap.get? a=some { cls:=.type "list",data:=.seq vs.toArray }->IntsAre vs ns->ns.length<=n->s₁.gens=#[] ->
   codeAny (model l.prog w) callerA (.call (.ref fa) ⟨[.ref a],[]⟩) (λ r s'=>r=.ok (.ret (.bool true))/\OldK s₁.heap s'.heap/\s'.os=s₁.os/\AllBare s'.gens) s₁) :
  WalkO q loose XP YP l.row.toRowW d [] (λ f vs=>PySem.call f vs):=by
 intro w s₀ s₁ mg mb G Y fa o pm cd doc dV kV ho hd hcd hD hmg hg args vals as hpre hlay hrd hwl hlo
 obtain rfl:dV=.none:=Dflts.none hD hdf
 obtain rfl:kV=.none:=Dflts.noKw hD
 obtain⟨a,vs,ns,rfl,rfl,hobj,hints,hlen⟩:=Jws hn hpre hwl
 refine enter_call (codeAny_mono (call w s₀ s₁ mg mb fa o pm cd doc a vs ns G Y ho (fd_plain hd) hcd hmg hobj hints hlen hg) λ r s' hq=>?_)
 obtain⟨rfl,h2,h3,h4⟩:=hq
 exact⟨.inl ⟨.bool true,.bool true,[],rfl,λ _=>rfl,.bool true,Jwn l _,λ _=>⟨List.Pairwise.nil,λ _ hm=>(nomatch hm)⟩⟩,h2,h3,h4⟩
section
variable {prog:Program}{w:World}{A:Around}{E:Value->Shared->Prop}{s:Shared}{K:Frag}
end
end Att
namespace L2
open PySem PySem.Spec PyProof.Rows
theorem Jfb:∀{vs:List Value}{ns:List Int},IntsAre vs ns->Vals (ns.map V.int) vs
 | _,_,.nil=>.nil
 | _,_,.cons n t h=>.cons ⟨t,rfl⟩ (Jfb h)
noncomputable def Je3 (s:Stmt) (j:Nat):Stmt:=match s with
 | .ClassDef _ _ _ body _ _ _ _ _ _ _=>body.getD j (.Pass ⟨0,0,0,0⟩)
 | _=>.Pass ⟨0,0,0,0⟩
noncomputable def Jam (s:Stmt):Arguments:=match s with
 | .FunctionDef _ a _ _ _ _ _ _ _ _=>a
 | _=>{ posonlyargs:=[],args:=[],vararg:=none,kwonlyargs:=[],kw_defaults:=[],kwarg:=none,defaults:=[] }
noncomputable def J4 (s:Stmt):List Stmt:=match s with
 | .FunctionDef _ _ b _ _ _ _ _ _ _=>b
 | _=>[]
noncomputable def Jj (s:Stmt):Scope:=match s with
 | .FunctionDef _ _ _ _ _ _ sc _ _ _=>sc
 | _=>{ kind:=.function,names:=[],isGenerator:=false,isCoroutine:=false }
noncomputable abbrev CX0:CXT:=λ _ _ _ _ _ _=>False
structure Fun (K:W.Frag) (x qual:Str) (st:Stmt) (f:Addr) (fd:FuncData):Prop where
 ex:∃(oc:Value) (od:Option Addr) (kV doc pm:Value) (an:Option Addr) (cdv ct:Value) (osl:Array (Option Value)),
  fd=W.fnOf x qual (Jam st) (J4 st) (Jj st) .none kV doc pm an cdv ct/\K.lookup f=some ⟨oc,od,.func fd,osl⟩/\W.codeIn K cdv qual=true
 kp:W.keepIn K (.ref f)=true
section
variable {P:Program}{w:World}{K:W.Frag}{mg:Str->Option Value}{base:Heap}
theorem Fun.ok {x qual:Str}{st:Stmt}{f:Addr}{fd:FuncData}{N ps:List Str}{k:Nat}{sp:Sp}(F:Fun K x qual st f fd) (S:FnScope N ps (Jj st)) (len:∀vs H Q E,sp vs H Q E->vs.length=ps.length)
  (hbody:∀(cdv:Value) (A:Around) (outer:List Env) (s:Shared) (H:Hp) (vs:List V) (Q:VK) (E:XK),Room k (A.deeper (envOfC qual (Jj st) s.heap.objs.size f cdv))->sp vs H Q E ->
   ∃t,PSs (cxOf CX0 P w K mg base N qual (Jj st) f cdv A outer s H E).nox (J4 st) t/\t { nx:=λ _ H'=>Q .non H',rt:=Q } (start N vs) H):FnOk P w K mg base CX0 (k+1) f fd ps sp:=by
 obtain⟨oc,od,kV,doc,pm,an,cdv,ct,osl,rfl,lk,hcd⟩:=F.ex
 refine J5g lk hcd S len λ A outer s H vs Q E hr hsp=>?_
 obtain⟨t,h,q⟩:=hbody cdv A outer s H vs Q E hr hsp
 exact⟨t,h.nox,q⟩
theorem Fun.binds {x qual:Str}{st:Stmt}{f:Addr}{fd:FuncData}{ps:List Str}(F:Fun K x qual st f fd)
  (h:∀(kV doc pm:Value) (an:Option Addr) (cdv ct:Value) (us:List Value),us.length=ps.length->bindArgs (W.fnOf x qual (Jam st) (J4 st) (Jj st) .none kV doc pm an cdv ct) ⟨us,[]⟩=pure (ps.zip us)):Jd6 K fd ps []:=by
 obtain⟨oc,od,kV,doc,pm,an,cdv,ct,osl,rfl,lk,hcd⟩:=F.ex
 exact .all (h kV doc pm an cdv ct)
end
section
variable {X:Cx}
end
noncomputable def Same (H H':Hp):Prop:=∀b o,H b=some o->H' b=some o
theorem Same.refl (H:Hp):Same H H:=λ _ _ h=>h
theorem Same.trans {H H1 H2:Hp}(a:Same H H1) (b:Same H1 H2):Same H H2:=λ c o h=>b c o (a c o h)
theorem Same.free {H H':Hp}(e:Same H H'){l:Addr}(h:H' l=Option.none):H l=Option.none:=by
 cases q:H l with
 | none=>rfl
 | some o =>
  rw[e l o q] at h
  cases h
theorem Same.seq {K:W.Frag}{H H':Hp}{a:Addr}{xs:List V}(e:Same H H') (h:SqL K H a xs):SqL K H' a xs:=by
 rcases h with(h|⟨o,h⟩)|h
 ·exact .inl (.inl (e _ _ h))
 ·exact .inl (.inr ⟨o,e _ _ h⟩)
 ·exact .inr h
end L2
set_option maxHeartbeats 4000000
namespace L3
open PySem PySem.Spec PyProof.Rows L2
inductive IV where
 | non|bl (b:Bool)|int (i:Int)|str (x:Str)|tup (xs:List IV)|rol (xs:List IV)|ref (i:Nat)
inductive IO where
 | lst (xs:List IV)
 | ins (c:Str) (fs:List (Str×IV))
 | dct (kvs:List (Key×IV))
 | exc (c:Str) (fs:List (Str×IV))
 | tab (q:Str)
 | hld (c:Str) (fs:List (Str×IV))
noncomputable abbrev IH:=List IO
noncomputable abbrev ISt:=List (Option IV)
inductive Res (α:Type) where
 | ok (a:α) (h:IH)|exc (n:Nat) (h:IH)|stuck
noncomputable def Res.bind {α β:Type}:Res α->(α->IH->Res β)->Res β
 | .ok a h,f=>f a h
 | .exc n h,_=>.exc n h
 | .stuck,_=>.stuck
inductive SRes where
 | next (σ:ISt) (h:IH)|ret (v:IV) (h:IH)|brk (σ:ISt) (h:IH)|cont (σ:ISt) (h:IH)|exc (n:Nat) (σ:ISt) (h:IH)|stuck
noncomputable def SqR (K:W.Frag) (H:Hp) (a:Addr) (xs:List V):Prop :=
 (∃o,H a=some (.frz o (.lst xs))) ∨
  ∃(o:Obj) (its:Array Value) (n:Nat),K.lookup a=some o/\o.cls=.type "list"/\o.dict=none/\o.data=.seq its n/\its.size<=sizeLine/\Vals xs its.toList
theorem SqR.sq {K:W.Frag}{H:Hp}{a:Addr}{xs:List V}(h:SqR K H a xs):SqL K H a xs:=by
 rcases h with⟨o,h⟩|h
 ·exact .inl (.inr ⟨o,h⟩)
 ·exact .inr h
mutual
noncomputable def RV (K:W.Frag) (ι:List Addr) (H:Hp):IV->V->Prop
 | .non,v=>v=.non
 | .bl b,v=>v=.bl b
 | .int i,v=>v=.int i
 | .str x,v=>v=.str x
 | .tup xs,v=>∃a vs,v=.ref a/\SqT K H a vs/\RVs K ι H xs vs
 | .rol xs,v=>∃a vs,v=.ref a/\SqR K H a vs/\RVs K ι H xs vs
 | .ref i,v=>∃a,v=.ref a/\ι[i]?=some a
noncomputable def RVs (K:W.Frag) (ι:List Addr) (H:Hp):List IV->List V->Prop
 | [],vs=>vs=[]
 | x::xs,vs=>∃v r,vs=v::r/\RV K ι H x v/\RVs K ι H xs r
end
structure Ext (H H':Hp):Prop where
 tups:∀b xs,H b=some (.tup xs)->H' b=some (.tup xs)
 frzs:∀b o u,H b=some (.frz o u)->H' b=some (.frz o u)
structure Nxt (ι:List Addr) (H:Hp) (ι':List Addr) (H':Hp):Prop where
 pre:∃m,ι'=ι++m
 ext:Ext H H'
theorem Nxt.refl {ι:List Addr}{H:Hp}:Nxt ι H ι H:=⟨⟨[],by simp⟩,⟨λ _ _ h=>h,λ _ _ _ h=>h⟩⟩
theorem Nxt.trans {ι ι1 ι2:List Addr}{H H1 H2:Hp}(a:Nxt ι H ι1 H1) (b:Nxt ι1 H1 ι2 H2):Nxt ι H ι2 H2:=by
 obtain⟨⟨m,e⟩,x⟩:=a
 obtain⟨⟨m',e'⟩,y⟩:=b
 exact⟨⟨m++m',by rw[e',e,List.append_assoc]⟩,⟨λ b xs h=>y.tups b xs (x.tups b xs h),λ b o u h=>y.frzs b o u (x.frzs b o u h)⟩⟩
theorem Nxt.at {ι ι':List Addr}{H H':Hp}(n:Nxt ι H ι' H'){i:Nat}{a:Addr}(h:ι[i]?=some a):ι'[i]?=some a:=by
 obtain⟨⟨m,e⟩,_⟩:=n
 subst e
 rw[List.getElem?_append_left (List.getElem?_eq_some_iff.mp h).1]
 exact h
theorem Ext.rd {H H':Hp}(x:Ext H H'){a:Addr}{xs:List V}(h:Rd H a (.tup xs)):Rd H' a (.tup xs):=by
 rcases h with h|⟨o,h⟩
 ·exact .inl (x.tups _ _ h)
 ·exact .inr ⟨o,x.frzs _ _ _ h⟩
theorem Ext.sqT {K:W.Frag}{H H':Hp}(x:Ext H H'){a:Addr}{xs:List V}(h:SqT K H a xs):SqT K H' a xs:=by
 rcases h with h|h
 ·exact .inl (x.rd h)
 ·exact .inr h
theorem Ext.sqR {K:W.Frag}{H H':Hp}(x:Ext H H'){a:Addr}{xs:List V}(h:SqR K H a xs):SqR K H' a xs:=by
 rcases h with⟨o,h⟩|h
 ·exact .inl ⟨o,x.frzs _ _ _ h⟩
 ·exact .inr h
mutual
theorem RV.mono {K:W.Frag}{ι ι':List Addr}{H H':Hp}(n:Nxt ι H ι' H'):∀(x:IV) (v:V),RV K ι H x v->RV K ι' H' x v
 | .non,_,h=>h
 | .bl _,_,h=>h
 | .int _,_,h=>h
 | .str _,_,h=>h
 | .tup xs,_,h=>by
  obtain⟨a,vs,e,q,r⟩:=h
  exact⟨a,vs,e,n.ext.sqT q,RVs.mono n xs vs r⟩
 | .rol xs,_,h=>by
  obtain⟨a,vs,e,q,r⟩:=h
  exact⟨a,vs,e,n.ext.sqR q,RVs.mono n xs vs r⟩
 | .ref i,_,h=>by
  obtain⟨a,e,q⟩:=h
  exact⟨a,e,n.at q⟩
theorem RVs.mono {K:W.Frag}{ι ι':List Addr}{H H':Hp}(n:Nxt ι H ι' H'):∀(xs:List IV) (vs:List V),RVs K ι H xs vs->RVs K ι' H' xs vs
 | [],_,h=>h
 | x::xs,_,h=>by
  obtain⟨v,r,e,q,t⟩:=h
  exact⟨v,r,e,RV.mono n x v q,RVs.mono n xs r t⟩
end
theorem RVs.length {K:W.Frag}{ι:List Addr}{H:Hp}:∀{xs:List IV}{vs:List V},RVs K ι H xs vs->vs.length=xs.length
 | [],_,h=>by
  have e:_=[]:=h
  subst e
  rfl
 | x::xs,_,h=>by
  obtain⟨v,r,e,_,t⟩:=h
  subst e
  simp[RVs.length t]
theorem RVs.get {K:W.Frag}{ι:List Addr}{H:Hp}:∀{xs:List IV}{vs:List V}{i:Nat}{x:IV},RVs K ι H xs vs->xs[i]?=some x->∃v,vs[i]?=some v/\RV K ι H x v
 | [],_,_,_,_,e=>by simp at e
 | x::xs,_,0,y,h,e=>by
  obtain⟨v,r,e1,q,t⟩:=h
  subst e1
  simp at e
  subst e
  exact⟨v,rfl,q⟩
 | x::xs,_,i+1,y,h,e=>by
  obtain⟨v,r,e1,q,t⟩:=h
  subst e1
  obtain⟨u,h1,h2⟩:=RVs.get (i:=i) (x:=y) t (by simpa using e)
  exact⟨u,by simpa using h1,h2⟩
theorem RVs.get' {K:W.Frag}{ι:List Addr}{H:Hp}{xs:List IV}{vs:List V}{i:Nat}{v:V}(h:RVs K ι H xs vs) (e:vs[i]?=some v):∃x,xs[i]?=some x/\RV K ι H x v:=by
 have hl:=h.length
 have hi:i<vs.length:=(List.getElem?_eq_some_iff.mp e).1
 have hx:xs[i]?=some xs[i]:=List.getElem?_eq_getElem (by omega)
 obtain⟨u,h1,h2⟩:=h.get hx
 rw[e] at h1
 cases h1
 exact⟨_,hx,h2⟩
theorem RVs.append {K:W.Frag}{ι:List Addr}{H:Hp}:∀{xs ys:List IV}{vs us:List V},RVs K ι H xs vs->RVs K ι H ys us->RVs K ι H (xs++ys) (vs++us)
 | [],_,_,_,h,g=>by
  have e:_=[]:=h
  subst e
  exact g
 | x::xs,_,_,_,h,g=>by
  obtain⟨v,r,e,q,t⟩:=h
  subst e
  exact⟨v,_,rfl,q,RVs.append t g⟩
theorem RVs.take {K:W.Frag}{ι:List Addr}{H:Hp}:∀{xs:List IV}{vs:List V}(n:Nat),RVs K ι H xs vs->RVs K ι H (xs.take n) (vs.take n)
 | _,_,0,_=>by simp;exact rfl
 | [],_,n+1,h=>by
  have e:_=[]:=h
  subst e
  exact rfl
 | x::xs,_,n+1,h=>by
  obtain⟨v,r,e,q,t⟩:=h
  subst e
  exact⟨v,r.take n,rfl,q,RVs.take n t⟩
theorem RVs.drop {K:W.Frag}{ι:List Addr}{H:Hp}:∀{xs:List IV}{vs:List V}(n:Nat),RVs K ι H xs vs->RVs K ι H (xs.drop n) (vs.drop n)
 | _,_,0,h=>h
 | [],_,n+1,h=>by
  have e:_=[]:=h
  subst e
  exact rfl
 | x::xs,_,n+1,h=>by
  obtain⟨v,r,e,q,t⟩:=h
  subst e
  exact RVs.drop n t
theorem RVs.set {K:W.Frag}{ι:List Addr}{H:Hp}{x:IV}{v:V}(q:RV K ι H x v):∀{xs:List IV}{vs:List V}(i:Nat),RVs K ι H xs vs->RVs K ι H (xs.set i x) (vs.set i v)
 | [],_,_,h=>by
  have e:_=[]:=h
  subst e
  exact rfl
 | y::xs,_,0,h=>by
  obtain⟨u,r,e,_,t⟩:=h
  subst e
  exact⟨v,r,rfl,q,t⟩
 | y::xs,_,i+1,h=>by
  obtain⟨u,r,e,p,t⟩:=h
  subst e
  exact⟨u,r.set i v,rfl,p,RVs.set q i t⟩
theorem RVs.one {K:W.Frag}{ι:List Addr}{H:Hp}{x:IV}{v:V}(q:RV K ι H x v):RVs K ι H [x] [v]:=⟨v,[],rfl,q,rfl⟩
theorem RVs.ints {K:W.Frag}{ι:List Addr}{H:Hp}:∀(ns:List Int),RVs K ι H (ns.map IV.int) (ns.map V.int)
 | []=>rfl
 | _::ns=>⟨_,_,rfl,rfl,RVs.ints ns⟩
noncomputable def RPs {κ:Type}(K:W.Frag) (ι:List Addr) (H:Hp):List (κ×IV)->List (κ×V)->Prop
 | [],vs=>vs=[]
 | x::xs,vs=>∃v r,vs=(x.1,v)::r/\RV K ι H x.2 v/\RPs K ι H xs r
theorem RPs.mono {κ:Type}{K:W.Frag}{ι ι':List Addr}{H H':Hp}(n:Nxt ι H ι' H'):∀(xs:List (κ×IV)) (vs:List (κ×V)),RPs K ι H xs vs->RPs K ι' H' xs vs
 | [],_,h=>h
 | x::xs,_,h=>by
  obtain⟨v,r,e,q,t⟩:=h
  exact⟨v,r,e,RV.mono n _ v q,RPs.mono n xs r t⟩
theorem RPs.length {κ:Type}{K:W.Frag}{ι:List Addr}{H:Hp}:∀{xs:List (κ×IV)}{vs:List (κ×V)},RPs K ι H xs vs->vs.length=xs.length
 | [],_,h=>by
  have e:_=[]:=h
  subst e
  rfl
 | x::xs,_,h=>by
  obtain⟨v,r,e,_,t⟩:=h
  subst e
  simp[RPs.length t]
theorem RPs.lookup {κ:Type}[BEq κ] {K:W.Frag}{ι:List Addr}{H:Hp}{f:κ}:∀{xs:List (κ×IV)}{vs:List (κ×V)},RPs K ι H xs vs ->
  (∀x,xs.lookup f=some x->∃v,vs.lookup f=some v/\RV K ι H x v)/\(xs.lookup f=none->vs.lookup f=none)
 | [],_,h=>by
  have e:_=[]:=h
  subst e
  exact⟨λ x e=>by simp at e,λ _=>rfl⟩
 | (k,x)::xs,_,h=>by
  obtain⟨v,r,e,q,t⟩:=h
  subst e
  have ih:=RPs.lookup (f:=f) t
  simp only[List.lookup_cons]
  cases hb:f==k with
  | true=>exact⟨λ y e=>by cases e;exact⟨v,rfl,q⟩,λ e=>by cases e⟩
  | false=>exact ih
noncomputable def Jb9 (H:Hp) (q:Str) (cv:Value):Prop:=∃c oc vs t,cv=.ref c/\H c=some (.frz oc (.own 0))/\oc.data=.fields vs/\vs[1]?=some (.str (q++".<locals>."++"<lambda>") t)
noncomputable def TabO (K:W.Frag) (H:Hp) (q:Str) (a:Addr):Prop:=(∀cdv,W.codeIn K cdv q=true->∃c,cdv=.ref c/\W.codeHdIn K c a=true) /\
 ∃ps,H a=some (.tbl ps)/\TriplesOk ps.toList/\∀pos cv,codeAmong pos ps.toList=some cv->Jb9 H q cv
theorem TabO.mono {K:W.Frag}{H H':Hp}{q:Str}{a:Addr}(fz:∀b o u,H b=some (.frz o u)->H' b=some (.frz o u)) (k:∀u,H a=some u->H' a=some u) (h:TabO K H q a):TabO K H' q a:=by
 obtain⟨h1,ps,e,ht,hc⟩:=h
 refine⟨h1,ps,k _ e,ht,λ pos cv q=>?_⟩
 obtain⟨c,oc,vs,t,e1,e2,r⟩:=hc pos cv q
 exact⟨c,oc,vs,t,e1,fz _ _ _ e2,r⟩
noncomputable def ExF (a C:Addr) (tv:Value) (d:Option Addr):HO:=.ext λ h=>∃oe vs,h.get? a=some oe/\oe.cls=.ref C/\oe.data=.fields vs/\vs[1]?=some tv/\vs[2]?=some .none/\oe.dict=d
noncomputable def XdOk (H:Hp) (d:Option Addr) (fs:List (Str×IV)):Prop:=(fs=[]/\d=none)∨∃f i dx od t,fs=[(f,.int i)]/\d=some dx/\H dx=some (.frz od (.own 0))/\W.lookIn f od=some (some (.int i t))
theorem XdOk.mono {H H':Hp}{d:Option Addr}{fs:List (Str×IV)}(fz:∀b o u,H b=some (.frz o u)->H' b=some (.frz o u)) (h:XdOk H d fs):XdOk H' d fs:=by
 rcases h with h|⟨f,i,dx,od,t,e,q,r,z⟩
 ·exact .inl h
 ·exact .inr ⟨f,i,dx,od,t,e,q,fz _ _ _ r,z⟩
noncomputable def TvOk (H:Hp) (tv:Value):Prop:=tv=.none∨∃T oT ts,tv=.ref T/\H T=some (.frz oT (.own 0))/\oT.data=.fields ts/\ts[3]?=some .none
theorem TvOk.mono {H H':Hp}{tv:Value}(fz:∀b o u,H b=some (.frz o u)->H' b=some (.frz o u)) (h:TvOk H tv):TvOk H' tv:=by
 rcases h with h|⟨T,oT,ts,e,q,r⟩
 ·exact .inl h
 ·exact .inr ⟨T,oT,ts,e,fz _ _ _ q,r⟩
noncomputable def RO (ce:Str->Option Addr) (K:W.Frag) (ι:List Addr) (H:Hp) (a:Addr):IO->Prop
 | .lst xs=>∃vs,H a=some (.lst vs)/\RVs K ι H xs vs
 | .ins c fs=>∃C dx vs,ce c=some C/\H a=some (.ins C dx vs)/\RPs K ι H fs vs
 | .dct kvs=>∃vs,H a=some (.dK vs)/\RPs K ι H kvs vs
 | .exc c fs=>∃C tv d,XdOk H d fs/\W.nsIn K mainGlobals c=some (some (.ref C))/\H a=some (ExF a C tv d)/\TvOk H tv
 | .tab q=>TabO K H q a
 | .hld c fs=>∃C oe u vs,XdOk H oe.dict fs/\W.nsIn K mainGlobals c=some (some (.ref C))/\H a=some (.frz oe u)/\oe.cls=.ref C/\oe.data=.fields vs/\vs[2]?=some .none
theorem RO.some {ce:Str->Option Addr}{K:W.Frag}{ι:List Addr}{H:Hp}{a:Addr}{o:IO}(h:RO ce K ι H a o):∃u,H a=some u:=by
 cases o with
 | lst xs=>obtain⟨vs,e,_⟩:=h;exact⟨_,e⟩
 | ins c fs=>obtain⟨_,_,vs,_,e,_⟩:=h;exact⟨_,e⟩
 | dct kvs=>obtain⟨vs,e,_⟩:=h;exact⟨_,e⟩
 | exc c fs=>obtain⟨C,tv,d,_,_,e,_⟩:=h;exact⟨_,e⟩
 | tab q=>obtain⟨_,ps,e,_⟩:=h;exact⟨_,e⟩
 | hld c fs=>obtain⟨_,_,_,_,_,_,e,_⟩:=h;exact⟨_,e⟩
theorem RO.mono {ce:Str->Option Addr}{K:W.Frag}{ι ι':List Addr}{H H':Hp}{a:Addr}{o:IO}(n:Nxt ι H ι' H') (k:∀u,H a=Option.some u->H' a=Option.some u) (h:RO ce K ι H a o):RO ce K ι' H' a o:=by
 cases o with
 | lst xs=>obtain⟨vs,e,r⟩:=h;exact⟨vs,k _ e,RVs.mono n _ _ r⟩
 | ins c fs=>obtain⟨C,dx,vs,c1,e,r⟩:=h;exact⟨C,dx,vs,c1,k _ e,RPs.mono n _ _ r⟩
 | dct kvs=>obtain⟨vs,e,r⟩:=h;exact⟨vs,k _ e,RPs.mono n _ _ r⟩
 | exc c fs=>obtain⟨C,tv,d,e0,c1,e,r⟩:=h;exact⟨C,tv,d,e0.mono n.ext.frzs,c1,k _ e,r.mono n.ext.frzs⟩
 | tab q=>exact TabO.mono n.ext.frzs k h
 | hld c fs=>obtain⟨C,oe,u,vs,e0,c1,e,r⟩:=h;exact⟨C,oe,u,vs,e0.mono n.ext.frzs,c1,k _ e,r⟩
structure Rel (ce:Str->Option Addr) (K:W.Frag) (ι:List Addr) (h:IH) (H:Hp):Prop where
 len:ι.length=h.length
 nd:ι.Nodup
 at_:∀(i:Nat) (o:IO),h[i]?=some o->∃a,ι[i]?=some a/\RO ce K ι H a o
section
variable {ce:Str->Option Addr}{K:W.Frag}{ι:List Addr}{h:IH}{H:Hp}
theorem Rel.some (R:Rel ce K ι h H){i:Nat}{a:Addr}(e:ι[i]?=some a):∃u,H a=Option.some u:=by
 have hi:i<h.length:=by rw[<- R.len];exact(List.getElem?_eq_some_iff.mp e).1
 obtain⟨b,e',r⟩:=R.at_ i _ (List.getElem?_eq_getElem hi)
 rw[e] at e'
 cases e'
 exact r.some
theorem Rel.notin (R:Rel ce K ι h H){l:Addr}(e:H l=none):l∉ι:=λ hl=>by
 obtain⟨i,hi,q⟩:=List.mem_iff_getElem.mp hl
 obtain⟨u,hu⟩:=R.some (i:=i) (a:=l) (by rw[List.getElem?_eq_getElem hi,q])
 rw[e] at hu
 cases hu
theorem Ext.upd_new {l:Addr}{o:HO}(e:H l=none):Ext H (upd H l o) :=
 ⟨λ b xs q=>by rw[Jg (J2 q e)];exact q,λ b o u q=>by rw[Jg (J2 q e)];exact q⟩
theorem Rel.grow {l:Addr}{o:HO}(R:Rel ce K ι h H) (e:H l=none):Rel ce K ι h (upd H l o)/\Nxt ι H ι (upd H l o):=by
 have n:Nxt ι H ι (upd H l o):=⟨⟨[],by simp⟩,Ext.upd_new e⟩
 refine⟨⟨R.len,R.nd,λ i u q=>?_⟩,n⟩
 obtain⟨a,e1,r⟩:=R.at_ i u q
 exact⟨a,e1,r.mono n λ w hw=>by rw[Jg (J2 hw e)];exact hw⟩
theorem Rel.alloc {l:Addr}{o:HO}{io:IO}(R:Rel ce K ι h H) (e:H l=none) (r:RO ce K (ι++[l]) (upd H l o) l io):Rel ce K (ι++[l]) (h++[io]) (upd H l o)/\Nxt ι H (ι++[l]) (upd H l o):=by
 have n:Nxt ι H (ι++[l]) (upd H l o):=⟨⟨[l],rfl⟩,Ext.upd_new e⟩
 refine⟨⟨by simp[R.len],?_,λ i u q=>?_⟩,n⟩
 ·rw[List.nodup_append]
  refine⟨R.nd,by simp,λ a ha b hb=>?_⟩
  have:b=l:=by simpa using hb
  subst this
  rintro rfl
  exact R.notin e ha
 ·by_cases hi:i<h.length
  ·rw[List.getElem?_append_left hi] at q
   obtain⟨a,e1,r1⟩:=R.at_ i u q
   exact⟨a,n.at e1,r1.mono n λ w hw=>by rw[Jg (J2 hw e)];exact hw⟩
  ·have hi2:i=h.length:=by
    have:=(List.getElem?_eq_some_iff.mp q).1
    simp at this
    omega
   subst hi2
   rw[List.getElem?_append_right (Nat.le_refl _)] at q
   simp at q
   subst q
   refine⟨l,?_,r⟩
   rw[<- R.len,List.getElem?_append_right (Nat.le_refl _)]
   simp
theorem Rel.inj (R:Rel ce K ι h H){i j:Nat}{a:Addr}(e1:ι[i]?=Option.some a) (e2:ι[j]?=Option.some a):i=j:=by
 obtain⟨h1,q1⟩:=List.getElem?_eq_some_iff.mp e1
 obtain⟨h2,q2⟩:=List.getElem?_eq_some_iff.mp e2
 exact(List.getElem_inj R.nd).mp (q1.trans q2.symm)
theorem Ext.upd_mut {l:Addr}{o u:HO}(e:H l=Option.some u) (m:Mut (H l)):Ext H (upd H l o):=by
 refine⟨λ b xs q=>?_,λ b ob w q=>?_⟩
 ·by_cases hb:b=l
  ·subst hb
   rw[q] at m
   exact Zf m
  ·rw[Jg hb];exact q
 ·by_cases hb:b=l
  ·subst hb
   rw[q] at m
   exact Zf m
  ·rw[Jg hb];exact q
theorem Rel.write {i:Nat}{a:Addr}{o u:HO}{io:IO}(R:Rel ce K ι h H) (e:ι[i]?=Option.some a) (ha:H a=Option.some u) (m:Mut (H a)) (r:RO ce K ι (upd H a o) a io):Rel ce K ι (h.set i io) (upd H a o)/\Nxt ι H ι (upd H a o):=by
 have n:Nxt ι H ι (upd H a o):=⟨⟨[],by simp⟩,Ext.upd_mut ha m⟩
 refine⟨⟨by simp[R.len],R.nd,λ j w q=>?_⟩,n⟩
 by_cases hj:j=i
 ·subst hj
  have hl:j<h.length:=by
   have:=(List.getElem?_eq_some_iff.mp q).1
   simpa using this
  rw[List.getElem?_set_self hl] at q
  cases q
  exact⟨a,e,r⟩
 ·rw[List.getElem?_set_ne (Ne.symm hj)] at q
  obtain⟨b,e1,r1⟩:=R.at_ j w q
  refine⟨b,e1,r1.mono n λ v hv=>?_⟩
  have:b≠a:=by
   rintro rfl
   exact hj (R.inj e1 e)
  rw[Jg this]
  exact hv
end
structure RSt (K:W.Frag) (ι:List Addr) (H:Hp) (σi:ISt) (σ:L2.St):Prop where
 len:σi.length=σ.length
 at_:∀(j:Nat) (v:IV),σi[j]?=some (some v)->∃u,σ[j]?=some (some u)/\RV K ι H v u
theorem RSt.mono {K:W.Frag}{ι ι':List Addr}{H H':Hp}{σi:ISt}{σ:L2.St}(n:Nxt ι H ι' H') (r:RSt K ι H σi σ):RSt K ι' H' σi σ :=
 ⟨r.len,λ j v e=>let ⟨u,e1,q⟩:=r.at_ j v e;⟨u,e1,RV.mono n _ _ q⟩⟩
theorem RSt.set {K:W.Frag}{ι:List Addr}{H:Hp}{σi:ISt}{σ:L2.St}(r:RSt K ι H σi σ) (i:Nat){x:IV}{v:V}(q:RV K ι H x v):RSt K ι H (σi.set i (some x)) (σ.set i (some v)):=by
 refine⟨by simp[r.len],λ j w e=>?_⟩
 by_cases hj:j=i
 ·subst hj
  have hl:j<σi.length:=by
   have:=(List.getElem?_eq_some_iff.mp e).1
   simpa using this
  rw[List.getElem?_set_self hl] at e
  cases e
  exact⟨v,by rw[List.getElem?_set_self (by rw[<- r.len];exact hl)],q⟩
 ·rw[List.getElem?_set_ne (Ne.symm hj)] at e
  obtain⟨u,e1,q1⟩:=r.at_ j w e
  exact⟨u,by rw[List.getElem?_set_ne (Ne.symm hj)];exact e1,q1⟩
structure Now (ce:Str->Option Addr) (X:Cx) (pins:List (Addr×Obj)) (ι:List Addr) (σi:ISt) (h:IH) (σ:L2.St) (H:Hp) (s:Shared):Prop where
 inv:Inv X pins σ H s
 rel:Rel ce X.K ι h H
 st:RSt X.K ι H σi σ
noncomputable def RU (K:W.Frag) (ι:List Addr) (H:Hp) (v:IV) (u:Value):Prop:=∃x,RelV x u/\RV K ι H v x
theorem RU.mono {K:W.Frag}{ι ι':List Addr}{H H':Hp}{v:IV}{u:Value}(n:Nxt ι H ι' H') (r:RU K ι H v u):RU K ι' H' v u :=
 let ⟨x,a,b⟩:=r;⟨x,a,RV.mono n _ _ b⟩
noncomputable def RUs (K:W.Frag) (ι:List Addr) (H:Hp) (vs:List IV) (us:List Value):Prop:=∃xs,Vals xs us/\RVs K ι H vs xs
theorem RUs.mono {K:W.Frag}{ι ι':List Addr}{H H':Hp}{v:List IV}{u:List Value}(n:Nxt ι H ι' H') (r:RUs K ι H v u):RUs K ι' H' v u :=
 let ⟨x,a,b⟩:=r;⟨x,a,RVs.mono n _ _ b⟩
noncomputable abbrev REL (α β:Type):=W.Frag->List Addr->Hp->α->β->Prop
noncomputable def RB:REL Bool Bool:=λ _ _ _ b c=>c=b
section
variable {α β γ δ:Type}
noncomputable def Kont (ce:Str->Option Addr) (X:Cx) (R:REL α β) (pins:List (Addr×Obj)) (ι:List Addr) (σi:ISt) (σ:L2.St) (H:Hp) (r:Res α) (Q:β->Shared->Prop) (E:Value->Shared->Prop):Prop :=
 match r with
 | .ok v h'=>∀u s' H' ι',Now ce X pins ι' σi h' σ H' s'->Nxt ι H ι' H'->R X.K ι' H' v u->Q u s'
 | .exc n h'=>∀pl a s' H' ι',Now ce X (pins++pl) ι' σi h' σ H' s'->Nxt ι H ι' H'->ι'[n]?=some a->E (.ref a) s'
 | .stuck=>False
variable {ce:Str->Option Addr}{X:Cx}{R:REL α β}{R':REL γ δ}{pins:List (Addr×Obj)}{ι ι':List Addr}{σi:ISt}{σ:L2.St}{H H':Hp}
theorem Kont.mono {r:Res α}{Q:β->Shared->Prop}{E:Value->Shared->Prop}(k:Kont ce X R pins ι σi σ H r Q E) (n:Nxt ι H ι' H'):Kont ce X R pins ι' σi σ H' r Q E:=by
 cases r with
 | ok v h'=>exact λ u s' H2 ι2 N n2 q=>k u s' H2 ι2 N (n.trans n2) q
 | exc m h'=>exact λ pl a s' H2 ι2 N n2 q=>k pl a s' H2 ι2 N (n.trans n2) q
 | stuck=>exact k
noncomputable def PX (ce:Str->Option Addr) (X:Cx) (R:REL α β) (t:Sem β) (m:ISt->IH->Res α):Prop :=
 ∀(pins:List (Addr×Obj)) (s:Shared) (σ:L2.St) (H:Hp) (ι:List Addr) (σi:ISt) (h:IH) (Q:β->Shared->Prop) (E:Value->Shared->Prop),Now ce X pins ι σi h σ H s->Kont ce X R pins ι σi σ H (m σi h) Q E ->
  wpAny (model X.prog X.w) X.A t Q E s
theorem PX.run {t:Sem β}{m:ISt->IH->Res α}(p:PX ce X R t m){s:Shared}{h:IH}(N:Now ce X pins ι σi h σ H s){g:α->IH->Res γ}{Q:δ->Shared->Prop}{E:Value->Shared->Prop}{Q1:β->Shared->Prop}
  (K:Kont ce X R' pins ι σi σ H ((m σi h).bind g) Q E)
  (step:∀x h1 u s1 H1 ι1,Now ce X pins ι1 σi h1 σ H1 s1->Nxt ι H ι1 H1->R X.K ι1 H1 x u->Kont ce X R' pins ι1 σi σ H1 (g x h1) Q E->Q1 u s1):wpAny (model X.prog X.w) X.A t Q1 E s:=by
 refine p pins s σ H ι σi h Q1 E N ?_
 cases e:m σi h with
 | ok v h' =>
  rw[e] at K
  exact λ u s' H' ι' N' n' r=>step v h' u s' H' ι' N' n' r (Kont.mono (r:=g v h') K n')
 | exc n h' =>
  rw[e] at K
  exact K
 | stuck =>
  rw[e] at K
  exact K
end
noncomputable abbrev PEi (ce:Str->Option Addr) (X:Cx) (e:Expr) (m:ISt->IH->Res IV):Prop:=PX ce X RU (eval e X.env) m
noncomputable abbrev PTi (ce:Str->Option Addr) (X:Cx) (e:Expr) (m:ISt->IH->Res Bool):Prop:=PX ce X RB (isTrue e X.env (eval e X.env)) m
noncomputable def PWi (ce:Str->Option Addr) (X:Cx) (e:Expr) (m:ISt->IH->Res Bool):Prop:=∀whole:Sem Value,PX ce X RB (isTrue e X.env whole) m
noncomputable def PAi (ce:Str->Option Addr) (X:Cx) (es:List Expr) (m:ISt->IH->Res (List IV)):Prop:=∀pos:Pos,PX ce X RUs (spliced (backTo pos (starEach es X.env))) m
noncomputable abbrev E1:=ISt->IH->Res IV
noncomputable abbrev T1:=ISt->IH->Res Bool
noncomputable abbrev A1:=ISt->IH->Res (List IV)
noncomputable def eVar (i:Nat):E1:=λ σ h=>match σ[i]? with|some (some v)=>.ok v h|_=>.stuck
noncomputable def eC (v:IV):E1:=λ _ h=>.ok v h
noncomputable def eBin (f:IV->IV->IH->Res IV) (a b:E1):E1:=λ σ h=>(a σ h).bind λ x h1=>(b σ h1).bind λ y h2=>f x y h2
noncomputable def eUn (f:IV->IH->Res IV) (a:E1):E1:=λ σ h=>(a σ h).bind λ x h1=>f x h1
noncomputable def eAnd (a b:E1) (tr:IV->IH->Res Bool):E1:=λ σ h=>(a σ h).bind λ x h1=>(tr x h1).bind λ c h2=>if c then b σ h2 else .ok x h2
noncomputable def eOr (a b:E1) (tr:IV->IH->Res Bool):E1:=λ σ h=>(a σ h).bind λ x h1=>(tr x h1).bind λ c h2=>if c then .ok x h2 else b σ h2
noncomputable def eIf (t:T1) (a b:E1):E1:=λ σ h=>(t σ h).bind λ c h1=>if c then a σ h1 else b σ h1
noncomputable def Jw2 (a b:T1):T1:=λ σ h=>(a σ h).bind λ c h1=>if c then b σ h1 else .ok false h1
noncomputable def tOrI (a b:T1):T1:=λ σ h=>(a σ h).bind λ c h1=>if c then .ok true h1 else b σ h1
noncomputable def Jbk (a:T1):T1:=λ σ h=>(a σ h).bind λ c h1=>.ok (!c) h1
noncomputable def tOfB (tr:IV->IH->Res Bool) (a:E1):T1:=λ σ h=>(a σ h).bind λ x h1=>tr x h1
noncomputable def aNil:A1:=λ _ h=>.ok [] h
noncomputable def Ja (a:E1) (r:A1):A1:=λ σ h=>(a σ h).bind λ x h1=>(r σ h1).bind λ xs h2=>.ok (x::xs) h2
noncomputable def Je0 (f g:IV->IV->IH->Res IV) (a b c:E1):E1:=λ σ h=>(a σ h).bind λ x h1=>(b σ h1).bind λ y h2=>(f x y h2).bind λ k h3 =>
 match k with
 | .bl true=>(c σ h3).bind λ z h4=>g y z h4
 | .bl false=>.ok (.bl false) h3
 | _=>.stuck
section
variable {ce:Str->Option Addr}{X:Cx}{a b c:Expr}{ma mb mc:E1}{pos:Pos}
noncomputable def OpI (ce:Str->Option Addr) (X:Cx) (f:Value->Value->Sem Value) (g:IV->IV->IH->Res IV):Prop :=
 ∀(pins:List (Addr×Obj)) (s:Shared) (σ:L2.St) (H:Hp) (ι:List Addr) (σi:ISt) (h:IH) (x y:IV) (v u:Value) (Q:Value->Shared->Prop) (E:Value->Shared->Prop),Now ce X pins ι σi h σ H s->RU X.K ι H x v->RU X.K ι H y u ->
  Kont ce X RU pins ι σi σ H (g x y h) Q E->wpAny (model X.prog X.w) X.A (f v u) Q E s
noncomputable def UnI (ce:Str->Option Addr) (X:Cx) (f:Value->Sem Value) (g:IV->IH->Res IV):Prop :=
 ∀(pins:List (Addr×Obj)) (s:Shared) (σ:L2.St) (H:Hp) (ι:List Addr) (σi:ISt) (h:IH) (x:IV) (v:Value) (Q:Value->Shared->Prop) (E:Value->Shared->Prop),Now ce X pins ι σi h σ H s->RU X.K ι H x v ->
  Kont ce X RU pins ι σi σ H (g x h) Q E->wpAny (model X.prog X.w) X.A (f v) Q E s
noncomputable def TrI (ce:Str->Option Addr) (X:Cx) (g:IV->IH->Res Bool):Prop :=
 ∀(pins:List (Addr×Obj)) (s:Shared) (σ:L2.St) (H:Hp) (ι:List Addr) (σi:ISt) (h:IH) (x:IV) (v:Value) (Q:Bool->Shared->Prop) (E:Value->Shared->Prop),Now ce X pins ι σi h σ H s->RU X.K ι H x v ->
  Kont ce X RB pins ι σi σ H (g x h) Q E->wpAny (model X.prog X.w) X.A (truthy v) Q E s
noncomputable def Ji3 (ce:Str->Option Addr) (X:Cx) (f:Value) (g:List IV->IH->Res IV):Prop :=
 ∀(pins:List (Addr×Obj)) (s:Shared) (σ:L2.St) (H:Hp) (ι:List Addr) (σi:ISt) (h:IH) (xs:List IV) (us:List Value) (Q:Value->Shared->Prop) (E:Value->Shared->Prop),Now ce X pins ι σi h σ H s->RUs X.K ι H xs us ->
  Kont ce X RU pins ι σi σ H (g xs h) Q E->wpAny (model X.prog X.w) X.A (call f us) Q E s
theorem Jl8 {pins:List (Addr×Obj)}{s:Shared}{σ:L2.St}{H:Hp}{Q:Value->Shared->Prop}{E:Value->Shared->Prop}{e:Expr}{t:TE}(p:PE (X.wish E) e t) (I:Inv X pins σ H s)
  (k:t σ H λ z H'=>∀u s',Inv X pins σ H' s'->RelV z u->Q u s'):wpAny (model X.prog X.w) X.A (eval e X.env) Q E s :=
 wpAny_mono (p pins s σ H _ (I.wish E) k) (λ u s' ⟨_,_,I',r,q⟩=>q u s' I'.unwish r) λ _ _ z=>z
theorem Ja9 {pins:List (Addr×Obj)}{s:Shared}{σ:L2.St}{H:Hp}{Q:Value->Shared->Prop}{E:Value->Shared->Prop}{f:Value->Value->Sem Value}{r:R2}{x y:V}{v u:Value}(p:OpR (X.wish E) f r) (I:Inv X pins σ H s) (rx:RelV x v) (ry:RelV y u)
  (k:r x y H λ z H'=>∀u s',Inv X pins σ H' s'->RelV z u->Q u s'):wpAny (model X.prog X.w) X.A (f v u) Q E s :=
 wpAny_mono (p pins s σ H x y v u _ (I.wish E) rx ry k) (λ u s' ⟨_,_,I',r,q⟩=>q u s' I'.unwish r) λ _ _ z=>z
theorem J7q {pins:List (Addr×Obj)}{s:Shared}{σ:L2.St}{H:Hp}{Q:Value->Shared->Prop}{E:Value->Shared->Prop}{f:Value->Sem Value}{r:V->Hp->VK->Prop}{x:V}{v:Value}(p:UnR (X.wish E) f r) (I:Inv X pins σ H s) (rx:RelV x v)
  (k:r x H λ z H'=>∀u s',Inv X pins σ H' s'->RelV z u->Q u s'):wpAny (model X.prog X.w) X.A (f v) Q E s :=
 wpAny_mono (p pins s σ H x v _ (I.wish E) rx k) (λ u s' ⟨_,_,I',r,q⟩=>q u s' I'.unwish r) λ _ _ z=>z
theorem Jfa {pins:List (Addr×Obj)}{s:Shared}{σ:L2.St}{H:Hp}{Q:Bool->Shared->Prop}{E:Value->Shared->Prop}{r:V->Hp->(Bool->Hp->Prop)->Prop}{x:V}{v:Value}(p:TruR (X.wish E) r) (I:Inv X pins σ H s) (rx:RelV x v)
  (k:r x H λ z H'=>∀s',Inv X pins σ H' s'->Q z s'):wpAny (model X.prog X.w) X.A (truthy v) Q E s :=
 wpAny_mono (p pins s σ H x v _ (I.wish E) rx k) (λ _ s' ⟨_,I',q⟩=>q s' I'.unwish) λ _ _ z=>z
theorem Jar {pins:List (Addr×Obj)}{s:Shared}{σ:L2.St}{H:Hp}{Q:Value->Shared->Prop}{E:Value->Shared->Prop}{f:Value}{r:List V->Hp->VK->Prop}{xs:List V}{us:List Value}(p:Jsn (X.wish E) f r) (I:Inv X pins σ H s) (rx:Vals xs us)
  (k:r xs H λ z H'=>∀u s',Inv X pins σ H' s'->RelV z u->Q u s'):wpAny (model X.prog X.w) X.A (call f us) Q E s :=
 wpAny_mono (p pins s σ H xs us _ (I.wish E) rx k) (λ u s' ⟨_,_,I',r,q⟩=>q u s' I'.unwish r) λ _ _ z=>z
theorem J53 (i:Nat){x:Str}{pos:Pos}(hN:X.N[i]?=some x:=by rfl) (hv:Vis X.env.scope x:=by assumption) (hd:(x==("__debug__":Str))=false:=by decide)
  (hcd:(x==("__classdict__":Str))=false:=by decide):PEi ce X (.Name x pos) (eVar i):=by
 intro pins s σ H ι σi h Q E N K
 unfold eVar at K
 cases e:σi[i]? with
 | none =>
  rw[e] at K
  exact Zf K
 | some o =>
  cases o with
  | none =>
   rw[e] at K
   exact Zf K
  | some v =>
   rw[e] at K
   obtain⟨u,e1,q⟩:=N.st.at_ i v e
   exact Jl8 (J6w (X:=X.wish E) hN hv hd hcd) N.inv ⟨u,e1,λ u' s' I' r'=>K u' s' H ι ⟨I',N.rel,N.st⟩ .refl ⟨u,r',q⟩⟩
theorem J5t {i j pos}:PEi ce X (.Constant (.int i) j pos) (eC (.int i)):=λ _ _ _ H ι _ _ _ E N K=>Jl8 (J6t (X:=X.wish E)) N.inv λ u' s' I' r'=>K u' s' H ι ⟨I',N.rel,N.st⟩ .refl ⟨_,r',rfl⟩
theorem i_bl {i j pos}:PEi ce X (.Constant (.bool i) j pos) (eC (.bl i)):=λ _ _ _ H ι _ _ _ E N K=>Jl8 (pe_bl (X:=X.wish E)) N.inv λ u' s' I' r'=>K u' s' H ι ⟨I',N.rel,N.st⟩ .refl ⟨_,r',rfl⟩
theorem J5z {j pos}:PEi ce X (.Constant .none j pos) (eC .non):=λ _ _ _ H ι _ _ _ E N K=>Jl8 (J6u (X:=X.wish E)) N.inv λ u' s' I' r'=>K u' s' H ι ⟨I',N.rel,N.st⟩ .refl ⟨_,r',rfl⟩
theorem J51 {i j pos}:PEi ce X (.Constant (.str i) j pos) (eC (.str i)):=λ _ _ _ H ι _ _ _ E N K=>Jl8 (J6v (X:=X.wish E)) N.inv λ u' s' I' r'=>K u' s' H ι ⟨I',N.rel,N.st⟩ .refl ⟨_,r',rfl⟩
theorem J5s {x:Str}{v:V}{iv:IV}{u:Value}{pos:Pos}(hg:Gl X x) (hm:X.mg x=some u) (r:RelV v u) (q:∀ι H,RV X.K ι H iv v) (hd:(x==("__debug__":Str))=false:=by decide):PEi ce X (.Name x pos) (eC iv) :=
 λ _ _ _ H ι _ _ _ E N K=>Jl8 (J3f (X:=X.wish E) hg hm r hd) N.inv λ u' s' I' r'=>K u' s' H ι ⟨I',N.rel,N.st⟩ .refl ⟨_,r',q _ _⟩
theorem i_bin {op:Operator}{f:IV->IV->IH->Res IV}(ho:OpI ce X (binaryOp op) f) (ha:PEi ce X a ma) (hb:PEi ce X b mb):PEi ce X (.BinOp a op b pos) (eBin f ma mb) :=
 λ pins s σ H ι σi h Q E N K=>wpAny_BinOp (ha.run N K λ x h1 u s1 H1 ι1 N1 n1 r1 K1=>hb.run N1 K1 λ y h2 w s2 H2 ι2 N2 n2 r2 K2=>ho pins s2 σ H2 ι2 σi h2 x y u w Q E N2 (r1.mono n2) r2 K2)
theorem i_un {op:UnaryOp}{f:IV->IH->Res IV}(ho:UnI ce X (unaryOp op) f) (ha:PEi ce X a ma):PEi ce X (.UnaryOp op a pos) (eUn f ma) :=
 λ pins s σ H ι σi h Q E N K=>UnaryOp_ (ha.run N K λ x h1 u s1 H1 ι1 N1 n1 r1 K1=>ho pins s1 σ H1 ι1 σi h1 x u Q E N1 r1 K1)
theorem i_cmp {op:CmpOp}{f:IV->IV->IH->Res IV}(ho:OpI ce X (compareOp op) f) (ha:PEi ce X a ma) (hb:PEi ce X b mb) (hm:behindInMarks op b=false:=by assumption):PEi ce X (.Compare a [op] [b] pos) (eBin f ma mb) :=
 λ pins s σ H ι σi h Q E N K=>wpAny_Compare1 (ha.run N K λ x h1 u s1 H1 ι1 N1 n1 r1 K1=>hb.run N1 K1 λ y h2 w s2 H2 ι2 N2 n2 r2 K2=>ho pins s2 σ H2 ι2 σi h2 x y u w Q E N2 (r1.mono n2) r2 K2) hm
noncomputable def asB:IV->IH->Res Bool
 | .bl b,h=>.ok b h
 | _,_=>.stuck
theorem Kont.asB {pins:List (Addr×Obj)}{σ:L2.St}{H:Hp}{ι:List Addr}{σi:ISt}{r:Res IV}{Q:Bool->Shared->Prop}{E:Value->Shared->Prop}(K:Kont ce X RB pins ι σi σ H (r.bind asB) Q E) :
  Kont ce X RU pins ι σi σ H r (λ v s=>wpAny (model X.prog X.w) X.A (truthy v) Q E s) E:=by
 cases r with
 | exc n h=>exact K
 | stuck=>exact K
 | ok v h =>
  intro u s' H' ι' N n q
  obtain⟨x,rx,q⟩:=q
  cases v with
  | bl b =>
   have e:x=.bl b:=q
   subst e
   cases rx
   exact wpAny_truthy_bool (K b s' H' ι' N n rfl)
  | _=>exact Zf K
theorem Res.bind_bind {α β γ:Type}(r:Res α) (f:α->IH->Res β) (g:β->IH->Res γ):(r.bind f).bind g=r.bind λ x h=>(f x h).bind g:=by
 cases r<;>rfl
theorem t_cmp {op:CmpOp}{f:IV->IV->IH->Res IV}(ho:OpI ce X (compareOp op) f) (ha:PEi ce X a ma) (hb:PEi ce X b mb) (hm:behindInMarks op b=false:=by assumption):PTi ce X (.Compare a [op] [b] pos) (tOfB asB (eBin f ma mb)) :=
 λ pins s σ H ι σi h Q E N K=>by
  have K':Kont ce X RB pins ι σi σ H ((ma σi h).bind λ x h1=>(mb σi h1).bind λ y h2=>(f x y h2).bind asB) Q E:=by
   unfold tOfB eBin at K
   rw[Res.bind_bind] at K
   simp only[Res.bind_bind] at K
   exact K
  exact wpAny_isTrue_Compare1 (ha.run N K' λ x h1 u s1 H1 ι1 N1 n1 r1 K1=>hb.run N1 K1 λ y h2 w s2 H2 ι2 N2 n2 r2 K2=>ho pins s2 σ H2 ι2 σi h2 x y u w _ E N2 (r1.mono n2) r2 (Kont.asB K2)) hm
theorem J7g {tr:IV->IH->Res Bool}(ht:TrI ce X tr) (ha:PEi ce X a ma) (he:∀whole,isTrue a X.env whole=(do let v<-whole;standAt a.pos;holding [v] (truthy v)):=by intro _;rfl):PTi ce X a (tOfB tr ma) :=
 λ pins s σ H ι σi h Q E N K=>isTrue_plain (ha.run N K λ x h1 u s1 H1 ι1 N1 n1 r1 K1=>ht pins s1 σ H1 ι1 σi h1 x u Q E N1 r1 K1) (he _)
variable {rest:List Expr}{ta tb:T1}
theorem J38 (ha:PTi ce X a ta):PWi ce X (.BoolOp .And [a] pos) ta:=λ wh pins s σ H ι σi h Q E N K=>by
 refine isTrue_and (ha pins s σ H ι σi h _ E N ?_)
 cases e:ta σi h with
 | ok v h' =>
  rw[e] at K
  intro u s' H' ι' N' n' r
  have r':u=v:=r
  subst r'
  cases u with
  | true=>exact isTrue_and_nil (K true s' H' ι' N' n' rfl)
  | false=>exact K false s' H' ι' N' n' rfl
 | exc n h'=>rw[e] at K;exact K
 | stuck=>rw[e] at K;exact K
theorem J7l (ha:PTi ce X a ta):PWi ce X (.BoolOp .Or [a] pos) ta:=λ wh pins s σ H ι σi h Q E N K=>by
 refine isTrue_or (ha pins s σ H ι σi h _ E N ?_)
 cases e:ta σi h with
 | ok v h' =>
  rw[e] at K
  intro u s' H' ι' N' n' r
  have r':u=v:=r
  subst r'
  cases u with
  | false=>exact isTrue_or_nil (K false s' H' ι' N' n' rfl)
  | true=>exact K true s' H' ι' N' n' rfl
 | exc n h'=>rw[e] at K;exact K
 | stuck=>rw[e] at K;exact K
theorem J7k (ha:PTi ce X a ta) (hb:PWi ce X (.BoolOp .And (b::rest) pos) tb):PWi ce X (.BoolOp .And (a::b::rest) pos) (Jw2 ta tb):=λ wh pins s σ H ι σi h Q E N K =>
 isTrue_and (ha.run N K λ c h1 u s1 H1 ι1 N1 n1 r1 K1=>by
  have r':u=c:=r1
  subst r'
  cases u with
  | true=>exact hb wh pins s1 σ H1 ι1 σi h1 Q E N1 K1
  | false=>exact K1 false s1 H1 ι1 N1 .refl rfl)
theorem tw_or (ha:PTi ce X a ta) (hb:PWi ce X (.BoolOp .Or (b::rest) pos) tb):PWi ce X (.BoolOp .Or (a::b::rest) pos) (tOrI ta tb):=λ wh pins s σ H ι σi h Q E N K =>
 isTrue_or (ha.run N K λ c h1 u s1 H1 ι1 N1 n1 r1 K1=>by
  have r':u=c:=r1
  subst r'
  cases u with
  | false=>exact hb wh pins s1 σ H1 ι1 σi h1 Q E N1 K1
  | true=>exact K1 true s1 H1 ι1 N1 .refl rfl)
theorem PWi.t (h:PWi ce X a ta):PTi ce X a ta:=h _
theorem t_not (ha:PTi ce X a ta):PTi ce X (.UnaryOp .Not a pos) (Jbk ta):=λ pins s σ H ι σi h Q E N K =>
 isTrue_not (ha.run N K λ c h1 u s1 H1 ι1 N1 n1 r1 K1=>by
  have r':u=c:=r1
  subst r'
  exact K1 (!u) s1 H1 ι1 N1 .refl rfl)
theorem J50 {op} (h:PEi ce X a ma):PEi ce X (.BoolOp op [a] pos) ma:=λ pins s σ H ι σi h' Q E N K=>BoolOp_one (h pins s σ H ι σi h' Q E N K)
theorem i_and {tr:IV->IH->Res Bool}(ht:TrI ce X tr) (ha:PEi ce X a ma) (hb:PEi ce X (.BoolOp .And (b::rest) pos) mb):PEi ce X (.BoolOp .And (a::b::rest) pos) (eAnd ma mb tr):=λ pins s σ H ι σi h Q E N K =>
 BoolOp_and (ha.run N K λ x h1 u s1 H1 ι1 N1 n1 r1 K1=>by
  refine ht pins s1 σ H1 ι1 σi h1 x u _ E N1 r1 ?_
  cases e:tr x h1 with
  | ok c h2 =>
   rw[e] at K1
   intro d s2 H2 ι2 N2 n2 r2
   have r':d=c:=r2
   subst r'
   have K2:=Kont.mono (r:=if d=true then mb σi h2 else .ok x h2) K1 n2
   cases d with
   | true=>exact hb pins s2 σ H2 ι2 σi h2 Q E N2 K2
   | false=>exact K2 u s2 H2 ι2 N2 .refl (r1.mono n2)
  | exc n h'=>rw[e] at K1;exact K1
  | stuck=>rw[e] at K1;exact K1)
theorem i_or {tr:IV->IH->Res Bool}(ht:TrI ce X tr) (ha:PEi ce X a ma) (hb:PEi ce X (.BoolOp .Or (b::rest) pos) mb):PEi ce X (.BoolOp .Or (a::b::rest) pos) (eOr ma mb tr):=λ pins s σ H ι σi h Q E N K =>
 BoolOp_or (ha.run N K λ x h1 u s1 H1 ι1 N1 n1 r1 K1=>by
  refine ht pins s1 σ H1 ι1 σi h1 x u _ E N1 r1 ?_
  cases e:tr x h1 with
  | ok c h2 =>
   rw[e] at K1
   intro d s2 H2 ι2 N2 n2 r2
   have r':d=c:=r2
   subst r'
   have K2:=Kont.mono (r:=if d=true then .ok x h2 else mb σi h2) K1 n2
   cases d with
   | false=>exact hb pins s2 σ H2 ι2 σi h2 Q E N2 K2
   | true=>exact K2 u s2 H2 ι2 N2 .refl (r1.mono n2)
  | exc n h'=>rw[e] at K1;exact K1
  | stuck=>rw[e] at K1;exact K1)
noncomputable def Jtr (tr:IV->IH->Res Bool):IV->IH->Res IV:=λ x h=>(tr x h).bind λ c h1=>.ok (.bl (!c)) h1
theorem J39 {tr:IV->IH->Res Bool}(ht:TrI ce X tr):UnI ce X (unaryOp .Not) (Jtr tr):=λ pins s σ H ι σi h x v Q E N r K=>by
 refine not_of (ht pins s σ H ι σi h x v _ E N r ?_)
 unfold Jtr at K
 cases e:tr x h with
 | ok c h2 =>
  rw[e] at K
  intro d s2 H2 ι2 N2 n2 r2
  have r':d=c:=r2
  subst r'
  exact K _ s2 H2 ι2 N2 n2 ⟨.bl (!d),rfl,rfl⟩
 | exc n h'=>rw[e] at K;exact K
 | stuck=>rw[e] at K;exact K
theorem J2q {t:Expr}{mt:T1}(ht:PTi ce X t mt) (ha:PEi ce X a ma) (hb:PEi ce X b mb):PEi ce X (.IfExp t a b pos) (eIf mt ma mb):=λ pins s σ H ι σi h Q E N K =>
 wpAny_IfExp (ht.run N K λ c h1 u s1 H1 ι1 N1 n1 r1 K1=>by
  have r':u=c:=r1
  subst r'
  cases u with
  | true=>exact ha pins s1 σ H1 ι1 σi h1 Q E N1 K1
  | false=>exact hb pins s1 σ H1 ι1 σi h1 Q E N1 K1)
theorem J2p {op op':CmpOp}{f g:IV->IV->IH->Res IV}(ho:OpI ce X (compareOp op) f) (ho':OpI ce X (compareOp op') g) (ha:PEi ce X a ma) (hb:PEi ce X b mb) (hc:PEi ce X c mc)
  (hm:lastMarks [op,op'] [b,c]=false:=by with_unfolding_all rfl):PEi ce X (.Compare a [op,op'] [b,c] pos) (Je0 f g ma mb mc):=λ pins s σ H ι σi h Q E N K =>
 Compare_chain (ha.run N K λ x h1 u s1 H1 ι1 N1 n1 r1 K1=>chain_link (hb.run N1 K1 λ y h2 w s2 H2 ι2 N2 n2 r2 K2=>by
  refine ho pins s2 σ H2 ι2 σi h2 x y u w _ E N2 (r1.mono n2) r2 ?_
  cases e:f x y h2 with
  | exc n h'=>rw[e] at K2;exact K2
  | stuck=>rw[e] at K2;exact K2
  | ok k h3 =>
   rw[e] at K2
   intro d s3 H3 ι3 N3 n3 r3
   obtain⟨z,rz,q⟩:=r3
   cases k with
   | bl k =>
    have e':z=.bl k:=q
    subst e'
    cases rz
    refine wpAny_truthy_bool ?_
    have K3:=Kont.mono (r:=match IV.bl k with|.bl true=>(mc σi h3).bind λ z h4=>g y z h4|.bl false=>.ok (.bl false) h3|_=>.stuck) K2 n3
    cases k with
    | false=>exact ite_ff (K3 _ s3 H3 ι3 N3 .refl ⟨.bl false,rfl,rfl⟩)
    | true=>exact ite_tt (chain_last (hc.run N3 K3 λ z h4 w' s4 H4 ι4 N4 n4 r4 K4=>ho' pins s4 σ H4 ι4 σi h4 y z w w' Q E N4 ((r2.mono n3).mono n4) r4 K4))
   | _=>exact Zf K2)) hm
theorem J35 {op op':CmpOp}{f g:IV->IV->IH->Res IV}(ho:OpI ce X (compareOp op) f) (ho':OpI ce X (compareOp op') g) (ha:PEi ce X a ma) (hb:PEi ce X b mb) (hc:PEi ce X c mc)
  (hm:lastMarks [op,op'] [b,c]=false:=by with_unfolding_all rfl):PTi ce X (.Compare a [op,op'] [b,c] pos) (tOfB asB (Je0 f g ma mb mc)):=λ pins s σ H ι σi h Q E N K=>by
 have K':Kont ce X RB pins ι σi σ H ((ma σi h).bind λ x h1=>(mb σi h1).bind λ y h2=>(f x y h2).bind λ k h3=>(match k with|.bl true=>(mc σi h3).bind λ z h4=>g y z h4|.bl false=>.ok (.bl false) h3|_=>.stuck:Res IV).bind asB) Q E:=by
  unfold tOfB Je0 at K
  rw[Res.bind_bind] at K
  simp only[Res.bind_bind] at K
  exact K
 refine isTrue_chain (ha.run N K' λ x h1 u s1 H1 ι1 N1 n1 r1 K1=>test_link (hb.run N1 K1 λ y h2 w s2 H2 ι2 N2 n2 r2 K2=>?_)) hm
 refine ho pins s2 σ H2 ι2 σi h2 x y u w _ E N2 (r1.mono n2) r2 ?_
 cases e:f x y h2 with
 | exc n h'=>rw[e] at K2;exact K2
 | stuck=>rw[e] at K2;exact K2
 | ok k h3 =>
  rw[e] at K2
  intro d s3 H3 ι3 N3 n3 r3
  obtain⟨z,rz,q⟩:=r3
  cases k with
  | bl k =>
   have e':z=.bl k:=q
   subst e'
   cases rz
   refine wpAny_truthy_bool ?_
   have K3:=Kont.mono (r:=(match IV.bl k with|.bl true=>(mc σi h3).bind λ z h4=>g y z h4|.bl false=>.ok (.bl false) h3|_=>.stuck:Res IV).bind asB) K2 n3
   cases k with
   | false=>exact ite_ff (K3 _ s3 H3 ι3 N3 .refl rfl)
   | true =>
    have K3':Kont ce X RB pins ι3 σi σ H3 ((mc σi h3).bind λ z h4=>(g y z h4).bind asB) Q E:=by
     have:=K3
     dsimp only at this
     rw[Res.bind_bind] at this
     exact this
    exact ite_tt (test_last (hc.run N3 K3' λ z h4 w' s4 H4 ι4 N4 n4 r4 K4=>ho' pins s4 σ H4 ι4 σi h4 y z w w' _ E N4 ((r2.mono n3).mono n4) r4 (Kont.asB K4)))
  | _=>exact Zf K2
variable {es:List Expr}{mr:A1}
theorem RUs.nil {K:W.Frag}{ι:List Addr}{H:Hp}:RUs K ι H [] []:=⟨[],.nil,rfl⟩
theorem RUs.cons {K:W.Frag}{ι:List Addr}{H:Hp}{x:IV}{u:Value}{xs:List IV}{us:List Value}(a:RU K ι H x u) (b:RUs K ι H xs us):RUs K ι H (x::xs) (u::us) :=
 let ⟨v,r,q⟩:=a;let ⟨vs,rs,qs⟩:=b;⟨v::vs,.cons r rs,v,vs,rfl,q,qs⟩
theorem Jk1:PAi ce X [] aNil:=λ _ pins s σ H ι σi h Q E N K=>Calls.spliced_nil (K [] s H ι N .refl .nil)
theorem Jed (ha:PEi ce X a ma) (hr:PAi ce X es mr) (hs:starEach (a::es) X.env=(false,eval a X.env)::starEach es X.env:=by rfl):PAi ce X (a::es) (Ja ma mr):=by
 intro pos pins s σ H ι σi h Q E N K
 rw[hs]
 show wpAny _ _ (spliced ((false,eval a X.env)::backTo pos (starEach es X.env))) _ _ s
 exact Calls.spliced_cons (ha.run N K λ x h1 u s1 H1 ι1 N1 n1 r1 K1=>(hr pos).run N1 K1 λ xs h2 us s2 H2 ι2 N2 n2 r2 K2=>K2 _ s2 H2 ι2 N2 .refl (.cons (r1.mono n2) r2))
end
noncomputable def Ju:IV->IV->IH->Res IV
 | .int i,.int j,h=>.ok (.int (i+j)) h
 | .str x,.str y,h=>if x.length+y.length<=sizeLine then .ok (.str (x++y)) h else .stuck
 | .ref i,.ref j,h=>match h[i]?,h[j]? with
  | some (.lst xs),some (.lst ys)=>if xs.length+ys.length<=sizeLine then .ok (.ref h.length) (h++[.lst (xs++ys)]) else .stuck
  | _,_=>.stuck
 | _,_,_=>.stuck
noncomputable def Jhw:IV->IV->IH->Res IV
 | .int i,.int j,h=>.ok (.int (i-j)) h
 | _,_,_=>.stuck
noncomputable def Jas (i j:Int):Prop:=i.natAbs<2^64∨j.natAbs<2^64∨(i.natAbs.log2<1048576/\j.natAbs.log2<1048576)
noncomputable instance (i j:Int):Decidable (Jas i j):=by unfold Jas;exact inferInstance
noncomputable def Jtq:IV->IV->IH->Res IV
 | .int i,.int j,h=>if Jas i j then .ok (.int (i*j)) h else .stuck
 | .ref i,.int k,h=>match h[i]? with
  | some (.lst xs)=>if -(2^63)<=k/\k<2^63/\xs.length*k.toNat<=sizeLine then .ok (.ref h.length) (h++[.lst (List.replicate k.toNat xs).flatten]) else .stuck
  | _=>.stuck
 | _,_,_=>.stuck
noncomputable def Jao:IV->IV->IH->Res IV
 | .int i,.int j,h=>if 0<j/\j.natAbs.log2<9000 then .ok (.int (i/j)) h else .stuck
 | _,_,_=>.stuck
noncomputable def Jap:IV->IV->IH->Res IV
 | .int i,.int j,h=>if 0<j then .ok (.int (i%j)) h else .stuck
 | _,_,_=>.stuck
noncomputable def Jih:IV->IV->IH->Res IV
 | .int i,.int j,h=>if 0<=j/\j<=1000000/\i.natAbs<2^64 then .ok (.int (i^j.toNat)) h else .stuck
 | _,_,_=>.stuck
noncomputable def J3a:IV->IH->Res IV
 | .int i,h=>.ok (.int (-i)) h
 | _,_=>.stuck
section
variable {ce:Str->Option Addr}{X:Cx}
theorem fin0 {pins:List (Addr×Obj)}{s:Shared}{σ:L2.St}{H:Hp}{ι:List Addr}{σi:ISt}{h:IH}{v:IV}{w:V}{Q:Value->Shared->Prop}{E:Value->Shared->Prop}(N:Now ce X pins ι σi h σ H s) (K:Kont ce X RU pins ι σi σ H (.ok v h) Q E)
  (q:RV X.K ι H v w):∀u s',Inv X pins σ H s'->RelV w u->Q u s':=λ u s' I r=>K u s' H ι ⟨I,N.rel,N.st⟩ .refl ⟨w,r,q⟩
theorem finA {pins:List (Addr×Obj)}{s:Shared}{σ:L2.St}{H:Hp}{ι:List Addr}{σi:ISt}{h:IH}{io:IO}{o:HO}{Q:Value->Shared->Prop}{E:Value->Shared->Prop}(N:Now ce X pins ι σi h σ H s)
  (K:Kont ce X RU pins ι σi σ H (.ok (.ref h.length) (h++[io])) Q E) (l:Addr) (e:H l=none) (r:RO ce X.K (ι++[l]) (upd H l o) l io):∀u s',Inv X pins σ (upd H l o) s'->RelV (.ref l) u->Q u s':=λ u s' I ru=>by
 obtain⟨R,n⟩:=N.rel.alloc e r
 refine K u s' _ _ ⟨I,R,N.st.mono n⟩ n ⟨.ref l,ru,l,rfl,?_⟩
 rw[<- N.rel.len,List.getElem?_append_right (Nat.le_refl _)]
 simp
theorem finT {pins:List (Addr×Obj)}{s:Shared}{σ:L2.St}{H:Hp}{ι:List Addr}{σi:ISt}{h:IH}{xs:List IV}{vs:List V}{Q:Value->Shared->Prop}{E:Value->Shared->Prop}(N:Now ce X pins ι σi h σ H s)
  (K:Kont ce X RU pins ι σi σ H (.ok (.tup xs) h) Q E) (l:Addr) (e:H l=none) (r:RVs X.K ι H xs vs):∀u s',Inv X pins σ (upd H l (.tup vs)) s'->RelV (.ref l) u->Q u s':=λ u s' I ru=>by
 obtain⟨R,n⟩:=N.rel.grow (o:=.tup vs) e
 exact K u s' _ _ ⟨I,R,N.st.mono n⟩ n ⟨.ref l,ru,l,vs,rfl,SqT.of Je,RVs.mono n _ _ r⟩
theorem RVs.new {K:W.Frag}{ι:List Addr}{H:Hp}{l:Addr}{o:HO}(e:H l=none){xs:List IV}{vs:List V}(r:RVs K ι H xs vs):RVs K (ι++[l]) (upd H l o) xs vs:=RVs.mono ⟨⟨[l],rfl⟩,Ext.upd_new e⟩ _ _ r
theorem Now.at {pins:List (Addr×Obj)}{s:Shared}{σ:L2.St}{H:Hp}{ι:List Addr}{σi:ISt}{h:IH}(N:Now ce X pins ι σi h σ H s){i:Nat}{o:IO}(e:h[i]?=some o){a:Addr}(ha:ι[i]?=some a):RO ce X.K ι H a o:=by
 obtain⟨b,e1,r⟩:=N.rel.at_ i o e
 rw[ha] at e1
 cases e1
 exact r
theorem o_add:OpI ce X (binaryOp .Add) Ju:=by
 intro pins s σ H ι σi h x y v u Q E N rx ry K
 obtain⟨xv,rx,qx⟩:=rx
 obtain⟨yv,ry,qy⟩:=ry
 cases x with
 | int i =>
  cases y with
  | int j =>
   have e1:xv=.int i:=qx
   have e2:yv=.int j:=qy
   subst e1 e2
   exact Ja9 (J6l (X:=X.wish E)) N.inv rx ry ⟨i,j,rfl,rfl,fin0 N K rfl⟩
  | _=>exact Zf K
 | str i =>
  cases y with
  | str j =>
   have e1:xv=.str i:=qx
   have e2:yv=.str j:=qy
   subst e1 e2
   dsimp only[Ju] at K
   split at K
   ·rename_i hz
    exact Ja9 (Jts (X:=X.wish E)) N.inv rx ry ⟨i,j,rfl,rfl,hz,fin0 N K rfl⟩
   ·exact Zf K
  | _=>exact Zf K
 | ref i =>
  cases y with
  | ref j =>
   obtain⟨a,e1,ha⟩:=qx
   obtain⟨b,e2,hb⟩:=qy
   subst e1 e2
   dsimp only[Ju] at K
   cases hi:h[i]? with
   | none=>rw[hi] at K;exact Zf K
   | some oi =>
    cases hj:h[j]? with
    | none=>rw[hi,hj] at K;cases oi<;>exact Zf K
    | some oj =>
     rw[hi,hj] at K
     cases oi with
     | lst xs =>
      cases oj with
      | lst ys =>
       dsimp only at K
       split at K
       ·rename_i hz
        obtain⟨vs,e1,r1⟩:=N.at hi ha
        obtain⟨ws,e2,r2⟩:=N.at hj hb
        exact Ja9 (J6m (X:=X.wish E)) N.inv rx ry ⟨a,b,vs,ws,rfl,rfl,e1,e2,by rw[r1.length,r2.length];exact hz,λ p hp=>finA N K p hp ⟨_,Je,RVs.new hp (r1.append r2)⟩⟩
       ·exact Zf K
      | _=>exact Zf K
     | _=>exact Zf K
  | _=>exact Zf K
 | _=>cases y<;>exact Zf K
theorem o_sub:OpI ce X (binaryOp .Sub) Jhw:=by
 intro pins s σ H ι σi h x y v u Q E N rx ry K
 obtain⟨xv,rx,qx⟩:=rx
 obtain⟨yv,ry,qy⟩:=ry
 cases x with
 | int i =>
  cases y with
  | int j =>
   have e1:xv=.int i:=qx
   have e2:yv=.int j:=qy
   subst e1 e2
   exact Ja9 (J6q (X:=X.wish E)) N.inv rx ry ⟨i,j,rfl,rfl,fin0 N K rfl⟩
  | _=>exact Zf K
 | _=>cases y<;>exact Zf K
theorem Jas.ok {i j:Int}(h:Jas i j):IntMulOk i j:=by
 rcases h with h|h|⟨h1,h2⟩
 ·exact .of_left (intBits_le_64 (by omega) (by omega))
 ·exact .of_right (intBits_le_64 (by omega) (by omega))
 ·refine .of_bits ?_ ?_
  ·unfold Builtin.Int.intBits
   split
   ·exact Nat.zero_le _
   ·have:(2:Nat)^20=1048576:=by decide
    omega
  ·unfold Builtin.Int.intBits
   split
   ·exact Nat.zero_le _
   ·have:(2:Nat)^20=1048576:=by decide
    omega
theorem J3b:OpR X (binaryOp .Mult) (rI Jas λ i j=>.int (i*j)):=opI λ _ _ _ _ _ _ _ hc q=>mul_int q hc.ok
theorem o_mul:OpI ce X (binaryOp .Mult) Jtq:=by
 intro pins s σ H ι σi h x y v u Q E N rx ry K
 obtain⟨xv,rx,qx⟩:=rx
 obtain⟨yv,ry,qy⟩:=ry
 cases x with
 | int i =>
  cases y with
  | int j =>
   have e1:xv=.int i:=qx
   have e2:yv=.int j:=qy
   subst e1 e2
   dsimp only[Jtq] at K
   split at K
   ·rename_i hz
    exact Ja9 (J3b (X:=X.wish E)) N.inv rx ry ⟨i,j,rfl,rfl,hz,fin0 N K rfl⟩
   ·exact Zf K
  | _=>exact Zf K
 | ref i =>
  cases y with
  | int k =>
   obtain⟨a,e1,ha⟩:=qx
   have e2:yv=.int k:=qy
   subst e1 e2
   dsimp only[Jtq] at K
   cases hi:h[i]? with
   | none=>rw[hi] at K;exact Zf K
   | some oi =>
    rw[hi] at K
    cases oi with
    | lst xs =>
     dsimp only at K
     split at K
     ·rename_i hz
      obtain⟨vs,e1,r1⟩:=N.at hi ha
      have rr:∀n:Nat,RVs X.K ι H (List.replicate n xs).flatten (List.replicate n vs).flatten:=λ n=>by
       induction n with
       | zero=>exact rfl
       | succ n ih =>
        rw[List.replicate_succ,List.replicate_succ,List.flatten_cons,List.flatten_cons]
        exact r1.append ih
      exact Ja9 (J6p (X:=X.wish E)) N.inv rx ry ⟨a,k,vs,rfl,rfl,e1,hz.1,hz.2.1,by rw[r1.length];exact hz.2.2,λ p hp=>finA N K p hp ⟨_,Je,RVs.new hp (rr _)⟩⟩
     ·exact Zf K
    | _=>exact Zf K
  | _=>exact Zf K
 | _=>cases y<;>exact Zf K
theorem Jzl:OpR X (binaryOp .FloorDiv) (rI (λ _ j=>0<j/\j.natAbs.log2<9000) λ i j=>.int (i/j)):=opI λ i j _ _ _ _ _ hc q=>by
 have h1:(0:Int)<j:=hc.1
 exact floordiv_int (by omega) (by rw[Int.fdiv_eq_ediv_of_nonneg i (by omega)];exact q) (.inl (PyProof.noPylong_of_log2 hc.2))
theorem J6j:OpI ce X (binaryOp .FloorDiv) Jao:=by
 intro pins s σ H ι σi h x y v u Q E N rx ry K
 obtain⟨xv,rx,qx⟩:=rx
 obtain⟨yv,ry,qy⟩:=ry
 cases x with
 | int i =>
  cases y with
  | int j =>
   have e1:xv=.int i:=qx
   have e2:yv=.int j:=qy
   subst e1 e2
   dsimp only[Jao] at K
   split at K
   ·rename_i hz
    exact Ja9 (Jzl (X:=X.wish E)) N.inv rx ry ⟨i,j,rfl,rfl,hz,fin0 N K rfl⟩
   ·exact Zf K
  | _=>exact Zf K
 | _=>cases y<;>exact Zf K
theorem o_mod:OpI ce X (binaryOp .Mod) Jap:=by
 intro pins s σ H ι σi h x y v u Q E N rx ry K
 obtain⟨xv,rx,qx⟩:=rx
 obtain⟨yv,ry,qy⟩:=ry
 cases x with
 | int i =>
  cases y with
  | int j =>
   have e1:xv=.int i:=qx
   have e2:yv=.int j:=qy
   subst e1 e2
   dsimp only[Jap] at K
   split at K
   ·rename_i hz
    exact Ja9 (J6n (X:=X.wish E)) N.inv rx ry ⟨i,j,rfl,rfl,hz,fin0 N K rfl⟩
   ·exact Zf K
  | _=>exact Zf K
 | _=>cases y<;>exact Zf K
theorem o_pow:OpI ce X (binaryOp .Pow) Jih:=by
 intro pins s σ H ι σi h x y v u Q E N rx ry K
 obtain⟨xv,rx,qx⟩:=rx
 obtain⟨yv,ry,qy⟩:=ry
 cases x with
 | int i =>
  cases y with
  | int j =>
   have e1:xv=.int i:=qx
   have e2:yv=.int j:=qy
   subst e1 e2
   dsimp only[Jih] at K
   split at K
   ·rename_i hz
    exact Ja9 (J6o (X:=X.wish E)) N.inv rx ry ⟨i,j,rfl,rfl,hz,fin0 N K rfl⟩
   ·exact Zf K
  | _=>exact Zf K
 | _=>cases y<;>exact Zf K
theorem u_neg:UnI ce X (unaryOp .USub) J3a:=by
 intro pins s σ H ι σi h x v Q E N rx K
 obtain⟨xv,rx,qx⟩:=rx
 cases x with
 | int i =>
  have e1:xv=.int i:=qx
  subst e1
  exact J7q (J7n (X:=X.wish E)) N.inv rx ⟨i,rfl,fin0 N K rfl⟩
 | _=>exact Zf K
noncomputable def cLt:IV->IV->IH->Res IV
 | .int i,.int j,h=>.ok (.bl (decide (i<j))) h
 | .str x,.str y,h=>.ok (.bl (decide (x.cps.toList<y.cps.toList))) h
 | _,_,_=>.stuck
noncomputable def cLe:IV->IV->IH->Res IV
 | .int i,.int j,h=>.ok (.bl (decide (i<=j))) h
 | .str x,.str y,h=>.ok (.bl (!decide (y.cps.toList<x.cps.toList))) h
 | _,_,_=>.stuck
noncomputable def cGt:IV->IV->IH->Res IV
 | .int i,.int j,h=>.ok (.bl (decide (j<i))) h
 | _,_,_=>.stuck
noncomputable def cGe:IV->IV->IH->Res IV
 | .int i,.int j,h=>.ok (.bl (decide (j<=i))) h
 | _,_,_=>.stuck
theorem o_lt:OpI ce X (compareOp .Lt) cLt:=by
 intro pins s σ H ι σi h x y v u Q E N rx ry K
 obtain⟨xv,rx,qx⟩:=rx
 obtain⟨yv,ry,qy⟩:=ry
 cases x with
 | int i =>
  cases y with
  | int j =>
   have e1:xv=.int i:=qx
   have e2:yv=.int j:=qy
   subst e1 e2
   exact Ja9 (op_lt (X:=X.wish E)) N.inv rx ry ⟨i,j,rfl,rfl,fin0 N K rfl⟩
  | _=>exact Zf K
 | str i =>
  cases y with
  | str j =>
   have e1:xv=.str i:=qx
   have e2:yv=.str j:=qy
   subst e1 e2
   exact Ja9 (Jwm (X:=X.wish E)) N.inv rx ry ⟨i,j,rfl,rfl,fin0 N K rfl⟩
  | _=>exact Zf K
 | _=>cases y<;>exact Zf K
theorem o_le:OpI ce X (compareOp .LtE) cLe:=by
 intro pins s σ H ι σi h x y v u Q E N rx ry K
 obtain⟨xv,rx,qx⟩:=rx
 obtain⟨yv,ry,qy⟩:=ry
 cases x with
 | int i =>
  cases y with
  | int j =>
   have e1:xv=.int i:=qx
   have e2:yv=.int j:=qy
   subst e1 e2
   exact Ja9 (op_le (X:=X.wish E)) N.inv rx ry ⟨i,j,rfl,rfl,fin0 N K rfl⟩
  | _=>exact Zf K
 | str i =>
  cases y with
  | str j =>
   have e1:xv=.str i:=qx
   have e2:yv=.str j:=qy
   subst e1 e2
   obtain⟨t,rfl⟩:=rx
   obtain⟨t',rfl⟩:=ry
   exact PySem.P.le_str (fin0 N K rfl _ s N.inv rfl)
  | _=>exact Zf K
 | _=>cases y<;>exact Zf K
theorem o_gt:OpI ce X (compareOp .Gt) cGt:=by
 intro pins s σ H ι σi h x y v u Q E N rx ry K
 obtain⟨xv,rx,qx⟩:=rx
 obtain⟨yv,ry,qy⟩:=ry
 cases x with
 | int i =>
  cases y with
  | int j =>
   have e1:xv=.int i:=qx
   have e2:yv=.int j:=qy
   subst e1 e2
   exact Ja9 (op_gt (X:=X.wish E)) N.inv rx ry ⟨i,j,rfl,rfl,fin0 N K rfl⟩
  | _=>exact Zf K
 | _=>cases y<;>exact Zf K
theorem o_ge:OpI ce X (compareOp .GtE) cGe:=by
 intro pins s σ H ι σi h x y v u Q E N rx ry K
 obtain⟨xv,rx,qx⟩:=rx
 obtain⟨yv,ry,qy⟩:=ry
 cases x with
 | int i =>
  cases y with
  | int j =>
   have e1:xv=.int i:=qx
   have e2:yv=.int j:=qy
   subst e1 e2
   exact Ja9 (op_ge (X:=X.wish E)) N.inv rx ry ⟨i,j,rfl,rfl,fin0 N K rfl⟩
  | _=>exact Zf K
 | _=>cases y<;>exact Zf K
noncomputable def tru:IV->IH->Res Bool
 | .non,h=>.ok false h
 | .bl b,h=>.ok b h
 | .int i,h=>.ok (i != 0) h
 | .str x,h=>if x.length<=sizeLine then .ok ((x.length:Int) != 0) h else .stuck
 | .tup xs,h=>.ok (!xs.isEmpty) h
 | .rol xs,h=>.ok (!xs.isEmpty) h
 | .ref i,h=>match h[i]? with
  | some (.lst xs)=>.ok (!xs.isEmpty) h
  | some (.dct kvs)=>.ok (!kvs.isEmpty) h
  | _=>.stuck
theorem RVs.empty {K:W.Frag}{ι:List Addr}{H:Hp}{xs:List IV}{vs:List V}(r:RVs K ι H xs vs):vs.isEmpty=xs.isEmpty:=by
 have:=r.length
 cases xs<;>cases vs<;>simp_all
theorem RPs.empty {κ:Type}{K:W.Frag}{ι:List Addr}{H:Hp}{xs:List (κ×IV)}{vs:List (κ×V)}(r:RPs K ι H xs vs):vs.isEmpty=xs.isEmpty:=by
 have:=r.length
 cases xs<;>cases vs<;>simp_all
theorem finB {pins:List (Addr×Obj)}{s:Shared}{σ:L2.St}{H:Hp}{ι:List Addr}{σi:ISt}{h:IH}{c:Bool}{Q:Bool->Shared->Prop}{E:Value->Shared->Prop}(N:Now ce X pins ι σi h σ H s) (K:Kont ce X RB pins ι σi σ H (.ok c h) Q E) :
  ∀s',Inv X pins σ H s'->Q c s':=λ s' I=>K c s' H ι ⟨I,N.rel,N.st⟩ .refl rfl
theorem Jpy:TrI ce X tru:=by
 intro pins s σ H ι σi h x v Q E N rx K
 obtain⟨xv,rx,qx⟩:=rx
 cases x with
 | non =>
  have e1:xv=.non:=qx
  subst e1
  exact Jfa (Ji0 (X:=X.wish E)) N.inv rx ⟨_,rfl,finB N K⟩
 | bl b =>
  have e1:xv=.bl b:=qx
  subst e1
  exact Jfa (Ji0 (X:=X.wish E)) N.inv rx ⟨_,rfl,finB N K⟩
 | int i =>
  have e1:xv=.int i:=qx
  subst e1
  exact Jfa (Ji0 (X:=X.wish E)) N.inv rx ⟨_,rfl,finB N K⟩
 | str y =>
  have e1:xv=.str y:=qx
  subst e1
  dsimp only[tru] at K
  split at K
  ·rename_i hz
   exact Jfa (Ji0 (X:=X.wish E)) N.inv rx ⟨_,⟨hz,rfl⟩,finB N K⟩
  ·exact Zf K
 | tup xs =>
  obtain⟨a,vs,e1,sa,ra⟩:=qx
  subst e1
  exact Jfa (Ji0 (X:=X.wish E)) N.inv rx ⟨!xs.isEmpty,.inr (.inl ⟨vs,sa,by rw[ra.empty]⟩),finB N K⟩
 | rol xs =>
  obtain⟨a,vs,e1,sa,ra⟩:=qx
  subst e1
  exact Jfa (Ji0 (X:=X.wish E)) N.inv rx ⟨!xs.isEmpty,.inl ⟨vs,sa.sq,by rw[ra.empty]⟩,finB N K⟩
 | ref i =>
  obtain⟨a,e1,ha⟩:=qx
  subst e1
  dsimp only[tru] at K
  cases hi:h[i]? with
  | none=>rw[hi] at K;exact Zf K
  | some oi =>
   rw[hi] at K
   cases oi with
   | lst xs =>
    obtain⟨vs,e1,r1⟩:=N.at hi ha
    exact Jfa (Ji0 (X:=X.wish E)) N.inv rx ⟨!xs.isEmpty,.inl ⟨vs,SqL.of e1,by rw[r1.empty]⟩,finB N K⟩
   | dct kvs =>
    obtain⟨vs,e1,r1⟩:=N.at hi ha
    exact Jfa (Ji0 (X:=X.wish E)) N.inv rx ⟨!kvs.isEmpty,.inr (.inr ⟨vs,e1,by rw[r1.empty]⟩),finB N K⟩
   | _=>exact Zf K
noncomputable def eTup (a:A1):E1:=λ σ h=>(a σ h).bind λ xs h1=>if xs.length<=sizeLine then .ok (.tup xs) h1 else .stuck
noncomputable def eLst (a:A1):E1:=λ σ h=>(a σ h).bind λ xs h1=>if xs.length<=sizeLine then .ok (.ref h1.length) (h1++[.lst xs]) else .stuck
variable {es:List Expr}{mr:A1}{pos:Pos}
theorem J52 {x1} (hr:PAi ce X es mr):PEi ce X (.Tuple es x1 pos) (eTup mr):=λ pins s σ H ι σi h Q E N K=>by
 refine wpAny_Tuple_spliced ((hr pos).run N K λ xs h1 us s1 H1 ι1 N1 n1 r1 K1=>?_)
 change Kont ce X RU pins ι1 σi σ H1 (if xs.length<=sizeLine then _ else _) Q E at K1
 split at K1
 ·rename_i hz
  obtain⟨vs,rv,qs⟩:=r1
  have hl:=rv.length
  have hl2:=qs.length
  have hf:H1 s1.heap.objs.size=none:=N1.inv.hok.fresh (Nat.le_refl _)
  refine⟨by rw[<- hl,hl2];exact hz,?_⟩
  exact finT N1 K1 s1.heap.objs.size hf qs _ _ (N1.inv.laid (t':=s1.toks) (λ b u e=>Heap.get?_push_of_some _ e) (Nat.le_refl _) ⟨by rw[hl2];exact hz,us,rv,⟨_,Heap.get?_push_size _ rfl,rfl,_,rfl⟩⟩) rfl
 ·exact Zf K1
theorem i_lst (hr:PAi ce X es mr):PEi ce X (.List es pos) (eLst mr):=λ pins s σ H ι σi h Q E N K=>by
 refine wpAny_List_spliced ((hr pos).run N K λ xs h1 us s1 H1 ι1 N1 n1 r1 K1=>?_)
 change Kont ce X RU pins ι1 σi σ H1 (if xs.length<=sizeLine then _ else _) Q E at K1
 split at K1
 ·rename_i hz
  obtain⟨vs,rv,qs⟩:=r1
  have hl:=rv.length
  have hl2:=qs.length
  have hf:H1 s1.heap.objs.size=none:=N1.inv.hok.fresh (Nat.le_refl _)
  refine⟨by rw[<- hl,hl2];exact hz,?_⟩
  exact finA N1 K1 s1.heap.objs.size hf ⟨_,Je,RVs.new hf qs⟩ _ _ (N1.inv.laid (t':=s1.toks) (λ b u e=>Heap.get?_push_of_some _ e) (Nat.le_refl _) ⟨by rw[hl2];exact hz,us,0,rv,Heap.get?_push_size _ rfl⟩) rfl
 ·exact Zf K1
end
section
variable {prog:Program}{w:World}{A:Around}{E:Value->Shared->Prop}{s:Shared}
theorem Jod {it t:Addr}{items:Array Value}(hne:t≠it):∀(n i:Nat) (s:Shared) (Q:List Value->Shared->Prop),s.heap.IsListIter it t i->s.heap.IsList t items->i+n<=items.size ->
  (∀h',h'.IsListIter it t (i+n)->Heap.SameBut it s.heap h'->Q ((items.toList.drop i).take n) { s with heap:=h' })->wpAny (model prog w) A (draw (.ref it) n) Q E s
 | 0,i,s,Q,hit,_,_,hQ=>by
  show wpAny _ _ (pure []) Q E s
  exact wpAny_pure (by simpa using hQ s.heap hit (Heap.SameBut.refl ..))
 | n+1,i,s,Q,hit,ht,hle,hQ=>by
  have hlt:i<items.size:=by omega
  show wpAny _ _ (pyNext (.ref it)>>=_) Q E s
  refine wpAny_bind (wpAny_pyNext_list_item hit ht (x:=items[i]) (by simp[hlt]) λ h₁ hit₁ hs₁=>?_)
  refine wpAny_bind (wpAny_holding (Jod hne n (i+1) _ _ hit₁ (ht.extBut hs₁.extBut hne) (by omega) λ h₂ hit₂ hs₂=>wpAny_pure ?_))
  have hd:items.toList.drop i=items[i]::items.toList.drop (i+1):=by simp[List.drop_eq_getElem_cons,hlt]
  have:=hQ h₂ (by rw[show i+(n+1)=i+1+n by omega];exact hit₂) (hs₁.trans hs₂)
  rw[hd,List.take_succ_cons] at this
  exact this
theorem Jjb {t:Addr}{items:Array Value}{Q:List Value->Shared->Prop}(hh:A.handled=none) (ht:s.heap.IsList t items)
  (hQ:∀h',Heap.ExtBut s.heap.objs.size s.heap h'->Q items.toList { s with heap:=h' }):wpAny (model prog w) A (unpackItems (.ref t) items.size none) Q E s:=by
 have hlt:t≠s.heap.objs.size:=by obtain⟨o,ho,_⟩:=ht;exact Nat.ne_of_lt (Heap.lt_size ho)
 unfold unpackItems
 refine wpAny_bind ?_
 ·unfold notIterableAtAll
  refine wpAny_bind (wpAny_specialOf ht.typeIs slot_list_iter.lookup ?_)
  refine wpAny_pure ?_
  simp only[Bool.false_eq_true,if_false]
  refine wpAny_bind (wpAny_holding (wpAny_pyIter_list ht ?_))
  refine wpAny_bind (wpAny_holding (Jod hlt items.size 0 _ _ ⟨_,Heap.get?_push_size _ rfl,rfl,rfl⟩ (ht.push _) (by omega) λ h₁ hit₁ hs₁=>?_))
  have hall:List.take items.size (List.drop 0 items.toList)=items.toList:=by
   rw[List.drop_zero];exact List.take_of_length_le (by simp)
  rw[hall]
  rw[if_neg (by simp)]
  have ht₁:h₁.IsList t items:=(ht.push _).extBut hs₁.extBut hlt
  refine wpAny_bind (wpAny_holding (wpAny_pyNext_list_end hh hit₁ ht₁ (by simp) λ h₂ he₂=>?_))
  simp only[Option.isSome_none,Bool.false_eq_true,if_false]
  refine wpAny_pure (hQ h₂ λ b o hb e=>he₂ b o hb (hs₁.extBut b o hb (Heap.get?_push_of_some _ e)))
theorem Jh6 {env:Env}{elts:List Expr}{x1} {pos:Pos}{t:Addr}{items:Array Value}{Q:Unit->Shared->Prop}(hh:A.handled=none) (ht:s.heap.IsList t items)
  (hn:(assignEach elts env).length=items.size) (hstar:(assignEach elts env).findIdx? (·.1)=none)
  (h:∀h',Heap.ExtBut s.heap.objs.size s.heap h'->wpAny (model prog w) A (assignInOrder ((assignEach elts env).map (·.2)) items.toList) Q E { s with heap:=h' }) :
  wpAny (model prog w) A (assign (.Tuple elts x1 pos) env (.ref t)) Q E s:=by
 rw[assign_Tuple]
 refine wpAny_bind (wpAny_standAt ?_)
 unfold unpack
 rw[hn,hstar]
 exact wpAny_bind (wpAny_holding (Jjb hh ht h))
end
noncomputable abbrev S1:=ISt->IH->SRes
structure Noted (L:Addr) (fs:List Addr) (e:Addr) (h h3:Heap):Prop where
 ex:∃oe vs T ts,h.get? e=some oe/\oe.data=.fields vs/\1<vs.size/\h3.get? e=some (Obj.mapFields (·.setIfInBounds 1 (.ref T)) oe)/\T≠e/\h.get? T=none/\h3.get? T=some { cls:=.type "traceback",dict:=none,data:=.fields ts }/\ts[3]?=some (rawInt L)
 slot:∀b o,h.get? b=some o->b≠e->∃sl,h3.get? b=some { o with slots:=sl }
 keep:∀b o,h.get? b=some o->b≠e->b∉fs->h3.get? b=some o
noncomputable def Fly (L:Addr) (fs:List Addr) (e:Addr) (s s1:Shared):Prop:=s1=s∨∃h',s1={ s with heap:=h' }/\Noted L fs e s.heap h'
noncomputable def Jaw (ce:Str->Option Addr) (X:Cx) (pins:List (Addr×Obj)) (ι:List Addr) (H:Hp) (r:SRes) (Q:Flow->Shared->Prop) (E:Value->Shared->Prop):Prop :=
 match r with
 | .next σi' h'=>∀s' σ' H' ι',Now ce X pins ι' σi' h' σ' H' s'->Nxt ι H ι' H'->Q .next s'
 | .brk σi' h'=>∀s' σ' H' ι',Now ce X pins ι' σi' h' σ' H' s'->Nxt ι H ι' H'->Q .brk s'
 | .cont σi' h'=>∀s' σ' H' ι',Now ce X pins ι' σi' h' σ' H' s'->Nxt ι H ι' H'->Q .cont s'
 | .ret v h'=>∀u s' σi' σ' H' ι',Now ce X pins ι' σi' h' σ' H' s'->Nxt ι H ι' H'->RU X.K ι' H' v u->Q (.ret u) s'
 | .exc n σi' h'=>∀pl a s' σ' H' ι',Now ce X (pins++pl) ι' σi' h' σ' H' s'->Nxt ι H ι' H'->ι'[n]?=some a->∀s1,Fly X.env.locals (frs X.stack) a s' s1->E (.ref a) s1
 | .stuck=>False
theorem Jaw.mono {ce:Str->Option Addr}{X:Cx}{pins:List (Addr×Obj)}{ι ι':List Addr}{H H':Hp}{r:SRes}{Q:Flow->Shared->Prop}{E:Value->Shared->Prop}(k:Jaw ce X pins ι H r Q E) (n:Nxt ι H ι' H'):Jaw ce X pins ι' H' r Q E:=by
 cases r with
 | next σ h=>exact λ s' σ' H2 ι2 N n2=>k s' σ' H2 ι2 N (n.trans n2)
 | brk σ h=>exact λ s' σ' H2 ι2 N n2=>k s' σ' H2 ι2 N (n.trans n2)
 | cont σ h=>exact λ s' σ' H2 ι2 N n2=>k s' σ' H2 ι2 N (n.trans n2)
 | ret v h=>exact λ u s' σi' σ' H2 ι2 N n2=>k u s' σi' σ' H2 ι2 N (n.trans n2)
 | exc m σ h=>exact λ pl a s' σ' H2 ι2 N n2=>k pl a s' σ' H2 ι2 N (n.trans n2)
 | stuck=>exact k
noncomputable def PSi (ce:Str->Option Addr) (X:Cx) (t:Sem Flow) (m:S1):Prop :=
 ∀(pins:List (Addr×Obj)) (s:Shared) (σ:L2.St) (H:Hp) (ι:List Addr) (σi:ISt) (h:IH) (Q:Flow->Shared->Prop) (E:Value->Shared->Prop),Now ce X pins ι σi h σ H s->Jaw ce X pins ι H (m σi h) Q E->wpAny (model X.prog X.w) X.A t Q E s
noncomputable abbrev PS1 (ce:Str->Option Addr) (X:Cx) (st:Stmt) (m:S1):Prop:=PSi ce X (exec st X.env) m
noncomputable abbrev PS2 (ce:Str->Option Addr) (X:Cx) (sts:List Stmt) (m:S1):Prop:=PSi ce X (execs sts X.env) m
noncomputable def sNil:S1:=λ σ h=>.next σ h
noncomputable def sSeq (a b:S1):S1:=λ σ h=>match a σ h with
 | .next σ' h'=>b σ' h'
 | r=>r
noncomputable def Jzv:S1:=λ σ h=>.next σ h
noncomputable def J1g:S1:=λ σ h=>.brk σ h
noncomputable def J61:S1:=λ σ h=>.cont σ h
noncomputable def rS {α:Type}(σ:ISt) (r:Res α) (k:α->IH->SRes):SRes:=match r with
 | .ok a h=>k a h
 | .exc n h=>.exc n σ h
 | .stuck=>.stuck
noncomputable def Jci (e:E1):S1:=λ σ h=>rS σ (e σ h) λ _ h'=>.next σ h'
noncomputable def sRet (e:E1):S1:=λ σ h=>rS σ (e σ h) λ v h'=>.ret v h'
noncomputable def J3q:S1:=λ _ h=>.ret .non h
noncomputable def sIf (t:T1) (a b:S1):S1:=λ σ h=>rS σ (t σ h) λ c h'=>if c then a σ h' else b σ h'
noncomputable def sSet (i:Nat) (e:E1):S1:=λ σ h=>rS σ (e σ h) λ v h'=>.next (σ.set i (some v)) h'
section
variable {ce:Str->Option Addr}{X:Cx}{st:Stmt}{rest:List Stmt}{m m1 m2:S1}{e:Expr}{me:E1}{pos:Pos}
theorem krun {α β:Type}{R:REL α β}{t:Sem β}{mm:ISt->IH->Res α}(p:PX ce X R t mm){pins:List (Addr×Obj)}{s:Shared}{σ:L2.St}{H:Hp}{ι:List Addr}{σi:ISt}{h:IH}(N:Now ce X pins ι σi h σ H s){g:α->IH->SRes}{Q:Flow->Shared->Prop}{E:Value->Shared->Prop}{Q1:β->Shared->Prop}
  (K:Jaw ce X pins ι H (rS σi (mm σi h) g) Q E)
  (step:∀x h1 u s1 H1 ι1,Now ce X pins ι1 σi h1 σ H1 s1->Nxt ι H ι1 H1->R X.K ι1 H1 x u->Jaw ce X pins ι1 H1 (g x h1) Q E->Q1 u s1):wpAny (model X.prog X.w) X.A t Q1 E s:=by
 refine p pins s σ H ι σi h Q1 E N ?_
 cases e:mm σi h with
 | ok v h' =>
  rw[e] at K
  exact λ u s' H' ι' N' n' r=>step v h' u s' H' ι' N' n' r (Jaw.mono (r:=g v h') K n')
 | exc n h' =>
  rw[e] at K
  exact λ pl a s' H' ι' N' n' q=>K pl a s' σ H' ι' N' n' q s' (.inl rfl)
 | stuck =>
  rw[e] at K
  exact K
theorem J6z:PS2 ce X [] sNil:=λ _ s σ H ι _ _ _ _ N K=>wpAny_execs_nil (K s σ H ι N .refl)
theorem J3o (h1:PS1 ce X st m1) (h2:PS2 ce X rest m2):PS2 ce X (st::rest) (sSeq m1 m2):=by
 intro pins s σ H ι σi h Q E N K
 refine wpAny_execs_cons (h1 pins s σ H ι σi h _ E N ?_)
 unfold sSeq at K
 cases e:m1 σi h with
 | next σ' h' =>
  rw[e] at K
  exact λ s' σ2 H' ι' N' n'=>h2 pins s' σ2 H' ι' σ' h' Q E N' (Jaw.mono (r:=m2 σ' h') K n')
 | brk σ' h'=>rw[e] at K;exact K
 | cont σ' h'=>rw[e] at K;exact K
 | ret v h'=>rw[e] at K;exact K
 | exc n σ' h'=>rw[e] at K;exact K
 | stuck=>rw[e] at K;exact K
theorem J60 (h1:PS1 ce X st m1):PS2 ce X [st] m1:=by
 intro pins s σ H ι σi h Q E N K
 refine wpAny_execs_cons (h1 pins s σ H ι σi h _ E N ?_)
 cases e:m1 σi h with
 | next σ' h' =>
  rw[e] at K
  exact λ s' σ2 H' ι' N' n'=>wpAny_execs_nil (K s' σ2 H' ι' N' n')
 | brk σ' h'=>rw[e] at K;exact K
 | cont σ' h'=>rw[e] at K;exact K
 | ret v h'=>rw[e] at K;exact K
 | exc n σ' h'=>rw[e] at K;exact K
 | stuck=>rw[e] at K;exact K
theorem J1j:PS1 ce X (.Pass pos) Jzv:=λ _ s σ H ι _ _ _ _ N K=>wpAny_Pass (K s σ H ι N .refl)
theorem J3r:PS1 ce X (.Break pos) J1g:=λ _ s σ H ι _ _ _ _ N K=>wpAny_Break (K s σ H ι N .refl)
theorem J63:PS1 ce X (.Continue pos) J61:=λ _ s σ H ι _ _ _ _ N K=>wpAny_Continue (K s σ H ι N .refl)
theorem J64 (he:PEi ce X e me) (hs:swapsWith e none pos.line X.env=pure false:=by rfl):PS1 ce X (.Expr e pos) (Jci me):=λ pins s σ H ι σi h Q E N K =>
 wpAny_Expr_any (krun he N K λ x h1 u s1 H1 ι1 N1 n1 r1 K1=>K1 s1 σ H1 ι1 N1 .refl) N.inv.quiet hs
theorem J66 (he:PEi ce X e me):PS1 ce X (.Return (some e) pos) (sRet me):=λ pins s σ H ι σi h Q E N K =>
 wpAny_Return_some (krun he N K λ x h1 u s1 H1 ι1 N1 n1 r1 K1=>K1 u s1 σi σ H1 ι1 N1 .refl r1)
theorem J67:PS1 ce X (.Return none pos) J3q:=λ pins s σ H ι σi h Q E N K=>wpAny_Return_none (K .none s σi σ H ι N .refl ⟨.non,rfl,rfl⟩)
theorem s_if {c:Expr}{a b:List Stmt}{mt:T1}(hc:PTi ce X c mt) (ha:PS2 ce X a m1) (hb:PS2 ce X b m2):PS1 ce X (.If c a b pos) (sIf mt m1 m2):=λ pins s σ H ι σi h Q E N K =>
 wpAny_If (krun hc N K λ x h1 u s1 H1 ι1 N1 n1 r1 K1=>by
  have r':u=x:=r1
  subst r'
  cases u with
  | true=>exact ha pins s1 σ H1 ι1 σi h1 Q E N1 K1
  | false=>exact hb pins s1 σ H1 ι1 σi h1 Q E N1 K1)
theorem J3t {i:Nat}{x:Str}{pos':Pos}(hN:X.N.Nodup) (he:PEi ce X e me) (hi:X.N[i]?=some x:=by rfl) (hx:Loc X.env.scope x:=by assumption) (hs:swapsWith e (some (.Name x pos')) pos.line X.env=pure false:=by rfl)
  (hf:X.fn x=true∨X.env.scope.names.lookup x=some .local:=by assumption):PS1 ce X (.Assign [.Name x pos'] e pos) (sSet i me):=λ pins s σ H ι σi h Q E N K =>
 wpAny_Assign_Name (krun he N K λ v h1 u s1 H1 ι1 N1 n1 r1 K1=>by
  obtain⟨w,rw',q⟩:=r1
  exact Jjj N1.inv hN hi hx rw' (λ s2 I2=>K1 s2 _ H1 ι1 ⟨I2,N1.rel,N1.st.set i q⟩ .refl) hf) hs
noncomputable abbrev G1:=IV->ISt->IH->SRes
noncomputable def PGi (ce:Str->Option Addr) (X:Cx) (tg:Expr) (g:G1):Prop :=
 ∀(pins:List (Addr×Obj)) (s:Shared) (σ:L2.St) (H:Hp) (ι:List Addr) (σi:ISt) (h:IH) (v:IV) (u:Value) (Q:Flow->Shared->Prop) (E:Value->Shared->Prop),Now ce X pins ι σi h σ H s->RU X.K ι H v u->Jaw ce X pins ι H (g v σi h) Q E ->
  wpAny (model X.prog X.w) X.A (assign tg X.env u) (λ _ s'=>Q .next s') E s
noncomputable def gNm (i:Nat):G1:=λ v σ h=>.next (σ.set i (some v)) h
theorem g_nm {i:Nat}{x:Str}(hN:X.N.Nodup) (hi:X.N[i]?=some x:=by rfl) (hx:Loc X.env.scope x:=by assumption) (hf:X.fn x=true∨X.env.scope.names.lookup x=some .local:=by assumption):PGi ce X (.Name x pos) (gNm i):=by
 intro pins s σ H ι σi h v u Q E N r K
 obtain⟨w,rw',q⟩:=r
 exact wpAny_assign_Name (Jjj N.inv hN hi hx rw' (λ s2 I2=>K s2 _ H ι ⟨I2,N.rel,N.st.set i q⟩ .refl) hf)
noncomputable def PGsi (ce:Str->Option Addr) (X:Cx) (ts:List Expr) (g:List IV->ISt->IH->SRes):Prop :=
 ∀(pins:List (Addr×Obj)) (s:Shared) (σ:L2.St) (H:Hp) (ι:List Addr) (σi:ISt) (h:IH) (vs:List IV) (us:List Value) (Q:Flow->Shared->Prop) (E:Value->Shared->Prop),Now ce X pins ι σi h σ H s->RUs X.K ι H vs us->Jaw ce X pins ι H (g vs σi h) Q E ->
  wpAny (model X.prog X.w) X.A (assignInOrder ((assignEach ts X.env).map (·.2)) us) (λ _ s'=>Q .next s') E s
noncomputable def gN:List IV->ISt->IH->SRes
 | [],σ,h=>.next σ h
 | _::_,_,_=>.stuck
noncomputable def gC (g:G1) (r:List IV->ISt->IH->SRes):List IV->ISt->IH->SRes
 | v::vs,σ,h=>match g v σ h with
  | .next σ' h'=>r vs σ' h'
  | .exc n σ' h'=>.exc n σ' h'
  | _=>.stuck
 | [],_,_=>.stuck
theorem J5j:PGsi ce X [] gN:=by
 intro pins s σ H ι σi h vs us Q E N r K
 cases vs with
 | nil =>
  obtain⟨xs,rv,q⟩:=r
  have e1:xs=[]:=q
  subst e1
  cases rv
  exact assignInOrder_nil (K s σ H ι N .refl)
 | cons v vs=>exact Zf K
theorem J2j {tg:Expr}{ts:List Expr}{g:G1}{r:List IV->ISt->IH->SRes}(h1:PGi ce X tg g) (h2:PGsi ce X ts r)
  (hs:(assignEach (tg::ts) X.env).map (·.2)=assign tg X.env::(assignEach ts X.env).map (·.2):=by rfl):PGsi ce X (tg::ts) (gC g r):=by
 intro pins s σ H ι σi h vs us Q E N ru K
 cases vs with
 | nil=>exact Zf K
 | cons v vs =>
  obtain⟨xs,rv,x,xr,e1,q,qs⟩:=ru
  subst e1
  cases rv with
  | cons r1 r2 =>
   rw[hs]
   refine assignInOrder_cons (h1 pins s σ H ι σi h v _ (λ f s'=>wpAny (model X.prog X.w) X.A (assignInOrder ((assignEach ts X.env).map (·.2)) _) (λ _ s'=>Q .next s') E s') E N ⟨x,r1,q⟩ ?_)
   have K':Jaw ce X pins ι H (match g v σi h with|.next σ' h'=>r vs σ' h'|.exc n σ' h'=>.exc n σ' h'|_=>.stuck) Q E:=K
   cases e:g v σi h with
   | next σ' h' =>
    rw[e] at K'
    exact λ s' σ2 H' ι' N' n'=>h2 pins s' σ2 H' ι' σ' h' vs _ Q E N' ⟨xr,r2,RVs.mono n' _ _ qs⟩ (Jaw.mono (r:=r vs σ' h') K' n')
   | exc n σ' h'=>rw[e] at K';exact K'
   | _=>rw[e] at K';exact(show False from K').elim
noncomputable def gTp (n:Nat) (g:List IV->ISt->IH->SRes):G1:=λ v σ h=>match v with
 | .tup xs=>if xs.length=n then g xs σ h else .stuck
 | .ref i=>(match h[i]? with
  | some (.lst xs)=>if xs.length=n then g xs σ h else .stuck
  | _=>.stuck)
 | _=>.stuck
theorem g_tup {es:List Expr}{k n:Nat}{g:List IV->ISt->IH->SRes}(hc:X.calm=true) (hg:PGsi ce X es g) (hn:(assignEach es X.env).length=n:=by rfl) (hst:(assignEach es X.env).findIdx? (·.1)=none:=by rfl):PGi ce X (.Tuple es k pos) (gTp n g):=by
 intro pins s σ H ι σi h v u Q E N r K
 obtain⟨w,rw',q⟩:=r
 cases v with
 | tup xs =>
  obtain⟨a,vs,e1,sa,ra⟩:=q
  subst e1
  cases rw'
  unfold gTp at K
  dsimp only at K
  split at K
  ·rename_i hl
   obtain⟨its,rv,ht,hz⟩:=N.inv.tuple sa
   have l1:=ra.length
   have l2:=rv.length
   refine assign_Tuple_tuple (N.inv.ok.hd hc) ht (by simp only[List.size_toArray];omega) hst λ h' hx=>?_
   have I1:Inv X pins σ H { s with heap:=h' }:=N.inv.kept (t':=s.toks) λ b o e=>hx b o (Nat.ne_of_lt (Heap.lt_size e)) e
   exact hg pins _ σ H ι σi h xs _ Q E ⟨I1,N.rel,N.st⟩ ⟨vs,by simpa using rv,ra⟩ K
  ·exact Zf K
 | ref i =>
  obtain⟨a,e1,ha⟩:=q
  subst e1
  cases rw'
  unfold gTp at K
  dsimp only at K
  cases hi:h[i]? with
  | none=>rw[hi] at K;exact Zf K
  | some ob =>
   rw[hi] at K
   cases ob with
   | lst xs =>
    dsimp only at K
    split at K
    ·rename_i hl
     obtain⟨vs,g1,ra⟩:=N.at hi ha
     obtain⟨its,rv,ht,hz⟩:=N.inv.list (SqL.of g1)
     have l1:=ra.length
     have l2:=rv.length
     refine Jh6 (N.inv.ok.hd hc) ht.isList (by simp only[List.size_toArray];omega) hst λ h' hx=>?_
     have I1:Inv X pins σ H { s with heap:=h' }:=N.inv.kept (t':=s.toks) λ b o e=>hx b o (Nat.ne_of_lt (Heap.lt_size e)) e
     exact hg pins _ σ H ι σi h xs _ Q E ⟨I1,N.rel,N.st⟩ ⟨vs,by simpa using rv,ra⟩ K
    ·exact Zf K
   | _=>exact Zf K
 | _=>exact Zf K
noncomputable def sAsg (e:E1) (g:G1):S1:=λ σ h=>rS σ (e σ h) λ v h'=>g v σ h'
theorem s_asg {tg:Expr}{g:G1}(he:PEi ce X e me) (hg:PGi ce X tg g) (hs:swapsWithSole [tg] e pos.line X.env=pure false:=by rfl) (hw:swappedStores [tg] e X.env=pure none:=by rfl)
  (h1:(assignEach [tg] X.env).map (·.2)=[assign tg X.env]:=by rfl):PS1 ce X (.Assign [tg] e pos) (sAsg me g):=λ pins s σ H ι σi h Q E N K =>
 wpAny_Assign_stores (krun he N K λ v h2 u s1 H1 ι1 N1 n1 r1 K1=>by
  rw[h1]
  exact hg pins s1 σ H1 ι1 σi h2 v u Q E N1 r1 K1) hs hw
end
theorem ExF.ok {P:Program}{w:World}{H:Hp}{h:Heap}{a C:Addr}{tv:Value}{dd:Option Addr}{oe:Obj}{vs:Array Value}(e:h.get? a=some oe) (c:oe.cls=.ref C) (d:oe.data=.fields vs) (v:vs[1]?=some tv) (v2:vs[2]?=some .none) (v3:oe.dict=dd):Jbn P w H h a (ExF a C tv dd) :=
 ⟨⟨oe,vs,e,c,d,v,v2,v3⟩,⟨oe,e⟩,λ _ _ ⟨o,us,e1,r⟩ k=>⟨o,us,k _ e1,r⟩⟩
theorem ExF.get {P:Program}{w:World}{H:Hp}{h:Heap}{a C:Addr}{tv:Value}{d:Option Addr}(x:HOk P w H h) (e:H a=some (ExF a C tv d)):∃oe vs,h.get? a=some oe/\oe.cls=.ref C/\oe.data=.fields vs/\vs[1]?=some tv/\vs[2]?=some .none/\oe.dict=d :=
 (x a _ e).1
theorem Job (o:Obj) (f:Array Value->Array Value):(o.mapFields f).dict=o.dict:=by
 unfold Obj.mapFields
 split<;>rfl
theorem Jyk {P:Program}{w:World}{H:Hp}{h:Heap}{a C C':Addr}{tv tv':Value}{d d':Option Addr}(x:HOk P w H h) (e1:H a=some (ExF a C tv d)) (e2:H a=some (ExF a C' tv' d')):d=d':=by
 obtain⟨o,_,g,_,_,_,_,q⟩:=ExF.get x e1
 obtain⟨o',_,g',_,_,_,_,q'⟩:=ExF.get x e2
 cases g.symm.trans g'
 exact q.symm.trans q'
theorem Jwl {P:Program}{w:World}{H:Hp}{h:Heap}{a:Addr}:∀{o:HO},Jbn P w H h a o->∃u,h.get? a=some u
 | .lst _,⟨_,_,_,_,e⟩=>⟨_,e⟩
 | .tup _,⟨_,_,_,⟨_,e,_⟩⟩=>⟨_,e⟩
 | .dK _,⟨_,_,_,_,o,_,_,e,_⟩=>⟨o,e⟩
 | .dT _,⟨_,_,_,_,o,_,_,e,_⟩=>⟨o,e⟩
 | .set _ _,⟨o,_,_,_,e,_⟩=>⟨o,e⟩
 | .ins _ _ _,⟨_,_,_,e,_⟩=>⟨_,e⟩
 | .own _,⟨_,e⟩=>⟨_,e⟩
 | .xd _,⟨_,⟨_,_,_,e,_⟩,_⟩=>⟨_,e⟩
 | .rng _ _,⟨_,_,_,e⟩=>⟨_,e⟩
 | .frz _ _,⟨e,_⟩=>⟨_,e⟩
 | .tbl _,e=>⟨_,(show h.get? a=some _ from e)⟩
 | .met _ _,e=>⟨_,(show h.get? a=some _ from e)⟩
 | .ext _,⟨_,⟨_,e⟩,_⟩=>⟨_,e⟩
theorem Jq5 {h:Heap}{T:Addr}{oT:Obj}{ts:Array Value}{v:Value}(e:h.get? T=some oT) (d:oT.data=.fields ts) (q:ts[3]?=some v):(h.update T (Obj.mapFields (·.setIfInBounds 3 v))).get? T=some oT:=by
 have es:ts.setIfInBounds 3 v=ts:=by
  refine Array.ext (by simp) λ i h1 h2=>?_
  rw[Array.getElem_setIfInBounds]
  split
  ·rename_i z
   subst z
   rw[Array.getElem?_eq_getElem h2] at q
   exact(Option.some.inj q).symm
  ·rfl
 have eo:Obj.mapFields (·.setIfInBounds 3 v) oT=oT:=by
  obtain⟨c,dd,dt,sl⟩:=oT
  have d:dt=.fields ts:=d
  subst d
  simp only[Obj.mapFields,es]
 rw[Heap.get?_update_self _ e (by rw[eo];exact Obj.isFreed_of_fields d),eo]
section
variable {X:Cx}{pins:List (Addr×Obj)}{σ:L2.St}{H:Hp}{s:Shared}{M:Model}{E:Value->Shared->Prop}{Q:Unit->Shared->Prop}{a C:Addr}{tv:Value}{d:Option Addr}{h3:Heap}{s1:Shared}
structure Past (X:Cx) (H:Hp) (h:Heap) (a C:Addr) (d:Option Addr) (T:Addr) (oT:Obj) (h':Heap):Prop where
 new:H T=none
 ne:T≠a
 fld:∃ts,oT.data=.fields ts/\ts[3]?=some .none
 un:Un (frs X.stack) [] H (upd (upd H T (.frz oT (.own 0))) a (ExF a C (.ref T) d)) h h'
 hok:HOk X.prog X.w (upd (upd H T (.frz oT (.own 0))) a (ExF a C (.ref T) d)) h'
theorem Jsc (I:Inv X pins σ H s) (hs:X.stack=X.env::X.outer) (hf:X.env.frame=some X.env.locals) (ha:H a=some (ExF a C tv d)) (ht:TvOk H tv)
  (k:∀h3,Noted X.env.locals (frs X.stack) a s.heap h3->Q () { s with heap:=h3 }):wpAny M X.A (noteFrame (.ref a) X.env) Q E s:=by
 obtain⟨oe,vs,e1,e2,e3,e4,e5,e6⟩:=ExF.get I.hok ha
 have hfa:a∉frs X.stack:=λ z=>by rw[I.stkFree a z] at ha;cases ha
 have fr:=I.ok.frames
 have ff:s.heap.FunFrames X.base X.stack:=I.stack
 have len1:1<vs.size:=(Array.getElem?_eq_some_iff.mp e4).1
 have go:∀(h:Heap){head:Value}{hn:Bool},(∀b,h.get? b=s.heap.get? b)->wpAny M X.A (do let f<-frameOf X.env;let pl<-entryPlaceOf X.env.locals hn;let b<-EntryCells.newEntry head f .none (rawInt X.env.locals) .none pl;setField (.ref a) 1 b) Q E { s with heap:=h }:=by
  intro h head hn hh
  have ffh:h.FunFrames X.base X.stack:=ff.of_keeps λ b o q _=>⟨o,(hh b).trans q,rfl⟩
  rw[hs] at fr ffh
  refine wpAny_bind (wpAny_frameOf_fun (s:={ s with heap:=h }) fr ffh hf λ h1 so=>?_)
  have he1:h1.get? a=some oe:=(so.2.1 a (by rw[hs] at hfa;exact hfa)).trans ((hh a).trans e1)
  refine wpAny_bind (wpAny_entryPlaceOf λ pl hpl=>?_)
  unfold EntryCells.newEntry newFields
  refine wpAny_bind (wpAny_newObj_type ?_ (hpl.sizeOk5 _ _ _ _ _))
  have t3:([head,Value.ref X.env.locals,Value.none,rawInt X.env.locals,Value.none]++(if pl.isEmpty then List.replicate 6 Value.none else pl)).toArray[3]?=some (rawInt X.env.locals):=by simp
  generalize ([head,Value.ref X.env.locals,Value.none,rawInt X.env.locals,Value.none]++(if pl.isEmpty then List.replicate 6 Value.none else pl)).toArray=ts at t3 ⊢
  have lt2:∀b o,h1.get? b=some o->b≠h1.objs.size:=λ b o q=>Nat.ne_of_lt (Heap.lt_size q)
  have nT:h1.objs.size≠a:=Ne.symm (lt2 a _ he1)
  have up2:∀b o,h1.get? b=some o->(h1.push { cls:=.type "traceback",dict:=none,data:=.fields ts }).get? b=some o:=λ b o q=>Heap.get?_push_of_some _ q
  have gT2:(h1.push { cls:=.type "traceback",dict:=none,data:=.fields ts }).get? h1.objs.size=some { cls:=.type "traceback",dict:=none,data:=.fields ts }:=Heap.get?_push_size h1 rfl
  refine wpAny_setField (up2 _ _ he1) e3 len1 (k _ ⟨⟨oe,vs,h1.objs.size,ts,e1,e3,len1,Heap.get?_update_self _ (up2 _ _ he1) (Obj.isFreed_of_fields (Obj.data_mapFields e3 _)),nT,?_,(Heap.get?_update_other _ _ (Ne.symm nT)).trans gT2,t3⟩,λ b o q n=>?_,λ b o q n m=>?_⟩)
  ·cases q:s.heap.get? h1.objs.size with
   | none=>rfl
   | some o =>
    obtain⟨sl,z⟩:=so.2.2 _ _ ((hh _).trans q)
    exact absurd rfl (lt2 _ _ z)
  ·obtain⟨sl,z⟩:=so.2.2 _ _ ((hh b).trans q)
   exact⟨sl,(Heap.get?_update_other _ _ (Ne.symm n)).trans (up2 _ _ z)⟩
  ·exact(Heap.get?_update_other _ _ (Ne.symm n)).trans (up2 _ _ ((so.2.1 b (by rw[hs] at m;exact m)).trans ((hh b).trans q)))
 unfold noteFrame
 rw[hf]
 refine wpAny_bind (wpAny_field e1 e3 e4 ?_)
 rcases ht with rfl|⟨T,oT,ts,rfl,q1,q2,q3⟩
 ·rw[if_neg (by decide)]
  exact go s.heap λ _=>rfl
 ·have gT:s.heap.get? T=some oT:=(I.hok T _ q1).1
  rw[if_pos (by simp)]
  refine wpAny_bind (wpAny_field gT q2 q3 ?_)
  rw[if_neg (by simp[rawInt])]
  refine wpAny_bind (wpAny_setField gT q2 (Array.getElem?_eq_some_iff.mp q3).1 ?_)
  refine go _ λ b=>?_
  by_cases z:b=T
  ·subst z
   exact(Jq5 gT q2 q3).trans gT.symm
  ·exact Heap.get?_update_other _ _ (Ne.symm z)
theorem Jkj {A:Around}{env:Env}{fs:List Addr}{h:Heap}(hf:env.frame=some env.locals) (n:Noted env.locals fs a h h3) (q:Q () { s with heap:=h3 }):wpAny M A (noteFrame (.ref a) env) Q E { s with heap:=h3 }:=by
 obtain⟨⟨oe,vs,T,ts,g1,g2,g3,g4,g5,g6,g7,g8⟩,_,_⟩:=n
 unfold noteFrame
 rw[hf]
 refine wpAny_bind (wpAny_field (x:=.ref T) g4 (Obj.data_mapFields g2 _) (by simp[g3]) ?_)
 rw[if_pos (by simp)]
 refine wpAny_bind (wpAny_field g7 rfl g8 ?_)
 rw[if_pos (by simp)]
 exact wpAny_pure q
theorem Jtn {A:Around}{env:Env}{fs:List Addr}{h:Heap}(hf:env.frame=some env.locals) (n:Noted env.locals fs a h h3) (k:∀h4,Noted env.locals fs a h h4->E (.ref a) { s with heap:=h4 }):cameBackBy M A env E (.ref a) { s with heap:=h3 }:=by
 obtain⟨⟨oe,vs,T,ts,g1,g2,g3,g4,g5,g6,g7,g8⟩,sl,kp⟩:=n
 unfold cameBackBy
 refine wpAny_bind (wpAny_field (x:=.ref T) g4 (Obj.data_mapFields g2 _) (by simp[g3]) ?_)
 rw[if_neg (by simp)]
 rw[hf]
 unfold setFlight
 refine wpAny_bind (wpAny_field (x:=.ref T) g4 (Obj.data_mapFields g2 _) (by simp[g3]) ?_)
 rw[if_pos (by simp)]
 refine wpAny_setField g7 rfl (Array.getElem?_eq_some_iff.mp g8).1 ?_
 have up:∀b o,h3.get? b=some o->(h3.update T (Obj.mapFields (·.setIfInBounds 3 (rawInt env.locals)))).get? b=some o:=λ b o q=>by
  by_cases z:b=T
  ·subst z
   rw[g7] at q
   cases q
   exact Jq5 g7 rfl g8
  ·exact(Heap.get?_update_other _ _ (Ne.symm z)).trans q
 exact k _ ⟨⟨oe,vs,T,ts,g1,g2,g3,up _ _ g4,g5,g6,up _ _ g7,g8⟩,λ b o q n=>let ⟨s',z⟩:=sl b o q n;⟨s',up _ _ z⟩,λ b o q n m=>up _ _ (kp b o q n m)⟩
theorem Jlx {L:Addr}(I:Inv X pins σ H s) (ha:H a=some (ExF a C tv d)) (n:Noted L (frs X.stack) a s.heap h3) (k:∀T oT h',Past X H s.heap a C d T oT h'->Q () { s with heap:=h' }):wpAny M X.A (setFlight (.ref a) none) Q E { s with heap:=h3 }:=by
 obtain⟨⟨oe,vs,T,ts,g1,g2,g3,g4,g5,nT,g7,g8⟩,sl,kp⟩:=n
 obtain⟨oe',vs',x1,x2,x3,x4,x5,x6⟩:=ExF.get I.hok ha
 rw[g1] at x1
 cases x1
 rw[g2] at x3
 cases x3
 have hok:=I.hok
 have hfr:∀b∈frs X.stack,H b=none:=I.stkFree
 have hT:H T=none:=by
  cases q:H T with
  | none=>rfl
  | some u =>
   obtain⟨o,z⟩:=Jwl (hok T u q)
   rw[nT] at z
   cases z
 have tz:3<ts.size:=(Array.getElem?_eq_some_iff.mp g8).1
 unfold setFlight
 refine wpAny_bind (wpAny_field (x:=.ref T) g4 (Obj.data_mapFields g2 _) (by simp[g3]) ?_)
 rw[if_pos (by simp)]
 refine wpAny_setField g7 rfl tz ?_
 have e1:=(Heap.get?_update_other h3 (Obj.mapFields (·.setIfInBounds 3 ((none:Option Addr).elim Value.none λ f=>rawInt f))) g5).trans g4
 have e7:=Heap.get?_update_self (Obj.mapFields (·.setIfInBounds 3 ((none:Option Addr).elim Value.none λ f=>rawInt f))) g7 (Obj.isFreed_of_fields (Obj.data_mapFields rfl _))
 have d7:=Obj.data_mapFields (o:={ cls:=.type "traceback",dict:=none,data:=.fields ts }) rfl (·.setIfInBounds 3 ((none:Option Addr).elim Value.none λ f=>rawInt f))
 have lt:∀b o,s.heap.get? b=some o->T≠b:=λ b o q z=>by rw[z,q] at nT;cases nT
 have keep:∀b o,s.heap.get? b=some o->b≠a->b∉frs X.stack->(h3.update T (Obj.mapFields (·.setIfInBounds 3 ((none:Option Addr).elim Value.none λ f=>rawInt f)))).get? b=some o:=λ b o q n1 n2=>(Heap.get?_update_other _ _ (lt b o q)).trans (kp b o q n1 n2)
 have slot:∀b o,s.heap.get? b=some o->b≠a->∃sl,(h3.update T (Obj.mapFields (·.setIfInBounds 3 ((none:Option Addr).elim Value.none λ f=>rawInt f)))).get? b=some { o with slots:=sl }:=λ b o q n1=>let ⟨s',z⟩:=sl b o q n1;⟨s',(Heap.get?_update_other _ _ (lt b o q)).trans z⟩
 generalize h3.update T (Obj.mapFields (·.setIfInBounds 3 ((none:Option Addr).elim Value.none λ f=>rawInt f)))=h' at e1 e7 keep slot
 generalize Obj.mapFields (·.setIfInBounds 3 ((none:Option Addr).elim Value.none λ f=>rawInt f)) { cls:=.type "traceback",dict:=none,data:=.fields ts }=oT at e7 d7
 have na:∀{b:Addr}{u:HO},H b=some u->(∀φ,u≠.ext φ)->b≠a:=λ {b u} q n z=>by
  subst z
  rw[ha] at q
  cases q
  exact n _ rfl
 have nTb:∀{b:Addr}{u:HO},H b=some u->b≠T:=λ {b u} q z=>by
  subst z
  rw[hT] at q
  cases q
 have up:∀{b:Addr}{u:HO},H b=some u->(∀φ,u≠.ext φ)->upd (upd H T (.frz oT (.own 0))) a (ExF a C (.ref T) d) b=some u:=λ {b u} q n=>by
  rw[Jg (na q n),Jg (nTb q)]
  exact q
 have fa:a∉frs X.stack:=λ z=>by rw[hfr a z] at ha;cases ha
 refine k T oT h' ⟨hT,g5,⟨_,d7,by simp[tz]⟩,⟨λ b o q n hb _=>keep b o q (λ z=>by subst z;rw[ha] at n;cases n) hb,λ b o q _ hb _=>slot b o q (λ z=>fa (z▸hb)),λ b o q n _=>?_,λ b o q _=>?_,λ b xs q=>up q nofun,λ b o u q=>up q nofun,λ b ps q=>⟨#[],by rw[up q nofun];simp⟩⟩,λ b u q=>?_⟩
 ·rw[Jg (λ z=>by subst z;rw[ha] at n;cases n),Jg (λ z=>by subst z;rw[nT] at q;cases q)]
  exact n
 ·by_cases z:b=a
  ·subst z
   exact⟨_,e1⟩
  ·obtain⟨sl,w⟩:=slot b o q z
   exact⟨_,w⟩
 ·by_cases z:b=a
  ·subst z
   rw[Je] at q
   cases q
   exact ExF.ok e1 ((Obj.cls_mapFields _ _).trans x2) (Obj.data_mapFields g2 _) (by simp[g3]) (by rw[Array.getElem?_setIfInBounds_ne (by decide)];exact x5) ((Job _ _).trans x6)
  ·rw[Jg z] at q
   by_cases y:b=T
   ·subst y
    rw[Je] at q
    cases q
    exact⟨e7,⟨oT,e7⟩⟩
   ·rw[Jg y] at q
    refine(hok b u q).stay (λ c v hc p=>?_) (λ c p=>up p nofun) λ c xs p=>up p nofun
    refine keep c v p ?_ ?_
    ·rcases hc with rfl|hc
     ·exact z
     ·exact na hc nofun
    ·intro m
     rcases hc with rfl|hc
     ·rw[hfr _ m] at q;cases q
     ·rw[hfr _ m] at hc;cases hc
theorem Jsd (I:Inv X pins σ H s) (fl:Fly X.env.locals (frs X.stack) a s s1) (hs:X.stack=X.env::X.outer) (hf:X.env.frame=some X.env.locals) (ha:H a=some (ExF a C tv d)) (ht:TvOk H tv)
  (k:∀T oT h',Past X H s.heap a C d T oT h'->Q () { s with heap:=h' }):wpAny M X.A (noteFrame (.ref a) X.env) (λ _ s'=>wpAny M X.A (setFlight (.ref a) none) Q E s') E s1:=by
 rcases fl with rfl|⟨h',rfl,n⟩
 ·exact Jsc I hs hf ha ht λ h3 n=>Jlx I ha n k
 ·exact Jkj hf n (Jlx I ha n k)
theorem Jv8 (I:Inv X pins σ H s) (fl:Fly X.env.locals (frs X.stack) a s s1) (hs:X.stack=X.env::X.outer) (hf:X.env.frame=some X.env.locals) (ha:H a=some (ExF a C tv d)) (ht:TvOk H tv)
  (k:∀T oT h',Past X H s.heap a C d T oT h'->Q () { s with heap:=h' }):wpAny M X.A (leaving X.env (.ref a)) Q E s1:=by
 unfold leaving
 exact wpAny_bind (Jsd I fl hs hf ha ht k)
end
noncomputable def CXI (P:Program) (w:World):CXT:=λ outer H s E e s'=>∃H',s'.os=s.os/\AllBare s'.gens/\Un (frs outer) [] H H' s.heap s'.heap/\HOk P w H' s'.heap/\E e none H'
theorem Un.tail {L:Addr}{fs:List Addr}{H H1 H2:Hp}{h h1 h2:Heap}(a:Un fs [] H H1 h h1) (b:Un (L::fs) [] H1 H2 h1 h2) (n:h.get? L=none):Un fs [] H H2 h h2 where
 keep:=λ c o q m hc _=>b.keep c o (a.keep c o q m hc (by simp)) (a.free c o q m (by simp)) (λ z=>(List.mem_cons.mp z).elim (λ y=>by subst y;rw[n] at q;cases q) hc) (by simp)
 slot:=λ c o q m hc _=>by
  obtain⟨sl,e1⟩:=a.slot c o q m hc (by simp)
  obtain⟨sl',e2⟩:=b.any e1 (a.free c o q m (by simp)) (by simp)
  exact⟨sl',e2⟩
 free:=λ c o q m _=>by
  obtain⟨o',e1⟩:=a.there c o q (by simp)
  exact b.free c o' e1 (a.free c o q m (by simp)) (by simp)
 there:=λ c o q _=>by
  obtain⟨o',e1⟩:=a.there c o q (by simp)
  exact b.there c o' e1 (by simp)
 tups:=λ c xs q=>b.tups c xs (a.tups c xs q)
 frzs:=λ c o u q=>b.frzs c o u (a.frzs c o u q)
 tbls:=λ c ps q=>by
  obtain⟨m1,e1⟩:=a.tbls c ps q
  obtain⟨m2,e2⟩:=b.tbls c _ e1
  exact⟨m1++m2,by rw[e2,Array.append_assoc]⟩
section
variable {X:Cx}{pins:List (Addr×Obj)}{σ:L2.St}{H:Hp}{s:Shared}{k:Nat}{f C:Addr}{fd:FuncData}{ps:List Str}{sp:Sp}{dvs:List V}{ds:List Value}{E:XK}{Q:VK}{us:List Value}{vs:List V}{W:Value->Shared->Prop}
theorem Jw3 {e:Value}{s':Shared}(I:Inv X pins σ H s) (h:CXI X.prog X.w X.stack H s E e s'):∃H',Inv X pins σ H' s'/\E e none H':=by
 obtain⟨H',os,bare,un,hok,q⟩:=h
 exact⟨H',I.call' os un hok bare λ b z=>absurd z (by simp),q⟩
theorem J3m (F:FnOk X.prog X.w X.K X.mg X.base (CXI X.prog X.w) k f fd ps sp) (hr:Room k X.A) (hb:Jd6 X.K fd ps ds) (hd:Vals dvs ds) (I:Inv X pins σ H s) (r:Vals vs us) (h:sp (vs++dvs) H Q E)
  (hx:∀e s' H',Inv X pins σ H' s'->E e none H'->W e s'):wpAny (model X.prog X.w) X.A (call (.ref f) us) (EP X pins σ Q) W s:=by
 have ra:Vals (vs++dvs) (us++ds):=r.append hd
 have la:=ra.length
 have lf:=F.len _ _ _ _ h
 refine wpAny_call (codeAny_mono (F.run _ _ _ _ ⟨us,[]⟩ _ _ _ _ hr I.env0 (hb s us I.kIn (by omega)) ra h) λ res s' q=>?_)
 match res,q with
 | .error e,q =>
  obtain⟨H',I',z⟩:=Jw3 I q
  exact hx e s' H' I' z
 | .ok (.ret u),q=>exact I.after q
 | .ok .next,q=>exact False.elim q
 | .ok .brk,q=>exact False.elim q
 | .ok .cont,q=>exact False.elim q
theorem Jwq (M:Mk X.K C f) (F:FnOk X.prog X.w X.K X.mg X.base (CXI X.prog X.w) k f fd ps sp) (hr:Room (k+1) X.A) (hb:Jd6 X.K fd ps ds) (hd:Vals dvs ds) (I:Inv X pins σ H s) (r:Vals vs us)
  (h:∀x dx,H x=none->H dx=none->dx≠x->sp (.ref x::(vs++dvs)) (upd (upd H dx (.own x)) x (.ins C dx [])) (λ v H2=>v=.non/\Q (.ref x) H2) E)
  (hx:∀e s' H',Inv X pins σ H' s'->E e none H'->W e s'):wpAny (model X.prog X.w) X.A (call (.ref C) us) (EP X pins σ Q) W s:=by
 have z0:=s.heap.objs.size
 have hq:=h (s.heap.objs.size+1) s.heap.objs.size (I.hok.fresh (Nat.le_succ _)) (I.hok.fresh (Nat.le_refl _)) (Nat.ne_of_lt (Nat.lt_succ_self _))
 have J:=Inv.made (C:=C) I
 have ra:Vals (V.ref (s.heap.objs.size+1)::(vs++dvs)) (Value.ref (s.heap.objs.size+1)::(us++ds)):=.cons rfl (r.append hd)
 have la:=ra.length
 have lf:=F.len _ _ _ _ hq
 have hl:(Value.ref (s.heap.objs.size+1)::us++ds).length=ps.length:=by
  rw[List.cons_append]
  omega
 refine wpAny_call (Jzf (f:=f) I.kIn M.makes M.init (beq_iff_eq.mp M.fn) (codeAny_mono (F.run _ _ _ _ ⟨.ref (s.heap.objs.size+1)::us,[]⟩ _ _ _ _ (hr.make C us []) (J.env0.make C us []) (hb _ (.ref (s.heap.objs.size+1)::us) J.kIn hl) ra hq) λ res s' q=>?_))
 match res,q with
 | .error e,q =>
  obtain⟨H',I',z⟩:=Jw3 J q
  exact hx e s' H' I' z
 | .ok (.ret u),q =>
  obtain⟨v,H',J3,rv,ev,q3⟩:=J.after q
  subst ev
  exact⟨rv,⟨V.ref (s.heap.objs.size+1),H',J3,rfl,q3⟩⟩
 | .ok .next,q=>exact False.elim q
 | .ok .brk,q=>exact False.elim q
 | .ok .cont,q=>exact False.elim q
end
structure ItI where
 xs:List IV
 chk:IH->Prop
open Classical in
noncomputable def Jcs (chk:IH->Prop) (g:G1) (b:S1):List IV->ISt->IH->SRes
 | [],σ,h=>if chk h then .next σ h else .stuck
 | x::xs,σ,h=>if chk h then(match g x σ h with
   | .next σ1 h1=>(match b σ1 h1 with
    | .next σ2 h2=>Jcs chk g b xs σ2 h2
    | .cont σ2 h2=>Jcs chk g b xs σ2 h2
    | .brk σ2 h2=>.next σ2 h2
    | .ret v h2=>.ret v h2
    | .exc n σ2 h2=>(match h2[n]? with
     | some (.exc _ _)=>.exc n σ2 h2
     | _=>.stuck)
    | _=>.stuck)
   | _=>.stuck) else .stuck
noncomputable abbrev I1:=ISt->IH->Res ItI
noncomputable def sFor (it:I1) (g:G1) (b:S1):S1:=λ σ h=>rS σ (it σ h) λ J h'=>Jcs J.chk g b J.xs σ h'
structure ItOk (ce:Str->Option Addr) (K:W.Frag) (ι:List Addr) (H₀:Hp) (J:It) (I:ItI):Prop where
 go:∀(k:Nat) (x:IV) (h:IH) (H:Hp) (ι':List Addr),Nxt ι H₀ ι' H->Rel ce K ι' h H->I.chk h->I.xs[k]?=some x ->
  J.go k H/\∀y H',J.yld k H y H'->Rel ce K ι' h H'/\Nxt ι' H ι' H'/\RV K ι' H' x y
 stop:∀(k:Nat) (h:IH) (H:Hp) (ι':List Addr),Nxt ι H₀ ι' H->Rel ce K ι' h H->I.chk h->I.xs.length<=k->J.stop k H
theorem Rel.get {ce:Str->Option Addr}{K:W.Frag}{ι:List Addr}{h:IH}{H:Hp}(R:Rel ce K ι h H){i:Nat}{o:IO}(e:h[i]?=Option.some o){a:Addr}(ha:ι[i]?=Option.some a):RO ce K ι H a o:=by
 obtain⟨b,e1,r⟩:=R.at_ i o e
 rw[ha] at e1
 cases e1
 exact r
noncomputable def RIt (ce:Str->Option Addr) (X:Cx) (tg:Expr) (pins:List (Addr×Obj)) (ι':List Addr) (I:ItI) (itv:Value) (s2:Shared) (H':Hp):Prop :=
 ∃(it:Addr) (fp:List Addr) (tn:Nat->Heap->Prop) (J:It),itv=.ref it/\Turn X.prog X.w X.K tg J fp it tn/\tn 0 s2.heap/\(∀b∈fp,FpOk X pins H' b)/\ItOk ce X.K ι' H' J I
noncomputable def PIi (ce:Str->Option Addr) (X:Cx) (tg iter:Expr) (m:I1):Prop :=
 ∀(pins:List (Addr×Obj)) (s:Shared) (σ:L2.St) (H:Hp) (ι:List Addr) (σi:ISt) (h:IH) (Q:Value->Shared->Prop) (E:Value->Shared->Prop),Now ce X pins ι σi h σ H s ->
  (match m σi h with
   | .ok I h'=>∀itv s' H' ι',Now ce X pins ι' σi h' σ H' s'->Nxt ι H ι' H'->RIt ce X tg pins ι' I itv s' H'->Q itv s'
   | .exc n h'=>∀pl a s' H' ι',Now ce X (pins++pl) ι' σi h' σ H' s'->Nxt ι H ι' H'->ι'[n]?=some a->E (.ref a) s'
   | .stuck=>False) ->
  wpAny (model X.prog X.w) X.A (eval iter X.env) (λ v s1=>wpAny (model X.prog X.w) X.A (pyIter v) Q E s1) E s
section
variable {ce:Str->Option Addr}{X:Cx}
theorem nof {M:Model}{A:Around}{α:Type}{t:Sem α}{Q:α->Shared->Prop}{E:Value->Shared->Prop}{s:Shared}(h:wpAny M A t Q (λ _ _=>False) s):wpAny M A t Q E s:=wpAny_mono h (λ _ _ x=>x) λ _ _ z=>z.elim
theorem Now.pins {pins:List (Addr×Obj)}{pl:List (Addr×Obj)}{ι:List Addr}{σi:ISt}{h:IH}{σ:L2.St}{H:Hp}{s:Shared}(N:Now ce X (pins++pl) ι σi h σ H s):Now ce X pins ι σi h σ H s:=⟨N.inv.unpinned,N.rel,N.st⟩
theorem s_for {tg iter:Expr}{body:List Stmt}{mi:I1}{g:G1}{mb:S1}{pos:Pos}(hc:X.calm=true) (hst:X.stack=X.env::X.outer) (hf:X.env.frame=some X.env.locals) (hi:PIi ce X tg iter mi) (hg:PGi ce X tg g) (hb:PS2 ce X body mb)
  (hs:∀x,foldedSetIterable iter X.env x=pure x:=by intro _;rfl):PS1 ce X (.For tg iter body [] pos) (sFor mi g mb):=by
 intro pins s σ H ι σi h Q E N K
 refine wpAny_For (hi pins s σ H ι σi h _ E N ?_) hs
 unfold sFor at K
 cases e0:mi σi h with
 | exc n h'=>rw[e0] at K;exact λ pl a s' H' ι' N' n' q=>K pl a s' σ H' ι' N' n' q s' (.inl rfl)
 | stuck=>rw[e0] at K;exact K
 | ok I h' =>
  rw[e0] at K
  intro itv s2 H2 ι2 N2 n2 R
  obtain⟨it,fp,tn,J,e,T,st2,f2,OK⟩:=R
  subst e
  have stat:∀{H':Hp},(∀b∈fp,H' b=none)->∀b∈fp,FpOk X pins H' b:=λ hn b hb=>⟨hn b hb,(f2 b hb).2⟩
  have K2:Jaw ce X pins ι2 H2 (Jcs I.chk g mb I.xs σi h') Q E:=Jaw.mono (r:=Jcs I.chk g mb I.xs σi h') K n2
  refine codeAny_forLoop_any (λ n s'=>∃k ιk σk hk σ' H',Now ce X pins ιk σk hk σ' H' s'/\Nxt ι2 H2 ιk H'/\tn k s'.heap/\(∀b∈fp,H' b=none)/\n=I.xs.length-k/\k<=I.xs.length/\Jaw ce X pins ιk H' (Jcs I.chk g mb (I.xs.drop k) σk hk) Q E) ?_ I.xs.length
   ⟨0,ι2,σi,h',σ,H2,N2,.refl,st2,λ b hb=>(f2 b hb).1,by simp,Nat.zero_le _,by simpa using K2⟩
  rintro n s3 ⟨k,ιk,σk,hk,σ3,H3,N3,n3,st3,fr3,rfl,hkl,K3⟩
  by_cases hlt:k<I.xs.length
  ·-- a turn
   have hd:I.xs.drop k=I.xs[k]::I.xs.drop (k+1):=List.drop_eq_getElem_cons hlt
   rw[hd] at K3
   unfold Jcs at K3
   split at K3
   ·rename_i hck
    obtain⟨go,yl⟩:=OK.go k I.xs[k] hk H3 ιk n3 N3.rel hck (List.getElem?_eq_getElem hlt)
    refine nof (thn (T.item X rfl rfl rfl hc k pins s3 σ3 H3 (λ _ _=>False) N3.inv (stat fr3) st3 go) λ r s4 ⟨u,hr,h4⟩=>?_)
    subst hr
    refine nof (thn h4 λ _ s5 ⟨x,H5,I5,r5,y5,st5,fr5⟩=>?_)
    obtain⟨R5,n5,q5⟩:=yl x H5 y5
    have I5':=I5.pinned (stat fr5) (T.obj _ _ st5)
    have N5:Now ce X (pins++Jd4 fp s5.heap) ιk σk hk σ3 H5 s5:=⟨I5',R5,N3.st.mono n5⟩
    cases eg:g I.xs[k] σk hk with
    | next σg hgg =>
     rw[eg] at K3
     dsimp only at K3
     refine nof (hg _ s5 σ3 H5 ιk σk hk _ u (λ _ s6=>wpAny (model X.prog X.w) X.A (execs body X.env) _ _ s6) (λ _ _=>False) N5 ⟨x,r5,q5⟩ ?_)
     rw[eg]
     intro s6 σ6 H6 ι6 N6 n6
     refine hb _ s6 σ6 H6 ι6 σg hgg _ _ N6 ?_
     have again:∀{σ7:L2.St}{H7:Hp}{s7:Shared}{σ7i:ISt}{h7:IH}{ι7:List Addr},Now ce X (pins++Jd4 fp s5.heap) ι7 σ7i h7 σ7 H7 s7->Nxt ι6 H6 ι7 H7->Jaw ce X pins ιk H3 (Jcs I.chk g mb (I.xs.drop (k+1)) σ7i h7) Q E ->
       ∃m,m<I.xs.length-k/\∃k ιk σk hk σ' H',Now ce X pins ιk σk hk σ' H' s7/\Nxt ι2 H2 ιk H'/\tn k s7.heap/\(∀b∈fp,H' b=none)/\m=I.xs.length-k/\k<=I.xs.length/\Jaw ce X pins ιk H' (Jcs I.chk g mb (I.xs.drop k) σk hk) Q E :=
      λ {σ7 H7 s7 σ7i h7 ι7} N7 n7 K7=>by
       have nn:Nxt ιk H3 ι7 H7:=(n5.trans n6).trans n7
       refine⟨I.xs.length-(k+1),by omega,k+1,ι7,σ7i,h7,σ7,H7,N7.pins,n3.trans nn,T.keep _ _ _ st5 λ b hb o e=>(N7.inv.pin (b,o) (List.mem_append_right _ (List.mem_append_right _ (Jcr hb e)))).1,λ b hb=>?_,rfl,hlt,K7.mono nn⟩
       obtain⟨o,e,d⟩:=T.obj _ _ st5 b hb
       exact(N7.inv.pin (b,o) (List.mem_append_right _ (List.mem_append_right _ (Jcr hb e)))).2.1
     cases eb:mb σg hgg with
     | next σ7i h7 =>
      rw[eb] at K3
      exact λ s7 σ7 H7 ι7 N7 n7=>again N7 n7 K3
     | cont σ7i h7 =>
      rw[eb] at K3
      exact λ s7 σ7 H7 ι7 N7 n7=>again N7 n7 K3
     | brk σ7i h7 =>
      rw[eb] at K3
      exact λ s7 σ7 H7 ι7 N7 n7=>K3 s7 σ7 H7 ι7 N7.pins ((n5.trans n6).trans n7)
     | ret v h7 =>
      rw[eb] at K3
      exact λ u s7 σ7i σ7 H7 ι7 N7 n7 r=>K3 u s7 σ7i σ7 H7 ι7 N7.pins ((n5.trans n6).trans n7) r
     | exc n σ7i h7 =>
      rw[eb] at K3
      dsimp only at K3
      cases hj:h7[n]? with
      | none=>rw[hj] at K3;exact Zf K3
      | some ob =>
       cases ob with
       | exc c fs =>
        rw[hj] at K3
        intro pl a s7 σ7 H7 ι7 N7 n7 q s8 fl
        obtain⟨C,tv,d,fe,hC,ha,ht⟩:=N7.rel.get hj q
        have back:∀h8,Noted X.env.locals (frs X.stack) a s7.heap h8->cameBackBy (model X.prog X.w) X.A X.env E (.ref a) { s7 with heap:=h8 }:=λ h8 n8 =>
         Jtn hf n8 λ h9 n9=>K3 (Jd4 fp s5.heap++pl) a s7 σ7 H7 ι7 (by rw[<- List.append_assoc];exact N7) ((n5.trans n6).trans n7) q _ (.inr ⟨h9,rfl,n9⟩)
        rcases fl with rfl|⟨h8,rfl,n8⟩
        ·exact Jsc N7.inv hst hf ha ht back
        ·exact Jkj hf n8 (back h8 n8)
       | _=>rw[hj] at K3;exact Zf K3
     | stuck=>rw[eb] at K3;exact Zf K3
    | _=>rw[eg] at K3;exact Zf K3
   ·exact Zf K3
  ·have hke:I.xs.drop k=[]:=List.drop_eq_nil_of_le (by omega)
   rw[hke] at K3
   unfold Jcs at K3
   split at K3
   ·rename_i hck
    have stop:=OK.stop k hk H3 ιk n3 N3.rel hck (by omega)
    refine nof (thn (T.done X rfl rfl rfl hc k pins s3 σ3 H3 (λ _ _=>False) N3.inv (stat fr3) st3 stop) λ r s4 ⟨hr,I4⟩=>?_)
    subst hr
    exact wpAny_execs_nil (K3 s4 σ3 H3 ιk ⟨I4,N3.rel,N3.st⟩ .refl)
   ·exact Zf K3
noncomputable def itOf:IV->IH->Res ItI
 | .ref i,h=>match h[i]? with
  | some (.lst xs)=>.ok ⟨xs,λ h'=>h'[i]?=some (.lst xs)⟩ h
  | _=>.stuck
 | .rol xs,h=>.ok ⟨xs,λ _=>True⟩ h
 | .tup xs,h=>.ok ⟨xs,λ _=>True⟩ h
 | _,_=>.stuck
noncomputable def iVal (e:E1):I1:=λ σ h=>(e σ h).bind itOf
variable {tg:Expr}
theorem J55 {a:Addr}{i:Nat}{xs:List IV}{ι:List Addr}{H₀:Hp}(ha:ι[i]?=some a):ItOk ce X.K ι H₀ (Itl X.K a) ⟨xs,λ h'=>h'[i]?=some (.lst xs)⟩:=by
 refine⟨λ k x h H ι' hp R hck hx=>?_,λ k h H ι' hp R hck hx=>?_⟩
 ·obtain⟨vs,e1,r1⟩:=R.get hck (hp.at ha)
  obtain⟨v,hv,qv⟩:=r1.get hx
  refine⟨⟨vs,v,SqL.of e1,hv⟩,λ y H' hy=>?_⟩
  obtain⟨rfl,hy⟩:=hy
  have:=hy vs (SqL.of e1)
  rw[hv] at this
  cases this
  exact⟨R,.refl,qv⟩
 ·obtain⟨vs,e1,r1⟩:=R.get hck (hp.at ha)
  exact⟨vs,SqL.of e1,by rw[r1.length];exact hx⟩
theorem J56 {a:Addr}{xs:List IV}{vs:List V}{ι:List Addr}{H₀:Hp}(sa:SqR X.K H₀ a vs) (ra:RVs X.K ι H₀ xs vs):ItOk ce X.K ι H₀ (Itl X.K a) ⟨xs,λ _=>True⟩:=by
 refine⟨λ k x h H ι' hp R hck hx=>?_,λ k h H ι' hp R hck hx=>?_⟩
 ·obtain⟨v,hv,qv⟩:=ra.get hx
  have sq:=(hp.ext.sqR sa).sq
  refine⟨⟨vs,v,sq,hv⟩,λ y H' hy=>?_⟩
  obtain⟨rfl,hy⟩:=hy
  have:=hy vs sq
  rw[hv] at this
  cases this
  exact⟨R,.refl,RV.mono hp _ _ qv⟩
 ·exact⟨vs,(hp.ext.sqR sa).sq,by rw[ra.length];exact hx⟩
theorem J57 {a:Addr}{xs:List IV}{vs:List V}{ι:List Addr}{H₀:Hp}(sa:SqT X.K H₀ a vs) (ra:RVs X.K ι H₀ xs vs):ItOk ce X.K ι H₀ (Itt X.K a) ⟨xs,λ _=>True⟩:=by
 refine⟨λ k x h H ι' hp R hck hx=>?_,λ k h H ι' hp R hck hx=>?_⟩
 ·obtain⟨v,hv,qv⟩:=ra.get hx
  have sq:=hp.ext.sqT sa
  refine⟨⟨vs,v,sq,hv⟩,λ y H' hy=>?_⟩
  obtain⟨rfl,hy⟩:=hy
  have:=hy vs sq
  rw[hv] at this
  cases this
  exact⟨R,.refl,RV.mono hp _ _ qv⟩
 ·exact⟨vs,hp.ext.sqT sa,by rw[ra.length];exact hx⟩
theorem Jvt {l:Expr}{ml:E1}(hl:PEi ce X l ml):PIi ce X tg l (iVal ml):=by
 intro pins s σ H ι σi h Q E N K
 refine hl pins s σ H ι σi h _ E N ?_
 unfold iVal at K
 cases e0:ml σi h with
 | exc n h'=>rw[e0] at K;exact K
 | stuck=>rw[e0] at K;exact K
 | ok v h' =>
  rw[e0] at K
  intro u s1 H1 ι1 N1 n1 r1
  obtain⟨w,rw',q⟩:=r1
  have fresh:∀b∈[s1.heap.objs.size],FpOk X pins H1 b:=λ b hb=>by
   have e:b=s1.heap.objs.size:=by simpa using hb
   subst e
   exact N1.inv.fpOk (Nat.le_refl _) (N1.inv.hok.fresh (Nat.le_refl _))
  cases v with
  | ref i =>
   obtain⟨a,e1,ha⟩:=q
   subst e1
   cases rw'
   cases hi:h'[i]? with
   | none=>simp only[Res.bind,itOf,hi] at K
   | some o =>
    cases o with
    | lst xs =>
     simp only[Res.bind,itOf,hi] at K
     obtain⟨vs,e1,r1⟩:=N1.at hi ha
     obtain⟨its,rv,p,hz⟩:=N1.inv.list (SqL.of e1)
     refine wpAny_pyIter_list p.isList (K _ _ H1 ι1 ⟨N1.inv.kept (t':=s1.toks) λ b o e=>Heap.get?_push_of_some _ e,N1.rel,N1.st⟩ n1 ?_)
     exact⟨s1.heap.objs.size,[s1.heap.objs.size],_,Itl X.K a,rfl,Jpz a _,⟨_,Heap.get?_push_size _ rfl,rfl,rfl⟩,fresh,J55 ha⟩
    | _=>simp only[Res.bind,itOf,hi] at K
  | rol xs =>
   obtain⟨a,vs,e1,sa,ra⟩:=q
   subst e1
   cases rw'
   simp only[Res.bind,itOf] at K
   obtain⟨its,rv,p,hz⟩:=N1.inv.list sa.sq
   refine wpAny_pyIter_list p.isList (K _ _ H1 ι1 ⟨N1.inv.kept (t':=s1.toks) λ b o e=>Heap.get?_push_of_some _ e,N1.rel,N1.st⟩ n1 ?_)
   exact⟨s1.heap.objs.size,[s1.heap.objs.size],_,Itl X.K a,rfl,Jpz a _,⟨_,Heap.get?_push_size _ rfl,rfl,rfl⟩,fresh,J56 sa ra⟩
  | tup xs =>
   obtain⟨a,vs,e1,sa,ra⟩:=q
   subst e1
   cases rw'
   simp only[Res.bind,itOf] at K
   obtain⟨its,rv,p,hz⟩:=N1.inv.tuple sa
   refine wpAny_pyIter_tuple (show s1.heap.IsTuple a its.toArray from p) (K _ _ H1 ι1 ⟨N1.inv.kept (t':=s1.toks) λ b o e=>Heap.get?_push_of_some _ e,N1.rel,N1.st⟩ n1 ?_)
   exact⟨s1.heap.objs.size,[s1.heap.objs.size],_,Itt X.K a,rfl,Jud a _,⟨_,Heap.get?_push_size _ rfl,rfl,rfl⟩,fresh,J57 sa ra⟩
  | _=>simp only[Res.bind,itOf] at K
noncomputable def rngI (lo hi:Int):List IV:=(List.range (hi-lo).toNat).map λ k=>.int (lo+(k:Nat))
noncomputable def Jan:List IV->IH->Res ItI
 | [.int j],h=>if -(2^62)<=j/\j<2^62 then .ok ⟨rngI 0 j,λ _=>True⟩ h else .stuck
 | _,_=>.stuck
noncomputable def Jd3:List IV->IH->Res ItI
 | [.int i,.int j],h=>if -(2^62)<=i/\i<2^62/\ -(2^62)<=j/\j<2^62 then .ok ⟨rngI i j,λ _=>True⟩ h else .stuck
 | _,_=>.stuck
theorem Jov {vs:List IV}{h:IH}(hv:¬ ∃i j,vs=[.int i,.int j]):Jd3 vs h=.stuck:=by
 unfold Jd3
 split
 ·exact absurd ⟨_,_,rfl⟩ hv
 ·rfl
noncomputable def iRg (f:List IV->IH->Res ItI) (a:A1):I1:=λ σ h=>(a σ h).bind f
theorem J6y {lo hi:Int}{ι:List Addr}{H₀:Hp}:ItOk ce X.K ι H₀ (Itr lo (hi-lo).toNat) ⟨rngI lo hi,λ _=>True⟩:=by
 refine⟨λ k x h H ι' hp R hck hx=>?_,λ k h H ι' hp R hck hx=>?_⟩
 ·have hk:k<(hi-lo).toNat:=by
   have:=(List.getElem?_eq_some_iff.mp hx).1
   simpa [rngI] using this
  refine⟨hk,λ y H' hy=>?_⟩
  obtain⟨rfl,rfl⟩:=hy
  simp only[rngI,List.getElem?_map,List.getElem?_range hk] at hx
  cases hx
  exact⟨R,.refl,rfl⟩
 ·have:(rngI lo hi).length=(hi-lo).toNat:=by simp[rngI]
  show(hi-lo).toNat<=k
  rw[<- this]
  exact hx
theorem Jo3 {pins:List (Addr×Obj)}{σ:L2.St}{H:Hp}{ι:List Addr}{σi:ISt}{h:IH}{s:Shared}{Q:Value->Shared->Prop}{E:Value->Shared->Prop}{lo hi:Int}{t u v:Tok}{tk:Nat}(N:Now ce X pins ι σi h σ H s)
  (h1: -(2^62)<=lo) (h2:lo<2^62) (h3: -(2^62)<=hi) (h4:hi<2^62)
  (K:∀itv s' H' ι',Now ce X pins ι' σi h σ H' s'->Nxt ι H ι' H'->RIt ce X tg pins ι' ⟨rngI lo hi,λ _=>True⟩ itv s' H'->Q itv s') :
  wpAny (model X.prog X.w) X.A (pyIter (.ref s.heap.objs.size)) Q E { s with heap:=s.heap.push { cls:=.type "range",data:=.fields #[.int lo t,.int hi u,.int 1 v] },toks:=tk }:=by
 have:=Jzq (X:=X) (tg:=tg) (E:=E) (R:=λ J H'=>J=Itr lo (hi-lo).toNat/\H'=H) (t:=t) (u:=u) (v:=v) (tk:=tk) N.inv h1 h2 h3 h4 ⟨rfl,rfl⟩
 refine wpAny_mono this (λ itv s' hq=>?_) λ _ _ z=>z
 obtain⟨it,fp,tn,J,H',e,I',T,st,f,rfl,rfl⟩:=hq
 exact K itv s' _ ι ⟨I',N.rel,N.st⟩ .refl ⟨it,fp,tn,_,e,T,st,f,J6y⟩
theorem Jyw {a:Expr}{ma:A1}{p pos:Pos}(hg:Gl X "range") (hm:X.mg "range"=none) (ha:PAi ce X [a] ma) (hs:starEach [a] X.env=[(false,eval a X.env)]:=by rfl):PIi ce X tg (.Call (.Name "range" p) [a] [] pos) (iRg Jan ma):=by
 intro pins s σ H ι σi h Q E N K
 refine Call_ (Jcp N.inv hg hm boot_range (PyProof.Rows.callWith_type1 ?_ hs rfl))
 refine ha pos pins s σ H ι σi h _ E N ?_
 unfold iRg at K
 cases e0:ma σi h with
 | exc n h'=>rw[e0] at K;exact K
 | stuck=>rw[e0] at K;exact K
 | ok vs h' =>
  rw[e0] at K
  intro us s1 H1 ι1 N1 n1 r1
  obtain⟨xs,rv,qs⟩:=r1
  match vs,K with
  | [.int j],K =>
   obtain⟨w,r,e1,q,q2⟩:=qs
   have e2:r=[]:=q2
   subst e1 e2
   have e3:w=.int j:=q
   subst e3
   cases rv with
   | cons r rr =>
    cases rr
    obtain⟨t,rfl⟩:=r
    simp only[Res.bind,Jan] at K
    by_cases hb: -(2^62)<=j/\j<2^62
    ·rw[if_pos hb] at K
     exact call_range_1 (Jo3 N1 (by omega) (by omega) hb.1 hb.2 λ itv s' H' ι' N' n' R=>K itv s' H' ι' N' (n1.trans n') R)
    ·rw[if_neg hb] at K
     exact K.elim
  | [],K=>exact Zf K
  | .non::_,K=>exact Zf K
  | .bl _::_,K=>exact Zf K
  | .str _::_,K=>exact Zf K
  | .tup _::_,K=>exact Zf K
  | .rol _::_,K=>exact Zf K
  | .ref _::_,K=>exact Zf K
  | .int _::_::_,K=>exact Zf K
theorem Jyx {a b:Expr}{ma:A1}{p pos:Pos}(hg:Gl X "range") (hm:X.mg "range"=none) (ha:PAi ce X [a,b] ma) (hs:starEach [a,b] X.env=[(false,eval a X.env),(false,eval b X.env)]:=by rfl) (hs2:starEach [b] X.env=[(false,eval b X.env)]:=by rfl) :
  PIi ce X tg (.Call (.Name "range" p) [a,b] [] pos) (iRg Jd3 ma):=by
 intro pins s σ H ι σi h Q E N K
 refine Call_ (Jcp N.inv hg hm boot_range (PyProof.Rows.callWith_type1 ?_ (by rw[hs,hs2]) (by rw[hs2];rfl)))
 refine ha pos pins s σ H ι σi h _ E N ?_
 unfold iRg at K
 cases e0:ma σi h with
 | exc n h'=>rw[e0] at K;exact K
 | stuck=>rw[e0] at K;exact K
 | ok vs h' =>
  rw[e0] at K
  intro us s1 H1 ι1 N1 n1 r1
  obtain⟨xs,rv,qs⟩:=r1
  by_cases hv:∃i j,vs=[.int i,.int j]
  ·obtain⟨i,j,rfl⟩:=hv
   obtain⟨w,r,e1,q,w',r',e1',q',q2⟩:=qs
   have e2:r'=[]:=q2
   subst e1 e1' e2
   have e3:w=.int i:=q
   have e4:w'=.int j:=q'
   subst e3 e4
   cases rv with
   | cons r rr =>
    cases rr with
    | cons r' rr =>
     cases rr
     obtain⟨t,rfl⟩:=r
     obtain⟨t',rfl⟩:=r'
     simp only[Res.bind,Jd3] at K
     by_cases hb: -(2^62)<=i/\i<2^62/\ -(2^62)<=j/\j<2^62
     ·rw[if_pos hb] at K
      exact call_range_2 (Jo3 N1 hb.1 hb.2.1 hb.2.2.1 hb.2.2.2 λ itv s' H' ι' N' n' R=>K itv s' H' ι' N' (n1.trans n') R)
     ·rw[if_neg hb] at K
      exact K.elim
  ·simp only[Res.bind,Jov hv] at K
end
end L3
namespace L3
open PySem PySem.Spec PySem.Calls PyProof.Rows L2
section
variable {prog:Program}{w:World}{A:Around}{E:Value->Shared->Prop}{s:Shared}{K:W.Frag}{x D:Addr}{ox:Obj}
open PySem.W PySem.Builtin PySem.Builtin.ObjectAttr PySem.Builtin.Getset_descriptor in
theorem J7z {tp:Value}{R:Result->Shared->Prop}(X:K.In s.heap) (hx:s.heap.get? x=some ox) (hcl:ox.cls=.ref D) (hm:mroIn K D (.type "object")=some true) (k:R (.ok (.ret (.ref D))) s) :
  codeAny (model prog w) A (.call (.builtin "getset_descriptor.__get__") ⟨[.builtin "object.__class__",.ref x,tp],[]⟩) R s:=by
 obtain⟨hh,g,d,t,os⟩:=s
 have L0:Looks (model prog w) hh (typeOf (.ref x)) (.ref D):=hcl▸(Looks.ld hx).andThen .now
 have L5:=looks_mroIn (M:=model prog w) X hm
 have sl:=KF.slot_gs
 refine codeAny_call_builtin sl.plain KF.entry_gs (sl.check _ _ _ _ _ _ _ _ KF.type_class (KF.args_gs _ _ _) ?_)
 unfold Builtin.«getset_descriptor.__get__»
 unfold descrGet
 rw[dga_obj]
 apply wpAny_bind
 apply wpAny_pure
 unfold descrGetter descrCheckInstance
 unfold descrNameAndClass isInstance
 simp only[KF.owner_class]
 repeat lk
 have quiet:=Code.quiet_builtin (id:="object.__class__") ⟨[.ref x],[]⟩ (by decide +kernel)
 refine⟨quiet,codeAny_builtin KF.entry_class ?_⟩
 unfold Builtin.«object.__class__»
 unfold shownTypeOf
 repeat lk
 exact k
theorem J0n {tk:Tok}{Q:Fin->Shared->Prop}(X:K.In s.heap) (hx:s.heap.get? x=some ox) (hcl:ox.cls=.ref D) (hc:W.findIn K (.ref D) "__class__"=some (some (.builtin "object.__class__"))) (hm:W.mroIn K D (.type "object")=some true)
  (hq:Q (.done (.ret (.ref D))) s):wpAny (model prog w) A (Builtin.«object.__getattribute__» ⟨[.ref x,.str "__class__" tk],[]⟩) Q E s:=by
 obtain⟨hh,g,d,t,os⟩:=s
 have L0:W.Looks (model prog w) hh (typeOf (.ref x)) (.ref D):=hcl▸(W.Looks.ld hx).andThen .now
 have L2:=W.looks_findIn (M:=model prog w) X hc
 have hT5:(⟨hh,g,d,t,os⟩:Shared).TypeIs (.builtin "object.__class__") "getset_descriptor":=F.typeOf_object_class
 have f5:=F.typeOf_object_class
 have f6:=F.slot_gs_get.lookup
 have f7:=F.slot_gs_set.lookup
 repeat (any_goals (first|assumption|with_reducible refine L0.at ?_|with_reducible refine L2.at ?_|wp_step))
 refine J7z (s:=⟨hh,g,d,t,os⟩) X hx hcl hm ?_
 repeat (any_goals (first|assumption|wp_step))
theorem Jsm {v:Value}{Q:Unit->Shared->Prop}{M:Model}(X:K.In s.heap) (hx:s.heap.get? x=some ox) (hcl:ox.cls=.ref D) (hb:W.mroIn K D (.type "BaseException")=some true) (hq:Q () s):wpAny M A (checkBuiltinCall "BaseException.__getattribute__" ⟨[.ref x,v],[]⟩) Q E s:=by
 obtain⟨hh,g,d,t,os⟩:=s
 have L0:W.Looks M hh (typeOf (.ref x)) (.ref D):=hcl▸(W.Looks.ld hx).andThen .now
 have L3:=W.looks_mroIn (M:=M) X hb
 have k1:builtinKind "BaseException.__getattribute__"=some .slot:=by decide +kernel
 have k2:splitId "BaseException.__getattribute__"=some ("BaseException","__getattribute__"):=by decide +kernel
 have k3:=F.args_bexc_ga (.ref x) v
 simp only[checkBuiltinCall,k1,k2]
 refine wpAny_bind ?_
 unfold isInstance
 repeat (first|with_reducible refine L0.at ?_|with_reducible refine L3.at ?_|wp_step)
 exact hq
theorem xc_by {tk:Tok}{Q:Value->Shared->Prop}(X:K.In s.heap) (hx:s.heap.get? x=some ox) (hcl:ox.cls=.ref D) (hg:W.findIn K (.ref D) "__getattribute__"=some (some (.builtin "BaseException.__getattribute__"))) (hb:W.mroIn K D (.type "BaseException")=some true) (hn:W.findIn K (.ref D) "__getattr__"=some none)
  (hc:W.findIn K (.ref D) "__class__"=some (some (.builtin "object.__class__"))) (hm:W.mroIn K D (.type "object")=some true) (hq:Q (.ref D) s):wpAny (model prog w) A (getAttrBy (.ref x) (.str "__class__" tk) false) Q E s:=by
 obtain⟨hh,g,d,t,os⟩:=s
 have L0:W.Looks (model prog w) hh (typeOf (.ref x)) (.ref D):=hcl▸(W.Looks.ld hx).andThen .now
 have L1:=W.looks_findIn (M:=model prog w) X hg
 have L4:=W.looks_findIn (M:=model prog w) X hn
 have f3:=F.attr_ValueError.ga.bind (.ref x)
 have hx2:(Value.builtin "BaseException.__getattribute__"==Value.builtin "object.__getattribute__")=false:=by decide +kernel
 have hx1:(onTheHeap (Value.ref D)&&Value.builtin "BaseException.__getattribute__"==Value.builtin "object.__getattribute__")=false:=by rw[hx2];rfl
 repeat (any_goals (first|assumption|with_reducible refine L0.at ?_|with_reducible refine L1.at ?_|with_reducible refine L4.at ?_|wp_step))
 refine codeAny_call_builtin F.attr_ValueError.ga.plain F.entry_bexc_ga (Jsm (s:=⟨hh,g,d,t,os⟩) X hx hcl hb (J0n (s:=⟨hh,g,d,t,os⟩) X hx hcl hc hm ?_))
 repeat (any_goals (first|assumption|wp_step))
theorem J40 {Q:Option Value->Shared->Prop}(X:K.In s.heap) (hx:s.heap.get? x=some ox) (hcl:ox.cls=.ref D) (hg:W.findIn K (.ref D) "__getattribute__"=some (some (.builtin "BaseException.__getattribute__"))) (hb:W.mroIn K D (.type "BaseException")=some true) (hn:W.findIn K (.ref D) "__getattr__"=some none)
  (hc:W.findIn K (.ref D) "__class__"=some (some (.builtin "object.__class__"))) (hm:W.mroIn K D (.type "object")=some true) (hq:Q (some (.ref D)) { s with toks:=s.toks+1 }):wpAny (model prog w) A (getAttr? (.ref x) "__class__") Q E s:=by
 obtain⟨hh,g,d,t,os⟩:=s
 unfold getAttr? getAttrBy?
 refine wpAny_bind (wpAny_mkText (wpAny_bind (wpAny_attempt (xc_by (s:=⟨hh,g,d,t+1,os⟩) X hx hcl hg hb hn hc hm ?_))))
 exact wpAny_pure hq
end
structure ExI (K:W.Frag) (C:Addr):Prop where
 ga:W.findIn K (.ref C) "__getattribute__"=some (some (.builtin "BaseException.__getattribute__"))
 mb:W.mroIn K C (.type "BaseException")=some true
 gn:W.findIn K (.ref C) "__getattr__"=some none
 ca:W.findIn K (.ref C) "__class__"=some (some (.builtin "object.__class__"))
 mo:W.mroIn K C (.type "object")=some true
 hd:W.hasDictIn K C=true
theorem ExI.at_ {K:W.Frag}{C:Addr}(e:ExI K C):∃c d cd sl,K.lookup C=some ⟨c,d,.cls cd,sl⟩:=by
 obtain⟨cd,hc,_⟩:=W.any_some e.hd
 unfold W.clsIn at hc
 split at hc
 case h_2=>cases hc
 rename_i c d cd' sl ho
 exact⟨c,d,cd',sl,ho⟩
theorem Jr7 {K:W.Frag}{x D:Addr}(e:ExI K D):W.KitX K (.ref x) (.ref D) (λ h=>∃ox,h.get? x=some ox/\ox.cls=.ref D) where
 ty:=λ _ _ _ ⟨ox,hx,hc⟩=>hc▸(W.Looks.ld hx).andThen .now
 it:=λ _ _ X _=>by
  obtain⟨c,d,cd,sl,ho⟩:=e.at_
  intro A' Q' E' s' kp q
  unfold isType
  unfold loadHead
  exact wpAny_bind (wpAny_loadPart (kp _ _ (X D _ ho)) (wpAny_pure q))
 ne:=λ h tp dd its n sl X htp=>by
  obtain⟨c,d,cd,sl',ho⟩:=e.at_
  rw[Bool.eq_false_iff]
  intro q
  cases (Value.ref.inj (beq_iff_eq.mp q))
  have z:=(X D _ ho).symm.trans htp
  cases z
 ca:=λ X ⟨ox,hx,hc⟩ k=>J40 X hx hc e.ga e.mb e.gn e.ca e.mo k
end L3
namespace L3
open PySem PySem.Spec PyProof.Rows L2
noncomputable def Jl2 (n:Nat) (vs:List IV):ISt:=vs.map some++List.replicate (n-vs.length) none
noncomputable def SRes.fin (r:SRes):Res IV:=match r with
 | .next _ h'=>.ok .non h'
 | .ret v h'=>.ok v h'
 | .exc n _ h'=>(match h'[n]? with
  | some (.exc _ _)=>.exc n h'
  | _=>.stuck)
 | _=>.stuck
noncomputable def fnI (n:Nat) (m:S1):List IV->IH->Res IV:=λ vs h=>(m (Jl2 n vs) h).fin
noncomputable def spI (ce:Str->Option Addr) (K:W.Frag) (ps:List Str) (f:List IV->IH->Res IV):Sp:=λ vs H Q E =>
 vs.length=ps.length/\∃ι h ivs,Rel ce K ι h H/\RVs K ι H ivs vs /\
  match f ivs h with
  | .ok v h'=>∀x H' ι',Rel ce K ι' h' H'->Nxt ι H ι' H'->RV K ι' H' v x->Q x H'
  | .exc n h'=>∀a H' ι',Rel ce K ι' h' H'->Nxt ι H ι' H'->ι'[n]?=some a->E (.ref a) none H'
  | .stuck=>False
theorem RVs.start {K:W.Frag}{ι:List Addr}{H:Hp}{N:List Str}{ivs:List IV}{vs:List V}(r:RVs K ι H ivs vs):RSt K ι H (Jl2 N.length ivs) (L2.start N vs):=by
 have hl:=r.length
 refine⟨by simp[Jl2,L2.start,hl],λ j v e=>?_⟩
 unfold Jl2 at e
 unfold L2.start
 by_cases hj:j<ivs.length
 ·rw[List.getElem?_append_left (by simpa using hj),List.getElem?_map] at e
  rw[List.getElem?_append_left (by simp;omega),List.getElem?_map]
  cases e1:ivs[j]? with
  | none=>rw[e1] at e;cases e
  | some w =>
   rw[e1] at e
   cases e
   obtain⟨u,hu,q⟩:=r.get e1
   exact⟨u,by rw[hu];rfl,q⟩
 ·rw[List.getElem?_append_right (by simpa using hj),List.getElem?_replicate] at e
  split at e<;>cases e
theorem Jnl {α:Type}:∀{l:List α}{i:Nat}{x:α},l[i]?=some x->l.set i x=l
 | [],_,_,e=>by simp at e
 | a::l,0,x,e=>by cases e;rfl
 | a::l,i+1,x,e=>by
  show a::l.set i x=a::l
  rw[Jnl (l:=l) e]
theorem Jld {ce:Str->Option Addr}{K:W.Frag}{ι:List Addr}{h:IH}{H:Hp}{i:Nat}{o:IO}{a:Addr}(R:Rel ce K ι h H) (e:h[i]?=some o) (q:ι[i]?=some a):RO ce K ι H a o:=by
 obtain⟨b,e1,r⟩:=R.at_ i o e
 rw[q] at e1
 cases e1
 exact r
structure FunD (K:W.Frag) (x qual:Str) (st:Stmt) (f:Addr) (fd:FuncData) (dV:Value):Prop where
 ex:∃(oc:Value) (od:Option Addr) (kV doc pm:Value) (an:Option Addr) (cdv ct:Value) (osl:Array (Option Value)),
  fd=W.fnOf x qual (Jam st) (J4 st) (Jj st) dV kV doc pm an cdv ct/\K.lookup f=some ⟨oc,od,.func fd,osl⟩/\W.codeIn K cdv qual=true
 kp:W.keepIn K (.ref f)=true
section
variable {P:Program}{w:World}{K:W.Frag}{mg:Str->Option Value}{base:Heap}{ce:Str->Option Addr}
theorem FunD.fn {x qual:Str}{st:Stmt}{f:Addr}{fd:FuncData}{dV:Value}{N ps:List Str}{k n:Nat}{m:S1}(F:FunD K x qual st f fd dV) (S:FnScope N ps (Jj st))
  (hbody:∀(cdv:Value) (A:Around) (outer:List Env) (s:Shared) (H:Hp) (E:XK),W.codeIn K cdv qual=true->Room k (A.deeper (envOfC qual (Jj st) s.heap.objs.size f cdv))->PS2 ce (cxOf (CXI P w) P w K mg base N qual (Jj st) f cdv A outer s H E).nox (J4 st) m) (hn:N.length=n:=by rfl) :
  FnOk P w K mg base (CXI P w) (k+1) f fd ps (spI ce K ps (fnI n m)):=by
 subst hn
 obtain⟨oc,od,kV,doc,pm,an,cdv,ct,osl,rfl,lk,hcd⟩:=F.ex
 refine J5g lk hcd S (λ vs H Q E h=>h.1) λ A outer s H vs Q E hr hsp=>?_
 obtain⟨hl,ι,h,ivs,R,rv,hk⟩:=hsp
 refine⟨λ D σ H=>∃ι σi h,Rel ce K ι h H/\RSt K ι H σi σ/\match m σi h with
  | .next σi' h'=>∀σ' H' ι',Rel ce K ι' h' H'->RSt K ι' H' σi' σ'->Nxt ι H ι' H'->D.nx σ' H'
  | .ret v h'=>∀x H' ι',Rel ce K ι' h' H'->Nxt ι H ι' H'->RV K ι' H' v x->D.rt x H'
  | .exc n _ h'=>(∃c fs,h'[n]?=some (.exc c fs))/\∀a H' ι',Rel ce K ι' h' H'->Nxt ι H ι' H'->ι'[n]?=some a->E (.ref a) none H'
  | _=>False,λ pins s' σ' H' D I ht=>?_,ι,Jl2 N.length ivs,h,R,rv.start,?_⟩
 ·obtain⟨ι,σi,h,R,rs,hm⟩:=ht
  refine wpAny_mono (hbody cdv A outer s H E hcd hr pins s' σ' H' ι σi h (SP _ pins D) _ ⟨I.wish _,R,rs⟩ ?_) (λ _ _ z=>z) (λ _ _ z=>z)
  cases e:m σi h with
  | next σ2 h2 =>
   rw[e] at hm
   exact λ s3 σ3 H3 ι3 N3 n3=>⟨σ3,H3,N3.inv.unwish,hm σ3 H3 ι3 N3.rel N3.st n3⟩
  | ret v h2 =>
   rw[e] at hm
   exact λ u s3 σ3i σ3 H3 ι3 N3 n3 ⟨z,rz,q⟩=>⟨z,σ3,H3,N3.inv.unwish,rz,hm z H3 ι3 N3.rel n3 q⟩
  | exc j σ2 h2 =>
   rw[e] at hm
   obtain⟨⟨c,fs,hj⟩,hm⟩:=hm
   intro pl a s3 σ3 H3 ι3 N3 n3 hi s4 fl
   have I3:=N3.inv.unwish
   obtain⟨C,tv,d,fe,hC,ha,ht⟩:=Jld N3.rel hj hi
   refine Jv8 I3 fl rfl rfl ha ht λ T oT h' p=>?_
   have nl:s.heap.get? s.heap.objs.size=none:=Heap.get?_none_of_le (Nat.le_refl _)
   obtain⟨R4,n4⟩:=N3.rel.grow (o:=.frz oT (.own 0)) p.new
   have ha4:upd H3 T (.frz oT (.own 0)) a=some (ExF a C tv d):=by rw[Jg (Ne.symm p.ne)];exact ha
   obtain⟨R5,n5⟩:=R4.write hi ha4 (by rw[ha4];trivial) (o:=ExF a C (.ref T) d) (io:=.exc c fs) ⟨C,.ref T,d,fe.mono p.un.frzs,hC,Je,.inr ⟨T,oT,_,rfl,by rw[Jg p.ne,Je],p.fld.choose_spec⟩⟩
   rw[Jnl hj] at R5
   exact⟨_,I3.os,I3.bare,Un.tail I3.base p.un nl,p.hok,hm a _ ι3 R5 ((n3.trans n4).trans n5) hi⟩
  | _=>rw[e] at hm;exact hm.elim
 ·unfold fnI SRes.fin at hk
  cases e:m (Jl2 N.length ivs) h with
  | next σ2 h2 =>
   rw[e] at hk
   exact λ σ3 H3 ι3 R3 _ n3=>hk .non H3 ι3 R3 n3 rfl
  | ret v h2 =>
   rw[e] at hk
   exact hk
  | exc j σ2 h2 =>
   rw[e] at hk
   dsimp only at hk
   cases q:h2[j]? with
   | none=>rw[q] at hk;exact hk.elim
   | some o =>
    cases o with
    | exc c fs=>rw[q] at hk;exact⟨⟨c,fs,q⟩,hk⟩
    | _=>rw[q] at hk;exact hk.elim
  | _=>rw[e] at hk;exact hk.elim
end
noncomputable def Res.nx {α:Type}:Res α->Res α
 | .ok a h=>.ok a h
 | _=>.stuck
noncomputable def Jl (f:List IV->IH->Res IV) (dvs:List IV) (a:A1):E1:=λ σ h=>(a σ h).bind λ vs h1=>f (vs++dvs) h1
noncomputable def Ji5 (c:Str) (f:List IV->IH->Res IV) (dvs:List IV) (a:A1):E1:=λ σ h=>(a σ h).bind λ vs h1=>(f (.ref h1.length::(vs++dvs)) (h1++[.ins c []])).bind λ r h2=>match r with
 | .non=>.ok (.ref h1.length) h2
 | _=>.stuck
noncomputable def Jyh (m:Str) (disp:Str->Option ((List IV->IH->Res IV)×List IV)) (o:E1) (a:A1):E1:=λ σ h=>(o σ h).bind λ v h1=>match v with
 | .ref i=>(match h1[i]? with
  | some (.ins c fs)=>(match disp c,fs.lookup m with
   | some (f,dvs),none=>(a σ h1).bind λ vs h2=>f (.ref i::(vs++dvs)) h2
   | _,_=>.stuck)
  | _=>.stuck)
 | _=>.stuck
section
variable {ce:Str->Option Addr}{X:Cx}{k:Nat}{fa C:Addr}{fd:FuncData}{ps:List Str}{f:List IV->IH->Res IV}{dvs:List IV}{ds:List Value}{x m:Str}{p pos apos:Pos}{e o:Expr}{es:List Expr}{mo:E1}{ma:A1}
theorem RUs.vals {K:W.Frag}{ι:List Addr}{H:Hp}{xs:List IV}{us:List Value}(r:RUs K ι H xs us):∃vs,Vals vs us/\RVs K ι H xs vs:=r
theorem Jnf {pins:List (Addr×Obj)}{σ:L2.St}{H:Hp}{ι:List Addr}{σi:ISt}{h:IH}{s:Shared}{Q:Value->Shared->Prop}{E:Value->Shared->Prop}{us:List Value}{xs:List IV}(F:FnOk X.prog X.w X.K X.mg X.base (CXI X.prog X.w) k fa fd ps (spI ce X.K ps f)) (hr:Room k X.A) (hb:Jd6 X.K fd ps ds)
  (hd:∃vs,Vals vs ds/\∀ι H,RVs X.K ι H dvs vs) (hlen:us.length+ds.length=ps.length) (N:Now ce X pins ι σi h σ H s) (r:RUs X.K ι H xs us) (K:Kont ce X RU pins ι σi σ H (f (xs++dvs) h) Q E):wpAny (model X.prog X.w) X.A (call (.ref fa) us) Q E s:=by
 obtain⟨vs,rv,q⟩:=r
 obtain⟨dv,rd,qd⟩:=hd
 have hl1:=rv.length
 have hl2:=rd.length
 refine wpAny_mono (J3m (Q:=λ z H'=>∀u s',Inv X pins σ H' s'->RelV z u->Q u s') (E:=λ v _ H'=>∀s',Inv X pins σ H' s'->E v s') F hr hb rd N.inv rv ⟨by rw[List.length_append];omega,ι,h,xs++dvs,N.rel,q.append (qd ι H),?_⟩ λ _ s' _ I' z=>z s' I')
  (λ u s' ⟨z,H',I',r',k'⟩=>k' u s' I' r') λ _ _ z=>z
 cases e:f (xs++dvs) h with
 | ok v h' =>
  rw[e] at K
  exact λ z H' ι' R' n' qz u s' I' ru=>K u s' H' ι' ⟨I',R',N.st.mono n'⟩ n' ⟨z,ru,qz⟩
 | exc n h' =>
  rw[e] at K
  exact λ a H' ι' R' n' hi s' I'=>K [] a s' H' ι' ⟨by simpa using I',R',N.st.mono n'⟩ n' hi
 | stuck=>rw[e] at K;exact K
theorem J5n (F:FnOk X.prog X.w X.K X.mg X.base (CXI X.prog X.w) k fa fd ps (spI ce X.K ps f)) (hr:Room k X.A) (hg:Gl X x) (hm:X.mg x=some (.ref fa)) (hk:W.keepIn X.K (.ref fa)=true) (hb:Jd6 X.K fd ps ds) (hd:∃vs,Vals vs ds/\∀ι H,RVs X.K ι H dvs vs)
  (ha:PAi ce X (e::es) ma) (hlen:∀σ h xs h',ma σ h=.ok xs h'->xs.length+ds.length=ps.length) (hdb:(x==("__debug__":Str))=false:=by decide) (he:starEach (e::es) X.env=(false,eval e X.env)::starEach es X.env:=by rfl) (hpl:(backTo pos (starEach es X.env)).any (·.1)=false:=by rfl) :
  PEi ce X (.Call (.Name x p) (e::es) [] pos) (Jl f dvs ma):=by
 intro pins s σ H ι σi h Q E N K
 refine wpAny_Call_Name_kw (Jdv N.inv hg hm ?_ hdb)
 refine W.callWith_K (h₀:=X.base) N.inv.ok.mod.kin hk ?_ he hpl
 have K':=K
 unfold Jl at K'
 refine ha pos pins s σ H ι σi h _ E N ?_
 cases e0:ma σi h with
 | exc n h'=>rw[e0] at K';exact K'
 | stuck=>rw[e0] at K';exact K'
 | ok xs h' =>
  rw[e0] at K'
  intro us s1 H1 ι1 N1 n1 r1
  have hl:xs.length=us.length:=by
   obtain⟨vs,rv,q⟩:=r1
   rw[<- rv.length,q.length]
  exact⟨N1.inv.kIn,Jnf (us:=us) F hr hb hd (by have:=hlen σi h xs h' e0;omega) N1 r1 (Kont.mono (r:=(f (xs++dvs) h')) K' n1)⟩
theorem J2o (F:FnOk X.prog X.w X.K X.mg X.base (CXI X.prog X.w) k fa fd ps (spI ce X.K ps f)) (hr:Room k X.A) (hg:Gl X x) (hm:X.mg x=some (.ref fa)) (hk:W.keepIn X.K (.ref fa)=true) (hb:Jd6 X.K fd ps ds) (hd:∃vs,Vals vs ds/\∀ι H,RVs X.K ι H dvs vs)
  (hlen:ds.length=ps.length) (hdb:(x==("__debug__":Str))=false:=by decide):PEi ce X (.Call (.Name x p) [] [] pos) (Jl f dvs aNil):=by
 intro pins s σ H ι σi h Q E N K
 refine wpAny_Call_Name_kw (Jdv N.inv hg hm ?_ hdb)
 exact W.callWith_K0 N.inv.kIn hk (Jnf (xs:=[]) F hr hb hd (by simpa using hlen) N .nil K)
theorem Jpi {c:Str}{pins:List (Addr×Obj)}{σ:L2.St}{H:Hp}{ι:List Addr}{σi:ISt}{h:IH}{s:Shared}{Q:Value->Shared->Prop}{E:Value->Shared->Prop}{us:List Value}{xs:List IV}(M:Mk X.K C fa) (F:FnOk X.prog X.w X.K X.mg X.base (CXI X.prog X.w) k fa fd ps (spI ce X.K ps f)) (hC:ce c=some C) (hr:Room (k+1) X.A) (hb:Jd6 X.K fd ps ds)
  (hd:∃vs,Vals vs ds/\∀ι H,RVs X.K ι H dvs vs) (hlen:us.length+ds.length+1=ps.length) (N:Now ce X pins ι σi h σ H s) (r:RUs X.K ι H xs us)
  (K:Kont ce X RU pins ι σi σ H ((f (.ref h.length::(xs++dvs)) (h++[.ins c []])).bind λ r h2=>match r with|.non=>.ok (.ref h.length) h2|_=>.stuck) Q E):wpAny (model X.prog X.w) X.A (call (.ref C) us) Q E s:=by
 obtain⟨vs,rv,q⟩:=r
 obtain⟨dv,rd,qd⟩:=hd
 have hl1:=rv.length
 have hl2:=rd.length
 refine wpAny_mono (Jwq (Q:=λ z H'=>∀u s',Inv X pins σ H' s'->RelV z u->Q u s') (E:=λ v _ H'=>∀s',Inv X pins σ H' s'->E v s') M F hr hb rd N.inv rv (λ x dx hx hdx hne=>⟨by rw[List.length_cons,List.length_append];omega,?_⟩) λ _ s' _ I' z=>z s' I')
  (λ u s' ⟨z,H',I',r',k'⟩=>k' u s' I' r') λ _ _ z=>z
 -- the new instance in the reading's heap
 obtain⟨R1,n1⟩:=N.rel.grow (o:=.own x) hdx
 have hx1:upd H dx (.own x) x=none:=by rw[Jg (Ne.symm hne)];exact hx
 obtain⟨R2,n2⟩:=R1.alloc (o:=.ins C dx []) (io:=.ins c []) hx1 ⟨C,dx,[],hC,Je,rfl⟩
 have n12:=n1.trans n2
 have hat:(ι++[x])[h.length]?=some x:=by
  rw[<- N.rel.len,List.getElem?_append_right (Nat.le_refl _)]
  simp
 refine⟨ι++[x],h++[.ins c []],.ref h.length::(xs++dvs),R2,⟨_,_,rfl,⟨x,rfl,hat⟩,(RVs.mono n12 _ _ q).append (qd _ _)⟩,?_⟩
 cases e:f (.ref h.length::(xs++dvs)) (h++[.ins c []]) with
 | ok v h' =>
  rw[e] at K
  intro z H' ι' R' n' qz
  cases v with
  | non =>
   have ez:z=.non:=qz
   subst ez
   exact⟨rfl,λ u s' I' ru=>K u s' H' ι' ⟨I',R',N.st.mono (n12.trans n')⟩ (n12.trans n') ⟨.ref x,ru,x,rfl,n'.at hat⟩⟩
  | _=>exact Zf K
 | exc n h' =>
  rw[e] at K
  exact λ a H' ι' R' n' hi s' I'=>K [] a s' H' ι' ⟨by simpa using I',R',N.st.mono (n12.trans n')⟩ (n12.trans n') hi
 | stuck=>rw[e] at K;exact Zf K
theorem J5v {c:Str}(M:Mk X.K C fa) (F:FnOk X.prog X.w X.K X.mg X.base (CXI X.prog X.w) k fa fd ps (spI ce X.K ps f)) (hC:ce c=some C) (hr:Room (k+1) X.A) (hg:Gl X x) (hm:X.mg x=some (.ref C)) (hb:Jd6 X.K fd ps ds) (hd:∃vs,Vals vs ds/\∀ι H,RVs X.K ι H dvs vs)
  (ha:PAi ce X (e::es) ma) (hlen:∀σ h xs h',ma σ h=.ok xs h'->xs.length+ds.length+1=ps.length) (hdb:(x==("__debug__":Str))=false:=by decide) (he:starEach (e::es) X.env=(false,eval e X.env)::starEach es X.env:=by rfl) (hpl:(backTo pos (starEach es X.env)).any (·.1)=false:=by rfl) :
  PEi ce X (.Call (.Name x p) (e::es) [] pos) (Ji5 c f dvs ma):=by
 intro pins s σ H ι σi h Q E N K
 refine wpAny_Call_Name_kw (Jdv N.inv hg hm ?_ hdb)
 refine W.callWith_K (h₀:=X.base) N.inv.ok.mod.kin M.kp ?_ he hpl
 have K':=K
 unfold Ji5 at K'
 refine ha pos pins s σ H ι σi h _ E N ?_
 cases e0:ma σi h with
 | exc n h'=>rw[e0] at K';exact K'
 | stuck=>rw[e0] at K';exact K'
 | ok xs h' =>
  rw[e0] at K'
  intro us s1 H1 ι1 N1 n1 r1
  have hl:xs.length=us.length:=by
   obtain⟨vs,rv,q⟩:=r1
   rw[<- rv.length,q.length]
  exact⟨N1.inv.kIn,Jpi (us:=us) M F hC hr hb hd (by have:=hlen σi h xs h' e0;omega) N1 r1 (Kont.mono (r:=(f (IV.ref h'.length::(xs++dvs)) (h'++[.ins c []])).bind λ r h2=>match r with|IV.non=>Res.ok (IV.ref h'.length) h2|_=>Res.stuck) K' n1)⟩
theorem J2r {c:Str}(M:Mk X.K C fa) (F:FnOk X.prog X.w X.K X.mg X.base (CXI X.prog X.w) k fa fd ps (spI ce X.K ps f)) (hC:ce c=some C) (hr:Room (k+1) X.A) (hg:Gl X x) (hm:X.mg x=some (.ref C)) (hb:Jd6 X.K fd ps ds) (hd:∃vs,Vals vs ds/\∀ι H,RVs X.K ι H dvs vs)
  (hlen:ds.length+1=ps.length) (hdb:(x==("__debug__":Str))=false:=by decide):PEi ce X (.Call (.Name x p) [] [] pos) (Ji5 c f dvs aNil):=by
 intro pins s σ H ι σi h Q E N K
 refine wpAny_Call_Name_kw (Jdv N.inv hg hm ?_ hdb)
 exact W.callWith_K0 N.inv.kIn M.kp (Jpi (xs:=[]) M F hC hr hb hd (by simpa using hlen) N .nil K)
noncomputable def Juh (ce:Str->Option Addr) (X:Cx) (m:Str) (n:Nat) (disp:Str->Option ((List IV->IH->Res IV)×List IV)):Prop :=
 ∀c f dvs,disp c=some (f,dvs)->∃(C fa:Addr) (fd:FuncData) (k:Nat) (ps:List Str) (ds:List Value),ce c=some C/\Cls X.K C/\Meth X.K C m fa/\FnOk X.prog X.w X.K X.mg X.base (CXI X.prog X.w) k fa fd ps (spI ce X.K ps f)/\Room k X.A/\Jd6 X.K fd ps ds/\(∃vs,Vals vs ds/\∀ι H,RVs X.K ι H dvs vs)/\n+ds.length+1=ps.length
theorem J5y {n:Nat}{disp:Str->Option ((List IV->IH->Res IV)×List IV)}{pl:Sem Bool}(ho:PEi ce X o mo) (hd:Juh ce X m n disp) (ha:PAi ce X (e::es) ma) (hlen:∀σ h xs h',ma σ h=.ok xs h'->xs.length=n)
  (hst:starEach (e::es) X.env=(false,eval e X.env)::starEach es X.env:=by rfl) (hpl:(backTo pos (starEach es X.env)).any (·.1)=false:=by rfl)
  (ht:eval (.Call (.Attribute o m apos) (e::es) [] pos) X.env=(do
   let ov<-eval o X.env
   standAt apos.atName
   let (f,first)<-holding [ov] (getMethod ov m pl)
   callWith pos f first (backTo pos (starEach (e::es) X.env)) (backToKw pos (keywordEach [] X.env))):=by rfl) :
  PEi ce X (.Call (.Attribute o m apos) (e::es) [] pos) (Jyh m disp mo ma):=by
 intro pins s σ H ι σi h Q E N K
 refine W.methodCall_KW (pl:=pl) (ho.run N K λ v h1 u s1 H1 ι1 N1 n1 r1 K1=>?_) ht
 cases v with
 | ref i =>
  obtain⟨w,rw',a,e1,hi⟩:=r1
  subst e1
  cases rw'
  dsimp only at K1
  cases hh:h1[i]? with
  | none=>rw[hh] at K1;exact Zf K1
  | some ob =>
   cases ob with
   | ins c fs =>
    rw[hh] at K1
    dsimp only at K1
    cases hd1:disp c with
    | none=>rw[hd1] at K1;exact Zf K1
    | some fd1 =>
     obtain⟨f,dvs⟩:=fd1
     cases hl:fs.lookup m with
     | some z=>rw[hd1,hl] at K1;exact Zf K1
     | none =>
      rw[hd1,hl] at K1
      dsimp only at K1
      obtain⟨C,fa,fd,k,ps,ds,hC,cl,hm,F,hr,hb,hdv,hn⟩:=hd c f dvs hd1
      obtain⟨C',dx,vs,hC',hH,rp⟩:=N1.at hh hi
      rw[hC] at hC'
      cases hC'
      refine Jlo N1.inv hH cl hm ((RPs.lookup rp).2 hl) ?_
      refine W.callWith_K (first:=[.ref a]) (h₀:=X.base) N1.inv.ok.mod.kin hm.kp ?_ hst hpl
      refine ha pos pins s1 σ H1 ι1 σi h1 _ E N1 ?_
      cases e0:ma σi h1 with
      | exc n h'=>rw[e0] at K1;exact K1
      | stuck=>rw[e0] at K1;exact K1
      | ok xs h' =>
       rw[e0] at K1
       intro us s2 H2 ι2 N2 n2 r2
       have hl:xs.length=us.length:=by
        obtain⟨vs,rv,q⟩:=r2
        rw[<- rv.length,q.length]
       have hl2:=hlen σi h1 xs h' e0
       refine⟨N2.inv.kIn,Jnf (us:=.ref a::us) (xs:=.ref i::xs) F hr hb hdv (by rw[List.length_cons];omega) N2 (.cons ⟨.ref a,rfl,a,rfl,n2.at hi⟩ r2) ?_⟩
       exact Kont.mono (r:=(f (.ref i::(xs++dvs)) h')) K1 n2
   | _=>rw[hh] at K1;exact Zf K1
 | _=>exact Zf K1
theorem J2t {disp:Str->Option ((List IV->IH->Res IV)×List IV)}{pl:Sem Bool}(ho:PEi ce X o mo) (hd:Juh ce X m 0 disp)
  (ht:eval (.Call (.Attribute o m apos) [] [] pos) X.env=(do
   let ov<-eval o X.env
   standAt apos.atName
   let (f,first)<-holding [ov] (getMethod ov m pl)
   callWith pos f first (backTo pos (starEach [] X.env)) (backToKw pos (keywordEach [] X.env))):=by rfl) :
  PEi ce X (.Call (.Attribute o m apos) [] [] pos) (Jyh m disp mo aNil):=by
 intro pins s σ H ι σi h Q E N K
 refine W.methodCall_KW (pl:=pl) (ho.run N K λ v h1 u s1 H1 ι1 N1 n1 r1 K1=>?_) ht
 cases v with
 | ref i =>
  obtain⟨w,rw',a,e1,hi⟩:=r1
  subst e1
  cases rw'
  dsimp only at K1
  cases hh:h1[i]? with
  | none=>rw[hh] at K1;exact Zf K1
  | some ob =>
   cases ob with
   | ins c fs =>
    rw[hh] at K1
    dsimp only at K1
    cases hd1:disp c with
    | none=>rw[hd1] at K1;exact Zf K1
    | some fd1 =>
     obtain⟨f,dvs⟩:=fd1
     cases hl:fs.lookup m with
     | some z=>rw[hd1,hl] at K1;exact Zf K1
     | none =>
      rw[hd1,hl] at K1
      dsimp only at K1
      obtain⟨C,fa,fd,k,ps,ds,hC,cl,hm,F,hr,hb,hdv,hn⟩:=hd c f dvs hd1
      obtain⟨C',dx,vs,hC',hH,rp⟩:=N1.at hh hi
      rw[hC] at hC'
      cases hC'
      refine Jlo N1.inv hH cl hm ((RPs.lookup rp).2 hl) ?_
      exact W.callWith_K0 (first:=[.ref a]) N1.inv.kIn hm.kp (Jnf (us:=[.ref a]) (xs:=[.ref i]) F hr hb hdv (by rw[List.length_cons,List.length_nil];omega) N1 (.cons ⟨.ref a,rfl,a,rfl,hi⟩ .nil) K1)
   | _=>rw[hh] at K1;exact Zf K1
 | _=>exact Zf K1
noncomputable def eFld (f:Str) (o:E1):E1:=λ σ h=>(o σ h).bind λ v h1=>match v with
 | .ref i=>(match h1[i]? with
  | some (.ins _ fs)=>(match fs.lookup f with
   | some x=>.ok x h1
   | none=>.stuck)
  | _=>.stuck)
 | _=>.stuck
noncomputable def Jx7 (ce:Str->Option Addr) (K:W.Frag) (f:Str):Prop:=∀c C,ce c=some C->Cls K C/\Jgk K C f
theorem i_fld {fl:Str}(ho:PEi ce X o mo) (hf:Jx7 ce X.K fl) (hb:attributeBase o fl X.env (eval o X.env)=eval o X.env:=by rfl):PEi ce X (.Attribute o fl pos) (eFld fl mo):=by
 intro pins s σ H ι σi h Q E N K
 refine Jur hb (ho.run N K λ v h1 u s1 H1 ι1 N1 n1 r1 K1=>?_)
 cases v with
 | ref i =>
  obtain⟨w,rw',a,e1,hi⟩:=r1
  subst e1
  cases rw'
  dsimp only at K1
  cases hh:h1[i]? with
  | none=>rw[hh] at K1;exact Zf K1
  | some ob =>
   cases ob with
   | ins c fs =>
    rw[hh] at K1
    dsimp only at K1
    cases hl:fs.lookup fl with
    | none=>rw[hl] at K1;exact Zf K1
    | some z =>
     rw[hl] at K1
     obtain⟨C,dx,vs,hC,hH,rp⟩:=N1.at hh hi
     obtain⟨cl,na⟩:=hf c C hC
     obtain⟨y,hy,q⟩:=(RPs.lookup rp).1 z hl
     exact Jsu N1.inv hH cl na hy λ u' s2 I2 ru=>K1 u' s2 H1 ι1 ⟨I2,N1.rel,N1.st⟩ .refl ⟨y,ru,q⟩
   | _=>rw[hh] at K1;exact Zf K1
 | _=>exact Zf K1
noncomputable def putI (f:Str) (v:IV):List (Str×IV)->List (Str×IV)
 | []=>[(f,v)]
 | (g,x)::r=>if g=f then(g,v)::r else(g,x)::putI f v r
theorem RPs.put {K:W.Frag}{ι:List Addr}{H:Hp}{fl:Str}{v:IV}{y:V}(q:RV K ι H v y):∀{fs:List (Str×IV)}{vs:List (Str×V)},RPs K ι H fs vs->RPs K ι H (putI fl v fs) (putF fl y vs)
 | [],_,h=>by
  have e:_=[]:=h
  subst e
  exact⟨y,[],rfl,q,rfl⟩
 | (g,x)::r,_,h=>by
  obtain⟨w,vr,e,qx,t⟩:=h
  subst e
  show RPs K ι H (if g=fl then(g,v)::r else(g,x)::putI fl v r) (if g=fl then(g,y)::vr else(g,w)::putF fl y vr)
  by_cases hg:g=fl
  ·rw[if_pos hg,if_pos hg]
   exact⟨y,vr,rfl,q,t⟩
  ·rw[if_neg hg,if_neg hg]
   exact⟨w,_,rfl,qx,RPs.put q t⟩
noncomputable def Jkm (f:Str) (o e:E1):S1:=λ σ h=>rS σ (e σ h) λ v h1=>rS σ (o σ h1) λ ov h2=>match ov with
 | .ref i=>(match h2[i]? with
  | some (.ins c fs)=>if fs.length<1000 then .next σ (h2.set i (.ins c (putI f v fs))) else .stuck
  | _=>.stuck)
 | _=>.stuck
theorem s_fld {fl:Str}{value:Expr}{mv:E1}{pos':Pos}(ho:PEi ce X o mo) (hv:PEi ce X value mv) (hf:Jx7 ce X.K fl) (hs:swapsWith value (some (.Attribute o fl pos')) pos.line X.env=pure false:=by rfl):PS1 ce X (.Assign [.Attribute o fl pos'] value pos) (Jkm fl mo mv):=by
 intro pins s σ H ι σi h Q E N K
 refine plainObj_wpAny_Assign_Attribute (krun hv N K λ v h1 u s1 H1 ι1 N1 n1 r1 K1=>krun ho N1 K1 λ ov h2 w s2 H2 ι2 N2 n2 r2 K2=>?_) hs
 cases ov with
 | ref i =>
  obtain⟨w,rw',a,e1,hi⟩:=r2
  subst e1
  cases rw'
  dsimp only at K2
  cases hh:h2[i]? with
  | none=>rw[hh] at K2;exact Zf K2
  | some ob =>
   cases ob with
   | ins c fs =>
    rw[hh] at K2
    dsimp only at K2
    split at K2
    ·rename_i hz
     obtain⟨C,dx,vs,hC,hH,rp⟩:=N2.at hh hi
     obtain⟨cl,na⟩:=hf c C hC
     obtain⟨y,ry,q⟩:=r1
     refine Jua N2.inv hH cl na (by rw[rp.length];exact hz) ry λ s3 I3=>?_
     have n3:Nxt ι2 H2 ι2 (upd H2 a (.ins C dx (putF fl y vs))):=⟨⟨[],by simp⟩,Ext.upd_mut hH (by rw[hH];exact True.intro)⟩
     obtain⟨R3,_⟩:=N2.rel.write (o:=.ins C dx (putF fl y vs)) (io:=.ins c (putI fl v fs)) hi hH (by rw[hH];exact True.intro) ⟨C,dx,_,hC,Je,RPs.put (RV.mono (n2.trans n3) _ _ q) (RPs.mono n3 _ _ rp)⟩
     exact K2 s3 σ _ ι2 ⟨I3,R3,N2.st.mono n3⟩ n3
    ·exact Zf K2
   | _=>rw[hh] at K2;exact Zf K2
 | _=>exact Zf K2
end
section
variable {ce:Str->Option Addr}{X:Cx}{a b c:Expr}{ma mb mc:E1}{pos:Pos}
noncomputable def opIx:IV->IV->IH->Res IV
 | .ref i,.int k,h=>match h[i]? with
  | some (.lst xs)=>(match atI xs k with
   | some v=>.ok v h
   | none=>.stuck)
  | _=>.stuck
 | .rol xs,.int k,h=>match atI xs k with
  | some v=>.ok v h
  | none=>.stuck
 | .tup xs,.int k,h=>match atI xs k with
  | some v=>.ok v h
  | none=>.stuck
 | .str x,.int k,h=>if x.length<=sizeLine then(match atI x.cps.toList k with
  | some c=>.ok (.str ⟨#[c]⟩) h
  | none=>.stuck) else .stuck
 | _,_,_=>.stuck
theorem Jp8 {K:W.Frag}{ι:List Addr}{H:Hp}{xs:List IV}{vs:List V}{k:Int}{v:IV}(r:RVs K ι H xs vs) (e:atI xs k=some v):∃u,atI vs k=some u/\RV K ι H v u:=by
 unfold atI at e ⊢
 rw[r.length]
 cases q:ixN xs.length k with
 | none=>rw[q] at e;cases e
 | some j =>
  rw[q] at e
  exact r.get e
noncomputable def IxI (ce:Str->Option Addr) (X:Cx) (g:IV->IV->IH->Res IV):Prop :=
 ∀(value slice:Expr) (pins:List (Addr×Obj)) (s:Shared) (σ:L2.St) (H:Hp) (ι:List Addr) (σi:ISt) (h:IH) (x y:IV) (v u:Value) (Q:Value->Shared->Prop) (E:Value->Shared->Prop),Now ce X pins ι σi h σ H s->RU X.K ι H x v->RU X.K ι H y u ->
  Kont ce X RU pins ι σi σ H (g x y h) Q E->subscripted slice false v u=operate [v,u] (getItem v u)->wpAny (model X.prog X.w) X.A (subscriptTail value slice v u) Q E s
theorem Jsk {pins:List (Addr×Obj)}{s:Shared}{σ:L2.St}{H:Hp}{Q:Value->Shared->Prop}{E:Value->Shared->Prop}{r:R2}{value slice:Expr}{x y:V}{v u:Value}(p:IxR (X.wish E) r) (I:Inv X pins σ H s) (rx:RelV x v) (ry:RelV y u)
  (k:r x y H λ z H'=>∀u s',Inv X pins σ H' s'->RelV z u->Q u s') (hs:subscripted slice false v u=operate [v,u] (getItem v u)):wpAny (model X.prog X.w) X.A (subscriptTail value slice v u) Q E s :=
 wpAny_mono (p value slice pins s σ H x y v u _ (I.wish E) rx ry k hs) (λ u s' ⟨_,_,I',r,q⟩=>q u s' I'.unwish r) λ _ _ z=>z
theorem x_ix:IxI ce X opIx:=by
 intro value slice pins s σ H ι σi h x y v u Q E N rx ry K hs
 obtain⟨xv,rx,qx⟩:=rx
 obtain⟨yv,ry,qy⟩:=ry
 cases y with
 | int k =>
  have e2:yv=.int k:=qy
  subst e2
  cases x with
  | ref i =>
   obtain⟨a,e1,ha⟩:=qx
   subst e1
   dsimp only[opIx] at K
   cases hi:h[i]? with
   | none=>rw[hi] at K;exact Zf K
   | some ob =>
    rw[hi] at K
    cases ob with
    | lst xs =>
     dsimp only at K
     cases hk:atI xs k with
     | none=>rw[hk] at K;exact Zf K
     | some z =>
      rw[hk] at K
      obtain⟨vs,e1,r1⟩:=N.at hi ha
      obtain⟨w,hw,qw⟩:=Jp8 r1 hk
      exact Jsk (Jv2 (X:=X.wish E)) N.inv rx ry ⟨a,vs,k,w,rfl,rfl,SqL.of e1,hw,fin0 N K qw⟩ hs
    | _=>exact Zf K
  | rol xs =>
   obtain⟨a,vs,e1,sa,ra⟩:=qx
   subst e1
   dsimp only[opIx] at K
   cases hk:atI xs k with
   | none=>rw[hk] at K;exact Zf K
   | some z =>
    rw[hk] at K
    obtain⟨w,hw,qw⟩:=Jp8 ra hk
    exact Jsk (Jv2 (X:=X.wish E)) N.inv rx ry ⟨a,vs,k,w,rfl,rfl,sa.sq,hw,fin0 N K qw⟩ hs
  | tup xs =>
   obtain⟨a,vs,e1,sa,ra⟩:=qx
   subst e1
   dsimp only[opIx] at K
   cases hk:atI xs k with
   | none=>rw[hk] at K;exact Zf K
   | some z =>
    rw[hk] at K
    obtain⟨w,hw,qw⟩:=Jp8 ra hk
    exact Jsk (J59 (X:=X.wish E)) N.inv rx ry ⟨a,vs,k,w,rfl,rfl,sa,hw,fin0 N K qw⟩ hs
  | str x =>
   have e1:xv=.str x:=qx
   subst e1
   dsimp only[opIx] at K
   split at K
   ·rename_i hz
    cases hk:atI x.cps.toList k with
    | none=>rw[hk] at K;exact Zf K
    | some z =>
     rw[hk] at K
     exact Jsk (J58 (X:=X.wish E)) N.inv rx ry ⟨x,k,z,rfl,rfl,hz,hk,fin0 N K rfl⟩ hs
   ·exact Zf K
  | _=>exact Zf K
 | _=>cases x<;>exact Zf K
theorem i_ix {g:IV->IV->IH->Res IV}(hg:IxI ce X g) (ha:PEi ce X a ma) (hb:PEi ce X b mb) (hs:Jui b:=by intro _ _;rfl):PEi ce X (.Subscript a b pos) (eBin g ma mb):=λ pins s σ H ι σi h Q E N K =>
 Subscript_ (ha.run N K λ x h1 u s1 H1 ι1 N1 n1 r1 K1=>hb.run N1 K1 λ y h2 w s2 H2 ι2 N2 n2 r2 K2=>hg a b pins s2 σ H2 ι2 σi h2 x y u w Q E N2 (r1.mono n2) r2 K2 (hs _ _))
noncomputable abbrev O1:=ISt->IH->Res (Option Int)
noncomputable def RPart:REL (Option Int) Value:=λ _ _ _ o u=>IsPart u o
noncomputable def PPi (ce:Str->Option Addr) (X:Cx) (e:Option Expr) (m:O1):Prop:=PX ce X RPart (evalPart e X.env) m
noncomputable def Jto:O1:=λ _ h=>.ok none h
noncomputable def Jqu (e:E1):O1:=λ σ h=>(e σ h).bind λ v h1=>match v with
 | .int i=>.ok (some i) h1
 | _=>.stuck
theorem J6r:PPi ce X none Jto:=by
 intro pins s σ H ι σi h Q E N K
 rw[evalPart_none]
 exact wpAny_pure (K _ s H ι N .refl .none)
theorem J6s (ha:PEi ce X a ma):PPi ce X (some a) (Jqu ma):=by
 intro pins s σ H ι σi h Q E N K
 rw[evalPart_some]
 refine ha.run N K λ x h1 u s1 H1 ι1 N1 n1 r1 K1=>?_
 cases x with
 | int i =>
  obtain⟨w,rw',q⟩:=r1
  have e:w=.int i:=q
  subst e
  obtain⟨t,rfl⟩:=rw'
  exact K1 _ s1 H1 ι1 N1 .refl (.int i t)
 | _=>exact Zf K1
noncomputable def cutI {α:Type}(xs:List α) (lo hi:Option Int):List α:=(xs.drop (HT.sIx xs.length 0 lo)).take (HT.sIx xs.length xs.length hi-HT.sIx xs.length 0 lo)
noncomputable def slI:IV->Option Int->Option Int->IH->Res IV
 | .ref i,lo,hi,h=>match h[i]? with
  | some (.lst xs)=>.ok (.ref h.length) (h++[.lst (cutI xs lo hi)])
  | _=>.stuck
 | .rol xs,lo,hi,h=>.ok (.ref h.length) (h++[.lst (cutI xs lo hi)])
 | .tup xs,lo,hi,h=>if HT.sIx xs.length 0 lo=0/\HT.sIx xs.length xs.length hi=xs.length then .stuck else .ok (.tup (cutI xs lo hi)) h
 | _,_,_,_=>.stuck
theorem RVs.cut {K:W.Frag}{ι:List Addr}{H:Hp}{xs:List IV}{vs:List V}(r:RVs K ι H xs vs) (lo hi:Option Int):RVs K ι H (cutI xs lo hi) (cutV vs lo hi):=by
 unfold cutI cutV
 rw[r.length]
 exact(r.drop _).take _
noncomputable def eSl (f:IV->Option Int->Option Int->IH->Res IV) (e:E1) (lo hi:O1):E1:=λ σ h=>(e σ h).bind λ x h1=>(lo σ h1).bind λ l h2=>(hi σ h2).bind λ u h3=>f x l u h3
noncomputable def SlI (ce:Str->Option Addr) (X:Cx) (g:IV->Option Int->Option Int->IH->Res IV):Prop :=
 ∀(pins:List (Addr×Obj)) (s:Shared) (σ:L2.St) (H:Hp) (ι:List Addr) (σi:ISt) (h:IH) (x:IV) (v vl vu:Value) (lo hi:Option Int) (sl:Addr) (Q:Value->Shared->Prop) (E:Value->Shared->Prop),Now ce X pins ι σi h σ H s->RU X.K ι H x v->s.heap.IsSliceOf sl vl vu .none->IsPart vl lo->IsPart vu hi ->
  Kont ce X RU pins ι σi σ H (g x lo hi h) Q E->∃T id,typeLookup (.type T) "__getitem__"=pure (some (.builtin id))/\s.TypeIs v T/\wpAny (model X.prog X.w) X.A (getItem v (.ref sl)) Q E s
theorem Jw7 {pins:List (Addr×Obj)}{s:Shared}{σ:L2.St}{H:Hp}{Q:Value->Shared->Prop}{E:Value->Shared->Prop}{r:V->Option Int->Option Int->Hp->VK->Prop}{x:V}{v vl vu:Value}{lo hi:Option Int}{sl:Addr}(p:SlR (X.wish E) r) (I:Inv X pins σ H s) (rx:RelV x v)
  (hs:s.heap.IsSliceOf sl vl vu .none) (pl:IsPart vl lo) (pu:IsPart vu hi) (k:r x lo hi H λ z H'=>∀u s',Inv X pins σ H' s'->RelV z u->Q u s') :
  ∃T id,typeLookup (.type T) "__getitem__"=pure (some (.builtin id))/\s.TypeIs v T/\wpAny (model X.prog X.w) X.A (getItem v (.ref sl)) Q E s:=by
 obtain⟨T,id,h1,h2,h3⟩:=p pins s σ H x v vl vu lo hi sl _ (I.wish E) rx hs pl pu k
 exact⟨T,id,h1,h2,wpAny_mono h3 (λ u s' ⟨_,_,I',r,q⟩=>q u s' I'.unwish r) λ _ _ z=>z⟩
theorem J2u {g:IV->Option Int->Option Int->IH->Res IV}{lo hi:Option Expr}{ml mh:O1}{p2:Pos}(hr:SlI ce X g) (he:PEi ce X a ma) (hl:PPi ce X lo ml) (hu:PPi ce X hi mh):PEi ce X (.Subscript a (.Slice lo hi none p2) pos) (eSl g ma ml mh):=by
 intro pins s σ H ι σi h Q E N K
 refine Subscript_ (he.run N K λ x h1 v s1 H1 ι1 N1 n1 r1 K1=>?_)
 refine wpAny_Slice (PX.run hl N1 K1 λ l h2 vl s2 H2 ι2 N2 n2 pl K2=>PX.run hu N2 K2 λ u h3 vu s3 H3 ι3 N3 n3 pu K3=>?_)
 rw[evalPart_none]
 refine wpAny_pure ?_
 have I4:Inv X pins σ H3 { s3 with heap:=s3.heap.push { cls:=.type "slice",data:=.fields #[vl,vu,.none] } }:=N3.inv.kept (t':=s3.toks) λ b ob q=>Heap.get?_push_of_some _ q
 obtain⟨T,id,hT,ht,hg⟩:=hr pins { s3 with heap:=s3.heap.push { cls:=.type "slice",data:=.fields #[vl,vu,.none] } } σ H3 ι3 σi h3 x v vl vu l u s3.heap.objs.size Q E ⟨I4,N3.rel,N3.st⟩ ((r1.mono n2).mono n3) (Heap.IsSliceOf.new ..) pl pu K3
 show wpAny (model X.prog X.w) X.A (subscriptTail a (.Slice lo hi none p2) v (.ref s3.heap.objs.size)) Q E { s3 with heap:=s3.heap.push { cls:=.type "slice",data:=.fields #[vl,vu,.none] } }
 exact tail_any (ops:=[.ref s3.heap.objs.size,v]) ht hT hg (by with_unfolding_all rfl)
noncomputable def eCB (f:List IV->IH->Res IV) (a:A1):E1:=λ σ h=>(a σ h).bind f
variable {es:List Expr}{mr:A1}{x:Str}{p:Pos}{id T:String}{g:List IV->IH->Res IV}
theorem Jgc (hc:Ji3 ce X (.builtin id) g) (hg:Gl X x) (hm:X.mg x=none) (hv:bootBuiltins x=some (.builtin id)) (ha:PAi ce X (a::es) mr) (hn:x≠"__name__":=by decide) (hdb:(x==("__debug__":Str))=false:=by decide)
  (he:starEach (a::es) X.env=(false,eval a X.env)::starEach es X.env:=by rfl) (hpl:(backTo pos (starEach es X.env)).any (·.1)=false:=by rfl):PEi ce X (.Call (.Name x p) (a::es) [] pos) (eCB g mr):=λ pins s σ H ι σi h Q E N K =>
 wpAny_Call_Name_kw (Jcp N.inv hg hm hv (PyProof.Rows.callWith_builtin1 ((ha pos).run N K λ xs h1 us s1 H1 ι1 N1 n1 r1 K1=>hc pins s1 σ H1 ι1 σi h1 xs us Q E N1 r1 K1) he hpl) hn hdb)
theorem Jvs (hc:Ji3 ce X (.type T) g) (hg:Gl X x) (hm:X.mg x=none) (hv:bootBuiltins x=some (.type T)) (ha:PAi ce X (a::es) mr) (hn:x≠"__name__":=by decide) (hdb:(x==("__debug__":Str))=false:=by decide)
  (he:starEach (a::es) X.env=(false,eval a X.env)::starEach es X.env:=by rfl) (hpl:(backTo pos (starEach es X.env)).any (·.1)=false:=by rfl):PEi ce X (.Call (.Name x p) (a::es) [] pos) (eCB g mr):=λ pins s σ H ι σi h Q E N K =>
 wpAny_Call_Name_kw (Jcp N.inv hg hm hv (PyProof.Rows.callWith_type1 ((ha pos).run N K λ xs h1 us s1 H1 ι1 N1 n1 r1 K1=>hc pins s1 σ H1 ι1 σi h1 xs us Q E N1 r1 K1) he hpl) hn hdb)
noncomputable def on1 (f:IV->IH->Res IV):List IV->IH->Res IV
 | [x],h=>f x h
 | _,_=>.stuck
noncomputable def on2 (f:IV->IV->IH->Res IV):List IV->IH->Res IV
 | [x,y],h=>f x y h
 | _,_=>.stuck
theorem RVs.one_of {K:W.Frag}{ι:List Addr}{H:Hp}{x:IV}{vs:List V}(r:RVs K ι H [x] vs):∃v,vs=[v]/\RV K ι H x v:=by
 obtain⟨v,r',e,q,q2⟩:=r
 have e2:r'=[]:=q2
 subst e2
 exact⟨v,e,q⟩
theorem RVs.two_of {K:W.Frag}{ι:List Addr}{H:Hp}{x y:IV}{vs:List V}(r:RVs K ι H [x,y] vs):∃v w,vs=[v,w]/\RV K ι H x v/\RV K ι H y w:=by
 obtain⟨v,r',e,q,r2⟩:=r
 obtain⟨w,e2,q2⟩:=r2.one_of
 subst e2
 exact⟨v,w,e,q,q2⟩
theorem Jqe {fv:Value}{f:IV->IH->Res IV}(hh:∀(pins:List (Addr×Obj)) (s:Shared) (σ:L2.St) (H:Hp) (ι:List Addr) (σi:ISt) (h:IH) (x:IV) (xv:V) (u:Value) (Q:Value->Shared->Prop) (E:Value->Shared->Prop),Now ce X pins ι σi h σ H s->RelV xv u->RV X.K ι H x xv ->
  Kont ce X RU pins ι σi σ H (f x h) Q E->wpAny (model X.prog X.w) X.A (call fv [u]) Q E s):Ji3 ce X fv (on1 f):=by
 intro pins s σ H ι σi h xs us Q E N r K
 obtain⟨vs,rv,q⟩:=r
 match xs,K with
 | [x],K =>
  obtain⟨v,e,qx⟩:=q.one_of
  subst e
  obtain⟨u,rfl,ru⟩:=Jnq rv
  exact hh pins s σ H ι σi h x v u Q E N ru qx K
 | [],K=>exact Zf K
 | _::_::_,K=>exact Zf K
noncomputable def lenI:IV->IH->Res IV
 | .str x,h=>if x.length<=sizeLine then .ok (.int x.length) h else .stuck
 | .tup xs,h=>.ok (.int xs.length) h
 | .rol xs,h=>.ok (.int xs.length) h
 | .ref i,h=>match h[i]? with
  | some (.lst xs)=>.ok (.int xs.length) h
  | _=>.stuck
 | _,_=>.stuck
theorem c_len:Ji3 ce X (.builtin "len") (on1 lenI):=Jqe λ pins s σ H ι σi h x xv u Q E N ru qx K=>by
 cases x with
 | str y =>
  have e:xv=.str y:=qx
  subst e
  dsimp only[lenI] at K
  split at K
  ·rename_i hz
   exact Jar (Jjc (X:=X.wish E)) N.inv (.cons ru .nil) ⟨_,_,rfl,⟨hz,rfl⟩,fin0 N K rfl⟩
  ·exact Zf K
 | tup xs =>
  obtain⟨a,vs,e1,sa,ra⟩:=qx
  subst e1
  exact Jar (Jjc (X:=X.wish E)) N.inv (.cons ru .nil) ⟨_,xs.length,rfl,.inr ⟨vs,sa,ra.length.symm⟩,fin0 N K rfl⟩
 | rol xs =>
  obtain⟨a,vs,e1,sa,ra⟩:=qx
  subst e1
  exact Jar (Jjc (X:=X.wish E)) N.inv (.cons ru .nil) ⟨_,xs.length,rfl,.inl ⟨vs,sa.sq,ra.length.symm⟩,fin0 N K rfl⟩
 | ref i =>
  obtain⟨a,e1,ha⟩:=qx
  subst e1
  dsimp only[lenI] at K
  cases hi:h[i]? with
  | none=>rw[hi] at K;exact Zf K
  | some ob =>
   rw[hi] at K
   cases ob with
   | lst xs =>
    obtain⟨vs,e1,r1⟩:=N.at hi ha
    exact Jar (Jjc (X:=X.wish E)) N.inv (.cons ru .nil) ⟨_,xs.length,rfl,.inl ⟨vs,SqL.of e1,r1.length.symm⟩,fin0 N K rfl⟩
   | _=>exact Zf K
 | _=>exact Zf K
end
noncomputable def ALen (n:Nat) (m:A1):Prop:=∀σ h xs h',m σ h=.ok xs h'->xs.length=n
theorem Jx8:ALen 0 aNil:=λ _ _ xs _ e=>by
 unfold aNil at e
 cases e
 rfl
theorem Juj {n:Nat}{e:E1}{r:A1}(hr:ALen n r):ALen (n+1) (Ja e r):=λ σ h xs h' q=>by
 unfold Ja at q
 cases e1:e σ h with
 | ok x h1 =>
  rw[e1] at q
  change (r σ h1).bind (λ xs h2=>.ok (x::xs) h2)=_ at q
  cases e2:r σ h1 with
  | ok ys h2 =>
   rw[e2] at q
   cases q
   rw[List.length_cons,hr σ h1 ys _ e2]
  | exc n h2=>rw[e2] at q;cases q
  | stuck=>rw[e2] at q;cases q
 | exc n h1=>rw[e1] at q;cases q
 | stuck=>rw[e1] at q;cases q
theorem hl1 {n:Nat}{ma:A1}{ds:List Value}{ps:List Str}(l:ALen n ma) (hn:n+ds.length+1=ps.length:=by rfl):∀σ h xs h',ma σ h=.ok xs h'->xs.length+ds.length+1=ps.length:=λ σ h xs h' e=>by
 rw[l σ h xs h' e]
 exact hn
noncomputable def Jub (K:W.Frag) (x:Str) (f:List IV->IH->Res IV):Sp:=λ vs H Q E=>∀ce,spI ce K [x] f vs H Q E
theorem Jym {P:Program}{w:World}{K:W.Frag}{mg:Str->Option Value}{base:Heap}{k:Nat}{fa:Addr}{fd:FuncData}{x:Str}{f:List IV->IH->Res IV}{ce:Str->Option Addr}(F:FnOk P w K mg base (CXI P w) k fa fd [x] (spI ce K [x] f)) :
  FnOk P w K mg base (CXI P w) k fa fd [x] (Jub K x f):=F.imp λ _ _ _ _ h=>h ce
noncomputable def toD (h:IH):Nat->IV->Option PyData
 | 0=>λ v=>match v with
  | .non=>some .none
  | .bl b=>some (.bool b)
  | .int i=>some (.int i)
  | .str x=>some (.str x)
  | _=>none
 | n+1=>λ v=>match v with
  | .non=>some .none
  | .bl b=>some (.bool b)
  | .int i=>some (.int i)
  | .str x=>some (.str x)
  | .tup xs=>(xs.mapM (toD h n)).map .tuple
  | .rol xs=>(xs.mapM (toD h n)).map .list
  | .ref i=>match h[i]? with
   | some (.lst xs)=>(xs.mapM (toD h n)).map .list
   | _=>none
section
variable {ce:Str->Option Addr}{X:Cx}
theorem Jdw {pins:List (Addr×Obj)}{s:Shared}{σ:L2.St}{H:Hp}{ι:List Addr}{σi:ISt}{h:IH}{n:Nat}(N:Now ce X pins ι σi h σ H s)
  (ih:∀(v:IV) (d:PyData) (x:V) (u:Value),toD h n v=some d->RV X.K ι H v x->RelV x u->∃as,Reads s.heap u d as) :
  ∀(xs:List IV) (ds:List PyData) (vs:List V) (us:List Value),xs.mapM (toD h n)=some ds->RVs X.K ι H xs vs->Vals vs us->∃as,ReadsAll s.heap us ds as
 | [],ds,vs,us,e,q,r=>by
  have e1:vs=[]:=q
  subst e1
  cases r
  simp at e
  subst e
  exact⟨_,.nil⟩
 | x::xs,ds,vs,us,e,q,r=>by
  obtain⟨v,vr,e1,q1,q2⟩:=q
  subst e1
  cases r with
  | cons r1 r2 =>
   rw[List.mapM_cons] at e
   cases e2:toD h n x with
   | none=>rw[e2] at e;cases e
   | some d =>
    rw[e2] at e
    cases e3:xs.mapM (toD h n) with
    | none=>rw[e3] at e;cases e
    | some dr =>
     rw[e3] at e
     cases e
     obtain⟨as,h1⟩:=ih x d v _ e2 q1 r1
     obtain⟨bs,h2⟩:=Jdw N ih xs dr vr _ e3 q2 r2
     exact⟨_,.cons h1 h2⟩
theorem Jji {pins:List (Addr×Obj)}{s:Shared}{σ:L2.St}{H:Hp}{ι:List Addr}{σi:ISt}{h:IH}(N:Now ce X pins ι σi h σ H s):∀(n:Nat) (v:IV) (d:PyData) (x:V) (u:Value),toD h n v=some d->RV X.K ι H v x->RelV x u->∃as,Reads s.heap u d as:=by
 have flat:∀(v:IV) (d:PyData) (x:V) (u:Value),toD h 0 v=some d->RV X.K ι H v x->RelV x u->∃as,Reads s.heap u d as:=by
  intro v d x u e q r
  cases v with
  | non=>cases e;have e1:x=.non:=q;subst e1;cases r;exact⟨_,.none⟩
  | bl b=>cases e;have e1:x=.bl b:=q;subst e1;cases r;exact⟨_,.bool b⟩
  | int i=>cases e;have e1:x=.int i:=q;subst e1;obtain⟨t,rfl⟩:=r;exact⟨_,.int i t⟩
  | str z=>cases e;have e1:x=.str z:=q;subst e1;obtain⟨t,rfl⟩:=r;exact⟨_,.str z t⟩
  | _=>cases e
 intro n
 induction n with
 | zero=>exact flat
 | succ n ih =>
  intro v d x u e q r
  cases v with
  | non=>exact flat .non d x u e q r
  | bl b=>exact flat (.bl b) d x u e q r
  | int i=>exact flat (.int i) d x u e q r
  | str z=>exact flat (.str z) d x u e q r
  | tup xs =>
   obtain⟨a,vs,e1,sa,ra⟩:=q
   subst e1
   cases r
   obtain⟨ds,e2,rfl⟩:=Option.map_eq_some_iff.mp (show(xs.mapM (toD h n)).map PyData.tuple=some d from e)
   obtain⟨its,rv,⟨o,ho,hc,m,hd⟩,hz⟩:=N.inv.tuple sa
   obtain⟨as,h1⟩:=Jdw N ih xs ds vs its e2 ra rv
   exact⟨_,.tuple ho hc hd h1⟩
  | rol xs =>
   obtain⟨a,vs,e1,sa,ra⟩:=q
   subst e1
   cases r
   obtain⟨ds,e2,rfl⟩:=Option.map_eq_some_iff.mp (show(xs.mapM (toD h n)).map PyData.list=some d from e)
   obtain⟨its,rv,⟨o,m,ho,hc,_,hd⟩,hz⟩:=N.inv.list sa.sq
   obtain⟨as,h1⟩:=Jdw N ih xs ds vs its e2 ra rv
   exact⟨_,.list ho hc hd h1⟩
  | ref i =>
   obtain⟨a,e1,ha⟩:=q
   subst e1
   cases r
   have e':(match h[i]? with|some (.lst xs)=>(xs.mapM (toD h n)).map PyData.list|_=>none)=some d:=e
   cases hi:h[i]? with
   | none=>rw[hi] at e';cases e'
   | some ob =>
    rw[hi] at e'
    cases ob with
    | lst xs =>
     obtain⟨ds,e2,rfl⟩:=Option.map_eq_some_iff.mp e'
     obtain⟨vs,e1,r1⟩:=N.at hi ha
     obtain⟨its,rv,⟨o,m,ho,hc,_,hd⟩,hz⟩:=N.inv.list (SqL.of e1)
     obtain⟨as,h1⟩:=Jdw N ih xs ds vs its e2 r1 rv
     exact⟨_,.list ho hc hd h1⟩
    | _=>cases e'
theorem Jdu {n:Nat}{f:IV->Option PyData}(hf:∀v d,f v=some d->d.depth<=n):∀(xs:List IV) (ds:List PyData),xs.mapM f=some ds->PyData.depthAll ds<=n
 | [],ds,e=>by simp at e;subst e;exact Nat.zero_le _
 | x::xs,ds,e=>by
  rw[List.mapM_cons] at e
  cases e2:f x with
  | none=>rw[e2] at e;cases e
  | some d =>
   rw[e2] at e
   cases e3:xs.mapM f with
   | none=>rw[e3] at e;cases e
   | some dr =>
    rw[e3] at e
    cases e
    have h1:=hf x d e2
    have h2:=Jdu hf xs dr e3
    show max d.depth (PyData.depthAll dr)<=n
    omega
theorem Jpx {h:IH}:∀(n:Nat) (v:IV) (d:PyData),toD h n v=some d->d.depth<=n:=by
 intro n
 induction n with
 | zero =>
  intro v d e
  cases v<;>cases e<;>exact Nat.le_refl _
 | succ n ih =>
  intro v d e
  cases v with
  | non=>cases e;exact Nat.zero_le _
  | bl b=>cases e;exact Nat.zero_le _
  | int i=>cases e;exact Nat.zero_le _
  | str z=>cases e;exact Nat.zero_le _
  | tup xs =>
   obtain⟨ds,e2,rfl⟩:=Option.map_eq_some_iff.mp (show(xs.mapM (toD h n)).map PyData.tuple=some d from e)
   exact Nat.succ_le_succ (Jdu ih xs ds e2)
  | rol xs =>
   obtain⟨ds,e2,rfl⟩:=Option.map_eq_some_iff.mp (show(xs.mapM (toD h n)).map PyData.list=some d from e)
   exact Nat.succ_le_succ (Jdu ih xs ds e2)
  | ref i =>
   have e':(match h[i]? with|some (.lst xs)=>(xs.mapM (toD h n)).map PyData.list|_=>none)=some d:=e
   cases hi:h[i]? with
   | none=>rw[hi] at e';cases e'
   | some ob =>
    rw[hi] at e'
    cases ob with
    | lst xs =>
     obtain⟨ds,e2,rfl⟩:=Option.map_eq_some_iff.mp e'
     exact Nat.succ_le_succ (Jdu ih xs ds e2)
    | _=>cases e'
noncomputable def Jh0:IV->IV->Option Bool
 | .non,.non=>some true
 | .int i,.int j=>some (decide (i=j))
 | .str i,.str j=>some (decide (i=j))
 | .bl i,.bl j=>some (decide (i=j))
 | _,_=>none
noncomputable def Jic (x y:IV) (h:IH):Option Bool:=match toD h 6 x,toD h 6 y with
 | some a,some b=>if a.canLay0=true/\b.canLay0=true then some (PyData.eqv a b) else none
 | _,_=>none
noncomputable def cEq (x y:IV) (h:IH):Res IV:=match Jh0 x y with
 | some b=>.ok (.bl b) h
 | none=>match Jic x y h with
  | some b=>.ok (.bl b) h
  | none=>.stuck
noncomputable def cNe (x y:IV) (h:IH):Res IV:=match Jh0 x y with
 | some b=>.ok (.bl (!b)) h
 | none=>match Jic x y h with
  | some b=>.ok (.bl (!b)) h
  | none=>.stuck
theorem Jrz {x y:IV}{h:IH}{b:Bool}(e:Jic x y h=some b):∃da db,toD h 6 x=some da/\toD h 6 y=some db/\da.canLay0=true/\db.canLay0=true/\b=PyData.eqv da db:=by
 unfold Jic at e
 cases e1:toD h 6 x with
 | none=>rw[e1] at e;cases e
 | some da =>
  cases e2:toD h 6 y with
  | none=>rw[e1,e2] at e;cases e
  | some db =>
   rw[e1,e2] at e
   dsimp only at e
   split at e
   ·rename_i hz
    cases e
    exact⟨da,db,rfl,rfl,hz.1,hz.2,rfl⟩
   ·cases e
theorem Jpv {K:W.Frag}{ι:List Addr}{H:Hp}{x y:IV}{b:Bool}{xv yv:V}(e:Jh0 x y=some b) (qx:RV K ι H x xv) (qy:RV K ι H y yv):scal xv yv=true/\decide (xv=yv)=b:=by
 cases x with
 | non =>
  cases y with
  | non=>cases e;cases (show xv=.non from qx);cases (show yv=.non from qy);exact⟨rfl,rfl⟩
  | _=>cases e
 | int i =>
  cases y with
  | int j=>cases e;cases (show xv=.int i from qx);cases (show yv=.int j from qy);exact⟨rfl,by simp⟩
  | _=>cases e
 | str i =>
  cases y with
  | str j=>cases e;cases (show xv=.str i from qx);cases (show yv=.str j from qy);exact⟨rfl,by simp⟩
  | _=>cases e
 | bl i =>
  cases y with
  | bl j=>cases e;cases (show xv=.bl i from qx);cases (show yv=.bl j from qy);exact⟨rfl,by simp⟩
  | _=>cases e
 | _=>cases y<;>cases e
theorem o_eq (hu:X.A.units+64<cLine):OpI ce X (compareOp .Eq) cEq:=by
 intro pins s σ H ι σi h x y v u Q E N rx ry K
 obtain⟨xv,rx,qx⟩:=rx
 obtain⟨yv,ry,qy⟩:=ry
 unfold cEq at K
 cases es:Jh0 x y with
 | some b =>
  rw[es] at K
  obtain⟨h1,h2⟩:=Jpv es qx qy
  exact Ja9 (op_eq (X:=X.wish E)) N.inv rx ry ⟨h1,by rw[h2];exact fin0 N K rfl⟩
 | none =>
  rw[es] at K
  dsimp only at K
  cases ed:Jic x y h with
  | none=>rw[ed] at K;exact Zf K
  | some b =>
   rw[ed] at K
   obtain⟨da,db,e1,e2,c1,c2,rfl⟩:=Jrz ed
   obtain⟨as,r1⟩:=Jji N 6 x da xv v e1 qx rx
   obtain⟨bs,r2⟩:=Jji N 6 y db yv u e2 qy ry
   have d1:=Jpx 6 x da e1
   exact PySem.SeqAt.compareEq_reads r1 r2 c1 c2 (by omega) (fin0 N K rfl _ s N.inv rfl)
theorem o_ne (hu:X.A.units+64<cLine):OpI ce X (compareOp .NotEq) cNe:=by
 intro pins s σ H ι σi h x y v u Q E N rx ry K
 obtain⟨xv,rx,qx⟩:=rx
 obtain⟨yv,ry,qy⟩:=ry
 unfold cNe at K
 cases es:Jh0 x y with
 | some b =>
  rw[es] at K
  obtain⟨h1,h2⟩:=Jpv es qx qy
  exact Ja9 (op_ne (X:=X.wish E)) N.inv rx ry ⟨h1,by rw[h2];exact fin0 N K rfl⟩
 | none =>
  rw[es] at K
  dsimp only at K
  cases ed:Jic x y h with
  | none=>rw[ed] at K;exact Zf K
  | some b =>
   rw[ed] at K
   obtain⟨da,db,e1,e2,c1,c2,rfl⟩:=Jrz ed
   obtain⟨as,r1⟩:=Jji N 6 x da xv v e1 qx rx
   obtain⟨bs,r2⟩:=Jji N 6 y db yv u e2 qy ry
   have d1:=Jpx 6 x da e1
   exact PySem.SeqAt.compareNe_reads r1 r2 c1 c2 (by omega) (fin0 N K rfl _ s N.inv rfl)
noncomputable def inI (x c:IV) (h:IH):Option Bool:=match toD h 6 c,toD h 6 x with
 | some (.list ds),some d=>if PyData.canLayAll0 ds=true/\d.canLay0=true then some (ds.any λ y=>PyData.eqv y d) else none
 | some (.tuple ds),some d=>if PyData.canLayAll0 ds=true/\d.canLay0=true then some (ds.any λ y=>PyData.eqv y d) else none
 | _,_=>none
noncomputable def cIn (x c:IV) (h:IH):Res IV:=match inI x c h with
 | some b=>.ok (.bl b) h
 | none=>.stuck
noncomputable def cNotIn (x c:IV) (h:IH):Res IV:=match inI x c h with
 | some b=>.ok (.bl (!b)) h
 | none=>.stuck
noncomputable def isI:IV->IV->Option Bool
 | .non,.non=>some true
 | .bl a,.bl b=>some (a==b)
 | .bl _,.non=>some false
 | .int _,.non=>some false
 | .str _,.non=>some false
 | .tup _,.non=>some false
 | .rol _,.non=>some false
 | .ref _,.non=>some false
 | .non,.bl _=>some false
 | .int _,.bl _=>some false
 | .str _,.bl _=>some false
 | .tup _,.bl _=>some false
 | .rol _,.bl _=>some false
 | .ref _,.bl _=>some false
 | _,_=>none
noncomputable def cIs (x y:IV) (h:IH):Res IV:=match isI x y with
 | some b=>.ok (.bl b) h
 | none=>.stuck
noncomputable def Juw (x y:IV) (h:IH):Res IV:=match isI x y with
 | some b=>.ok (.bl (!b)) h
 | none=>.stuck
theorem J05 {K:W.Frag}{ι:List Addr}{H:Hp}{x y:IV}{b:Bool}{v u:Value}(e:isI x y=some b) (rx:RU K ι H x v) (ry:RU K ι H y u):plainIs v u=true/\(v==u)=b:=by
 obtain⟨xv,rx,qx⟩:=rx
 obtain⟨yv,ry,qy⟩:=ry
 cases y with
 | non =>
  cases (show yv=.non from qy)
  cases ry
  cases x with
  | non=>cases e;cases (show xv=.non from qx);cases rx;exact⟨rfl,rfl⟩
  | bl c=>cases e;cases (show xv=.bl c from qx);cases rx;exact⟨rfl,rfl⟩
  | int c=>cases e;cases (show xv=.int c from qx);obtain⟨t,rfl⟩:=rx;exact⟨rfl,rfl⟩
  | str c=>cases e;cases (show xv=.str c from qx);obtain⟨t,rfl⟩:=rx;exact⟨rfl,rfl⟩
  | tup c=>cases e;obtain⟨a,vs,rfl,_⟩:=qx;cases rx;exact⟨rfl,rfl⟩
  | rol c=>cases e;obtain⟨a,vs,rfl,_⟩:=qx;cases rx;exact⟨rfl,rfl⟩
  | ref c=>cases e;obtain⟨a,rfl,_⟩:=qx;cases rx;exact⟨rfl,rfl⟩
 | bl d =>
  cases (show yv=.bl d from qy)
  cases ry
  cases x with
  | non=>cases e;cases (show xv=.non from qx);cases rx;exact⟨rfl,rfl⟩
  | bl c=>cases e;cases (show xv=.bl c from qx);cases rx;cases c<;>cases d<;>exact⟨rfl,rfl⟩
  | int c=>cases e;cases (show xv=.int c from qx);obtain⟨t,rfl⟩:=rx;exact⟨rfl,rfl⟩
  | str c=>cases e;cases (show xv=.str c from qx);obtain⟨t,rfl⟩:=rx;exact⟨rfl,rfl⟩
  | tup c=>cases e;obtain⟨a,vs,rfl,_⟩:=qx;cases rx;exact⟨rfl,rfl⟩
  | rol c=>cases e;obtain⟨a,vs,rfl,_⟩:=qx;cases rx;exact⟨rfl,rfl⟩
  | ref c=>cases e;obtain⟨a,rfl,_⟩:=qx;cases rx;exact⟨rfl,rfl⟩
 | _=>cases x<;>cases e
theorem o_is:OpI ce X (compareOp .Is) cIs:=by
 intro pins s σ H ι σi h x y v u Q E N rx ry K
 unfold cIs at K
 cases ei:isI x y with
 | none=>rw[ei] at K;exact Zf K
 | some b =>
  rw[ei] at K
  obtain⟨h1,h2⟩:=J05 ei rx ry
  exact wpAny_is_plain h1 (by rw[h2];exact fin0 N K rfl _ s N.inv rfl)
theorem J28:OpI ce X (compareOp .IsNot) Juw:=by
 intro pins s σ H ι σi h x y v u Q E N rx ry K
 unfold Juw at K
 cases ei:isI x y with
 | none=>rw[ei] at K;exact Zf K
 | some b =>
  rw[ei] at K
  obtain⟨h1,h2⟩:=J05 ei rx ry
  exact wpAny_isNot_plain h1 (by rw[h2];exact fin0 N K rfl _ s N.inv rfl)
inductive Ty where
 | non|bl|int|str|lst|tup|dct|ins (c:Str)|exc (c:Str)
noncomputable def tyI:IV->IH->Option Ty
 | .non,_=>some .non
 | .bl _,_=>some .bl
 | .int _,_=>some .int
 | .str _,_=>some .str
 | .tup _,_=>some .tup
 | .rol _,_=>some .lst
 | .ref i,h=>match h[i]? with
  | some (.lst _)=>some .lst
  | some (.dct _)=>some .dct
  | some (.ins c _)=>some (.ins c)
  | some (.exc c _)=>some (.exc c)
  | some (.hld c _)=>some (.exc c)
  | _=>none
structure ClsI (K:W.Frag) (C:Addr):Prop where
 cl:Cls K C
 ha:W.findIn K (.ref C) "__class__"=some (some (.builtin "object.__class__"))
 hn:W.specialIn K (.builtin "object.__class__") "__get__"=some (some (.builtin "getset_descriptor.__get__"))
 htk:W.takesIn K (.builtin "object.__class__")=some true
 hm:W.mroIn K C (.type "object")=some true
structure IsOk (ce:Str->Option Addr) (K:W.Frag) (c:Value) (ans:Ty->Option Bool):Prop where
 non:∀b,ans .non=some b->W.kitOne K (.type "NoneType") c=some b
 bl:∀b,ans .bl=some b->W.kitOne K (.type "bool") c=some b
 int:∀b,ans .int=some b->W.kitOne K (.type "int") c=some b
 str:∀b,ans .str=some b->W.kitOne K (.type "str") c=some b
 lst:∀b,ans .lst=some b->W.kitOne K (.type "list") c=some b
 tup:∀b,ans .tup=some b->W.kitOne K (.type "tuple") c=some b
 dct:∀b,ans .dct=some b->W.kitOne K (.type "dict") c=some b
 ins:∀k C b,ans (.ins k)=some b->ce k=some C->ClsI K C/\W.kitOne K (.ref C) c=some b
 exc:∀k C b,ans (.exc k)=some b->W.nsIn K mainGlobals k=some (some (.ref C))->ExI K C/\W.kitOne K (.ref C) c=some b
noncomputable def eIsi (ans:Ty->Option Bool) (e:E1):E1:=λ σ h=>(e σ h).bind λ v h1=>match (tyI v h1).bind ans with
 | some b=>.ok (.bl b) h1
 | none=>.stuck
theorem J2v {pins:List (Addr×Obj)}{s:Shared}{σ:L2.St}{H:Hp}{ι:List Addr}{σi:ISt}{h:IH}{x:IV}{u c:Value}{ans:Ty->Option Bool}{b:Bool}{Q:Value->Shared->Prop}{E:Value->Shared->Prop}{A:Around}(N:Now ce X pins ι σi h σ H s) (rx:RU X.K ι H x u) (O:IsOk ce X.K c ans)
  (e:(tyI x h).bind ans=some b) (hq:∀tk,Q (.bool b) { s with toks:=tk }):wpAny (model X.prog X.w) A (call (.builtin "isinstance") [u,c]) Q E s:=by
 obtain⟨xv,rx,qx⟩:=rx
 cases x with
 | non=>cases (show xv=.non from qx);cases rx;exact W.kia_one W.kitx_none N.inv.kIn True.intro (O.non b e) (λ z=>nomatch z) hq
 | bl i=>cases (show xv=.bl i from qx);cases rx;exact W.kia_one W.kitx_bool N.inv.kIn True.intro (O.bl b e) (λ z=>nomatch z) hq
 | int i=>cases (show xv=.int i from qx);obtain⟨t,rfl⟩:=rx;exact W.kia_one W.kitx_int N.inv.kIn True.intro (O.int b e) (λ z=>nomatch z) hq
 | str i=>cases (show xv=.str i from qx);obtain⟨t,rfl⟩:=rx;exact W.kia_one W.kitx_str N.inv.kIn True.intro (O.str b e) (λ z=>nomatch z) hq
 | tup xs =>
  obtain⟨a,vs,rfl,sa,_⟩:=qx
  cases rx
  obtain⟨its,rv,⟨o,ho,hc,m,hd⟩,hz⟩:=N.inv.tuple sa
  exact W.kia_one W.kitx_tuple N.inv.kIn ⟨o,ho,hc⟩ (O.tup b e) (λ z=>nomatch z) hq
 | rol xs =>
  obtain⟨a,vs,rfl,sa,_⟩:=qx
  cases rx
  obtain⟨its,rv,⟨o,m,ho,hc,_,hd⟩,hz⟩:=N.inv.list sa.sq
  exact W.kia_one W.kitx_list N.inv.kIn ⟨o,ho,hc⟩ (O.lst b e) (λ z=>nomatch z) hq
 | ref i =>
  obtain⟨a,rfl,ha⟩:=qx
  cases rx
  cases hi:h[i]? with
  | none=>simp[tyI,hi] at e
  | some ob =>
   cases ob with
   | lst xs =>
    simp only[tyI,hi] at e
    obtain⟨vs,e1,r1⟩:=N.at hi ha
    obtain⟨its,rv,⟨o,m,ho,hc,_,hd⟩,hz⟩:=N.inv.list (SqL.of e1)
    exact W.kia_one W.kitx_list N.inv.kIn ⟨o,ho,hc⟩ (O.lst b e) (λ z=>nomatch z) hq
   | dct kvs =>
    simp only[tyI,hi] at e
    obtain⟨vs,e1,r1⟩:=N.at hi ha
    obtain⟨_,_,ws,_,p⟩:=(show Jbn X.prog X.w H s.heap a (.dK vs) from N.inv.hok a _ e1)
    obtain⟨o,es,ep,h1,h2,_⟩:=p
    exact W.kia_one W.kitx_dict N.inv.kIn ⟨o,h1,h2.1⟩ (O.dct b e) (λ z=>nomatch z) hq
   | ins c fs =>
    simp only[tyI,hi] at e
    obtain⟨C,dx,vs,hC,hH,rp⟩:=N.at hi ha
    obtain⟨I,hk⟩:=O.ins c C b e hC
    obtain⟨mA,Ob,_⟩:=Jm1 N.inv.hok hH
    obtain⟨od,J,_⟩:=Ob.look
    exact W.kia_one (W.kitx_own (I.cl.get _) I.cl.hd I.ha I.hn I.htk I.hm) N.inv.kIn J hk (λ z=>nomatch z) hq
   | exc c fs =>
    simp only[tyI,hi] at e
    obtain⟨C,tv,d,_,hC,hH,_⟩:=N.at hi ha
    obtain⟨I,hk⟩:=O.exc c C b e hC
    obtain⟨oe,vs,e1,e2,_⟩:=ExF.get N.inv.hok hH
    exact W.kia_one (Jr7 I) N.inv.kIn ⟨oe,e1,e2⟩ hk (λ z=>nomatch z) hq
   | hld c fs =>
    simp only[tyI,hi] at e
    obtain⟨C,oe,u,vs,_,hC,hH,e2,_⟩:=N.at hi ha
    obtain⟨I,hk⟩:=O.exc c C b e hC
    exact W.kia_one (Jr7 I) N.inv.kIn ⟨oe,(N.inv.hok a _ hH).1,e2⟩ hk (λ z=>nomatch z) hq
   | tab q=>simp[tyI,hi] at e
variable {a cx:Expr}{ma:E1}{pos p:Pos}
noncomputable def ClsE (X:Cx) (cx:Expr) (c:Value):Prop:=∀(pins:List (Addr×Obj)) (σ:L2.St) (H:Hp) (s:Shared) (Q:Value->Shared->Prop) (E:Value->Shared->Prop),Inv X pins σ H s->Q c s->wpAny (model X.prog X.w) X.A (eval cx X.env) Q E s
theorem Jgb {x:Str}{c:Value}(hg:Gl X x) (hm:X.mg x=none) (hv:bootBuiltins x=some c) (hn:x≠"__name__":=by decide) (hdb:(x==("__debug__":Str))=false:=by decide):ClsE X (.Name x p) c:=λ _ _ _ _ _ _ I q=>Jcp I hg hm hv q hn hdb
theorem Jqh {x:Str}{c:Value}(hg:Gl X x) (hm:X.mg x=some c) (hdb:(x==("__debug__":Str))=false:=by decide):ClsE X (.Name x p) c:=λ _ _ _ _ _ _ I q=>Jdv I hg hm q hdb
theorem J5u {ans:Ty->Option Bool}{c:Value}(hc:ClsE X cx c) (O:IsOk ce X.K c ans) (ha:PEi ce X a ma) (hg:Gl X "isinstance") (hm:X.mg "isinstance"=none) (hv:bootBuiltins "isinstance"=some (.builtin "isinstance"):=by rfl)
  (he:starEach [a,cx] X.env=(false,eval a X.env)::starEach [cx] X.env:=by rfl) (he2:starEach [cx] X.env=(false,eval cx X.env)::starEach [] X.env:=by rfl) (hpl:(backTo pos (starEach [cx] X.env)).any (·.1)=false:=by rfl):PEi ce X (.Call (.Name "isinstance" p) [a,cx] [] pos) (eIsi ans ma):=by
 intro pins s σ H ι σi h Q E N K
 refine wpAny_Call_Name_kw (Jcp N.inv hg hm hv ?_ (by decide) (by decide))
 refine PyProof.Rows.callWith_builtin1 ?_ he hpl
 rw[he]
 show wpAny _ _ (spliced ((false,eval a X.env)::backTo pos (starEach [cx] X.env))) _ _ s
 refine Calls.spliced_cons (ha.run N K λ x h1 u s1 H1 ι1 N1 n1 r1 K1=>?_)
 rw[he2]
 show wpAny _ _ (spliced ((false,eval cx X.env)::backTo pos (starEach [] X.env))) _ _ s1
 refine Calls.spliced_cons (hc pins σ H1 s1 _ E N1.inv ?_)
 refine Calls.spliced_nil ?_
 cases e:(tyI x h1).bind ans with
 | none=>rw[e] at K1;exact Zf K1
 | some b =>
  rw[e] at K1
  exact J2v N1 r1 O e λ tk=>K1 _ _ H1 ι1 ⟨N1.inv.tok tk,N1.rel,N1.st⟩ .refl ⟨.bl b,rfl,rfl⟩
noncomputable def Jfr:Ty->Option Bool
 | .int=>some true|.bl=>some true|.ins _=>none|.exc _=>none|_=>some false
noncomputable def Jbp:Ty->Option Bool
 | .bl=>some true|.ins _=>none|.exc _=>none|_=>some false
noncomputable def Jgm:Ty->Option Bool
 | .str=>some true|.ins _=>none|.exc _=>none|_=>some false
noncomputable def Jbq:Ty->Option Bool
 | .lst=>some true|.ins _=>none|.exc _=>none|_=>some false
noncomputable def Jfs:Ty->Option Bool
 | .tup=>some true|.ins _=>none|.exc _=>none|_=>some false
theorem Jv0 {K:W.Frag}:IsOk ce K (.type "bool") Jbp:=by
 refine⟨?_,?_,?_,?_,?_,?_,?_,(λ k C b e=>by cases e),(λ k C b e=>by cases e)⟩<;>(intro b e;cases e;first|rfl|with_unfolding_all rfl|kernel_rfl)
theorem Jyz {K:W.Frag}:IsOk ce K (.type "str") Jgm:=by
 refine⟨?_,?_,?_,?_,?_,?_,?_,(λ k C b e=>by cases e),(λ k C b e=>by cases e)⟩<;>(intro b e;cases e;first|rfl|with_unfolding_all rfl|kernel_rfl)
theorem Jot {K:W.Frag}:IsOk ce K (.type "list") Jbq:=by
 refine⟨?_,?_,?_,?_,?_,?_,?_,(λ k C b e=>by cases e),(λ k C b e=>by cases e)⟩<;>(intro b e;cases e;first|rfl|with_unfolding_all rfl|kernel_rfl)
theorem Jy0 {K:W.Frag}:IsOk ce K (.type "tuple") Jfs:=by
 refine⟨?_,?_,?_,?_,?_,?_,?_,(λ k C b e=>by cases e),(λ k C b e=>by cases e)⟩<;>(intro b e;cases e;first|rfl|with_unfolding_all rfl|kernel_rfl)
theorem Jyy {K:W.Frag}:IsOk ce K (.type "int") Jfr:=by
 refine⟨?_,?_,?_,?_,?_,?_,?_,(λ k C b e=>by cases e),(λ k C b e=>by cases e)⟩<;>(intro b e;cases e;first|rfl|with_unfolding_all rfl|kernel_rfl)
end
noncomputable def clOf (cells:List (Str×Addr)):List (Str×NameKind)->List (Str×Addr)->List (Str×Addr)
 | [],acc=>acc
 | (n,k)::r,acc=>clOf cells r (if (k==NameKind.free)=true then(match cells.lookup n with|some c=>(n,c)::acc|none=>acc) else acc)
theorem Jk3 {env:Env}(names:List (Str×NameKind)) (acc:List (Str×Addr)) (h:∀x∈names,x.2=.free->∃c,env.cells.lookup x.1=some c) :
  (forIn names acc (λ (x:Str×NameKind) (r:List (Str×Addr))=>if (x.2==NameKind.free)=true then(do let c<-cellOf env x.1;pure (ForInStep.yield ((x.1,c)::r))) else pure (ForInStep.yield r)):Sem (List (Str×Addr)))=pure (clOf env.cells names acc):=by
 induction names generalizing acc with
 | nil=>rfl
 | cons x r ih =>
  obtain⟨n,k⟩:=x
  have ih':=λ a=>ih a λ y hy=>h y (List.mem_cons_of_mem _ hy)
  rw[List.forIn_cons]
  by_cases hk:(k==NameKind.free)=true
  ·have hk':k=.free:=by
    cases k<;>first|rfl|exact absurd hk (by decide)
   obtain⟨c,hc⟩:=h (n,k) List.mem_cons_self hk'
   have e1:cellOf env n=pure c:=by unfold cellOf;rw[hc]
   simp only[hk,if_true,e1,pure_bind]
   rw[ih']
   simp only[clOf,hk,if_true,hc]
  ·simp only[hk,Bool.false_eq_true,if_false,pure_bind]
   rw[ih']
   simp only[clOf,hk,Bool.false_eq_true,if_false]
theorem Jhh {scope:Scope}{env:Env}(h:∀x∈scope.names,x.2=.free->∃c,env.cells.lookup x.1=some c):closureFor scope env=pure (clOf env.cells scope.names []):=by
 have e:=Jk3 (env:=env) scope.names [] h
 have e2:closureFor scope env=((forIn scope.names [] (λ (x:Str×NameKind) (r:List (Str×Addr))=>if (x.2==NameKind.free)=true then(do let c<-cellOf env x.1;pure (ForInStep.yield ((x.1,c)::r))) else pure (ForInStep.yield r)):Sem (List (Str×Addr)))>>=λ s=>pure s):=rfl
 rw[e2,e]
 rfl
theorem Jms {cells:List (Str×Addr)}:∀(names:List (Str×NameKind)) (acc:List (Str×Addr)),(∀x c,acc.lookup x=some c->cells.lookup x=some c)->∀x c,(clOf cells names acc).lookup x=some c->cells.lookup x=some c
 | [],_,h,x,c,e=>h x c e
 | (n,k)::r,acc,h,x,c,e=>by
  refine Jms r _ ?_ x c e
  intro y d q
  split at q
  ·cases hc:cells.lookup n with
   | none=>rw[hc] at q;exact h y d q
   | some a =>
    rw[hc] at q
    simp only[List.lookup_cons] at q
    cases hb:y==n with
    | true =>
     rw[hb] at q
     cases q
     rw[beq_iff_eq.mp hb]
     exact hc
    | false =>
     rw[hb] at q
     exact h y d q
  ·exact h y d q
theorem Jn6 {cells:List (Str×Addr)}:∀(names:List (Str×NameKind)) (acc:List (Str×Addr)) (x:Str),(acc.lookup x).isSome=true->((clOf cells names acc).lookup x).isSome=true
 | [],_,_,h=>h
 | (n,k)::r,acc,x,h=>by
  refine Jn6 r _ x ?_
  split
  ·cases hc:cells.lookup n with
   | none=>exact h
   | some a =>
    simp only[List.lookup_cons]
    cases hb:x==n with
    | true=>rfl
    | false=>exact h
  ·exact h
theorem Jhg {cells:List (Str×Addr)}:∀(names:List (Str×NameKind)) (acc:List (Str×Addr)) (x:Str) (c:Addr),(x,NameKind.free)∈names->cells.lookup x=some c->((clOf cells names acc).lookup x).isSome=true
 | [],_,_,_,h,_=>by simp at h
 | (n,k)::r,acc,x,c,h,hc=>by
  rcases List.mem_cons.mp h with e|e
  ·obtain⟨rfl,rfl⟩:=Prod.mk.inj e
   refine Jn6 r _ _ ?_
   simp[hc]
  ·exact Jhg r _ x c e hc
theorem Jcf {env:Env}:∀{names:List (Str×NameKind)}{x:Str}{k:NameKind},
  (names.map λ (n,k)=>if (k==NameKind.free&&env.scope.kind==.function&&env.kindOf n==some .cell) then(n,NameKind.cell) else(n,k)).lookup x=some k ->
  ∃k0,names.lookup x=some k0/\(k,k0)∈([(k0,k0),(.cell,.free)]:List (NameKind×NameKind))
 | [],_,_,h=>by simp at h
 | (n,k1)::r,x,k,h=>by
  have ih:=@Jcf env r x k
  have h':List.lookup x ((if (k1==NameKind.free&&env.scope.kind==.function&&env.kindOf n==some .cell)=true then(n,NameKind.cell) else(n,k1))::_)=some k:=h
  cases hx:x==n with
  | true =>
   refine⟨k1,by simp[List.lookup_cons,hx],?_⟩
   by_cases hc:(k1==NameKind.free&&env.scope.kind==.function&&env.kindOf n==some .cell)=true
   ·rw[if_pos hc] at h'
    simp only[List.lookup_cons,hx] at h'
    cases h'
    simp only[Bool.and_eq_true,beq_iff_eq] at hc
    rw[hc.1.1]
    simp
   ·rw[if_neg hc] at h'
    simp only[List.lookup_cons,hx] at h'
    cases h'
    simp
  | false =>
   have h2:List.lookup x (r.map λ (n,k)=>if (k==NameKind.free&&env.scope.kind==.function&&env.kindOf n==some .cell) then(n,NameKind.cell) else(n,k))=some k:=by
    by_cases hc:(k1==NameKind.free&&env.scope.kind==.function&&env.kindOf n==some .cell)=true
    ·rw[if_pos hc] at h';simpa only[List.lookup_cons,hx] using h'
    ·rw[if_neg hc] at h';simpa only[List.lookup_cons,hx] using h'
   obtain⟨k0,e,m⟩:=ih h2
   exact⟨k0,by simp only[List.lookup_cons,hx];exact e,m⟩
theorem Jiy {env:Env}:∀{names:List (Str×NameKind)}{x:Str},names.lookup x=some .free ->
  ∃k,(names.map λ (n,k)=>if (k==NameKind.free&&env.scope.kind==.function&&env.kindOf n==some .cell) then(n,NameKind.cell) else(n,k)).lookup x=some k/\(k=.cell∨k=.free)
 | [],_,h=>by simp at h
 | (n,k1)::r,x,h=>by
  have ih:=@Jiy env r x
  cases hx:x==n with
  | true =>
   simp only[List.lookup_cons,hx] at h
   cases h
   by_cases hc:(NameKind.free==NameKind.free&&env.scope.kind==.function&&env.kindOf n==some .cell)=true
   ·exact⟨.cell,by rw[List.map_cons];dsimp only;rw[if_pos hc];simp only[List.lookup_cons,hx],.inl rfl⟩
   ·exact⟨.free,by rw[List.map_cons];dsimp only;rw[if_neg hc];simp only[List.lookup_cons,hx],.inr rfl⟩
  | false =>
   simp only[List.lookup_cons,hx] at h
   obtain⟨k,e,q⟩:=ih h
   refine⟨k,?_,q⟩
   rw[List.map_cons]
   dsimp only
   by_cases hc:(k1==NameKind.free&&env.scope.kind==.function&&env.kindOf n==some .cell)=true
   ·rw[if_pos hc];simp only[List.lookup_cons,hx];exact e
   ·rw[if_neg hc];simp only[List.lookup_cons,hx];exact e
noncomputable def cxC (X:Cx) (N':List Str) (scope:Scope) (C:Addr) (s:Shared) (H:Hp) (fp:List Addr):Cx :=
 { X with N:=N',s₀:=s,H₀:=H,env:=compEnvC scope (clOf X.env.cells scope.names []) C X.env,outer:=X.stack,ex:=fp,fn:=λ _=>false,pn:=[] }
noncomputable def Jd2 (N0 loc caps:List Str) (js:List Nat) (sc₀ scope:Scope):Bool :=
 decide (scope.kind=.function)&&decide (sc₀.kind=.function)&&scope.names.all (λ x=>!(x.2==.cell))&&scope.names.all (λ x=>!(x.2==.local)||decide (scope.names.lookup x.1=some .local)) &&
 scope.names.all (λ x=>!(x.2==.free)||decide (sc₀.names.lookup x.1=some .cell)||decide (sc₀.names.lookup x.1=some .free)) &&
 scope.names.all (λ x=>!(decide (scope.names.lookup x.1=some .free))||(x.2==.free)) &&
 (js.zip caps).all (λ p=>decide (N0[p.1]?=some p.2)&&decide (scope.names.lookup p.2=some .free))&&decide (js.length=caps.length)&&decide (loc++caps).Nodup &&
 loc.all (λ n=>decide (scope.names.lookup n=some .local))
open Classical in
noncomputable def Jd7 (chk:IH->Prop) (g:G1) (t:T1) (e:E1) (i0:Nat):List IV->ISt->IH->Res IV
 | [],_,h=>if chk h then .ok (.ref i0) h else .stuck
 | x::xs,σ,h=>if chk h then(match g x σ h with
   | .next σ1 h1=>(match t σ1 h1 with
    | .ok true h2=>(match e σ1 h2 with
     | .ok v h3=>(match h3[i0]? with
      | some (.lst acc)=>if acc.length<sizeLine then Jd7 chk g t e i0 xs σ1 (h3.set i0 (.lst (acc++[v]))) else .stuck
      | _=>.stuck)
     | _=>.stuck)
    | .ok false h2=>Jd7 chk g t e i0 xs σ1 h2
    | _=>.stuck)
   | _=>.stuck) else .stuck
noncomputable def stC (nloc:Nat) (js:List Nat) (σ:ISt):ISt:=List.replicate nloc none++js.map λ j=>(σ[j]?).join
noncomputable def Jx (it:I1) (nloc:Nat) (js:List Nat) (g:G1) (t:T1) (e:E1):E1:=λ σ h=>(it σ h).bind λ J h1=>Jd7 J.chk g t e h1.length J.xs (stC nloc js σ) (h1++[.lst []])
theorem Jn8 {prog:Program}{w:World}{A:Around}{R:Result->Shared->Prop}{s:Shared}{elt target iter:Expr}{ifs:List Expr}{scope:Scope}{pos:Pos}{it acc:Value}{env:Env}(I:Nat->Shared->Prop)
  (turn:∀n s,I n s->wpAny (model prog w) A (pyNext it) (λ r s₁=>match r with
   | none=>R (.ok .next) s₁
   | some v=>wpAny (model prog w) A (letOwnedTupleGo target it v) (λ _ s₁'=>wpAny (model prog w) A (assign target env v) (λ _ s₂ =>
     wpAny (model prog w) A (forIn ifs true λ c r=>if r=true then do let ok<-isTrue c env (eval c env);pure (ForInStep.yield ok) else pure (ForInStep.yield r)) (λ ok s₃ =>
      if ok=true then wpAny (model prog w) A (eval elt env) (λ x s₄ =>
       wpAny (model prog w) A (call (.builtin "list.append") [acc,x]) (λ _ s₅=>∃m,m<n/\I m s₅) (λ _ _=>False) s₄) (λ _ _=>False) s₃
      else ∃m,m<n/\I m s₃) (λ _ _=>False) s₂) (λ _ _=>False) s₁') (λ _ _=>False) s₁) (λ _ _=>False) s)
  (n:Nat) (h:I n s):codeAny (model prog w) A (.compLoop (.ListComp elt [⟨target,iter,ifs,0⟩] scope pos) 0 it acc env) R s:=by
 refine codeAny_loop rfl I (λ n s hI=>?_) n h
 show wpAny _ A ((compTurn (.ListComp elt [⟨target,iter,ifs,0⟩] scope pos) 0 it acc env).onRaise (λ x=>do noteFrame x env;theTreesLotGoes x)) _ _ s
 refine wpAny_noted (nof ?_)
 rw[compTurn_list]
 refine wpAny_bind (wpAny_standAt (wpAny_bind (wpAny_mono (turn n s hI) (λ r s₁ h₁=>?_) λ _ _ h'=>h')))
 cases r with
 | none=>exact wpAny_pure h₁
 | some v =>
  refine wpAny_bind (wpAny_mono h₁ (λ _ s₁' h₁'=>?_) λ _ _ h'=>h')
  refine wpAny_bind (wpAny_mono h₁' (λ _ s₂ h₂=>wpAny_bind (wpAny_mono h₂ (λ ok s₃ h₃=>?_) λ _ _ h'=>h')) λ _ _ h'=>h')
  cases ok with
  | false=>exact wpAny_pure ⟨rfl,h₃⟩
  | true =>
   exact wpAny_bind (wpAny_bind (wpAny_mono h₃ (λ x s₄ h₄=>wpAny_bind (wpAny_mono h₄ (λ _ s₅ h₅=>wpAny_pure (wpAny_pure ⟨rfl,h₅⟩)) λ _ _ h'=>h')) λ _ _ h'=>h'))
noncomputable def PTsi (ce:Str->Option Addr) (X:Cx) (ifs:List Expr) (m:T1):Prop:=PX ce X RB (forIn ifs true λ c r=>if r=true then do let ok<-isTrue c X.env (eval c X.env);pure (ForInStep.yield ok) else pure (ForInStep.yield r)) m
noncomputable def Jay:T1:=λ _ h=>.ok true h
theorem J1n {ce:Str->Option Addr}{X:Cx}:PTsi ce X [] Jay:=λ _ s _ H ι _ _ _ _ N K=>wpAny_tests_nil (K true s H ι N .refl rfl)
theorem J1o {ce:Str->Option Addr}{X:Cx}{c:Expr}{m:T1}(hc:PTi ce X c m):PTsi ce X [c] m:=λ pins s σ H ι σi h Q E N K=>wpAny_tests_one (hc pins s σ H ι σi h Q E N K)
noncomputable def Jmf (ce:Str->Option Addr) (X:Cx) (use:Option (Value->Sem Unit)) (pins:List (Addr×Obj)) (ι:List Addr) (σi:ISt) (σ:L2.St) (H:Hp) (r:Res IV) (Q:Value->Shared->Prop) (E:Value->Shared->Prop):Prop :=
 match r with
 | .ok v h'=>∀D C m s' H' ι',Now ce X pins ι' σi h' σ H' s'->Nxt ι H ι' H'->RU X.K ι' H' v (.ref D)->s'.heap.Ns C m->FpOk X pins H' C->compPost (model X.prog X.w) X.A E use Q (.ref D) C (.ok .next) s'
 | .exc n h'=>∀pl a s' H' ι',Now ce X (pins++pl) ι' σi h' σ H' s'->Nxt ι H ι' H'->ι'[n]?=some a->E (.ref a) s'
 | .stuck=>False
theorem Jmf.mono {ce:Str->Option Addr}{X:Cx}{use:Option (Value->Sem Unit)}{pins:List (Addr×Obj)}{ι ι':List Addr}{σi:ISt}{σ:L2.St}{H H':Hp}{r:Res IV}{Q:Value->Shared->Prop}{E:Value->Shared->Prop}(k:Jmf ce X use pins ι σi σ H r Q E) (n:Nxt ι H ι' H'):Jmf ce X use pins ι' σi σ H' r Q E:=by
 cases r with
 | ok v h'=>exact λ D C m s' H2 ι2 N n2 q=>k D C m s' H2 ι2 N (n.trans n2) q
 | exc m h'=>exact λ pl a s' H2 ι2 N n2 q=>k pl a s' H2 ι2 N (n.trans n2) q
 | stuck=>exact k
noncomputable def Warm (A:Around) (H:Hp):Prop:=∃a oe u vs,A.handled=some (.ref a)/\H a=some (.frz oe u)/\oe.data=.fields vs/\vs[2]?=some .none
theorem Warm.mono {A:Around}{H H':Hp}(x:Ext H H') (w:Warm A H):Warm A H':=let ⟨a,oe,u,vs,e1,e2,e3,e4⟩:=w;⟨a,oe,u,vs,e1,x.frzs _ _ _ e2,e3,e4⟩
structure TurnC (P:Program) (w:World) (C:Cx->Hp->Prop) (tg:Expr) (J:It) (fp:List Addr) (it:Addr) (tn:Nat->Heap->Prop):Prop where
 obj:∀i h,tn i h->∀b∈fp,∃o,h.get? b=some o/\∀v,o.data≠.cell v
 keep:∀i h h',tn i h->(∀b∈fp,∀o,h.get? b=some o->h'.get? b=some o)->tn i h'
 item:∀(X:Cx) (i:Nat) (s:Shared) (σ:L2.St) (H:Hp),C X H->Inv X [] σ H s->(∀b∈fp,FpOk X [] H b)->tn i s.heap->J.go i H ->
  wpAny (model P w) X.A (pyNext (.ref it)) (λ r s1=>∃u,r=some u/\wpAny (model P w) X.A (letOwnedTupleGo tg (.ref it) u) (λ _ s2=>∃x H',Inv X [] σ H' s2/\RelV x u/\J.yld i H x H'/\tn (i+1) s2.heap/\∀b∈fp,H' b=none) (λ _ _=>False) s1) (λ _ _=>False) s
 done:∀(X:Cx) (i:Nat) (s:Shared) (σ:L2.St) (H:Hp),C X H->Inv X [] σ H s->(∀b∈fp,FpOk X [] H b)->tn i s.heap->J.stop i H->wpAny (model P w) X.A (pyNext (.ref it)) (λ r s1=>r=none/\Inv X [] σ H s1) (λ _ _=>False) s
 self:∀(A:Around) (i:Nat) (s:Shared) (Q:Value->Shared->Prop) (E:Value->Shared->Prop),tn i s.heap->Q (.ref it) s->wpAny (model P w) A (pyIter (.ref it)) Q E s
noncomputable def CalmC (X0:Cx) (X:Cx) (_:Hp):Prop:=X.prog=X0.prog/\X.w=X0.w/\X.K=X0.K/\X.calm=true
noncomputable def RItC (C:Cx->Hp->Prop) (ce:Str->Option Addr) (X:Cx) (tg:Expr) (pins:List (Addr×Obj)) (ι':List Addr) (I:ItI) (itv:Value) (s2:Shared) (H':Hp):Prop :=
 ∃(it:Addr) (fp:List Addr) (tn:Nat->Heap->Prop) (J:It),itv=.ref it/\TurnC X.prog X.w C tg J fp it tn/\tn 0 s2.heap/\(∀b∈fp,FpOk X pins H' b)/\ItOk ce X.K ι' H' J I
noncomputable def PIc (C:Cx->Hp->Prop) (ce:Str->Option Addr) (X:Cx) (tg iter:Expr) (m:I1):Prop :=
 ∀(pins:List (Addr×Obj)) (s:Shared) (σ:L2.St) (H:Hp) (ι:List Addr) (σi:ISt) (h:IH) (Q:Value->Shared->Prop) (E:Value->Shared->Prop),Now ce X pins ι σi h σ H s ->
  (match m σi h with
   | .ok I h'=>∀itv s' H' ι',Now ce X pins ι' σi h' σ H' s'->Nxt ι H ι' H'->RItC C ce X tg pins ι' I itv s' H'->Q itv s'
   | .exc n h'=>∀pl a s' H' ι',Now ce X (pins++pl) ι' σi h' σ H' s'->Nxt ι H ι' H'->ι'[n]?=some a->E (.ref a) s'
   | .stuck=>False) ->
  wpAny (model X.prog X.w) X.A (eval iter X.env) (λ v s1=>wpAny (model X.prog X.w) X.A (pyIter v) Q E s1) E s
theorem PIi.c {ce:Str->Option Addr}{X:Cx}{tg iter:Expr}{m:I1}(p:PIi ce X tg iter m):PIc (CalmC X) ce X tg iter m:=λ pins s σ H ι σi h Q E N k=>p pins s σ H ι σi h Q E N (by
 cases e:m σi h with
 | exc n h'=>rw[e] at k;exact k
 | stuck=>rw[e] at k;exact k
 | ok I h' =>
  rw[e] at k
  intro itv s' H' ι' N' n' ⟨it,fp,tn,J,e1,T,r⟩
  refine k itv s' H' ι' N' n' ⟨it,fp,tn,J,e1,⟨T.obj,T.keep,λ X' i s σ H c=>?_,λ X' i s σ H c=>?_,T.self⟩,r⟩
  ·exact T.item X' c.1 c.2.1 c.2.2.1 c.2.2.2 i [] s σ H _
  ·exact T.done X' c.1 c.2.1 c.2.2.1 c.2.2.2 i [] s σ H _)
section
variable {ce:Str->Option Addr}{X:Cx}
theorem Jn9 {N0 loc caps:List Str}{js:List Nat}{sc₀ scope:Scope}{tg iter elt:Expr}{ifs:List Expr}{mi:I1}{g:G1}{mt:T1}{me:E1}{pos ppos:Pos}{use:Option (Value->Sem Unit)}{Cc:Cx->Hp->Prop}(hi:PIc Cc ce X tg iter mi)
  (hg:∀C s H fp,PGi ce (cxC X (loc++caps) scope C s H fp) tg g) (ht:∀C s H fp,PTsi ce (cxC X (loc++caps) scope C s H fp) ifs mt) (he:∀C s H fp,PEi ce (cxC X (loc++caps) scope C s H fp) elt me)
  (ok:Jd2 N0 loc caps js sc₀ scope=true) (hN0:X.N=N0:=by rfl) (hsc:X.env.scope=sc₀:=by rfl) (hs:∀x,foldedSetIterable iter X.env x=pure x:=by intro _;rfl)
  {pins:List (Addr×Obj)}{s:Shared}{σ:L2.St}{H:Hp}{ι:List Addr}{σi:ISt}{h:IH}{Q:Value->Shared->Prop}{E:Value->Shared->Prop}(hcc:∀C s H1 fp H',Ext H H'->Cc (cxC X (loc++caps) scope C s H1 fp) H') (N:Now ce X pins ι σi h σ H s) (K:Jmf ce X use pins ι σi σ H (Jx mi loc.length js g mt me σi h) Q E) :
  wpAny (model X.prog X.w) X.A (comprehension (.ListComp elt [⟨tg,iter,ifs,0⟩] scope pos) scope X.env ppos (newList []) false (eval iter X.env) use) Q E s:=by
 simp only[Jd2,Bool.and_eq_true,decide_eq_true_eq,List.all_eq_true,Bool.not_eq_true',Bool.or_eq_true,beq_iff_eq,beq_eq_false_iff_ne] at ok
 obtain⟨⟨⟨⟨⟨⟨⟨⟨⟨kF,kF0⟩,kNC⟩,kL⟩,kFr⟩,kFx⟩,kJ⟩,kLen⟩,kNd⟩,kLo⟩:=ok
 have hfree:∀x∈scope.names,x.2=.free->X.env.kindOf x.1=some .cell∨X.env.kindOf x.1=some .free:=λ x hx hk=>by
  have e:X.env.kindOf x.1=sc₀.names.lookup x.1:=by rw[<- hsc];rfl
  rw[e]
  rcases kFr x hx with(z|z)|z
  ·exact absurd hk z
  ·exact .inl z
  ·exact .inr z
 have hclos:closureFor scope X.env=pure (clOf X.env.cells scope.names []):=Jhh λ x hx hk=>N.inv.ok.has x.1 (hfree x hx hk)
 refine wpAny_comprehension_free (use:=use) (e:=.ListComp elt [⟨tg,iter,ifs,0⟩] scope pos) rfl hs hclos kF (λ x hx hl=>(kL x hx).resolve_left λ z=>z hl) ?_
 refine hi pins s σ H ι σi h _ E N ?_
 unfold Jx at K
 cases e0:mi σi h with
 | exc n h'=>rw[e0] at K;exact K
 | stuck=>rw[e0] at K;exact K
 | ok Jt h1 =>
  rw[e0] at K
  intro itv s1 H1 ι1 N1 n1 RI
  obtain⟨it,fp,tn,J,e,T,st1,f1,OK⟩:=RI
  subst e
  -- the list
  refine wpAny_newObj_type ?_
  have fresh1:H1 s1.heap.objs.size=none:=N1.inv.hok.fresh (Nat.le_refl _)
  have I2:Inv X pins σ (upd H1 s1.heap.objs.size (.lst [])) { s1 with heap:=s1.heap.push { cls:=.type "list",dict:=none,data:=.seq ([]:List Value).toArray } } :=
   N1.inv.laid (t':=s1.toks) (λ b u e=>Heap.get?_push_of_some _ e) (Nat.le_refl _) ⟨Nat.zero_le _,[],0,.nil,Heap.get?_push_size _ rfl⟩
  obtain⟨R2,n2⟩:=N1.rel.alloc (o:=.lst []) (io:=.lst []) fresh1 ⟨[],Je,rfl⟩
  generalize hs2:({ s1 with heap:=s1.heap.push { cls:=.type "list",dict:=none,data:=.seq ([]:List Value).toArray } }:Shared)=s2 at I2 ⊢
  generalize hD:s1.heap.objs.size=D at *
  generalize hH2:upd H1 D (.lst [])=H2 at *
  have N2:Now ce X pins (ι1++[D]) σi (h1++[.lst []]) σ H2 s2:=⟨I2,R2,N1.st.mono n2⟩
  have keep12:∀b o,s1.heap.get? b=some o->s2.heap.get? b=some o:=λ b o q=>by rw[<- hs2];exact Heap.get?_push_of_some _ q
  have st2:tn 0 s2.heap:=T.keep 0 _ _ st1 λ b _ o q=>keep12 b o q
  have hat:(ι1++[D])[h1.length]?=some D:=by
   rw[<- N1.rel.len,List.getElem?_append_right (Nat.le_refl _)]
   simp
  have f2:∀b∈fp,FpOk X pins H2 b:=λ b hb=>by
   refine⟨?_,(f1 b hb).2⟩
   obtain⟨o,ho,_⟩:=T.obj 0 _ st1 b hb
   have:b≠D:=Nat.ne_of_lt (by rw[<- hD];exact Heap.lt_size ho)
   rw[<- hH2,Jg this]
   exact(f1 b hb).1
  -- the block's own dict
  refine wpAny_newFunctionEnv (λ x hx=>kNC x hx) (by intro y hy;simp at hy) (λ h3 hns3 hsb3=>?_) kF
  generalize hC:s2.heap.objs.size=C at *
  have keep23:∀b o,s2.heap.get? b=some o->h3.get? b=some o:=λ b o q=>(hsb3.2 b (Nat.ne_of_lt (by rw[<- hC];exact Heap.lt_size q))).trans (Heap.get?_push_of_some _ q)
  have cells':∀x c,(clOf X.env.cells scope.names []).lookup x=some c->X.env.cells.lookup x=some c:=Jms _ _ (λ x c q=>by simp at q)
  -- the context of the block
  have okX:(cxC X (loc++caps) scope C s2 H2 fp).Ok:=by
   refine⟨N.inv.ok.mod,kF,N.inv.ok.glob,N.inv.ok.blt,Nat.le_of_eq hC,λ x y c a b=>N.inv.ok.inj x y c (cells' x c a) (cells' y c b),λ x hx=>?_,λ x c z=>?_,N.inv.ok.hd,N.inv.ok.frames,.inl rfl,λ b hb=>?_,λ b o q=>I2.bs b o q,
    Nat.le_trans N.inv.ok.bsz I2.sz,λ b o q hb=>?_,λ b hb z=>?_,I2.stack,I2.stkFree⟩
   ·have hx':(relabel scope X.env).names.lookup x=some .cell∨(relabel scope X.env).names.lookup x=some .free:=hx
    have hfr:scope.names.lookup x=some .free:=by
     rcases hx' with z|z
     ·obtain⟨k0,e,m⟩:=Jcf z
      simp only[List.mem_cons,Prod.mk.injEq,List.not_mem_nil,or_false] at m
      rcases m with⟨m1,_⟩|⟨_,m2⟩
      ·exact absurd (kNC _ (PySem.mem_of_lookup e)) (by rw[<- m1];intro q;exact q rfl)
      ·rw[m2] at e;exact e
     ·obtain⟨k0,e,m⟩:=Jcf z
      simp only[List.mem_cons,Prod.mk.injEq,List.not_mem_nil,or_false] at m
      rcases m with⟨m1,_⟩|⟨m1,_⟩
      ·rw[<- m1] at e;exact e
      ·cases m1
    have hm:=PySem.mem_of_lookup hfr
    obtain⟨c,hc'⟩:=N.inv.ok.has x (hfree (x,.free) hm rfl)
    exact Option.isSome_iff_exists.mp (Jhg _ _ x c hm hc')
   ·exact absurd (show false=true from z) Bool.false_ne_true
   ·have hbD:=f2 b hb
    obtain⟨o,ho,_⟩:=T.obj 0 _ st2 b hb
    exact⟨Nat.ne_of_lt (by show b<C;rw[<- hC];exact Heap.lt_size ho),λ x c q=>hbD.2.2.2.2.1 x c (cells' x c q)⟩
   ·rcases(f2 b hb).2.2.2.1 with z|z
    ·exact N.inv.ok.noex b o q z
    ·exact Nat.lt_irrefl _ (Nat.lt_of_lt_of_le (Heap.lt_size q) (Nat.le_trans N.inv.ok.bsz z))
   ·rcases List.mem_cons.mp (I2.stkSub b z) with e|e
    ·exact(f2 b hb).2.1 e
    ·exact(f2 b hb).2.2.1 e
  -- the block's state
  have lenJ:js.length=caps.length:=kLen
  have stl:(stC loc.length js σi).length=(loc++caps).length:=by simp[stC,lenJ]
  have R3:Rel ce X.K (ι1++[D]) (h1++[.lst []]) H2:=R2
  have I3:Inv (cxC X (loc++caps) scope C s2 H2 fp) [] (List.replicate loc.length none++js.map λ j=>(σ[j]?).join) H2 { s2 with heap:=h3,toks:=s2.toks+([]:List (Str×Value)).length }:=by
   refine⟨okX,rfl,I2.bare,Un.kept keep23,⟨_,hns3,λ i x v a b c=>?_⟩,λ x c q=>?_,I2.hok.fresh (Nat.le_of_eq hC),λ x c q=>I2.freeC x c (cells' x c q),λ p hp=>absurd (show p∈([]:List (Addr×Obj)) from hp) (by simp),I2.hok.kept keep23,by show _=(loc++caps).length;simp[lenJ]⟩
   ·have hi:loc.length<=i:=by
     refine Nat.le_of_not_lt λ hlt=>?_
     rw[List.getElem?_append_left (by simpa using hlt),List.getElem?_replicate] at b
     split at b<;>cases b
    obtain⟨k,rfl⟩:∃k,i=loc.length+k:=⟨i-loc.length,by omega⟩
    have a':(loc++caps)[loc.length+k]?=some x:=a
    rw[List.getElem?_append_right (by omega)] at a'
    rw[List.getElem?_append_right (by simp)] at b
    simp only[Nat.add_sub_cancel_left,List.length_replicate,List.getElem?_map] at a' b
    cases ej:js[k]? with
    | none=>rw[ej] at b;cases b
    | some j =>
     rw[ej] at b
     have b':(σ[j]?).join=some v:=Option.some.inj b
     have hσ:σ[j]?=some (some v):=by
      cases es:σ[j]? with
      | none=>rw[es] at b';cases b'
      | some o=>rw[es] at b';rw[show o=some v from b']
     have hz:=kJ (j,x) (List.mem_iff_getElem?.mpr ⟨k,by rw[List.getElem?_zip_eq_some];exact⟨ej,a'⟩⟩)
     obtain⟨hx1,hx2⟩:=hz
     obtain⟨m,hn,hl⟩:=I2.loc
     have hk:=hfree (x,.free) (PySem.mem_of_lookup hx2) rfl
     obtain⟨u,ru,lk⟩:=hl j x v (by rw[hN0];exact hx1) hσ (by rcases hk with q|q;exact .inr (.inl q);exact .inr (.inr q))
     rcases lk with⟨q,_⟩|⟨q,c,hc',hcell⟩
     ·rcases hk with q'|q'<;>(rw[q'] at q;cases q)
     ·obtain⟨kk,ek,hkk⟩:=Jiy (env:=X.env) hx2
      have hcl:=Jhg (cells:=X.env.cells) scope.names [] x c (PySem.mem_of_lookup hx2) hc'
      obtain⟨c',hc2⟩:=Option.isSome_iff_exists.mp hcl
      have:=cells' x c' hc2
      rw[hc'] at this
      cases this
      obtain⟨oc,hoc,hd⟩:=hcell
      refine⟨u,ru,.inr ⟨?_,c,hc2,oc,keep23 _ _ hoc,hd⟩⟩
      rcases hkk with rfl|rfl
      ·exact .inl ek
      ·exact .inr ek
   ·obtain⟨v,o,ho,hd⟩:=I2.cell x c (cells' x c q)
    exact⟨v,o,keep23 _ _ ho,hd⟩
  have N3:Now ce (cxC X (loc++caps) scope C s2 H2 fp) [] (ι1++[D]) (stC loc.length js σi) (h1++[.lst []]) (List.replicate loc.length none++js.map λ j=>(σ[j]?).join) H2 { s2 with heap:=h3,toks:=s2.toks+([]:List (Str×Value)).length }:=by
   refine⟨I3,R3,by simp[stC],λ i v q=>?_⟩
   unfold stC at q
   have hi:loc.length<=i:=by
    refine Nat.le_of_not_lt λ hlt=>?_
    rw[List.getElem?_append_left (by simpa using hlt),List.getElem?_replicate] at q
    split at q<;>cases q
   rw[List.getElem?_append_right (by simpa using hi)] at q
   simp only[List.length_replicate,List.getElem?_map] at q
   cases ej:js[i-loc.length]? with
   | none=>rw[ej] at q;cases q
   | some j =>
    rw[ej] at q
    have q':(σi[j]?).join=some v:=Option.some.inj q
    have hσ:σi[j]?=some (some v):=by
     cases es:σi[j]? with
     | none=>rw[es] at q';cases q'
     | some o=>rw[es] at q';rw[show o=some v from q']
    obtain⟨u,hu,qu⟩:=N2.st.at_ j v hσ
    refine⟨u,?_,qu⟩
    rw[List.getElem?_append_right (by simpa using hi)]
    simp only[List.length_replicate,List.getElem?_map,ej,Option.map_some,hu]
    rfl
  have st3:tn 0 h3:=T.keep 0 _ _ st2 λ b _ o q=>keep23 b o q
  have K2:Jmf ce X use pins (ι1++[D]) σi σ H2 (Jd7 Jt.chk g mt me h1.length Jt.xs (stC loc.length js σi) (h1++[.lst []])) Q E:=Jmf.mono (r:=Jd7 Jt.chk g mt me h1.length Jt.xs (stC loc.length js σi) (h1++[.lst []])) K (n1.trans n2)
  have loop:codeAny (model X.prog X.w) X.A (.compLoop (.ListComp elt [⟨tg,iter,ifs,0⟩] scope pos) 0 (.ref it) (.ref D) (compEnvC scope (clOf X.env.cells scope.names []) C X.env)) (compPost (model X.prog X.w) X.A E use Q (.ref D) C)
    { s2 with heap:=h3,toks:=s2.toks+([]:List (Str×Value)).length }:=by
   refine Jn8 (λ n s'=>∃k ιk σk hk σ' H',Now ce (cxC X (loc++caps) scope C s2 H2 fp) [] ιk σk hk σ' H' s'/\Nxt (ι1++[D]) H2 ιk H'/\tn k s'.heap/\(∀b∈fp,H' b=none)/\n=Jt.xs.length-k/\k<=Jt.xs.length/\Jmf ce X use pins ιk σi σ H' (Jd7 Jt.chk g mt me h1.length (Jt.xs.drop k) σk hk) Q E) ?_ Jt.xs.length
    ⟨0,ι1++[D],stC loc.length js σi,h1++[.lst []],_,H2,N3,.refl,st3,λ b hb=>(f2 b hb).1,by simp,Nat.zero_le _,by simpa using K2⟩
   have stat:∀{H':Hp},(∀b∈fp,H' b=none)->∀b∈fp,FpOk (cxC X (loc++caps) scope C s2 H2 fp) [] H' b:=λ hn b hb =>
    ⟨hn b hb,(okX.exf b hb).1,okX.exfs b hb,.inl hb,(okX.exf b hb).2,λ p hp=>absurd (show p∈([]:List (Addr×Obj)) from hp) (by simp)⟩
   rintro n s4 ⟨k,ιk,σk,hk,σ4,H4,N4,n4,st4,fr4,rfl,hkl,K4⟩
   by_cases hlt:k<Jt.xs.length
   ·have hd:Jt.xs.drop k=Jt.xs[k]::Jt.xs.drop (k+1):=List.drop_eq_getElem_cons hlt
    rw[hd] at K4
    unfold Jd7 at K4
    split at K4
    ·rename_i hck
     obtain⟨go,yl⟩:=OK.go k Jt.xs[k] hk H4 ιk (n2.trans n4) N4.rel hck (List.getElem?_eq_getElem hlt)
     refine thn (T.item (cxC X (loc++caps) scope C s2 H2 fp) k s4 σ4 H4 (hcc _ _ _ _ _ (n1.trans (n2.trans n4)).ext) N4.inv (stat fr4) st4 go) λ r s5 ⟨u,hr,h5⟩=>?_
     subst hr
     refine thn h5 λ _ s6 ⟨x,H6,I6,r6,y6,st6,fr6⟩=>?_
     obtain⟨R6,n6,q6⟩:=yl x H6 y6
     have I6':=I6.pinned (stat fr6) (T.obj _ _ st6)
     have N6:Now ce (cxC X (loc++caps) scope C s2 H2 fp) ([]++Jd4 fp s6.heap) ιk σk hk σ4 H6 s6:=⟨I6',R6,N4.st.mono n6⟩
     have again:∀{σ7:L2.St}{H7:Hp}{s7:Shared}{σ7i:ISt}{h7:IH}{ι7:List Addr},Now ce (cxC X (loc++caps) scope C s2 H2 fp) ([]++Jd4 fp s6.heap) ι7 σ7i h7 σ7 H7 s7->Nxt ιk H6 ι7 H7->Jmf ce X use pins ιk σi σ H4 (Jd7 Jt.chk g mt me h1.length (Jt.xs.drop (k+1)) σ7i h7) Q E ->
       ∃m,m<Jt.xs.length-k/\∃k ιk σk hk σ' H',Now ce (cxC X (loc++caps) scope C s2 H2 fp) [] ιk σk hk σ' H' s7/\Nxt (ι1++[D]) H2 ιk H'/\tn k s7.heap/\(∀b∈fp,H' b=none)/\m=Jt.xs.length-k/\k<=Jt.xs.length/\Jmf ce X use pins ιk σi σ H' (Jd7 Jt.chk g mt me h1.length (Jt.xs.drop k) σk hk) Q E :=
      λ {σ7 H7 s7 σ7i h7 ι7} N7 n7 K7=>by
       have nn:Nxt ιk H4 ι7 H7:=n6.trans n7
       refine⟨Jt.xs.length-(k+1),by omega,k+1,ι7,σ7i,h7,σ7,H7,N7.pins,n4.trans nn,T.keep _ _ _ st6 λ b hb o e=>(N7.inv.pin (b,o) (List.mem_append_right _ (List.mem_append_right _ (Jcr hb e)))).1,λ b hb=>?_,rfl,hlt,K7.mono nn⟩
       obtain⟨o,e,d⟩:=T.obj _ _ st6 b hb
       exact(N7.inv.pin (b,o) (List.mem_append_right _ (List.mem_append_right _ (Jcr hb e)))).2.1
     cases eg:g Jt.xs[k] σk hk with
     | next σg hgg =>
      rw[eg] at K4
      dsimp only at K4
      refine hg C s2 H2 fp _ s6 σ4 H6 ιk σk hk _ u (λ _ s7=>wpAny (model X.prog X.w) X.A (forIn ifs true λ c r=>if r=true then do let ok<-isTrue c _ (eval c _);pure (ForInStep.yield ok) else pure (ForInStep.yield r)) _ _ s7) (λ _ _=>False) N6 ⟨x,r6,q6⟩ ?_
      rw[eg]
      intro s7 σ7 H7 ι7 N7 n7
      refine ht C s2 H2 fp _ s7 σ7 H7 ι7 σg hgg _ (λ _ _=>False) N7 ?_
      cases et:mt σg hgg with
      | ok c h8 =>
       rw[et] at K4
       intro d s8 H8 ι8 N8 n8 rd
       have rd':d=c:=rd
       subst rd'
       cases d with
       | false=>exact again N8 (n7.trans n8) K4
       | true =>
        dsimp only at K4
        refine he C s2 H2 fp _ s8 σ7 H8 ι8 σg h8 _ (λ _ _=>False) N8 ?_
        cases ee:me σg h8 with
        | ok v h9 =>
         rw[ee] at K4
         dsimp only at K4
         intro w s9 H9 ι9 N9 n9 rw9
         have hat9:ι9[h1.length]?=some D:=(((n4.trans n6).trans n7).trans (n8.trans n9)).at hat
         cases hl:h9[h1.length]? with
         | none=>rw[hl] at K4;exact Zf K4
         | some ob =>
          rw[hl] at K4
          cases ob with
          | lst acc =>
           dsimp only at K4
           split at K4
           ·rename_i hz
            obtain⟨vs,eD,rD⟩:=N9.at hl hat9
            obtain⟨wv,rw9,qw⟩:=rw9
            have ap:=Jo0 (X:=(cxC X (loc++caps) scope C s2 H2 fp).wish λ _ _=>False) ([]++Jd4 fp s6.heap) s9 σ7 H9 (.ref D) [wv] (.ref D) [w] (λ _ H'=>H'=upd H9 D (.lst (vs++[wv]))) (N9.inv.wish _) rfl (.cons rw9 .nil) ⟨D,vs,wv,rfl,rfl,eD,by rw[rD.length];exact hz,rfl⟩
            refine wpAny_mono ap (λ _ s10 hq=>?_) λ _ _ z=>z
            obtain⟨z,H10,I10,_,rfl⟩:=hq
            have n10:Nxt ι9 H9 ι9 (upd H9 D (.lst (vs++[wv]))):=⟨⟨[],by simp⟩,Ext.upd_mut eD (by rw[eD];exact True.intro)⟩
            obtain⟨R10,_⟩:=N9.rel.write (o:=.lst (vs++[wv])) (io:=.lst (acc++[v])) hat9 eD (by rw[eD];exact True.intro) ⟨_,Je,(RVs.mono n10 _ _ rD).append (RVs.one (RV.mono n10 _ _ qw))⟩
            exact again ⟨I10.unwish,R10,N9.st.mono n10⟩ (((n7.trans n8).trans n9).trans n10) K4
           ·exact Zf K4
          | _=>exact Zf K4
        | _=>rw[ee] at K4;exact Zf K4
      | _=>rw[et] at K4;exact Zf K4
     | _=>rw[eg] at K4;exact Zf K4
    ·exact Zf K4
   ·have hke:Jt.xs.drop k=[]:=List.drop_eq_nil_of_le (by omega)
    rw[hke] at K4
    unfold Jd7 at K4
    split at K4
    ·rename_i hck
     have stop:=OK.stop k hk H4 ιk (n2.trans n4) N4.rel hck (by omega)
     refine thn (T.done (cxC X (loc++caps) scope C s2 H2 fp) k s4 σ4 H4 (hcc _ _ _ _ _ (n1.trans (n2.trans n4)).ext) N4.inv (stat fr4) st4 stop) λ r s5 ⟨hr,I5⟩=>?_
     subst hr
     obtain⟨m,hnm,_⟩:=I5.loc
     -- back to the def's own frame
     have hos:s5.os=s2.os:=I5.os
     obtain⟨hp5,g5,d5,t5,os5⟩:=s5
     obtain rfl:os5=s2.os:=hos
     have J5:Inv X pins σ H4 { s2 with heap:=hp5,gens:=g5,drawn:=d5,toks:=t5 }:=I2.call (ch:=fp) I5.base I5.hok I5.bare λ b hb=>⟨(f2 b hb).2.2.2.1,(f2 b hb).2.1,(f2 b hb).2.2.2.2.1,(f2 b hb).2.2.2.2.2⟩
     have fC:FpOk X pins H4 C:=I2.fpOk (Nat.le_of_eq hC) I5.free
     exact K4 D C m _ H4 ιk ⟨J5,N4.rel,(N2.st.mono n4)⟩ .refl ⟨.ref D,rfl,D,rfl,n4.at hat⟩ hnm fC
    ·exact Zf K4
  exact codeAny_compStart_list loop (T.self X.A 0 _ _ _ st3 loop)
theorem Now.letgo {pins:List (Addr×Obj)}{ι:List Addr}{σi:ISt}{h:IH}{σ:L2.St}{H:Hp}{s:Shared}{C:Addr}{h':Heap}(N:Now ce X pins ι σi h σ H s) (fC:FpOk X pins H C) (sb:Heap.SameBut C s.heap h'):Now ce X pins ι σi h σ H { s with heap:=h' } :=
 ⟨N.inv.turned (it:=C) (t':=s.toks) (λ b o hb q=>(sb.2 b hb).trans q) fC.1 fC.2.1 fC.2.2.2.1 fC.2.2.2.2.1 fC.2.2.2.2.2,N.rel,N.st⟩
theorem J04 {N0 loc caps:List Str}{js:List Nat}{sc₀ scope:Scope}{tg iter elt:Expr}{ifs:List Expr}{mi:I1}{g:G1}{mt:T1}{me:E1}{pos:Pos}(hc:X.calm=true) (hi:PIi ce X tg iter mi)
  (hg:∀C s H fp,PGi ce (cxC X (loc++caps) scope C s H fp) tg g) (ht:∀C s H fp,PTsi ce (cxC X (loc++caps) scope C s H fp) ifs mt) (he:∀C s H fp,PEi ce (cxC X (loc++caps) scope C s H fp) elt me)
  (ok:Jd2 N0 loc caps js sc₀ scope=true) (hN0:X.N=N0:=by rfl) (hsc:X.env.scope=sc₀:=by rfl) (hs:∀x,foldedSetIterable iter X.env x=pure x:=by intro _;rfl):PEi ce X (.ListComp elt [⟨tg,iter,ifs,0⟩] scope pos) (Jx mi loc.length js g mt me):=by
 intro pins s σ H ι σi h Q E N K
 rw[eval_ListComp]
 refine Jn9 hi.c hg ht he ok hN0 hsc hs (λ _ _ _ _ _ _=>⟨rfl,rfl,rfl,hc⟩) N ?_
 cases e0:Jx mi loc.length js g mt me σi h with
 | exc n h'=>rw[e0] at K;exact K
 | stuck=>rw[e0] at K;exact K
 | ok v h' =>
  rw[e0] at K
  exact λ D C m s' H' ι' N' n' r hns fC=>⟨m,hns,λ h2 sb=>K _ _ H' ι' (N'.letgo fC sb) n' r⟩
theorem J1i {N0 loc caps:List Str}{js:List Nat}{sc₀ scope:Scope}{tg iter elt:Expr}{ifs:List Expr}{mi:I1}{g:G1}{mt:T1}{me:E1}{pos pos2 pos3:Pos}{i:Nat}{x:Str}(hc:X.calm=true) (hi:PIi ce X tg iter mi)
  (hg:∀C s H fp,PGi ce (cxC X (loc++caps) scope C s H fp) tg g) (ht:∀C s H fp,PTsi ce (cxC X (loc++caps) scope C s H fp) ifs mt) (he:∀C s H fp,PEi ce (cxC X (loc++caps) scope C s H fp) elt me)
  (ok:Jd2 N0 loc caps js sc₀ scope=true) (hN0:X.N=N0:=by rfl) (hsc:X.env.scope=sc₀:=by rfl) (hs:∀x,foldedSetIterable iter X.env x=pure x)
  (hN:X.N.Nodup) (hix:X.N[i]?=some x) (hlx:Loc X.env.scope x) (hf:X.fn x=true∨X.env.scope.names.lookup x=some .local)
  (hsw:swapsWith (.ListComp elt [⟨tg,iter,ifs,0⟩] scope pos) (some (.Name x pos2)) pos3.line X.env=pure true) :
  PS1 ce X (.Assign [.Name x pos2] (.ListComp elt [⟨tg,iter,ifs,0⟩] scope pos) pos3) (sSet i (Jx mi loc.length js g mt me)):=by
 intro pins s σ H ι σi h Q E N K
 rw[exec_Assign_Name_used _ _ _ _ hsw]
 refine wpAny_bind (wpAny_standAt (wpAny_bind ?_))
 rw[arm_evalThenUse_ListComp]
 refine wpAny_bind ?_
 refine Jn9 (use:=some (assign (.Name x pos2) X.env)) hi.c hg ht he ok hN0 hsc hs (λ _ _ _ _ _ _=>⟨rfl,rfl,rfl,hc⟩) N ?_
 unfold sSet at K
 cases e0:Jx mi loc.length js g mt me σi h with
 | exc n h'=>rw[e0] at K;exact λ pl a s' H' ι' N' n' q=>K pl a s' σ H' ι' N' n' q s' (.inl rfl)
 | stuck=>rw[e0] at K;exact K
 | ok v h' =>
  rw[e0] at K
  intro D C m s' H' ι' N' n' r hns fC
  obtain⟨w,rw',q⟩:=r
  obtain⟨oC,es,ep,hoC,hdC,hrest⟩:=id hns
  have hp:Inv X (pins++Jd4 [C] s'.heap) σ H' s':=N'.inv.pinned (λ b hb=>(show b=C by simpa using hb)▸fC) (λ b hb=>by
   have e:b=C:=by simpa using hb
   subst e
   exact⟨oC,hoC,λ v z=>by rw[hdC] at z;cases z⟩)
  refine wpAny_assign_Name (Jjj hp hN hix hlx rw' (λ s2 I2=>?_) hf)
  have hC2:=(I2.pin (C,oC) (List.mem_append_right _ (List.mem_append_right _ (Jcr (by simp) hoC)))).1
  refine⟨m,⟨oC,es,ep,hC2,hdC,hrest⟩,λ h2 sb=>wpAny_pure ?_⟩
  have N2:Now ce X pins ι' (σi.set i (some v)) h' (σ.set i (some w)) H' s2:=⟨I2.unpinned,N'.rel,N'.st.set i q⟩
  exact wpAny_pure (K _ _ H' ι' (N2.letgo fC sb) n')
noncomputable def Jlh (x:Str):List IV:=x.cps.toList.map λ c=>.str ⟨#[c]⟩
noncomputable def Its (x:Str):It:=⟨λ i _=>i<x.cps.size,λ i H y H'=>H'=H/\∃c,x.cps[i]?=some c/\y=.str ⟨#[c]⟩,λ i _=>x.cps.size<=i⟩
theorem Jsi {P:Program}{w:World}{K:W.Frag}{tg:Expr}{ty:String}{x:Str}{t:Tok}(it:Addr) (hty:["enumerate","zip","dict_itemiterator","dict_reverseitemiterator","odict_iterator","itertools.zip_longest","itertools.pairwise"].contains ty=false)
  (W:∀A:Around,A.handled=none->Walks P w A it [it] [it] x.cps.size (SignAt x) (λ i h=>h.IsStrIter it ty x t i))
  (We:∀(A:Around) (E:Value->Shared->Prop) (s:Shared) (i:Nat) (Q:Option Value->Shared->Prop),A.handled=none->s.heap.IsStrIter it ty x t i->x.cps[i]?=none->(∀h',Heap.ExtBut it s.heap h'->Q none { s with heap:=h' })->wpAny (model P w) A (pyNext (.ref it)) Q E s)
  (Ws:∀(A:Around) (E:Value->Shared->Prop) (s:Shared) (i:Nat) (Q:Value->Shared->Prop),s.heap.IsStrIter it ty x t i->Q (.ref it) s->wpAny (model P w) A (pyIter (.ref it)) Q E s):Turn P w K tg (Its x) [it] it (λ i h=>h.IsStrIter it ty x t i) where
 mem:=by simp
 obj:=λ i h st b hb=>by
  have e:b=it:=by simpa using hb
  subst e
  obtain⟨o,e,c,d⟩:=st
  exact⟨o,e,λ v z=>by rw[d] at z;cases z⟩
 keep:=λ i h h' st k=>by
  obtain⟨o,e,r⟩:=st
  exact⟨o,k it (by simp) o e,r⟩
 item:=by
  intro X hP hw hK hc i pins s σ H E I hf st hg
  subst hP hw hK
  obtain⟨f0,f1,f2,f3,f4,f5⟩:=hf it (by simp)
  refine(W X.A (I.ok.hd hc)).item i s _ _ hg st λ v h' tk hv st' kk=>?_
  obtain⟨c,u,hcc,rfl⟩:=hv
  have I1:Inv X pins σ H { s with heap:=h',toks:=tk }:=I.turned (λ b o hb e=>kk b o (by simpa using hb) e) f0 f1 f3 f4 f5
  obtain⟨o,e,c1,d1⟩:=id st'
  exact⟨_,rfl,Jyo (s:={ s with heap:=h',toks:=tk }) e c1 d1 hty ⟨.str ⟨#[c]⟩,H,I1,⟨u,rfl⟩,⟨rfl,c,hcc,rfl⟩,st',λ b hb=>(hf b hb).1⟩⟩
 done:=by
  intro X hP hw hK hc i pins s σ H E I hf st hg
  subst hP hw hK
  obtain⟨f0,f1,f2,f3,f4,f5⟩:=hf it (by simp)
  have hi:x.cps.size<=i:=hg
  have hx:x.cps[i]?=none:=by simp[hi]
  exact We X.A _ s i _ (I.ok.hd hc) st hx λ h' eb=>⟨rfl,I.turned (t':=s.toks) (λ b o hb e=>eb b o hb e) f0 f1 f3 f4 f5⟩
 self:=λ A i s Q E st h=>Ws A E s i Q st h
noncomputable def Jy3:IV->IH->Res ItI
 | .str x,h=>.ok ⟨Jlh x,λ _=>True⟩ h
 | _,_=>.stuck
noncomputable def iStr (e:E1):I1:=λ σ h=>(e σ h).bind Jy3
theorem J06 {x:Str}{ι:List Addr}{H₀:Hp}:ItOk ce X.K ι H₀ (Its x) ⟨Jlh x,λ _=>True⟩:=by
 refine⟨λ k v h H ι' hp R hck hx=>?_,λ k h H ι' hp R hck hx=>?_⟩
 ·have hk:k<x.cps.size:=by
   have:=(List.getElem?_eq_some_iff.mp hx).1
   simpa [Jlh] using this
  refine⟨hk,λ y H' hy=>?_⟩
  obtain⟨rfl,c,hc,rfl⟩:=hy
  simp only[Jlh,List.getElem?_map,Array.getElem?_toList,hc] at hx
  cases hx
  exact⟨R,.refl,rfl⟩
 ·have:(Jlh x).length=x.cps.size:=by simp[Jlh]
  show x.cps.size<=k
  rw[<- this]
  exact hx
theorem Js4 {tg l:Expr}{ml:E1}(hl:PEi ce X l ml):PIi ce X tg l (iStr ml):=by
 intro pins s σ H ι σi h Q E N K
 refine hl pins s σ H ι σi h _ E N ?_
 unfold iStr at K
 cases e0:ml σi h with
 | exc n h'=>rw[e0] at K;exact K
 | stuck=>rw[e0] at K;exact K
 | ok v h' =>
  rw[e0] at K
  intro u s1 H1 ι1 N1 n1 r1
  obtain⟨w,rw',q⟩:=r1
  have fresh:∀b∈[s1.heap.objs.size],FpOk X pins H1 b:=λ b hb=>by
   have e:b=s1.heap.objs.size:=by simpa using hb
   subst e
   exact N1.inv.fpOk (Nat.le_refl _) (N1.inv.hok.fresh (Nat.le_refl _))
  cases v with
  | str x =>
   have e1:w=.str x:=q
   subst e1
   obtain⟨t,rfl⟩:=rw'
   simp only[Res.bind,Jy3] at K
   cases ha:x.cps.all (· < 128) with
   | true =>
    refine wpAny_pyIter_ascii ha (K _ _ H1 ι1 ⟨N1.inv.kept (t':=s1.toks) λ b o e=>Heap.get?_push_of_some _ e,N1.rel,N1.st⟩ n1 ?_)
    exact⟨s1.heap.objs.size,[s1.heap.objs.size],_,Its x,rfl,Jsi (ty:="str_ascii_iterator") (t:=t) _ (by decide) (λ A hA=>Walks.strAscii hA _ x t) (λ A E s i Q hA st hx hQ=>wpAny_pyNext_ascii_end hA st hx hQ) (λ A E s i Q st hq=>wpAny_pyIter_striter_ascii st hq),⟨_,Heap.get?_push_size _ rfl,rfl,rfl⟩,fresh,J06⟩
   | false =>
    refine wpAny_pyIter_wide ha (K _ _ H1 ι1 ⟨N1.inv.kept (t':=s1.toks) λ b o e=>Heap.get?_push_of_some _ e,N1.rel,N1.st⟩ n1 ?_)
    exact⟨s1.heap.objs.size,[s1.heap.objs.size],_,Its x,rfl,Jsi (ty:="str_iterator") (t:=t) _ (by decide) (λ A hA=>Walks.strWide hA _ x t) (λ A E s i Q hA st hx hQ=>wpAny_pyNext_wide_end hA st hx hQ) (λ A E s i Q st hq=>wpAny_pyIter_striter_wide st hq),⟨_,Heap.get?_push_size _ rfl,rfl,rfl⟩,fresh,J06⟩
  | _=>simp only[Res.bind,Jy3] at K
noncomputable def Ite (K:W.Frag) (a:Addr):It :=
 ⟨λ i H=>∃xs x,SqL K H a xs/\xs[i]?=some x,λ i H y H'=>∃p x,H p=none/\y=.ref p/\H'=upd H p (.tup [.int (i:Int),x])/\∀xs,SqL K H a xs->xs[i]?=some x,λ i H=>∃xs,SqL K H a xs/\xs.length<=i⟩
theorem Jw5 {P:Program}{w:World}{K:W.Frag}{es:List Expr}{k:Nat}{p:Pos}(a it e:Addr) (hne:e≠it):Turn P w K (.Tuple es k p) (Ite K a) [e,it] e (λ i h=>(∃old,IsEnum h e it (i:Int) old)/\h.IsListIter it a i) where
 mem:=by simp
 obj:=λ i h st b hb=>by
  obtain⟨⟨old,he⟩,o,e1,c,d⟩:=st
  simp only[List.mem_cons,List.not_mem_nil,or_false] at hb
  rcases hb with rfl|rfl
  ·exact⟨_,he,λ v z=>by
    have z':Data.fields _=Data.cell v:=z
    cases z'⟩
  ·exact⟨o,e1,λ v z=>by rw[d] at z;cases z⟩
 keep:=λ i h h' st k=>⟨let ⟨old,he⟩:=st.1;⟨old,k e (by simp) _ he⟩,st.2.at λ o e=>k it (by simp) o e⟩
 item:=by
  intro X hP hw hK hc i pins s σ H E I hf st hg
  subst hP hw hK
  obtain⟨⟨old,he⟩,hit⟩:=st
  obtain⟨xs,x,hq,hx⟩:=hg
  obtain⟨its,rv,pl,hz⟩:=I.list hq
  obtain⟨u,hu,ru⟩:=rv.get hx
  have fe:=hf e (by simp)
  have fi:=hf it (by simp)
  have hn:H s.heap.objs.size=none:=I.hok.fresh (Nat.le_refl _)
  refine wpAny_pyNext_enum_item he hit pl.isList (x:=u) (by simpa using hu) hne λ h' he' hit' ht hsz kk=>?_
  refine⟨_,rfl,wpAny_letOwnedTupleGo_enum he' λ h2 he2 sb=>?_⟩
  have ltE:e<s.heap.objs.size:=Heap.lt_size he
  have neT:s.heap.objs.size≠e:=Nat.ne_of_gt ltE
  have k2:∀b o,b≠e->b≠it->s.heap.get? b=some o->h2.get? b=some o:=λ b o h1 h3 q=>(sb.2 b h1).trans (kk b o h1 h3 q)
  have hl2:h2.IsListIter it a (i+1):=by
   obtain⟨o,q,r⟩:=hit'
   exact⟨o,(sb.2 it (Ne.symm hne)).trans q,r⟩
  have t2:h2.get? s.heap.objs.size=some { cls:=.type "tuple",data:=.seq #[.int i s.toks,u] }:=(sb.2 _ neT).trans ht
  -- the two records turn, then the tuple is tracked
  obtain⟨oe,hoe⟩:∃o,s.heap.get? e=some o:=⟨_,he⟩
  obtain⟨oi,hoi,_⟩:=id hit
  have neP:∀b u,H b=some u->b≠s.heap.objs.size:=λ b u q=>J2 q hn
  have I1:Inv X pins σ (upd H s.heap.objs.size (.tup [.int (i:Int),x])) { s with heap:=h2,toks:=s.toks+1 }:=by
   refine I.step (g':=s.gens) (d':=s.drawn) (ch:=[e,it]) (λ b hb=>?_) (λ b o _ _ hc q _=>k2 b o (λ z=>hc (by simp[z])) (λ z=>hc (by simp[z])) q) (λ b o _ _ hc q _=>⟨o.slots,k2 b o (λ z=>hc (by simp[z])) (λ z=>hc (by simp[z])) q⟩) (λ b o _ q n=>?_)
    (λ b o hc q=>⟨o,k2 b o (λ z=>hc (by simp[z])) (λ z=>hc (by simp[z])) q⟩) (λ b xs q=>by rw[Jg (neP b _ q)];exact q) (λ b o u q=>by rw[Jg (neP b _ q)];exact q) (λ b ps q=>⟨#[],by rw[Jg (neP b _ q),q];simp⟩) (λ m hm=>?_) (λ b u q=>?_) I.bare
   ·simp only[List.mem_cons,List.not_mem_nil,or_false] at hb
    rcases hb with rfl|rfl
    ·exact⟨fe.2.2.2.1,fe.2.1,fe.2.2.2.2.1,fe.2.2.2.2.2⟩
    ·exact⟨fi.2.2.2.1,fi.2.1,fi.2.2.2.2.1,fi.2.2.2.2.2⟩
   ·rw[Jg (Nat.ne_of_lt (Heap.lt_size q))];exact n
   ·obtain⟨o,es,ep,ho,r⟩:=hm
    exact⟨o,es,ep,k2 _ o (Ne.symm fe.2.1) (Ne.symm fi.2.1) ho,r⟩
   ·by_cases hb:b=s.heap.objs.size
    ·subst hb
     rw[Je] at q
     cases q
     exact⟨by show 2<=sizeLine;decide,[.int i s.toks,u],.cons ⟨_,rfl⟩ (.cons ru .nil),⟨_,t2,rfl,_,rfl⟩⟩
    ·rw[Jg hb] at q
     have n1:b≠e:=λ z=>by rw[z,fe.1] at q;cases q
     have n2:b≠it:=λ z=>by rw[z,fi.1] at q;cases q
     refine(I.hok b u q).stay (λ c v hc r=>k2 c v ?_ ?_ r) (λ c q=>by rw[Jg (neP c _ q)];exact q) λ c ys q=>by rw[Jg (neP c _ q)];exact q
     ·rcases hc with z|z
      ·rw[z];exact n1
      ·intro y;rw[y,fe.1] at z;cases z
     ·rcases hc with z|z
      ·rw[z];exact n2
      ·intro y;rw[y,fi.1] at z;cases z
  refine⟨.ref s.heap.objs.size,_,I1,rfl,⟨s.heap.objs.size,x,hn,rfl,rfl,λ ys hy=>by rw[I.list_inj hy hq];exact hx⟩,⟨⟨_,he2⟩,hl2⟩,λ b hb=>?_⟩
  simp only[List.mem_cons,List.not_mem_nil,or_false] at hb
  rcases hb with rfl|rfl
  ·rw[Jg (Nat.ne_of_lt ltE)];exact fe.1
  ·rw[Jg (Nat.ne_of_lt (Heap.lt_size hoi))];exact fi.1
 done:=by
  intro X hP hw hK hc i pins s σ H E I hf st hg
  subst hP hw hK
  obtain⟨⟨old,he⟩,hit⟩:=st
  obtain⟨xs,hq,hx⟩:=hg
  obtain⟨its,rv,p,hz⟩:=I.list hq
  obtain⟨f0,f1,f2,f3,f4,f5⟩:=hf it (by simp)
  have hl:=rv.length
  exact wpAny_pyNext_enum_end (I.ok.hd hc) he hit p.isList (by simp;omega) λ h' eb=>⟨rfl,I.turned (t':=s.toks) (λ b o hb e=>eb b o hb e) f0 f1 f3 f4 f5⟩
 self:=λ _ _ _ _ _ st h=>let ⟨_,he⟩:=st.1;wpAny_pyIter_enum he h
noncomputable def Jid (n:Nat):List IV->List IV
 | []=>[]
 | x::xs=>.tup [.int n,x]::Jid (n+1) xs
theorem Jj4:∀(xs:List IV) (n k:Nat),(Jid n xs)[k]?=(xs[k]?).map λ x=>.tup [.int ((n+k:Nat):Int),x]
 | [],_,_=>by simp[Jid]
 | x::xs,n,0=>by simp[Jid]
 | x::xs,n,k+1=>by
  simp only[Jid,List.getElem?_cons_succ]
  rw[Jj4 xs (n+1) k]
  have:n+1+k=n+(k+1):=by omega
  rw[this]
theorem Je1:∀(xs:List IV) (n:Nat),(Jid n xs).length=xs.length
 | [],_=>rfl
 | _::xs,n=>by simp[Jid,Je1 xs]
noncomputable def Jfz:List IV->IH->Res ItI
 | [.ref i],h=>match h[i]? with
  | some (.lst xs)=>.ok ⟨Jid 0 xs,λ h'=>h'[i]?=some (.lst xs)⟩ h
  | _=>.stuck
 | _,_=>.stuck
theorem J54 {a:Addr}{i:Nat}{xs:List IV}{ι:List Addr}{H₀:Hp}(ha:ι[i]?=some a):ItOk ce X.K ι H₀ (Ite X.K a) ⟨Jid 0 xs,λ h'=>h'[i]?=some (.lst xs)⟩:=by
 refine⟨λ k v h H ι' hp R hck hx=>?_,λ k h H ι' hp R hck hx=>?_⟩
 ·obtain⟨vs,e1,r1⟩:=R.get hck (hp.at ha)
  have hx':(Jid 0 xs)[k]?=some v:=hx
  rw[Jj4] at hx'
  obtain⟨x,hxk,rfl⟩:=Option.map_eq_some_iff.mp hx'
  obtain⟨u,hu,qu⟩:=r1.get hxk
  refine⟨⟨vs,u,SqL.of e1,hu⟩,λ y H' hy=>?_⟩
  obtain⟨p,x',hp0,rfl,rfl,hy⟩:=hy
  have:=hy vs (SqL.of e1)
  rw[hu] at this
  cases this
  obtain⟨R',n'⟩:=R.grow (o:=.tup [.int (k:Int),u]) hp0
  refine⟨R',n',p,_,rfl,SqT.of Je,⟨_,_,rfl,?_,_,_,rfl,RV.mono n' _ _ qu,rfl⟩⟩
  show V.int (k:Int)=V.int ((0+k:Nat):Int)
  simp
 ·obtain⟨vs,e1,r1⟩:=R.get hck (hp.at ha)
  exact⟨vs,SqL.of e1,by rw[r1.length,<-Je1 xs 0];exact hx⟩
theorem J5q {es:List Expr}{kt:Nat}{pt:Pos}{a:Expr}{ma:A1}{p pos:Pos}(hg:Gl X "enumerate") (hm:X.mg "enumerate"=none) (ha:PAi ce X [a] ma) (hs:starEach [a] X.env=[(false,eval a X.env)]:=by rfl):PIi ce X (.Tuple es kt pt) (.Call (.Name "enumerate" p) [a] [] pos) (iRg Jfz ma):=by
 intro pins s σ H ι σi h Q E N K
 refine Call_ (Jcp N.inv hg hm boot_enumerate (PyProof.Rows.callWith_type1 ?_ hs rfl))
 refine ha pos pins s σ H ι σi h _ E N ?_
 unfold iRg at K
 cases e0:ma σi h with
 | exc n h'=>rw[e0] at K;exact K
 | stuck=>rw[e0] at K;exact K
 | ok vs h' =>
  rw[e0] at K
  intro us s1 H1 ι1 N1 n1 r1
  obtain⟨xs,rv,qs⟩:=r1
  match vs,K with
  | [.ref i],K =>
   obtain⟨w,e1,q⟩:=qs.one_of
   subst e1
   obtain⟨b,e3,hb⟩:=q
   subst e3
   obtain⟨u,rfl,ru⟩:=Jnq rv
   cases ru
   cases hi:h'[i]? with
   | none=>simp only[Res.bind,Jfz,hi] at K
   | some ob =>
    cases ob with
    | lst ys =>
     simp only[Res.bind,Jfz,hi] at K
     obtain⟨ws,eH,rH⟩:=N1.at hi hb
     obtain⟨z,its,n,r,hl,eo⟩:=N1.inv.lstM eH
     refine call_enumerate_1 eo λ h2 he hit hsz kp=>?_
     refine wpAny_pyIter_enum he (K _ _ H1 ι1 ⟨N1.inv.kept (t':=s1.toks) kp,N1.rel,N1.st⟩ n1 ?_)
     refine⟨s1.heap.objs.size+1,[s1.heap.objs.size+1,s1.heap.objs.size],_,Ite X.K b,rfl,Jw5 b s1.heap.objs.size (s1.heap.objs.size+1) (Nat.ne_of_gt (Nat.lt_succ_self _)),⟨⟨_,he⟩,hit⟩,λ c hc=>?_,J54 hb⟩
     simp only[List.mem_cons,List.not_mem_nil,or_false] at hc
     rcases hc with rfl|rfl
     ·exact N1.inv.fpOk (Nat.le_succ _) (N1.inv.hok.fresh (Nat.le_succ _))
     ·exact N1.inv.fpOk (Nat.le_refl _) (N1.inv.hok.fresh (Nat.le_refl _))
    | _=>simp only[Res.bind,Jfz,hi] at K
  | [],K=>exact Zf K
  | .non::_,K=>exact Zf K
  | .bl _::_,K=>exact Zf K
  | .str _::_,K=>exact Zf K
  | .tup _::_,K=>exact Zf K
  | .rol _::_,K=>exact Zf K
  | .int _::_,K=>exact Zf K
  | .ref _::_::_,K=>exact Zf K
end
noncomputable def Js9:IV->IH->Res ItI
 | .str x,h=>Jy3 (.str x) h
 | v,h=>itOf v h
noncomputable def iAny (e:E1):I1:=λ σ h=>(e σ h).bind Js9
theorem Jyu {ce:Str->Option Addr}{X:Cx}{tg l:Expr}{ml:E1}(hl:PEi ce X l ml):PIi ce X tg l (iAny ml):=by
 intro pins s σ H ι σi h Q E N K
 cases e0:ml σi h with
 | ok v h' =>
  cases v with
  | str x=>exact Js4 (tg:=tg) hl pins s σ H ι σi h Q E N (by unfold iStr;unfold iAny at K;rw[e0] at K ⊢;exact K)
  | _=>exact Jvt (tg:=tg) hl pins s σ H ι σi h Q E N (by unfold iVal;unfold iAny at K;rw[e0] at K ⊢;exact K)
 | exc n h'=>exact Jvt (tg:=tg) hl pins s σ H ι σi h Q E N (by unfold iVal;unfold iAny at K;rw[e0] at K ⊢;exact K)
 | stuck=>exact Jvt (tg:=tg) hl pins s σ H ι σi h Q E N (by unfold iVal;unfold iAny at K;rw[e0] at K ⊢;exact K)
section
variable {ce:Str->Option Addr}{X:Cx}
theorem x_sl:SlI ce X slI:=by
 intro pins s σ H ι σi h x v vl vu lo hi sl Q E N rx hs pl pu K
 obtain⟨xv,rx,qx⟩:=rx
 cases x with
 | ref i =>
  obtain⟨a,e1,ha⟩:=qx
  subst e1
  dsimp only[slI] at K
  cases hi':h[i]? with
  | none=>rw[hi'] at K;exact Zf K
  | some ob =>
   rw[hi'] at K
   cases ob with
   | lst xs =>
    obtain⟨vs,e1,r1⟩:=N.at hi' ha
    exact Jw7 (Jwt (X:=X.wish E)) N.inv rx hs pl pu ⟨a,vs,rfl,SqL.of e1,λ p hp=>finA N K p hp ⟨_,Je,RVs.new hp (r1.cut lo hi)⟩⟩
   | _=>exact Zf K
 | rol xs =>
  obtain⟨a,vs,e1,sa,ra⟩:=qx
  subst e1
  exact Jw7 (Jwt (X:=X.wish E)) N.inv rx hs pl pu ⟨a,vs,rfl,sa.sq,λ p hp=>finA N K p hp ⟨_,Je,RVs.new hp (ra.cut lo hi)⟩⟩
 | tup xs =>
  obtain⟨a,vs,e1,sa,ra⟩:=qx
  subst e1
  dsimp only[slI] at K
  by_cases hw:HT.sIx xs.length 0 lo=0/\HT.sIx xs.length xs.length hi=xs.length
  ·rw[if_pos hw] at K
   exact Zf K
  ·rw[if_neg hw] at K
   exact Jw7 (J7a (X:=X.wish E)) N.inv rx hs pl pu ⟨a,vs,rfl,sa,by rw[ra.length];exact hw,λ p hp=>finT N K p hp (ra.cut lo hi)⟩
 | _=>exact Zf K
noncomputable def revI:IV->IH->Res IV
 | .ref i,h=>match h[i]? with
  | some (.lst xs)=>.ok (.ref h.length) (h++[.lst xs.reverse])
  | _=>.stuck
 | .rol xs,h=>.ok (.ref h.length) (h++[.lst xs.reverse])
 | _,_=>.stuck
noncomputable def Jkf:IV->IH->Res IV
 | .ref i,h=>match h[i]? with
  | some (.lst xs)=>.ok (.ref h.length) (h++[.lst xs])
  | _=>.stuck
 | .rol xs,h=>.ok (.ref h.length) (h++[.lst xs])
 | .tup xs,h=>.ok (.ref h.length) (h++[.lst xs])
 | _,_=>.stuck
theorem J45:Ji3 ce X (.type "list") (on1 Jkf):=Jqe λ pins s σ H ι σi h x xv u Q E N ru qx K=>by
 cases x with
 | ref i =>
  obtain⟨a,e1,ha⟩:=qx
  subst e1
  dsimp only[Jkf] at K
  cases hi:h[i]? with
  | none=>rw[hi] at K;exact Zf K
  | some ob =>
   rw[hi] at K
   cases ob with
   | lst xs =>
    obtain⟨vs,e1,r1⟩:=N.at hi ha
    exact Jar (Jew (X:=X.wish E)) N.inv (.cons ru .nil) ⟨a,vs,rfl,.inl (SqL.of e1),λ p hp=>finA N K p hp ⟨_,Je,RVs.new hp r1⟩⟩
   | _=>exact Zf K
 | rol xs =>
  obtain⟨a,vs,e1,sa,ra⟩:=qx
  subst e1
  exact Jar (Jew (X:=X.wish E)) N.inv (.cons ru .nil) ⟨a,vs,rfl,.inl sa.sq,λ p hp=>finA N K p hp ⟨_,Je,RVs.new hp ra⟩⟩
 | tup xs =>
  obtain⟨a,vs,e1,sa,ra⟩:=qx
  subst e1
  exact Jar (Jew (X:=X.wish E)) N.inv (.cons ru .nil) ⟨a,vs,rfl,.inr sa,λ p hp=>finA N K p hp ⟨_,Je,RVs.new hp ra⟩⟩
 | _=>exact Zf K
noncomputable def Jku:IV->IH->Res IV
 | .ref i,h=>match h[i]? with
  | some (.lst xs)=>.ok (.tup xs) h
  | _=>.stuck
 | .tup xs,h=>.ok (.tup xs) h
 | _,_=>.stuck
theorem J14:Ji3 ce X (.type "tuple") (on1 Jku):=Jqe λ pins s σ H ι σi h x xv u Q E N ru qx K=>by
 cases x with
 | ref i =>
  obtain⟨a,e1,ha⟩:=qx
  subst e1
  dsimp only[Jku] at K
  cases hi:h[i]? with
  | none=>rw[hi] at K;exact Zf K
  | some ob =>
   rw[hi] at K
   cases ob with
   | lst xs =>
    obtain⟨vs,e1,r1⟩:=N.at hi ha
    exact Jar (Jhf (X:=X.wish E)) N.inv (.cons ru .nil) ⟨a,vs,rfl,.inl ⟨SqL.of e1,λ p hp=>finT N K p hp r1⟩⟩
   | _=>exact Zf K
 | tup xs =>
  have qx':=qx
  obtain⟨a,vs,e1,sa,ra⟩:=qx
  subst e1
  exact Jar (Jhf (X:=X.wish E)) N.inv (.cons ru .nil) ⟨a,vs,rfl,.inr ⟨sa,fin0 N K qx'⟩⟩
 | _=>exact Zf K
noncomputable def intI:IV->IH->Res IV
 | .int i,h=>.ok (.int i) h
 | .bl b,h=>.ok (.int (if b then 1 else 0)) h
 | _,_=>.stuck
noncomputable def strI:IV->IH->Res IV
 | .int i,h=>if i.natAbs.log2<1920 then .ok (.str (toString i)) h else .stuck
 | _,_=>.stuck
noncomputable def Jn4:List IV->Option (List Bool)
 | []=>some []
 | .bl b::r=>(Jn4 r).map (b:: ·)
 | _::_=>none
noncomputable def allI:IV->IH->Res IV
 | .ref i,h=>match h[i]? with
  | some (.lst xs)=>(match Jn4 xs with
   | some bs=>.ok (.bl (bs.all id)) h
   | none=>.stuck)
  | _=>.stuck
 | _,_=>.stuck
noncomputable def anyI:IV->IH->Res IV
 | .ref i,h=>match h[i]? with
  | some (.lst xs)=>(match Jn4 xs with
   | some bs=>.ok (.bl (bs.any id)) h
   | none=>.stuck)
  | _=>.stuck
 | _,_=>.stuck
theorem Jrr {K:W.Frag}{ι:List Addr}{H:Hp}:∀{xs:List IV}{bs:List Bool}{vs:List V}{us:List Value},Jn4 xs=some bs->RVs K ι H xs vs->Vals vs us->us=bs.map Value.bool
 | [],bs,vs,us,e,q,r=>by
  cases e
  have e1:vs=[]:=q
  subst e1
  cases r
  rfl
 | x::xs,bs,vs,us,e,q,r=>by
  obtain⟨v,vr,e1,q1,q2⟩:=q
  subst e1
  cases r with
  | cons r1 r2 =>
   cases x with
   | bl b =>
    obtain⟨b2,e2,rfl⟩:=Option.map_eq_some_iff.mp (show(Jn4 xs).map (b:: ·)=some bs from e)
    cases (show v=.bl b from q1)
    cases r1
    rw[Jrr e2 q2 r2]
    rfl
   | _=>cases e
theorem Juk (bs:List Bool):((List.range bs.length).all λ i=>bs.getD i true)=bs.all id:=by
 induction bs with
 | nil=>rfl
 | cons b r ih =>
  rw[List.length_cons,List.range_succ_eq_map,List.all_cons,List.all_map,List.all_cons]
  have e:((List.range r.length).all ((λ i=>(b::r).getD i true)∘Nat.succ))=(List.range r.length).all λ i=>r.getD i true:=by
   congr 1
  rw[e,ih]
  rfl
theorem c_all (hh:X.A.handled=none):Ji3 ce X (.builtin "all") (on1 allI):=Jqe λ pins s σ H ι σi h x xv u Q E N ru qx K=>by
 cases x with
 | ref i =>
  obtain⟨a,e1,ha⟩:=qx
  subst e1
  cases ru
  dsimp only[allI] at K
  cases hi:h[i]? with
  | none=>rw[hi] at K;exact Zf K
  | some ob =>
   rw[hi] at K
   cases ob with
   | lst xs =>
    dsimp only at K
    cases hb:Jn4 xs with
    | none=>rw[hb] at K;exact Zf K
    | some bs =>
     rw[hb] at K
     obtain⟨vs,e1,r1⟩:=N.at hi ha
     obtain⟨its,rv,pl,hz⟩:=N.inv.list (SqL.of e1)
     have eu:=Jrr hb r1 rv
     subst eu
     refine call_all_walk (wpAny_pyIter_list pl.isList ?_)
     have hlt:a<s.heap.objs.size:=by obtain⟨o,_,ho,_⟩:=pl;exact Heap.lt_size ho
     have ne:a≠s.heap.objs.size:=Nat.ne_of_lt hlt
     refine⟨s.heap.objs.size,_,_,_,_,_,λ i=>bs.getD i true,rfl,Walks.list (prog:=X.prog) (w:=X.w) (A:=X.A.in1) hh s.heap.objs.size a ne (bs.map Value.bool).toArray,⟨⟨_,Heap.get?_push_size _ rfl,rfl,rfl⟩,?_⟩,?_,λ h' tk kk=>?_⟩
     ·obtain⟨o,n,ho,hc,_,hd⟩:=pl
      exact⟨o,Heap.get?_push_of_some _ ho,hc,n,hd⟩
     ·intro i v s' Q' E' hP hq
      simp only[List.getElem?_toArray,List.getElem?_map] at hP
      obtain⟨b,hb',rfl⟩:=Option.map_eq_some_iff.mp hP
      refine wpAny_truthy_bool ?_
      have:bs.getD i true=b:=by simp[List.getD,hb']
      rw[<- this]
      exact hq
     ·rw[show(bs.map Value.bool).toArray.size=bs.length by simp,Juk]
      have I1:Inv X pins σ H { s with heap:=s.heap.push { cls:=.type "list_iterator",data:=.fields #[.ref a,.int 0 0] } }:=N.inv.kept (t':=s.toks) λ b o e=>Heap.get?_push_of_some _ e
      have f:=N.inv.fpOk (Nat.le_refl _) (N.inv.hok.fresh (Nat.le_refl _))
      exact fin0 N K rfl _ _ (I1.turned (t':=tk) (it:=s.heap.objs.size) (λ b o hb e=>kk b o (by simpa using hb) e) f.1 f.2.1 f.2.2.2.1 f.2.2.2.2.1 f.2.2.2.2.2) rfl
   | _=>exact Zf K
 | _=>exact Zf K
noncomputable def MtI (ce:Str->Option Addr) (X:Cx) (T id:String) (g:IV->List IV->IH->Res IV):Prop :=
 ∀(pins:List (Addr×Obj)) (s:Shared) (σ:L2.St) (H:Hp) (ι:List Addr) (σi:ISt) (h:IH) (x:IV) (xs:List IV) (v:Value) (us:List Value) (Q:Value->Shared->Prop) (E:Value->Shared->Prop),Now ce X pins ι σi h σ H s->RU X.K ι H x v->RUs X.K ι H xs us ->
  Kont ce X RU pins ι σi σ H (g x xs h) Q E->wpAny (model X.prog X.w) X.A (call (.builtin id) (v::us)) Q E s
noncomputable def tyOk (T:String):IV->IH->Bool
 | .str _,_=>T=="str"
 | .int _,_=>T=="int"
 | .ref i,h=>match h[i]? with
  | some (.lst _)=>T=="list"
  | some (.dct _)=>T=="dict"
  | _=>false
 | .rol _,_=>T=="list"
 | _,_=>false
noncomputable def eBm (T:String) (g:IV->List IV->IH->Res IV) (o:E1) (a:A1):E1:=λ σ h=>(o σ h).bind λ x h1=>if tyOk T x h1=true then(a σ h1).bind λ xs h2=>g x xs h2 else .stuck
theorem J1p {pins:List (Addr×Obj)}{s:Shared}{σ:L2.St}{H:Hp}{ι:List Addr}{σi:ISt}{h:IH}{x:IV}{xv:V}{T:String}(N:Now ce X pins ι σi h σ H s) (q:RV X.K ι H x xv) (e:tyOk T x h=true):tyV X.K T xv H:=by
 cases x with
 | str y=>cases (show xv=.str y from q);exact beq_iff_eq.mp e
 | int y=>cases (show xv=.int y from q);exact beq_iff_eq.mp e
 | rol y =>
  obtain⟨a,vs,rfl,sa,_⟩:=q
  exact .inl ⟨beq_iff_eq.mp e,vs,sa.sq⟩
 | ref i =>
  obtain⟨a,rfl,ha⟩:=q
  cases hi:h[i]? with
  | none=>simp[tyOk,hi] at e
  | some ob =>
   cases ob with
   | lst xs =>
    simp only[tyOk,hi] at e
    obtain⟨vs,e1,_⟩:=N.at hi ha
    exact .inl ⟨beq_iff_eq.mp e,vs,SqL.of e1⟩
   | dct kvs =>
    simp only[tyOk,hi] at e
    obtain⟨vs,e1,_⟩:=N.at hi ha
    exact .inr (.inr (.inl ⟨beq_iff_eq.mp e,.inl ⟨vs,e1⟩⟩))
   | _=>simp[tyOk,hi] at e
 | _=>simp[tyOk] at e
variable {o a:Expr}{es:List Expr}{mo:E1}{ma:A1}{name:Str}{apos cpos:Pos}{T id:String}{g:IV->List IV->IH->Res IV}
theorem i_bm (pa:PlainAttrs T) (slot:Slot T name id) (hty:typeOf (.builtin id)=pure (.type "method_descriptor")) (hm:MtI ce X T id g) (ho:PEi ce X o mo) (ha:PAi ce X (a::es) ma)
  (hbase:attributeBase o name X.env (eval o X.env)=eval o X.env:=by rfl)
  (hfew:((backTo cpos (starEach (a::es) X.env)).all (λ x=>!x.1)&&(backToKw cpos (keywordEach [] X.env)).all (λ x=>x.1.isSome)
   && decide ((a::es).length+([]:List Keyword).length+(if ([]:List Keyword).isEmpty then 0 else 1)<30))=true:=by rfl)
  (hline:(apos.endLine==cpos.line)=true:=by rfl) (hs:starEach (a::es) X.env=(false,eval a X.env)::starEach es X.env:=by rfl) (hplain:(backTo cpos (starEach es X.env)).any (·.1)=false:=by rfl) :
  PEi ce X (.Call (.Attribute o name apos) (a::es) [] cpos) (eBm T g mo ma):=by
 intro pins s σ H ι σi h Q E N K
 refine wpAny_Call_method_late hbase hfew hline rfl (ho.run N K λ x h1 v s1 H1 ι1 N1 n1 r1 K1=>?_)
 by_cases hty1:tyOk T x h1=true
 ·rw[if_pos hty1] at K1
  obtain⟨xv,rx,qx⟩:=r1
  obtain⟨h1',h2'⟩:=J1q N1.inv rx (J1p N1 qx hty1)
  refine⟨T,id,pa,slot,hty,h1',h2',?_⟩
  have hA:=(ha cpos).run (Q1:=λ us s2=>wpAny (model X.prog X.w) X.A (call (.builtin id) (v::us)) Q E s2) N1 K1 λ xs h2 us s2 H2 ι2 N2 n2 r2 K2=>hm pins s2 σ H2 ι2 σi h2 x xs v us Q E N2 ⟨xv,rx,RV.mono n2 _ _ qx⟩ r2 K2
  rw[hs] at hA ⊢
  exact Calls.callWith_builtin (by show(false||(backTo cpos (starEach es X.env)).any (·.1))=false;rw[hplain]<;>rfl) (Calls.evalArgs_plain hA)
 ·rw[if_neg hty1] at K1
  exact Zf K1
theorem i_bm0 (pa:PlainAttrs T) (slot:Slot T name id) (hty:typeOf (.builtin id)=pure (.type "method_descriptor")) (hm:MtI ce X T id g) (ho:PEi ce X o mo)
  (hbase:attributeBase o name X.env (eval o X.env)=eval o X.env:=by rfl) (hline:(apos.endLine==cpos.line)=true:=by rfl):PEi ce X (.Call (.Attribute o name apos) [] [] cpos) (eBm T g mo aNil):=by
 intro pins s σ H ι σi h Q E N K
 refine wpAny_Call_method0_late hbase hline (ho.run N K λ x h1 v s1 H1 ι1 N1 n1 r1 K1=>?_)
 by_cases hty1:tyOk T x h1=true
 ·rw[if_pos hty1] at K1
  obtain⟨xv,rx,qx⟩:=r1
  obtain⟨h1',h2'⟩:=J1q N1.inv rx (J1p N1 qx hty1)
  exact⟨T,id,pa,slot,hty,h1',h2',Calls.callWith_builtin rfl (PySem.evalArgs_none (hm pins s1 σ H1 ι1 σi h1 x [] v [] Q E N1 ⟨xv,rx,qx⟩ .nil K1))⟩
 ·rw[if_neg hty1] at K1
  exact Zf K1
theorem J1s {pins:List (Addr×Obj)}{s:Shared}{σ:L2.St}{H:Hp}{Q:Value->Shared->Prop}{E:Value->Shared->Prop}{r:V->List V->Hp->VK->Prop}{x:V}{xs:List V}{v:Value}{us:List Value}(p:MtM (X.wish E) id r) (I:Inv X pins σ H s) (rx:RelV x v) (rs:Vals xs us)
  (k:r x xs H λ z H'=>∀u s',Inv X pins σ H' s'->RelV z u->Q u s'):wpAny (model X.prog X.w) X.A (call (.builtin id) (v::us)) Q E s :=
 wpAny_mono (p pins s σ H x xs v us _ (I.wish E) rx rs k) (λ u s' ⟨_,_,I',r,q⟩=>q u s' I'.unwish r) λ _ _ z=>z
theorem finW {pins:List (Addr×Obj)}{s:Shared}{σ:L2.St}{H:Hp}{ι:List Addr}{σi:ISt}{h:IH}{i:Nat}{b:Addr}{ys:List IV}{vs ws:List V}{v:IV}{w:V}{Q:Value->Shared->Prop}{E:Value->Shared->Prop}(N:Now ce X pins ι σi h σ H s) (K:Kont ce X RU pins ι σi σ H (.ok v (h.set i (.lst ys))) Q E)
  (hb:ι[i]?=some b) (eH:H b=some (.lst vs)) (r:RVs X.K ι H ys ws) (q:RV X.K ι H v w):∀u s',Inv X pins σ (upd H b (.lst ws)) s'->RelV w u->Q u s':=λ u s' I ru=>by
 have n:Nxt ι H ι (upd H b (.lst ws)):=⟨⟨[],by simp⟩,Ext.upd_mut eH (by rw[eH];exact True.intro)⟩
 obtain⟨R,_⟩:=N.rel.write (o:=.lst ws) (io:=.lst ys) hb eH (by rw[eH];exact True.intro) ⟨_,Je,RVs.mono n _ _ r⟩
 exact K u s' _ ι ⟨I,R,N.st.mono n⟩ n ⟨w,ru,RV.mono n _ _ q⟩
noncomputable def Jh5:IV->List IV->IH->Res IV
 | .ref i,[y],h=>match h[i]? with
  | some (.lst xs)=>if xs.length<sizeLine then .ok .non (h.set i (.lst (xs++[y]))) else .stuck
  | _=>.stuck
 | _,_,_=>.stuck
theorem Jzc:MtI ce X "list" "list.append" Jh5:=by
 intro pins s σ H ι σi h x xs v us Q E N rx rs K
 obtain⟨xv,rx,qx⟩:=rx
 obtain⟨vs,rv,qs⟩:=rs
 cases x with
 | ref i =>
  match xs,K with
  | [y],K =>
   obtain⟨a,rfl,ha⟩:=qx
   obtain⟨w,rfl,qw⟩:=qs.one_of
   dsimp only[Jh5] at K
   cases hi:h[i]? with
   | none=>rw[hi] at K;exact Zf K
   | some ob =>
    rw[hi] at K
    cases ob with
    | lst zs =>
     dsimp only at K
     split at K
     ·rename_i hz
      obtain⟨ws,e1,r1⟩:=N.at hi ha
      exact J1s (Jo0 (X:=X.wish E)) N.inv rx rv ⟨a,ws,w,rfl,rfl,e1,by rw[r1.length];exact hz,finW N K ha e1 (r1.append (RVs.one qw)) rfl⟩
     ·exact Zf K
    | _=>exact Zf K
  | [],K=>exact Zf K
  | _::_::_,K=>exact Zf K
 | _=>cases xs<;>exact Zf K
noncomputable def setI:IV->IV->IV->ISt->IH->SRes
 | .ref i,.int k,v,σ,h=>match h[i]? with
  | some (.lst xs)=>(match ixN xs.length k with
   | some j=>.next σ (h.set i (.lst (xs.set j v)))
   | none=>.stuck)
  | _=>.stuck
 | _,_,_,_,_=>.stuck
noncomputable def gSb (o i:E1):G1:=λ v σ h=>rS σ (o σ h) λ ov h1=>rS σ (i σ h1) λ iv h2=>setI ov iv v σ h2
theorem g_sub {oe ie:Expr}{mo mi:E1}{pos:Pos}(ho:PEi ce X oe mo) (hi:PEi ce X ie mi)
  (ha:∀v,assign (.Subscript oe ie pos) X.env v=(do
   let ov<-holding [v] (eval oe X.env)
   let iv<-holding [v,ov] (eval ie X.env)
   standAt pos
   holding [v,ov,iv] (setItem ov iv v)
   release [v,ov,iv] []):=by intro _;rfl):PGi ce X (.Subscript oe ie pos) (gSb mo mi):=by
 intro pins s σ H ι σi h v u Q E N r K
 rw[ha]
 refine wpAny_bind (wpAny_holding (krun ho N K λ ov h1 ou s1 H1 ι1 N1 n1 r1 K1=>?_))
 refine wpAny_bind (wpAny_holding (krun hi N1 K1 λ iv h2 iu s2 H2 ι2 N2 n2 r2 K2=>?_))
 have r':RU X.K ι2 H2 v u:=(r.mono n1).mono n2
 obtain⟨ox,ro,qo⟩:=r1.mono n2
 obtain⟨ix,ri,qi⟩:=r2
 obtain⟨vx,rvx,qv⟩:=r'
 refine wpAny_bind (wpAny_standAt (wpAny_bind (wpAny_holding ?_)))
 cases ov with
 | ref i =>
  cases iv with
  | int k =>
   obtain⟨a,rfl,haa⟩:=qo
   cases (show ix=.int k from qi)
   dsimp only[setI] at K2
   cases hh:h2[i]? with
   | none=>rw[hh] at K2;exact Zf K2
   | some ob =>
    rw[hh] at K2
    cases ob with
    | lst xs =>
     dsimp only at K2
     cases hj:ixN xs.length k with
     | none=>rw[hj] at K2;exact Zf K2
     | some j =>
      rw[hj] at K2
      obtain⟨ws,e1,r1'⟩:=N2.at hh haa
      refine wpAny_mono (Jz0 (X:=X.wish E) pins s2 σ H2 (.ref a) (.int k) vx ou iu u (λ H'=>H'=upd H2 a (.lst (ws.set j vx))) (N2.inv.wish E) ro ri rvx ⟨a,ws,k,j,rfl,rfl,e1,by rw[r1'.length];exact hj,rfl⟩) (λ _ s3 hq=>?_) λ _ _ z=>z
      obtain⟨H',I',rfl⟩:=hq
      have n:Nxt ι2 H2 ι2 (upd H2 a (.lst (ws.set j vx))):=⟨⟨[],by simp⟩,Ext.upd_mut e1 (by rw[e1];exact True.intro)⟩
      obtain⟨R3,_⟩:=N2.rel.write (o:=.lst (ws.set j vx)) (io:=.lst (xs.set j v)) haa e1 (by rw[e1];exact True.intro) ⟨_,Je,(RVs.mono n _ _ r1').set (RV.mono n _ _ qv) j⟩
      exact wpAny_release (K2 s3 σ _ ι2 ⟨I'.unwish,R3,N2.st.mono n⟩ n)
    | _=>exact Zf K2
  | _=>exact Zf K2
 | _=>cases iv<;>exact Zf K2
end
section
variable {ce:Str->Option Addr}{X:Cx}
noncomputable def keyI:IV->Option Key
 | .int i=>some (.inl i)
 | .str x=>some (.inr x)
 | _=>none
noncomputable def J5c (mk mv:E1):E1:=λ σ h=>(mk σ (h++[.dct []])).bind λ x h1=>(mv σ h1).bind λ y h2 =>
 match keyI x,h2[h.length]? with
 | some k,some (.dct [])=>.ok (.ref h.length) (h2.set h.length (.dct [(k,y)]))
 | _,_=>.stuck
theorem Jje {K:W.Frag}{ι:List Addr}{H:Hp}{x:IV}{v:V}{k:Key}(e:keyI x=some k) (r:RV K ι H x v):v=kV k:=by
 cases x with
 | int i=>cases e;exact r
 | str y=>cases e;exact r
 | _=>cases e
theorem J5p {ke ve:Expr}{mk mv:E1}{pos:Pos}(hk:PEi ce X ke mk) (hv:PEi ce X ve mv):PEi ce X (.Dict [some ke] [ve] pos) (J5c mk mv):=λ pins s σ H ι σi h Q E N K=>by
 have hn:=N.inv.hok.fresh (Nat.le_refl s.heap.objs.size)
 have I1:=N.inv.laid (a:=s.heap.objs.size) (o:=.dK []) (h':=s.heap.push { cls:=.type "dict",data:=.dict #[] }) (t':=s.toks) (λ _ _ q=>Heap.get?_push_of_some _ q) (Nat.le_refl _) (Jr0 s.heap N.inv.big)
 obtain⟨R1,n1⟩:=N.rel.alloc (o:=.dK []) (io:=.dct []) hn ⟨[],Je,rfl⟩
 have N1:Now ce X pins (ι++[s.heap.objs.size]) σi (h++[.dct []]) σ (upd H s.heap.objs.size (.dK [])) _:=⟨I1,R1,N.st.mono n1⟩
 have K1:=K.mono n1
 have h0:(ι++[s.heap.objs.size])[h.length]?=some s.heap.objs.size:=by rw[<- N.rel.len,List.getElem?_append_right (Nat.le_refl _)];simp
 refine wpAny_Dict_walk (knd:=Jbc X.prog X.w) rfl rfl (by simp) (by simp) (pairTrees_cons_walk (PX.run hk N1 K1 λ x h1 u s1 H1 ι1 N2 n2 r1 K2=>PX.run hv N2 K2 λ y h2 u2 s2 H2 ι2 N3 n3 r2 K3=>pairTrees_nil_walk ?_))
 have h1:ι2[h.length]?=some s.heap.objs.size:=by
  obtain⟨⟨l1,e1⟩,_⟩:=n2
  obtain⟨⟨l2,e2⟩,_⟩:=n3
  rw[e2,e1,List.append_assoc,List.getElem?_append_left (by simp[N.rel.len])]
  exact h0
 cases ek:keyI x with
 | none=>rw[ek] at K3;exact Zf K3
 | some k =>
  cases eh:h2[h.length]? with
  | none=>rw[ek,eh] at K3;exact Zf K3
  | some ob =>
   rw[ek,eh] at K3
   cases ob with
   | dct kvs =>
    cases kvs with
    | cons _ _=>exact Zf K3
    | nil =>
     obtain⟨vs0,e,r0⟩:=N3.at eh h1
     cases (show vs0=[] from r0)
     obtain⟨xv,rx,qx⟩:=r1
     obtain⟨yv,ry,qy⟩:=r2
     cases Jje ek qx
     obtain⟨rs,c,rk⟩:=Jln (P:=X.prog) (w:=X.w) (kvs:=[(k,yv)]) (ws:=[(u,u2)]) (.cons ⟨rx,ry⟩ .nil)
     obtain⟨z,hd,ws0,r0',dd⟩:=Jye N3.inv.hok e
     cases r0'
     refine⟨rs,c,dd,λ h' dd' hs=>?_⟩
     have hz:(Jlw [] [(k,yv)]).length<=sizeLine:=by
      have h1:=Jhs [(k,yv)] []
      rw[sizeLine_eq];simp at h1;omega
     have he:∃q,h'.get? s.heap.objs.size=some q:=let ⟨q,_,_,hq,_⟩:=dd';⟨q,hq⟩
     have I4:=Jqj (t':=s2.toks+1) N3.inv (by rw[e];exact True.intro) hs he (Ju9 hz hd (rk.merge .nil) dd')
     have n:Nxt ι2 H2 ι2 (upd H2 s.heap.objs.size (.dK (Jlw [] [(k,yv)]))):=⟨⟨[],by simp⟩,Ext.upd_mut e (by rw[e];exact True.intro)⟩
     obtain⟨R4,_⟩:=N3.rel.write (o:=.dK (Jlw [] [(k,yv)])) (io:=.dct [(k,y)]) h1 e (by rw[e];exact True.intro) ⟨_,Je,yv,[],rfl,RV.mono n _ _ qy,rfl⟩
     exact K3 _ _ _ ι2 ⟨I4,R4,N3.st.mono n⟩ n ⟨.ref _,rfl,_,rfl,h1⟩
   | _=>exact Zf K3
noncomputable def maxI:IV->IV->IH->Res IV
 | .int i,.int j,h=>.ok (.int (if j>i then j else i)) h
 | _,_,_=>.stuck
noncomputable def minI:IV->IV->IH->Res IV
 | .int i,.int j,h=>.ok (.int (if j<i then j else i)) h
 | _,_,_=>.stuck
theorem c_max (hc:X.calm=true):Ji3 ce X (.builtin "max") (on2 maxI):=by
 intro pins s σ H ι σi h xs us Q E N r K
 obtain⟨vs,rv,q⟩:=r
 match xs,K with
 | [x,y],K =>
  obtain⟨v,w,rfl,qx,qy⟩:=q.two_of
  cases x with
  | int i =>
   cases y with
   | int j =>
    cases (show v=.int i from qx)
    cases (show w=.int j from qy)
    exact Jar (Juz (X:=X.wish E) hc) N.inv rv ⟨i,j,rfl,fin0 N K rfl⟩
   | _=>exact Zf K
  | _=>cases y<;>exact Zf K
 | [],K=>exact Zf K
 | [_],K=>exact Zf K
 | _::_::_::_,K=>exact Zf K
theorem c_min (hc:X.calm=true):Ji3 ce X (.builtin "min") (on2 minI):=by
 intro pins s σ H ι σi h xs us Q E N r K
 obtain⟨vs,rv,q⟩:=r
 match xs,K with
 | [x,y],K =>
  obtain⟨v,w,rfl,qx,qy⟩:=q.two_of
  cases x with
  | int i =>
   cases y with
   | int j =>
    cases (show v=.int i from qx)
    cases (show w=.int j from qy)
    exact Jar (Ju0 (X:=X.wish E) hc) N.inv rv ⟨i,j,rfl,fin0 N K rfl⟩
   | _=>exact Zf K
  | _=>cases y<;>exact Zf K
 | [],K=>exact Zf K
 | [_],K=>exact Zf K
 | _::_::_::_,K=>exact Zf K
noncomputable def Jnp:List IV->Option (List Str)
 | []=>some []
 | .str x::r=>(Jnp r).map (x:: ·)
 | _=>none
theorem Jw0 {K:W.Frag}{ι:List Addr}{H:Hp}:∀{xs:List IV}{zs:List Str}{vs:List V}{us:List Value},Jnp xs=some zs->RVs K ι H xs vs->Vals vs us->∃l:List (Str×Tok),us=strValues l/\l.map (·.1)=zs
 | [],zs,vs,us,e,q,r=>by
  cases e
  have e1:vs=[]:=q
  subst e1
  cases r
  exact⟨[],rfl,rfl⟩
 | x::xs,zs,vs,us,e,q,r=>by
  obtain⟨v,vr,e1,q1,q2⟩:=q
  subst e1
  cases r with
  | cons r1 r2 =>
   cases x with
   | str y =>
    obtain⟨z2,e2,rfl⟩:=Option.map_eq_some_iff.mp (show(Jnp xs).map (y:: ·)=some zs from e)
    cases (show v=.str y from q1)
    obtain⟨t,rfl⟩:=r1
    obtain⟨l,rfl,hl⟩:=Jw0 e2 q2 r2
    exact⟨(y,t)::l,rfl,by rw[List.map_cons,hl]⟩
   | _=>cases e
end
noncomputable def Jd8:List IV->Option (List Int)
 | []=>some []
 | .int i::r=>(Jd8 r).map (i:: ·)
 | _=>none
theorem Jig {K:W.Frag}{ι:List Addr}{H:Hp}:∀{xs:List IV}{ns:List Int}{vs:List V}{us:List Value},Jd8 xs=some ns->RVs K ι H xs vs->Vals vs us->IntsAre us ns
 | [],ns,vs,us,e,q,r=>by
  cases e
  have e1:vs=[]:=q
  subst e1
  cases r
  exact .nil
 | x::xs,ns,vs,us,e,q,r=>by
  obtain⟨v,vr,e1,q1,q2⟩:=q
  subst e1
  cases r with
  | cons r1 r2 =>
   cases x with
   | int i =>
    obtain⟨n2,e2,rfl⟩:=Option.map_eq_some_iff.mp (show(Jd8 xs).map (i:: ·)=some ns from e)
    cases (show v=.int i from q1)
    obtain⟨t,rfl⟩:=r1
    exact .cons i t (Jig e2 q2 r2)
   | _=>cases e
theorem Jgd:∀{us:List Value}{ns:List Int},IntsAre us ns->us.length=ns.length
 | _,_,.nil=>rfl
 | _,_,.cons _ _ r=>by simp[Jgd r]
section
variable {ce:Str->Option Addr}{X:Cx}
noncomputable def sumI:IV->IH->Res IV
 | .ref i,h=>match h[i]? with
  | some (.lst xs)=>(match Jd8 xs with
   | some ns=>.ok (.int ns.sum) h
   | none=>.stuck)
  | _=>.stuck
 | _,_=>.stuck
theorem c_sum (hh:X.A.handled=none):Ji3 ce X (.builtin "sum") (on1 sumI):=Jqe λ pins s σ H ι σi h x xv u Q E N ru qx K=>by
 cases x with
 | ref i =>
  obtain⟨a,e1,ha⟩:=qx
  subst e1
  cases ru
  dsimp only[sumI] at K
  cases hi:h[i]? with
  | none=>rw[hi] at K;exact Zf K
  | some ob =>
   rw[hi] at K
   cases ob with
   | lst xs =>
    dsimp only at K
    cases hb:Jd8 xs with
    | none=>rw[hb] at K;exact Zf K
    | some ns =>
     rw[hb] at K
     obtain⟨vs,e1,r1⟩:=N.at hi ha
     obtain⟨its,rv,pl,hz⟩:=N.inv.list (SqL.of e1)
     have are:=Jig hb r1 rv
     obtain⟨ys,hy⟩:=are.allInts.items
     have pl':s.heap.IsList a (intItems ys):=hy▸pl.isList
     refine sum_intListG hh pl' λ h2 tk t2 kk=>?_
     have en:ns=ys.toList.map (·.1):=by
      have q1:=are.numsOf
      have q2:=congrArg (λ z:Array Value=>numsOf z.toList) hy
      simp only at q2
      rw[<- q1]
      exact q2.trans (nums_intItems ys)
     have es:preSum (numAt ys) ys.size=ns.sum:=by
      rw[preSum_eq,en,List.take_of_length_le (by simp)]
     rw[es]
     exact fin0 N K rfl _ _ (N.inv.kept (t':=tk) kk) ⟨_,rfl⟩
   | _=>exact Zf K
 | _=>exact Zf K
end
noncomputable def Jct (f:Nat->Int):Nat->Int
 | 0=>0
 | 1=>f 0
 | j+2=>if f (j+1)>Jct f (j+1) then f (j+1) else Jct f (j+1)
theorem Jik (f:Nat->Int){j:Nat}(hj:0<j):Jct f (j+1)=if f j>Jct f j then f j else Jct f j:=by
 cases j with
 | zero=>omega
 | succ j=>rfl
section
variable {pr:Program}{wd:World}{B:Around}{R:Result->Shared->Prop}{it:Addr}{fps wrs:List Addr}{n:Nat}{P:Nat->Value->Prop}{St:Nat->Heap->Prop}
noncomputable abbrev J1c (v:Value) (c:Nat):Obj:={ cls:=.type "list",dict:=none,data:=.seq #[v,v] c,slots:=#[] }
theorem Je7:(toString "max"++toString ".loop":String)="max.loop":=by decide
theorem J24 {kw:List (Str×Value)}(W:Walks pr wd B.in1 it fps wrs n P St) (f:Nat->Int) (hf:∀i v,P i v->∃t,v=.int (f i) t) (C:Addr) (hC:C∉fps) :
  ∀(r j:Nat) (z:Shared) (v:Value) (u:Tok) (c:Nat),n-j=r->0<j->j<=n->St j z.heap->v=.int (Jct f j) u->z.heap.get? C=some (J1c v c) ->
   (∀u h2 tk,(∀a o,a∉wrs->a≠C->z.heap.get? a=some o->h2.get? a=some o)->R (.ok (.ret (.int (Jct f n) u))) { z with heap:=h2,toks:=tk }) ->
   codeAny (model pr wd) B (.builtin "max.loop" ⟨[.ref it,.none,.ref C],kw⟩) R z:=by
 have hw:C∉wrs:=λ q=>hC (W.sub _ q)
 intro r
 induction r with
 | zero =>
  intro j z v u c hr h0 hj st ev gC fin
  obtain rfl:j=n:=by omega
  subst ev
  refine codeAny_builtin PySem.F.entry_max_loop ?_
  rw[Around.under_plainId PySem.F.plain_max_loop _]
  show wpAny _ B.in1 (seqItems? (.ref C)>>=_) _ _ z
  refine wpAny_bind (wpAny_seqItems gC rfl ?_)
  show wpAny _ B.in1 (tryCatch (pyNext (.ref it)) _>>=_) _ _ z
  refine wpAny_bind (wpAny_tryCatch (W.done z _ _ st λ h2 tk keep=>?_))
  have gC2:=keep C _ hw gC
  show wpAny _ B.in1 (updateSeq C (λ _=>#[])>>=_) _ _ _
  refine wpAny_bind ?_
  refine wpAny_updateSeq gC2 rfl (wpAny_bind (wpAny_letGo (wpAny_pure ?_)))
  exact fin u _ tk λ a o ha hb e=>(Heap.get?_update_other _ _ (Ne.symm hb)).trans (keep a o ha e)
 | succ r ih =>
  intro j z v u c hr h0 hj st ev gC fin
  have lt:j<n:=by omega
  subst ev
  refine codeAny_builtin PySem.F.entry_max_loop ?_
  rw[Around.under_plainId PySem.F.plain_max_loop _]
  show wpAny _ B.in1 (seqItems? (.ref C)>>=_) _ _ z
  refine wpAny_bind (wpAny_seqItems gC rfl ?_)
  show wpAny _ B.in1 (tryCatch (pyNext (.ref it)) _>>=_) _ _ z
  refine wpAny_bind (wpAny_tryCatch (W.item j z _ _ lt st λ y h2 tk hP st2 keep=>?_))
  obtain⟨t,rfl⟩:=hf j y hP
  have gC2:=keep C _ hw gC
  have cmp:=CmpOf.ints_gt (prog:=pr) (w:=wd) (A:=B.in1) (P:=λ i v=>∃t,v=.int (if i=0 then f j else Jct f j) t) (λ i=>if i=0 then f j else Jct f j) (λ _ _ q=>q)
  show wpAny _ B.in1 (tryCatch (holding [Value.int (f j) t,Value.int (f j) t] (richCompare .Gt (.int (f j) t) (.int (Jct f j) u)>>=_)) _>>=_) _ _ _
  refine wpAny_bind (wpAny_tryCatch (wpAny_holding (wpAny_bind (cmp 0 1 _ _ _ _ _ ⟨t,by simp⟩ ⟨u,by simp⟩ ?_))))
  refine wpAny_bind (wpAny_holding (wpAny_truthy_bool ?_))
  refine wpAny_bind (wpAny_letGo (wpAny_pure ?_))
  have step:=Jik f h0
  by_cases hb:f j>Jct f j
  ·rw[if_pos hb] at step
   simp only[if_true,show ¬(1:Nat)=0 by decide,if_false,decide_eq_true hb]
   refine wpAny_bind ?_
   refine wpAny_updateSeq gC2 rfl (wpAny_bind (wpAny_letGo ?_))
   rw[Je7]
   refine wpAny_pure ⟨plainId_quiet PySem.F.plain_max_loop _,ih (j+1) _ (.int (f j) t) t _ (by omega) (by omega) lt (W.frame _ _ _ st2 λ a ha o e=>?_) (by rw[step]) (Heap.get?_update_self _ gC2 rfl) λ u2 h3 tk3 k3=>?_⟩
   ·exact(Heap.get?_update_other _ _ (λ q:C=a=>hC (by rw[q];exact ha))).trans e
   ·exact fin u2 h3 tk3 λ a o ha hc e=>k3 a o ha hc ((Heap.get?_update_other _ _ (Ne.symm hc)).trans (keep a o ha e))
  ·rw[if_neg hb] at step
   simp only[if_true,show ¬(1:Nat)=0 by decide,if_false,decide_eq_false hb,Bool.false_eq_true]
   refine wpAny_bind (wpAny_letGo ?_)
   rw[Je7]
   refine wpAny_pure ⟨plainId_quiet PySem.F.plain_max_loop _,ih (j+1) _ (.int (Jct f j) u) u c (by omega) (by omega) lt st2 (by rw[step]) gC2 λ u2 h3 tk3 k3=>?_⟩
   exact fin u2 h3 tk3 λ a o ha hc e=>k3 a o ha hc (keep a o ha e)
end
theorem Jun (a v:Value):argsOk "max" ⟨[a],[(Str.ofString "default",v)]⟩:=by unfold argsOk;kernel_rfl
section
variable {pr:Program}{wd:World}{B:Around}{E:Value->Shared->Prop}{z:Shared}{l:Addr}{us:List Value}{ns:List Int}{d:Option Value}{Q:Value->Shared->Prop}{kw:List (Str×Value)}
noncomputable def MaxIs (ns:List Int) (d:Option Value) (v:Value):Prop:=(ns=[]/\d=some v)∨(ns≠[]/\∃u,v=.int (Jct (λ i=>ns.getD i 0) ns.length) u)
theorem Jwi (hk:Builtin.Builtins.bindParams "max" ["key","default"] 0 ⟨[],kw⟩=pure [none,d]) (ha:argsOk "max" ⟨[.ref l],kw⟩) (hn:ns=[]->∃v,d=some v) (hh:B.handled=none) (hl:z.heap.IsList l us.toArray) (hi:IntsAre us ns)
  (hQ:∀v h2 tk,MaxIs ns d v->(∀b o,z.heap.get? b=some o->h2.get? b=some o)->Q v { z with heap:=h2,toks:=tk }) :
  wpAny (model pr wd) B (call (.builtin "max") [.ref l] kw) Q E z:=by
 obtain⟨ol,hol,_⟩:=id hl
 have lt:l<z.heap.objs.size:=Heap.lt_size hol
 have ll:=Jgd hi
 refine kmk_tree PySem.F.kind_max PySem.F.plain_max PySem.F.entry_max ha ?_
 show wpAny _ B.in1 (Builtin.Builtins.bindParams "max" ["key","default"] 0 ⟨[],kw⟩>>=_) _ _ z
 refine wpAny_bind (wpAny_of_eq hk ?_)
 refine wpAny_bind (wpAny_pure ?_)
 refine wpAny_bind (wpAny_pyIter_list hl ?_)
 refine wpAny_bind (wpAny_newList ?_ (Nat.zero_le _))
 rw[Je7]
 have ne:l≠z.heap.objs.size:=Nat.ne_of_lt lt
 have W:=Walks.list (prog:=pr) (w:=wd) (A:=B.in1) hh z.heap.objs.size l ne us.toArray
 have sz:us.toArray.size=us.length:=List.size_toArray ..
 have hS:(z.heap.push { cls:=.type "list_iterator",data:=.fields #[.ref l,.int 0 0] }).objs.size=z.heap.objs.size+1:=size_push' ..
 have hC:(z.heap.push { cls:=.type "list_iterator",data:=.fields #[.ref l,.int 0 0] }).objs.size∉[z.heap.objs.size,l]:=by
  rw[hS]
  simp only[List.mem_cons,List.not_mem_nil,or_false,not_or]
  exact⟨Nat.ne_of_gt (Nat.lt_succ_self _),Nat.ne_of_gt (Nat.lt_succ_of_lt lt)⟩
 have hw:(z.heap.push { cls:=.type "list_iterator",data:=.fields #[.ref l,.int 0 0] }).objs.size∉[z.heap.objs.size]:=by
  rw[hS]
  simp only[List.mem_cons,List.not_mem_nil,or_false]
  exact Nat.ne_of_gt (Nat.lt_succ_self _)
 have old:∀b o,z.heap.get? b=some o->((z.heap.push { cls:=.type "list_iterator",data:=.fields #[.ref l,.int 0 0] }).push (seqObj "list" #[] 0)).get? b=some o:=λ b o e=>Heap.get?_push_of_some _ (Heap.get?_push_of_some _ e)
 have gI:((z.heap.push { cls:=.type "list_iterator",data:=.fields #[.ref l,.int 0 0] }).push (seqObj "list" #[] 0)).get? z.heap.objs.size=some { cls:=.type "list_iterator",data:=.fields #[.ref l,.int 0 0] }:=Heap.get?_push_of_some _ (Heap.get?_push_size _ rfl)
 have gC:((z.heap.push { cls:=.type "list_iterator",data:=.fields #[.ref l,.int 0 0] }).push (seqObj "list" #[] 0)).get? (z.heap.push { cls:=.type "list_iterator",data:=.fields #[.ref l,.int 0 0] }).objs.size=some (seqObj "list" #[] 0):=Heap.get?_push_size _ rfl
 have notin:∀b o,z.heap.get? b=some o->b∉[z.heap.objs.size]:=λ b o e q=>Nat.ne_of_lt (Heap.lt_size e) (List.mem_singleton.mp q)
 have notC:∀b o,z.heap.get? b=some o->b≠(z.heap.push { cls:=.type "list_iterator",data:=.fields #[.ref l,.int 0 0] }).objs.size:=λ b o e=>by rw[hS];exact Nat.ne_of_lt (Nat.lt_succ_of_lt (Heap.lt_size e))
 refine wpAny_pure ⟨plainId_quiet PySem.F.plain_max_loop _,codeAny_builtin PySem.F.entry_max_loop ?_⟩
 rw[Around.under_plainId PySem.F.plain_max_loop _]
 show wpAny _ B.in1 (seqItems? (.ref _)>>=_) _ _ _
 refine wpAny_bind (wpAny_seqItems gC rfl ?_)
 show wpAny _ B.in1 (tryCatch (pyNext (.ref z.heap.objs.size)) _>>=_) _ _ _
 by_cases h0:us.length=0
 ·refine wpAny_bind (wpAny_tryCatch (W.done _ _ _ (by rw[sz,h0];exact⟨⟨_,gI,rfl,rfl⟩,(hl.push _).push _⟩) λ h2 tk keep=>?_))
  obtain⟨v,rfl⟩:=hn (List.eq_nil_of_length_eq_zero (by omega))
  show wpAny _ B.in1 (rule _>>=_) _ _ _
  refine wpAny_bind (wpAny_rule (wpAny_pure ?_))
  refine hQ v h2 tk (.inl ⟨List.eq_nil_of_length_eq_zero (by omega),rfl⟩) λ b o e=>keep b o (notin b o e) (old b o e)
 ·refine wpAny_bind (wpAny_tryCatch (W.item 0 _ _ _ (by rw[sz];omega) ⟨⟨_,gI,rfl,rfl⟩,(hl.push _).push _⟩ λ y h2 tk hP st2 keep=>?_))
  have gC2:=keep _ _ hw gC
  show wpAny _ B.in1 (updateSeq (z.heap.push { cls:=.type "list_iterator",data:=.fields #[.ref l,.int 0 0] }).objs.size (λ _=>#[y,y])>>=_) _ _ _
  refine wpAny_bind ?_
  refine wpAny_updateSeq gC2 rfl ?_
  rw[Je7]
  have hf:∀(i:Nat) (v:Value),us.toArray[i]?=some v->∃t,v=.int ((λ i=>ns.getD i 0) i) t:=λ i v q=>IntsAre.int_at hi i v (by simpa using q)
  obtain⟨t,rfl⟩:=hf 0 y hP
  refine wpAny_pure ⟨plainId_quiet PySem.F.plain_max_loop _,J24 W (λ i=>ns.getD i 0) hf _ hC _ 1 _ _ t _ rfl (by decide) (by rw[sz];omega) (W.frame _ _ _ st2 λ a ha o e=>?_) rfl (Heap.get?_update_self _ gC2 rfl) λ u h3 tk3 k3=>?_⟩
  ·exact(Heap.get?_update_other _ _ (λ q=>hC (by rw[q];exact ha))).trans e
  ·rw[sz,ll]
   refine hQ _ h3 tk3 (.inr ⟨λ q=>h0 (by rw[ll,q];rfl),u,rfl⟩) λ b o e=>k3 b o (notin b o e) (notC b o e) ((Heap.get?_update_other _ _ (Ne.symm (notC b o e))).trans (keep b o (notin b o e) (old b o e)))
end
section
variable {ce:Str->Option Addr}{X:Cx}
noncomputable def maxD (ns:List Int) (d:IV):IV:=if ns=[] then d else .int (Jct (λ i=>ns.getD i 0) ns.length)
noncomputable def Jvb (aa:A1) (md:E1):E1:=λ σ h=>(aa σ h).bind λ xs h1=>(md σ h1).bind λ d h2=>match xs with
 | [.ref i]=>(match h2[i]? with
  | some (.lst ys)=>(match Jd8 ys with
   | some ns=>.ok (maxD ns d) h2
   | none=>.stuck)
  | _=>.stuck)
 | _=>.stuck
theorem J5w {a de:Expr}{aa:A1}{md:E1}{p pos kp:Pos}(hh:X.A.handled=none) (hg:Gl X "max") (hm:X.mg "max"=none) (ha:PAi ce X [a] aa) (hd:PEi ce X de md) (hs:starEach [a] X.env=[(false,eval a X.env)]) :
  PEi ce X (.Call (.Name "max" p) [a] [⟨some "default",de,kp⟩] pos) (Jvb aa md):=λ pins s σ H ι σi h Q E N K=>by
 refine wpAny_Call_Name_kw (Jcp N.inv hg hm rfl ?_)
 refine callWith_kw ?_ (by rw[hs];rfl) (by rw[hs];rfl) rfl rfl
 refine(ha pos).run N K λ xs h1 us s1 H1 ι1 N1 n1 r1 K1=>?_
 refine PyProof.Rows.evalAll_cons (wpAny_bind (PX.run hd N1 K1 λ d h2 du s2 H2 ι2 N2 n2 r2 K2=>wpAny_bind (wpAny_standAt (wpAny_pure (PyProof.Rows.evalAll_nil ?_)))))
 obtain⟨vs,rv,qs⟩:=r1.mono n2
 match xs,K2 with
 | [.ref i],K2 =>
  obtain⟨w,rfl,ad,rfl,hav⟩:=qs.one_of
  obtain⟨u,rfl,ru⟩:=Jnq rv
  cases ru
  dsimp only at K2
  cases hi:h2[i]? with
  | none=>rw[hi] at K2;exact Zf K2
  | some ob =>
   rw[hi] at K2
   cases ob with
   | lst ys =>
    dsimp only at K2
    cases hb:Jd8 ys with
    | none=>rw[hb] at K2;exact Zf K2
    | some ns =>
     rw[hb] at K2
     dsimp only at K2
     obtain⟨ws,e1,r3⟩:=N2.at hi hav
     obtain⟨its,rv2,pl,_⟩:=N2.inv.list (SqL.of e1)
     refine Jwi (d:=some du) rfl (Jun _ _) (λ _=>⟨_,rfl⟩) hh pl.isList (Jig hb r3 rv2) λ v h3 tk mi kk=>?_
     have N3:Now ce X pins ι2 σi h2 σ H2 { s2 with heap:=h3,toks:=tk }:=⟨N2.inv.kept (t':=tk) kk,N2.rel,N2.st⟩
     rcases mi with⟨e,ev⟩|⟨e,t,rfl⟩
     ·cases ev
      have em:maxD ns d=d:=if_pos e
      rw[em] at K2
      exact K2 _ _ _ _ N3 .refl r2
     ·have em:maxD ns d=.int (Jct (λ i=>ns.getD i 0) ns.length):=if_neg e
      rw[em] at K2
      exact K2 _ _ _ _ N3 .refl ⟨.int _,⟨t,rfl⟩,rfl⟩
   | _=>exact Zf K2
 | [],K2=>exact Zf K2
 | [.non],K2=>exact Zf K2
 | [.bl _],K2=>exact Zf K2
 | [.int _],K2=>exact Zf K2
 | [.str _],K2=>exact Zf K2
 | [.tup _],K2=>exact Zf K2
 | [.rol _],K2=>exact Zf K2
 | x::_::_,K2=>cases x<;>exact Zf K2
end
noncomputable def metB (f:Nat->Str) (i:Nat) (k:Str):Bool:=(List.range i).any λ j=>decide (k=f j)
noncomputable def cntD (f:Nat->Str):Nat->Nat
 | 0=>0
 | i+1=>if metB f i (f i) then cntD f i else cntD f i+1
theorem Jwf (f:Nat->Str) (i:Nat) (k:Str):metB f (i+1) k=(metB f i k||decide (k=f i)):=by simp[metB,List.range_succ]
theorem Jqi (f:Nat->Str):∀i,cntD f i<=i
 | 0=>Nat.le_refl _
 | i+1=>by
  have:=Jqi f i
  unfold cntD
  split<;>omega
section
variable {pr:Program}{wd:World}{B:Around}{R:Result->Shared->Prop}{it:Addr}{fps wrs:List Addr}{G:Array GenState->Array GenState->Prop}{n:Nat}{P:Nat->Value->Prop}{St:Nat->Shared->Prop}
noncomputable abbrev Jmg (pr:Program) (wd:World) (hp:Heap) (a:Addr) (f:Nat->Str) (i:Nat):Prop:=hp.SetOf (PySem.strKind pr wd) a (λ k=>metB f i k) (cntD f i)
theorem Jmg.moved {hp h2:Heap}{a:Addr}{f:Nat->Str}{i:Nat}(q:Jmg pr wd hp a f i) (m:∀o,hp.get? a=some o->h2.get? a=some o):Jmg pr wd h2 a f i:=by
 obtain⟨o,es,ep,t,ho,rest⟩:=q
 exact⟨o,es,ep,t,m o ho,rest⟩
theorem Jz1 (W:WalksS pr wd B.in1 it fps wrs G n P St) (C:Addr) (hC:C∉fps) (f:Nat->Str) (hf:∀i v,P i v->∃t,v=.str (f i) t) (room:n+1<scanBound) :
  ∀(r i:Nat) (z:Shared),n-i=r->i<=n->St i z->Jmg pr wd z.heap C f i->(∀z2,Moved (C::wrs) G z z2->Jmg pr wd z2.heap C f n->R (.ok (.ret .none)) z2) ->
   codeAny (model pr wd) B (.builtin "set.update.loop" ⟨[.ref C,.ref it],[]⟩) R z:=by
 have nw:C∉wrs:=λ q=>hC (W.sub _ q)
 have more:∀b∈wrs,b∈C::wrs:=λ b q=>List.mem_cons_of_mem _ q
 intro r
 induction r with
 | zero =>
  intro i z hr hi st hS fin
  obtain rfl:i=n:=by omega
  refine codeAny_builtin PyProof.Rows.F.entry_set_update_loop ?_
  rw[Around.under_plainId PyProof.Rows.F.plain_set_update_loop _]
  show wpAny _ B.in1 (pyNext (.ref it)>>=_) _ _ z
  refine wpAny_bind (W.done z _ _ st λ z2 mv=>?_)
  show wpAny _ B.in1 (ret Value.none) _ _ z2
  exact wpAny_pure (fin z2 (mv.mono more) (hS.moved λ o e=>mv.heap C _ nw e))
 | succ r ih =>
  intro i z hr hi st hS fin
  have lt:i<n:=by omega
  refine codeAny_builtin PyProof.Rows.F.entry_set_update_loop ?_
  rw[Around.under_plainId PyProof.Rows.F.plain_set_update_loop _]
  show wpAny _ B.in1 (pyNext (.ref it)>>=_) _ _ z
  refine wpAny_bind (W.item i z _ _ lt st λ v z2 hP st2 mv=>?_)
  obtain⟨t,rfl⟩:=hf i v hP
  have hS2:Jmg pr wd z2.heap C f i:=hS.moved λ o e=>mv.heap C _ nw e
  have ki:(PySem.strKind pr wd).is (f i) (.str (f i) t)=true:=strKind_is _ _ _ _
  show wpAny _ B.in1 (holding [Value.str (f i) t] (setAdd C (.str (f i) t))>>=_) _ _ z2
  refine wpAny_bind (wpAny_holding ?_)
  unfold setAdd
  refine wpAny_holding ?_
  refine wpAny_bind ((PySem.strKind pr wd).pyHash (k:=f i) ki ?_)
  have rm:cntD f i+1<scanBound:=by have:=Jqi f i;omega
  refine wpAny_setAddHashed_of (knd:=PySem.strKind pr wd) (s:={ z2 with toks:=z2.toks+1 }) ki rfl hS2 rm λ h3 sb hS3=>?_
  have hS4:Jmg pr wd h3 C f (i+1):=SetOf_congr hS3 (λ k=>(Jwf f i k).symm) (by show _=cntD f (i+1);rfl)
  refine wpAny_pure ⟨plainId_quiet PyProof.Rows.F.plain_set_update_loop _,ih (i+1) _ (by omega) lt (W.frame _ z2 _ _ st2 (Nat.le_succ _) λ b q o e=>?_) hS4 λ z5 m5 hS5=>?_⟩
  ·rw[sb.2 b (λ e2:b=C=>hC (by rw[<- e2];exact q))];exact e
  ·refine fin z5 (Moved.trans W.gtrans ((mv.mono more).then_heap (Nat.le_succ _) λ b o q e=>?_) m5) hS5
   rw[sb.2 b (λ e2:b=C=>q (by rw[e2];exact List.mem_cons_self))];exact e
end
section
variable {pr:Program}{wd:World}{B:Around}{E:Value->Shared->Prop}{z:Shared}{l:Addr}{us:List Value}{zs:List Str}{Q:Value->Shared->Prop}
noncomputable abbrev Je6 (led:Bool):Obj:={ cls:=.type "set",dict:=none,data:=.set #[] 0 (.fresh 0 0 led) }
noncomputable abbrev Jd5 (zs:List Str):Nat->Str:=λ i=>zs.getD i Str.empty
set_option maxRecDepth 100000 in
theorem Jzz {l2:List (Str×Tok)}(hh:B.handled=none) (hl:z.heap.IsList l us.toArray) (eu:us=strValues l2) (ez:l2.map (·.1)=zs) (room:zs.length+1<scanBound)
  (fin:∀(h2:Heap) (tk:Nat),Jmg pr wd h2 z.heap.objs.size (Jd5 zs) zs.length->(∀b o,z.heap.get? b=some o->h2.get? b=some o)->Q (.ref z.heap.objs.size) { z with heap:=h2,toks:=tk }) :
  wpAny (model pr wd) B (call (.type "set") [.ref l]) Q E z:=by
 have len:us.toArray.size=zs.length:=by rw[eu,<-ez];simp[strValues]
 have vals:∀(i:Nat) (v:Value),us.toArray[i]?=some v->∃t,v=.str (Jd5 zs i) t:=λ i v q=>by
  rw[eu] at q
  simp only[strValues,List.getElem?_toArray,List.getElem?_map] at q
  obtain⟨p,hp,rfl⟩:=Option.map_eq_some_iff.mp q
  refine⟨p.2,?_⟩
  rw[<- ez]
  simp[Jd5,List.getD_eq_getElem?_getD,List.getElem?_map,hp]
 obtain⟨c,tl,hmro⟩:=PySem.F.called_set.mro
 have hmade:=PySem.F.called_set.made
 have hsub:=PySem.F.called_set.sub
 refine wpAny_call (codeAny_of_tree ?_)
 show wpAny _ _ (callAny (.type "set") _) _ _ _
 refine wpAny_pure ⟨Code.quiet_builtin _ (by decide +kernel),codeAny_builtin PySem.F.entry_type_call ?_⟩
 rw[Around.under_plain (weight_type_call_type "set" [.ref l] []) rfl]
 have no1:=PySem.F.called_set.notType
 have no2:=PySem.F.called_set.canCreate
 have ok1:=PySem.F.typeCall_set_1 (.ref l)
 repeat (any_goals (first|assumption|wp_step))
 refine codeAny_mono (code_set_new_1 (.ref l) (E:=E) (Q₁:=λ obj z1=>∃led:Bool,obj=.ref z.heap.objs.size/\z1={ z with heap:=z.heap.push (Je6 led) }) λ led=>⟨led,rfl,rfl⟩) λ res z1 hr=>?_
 cases res with
 | error e=>exact hr
 | ok fl =>
  cases fl with
  | ret obj =>
   obtain⟨led,rfl,rfl⟩:=hr
   have gS:(z.heap.push (Je6 led)).get? z.heap.objs.size=some (Je6 led):=Heap.get?_push_size _ rfl
   have tS:Shared.TypeIs { z with heap:=z.heap.push (Je6 led) } (.ref z.heap.objs.size) "set":=⟨_,gS,rfl⟩
   have in1:=PySem.F.called_set.init.lookup
   have in2:=PySem.F.called_set.init.bind (.ref z.heap.objs.size)
   repeat (any_goals (first|assumption|wp_step))
   refine codeAny_mono (codeAny_call_builtin (R:=wants (λ res z2=>res=.none/\∃h2 tk,z2={ z with heap:=h2,toks:=tk }/\Jmg pr wd h2 z.heap.objs.size (Jd5 zs) zs.length/\(∀b o,z.heap.get? b=some o->h2.get? b=some o)) E)
    PySem.F.called_set.init.plain PySem.F.entry_set_init (check_set_init_1 tS ?_)) λ res2 z2 hr2=>?_
   ·obtain⟨ol,hol,hcl,nl,hdl⟩:=hl
    obtain⟨ocls,odict,odata,oslots⟩:=ol
    simp only at hcl hdl
    subst hcl;subst hdl
    have gl:(z.heap.push (Je6 led)).get? l=some { cls:=.type "list",dict:=odict,data:=.seq us.toArray nl,slots:=oslots }:=Heap.get?_push_of_some _ hol
    have sb1:=PySem.F.sub_list_set
    have sb2:=PySem.F.sub_list_frozenset
    have dne:(Value.type "list"==Value.type "dict")=false:=by decide
    have hl1:(z.heap.push (Je6 led)).IsList l us.toArray:=⟨_,gl,rfl,nl,rfl⟩
    unfold Builtin.«set.__init__» noKeywords Builtin.Frozenset.updateFrom
    generalize hPI:pyIter=PI
    wp_walk
    subst hPI
    refine wpAny_pyIter_list hl1 ?_
    refine wpAny_bind (wpAny_runValue ?_)
    have lS:l<z.heap.objs.size:=Heap.lt_size hol
    have h3:B.in1.in1.in1.handled=none:=by simp[hh]
    have neI:l≠(z.heap.push (Je6 led)).objs.size:=by rw[Heap.size_push];exact Nat.ne_of_lt (Nat.lt_succ_of_lt lS)
    have nC:z.heap.objs.size∉[(z.heap.push (Je6 led)).objs.size,l]:=by
     rw[Heap.size_push]
     simp only[List.mem_cons,List.not_mem_nil,or_false,not_or]
     exact⟨Nat.ne_of_lt (Nat.lt_succ_self _),Nat.ne_of_gt lS⟩
    refine Jz1 ((Walks.list h3 _ l neI us.toArray).toS) z.heap.objs.size nC (Jd5 zs) vals (by rw[len];exact room) (us.toArray.size-0) 0 _ (by omega) (Nat.zero_le _) ⟨⟨_,Heap.get?_push_size _ rfl,rfl,rfl⟩,(hl1.push _)⟩ ?start ?stop
    case start =>
     have g0:((z.heap.push (Je6 led)).push { cls:=.type "list_iterator",data:=.fields #[.ref l,.int 0 0] }).get? z.heap.objs.size=some (Je6 led):=Heap.get?_push_of_some _ gS
     exact SetOf_congr ((setObjOf_fresh (knd:=PySem.strKind pr wd) led).setOf g0 (by unfold scanBound;omega)) (λ _=>rfl) rfl
    case stop =>
     intro z5 mv hS5
     obtain⟨h5,g5,d5,tk5,os5⟩:=z5
     have eg:g5=z.gens:=mv.gens
     have ed:d5=z.drawn:=mv.drawn
     have eo:os5=z.os:=mv.os
     subst eg;subst ed;subst eo
     show wpAny _ _ _ _ _ _
     refine wpAny_pure ?_
     show wpAny _ _ (ret Value.none) _ _ _
     rw[len] at hS5
     refine wpAny_pure ⟨rfl,h5,tk5,rfl,hS5,λ b o e=>?_⟩
     have lb:=Heap.lt_size e
     have b1:b≠z.heap.objs.size:=Nat.ne_of_lt lb
     have b2:b≠(z.heap.push (Je6 led)).objs.size:=by rw[Heap.size_push];exact Nat.ne_of_lt (Nat.lt_succ_of_lt lb)
     exact mv.heap b o (by simp only[List.mem_cons,List.not_mem_nil,or_false,not_or];exact⟨b1,b2⟩) (Heap.get?_push_of_some _ (Heap.get?_push_of_some _ e))
   ·cases res2 with
    | error e=>exact hr2
    | ok fl2 =>
     cases fl2 with
     | ret rv =>
      obtain⟨rfl,h2,tk,rfl,hS2,keep⟩:=hr2
      repeat (any_goals (first|assumption|wp_step))
      exact fin _ _ hS2 keep
     | _=>exact hr2.elim
  | _=>exact hr.elim
end
section
variable {ce:Str->Option Addr}{X:Cx}
noncomputable def Jj3 (aa:A1):E1:=λ σ h=>(aa σ h).bind λ xs h1=>match xs with
 | [.ref i]=>(match h1[i]? with
  | some (.lst ys)=>(match Jnp ys with
   | some zs=>if zs.length+1<scanBound then .ok (.int (cntD (Jd5 zs) zs.length)) h1 else .stuck
   | none=>.stuck)
  | _=>.stuck)
 | _=>.stuck
theorem Jyv {a:Expr}{aa:A1}{p pos p2 pos2:Pos}(hh:X.A.handled=none) (g1:Gl X "len") (m1:X.mg "len"=none) (g2:Gl X "set") (m2:X.mg "set"=none) (ha:PAi ce X [a] aa) (hs:starEach [a] X.env=[(false,eval a X.env)]) :
  PEi ce X (.Call (.Name "len" p) [.Call (.Name "set" p2) [a] [] pos2] [] pos) (Jj3 aa):=λ pins s σ H ι σi h Q E N K=>by
 refine wpAny_Call_Name_kw (Jcp N.inv g1 m1 rfl ?_)
 refine PyProof.Rows.callWith_builtin1 ?_ rfl rfl
 refine PyProof.Rows.spliced_more ?_
 refine wpAny_Call_Name_kw (Jcp N.inv g2 m2 rfl ?_)
 refine PyProof.Rows.callWith_type1 ?_ hs rfl
 refine(ha pos2).run N K λ xs h1 us s1 H1 ι1 N1 n1 r1 K1=>?_
 obtain⟨vs,rv,qs⟩:=r1
 match xs,K1 with
 | [.ref i],K1 =>
  obtain⟨w,rfl,ad,rfl,hav⟩:=qs.one_of
  obtain⟨u,rfl,ru⟩:=Jnq rv
  cases ru
  dsimp only at K1
  cases hi:h1[i]? with
  | none=>rw[hi] at K1;exact Zf K1
  | some ob =>
   rw[hi] at K1
   cases ob with
   | lst ys =>
    dsimp only at K1
    cases hb:Jnp ys with
    | none=>rw[hb] at K1;exact Zf K1
    | some zs =>
     rw[hb] at K1
     dsimp only at K1
     split at K1
     ·rename_i room
      obtain⟨ws,e1,r3⟩:=N1.at hi hav
      obtain⟨its,rv2,pl,_⟩:=N1.inv.list (SqL.of e1)
      obtain⟨l2,eu,ez⟩:=Jw0 hb r3 rv2
      refine Jzz hh pl.isList eu ez room λ h2 tk hS keep=>PyProof.Rows.spliced_none ?_
      obtain⟨o,es,ep,t,ho,hex,hd,hel,hmem,hbb,hf,hn⟩:=hS
      have fit:(es.size:Int)<2^63:=by
       have:=Jqi (Jd5 zs) zs.length
       have sb:scanBound<=2^40:=by unfold scanBound;decide
       omega
      refine call_len_set ho hex hd hf fit ?_
      rw[hn]
      exact K1 _ _ _ _ ⟨(N1.inv.kept (t':=_) keep),N1.rel,N1.st⟩ .refl ⟨.int _,⟨_,rfl⟩,rfl⟩
     ·exact Zf K1
   | _=>exact Zf K1
 | [],K1=>exact Zf K1
 | [.non],K1=>exact Zf K1
 | [.bl _],K1=>exact Zf K1
 | [.int _],K1=>exact Zf K1
 | [.str _],K1=>exact Zf K1
 | [.tup _],K1=>exact Zf K1
 | [.rol _],K1=>exact Zf K1
 | x::_::_,K1=>cases x<;>exact Zf K1
end
section
variable {α β:Type}{h h1:IH}{σ:ISt}
noncomputable def SRes.sq (r:SRes) (b:S1):SRes:=match r with
 | .next σ' h'=>b σ' h'
 | r=>r
theorem J2d {n:Nat}{σ:ISt}{h:IH}{c:Str}{fs:List (Str×IV)}(e:h[n]?=some (.exc c fs)):(SRes.exc n σ h).fin=.exc n h:=by simp[SRes.fin,e]
theorem Jyi (v:IV) (σ:ISt):eVar 0 (some v::σ) h=.ok v h:=rfl
theorem J18 (n:Nat) (x:Option IV) (σ:ISt):eVar (n+1) (x::σ) h=eVar n σ h:=rfl
end
noncomputable def MulS (x:Str) (n:Int):Bool:=decide (x.length<=1000/\ -1000<=n/\n<=1000)
theorem MulS.ok {x:Str}{n:Int}(h:MulS x n=true):MulOk x n:=by
 simp only[MulS,decide_eq_true_eq] at h
 obtain⟨h1,h2,h3⟩:=h
 refine⟨?_,λ hn _=>?_,λ hn _=>?_⟩
 ·simp only[Bool.or_eq_false_iff,decide_eq_false_iff_not]
  omega
 ·have e:(1000:Int)<=(2^63-1)/n:=by
   rw[Int.le_ediv_iff_mul_le (by omega)]
   have:(1000:Int)*n<=1000*1000:=Int.mul_le_mul_of_nonneg_left h3 (by decide)
   omega
  omega
 ·have:x.length*n.toNat<=1000*1000:=Nat.mul_le_mul h1 (by omega)
  have hb:1000000<sizeLine:=by decide
  unfold Builtin.Str.tooLong
  simp only[decide_eq_false_iff_not]
  omega
theorem J3c {X:L2.Cx}:OpR X (binaryOp .Mult) (λ x y H Q=>∃i j,x=.str i/\y=.int j/\MulS i j=true/\Q (.str (Txt.mul i j)) H):=by
 intro pins s σ H x y v u Q I rx ry h
 obtain⟨i,j,rfl,rfl,hz,q⟩:=h
 obtain⟨t,rfl⟩:=rx
 obtain⟨t',rfl⟩:=ry
 exact SB.mul (MulS.ok hz) λ t' tk=>⟨.str (Txt.mul i j),H,I.tok _,⟨_,rfl⟩,q⟩
noncomputable def Jb8 (x y:IV) (h:IH):Res IV:=match x with
 | .str i=>(match y with
  | .int j=>if MulS i j then .ok (.str (Txt.mul i j)) h else .stuck
  | _=>.stuck)
 | x=>Jtq x y h
section
variable {ce:Str->Option Addr}{X:Cx}
theorem J6k:OpI ce X (binaryOp .Mult) Jb8:=by
 intro pins s σ H ι σi h x y v u Q E N rx ry K
 cases x with
 | str i =>
  obtain⟨xv,rx,qx⟩:=rx
  obtain⟨yv,ry,qy⟩:=ry
  cases y with
  | int j =>
   have e1:xv=.str i:=qx
   have e2:yv=.int j:=qy
   subst e1 e2
   dsimp only[Jb8] at K
   split at K
   ·rename_i hz
    exact Ja9 (J3c (X:=X.wish E)) N.inv rx ry ⟨i,j,rfl,rfl,hz,fin0 N K rfl⟩
   ·exact Zf K
  | _=>exact Zf K
 | _=>exact o_mul pins s σ H ι σi h _ y v u Q E N rx ry K
end
noncomputable def valI (kvs:List (Key×IV)) (k:Key):Option IV:=(kvs.find? λ kv=>decide (kv.1=k)).map (·.2)
theorem Jjl {p:Key×IV}{r:List (Key×IV)}{k:Key}(e:p.1=k):valI (p::r) k=some p.2:=by simp[valI,List.find?_cons,e]
theorem Jjk {p:Key×IV}{r:List (Key×IV)}{k:Key}(e:¬p.1=k):valI (p::r) k=valI r k:=by simp[valI,List.find?_cons,e]
theorem RPs.get {K:W.Frag}{ι:List Addr}{H:Hp}(k:Key):∀{xs:List (Key×IV)}{vs:List (Key×V)},RPs K ι H xs vs->(valI xs k=none/\valV vs k=none)∨∃v w,valI xs k=some v/\valV vs k=some w/\RV K ι H v w
 | [],_,h=>by
  have e:_=[]:=h
  subst e
  exact .inl ⟨rfl,rfl⟩
 | x::xs,_,h=>by
  obtain⟨v,r,rfl,q,t⟩:=h
  by_cases e:x.1=k
  ·exact .inr ⟨x.2,v,Jjl e,Jjo e,q⟩
  ·rw[Jjk e,Jjn e]
   exact RPs.get k t
theorem RPs.snoc {K:W.Frag}{ι:List Addr}{H:Hp}{k:Key}{v:IV}{w:V}(q:RV K ι H v w):∀{xs:List (Key×IV)}{vs:List (Key×V)},RPs K ι H xs vs->RPs K ι H (xs++[(k,v)]) (vs++[(k,w)])
 | [],_,h=>by
  have e:_=[]:=h
  subst e
  exact⟨w,[],rfl,q,rfl⟩
 | x::xs,_,h=>by
  obtain⟨v',r,rfl,q',t⟩:=h
  exact⟨v',r++[(k,w)],rfl,q',RPs.snoc q t⟩
theorem Jnb {vs:List (Key×V)}{k:Key}{w:V}(e:valV vs k=none):putK vs k w=vs++[(k,w)]:=by
 unfold putK
 rw[if_neg]
 rw[Jjm,e]
 exact Bool.false_ne_true
section
variable {ce:Str->Option Addr}{X:Cx}
noncomputable def Jyf:E1:=λ _ h=>.ok (.ref h.length) (h++[.dct []])
theorem J5o {pos:Pos}:PEi ce X (.Dict [] [] pos) Jyf:=λ pins s σ H ι σi h Q E N K=>by
 have hn:=N.inv.hok.fresh (Nat.le_refl s.heap.objs.size)
 have I1:=N.inv.laid (a:=s.heap.objs.size) (o:=.dK []) (h':=s.heap.push { cls:=.type "dict",data:=.dict #[] }) (t':=s.toks) (λ _ _ q=>Heap.get?_push_of_some _ q) (Nat.le_refl _) (Jr0 s.heap N.inv.big)
 obtain⟨R1,n1⟩:=N.rel.alloc (o:=.dK []) (io:=.dct []) hn ⟨[],Je,rfl⟩
 have N1:Now ce X pins (ι++[s.heap.objs.size]) σi (h++[.dct []]) σ (upd H s.heap.objs.size (.dK [])) _:=⟨I1,R1,N.st.mono n1⟩
 have h0:(ι++[s.heap.objs.size])[h.length]?=some s.heap.objs.size:=by rw[<- N.rel.len,List.getElem?_append_right (Nat.le_refl _)];simp
 exact wpAny_Dict_empty (K _ _ _ (ι++[s.heap.objs.size]) N1 n1 ⟨.ref _,rfl,_,rfl,h0⟩)
noncomputable def getI:IV->List IV->IH->Res IV
 | .ref i,[y],h=>match h[i]? with
  | some (.dct kvs)=>(match keyI y with
   | some k=>.ok ((valI kvs k).getD .non) h
   | none=>.stuck)
  | _=>.stuck
 | _,_,_=>.stuck
noncomputable def Je9:IV->List IV->IH->Res IV
 | .ref i,[y,v],h=>match h[i]? with
  | some (.dct kvs)=>(match keyI y with
   | some k=>(match valI kvs k with
    | some w=>.ok w h
    | none=>if kvs.length<sizeLine then .ok v (h.set i (.dct (kvs++[(k,v)]))) else .stuck)
   | none=>.stuck)
  | _=>.stuck
 | _,_,_=>.stuck
theorem Jze:MtI ce X "dict" "dict.setdefault" Je9:=by
 intro pins s σ H ι σi h x xs v us Q E N rx rs K
 obtain⟨xv,rx,qx⟩:=rx
 obtain⟨vs,rv,qs⟩:=rs
 cases x with
 | ref i =>
  match xs,K with
  | [y,y2],K =>
   obtain⟨a,rfl,ha⟩:=qx
   obtain⟨w,w2,rfl,qw,qw2⟩:=qs.two_of
   dsimp only[Je9] at K
   cases hi:h[i]? with
   | none=>rw[hi] at K;exact Zf K
   | some ob =>
    rw[hi] at K
    cases ob with
    | dct kvs =>
     dsimp only at K
     cases ek:keyI y with
     | none=>rw[ek] at K;exact Zf K
     | some k =>
      rw[ek] at K
      dsimp only at K
      obtain⟨ws,e1,r1⟩:=N.at hi ha
      cases Jje ek qw
      cases rv with
      | @cons _ _ _ _ ru t =>
      cases t with
      | @cons _ u2 _ _ ru2 t =>
      cases t
      cases (show v=.ref a from rx)
      obtain⟨z,hd,ps,rel,dd⟩:=Jye N.inv.hok e1
      have hz:ps.length<=sizeLine:=by rw[<- rel.length];exact z
      refine call_meetsIn PySem.F.slot_dict_setdefault dd.typeIs PySem.F.entry_dict_setdefault (PySem.F.args_dict_setdefault_3 _ _ _) (kt_meets_setdefault (Jbc X.prog X.w) a (Jy5 ru) hd u2) ⟨ps,dd,hz,λ v' hv=>?_,λ hn h' dd' hs=>?_⟩
      ·rcases r1.get k with⟨p,q⟩|⟨v1,w1,p,q,r⟩
       ·have rr:=rel.val k
        rw[q] at rr
        rw[RelO.none_of rr] at hv
        cases hv
       ·rw[p] at K
        have rr:=rel.val k
        rw[q,hv] at rr
        exact fin0 (w:=w1) N K r _ _ (N.inv.tok _) rr
      ·rcases r1.get k with⟨p,q⟩|⟨v1,w1,p,q,r⟩
       ·rw[p] at K
        dsimp only at K
        split at K
        ·rename_i hl
         have he:∃q,h'.get? a=some q:=let ⟨q,_,_,hq,_⟩:=dd';⟨q,hq⟩
         have hlen:(putK ws k w2).length<=sizeLine:=by rw[Jnb q,List.length_append,r1.length];exact hl
         have I4:=Jqj (t':=s.toks+1) N.inv (by rw[e1];exact True.intro) hs he (Ju9 hlen hd (rel.put k ru2) dd')
         have n:Nxt ι H ι (upd H a (.dK (putK ws k w2))):=⟨⟨[],by simp⟩,Ext.upd_mut e1 (by rw[e1];exact True.intro)⟩
         obtain⟨R4,_⟩:=N.rel.write (o:=.dK (putK ws k w2)) (io:=.dct (kvs++[(k,y2)])) ha e1 (by rw[e1];exact True.intro) ⟨_,Je,(congrArg (λ P=>RPs X.K ι (upd H a (.dK (putK ws k w2))) (kvs++[(k,y2)]) P) (Jnb q)).mpr (RPs.mono n _ _ (r1.snoc qw2))⟩
         exact K _ _ _ ι ⟨I4,R4,N.st.mono n⟩ n ⟨w2,ru2,RV.mono n _ _ qw2⟩
        ·exact Zf K
       ·have rr:=rel.val k
        rw[q,hn] at rr
        exact Zf rr
    | _=>exact Zf K
  | [],K=>exact Zf K
  | [_],K=>exact Zf K
  | _::_::_::_,K=>exact Zf K
 | _=>cases xs<;>exact Zf K
end
noncomputable def putD (kvs:List (Key×IV)) (k:Key) (v:IV):List (Key×IV) :=
 if (kvs.any λ kv=>decide (kv.1=k))=true then kvs.map (λ kv=>if kv.1=k then(kv.1,v) else kv) else kvs++[(k,v)]
theorem RPs.any {K:W.Frag}{ι:List Addr}{H:Hp}(k:Key):∀{xs:List (Key×IV)}{vs:List (Key×V)},RPs K ι H xs vs->(xs.any λ kv=>decide (kv.1=k))=vs.any λ kv=>decide (kv.1=k)
 | [],_,h=>by
  have e:_=[]:=h
  subst e
  rfl
 | x::xs,_,h=>by
  obtain⟨v,r,rfl,q,t⟩:=h
  rw[List.any_cons,List.any_cons,RPs.any k t]
theorem RPs.upd {K:W.Frag}{ι:List Addr}{H:Hp}{k:Key}{v:IV}{w:V}(q:RV K ι H v w):∀{xs:List (Key×IV)}{vs:List (Key×V)},RPs K ι H xs vs->RPs K ι H (xs.map λ kv=>if kv.1=k then(kv.1,v) else kv) (vs.map λ kv=>if kv.1=k then(kv.1,w) else kv)
 | [],_,h=>by
  have e:_=[]:=h
  subst e
  exact rfl
 | x::xs,_,h=>by
  obtain⟨v',r,rfl,q',t⟩:=h
  rw[List.map_cons,List.map_cons]
  by_cases e:x.1=k
  ·rw[if_pos e,if_pos e]
   exact⟨w,_,rfl,q,RPs.upd q t⟩
  ·rw[if_neg e,if_neg e]
   exact⟨v',_,rfl,q',RPs.upd q t⟩
theorem RPs.putKK {K:W.Frag}{ι:List Addr}{H:Hp}{k:Key}{v:IV}{w:V}{xs:List (Key×IV)}{vs:List (Key×V)}(q:RV K ι H v w) (r:RPs K ι H xs vs):RPs K ι H (putD xs k v) (putK vs k w):=by
 unfold putD putK
 rw[r.any k]
 split
 ·exact r.upd q
 ·exact r.snoc q
section
variable {ce:Str->Option Addr}{X:Cx}
noncomputable def Jtp (x y:IV) (h:IH):Res IV:=match x with
 | .ref i=>(match h[i]? with
  | some (.dct kvs)=>(match keyI y with
   | some k=>(match valI kvs k with
    | some v=>.ok v h
    | none=>.stuck)
   | none=>.stuck)
  | _=>.stuck)
 | _=>.stuck
theorem x_ixD:IxI ce X Jtp:=by
 intro value slice pins s σ H ι σi h x y v u Q E N rx ry K hs
 obtain⟨xv,rx,qx⟩:=rx
 obtain⟨yv,ry,qy⟩:=ry
 cases x with
 | ref i =>
  obtain⟨a,e1,ha⟩:=qx
  subst e1
  dsimp only[Jtp] at K
  cases hi:h[i]? with
  | none=>rw[hi] at K;exact Zf K
  | some ob =>
   rw[hi] at K
   cases ob with
   | dct kvs =>
    dsimp only at K
    cases ek:keyI y with
    | none=>rw[ek] at K;exact Zf K
    | some k =>
     rw[ek] at K
     dsimp only at K
     obtain⟨ws,e1,r1⟩:=N.at hi ha
     cases Jje ek qy
     cases (show v=.ref a from rx)
     obtain⟨z,hd,ps,rel,dd⟩:=Jye N.inv.hok e1
     rcases r1.get k with⟨p,q⟩|⟨v1,w1,p,q,r⟩
     ·rw[p] at K;exact Zf K
     ·rw[p] at K
      have rr:=rel.val k
      rw[q] at rr
      obtain⟨w',hw,rw'⟩:=RelO.some_of rr
      exact subscriptTail_builtinR (x:=w') dd.typeIs PySem.F.slot_dict_getitem.lookup (wpAny_getItem_of (Q:=λ r s'=>r=w'/\Q r s') (Jy5 ry) dd.mapOf hw ⟨rfl,fin0 N K r _ _ (N.inv.tok _) rw'⟩) hs
   | _=>exact Zf K
 | _=>exact Zf K
noncomputable def cInD (x c:IV) (h:IH):Res IV:=match c with
 | .ref i=>(match h[i]? with
  | some (.dct kvs)=>(match keyI x with
   | some k=>.ok (.bl (valI kvs k).isSome) h
   | none=>.stuck)
  | _=>.stuck)
 | _=>.stuck
noncomputable def J69:IV->IV->IV->ISt->IH->SRes
 | .ref i,iv,v,σ,h=>match h[i]? with
  | some (.dct kvs)=>(match keyI iv with
   | some k=>if kvs.length<sizeLine then .next σ (h.set i (.dct (putD kvs k v))) else .stuck
   | none=>.stuck)
  | _=>.stuck
 | _,_,_,_,_=>.stuck
noncomputable def gSbD (o i:E1):G1:=λ v σ h=>rS σ (o σ h) λ ov h1=>rS σ (i σ h1) λ iv h2=>J69 ov iv v σ h2
theorem J5h {oe ie:Expr}{mo mi:E1}{pos:Pos}(ho:PEi ce X oe mo) (hi:PEi ce X ie mi)
  (ha:∀v,assign (.Subscript oe ie pos) X.env v=(do
   let ov<-holding [v] (eval oe X.env)
   let iv<-holding [v,ov] (eval ie X.env)
   standAt pos
   holding [v,ov,iv] (setItem ov iv v)
   release [v,ov,iv] [])):PGi ce X (.Subscript oe ie pos) (gSbD mo mi):=by
 intro pins s σ H ι σi h v u Q E N r K
 rw[ha]
 refine wpAny_bind (wpAny_holding (krun ho N K λ ov h1 ou s1 H1 ι1 N1 n1 r1 K1=>?_))
 refine wpAny_bind (wpAny_holding (krun hi N1 K1 λ iv h2 iu s2 H2 ι2 N2 n2 r2 K2=>?_))
 have r':RU X.K ι2 H2 v u:=(r.mono n1).mono n2
 obtain⟨ox,ro,qo⟩:=r1.mono n2
 obtain⟨ix,ri,qi⟩:=r2
 obtain⟨vx,rvx,qv⟩:=r'
 refine wpAny_bind (wpAny_standAt (wpAny_bind (wpAny_holding ?_)))
 cases ov with
 | ref i =>
  obtain⟨a,rfl,haa⟩:=qo
  dsimp only[J69] at K2
  cases hh:h2[i]? with
  | none=>rw[hh] at K2;exact Zf K2
  | some ob =>
   rw[hh] at K2
   cases ob with
   | dct kvs =>
    dsimp only at K2
    cases ek:keyI iv with
    | none=>rw[ek] at K2;exact Zf K2
    | some k =>
     rw[ek] at K2
     dsimp only at K2
     split at K2
     ·rename_i hl
      obtain⟨ws,e1,r1'⟩:=N2.at hh haa
      cases Jje ek qi
      cases (show ou=.ref a from ro)
      obtain⟨z,hd,ps,rel,dd⟩:=Jye N2.inv.hok e1
      have hz:ps.length<=sizeLine:=by rw[<- rel.length];exact z
      have hlen:(putK ws k vx).length<=sizeLine:=by
       have h1:=Jkd ws k vx
       have h2:=r1'.length
       omega
      refine wpAny_setItem_pairs (hsz:=hz) (Jy5 ri) dd λ h' dd' hs=>?_
      have he:∃q,h'.get? a=some q:=let ⟨q,_,_,hq,_⟩:=dd';⟨q,hq⟩
      have I4:=Jqj (t':=s2.toks+1) N2.inv (by rw[e1];exact True.intro) hs he (Ju9 hlen hd (rel.put k rvx) dd')
      have n:Nxt ι2 H2 ι2 (upd H2 a (.dK (putK ws k vx))):=⟨⟨[],by simp⟩,Ext.upd_mut e1 (by rw[e1];exact True.intro)⟩
      obtain⟨R3,_⟩:=N2.rel.write (o:=.dK (putK ws k vx)) (io:=.dct (putD kvs k v)) haa e1 (by rw[e1];exact True.intro) ⟨_,Je,RPs.putKK (RV.mono n _ _ qv) (RPs.mono n _ _ r1')⟩
      exact wpAny_release (K2 _ σ _ ι2 ⟨I4,R3,N2.st.mono n⟩ n)
     ·exact Zf K2
   | _=>exact Zf K2
 | _=>exact Zf K2
end
noncomputable def leZ (a b:Int):Bool:=decide (a<=b)
noncomputable def sortZ (ns:List Int):List Int:=ns.mergeSort leZ
theorem Jfb:∀{us:List Value}{ns:List Int},IntsAre us ns->Vals (ns.map V.int) us
 | _,_,.nil=>.nil
 | _,_,.cons _ _ r=>.cons ⟨_,rfl⟩ (Jfb r)
theorem Jse {K:W.Frag}{ι:List Addr}{H:Hp}:∀ns:List Int,RVs K ι H (ns.map IV.int) (ns.map V.int)
 | []=>rfl
 | _::ns=>⟨_,_,rfl,rfl,Jse ns⟩
noncomputable def srtI (xs:List IV):Option (List IV):=match Jd8 xs with
 | some ns=>some ((sortZ ns).map .int)
 | none=>none
section
variable {ce:Str->Option Addr}{X:Cx}
noncomputable def sortedI:IV->IH->Res IV
 | .ref i,h=>match h[i]? with
  | some (.lst xs)=>if xs.length<64 then(match srtI xs with
   | some ys=>.ok (.ref h.length) (h++[.lst ys])
   | none=>.stuck) else .stuck
  | _=>.stuck
 | _,_=>.stuck
end
noncomputable def Jer (f:Nat->Int):Nat->Int
 | 0=>0
 | 1=>f 0
 | j+2=>if f (j+1)<Jer f (j+1) then f (j+1) else Jer f (j+1)
theorem Jh9 (f:Nat->Int){j:Nat}(hj:0<j):Jer f (j+1)=if f j<Jer f j then f j else Jer f j:=by
 cases j with
 | zero=>omega
 | succ j=>rfl
section
variable {pr:Program}{wd:World}{B:Around}{R:Result->Shared->Prop}{it:Addr}{fps wrs:List Addr}{n:Nat}{P:Nat->Value->Prop}{St:Nat->Heap->Prop}
theorem Jm7:(toString "min"++toString ".loop":String)="min.loop":=by decide
theorem J23 {kw:List (Str×Value)}(W:Walks pr wd B.in1 it fps wrs n P St) (f:Nat->Int) (hf:∀i v,P i v->∃t,v=.int (f i) t) (C:Addr) (hC:C∉fps) :
  ∀(r j:Nat) (z:Shared) (v:Value) (u:Tok) (c:Nat),n-j=r->0<j->j<=n->St j z.heap->v=.int (Jer f j) u->z.heap.get? C=some (J1c v c) ->
   (∀u h2 tk,(∀a o,a∉wrs->a≠C->z.heap.get? a=some o->h2.get? a=some o)->R (.ok (.ret (.int (Jer f n) u))) { z with heap:=h2,toks:=tk }) ->
   codeAny (model pr wd) B (.builtin "min.loop" ⟨[.ref it,.none,.ref C],kw⟩) R z:=by
 have hw:C∉wrs:=λ q=>hC (W.sub _ q)
 intro r
 induction r with
 | zero =>
  intro j z v u c hr h0 hj st ev gC fin
  obtain rfl:j=n:=by omega
  subst ev
  refine codeAny_builtin PySem.F.entry_min_loop ?_
  rw[Around.under_plainId PySem.F.plain_min_loop _]
  show wpAny _ B.in1 (seqItems? (.ref C)>>=_) _ _ z
  refine wpAny_bind (wpAny_seqItems gC rfl ?_)
  show wpAny _ B.in1 (tryCatch (pyNext (.ref it)) _>>=_) _ _ z
  refine wpAny_bind (wpAny_tryCatch (W.done z _ _ st λ h2 tk keep=>?_))
  have gC2:=keep C _ hw gC
  show wpAny _ B.in1 (updateSeq C (λ _=>#[])>>=_) _ _ _
  refine wpAny_bind ?_
  refine wpAny_updateSeq gC2 rfl (wpAny_bind (wpAny_letGo (wpAny_pure ?_)))
  exact fin u _ tk λ a o ha hb e=>(Heap.get?_update_other _ _ (Ne.symm hb)).trans (keep a o ha e)
 | succ r ih =>
  intro j z v u c hr h0 hj st ev gC fin
  have lt:j<n:=by omega
  subst ev
  refine codeAny_builtin PySem.F.entry_min_loop ?_
  rw[Around.under_plainId PySem.F.plain_min_loop _]
  show wpAny _ B.in1 (seqItems? (.ref C)>>=_) _ _ z
  refine wpAny_bind (wpAny_seqItems gC rfl ?_)
  show wpAny _ B.in1 (tryCatch (pyNext (.ref it)) _>>=_) _ _ z
  refine wpAny_bind (wpAny_tryCatch (W.item j z _ _ lt st λ y h2 tk hP st2 keep=>?_))
  obtain⟨t,rfl⟩:=hf j y hP
  have gC2:=keep C _ hw gC
  have cmp:=CmpOf.ints_lt (prog:=pr) (w:=wd) (A:=B.in1) (P:=λ i v=>∃t,v=.int (if i=0 then f j else Jer f j) t) (λ i=>if i=0 then f j else Jer f j) (λ _ _ q=>q)
  show wpAny _ B.in1 (tryCatch (holding [Value.int (f j) t,Value.int (f j) t] (richCompare .Lt (.int (f j) t) (.int (Jer f j) u)>>=_)) _>>=_) _ _ _
  refine wpAny_bind (wpAny_tryCatch (wpAny_holding (wpAny_bind (cmp 0 1 _ _ _ _ _ ⟨t,by simp⟩ ⟨u,by simp⟩ ?_))))
  refine wpAny_bind (wpAny_holding (wpAny_truthy_bool ?_))
  refine wpAny_bind (wpAny_letGo (wpAny_pure ?_))
  have step:=Jh9 f h0
  by_cases hb:f j<Jer f j
  ·rw[if_pos hb] at step
   simp only[if_true,show ¬(1:Nat)=0 by decide,if_false,decide_eq_true hb]
   refine wpAny_bind ?_
   refine wpAny_updateSeq gC2 rfl (wpAny_bind (wpAny_letGo ?_))
   rw[Jm7]
   refine wpAny_pure ⟨plainId_quiet PySem.F.plain_min_loop _,ih (j+1) _ (.int (f j) t) t _ (by omega) (by omega) lt (W.frame _ _ _ st2 λ a ha o e=>?_) (by rw[step]) (Heap.get?_update_self _ gC2 rfl) λ u2 h3 tk3 k3=>?_⟩
   ·exact(Heap.get?_update_other _ _ (λ q:C=a=>hC (by rw[q];exact ha))).trans e
   ·exact fin u2 h3 tk3 λ a o ha hc e=>k3 a o ha hc ((Heap.get?_update_other _ _ (Ne.symm hc)).trans (keep a o ha e))
  ·rw[if_neg hb] at step
   simp only[if_true,show ¬(1:Nat)=0 by decide,if_false,decide_eq_false hb,Bool.false_eq_true]
   refine wpAny_bind (wpAny_letGo ?_)
   rw[Jm7]
   refine wpAny_pure ⟨plainId_quiet PySem.F.plain_min_loop _,ih (j+1) _ (.int (Jer f j) u) u c (by omega) (by omega) lt st2 (by rw[step]) gC2 λ u2 h3 tk3 k3=>?_⟩
   exact fin u2 h3 tk3 λ a o ha hc e=>k3 a o ha hc (keep a o ha e)
end
theorem Jup (a:Value):argsOk "min" ⟨[a],[]⟩:=by unfold argsOk;kernel_rfl
section
variable {pr:Program}{wd:World}{B:Around}{E:Value->Shared->Prop}{z:Shared}{l:Addr}{us:List Value}{ns:List Int}{Q:Value->Shared->Prop}
theorem J22 (hh:B.handled=none) (hl:z.heap.IsList l us.toArray) (hi:IntsAre us ns) (hne:ns≠[])
  (hQ:∀v h2 tk,(∃u,v=.int (Jer (λ i=>ns.getD i 0) ns.length) u)->(∀b o,z.heap.get? b=some o->h2.get? b=some o)->Q v { z with heap:=h2,toks:=tk }) :
  wpAny (model pr wd) B (call (.builtin "min") [.ref l]) Q E z:=by
 obtain⟨ol,hol,_⟩:=id hl
 have lt:l<z.heap.objs.size:=Heap.lt_size hol
 have ll:=Jgd hi
 refine kmk_tree PySem.F.kind_min PySem.F.plain_min PySem.F.entry_min (Jup _) ?_
 show wpAny _ B.in1 (Builtin.Builtins.bindParams "min" ["key","default"] 0 ⟨[],[]⟩>>=_) _ _ z
 refine wpAny_bind (wpAny_of_eq (show Builtin.Builtins.bindParams "min" ["key","default"] 0 ⟨[],[]⟩=pure [none,none] from rfl) ?_)
 refine wpAny_bind (wpAny_pure ?_)
 refine wpAny_bind (wpAny_pyIter_list hl ?_)
 refine wpAny_bind (wpAny_newList ?_ (Nat.zero_le _))
 rw[Jm7]
 have ne:l≠z.heap.objs.size:=Nat.ne_of_lt lt
 have W:=Walks.list (prog:=pr) (w:=wd) (A:=B.in1) hh z.heap.objs.size l ne us.toArray
 have sz:us.toArray.size=us.length:=List.size_toArray ..
 have hS:(z.heap.push { cls:=.type "list_iterator",data:=.fields #[.ref l,.int 0 0] }).objs.size=z.heap.objs.size+1:=size_push' ..
 have hC:(z.heap.push { cls:=.type "list_iterator",data:=.fields #[.ref l,.int 0 0] }).objs.size∉[z.heap.objs.size,l]:=by
  rw[hS]
  simp only[List.mem_cons,List.not_mem_nil,or_false,not_or]
  exact⟨Nat.ne_of_gt (Nat.lt_succ_self _),Nat.ne_of_gt (Nat.lt_succ_of_lt lt)⟩
 have hw:(z.heap.push { cls:=.type "list_iterator",data:=.fields #[.ref l,.int 0 0] }).objs.size∉[z.heap.objs.size]:=by
  rw[hS]
  simp only[List.mem_cons,List.not_mem_nil,or_false]
  exact Nat.ne_of_gt (Nat.lt_succ_self _)
 have old:∀b o,z.heap.get? b=some o->((z.heap.push { cls:=.type "list_iterator",data:=.fields #[.ref l,.int 0 0] }).push (seqObj "list" #[] 0)).get? b=some o:=λ b o e=>Heap.get?_push_of_some _ (Heap.get?_push_of_some _ e)
 have gI:((z.heap.push { cls:=.type "list_iterator",data:=.fields #[.ref l,.int 0 0] }).push (seqObj "list" #[] 0)).get? z.heap.objs.size=some { cls:=.type "list_iterator",data:=.fields #[.ref l,.int 0 0] }:=Heap.get?_push_of_some _ (Heap.get?_push_size _ rfl)
 have gC:((z.heap.push { cls:=.type "list_iterator",data:=.fields #[.ref l,.int 0 0] }).push (seqObj "list" #[] 0)).get? (z.heap.push { cls:=.type "list_iterator",data:=.fields #[.ref l,.int 0 0] }).objs.size=some (seqObj "list" #[] 0):=Heap.get?_push_size _ rfl
 have notin:∀b o,z.heap.get? b=some o->b∉[z.heap.objs.size]:=λ b o e q=>Nat.ne_of_lt (Heap.lt_size e) (List.mem_singleton.mp q)
 have notC:∀b o,z.heap.get? b=some o->b≠(z.heap.push { cls:=.type "list_iterator",data:=.fields #[.ref l,.int 0 0] }).objs.size:=λ b o e=>by rw[hS];exact Nat.ne_of_lt (Nat.lt_succ_of_lt (Heap.lt_size e))
 refine wpAny_pure ⟨plainId_quiet PySem.F.plain_min_loop _,codeAny_builtin PySem.F.entry_min_loop ?_⟩
 rw[Around.under_plainId PySem.F.plain_min_loop _]
 show wpAny _ B.in1 (seqItems? (.ref _)>>=_) _ _ _
 refine wpAny_bind (wpAny_seqItems gC rfl ?_)
 show wpAny _ B.in1 (tryCatch (pyNext (.ref z.heap.objs.size)) _>>=_) _ _ _
 have h0:¬us.length=0:=λ q=>hne (List.eq_nil_of_length_eq_zero (by omega))
 ·refine wpAny_bind (wpAny_tryCatch (W.item 0 _ _ _ (by rw[sz];omega) ⟨⟨_,gI,rfl,rfl⟩,(hl.push _).push _⟩ λ y h2 tk hP st2 keep=>?_))
  have gC2:=keep _ _ hw gC
  show wpAny _ B.in1 (updateSeq (z.heap.push { cls:=.type "list_iterator",data:=.fields #[.ref l,.int 0 0] }).objs.size (λ _=>#[y,y])>>=_) _ _ _
  refine wpAny_bind ?_
  refine wpAny_updateSeq gC2 rfl ?_
  rw[Jm7]
  have hf:∀(i:Nat) (v:Value),us.toArray[i]?=some v->∃t,v=.int ((λ i=>ns.getD i 0) i) t:=λ i v q=>IntsAre.int_at hi i v (by simpa using q)
  obtain⟨t,rfl⟩:=hf 0 y hP
  refine wpAny_pure ⟨plainId_quiet PySem.F.plain_min_loop _,J23 W (λ i=>ns.getD i 0) hf _ hC _ 1 _ _ t _ rfl (by decide) (by rw[sz];omega) (W.frame _ _ _ st2 λ a ha o e=>?_) rfl (Heap.get?_update_self _ gC2 rfl) λ u h3 tk3 k3=>?_⟩
  ·exact(Heap.get?_update_other _ _ (λ q=>hC (by rw[q];exact ha))).trans e
  ·rw[sz,ll]
   refine hQ _ h3 tk3 ⟨u,rfl⟩ λ b o e=>k3 b o (notin b o e) (notC b o e) ((Heap.get?_update_other _ _ (Ne.symm (notC b o e))).trans (keep b o (notin b o e) (old b o e)))
end
section
variable {ce:Str->Option Addr}{X:Cx}
noncomputable def Jtl:IV->IH->Res IV
 | .ref i,h=>match h[i]? with
  | some (.lst xs)=>(match Jd8 xs with
   | some ns=>if ns=[] then .stuck else .ok (.int (Jer (λ i=>ns.getD i 0) ns.length)) h
   | none=>.stuck)
  | _=>.stuck
 | _,_=>.stuck
theorem J47 (hh:X.A.handled=none):Ji3 ce X (.builtin "min") (on1 Jtl):=Jqe λ pins s σ H ι σi h x xv u Q E N ru qx K=>by
 cases x with
 | ref i =>
  obtain⟨a,e1,ha⟩:=qx
  subst e1
  cases ru
  dsimp only[Jtl] at K
  cases hi:h[i]? with
  | none=>rw[hi] at K;exact Zf K
  | some ob =>
   rw[hi] at K
   cases ob with
   | lst xs =>
    dsimp only at K
    cases hb:Jd8 xs with
    | none=>rw[hb] at K;exact Zf K
    | some ns =>
     rw[hb] at K
     dsimp only at K
     split at K
     ·exact Zf K
     ·rename_i hne
      obtain⟨vs,e1,r1⟩:=N.at hi ha
      obtain⟨its,rv,pl,hz⟩:=N.inv.list (SqL.of e1)
      refine J22 hh pl.isList (Jig hb r1 rv) hne λ v h2 tk ⟨t,ev⟩ kk=>?_
      subst ev
      exact fin0 N K rfl _ _ (N.inv.kept (t':=tk) kk) ⟨t,rfl⟩
   | _=>exact Zf K
 | _=>exact Zf K
noncomputable def popI:IV->List IV->IH->Res IV
 | .ref i,[.int k],h=>match h[i]? with
  | some (.lst xs)=>if 0<=k/\k<1000000 then(match xs[k.toNat]? with
   | some y=>.ok y (h.set i (.lst (xs.eraseIdx k.toNat)))
   | none=>.stuck) else .stuck
  | _=>.stuck
 | _,_,_=>.stuck
noncomputable def Jie:IV->List IV->IH->Res IV
 | .ref i,[.ref j],h=>match h[i]? with
  | some (.lst xs)=>(match h[j]? with
   | some (.lst ys)=>if xs.length+ys.length<=sizeLine then .ok .non (h.set i (.lst (xs++ys))) else .stuck
   | _=>.stuck)
  | _=>.stuck
 | _,_,_=>.stuck
theorem Jzd:MtI ce X "list" "list.extend" Jie:=by
 intro pins s σ H ι σi h x xs v us Q E N rx rs K
 obtain⟨xv,rx,qx⟩:=rx
 obtain⟨vs,rv,qs⟩:=rs
 cases x with
 | ref i =>
  match xs,K with
  | [y],K =>
   cases y with
   | ref j =>
    obtain⟨a,rfl,ha⟩:=qx
    obtain⟨w,rfl,b,rfl,hb⟩:=qs.one_of
    dsimp only[Jie] at K
    cases hi:h[i]? with
    | none=>rw[hi] at K;exact Zf K
    | some ob =>
     rw[hi] at K
     cases ob with
     | lst zs =>
      dsimp only at K
      cases hj:h[j]? with
      | none=>rw[hj] at K;exact Zf K
      | some oj =>
       rw[hj] at K
       cases oj with
       | lst ys =>
        dsimp only at K
        split at K
        ·rename_i hl
         obtain⟨ws,e1,r1⟩:=N.at hi ha
         obtain⟨ws2,e2,r2⟩:=N.at hj hb
         exact J1s (Jwh (X:=X.wish E)) N.inv rx rv ⟨a,b,ws,ws2,rfl,rfl,e1,e2,by rw[r1.length,r2.length];exact hl,finW (ys:=zs++ys) N K ha e1 (r1.append r2) rfl⟩
        ·exact Zf K
       | _=>exact Zf K
     | _=>exact Zf K
   | _=>exact Zf K
  | [],K=>exact Zf K
  | y::_::_,K=>cases y<;>exact Zf K
 | _=>cases xs with
  | nil=>exact Zf K
  | cons y r=>cases y<;>cases r<;>exact Zf K
theorem Jvv:∀(us:List Value) (ns:List Int),us.length=ns.length->(∀i v,us[i]?=some v->∃t:Tok,v=Value.int (ns.getD i 0) t)->IntsAre us ns
 | [],[],_,_=>.nil
 | u::us,n::ns,hl,h=>by
  obtain⟨t,e⟩:=h 0 u rfl
  cases (show u=.int n t from e)
  exact .cons n t (Jvv us ns (by simpa using hl) λ i v q=>h (i+1) v q)
 | [],_::_,hl,_=>by cases hl
 | _::_,[],hl,_=>by cases hl
noncomputable def eLR (aa:A1):E1:=λ σ h=>(aa σ h).bind λ xs h1=>match xs with
 | [.int j]=>if 0<=j/\j<=1000 then .ok (.ref h1.length) (h1++[.lst (rngI 0 j)]) else .stuck
 | _=>.stuck
theorem J3k (j:Int):rngI 0 j=((List.range j.toNat).map λ k=>((k:Nat):Int)).map IV.int:=by
 simp[rngI]
theorem Jvu {a:Expr}{aa:A1}{p pos p2 pos2:Pos}(hh:X.A.handled=none) (g1:Gl X "list") (m1:X.mg "list"=none) (g2:Gl X "range") (m2:X.mg "range"=none) (ha:PAi ce X [a] aa) (hs:starEach [a] X.env=[(false,eval a X.env)]) :
  PEi ce X (.Call (.Name "list" p) [.Call (.Name "range" p2) [a] [] pos2] [] pos) (eLR aa):=λ pins s σ H ι σi h Q E N K=>by
 refine wpAny_Call_Name_kw (Jcp N.inv g1 m1 rfl ?_)
 refine PyProof.Rows.callWith_type1 ?_ rfl rfl
 refine PyProof.Rows.spliced_more ?_
 refine wpAny_Call_Name_kw (Jcp N.inv g2 m2 boot_range ?_)
 refine PyProof.Rows.callWith_type1 ?_ hs rfl
 refine(ha pos2).run N K λ xs h1 us s1 H1 ι1 N1 n1 r1 K1=>?_
 obtain⟨vs,rv,qs⟩:=r1
 match xs,K1 with
 | [.int j],K1 =>
  obtain⟨w,rfl,qw⟩:=qs.one_of
  cases (show w=.int j from qw)
  obtain⟨u,rfl,t,rfl⟩:=Jnq rv
  dsimp only at K1
  split at K1
  ·rename_i hj
   refine call_range_1 (PyProof.Rows.spliced_none ?_)
   have I2:=N1.inv.kept (h':=s1.heap.push { cls:=.type "range",data:=.fields #[.int 0 s1.toks,.int j t,.int 1 (s1.toks+1)] }) (t':=s1.toks+1+1) λ b o e=>Heap.get?_push_of_some _ e
   refine call_list_range (n:=j.toNat) hh (Heap.get?_push_size _ rfl) ?_ ?_ (by omega) λ h3 tk acc c' keep hget its=>?_
   ·exact small_one (by decide) (by decide) (by omega) (by omega)
   ·rw[rangeSize_one]
    split<;>omega
   ·have sb:(1000:Nat)<=sizeLine:=by decide
    have are:IntsAre acc.toList ((List.range j.toNat).map λ k=>((k:Nat):Int)):=by
     refine Jvv _ _ (by simp[its.1]) λ i v hv=>?_
     obtain⟨t,rfl⟩:=its.2 i v (by simpa using hv)
     have hi:i<j.toNat:=by
      have:=(List.getElem?_eq_some_iff.mp hv).1
      simp only[Array.length_toList,its.1] at this
      exact this
     exact⟨t,by simp[List.getD_eq_getElem?_getD,hi]⟩
    rw[J3k] at K1
    have fresh:H1 (s1.heap.objs.size+1)=none:=N1.inv.hok.fresh (Nat.le_succ _)
    have hz:(s1.heap.push { cls:=.type "range",data:=.fields #[.int 0 s1.toks,.int j t,.int 1 (s1.toks+1)] }).objs.size=s1.heap.objs.size+1:=size_push' ..
    rw[hz] at hget ⊢
    have I':=N1.inv.laid (a:=s1.heap.objs.size+1) (o:=.lst (((List.range j.toNat).map λ k=>((k:Nat):Int)).map V.int)) (h':=h3) (t':=tk) (λ b o e=>keep b o (Heap.get?_push_of_some _ e)) (Nat.le_succ _) ⟨by simp;omega,acc.toList,c',Jfb are,by simpa using hget⟩
    exact finA N1 K1 (s1.heap.objs.size+1) fresh ⟨_,Je,Jse _⟩ _ _ I' rfl
  ·exact Zf K1
 | [],K1=>exact Zf K1
 | [.non],K1=>exact Zf K1
 | [.bl _],K1=>exact Zf K1
 | [.ref _],K1=>exact Zf K1
 | [.str _],K1=>exact Zf K1
 | [.tup _],K1=>exact Zf K1
 | [.rol _],K1=>exact Zf K1
 | x::_::_,K1=>cases x<;>exact Zf K1
end
section
variable {prog:Program}{w:World}{A:Around}{E:Value->Shared->Prop}{s:Shared}
end
open AutoSeq1 (wpAny_loadPart') in
section
variable {prog:Program}{w:World}{A:Around}{E:Value->Shared->Prop}{s:Shared}
end
section
variable {ce:Str->Option Addr}{X:Cx}
end
noncomputable def Jlr (a:Arguments):Option Str:=match a with
 | { posonlyargs:=[],args:=[p],vararg:=none,kwonlyargs:=[],kw_defaults:=[],kwarg:=none,defaults:=[] }=>some p.arg
 | _=>none
noncomputable abbrev lamQ (q:Str):Str:=q++".<locals>."++"<lambda>"
noncomputable abbrev lamO (q:Str) (params:Arguments) (body:Expr) (scope:Scope) (cl:List (Str×Addr)) (pm ctv:Value) (c:Addr):Obj:=W.kla_obj "<lambda>" (lamQ q) params body scope cl pm c ctv
noncomputable def Jjq (mg:Str->Option Value) (base:Heap):Prop :=
 ∃bm ob,mg "__builtins__"=some (.ref bm)/\bm≠builtinsNs/\bm≠mainGlobals/\base.get? bm=some ob/\ob.cls=.type "module"/\ob.dict=some builtinsNs/\ob.data=.plain
theorem Jb9.rec {H:Hp}{q:Str}{cv:Value}{P:Program}{w:World}{h:Heap}(l:Jb9 H q cv) (hok:HOk P w H h):h.CodeRec cv (lamQ q):=by
 obtain⟨c,oc,vs,t,e1,e2,e3,e4⟩:=l
 exact⟨c,oc,vs,t,e1,(hok c _ e2).1,e3,e4⟩
theorem Jb9.mono {H H':Hp}{q:Str}{cv:Value}(fz:∀b o u,H b=some (.frz o u)->H' b=some (.frz o u)) (l:Jb9 H q cv):Jb9 H' q cv:=by
 obtain⟨c,oc,vs,t,e1,e2,r⟩:=l
 exact⟨c,oc,vs,t,e1,fz _ _ _ e2,r⟩
theorem Jlj {pos:Pos}{a b:Int}{c cv:Value}:∀(l:List Value),TriplesOk l->codeAmong pos (l++[rawInt a,rawInt b,c])=some cv->codeAmong pos l=some cv∨cv=c
 | [],_,e=>by
  simp only[List.nil_append,rawInt,codeAmong] at e
  split at e
  ·cases e;exact .inr rfl
  ·cases e
 | .int x t::.int y u::z::rest,h,e=>by
  simp only[List.cons_append,codeAmong] at e ⊢
  split at e
  ·rename_i hh
   rw[if_pos hh]
   exact .inl e
  ·rename_i hh
   rw[if_neg hh]
   exact Jlj rest h e
 | [.int _ _],h,_=>(show False from h).elim
 | [.int _ _,.int _ _],h,_=>(show False from h).elim
section
variable {ce:Str->Option Addr}{X:Cx}
theorem Now.pinO {pins:List (Addr×Obj)}{ι:List Addr}{σi:ISt}{h:IH}{σ:L2.St}{H:Hp}{s:Shared}{f:Addr}{fo:Obj}(N:Now ce X pins ι σi h σ H s) (e:s.heap.get? f=some fo) (F:FpOk X pins H f) (d:∀v,fo.data≠.cell v):Now ce X (pins++[(f,fo)]) ι σi h σ H s:=by
 have I:=N.inv.pinned (fp:=[f]) (λ b hb=>by rw[List.mem_singleton.mp hb];exact F) (λ b hb=>by rw[List.mem_singleton.mp hb];exact⟨fo,e,d⟩)
 have ep:Jd4 [f] s.heap=[(f,fo)]:=by simp[Jd4,e]
 rw[ep] at I
 exact⟨I,N.rel,N.st⟩
theorem Jy7 {q:Str}{j:Nat}{params:Arguments}{body:Expr}{scope:Scope}{pos:Pos}{cl:List (Str×Addr)}{pins:List (Addr×Obj)}{s:Shared}{σ:L2.St}{H:Hp}{ι:List Addr}{σi:ISt}{h:IH}{Q:Value->Shared->Prop}{E:Value->Shared->Prop}
  (N:Now ce X pins ι σi h σ H s) (hj:h[j]?=some (.tab q)) (hcd:W.codeIn X.K X.env.code q=true) (hq:X.env.qual=q++".<locals>.") (hdef:defaultsOf params X.env=([],[])) (hcl:closureFor scope X.env=pure cl) (B:Jjq X.mg X.base)
  (K:∀f c pm ctv s' H',Now ce X (pins++[(f,lamO q params body scope cl pm ctv c)]) ι σi h σ H' s'->Nxt ι H ι H'->Jb9 H' q (.ref c)->Q (.ref f) s') :
  wpAny (model X.prog X.w) X.A (eval (.Lambda params body scope pos) X.env) Q E s:=by
 obtain⟨a,ha,hc,ps,hP,ht,hcodes⟩:=N.rel.at_ j _ hj
 obtain⟨c,ec,hhd⟩:=hc _ hcd
 have I:=N.inv
 have C:=W.codeHd_of_K I.kIn hhd
 have gP:s.heap.get? a=some (W.tabObj ps):=I.hok a _ hP
 have hg:s.heap.Ns mainGlobals X.mg:=I.ok.mod.glob.keeps I.bk
 obtain⟨bm,ob,b1,b2,b3,b4,b5,b6,b7⟩:=B
 have gb:=I.bs bm ob b4
 have nba:bm≠a:=λ z=>by rw[z,hP] at gb;cases gb.2
 have hb:s.heap.BuiltinsAt X.mg a:=⟨bm,ob,b1,b2,b3,nba,gb.1,b5,b6,b7⟩
 have nga:mainGlobals≠a:=λ z=>by
  obtain⟨o,es,ep,e,d,_⟩:=hg
  rw[z,gP] at e
  cases e
  cases d
 refine W.kla_eval hdef ?_
 rw[hq]
 cases ea:codeAmong pos ps.toList with
 | some cv =>
  have LC:=hcodes pos cv ea
  obtain⟨c',oc,vs,t,ecv,_⟩:=id LC
  subst ecv
  refine W.kla_makeFunctionHit hcl I.ok.glob hg ec C gP ht ea hb λ ctv h' tk hk hsz=>?_
  have I1:=I.kept (h':=h'.push (lamO q params body scope cl ((X.mg "__name__").getD .none) ctv c')) (t':=tk) λ b o e=>Heap.get?_push_of_some _ (hk b o e)
  have N1:Now ce X pins ι σi h σ H _:=⟨I1,N.rel,N.st⟩
  exact K h'.objs.size c' _ ctv _ H (N1.pinO (Heap.get?_push_size _ rfl) (I.fpOk hsz (I.hok.fresh hsz)) λ v z=>by
   have z':Data.func _=Data.cell v:=z
   cases z') .refl LC
 | none =>
  refine W.kla_makeFunction hcl I.ok.glob hg ec C gP ht ea nga hb λ c' ctv h' tk hx hge hlt hrec htb=>?_
  obtain⟨c2,oc,vs,t,e2,hoc,hd,hv⟩:=hrec
  cases e2
  generalize hps:ps++#[rawInt pos.line,rawInt pos.col,.ref c']=ps' at htb
  generalize hob:lamO q params body scope cl ((X.mg "__name__").getD .none) ctv c'=fo
  have fc:H c'=none:=I.hok.fresh hge
  have nca:c'≠a:=λ z=>by rw[z,hP] at fc;cases fc
  have lts:s.heap.objs.size<=h'.objs.size:=Nat.le_trans hge (Nat.le_of_lt hlt)
  obtain⟨H',hH⟩:∃H',H'=upd (upd H a (.tbl ps')) c' (.frz oc (.own 0)):=⟨_,rfl⟩
  have Ha:H' a=some (.tbl ps'):=by rw[hH,Jg (Ne.symm nca),Je]
  have Hc:H' c'=some (.frz oc (.own 0)):=by rw[hH,Je]
  have Ho:∀b,b≠a->b≠c'->H' b=H b:=λ b h1 h2=>by rw[hH,Jg h2,Jg h1]
  have kp:∀b o,b≠a->s.heap.get? b=some o->(h'.push fo).get? b=some o:=λ b o hb e=>Heap.get?_push_of_some _ (hx b o hb e)
  have ga:(h'.push fo).get? a=some (W.tabObj ps'):=Heap.get?_push_of_some _ htb
  have frz:∀b o u,H b=some (.frz o u)->H' b=some (.frz o u):=λ b o u e=>by rw[Ho b (λ z=>by rw[z,hP] at e;cases e) (λ z=>by rw[z,fc] at e;cases e)];exact e
  have tup:∀b xs,H b=some (.tup xs)->H' b=some (.tup xs):=λ b xs e=>by rw[Ho b (λ z=>by rw[z,hP] at e;cases e) (λ z=>by rw[z,fc] at e;cases e)];exact e
  have own:∀b x,H b=some (.own x)->H' b=some (.own x):=λ b x e=>by rw[Ho b (λ z=>by rw[z,hP] at e;cases e) (λ z=>by rw[z,fc] at e;cases e)];exact e
  have I1:Inv X pins σ H' { s with heap:=h'.push fo,toks:=tk }:=by
   refine I.step (g':=s.gens) (d':=s.drawn) (ch:=[]) (λ b hb=>absurd hb (by simp)) (λ b o _ _ _ e n=>kp b o (λ z=>by rw[z,hP] at n;cases n) e) (λ b o _ _ _ e n=>⟨o.slots,kp b o (λ z=>by rw[z,hP] at n;cases n) e⟩) (λ b o _ e n=>?_) (λ b o _ e=>?_) tup frz (λ b qs e=>?_) (λ m hm=>?_) (λ b u e=>?_) I.bare
   ·rw[Ho b (λ z=>by rw[z,hP] at n;cases n) (Nat.ne_of_lt (Nat.lt_of_lt_of_le (Heap.lt_size e) hge))];exact n
   ·by_cases hb:b=a
    ·subst hb;exact⟨_,ga⟩
    ·exact⟨o,kp b o hb e⟩
   ·by_cases hb:b=a
    ·subst hb
     rw[hP] at e
     cases e
     exact⟨_,by rw[Ha,<-hps]⟩
    ·exact⟨#[],by rw[Ho b hb (λ z=>by rw[z,fc] at e;cases e),e];simp⟩
   ·obtain⟨o,es,ep,ho,r⟩:=hm
    exact⟨o,es,ep,kp _ o (λ z=>by have:=I.free;rw[z,hP] at this;cases this) ho,r⟩
   ·by_cases hb:b=a
    ·subst hb
     rw[Ha] at e
     cases e
     exact ga
    ·by_cases hb2:b=c'
     ·subst hb2
      rw[Hc] at e
      cases e
      exact⟨Heap.get?_push_of_some _ hoc,_,Heap.get?_push_of_some _ hoc⟩
     ·rw[Ho b hb hb2] at e
      refine(I.hok b u e).stay (λ d v hd r=>kp d v (λ z=>?_) r) (λ d z=>own d _ z) tup
      subst z
      rcases hd with z|z
      ·exact hb z.symm
      ·rw[hP] at z;cases z
  have n:Nxt ι H ι H':=⟨⟨[],by simp⟩,⟨tup,frz⟩⟩
  have LC:Jb9 H' q (.ref c'):=⟨c',oc,vs,t,rfl,Hc,hd,hv⟩
  have R:Rel ce X.K ι h H':=by
   refine⟨N.rel.len,N.rel.nd,λ i o e=>?_⟩
   obtain⟨b,eb,ro⟩:=N.rel.at_ i o e
   refine⟨b,eb,?_⟩
   by_cases hb:b=a
   ·subst hb
    have hij:i=j:=N.rel.inj eb ha
    subst hij
    rw[hj] at e
    cases e
    refine⟨hc,ps',Ha,?_,λ pos' cv ea'=>?_⟩
    ·rw[<- hps,Array.toList_append]
     exact TriplesOk_snoc _ _ _ _ ht
    ·rw[<- hps,Array.toList_append] at ea'
     rcases Jlj ps.toList ht ea' with z|z
     ·exact(hcodes pos' cv z).mono frz
     ·rw[z];exact LC
   ·refine ro.mono n λ u hu=>?_
    rw[Ho b hb (λ z=>by rw[z,fc] at hu;cases hu)]
    exact hu
  have N1:Now ce X pins ι σi h σ H' _:=⟨I1,R,N.st.mono n⟩
  subst hob
  exact K h'.objs.size c' _ ctv _ H' (N1.pinO (Heap.get?_push_size _ rfl) (I.fpOk lts (by rw[Ho _ (Nat.ne_of_gt (Nat.lt_of_lt_of_le (Heap.lt_size gP) lts)) (Nat.ne_of_gt hlt)];exact I.hok.fresh lts)) λ v z=>by
   have z':Data.func _=Data.cell v:=z
   cases z') n LC
end
noncomputable abbrev envL (q:Str) (scope:Scope) (L f:Addr) (cd:Value) (cl:List (Str×Addr)):Env:=newEnv scope L mainGlobals cl (lamQ q++".<locals>.") (some f) cd none builtinsNs
noncomputable def cxL (X:Cx) (A:Around) (N':List Str) (q:Str) (scope:Scope) (f:Addr) (cd:Value) (s:Shared) (H:Hp):Cx :=
 { X with A:=A.deeper (envL q scope s.heap.objs.size f cd (clOf X.env.cells scope.names [])),N:=N',s₀:=s,H₀:=H,env:=envL q scope s.heap.objs.size f cd (clOf X.env.cells scope.names []),outer:=X.stack,stack:=envL q scope s.heap.objs.size f cd (clOf X.env.cells scope.names [])::X.stack,ex:=[],calm:=true,fn:=λ _=>false,pn:=[],xe:=λ _ _=>False }
structure LamSc (N0:List Str) (sc₀:List (Str×NameKind)) (x:Str) (caps:List Str) (js:List Nat) (scope:Scope):Prop where
 kind:scope.kind=.function
 co:scope.isCoroutine=false
 gen:scope.isGenerator=false
 nocell:∀y∈scope.names,y.2≠.cell
 par:scope.names.lookup x=some .local
 free:∀y∈scope.names,y.2=.free->sc₀.lookup y.1=some .cell
 fr:∀y,scope.names.lookup y=some .free->(y,.free)∈scope.names
 cap:∀(k j:Nat) (y:Str),js[k]?=some j->caps[k]?=some y->N0[j]?=some y/\scope.names.lookup y=some .free
 len:js.length=caps.length
 nd:(x::caps).Nodup
theorem Jya {p:Arg}{nm qu:Str}{body:Expr}{scope:Scope}{cl:List (Str×Addr)}{pm cd ctv u:Value}:bindArgs (W.kla_fn nm qu { posonlyargs:=[],args:=[p],vararg:=none,kwonlyargs:=[],kw_defaults:=[],kwarg:=none,defaults:=[] } body scope cl pm cd ctv) ⟨[u],[]⟩=pure [(p.arg,u)]:=by
 have e:(List.lookup p.arg [(p.arg,u)]).isNone=false:=by simp
 unfold bindArgs
 simp[seqItems?,e]
 rfl
section
variable {ce:Str->Option Addr}{X:Cx}
theorem J2w {k:Nat}{A:Around}{q x:Str}{caps:List Str}{js:List Nat}{params:Arguments}{body:Expr}{scope:Scope}{pm ctv:Value}{c f:Addr}{m:E1}{v:IV}{u:Value}{pins:List (Addr×Obj)}{s:Shared}{σ:L2.St}{H:Hp}{ι:List Addr}{σi:ISt}{h:IH}{Q:Value->Shared->Prop}{E:Value->Shared->Prop}
  (hA:A.frames=some X.stack) (hr:Room (k+1) A) (N:Now ce X pins ι σi h σ H s) (hf:s.heap.get? f=some (lamO q params body scope (clOf X.env.cells scope.names []) pm ctv c)) (LC:Jb9 H q (.ref c)) (hx:Jlr params=some x) (S:LamSc X.N X.env.scope.names x caps js scope)
  (hb:∀s' H',PEi ce (cxL X A (x::caps) q scope f (.ref c) s' H') body m) (ru:RU X.K ι H v u) (K:Kont ce X RU pins ι σi σ H ((m (some v::js.map λ j=>(σi[j]?).join) h).nx) Q E) :
  wpAny (model X.prog X.w) A (call (.ref f) [u]) Q E s:=by
 have I:=N.inv
 have e0:=I.env0
 have lim:s.heap.NoLimit:=e0.mod.nolimit.keeps λ b o e=>(e0.bs b o e).1
 refine wpAny_call (W.kla_callFunE hr.depth hf rfl S.co S.gen rfl (LC.rec I.hok) ?_)
 have hbind:bindArgs (W.kla_fn "<lambda>" (lamQ q) params body scope (clOf X.env.cells scope.names []) pm (.ref c) ctv) ⟨[u],[]⟩=pure [(x,u)]:=by
  unfold Jlr at hx
  split at hx
  ·cases hx
   exact Jya
  ·cases hx
 rw[hbind]
 refine wpAny_pure (wpAny_newFunctionEnv S.nocell (λ y hy=>by rw[List.mem_singleton.mp hy];exact S.par) (λ h3 hns hsb=>⟨lim.fresh _ hsb,?_⟩) S.kind)
 obtain⟨w,rw',qw⟩:=ru
 have keep:∀b o,s.heap.get? b=some o->h3.get? b=some o:=λ b o z=>(hsb.2 b (Nat.ne_of_lt (Heap.lt_size z))).trans (Heap.get?_push_of_some _ z)
 have cells':∀y d,(clOf X.env.cells scope.names []).lookup y=some d->X.env.cells.lookup y=some d:=Jms _ _ (λ y d z=>by simp at z)
 have okX:(cxL X A (x::caps) q scope f (.ref c) s H).Ok:=by
  have noA:∀b:Addr,b∉(cxL X A (x::caps) q scope f (.ref c) s H).ex:=λ b z=>absurd (show b∈([]:List Addr) from z) (by simp)
  refine⟨I.ok.mod,S.kind,rfl,rfl,Nat.le_refl _,λ y y' d a b=>I.ok.inj y y' d (cells' y d a) (cells' y' d b),λ y hy=>?_,λ y d z=>absurd (show false=true from z) Bool.false_ne_true,λ _=>hr.hd,Around.frames_deeper hA,.inr ⟨rfl,rfl⟩,λ b z=>absurd z (noA b),e0.bs,e0.bsz,λ b _ _=>noA b,λ b z=>absurd z (noA b),e0.funs,e0.frf⟩
  have hy':scope.names.lookup y=some .cell∨scope.names.lookup y=some .free:=hy
  rcases hy' with z|z
  ·exact absurd rfl (S.nocell _ (PySem.mem_of_lookup z))
  ·have hm:=PySem.mem_of_lookup z
   obtain⟨d,hd⟩:=I.ok.has y (.inl (S.free (y,.free) hm rfl))
   exact Option.isSome_iff_exists.mp (Jhg _ _ y d hm hd)
 have I3:Inv (cxL X A (x::caps) q scope f (.ref c) s H) [] (some w::js.map λ j=>(σ[j]?).join) H { s with heap:=h3,toks:=s.toks+[(x,u)].length }:=by
  refine⟨okX,rfl,I.bare,Un.kept keep,⟨_,hns,λ i y z a b cc=>?_⟩,λ y d z=>?_,I.hok.fresh (Nat.le_refl _),λ y d z=>I.freeC y d (cells' y d z),λ p hp=>absurd (show p∈([]:List (Addr×Obj)) from hp) (by simp),I.hok.kept keep,by show _=(x::caps).length;simp[S.len]⟩
  ·cases i with
   | zero =>
    have a':some x=some y:=a
    cases a'
    have b':some (some w)=some (some z):=b
    cases b'
    exact⟨u,rw',.inl ⟨S.par,by simp⟩⟩
   | succ i =>
    have a':caps[i]?=some y:=a
    have b':(js.map λ j=>(σ[j]?).join)[i]?=some (some z):=b
    rw[List.getElem?_map] at b'
    cases ej:js[i]? with
    | none=>rw[ej] at b';cases b'
    | some j =>
     rw[ej] at b'
     have b2:(σ[j]?).join=some z:=Option.some.inj b'
     have hσ:σ[j]?=some (some z):=by
      cases es:σ[j]? with
      | none=>rw[es] at b2;cases b2
      | some o=>rw[es] at b2;rw[show o=some z from b2]
     obtain⟨hx1,hx2⟩:=S.cap i j y ej a'
     have hm:=PySem.mem_of_lookup hx2
     have hk:=S.free (y,.free) hm rfl
     obtain⟨m0,hn,hl⟩:=I.loc
     obtain⟨u',ru',lk⟩:=hl j y z hx1 hσ (.inr (.inl hk))
     rcases lk with⟨e,_⟩|⟨e,d,hd,hcell⟩
     ·have hk':X.env.scope.names.lookup y=some .cell:=hk
      have e':X.env.scope.names.lookup y=some .local:=e
      rw[hk'] at e'
      cases e'
     ·obtain⟨d',hd2⟩:=Option.isSome_iff_exists.mp (Jhg (cells:=X.env.cells) scope.names [] y d hm hd)
      have:=cells' y d' hd2
      rw[hd] at this
      cases this
      obtain⟨oc,hoc,hdd⟩:=hcell
      exact⟨u',ru',.inr ⟨.inr hx2,d,hd2,oc,keep _ _ hoc,hdd⟩⟩
  ·obtain⟨z',o,ho,hd⟩:=I.cell y d (cells' y d z)
   exact⟨z',o,keep _ _ ho,hd⟩
 have N3:Now ce (cxL X A (x::caps) q scope f (.ref c) s H) [] ι (some v::js.map λ j=>(σi[j]?).join) h (some w::js.map λ j=>(σ[j]?).join) H { s with heap:=h3,toks:=s.toks+[(x,u)].length }:=by
  refine⟨I3,N.rel,by simp,λ i z a=>?_⟩
  cases i with
  | zero =>
   have a':some (some v)=some (some z):=a
   cases a'
   exact⟨w,rfl,qw⟩
  | succ i =>
   have a':(js.map λ j=>(σi[j]?).join)[i]?=some (some z):=a
   rw[List.getElem?_map] at a'
   cases ej:js[i]? with
   | none=>rw[ej] at a';cases a'
   | some j =>
    rw[ej] at a'
    have a2:(σi[j]?).join=some z:=Option.some.inj a'
    have hσ:σi[j]?=some (some z):=by
     cases es:σi[j]? with
     | none=>rw[es] at a2;cases a2
     | some o=>rw[es] at a2;rw[show o=some z from a2]
    obtain⟨z',ez,qz⟩:=N.st.2 j z hσ
    refine⟨z',?_,qz⟩
    show(js.map λ j=>(σ[j]?).join)[i]?=some (some z')
    rw[List.getElem?_map,ej]
    show some ((σ[j]?).join)=_
    rw[ez]
    rfl
 refine W.kla_codeExpr (wpAny_mono (hb s H [] _ _ H ι _ h (λ u' s'=>Q u' s') (λ _ _=>False) N3 ?_) (λ _ _ z=>z) λ _ _ z=>z.elim)
 cases er:m (some v::js.map λ j=>(σi[j]?).join) h with
 | ok v' h' =>
  rw[er] at K
  intro u' s' H' ι' N' n' ⟨z,rz,qz⟩
  have J:=N'.inv
  obtain⟨_,_,I',rz',e1,e2⟩:=I.after (Q:=λ z2 H2=>z2=z/\H2=H') ⟨z,H',J.os,J.bare,J.base,J.hok,rz,rfl,rfl⟩
  subst e1
  subst e2
  exact K u' s' _ ι' ⟨I',N'.rel,N.st.mono n'⟩ n' ⟨_,rz',qz⟩
 | exc n h'=>rw[er] at K;exact Zf K
 | stuck=>rw[er] at K;exact Zf K
end
noncomputable def gtZ:IV->IV->Option Bool
 | .int a,.int b=>some (decide (a>b))
 | _,_=>none
noncomputable def Jf0 (gt:IV->IV->Option Bool) (mk:IV->IH->Res IV) (i n:Nat):Nat->IV->IV->IH->Res IV
 | 0,b,_,h=>(match h[i]? with
  | some (.lst ys)=>if ys.length=n then .ok b h else .stuck
  | _=>.stuck)
 | r+1,b,kb,h=>(match h[i]? with
  | some (.lst ys)=>if ys.length=n then(match ys[n-(r+1)]? with
    | some y=>(mk y h).nx.bind λ k h'=>(match gt k kb with
     | some true=>Jf0 gt mk i n r y k h'
     | some false=>Jf0 gt mk i n r b kb h'
     | none=>.stuck)
    | none=>.stuck) else .stuck
  | _=>.stuck)
noncomputable def Jta (gt:IV->IV->Option Bool) (mk:IV->IH->Res IV) (i:Nat) (d:IV) (h:IH):Res IV:=match h[i]? with
 | some (.lst ys)=>(match ys[0]? with
  | some y=>(mk y h).nx.bind λ k h'=>Jf0 gt mk i ys.length (ys.length-1) y k h'
  | none=>.ok d h)
 | _=>.stuck
theorem FpOk.more {X:Cx}{pins:List (Addr×Obj)}{H:Hp}{b:Addr}{p:Addr×Obj}(F:FpOk X pins H b) (ne:p.1≠b):FpOk X (pins++[p]) H b:=by
 refine⟨F.1,F.2.1,F.2.2.1,F.2.2.2.1,F.2.2.2.2.1,λ q hq=>?_⟩
 rcases List.mem_append.mp hq with z|z
 ·exact F.2.2.2.2.2 q (List.mem_append_left _ z)
 ·rcases List.mem_append.mp z with z|z
  ·exact F.2.2.2.2.2 q (List.mem_append_right _ z)
  ·rw[List.mem_singleton.mp z]
   exact ne
theorem FpOk.at {X:Cx}{pins:List (Addr×Obj)}{H H':Hp}{b:Addr}(F:FpOk X pins H b) (n:H' b=none):FpOk X pins H' b:=⟨n,F.2⟩
theorem Jw9 {xs:List V}{us:List Value}{i:Nat}{u:Value}(r:Vals xs us) (e:us[i]?=some u):∃x,xs[i]?=some x/\RelV x u:=by
 have hi:=(List.getElem?_eq_some_iff.mp e).1
 have hl:=r.length
 have hi2:i<xs.length:=by omega
 have hx:xs[i]?=some xs[i]:=List.getElem?_eq_getElem hi2
 obtain⟨u',e',q⟩:=r.get hx
 rw[e] at e'
 cases e'
 exact⟨_,hx,q⟩
section
variable {ce:Str->Option Addr}{X:Cx}
theorem Now.turned {pins:List (Addr×Obj)}{ι:List Addr}{σi:ISt}{h:IH}{σ:L2.St}{H:Hp}{s:Shared}{it:Addr}{h':Heap}{t':Nat}(N:Now ce X pins ι σi h σ H s) (F:FpOk X pins H it) (k:∀b o,b≠it->s.heap.get? b=some o->h'.get? b=some o) :
  Now ce X pins ι σi h σ H { s with heap:=h',toks:=t' }:=⟨N.inv.turned k F.1 F.2.1 F.2.2.2.1 F.2.2.2.2.1 F.2.2.2.2.2,N.rel,N.st⟩
theorem Now.keptH {pins:List (Addr×Obj)}{ι:List Addr}{σi:ISt}{h:IH}{σ:L2.St}{H:Hp}{s:Shared}{h':Heap}{t':Nat}(N:Now ce X pins ι σi h σ H s) (k:∀b o,s.heap.get? b=some o->h'.get? b=some o) :
  Now ce X pins ι σi h σ H { s with heap:=h',toks:=t' }:=⟨N.inv.kept k,N.rel,N.st⟩
noncomputable def CmpK (ce:Str->Option Addr) (X:Cx) (A:Around) (op:CmpOp) (gt:IV->IV->Option Bool):Prop :=
 ∀(pins:List (Addr×Obj)) (ι:List Addr) (σi:ISt) (h:IH) (σ:L2.St) (H:Hp) (s:Shared) (k kb:IV) (u ub:Value) (b:Bool) (Q:Value->Shared->Prop) (E:Value->Shared->Prop),Now ce X pins ι σi h σ H s->RU X.K ι H k u->RU X.K ι H kb ub->gt k kb=some b ->
  (∀h' t',(∀a o,s.heap.get? a=some o->h'.get? a=some o)->Q (.bool b) { s with heap:=h',toks:=t' })->wpAny (model X.prog X.w) A (richCompare op u ub) Q E s
theorem J48 {A:Around}:CmpK ce X A .Gt gtZ:=λ pins ι σi h σ H s k kb u ub b Q E N r rb e q=>by
 cases k with
 | int a =>
  cases kb with
  | int c =>
   obtain⟨x,rx,ex⟩:=r
   obtain⟨y,ry,ey⟩:=rb
   have ex':x=.int a:=ex
   have ey':y=.int c:=ey
   subst ex'
   subst ey'
   obtain⟨t,rfl⟩:=rx
   obtain⟨t',rfl⟩:=ry
   have e':some (decide (a>c))=some b:=e
   cases e'
   have cmp:=CmpOf.ints_gt (prog:=X.prog) (w:=X.w) (A:=A) (P:=λ i v=>∃t,v=.int (if i=0 then a else c) t) (λ i=>if i=0 then a else c) (λ _ _ q=>q)
   have:=cmp 0 1 (.int a t) (.int c t') s Q E ⟨t,by simp⟩ ⟨t',by simp⟩
   simp only[if_true,show ¬(1:Nat)=0 by decide,if_false] at this
   exact this (q s.heap s.toks λ _ _ e=>e)
  | _=>cases e
 | _=>cases e
noncomputable def J43 (ce:Str->Option Addr) (X:Cx) (A:Around) (σi:ISt) (σ:L2.St) (pins:List (Addr×Obj)) (G:Hp->Prop) (fv:Value) (mk:IV->IH->Res IV):Prop :=
 ∀(pl:List (Addr×Obj)) (s:Shared) (H:Hp) (ι:List Addr) (h:IH) (v:IV) (u:Value) (Q:Value->Shared->Prop),Now ce X (pins++pl) ι σi h σ H s->G H->RU X.K ι H v u->Kont ce X RU (pins++pl) ι σi σ H (mk v h).nx Q (λ _ _=>False) ->
  wpAny (model X.prog X.w) A (call fv [u]) Q (λ _ _=>False) s
theorem J1a {α γ:Type}{pins:List (Addr×Obj)}{ι:List Addr}{σi:ISt}{σ:L2.St}{H:Hp}{R:REL α Value}{R':REL γ Value}{r:Res α}{g:α->IH->Res γ}{Q:Value->Shared->Prop}{E:Value->Shared->Prop}{pl:List (Addr×Obj)}{Q1:Value->Shared->Prop}
  (K:Kont ce X R' pins ι σi σ H (r.nx.bind g) Q E)
  (step:∀x h1 u s1 H1 ι1,Now ce X (pins++pl) ι1 σi h1 σ H1 s1->Nxt ι H ι1 H1->R X.K ι1 H1 x u->Kont ce X R' pins ι1 σi σ H1 (g x h1) Q E->Q1 u s1):Kont ce X R (pins++pl) ι σi σ H r.nx Q1 (λ _ _=>False):=by
 cases r with
 | ok v h'=>exact λ u s' H' ι' N' n' q=>step v h' u s' H' ι' N' n' q (Kont.mono (r:=g v h') K n')
 | exc n h'=>exact Zf K
 | stuck=>exact Zf K
section
variable {A:Around}{R:Result->Shared->Prop}{Q:Value->Shared->Prop}{E:Value->Shared->Prop}{pins:List (Addr×Obj)}{σi:ISt}{σ:L2.St}{G:Hp->Prop}{fq:Addr}{mk:IV->IH->Res IV}{gt:IV->IV->Option Bool}{i n:Nat}{l I C:Addr}{kw:List (Str×Value)}
theorem Jzi (hh:A.handled=none) (cm:CmpK ce X A.in1 .Gt gt) (ko:J43 ce X A.in1 σi σ pins G (.ref fq) mk) (hG:∀H H',Ext H H'->G H->G H') (hR:∀v s',Q v s'->R (.ok (.ret v)) s') (hIC:I≠C) :
  ∀(r j:Nat) (z:Shared) (H:Hp) (ι:List Addr) (h:IH) (b kb:IV) (vb uk:Value) (c:Nat),n-j=r->0<j->j<=n->Now ce X pins ι σi h σ H z->G H->ι[i]?=some l->FpOk X pins H I->FpOk X pins H C->z.heap.IsListIter I l j ->
   z.heap.get? C=some (seqObj "list" #[vb,uk] c)->RU X.K ι H b vb->RU X.K ι H kb uk->Kont ce X RU pins ι σi σ H (Jf0 gt mk i n r b kb h) Q E ->
   codeAny (model X.prog X.w) A (.builtin "max.loop" ⟨[.ref I,.ref fq,.ref C],kw⟩) R z:=by
 intro r
 induction r with
 | zero =>
  intro j z H ι h b kb vb uk c hr h0 hj N g hi fI fC st gC rb rk K
  obtain rfl:j=n:=by omega
  unfold Jf0 at K
  cases eh:h[i]? with
  | none=>rw[eh] at K;exact Zf K
  | some ob =>
   rw[eh] at K
   cases ob with
   | lst ys =>
    dsimp only at K
    split at K
    ·rename_i hlen
     obtain⟨ws,e1,r3⟩:=N.at eh hi
     obtain⟨its,rv2,pl,_⟩:=N.inv.list (SqL.of e1)
     have ne:l≠I:=λ q=>by have:=fI.1;rw[<- q,e1] at this;cases this
     have sz:its.toArray.size=j:=by
      rw[List.size_toArray,<-rv2.length,r3.length,hlen]
     have W:=Walks.list (prog:=X.prog) (w:=X.w) (A:=A.in1) hh I l ne its.toArray
     refine codeAny_builtin PySem.F.entry_max_loop ?_
     rw[Around.under_plainId PySem.F.plain_max_loop _]
     show wpAny _ A.in1 (seqItems? (.ref C)>>=_) _ _ z
     refine wpAny_bind (wpAny_seqItems gC rfl ?_)
     show wpAny _ A.in1 (tryCatch (pyNext (.ref I)) _>>=_) _ _ z
     refine wpAny_bind (wpAny_tryCatch (W.done z _ _ ⟨by rw[sz];exact st,pl.isList⟩ λ h2 tk keep=>?_))
     have gC2:=keep C _ (λ q=>hIC (List.mem_singleton.mp q).symm) gC
     have N1:=N.turned (h':=h2) (t':=tk) fI λ b o hb e=>keep b o (λ q=>hb (List.mem_singleton.mp q)) e
     show wpAny _ A.in1 (updateSeq C (λ _=>#[])>>=_) _ _ _
     refine wpAny_bind ?_
     refine wpAny_updateSeq gC2 rfl (wpAny_bind (wpAny_letGo (wpAny_pure ?_)))
     have N2:=N1.turned (h':=h2.update C (Obj.mapSeq λ _=>#[])) (t':=tk) fC λ b o hb e=>(Heap.get?_update_other _ _ (Ne.symm hb)).trans e
     exact hR _ _ (K _ _ _ _ N2 .refl rb)
    ·exact Zf K
   | _=>exact Zf K
 | succ r ih =>
  intro j z H ι h b kb vb uk c hr h0 hj N g hi fI fC st gC rb rk K
  unfold Jf0 at K
  cases eh:h[i]? with
  | none=>rw[eh] at K;exact Zf K
  | some ob =>
   rw[eh] at K
   cases ob with
   | lst ys =>
    dsimp only at K
    split at K
    ·rename_i hlen
     obtain⟨ws,e1,r3⟩:=N.at eh hi
     obtain⟨its,rv2,pl,_⟩:=N.inv.list (SqL.of e1)
     have ne:l≠I:=λ q=>by have:=fI.1;rw[<- q,e1] at this;cases this
     have sz:its.toArray.size=n:=by
      rw[List.size_toArray,<-rv2.length,r3.length,hlen]
     have ej:n-(r+1)=j:=by omega
     rw[ej] at K
     have W:=Walks.list (prog:=X.prog) (w:=X.w) (A:=A.in1) hh I l ne its.toArray
     refine codeAny_builtin PySem.F.entry_max_loop ?_
     rw[Around.under_plainId PySem.F.plain_max_loop _]
     show wpAny _ A.in1 (seqItems? (.ref C)>>=_) _ _ z
     refine wpAny_bind (wpAny_seqItems gC rfl ?_)
     show wpAny _ A.in1 (tryCatch (pyNext (.ref I)) _>>=_) _ _ z
     refine wpAny_bind (wpAny_tryCatch (W.item j z _ _ (by rw[sz];omega) ⟨st,pl.isList⟩ λ y h2 tk hP st2 keep=>?_))
     have ey:its[j]?=some y:=by simpa using hP
     obtain⟨x,ex,rx⟩:=Jw9 rv2 ey
     obtain⟨yv,eyv,qy⟩:=r3.get' ex
     rw[eyv] at K
     dsimp only at K
     have gC2:=keep C _ (λ q=>hIC (List.mem_singleton.mp q).symm) gC
     have N1:=N.turned (h':=h2) (t':=tk) fI λ b o hb e=>keep b o (λ q=>hb (List.mem_singleton.mp q)) e
     obtain⟨oI,hoI,hoc,hod⟩:=id st2.1
     have N2:=(N1.pinO gC2 fC λ v z=>by cases z).pinO hoI (FpOk.more (p:=(C,seqObj "list" #[vb,uk] c)) fI (Ne.symm hIC)) λ v z=>by rw[hod] at z;cases z
     rw[List.append_assoc] at N2
     show wpAny _ A.in1 (tryCatch (holding [y] (call (.ref fq) [y])) _>>=_) _ _ _
     refine wpAny_bind (wpAny_tryCatch (wpAny_holding (nof (ko _ _ _ _ _ yv y _ N2 g ⟨x,rx,qy⟩ (J1a K λ k h3 u s3 H3 ι3 N3 n3 ru K3=>?_)))))
     have pC:=N3.inv.pin (C,seqObj "list" #[vb,uk] c) (List.mem_append_right _ (List.mem_append_right _ (by simp)))
     have pI:=N3.inv.pin (I,oI) (List.mem_append_right _ (List.mem_append_right _ (by simp)))
     have N4:=N3.pins
     have hi3:=n3.at hi
     have g3:=hG _ _ n3.ext g
     have fI3:=FpOk.at (H':=H3) fI pI.2.1
     have fC3:=FpOk.at (H':=H3) fC pC.2.1
     have it3:s3.heap.IsListIter I l (j+1):=⟨oI,pI.1,hoc,hod⟩
     have ry3:RU X.K ι3 H3 yv y:=RU.mono n3 ⟨x,rx,qy⟩
     cases eg:gt k kb with
     | none=>rw[eg] at K3;exact Zf K3
     | some bb =>
      show wpAny _ A.in1 (tryCatch (holding [y,u] (richCompare .Gt u uk>>=_)) _>>=_) _ _ _
      refine wpAny_bind (wpAny_tryCatch (wpAny_holding (wpAny_bind (cm _ _ _ _ _ _ _ k kb u uk bb _ _ N4 ru (rk.mono n3) eg λ h5 t5 k5=>?_))))
      refine wpAny_bind (wpAny_holding (wpAny_truthy_bool ?_))
      refine wpAny_bind (wpAny_letGo (wpAny_pure ?_))
      have N5:=N4.keptH (h':=h5) (t':=t5) k5
      have gC5:=k5 _ _ pC.1
      obtain⟨oI5,hoI5,hoc5,hod5⟩:=id it3
      have it5:h5.IsListIter I l (j+1):=⟨oI5,k5 _ _ hoI5,hoc5,hod5⟩
      rw[eg] at K3
      cases bb with
      | true =>
       simp only[if_true]
       refine wpAny_bind ?_
       refine wpAny_updateSeq gC5 rfl (wpAny_bind (wpAny_letGo ?_))
       rw[Je7]
       have N6:=N5.turned (h':=h5.update C (Obj.mapSeq λ _=>#[y,u])) (t':=t5) fC3 λ b o hb e=>(Heap.get?_update_other _ _ (Ne.symm hb)).trans e
       obtain⟨c2,hc2⟩:∃c2,(h5.update C (Obj.mapSeq λ _=>#[y,u])).get? C=some (seqObj "list" #[y,u] c2):=⟨_,get?_update_seq gC5 λ _=>#[y,u]⟩
       refine wpAny_pure ⟨plainId_quiet PySem.F.plain_max_loop _,ih (j+1) _ H3 ι3 h3 yv k y u c2 (by omega) (by omega) (by omega) N6 g3 hi3 fI3 fC3 ?_ hc2 ry3 ru K3⟩
       exact⟨oI5,(Heap.get?_update_other _ _ (Ne.symm hIC)).trans (k5 _ _ hoI5),hoc5,hod5⟩
      | false =>
       simp only[Bool.false_eq_true,if_false]
       refine wpAny_bind (wpAny_letGo ?_)
       rw[Je7]
       exact wpAny_pure ⟨plainId_quiet PySem.F.plain_max_loop _,ih (j+1) _ H3 ι3 h3 b kb vb uk c (by omega) (by omega) (by omega) N5 g3 hi3 fI3 fC3 it5 gC5 (rb.mono n3) (rk.mono n3) K3⟩
    ·exact Zf K
   | _=>exact Zf K
theorem Juo (a v d:Value):argsOk "max" ⟨[a],[(Str.ofString "key",v),(Str.ofString "default",d)]⟩:=by unfold argsOk;kernel_rfl
theorem Jzh {z:Shared}{H:Hp}{ι:List Addr}{h:IH}{dv:IV}{d:Value}(hh:A.handled=none) (cm:CmpK ce X A.in1 .Gt gt) (ko:J43 ce X A.in1 σi σ pins G (.ref fq) mk) (hG:∀H H',Ext H H'->G H->G H') (N:Now ce X pins ι σi h σ H z) (g:G H) (hi:ι[i]?=some l) (rd:RU X.K ι H dv d)
  (K:Kont ce X RU pins ι σi σ H (Jta gt mk i dv h) Q E):wpAny (model X.prog X.w) A (call (.builtin "max") [.ref l] [(Str.ofString "key",.ref fq),(Str.ofString "default",d)]) Q E z:=by
 unfold Jta at K
 cases eh:h[i]? with
 | none=>rw[eh] at K;exact Zf K
 | some ob =>
  rw[eh] at K
  cases ob with
  | lst ys =>
   dsimp only at K
   obtain⟨ws,e1,r3⟩:=N.at eh hi
   obtain⟨its,rv2,pl,_⟩:=N.inv.list (SqL.of e1)
   have hl:=pl.isList
   obtain⟨ol,hol,_⟩:=id hl
   have lt:l<z.heap.objs.size:=Heap.lt_size hol
   have sz:its.toArray.size=ys.length:=by rw[List.size_toArray,<-rv2.length,r3.length]
   refine kmk_tree PySem.F.kind_max PySem.F.plain_max PySem.F.entry_max (Juo _ _ _) ?_
   show wpAny _ A.in1 (Builtin.Builtins.bindParams "max" ["key","default"] 0 ⟨[],[(Str.ofString "key",.ref fq),(Str.ofString "default",d)]⟩>>=_) _ _ z
   refine wpAny_bind (wpAny_of_eq (show Builtin.Builtins.bindParams "max" ["key","default"] 0 ⟨[],[(Str.ofString "key",.ref fq),(Str.ofString "default",d)]⟩=pure [some (.ref fq),some d] from rfl) ?_)
   refine wpAny_bind (wpAny_pure ?_)
   refine wpAny_bind (wpAny_pyIter_list hl ?_)
   refine wpAny_bind (wpAny_newList ?_ (Nat.zero_le _))
   rw[Je7]
   have ne:l≠z.heap.objs.size:=Nat.ne_of_lt lt
   have W:=Walks.list (prog:=X.prog) (w:=X.w) (A:=A.in1) hh z.heap.objs.size l ne its.toArray
   have hS:(z.heap.push { cls:=.type "list_iterator",data:=.fields #[.ref l,.int 0 0] }).objs.size=z.heap.objs.size+1:=size_push' ..
   obtain⟨C,hC⟩:∃C,C=(z.heap.push { cls:=.type "list_iterator",data:=.fields #[.ref l,.int 0 0] }).objs.size:=⟨_,rfl⟩
   have hIC:z.heap.objs.size≠C:=by rw[hC,hS];exact Nat.ne_of_lt (Nat.lt_succ_self _)
   have old:∀b o,z.heap.get? b=some o->((z.heap.push { cls:=.type "list_iterator",data:=.fields #[.ref l,.int 0 0] }).push (seqObj "list" #[] 0)).get? b=some o:=λ b o e=>Heap.get?_push_of_some _ (Heap.get?_push_of_some _ e)
   have gI:((z.heap.push { cls:=.type "list_iterator",data:=.fields #[.ref l,.int 0 0] }).push (seqObj "list" #[] 0)).get? z.heap.objs.size=some { cls:=.type "list_iterator",data:=.fields #[.ref l,.int 0 0] }:=Heap.get?_push_of_some _ (Heap.get?_push_size _ rfl)
   have gC:((z.heap.push { cls:=.type "list_iterator",data:=.fields #[.ref l,.int 0 0] }).push (seqObj "list" #[] 0)).get? C=some (seqObj "list" #[] 0):=by rw[hC];exact Heap.get?_push_size _ rfl
   rw[<- hC]
   have fI:FpOk X pins H z.heap.objs.size:=N.inv.fpOk (Nat.le_refl _) (N.inv.hok.fresh (Nat.le_refl _))
   have fC:FpOk X pins H C:=N.inv.fpOk (by rw[hC,hS];exact Nat.le_succ _) (N.inv.hok.fresh (by rw[hC,hS];exact Nat.le_succ _))
   have N0:=N.keptH (t':=z.toks) old
   refine wpAny_pure ⟨plainId_quiet PySem.F.plain_max_loop _,codeAny_builtin PySem.F.entry_max_loop ?_⟩
   rw[Around.under_plainId PySem.F.plain_max_loop _]
   show wpAny _ A.in1 (seqItems? (.ref _)>>=_) _ _ _
   refine wpAny_bind (wpAny_seqItems gC rfl ?_)
   show wpAny _ A.in1 (tryCatch (pyNext (.ref z.heap.objs.size)) _>>=_) _ _ _
   cases e0:ys[0]? with
   | none =>
    have h0:ys.length=0:=by
     have:=List.getElem?_eq_none_iff.mp e0
     omega
    rw[e0] at K
    refine wpAny_bind (wpAny_tryCatch (W.done _ _ _ (by rw[sz,h0];exact⟨⟨_,gI,rfl,rfl⟩,(hl.push _).push _⟩) λ h2 tk keep=>?_))
    have N1:=N0.turned (h':=h2) (t':=tk) fI λ b o hb e=>keep b o (λ q=>hb (List.mem_singleton.mp q)) e
    show wpAny _ A.in1 (rule _>>=_) _ _ _
    refine wpAny_bind (wpAny_rule (wpAny_pure ?_))
    exact K _ _ _ _ N1 .refl rd
   | some yv =>
    have h0:0<ys.length:=(List.getElem?_eq_some_iff.mp e0).1
    rw[e0] at K
    dsimp only at K
    refine wpAny_bind (wpAny_tryCatch (W.item 0 _ _ _ (by rw[sz];exact h0) ⟨⟨_,gI,rfl,rfl⟩,(hl.push _).push _⟩ λ y h2 tk hP st2 keep=>?_))
    have ey:its[0]?=some y:=by simpa using hP
    obtain⟨x,ex,rx⟩:=Jw9 rv2 ey
    obtain⟨yv',eyv,qy⟩:=r3.get' ex
    rw[e0] at eyv
    cases eyv
    have gC2:=keep C _ (λ q=>hIC (List.mem_singleton.mp q).symm) gC
    have N1:=N0.turned (h':=h2) (t':=tk) fI λ b o hb e=>keep b o (λ q=>hb (List.mem_singleton.mp q)) e
    obtain⟨oI,hoI,hoc,hod⟩:=id st2.1
    have N2:=(N1.pinO gC2 fC λ v z=>by cases z).pinO hoI (FpOk.more (p:=(C,seqObj "list" #[] 0)) fI (Ne.symm hIC)) λ v z=>by rw[hod] at z;cases z
    rw[List.append_assoc] at N2
    show wpAny _ A.in1 (tryCatch (holding [y] (call (.ref fq) [y])) _>>=_) _ _ _
    refine wpAny_bind (wpAny_tryCatch (wpAny_holding (nof (ko _ _ _ _ _ yv y _ N2 g ⟨x,rx,qy⟩ (J1a K λ k h3 u s3 H3 ι3 N3 n3 ru K3=>?_)))))
    have pC:=N3.inv.pin (C,seqObj "list" #[] 0) (List.mem_append_right _ (List.mem_append_right _ (by simp)))
    have pI:=N3.inv.pin (z.heap.objs.size,oI) (List.mem_append_right _ (List.mem_append_right _ (by simp)))
    have N4:=N3.pins
    have fI3:=FpOk.at (H':=H3) fI pI.2.1
    have fC3:=FpOk.at (H':=H3) fC pC.2.1
    have ry3:RU X.K ι3 H3 yv y:=RU.mono n3 ⟨x,rx,qy⟩
    show wpAny _ A.in1 (updateSeq C (λ _=>#[y,u])>>=_) _ _ _
    refine wpAny_bind ?_
    refine wpAny_updateSeq pC.1 rfl ?_
    rw[Je7]
    have N6:=N4.turned (h':=s3.heap.update C (Obj.mapSeq λ _=>#[y,u])) (t':=s3.toks) fC3 λ b o hb e=>(Heap.get?_update_other _ _ (Ne.symm hb)).trans e
    obtain⟨c2,hc2⟩:∃c2,(s3.heap.update C (Obj.mapSeq λ _=>#[y,u])).get? C=some (seqObj "list" #[y,u] c2):=⟨_,get?_update_seq pC.1 λ _=>#[y,u]⟩
    refine wpAny_pure ⟨plainId_quiet PySem.F.plain_max_loop _,Jzi hh cm ko hG (λ v s' q=>q) hIC (ys.length-1) 1 _ H3 ι3 h3 yv k y u c2 rfl (by omega) (by omega) N6 (hG _ _ n3.ext g) (n3.at hi) fI3 fC3 ?_ hc2 ry3 ru K3⟩
    exact⟨oI,(Heap.get?_update_other _ _ (Ne.symm hIC)).trans pI.1,hoc,hod⟩
  | _=>exact Zf K
end
theorem Kont.more {α β:Type}{R:REL α β}{pins pl:List (Addr×Obj)}{ι:List Addr}{σi:ISt}{σ:L2.St}{H:Hp}{r:Res α}{Q:β->Shared->Prop}{E:Value->Shared->Prop}(K:Kont ce X R pins ι σi σ H r Q E):Kont ce X R (pins++pl) ι σi σ H r Q E:=by
 cases r with
 | ok v h'=>exact λ u s' H' ι' N n q=>K u s' H' ι' N.pins n q
 | exc m h'=>exact λ pl' a s' H' ι' N n q=>K (pl++pl') a s' H' ι' (by rw[<- List.append_assoc];exact N) n q
 | stuck=>exact K
noncomputable def Jvc (gt:IV->IV->Option Bool) (q:Str) (j:Nat) (js:List Nat) (aa:A1) (m md:E1):E1:=λ σ h=>(aa σ h).bind λ xs h1=>match h1[j]? with
 | some (.tab q')=>if q'=q then(md σ h1).bind λ d h2=>(match xs with
  | [.ref i]=>Jta gt (λ v h'=>m (some v::js.map λ j=>(σ[j]?).join) h') i d h2
  | _=>.stuck) else .stuck
 | _=>.stuck
theorem Jy6 {params:Arguments}{x:Str}{env:Env}(hx:Jlr params=some x):defaultsOf params env=([],[]):=by
 unfold Jlr at hx
 split at hx
 ·rfl
 ·cases hx
theorem J5x {k:Nat}{q x:Str}{caps:List Str}{js:List Nat}{j:Nat}{a body de:Expr}{aa:A1}{m md:E1}{params:Arguments}{scope:Scope}{p lp pos kp kp2:Pos}(hg:Gl X "max") (hm:X.mg "max"=none) (ha:PAi ce X [a] aa) (hd:PEi ce X de md) (hs:starEach [a] X.env=[(false,eval a X.env)])
  (hr:Room (k+2) X.A) (hcd:W.codeIn X.K X.env.code q=true) (hq:X.env.qual=q++".<locals>.") (B:Jjq X.mg X.base) (hx:Jlr params=some x) (S:LamSc X.N X.env.scope.names x caps js scope)
  (hb:∀f cd s' H',PEi ce (cxL X X.A.in1 (x::caps) q scope f cd s' H') body m) :
  PEi ce X (.Call (.Name "max" p) [a] [⟨some "key",.Lambda params body scope lp,kp⟩,⟨some "default",de,kp2⟩] pos) (Jvc gtZ q j js aa m md):=λ pins s σ H ι σi h Q E N K=>by
 have hcl:closureFor scope X.env=pure (clOf X.env.cells scope.names []):=Jhh λ y hm hk=>N.inv.ok.has y.1 (.inl (S.free y hm hk))
 refine wpAny_Call_Name_kw (Jcp N.inv hg hm rfl ?_)
 refine callWith_kw ?_ (by rw[hs];rfl) (by rw[hs];rfl) rfl rfl
 refine(ha pos).run N K λ xs h1 us s1 H1 ι1 N1 n1 r1 K1=>?_
 cases ej:h1[j]? with
 | none=>rw[ej] at K1;exact Zf K1
 | some ob =>
  rw[ej] at K1
  cases ob with
  | tab q' =>
   dsimp only at K1
   split at K1
   ·rename_i eq
    subst eq
    refine PyProof.Rows.evalAll_cons (wpAny_bind (Jy7 N1 ej hcd hq (Jy6 hx) hcl B λ f c pm ctv s2 H2 N2 n2 LC=>wpAny_bind (wpAny_standAt (wpAny_pure ?_))))
    refine PyProof.Rows.evalAll_cons (wpAny_bind (PX.run hd N2 (Kont.more (Kont.mono K1 n2)) λ d h3 du s3 H3 ι3 N3 n3 r3 K3=>wpAny_bind (wpAny_standAt (wpAny_pure (PyProof.Rows.evalAll_nil ?_)))))
    obtain⟨vs,rv,qs⟩:=r1.mono (n2.trans n3)
    match xs,K3 with
    | [.ref i],K3 =>
     obtain⟨w,rfl,ad,rfl,hav⟩:=qs.one_of
     obtain⟨u,rfl,ru⟩:=Jnq rv
     cases ru
     refine Jzh (G:=λ H=>Jb9 H q' (.ref c)) (mk:=λ v h'=>m (some v::js.map λ j=>(σi[j]?).join) h') hr.hd J48 ?_ (λ H H' e g=>g.mono e.frzs) N3 (LC.mono n3.ext.frzs) hav r3 ?_
     ·intro pl s4 H4 ι4 h4 v u Q4 N4 g4 ru4 K4
      have pf:=N4.inv.pin (f,lamO q' params body scope (clOf X.env.cells scope.names []) pm ctv c) (List.mem_append_right _ (List.mem_append_left _ (List.mem_append_right _ (List.mem_singleton.mpr rfl))))
      exact J2w (A:=X.A.in1) N.inv.ok.frames hr.in1 N4 pf.1 g4 hx S (hb f (.ref c)) ru4 K4
     ·exact K3
    | [],K3=>exact Zf K3
    | [.non],K3=>exact Zf K3
    | [.bl _],K3=>exact Zf K3
    | [.int _],K3=>exact Zf K3
    | [.str _],K3=>exact Zf K3
    | [.tup _],K3=>exact Zf K3
    | [.rol _],K3=>exact Zf K3
    | x::_::_,K3=>cases x<;>exact Zf K3
   ·exact Zf K1
  | _=>exact Zf K1
end
noncomputable def bmV:List Value:=[.type "ValueError",.type "Exception",.type "BaseException",.type "object"]
noncomputable def XCls (K:W.Frag) (C:Addr):Prop:=W.excIn K C bmV "ValueError.__new__"=true
theorem XCls.obj {K:W.Frag}{C:Addr}{h:Heap}(x:XCls K C) (I:K.In h):∃bm N nm q bs hdct sn sub ab col dd k0 k1 k2 k3 k5 mN,h.get? C=some (excClassObj nm q C N bs bm hdct sn sub ab col dd k0 k1 k2 k3 k5 "ValueError.__new__")/\h.Ns N mN/\mN "__init__"=none/\OwnTail h bmV bm:=by
 unfold XCls W.excIn at x
 split at x
 case h_2=>cases x
 rename_i dd cd sl ho
 split at x
 case h_2=>cases x
 rename_i D bm k0 k1 k2 k3 n k5 em es
 simp only[Bool.and_eq_true,beq_iff_eq,Bool.not_eq_true'] at x
 obtain⟨⟨⟨⟨⟨e1,e2⟩,e3⟩,e4⟩,e5⟩,e6⟩:=x
 subst e1 e2
 obtain⟨nm,bs,mro,N,qn,hd,sn,sub,ab,col,del⟩:=cd
 have em:mro=.ref D::bm:=em
 have e3:del=false:=e3
 subst em e3
 have es:sl=#[k0,k1,k2,k3,some (.builtin "ValueError.__new__"),k5]:=by
  rw[<- Array.toArray_toList (xs:=sl),es]
 subst es
 exact⟨bm,N,nm,qn,bs,hd,sn,sub,ab,col,dd,k0,k1,k2,k3,k5,_,I _ _ ho,.of_isNs (W.isNs_of_in I e5),W.nsMap_none_of_in I e5 e6,W.tail_of_in I e4⟩
noncomputable def J1h (c:Str) (a:A1):S1:=λ σ h=>rS σ (a σ h) λ vs h1=>if vs.length<=sizeLine then .exc h1.length σ (h1++[.exc c []]) else .stuck
section
variable {ce:Str->Option Addr}{X:Cx}{C:Addr}{x c:Str}{np cpos pos:Pos}{e:Expr}{es:List Expr}{ma:A1}
theorem J3s (hc:X.calm=true) (hg:Gl X x) (hm:X.mg x=some (.ref C)) (hC:W.nsIn X.K mainGlobals c=some (some (.ref C))) (xc:XCls X.K C) (ha:PAi ce X (e::es) ma) (hdb:(x==("__debug__":Str))=false:=by decide)
  (he:starEach (e::es) X.env=(false,eval e X.env)::starEach es X.env:=by rfl) (hpl:(backTo cpos (starEach es X.env)).any (·.1)=false:=by rfl):PS1 ce X (.Raise (some (.Call (.Name x np) (e::es) [] cpos)) none pos) (J1h c ma):=by
 intro pins s σ H ι σi h Q E N K
 obtain⟨bm,Na,nm,q,bs,hdct,sn,sub,ab,col,dd,k0,k1,k2,k3,k5,mN,hCo,hN,hni,T⟩:=xc.obj N.inv.mod.kin
 have hpa:(backTo cpos (starEach (e::es) X.env)).any (·.1)=false:=by
  rw[he]
  show(false||(backTo cpos (starEach es X.env)).any (·.1))=false
  rw[hpl]
  rfl
 refine wpAny_Raise_call_subU (mN:=mN) (nm:=nm) (q:=q) (N:=Na) (bs:=bs) (hdct:=hdct) (sn:=sn) (sub:=sub) (ab:=ab) (col:=col) (dd:=dd) (k0:=k0) (k1:=k1) (k2:=k2) (k3:=k3) (k5:=k5) F.excBase_ValueError (by decide) F.excBase_ValueError (T.hasType (by decide)) (N.inv.ok.hd hc) hpa hni (Jdv N.inv hg hm ⟨rfl,?_⟩ hdb)
 have hs:=ha cpos
 rw[he] at hs ⊢
 refine Calls.evalArgs_plain (krun hs N K λ vs h1 us s1 H1 ι1 N1 n1 r1 K1=>?_)
 change Jaw ce X pins ι1 H1 (if vs.length<=sizeLine then _ else _) Q E at K1
 split at K1
 case isFalse=>exact K1.elim
 rename_i hz
 have kb:=N1.inv.bk
 have hl:us.length=vs.length:=by
  obtain⟨ws,rv,qv⟩:=r1
  rw[<- rv.length,qv.length]
 refine⟨rfl,by show us.length<=_;omega,kb _ _ hCo,hN.keeps kb,T.keeps kb,λ h' a M=>?_⟩
 obtain⟨t,hat,_,_⟩:=M.there
 have hf:H1 a=none:=by
  cases z:H1 a with
  | none=>rfl
  | some u =>
   obtain⟨o,z'⟩:=Jwl (N1.inv.hok a u z)
   rw[M.new] at z'
   cases z'
 obtain⟨R2,n2⟩:=N1.rel.alloc (o:=ExF a C .none none) (io:=.exc c []) hf ⟨C,.none,none,.inl ⟨rfl,rfl⟩,hC,Je,.inl rfl⟩
 have kk:∀b u,s1.heap.get? b=some u->h'.get? b=some u:=λ b u q=>M.keeps b u q
 have up:∀{b:Addr}{u:HO},H1 b=some u->upd H1 a (ExF a C .none none) b=some u:=λ {b u} q=>by
  rw[Jg (λ z=>by subst z;rw[hf] at q;cases q)]
  exact q
 have un:Un X.fs [] H1 (upd H1 a (ExF a C .none none)) s1.heap h' :=
  ⟨λ b o q _ _ _=>kk b o q,λ b o q _ _ _=>⟨o.slots,kk b o q⟩,λ b o q n _=>by rw[Jg (λ z=>by subst z;rw[M.new] at q;cases q)];exact n,λ b o q _=>⟨o,kk b o q⟩,λ b xs q=>up q,λ b o u q=>up q,λ b ps q=>⟨#[],by rw[up q];simp⟩⟩
 have ok:HOk X.prog X.w (upd H1 a (ExF a C .none none)) h':=λ b u q=>by
  by_cases z:b=a
  ·subst z
   rw[Je] at q
   cases q
   exact ExF.ok hat rfl rfl rfl rfl rfl
  ·rw[Jg z] at q
   exact(N1.inv.hok b u q).stay (λ d v _ p=>kk d v p) (λ d p=>up p) λ d xs p=>up p
 have I2:Inv X pins σ (upd H1 a (ExF a C .none none)) { s1 with heap:=h' }:=N1.inv.un (t':=s1.toks) un ok
 refine K1 [] a _ σ _ _ ⟨by simpa using I2,R2,N1.st.mono n2⟩ n2 ?_ _ (.inl rfl)
 rw[<- N1.rel.len,List.getElem?_append_right (Nat.le_refl _)]
 simp
end
noncomputable abbrev Jv (X:Cx) (a:Addr):Cx:={ X with A:=X.A.mark (some (.ref a)),calm:=false }
section
variable {ce:Str->Option Addr}{X:Cx}{a C:Addr}{pins:List (Addr×Obj)}{σ:L2.St}{H:Hp}{s:Shared}{ι:List Addr}{σi:ISt}{h:IH}{n:Nat}{c:Str}{fs:List (Str×IV)}{tv:Value}
theorem Jm5 (I:Inv X pins σ H s) (a:Addr):Inv (Jv X a) pins σ H s :=
 ⟨⟨I.ok.mod,I.ok.kind,I.ok.glob,I.ok.blt,I.ok.above,I.ok.inj,I.ok.has,I.ok.cab,nofun,I.ok.frames,I.ok.stk,I.ok.exf,I.ok.bs,I.ok.bsz,I.ok.noex,I.ok.exfs,I.ok.funs,I.ok.frf⟩,I.os,I.bare,I.base,I.loc,I.cell,I.free,I.freeC,I.pin,I.hok,I.len⟩
theorem Jl7 (ok:X.Ok) (I:Inv (Jv X a) pins σ H s):Inv X pins σ H s :=
 ⟨ok,I.os,I.bare,I.base,I.loc,I.cell,I.free,I.freeC,I.pin,I.hok,I.len⟩
theorem _root_.L2.Inv.fewer {pins':List (Addr×Obj)}(I:Inv X pins σ H s) (k:∀p∈X.pn++pins',p∈X.pn++pins):Inv X pins' σ H s :=
 ⟨I.ok,I.os,I.bare,I.base,I.loc,I.cell,I.free,I.freeC,λ p hp=>I.pin p (k p hp),I.hok,I.len⟩
theorem Jzn {d:Option Addr}{T:Addr}{oT:Obj}{h':Heap}(N:Now ce X pins ι σi h σ H s) (hj:h[n]?=some (.exc c fs)) (hi:ι[n]?=some a) (hC:W.nsIn X.K mainGlobals c=some (some (.ref C))) (ha:H a=some (ExF a C tv d)) (p:Past X H s.heap a C d T oT h') :
  Now ce X pins ι σi h σ (upd (upd H T (.frz oT (.own 0))) a (ExF a C (.ref T) d)) { s with heap:=h' }/\Nxt ι H ι (upd (upd H T (.frz oT (.own 0))) a (ExF a C (.ref T) d)):=by
 obtain⟨C',tv',d',fe,_,ha',_⟩:=Jld N.rel hj hi
 rw[Jyk N.inv.hok ha' ha] at fe
 obtain⟨R4,n4⟩:=N.rel.grow (o:=.frz oT (.own 0)) p.new
 have ha4:upd H T (.frz oT (.own 0)) a=some (ExF a C tv d):=by rw[Jg (Ne.symm p.ne)];exact ha
 obtain⟨R5,n5⟩:=R4.write hi ha4 (by rw[ha4];trivial) (o:=ExF a C (.ref T) d) (io:=.exc c fs) ⟨C,.ref T,d,fe.mono p.un.frzs,hC,Je,.inr ⟨T,oT,_,rfl,by rw[Jg p.ne,Je],p.fld.choose_spec⟩⟩
 rw[Jnl hj] at R5
 have I:=N.inv.call (g':=s.gens) (t':=s.toks) (d':=s.drawn) (ch:=[]) p.un p.hok N.inv.bare λ b z=>absurd z (by simp)
 exact⟨⟨I,R5,N.st.mono (n4.trans n5)⟩,n4.trans n5⟩
theorem Jj7 {d:Option Addr}{M:Model}{A:Around}{Q:Unit->Shared->Prop}{E:Value->Shared->Prop}(ok:HOk X.prog X.w H s.heap) (ha:H a=some (ExF a C tv d)) (ht:TvOk H tv) (k:∀h',(∀b o,s.heap.get? b=some o->h'.get? b=some o)->Q () { s with heap:=h' }) :
  wpAny M A (setFlight (.ref a) none) Q E s:=by
 obtain⟨oe,vs,e1,e2,e3,e4,_⟩:=ExF.get ok ha
 unfold setFlight
 refine wpAny_bind (wpAny_field e1 e3 e4 ?_)
 rcases ht with rfl|⟨T,oT,ts,rfl,q1,q2,q3⟩
 ·rw[if_neg (by decide)]
  exact wpAny_pure (k s.heap λ _ _ q=>q)
 ·have gT:s.heap.get? T=some oT:=(ok T _ q1).1
  rw[if_pos (by simp)]
  refine wpAny_setField gT q2 (Array.getElem?_eq_some_iff.mp q3).1 (k _ λ b o q=>?_)
  by_cases z:b=T
  ·subst z
   rw[gT] at q
   cases q
   exact Jq5 gT q2 q3
  ·rw[Heap.get?_update_other _ _ (Ne.symm z)]
   exact q
theorem Jyr {M:Model}{A:Around}{E:Value->Shared->Prop}{Q:Unit->Shared->Prop}{i:Nat}{x:Str}{pos:Pos}(I:Inv X pins σ H s) (hN:X.N.Nodup) (hi:X.N[i]?=some x) (hx:X.env.kindOf x=some .local) (k:∀s',Inv X pins (σ.set i none) H s'->Q () s') :
  wpAny M A (do bindName X.env x .none;unbindBehindTheSuite X.env x pos) Q E s:=by
 obtain⟨m,hn,hl⟩:=id I.loc
 have hcls:(X.env.scope.kind==.class||(X.env.scope.kind==.module&&X.env.locals != X.env.globals))=false:=by rw[I.ok.kind];rfl
 have cne:=I.cne
 refine wpAny_nameGoes_keeps hx hn hcls λ h' v hn' hs=>?_
 have up:∀{b:Addr}{o:Obj},X.s₀.heap.get? b=some o->b≠X.env.locals:=λ e=>Nat.ne_of_lt (Nat.lt_of_lt_of_le (Heap.lt_size e) I.ok.above)
 refine k _ ⟨I.ok,I.os,I.bare,⟨λ b o e nn hb hx=>?_,λ b o e nn hb hx=>?_,I.base.free,λ b o e hx=>?_,I.base.tups,I.base.frzs,I.base.tbls⟩,⟨_,hn',λ j y w e1 e2 e3=>?_⟩,λ y cc e=>?_,I.free,I.freeC,λ p hp=>?_,λ b ob e=>?_,by rw[List.length_set];exact I.len⟩
 ·exact(hs.2 b (up e)).trans (I.base.keep b o e nn hb hx)
 ·obtain⟨sl,e1⟩:=I.base.slot b o e nn hb hx
  exact⟨sl,(hs.2 b (up e)).trans e1⟩
 ·obtain⟨o',e1⟩:=I.base.there b o e hx
  exact⟨o',(hs.2 b (up e)).trans e1⟩
 ·by_cases z:j=i
  ·subst z
   have hj:j<σ.length:=by rw[I.len];exact(List.getElem?_eq_some_iff.mp hi).1
   rw[List.getElem?_set_self hj] at e2
   cases e2
  ·rw[List.getElem?_set_ne (Ne.symm z)] at e2
   obtain⟨u,r,q⟩:=hl j y w e1 e2 e3
   refine⟨u,r,?_⟩
   rcases q with⟨q1,q2⟩|⟨q1,cc,q2,q3⟩
   ·refine .inl ⟨q1,?_⟩
    show(if y=x then v else m y)=some u
    rw[if_neg (show ¬y=x from λ z2=>z (Jm9 hN e1 (by rw[z2];exact hi)))]
    exact q2
   ·exact .inr ⟨q1,cc,q2,q3.sameBut hs (cne y cc q2)⟩
 ·obtain⟨w',z⟩:=I.cell y cc e
  exact⟨w',z.sameBut hs (cne y cc e)⟩
 ·obtain⟨e,nn,ne,nf,d⟩:=I.pin p hp
  exact⟨(hs.2 p.1 ne).trans e,nn,ne,nf,d⟩
 ·have nb:∀{d:Addr}{u:HO},H d=some u->d≠X.env.locals:=λ q z=>by rw[z,I.free] at q;cases q
  refine(I.hok b ob e).stay (λ d w' hc q=>(hs.2 d ?_).trans q) (λ _ q=>q) λ _ _ q=>q
  rcases hc with rfl|hc
  ·exact nb e
  ·exact nb hc
end
theorem RSt.unset {K:W.Frag}{ι:List Addr}{H:Hp}{σi:ISt}{σ:L2.St}(r:RSt K ι H σi σ) (i:Nat):RSt K ι H (σi.set i none) (σ.set i none):=by
 refine⟨by simp[r.len],λ j w e=>?_⟩
 by_cases z:j=i
 ·subst z
  have hl:j<σi.length:=by
   have:=(List.getElem?_eq_some_iff.mp e).1
   simpa using this
  rw[List.getElem?_set_self hl] at e
  cases e
 ·rw[List.getElem?_set_ne (Ne.symm z)] at e
  obtain⟨u,e1,q1⟩:=r.at_ j w e
  exact⟨u,by rw[List.getElem?_set_ne (Ne.symm z)];exact e1,q1⟩
noncomputable abbrev HdI:=(Str->Option Bool)×Option Nat×S1
noncomputable def Jo2 (sl:Option Nat) (x:Option IV) (σ:ISt):ISt:=match sl with
 | some i=>σ.set i x
 | none=>σ
noncomputable def SRes.drop (sl:Option Nat) (r:SRes):SRes:=match r with
 | .next σ h=>.next (Jo2 sl none σ) h
 | .brk σ h=>.brk (Jo2 sl none σ) h
 | .cont σ h=>.cont (Jo2 sl none σ) h
 | .ret v h=>.ret v h
 | _=>.stuck
noncomputable def Je2:List HdI->Str->Nat->S1
 | [],_,_=>λ _ _=>.stuck
 | q::r,c,n=>λ σ h=>match q.1 c with
  | some true=>(q.2.2 (Jo2 q.2.1 (some (.ref n)) σ) h).drop q.2.1
  | some false=>Je2 r c n σ h
  | none=>.stuck
noncomputable def sTry (b:S1) (hs:List HdI):S1:=λ σ h=>match b σ h with
 | .exc n σ1 h1=>(match h1[n]? with
  | some (.exc c _)=>Je2 hs c n σ1 h1
  | _=>.stuck)
 | r=>r
noncomputable def PSH (ce:Str->Option Addr) (X:Cx) (a:Addr) (sl:Option Nat) (suite:List Stmt) (m:S1):Prop :=
 ∀(pins:List (Addr×Obj)) (s:Shared) (σ:L2.St) (H:Hp) (ι:List Addr) (σi:ISt) (h:IH) (Q:Flow->Shared->Prop) (E:Value->Shared->Prop) (n:Nat) (c:Str) (fs:List (Str×IV)),X.Ok->Now ce (Jv X a) pins ι σi h σ H s->h[n]?=some (.exc c fs)->ι[n]?=some a->(∀i,sl=some i->i<σi.length->σi[i]?=some (some (.ref n))) ->
  Jaw ce (Jv X a) pins ι H (m σi h) Q E->wpAny (model X.prog X.w) (Jv X a).A (execs suite X.env) Q E s
theorem PS2.h {ce:Str->Option Addr}{X:Cx}{a:Addr}{sl:Option Nat}{suite:List Stmt}{m:S1}(p:PS2 ce (Jv X a) suite m):PSH ce X a sl suite m:=λ pins s σ H ι σi h Q E _ _ _ _ N _ _ _ K=>p pins s σ H ι σi h Q E N K
structure HdOk (ce:Str->Option Addr) (X:Cx) (t:Expr) (nm:Option Str) (suite:List Stmt) (f:Str->Option Bool) (sl:Option Nat) (m:S1):Prop where
 test:∀(a:Addr) (c:Str) (C:Addr) (b:Bool) (pins:List (Addr×Obj)) (σ:L2.St) (H:Hp) (s:Shared) (Q:Bool->Shared->Prop) (E:Value->Shared->Prop),f c=some b->W.nsIn X.K mainGlobals c=some (some (.ref C))->Inv (Jv X a) pins σ H s->(∃oe,s.heap.get? a=some oe/\oe.cls=.ref C)->Q b s ->
  wpAny (model X.prog X.w) (Jv X a).A (eval t X.env) (λ v s₁=>wpAny (model X.prog X.w) (Jv X a).A (excMatches (.ref a) v) Q E s₁) E s
 nm:(nm=none/\sl=none)∨∃n i,nm=some n/\sl=some i/\X.N[i]?=some n/\X.env.kindOf n=some .local
 run:∀a,PSH ce X a sl suite m
inductive HdsOk (ce:Str->Option Addr) (X:Cx):List ExceptHandler->List HdI->Prop
 | nil:HdsOk ce X [] []
 | cons {t:Expr}{nm:Option Str}{b₀:Stmt}{suite:List Stmt}{pos:Pos}{f:Str->Option Bool}{sl:Option Nat}{m:S1}{hs:List ExceptHandler}{ms:List HdI}:HdOk ce X t nm (b₀::suite) f sl m->HdsOk ce X hs ms->HdsOk ce X (.ExceptHandler (some t) nm (b₀::suite) pos::hs) ((f,sl,m)::ms)
section
variable {ce:Str->Option Addr}{X:Cx}
theorem Jvp (hN:X.N.Nodup){hs:List ExceptHandler}{ms:List HdI}(O:HdsOk ce X hs ms){a:Addr}{pins:List (Addr×Obj)}{σ:L2.St}{H:Hp}{s:Shared}{ι:List Addr}{σi:ISt}{h:IH}{n:Nat}{c:Str}{fs:List (Str×IV)}{Q:Flow->Shared->Prop}{E:Value->Shared->Prop}
  (N:Now ce X pins ι σi h σ H s) (hj:h[n]?=some (.exc c fs)) (hi:ι[n]?=some a) (K:Jaw ce X pins ι H (Je2 ms c n σi h) Q E):wpAny (model X.prog X.w) X.A (handleBy (.ref a) X.env hs) Q E s:=by
 obtain⟨C,tv,d,fe,hC,ha,ht⟩:=Jld N.rel hj hi
 obtain⟨oe,vs,e1,e2,_⟩:=ExF.get N.inv.hok ha
 induction O with
 | nil=>exact Zf K
 | @cons t nm b₀ suite pos f sl m hs ms o O ih =>
  unfold Je2 at K
  dsimp only at K
  cases hb:f c with
  | none=>rw[hb] at K;exact Zf K
  | some b =>
   rw[hb] at K
   refine wpAny_handleBy_cons (codeAny_handlers_test (o.test a c C b pins σ H s _ _ hb hC (Jm5 N.inv a) ⟨oe,e1,e2⟩ ?_)) (by intro q;cases q)
   cases b with
   | false=>exact ih K
   | true =>
    dsimp only at K
    rcases o.nm with⟨rfl,rfl⟩|⟨x,i,rfl,rfl,hx,hk⟩
    ·have K:Jaw ce X pins ι H ((m σi h).drop none) Q E:=K
     refine codeAny_handlers_suite (Jj7 N.inv.hok ha ht λ h' kp=>?_)
     have N2:Now ce (Jv X a) pins ι σi h σ H { s with heap:=h' }:=⟨Jm5 (N.inv.kept (t':=s.toks) kp) a,N.rel,N.st⟩
     refine o.run a pins _ σ H ι σi h _ _ n c fs N.inv.ok N2 hj hi (λ i z=>by cases z) ?_
     have un:∀{pins:List (Addr×Obj)}{ι:List Addr}{σi:ISt}{h:IH}{σ:L2.St}{H:Hp}{s:Shared},Now ce (Jv X a) pins ι σi h σ H s->Now ce X pins ι σi h σ H s:=λ q=>⟨Jl7 N.inv.ok q.inv,q.rel,q.st⟩
     cases em:m σi h with
     | next σ2 h2=>rw[em] at K;exact λ s3 σ3 H3 ι3 N3 n3=>K s3 σ3 H3 ι3 (un N3) n3
     | brk σ2 h2=>rw[em] at K;exact λ s3 σ3 H3 ι3 N3 n3=>K s3 σ3 H3 ι3 (un N3) n3
     | cont σ2 h2=>rw[em] at K;exact λ s3 σ3 H3 ι3 N3 n3=>K s3 σ3 H3 ι3 (un N3) n3
     | ret v h2=>rw[em] at K;exact λ u s3 σ2 σ3 H3 ι3 N3 n3 r3=>K u s3 σ2 σ3 H3 ι3 (un N3) n3 r3
     | exc k σ2 h2=>rw[em] at K;exact Zf K
     | stuck=>rw[em] at K;exact Zf K
    ·have K:Jaw ce X pins ι H ((m (σi.set i (some (.ref n))) h).drop (some i)) Q E:=K
     refine codeAny_handlers_suite_as (Jj7 N.inv.hok ha ht λ h' kp=>?_)
     have I2:Inv (Jv X a) pins σ H { s with heap:=h' }:=Jm5 (N.inv.kept (t':=s.toks) kp) a
     refine Jjj (X:=Jv X a) (v:=V.ref a) I2 hN hx (.inl hk) rfl (λ s3 I3=>?_) (.inr hk)
     have N3:Now ce (Jv X a) pins ι (σi.set i (some (.ref n))) h (σ.set i (some (V.ref a))) H s3:=⟨I3,N.rel,N.st.set i ⟨a,rfl,hi⟩⟩
     refine o.run a pins _ _ H ι _ h _ _ n c fs N.inv.ok N3 hj hi (λ j z l=>by cases z;exact List.getElem?_set_self (by simpa using l)) ?_
     have fin:∀{ι3:List Addr}{σ2:ISt}{h2:IH}{σ3:L2.St}{H3:Hp}{s3:Shared}{W:Unit->Shared->Prop},Now ce (Jv X a) pins ι3 σ2 h2 σ3 H3 s3->(∀s4,Now ce X pins ι3 (σ2.set i none) h2 (σ3.set i none) H3 s4->W () s4)->wpAny (model X.prog X.w) X.A (do bindName X.env x .none;unbindBehindTheSuite X.env x pos) W E s3:=λ q k =>
      Jyr (Jl7 N.inv.ok q.inv) hN hx hk λ s4 I4=>k s4 ⟨I4,q.rel,q.st.unset i⟩
     cases em:m (σi.set i (some (.ref n))) h with
     | next σ2 h2=>rw[em] at K;exact λ s3 σ3 H3 ι3 N3 n3=>fin N3 λ s4 N4=>K s4 _ H3 ι3 N4 n3
     | brk σ2 h2=>rw[em] at K;exact λ s3 σ3 H3 ι3 N3 n3=>fin N3 λ s4 N4=>K s4 _ H3 ι3 N4 n3
     | cont σ2 h2=>rw[em] at K;exact λ s3 σ3 H3 ι3 N3 n3=>fin N3 λ s4 N4=>K s4 _ H3 ι3 N4 n3
     | ret v h2=>rw[em] at K;exact λ u s3 σ2 σ3 H3 ι3 N3 n3 r3=>fin N3 λ s4 N4=>K u s4 _ _ H3 ι3 N4 n3 r3
     | exc k σ2 h2=>rw[em] at K;exact Zf K
     | stuck=>rw[em] at K;exact Zf K
theorem s_try {body:List Stmt}{mb:S1}{h₀:ExceptHandler}{hs:List ExceptHandler}{ms:List HdI}{pos:Pos}(hN:X.N.Nodup) (hk:X.stack=X.env::X.outer) (hf:X.env.frame=some X.env.locals) (hb:PS2 ce X body mb) (O:HdsOk ce X (h₀::hs) ms):PS1 ce X (.Try body (h₀::hs) [] [] pos) (sTry mb ms):=by
 intro pins s σ H ι σi h Q E N K
 unfold sTry at K
 refine wpAny_Try_except (hb pins s σ H ι σi h _ _ N ?_)
 cases e:mb σi h with
 | next σ2 h2=>rw[e] at K;exact λ s3 σ3 H3 ι3 N3 n3=>wpAny_execs_nil (K s3 σ3 H3 ι3 N3 n3)
 | brk σ2 h2=>rw[e] at K;exact K
 | cont σ2 h2=>rw[e] at K;exact K
 | ret v h2=>rw[e] at K;exact K
 | stuck=>rw[e] at K;exact K
 | exc n σ2 h2 =>
  rw[e] at K
  dsimp only at K
  cases hj:h2[n]? with
  | none=>rw[hj] at K;exact Zf K
  | some ob =>
   cases ob with
   | exc c fs =>
    rw[hj] at K
    intro pl a s3 σ3 H3 ι3 N3 n3 hi s4 fl
    have N3:Now ce X pins ι3 σ2 h2 σ3 H3 s3:=⟨N3.inv.fewer λ p hp=>List.mem_append.mpr ((List.mem_append.mp hp).imp_right λ z=>List.mem_append_left _ z),N3.rel,N3.st⟩
    obtain⟨C,tv,d,fe,hC,ha,ht⟩:=Jld N3.rel hj hi
    refine Jsd N3.inv fl hk hf ha ht λ T oT h' p=>?_
    obtain⟨N4,n4⟩:=Jzn N3 hj hi hC ha p
    exact Jvp hN O N4 hj hi (Jaw.mono (r:=Je2 ms c n σ2 h2) K (n3.trans n4))
   | _=>rw[hj] at K;exact Zf K
end
theorem Jum (a:Value):argsOk "max" ⟨[a],[]⟩:=by unfold argsOk;kernel_rfl
section
variable {ce:Str->Option Addr}{X:Cx}
noncomputable def Jtk:IV->IH->Res IV
 | .ref i,h=>match h[i]? with
  | some (.lst xs)=>(match Jd8 xs with
   | some ns=>if ns=[] then .stuck else .ok (.int (Jct (λ i=>ns.getD i 0) ns.length)) h
   | none=>.stuck)
  | _=>.stuck
 | _,_=>.stuck
theorem J46 (hh:X.A.handled=none):Ji3 ce X (.builtin "max") (on1 Jtk):=Jqe λ pins s σ H ι σi h x xv u Q E N ru qx K=>by
 cases x with
 | ref i =>
  obtain⟨a,e1,ha⟩:=qx
  subst e1
  cases ru
  dsimp only[Jtk] at K
  cases hi:h[i]? with
  | none=>rw[hi] at K;exact Zf K
  | some ob =>
   rw[hi] at K
   cases ob with
   | lst xs =>
    dsimp only at K
    cases hb:Jd8 xs with
    | none=>rw[hb] at K;exact Zf K
    | some ns =>
     rw[hb] at K
     dsimp only at K
     split at K
     ·exact Zf K
     ·rename_i hne
      obtain⟨vs,e1,r1⟩:=N.at hi ha
      obtain⟨its,rv,pl,hz⟩:=N.inv.list (SqL.of e1)
      refine Jwi (d:=none) rfl (Jum _) (λ q=>absurd q hne) hh pl.isList (Jig hb r1 rv) λ v h2 tk mi kk=>?_
      rcases mi with⟨e,_⟩|⟨_,t,ev⟩
      ·exact absurd e hne
      ·subst ev
       exact fin0 N K rfl _ _ (N.inv.kept (t':=tk) kk) ⟨t,rfl⟩
   | _=>exact Zf K
 | _=>exact Zf K
structure BasK (K:W.Frag) (C:Addr):Prop where
 sp:W.specialIn K (.ref C) "__getattribute__"=some (some (.builtin "type.__getattribute__"))
 rd:W.readsIn K C (.type "type")=true
 fc:∃fa,W.findIn K (.ref C) "__init__"=some (some (.ref fa))/\W.findCls K (.ref C) (.type "type") "__init__"=some (.val (.ref fa))/\W.keepIn K (.ref fa)=true
variable {k:Nat}{fa C:Addr}{fd:FuncData}{ps:List Str}{f:List IV->IH->Res IV}{dvs:List IV}{ds:List Value}{x:Str}{p pos apos:Pos}{e:Expr}{es:List Expr}{ma:A1}{pl:Sem Bool}
end
section
variable {prog:Program}{w:World}{A:Around}{E:Value->Shared->Prop}{s:Shared}{x y:Str}{t u:Tok}{Q:Value->Shared->Prop}
open Builtin Builtin.Str in
end
noncomputable def onTT (f:Str->Str->IH->Res IV):IV->List IV->IH->Res IV
 | .str x,[.str y],h=>f x y h
 | _,_,_=>.stuck
section
variable {ce:Str->Option Addr}{X:Cx}
noncomputable def intTI:IV->IH->Res IV
 | .str x,h=>if x.length<=640 then(match PySem.intText? x with
  | some n=>.ok (.int n) h
  | none=>.stuck) else .stuck
 | v,h=>intI v h
noncomputable def fmtI:IV->IH->Res IV
 | .str x,h=>if x.length<=sizeLine then .ok (.str x) h else .stuck
 | .int i,h=>if i.natAbs.log2<1920 then .ok (.str (toString i)) h else .stuck
 | _,_=>.stuck
theorem i_fmt {a:Expr}{ma:E1}{pos:Pos}(ha:PEi ce X a ma):PEi ce X (.FormattedValue a (-1) none pos) (eUn fmtI ma) :=
 λ pins s σ H ι σi h Q E N K=>wpAny_FormattedValue_plain (ha.run N K λ x h1 u s1 H1 ι1 N1 n1 r1 K1=>by
  obtain⟨xv,rx,qx⟩:=r1
  cases x with
  | str x =>
   cases (show xv=.str x from qx)
   obtain⟨t,rfl⟩:=rx
   dsimp only[fmtI] at K1
   split at K1
   ·rename_i hz
    exact wpAny_formatField_str (fin0 N1 K1 rfl _ _ N1.inv ⟨_,rfl⟩) (fin0 N1 K1 rfl _ _ (N1.inv.tok _) ⟨_,rfl⟩) hz
   ·exact Zf K1
  | int i =>
   cases (show xv=.int i from qx)
   obtain⟨t,rfl⟩:=rx
   dsimp only[fmtI] at K1
   split at K1
   ·rename_i hz
    exact wpAny_formatField_int hz (fin0 N1 K1 rfl _ _ (N1.inv.tok _) ⟨_,rfl⟩)
   ·exact Zf K1
  | _=>exact Zf K1)
noncomputable def Jst:List E1->Str->E1
 | [],acc=>λ _ h=>if acc.length<=sizeLine then .ok (.str acc) h else .stuck
 | m::r,acc=>λ σ h=>(m σ h).bind λ v h1=>match v with
  | .str y=>if (acc++y).length<=sizeLine then Jst r (acc++y) σ h1 else .stuck
  | _=>.stuck
noncomputable def eFst (ms:List E1):E1:=Jst ms Str.empty
theorem J6a {f:Expr->E1}(hf:∀e,PEi ce X e (f e)){pins:List (Addr×Obj)}{σ:L2.St}{σi:ISt}{Q:Value->Shared->Prop}{E:Value->Shared->Prop} :
  ∀(es:List Expr) (acc:Str) (s:Shared) (H:Hp) (ι:List Addr) (h:IH),Now ce X pins ι σi h σ H s->Kont ce X RU pins ι σi σ H (Jst (es.map f) acc σi h) Q E ->
   Joins (model X.prog X.w) X.A E (evalEach es X.env) acc (λ out s₁=>out.length<=sizeLine/\Q (.str out s₁.toks) { s₁ with toks:=s₁.toks+1 }) s
 | [],acc,s,H,ι,h,N,K=>by
  have K:Kont ce X RU pins ι σi σ H (if acc.length<=sizeLine then .ok (.str acc) h else .stuck) Q E:=K
  split at K
  ·rename_i hz
   exact⟨hz,fin0 N K rfl _ _ (N.inv.tok _) ⟨_,rfl⟩⟩
  ·exact Zf K
 | e::es,acc,s,H,ι,h,N,K=>by
  refine(hf e).run N K λ x h1 u s1 H1 ι1 N1 n1 r1 K1=>?_
  obtain⟨xv,rx,qx⟩:=r1
  cases x with
  | str y =>
   cases (show xv=.str y from qx)
   obtain⟨t,rfl⟩:=rx
   dsimp only at K1
   split at K1
   ·rename_i hz
    exact⟨y,t,rfl,hz,J6a hf es (acc++y) s1 H1 ι1 h1 N1 K1⟩
   ·exact Zf K1
  | _=>exact Zf K1
theorem i_fst {f:Expr->E1}(hf:∀e,PEi ce X e (f e)){a b:Expr}{r:List Expr}{pos:Pos}:PEi ce X (.JoinedStr (a::b::r) pos) (eFst ((a::b::r).map f)) :=
 λ pins s σ H ι σi h Q E N K=>wpAny_JoinedStr (J6a hf (a::b::r) Str.empty s H ι h N K)
end
section
variable {prog:Program}{w:World}{A:Around}{E:Value->Shared->Prop}{s:Shared}
end
section
variable {ce:Str->Option Addr}{X:Cx}
end
section
variable {ce:Str->Option Addr}{X:Cx}{pins:List (Addr×Obj)}{σ:L2.St}{H:Hp}{s:Shared}{ι:List Addr}{σi:ISt}{h:IH}{n:Nat}{c:Str}{fs:List (Str×IV)}{a:Addr}
end
section
variable {P:Program}{w:World}{K:W.Frag}{mg:Str->Option Value}{base:Heap}{ce:Str->Option Addr}
end
section
variable {ce:Str->Option Addr}{X:Cx}
end
section
variable {prog:Program}{w:World}{A:Around}{E:Value->Shared->Prop}{s:Shared}
end
noncomputable def likeI (h:IH) (x y:IV):Bool:=(match x,y with
 | .ref i,.ref j=>decide (i=j)
 | _,_=>false)||decide (Jic x y h=some true)
noncomputable def J20 (h:IH):List IV->List IV->Bool
 | [],[]=>true
 | x::xs,y::ys=>likeI h x y&&J20 h xs ys
 | _,_=>false
noncomputable def neIn (K:W.Frag) (C:Addr):Bool:=match K.lookup C with
 | some ⟨.type "type",_,.cls cd,sl⟩=>(match cd.mro,sl.toList with
  | [.ref C',.type "object"],[_,_,_,_,some (.builtin _),_]=>C'==C&&!cd.hasDel&&W.nsOkIn K cd.ns&&W.nsIn K cd.ns "__eq__"==some none&&W.nsIn K cd.ns "__ne__"==some none
  | _,_=>false)
 | _=>false
theorem neIn.cmp {K:W.Frag}{C x dx:Addr}{h:Heap}(q:neIn K C=true) (I:K.In h) (hx:h.get? x=some (W.instObj C dx)):h.CmpInst x C [.type "object"]:=by
 unfold neIn at q
 split at q
 case h_2=>cases q
 rename_i dd cd sl ho
 split at q
 case h_2=>cases q
 rename_i D k0 k1 k2 k3 n k5 em es
 simp only[Bool.and_eq_true,beq_iff_eq,Bool.not_eq_true'] at q
 obtain⟨⟨⟨⟨e1,e3⟩,e5⟩,e6⟩,e7⟩:=q
 subst e1
 obtain⟨nm,bs,mro,N,qn,hd,sn,sub,ab,col,del⟩:=cd
 have em:mro=[.ref D,.type "object"]:=em
 have e3:del=false:=e3
 subst em e3
 have es:sl=#[k0,k1,k2,k3,some (.builtin n),k5]:=by
  rw[<- Array.toArray_toList (xs:=sl),es]
 subst es
 exact⟨_,nm,qn,N,bs,hd,sn,sub,ab,col,dd,k0,k1,k2,k3,k5,n,_,hx,rfl,I _ _ ho,.of_isNs (W.isNs_of_in I e5),W.nsMap_none_of_in I e5 e6,W.nsMap_none_of_in I e5 e7⟩
section
variable {ce:Str->Option Addr}{X:Cx}{pins:List (Addr×Obj)}{s:Shared}{σ:L2.St}{H:Hp}{ι:List Addr}{σi:ISt}{h:IH}
end
section
variable {ce:Str->Option Addr}{X:Cx}
end
section
variable {X:Cx}
end
section
variable {ce:Str->Option Addr}{X:Cx}
end
noncomputable def Jbg:Ty->Option Bool
 | .lst=>some true|.ins c=>if c=="Work" then some false else none|.exc _=>none|_=>some false
theorem Js7 {ce:Str->Option Addr}{K:W.Frag}(h:∀C,ce "Work"=some C->ClsI K C/\W.kitOne K (.ref C) (.type "list")=some false):IsOk ce K (.type "list") Jbg:=by
 have O:IsOk ce K (.type "list") Jbq:=Jot
 refine⟨O.non,O.bl,O.int,O.str,O.lst,O.tup,O.dct,λ k C b e hk=>?_,(λ k C b e=>by cases e)⟩
 unfold Jbg at e
 dsimp only at e
 split at e
 ·rename_i q
  cases beq_iff_eq.mp q
  cases e
  exact h C hk
 ·cases e
noncomputable def ExC (h:Heap) (C:Addr):Prop:=∃nm q N bs bm hdct sn sub ab col dd k0 k1 k2 k3 k5 newId,h.get? C=some (excClassObj nm q C N bs bm hdct sn sub ab col dd k0 k1 k2 k3 k5 newId)/\bm.contains (.type "BaseException")=true
theorem Jk9 {M:Model}{A:Around}{E:Value->Shared->Prop}{env:Env}{s:Shared}{x:Sem Value}{Q:Flow->Shared->Prop}(hh:A.handled=none)
  (h:wpAny M A x (λ v s₁=>∃e oe vs C,v=.ref e/\ExC s₁.heap C/\s₁.heap.get? e=some oe/\oe.cls=.ref C/\oe.data=.fields vs/\wpAny M A (setFlight (.ref e) none) (λ _ s₂=>E (.ref e) s₂) E s₁) E s) :
  wpAny M A (raiseStmt env (some x) none) Q E s:=by
 unfold raiseStmt
 refine wpAny_bind (wpAny_mono h (λ v s₁ h₁=>?_) λ _ _ x=>x)
 obtain⟨e,⟨oc,od,odt,osl⟩,vs,C,rfl,⟨nm,q,N,bs,bm,hdct,sn,sub,ab,col,dd,k0,k1,k2,k3,k5,newId,hC,hbase⟩,he,hc,hd,hE⟩:=h₁
 have hcB:(Value.ref C::bm).contains (.type "BaseException")=true:=by rw[List.contains_cons,hbase,Bool.or_true]
 dsimp only at hc hd
 subst hc hd
 obtain⟨hp,g,d,tk,os⟩:=s₁
 generalize hSF:setFlight=SF at hE ⊢
 repeat (first|with_reducible refine wpAny_loadPart_at he ?_|with_reducible refine wpAny_loadPart_at hC ?_|(with_reducible refine wpAny_isSubtype_exc hC ?_;rw[hcB])|wp_step)
 subst hSF
 exact wpAny_mono hE (λ _ s₂ z=>wpAny_raiseNew_none hh z) λ _ _ z=>z
noncomputable def Jkn (rz:Str->Bool) (m:E1):S1:=λ σ h=>rS σ (m σ h) λ v h1=>match v with
 | .ref n=>(match h1[n]? with
  | some (.exc c _)=>if rz c then .exc n σ h1 else .stuck
  | _=>.stuck)
 | _=>.stuck
section
variable {ce:Str->Option Addr}{X:Cx}{x:Expr}{m:E1}{pos:Pos}
theorem Jzw {rz:Str->Bool}(hc:X.calm=true) (he:PEi ce X x m) (hx:∀c C,rz c=true->W.nsIn X.K mainGlobals c=some (some (.ref C))->∀h:Heap,X.K.In h->ExC h C):PS1 ce X (.Raise (some x) none pos) (Jkn rz m):=by
 intro pins s σ H ι σi h Q E N K
 rw[arm_exec_Raise]
 refine wpAny_bind (wpAny_standAt ?_)
 show wpAny _ _ (raiseStmt X.env (some (eval x X.env>>=λ v=>standAt pos>>=λ _=>pure v)) none) Q E s
 refine Jk9 (N.inv.ok.hd hc) ?_
 refine wpAny_bind (krun he N K λ v h1 u s1 H1 ι1 N1 n1 r1 K1=>?_)
 refine wpAny_bind (wpAny_standAt (wpAny_pure ?_))
 cases v with
 | ref n =>
  obtain⟨xv,rx,a,rfl,hi⟩:=r1
  cases rx
  dsimp only at K1
  cases hj:h1[n]? with
  | none=>rw[hj] at K1;exact Zf K1
  | some ob =>
   rw[hj] at K1
   cases ob with
   | exc c fs =>
    dsimp only at K1
    split at K1
    ·rename_i hr
     obtain⟨C,tv,d,fe,hC,ha,ht⟩:=Jld N1.rel hj hi
     obtain⟨oe,vs,e1,e2,e3,_⟩:=ExF.get N1.inv.hok ha
     refine⟨a,oe,vs,C,rfl,hx c C hr hC _ N1.inv.kIn,e1,e2,e3,?_⟩
     refine Jj7 N1.inv.hok ha ht λ h' keep=>?_
     exact K1 [] a _ σ H1 ι1 ⟨by rw[List.append_nil];exact N1.inv.kept (t':=s1.toks) keep,N1.rel,N1.st⟩ .refl hi _ (.inl rfl)
    ·exact Zf K1
   | _=>exact Zf K1
 | _=>exact Zf K1
end
section
variable {prog:Program}{w:World}{A:Around}{E:Value->Shared->Prop}{hp:Heap}{ge:Array GenState}{dr:Drawn}{tk:Nat}{ox:OsState}
variable {nm qn:Str}{C Na:Addr}{bs bm bmB:List Value}{hdct:Bool}{sn:List Str}{sub:List Value}{ab:Bool}{col:Option Bool}{dd:Option Addr}{k0 k1 k2 k3 k5:Option Value}{B Bn newId nid initId inN:String}{bmN:List Value}
theorem Jw6 (Fn:ExcBaseFacts Bn newId inN bmN) (hBn:bmB.contains (.type Bn)=true) (F:ExcBaseFacts B nid initId bmB) (T:OwnTail hp bmB bm){mN:Str->Option Value}{as:List Value}{fI:Addr}{oI:Obj}{Q:Fin->Shared->Prop}
  (hC:hp.get? C=some (excClassObj nm qn C Na bs bm hdct sn sub ab col dd k0 k1 k2 k3 k5 newId)) (hn:hp.Ns Na mN) (hi:mN "__init__"=some (.ref fI)) (hf:hp.get? fI=some oI) (hfc:oI.cls=.type "function") (hz:as.length<=sizeLine)
  (go:∀h' e,Heap.MadeExcOf hp h' e (.ref C) as->wpAny (model prog w) A (call (.ref fI) (.ref e::as)) (λ r s'=>r=.none/\Q (.done (.ret (.ref e))) s') E ⟨h',ge,dr,tk,ox⟩) :
  wpAny (model prog w) A (Builtin.«type.__call__» ⟨.ref C::as,[]⟩) Q E ⟨hp,ge,dr,tk,ox⟩:=by
 repeat (first|with_reducible refine wpAny_loadPart_at hC ?_|with_reducible refine wpAny_madeBy_exc hC ?_|wp_step)
 refine codeAny_call_builtin_code (Code.quiet_builtin _ Fn.quiet) (wpAny_check_new_subU Fn hBn T hC (codeAny_exc_new_subU Fn hBn F T hC ?_ hz))
 show wpAny _ _ _ _ _ _
 generalize hoT:({ cls:=.type "tuple",data:=.seq as.toArray }:Obj)=oT
 generalize hoE:({ cls:=.ref C,data:=.fields #[.ref hp.objs.size,.none,.none,.none,.bool false,.none] }:Obj)=oE
 have up:∀b o,hp.get? b=some o->((hp.push oT).push oE).get? b=some o:=λ b o q=>Heap.get?_push_of_some _ (Heap.get?_push_of_some _ q)
 have gE:((hp.push oT).push oE).get? (hp.objs.size+1)=some oE:=by
  subst hoE hoT
  heap_get
 have gT:((hp.push oT).push oE).get? hp.objs.size=some oT:=by
  subst hoE hoT
  exact Heap.get?_push_of_some _ (Heap.get?_push_at rfl rfl)
 have C1:=up _ _ hC
 have N1:((hp.push oT).push oE).Ns Na mN:=let ⟨o,es,ep,q,r⟩:=hn;⟨o,es,ep,up _ _ q,r⟩
 have cC:(Value.ref C::bm).contains (.ref C)=true:=by simp
 have T1:=T.keeps up
 have made:Heap.MadeExcOf hp ((hp.push oT).push oE) (hp.objs.size+1) (.ref C) as:=⟨up,Heap.get?_none_of_le (Nat.le_succ _),hp.objs.size,by rw[gE,hoE],Heap.get?_none_of_le (Nat.le_refl _),by rw[gT,hoT]⟩
 have gE':=gE
 rw[<- hoE] at gE'
 subst hoE hoT
 unfold isInstance
 repeat (first|with_reducible refine wpAny_loadPart_at gE ?_|(with_reducible refine wpAny_isSubtype_exc C1 ?_;rw[cC])|wp_step)
 show wpAny _ _ (typeLookup (.ref C) _) _ _ _
 refine wpAny_typeLookup_tail C1 N1 T1 F.mroIs F.init.lookup ?_
 rw[hi]
 refine wpAny_holding (wpAny_bind ?_)
 unfold bindSpecial
 refine wpAny_bind (wpAny_typeOf (T:="function") ⟨_,up _ _ hf,hfc⟩ ?_)
 rw[if_pos (by decide)]
 refine wpAny_pure (wpAny_bind (wpAny_mono (go _ _ made) (λ r s' hr=>?_) λ _ _ z=>z))
 obtain⟨rfl,hQ⟩:=hr
 wp_walk
 exact hQ
theorem Juy (Fn:ExcBaseFacts Bn newId inN bmN) (hBn:bmB.contains (.type Bn)=true) (F:ExcBaseFacts B nid initId bmB) (T:OwnTail hp bmB bm){mN:Str->Option Value}{as:List Value}{fI:Addr}{oI:Obj}{Q:Value->Shared->Prop}
  (hC:hp.get? C=some (excClassObj nm qn C Na bs bm hdct sn sub ab col dd k0 k1 k2 k3 k5 newId)) (hn:hp.Ns Na mN) (hi:mN "__init__"=some (.ref fI)) (hf:hp.get? fI=some oI) (hfc:oI.cls=.type "function") (hz:as.length<=sizeLine)
  (go:∀h' e,Heap.MadeExcOf hp h' e (.ref C) as->wpAny (model prog w) (A.under (.builtin "type.__call__" ⟨.ref C::as,[]⟩)) (call (.ref fI) (.ref e::as)) (λ r s'=>r=.none/\Q (.ref e) s') E ⟨h',ge,dr,tk,ox⟩) :
  wpAny (model prog w) A (call (.ref C) as) Q E ⟨hp,ge,dr,tk,ox⟩:=by
 have g1:=tc_lookup
 have g2:=tc_bind (.ref C)
 have gt:(⟨hp,ge,dr,tk,ox⟩:Shared).TypeIs (.ref C) "type":=⟨_,hC,rfl⟩
 refine wpAny_call (codeAny_of_tree ?_)
 show wpAny _ _ (callAny (.ref C) _) _ _ _
 repeat (any_goals (first|assumption|with_reducible refine wpAny_loadPart_at hC ?_|wp_step))
 exact⟨rfl,codeAny_call_builtin_at (Code.quiet_builtin _ (by decide +kernel)) entry_typeCall (wpAny_check_type_call_sub hC (Jw6 Fn hBn F T hC hn hi hf hfc hz go))⟩
end
theorem J6i {K:W.Frag}{h:Heap}{N:Addr}{m:Str->Option Value}{x:Str}{v:Value}(I:K.In h) (G:h.Ns N m) (e:W.nsIn K N x=some (some v)):m x=some v:=by
 obtain⟨o,es,ep,go,gd,_,gf⟩:=G
 unfold W.nsIn at e
 split at e
 ·rename_i q
  have z:=I _ _ q
  rw[go] at z
  cases z
  cases gd
  split at e
  ·rename_i en he
   cases e
   rw[<- gf]
   unfold nsFind findBy
   rw[<- Array.find?_toList,he]
   rfl
  ·split at e<;>cases e
 ·cases e
noncomputable def Jea (K:W.Frag) (C f:Addr):Bool:=match K.lookup C with
 | some ⟨.type "type",_,.cls cd,sl⟩=>(match cd.mro,sl.toList with
  | .ref C'::bm,[_,_,_,_,some (.builtin n),_]=>C'==C&&n=="ValueError.__new__"&&!cd.hasDel&&W.tailIn K bmV bm&&W.nsOkIn K cd.ns&&W.nsIn K cd.ns "__init__"==some (some (.ref f))&&(match K.lookup f with|some o=>o.cls==.type "function"|none=>false)
  | _,_=>false)
 | _=>false
theorem Jea.obj {K:W.Frag}{C f:Addr}{h:Heap}(x:Jea K C f=true) (I:K.In h):∃bm N nm q bs hdct sn sub ab col dd k0 k1 k2 k3 k5 mN oI,h.get? C=some (excClassObj nm q C N bs bm hdct sn sub ab col dd k0 k1 k2 k3 k5 "ValueError.__new__")/\h.Ns N mN/\mN "__init__"=some (.ref f)/\OwnTail h bmV bm/\h.get? f=some oI/\oI.cls=.type "function":=by
 unfold Jea at x
 split at x
 case h_2=>cases x
 rename_i dd cd sl ho
 split at x
 case h_2=>cases x
 rename_i D bm k0 k1 k2 k3 n k5 em es
 simp only[Bool.and_eq_true,beq_iff_eq,Bool.not_eq_true'] at x
 obtain⟨⟨⟨⟨⟨⟨e1,e2⟩,e3⟩,e4⟩,e5⟩,e6⟩,e7⟩:=x
 subst e1 e2
 obtain⟨nm,bs,mro,N,qn,hd,sn,sub,ab,col,del⟩:=cd
 have em:mro=.ref D::bm:=em
 have e3:del=false:=e3
 subst em e3
 have es:sl=#[k0,k1,k2,k3,some (.builtin "ValueError.__new__"),k5]:=by
  rw[<- Array.toArray_toList (xs:=sl),es]
 subst es
 cases lk:K.lookup f with
 | none=>rw[lk] at e7;cases e7
 | some o =>
  rw[lk] at e7
  exact⟨bm,N,nm,qn,bs,hd,sn,sub,ab,col,dd,k0,k1,k2,k3,k5,_,o,I _ _ ho,.of_isNs (W.isNs_of_in I e5),J6i I (.of_isNs (W.isNs_of_in I e5)) e6,W.tail_of_in I e4,I _ _ lk,beq_iff_eq.mp e7⟩
section
variable {X:Cx}{pins:List (Addr×Obj)}{σ:L2.St}{H:Hp}{s:Shared}{k:Nat}{f C:Addr}{fd:FuncData}{ps:List Str}{sp:Sp}{dvs:List V}{ds:List Value}{E:XK}{Q:VK}{us:List Value}{vs:List V}{W:Value->Shared->Prop}
theorem Jwp (xc:Jea X.K C f=true) (F:FnOk X.prog X.w X.K X.mg X.base (CXI X.prog X.w) k f fd ps sp) (hr:Room (k+1) X.A) (hb:Jd6 X.K fd ps ds) (hd:Vals dvs ds) (I:Inv X pins σ H s) (r:Vals vs us) (hz:us.length<=sizeLine)
  (h:∀e,H e=none->sp (.ref e::(vs++dvs)) (upd H e (ExF e C .none none)) (λ v H2=>v=.non/\Q (.ref e) H2) E)
  (hx:∀e s' H',Inv X pins σ H' s'->E e none H'->W e s'):wpAny (model X.prog X.w) X.A (call (.ref C) us) (EP X pins σ Q) W s:=by
 obtain⟨bm,Na,nm,qn,bs,hdct,sn,sub,ab,col,dd,k0,k1,k2,k3,k5,mN,oI,hCo,hN,hni,T,hf,hfc⟩:=Jea.obj xc I.kIn
 obtain⟨hp,ge,dr,tk,ox⟩:=s
 refine Juy PySem.F.excBase_ValueError (by decide) PySem.F.excBase_ValueError T hCo hN hni hf hfc hz λ h' e M=>?_
 obtain⟨t,hat,_,_⟩:=M.there
 have he:H e=none:=by
  cases z:H e with
  | none=>rfl
  | some u =>
   obtain⟨o,z'⟩:=Jwl (I.hok e u z)
   rw[show hp.get? e=none from M.new] at z'
   cases z'
 have kk:∀b u,hp.get? b=some u->h'.get? b=some u:=λ b u q=>M.keeps b u q
 have up:∀{b:Addr}{u:HO},H b=some u->upd H e (ExF e C .none none) b=some u:=λ {b u} q=>by
  rw[Jg (λ z=>by subst z;rw[he] at q;cases q)]
  exact q
 have un:Un X.fs [] H (upd H e (ExF e C .none none)) hp h' :=
  ⟨λ b o q _ _ _=>kk b o q,λ b o q _ _ _=>⟨o.slots,kk b o q⟩,λ b o q n _=>by rw[Jg (λ z=>by subst z;rw[show hp.get? b=none from M.new] at q;cases q)];exact n,λ b o q _=>⟨o,kk b o q⟩,λ b xs q=>up q,λ b o u q=>up q,λ b ps q=>⟨#[],by rw[up q];simp⟩⟩
 have ok:HOk X.prog X.w (upd H e (ExF e C .none none)) h':=λ b u q=>by
  by_cases z:b=e
  ·subst z
   rw[Je] at q
   cases q
   exact ExF.ok hat rfl rfl rfl rfl rfl
  ·rw[Jg z] at q
   exact(I.hok b u q).stay (λ d v _ p=>kk d v p) (λ d p=>up p) λ d xs p=>up p
 have J:Inv X pins σ (upd H e (ExF e C .none none)) ⟨h',ge,dr,tk,ox⟩:=I.un (t':=tk) un ok
 have hq:=h e he
 have ra:Vals (V.ref e::(vs++dvs)) (Value.ref e::(us++ds)):=.cons rfl (r.append hd)
 have la:=ra.length
 have lf:=F.len _ _ _ _ hq
 have hl:(Value.ref e::us++ds).length=ps.length:=by
  rw[List.cons_append]
  omega
 refine wpAny_call (codeAny_mono (F.run _ _ _ _ ⟨.ref e::us,[]⟩ _ _ _ _ (hr.make C us []) (J.env0.make C us []) (hb _ (.ref e::us) J.kIn hl) ra hq) λ res s' q=>?_)
 match res,q with
 | .error x,q =>
  obtain⟨H',I',z⟩:=Jw3 J q
  exact hx x s' H' I' z
 | .ok (.ret u),q =>
  obtain⟨v,H',J3,rv,ev,q3⟩:=J.after q
  subst ev
  exact⟨rv,⟨V.ref e,H',J3,rfl,q3⟩⟩
 | .ok .next,q=>exact False.elim q
 | .ok .brk,q=>exact False.elim q
 | .ok .cont,q=>exact False.elim q
end
noncomputable def Jr2 (c:Str) (f:List IV->IH->Res IV) (dvs:List IV) (a:A1):E1:=λ σ h=>(a σ h).bind λ vs h1=>(f (.ref h1.length::(vs++dvs)) (h1++[.exc c []])).bind λ r h2=>match r with
 | .non=>.ok (.ref h1.length) h2
 | _=>.stuck
section
variable {ce:Str->Option Addr}{X:Cx}{k:Nat}{fa C:Addr}{fd:FuncData}{ps:List Str}{f:List IV->IH->Res IV}{dvs:List IV}{ds:List Value}{x c:Str}{p pos:Pos}{e:Expr}{es:List Expr}{ma:A1}
theorem Jt2 {pins:List (Addr×Obj)}{σ:L2.St}{H:Hp}{ι:List Addr}{σi:ISt}{h:IH}{s:Shared}{Q:Value->Shared->Prop}{E:Value->Shared->Prop}{us:List Value}{xs:List IV}(xc:Jea X.K C fa=true) (F:FnOk X.prog X.w X.K X.mg X.base (CXI X.prog X.w) k fa fd ps (spI ce X.K ps f)) (hC:W.nsIn X.K mainGlobals c=some (some (.ref C))) (hr:Room (k+1) X.A) (hb:Jd6 X.K fd ps ds)
  (hd:∃vs,Vals vs ds/\∀ι H,RVs X.K ι H dvs vs) (hlen:us.length+ds.length+1=ps.length) (hz:us.length<=sizeLine) (N:Now ce X pins ι σi h σ H s) (r:RUs X.K ι H xs us)
  (K:Kont ce X RU pins ι σi σ H ((f (.ref h.length::(xs++dvs)) (h++[.exc c []])).bind λ r h2=>match r with|.non=>.ok (.ref h.length) h2|_=>.stuck) Q E):wpAny (model X.prog X.w) X.A (call (.ref C) us) Q E s:=by
 obtain⟨vs,rv,q⟩:=r
 obtain⟨dv,rd,qd⟩:=hd
 have hl1:=rv.length
 have hl2:=rd.length
 refine wpAny_mono (Jwp (Q:=λ z H'=>∀u s',Inv X pins σ H' s'->RelV z u->Q u s') (E:=λ v _ H'=>∀s',Inv X pins σ H' s'->E v s') xc F hr hb rd N.inv rv hz (λ b hx=>⟨by rw[List.length_cons,List.length_append];omega,?_⟩) λ _ s' _ I' z=>z s' I')
  (λ u s' ⟨z,H',I',r',k'⟩=>k' u s' I' r') λ _ _ z=>z
 obtain⟨R2,n2⟩:=N.rel.alloc (o:=ExF b C .none none) (io:=.exc c []) hx ⟨C,.none,none,.inl ⟨rfl,rfl⟩,hC,Je,.inl rfl⟩
 have hat:(ι++[b])[h.length]?=some b:=by
  rw[<- N.rel.len,List.getElem?_append_right (Nat.le_refl _)]
  simp
 refine⟨ι++[b],h++[.exc c []],.ref h.length::(xs++dvs),R2,⟨_,_,rfl,⟨b,rfl,hat⟩,(RVs.mono n2 _ _ q).append (qd _ _)⟩,?_⟩
 cases e0:f (.ref h.length::(xs++dvs)) (h++[.exc c []]) with
 | ok v h' =>
  rw[e0] at K
  intro z H' ι' R' n' qz
  cases v with
  | non =>
   cases (show z=.non from qz)
   exact⟨rfl,λ u s' I' ru=>K u s' H' ι' ⟨I',R',N.st.mono (n2.trans n')⟩ (n2.trans n') ⟨.ref b,ru,b,rfl,n'.at hat⟩⟩
  | _=>exact Zf K
 | exc n h' =>
  rw[e0] at K
  exact λ a H' ι' R' n' hi s' I'=>K [] a s' H' ι' ⟨by simpa using I',R',N.st.mono (n2.trans n')⟩ (n2.trans n') hi
 | stuck=>rw[e0] at K;exact Zf K
theorem J2s (xc:Jea X.K C fa=true) (kp:W.keepIn X.K (.ref C)=true) (F:FnOk X.prog X.w X.K X.mg X.base (CXI X.prog X.w) k fa fd ps (spI ce X.K ps f)) (hC:W.nsIn X.K mainGlobals c=some (some (.ref C))) (hr:Room (k+1) X.A) (hg:Gl X x) (hm:X.mg x=some (.ref C)) (hb:Jd6 X.K fd ps ds) (hd:∃vs,Vals vs ds/\∀ι H,RVs X.K ι H dvs vs)
  (ha:PAi ce X (e::es) ma) (hlen:∀σ h xs h',ma σ h=.ok xs h'->xs.length+ds.length+1=ps.length) (hz:ps.length<=sizeLine) (hdb:(x==("__debug__":Str))=false:=by decide) (he:starEach (e::es) X.env=(false,eval e X.env)::starEach es X.env:=by rfl) (hpl:(backTo pos (starEach es X.env)).any (·.1)=false:=by rfl) :
  PEi ce X (.Call (.Name x p) (e::es) [] pos) (Jr2 c f dvs ma):=by
 intro pins s σ H ι σi h Q E N K
 refine wpAny_Call_Name_kw (Jdv N.inv hg hm ?_ hdb)
 refine W.callWith_K (h₀:=X.base) N.inv.ok.mod.kin kp ?_ he hpl
 have K':=K
 unfold Jr2 at K'
 refine ha pos pins s σ H ι σi h _ E N ?_
 cases e0:ma σi h with
 | exc n h'=>rw[e0] at K';exact K'
 | stuck=>rw[e0] at K';exact K'
 | ok xs h' =>
  rw[e0] at K'
  intro us s1 H1 ι1 N1 n1 r1
  have hl:xs.length=us.length:=by
   obtain⟨vs,rv,q⟩:=r1
   rw[<- rv.length,q.length]
  have hn:=hlen σi h xs h' e0
  exact⟨N1.inv.kIn,Jt2 (us:=us) xc F hC hr hb hd (by omega) (by omega) N1 r1 (Kont.mono (r:=(f (IV.ref h'.length::(xs++dvs)) (h'++[.exc c []])).bind λ r h2=>match r with|IV.non=>Res.ok (IV.ref h'.length) h2|_=>Res.stuck) K' n1)⟩
end
section
variable {X:Cx}{pins:List (Addr×Obj)}{σ:L2.St}{H:Hp}{s:Shared}{f C e:Addr}{tv:Value}{d:Option Addr}{us:List Value}
theorem J7p {H:Hp}{a:Addr}{o:HO}(h:H a=some o):upd H a o=H:=by
 funext b
 by_cases z:b=a
 ·subst z
  rw[Je,h]
 ·rw[Jg z]
theorem Jyj (xc:Jea X.K C f=true) (I:Inv X pins σ H s) (ha:H e=some (ExF e C tv d)) (hz:us.length<=sizeLine){Q:Value->Shared->Prop}{E:Value->Shared->Prop}
  (go:∀s',Inv X pins σ H s'->Q .none s'):wpAny (model X.prog X.w) X.A (call (.builtin "ValueError.__init__") (.ref e::us)) Q E s:=by
 obtain⟨bm,Na,nm,qn,bs,hdct,sn,sub,ab,col,dd,k0,k1,k2,k3,k5,mN,oI,hCo,hN,hni,T,hf,hfc⟩:=Jea.obj xc I.kIn
 obtain⟨oe,vs,g1,g2,g3,g4,g5,g6⟩:=ExF.get I.hok ha
 refine wpAny_call (codeAny_call_builtin PySem.F.excBase_ValueError.init.plain PySem.F.excBase_ValueError.initEntry ?_)
 obtain⟨hp,ge,dr,tk,ox⟩:=s
 refine wpAny_check_init_subU PySem.F.excBase_ValueError T hCo g1 g2 ?_
 unfold Builtin.«BaseException.__init__»
 wp_walk
 have sz:1<vs.size:=(Array.getElem?_eq_some_iff.mp g4).1
 obtain⟨a0,h0⟩:∃a0,vs[0]?=some a0:=⟨vs[0],Array.getElem?_eq_getElem (by omega)⟩
 rw[g3]
 refine wpAny_pure ?_
 dsimp only
 rw[h0]
 refine wpAny_pure ?_
 have g1':=Heap.get?_push_of_some (h:=hp) { cls:=.type "tuple",data:=.seq us.toArray } g1
 refine wpAny_bind (wpAny_setField (i:=0) g1' g3 (by omega) ?_)
 have I1:Inv X pins σ H ⟨hp.push { cls:=.type "tuple",data:=.seq us.toArray },ge,dr,tk,ox⟩:=I.kept (t':=tk) λ b o q=>Heap.get?_push_of_some _ q
 have hd2:=Obj.data_mapFields g3 (·.setIfInBounds 0 (Value.ref hp.objs.size))
 have he2:=Heap.get?_update_self (Obj.mapFields (·.setIfInBounds 0 (Value.ref hp.objs.size))) g1' (Obj.isFreed_of_fields hd2)
 have I2:Inv X pins σ (upd H e (ExF e C tv d)) ⟨(hp.push { cls:=.type "tuple",data:=.seq us.toArray }).update e (Obj.mapFields (·.setIfInBounds 0 (Value.ref hp.objs.size))),ge,dr,tk,ox⟩ :=
  I1.write (x:=e) (e:=e) (t':=tk) (by rw[ha];trivial) (.inl rfl) (λ b u n q=>(Heap.get?_update_other _ _ (Ne.symm n)).trans q) ⟨_,he2⟩
   (ExF.ok he2 ((Obj.cls_mapFields _ _).trans g2) hd2 (by rw[Array.getElem?_setIfInBounds_ne (by decide)];exact g4) (by rw[Array.getElem?_setIfInBounds_ne (by decide)];exact g5) ((Job _ _).trans g6))
 rw[J7p ha] at I2
 have q2:=go _ I2
 cases a0 with
 | ref b=>exact wpAny_letGo (wpAny_pure q2)
 | _=>exact wpAny_pure (wpAny_pure q2)
end
structure BasX (K:W.Frag) (D:Addr):Prop where
 sp:W.specialIn K (.ref D) "__getattribute__"=some (some (.builtin "type.__getattribute__"))
 rd:W.readsIn K D (.type "type")=true
 fc:W.findCls K (.ref D) (.type "type") "__init__"=some (.val (.builtin "ValueError.__init__"))
noncomputable def Joe (rz:Str->Bool) (a:A1):E1:=λ σ h=>(a σ h).bind λ vs h1=>match vs with
 | [.ref n,.str _]=>(match h1[n]? with
  | some (.exc c _)=>if rz c then .ok .non h1 else .stuck
  | _=>.stuck)
 | _=>.stuck
section
variable {ce:Str->Option Addr}{X:Cx}{D:Addr}{x:Str}{p pos apos:Pos}{e:Expr}{es:List Expr}{ma:A1}{pl:Sem Bool}
theorem J2n {rz:Str->Bool}(hx:∀c C,rz c=true->W.nsIn X.K mainGlobals c=some (some (.ref C))->∃f,Jea X.K C f=true) (hg:Gl X x) (hm:X.mg x=some (.ref D)) (B:BasX X.K D)
  (ha:PAi ce X (e::es) ma) (hdb:(x==("__debug__":Str))=false:=by decide) (he:starEach (e::es) X.env=(false,eval e X.env)::starEach es X.env:=by rfl) (hpl:(backTo pos (starEach es X.env)).any (·.1)=false:=by rfl)
  (ht:eval (.Call (.Attribute (.Name x p) "__init__" apos) (e::es) [] pos) X.env=(do
   let ov<-eval (.Name x p) X.env
   standAt apos.atName
   let (f,first)<-holding [ov] (getMethod ov "__init__" pl)
   callWith pos f first (backTo pos (starEach (e::es) X.env)) (backToKw pos (keywordEach [] X.env))):=by rfl) :
  PEi ce X (.Call (.Attribute (.Name x p) "__init__" apos) (e::es) [] pos) (Joe rz ma):=by
 intro pins s σ H ι σi h Q E N K
 refine W.methodCall_KW (pl:=pl) (Jdv N.inv hg hm ?_ hdb) ht
 refine W.method_cls N.inv.kIn B.sp (W.cls_value N.inv.kIn B.rd B.fc rfl ?_)
 have N':Now ce X pins ι σi h σ H { s with toks:=s.toks+1 }:=⟨N.inv.tok _,N.rel,N.st⟩
 refine PyProof.Rows.callWith_builtin1 ?_ he hpl
 refine(ha pos).run N' K λ xs h1 us s1 H1 ι1 N1 n1 r1 K1=>?_
 obtain⟨vs,rv,qs⟩:=r1
 by_cases hv:∃n y,xs=[.ref n,.str y]
 ·obtain⟨n,y,rfl⟩:=hv
  obtain⟨w1,w2,rfl,⟨a,rfl,hi⟩,q2⟩:=qs.two_of
  obtain⟨u1,u2,rfl,p1,p2⟩:=rv.two
  cases p1
  dsimp only at K1
  cases hj:h1[n]? with
  | none=>rw[hj] at K1;exact Zf K1
  | some ob =>
   rw[hj] at K1
   cases ob with
   | exc c fs =>
    dsimp only at K1
    split at K1
    ·rename_i hr
     obtain⟨C,tv,d,fe,hC,hH,ht'⟩:=Jld N1.rel hj hi
     obtain⟨f,xc⟩:=hx c C hr hC
     have sb:1<=sizeLine:=by decide
     exact Jyj xc N1.inv hH (by simpa using sb) λ s' I'=>K1 _ s' H1 ι1 ⟨I',N1.rel,N1.st⟩ .refl ⟨.non,rfl,rfl⟩
    ·exact Zf K1
   | _=>exact Zf K1
 ·refine(show False from ?_).elim
  split at K1
  ·exact hv ⟨_,_,rfl⟩
  ·exact K1
end
noncomputable def Jr4:List Value->Bool
 | .ref _::r=>Jr4 r
 | l=>l==bmV
theorem Jlz (self:Value):∀{l:List Value},Jr4 l=true->refuseLoop self "__setattr__" l=pure ()
 | .ref c::r,e=>by
  rw[refuseLoop_ref]
  exact Jlz self (l:=r) e
 | [],e=>by cases e
 | .type n::r,e=>by
  rw[show Value.type n::r=bmV from beq_iff_eq.mp e]
  exact PySem.F.store_ValueError.passes self
 | .none::_,e=>absurd (beq_iff_eq.mp e) nofun
 | .bool _::_,e=>absurd (beq_iff_eq.mp e) nofun
 | .int _ _::_,e=>absurd (beq_iff_eq.mp e) nofun
 | .str _ _::_,e=>absurd (beq_iff_eq.mp e) nofun
 | .float _ _::_,e=>absurd (beq_iff_eq.mp e) nofun
 | .bytes _ _::_,e=>absurd (beq_iff_eq.mp e) nofun
 | .ellipsis::_,e=>absurd (beq_iff_eq.mp e) nofun
 | .notImplemented::_,e=>absurd (beq_iff_eq.mp e) nofun
 | .builtin _::_,e=>absurd (beq_iff_eq.mp e) nofun
theorem Jve:∀{l:List Value},Jr4 l=true->l.contains (.type "object")=true
 | .ref c::r,e=>by rw[List.contains_cons,Jve (l:=r) e,Bool.or_true]
 | [],e=>by cases e
 | .type n::r,e=>by rw[show Value.type n::r=bmV from beq_iff_eq.mp e];decide
 | .none::_,e=>absurd (beq_iff_eq.mp e) nofun
 | .bool _::_,e=>absurd (beq_iff_eq.mp e) nofun
 | .int _ _::_,e=>absurd (beq_iff_eq.mp e) nofun
 | .str _ _::_,e=>absurd (beq_iff_eq.mp e) nofun
 | .float _ _::_,e=>absurd (beq_iff_eq.mp e) nofun
 | .bytes _ _::_,e=>absurd (beq_iff_eq.mp e) nofun
 | .ellipsis::_,e=>absurd (beq_iff_eq.mp e) nofun
 | .notImplemented::_,e=>absurd (beq_iff_eq.mp e) nofun
 | .builtin _::_,e=>absurd (beq_iff_eq.mp e) nofun
section
variable {prog:Program}{w:World}{A:Around}{K:W.Frag}{C x:Addr}{s:Shared}{R:Result->Shared->Prop}{ox:Obj}{name:Str}{v:Value}
structure StoX (K:W.Frag) (C:Addr) (name:Str):Prop where
 line:(W.clsIn K C).any (λ cd=>Jr4 cd.mro&&cd.hasDict)=true
 free:W.takerIn K C name=some none
 way:W.findIn K (.ref C) "__setattr__"=some (some (.builtin "object.__setattr__"))
theorem Jyl (S:StoX K C name){tk:Tok}(X:K.In s.heap) (I:W.InstAt s.heap x ox C none)
  (h:∀b,wpAny (model prog w) A.in1 (Builtin.ObjectAttr.storeInOwnDict (.ref x) (.ref C) (.str name tk) name v b) (λ fin s'=>match fin with|.done f=>R (.ok f) s'|.again c=>c.quiet=true/\codeAny (model prog w) A c R s') (λ e s'=>R (.error e) s') s) :
  codeAny (model prog w) A (.call (.builtin "object.__setattr__") ⟨[.ref x,.str name tk,v],[]⟩) R s:=by
 obtain⟨cd,hc,hq⟩:=W.any_some S.line
 obtain⟨ho,hdc⟩:=Bool.and_eq_true_iff.mp hq
 have ne:cd.mro.isEmpty=false:=by
  cases q:cd.mro with
  | cons _ _=>rfl
  | nil=>rw[q] at ho;cases ho
 have hob:W.Looks (model prog w) s.heap (isInstance (.ref x) (.type "object")) true :=
  I.type.andThen (W.looks_mroIn X (by
   unfold W.mroIn
   rw[hc,Option.bind_some,if_neg (by rw[ne];decide),Jve ho]))
 have SO:=PySem.F.store_object
 obtain⟨attr,ha,hr⟩:=Option.bind_eq_some_iff.mp S.free
 have st:W.Looks (model prog w) s.heap (Builtin.ObjectAttr.storeTaker? attr) none:=by
  cases attr with
  | some a =>
   obtain⟨b,hb,e⟩:=Option.map_eq_some_iff.mp hr
   refine(W.looks_takesIn X hb).andThen ?_
   cases b with
   | false=>exact .now
   | true=>cases e
  | none=>exact .now
 refine codeAny_call_builtin SO.slot.plain SO.entry ?_
 refine @W.check_slot (model prog w) _ _ s "object.__setattr__" "object" "__setattr__" (.ref x) [.str name tk,v] [] _ SO.kind SO.split hob (SO.args _ _ _) ?_
 rw[W.osa_eq,refuse_eq]
 have mr:W.Looks (model prog w) s.heap (mroOf (.ref C)) cd.mro:=(W.looks_clsIn X hc).andThen .now
 refine wpAny_bind (wpAny_bind (I.type.here (wpAny_bind (mr.here ?_))))
 rw[Jlz _ ho]
 exact wpAny_pure (wpAny_bind (I.type.here (wpAny_bind ((W.looks_findIn X ha).here (wpAny_bind (st.here (h _)))))))
end
section
variable {prog:Program}{w:World}{A:Around}{K:W.Frag}{C x:Addr}{s:Shared}{ox:Obj}{name:Str}{v:Value}
theorem Jvf (S:StoX K C name){Q:Unit->Shared->Prop}{E:Value->Shared->Prop}(X:K.In s.heap) (I:W.InstAt s.heap x ox C none) (hd:ox.dict=none)
  (go:∀h' t',h'.get? x=some { ox with dict:=some s.heap.objs.size }->h'.Ns1 s.heap.objs.size (λ y=>if y=name then some v else none)->(∀b o,b≠x->s.heap.get? b=some o->h'.get? b=some o)->Q () { s with heap:=h',toks:=t' }) :
  wpAny (model prog w) A (setAttr (.ref x) name v) Q E s:=by
 refine W.set_plain X I S.way (Jyl (s:={ s with toks:=s.toks+1 }) S X I λ b=>?_)
 obtain⟨cd,hc,hq⟩:=W.any_some S.line
 have hdc:=(Bool.and_eq_true_iff.mp hq).2
 obtain⟨hx,hcl,hn,-⟩:=I
 obtain⟨oc,odi,oda,osl⟩:=ox
 dsimp only at hcl hd go
 subst hcl hd
 obtain⟨hp,ge,dr,tk,os⟩:=s
 dsimp only at hx X go ⊢
 refine wpAny_bind (wpAny_pure (wpAny_bind (wpAny_bind (wpAny_loadPart hx (wpAny_bind ((W.looks_clsIn X hc).here ?_))))))
 rw[hdc]
 have fr:=(Heap.get?_some_iff.mp hx).2
 have lt:x≠hp.objs.size:=Nat.ne_of_lt (Heap.lt_size hx)
 have h1:=Heap.get?_push_of_some (h:=hp) { cls:=.type "dict",data:=.dict #[] } hx
 rw[if_neg (by decide)]
 show wpAny _ _ (if (!true||!typeHasDict (.ref C))=true then pure none else match oda with|Data.cls c=>pure none|_=>(alloc { cls:=Value.type "dict",data:=Data.dict #[] }>>=λ d=>update x (λ o=>{ o with dict:=some d })>>=λ _=>dictMade (.ref C) x d)) _ _ _
 rw[if_neg (by simp[typeHasDict])]
 split
 ·cases hn
 ·refine wpAny_bind (wpAny_alloc' (wpAny_bind (wpAny_update' h1 (wpAny_pure ?_))))
  have at':=(Heap.get?_update_ne (hp.push { cls:=.type "dict",data:=.dict #[] }) hp.objs.size x (λ o:Obj=>{ o with dict:=some hp.objs.size }) lt.symm).trans (Heap.get?_push_at rfl rfl)
  refine wpAny_bind (wpAny_pure (wpAny_bind (wpAny_nsSet1 (Heap.Ns1.of_empty ⟨_,#[],_,at',rfl,λ e z=>absurd z (by simp),λ _=>rfl⟩) λ h' n' sb=>?_)))
  obtain⟨oD,es,ep,g,gd,gl⟩:=n'.count (Within.cons name v Within.nil)
  refine wpAny_bind (wpAny_lookBehind g (by rw[gd];exact pastItsLine_dict (Nat.le_trans gl (Nat.le_add_left 1 _))) (wpAny_pure ?_))
  refine go h' _ ?_ n' λ b o nb q=>(sb.2 b (Nat.ne_of_lt (Heap.lt_size q))).trans ((Heap.get?_update_ne _ _ _ _ nb).trans (Heap.get?_push_of_some _ q))
  refine(sb.2 x lt).trans (Heap.get?_update_self _ h1 ?_)
  revert fr
  cases oda<;>exact id
end
theorem Jzk {h:Heap}{a:Addr}{m:Str->Option Value}{f:Str}{v:Value}(n:h.Ns1 a m) (e:m f=some v):∃o,h.get? a=some o/\o.isFreed=false/\W.lookIn f o=some (some v):=by
 obtain⟨o,es,ep,g,gd,_,_,gm⟩:=n
 refine⟨o,g,(Heap.get?_some_iff.mp g).2,?_⟩
 have z:=gm f
 rw[e] at z
 unfold nsFind findBy at z
 obtain⟨en,q1,q2⟩:=Option.map_eq_some_iff.mp z
 unfold W.lookIn
 rw[gd]
 dsimp only
 rw[Array.find?_toList,q1]
 exact congrArg (λ u=>some (some u)) q2
noncomputable def Jzu (st:Str->Bool) (f:Str) (o e:E1):S1:=λ σ h=>rS σ (e σ h) λ v h1=>rS σ (o σ h1) λ ov h2=>match ov,v with
 | .ref i,.int y=>(match h2[i]? with
  | some (.exc c [])=>if st c then .next σ (h2.set i (.exc c [(f,.int y)])) else .stuck
  | _=>.stuck)
 | _,_=>.stuck
section
variable {ce:Str->Option Addr}{X:Cx}{o value:Expr}{mo mv:E1}{pos pos':Pos}{fl:Str}
theorem J2b {pins:List (Addr×Obj)}{ι:List Addr}{σi:ISt}{h:IH}{σ:L2.St}{H:Hp}{s:Shared}{n:Nat}{a C:Addr}{c:Str}{y:Int}{t:Tok}{Q:Unit->Shared->Prop}{E:Value->Shared->Prop}
  (S:StoX X.K C fl) (hC:W.nsIn X.K mainGlobals c=some (some (.ref C))) (N:Now ce X pins ι σi h σ H s) (hj:h[n]?=some (.exc c [])) (hi:ι[n]?=some a)
  (go:∀s' H',Now ce X pins ι σi (h.set n (.exc c [(fl,.int y)])) σ H' s'->Nxt ι H ι H'->Q () s') :
  wpAny (model X.prog X.w) X.A (setAttr (.ref a) fl (.int y t)) Q E s:=by
 obtain⟨C',tv,d,fe,hC',ha,ht⟩:=Jld N.rel hj hi
 rw[hC] at hC'
 cases hC'
 obtain⟨oe,vs,g1,g2,g3,g4,g5,g6⟩:=ExF.get N.inv.hok ha
 obtain rfl:d=none:=by
  rcases fe with⟨_,q⟩|⟨_,_,_,_,_,q,_⟩
  ·exact q
  ·cases q
 refine Jvf S N.inv.kIn ⟨g1,g2,by unfold W.notCls;rw[g3],by rw[g6];trivial⟩ g6 λ h' t' x1 x2 x3=>?_
 obtain⟨oD,d1,d2,d3⟩:=Jzk x2 (if_pos rfl)
 have hn:H s.heap.objs.size=none:=N.inv.hok.fresh (Nat.le_refl _)
 have ne:s.heap.objs.size≠a:=λ z=>by rw[z,ha] at hn;cases hn
 have dl:(s.heap.push oD).get? s.heap.objs.size=some oD:=Heap.get?_push_at rfl d2
 have I1:Inv X pins σ (upd H s.heap.objs.size (.frz oD (.own 0))) { s with heap:=s.heap.push oD,toks:=t' } :=
  N.inv.laid (λ b u q=>Heap.get?_push_of_some _ q) (Nat.le_refl _) ⟨dl,⟨_,dl⟩⟩
 obtain⟨R1,n1⟩:=N.rel.grow (o:=.frz oD (.own 0)) hn
 have ha1:upd H s.heap.objs.size (.frz oD (.own 0)) a=some (ExF a C tv none):=by rw[Jg ne.symm];exact ha
 have mu:Mut (upd H s.heap.objs.size (.frz oD (.own 0)) a):=by rw[ha1];trivial
 obtain⟨R2,n2⟩:=R1.write hi ha1 mu (o:=ExF a C tv (some s.heap.objs.size)) (io:=.exc c [(fl,.int y)])
  ⟨C,tv,some s.heap.objs.size,.inr ⟨fl,y,s.heap.objs.size,oD,t,rfl,rfl,by rw[Jg ne,Je],d3⟩,hC,Je,ht.mono λ b o u q=>by
   rw[Jg (λ z=>by subst z;rw[ha] at q;cases q),Jg (λ z=>by subst z;rw[hn] at q;cases q)]
   exact q⟩
 have I2:Inv X pins σ (upd (upd H s.heap.objs.size (.frz oD (.own 0))) a (ExF a C tv (some s.heap.objs.size))) { s with heap:=h',toks:=t' } :=
  I1.write (x:=a) (e:=a) (t':=t') mu (.inl rfl) (λ b u nb q=>by
   by_cases z:b=s.heap.objs.size
   ·subst z
    rw[dl] at q
    cases q
    exact d1
   ·exact x3 b u nb ((Heap.get?_push_ne _ b _ z).symm.trans q)) ⟨_,x1⟩ (ExF.ok x1 g2 g3 g4 g5 rfl)
 exact go _ _ ⟨I2,R2,N.st.mono (n1.trans n2)⟩ (n1.trans n2)
theorem J65 {st:Str->Bool}(ho:PEi ce X o mo) (hv:PEi ce X value mv) (hx:∀c C,st c=true->W.nsIn X.K mainGlobals c=some (some (.ref C))->StoX X.K C fl) (hs:swapsWith value (some (.Attribute o fl pos')) pos.line X.env=pure false:=by rfl) :
  PS1 ce X (.Assign [.Attribute o fl pos'] value pos) (Jzu st fl mo mv):=by
 intro pins s σ H ι σi h Q E N K
 refine plainObj_wpAny_Assign_Attribute (krun hv N K λ v h1 u s1 H1 ι1 N1 n1 r1 K1=>krun ho N1 K1 λ ov h2 w s2 H2 ι2 N2 n2 r2 K2=>?_) hs
 by_cases hq:∃i y,ov=.ref i/\v=.int y
 ·obtain⟨i,y,rfl,rfl⟩:=hq
  obtain⟨w,rw',a,e1,hi⟩:=r2
  subst e1
  cases rw'
  obtain⟨w1,rw1,e2⟩:=r1
  cases e2
  obtain⟨t,rfl⟩:=rw1
  dsimp only at K2
  cases hh:h2[i]? with
  | none=>rw[hh] at K2;exact Zf K2
  | some ob =>
   rw[hh] at K2
   by_cases hb:∃c,ob=.exc c []
   ·obtain⟨c,rfl⟩:=hb
    dsimp only at K2
    split at K2
    ·rename_i hz
     obtain⟨C,_,_,_,hC,_⟩:=Jld N2.rel hh hi
     exact J2b (hx c C hz hC) hC N2 hh hi λ s3 H3 N3 n3=>K2 s3 σ H3 ι2 N3 n3
    ·exact Zf K2
   ·cases ob with
    | exc c fs=>cases fs with
     | nil=>exact absurd ⟨c,rfl⟩ hb
     | cons _ _=>exact Zf K2
    | _=>exact Zf K2
 ·cases ov with
  | ref i=>cases v with
   | int y=>exact absurd ⟨i,y,rfl,rfl⟩ hq
   | _=>exact Zf K2
  | _=>exact Zf K2
end
end L3
namespace L3
open PySem PySem.Spec PySem.Calls PyProof.Rows L2
section
variable {prog:Program}{w:World}{A:Around}{E:Value->Shared->Prop}{s:Shared}{K:W.Frag}{x D:Addr}{ox od:Obj}{f:Str}{v:Value}
theorem J0o {tk:Tok}{Q:Fin->Shared->Prop}(X:K.In s.heap) (I:W.InstAt s.heap x ox D (some od)) (hh:W.hasDictIn K D=true) (hf:W.findIn K (.ref D) f=some none) (hl:W.lookIn f od=some (some v))
  (hq:Q (.done (.ret v)) s):wpAny (model prog w) A (Builtin.«object.__getattribute__» ⟨[.ref x,.str f tk],[]⟩) Q E s:=by
 obtain⟨cd,hc,hd⟩:=W.any_some hh
 have L0:W.Looks (model prog w) s.heap (typeOf (.ref x)) (.ref D):=I.type
 have L2:=W.looks_findIn (M:=model prog w) X hf
 have L3:=W.looks_own (M:=model prog w) (name:=f) (r:=some v) X I hc (by unfold W.ownOf;rw[if_pos hd];exact hl)
 obtain⟨hp,g,d,t,os⟩:=s
 dsimp only at L0 L2 L3
 repeat (any_goals (first|assumption|with_reducible refine L0.at ?_|with_reducible refine L2.at ?_|with_reducible refine L3.at ?_|wp_step))
theorem xf_by {b:Bool}{tk ti:Tok}{y:Int}{Q:Value->Shared->Prop}(e:ExI K D) (X:K.In s.heap) (I:W.InstAt s.heap x ox D (some od)) (hf:W.findIn K (.ref D) f=some none) (hl:W.lookIn f od=some (some (.int y ti)))
  (hq:Q (.int y ti) s):wpAny (model prog w) A (getAttrBy (.ref x) (.str f tk) true b) Q E s:=by
 have L0:W.Looks (model prog w) s.heap (typeOf (.ref x)) (.ref D):=I.type
 have L1:=W.looks_findIn (M:=model prog w) X e.ga
 have L4:=W.looks_findIn (M:=model prog w) X e.gn
 obtain⟨hp,g,d,t,os⟩:=s
 dsimp only at L0 L1 L4
 have f3:=F.attr_ValueError.ga.bind (.ref x)
 have n2:(Value.builtin "BaseException.__getattribute__"==Value.builtin "object.__getattribute__")=false:=by decide +kernel
 have n1:(onTheHeap (Value.ref D)&&Value.builtin "BaseException.__getattribute__"==Value.builtin "object.__getattribute__")=false:=by rw[n2];rfl
 have n3:(b&&onTheHeap (Value.builtin "BaseException.__getattribute__"))=false:=by cases b<;>rfl
 repeat (any_goals (first|assumption|with_reducible refine L0.at ?_|with_reducible refine L1.at ?_|with_reducible refine L4.at ?_|wp_step))
 refine codeAny_call_builtin F.attr_ValueError.ga.plain F.entry_bexc_ga (Jsm (s:=⟨hp,g,d,t,os⟩) X I.at_ I.cls e.mb (J0o (s:=⟨hp,g,d,t,os⟩) X I e.hd hf hl ?_))
 repeat (any_goals (first|assumption|wp_step))
theorem J41 {b:Bool}{ti:Tok}{y:Int}{Q:Value->Shared->Prop}(e:ExI K D) (X:K.In s.heap) (I:W.InstAt s.heap x ox D (some od)) (hf:W.findIn K (.ref D) f=some none) (hl:W.lookIn f od=some (some (.int y ti)))
  (hq:Q (.int y ti) { s with toks:=s.toks+1 }):wpAny (model prog w) A (getAttr (.ref x) f b) Q E s :=
 wpAny_bind (wpAny_mkText (xf_by (s:={ s with toks:=s.toks+1 }) e X I hf hl hq))
end
noncomputable def Jsr (xa:Str->Bool) (f:Str) (o:E1):E1:=λ σ h=>(o σ h).bind λ v h1=>match v with
 | .ref i=>(match h1[i]? with
  | some (.exc c [(g,.int y)])=>if xa c&&decide (g=f) then .ok (.int y) h1 else .stuck
  | some (.hld c [(g,.int y)])=>if xa c&&decide (g=f) then .ok (.int y) h1 else .stuck
  | _=>.stuck)
 | _=>.stuck
section
variable {ce:Str->Option Addr}{X:Cx}{o:Expr}{mo:E1}{pos:Pos}{fl:Str}
theorem J5r {xa:Str->Bool}(ho:PEi ce X o mo) (hx:∀c C,xa c=true->W.nsIn X.K mainGlobals c=some (some (.ref C))->ExI X.K C/\W.findIn X.K (.ref C) fl=some none) (hb:attributeBase o fl X.env (eval o X.env)=eval o X.env:=by rfl):PEi ce X (.Attribute o fl pos) (Jsr xa fl mo):=by
 intro pins s σ H ι σi h Q E N K
 refine Jur hb (ho.run N K λ v h1 u s1 H1 ι1 N1 n1 r1 K1=>?_)
 have key:∀{i a:Nat}{c:Str}{C:Addr}{oe:Obj}{vs:Array Value}{g:Str}{y:Int},xa c=true->g=fl->W.nsIn X.K mainGlobals c=some (some (.ref C))->s1.heap.get? a=some oe->oe.cls=.ref C->oe.data=.fields vs->XdOk H1 oe.dict [(g,.int y)] ->
   (∀t,Q (.int y t) { s1 with toks:=s1.toks+1 })->wpAny (model X.prog X.w) X.A (getAttr (.ref a) fl true) Q E s1:=by
  intro i a c C oe vs g y hc hg hC g1 g2 g3 fe k
  subst hg
  obtain⟨ei,hf⟩:=hx c C hc hC
  rcases fe with⟨q,_⟩|⟨f',i',dx,od,t,q,qd,qH,ql⟩
  ·cases q
  ·cases q
   have gd:=(N1.inv.hok dx _ qH).1
   exact J41 (od:=od) ei N1.inv.kIn ⟨g1,g2,by unfold W.notCls;rw[g3],by rw[qd];exact gd⟩ hf ql (k t)
 cases v with
 | ref i =>
  obtain⟨wv,rw',a,e1,hi⟩:=r1
  subst e1
  cases rw'
  dsimp only at K1
  cases hh:h1[i]? with
  | none=>rw[hh] at K1;exact Zf K1
  | some ob =>
   rw[hh] at K1
   have out:∀fs:List (Str×IV),(∃g y,fs=[(g,.int y)])∨¬ ∃g y,fs=[(g,.int y)]:=λ _=>Classical.em _
   cases ob with
   | exc c fs =>
    rcases out fs with⟨g,y,rfl⟩|no
    ·dsimp only at K1
     split at K1
     ·rename_i hz
      obtain⟨hc,hg⟩:=Bool.and_eq_true_iff.mp hz
      obtain⟨C,tv,d,fe,hC,ha,_⟩:=Jld N1.rel hh hi
      obtain⟨oe,vs,g1,g2,g3,_,_,g6⟩:=ExF.get N1.inv.hok ha
      rw[<- g6] at fe
      exact key (i:=i) hc (of_decide_eq_true hg) hC g1 g2 g3 fe λ t=>K1 (.int y t) _ H1 ι1 ⟨N1.inv.tok _,N1.rel,N1.st⟩ .refl ⟨.int y,⟨t,rfl⟩,rfl⟩
     ·exact Zf K1
    ·match fs,no,K1 with
     | [],_,K1=>exact Zf K1
     | (_,z)::_::_,_,K1=>cases z<;>exact Zf K1
     | [(g,z)],no,K1=>cases z with
      | int y=>exact absurd ⟨g,y,rfl⟩ no
      | _=>exact Zf K1
   | hld c fs =>
    rcases out fs with⟨g,y,rfl⟩|no
    ·dsimp only at K1
     split at K1
     ·rename_i hz
      obtain⟨hc,hg⟩:=Bool.and_eq_true_iff.mp hz
      obtain⟨C,oe,u,vs,fe,hC,ha,g2,g3,_⟩:=Jld N1.rel hh hi
      exact key (i:=i) hc (of_decide_eq_true hg) hC (N1.inv.hok a _ ha).1 g2 g3 fe λ t=>K1 (.int y t) _ H1 ι1 ⟨N1.inv.tok _,N1.rel,N1.st⟩ .refl ⟨.int y,⟨t,rfl⟩,rfl⟩
     ·exact Zf K1
    ·match fs,no,K1 with
     | [],_,K1=>exact Zf K1
     | (_,z)::_::_,_,K1=>cases z<;>exact Zf K1
     | [(g,z)],no,K1=>cases z with
      | int y=>exact absurd ⟨g,y,rfl⟩ no
      | _=>exact Zf K1
   | _=>exact Zf K1
 | _=>exact Zf K1
end
section
variable {ce:Str->Option Addr}{X:Cx}
end
end L3
namespace L3
open PySem PySem.Spec PyProof.Rows L2
noncomputable def PEw (ce:Str->Option Addr) (X:Cx) (a:Addr) (n:Nat) (e:Expr) (m:E1):Prop :=
 ∀(pins:List (Addr×Obj)) (s:Shared) (σ:L2.St) (H:Hp) (ι:List Addr) (σi:ISt) (h:IH) (Q:Value->Shared->Prop) (E:Value->Shared->Prop),Now ce (Jv X a) pins ι σi h σ H s->ι[n]?=some a ->
  Kont ce (Jv X a) RU pins ι σi σ H (m σi h) Q E->wpAny (model X.prog X.w) (Jv X a).A (eval e X.env) Q E s
theorem PEi.w {ce:Str->Option Addr}{X:Cx}{a:Addr}{n:Nat}{e:Expr}{m:E1}(p:PEi ce (Jv X a) e m):PEw ce X a n e m:=λ pins s σ H ι σi h Q E N _ K=>p pins s σ H ι σi h Q E N K
section
variable {ce:Str->Option Addr}{X:Cx}
end
section
variable {α β γ δ:Type}{ce:Str->Option Addr}{X:Cx}{R:REL α β}{R':REL γ δ}{a:Addr}{n:Nat}
noncomputable def PXw (ce:Str->Option Addr) (X:Cx) (a:Addr) (n:Nat) (R:REL α β) (t:Sem β) (m:ISt->IH->Res α):Prop :=
 ∀(pins:List (Addr×Obj)) (s:Shared) (σ:L2.St) (H:Hp) (ι:List Addr) (σi:ISt) (h:IH) (Q:β->Shared->Prop) (E:Value->Shared->Prop),Now ce X pins ι σi h σ H s->ι[n]?=some a->Kont ce X R pins ι σi σ H (m σi h) Q E->wpAny (model X.prog X.w) X.A t Q E s
noncomputable def PSw (ce:Str->Option Addr) (X:Cx) (a:Addr) (n:Nat) (t:Sem Flow) (m:S1):Prop :=
 ∀(pins:List (Addr×Obj)) (s:Shared) (σ:L2.St) (H:Hp) (ι:List Addr) (σi:ISt) (h:IH) (Q:Flow->Shared->Prop) (E:Value->Shared->Prop),Now ce X pins ι σi h σ H s->ι[n]?=some a->Jaw ce X pins ι H (m σi h) Q E->wpAny (model X.prog X.w) X.A t Q E s
theorem PX.w {t:Sem β}{m:ISt->IH->Res α}(p:PX ce X R t m):PXw ce X a n R t m:=λ pins s σ H ι σi h Q E N _ K=>p pins s σ H ι σi h Q E N K
theorem PS2.w {l:List Stmt}{m:S1}(p:PS2 ce X l m):PSw ce X a n (execs l X.env) m:=λ pins s σ H ι σi h Q E N _ K=>p pins s σ H ι σi h Q E N K
theorem PS1.w {l:Stmt}{m:S1}(p:PS1 ce X l m):PSw ce X a n (exec l X.env) m:=λ pins s σ H ι σi h Q E N _ K=>p pins s σ H ι σi h Q E N K
theorem PXw.run {t:Sem β}{m:ISt->IH->Res α}(p:PXw ce X a n R t m){pins:List (Addr×Obj)}{ι:List Addr}{σi:ISt}{σ:L2.St}{H:Hp}{s:Shared}{h:IH}(N:Now ce X pins ι σi h σ H s) (hi:ι[n]?=some a){g:α->IH->Res γ}{Q:δ->Shared->Prop}{E:Value->Shared->Prop}{Q1:β->Shared->Prop}
  (K:Kont ce X R' pins ι σi σ H ((m σi h).bind g) Q E)
  (step:∀x h1 u s1 H1 ι1,Now ce X pins ι1 σi h1 σ H1 s1->ι1[n]?=some a->R X.K ι1 H1 x u->Kont ce X R' pins ι1 σi σ H1 (g x h1) Q E->Q1 u s1):wpAny (model X.prog X.w) X.A t Q1 E s:=by
 refine p pins s σ H ι σi h Q1 E N hi ?_
 cases e:m σi h with
 | stuck=>rw[e] at K;exact K
 | exc _ h'=>rw[e] at K;exact K
 | ok v h' =>
  rw[e] at K
  exact λ u s' H' ι' N' n' r=>step v h' u s' H' ι' N' (n'.at hi) r (Kont.mono (r:=g v h') K n')
variable {b c:Expr}{pos:Pos}{rest:List Expr}{ta tb:T1}{mb:E1}
noncomputable abbrev PTw (ce:Str->Option Addr) (X:Cx) (a:Addr) (n:Nat) (e:Expr) (m:T1):Prop:=PXw ce X a n RB (isTrue e X.env (eval e X.env)) m
theorem w_not (hb:PTw ce X a n b ta):PTw ce X a n (.UnaryOp .Not b pos) (Jbk ta):=λ _ _ _ _ _ _ _ _ _ N hi K =>
 isTrue_not (hb.run N hi K λ c _ u s1 H1 ι1 N1 _ r1 K1=>by
  obtain rfl:u=c:=r1
  exact K1 (!u) s1 H1 ι1 N1 .refl rfl)
end
end L3
namespace L4
open PySem PySem.Spec PyProof.Rows L2 L3
noncomputable def stE:E1:=λ _ _=>.stuck
noncomputable def stT:T1:=λ _ _=>.stuck
noncomputable def stO:O1:=λ _ _=>.stuck
noncomputable def stI:I1:=λ _ _=>.stuck
noncomputable def stG:G1:=λ _ _ _=>.stuck
noncomputable def stS:S1:=λ _ _=>.stuck
structure Fn where
 np:Nat
 dvs:List IV
 run:List IV->IH->Res IV
structure Pg where
 fn:Str->Option Fn
 cls:Str->Option Fn
 meth:Str->Str->Option Fn
 con:Str->Option IV
 isa:Str->Option (Str->Bool)
 fld:Str->Bool
 free:Str->Bool
 tabs:Str->Option Nat
 rz:Str->Bool
 bas:Str->Bool
 xi:Str->Option (Str->Option Bool)
 wr:Str->Option (List IV->IH->Res IV)
 ne:Str->Bool
 xo:Str->Option Fn
 xf:Str->Str->Bool
 xb:Str->Bool
structure Sc where
 N:List Str
 names:List (Str×NameKind)
 own:Bool
 q:Str
noncomputable def ixOf (x:Str):List Str->Option Nat
 | []=>none
 | y::r=>if y==x then some 0 else(ixOf x r).map (· + 1)
noncomputable def Sc.vis (S:Sc) (x:Str):Option Nat :=
 match S.names.lookup x with
 | some .local=>if x=="__debug__"||x=="__classdict__" then none else ixOf x S.N
 | some .cell=>if x=="__debug__"||x=="__classdict__" then none else ixOf x S.N
 | some .free=>if x=="__debug__"||x=="__classdict__" then none else ixOf x S.N
 | _=>none
noncomputable def Sc.gl (S:Sc) (x:Str):Bool:=S.names.lookup x==some .globalImplicit&&!(x=="__debug__")&&!(x=="__name__")
noncomputable def Sc.sto (S:Sc) (x:Str):Option Nat :=
 match S.names.lookup x with
 | some .local=>ixOf x S.N
 | some .cell=>if S.own then ixOf x S.N else none
 | _=>none
noncomputable def evC:Const->E1
 | .int i=>eC (.int i)
 | .bool b=>eC (.bl b)
 | .none=>eC .non
 | .str x=>eC (.str x)
 | _=>stE
noncomputable def binI:Operator->IV->IV->IH->Res IV
 | .Add=>Ju
 | .Sub=>Jhw
 | .Mult=>Jb8
 | .FloorDiv=>Jao
 | .Mod=>Jap
 | .Pow=>Jih
 | _=>λ _ _ _=>.stuck
noncomputable def cmpI:CmpOp->IV->IV->IH->Res IV
 | .Lt=>cLt
 | .LtE=>cLe
 | .Gt=>cGt
 | .GtE=>cGe
 | .Eq=>cEq
 | .NotEq=>cNe
 | .Is=>cIs
 | .IsNot=>Juw
 | _=>λ _ _ _=>.stuck
noncomputable def unI:UnaryOp->IV->IH->Res IV
 | .Not=>Jtr tru
 | .USub=>J3a
 | _=>λ _ _=>.stuck
noncomputable def J16:List E1->E1
 | []=>stE
 | [a]=>a
 | a::b::r=>eAnd a (J16 (b::r)) tru
noncomputable def eOrs:List E1->E1
 | []=>stE
 | [a]=>a
 | a::b::r=>eOr a (eOrs (b::r)) tru
noncomputable def J34:List T1->T1
 | []=>stT
 | [a]=>a
 | a::b::r=>Jw2 a (J34 (b::r))
noncomputable def tOrs:List T1->T1
 | []=>stT
 | [a]=>a
 | a::b::r=>tOrI a (tOrs (b::r))
noncomputable def aAll:List E1->A1
 | []=>aNil
 | a::r=>Ja a (aAll r)
noncomputable def Jk:Expr->Bool
 | .Starred .. =>false
 | _=>true
noncomputable def Jtm:Expr->Bool
 | .Set .. =>false
 | _=>true
noncomputable def Jm8:Expr->Bool
 | .Slice .. =>false
 | _=>true
noncomputable def Je8:Expr->Bool
 | .ListComp .. =>false
 | .SetComp .. =>false
 | .DictComp .. =>false
 | _=>true
noncomputable def Jbw:Expr->Bool
 | .Call (.Name ..) [] [] _=>false
 | _=>true
noncomputable def isM1:Expr->Bool
 | .UnaryOp .USub (.Constant (.int 1) _ _) _=>true
 | _=>false
noncomputable def Fn.fill (f:Fn) (n:Nat):Option (List IV):=if n<=f.np/\f.np<=n+f.dvs.length then some (f.dvs.drop (f.dvs.length-(f.np-n))) else none
noncomputable def Jr1 (f:Fn) (n:Nat) (a:A1):E1:=match f.fill n with
 | some d=>Jl f.run d a
 | none=>stE
noncomputable def Jr3 (c:Str) (f:Fn) (n:Nat) (a:A1):E1:=match f.fill (n+1) with
 | some d=>Ji5 c f.run d a
 | none=>stE
noncomputable def bltF (x:Str):List IV->IH->Res IV :=
 if x=="len" then on1 lenI else if x=="all" then on1 allI else if x=="sum" then on1 sumI else if x=="min" then on1 Jtl else if x=="max" then on1 Jtk else λ _ _=>.stuck
noncomputable def bltT (x:Str):List IV->IH->Res IV :=
 if x=="list" then on1 Jkf else if x=="tuple" then on1 Jku else λ _ _=>.stuck
noncomputable def Jvx (x:Str):Bool:=x=="len"||x=="all"||x=="sum"||x=="min"||x=="max"
noncomputable def Jvy (x:Str):Bool:=x=="list"||x=="tuple"
noncomputable def Jx9 (P:Pg) (x:Str):Option (Ty->Option Bool) :=
 match P.isa x with
 | some g=>some λ t=>match t with|.ins c=>some (g c)|.exc _=>none|_=>some false
 | none=>if P.free x then(if x=="int" then some Jfr else if x=="bool" then some Jbp else if x=="str" then some Jgm else if x=="list" then some (if P.ne "Work" then Jbg else Jbq) else if x=="tuple" then some Jfs else none) else none
noncomputable def J17 (o:Option (Ty->Option Bool)) (e:E1):E1:=match o with
 | some ans=>eIsi ans e
 | none=>stE
noncomputable def bmOf (T:String) (m:Str) (n:Nat):Option (IV->List IV->IH->Res IV) :=
 if T=="list"&&m=="append"&&n==1 then some Jh5 else if T=="list"&&m=="extend"&&n==1 then some Jie else if T=="dict"&&m=="setdefault"&&n==2 then some Je9 else none
noncomputable def Joc (P:Pg) (m:Str) (n:Nat):Str->Option ((List IV->IH->Res IV)×List IV):=λ c=>match P.meth c m with
 | some f=>(match f.fill (n+1) with
  | some d=>some (f.run,d)
  | none=>none)
 | none=>none
noncomputable def Jqq (v:IV) (h:IH):Bool:=match v with
 | .ref i=>(match h[i]? with
  | some (.ins ..)=>true
  | _=>false)
 | _=>false
noncomputable def tyS (v:IV) (h:IH):String:=match v with
 | .str _=>"str"
 | .rol _=>"list"
 | .ref i=>(match h[i]? with
  | some (.lst _)=>"list"
  | some (.dct _)=>"dict"
  | _=>"")
 | _=>""
noncomputable def eDot (P:Pg) (m:Str) (n:Nat) (o:E1) (a:A1):E1:=λ σ h=>match o σ h with
 | .ok v h1=>if Jqq v h1 then Jyh m (Joc P m n) o a σ h else(match bmOf (tyS v h1) m n with
  | some g=>eBm (tyS v h1) g o a σ h
  | none=>.stuck)
 | _=>.stuck
noncomputable def J5m (n:Nat) (a:A1):I1:=match n with
 | 1=>iRg Jan a
 | 2=>iRg Jd3 a
 | _=>stI
noncomputable def gAll:List G1->List IV->ISt->IH->SRes
 | []=>gN
 | g::r=>gC g (gAll r)
noncomputable def Jm3 (sc:Scope):List Str:=sc.names.filterMap λ x=>if x.2==.local&&!(x.1==(".0":Str)) then some x.1 else none
noncomputable def Ji4 (sc:Scope):List Str:=sc.names.filterMap λ x=>if x.2==.free then some x.1 else none
noncomputable def jsOf (S:Sc) (sc:Scope):List Nat:=(Ji4 sc).map λ x=>(ixOf x S.N).getD 0
noncomputable def Sc.comp (S:Sc) (sc:Scope):Sc where
 N:=Jm3 sc++Ji4 sc
 names:=sc.names.map λ x=>if x.2==.free&&S.names.lookup x.1==some .cell then(x.1,.cell) else x
 own:=false
 q:=""
noncomputable def Sc.lam (S:Sc) (x:Str) (sc:Scope):Sc where
 N:=x::Ji4 sc
 names:=sc.names
 own:=false
 q:=""
noncomputable def Jqr (S:Sc) (x:Str) (sc:Scope):Bool :=
 sc.kind==.function&&!sc.isCoroutine&&!sc.isGenerator&&sc.names.all (λ y=>!(y.2==.cell))&&sc.names.lookup x==some .local&&sc.names.all (λ y=>!(y.2==.free)||S.names.lookup y.1==some .cell)
  && (Ji4 sc).all (λ y=>decide (S.N[(ixOf y S.N).getD 0]?=some y)&&sc.names.lookup y==some .free)&&decide (x::Ji4 sc).Nodup
noncomputable def Sc.fake (S:Sc):Scope:={ kind:=.function,names:=S.names,isGenerator:=false,isCoroutine:=false }
noncomputable def J0z:Expr->Bool
 | .Name x _=>x=="last_come"||x=="tops"||x=="last"||x=="_law_last"
 | _=>false
noncomputable def ixD (a:Expr):IV->IV->IH->Res IV:=if J0z a then Jtp else opIx
noncomputable def cmpD (_:Str->Bool) (o:CmpOp) (_:Expr):IV->IV->IH->Res IV:=cmpI o
noncomputable def gSbF (a:Expr) (o i:E1):G1:=if J0z a then gSbD o i else gSb o i
noncomputable def J1k:Expr->Option Expr
 | .Call (.Name y _) [e] [] _=>if y=="set"&&Jk e then some e else none
 | _=>none
noncomputable def J1e:Expr->Option Expr
 | .Call (.Name y _) [e] [] _=>if y=="range"&&Jk e then some e else none
 | _=>none
noncomputable def Jmr (P:Pg) (S:Sc) (x:Str) (f:Expr->E1):List Expr->E1
 | [a,b]=>if x=="max" then eCB (on2 maxI) (Ja (f a) (Ja (f b) aNil)) else if x=="min" then eCB (on2 minI) (Ja (f a) (Ja (f b) aNil)) else(match b with
  | .Name y _=>if x=="isinstance"&&S.gl y then J17 (Jx9 P y) (f a) else stE
  | _=>stE)
 | [a]=>(match (if x=="len"&&S.gl "set"&&P.free "set" then J1k a else none) with
  | some e=>Jj3 (Ja (f e) aNil)
  | none=>match (if x=="list"&&S.gl "range"&&P.free "range" then J1e a else none) with
  | some e=>eLR (Ja (f e) aNil)
  | none=>if Jvx x then eCB (bltF x) (Ja (f a) aNil) else if Jvy x then eCB (bltT x) (Ja (f a) aNil) else stE)
 | _=>stE
noncomputable def Jv5 (P:Pg) (S:Sc) (f:Sc->Expr->E1) (x:Str) (args:List Expr) (kws:List Keyword):E1:=match args,kws with
 | [a],[⟨some k,d,_⟩]=>if x=="max"&&k=="default"&&S.gl x&&P.free x&&Jk a then Jvb (Ja (f S a) aNil) (f S d) else stE
 | [a],[⟨some k,.Lambda ps body sc _,_⟩,⟨some k2,d,_⟩]=>(match Jlr ps,P.tabs S.q with
  | some y,some j=>if x=="max"&&k=="key"&&k2=="default"&&S.gl x&&P.free x&&Jk a&&S.own&&Jqr S y sc then Jvc gtZ S.q j (jsOf S sc) (Ja (f S a) aNil) (f (S.lam y sc) body) (f S d) else stE
  | _,_=>stE)
 | _,_=>stE
noncomputable def J12 (P:Pg) (S:Sc) (m:Str):Expr->Bool
 | .Name x _=>m=="__init__"&&S.gl x&&P.xb x
 | _=>false
noncomputable def Jyg (P:Pg) (S:Sc) (m:Str) (n:Nat) (o:Expr) (a:A1) (e:E1):E1:=if J12 P S m o&&decide (n≠0) then Joe (λ c=>(P.xo c).isSome) a else e
noncomputable def Ju3 (ifs:List Expr) (f:Expr->T1) (m:T1->E1):E1:=match ifs with
 | []=>m Jay
 | [c]=>m (f c)
 | _=>stE
noncomputable section
mutual
noncomputable def ev (P:Pg):Nat->Sc->Expr->E1
 | 0,_,_=>stE
 | n+1,S,e=>match e with
  | .Constant c _ _=>evC c
  | .Name x _=>(match S.vis x with
   | some i=>eVar i
   | none=>if S.gl x then(match P.con x with
    | some v=>eC v
    | none=>stE) else stE)
  | .BinOp a op b _=>eBin (binI op) (ev P n S a) (ev P n S b)
  | .UnaryOp op a _=>eUn (unI op) (ev P n S a)
  | .BoolOp .And vs _=>J16 (vs.map (ev P n S))
  | .BoolOp .Or vs _=>eOrs (vs.map (ev P n S))
  | .IfExp t a b _=>eIf (evT P n S t) (ev P n S a) (ev P n S b)
  | .Compare a [o] [b] _=>if behindInMarks o b then stE else eBin (cmpD P.ne o b) (ev P n S a) (ev P n S b)
  | .Compare a [o,o'] [b,c] _=>if lastMarks [o,o'] [b,c] then stE else Je0 (cmpI o) (cmpI o') (ev P n S a) (ev P n S b) (ev P n S c)
  | .JoinedStr (a::b::r) _=>eFst ((a::b::r).map (ev P n S))
  | .FormattedValue a c none _=>if c=-1 then eUn fmtI (ev P n S a) else stE
  | .Tuple es _ _=>if es.all Jk then eTup (aAll (es.map (ev P n S))) else stE
  | .Dict [] [] _=>Jyf
  | .Dict [some k] [v] _=>J5c (ev P n S k) (ev P n S v)
  | .List es _=>if es.all Jk then eLst (aAll (es.map (ev P n S))) else stE
  | .Subscript a (.Slice lo hi none _) _=>eSl slI (ev P n S a) (evO P n S lo) (evO P n S hi)
  | .Subscript a i _=>if Jm8 i then eBin (ixD a) (ev P n S a) (ev P n S i) else stE
  | .Attribute o f _=>if Jbw o&&P.fld f then eFld f (ev P n S o) else stE
  | .Call (.Name x _) args [] _=>if S.gl x&&args.all Jk then Jvd P n S x args else stE
  | .Call (.Name x _) args (kw::kws) _=>Jv5 P S (λ S e=>ev P n S e) x args (kw::kws)
  | .Call (.Attribute o m ap) args [] p=>if args.all Jk&&Jbw o&&(ap.endLine==p.line)&&decide (args.length<30) then Jyg P S m args.length o (aAll (args.map (ev P n S))) (eDot P m args.length (ev P n S o) (aAll (args.map (ev P n S)))) else stE
  | .ListComp elt [⟨tg,iter,ifs,as⟩] sc _ =>
   if as=0/\Jtm iter=true/\Jd2 S.N (Jm3 sc) (Ji4 sc) (jsOf S sc) S.fake sc=true then
    Ju3 ifs (evT P n (S.comp sc)) λ mt=>Jx (evI P n S tg iter) (Jm3 sc).length (jsOf S sc) (tgt P n (S.comp sc) tg) mt (ev P n (S.comp sc) elt)
   else stE
  | _=>stE
noncomputable def evT (P:Pg):Nat->Sc->Expr->T1
 | 0,_,_=>stT
 | n+1,S,e=>match e with
  | .UnaryOp .Not a _=>Jbk (evT P n S a)
  | .BoolOp .And vs _=>J34 (vs.map (evT P n S))
  | .BoolOp .Or vs _=>tOrs (vs.map (evT P n S))
  | .IfExp .. =>stT
  | .Compare a [o] [b] _=>if behindInMarks o b then stT else tOfB asB (eBin (cmpD P.ne o b) (ev P n S a) (ev P n S b))
  | .Compare a [o,o'] [b,c] _=>if lastMarks [o,o'] [b,c] then stT else tOfB asB (Je0 (cmpI o) (cmpI o') (ev P n S a) (ev P n S b) (ev P n S c))
  | .Compare .. =>stT
  | e=>tOfB tru (ev P n S e)
noncomputable def evO (P:Pg):Nat->Sc->Option Expr->O1
 | 0,_,_=>stO
 | _+1,_,none=>Jto
 | n+1,S,some e=>Jqu (ev P n S e)
noncomputable def Jvd (P:Pg):Nat->Sc->Str->List Expr->E1
 | 0,_,_,_=>stE
 | n+1,S,x,args=>match P.fn x with
  | some f=>Jr1 f args.length (aAll (args.map (ev P n S)))
  | none=>match P.cls x with
   | some f=>Jr3 x f args.length (aAll (args.map (ev P n S)))
   | none=>if P.free x then Jmr P S x (ev P n S) args else stE
noncomputable def evI (P:Pg):Nat->Sc->Expr->Expr->I1
 | 0,_,_,_=>stI
 | n+1,S,tg,e=>match e with
  | .Call (.Name x _) args [] _ =>
   if S.gl x&&P.free x&&args.all Jk&&(x=="range") then J5m args.length (aAll (args.map (ev P n S)))
   else if S.gl x&&P.free x&&args.all Jk&&(x=="enumerate") then(match tg,args with
    | .Tuple ..,[a]=>iRg Jfz (Ja (ev P n S a) aNil)
    | _,_=>stI)
   else iAny (ev P n S e)
  | e=>iAny (ev P n S e)
noncomputable def tgt (P:Pg):Nat->Sc->Expr->G1
 | 0,_,_=>stG
 | n+1,S,e=>match e with
  | .Name x _=>(match S.sto x with
   | some i=>gNm i
   | none=>stG)
  | .Tuple es _ _=>if es.all Jk then gTp es.length (gAll (es.map (tgt P n S))) else stG
  | .Subscript o i _=>if Jm8 i then gSbF o (ev P n S o) (ev P n S i) else stG
  | _=>stG
end
end
noncomputable def Jh1 (t:T1) (b:S1):Nat->S1
 | 0,_,_=>.stuck
 | n+1,σ,h=>match t σ h with
  | .ok c h1=>if c then(match b σ h1 with
   | .next σ2 h2=>Jh1 t b n σ2 h2
   | .cont σ2 h2=>Jh1 t b n σ2 h2
   | .brk σ2 h2=>.next σ2 h2
   | .ret v h2=>.ret v h2
   | _=>.stuck) else .next σ h1
  | _=>.stuck
@[irreducible] noncomputable def J0c:Nat:=1000000
noncomputable def Jl0 (t:T1) (b:S1):S1:=Jh1 t b J0c
noncomputable def ipI:Operator->IV->IV->IH->Res IV
 | .Add,.int i,.int j,h=>.ok (.int (i+j)) h
 | _,_,_,_=>.stuck
noncomputable def sAug (op:Operator) (i:Nat) (e:E1):S1:=λ σ h=>rS σ (eVar i σ h) λ x h1=>rS σ (e σ h1) λ y h2=>rS σ (ipI op x y h2) λ z h3=>.next (σ.set i (some z)) h3
noncomputable def sAugF (op:Operator) (f:Str) (o e:E1):S1:=λ σ h=>rS σ (o σ h) λ ov h1=>match ov with
 | .ref i=>(match h1[i]? with
  | some (.ins _ fs)=>(match fs.lookup f with
   | some x=>rS σ (e σ h1) λ y h2=>rS σ (ipI op x y h2) λ z h3=>(match h3[i]? with
    | some (.ins c gs)=>if gs.length<1000 then .next σ (h3.set i (.ins c (putI f z gs))) else .stuck
    | _=>.stuck)
   | none=>.stuck)
  | _=>.stuck)
 | _=>.stuck
noncomputable def ixL:IV->IV->IH->Res IV
 | .ref i,.int k,h=>match h[i]? with
  | some (.lst xs)=>(match atI xs k with
   | some v=>if 0<=k then .ok v h else .stuck
   | none=>.stuck)
  | _=>.stuck
 | _,_,_=>.stuck
noncomputable def sAugS (op:Operator) (o k e:E1):S1:=λ σ h=>rS σ (o σ h) λ ov h1=>rS σ (k σ h1) λ kv h2=>rS σ (ixL ov kv h2) λ x h3=>rS σ (e σ h3) λ y h4=>rS σ (ipI op x y h4) λ z h5=>setI ov kv z σ h5
noncomputable def sAll:List S1->S1
 | []=>sNil
 | [a]=>a
 | a::b::r=>sSeq a (sAll (b::r))
noncomputable def J27:Expr->Bool
 | .Tuple .. =>false
 | _=>true
noncomputable def Jy2:Expr->Bool
 | .Tuple .. =>true
 | _=>false
noncomputable def isLC:Expr->Bool
 | .ListComp .. =>true
 | _=>false
noncomputable def Jy1:Expr->Bool
 | .Subscript .. =>true
 | _=>false
noncomputable abbrev Xi:=Str->Option (Str->Option Bool)
noncomputable def J44 (g:Str->Option Bool):Ty->Option Bool
 | .exc c=>g c
 | _=>none
noncomputable section
noncomputable def J2k (S:Sc) (xi:Xi) (fr:Str->Bool) (f:Expr) (as:List Expr) (ks:List Keyword) (p:Pos) (m:Expr->E1):E1:=match f,as,ks with
 | .Name x _,[a,.Name D _],[]=>if x=="isinstance"&&fr x&&S.gl x&&S.gl D&&Jk a then(match xi D with
  | some g=>eIsi (J44 g) (m a)
  | none=>stE) else stE
 | _,_,_=>stE
noncomputable def hv (xi:Xi) (xf:Str->Str->Bool) (fr:Str->Bool):Nat->Bool->Sc->Expr->E1
 | 0,_,_,_=>stE
 | n+1,w,S,e=>match e with
  | .Constant c _ _=>evC c
  | .Name x _=>(match S.vis x with
   | some i=>eVar i
   | none=>stE)
  | .Tuple es _ _=>if es.all Jk then eTup (aAll (es.map (hv xi xf fr n w S))) else stE
  | .Call f as ks p=>J2k S xi fr f as ks p (hv xi xf fr n w S)
  | .Attribute o f _=>if Jbw o then Jsr (xf f) f (hv xi xf fr n w S o) else stE
  | _=>stE
noncomputable def hx (xi:Xi) (xf:Str->Str->Bool) (fr:Str->Bool) (w:Bool) (S:Sc):Nat->Stmt->S1
 | 0,_=>stS
 | n+1,st=>match st with
  | .Pass _=>Jzv
  | .Return (some e) _=>sRet (hv xi xf fr n w S e)
  | .Assign [.Name x _] e _=>if Je8 e then(match S.sto x with
   | some i=>sSet i (hv xi xf fr n w S e)
   | none=>stS) else stS
  | _=>stS
noncomputable def hSl (S:Sc):Option Str->Option (Option Nat)
 | none=>some none
 | some x=>if S.names.lookup x==some .local then(ixOf x S.N).map some else none
noncomputable def J03 (P:Pg) (S:Sc) (n:Nat) (sl:Option Nat) (suite:List Stmt):S1:=sAll (suite.map (hx P.xi P.xf P.free false S n))
noncomputable def hHd (P:Pg) (S:Sc) (n:Nat):ExceptHandler->Option HdI
 | .ExceptHandler (some (.Name D _)) nm (b::suite) _=>if S.gl D then(match P.xi D,hSl S nm with
  | some g,some sl=>some (g,sl,J03 P S n sl (b::suite))
  | _,_=>none) else none
 | _=>none
noncomputable def hHds (P:Pg) (S:Sc) (n:Nat):List ExceptHandler->Option (List HdI)
 | []=>some []
 | h::r=>match hHd P S n h,hHds P S n r with
  | some q,some l=>some (q::l)
  | _,_=>none
end
noncomputable def XiOk (K:W.Frag) (mg:Str->Option Value) (xi:Xi) (xf:Str->Str->Bool):Prop:=(∀D g,xi D=some g->∃v,(mg D=some v∨(mg D=none/\bootBuiltins D=some v)) /\
 ∀c C b,g c=some b->W.nsIn K mainGlobals c=some (some (.ref C))->ExI K C/\W.kitOne K (.ref C) v=some b/\W.exmOne K (.ref C) v=some b) /\
 ∀f c C,xf f c=true->W.nsIn K mainGlobals c=some (some (.ref C))->StoX K C f/\ExI K C/\W.findIn K (.ref C) f=some none
noncomputable section
noncomputable def Jqp (P:Pg) (S:Sc) (m:Expr->E1) (x:Str) (e:Expr):S1:=match P.xo x with
 | some f=>if S.gl x&&Jk e&&decide (f.np<=8) then(match f.fill 2 with
  | some d=>Jkn (λ c=>c==x) (Jr2 x f.run d (aAll ([e].map m)))
  | none=>stS) else stS
 | none=>stS
noncomputable def Jvl (P:Pg) (S:Sc) (m:Expr->E1) (exc cause:Option Expr):S1:=match exc,cause with
 | some (.Call (.Name x _) [e] [] _),none=>if S.gl x&&P.rz x&&Jk e then J1h x (Ja (m e) aNil) else Jqp P S m x e
 | _,_=>stS
noncomputable def hTry (P:Pg) (S:Sc) (n:Nat) (m:Stmt->S1) (body:List Stmt) (hs:List ExceptHandler) (o f:List Stmt):S1:=match hs,o,f with
 | h::r,[],[]=>if S.own then(match hHds P S n (h::r) with
  | some ms=>sTry (sAll (body.map m)) ms
  | none=>stS) else stS
 | _,_,_=>stS
end
noncomputable def J3p (P:Pg) (f:Str) (o e:E1):S1:=if P.fld f then Jkm f o e else Jzu (P.xf f) f o e
noncomputable section
noncomputable def ex (P:Pg):Nat->Sc->Stmt->S1
 | 0,_,_=>stS
 | n+1,S,st=>match st with
  | .Pass _=>Jzv
  | .Break _=>J1g
  | .Continue _=>J61
  | .Expr e _=>if Je8 e then Jci (ev P n S e) else stS
  | .Return none _=>J3q
  | .Return (some e) _=>sRet (ev P n S e)
  | .If c a b _=>sIf (evT P n S c) (sAll (a.map (ex P n S))) (sAll (b.map (ex P n S)))
  | .While c a [] _=>Jl0 (evT P n S c) (sAll (a.map (ex P n S)))
  | .For tg it a [] _=>if Jtm it&&S.own then sFor (evI P n S tg it) (tgt P n S tg) (sAll (a.map (ex P n S))) else stS
  | .Assign [.Name x _] e _=>if Je8 e||isLC e then(match S.sto x with
   | some i=>sSet i (ev P n S e)
   | none=>stS) else stS
  | .Assign [.Attribute o f _] e _=>if Je8 e then J3p P f (ev P n S o) (ev P n S e) else stS
  | .Assign [tg] e _=>if Je8 e&&((Jy2 tg&&J27 e)||Jy1 tg) then sAsg (ev P n S e) (tgt P n S tg) else stS
  | .Raise exc cause _=>Jvl P S (ev P n S) exc cause
  | .Try body hs o f _=>hTry P S n (ex P n S) body hs o f
  | _=>stS
end
structure FnD (ce:Str->Option Addr) (prog:Program) (w:World) (K:W.Frag) (mg:Str->Option Value) (base:Heap) (k:Nat) (f:Fn) (fa:Addr) (fd:FuncData) (ps:List Str):Prop where
 len:ps.length=f.np
 ok:FnOk prog w K mg base (CXI prog w) k fa fd ps (spI ce K ps f.run)
 dv:∀j,j<=f.dvs.length->∃ds,Jd6 K fd ps ds/\ds.length=f.dvs.length-j/\∃vs,Vals vs ds/\∀ι H,RVs K ι H (f.dvs.drop j) vs
structure PgOk (ce:Str->Option Addr) (k:Nat) (P:Pg) (prog:Program) (w:World) (K:W.Frag) (mg:Str->Option Value) (base:Heap):Prop where
 fn:∀x f,P.fn x=some f->∃fa fd ps,mg x=some (.ref fa)/\W.keepIn K (.ref fa)=true/\FnD ce prog w K mg base k f fa fd ps
 cls:∀x f,P.cls x=some f->∃C fa fd ps,mg x=some (.ref C)/\ce x=some C/\Mk K C fa/\FnD ce prog w K mg base k f fa fd ps
 meth:∀c m f,P.meth c m=some f->∃C fa fd ps,ce c=some C/\Cls K C/\Meth K C m fa/\FnD ce prog w K mg base k f fa fd ps
 con:∀x v,P.con x=some v->∃u y,mg x=some u/\RelV y u/\∀ι H,RV K ι H v y
 isa:∀D g,P.isa D=some g->∃c,mg D=some c/\IsOk ce K c λ t=>match t with|.ins c=>some (g c)|.exc _=>none|_=>some false
 fld:∀f,P.fld f=true->Jx7 ce K f
 free:∀x,P.free x=true->mg x=none
 blt:∀q j,P.tabs q=some j->Jjq mg base
 rz:∀x,P.rz x=true->∃C,mg x=some (.ref C)/\W.nsIn K mainGlobals x=some (some (.ref C))/\XCls K C
 xi:XiOk K mg P.xi P.xf
 bas:∀x,P.bas x=true->∃C,mg x=some (.ref C)/\BasK K C
 wr:∀x r,P.wr x=some r->True
 ne:∀c,P.ne c=true->∃C,ce c=some C/\neIn K C=true/\ClsI K C/\W.kitOne K (.ref C) (.type "list")=some false
 xo:∀x f,P.xo x=some f->∃C fa fd ps,mg x=some (.ref C)/\W.nsIn K mainGlobals x=some (some (.ref C))/\Jea K C fa=true/\W.keepIn K (.ref C)=true/\(∀h:Heap,K.In h->ExC h C)/\FnD ce prog w K mg base k f fa fd ps
 xb:∀x,P.xb x=true->∃C,mg x=some (.ref C)/\BasX K C
structure Good (ce:Str->Option Addr) (k:Nat) (P:Pg) (S:Sc) (X:Cx):Prop where
 n:X.N=S.N
 sc:X.env.scope.names=S.names
 nd:S.N.Nodup
 fk:X.env.scope.kind=.function
 calm:X.calm=true
 room:Room (k+1) X.A
 st:S.own=true->∀x,X.fn x=true
 pg:PgOk ce k P X.prog X.w X.K X.mg X.base
 code:S.own=true->W.codeIn X.K X.env.code S.q=true/\X.env.qual=S.q++".<locals>."
 room3:S.own=true->Room (k+3) X.A
 top:S.own=true->X.stack=X.env::X.outer/\X.env.frame=some X.env.locals
section
variable {ce:Str->Option Addr}{k:Nat}{P:Pg}{S:Sc}{X:Cx}{α β:Type}{R:REL α β}
theorem Jb {t:Sem β}:PX ce X R t (λ _ _=>.stuck):=λ _ _ _ _ _ _ _ _ _ _ K=>(show False from K).elim
theorem px_pt {t:Sem β}{m:ISt->IH->Res α}(hh:∀σi h,∃m',m σi h=m' σi h/\PX ce X R t m'):PX ce X R t m:=by
 intro pins s σ H ι σi h Q E N K
 obtain⟨m',e,p⟩:=hh σi h
 rw[e] at K
 exact p pins s σ H ι σi h Q E N K
theorem Jjh {tg e:Expr}:PIi ce X tg e stI:=λ _ _ _ _ _ _ _ _ _ _ K=>(show False from K).elim
theorem Jhx {e:Expr}:PGi ce X e stG:=λ _ _ _ _ _ _ _ _ _ _ _ _ _ K=>(show False from K).elim
theorem Jh {t:Sem Flow}:PSi ce X t stS:=λ _ _ _ _ _ _ _ _ _ _ K=>(show False from K).elim
theorem Jhr {x:Str}:∀{l:List Str}{i:Nat},ixOf x l=some i->l[i]?=some x
 | [],_,h=>by cases h
 | y::r,i,h=>by
  unfold ixOf at h
  split at h
  ·rename_i e
   cases h
   simp[beq_iff_eq.mp e]
  ·obtain⟨j,hj,rfl⟩:=Option.map_eq_some_iff.mp h
   simpa using Jhr hj
theorem Good.kind (G:Good ce k P S X) (x:Str):X.env.kindOf x=S.names.lookup x:=by
 show X.env.scope.names.lookup x=_
 rw[G.sc]
theorem Good.vis (G:Good ce k P S X){x:Str}{i:Nat}(h:S.vis x=some i):X.N[i]?=some x/\Vis X.env.scope x/\(x==("__debug__":Str))=false/\(x==("__classdict__":Str))=false:=by
 unfold Sc.vis at h
 have fin:∀{o:NameKind},(o=.local∨o=.cell∨o=.free)->S.names.lookup x=some o->(if (x==("__debug__":Str)||x==("__classdict__":Str))=true then none else ixOf x S.N)=some i ->
   X.N[i]?=some x/\Vis X.env.scope x/\(x==("__debug__":Str))=false/\(x==("__classdict__":Str))=false:=λ ho e h=>by
  split at h
  ·cases h
  ·rename_i hd
   have hd':=Bool.eq_false_iff.mpr hd
   rw[Bool.or_eq_false_iff] at hd'
   refine⟨by rw[G.n];exact Jhr h,?_,hd'.1,hd'.2⟩
   unfold Vis
   rw[G.sc,e]
   rcases ho with rfl|rfl|rfl
   ·exact .inl rfl
   ·exact .inr (.inl rfl)
   ·exact .inr (.inr rfl)
 cases e:S.names.lookup x with
 | none=>rw[e] at h;cases h
 | some o =>
  rw[e] at h
  cases o with
  | «local» =>exact fin (.inl rfl) e h
  | cell=>exact fin (.inr (.inl rfl)) e h
  | free=>exact fin (.inr (.inr rfl)) e h
  | _=>cases h
theorem Good.gl (G:Good ce k P S X){x:Str}(h:S.gl x=true):Gl X x/\(x==("__debug__":Str))=false/\x≠"__name__":=by
 unfold Sc.gl at h
 simp only[Bool.and_eq_true,beq_iff_eq,Bool.not_eq_true'] at h
 refine⟨?_,h.1.2,λ e=>?_⟩
 ·show X.env.kindOf x=_
  rw[G.kind]
  exact h.1.1
 ·have:=h.2
  rw[e] at this
  exact absurd this (by decide)
theorem Good.sto (G:Good ce k P S X){x:Str}{i:Nat}(h:S.sto x=some i):X.N[i]?=some x/\Loc X.env.scope x/\(X.fn x=true∨X.env.scope.names.lookup x=some .local):=by
 unfold Sc.sto at h
 unfold L2.Loc
 rw[G.sc]
 cases e:S.names.lookup x with
 | none=>rw[e] at h;cases h
 | some o =>
  rw[e] at h
  cases o with
  | «local» =>exact⟨by rw[G.n];exact Jhr h,.inl rfl,.inr rfl⟩
  | cell =>
   dsimp only at h
   split at h
   ·rename_i ho
    exact⟨by rw[G.n];exact Jhr h,.inr rfl,.inl (G.st ho x)⟩
   ·cases h
  | _=>cases h
theorem Good.nodup (G:Good ce k P S X):X.N.Nodup:=by rw[G.n];exact G.nd
theorem Jd {a:Expr}{es:List Expr}{env:Env}(h:Jk a=true):starEach (a::es) env=(false,eval a env)::starEach es env:=by
 cases a<;>first|rfl|cases h
theorem Jdx {pos:Pos}{env:Env}:∀{es:List Expr},es.all Jk=true->(backTo pos (starEach es env)).any (·.1)=false
 | [],_=>rfl
 | a::es,h=>by
  simp only[List.all_cons,Bool.and_eq_true] at h
  rw[Jd h.1]
  show(false||(backTo pos (starEach es env)).any (·.1))=false
  rw[Jdx h.2]<;>rfl
theorem Jkr {pos:Pos}{env:Env}:∀{es:List Expr},es.all Jk=true->(backTo pos (starEach es env)).all (λ x=>!x.1)=true
 | [],_=>rfl
 | a::es,h=>by
  simp only[List.all_cons,Bool.and_eq_true] at h
  rw[Jd h.1]
  show(true&&(backTo pos (starEach es env)).all (λ x=>!x.1))=true
  rw[Jkr h.2]<;>rfl
theorem J2m {pos:Pos}{env:Env}{es:List Expr}(ha:es.all Jk=true) (hn:es.length<30):((backTo pos (starEach es env)).all (λ x=>!x.1)&&(backToKw pos (keywordEach [] env)).all (λ x=>x.1.isSome)
   && decide (es.length+([]:List Keyword).length+(if ([]:List Keyword).isEmpty then 0 else 1)<30))=true:=by
 show((backTo pos (starEach es env)).all (λ x=>!x.1)&&true&&decide (es.length+0+0<30))=true
 rw[Jkr ha]
 simpa using hn
theorem Jgl:∀(l:List E1),ALen l.length (aAll l)
 | []=>Jx8
 | _::r=>Juj (Jgl r)
theorem Jjr {f:Expr->E1}:∀{es:List Expr},es.all Jk=true->(∀e,PEi ce X e (f e))->PAi ce X es (aAll (es.map f))
 | [],_,_=>Jk1
 | a::es,h,hf=>by
  simp only[List.all_cons,Bool.and_eq_true] at h
  exact Jed (hf a) (Jjr h.2 hf) (Jd h.1)
theorem J01 {f:Expr->E1}{pos:Pos}(hf:∀e,PEi ce X e (f e)):∀(vs:List Expr),PEi ce X (.BoolOp .And vs pos) (J16 (vs.map f))
 | []=>Jb
 | [a]=>J50 (hf a)
 | a::b::r=>i_and Jpy (hf a) (J01 hf (b::r))
theorem J5d {f:Expr->E1}{pos:Pos}(hf:∀e,PEi ce X e (f e)):∀(vs:List Expr),PEi ce X (.BoolOp .Or vs pos) (eOrs (vs.map f))
 | []=>Jb
 | [a]=>J50 (hf a)
 | a::b::r=>i_or Jpy (hf a) (J5d hf (b::r))
theorem J1l {f:Expr->T1}{pos:Pos}(hf:∀e,PTi ce X e (f e)):∀(vs:List Expr),PWi ce X (.BoolOp .And vs pos) (J34 (vs.map f))
 | []=>λ _=>Jb
 | [a]=>J38 (hf a)
 | a::b::r=>J7k (hf a) (J1l hf (b::r))
theorem J7f {f:Expr->T1}{pos:Pos}(hf:∀e,PTi ce X e (f e)):∀(vs:List Expr),PWi ce X (.BoolOp .Or vs pos) (tOrs (vs.map f))
 | []=>λ _=>Jb
 | [a]=>J7l (hf a)
 | a::b::r=>tw_or (hf a) (J7f hf (b::r))
theorem J02 {f:Expr->G1}:∀{es:List Expr},es.all Jk=true->(∀e,PGi ce X e (f e))->PGsi ce X es (gAll (es.map f))
 | [],_,_=>J5j
 | a::es,h,hf=>by
  simp only[List.all_cons,Bool.and_eq_true] at h
  refine J2j (hf a) (J02 h.2 hf) ?_
  cases a<;>first|rfl|exact absurd h.1 Bool.false_ne_true
theorem J0r {env:Env}:∀{es:List Expr},es.all Jk=true->(assignEach es env).length=es.length
 | [],_=>rfl
 | a::es,h=>by
  simp only[List.all_cons,Bool.and_eq_true] at h
  have:assignEach (a::es) env=(false,assign a env)::assignEach es env:=by cases a<;>first|rfl|exact absurd h.1 Bool.false_ne_true
  rw[this,List.length_cons,List.length_cons,J0r h.2]
theorem Juq {env:Env}:∀{es:List Expr},es.all Jk=true->(assignEach es env).findIdx? (·.1)=none
 | [],_=>rfl
 | a::es,h=>by
  simp only[List.all_cons,Bool.and_eq_true] at h
  have:assignEach (a::es) env=(false,assign a env)::assignEach es env:=by cases a<;>first|rfl|exact absurd h.1 Bool.false_ne_true
  rw[this,List.findIdx?_cons,Juq h.2]
  rfl
theorem o_bin (op:Operator):OpI ce X (binaryOp op) (binI op):=by
 cases op with
 | Add=>exact o_add
 | Sub=>exact o_sub
 | Mult=>exact J6k
 | FloorDiv=>exact J6j
 | Mod=>exact o_mod
 | Pow=>exact o_pow
 | _=>exact λ _ _ _ _ _ _ _ _ _ _ _ _ _ _ _ _ K=>(show False from K).elim
theorem Jwj (hu:X.A.units+64<cLine) (op:CmpOp):OpI ce X (compareOp op) (cmpI op):=by
 cases op with
 | Lt=>exact o_lt
 | LtE=>exact o_le
 | Gt=>exact o_gt
 | GtE=>exact o_ge
 | Eq=>exact o_eq hu
 | NotEq=>exact o_ne hu
 | Is=>exact o_is
 | IsNot=>exact J28
 | _=>exact λ _ _ _ _ _ _ _ _ _ _ _ _ _ _ _ _ K=>(show False from K).elim
theorem J1b {ne:Str->Bool}(hu:X.A.units+64<cLine) (_:∀c,ne c=true->∃C,ce c=some C/\neIn X.K C=true) (op:CmpOp) (b:Expr):OpI ce X (compareOp op) (cmpD ne op b):=Jwj hu op
theorem x_ixF (a:Expr):IxI ce X (ixD a):=by
 unfold ixD
 split
 ·exact x_ixD
 ·exact x_ix
theorem o_un (op:UnaryOp):UnI ce X (unaryOp op) (unI op):=by
 cases op with
 | Not=>exact J39 Jpy
 | USub=>exact u_neg
 | _=>exact λ _ _ _ _ _ _ _ _ _ _ _ _ _ K=>(show False from K).elim
theorem Jcm {o:Expr}{m:Str}{env:Env}{w:Sem Value}(h:Jbw o=true):attributeBase o m env w=w:=by
 cases o with
 | Call f as ks p =>
  cases f with
  | Name x q =>
   cases as with
   | nil =>
    cases ks with
    | nil=>cases h
    | cons _ _=>rfl
   | cons _ _=>rfl
  | _=>rfl
 | _=>rfl
theorem Ja8 {e:Expr}{env:Env}(h:Jtm e=true) (x:Value):foldedSetIterable e env x=pure x:=by
 cases e<;>first|rfl|cases h
theorem Jbl {e:Expr}{t:Option Expr}{l:Nat}{env:Env}(h:Je8 e=true):swapsWith e t l env=pure false:=by
 cases e<;>first|rfl|cases h
theorem Jy4 {i:Expr}(h:Jm8 i=true):Jui i:=λ _ _=>by
 cases i<;>first|rfl|cases h
theorem Jki {o:Expr}{m:Str}{ap pos:Pos}{es:List Expr}{env:Env}(hb:Jbw o=true) (hs:es.all Jk=true) (hl:(ap.endLine==pos.line)=true) (hn:es.length<30) :
  eval (.Call (.Attribute o m ap) es [] pos) env=(do
   let ov<-eval o env
   standAt ap.atName
   let (f,first)<-holding [ov] (getMethod ov m (do return(<- importBound o env).getD true))
   callWith pos f first (backTo pos (starEach es env)) (backToKw pos (keywordEach [] env))):=by
 have hform:methodCallForm (es.length+([]:List Keyword).length) (backTo pos (starEach es env)) (backToKw pos (keywordEach [] env))=true:=by
  show((backTo pos (starEach es env)).all (λ x=>!x.1)&&true&&decide (es.length+0+0<30))=true
  rw[Jkr hs]
  simpa using hn
 have hpos:methodCallPos true o env ap pos=pure pos:=by unfold methodCallPos;simp[hl]
 rw[arm_eval_Call,Jcm hb]
 unfold methodCall
 rw[hform,hpos]
 rfl
end
section
variable {ce:Str->Option Addr}{k:Nat}{P:Pg}{S:Sc}{X:Cx}
theorem Joa (G:Good ce k P S X) (N0 l c:List Str) (js:List Nat) (sc:Scope):Jd2 N0 l c js X.env.scope sc=Jd2 N0 l c js S.fake sc:=by
 unfold Jd2
 rw[G.fk,G.sc]
 rfl
theorem Good.comp (G:Good ce k P S X){sc:Scope}(h:Jd2 S.N (Jm3 sc) (Ji4 sc) (jsOf S sc) S.fake sc=true) (C:Addr) (s:Shared) (H:Hp) (fp:List Addr):Good ce k P (S.comp sc) (cxC X (Jm3 sc++Ji4 sc) sc C s H fp):=by
 simp only[Jd2,Bool.and_eq_true,decide_eq_true_eq] at h
 obtain⟨⟨⟨⟨⟨⟨⟨⟨⟨kF,kF0⟩,kNC⟩,kL⟩,kFr⟩,kFx⟩,kJ⟩,kLen⟩,kNd⟩,kLo⟩:=h
 refine⟨rfl,?_,kNd,kF,G.calm,G.room,λ z=>absurd z Bool.false_ne_true,G.pg,λ z=>absurd z Bool.false_ne_true,λ z=>absurd z Bool.false_ne_true,λ z=>absurd z Bool.false_ne_true⟩
 show(relabel sc X.env).names=_
 unfold relabel Sc.comp
 dsimp only
 refine List.map_congr_left λ x _=>?_
 obtain⟨n,kd⟩:=x
 dsimp only
 rw[G.fk,G.kind]
 simp
end
structure Snd (ce:Str->Option Addr) (k:Nat) (P:Pg) (n:Nat):Prop where
 e:∀S X e,Good ce k P S X->PEi ce X e (ev P n S e)
 t:∀S X e,Good ce k P S X->PTi ce X e (evT P n S e)
 o:∀S X e,Good ce k P S X->PPi ce X e (evO P n S e)
 c:∀S X x args p pos,Good ce k P S X->S.gl x=true->args.all Jk=true->PEi ce X (.Call (.Name x p) args [] pos) (Jvd P n S x args)
 i:∀S X tg e,Good ce k P S X->PIi ce X tg e (evI P n S tg e)
 g:∀S X e,Good ce k P S X->PGi ce X e (tgt P n S e)
section
variable {ce:Str->Option Addr}{k:Nat}{P:Pg}{n:Nat}{S:Sc}{X:Cx}
theorem J0b:Snd ce k P 0:=⟨λ _ _ _ _=>Jb,λ _ _ _ _=>Jb,λ _ _ _ _=>Jb,λ _ _ _ _ _ _ _ _ _=>Jb,λ _ _ _ _ _=>Jjh,λ _ _ _ _=>Jhx⟩
theorem Jmw {prog:Program}{w:World}{K:W.Frag}{mg:Str->Option Value}{base:Heap}{f:Fn}{fa:Addr}{fd:FuncData}{ps:List Str}{m:Nat}{d:List IV}(D:FnD ce prog w K mg base k f fa fd ps) (h:f.fill m=some d) :
  ∃ds,Jd6 K fd ps ds/\m+ds.length=ps.length/\∃vs,Vals vs ds/\∀ι H,RVs K ι H d vs:=by
 unfold Fn.fill at h
 split at h
 ·rename_i hz
  cases h
  obtain⟨ds,hb,hl,q⟩:=D.dv (f.dvs.length-(f.np-m)) (by omega)
  exact⟨ds,hb,by rw[hl,D.len];omega,q⟩
 ·cases h
theorem Jz7 (G:Good ce k P S X){x:Str}{f:Fn}(hx:P.fn x=some f) (hg:S.gl x=true){args:List Expr}(ha:args.all Jk=true){g:Expr->E1}(hf:∀e,PEi ce X e (g e)){p pos:Pos} :
  PEi ce X (.Call (.Name x p) args [] pos) (Jr1 f args.length (aAll (args.map g))):=by
 obtain⟨fa,fd,ps,hm,hk,D⟩:=G.pg.fn x f hx
 obtain⟨gl,hdb,_⟩:=G.gl hg
 unfold Jr1
 cases hd:f.fill args.length with
 | none=>exact Jb
 | some d =>
  obtain⟨ds,hb,hl,q⟩:=Jmw D hd
  have hr:Room k X.A:=G.room.mono (Nat.le_succ k)
  cases args with
  | nil=>exact J2o D.ok hr gl hm hk hb q (by simpa using hl) hdb
  | cons a es =>
   have ha':=ha
   simp only[List.all_cons,Bool.and_eq_true] at ha'
   refine J5n D.ok hr gl hm hk hb q (Jjr ha hf) (λ σ h xs h' e=>?_) hdb (Jd ha'.1) (Jdx ha'.2)
   have:=Jgl _ σ h xs h' e
   rw[List.length_map] at this
   rw[this]
   exact hl
theorem Jz8 (G:Good ce k P S X){x:Str}{f:Fn}(hx:P.cls x=some f) (hg:S.gl x=true){args:List Expr}(ha:args.all Jk=true){g:Expr->E1}(hf:∀e,PEi ce X e (g e)){p pos:Pos} :
  PEi ce X (.Call (.Name x p) args [] pos) (Jr3 x f args.length (aAll (args.map g))):=by
 obtain⟨C,fa,fd,ps,hm,hC,M,D⟩:=G.pg.cls x f hx
 obtain⟨gl,hdb,_⟩:=G.gl hg
 unfold Jr3
 cases hd:f.fill (args.length+1) with
 | none=>exact Jb
 | some d =>
  obtain⟨ds,hb,hl,q⟩:=Jmw D hd
  cases args with
  | nil=>exact J2r M D.ok hC G.room gl hm hb q (by simp at hl;omega) hdb
  | cons a es =>
   have ha':=ha
   simp only[List.all_cons,Bool.and_eq_true] at ha'
   refine J5v M D.ok hC G.room gl hm hb q (Jjr ha hf) (λ σ h xs h' e=>?_) hdb (Jd ha'.1) (Jdx ha'.2)
   have:=Jgl _ σ h xs h' e
   rw[List.length_map] at this
   omega
theorem Ju8 (G:Good ce k P S X) (m:Str) (n:Nat):Juh ce X m n (Joc P m n):=by
 intro c f dvs h
 unfold Joc at h
 cases hm:P.meth c m with
 | none=>rw[hm] at h;cases h
 | some fn =>
  rw[hm] at h
  dsimp only at h
  cases hd:fn.fill (n+1) with
  | none=>rw[hd] at h;cases h
  | some d =>
   rw[hd] at h
   cases h
   obtain⟨C,fa,fd,ps,hC,hcl,hM,D⟩:=G.pg.meth c m fn hm
   obtain⟨ds,hb,hl,q⟩:=Jmw D hd
   exact⟨C,fa,fd,k,ps,ds,hC,hcl,hM,D.ok,G.room.mono (Nat.le_succ k),hb,q,by omega⟩
theorem bm_ok {T:String}{m:Str}{n:Nat}{g:IV->List IV->IH->Res IV}(h:bmOf T m n=some g):∃id,PlainAttrs T/\Slot T m id/\typeOf (.builtin id)=pure (.type "method_descriptor")/\MtI ce X T id g:=by
 unfold bmOf at h
 split at h
 ·rename_i hm
  simp only[Bool.and_eq_true,beq_iff_eq] at hm
  obtain⟨⟨rfl,rfl⟩,_⟩:=hm
  cases h
  exact⟨_,PySem.F.plainAttrs_list,PySem.F.slot_list_append,PySem.F.type_list_append,Jzc⟩
 ·split at h
  ·rename_i hm
   simp only[Bool.and_eq_true,beq_iff_eq] at hm
   obtain⟨⟨rfl,rfl⟩,_⟩:=hm
   cases h
   exact⟨_,PySem.F.plainAttrs_list,PySem.F.slot_list_extend,PySem.F.type_list_extend,Jzd⟩
  ·split at h
   ·rename_i hm
    simp only[Bool.and_eq_true,beq_iff_eq] at hm
    obtain⟨⟨rfl,rfl⟩,_⟩:=hm
    cases h
    exact⟨_,PySem.F.plainAttrs_dict,PySem.F.slot_dict_setdefault,PySem.F.type_dict_setdefault,Jze⟩
   ·cases h
theorem J7b {o:Expr}{m:Str}{mo:E1}{args:List Expr}{f:Expr->E1}{ap pos:Pos}{T:String}{g:IV->List IV->IH->Res IV}{n:Nat}(hg:bmOf T m n=some g) (ho:PEi ce X o mo) (hf:∀e,PEi ce X e (f e)) (ha:args.all Jk=true) (hb:Jbw o=true) (hl:(ap.endLine==pos.line)=true) (hn:args.length<30) :
  PEi ce X (.Call (.Attribute o m ap) args [] pos) (eBm T g mo (aAll (args.map f))):=by
 obtain⟨id,pa,sl,ty,mt⟩:=bm_ok (ce:=ce) (X:=X) hg
 cases args with
 | nil=>exact i_bm0 pa sl ty mt ho (Jcm hb) hl
 | cons a es =>
  have ha':=ha
  simp only[List.all_cons,Bool.and_eq_true] at ha'
  exact i_bm pa sl ty mt ho (Jjr ha hf) (Jcm hb) (J2m ha hn) hl (Jd ha'.1) (Jdx ha'.2)
theorem J30 (G:Good ce k P S X){o:Expr}{m:Str}{mo:E1}{args:List Expr}{f:Expr->E1}{ap pos:Pos}(ho:PEi ce X o mo) (hf:∀e,PEi ce X e (f e)) (ha:args.all Jk=true) (hb:Jbw o=true) (hl:(ap.endLine==pos.line)=true) (hn:args.length<30) :
  PEi ce X (.Call (.Attribute o m ap) args [] pos) (eDot P m args.length mo (aAll (args.map f))):=by
 refine px_pt λ σi h=>?_
 unfold eDot
 cases e:mo σi h with
 | exc n h1=>exact⟨λ _ _=>.stuck,rfl,Jb⟩
 | stuck=>exact⟨λ _ _=>.stuck,rfl,Jb⟩
 | ok v h1 =>
  dsimp only
  split
  ·refine⟨_,rfl,?_⟩
   cases args with
   | nil=>exact J2t ho (Ju8 G m 0) (Jki hb ha hl hn)
   | cons a es =>
    have ha':=ha
    simp only[List.all_cons,Bool.and_eq_true] at ha'
    refine J5y ho (Ju8 G m (a::es).length) (Jjr ha hf) (λ σ h xs h' e=>?_) (Jd ha'.1) (Jdx ha'.2) (Jki hb ha hl hn)
    have:=Jgl _ σ h xs h' e
    rwa [List.length_map] at this
  ·cases hg:bmOf (tyS v h1) m args.length with
   | none=>exact⟨λ _ _=>.stuck,rfl,Jb⟩
   | some g=>exact⟨_,rfl,J7b hg ho hf ha hb hl hn⟩
theorem Jwu (G:Good ce k P S X){o:Expr}{m:Str}{e:E1}{args:List Expr}{f:Expr->E1}{ap pos:Pos}(he:PEi ce X (.Call (.Attribute o m ap) args [] pos) e) (hf:∀e,PEi ce X e (f e)) (ha:args.all Jk=true) (hb:Jbw o=true) (hl:(ap.endLine==pos.line)=true) (hn:args.length<30) :
  PEi ce X (.Call (.Attribute o m ap) args [] pos) (Jyg P S m args.length o (aAll (args.map f)) e):=by
 unfold Jyg
 split
 ·rename_i hq
  cases o with
  | Name x q =>
   simp only[J12,Bool.and_eq_true,beq_iff_eq,decide_eq_true_eq] at hq
   obtain⟨⟨⟨rfl,hg⟩,hx⟩,hz⟩:=hq
   obtain⟨D,hm,B⟩:=G.pg.xb x hx
   obtain⟨gl,hdb,_⟩:=G.gl hg
   cases args with
   | nil=>exact absurd rfl hz
   | cons a es =>
    have ha':=ha
    simp only[List.all_cons,Bool.and_eq_true] at ha'
    refine J2n (λ c C hc hC=>?_) gl hm B (Jjr ha hf) hdb (Jd ha'.1) (Jdx ha'.2) (Jki hb ha hl hn)
    obtain⟨g,hg⟩:=Option.isSome_iff_exists.mp hc
    obtain⟨C',fa,fd,ps,_,c2,c3,_⟩:=G.pg.xo c g hg
    rw[hC] at c2
    cases c2
    exact⟨fa,c3⟩
  | _=>simp[J12] at hq
 ·exact he
theorem J31 (G:Good ce k P S X){a:Expr}{ma:E1}{y:Str}{p p2 pos:Pos}(ha:PEi ce X a ma) (hs:Jk a=true) (hg:S.gl "isinstance"=true) (hfr:P.free "isinstance"=true) (hy:S.gl y=true) :
  PEi ce X (.Call (.Name "isinstance" p) [a,.Name y p2] [] pos) (J17 (Jx9 P y) ma):=by
 unfold J17
 cases e:Jx9 P y with
 | none=>exact Jb
 | some ans =>
  obtain⟨gy,ydb,yn⟩:=G.gl hy
  have fin:∀{c:Value},ClsE X (.Name y p2) c->IsOk ce X.K c ans->PEi ce X (.Call (.Name "isinstance" p) [a,.Name y p2] [] pos) (eIsi ans ma):=λ hc O =>
   J5u hc O ha (G.gl hg).1 (G.pg.free _ hfr) rfl (Jd hs) rfl rfl
  unfold Jx9 at e
  cases hi:P.isa y with
  | some g =>
   rw[hi] at e
   cases e
   obtain⟨c,hm,O⟩:=G.pg.isa y g hi
   exact fin (Jqh gy hm ydb) O
  | none =>
   rw[hi] at e
   dsimp only at e
   split at e
   ·rename_i hf
    have hm:=G.pg.free y hf
    split at e
    ·rename_i q;cases (beq_iff_eq.mp q);cases e;exact fin (Jgb gy hm rfl yn ydb) Jyy
    ·split at e
     ·rename_i q;cases (beq_iff_eq.mp q);cases e;exact fin (Jgb gy hm rfl yn ydb) Jv0
     ·split at e
      ·rename_i q;cases (beq_iff_eq.mp q);cases e;exact fin (Jgb gy hm rfl yn ydb) Jyz
      ·split at e
       ·rename_i q
        cases (beq_iff_eq.mp q)
        cases e
        refine fin (Jgb gy hm rfl yn ydb) ?_
        split
        ·rename_i q
         refine Js7 λ C hC=>?_
         obtain⟨C',h1,_,h2⟩:=G.pg.ne _ q
         cases hC.symm.trans h1
         exact h2
        ·exact Jot
       ·split at e
        ·rename_i q;cases (beq_iff_eq.mp q);cases e;exact fin (Jgb gy hm rfl yn ydb) Jy0
        ·cases e
   ·cases e
theorem Jz5 (G:Good ce k P S X){a:Expr}{ma:E1}{x:Str}{p pos:Pos}(ha:PEi ce X a ma) (hs:Jk a=true) (hg:S.gl x=true) (hfr:P.free x=true) (hx:Jvx x=true) :
  PEi ce X (.Call (.Name x p) [a] [] pos) (eCB (bltF x) (Ja ma aNil)):=by
 obtain⟨gx,xdb,xn⟩:=G.gl hg
 have hm:=G.pg.free x hfr
 have hh:=G.room.hd
 have pa:PAi ce X [a] (Ja ma aNil):=Jed ha Jk1 (Jd hs)
 unfold Jvx at hx
 simp only[Bool.or_eq_true,beq_iff_eq] at hx
 rcases hx with(((rfl|rfl)|rfl)|rfl)|rfl
 ·exact Jgc c_len gx hm rfl pa xn xdb (Jd hs) rfl
 ·exact Jgc (c_all hh) gx hm rfl pa xn xdb (Jd hs) rfl
 ·exact Jgc (c_sum hh) gx hm rfl pa xn xdb (Jd hs) rfl
 ·exact Jgc (J47 hh) gx hm rfl pa xn xdb (Jd hs) rfl
 ·exact Jgc (J46 hh) gx hm rfl pa xn xdb (Jd hs) rfl
theorem Jz6 (G:Good ce k P S X){a:Expr}{ma:E1}{x:Str}{p pos:Pos}(ha:PEi ce X a ma) (hs:Jk a=true) (hg:S.gl x=true) (hfr:P.free x=true) (hx:Jvy x=true) :
  PEi ce X (.Call (.Name x p) [a] [] pos) (eCB (bltT x) (Ja ma aNil)):=by
 obtain⟨gx,xdb,xn⟩:=G.gl hg
 have hm:=G.pg.free x hfr
 have pa:PAi ce X [a] (Ja ma aNil):=Jed ha Jk1 (Jd hs)
 unfold Jvy at hx
 simp only[Bool.or_eq_true,beq_iff_eq] at hx
 rcases hx with rfl|rfl
 ·exact Jvs J45 gx hm rfl pa xn xdb (Jd hs) rfl
 ·exact Jvs J14 gx hm rfl pa xn xdb (Jd hs) rfl
theorem Jwv (G:Good ce k P S X){f:Expr->E1}(hf:∀e,PEi ce X e (f e)){x:Str}{args:List Expr}{p pos:Pos}(hg:S.gl x=true) (ha:args.all Jk=true) (hfr:P.free x=true) :
  PEi ce X (.Call (.Name x p) args [] pos) (Jmr P S x f args):=by
 unfold Jmr
 split
 ·rename_i a b
  simp only[List.all_cons,Bool.and_eq_true] at ha
  obtain⟨gx,xdb,xn⟩:=G.gl hg
  have hm:=G.pg.free x hfr
  have pa:PAi ce X [a,b] (Ja (f a) (Ja (f b) aNil)):=Jed (hf a) (Jed (hf b) Jk1 (Jd ha.2.1)) (Jd ha.1)
  have h1:∀pos,(backTo pos (starEach [b] X.env)).any (·.1)=false:=λ pos=>Jdx (by simp[ha.2.1])
  split
  ·rename_i hs
   cases (beq_iff_eq.mp hs)
   exact Jgc (c_max G.calm) gx hm rfl pa xn xdb (Jd ha.1) (h1 _)
  ·split
   ·rename_i hs
    cases (beq_iff_eq.mp hs)
    exact Jgc (c_min G.calm) gx hm rfl pa xn xdb (Jd ha.1) (h1 _)
   ·split
    ·rename_i y p2 _
     split
     ·rename_i hs
      simp only[Bool.and_eq_true,beq_iff_eq] at hs
      obtain⟨rfl,hy⟩:=hs
      exact J31 G (hf a) ha.1 hg hfr hy
     ·exact Jb
    ·exact Jb
 ·rename_i a
  simp only[List.all_cons,Bool.and_eq_true] at ha
  split
  ·rename_i e he
   split at he
   ·rename_i hc
    simp only[Bool.and_eq_true,beq_iff_eq] at hc
    obtain⟨⟨rfl,g2⟩,f2⟩:=hc
    unfold J1k at he
    split at he
    ·split at he
     ·rename_i hq
      simp only[Bool.and_eq_true,beq_iff_eq] at hq
      obtain⟨rfl,ns⟩:=hq
      cases he
      exact Jyv G.room.hd (G.gl hg).1 (G.pg.free _ hfr) (G.gl g2).1 (G.pg.free _ f2) (Jed (hf e) Jk1 (Jd ns)) (Jd ns)
     ·cases he
    ·cases he
   ·cases he
  ·split
   ·rename_i e he
    split at he
    ·rename_i hc
     simp only[Bool.and_eq_true,beq_iff_eq] at hc
     obtain⟨⟨rfl,g2⟩,f2⟩:=hc
     unfold J1e at he
     split at he
     ·split at he
      ·rename_i hq
       simp only[Bool.and_eq_true,beq_iff_eq] at hq
       obtain⟨rfl,ns⟩:=hq
       cases he
       exact Jvu G.room.hd (G.gl hg).1 (G.pg.free _ hfr) (G.gl g2).1 (G.pg.free _ f2) (Jed (hf e) Jk1 (Jd ns)) (Jd ns)
      ·cases he
     ·cases he
    ·cases he
   ·split
    ·rename_i hb
     exact Jz5 G (hf a) ha.1 hg hfr hb
    ·split
     ·rename_i hb
      exact Jz6 G (hf a) ha.1 hg hfr hb
     ·exact Jb
 ·exact Jb
theorem Jqr.of (G:Good ce k P S X){y:Str}{sc:Scope}(h:Jqr S y sc=true):LamSc X.N X.env.scope.names y (Ji4 sc) (jsOf S sc) sc:=by
 rw[G.n,G.sc]
 simp only[Jqr,Bool.and_eq_true,beq_iff_eq,Bool.not_eq_true',decide_eq_true_eq,List.all_eq_true,Bool.or_eq_true,beq_eq_false_iff_ne] at h
 obtain⟨⟨⟨⟨⟨⟨⟨h1,h2⟩,h3⟩,h4⟩,h5⟩,h6⟩,h7⟩,h8⟩:=h
 refine⟨h1,h2,h3,h4,h5,λ z hz e=>(h6 z hz).resolve_left λ q=>q e,λ z e=>PySem.mem_of_lookup e,λ i j z ej ez=>?_,by simp[jsOf],h8⟩
 unfold jsOf at ej
 rw[List.getElem?_map,ez] at ej
 cases ej
 exact h7 z (List.mem_of_getElem? ez)
theorem Good.lam (G:Good ce k P S X) (ho:S.own=true){y:Str}{sc:Scope}(h:Jqr S y sc=true) (f:Addr) (cd:Value) (s:Shared) (H:Hp):Good ce k P (S.lam y sc) (cxL X X.A.in1 (y::Ji4 sc) S.q sc f cd s H):=by
 have L:=Jqr.of G h
 exact⟨rfl,rfl,L.nd,L.kind,rfl,(G.room3 ho).in1.deeper _,λ z=>absurd z Bool.false_ne_true,G.pg,λ z=>absurd z Bool.false_ne_true,λ z=>absurd z Bool.false_ne_true,λ z=>absurd z Bool.false_ne_true⟩
theorem J7c (G:Good ce k P S X){f:Sc->Expr->E1}(hf:∀S X e,Good ce k P S X->PEi ce X e (f S e)){x:Str}{args:List Expr}{kws:List Keyword}{p pos:Pos}:PEi ce X (.Call (.Name x p) args kws pos) (Jv5 P S f x args kws):=by
 unfold Jv5
 split
 ·split
  ·rename_i hq
   simp only[Bool.and_eq_true,beq_iff_eq] at hq
   obtain⟨⟨⟨⟨rfl,rfl⟩,g1⟩,f1⟩,ns⟩:=hq
   exact J5w G.room.hd (G.gl g1).1 (G.pg.free _ f1) (Jed (hf _ _ _ G) Jk1 (Jd ns)) (hf _ _ _ G) (Jd ns)
  ·exact Jb
 ·split
  ·rename_i y j hy hj
   split
   ·rename_i hq
    simp only[Bool.and_eq_true,beq_iff_eq] at hq
    obtain⟨⟨⟨⟨⟨⟨⟨rfl,rfl⟩,rfl⟩,g1⟩,f1⟩,ns⟩,ho⟩,ok⟩:=hq
    exact J5x (k:=k+1) (G.gl g1).1 (G.pg.free _ f1) (Jed (hf _ _ _ G) Jk1 (Jd ns)) (hf _ _ _ G) (Jd ns) (G.room3 ho) (G.code ho).1 (G.code ho).2 (G.pg.blt _ _ hj) hy (Jqr.of G ok) λ f cd s' H'=>hf _ _ _ (G.lam ho ok f cd s' H')
   ·exact Jb
  ·exact Jb
 ·exact Jb
theorem J0a (ih:Snd ce k P n):Snd ce k P (n+1):=by
 refine⟨λ S X e G=>?_,λ S X e G=>?_,λ S X e G=>?_,λ S X x args p pos G hg ha=>?_,λ S X tg e G=>?_,λ S X e G=>?_⟩
 ·have ihe:=λ e=>ih.e S X e G
  have hu:=G.room.units
  cases e with
  | Constant c j p =>
   cases c with
   | int i=>exact J5t
   | bool b=>exact i_bl
   | none=>exact J5z
   | str x=>exact J51
   | _=>exact Jb
  | Name x p =>
   show PEi ce X (.Name x p) (match S.vis x with|some i=>eVar i|none=>if S.gl x then(match P.con x with|some v=>eC v|none=>stE) else stE)
   cases hv:S.vis x with
   | some i =>
    obtain⟨h1,h2,h3,h4⟩:=G.vis hv
    exact J53 i h1 h2 h3 h4
   | none =>
    dsimp only
    split
    ·rename_i hg
     obtain⟨gx,xdb,_⟩:=G.gl hg
     cases hc:P.con x with
     | none=>exact Jb
     | some v =>
      obtain⟨u,y,hm,r,q⟩:=G.pg.con x v hc
      exact J5s gx hm r q xdb
    ·exact Jb
  | BinOp a op b p=>exact i_bin (o_bin op) (ihe a) (ihe b)
  | UnaryOp op a p=>exact i_un (o_un op) (ihe a)
  | BoolOp op vs p =>
   cases op with
   | And=>exact J01 ihe vs
   | Or=>exact J5d ihe vs
  | IfExp t a b p=>exact J2q (ih.t S X t G) (ihe a) (ihe b)
  | Compare a ops cs p =>
   match ops,cs with
   | [o],[b] =>
    show PEi ce X _ (if behindInMarks o b then stE else eBin (cmpD P.ne o b) (ev P n S a) (ev P n S b))
    split
    ·exact Jb
    ·rename_i hb
     exact i_cmp (J1b hu (λ c z=>let ⟨C,p,q,_⟩:=G.pg.ne c z;⟨C,p,q⟩) o b) (ihe a) (ihe b) (Bool.eq_false_iff.mpr hb)
   | [o,o'],[b,c] =>
    show PEi ce X _ (if lastMarks [o,o'] [b,c] then stE else Je0 (cmpI o) (cmpI o') (ev P n S a) (ev P n S b) (ev P n S c))
    split
    ·exact Jb
    ·rename_i hb
     exact J2p (Jwj hu o) (Jwj hu o') (ihe a) (ihe b) (ihe c) (Bool.eq_false_iff.mpr hb)
   | [],_=>exact Jb
   | [_],[]=>exact Jb
   | [_],_::_::_=>exact Jb
   | [_,_],[]=>exact Jb
   | [_,_],[_]=>exact Jb
   | [_,_],_::_::_::_=>exact Jb
   | _::_::_::_,_=>exact Jb
  | JoinedStr es p =>
   match es with
   | a::b::r=>exact i_fst ihe
   | []=>exact Jb
   | [_]=>exact Jb
  | FormattedValue a c sp p =>
   cases sp with
   | none =>
    show PEi ce X _ (if c=-1 then eUn fmtI (ev P n S a) else stE)
    split
    ·rename_i hc
     subst hc
     exact i_fmt (ihe a)
    ·exact Jb
   | some _=>exact Jb
  | Tuple es j p =>
   show PEi ce X _ (if es.all Jk then eTup (aAll (es.map (ev P n S))) else stE)
   split
   ·rename_i hs
    exact J52 (Jjr hs ihe)
   ·exact Jb
  | List es p =>
   show PEi ce X _ (if es.all Jk then eLst (aAll (es.map (ev P n S))) else stE)
   split
   ·rename_i hs
    exact i_lst (Jjr hs ihe)
   ·exact Jb
  | Dict ks vs p =>
   match ks,vs with
   | [some k],[v]=>exact J5p (ihe k) (ihe v)
   | [],[]=>exact J5o
   | [],_::_=>exact Jb
   | [none],_=>exact Jb
   | [some _],[]=>exact Jb
   | [some _],_::_::_=>exact Jb
   | some _::_::_,_=>exact Jb
   | none::_::_,_=>exact Jb
  | Subscript a i p =>
   cases i with
   | Slice lo hi st q =>
    cases st with
    | none=>exact J2u x_sl (ihe a) (ih.o S X lo G) (ih.o S X hi G)
    | some st=>exact Jb
   | _=>exact i_ix (x_ixF a) (ihe a) (ihe _) (Jy4 rfl)
  | Attribute o f p =>
   show PEi ce X _ (if Jbw o&&P.fld f then eFld f (ev P n S o) else stE)
   split
   ·rename_i hs
    simp only[Bool.and_eq_true] at hs
    exact i_fld (ihe o) (G.pg.fld f hs.2) (Jcm hs.1)
   ·exact Jb
  | Call f args kws p =>
   cases kws with
   | cons kw kws =>
    cases f with
    | Name x q=>exact J7c G λ S X e G=>ih.e S X e G
    | _=>exact Jb
   | nil =>
    cases f with
    | Name x q =>
     show PEi ce X _ (if S.gl x&&args.all Jk then Jvd P n S x args else stE)
     split
     ·rename_i hs
      simp only[Bool.and_eq_true] at hs
      exact ih.c S X x args q p G hs.1 hs.2
     ·exact Jb
    | Attribute o m ap =>
     show PEi ce X _ (if args.all Jk&&Jbw o&&(ap.endLine==p.line)&&decide (args.length<30) then Jyg P S m args.length o (aAll (args.map (ev P n S))) (eDot P m args.length (ev P n S o) (aAll (args.map (ev P n S)))) else stE)
     split
     ·rename_i hs
      simp only[Bool.and_eq_true,decide_eq_true_eq] at hs
      exact Jwu G (J30 G (ihe o) ihe hs.1.1.1 hs.1.1.2 hs.1.2 hs.2) ihe hs.1.1.1 hs.1.1.2 hs.1.2 hs.2
     ·exact Jb
    | _=>exact Jb
  | ListComp elt gens sc p =>
   match gens with
   | [⟨tg,iter,ifs,as⟩] =>
    show PEi ce X _ (if as=0/\Jtm iter=true/\Jd2 S.N (Jm3 sc) (Ji4 sc) (jsOf S sc) S.fake sc=true then
     Ju3 ifs (evT P n (S.comp sc)) (λ mt=>Jx (evI P n S tg iter) (Jm3 sc).length (jsOf S sc) (tgt P n (S.comp sc) tg) mt (ev P n (S.comp sc) elt)) else stE)
    split
    ·rename_i hs
     obtain⟨rfl,hi,ok⟩:=hs
     have Gc:=G.comp ok
     have ok':=ok
     rw[<- Joa G] at ok'
     match ifs with
     | []=>exact J04 G.calm (ih.i S X tg iter G) (λ C s H fp=>ih.g _ _ tg (Gc C s H fp)) (λ C s H fp=>J1n) (λ C s H fp=>ih.e _ _ elt (Gc C s H fp)) ok' G.n rfl (Ja8 hi)
     | [c]=>exact J04 G.calm (ih.i S X tg iter G) (λ C s H fp=>ih.g _ _ tg (Gc C s H fp)) (λ C s H fp=>J1o (ih.t _ _ c (Gc C s H fp))) (λ C s H fp=>ih.e _ _ elt (Gc C s H fp)) ok' G.n rfl (Ja8 hi)
     | _::_::_=>exact Jb
    ·exact Jb
   | []=>exact Jb
   | ⟨_,_,_,_⟩::_::_=>exact Jb
  | _=>exact Jb
 ·have ihe:=λ e=>ih.e S X e G
  have hu:=G.room.units
  cases e with
  | UnaryOp op a p =>
   cases op with
   | Not=>exact t_not (ih.t S X a G)
   | _=>exact J7g Jpy (ihe _)
  | BoolOp op vs p =>
   cases op with
   | And=>exact(J1l (λ e=>ih.t S X e G) vs).t
   | Or=>exact(J7f (λ e=>ih.t S X e G) vs).t
  | IfExp t a b p=>exact Jb
  | Compare a ops cs p =>
   match ops,cs with
   | [o],[b] =>
    show PTi ce X _ (if behindInMarks o b then stT else tOfB asB (eBin (cmpD P.ne o b) (ev P n S a) (ev P n S b)))
    split
    ·exact Jb
    ·rename_i hb
     exact t_cmp (J1b hu (λ c z=>let ⟨C,p,q,_⟩:=G.pg.ne c z;⟨C,p,q⟩) o b) (ihe a) (ihe b) (Bool.eq_false_iff.mpr hb)
   | [o,o'],[b,c] =>
    show PTi ce X _ (if lastMarks [o,o'] [b,c] then stT else tOfB asB (Je0 (cmpI o) (cmpI o') (ev P n S a) (ev P n S b) (ev P n S c)))
    split
    ·exact Jb
    ·rename_i hb
     exact J35 (Jwj hu o) (Jwj hu o') (ihe a) (ihe b) (ihe c) (Bool.eq_false_iff.mpr hb)
   | [],_=>exact Jb
   | [_],[]=>exact Jb
   | [_],_::_::_=>exact Jb
   | [_,_],[]=>exact Jb
   | [_,_],[_]=>exact Jb
   | [_,_],_::_::_::_=>exact Jb
   | _::_::_::_,_=>exact Jb
  | _=>exact J7g Jpy (ihe _)
 ·cases e with
  | none=>exact J6r
  | some e=>exact J6s (ih.e S X e G)
 ·have ihe:=λ e=>ih.e S X e G
  show PEi ce X _ (match P.fn x with
  | some f=>Jr1 f args.length (aAll (args.map (ev P n S)))
  | none=>match P.cls x with
   | some f=>Jr3 x f args.length (aAll (args.map (ev P n S)))
   | none=>if P.free x then Jmr P S x (ev P n S) args else stE)
  cases hx:P.fn x with
  | some f=>exact Jz7 G hx hg ha ihe
  | none =>
   dsimp only
   cases hc:P.cls x with
   | some f=>exact Jz8 G hc hg ha ihe
   | none =>
    dsimp only
    split
    ·rename_i hfr
     exact Jwv G ihe hg ha hfr
    ·exact Jb
 ·have ihe:=λ e=>ih.e S X e G
  cases e with
  | Call f args kws p =>
   cases kws with
   | cons _ _=>cases f<;>exact Jyu (ihe _)
   | nil =>
    cases f with
    | Name x q =>
     show PIi ce X tg _ (if S.gl x&&P.free x&&args.all Jk&&(x=="range") then J5m args.length (aAll (args.map (ev P n S)))
      else if S.gl x&&P.free x&&args.all Jk&&(x=="enumerate") then(match tg,args with
       | .Tuple ..,[a]=>iRg Jfz (Ja (ev P n S a) aNil)
       | _,_=>stI)
      else iAny (ev P n S (.Call (.Name x q) args [] p)))
     split
     ·rename_i hs
      simp only[Bool.and_eq_true,beq_iff_eq] at hs
      obtain⟨⟨⟨hg,hf⟩,ha⟩,rfl⟩:=hs
      obtain⟨gx,_,_⟩:=G.gl hg
      have hm:=G.pg.free _ hf
      have pa:=Jjr ha ihe
      match args,ha,pa with
      | [],_,_=>exact Jjh
      | [a],ha,pa =>
       simp only[List.all_cons,Bool.and_eq_true] at ha
       exact Jyw gx hm pa (Jd ha.1)
      | [a,b],ha,pa =>
       simp only[List.all_cons,Bool.and_eq_true] at ha
       exact Jyx gx hm pa (by rw[Jd ha.1,Jd ha.2.1];rfl) (Jd ha.2.1)
      | _::_::_::_,_,_=>exact Jjh
     ·split
      ·rename_i hs
       simp only[Bool.and_eq_true,beq_iff_eq] at hs
       obtain⟨⟨⟨hg,hf⟩,ha⟩,rfl⟩:=hs
       obtain⟨gx,_,_⟩:=G.gl hg
       have hm:=G.pg.free _ hf
       split
       ·simp only[List.all_cons,Bool.and_eq_true] at ha
        exact J5q gx hm (Jed (ihe _) Jk1 (Jd ha.1)) (Jd ha.1)
       ·exact Jjh
      ·exact Jyu (ihe _)
    | _=>exact Jyu (ihe _)
  | _=>exact Jyu (ihe _)
 ·cases e with
  | Name x p =>
   show PGi ce X _ (match S.sto x with|some i=>gNm i|none=>stG)
   cases hv:S.sto x with
   | none=>exact Jhx
   | some i =>
    obtain⟨h1,h2,h3⟩:=G.sto hv
    exact g_nm G.nodup h1 h2 h3
  | Tuple es j p =>
   show PGi ce X _ (if es.all Jk then gTp es.length (gAll (es.map (tgt P n S))) else stG)
   split
   ·rename_i hs
    exact g_tup G.calm (J02 hs λ e=>ih.g S X e G) (J0r hs) (Juq hs)
   ·exact Jhx
  | Subscript o i p =>
   show PGi ce X _ (if Jm8 i then gSbF o (ev P n S o) (ev P n S i) else stG)
   split
   ·rename_i hs
    unfold gSbF
    split
    ·refine J5h (ih.e S X o G) (ih.e S X i G) λ v=>?_
     cases i<;>first|rfl|cases hs
    ·refine g_sub (ih.e S X o G) (ih.e S X i G) λ v=>?_
     cases i<;>first|rfl|cases hs
   ·exact Jhx
  | _=>exact Jhx
theorem Jno (ce:Str->Option Addr) (k:Nat) (P:Pg):∀n,Snd ce k P n
 | 0=>J0b
 | n+1=>J0a (Jno ce k P n)
end
section
variable {ce:Str->Option Addr}{X:Cx}{pos:Pos}
theorem J3u {c:Expr}{body:List Stmt}{mt:T1}{mb:S1}(hc:PTi ce X c mt) (hb:PS2 ce X body mb):PS1 ce X (.While c body [] pos) (Jl0 mt mb):=by
 intro pins s σ H ι σi h Q E N K
 unfold Jl0 at K
 generalize J0c=m0 at K
 refine wpAny_While (codeAny_whileLoop (λ n s'=>∃ιk σk hk σ' H',Now ce X pins ιk σk hk σ' H' s'/\Nxt ι H ιk H'/\Jaw ce X pins ιk H' (Jh1 mt mb n σk hk) Q E) ?_ m0 ⟨ι,σi,h,σ,H,N,.refl,K⟩)
 rintro n s1 ⟨ι1,σ1i,h1,σ1,H1,N1,n1,K1⟩
 cases n with
 | zero=>exact Zf K1
 | succ n =>
  unfold Jh1 at K1
  refine nof (hc pins s1 σ1 H1 ι1 σ1i h1 _ (λ _ _=>False) N1 ?_)
  cases et:mt σ1i h1 with
  | exc m h2=>rw[et] at K1;exact Zf K1
  | stuck=>rw[et] at K1;exact Zf K1
  | ok b h2 =>
   rw[et] at K1
   intro b' s2 H2 ι2 N2 n2 r2
   have r':b'=b:=r2
   subst r'
   dsimp only at K1
   cases b' with
   | false=>exact wpAny_execs_nil (K1 s2 σ1 H2 ι2 N2 n2)
   | true =>
    rw[if_pos rfl]
    rw[if_pos rfl] at K1
    refine nof (hb pins s2 σ1 H2 ι2 σ1i h2 _ (λ _ _=>False) N2 ?_)
    cases eb:mb σ1i h2 with
    | next σ3 h3 =>
     rw[eb] at K1
     exact λ s3 σ3' H3 ι3 N3 n3=>⟨n,Nat.lt_succ_self n,ι3,σ3,h3,σ3',H3,N3,(n1.trans n2).trans n3,Jaw.mono (r:=Jh1 mt mb n σ3 h3) K1 (n2.trans n3)⟩
    | cont σ3 h3 =>
     rw[eb] at K1
     exact λ s3 σ3' H3 ι3 N3 n3=>⟨n,Nat.lt_succ_self n,ι3,σ3,h3,σ3',H3,N3,(n1.trans n2).trans n3,Jaw.mono (r:=Jh1 mt mb n σ3 h3) K1 (n2.trans n3)⟩
    | brk σ3 h3 =>
     rw[eb] at K1
     exact λ s3 σ3' H3 ι3 N3 n3=>K1 s3 σ3' H3 ι3 N3 (n2.trans n3)
    | ret v h3 =>
     rw[eb] at K1
     exact λ u s3 σ3i σ3' H3 ι3 N3 n3 r=>K1 u s3 σ3i σ3' H3 ι3 N3 (n2.trans n3) r
    | exc m σ3 h3=>rw[eb] at K1;exact Zf K1
    | stuck=>rw[eb] at K1;exact Zf K1
end
section
variable {ce:Str->Option Addr}{k:Nat}{P:Pg}{n:Nat}{S:Sc}{X:Cx}
theorem Jiz {f:Stmt->S1}(hf:∀s,PS1 ce X s (f s)):∀(l:List Stmt),PS2 ce X l (sAll (l.map f))
 | []=>J6z
 | [a]=>J60 (hf a)
 | a::b::r=>J3o (hf a) (Jiz hf (b::r))
end
section
variable {ce:Str->Option Addr}{k:Nat}{P:Pg}{S:Sc}{X:Cx}{xi:Xi}{xf:Str->Str->Bool}{fr:Str->Bool}
theorem Jys (G:Good ce k P S X) (O:XiOk X.K X.mg xi xf) (hi:∀x,fr x=true->X.mg x=none) (a:Addr){f:Expr}{as:List Expr}{ks:List Keyword}{p:Pos}{m:Expr->E1}(hm:∀e,PEi ce (Jv X a) e (m e)):PEi ce (Jv X a) (.Call f as ks p) (J2k S xi fr f as ks p m):=by
 unfold J2k
 split
 ·rename_i x q b D q2
  split
  ·rename_i h
   simp only[Bool.and_eq_true,beq_iff_eq] at h
   obtain⟨⟨⟨⟨rfl,h0⟩,h1⟩,h2⟩,h3⟩:=h
   cases hx:xi D with
   | none=>exact Jb
   | some g =>
    obtain⟨v,hv,hg⟩:=O.1 D g hx
    obtain⟨gD,db,nn⟩:=G.gl h2
    have hc:ClsE (Jv X a) (.Name D q2) v:=by
     rcases hv with z|⟨z,w⟩
     ·exact Jqh (X:=Jv X a) gD z db
     ·exact Jgb (X:=Jv X a) gD z w nn db
    refine J5u (X:=Jv X a) (c:=v) hc ⟨nofun,nofun,nofun,nofun,nofun,nofun,nofun,nofun,λ c C b e hC=>?_⟩ (hm b) (G.gl h1).1 (hi _ h0) rfl (Jd h3) rfl rfl
    obtain⟨e1,e2,_⟩:=hg c C b e hC
    exact⟨e1,e2⟩
  ·exact Jb
 ·exact Jb
theorem J5k (a:Addr):∀(n:Nat) (w:Bool) (S:Sc) (X:Cx),Good ce k P S X->XiOk X.K X.mg xi xf->(∀x,fr x=true->X.mg x=none)->(w=true->Warm (Jv X a).A X.H₀)->∀e,PEi ce (Jv X a) e (hv xi xf fr n w S e)
 | 0,_,_,_,_,_,_,_,_=>Jb
 | n+1,w,S,X,G,O,hi,hw,e=>by
  have ihe:=J5k a n w S X G O hi hw
  have hu:(Jv X a).A.units+64<cLine:=G.room.units
  cases e with
  | Constant c j p =>
   cases c with
   | int i=>exact J5t
   | bool b=>exact i_bl
   | none=>exact J5z
   | str x=>exact J51
   | _=>exact Jb
  | Name x p =>
   show PEi ce (Jv X a) (.Name x p) (match S.vis x with|some i=>eVar i|none=>stE)
   cases hv:S.vis x with
   | some i =>
    obtain⟨h1,h2,h3,h4⟩:=G.vis hv
    exact J53 (X:=Jv X a) i h1 h2 h3 h4
   | none=>exact Jb
  | Tuple es j p =>
   show PEi ce (Jv X a) _ (if es.all Jk then eTup (aAll (es.map (hv xi xf fr n w S))) else stE)
   split
   ·rename_i hs
    exact J52 (Jjr hs ihe)
   ·exact Jb
  | Call f as ks p =>
   exact Jys G O hi a ihe
  | Attribute o f p =>
   show PEi ce (Jv X a) _ (if Jbw o then Jsr (xf f) f (hv xi xf fr n w S o) else stE)
   split
   ·rename_i h
    exact J5r (X:=Jv X a) (ihe o) (λ c C hc hC=>(O.2 f c C hc hC).2) (Jcm h)
   ·exact Jb
  | _=>exact Jb
theorem J5l (G:Good ce k P S X) (O:XiOk X.K X.mg xi xf) (hi:∀x,fr x=true->X.mg x=none) (a:Addr){w:Bool}(hw:w=true->Warm (Jv X a).A X.H₀):∀n st,PS1 ce (Jv X a) st (hx xi xf fr w S n st)
 | 0,_=>Jh
 | n+1,st=>by
  have ih:=J5l G O hi a hw n
  have ihe:=J5k a n w S X G O hi hw
  cases st with
  | Pass p=>exact J1j
  | Return v p =>
   cases v with
   | none=>exact Jh
   | some e=>exact J66 (ihe e)
  | Assign tgs e p =>
   match tgs with
   | []=>exact Jh
   | b::_::_=>cases b<;>exact Jh
   | [tg] =>
    cases tg with
    | Name x q =>
     show PS1 ce (Jv X a) _ (if Je8 e then(match S.sto x with|some i=>sSet i (hv xi xf fr n w S e)|none=>stS) else stS)
     split
     ·rename_i h
      cases hv:S.sto x with
      | none=>exact Jh
      | some i =>
       obtain⟨h1,h2,h3⟩:=G.sto hv
       exact J3t (X:=Jv X a) G.nodup (ihe e) h1 h2 (Jbl h) h3
     ·exact Jh
    | _=>exact Jh
  | _=>exact Jh
theorem Jvn (G:Good ce k P S X) (ho:S.own=true) (n:Nat) (a:Addr) (sl:Option Nat) (suite:List Stmt):PSH ce X a sl suite (J03 P S n sl suite):=by
 exact(Jiz (J5l G G.pg.xi G.pg.free a (λ z=>by cases z) n) _).h
theorem hTest (G:Good ce k P S X) (O:XiOk X.K X.mg xi xf){D:Str}{g:Str->Option Bool}{q:Pos}(hx:xi D=some g) (h2:S.gl D=true) (a:Addr) (c:Str) (C:Addr) (b:Bool) (pins:List (Addr×Obj)) (σ:L2.St) (H:Hp) (s:Shared) (Q:Bool->Shared->Prop) (E:Value->Shared->Prop) (hb:g c=some b)
  (hC:W.nsIn X.K mainGlobals c=some (some (.ref C))) (I:Inv (Jv X a) pins σ H s) (ho:∃oe,s.heap.get? a=some oe/\oe.cls=.ref C) (hq:Q b s):wpAny (model X.prog X.w) (Jv X a).A (eval (.Name D q) X.env) (λ v s₁=>wpAny (model X.prog X.w) (Jv X a).A (excMatches (.ref a) v) Q E s₁) E s:=by
 obtain⟨v,hv,hg⟩:=O.1 D g hx
 obtain⟨gD,db,nn⟩:=G.gl h2
 have hc:ClsE (Jv X a) (.Name D q) v:=by
  rcases hv with z|⟨z,w⟩
  ·exact Jqh (X:=Jv X a) gD z db
  ·exact Jgb (X:=Jv X a) gD z w nn db
 refine hc pins σ H s _ E I ?_
 obtain⟨_,_,e3⟩:=hg c C b hb hC
 obtain⟨oe,h1,h2⟩:=ho
 obtain⟨hh,gg,d,tk,os⟩:=s
 have LT:W.Looks (model X.prog X.w) hh (typeOf (.ref a)) (.ref C):=h2▸(W.Looks.ld h1).andThen .now
 exact(W.exm_one (I.kIn:X.K.In hh) LT e3).at hq
theorem Jvk (G:Good ce k P S X) (ho:S.own=true){n:Nat}:∀{l:List ExceptHandler}{ms:List HdI},hHds P S n l=some ms->HdsOk ce X l ms
 | [],ms,e=>by cases e;exact .nil
 | h::r,ms,e=>by
  unfold hHds at e
  cases e1:hHd P S n h with
  | none=>rw[e1] at e;cases e
  | some q =>
   cases e2:hHds P S n r with
   | none=>rw[e1,e2] at e;cases e
   | some l =>
    rw[e1,e2] at e
    cases e
    unfold hHd at e1
    split at e1
    ·rename_i D q2 nm b suite pos
     split at e1
     ·rename_i hD
      cases e3:P.xi D with
      | none=>rw[e3] at e1;cases e1
      | some g =>
       cases e4:hSl S nm with
       | none=>rw[e3,e4] at e1;cases e1
       | some sl =>
        rw[e3,e4] at e1
        cases e1
        refine .cons ⟨λ a c C b pins σ H s Q E hb hC I ho hq=>hTest G G.pg.xi e3 hD a c C b pins σ H s Q E hb hC I ho hq,?_,λ a=>Jvn G ho n a sl _⟩ (Jvk G ho e2)
        unfold hSl at e4
        cases nm with
        | none=>cases e4;exact .inl ⟨rfl,rfl⟩
        | some x =>
         dsimp only at e4
         split at e4
         ·rename_i hl
          obtain⟨i,hi',rfl⟩:=Option.map_eq_some_iff.mp e4
          refine .inr ⟨x,i,rfl,rfl,by rw[G.n];exact Jhr hi',?_⟩
          rw[G.kind]
          exact beq_iff_eq.mp hl
         ·cases e4
     ·cases e1
    ·cases e1
end
section
variable {ce:Str->Option Addr}{k:Nat}{P:Pg}{n:Nat}{S:Sc}{X:Cx}
theorem Js2 (G:Good ce k P S X){m:Expr->E1}(hm:∀e,PEi ce X e (m e)){x:Str}{e:Expr}{q q2 p:Pos}:PS1 ce X (.Raise (some (.Call (.Name x q) [e] [] q2)) none p) (Jqp P S m x e):=by
 unfold Jqp
 split
 ·rename_i f hf
  split
  ·rename_i h
   simp only[Bool.and_eq_true,decide_eq_true_eq] at h
   obtain⟨⟨h1,h2⟩,h3⟩:=h
   split
   ·rename_i d hd
    obtain⟨C,fa,fd,ps,c1,c2,c3,c4,c5,D⟩:=G.pg.xo x f hf
    obtain⟨gx,db,_⟩:=G.gl h1
    obtain⟨ds,hb,hl,qd⟩:=Jmw D hd
    have hz:ps.length<=sizeLine:=by
     have:=D.len
     rw[sizeLine_eq]
     omega
    refine Jzw G.calm (J2s c3 c4 D.ok c2 G.room gx c1 hb qd (Jjr (es:=[e]) (by simp[h2]) hm) (λ σ h xs h' z=>?_) hz db (Jd h2) rfl) λ c C' hc hC' h hK=>?_
    ·have:=Jgl _ σ h xs h' z
     rw[List.length_map] at this
     simp at this
     omega
    ·have e1:c=x:=beq_iff_eq.mp hc
     subst e1
     rw[c2] at hC'
     cases hC'
     exact c5 h hK
   ·exact Jh
  ·exact Jh
 ·exact Jh
theorem Jvm (G:Good ce k P S X){m:Expr->E1}(hm:∀e,PEi ce X e (m e)){exc cause:Option Expr}{p:Pos}:PS1 ce X (.Raise exc cause p) (Jvl P S m exc cause):=by
 unfold Jvl
 split
 ·rename_i x q e q2
  split
  ·rename_i h
   simp only[Bool.and_eq_true] at h
   obtain⟨⟨h1,h2⟩,h3⟩:=h
   obtain⟨C,c1,c2,c3⟩:=G.pg.rz x h2
   obtain⟨gx,db,_⟩:=G.gl h1
   exact J3s G.calm gx c1 c2 c3 (Jed (hm e) Jk1 (Jd h3)) db (Jd h3) rfl
  ·exact Js2 G hm
 ·exact Jh
theorem J2l (G:Good ce k P S X){m:Stmt->S1}(hm:∀s,PS1 ce X s (m s)){body:List Stmt}{hs:List ExceptHandler}{o f:List Stmt}{p:Pos}:PS1 ce X (.Try body hs o f p) (hTry P S n m body hs o f):=by
 unfold hTry
 split
 ·split
  ·rename_i h
   obtain⟨hk,hf⟩:=G.top h
   split
   ·rename_i ms e
    exact s_try G.nodup hk hf (Jiz hm body) (Jvk G h e)
   ·exact Jh
  ·exact Jh
 ·exact Jh
theorem J1z {tg:Expr}{env:Env}(h:Jk tg=true):(assignEach [tg] env).map (·.2)=[assign tg env]:=by
 cases tg<;>first|rfl|cases h
theorem Jz9 (G:Good ce k P S X) (i:Nat){e:Expr}{x:Str}{p q:Pos}(h:isLC e=true) (h1:X.N[i]?=some x) (h2:L2.Loc X.env.scope x) (h3:X.fn x=true∨X.env.scope.names.lookup x=some .local) :
  PS1 ce X (.Assign [.Name x q] e p) (sSet i (ev P n S e)):=by
 cases e with
 | ListComp elt gens sc cp =>
  cases hb:(X.env.blockKind==.function&&X.env.kindOf x==some .local&&q.line==cp.line&&!(sc.names.any λ (n,k)=>n==x&&(k==.local||k==.cell))) with
  | false =>
   refine J3t G.nodup ((Jno ce k P n).e S X _ G) h1 h2 ?_ h3
   show(pure (X.env.blockKind==.function&&X.env.kindOf x==some .local&&q.line==cp.line&&!(sc.names.any λ (n,k)=>n==x&&(k==.local||k==.cell))):Sem Bool)=pure false
   rw[hb]
  | true =>
   have hsw:swapsWith (.ListComp elt gens sc cp) (some (.Name x q)) p.line X.env=pure true:=by
    show(pure (X.env.blockKind==.function&&X.env.kindOf x==some .local&&q.line==cp.line&&!(sc.names.any λ (n,k)=>n==x&&(k==.local||k==.cell))):Sem Bool)=pure true
    rw[hb]
   have dead:∀m:E1,(∀σ h,m σ h=.stuck)->PS1 ce X (.Assign [.Name x q] (.ListComp elt gens sc cp) p) (sSet i m):=λ m hm=>by
    intro pins s σ H ι σi h Q E N K
    unfold sSet at K
    rw[hm] at K
    exact Zf K
   cases n with
   | zero=>exact dead _ λ _ _=>rfl
   | succ n =>
    have ih:=Jno ce k P n
    match gens,hsw with
    | [⟨tg,iter,ifs,as⟩],hsw =>
     show PS1 ce X _ (sSet i (if as=0/\Jtm iter=true/\Jd2 S.N (Jm3 sc) (Ji4 sc) (jsOf S sc) S.fake sc=true then
      Ju3 ifs (evT P n (S.comp sc)) (λ mt=>Jx (evI P n S tg iter) (Jm3 sc).length (jsOf S sc) (tgt P n (S.comp sc) tg) mt (ev P n (S.comp sc) elt)) else stE))
     split
     ·rename_i hs
      obtain⟨rfl,hi,ok⟩:=hs
      have Gc:=G.comp ok
      have ok':=ok
      rw[<- Joa G] at ok'
      match ifs,hsw with
      | [],hsw=>exact J1i G.calm (ih.i S X tg iter G) (λ C s H fp=>ih.g _ _ tg (Gc C s H fp)) (λ C s H fp=>J1n) (λ C s H fp=>ih.e _ _ elt (Gc C s H fp)) ok' G.n rfl (Ja8 hi) G.nodup h1 h2 h3 hsw
      | [c],hsw=>exact J1i G.calm (ih.i S X tg iter G) (λ C s H fp=>ih.g _ _ tg (Gc C s H fp)) (λ C s H fp=>J1o (ih.t _ _ c (Gc C s H fp))) (λ C s H fp=>ih.e _ _ elt (Gc C s H fp)) ok' G.n rfl (Ja8 hi) G.nodup h1 h2 h3 hsw
      | _::_::_,_=>exact dead _ λ _ _=>rfl
     ·exact dead _ λ _ _=>rfl
    | [],_=>exact dead _ λ _ _=>rfl
    | ⟨_,_,_,_⟩::_::_,_=>exact dead _ λ _ _=>rfl
 | _=>cases h
theorem Jsg (ce:Str->Option Addr) (k:Nat) (P:Pg):∀(n:Nat) (S:Sc) (X:Cx) (st:Stmt),Good ce k P S X->PS1 ce X st (ex P n S st)
 | 0,_,_,_,_=>Jh
 | n+1,S,X,st,G=>by
  have ih:=λ st=>Jsg ce k P n S X st G
  have E:=Jno ce k P n
  have ihe:=λ e=>E.e S X e G
  cases st with
  | Pass p=>exact J1j
  | Break p=>exact J3r
  | Continue p=>exact J63
  | Expr e p =>
   show PS1 ce X _ (if Je8 e then Jci (ev P n S e) else stS)
   split
   ·rename_i h
    exact J64 (ihe e) (Jbl h)
   ·exact Jh
  | Return v p =>
   cases v with
   | none=>exact J67
   | some e=>exact J66 (ihe e)
  | If c a b p=>exact s_if (E.t S X c G) (Jiz ih a) (Jiz ih b)
  | Raise exc cause p=>exact Jvm G ihe
  | Try body hs o f p=>exact J2l G ih
  | While c a o p =>
   cases o with
   | nil=>exact J3u (E.t S X c G) (Jiz ih a)
   | cons _ _=>exact Jh
  | For tg it a o p =>
   cases o with
   | nil =>
    show PS1 ce X _ (if Jtm it&&S.own then sFor (evI P n S tg it) (tgt P n S tg) (sAll (a.map (ex P n S))) else stS)
    split
    ·rename_i h
     rw[Bool.and_eq_true] at h
     obtain⟨hk,hf⟩:=G.top h.2
     exact s_for G.calm hk hf (E.i S X tg it G) (E.g S X tg G) (Jiz ih a) (Ja8 h.1)
    ·exact Jh
   | cons _ _=>exact Jh
  | Assign tgs e p =>
   match tgs with
   | []=>exact Jh
   | a::_::_=>cases a<;>exact Jh
   | [tg] =>
    have gen:PS1 ce X (.Assign [tg] e p) (if Je8 e&&((Jy2 tg&&J27 e)||Jy1 tg) then sAsg (ev P n S e) (tgt P n S tg) else stS):=by
     split
     ·rename_i h
      simp only[Bool.and_eq_true,Bool.or_eq_true] at h
      have hst:Jk tg=true:=by
       rcases h.2 with q|q
       ·cases tg<;>first|rfl|(simp[Jy2] at q)
       ·cases tg<;>first|rfl|(simp[Jy1] at q)
      refine s_asg (ihe e) (E.g S X tg G) (Jbl h.1) ?_ (J1z hst)
      rcases h.2 with q|q
      ·cases tg with
       | Tuple es j pp =>
        have q2:=q.2
        cases e<;>first|rfl|(simp[J27] at q2)
       | _=>simp[Jy2] at q
      ·cases tg with
       | Subscript=>cases e<;>rfl
       | _=>simp[Jy1] at q
     ·exact Jh
    cases tg with
    | Name x q =>
     show PS1 ce X _ (if Je8 e||isLC e then(match S.sto x with|some i=>sSet i (ev P n S e)|none=>stS) else stS)
     split
     ·rename_i h
      cases hv:S.sto x with
      | none=>exact Jh
      | some i =>
       obtain⟨h1,h2,h3⟩:=G.sto hv
       rcases Bool.or_eq_true _ _▸h with h|h
       ·exact J3t G.nodup (ihe e) h1 h2 (Jbl h) h3
       ·exact Jz9 G i h h1 h2 h3
     ·exact Jh
    | Attribute o f q =>
     show PS1 ce X _ (if Je8 e then J3p P f (ev P n S o) (ev P n S e) else stS)
     split
     ·rename_i h
      unfold J3p
      split
      ·rename_i hf
       exact s_fld (ihe o) (ihe e) (G.pg.fld f hf) (Jbl h)
      ·exact J65 (ihe o) (ihe e) (λ c C hc hC=>(G.pg.xi.2 f c C hc hC).1) (Jbl h)
     ·exact Jh
    | _=>exact gen
  | _=>exact Jh
end
structure D4 where
 st:Stmt
 qual:Str
 ps:List Str
 N:List Str
 dvs:List IV
noncomputable def D4.sc (d:D4):Sc:=⟨d.N,(Jj d.st).names,true,d.qual⟩
structure Tab where
 fns:List (Str×D4)
 clss:List (Str×D4)
 meths:List (Str×List (Str×D4))
 cons:List (Str×IV)
 isas:List (Str×List Str)
 flds:List Str
 frees:List Str
 tabs:List Str:=[]
 razs:List Str:=[]
 xis:List (Str×List (Str×Bool)):=[]
 bass:List Str:=[]
 wrs:List (Str×D4):=[]
 nes:List Str:=[]
 xms:List (Str×D4):=[]
 xfs:List (Str×List Str):=[]
 xbs:List Str:=[]
noncomputable def memS (x:Str):List Str->Bool
 | []=>false
 | y::r=>y==x||memS x r
noncomputable def Jby {α:Type}(x:Str):List (Str×α)->Option α
 | []=>none
 | (y,a)::r=>if y==x then some a else Jby x r
noncomputable def xfOf (T:Tab) (f c:Str):Bool:=match Jby f T.xfs with|some l=>memS c l|none=>false
noncomputable def mkPg (T:Tab) (r:D4->List IV->IH->Res IV):Pg where
 fn:=λ x=>(Jby x T.fns).map λ d=>⟨d.ps.length,d.dvs,r d⟩
 cls:=λ x=>(Jby x T.clss).map λ d=>⟨d.ps.length,d.dvs,r d⟩
 meth:=λ c m=>((Jby c T.meths).bind (Jby m)).map λ d=>⟨d.ps.length,d.dvs,r d⟩
 con:=λ x=>Jby x T.cons
 isa:=λ x=>(Jby x T.isas).map λ l c=>memS c l
 fld:=λ x=>memS x T.flds
 free:=λ x=>memS x T.frees
 tabs:=λ q=>ixOf q T.tabs
 rz:=λ x=>memS x T.razs
 xi:=λ D=>(Jby D T.xis).map λ l c=>Jby c l
 bas:=λ x=>memS x T.bass
 wr:=λ _=>none
 ne:=λ x=>memS x T.nes
 xo:=λ x=>(Jby x T.xms).map λ d=>⟨d.ps.length,d.dvs,r d⟩
 xf:=xfOf T
 xb:=λ x=>memS x T.xbs
noncomputable def run (T:Tab):Nat->D4->List IV->IH->Res IV
 | 0,_=>λ _ _=>.stuck
 | k+1,d=>fnI d.N.length (sAll ((J4 d.st).map (ex (mkPg T (run T k)) 40 d.sc)))
theorem Jr {α:Type}{x:Str}{a:α}:∀{l:List (Str×α)},Jby x l=some a->(x,a)∈l
 | [],h=>by cases h
 | (y,b)::r,h=>by
  unfold Jby at h
  split at h
  ·rename_i e
   cases h
   rw[beq_iff_eq.mp e]
   exact List.mem_cons_self
  ·exact List.mem_cons_of_mem _ (Jr h)
theorem Jb7 {x:Str}:∀{l:List Str},memS x l=true->x∈l
 | [],h=>by cases h
 | y::r,h=>by
  unfold memS at h
  rcases Bool.or_eq_true _ _▸h with e|e
  ·rw[beq_iff_eq.mp e]
   exact List.mem_cons_self
  ·exact List.mem_cons_of_mem _ (Jb7 e)
structure DefOk (K:W.Frag) (x:Str) (d:D4) (fa:Addr) (fd:FuncData):Prop where
 fun_:∃dV,FunD K x d.qual d.st fa fd dV
 sc:FnScope d.N d.ps (Jj d.st)
 dv:∀j,j<=d.dvs.length->∃ds,Jd6 K fd d.ps ds/\ds.length=d.dvs.length-j/\∃vs,Vals vs ds/\∀ι H,RVs K ι H (d.dvs.drop j) vs
structure TabOk (ce:Str->Option Addr) (T:Tab) (K:W.Frag) (mg:Str->Option Value):Prop where
 fn:∀x d,(x,d)∈T.fns->∃fa fd,mg x=some (.ref fa)/\DefOk K x d fa fd
 cls:∀x d,(x,d)∈T.clss->∃C fa fd,mg x=some (.ref C)/\ce x=some C/\Mk K C fa/\DefOk K "__init__" d fa fd
 meth:∀c l m d,(c,l)∈T.meths->(m,d)∈l->∃C fa fd,ce c=some C/\Cls K C/\Meth K C m fa/\DefOk K m d fa fd
 con:∀x v,(x,v)∈T.cons->∃u y,mg x=some u/\RelV y u/\∀ι H,RV K ι H v y
 isa:∀D l,(D,l)∈T.isas->∃c,mg D=some c/\IsOk ce K c λ t=>match t with|.ins c=>some (memS c l)|.exc _=>none|_=>some false
 fld:∀f,f∈T.flds->Jx7 ce K f
 free:∀x,x∈T.frees->mg x=none
 rz:∀x,x∈T.razs->∃C,mg x=some (.ref C)/\W.nsIn K mainGlobals x=some (some (.ref C))/\XCls K C
 xi:∀D l,(D,l)∈T.xis->∃v,(mg D=some v∨(mg D=none/\bootBuiltins D=some v))/\∀c b,(c,b)∈l->∃C,W.nsIn K mainGlobals c=some (some (.ref C))/\ExI K C/\W.kitOne K (.ref C) v=some b/\W.exmOne K (.ref C) v=some b
 bas:∀x,x∈T.bass->∃C,mg x=some (.ref C)/\BasK K C
 wr:∀x d,(x,d)∈T.wrs->∃fa fd p,mg x=some (.ref fa)/\DefOk K x d fa fd/\d.ps=[p]/\d.dvs=[]
 ne:∀c,c∈T.nes->∃C,ce c=some C/\neIn K C=true/\ClsI K C/\W.kitOne K (.ref C) (.type "list")=some false
 xo:∀x d,(x,d)∈T.xms->∃C fa fd,mg x=some (.ref C)/\W.nsIn K mainGlobals x=some (some (.ref C))/\Jea K C fa=true/\W.keepIn K (.ref C)=true/\(∀h:Heap,K.In h->ExC h C)/\DefOk K "__init__" d fa fd
 xf:∀f l c,(f,l)∈T.xfs->c∈l->∃C,W.nsIn K mainGlobals c=some (some (.ref C))/\StoX K C f/\ExI K C/\W.findIn K (.ref C) f=some none
 xb:∀x,x∈T.xbs->∃C,mg x=some (.ref C)/\BasX K C
section
variable {ce:Str->Option Addr}{T:Tab}{prog:Program}{w:World}{K:W.Frag}{mg:Str->Option Value}{base:Heap}
theorem Jss {k:Nat}{fa:Addr}{fd:FuncData}{ps:List Str}:FnOk prog w K mg base (CXI prog w) k fa fd ps (spI ce K ps λ _ _=>.stuck) :=
 ⟨λ _ _ _ _ h=>h.1,λ _ _ _ _ _ _ _ _ _ _ _ _ _ h=>by obtain⟨_,_,_,_,_,_,z⟩:=h;exact z.elim⟩
theorem xi_of (O:TabOk ce T K mg):XiOk K mg (λ D=>(Jby D T.xis).map λ l c=>Jby c l) (xfOf T):=by
 refine⟨λ D g h=>?_,λ f c C h hC=>?_⟩
 rotate_left
 ·have h':(match Jby f T.xfs with|some l=>memS c l|none=>false)=true:=h
  cases hl:Jby f T.xfs with
  | none=>rw[hl] at h';cases h'
  | some l =>
   rw[hl] at h'
   obtain⟨C',q,r⟩:=O.xf f l c (Jr hl) (Jb7 h')
   rw[hC] at q
   cases q
   exact r
 obtain⟨l,hl,rfl⟩:=Option.map_eq_some_iff.mp h
 obtain⟨v,hv,hc⟩:=O.xi D l (Jr hl)
 refine⟨v,hv,λ c C b e hC=>?_⟩
 obtain⟨C',h1,h2⟩:=hc c b (Jr e)
 rw[hC] at h1
 cases h1
 exact h2
theorem pg_of (O:TabOk ce T K mg) (B:T.tabs≠[]->Jjq mg base) (k:Nat) (hD:∀x d fa fd,DefOk K x d fa fd->FnD ce prog w K mg base (4*k) ⟨d.ps.length,d.dvs,run T k d⟩ fa fd d.ps):PgOk ce (4*k) (mkPg T (run T k)) prog w K mg base:=by
 refine⟨λ x f h=>?_,λ x f h=>?_,λ c m f h=>?_,λ x v h=>?_,λ D g h=>?_,λ f h=>?_,λ x h=>?_,λ q j h=>B λ e=>?_,λ x h=>O.rz x (Jb7 h),xi_of O,λ x h=>O.bas x (Jb7 h),λ x r h=>trivial,λ c h=>O.ne c (Jb7 h),λ x f h=>?_,λ x h=>O.xb x (Jb7 h)⟩
 ·obtain⟨d,hd,rfl⟩:=Option.map_eq_some_iff.mp h
  obtain⟨fa,fd,hm,ok⟩:=O.fn x d (Jr hd)
  obtain⟨dV,F⟩:=ok.fun_
  exact⟨fa,fd,d.ps,hm,F.kp,hD x d fa fd ok⟩
 ·obtain⟨d,hd,rfl⟩:=Option.map_eq_some_iff.mp h
  obtain⟨C,fa,fd,hm,hC,M,ok⟩:=O.cls x d (Jr hd)
  exact⟨C,fa,fd,d.ps,hm,hC,M,hD _ d fa fd ok⟩
 ·obtain⟨d,hd,rfl⟩:=Option.map_eq_some_iff.mp h
  obtain⟨l,hl,hd⟩:=Option.bind_eq_some_iff.mp hd
  obtain⟨C,fa,fd,hC,cl,me,ok⟩:=O.meth c l m d (Jr hl) (Jr hd)
  exact⟨C,fa,fd,d.ps,hC,cl,me,hD m d fa fd ok⟩
 ·exact O.con x v (Jr h)
 ·obtain⟨l,hl,rfl⟩:=Option.map_eq_some_iff.mp h
  exact O.isa D l (Jr hl)
 ·exact O.fld f (Jb7 h)
 ·exact O.free x (Jb7 h)
 ·have h':ixOf q T.tabs=some j:=h
  rw[e] at h'
  cases h'
 ·obtain⟨d,hd,rfl⟩:=Option.map_eq_some_iff.mp h
  obtain⟨C,fa,fd,h1,h2,h3,h4,h5,ok⟩:=O.xo x d (Jr hd)
  exact⟨C,fa,fd,d.ps,h1,h2,h3,h4,h5,hD _ d fa fd ok⟩
theorem J0y (O:TabOk ce T K mg) (B:T.tabs≠[]->Jjq mg base):∀k x d fa fd,DefOk K x d fa fd->FnD ce prog w K mg base (4*k) ⟨d.ps.length,d.dvs,run T k d⟩ fa fd d.ps
 | 0,x,d,fa,fd,ok=>⟨rfl,Jss,ok.dv⟩
 | k+1,x,d,fa,fd,ok=>by
  refine⟨rfl,?_,ok.dv⟩
  obtain⟨dV,F⟩:=ok.fun_
  show FnOk prog w K mg base (CXI prog w) (4*k+3+1) fa fd d.ps (spI ce K d.ps (run T (k+1) d))
  refine F.fn (m:=sAll ((J4 d.st).map (ex (mkPg T (run T k)) 40 d.sc))) ok.sc λ cdv A outer s H E hcd hr=>?_
  refine Jiz (λ st=>Jsg ce (4*k) (mkPg T (run T k)) 40 d.sc _ st ?_) _
  exact⟨rfl,rfl,ok.sc.nd,ok.sc.kind,rfl,hr.mono (by omega),λ _ _=>rfl,pg_of O B k (J0y O B k),λ _=>⟨hcd,rfl⟩,λ _=>hr,λ _=>⟨rfl,rfl⟩⟩
end
inductive All {α:Type}(p:α->Prop):List α->Prop
 | nil:All p []
 | cons {a:α}{l:List α}:p a->All p l->All p (a::l)
theorem All.mem {α:Type}{p:α->Prop}:∀{l:List α}{a:α},All p l->a∈l->p a
 | _,_,.nil,h=>by cases h
 | _,_,.cons h r,m=>by
  rcases List.mem_cons.mp m with rfl|m
  ·exact h
  ·exact r.mem m
noncomputable def J0p (l:List Str):Ty->Option Bool:=λ t=>match t with|.ins c=>some (memS c l)|.exc _=>none|_=>some false
section
variable {T:Tab}{K:W.Frag}{mg:Str->Option Value}
noncomputable def ceOf (ces:List (Str×Addr)):Str->Option Addr:=λ c=>Jby c ces
noncomputable def kits (K:W.Frag) (v:Value) (l:List (Addr×Bool)):Bool:=l.all λ p=>W.kitOne K (.ref p.1) v==some p.2&&W.exmOne K (.ref p.1) v==some p.2
theorem Jx5 {v:Value}:∀{cs:List (Str×Addr)}{bs:List Bool},All (λ p:Str×Addr=>W.nsIn K mainGlobals p.1=some (some (.ref p.2))/\ExI K p.2) cs->cs.length=bs.length->kits K v ((cs.map (·.2)).zip bs)=true ->
  All (λ p:Str×Bool=>∃C,W.nsIn K mainGlobals p.1=some (some (.ref C))/\ExI K C/\W.kitOne K (.ref C) v=some p.2/\W.exmOne K (.ref C) v=some p.2) ((cs.map (·.1)).zip bs)
 | [],[],_,_,_=>.nil
 | (_,C)::_,_::_,.cons h r,e,q=>by
  simp only[kits,List.map_cons,List.zip_cons_cons,List.all_cons,Bool.and_eq_true,beq_iff_eq] at q
  exact .cons ⟨C,h.1,h.2,q.1.1,q.1.2⟩ (Jx5 r (by simpa using e) (by simpa only[kits] using q.2))
 | [],_::_,_,e,_=>by cases e
 | _::_,[],_,e,_=>by cases e
theorem J7h (ces:List (Str×Addr)) (fn:All (λ p:Str×D4=>∃fa fd,mg p.1=some (.ref fa)/\DefOk K p.1 p.2 fa fd) T.fns)
  (cls:All (λ p:Str×D4=>∃C fa fd,mg p.1=some (.ref C)/\ceOf ces p.1=some C/\Mk K C fa/\DefOk K "__init__" p.2 fa fd) T.clss)
  (meth:All (λ q:Str×List (Str×D4)=>∃C,ceOf ces q.1=some C/\All (λ p:Str×D4=>∃fa fd,Meth K C p.1 fa/\DefOk K p.1 p.2 fa fd) q.2) T.meths)
  (con:All (λ p:Str×IV=>∃u y,mg p.1=some u/\RelV y u/\∀ι H,RV K ι H p.2 y) T.cons)
  (cl:All (λ p:Str×Addr=>ClsI K p.2/\All (λ f=>Jgk K p.2 f) T.flds) ces)
  (isa:All (λ q:Str×List Str=>∃D,mg q.1=some (.ref D)/\W.kitOne K (.type "NoneType") (.ref D)=some false/\W.kitOne K (.type "bool") (.ref D)=some false/\W.kitOne K (.type "int") (.ref D)=some false/\W.kitOne K (.type "str") (.ref D)=some false /\
   W.kitOne K (.type "list") (.ref D)=some false/\W.kitOne K (.type "tuple") (.ref D)=some false/\W.kitOne K (.type "dict") (.ref D)=some false/\All (λ p:Str×Addr=>W.kitOne K (.ref p.2) (.ref D)=some (memS p.1 q.2)) ces) T.isas)
  (free:All (λ x=>mg x=none) T.frees)
  (raz:All (λ x=>∃C,mg x=some (.ref C)/\W.nsIn K mainGlobals x=some (some (.ref C))/\XCls K C) T.razs:=by exact .nil)
  (xis:All (λ q:Str×List (Str×Bool)=>∃v,(mg q.1=some v∨(mg q.1=none/\bootBuiltins q.1=some v))/\All (λ p:Str×Bool=>∃C,W.nsIn K mainGlobals p.1=some (some (.ref C))/\ExI K C/\W.kitOne K (.ref C) v=some p.2/\W.exmOne K (.ref C) v=some p.2) q.2) T.xis:=by exact .nil)
  (bas:All (λ x=>∃C,mg x=some (.ref C)/\BasK K C) T.bass:=by exact .nil)
  (wr:All (λ q:Str×D4=>(∃fa fd,mg q.1=some (.ref fa)/\DefOk K q.1 q.2 fa fd)/\∃p,q.2.ps=[p]/\q.2.dvs=[]) T.wrs:=by exact .nil)
  (nes:All (λ c=>∃C,ceOf ces c=some C/\neIn K C=true/\W.kitOne K (.ref C) (.type "list")=some false) T.nes:=by exact .nil)
  (xms:All (λ p:Str×D4=>∃C fa fd,mg p.1=some (.ref C)/\W.nsIn K mainGlobals p.1=some (some (.ref C))/\Jea K C fa=true/\W.keepIn K (.ref C)=true/\(∀h:Heap,K.In h->ExC h C)/\DefOk K "__init__" p.2 fa fd) T.xms:=by exact .nil)
  (xfs:All (λ q:Str×List Str=>All (λ c=>∃C,W.nsIn K mainGlobals c=some (some (.ref C))/\StoX K C q.1/\ExI K C/\W.findIn K (.ref C) q.1=some none) q.2) T.xfs:=by exact .nil)
  (xbs:All (λ x=>∃C,mg x=some (.ref C)/\BasX K C) T.xbs:=by exact .nil):TabOk (ceOf ces) T K mg:=by
 refine⟨λ x d h=>fn.mem h,λ x d h=>cls.mem h,λ c l m d hc hm=>?_,λ x v h=>con.mem h,λ D l h=>?_,λ f hf=>?_,λ x h=>free.mem h,λ x h=>raz.mem h,λ D l h=>?_,λ x h=>bas.mem h,λ x d h=>let ⟨⟨fa,fd,a,b⟩,p,c,e⟩:=wr.mem h;⟨fa,fd,p,a,b,c,e⟩,λ c h=>let ⟨C,p,q,r⟩:=nes.mem h;⟨C,p,q,(cl.mem (Jr p)).1,r⟩,λ x d h=>xms.mem h,λ f l c h hc=>(xfs.mem h).mem hc,λ x h=>xbs.mem h⟩
 ·obtain⟨C,hC,hl⟩:=meth.mem hc
  obtain⟨fa,fd,me,ok⟩:=hl.mem hm
  exact⟨C,fa,fd,hC,(cl.mem (Jr hC)).1.cl,me,ok⟩
 ·obtain⟨C,hC,h1,h2,h3,h4,h5,h6,h7,h8⟩:=isa.mem h
  refine⟨_,hC,⟨λ b e=>?_,λ b e=>?_,λ b e=>?_,λ b e=>?_,λ b e=>?_,λ b e=>?_,λ b e=>?_,λ k C' b e hk=>?_,(λ k C' b e=>by cases e)⟩⟩
  ·cases e;exact h1
  ·cases e;exact h2
  ·cases e;exact h3
  ·cases e;exact h4
  ·cases e;exact h5
  ·cases e;exact h6
  ·cases e;exact h7
  ·cases e
   exact⟨(cl.mem (Jr hk)).1,h8.mem (Jr hk)⟩
 ·intro c C e
  obtain⟨h1,h2⟩:=cl.mem (Jr e)
  exact⟨h1.cl,h2.mem hf⟩
 ·obtain⟨v,hv,hl⟩:=xis.mem h
  exact⟨v,hv,λ c b hc=>hl.mem hc⟩
theorem len1 {α:Type}{P:List α->Prop}(F0:∀a,P [a]):∀us:List α,us.length=1->P us
 | [a],_=>F0 a
theorem len2 {α:Type}{P:List α->Prop}(F0:∀a b,P [a,b]):∀us:List α,us.length=2->P us
 | [a,b],_=>F0 a b
theorem len3 {α:Type}{P:List α->Prop}(F0:∀a b c,P [a,b,c]):∀us:List α,us.length=3->P us
 | [a,b,c],_=>F0 a b c
theorem len4 {α:Type}{P:List α->Prop}(F0:∀a b c d,P [a,b,c,d]):∀us:List α,us.length=4->P us
 | [a,b,c,d],_=>F0 a b c d
theorem len5 {α:Type}{P:List α->Prop}(F0:∀a b c d e,P [a,b,c,d,e]):∀us:List α,us.length=5->P us
 | [a,b,c,d,e],_=>F0 a b c d e
theorem len6 {α:Type}{P:List α->Prop}(F0:∀a b c d e f,P [a,b,c,d,e,f]):∀us:List α,us.length=6->P us
 | [a,b,c,d,e,f],_=>F0 a b c d e f
theorem len7 {α:Type}{P:List α->Prop}(F0:∀a b c d e f g,P [a,b,c,d,e,f,g]):∀us:List α,us.length=7->P us
 | [a,b,c,d,e,f,g],_=>F0 a b c d e f g
theorem upto3:∀j:Nat,j<=3->j=0∨j=1∨j=2∨j=3:=by omega
theorem J0x {x:Str}{d:D4}{fa:Addr}{oc kV doc pm cdv ct:Value}{od an:Option Addr}{osl:Array (Option Value)}(lk:K.lookup fa=some ⟨oc,od,.func (W.fnOf x d.qual (Jam d.st) (J4 d.st) (Jj d.st) .none kV doc pm an cdv ct),osl⟩)
  (hc:W.codeIn K cdv d.qual=true) (hk:W.keepIn K (.ref fa)=true) (sc:FnScope d.N d.ps (Jj d.st)) (hd:d.dvs=[])
  (hb:∀us:List Value,us.length=d.ps.length->bindArgs (W.fnOf x d.qual (Jam d.st) (J4 d.st) (Jj d.st) .none kV doc pm an cdv ct) ⟨us,[]⟩=pure (d.ps.zip us)) :
  DefOk K x d fa (W.fnOf x d.qual (Jam d.st) (J4 d.st) (Jj d.st) .none kV doc pm an cdv ct) :=
 ⟨⟨_,⟨oc,od,kV,doc,pm,an,cdv,ct,osl,rfl,lk,hc⟩,hk⟩,sc,λ j hj=>⟨[],.all hb,by rw[hd];simp,[],.nil,by rw[hd];intro _ _;cases j<;>exact rfl⟩⟩
noncomputable def scOk (N P:List Str) (sc:Scope):Bool :=
 sc.kind==.function&&!sc.isCoroutine&&!sc.isGenerator&&decide N.Nodup&&decide (N.take P.length=P)&&P.all (λ x=>sc.names.lookup x==some .local||sc.names.lookup x==some .cell)&&sc.names.all (λ y=>!(y.2==.free))
theorem scOk.of {N P:List Str}{sc:Scope}(h:scOk N P sc=true):FnScope N P sc:=by
 simp only[scOk,Bool.and_eq_true,beq_iff_eq,Bool.not_eq_true',decide_eq_true_eq,List.all_eq_true,Bool.or_eq_true,beq_eq_false_iff_ne] at h
 obtain⟨⟨⟨⟨⟨⟨h1,h2⟩,h3⟩,h4⟩,h5⟩,h6⟩,h7⟩:=h
 exact⟨h1,h2,h3,h4,h5,h6,h7⟩
noncomputable def FnB (x q:Str) (d:D4):Prop:=FnScope d.N d.ps (Jj d.st)/\d.dvs=[]/\d.qual=q/\∀(kV doc pm:Value) (an:Option Addr) (cdv ct:Value) (us:List Value),us.length=d.ps.length->bindArgs (W.fnOf x d.qual (Jam d.st) (J4 d.st) (Jj d.st) .none kV doc pm an cdv ct) ⟨us,[]⟩=pure (d.ps.zip us)
section
variable {x q:Str}{d:D4}{h:Heap}{a C:Addr}{oc kV dc pm cd ct:Value}{od an:Option Addr}{sl:Array (Option Value)}
theorem Jsa (B:FnB x q d) (hl:K.lookup a=some ⟨oc,od,.func (W.fnOf x q (Jam d.st) (J4 d.st) (Jj d.st) .none kV dc pm an cd ct),sl⟩) (hc:W.codeIn K cd q=true) (hk:W.keepIn K (.ref a)=true):∃fd,DefOk K x d a fd:=by
 obtain⟨s,v,rfl,b⟩:=B
 exact⟨_,J0x hl hc hk s v (b _ _ _ _ _ _)⟩
theorem Jac (X:K.In h) (G:h.Ns mainGlobals mg) (B:FnB x q d) (ha:W.nsIn K mainGlobals x=some (some (.ref a))) (hl:K.lookup a=some ⟨oc,od,.func (W.fnOf x q (Jam d.st) (J4 d.st) (Jj d.st) .none kV dc pm an cd ct),sl⟩) (hc:W.codeIn K cd q=true) (hk:W.keepIn K (.ref a)=true):∃fa fd,mg x=some (.ref fa)/\DefOk K x d fa fd :=
 let ⟨fd,D⟩:=Jsa B hl hc hk
 ⟨a,fd,W.mg_of X G ha,D⟩
theorem Jwg (B:FnB x q d) (ha:W.findIn K (.ref C) x=some (some (.ref a))) (hi:W.isFn K (.ref a)=true) (hl:K.lookup a=some ⟨oc,od,.func (W.fnOf x q (Jam d.st) (J4 d.st) (Jj d.st) .none kV dc pm an cd ct),sl⟩) (hc:W.codeIn K cd q=true) (hk:W.keepIn K (.ref a)=true):∃fa fd,Meth K C x fa/\DefOk K x d fa fd :=
 let ⟨fd,D⟩:=Jsa B hl hc hk
 ⟨a,fd,⟨ha,hi,hk⟩,D⟩
theorem mk_in (B:FnB "__init__" q d) (ha:W.findIn K (.ref C) "__init__"=some (some (.ref a))) (hi:W.isFn K (.ref a)=true) (hl:K.lookup a=some ⟨oc,od,.func (W.fnOf "__init__" q (Jam d.st) (J4 d.st) (Jj d.st) .none kV dc pm an cd ct),sl⟩) (hc:W.codeIn K cd q=true) (hk:W.keepIn K (.ref a)=true) (hm:W.makesIn K C=true) (hq:W.keepIn K (.ref C)=true):∃fa fd,Mk K C fa/\DefOk K "__init__" d fa fd :=
 let ⟨fd,D⟩:=Jsa B hl hc hk
 ⟨a,fd,⟨hm,ha,hi,hq⟩,D⟩
end
theorem J5f {C f:Addr}(x:Jea K C f=true) (h:Heap) (I:K.In h):ExC h C:=by
 obtain⟨bm,N,nm,q,bs,hdct,sn,sub,ab,col,dd,k0,k1,k2,k3,k5,mN,oI,h1,_,_,T,_⟩:=Jea.obj x I
 exact⟨nm,q,N,bs,bm,hdct,sn,sub,ab,col,dd,k0,k1,k2,k3,k5,_,h1,T.hasType (by decide)⟩
theorem J6h {q:Str}{d:D4}{a C:Addr}{oc kV dc pm cd ct:Value}{od an:Option Addr}{sl:Array (Option Value)}(B:FnB "__init__" q d) (_:W.findIn K (.ref C) "__init__"=some (some (.ref a))) (hl:K.lookup a=some ⟨oc,od,.func (W.fnOf "__init__" q (Jam d.st) (J4 d.st) (Jj d.st) .none kV dc pm an cd ct),sl⟩) (hc:W.codeIn K cd q=true) (hk:W.keepIn K (.ref a)=true) (hx:Jea K C a=true) (hq:W.keepIn K (.ref C)=true):∃fa fd,Jea K C fa=true/\W.keepIn K (.ref C)=true/\DefOk K "__init__" d fa fd :=
 let ⟨fd,D⟩:=Jsa B hl hc hk
 ⟨a,fd,hx,hq,D⟩
theorem J2x {ce:Str->Option Addr}{prog:Program}{w:World}{base:Heap}(O:TabOk ce T K mg) (B:T.tabs≠[]->Jjq mg base) (k:Nat){d:D4}{fa:Addr}{fd:FuncData}{x:Str}(hp:d.ps=[x]) (ok:DefOk K "law" d fa fd) :
  FnOk prog w K mg base (CXI prog w) (4*k) fa fd [x] (Jub K x (run T k d)):=by
 have:=(J0y (prog:=prog) (w:=w) (base:=base) O B k "law" d fa fd ok).ok
 rw[hp] at this
 exact Jym this
end
noncomputable def WR {α:Type}(r:Res α) (Q:α->IH->Prop):Prop:=match r with
 | .ok a h=>Q a h
 | _=>False
noncomputable def WS (r:SRes) (N:ISt->IH->Prop) (R:IV->IH->Prop):Prop:=match r with
 | .next σ h=>N σ h
 | .ret v h=>R v h
 | _=>False
section
variable {α β:Type}{σ:ISt}{h:IH}{Q:α->IH->Prop}{N:ISt->IH->Prop}{R:IV->IH->Prop}
theorem WR.mono {r:Res α}{P Q:α->IH->Prop}(x:WR r P) (f:∀a h,P a h->Q a h):WR r Q:=by
 cases r with
 | ok a h=>exact f a h x
 | exc n h=>exact x
 | stuck=>exact x
theorem WR.of_eq {r:Res α}{a:α}{h:IH}(e:r=.ok a h) (q:Q a h):WR r Q:=by rw[e];exact q
theorem WR.eq {r:Res α}(x:WR r Q):∃a h,r=.ok a h/\Q a h:=by
 cases r with
 | ok a h=>exact⟨a,h,rfl,x⟩
 | exc n h=>exact x.elim
 | stuck=>exact x.elim
theorem WS.mono {r:SRes}{N N':ISt->IH->Prop}{R R':IV->IH->Prop}(x:WS r N R) (f:∀σ h,N σ h->N' σ h) (g:∀v h,R v h->R' v h):WS r N' R':=by
 cases r with
 | next σ h=>exact f σ h x
 | ret v h=>exact g v h x
 | _=>exact x
theorem Jli (a:α):WR (.ok a h) Q=Q a h:=rfl
theorem J0j:WR (.stuck:Res α) Q=False:=rfl
theorem Jf (r:Res α) (f:α->IH->Res β) (Q:β->IH->Prop):WR (r.bind f) Q=WR r λ a h=>WR (f a h) Q:=by cases r<;>rfl
theorem J4r (r:Res α):WR r.nx Q=WR r Q:=by cases r<;>rfl
theorem Jfd (c:Prop) [Decidable c] (x y:Res α):WR (if c then x else y) Q=((c->WR x Q)/\(¬c->WR y Q)):=by
 by_cases hc:c<;>simp[hc]
theorem Jiq (r:Res α) (k:α->IH->SRes):WS (rS σ r k) N R=WR r λ a h=>WS (k a h) N R:=by cases r<;>rfl
theorem Jl9 (r:SRes) (Q:IV->IH->Prop):WR r.fin Q=WS r (λ _ h=>Q .non h) Q:=by
 cases r with
 | exc n σ h=>show WR (match h[n]? with|some (.exc _ _)=>Res.exc n h|_=>Res.stuck) Q=False;split<;>rfl
 | _=>rfl
theorem Jrl (σ:ISt):WS (.next σ h) N R=N σ h:=rfl
theorem Jx3 (v:IV):WS (.ret v h) N R=R v h:=rfl
theorem Jkz (a b:S1):WS (sSeq a b σ h) N R=WS (a σ h) (λ σ1 h1=>WS (b σ1 h1) N R) R:=by
 unfold sSeq;cases a σ h<;>rfl
theorem Jx2:WS (sNil σ h) N R=N σ h:=rfl
theorem Jrm:WS (Jzv σ h) N R=N σ h:=rfl
theorem Jp2 (i:Nat) (e:E1):WS (sSet i e σ h) N R=WR (e σ h) λ v h1=>N (σ.set i (some v)) h1:=by unfold sSet;rw[Jiq];rfl
theorem Juf (t:T1) (a b:S1):WS (sIf t a b σ h) N R=WR (t σ h) λ c h1=>(c=true->WS (a σ h1) N R)/\(c=false->WS (b σ h1) N R):=by
 unfold sIf;rw[Jiq];congr 1;funext c h1;cases c<;>simp
theorem Jis (e:E1):WS (sRet e σ h) N R=WR (e σ h) R:=by unfold sRet;rw[Jiq];rfl
theorem Jrn:WS (J3q σ h) N R=R .non h:=rfl
theorem Jir (e:E1):WS (Jci e σ h) N R=WR (e σ h) λ _ h1=>N σ h1:=by unfold Jci;rw[Jiq];rfl
theorem Jsl (e:E1) (g:G1):WS (sAsg e g σ h) N R=WR (e σ h) λ v h1=>WS (g v σ h1) N R:=by unfold sAsg;rw[Jiq]
theorem Jh2 (i:Nat) (v:IV):WS (gNm i v σ h) N R=N (σ.set i (some v)) h:=rfl
theorem J1v (n:Nat) (g:List IV->ISt->IH->SRes) (xs:List IV):WS (gTp n g (.tup xs) σ h) N R=(xs.length=n/\WS (g xs σ h) N R):=by
 unfold gTp
 by_cases hn:xs.length=n
 ·simp[hn]
 ·simp[hn,WS]
theorem J7v:WS (gN [] σ h) N R=N σ h:=rfl
theorem J7u (i:Nat) (r:List IV->ISt->IH->SRes) (v:IV) (vs:List IV):WS (gC (gNm i) r (v::vs) σ h) N R=WS (r vs (σ.set i (some v)) h) N R:=rfl
theorem Jrk (f:Str) (o e:E1):WS (Jkm f o e σ h) N R=WR (e σ h) λ v h1=>WR (o σ h1) λ ov h2=>∃i c fs,ov=.ref i/\h2[i]?=some (.ins c fs)/\fs.length<1000/\N σ (h2.set i (.ins c (putI f v fs))):=by
 unfold Jkm;rw[Jiq];congr 1;funext v h1;rw[Jiq];congr 1;funext ov h2
 cases ov with
 | ref i =>
  cases e:h2[i]? with
  | none=>simp[WS,e]
  | some o =>
   cases o with
   | ins c fs =>
    by_cases hl:fs.length<1000
    ·simp only[e,hl,if_true,WS]
     refine propext ⟨λ q=>⟨i,c,fs,rfl,e,hl,q⟩,λ ⟨i',c',fs',e1,e2,_,q⟩=>?_⟩
     cases e1
     rw[e] at e2
     cases e2
     exact q
    ·simp only[e,hl,if_false,WS]
     refine propext ⟨λ q=>q.elim,λ ⟨i',c',fs',e1,e2,hl',_⟩=>?_⟩
     cases e1
     rw[e] at e2
     cases e2
     exact hl hl'
   | _=>simp[WS,e]
 | _=>simp[WS]
theorem Jx1 (it:I1) (g:G1) (b:S1):WS (sFor it g b σ h) N R=WR (it σ h) λ J h1=>WS (Jcs J.chk g b J.xs σ h1) N R:=by unfold sFor;rw[Jiq]
theorem wr_c (v:IV) (Q:IV->IH->Prop):WR (eC v σ h) Q=Q v h:=rfl
theorem Jp0 (f:IV->IV->IH->Res IV) (a b:E1) (Q:IV->IH->Prop):WR (eBin f a b σ h) Q=WR (a σ h) λ x h1=>WR (b σ h1) λ y h2=>WR (f x y h2) Q:=by
 unfold eBin;rw[Jf];congr 1;funext x h1;rw[Jf]
theorem J4v (f:IV->IH->Res IV) (a:E1) (Q:IV->IH->Prop):WR (eUn f a σ h) Q=WR (a σ h) λ x h1=>WR (f x h1) Q:=by unfold eUn;rw[Jf]
theorem Jxc (a b:E1) (tr:IV->IH->Res Bool) (Q:IV->IH->Prop):WR (eAnd a b tr σ h) Q=WR (a σ h) λ x h1=>WR (tr x h1) λ c h2=>(c=true->WR (b σ h2) Q)/\(c=false->Q x h2):=by
 unfold eAnd;rw[Jf];congr 1;funext x h1;rw[Jf];congr 1;funext c h2;cases c<;>simp[WR]
theorem J4s (a b:E1) (tr:IV->IH->Res Bool) (Q:IV->IH->Prop):WR (eOr a b tr σ h) Q=WR (a σ h) λ x h1=>WR (tr x h1) λ c h2=>(c=true->Q x h2)/\(c=false->WR (b σ h2) Q):=by
 unfold eOr;rw[Jf];congr 1;funext x h1;rw[Jf];congr 1;funext c h2;cases c<;>simp[WR]
theorem J4i (t:T1) (a b:E1) (Q:IV->IH->Prop):WR (eIf t a b σ h) Q=WR (t σ h) λ c h1=>(c=true->WR (a σ h1) Q)/\(c=false->WR (b σ h1) Q):=by
 unfold eIf;rw[Jf];congr 1;funext c h1;cases c<;>simp
theorem Jrh (a b:T1) (Q:Bool->IH->Prop):WR (Jw2 a b σ h) Q=WR (a σ h) λ c h1=>(c=true->WR (b σ h1) Q)/\(c=false->Q false h1):=by
 unfold Jw2;rw[Jf];congr 1;funext c h1;cases c<;>simp[WR]
theorem Jxy (a b:T1) (Q:Bool->IH->Prop):WR (tOrI a b σ h) Q=WR (a σ h) λ c h1=>(c=true->Q true h1)/\(c=false->WR (b σ h1) Q):=by
 unfold tOrI;rw[Jf];congr 1;funext c h1;cases c<;>simp[WR]
theorem Jri (a:T1) (Q:Bool->IH->Prop):WR (Jbk a σ h) Q=WR (a σ h) λ c h1=>Q (!c) h1:=by unfold Jbk;rw[Jf];rfl
theorem Jky (tr:IV->IH->Res Bool) (a:E1) (Q:Bool->IH->Prop):WR (tOfB tr a σ h) Q=WR (a σ h) λ x h1=>WR (tr x h1) Q:=by unfold tOfB;rw[Jf]
theorem Jjp (f g:IV->IV->IH->Res IV) (a b c:E1) (Q:IV->IH->Prop):WR (Je0 f g a b c σ h) Q=WR (a σ h) λ x h1=>WR (b σ h1) λ y h2=>WR (f x y h2) λ k h3=>∃t,k=.bl t/\(t=true->WR (c σ h3) λ z h4=>WR (g y z h4) Q)/\(t=false->Q (.bl false) h3):=by
 unfold Je0;rw[Jf];congr 1;funext x h1;rw[Jf];congr 1;funext y h2;rw[Jf];congr 1;funext k h3
 cases k with
 | bl t =>
  cases t with
  | true =>
   show WR ((c σ h3).bind λ z h4=>g y z h4) Q=_
   rw[Jf]
   simp
  | false=>simp[WR]
 | _=>simp[WR]
theorem Jq9 (Q:List IV->IH->Prop):WR (aNil σ h) Q=Q [] h:=rfl
theorem Jfq (a:E1) (r:A1) (Q:List IV->IH->Prop):WR (Ja a r σ h) Q=WR (a σ h) λ x h1=>WR (r σ h1) λ xs h2=>Q (x::xs) h2:=by
 unfold Ja;rw[Jf];congr 1;funext x h1;rw[Jf];rfl
theorem Jxz (a:A1) (Q:IV->IH->Prop):WR (eTup a σ h) Q=WR (a σ h) λ xs h1=>xs.length<=sizeLine/\Q (.tup xs) h1:=by
 unfold eTup;rw[Jf];congr 1;funext xs h1;rw[Jfd]
 by_cases hz:xs.length<=sizeLine<;>simp[hz,WR]
theorem Jxn (a:A1) (Q:IV->IH->Prop):WR (eLst a σ h) Q=WR (a σ h) λ xs h1=>xs.length<=sizeLine/\Q (.ref h1.length) (h1++[.lst xs]):=by
 unfold eLst;rw[Jf];congr 1;funext xs h1;rw[Jfd]
 by_cases hz:xs.length<=sizeLine<;>simp[hz,WR]
theorem Jnr (f:List IV->IH->Res IV) (d:List IV) (a:A1) (Q:IV->IH->Prop):WR (Jl f d a σ h) Q=WR (a σ h) λ vs h1=>WR (f (vs++d) h1) Q:=by
 unfold Jl;rw[Jf]
theorem Jre (c:Str) (f:List IV->IH->Res IV) (d:List IV) (a:A1) (Q:IV->IH->Prop):WR (Ji5 c f d a σ h) Q=WR (a σ h) λ vs h1=>WR (f (.ref h1.length::(vs++d)) (h1++[.ins c []])) λ r h2=>r=.non/\Q (.ref h1.length) h2:=by
 unfold Ji5;rw[Jf];congr 1;funext vs h1;rw[Jf];congr 1;funext r h2;cases r<;>simp[WR]
theorem Jxe (f:List IV->IH->Res IV) (a:A1) (Q:IV->IH->Prop):WR (eCB f a σ h) Q=WR (a σ h) λ vs h1=>WR (f vs h1) Q:=by unfold eCB;rw[Jf]
theorem Jxt (f:IV->IH->Res IV) (x:IV) (Q:IV->IH->Prop):WR (on1 f [x] h) Q=WR (f x h) Q:=rfl
theorem Jxi (ans:Ty->Option Bool) (e:E1) (Q:IV->IH->Prop):WR (eIsi ans e σ h) Q=WR (e σ h) λ v h1=>∃b,(tyI v h1).bind ans=some b/\Q (.bl b) h1:=by
 unfold eIsi;rw[Jf];congr 1;funext v h1
 cases (tyI v h1).bind ans<;>simp[WR]
theorem Jnu (Q:Option Int->IH->Prop):WR (Jto σ h) Q=Q none h:=rfl
theorem Jnv (e:E1) (Q:Option Int->IH->Prop):WR (Jqu e σ h) Q=WR (e σ h) λ v h1=>∃i,v=.int i/\Q (some i) h1:=by
 unfold Jqu;rw[Jf];congr 1;funext v h1;cases v<;>simp[WR]
theorem J4t (f:IV->Option Int->Option Int->IH->Res IV) (e:E1) (lo hi:O1) (Q:IV->IH->Prop):WR (eSl f e lo hi σ h) Q=WR (e σ h) λ x h1=>WR (lo σ h1) λ l h2=>WR (hi σ h2) λ u h3=>WR (f x l u h3) Q:=by
 unfold eSl;rw[Jf];congr 1;funext x h1;rw[Jf];congr 1;funext l h2;rw[Jf]
noncomputable def Jj6 (f:Str) (v:IV) (h:IH):Option IV:=match v with
 | .ref i=>(match h[i]? with
  | some (.ins _ fs)=>fs.lookup f
  | _=>none)
 | _=>none
theorem Jxg (f:Str) (o:E1) (Q:IV->IH->Prop):WR (eFld f o σ h) Q=WR (o σ h) λ v h1=>∃x,Jj6 f v h1=some x/\Q x h1:=by
 unfold eFld;rw[Jf];congr 1;funext v h1
 cases v with
 | ref i =>
  unfold Jj6
  cases e:h1[i]? with
  | none=>simp[WR,e]
  | some ob =>
   cases ob with
   | ins c fs=>cases e2:fs.lookup f<;>simp[WR,e,e2]
   | _=>simp[WR,e]
 | _=>simp[WR,Jj6]
variable {i j:Int}{x y:Str}{P:IV->IH->Prop}
theorem Jxb (i j:Int):WR (Ju (.int i) (.int j) h) P=P (.int (i+j)) h:=rfl
theorem Jxw (i j:Int):WR (Jhw (.int i) (.int j) h) P=P (.int (i-j)) h:=rfl
theorem Jxq (i:Int):WR (J3a (.int i) h) P=P (.int (-i)) h:=rfl
theorem Jxp (i j:Int):WR (Jb8 (.int i) (.int j) h) P=(Jas i j/\P (.int (i*j)) h):=by
 show WR (Jtq (.int i) (.int j) h) P=_
 unfold Jtq;rw[Jfd];by_cases hm:Jas i j<;>simp[hm,WR]
theorem Jrb (i j:Int):WR (Jao (.int i) (.int j) h) P=((0<j/\j.natAbs.log2<9000)/\P (.int (i/j)) h):=by
 unfold Jao;rw[Jfd];by_cases hm:0<j/\j.natAbs.log2<9000<;>simp[hm,WR]
theorem Jxo (i j:Int):WR (Jap (.int i) (.int j) h) P=(0<j/\P (.int (i%j)) h):=by
 unfold Jap;rw[Jfd];by_cases hm:0<j<;>simp[hm,WR]
theorem Jxu (i j:Int):WR (Jih (.int i) (.int j) h) P=((0<=j/\j<=1000000/\i.natAbs<2^64)/\P (.int (i^j.toNat)) h):=by
 unfold Jih;rw[Jfd];by_cases hm:0<=j/\j<=1000000/\i.natAbs<2^64<;>simp[hm,WR]
theorem Jq8 (x y:Str):WR (Ju (.str x) (.str y) h) P=(x.length+y.length<=sizeLine/\P (.str (x++y)) h):=by
 unfold Ju;rw[Jfd];by_cases hm:x.length+y.length<=sizeLine<;>simp[hm,WR]
theorem J4l (i j:Int):WR (cLt (.int i) (.int j) h) P=P (.bl (decide (i<j))) h:=rfl
theorem J4k (i j:Int):WR (cLe (.int i) (.int j) h) P=P (.bl (decide (i<=j))) h:=rfl
theorem J7t (x y:Str):WR (cLe (.str x) (.str y) h) P=P (.bl (!decide (y.cps.toList<x.cps.toList))) h:=rfl
theorem J4h (i j:Int):WR (cGt (.int i) (.int j) h) P=P (.bl (decide (j<i))) h:=rfl
theorem J4g (i j:Int):WR (cGe (.int i) (.int j) h) P=P (.bl (decide (j<=i))) h:=rfl
theorem J4f (i j:Int):WR (cEq (.int i) (.int j) h) P=P (.bl (decide (i=j))) h:=rfl
theorem J4q (i j:Int):WR (cNe (.int i) (.int j) h) P=P (.bl (!decide (i=j))) h:=rfl
theorem Jxf (x y:Str):WR (cEq (.str x) (.str y) h) P=P (.bl (decide (x=y))) h:=rfl
theorem Jxr (x y:Str):WR (cNe (.str x) (.str y) h) P=P (.bl (!decide (x=y))) h:=rfl
theorem Jxd (b:Bool) (P:Bool->IH->Prop):WR (asB (.bl b) h) P=P b h:=rfl
theorem Jrj (b:Bool) (P:Bool->IH->Prop):WR (tru (.bl b) h) P=P b h:=rfl
theorem Jxs (tr:IV->IH->Res Bool) (v:IV):WR (Jtr tr v h) P=WR (tr v h) λ c h1=>P (.bl (!c)) h1:=by unfold Jtr;rw[Jf];rfl
theorem Jrc (v w:IV):WR (cIs v w h) P=∃b,isI v w=some b/\P (.bl b) h:=by unfold cIs;cases isI v w<;>simp[WR]
theorem Jbx {chk:IH->Prop}{g:G1}{b:S1}(I:Nat->ISt->IH->Prop){xs:List IV}(hc:∀i σ h,I i σ h->chk h)
  (turn:∀i (hi:i<xs.length) σ h,I i σ h->WS (g xs[i] σ h) (λ σ1 h1=>WS (b σ1 h1) (I (i+1)) R) λ _ _=>False) (done:∀σ h,I xs.length σ h->N σ h) (start:I 0 σ h):WS (Jcs chk g b xs σ h) N R:=by
 have key:∀(n i:Nat) (σ:ISt) (h:IH),xs.length-i=n->i<=xs.length->I i σ h->WS (Jcs chk g b (xs.drop i) σ h) N R:=by
  intro n
  induction n with
  | zero =>
   intro i σ h hn hi hI
   have:i=xs.length:=by omega
   subst this
   rw[List.drop_length]
   unfold Jcs
   rw[if_pos (hc _ _ _ hI)]
   exact done _ _ hI
  | succ n ih =>
   intro i σ h hn hi hI
   have hlt:i<xs.length:=by omega
   rw[List.drop_eq_getElem_cons hlt]
   unfold Jcs
   rw[if_pos (hc _ _ _ hI)]
   have t:=turn i hlt σ h hI
   cases eg:g xs[i] σ h with
   | next σ1 h1 =>
    rw[eg] at t
    have t':WS (b σ1 h1) (I (i+1)) R:=t
    dsimp only
    cases eb:b σ1 h1 with
    | next σ2 h2=>rw[eb] at t';exact ih (i+1) σ2 h2 (by omega) hlt t'
    | ret v h2=>rw[eb] at t';exact t'
    | brk σ2 h2=>rw[eb] at t';exact t'.elim
    | cont σ2 h2=>rw[eb] at t';exact t'.elim
    | exc m σ2 h2=>rw[eb] at t';exact t'.elim
    | stuck=>rw[eb] at t';exact t'.elim
   | ret v h1=>rw[eg] at t;exact t.elim
   | brk σ2 h2=>rw[eg] at t;exact t.elim
   | cont σ2 h2=>rw[eg] at t;exact t.elim
   | exc m σ2 h2=>rw[eg] at t;exact t.elim
   | stuck=>rw[eg] at t;exact t.elim
 have:=key xs.length 0 σ h (by omega) (Nat.zero_le _) start
 simpa using this
end
section
variable {α:Type}{h h1:IH}{a:α}{r:Res α}{P:IV->IH->Prop}
theorem Jd9 (x:WR r λ v h'=>v=a/\h'=h1):r=.ok a h1:=by
 obtain⟨_,_,e,rfl,rfl⟩:=x.eq
 exact e
theorem Jkw (xs:List IV) (n:Int):WR (opIx (.tup xs) (.int n) h) P=∃x,atI xs n=some x/\P x h:=by
 unfold opIx;cases e:atI xs n<;>simp[WR,e]
theorem Jma (xs:List IV) (n:Int):WR (opIx (.rol xs) (.int n) h) P=∃x,atI xs n=some x/\P x h:=by
 unfold opIx;cases e:atI xs n<;>simp[WR,e]
theorem Jf1 (i:Nat) (n:Int):WR (opIx (.ref i) (.int n) h) P=∃xs,h[i]?=some (.lst xs)/\∃x,atI xs n=some x/\P x h:=by
 unfold opIx
 cases e:h[i]? with
 | none=>simp[WR,e]
 | some o =>
  cases o with
  | lst xs=>cases e2:atI xs n<;>simp[WR,e,e2]
  | _=>simp[WR,e]
theorem Jip (xs:List IV):WR (lenI (.tup xs) h) P=P (.int xs.length) h:=rfl
theorem Jin (xs:List IV):WR (lenI (.rol xs) h) P=P (.int xs.length) h:=rfl
theorem Jrd (i:Nat):WR (lenI (.ref i) h) P=∃xs,h[i]?=some (.lst xs)/\P (.int xs.length) h:=by
 unfold lenI
 cases e:h[i]? with
 | none=>simp[WR,e]
 | some o=>cases o<;>simp[WR,e]
theorem Jio (x:Str):WR (lenI (.str x) h) P=(x.length<=sizeLine/\P (.int x.length) h):=by
 unfold lenI;rw[Jfd];by_cases hm:x.length<=sizeLine<;>simp[hm,WR]
theorem Ja5 {xs:List α}{n:Nat}{x:α}(e:xs[n]?=some x):atI xs (n:Int)=some x:=by
 have hn:n<xs.length:=(List.getElem?_eq_some_iff.mp e).1
 have:(n:Int)<xs.length:=by omega
 simp[atI,ixN,this,e]
theorem Jk2 {x:α}{xs:List α}:atI (x::xs) 0=some x:=by simp[atI,ixN]
theorem Jmj {x y:α}{xs:List α}:atI (x::y::xs) 1=some y:=Ja5 (n:=1) rfl
theorem Jp5 {x y z:α}{xs:List α}:atI (x::y::z::xs) 2=some z:=Ja5 (n:=2) rfl
theorem Jp6 {x y z u:α}{xs:List α}:atI (x::y::z::u::xs) 3=some u:=Ja5 (n:=3) rfl
theorem Jsq {x y z u v:α}{xs:List α}:atI (x::y::z::u::v::xs) 4=some v:=Ja5 (n:=4) rfl
theorem J10 {xs:List α}{n:Int}{x:α}(h0:0<=n) (e:xs[n.toNat]?=some x):atI xs n=some x:=by
 have:=Ja5 e
 rwa [Int.toNat_of_nonneg h0] at this
theorem Jil (i:Int):tyI (.int i) h=some .int:=rfl
theorem Jl5 (x:Str):tyI (.str x) h=some .str:=rfl
theorem Jl6 (xs:List IV):tyI (.tup xs) h=some .tup:=rfl
theorem Jue (b:Bool):tyI (.bl b) h=some .bl:=rfl
theorem Jl3:tyI .non h=some .non:=rfl
theorem Jl4 (xs:List IV):tyI (.rol xs) h=some .lst:=rfl
theorem J1r {i:Nat}{xs:List IV}(e:h[i]?=some (.lst xs)):tyI (.ref i) h=some .lst:=by simp[tyI,e]
theorem grow {i:Nat}{o:IO}{g:IH}(e:h[i]?=some o):(h++g)[i]?=some o:=by
 rw[List.getElem?_append_left (List.getElem?_eq_some_iff.mp e).1];exact e
theorem Jy {o:IO}:(h++[o])[h.length]?=some o:=by simp
theorem Ji7 {i:Nat}{o:IO}(e:h[i]?=some o):i<h.length:=(List.getElem?_eq_some_iff.mp e).1
theorem Jn5 (f:IV->Bool):∀xs:List IV,Jn4 (xs.map λ x=>.bl (f x))=some (xs.map f)
 | []=>rfl
 | x::xs=>by simp[Jn4,Jn5 f xs]
theorem all_map {f:IV->Bool}{i:Nat}{xs:List IV}(e:h[i]?=some (.lst (xs.map λ x=>.bl (f x)))):allI (.ref i) h=.ok (.bl (xs.all f)) h:=by
 simp[allI,e,Jn5,List.all_map,Function.comp_def]
end
noncomputable def Ex (h h':IH):Prop:=∃g,h'=h++g
theorem Ex.refl (h:IH):Ex h h:=⟨[],by simp⟩
theorem Ex.trans {h h1 h2:IH}(a:Ex h h1) (b:Ex h1 h2):Ex h h2:=by
 obtain⟨g,rfl⟩:=a
 obtain⟨g',rfl⟩:=b
 exact⟨g++g',by simp⟩
theorem Ex.get {h h':IH}(a:Ex h h'){i:Nat}{o:IO}(e:h[i]?=some o):h'[i]?=some o:=by
 obtain⟨g,rfl⟩:=a
 exact grow e
theorem Ex.one (h:IH) (o:IO):Ex h (h++[o]):=⟨[o],rfl⟩
theorem Ex.len {h h':IH}(a:Ex h h'):h.length<=h'.length:=by
 obtain⟨g,rfl⟩:=a
 simp
section
variable {α:Type}{h:IH}
theorem J15 {chk:IH->Prop}{t:T1}{e:E1}{caps:ISt}{p:IV->Bool}{f:IV->IV}(i0:Nat):∀{xs acc:List IV}{o:Option IV}{h1:IH},h1[i0]?=some (.lst acc)->(∀h2,(∀j ob,j≠i0->h1[j]?=some ob->h2[j]?=some ob)->chk h2)->acc.length+xs.length<sizeLine ->
  (∀x∈xs,∀h2,(∀j ob,j≠i0->h1[j]?=some ob->h2[j]?=some ob)->WR (t (some x::caps) h2) λ b h3=>b=p x/\Ex h2 h3) ->
  (∀x∈xs,p x=true->∀h2,(∀j ob,j≠i0->h1[j]?=some ob->h2[j]?=some ob)->WR (e (some x::caps) h2) λ v h3=>v=f x/\Ex h2 h3) ->
  WR (Jd7 chk (gNm 0) t e i0 xs (o::caps) h1) λ v h3=>v=.ref i0/\∃g,h3=h1.set i0 (.lst (acc++(xs.filter p).map f))++g
 | [],acc,o,h1,hi,hc,_,_,_=>by
  unfold Jd7
  rw[if_pos (hc h1 λ _ _ _ q=>q)]
  refine⟨rfl,[],?_⟩
  simp only[List.filter_nil,List.map_nil,List.append_nil]
  refine(List.ext_getElem? λ j=>?_)
  by_cases hj:j=i0
  ·subst hj
   rw[hi,List.getElem?_set_self (Ji7 hi)]
  ·rw[List.getElem?_set_ne (Ne.symm hj)]
 | x::xs,acc,o,h1,hi,hc,hl,ht,he=>by
  unfold Jd7
  rw[if_pos (hc h1 λ _ _ _ q=>q)]
  dsimp only[gNm,List.set_cons_zero]
  have hl':acc.length+xs.length+1<sizeLine:=by simpa [Nat.add_assoc] using hl
  obtain⟨b,h2,e1,rfl,x2⟩:=(ht x List.mem_cons_self h1 λ _ _ _ q=>q).eq
  rw[e1]
  have k12:∀j ob,j≠i0->h1[j]?=some ob->h2[j]?=some ob:=λ j ob _ q=>x2.get q
  cases hp:p x with
  | false =>
   dsimp only
   refine WR.mono (J15 i0 (x2.get hi) (λ h3 q=>hc h3 λ j ob n r=>q j ob n (k12 j ob n r)) (by omega) (λ y hy h3 q=>ht y (List.mem_cons_of_mem _ hy) h3 λ j ob n r=>q j ob n (k12 j ob n r))
    λ y hy hpy h3 q=>he y (List.mem_cons_of_mem _ hy) hpy h3 λ j ob n r=>q j ob n (k12 j ob n r)) λ v h3 ⟨ev,g,eg⟩=>⟨ev,?_⟩
   obtain⟨g2,rfl⟩:=x2
   refine⟨g2++g,?_⟩
   rw[eg,List.set_append_left (h:=Ji7 hi)]
   simp[hp]
  | true =>
   dsimp only
   obtain⟨v,h3,e3,rfl,x3⟩:=(he x List.mem_cons_self hp h2 k12).eq
   rw[e3]
   dsimp only
   rw[x3.get (x2.get hi)]
   dsimp only
   rw[if_pos (by omega)]
   have k13:∀j ob,j≠i0->h1[j]?=some ob->(h3.set i0 (.lst (acc++[f x])))[j]?=some ob:=λ j ob n q=>by
    rw[List.getElem?_set_ne (Ne.symm n)]
    exact x3.get (x2.get q)
   refine WR.mono (J15 i0 (acc:=acc++[f x]) (by rw[List.getElem?_set_self (Ji7 (x3.get (x2.get hi)))]) (λ h4 q=>hc h4 λ j ob n r=>q j ob n (k13 j ob n r)) (by simp;omega) (λ y hy h4 q=>ht y (List.mem_cons_of_mem _ hy) h4 λ j ob n r=>q j ob n (k13 j ob n r))
    λ y hy hpy h4 q=>he y (List.mem_cons_of_mem _ hy) hpy h4 λ j ob n r=>q j ob n (k13 j ob n r)) λ v h4 ⟨ev,g,eg⟩=>⟨ev,?_⟩
   obtain⟨g3,q3⟩:=x2.trans x3
   refine⟨g3++g,?_⟩
   rw[eg,q3,List.set_append_left (h:=Ji7 hi),List.set_append_left (h:=by rw[List.length_set];exact Ji7 hi),List.set_set]
   simp[hp]
theorem Jra {it:I1}{t:T1}{e:E1}{js:List Nat}{σ:ISt}{xs:List IV}{chk:IH->Prop}{p:IV->Bool}{f:IV->IV}{h0:IH}(hit:WR (it σ h0) λ J h1=>J.xs=xs/\J.chk=chk/\h1=h) (hl:xs.length<sizeLine)
  (hc:∀h2:IH,(∀(j:Nat) (ob:IO),h[j]?=some ob->h2[j]?=some ob)->chk h2)
  (ht:∀x∈xs,∀h2:IH,(∀(j:Nat) (ob:IO),h[j]?=some ob->h2[j]?=some ob)->WR (t (some x::js.map λ j=>(σ[j]?).join) h2) λ b h3=>b=p x/\Ex h2 h3)
  (he:∀x∈xs,p x=true->∀h2:IH,(∀(j:Nat) (ob:IO),h[j]?=some ob->h2[j]?=some ob)->WR (e (some x::js.map λ j=>(σ[j]?).join) h2) λ v h3=>v=f x/\Ex h2 h3) :
  WR (Jx it 1 js (gNm 0) t e σ h0) λ v h3=>v=.ref h.length/\∃g,h3=h++.lst ((xs.filter p).map f)::g:=by
 obtain⟨J,h1,e1,q1,q2,rfl⟩:=hit.eq
 unfold Jx
 rw[e1]
 show WR (Jd7 J.chk (gNm 0) t e h1.length J.xs (none::js.map λ j=>(σ[j]?).join) (h1++[.lst []])) _
 rw[q1,q2]
 have lift:∀{h2:IH},(∀j ob,j≠h1.length->(h1++[IO.lst []])[j]?=some ob->h2[j]?=some ob)->∀j ob,h1[j]?=some ob->h2[j]?=some ob:=λ q j ob r=>q j ob (Nat.ne_of_lt (Ji7 r)) (grow r)
 refine WR.mono (J15 (p:=p) (f:=f) h1.length (acc:=[]) Jy (λ h2 q=>hc h2 (lift q)) (by simpa using hl) (λ x hx h2 q=>ht x hx h2 (lift q)) λ x hx hp h2 q=>he x hx hp h2 (lift q)) λ v h3 ⟨ev,g,eg⟩=>⟨ev,g,?_⟩
 rw[eg]
 simp
theorem filt {α:Type}(xs:List α):xs.filter (λ _=>true)=xs:=List.filter_eq_self.mpr (by simp)
theorem Ja2 {it:I1}{e:E1}{js:List Nat}{σ:ISt}{xs:List IV}{chk:IH->Prop}{f:IV->IV}{h0:IH}(hit:WR (it σ h0) λ J h1=>J.xs=xs/\J.chk=chk/\h1=h) (hl:xs.length<sizeLine)
  (hc:∀h2:IH,(∀(j:Nat) (ob:IO),h[j]?=some ob->h2[j]?=some ob)->chk h2)
  (he:∀x∈xs,∀h2:IH,(∀(j:Nat) (ob:IO),h[j]?=some ob->h2[j]?=some ob)->WR (e (some x::js.map λ j=>(σ[j]?).join) h2) λ v h3=>v=f x/\Ex h2 h3) :
  WR (Jx it 1 js (gNm 0) Jay e σ h0) λ v h3=>v=.ref h.length/\∃g,h3=h++.lst (xs.map f)::g:=by
 have:=Jra (p:=λ _=>true) (f:=f) (t:=Jay) (e:=e) (js:=js) (σ:=σ) (h:=h) hit hl hc (λ _ _ h2 _=>⟨rfl,.refl _⟩) λ x hx _ h2 q=>he x hx h2 q
 rwa [filt] at this
theorem Jm {o:IO}{g:IH}:(h++o::g)[h.length]?=some o:=by simp
theorem Ex.cons (h:IH) (o:IO) (g:IH):Ex h (h++o::g):=⟨_,rfl⟩
end
section
variable {σ:ISt}{h h1:IH}{Q:IV->IH->Prop}{J:ItI->IH->Prop}
theorem Jns (e:E1):WR (iAny e σ h) J=WR (e σ h) λ v h1=>WR (Js9 v h1) J:=by unfold iAny;rw[Jf]
theorem Jxh (f:List IV->IH->Res ItI) (a:A1):WR (iRg f a σ h) J=WR (a σ h) λ vs h1=>WR (f vs h1) J:=by unfold iRg;rw[Jf]
theorem Jfe (i:Nat):WR (Js9 (.ref i) h) J=∃xs,h[i]?=some (.lst xs)/\J ⟨xs,λ h'=>h'[i]?=some (.lst xs)⟩ h:=by
 show WR (itOf (.ref i) h) J=_
 unfold itOf
 cases e:h[i]? with
 | none=>simp[WR,e]
 | some o=>cases o<;>simp[WR,e]
theorem Jxj (xs:List IV):WR (Js9 (.rol xs) h) J=J ⟨xs,λ _=>True⟩ h:=rfl
theorem Jxl (xs:List IV):WR (Js9 (.tup xs) h) J=J ⟨xs,λ _=>True⟩ h:=rfl
theorem Jxk (x:Str):WR (Js9 (.str x) h) J=J ⟨Jlh x,λ _=>True⟩ h:=rfl
theorem J4e (i:Nat):WR (Jfz [.ref i] h) J=∃xs,h[i]?=some (.lst xs)/\J ⟨Jid 0 xs,λ h'=>h'[i]?=some (.lst xs)⟩ h:=by
 show WR (Jfz [.ref i] h) J=_
 unfold Jfz
 cases e:h[i]? with
 | none=>simp[WR,e]
 | some o=>cases o<;>simp[WR,e]
theorem Jrf (j:Int):WR (Jan [.int j] h) J=((-(2^62)<=j/\j<2^62)/\J ⟨rngI 0 j,λ _=>True⟩ h):=by
 unfold Jan;rw[Jfd];exact propext ⟨λ ⟨a,b⟩=>(Classical.em _).elim (λ q=>⟨q,a q⟩) λ q=>(b q).elim,λ ⟨a,b⟩=>⟨λ _=>b,λ q=>absurd a q⟩⟩
theorem Jrg (i j:Int):WR (Jd3 [.int i,.int j] h) J=((-(2^62)<=i/\i<2^62/\ -(2^62)<=j/\j<2^62)/\J ⟨rngI i j,λ _=>True⟩ h):=by
 unfold Jd3;rw[Jfd];exact propext ⟨λ ⟨a,b⟩=>(Classical.em _).elim (λ q=>⟨q,a q⟩) λ q=>(b q).elim,λ ⟨a,b⟩=>⟨λ _=>b,λ q=>absurd a q⟩⟩
theorem Jn (i j:Int):(rngI i j).length=(j-i).toNat:=by simp[rngI]
theorem Jaq (i j:Int) (n:Nat) (hn:n<(rngI i j).length):(rngI i j)[n]=.int (i+n):=by simp[rngI]
theorem J19 (xs:List IV) (n:Nat) (hn:n<(Jid 0 xs).length):(Jid 0 xs)[n]=.tup [.int n,xs[n]'(by rwa [Je1] at hn)]:=by
 have:=Jj4 xs 0 n
 rw[List.getElem?_eq_getElem hn,List.getElem?_eq_getElem (by rwa [Je1] at hn)] at this
 simpa using this
theorem J1u (i:Nat) (lo hi:Option Int):WR (slI (.ref i) lo hi h) Q=∃xs,h[i]?=some (.lst xs)/\Q (.ref h.length) (h++[.lst (cutI xs lo hi)]):=by
 unfold slI
 cases e:h[i]? with
 | none=>simp[WR,e]
 | some o=>cases o<;>simp[WR,e]
theorem Jxv (xs:List IV) (lo hi:Option Int):WR (slI (.rol xs) lo hi h) Q=Q (.ref h.length) (h++[.lst (cutI xs lo hi)]):=rfl
theorem Jsf (n d:Nat):HT.sIx n d none=d:=HT.sIx_none n d
theorem Jrw {α:Type}(xs:List α) (n:Nat):cutI xs none (some (n:Int))=xs.take n:=by
 unfold cutI
 rw[Jsf,HT.sIx_nat]
 simp
theorem Jyd {α:Type}(xs:List α) (n:Nat):cutI xs (some (n:Int)) none=xs.drop n:=by
 unfold cutI
 rw[Jsf,HT.sIx_nat]
 by_cases hn:n<=xs.length
 ·rw[Nat.min_eq_left hn]
  exact List.take_of_length_le (by simp)
 ·rw[Nat.min_eq_right (by omega),List.drop_length,List.drop_eq_nil_of_le (by omega)]
  simp
variable {P:Pg}{m:Str}{n i:Nat}{o:E1}{a:A1}{xs:List IV}{c:Str}{fs:List (Str×IV)}
theorem Jgf {g:IV->List IV->IH->Res IV}(e:o σ h=.ok (.ref i) h1) (hl:h1[i]?=some (.lst xs)) (hg:bmOf "list" m n=some g):WR (eDot P m n o a σ h) Q=WR (a σ h1) λ vs h2=>WR (g (.ref i) vs h2) Q:=by
 unfold eDot
 rw[e]
 have hi:Jqq (.ref i) h1=false:=by simp[Jqq,hl]
 have ht:tyS (.ref i) h1="list":=by simp[tyS,hl]
 dsimp only
 rw[hi,ht,hg]
 dsimp only
 rw[if_neg Bool.false_ne_true]
 unfold eBm
 rw[e,Jf,Jli]
 have:tyOk "list" (.ref i) h1=true:=by simp[tyOk,hl]
 rw[if_pos this,Jf]
theorem Jag {f:List IV->IH->Res IV}{d:List IV}(e:o σ h=.ok (.ref i) h1) (hi:h1[i]?=some (.ins c fs)) (hf:fs.lookup m=none) (hd:Joc P m n c=some (f,d)):WR (eDot P m n o a σ h) Q=WR (a σ h1) λ vs h2=>WR (f (.ref i::(vs++d)) h2) Q:=by
 unfold eDot
 rw[e]
 have hi':Jqq (.ref i) h1=true:=by simp[Jqq,hi]
 dsimp only
 rw[hi',if_pos rfl]
 unfold Jyh
 rw[e,Jf,Jli]
 dsimp only
 rw[hi]
 dsimp only
 rw[hd,hf]
 dsimp only
 rw[Jf]
theorem Jfc (y:IV):WR (Jh5 (.ref i) [y] h) Q=∃xs,h[i]?=some (.lst xs)/\xs.length<sizeLine/\Q .non (h.set i (.lst (xs++[y]))):=by
 unfold Jh5
 cases e:h[i]? with
 | none=>simp[WR,e]
 | some ob =>
  cases ob with
  | lst xs=>by_cases hz:xs.length<sizeLine<;>simp[WR,e,hz]
  | _=>simp[WR,e]
theorem Jeq:bmOf "list" "append" 1=some Jh5:=by kernel_rfl
theorem Ji {f:Str}(e:h[i]?=some (.ins c fs)):Jj6 f (.ref i) h=fs.lookup f:=by simp[Jj6,e]
theorem J0g:WR (Jkf (.ref i) h) Q=∃xs,h[i]?=some (.lst xs)/\Q (.ref h.length) (h++[.lst xs]):=by
 unfold Jkf
 cases e:h[i]? with
 | none=>simp[WR,e]
 | some ob=>cases ob<;>simp[WR,e]
theorem Jnt (xs:List IV):WR (Jkf (.tup xs) h) Q=Q (.ref h.length) (h++[.lst xs]):=rfl
theorem Jx0:WR (Jku (.ref i) h) Q=∃xs,h[i]?=some (.lst xs)/\Q (.tup xs) h:=by
 unfold Jku
 cases e:h[i]? with
 | none=>simp[WR,e]
 | some ob=>cases ob<;>simp[WR,e]
end
section
variable {σ:ISt}{h:IH}{Q:IV->IH->Prop}
theorem wr_addl (i j:Nat):WR (Ju (.ref i) (.ref j) h) Q=∃xs,h[i]?=some (.lst xs)/\∃ys,h[j]?=some (.lst ys)/\xs.length+ys.length<=sizeLine/\Q (.ref h.length) (h++[.lst (xs++ys)]):=by
 unfold Ju
 cases e:h[i]? with
 | none=>simp[WR,e]
 | some o =>
  cases e':h[j]? with
  | none=>cases o<;>simp[WR,e,e']
  | some o' =>
   cases o<;>cases o'<;>simp only[e,e',Jfd,Jli,J0j,Option.some.injEq,IO.lst.injEq,reduceCtorEq,exists_eq_left',false_and,and_false,exists_false,imp_false,Decidable.not_not]
   simp only[eq_iff_iff]
   exact⟨λ ⟨a,b⟩=>⟨b,a b⟩,λ ⟨a,b⟩=>⟨λ _=>b,a⟩⟩
theorem J7w {N:ISt->IH->Prop}{R:IV->IH->Prop}(o i:E1) (v:IV):WS (gSb o i v σ h) N R=WR (o σ h) λ ov h1=>WR (i σ h1) λ iv h2=>WS (setI ov iv v σ h2) N R:=by
 unfold gSb
 rw[Jiq]
 congr 1;funext ov h1
 rw[Jiq]
theorem J4x {N:ISt->IH->Prop}{R:IV->IH->Prop}(i:Nat) (k:Int) (v:IV):WS (setI (.ref i) (.int k) v σ h) N R=∃xs,h[i]?=some (.lst xs)/\∃j,ixN xs.length k=some j/\N σ (h.set i (.lst (xs.set j v))):=by
 unfold setI
 cases e:h[i]? with
 | none=>simp[WS,e]
 | some ob =>
  cases ob with
  | lst xs=>cases q:ixN xs.length k<;>simp[WS,e,q]
  | _=>simp[WS,e]
end
section
variable {σ:ISt}{h h1:IH}{Q:IV->IH->Prop}{P:Pg}{m:Str}{n i:Nat}{o:E1}{a:A1}{x:Str}
theorem Jn3:bmOf "list" "extend" 1=some Jie:=by kernel_rfl
theorem Jsh:∀zs:List Str,Jnp (zs.map IV.str)=some zs
 | []=>rfl
 | z::zs=>by
  rw[List.map_cons,Jnp,Jsh zs];rfl
end
section
variable {σ:ISt}{h:IH}{Q:IV->IH->Prop}{i:Nat}
theorem Jxx:WR (sumI (.ref i) h) Q=∃xs,h[i]?=some (.lst xs)/\∃ns,Jd8 xs=some ns/\Q (.int ns.sum) h:=by
 unfold sumI
 cases e:h[i]? with
 | none=>simp[WR,e]
 | some ob =>
  cases ob with
  | lst xs=>cases q:Jd8 xs<;>simp[WR,e,q]
  | _=>simp[WR,e]
theorem Jfp:∀ns:List Int,Jd8 (ns.map IV.int)=some ns
 | []=>rfl
 | n::ns=>by
  rw[List.map_cons,Jd8,Jfp ns];rfl
theorem J4n (aa:A1) (md:E1):WR (Jvb aa md σ h) Q=WR (aa σ h) λ xs h1=>WR (md σ h1) λ d h2=>∃i,xs=[.ref i]/\∃ys,h2[i]?=some (.lst ys)/\∃ns,Jd8 ys=some ns/\Q (maxD ns d) h2:=by
 unfold Jvb
 rw[Jf]
 congr 1;funext xs h1
 rw[Jf]
 congr 1;funext d h2
 match xs with
 | [.ref i] =>
  simp only[List.cons.injEq,IV.ref.injEq,and_true,exists_eq_left']
  cases e:h2[i]? with
  | none=>simp[WR]
  | some ob =>
   cases ob with
   | lst ys=>cases q:Jd8 ys<;>simp[WR,q]
   | _=>simp[WR]
 | []=>simp[WR]
 | [.non]=>simp[WR]
 | [.bl _]=>simp[WR]
 | [.int _]=>simp[WR]
 | [.str _]=>simp[WR]
 | [.tup _]=>simp[WR]
 | [.rol _]=>simp[WR]
 | x::_::_=>cases x<;>simp[WR]
theorem Jxm (aa:A1):WR (Jj3 aa σ h) Q=WR (aa σ h) λ xs h1=>∃i,xs=[.ref i]/\∃ys,h1[i]?=some (.lst ys)/\∃zs,Jnp ys=some zs/\zs.length+1<scanBound/\Q (.int (cntD (Jd5 zs) zs.length)) h1:=by
 unfold Jj3
 rw[Jf]
 congr 1;funext xs h1
 match xs with
 | [.ref i] =>
  simp only[List.cons.injEq,IV.ref.injEq,and_true,exists_eq_left']
  cases e:h1[i]? with
  | none=>simp[WR]
  | some ob =>
   cases ob with
   | lst ys =>
    cases q:Jnp ys with
    | none=>simp[WR,q]
    | some zs=>by_cases hz:zs.length+1<scanBound<;>simp[WR,q,hz]
   | _=>simp[WR]
 | []=>simp[WR]
 | [.non]=>simp[WR]
 | [.bl _]=>simp[WR]
 | [.int _]=>simp[WR]
 | [.str _]=>simp[WR]
 | [.tup _]=>simp[WR]
 | [.rol _]=>simp[WR]
 | x::_::_=>cases x<;>simp[WR]
theorem Jn7 {zs:List Str}(nd:zs.Nodup):∀i,i<=zs.length->cntD (Jd5 zs) i=i
 | 0,_=>rfl
 | i+1,hi=>by
  have ih:=Jn7 nd i (by omega)
  have hm:metB (Jd5 zs) i (Jd5 zs i)=false:=by
   unfold metB
   rw[List.any_eq_false]
   intro j hj
   have hj:=List.mem_range.mp hj
   simp only[decide_eq_true_eq]
   intro e
   simp only[Jd5,List.getD_eq_getElem?_getD,List.getElem?_eq_getElem (show j<zs.length by omega),List.getElem?_eq_getElem (show i<zs.length by omega),Option.getD_some] at e
   have:=(List.getElem_inj nd).mp e
   omega
  unfold cntD
  rw[hm,ih]
  rfl
theorem J1m (f:Nat->Int):∀(n j:Nat),j<n->f j<=Jct f n
 | 0,_,h=>by omega
 | 1,j,h=>by
  obtain rfl:j=0:=by omega
  exact Int.le_refl _
 | n+2,j,h=>by
  rw[Jik f (by omega)]
  by_cases hj:j=n+1
  ·subst hj;split<;>omega
  ·have:=J1m f (n+1) j (by omega)
   split<;>omega
theorem Jw4 (f:Nat->Int) (b:Int):∀(n:Nat),0<n->(∀j,j<n->f j<=b)->Jct f n<=b
 | 0,h,_=>by omega
 | 1,_,q=>q 0 (by omega)
 | n+2,_,q=>by
  rw[Jik f (by omega)]
  have:=Jw4 f b (n+1) (by omega) λ j hj=>q j (by omega)
  have:=q (n+1) (by omega)
  split<;>omega
end
section
variable {h:IH}{Q:IV->IH->Prop}{i:Nat}
theorem Jp1 {j:Nat}{xs ys:List IV}(hi:h[i]?=some (.lst xs)) (hj:h[j]?=some (.lst ys)) (hl:xs.length+ys.length<=sizeLine):WR (Jie (.ref i) [.ref j] h) Q=Q .non (h.set i (.lst (xs++ys))):=by
 unfold Jie
 simp only[hi,hj]
 rw[if_pos hl]
 rfl
end
noncomputable def KpB (i0:Nat) (h h':IH):Prop:=∀(j:Nat) (ob:IO),j≠i0->h[j]?=some ob->h'[j]?=some ob
noncomputable def Kp (h h':IH):Prop:=∀(j:Nat) (ob:IO),h[j]?=some ob->h'[j]?=some ob
theorem KpB.trans {i0:Nat}{a b c:IH}(p:KpB i0 a b) (q:KpB i0 b c):KpB i0 a c:=λ j ob n e=>q j ob n (p j ob n e)
theorem Kp.trans {a b c:IH}(p:Kp a b) (q:Kp b c):Kp a c:=λ j ob e=>q j ob (p j ob e)
theorem Kp.refl (a:IH):Kp a a:=λ _ _ e=>e
theorem Kp.but {i0:Nat}{a b:IH}(p:Kp a b):KpB i0 a b:=λ j ob _ e=>p j ob e
theorem Ex.kp {a b:IH}(x:Ex a b):Kp a b:=λ _ _ e=>x.get e
theorem J49 {chk:IH->Prop}{e:E1}{caps:ISt}{D:IV->IV->IH->Prop}(i0:Nat) (mono:∀x y h2 h3,KpB i0 h2 h3->D x y h2->D x y h3):∀{xs acc:List IV}{o:Option IV}{h1:IH},h1[i0]?=some (.lst acc)->(∀h2,KpB i0 h1 h2->chk h2)->acc.length+xs.length<sizeLine ->
  (∀x∈xs,∀h2:IH,KpB i0 h1 h2->i0<h2.length->WR (e (some x::caps) h2) λ v h3=>Ex h2 h3/\D x v h3) ->
  WR (Jd7 chk (gNm 0) Jay e i0 xs (o::caps) h1) λ v h3=>v=.ref i0/\∃ys,h3[i0]?=some (.lst (acc++ys))/\ys.length=xs.length/\KpB i0 h1 h3/\∀(i:Nat) x y,xs[i]?=some x->ys[i]?=some y->D x y h3
 | [],acc,o,h1,hi,hc,_,_=>by
  unfold Jd7
  rw[if_pos (hc h1 λ _ _ _ q=>q)]
  exact⟨rfl,[],by simpa using hi,rfl,λ _ _ _ q=>q,λ i x y q=>by simp at q⟩
 | x::xs,acc,o,h1,hi,hc,hl,he=>by
  unfold Jd7
  rw[if_pos (hc h1 λ _ _ _ q=>q)]
  dsimp only[gNm,List.set_cons_zero,Jay]
  have hl':acc.length+xs.length+1<sizeLine:=by simpa [Nat.add_assoc] using hl
  obtain⟨v,h3,e3,x3,dv⟩:=(he x List.mem_cons_self h1 (λ _ _ _ q=>q) (Ji7 hi)).eq
  rw[e3]
  dsimp only
  rw[x3.get hi]
  dsimp only
  rw[if_pos (by omega)]
  have k34:KpB i0 h3 (h3.set i0 (.lst (acc++[v]))):=λ j ob n q=>by
   rw[List.getElem?_set_ne (Ne.symm n)];exact q
  have k14:KpB i0 h1 (h3.set i0 (.lst (acc++[v]))):=x3.kp.but.trans k34
  refine WR.mono (J49 i0 mono (acc:=acc++[v]) (by rw[List.getElem?_set_self (Ji7 (x3.get hi))]) (λ h4 q=>hc h4 (k14.trans q)) (by simp;omega) λ y hy h4 q=>he y (List.mem_cons_of_mem _ hy) h4 (k14.trans q)) ?_
  rintro w h5 ⟨rfl,ys,g5,ln,k5,d5⟩
  refine⟨rfl,v::ys,by simpa using g5,by simp[ln],k14.trans k5,?_⟩
  intro i x' y' q1 q2
  cases i with
  | zero =>
   simp only[List.getElem?_cons_zero,Option.some.injEq] at q1 q2
   subst q1;subst q2
   exact mono _ _ _ _ (k34.trans k5) dv
  | succ i=>exact d5 i x' y' (by simpa using q1) (by simpa using q2)
theorem J0e {h h0:IH}{it:I1}{e:E1}{js:List Nat}{σ:ISt}{xs:List IV}{chk:IH->Prop}(D:IV->IV->IH->Prop) (hit:WR (it σ h0) λ J h1=>J.xs=xs/\J.chk=chk/\h1=h) (hl:xs.length<sizeLine)
  (mono:∀x y h2 h3,KpB h.length h2 h3->D x y h2->D x y h3) (hc:∀h2:IH,Kp h h2->chk h2)
  (he:∀x∈xs,∀h2:IH,Kp h h2->h.length<h2.length->WR (e (some x::js.map λ j=>(σ[j]?).join) h2) λ v h3=>Ex h2 h3/\D x v h3) :
  WR (Jx it 1 js (gNm 0) Jay e σ h0) λ v h3=>v=.ref h.length/\∃ys,h3[h.length]?=some (.lst ys)/\ys.length=xs.length/\Kp h h3/\∀(i:Nat) x y,xs[i]?=some x->ys[i]?=some y->D x y h3:=by
 obtain⟨J,h1,e1,q1,q2,rfl⟩:=hit.eq
 unfold Jx
 rw[e1]
 show WR (Jd7 J.chk (gNm 0) Jay e h1.length J.xs (none::js.map λ j=>(σ[j]?).join) (h1++[.lst []])) _
 rw[q1,q2]
 have lift:∀{h2:IH},KpB h1.length (h1++[IO.lst []]) h2->Kp h1 h2:=λ q j ob r=>q j ob (Nat.ne_of_lt (Ji7 r)) (grow r)
 refine WR.mono (J49 h1.length mono (acc:=[]) Jy (λ h2 q=>hc h2 (lift q)) (by simpa using hl) λ x hx h2 q ln=>he x hx h2 (lift q) ln) ?_
 rintro v h3 ⟨rfl,ys,g3,ln,k3,d3⟩
 exact⟨rfl,ys,by simpa using g3,ln,lift k3,d3⟩
section
variable {h:IH}
end
noncomputable def J1x (ts:List Addr) (H:Hp):Prop:=∀b,H b=none∨(∃o xs,H b=some (.frz o (.lst xs)))∨(b∈ts/\H b=some (.tbl #[]))
theorem Jv6 {P:Program}{w:World}{K:W.Frag}{mg mb:Str->Option Value}{k:Nat}{fa a:Addr}{fd:FuncData}{x:Str}{sp:Sp}{s₁:Shared}{vs:List Value}{ns:List Int}{ts:List Addr}
  (KX:K.In s₁.heap) (hns:s₁.heap.Ns mainGlobals mg) (hb:s₁.heap.Ns builtinsNs mb) (hbb:∀x:Str,x≠"__name__"->mb x=bootBuiltins x) (hlim:s₁.heap.NoLimit) (hg:s₁.gens=#[])
  (ha:s₁.heap.get? a=some { cls:=.type "list",data:=.seq vs.toArray }) (hi:IntsAre vs ns) (hl:ns.length<=sizeLine) (hr:Room k callerA)
  (hT:∀p∈ts,s₁.heap.get? p=some (W.tabObj #[])/\isCodeTable s₁.heap p/\K.lookup p=none)
  (hbm:∃bm ob,mg "__builtins__"=some (.ref bm)/\bm≠builtinsNs/\s₁.heap.get? bm=some ob/\ob.cls=.type "module"/\ob.dict=some builtinsNs/\ob.data=.plain)
  (F:∀base:Heap,K.In base->base.Ns mainGlobals mg->Jjq mg base->FnOk P w K mg base (CXI P w) k fa fd [x] sp) (hbind:∀(s:Shared) (u:Value),BindsTo s fd ⟨[u],[]⟩ [(x,u)])
  (hsp:∀H:Hp,J1x ts H->SqL K H a (ns.map V.int)->(∀p∈ts,H p=some (.tbl #[]))->sp [.ref a] H (λ v _=>v=.bl true) λ _ _ _=>False) :
  codeAny (model P w) callerA (.call (.ref fa) ⟨[.ref a],[]⟩) (λ r s'=>r=.ok (.ret (.bool true))/\OldK s₁.heap s'.heap/\s'.os=s₁.os/\AllBare s'.gens) s₁:=by
 have rv:=L2.Jfb hi
 have lenV:=hi.length
 have nta:a∉ts:=λ z=>by
  have e:=(hT a z).1
  rw[ha] at e
  have e':=Option.some.inj e
  injection e' with h1
  cases h1
 have core:∀H:Hp,J1x ts H->SqL K H a (ns.map V.int)->HOk P w H s₁.heap->(∀b,H b≠none->b=a∨b∈ts)->(H a≠none->K.lookup a=none)->(∀p∈ts,H p=some (.tbl #[])) ->
   codeAny (model P w) callerA (.call (.ref fa) ⟨[.ref a],[]⟩) (λ r s'=>r=.ok (.ret (.bool true))/\OldK s₁.heap s'.heap/\s'.os=s₁.os/\AllBare s'.gens) s₁:=by
  intro H hO hS hok hA hK hTt
  have base_of:∀{b:Addr}{o:Obj},s₁.heap.get? b=some o->H b=none->(hidT s₁.heap H).get? b=some o:=λ e n=>Jyt e n
  have noA:∀{b:Addr}{o:Obj},s₁.heap.get? b=some o->(∀vs n,o.data≠.seq vs n)->(∀vs,o.data≠.fields vs)->H b=none:=λ {b o} e d1 d2=>by
   cases q:H b with
   | none=>rfl
   | some u =>
    rcases hA b (by rw[q];simp) with e'|e'
    ·subst e'
     rw[ha] at e;cases e
     exact absurd rfl (d1 _ _)
    ·rw[(hT b e').1] at e;cases e
     exact absurd rfl (d2 _)
  have nsK:∀{b:Addr}{m:Str->Option Value},s₁.heap.Ns b m->(hidT s₁.heap H).Ns b m:=λ {b m} ⟨o,es,ep,e,d,r⟩=>⟨o,es,ep,base_of e (noA e (λ _ _ z=>by rw[d] at z;cases z) λ _ z=>by rw[d] at z;cases z),d,r⟩
  have hKb:K.In (hidT s₁.heap H):=λ b o e=>base_of (KX b o e) (by
   cases q:H b with
   | none=>rfl
   | some u =>
    rcases hA b (by rw[q];simp) with e'|e'
    ·subst e'
     rw[hK (by rw[q];simp)] at e;cases e
    ·rw[(hT b e').2.2] at e;cases e)
  have hM:Mod K mg (hidT s₁.heap H):=⟨hKb,nsK hns,⟨mb,nsK hb,hbb⟩,let ⟨mc,h1,h2⟩:=hlim;⟨mc,nsK h1,h2⟩⟩
  have hB:Jjq mg (hidT s₁.heap H):=by
   obtain⟨bm,ob,b1,b2,b3,b4,b5,b6⟩:=hbm
   refine⟨bm,ob,b1,b2,λ z=>?_,base_of b3 (noA b3 (λ _ _ z=>by rw[b6] at z;cases z) λ _ z=>by rw[b6] at z;cases z),b4,b5,b6⟩
   obtain⟨o,es,ep,e,d,_⟩:=hns
   rw[<- z,b3] at e
   cases e
   rw[b6] at d
   cases d
  have e0:Env0 P w K mg (hidT s₁.heap H) callerA [] s₁ H:=⟨rfl,hM,λ b o e=>J29 e,Nat.le_of_eq (Jvr _ _),trivial,λ b hb=>absurd (show b∈([]:List Addr) from hb) (by simp),hok,.of_eq hg⟩
  refine codeAny_mono ((F _ hKb (nsK hns) hB).run callerA [] s₁ H ⟨[.ref a],[]⟩ [.ref a] [.ref a] _ _ hr e0 (hbind s₁ (.ref a)) (.cons rfl .nil) (hsp H hO hS hTt)) λ r s' h=>?_
  cases r with
  | error e=>exact h.elim λ _ z=>z.2.2.2.2.elim
  | ok fl =>
   cases fl with
   | next=>exact False.elim h
   | brk=>exact False.elim h
   | cont=>exact False.elim h
   | ret u =>
    obtain⟨v,H',os,bare,un,hok',r',q⟩:=h
    have q':v=.bl true:=q
    subst q'
    obtain rfl:u=Value.bool true:=r'
    have main:∀b o,s₁.heap.get? b=some o->asItWas s₁.heap s'.heap b o/\∃o',s'.heap.get? b=some o':=λ b o e=>by
     rcases hO b with z|⟨ob,xs,z⟩|⟨hb,z⟩
     ·have:=un.keep b o e z (by intro z;exact absurd (show b∈([]:List Addr) from z) (by simp)) (by simp)
      exact⟨.inl this,_,this⟩
     ·have z2:=un.frzs b ob _ z
      obtain⟨e1,_⟩:=hok b _ z
      obtain⟨e2,_⟩:=hok' b _ z2
      rw[e] at e1;cases e1
      exact⟨.inl e2,_,e2⟩
     ·obtain⟨more,z2⟩:=un.tbls b _ z
      have e2:=hok' b _ z2
      have e1:=(hT b hb).1
      rw[e] at e1
      cases e1
      exact⟨.inr (.inl ⟨(hT b hb).2.1,rfl,#[],more,rfl,e2⟩),_,e2⟩
    exact⟨rfl,⟨λ b o e=>(main b o e).1,λ b o e=>(main b o e).2⟩,os,bare⟩
 cases hk:K.lookup a with
 | some o =>
  have e:=KX a o hk
  rw[ha] at e
  cases e
  refine core (λ b=>if b∈ts then some (.tbl #[]) else none) (λ b=>?_) (.inr ⟨_,vs.toArray,_,hk,rfl,rfl,rfl,by rw[List.size_toArray,lenV];exact hl,by simpa using rv⟩) (λ b u z=>?_) (λ b z=>?_) (λ z=>absurd (if_neg nta) z) λ p hp=>if_pos hp
  ·by_cases hb:b∈ts
   ·exact .inr (.inr ⟨hb,if_pos hb⟩)
   ·exact .inl (if_neg hb)
  ·by_cases hb:b∈ts
   ·have z':=(if_pos hb).symm.trans z
    cases z'
    exact(hT b hb).1
   ·have z':=(if_neg hb).symm.trans z
    cases z'
  ·by_cases hb:b∈ts
   ·exact .inr hb
   ·exact absurd (if_neg hb) z
 | none =>
  refine core (λ b=>if b=a then some (.frz { cls:=.type "list",data:=.seq vs.toArray } (.lst (ns.map V.int))) else if b∈ts then some (.tbl #[]) else none) (λ b=>?_) (.inl (.inr ⟨{ cls:=.type "list",data:=.seq vs.toArray },if_pos rfl⟩)) (λ b u z=>?_) (λ b z=>?_) (λ _=>hk) λ p hp=>?_
  ·by_cases hb:b=a
   ·exact .inr (.inl ⟨_,_,if_pos hb⟩)
   ·by_cases hc:b∈ts
    ·exact .inr (.inr ⟨hc,(if_neg hb).trans (if_pos hc)⟩)
    ·exact .inl ((if_neg hb).trans (if_neg hc))
  ·by_cases hb:b=a
   ·have z':=(if_pos hb).symm.trans z
    cases z'
    subst hb
    exact⟨ha,by rw[List.length_map];exact hl,vs,_,rv,ha⟩
   ·by_cases hc:b∈ts
    ·have z':=((if_neg hb).trans (if_pos hc)).symm.trans z
     cases z'
     exact(hT b hc).1
    ·have z':=((if_neg hb).trans (if_neg hc)).symm.trans z
     cases z'
  ·by_cases hb:b=a
   ·exact .inl hb
   ·by_cases hc:b∈ts
    ·exact .inr hc
    ·exact absurd ((if_neg hb).trans (if_neg hc)) z
  ·have hb:p≠a:=λ z=>nta (z▸hp)
   exact(if_neg hb).trans (if_pos hp)
noncomputable def Jyb (o:Obj) (q:Str):Bool:=match o with
 | ⟨_,_,.fields vs,_⟩=>(match vs.toList with|_::.str n _::_=>n==q|_=>false)
 | _=>false
noncomputable def Jkt (K:W.Frag) (q:Str) (p:Addr):Bool:=(K.lookup p).isNone&&K.all (λ e=>!(Jyb e.2 q)||W.codeHdIn K e.1 p)&&K.any (λ e=>Jyb e.2 q&&W.codeHdIn K e.1 p)
noncomputable def Jca (K:W.Frag):List Str->List Addr->Bool
 | [],[]=>true
 | q::qs,p::ps=>Jkt K q p&&!ps.contains p&&Jca K qs ps
 | _,_=>false
theorem Jtf {K:W.Frag}{c:Addr}{o:Obj}(h:K.lookup c=some o):(c,o)∈K:=by
 induction K with
 | nil=>cases h
 | cons p K ih =>
  obtain⟨b,o'⟩:=p
  rw[List.lookup_cons] at h
  split at h
  ·rename_i e
   cases h
   rw[beq_iff_eq.mp e]
   exact List.mem_cons_self
  ·exact List.mem_cons_of_mem _ (ih h)
theorem Jkt.code {K:W.Frag}{q:Str}{p:Addr}(h:Jkt K q p=true):∀cdv,W.codeIn K cdv q=true->∃c,cdv=.ref c/\W.codeHdIn K c p=true:=by
 simp only[Jkt,Bool.and_eq_true,List.all_eq_true,Bool.or_eq_true,Bool.not_eq_true'] at h
 intro cdv e
 unfold W.codeIn at e
 split at e
 ·rename_i c
  refine⟨c,rfl,?_⟩
  cases hk:K.lookup c with
  | none=>rw[hk] at e;cases e
  | some o =>
   rw[hk] at e
   rcases h.1.2 _ (Jtf hk) with z|z
   ·exfalso
    have e':Jyb o q=true:=by
     obtain⟨oc,od,dt,sl⟩:=o
     cases dt<;>first|exact e|cases e
    have z':Jyb o q=false:=z
    rw[e'] at z'
    cases z'
   ·exact z
 ·cases e
theorem Jkt.some {K:W.Frag}{q:Str}{p:Addr}(h:Jkt K q p=true):K.lookup p=none/\∃c,W.codeHdIn K c p=true:=by
 simp only[Jkt,Bool.and_eq_true,List.any_eq_true,Option.isNone_iff_eq_none] at h
 obtain⟨⟨h1,_⟩,e,_,h2⟩:=h
 exact⟨h1,e.1,h2.2⟩
theorem Jca.mem {K:W.Frag}:∀{qs:List Str}{ts:List Addr},Jca K qs ts=true->ts.Nodup/\qs.length=ts.length/\(∀(i:Nat) (q:Str),qs[i]?=some q->∃p,ts[i]?=some p/\Jkt K q p=true)/\∀p∈ts,∃q,Jkt K q p=true
 | [],[],_=>⟨.nil,rfl,λ i q e=>by simp at e,λ p hp=>by cases hp⟩
 | q::qs,p::ps,h=>by
  simp only[Jca,Bool.and_eq_true,Bool.not_eq_true',List.contains_eq_mem,decide_eq_false_iff_not] at h
  obtain⟨⟨h1,h2⟩,h3⟩:=h
  obtain⟨a,b,c,d⟩:=Jca.mem h3
  refine⟨List.nodup_cons.mpr ⟨h2,a⟩,by simp[b],λ i r e=>?_,λ r hr=>?_⟩
  ·cases i with
   | zero =>
    have e':some q=some r:=e
    cases e'
    exact⟨p,rfl,h1⟩
   | succ i=>exact c i r e
  ·rcases List.mem_cons.mp hr with rfl|hr
   ·exact⟨q,h1⟩
   ·exact d r hr
 | [],_::_,h=>by cases h
 | _::_,[],h=>by cases h
theorem Jtc {K:W.Frag}{x:Str}{f:List IV->IH->Res IV}{H:Hp}{a:Addr}{ns:List Int}{qs:List Str}{ts:List Addr}(hO:J1x ts H) (hS:SqL K H a (ns.map V.int)) (hT:∀p∈ts,H p=some (.tbl #[])) (hc:Jca K qs ts=true)
  (hf:∃h',f [.rol (ns.map IV.int)] (qs.map IO.tab)=.ok (.bl true) h'):Jub K x f [.ref a] H (λ v _=>v=.bl true) λ _ _ _=>False:=by
 intro ce
 obtain⟨h',hf⟩:=hf
 have sr:SqR K H a (ns.map V.int):=by
  rcases hS with(h|⟨o,h⟩)|h
  ·rcases hO a with z|⟨ob,xs,z⟩|⟨_,z⟩
   ·rw[z] at h;cases h
   ·rw[z] at h;cases h
   ·rw[z] at h;cases h
  ·exact .inl ⟨o,h⟩
  ·exact .inr h
 obtain⟨nd,le,at_,_⟩:=Jca.mem hc
 refine⟨rfl,ts,qs.map IO.tab,[.rol (ns.map IV.int)],⟨by simp[le],nd,λ i o e=>?_⟩,⟨.ref a,[],rfl,⟨a,_,rfl,sr,RVs.ints ns⟩,rfl⟩,?_⟩
 ·rw[List.getElem?_map] at e
  cases eq:qs[i]? with
  | none=>rw[eq] at e;cases e
  | some q =>
   rw[eq] at e
   cases e
   obtain⟨p,ep,hp⟩:=at_ i q eq
   exact⟨p,ep,Jkt.code hp,#[],hT p (List.mem_of_getElem? ep),trivial,λ pos cv z=>by cases z⟩
 ·rw[hf]
  intro v H' ι' _ _ q
  exact q
theorem J0d {l:W.OpenLaw}{n k:Nat}{q:Program}{loose:List Str}{XP:(Str->Option Value)->Heap->Prop}{YP:World->Heap->Prop}{d:DefRec}{K:Params->W.Frag}{f:List IV->IH->Res IV}{x:Str}{qs:List Str}{ts:List Addr}
  (hn:l.most=some n) (hn2:n<=sizeLine) (hdf:d.params.defaults=[]) (hr:Room k callerA)
  (hY:∀(w:World) (h:Heap),YP w h->(K w.params).In h/\∀p∈ts,h.get? p=some (W.tabObj #[])) (hc:∀w:World,Jca (K w.params) qs ts=true)
  (F:∀(w:World) (mg:Str->Option Value) (fa:Addr) (h:Heap),(K w.params).In h->h.Ns mainGlobals mg->mg d.name=some (.ref fa) ->
   ∃fd:FuncData,(∀(s:Shared) (u:Value),BindsTo s fd ⟨[u],[]⟩ [(x,u)]) /\
    ∀base:Heap,(K w.params).In base->base.Ns mainGlobals mg->Jjq mg base->FnOk l.prog w (K w.params) mg base (CXI l.prog w) k fa fd [x] (Jub (K w.params) x f))
  (hf:∀ns:List Int,ns.length<=n->∃h',f [.rol (ns.map IV.int)] (qs.map IO.tab)=.ok (.bl true) h') :
  W.WalkO q loose XP YP l.row.toRowW d [] (λ f vs=>PySem.call f vs):=by
 refine Att.attach_call hn hdf λ w s₀ s₁ mg mb fa o pm cd doc a vs ns G Y ho hd hcd hmg hobj hints hlen hg=>?_
 obtain⟨KX,hT⟩:=hY w _ Y
 obtain⟨fd,hb,hF⟩:=F w mg fa _ KX G.T.g hmg
 refine Jv6 KX G.T.g G.T.b G.T.builtins G.T.nolimit hg hobj hints (Nat.le_trans hlen hn2) hr (λ p hp=>?_) G.T.bmain hF hb λ H hO hS hTt=>Jtc hO hS hTt (hc w) (hf ns hlen)
 obtain⟨q,hq⟩:=(Jca.mem (hc w)).2.2.2 p hp
 obtain⟨h1,c,h2⟩:=Jkt.some hq
 exact⟨hT p hp,((W.codeHd_of_K KX h2).tab (hT p hp)).isCodeTable,h1⟩
noncomputable def Jcn (kf:IV->Int):IV->List IV->IV
 | b,[]=>b
 | b,y::r=>if kf y>kf b then Jcn kf y r else Jcn kf b r
theorem Jh8 (kf:IV->Int):∀(r:List IV) (b:IV),Jcn kf b r=b∨Jcn kf b r∈r
 | [],b=>.inl rfl
 | y::r,b=>by
  unfold Jcn
  split
  ·rcases Jh8 kf r y with e|e
   ·rw[e];exact .inr List.mem_cons_self
   ·exact .inr (List.mem_cons_of_mem _ e)
  ·rcases Jh8 kf r b with e|e
   ·exact .inl e
   ·exact .inr (List.mem_cons_of_mem _ e)
theorem Jjz (kf:IV->Int):∀(r:List IV) (b:IV),kf b<=kf (Jcn kf b r)/\∀y∈r,kf y<=kf (Jcn kf b r)
 | [],b=>⟨Int.le_refl _,λ y hy=>by cases hy⟩
 | y::r,b=>by
  unfold Jcn
  split
  ·rename_i h
   obtain⟨h1,h2⟩:=Jjz kf r y
   exact⟨by omega,λ z hz=>by
    rcases List.mem_cons.mp hz with rfl|hz
    ·exact h1
    ·exact h2 z hz⟩
  ·rename_i h
   obtain⟨h1,h2⟩:=Jjz kf r b
   exact⟨h1,λ z hz=>by
    rcases List.mem_cons.mp hz with rfl|hz
    ·omega
    ·exact h2 z hz⟩
theorem Jkx {mk:IV->IH->Res IV}{kf:IV->Int}{i:Nat}{ys:List IV}{h0:IH}(hi:h0[i]?=some (.lst ys)) (hm:∀y∈ys,∀h,Ex h0 h->WR (mk y h) λ v h'=>v=.int (kf y)/\Ex h h') :
  ∀(r:Nat) (b:IV) (h:IH),Ex h0 h->r<=ys.length->WR (Jf0 gtZ mk i ys.length r b (.int (kf b)) h) λ v h'=>v=Jcn kf b (ys.drop (ys.length-r))/\Ex h h'
 | 0,b,h,x,_=>by
  unfold Jf0
  rw[x.get hi]
  dsimp only
  rw[if_pos rfl]
  refine⟨?_,.refl _⟩
  rw[Nat.sub_zero,List.drop_length]
  rfl
 | r+1,b,h,x,hr=>by
  unfold Jf0
  rw[x.get hi]
  dsimp only
  rw[if_pos rfl]
  have hlt:ys.length-(r+1)<ys.length:=by omega
  rw[List.getElem?_eq_getElem hlt]
  dsimp only
  have hd:ys.drop (ys.length-(r+1))=ys[ys.length-(r+1)]::ys.drop (ys.length-r):=by
   rw[List.drop_eq_getElem_cons hlt,show ys.length-(r+1)+1=ys.length-r by omega]
  obtain⟨v,h2,e,rfl,x2⟩:=(hm _ (List.getElem_mem hlt) h x).eq
  rw[e,hd]
  show WR (match gtZ (.int (kf ys[ys.length-(r+1)])) (.int (kf b)) with|some true=>_|some false=>_|none=>_) _
  unfold gtZ
  dsimp only
  unfold Jcn
  by_cases hb:kf ys[ys.length-(r+1)]>kf b
  ·rw[decide_eq_true hb,if_pos hb]
   exact WR.mono (Jkx hi hm r _ h2 (x.trans x2) (by omega)) λ v h' ⟨a,c⟩=>⟨a,x2.trans c⟩
  ·rw[decide_eq_false hb,if_neg hb]
   exact WR.mono (Jkx hi hm r _ h2 (x.trans x2) (by omega)) λ v h' ⟨a,c⟩=>⟨a,x2.trans c⟩
noncomputable def Jut (kf:IV->Int) (d:IV):List IV->IV
 | []=>d
 | y::r=>Jcn kf y r
theorem J0f {mk:IV->IH->Res IV}{kf:IV->Int}{i:Nat}{ys:List IV}{h:IH}{d:IV}(hi:h[i]?=some (.lst ys)) (hm:∀y∈ys,∀h',Ex h h'->WR (mk y h') λ v h2=>v=.int (kf y)/\Ex h' h2) :
  WR (Jta gtZ mk i d h) λ v h'=>v=Jut kf d ys/\Ex h h':=by
 unfold Jta
 rw[hi]
 dsimp only
 cases ys with
 | nil=>exact⟨rfl,.refl _⟩
 | cons y r =>
  obtain⟨v,h2,e,rfl,x2⟩:=(hm y List.mem_cons_self h (.refl _)).eq
  show WR ((mk y h).nx.bind λ k h'=>Jf0 gtZ mk i (y::r).length ((y::r).length-1) y k h') _
  rw[e]
  have:=Jkx (kf:=kf) (x2.get hi) (λ z hz h' x=>hm z hz h' (x2.trans x)) ((y::r).length-1) y h2 (.refl _) (by simp)
  refine WR.mono this λ v h' ⟨a,c⟩=>⟨?_,x2.trans c⟩
  rw[a]
  simp[Jut]
section
variable {α β:Type}{σ:ISt}{h:IH}
noncomputable def WE (r:Res α) (Q:α->IH->Prop) (Z:Nat->IH->Prop):Prop:=match r with
 | .ok a h=>Q a h
 | .exc n h=>Z n h
 | .stuck=>False
noncomputable def WSE (r:SRes) (N:ISt->IH->Prop) (R:IV->IH->Prop) (Z:Nat->ISt->IH->Prop):Prop:=match r with
 | .next σ h=>N σ h
 | .ret v h=>R v h
 | .exc n σ h=>Z n σ h
 | _=>False
variable {Q:α->IH->Prop}{Z:Nat->IH->Prop}{N:ISt->IH->Prop}{R:IV->IH->Prop}{Y:Nat->ISt->IH->Prop}
theorem we_ok (a:α):WE (.ok a h) Q Z=Q a h:=rfl
theorem J4b {Q:β->IH->Prop}(r:Res α) (f:α->IH->Res β):WE (r.bind f) Q Z=WE r (λ a h=>WE (f a h) Q Z) Z:=by cases r<;>rfl
theorem WE.of {r:Res α}(w:WR r Q):WE r Q Z:=by
 cases r with
 | ok a h=>exact w
 | exc n h=>exact Zf w
 | stuck=>exact Zf w
theorem WE.mono {r:Res α}{Q':α->IH->Prop}{Z':Nat->IH->Prop}(w:WE r Q Z) (hq:∀a h,Q a h->Q' a h) (hz:∀n h,Z n h->Z' n h):WE r Q' Z':=by
 cases r with
 | ok a h=>exact hq _ _ w
 | exc n h=>exact hz _ _ w
 | stuck=>exact w
theorem WE.wr {r:Res α}(w:WE r Q λ _ _=>False):WR r Q:=by
 cases r with
 | ok a h=>exact w
 | exc n h=>exact w
 | stuck=>exact w
theorem WSE.of {r:SRes}(w:WS r N R):WSE r N R Y:=by
 cases r with
 | next σ h=>exact w
 | ret v h=>exact w
 | _=>exact Zf w
theorem Jp3 (r:Res α) (k:α->IH->SRes):WSE (rS σ r k) N R Y=WE r (λ a h=>WSE (k a h) N R Y) λ n h=>Y n σ h:=by cases r<;>rfl
theorem Jk0 (a b:S1):WSE (sSeq a b σ h) N R Y=WSE (a σ h) (λ σ1 h1=>WSE (b σ1 h1) N R Y) R Y:=by
 unfold sSeq;cases a σ h<;>rfl
theorem J4z:WSE (sNil σ h) N R Y=N σ h:=rfl
theorem Jx4 (i:Nat) (e:E1):WSE (sSet i e σ h) N R Y=WE (e σ h) (λ v h1=>N (σ.set i (some v)) h1) λ n h=>Y n σ h:=by unfold sSet;rw[Jp3];rfl
theorem J0l (e:E1):WSE (Jci e σ h) N R Y=WE (e σ h) (λ _ h1=>N σ h1) λ n h=>Y n σ h:=by unfold Jci;rw[Jp3];rfl
theorem J7y (t:T1) (a b:S1):WSE (sIf t a b σ h) N R Y=WE (t σ h) (λ c h1=>(c=true->WSE (a σ h1) N R Y)/\(c=false->WSE (b σ h1) N R Y)) λ n h=>Y n σ h:=by
 unfold sIf;rw[Jp3];congr 1;funext c h1;cases c<;>simp
theorem Jq7 {Q:IV->IH->Prop}(f:List IV->IH->Res IV) (d:List IV) (a:A1):WE (Jl f d a σ h) Q Z=WE (a σ h) (λ vs h1=>WE (f (vs++d) h1) Q Z) Z:=by unfold Jl;rw[J4b]
theorem J1t {Q:IV->IH->Prop}{r:SRes}(w:WSE r (λ _ h=>Q .non h) Q λ n _ h=>(∃c fs,h[n]?=some (.exc c fs))/\Z n h):WE r.fin Q Z:=by
 cases r with
 | next σ h=>exact w
 | ret v h=>exact w
 | exc n σ h =>
  obtain⟨⟨c,fs,e⟩,z⟩:=w
  rw[J2d e]
  exact z
 | _=>exact Zf w
theorem J7x (b:S1) (hs:List HdI) (w:WSE (b σ h) N R λ n σ1 h1=>∃c fs,h1[n]?=some (.exc c fs)/\WS (Je2 hs c n σ1 h1) N R):WS (sTry b hs σ h) N R:=by
 unfold sTry
 cases e:b σ h with
 | next σ1 h1=>rw[e] at w;exact w
 | ret v h1=>rw[e] at w;exact w
 | exc n σ1 h1 =>
  rw[e] at w
  obtain⟨c,fs,e1,w⟩:=w
  dsimp only
  rw[e1]
  exact w
 | _=>rw[e] at w;exact Zf w
theorem J4y (it:I1) (g:G1) (b:S1):WSE (sFor it g b σ h) N R Y=WE (it σ h) (λ J h1=>WSE (Jcs J.chk g b J.xs σ h1) N R Y) λ n h=>Y n σ h:=by unfold sFor;rw[Jp3]
theorem J0m {chk:IH->Prop}{g:G1}{b:S1}(I:Nat->ISt->IH->Prop){xs:List IV}(hc:∀i σ h,I i σ h->chk h)
  (turn:∀i (hi:i<xs.length) σ h,I i σ h->WS (g xs[i] σ h) (λ σ1 h1=>WSE (b σ1 h1) (I (i+1)) R λ n σ2 h2=>(∃c fs,h2[n]?=some (.exc c fs))/\Y n σ2 h2) λ _ _=>False) (done:∀σ h,I xs.length σ h->N σ h) (start:I 0 σ h):WSE (Jcs chk g b xs σ h) N R Y:=by
 have key:∀(n i:Nat) (σ:ISt) (h:IH),xs.length-i=n->i<=xs.length->I i σ h->WSE (Jcs chk g b (xs.drop i) σ h) N R Y:=by
  intro n
  induction n with
  | zero =>
   intro i σ h hn hi hI
   have:i=xs.length:=by omega
   subst this
   rw[List.drop_length]
   unfold Jcs
   rw[if_pos (hc _ _ _ hI)]
   exact done _ _ hI
  | succ n ih =>
   intro i σ h hn hi hI
   have hlt:i<xs.length:=by omega
   rw[List.drop_eq_getElem_cons hlt]
   unfold Jcs
   rw[if_pos (hc _ _ _ hI)]
   have t:=turn i hlt σ h hI
   cases eg:g xs[i] σ h with
   | next σ1 h1 =>
    rw[eg] at t
    have t':WSE (b σ1 h1) (I (i+1)) R λ n σ2 h2=>(∃c fs,h2[n]?=some (.exc c fs))/\Y n σ2 h2:=t
    dsimp only
    cases eb:b σ1 h1 with
    | next σ2 h2=>rw[eb] at t';exact ih (i+1) σ2 h2 (by omega) hlt t'
    | ret v h2=>rw[eb] at t';exact t'
    | exc m σ2 h2 =>
     rw[eb] at t'
     obtain⟨⟨c,fs,e⟩,y⟩:=t'
     dsimp only
     rw[e]
     exact y
    | _=>rw[eb] at t';exact(show False from t').elim
   | _=>rw[eg] at t;exact Zf t
 exact key xs.length 0 σ h (by omega) (Nat.zero_le _) start
theorem J4w (sl:Option Nat) (r:SRes):WS (r.drop sl) N R=WS r (λ σ h=>N (Jo2 sl none σ) h) R:=by
 unfold SRes.drop;cases r<;>rfl
theorem ws_hd {g:Str->Option Bool}{sl:Option Nat}{m:S1}{r:List HdI}{c:Str}{n:Nat}(e:g c=some true):WS (Je2 ((g,sl,m)::r) c n σ h) N R=WS (m (Jo2 sl (some (.ref n)) σ) h) (λ σ h=>N (Jo2 sl none σ) h) R:=by
 unfold Je2;dsimp only;rw[e];dsimp only;rw[J4w]
theorem J7m {n:Nat}{c:Str}{fs:List (Str×IV)}(e:h[n]?=some (.exc c fs)):tyI (.ref n) h=some (.exc c):=by simp[tyI,e]
end
end L4
namespace LW
theorem Kaz {α:Sort _}{p:α->Prop}{a':α}:(∃a,a'=a/\p a)↔p a':=exists_eq_left'
theorem Kbz {α:Sort _}{p:α->Prop}{a':α}:(∃a,a=a'/\p a)↔p a':=exists_eq_left
theorem Kcz (a b:Bool):(L3.IV.bl a=L3.IV.bl b)=(a=b):=L3.IV.bl.injEq a b
theorem Kdz (a b:Int):(L3.IV.int a=L3.IV.int b)=(a=b):=L3.IV.int.injEq a b
theorem Kez (a b:Nat):(L3.IV.ref a=L3.IV.ref b)=(a=b):=L3.IV.ref.injEq a b
theorem Kfz (a b:PySem.Str):(L3.IV.str a=L3.IV.str b)=(a=b):=L3.IV.str.injEq a b
theorem Kgz (a b:List L3.IV):(L3.IV.tup a=L3.IV.tup b)=(a=b):=L3.IV.tup.injEq a b
theorem Khz (a b:List L3.IV):(L3.IO.lst a=L3.IO.lst b)=(a=b):=L3.IO.lst.injEq a b
theorem Kiz {α:Type _}(a b:α):(some a=some b)=(a=b):=Option.some.injEq a b
theorem Kjz:(!true)=false:=Bool.not_true
theorem Kkz:(!false)=true:=Bool.not_false
theorem Klz:(true=false)=False:=Bool.true_eq_false
theorem Kmz:(false=true)=False:=Bool.false_eq_true
theorem Knz {α β:Type _}(a:α) (f:α->Option β):(some a).bind f=f a:=Option.bind_some a f
theorem Koz (p:Prop):(True->p)=p:=true_implies p
theorem Kpz (p:Prop):(False->p)=True:=false_implies p
theorem Kqz (α:Sort _):(α->True)=True:=implies_true α
theorem Krz {α:Type _}{a b:α}{l:List α}{n:Nat}:(a::l).set (n+1) b=a::l.set n b:=List.set_cons_succ
theorem Ksz {α:Type _}{a b:α}{l:List α}:(a::l).set 0 b=b::l:=List.set_cons_zero
theorem Ktz {α:Type _}{a:α}{l m:List α}:(a::l)++m=a::(l++m):=List.cons_append
theorem Kuz {α:Type _}(l:List α):[]++l=l:=List.nil_append l
theorem Kvz {α:Type _}(l:List α):l++[]=l:=List.append_nil l
end LW
namespace LW
open PySem L2 L3 L4
noncomputable def top (i:Nat):Stmt:=PySem.Challenge.pw_dutyproof_k73_slack.main.body.getD i (.Pass ⟨0,0,0,0⟩)
noncomputable def Ja0:D4:=⟨Je3 (top 6) 0,"NotKept.__init__",["self","at"],["self","at"],[]⟩
noncomputable def Jfm:D4:=⟨top 9,"is_whole",["thing"],["thing"],[]⟩
noncomputable def Jal:D4:=⟨top 10,"is_whole_from",["thing","least"],["thing","least"],[]⟩
noncomputable def Jdt:D4:=⟨top 11,"rounds_up",["top","bottom"],["top","bottom"],[]⟩
noncomputable def Jhm:D4:=⟨top 18,"is_name",["thing"],["thing"],[]⟩
noncomputable def Jhl:D4:=⟨top 19,"is_hold",["hold","length"],["hold","length"],[]⟩
noncomputable def Jdq:D4:=⟨top 20,"lie_apart",["one","other"],["one","other"],[]⟩
noncomputable def Jho:D4:=⟨top 21,"lies_in",["one","other"],["one","other"],[]⟩
noncomputable def Jbi:D4:=⟨top 22,"go_together",["one","other"],["one","other"],[]⟩
noncomputable def Jaa:D4:=⟨top 23,"all_go_together",["holds"],["holds","place","hold"],[]⟩
noncomputable def Jdr:D4:=⟨top 24,"own_holds",["holds","length"],["holds","length"],[]⟩
noncomputable def Jhp:D4:=⟨top 25,"own_due",["due","gap"],["due","gap"],[]⟩
noncomputable def Jp:D4:=⟨Je3 (top 26) 0,"Work.__init__",["self","name","gap","length","due","late","holds"],["self","name","gap","length","due","late","holds"],[.non,.int 0,.non]⟩
noncomputable def Jdm:D4:=⟨Je3 (top 26) 1,"Work.held",["self"],["self"],[]⟩
noncomputable def Jfk:D4:=⟨top 28,"ceilings",["duty"],["duty","found","at","hold"],[]⟩
noncomputable def Jb6:D4:=⟨top 29,"turns_held",["hold"],["hold"],[]⟩
noncomputable def Ja1:D4:=⟨top 30,"longest_hold",["duty","at"],["duty","at","tops","found","weaker"],[]⟩
noncomputable def Jhj:D4:=⟨top 31,"hold_up",["duty","at"],["duty","at","longest"],[]⟩
noncomputable def Jb4:D4:=⟨top 33,"comings_in",["work","span"],["work","span"],[]⟩
noncomputable def Jrx:D4:=⟨top 34,"load",["duty","at","span"],["duty","at","span","stronger","asked_ahead"],[]⟩
noncomputable def Jhk:D4:=⟨top 35,"in_time",["work","line"],["work","line"],[]⟩
noncomputable def Jjd:D4:=⟨top 36,"answer",["duty","at"],["duty","at","line","least"],[]⟩
noncomputable def Jmt:D4:=⟨top 38,"paper",["duty"],["duty","lines","at","line"],[]⟩
noncomputable def Jae:D4:=⟨top 40,"roomiest_lines",["duty","at"],["duty","at","last","lines","work"],[]⟩
noncomputable def Jry:D4:=⟨top 41,"room",["duty","at","other"],["duty","at","other","work"],[]⟩
noncomputable def Jmu:D4:=⟨top 42,"slack",["duty","at"],["duty","at"],[]⟩
noncomputable def Jds:D4:=⟨top 46,"own_works",["works"],["works"],[]⟩
noncomputable def Jfl:D4:=⟨top 47,"crowd_of",["works"],["works","greatest"],[]⟩
noncomputable def Jdj:D4:=⟨Je3 (top 48) 0,"Duty.__init__",["self","works"],["self","works"],[]⟩
noncomputable def Jdk:D4:=⟨Je3 (top 48) 1,"Duty.size",["self"],["self"],[]⟩
noncomputable def Jdl:D4:=⟨Je3 (top 48) 2,"Duty.work",["self","at"],["self","at"],[]⟩
noncomputable def Jex:D4:=⟨Je3 (top 48) 4,"Duty.crowd",["self"],["self"],[]⟩
noncomputable def Jbh:D4:=⟨Je3 (top 48) 6,"Duty.longer",["self","at","more"],["self","at","more","works","old"],[]⟩
noncomputable def Jbj:D4:=⟨top 50,"_law_cell_at",["_law_script","_law_k"],["_law_script","_law_k"],[]⟩
noncomputable def Jb5:D4:=⟨top 51,"_law_stream",["_law_cell","_law_many"],["_law_cell","_law_many","_law_found","_law_rest","_law_k","_law_number"],[]⟩
noncomputable def Jdp:D4:=⟨top 52,"_law_plain",["_law_cell","_law_unit","_law_many"],["_law_cell","_law_unit","_law_many","_law_xs","_law_gap","_law_length","_law_last","_law_late","_law_holds","_law_start","_law_end"],[]⟩
noncomputable def Jfn:D4:=⟨top 53,"_law_duty",["_law_some","_law_at","_law_more"],["_law_some","_law_at","_law_more","_law_works","_law_k","_law_gap","_law_length","_law_last","_law_late","_law_holds"],[]⟩
noncomputable def Jhn:D4:=⟨top 54,"_law_bad",["_law_duty_here"],["_law_duty_here"],[]⟩
noncomputable def Jfo:D4:=⟨top 55,"_law_told",["_law_duty_here","_law_at"],["_law_duty_here","_law_at","_law_found","e"],[]⟩
noncomputable def Jdo:D4:=⟨top 56,"_law_grown",["_law_duty_here","_law_some","_law_at","_law_more","_law_way"],["_law_duty_here","_law_some","_law_at","_law_more","_law_way"],[]⟩
noncomputable def Jdn:D4:=⟨top 57,"_law_exact",["_law_duty_here","_law_some","_law_at","_law_found","_law_cell"],["_law_duty_here","_law_some","_law_at","_law_found","_law_cell","_law_more"],[]⟩
noncomputable def Jj1:D4:=⟨top 58,"law",["_law_script"],["_law_script","_law_first","_law_unit","_law_many","_law_some","_law_duty_here","_law_bad_here","_law_at","_law_found"],[]⟩
noncomputable def T:Tab where
 fns:=[(("is_whole":Str),Jfm),(("is_whole_from":Str),Jal),(("rounds_up":Str),Jdt),(("is_name":Str),Jhm),(("is_hold":Str),Jhl),(("lie_apart":Str),Jdq),(("lies_in":Str),Jho),(("go_together":Str),Jbi),(("all_go_together":Str),Jaa),(("own_holds":Str),Jdr),(("own_due":Str),Jhp),(("ceilings":Str),Jfk),(("turns_held":Str),Jb6),(("longest_hold":Str),Ja1),(("hold_up":Str),Jhj),(("comings_in":Str),Jb4),(("load":Str),Jrx),(("in_time":Str),Jhk),(("answer":Str),Jjd),(("paper":Str),Jmt),(("roomiest_lines":Str),Jae),(("room":Str),Jry),(("slack":Str),Jmu),(("own_works":Str),Jds),(("crowd_of":Str),Jfl),(("_law_cell_at":Str),Jbj),(("_law_stream":Str),Jb5),(("_law_plain":Str),Jdp),(("_law_duty":Str),Jfn),(("_law_bad":Str),Jhn),(("_law_told":Str),Jfo),(("_law_grown":Str),Jdo),(("_law_exact":Str),Jdn),(("law":Str),Jj1)]
 clss:=[("Work",Jp),("Duty",Jdj)]
 meths:=[("Work",([("held",Jdm)]:List (Str×D4))),("Duty",([("size",Jdk),("work",Jdl),("crowd",Jex),("longer",Jbh)]:List (Str×D4)))]
 cons:=[("MOST_LETTERS",.int 8),("MOST_HOLDS",.int 6),("THING",.int 0),("START",.int 1),("END",.int 2),("MOST_WORKS",.int 12),("MOST_CROWD",.int 80)]
 isas:=[("Work",["Work"])]
 flds:=["append","due","extend","gap","hold_tuples","late","length","name","setdefault","stuck","works"]
 frees:=["all","bool","enumerate","int","isinstance","len","list","max","min","range","set","str","sum","tuple"]
 tabs:=["longest_hold"]
 xis:=[("NotKept",[("NotKept",true)]),("DutyError",[("NotKept",true)]),("ValueError",[("NotKept",true)]),("NoRanks",[("NotKept",false)])]
 xms:=[(("NotKept":Str),Ja0)]
 xfs:=[(("at":Str),["NotKept"])]
 xbs:=["DutyError"]
noncomputable def Jmc:Str->Option Bool:=λ c=>Jby c [("NotKept",true)]
noncomputable def Ji1:Str->Option Bool:=λ c=>Jby c [("NotKept",true)]
noncomputable def Jh3:Str->Option Bool:=λ c=>Jby c [("NotKept",true)]
noncomputable def Jmb:Str->Option Bool:=λ c=>Jby c [("NotKept",false)]
noncomputable abbrev pg (k:Nat):Pg:=mkPg T (run T k)
noncomputable abbrev Jad (k:Nat):List IV->IH->Res IV:=run T k Ja0
noncomputable abbrev Jfi (k:Nat):List IV->IH->Res IV:=run T k Jfm
noncomputable abbrev Jo (k:Nat):List IV->IH->Res IV:=run T k Jal
noncomputable abbrev Jbm (k:Nat):List IV->IH->Res IV:=run T k Jdt
noncomputable abbrev Jeb (k:Nat):List IV->IH->Res IV:=run T k Jhm
noncomputable abbrev Jgi (k:Nat):List IV->IH->Res IV:=run T k Jhl
noncomputable abbrev Jcz (k:Nat):List IV->IH->Res IV:=run T k Jdq
noncomputable abbrev Jec (k:Nat):List IV->IH->Res IV:=run T k Jho
noncomputable abbrev Jbf (k:Nat):List IV->IH->Res IV:=run T k Jbi
noncomputable abbrev J8 (k:Nat):List IV->IH->Res IV:=run T k Jaa
noncomputable abbrev Jav (k:Nat):List IV->IH->Res IV:=run T k Jdr
noncomputable abbrev Jcl (k:Nat):List IV->IH->Res IV:=run T k Jhp
noncomputable abbrev J6 (k:Nat):List IV->IH->Res IV:=run T k Jp
noncomputable abbrev Jcw (k:Nat):List IV->IH->Res IV:=run T k Jdm
noncomputable abbrev Jfg (k:Nat):List IV->IH->Res IV:=run T k Jfk
noncomputable abbrev Ja4 (k:Nat):List IV->IH->Res IV:=run T k Jb6
noncomputable abbrev Jaz (k:Nat):List IV->IH->Res IV:=run T k Ja1
noncomputable abbrev Jgg (k:Nat):List IV->IH->Res IV:=run T k Jhj
noncomputable abbrev J7 (k:Nat):List IV->IH->Res IV:=run T k Jb4
noncomputable abbrev Jgj (k:Nat):List IV->IH->Res IV:=run T k Jrx
noncomputable abbrev Jgh (k:Nat):List IV->IH->Res IV:=run T k Jhk
noncomputable abbrev Jff (k:Nat):List IV->IH->Res IV:=run T k Jjd
noncomputable abbrev Jmd (k:Nat):List IV->IH->Res IV:=run T k Jmt
noncomputable abbrev J1 (k:Nat):List IV->IH->Res IV:=run T k Jae
noncomputable abbrev Jro (k:Nat):List IV->IH->Res IV:=run T k Jry
noncomputable abbrev Jme (k:Nat):List IV->IH->Res IV:=run T k Jmu
noncomputable abbrev Jc0 (k:Nat):List IV->IH->Res IV:=run T k Jds
noncomputable abbrev Jfh (k:Nat):List IV->IH->Res IV:=run T k Jfl
noncomputable abbrev Jat (k:Nat):List IV->IH->Res IV:=run T k Jdj
noncomputable abbrev Jcu (k:Nat):List IV->IH->Res IV:=run T k Jdk
noncomputable abbrev Jcv (k:Nat):List IV->IH->Res IV:=run T k Jdl
noncomputable abbrev Jbe (k:Nat):List IV->IH->Res IV:=run T k Jbh
noncomputable abbrev J9 (k:Nat):List IV->IH->Res IV:=run T k Jbj
noncomputable abbrev Jbz (k:Nat):List IV->IH->Res IV:=run T k Jb5
noncomputable abbrev Jcy (k:Nat):List IV->IH->Res IV:=run T k Jdp
noncomputable abbrev Jck (k:Nat):List IV->IH->Res IV:=run T k Jfn
noncomputable abbrev Ja3 (k:Nat):List IV->IH->Res IV:=run T k Jhn
noncomputable abbrev Jfj (k:Nat):List IV->IH->Res IV:=run T k Jfo
noncomputable abbrev Jau (k:Nat):List IV->IH->Res IV:=run T k Jdo
noncomputable abbrev Jcx (k:Nat):List IV->IH->Res IV:=run T k Jdn
noncomputable abbrev Jp4 (k:Nat):List IV->IH->Res IV:=run T k Jj1
noncomputable def Jdy (k:Nat):S1:=(Jzu (xfOf T "at") "at" (eVar 0) (eVar 1))
noncomputable def Jba (k:Nat):S1:=sSeq (Jci (Joe (λ c=>((pg k).xo c).isSome) (Ja (eVar 0) (Ja (eFst [(eC (.str "the work with number ")),(eUn fmtI (eVar 1)),(eC (.str " has no answer"))]) aNil)))) (Jdy k)
theorem Jkk (k:Nat):Jad (k+1)=fnI 2 (Jba k):=by kernel_rfl
theorem Jj8 (k:Nat) (x0 x1:IV) (h:IH):Jad (k+1) [x0,x1] h=(Jba k [some x0,some x1] h).fin:=by rw[Jkk];rfl
noncomputable def Jiw (k:Nat):S1:=(sRet (eAnd (eIsi Jfr (eVar 0)) (eUn (Jtr tru) (eIsi Jbp (eVar 0))) tru))
theorem Jqx (k:Nat):Jfi (k+1)=fnI 1 (Jiw k):=by kernel_rfl
theorem Jqm (k:Nat) (x0:IV) (h:IH):Jfi (k+1) [x0] h=(Jiw k [some x0] h).fin:=by rw[Jqx];rfl
noncomputable def Jax (k:Nat):S1:=(sRet (eAnd (Jl (Jfi k) [] (Ja (eVar 0) aNil)) (eBin cGe (eVar 0) (eVar 1)) tru))
theorem Ji8 (k:Nat):Jo (k+1)=fnI 2 (Jax k):=by kernel_rfl
theorem Ji6 (k:Nat) (x0 x1:IV) (h:IH):Jo (k+1) [x0,x1] h=(Jax k [some x0,some x1] h).fin:=by rw[Ji8];rfl
noncomputable def Jdh (k:Nat):S1:=(sRet (eBin Jao (eBin Jhw (eBin Ju (eVar 0) (eVar 1)) (eC (.int 1))) (eVar 1)))
theorem Jpf (k:Nat):Jbm (k+1)=fnI 2 (Jdh k):=by kernel_rfl
theorem Jos (k:Nat) (x0 x1:IV) (h:IH):Jbm (k+1) [x0,x1] h=(Jdh k [some x0,some x1] h).fin:=by rw[Jpf];rfl
noncomputable def Jdi (k:Nat):E1:=(Je0 cLe cLe (eC (.str "a")) (eVar 0) (eC (.str "z")))
noncomputable def Jju (k:Nat):S1:=(sRet (eCB (on1 allI) (Ja (Jx (iAny (eVar 0)) 1 [] (gNm 0) Jay (Jdi k)) aNil)))
noncomputable def Jf6 (k:Nat):S1:=sSeq (sIf (tOrI (Jbk (tOfB tru (eIsi Jgm (eVar 0)))) (Jbk (tOfB asB (Je0 cLe cLe (eC (.int 1)) (eCB (on1 lenI) (Ja (eVar 0) aNil)) (eC (.int 8)))))) (sRet (eC (.bl false))) sNil) (Jju k)
theorem Jtx (k:Nat):Jeb (k+1)=fnI 1 (Jf6 k):=by kernel_rfl
theorem Jsy (k:Nat) (x0:IV) (h:IH):Jeb (k+1) [x0] h=(Jf6 k [some x0] h).fin:=by rw[Jtx];rfl
noncomputable def Jjt (k:Nat):S1:=(sRet (eAnd (Jl (Jo k) [] (Ja (eBin opIx (eVar 0) (eC (.int 2))) (Ja (eBin Ju (eBin opIx (eVar 0) (eC (.int 1))) (eC (.int 1))) aNil))) (eBin cLt (eBin opIx (eVar 0) (eC (.int 2))) (eVar 1)) tru))
noncomputable def Jjs (k:Nat):S1:=sSeq (sIf (Jbk (tOfB tru (Jl (Jo k) [] (Ja (eBin opIx (eVar 0) (eC (.int 1))) (Ja (eC (.int 0)) aNil))))) (sRet (eC (.bl false))) sNil) (Jjt k)
noncomputable def Jf5 (k:Nat):S1:=sSeq (sIf (tOrI (Jbk (tOfB tru (eIsi Jfs (eVar 0)))) (tOrI (tOfB asB (eBin cNe (eCB (on1 lenI) (Ja (eVar 0) aNil)) (eC (.int 3)))) (Jbk (tOfB tru (Jl (Jeb k) [] (Ja (eBin opIx (eVar 0) (eC (.int 0))) aNil)))))) (sRet (eC (.bl false))) sNil) (Jjs k)
theorem Jtw (k:Nat):Jgi (k+1)=fnI 2 (Jf5 k):=by kernel_rfl
theorem Jsx (k:Nat) (x0 x1:IV) (h:IH):Jgi (k+1) [x0,x1] h=(Jf5 k [some x0,some x1] h).fin:=by rw[Jtw];rfl
noncomputable def Jde (k:Nat):S1:=(sRet (eOr (eBin cLe (eBin opIx (eVar 0) (eC (.int 2))) (eBin opIx (eVar 1) (eC (.int 1)))) (eBin cLe (eBin opIx (eVar 1) (eC (.int 2))) (eBin opIx (eVar 0) (eC (.int 1)))) tru))
theorem Jpc (k:Nat):Jcz (k+1)=fnI 2 (Jde k):=by kernel_rfl
theorem Jop (k:Nat) (x0 x1:IV) (h:IH):Jcz (k+1) [x0,x1] h=(Jde k [some x0,some x1] h).fin:=by rw[Jpc];rfl
noncomputable def Jf8 (k:Nat):S1:=(sRet (eAnd (eBin cLe (eBin opIx (eVar 1) (eC (.int 1))) (eBin opIx (eVar 0) (eC (.int 1)))) (eBin cLe (eBin opIx (eVar 0) (eC (.int 2))) (eBin opIx (eVar 1) (eC (.int 2)))) tru))
theorem Jtz (k:Nat):Jec (k+1)=fnI 2 (Jf8 k):=by kernel_rfl
theorem Js0 (k:Nat) (x0 x1:IV) (h:IH):Jec (k+1) [x0,x1] h=(Jf8 k [some x0,some x1] h).fin:=by rw[Jtz];rfl
noncomputable def Jej (k:Nat):S1:=(sRet (eOr (Jl (Jec k) [] (Ja (eVar 0) (Ja (eVar 1) aNil))) (Jl (Jec k) [] (Ja (eVar 1) (Ja (eVar 0) aNil))) tru))
noncomputable def Jei (k:Nat):S1:=sSeq (sIf (tOfB asB (eBin cEq (eBin opIx (eVar 0) (eC (.int 0))) (eBin opIx (eVar 1) (eC (.int 0))))) (sRet (eC (.bl false))) sNil) (Jej k)
noncomputable def Jbu (k:Nat):S1:=sSeq (sIf (tOfB tru (Jl (Jcz k) [] (Ja (eVar 0) (Ja (eVar 1) aNil)))) (sRet (eC (.bl true))) sNil) (Jei k)
theorem Jlb (k:Nat):Jbf (k+1)=fnI 2 (Jbu k):=by kernel_rfl
theorem Jk6 (k:Nat) (x0 x1:IV) (h:IH):Jbf (k+1) [x0,x1] h=(Jbu k [some x0,some x1] h).fin:=by rw[Jlb];rfl
noncomputable def Ja6 (k:Nat):E1:=(Jl (Jbf k) [] (Ja (eVar 1) (Ja (eVar 0) aNil)))
noncomputable def Jbd (k:Nat):S1:=(sIf (Jbk (tOfB tru (eCB (on1 allI) (Ja (Jx (iAny (eSl slI (eVar 0) Jto (Jqu (eVar 1)))) 1 [2] (gNm 0) Jay (Ja6 k)) aNil)))) (sRet (eC (.bl false))) sNil)
noncomputable def Jbt (k:Nat):S1:=(sRet (eC (.bl true)))
noncomputable def Jaf (k:Nat):S1:=sSeq (sFor (iRg Jfz (Ja (eVar 0) aNil)) (gTp 2 (gC (gNm 1) (gC (gNm 2) gN))) (Jbd k)) (Jbt k)
theorem Jhy (k:Nat):J8 (k+1)=fnI 3 (Jaf k):=by kernel_rfl
theorem Jhq (k:Nat) (x0:IV) (h:IH):J8 (k+1) [x0] h=(Jaf k [some x0,none,none] h).fin:=by rw[Jhy];rfl
noncomputable def Jes (k:Nat):E1:=(Jl (Jgi k) [] (Ja (eVar 0) (Ja (eVar 1) aNil)))
noncomputable def Jet (k:Nat):E1:=(eTup (Ja (eBin opIx (eVar 0) (eC (.int 0))) (Ja (eBin opIx (eVar 0) (eC (.int 1))) (Ja (eBin opIx (eVar 0) (eC (.int 2))) aNil))))
noncomputable def Jg8 (k:Nat):S1:=(sRet (eCB (on1 Jku) (Ja (Jx (iAny (eVar 0)) 1 [] (gNm 0) Jay (Jet k)) aNil)))
noncomputable def Jg7 (k:Nat):S1:=sSeq (sIf (Jbk (tOfB tru (Jl (J8 k) [] (Ja (eVar 0) aNil)))) stS sNil) (Jg8 k)
noncomputable def Jg6 (k:Nat):S1:=sSeq (sIf (Jbk (tOfB tru (eCB (on1 allI) (Ja (Jx (iAny (eVar 0)) 1 [1] (gNm 0) Jay (Jes k)) aNil)))) stS sNil) (Jg7 k)
noncomputable def Jg5 (k:Nat):S1:=sSeq (sIf (tOfB asB (eBin cGt (eCB (on1 lenI) (Ja (eVar 0) aNil)) (eC (.int 6)))) stS sNil) (Jg6 k)
noncomputable def Jg4 (k:Nat):S1:=sSeq (sIf (Jbk (tOfB tru (eIsi Jbq (eVar 0)))) stS sNil) (Jg5 k)
noncomputable def Jdf (k:Nat):S1:=sSeq (sIf (tOfB asB (eBin cIs (eVar 0) (eC .non))) (sRet (eTup aNil)) sNil) (Jg4 k)
theorem Jpd (k:Nat):Jav (k+1)=fnI 2 (Jdf k):=by kernel_rfl
theorem Joq (k:Nat) (x0 x1:IV) (h:IH):Jav (k+1) [x0,x1] h=(Jdf k [some x0,some x1] h).fin:=by rw[Jpd];rfl
noncomputable def Jjw (k:Nat):S1:=(sRet (eVar 0))
noncomputable def Jjv (k:Nat):S1:=sSeq (sIf (tOrI (Jbk (tOfB tru (Jl (Jo k) [] (Ja (eVar 0) (Ja (eC (.int 1)) aNil))))) (tOfB asB (eBin cGt (eVar 0) (eVar 1)))) stS sNil) (Jjw k)
noncomputable def Jf9 (k:Nat):S1:=sSeq (sIf (tOfB asB (eBin cIs (eVar 0) (eC .non))) (sRet (eVar 1)) sNil) (Jjv k)
theorem Jt0 (k:Nat):Jcl (k+1)=fnI 2 (Jf9 k):=by kernel_rfl
theorem Js1 (k:Nat) (x0 x1:IV) (h:IH):Jcl (k+1) [x0,x1] h=(Jf9 k [some x0,some x1] h).fin:=by rw[Jt0];rfl
noncomputable def Jgx (k:Nat):S1:=(Jkm "hold_tuples" (eVar 0) (Jl (Jav k) [] (Ja (eVar 6) (Ja (eVar 3) aNil))))
noncomputable def Jgw (k:Nat):S1:=sSeq (Jkm "late" (eVar 0) (eVar 5)) (Jgx k)
noncomputable def Jgv (k:Nat):S1:=sSeq (Jkm "due" (eVar 0) (Jl (Jcl k) [] (Ja (eVar 4) (Ja (eVar 2) aNil)))) (Jgw k)
noncomputable def Jgu (k:Nat):S1:=sSeq (Jkm "length" (eVar 0) (eVar 3)) (Jgv k)
noncomputable def Jgt (k:Nat):S1:=sSeq (Jkm "gap" (eVar 0) (eVar 2)) (Jgu k)
noncomputable def Jgs (k:Nat):S1:=sSeq (Jkm "name" (eVar 0) (eVar 1)) (Jgt k)
noncomputable def Jgr (k:Nat):S1:=sSeq (sIf (Jbk (tOfB tru (Jl (Jo k) [] (Ja (eVar 5) (Ja (eC (.int 0)) aNil))))) stS sNil) (Jgs k)
noncomputable def Jgq (k:Nat):S1:=sSeq (sIf (Jbk (tOfB tru (Jl (Jo k) [] (Ja (eVar 3) (Ja (eC (.int 1)) aNil))))) stS sNil) (Jgr k)
noncomputable def Jgp (k:Nat):S1:=sSeq (sIf (Jbk (tOfB tru (Jl (Jo k) [] (Ja (eVar 2) (Ja (eC (.int 1)) aNil))))) stS sNil) (Jgq k)
noncomputable def Jc5 (k:Nat):S1:=sSeq (sIf (Jbk (tOfB tru (Jl (Jeb k) [] (Ja (eVar 1) aNil)))) stS sNil) (Jgp k)
theorem Jo8 (k:Nat):J6 (k+1)=fnI 7 (Jc5 k):=by kernel_rfl
theorem Jol (k:Nat) (x0 x1 x2 x3 x4 x5 x6:IV) (h:IH):J6 (k+1) [x0,x1,x2,x3,x4,x5,x6] h=(Jc5 k [some x0,some x1,some x2,some x3,some x4,some x5,some x6] h).fin:=by rw[Jo8];rfl
noncomputable def Jc4 (k:Nat):S1:=(sRet (eCB (on1 Jkf) (Ja (eFld "hold_tuples" (eVar 0)) aNil)))
theorem Jo7 (k:Nat):Jcw (k+1)=fnI 1 (Jc4 k):=by kernel_rfl
theorem Jok (k:Nat) (x0:IV) (h:IH):Jcw (k+1) [x0] h=(Jc4 k [some x0] h).fin:=by rw[Jo7];rfl
noncomputable def Jht (k:Nat):S1:=(Jci (eDot (pg k) "setdefault" 2 (eVar 1) (Ja (eBin opIx (eVar 3) (eC (.int 0))) (Ja (eVar 2) aNil))))
noncomputable def Jhu (k:Nat):S1:=(sFor (iAny (eDot (pg k) "held" 0 (eDot (pg k) "work" 1 (eVar 0) (Ja (eVar 2) aNil)) aNil)) (gNm 3) (Jht k))
noncomputable def Jiu (k:Nat):S1:=(sRet (eVar 1))
noncomputable def Jit (k:Nat):S1:=sSeq (sFor (iRg Jan (Ja (eDot (pg k) "size" 0 (eVar 0) aNil) aNil)) (gNm 2) (Jhu k)) (Jiu k)
noncomputable def Jeg (k:Nat):S1:=sSeq (sSet 1 Jyf) (Jit k)
theorem Jqv (k:Nat):Jfg (k+1)=fnI 4 (Jeg k):=by kernel_rfl
theorem Jqk (k:Nat) (x0:IV) (h:IH):Jfg (k+1) [x0] h=(Jeg k [some x0,none,none,none] h).fin:=by rw[Jqv];rfl
noncomputable def Jcd (k:Nat):S1:=(sRet (eBin Jhw (eBin Jhw (eBin opIx (eVar 0) (eC (.int 2))) (eBin opIx (eVar 0) (eC (.int 1)))) (eC (.int 1))))
theorem Jne (k:Nat):Ja4 (k+1)=fnI 1 (Jcd k):=by kernel_rfl
theorem Jm0 (k:Nat) (x0:IV) (h:IH):Ja4 (k+1) [x0] h=(Jcd k [some x0] h).fin:=by rw[Jne];rfl
noncomputable def Jb1 (k:Nat):E1:=(eTup (Ja (eVar 3) (Ja (eVar 0) aNil)))
noncomputable def Jb2 (k:Nat):T1:=(tOfB asB (eBin cLe (eBin Jtp (eVar 2) (eBin opIx (eVar 0) (eC (.int 0)))) (eVar 1)))
noncomputable def Jcq (k:Nat):S1:=(Jci (eDot (pg k) "extend" 1 (eVar 3) (Ja (Jx (iAny (eDot (pg k) "held" 0 (eDot (pg k) "work" 1 (eVar 0) (Ja (eVar 4) aNil)) aNil)) 1 [1,2,4] (gNm 0) (Jb2 k) (Jb1 k)) aNil)))
noncomputable def Jb3 (k:Nat):E1:=(Jl (Ja4 k) [] (Ja (eBin opIx (eVar 0) (eC (.int 1))) aNil))
noncomputable def Jd1 (k:Nat):S1:=(sRet (Jvc gtZ "longest_hold" 0 [] (Ja (eVar 3) aNil) (Jb3 k) (eC .non)))
noncomputable def Jd0 (k:Nat):S1:=sSeq (sFor (iRg Jd3 (Ja (eBin Ju (eVar 1) (eC (.int 1))) (Ja (eDot (pg k) "size" 0 (eVar 0) aNil) aNil))) (gNm 4) (Jcq k)) (Jd1 k)
noncomputable def Jdz (k:Nat):S1:=sSeq (sSet 3 (eLst aNil)) (Jd0 k)
noncomputable def Jbb (k:Nat):S1:=sSeq (sSet 2 (Jl (Jfg k) [] (Ja (eVar 0) aNil))) (Jdz k)
theorem Jkl (k:Nat):Jaz (k+1)=fnI 5 (Jbb k):=by kernel_rfl
theorem Jj9 (k:Nat) (x0 x1:IV) (h:IH):Jaz (k+1) [x0,x1] h=(Jbb k [some x0,some x1,none,none,none] h).fin:=by rw[Jkl];rfl
noncomputable def Jf3 (k:Nat):S1:=(sRet (eIf (tOfB asB (eBin cIs (eVar 2) (eC .non))) (eC (.int 0)) (Jl (Ja4 k) [] (Ja (eBin opIx (eVar 2) (eC (.int 1))) aNil))))
noncomputable def Jf2 (k:Nat):S1:=sSeq (sSet 2 (Jl (Jaz k) [] (Ja (eVar 0) (Ja (eVar 1) aNil)))) (Jf3 k)
theorem Jtu (k:Nat):Jgg (k+1)=fnI 3 (Jf2 k):=by kernel_rfl
theorem Jsv (k:Nat) (x0 x1:IV) (h:IH):Jgg (k+1) [x0,x1] h=(Jf2 k [some x0,some x1,none] h).fin:=by rw[Jtu];rfl
noncomputable def Jcb (k:Nat):S1:=(sRet (eIf (tOfB asB (eBin cGe (eVar 1) (eC (.int 1)))) (Jl (Jbm k) [] (Ja (eBin Ju (eVar 1) (eFld "late" (eVar 0))) (Ja (eFld "gap" (eVar 0)) aNil))) (eC (.int 0))))
theorem Jnc (k:Nat):J7 (k+1)=fnI 2 (Jcb k):=by kernel_rfl
theorem Jmy (k:Nat) (x0 x1:IV) (h:IH):J7 (k+1) [x0,x1] h=(Jcb k [some x0,some x1] h).fin:=by rw[Jnc];rfl
noncomputable def Jco (k:Nat):E1:=(eDot (pg k) "work" 1 (eVar 1) (Ja (eVar 0) aNil))
noncomputable def Jlm (k:Nat):E1:=(eBin Jb8 (Jl (J7 k) [] (Ja (eVar 0) (Ja (eVar 1) aNil))) (eFld "length" (eVar 0)))
noncomputable def Jrq (k:Nat):S1:=(sRet (eBin Ju (eBin Ju (Jl (Jgg k) [] (Ja (eVar 0) (Ja (eVar 1) aNil))) (eFld "length" (eDot (pg k) "work" 1 (eVar 0) (Ja (eVar 1) aNil)))) (eVar 4)))
noncomputable def Jrp (k:Nat):S1:=sSeq (sSet 4 (eCB (on1 sumI) (Ja (Jx (iAny (eVar 3)) 1 [2] (gNm 0) Jay (Jlm k)) aNil))) (Jrq k)
noncomputable def Jmn (k:Nat):S1:=sSeq (sSet 3 (Jx (iRg Jan (Ja (eVar 1) aNil)) 1 [0] (gNm 0) Jay (Jco k))) (Jrp k)
theorem J3i (k:Nat):Jgj (k+1)=fnI 5 (Jmn k):=by kernel_rfl
theorem J2g (k:Nat) (x0 x1 x2:IV) (h:IH):Jgj (k+1) [x0,x1,x2] h=(Jmn k [some x0,some x1,some x2,none,none] h).fin:=by rw[J3i];rfl
noncomputable def Jf4 (k:Nat):S1:=(sRet (eBin cLe (eBin Ju (eVar 1) (eFld "late" (eVar 0))) (eFld "due" (eVar 0))))
theorem Jtv (k:Nat):Jgh (k+1)=fnI 2 (Jf4 k):=by kernel_rfl
theorem Jsw (k:Nat) (x0 x1:IV) (h:IH):Jgh (k+1) [x0,x1] h=(Jf4 k [some x0,some x1] h).fin:=by rw[Jtv];rfl
noncomputable def Jkh (k:Nat):S1:=(sSeq (sSet 3 (Jl (Jgj k) [] (Ja (eVar 0) (Ja (eVar 1) (Ja (eVar 2) aNil))))) (sSeq (sIf (tOfB asB (eBin cLe (eVar 3) (eVar 2))) (sRet (eVar 2)) sNil) (sSet 2 (eVar 3))))
noncomputable def Jll (k:Nat):S1:=(sRet (eC .non))
noncomputable def Jlk (k:Nat):S1:=sSeq (Jl0 (tOfB tru (Jl (Jgh k) [] (Ja (eDot (pg k) "work" 1 (eVar 0) (Ja (eVar 1) aNil)) (Ja (eVar 2) aNil)))) (Jkh k)) (Jll k)
noncomputable def Jh7 (k:Nat):S1:=sSeq (sSet 2 (eC (.int 1))) (Jlk k)
theorem Jwo (k:Nat):Jff (k+1)=fnI 4 (Jh7 k):=by kernel_rfl
theorem Jvj (k:Nat) (x0 x1:IV) (h:IH):Jff (k+1) [x0,x1] h=(Jh7 k [some x0,some x1,none,none] h).fin:=by rw[Jwo];rfl
noncomputable def Jlv (k:Nat):S1:=(sSeq (sSet 3 (Jl (Jff k) [] (Ja (eVar 0) (Ja (eVar 2) aNil)))) (sSeq (sIf (tOfB asB (eBin cIs (eVar 3) (eC .non))) (Jkn (λ c=>c=="NotKept") (Jr2 "NotKept" (Jad k) [] (Ja (eVar 2) aNil))) sNil) (Jci (eDot (pg k) "append" 1 (eVar 1) (Ja (eVar 3) aNil)))))
noncomputable def Jnx (k:Nat):S1:=(sRet (eVar 1))
noncomputable def Jnw (k:Nat):S1:=sSeq (sFor (iRg Jan (Ja (eDot (pg k) "size" 0 (eVar 0) aNil) aNil)) (gNm 2) (Jlv k)) (Jnx k)
noncomputable def Jjx (k:Nat):S1:=sSeq (sSet 1 (eLst aNil)) (Jnw k)
theorem Jzr (k:Nat):Jmd (k+1)=fnI 4 (Jjx k):=by kernel_rfl
theorem Jyp (k:Nat) (x0:IV) (h:IH):Jmd (k+1) [x0] h=(Jjx k [some x0,none,none,none] h).fin:=by rw[Jzr];rfl
noncomputable def Jab (k:Nat):E1:=(eBin Jhw (eBin Jb8 (eVar 0) (eFld "gap" (eVar 1))) (eFld "late" (eVar 1)))
noncomputable def J0 (k:Nat):S1:=(Jci (eDot (pg k) "extend" 1 (eVar 3) (Ja (Jx (iRg Jd3 (Ja (eC (.int 1)) (Ja (Jl (J7 k) [] (Ja (eVar 4) (Ja (eVar 2) aNil))) aNil))) 1 [4] (gNm 0) Jay (Jab k)) aNil)))
noncomputable def Jb0 (k:Nat):S1:=(sRet (eVar 3))
noncomputable def Jak (k:Nat):S1:=sSeq (sFor (iAny (eSl slI (eFld "works" (eVar 0)) Jto (Jqu (eVar 1)))) (gNm 4) (J0 k)) (Jb0 k)
noncomputable def Jaj (k:Nat):S1:=sSeq (sSet 3 (eLst (Ja (eVar 2) aNil))) (Jak k)
noncomputable def Jai (k:Nat):S1:=sSeq (sSet 2 (eBin Jhw (eFld "due" (eDot (pg k) "work" 1 (eVar 0) (Ja (eVar 1) aNil))) (eFld "late" (eDot (pg k) "work" 1 (eVar 0) (Ja (eVar 1) aNil))))) (Jaj k)
theorem Jii (k:Nat):J1 (k+1)=fnI 5 (Jai k):=by kernel_rfl
theorem Jif (k:Nat) (x0 x1:IV) (h:IH):J1 (k+1) [x0,x1] h=(Jai k [some x0,some x1,none,none,none] h).fin:=by rw[Jii];rfl
noncomputable def Jia (k:Nat):E1:=(eBin Jao (eBin Jhw (eVar 0) (Jl (Jgj k) [] (Ja (eVar 1) (Ja (eVar 2) (Ja (eVar 0) aNil))))) (Jl (J7 k) [] (Ja (eVar 3) (Ja (eVar 0) aNil))))
noncomputable def Jmp (k:Nat):S1:=(sRet (eCB (on1 Jtk) (Ja (Jx (iAny (Jl (J1 k) [] (Ja (eVar 0) (Ja (eVar 2) aNil)))) 1 [0,2,3] (gNm 0) Jay (Jia k)) aNil)))
noncomputable def Jmo (k:Nat):S1:=sSeq (sSet 3 (eDot (pg k) "work" 1 (eVar 0) (Ja (eVar 1) aNil))) (Jmp k)
theorem J3j (k:Nat):Jro (k+1)=fnI 4 (Jmo k):=by kernel_rfl
theorem J2h (k:Nat) (x0 x1 x2:IV) (h:IH):Jro (k+1) [x0,x1,x2] h=(Jmo k [some x0,some x1,some x2,none] h).fin:=by rw[J3j];rfl
noncomputable def Jga (k:Nat):E1:=(Jl (Jro k) [] (Ja (eVar 2) (Ja (eVar 1) (Ja (eVar 0) aNil))))
noncomputable def Jny (k:Nat):S1:=(sRet (eCB (on1 Jtl) (Ja (Jx (iRg Jd3 (Ja (eVar 1) (Ja (eDot (pg k) "size" 0 (eVar 0) aNil) aNil))) 1 [1,0] (gNm 0) Jay (Jga k)) aNil)))
noncomputable def Jjy (k:Nat):S1:=sSeq (Jci (Jl (Jmd k) [] (Ja (eVar 0) aNil))) (Jny k)
theorem Jzs (k:Nat):Jme (k+1)=fnI 2 (Jjy k):=by kernel_rfl
theorem Jyq (k:Nat) (x0 x1:IV) (h:IH):Jme (k+1) [x0,x1] h=(Jjy k [some x0,some x1] h).fin:=by rw[Jzs];rfl
noncomputable def Jeu (k:Nat):E1:=(eIsi (J0p ["Work"]) (eVar 0))
noncomputable def Jev (k:Nat):E1:=(eFld "name" (eVar 0))
noncomputable def Jhb (k:Nat):S1:=(sRet (eCB (on1 Jku) (Ja (eVar 0) aNil)))
noncomputable def Jha (k:Nat):S1:=sSeq (sIf (tOfB asB (eBin cNe (Jj3 (Ja (Jx (iAny (eVar 0)) 1 [] (gNm 0) Jay (Jev k)) aNil)) (eCB (on1 lenI) (Ja (eVar 0) aNil)))) stS sNil) (Jhb k)
noncomputable def Jg9 (k:Nat):S1:=sSeq (sIf (Jbk (tOfB tru (eCB (on1 allI) (Ja (Jx (iAny (eVar 0)) 1 [] (gNm 0) Jay (Jeu k)) aNil)))) stS sNil) (Jha k)
noncomputable def Jdg (k:Nat):S1:=sSeq (sIf (Jbk (tOfB tru (eIsi Jbq (eVar 0)))) stS sNil) (Jg9 k)
theorem Jpe (k:Nat):Jc0 (k+1)=fnI 1 (Jdg k):=by kernel_rfl
theorem Jor (k:Nat) (x0:IV) (h:IH):Jc0 (k+1) [x0] h=(Jdg k [some x0] h).fin:=by rw[Jpe];rfl
noncomputable def Jfx (k:Nat):E1:=(eFld "due" (eVar 0))
noncomputable def Jfy (k:Nat):E1:=(Jl (Jbm k) [] (Ja (eBin Ju (eVar 1) (eFld "late" (eVar 0))) (Ja (eFld "gap" (eVar 0)) aNil)))
noncomputable def Jiv (k:Nat):S1:=(sRet (eCB (on1 sumI) (Ja (Jx (iAny (eVar 0)) 1 [1] (gNm 0) Jay (Jfy k)) aNil)))
noncomputable def Jeh (k:Nat):S1:=sSeq (sSet 1 (Jvb (Ja (Jx (iAny (eVar 0)) 1 [] (gNm 0) Jay (Jfx k)) aNil) (eC (.int 0)))) (Jiv k)
theorem Jqw (k:Nat):Jfh (k+1)=fnI 2 (Jeh k):=by kernel_rfl
theorem Jql (k:Nat) (x0:IV) (h:IH):Jfh (k+1) [x0] h=(Jeh k [some x0,none] h).fin:=by rw[Jqw];rfl
noncomputable def Jgo (k:Nat):S1:=(sIf (tOfB asB (eBin cGt (Jl (Jfh k) [] (Ja (eFld "works" (eVar 0)) aNil)) (eC (.int 80)))) stS sNil)
noncomputable def Jgn (k:Nat):S1:=sSeq (sIf (tOfB asB (eBin cGt (eCB (on1 lenI) (Ja (eFld "works" (eVar 0)) aNil)) (eC (.int 12)))) stS sNil) (Jgo k)
noncomputable def Jc1 (k:Nat):S1:=sSeq (Jkm "works" (eVar 0) (Jl (Jc0 k) [] (Ja (eVar 1) aNil))) (Jgn k)
theorem Jo4 (k:Nat):Jat (k+1)=fnI 2 (Jc1 k):=by kernel_rfl
theorem Joh (k:Nat) (x0 x1:IV) (h:IH):Jat (k+1) [x0,x1] h=(Jc1 k [some x0,some x1] h).fin:=by rw[Jo4];rfl
noncomputable def Jc2 (k:Nat):S1:=(sRet (eCB (on1 lenI) (Ja (eFld "works" (eVar 0)) aNil)))
theorem Jo5 (k:Nat):Jcu (k+1)=fnI 1 (Jc2 k):=by kernel_rfl
theorem Joi (k:Nat) (x0:IV) (h:IH):Jcu (k+1) [x0] h=(Jc2 k [some x0] h).fin:=by rw[Jo5];rfl
noncomputable def Jc3 (k:Nat):S1:=(sRet (eBin opIx (eFld "works" (eVar 0)) (eVar 1)))
theorem Jo6 (k:Nat):Jcv (k+1)=fnI 2 (Jc3 k):=by kernel_rfl
theorem Joj (k:Nat) (x0 x1:IV) (h:IH):Jcv (k+1) [x0,x1] h=(Jc3 k [some x0,some x1] h).fin:=by rw[Jo6];rfl
noncomputable def Jbs (k:Nat):S1:=(sRet (Ji5 "Duty" (Jat k) [] (Ja (eVar 3) aNil)))
noncomputable def Jef (k:Nat):S1:=sSeq (sAsg (Ji5 "Work" (J6 k) [] (Ja (eFld "name" (eVar 4)) (Ja (eFld "gap" (eVar 4)) (Ja (eBin Ju (eFld "length" (eVar 4)) (eVar 2)) (Ja (eFld "due" (eVar 4)) (Ja (eFld "late" (eVar 4)) (Ja (eDot (pg k) "held" 0 (eVar 4) aNil) aNil))))))) (gSb (eVar 3) (eVar 1))) (Jbs k)
noncomputable def Jee (k:Nat):S1:=sSeq (sSet 4 (eBin opIx (eFld "works" (eVar 0)) (eVar 1))) (Jef k)
noncomputable def Jbr (k:Nat):S1:=sSeq (sSet 3 (eCB (on1 Jkf) (Ja (eFld "works" (eVar 0)) aNil))) (Jee k)
theorem Jla (k:Nat):Jbe (k+1)=fnI 5 (Jbr k):=by kernel_rfl
theorem Jk5 (k:Nat) (x0 x1 x2:IV) (h:IH):Jbe (k+1) [x0,x1,x2] h=(Jbr k [some x0,some x1,some x2,none,none] h).fin:=by rw[Jla];rfl
noncomputable def Jek (k:Nat):S1:=(sRet (eC (.int 0)))
noncomputable def Jbv (k:Nat):S1:=sSeq (sIf (tOfB asB (eBin cLt (eVar 1) (eCB (on1 lenI) (Ja (eVar 0) aNil)))) (sRet (eBin opIx (eVar 0) (eVar 1))) sNil) (Jek k)
theorem Jlc (k:Nat):J9 (k+1)=fnI 2 (Jbv k):=by kernel_rfl
theorem Jk7 (k:Nat) (x0 x1:IV) (h:IH):J9 (k+1) [x0,x1] h=(Jbv k [some x0,some x1] h).fin:=by rw[Jlc];rfl
noncomputable def Je4 (k:Nat):S1:=(sSeq (Jci (eDot (pg k) "append" 1 (eVar 2) (Ja (eBin Jap (eVar 3) (eBin Jih (eC (.int 10)) (eC (.int 45)))) aNil))) (sSet 3 (eBin Jao (eVar 3) (eBin Jih (eC (.int 10)) (eC (.int 45))))))
noncomputable def Je5 (k:Nat):S1:=(sSeq (sSet 5 (eBin Jap (eBin Ju (eBin Ju (eBin Jb8 (eVar 5) (eVar 5)) (eBin Jb8 (eC (.int 48271)) (eVar 5))) (eVar 4)) (eBin Ju (eBin Jih (eC (.int 10)) (eC (.int 18))) (eC (.int 9))))) (Jci (eDot (pg k) "append" 1 (eVar 2) (Ja (eVar 5) aNil))))
noncomputable def Jfw (k:Nat):S1:=(sRet (eSl slI (eVar 2) (Jqu (eC (.int 2))) Jto))
noncomputable def Jfv (k:Nat):S1:=sSeq (sFor (iRg Jan (Ja (eBin Ju (eVar 1) (eC (.int 2))) aNil)) (gNm 4) (Je5 k)) (Jfw k)
noncomputable def Jfu (k:Nat):S1:=sSeq (sSet 5 (eBin Ju (eBin Jap (eVar 0) (eBin Ju (eBin Jih (eC (.int 10)) (eC (.int 18))) (eC (.int 9)))) (eC (.int 48271)))) (Jfv k)
noncomputable def Jft (k:Nat):S1:=sSeq (sIf (tOfB asB (eBin cGe (eVar 0) (eBin Jih (eC (.int 10)) (eC (.int 30))))) (sSeq (sSet 3 (eBin Jhw (eVar 0) (eBin Jih (eC (.int 10)) (eC (.int 30))))) (sSeq (sFor (iRg Jan (Ja (eVar 1) aNil)) (gNm 4) (Je4 k)) (sRet (eVar 2)))) sNil) (Jfu k)
noncomputable def Jcc (k:Nat):S1:=sSeq (sSet 2 (eLst aNil)) (Jft k)
theorem Jnd (k:Nat):Jbz (k+1)=fnI 6 (Jcc k):=by kernel_rfl
theorem Jmz (k:Nat) (x0 x1:IV) (h:IH):Jbz (k+1) [x0,x1] h=(Jcc k [some x0,some x1,none,none,none,none] h).fin:=by rw[Jnd];rfl
noncomputable def Jdd (k:Nat):S1:=(sRet (eTup (Ja (eVar 4) (Ja (eVar 5) (Ja (eVar 6) (Ja (eVar 7) (Ja (eVar 8) aNil)))))))
noncomputable def Jg3 (k:Nat):S1:=sSeq (sIf (Jw2 (tOfB asB (eBin cGt (eVar 5) (eC (.int 1)))) (tOfB asB (eBin cEq (eBin Jap (eBin opIx (eVar 3) (eC (.int 7))) (eC (.int 3))) (eC (.int 0))))) (sSeq (sSet 9 (eBin Jap (eBin opIx (eVar 3) (eC (.int 8))) (eBin Jhw (eVar 5) (eC (.int 1))))) (sSeq (sSet 10 (eBin Ju (eBin Ju (eVar 9) (eC (.int 1))) (eBin Jap (eBin opIx (eVar 3) (eC (.int 9))) (eBin Jhw (eBin Jhw (eVar 5) (eC (.int 1))) (eVar 9))))) (Jci (eDot (pg k) "append" 1 (eVar 8) (Ja (eTup (Ja (eBin opIx (eLst (Ja (eC (.str "ink")) (Ja (eC (.str "oven")) aNil))) (eBin Jap (eBin Jao (eBin opIx (eVar 3) (eC (.int 7))) (eC (.int 3))) (eC (.int 2)))) (Ja (eVar 9) (Ja (eVar 10) aNil)))) aNil))))) sNil) (Jdd k)
noncomputable def Jg2 (k:Nat):S1:=sSeq (sSet 8 (eLst aNil)) (Jg3 k)
noncomputable def Jg1 (k:Nat):S1:=sSeq (sSet 7 (eBin Jb8 (eBin Jao (eBin Jap (eBin opIx (eVar 3) (eC (.int 5))) (eC (.int 3))) (eC (.int 2))) (eBin Jap (eBin opIx (eVar 3) (eC (.int 6))) (eBin Ju (eBin Jao (eVar 4) (eC (.int 4))) (eC (.int 1)))))) (Jg2 k)
noncomputable def Jg0 (k:Nat):S1:=sSeq (sSet 6 (eBin Jhw (eVar 4) (eBin Jb8 (eBin Jap (eBin opIx (eVar 3) (eC (.int 3))) (eC (.int 2))) (eBin Jap (eBin opIx (eVar 3) (eC (.int 4))) (eBin Ju (eBin Jao (eVar 4) (eC (.int 2))) (eC (.int 1))))))) (Jg1 k)
noncomputable def Jgz (k:Nat):S1:=sSeq (sSet 5 (eBin Ju (eC (.int 1)) (eBin Jap (eBin opIx (eVar 3) (eC (.int 2))) (eBin Ju (eBin Jao (eBin Jb8 (eVar 4) (eBin opIx (eLst (Ja (eC (.int 5)) (Ja (eC (.int 2)) (Ja (eC (.int 2)) (Ja (eC (.int 10)) aNil))))) (eBin Jap (eBin Jao (eBin opIx (eVar 3) (eC (.int 1))) (eC (.int 5))) (eC (.int 4))))) (eBin Jb8 (eC (.int 10)) (eVar 2))) (eC (.int 1)))))) (Jg0 k)
noncomputable def Jgy (k:Nat):S1:=sSeq (sSet 4 (eBin Ju (eBin Jb8 (eVar 1) (eBin Ju (eC (.int 1)) (eBin Jap (eBin opIx (eVar 3) (eC (.int 0))) (eC (.int 8))))) (eBin Jap (eBin opIx (eVar 3) (eC (.int 1))) (eC (.int 5))))) (Jgz k)
noncomputable def Jdc (k:Nat):S1:=sSeq (sSet 3 (Jl (Jbz k) [] (Ja (eVar 0) (Ja (eC (.int 10)) aNil)))) (Jgy k)
theorem Jpb (k:Nat):Jcy (k+1)=fnI 11 (Jdc k):=by kernel_rfl
theorem Joo (k:Nat) (x0 x1 x2:IV) (h:IH):Jcy (k+1) [x0,x1,x2] h=(Jdc k [some x0,some x1,some x2,none,none,none,none,none,none,none,none] h).fin:=by rw[Jpb];rfl
noncomputable def Jhv (k:Nat):S1:=(sSeq (sAsg (eBin opIx (eVar 0) (eVar 4)) (gTp 5 (gC (gNm 5) (gC (gNm 6) (gC (gNm 7) (gC (gNm 8) (gC (gNm 9) gN))))))) (sSeq (sIf (tOfB asB (eBin cEq (eVar 4) (eVar 1))) (sSet 6 (eBin Ju (eVar 6) (eVar 2))) sNil) (Jci (eDot (pg k) "append" 1 (eVar 3) (Ja (Ji5 "Work" (J6 k) [] (Ja (eBin Ju (eC (.str "work")) (eBin opIx (eC (.str "stuvw")) (eVar 4))) (Ja (eVar 5) (Ja (eVar 6) (Ja (eVar 7) (Ja (eVar 8) (Ja (eCB (on1 Jkf) (Ja (eVar 9) aNil)) aNil))))))) aNil)))))
noncomputable def Jen (k:Nat):S1:=(sRet (Ji5 "Duty" (Jat k) [] (Ja (eVar 3) aNil)))
noncomputable def Jem (k:Nat):S1:=sSeq (sFor (iRg Jan (Ja (eCB (on1 lenI) (Ja (eVar 0) aNil)) aNil)) (gNm 4) (Jhv k)) (Jen k)
noncomputable def Jel (k:Nat):S1:=sSeq (sSet 3 (eLst aNil)) (Jem k)
theorem Jqy (k:Nat):Jck (k+1)=fnI 10 (Jel k):=by kernel_rfl
theorem Jqn (k:Nat) (x0 x1 x2:IV) (h:IH):Jck (k+1) [x0,x1,x2] h=(Jel k [some x0,some x1,some x2,none,none,none,none,none,none,none] h).fin:=by rw[Jqy];rfl
noncomputable def Jhd (k:Nat):E1:=(eVar 0)
noncomputable def Jhe (k:Nat):T1:=(tOfB asB (eBin cIs (Jl (Jff k) [] (Ja (eVar 1) (Ja (eVar 0) aNil))) (eC .non)))
noncomputable def Jf7 (k:Nat):S1:=(sRet (Jx (iRg Jan (Ja (eDot (pg k) "size" 0 (eVar 0) aNil) aNil)) 1 [0] (gNm 0) (Jhe k) (Jhd k)))
theorem Jty (k:Nat):Ja3 (k+1)=fnI 1 (Jf7 k):=by kernel_rfl
theorem Jsz (k:Nat) (x0:IV) (h:IH):Ja3 (k+1) [x0] h=(Jf7 k [some x0] h).fin:=by rw[Jty];rfl
noncomputable def Jep (k:Nat):S1:=(sRet (eVar 2))
noncomputable def Jeo (k:Nat):S1:=sSeq (sTry (sSet 2 (Jl (Jme k) [] (Ja (eVar 0) (Ja (eVar 1) aNil)))) [(Jmc,some 3,(sSet 2 (eTup (Ja (Jsr (xfOf T "at") "at" (eVar 3)) (Ja (eIsi (J44 Ji1) (eVar 3)) (Ja (eIsi (J44 Jh3) (eVar 3)) (Ja (eIsi (J44 Jmb) (eVar 3)) aNil)))))))]) (Jep k)
theorem Jqz (k:Nat):Jfj (k+1)=fnI 4 (Jeo k):=by kernel_rfl
theorem Jqo (k:Nat) (x0 x1:IV) (h:IH):Jfj (k+1) [x0,x1] h=(Jeo k [some x0,some x1,none,none] h).fin:=by rw[Jqz];rfl
noncomputable def Jdb (k:Nat):S1:=(sRet (Jl (Jck k) [] (Ja (eVar 1) (Ja (eVar 2) (Ja (eVar 3) aNil)))))
noncomputable def Jda (k:Nat):S1:=sSeq (sIf (tOfB asB (eBin cEq (eVar 4) (eC (.int 1)))) (sRet (eDot (pg k) "longer" 2 (eVar 0) (Ja (eVar 2) (Ja (eVar 3) aNil)))) sNil) (Jdb k)
theorem Jpa (k:Nat):Jau (k+1)=fnI 5 (Jda k):=by kernel_rfl
theorem Jon (k:Nat) (x0 x1 x2 x3 x4:IV) (h:IH):Jau (k+1) [x0,x1,x2,x3,x4] h=(Jda k [some x0,some x1,some x2,some x3,some x4] h).fin:=by rw[Jpa];rfl
noncomputable def Jcg (k:Nat):S1:=(sIf (tOfB asB (eBin cNe (Jl (Ja3 k) [] (Ja (Jl (Jau k) [] (Ja (eVar 0) (Ja (eVar 1) (Ja (eVar 2) (Ja (eVar 5) (Ja (eBin Jap (eBin Jao (eVar 4) (eC (.int 3))) (eC (.int 2))) aNil)))))) aNil)) (eLst aNil))) (sRet (eC (.bl false))) sNil)
noncomputable def Jch (k:Nat):S1:=(sIf (tOfB asB (eBin cEq (Jl (Ja3 k) [] (Ja (Jl (Jau k) [] (Ja (eVar 0) (Ja (eVar 1) (Ja (eVar 2) (Ja (eVar 5) (Ja (eBin Jap (eBin Jao (eVar 4) (eC (.int 3))) (eC (.int 2))) aNil)))))) aNil)) (eLst aNil))) (sRet (eC (.bl false))) sNil)
noncomputable def Jc9 (k:Nat):S1:=(sRet (eC (.bl true)))
noncomputable def Jc8 (k:Nat):S1:=sSeq (sFor (iAny (eLst (Ja (eBin Ju (eVar 3) (eC (.int 1))) (Ja (eBin Ju (eBin Ju (eVar 3) (eC (.int 1))) (eBin Jap (eVar 4) (eBin Jb8 (eC (.int 2)) (eBin opIx (eBin opIx (eVar 1) (eVar 2)) (eC (.int 0)))))) aNil)))) (gNm 5) (Jch k)) (Jc9 k)
noncomputable def Jc7 (k:Nat):S1:=sSeq (sFor (iAny (eLst (Ja (eVar 3) (Ja (eBin Jap (eVar 4) (eBin Ju (eVar 3) (eC (.int 1)))) aNil)))) (gNm 5) (Jcg k)) (Jc8 k)
noncomputable def Jc6 (k:Nat):S1:=sSeq (sIf (tOrI (Jbk (tOfB tru (eIsi Jfr (eVar 3)))) (tOrI (tOfB tru (eIsi Jbp (eVar 3))) (tOfB asB (eBin cLt (eVar 3) (eC (.int 0)))))) (sRet (eC (.bl false))) sNil) (Jc7 k)
theorem Jo9 (k:Nat):Jcx (k+1)=fnI 6 (Jc6 k):=by kernel_rfl
theorem Jom (k:Nat) (x0 x1 x2 x3 x4:IV) (h:IH):Jcx (k+1) [x0,x1,x2,x3,x4] h=(Jc6 k [some x0,some x1,some x2,some x3,some x4,none] h).fin:=by rw[Jo9];rfl
noncomputable def Jhc (k:Nat):E1:=(Jl (Jcy k) [] (Ja (Jl (J9 k) [] (Ja (eVar 2) (Ja (eBin Ju (eC (.int 1)) (eVar 0)) aNil))) (Ja (eVar 3) (Ja (eVar 1) aNil))))
noncomputable def Jjg (k:Nat):S1:=(sSeq (sSet 8 (Jl (Jfj k) [] (Ja (eVar 5) (Ja (eVar 7) aNil)))) (sIf (tOfB asB (eBin cNe (eVar 6) (eLst aNil))) (sSeq (sIf (tOrI (Jbk (tOfB tru (eIsi Jfs (eVar 8)))) (tOfB tru (eIsi Jbp (eBin opIx (eVar 8) (eC (.int 0)))))) (sRet (eC (.bl false))) sNil) (sIf (tOfB asB (eBin cNe (eVar 8) (eTup (Ja (eBin opIx (eVar 6) (eC (.int 0))) (Ja (eC (.bl true)) (Ja (eC (.bl true)) (Ja (eC (.bl false)) aNil))))))) (sRet (eC (.bl false))) sNil)) (sIf (Jbk (tOfB tru (Jl (Jcx k) [] (Ja (eVar 5) (Ja (eVar 4) (Ja (eVar 7) (Ja (eVar 8) (Ja (eBin Jap (Jl (J9 k) [] (Ja (eVar 0) (Ja (eBin Ju (eC (.int 6)) (eVar 7)) aNil))) (eBin Jih (eC (.int 10)) (eC (.int 30)))) aNil)))))))) (sRet (eC (.bl false))) sNil)))
noncomputable def Jqd (k:Nat):S1:=(sRet (eBin cEq (Jl (Ja3 k) [] (Ja (eVar 5) aNil)) (eVar 6)))
noncomputable def Jqc (k:Nat):S1:=sSeq (sFor (iRg Jan (Ja (eVar 3) aNil)) (gNm 7) (Jjg k)) (Jqd k)
noncomputable def Jqb (k:Nat):S1:=sSeq (sSet 6 (Jl (Ja3 k) [] (Ja (eVar 5) aNil))) (Jqc k)
noncomputable def Jmm (k:Nat):S1:=sSeq (sSet 5 (Jl (Jck k) [] (Ja (eVar 4) (Ja (eC (.int 0)) (Ja (eC (.int 0)) aNil))))) (Jqb k)
noncomputable def Jqa (k:Nat):S1:=sSeq (sSet 4 (Jx (iRg Jan (Ja (eVar 3) aNil)) 1 [3,0,2] (gNm 0) Jay (Jhc k))) (Jmm k)
noncomputable def Jp9 (k:Nat):S1:=sSeq (sSet 3 (eBin Ju (eC (.int 1)) (eBin Jap (eBin Jao (eVar 1) (eC (.int 8))) (eC (.int 5))))) (Jqa k)
noncomputable def Jml (k:Nat):S1:=sSeq (sSet 2 (eBin Ju (eC (.int 1)) (eBin Jap (eBin Jao (eVar 1) (eC (.int 4))) (eBin opIx (eLst (Ja (eC (.int 3)) (Ja (eBin Jih (eC (.int 10)) (eC (.int 15))) aNil))) (eBin Jap (eVar 1) (eC (.int 2))))))) (Jp9 k)
noncomputable def Jmk (k:Nat):S1:=sSeq (sSet 1 (Jl (J9 k) [] (Ja (eVar 0) (Ja (eC (.int 0)) aNil)))) (Jml k)
theorem J6x (k:Nat):Jp4 (k+1)=fnI 9 (Jmk k):=by kernel_rfl
theorem J5i (k:Nat) (x0:IV) (h:IH):Jp4 (k+1) [x0] h=(Jmk k [some x0,none,none,none,none,none,none,none,none] h).fin:=by rw[J6x];rfl
theorem Jez (k:Nat):Joc (pg k) "held" 0 "Work"=some (Jcw k,[]):=by kernel_rfl
theorem Jey (k:Nat):Joc (pg k) "size" 0 "Duty"=some (Jcu k,[]):=by kernel_rfl
theorem Jw (k:Nat):Joc (pg k) "work" 1 "Duty"=some (Jcv k,[]):=by kernel_rfl
theorem Jk4 (k:Nat):Joc (pg k) "longer" 2 "Duty"=some (Jbe k,[]):=by kernel_rfl
end LW
section
open PySem L2 L3 L4
local macro_rules | `(tactic| simp! [$xs,*]) => `(tactic| simp (implicitDefEqProofs := false) only [Jkz, Jx2, Jrm, Jp2, Juf, Jis, Jrn, Jir, Jsl, Jh2, Jrl, Jx3, Jx1, Jiq, Jf, Jli, wr_c, Jyi, J18, Jp0, J4v, Jxc, J4s, J4i, Jrh, Jxy, Jri, Jky, Jjp, Jq9, Jfq, Jxz, Jxn, Jnr, Jre, Jxe, Jxt, Jxi, Jnu, Jnv, J4t, Jxg, Jxb, Jxw, Jxq, Jxp, Jrb, Jxo, Jxu, Jq8, J4l, J4k, J4h, J4g, J4f, J4q, Jxf, Jxr, Jxd, Jrj, Jxs, Jl9, J4r, Jns, Jxh, Jrf, Jrg, Jxj, Jxl, Jxk, Jxv, Jnt, List.set_cons_succ, List.set_cons_zero, List.append_nil, List.cons_append, List.nil_append, exists_eq_left, exists_eq_left', IV.bl.injEq, IV.int.injEq, IV.ref.injEq, IV.str.injEq, IO.lst.injEq, IV.tup.injEq, Option.some.injEq, Bool.not_true, Bool.not_false, reduceCtorEq, eq_self, true_implies, false_implies, implies_true, and_true, true_and, and_false, false_and, Option.bind_some, Bool.true_eq_false, Bool.false_eq_true, Jl5, Jil, Jl6, Jue, Jl3, Jl4, Jfr, Jbp, Jgm, Jbq, Jbg, Jfs, Jkw, Jma, Jk2, Jmj, Jp5, Jp6, Jsq, Jip, Jin, Jio, $xs,*])
local macro_rules | `(tactic| simp_all! [$xs,*]) => `(tactic| try simp (implicitDefEqProofs := false) only [Jkz, Jx2, Jrm, Jp2, Juf, Jis, Jrn, Jir, Jsl, Jh2, Jrl, Jx3, Jx1, Jiq, Jf, Jli, wr_c, Jyi, J18, Jp0, J4v, Jxc, J4s, J4i, Jrh, Jxy, Jri, Jky, Jjp, Jq9, Jfq, Jxz, Jxn, Jnr, Jre, Jxe, Jxt, Jxi, Jnu, Jnv, J4t, Jxg, Jxb, Jxw, Jxq, Jxp, Jrb, Jxo, Jxu, Jq8, J4l, J4k, J4h, J4g, J4f, J4q, Jxf, Jxr, Jxd, Jrj, Jxs, Jl9, J4r, Jns, Jxh, Jrf, Jrg, Jxj, Jxl, Jxk, Jxv, Jnt, List.set_cons_succ, List.set_cons_zero, List.append_nil, List.cons_append, List.nil_append, exists_eq_left, exists_eq_left', IV.bl.injEq, IV.int.injEq, IV.ref.injEq, IV.str.injEq, IO.lst.injEq, IV.tup.injEq, Option.some.injEq, Bool.not_true, Bool.not_false, reduceCtorEq, eq_self, true_implies, false_implies, implies_true, and_true, true_and, and_false, false_and, Option.bind_some, Bool.true_eq_false, Bool.false_eq_true, Jl5, Jil, Jl6, Jue, Jl3, Jl4, Jfr, Jbp, Jgm, Jbq, Jbg, Jfs, Jkw, Jma, Jk2, Jmj, Jp5, Jp6, Jsq, Jip, Jin, Jio, $xs,*])
local macro_rules | `(tactic| dsimp! [$xs,*]) => `(tactic| simp (implicitDefEqProofs := false) only [Jkz, Jx2, Jrm, Jp2, Juf, Jis, Jrn, Jir, Jsl, Jh2, Jrl, Jx3, Jx1, Jiq, Jf, Jli, wr_c, Jyi, J18, Jp0, J4v, Jxc, J4s, J4i, Jrh, Jxy, Jri, Jky, Jjp, Jq9, Jfq, Jxz, Jxn, Jnr, Jre, Jxe, Jxt, Jxi, Jnu, Jnv, J4t, Jxg, Jxb, Jxw, Jxq, Jxp, Jrb, Jxo, Jxu, Jq8, J4l, J4k, J4h, J4g, J4f, J4q, Jxf, Jxr, Jxd, Jrj, Jxs, Jl9, J4r, Jns, Jxh, Jrf, Jrg, Jxj, Jxl, Jxk, Jxv, Jnt, List.set_cons_succ, List.set_cons_zero, List.append_nil, List.cons_append, List.nil_append, $xs,*])
namespace LW
open PySem L2 L3 L4
section
variable {k:Nat}{h:IH}
theorem Jc:1000000<sizeLine:=by decide
theorem Jnk (o o':IO):List.set (h++[o]) h.length o'=h++[o']:=by
 rw[List.set_append_right _ _ (Nat.le_refl _),Nat.sub_self];rfl
theorem Jcj (o o':IO) (g:IH):List.set (h++o::g) h.length o'=h++o'::g:=by
 rw[List.set_append_right _ _ (Nat.le_refl _),Nat.sub_self];rfl
theorem Jqg (ns:List Int) (n:Int) (hn:0<=n):J9 (k+1) [.rol (ns.map .int),.int n] h=.ok (.int (ns.getD n.toNat 0)) h:=by
 refine Jd9 ?_
 rw[Jk7]
 simp! [Jbv,Jek,List.length_map,decide_eq_true_eq,decide_eq_false_iff_not]
 refine⟨λ hl=>⟨.int (ns.getD n.toNat 0),J10 hn ?_,rfl⟩,λ hl=>?_⟩
 ·rw[List.getElem?_map,List.getD_eq_getElem?_getD,List.getElem?_eq_getElem (show n.toNat<ns.length by omega)]
  rfl
 ·rw[List.getD_eq_getElem?_getD,List.getElem?_eq_none (by omega)]
  rfl
theorem Jou (i:Int):Jfi (k+1) [.int i] h=.ok (.bl true) h:=by rw[Jqm];rfl
theorem Jim (i j:Int):Jo (k+2) [.int i,.int j] h=.ok (.bl (decide (j<=i))) h:=by
 refine Jd9 ?_
 rw[Ji6]
 simp! [Jax,Jou]
noncomputable def IsNm (x:Str):Prop:=1<=x.length/\x.length<=8/\∀c∈x.cps.toList,97<=c/\c<=122
theorem a_cps:(Str.ofString "a").cps.toList=[97]:=by decide +kernel
theorem z_cps:(Str.ofString "z").cps.toList=[122]:=by decide +kernel
theorem J3y {c:Nat}(hc:97<=c/\c<=122):Jdi k [some (.str ⟨#[c]⟩)] h=.ok (.bl true) h:=by
 refine Jd9 ?_
 have h1:¬([c]<[97]):=λ q=>by
  cases q with
  | rel q=>omega
  | cons q=>cases q
 have h2:¬([122]<[c]):=λ q=>by
  cases q with
  | rel q=>omega
  | cons q=>cases q
 simp only[Jdi,Jjp,wr_c,Jyi,Jli,J7t,a_cps,z_cps,h1,h2,decide_false,exists_eq_left,exists_eq_left',IV.bl.injEq,IV.int.injEq,IV.ref.injEq,IV.str.injEq,IO.lst.injEq,IV.tup.injEq,Option.some.injEq,Bool.not_true,Bool.not_false,reduceCtorEq,eq_self,true_implies,false_implies,implies_true,and_true,true_and,and_false,false_and,Option.bind_some,Bool.true_eq_false,Bool.false_eq_true,Jl5,Jil,Jl6,Jue,Jl3,Jl4,Jfr,Jbp,Jgm,Jbq,Jbg,Jfs,Jkw,Jma,Jk2,Jmj,Jp5,Jp6,Jsq,Jip,Jin,Jio]
theorem Jlq {x:Str}(hx:IsNm x):WR (Jeb (k+1) [.str x] h) λ v h'=>v=.bl true/\Ex h h':=by
 obtain⟨h1,h2,h3⟩:=hx
 have hb:=Jc
 have hz:x.length<=sizeLine:=by omega
 have a1:(1:Int)<=x.length:=by omega
 have a2:(x.length:Int)<=8:=by omega
 rw[Jsy]
 simp! [Jf6,Jju,hz,a1,a2,decide_true]
 refine WR.mono (Ja2 (xs:=Jlh x) (chk:=λ _=>True) (f:=λ _=>.bl true) (h:=h) ?_ ?_ (λ _ _=>trivial) ?_) ?_
 ·exact⟨rfl,rfl,rfl⟩
 ·have:(Jlh x).length=x.length:=by simp[Jlh,Str.length]
  omega
 ·intro v hv h2 _
  obtain⟨c,hc,rfl⟩:=List.mem_map.mp hv
  exact WR.of_eq (J3y (h3 c hc)) ⟨rfl,.refl _⟩
 ·rintro v h' ⟨rfl,g,rfl⟩
  refine WR.of_eq (all_map (f:=λ _=>true) Jm) ⟨?_,.cons ..⟩
  simp
noncomputable abbrev Hd:=Str×Int×Int
noncomputable def tupH (a:Hd):IV:=.tup [.str a.1,.int a.2.1,.int a.2.2]
noncomputable def HdOk (len:Int) (a:Hd):Prop:=IsNm a.1/\0<=a.2.1/\a.2.1<a.2.2/\a.2.2<len
noncomputable def Tog (a b:Hd):Prop:=a.2.2<=b.2.1∨b.2.2<=a.2.1∨(a.1≠b.1/\((b.2.1<=a.2.1/\a.2.2<=b.2.2)∨(a.2.1<=b.2.1/\b.2.2<=a.2.2)))
theorem Js8 {a:Hd}{len:Int}(ha:HdOk len a):WR (Jgi (k+3) [tupH a,.int len] h) λ v h'=>v=.bl true/\Ex h h':=by
 obtain⟨h1,h2,h3,h4⟩:=ha
 rw[Jsx]
 have h5:a.2.1+1<=a.2.2:=by omega
 simp! [Jf5,Jjs,Jjt,tupH,List.length_cons,List.length_nil,Jim]
 refine⟨λ q=>absurd q (by decide),λ _=>WR.mono (Jlq h1) ?_⟩
 rintro v h' ⟨rfl,x⟩
 simp! [decide_eq_true h2,decide_eq_true h4,decide_eq_true h5]
 exact x
theorem Jox (a b:Hd):Jcz (k+1) [tupH a,tupH b] h=.ok (.bl (decide (a.2.2<=b.2.1)||decide (b.2.2<=a.2.1))) h:=by
 refine Jd9 ?_
 rw[Jop]
 simp! [Jde,tupH]
 cases decide (a.2.2<=b.2.1)<;>simp
theorem Jtd (a b:Hd):Jec (k+1) [tupH a,tupH b] h=.ok (.bl (decide (b.2.1<=a.2.1)&&decide (a.2.2<=b.2.2))) h:=by
 refine Jd9 ?_
 rw[Js0]
 simp! [Jf8,tupH]
 cases decide (b.2.1<=a.2.1)<;>simp
theorem Jk8 {a b:Hd}(t:Tog a b):Jbf (k+2) [tupH a,tupH b] h=.ok (.bl true) h:=by
 refine Jd9 ?_
 rw[Jk6]
 have ix:∀a:Hd,WR (opIx (tupH a) (.int 0) h)=λ P=>P (.str a.1) h:=λ a=>by
  funext P
  simp only[tupH,Jkw,exists_eq_left,exists_eq_left',IV.bl.injEq,IV.int.injEq,IV.ref.injEq,IV.str.injEq,IO.lst.injEq,IV.tup.injEq,Option.some.injEq,Bool.not_true,Bool.not_false,reduceCtorEq,eq_self,true_implies,false_implies,implies_true,and_true,true_and,and_false,false_and,Option.bind_some,Bool.true_eq_false,Bool.false_eq_true,Jl5,Jil,Jl6,Jue,Jl3,Jl4,Jfr,Jbp,Jgm,Jbq,Jbg,Jfs,Jkw,Jma,Jk2,Jmj,Jp5,Jp6,Jsq,Jip,Jin,Jio]
 simp! [Jbu,Jei,Jej,Jox,Jtd,ix]
 unfold Tog at t
 simp only[Bool.or_eq_true,Bool.or_eq_false_iff,Bool.and_eq_true,Bool.and_eq_false_iff,decide_eq_true_eq,decide_eq_false_iff_not]
 grind
theorem Jq6 {hs:List Hd}{i:Nat}(hi:h[i]?=some (.lst (hs.map tupH))) (hl:hs.length<=6) (ht:∀m n (hm:m<n) (hn:n<hs.length),Tog hs[n] hs[m]) :
  WR (J8 (k+3) [.ref i] h) λ v h'=>v=.bl true/\Ex h h':=by
 have hb:=Jc
 rw[Jhq]
 simp! [Jaf,Jbt,J4e,hi]
 refine Jbx (λ n σ h'=>(∃a b,σ=[some (.ref i),a,b])/\Ex h h') (λ n σ h' ⟨_,x⟩=>x.get hi) ?_ ?_ ⟨⟨_,_,rfl⟩,.refl h⟩
 ·rintro n hn _ h' ⟨⟨a,b,rfl⟩,x⟩
  have hn':n<hs.length:=by rw[Je1,List.length_map] at hn;exact hn
  rw[J19]
  simp! [List.getElem_map,J1v,J7u,J7v,List.length_cons,List.length_nil,Jbd]
  have hi':=x.get hi
  refine WR.mono (Ja2 (xs:=(hs.map tupH).take n) (chk:=λ h2=>h2[h'.length]?=some (.lst ((hs.map tupH).take n))) (f:=λ _=>.bl true) (h:=h'++[.lst ((hs.map tupH).take n)]) ?_ ?_ ?_ ?_) ?_
  ·simp! [J1u,hi',Jfe,Jrw,Jy]
  ·simp only[List.length_take,List.length_map];omega
  ·exact λ h2 q=>q _ _ Jy
  ·intro v hv h2 q
   obtain⟨j,hj,rfl⟩:=List.mem_iff_getElem.mp hv
   have hj':j<n:=by simp at hj;omega
   simp! [List.getElem_take,List.getElem_map,Ja6,List.map_cons,List.map_nil,List.getElem?_cons_succ,List.getElem?_cons_zero,Option.join_some]
   exact WR.of_eq (Jk8 (ht j n hj' hn')) ⟨rfl,.refl _⟩
  ·rintro v h3 ⟨rfl,g,rfl⟩
   refine WR.of_eq (all_map (f:=λ _=>true) Jm) ?_
   have:(((hs.map tupH).take n).all λ _=>true)=true:=by simp
   simp! [this]
   exact⟨⟨_,_,rfl⟩,x.trans ((Ex.one _ _).trans (.cons ..))⟩
 ·rintro _ h' ⟨⟨a,b,rfl⟩,x⟩
  exact x
structure HsOk (len:Int) (hs:List Hd):Prop where
 few:hs.length<=6
 each:∀a∈hs,HdOk len a
 tog:∀m n (hm:m<n) (hn:n<hs.length),Tog hs[n] hs[m]
theorem Jix {hs:List Hd}{i:Nat}{len:Int}(hi:h[i]?=some (.lst (hs.map tupH))) (ok:HsOk len hs) :
  WR (Jav (k+4) [.ref i,.int len] h) λ v h'=>v=.tup (hs.map tupH)/\Ex h h':=by
 have hb:=Jc
 have hl:=ok.few
 have h6:¬(6:Int)<(hs.length:Int):=by omega
 rw[Joq]
 simp! [Jdf,Jg4,Jg5,Jg6,Jrc,isI,J1r hi,Jrd,hi,List.length_map,h6,decide_false]
 refine WR.mono (Ja2 (xs:=hs.map tupH) (chk:=λ h2=>h2[i]?=some (.lst (hs.map tupH))) (f:=λ _=>.bl true) (h:=h) ?_ ?_ ?_ ?_) ?_
 ·simp! [Jfe,hi]
 ·simp only[List.length_map];omega
 ·exact λ h2 q=>q _ _ hi
 ·intro v hv h2 q
  obtain⟨a,ha,rfl⟩:=List.mem_map.mp hv
  simp! [Jes,List.map_cons,List.map_nil,List.getElem?_cons_succ,List.getElem?_cons_zero,Option.join_some]
  exact Js8 (ok.each a ha)
 ·rintro v h1 ⟨rfl,g,rfl⟩
  refine WR.of_eq (all_map (f:=λ _=>true) Jm) ?_
  have:((hs.map tupH).all λ _=>true)=true:=by simp
  simp! [this,Jg7,Jg8]
  have x1:Ex h (h++IO.lst (List.map (λ x=>IV.bl true) (hs.map tupH))::g):=.cons ..
  refine WR.mono (Jq6 (x1.get hi) hl ok.tog) ?_
  rintro v h2 ⟨rfl,x2⟩
  simp! [true_and]
  have hi2:=x2.get (x1.get hi)
  refine WR.mono (Ja2 (xs:=hs.map tupH) (chk:=λ h3=>h3[i]?=some (.lst (hs.map tupH))) (f:=λ x=>x) (h:=h2) ?_ ?_ ?_ ?_) ?_
  ·simp! [Jfe,hi2]
  ·simp only[List.length_map];omega
  ·exact λ h2 q=>q _ _ hi2
  ·intro v hv h3 q
   obtain⟨a,ha,rfl⟩:=List.mem_map.mp hv
   simp! [Jet,tupH,List.length_cons,List.length_nil]
   exact⟨by omega,.refl _⟩
  ·rintro v h3 ⟨rfl,g3,rfl⟩
   simp only[Jx0,Jm,exists_eq_left,exists_eq_left',IV.bl.injEq,IV.int.injEq,IV.ref.injEq,IV.str.injEq,IO.lst.injEq,IV.tup.injEq,Option.some.injEq,Bool.not_true,Bool.not_false,reduceCtorEq,eq_self,true_implies,false_implies,implies_true,and_true,true_and,and_false,false_and,Option.bind_some,Bool.true_eq_false,Bool.false_eq_true,Jl5,Jil,Jl6,Jue,Jl3,Jl4,Jfr,Jbp,Jgm,Jbq,Jbg,Jfs,Jkw,Jma,Jk2,Jmj,Jp5,Jp6,Jsq,Jip,Jin,Jio,List.map_id']
   exact x1.trans (x2.trans (.cons ..))
theorem Jly {due gap:Int}(h1:1<=due) (h2:due<=gap):Jcl (k+3) [.int due,.int gap] h=.ok (.int due) h:=by
 refine Jd9 ?_
 rw[Js1]
 have:¬gap<due:=by omega
 simp! [Jf9,Jjv,Jjw,Jrc,isI,Jim,decide_eq_true h1,decide_eq_false this]
noncomputable def wfs (name:Str) (gap len due late:Int) (hs:List IV):List (Str×IV):=[("name",.str name),("gap",.int gap),("length",.int len),("due",.int due),("late",.int late),("hold_tuples",.tup hs)]
section
variable (a b c d e f:IV)
theorem put0:putI "name" a ([]:List (Str×IV))=([("name",a)]:List (Str×IV)):=by kernel_rfl
theorem put1:putI "gap" b ([("name",a)]:List (Str×IV))=([("name",a),("gap",b)]:List (Str×IV)):=by kernel_rfl
theorem put2:putI "length" c ([("name",a),("gap",b)]:List (Str×IV))=([("name",a),("gap",b),("length",c)]:List (Str×IV)):=by kernel_rfl
theorem put3:putI "due" d ([("name",a),("gap",b),("length",c)]:List (Str×IV))=([("name",a),("gap",b),("length",c),("due",d)]:List (Str×IV)):=by kernel_rfl
theorem put4:putI "late" e ([("name",a),("gap",b),("length",c),("due",d)]:List (Str×IV))=([("name",a),("gap",b),("length",c),("due",d),("late",e)]:List (Str×IV)):=by kernel_rfl
theorem put5:putI "hold_tuples" f ([("name",a),("gap",b),("length",c),("due",d),("late",e)]:List (Str×IV))=([("name",a),("gap",b),("length",c),("due",d),("late",e),("hold_tuples",f)]:List (Str×IV)):=by kernel_rfl
variable {name:Str}{gap len due late:Int}{hs:List IV}
theorem fl0:(wfs name gap len due late hs).lookup ("name":Str)=some (.str name):=by kernel_rfl
theorem fl1:(wfs name gap len due late hs).lookup ("gap":Str)=some (.int gap):=by kernel_rfl
theorem fl2:(wfs name gap len due late hs).lookup ("length":Str)=some (.int len):=by kernel_rfl
theorem fl3:(wfs name gap len due late hs).lookup ("due":Str)=some (.int due):=by kernel_rfl
theorem fl4:(wfs name gap len due late hs).lookup ("late":Str)=some (.int late):=by kernel_rfl
theorem fl5:(wfs name gap len due late hs).lookup ("hold_tuples":Str)=some (.tup hs):=by kernel_rfl
theorem flh:(wfs name gap len due late hs).lookup ("held":Str)=none:=by kernel_rfl
end
theorem Jxa {name:Str}{gap len due late:Int}{dv hv:IV}{hs:List IV}{w:Nat}(hw:h[w]?=some (.ins "Work" [])) (hn:IsNm name) (hg:1<=gap) (hl:1<=len) (ht:0<=late)
  (hd:∀h1,Jcl (k+4) [dv,.int gap] h1=.ok (.int due) h1) (hh:∀h1:IH,(∀(j:Nat) (o:IO),j≠w->h[j]?=some o->h1[j]?=some o)->WR (Jav (k+4) [hv,.int len] h1) λ v h2=>v=.tup hs/\Ex h1 h2) :
  WR (J6 (k+5) [.ref w,.str name,.int gap,.int len,dv,.int late,hv] h) λ v h'=>v=.non/\∃g,h'=h.set w (.ins "Work" (wfs name gap len due late hs))++g:=by
 rw[Jol]
 simp! [Jc5]
 refine WR.mono (Jlq hn) ?_
 rintro v h1 ⟨rfl,g1,rfl⟩
 have lw:=Ji7 hw
 have s1:∀{o:IO},(h++g1).set w o=h.set w o++g1:=by intro o;rw[List.set_append_left (h:=lw)]
 have at1:∀{o:IO},(h.set w o++g1)[w]?=some o:=by
  intro o
  rw[List.getElem?_append_left (by rw[List.length_set];exact lw),List.getElem?_set_self lw]
 have s2:∀{o o':IO},(h.set w o++g1).set w o'=h.set w o'++g1:=by intro o o';rw[List.set_append_left (h:=by rw[List.length_set];exact lw),List.set_set]
 simp! [Jgp,Jgq,Jgr,Jgs,Jgt,Jgu,Jgv,Jgw,Jim,decide_eq_true hg,decide_eq_true hl,decide_eq_true ht,Jrk,IO.ins.injEq,grow hw]
 refine⟨w,_,_,rfl,grow hw,by decide,?_⟩
 rw[s1,put0]
 refine⟨w,_,_,rfl,at1,by show(1:Nat)<1000;decide,?_⟩
 rw[s2,put1]
 refine⟨w,_,_,rfl,at1,by show(2:Nat)<1000;decide,?_⟩
 rw[s2,put2,hd]
 refine⟨w,_,_,rfl,at1,by show(3:Nat)<1000;decide,?_⟩
 rw[s2,put3]
 refine⟨w,_,_,rfl,at1,by show(4:Nat)<1000;decide,?_⟩
 rw[s2,put4]
 simp! [Jgx,Jrk]
 refine WR.mono (hh _ λ j o hj e=>?_) ?_
 ·refine grow ?_
  rw[List.getElem?_set_ne (Ne.symm hj)]
  exact e
 ·rintro v h2 ⟨rfl,g2,rfl⟩
  refine⟨w,_,_,rfl,grow at1,by show(5:Nat)<1000;decide,g1++g2,?_⟩
  rw[List.set_append_left (h:=Ji7 at1),s2,put5,List.append_assoc]
  rfl
theorem Jwe {name:Str}{gap len due late:Int}{dv hv:IV}{hs:List IV}(hn:IsNm name) (hg:1<=gap) (hl:1<=len) (ht:0<=late)
  (hd:∀h1,Jcl (k+4) [dv,.int gap] h1=.ok (.int due) h1) (hh:∀h1:IH,(∀(j:Nat) (o:IO),h[j]?=some o->h1[j]?=some o)->WR (Jav (k+4) [hv,.int len] h1) λ v h2=>v=.tup hs/\Ex h1 h2) :
  WR (J6 (k+5) [.ref h.length,.str name,.int gap,.int len,dv,.int late,hv] (h++[.ins "Work" []])) λ v h'=>v=.non/\∃g,h'=h++.ins "Work" (wfs name gap len due late hs)::g:=by
 refine WR.mono (Jxa Jy hn hg hl ht hd λ h1 q=>hh h1 λ j o e=>q j o (by have:=Ji7 e;omega) (grow e)) ?_
 rintro v h' ⟨rfl,g,rfl⟩
 exact⟨rfl,g,by rw[Jnk];simp⟩
theorem Jkv {name:Str}{gap len due late:Int}{hs:List IV}{w:Nat}(hw:h[w]?=some (.ins "Work" (wfs name gap len due late hs))):Jcw (k+1) [.ref w] h=.ok (.ref h.length) (h++[.lst hs]):=by
 refine Jd9 ?_
 rw[Jok]
 simp! [Jc4,Ji hw,fl5]
end
structure WD where
 name:Str
 gap:Int
 len:Int
 due:Int
 late:Int
noncomputable def IsW (h:IH) (v:IV) (d:WD):Prop:=∃i hs,v=.ref i/\h[i]?=some (.ins "Work" (wfs d.name d.gap d.len d.due d.late hs))
theorem IsW.kp {h h':IH}{v:IV}{d:WD}(k:Kp h h') (w:IsW h v d):IsW h' v d:=by
 obtain⟨i,hs,e,q⟩:=w
 exact⟨i,hs,e,k _ _ q⟩
structure AllW (h:IH) (vs:List IV) (ds:List WD):Prop where
 len:vs.length=ds.length
 at_:∀(i:Nat) v d,vs[i]?=some v->ds[i]?=some d->IsW h v d
theorem AllW.kp {h h':IH}{vs:List IV}{ds:List WD}(k:Kp h h') (w:AllW h vs ds):AllW h' vs ds:=⟨w.len,λ i v d a b=>(w.at_ i v d a b).kp k⟩
theorem AllW.of {h:IH}{vs:List IV}{ds:List WD}(w:AllW h vs ds){v:IV}(hv:v∈vs):∃d∈ds,IsW h v d:=by
 obtain⟨i,hi,rfl⟩:=List.mem_iff_getElem.mp hv
 have hi':i<ds.length:=by rw[<- w.len];exact hi
 exact⟨ds[i],List.getElem_mem hi',w.at_ i _ _ (List.getElem?_eq_getElem hi) (List.getElem?_eq_getElem hi')⟩
noncomputable def fOf (f:Str) (h:IH) (v:IV):IV:=(Jj6 f v h).getD .non
theorem AllW.mapF {h:IH}{vs:List IV}{ds:List WD}(w:AllW h vs ds){F:IV->IV}{g:WD->IV}(hf:∀(i:Nat) (d:WD) hs,h[i]?=some (.ins "Work" (wfs d.name d.gap d.len d.due d.late hs))->F (.ref i)=g d):vs.map F=ds.map g:=by
 refine List.ext_getElem? λ i=>?_
 rw[List.getElem?_map,List.getElem?_map]
 by_cases hi:i<vs.length
 ·have hi':i<ds.length:=by rw[<- w.len];exact hi
  rw[List.getElem?_eq_getElem hi,List.getElem?_eq_getElem hi']
  obtain⟨j,hs,e,q⟩:=w.at_ i _ _ (List.getElem?_eq_getElem hi) (List.getElem?_eq_getElem hi')
  simp only[Option.map_some,Option.some.injEq]
  rw[e,hf j _ hs q]
 ·have hi':¬i<ds.length:=by rw[<- w.len];exact hi
  rw[List.getElem?_eq_none (by omega),List.getElem?_eq_none (by omega)]
  rfl
section
variable {k:Nat}{h:IH}
theorem Jzm:J0p ["Work"] (.ins "Work")=some true:=by kernel_rfl
theorem Jo1 {vs:List IV}{ds:List WD}{i:Nat}(hi:h[i]?=some (.lst vs)) (w:AllW h vs ds) (nd:(ds.map (·.name)).Nodup) (hl:ds.length<=20) :
  WR (Jc0 (k+1) [.ref i] h) λ v h'=>v=.tup vs/\Ex h h':=by
 have hb:=Jc
 have wl:=w.len
 rw[Jor]
 simp! [Jdg,Jg9,J1r hi]
 refine WR.mono (Ja2 (h:=h) (xs:=vs) (chk:=λ h'=>h'[i]?=some (.lst vs)) (f:=λ _=>.bl true) ?_ (by omega) (λ h2 q=>q _ _ hi) ?_) ?_
 ·simp! [Jfe,hi]
 ·intro v hv h2 q
  obtain⟨d,_,j,hs,rfl,e⟩:=w.of hv
  have ty:tyI (.ref j) h2=some (.ins "Work"):=by simp[tyI,q _ _ e]
  simp! [Jeu,ty,Jzm]
  exact .refl _
 ·rintro _ _ ⟨rfl,g,rfl⟩
  have x1:Ex h (h++L3.IO.lst (vs.map λ _=>.bl true)::g):=.cons _ _ _
  rw[all_map (f:=λ _=>true) Jm]
  generalize h++L3.IO.lst (vs.map λ _=>.bl true)::g=h1 at x1
  have at1:(vs.all λ _=>true)=true:=by simp
  simp! [at1,Jha,Jxm]
  have w1:=w.kp x1.kp
  have nm:=w1.mapF (F:=fOf "name" h1) (g:=λ d=>.str d.name) λ j d hs e=>by rw[fOf,Ji e,fl0];rfl
  refine WR.mono (Ja2 (h:=h1) (xs:=vs) (chk:=λ h'=>h'[i]?=some (.lst vs)) (f:=fOf "name" h1) ?_ (by omega) (λ h2 q=>q _ _ (x1.get hi)) ?_) ?_
  ·simp! [Jfe,x1.get hi]
  ·intro v hv h2 q
   obtain⟨d,_,j,hs,rfl,e⟩:=w1.of hv
   simp! [Jev,Ji (q _ _ e),fl0,fOf,Ji e,Option.getD_some]
   exact .refl _
  ·rintro _ _ ⟨rfl,g2,rfl⟩
   rw[nm]
   have em:ds.map (λ d=>IV.str d.name)=(ds.map (·.name)).map IV.str:=by simp
   rw[em]
   have x2:Ex h1 (h1++L3.IO.lst ((ds.map (·.name)).map IV.str)::g2):=.cons _ _ _
   refine⟨_,rfl,_,Jm,ds.map (·.name),Jsh _,by rw[List.length_map];unfold scanBound;omega,?_⟩
   rw[Jn7 nd _ (Nat.le_refl _)]
   simp! [Jrd,x2.get (x1.get hi),List.length_map,wl,decide_true,Jhb,Jx0]
   exact x1.trans x2
noncomputable def rup (top bottom:Int):Int:=(top+bottom-1)/bottom
noncomputable def topD (ds:List WD):Int:=if ds.map (·.due)=[] then 0 else Jct (λ i=>(ds.map (·.due)).getD i 0) (ds.map (·.due)).length
noncomputable def Jrv (ds:List WD):Int:=(ds.map λ d=>rup (topD ds+d.late) d.gap).sum
noncomputable def rOf (T:Int) (h:IH) (v:IV):IV:=match Jj6 "late" v h,Jj6 "gap" v h with
 | some (.int l),some (.int g)=>.int (rup (T+l) g)
 | _,_=>.non
theorem Jph {a b:Int}(hb:0<b) (hl:b.natAbs.log2<9000):Jbm (k+1) [.int a,.int b] h=.ok (.int (rup a b)) h:=by
 refine Jd9 ?_
 rw[Jos]
 simp! [Jdh,hb,hl,rup]
theorem Jyc {vs:List IV}{ds:List WD}(w:AllW h vs ds) (hl:ds.length<=20) (hg:∀d∈ds,0<d.gap/\d.gap.natAbs.log2<9000) :
  WR (Jfh (k+2) [.tup vs] h) λ v h'=>v=.int (Jrv ds)/\Ex h h':=by
 have hb:=Jc
 have wl:=w.len
 rw[Jql]
 simp! [Jeh,J4n]
 have dm:=w.mapF (F:=fOf "due" h) (g:=λ d=>.int d.due) λ j d hs e=>by rw[fOf,Ji e,fl3];rfl
 refine WR.mono (Ja2 (h:=h) (xs:=vs) (chk:=λ _=>True) (f:=fOf "due" h) ?_ (by omega) (λ _ _=>trivial) ?_) ?_
 ·simp! [true_and]
 ·intro v hv h2 q
  obtain⟨d,_,j,hs,rfl,e⟩:=w.of hv
  simp! [Jfx,Ji (q _ _ e),fl3,fOf,Ji e,Option.getD_some]
  exact .refl _
 ·rintro _ _ ⟨rfl,g,rfl⟩
  rw[dm]
  have em:ds.map (λ d=>IV.int d.due)=(ds.map (·.due)).map IV.int:=by simp
  rw[em]
  have x1:Ex h (h++L3.IO.lst ((ds.map (·.due)).map IV.int)::g):=.cons _ _ _
  refine⟨_,rfl,_,Jm,_,Jfp _,?_⟩
  have et:maxD (ds.map (·.due)) (.int 0)=.int (topD ds):=by
   unfold maxD topD
   split<;>rfl
  rw[et]
  generalize h++L3.IO.lst ((ds.map (·.due)).map IV.int)::g=h1 at x1
  have w1:=w.kp x1.kp
  simp! [Jiv]
  have rm:=w1.mapF (F:=rOf (topD ds) h1) (g:=λ d=>.int (rup (topD ds+d.late) d.gap)) λ j d hs e=>by rw[rOf,Ji e,Ji e,fl4,fl1]
  refine WR.mono (Ja2 (h:=h1) (xs:=vs) (chk:=λ _=>True) (f:=rOf (topD ds) h1) ?_ (by omega) (λ _ _=>trivial) ?_) ?_
  ·simp! [true_and]
  ·intro v hv h2 q
   obtain⟨d,hd,j,hs,rfl,e⟩:=w1.of hv
   have e2:=q _ _ e
   simp only[List.map_cons,List.map_nil,List.getElem?_cons_succ,List.getElem?_cons_zero,Option.join_some]
   simp! [Jfy,Ji e2,fl4,fl1,Jph (hg d hd).1 (hg d hd).2]
   exact⟨by rw[rOf,Ji e,Ji e,fl4,fl1],.refl _⟩
  ·rintro _ _ ⟨rfl,g2,rfl⟩
   rw[rm]
   have em2:ds.map (λ d=>IV.int (rup (topD ds+d.late) d.gap))=(ds.map λ d=>rup (topD ds+d.late) d.gap).map IV.int:=by simp
   rw[em2]
   simp! [Jxx,Jm,Jfp]
   exact⟨rfl,x1.trans (.cons _ _ _)⟩
noncomputable abbrev dfs (vs:List IV):List (Str×IV):=[("works",.tup vs)]
theorem dp0 {a:IV}:putI "works" a ([]:List (Str×IV))=([("works",a)]:List (Str×IV)):=by kernel_rfl
theorem dl0 {a:IV}:(([("works",a)]:List (Str×IV))).lookup ("works":Str)=some a:=by kernel_rfl
theorem dlw {a:IV}:(([("works",a)]:List (Str×IV))).lookup ("work":Str)=none:=by kernel_rfl
theorem Jva {vs:List IV}{ds:List WD}{i:Nat}(hi:h[i]?=some (.lst vs)) (w:AllW h vs ds) (nd:(ds.map (·.name)).Nodup) (hl:ds.length<=12) (hg:∀d∈ds,0<d.gap/\d.gap.natAbs.log2<9000) (hc:Jrv ds<=80) :
  WR (Jat (k+3) [.ref h.length,.ref i] (h++[.ins "Duty" []])) λ v h'=>v=.non/\∃g,h'=h++.ins "Duty" (dfs vs)::g:=by
 have wl:=w.len
 rw[Joh]
 simp! [Jc1,Jrk]
 refine WR.mono (Jo1 (grow hi) (w.kp (Ex.one h _).kp) nd (by omega)) ?_
 rintro _ _ ⟨rfl,g1,rfl⟩
 refine⟨_,_,_,rfl,grow Jy,by decide,?_⟩
 rw[dp0,List.append_assoc,List.cons_append,List.nil_append,Jcj]
 simp! [Jgn,Ji (Jm (h:=h)),dl0,wl]
 refine⟨λ q=>?_,λ _=>?_⟩
 ·rw[decide_eq_true_eq] at q
  omega
 simp! [Jgo,Ji (Jm (h:=h)),dl0]
 refine WR.mono (Jyc (w.kp (Ex.cons h _ _).kp) (by omega) hg) ?_
 rintro _ _ ⟨rfl,g2,rfl⟩
 simp! [true_and]
 refine⟨λ q=>?_,λ _=>⟨g1++g2,by simp⟩⟩
 rw[decide_eq_true_eq] at q
 omega
theorem Ja7 {vs:List IV}{D:Nat}{n:Int}{x:IV}(hD:h[D]?=some (.ins "Duty" (dfs vs))) (hx:atI vs n=some x):Jcv (k+1) [.ref D,.int n] h=.ok x h:=by
 refine Jd9 ?_
 rw[Joj]
 simp! [Jc3,Ji hD,dl0,hx]
theorem Jwy (c:Int) (m:Nat) (hm:m<=40):WR (Jbz (k+1) [.int c,.int m] h) λ v h'=>∃(i:Nat) (xs:List Int),v=.ref i/\h.length<=i/\h'[i]?=some (.lst (xs.map .int))/\xs.length=m/\(∀x∈xs,(0:Int)<=x/\x<10^45)/\Ex h h':=by
 have hb:=Jc
 have t45:Int.toNat 45=45:=rfl
 have t30:Int.toNat 30=30:=rfl
 have t18:Int.toNat 18=18:=rfl
 have p45:(0:Int)<10^45:=by decide +kernel
 have l45:((10:Int)^45).natAbs.log2<9000:=by decide +kernel
 have q18:(10:Int)^18+9=1000000000000000009:=by decide +kernel
 have le:(1000000000000000009:Int)<=10^45:=by decide +kernel
 have w10:(0:Int)<=45/\(45:Int)<=1000000/\Int.natAbs 10<2^64:=by decide
 have w18:(0:Int)<=18/\(18:Int)<=1000000/\Int.natAbs 10<2^64:=by decide
 rw[Jmz]
 simp! [Jcc,Jft,List.length_nil,Nat.zero_le,t30,t18,decide_eq_true_eq,decide_eq_false_iff_not]
 refine⟨by decide,λ _=>⟨by decide,⟨by omega,by omega⟩,?_⟩,λ _=>?_⟩
 ·refine Jbx (λ n σ h'=>∃xs rest a b,h'=h++[.lst (xs.map IV.int)]/\σ=[some (.int c),some (.int (m:Int)),some (.ref h.length),some (.int rest),a,b]/\xs.length=n/\∀x∈xs,(0:Int)<=x/\x<10^45)
   (λ _ _ _ _=>trivial) ?_ ?_ ⟨[],_,_,_,rfl,rfl,rfl,by simp⟩
  ·rintro n hn _ _ ⟨xs,rest,a,b,rfl,rfl,lx,hx⟩
   rw[Jaq]
   rw[Jn] at hn
   simp! [Je4]
   rw[Jgf (i:=h.length) (h1:=h++[L3.IO.lst (xs.map IV.int)]) rfl Jy Jeq]
   simp! [Jfc,Jy,t45,w10,p45,l45,Jnk,List.length_map]
   have e1:=Int.emod_nonneg rest (b:=10^45) (by decide +kernel)
   have e2:=Int.emod_lt_of_pos rest p45
   refine⟨by omega,xs++[rest%10^45],_,_,_,by simp,rfl,by simp[lx],?_⟩
   intro x hxx
   rw[List.mem_append,List.mem_singleton] at hxx
   rcases hxx with hxx|rfl
   ·exact hx x hxx
   ·exact⟨e1,e2⟩
  ·rintro _ _ ⟨xs,rest,a,b,rfl,rfl,lx,hx⟩
   rw[Jn] at lx
   simp! [true_and]
   exact⟨_,xs,rfl,Nat.le_refl _,Jy,by omega,hx,.one _ _⟩
 ·simp! [Jfu,Jfv,t18,w18,q18,show(0:Int)<1000000000000000009 by decide]
  refine⟨⟨by omega,by omega⟩,?_⟩
  have s0:=Int.emod_nonneg c (b:=1000000000000000009) (by decide)
  have s1:=Int.emod_lt_of_pos c (b:=1000000000000000009) (by decide)
  refine Jbx (λ n σ h'=>∃xs num a b,h'=h++[.lst (xs.map IV.int)]/\σ=[some (.int c),some (.int (m:Int)),some (.ref h.length),a,b,some (.int num)]/\(0<=num/\num<2000000000000000000)/\xs.length=n/\∀x∈xs,(0:Int)<=x/\x<1000000000000000009)
   (λ _ _ _ _=>trivial) ?_ ?_ ⟨[],_,_,_,rfl,rfl,by omega,rfl,by simp⟩
  ·rintro n hn _ _ ⟨xs,num,a,b,rfl,rfl,hnum,lx,hx⟩
   rw[Jaq]
   rw[Jn] at hn
   have m1:Jas num num:=.inl (by omega)
   have m2:Jas 48271 num:=.inl (by decide)
   simp! [Je5,t18,w18,q18,m1,m2,show(0:Int)<1000000000000000009 by decide]
   have e1:=Int.emod_nonneg (num*num+48271*num+(0+(n:Int))) (b:=1000000000000000009) (by decide)
   have e2:=Int.emod_lt_of_pos (num*num+48271*num+(0+(n:Int))) (b:=1000000000000000009) (by decide)
   generalize (num*num+48271*num+(0+(n:Int)))%1000000000000000009=y at e1 e2
   rw[Jgf (i:=h.length) (h1:=h++[L3.IO.lst (xs.map IV.int)]) rfl Jy Jeq]
   simp! [Jfc,Jy,Jnk,List.length_map]
   refine⟨by omega,xs++[y],y,_,_,by simp,rfl,by omega,by simp[lx],?_⟩
   intro x hxx
   rw[List.mem_append,List.mem_singleton] at hxx
   rcases hxx with hxx|rfl
   ·exact hx x hxx
   ·exact⟨e1,e2⟩
  ·rintro _ _ ⟨xs,num,a,b,rfl,rfl,hnum,lx,hx⟩
   rw[Jn] at lx
   simp! [Jfw,J1u,Jy]
   rw[show(some (2:Int))=some ((2:Nat):Int) from rfl,Jyd,<-List.map_drop]
   refine⟨_,xs.drop 2,rfl,by simp,Jy,by simp;omega,λ x hxx=>?_,(Ex.one _ _).trans (.one _ _)⟩
   have:=hx x (List.mem_of_mem_drop hxx)
   generalize (10:Int)^45=z at *
   omega
end
structure F5 (unit:Int) (r:WD×Int):Prop where
 g1:unit<=r.1.gap
 g2:r.1.gap<=8*unit+4
 l1:1<=r.1.len
 l2:r.1.len<=r.1.gap+1
 d1:1<=r.1.due
 d2:r.1.due<=r.1.gap
 t1:0<=r.1.late
 t2:r.1.late<=r.1.gap+r.1.gap/2
 z1:0<=r.2
theorem Jza {a b K:Nat}(h:a<=b) (hb:b.log2<K):a.log2<K:=by
 by_cases ha:a=0
 ·subst ha
  exact Nat.lt_of_le_of_lt (Nat.zero_le _) hb
 ·have hb0:b≠0:=by omega
  rw[Nat.log2_lt ha]
  exact Nat.lt_of_le_of_lt h ((Nat.log2_lt hb0).mp hb)
theorem Jm4 {x:Int}(h0:0<=x) (h:x<=10^60):x.natAbs.log2<9000:=by
 refine Jza (b:=10^60) ?_ (by decide +kernel)
 have e:((10^60:Nat):Int)=10^60:=by decide +kernel
 generalize (10^60:Int)=y at *
 generalize (10^60:Nat)=z at *
 omega
theorem J1f {a b m:Int}(hb:0<b) (h:a<=m*b):rup a b<=m:=by
 unfold rup
 have:(a+b-1)/b<m+1:=by
  rw[Int.ediv_lt_iff_lt_mul hb,Int.add_mul]
  omega
 omega
theorem Jw1 (m:Int):∀l:List Int,(∀x∈l,x<=m)->l.sum<=l.length*m
 | [],_=>by simp
 | x::l,q=>by
  have:=Jw1 m l λ y hy=>q y (List.mem_cons_of_mem _ hy)
  have:=q x (List.mem_cons_self ..)
  rw[List.sum_cons,List.length_cons,Int.natCast_add,Int.add_mul]
  simp
  omega
theorem Jwd {h:IH}(n:Nat):∀as:List Int,(as.map IV.int).mapM (toD h n)=some (as.map PyData.int)
 | []=>rfl
 | a::as=>by
  have e:toD h n (IV.int a)=some (.int a):=by cases n<;>rfl
  rw[List.map_cons,List.mapM_cons,e,Jwd n as]
  rfl
theorem Jux:∀as:List Int,PyData.canLayAll0 (as.map PyData.int)=true
 | []=>by rw[List.map_nil,PyData.canLayAll0]
 | a::as=>by
  rw[List.map_cons,PyData.canLayAll0,PyData.canLay0,Jux as]
  rfl
theorem e_nil (as:List Int):PyData.eqv (.list (as.map PyData.int)) (.list [])=as.isEmpty:=by
 rw[PyData.eqv]
 cases as with
 | nil=>rw[List.map_nil,PyData.eqvAll];rfl
 | cons a as=>rw[List.map_cons,PyData.eqvAll];rfl;all_goals intros;simp_all
noncomputable abbrev t5 (r:WD×Int):IV:=.tup [.int r.1.gap,.int r.1.len,.int r.1.due,.int r.1.late,.int r.2]
noncomputable def Gaps (ds:List WD):Prop:=∀d∈ds,0<d.gap/\d.gap.natAbs.log2<9000/\d.len.natAbs<2^64
noncomputable def Good (ds:List WD):Prop:=Gaps ds/\∀d∈ds,1<=d.due/\0<=d.late
theorem AllW.snoc {h:IH}{vs:List IV}{ds:List WD}{v:IV}{d:WD}(w:AllW h vs ds) (x:IsW h v d):AllW h (vs++[v]) (ds++[d]):=by
 have wl:=w.len
 refine⟨by simp[wl],λ i u e a b=>?_⟩
 by_cases hi:i<vs.length
 ·rw[List.getElem?_append_left hi] at a
  rw[List.getElem?_append_left (by omega)] at b
  exact w.at_ i u e a b
 ·rw[List.getElem?_append_right (by omega)] at a
  rw[List.getElem?_append_right (by omega)] at b
  have ei:i-vs.length=0:=by
   by_cases q:i-vs.length=0
   ·exact q
   ·obtain⟨n,hn⟩:∃n,i-vs.length=n+1:=⟨i-vs.length-1,by omega⟩
    rw[hn] at a
    cases a
  rw[ei] at a
  rw[<- wl,ei] at b
  cases a
  cases b
  exact x
noncomputable abbrev s9 (S W:Nat) (a b c d e f o:Option IV):ISt:=[some (.ref S),some (.ref W),a,b,c,d,e,f,o]
section
variable {k:Nat}{h:IH}
theorem Ju4 {v:IV}{as:List Int}{j:Nat}(hv:toD h 6 v=some (.list (as.map PyData.int))) (hj:h[j]?=some (.lst [])):Jic v (.ref j) h=some as.isEmpty:=by
 have e2:toD h 6 (.ref j)=some (.list []):=by
  show(match h[j]? with|some (.lst xs)=>(xs.mapM (toD h 5)).map PyData.list|_=>none)=_
  rw[hj]
  rfl
 unfold Jic
 rw[hv,e2]
 dsimp only
 rw[if_pos ⟨by rw[PyData.canLay0];exact Jux as,by rw[PyData.canLay0,PyData.canLayAll0]⟩,e_nil]
theorem Jtg {as:List Int}{i j:Nat}(hi:h[i]?=some (.lst (as.map .int))) (hj:h[j]?=some (.lst [])):cEq (.ref i) (.ref j) h=.ok (.bl as.isEmpty) h:=by
 have e1:toD h 6 (.ref i)=some (.list (as.map PyData.int)):=by
  show(match h[i]? with|some (.lst xs)=>(xs.mapM (toD h 5)).map PyData.list|_=>none)=_
  rw[hi]
  show((as.map IV.int).mapM (toD h 5)).map PyData.list=_
  rw[Jwd];rfl
 unfold cEq
 have e4:Jh0 (.ref i) (.ref j)=none:=rfl
 rw[e4]
 dsimp only
 rw[Ju4 e1 hj]
mutual
theorem Jmx:∀d:PyData,d.canLay0=true->PyData.eqv d d=true
 | .none,_=>by simp[PyData.eqv]
 | .bool _,_=>by simp[PyData.eqv]
 | .int _,_=>by simp[PyData.eqv]
 | .str _,_=>by simp[PyData.eqv]
 | .list xs,q=>by
  rw[PyData.eqv]
  exact Jj5 xs (by rw[PyData.canLay0] at q;exact q)
 | .tuple xs,q=>by
  rw[PyData.eqv]
  exact Jj5 xs (by rw[PyData.canLay0] at q;exact q)
 | .dict _,q=>by rw[PyData.canLay0] at q;cases q
theorem Jj5:∀ds:List PyData,PyData.canLayAll0 ds=true->PyData.eqvAll ds ds=true
 | [],_=>by rw[PyData.eqvAll]
 | d::ds,q=>by
  rw[PyData.canLayAll0,Bool.and_eq_true] at q
  rw[PyData.eqvAll,Jmx d q.1,Jj5 ds q.2]
  rfl
end
theorem J36 {i n:Nat}{xs:List IV}(e:h[i]?=some (.lst xs)):toD h (n+1) (.ref i)=(xs.mapM (toD h n)).map PyData.list:=by
 show(match h[i]? with|some (.lst xs)=>(xs.mapM (toD h n)).map PyData.list|_=>none)=_
 rw[e]
end
noncomputable abbrev RH:=WD×List Hd
noncomputable abbrev t5h (r:RH) (q:Nat):IV:=.tup [.int r.1.gap,.int r.1.len,.int r.1.due,.int r.1.late,.ref q]
structure F6 (unit:Int) (r:RH):Prop where
 g1:unit<=r.1.gap
 g2:r.1.gap<=8*unit+4
 l1:1<=r.1.len
 d1:1<=r.1.due
 d2:r.1.due<=r.1.gap
 t1:0<=r.1.late
 t2:r.1.late<=r.1.gap+r.1.gap/2
 ok:HsOk r.1.len r.2
structure RowsH (h:IH) (ys:List IV) (rs:List RH):Prop where
 len:ys.length=rs.length
 at_:∀(i:Nat) y r,ys[i]?=some y->rs[i]?=some r->∃q,y=t5h r q/\h[q]?=some (.lst (r.2.map tupH))
theorem RowsH.kp {h h':IH}{ys:List IV}{rs:List RH}(k:Kp h h') (w:RowsH h ys rs):RowsH h' ys rs:=⟨w.len,λ i y r a b=>let ⟨q,e,g⟩:=w.at_ i y r a b;⟨q,e,k _ _ g⟩⟩
noncomputable def IsH (h:IH) (v:IV) (r:RH):Prop:=∃j,v=.ref j/\h[j]?=some (.ins "Work" (wfs r.1.name r.1.gap r.1.len r.1.due r.1.late (r.2.map tupH)))
structure AllH (h:IH) (vs:List IV) (rs:List RH):Prop where
 len:vs.length=rs.length
 at_:∀(i:Nat) v r,vs[i]?=some v->rs[i]?=some r->IsH h v r
theorem AllH.kp {h h':IH}{vs:List IV}{rs:List RH}(k:Kp h h') (w:AllH h vs rs):AllH h' vs rs:=⟨w.len,λ i v r a b=>let ⟨j,e,g⟩:=w.at_ i v r a b;⟨j,e,k _ _ g⟩⟩
theorem AllH.w {h:IH}{vs:List IV}{rs:List RH}(w:AllH h vs rs):AllW h vs (rs.map (·.1)):=by
 refine⟨by rw[List.length_map];exact w.len,λ i v d a b=>?_⟩
 rw[List.getElem?_map] at b
 cases er:rs[i]? with
 | none=>rw[er] at b;cases b
 | some r =>
  rw[er] at b
  cases b
  obtain⟨j,e,g⟩:=w.at_ i v r a er
  exact⟨j,_,e,g⟩
theorem AllH.snoc {h:IH}{vs:List IV}{rs:List RH}{v:IV}{r:RH}(w:AllH h vs rs) (x:IsH h v r):AllH h (vs++[v]) (rs++[r]):=by
 have wl:=w.len
 refine⟨by simp[wl],λ i u e a b=>?_⟩
 by_cases hi:i<vs.length
 ·rw[List.getElem?_append_left hi] at a
  rw[List.getElem?_append_left (by omega)] at b
  exact w.at_ i u e a b
 ·rw[List.getElem?_append_right (by omega)] at a
  rw[List.getElem?_append_right (by omega)] at b
  have ei:i-vs.length=0:=by
   by_cases q:i-vs.length=0
   ·exact q
   ·obtain⟨n,hn⟩:∃n,i-vs.length=n+1:=⟨i-vs.length-1,by omega⟩
    rw[hn] at a
    cases a
  rw[ei] at a
  rw[<- wl,ei] at b
  cases a
  cases b
  exact x
theorem J5a {unit:Int}{rs:List RH}(hu:1<=unit) (hf:∀r∈rs,F6 unit r) (hl:rs.length<=6):Jrv (rs.map (·.1))<=80:=by
 have ht:topD (rs.map (·.1))<=8*unit+4:=by
  unfold topD
  split
  ·omega
  ·rename_i hne
   refine Jw4 _ _ _ (by rw[List.length_map,List.length_map];cases rs with|nil=>exact absurd rfl hne|cons _ _=>simp) λ j hj=>?_
   rw[List.length_map,List.length_map] at hj
   have e:((rs.map (·.1)).map (·.due)).getD j 0=(rs[j]).1.due:=by
    rw[List.getD_eq_getElem?_getD,List.getElem?_map,List.getElem?_map,List.getElem?_eq_getElem hj];rfl
   have f:=hf _ (List.getElem_mem hj)
   have f1:=f.d2
   have f2:=f.g2
   show((rs.map (·.1)).map (·.due)).getD j 0<=_
   rw[e]
   omega
 have:=Jw1 13 ((rs.map (·.1)).map λ d=>rup (topD (rs.map (·.1))+d.late) d.gap) λ x hx=>by
  obtain⟨d,hd,rfl⟩:=List.mem_map.mp hx
  obtain⟨r,hr,rfl⟩:=List.mem_map.mp hd
  have f:=hf r hr
  have f1:=f.g1
  have f2:=f.t2
  exact J1f (by omega) (by omega)
 rw[List.length_map,List.length_map] at this
 unfold Jrv
 omega
noncomputable def dS (v:IV):PyData:=match v with
 | .str x=>.str x
 | _=>.none
theorem compE {h h0:IH}{it:I1}{e:E1}{js:List Nat}{σ:ISt}{xs:List IV}{chk:IH->Prop}(D:IV->IV->IH->Prop) (hit:WR (it σ h0) λ J h1=>J.xs=xs/\J.chk=chk/\h1=h) (hl:xs.length<sizeLine)
  (mono:∀x y h2 h3,KpB h.length h2 h3->D x y h2->D x y h3) (hc:∀h2:IH,Kp h h2->chk h2)
  (he:∀x∈xs,∀h2:IH,Kp h h2->h.length<h2.length->WR (e (some x::js.map λ j=>(σ[j]?).join) h2) λ v h3=>Ex h2 h3/\D x v h3) :
  ∃v h3,Jx it 1 js (gNm 0) Jay e σ h0=.ok v h3/\v=.ref h.length/\∃ys,h3[h.length]?=some (.lst ys)/\ys.length=xs.length/\Kp h h3/\∀(i:Nat) x y,xs[i]?=some x->ys[i]?=some y->D x y h3 :=
 (J0e D hit hl mono hc he).eq
section
variable {k:Nat}{h:IH}
end
section
variable {k:Nat}{h h1:IH}{σ:ISt}
theorem J4c {Q:IV->IH->Prop}:WR (Jyf σ h) Q=Q (.ref h.length) (h++[.dct []]):=rfl
theorem J4d {P:Pg}{m:Str}{n i:Nat}{o:E1}{a:A1}{kvs:List (Key×IV)}{Q:IV->IH->Prop}{g:IV->List IV->IH->Res IV}(e:o σ h=.ok (.ref i) h1) (hl:h1[i]?=some (.dct kvs)) (hg:bmOf "dict" m n=some g):WR (eDot P m n o a σ h) Q=WR (a σ h1) λ vs h2=>WR (g (.ref i) vs h2) Q:=by
 unfold eDot
 rw[e]
 have hi:Jqq (.ref i) h1=false:=by simp[Jqq,hl]
 have ht:tyS (.ref i) h1="dict":=by simp[tyS,hl]
 dsimp only
 rw[hi,ht,hg]
 dsimp only
 rw[if_neg Bool.false_ne_true]
 unfold eBm
 rw[e,Jf,Jli]
 have:tyOk "dict" (.ref i) h1=true:=by simp[tyOk,hl]
 rw[if_pos this,Jf]
theorem Juv:bmOf "dict" "setdefault" 2=some Je9:=by kernel_rfl
theorem J0i {i:Nat}{kvs:List (Key×IV)}{x:Str}{v w:IV}{Q:IV->IH->Prop}(hi:h[i]?=some (.dct kvs)) (e:valI kvs (.inr x)=some w):WR (Je9 (.ref i) [.str x,v] h) Q=Q w h:=by
 unfold Je9
 simp only[hi,keyI,e]
 rfl
theorem J0h {i:Nat}{kvs:List (Key×IV)}{x:Str}{v:IV}{Q:IV->IH->Prop}(hi:h[i]?=some (.dct kvs)) (e:valI kvs (.inr x)=none) (hl:kvs.length<sizeLine):WR (Je9 (.ref i) [.str x,v] h) Q=Q v (h.set i (.dct (kvs++[(.inr x,v)]))):=by
 unfold Je9
 simp only[hi,keyI,e,hl,if_true]
 rfl
end
theorem Jw8 (kvs:List (Key×IV)) (k k':Key) (v:IV):valI (kvs++[(k,v)]) k'=match valI kvs k' with
  | some w=>some w
  | none=>if k=k' then some v else none:=by
 induction kvs with
 | nil =>
  by_cases e:k=k'
  ·rw[List.nil_append,Jjl e,if_pos e];rfl
  ·rw[List.nil_append,Jjk e,if_neg e];rfl
 | cons p r ih =>
  by_cases e:p.1=k'
  ·rw[List.cons_append,Jjl e,Jjl e]
  ·rw[List.cons_append,Jjk e,Jjk e,ih]
noncomputable def has (x:Str) (hs:List Hd):Bool:=hs.any λ a=>decide (a.1=x)
noncomputable def fstK (hss:List (List Hd)) (x:Str):Option Nat:=hss.findIdx? (has x)
noncomputable def fV (o:Option Nat):IV:=match o with
 | some i=>.int (i:Int)
 | none=>.non
theorem Jvi (hss:List (List Hd)) (hs:List Hd) (x:Str):fstK (hss++[hs]) x=match fstK hss x with
  | some i=>some i
  | none=>if has x hs=true then some hss.length else none:=by
 unfold fstK
 rw[List.findIdx?_append]
 cases hss.findIdx? (has x) with
 | some i=>rfl
 | none =>
  by_cases e:has x hs=true
  ·simp[List.findIdx?_cons,e]
  ·simp[List.findIdx?_cons,e]
theorem Jr6 (x:Str) (hs:List Hd) (a:Hd):has x (hs++[a])=(has x hs||decide (a.1=x)):=by simp[has]
section
variable {k:Nat}{h:IH}
theorem dls {a:IV}:(([("works",a)]:List (Str×IV))).lookup ("size":Str)=none:=by kernel_rfl
theorem Jj2 {vs:List IV}{D:Nat}(hD:h[D]?=some (.ins "Duty" (dfs vs))):Jcu (k+1) [.ref D] h=.ok (.int vs.length) h:=by
 refine Jd9 ?_
 rw[Joi]
 simp! [Jc2,Ji hD,dl0]
noncomputable def Told (kvs:List (Key×IV)) (hss:List (List Hd)) (n:Nat) (hs:List Hd):Prop:=∀x,valI kvs (.inr x)=match fstK hss x with
 | some i=>some (.int (i:Int))
 | none=>if has x hs=true then some (.int (n:Int)) else none
theorem Told.next {kvs:List (Key×IV)}{hss:List (List Hd)}{hs:List Hd}{n:Nat}(t:Told kvs hss n hs) (hn:hss.length=n):Told kvs (hss++[hs]) (n+1) []:=λ x=>by
 subst hn
 rw[t x,Jvi]
 cases fstK hss x with
 | some i=>rfl
 | none =>
  by_cases e:has x hs=true
  ·simp only[e,if_true]
  ·simp only[e];rfl
theorem Told.old {kvs:List (Key×IV)}{hss:List (List Hd)}{n:Nat}{hs:List Hd}{a:Hd}{w:IV}(t:Told kvs hss n hs) (e:valI kvs (.inr a.1)=some w):Told kvs hss n (hs++[a]):=λ x=>by
 rw[t x]
 cases ef:fstK hss x with
 | some i=>rfl
 | none =>
  dsimp only
  rw[Jr6]
  by_cases ea:a.1=x
  ·have:=t x
   rw[<- ea,e,ea,ef] at this
   dsimp only at this
   by_cases q:has x hs=true
   ·simp[q]
   ·rw[if_neg q] at this
    cases this
  ·simp[ea]
theorem Told.new {kvs:List (Key×IV)}{hss:List (List Hd)}{n:Nat}{hs:List Hd}{a:Hd}(t:Told kvs hss n hs) (e:valI kvs (.inr a.1)=none):Told (kvs++[(.inr a.1,.int (n:Int))]) hss n (hs++[a]):=λ x=>by
 rw[Jw8,t x]
 cases ef:fstK hss x with
 | some i=>rfl
 | none =>
  dsimp only
  rw[Jr6]
  by_cases q:has x hs=true
  ·simp[q]
  ·by_cases ea:a.1=x
   ·simp[q,ea]
   ·have:¬((.inr a.1:Key)=.inr x):=λ z=>ea (Sum.inr.inj z)
    simp[q,ea]
theorem Jqf {vs:List IV}{rs:List RH}{D:Nat}(hD:h[D]?=some (.ins "Duty" (dfs vs))) (w:AllH h vs rs) (hl:rs.length<=12) (h6:∀r∈rs,r.2.length<=6) :
  WR (Jfg (k+2) [.ref D] h) λ v h'=>∃i kvs,v=.ref i/\h'[i]?=some (.dct kvs)/\(∀x,(valI kvs (.inr x)).getD .non=fV (fstK (rs.map (·.2)) x))/\Ex h h':=by
 have hb:=Jc
 have wl:=w.len
 rw[Jqk]
 simp! [Jeg,Jit,J4c]
 rw[Jag (i:=D) (h1:=h++[.dct []]) rfl (grow hD) dls (Jey _)]
 simp! [Jj2 (grow hD)]
 refine⟨by omega,?_⟩
 refine Jbx (λ n σ h'=>∃kvs g a b,h'=h++L3.IO.dct kvs::g/\σ=[some (.ref D),some (.ref h.length),a,b]/\kvs.length<=6*n/\Told kvs ((rs.map (·.2)).take n) n []) (λ _ _ _ _=>trivial) ?_ ?_ ⟨[],[],none,none,rfl,rfl,by simp,λ x=>by simp[valI,fstK,has]⟩
 ·rintro n hn _ _ ⟨kvs,g,a,b,rfl,rfl,ln,td⟩
  rw[Jaq]
  rw[Jn] at hn
  have hn':n<rs.length:=by omega
  have en:(0:Int)+(n:Int)=n:=by omega
  obtain⟨j,ej,gj⟩:=w.at_ n _ _ (List.getElem?_eq_getElem (by omega)) (List.getElem?_eq_getElem hn')
  have av:atI vs (n:Int)=some (.ref j):=Ja5 (by rw[List.getElem?_eq_getElem (by omega),ej])
  have hl6:=h6 _ (List.getElem_mem hn')
  have hm:n<(rs.map (·.2)).length:=by rw[List.length_map];exact hn'
  have tk:(rs.map (·.2)).take (n+1)=(rs.map (·.2)).take n++[(rs[n]).2]:=by rw[List.take_succ_eq_append_getElem hm,List.getElem_map]
  rw[tk]
  generalize rs[n]=r at gj hl6
  simp! [en,Jhu]
  have x1:Ex h (h++L3.IO.dct kvs::g):=.cons _ _ _
  have ed:eDot (pg (k+1)) "work" 1 (eVar 0) (Ja (eVar 2) aNil) [some (IV.ref D),some (IV.ref h.length),some (IV.int (n:Int)),b] (h++L3.IO.dct kvs::g)=.ok (.ref j) (h++L3.IO.dct kvs::g):=by
   refine Jd9 ?_
   rw[Jag (i:=D) (h1:=h++L3.IO.dct kvs::g) rfl (x1.get hD) dlw (Jw _)]
   simp! [Ja7 (x1.get hD) av]
  rw[Jag (i:=j) (h1:=h++L3.IO.dct kvs::g) ed (x1.get gj) flh (Jez _)]
  simp! [Jkv (x1.get gj),Jfe,Jy]
  generalize r.2=hs at hl6
  refine Jbx (λ m σ h'=>∃kvs' b',h'=h++L3.IO.dct kvs'::(g++[L3.IO.lst (hs.map tupH)])/\σ=[some (.ref D),some (.ref h.length),some (.int (n:Int)),b']/\kvs'.length<=6*n+m/\Told kvs' ((rs.map (·.2)).take n) n (hs.take m)) ?_ ?_ ?_ ⟨kvs,b,by rw[List.append_assoc,List.cons_append],rfl,by omega,td⟩
  ·rintro _ _ _ ⟨kvs',b',rfl,_⟩
   rw[show h++L3.IO.dct kvs'::(g++[L3.IO.lst (hs.map tupH)])=(h++L3.IO.dct kvs'::g)++[L3.IO.lst (hs.map tupH)] by rw[List.append_assoc,List.cons_append],
    show(h++L3.IO.dct kvs::g).length=(h++L3.IO.dct kvs'::g).length by simp]
   exact Jy
  ·rintro m hm _ _ ⟨kvs',b',rfl,rfl,lm,tm⟩
   have hm':m<hs.length:=by simpa using hm
   rw[List.getElem_map,List.take_succ_eq_append_getElem hm']
   generalize hs[m]=a at *
   simp! [Jht]
   rw[J4d (i:=h.length) (h1:=h++L3.IO.dct kvs'::(g++[L3.IO.lst (hs.map tupH)])) rfl Jm Juv]
   simp! [tupH]
   cases ev:valI kvs' (.inr a.1) with
   | some w' =>
    rw[J0i Jm ev]
    exact⟨kvs',_,rfl,rfl,by omega,tm.old ev⟩
   | none =>
    rw[J0h Jm ev (by omega),Jcj]
    exact⟨_,_,rfl,rfl,by rw[List.length_append,List.length_singleton];omega,tm.new ev⟩
  ·rintro _ _ ⟨kvs',b',rfl,rfl,lm,tm⟩
   rw[List.length_map] at lm tm
   rw[List.take_of_length_le (Nat.le_refl _)] at tm
   have ltn:((rs.map (·.2)).take n).length=n:=by rw[List.length_take];omega
   exact⟨kvs',_,_,_,rfl,rfl,by omega,tm.next ltn⟩
 ·rintro _ _ ⟨kvs,g,a,b,rfl,rfl,ln,td⟩
  simp! [Jiu]
  refine⟨_,kvs,rfl,Jm,λ x=>?_,.cons _ _ _⟩
  have:=td x
  rw[Jn,List.take_of_length_le (by rw[List.length_map];omega)] at this
  rw[this]
  cases fstK (rs.map (·.2)) x with
  | some i=>rfl
  | none=>simp[has,fV]
end
noncomputable def tn (b:Hd):Int:=b.2.2-b.2.1-1
noncomputable def stB (hss:List (List Hd)) (a:Nat) (b:Hd):Bool:=match fstK hss b.1 with
 | some m=>decide (m<=a)
 | none=>false
noncomputable def fds (st:Hd->Bool):Nat->List (List Hd)->List (Nat×Hd)
 | _,[]=>[]
 | o,hs::r=>(hs.filter st).map (λ b=>(o,b))++fds st (o+1) r
theorem Jr5 (st:Hd->Bool):∀(l:List (List Hd)) (o:Nat) (hs:List Hd),fds st o (l++[hs])=fds st o l++(hs.filter st).map λ b=>(o+l.length,b)
 | [],o,hs=>by simp[fds]
 | a::l,o,hs=>by
  rw[List.cons_append,fds,fds,Jr5 st l (o+1) hs,List.append_assoc,List.length_cons,show o+1+l.length=o+(l.length+1) by omega]
theorem Jvg (st:Hd->Bool):∀(l:List (List Hd)) (o:Nat),(∀hs∈l,hs.length<=6)->(fds st o l).length<=6*l.length
 | [],o,_=>by simp[fds]
 | a::l,o,q=>by
  have h1:=Jvg st l (o+1) λ hs h=>q hs (List.mem_cons_of_mem _ h)
  have h2:=q a List.mem_cons_self
  have h3:=List.length_filter_le st a
  rw[fds,List.length_append,List.length_map,List.length_cons]
  omega
noncomputable def prV (p:Nat×Hd):IV:=.tup [.int (p.1:Int),tupH p.2]
noncomputable def kfV (v:IV):Int:=match v with
 | .tup [_,.tup [_,.int s,.int e]]=>e-s-1
 | _=>0
theorem kf_pr (p:Nat×Hd):kfV (prV p)=tn p.2:=rfl
theorem Juu (l:List (Nat×Hd)):(l=[]/\Jut kfV .non (l.map prV)=.non)∨∃p∈l,Jut kfV .non (l.map prV)=prV p/\∀p'∈l,tn p'.2<=tn p.2:=by
 cases l with
 | nil=>exact .inl ⟨rfl,rfl⟩
 | cons p0 r =>
  refine .inr ?_
  rw[List.map_cons]
  show ∃p∈p0::r,Jcn kfV (prV p0) (r.map prV)=prV p/\_
  obtain⟨h1,h2⟩:=Jjz kfV (r.map prV) (prV p0)
  have key:∀p,Jcn kfV (prV p0) (r.map prV)=prV p->∀p'∈p0::r,tn p'.2<=tn p.2:=λ p e p' hp'=>by
   rw[e,kf_pr] at h1 h2
   rcases List.mem_cons.mp hp' with rfl|hp'
   ·exact h1
   ·exact h2 _ (List.mem_map.mpr ⟨p',hp',rfl⟩)
  rcases Jh8 kfV (r.map prV) (prV p0) with e|e
  ·exact⟨p0,List.mem_cons_self,e,key p0 e⟩
  ·obtain⟨p,hp,e⟩:=List.mem_map.mp e
   exact⟨p,List.mem_cons_of_mem _ hp,e.symm,key p e.symm⟩
structure Dty (h:IH) (D:Nat) (vs:List IV) (rs:List RH):Prop where
 d:h[D]?=some (.ins "Duty" (dfs vs))
 w:AllH h vs rs
 few:rs.length<=12
 six:∀r∈rs,r.2.length<=6/\∀a∈r.2,IsNm a.1
theorem Dty.kp {h h':IH}{D:Nat}{vs:List IV}{rs:List RH}(k:Kp h h') (y:Dty h D vs rs):Dty h' D vs rs:=⟨k _ _ y.d,y.w.kp k,y.few,y.six⟩
noncomputable def stV (hss:List (List Hd)) (a:Nat) (v:IV):Bool:=match v with
 | .tup [.str x,.int s,.int e]=>stB hss a (x,s,e)
 | _=>false
noncomputable def J3d (o:Int) (v:IV):IV:=.tup [.int o,v]
theorem Jww (hss:List (List Hd)) (a o:Nat):∀hs:List Hd,((hs.map tupH).filter (stV hss a)).map (J3d (o:Int))=((hs.filter (stB hss a)).map λ b=>(o,b)).map prV
 | []=>rfl
 | b::hs=>by
  rw[List.map_cons,List.filter_cons,List.filter_cons]
  have e:stV hss a (tupH b)=stB hss a b:=rfl
  rw[e]
  split
  ·rw[List.map_cons,List.map_cons,List.map_cons,Jww hss a o hs]
   rfl
  ·exact Jww hss a o hs
section
variable {k:Nat}{h:IH}
theorem J4j {i:Nat}{kvs:List (Key×IV)}{x:Str}{v:IV}{Q:IV->IH->Prop}(hi:h[i]?=some (.dct kvs)) (e:valI kvs (.inr x)=some v):WR (Jtp (.ref i) (.str x) h) Q=Q v h:=by
 unfold Jtp
 simp only[hi,keyI,e]
 rfl
theorem Jsj (b:Hd):Ja4 (k+1) [tupH b] h=.ok (.int (tn b)) h:=by
 refine Jd9 ?_
 rw[Jm0]
 simp! [Jcd,tupH,tn]
theorem J4m {gt:IV->IV->Option Bool}{q:Str}{j i a:Nat}{js:List Nat}{m:E1}{d:IV}{σ:ISt}{Q:IV->IH->Prop}(hj:h[j]?=some (.tab q)) (hi:σ[i]?=some (some (.ref a))) :
  WR (Jvc gt q j js (Ja (eVar i) aNil) m (eC d) σ h) Q=WR (Jta gt (λ v h'=>m (some v::js.map λ j=>(σ[j]?).join) h') a d h) Q:=by
 have e:Ja (eVar i) aNil σ h=.ok [.ref a] h:=by
  unfold Ja eVar aNil
  rw[hi]
  rfl
 unfold Jvc
 rw[e]
 show WR (match h[j]? with|some (.tab q')=>_|_=>_) Q=_
 rw[hj]
 dsimp only
 rw[if_pos rfl]
 rfl
theorem Jte {D a:Nat}{vs:List IV}{rs:List RH}(y:Dty h D vs rs) (ha:a<rs.length) (h0:h[0]?=some (.tab "longest_hold")) :
  WR (Jaz (k+3) [.ref D,.int (a:Int)] h) λ v h'=>v=Jut kfV .non ((fds (stB (rs.map (·.2)) a) (a+1) ((rs.map (·.2)).drop (a+1))).map prV)/\Ex h h':=by
 have hb:=Jc
 rw[Jj9]
 simp! [Jbb]
 refine WR.mono (Jqf (k:=k) y.d y.w y.few λ r hr=>(y.six r hr).1) ?_
 rintro _ h1 ⟨t,kvs,rfl,gt,tv,x1⟩
 have y1:=y.kp x1.kp
 have wl:=y1.w.len
 have few:=y.few
 simp! [Jdz,Jd0,List.length_nil,Nat.zero_le]
 rw[Jag (i:=D) (h1:=h1++[.lst []]) rfl (grow y1.d) dls (Jey _)]
 simp! [Jj2 (grow y1.d)]
 refine⟨by omega,?_⟩
 generalize hss':rs.map (·.2)=hss at tv
 have lh:hss.length=rs.length:=by rw[<- hss'];simp
 have six:∀hs∈hss,hs.length<=6:=λ hs q=>by
  rw[<- hss'] at q
  obtain⟨r,hr,rfl⟩:=List.mem_map.mp q
  exact(y.six r hr).1
 refine Jbx (λ m σ h'=>∃g c,h'=h1++L3.IO.lst ((fds (stB hss a) (a+1) ((hss.drop (a+1)).take m)).map prV)::g/\σ=[some (.ref D),some (.int (a:Int)),some (.ref t),some (.ref h1.length),c]) (λ _ _ _ _=>trivial) ?_ ?_ ⟨[],none,rfl,rfl⟩
 ·rintro n hn _ _ ⟨g,c,rfl,rfl⟩
  rw[Jaq]
  rw[Jn] at hn
  have hn':a+1+n<rs.length:=by omega
  have en:(a:Int)+1+(n:Int)=((a+1+n:Nat):Int):=by push_cast;omega
  have hd:n<(hss.drop (a+1)).length:=by rw[List.length_drop];omega
  have ed:(hss.drop (a+1))[n]=(rs[a+1+n]).2:=by
   rw[List.getElem_drop]
   subst hss'
   rw[List.getElem_map]
  rw[List.take_succ_eq_append_getElem hd,Jr5,List.length_take,Nat.min_eq_left (by omega),ed]
  have lf:=Jvg (stB hss a) ((hss.drop (a+1)).take n) (a+1) λ hs q=>six hs (List.mem_of_mem_drop (List.mem_of_mem_take q))
  rw[List.length_take,Nat.min_eq_left (by omega)] at lf
  generalize hF:fds (stB hss a) (a+1) ((hss.drop (a+1)).take n)=F at lf
  obtain⟨j,ej,gj⟩:=y1.w.at_ (a+1+n) _ _ (List.getElem?_eq_getElem (by omega)) (List.getElem?_eq_getElem hn')
  have av:atI vs ((a+1+n:Nat):Int)=some (.ref j):=Ja5 (by rw[List.getElem?_eq_getElem (by omega),ej])
  have hl6:=(y.six _ (List.getElem_mem hn')).1
  have held:∀b∈(rs[a+1+n]).2,∃m,fstK hss b.1=some m:=λ b hb'=>by
   cases e:fstK hss b.1 with
   | some m=>exact⟨m,rfl⟩
   | none =>
    exfalso
    unfold fstK at e
    rw[List.findIdx?_eq_none_iff] at e
    have:=e (rs[a+1+n]).2 (by rw[<- hss'];exact List.mem_map.mpr ⟨_,List.getElem_mem hn',rfl⟩)
    unfold has at this
    have t2:((rs[a+1+n]).2.any λ x=>decide (x.1=b.1))=true:=List.any_eq_true.mpr ⟨b,hb',by simp⟩
    rw[t2] at this
    cases this
  generalize rs[a+1+n]=r at gj hl6 held
  have x2:Ex h1 (h1++L3.IO.lst (F.map prV)::g):=.cons _ _ _
  rw[en]
  simp! [Jcq]
  have ew:eDot (pg (k+2)) "work" 1 (eVar 0) (Ja (eVar 4) aNil) [some (IV.ref D),some (IV.int (a:Int)),some (IV.ref t),some (IV.ref h1.length),some (IV.int ((a+1+n:Nat):Int))] (h1++L3.IO.lst (F.map prV)::g)=.ok (.ref j) (h1++L3.IO.lst (F.map prV)::g):=by
   refine Jd9 ?_
   rw[Jag (i:=D) (h1:=h1++L3.IO.lst (F.map prV)::g) rfl (x2.get y1.d) dlw (Jw _)]
   simp! [Ja7 (x2.get y1.d) av]
  rw[Jgf (i:=h1.length) (h1:=h1++L3.IO.lst (F.map prV)::g) rfl Jm Jn3]
  simp! [true_and]
  refine WR.mono (Jra (h:=h1++L3.IO.lst (F.map prV)::g++[L3.IO.lst (r.2.map tupH)]) (xs:=r.2.map tupH) (chk:=λ h'=>h'[(h1++L3.IO.lst (F.map prV)::g).length]?=some (.lst (r.2.map tupH))) (p:=stV hss a) (f:=J3d ((a+1+n:Nat):Int)) ?_ (by rw[List.length_map];omega) (λ h2 q=>q _ _ Jy) ?_ ?_) ?_
  ·rw[Jns,Jag (i:=j) (h1:=h1++L3.IO.lst (F.map prV)::g) ew (x2.get gj) flh (Jez _)]
   simp! [Jkv (x2.get gj),Jfe,Jy]
  ·intro v hv h2 q
   obtain⟨b,hb',rfl⟩:=List.mem_map.mp hv
   obtain⟨m,em⟩:=held b hb'
   have ev:valI kvs (.inr b.1)=some (.int (m:Int)):=by
    have z:=tv b.1
    rw[em] at z
    cases w:valI kvs (.inr b.1) with
    | none=>rw[w] at z;cases z
    | some v'=>rw[w] at z;exact congrArg some z
   have gt2:h2[t]?=some (.dct kvs):=q _ _ (grow (x2.get gt))
   simp only[List.map_cons,List.map_nil,List.getElem?_cons_succ,List.getElem?_cons_zero,Option.join_some]
   simp! [Jb2,tupH,J4j gt2 ev]
   refine⟨?_,.refl _⟩
   show decide ((m:Int)<=a)=stB hss a b
   unfold stB
   rw[em]
   simp
  ·intro v hv _ h2 q
   simp only[List.map_cons,List.map_nil,List.getElem?_cons_succ,List.getElem?_cons_zero,Option.join_some]
   simp! [Jb1,J3d,List.length_cons,List.length_nil]
   exact⟨by omega,.refl _⟩
  ·rintro _ _ ⟨rfl,g2,rfl⟩
   rw[Jww]
   have lr:=List.length_filter_le (stB hss a) r.2
   rw[Jp1 (xs:=F.map prV) (grow (grow Jm)) Jm (by rw[List.length_map,List.length_map,List.length_map];omega)]
   refine⟨g++[L3.IO.lst (r.2.map tupH)]++L3.IO.lst (((r.2.filter (stB hss a)).map λ b=>(a+1+n,b)).map prV)::g2,_,?_,rfl⟩
   rw[List.append_assoc,List.append_assoc,List.cons_append,Jcj,List.map_append,List.append_assoc]
 ·rintro _ _ ⟨g,c,rfl,rfl⟩
  rw[Jn,List.take_of_length_le (by rw[List.length_drop];omega)]
  generalize fds (stB hss a) (a+1) (hss.drop (a+1))=F
  have x2:Ex h1 (h1++L3.IO.lst (F.map prV)::g):=.cons _ _ _
  simp! [Jd1]
  rw[J4m (x2.get (x1.get h0)) rfl]
  refine WR.mono (J0f (kf:=kfV) Jm ?_) ?_
  ·intro v hv h2 x3
   obtain⟨p,hp,rfl⟩:=List.mem_map.mp hv
   simp! [Jb3,prV,Jsj]
   exact⟨rfl,.refl _⟩
  ·rintro v h3 ⟨rfl,x3⟩
   exact⟨rfl,(x1.trans x2).trans x3⟩
noncomputable def UpIs (l:List (Nat×Hd)) (z:Int):Prop:=(l=[]/\z=0)∨∃p∈l,z=tn p.2/\∀p'∈l,tn p'.2<=z
theorem Js3 {D a:Nat}{vs:List IV}{rs:List RH}(y:Dty h D vs rs) (ha:a<rs.length) (h0:h[0]?=some (.tab "longest_hold")) :
  WR (Jgg (k+4) [.ref D,.int (a:Int)] h) λ v h'=>(∃z,v=.int z/\UpIs (fds (stB (rs.map (·.2)) a) (a+1) ((rs.map (·.2)).drop (a+1))) z)/\Ex h h':=by
 rw[Jsv]
 simp! [Jf2]
 refine WR.mono (Jte (k:=k) y ha h0) ?_
 rintro _ h1 ⟨rfl,x1⟩
 generalize fds (stB (rs.map (·.2)) a) (a+1) ((rs.map (·.2)).drop (a+1))=F
 rcases Juu F with⟨e1,e2⟩|⟨p,hp,e2,all⟩
 ·rw[e2]
  simp! [Jf3,Jrc,isI]
  exact⟨.inl ⟨e1,rfl⟩,x1⟩
 ·rw[e2]
  simp! [Jf3,prV,Jrc,isI,Jsj]
  exact⟨.inr ⟨p,hp,rfl,all⟩,x1⟩
end
theorem Jvh (st:Hd->Bool):∀(l:List (List Hd)) (o:Nat),(∀hs∈l,∀b∈hs,0<=tn b)->∀p∈fds st o l,0<=tn p.2
 | [],_,_,p,hp=>by cases hp
 | hs::l,o,q,p,hp=>by
  rw[fds] at hp
  rcases List.mem_append.mp hp with hp|hp
  ·obtain⟨b,hb',rfl⟩:=List.mem_map.mp hp
   exact q hs List.mem_cons_self b (List.mem_filter.mp hb').1
  ·exact Jvh st l (o+1) (λ hs h=>q hs (List.mem_cons_of_mem _ h)) p hp
noncomputable def stT (v:IV):ISt:=match v with
 | .tup [a,b,c]=>[some a,some b,some c]
 | _=>[]
noncomputable def cmn (s:Int) (d:WD):Int:=if 1<=s then rup (s+d.late) d.gap else 0
noncomputable def Jbo (rs:List RH) (s:Int):Int:=(rs.map λ r=>cmn s r.1*r.1.len).sum
noncomputable def aOfN (s:Int) (h:IH) (v:IV):IV:=match Jj6 "late" v h,Jj6 "gap" v h,Jj6 "length" v h with
 | some (.int l),some (.int g),some (.int n)=>.int ((if 1<=s then rup (s+l) g else 0)*n)
 | _,_,_=>.non
noncomputable def J1w (rs:List RH):Prop:=∀r∈rs,0<r.1.gap/\r.1.gap.natAbs.log2<9000/\r.1.len.natAbs<2^64
theorem AllH.take {h:IH}{vs:List IV}{rs:List RH}(w:AllH h vs rs) (n:Nat):AllH h (vs.take n) (rs.take n):=by
 refine⟨by rw[List.length_take,List.length_take,w.len],λ i v r a b=>?_⟩
 rw[List.getElem?_take] at a b
 split at a
 ·rename_i q
  rw[if_pos q] at b
  exact w.at_ i v r a b
 ·cases a
noncomputable def vAt (vs:List IV) (v:IV):IV:=match v with
 | .int n=>(vs[n.toNat]?).getD .non
 | _=>.non
theorem J4a (vs:List IV) (a:Nat) (ha:a<=vs.length):(rngI 0 (a:Int)).map (vAt vs)=vs.take a:=by
 refine List.ext_getElem? λ i=>?_
 rw[List.getElem?_map]
 by_cases hi:i<a
 ·have hr:i<(rngI 0 (a:Int)).length:=by rw[Jn];omega
  rw[List.getElem?_eq_getElem hr,Jaq,List.getElem?_take,if_pos hi,List.getElem?_eq_getElem (show i<vs.length by omega)]
  simp only[Option.map_some,vAt]
  rw[show((0:Int)+(i:Int)).toNat=i by omega,List.getElem?_eq_getElem (show i<vs.length by omega)]
  rfl
 ·rw[List.getElem?_eq_none (by rw[Jn];omega),List.getElem?_take,if_neg hi]
  rfl
section
variable {k:Nat}{h:IH}
theorem Jib {d:WD}{hs:List IV}{w:Nat}{s:Int}(hw:h[w]?=some (.ins "Work" (wfs d.name d.gap d.len d.due d.late hs))) (hg:0<d.gap) (hl:d.gap.natAbs.log2<9000) :
  J7 (k+2) [.ref w,.int s] h=.ok (.int (cmn s d)) h:=by
 refine Jd9 ?_
 rw[Jmy]
 simp! [Jcb,Ji hw,fl4,fl1,Jph hg hl,decide_eq_true_eq,decide_eq_false_iff_not,cmn]
 exact⟨λ q=>by rw[if_pos q],λ q=>by rw[if_neg q]⟩
theorem Jru {h h0:IH}{it:I1}{e:E1}{js:List Nat}{σ:ISt}{xs:List IV}{chk:IH->Prop}{f:IV->IV}(hit:WR (it σ h0) λ J h1=>J.xs=xs/\J.chk=chk/\h1=h) (hl:xs.length<sizeLine)
  (hc:∀h2:IH,(∀(j:Nat) (ob:IO),h[j]?=some ob->h2[j]?=some ob)->chk h2)
  (he:∀x∈xs,∀h2:IH,(∀(j:Nat) (ob:IO),h[j]?=some ob->h2[j]?=some ob)->WR (e (some x::js.map λ j=>(σ[j]?).join) h2) λ v h3=>v=f x/\Ex h2 h3) :
  ∃g,Jx it 1 js (gNm 0) Jay e σ h0=.ok (.ref h.length) (h++.lst (xs.map f)::g):=by
 obtain⟨v,h3,e,rfl,g,rfl⟩:=(Ja2 hit hl hc he).eq
 exact⟨g,e⟩
theorem Jwz {D a:Nat}{vs:List IV}{s2 s3 s4:Option IV}(hD:h[D]?=some (.ins "Duty" (dfs vs))) (ha:a<=vs.length) (hv:vs.length<=12) :
  ∃g,Jx (iRg Jan (Ja (eVar 1) aNil)) 1 [0] (gNm 0) Jay (Jco (k+1)) [some (.ref D),some (.int (a:Int)),s2,s3,s4] h=.ok (.ref h.length) (h++.lst (vs.take a)::g):=by
 have hb:=Jc
 have X:=@Jru h h (iRg Jan (Ja (eVar 1) aNil)) (Jco (k+1)) [0] [some (.ref D),some (.int (a:Int)),s2,s3,s4] (rngI 0 (a:Int)) (λ _=>True) (vAt vs)
  (by simp! [true_and];exact⟨by omega,by omega⟩) (by rw[Jn];omega) (λ _ _=>trivial) (by
   intro x hx h2 q
   obtain⟨n,hn,rfl⟩:=List.mem_iff_getElem.mp hx
   rw[Jn] at hn
   rw[Jaq,show(0:Int)+(n:Int)=n by omega]
   have hnv:n<vs.length:=by omega
   have av:atI vs (n:Int)=some vs[n]:=Ja5 (List.getElem?_eq_getElem hnv)
   have eD:h2[D]?=some (.ins "Duty" (dfs vs)):=q _ _ hD
   simp only[List.map_cons,List.map_nil,List.getElem?_cons_succ,List.getElem?_cons_zero,Option.join_some]
   unfold Jco
   rw[Jag (i:=D) (h1:=h2) rfl eD dlw (Jw _)]
   simp! [Ja7 eD av]
   refine⟨?_,.refl _⟩
   unfold vAt
   dsimp only
   rw[show(n:Int).toNat=n by omega,List.getElem?_eq_getElem hnv]
   rfl)
 rw[J4a vs a ha] at X
 exact X
theorem J4u {r:Res IV}{h:IH}{P:Int->Prop}{f:Int->Int}(W:WR r λ v h'=>(∃z,P z/\v=.int (f z))/\Ex h h'):∃z h',P z/\r=.ok (.int (f z)) h'/\Ex h h':=by
 obtain⟨v,h',e,⟨z,p,rfl⟩,x⟩:=W.eq
 exact⟨z,h',p,e,x⟩
theorem Jwb {D a:Nat}{vs:List IV}{rs:List RH}{s:Int}(y:Dty h D vs rs) (ha:a<rs.length) (h0:h[0]?=some (.tab "longest_hold")) (hg:J1w rs) :
  ∃z h',UpIs (fds (stB (rs.map (·.2)) a) (a+1) ((rs.map (·.2)).drop (a+1))) z/\Jgj (k+5) [.ref D,.int (a:Int),.int s] h=.ok (.int (z+(rs[a]).1.len+Jbo (rs.take a) s)) h'/\Ex h h':=by
 refine J4u (P:=UpIs (fds (stB (rs.map (·.2)) a) (a+1) ((rs.map (·.2)).drop (a+1)))) (f:=λ z=>z+(rs[a]).1.len+Jbo (rs.take a) s) ?_
 have hb:=Jc
 have wl:=y.w.len
 have few:=y.few
 rw[J2g]
 simp! [Jmn]
 have Y0:=@Jwz (k+3) h D a vs (some (.int s)) none none y.d (by omega) (by omega)
 generalize Jx (iRg Jan (Ja (eVar 1) aNil)) 1 [0] (gNm 0) Jay (Jco (k+3+1)) [some (.ref D),some (.int (a:Int)),some (.int s),none,none] h=rc at Y0 ⊢
 obtain⟨g,rfl⟩:=Y0
 rw[Jli]
 have x1:Ex h (h++L3.IO.lst (vs.take a)::g):=.cons _ _ _
 have gV:(h++L3.IO.lst (vs.take a)::g)[h.length]?=some (.lst (vs.take a)):=Jm
 generalize h.length=V at gV
 generalize h++L3.IO.lst (vs.take a)::g=h1 at x1 gV
 have y1:=y.kp x1.kp
 have w1:=(y1.w.take a).w
 have rm:=w1.mapF (F:=aOfN s h1) (g:=λ d=>.int (cmn s d*d.len)) λ j d hs e=>by rw[aOfN,Ji e,Ji e,Ji e,fl4,fl1,fl2];rfl
 simp! [Jrp]
 refine WR.mono (Ja2 (h:=h1) (xs:=vs.take a) (chk:=λ h'=>h'[V]?=some (.lst (vs.take a))) (f:=aOfN s h1) ?_ (by rw[List.length_take];omega) (λ h2 q=>q _ _ gV) ?_) ?_
 ·simp! [Jfe,gV]
 ·intro v hv h2 q
  obtain⟨d,hd,j,hs,rfl,e⟩:=w1.of hv
  obtain⟨r,hr,rfl⟩:=List.mem_map.mp hd
  have g:=hg r (List.mem_of_mem_take hr)
  have e2:=q _ _ e
  have mf:Jas (cmn s r.1) r.1.len:=.inr (.inl g.2.2)
  simp only[List.map_cons,List.map_nil,List.getElem?_cons_succ,List.getElem?_cons_zero,Option.join_some]
  simp! [Jlm,Jib e2 g.1 g.2.1,Ji e2,fl2,mf]
  exact⟨by rw[aOfN,Ji e,Ji e,Ji e,fl4,fl1,fl2];rfl,.refl _⟩
 ·rintro _ _ ⟨rfl,g2,rfl⟩
  rw[rm]
  have em:((rs.take a).map (·.1)).map (λ d=>IV.int (cmn s d*d.len))=((rs.take a).map λ r=>cmn s r.1*r.1.len).map IV.int:=by rw[List.map_map,List.map_map];rfl
  rw[em]
  have x2:Ex h1 (h1++L3.IO.lst (((rs.take a).map λ r=>cmn s r.1*r.1.len).map IV.int)::g2):=.cons _ _ _
  simp! [Jxx,Jm,Jfp,Jrq]
  generalize h1++L3.IO.lst (((rs.take a).map λ r=>cmn s r.1*r.1.len).map IV.int)::g2=h2 at x2
  have y2:=y1.kp x2.kp
  refine WR.mono (Js3 (k:=k) y2 ha ((x1.trans x2).get h0)) ?_
  rintro _ h3 ⟨⟨z,rfl,up⟩,x3⟩
  have y3:=y2.kp x3.kp
  obtain⟨j,ej,gj⟩:=y3.w.at_ a _ _ (List.getElem?_eq_getElem (show a<vs.length by omega)) (List.getElem?_eq_getElem ha)
  have av:atI vs (a:Int)=some (.ref j):=Ja5 (by rw[List.getElem?_eq_getElem (show a<vs.length by omega),ej])
  rw[Jag (i:=D) (h1:=h3) rfl y3.d dlw (Jw _)]
  simp! [Ja7 y3.d av,Ji gj,fl2]
  exact⟨⟨z,up,rfl⟩,(x1.trans x2).trans x3⟩
end
theorem UpIs.uniq {F:List (Nat×Hd)}{z z':Int}(u:UpIs F z) (u':UpIs F z'):z=z':=by
 rcases u with⟨e,rfl⟩|⟨p,hp,rfl,a⟩
 ·rcases u' with⟨_,rfl⟩|⟨p',hp',_,_⟩
  ·rfl
  ·rw[e] at hp';cases hp'
 ·rcases u' with⟨e,rfl⟩|⟨p',hp',rfl,a'⟩
  ·rw[e] at hp;cases hp
  ·have:=a p' hp'
   have:=a' p hp
   omega
structure UpW (l:List (Nat×Hd)) (z:Int):Prop where
 nn:0<=z
 of:z=0∨∃p∈l,z=tn p.2
 le:∀p∈l,tn p.2<=z
theorem UpW.is {F:List (Nat×Hd)}{z:Int}(u:UpW F z) (pos:∀p∈F,0<=tn p.2):UpIs F z:=by
 rcases u.of with rfl|⟨p,hp,rfl⟩
 ·cases F with
  | nil=>exact .inl ⟨rfl,rfl⟩
  | cons p F =>
   refine .inr ⟨p,List.mem_cons_self,?_,λ p' hp'=>u.le p' hp'⟩
   have:=u.le p List.mem_cons_self
   have:=pos p List.mem_cons_self
   omega
 ·exact .inr ⟨p,hp,rfl,λ p' hp'=>u.le p' hp'⟩
theorem J0k {t:T1}{b:S1}{σ:ISt}{h:IH}{N:ISt->IH->Prop}{R:IV->IH->Prop}(I:Nat->ISt->IH->Prop)
  (turn:∀m σ h,I m σ h->WR (t σ h) λ c h1=>(c=true->∃m',m=m'+1/\WS (b σ h1) (I m') R)/\(c=false->N σ h1)){m:Nat}(hm:m<1000000) (start:I m σ h):WS (Jl0 t b σ h) N R:=by
 have key:∀(n m:Nat) (σ:ISt) (h:IH),m<n->I m σ h->WS (Jh1 t b n σ h) N R:=by
  intro n
  induction n with
  | zero=>intro m σ h hn _;omega
  | succ n ih =>
   intro m σ h hn hI
   obtain⟨c,h1,e,q1,q2⟩:=(turn m σ h hI).eq
   unfold Jh1
   rw[e]
   cases c with
   | false=>exact q2 rfl
   | true =>
    obtain⟨m',rfl,w⟩:=q1 rfl
    simp only[if_true]
    cases eb:b σ h1 with
    | next σ2 h2=>rw[eb] at w;exact ih m' σ2 h2 (by omega) w
    | ret v h2=>rw[eb] at w;exact w
    | _=>rw[eb] at w;exact w.elim
 have et:J0c=1000000:=by unfold J0c;rfl
 unfold Jl0
 exact key _ m σ h (by rw[et];exact hm) start
theorem Jzt {x y g:Int}(hg:0<g) (h:x<=y):rup x g<=rup y g:=by
 unfold rup
 exact Int.ediv_le_ediv hg (by omega)
theorem Jhi {s t:Int}{d:WD}(hg:0<d.gap) (h1:1<=s) (h:s<=t):cmn s d<=cmn t d:=by
 unfold cmn
 rw[if_pos h1,if_pos (by omega)]
 exact Jzt hg (by omega)
noncomputable def cnt (rs:List RH) (s:Int):Int:=(rs.map λ r=>cmn s r.1).sum
theorem Jrt {s t:Int}(h1:1<=s) (h:s<=t):∀{rs:List RH},(∀r∈rs,0<r.1.gap)->cnt rs s<=cnt rs t
 | [],_=>Int.le_refl _
 | r::rs,q=>by
  have:=Jrt h1 h (rs:=rs) λ r hr=>q r (List.mem_cons_of_mem _ hr)
  have:=Jhi (d:=r.1) (q r List.mem_cons_self) h1 h
  unfold cnt at *
  rw[List.map_cons,List.map_cons,List.sum_cons,List.sum_cons]
  omega
theorem Jh4 {s t:Int}(h1:1<=s) (h:s<=t):∀{rs:List RH},(∀r∈rs,0<r.1.gap/\0<=r.1.len)->Jbo rs s<=Jbo rs t
 | [],_=>Int.le_refl _
 | r::rs,q=>by
  have a:=Jh4 h1 h (rs:=rs) λ r hr=>q r (List.mem_cons_of_mem _ hr)
  have b:=Int.mul_le_mul_of_nonneg_right (Jhi (d:=r.1) (q r List.mem_cons_self).1 h1 h) (q r List.mem_cons_self).2
  unfold Jbo at *
  rw[List.map_cons,List.map_cons,List.sum_cons,List.sum_cons]
  omega
theorem J0u {s t:Int}(h1:1<=s) (h:s<=t):∀{rs:List RH},(∀r∈rs,0<r.1.gap/\0<=r.1.len)->Jbo rs s<Jbo rs t->cnt rs s<cnt rs t
 | [],_,z=>absurd z (Int.lt_irrefl _)
 | r::rs,q,z=>by
  have q':∀r∈rs,0<r.1.gap/\0<=r.1.len:=λ r hr=>q r (List.mem_cons_of_mem _ hr)
  have c1:=Jhi (d:=r.1) (q r List.mem_cons_self).1 h1 h
  have c2:=Jrt h1 h (rs:=rs) λ r hr=>(q' r hr).1
  have ih:=J0u h1 h q'
  unfold Jbo cnt at *
  rw[List.map_cons,List.map_cons,List.sum_cons,List.sum_cons] at z ⊢
  by_cases e:cmn s r.1=cmn t r.1
  ·rw[e] at z ⊢
   have:=ih (by omega)
   omega
  ·omega
theorem Ju2 {s:Int}{d:WD}(hg:0<d.gap) (hl:0<=d.late):0<=cmn s d:=by
 unfold cmn
 split
 ·unfold rup
  exact Int.ediv_nonneg (by omega) (by omega)
 ·exact Int.le_refl _
theorem J0v {s:Int}:∀{rs:List RH},(∀r∈rs,0<r.1.gap/\0<=r.1.late)->0<=cnt rs s
 | [],_=>Int.le_refl _
 | r::rs,q=>by
  have a:=J0v (s:=s) (rs:=rs) λ r hr=>q r (List.mem_cons_of_mem _ hr)
  have b:=Ju2 (s:=s) (d:=r.1) (q r List.mem_cons_self).1 (q r List.mem_cons_self).2
  unfold cnt at *
  rw[List.map_cons,List.sum_cons]
  omega
theorem Jmh {s:Int}:∀{rs:List RH},(∀r∈rs,0<r.1.gap/\0<=r.1.late/\0<=r.1.len)->0<=Jbo rs s
 | [],_=>Int.le_refl _
 | r::rs,q=>by
  have a:=Jmh (s:=s) (rs:=rs) λ r hr=>q r (List.mem_cons_of_mem _ hr)
  obtain⟨q1,q2,q3⟩:=q r List.mem_cons_self
  have b:=Int.mul_nonneg (Ju2 (s:=s) (d:=r.1) q1 q2) q3
  unfold Jbo at *
  rw[List.map_cons,List.sum_cons]
  omega
noncomputable def ldF (z L:Int) (rs:List RH) (s:Int):Int:=z+L+Jbo rs s
noncomputable def J42 (ld:Int->Int) (far:Int) (v:IV):Prop :=
 (v=.non/\∀l,1<=l->l<=far->l<ld l)∨∃x,v=.int x/\1<=x/\x<=far/\ld x=x/\∀l,1<=l->l<x->l<ld l
section
variable {k:Nat}{h:IH}
theorem Js5 {d:WD}{hs:List IV}{w:Nat}{s:Int}(hw:h[w]?=some (.ins "Work" (wfs d.name d.gap d.len d.due d.late hs))) :
  Jgh (k+1) [.ref w,.int s] h=.ok (.bl (decide (s+d.late<=d.due))) h:=by
 refine Jd9 ?_
 rw[Jsw]
 simp! [Jf4,Ji hw,fl4,fl3]
theorem Jul {D a:Nat}{vs:List IV}{rs:List RH}{z:Int}(y:Dty h D vs rs) (ha:a<rs.length) (h0:h[0]?=some (.tab "longest_hold")) (hg:J1w rs) (nn:∀r∈rs,0<=r.1.late/\1<=r.1.len)
  (up:UpIs (fds (stB (rs.map (·.2)) a) (a+1) ((rs.map (·.2)).drop (a+1))) z) (z0:0<=z) (few:∀s,1<=s->s+(rs[a]).1.late<=(rs[a]).1.due->cnt (rs.take a) s<=100) :
  WR (Jff (k+6) [.ref D,.int (a:Int)] h) λ v h'=>J42 (ldF z (rs[a]).1.len (rs.take a)) ((rs[a]).1.due-(rs[a]).1.late) v/\Ex h h':=by
 have hb:=Jc
 have wl:=y.w.len
 have q1:∀r∈rs.take a,0<r.1.gap/\0<=r.1.len:=λ r hr=>⟨(hg r (List.mem_of_mem_take hr)).1,by have:=(nn r (List.mem_of_mem_take hr)).2;omega⟩
 have q2:∀r∈rs.take a,0<r.1.gap/\0<=r.1.late:=λ r hr=>⟨(hg r (List.mem_of_mem_take hr)).1,(nn r (List.mem_of_mem_take hr)).1⟩
 have q3:∀r∈rs.take a,0<r.1.gap/\0<=r.1.late/\0<=r.1.len:=λ r hr=>⟨(q2 r hr).1,(q2 r hr).2,(q1 r hr).2⟩
 have lp:=(nn _ (List.getElem_mem ha)).2
 rw[Jvj]
 simp! [Jh7,Jlk]
 refine J0k (λ m σ h'=>Ex h h'/\∃(line:Int) (c:Option IV),σ=[some (.ref D),some (.int (a:Int)),some (.int line),c]/\1<=line/\line<=ldF z (rs[a]).1.len (rs.take a) line/\(∀l,1<=l->l<line->l<ldF z (rs[a]).1.len (rs.take a) l) /\
  (line+(rs[a]).1.late<=(rs[a]).1.due->1<=m/\(ldF z (rs[a]).1.len (rs.take a) line=line∨102<=(m:Int)+cnt (rs.take a) line))) ?_ (m:=102) (by decide) ⟨.refl _,1,none,rfl,by omega,?_,λ l a b=>by omega,λ _=>?_⟩
 ·rintro m _ h1 ⟨x1,line,c,rfl,l1,lge,below,cn⟩
  have y1:=y.kp x1.kp
  obtain⟨j,ej,gj⟩:=y1.w.at_ a _ _ (List.getElem?_eq_getElem (show a<vs.length by omega)) (List.getElem?_eq_getElem ha)
  have av:atI vs (a:Int)=some (.ref j):=Ja5 (by rw[List.getElem?_eq_getElem (show a<vs.length by omega),ej])
  simp! [true_and]
  rw[Jag (i:=D) (h1:=h1) rfl y1.d dlw (Jw _)]
  simp! [Ja7 y1.d av,Js5 gj,decide_eq_true_eq,decide_eq_false_iff_not]
  refine⟨λ t=>?_,λ t=>?_⟩
  ·have fw:=few line l1 t
   obtain⟨m1,cn⟩:=cn t
   refine⟨m-1,by omega,?_⟩
   simp! [Jkh]
   have Z:∃z h',UpIs (fds (stB (rs.map (·.2)) a) (a+1) ((rs.map (·.2)).drop (a+1))) z/\Jgj (k+5) [.ref D,.int (a:Int),.int line] h1=.ok (.int (z+(rs[a]).1.len+Jbo (rs.take a) line)) h'/\Ex h1 h':=Jwb (k:=k) (s:=line) y1 ha (x1.get h0) hg
   generalize Jgj (k+5) [.ref D,.int (a:Int),.int line] h1=rF at Z ⊢
   obtain⟨z',h2,up',rfl,x2⟩:=Z
   rw[Jli]
   have ez:=up'.uniq up
   subst ez
   have el:z'+(rs[a]).1.len+Jbo (rs.take a) line=ldF z' (rs[a]).1.len (rs.take a) line:=rfl
   rw[el]
   simp! [decide_eq_true_eq,decide_eq_false_iff_not]
   refine⟨λ le=>?_,λ gt=>?_⟩
   ·exact⟨.inr ⟨line,rfl,l1,by omega,by omega,below⟩,x1.trans x2⟩
   ·generalize hn:ldF z' (rs[a]).1.len (rs.take a) line=nx at *
    have gt:line<nx:=by omega
    have mono:∀l,line<=l->nx<=ldF z' (rs[a]).1.len (rs.take a) l:=λ l hl'=>by
     rw[<- hn]
     have:=Jh4 l1 hl' q1
     unfold ldF
     omega
    refine⟨x1.trans x2,nx,_,rfl,by omega,mono nx (by omega),λ l a1 a2=>?_,λ t2=>?_⟩
    ·by_cases hl':l<line
     ·exact below l a1 hl'
     ·have:=mono l (by omega)
      omega
    ·have cn:=cn.resolve_left (by omega)
     refine⟨by omega,?_⟩
     by_cases e:Jbo (rs.take a) line=Jbo (rs.take a) nx
     ·left
      unfold ldF at hn ⊢
      omega
     ·right
      have:=Jh4 l1 (show line<=nx by omega) q1
      have:=J0u l1 (show line<=nx by omega) q1 (by omega)
      omega
  ·simp! [Jll]
   exact⟨.inl ⟨rfl,λ l a1 a2=>below l a1 (by omega)⟩,x1⟩
 ·have:=Jmh (s:=1) q3
  unfold ldF
  omega
 ·have:=J0v (s:=1) q2
  exact⟨by omega,.inr (by omega)⟩
end
theorem J7o (F:List (Nat×Hd)):∃z,UpIs F z:=by
 rcases Juu F with⟨e1,_⟩|⟨p,hp,_,al⟩
 ·exact⟨0,.inl ⟨e1,rfl⟩⟩
 ·exact⟨_,.inr ⟨p,hp,rfl,al⟩⟩
noncomputable def zU (rs:List RH) (a:Nat):Int:=Classical.choose (J7o (fds (stB (rs.map (·.2)) a) (a+1) ((rs.map (·.2)).drop (a+1))))
theorem Jx6 (rs:List RH) (a:Nat):UpIs (fds (stB (rs.map (·.2)) a) (a+1) ((rs.map (·.2)).drop (a+1))) (zU rs a):=Classical.choose_spec (J7o _)
structure Du (h:IH) (D:Nat) (vs:List IV) (rs:List RH) (unit:Int):Prop where
 y:Dty h D vs rs
 t:h[0]?=some (.tab "longest_hold")
 u1:1<=unit
 u2:unit<=1000000000000000
 f:∀r∈rs,F6 unit r/\r.1.len<=9*r.1.gap+9
 l:rs.length<=5
theorem Du.kp {h h':IH}{D:Nat}{vs:List IV}{rs:List RH}{unit:Int}(k:Kp h h') (q:Du h D vs rs unit):Du h' D vs rs unit:=⟨q.y.kp k,k _ _ q.t,q.u1,q.u2,q.f,q.l⟩
theorem Du.gaps {h:IH}{D:Nat}{vs:List IV}{rs:List RH}{unit:Int}(q:Du h D vs rs unit):J1w rs:=λ r hr=>by
 have t60:(9000000000000000:Int)<=10^60:=by decide +kernel
 have a0:=q.u1
 have a5:=q.u2
 have a1:=(q.f r hr).1.g1
 have a2:=(q.f r hr).1.g2
 have a3:=(q.f r hr).1.l1
 have a4:=(q.f r hr).2
 exact⟨by omega,Jm4 (by omega) (by omega),by omega⟩
noncomputable def Ji2 (rs:List RH) (a:Nat) (v:IV):Prop:=∃r,rs[a]?=some r/\J42 (ldF (zU rs a) r.1.len (rs.take a)) (r.1.due-r.1.late) v
theorem Ji2.uniq {rs:List RH}{a:Nat}{v v':IV}(p:Ji2 rs a v) (q:Ji2 rs a v'):v=v':=by
 obtain⟨r,e,p⟩:=p
 obtain⟨r',e',q⟩:=q
 rw[e] at e'
 cases e'
 rcases p with⟨rfl,p⟩|⟨x,rfl,x1,x2,x3,x4⟩<;>rcases q with⟨rfl,q⟩|⟨y,rfl,y1,y2,y3,y4⟩
 ·rfl
 ·have:=p y y1 y2
  omega
 ·have:=q x x1 x2
  omega
 ·have:x=y:=by
   rcases Int.lt_trichotomy x y with l|e|l
   ·have:=y4 x x1 l
    omega
   ·exact e
   ·have:=x4 y y1 l
    omega
  rw[this]
theorem Ji2.kind {rs:List RH}{a:Nat}{v:IV}(p:Ji2 rs a v):v=.non∨∃x,v=.int x:=by
 obtain⟨r,_,⟨e,_⟩|⟨x,e,_⟩⟩:=p
 ·exact .inl e
 ·exact .inr ⟨x,e⟩
section
variable {k:Nat}{h:IH}{D a:Nat}{vs:List IV}{rs:List RH}{unit:Int}
theorem Du.z0 (q:Du h D vs rs unit) (a:Nat):0<=zU rs a:=by
 rcases Jx6 rs a with⟨_,e⟩|⟨p,hp,e,_⟩
 ·omega
 ·rw[e]
  refine Jvh _ _ _ (λ hs q' b hb'=>?_) p hp
  obtain⟨r,hr,rfl⟩:=List.mem_map.mp (List.mem_of_mem_drop q')
  have:=((q.f r hr).1.ok.each b hb').2
  show 0<=b.2.2-b.2.1-1
  omega
theorem Jmi (q:Du h D vs rs unit) (ha:a<rs.length):WR (Jff (k+6) [.ref D,.int (a:Int)] h) λ v h'=>Ji2 rs a v/\Ex h h':=by
 have l:=q.l
 have few:∀s,1<=s->s+(rs[a]).1.late<=(rs[a]).1.due->cnt (rs.take a) s<=100:=λ s s1 s2=>by
  have b0:=q.u1
  have b1:=(q.f _ (List.getElem_mem ha)).1.d2
  have b2:=(q.f _ (List.getElem_mem ha)).1.g2
  have b3:=(q.f _ (List.getElem_mem ha)).1.t1
  have:=Jw1 15 ((rs.take a).map λ r=>cmn s r.1) λ x hx=>by
   obtain⟨r,hr,rfl⟩:=List.mem_map.mp hx
   have c1:=(q.f r (List.mem_of_mem_take hr)).1.g1
   have c2:=(q.f r (List.mem_of_mem_take hr)).1.t2
   unfold cmn
   rw[if_pos s1]
   exact J1f (by omega) (by omega)
  rw[List.length_map,List.length_take] at this
  unfold cnt
  omega
 refine WR.mono (Jul (k:=k) q.y ha q.t q.gaps (λ r hr=>⟨(q.f r hr).1.t1,(q.f r hr).1.l1⟩) (Jx6 rs a) (q.z0 a) few) ?_
 rintro v h' ⟨an,x⟩
 exact⟨⟨_,List.getElem?_eq_getElem ha,an⟩,x⟩
end
section
variable {k:Nat}{h:IH}
theorem J2c:∀p:Nat,p<6->(Str.ofString (toString (p:Int))).length<=1000:=by decide +kernel
theorem Jzj {n p:Nat}(e:h[n]?=some (.exc "NotKept" [])) (hp:p<6):Jad (k+1) [.ref n,.int (p:Int)] h=.ok .non (h.set n (.exc "NotKept" [("at",.int (p:Int))])):=by
 have hb:=Jc
 have l1:=J2c p hp
 have l0:(Str.ofString "the work with number ").length=21:=by decide +kernel
 have l2:(Str.ofString " has no answer").length=14:=by decide +kernel
 have lg:((p:Int)).natAbs.log2<1920:=by
  have:(p:Int).natAbs.log2<=p:=by rw[Int.natAbs_natCast];exact Nat.log2_le_self p
  omega
 have xo:((pg k).xo "NotKept").isSome=true:=by kernel_rfl
 have xf:xfOf T "at" "NotKept"=true:=by kernel_rfl
 obtain⟨t,ef⟩:∃t,eFst [eC (.str "the work with number "),eUn fmtI (eVar 1),eC (.str " has no answer")] [some (.ref n),some (.int (p:Int))] h=.ok (.str t) h:=by
  have e1:eUn fmtI (eVar 1) [some (.ref n),some (.int (p:Int))] h=.ok (.str (toString (p:Int))) h:=by
   show(if ((p:Int)).natAbs.log2<1920 then Res.ok (IV.str (toString (p:Int))) h else .stuck)=_
   rw[if_pos lg]
  generalize hA:Str.ofString "the work with number "=A at l0
  generalize hB:Str.ofString " has no answer"=B at l2
  generalize hF:Str.ofString (toString (p:Int))=F at l1 e1
  have q1:(Str.empty++A).length<=sizeLine:=by rw[Str.length_append,l0];show 0+21<=_;omega
  have q2:(Str.empty++A++F).length<=sizeLine:=by rw[Str.length_append,Str.length_append,l0];show 0+21+_<=_;omega
  have q3:(Str.empty++A++F++B).length<=sizeLine:=by rw[Str.length_append,Str.length_append,Str.length_append,l0,l2];show 0+21+_+14<=_;omega
  refine⟨Str.empty++A++F++B,?_⟩
  show(if (Str.empty++A).length<=sizeLine then Jst [eUn fmtI (eVar 1),eC (.str B)] (Str.empty++A) [some (.ref n),some (.int (p:Int))] h else .stuck)=_
  rw[if_pos q1]
  show(eUn fmtI (eVar 1) [some (.ref n),some (.int (p:Int))] h).bind _=_
  rw[e1]
  show(if (Str.empty++A++F).length<=sizeLine then Jst [eC (.str B)] (Str.empty++A++F) [some (.ref n),some (.int (p:Int))] h else .stuck)=_
  rw[if_pos q2]
  show(if (Str.empty++A++F++B).length<=sizeLine then Jst [] (Str.empty++A++F++B) [some (.ref n),some (.int (p:Int))] h else .stuck)=_
  rw[if_pos q3]
  show(if (Str.empty++A++F++B).length<=sizeLine then Res.ok (IV.str _) h else .stuck)=_
  rw[if_pos q3]
 have ea:Ja (eVar 0) (Ja (eFst [eC (.str "the work with number "),eUn fmtI (eVar 1),eC (.str " has no answer")]) aNil) [some (.ref n),some (.int (p:Int))] h=.ok [.ref n,.str t] h:=by
  refine Jd9 ?_
  simp! [ef]
 have e1:Joe (λ c=>((pg k).xo c).isSome) (Ja (eVar 0) (Ja (eFst [eC (.str "the work with number "),eUn fmtI (eVar 1),eC (.str " has no answer")]) aNil)) [some (.ref n),some (.int (p:Int))] h=.ok .non h:=by
  unfold Joe
  rw[ea]
  show(match h[n]? with|some (.exc c _)=>if ((pg k).xo c).isSome then Res.ok IV.non h else .stuck|_=>.stuck)=_
  rw[e]
  show(if ((pg k).xo "NotKept").isSome then Res.ok IV.non h else .stuck)=_
  rw[if_pos xo]
 have e2:Jzu (xfOf T "at") "at" (eVar 0) (eVar 1) [some (.ref n),some (.int (p:Int))] h=.next [some (.ref n),some (.int (p:Int))] (h.set n (.exc "NotKept" [("at",.int (p:Int))])):=by
  show(match h[n]? with|some (.exc c [])=>if xfOf T "at" c then SRes.next _ (h.set n (.exc c [("at",.int (p:Int))])) else .stuck|_=>.stuck)=_
  rw[e]
  show(if xfOf T "at" "NotKept" then _ else SRes.stuck)=_
  rw[if_pos xf]
 refine Jd9 ?_
 rw[Jj8]
 simp! [Jba,e1,Jdy,e2]
theorem Jug {N:ISt->IH->Prop}{R:IV->IH->Prop}{Y:Nat->ISt->IH->Prop}{σ:ISt}{rz:Str->Bool}{m:E1}{n:Nat}{c:Str}{fs:List (Str×IV)}{h1:IH}(e:m σ h=.ok (.ref n) h1) (hn:h1[n]?=some (.exc c fs)) (r:rz c=true) (y:Y n σ h1):WSE (Jkn rz m σ h) N R Y:=by
 unfold Jkn
 rw[Jp3,e,we_ok]
 dsimp only
 rw[hn]
 dsimp only
 rw[if_pos r]
 exact y
variable {D m:Nat}{vs ws:List IV}{rs:List RH}{unit:Int}
structure Ans (rs:List RH) (ws:List IV) (m:Nat):Prop where
 len:ws.length=rs.length
 at_:∀i v,ws[i]?=some v->Ji2 rs i v
 lm:m<=ws.length
 ok:∀i,i<m->∃x,ws[i]?=some (.int x)
 no:m<ws.length->ws[m]?=some .non
theorem Jnm {σ:ISt}{Q:IV->IH->Prop}(hD:h[D]?=some (.ins "Duty" (dfs vs))):WR (eDot (pg (k+1)) "size" 0 (eVar 0) aNil (some (.ref D)::σ) h) Q=Q (.int vs.length) h:=by
 rw[Jag (i:=D) (h1:=h) rfl hD dls (Jey _)]
 simp! [Jj2 hD]
theorem J3e (q:Du h D vs rs unit) (w:Ans rs ws m) :
  WE (Jmd (k+7) [.ref D] h) (λ v h'=>m=ws.length/\∃g,v=.ref h.length/\h'=h++.lst ws::g) λ n h'=>m<ws.length/\h.length<=n/\h'[n]?=some (.exc "NotKept" [("at",.int (m:Int))])/\Ex h h':=by
 have hb:=Jc
 have l5:=q.l
 have wl:=w.len
 have vl:=q.y.w.len
 rw[Jyp]
 refine J1t ?_
 rw[Jjx,Jk0]
 refine WSE.of ?_
 simp! [List.length_nil,Nat.zero_le]
 rw[Jnw,Jk0,J4y]
 refine WE.of ?_
 simp! [true_and]
 rw[Jnm (k:=k+5) (grow q.y.d)]
 simp! [true_and]
 refine⟨by omega,?_⟩
 refine J0m (λ n σ h'=>n<=m/\∃g a b,σ=[some (.ref D),some (.ref h.length),a,b]/\h'=h++L3.IO.lst (ws.take n)::g) (λ _ _ _ _=>trivial) ?_ ?_ ⟨Nat.zero_le _,[],none,none,rfl,rfl⟩
 ·rintro n hn _ _ ⟨nm,g,a,b,rfl,rfl⟩
  rw[Jn] at hn
  have hr:n<rs.length:=by omega
  have hw:n<ws.length:=by omega
  rw[Jaq,show(0:Int)+(n:Int)=n by omega,Jh2]
  simp only[List.set_cons_succ,List.set_cons_zero]
  rw[Jlv,Jk0,Jx4,Jq7]
  refine WE.of ?_
  simp! [true_and]
  refine WE.of (WR.mono (Jmi (k:=k) (q.kp (Ex.cons _ _ _).kp) hr) ?_)
  rintro v _ ⟨an,g',rfl⟩
  have ev:ws[n]?=some v:=by
   rw[List.getElem?_eq_getElem hw]
   exact congrArg some ((w.at_ n _ (List.getElem?_eq_getElem hw)).uniq an)
  rw[List.append_assoc,List.cons_append]
  rw[Jk0,J7y]
  refine WE.of ?_
  by_cases lt:n<m
  ·obtain⟨x,ex⟩:=w.ok n lt
   rw[ev] at ex
   cases ex
   simp! [Jrc,isI]
   rw[J4z]
   refine WSE.of ?_
   rw[Jir,Jgf (i:=h.length) (h1:=h++L3.IO.lst (ws.take n)::(g++g')) rfl Jm Jeq]
   simp! [Jfc,Jm,Jcj]
   refine⟨by rw[List.length_take];omega,lt,g++g',_,_,rfl,?_⟩
   rw[List.take_succ_eq_append_getElem hw]
   rw[List.getElem?_eq_getElem hw] at ev
   rw[Option.some.inj ev]
  ·have en:n=m:=by omega
   subst en
   have e0:=w.no hw
   rw[ev] at e0
   cases e0
   simp! [Jrc,isI]
   have x1:Ex h (h++L3.IO.lst (ws.take n)::(g++g')):=.cons _ _ _
   generalize h++L3.IO.lst (ws.take n)::(g++g')=h1 at x1
   have x2:=x1.len
   refine Jug (n:=h1.length) (c:="NotKept") (fs:=[("at",.int (n:Int))]) (h1:=h1++[.exc "NotKept" [("at",.int (n:Int))]]) ?_ Jy (by kernel_rfl) ⟨⟨_,_,Jy⟩,⟨_,_,Jy⟩,hw,x2,Jy,x1.trans (.one _ _)⟩
   show((Jad (k+6) [.ref h1.length,.int (n:Int)] (h1++[.exc "NotKept" []])).bind _)=_
   rw[Jzj Jy (by omega),Jnk]
   rfl
 ·rintro _ _ ⟨nm,g,a,b,rfl,rfl⟩
  rw[Jn] at nm ⊢
  have em:m=ws.length:=by have:=w.lm;omega
  refine WSE.of ?_
  simp! [Jnx]
  refine⟨em,g,?_⟩
  rw[List.take_of_length_le (by omega)]
end
noncomputable def lgr:List RH->Nat->Int->List RH
 | [],_,_=>[]
 | r::rs,0,m=>({ r.1 with len:=r.1.len+m },r.2)::rs
 | r::rs,a+1,m=>r::lgr rs a m
theorem Jge:∀(rs:List RH) (a:Nat) (m:Int),(lgr rs a m).length=rs.length
 | [],_,_=>rfl
 | _::_,0,_=>rfl
 | _::rs,a+1,m=>congrArg (· + 1) (Jge rs a m)
theorem Jv9:∀(rs:List RH) (a:Nat) (m:Int),(lgr rs a m).map (·.2)=rs.map (·.2)
 | [],_,_=>rfl
 | _::_,0,_=>rfl
 | r::rs,a+1,m=>congrArg (r.2:: ·) (Jv9 rs a m)
theorem Jm2:∀(rs:List RH) (a:Nat),lgr rs a 0=rs
 | [],_=>rfl
 | r::rs,0=>by
  show({ r.1 with len:=r.1.len+0 },r.2)::rs=r::rs
  rw[Int.add_zero]
 | r::rs,a+1=>congrArg (r:: ·) (Jm2 rs a)
theorem Jls:∀{rs:List RH}{a i:Nat}{m:Int},i≠a->(lgr rs a m)[i]?=rs[i]?
 | [],_,_,_,_=>rfl
 | _::_,0,0,_,h=>absurd rfl h
 | _::_,0,_+1,_,_=>rfl
 | _::_,_+1,0,_,_=>rfl
 | _::rs,a+1,i+1,m,h=>Jls (rs:=rs) (a:=a) (i:=i) (m:=m) λ e=>h (congrArg (· + 1) e)
theorem Jke:∀{rs:List RH}{a:Nat}{m:Int}{r:RH},rs[a]?=some r->(lgr rs a m)[a]?=some ({ r.1 with len:=r.1.len+m },r.2)
 | [],_,_,_,e=>by cases e
 | _::_,0,_,_,e=>by cases e;rfl
 | _::rs,a+1,m,_,e=>Jke (rs:=rs) (a:=a) e
theorem Jjf:∀{rs:List RH}{a i:Nat}{m:Int},i<=a->(lgr rs a m).take i=rs.take i
 | [],_,_,_,_=>rfl
 | _::_,0,0,_,_=>rfl
 | _::_,_+1,0,_,_=>rfl
 | r::rs,a+1,i+1,m,h=>congrArg (r:: ·) (Jjf (rs:=rs) (a:=a) (i:=i) (Nat.le_of_succ_le_succ h))
theorem Jow:∀{rs:List RH}{a i:Nat}{m s:Int}{c:RH},a<i->rs[a]?=some c->Jbo ((lgr rs a m).take i) s=Jbo (rs.take i) s+m*cmn s c.1
 | [],_,_,_,_,_,_,e=>by cases e
 | _::_,_,0,_,_,_,h,_=>absurd h (Nat.not_lt_zero _)
 | r::rs,0,i+1,m,s,c,_,e=>by
  cases e
  show(cmn s r.1*(r.1.len+m)::_).sum=(cmn s r.1*r.1.len::_).sum+_
  rw[List.sum_cons,List.sum_cons,Int.mul_add,Int.mul_comm m]
  omega
 | r::rs,a+1,i+1,m,s,c,h,e=>by
  have:=Jow (rs:=rs) (a:=a) (i:=i) (m:=m) (s:=s) (c:=c) (Nat.lt_of_succ_lt_succ h) e
  show(cmn s r.1*r.1.len::_).sum=(cmn s r.1*r.1.len::_).sum+_
  rw[List.sum_cons,List.sum_cons]
  unfold Jbo at this
  omega
theorem J2z (rs:List RH) (a i:Nat) (m:Int):zU (lgr rs a m) i=zU rs i:=by
 have:=Jx6 (lgr rs a m) i
 rw[Jv9] at this
 exact this.uniq (Jx6 rs i)
noncomputable def HasA (rs:List RH) (i:Nat):Prop:=∃r,rs[i]?=some r/\∃s,1<=s/\s+r.1.late<=r.1.due/\ldF (zU rs i) r.1.len (rs.take i) s<=s
theorem Ji2.has {rs:List RH}{i:Nat}{x:Int}(p:Ji2 rs i (.int x)):HasA rs i:=by
 obtain⟨r,e,⟨h,_⟩|⟨y,h,y1,y2,y3,_⟩⟩:=p
 ·cases h
 ·exact⟨r,e,y,y1,by omega,by omega⟩
theorem Ji2.not {rs:List RH}{i:Nat}(p:Ji2 rs i .non):¬HasA rs i:=by
 rintro⟨r,e,s,s1,s2,s3⟩
 obtain⟨r',e',⟨_,h⟩|⟨y,h,_⟩⟩:=p
 ·rw[e] at e'
  cases e'
  have:=h s s1 (by omega)
  omega
 ·cases h
theorem Ans.all {rs:List RH}{ws:List IV}{m:Nat}(w:Ans rs ws m):m=ws.length↔∀i,i<rs.length->HasA rs i:=by
 have wl:=w.len
 have lm:=w.lm
 constructor
 ·intro e i hi
  obtain⟨x,ex⟩:=w.ok i (by omega)
  exact(w.at_ i _ ex).has
 ·intro q
  rcases Nat.lt_or_ge m ws.length with lt|ge
  ·exact absurd (q m (by omega)) (w.at_ m _ (w.no lt)).not
  ·omega
theorem J3n {x g t:Int}(hg:0<g):rup x g<=t↔x<=t*g:=by
 unfold rup
 rw[<- Int.lt_add_one_iff,Int.ediv_lt_iff_lt_mul hg,Int.add_mul]
 omega
theorem Jce {s t:Int}{d:WD}(hg:0<d.gap) (h1:1<=s):cmn s d<=t↔s+d.late<=t*d.gap:=by
 unfold cmn
 rw[if_pos h1]
 exact J3n hg
noncomputable def Jks (e:WD) (last:Int):List Int:=(List.range (cmn last e-1).toNat).map λ (t:Nat)=>(1+(t:Int))*e.gap-e.late
noncomputable def Jah (tk:List RH) (last:Int):List Int:=last::(tk.map λ r=>Jks r.1 last).flatten
theorem Jr8 {e:WD}{last x:Int}:x∈Jks e last↔∃t:Int,1<=t/\t<cmn last e/\x=t*e.gap-e.late:=by
 unfold Jks
 rw[List.mem_map]
 constructor
 ·rintro⟨t,ht,rfl⟩
  rw[List.mem_range] at ht
  exact⟨1+(t:Int),by omega,by omega,rfl⟩
 ·rintro⟨t,t1,t2,rfl⟩
  refine⟨(t-1).toNat,List.mem_range.mpr (by omega),?_⟩
  rw[show 1+((t-1).toNat:Int)=t by omega]
theorem Joy {tk:List RH}{last x:Int}:x∈Jah tk last↔x=last∨∃r∈tk,x∈Jks r.1 last:=by
 unfold Jah
 rw[List.mem_cons,List.mem_flatten]
 constructor
 ·rintro(h|⟨l,hl,hx⟩)
  ·exact .inl h
  ·obtain⟨r,hr,rfl⟩:=List.mem_map.mp hl
   exact .inr ⟨r,hr,hx⟩
 ·rintro(h|⟨r,hr,hx⟩)
  ·exact .inl h
  ·exact .inr ⟨_,List.mem_map.mpr ⟨r,hr,rfl⟩,hx⟩
theorem Jwa {tk:List RH}{last x:Int}(hl:1<=last) (ht:∀r∈tk,0<r.1.gap/\r.1.late<r.1.gap) (hx:x∈Jah tk last):1<=x/\x<=last:=by
 rcases Joy.mp hx with rfl|⟨r,hr,hx⟩
 ·exact⟨hl,Int.le_refl _⟩
 ·obtain⟨t,t1,t2,rfl⟩:=Jr8.mp hx
  obtain⟨g,l⟩:=ht r hr
  have a:1*r.1.gap<=t*r.1.gap:=Int.mul_le_mul_of_nonneg_right t1 (by omega)
  have b:¬cmn last r.1<=t:=by omega
  rw[Jce g hl] at b
  omega
theorem Jv7:∀(l:List Int) (y:Int),y∈l->∃m∈l,∀x∈l,m<=x
 | [],_,h=>by cases h
 | [a],_,_=>⟨a,List.mem_cons_self ..,λ x hx=>by rw[List.mem_singleton.mp hx];exact Int.le_refl _⟩
 | a::b::l,_,_=>by
  obtain⟨m,hm,q⟩:=Jv7 (b::l) b (List.mem_cons_self ..)
  rcases Int.le_total a m with h|h
  ·exact⟨a,List.mem_cons_self ..,λ x hx=>by
    rcases List.mem_cons.mp hx with rfl|hx
    ·exact Int.le_refl _
    ·have:=q x hx
     omega⟩
  ·exact⟨m,List.mem_cons_of_mem _ hm,λ x hx=>by
    rcases List.mem_cons.mp hx with rfl|hx
    ·exact h
    ·exact q x hx⟩
theorem J21 {tk:List RH}{last s:Int}(h1:1<=s) (h2:s<=last) (ht:∀r∈tk,0<r.1.gap/\0<=r.1.late):∃L∈Jah tk last,s<=L/\L<=last/\∀r∈tk,cmn L r.1=cmn s r.1:=by
 obtain⟨L,hL,q⟩:=Jv7 ((Jah tk last).filter (s<= ·)) last (List.mem_filter.mpr ⟨List.mem_cons_self ..,by simpa using h2⟩)
 obtain⟨hL,sL⟩:=List.mem_filter.mp hL
 have sL:s<=L:=by simpa using sL
 have lL:=q last (List.mem_filter.mpr ⟨List.mem_cons_self ..,by simpa using h2⟩)
 refine⟨L,hL,sL,lL,λ r hr=>?_⟩
 obtain⟨g,l⟩:=ht r hr
 have m1:=Jhi (d:=r.1) g h1 sL
 have m2:=Jhi (d:=r.1) g (by omega) lL
 rcases Int.lt_or_le (cmn s r.1) (cmn L r.1) with lt|ge
 ·exfalso
  have t1:¬cmn s r.1<=0:=by
   rw[Jce g h1]
   omega
  have t2:cmn s r.1<=cmn s r.1:=Int.le_refl _
  rw[Jce g h1] at t2
  have:=q (cmn s r.1*r.1.gap-r.1.late) (List.mem_filter.mpr ⟨Joy.mpr (.inr ⟨r,hr,Jr8.mpr ⟨_,by omega,by omega,rfl⟩⟩),by simp;omega⟩)
  have t3:¬cmn L r.1<=cmn s r.1:=by omega
  rw[Jce g (by omega)] at t3
  omega
 ·omega
theorem Jsp {s t:Int}:∀{tk:List RH},(∀r∈tk,cmn t r.1=cmn s r.1)->Jbo tk t=Jbo tk s:=λ {tk} q=>by
 unfold Jbo
 rw[List.map_congr_left λ r hr=>by rw[q r hr]]
noncomputable def topL (ms:List Int):Int:=Jct (λ i=>ms.getD i 0) ms.length
theorem J37 {ms:List Int}(hm:ms≠[]){x:Int}:x<=topL ms↔∃y∈ms,x<=y:=by
 have at_:∀i (hi:i<ms.length),ms.getD i 0=ms[i]:=λ i hi=>by rw[List.getD_eq_getElem?_getD,List.getElem?_eq_getElem hi];rfl
 constructor
 ·intro hx
  apply Classical.byContradiction
  intro no
  have:=Jw4 (λ i=>ms.getD i 0) (x-1) ms.length (List.length_pos_iff.mpr hm) λ j hj=>by
   rw[at_ j hj]
   have:¬x<=ms[j]:=λ h=>no ⟨_,List.getElem_mem hj,h⟩
   omega
  unfold topL at hx
  omega
 ·rintro⟨y,hy,hx⟩
  obtain⟨j,hj,rfl⟩:=List.mem_iff_getElem.mp hy
  have:=J1m (λ i=>ms.getD i 0) ms.length j hj
  rw[at_ j hj] at this
  exact Int.le_trans hx this
noncomputable def Jt1 (rs:List RH) (i:Nat) (len:Int) (c:WD) (L:Int):Int:=(L-ldF (zU rs i) len (rs.take i) L)/cmn L c
noncomputable def Jpg (rs:List RH) (a i:Nat):Int:=match rs[i]?,rs[a]? with
 | some r,some c=>topL ((Jah (rs.take i) (r.1.due-r.1.late)).map (Jt1 rs i r.1.len c.1))
 | _,_=>0
theorem Jzg {rs:List RH}{a i:Nat}{c:RH}(e:rs[a]?=some c) (h:a<i):c∈rs.take i:=by
 refine List.mem_iff_getElem?.mpr ⟨a,?_⟩
 rw[List.getElem?_take,if_pos h,e]
theorem Jvq {rs:List RH}{a i:Nat}{r c:RH}{x:Int}(er:rs[i]?=some r) (ec:rs[a]?=some c) (hai:a<=i) (ht:∀r∈rs,0<r.1.gap/\0<=r.1.late/\r.1.late<r.1.gap/\r.1.due<=r.1.gap) (hl:r.1.late<r.1.due):HasA (lgr rs a x) i↔x<=Jpg rs a i:=by
 have tk:∀r∈rs.take i,0<r.1.gap/\0<=r.1.late/\r.1.late<r.1.gap:=λ r hr=>let q:=ht r (List.mem_of_mem_take hr);⟨q.1,q.2.1,q.2.2.1⟩
 obtain⟨cg,cl,cl',cd⟩:=ht c (List.mem_of_getElem? ec)
 have one:∀{s:Int},a=i->1<=s->s+r.1.late<=r.1.due->cmn s c.1=1:=λ {s} e s1 s2=>by
  subst e
  rw[er] at ec
  cases ec
  have p1:cmn s r.1<=1:=by rw[Jce cg s1];omega
  have p2:¬cmn s r.1<=0:=by rw[Jce cg s1];omega
  omega
 have same:∃r',(lgr rs a x)[i]?=some r'/\r'.1.late=r.1.late/\r'.1.due=r.1.due/\∀s,1<=s->s+r.1.late<=r.1.due->ldF (zU (lgr rs a x) i) r'.1.len ((lgr rs a x).take i) s=ldF (zU rs i) r.1.len (rs.take i) s+x*cmn s c.1:=by
  rw[J2z]
  rcases Nat.lt_or_ge a i with lt|ge
  ·refine⟨r,by rw[Jls (by omega),er],rfl,rfl,λ s s1 s2=>?_⟩
   unfold ldF
   rw[Jow lt ec]
   omega
  ·have e:a=i:=by omega
   refine⟨({ r.1 with len:=r.1.len+x },r.2),by subst e;exact Jke er,rfl,rfl,λ s s1 s2=>?_⟩
   rw[one e s1 s2,Jjf (by omega)]
   unfold ldF
   show _+(r.1.len+x)+_=_
   omega
 obtain⟨r',er',e1,e2,ld⟩:=same
 unfold Jpg
 rw[er,ec]
 dsimp only
 rw[J37 (by simp[Jah])]
 have pos:∀{s:Int},1<=s->0<cmn s c.1:=λ {s} s1=>by
  have:¬cmn s c.1<=0:=by rw[Jce cg s1];omega
  omega
 constructor
 ·rintro⟨_,er'',s,s1,s2,s3⟩
  rw[er'] at er''
  cases er''
  rw[e1,e2] at s2
  rw[ld s s1 s2] at s3
  obtain⟨L,hL,sL,lL,q⟩:=J21 (last:=r.1.due-r.1.late) s1 (by omega) λ r hr=>⟨(tk r hr).1,(tk r hr).2.1⟩
  refine⟨_,List.mem_map.mpr ⟨L,hL,rfl⟩,?_⟩
  have ec':cmn L c.1=cmn s c.1:=by
   rcases Nat.lt_or_ge a i with lt|ge
   ·exact q c (Jzg ec lt)
   ·rw[one (by omega) s1 s2,one (by omega) (by omega) (by omega)]
  unfold Jt1
  rw[Int.le_ediv_iff_mul_le (pos (by omega)),ec']
  have:ldF (zU rs i) r.1.len (rs.take i) L=ldF (zU rs i) r.1.len (rs.take i) s:=by
   unfold ldF
   rw[Jsp q]
  rw[this]
  omega
 ·rintro⟨y,hy,hx⟩
  obtain⟨L,hL,rfl⟩:=List.mem_map.mp hy
  obtain⟨L1,L2⟩:=Jwa (by omega) (λ r hr=>⟨(tk r hr).1,(tk r hr).2.2⟩) hL
  unfold Jt1 at hx
  rw[Int.le_ediv_iff_mul_le (pos L1)] at hx
  refine⟨r',er',L,L1,by rw[e1,e2];omega,?_⟩
  rw[ld L L1 (by omega)]
  omega
theorem J0t (f:Nat->Int):∀(n j:Nat),j<n->Jer f n<=f j
 | 0,j,h=>by omega
 | 1,j,h=>by
  have:j=0:=by omega
  subst this
  exact Int.le_refl _
 | n+2,j,h=>by
  rw[Jh9 f (by omega:0<n+1)]
  by_cases e:j=n+1
  ·subst e
   split<;>omega
  ·have:=J0t f (n+1) j (by omega)
   split<;>omega
theorem J07 (f:Nat->Int) (b:Int):∀(n:Nat),0<n->(∀j,j<n->b<=f j)->b<=Jer f n
 | 0,h,_=>by omega
 | 1,_,q=>q 0 (by omega)
 | n+2,_,q=>by
  rw[Jh9 f (by omega:0<n+1)]
  have:=J07 f b (n+1) (by omega) λ j hj=>q j (by omega)
  have:=q (n+1) (by omega)
  split<;>omega
noncomputable def botL (ms:List Int):Int:=Jer (λ i=>ms.getD i 0) ms.length
noncomputable def Jq (rs:List RH) (a:Nat):Int:=botL ((List.range (rs.length-a)).map λ t=>Jpg rs a (a+t))
theorem J13 {ms:List Int}(hm:ms≠[]){x:Int}:x<=botL ms↔∀y∈ms,x<=y:=by
 have at_:∀i (hi:i<ms.length),ms.getD i 0=ms[i]:=λ i hi=>by rw[List.getD_eq_getElem?_getD,List.getElem?_eq_getElem hi];rfl
 constructor
 ·intro hx y hy
  obtain⟨j,hj,rfl⟩:=List.mem_iff_getElem.mp hy
  have:=J0t (λ i=>ms.getD i 0) ms.length j hj
  rw[at_ j hj] at this
  exact Int.le_trans hx this
 ·intro q
  exact J07 (λ i=>ms.getD i 0) x ms.length (List.length_pos_iff.mpr hm) λ j hj=>by rw[at_ j hj];exact q _ (List.getElem_mem hj)
theorem Jkq {rs:List RH}{a:Nat}{x:Int}(ha:a<rs.length) (ht:∀r∈rs,0<r.1.gap/\0<=r.1.late/\r.1.due<=r.1.gap) (all:∀i,i<rs.length->HasA rs i):(∀i,i<(lgr rs a x).length->HasA (lgr rs a x) i)↔x<=Jq rs a:=by
 have lt:∀i (hi:i<rs.length),(rs[i]).1.late<(rs[i]).1.due:=λ i hi=>by
  obtain⟨r,er,s,s1,s2,_⟩:=all i hi
  rw[List.getElem?_eq_getElem hi] at er
  cases er
  omega
 have ht:∀r∈rs,0<r.1.gap/\0<=r.1.late/\r.1.late<r.1.gap/\r.1.due<=r.1.gap:=λ r hr=>by
  obtain⟨i,hi,rfl⟩:=List.mem_iff_getElem.mp hr
  have:=lt i hi
  have:=ht _ hr
  omega
 unfold Jq
 rw[Jge,J13 (by simp;omega)]
 constructor
 ·intro q y hy
  obtain⟨t,h,rfl⟩:=List.mem_map.mp hy
  have h:=List.mem_range.mp h
  have hi:a+t<rs.length:=by omega
  exact(Jvq (List.getElem?_eq_getElem hi) (List.getElem?_eq_getElem ha) (by omega) ht (lt _ hi)).mp (q _ hi)
 ·intro q i hi
  rcases Nat.lt_or_ge i a with l|g
  ·obtain⟨r,er,z⟩:=all i hi
   refine⟨r,by rw[Jls (by omega)];exact er,?_⟩
   rw[J2z,Jjf (by omega)]
   exact z
  ·refine(Jvq (List.getElem?_eq_getElem hi) (List.getElem?_eq_getElem ha) g ht (lt _ hi)).mpr (q _ (List.mem_map.mpr ⟨i-a,List.mem_range.mpr (by omega),?_⟩))
   rw[show a+(i-a)=i by omega]
section
variable {k:Nat}{h:IH}{D a o:Nat}{vs:List IV}{rs:List RH}{unit:Int}
theorem J4p {i:Nat}{ns:List Int}{Q:IV->IH->Prop}(hi:h[i]?=some (.lst (ns.map .int))) (hn:ns≠[]):WR (Jtl (.ref i) h) Q=Q (.int (botL ns)) h:=by
 unfold Jtl
 simp only[hi,Jfp]
 rw[if_neg hn]
 rfl
theorem J4o {i:Nat}{ms:List Int}{Q:IV->IH->Prop}(hi:h[i]?=some (.lst (ms.map .int))) (hm:ms≠[]):WR (Jtk (.ref i) h) Q=Q (.int (topL ms)) h:=by
 unfold Jtk
 simp only[hi,Jfp,hm,if_false]
 rfl
theorem J3z (ho:o<vs.length){Q:IV->IH->Prop}:WR (slI (.tup vs) none (some (o:Int)) h) Q=Q (.tup (vs.take o)) h:=by
 show WR (if HT.sIx vs.length 0 none=0/\HT.sIx vs.length vs.length (some (o:Int))=vs.length then .stuck else .ok (.tup (cutI vs none (some (o:Int)))) h) Q=_
 rw[if_neg (by rw[HT.sIx_nat];omega),Jrw]
 rfl
noncomputable def J7e (d:WD) (v:IV):IV:=match v with
 | .int t=>.int (t*d.gap-d.late)
 | _=>.non
theorem st_is (d:WD) (last:Int):(rngI 1 (cmn last d)).map (J7e d)=(Jks d last).map .int:=by
 unfold Jks
 rw[List.map_map]
 refine List.ext_getElem ?_ λ n h1 h2=>?_
 ·rw[List.length_map,List.length_map,Jn,List.length_range]
 ·rw[List.getElem_map,List.getElem_map,Jaq,List.getElem_range]
  rfl
theorem J33 {w:Nat}{r:RH}{last:Int}{ls:List Int}{g:IH}{a0 a1:Option IV}{σr:SRes}(hr:J0 (k+2) [a0,a1,some (.int last),some (.ref h.length),some (.ref w)] (h++L3.IO.lst (ls.map .int)::g)=σr)
  (gw:(h++L3.IO.lst (ls.map .int)::g)[w]?=some (.ins "Work" (wfs r.1.name r.1.gap r.1.len r.1.due r.1.late (r.2.map tupH)))) (hg:0<r.1.gap) (lg:r.1.gap.natAbs.log2<9000) (cn:0<=cmn last r.1) (c14:cmn last r.1<=14) (l90:ls.length<=90){N:ISt->IH->Prop}{R:IV->IH->Prop}
  (K:∀g',N [a0,a1,some (.int last),some (.ref h.length),some (.ref w)] (h++L3.IO.lst ((ls++Jks r.1 last).map .int)::g')):WS σr N R:=by
 subst hr
 have hb:=Jc
 rw[J0,Jir,Jgf (i:=h.length) (h1:=h++L3.IO.lst (ls.map .int)::g) rfl Jm Jn3]
 have ck:=Jib (k:=k) (s:=last) gw hg lg
 have Y:=@Jru (h++L3.IO.lst (ls.map .int)::g) (h++L3.IO.lst (ls.map .int)::g) (iRg Jd3 (Ja (eC (.int 1)) (Ja (Jl (J7 (k+2)) [] (Ja (eVar 4) (Ja (eVar 2) aNil))) aNil))) (Jab (k+2)) [4] [a0,a1,some (.int last),some (.ref h.length),some (.ref w)] (rngI 1 (cmn last r.1)) (λ _=>True) (J7e r.1)
  (by simp! [ck];omega) (by rw[Jn];omega) (λ _ _=>trivial) (by
   intro x hx h2 z
   obtain⟨n,hn,rfl⟩:=List.mem_iff_getElem.mp hx
   rw[Jn] at hn
   rw[Jaq]
   have mf:Jas (1+(n:Int)) r.1.gap:=.inl (by omega)
   simp only[List.map_cons,List.map_nil,List.getElem?_cons_succ,List.getElem?_cons_zero,Option.join_some]
   simp! [Jab,Ji (z _ _ gw),fl1,fl4,mf]
   exact⟨rfl,.refl _⟩)
 rw[Jfq]
 generalize Jx _ _ _ _ _ _ _ _=rc at Y ⊢
 obtain⟨g2,rfl⟩:=Y
 rw[st_is]
 simp! [true_and]
 have ll:(Jks r.1 last).length<=14:=by
  unfold Jks
  rw[List.length_map,List.length_range]
  omega
 rw[Jp1 (grow Jm) Jm (by rw[List.length_map,List.length_map];omega),List.append_assoc,List.cons_append,Jcj,<-List.map_append]
 exact K _
theorem Jlu (tk:List RH) (r:RH) (last:Int):Jah (tk++[r]) last=Jah tk last++Jks r.1 last:=by
 unfold Jah
 rw[List.map_append,List.flatten_append]
 simp
theorem Jy9 {r:RH}(q:Du h D vs rs unit) (er:rs[o]?=some r):WR (J1 (k+3) [.ref D,.int (o:Int)] h) λ v h'=>Ex h h'/\∃i,v=.ref i/\h'[i]?=some (.lst ((Jah (rs.take o) (r.1.due-r.1.late)).map .int))/\(Jah (rs.take o) (r.1.due-r.1.late)).length<=90:=by
 have hb:=Jc
 have l5:=q.l
 have vl:=q.y.w.len
 have ho:=(List.getElem?_eq_some_iff.mp er).1
 have fr:=(q.f r (List.mem_of_getElem? er)).1
 have u1:=q.u1
 have hov:o<vs.length:=by omega
 obtain⟨j,ej,gj⟩:=q.y.w.at_ o _ _ (List.getElem?_eq_getElem hov) er
 have av:atI vs (o:Int)=some (.ref j):=Ja5 (by rw[List.getElem?_eq_getElem hov,ej])
 have c14:∀r'∈rs,0<=cmn (r.1.due-r.1.late) r'.1/\cmn (r.1.due-r.1.late) r'.1<=14:=λ r' hr'=>by
  have f:=(q.f r' hr').1
  have f1:=f.g1
  have f2:=f.t2
  have f3:=fr.d2
  have f4:=fr.g2
  have f5:=fr.t1
  refine⟨Ju2 (by omega) f.t1,?_⟩
  by_cases s1:1<=r.1.due-r.1.late
  ·rw[Jce (by omega) s1]
   omega
  ·unfold cmn
   rw[if_neg s1]
   decide
 rw[Jif,Jai]
 generalize hB:Jaj (k+2)=B
 simp! [true_and]
 rw[Jag (i:=D) (h1:=h) rfl q.y.d dlw (Jw _)]
 simp! [Ja7 q.y.d av,Ji gj,fl3]
 rw[Jag (i:=D) (h1:=h) rfl q.y.d dlw (Jw _)]
 simp! [Ja7 q.y.d av,Ji gj,fl4]
 generalize hlast:r.1.due-r.1.late=last at c14
 rw[<- hB,Jaj]
 generalize hB:Jak (k+2)=B
 simp! [List.length_cons,List.length_nil]
 refine⟨by omega,?_⟩
 rw[<- hB,Jak]
 simp! [Ji (grow q.y.d),dl0,J3z hov]
 have len:∀n,n<=o->(Jah (rs.take n) last).length<=1+14*n:=by
  intro n
  induction n with
  | zero=>intro _;simp[Jah]
  | succ n ih =>
   intro hn
   have hn':n<rs.length:=by omega
   rw[List.take_succ_eq_append_getElem hn',Jlu,List.length_append]
   have:=ih (by omega)
   have:=(c14 _ (List.getElem_mem hn')).2
   unfold Jks
   rw[List.length_map,List.length_range]
   omega
 refine Jbx (λ n σ h'=>∃g a4,h'=h++L3.IO.lst ((Jah (rs.take n) last).map .int)::g/\σ=[some (.ref D),some (.int (o:Int)),some (.int last),some (.ref h.length),a4]) (λ _ _ _ _=>trivial) ?_ ?_ ⟨[],none,rfl,rfl⟩
 ·rintro n hn _ _ ⟨g,a4,rfl,rfl⟩
  rw[List.length_take] at hn
  have hnv:n<vs.length:=by omega
  have hnr:n<rs.length:=by omega
  rw[List.getElem_take]
  obtain⟨w,ew,gw⟩:=q.y.w.at_ n _ _ (List.getElem?_eq_getElem hnv) (List.getElem?_eq_getElem hnr)
  have gg:=q.gaps _ (List.getElem_mem hnr)
  have cc:=c14 _ (List.getElem_mem hnr)
  rw[ew,Jh2]
  simp only[List.set_cons_succ,List.set_cons_zero]
  have ln:=len n (by omega)
  generalize hr:J0 _ _ _=rr
  refine J33 (k:=k) (r:=rs[n]) hr (grow gw) gg.1 gg.2.1 cc.1 cc.2 (by omega) ?_
  intro g'
  exact⟨g',_,by rw[List.take_succ_eq_append_getElem hnr,Jlu],rfl⟩
 ·rintro _ _ ⟨g,a4,rfl,rfl⟩
  simp! [Jb0]
  have e:(vs.take o).length=o:=by rw[List.length_take];omega
  rw[e]
  have ln:=len o (Nat.le_refl _)
  exact⟨.cons _ _ _,Jm,by omega⟩
noncomputable def rmV (rs:List RH) (o:Nat) (len:Int) (c:WD) (v:IV):IV:=match v with
 | .int L=>.int (Jt1 rs o len c L)
 | _=>.non
theorem J3l {r c:RH}(q:Du h D vs rs unit) (er:rs[o]?=some r) (ec:rs[a]?=some c) (lt:∀r∈rs,r.1.late<r.1.due):WR (Jro (k+6) [.ref D,.int (a:Int),.int (o:Int)] h) λ v h'=>v=.int (Jpg rs a o)/\Ex h h':=by
 have hb:=Jc
 have l5:=q.l
 have vl:=q.y.w.len
 have u1:=q.u1
 have ha:=(List.getElem?_eq_some_iff.mp ec).1
 have ho:=(List.getElem?_eq_some_iff.mp er).1
 have hav:a<vs.length:=by omega
 have fc:=q.f c (List.mem_of_getElem? ec)
 have fr:=(q.f r (List.mem_of_getElem? er)).1
 obtain⟨j,ej,gj⟩:=q.y.w.at_ a _ _ (List.getElem?_eq_getElem hav) ec
 have av:atI vs (a:Int)=some (.ref j):=Ja5 (by rw[List.getElem?_eq_getElem hav,ej])
 have gc:=q.gaps c (List.mem_of_getElem? ec)
 have er':rs[o]=r:=by rw[List.getElem?_eq_getElem ho] at er;exact Option.some.inj er
 have lr:=lt r (List.mem_of_getElem? er)
 rw[J2h,Jmo]
 generalize hB:Jmp (k+5)=B
 simp! [true_and]
 rw[Jag (i:=D) (h1:=h) rfl q.y.d dlw (Jw _)]
 simp! [Ja7 q.y.d av]
 rw[<- hB,Jmp]
 obtain⟨v,h1,ev,x1,i,rfl,gi,l90⟩:=(Jy9 (k:=k+2) q er).eq
 have q1:=q.kp x1.kp
 have gj1:=x1.get gj
 have inl:∀L∈Jah (rs.take o) (r.1.due-r.1.late),1<=L/\L<=r.1.due-r.1.late:=λ L hL=>Jwa (by omega) (λ r' hr'=>by
  have f:=(q.f r' (List.mem_of_mem_take hr')).1
  have f1:=f.g1
  have f2:=f.d2
  have f3:=lt r' (List.mem_of_mem_take hr')
  omega) hL
 have eZ:Jpg rs a o=topL ((Jah (rs.take o) (r.1.due-r.1.late)).map (Jt1 rs o r.1.len c.1)):=by
  unfold Jpg
  rw[er,ec]
 have hne:Jah (rs.take o) (r.1.due-r.1.late)≠[]:=by simp[Jah]
 generalize Jah (rs.take o) (r.1.due-r.1.late)=ls at gi l90 inl eZ hne
 have Y:=@Jru h1 h (iAny (Jl (J1 (k+5)) [] (Ja (eVar 0) (Ja (eVar 2) aNil)))) (Jia (k+5)) [0,2,3] [some (.ref D),some (.int (a:Int)),some (.int (o:Int)),some (.ref j)] (ls.map .int) (λ h'=>h'[i]?=some (.lst (ls.map .int))) (rmV rs o r.1.len c.1)
  (by simp! [ev,Jfe,gi]) (by rw[List.length_map];omega) (λ _ z=>z _ _ gi) (by
   intro x hx h2 z
   have⟨L,hL,eL⟩:=List.mem_map.mp hx
   rw[<- eL]
   clear eL hx x
   have⟨L1,L2⟩:=inl L hL
   simp only[List.map_cons,List.map_nil,List.getElem?_cons_succ,List.getElem?_cons_zero,Option.join_some]
   simp! [Jia]
   have q2:=q1.kp z
   have Z:∃z h',UpIs (fds (stB (rs.map (·.2)) o) (o+1) ((rs.map (·.2)).drop (o+1))) z/\Jgj (k+5) [.ref D,.int (o:Int),.int L] h2=.ok (.int (z+(rs[o]).1.len+Jbo (rs.take o) L)) h'/\Ex h2 h':=Jwb (k:=k) (s:=L) q2.y ho q2.t q2.gaps
   generalize Jgj (k+5) [.ref D,.int (o:Int),.int L] h2=rF at Z ⊢
   obtain⟨zz,h3,up,rfl,x3⟩:=Z
   have ez:=up.uniq (Jx6 rs o)
   subst ez
   have ck:=Jib (k:=k+3) (h:=h3) (s:=L) (x3.get (z _ _ gj1)) gc.1 gc.2.1
   have cp:0<cmn L c.1:=by
    have:¬cmn L c.1<=0:=by
     rw[Jce gc.1 L1]
     have:=fc.1.t1
     omega
    omega
   have cl:cmn L c.1<=14:=by
    rw[Jce gc.1 L1]
    have f1:=fc.1.g1
    have f2:=fc.1.t2
    have f3:=fr.d2
    have f4:=fr.g2
    have f5:=fr.t1
    omega
   have t60:(14:Int)<=10^60:=by decide +kernel
   have lc:(cmn L c.1).natAbs.log2<9000:=Jm4 (by omega) (by omega)
   simp! [ck,cp,lc]
   rw[er']
   exact⟨rfl,x3⟩)
 rw[Jis,Jxe,Jfq]
 generalize Jx _ _ _ _ _ _ _ _=rc at Y ⊢
 obtain⟨g2,rfl⟩:=Y
 simp! [true_and]
 have em:(ls.map IV.int).map (rmV rs o r.1.len c.1)=(ls.map (Jt1 rs o r.1.len c.1)).map .int:=by
  rw[List.map_map,List.map_map]
  rfl
 rw[em,J4o Jm (by simpa using hne),eZ]
 exact⟨rfl,x1.trans (.cons _ _ _)⟩
end
section
variable {k:Nat}{h:IH}{D a m:Nat}{vs ws:List IV}{rs:List RH}{unit:Int}
theorem J2e {xa:Str->Bool}{f c:Str}{o:E1}{σ:ISt}{i:Nat}{y:Int}(eo:o σ h=.ok (.ref i) h) (e:h[i]?=some (.exc c [(f,.int y)])) (r:xa c=true):Jsr xa f o σ h=.ok (.int y) h:=by
 unfold Jsr
 rw[eo]
 show(match h[i]? with|some (.exc c [(g,.int y)])=>if xa c&&decide (g=f) then Res.ok (IV.int y) h else .stuck|some (.hld c [(g,.int y)])=>if xa c&&decide (g=f) then .ok (.int y) h else .stuck|_=>.stuck)=_
 rw[e]
 dsimp only
 rw[r,decide_eq_true rfl]
 rfl
noncomputable def Jvz:IV->Bool
 | .non=>true
 | _=>false
noncomputable def Jna (ws:List IV) (v:IV):Bool:=match v with
 | .int i=>(match ws[i.toNat]? with
  | some u=>Jvz u
  | none=>false)
 | _=>false
noncomputable def badL (ws:List IV):List IV:=(rngI 0 (ws.length:Int)).filter (Jna ws)
theorem J0s (w:Ans rs ws m) (lt:m<ws.length):∃r,badL ws=.int (m:Int)::r:=by
 have hr:rngI 0 (ws.length:Int)=(rngI 0 (ws.length:Int)).take m++.int (m:Int)::(rngI 0 (ws.length:Int)).drop (m+1):=by
  have hm:m<(rngI 0 (ws.length:Int)).length:=by rw[Jn];omega
  have e:(rngI 0 (ws.length:Int))[m]=.int (m:Int):=by rw[Jaq];simp
  rw[<- e,<-List.drop_eq_getElem_cons hm,List.take_append_drop]
 unfold badL
 rw[hr,List.filter_append,List.filter_cons]
 have h1:((rngI 0 (ws.length:Int)).take m).filter (Jna ws)=[]:=by
  rw[List.filter_eq_nil_iff]
  intro v hv
  obtain⟨i,hi,rfl⟩:=List.mem_iff_getElem.mp hv
  rw[List.length_take] at hi
  rw[List.getElem_take,Jaq]
  obtain⟨x,ex⟩:=w.ok i (by omega)
  simp[Jna,ex,Jvz]
 have h2:Jna ws (.int (m:Int))=true:=by simp[Jna,w.no lt,Jvz]
 rw[h1,if_pos h2]
 exact⟨_,rfl⟩
theorem Jus (w:Ans rs ws m) (em:m=ws.length):badL ws=[]:=by
 unfold badL
 rw[List.filter_eq_nil_iff]
 intro v hv
 obtain⟨i,hi,rfl⟩:=List.mem_iff_getElem.mp hv
 rw[Jn] at hi
 rw[Jaq]
 obtain⟨x,ex⟩:=w.ok i (by omega)
 simp[Jna,ex,Jvz]
theorem J5e {v u:IV}{d:PyData}(e4:Jh0 v u=none) (hi:toD h 6 v=some d) (hj:toD h 6 u=some d) (q:d.canLay0=true):cEq v u h=.ok (.bl true) h:=by
 have e3:Jic v u h=some true:=by
  unfold Jic
  rw[hi,hj]
  dsimp only
  rw[if_pos ⟨q,q⟩,Jmx d q]
 unfold cEq
 rw[e4]
 dsimp only
 rw[e3]
theorem Jig (w:Ans rs ws m) (em:m=ws.length):∃ns:List Int,ws=ns.map IV.int:=by
 refine⟨ws.map λ v=>match v with|.int x=>x|_=>0,?_⟩
 rw[List.map_map]
 refine List.ext_getElem? λ i=>?_
 rw[List.getElem?_map]
 by_cases hi:i<ws.length
 ·obtain⟨x,ex⟩:=w.ok i (by omega)
  rw[ex]
  rfl
 ·rw[List.getElem?_eq_none (by omega)]
  rfl
theorem Jmv {i:Nat}{ns:List Int}(hi:h[i]?=some (.lst (ns.map .int))):toD h 6 (.ref i)=some (.list (ns.map PyData.int)):=by rw[J36 hi,Jwd];rfl
theorem Jof:∀ws:List IV,(∀v∈ws,v=.non∨∃x,v=.int x)->∃m,m<=ws.length/\(∀i,i<m->∃x,ws[i]?=some (.int x))/\(m<ws.length->ws[m]?=some .non)
 | [],_=>⟨0,Nat.le_refl _,λ i hi=>by omega,λ hm=>by simp at hm⟩
 | v::ws,q=>by
  rcases q v (List.mem_cons_self ..) with rfl|⟨x,rfl⟩
  ·exact⟨0,Nat.zero_le _,λ i hi=>by omega,λ _=>rfl⟩
  ·obtain⟨m,a,b,c⟩:=Jof ws λ w hw=>q w (List.mem_cons_of_mem _ hw)
   refine⟨m+1,by rw[List.length_cons];omega,λ i hi=>?_,λ hm=>c (by rw[List.length_cons] at hm;omega)⟩
   cases i with
   | zero=>exact⟨x,rfl⟩
   | succ i=>exact b i (by omega)
theorem J0q (q:Du h D vs rs unit):∃ws m,Ans rs ws m:=by
 have key:∀n,n<=rs.length->∃ws:List IV,ws.length=n/\∀i v,ws[i]?=some v->Ji2 rs i v:=by
  intro n
  induction n with
  | zero=>exact λ _=>⟨[],rfl,λ i v e=>by simp at e⟩
  | succ n ih =>
   intro hn
   obtain⟨ws,lw,at_⟩:=ih (by omega)
   obtain⟨v,_,_,an,_⟩:=(Jmi (k:=0) q (show n<rs.length by omega)).eq
   refine⟨ws++[v],by rw[List.length_append,lw];rfl,λ i u e=>?_⟩
   by_cases hi:i<ws.length
   ·rw[List.getElem?_append_left hi] at e
    exact at_ i u e
   ·rw[List.getElem?_append_right (by omega)] at e
    have hi':=(List.getElem?_eq_some_iff.mp e).1
    rw[List.length_cons,List.length_nil] at hi'
    have ei:i=n:=by omega
    subst ei
    rw[lw,Nat.sub_self] at e
    cases e
    exact an
 obtain⟨ws,lw,at_⟩:=key rs.length (Nat.le_refl _)
 obtain⟨m,h1,h2,h3⟩:=Jof ws λ v hv=>by
  obtain⟨i,hi⟩:=List.mem_iff_getElem?.mp hv
  exact(at_ i v hi).kind
 exact⟨ws,m,lw,at_,h1,h2,h3⟩
theorem J11 (q:Du h D vs rs unit) (w:Ans rs ws m):WR (Ja3 (k+7) [.ref D] h) λ v h'=>∃g,v=.ref h.length/\h'=h++.lst (badL ws)::g:=by
 have hb:=Jc
 have wl:=w.len
 have vl:=q.y.w.len
 have l5:=q.l
 rw[Jsz]
 simp only[Jl9,Jf7,Jis]
 refine WR.mono (Jra (h:=h) (h0:=h) (xs:=rngI 0 (vs.length:Int)) (chk:=λ _=>True) (p:=Jna ws) (f:=λ v=>v) ?_ (by rw[Jn];omega) (λ _ _=>trivial) ?_ ?_) ?_
 ·simp! [true_and]
  rw[Jnm (k:=k+5) q.y.d]
  simp! [true_and]
  omega
 ·intro x hx h2 z
  have⟨n,hn,ex⟩:=List.mem_iff_getElem.mp hx
  rw[Jn] at hn
  rw[Jaq,show(0:Int)+(n:Int)=n by omega] at ex
  rw[<- ex]
  clear ex hx x
  have hw:n<ws.length:=by omega
  have en:Jna ws (.int (n:Int))=Jvz ws[n]:=by simp[Jna,List.getElem?_eq_getElem hw]
  rw[en]
  have an:=w.at_ n _ (List.getElem?_eq_getElem hw)
  have kd:=an.kind
  generalize ws[n]=u at an kd
  simp only[List.map_cons,List.map_nil,List.getElem?_cons_succ,List.getElem?_cons_zero,Option.join_some]
  simp! [Jhe]
  refine WR.mono (Jmi (k:=k) (q.kp z) (show n<rs.length by omega)) ?_
  rintro v h3 ⟨av,x3⟩
  rw[av.uniq an]
  simp only[Jrc]
  rcases kd with rfl|⟨x,rfl⟩
  ·exact⟨true,rfl,rfl,x3⟩
  ·exact⟨false,rfl,rfl,x3⟩
 ·intro x hx _ h2 z
  simp! [Jhd]
  exact .refl _
 ·rintro _ _ ⟨rfl,g,rfl⟩
  refine⟨g,rfl,?_⟩
  unfold badL
  rw[wl,<-vl]
  simp
noncomputable def slV (rs:List RH) (a:Nat) (v:IV):IV:=match v with
 | .int i=>.int (Jpg rs a i.toNat)
 | _=>.non
theorem Jz4 (q:Du h D vs rs unit) (w:Ans rs ws m) (ha:a<rs.length):WE (Jme (k+8) [.ref D,.int (a:Int)] h) (λ v h'=>m=ws.length/\v=.int (Jq rs a)/\Ex h h') λ n h'=>m<ws.length/\h'[n]?=some (.exc "NotKept" [("at",.int (m:Int))])/\Ex h h':=by
 have hb:=Jc
 have vl:=q.y.w.len
 have l5:=q.l
 rw[Jyq]
 refine J1t ?_
 rw[Jjy,Jk0,J0l,Jq7]
 refine WE.of ?_
 simp! [true_and]
 refine WE.mono (J3e (k:=k) q w) ?_ ?_
 ·rintro _ _ ⟨em,g,rfl,rfl⟩
  refine WSE.of ?_
  have x1:Ex h (h++L3.IO.lst ws::g):=.cons _ _ _
  generalize h++L3.IO.lst ws::g=h1 at x1
  have q1:=q.kp x1.kp
  have lt:∀r∈rs,r.1.late<r.1.due:=λ r hr=>by
   have⟨i,hi⟩:=List.mem_iff_getElem?.mp hr
   obtain⟨r',er,s,s1,s2,_⟩:=w.all.mp em i (List.getElem?_eq_some_iff.mp hi).1
   rw[hi] at er
   cases er
   omega
  have Y:=@Jru h1 h1 (iRg Jd3 (Ja (eVar 1) (Ja (eDot (pg (k+7)) "size" 0 (eVar 0) aNil) aNil))) (Jga (k+7)) [1,0] [some (.ref D),some (.int (a:Int))] (rngI (a:Int) (vs.length:Int)) (λ _=>True) (slV rs a)
   (by
    simp! [true_and]
    rw[Jnm (k:=k+6) q1.y.d]
    simp! [true_and]
    omega) (by rw[Jn];omega) (λ _ _=>trivial) (by
    intro x hx h2 z
    have⟨n,hn,ex⟩:=List.mem_iff_getElem.mp hx
    rw[Jn] at hn
    rw[Jaq,show(a:Int)+(n:Int)=((a+n:Nat):Int) by omega] at ex
    rw[<- ex]
    clear ex hx x
    have hr:a+n<rs.length:=by omega
    simp only[List.map_cons,List.map_nil,List.getElem?_cons_succ,List.getElem?_cons_zero,Option.join_some]
    simp! [Jga]
    exact J3l (k:=k+1) (q1.kp z) (List.getElem?_eq_getElem hr) (List.getElem?_eq_getElem ha) lt)
  rw[Jny,Jis,Jxe,Jfq]
  generalize Jx _ _ _ _ _ _ _ _=rc at Y ⊢
  obtain⟨g2,rfl⟩:=Y
  simp! [true_and]
  have es:(rngI (a:Int) (vs.length:Int)).map (slV rs a)=((List.range (rs.length-a)).map λ t=>Jpg rs a (a+t)).map .int:=by
   rw[List.map_map]
   refine List.ext_getElem ?_ λ n h1 h2=>?_
   ·rw[List.length_map,List.length_map,Jn,List.length_range]
    omega
   ·rw[List.getElem_map,List.getElem_map,Jaq,List.getElem_range,show(a:Int)+(n:Int)=((a+n:Nat):Int) by omega]
    rfl
  rw[es,J4p Jm (by simp;omega)]
  exact⟨em,rfl,x1.trans (.cons _ _ _)⟩
 ·rintro n h1 ⟨lt,ln,e,x⟩
  exact⟨⟨_,_,e⟩,lt,e,x⟩
theorem J7i (q:Du h D vs rs unit) (w:Ans rs ws m) (ha:a<rs.length):WR (Jfj (k+9) [.ref D,.int (a:Int)] h) λ v h'=>Ex h h'/\v=if m<ws.length then .tup [.int (m:Int),.bl true,.bl true,.bl false] else .int (Jq rs a):=by
 have hb:=Jc
 have xf:xfOf T "at" "NotKept"=true:=by kernel_rfl
 have x1:Jmc "NotKept"=some true:=by kernel_rfl
 have x2:Ji1 "NotKept"=some true:=by kernel_rfl
 have x3:Jh3 "NotKept"=some true:=by kernel_rfl
 have x4:Jmb "NotKept"=some false:=by kernel_rfl
 rw[Jqo]
 simp! [Jeo]
 refine J7x _ _ ?_
 rw[Jx4,Jq7]
 refine WE.of ?_
 simp! [true_and]
 refine WE.mono (Jz4 (k:=k) q w ha) ?_ ?_
 ·rintro _ h1 ⟨em,rfl,x⟩
  simp! [Jep]
  exact⟨x,by rw[if_neg (by omega)]⟩
 ·rintro n h1 ⟨lt,e,x⟩
  refine⟨"NotKept",_,e,?_⟩
  rw[ws_hd x1]
  simp! [Jo2]
  rw[J2e (f:="at") (i:=n) (y:=(m:Int)) rfl e xf]
  simp! [J7m e,J44,x2,x3,x4,Jep,List.length_cons,List.length_nil]
  exact⟨by omega,x,by rw[if_pos lt]⟩
end
section
variable {k:Nat}{h:IH}
theorem at_x {xs:List Int}{n:Nat}(hn:n<xs.length):∃x,atI (xs.map IV.int) (n:Int)=some (.int x):=⟨xs[n],Ja5 (by rw[List.getElem?_map,List.getElem?_eq_getElem hn];rfl)⟩
theorem at_io (n:Int) (h0:0<=n) (h1:n<2):∃w,IsNm w/\atI [IV.str "ink",IV.str "oven"] n=some (.str w):=by
 have:n=0∨n=1:=by omega
 rcases this with rfl|rfl
 ·exact⟨_,by unfold IsNm;decide +kernel,Jk2⟩
 ·exact⟨_,by unfold IsNm;decide +kernel,Jmj⟩
theorem bit {a b g:Int}(h:0<g) (e:a=0∨a=1):0<=a*(b%g)/\a*(b%g)<g:=by
 have h1:=Int.emod_nonneg b (b:=g) (by omega)
 have h2:=Int.emod_lt_of_pos b h
 rcases e with rfl|rfl
 ·rw[Int.zero_mul];omega
 ·rw[Int.one_mul];omega
theorem Jzp {c unit many:Int}(hu:1<=unit) (hu2:unit<=1000000000000000) (hs1:1<=many) (hs2:many<=5){Q:IV->IH->Prop}
  (K:∀h' r q,Ex h h'->F6 unit r->r.1.len<=r.1.gap+1->h.length<=q->h'[q]?=some (.lst (r.2.map tupH))->Q (t5h r q) h'):WR (Jcy (k+2) [.int c,.int unit,.int many] h) Q:=by
 have hb:=Jc
 rw[Joo]
 simp! [Jdc]
 refine WR.mono (Jwy (k:=k) (h:=h) c 10 (by decide)) ?_
 rintro _ h1 ⟨i,xs,rfl,_,hi,lx,hx,x1⟩
 clear hx
 obtain⟨a0,e0⟩:=at_x (xs:=xs) (n:=0) (by omega)
 obtain⟨a1,e1⟩:=at_x (xs:=xs) (n:=1) (by omega)
 obtain⟨a2,e2⟩:=at_x (xs:=xs) (n:=2) (by omega)
 obtain⟨a3,e3⟩:=at_x (xs:=xs) (n:=3) (by omega)
 obtain⟨a4,e4⟩:=at_x (xs:=xs) (n:=4) (by omega)
 obtain⟨a5,e5⟩:=at_x (xs:=xs) (n:=5) (by omega)
 obtain⟨a6,e6⟩:=at_x (xs:=xs) (n:=6) (by omega)
 obtain⟨a7,e7⟩:=at_x (xs:=xs) (n:=7) (by omega)
 obtain⟨a8,e8⟩:=at_x (xs:=xs) (n:=8) (by omega)
 obtain⟨a9,e9⟩:=at_x (xs:=xs) (n:=9) (by omega)
 have e0:atI (xs.map IV.int) 0=some (.int a0):=e0
 have e1:atI (xs.map IV.int) 1=some (.int a1):=e1
 have e2:atI (xs.map IV.int) 2=some (.int a2):=e2
 have e3:atI (xs.map IV.int) 3=some (.int a3):=e3
 have e4:atI (xs.map IV.int) 4=some (.int a4):=e4
 have e5:atI (xs.map IV.int) 5=some (.int a5):=e5
 have e6:atI (xs.map IV.int) 6=some (.int a6):=e6
 have e7:atI (xs.map IV.int) 7=some (.int a7):=e7
 have e8:atI (xs.map IV.int) 8=some (.int a8):=e8
 have e9:atI (xs.map IV.int) 9=some (.int a9):=e9
 have m1:Jas unit (1+a0%8):=.inr (.inl (by omega))
 have b1:unit*1<=unit*(1+a0%8):=Int.mul_le_mul_of_nonneg_left (by omega) (by omega)
 have b2:unit*(1+a0%8)<=unit*8:=Int.mul_le_mul_of_nonneg_left (by omega) (by omega)
 simp! [Jgy,Jf1,hi,e0,e1,m1,show(0:Int)<8 by decide,show(0:Int)<5 by decide]
 obtain⟨g,eg,g1,g2⟩:∃g,unit*(1+a0%8)+a1%5=g/\unit<=g/\g<=8*unit+4:=⟨_,rfl,by omega,by omega⟩
 rw[eg]
 clear eg b1 b2 m1 e0
 have l2:(Int.natAbs 2).log2<9000:=by decide
 have l3:(Int.natAbs 3).log2<9000:=by decide
 have l4:(Int.natAbs 4).log2<9000:=by decide
 have l5:(Int.natAbs 5).log2<9000:=by decide
 have t60:(100:Int)<=10^60:=by decide +kernel
 have lm:(10*many).natAbs.log2<9000:=Jm4 (by omega) (by omega)
 obtain⟨f,ef,f1,f2⟩:∃f:Int,atI [IV.int 5,IV.int 2,IV.int 2,IV.int 10] (a1/5%4)=some (.int f)/\0<=f/\f<=10:=by
  have:a1/5%4=0∨a1/5%4=1∨a1/5%4=2∨a1/5%4=3:=by omega
  rcases this with q|q|q|q<;>rw[q]
  ·exact⟨_,Jk2,by decide,by decide⟩
  ·exact⟨_,Jmj,by decide,by decide⟩
  ·exact⟨_,Jp5,by decide,by decide⟩
  ·exact⟨_,Jp6,by decide,by decide⟩
 have mg:Jas g f:=.inr (.inl (by omega))
 have mm:Jas 10 many:=.inl (by decide)
 have p1:0<=g*f:=Int.mul_nonneg (by omega) f1
 have p2:g*f<=g*10:=Int.mul_le_mul_of_nonneg_left f2 (by omega)
 have p3:g*10<=g*(10*many):=Int.mul_le_mul_of_nonneg_left (by omega) (by omega)
 have d0:0<=g*f/(10*many):=Int.ediv_nonneg p1 (by omega)
 have d1:g*f/(10*many)<=g:=by
  have:=Int.ediv_le_ediv (c:=10*many) (by omega) (Int.le_trans p2 p3)
  rwa [Int.mul_ediv_cancel _ (by omega)] at this
 generalize hdd:g*f/(10*many)=dd at d0 d1
 have q1:=Int.emod_nonneg a2 (b:=dd+1) (by omega)
 have q2:=Int.emod_lt_of_pos a2 (b:=dd+1) (by omega)
 have u:=bit (a:=a3%2) (b:=a4) (g:=g/2+1) (by omega) (by omega)
 have m4:Jas (a3%2) (a4%(g/2+1)):=.inl (by omega)
 have t:=bit (a:=a5%3/2) (b:=a6) (g:=g/4+1) (by omega) (by omega)
 have m5:Jas (a5%3/2) (a6%(g/4+1)):=.inl (by omega)
 simp! [Jgz,Jf1,hi,grow hi,Jy,e1,e2,ef,mg,mm,l5,lm,hdd,show(0:Int)<5 by decide,show(0:Int)<4 by decide,show(0:Int)<10*many by omega,show(0:Int)<dd+1 by omega,List.length_cons,List.length_nil]
 refine⟨by omega,?_⟩
 have x2:Ex h (h1++[L3.IO.lst [IV.int 5,IV.int 2,IV.int 2,IV.int 10]]):=x1.trans (.one _ _)
 have hi:(h1++[L3.IO.lst [IV.int 5,IV.int 2,IV.int 2,IV.int 10]])[i]?=some (.lst (xs.map .int)):=grow hi
 generalize h1++[L3.IO.lst [IV.int 5,IV.int 2,IV.int 2,IV.int 10]]=h2 at x2 hi
 obtain⟨len,el,n1,n2⟩:∃len,1+a2%(dd+1)=len/\1<=len/\len<=g+1:=⟨_,rfl,by omega,by omega⟩
 rw[el]
 simp! [Jg0,Jg1,Jg2,Jf1,hi,e3,e4,e5,e6,m4,m5,l2,l4,show(0:Int)<2 by decide,show(0:Int)<3 by decide,show(0:Int)<4 by decide,show(0:Int)<g/2+1 by omega,show(0:Int)<g/4+1 by omega,List.length_nil,Nat.zero_le]
 obtain⟨due,ed,u1,u2⟩:∃due,g-a3%2*(a4%(g/2+1))=due/\1<=due/\due<=g:=⟨_,rfl,by omega,by omega⟩
 obtain⟨late,et,t1,t2⟩:∃late,a5%3/2*(a6%(g/4+1))=late/\0<=late/\late<=g+g/2:=⟨_,rfl,by omega,by omega⟩
 rw[ed,et]
 clear ed et el u t m4 m5 q1 q2 hdd ef mg mm p1 p2 p3 d0 d1 x1
 have fin:∀(hs:List Hd) (h3:IH) (a b:Option IV){N:ISt->IH->Prop},Ex h2 h3->h3[h2.length]?=some (.lst (hs.map tupH))->HsOk len hs->WS (Jdd (k+1) [some (.int c),some (.int unit),some (.int many),some (.ref i),some (.int g),some (.int len),some (.int due),some (.int late),some (.ref h2.length),a,b] h3) N Q:=by
  intro hs h3 a b N x3 gq ok
  simp! [Jdd,List.length_cons,List.length_nil]
  exact⟨by omega,K h3 (⟨⟨#[]⟩,g,len,due,late⟩,hs) _ (x2.trans x3) ⟨g1,g2,n1,u1,u2,t1,t2,ok⟩ n2 x2.len gq⟩
 have nil0:HsOk len []:=⟨by decide,λ x hx=>(by cases hx),λ m n _ hn=>(by rw[List.length_nil] at hn;omega)⟩
 have x3:Ex h2 (h2++[L3.IO.lst []]):=.one _ _
 simp! [Jg3,Jf1,grow hi,e7,decide_eq_true_eq,decide_eq_false_iff_not,show(0:Int)<3 by decide]
 refine⟨λ w2=>⟨λ _=>?_,λ _=>fin [] _ _ _ x3 Jy nil0⟩,λ _=>fin [] _ _ _ x3 Jy nil0⟩
 obtain⟨w,hw,ew⟩:=at_io (a7/3%2) (by omega) (by omega)
 have s0:=Int.emod_nonneg a8 (b:=len-1) (by omega)
 have s1:=Int.emod_lt_of_pos a8 (b:=len-1) (by omega)
 obtain⟨st,est,s0,s1⟩:∃st,a8%(len-1)=st/\0<=st/\st<len-1:=⟨_,rfl,s0,s1⟩
 have v0:=Int.emod_nonneg a9 (b:=len-1-st) (by omega)
 have v1:=Int.emod_lt_of_pos a9 (b:=len-1-st) (by omega)
 obtain⟨en,een,v0,v1⟩:∃en,st+1+a9%(len-1-st)=en/\st<en/\en<len:=⟨_,rfl,by omega,by omega⟩
 simp! [Jf1,grow hi,e8,e9,est,een,show(0:Int)<len-1 by omega,show(0:Int)<len-1-st by omega]
 rw[Jgf (i:=h2.length) (h1:=h2++[L3.IO.lst []]) rfl Jy Jeq]
 simp! [Jf1,grow (grow hi),grow hi,e7,l3,ew,show(0:Int)<3 by decide,show(0:Int)<2 by decide,List.length_cons,List.length_nil,Jfc,Jy]
 refine⟨by omega,by omega,_,grow Jy,by show 0<sizeLine;omega,?_⟩
 rw[show h2++[L3.IO.lst []]++[L3.IO.lst [IV.str "ink",IV.str "oven"]]=h2++L3.IO.lst []::[L3.IO.lst [IV.str "ink",IV.str "oven"]] by simp,Jcj]
 refine fin [(w,st,en)] _ _ _ (.cons _ _ _) Jm ⟨by simp,λ x hx=>?_,λ m n hm hn=>?_⟩
 ·rw[List.mem_singleton] at hx
  subst hx
  exact⟨hw,s0,v0,v1⟩
 ·rw[List.length_singleton] at hn
  omega
end
noncomputable def nmS (n:Nat):Str:=Str.ofString "work"++(⟨#[115+n]⟩:Str)
theorem J09:∀n,n<5->IsNm (nmS n):=by unfold IsNm;decide +kernel
theorem J26:∀n,n<5->∀l,l<5->nmS n=nmS l->n=l:=by decide +kernel
section
variable {k:Nat}{h:IH}{D S a:Nat}{ys vs:List IV}{rs:List RH}{unit m:Int}
theorem cpsS:(Str.ofString "stuvw").cps.toList=(List.range 5).map (115+ ·):=by decide +kernel
theorem lenS:(Str.ofString "stuvw").length=5:=by decide +kernel
theorem lenW:(Str.ofString "work").length=4:=by decide +kernel
theorem s_at {n:Nat}(hn:n<5){Q:IV->IH->Prop}:WR (opIx (.str "stuvw") (.int (n:Int)) h) Q=Q (.str ⟨#[115+n]⟩) h:=by
 have hb:=Jc
 have e:atI (Str.ofString "stuvw").cps.toList (n:Int)=some (115+n):=by
  rw[cpsS]
  refine Ja5 ?_
  rw[List.getElem?_map,List.getElem?_range hn]
  rfl
 simp only[opIx]
 rw[if_pos (by rw[lenS];omega),e]
 rfl
theorem HsOk.longer {len:Int}{hs:List Hd}(hm:0<=m) (o:HsOk len hs):HsOk (len+m) hs :=
 ⟨o.few,λ a ha=>let ⟨x,y,z,w⟩:=o.each a ha;⟨x,y,z,by omega⟩,o.tog⟩
structure G73 (unit:Int) (i:Nat) (r:RH):Prop where
 f:F6 unit r
 l:r.1.len<=9*r.1.gap+9
 n:r.1.name=nmS i
structure Base (h:IH) (S:Nat) (ys:List IV) (rs:List RH) (unit:Int):Prop where
 s:h[S]?=some (.lst ys)
 R:RowsH h ys rs
 f:∀i r,rs[i]?=some r->F6 unit r/\r.1.len<=r.1.gap+1/\r.1.name=nmS i
 l:rs.length<=5
 t:h[0]?=some (.tab "longest_hold")
 u1:1<=unit
 u2:unit<=1000000000000000
theorem Base.kp {h':IH}(k:Kp h h') (b:Base h S ys rs unit):Base h' S ys rs unit:=⟨k _ _ b.s,b.R.kp k,b.f,b.l,k _ _ b.t,b.u1,b.u2⟩
noncomputable def Gr (rs:List RH) (a:Nat) (m:Int):Prop:=0<=m/\∀r,rs[a]?=some r->m<=4*r.1.gap
theorem Base.lg (b:Base h S ys rs unit) (gr:Gr rs a m) (i:Nat) (r:RH) (e:(lgr rs a m)[i]?=some r):G73 unit i r:=by
 by_cases ei:i=a
 ·subst ei
  cases er:rs[i]? with
  | none =>
   have:=List.getElem?_eq_none_iff.mp er
   rw[List.getElem?_eq_none (by rw[Jge];exact this)] at e
   cases e
  | some r0 =>
   rw[Jke er] at e
   cases e
   obtain⟨f,l,n⟩:=b.f i r0 er
   have hm:=gr.2 r0 er
   have hm0:=gr.1
   have l1:=f.l1
   have u1:=b.u1
   have g1:=f.g1
   exact⟨⟨f.g1,f.g2,by show 1<=r0.1.len+m;omega,f.d1,f.d2,f.t1,f.t2,f.ok.longer hm0⟩,by show r0.1.len+m<=9*r0.1.gap+9;omega,n⟩
 ·rw[Jls ei] at e
  obtain⟨f,l,n⟩:=b.f i r e
  have u1:=b.u1
  have g1:=f.g1
  exact⟨f,by omega,n⟩
theorem J08 {W:Nat}(b:Base h S ys rs unit) (gr:Gr rs a m){h1:IH}(kp:Kp h h1) (gW:h1[W]?=some (.lst vs)) (w:AllH h1 vs (lgr rs a m)):WR (Jat (k+3) [.ref h1.length,.ref W] (h1++[.ins "Duty" []])) λ v h'=>v=.non/\Ex h1 h'/\Du h' h1.length vs (lgr rs a m) unit:=by
 have u1:=b.u1
 have u2:=b.u2
 have l5:(lgr rs a m).length<=5:=by rw[Jge];exact b.l
 have G:=b.lg gr
 generalize lgr rs a m=rs' at l5 w G
 have hf:∀r∈rs',F6 unit r/\r.1.len<=9*r.1.gap+9:=λ r hr=>by
  obtain⟨i,hi⟩:=List.mem_iff_getElem?.mp hr
  exact⟨(G i r hi).f,(G i r hi).l⟩
 have nd:((rs'.map (·.1)).map (·.name)).Nodup:=by
  rw[List.Nodup,List.pairwise_iff_getElem]
  intro i j hi hj hij e
  rw[List.length_map,List.length_map] at hi hj
  rw[List.getElem_map,List.getElem_map,List.getElem_map,List.getElem_map] at e
  rw[(G i _ (List.getElem?_eq_getElem hi)).n,(G j _ (List.getElem?_eq_getElem hj)).n] at e
  have:=J26 i (by omega) j (by omega) e
  omega
 have t60:(9000000000000000:Int)<=10^60:=by decide +kernel
 refine WR.mono (Jva (k:=k) gW w.w nd (by rw[List.length_map];omega) (λ d hd=>by
  obtain⟨r,hr,rfl⟩:=List.mem_map.mp hd
  have a1:=(hf r hr).1.g1
  have a2:=(hf r hr).1.g2
  exact⟨by omega,Jm4 (by omega) (by omega)⟩) (J5a u1 (λ r hr=>(hf r hr).1) (by omega))) ?_
 rintro _ h6 ⟨rfl,g6,rfl⟩
 have x6:Ex h1 (h1++L3.IO.ins "Duty" (dfs vs)::g6):=.cons _ _ _
 exact⟨rfl,x6,⟨⟨Jm,w.kp x6.kp,by omega,λ r hr=>⟨(hf r hr).1.ok.few,λ x hx=>((hf r hr).1.ok.each x hx).1⟩⟩,x6.get (kp _ _ b.t),u1,u2,hf,l5⟩⟩
theorem J7s {n q:Nat}{r:RH}{h0 g:IH}{s0 s1 s2:Option IV}(hu:1<=unit) (G:G73 unit n r) (hn:n<5) (hv:vs.length<=6) (hq:(h0++L3.IO.lst vs::g)[q]?=some (.lst (r.2.map tupH))){N:ISt->IH->Prop}{R:IV->IH->Prop}{σr:SRes}
  (hr:Jci (eDot (pg (k+5)) "append" 1 (eVar 3) (Ja (Ji5 "Work" (J6 (k+5)) [] (Ja (eBin Ju (eC (.str "work")) (eBin opIx (eC (.str "stuvw")) (eVar 4))) (Ja (eVar 5) (Ja (eVar 6) (Ja (eVar 7) (Ja (eVar 8) (Ja (eCB (on1 Jkf) (Ja (eVar 9) aNil)) aNil))))))) aNil)) [s0,s1,s2,some (.ref h0.length),some (.int (n:Int)),some (.int r.1.gap),some (.int r.1.len),some (.int r.1.due),some (.int r.1.late),some (.ref q)] (h0++L3.IO.lst vs::g)=σr)
  (K:∀w g',IsH (h0++L3.IO.lst (vs++[w])::g') w r->KpB h0.length (h0++L3.IO.lst vs::g) (h0++L3.IO.lst (vs++[w])::g')->N [s0,s1,s2,some (.ref h0.length),some (.int (n:Int)),some (.int r.1.gap),some (.int r.1.len),some (.int r.1.due),some (.int r.1.late),some (.ref q)] (h0++L3.IO.lst (vs++[w])::g')):WS σr N R:=by
 subst hr
 have hb:=Jc
 have f:=G.f
 have f1:=f.g1
 rw[Jir,Jgf (i:=h0.length) (h1:=h0++L3.IO.lst vs::g) rfl Jm Jeq]
 simp! [s_at hn,lenW,J0g,hq]
 refine⟨by show 4+1<=sizeLine;omega,?_⟩
 rw[show Str.ofString "work"++(⟨#[115+n]⟩:Str)=r.1.name from G.n.symm]
 generalize hs':r.2.map tupH=hs
 refine WR.mono (Jwe (k:=k) (hs:=hs) (by rw[G.n];exact J09 n hn) (by omega) f.l1 f.t1 (λ h1=>Jly f.d1 f.d2) λ h1 z=>hs'▸Jix (z _ _ (by rw[hs'];exact Jy)) f.ok) ?_
 rintro _ h3 ⟨rfl,g3,rfl⟩
 refine⟨rfl,?_⟩
 have x3:Ex (h0++L3.IO.lst vs::g) (h0++L3.IO.lst vs::g++[L3.IO.lst hs]++L3.IO.ins "Work" (wfs r.1.name r.1.gap r.1.len r.1.due r.1.late hs)::g3):=(Ex.one _ _).trans (.cons _ _ _)
 have gw:(h0++L3.IO.lst vs::g++[L3.IO.lst hs]++L3.IO.ins "Work" (wfs r.1.name r.1.gap r.1.len r.1.due r.1.late hs)::g3)[List.length (h0++L3.IO.lst vs::g++[L3.IO.lst hs])]?=some (.ins "Work" (wfs r.1.name r.1.gap r.1.len r.1.due r.1.late hs)):=Jm
 generalize hw:List.length (h0++L3.IO.lst vs::g++[L3.IO.lst hs])=w at gw
 have hne:w≠h0.length:=by rw[<- hw,List.length_append,List.length_append,List.length_cons];omega
 have el:h0++L3.IO.lst vs::g++[L3.IO.lst hs]++L3.IO.ins "Work" (wfs r.1.name r.1.gap r.1.len r.1.due r.1.late hs)::g3=h0++L3.IO.lst vs::(g++L3.IO.lst hs::L3.IO.ins "Work" (wfs r.1.name r.1.gap r.1.len r.1.due r.1.late hs)::g3):=by simp
 rw[el] at x3 gw ⊢
 generalize g++L3.IO.lst hs::L3.IO.ins "Work" (wfs r.1.name r.1.gap r.1.len r.1.due r.1.late hs)::g3=g4 at x3 gw
 have kb:KpB h0.length (h0++L3.IO.lst vs::g4) (h0++L3.IO.lst (vs++[.ref w])::g4):=λ j o nj e=>by
  rw[<- Jcj (o:=L3.IO.lst vs),List.getElem?_set_ne (Ne.symm nj)]
  exact e
 simp only[Jfc,Jm,exists_eq_left,exists_eq_left',IV.bl.injEq,IV.int.injEq,IV.ref.injEq,IV.str.injEq,IO.lst.injEq,IV.tup.injEq,Option.some.injEq,Bool.not_true,Bool.not_false,reduceCtorEq,eq_self,true_implies,false_implies,implies_true,and_true,true_and,and_false,false_and,Option.bind_some,Bool.true_eq_false,Bool.false_eq_true,Jl5,Jil,Jl6,Jue,Jl3,Jl4,Jfr,Jbp,Jgm,Jbq,Jbg,Jfs,Jkw,Jma,Jk2,Jmj,Jp5,Jp6,Jsq,Jip,Jin,Jio,Jcj]
 exact⟨by omega,K (.ref w) g4 ⟨w,rfl,hs'▸kb _ _ hne gw⟩ λ j o nj e=>kb j o nj (x3.get e)⟩
theorem J00 (b:Base h S ys rs unit) (gr:Gr rs a m):WR (Jck (k+6) [.ref S,.int (a:Int),.int m] h) λ v h'=>Ex h h'/\∃D vs,v=.ref D/\Du h' D vs (lgr rs a m) unit:=by
 have hb:=Jc
 have yl:=b.R.len
 have l5:=b.l
 have rl:(lgr rs a m).length=rs.length:=Jge rs a m
 rw[Jqn,Jel]
 generalize hB:Jem (k+5)=B
 simp! [List.length_nil,Nat.zero_le]
 rw[<- hB,Jem]
 generalize hB:Jen (k+5)=B
 simp! [Jrd,grow b.s]
 refine⟨by omega,?_⟩
 refine Jbx (λ n σ h'=>∃vs g a4 a5 a6 a7 a8 a9,h'=h++L3.IO.lst vs::g/\σ=[some (.ref S),some (.int (a:Int)),some (.int m),some (.ref h.length),a4,a5,a6,a7,a8,a9]/\AllH h' vs ((lgr rs a m).take n)) (λ _ _ _ _=>trivial) ?_ ?_ ⟨[],[],none,none,none,none,none,none,rfl,rfl,⟨rfl,λ i v d a=>by simp at a⟩⟩
 ·rintro n hn _ _ ⟨vs,g,a4,a5,a6,a7,a8,a9,rfl,rfl,w⟩
  rw[Jn] at hn
  have hnr:n<rs.length:=by omega
  have hny:n<ys.length:=by omega
  have hnl:n<(lgr rs a m).length:=by omega
  rw[Jaq,show(0:Int)+(n:Int)=n by omega,Jh2]
  simp only[List.set_cons_succ,List.set_cons_zero]
  obtain⟨q,ey,gq⟩:=b.R.at_ n _ _ (List.getElem?_eq_getElem hny) (List.getElem?_eq_getElem hnr)
  have ay:atI ys (n:Int)=some (t5h rs[n] q):=Ja5 (by rw[List.getElem?_eq_getElem hny,ey])
  have wl:=w.len
  rw[List.length_take] at wl
  rw[List.take_succ_eq_append_getElem hnl]
  have G:=b.lg gr n _ (List.getElem?_eq_getElem hnl)
  have fin:∀(r:RH){R:IV->IH->Prop},(lgr rs a m)[n]=r->r.2=rs[n].2->WS ((Jci (eDot (pg (k+5)) "append" 1 (eVar 3) (Ja (Ji5 "Work" (J6 (k+5)) [] (Ja (eBin Ju (eC (.str "work")) (eBin opIx (eC (.str "stuvw")) (eVar 4))) (Ja (eVar 5) (Ja (eVar 6) (Ja (eVar 7) (Ja (eVar 8) (Ja (eCB (on1 Jkf) (Ja (eVar 9) aNil)) aNil))))))) aNil))) [some (.ref S),some (.int (a:Int)),some (.int m),some (.ref h.length),some (.int (n:Int)),some (.int r.1.gap),some (.int r.1.len),some (.int r.1.due),some (.int r.1.late),some (.ref q)] (h++L3.IO.lst vs::g))
    (λ σ h'=>∃vs g a4 a5 a6 a7 a8 a9,h'=h++L3.IO.lst vs::g/\σ=[some (.ref S),some (.int (a:Int)),some (.int m),some (.ref h.length),a4,a5,a6,a7,a8,a9]/\AllH h' vs ((lgr rs a m).take n++[(lgr rs a m)[n]])) R:=by
   intro r R er e2
   rw[er] at G ⊢
   generalize hr:Jci _ _ _=σr
   refine J7s b.u1 G (by omega) (by omega) (by rw[e2];exact grow gq) hr ?_
   intro v g' isw kp
   exact⟨_,g',_,_,_,_,_,_,rfl,rfl,AllH.snoc ⟨w.len,λ i u d z y=>let ⟨j,e,x⟩:=w.at_ i u d z y;⟨j,e,kp _ _ (λ ej=>by rw[ej,Jm] at x;cases x) x⟩⟩ isw⟩
  rw[Jhv,Jkz,Jsl]
  generalize hE:Jci (eDot (pg (k+5)) "append" 1 (eVar 3) _)=E at fin
  simp! [Jf1,grow b.s,ay,J1v,J7u,J7v,List.length_cons,List.length_nil,decide_eq_true_eq,decide_eq_false_iff_not]
  refine⟨λ e=>?_,λ e=>?_⟩
  ·have e:n=a:=by omega
   have el:(lgr rs a m)[n]=({ rs[n].1 with len:=rs[n].1.len+m },rs[n].2):=by
    subst e
    exact Option.some.inj ((List.getElem?_eq_getElem _).symm.trans (Jke (List.getElem?_eq_getElem hnr)))
   exact fin _ el rfl
  ·have e:n≠a:=by omega
   have el:(lgr rs a m)[n]=rs[n]:=Option.some.inj (((List.getElem?_eq_getElem hnl).symm.trans (Jls e)).trans (List.getElem?_eq_getElem hnr))
   exact fin _ el rfl
 ·rintro _ _ ⟨vs,g,a4,a5,a6,a7,a8,a9,rfl,rfl,w⟩
  rw[Jn,List.take_of_length_le (by omega)] at w
  rw[<- hB,Jen]
  simp! [true_and]
  refine WR.mono (J08 (k:=k+2) b gr (Ex.cons _ _ _).kp Jm w) ?_
  rintro _ h6 ⟨rfl,x6,du⟩
  exact⟨rfl,(Ex.cons _ _ _).trans x6,_,_,rfl,du⟩
theorem dll {x:IV}:(([("works",x)]:List (Str×IV))).lookup ("longer":Str)=none:=by kernel_rfl
theorem Jzb {r:RH}(q:Du h D vs rs unit) (b:Base h S ys rs unit) (gr:Gr rs a m) (er:rs[a]?=some r):WR (Jbe (k+6) [.ref D,.int (a:Int),.int m] h) λ v h'=>Ex h h'/\∃D vs,v=.ref D/\Du h' D vs (lgr rs a m) unit:=by
 have hb:=Jc
 have wl:=q.y.w.len
 have ha:=(List.getElem?_eq_some_iff.mp er).1
 have hav:a<vs.length:=by omega
 have G:=b.lg gr a _ (Jke er)
 have f:=G.f
 have l5:=q.l
 have u1:=q.u1
 have f1:=f.g1
 obtain⟨j,ej,gj⟩:=q.y.w.at_ a _ _ (List.getElem?_eq_getElem hav) er
 have ea:atI vs (a:Int)=some (.ref j):=Ja5 (by rw[List.getElem?_eq_getElem hav,ej])
 rw[Jk5]
 have x1:Ex h (h++[L3.IO.lst vs]):=.one _ _
 have gj1:=x1.get gj
 generalize hB:Jbs (k+5)=B
 simp! [Jbr,Jee,Jef,hB,Ji q.y.d,Ji (x1.get q.y.d),dl0,ea,Ji gj1,fl0,fl1,fl2,fl3,fl4]
 rw[Jag (i:=j) (h1:=h++[L3.IO.lst vs]) rfl gj1 flh (Jez _)]
 simp! [Jkv gj1]
 generalize hs':r.2.map tupH=hs
 refine WR.mono (Jwe (k:=k) (h:=h++[L3.IO.lst vs]++[L3.IO.lst hs]) (hs:=hs) (by rw[(b.f a r er).2.2];exact J09 a (by omega)) (by show 1<=r.1.gap;exact(Int.le_trans u1 f1)) f.l1 f.t1 (λ h1=>Jly f.d1 f.d2) λ h1 z=>hs'▸Jix (z _ _ (by rw[hs'];exact Jy)) f.ok) ?_
 rintro _ h3 ⟨rfl,g3,rfl⟩
 refine⟨rfl,?_⟩
 have gW:(h++[L3.IO.lst vs]++[L3.IO.lst hs]++L3.IO.ins "Work" (wfs r.1.name r.1.gap (r.1.len+m) r.1.due r.1.late hs)::g3)[List.length (h++[L3.IO.lst vs]++[L3.IO.lst hs])]?=some (.ins "Work" (wfs r.1.name r.1.gap (r.1.len+m) r.1.due r.1.late hs)):=Jm
 generalize hw:List.length (h++[L3.IO.lst vs]++[L3.IO.lst hs])=W at gW
 have ne:W≠h.length:=by rw[<- hw];simp
 have el:h++[L3.IO.lst vs]++[L3.IO.lst hs]++L3.IO.ins "Work" (wfs r.1.name r.1.gap (r.1.len+m) r.1.due r.1.late hs)::g3=h++L3.IO.lst vs::(L3.IO.lst hs::L3.IO.ins "Work" (wfs r.1.name r.1.gap (r.1.len+m) r.1.due r.1.late hs)::g3):=by simp
 have es:(h++[L3.IO.lst vs]++[L3.IO.lst hs]++L3.IO.ins "Work" (wfs r.1.name r.1.gap ({ r.1 with len:=r.1.len+m }:WD).len r.1.due r.1.late hs)::g3)=h++L3.IO.lst vs::(L3.IO.lst hs::L3.IO.ins "Work" (wfs r.1.name r.1.gap (r.1.len+m) r.1.due r.1.late hs)::g3):=el
 rw[el] at gW
 have eix:ixN vs.length (a:Int)=some a:=by
  simp[ixN]
  omega
 show WS (gSb (eVar 3) (eVar 1) (.ref W) _ (h++[L3.IO.lst vs]++[L3.IO.lst hs]++L3.IO.ins "Work" (wfs r.1.name r.1.gap (r.1.len+m) r.1.due r.1.late hs)::g3)) _ _
 rw[el]
 generalize L3.IO.lst hs::L3.IO.ins "Work" (wfs r.1.name r.1.gap (r.1.len+m) r.1.due r.1.late hs)::g3=g4 at gW
 simp! [J7w,J4x,Jm,Jcj]
 refine⟨a,eix,?_⟩
 have kb:KpB h.length (h++L3.IO.lst vs::g4) (h++L3.IO.lst (vs.set a (.ref W))::g4):=λ j o nj e=>by
  rw[<- Jcj (o:=L3.IO.lst vs),List.getElem?_set_ne (Ne.symm nj)]
  exact e
 have x4:Ex h (h++L3.IO.lst (vs.set a (.ref W))::g4):=.cons _ _ _
 rw[<- hB,Jbs]
 simp! [true_and]
 have w4:AllH (h++L3.IO.lst (vs.set a (.ref W))::g4) (vs.set a (.ref W)) (lgr rs a m):=by
  refine⟨by rw[List.length_set,Jge];exact wl,λ i v x z y=>?_⟩
  by_cases hi:i=a
  ·subst hi
   rw[List.getElem?_set_self hav] at z
   rw[Jke er] at y
   cases z
   cases y
   exact⟨W,rfl,hs'▸kb _ _ ne gW⟩
  ·rw[List.getElem?_set_ne (Ne.symm hi)] at z
   rw[Jls hi] at y
   obtain⟨q',e1,e2⟩:=q.y.w.at_ i v x z y
   exact⟨q',e1,x4.get e2⟩
 refine WR.mono (J08 (k:=k+2) b gr x4.kp Jm w4) ?_
 rintro _ h5 ⟨rfl,x5,du⟩
 exact⟨rfl,x4.trans x5,_,_,rfl,du⟩
theorem J2i {r:RH}{way:Int}(q:Du h D vs rs unit) (b:Base h S ys rs unit) (gr:Gr rs a m) (er:rs[a]?=some r):WR (Jau (k+7) [.ref D,.ref S,.int (a:Int),.int m,.int way] h) λ v h'=>Ex h h'/\∃D vs,v=.ref D/\Du h' D vs (lgr rs a m) unit:=by
 rw[Jon,Jda]
 generalize hB:Jdb (k+6)=B
 simp only[Jl9,Jkz,Juf]
 simp! [decide_eq_true_eq,decide_eq_false_iff_not]
 refine⟨λ _=>?_,λ _=>?_⟩
 ·rw[Jag (i:=D) (h1:=h) rfl q.y.d dll (Jk4 _)]
  simp! [true_and]
  exact Jzb (k:=k) q b gr er
 ·rw[<- hB,Jdb]
  simp! [true_and]
  exact J00 (k:=k) b gr
theorem Jmq (ws:List IV):∃ns:List Int,badL ws=ns.map IV.int:=by
 refine⟨(badL ws).map λ v=>match v with|.int x=>x|_=>0,?_⟩
 rw[List.map_map]
 refine Eq.symm ((List.map_congr_left λ v hv=>?_).trans (List.map_id _))
 obtain⟨j,hj,rfl⟩:=List.mem_iff_getElem.mp (List.mem_filter.mp hv).1
 rw[Jaq]
 rfl
theorem Jm6 {as:List Int}{i j:Nat}(hi:h[i]?=some (.lst (as.map .int))) (hj:h[j]?=some (.lst [])):cNe (.ref i) (.ref j) h=.ok (.bl (!as.isEmpty)) h:=by
 unfold cNe
 rw[show Jh0 (.ref i) (.ref j)=none from rfl]
 dsimp only
 rw[Ju4 (as:=as) (Jmv hi) hj]
theorem Du.ht (q:Du h D vs rs unit):∀r∈rs,0<r.1.gap/\0<=r.1.late/\r.1.due<=r.1.gap:=λ r hr=>by
 have f:=(q.f r hr).1
 have u1:=q.u1
 have g1:=f.g1
 exact⟨by omega,f.t1,f.d2⟩
theorem Jz2 {r:RH}(q:Du h D vs rs unit) (er:rs[a]?=some r) (all:∀i,i<rs.length->HasA rs i):Jq rs a<=r.1.gap:=by
 have ha:=(List.getElem?_eq_some_iff.mp er).1
 obtain⟨r',er',s,s1,s2,s3⟩:=(Jkq ha q.ht all).mpr (Int.le_refl _) a (by rw[Jge];exact ha)
 rw[Jke er] at er'
 cases er'
 rw[J2z,Jjf (Nat.le_refl _)] at s3
 have z0:=q.z0 a
 have f:=(q.f r (List.mem_of_getElem? er)).1
 have l1:=f.l1
 have d2:=f.d2
 have t1:=f.t1
 have an:=Jmh (s:=s) (rs:=rs.take a) λ r hr=>by
  have g:=q.ht r (List.mem_of_mem_take hr)
  have l:=(q.f r (List.mem_of_mem_take hr)).1.l1
  exact⟨g.1,g.2.1,by omega⟩
 unfold ldF at s3
 have s2:s+r.1.late<=r.1.due:=s2
 have s3:zU rs a+(r.1.len+Jq rs a)+Jbo (rs.take a) s<=s:=s3
 omega
theorem Jz3 (q:Du h D vs rs unit) (ha:a<rs.length) (all:∀i,i<rs.length->HasA rs i):0<=Jq rs a:=by
 refine(Jkq ha q.ht all).mp ?_
 rw[Jm2]
 exact all
theorem try73 {r:RH}{cell:Int}{a3:Option IV}(q:Du h D vs rs unit) (b:Base h S ys rs unit) (gr:Gr rs a m) (er:rs[a]?=some r) (all:∀i,i<rs.length->HasA rs i){Q:IV->IH->Prop}(K:∀(h':IH) (i:Nat) (ns:List Int),Ex h h'->h'[i]?=some (.lst (ns.map .int))->(ns=[]↔m<=Jq rs a)->Q (.ref i) h') :
  WR (Jl (Ja3 (k+7)) [] (Ja (Jl (Jau (k+7)) [] (Ja (eVar 0) (Ja (eVar 1) (Ja (eVar 2) (Ja (eVar 5) (Ja (eBin Jap (eBin Jao (eVar 4) (eC (.int 3))) (eC (.int 2))) aNil)))))) aNil) [some (.ref D),some (.ref S),some (.int (a:Int)),a3,some (.int cell),some (.int m)] h) Q:=by
 have l3:(Int.natAbs 3).log2<9000:=by decide
 have ha:=(List.getElem?_eq_some_iff.mp er).1
 simp! [l3,show(0:Int)<3 by decide,show(0:Int)<2 by decide]
 refine WR.mono (J2i (k:=k) q b gr er) ?_
 rintro _ h1 ⟨x1,D',vs',rfl,q'⟩
 obtain⟨ws,m',w⟩:=J0q q'
 refine WR.mono (J11 (k:=k) q' w) ?_
 rintro _ _ ⟨g,rfl,rfl⟩
 obtain⟨ns,en⟩:=Jmq ws
 refine K _ _ ns (x1.trans (.cons _ _ _)) (by rw[<- en];exact Jm) ?_
 rw[<- Jkq ha q.ht all,<-w.all]
 constructor
 ·intro e
  subst e
  rcases Nat.lt_or_ge m' ws.length with lt|ge
  ·obtain⟨t,et⟩:=J0s w lt
   rw[en] at et
   cases et
  ·have:=w.lm
   omega
 ·intro e
  have:=Jus w e
  rw[en] at this
  cases ns with
  | nil=>rfl
  | cons _ _=>cases this
theorem J2a {r:RH}{cell:Int}(q:Du h D vs rs unit) (b:Base h S ys rs unit) (er:rs[a]?=some r) (all:∀i,i<rs.length->HasA rs i) (hc:0<=cell):WR (Jcx (k+8) [.ref D,.ref S,.int (a:Int),.int (Jq rs a),.int cell] h) λ v h'=>v=.bl true/\Ex h h':=by
 have hb:=Jc
 have ha:=(List.getElem?_eq_some_iff.mp er).1
 have s0:=Jz3 q ha all
 have s1:=Jz2 q er all
 have yl:=b.R.len
 have hay:a<ys.length:=by omega
 have gp:=(q.ht r (List.mem_of_getElem? er)).1
 have grow:∀x:Int,0<=x->x<=4*r.1.gap->Gr rs a x:=λ x x0 x1=>⟨x0,λ r' e=>by rw[er] at e;cases e;exact x1⟩
 obtain⟨p,ey,_⟩:=b.R.at_ a _ _ (List.getElem?_eq_getElem hay) er
 have ay:atI ys (a:Int)=some (t5h r p):=Ja5 (by rw[List.getElem?_eq_getElem hay,ey])
 have m1:=Int.emod_nonneg cell (b:=Jq rs a+1) (by omega)
 have m2:=Int.emod_lt_of_pos cell (b:=Jq rs a+1) (by omega)
 have m3:=Int.emod_nonneg cell (b:=2*r.1.gap) (by omega)
 have m4:=Int.emod_lt_of_pos cell (b:=2*r.1.gap) (by omega)
 have mf:Jas 2 r.1.gap:=.inl (by decide)
 have T:=λ (h1:IH) (x1:Ex h h1) (y:Int) (y0:0<=y) (y1:y<=4*r.1.gap){Q:IV->IH->Prop}=>@try73 k h1 D S a ys vs rs unit y r cell (some (.int (Jq rs a))) (q.kp x1.kp) (b.kp x1.kp) (grow y y0 y1) er all Q
 rw[Jom,Jc6]
 generalize hB:Jc7 (k+7)=B
 simp! [decide_eq_true_eq,decide_eq_false_iff_not]
 refine⟨λ z=>absurd s0 (by omega),λ _=>?_⟩
 rw[<- hB,Jc7]
 generalize hB:Jc8 (k+7)=B
 generalize hL:Jcg (k+7)=L
 simp! [show(0:Int)<Jq rs a+1 by omega,List.length_cons,List.length_nil,Jfe,Jy]
 refine⟨by omega,?_⟩
 have x1:Ex h (h++[L3.IO.lst [IV.int (Jq rs a),IV.int (cell%(Jq rs a+1))]]):=.one _ _
 have gl:(h++[L3.IO.lst [IV.int (Jq rs a),IV.int (cell%(Jq rs a+1))]])[h.length]?=some (.lst [IV.int (Jq rs a),IV.int (cell%(Jq rs a+1))]):=Jy
 generalize h++[L3.IO.lst [IV.int (Jq rs a),IV.int (cell%(Jq rs a+1))]]=h1 at x1 gl
 refine Jbx (λ n σ h'=>Ex h1 h'/\∃a5,σ=[some (.ref D),some (.ref S),some (.int (a:Int)),some (.int (Jq rs a)),some (.int cell),a5]) (λ _ _ _ z=>z.1.get gl) ?_ ?_ ⟨.refl _,none,rfl⟩
 ·rintro n hn _ h2 ⟨x2,a5,rfl⟩
  obtain⟨y,ey,y0,y1⟩:∃y:Int,[IV.int (Jq rs a),IV.int (cell%(Jq rs a+1))][n]=.int y/\0<=y/\y<=Jq rs a:=by
   match n,hn with
   | 0,_=>exact⟨_,rfl,s0,Int.le_refl _⟩
   | 1,_=>exact⟨_,rfl,m1,by omega⟩
  rw[ey,Jh2,<-hL,Jcg]
  simp only[List.set_cons_succ,List.set_cons_zero]
  rw[Juf,Jky,Jp0]
  refine T h2 (x1.trans x2) y y0 (by omega) ?_
  intro h3 i ns x3 gi iff
  obtain rfl:=iff.mpr y1
  simp! [List.length_nil,Nat.zero_le,Jm6 (as:=[]) (L4.grow gi) Jy,List.isEmpty_nil]
  exact⟨(x2.trans x3).trans (.one _ _),_,rfl⟩
 ·rintro _ h2 ⟨x2,a5,rfl⟩
  have x12:=x1.trans x2
  rw[<- hB,Jc8]
  generalize hB:Jc9 (k+7)=B
  generalize hL:Jch (k+7)=L
  simp! [Jf1,x12.get b.s,ay,mf,show(0:Int)<2*r.1.gap by omega,List.length_cons,List.length_nil,Jfe,Jy]
  refine⟨by omega,?_⟩
  have x3:Ex h (h2++[L3.IO.lst [IV.int (Jq rs a+1),IV.int (Jq rs a+1+cell%(2*r.1.gap))]]):=x12.trans (.one _ _)
  have gl:(h2++[L3.IO.lst [IV.int (Jq rs a+1),IV.int (Jq rs a+1+cell%(2*r.1.gap))]])[h2.length]?=some (.lst [IV.int (Jq rs a+1),IV.int (Jq rs a+1+cell%(2*r.1.gap))]):=Jy
  generalize h2++[L3.IO.lst [IV.int (Jq rs a+1),IV.int (Jq rs a+1+cell%(2*r.1.gap))]]=h3 at x3 gl
  refine Jbx (λ n σ h'=>Ex h3 h'/\∃a5,σ=[some (.ref D),some (.ref S),some (.int (a:Int)),some (.int (Jq rs a)),some (.int cell),a5]) (λ _ _ _ z=>z.1.get gl) ?_ ?_ ⟨.refl _,a5,rfl⟩
  ·rintro n hn _ h4 ⟨x4,a5,rfl⟩
   obtain⟨y,ey,y0,y1⟩:∃y:Int,[IV.int (Jq rs a+1),IV.int (Jq rs a+1+cell%(2*r.1.gap))][n]=.int y/\Jq rs a<y/\y<=4*r.1.gap:=by
    match n,hn with
    | 0,_=>exact⟨_,rfl,by omega,by omega⟩
    | 1,_=>exact⟨_,rfl,by omega,by omega⟩
   rw[ey,Jh2,<-hL,Jch]
   simp only[List.set_cons_succ,List.set_cons_zero]
   rw[Juf,Jky,Jp0]
   refine T h4 (x3.trans x4) y (by omega) y1 ?_
   intro h5 i ns x5 gi iff
   have ne:ns.isEmpty=false:=by
    cases ns with
    | nil=>have:=iff.mp rfl;omega
    | cons _ _=>rfl
   simp! [List.length_nil,Nat.zero_le,Jtg (as:=ns) (L4.grow gi) Jy,ne]
   exact⟨(x4.trans x5).trans (.one _ _),_,rfl⟩
  ·rintro _ h4 ⟨x4,a5,rfl⟩
   rw[<- hB,Jc9]
   simp! [true_and]
   exact x3.trans x4
end
theorem J1d {h:IH}{unit:Int}:∀(ys:List IV) (i0:Nat),(∀y∈ys,∃r q,F6 unit r/\r.1.len<=r.1.gap+1/\y=t5h r q/\h[q]?=some (.lst (r.2.map tupH)))->∃rs:List RH,RowsH h ys rs/\∀i r,rs[i]?=some r->F6 unit r/\r.1.len<=r.1.gap+1/\r.1.name=nmS (i0+i)
 | [],_,_=>⟨[],⟨rfl,λ i y r e=>by simp at e⟩,λ i r e=>by simp at e⟩
 | y::ys,i0,q=>by
  obtain⟨r,p,f,l0,tt,gp⟩:=q y (List.mem_cons_self ..)
  obtain⟨rs,R,P⟩:=J1d ys (i0+1) λ z hz=>q z (List.mem_cons_of_mem _ hz)
  refine⟨({ r.1 with name:=nmS i0 },r.2)::rs,⟨by rw[List.length_cons,List.length_cons,R.len],λ i y' s a b=>?_⟩,λ i s e=>?_⟩
  ·cases i with
   | zero =>
    have a:y=y':=by simpa using a
    have b:({ r.1 with name:=nmS i0 },r.2)=s:=by simpa using b
    subst b
    exact⟨p,a▸tt,gp⟩
   | succ i=>exact R.at_ i y' s (by simpa using a) (by simpa using b)
  ·cases i with
   | zero =>
    have e:({ r.1 with name:=nmS i0 },r.2)=s:=by simpa using e
    subst e
    exact⟨⟨f.g1,f.g2,f.l1,f.d1,f.d2,f.t1,f.t2,f.ok⟩,l0,rfl⟩
   | succ i =>
    have:=P i s (by simpa using e)
    rw[show i0+(i+1)=i0+1+i by omega]
    exact this
section
variable {k:Nat}{h:IH}{D S:Nat}{ys vs ws:List IV}{rs:List RH}{unit:Int}
theorem J25 (m:Int):cNe (.tup [.int m,.bl true,.bl true,.bl false]) (.tup [.int m,.bl true,.bl true,.bl false]) h=.ok (.bl false) h:=by
 have e1:toD h 6 (.tup [.int m,.bl true,.bl true,.bl false])=some (.tuple [.int m,.bool true,.bool true,.bool false]):=rfl
 have q:PyData.canLay0 (.tuple [.int m,.bool true,.bool true,.bool false])=true:=by simp[PyData.canLay0,PyData.canLayAll0]
 have e3:Jic (.tup [.int m,.bl true,.bl true,.bl false]) (.tup [.int m,.bl true,.bl true,.bl false]) h=some true:=by
  unfold Jic
  rw[e1]
  dsimp only
  rw[if_pos ⟨q,q⟩,Jmx _ q]
 unfold cNe
 rw[show Jh0 (.tup [.int m,.bl true,.bl true,.bl false]) (.tup [.int m,.bl true,.bl true,.bl false])=none from rfl]
 dsimp only
 rw[e3]
 rfl
theorem J7j {a m B:Nat}{ns:List Int}{a1 a2 a3 a8:Option IV}{r:SRes}(hr:Jjg (k+9) [some (.rol (ns.map .int)),a1,a2,a3,some (.ref S),some (.ref D),some (.ref B),some (.int (a:Int)),a8] h=r)
  (q:Du h D vs rs unit) (b:Base h S ys rs unit) (w:Ans rs ws m) (gB:h[B]?=some (.lst (badL ws))) (ha:a<rs.length){N:ISt->IH->Prop}{R:IV->IH->Prop}
  (K:∀h' b8,Ex h h'->N [some (.rol (ns.map .int)),a1,a2,a3,some (.ref S),some (.ref D),some (.ref B),some (.int (a:Int)),b8] h'):WS r N R:=by
 subst hr
 have hb:=Jc
 rw[Jjg,Jkz,Jp2,Jnr]
 simp! [true_and]
 refine WR.mono (J7i (k:=k) q w ha) ?_
 rintro _ h1 ⟨x1,rfl⟩
 have gB:=x1.get gB
 obtain⟨zs,ez⟩:=Jmq ws
 by_cases lt:m<ws.length
 ·obtain⟨t,et⟩:=J0s w lt
  have e0:zs.isEmpty=false:=by
   cases zs with
   | nil=>rw[ez] at et;cases et
   | cons _ _=>rfl
  have nb:=Jm6 (h:=h1++[L3.IO.lst []]) (as:=zs) (i:=B) (j:=h1.length) (grow (ez▸gB)) Jy
  have ab:atI (badL ws) 0=some (.int (m:Int)):=by rw[et];exact Jk2
  rw[e0] at nb
  rw[if_pos lt]
  simp! [List.length_nil,Nat.zero_le,nb,Jf1,grow gB,ab,List.length_cons,J25]
  exact⟨by omega,K _ _ (x1.trans (.one _ _))⟩
 ·have em:m=ws.length:=by have:=w.lm;omega
  have en:=Jus w em
  have e0:zs.isEmpty=true:=by
   cases zs with
   | nil=>rfl
   | cons _ _=>rw[ez] at en;cases en
  have nb:=Jm6 (h:=h1++[L3.IO.lst []]) (as:=zs) (i:=B) (j:=h1.length) (grow (ez▸gB)) Jy
  rw[e0] at nb
  rw[if_neg lt]
  have x2:Ex h (h1++[L3.IO.lst []]):=x1.trans (.one _ _)
  simp! [List.length_nil,Nat.zero_le,nb]
  generalize h1++[L3.IO.lst []]=h2 at x2
  have ca:=Jqg (k:=k+8) (h:=h2) ns (6+(a:Int)) (by omega)
  have tn:Int.toNat 30=30:=rfl
  have t30:(10:Int)^30=1000000000000000000000000000000:=by decide
  simp! [ca,tn,t30,show(0:Int)<1000000000000000000000000000000 by decide]
  refine⟨by decide,?_⟩
  refine WR.mono (J2a (k:=k+1) (q.kp x2.kp) (b.kp x2.kp) (List.getElem?_eq_getElem ha) (w.all.mp em) (Int.emod_nonneg _ (by decide))) ?_
  rintro _ h3 ⟨rfl,x3⟩
  simp! [true_and]
  exact K _ _ (x2.trans x3)
theorem J7d {ns:List Int}{a1:Option IV}{l:ISt}{many:Nat}(hu1:1<=unit) (hu2:unit<=1000000000000000) (m1:1<=many) (m5:many<=5) (h0:h[0]?=some (.tab "longest_hold")) :
  ∃h' ys rs,Jx (iRg Jan (Ja (eVar 3) aNil)) 1 [3,0,2] (gNm 0) Jay (Jhc (k+2)) (some (.rol (ns.map .int))::a1::some (.int unit)::some (.int (many:Int))::l) h=.ok (.ref h.length) h'/\rs.length=many/\Base h' h.length ys rs unit:=by
 have hb:=Jc
 obtain⟨v,h',e,rfl,ys,gS,ly,kp,dS⟩:=@compE h h (iRg Jan (Ja (eVar 3) aNil)) (Jhc (k+2)) [3,0,2] (some (.rol (ns.map .int))::a1::some (.int unit)::some (.int (many:Int))::l) (rngI 0 (many:Int)) (λ _=>True)
  (λ _ y h'=>∃r q,F6 unit r/\r.1.len<=r.1.gap+1/\y=t5h r q/\q≠h.length/\h'[q]?=some (.lst (r.2.map tupH)))
  (by simp! [true_and];omega) (by rw[Jn];omega)
  (by
   rintro x y h4 h5 kb ⟨r,q,c1,c2,c3,c4,c5⟩
   exact⟨r,q,c1,c2,c3,c4,kb _ _ c4 c5⟩) (λ _ _=>trivial) (by
   intro x hx h2 kp lt
   have⟨n,hn,ex⟩:=List.mem_iff_getElem.mp hx
   rw[Jaq] at ex
   rw[<- ex]
   clear ex hx x
   have ca:=Jqg (k:=k+1) (h:=h2) ns (1+(0+(n:Int))) (by omega)
   simp only[List.map_cons,List.map_nil,List.getElem?_cons_succ,List.getElem?_cons_zero,Option.join_some]
   simp! [Jhc,ca]
   refine Jzp (k:=k) hu1 hu2 (by omega) (by omega) ?_
   intro h3 r q x3 f l0 lq gq
   exact⟨x3,r,q,f,l0,rfl,by omega,gq⟩)
 rw[Jn] at ly
 obtain⟨rs,R,P⟩:=J1d (h:=h') (unit:=unit) ys 0 λ y hy=>by
  obtain⟨i,hi,rfl⟩:=List.mem_iff_getElem.mp hy
  obtain⟨r,q,c1,c2,c3,_,c5⟩:=dS i _ _ (List.getElem?_eq_getElem (show i<(rngI 0 (many:Int)).length by rw[Jn];omega)) (List.getElem?_eq_getElem hi)
  exact⟨r,q,c1,c2,c3,c5⟩
 have rl:=R.len
 exact⟨h',ys,rs,e,by omega,gS,R,λ i r e=>by have:=P i r e;rwa [Nat.zero_add] at this,by omega,kp _ _ h0,hu1,hu2⟩
theorem J32 {ns:List Int}{x0:Int}{r:SRes}(hr:Jml (k+2) [some (.rol (ns.map .int)),some (.int x0),none,none,none,none,none,none,none] h=r) (h0:h[0]?=some (.tab "longest_hold")){N:ISt->IH->Prop}{R:IV->IH->Prop}
  (K:∀(h':IH) (unit:Int) (S:Nat) (ys:List IV) (rs:List RH),Base h' S ys rs unit->0<rs.length->WS (Jmm (k+2) [some (.rol (ns.map .int)),some (.int x0),some (.int unit),some (.int (rs.length:Int)),some (.ref S),none,none,none,none] h') N R):WS r N R:=by
 subst hr
 have hb:=Jc
 have l4:(Int.natAbs 4).log2<9000:=by decide
 have l8:(Int.natAbs 8).log2<9000:=by decide
 have tn:Int.toNat 15=15:=rfl
 have t15:(10:Int)^15=1000000000000000:=by decide
 rw[Jml]
 generalize hB:Jp9 (k+2)=B
 simp! [Jf1,l4,tn,t15,Jy,show(0:Int)<4 by decide,show(0:Int)<2 by decide,List.length_cons,List.length_nil]
 refine⟨by decide,by omega,?_⟩
 obtain⟨md,em,hm1,hm2⟩:∃x:Int,atI [IV.int 3,IV.int 1000000000000000] (x0%2)=some (.int x)/\0<x/\x<=1000000000000000:=by
  have:x0%2=0∨x0%2=1:=by omega
  rcases this with q|q<;>rw[q]
  ·exact⟨_,Jk2,by decide,by decide⟩
  ·exact⟨_,Jmj,by decide,by decide⟩
 refine⟨_,em,?_⟩
 simp! [true_and]
 refine⟨hm1,?_⟩
 have u0:=Int.emod_nonneg (x0/4) (b:=md) (by omega)
 have u1:=Int.emod_lt_of_pos (x0/4) hm1
 have hu1:1<=1+x0/4%md:=by omega
 have hu2:1+x0/4%md<=1000000000000000:=by omega
 generalize 1+x0/4%md=unit at hu1 hu2
 clear em hm1 hm2 u0 u1
 have h0:(h++[L3.IO.lst [IV.int 3,IV.int 1000000000000000]])[0]?=some (.tab "longest_hold"):=grow h0
 generalize h++[L3.IO.lst [IV.int 3,IV.int 1000000000000000]]=h1 at h0
 rw[<- hB,Jp9]
 generalize hB:Jqa (k+2)=B
 simp! [l8,show(0:Int)<8 by decide,show(0:Int)<5 by decide]
 obtain⟨many,e,m1,m5⟩:∃many:Nat,1+x0/8%5=(many:Int)/\1<=many/\many<=5:=⟨(1+x0/8%5).toNat,by omega,by omega,by omega⟩
 rw[e,<-hB,Jqa]
 generalize hB:Jmm (k+2)=B at K ⊢
 rw[Jkz,Jp2]
 have Z:=J7d (k:=k) (h:=h1) (ns:=ns) (a1:=some (.int x0)) (l:=[none,none,none,none,none]) hu1 hu2 m1 m5 h0
 generalize Jx _ _ _ _ _ _ _ _=rc at Z ⊢
 obtain⟨h2,ys,rs,rfl,rl,b⟩:=Z
 subst rl
 simp! [true_and]
 exact K _ _ _ _ _ b m1
theorem Jy8 (ns:List Int) (hl:ns.length<=63):∃h',Jp4 16 [.rol (ns.map IV.int)] [.tab "longest_hold"]=.ok (.bl true) h':=by
 suffices h:WR (Jp4 16 [.rol (ns.map IV.int)] [.tab "longest_hold"]) λ v _=>v=.bl true by
  obtain⟨v,h',e,rfl⟩:=h.eq
  exact⟨h',e⟩
 have hb:=Jc
 rw[J5i]
 generalize hB:Jmk 15=B
 simp only[Jl9]
 rw[<- hB,Jmk]
 generalize hB:Jml 15=B
 have ca:=Jqg (k:=14) (h:=[.tab "longest_hold"]) ns 0 (by decide)
 simp! [ca]
 generalize ns.getD (Int.toNat 0) 0=x0
 generalize hr:B _ _=r
 rw[<- hB] at hr
 refine J32 (k:=13) hr rfl ?_
 intro h1 unit S ys rs b pos
 have l5:=b.l
 rw[Jmm]
 generalize hB:Jqb (13+2)=B
 simp! [true_and]
 refine WR.mono (J00 (k:=9) (a:=0) (m:=0) b ⟨Int.le_refl _,λ r e=>?_⟩) ?_
 ·have:=(b.f 0 r e).1.g1
  have:=b.u1
  omega
 rintro _ h2 ⟨x2,D,vs,rfl,q⟩
 rw[Jm2] at q
 have b:=b.kp x2.kp
 obtain⟨ws,m,w⟩:=J0q q
 rw[<- hB,Jqb]
 generalize hB:Jqc (13+2)=B
 simp! [true_and]
 refine WR.mono (J11 (k:=8) q w) ?_
 rintro _ _ ⟨g,rfl,rfl⟩
 have x3:Ex h2 (h2++L3.IO.lst (badL ws)::g):=.cons _ _ _
 have gB:(h2++L3.IO.lst (badL ws)::g)[h2.length]?=some (.lst (badL ws)):=Jm
 generalize h2.length=B' at gB
 generalize h2++L3.IO.lst (badL ws)::g=h3 at x3 gB
 have q:=q.kp x3.kp
 have b:=b.kp x3.kp
 rw[<- hB,Jqc]
 generalize hB:Jqd (13+2)=B
 generalize hL:Jjg (13+2)=L
 simp! [true_and]
 refine⟨by omega,?_⟩
 refine Jbx (λ n σ h'=>Ex h3 h'/\∃b7 b8,σ=[some (.rol (ns.map .int)),some (.int x0),some (.int unit),some (.int (rs.length:Int)),some (.ref S),some (.ref D),some (.ref B'),b7,b8]) (λ _ _ _ _=>trivial) ?_ ?_ ⟨.refl _,none,none,rfl⟩
 ·rintro n hn _ h4 ⟨x4,b7,b8,rfl⟩
  rw[Jn] at hn
  rw[Jaq,show(0:Int)+(n:Int)=n by omega,Jh2]
  simp only[List.set_cons_succ,List.set_cons_zero]
  generalize hr:L _ _=r
  rw[<- hL] at hr
  refine J7j (k:=6) hr (q.kp x4.kp) (b.kp x4.kp) w (x4.get gB) (by omega) ?_
  intro h5 c8 x5
  exact⟨x4.trans x5,_,_,rfl⟩
 ·rintro _ h4 ⟨x4,b7,b8,rfl⟩
  rw[<- hB,Jqd]
  simp! [true_and]
  refine WR.mono (J11 (k:=8) (q.kp x4.kp) w) ?_
  rintro _ _ ⟨g',rfl,rfl⟩
  obtain⟨zs,ez⟩:=Jmq ws
  have e1:(h4++L3.IO.lst (badL ws)::g')[h4.length]?=some (.lst (zs.map .int)):=by rw[<- ez];exact Jm
  have e2:(h4++L3.IO.lst (badL ws)::g')[B']?=some (.lst (zs.map .int)):=by rw[<- ez];exact grow (x4.get gB)
  rw[J5e (h:=h4++L3.IO.lst (badL ws)::g') (v:=.ref h4.length) (u:=.ref B') rfl (Jmv e1) (Jmv e2) (by rw[PyData.canLay0];exact Jux zs)]
  rfl
end
end LW
end
namespace LW
open PySem L2 L3 L4
section
variable {K:W.Frag}{h:Heap}{mg:Str->Option Value}{a:Addr}{oc kV dc pm cd ct:Value}{od an:Option Addr}{sl:Array (Option Value)}
theorem Jko:FnB "__init__" "NotKept.__init__" Ja0:=⟨scOk.of (by decide +kernel),rfl,rfl,λ _ _ _ _ _ _=>len2 (λ _ _=>rfl)⟩
theorem Jq2:FnB "is_whole" "is_whole" Jfm:=⟨scOk.of (by decide +kernel),rfl,rfl,λ _ _ _ _ _ _=>len1 (λ _=>rfl)⟩
theorem Ji9:FnB "is_whole_from" "is_whole_from" Jal:=⟨scOk.of (by decide +kernel),rfl,rfl,λ _ _ _ _ _ _=>len2 (λ _ _=>rfl)⟩
theorem Jpu:FnB "rounds_up" "rounds_up" Jdt:=⟨scOk.of (by decide +kernel),rfl,rfl,λ _ _ _ _ _ _=>len2 (λ _ _=>rfl)⟩
theorem Jt6:FnB "is_name" "is_name" Jhm:=⟨scOk.of (by decide +kernel),rfl,rfl,λ _ _ _ _ _ _=>len1 (λ _=>rfl)⟩
theorem Jt5:FnB "is_hold" "is_hold" Jhl:=⟨scOk.of (by decide +kernel),rfl,rfl,λ _ _ _ _ _ _=>len2 (λ _ _=>rfl)⟩
theorem Jpr:FnB "lie_apart" "lie_apart" Jdq:=⟨scOk.of (by decide +kernel),rfl,rfl,λ _ _ _ _ _ _=>len2 (λ _ _=>rfl)⟩
theorem Jt8:FnB "lies_in" "lies_in" Jho:=⟨scOk.of (by decide +kernel),rfl,rfl,λ _ _ _ _ _ _=>len2 (λ _ _=>rfl)⟩
theorem Jlf:FnB "go_together" "go_together" Jbi:=⟨scOk.of (by decide +kernel),rfl,rfl,λ _ _ _ _ _ _=>len2 (λ _ _=>rfl)⟩
theorem Jhz:FnB "all_go_together" "all_go_together" Jaa:=⟨scOk.of (by decide +kernel),rfl,rfl,λ _ _ _ _ _ _=>len1 (λ _=>rfl)⟩
theorem Jps:FnB "own_holds" "own_holds" Jdr:=⟨scOk.of (by decide +kernel),rfl,rfl,λ _ _ _ _ _ _=>len2 (λ _ _=>rfl)⟩
theorem Jt9:FnB "own_due" "own_due" Jhp:=⟨scOk.of (by decide +kernel),rfl,rfl,λ _ _ _ _ _ _=>len2 (λ _ _=>rfl)⟩
theorem Jpn:FnScope Jp.N Jp.ps (Jj Jp.st):=scOk.of (by decide +kernel)
theorem Joz {C:Addr}{T:Addr}{ox:Value}{oy:Option Addr}{nx:Nat}{sx:Array (Option Value)}{tk1:Tok}(ha:W.findIn K (.ref C) "__init__"=some (some (.ref a))) (hi:W.isFn K (.ref a)=true) (hl:K.lookup a=some ⟨oc,od,.func (W.fnOf "__init__" "Work.__init__" (Jam Jp.st) (J4 Jp.st) (Jj Jp.st) (.ref T) kV dc pm an cd ct),sl⟩) (hc:W.codeIn K cd "Work.__init__"=true) (hk:W.keepIn K (.ref a)=true) (hd:K.lookup T=some ⟨ox,oy,.seq #[.none,.int 0 tk1,.none] nx,sx⟩) (hm:W.makesIn K C=true) (hq:W.keepIn K (.ref C)=true):∃fa fd,Mk K C fa/\DefOk K "__init__" Jp fa fd :=
 ⟨a,_,⟨hm,ha,hi,hq⟩,⟨⟨_,⟨oc,od,kV,dc,pm,an,cd,ct,sl,rfl,hl,hc⟩,hk⟩,Jpn,(by intro j hj;rcases upto3 j (show j<=3 from hj) with rfl|rfl|rfl|rfl;exact⟨[.none,.int 0 tk1,.none],λ s us Y hl=>len4 (P:=λ us=>BindsTo s _ ⟨us,[]⟩ (Jp.ps.zip (us++[.none,.int 0 tk1,.none]))) (λ _ _ _ _=>.of_defaults rfl (Y T _ hd) rfl rfl rfl) us (show us.length=4 by rw[List.length_append] at hl;exact Nat.add_right_cancel (m:=3) hl),rfl,[V.non,V.int 0,V.non],.cons rfl (.cons ⟨_,rfl⟩ (.cons rfl (.nil))),λ _ _=>⟨_,_,rfl,rfl,⟨_,_,rfl,rfl,⟨_,_,rfl,rfl,rfl⟩⟩⟩⟩;exact⟨[.int 0 tk1,.none],λ s us Y hl=>len5 (P:=λ us=>BindsTo s _ ⟨us,[]⟩ (Jp.ps.zip (us++[.int 0 tk1,.none]))) (λ _ _ _ _ _=>.of_defaults rfl (Y T _ hd) rfl rfl rfl) us (show us.length=5 by rw[List.length_append] at hl;exact Nat.add_right_cancel (m:=2) hl),rfl,[V.int 0,V.non],.cons ⟨_,rfl⟩ (.cons rfl (.nil)),λ _ _=>⟨_,_,rfl,rfl,⟨_,_,rfl,rfl,rfl⟩⟩⟩;exact⟨[.none],λ s us Y hl=>len6 (P:=λ us=>BindsTo s _ ⟨us,[]⟩ (Jp.ps.zip (us++[.none]))) (λ _ _ _ _ _ _=>.of_defaults rfl (Y T _ hd) rfl rfl rfl) us (show us.length=6 by rw[List.length_append] at hl;exact Nat.add_right_cancel (m:=1) hl),rfl,[V.non],.cons rfl (.nil),λ _ _=>⟨_,_,rfl,rfl,rfl⟩⟩;exact⟨[],λ s us Y hl=>len7 (P:=λ us=>BindsTo s _ ⟨us,[]⟩ (Jp.ps.zip (us++[]))) (λ _ _ _ _ _ _ _=>.of_defaults rfl (Y T _ hd) rfl rfl rfl) us (show us.length=7 by rw[List.length_append] at hl;exact Nat.add_right_cancel (m:=0) hl),rfl,[],.nil,λ _ _=>rfl⟩)⟩⟩
theorem Jpm:FnB "held" "Work.held" Jdm:=⟨scOk.of (by decide +kernel),rfl,rfl,λ _ _ _ _ _ _=>len1 (λ _=>rfl)⟩
theorem Jq0:FnB "ceilings" "ceilings" Jfk:=⟨scOk.of (by decide +kernel),rfl,rfl,λ _ _ _ _ _ _=>len1 (λ _=>rfl)⟩
theorem Jnj:FnB "turns_held" "turns_held" Jb6:=⟨scOk.of (by decide +kernel),rfl,rfl,λ _ _ _ _ _ _=>len1 (λ _=>rfl)⟩
theorem Jkp:FnB "longest_hold" "longest_hold" Ja1:=⟨scOk.of (by decide +kernel),rfl,rfl,λ _ _ _ _ _ _=>len2 (λ _ _=>rfl)⟩
theorem Jt3:FnB "hold_up" "hold_up" Jhj:=⟨scOk.of (by decide +kernel),rfl,rfl,λ _ _ _ _ _ _=>len2 (λ _ _=>rfl)⟩
theorem Jnh:FnB "comings_in" "comings_in" Jb4:=⟨scOk.of (by decide +kernel),rfl,rfl,λ _ _ _ _ _ _=>len2 (λ _ _=>rfl)⟩
theorem J3v:FnB "load" "load" Jrx:=⟨scOk.of (by decide +kernel),rfl,rfl,λ _ _ _ _ _ _=>len3 (λ _ _ _=>rfl)⟩
theorem Jt4:FnB "in_time" "in_time" Jhk:=⟨scOk.of (by decide +kernel),rfl,rfl,λ _ _ _ _ _ _=>len2 (λ _ _=>rfl)⟩
theorem Jwr:FnB "answer" "answer" Jjd:=⟨scOk.of (by decide +kernel),rfl,rfl,λ _ _ _ _ _ _=>len2 (λ _ _=>rfl)⟩
theorem Jzx:FnB "paper" "paper" Jmt:=⟨scOk.of (by decide +kernel),rfl,rfl,λ _ _ _ _ _ _=>len1 (λ _=>rfl)⟩
theorem Jij:FnB "roomiest_lines" "roomiest_lines" Jae:=⟨scOk.of (by decide +kernel),rfl,rfl,λ _ _ _ _ _ _=>len2 (λ _ _=>rfl)⟩
theorem J3w:FnB "room" "room" Jry:=⟨scOk.of (by decide +kernel),rfl,rfl,λ _ _ _ _ _ _=>len3 (λ _ _ _=>rfl)⟩
theorem Jzy:FnB "slack" "slack" Jmu:=⟨scOk.of (by decide +kernel),rfl,rfl,λ _ _ _ _ _ _=>len2 (λ _ _=>rfl)⟩
theorem Jpt:FnB "own_works" "own_works" Jds:=⟨scOk.of (by decide +kernel),rfl,rfl,λ _ _ _ _ _ _=>len1 (λ _=>rfl)⟩
theorem Jq1:FnB "crowd_of" "crowd_of" Jfl:=⟨scOk.of (by decide +kernel),rfl,rfl,λ _ _ _ _ _ _=>len1 (λ _=>rfl)⟩
theorem Jpj:FnB "__init__" "Duty.__init__" Jdj:=⟨scOk.of (by decide +kernel),rfl,rfl,λ _ _ _ _ _ _=>len2 (λ _ _=>rfl)⟩
theorem Jpk:FnB "size" "Duty.size" Jdk:=⟨scOk.of (by decide +kernel),rfl,rfl,λ _ _ _ _ _ _=>len1 (λ _=>rfl)⟩
theorem Jpl:FnB "work" "Duty.work" Jdl:=⟨scOk.of (by decide +kernel),rfl,rfl,λ _ _ _ _ _ _=>len2 (λ _ _=>rfl)⟩
theorem Jng:FnB "crowd" "Duty.crowd" Jex:=⟨scOk.of (by decide +kernel),rfl,rfl,λ _ _ _ _ _ _=>len1 (λ _=>rfl)⟩
theorem Jle:FnB "longer" "Duty.longer" Jbh:=⟨scOk.of (by decide +kernel),rfl,rfl,λ _ _ _ _ _ _=>len3 (λ _ _ _=>rfl)⟩
theorem Jlg:FnB "_law_cell_at" "_law_cell_at" Jbj:=⟨scOk.of (by decide +kernel),rfl,rfl,λ _ _ _ _ _ _=>len2 (λ _ _=>rfl)⟩
theorem Jni:FnB "_law_stream" "_law_stream" Jb5:=⟨scOk.of (by decide +kernel),rfl,rfl,λ _ _ _ _ _ _=>len2 (λ _ _=>rfl)⟩
theorem Jpq:FnB "_law_plain" "_law_plain" Jdp:=⟨scOk.of (by decide +kernel),rfl,rfl,λ _ _ _ _ _ _=>len3 (λ _ _ _=>rfl)⟩
theorem Jq3:FnB "_law_duty" "_law_duty" Jfn:=⟨scOk.of (by decide +kernel),rfl,rfl,λ _ _ _ _ _ _=>len3 (λ _ _ _=>rfl)⟩
theorem Jt7:FnB "_law_bad" "_law_bad" Jhn:=⟨scOk.of (by decide +kernel),rfl,rfl,λ _ _ _ _ _ _=>len1 (λ _=>rfl)⟩
theorem Jq4:FnB "_law_told" "_law_told" Jfo:=⟨scOk.of (by decide +kernel),rfl,rfl,λ _ _ _ _ _ _=>len2 (λ _ _=>rfl)⟩
theorem Jpp:FnB "_law_grown" "_law_grown" Jdo:=⟨scOk.of (by decide +kernel),rfl,rfl,λ _ _ _ _ _ _=>len5 (λ _ _ _ _ _=>rfl)⟩
theorem Jpo:FnB "_law_exact" "_law_exact" Jdn:=⟨scOk.of (by decide +kernel),rfl,rfl,λ _ _ _ _ _ _=>len5 (λ _ _ _ _ _=>rfl)⟩
theorem J68:FnScope Jj1.N Jj1.ps (Jj Jj1.st):=scOk.of (by decide +kernel)
theorem J6g (X:K.In h) (G:h.Ns mainGlobals mg) (ha:W.nsIn K mainGlobals "law"=some (some (.ref a))) (hl:K.lookup a=some ⟨oc,od,.func (W.fnOf "law" "law" (Jam Jj1.st) (J4 Jj1.st) (Jj Jj1.st) .none kV dc pm an cd ct),sl⟩) (hc:W.codeIn K cd "law"=true) (hk:W.keepIn K (.ref a)=true):∃fa fd,mg "law"=some (.ref fa)/\DefOk K "law" Jj1 fa fd/\∀(s:Shared) (v:Value),BindsTo s fd ⟨[v],[]⟩ [("_law_script",v)] :=
 ⟨a,_,W.mg_of X G ha,J0x (d:=Jj1) hl hc hk J68 rfl (len1 (λ _=>rfl)),λ s v=>.of_eq rfl⟩
theorem Jr9 {C:Addr}(pg:W.plainGet K C Str.empty=true) (hd:W.hasDictIn K C=true) (po:W.plainOver K C=true) (sa:W.findIn K (.ref C) "__setattr__"=some (some (.builtin "object.__setattr__"))) (h1:W.findIn K (.ref C) "__class__"=some (some (.builtin "object.__class__"))) (h2:W.specialIn K (.builtin "object.__class__") "__get__"=some (some (.builtin "getset_descriptor.__get__"))) (h3:W.takesIn K (.builtin "object.__class__")=some true) (h4:W.mroIn K C (.type "object")=some true) (n0:W.findIn K (.ref C) "append"=some none) (n1:W.findIn K (.ref C) "due"=some none) (n2:W.findIn K (.ref C) "extend"=some none) (n3:W.findIn K (.ref C) "gap"=some none) (n4:W.findIn K (.ref C) "hold_tuples"=some none) (n5:W.findIn K (.ref C) "late"=some none) (n6:W.findIn K (.ref C) "length"=some none) (n7:W.findIn K (.ref C) "name"=some none) (n8:W.findIn K (.ref C) "setdefault"=some none) (n9:W.findIn K (.ref C) "stuck"=some none) (n10:W.findIn K (.ref C) "works"=some none):ClsI K C/\All (λ f=>Jgk K C f) T.flds :=
 ⟨⟨⟨pg,hd,po,sa⟩,h1,h2,h3,h4⟩,.cons n0 (.cons n1 (.cons n2 (.cons n3 (.cons n4 (.cons n5 (.cons n6 (.cons n7 (.cons n8 (.cons n9 (.cons n10 (.nil)))))))))))⟩
theorem J6f {C:Addr}(ga:W.findIn K (.ref C) "__getattribute__"=some (some (.builtin "BaseException.__getattribute__"))) (mb:W.mroIn K C (.type "BaseException")=some true) (gn:W.findIn K (.ref C) "__getattr__"=some none) (ca:W.findIn K (.ref C) "__class__"=some (some (.builtin "object.__class__"))) (mo:W.mroIn K C (.type "object")=some true) (hd:W.hasDictIn K C=true):ExI K C:=⟨ga,mb,gn,ca,mo,hd⟩
theorem fin {prog:Program}{w:World}{fa:Addr}(X:K.In h) (G:h.Ns mainGlobals mg) (hfa:mg "law"=some (.ref fa)){C_Work:Addr}{C_Duty:Addr}{C_NotKept:Addr}{C_DutyError:Addr}{C_NoRanks:Addr}{tk_MOST_LETTERS:Tok}{tk_MOST_HOLDS:Tok}{tk_THING:Tok}{tk_START:Tok}{tk_END:Tok}{tk_MOST_WORKS:Tok}{tk_MOST_CROWD:Tok}
  (aX_NotKept:W.nsIn K mainGlobals "NotKept"=some (some (.ref C_NotKept)))
  (aX_DutyError:W.nsIn K mainGlobals "DutyError"=some (some (.ref C_DutyError)))
  (aX_NoRanks:W.nsIn K mainGlobals "NoRanks"=some (some (.ref C_NoRanks)))
  (ei_NotKept:ExI K C_NotKept)
  (kk_NotKept:kits K (.ref C_NotKept) [(C_NotKept,true)]=true)
  (kk_DutyError:kits K (.ref C_DutyError) [(C_NotKept,true)]=true)
  (zx_ValueError:W.nsIn K mainGlobals "ValueError"=some none)
  (kk_ValueError:kits K (.type "ValueError") [(C_NotKept,true)]=true)
  (kk_NoRanks:kits K (.ref C_NoRanks) [(C_NotKept,false)]=true)
  (xn_NotKept:∃fa fd,Jea K C_NotKept fa=true/\W.keepIn K (.ref C_NotKept)=true/\DefOk K "__init__" Ja0 fa fd)
  (sx_NotKept_at:StoX K C_NotKept "at")
  (nx_NotKept_at:W.findIn K (.ref C_NotKept) "at"=some none)
  (bx_DutyError:BasX K C_DutyError)
  (aC_Work:W.nsIn K mainGlobals "Work"=some (some (.ref C_Work)))
  (aC_Duty:W.nsIn K mainGlobals "Duty"=some (some (.ref C_Duty)))
  (f_is_whole:∃fa fd,mg "is_whole"=some (.ref fa)/\DefOk K "is_whole" Jfm fa fd)
  (f_is_whole_from:∃fa fd,mg "is_whole_from"=some (.ref fa)/\DefOk K "is_whole_from" Jal fa fd)
  (f_rounds_up:∃fa fd,mg "rounds_up"=some (.ref fa)/\DefOk K "rounds_up" Jdt fa fd)
  (f_is_name:∃fa fd,mg "is_name"=some (.ref fa)/\DefOk K "is_name" Jhm fa fd)
  (f_is_hold:∃fa fd,mg "is_hold"=some (.ref fa)/\DefOk K "is_hold" Jhl fa fd)
  (f_lie_apart:∃fa fd,mg "lie_apart"=some (.ref fa)/\DefOk K "lie_apart" Jdq fa fd)
  (f_lies_in:∃fa fd,mg "lies_in"=some (.ref fa)/\DefOk K "lies_in" Jho fa fd)
  (f_go_together:∃fa fd,mg "go_together"=some (.ref fa)/\DefOk K "go_together" Jbi fa fd)
  (f_all_go_together:∃fa fd,mg "all_go_together"=some (.ref fa)/\DefOk K "all_go_together" Jaa fa fd)
  (f_own_holds:∃fa fd,mg "own_holds"=some (.ref fa)/\DefOk K "own_holds" Jdr fa fd)
  (f_own_due:∃fa fd,mg "own_due"=some (.ref fa)/\DefOk K "own_due" Jhp fa fd)
  (f_ceilings:∃fa fd,mg "ceilings"=some (.ref fa)/\DefOk K "ceilings" Jfk fa fd)
  (f_turns_held:∃fa fd,mg "turns_held"=some (.ref fa)/\DefOk K "turns_held" Jb6 fa fd)
  (f_longest_hold:∃fa fd,mg "longest_hold"=some (.ref fa)/\DefOk K "longest_hold" Ja1 fa fd)
  (f_hold_up:∃fa fd,mg "hold_up"=some (.ref fa)/\DefOk K "hold_up" Jhj fa fd)
  (f_comings_in:∃fa fd,mg "comings_in"=some (.ref fa)/\DefOk K "comings_in" Jb4 fa fd)
  (f_load:∃fa fd,mg "load"=some (.ref fa)/\DefOk K "load" Jrx fa fd)
  (f_in_time:∃fa fd,mg "in_time"=some (.ref fa)/\DefOk K "in_time" Jhk fa fd)
  (f_answer:∃fa fd,mg "answer"=some (.ref fa)/\DefOk K "answer" Jjd fa fd)
  (f_paper:∃fa fd,mg "paper"=some (.ref fa)/\DefOk K "paper" Jmt fa fd)
  (f_roomiest_lines:∃fa fd,mg "roomiest_lines"=some (.ref fa)/\DefOk K "roomiest_lines" Jae fa fd)
  (f_room:∃fa fd,mg "room"=some (.ref fa)/\DefOk K "room" Jry fa fd)
  (f_slack:∃fa fd,mg "slack"=some (.ref fa)/\DefOk K "slack" Jmu fa fd)
  (f_own_works:∃fa fd,mg "own_works"=some (.ref fa)/\DefOk K "own_works" Jds fa fd)
  (f_crowd_of:∃fa fd,mg "crowd_of"=some (.ref fa)/\DefOk K "crowd_of" Jfl fa fd)
  (f_law_cell_at:∃fa fd,mg "_law_cell_at"=some (.ref fa)/\DefOk K "_law_cell_at" Jbj fa fd)
  (f_law_stream:∃fa fd,mg "_law_stream"=some (.ref fa)/\DefOk K "_law_stream" Jb5 fa fd)
  (f_law_plain:∃fa fd,mg "_law_plain"=some (.ref fa)/\DefOk K "_law_plain" Jdp fa fd)
  (f_law_duty:∃fa fd,mg "_law_duty"=some (.ref fa)/\DefOk K "_law_duty" Jfn fa fd)
  (f_law_bad:∃fa fd,mg "_law_bad"=some (.ref fa)/\DefOk K "_law_bad" Jhn fa fd)
  (f_law_told:∃fa fd,mg "_law_told"=some (.ref fa)/\DefOk K "_law_told" Jfo fa fd)
  (f_law_grown:∃fa fd,mg "_law_grown"=some (.ref fa)/\DefOk K "_law_grown" Jdo fa fd)
  (f_law_exact:∃fa fd,mg "_law_exact"=some (.ref fa)/\DefOk K "_law_exact" Jdn fa fd)
  (f_law:∃fa fd,mg "law"=some (.ref fa)/\DefOk K "law" Jj1 fa fd/\∀(s:Shared) (v:Value),BindsTo s fd ⟨[v],[]⟩ [("_law_script",v)])
  (i_Work:∃fa fd,Mk K C_Work fa/\DefOk K "__init__" Jp fa fd)
  (m_Work_held:∃fa fd,Meth K C_Work "held" fa/\DefOk K "held" Jdm fa fd)
  (c_Work:ClsI K C_Work/\All (λ f=>Jgk K C_Work f) T.flds)
  (i_Duty:∃fa fd,Mk K C_Duty fa/\DefOk K "__init__" Jdj fa fd)
  (m_Duty_size:∃fa fd,Meth K C_Duty "size" fa/\DefOk K "size" Jdk fa fd)
  (m_Duty_work:∃fa fd,Meth K C_Duty "work" fa/\DefOk K "work" Jdl fa fd)
  (m_Duty_crowd:∃fa fd,Meth K C_Duty "crowd" fa/\DefOk K "crowd" Jex fa fd)
  (m_Duty_longer:∃fa fd,Meth K C_Duty "longer" fa/\DefOk K "longer" Jbh fa fd)
  (c_Duty:ClsI K C_Duty/\All (λ f=>Jgk K C_Duty f) T.flds)
  (g_MOST_LETTERS:W.nsIn K mainGlobals "MOST_LETTERS"=some (some (.int 8 tk_MOST_LETTERS)))
  (g_MOST_HOLDS:W.nsIn K mainGlobals "MOST_HOLDS"=some (some (.int 6 tk_MOST_HOLDS)))
  (g_THING:W.nsIn K mainGlobals "THING"=some (some (.int 0 tk_THING)))
  (g_START:W.nsIn K mainGlobals "START"=some (some (.int 1 tk_START)))
  (g_END:W.nsIn K mainGlobals "END"=some (some (.int 2 tk_END)))
  (g_MOST_WORKS:W.nsIn K mainGlobals "MOST_WORKS"=some (some (.int 12 tk_MOST_WORKS)))
  (g_MOST_CROWD:W.nsIn K mainGlobals "MOST_CROWD"=some (some (.int 80 tk_MOST_CROWD)))
  (k_Work_NoneType:W.kitOne K (.type "NoneType") (.ref C_Work)=some false)
  (k_Work_bool:W.kitOne K (.type "bool") (.ref C_Work)=some false)
  (k_Work_int:W.kitOne K (.type "int") (.ref C_Work)=some false)
  (k_Work_str:W.kitOne K (.type "str") (.ref C_Work)=some false)
  (k_Work_list:W.kitOne K (.type "list") (.ref C_Work)=some false)
  (k_Work_tuple:W.kitOne K (.type "tuple") (.ref C_Work)=some false)
  (k_Work_dict:W.kitOne K (.type "dict") (.ref C_Work)=some false)
  (k_Work_Work:W.kitOne K (.ref C_Work) (.ref C_Work)=some (memS "Work" ["Work"]))
  (k_Work_Duty:W.kitOne K (.ref C_Duty) (.ref C_Work)=some (memS "Duty" ["Work"]))
  (z_all:W.nsIn K mainGlobals "all"=some none)
  (z_bool:W.nsIn K mainGlobals "bool"=some none)
  (z_enumerate:W.nsIn K mainGlobals "enumerate"=some none)
  (z_int:W.nsIn K mainGlobals "int"=some none)
  (z_isinstance:W.nsIn K mainGlobals "isinstance"=some none)
  (z_len:W.nsIn K mainGlobals "len"=some none)
  (z_list:W.nsIn K mainGlobals "list"=some none)
  (z_max:W.nsIn K mainGlobals "max"=some none)
  (z_min:W.nsIn K mainGlobals "min"=some none)
  (z_range:W.nsIn K mainGlobals "range"=some none)
  (z_set:W.nsIn K mainGlobals "set"=some none)
  (z_str:W.nsIn K mainGlobals "str"=some none)
  (z_sum:W.nsIn K mainGlobals "sum"=some none)
  (z_tuple:W.nsIn K mainGlobals "tuple"=some none)
  : ∃fd:FuncData,(∀(s:Shared) (v:Value),BindsTo s fd ⟨[v],[]⟩ [("_law_script",v)])/\∀base:Heap,K.In base->base.Ns mainGlobals mg->Jjq mg base->FnOk prog w K mg base (CXI prog w) 64 fa fd ["_law_script"] (Jub K "_law_script" (Jp4 16)):=by
 obtain⟨fa',fd,hm,ok,hb⟩:=f_law
 have e:=hfa.symm.trans hm
 cases e
 have XA:All (λ p:Str×Addr=>W.nsIn K mainGlobals p.1=some (some (.ref p.2))/\ExI K p.2) [("NotKept",C_NotKept)]:=.cons (⟨aX_NotKept,ei_NotKept⟩) (.nil)
 have O:TabOk (ceOf [("Work",C_Work),("Duty",C_Duty)]) T K mg:=J7h _
  (.cons (f_is_whole) (.cons (f_is_whole_from) (.cons (f_rounds_up) (.cons (f_is_name) (.cons (f_is_hold) (.cons (f_lie_apart) (.cons (f_lies_in) (.cons (f_go_together) (.cons (f_all_go_together) (.cons (f_own_holds) (.cons (f_own_due) (.cons (f_ceilings) (.cons (f_turns_held) (.cons (f_longest_hold) (.cons (f_hold_up) (.cons (f_comings_in) (.cons (f_load) (.cons (f_in_time) (.cons (f_answer) (.cons (f_paper) (.cons (f_roomiest_lines) (.cons (f_room) (.cons (f_slack) (.cons (f_own_works) (.cons (f_crowd_of) (.cons (f_law_cell_at) (.cons (f_law_stream) (.cons (f_law_plain) (.cons (f_law_duty) (.cons (f_law_bad) (.cons (f_law_told) (.cons (f_law_grown) (.cons (f_law_exact) (.cons (⟨_,_,hm,ok⟩) (.nil)))))))))))))))))))))))))))))))))))
  (.cons ((let ⟨fa,fd,p,q⟩:=i_Work;⟨C_Work,fa,fd,W.mg_of X G aC_Work,by kernel_rfl,p,q⟩)) (.cons ((let ⟨fa,fd,p,q⟩:=i_Duty;⟨C_Duty,fa,fd,W.mg_of X G aC_Duty,by kernel_rfl,p,q⟩)) (.nil)))
  (.cons (⟨C_Work,by kernel_rfl,.cons (m_Work_held) (.nil)⟩) (.cons (⟨C_Duty,by kernel_rfl,.cons (m_Duty_size) (.cons (m_Duty_work) (.cons (m_Duty_crowd) (.cons (m_Duty_longer) (.nil))))⟩) (.nil)))
  (.cons (⟨_,.int 8,W.mg_of X G g_MOST_LETTERS,⟨tk_MOST_LETTERS,rfl⟩,λ _ _=>rfl⟩) (.cons (⟨_,.int 6,W.mg_of X G g_MOST_HOLDS,⟨tk_MOST_HOLDS,rfl⟩,λ _ _=>rfl⟩) (.cons (⟨_,.int 0,W.mg_of X G g_THING,⟨tk_THING,rfl⟩,λ _ _=>rfl⟩) (.cons (⟨_,.int 1,W.mg_of X G g_START,⟨tk_START,rfl⟩,λ _ _=>rfl⟩) (.cons (⟨_,.int 2,W.mg_of X G g_END,⟨tk_END,rfl⟩,λ _ _=>rfl⟩) (.cons (⟨_,.int 12,W.mg_of X G g_MOST_WORKS,⟨tk_MOST_WORKS,rfl⟩,λ _ _=>rfl⟩) (.cons (⟨_,.int 80,W.mg_of X G g_MOST_CROWD,⟨tk_MOST_CROWD,rfl⟩,λ _ _=>rfl⟩) (.nil))))))))
  (.cons (c_Work) (.cons (c_Duty) (.nil)))
  (.cons (⟨C_Work,W.mg_of X G aC_Work,k_Work_NoneType,k_Work_bool,k_Work_int,k_Work_str,k_Work_list,k_Work_tuple,k_Work_dict,.cons (k_Work_Work) (.cons (k_Work_Duty) (.nil))⟩) (.nil))
  (.cons (W.mg_none_of X G z_all) (.cons (W.mg_none_of X G z_bool) (.cons (W.mg_none_of X G z_enumerate) (.cons (W.mg_none_of X G z_int) (.cons (W.mg_none_of X G z_isinstance) (.cons (W.mg_none_of X G z_len) (.cons (W.mg_none_of X G z_list) (.cons (W.mg_none_of X G z_max) (.cons (W.mg_none_of X G z_min) (.cons (W.mg_none_of X G z_range) (.cons (W.mg_none_of X G z_set) (.cons (W.mg_none_of X G z_str) (.cons (W.mg_none_of X G z_sum) (.cons (W.mg_none_of X G z_tuple) (.nil)))))))))))))))
  (.nil)
  (.cons (⟨(.ref C_NotKept),.inl (W.mg_of X G aX_NotKept),Jx5 (bs:=[true]) XA rfl kk_NotKept⟩) (.cons (⟨(.ref C_DutyError),.inl (W.mg_of X G aX_DutyError),Jx5 (bs:=[true]) XA rfl kk_DutyError⟩) (.cons (⟨(.type "ValueError"),.inr ⟨W.mg_none_of X G zx_ValueError,rfl⟩,Jx5 (bs:=[true]) XA rfl kk_ValueError⟩) (.cons (⟨(.ref C_NoRanks),.inl (W.mg_of X G aX_NoRanks),Jx5 (bs:=[false]) XA rfl kk_NoRanks⟩) (.nil)))))
  (xms:=.cons ((let ⟨fa,fd,p,q,r⟩:=xn_NotKept;⟨C_NotKept,fa,fd,W.mg_of X G aX_NotKept,aX_NotKept,p,q,J5f p,r⟩)) (.nil))
  (xfs:=.cons (.cons (⟨C_NotKept,aX_NotKept,sx_NotKept_at,ei_NotKept,nx_NotKept_at⟩) (.nil)) (.nil))
  (xbs:=.cons (⟨C_DutyError,W.mg_of X G aX_DutyError,bx_DutyError⟩) (.nil))
 exact⟨fd,hb,λ base _ _ B=>J2x O (λ _=>B) 16 rfl ok⟩
end
end LW
open PySem L2
theorem LW.walk {l:W.OpenLaw}{q:Program}{loose:List Str}{XP:(Str->Option Value)->Heap->Prop}{YP:World->Heap->Prop}{d:DefRec}{K:Params->W.Frag}{ts:List Addr}(hn:l.most=some 63) (hdf:d.params.defaults=[])
  (hY:∀(w:World) (h:Heap),YP w h->(K w.params).In h/\∀p∈ts,h.get? p=some (W.tabObj #[])) (hc:∀w:World,L4.Jca (K w.params) ["longest_hold"] ts=true)
  (F:∀(w:World) (mg:Str->Option Value) (fa:Addr) (h:Heap),(K w.params).In h->h.Ns mainGlobals mg->mg d.name=some (.ref fa) ->
   ∃fd:FuncData,(∀(s:Shared) (u:Value),BindsTo s fd ⟨[u],[]⟩ [("_law_script",u)])/\∀base:Heap,(K w.params).In base->base.Ns mainGlobals mg->L3.Jjq mg base->FnOk l.prog w (K w.params) mg base (L3.CXI l.prog w) 64 fa fd ["_law_script"] (L3.Jub (K w.params) "_law_script" (LW.Jp4 16))) :
  W.WalkO q loose XP YP l.row.toRowW d [] (λ f vs=>PySem.call f vs) :=
 L4.J0d (n:=63) (k:=64) (x:="_law_script") (f:=LW.Jp4 16) (qs:=["longest_hold"]) (ts:=ts) hn (by decide) hdf ⟨rfl,by decide,by decide⟩ hY hc F λ ns hl=>LW.Jy8 ns hl
open PySem PySem.W PyProof.Rows
structure PySem.W.Fast:Prop where (tw5258413873241689987 tw5447965902927778509 tw9262707340955571594 tw16777937638890663809 tw4498308429160954514 tw9798051760152321065 tw12169867052103403708 tw13965776827894803811 tw16191069646993423902 tw5512086633829993772
tw16681333097198005178 tw2118206711735062258 tw691603658928212705 tw18046637796607219865 tw6581999233836906671 tw10522785699082513135 tw9518767803430646779 tw7123596778516351153 tw16177475271062126548 tw15855865559747805683
tw3104450387857625623 tw10566140853629555592 tw7155444550483525183 tw16776303064217637045 tw15934863503081422989 tw12745727351500498439 tw5943726684213794715 tw5331152661676066324 tw15846179544947907417 tw4011551889472616653
tw15858566621233284841 tw9462846792964985898 tw4129315682390883584 tw1177133592275956553 tw1489322678780765754 tw17198252787837036808 tw11155385604751944541 tw16314779137902647281 tw8944074564107919159 tw3766247374481289411
tw16677795936432431635 tw1512006518892049408 tw10661059805184141233 tw17784667339223700068 tw15602751589217951068 tw12356724366076236989 tw1009071253291229882 tw5494575199395691825 tw3863316313947837236 tw11651865331579748675
tw8679618724654005475 tw4788456647443521509 tw3396176797883223299 tw17338395834085576336 tw7982568306429739523 tw15707874829655444125 tw15084488169998853503 tw69632807860912204 tw11558597661171658795 tw6533227767479148965
tw15750376927862960058 tw5161989647591113285 tw14040176707846689338 tw7495756425958937711 tw7576255804081857507 tw203241682644836412 tw7661512746701383215 tw3457154834232577799 tw4270892321859370844 tw16037671378067506560
tw11960578628583931506 tw3210366683424697310 tw18057692192290742221 tw2310746675002914153 tw373157437445430563 tw12797431255721461824 tw10321059675779548734 tw17715642465463870671 tw2679239481866164240 tw16817121435310856910
tw4172775571069106830 tw2704467862904927442 tw15962194897371301137 tw15982290446542596712 tw9027914746773013823 tw3832395854566580031 tw14246456701273731007 tw10717289712493874252 tw5777404909312332051 tw14586631962468334881
tw9488412444958120243 tw1960086983376034028 tw7937482505674298184 tw8826822886475326403 tw1419315928725478777 tw12128792544671877678 tw5738339414196538150 tw724971050833301080 tw14381359593824686459 tw2290901966042895582
tw11513350069465994362 tw1900391906219635489 tw14304940556001482518 tw10521801204800308680 tw1040305678727415246 tw10391146561516587755 tw7488289802995880398 tw2952730328916808013 tw4577078037385478568 tw12570583256280953602
tw18368298086978020206 tw6046345823161485866 tw14485813250684756618 tw11801427458752817122 tw14031841970039233255 tw2012384767152210272 tw18403047349072137379 tw8245549757855632201 tw8455041433133899911 tw8716994295860224078
tw12828215963083484657 tw3727428313924465076 tw5879774674487173230 tw1676324479300391606 tw7686060169475053776 tw13144530179747630202 tw5994229312289077886 tw4883979263851300823 tw5127612943737734827 tw12683990465024039260
tw17928307980427490602 tw8894504239504355472 tw13809772928609517787 tw11059434662314247543 tw2656192291533496774 tw13547537717964494326 tw8531143344851670419 tw687765245024470818 tw5444171000792852168 tw4472255237578665115
tw2940408375614378936 tw15140888772689222128 tw13432241598750553702 tw3077345757937867943 tw1032253421470124957 tw12794665288565316653 tw16724920450938598614 tw4700152815325750347 tw9906953029878233000 tw11725403539310168264
tw16001368833033817614 tw2990888098683580193 tw17440104429393571823 tw7151376327773306146 tw1204149948322816501 tw529851084554155279 tw2899536183411204531 tw11202514758044370031 tw16301222155845408026 tw12236380484136320855
tw7819279869636480742 tw6103070771697564446 tw5839617511019243830 tw12930074356696019500 tw9789510220058813134 tw4047266732508140063 tw12996076283169734766:True)
set_option maxRecDepth 100000 in
set_option maxHeartbeats 0 in
theorem PySem.Challenge.cw_dutyproof_k73_slack_holds : PySem.Challenge.rw_dutyproof_k73_slack.Holds := by
 w_on;o_law;k_head;(case hw=>w_witness2)
 k_fill
 refine LW.walk (l:=PySem.Challenge.rw_dutyproof_k73_slack) rfl rfl (λ w h Y=>⟨W.km_in_of Y,W.km_tabs_of Y⟩) ?HC ?F
 case HC=>exact λ w=>by kernel_rfl
 case F =>
  intro w mg fa h KX G hmg
  refine' LW.fin KX G hmg ?Uqa ?Uqb ?Uqc ?Uqd ?Uqe ?Uqf ?Uqg ?Uqh ?Uqi ?Uqj ?Uqk ?Uql ?Uqm ?Uqn ?Uqo ?Uqp ?Uqq ?Uqr ?Uqs ?Uqt ?Uqu ?Uqv ?Uqw ?Uqx ?Uqy ?Uqz ?Uq0 ?Uq1 ?Uq2 ?Uq3 ?Uq4 ?Uq5 ?Uq6 ?Uq7 ?Uq8 ?Uq9 ?Uqaa ?Uqab ?Uqac ?Uqad ?Uqae ?Uqaf ?Uqag ?Uqah ?Uqai ?Uqaj ?Uqak ?Uqal ?Uqam ?Uqan ?Uqao ?Uqap ?Uqaq ?Uqar ?Uqas ?Uqat ?Uqau ?Uqav ?Uqaw ?Uqax ?Uqay ?Uqaz ?Uqa0 ?Uqa1 ?Uqa2 ?Uqa3 ?Uqa4 ?Uqa5 ?Uqa6 ?Uqa7 ?Uqa8 ?Uqa9 ?Uqba ?Uqbb ?Uqbc ?Uqbd ?Uqbe ?Uqbf ?Uqbg ?Uqbh ?Uqbi ?Uqbj ?Uqbk ?Uqbl ?Uqbm ?Uqbn ?Uqbo ?Uqbp
  (case Uqa=>k_is)
  (case Uqb=>k_is)
  (case Uqc=>k_is)
  (case Uqd=>(refine' LW.J6f ?vei_NotKept_ga ?vei_NotKept_mb ?vei_NotKept_gn ?vei_NotKept_ca ?vei_NotKept_mo ?vei_NotKept_hd;(case vei_NotKept_ga=>k_is);(case vei_NotKept_mb=>k_is);(case vei_NotKept_gn=>k_is);(case vei_NotKept_ca=>k_is);(case vei_NotKept_mo=>k_is);(case vei_NotKept_hd=>k_is)))
  (case Uqe=>kernel_rfl)
  (case Uqf=>kernel_rfl)
  (case Uqg=>k_is)
  (case Uqh=>kernel_rfl)
  (case Uqi=>kernel_rfl)
  (case Uqj=>exact L4.J6h LW.Jko (by k_is) (by k_is) (by k_is) (by k_is) (by kernel_rfl) (by k_is))
  (case Uqk=>(refine' L3.StoX.mk ?vsx_NotKept_at_l ?vsx_NotKept_at_f ?vsx_NotKept_at_w;(case vsx_NotKept_at_l=>kernel_rfl);(case vsx_NotKept_at_f=>kernel_rfl);(case vsx_NotKept_at_w=>k_is)))
  (case Uql=>k_is)
  (case Uqm=>(refine' L3.BasX.mk ?vbx_DutyError_l ?vbx_DutyError_f ?vbx_DutyError_w;(case vbx_DutyError_l=>k_is);(case vbx_DutyError_f=>k_is);(case vbx_DutyError_w=>k_is)))
  (case Uqn=>k_is)
  (case Uqo=>k_is)
  (case Uqp=>exact L4.Jac KX G LW.Jq2 (by k_is) (by k_is) (by k_is) (by k_is))
  (case Uqq=>exact L4.Jac KX G LW.Ji9 (by k_is) (by k_is) (by k_is) (by k_is))
  (case Uqr=>exact L4.Jac KX G LW.Jpu (by k_is) (by k_is) (by k_is) (by k_is))
  (case Uqs=>exact L4.Jac KX G LW.Jt6 (by k_is) (by k_is) (by k_is) (by k_is))
  (case Uqt=>exact L4.Jac KX G LW.Jt5 (by k_is) (by k_is) (by k_is) (by k_is))
  (case Uqu=>exact L4.Jac KX G LW.Jpr (by k_is) (by k_is) (by k_is) (by k_is))
  (case Uqv=>exact L4.Jac KX G LW.Jt8 (by k_is) (by k_is) (by k_is) (by k_is))
  (case Uqw=>exact L4.Jac KX G LW.Jlf (by k_is) (by k_is) (by k_is) (by k_is))
  (case Uqx=>exact L4.Jac KX G LW.Jhz (by k_is) (by k_is) (by k_is) (by k_is))
  (case Uqy=>exact L4.Jac KX G LW.Jps (by k_is) (by k_is) (by k_is) (by k_is))
  (case Uqz=>exact L4.Jac KX G LW.Jt9 (by k_is) (by k_is) (by k_is) (by k_is))
  (case Uq0=>exact L4.Jac KX G LW.Jq0 (by k_is) (by k_is) (by k_is) (by k_is))
  (case Uq1=>exact L4.Jac KX G LW.Jnj (by k_is) (by k_is) (by k_is) (by k_is))
  (case Uq2=>exact L4.Jac KX G LW.Jkp (by k_is) (by k_is) (by k_is) (by k_is))
  (case Uq3=>exact L4.Jac KX G LW.Jt3 (by k_is) (by k_is) (by k_is) (by k_is))
  (case Uq4=>exact L4.Jac KX G LW.Jnh (by k_is) (by k_is) (by k_is) (by k_is))
  (case Uq5=>exact L4.Jac KX G LW.J3v (by k_is) (by k_is) (by k_is) (by k_is))
  (case Uq6=>exact L4.Jac KX G LW.Jt4 (by k_is) (by k_is) (by k_is) (by k_is))
  (case Uq7=>exact L4.Jac KX G LW.Jwr (by k_is) (by k_is) (by k_is) (by k_is))
  (case Uq8=>exact L4.Jac KX G LW.Jzx (by k_is) (by k_is) (by k_is) (by k_is))
  (case Uq9=>exact L4.Jac KX G LW.Jij (by k_is) (by k_is) (by k_is) (by k_is))
  (case Uqaa=>exact L4.Jac KX G LW.J3w (by k_is) (by k_is) (by k_is) (by k_is))
  (case Uqab=>exact L4.Jac KX G LW.Jzy (by k_is) (by k_is) (by k_is) (by k_is))
  (case Uqac=>exact L4.Jac KX G LW.Jpt (by k_is) (by k_is) (by k_is) (by k_is))
  (case Uqad=>exact L4.Jac KX G LW.Jq1 (by k_is) (by k_is) (by k_is) (by k_is))
  (case Uqae=>exact L4.Jac KX G LW.Jlg (by k_is) (by k_is) (by k_is) (by k_is))
  (case Uqaf=>exact L4.Jac KX G LW.Jni (by k_is) (by k_is) (by k_is) (by k_is))
  (case Uqag=>exact L4.Jac KX G LW.Jpq (by k_is) (by k_is) (by k_is) (by k_is))
  (case Uqah=>exact L4.Jac KX G LW.Jq3 (by k_is) (by k_is) (by k_is) (by k_is))
  (case Uqai=>exact L4.Jac KX G LW.Jt7 (by k_is) (by k_is) (by k_is) (by k_is))
  (case Uqaj=>exact L4.Jac KX G LW.Jq4 (by k_is) (by k_is) (by k_is) (by k_is))
  (case Uqak=>exact L4.Jac KX G LW.Jpp (by k_is) (by k_is) (by k_is) (by k_is))
  (case Uqal=>exact L4.Jac KX G LW.Jpo (by k_is) (by k_is) (by k_is) (by k_is))
  (case Uqam=>(refine' LW.J6g KX G ?Uqbq ?Uqbr ?Uqbs ?Uqbt;(case Uqbq=>k_is);(case Uqbr=>k_is);(case Uqbs=>k_is);(case Uqbt=>k_is)))
  (case Uqan=>(refine' LW.Joz ?Uqbu ?Uqbv ?Uqbw ?Uqbx ?Uqby ?Uqbz ?Uqb0 ?Uqb1;(case Uqbu=>k_is);(case Uqbv=>k_is);(case Uqbw=>k_is);(case Uqbx=>k_is);(case Uqby=>k_is);(case Uqbz=>k_is);(case Uqb0=>k_is);(case Uqb1=>k_is)))
  (case Uqao=>exact L4.Jwg LW.Jpm (by k_is) (by k_is) (by k_is) (by k_is) (by k_is))
  (case Uqap=>(refine' LW.Jr9 ?Uqb2 ?Uqb3 ?Uqb4 ?Uqb5 ?Uqb6 ?Uqb7 ?Uqb8 ?Uqb9 ?Uqca ?Uqcb ?Uqcc ?Uqcd ?Uqce ?Uqcf ?Uqcg ?Uqch ?Uqci ?Uqcj ?Uqck;(case Uqb2=>k_is);(case Uqb3=>k_is);(case Uqb4=>k_is);(case Uqb5=>k_is);(case Uqb6=>k_is);(case Uqb7=>k_is);(case Uqb8=>k_is);(case Uqb9=>k_is);(case Uqca=>k_is);(case Uqcb=>k_is);(case Uqcc=>k_is);(case Uqcd=>k_is);(case Uqce=>k_is);(case Uqcf=>k_is);(case Uqcg=>k_is);(case Uqch=>k_is);(case Uqci=>k_is);(case Uqcj=>k_is);(case Uqck=>k_is)))
  (case Uqaq=>exact L4.mk_in LW.Jpj (by k_is) (by k_is) (by k_is) (by k_is) (by k_is) (by k_is) (by k_is))
  (case Uqar=>exact L4.Jwg LW.Jpk (by k_is) (by k_is) (by k_is) (by k_is) (by k_is))
  (case Uqas=>exact L4.Jwg LW.Jpl (by k_is) (by k_is) (by k_is) (by k_is) (by k_is))
  (case Uqat=>exact L4.Jwg LW.Jng (by k_is) (by k_is) (by k_is) (by k_is) (by k_is))
  (case Uqau=>exact L4.Jwg LW.Jle (by k_is) (by k_is) (by k_is) (by k_is) (by k_is))
  (case Uqav=>(refine' LW.Jr9 ?Uqcl ?Uqcm ?Uqcn ?Uqco ?Uqcp ?Uqcq ?Uqcr ?Uqcs ?Uqct ?Uqcu ?Uqcv ?Uqcw ?Uqcx ?Uqcy ?Uqcz ?Uqc0 ?Uqc1 ?Uqc2 ?Uqc3;(case Uqcl=>k_is);(case Uqcm=>k_is);(case Uqcn=>k_is);(case Uqco=>k_is);(case Uqcp=>k_is);(case Uqcq=>k_is);(case Uqcr=>k_is);(case Uqcs=>k_is);(case Uqct=>k_is);(case Uqcu=>k_is);(case Uqcv=>k_is);(case Uqcw=>k_is);(case Uqcx=>k_is);(case Uqcy=>k_is);(case Uqcz=>k_is);(case Uqc0=>k_is);(case Uqc1=>k_is);(case Uqc2=>k_is);(case Uqc3=>k_is)))
  (case Uqaw=>k_is)
  (case Uqax=>k_is)
  (case Uqay=>k_is)
  (case Uqaz=>k_is)
  (case Uqa0=>k_is)
  (case Uqa1=>k_is)
  (case Uqa2=>k_is)
  (case Uqa3=>kernel_rfl)
  (case Uqa4=>kernel_rfl)
  (case Uqa5=>kernel_rfl)
  (case Uqa6=>kernel_rfl)
  (case Uqa7=>kernel_rfl)
  (case Uqa8=>kernel_rfl)
  (case Uqa9=>kernel_rfl)
  (case Uqba=>kernel_rfl)
  (case Uqbb=>kernel_rfl)
  (case Uqbc=>k_is)
  (case Uqbd=>k_is)
  (case Uqbe=>k_is)
  (case Uqbf=>k_is)
  (case Uqbg=>k_is)
  (case Uqbh=>k_is)
  (case Uqbi=>k_is)
  (case Uqbj=>k_is)
  (case Uqbk=>k_is)
  (case Uqbl=>k_is)
  (case Uqbm=>k_is)
  (case Uqbn=>k_is)
  (case Uqbo=>k_is)
  (case Uqbp=>k_is)
