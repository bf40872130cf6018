import PyProof.Rows.All
import Wide.All
import OpenK.AllK
import Wide.FinOn
import Lean
import PyProof.EqAt
import PyProof.EqKinds
import PyProof.TupleCall
import PyProof.ExcBaseAll.ValueError
import PyProof.ExcAttrAll.ValueError
import PyProof.NsDelKeeps
import PySem.Challenge.RW_dutyproof_k32_who_goes_first
set_option Elab.async false
set_option linter.all false
set_option maxRecDepth 100000
theorem Zf {p:Prop}(h:False):p:=h.elim
namespace L2
open PySem PySem.Spec PyProof.Rows
noncomputable abbrev Key:=Sum Int Str
noncomputable def Jwh:Key->Value->Bool
 | .inl k,v=>Value.isInt k v
 | .inr x,v=>Value.isStrOf x v
noncomputable def keyH (w:World):Key->Int
 | .inl k=>hashInt k
 | .inr x=>hashStr w x
theorem J0:∀{k:Key}{v:Value},Jwh k v=true->(∃i t,k=Sum.inl i/\v=Value.int i t)∨(∃x t,k=Sum.inr x/\v=Value.str x t)
 | .inl i,v,h=>by
  obtain⟨t,e⟩:=Value.isInt_shape (k:=i) (v:=v) h
  exact .inl ⟨i,t,rfl,e⟩
 | .inr x,v,h=>by
  obtain⟨t,e⟩:=Value.isStrOf_shape (x:=x) (v:=v) h
  exact .inr ⟨x,t,rfl,e⟩
theorem Jyq (i:Int) (t:Tok):Jwh (.inl i) (.int i t)=true:=by simp[Jwh,Value.isInt]
theorem Jyr (x:Str) (t:Tok):Jwh (.inr x) (.str x t)=true:=by simp[Jwh,Value.isStrOf]
theorem J6n (a b:Int):decide ((Sum.inl a:Key)=Sum.inl b)=(a==b):=by
 by_cases e:a=b
 ·subst e;simp
 ·have h:¬(Sum.inl a:Key)=Sum.inl b:=λ q=>e (Sum.inl.inj q)
  rw[decide_eq_false h]
  exact(beq_eq_false_iff_ne.mpr e).symm
theorem J6r (a b:Str):decide ((Sum.inr a:Key)=Sum.inr b)=decide (a=b):=by
 by_cases e:a=b
 ·subst e;simp
 ·have h:¬(Sum.inr a:Key)=Sum.inr b:=λ q=>e (Sum.inr.inj q)
  rw[decide_eq_false h,decide_eq_false e]
theorem J6o (a:Int) (b:Str):decide ((Sum.inl a:Key)=Sum.inr b)=false:=decide_eq_false (λ q=>nomatch q)
theorem J6q (a:Str) (b:Int):decide ((Sum.inr a:Key)=Sum.inl b)=false:=decide_eq_false (λ q=>nomatch q)
noncomputable def Jdf (prog:Program) (w:World):PySem.KeyKind prog w Key where
 is:=Jwh
 hash:=keyH w
 inj:=λ v a b ha hb=>by
  rcases J0 ha with⟨i,t,rfl,rfl⟩|⟨x,t,rfl,rfl⟩
  ·rcases J0 hb with⟨j,u,rfl,e⟩|⟨y,u,rfl,e⟩
   ·injection e with e1 _;rw[e1]
   ·exact nomatch e
  ·rcases J0 hb with⟨j,u,rfl,e⟩|⟨y,u,rfl,e⟩
   ·exact nomatch e
   ·injection e with e1 _;rw[e1]
 byValue:=λ k v h=>by
  rcases J0 h with⟨i,t,rfl,rfl⟩|⟨x,t,rfl,rfl⟩<;>rfl
 pyHash:=λ hv h=>by
  rcases J0 hv with⟨i,t,rfl,rfl⟩|⟨x,t,rfl,rfl⟩
  ·exact wpAny_pyHash_int h
  ·exact wpAny_pyHash_str h
 eqBool:=λ hu hv h=>by
  rcases J0 hu with⟨i,t,rfl,rfl⟩|⟨x,t,rfl,rfl⟩
  ·rcases J0 hv with⟨j,u,rfl,rfl⟩|⟨y,u,rfl,rfl⟩
   ·rw[J6n] at h;exact wpAny_eqBool_int h
   ·rw[J6o] at h;exact SeqAt.EqAt.int_str i t y u _ _ _ _ h
  ·rcases J0 hv with⟨j,u,rfl,rfl⟩|⟨y,u,rfl,rfl⟩
   ·rw[J6q] at h;exact SeqAt.EqAt.str_int x t j u _ _ _ _ h
   ·rw[J6r] at h;exact wpAny_eqBool_str h
 «strs» :=λ k x t v h=>by
  rcases J0 h with⟨i,u,rfl,e⟩|⟨y,u,rfl,e⟩
  ·exact nomatch e
  ·injection e with e1 _
   subst e1
   cases v<;>rfl
theorem Juj (prog:Program) (w:World) (i:Int) (t:Tok):(Jdf prog w).is (.inl i) (.int i t)=true:=Jyq i t
theorem Juk (prog:Program) (w:World) (x:Str) (t:Tok):(Jdf prog w).is (.inr x) (.str x t)=true:=Jyr x t
inductive V where
 | non|bl (b:Bool)|int (i:Int)|str (x:Str)|byt (b:Array UInt8)|flt (b:UInt64)|ref (a:Addr)|ty (n:String)
 deriving DecidableEq
noncomputable def RelV:V->Value->Prop
 | .non,u=>u=Value.none
 | .bl b,u=>u=Value.bool b
 | .int i,u=>∃t,u=Value.int i t
 | .str x,u=>∃t,u=Value.str x t
 | .byt b,u=>∃t,u=Value.bytes b t
 | .flt b,u=>∃t,u=Value.float b t
 | .ref a,u=>u=Value.ref a
 | .ty n,u=>u=Value.type n
noncomputable abbrev Vals:List V->List Value->Prop:=Paired RelV
theorem Vals.length {xs:List V}{us:List Value}(r:Vals xs us):xs.length=us.length:=Paired.length r
theorem Vals.get:∀{xs:List V}{us:List Value}{i:Nat}{x:V},Vals xs us->xs[i]?=some x->∃u,us[i]?=some u/\RelV x u
 | _,_,_,_,.nil,e=>by simp at e
 | _,_,0,_,.cons r _,e=>by simp at e;subst e;exact⟨_,rfl,r⟩
 | _,_,i+1,x,.cons _ t,e=>by
  obtain⟨u,h1,h2⟩:=Vals.get (i:=i) (x:=x) t (by simpa using e)
  exact⟨u,by simpa using h1,h2⟩
theorem Vals.set {x:V}{u:Value}(r:RelV x u):∀{xs:List V}{us:List Value}(i:Nat),Vals xs us->Vals (xs.set i x) (us.set i u)
 | _,_,_,.nil=>.nil
 | _,_,0,.cons _ t=>.cons r t
 | _,_,i+1,.cons q t=>.cons q (Vals.set r i t)
theorem Vals.append:∀{xs ys:List V}{us ws:List Value},Vals xs us->Vals ys ws->Vals (xs++ys) (us++ws)
 | _,_,_,_,.nil,s=>s
 | _,_,_,_,.cons r t,s=>.cons r (Vals.append t s)
theorem Vals.take:∀{xs:List V}{us:List Value}(n:Nat),Vals xs us->Vals (xs.take n) (us.take n)
 | _,_,0,_=>.nil
 | _,_,_+1,.nil=>.nil
 | _,_,n+1,.cons r t=>.cons r (Vals.take n t)
theorem Vals.drop:∀{xs:List V}{us:List Value}(n:Nat),Vals xs us->Vals (xs.drop n) (us.drop n)
 | _,_,0,r=>r
 | _,_,_+1,.nil=>.nil
 | _,_,n+1,.cons _ t=>Vals.drop n t
noncomputable def RelO:Option V->Option Value->Prop
 | some v,some u=>RelV v u
 | none,none=>True
 | _,_=>False
noncomputable def KV {κ:Type}:List (κ×V)->List (κ×Value)->Prop:=Paired λ (p:κ×V) (q:κ×Value)=>p.1=q.1/\RelV p.2 q.2
noncomputable def kV:Key->V
 | .inl i=>.int i
 | .inr x=>.str x
inductive HO where
 /-- a list -/
 | lst (xs:List V)
 /-- a tuple (never changes) -/
 | tup (xs:List V)
 /-- a dict whose keys are ints and texts; one whose keys are tuples of ints and texts (the empty one is both) -/
 | dK (kvs:List (Key×V))|dT (kvs:List (List Key×V))
 /-- a set of ints: its members, its size -/
 | set (S:Int->Bool) (n:Nat)
 /-- an instance of the class at C, its dict at dx, its attributes -/
 | ins (C dx:Addr) (fs:List (Str×V))
 /-- the dict of the instance at x -/
 | own (x:Addr)
 /-- the dict of an exception -/
 | xd (fs:List (Str×V))
 /-- a bound method, f of x -/
 | met (f x:Addr)
 /-- a range object lo, lo + 1, .. below hi -/
 | rng (lo hi:Int)
 /-- a thing that is known to the object (the script; a dict while a loop walks it): read, never written while it is so -/
 | frz (o:Obj) (u:HO)
 /-- a code object's table -/
 | tbl (ps:Array Value)
 /-- any other thing, by what is true of its one object (a def of one's own: SetO a S n := HO.ext λ h => ..) -/
 | ext (φ:Heap->Prop)
noncomputable abbrev Hp:=Addr->Option HO
noncomputable def upd (H:Hp) (a:Addr) (o:HO):Hp:=λ b=>if b=a then some o else H b
theorem Jf {H:Hp}{a:Addr}{o:HO}:upd H a o a=some o:=by unfold upd;rw[if_pos rfl]
theorem Ji {H:Hp}{a b:Addr}{o:HO}(h:b≠a):upd H a o b=H b:=by unfold upd;rw[if_neg h]
theorem J6 {H:Hp}{a b:Addr}{o:HO}(h:H a=some o) (h':H b=none):a≠b:=by
 intro e;subst e;rw[h] at h';cases h'
section
variable (P:Program) (w:World)
noncomputable def Jcg (H:Hp) (h:Heap) (a:Addr):HO->Prop
 | .lst xs=>xs.length<=sizeLine/\∃(its:List Value) (n:Nat),Vals xs its/\h.get? a=some { cls:=.type "list",data:=.seq its.toArray n }
 | .tup xs=>xs.length<=sizeLine/\∃its:List Value,Vals xs its/\IsTup h a its.toArray
 | .dK kvs=>kvs.length<=sizeLine/\(a==sysModules)=false/\∃vs,KV kvs vs/\h.DictOf (Jdf P w) a vs
 | .dT kvs=>kvs.length<=sizeLine/\(a==sysModules)=false/\∃xs:List (List Key×Addr×Value),
   Paired (λ (p:List Key×V) (q:List Key×Addr×Value)=>p.1=q.1/\H q.2.1=some (.tup (p.1.map kV))/\RelV p.2 q.2.2) kvs xs /\
   ∃o es ep,h.get? a=some o/\o.ExactDict/\o.data=.dict es ep/\es.toList=xs.map (entryOfKey (tupleKind (Jdf P w)))/\(xs.map (·.1)).Nodup
 | .set S n=>h.SetOf (intKind P w) a S n
 | .ins C dx fs=>H dx=some (.own a)/\fs.length<=1000/\dx≠a/\h.get? a=some (W.instObj C dx) /\
   ∃mA,h.Ns1 dx mA/\(∀f,RelO (fs.lookup f) (mA f))/\PySem.Within mA (fs.map (·.1))
 | .own _=>∃o,h.get? a=some o
 | .xd fs=>∃mA,h.Ns1 a mA/\∀f,RelO (fs.lookup f) (mA f)
 | .rng lo hi=>∃t u v,h.get? a=some { cls:=.type "range",data:=.fields #[.int lo t,.int hi u,.int 1 v] }
 | .frz o u=>h.get? a=some o/\Jcg H h a u
 | .tbl ps=>h.get? a=some { cls:=.none,data:=.fields ps }
 | .met f x=>h.get? a=some (W.methodObj (.ref f) (.ref x))
 | .ext φ=>φ h/\(∃o,h.get? a=some o)/\∀h1 h2:Heap,φ h1->(∀o,h1.get? a=some o->h2.get? a=some o)->φ h2
noncomputable def HOk (H:Hp) (h:Heap):Prop:=∀a o,H a=some o->Jcg P w H h a o
end
section
variable {P:Program}{w:World}{H H':Hp}{h h':Heap}{a:Addr}{o:HO}
theorem Jcg.lt (x:Jcg P w H h a o):a<h.objs.size:=by
 cases o with
 | lst xs=>obtain⟨_,_,_,_,e⟩:=x;exact Heap.lt_size e
 | tup xs=>obtain⟨_,_,_,p⟩:=x;exact p.lt
 | dK kvs=>obtain⟨_,_,_,_,o,_,_,e,_⟩:=x;exact Heap.lt_size e
 | dT kvs=>obtain⟨_,_,_,_,o,_,_,e,_⟩:=x;exact Heap.lt_size e
 | set S n=>obtain⟨o,_,_,_,e,_⟩:=x;exact Heap.lt_size e
 | ins C dx fs=>obtain⟨_,_,_,e,_⟩:=x;exact Heap.lt_size e
 | own y=>obtain⟨_,e⟩:=x;exact Heap.lt_size e
 | xd fs=>obtain⟨_,⟨_,_,_,e,_⟩,_⟩:=x;exact Heap.lt_size e
 | rng lo hi=>obtain⟨_,_,_,e⟩:=x;exact Heap.lt_size e
 | frz ob u=>obtain⟨e,_⟩:=x;exact Heap.lt_size e
 | tbl ps=>exact Heap.lt_size (show h.get? a=some _ from x)
 | met f y=>exact Heap.lt_size (show h.get? a=some _ from x)
 | ext φ=>obtain⟨_,⟨_,e⟩,_⟩:=x;exact Heap.lt_size e
theorem Paired.mapP {α β:Type}{F G:α->β->Prop}:∀{l₁:List α}{l₂:List β},Paired F l₁ l₂->(∀a b,F a b->G a b)->Paired G l₁ l₂
 | _,_,.nil,_=>.nil
 | _,_,.cons r t,f=>.cons (f _ _ r) (Paired.mapP t f)
theorem Jcg.stay (x:Jcg P w H h a o) (k:∀b u,(b=a∨H b=some (.own a))->h.get? b=some u->h'.get? b=some u)
  (ho:∀b,H b=some (.own a)->H' b=some (.own a)) (ht:∀b xs,H b=some (.tup xs)->H' b=some (.tup xs)):Jcg P w H' h' a o:=by
 induction o with
 | lst xs=>obtain⟨z,its,n,r,e⟩:=x;exact⟨z,its,n,r,k _ _ (.inl rfl) e⟩
 | tup xs=>obtain⟨z,its,r,ob,e,c⟩:=x;exact⟨z,its,r,ob,k _ _ (.inl rfl) e,c⟩
 | dK kvs=>obtain⟨z,y,vs,r,ob,es,ep,e,c⟩:=x;exact⟨z,y,vs,r,ob,es,ep,k _ _ (.inl rfl) e,c⟩
 | dT kvs =>
  obtain⟨z,y,xs,r,ob,es,ep,e,c⟩:=x
  exact⟨z,y,xs,Paired.mapP r λ p q z=>⟨z.1,ht _ _ z.2.1,z.2.2⟩,ob,es,ep,k _ _ (.inl rfl) e,c⟩
 | set S n=>obtain⟨ob,es,ep,t,e,c⟩:=x;exact⟨ob,es,ep,t,k _ _ (.inl rfl) e,c⟩
 | ins C dx fs =>
  obtain⟨d,z,ne,e,mA,⟨od,es,ep,e2,c⟩,r⟩:=x
  exact⟨ho _ d,z,ne,k _ _ (.inl rfl) e,mA,⟨od,es,ep,k _ _ (.inr d) e2,c⟩,r⟩
 | own y=>obtain⟨ob,e⟩:=x;exact⟨ob,k _ _ (.inl rfl) e⟩
 | xd fs=>obtain⟨mA,⟨od,es,ep,e,c⟩,r⟩:=x;exact⟨mA,⟨od,es,ep,k _ _ (.inl rfl) e,c⟩,r⟩
 | rng lo hi=>obtain⟨t,u,v,e⟩:=x;exact⟨t,u,v,k _ _ (.inl rfl) e⟩
 | frz ob u ih=>obtain⟨e,q⟩:=x;exact⟨k _ _ (.inl rfl) e,ih q⟩
 | tbl ps =>
  have e:h.get? a=some { cls:=.none,data:=.fields ps }:=x
  show h'.get? a=some { cls:=.none,data:=.fields ps }
  exact k a _ (.inl rfl) e
 | met f y =>
  have e:h.get? a=some (W.methodObj (.ref f) (.ref y)):=x
  show h'.get? a=some (W.methodObj (.ref f) (.ref y))
  exact k a _ (.inl rfl) e
 | ext φ=>obtain⟨p,⟨o,e⟩,st⟩:=x;exact⟨st _ _ p λ o q=>k _ _ (.inl rfl) q,⟨o,k _ _ (.inl rfl) e⟩,st⟩
theorem HOk.lt (x:HOk P w H h) (e:H a=some o):a<h.objs.size:=(x a o e).lt
theorem HOk.fresh (x:HOk P w H h) (e:h.objs.size<=a):H a=none:=by
 cases q:H a with
 | none=>rfl
 | some u=>exact absurd (Nat.lt_of_lt_of_le (x.lt q) e) (Nat.lt_irrefl _)
theorem HOk.kept (x:HOk P w H h) (k:∀b u,h.get? b=some u->h'.get? b=some u):HOk P w H h':=λ a o e =>
 (x a o e).stay (λ b u _ q=>k b u q) (λ _ q=>q) λ _ _ q=>q
theorem HOk.laid (x:HOk P w H h) (k:∀b u,h.get? b=some u->h'.get? b=some u) (hp:h.objs.size<=a) (new:Jcg P w (upd H a o) h' a o):HOk P w (upd H a o) h':=λ b u e=>by
 have hn:=x.fresh hp
 by_cases hb:b=a
 ·subst hb;rw[Jf] at e;cases e;exact new
 ·rw[Ji hb] at e
  exact(x b u e).stay (λ c v _ q=>k c v q) (λ c q=>by rw[Ji (J6 q hn)];exact q) λ c xs q=>by rw[Ji (J6 q hn)];exact q
end
noncomputable def Rd (H:Hp) (a:Addr) (u:HO):Prop:=H a=some u∨∃o,H a=some (.frz o u)
theorem Rd.of {H:Hp}{a:Addr}{u:HO}(h:H a=some u):Rd H a u:=.inl h
theorem Rd.ok {P:Program}{w:World}{H:Hp}{h:Heap}{a:Addr}{u:HO}(r:Rd H a u) (x:HOk P w H h):Jcg P w H h a u:=by
 rcases r with r|⟨o,r⟩
 ·exact x a u r
 ·obtain⟨_,q⟩:=x a _ r
  exact q
noncomputable def Mut:Option HO->Prop
 | some (.lst _)=>True
 | some (.dK _)=>True
 | some (.dT _)=>True
 | some (.set _ _)=>True
 | some (.ins _ _ _)=>True
 | some (.ext _)=>True
 | _=>False
section
variable {P:Program}{w:World}{H:Hp}{h h':Heap}{x e:Addr}{o':HO}
theorem HOk.write (ok:HOk P w H h) (mu:Mut (H x)) (he:e=x∨H e=some (.own x)) (k:∀b u,b≠e->h.get? b=some u->h'.get? b=some u) (heo:∃u,h'.get? e=some u)
  (new:Jcg P w (upd H x o') h' x o'):HOk P w (upd H x o') h':=λ b u q=>by
 have nown:∀c y,H c=some (.own y)->c≠x:=λ c y r z=>by subst z;rw[r] at mu;exact mu
 have ntup:∀c xs,H c=some (.tup xs)->c≠x:=λ c xs r z=>by subst z;rw[r] at mu;exact mu
 by_cases hb:b=x
 ·subst hb;rw[Jf] at q;cases q;exact new
 ·rw[Ji hb] at q
  by_cases hbe:b=e
  ·have q':H b=some (.own x):=by
    rcases he with z|z
    ·exact absurd (hbe.trans z) hb
    ·rw[hbe];exact z
   rw[q] at q';cases q'
   obtain⟨v,hv⟩:=heo
   exact⟨v,by rw[hbe];exact hv⟩
  ·refine(ok b u q).stay (λ c v hc r=>k c v ?_ r) (λ c r=>by rw[Ji (nown c b r)];exact r) λ c xs r=>by rw[Ji (ntup c xs r)];exact r
   rcases hc with rfl|hc
   ·exact hbe
   ·rintro rfl
    rcases he with z|z
    ·exact nown c b hc z
    ·rw[hc] at z;cases z;exact hb rfl
end
structure Un (fs ex:List Addr) (H H':Hp) (h h':Heap):Prop where
 keep:∀b o,h.get? b=some o->H b=none->b∉fs->b∉ex->h'.get? b=some o
 slot:∀b o,h.get? b=some o->H b=none->b∈fs->b∉ex->∃sl,h'.get? b=some { o with slots:=sl }
 free:∀b o,h.get? b=some o->H b=none->b∉ex->H' b=none
 there:∀b o,h.get? b=some o->b∉ex->∃o',h'.get? b=some o'
 tups:∀b xs,H b=some (.tup xs)->H' b=some (.tup xs)
 frzs:∀b o u,H b=some (.frz o u)->H' b=some (.frz o u)
 tbls:∀b ps,H b=some (.tbl ps)->∃more,H' b=some (.tbl (ps++more))
section
variable {fs fs' ex ex':List Addr}{H H1 H2:Hp}{h h1 h2 h':Heap}{a x e:Addr}{o:HO}
theorem Un.any (u:Un fs ex H H1 h h1){b:Addr}{ob:Obj}(q:h.get? b=some ob) (n:H b=none) (hx:b∉ex):∃sl,h1.get? b=some { ob with slots:=sl }:=by
 by_cases hb:b∈fs
 ·exact u.slot b ob q n hb hx
 ·exact⟨ob.slots,u.keep b ob q n hb hx⟩
theorem Un.trans (a:Un fs ex H H1 h h1) (b:Un fs ex H1 H2 h1 h2):Un fs ex H H2 h h2 where
 keep:=λ c ob q n hc hx=>b.keep c ob (a.keep c ob q n hc hx) (a.free c ob q n hx) hc hx
 slot:=λ c ob q n hc hx=>by
  obtain⟨sl,e1⟩:=a.slot c ob q n hc hx
  obtain⟨sl',e2⟩:=b.slot c _ e1 (a.free c ob q n hx) hc hx
  exact⟨sl',e2⟩
 free:=λ c ob q n hx=>by
  obtain⟨o',e1⟩:=a.there c ob q hx
  exact b.free c o' e1 (a.free c ob q n hx) hx
 there:=λ c ob q hx=>by
  obtain⟨o',e1⟩:=a.there c ob q hx
  exact b.there c o' e1 hx
 tups:=λ c xs q=>b.tups c xs (a.tups c xs q)
 frzs:=λ c ob xs q=>b.frzs c ob xs (a.frzs c ob xs q)
 tbls:=λ c ps q=>by
  obtain⟨m1,e1⟩:=a.tbls c ps q
  obtain⟨m2,e2⟩:=b.tbls c _ e1
  exact⟨m1++m2,by rw[e2,Array.append_assoc]⟩
theorem Un.kept (k:∀b u,h.get? b=some u->h'.get? b=some u):Un fs ex H H h h' :=
 ⟨λ b ob q _ _ _=>k b ob q,λ b ob q _ _ _=>⟨ob.slots,k b ob q⟩,λ _ _ _ n _=>n,λ b ob q _=>⟨ob,k b ob q⟩,λ _ _ q=>q,λ _ _ _ q=>q,λ _ ps q=>⟨#[],by rw[q];simp⟩⟩
theorem Un.refl:Un fs ex H H h h:=Un.kept λ _ _ q=>q
theorem Un.laid (k:∀b u,h.get? b=some u->h'.get? b=some u) (hp:h.objs.size<=a) (hn:H a=none):Un fs ex H (upd H a o) h h' where
 keep:=λ b u q _ _ _=>k b u q
 slot:=λ b u q _ _ _=>⟨u.slots,k b u q⟩
 free:=λ b u q n _=>by rw[Ji (Nat.ne_of_lt (Nat.lt_of_lt_of_le (Heap.lt_size q) hp))];exact n
 there:=λ b u q _=>⟨u,k b u q⟩
 tups:=λ b xs q=>by rw[Ji (J6 q hn)];exact q
 frzs:=λ b u xs q=>by rw[Ji (J6 q hn)];exact q
 tbls:=λ b ps q=>⟨#[],by rw[Ji (J6 q hn),q];simp⟩
theorem Un.write (mu:Mut (H x)) (he:e=x∨H e=some (.own x)) (k:∀b u,b≠e->h.get? b=some u->h'.get? b=some u) (heo:∃u,h'.get? e=some u):Un fs ex H (upd H x o) h h':=by
 have hx:∀b,H b=none->b≠x:=λ b n z=>by subst z;rw[n] at mu;exact mu
 have hb:∀b,H b=none->b≠e:=λ b n z=>by
  subst z
  rcases he with r|r
  ·exact hx b n r
  ·rw[n] at r;cases r
 have hm:∀b u,H b=some u->¬Mut (some u)->b≠x:=λ b u q nm z=>by subst z;rw[q] at mu;exact nm mu
 refine⟨λ b u q n _ _=>k b u (hb b n) q,λ b u q n _ _=>⟨u.slots,k b u (hb b n) q⟩,λ b u q n _=>by rw[Ji (hx b n)];exact n,λ b u q _=>?_,
  λ b xs q=>by rw[Ji (hm b _ q λ z=>z)];exact q,λ b u xs q=>by rw[Ji (hm b _ q λ z=>z)];exact q,λ b ps q=>⟨#[],by rw[Ji (hm b _ q λ z=>z),q];simp⟩⟩
 by_cases hbe:b=e
 ·subst hbe;exact heo
 ·exact⟨u,k b u hbe q⟩
theorem Un.mono (u:Un fs ex H H1 h h1) (hs:∀b∈fs,b∈fs') (hx:∀b∈ex,b∈ex'):Un fs' ex' H H1 h h1 :=
 ⟨λ b ob q n hb he=>u.keep b ob q n (λ z=>hb (hs b z)) λ z=>he (hx b z),λ _ _ q n _ he=>u.any q n λ z=>he (hx _ z),λ b ob q n he=>u.free b ob q n λ z=>he (hx b z),λ b ob q he=>u.there b ob q λ z=>he (hx b z),u.tups,u.frzs,u.tbls⟩
end
noncomputable def trk (h:Heap) (H:Hp):List Addr:=(List.range h.objs.size).filter λ a=>(H a).isSome
noncomputable def hidT (h:Heap) (H:Hp):Heap:=W.hideAll h (trk h H)
theorem Jyk (h:Heap) (H:Hp):(hidT h H).objs.size=h.objs.size:=W.hideAll_size _ _
theorem J0o {h:Heap}{H:Hp}{b:Addr}{o:Obj}(e:h.get? b=some o) (n:H b=none):(hidT h H).get? b=some o :=
 W.hideAll_get _ e λ hm=>by
  have q:(H b).isSome=true:=(List.mem_filter.mp hm).2
  rw[n] at q;simp at q
theorem J4h {h:Heap}{H:Hp}{b:Addr}{o:Obj}(e:(hidT h H).get? b=some o):h.get? b=some o/\H b=none:=by
 have e':h.get? b=some o:=W.of_hideAll (trk h H) e
 refine⟨e',?_⟩
 cases q:H b with
 | none=>rfl
 | some x =>
  have hm:b∈trk h H:=List.mem_filter.mpr ⟨List.mem_range.mpr (Heap.lt_size e'),by simp[q]⟩
  have z:(hidT h H).get? b=none:=W.hideAll_none (trk h H) hm
  rw[z] at e;cases e
noncomputable def J26 (g h:Heap) (L:Addr):List (Addr×Obj):=(List.range h.objs.size).filterMap λ a=>if a=L∨(g.get? a).isSome=true then none else(h.get? a).map λ o=>(a,o)
noncomputable def rest (g h:Heap) (L d:Addr):List (Addr×Obj):=(J26 g h L).filter λ p=>decide (p.1≠d)
structure Mod (K:W.Frag) (mg:Str->Option Value) (base:Heap):Prop where
 kin:K.In base
 glob:base.Ns mainGlobals mg
 blt:∃mb,base.Ns builtinsNs mb/\∀x:Str,x≠"__name__"->mb x=bootBuiltins x
 nolimit:base.NoLimit
structure Cx where
 prog:Program
 w:World
 K:W.Frag
 mg:Str->Option Value
 base:Heap
 A:Around
 N:List Str
 s₀:Shared
 H₀:Hp
 env:Env
 outer:List Env
 stack:List Env
 ex:List Addr
 fn:Str->Bool
 calm:Bool
 pn:List (Addr×Obj)
 xe:Value->Shared->Prop
noncomputable def frs (l:List Env):List Addr:=l.filterMap (·.frame)
noncomputable abbrev Cx.fs (X:Cx):List Addr:=frs X.outer
noncomputable def Vis (sc:Scope) (x:Str):Prop:=sc.names.lookup x=some .local∨sc.names.lookup x=some .cell∨sc.names.lookup x=some .free
noncomputable def Loc (sc:Scope) (x:Str):Prop:=sc.names.lookup x=some .local∨sc.names.lookup x=some .cell
noncomputable def Look (env:Env) (h:Heap) (m:Str->Option Value) (x:Str) (u:Value):Prop :=
 (env.kindOf x=some .local/\m x=some u)∨((env.kindOf x=some .cell∨env.kindOf x=some .free)/\∃c,env.cells.lookup x=some c/\h.IsCell c (some u))
structure Cx.Ok (X:Cx):Prop where
 mod:Mod X.K X.mg X.base
 kind:X.env.scope.kind=.function
 glob:X.env.globals=mainGlobals
 blt:X.env.builtins=builtinsNs
 above:X.s₀.heap.objs.size<=X.env.locals
 inj:∀x y c,X.env.cells.lookup x=some c->X.env.cells.lookup y=some c->x=y
 has:∀x,(X.env.kindOf x=some .cell∨X.env.kindOf x=some .free)->∃c,X.env.cells.lookup x=some c
 cab:∀x c,X.fn x=true->X.env.cells.lookup x=some c->X.s₀.heap.objs.size<=c
 hd:X.calm=true->X.A.handled=none
 frames:X.A.frames=some X.stack
 stk:X.stack=X.outer∨(X.stack=X.env::X.outer/\X.env.frame=some X.env.locals)
 exf:∀b∈X.ex,b≠X.env.locals/\∀x c,X.env.cells.lookup x=some c->c≠b
 bs:∀b o,X.base.get? b=some o->X.s₀.heap.get? b=some o/\X.H₀ b=none
 bsz:X.base.objs.size<=X.s₀.heap.objs.size
 noex:∀b o,X.base.get? b=some o->b∉X.ex
 exfs:∀b∈X.ex,b∉X.fs
 funs:X.s₀.heap.FunFrames X.base X.outer
 frf:∀b∈X.fs,X.H₀ b=none
structure Inv (X:Cx) (pins:List (Addr×Obj)) (σ:List (Option V)) (H:Hp) (s:Shared):Prop where
 ok:X.Ok
 os:s.os=X.s₀.os
 bare:AllBare s.gens
 base:Un X.fs X.ex X.H₀ H X.s₀.heap s.heap
 loc:∃m,s.heap.Ns X.env.locals m/\∀(i:Nat) (x:Str) (v:V),X.N[i]?=some x->σ[i]?=some (some v)->Vis X.env.scope x->∃u,RelV v u/\Look X.env s.heap m x u
 cell:∀x c,X.env.cells.lookup x=some c->∃v,s.heap.IsCell c v
 free:H X.env.locals=none
 freeC:∀x c,X.env.cells.lookup x=some c->H c=none
 pin:∀p∈X.pn++pins,s.heap.get? p.1=some p.2/\H p.1=none/\p.1≠X.env.locals/\p.1∉X.fs/\∀v,p.2.data≠.cell v
 hok:HOk X.prog X.w H s.heap
 len:σ.length=X.N.length
section
variable {X:Cx}{pins:List (Addr×Obj)}{σ:List (Option V)}{H H':Hp}{s:Shared}{h':Heap}
theorem Cx.Ok.nofr (ok:X.Ok){b:Addr}{o:Obj}(e:X.base.get? b=some o):b∉X.fs:=λ hb=>by
 have:=(ok.funs.mem hb).1
 rw[e] at this;cases this
theorem Inv.bs (I:Inv X pins σ H s):∀b o,X.base.get? b=some o->s.heap.get? b=some o/\H b=none:=λ b o e =>
 ⟨I.base.keep b o (I.ok.bs b o e).1 (I.ok.bs b o e).2 (I.ok.nofr e) (I.ok.noex b o e),I.base.free b o (I.ok.bs b o e).1 (I.ok.bs b o e).2 (I.ok.noex b o e)⟩
theorem Inv.bk (I:Inv X pins σ H s):∀b o,X.base.get? b=some o->s.heap.get? b=some o:=λ b o e=>(I.bs b o e).1
theorem Inv.mod (I:Inv X pins σ H s):Mod X.K X.mg X.base:=I.ok.mod
theorem Inv.kIn (I:Inv X pins σ H s):X.K.In s.heap:=I.ok.mod.kin.keeps I.bk
theorem Inv.nolimit (I:Inv X pins σ H s):s.heap.NoLimit:=I.ok.mod.nolimit.keeps I.bk
theorem Inv.fr (I:Inv X pins σ H s):∃m,Fr X.base X.env.locals s.heap m :=
 let ⟨m,hn,_⟩:=I.loc
 ⟨m,hn,I.bk,Nat.le_trans I.ok.bsz I.ok.above⟩
theorem Inv.lt (I:Inv X pins σ H s):X.env.locals<s.heap.objs.size:=let ⟨_,hn,_⟩:=I.loc;hn.lt
theorem Inv.sz (I:Inv X pins σ H s):X.s₀.heap.objs.size<=s.heap.objs.size:=Nat.le_trans I.ok.above (Nat.le_of_lt I.lt)
theorem Inv.nofs (I:Inv X pins σ H s){a:Addr}(h:s.heap.objs.size<=a):a∉X.fs:=λ hb=>by
 obtain⟨_,o,ho,_⟩:=I.ok.funs.mem hb
 exact absurd (Nat.lt_of_lt_of_le (Heap.lt_size ho) (Nat.le_trans I.sz h)) (Nat.lt_irrefl _)
theorem Inv.cne (I:Inv X pins σ H s):∀x c,X.env.cells.lookup x=some c->c≠X.env.locals:=λ x c e z=>by
 obtain⟨v,o,ho,hd⟩:=I.cell x c e
 obtain⟨m,⟨o',es,ep,ho',hd',_⟩,_⟩:=I.loc
 rw[z,ho'] at ho;cases ho;rw[hd'] at hd;cases hd
theorem Inv.funs (I:Inv X pins σ H s):s.heap.FunFrames X.base X.outer:=by
 have all:∀(l:List Env),(∀b∈frs l,b∈X.fs)->X.s₀.heap.FunFrames X.base l->s.heap.FunFrames X.base l:=by
  intro l
  induction l with
  | nil=>intro _ _;trivial
  | cons env r ih =>
   intro hs hl
   obtain⟨hk,⟨L,o,hf,hn,ho,hd⟩,hr⟩:=hl
   have hL:L∈X.fs:=hs L (by unfold frs;rw[List.filterMap_cons,hf];exact List.mem_cons_self)
   obtain⟨sl,e⟩:=I.base.slot L o ho (I.ok.frf L hL) hL λ z=>I.ok.exfs L z hL
   exact⟨hk,⟨L,_,hf,hn,e,hd⟩,ih (λ b hb=>hs b (by unfold frs;rw[List.filterMap_cons,hf];exact List.mem_cons_of_mem _ hb)) hr⟩
 exact all X.outer (λ _ hb=>hb) I.ok.funs
theorem Inv.stack (I:Inv X pins σ H s):s.heap.FunFrames X.base X.stack:=by
 rcases I.ok.stk with e|⟨e,hf⟩
 ·rw[e];exact I.funs
 ·rw[e]
  obtain⟨m,hn,_⟩:=I.loc
  refine .cons (by rw[I.ok.kind];decide) hf hn ?_ I.funs
  exact Heap.get?_none_of_le (Nat.le_trans I.ok.bsz I.ok.above)
theorem Inv.stkSub (I:Inv X pins σ H s):∀b∈frs X.stack,b∈X.env.locals::X.fs:=λ b hb=>by
 rcases I.ok.stk with e|⟨e,hf⟩
 ·rw[e] at hb;exact List.mem_cons_of_mem _ hb
 ·rw[e] at hb
  unfold frs at hb
  rw[List.filterMap_cons,hf] at hb
  exact hb
theorem Inv.stkFree (I:Inv X pins σ H s):∀b∈frs X.stack,H b=none:=λ b hb=>by
 rcases List.mem_cons.mp (I.stkSub b hb) with e|hb
 ·rw[e];exact I.free
 ·obtain⟨_,o,ho,_⟩:=I.ok.funs.mem hb
  exact I.base.free b o ho (I.ok.frf b hb) λ z=>I.ok.exfs b z hb
theorem Inv.step {g':Array GenState}{t':Nat}{d':Drawn}{ch:List Addr}(I:Inv X pins σ H s)
  (hch:∀b∈ch,(b∈X.ex∨X.s₀.heap.objs.size<=b)/\b≠X.env.locals/\(∀x c,X.env.cells.lookup x=some c->c≠b)/\∀p∈X.pn++pins,p.1≠b)
  (keep:∀b o,b≠X.env.locals->b∉X.fs->b∉ch->s.heap.get? b=some o->H b=none->h'.get? b=some o)
  (slot:∀b o,b≠X.env.locals->b∈X.fs->b∉ch->s.heap.get? b=some o->H b=none->∃sl,h'.get? b=some { o with slots:=sl }) (free:∀b o,b∉ch->s.heap.get? b=some o->H b=none->H' b=none)
  (there:∀b o,b∉ch->s.heap.get? b=some o->∃o',h'.get? b=some o')
  (tups:∀b xs,H b=some (.tup xs)->H' b=some (.tup xs)) (frzs:∀b o u,H b=some (.frz o u)->H' b=some (.frz o u)) (tbls:∀b ps,H b=some (.tbl ps)->∃more,H' b=some (.tbl (ps++more)))
  (ns:∀m,s.heap.Ns X.env.locals m->h'.Ns X.env.locals m) (hok:HOk X.prog X.w H' h') (hg:AllBare g') :
  Inv X pins σ H' { s with heap:=h',gens:=g',drawn:=d',toks:=t' }:=by
 have neL:∀b o,X.s₀.heap.get? b=some o->b≠X.env.locals:=λ b o e=>Nat.ne_of_lt (Nat.lt_of_lt_of_le (Heap.lt_size e) I.ok.above)
 have neC:∀b o,X.s₀.heap.get? b=some o->b∉X.ex->b∉ch:=λ b o e hx hb=>by
  rcases(hch b hb).1 with z|z
  ·exact hx z
  ·exact absurd (Nat.lt_of_lt_of_le (Heap.lt_size e) z) (Nat.lt_irrefl _)
 have cellK:∀x c,X.env.cells.lookup x=some c->∀v,s.heap.IsCell c v->h'.IsCell c v:=λ x c e v ⟨o,ho,hd⟩=>by
  have nch:c∉ch:=λ z=>(hch c z).2.2.1 x c e rfl
  by_cases hc:c∈X.fs
  ·obtain⟨sl,q⟩:=slot c o (I.cne x c e) hc nch ho (I.freeC x c e)
   exact⟨_,q,hd⟩
  ·exact⟨o,keep c o (I.cne x c e) hc nch ho (I.freeC x c e),hd⟩
 refine⟨I.ok,I.os,hg,⟨λ b o e n hb hx=>?_,λ b o e n hb hx=>?_,λ b o e n hx=>?_,λ b o e hx=>?_,λ b xs e=>tups b xs (I.base.tups b xs e),λ b o xs e=>frzs b o xs (I.base.frzs b o xs e),λ b ps e=>?_⟩,?_,λ x c e=>?_,?_,λ x c e=>?_,λ p hp=>?_,hok,I.len⟩
 ·exact keep b o (neL b o e) hb (neC b o e hx) (I.base.keep b o e n hb hx) (I.base.free b o e n hx)
 ·obtain⟨sl,e1⟩:=I.base.slot b o e n hb hx
  obtain⟨sl',e2⟩:=slot b _ (neL b o e) hb (neC b o e hx) e1 (I.base.free b o e n hx)
  exact⟨sl',e2⟩
 ·obtain⟨o',e1⟩:=I.base.there b o e hx
  exact free b o' (neC b o e hx) e1 (I.base.free b o e n hx)
 ·obtain⟨o',e1⟩:=I.base.there b o e hx
  exact there b o' (neC b o e hx) e1
 ·obtain⟨m1,e1⟩:=I.base.tbls b ps e
  obtain⟨m2,e2⟩:=tbls b _ e1
  exact⟨m1++m2,by rw[e2,Array.append_assoc]⟩
 ·obtain⟨m,hn,hl⟩:=I.loc
  refine⟨m,ns m hn,λ i x v e1 e2 e3=>?_⟩
  obtain⟨u,r,l⟩:=hl i x v e1 e2 e3
  refine⟨u,r,?_⟩
  rcases l with l|⟨k,c,e,z⟩
  ·exact .inl l
  ·exact .inr ⟨k,c,e,cellK x c e _ z⟩
 ·obtain⟨v,z⟩:=I.cell x c e
  exact⟨v,cellK x c e v z⟩
 ·obtain⟨m,⟨o,_,_,ho,_⟩,_⟩:=I.loc
  exact free _ o (λ z=>(hch _ z).2.1 rfl) ho I.free
 ·obtain⟨v,o,ho,hd⟩:=I.cell x c e
  exact free c o (λ z=>(hch c z).2.2.1 x c e rfl) ho (I.freeC x c e)
 ·obtain⟨e,n,ne,nf,d⟩:=I.pin p hp
  have nch:p.1∉ch:=λ z=>(hch p.1 z).2.2.2 p hp rfl
  exact⟨keep p.1 p.2 ne nf nch e n,free p.1 p.2 nch e n,ne,nf,d⟩
theorem Inv.un {t':Nat}(I:Inv X pins σ H s) (u:Un X.fs [] H H' s.heap h') (hok:HOk X.prog X.w H' h'):Inv X pins σ H' { s with heap:=h',toks:=t' }:=by
 obtain⟨m,⟨o,es,ep,ho,r⟩,_⟩:=id I.loc
 obtain⟨sl,hL⟩:=u.any ho I.free (by simp)
 exact I.step (g':=s.gens) (d':=s.drawn) (ch:=[]) (λ _ z=>nomatch z) (λ b o _ hb _ e n=>u.keep b o e n hb (by simp)) (λ b o _ hb _ e n=>u.slot b o e n hb (by simp)) (λ b o _ e n=>u.free b o e n (by simp)) (λ b o _ e=>u.there b o e (by simp)) u.tups u.frzs u.tbls (λ m' hm=>by
  obtain⟨o',es',ep',ho',r'⟩:=hm
  rw[ho] at ho';cases ho'
  exact⟨_,es',ep',hL,r'⟩) hok I.bare
theorem Inv.call {g':Array GenState}{t':Nat}{d':Drawn}{ch:List Addr}(I:Inv X pins σ H s) (u:Un (frs X.stack) ch H H' s.heap h') (hok:HOk X.prog X.w H' h') (hg:AllBare g')
  (hch:∀b∈ch,(b∈X.ex∨X.s₀.heap.objs.size<=b)/\b≠X.env.locals/\(∀x c,X.env.cells.lookup x=some c->c≠b)/\∀p∈X.pn++pins,p.1≠b) :
  Inv X pins σ H' { s with heap:=h',gens:=g',drawn:=d',toks:=t' }:=by
 obtain⟨m,⟨o,es,ep,ho,r⟩,_⟩:=id I.loc
 obtain⟨sl,hL⟩:=u.any ho I.free λ z=>(hch _ z).2.1 rfl
 exact I.step (ch:=ch) hch (λ b o hL hb hc e n=>u.keep b o e n (λ z=>(List.mem_cons.mp (I.stkSub b z)).elim hL hb) hc) (λ b o _ _ hc e n=>u.any e n hc) (λ b o hc e n=>u.free b o e n hc) (λ b o hc e=>u.there b o e hc) u.tups u.frzs u.tbls (λ m' hm=>by
  obtain⟨o',es',ep',ho',r'⟩:=hm
  rw[ho] at ho';cases ho'
  exact⟨_,es',ep',hL,r'⟩) hok hg
theorem Inv.turned {t':Nat}{it:Addr}(I:Inv X pins σ H s) (k:∀b o,b≠it->s.heap.get? b=some o->h'.get? b=some o) (hn:H it=none) (hL:it≠X.env.locals)
  (h1:it∈X.ex∨X.s₀.heap.objs.size<=it) (h2:∀x c,X.env.cells.lookup x=some c->c≠it) (h3:∀p∈X.pn++pins,p.1≠it):Inv X pins σ H { s with heap:=h',toks:=t' }:=by
 have nit:∀b u,H b=some u->b≠it:=λ b u e z=>by rw[z,hn] at e;cases e
 refine I.step (g':=s.gens) (d':=s.drawn) (ch:=[it]) (λ b hb=>?_) (λ b o _ _ hc e _=>k b o (λ z=>hc (by simp[z])) e) (λ b o _ _ hc e _=>⟨o.slots,k b o (λ z=>hc (by simp[z])) e⟩) (λ _ _ _ _ n=>n)
  (λ b o hc e=>⟨o,k b o (λ z=>hc (by simp[z])) e⟩) (λ _ _ e=>e) (λ _ _ _ e=>e) (λ b ps e=>⟨#[],by rw[e];simp⟩) (λ m hm=>?_) (λ b u e=>?_) I.bare
 ·have e:b=it:=by simpa using hb
  subst e
  exact⟨h1,hL,h2,h3⟩
 ·obtain⟨o,es,ep,ho,r⟩:=hm
  exact⟨o,es,ep,k _ o (Ne.symm hL) ho,r⟩
 ·refine(I.hok b u e).stay (λ c v hc q=>k c v ?_ q) (λ _ q=>q) λ _ _ q=>q
  rcases hc with z|z
  ·rw[z];exact nit b u e
  ·exact nit c _ z
theorem Inv.tok (I:Inv X pins σ H s) (t:Nat):Inv X pins σ H { s with toks:=t }:=I.un (h':=s.heap) (t':=t) Un.refl I.hok
theorem Inv.kept {t':Nat}(I:Inv X pins σ H s) (k:∀b u,s.heap.get? b=some u->h'.get? b=some u):Inv X pins σ H { s with heap:=h',toks:=t' }:=I.un (Un.kept k) (I.hok.kept k)
theorem Inv.laid {a:Addr}{o:HO}{t':Nat}(I:Inv X pins σ H s) (k:∀b u,s.heap.get? b=some u->h'.get? b=some u) (hp:s.heap.objs.size<=a) (new:Jcg X.prog X.w (upd H a o) h' a o) :
  Inv X pins σ (upd H a o) { s with heap:=h',toks:=t' }:=I.un (Un.laid k hp (I.hok.fresh hp)) (I.hok.laid k hp new)
theorem Inv.write {x e:Addr}{o:HO}{t':Nat}(I:Inv X pins σ H s) (mu:Mut (H x)) (he:e=x∨H e=some (.own x)) (k:∀b u,b≠e->s.heap.get? b=some u->h'.get? b=some u) (heo:∃u,h'.get? e=some u)
  (new:Jcg X.prog X.w (upd H x o) h' x o):Inv X pins σ (upd H x o) { s with heap:=h',toks:=t' }:=I.un (Un.write mu he k heo) (I.hok.write mu he k heo new)
theorem Inv.pins_of {pins':List (Addr×Obj)}(I:Inv X pins σ H s) (h:∀p∈pins',s.heap.get? p.1=some p.2/\H p.1=none/\p.1≠X.env.locals/\p.1∉X.fs/\∀v,p.2.data≠.cell v):Inv X pins' σ H s :=
 ⟨I.ok,I.os,I.bare,I.base,I.loc,I.cell,I.free,I.freeC,λ p hp=>(List.mem_append.mp hp).elim (λ z=>I.pin p (List.mem_append_left _ z)) (h p),I.hok,I.len⟩
theorem Jve {N:List Str}(hN:N.Nodup){i j:Nat}{x:Str}(a:N[i]?=some x) (b:N[j]?=some x):i=j:=by
 obtain⟨h1,e1⟩:=List.getElem?_eq_some_iff.mp a
 obtain⟨h2,e2⟩:=List.getElem?_eq_some_iff.mp b
 exact(List.getElem_inj hN).mp (e1.trans e2.symm)
theorem Jzm {M:Model}{A:Around}{E:Value->Shared->Prop}{i:Nat}{x:Str}{v:V}{u:Value}{Q:Unit->Shared->Prop}(I:Inv X pins σ H s) (hN:X.N.Nodup) (hi:X.N[i]?=some x) (hx:Loc X.env.scope x) (r:RelV v u)
  (h:∀s',Inv X pins (σ.set i (some v)) H s'->(∃a,Heap.SameBut a s.heap s'.heap/\(a=X.env.locals∨X.env.cells.lookup x=some a))->Q () s') (hf:X.fn x=true∨X.env.scope.names.lookup x=some .local:=by assumption):wpAny M A (storeName X.env x u) Q E s:=by
 obtain⟨m,hn,hl⟩:=id I.loc
 have hcls:(X.env.scope.kind==.class||(X.env.scope.kind==.module&&X.env.locals != X.env.globals))=false:=by rw[I.ok.kind];rfl
 have hiσ:i<σ.length:=by rw[I.len];exact(List.getElem?_eq_some_iff.mp hi).1
 have cne:=I.cne
 have tracked:∀{a:Addr}{h':Heap},(∃o,s.heap.get? a=some o/\H a=none)->Heap.SameBut a s.heap h'->HOk X.prog X.w H h':=λ {a h'} ha hs b ob e=>by
  obtain⟨_,_,hfree⟩:=ha
  refine(I.hok b ob e).stay (λ c w' hc q=>(hs.2 c ?_).trans q) (λ _ q=>q) λ _ _ q=>q
  rintro rfl
  rcases hc with rfl|hc
  ·rw[hfree] at e;cases e
  ·rw[hfree] at hc;cases hc
 rcases hx with hk|hk
 ·refine wpAny_storeName_local hk hn (λ h' hn' hs=>?_) hcls
  obtain⟨oL,_,_,hoL,_⟩:=id hn
  refine h _ ⟨I.ok,I.os,I.bare,⟨λ b o e n hb hx=>?_,λ b o e n hb hx=>?_,I.base.free,λ b o e hx=>?_,I.base.tups,I.base.frzs,I.base.tbls⟩,⟨_,hn',λ j y v' e1 e2 e3=>?_⟩,λ y c e=>?_,I.free,I.freeC,λ p hp=>?_,tracked ⟨oL,hoL,I.free⟩ hs,by simpa using I.len⟩ ⟨_,hs,.inl rfl⟩
  ·exact(hs.2 b (Nat.ne_of_lt (Nat.lt_of_lt_of_le (Heap.lt_size e) I.ok.above))).trans (I.base.keep b o e n hb hx)
  ·obtain⟨sl,e1⟩:=I.base.slot b o e n hb hx
   exact⟨sl,(hs.2 b (Nat.ne_of_lt (Nat.lt_of_lt_of_le (Heap.lt_size e) I.ok.above))).trans e1⟩
  ·obtain⟨o',e1⟩:=I.base.there b o e hx
   exact⟨o',(hs.2 b (Nat.ne_of_lt (Nat.lt_of_lt_of_le (Heap.lt_size e) I.ok.above))).trans e1⟩
  ·by_cases hj:j=i
   ·subst hj
    rw[hi] at e1;cases e1
    rw[List.getElem?_set_self hiσ] at e2
    cases e2
    exact⟨u,r,.inl ⟨hk,by simp⟩⟩
   ·rw[List.getElem?_set_ne (Ne.symm hj)] at e2
    obtain⟨u',r',q⟩:=hl j y v' e1 e2 e3
    refine⟨u',r',?_⟩
    rcases q with⟨k,e⟩|⟨k,c,e,z⟩
    ·refine .inl ⟨k,?_⟩
     have:y≠x:=λ e=>hj (Jve hN e1 (e▸hi))
     simp[this,e]
    ·exact .inr ⟨k,c,e,z.sameBut hs (cne y c e)⟩
  ·obtain⟨w',z⟩:=I.cell y c e
   exact⟨w',z.sameBut hs (cne y c e)⟩
  ·obtain⟨e,n,ne,nf,d⟩:=I.pin p hp
   exact⟨(hs.2 p.1 ne).trans e,n,ne,nf,d⟩
 ·have hfn:X.fn x=true:=by
   rcases hf with z|z
   ·exact z
   ·rw[z] at hk;cases hk
  obtain⟨c,hc⟩:=I.ok.has x (.inl hk)
  obtain⟨w',z⟩:=I.cell x c hc
  refine wpAny_storeName_cell I.ok.kind hk hc z (λ h' hc' hs=>?_)
  obtain⟨oc,hoc,hocd⟩:=id z
  refine h { s with heap:=h' } ⟨I.ok,I.os,I.bare,⟨λ b o e n hb hx=>?_,λ b o e n hb hx=>?_,I.base.free,λ b o e hx=>?_,I.base.tups,I.base.frzs,I.base.tbls⟩,⟨m,hn.sameBut hs (Ne.symm (cne x c hc)),λ j y v' e1 e2 e3=>?_⟩,λ y c' e=>?_,I.free,I.freeC,λ p hp=>?_,tracked ⟨oc,hoc,I.freeC x c hc⟩ hs,by simpa using I.len⟩ ⟨c,hs,.inr hc⟩
  ·exact(hs.2 b (Nat.ne_of_lt (Nat.lt_of_lt_of_le (Heap.lt_size e) (I.ok.cab x c hfn hc)))).trans (I.base.keep b o e n hb hx)
  ·obtain⟨sl,e1⟩:=I.base.slot b o e n hb hx
   exact⟨sl,(hs.2 b (Nat.ne_of_lt (Nat.lt_of_lt_of_le (Heap.lt_size e) (I.ok.cab x c hfn hc)))).trans e1⟩
  ·obtain⟨o',e1⟩:=I.base.there b o e hx
   exact⟨o',(hs.2 b (Nat.ne_of_lt (Nat.lt_of_lt_of_le (Heap.lt_size e) (I.ok.cab x c hfn hc)))).trans e1⟩
  ·by_cases hj:j=i
   ·subst hj
    rw[hi] at e1;cases e1
    rw[List.getElem?_set_self hiσ] at e2
    cases e2
    exact⟨u,r,.inr ⟨.inl hk,c,hc,hc'⟩⟩
   ·rw[List.getElem?_set_ne (Ne.symm hj)] at e2
    obtain⟨u',r',q⟩:=hl j y v' e1 e2 e3
    refine⟨u',r',?_⟩
    rcases q with q|⟨k,c',e,z'⟩
    ·exact .inl q
    ·refine .inr ⟨k,c',e,z'.sameBut hs ?_⟩
     rintro rfl
     exact hj (Jve hN e1 (I.ok.inj _ _ _ e hc▸hi))
  ·by_cases hcc:c'=c
   ·subst hcc;exact⟨_,hc'⟩
   ·obtain⟨w2,z2⟩:=I.cell y c' e
    exact⟨w2,z2.sameBut hs hcc⟩
  ·obtain⟨e,n,ne,nf,d⟩:=I.pin p hp
   refine⟨(hs.2 p.1 ?_).trans e,n,ne,nf,d⟩
   intro q
   rw[q,hoc] at e
   have q':oc=p.2:=Option.some.inj e
   exact d w' (by rw[<- q'];exact hocd)
theorem Jq6 {M:Model}{A:Around}{E:Value->Shared->Prop}{i:Nat}{x:Str}{v:V}{u:Value}{Q:Unit->Shared->Prop}(I:Inv X pins σ H s) (hN:X.N.Nodup) (hi:X.N[i]?=some x) (hx:Loc X.env.scope x) (r:RelV v u)
  (h:∀s',Inv X pins (σ.set i (some v)) H s'->Q () s') (hf:X.fn x=true∨X.env.scope.names.lookup x=some .local:=by assumption):wpAny M A (storeName X.env x u) Q E s :=
 Jzm I hN hi hx r (λ s' I' _=>h s' I') hf
theorem Inv.call' {s':Shared}{ch:List Addr}(I:Inv X pins σ H s) (ho:s'.os=s.os) (u:Un (frs X.stack) ch H H' s.heap s'.heap) (hok:HOk X.prog X.w H' s'.heap) (hg:AllBare s'.gens)
  (hch:∀b∈ch,(b∈X.ex∨X.s₀.heap.objs.size<=b)/\b≠X.env.locals/\(∀x c,X.env.cells.lookup x=some c->c≠b)/\∀p∈X.pn++pins,p.1≠b):Inv X pins σ H' s':=by
 obtain⟨h',g',d',t',o'⟩:=s'
 have e:o'=s.os:=ho
 subst e
 exact I.call (g':=g') (t':=t') (d':=d') u hok hg hch
end
noncomputable abbrev XK:=Value->Option Addr->Hp->Prop
noncomputable abbrev St:=List (Option V)
noncomputable abbrev VK:=V->Hp->Prop
noncomputable abbrev TE:=St->Hp->VK->Prop
noncomputable abbrev TT:=St->Hp->(Bool->Hp->Prop)->Prop
noncomputable abbrev TA:=St->Hp->(List V->Hp->Prop)->Prop
structure Ends where
 nx:St->Hp->Prop
 rt:VK
 bk:St->Hp->Prop:=λ _ _=>False
 ct:St->Hp->Prop:=λ _ _=>False
noncomputable abbrev TS:=Ends->St->Hp->Prop
noncomputable def EP (X:Cx) (pins:List (Addr×Obj)) (σ:St) (Q:VK) (u:Value) (s':Shared):Prop:=∃v H',Inv X pins σ H' s'/\RelV v u/\Q v H'
noncomputable def TP (X:Cx) (pins:List (Addr×Obj)) (σ:St) (Q:Bool->Hp->Prop) (b:Bool) (s':Shared):Prop:=∃H',Inv X pins σ H' s'/\Q b H'
noncomputable def SP (X:Cx) (pins:List (Addr×Obj)) (D:Ends) (f:Flow) (s':Shared):Prop :=
 match f with
 | .next=>∃σ' H',Inv X pins σ' H' s'/\D.nx σ' H'
 | .brk=>∃σ' H',Inv X pins σ' H' s'/\D.bk σ' H'
 | .cont=>∃σ' H',Inv X pins σ' H' s'/\D.ct σ' H'
 | .ret u=>∃v σ' H',Inv X pins σ' H' s'/\RelV v u/\D.rt v H'
noncomputable def PE (X:Cx) (e:Expr) (t:TE):Prop :=
 ∀(pins:List (Addr×Obj)) (s:Shared) (σ:St) (H:Hp) (Q:VK),Inv X pins σ H s->t σ H Q->wpAny (model X.prog X.w) X.A (eval e X.env) (EP X pins σ Q) X.xe s
noncomputable def PT (X:Cx) (e:Expr) (t:TT):Prop :=
 ∀(pins:List (Addr×Obj)) (s:Shared) (σ:St) (H:Hp) (Q:Bool->Hp->Prop),Inv X pins σ H s->t σ H Q->wpAny (model X.prog X.w) X.A (isTrue e X.env (eval e X.env)) (TP X pins σ Q) X.xe s
noncomputable def PW (X:Cx) (e:Expr) (t:TT):Prop :=
 ∀(whole:Sem Value) (pins:List (Addr×Obj)) (s:Shared) (σ:St) (H:Hp) (Q:Bool->Hp->Prop),Inv X pins σ H s->t σ H Q->wpAny (model X.prog X.w) X.A (isTrue e X.env whole) (TP X pins σ Q) X.xe s
theorem PW.pt {X:Cx}{e:Expr}{t:TT}(h:PW X e t):PT X e t:=h _
noncomputable def PSs (X:Cx) (st:List Stmt) (t:TS):Prop :=
 ∀(pins:List (Addr×Obj)) (s:Shared) (σ:St) (H:Hp) (D:Ends),Inv X pins σ H s->t D σ H->wpAny (model X.prog X.w) X.A (execs st X.env) (SP X pins D) X.xe s
theorem thn {α:Type}{t:Sem α}{Q Q':α->Shared->Prop}{M:Model}{A:Around}{E:Value->Shared->Prop}{s:Shared}(h:wpAny M A t Q E s) (hQ:∀a s,Q a s->Q' a s):wpAny M A t Q' E s:=wpAny_mono h hQ λ _ _ x=>x
section
variable {X:Cx}
noncomputable def tVar (i:Nat):TE:=λ σ H Q=>∃v,σ[i]?=some (some v)/\Q v H
noncomputable def tC (v:V):TE:=λ _ H Q=>Q v H
theorem J7e {i:Nat}{x:Str}{pos:Pos}(hN:X.N[i]?=some x) (hv:Vis X.env.scope x) (hd:(x==("__debug__":Str))=false:=by decide) (hcd:(x==("__classdict__":Str))=false:=by decide):PE X (.Name x pos) (tVar i):=by
 intro pins s σ H Q I h
 obtain⟨v,e,h⟩:=h
 obtain⟨m,hn,hl⟩:=I.loc
 obtain⟨u,r,l⟩:=hl i x v hN e hv
 have fin:EP X pins σ Q u s:=⟨v,H,I,r,h⟩
 rcases l with⟨hk,hm⟩|⟨hk,c,hc,hcell⟩
 ·exact wpAny_Name (wpAny_loadName_local I.ok.kind hk hn hm fin) hd
 ·rcases hk with hk|hk
  ·exact wpAny_Name (wpAny_loadName_cell I.ok.kind hk hc hcell fin) hd
  ·exact wpAny_Name (wpAny_loadName_free I.ok.kind hk hc hcell fin hcd) hd
theorem J7b {i j pos}:PE X (.Constant (.int i) j pos) (tC (.int i)):=λ _ _ _ H _ I h=>wpAny_Constant_int ⟨.int i,H,I.tok _,⟨_,rfl⟩,h⟩
theorem pe_bl {b j pos}:PE X (.Constant (.bool b) j pos) (tC (.bl b)):=λ _ _ _ H _ I h=>Constant_bool ⟨.bl b,H,I,rfl,h⟩
theorem J7c {j pos}:PE X (.Constant .none j pos) (tC .non):=λ _ _ _ H _ I h=>Constant_none ⟨.non,H,I,rfl,h⟩
theorem J7d {x j pos}:PE X (.Constant (.str x) j pos) (tC (.str x)):=λ _ _ _ H _ I h=>Calls.Constant_str ⟨.str x,H,I.tok _,⟨_,rfl⟩,h⟩
noncomputable def Gl (X:Cx) (x:Str):Prop:=X.env.kindOf x=some .globalImplicit
theorem Jiy {E:Value->Shared->Prop}{pins:List (Addr×Obj)}{s:Shared}{σ:St}{H:Hp}{x:Str}{u:Value}{pos:Pos}{Q:Value->Shared->Prop}(I:Inv X pins σ H s) (hg:Gl X x) (hm:X.mg x=some u) (h:Q u s)
  (hd:(x==("__debug__":Str))=false:=by decide):wpAny (model X.prog X.w) X.A (eval (.Name x pos) X.env) Q E s :=
 Calls.Name_function_global I.ok.kind hg (Calls.loadGlobal_global (by rw[I.ok.glob];exact I.mod.glob.keeps I.bk) hm h) hd
theorem Jhs {E:Value->Shared->Prop}{pins:List (Addr×Obj)}{s:Shared}{σ:St}{H:Hp}{x:Str}{u:Value}{pos:Pos}{Q:Value->Shared->Prop}(I:Inv X pins σ H s) (hg:Gl X x) (hm:X.mg x=none) (hv:bootBuiltins x=some u) (h:Q u s)
  (hn:x≠"__name__":=by decide) (hd:(x==("__debug__":Str))=false:=by decide):wpAny (model X.prog X.w) X.A (eval (.Name x pos) X.env) Q E s:=by
 obtain⟨mb,h1,h2⟩:=I.mod.blt
 exact Calls.Name_function_global I.ok.kind hg (Calls.loadGlobal_builtin (by rw[I.ok.glob];exact I.mod.glob.keeps I.bk) hm (by rw[I.ok.blt];exact h1.keeps I.bk) ((h2 x hn).trans hv) h) hd
theorem J4m {x:Str}{v:V}{u:Value}{pos:Pos}(hg:Gl X x) (hm:X.mg x=some u) (r:RelV v u) (hd:(x==("__debug__":Str))=false:=by decide):PE X (.Name x pos) (tC v) :=
 λ _ _ _ H _ I h=>Jiy I hg hm ⟨v,H,I,r,h⟩ hd
variable {a b:Expr}{ta tb:TE}{pos:Pos}
variable {tA tB':TT}{rest:List Expr}
end
noncomputable def SqL (K:W.Frag) (H:Hp) (a:Addr) (xs:List V):Prop :=
 Rd H a (.lst xs) ∨
  ∃(o:Obj) (its:Array Value) (n:Nat),K.lookup a=some o/\o.cls=.type "list"/\o.dict=none/\o.data=.seq its n/\its.size<=sizeLine/\Vals xs its.toList
noncomputable def SqT (K:W.Frag) (H:Hp) (a:Addr) (xs:List V):Prop :=
 Rd H a (.tup xs) ∨
  ∃(o:Obj) (its:Array Value) (n:Nat),K.lookup a=some o/\o.cls=.type "tuple"/\o.data=.seq its n/\its.size<=sizeLine/\Vals xs its.toList
noncomputable def absV:Value->Option V
 | .none=>some .non
 | .bool b=>some (.bl b)
 | .int i _=>some (.int i)
 | .str x _=>some (.str x)
 | .bytes b _=>some (.byt b)
 | .float b _=>some (.flt b)
 | .ref a=>some (.ref a)
 | .type n=>some (.ty n)
 | _=>none
theorem RelV.abs {x:V}{u:Value}(r:RelV x u):absV u=some x:=by
 cases x with
 | non=>cases r;rfl
 | bl _=>cases r;rfl
 | int _=>obtain⟨t,rfl⟩:=r;rfl
 | str _=>obtain⟨t,rfl⟩:=r;rfl
 | byt _=>obtain⟨t,rfl⟩:=r;rfl
 | flt _=>obtain⟨t,rfl⟩:=r;rfl
 | ref _=>cases r;rfl
 | ty _=>cases r;rfl
theorem RelV.inj {x y:V}{u:Value}(r:RelV x u) (q:RelV y u):x=y:=Option.some.inj (r.abs.symm.trans q.abs)
theorem Vals.inj:∀{xs ys:List V}{us:List Value},Vals xs us->Vals ys us->xs=ys
 | _,_,_,.nil,.nil=>rfl
 | _,_,_,.cons r t,.cons r' t'=>by rw[r.inj r',Vals.inj t t']
section
variable {X:Cx}{pins:List (Addr×Obj)}{σ:St}{H:Hp}{s:Shared}{a:Addr}{xs ys:List V}
theorem SqL.of {K:W.Frag}(h:H a=some (.lst xs)):SqL K H a xs:=.inl (.inl h)
theorem SqT.of {K:W.Frag}(h:H a=some (.tup xs)):SqT K H a xs:=.inl (.inl h)
theorem Inv.list (I:Inv X pins σ H s) (h:SqL X.K H a xs):∃its:List Value,Vals xs its/\PlainL s.heap a its.toArray/\xs.length<=sizeLine:=by
 rcases h with h|⟨o,its,n,hk,hc,hd,hs,hz,r⟩
 ·obtain⟨z,its,n,r,e⟩:=h.ok I.hok
  exact⟨its,r,⟨_,n,e,rfl,rfl,rfl⟩,z⟩
 ·refine⟨its.toList,r,⟨o,n,I.kIn a o hk,hc,hd,by simpa using hs⟩,?_⟩
  have e:=r.length
  simp only[Array.length_toList] at e
  omega
theorem Inv.tuple (I:Inv X pins σ H s) (h:SqT X.K H a xs):∃its:List Value,Vals xs its/\IsTup s.heap a its.toArray/\xs.length<=sizeLine:=by
 rcases h with h|⟨o,its,n,hk,hc,hs,hz,r⟩
 ·obtain⟨z,its,r,p⟩:=h.ok I.hok
  exact⟨its,r,p,z⟩
 ·refine⟨its.toList,r,⟨o,I.kIn a o hk,hc,n,by simpa using hs⟩,?_⟩
  have e:=r.length
  simp only[Array.length_toList] at e
  omega
theorem Inv.list_inj (I:Inv X pins σ H s) (h:SqL X.K H a xs) (h':SqL X.K H a ys):xs=ys:=by
 obtain⟨its,r,⟨o,n,e,_,_,d⟩,_⟩:=I.list h
 obtain⟨its',r',⟨o',n',e',_,_,d'⟩,_⟩:=I.list h'
 rw[e] at e';cases e'
 rw[d] at d'
 injection d' with d1 _
 have:its=its':=by simpa using congrArg Array.toList d1
 subst this
 exact r.inj r'
theorem Inv.tuple_inj (I:Inv X pins σ H s) (h:SqT X.K H a xs) (h':SqT X.K H a ys):xs=ys:=by
 obtain⟨its,r,⟨o,e,_,n,d⟩,_⟩:=I.tuple h
 obtain⟨its',r',⟨o',e',_,n',d'⟩,_⟩:=I.tuple h'
 rw[e] at e';cases e'
 rw[d] at d'
 injection d' with d1 _
 have:its=its':=by simpa using congrArg Array.toList d1
 subst this
 exact r.inj r'
end
noncomputable abbrev Cx.wish (X:Cx) (E:Value->Shared->Prop):Cx:={ X with xe:=E }
noncomputable abbrev Cx.nox (X:Cx):Cx:=X.wish λ _ _=>False
theorem Cx.Ok.wish {X:Cx}(ok:X.Ok) (E:Value->Shared->Prop):(X.wish E).Ok :=
 ⟨ok.mod,ok.kind,ok.glob,ok.blt,ok.above,ok.inj,ok.has,ok.cab,ok.hd,ok.frames,ok.stk,ok.exf,ok.bs,ok.bsz,ok.noex,ok.exfs,ok.funs,ok.frf⟩
theorem Cx.Ok.unwish {X:Cx}{E:Value->Shared->Prop}(ok:(X.wish E).Ok):X.Ok :=
 ⟨ok.mod,ok.kind,ok.glob,ok.blt,ok.above,ok.inj,ok.has,ok.cab,ok.hd,ok.frames,ok.stk,ok.exf,ok.bs,ok.bsz,ok.noex,ok.exfs,ok.funs,ok.frf⟩
section
variable {X:Cx}{pins:List (Addr×Obj)}{σ:St}{H:Hp}{s:Shared}{E:Value->Shared->Prop}
theorem Inv.wish (I:Inv X pins σ H s) (E:Value->Shared->Prop):Inv (X.wish E) pins σ H s:=⟨I.ok.wish E,I.os,I.bare,I.base,I.loc,I.cell,I.free,I.freeC,I.pin,I.hok,I.len⟩
theorem Inv.unwish (I:Inv (X.wish E) pins σ H s):Inv X pins σ H s:=⟨I.ok.unwish,I.os,I.bare,I.base,I.loc,I.cell,I.free,I.freeC,I.pin,I.hok,I.len⟩
theorem SP.unwish {D:Ends}{f:Flow}{s':Shared}(h:SP (X.wish E) pins D f s'):SP X pins D f s':=by
 cases f with
 | next=>obtain⟨σ',H',I,q⟩:=h;exact⟨σ',H',I.unwish,q⟩
 | brk=>obtain⟨σ',H',I,q⟩:=h;exact⟨σ',H',I.unwish,q⟩
 | cont=>obtain⟨σ',H',I,q⟩:=h;exact⟨σ',H',I.unwish,q⟩
 | ret u=>obtain⟨v,σ',H',I,r,q⟩:=h;exact⟨v,σ',H',I.unwish,r,q⟩
theorem PE.nox {e:Expr}{t:TE}(h:PE X.nox e t):PE X e t:=λ pins s σ H Q I hw =>
 wpAny_mono (h pins s σ H Q (I.wish _) hw) (λ _ _ ⟨v,H',I',r,q⟩=>⟨v,H',I'.unwish,r,q⟩) λ _ _ z=>False.elim z
theorem PT.nox {e:Expr}{t:TT}(h:PT X.nox e t):PT X e t:=λ pins s σ H Q I hw =>
 wpAny_mono (h pins s σ H Q (I.wish _) hw) (λ _ _ ⟨H',I',q⟩=>⟨H',I'.unwish,q⟩) λ _ _ z=>False.elim z
theorem PSs.nox {st:List Stmt}{t:TS}(h:PSs X.nox st t):PSs X st t:=λ pins s σ H D I hw =>
 wpAny_mono (h pins s σ H D (I.wish _) hw) (λ _ _ q=>q.unwish) λ _ _ z=>False.elim z
end
section
variable {X:Cx}{st:Stmt}{rest:List Stmt}{t u:TS}{e:Expr}{te:TE}{pos:Pos}
theorem Inv.quiet {pins:List (Addr×Obj)}{σ:St}{H:Hp}{s:Shared}(I:Inv X pins σ H s):interactive X.env=false:=by simp[interactive,I.ok.kind]
end
section
variable {X:Cx}{pos:Pos}
end
structure It where
 go:Nat->Hp->Prop
 yld:Nat->Hp->V->Hp->Prop
 stop:Nat->Hp->Prop
noncomputable def FpOk (X:Cx) (pins:List (Addr×Obj)) (H:Hp) (b:Addr):Prop :=
 H b=none/\b≠X.env.locals/\b∉X.fs/\(b∈X.ex∨X.s₀.heap.objs.size<=b)/\(∀x c,X.env.cells.lookup x=some c->c≠b)/\∀p∈X.pn++pins,p.1≠b
theorem Inv.fpOk {X:Cx}{pins:List (Addr×Obj)}{σ:St}{H H':Hp}{s:Shared}{b:Addr}(I:Inv X pins σ H s) (hb:s.heap.objs.size<=b) (hn:H' b=none):FpOk X pins H' b:=by
 refine⟨hn,Nat.ne_of_gt (Nat.lt_of_lt_of_le I.lt hb),I.nofs hb,.inr (Nat.le_trans I.sz hb),λ x c e z=>?_,λ p hp z=>?_⟩
 ·obtain⟨v,q⟩:=I.cell x c e
  exact absurd (Nat.lt_of_lt_of_le q.lt (by rw[z];exact hb)) (Nat.lt_irrefl _)
 ·exact absurd (Nat.lt_of_lt_of_le (Heap.lt_size (I.pin p hp).1) (by rw[z];exact hb)) (Nat.lt_irrefl _)
structure Turn (P:Program) (w:World) (K:W.Frag) (tg:Expr) (J:It) (fp:List Addr) (it:Addr) (tn:Nat->Heap->Prop):Prop where
 mem:it∈fp
 obj:∀i h,tn i h->∀b∈fp,∃o,h.get? b=some o/\∀v,o.data≠.cell v
 keep:∀i h h',tn i h->(∀b∈fp,∀o,h.get? b=some o->h'.get? b=some o)->tn i h'
 item:∀(X:Cx),X.prog=P->X.w=w->X.K=K->X.calm=true->∀(i:Nat) (pins:List (Addr×Obj)) (s:Shared) (σ:St) (H:Hp) (E:Value->Shared->Prop),Inv X pins σ H s->(∀b∈fp,FpOk X pins H b)->tn i s.heap->J.go i H ->
  wpAny (model P w) X.A (pyNext (.ref it)) (λ r s1=>∃u,r=some u /\
   wpAny (model P w) X.A (letOwnedTupleGo tg (.ref it) u) (λ _ s2=>∃x H',Inv X pins σ H' s2/\RelV x u/\J.yld i H x H'/\tn (i+1) s2.heap/\∀b∈fp,H' b=none) E s1) E s
 done:∀(X:Cx),X.prog=P->X.w=w->X.K=K->X.calm=true->∀(i:Nat) (pins:List (Addr×Obj)) (s:Shared) (σ:St) (H:Hp) (E:Value->Shared->Prop),Inv X pins σ H s->(∀b∈fp,FpOk X pins H b)->tn i s.heap->J.stop i H ->
  wpAny (model P w) X.A (pyNext (.ref it)) (λ r s1=>r=none/\Inv X pins σ H s1) E s
 self:∀(A:Around) (i:Nat) (s:Shared) (Q:Value->Shared->Prop) (E:Value->Shared->Prop),tn i s.heap->Q (.ref it) s->wpAny (model P w) A (pyIter (.ref it)) Q E s
noncomputable abbrev TI:=St->Hp->(It->Hp->Prop)->Prop
noncomputable def PIE (X:Cx) (pins:List (Addr×Obj)) (σ:St) (tg:Expr) (R:It->Hp->Prop) (itv:Value) (s2:Shared):Prop :=
 ∃(it:Addr) (fp:List Addr) (tn:Nat->Heap->Prop) (J:It) (H':Hp),itv=.ref it/\Inv X pins σ H' s2/\Turn X.prog X.w X.K tg J fp it tn/\tn 0 s2.heap/\(∀b∈fp,FpOk X pins H' b)/\R J H'
noncomputable def PI (X:Cx) (tg iter:Expr) (wi:TI):Prop :=
 ∀(pins:List (Addr×Obj)) (s:Shared) (σ:St) (H:Hp) (R:It->Hp->Prop),Inv X pins σ H s->wi σ H R ->
  wpAny (model X.prog X.w) X.A (eval iter X.env) (λ v s1=>wpAny (model X.prog X.w) X.A (pyIter v) (PIE X pins σ tg R) X.xe s1) X.xe s
theorem J0n {M:Model}{A:Around}{E:Value->Shared->Prop}{s:Shared}{tg:Expr}{it:Addr}{u:Value}{o:Obj}{n:String}{vs:Array Value}{Q:Unit->Shared->Prop}(ho:s.heap.get? it=some o) (hc:o.cls=.type n) (hd:o.data=.fields vs)
  (hn:["enumerate","zip","dict_itemiterator","dict_reverseitemiterator","odict_iterator","itertools.zip_longest","itertools.pairwise"].contains n=false) (hQ:Q () s):wpAny M A (letOwnedTupleGo tg (.ref it) u) Q E s:=by
 unfold letOwnedTupleGo
 cases tg<;>first
  | exact wpAny_pure hQ
  | (cases u<;>first
    | exact wpAny_pure hQ
    | (refine wpAny_bind (wpAny_load ho ?_)
       rw[hc,hd]
       show wpAny M A (if (["enumerate","zip","dict_itemiterator","dict_reverseitemiterator","odict_iterator","itertools.zip_longest","itertools.pairwise"].contains n&&vs[0]?==some (rawInt _))=true then _ else _) Q E s
       rw[if_neg (by intro h;rw[hn,Bool.false_and] at h;cases h)]
       exact wpAny_pure hQ))
noncomputable def Itl (K:W.Frag) (a:Addr):It :=
 ⟨λ i H=>∃xs x,SqL K H a xs/\xs[i]?=some x,λ i H x H'=>H'=H/\∀xs,SqL K H a xs->xs[i]?=some x,λ i H=>∃xs,SqL K H a xs/\xs.length<=i⟩
noncomputable def Itt (K:W.Frag) (a:Addr):It :=
 ⟨λ i H=>∃xs x,SqT K H a xs/\xs[i]?=some x,λ i H x H'=>H'=H/\∀xs,SqT K H a xs->xs[i]?=some x,λ i H=>∃xs,SqT K H a xs/\xs.length<=i⟩
noncomputable def Itr (lo:Int) (n:Nat):It:=⟨λ i _=>i<n,λ i H x H'=>H'=H/\x=.int (lo+i),λ i _=>n<=i⟩
theorem Jtm {P:Program}{w:World}{K:W.Frag}{tg:Expr}(a it:Addr):Turn P w K tg (Itl K a) [it] it (λ i h=>h.IsListIter it a i) where
 mem:=by simp
 obj:=λ i h st b hb=>by
  have e:b=it:=by simpa using hb
  subst e
  obtain⟨o,e,c,d⟩:=st
  exact⟨o,e,λ v z=>by rw[d] at z;cases z⟩
 keep:=λ i h h' st k=>st.at λ o e=>k it (by simp) o e
 item:=by
  intro X hP hw hK hc i pins s σ H E I hf st hg
  subst hP hw hK
  obtain⟨xs,x,hq,hx⟩:=hg
  obtain⟨its,rv,p,hz⟩:=I.list hq
  obtain⟨u,hu,ru⟩:=rv.get hx
  obtain⟨f0,f1,f2,f3,f4,f5⟩:=hf it (by simp)
  refine wpAny_pyNext_list_item st p.isList (x:=u) (by simpa using hu) λ h' st' sb=>?_
  have I1:Inv X pins σ H { s with heap:=h' }:=I.turned (t':=s.toks) (λ b o hb e=>(sb.2 b hb).trans e) f0 f1 f3 f4 f5
  obtain⟨o,e,c,d⟩:=id st'
  exact⟨u,rfl,J0n (s:={ s with heap:=h' }) e c d (by decide) ⟨x,H,I1,ru,⟨rfl,λ ys hy=>by rw[I.list_inj hy hq];exact hx⟩,st',λ b hb=>(hf b hb).1⟩⟩
 done:=by
  intro X hP hw hK hc i pins s σ H E I hf st hg
  subst hP hw hK
  obtain⟨xs,hq,hx⟩:=hg
  obtain⟨its,rv,p,hz⟩:=I.list hq
  obtain⟨f0,f1,f2,f3,f4,f5⟩:=hf it (by simp)
  have hl:=rv.length
  exact wpAny_pyNext_list_end (I.ok.hd hc) st p.isList (by simp;omega) λ h' eb=>⟨rfl,I.turned (t':=s.toks) (λ b o hb e=>eb b o hb e) f0 f1 f3 f4 f5⟩
 self:=λ _ _ _ _ _ st h=>wpAny_pyIter_listiter st h
theorem Jxb {P:Program}{w:World}{K:W.Frag}{tg:Expr}(a it:Addr):Turn P w K tg (Itt K a) [it] it (λ i h=>h.IsTupleIter it a i) where
 mem:=by simp
 obj:=λ i h st b hb=>by
  have e:b=it:=by simpa using hb
  subst e
  obtain⟨o,e,c,d⟩:=st
  exact⟨o,e,λ v z=>by rw[d] at z;cases z⟩
 keep:=λ i h h' st k=>st.at λ o e=>k it (by simp) o e
 item:=by
  intro X hP hw hK hc i pins s σ H E I hf st hg
  subst hP hw hK
  obtain⟨xs,x,hq,hx⟩:=hg
  obtain⟨its,rv,p,hz⟩:=I.tuple hq
  obtain⟨u,hu,ru⟩:=rv.get hx
  obtain⟨f0,f1,f2,f3,f4,f5⟩:=hf it (by simp)
  refine wpAny_pyNext_tuple_item st (show s.heap.IsTuple a its.toArray from p) (x:=u) (by simpa using hu) λ h' st' sb=>?_
  have I1:Inv X pins σ H { s with heap:=h' }:=I.turned (t':=s.toks) (λ b o hb e=>(sb.2 b hb).trans e) f0 f1 f3 f4 f5
  obtain⟨o,e,c,d⟩:=id st'
  exact⟨u,rfl,J0n (s:={ s with heap:=h' }) e c d (by decide) ⟨x,H,I1,ru,⟨rfl,λ ys hy=>by rw[I.tuple_inj hy hq];exact hx⟩,st',λ b hb=>(hf b hb).1⟩⟩
 done:=by
  intro X hP hw hK hc i pins s σ H E I hf st hg
  subst hP hw hK
  obtain⟨xs,hq,hx⟩:=hg
  obtain⟨its,rv,p,hz⟩:=I.tuple hq
  obtain⟨f0,f1,f2,f3,f4,f5⟩:=hf it (by simp)
  have hl:=rv.length
  exact wpAny_pyNext_tuple_end (I.ok.hd hc) st (show s.heap.IsTuple a its.toArray from p) (by simp;omega) λ h' eb=>⟨rfl,I.turned (t':=s.toks) (λ b o hb e=>eb b o hb e) f0 f1 f3 f4 f5⟩
 self:=λ _ _ _ _ _ st h=>wpAny_pyIter_tupleiter st h
theorem Jxa {P:Program}{w:World}{K:W.Frag}{tg:Expr}(it:Addr) (lo:Int) (n:Nat):Turn P w K tg (Itr lo n) [it] it (λ i h=>IsRangeIter h it (lo+(i:Nat)*1) ((n:Int)-(i:Nat)) 1) where
 mem:=by simp
 obj:=λ i h st b hb=>by
  have e:b=it:=by simpa using hb
  subst e
  exact⟨_,st,λ v z=>by
   have z':Data.fields _=Data.cell v:=z
   cases z'⟩
 keep:=λ i h h' st k=>k it (by simp) _ st
 item:=by
  intro X hP hw hK hc i pins s σ H E I hf st hg
  subst hP hw hK
  obtain⟨f0,f1,f2,f3,f4,f5⟩:=hf it (by simp)
  have W:=Walks.range (prog:=X.prog) (w:=X.w) (I.ok.hd hc) it lo 1 n
  refine W.item i s _ _ hg st λ v h' tk hv st' kk=>?_
  obtain⟨t,rfl⟩:=hv
  have I1:Inv X pins σ H { s with heap:=h',toks:=tk }:=I.turned (λ b o hb e=>kk b o (by simpa using hb) e) f0 f1 f3 f4 f5
  refine⟨_,rfl,J0n (s:={ s with heap:=h',toks:=tk }) (n:="range_iterator") st' rfl rfl (by decide) ⟨.int (lo+i),H,I1,⟨t,?_⟩,⟨rfl,rfl⟩,st',λ b hb=>(hf b hb).1⟩⟩
  rw[Int.mul_one]
 done:=by
  intro X hP hw hK hc i pins s σ H E I hf st hg
  subst hP hw hK
  obtain⟨f0,f1,f2,f3,f4,f5⟩:=hf it (by simp)
  exact wpAny_pyNext_range_end (I.ok.hd hc) st (by have:n<=i:=hg;omega) λ h' eb=>⟨rfl,I.turned (t':=s.toks) (λ b o hb e=>eb b o hb e) f0 f1 f3 f4 f5⟩
 self:=λ _ _ _ _ _ st h=>wpAny_pyIter_rangeiter st h
section
variable {X:Cx}{tg:Expr}
theorem J1k {pins:List (Addr×Obj)}{σ:St}{H:Hp}{s:Shared}{R:It->Hp->Prop}{E:Value->Shared->Prop}{lo hi:Int}{t u v:Tok}{tk:Nat}(I:Inv X pins σ H s) (h1: -(2^62)<=lo) (h2:lo<2^62) (h3: -(2^62)<=hi) (h4:hi<2^62)
  (q:R (Itr lo (hi-lo).toNat) H):wpAny (model X.prog X.w) X.A (pyIter (.ref s.heap.objs.size)) (PIE X pins σ tg R) E { s with heap:=s.heap.push { cls:=.type "range",data:=.fields #[.int lo t,.int hi u,.int 1 v] },toks:=tk }:=by
 refine wpAny_pyIter_range (IsRange.new ..) (small_one h1 h2 h3 h4) ?_
 have I1:Inv X pins σ H { s with heap:=s.heap.push { cls:=.type "range",data:=.fields #[.int lo t,.int hi u,.int 1 v] },toks:=tk }:=I.kept λ b o e=>Heap.get?_push_of_some _ e
 refine⟨(s.heap.push { cls:=.type "range",data:=.fields #[.int lo t,.int hi u,.int 1 v] }).objs.size,[(s.heap.push { cls:=.type "range",data:=.fields #[.int lo t,.int hi u,.int 1 v] }).objs.size],_,_,H,rfl,
  I1.kept (t':=tk) λ b o e=>Heap.get?_push_of_some _ e,Jxa _ lo (hi-lo).toNat,?_,λ b hb=>?_,q⟩
 ·have e1:lo+((0:Nat):Int)*1=lo:=by simp
  have e2:(((hi-lo).toNat:Nat):Int)-((0:Nat):Int)=Builtin.Range.rangeSize lo hi 1:=by rw[rangeSize_one];split<;>omega
  show IsRangeIter _ _ (lo+((0:Nat):Int)*1) ((((hi-lo).toNat:Nat):Int)-((0:Nat):Int)) 1
  rw[e1,e2]
  exact Heap.get?_push_size _ rfl
 ·have e:b=(s.heap.push { cls:=.type "range",data:=.fields #[.int lo t,.int hi u,.int 1 v] }).objs.size:=by simpa using hb
  subst e
  exact I1.fpOk (Nat.le_refl _) (I1.hok.fresh (Nat.le_refl _))
noncomputable def Jfm (fp:List Addr) (h:Heap):List (Addr×Obj):=fp.filterMap λ b=>(h.get? b).map λ o=>(b,o)
theorem Jd4 {fp:List Addr}{h:Heap}{b:Addr}{o:Obj}(hb:b∈fp) (e:h.get? b=some o):(b,o)∈Jfm fp h:=List.mem_filterMap.mpr ⟨b,hb,by rw[e];rfl⟩
theorem Jy4 {fp:List Addr}{h:Heap}{p:Addr×Obj}(hp:p∈Jfm fp h):p.1∈fp/\h.get? p.1=some p.2:=by
 obtain⟨b,hb,e⟩:=List.mem_filterMap.mp hp
 cases q:h.get? b with
 | none=>rw[q] at e;cases e
 | some o =>
  rw[q] at e
  have e':(b,o)=p:=Option.some.inj e
  subst e'
  exact⟨hb,q⟩
theorem Inv.pinned {pins:List (Addr×Obj)}{σ:St}{H:Hp}{s:Shared}{fp:List Addr}(I:Inv X pins σ H s) (hf:∀b∈fp,FpOk X pins H b) (ho:∀b∈fp,∃o,s.heap.get? b=some o/\∀v,o.data≠.cell v):Inv X (pins++Jfm fp s.heap) σ H s :=
 I.pins_of λ p hp=>(List.mem_append.mp hp).elim (λ z=>I.pin p (List.mem_append_right _ z)) λ z=>by
  obtain⟨hb,e⟩:=Jy4 z
  obtain⟨f0,f1,f2,_⟩:=hf p.1 hb
  obtain⟨o,e',d⟩:=ho p.1 hb
  rw[e] at e';cases e'
  exact⟨e,f0,f1,f2,d⟩
theorem Inv.unpinned {pins pl:List (Addr×Obj)}{σ:St}{H:Hp}{s:Shared}(I:Inv X (pins++pl) σ H s):Inv X pins σ H s:=I.pins_of λ p hp=>I.pin p (List.mem_append_right _ (List.mem_append_left _ hp))
end
noncomputable abbrev R2:=V->V->Hp->VK->Prop
noncomputable def OpR (X:Cx) (f:Value->Value->Sem Value) (r:R2):Prop :=
 ∀(pins:List (Addr×Obj)) (s:Shared) (σ:St) (H:Hp) (x y:V) (v u:Value) (Q:VK),Inv X pins σ H s->RelV x v->RelV y u->r x y H Q ->
  wpAny (model X.prog X.w) X.A (f v u) (EP X pins σ Q) X.xe s
noncomputable def UnR (X:Cx) (f:Value->Sem Value) (r:V->Hp->VK->Prop):Prop :=
 ∀(pins:List (Addr×Obj)) (s:Shared) (σ:St) (H:Hp) (x:V) (v:Value) (Q:VK),Inv X pins σ H s->RelV x v->r x H Q ->
  wpAny (model X.prog X.w) X.A (f v) (EP X pins σ Q) X.xe s
noncomputable def Jvw (X:Cx) (f:Value) (r:List V->Hp->VK->Prop):Prop :=
 ∀(pins:List (Addr×Obj)) (s:Shared) (σ:St) (H:Hp) (xs:List V) (us:List Value) (Q:VK),Inv X pins σ H s->Vals xs us->r xs H Q ->
  wpAny (model X.prog X.w) X.A (call f us) (EP X pins σ Q) X.xe s
noncomputable def TruR (X:Cx) (r:V->Hp->(Bool->Hp->Prop)->Prop):Prop :=
 ∀(pins:List (Addr×Obj)) (s:Shared) (σ:St) (H:Hp) (x:V) (v:Value) (Q:Bool->Hp->Prop),Inv X pins σ H s->RelV x v->r x H Q ->
  wpAny (model X.prog X.w) X.A (truthy v) (TP X pins σ Q) X.xe s
noncomputable def rI (C:Int->Int->Prop) (g:Int->Int->V):R2:=λ x y H Q=>∃i j,x=.int i/\y=.int j/\C i j/\Q (g i j) H
noncomputable def rI0 (g:Int->Int->V):R2:=λ x y H Q=>∃i j,x=.int i/\y=.int j/\Q (g i j) H
noncomputable def rU (g:Int->V):V->Hp->VK->Prop:=λ x H Q=>∃i,x=.int i/\Q (g i) H
section
variable {X:Cx}{a b c:Expr}{ta tb tc:TE}{pos:Pos}
theorem opI {f:Value->Value->Sem Value}{C:Int->Int->Prop}{g:Int->Int->Int}
  (rule:∀(i j:Int) (t u:Tok) (s:Shared) (Q:Value->Shared->Prop) (E:Value->Shared->Prop),C i j->Q (.int (g i j) s.toks) { s with toks:=s.toks+1 }->wpAny (model X.prog X.w) X.A (f (.int i t) (.int j u)) Q E s) :
  OpR X f (rI C λ i j=>.int (g i j)):=by
 intro pins s σ H x y v u Q I rx ry h
 obtain⟨i,j,rfl,rfl,hc,q⟩:=h
 obtain⟨t,rfl⟩:=rx
 obtain⟨t',rfl⟩:=ry
 exact rule i j t t' s _ _ hc ⟨.int (g i j),H,I.tok _,⟨_,rfl⟩,q⟩
theorem opI0 {f:Value->Value->Sem Value}{g:Int->Int->Int}
  (rule:∀(i j:Int) (t u:Tok) (s:Shared) (Q:Value->Shared->Prop) (E:Value->Shared->Prop),Q (.int (g i j) s.toks) { s with toks:=s.toks+1 }->wpAny (model X.prog X.w) X.A (f (.int i t) (.int j u)) Q E s) :
  OpR X f (rI0 λ i j=>.int (g i j)):=by
 intro pins s σ H x y v u Q I rx ry h
 obtain⟨i,j,rfl,rfl,q⟩:=h
 obtain⟨t,rfl⟩:=rx
 obtain⟨t',rfl⟩:=ry
 exact rule i j t t' s _ _ ⟨.int (g i j),H,I.tok _,⟨_,rfl⟩,q⟩
theorem opB0 {f:Value->Value->Sem Value}{g:Int->Int->Bool}
  (rule:∀(i j:Int) (t u:Tok) (s:Shared) (Q:Value->Shared->Prop) (E:Value->Shared->Prop),Q (.bool (g i j)) s->wpAny (model X.prog X.w) X.A (f (.int i t) (.int j u)) Q E s) :
  OpR X f (rI0 λ i j=>.bl (g i j)):=by
 intro pins s σ H x y v u Q I rx ry h
 obtain⟨i,j,rfl,rfl,q⟩:=h
 obtain⟨t,rfl⟩:=rx
 obtain⟨t',rfl⟩:=ry
 exact rule i j t t' s _ _ ⟨.bl (g i j),H,I,rfl,q⟩
noncomputable def CPow (i j:Int):Prop:=0<=j/\j<=1000000/\i.natAbs<2^64
noncomputable def CMul (i j:Int):Prop:=(-(2^64)<i/\i<2^64)∨(-(2^64)<j/\j<2^64)
theorem CMul.ok {i j:Int}(h:CMul i j):IntMulOk i j:=by
 rcases h with⟨h1,h2⟩|⟨h1,h2⟩
 ·exact .of_left (intBits_le_64 h1 h2)
 ·exact .of_right (intBits_le_64 h1 h2)
theorem J63:OpR X (binaryOp .Add) (rI0 λ i j=>.int (i+j)):=opI0 λ _ _ _ _ _ _ _ q=>add_int q
theorem J68:OpR X (binaryOp .Sub) (rI0 λ i j=>.int (i-j)):=opI0 λ _ _ _ _ _ _ _ q=>sub_int q
theorem J65:OpR X (binaryOp .Mod) (rI (λ _ j=>0<j) λ i j=>.int (i%j)):=opI λ i j _ _ _ _ _ hc q=>by
 have h1:(0:Int)<j:=hc
 exact mod_int' (by omega) (by rw[Int.fmod_eq_emod_of_nonneg i (by omega)];exact q)
theorem J66:OpR X (binaryOp .Pow) (rI CPow λ i j=>.int (i^j.toNat)):=opI λ _ _ _ _ _ _ _ hc q=>pow_int_small hc.1 hc.2.1 hc.2.2 q
theorem unI {f:Value->Sem Value}{g:Int->Int}
  (rule:∀(i:Int) (t:Tok) (s:Shared) (Q:Value->Shared->Prop) (E:Value->Shared->Prop),Q (.int (g i) s.toks) { s with toks:=s.toks+1 }->wpAny (model X.prog X.w) X.A (f (.int i t)) Q E s) :
  UnR X f (rU λ i=>.int (g i)):=by
 intro pins s σ H x v Q I rx h
 obtain⟨i,rfl,q⟩:=h
 obtain⟨t,rfl⟩:=rx
 exact rule i t s _ _ ⟨.int (g i),H,I.tok _,⟨_,rfl⟩,q⟩
theorem J71:UnR X (unaryOp .USub) (rU λ i=>.int (-i)):=unI λ _ _ _ _ _ q=>neg_int q
end
noncomputable def scal:V->V->Bool
 | .non,.non=>true|.non,.int _=>true|.int _,.non=>true|.non,.bl _=>true|.bl _,.non=>true|.non,.str _=>true|.str _,.non=>true
 | .int _,.int _=>true|.bl _,.bl _=>true|.str _,.str _=>true|.byt _,.byt _=>true
 | .int _,.str _=>true|.str _,.int _=>true|.bl _,.str _=>true|.str _,.bl _=>true
 | _,_=>false
noncomputable def rEq:R2:=λ x y H Q=>scal x y=true/\Q (.bl (decide (x=y))) H
noncomputable def rNe:R2:=λ x y H Q=>scal x y=true/\Q (.bl (!decide (x=y))) H
theorem Jx3 {i j:Int}:decide (V.int i=V.int j)=(i==j):=by
 rw[Bool.eq_iff_iff]
 simp
theorem J17 {i j:Bool}:decide (V.bl i=V.bl j)=(i==j):=by
 rw[Bool.eq_iff_iff]
 simp
theorem Jx4 {i j:Str}:decide (V.str i=V.str j)=(i==j):=by
 rw[Bool.eq_iff_iff]
 simp
theorem Jx2 {i j:Array UInt8}:decide (V.byt i=V.byt j)=(i.toList==j.toList):=by
 rw[Bool.eq_iff_iff]
 cases i
 cases j
 simp
section
variable {X:Cx}{a b c:Expr}{ta tb tc:TE}{pos:Pos}
theorem Js {pins:List (Addr×Obj)}{σ:St}{H:Hp}{s:Shared}{Q:VK}{k k':Bool}(I:Inv X pins σ H s) (q:Q (.bl k) H) (e:k=k'):EP X pins σ Q (.bool k') s:=by
 subst e
 exact⟨.bl k,H,I,rfl,q⟩
theorem op_eq:OpR X (compareOp .Eq) rEq:=by
 intro pins s σ H x y v u Q I rx ry h
 obtain⟨hs,q⟩:=h
 cases x with
 | non =>
  cases rx
  cases y with
  | non=>cases ry;exact PySem.EqNone.eq_none_none (Js I q (by simp))
  | bl j=>cases ry;exact PySem.EqNone.eq_none_bool (Js I q (by simp))
  | int j=>obtain⟨t',rfl⟩:=ry;exact PySem.EqNone.eq_none_int (Js I q (by simp))
  | str j=>obtain⟨t',rfl⟩:=ry;exact PySem.EqNone.eq_none_str (Js I q (by simp))
  | _=>exact absurd (show false=true from hs) Bool.false_ne_true
 | bl i =>
  cases rx
  cases y with
  | non=>cases ry;exact PySem.EqNone.eq_bool_none (Js I q (by simp))
  | bl j=>cases ry;exact eq_bool (Js I q J17)
  | str j=>obtain⟨t',rfl⟩:=ry;exact PySem.EqMixed.eq_bool_str (Js I q (by simp))
  | _=>exact absurd (show false=true from hs) Bool.false_ne_true
 | int i =>
  obtain⟨t,rfl⟩:=rx
  cases y with
  | non=>cases ry;exact PySem.EqNone.eq_int_none (Js I q (by simp))
  | int j=>obtain⟨t',rfl⟩:=ry;exact eq_int (Js I q Jx3)
  | str j=>obtain⟨t',rfl⟩:=ry;exact PySem.EqMixed.eq_int_str (Js I q (by simp))
  | _=>exact absurd (show false=true from hs) Bool.false_ne_true
 | str i =>
  obtain⟨t,rfl⟩:=rx
  cases y with
  | non=>cases ry;exact PySem.EqNone.eq_str_none (Js I q (by simp))
  | bl j=>cases ry;exact PySem.EqMixed.eq_str_bool (Js I q (by simp))
  | int j=>obtain⟨t',rfl⟩:=ry;exact PySem.EqMixed.eq_str_int (Js I q (by simp))
  | str j=>obtain⟨t',rfl⟩:=ry;exact eq_str (Js I q Jx4)
  | _=>exact absurd (show false=true from hs) Bool.false_ne_true
 | byt i =>
  obtain⟨t,rfl⟩:=rx
  cases y with
  | byt j=>obtain⟨t',rfl⟩:=ry;exact W.eq_bytes (Js I q Jx2)
  | _=>exact absurd (show false=true from hs) Bool.false_ne_true
 | _=>cases y<;>exact absurd (show false=true from hs) Bool.false_ne_true
theorem op_ne:OpR X (compareOp .NotEq) rNe:=by
 intro pins s σ H x y v u Q I rx ry h
 obtain⟨hs,q⟩:=h
 cases x with
 | non =>
  cases rx
  cases y with
  | non=>cases ry;exact PySem.EqNone.ne_none_none (Js I q (by simp))
  | bl j=>cases ry;exact PySem.EqNone.ne_none_bool (Js I q (by simp))
  | int j=>obtain⟨t',rfl⟩:=ry;exact PySem.EqNone.ne_none_int (Js I q (by simp))
  | str j=>obtain⟨t',rfl⟩:=ry;exact PySem.EqNone.ne_none_str (Js I q (by simp))
  | _=>exact absurd (show false=true from hs) Bool.false_ne_true
 | bl i =>
  cases rx
  cases y with
  | non=>cases ry;exact PySem.EqNone.ne_bool_none (Js I q (by simp))
  | bl j=>cases ry;exact ne_bool (Js I q (congrArg not J17))
  | str j=>obtain⟨t',rfl⟩:=ry;exact PySem.EqMixed.ne_bool_str (Js I q (by simp))
  | _=>exact absurd (show false=true from hs) Bool.false_ne_true
 | int i =>
  obtain⟨t,rfl⟩:=rx
  cases y with
  | non=>cases ry;exact PySem.EqNone.ne_int_none (Js I q (by simp))
  | int j=>obtain⟨t',rfl⟩:=ry;exact ne_int (Js I q (congrArg not Jx3))
  | str j=>obtain⟨t',rfl⟩:=ry;exact PySem.EqMixed.ne_int_str (Js I q (by simp))
  | _=>exact absurd (show false=true from hs) Bool.false_ne_true
 | str i =>
  obtain⟨t,rfl⟩:=rx
  cases y with
  | non=>cases ry;exact PySem.EqNone.ne_str_none (Js I q (by simp))
  | bl j=>cases ry;exact PySem.EqMixed.ne_str_bool (Js I q (by simp))
  | int j=>obtain⟨t',rfl⟩:=ry;exact PySem.EqMixed.ne_str_int (Js I q (by simp))
  | str j=>obtain⟨t',rfl⟩:=ry;exact ne_str (Js I q (congrArg not Jx4))
  | _=>exact absurd (show false=true from hs) Bool.false_ne_true
 | byt i =>
  obtain⟨t,rfl⟩:=rx
  cases y with
  | byt j=>obtain⟨t',rfl⟩:=ry;exact W.ne_bytes (Js I q (congrArg not Jx2))
  | _=>exact absurd (show false=true from hs) Bool.false_ne_true
 | _=>cases y<;>exact absurd (show false=true from hs) Bool.false_ne_true
theorem op_lt:OpR X (compareOp .Lt) (rI0 λ i j=>.bl (decide (i<j))):=opB0 λ _ _ _ _ _ _ _ q=>lt_int q
theorem op_le:OpR X (compareOp .LtE) (rI0 λ i j=>.bl (decide (i<=j))):=opB0 λ _ _ _ _ _ _ _ q=>le_int q
theorem op_gt:OpR X (compareOp .Gt) (rI0 λ i j=>.bl (decide (j<i))):=opB0 λ _ _ _ _ _ _ _ q=>gt_int q
theorem op_ge:OpR X (compareOp .GtE) (rI0 λ i j=>.bl (decide (j<=i))):=opB0 λ _ _ _ _ _ _ _ q=>ge_int q
theorem Jy5:OpR X (compareOp .Lt) (λ x y H Q=>∃i j,x=.str i/\y=.str j/\Q (.bl (decide (i.cps.toList<j.cps.toList))) H):=by
 intro pins s σ H x y v u Q I rx ry h
 obtain⟨i,j,rfl,rfl,q⟩:=h
 obtain⟨t,rfl⟩:=rx
 obtain⟨t',rfl⟩:=ry
 exact lt_str (Js I q rfl)
theorem nomark (b:Expr){op:CmpOp}(h:op≠.In:=by decide) (h2:op≠.NotIn:=by decide):behindInMarks op b=false:=by
 have e1:(op==CmpOp.In)=false:=by cases op<;>first|rfl|exact absurd rfl h
 have e2:(op==CmpOp.NotIn)=false:=by cases op<;>first|rfl|exact absurd rfl h2
 cases b<;>simp[behindInMarks,e1,e2]
noncomputable def TruV (K:W.Frag) (x:V) (H:Hp) (k:Bool):Prop :=
 match x with
 | .non=>k=false
 | .bl b=>k=b
 | .int i=>k=(i != 0)
 | .str y=>y.length<=sizeLine/\k=((y.length:Int) != 0)
 | .byt y=>y.size<=sizeLine/\k=((y.size:Int) != 0)
 | .ref p=>(∃xs,SqL K H p xs/\k=!xs.isEmpty)∨(∃xs,SqT K H p xs/\k=!xs.isEmpty)∨∃kvs,H p=some (.dK kvs)/\k=!kvs.isEmpty
 | _=>False
theorem Jwc {κ:Type}{kvs:List (κ×V)}{vs:List (κ×Value)}(r:KV kvs vs):(!vs.isEmpty)=!kvs.isEmpty:=by
 cases r<;>rfl
theorem Jpw {xs:List V}{its:List Value}(r:Vals xs its):(!its.toArray.isEmpty)=!xs.isEmpty:=by
 cases r<;>simp
theorem Jsk:(sizeLine:Nat)<2^63:=by rw[sizeLine_eq];decide
theorem Jl5:TruR X (λ x H Q=>∃k,TruV X.K x H k/\Q k H):=by
 intro pins s σ H x v Q I rx h
 obtain⟨k,e,q⟩:=h
 have hl:=Jsk
 have hs:sizeLine=16777216:=sizeLine_eq
 cases x with
 | non =>
  cases rx
  have e':k=false:=e
  subst e'
  exact truthy_none ⟨H,I,q⟩
 | bl b =>
  cases rx
  have e':k=b:=e
  subst e'
  exact wpAny_truthy_bool ⟨H,I,q⟩
 | int i =>
  obtain⟨t,rfl⟩:=rx
  have e':k=(i != 0):=e
  subst e'
  exact PySem.P.truthy_int ⟨H,I,q⟩
 | str y =>
  obtain⟨t,rfl⟩:=rx
  obtain⟨hy,e'⟩:y.length<=sizeLine/\k=((y.length:Int) != 0):=e
  subst e'
  exact PySem.P.truthy_str (by omega) ⟨H,I.tok _,q⟩
 | byt y =>
  obtain⟨t,rfl⟩:=rx
  obtain⟨hy,e'⟩:y.size<=sizeLine/\k=((y.size:Int) != 0):=e
  subst e'
  exact W.truthy_bytes (by omega) ⟨H,I.tok _,q⟩
 | ref p =>
  cases rx
  have e':(∃xs,SqL X.K H p xs/\k=!xs.isEmpty)∨(∃xs,SqT X.K H p xs/\k=!xs.isEmpty)∨∃kvs,H p=some (.dK kvs)/\k=!kvs.isEmpty:=e
  rcases e' with⟨xs,hx,e'⟩|⟨xs,hx,e'⟩|⟨kvs,hx,e'⟩
  ·subst e'
   obtain⟨its,r,pl,hz⟩:=I.list hx
   have hlen:=r.length
   exact wpAny_truthy_list pl.isList (by simp only[List.size_toArray];omega) ⟨H,I.tok _,by rw[Jpw r];exact q⟩
  ·subst e'
   obtain⟨its,r,pl,hz⟩:=I.tuple hx
   have hlen:=r.length
   exact truthy_tuple pl (by simp only[List.size_toArray];omega) ⟨H,I.tok _,by rw[Jpw r];exact q⟩
  ·subst e'
   obtain⟨hz,hS,vs,r,m⟩:kvs.length<=sizeLine/\(p==sysModules)=false/\∃vs,KV kvs vs/\s.heap.DictOf (Jdf X.prog X.w) p vs:=I.hok p _ hx
   have hlen:kvs.length=vs.length:=Paired.length r
   exact wpAny_truthy_dict hS m (by omega) ⟨H,I.tok _,by rw[Jwc r];exact q⟩
 | _=>exact Zf e
theorem Jwt:OpR X (binaryOp .Add) (λ x y H Q=>∃i j,x=.str i/\y=.str j/\i.length+j.length<=sizeLine/\Q (.str (i++j)) H):=by
 intro pins s σ H x y v u Q I rx ry h
 obtain⟨i,j,rfl,rfl,hz,q⟩:=h
 obtain⟨t,rfl⟩:=rx
 obtain⟨t',rfl⟩:=ry
 exact add_str (λ t' tk=>⟨.str (i++j),H,I.tok _,⟨_,rfl⟩,q⟩) hz
theorem Jmm {x:V}{us:List Value}(r:Vals [x] us):∃u,us=[u]/\RelV x u:=by
 cases r with
 | cons r1 r2=>cases r2;exact⟨_,rfl,r1⟩
theorem vals2 {x y:V}{us:List Value}(r:Vals [x,y] us):∃u w',us=[u,w']/\RelV x u/\RelV y w':=by
 cases r with
 | cons r1 r2 =>
  cases r2 with
  | cons r3 r4=>cases r4;exact⟨_,_,rfl,r1,r3⟩
theorem Jxy (hc:X.calm=true):Jvw X (.builtin "max") (λ xs H Q=>∃i j,xs=[.int i,.int j]/\Q (.int (if j>i then j else i)) H):=by
 intro pins s σ H xs us Q I r h
 obtain⟨i,j,rfl,q⟩:=h
 obtain⟨u,w',rfl,⟨t,rfl⟩,⟨t',rfl⟩⟩:=vals2 r
 refine max_two_ints (I.ok.hd hc) λ h' tk k=>⟨_,H,I.kept k,?_,q⟩
 by_cases hj:j>i
 ·rw[if_pos hj,if_pos hj];exact⟨_,rfl⟩
 ·rw[if_neg hj,if_neg hj];exact⟨_,rfl⟩
theorem Jrr:Jvw X (.type "int") (λ xs H Q=>(∃i,xs=[.int i]/\Q (.int i) H)∨∃k,xs=[.bl k]/\Q (.int (if k then 1 else 0)) H):=by
 intro pins s σ H xs us Q I r h
 rcases h with⟨i,rfl,q⟩|⟨k,rfl,q⟩
 ·obtain⟨u,rfl,t,rfl⟩:=Jmm r
  exact call_int_int ⟨.int i,H,I,⟨_,rfl⟩,q⟩
 ·obtain⟨u,rfl,r1⟩:=Jmm r
  cases r1
  exact call_int_bool ⟨.int (if k then 1 else 0),H,I.tok _,⟨_,rfl⟩,q⟩
noncomputable def LenV (K:W.Frag) (x:V) (H:Hp) (n:Nat):Prop :=
 match x with
 | .str y=>y.length<=sizeLine/\n=y.length
 | .byt y=>y.size<=sizeLine/\n=y.size
 | .ref p=>(∃xs,SqL K H p xs/\n=xs.length)∨∃xs,SqT K H p xs/\n=xs.length
 | _=>False
theorem Jmo:Jvw X (.builtin "len") (λ xs H Q=>∃x n,xs=[x]/\LenV X.K x H n/\Q (.int n) H):=by
 intro pins s σ H xs us Q I r h
 obtain⟨x,n,rfl,e,q⟩:=h
 obtain⟨u,rfl,rx⟩:=Jmm r
 have hl:=Jsk
 have hs:sizeLine=16777216:=sizeLine_eq
 cases x with
 | str y =>
  obtain⟨t,rfl⟩:=rx
  obtain⟨hy,e'⟩:y.length<=sizeLine/\n=y.length:=e
  subst e'
  exact len_str (by omega) ⟨.int _,H,I.tok _,⟨_,rfl⟩,q⟩
 | byt y =>
  obtain⟨t,rfl⟩:=rx
  obtain⟨hy,e'⟩:y.size<=sizeLine/\n=y.size:=e
  subst e'
  exact W.len_bytes (by omega) ⟨.int _,H,I.tok _,⟨_,rfl⟩,q⟩
 | ref p =>
  cases rx
  have e':(∃xs,SqL X.K H p xs/\n=xs.length)∨∃xs,SqT X.K H p xs/\n=xs.length:=e
  rcases e' with⟨xs,hx,e'⟩|⟨xs,hx,e'⟩
  ·subst e'
   obtain⟨its,r',pl,hz⟩:=I.list hx
   have hlen:=r'.length
   exact Calls.call_len_list pl.isList (by simp only[List.size_toArray];omega) ⟨.int xs.length,H,I.tok _,⟨_,by simp only[List.size_toArray];rw[hlen]⟩,q⟩
  ·subst e'
   obtain⟨its,r',pl,hz⟩:=I.tuple hx
   have hlen:=r'.length
   exact len_tuple pl (by simp only[List.size_toArray];omega) ⟨.int xs.length,H,I.tok _,⟨_,by simp only[List.size_toArray];rw[hlen]⟩,q⟩
 | _=>exact Zf e
end
structure ObjM (h:Heap) (x dx C:Addr) (mA:Str->Option Value):Prop where
 obj:h.get? x=some (W.instObj C dx)
 ns:h.Ns1 dx mA
 ne:dx≠x
theorem Jyx {h:Heap}{dx:Addr}{mA:Str->Option Value}(n:h.Ns1 dx mA):∃od,h.get? dx=some od/\∀name,W.lookIn name od=some (mA name):=by
 obtain⟨o,es,ep,ho,hd,hk,_,hm⟩:=n
 refine⟨o,ho,λ name=>?_⟩
 have e:=hm name
 unfold nsFind findBy at e
 rw[<- Array.find?_toList] at e
 unfold W.lookIn
 rw[hd]
 dsimp only
 split
 ·rename_i y q
  rw[q] at e
  exact congrArg some e
 ·rename_i q
  rw[q] at e
  have a:es.toList.any (·.refKey)=false:=by
   rw[List.any_eq_false]
   intro y hy
   obtain⟨z,t,hkey⟩:=hk y (Array.mem_toList_iff.mp hy)
   simp[DictEntry.refKey,hkey]
  have a':¬es.toList.any (·.refKey)=true:=by rw[a];exact Bool.false_ne_true
  rw[if_neg a']
  exact congrArg some e
theorem ObjM.look {h:Heap}{x dx C:Addr}{mA:Str->Option Value}(I:ObjM h x dx C mA):∃od,W.InstAt h x (W.instObj C dx) C (some od)/\∀name,W.lookIn name od=some (mA name) :=
 let ⟨od,ho,hl⟩:=Jyx I.ns
 ⟨od,⟨I.obj,rfl,rfl,ho⟩,hl⟩
section
variable {prog:Program}{w:World}{A:Around}{E:Value->Shared->Prop}{s:Shared}{K:W.Frag}{x dx C f:Addr}{mA:Str->Option Value}{name:Str}{v:Value}
theorem J3o {expr:Bool}{Q:Value->Shared->Prop}(X:K.In s.heap) (I:ObjM s.heap x dx C mA) (hg:W.plainGet K C name=true) (hh:W.hasDictIn K C=true)
  (ha:W.findIn K (.ref C) name=some none) (hv:mA name=some v) (hv':W.handedIn v=true) (h:Q v { s with toks:=s.toks+1 }) :
  wpAny (model prog w) A (getAttr (.ref x) name expr) Q E s:=by
 obtain⟨od,J,hl⟩:=I.look
 exact W.get_value X J (W.plainGet_of hg).1 (W.findObj_own hh ha rfl (by rw[hl,hv])) hv' h
theorem J0m {pl:Sem Bool}{Q:Value×List Value->Shared->Prop}(X:K.In s.heap) (I:ObjM s.heap x dx C mA) (hg:W.plainGet K C name=true)
  (hf:W.findIn K (.ref C) name=some (some (.ref f))) (ht:W.isFn K (.ref f)=true) (hv:mA name=none) (h:Q (.ref f,[.ref x]) s) :
  wpAny (model prog w) A (getMethod (.ref x) name pl) Q E s:=by
 obtain⟨od,J,hl⟩:=I.look
 exact W.method_fn X J (W.plainGet_of hg).1 (W.plainGet_of hg).2 hf (beq_iff_eq.mp ht) (by show(W.lookIn name od).map (·.isSome)=some false;rw[hl,hv];rfl) h
theorem J4x {ns:List Str}{Q:Unit->Shared->Prop}(X:K.In s.heap) (I:ObjM s.heap x dx C mA)
  (hs:W.findIn K (.ref C) "__setattr__"=some (some (.builtin "object.__setattr__"))) (hp:W.plainOver K C=true) (ht:W.takerIn K C name=some none) (hh:W.hasDictIn K C=true)
  (hw:PySem.Within mA ns) (hsz:ns.length<=sizeLine)
  (h:∀h',ObjM h' x dx C (λ y=>if y=name then some v else mA y)->Heap.SameBut dx s.heap h'->Q () { s with heap:=h',toks:=s.toks+2 }) :
  wpAny (model prog w) A (setAttr (.ref x) name v) Q E s:=by
 obtain⟨od,J,hl⟩:=I.look
 refine W.set_plain X J hs (W.osa_open (s:={ s with toks:=s.toks+1 }) (r:=none) X J hp ht λ b=>?_)
 obtain⟨cd,hc,hd'⟩:=W.any_some hh
 have hx:s.heap.get? x=some ⟨.ref C,some dx,.plain,#[]⟩:=I.obj
 refine wpAny_bind (wpAny_pure (wpAny_bind (wpAny_bind (wpAny_loadPart hx (wpAny_bind (W.Looks.here (s:={ s with toks:=s.toks+1 }) (W.looks_clsIn X hc) ?_))))))
 rw[hd']
 refine wpAny_pure (a:=some dx) (wpAny_bind (wpAny_pure (wpAny_bind ?_)))
 refine wpAny_nsSet1 (s:={ s with toks:=s.toks+1 }) I.ns λ h' hn2 hs2=>?_
 obtain⟨oD,esD,epD,hoD,hdD,hcD⟩:=hn2.count (PySem.Within.cons name v hw)
 refine wpAny_bind (wpAny_lookBehind hoD (by rw[hdD];exact pastItsLine_dict (Nat.le_trans hcD (by rw[List.length_cons];omega))) ?_)
 exact wpAny_pure (h _ ⟨(hs2.2 _ (Ne.symm I.ne)).trans I.obj,hn2,I.ne⟩ hs2)
theorem J09 {R:Result->Shared->Prop}{vs:List Value}{kw:List (Str×Value)}(X:K.In s.heap) (hm:W.makesIn K C=true)
  (hi:W.findIn K (.ref C) "__init__"=some (some (.ref f))) (hf:W.typeIn K (.ref f)=some (.type "function"))
  (h:codeAny (model prog w) (A.under (.builtin "type.__call__" ⟨.ref C::vs,kw⟩)) (.call (.ref f) ⟨.ref (s.heap.objs.size+1)::vs,kw⟩) (W.InitBack (s.heap.objs.size+1) R)
   { s with heap:=(s.heap.push W.emptyDict).push (W.instObj C s.heap.objs.size) }) :
  codeAny (model prog w) A (.call (.ref C) ⟨vs,kw⟩) R s:=by
 obtain⟨hh,g,d,t,os⟩:=s
 exact W.make_core (W.makes_of X hm) (W.looks_findIn X hi) (λ self=>W.bind_fn X self hf) (.inl rfl) h
end
noncomputable def putF (f:Str) (v:V):List (Str×V)->List (Str×V)
 | []=>[(f,v)]
 | (g,x)::r=>if g=f then(g,v)::r else(g,x)::putF f v r
theorem Jnv (f g:Str) (v:V):∀fs:List (Str×V),(putF f v fs).lookup g=if g=f then some v else fs.lookup g
 | []=>by
  show List.lookup g [(f,v)]=_
  by_cases h:g=f
  ·have hb:(g==f)=true:=beq_iff_eq.mpr h
   simp only[List.lookup,hb,if_pos h]
  ·have hb:(g==f)=false:=beq_eq_false_iff_ne.mpr h
   simp only[List.lookup,hb,if_neg h]
 | (k,x)::r=>by
  have ih:=Jnv f g v r
  rw[show putF f v ((k,x)::r)=(if k=f then(k,v)::r else(k,x)::putF f v r) from rfl]
  by_cases hk:k=f
  ·rw[if_pos hk]
   by_cases h:g=k
   ·have hb:(g==k)=true:=beq_iff_eq.mpr h
    simp only[List.lookup,hb,if_pos (h.trans hk)]
   ·have hb:(g==k)=false:=beq_eq_false_iff_ne.mpr h
    simp only[List.lookup,hb,if_neg (λ e:g=f=>h (e.trans hk.symm))]
  ·rw[if_neg hk]
   by_cases h:g=k
   ·have hb:(g==k)=true:=beq_iff_eq.mpr h
    simp only[List.lookup,hb,if_neg (λ e:g=f=>hk (h.symm.trans e))]
   ·have hb:(g==k)=false:=beq_eq_false_iff_ne.mpr h
    simp only[List.lookup,hb]
    exact ih
theorem Jns (f:Str) (v:V):∀fs:List (Str×V),f∈(putF f v fs).map (·.1)/\∀g,g∈fs.map (·.1)->g∈(putF f v fs).map (·.1)
 | []=>⟨by simp[putF],λ g h=>by simp at h⟩
 | (k,x)::r=>by
  obtain⟨i1,i2⟩:=Jns f v r
  rw[show putF f v ((k,x)::r)=(if k=f then(k,v)::r else(k,x)::putF f v r) from rfl]
  by_cases hk:k=f
  ·rw[if_pos hk]
   subst hk
   exact⟨by simp,λ g h=>by simpa using h⟩
  ·rw[if_neg hk]
   refine⟨?_,λ g h=>?_⟩
   ·rw[List.map_cons]
    exact List.mem_cons_of_mem _ i1
   ·rw[List.map_cons] at h ⊢
    rcases List.mem_cons.mp h with e|e
    ·exact List.mem_cons.mpr (.inl e)
    ·exact List.mem_cons_of_mem _ (i2 g e)
theorem Jnt (f:Str) (v:V):∀fs:List (Str×V),(putF f v fs).length<=fs.length+1
 | []=>by simp[putF]
 | (k,x)::r=>by
  have ih:=Jnt f v r
  rw[show putF f v ((k,x)::r)=(if k=f then(k,v)::r else(k,x)::putF f v r) from rfl]
  by_cases hk:k=f
  ·rw[if_pos hk,List.length_cons,List.length_cons];omega
  ·rw[if_neg hk,List.length_cons,List.length_cons];omega
theorem RelO.some_of {v:V}{o:Option Value}(r:RelO (some v) o):∃u,o=some u/\RelV v u:=by
 cases o with
 | none=>exact Zf r
 | some u=>exact⟨u,rfl,r⟩
theorem RelO.none_of {o:Option Value}(r:RelO none o):o=none:=by
 cases o with
 | none=>rfl
 | some u=>exact Zf r
theorem Jyj {v:V}{u:Value}(r:RelV v u):W.handedIn u=true:=by
 cases v with
 | non=>cases (show u=Value.none from r);rfl
 | bl b=>cases (show u=Value.bool b from r);rfl
 | int i=>obtain⟨t,e⟩:=(show ∃t,u=Value.int i t from r);cases e;rfl
 | str x=>obtain⟨t,e⟩:=(show ∃t,u=Value.str x t from r);cases e;rfl
 | byt b=>obtain⟨t,e⟩:=(show ∃t,u=Value.bytes b t from r);cases e;rfl
 | flt b=>obtain⟨t,e⟩:=(show ∃t,u=Value.float b t from r);cases e;rfl
 | ref a=>cases (show u=Value.ref a from r);rfl
 | ty n=>cases (show u=Value.type n from r);rfl
section
variable {P:Program}{w:World}{H H':Hp}{h h':Heap}{a C dx:Addr}{fs fs':List (Str×V)}
theorem Jqo (hok:HOk P w H h) (e:H a=some (.ins C dx fs)):∃mA,ObjM h a dx C mA/\(∀f,RelO (fs.lookup f) (mA f))/\PySem.Within mA (fs.map (·.1))/\fs.length<=1000/\H dx=some (.own a):=by
 obtain⟨d,z,ne,ob,mA,n,r,q⟩:=(show Jcg P w H h a (.ins C dx fs) from hok a _ e)
 exact⟨mA,⟨ob,n,ne⟩,r,q,z,d⟩
end
structure Cls (K:W.Frag) (C:Addr):Prop where
 pg:W.plainGet K C Str.empty=true
 hd:W.hasDictIn K C=true
 po:W.plainOver K C=true
 sa:W.findIn K (.ref C) "__setattr__"=some (some (.builtin "object.__setattr__"))
theorem Cls.get {K:W.Frag}{C:Addr}(c:Cls K C) (f:Str):W.plainGet K C f=true:=c.pg
noncomputable def Jdz (K:W.Frag) (C:Addr) (f:Str):Prop:=W.findIn K (.ref C) f=some none
theorem Jdz.taker {K:W.Frag}{C:Addr}{f:Str}(n:Jdz K C f):W.takerIn K C f=some none:=by
 unfold W.takerIn
 rw[show W.findIn K (.ref C) f=some none from n]
 rfl
structure Con (K:W.Frag) (C:Addr) (f:Str) (v:V) (u:Value):Prop where
 at_:W.findIn K (.ref C) f=some (some u)
 rel:RelV v u
 get:W.specialIn K u "__get__"=some none
 cp:W.copiedNames.contains f=false
structure Meth (K:W.Frag) (C:Addr) (m:Str) (f:Addr):Prop where
 at_:W.findIn K (.ref C) m=some (some (.ref f))
 fn:W.isFn K (.ref f)=true
 kp:W.keepIn K (.ref f)=true
section
variable {X:Cx}{pins:List (Addr×Obj)}{σ:St}{H:Hp}{s:Shared}{a C dx:Addr}{fs:List (Str×V)}{f:Str}{v:V}{A:Around}{E:Value->Shared->Prop}
theorem Jv4 {b:Bool}{Q:Value->Shared->Prop}(I:Inv X pins σ H s) (e:H a=some (.ins C dx fs)) (c:Cls X.K C) (n:Jdz X.K C f) (l:fs.lookup f=some v)
  (h:∀u s',Inv X pins σ H s'->RelV v u->Q u s'):wpAny (model X.prog X.w) A (getAttr (.ref a) f b) Q E s:=by
 obtain⟨mA,O,r,_,_,_⟩:=Jqo I.hok e
 obtain⟨u,hu,ru⟩:=RelO.some_of (v:=v) (o:=mA f) (by rw[<- l];exact r f)
 exact J3o I.kIn O (c.get f) c.hd n hu (Jyj ru) (h u _ (I.tok _) ru)
theorem Jpu {m:Str}{g:Addr}{pl:Sem Bool}{Q:Value×List Value->Shared->Prop}(I:Inv X pins σ H s) (e:H a=some (.ins C dx fs)) (c:Cls X.K C) (k:Meth X.K C m g) (l:fs.lookup m=none)
  (h:Q (.ref g,[.ref a]) s):wpAny (model X.prog X.w) A (getMethod (.ref a) m pl) Q E s:=by
 obtain⟨mA,O,r,_,_,_⟩:=Jqo I.hok e
 have hn:mA m=none:=RelO.none_of (by rw[<- l];exact r m)
 exact J0m I.kIn O (c.get m) k.at_ k.fn hn h
theorem Jw7 {y:V}{u:Value}{Q:Unit->Shared->Prop}(I:Inv X pins σ H s) (e:H a=some (.ins C dx fs)) (c:Cls X.K C) (n:Jdz X.K C f) (hl:fs.length<1000) (ry:RelV y u)
  (h:∀s',Inv X pins σ (upd H a (.ins C dx (putF f y fs))) s'->Q () s'):wpAny (model X.prog X.w) A (setAttr (.ref a) f u) Q E s:=by
 obtain⟨mA,O,r,wi,_,ho⟩:=Jqo I.hok e
 have hz:(fs.map (·.1)).length<=sizeLine:=by rw[List.length_map,sizeLine_eq];omega
 refine J4x I.kIn O c.sa c.po n.taker c.hd wi hz λ h' O' sb=>h _ ?_
 have hd:∃o,h'.get? dx=some o:=let ⟨o,_,_,e',_⟩:=O'.ns;⟨o,e'⟩
 refine I.write (x:=a) (e:=dx) (by rw[e];exact True.intro) (.inr ho) (λ b q hb z=>(sb.2 b hb).trans z) hd ?_
 refine⟨by rw[Ji O.ne];exact ho,?_,O.ne,O'.obj,_,O'.ns,λ g=>?_,λ g hg=>?_⟩
 ·have:=Jnt f y fs;omega
 ·show RelO ((putF f y fs).lookup g) (if g=f then some u else mA g)
  rw[Jnv]
  by_cases q:g=f
  ·rw[if_pos q,if_pos q];exact ry
  ·rw[if_neg q,if_neg q];exact r g
 ·by_cases q:g=f
  ·rw[q];exact(Jns f y fs).1
  ·refine(Jns f y fs).2 g (wi g λ z=>hg ?_)
   show(if g=f then some u else mA g)=none
   rw[if_neg q];exact z
theorem Inv.made (I:Inv X pins σ H s):Inv X pins σ (upd (upd H s.heap.objs.size (.own (s.heap.objs.size+1))) (s.heap.objs.size+1) (.ins C s.heap.objs.size []))
  { s with heap:=(s.heap.push W.emptyDict).push (W.instObj C s.heap.objs.size) }:=by
 have e1:(s.heap.push W.emptyDict).get? s.heap.objs.size=some W.emptyDict:=Heap.get?_push_size s.heap rfl
 have e2:((s.heap.push W.emptyDict).push (W.instObj C s.heap.objs.size)).get? (s.heap.objs.size+1)=some (W.instObj C s.heap.objs.size):=by
  have:=Heap.get?_push_size (s.heap.push W.emptyDict) (o:=W.instObj C s.heap.objs.size) rfl
  rwa [Heap.size_push] at this
 have e3:(s.heap.push W.emptyDict).Ns s.heap.objs.size (λ _=>none):=⟨W.emptyDict,#[],_,e1,rfl,(λ e he=>absurd he (by simp)),λ _=>rfl⟩
 have I1:=I.laid (a:=s.heap.objs.size) (o:=.own (s.heap.objs.size+1)) (h':=s.heap.push W.emptyDict) (t':=s.toks) (λ b u q=>Heap.get?_push_of_some _ q) (Nat.le_refl _) ⟨_,e1⟩
 refine I1.laid (a:=s.heap.objs.size+1) (o:=.ins C s.heap.objs.size []) (t':=s.toks) (λ b u q=>Heap.get?_push_of_some _ q) (Nat.le_of_eq (Heap.size_push _ _)) ?_
 have ne:s.heap.objs.size≠s.heap.objs.size+1:=Nat.ne_of_lt (Nat.lt_succ_self _)
 refine⟨by rw[Ji ne,Jf],Nat.zero_le _,ne,e2,λ _=>none,(Heap.Ns1.of_empty e3).at λ o q=>Heap.get?_push_of_some _ q,λ _=>True.intro,λ y hy=>absurd rfl hy⟩
theorem J28 {prog:Program}{w:World}{env:Env}{e:Expr}{f:Str}{pos:Pos}{s:Shared}{Q:Value->Shared->Prop}(hb:attributeBase e f env (eval e env)=eval e env)
  (h:wpAny (model prog w) A (eval e env) (λ o s₁=>wpAny (model prog w) A (getAttr o f true) Q E s₁) E s):wpAny (model prog w) A (eval (.Attribute e f pos) env) Q E s :=
 Attribute_any_ h (by rw[arm_eval_Attribute,hb])
end
section
variable {X:Cx}{o e value:Expr}{f:Str}{pos pos' tpos:Pos}{ta tv:TE}
end
section
variable {X:Cx}{pins:List (Addr×Obj)}{σ:St}{H:Hp}{s:Shared}{A:Around}{E:Value->Shared->Prop}{Q:Value->Shared->Prop}{c:Value}{b:Bool}
inductive TyOf (K:W.Frag) (H:Hp):V->Value->Prop where
 | non:TyOf K H .non (.type "NoneType")
 | bl (x:Bool):TyOf K H (.bl x) (.type "bool")
 | int (i:Int):TyOf K H (.int i) (.type "int")
 | str (x:Str):TyOf K H (.str x) (.type "str")
 | flt (x:UInt64):TyOf K H (.flt x) (.type "float")
 | lst {a:Addr}{xs:List V}(e:H a=some (.lst xs)):TyOf K H (.ref a) (.type "list")
 | frz {a:Addr}{o:Obj}{xs:List V}(e:H a=some (.frz o (.lst xs))):TyOf K H (.ref a) (.type "list")
 | tup {a:Addr}{xs:List V}(e:H a=some (.tup xs)):TyOf K H (.ref a) (.type "tuple")
 | dK {a:Addr}{kvs:List (Key×V)}(e:H a=some (.dK kvs)):TyOf K H (.ref a) (.type "dict")
 | dT {a:Addr}{kvs:List (List Key×V)}(e:H a=some (.dT kvs)):TyOf K H (.ref a) (.type "dict")
 | ins {a C dx:Addr}{fs:List (Str×V)}(e:H a=some (.ins C dx fs)) (cl:Cls K C) (ha:W.findIn K (.ref C) "__class__"=some (some (.builtin "object.__class__")))
   (hn:W.specialIn K (.builtin "object.__class__") "__get__"=some (some (.builtin "getset_descriptor.__get__"))) (htk:W.takesIn K (.builtin "object.__class__")=some true)
   (hm:W.mroIn K C (.type "object")=some true):TyOf K H (.ref a) (.ref C)
end
structure Room (k:Nat) (A:Around):Prop where
 hd:A.handled=none
 dp:A.depth+3*k+5<recursionLimit
 un:A.units+16*k+200<cLine
theorem Room.mono {j k:Nat}{A:Around}(r:Room k A) (h:j<=k):Room j A:=⟨r.hd,by have:=r.dp;omega,by have:=r.un;omega⟩
theorem Room.deeper {k:Nat}{A:Around}(r:Room (k+1) A) (env:Env):Room k (A.deeper env) :=
 ⟨r.hd,by have:=r.dp;show A.depth+1+3*k+5<_;omega,by have:=r.un;show A.units+3+16*k+200<_;omega⟩
theorem Room.in1 {k:Nat}{A:Around}(r:Room (k+1) A):Room k A.in1 :=
 ⟨r.hd,by have:=r.dp;show A.depth+3*k+5<_;omega,by have:=r.un;show A.units+1+16*k+200<_;omega⟩
theorem Jwm {A:Around}{C:Addr}{us:List Value}{kw:List (Str×Value)}:(A.under (.builtin "type.__call__" ⟨.ref C::us,kw⟩)).depth=A.depth+1:=by
 first|rfl|simp[Around.under,Code.weight,Code.isCreation,Code.isGuard,Code.isCaller,Code.frames,Code.isFrame,guardIds]
theorem Jwn {A:Around}{C:Addr}{us:List Value}{kw:List (Str×Value)}:(A.under (.builtin "type.__call__" ⟨.ref C::us,kw⟩)).units=A.units+1:=by
 first|rfl|simp[Around.under,Code.cUnits,Code.frames,Code.isFrame]
theorem Room.make {k:Nat}{A:Around}(r:Room (k+1) A) (C:Addr) (us:List Value) (kw:List (Str×Value)):Room k (A.under (.builtin "type.__call__" ⟨.ref C::us,kw⟩)) :=
 ⟨r.hd,by have:=r.dp;rw[Jwm];omega,by have:=r.un;rw[Jwn];omega⟩
theorem Room.depth {k:Nat}{A:Around}(r:Room k A):A.depth<recursionLimit:=by have:=r.dp;omega
theorem Room.units {k:Nat}{A:Around}(r:Room k A):A.units+64<cLine:=by have:=r.un;omega
section
variable {X:Cx}{e:Expr}{es:List Expr}{te:TE}{t:TA}{pos:Pos}
end
noncomputable abbrev Sp:=List V->Hp->VK->XK->Prop
noncomputable abbrev CXT:=List Env->Hp->Shared->XK->Value->Shared->Prop
structure Env0 (P:Program) (w:World) (K:W.Frag) (mg:Str->Option Value) (base:Heap) (A:Around) (outer:List Env) (s:Shared) (H:Hp):Prop where
 frames:A.frames=some outer
 mod:Mod K mg base
 bs:∀b o,base.get? b=some o->s.heap.get? b=some o/\H b=none
 bsz:base.objs.size<=s.heap.objs.size
 funs:s.heap.FunFrames base outer
 frf:∀b∈frs outer,H b=none
 hok:HOk P w H s.heap
 bare:AllBare s.gens
noncomputable def CE (outer:List Env) (P:Program) (w:World) (H:Hp) (s:Shared) (Q:VK) (u:Value) (s':Shared):Prop :=
 ∃v H',s'.os=s.os/\AllBare s'.gens/\Un (frs outer) [] H H' s.heap s'.heap/\HOk P w H' s'.heap/\RelV v u/\Q v H'
noncomputable def CR (CX:CXT) (outer:List Env) (P:Program) (w:World) (H:Hp) (s:Shared) (Q:VK) (E:XK) (r:Result) (s':Shared):Prop :=
 match r with
 | .ok (.ret u)=>CE outer P w H s Q u s'
 | .ok _=>False
 | .error e=>CX outer H s E e s'
structure FnOk (P:Program) (w:World) (K:W.Frag) (mg:Str->Option Value) (base:Heap) (CX:CXT) (k:Nat) (f:Addr) (fd:FuncData) (ps:List Str) (sp:Sp):Prop where
 len:∀vs H Q E,sp vs H Q E->vs.length=ps.length
 run:∀(A:Around) (outer:List Env) (s:Shared) (H:Hp) (args:Args) (us:List Value) (vs:List V) (Q:VK) (E:XK),Room k A->Env0 P w K mg base A outer s H->BindsTo s fd args (ps.zip us)->Vals vs us->sp vs H Q E ->
  codeAny (model P w) A (.call (.ref f) args) (CR CX outer P w H s Q E) s
theorem FnOk.mono {P:Program}{w:World}{K:W.Frag}{mg:Str->Option Value}{base:Heap}{CX:CXT}{j k:Nat}{f:Addr}{fd:FuncData}{ps:List Str}{sp:Sp}(F:FnOk P w K mg base CX j f fd ps sp) (h:j<=k) :
  FnOk P w K mg base CX k f fd ps sp:=⟨F.len,λ A outer s H args us vs Q E hr=>F.run A outer s H args us vs Q E (hr.mono h)⟩
theorem FnOk.imp {P:Program}{w:World}{K:W.Frag}{mg:Str->Option Value}{base:Heap}{CX:CXT}{k:Nat}{f:Addr}{fd:FuncData}{ps:List Str}{sp sp':Sp}(F:FnOk P w K mg base CX k f fd ps sp)
  (h:∀vs H Q E,sp' vs H Q E->sp vs H Q E):FnOk P w K mg base CX k f fd ps sp' :=
 ⟨λ vs H Q E q=>F.len vs H Q E (h _ _ _ _ q),λ A outer s H args us vs Q E hr he hb hv hs=>F.run A outer s H args us vs Q E hr he hb hv (h _ _ _ _ hs)⟩
theorem Env0.make {P:Program}{w:World}{K:W.Frag}{mg:Str->Option Value}{base:Heap}{A:Around}{outer:List Env}{s:Shared}{H:Hp}(e:Env0 P w K mg base A outer s H) (C:Addr) (us:List Value) (kw:List (Str×Value)) :
  Env0 P w K mg base (A.under (.builtin "type.__call__" ⟨.ref C::us,kw⟩)) outer s H:=⟨by first|exact e.frames|(simpa [Around.under,Code.envs,Code.isFrame,pushEnvs] using e.frames),e.mod,e.bs,e.bsz,e.funs,e.frf,e.hok,e.bare⟩
theorem Env0.in1 {P:Program}{w:World}{K:W.Frag}{mg:Str->Option Value}{base:Heap}{A:Around}{outer:List Env}{s:Shared}{H:Hp}(e:Env0 P w K mg base A outer s H) :
  Env0 P w K mg base A.in1 outer s H:=⟨e.frames,e.mod,e.bs,e.bsz,e.funs,e.frf,e.hok,e.bare⟩
section
variable {X:Cx}{pins:List (Addr×Obj)}{σ:St}{H:Hp}{s s':Shared}
theorem Inv.env0 (I:Inv X pins σ H s):Env0 X.prog X.w X.K X.mg X.base X.A X.stack s H :=
 ⟨I.ok.frames,I.ok.mod,I.bs,Nat.le_trans I.ok.bsz I.sz,I.stack,I.stkFree,I.hok,I.bare⟩
theorem Inv.after {Q:VK}{u:Value}(I:Inv X pins σ H s) (h:CE X.stack X.prog X.w H s Q u s'):EP X pins σ Q u s':=by
 obtain⟨v,H',os,bare,un,hok,r,q⟩:=h
 obtain⟨hh,g,d,t,os'⟩:=s'
 obtain rfl:os'=s.os:=os
 exact⟨v,H',I.call (h':=hh) (g':=g) (d':=d) (t':=t) (ch:=[]) un hok bare (λ b z=>absurd z (by simp)),r,q⟩
end
noncomputable def Jhf (K:W.Frag) (fd:FuncData) (ps:List Str) (ds:List Value):Prop :=
 ∀(s:Shared) (us:List Value),K.In s.heap->(us++ds).length=ps.length->BindsTo s fd ⟨us,[]⟩ (ps.zip (us++ds))
theorem Jhf.all {K:W.Frag}{fd:FuncData}{ps:List Str}(h:∀us:List Value,us.length=ps.length->bindArgs fd ⟨us,[]⟩=pure (ps.zip us)):Jhf K fd ps []:=λ s us _ hl=>by
 rw[List.append_nil] at hl ⊢
 exact .of_eq (h us hl)
section
variable {X:Cx}{CX:CXT}{k:Nat}{f C:Addr}{fd:FuncData}{ps:List Str}{sp:Sp}{dvs:List V}{ds:List Value}{E:XK}{x m:Str}{p pos apos:Pos}{e o:Expr}{es:List Expr}{ta:TE}{t:TA}
structure Mk (K:W.Frag) (C f:Addr):Prop where
 makes:W.makesIn K C=true
 init:W.findIn K (.ref C) "__init__"=some (some (.ref f))
 fn:W.isFn K (.ref f)=true
 kp:W.keepIn K (.ref C)=true
end
section
variable {X:Cx}{CX:CXT}{k:Nat}{f C:Addr}{fd:FuncData}{ps ks:List Str}{sp:Sp}{E:XK}{x m:Str}{p pos apos kpos:Pos}{e o:Expr}{es:List Expr}{kws:List Keyword}{te ta:TE}{t tk:TA}{nm:Option Str}
structure KBinds (K:W.Frag) (fd:FuncData) (ps ks:List Str) (g:List Value->List Value->List Value) (gV:List V->List V->List V):Prop where
 to:∀(s:Shared) (us ws:List Value),K.In s.heap->(g us ws).length=ps.length->BindsTo s fd ⟨us,ks.zip ws⟩ (ps.zip (g us ws))
 rel:∀{vs:List V}{us:List Value}{zs:List V}{ws:List Value},Vals vs us->Vals zs ws->Vals (gV vs zs) (g us ws)
variable {g:List Value->List Value->List Value}{gV:List V->List V->List V}
end
structure FnScope (N P:List Str) (sc:Scope):Prop where
 kind:sc.kind=.function
 co:sc.isCoroutine=false
 gen:sc.isGenerator=false
 nd:N.Nodup
 pre:N.take P.length=P
 par:∀x∈P,sc.names.lookup x=some .local∨sc.names.lookup x=some .cell
 nofree:∀y∈sc.names,y.2≠.free
theorem Jrk {kindOf:Str->Option NameKind}{x:Str}:∀{binds:List (Str×Value)}{m:Str->Option Value},(∀v,(x,v)∉binds)->bindL kindOf binds m x=m x
 | [],_,_=>rfl
 | (n,v)::r,m,h=>by
  unfold bindL
  rw[Jrk λ w hw=>h w (List.mem_cons_of_mem _ hw)]
  split
  ·have:x≠n:=by rintro rfl;exact h v List.mem_cons_self
   simp[this]
  ·rfl
theorem Jri {kindOf:Str->Option NameKind}{x:Str}:∀{binds:List (Str×Value)}{m:Str->Option Value},(∀v,(x,v)∉binds)->bindC kindOf binds m x=m x
 | [],_,_=>rfl
 | (n,v)::r,m,h=>by
  unfold bindC
  rw[Jri λ w hw=>h w (List.mem_cons_of_mem _ hw)]
  split
  ·rfl
  ·have:x≠n:=by rintro rfl;exact h v List.mem_cons_self
   simp[this]
theorem Jrj {kindOf:Str->Option NameKind}{x:Str}{v:Value}:∀{P:List Str}{vs:List Value}{i:Nat}{m:Str->Option Value},P.Nodup->P[i]?=some x->vs[i]?=some v->kindOf x=some .local ->
  bindL kindOf (P.zip vs) m x=some v
 | [],_,_,_,_,h,_,_=>by simp at h
 | _::_,[],_,_,_,_,h,_=>by simp at h
 | p::P,w::vs,0,m,nd,h1,h2,hk=>by
  simp at h1 h2;subst h1;subst h2
  show bindL kindOf ((p,w)::P.zip vs) m p=_
  unfold bindL
  rw[Jrk λ v hv=>(List.nodup_cons.mp nd).1 (List.of_mem_zip hv).1,if_pos hk]
  simp
 | p::P,w::vs,i+1,m,nd,h1,h2,hk=>by
  show bindL kindOf ((p,w)::P.zip vs) m x=_
  unfold bindL
  exact Jrj (i:=i) (List.nodup_cons.mp nd).2 (by simpa using h1) (by simpa using h2) hk
theorem Jrh {kindOf:Str->Option NameKind}{x:Str}{v:Value}:∀{P:List Str}{vs:List Value}{i:Nat}{m:Str->Option Value},P.Nodup->P[i]?=some x->vs[i]?=some v->kindOf x≠some .local ->
  bindC kindOf (P.zip vs) m x=some v
 | [],_,_,_,_,h,_,_=>by simp at h
 | _::_,[],_,_,_,_,h,_=>by simp at h
 | p::P,w::vs,0,m,nd,h1,h2,hk=>by
  simp at h1 h2;subst h1;subst h2
  show bindC kindOf ((p,w)::P.zip vs) m p=_
  unfold bindC
  rw[Jri λ v hv=>(List.nodup_cons.mp nd).1 (List.of_mem_zip hv).1,if_neg hk]
  simp
 | p::P,w::vs,i+1,m,nd,h1,h2,hk=>by
  show bindC kindOf ((p,w)::P.zip vs) m x=_
  unfold bindC
  exact Jrh (i:=i) (List.nodup_cons.mp nd).2 (by simpa using h1) (by simpa using h2) hk
noncomputable def start (N:List Str) (vs:List V):St:=vs.map some++List.replicate (N.length-vs.length) none
noncomputable def cxOf (CX:CXT) (P:Program) (w:World) (K:W.Frag) (mg:Str->Option Value) (base:Heap) (N:List Str) (qual:Str) (scope:Scope) (f:Addr) (cd:Value) (A:Around) (outer:List Env) (s:Shared) (H:Hp) (E:XK):Cx where
 prog:=P
 w:=w
 K:=K
 mg:=mg
 base:=base
 A:=A.deeper (envOfC qual scope s.heap.objs.size f cd)
 N:=N
 s₀:=s
 H₀:=H
 env:=envOfC qual scope s.heap.objs.size f cd
 outer:=outer
 stack:=envOfC qual scope s.heap.objs.size f cd::outer
 ex:=[]
 calm:=true
 fn:=λ _=>true
 pn:=[]
 xe:=λ e s'=>wpAny (model P w) (A.deeper (envOfC qual scope s.heap.objs.size f cd)) (leaving (envOfC qual scope s.heap.objs.size f cd) e) (λ _ s''=>CX outer H s E e s'') (λ e' s''=>CX outer H s E e' s'') s'
theorem Ju5 {sc:Scope}{n:Nat}{x:Str}(h:sc.names.lookup x=some .cell):∃c,(cellsFrom n sc.names []).lookup x=some c:=by
 have q:=W.cellsFrom_some sc.names n [] (.inl h)
 exact Option.isSome_iff_exists.mp q
theorem Jym {CX:CXT}{P:Program}{w:World}{K:W.Frag}{mg:Str->Option Value}{base:Heap}{N ps:List Str}{qual:Str}{scope:Scope}{f:Addr}{cd:Value}{A:Around}{outer:List Env}{s s1:Shared}{H:Hp}{E:XK}{us:List Value}{vs:List V}
  (S:FnScope N ps scope) (hd:A.handled=none) (e0:Env0 P w K mg base A outer s H) (hl:vs.length=ps.length) (r:Vals vs us)
  (x:InCallC s s.heap.objs.size (bindL (envOfC qual scope s.heap.objs.size f cd).kindOf (ps.zip us) λ _=>none) (cellsFrom (s.heap.objs.size+1) scope.names []) (bindC (envOfC qual scope s.heap.objs.size f cd).kindOf (ps.zip us) λ _=>none) s1) :
  Inv (cxOf CX P w K mg base N qual scope f cd A outer s H E) [] (start N vs) H s1:=by
 have hpl:ps.length<=N.length:=by have:=congrArg List.length S.pre;rw[List.length_take] at this;omega
 obtain⟨h1,tk,rfl,hk⟩:=x.done
 have noA:∀b:Addr,b∉(cxOf CX P w K mg base N qual scope f cd A outer s H E).ex:=λ b z=>absurd (show b∈([]:List Addr) from z) (by simp)
 refine⟨⟨e0.mod,S.kind,rfl,rfl,Nat.le_refl _,λ y z c h1 h2=>?_,λ y hy=>?_,λ y c _ h=>?_,λ _=>hd,Around.frames_deeper e0.frames,.inr ⟨rfl,rfl⟩,λ b z=>absurd z (noA b),e0.bs,e0.bsz,λ b _ _=>noA b,λ b z=>absurd z (noA b),e0.funs,e0.frf⟩,
  rfl,e0.bare,Un.kept hk,⟨_,x.toInCall.ns,λ i y v h1 h2 h3=>?_⟩,λ y c h=>⟨_,x.cell y c h⟩,e0.hok.fresh (Nat.le_refl _),λ y c h=>?_,λ p hp=>absurd (show p∈([]:List (Addr×Obj)) from hp) (by simp),e0.hok.kept hk,?_⟩
 ·exact name_of_addr x.apart (PySem.mem_of_lookup h1) (PySem.mem_of_lookup h2)
 ·have hy:scope.names.lookup y=some .cell∨scope.names.lookup y=some .free:=hy
  rcases hy with hy|hy
  ·exact Ju5 hy
  ·exact absurd rfl (S.nofree _ (PySem.mem_of_lookup hy))
 ·exact Nat.le_of_lt (x.above y c (PySem.mem_of_lookup h))
 ·have hi:i<vs.length:=by
   unfold start at h2
   by_cases hi:i<vs.length
   ·exact hi
   ·rw[List.getElem?_append_right (by simpa using hi)] at h2
    rw[List.getElem?_replicate] at h2
    split at h2<;>cases h2
  have ha:vs[i]?=some v:=by
   unfold start at h2
   rw[List.getElem?_append_left (by simpa using hi),List.getElem?_map] at h2
   cases e:vs[i]? with
   | none=>rw[e] at h2;cases h2
   | some a=>rw[e] at h2;cases h2;rfl
  obtain⟨u,hu,rv⟩:=r.get ha
  have hp:ps[i]?=some y:=by
   rw[<- S.pre,List.getElem?_take_of_lt (by omega)];exact h1
  have ndP:ps.Nodup:=by rw[<- S.pre];exact S.nd.sublist (List.take_sublist _ _)
  refine⟨u,rv,?_⟩
  rcases S.par y (List.mem_of_getElem? hp) with k|k
  ·exact .inl ⟨k,Jrj ndP hp hu k⟩
  ·obtain⟨c,e⟩:=Ju5 (n:=s.heap.objs.size+1) k
   refine .inr ⟨.inl k,c,e,?_⟩
   have q:=x.cell y c e
   rw[Jrh ndP hp hu (by show scope.names.lookup y≠_;rw[k];decide)] at q
   exact q
 ·exact e0.hok.fresh (Nat.le_of_lt (x.above y c (PySem.mem_of_lookup h)))
 ·unfold start
  show _=N.length
  rw[List.length_append,List.length_map,List.length_replicate]
  omega
theorem J51 {CX:CXT}{P:Program}{w:World}{K:W.Frag}{mg:Str->Option Value}{base:Heap}{k:Nat}{f:Addr}{name qual:Str}{params:Arguments}{body:List Stmt}{scope:Scope}{dV kV doc pm cdv ct oc:Value}{an od:Option Addr}
  {osl:Array (Option Value)}{N ps:List Str}{sp:Sp}(lk:K.lookup f=some ⟨oc,od,.func (W.fnOf name qual params body scope dV kV doc pm an cdv ct),osl⟩) (hcd:W.codeIn K cdv qual=true) (S:FnScope N ps scope)
  (len:∀vs H Q E,sp vs H Q E->vs.length=ps.length)
  (hbody:∀(A:Around) (outer:List Env) (s:Shared) (H:Hp) (vs:List V) (Q:VK) (E:XK),Room k (A.deeper (envOfC qual scope s.heap.objs.size f cdv))->sp vs H Q E ->
   ∃t,PSs (cxOf CX P w K mg base N qual scope f cdv A outer s H E) body t/\t { nx:=λ _ H'=>Q .non H',rt:=Q } (start N vs) H) :
  FnOk P w K mg base CX (k+1) f (W.fnOf name qual params body scope dV kV doc pm an cdv ct) ps sp:=by
 refine⟨len,λ A outer s H args us vs Q E hr e0 hb r hsp=>?_⟩
 have hl:=len _ _ _ _ hsp
 have KX:K.In s.heap:=e0.mod.kin.keeps λ b o e=>(e0.bs b o e).1
 have lim:s.heap.NoLimit:=e0.mod.nolimit.keeps λ b o e=>(e0.bs b o e).1
 have hkind:∀y∈ps.zip us,scope.names.lookup y.1=some .local∨(scope.names.lookup y.1=some .cell/\((cellsFrom (s.heap.objs.size+1) scope.names []).lookup y.1).isSome=true):=λ ⟨n,v⟩ hy=>by
  rcases S.par n (List.of_mem_zip hy).1 with q|q
  ·exact .inl q
  ·exact .inr ⟨q,W.cellsFrom_some _ _ _ (.inl q)⟩
 refine codeAny_call_function hr.depth (KX _ _ lk) rfl S.co S.gen rfl (W.codeRec_of KX hcd) (hb _ _ _ _ ?_)
 refine wpAny_newFunctionEnv_cells S.kind hkind λ env he s1 x=>?_
 subst he
 refine⟨lim.keeps x.toInCall.keep,codeAny_func ?_⟩
 obtain⟨t,ht,hq⟩:=hbody A outer s H vs Q E (hr.deeper _) hsp
 have I:Inv (cxOf CX P w K mg base N qual scope f cdv A outer s H E) [] (start N vs) H s1:=Jym S hr.hd e0 hl r x
 refine wpAny_mono (ht [] s1 (start N vs) H _ I hq) (λ fl s' hs=>?_) λ e s' hs=>hs
 have fin:∀{σ':St}{H':Hp}{v:V}{u:Value},Inv (cxOf CX P w K mg base N qual scope f cdv A outer s H E) [] σ' H' s'->RelV v u->Q v H'->CE outer P w H s Q u s' :=
  λ {σ' H' v u} J rv q=>⟨v,H',J.os,J.bare,J.base,J.hok,rv,q⟩
 cases fl with
 | ret u =>
  obtain⟨v,σ',H',J,rv,q⟩:=hs
  exact fin J rv q
 | next =>
  obtain⟨σ',H',J,q⟩:=hs
  exact fin (v:=V.non) (u:=Value.none) J rfl q
 | brk =>
  obtain⟨_,_,_,q⟩:=hs
  exact False.elim q
 | cont =>
  obtain⟨_,_,_,q⟩:=hs
  exact False.elim q
section
variable {X:Cx}{x:Str}{p pos:Pos}{e:Expr}{es:List Expr}{t:TA}{id T:String}{r:List V->Hp->VK->Prop}
end
end L2
namespace HT
open PySem PyProof.Rows
section
open PySem.SeqAt
open PySem.AutoSeq1 (wpAny_loadPart')
open PySem.MeetsSeq PySem.MeetsSeq2 PySem.MeetsSeq3
end
section
variable {prog:Program}{w:World}{A:Around}{E:Value->Shared->Prop}{s:Shared}
theorem cat_tup {t b:Addr}{vs ws:List Value}{Q:Value->Shared->Prop}(ht:IsTup s.heap t vs.toArray) (hb:IsTup s.heap b ws.toArray) (hv:vs≠[])
  (h1:ws=[]->Q (.ref t) s) (h2:ws≠[]->Q (.ref s.heap.objs.size) { s with heap:=s.heap.push { cls:=.type "tuple",data:=.seq (vs++ws).toArray } })
  (hsz:vs.length+ws.length<=sizeLine):wpAny (model prog w) A (binaryOp .Add (.ref t) (.ref b)) Q E s:=by
 obtain⟨⟨cls,dd,data,sl⟩,ho,hc,n,hd⟩:=id ht
 obtain⟨⟨cls2,dd2,data2,sl2⟩,ho2,hc2,n2,hd2⟩:=id hb
 simp only at hc hd hc2 hd2
 subst hc hd hc2 hd2
 have e:vs.toArray++ws.toArray=(vs++ws).toArray:=by simp
 by_cases hw:ws=[]
 ·exact concat_meets ⟨_,ho,rfl⟩ ⟨_,ho2,rfl⟩ noFill_tuple_add seq_tuple_add PySem.F.slot_tuple_add PySem.F.entry_tuple_add (PySem.F.args_tuple_add_2 _ _)
   (tuple_addW1 t b vs.toArray ws.toArray n n2 dd dd2 sl sl2 (by simpa using hv) (by simp[hw])) ⟨ho,ho2,h1 hw⟩
 ·refine concat_meets ⟨_,ho,rfl⟩ ⟨_,ho2,rfl⟩ noFill_tuple_add seq_tuple_add PySem.F.slot_tuple_add PySem.F.entry_tuple_add (PySem.F.args_tuple_add_2 _ _)
   (tuple_addW2 t b vs.toArray ws.toArray n n2 dd dd2 sl sl2 (by simpa using hv) (by simpa using hw) (by rw[List.size_toArray,List.size_toArray];exact hsz)) ⟨ho,ho2,?_⟩
  rw[e]
  exact h2 hw
noncomputable def sIx (n d:Nat):Option Int->Nat
 | none=>d
 | some v=>if v<0 then(v+(n:Int)).toNat else min v.toNat n
theorem sIx_none (n d:Nat):sIx n d none=d:=rfl
theorem sIx_nat (n d k:Nat):sIx n d (some (k:Int))=min k n:=by
 show(if (k:Int)<0 then((k:Int)+(n:Int)).toNat else min (k:Int).toNat n)=min k n
 rw[if_neg (by omega),Int.toNat_natCast]
end
end HT
namespace L2
open PySem PySem.Spec PyProof.Rows
noncomputable abbrev TO:=St->Hp->(Option Int->Hp->Prop)->Prop
section
variable {X:Cx}{e:Expr}{te:TE}{lo hi:Option Expr}{tl th:TO}{pos p2:Pos}
noncomputable def SlR (X:Cx) (r:V->Option Int->Option Int->Hp->VK->Prop):Prop :=
 ∀(pins:List (Addr×Obj)) (s:Shared) (σ:St) (H:Hp) (x:V) (v vl vu:Value) (lo hi:Option Int) (sl:Addr) (Q:VK),Inv X pins σ H s->RelV x v->s.heap.IsSliceOf sl vl vu .none->IsPart vl lo->IsPart vu hi->r x lo hi H Q ->
  ∃T id,typeLookup (.type T) "__getitem__"=pure (some (.builtin id))/\s.TypeIs v T/\wpAny (model X.prog X.w) X.A (getItem v (.ref sl)) (EP X pins σ Q) X.xe s
noncomputable def cutV (xs:List V) (lo hi:Option Int):List V:=(xs.drop (HT.sIx xs.length 0 lo)).take (HT.sIx xs.length xs.length hi-HT.sIx xs.length 0 lo)
theorem Jt5 (xs:List V) (lo hi:Option Int):(cutV xs lo hi).length<=xs.length:=by
 unfold cutV
 rw[List.length_take,List.length_drop]
 omega
noncomputable def rCatT (K:W.Frag):R2:=λ x y H Q=>∃a b xs ys,x=.ref a/\y=.ref b/\SqT K H a xs/\SqT K H b ys/\xs≠[]/\xs.length+ys.length<=sizeLine /\
 (ys=[]->Q (.ref a) H)/\(ys≠[]->∀p,H p=none->Q (.ref p) (upd H p (.tup (xs++ys))))
theorem Vals.nil_iff {xs:List V}{us:List Value}(r:Vals xs us):us=[]↔xs=[]:=by
 cases r with
 | nil=>simp
 | cons _ _=>simp
theorem J4j:OpR X (binaryOp .Add) (rCatT X.K):=by
 intro pins s σ H x y v u Q I rx ry h
 obtain⟨a,b,xs,ys,rfl,rfl,ha,hb,hx,hz,q1,q2⟩:=h
 cases rx
 cases ry
 obtain⟨its,r1,p1,_⟩:=I.tuple ha
 obtain⟨its2,r2,p2,_⟩:=I.tuple hb
 refine HT.cat_tup p1 p2 (λ z=>hx (r1.nil_iff.mp z)) (λ z=>⟨.ref a,H,I,rfl,q1 (r2.nil_iff.mp z)⟩) (λ z=>?_) (by rw[<- r1.length,<-r2.length];exact hz)
 refine⟨.ref s.heap.objs.size,_,I.laid (t':=s.toks) (o:=.tup (xs++ys)) (λ b ob q=>Heap.get?_push_of_some _ q) (Nat.le_refl _) ?_,rfl,q2 (λ w=>z (r2.nil_iff.mpr w)) _ (I.hok.fresh (Nat.le_refl _))⟩
 exact⟨by rw[List.length_append];exact hz,_,r1.append r2,IsTup.new _ _⟩
end
noncomputable def ixN (n:Nat) (i:Int):Option Nat:=if 0<=i then(if i<n then some i.toNat else none) else if -(n:Int)<=i then some (i+n).toNat else none
noncomputable def atI {α:Type}(xs:List α) (i:Int):Option α:=(ixN xs.length i).bind λ j=>xs[j]?
theorem J30 {n:Nat}{i:Int}{j:Nat}(h:ixN n i=some j):seqIndex? i n=some j/\j<n/\ -(n:Int)<=i/\i<n:=by
 unfold ixN at h
 by_cases h0:0<=i
 ·rw[if_pos h0] at h
  by_cases h1:i<n
  ·rw[if_pos h1] at h
   have e:i.toNat=j:=Option.some.inj h
   exact⟨by rw[seqIndex_of h0 h1,e],by omega,by omega,h1⟩
  ·rw[if_neg h1] at h;cases h
 ·rw[if_neg h0] at h
  by_cases h1: -(n:Int)<=i
  ·rw[if_pos h1] at h
   have e:(i+n).toNat=j:=Option.some.inj h
   exact⟨by rw[seqIndex_neg (by omega) h1,e],by omega,h1,by omega⟩
  ·rw[if_neg h1] at h;cases h
theorem Jtv {α:Type}{xs:List α}{i:Int}{v:α}(h:atI xs i=some v):∃j,seqIndex? i xs.length=some j/\xs[j]?=some v/\j<xs.length/\ -(xs.length:Int)<=i/\i<xs.length:=by
 unfold atI at h
 cases e:ixN xs.length i with
 | none=>rw[e] at h;cases h
 | some j =>
  rw[e] at h
  obtain⟨h1,h2,h3,h4⟩:=J30 e
  exact⟨j,h1,h,h2,h3,h4⟩
noncomputable def Jxf (b:Expr):Prop:=∀o i,subscripted b false o i=operate [o,i] (getItem o i)
noncomputable def IxR (X:Cx) (r:R2):Prop :=
 ∀(value slice:Expr) (pins:List (Addr×Obj)) (s:Shared) (σ:St) (H:Hp) (x y:V) (v u:Value) (Q:VK),Inv X pins σ H s->RelV x v->RelV y u->r x y H Q ->
  subscripted slice false v u=operate [v,u] (getItem v u)->wpAny (model X.prog X.w) X.A (subscriptTail value slice v u) (EP X pins σ Q) X.xe s
section
variable {X:Cx}{a b:Expr}{ta tb:TE}{pos:Pos}
noncomputable def rIxL (K:W.Frag):R2:=λ x y H Q=>∃p xs i v,x=.ref p/\y=.int i/\SqL K H p xs/\atI xs i=some v/\Q v H
noncomputable def rIxT (K:W.Frag):R2:=λ x y H Q=>∃p xs i v,x=.ref p/\y=.int i/\SqT K H p xs/\atI xs i=some v/\Q v H
noncomputable def rIxS:R2:=λ x y H Q=>∃z i c,x=.str z/\y=.int i/\z.length<=sizeLine/\atI z.cps.toList i=some c/\Q (.str ⟨#[c]⟩) H
theorem Jyp:IxR X (rIxL X.K):=by
 intro value slice pins s σ H x y v u Q I rx ry h hs
 obtain⟨p,xs,i,z,rfl,rfl,hq,he,q⟩:=h
 cases rx
 obtain⟨t,rfl⟩:=ry
 obtain⟨its,r,pl,hz⟩:=I.list hq
 obtain⟨j,h1,h2,h3,h4,h5⟩:=Jtv he
 obtain⟨w,ew,rw'⟩:=r.get h2
 have hl:=r.length
 have hn:=Jsk
 have fin:EP X pins σ Q w s:=⟨z,H,I,rw',q⟩
 by_cases h0:0<=i
 ·have hj:i.toNat=j:=by
   rw[seqIndex_of h0 h5] at h1
   exact Option.some.inj h1
  exact item_listR pl.isList h0 (by omega) (by rw[hj];simpa using ew) fin hs
 ·have hj:(i+(its.toArray.size:Int)).toNat=j:=by
   rw[seqIndex_neg (by omega) h4] at h1
   rw[List.size_toArray,<-hl]
   exact Option.some.inj h1
  exact subscriptTail_builtinR (x:=w) pl.isList.typeIs slot_list_getitem.lookup
   (wpAny_getItem_list_neg (Q:=λ r s'=>r=w/\EP X pins σ Q r s') pl.isList (by omega) (by rw[List.size_toArray]<;>omega) (by omega) (by rw[hj];simpa using ew) ⟨rfl,fin⟩) hs
theorem J6m:IxR X (rIxT X.K):=by
 intro value slice pins s σ H x y v u Q I rx ry h hs
 obtain⟨p,xs,i,z,rfl,rfl,hq,he,q⟩:=h
 cases rx
 obtain⟨t,rfl⟩:=ry
 obtain⟨its,r,pl,hz⟩:=I.tuple hq
 obtain⟨j,h1,h2,h3,h4,h5⟩:=Jtv he
 obtain⟨w,ew,rw'⟩:=r.get h2
 have hl:=r.length
 have hn:=Jsk
 have fin:EP X pins σ Q w s:=⟨z,H,I,rw',q⟩
 exact subscriptTail_builtinR (x:=w) pl.typeIs slot_tuple_getitem.lookup
  (getItem_tuple (j:=j) (Q:=λ r s'=>r=w/\EP X pins σ Q r s') pl (by omega) (by omega) (by rw[List.size_toArray,<-hl];exact h1) (by simpa using ew) ⟨rfl,fin⟩) hs
theorem J6l:IxR X rIxS:=by
 intro value slice pins s σ H x y v u Q I rx ry h hs
 obtain⟨z,i,c,rfl,rfl,hz,he,q⟩:=h
 obtain⟨t,rfl⟩:=rx
 obtain⟨t',rfl⟩:=ry
 obtain⟨j,h1,h2,h3,h4,h5⟩:=Jtv he
 have hl:z.cps.toList.length=z.length:=by simp[Str.length]
 rw[hl] at h1 h4 h5
 have hn:=Jsk
 exact tail_any (typeIs_str s z t) slot_str_getitem.lookup (getItem_str (c:=c) (by
  have e1:decide (i< -(2^63:Int))=false:=decide_eq_false (by omega)
  have e2:decide (i ≥ 2^63)=false:=decide_eq_false (by omega)
  rw[e1,e2,Bool.or_false]) (by rw[h1];simpa using h2) ⟨.str ⟨#[c]⟩,H,I.tok _,⟨_,rfl⟩,q⟩) hs
theorem Inv.lst {pins:List (Addr×Obj)}{σ:St}{H:Hp}{s:Shared}{p:Addr}{xs:List V}(I:Inv X pins σ H s) (h:H p=some (.lst xs)) :
  ∃(its:List Value) (n:Nat),Vals xs its/\s.heap.get? p=some { cls:=.type "list",data:=.seq its.toArray n }/\xs.length<=sizeLine:=by
 obtain⟨z,its,n,r,e⟩:=I.hok p _ h
 exact⟨its,n,r,e,z⟩
theorem Jth (lo hi:Option Int) (n:Nat):(sliceBounds lo hi none n).1=((HT.sIx n 0 lo:Nat):Int)/\(sliceBounds lo hi none n).2.1=((HT.sIx n n hi:Nat):Int)/\(sliceBounds lo hi none n).2.2=1:=by
 refine⟨?_,?_,rfl⟩
 ·cases lo with
  | none=>simp[sliceBounds,HT.sIx]
  | some i =>
   simp only[sliceBounds,HT.sIx,Option.getD_none,show(1:Int)>0 by decide,if_true]
   by_cases h:i<0
   ·simp only[h,if_true]<;>omega
   ·simp only[h,if_false]<;>omega
 ·cases hi with
  | none=>simp[sliceBounds,HT.sIx]
  | some i =>
   simp only[sliceBounds,HT.sIx,Option.getD_none,show(1:Int)>0 by decide,if_true]
   by_cases h:i<0
   ·simp only[h,if_true]<;>omega
   ·simp only[h,if_false]<;>omega
theorem Jq4 (its:List Value) (lo hi:Option Int):slicePick its.toArray lo hi none=((its.drop (HT.sIx its.length 0 lo)).take (HT.sIx its.length its.length hi-HT.sIx its.length 0 lo)).toArray:=by
 obtain⟨h1,h2,h3⟩:=Jth lo hi its.toArray.size
 unfold slicePick
 rw[h1,h2,h3]
 simp only[sliceRange_one,pick_run,List.size_toArray]<;>rfl
noncomputable def rSlL (K:W.Frag):V->Option Int->Option Int->Hp->VK->Prop:=λ x lo hi H Q=>∃a xs,x=.ref a/\SqL K H a xs/\∀p,H p=none->Q (.ref p) (upd H p (.lst (cutV xs lo hi)))
theorem Jzj:SlR X (rSlL X.K):=by
 intro pins s σ H x v vl vu lo hi sl Q I rx hs pl pu h
 obtain⟨a,xs,rfl,hx,q⟩:=h
 cases rx
 obtain⟨its,r,ht,hz⟩:=I.list hx
 have hlen:=r.length
 refine⟨"list",_,slot_list_getitem.lookup,ht.isList.typeIs,?_⟩
 refine wpAny_getItem_list_slice ht.isList hs pl pu .none (by simp) ?_ (by rw[List.size_toArray]<;>omega)
 rw[Jq4,<-hlen]
 refine⟨.ref s.heap.objs.size,_,I.laid (t':=s.toks) (o:=.lst (cutV xs lo hi)) (λ b ob q=>Heap.get?_push_of_some _ q) (Nat.le_refl _) ?_,rfl,q _ (I.hok.fresh (Nat.le_refl _))⟩
 exact⟨Nat.le_trans (Jt5 xs lo hi) hz,_,0,(r.drop (HT.sIx xs.length 0 lo)).take (HT.sIx xs.length xs.length hi-HT.sIx xs.length 0 lo),Heap.get?_push_size _ rfl⟩
theorem Jgl:Jvw X (.type "list") (λ xs H Q=>∃p ys,xs=[.ref p]/\(SqL X.K H p ys∨SqT X.K H p ys)/\∀l,H l=none->Q (.ref l) (upd H l (.lst ys))):=by
 intro pins s σ H xs us Q I r h
 obtain⟨p,ys,rfl,hq,q⟩:=h
 obtain⟨u,rfl,rx⟩:=Jmm r
 cases rx
 have fin:∀(its:List Value),Vals ys its->ys.length<=sizeLine->∀(h':Heap) (c':Nat),(∀b o',s.heap.get? b=some o'->h'.get? b=some o') ->
   h'.get? s.heap.objs.size=some { cls:=.type "list",dict:=none,data:=.seq its.toArray c',slots:=#[] }->EP X pins σ Q (.ref s.heap.objs.size) { s with heap:=h' }:=λ its r' hz h' c' kp e =>
  ⟨.ref s.heap.objs.size,_,I.laid (t':=s.toks) kp (Nat.le_refl _) (show Jcg X.prog X.w _ h' _ (.lst ys) from⟨hz,its,c',r',e⟩),rfl,q _ (I.hok.fresh (Nat.le_refl _))⟩
 rcases hq with hq|hq
 ·obtain⟨its,r',pl,hz⟩:=I.list hq
  have hlen:=r'.length
  obtain⟨o,ho,hc,n,hd⟩:=pl.isList
  exact call_list_seq p (.inl rfl) ho hc hd (λ h' c' kp e=>fin its r' hz h' c' kp e) (by simp only[List.size_toArray]<;>omega)
 ·obtain⟨its,r',pl,hz⟩:=I.tuple hq
  have hlen:=r'.length
  obtain⟨o,ho,hc,n,hd⟩:=pl
  exact call_list_seq p (.inr rfl) ho hc hd (λ h' c' kp e=>fin its r' hz h' c' kp e) (by simp only[List.size_toArray]<;>omega)
theorem Jj8:Jvw X (.type "tuple") (λ xs H Q=>∃p ys,xs=[.ref p]/\((SqL X.K H p ys/\∀l,H l=none->Q (.ref l) (upd H l (.tup ys)))∨(SqT X.K H p ys/\Q (.ref p) H))):=by
 intro pins s σ H xs us Q I r h
 obtain⟨p,ys,rfl,h⟩:=h
 obtain⟨u,rfl,rx⟩:=Jmm r
 cases rx
 rcases h with⟨hq,q⟩|⟨hq,q⟩
 ·obtain⟨its,r',pl,hz⟩:=I.list hq
  have hlen:=r'.length
  refine call_tuple_list pl.isList (λ h' kp=>?_) (by simp only[List.size_toArray]<;>omega)
  have I1:Inv X pins σ H { s with heap:=h' }:=I.kept (t':=s.toks) kp
  have I2:Inv X pins σ (upd H h'.objs.size (.tup ys)) { s with heap:=h'.push { cls:=.type "tuple",data:=.seq its.toArray } } :=
   I1.laid (t':=s.toks) (λ b o e=>Heap.get?_push_of_some _ e) (Nat.le_refl _) (show Jcg X.prog X.w _ _ _ (.tup ys) from⟨hz,its,r',IsTup.new _ _⟩)
  exact⟨.ref h'.objs.size,_,I2,rfl,q _ (I1.hok.fresh (Nat.le_refl _))⟩
 ·obtain⟨its,r',pl,hz⟩:=I.tuple hq
  exact call_tuple_same pl ⟨.ref p,H,I,rfl,q⟩
noncomputable def tyV (K:W.Frag) (T:String) (x:V) (H:Hp):Prop:=match x with
 | .str _=>T="str"
 | .int _=>T="int"
 | .ref p=>(T="list"/\∃xs,SqL K H p xs)∨(T="tuple"/\∃o,K.lookup p=some o/\o.cls=.type "tuple"/\o.dict=none) ∨
   (T="dict"/\((∃kvs,H p=some (.dK kvs))∨∃kvs,H p=some (.dT kvs)))∨(T="set"/\∃S n,H p=some (.set S n))
 | _=>False
theorem J2y {pins:List (Addr×Obj)}{σ:St}{H:Hp}{s:Shared}{T:String}{x:V}{v:Value}(I:Inv X pins σ H s) (r:RelV x v) (ty:tyV X.K T x H) :
  s.TypeIs v T/\∀a,v=.ref a->∃ob,s.heap.get? a=some ob/\ob.dict=none:=by
 cases x with
 | str z =>
  obtain⟨t,rfl⟩:=r
  cases (show T="str" from ty)
  exact⟨typeIs_str s z t,λ _ e=>nomatch e⟩
 | int i =>
  obtain⟨t,rfl⟩:=r
  cases (show T="int" from ty)
  exact⟨typeIs_int s i t,λ _ e=>nomatch e⟩
 | ref p =>
  cases r
  rcases ty with⟨rfl,xs,hq⟩|⟨rfl,o,hk,hc,hd⟩|⟨rfl,hk⟩|⟨rfl,S,n,hk⟩
  ·obtain⟨its,_,pl,_⟩:=I.list hq
   refine⟨pl.isList.typeIs,λ a e=>?_⟩
   cases e
   obtain⟨o,n,e,c,hd,_⟩:=pl
   exact⟨o,e,hd⟩
  ·refine⟨⟨o,I.kIn p o hk,hc⟩,λ a e=>?_⟩
   cases e
   exact⟨o,I.kIn _ o hk,hd⟩
  ·have z:∃o,s.heap.get? p=some o/\o.ExactDict:=by
    rcases hk with⟨kvs,hk⟩|⟨kvs,hk⟩
    ·obtain⟨_,_,_,_,o,_,_,e,ex,_⟩:=I.hok p _ hk
     exact⟨o,e,ex⟩
    ·obtain⟨_,_,_,_,o,_,_,e,ex,_⟩:=I.hok p _ hk
     exact⟨o,e,ex⟩
   obtain⟨o,e,ex⟩:=z
   refine⟨⟨o,e,ex.1⟩,λ a e2=>?_⟩
   cases e2
   exact⟨o,e,ex.2.1⟩
  ·obtain⟨o,_,_,_,e,ex,_⟩:=I.hok p _ hk
   refine⟨⟨o,e,ex.1⟩,λ a e2=>?_⟩
   cases e2
   exact⟨o,e,ex.2.1⟩
 | _=>exact False.elim ty
variable {o e:Expr}{es:List Expr}{to:TE}{t:TA}{name:Str}{apos cpos:Pos}{T id:String}{r:V->List V->Hp->VK->Prop}
end
noncomputable def MtM (X:Cx) (id:String) (r:V->List V->Hp->VK->Prop):Prop :=
 ∀(pins:List (Addr×Obj)) (s:Shared) (σ:St) (H:Hp) (x:V) (xs:List V) (v:Value) (us:List Value) (Q:VK),Inv X pins σ H s->RelV x v->Vals xs us->r x xs H Q ->
  wpAny (model X.prog X.w) X.A (call (.builtin id) (v::us)) (EP X pins σ Q) X.xe s
theorem Vals.one:∀{x:V}{us:List Value},Vals [x] us->∃u,us=[u]/\RelV x u
 | _,_,.cons r .nil=>⟨_,rfl,r⟩
theorem Vals.two:∀{x y:V}{us:List Value},Vals [x,y] us->∃u v,us=[u,v]/\RelV x u/\RelV y v
 | _,_,_,.cons r (.cons q .nil)=>⟨_,_,rfl,r,q⟩
theorem Vals.zero:∀{us:List Value},Vals [] us->us=[]
 | _,.nil=>rfl
theorem Vals.rep {xs:List V}{us:List Value}(h:Vals xs us):∀k:Nat,Vals (List.replicate k xs).flatten (List.replicate k us).flatten
 | 0=>.nil
 | k+1=>by
  rw[List.replicate_succ,List.replicate_succ,List.flatten_cons,List.flatten_cons]
  exact Vals.append h (Vals.rep h k)
theorem Jr1 (its:List Value):∀(k:Nat) (acc:List Value),
  List.foldl (λ x1 x2=>x1++x2) acc.toArray (List.replicate k its.toArray)=(acc++(List.replicate k its).flatten).toArray
 | 0,acc=>by simp
 | k+1,acc=>by
  have e:acc.toArray++its.toArray=(acc++its).toArray:=by simp
  have e2:(acc++its)++(List.replicate k its).flatten=acc++(List.replicate (k+1) its).flatten:=by
   rw[List.replicate_succ,List.flatten_cons,List.append_assoc]
  rw[<- e2,<-Jr1 its k (acc++its),<-e,List.replicate_succ,List.foldl_cons]
section
variable {X:Cx}{pins:List (Addr×Obj)}{σ:St}{H:Hp}{s:Shared}{l b:Addr}{xs ys zs:List V}
theorem Inv.lset {its its':List Value}{n:Nat}{f:Array Value->Array Value}{t':Nat}(I:Inv X pins σ H s) (hH:H l=some (.lst xs))
  (e:s.heap.get? l=some { cls:=.type "list",data:=.seq its.toArray n }) (hf:f its.toArray=its'.toArray) (hv:Vals ys its') (hz:ys.length<=sizeLine) :
  Inv X pins σ (upd H l (.lst ys)) { s with heap:=s.heap.update l (Obj.mapSeq f),toks:=t' }:=by
 have q:=PySem.IsL.update e f
 rw[hf] at q
 refine I.write (x:=l) (e:=l) (by rw[hH];exact trivial) (.inl rfl) (λ b' u hb hu=>(Heap.get?_update_other s.heap (Obj.mapSeq f) (Ne.symm hb)).trans hu) ⟨_,q⟩ ?_
 exact⟨hz,its',_,hv,q⟩
theorem Inv.lnew {its:List Value}{t':Nat}(I:Inv X pins σ H s) (hv:Vals ys its) (hz:ys.length<=sizeLine) :
  Inv X pins σ (upd H s.heap.objs.size (.lst ys)) { s with heap:=s.heap.push { cls:=.type "list",data:=.seq its.toArray },toks:=t' } :=
 I.laid (λ _ _ q=>Heap.get?_push_of_some _ q) (Nat.le_refl _) ⟨hz,its,0,hv,Heap.get?_push_size _ rfl⟩
theorem Inv.fresh (I:Inv X pins σ H s):H s.heap.objs.size=none:=I.hok.fresh (Nat.le_refl _)
theorem Inv.lstM (I:Inv X pins σ H s) (hH:H l=some (.lst xs)):xs.length<=sizeLine/\∃(its:List Value) (n:Nat),Vals xs its/\xs.length=its.length/\s.heap.get? l=some { cls:=.type "list",data:=.seq its.toArray n }:=by
 obtain⟨z,its,n,r,e⟩:=I.hok l _ hH
 exact⟨z,its,n,r,r.length,e⟩
theorem Jvf {n:Nat}(h:n<=sizeLine):Builtin.List.listTooLong n=false:=by
 unfold Builtin.List.listTooLong
 exact decide_eq_false (by omega)
end
section
variable {X:Cx}
noncomputable def J4p:V->List V->Hp->VK->Prop:=λ x vs H Q=>∃l xs y,x=.ref l/\vs=[y]/\H l=some (.lst xs)/\xs.length<sizeLine/\Q .non (upd H l (.lst (xs++[y])))
theorem Jsm:MtM X "list.append" J4p:=by
 intro pins s σ H x vs v us Q I rx rv h
 obtain⟨l,xs,y,rfl,rfl,hH,hz,q⟩:=h
 cases rx
 obtain⟨u,rfl,ru⟩:=rv.one
 obtain⟨z,its,n,r,hl,e⟩:=I.lstM hH
 refine call_meets F.slot_list_append ⟨_,e,rfl⟩ F.entry_list_append (F.args_list_append_2 _ _) (PySem.list_append l its.toArray n u (by rw[List.size_toArray];omega)) ⟨e,?_⟩
 refine⟨.non,_,I.lset (its':=its++[u]) hH e (by simp) (r.append (.cons ru .nil)) ?_,rfl,q⟩
 rw[List.length_append,List.length_singleton]
 omega
noncomputable def J4q:V->List V->Hp->VK->Prop:=λ x vs H Q=>∃l b xs zs,x=.ref l/\vs=[.ref b]/\H l=some (.lst xs)/\H b=some (.lst zs)/\xs.length+zs.length<=sizeLine/\Q .non (upd H l (.lst (xs++zs)))
theorem J6y:MtM X "list.extend" J4q:=by
 intro pins s σ H x vs v us Q I rx rv h
 obtain⟨l,b,xs,zs,rfl,rfl,hH,hB,hz,q⟩:=h
 cases rx
 obtain⟨u,rfl,ru⟩:=rv.one
 cases ru
 obtain⟨z,its,n,r,hl,e⟩:=I.lstM hH
 obtain⟨z2,its2,n2,r2,hl2,e2⟩:=I.lstM hB
 have hsz:its.toArray.size+its2.toArray.size<=sizeLine:=by rw[List.size_toArray,List.size_toArray];omega
 have hlong:¬(!its.toArray.isEmpty&&Builtin.List.listTooLong (its.toArray.size+its2.toArray.size))=true:=by
  rw[Jvf hsz,Bool.and_false]
  exact Bool.false_ne_true
 refine call_meets F.slot_list_extend ⟨_,e,rfl⟩ F.entry_list_extend (F.args_list_extend_2 _ _)
  (AutoSeq1.list_extend_list_list_0 l its.toArray n b its2.toArray n2 hlong (by rw[List.size_toArray];omega) (by omega)) ⟨e,e2,?_⟩
 refine⟨.non,_,I.lset (its':=its++its2) hH e (by simp) (r.append r2) ?_,rfl,q⟩
 rw[List.length_append]
 omega
noncomputable def rCat:R2:=λ x y H Q=>∃l b xs zs,x=.ref l/\y=.ref b/\H l=some (.lst xs)/\H b=some (.lst zs)/\xs.length+zs.length<=sizeLine/\∀p,H p=none->Q (.ref p) (upd H p (.lst (xs++zs)))
theorem J64:OpR X (binaryOp .Add) rCat:=by
 intro pins s σ H x y v u Q I rx ry h
 obtain⟨l,b,xs,zs,rfl,rfl,hH,hB,hz,q⟩:=h
 cases rx
 cases ry
 obtain⟨z,its,n,r,hl,e⟩:=I.lstM hH
 obtain⟨z2,its2,n2,r2,hl2,e2⟩:=I.lstM hB
 refine PySem.P.add_list e e2 ?_ (by rw[List.size_toArray,List.size_toArray];omega)
 have ea:its.toArray++its2.toArray=(its++its2).toArray:=by simp
 rw[ea]
 exact⟨.ref _,_,I.lnew (t':=s.toks) (r.append r2) (by rw[List.length_append];omega),rfl,q _ I.fresh⟩
noncomputable def rRep:R2:=λ x y H Q=>∃l k xs,x=.ref l/\y=.int k/\H l=some (.lst xs)/\ -(2^63)<=k/\k<2^63/\xs.length*k.toNat<=sizeLine /\
 ∀p,H p=none->Q (.ref p) (upd H p (.lst (List.replicate k.toNat xs).flatten))
theorem J35 {α:Type}(xs:List α) (k:Nat):(List.replicate k xs).flatten.length=k*xs.length:=by
 induction k with
 | zero=>simp
 | succ k ih=>rw[List.replicate_succ,List.flatten_cons,List.length_append,ih,Nat.succ_mul,Nat.add_comm]
theorem J67:OpR X (binaryOp .Mult) rRep:=by
 intro pins s σ H x y v u Q I rx ry h
 obtain⟨l,k,xs,rfl,rfl,hH,h1,h2,hz,q⟩:=h
 cases rx
 obtain⟨t,rfl⟩:=ry
 obtain⟨z,its,n,r,hl,e⟩:=I.lstM hH
 have hlen:its.toArray.size*k.toNat<=sizeLine:=by rw[List.size_toArray,<-hl];exact hz
 have hcap:¬its.toArray.size*k.toNat>(2^63-1)/8:=by
  have:(sizeLine:Nat)<=(2^63-1)/8:=by decide
  omega
 have hfit:¬(!Builtin.List.listFitsIndex k)=true:=by
  rw[fitsIndex_both h1 h2]
  exact Bool.false_ne_true
 have hlong:¬Builtin.List.listTooLong (its.toArray.size*k.toNat)=true:=by
  rw[Jvf hlen]
  exact Bool.false_ne_true
 have hnew:List.foldl (λ x1 x2=>x1++x2) #[] (List.replicate (if its.toArray.isEmpty=true then 0 else k.toNat) its.toArray)=(List.replicate k.toNat its).flatten.toArray:=by
  have f0:∀m:Nat,List.foldl (λ x1 x2=>x1++x2) #[] (List.replicate m its.toArray)=(List.replicate m its).flatten.toArray:=λ m=>by
   have:=Jr1 its m []
   rw[List.nil_append] at this
   exact this
  rw[f0]
  cases its with
  | nil=>simp
  | cons a r'=>rw[if_neg (by simp)]
 refine wpAny_binaryOp_repeat_ref (T:="list") (U:="int") (by decide) ⟨_,e,rfl⟩ (λ s'=>typeIs_int s' k t) noFill_list_mul F.fills_int_mul F.slot_int_rmul repeat_list F.slot_int_index.lookup
  (call_meets F.slot_int_rmul (typeIs_int s k t) F.entry_int_rmul (F.args_int_rmul_2 _ _) (int___rmul___int_list k t l its.toArray n)
   ⟨e,rfl,⟨_,e,rfl⟩,call_meets F.slot_list_mul ⟨_,e,rfl⟩ F.entry_list_mul (F.args_list_mul_2 _ _) (AutoListH.list___mul___list_int_3 l its.toArray n k t hfit hcap hlong) ⟨e,?_⟩⟩)
 rw[hnew]
 exact⟨.ref _,_,I.lnew (t':=s.toks) (r.rep k.toNat) (by rw[J35,Nat.mul_comm];exact hz),rfl,q _ I.fresh⟩
end
section
variable {prog:Program}{w:World}{A:Around}{E:Value->Shared->Prop}{s:Shared}
end
section
variable {X:Cx}
end
section
variable {κ:Type}[DecidableEq κ]
noncomputable def valV (kvs:List (κ×V)) (k:κ):Option V:=(kvs.find? λ kv=>decide (kv.1=k)).map (·.2)
noncomputable def putK (kvs:List (κ×V)) (k:κ) (v:V):List (κ×V) :=
 if (kvs.any λ kv=>decide (kv.1=k))=true then kvs.map (λ kv=>if kv.1=k then(kv.1,v) else kv) else kvs++[(k,v)]
noncomputable def J5y (kvs:List (κ×V)) (k:κ):List (κ×V):=kvs.filter λ kv=>decide (kv.1≠k)
theorem Jmw {p:κ×V}{r:List (κ×V)}{k:κ}(e:p.1=k):valV (p::r) k=some p.2:=by simp[valV,List.find?_cons,e]
theorem Jmv {p:κ×V}{r:List (κ×V)}{k:κ}(e:¬p.1=k):valV (p::r) k=valV r k:=by simp[valV,List.find?_cons,e]
theorem Jrb (k:κ):∀kvs:List (κ×V),(kvs.any λ kv=>decide (kv.1=k))=(valV kvs k).isSome
 | []=>rfl
 | p::r=>by
  rw[List.any_cons]
  by_cases e:p.1=k
  ·simp only[Jmw e,decide_eq_true e,Bool.true_or,Option.isSome_some]
  ·rw[Jmv e,decide_eq_false e,Bool.false_or];exact Jrb k r
theorem Juc (kvs:List (κ×V)) (k:κ) (v:V):(putK kvs k v).length<=kvs.length+1:=by
 unfold putK
 split
 ·rw[List.length_map];omega
 ·rw[List.length_append,List.length_cons,List.length_nil];omega
theorem Jqv {kvs:List (κ×V)}{k:κ}(v:V) (h:valV kvs k=none):putK kvs k v=kvs++[(k,v)]:=by
 unfold putK
 rw[Jrb,h]
 exact if_neg (by decide)
theorem RelO.isSome_eq {o:Option V}{u:Option Value}(r:RelO o u):o.isSome=u.isSome:=by
 cases o with
 | none=>cases u with
  | none=>rfl
  | some _=>exact Zf r
 | some _=>cases u with
  | none=>exact Zf r
  | some _=>rfl
theorem RelO.getD {o:Option V}{u:Option Value}{d:V}{d':Value}(r:RelO o u) (rd:RelV d d'):RelV (o.getD d) (u.getD d'):=by
 cases o with
 | none=>cases u with
  | none=>exact rd
  | some _=>exact Zf r
 | some _=>cases u with
  | none=>exact Zf r
  | some _=>exact r
theorem KV.val {kvs:List (κ×V)}{vs:List (κ×Value)}(r:KV kvs vs) (k:κ):RelO (valV kvs k) (valueAt vs k):=by
 unfold KV at r
 induction r with
 | nil=>exact True.intro
 | @cons p q ps qs h t ih =>
  obtain⟨h1,h2⟩:=h
  by_cases e:p.1=k
  ·have e':q.1=k:=h1.symm.trans e
   have b:valueAt (q::qs) k=some q.2:=by simp[valueAt,List.find?_cons,e']
   rw[Jmw e,b];exact h2
  ·have e':¬q.1=k:=λ z=>e (h1.trans z)
   have b:valueAt (q::qs) k=valueAt qs k:=by simp[valueAt,List.find?_cons,e']
   rw[Jmv e,b];exact ih
theorem KV.any {kvs:List (κ×V)}{vs:List (κ×Value)}(r:KV kvs vs) (k:κ):(kvs.any λ kv=>decide (kv.1=k))=vs.any λ kv=>decide (kv.1=k):=by
 unfold KV at r
 induction r with
 | nil=>rfl
 | cons h t ih=>rw[List.any_cons,List.any_cons,ih,h.1]
theorem KV.repl {kvs:List (κ×V)}{vs:List (κ×Value)}(r:KV kvs vs) (k:κ){y:V}{u:Value}(ry:RelV y u) :
  KV (kvs.map λ kv=>if kv.1=k then(kv.1,y) else kv) (vs.map λ kv=>if kv.1=k then(kv.1,u) else kv):=by
 unfold KV at r ⊢
 induction r with
 | nil=>exact .nil
 | @cons p q ps qs h t ih =>
  rw[List.map_cons,List.map_cons]
  refine .cons ?_ ih
  obtain⟨h1,h2⟩:=h
  by_cases e:p.1=k
  ·rw[if_pos e,if_pos (h1.symm.trans e)];exact⟨h1,ry⟩
  ·rw[if_neg e,if_neg (λ z=>e (h1.trans z))];exact⟨h1,h2⟩
theorem KV.put {kvs:List (κ×V)}{vs:List (κ×Value)}(r:KV kvs vs) (k:κ){y:V}{u:Value}(ry:RelV y u):KV (putK kvs k y) (stored vs k u):=by
 unfold putK stored
 rw[r.any k]
 by_cases e:(vs.any λ kv=>decide (kv.1=k))=true
 ·rw[if_pos e,if_pos e];exact r.repl k ry
 ·rw[if_neg e,if_neg e];exact Paired.snoc r ⟨rfl,ry⟩
theorem KV.drop {kvs:List (κ×V)}{vs:List (κ×Value)}(r:KV kvs vs) (k:κ):KV (J5y kvs k) (without vs k):=by
 unfold KV at r ⊢
 unfold J5y without
 induction r with
 | nil=>exact .nil
 | @cons p q ps qs h t ih =>
  obtain⟨h1,h2⟩:=h
  rw[List.filter_cons,List.filter_cons]
  by_cases e:p.1=k
  ·have a:¬decide (p.1≠k)=true:=by simp[e]
   have b:¬decide (q.1≠k)=true:=by simp[h1.symm.trans e]
   rw[if_neg a,if_neg b];exact ih
  ·have e':¬q.1=k:=λ z=>e (h1.trans z)
   have a:decide (p.1≠k)=true:=by simp[e]
   have b:decide (q.1≠k)=true:=by simp[e']
   rw[if_pos a,if_pos b];exact .cons ⟨h1,h2⟩ ih
theorem KV.keys {kvs:List (κ×V)}{vs:List (κ×Value)}(r:KV kvs vs):kvs.map (·.1)=vs.map (·.1):=by
 unfold KV at r
 induction r with
 | nil=>rfl
 | cons h t ih=>rw[List.map_cons,List.map_cons,ih,h.1]
theorem KV.length {kvs:List (κ×V)}{vs:List (κ×Value)}(r:KV kvs vs):kvs.length=vs.length:=Paired.length r
end
theorem J01 {P:Program}{w:World}{k:Key}{u:Value}(r:RelV (kV k) u):(Jdf P w).is k u=true:=by
 cases k with
 | inl i=>obtain⟨t,e⟩:=(show ∃t,u=Value.int i t from r);subst e;exact Juj P w i t
 | inr x=>obtain⟨t,e⟩:=(show ∃t,u=Value.str x t from r);subst e;exact Juk P w x t
noncomputable abbrev KT (H:Hp):List (List Key×V)->List (List Key×Addr×Value)->Prop:=Paired λ p q=>p.1=q.1/\H q.2.1=some (.tup (p.1.map kV))/\RelV p.2 q.2.2
theorem KT.val {H:Hp}{kvs:List (List Key×V)}{xs:List (List Key×Addr×Value)}(r:KT H kvs xs) (k:List Key):RelO (valV kvs k) ((atKey xs k).map (·.2)):=by
 induction r with
 | nil=>exact True.intro
 | @cons p q ps qs h t ih =>
  obtain⟨h1,_,h2⟩:=h
  by_cases e:p.1=k
  ·have e':q.1=k:=h1.symm.trans e
   have b:atKey (q::qs) k=some q.2:=by simp[atKey,List.find?_cons,e']
   rw[Jmw e,b];exact h2
  ·have e':¬q.1=k:=λ z=>e (h1.trans z)
   have b:atKey (q::qs) k=atKey qs k:=by simp[atKey,List.find?_cons,e']
   rw[Jmv e,b];exact ih
theorem KT.keeps {H H':Hp}{kvs:List (List Key×V)}{xs:List (List Key×Addr×Value)}(r:KT H kvs xs) (ht:∀b ys,H b=some (.tup ys)->H' b=some (.tup ys)):KT H' kvs xs :=
 Paired.mapP r λ _ _ z=>⟨z.1,ht _ _ z.2.1,z.2.2⟩
section
variable {P:Program}{w:World}{H:Hp}{h:Heap}{a:Addr}
theorem rd_of {u:HO}(ok:HOk P w H h) (e:Rd H a u):Jcg P w H h a u:=e.ok ok
theorem J5x {kvs:List (Key×V)}(ok:HOk P w H h) (e:Rd H a (.dK kvs)):kvs.length<=sizeLine/\(a==sysModules)=false/\∃vs,KV kvs vs/\h.DictOf (Jdf P w) a vs :=
 show Jcg P w H h a (.dK kvs) from rd_of ok e
theorem J0g {kvs:List (Key×V)}(ok:HOk P w H h) (e:H a=some (.dK kvs)):kvs.length<=sizeLine/\(a==sysModules)=false/\∃vs,KV kvs vs/\h.DictOf (Jdf P w) a vs:=J5x ok (.inl e)
end
noncomputable def DGet (H:Hp) (a:Addr) (y:V) (r:Option V):Prop :=
 (∃kvs k,Rd H a (.dK kvs)/\y=kV k/\r=valV kvs k)∨∃kvs k b,Rd H a (.dT kvs)/\y=.ref b/\H b=some (.tup (k.map kV))/\r=valV kvs k
noncomputable def DPut (H:Hp) (a:Addr) (y v:V) (H':Hp):Prop :=
 (∃kvs k,H a=some (.dK kvs)/\y=kV k/\kvs.length<sizeLine/\H'=upd H a (.dK (putK kvs k v))) ∨
 ∃kvs k b,H a=some (.dT kvs)/\y=.ref b/\H b=some (.tup (k.map kV))/\kvs.length<sizeLine/\H'=upd H a (.dT (putK kvs k v))
theorem DGet.k {H:Hp}{a:Addr}{kvs:List (Key×V)}{k:Key}(e:H a=some (.dK kvs)):DGet H a (kV k) (valV kvs k):=.inl ⟨kvs,k,.inl e,rfl,rfl⟩
theorem DGet.t {H:Hp}{a b:Addr}{kvs:List (List Key×V)}{k:List Key}(e:H a=some (.dT kvs)) (eb:H b=some (.tup (k.map kV))):DGet H a (.ref b) (valV kvs k):=.inr ⟨kvs,k,b,.inl e,rfl,eb,rfl⟩
theorem DPut.k {H:Hp}{a:Addr}{kvs:List (Key×V)}{k:Key}{v:V}(e:H a=some (.dK kvs)) (hl:kvs.length<sizeLine):DPut H a (kV k) v (upd H a (.dK (putK kvs k v))):=.inl ⟨kvs,k,e,rfl,hl,rfl⟩
theorem DPut.t {H:Hp}{a b:Addr}{kvs:List (List Key×V)}{k:List Key}{v:V}(e:H a=some (.dT kvs)) (eb:H b=some (.tup (k.map kV))) (hl:kvs.length<sizeLine) :
  DPut H a (.ref b) v (upd H a (.dT (putK kvs k v))):=.inr ⟨kvs,k,b,e,rfl,eb,hl,rfl⟩
section
variable {X:Cx}{pins:List (Addr×Obj)}{σ:St}{H:Hp}{s:Shared}{a:Addr}{y v:V}{u r:Value}{o:Option V}{A:Around}{E:Value->Shared->Prop}
theorem Inv.big (I:Inv X pins σ H s):sysModules<s.heap.objs.size:=by
 have h:mainGlobals<s.heap.objs.size:=(I.mod.glob.keeps I.bk).lt
 exact Nat.lt_trans (by decide) h
theorem Jx1 {h':Heap}{t':Nat}{ob:HO}(I:Inv X pins σ H s) (mu:Mut (H a)) (hs:Heap.SameBut a s.heap h') (he:∃q,h'.get? a=some q) (new:Jcg X.prog X.w (upd H a ob) h' a ob) :
  Inv X pins σ (upd H a ob) { s with heap:=h',toks:=t' } :=
 I.write (x:=a) (e:=a) mu (.inl rfl) (λ b q hb z=>(hs.2 b hb).trans z) he new
theorem J2a {P:Program}{w:World}{H':Hp}{h':Heap}{kvs:List (Key×V)}{vs:List (Key×Value)}(z:kvs.length<=sizeLine) (hd:(a==sysModules)=false) (rel:KV kvs vs) (dd:h'.DictOf (Jdf P w) a vs) :
  Jcg P w H' h' a (.dK kvs):=⟨z,hd,vs,rel,dd⟩
end
section
variable {X:Cx}{pins:List (Addr×Obj)}{σ:St}{H:Hp}{s:Shared}{a:Addr}{kvs:List (Key×V)}{k:Key}{u:Value}{A:Around}{E:Value->Shared->Prop}
theorem d_len {Q:Value->Shared->Prop}(I:Inv X pins σ H s) (e:Rd H a (.dK kvs)) (h:∀t s',Inv X pins σ H s'->Q (.int kvs.length t) s'):wpAny (model X.prog X.w) A (call (.builtin "len") [.ref a]) Q E s:=by
 obtain⟨z,hd,vs,rel,dd⟩:=J5x I.hok e
 refine call_len_dict hd dd (by rw[<- rel.length];rw[sizeLine_eq] at z;omega) ?_
 rw[<- rel.length]
 exact h _ _ (I.tok _)
end
section
variable {X:Cx}{o i e value:Expr}{pos pos' tpos:Pos}{td ty tv:TE}
end
theorem J0f {P:Program}{w:World}{H:Hp}(h:Heap) (hb:sysModules<h.objs.size):Jcg P w H (h.push { cls:=.type "dict",data:=.dict #[] }) h.objs.size (.dK []) :=
 ⟨Nat.zero_le _,beq_eq_false_iff_ne.mpr (Ne.symm (Nat.ne_of_lt hb)),[],.nil,Heap.DictOf.new h⟩
section
variable {X:Cx}{pos:Pos}
end
structure M1 (X:Cx) (o:Expr) (m:Str) (apos:Pos) (e:Expr) (cpos:Pos):Prop where
 base:attributeBase o m X.env (eval o X.env)=eval o X.env
 few:((backTo cpos (starEach [e] X.env)).all (λ x=>!x.1)&&(backToKw cpos (keywordEach [] X.env)).all (λ x=>x.1.isSome)
  && decide (([e]:List Expr).length+([]:List Keyword).length+(if ([]:List Keyword).isEmpty then 0 else 1)<30))=true
 line:(apos.endLine==cpos.line)=true
 trees:backTo cpos (starEach [e] X.env)=[(false,eval e X.env)]
structure M2 (X:Cx) (o:Expr) (m:Str) (apos:Pos) (e f:Expr) (cpos:Pos):Prop where
 base:attributeBase o m X.env (eval o X.env)=eval o X.env
 few:((backTo cpos (starEach [e,f] X.env)).all (λ x=>!x.1)&&(backToKw cpos (keywordEach [] X.env)).all (λ x=>x.1.isSome)
  && decide (([e,f]:List Expr).length+([]:List Keyword).length+(if ([]:List Keyword).isEmpty then 0 else 1)<30))=true
 line:(apos.endLine==cpos.line)=true
 trees:backTo cpos (starEach [e,f] X.env)=[(false,eval e X.env),(false,eval f X.env)]
section
variable {X:Cx}{pins:List (Addr×Obj)}{σ:St}{H:Hp}{s:Shared}{a:Addr}{y d:V}{u r:Value}{o:Option V}{A:Around}{E:Value->Shared->Prop}
end
section
variable {X:Cx}{o e f:Expr}{apos cpos:Pos}{td ty tx:TE}
end
section
variable {X:Cx}{pins:List (Addr×Obj)}{σ:St}{H:Hp}{s:Shared}{a:Addr}{kvs:List (Key×V)}{A:Around}{E:Value->Shared->Prop}
end
end L2
namespace Att
open PySem PySem.W PySem.Calls PyProof.Rows
theorem Jnr {P:Params}{h:Heap}:∀(ns:List Int) (vs:List Value),WellAll P h vs (ns.map WData.int)->IntsAre vs ns:=by
 intro ns
 induction ns with
 | nil =>
  intro vs w
  rw[List.map_nil] at w
  cases w
  exact .nil
 | cons n ns ih =>
  intro vs w
  rw[List.map_cons] at w
  cases w with
  | cons a b =>
   cases a
   exact .cons _ _ (ih _ b)
theorem Jzh {l:OpenLaw}{n:Nat}(hn:l.most=some n){P:Params}{h:Heap}{args:List WData}{vals:List Value}
  (hpre:l.row.toRowW.claim.pre args=true) (hwl:WellAll P h vals args) :
  ∃a vs ns,vals=[Value.ref a]/\args=[WData.list (ns.map WData.int)]/\h.get? a=some { cls:=.type "list",data:=.seq vs.toArray }/\IntsAre vs ns/\ns.length<=n:=by
 have hsh:WShape.hasAll [] args [.list .int]=true:=(pre_splitW hpre).1
 have hc:l.pre.holds [] { args:=args }=true:=(pre_splitW hpre).2
 obtain⟨d,r,rfl,h1,h2⟩:=hasAllW_cons hsh
 obtain rfl:=hasAllW_nil h2
 obtain⟨xs,rfl,h3⟩:=hasW_list h1
 obtain⟨ns,rfl⟩:=items_int h3
 have hlen:ns.length<=n:=by
  unfold OpenLaw.pre at hc
  have h4:(WTm.not (.lt (.lit (.int (n:Int))) (.len (.arg 0)))).holds [] { args:=[.list (ns.map .int)] }=true:=by
   have h4:=(holds_andW hc).1
   rw[hn] at h4
   exact h4
  have h5:=condW_of h4 (w_not (w_lt w_lit (w_len_list (w_arg rfl))))
  rw[List.length_map] at h5
  refine Nat.le_of_not_lt λ q=>?_
  have q':(n:Int)<((ns.length:Nat):Int):=by omega
  first
   | (rw[decide_eq_true q'] at h5;exact absurd h5 (by decide))
   | (simp at h5;omega)
 cases hwl with
 | cons w1 w2 =>
  cases w2
  cases w1 with
  | list ho hall=>exact⟨_,_,ns,rfl,rfl,ho,Jnr ns _ hall,hlen⟩
theorem Jy8 (l:OpenLaw) (args:List WData):l.row.toRowW.claim.post args (.bool true) args=true :=
 postW_of (r:=l.row.toRowW) (X:=(true==true))
  (show WShape.has [] (.bool true) .bool=true by first|rfl|decide|simp[WShape.has,WShape.arms,WShape.armsAll])
  (show(WTm.eq .res (.lit (.bool true))).value [] { args:=args,res:=some (.bool true),after:=args }=some (.bool (true==true)) from w_eq_bool (w_res rfl) w_lit) rfl
theorem attach_call {l:OpenLaw}{n:Nat}{q:Program}{loose:List Str}{XP:(Str->Option Value)->Heap->Prop}{YP:World->Heap->Prop}{d:DefRec}
  (hn:l.most=some n) (hdf:d.params.defaults=[])
  (call:∀(w:World) (s₀ s₁:Shared) (mg mb:Str->Option Value) (fa:Addr) (o:Obj) (pm cd doc:Value) (a:Addr) (vs:List Value) (ns:List Int),
   Ground q loose [] XP w s₀ mg mb s₁.heap->YP w s₁.heap ->
   s₁.heap.get? fa=some o->o.data=.func (docDef d.name d.params d.body d.scope pm cd doc)->s₁.heap.CodeRec cd d.name->mg d.name=some (.ref fa) ->
   s₁.heap.get? a=some { cls:=.type "list",data:=.seq vs.toArray }->IntsAre vs ns->ns.length<=n->s₁.gens=#[] ->
   codeAny (model l.prog w) callerA (.call (.ref fa) ⟨[.ref a],[]⟩) (λ r s'=>r=.ok (.ret (.bool true))/\OldK s₁.heap s'.heap/\s'.os=s₁.os/\AllBare s'.gens) s₁) :
  WalkO q loose XP YP l.row.toRowW d [] (λ f vs=>PySem.call f vs):=by
 intro w s₀ s₁ mg mb G Y fa o pm cd doc dV kV ho hd hcd hD hmg hg args vals as hpre hlay hrd hwl hlo
 obtain rfl:dV=.none:=Dflts.none hD hdf
 obtain rfl:kV=.none:=Dflts.noKw hD
 obtain⟨a,vs,ns,rfl,rfl,hobj,hints,hlen⟩:=Jzh hn hpre hwl
 refine enter_call (codeAny_mono (call w s₀ s₁ mg mb fa o pm cd doc a vs ns G Y ho (fd_plain hd) hcd hmg hobj hints hlen hg) λ r s' hq=>?_)
 obtain⟨rfl,h2,h3,h4⟩:=hq
 exact⟨.inl ⟨.bool true,.bool true,[],rfl,λ _=>rfl,.bool true,Jy8 l _,λ _=>⟨List.Pairwise.nil,λ _ hm=>(nomatch hm)⟩⟩,h2,h3,h4⟩
section
variable {prog:Program}{w:World}{A:Around}{E:Value->Shared->Prop}{s:Shared}{K:Frag}
end
end Att
namespace L2
open PySem PySem.Spec PyProof.Rows
theorem Jgz:∀{vs:List Value}{ns:List Int},IntsAre vs ns->Vals (ns.map V.int) vs
 | _,_,.nil=>.nil
 | _,_,.cons n t h=>.cons ⟨t,rfl⟩ (Jgz h)
noncomputable def J7 (s:Stmt) (j:Nat):Stmt:=match s with
 | .ClassDef _ _ _ body _ _ _ _ _ _ _=>body.getD j (.Pass ⟨0,0,0,0⟩)
 | _=>.Pass ⟨0,0,0,0⟩
noncomputable def Jbh (s:Stmt):Arguments:=match s with
 | .FunctionDef _ a _ _ _ _ _ _ _ _=>a
 | _=>{ posonlyargs:=[],args:=[],vararg:=none,kwonlyargs:=[],kw_defaults:=[],kwarg:=none,defaults:=[] }
noncomputable def Jae (s:Stmt):List Stmt:=match s with
 | .FunctionDef _ _ b _ _ _ _ _ _ _=>b
 | _=>[]
noncomputable def Jj (s:Stmt):Scope:=match s with
 | .FunctionDef _ _ _ _ _ _ sc _ _ _=>sc
 | _=>{ kind:=.function,names:=[],isGenerator:=false,isCoroutine:=false }
noncomputable abbrev CX0:CXT:=λ _ _ _ _ _ _=>False
structure Fun (K:W.Frag) (x qual:Str) (st:Stmt) (f:Addr) (fd:FuncData):Prop where
 ex:∃(oc:Value) (od:Option Addr) (kV doc pm:Value) (an:Option Addr) (cdv ct:Value) (osl:Array (Option Value)),
  fd=W.fnOf x qual (Jbh st) (Jae st) (Jj st) .none kV doc pm an cdv ct/\K.lookup f=some ⟨oc,od,.func fd,osl⟩/\W.codeIn K cdv qual=true
 kp:W.keepIn K (.ref f)=true
section
variable {P:Program}{w:World}{K:W.Frag}{mg:Str->Option Value}{base:Heap}
theorem Fun.ok {x qual:Str}{st:Stmt}{f:Addr}{fd:FuncData}{N ps:List Str}{k:Nat}{sp:Sp}(F:Fun K x qual st f fd) (S:FnScope N ps (Jj st)) (len:∀vs H Q E,sp vs H Q E->vs.length=ps.length)
  (hbody:∀(cdv:Value) (A:Around) (outer:List Env) (s:Shared) (H:Hp) (vs:List V) (Q:VK) (E:XK),Room k (A.deeper (envOfC qual (Jj st) s.heap.objs.size f cdv))->sp vs H Q E ->
   ∃t,PSs (cxOf CX0 P w K mg base N qual (Jj st) f cdv A outer s H E).nox (Jae st) t/\t { nx:=λ _ H'=>Q .non H',rt:=Q } (start N vs) H):FnOk P w K mg base CX0 (k+1) f fd ps sp:=by
 obtain⟨oc,od,kV,doc,pm,an,cdv,ct,osl,rfl,lk,hcd⟩:=F.ex
 refine J51 lk hcd S len λ A outer s H vs Q E hr hsp=>?_
 obtain⟨t,h,q⟩:=hbody cdv A outer s H vs Q E hr hsp
 exact⟨t,h.nox,q⟩
theorem Fun.binds {x qual:Str}{st:Stmt}{f:Addr}{fd:FuncData}{ps:List Str}(F:Fun K x qual st f fd)
  (h:∀(kV doc pm:Value) (an:Option Addr) (cdv ct:Value) (us:List Value),us.length=ps.length->bindArgs (W.fnOf x qual (Jbh st) (Jae st) (Jj st) .none kV doc pm an cdv ct) ⟨us,[]⟩=pure (ps.zip us)):Jhf K fd ps []:=by
 obtain⟨oc,od,kV,doc,pm,an,cdv,ct,osl,rfl,lk,hcd⟩:=F.ex
 exact .all (h kV doc pm an cdv ct)
end
section
variable {X:Cx}
end
noncomputable def Same (H H':Hp):Prop:=∀b o,H b=some o->H' b=some o
theorem Same.refl (H:Hp):Same H H:=λ _ _ h=>h
theorem Same.trans {H H1 H2:Hp}(a:Same H H1) (b:Same H1 H2):Same H H2:=λ c o h=>b c o (a c o h)
theorem Same.free {H H':Hp}(e:Same H H'){l:Addr}(h:H' l=Option.none):H l=Option.none:=by
 cases q:H l with
 | none=>rfl
 | some o =>
  rw[e l o q] at h
  cases h
theorem Same.seq {K:W.Frag}{H H':Hp}{a:Addr}{xs:List V}(e:Same H H') (h:SqL K H a xs):SqL K H' a xs:=by
 rcases h with(h|⟨o,h⟩)|h
 ·exact .inl (.inl (e _ _ h))
 ·exact .inl (.inr ⟨o,e _ _ h⟩)
 ·exact .inr h
end L2
set_option maxHeartbeats 4000000
namespace L3
open PySem PySem.Spec PyProof.Rows L2
inductive IV where
 | non|bl (b:Bool)|int (i:Int)|str (x:Str)|tup (xs:List IV)|rol (xs:List IV)|ref (i:Nat)
inductive IO where
 | lst (xs:List IV)
 | ins (c:Str) (fs:List (Str×IV))
 | dct (kvs:List (Key×IV))
 | exc (c:Str) (fs:List (Str×IV))
 | tab (q:Str)
 | hld (c:Str) (fs:List (Str×IV))
noncomputable abbrev IH:=List IO
noncomputable abbrev ISt:=List (Option IV)
inductive Res (α:Type) where
 | ok (a:α) (h:IH)|exc (n:Nat) (h:IH)|stuck
noncomputable def Res.bind {α β:Type}:Res α->(α->IH->Res β)->Res β
 | .ok a h,f=>f a h
 | .exc n h,_=>.exc n h
 | .stuck,_=>.stuck
inductive SRes where
 | next (σ:ISt) (h:IH)|ret (v:IV) (h:IH)|brk (σ:ISt) (h:IH)|cont (σ:ISt) (h:IH)|exc (n:Nat) (σ:ISt) (h:IH)|stuck
noncomputable def SqR (K:W.Frag) (H:Hp) (a:Addr) (xs:List V):Prop :=
 (∃o,H a=some (.frz o (.lst xs))) ∨
  ∃(o:Obj) (its:Array Value) (n:Nat),K.lookup a=some o/\o.cls=.type "list"/\o.dict=none/\o.data=.seq its n/\its.size<=sizeLine/\Vals xs its.toList
theorem SqR.sq {K:W.Frag}{H:Hp}{a:Addr}{xs:List V}(h:SqR K H a xs):SqL K H a xs:=by
 rcases h with⟨o,h⟩|h
 ·exact .inl (.inr ⟨o,h⟩)
 ·exact .inr h
mutual
noncomputable def RV (K:W.Frag) (ι:List Addr) (H:Hp):IV->V->Prop
 | .non,v=>v=.non
 | .bl b,v=>v=.bl b
 | .int i,v=>v=.int i
 | .str x,v=>v=.str x
 | .tup xs,v=>∃a vs,v=.ref a/\SqT K H a vs/\RVs K ι H xs vs
 | .rol xs,v=>∃a vs,v=.ref a/\SqR K H a vs/\RVs K ι H xs vs
 | .ref i,v=>∃a,v=.ref a/\ι[i]?=some a
noncomputable def RVs (K:W.Frag) (ι:List Addr) (H:Hp):List IV->List V->Prop
 | [],vs=>vs=[]
 | x::xs,vs=>∃v r,vs=v::r/\RV K ι H x v/\RVs K ι H xs r
end
structure Ext (H H':Hp):Prop where
 tups:∀b xs,H b=some (.tup xs)->H' b=some (.tup xs)
 frzs:∀b o u,H b=some (.frz o u)->H' b=some (.frz o u)
structure Nxt (ι:List Addr) (H:Hp) (ι':List Addr) (H':Hp):Prop where
 pre:∃m,ι'=ι++m
 ext:Ext H H'
theorem Nxt.refl {ι:List Addr}{H:Hp}:Nxt ι H ι H:=⟨⟨[],by simp⟩,⟨λ _ _ h=>h,λ _ _ _ h=>h⟩⟩
theorem Nxt.trans {ι ι1 ι2:List Addr}{H H1 H2:Hp}(a:Nxt ι H ι1 H1) (b:Nxt ι1 H1 ι2 H2):Nxt ι H ι2 H2:=by
 obtain⟨⟨m,e⟩,x⟩:=a
 obtain⟨⟨m',e'⟩,y⟩:=b
 exact⟨⟨m++m',by rw[e',e,List.append_assoc]⟩,⟨λ b xs h=>y.tups b xs (x.tups b xs h),λ b o u h=>y.frzs b o u (x.frzs b o u h)⟩⟩
theorem Nxt.at {ι ι':List Addr}{H H':Hp}(n:Nxt ι H ι' H'){i:Nat}{a:Addr}(h:ι[i]?=some a):ι'[i]?=some a:=by
 obtain⟨⟨m,e⟩,_⟩:=n
 subst e
 rw[List.getElem?_append_left (List.getElem?_eq_some_iff.mp h).1]
 exact h
theorem Ext.rd {H H':Hp}(x:Ext H H'){a:Addr}{xs:List V}(h:Rd H a (.tup xs)):Rd H' a (.tup xs):=by
 rcases h with h|⟨o,h⟩
 ·exact .inl (x.tups _ _ h)
 ·exact .inr ⟨o,x.frzs _ _ _ h⟩
theorem Ext.sqT {K:W.Frag}{H H':Hp}(x:Ext H H'){a:Addr}{xs:List V}(h:SqT K H a xs):SqT K H' a xs:=by
 rcases h with h|h
 ·exact .inl (x.rd h)
 ·exact .inr h
theorem Ext.sqR {K:W.Frag}{H H':Hp}(x:Ext H H'){a:Addr}{xs:List V}(h:SqR K H a xs):SqR K H' a xs:=by
 rcases h with⟨o,h⟩|h
 ·exact .inl ⟨o,x.frzs _ _ _ h⟩
 ·exact .inr h
mutual
theorem RV.mono {K:W.Frag}{ι ι':List Addr}{H H':Hp}(n:Nxt ι H ι' H'):∀(x:IV) (v:V),RV K ι H x v->RV K ι' H' x v
 | .non,_,h=>h
 | .bl _,_,h=>h
 | .int _,_,h=>h
 | .str _,_,h=>h
 | .tup xs,_,h=>by
  obtain⟨a,vs,e,q,r⟩:=h
  exact⟨a,vs,e,n.ext.sqT q,RVs.mono n xs vs r⟩
 | .rol xs,_,h=>by
  obtain⟨a,vs,e,q,r⟩:=h
  exact⟨a,vs,e,n.ext.sqR q,RVs.mono n xs vs r⟩
 | .ref i,_,h=>by
  obtain⟨a,e,q⟩:=h
  exact⟨a,e,n.at q⟩
theorem RVs.mono {K:W.Frag}{ι ι':List Addr}{H H':Hp}(n:Nxt ι H ι' H'):∀(xs:List IV) (vs:List V),RVs K ι H xs vs->RVs K ι' H' xs vs
 | [],_,h=>h
 | x::xs,_,h=>by
  obtain⟨v,r,e,q,t⟩:=h
  exact⟨v,r,e,RV.mono n x v q,RVs.mono n xs r t⟩
end
theorem RVs.length {K:W.Frag}{ι:List Addr}{H:Hp}:∀{xs:List IV}{vs:List V},RVs K ι H xs vs->vs.length=xs.length
 | [],_,h=>by
  have e:_=[]:=h
  subst e
  rfl
 | x::xs,_,h=>by
  obtain⟨v,r,e,_,t⟩:=h
  subst e
  simp[RVs.length t]
theorem RVs.get {K:W.Frag}{ι:List Addr}{H:Hp}:∀{xs:List IV}{vs:List V}{i:Nat}{x:IV},RVs K ι H xs vs->xs[i]?=some x->∃v,vs[i]?=some v/\RV K ι H x v
 | [],_,_,_,_,e=>by simp at e
 | x::xs,_,0,y,h,e=>by
  obtain⟨v,r,e1,q,t⟩:=h
  subst e1
  simp at e
  subst e
  exact⟨v,rfl,q⟩
 | x::xs,_,i+1,y,h,e=>by
  obtain⟨v,r,e1,q,t⟩:=h
  subst e1
  obtain⟨u,h1,h2⟩:=RVs.get (i:=i) (x:=y) t (by simpa using e)
  exact⟨u,by simpa using h1,h2⟩
theorem RVs.get' {K:W.Frag}{ι:List Addr}{H:Hp}{xs:List IV}{vs:List V}{i:Nat}{v:V}(h:RVs K ι H xs vs) (e:vs[i]?=some v):∃x,xs[i]?=some x/\RV K ι H x v:=by
 have hl:=h.length
 have hi:i<vs.length:=(List.getElem?_eq_some_iff.mp e).1
 have hx:xs[i]?=some xs[i]:=List.getElem?_eq_getElem (by omega)
 obtain⟨u,h1,h2⟩:=h.get hx
 rw[e] at h1
 cases h1
 exact⟨_,hx,h2⟩
theorem RVs.append {K:W.Frag}{ι:List Addr}{H:Hp}:∀{xs ys:List IV}{vs us:List V},RVs K ι H xs vs->RVs K ι H ys us->RVs K ι H (xs++ys) (vs++us)
 | [],_,_,_,h,g=>by
  have e:_=[]:=h
  subst e
  exact g
 | x::xs,_,_,_,h,g=>by
  obtain⟨v,r,e,q,t⟩:=h
  subst e
  exact⟨v,_,rfl,q,RVs.append t g⟩
theorem RVs.take {K:W.Frag}{ι:List Addr}{H:Hp}:∀{xs:List IV}{vs:List V}(n:Nat),RVs K ι H xs vs->RVs K ι H (xs.take n) (vs.take n)
 | _,_,0,_=>by simp;exact rfl
 | [],_,n+1,h=>by
  have e:_=[]:=h
  subst e
  exact rfl
 | x::xs,_,n+1,h=>by
  obtain⟨v,r,e,q,t⟩:=h
  subst e
  exact⟨v,r.take n,rfl,q,RVs.take n t⟩
theorem RVs.drop {K:W.Frag}{ι:List Addr}{H:Hp}:∀{xs:List IV}{vs:List V}(n:Nat),RVs K ι H xs vs->RVs K ι H (xs.drop n) (vs.drop n)
 | _,_,0,h=>h
 | [],_,n+1,h=>by
  have e:_=[]:=h
  subst e
  exact rfl
 | x::xs,_,n+1,h=>by
  obtain⟨v,r,e,q,t⟩:=h
  subst e
  exact RVs.drop n t
theorem RVs.set {K:W.Frag}{ι:List Addr}{H:Hp}{x:IV}{v:V}(q:RV K ι H x v):∀{xs:List IV}{vs:List V}(i:Nat),RVs K ι H xs vs->RVs K ι H (xs.set i x) (vs.set i v)
 | [],_,_,h=>by
  have e:_=[]:=h
  subst e
  exact rfl
 | y::xs,_,0,h=>by
  obtain⟨u,r,e,_,t⟩:=h
  subst e
  exact⟨v,r,rfl,q,t⟩
 | y::xs,_,i+1,h=>by
  obtain⟨u,r,e,p,t⟩:=h
  subst e
  exact⟨u,r.set i v,rfl,p,RVs.set q i t⟩
theorem RVs.one {K:W.Frag}{ι:List Addr}{H:Hp}{x:IV}{v:V}(q:RV K ι H x v):RVs K ι H [x] [v]:=⟨v,[],rfl,q,rfl⟩
theorem RVs.ints {K:W.Frag}{ι:List Addr}{H:Hp}:∀(ns:List Int),RVs K ι H (ns.map IV.int) (ns.map V.int)
 | []=>rfl
 | _::ns=>⟨_,_,rfl,rfl,RVs.ints ns⟩
noncomputable def RPs {κ:Type}(K:W.Frag) (ι:List Addr) (H:Hp):List (κ×IV)->List (κ×V)->Prop
 | [],vs=>vs=[]
 | x::xs,vs=>∃v r,vs=(x.1,v)::r/\RV K ι H x.2 v/\RPs K ι H xs r
theorem RPs.mono {κ:Type}{K:W.Frag}{ι ι':List Addr}{H H':Hp}(n:Nxt ι H ι' H'):∀(xs:List (κ×IV)) (vs:List (κ×V)),RPs K ι H xs vs->RPs K ι' H' xs vs
 | [],_,h=>h
 | x::xs,_,h=>by
  obtain⟨v,r,e,q,t⟩:=h
  exact⟨v,r,e,RV.mono n _ v q,RPs.mono n xs r t⟩
theorem RPs.length {κ:Type}{K:W.Frag}{ι:List Addr}{H:Hp}:∀{xs:List (κ×IV)}{vs:List (κ×V)},RPs K ι H xs vs->vs.length=xs.length
 | [],_,h=>by
  have e:_=[]:=h
  subst e
  rfl
 | x::xs,_,h=>by
  obtain⟨v,r,e,_,t⟩:=h
  subst e
  simp[RPs.length t]
theorem RPs.lookup {κ:Type}[BEq κ] {K:W.Frag}{ι:List Addr}{H:Hp}{f:κ}:∀{xs:List (κ×IV)}{vs:List (κ×V)},RPs K ι H xs vs ->
  (∀x,xs.lookup f=some x->∃v,vs.lookup f=some v/\RV K ι H x v)/\(xs.lookup f=none->vs.lookup f=none)
 | [],_,h=>by
  have e:_=[]:=h
  subst e
  exact⟨λ x e=>by simp at e,λ _=>rfl⟩
 | (k,x)::xs,_,h=>by
  obtain⟨v,r,e,q,t⟩:=h
  subst e
  have ih:=RPs.lookup (f:=f) t
  simp only[List.lookup_cons]
  cases hb:f==k with
  | true=>exact⟨λ y e=>by cases e;exact⟨v,rfl,q⟩,λ e=>by cases e⟩
  | false=>exact ih
noncomputable def Jc6 (H:Hp) (q:Str) (cv:Value):Prop:=∃c oc vs t,cv=.ref c/\H c=some (.frz oc (.own 0))/\oc.data=.fields vs/\vs[1]?=some (.str (q++".<locals>."++"<lambda>") t)
noncomputable def TabO (K:W.Frag) (H:Hp) (q:Str) (a:Addr):Prop:=(∀cdv,W.codeIn K cdv q=true->∃c,cdv=.ref c/\W.codeHdIn K c a=true) /\
 ∃ps,H a=some (.tbl ps)/\TriplesOk ps.toList/\∀pos cv,codeAmong pos ps.toList=some cv->Jc6 H q cv
theorem TabO.mono {K:W.Frag}{H H':Hp}{q:Str}{a:Addr}(fz:∀b o u,H b=some (.frz o u)->H' b=some (.frz o u)) (k:∀u,H a=some u->H' a=some u) (h:TabO K H q a):TabO K H' q a:=by
 obtain⟨h1,ps,e,ht,hc⟩:=h
 refine⟨h1,ps,k _ e,ht,λ pos cv q=>?_⟩
 obtain⟨c,oc,vs,t,e1,e2,r⟩:=hc pos cv q
 exact⟨c,oc,vs,t,e1,fz _ _ _ e2,r⟩
noncomputable def ExF (a C:Addr) (tv:Value) (d:Option Addr):HO:=.ext λ h=>∃oe vs,h.get? a=some oe/\oe.cls=.ref C/\oe.data=.fields vs/\vs[1]?=some tv/\vs[2]?=some .none/\oe.dict=d
noncomputable def XdOk (H:Hp) (d:Option Addr) (fs:List (Str×IV)):Prop:=(fs=[]/\d=none)∨∃f i dx od t,fs=[(f,.int i)]/\d=some dx/\H dx=some (.frz od (.own 0))/\W.lookIn f od=some (some (.int i t))
theorem XdOk.mono {H H':Hp}{d:Option Addr}{fs:List (Str×IV)}(fz:∀b o u,H b=some (.frz o u)->H' b=some (.frz o u)) (h:XdOk H d fs):XdOk H' d fs:=by
 rcases h with h|⟨f,i,dx,od,t,e,q,r,z⟩
 ·exact .inl h
 ·exact .inr ⟨f,i,dx,od,t,e,q,fz _ _ _ r,z⟩
noncomputable def TvOk (H:Hp) (tv:Value):Prop:=tv=.none∨∃T oT ts,tv=.ref T/\H T=some (.frz oT (.own 0))/\oT.data=.fields ts/\ts[3]?=some .none
theorem TvOk.mono {H H':Hp}{tv:Value}(fz:∀b o u,H b=some (.frz o u)->H' b=some (.frz o u)) (h:TvOk H tv):TvOk H' tv:=by
 rcases h with h|⟨T,oT,ts,e,q,r⟩
 ·exact .inl h
 ·exact .inr ⟨T,oT,ts,e,fz _ _ _ q,r⟩
noncomputable def RO (ce:Str->Option Addr) (K:W.Frag) (ι:List Addr) (H:Hp) (a:Addr):IO->Prop
 | .lst xs=>∃vs,H a=some (.lst vs)/\RVs K ι H xs vs
 | .ins c fs=>∃C dx vs,ce c=some C/\H a=some (.ins C dx vs)/\RPs K ι H fs vs
 | .dct kvs=>∃vs,H a=some (.dK vs)/\RPs K ι H kvs vs
 | .exc c fs=>∃C tv d,XdOk H d fs/\W.nsIn K mainGlobals c=some (some (.ref C))/\H a=some (ExF a C tv d)/\TvOk H tv
 | .tab q=>TabO K H q a
 | .hld c fs=>∃C oe u vs,XdOk H oe.dict fs/\W.nsIn K mainGlobals c=some (some (.ref C))/\H a=some (.frz oe u)/\oe.cls=.ref C/\oe.data=.fields vs/\vs[2]?=some .none
theorem RO.some {ce:Str->Option Addr}{K:W.Frag}{ι:List Addr}{H:Hp}{a:Addr}{o:IO}(h:RO ce K ι H a o):∃u,H a=some u:=by
 cases o with
 | lst xs=>obtain⟨vs,e,_⟩:=h;exact⟨_,e⟩
 | ins c fs=>obtain⟨_,_,vs,_,e,_⟩:=h;exact⟨_,e⟩
 | dct kvs=>obtain⟨vs,e,_⟩:=h;exact⟨_,e⟩
 | exc c fs=>obtain⟨C,tv,d,_,_,e,_⟩:=h;exact⟨_,e⟩
 | tab q=>obtain⟨_,ps,e,_⟩:=h;exact⟨_,e⟩
 | hld c fs=>obtain⟨_,_,_,_,_,_,e,_⟩:=h;exact⟨_,e⟩
theorem RO.mono {ce:Str->Option Addr}{K:W.Frag}{ι ι':List Addr}{H H':Hp}{a:Addr}{o:IO}(n:Nxt ι H ι' H') (k:∀u,H a=Option.some u->H' a=Option.some u) (h:RO ce K ι H a o):RO ce K ι' H' a o:=by
 cases o with
 | lst xs=>obtain⟨vs,e,r⟩:=h;exact⟨vs,k _ e,RVs.mono n _ _ r⟩
 | ins c fs=>obtain⟨C,dx,vs,c1,e,r⟩:=h;exact⟨C,dx,vs,c1,k _ e,RPs.mono n _ _ r⟩
 | dct kvs=>obtain⟨vs,e,r⟩:=h;exact⟨vs,k _ e,RPs.mono n _ _ r⟩
 | exc c fs=>obtain⟨C,tv,d,e0,c1,e,r⟩:=h;exact⟨C,tv,d,e0.mono n.ext.frzs,c1,k _ e,r.mono n.ext.frzs⟩
 | tab q=>exact TabO.mono n.ext.frzs k h
 | hld c fs=>obtain⟨C,oe,u,vs,e0,c1,e,r⟩:=h;exact⟨C,oe,u,vs,e0.mono n.ext.frzs,c1,k _ e,r⟩
structure Rel (ce:Str->Option Addr) (K:W.Frag) (ι:List Addr) (h:IH) (H:Hp):Prop where
 len:ι.length=h.length
 nd:ι.Nodup
 at_:∀(i:Nat) (o:IO),h[i]?=some o->∃a,ι[i]?=some a/\RO ce K ι H a o
section
variable {ce:Str->Option Addr}{K:W.Frag}{ι:List Addr}{h:IH}{H:Hp}
theorem Rel.some (R:Rel ce K ι h H){i:Nat}{a:Addr}(e:ι[i]?=some a):∃u,H a=Option.some u:=by
 have hi:i<h.length:=by rw[<- R.len];exact(List.getElem?_eq_some_iff.mp e).1
 obtain⟨b,e',r⟩:=R.at_ i _ (List.getElem?_eq_getElem hi)
 rw[e] at e'
 cases e'
 exact r.some
theorem Rel.notin (R:Rel ce K ι h H){l:Addr}(e:H l=none):l∉ι:=λ hl=>by
 obtain⟨i,hi,q⟩:=List.mem_iff_getElem.mp hl
 obtain⟨u,hu⟩:=R.some (i:=i) (a:=l) (by rw[List.getElem?_eq_getElem hi,q])
 rw[e] at hu
 cases hu
theorem Ext.upd_new {l:Addr}{o:HO}(e:H l=none):Ext H (upd H l o) :=
 ⟨λ b xs q=>by rw[Ji (J6 q e)];exact q,λ b o u q=>by rw[Ji (J6 q e)];exact q⟩
theorem Rel.grow {l:Addr}{o:HO}(R:Rel ce K ι h H) (e:H l=none):Rel ce K ι h (upd H l o)/\Nxt ι H ι (upd H l o):=by
 have n:Nxt ι H ι (upd H l o):=⟨⟨[],by simp⟩,Ext.upd_new e⟩
 refine⟨⟨R.len,R.nd,λ i u q=>?_⟩,n⟩
 obtain⟨a,e1,r⟩:=R.at_ i u q
 exact⟨a,e1,r.mono n λ w hw=>by rw[Ji (J6 hw e)];exact hw⟩
theorem Rel.alloc {l:Addr}{o:HO}{io:IO}(R:Rel ce K ι h H) (e:H l=none) (r:RO ce K (ι++[l]) (upd H l o) l io):Rel ce K (ι++[l]) (h++[io]) (upd H l o)/\Nxt ι H (ι++[l]) (upd H l o):=by
 have n:Nxt ι H (ι++[l]) (upd H l o):=⟨⟨[l],rfl⟩,Ext.upd_new e⟩
 refine⟨⟨by simp[R.len],?_,λ i u q=>?_⟩,n⟩
 ·rw[List.nodup_append]
  refine⟨R.nd,by simp,λ a ha b hb=>?_⟩
  have:b=l:=by simpa using hb
  subst this
  rintro rfl
  exact R.notin e ha
 ·by_cases hi:i<h.length
  ·rw[List.getElem?_append_left hi] at q
   obtain⟨a,e1,r1⟩:=R.at_ i u q
   exact⟨a,n.at e1,r1.mono n λ w hw=>by rw[Ji (J6 hw e)];exact hw⟩
  ·have hi2:i=h.length:=by
    have:=(List.getElem?_eq_some_iff.mp q).1
    simp at this
    omega
   subst hi2
   rw[List.getElem?_append_right (Nat.le_refl _)] at q
   simp at q
   subst q
   refine⟨l,?_,r⟩
   rw[<- R.len,List.getElem?_append_right (Nat.le_refl _)]
   simp
theorem Rel.inj (R:Rel ce K ι h H){i j:Nat}{a:Addr}(e1:ι[i]?=Option.some a) (e2:ι[j]?=Option.some a):i=j:=by
 obtain⟨h1,q1⟩:=List.getElem?_eq_some_iff.mp e1
 obtain⟨h2,q2⟩:=List.getElem?_eq_some_iff.mp e2
 exact(List.getElem_inj R.nd).mp (q1.trans q2.symm)
theorem Ext.upd_mut {l:Addr}{o u:HO}(e:H l=Option.some u) (m:Mut (H l)):Ext H (upd H l o):=by
 refine⟨λ b xs q=>?_,λ b ob w q=>?_⟩
 ·by_cases hb:b=l
  ·subst hb
   rw[q] at m
   exact Zf m
  ·rw[Ji hb];exact q
 ·by_cases hb:b=l
  ·subst hb
   rw[q] at m
   exact Zf m
  ·rw[Ji hb];exact q
theorem Rel.write {i:Nat}{a:Addr}{o u:HO}{io:IO}(R:Rel ce K ι h H) (e:ι[i]?=Option.some a) (ha:H a=Option.some u) (m:Mut (H a)) (r:RO ce K ι (upd H a o) a io):Rel ce K ι (h.set i io) (upd H a o)/\Nxt ι H ι (upd H a o):=by
 have n:Nxt ι H ι (upd H a o):=⟨⟨[],by simp⟩,Ext.upd_mut ha m⟩
 refine⟨⟨by simp[R.len],R.nd,λ j w q=>?_⟩,n⟩
 by_cases hj:j=i
 ·subst hj
  have hl:j<h.length:=by
   have:=(List.getElem?_eq_some_iff.mp q).1
   simpa using this
  rw[List.getElem?_set_self hl] at q
  cases q
  exact⟨a,e,r⟩
 ·rw[List.getElem?_set_ne (Ne.symm hj)] at q
  obtain⟨b,e1,r1⟩:=R.at_ j w q
  refine⟨b,e1,r1.mono n λ v hv=>?_⟩
  have:b≠a:=by
   rintro rfl
   exact hj (R.inj e1 e)
  rw[Ji this]
  exact hv
end
structure RSt (K:W.Frag) (ι:List Addr) (H:Hp) (σi:ISt) (σ:L2.St):Prop where
 len:σi.length=σ.length
 at_:∀(j:Nat) (v:IV),σi[j]?=some (some v)->∃u,σ[j]?=some (some u)/\RV K ι H v u
theorem RSt.mono {K:W.Frag}{ι ι':List Addr}{H H':Hp}{σi:ISt}{σ:L2.St}(n:Nxt ι H ι' H') (r:RSt K ι H σi σ):RSt K ι' H' σi σ :=
 ⟨r.len,λ j v e=>let ⟨u,e1,q⟩:=r.at_ j v e;⟨u,e1,RV.mono n _ _ q⟩⟩
theorem RSt.set {K:W.Frag}{ι:List Addr}{H:Hp}{σi:ISt}{σ:L2.St}(r:RSt K ι H σi σ) (i:Nat){x:IV}{v:V}(q:RV K ι H x v):RSt K ι H (σi.set i (some x)) (σ.set i (some v)):=by
 refine⟨by simp[r.len],λ j w e=>?_⟩
 by_cases hj:j=i
 ·subst hj
  have hl:j<σi.length:=by
   have:=(List.getElem?_eq_some_iff.mp e).1
   simpa using this
  rw[List.getElem?_set_self hl] at e
  cases e
  exact⟨v,by rw[List.getElem?_set_self (by rw[<- r.len];exact hl)],q⟩
 ·rw[List.getElem?_set_ne (Ne.symm hj)] at e
  obtain⟨u,e1,q1⟩:=r.at_ j w e
  exact⟨u,by rw[List.getElem?_set_ne (Ne.symm hj)];exact e1,q1⟩
structure Now (ce:Str->Option Addr) (X:Cx) (pins:List (Addr×Obj)) (ι:List Addr) (σi:ISt) (h:IH) (σ:L2.St) (H:Hp) (s:Shared):Prop where
 inv:Inv X pins σ H s
 rel:Rel ce X.K ι h H
 st:RSt X.K ι H σi σ
noncomputable def RU (K:W.Frag) (ι:List Addr) (H:Hp) (v:IV) (u:Value):Prop:=∃x,RelV x u/\RV K ι H v x
theorem RU.mono {K:W.Frag}{ι ι':List Addr}{H H':Hp}{v:IV}{u:Value}(n:Nxt ι H ι' H') (r:RU K ι H v u):RU K ι' H' v u :=
 let ⟨x,a,b⟩:=r;⟨x,a,RV.mono n _ _ b⟩
noncomputable def RUs (K:W.Frag) (ι:List Addr) (H:Hp) (vs:List IV) (us:List Value):Prop:=∃xs,Vals xs us/\RVs K ι H vs xs
theorem RUs.mono {K:W.Frag}{ι ι':List Addr}{H H':Hp}{v:List IV}{u:List Value}(n:Nxt ι H ι' H') (r:RUs K ι H v u):RUs K ι' H' v u :=
 let ⟨x,a,b⟩:=r;⟨x,a,RVs.mono n _ _ b⟩
noncomputable abbrev REL (α β:Type):=W.Frag->List Addr->Hp->α->β->Prop
noncomputable def RB:REL Bool Bool:=λ _ _ _ b c=>c=b
section
variable {α β γ δ:Type}
noncomputable def Kont (ce:Str->Option Addr) (X:Cx) (R:REL α β) (pins:List (Addr×Obj)) (ι:List Addr) (σi:ISt) (σ:L2.St) (H:Hp) (r:Res α) (Q:β->Shared->Prop) (E:Value->Shared->Prop):Prop :=
 match r with
 | .ok v h'=>∀u s' H' ι',Now ce X pins ι' σi h' σ H' s'->Nxt ι H ι' H'->R X.K ι' H' v u->Q u s'
 | .exc n h'=>∀pl a s' H' ι',Now ce X (pins++pl) ι' σi h' σ H' s'->Nxt ι H ι' H'->ι'[n]?=some a->E (.ref a) s'
 | .stuck=>False
variable {ce:Str->Option Addr}{X:Cx}{R:REL α β}{R':REL γ δ}{pins:List (Addr×Obj)}{ι ι':List Addr}{σi:ISt}{σ:L2.St}{H H':Hp}
theorem Kont.mono {r:Res α}{Q:β->Shared->Prop}{E:Value->Shared->Prop}(k:Kont ce X R pins ι σi σ H r Q E) (n:Nxt ι H ι' H'):Kont ce X R pins ι' σi σ H' r Q E:=by
 cases r with
 | ok v h'=>exact λ u s' H2 ι2 N n2 q=>k u s' H2 ι2 N (n.trans n2) q
 | exc m h'=>exact λ pl a s' H2 ι2 N n2 q=>k pl a s' H2 ι2 N (n.trans n2) q
 | stuck=>exact k
noncomputable def PX (ce:Str->Option Addr) (X:Cx) (R:REL α β) (t:Sem β) (m:ISt->IH->Res α):Prop :=
 ∀(pins:List (Addr×Obj)) (s:Shared) (σ:L2.St) (H:Hp) (ι:List Addr) (σi:ISt) (h:IH) (Q:β->Shared->Prop) (E:Value->Shared->Prop),Now ce X pins ι σi h σ H s->Kont ce X R pins ι σi σ H (m σi h) Q E ->
  wpAny (model X.prog X.w) X.A t Q E s
theorem PX.run {t:Sem β}{m:ISt->IH->Res α}(p:PX ce X R t m){s:Shared}{h:IH}(N:Now ce X pins ι σi h σ H s){g:α->IH->Res γ}{Q:δ->Shared->Prop}{E:Value->Shared->Prop}{Q1:β->Shared->Prop}
  (K:Kont ce X R' pins ι σi σ H ((m σi h).bind g) Q E)
  (step:∀x h1 u s1 H1 ι1,Now ce X pins ι1 σi h1 σ H1 s1->Nxt ι H ι1 H1->R X.K ι1 H1 x u->Kont ce X R' pins ι1 σi σ H1 (g x h1) Q E->Q1 u s1):wpAny (model X.prog X.w) X.A t Q1 E s:=by
 refine p pins s σ H ι σi h Q1 E N ?_
 cases e:m σi h with
 | ok v h' =>
  rw[e] at K
  exact λ u s' H' ι' N' n' r=>step v h' u s' H' ι' N' n' r (Kont.mono (r:=g v h') K n')
 | exc n h' =>
  rw[e] at K
  exact K
 | stuck =>
  rw[e] at K
  exact K
end
noncomputable abbrev PEi (ce:Str->Option Addr) (X:Cx) (e:Expr) (m:ISt->IH->Res IV):Prop:=PX ce X RU (eval e X.env) m
noncomputable abbrev PTi (ce:Str->Option Addr) (X:Cx) (e:Expr) (m:ISt->IH->Res Bool):Prop:=PX ce X RB (isTrue e X.env (eval e X.env)) m
noncomputable def PWi (ce:Str->Option Addr) (X:Cx) (e:Expr) (m:ISt->IH->Res Bool):Prop:=∀whole:Sem Value,PX ce X RB (isTrue e X.env whole) m
noncomputable def PAi (ce:Str->Option Addr) (X:Cx) (es:List Expr) (m:ISt->IH->Res (List IV)):Prop:=∀pos:Pos,PX ce X RUs (spliced (backTo pos (starEach es X.env))) m
noncomputable abbrev E1:=ISt->IH->Res IV
noncomputable abbrev T1:=ISt->IH->Res Bool
noncomputable abbrev A1:=ISt->IH->Res (List IV)
noncomputable def eVar (i:Nat):E1:=λ σ h=>match σ[i]? with|some (some v)=>.ok v h|_=>.stuck
noncomputable def eC (v:IV):E1:=λ _ h=>.ok v h
noncomputable def eBin (f:IV->IV->IH->Res IV) (a b:E1):E1:=λ σ h=>(a σ h).bind λ x h1=>(b σ h1).bind λ y h2=>f x y h2
noncomputable def eUn (f:IV->IH->Res IV) (a:E1):E1:=λ σ h=>(a σ h).bind λ x h1=>f x h1
noncomputable def eAnd (a b:E1) (tr:IV->IH->Res Bool):E1:=λ σ h=>(a σ h).bind λ x h1=>(tr x h1).bind λ c h2=>if c then b σ h2 else .ok x h2
noncomputable def eOr (a b:E1) (tr:IV->IH->Res Bool):E1:=λ σ h=>(a σ h).bind λ x h1=>(tr x h1).bind λ c h2=>if c then .ok x h2 else b σ h2
noncomputable def eIf (t:T1) (a b:E1):E1:=λ σ h=>(t σ h).bind λ c h1=>if c then a σ h1 else b σ h1
noncomputable def Jzn (a b:T1):T1:=λ σ h=>(a σ h).bind λ c h1=>if c then b σ h1 else .ok false h1
noncomputable def tOrI (a b:T1):T1:=λ σ h=>(a σ h).bind λ c h1=>if c then .ok true h1 else b σ h1
noncomputable def Jcz (a:T1):T1:=λ σ h=>(a σ h).bind λ c h1=>.ok (!c) h1
noncomputable def tOfB (tr:IV->IH->Res Bool) (a:E1):T1:=λ σ h=>(a σ h).bind λ x h1=>tr x h1
noncomputable def aNil:A1:=λ _ h=>.ok [] h
noncomputable def Ja (a:E1) (r:A1):A1:=λ σ h=>(a σ h).bind λ x h1=>(r σ h1).bind λ xs h2=>.ok (x::xs) h2
noncomputable def Jfk (f g:IV->IV->IH->Res IV) (a b c:E1):E1:=λ σ h=>(a σ h).bind λ x h1=>(b σ h1).bind λ y h2=>(f x y h2).bind λ k h3 =>
 match k with
 | .bl true=>(c σ h3).bind λ z h4=>g y z h4
 | .bl false=>.ok (.bl false) h3
 | _=>.stuck
section
variable {ce:Str->Option Addr}{X:Cx}{a b c:Expr}{ma mb mc:E1}{pos:Pos}
noncomputable def OpI (ce:Str->Option Addr) (X:Cx) (f:Value->Value->Sem Value) (g:IV->IV->IH->Res IV):Prop :=
 ∀(pins:List (Addr×Obj)) (s:Shared) (σ:L2.St) (H:Hp) (ι:List Addr) (σi:ISt) (h:IH) (x y:IV) (v u:Value) (Q:Value->Shared->Prop) (E:Value->Shared->Prop),Now ce X pins ι σi h σ H s->RU X.K ι H x v->RU X.K ι H y u ->
  Kont ce X RU pins ι σi σ H (g x y h) Q E->wpAny (model X.prog X.w) X.A (f v u) Q E s
noncomputable def UnI (ce:Str->Option Addr) (X:Cx) (f:Value->Sem Value) (g:IV->IH->Res IV):Prop :=
 ∀(pins:List (Addr×Obj)) (s:Shared) (σ:L2.St) (H:Hp) (ι:List Addr) (σi:ISt) (h:IH) (x:IV) (v:Value) (Q:Value->Shared->Prop) (E:Value->Shared->Prop),Now ce X pins ι σi h σ H s->RU X.K ι H x v ->
  Kont ce X RU pins ι σi σ H (g x h) Q E->wpAny (model X.prog X.w) X.A (f v) Q E s
noncomputable def TrI (ce:Str->Option Addr) (X:Cx) (g:IV->IH->Res Bool):Prop :=
 ∀(pins:List (Addr×Obj)) (s:Shared) (σ:L2.St) (H:Hp) (ι:List Addr) (σi:ISt) (h:IH) (x:IV) (v:Value) (Q:Bool->Shared->Prop) (E:Value->Shared->Prop),Now ce X pins ι σi h σ H s->RU X.K ι H x v ->
  Kont ce X RB pins ι σi σ H (g x h) Q E->wpAny (model X.prog X.w) X.A (truthy v) Q E s
noncomputable def Jfq (ce:Str->Option Addr) (X:Cx) (f:Value) (g:List IV->IH->Res IV):Prop :=
 ∀(pins:List (Addr×Obj)) (s:Shared) (σ:L2.St) (H:Hp) (ι:List Addr) (σi:ISt) (h:IH) (xs:List IV) (us:List Value) (Q:Value->Shared->Prop) (E:Value->Shared->Prop),Now ce X pins ι σi h σ H s->RUs X.K ι H xs us ->
  Kont ce X RU pins ι σi σ H (g xs h) Q E->wpAny (model X.prog X.w) X.A (call f us) Q E s
theorem Jp6 {pins:List (Addr×Obj)}{s:Shared}{σ:L2.St}{H:Hp}{Q:Value->Shared->Prop}{E:Value->Shared->Prop}{e:Expr}{t:TE}(p:PE (X.wish E) e t) (I:Inv X pins σ H s)
  (k:t σ H λ z H'=>∀u s',Inv X pins σ H' s'->RelV z u->Q u s'):wpAny (model X.prog X.w) X.A (eval e X.env) Q E s :=
 wpAny_mono (p pins s σ H _ (I.wish E) k) (λ u s' ⟨_,_,I',r,q⟩=>q u s' I'.unwish r) λ _ _ z=>z
theorem Jbc {pins:List (Addr×Obj)}{s:Shared}{σ:L2.St}{H:Hp}{Q:Value->Shared->Prop}{E:Value->Shared->Prop}{f:Value->Value->Sem Value}{r:R2}{x y:V}{v u:Value}(p:OpR (X.wish E) f r) (I:Inv X pins σ H s) (rx:RelV x v) (ry:RelV y u)
  (k:r x y H λ z H'=>∀u s',Inv X pins σ H' s'->RelV z u->Q u s'):wpAny (model X.prog X.w) X.A (f v u) Q E s :=
 wpAny_mono (p pins s σ H x y v u _ (I.wish E) rx ry k) (λ u s' ⟨_,_,I',r,q⟩=>q u s' I'.unwish r) λ _ _ z=>z
theorem J73 {pins:List (Addr×Obj)}{s:Shared}{σ:L2.St}{H:Hp}{Q:Value->Shared->Prop}{E:Value->Shared->Prop}{f:Value->Sem Value}{r:V->Hp->VK->Prop}{x:V}{v:Value}(p:UnR (X.wish E) f r) (I:Inv X pins σ H s) (rx:RelV x v)
  (k:r x H λ z H'=>∀u s',Inv X pins σ H' s'->RelV z u->Q u s'):wpAny (model X.prog X.w) X.A (f v) Q E s :=
 wpAny_mono (p pins s σ H x v _ (I.wish E) rx k) (λ u s' ⟨_,_,I',r,q⟩=>q u s' I'.unwish r) λ _ _ z=>z
theorem Jgy {pins:List (Addr×Obj)}{s:Shared}{σ:L2.St}{H:Hp}{Q:Bool->Shared->Prop}{E:Value->Shared->Prop}{r:V->Hp->(Bool->Hp->Prop)->Prop}{x:V}{v:Value}(p:TruR (X.wish E) r) (I:Inv X pins σ H s) (rx:RelV x v)
  (k:r x H λ z H'=>∀s',Inv X pins σ H' s'->Q z s'):wpAny (model X.prog X.w) X.A (truthy v) Q E s :=
 wpAny_mono (p pins s σ H x v _ (I.wish E) rx k) (λ _ s' ⟨_,I',q⟩=>q s' I'.unwish) λ _ _ z=>z
theorem Jat {pins:List (Addr×Obj)}{s:Shared}{σ:L2.St}{H:Hp}{Q:Value->Shared->Prop}{E:Value->Shared->Prop}{f:Value}{r:List V->Hp->VK->Prop}{xs:List V}{us:List Value}(p:Jvw (X.wish E) f r) (I:Inv X pins σ H s) (rx:Vals xs us)
  (k:r xs H λ z H'=>∀u s',Inv X pins σ H' s'->RelV z u->Q u s'):wpAny (model X.prog X.w) X.A (call f us) Q E s :=
 wpAny_mono (p pins s σ H xs us _ (I.wish E) rx k) (λ u s' ⟨_,_,I',r,q⟩=>q u s' I'.unwish r) λ _ _ z=>z
theorem i_var (i:Nat){x:Str}{pos:Pos}(hN:X.N[i]?=some x:=by rfl) (hv:Vis X.env.scope x:=by assumption) (hd:(x==("__debug__":Str))=false:=by decide)
  (hcd:(x==("__classdict__":Str))=false:=by decide):PEi ce X (.Name x pos) (eVar i):=by
 intro pins s σ H ι σi h Q E N K
 unfold eVar at K
 cases e:σi[i]? with
 | none =>
  rw[e] at K
  exact Zf K
 | some o =>
  cases o with
  | none =>
   rw[e] at K
   exact Zf K
  | some v =>
   rw[e] at K
   obtain⟨u,e1,q⟩:=N.st.at_ i v e
   exact Jp6 (J7e (X:=X.wish E) hN hv hd hcd) N.inv ⟨u,e1,λ u' s' I' r'=>K u' s' H ι ⟨I',N.rel,N.st⟩ .refl ⟨u,r',q⟩⟩
theorem i_int {i j pos}:PEi ce X (.Constant (.int i) j pos) (eC (.int i)):=λ _ _ _ H ι _ _ _ E N K=>Jp6 (J7b (X:=X.wish E)) N.inv λ u' s' I' r'=>K u' s' H ι ⟨I',N.rel,N.st⟩ .refl ⟨_,r',rfl⟩
theorem i_bl {i j pos}:PEi ce X (.Constant (.bool i) j pos) (eC (.bl i)):=λ _ _ _ H ι _ _ _ E N K=>Jp6 (pe_bl (X:=X.wish E)) N.inv λ u' s' I' r'=>K u' s' H ι ⟨I',N.rel,N.st⟩ .refl ⟨_,r',rfl⟩
theorem i_non {j pos}:PEi ce X (.Constant .none j pos) (eC .non):=λ _ _ _ H ι _ _ _ E N K=>Jp6 (J7c (X:=X.wish E)) N.inv λ u' s' I' r'=>K u' s' H ι ⟨I',N.rel,N.st⟩ .refl ⟨_,r',rfl⟩
theorem i_str {i j pos}:PEi ce X (.Constant (.str i) j pos) (eC (.str i)):=λ _ _ _ H ι _ _ _ E N K=>Jp6 (J7d (X:=X.wish E)) N.inv λ u' s' I' r'=>K u' s' H ι ⟨I',N.rel,N.st⟩ .refl ⟨_,r',rfl⟩
theorem J6a {x:Str}{v:V}{iv:IV}{u:Value}{pos:Pos}(hg:Gl X x) (hm:X.mg x=some u) (r:RelV v u) (q:∀ι H,RV X.K ι H iv v) (hd:(x==("__debug__":Str))=false:=by decide):PEi ce X (.Name x pos) (eC iv) :=
 λ _ _ _ H ι _ _ _ E N K=>Jp6 (J4m (X:=X.wish E) hg hm r hd) N.inv λ u' s' I' r'=>K u' s' H ι ⟨I',N.rel,N.st⟩ .refl ⟨_,r',q _ _⟩
theorem i_bin {op:Operator}{f:IV->IV->IH->Res IV}(ho:OpI ce X (binaryOp op) f) (ha:PEi ce X a ma) (hb:PEi ce X b mb):PEi ce X (.BinOp a op b pos) (eBin f ma mb) :=
 λ pins s σ H ι σi h Q E N K=>wpAny_BinOp (ha.run N K λ x h1 u s1 H1 ι1 N1 n1 r1 K1=>hb.run N1 K1 λ y h2 w s2 H2 ι2 N2 n2 r2 K2=>ho pins s2 σ H2 ι2 σi h2 x y u w Q E N2 (r1.mono n2) r2 K2)
theorem i_un {op:UnaryOp}{f:IV->IH->Res IV}(ho:UnI ce X (unaryOp op) f) (ha:PEi ce X a ma):PEi ce X (.UnaryOp op a pos) (eUn f ma) :=
 λ pins s σ H ι σi h Q E N K=>UnaryOp_ (ha.run N K λ x h1 u s1 H1 ι1 N1 n1 r1 K1=>ho pins s1 σ H1 ι1 σi h1 x u Q E N1 r1 K1)
theorem i_cmp {op:CmpOp}{f:IV->IV->IH->Res IV}(ho:OpI ce X (compareOp op) f) (ha:PEi ce X a ma) (hb:PEi ce X b mb) (hm:behindInMarks op b=false:=by assumption):PEi ce X (.Compare a [op] [b] pos) (eBin f ma mb) :=
 λ pins s σ H ι σi h Q E N K=>wpAny_Compare1 (ha.run N K λ x h1 u s1 H1 ι1 N1 n1 r1 K1=>hb.run N1 K1 λ y h2 w s2 H2 ι2 N2 n2 r2 K2=>ho pins s2 σ H2 ι2 σi h2 x y u w Q E N2 (r1.mono n2) r2 K2) hm
noncomputable def asB:IV->IH->Res Bool
 | .bl b,h=>.ok b h
 | _,_=>.stuck
theorem Kont.asB {pins:List (Addr×Obj)}{σ:L2.St}{H:Hp}{ι:List Addr}{σi:ISt}{r:Res IV}{Q:Bool->Shared->Prop}{E:Value->Shared->Prop}(K:Kont ce X RB pins ι σi σ H (r.bind asB) Q E) :
  Kont ce X RU pins ι σi σ H r (λ v s=>wpAny (model X.prog X.w) X.A (truthy v) Q E s) E:=by
 cases r with
 | exc n h=>exact K
 | stuck=>exact K
 | ok v h =>
  intro u s' H' ι' N n q
  obtain⟨x,rx,q⟩:=q
  cases v with
  | bl b =>
   have e:x=.bl b:=q
   subst e
   cases rx
   exact wpAny_truthy_bool (K b s' H' ι' N n rfl)
  | _=>exact Zf K
theorem Res.bind_bind {α β γ:Type}(r:Res α) (f:α->IH->Res β) (g:β->IH->Res γ):(r.bind f).bind g=r.bind λ x h=>(f x h).bind g:=by
 cases r<;>rfl
theorem t_cmp {op:CmpOp}{f:IV->IV->IH->Res IV}(ho:OpI ce X (compareOp op) f) (ha:PEi ce X a ma) (hb:PEi ce X b mb) (hm:behindInMarks op b=false:=by assumption):PTi ce X (.Compare a [op] [b] pos) (tOfB asB (eBin f ma mb)) :=
 λ pins s σ H ι σi h Q E N K=>by
  have K':Kont ce X RB pins ι σi σ H ((ma σi h).bind λ x h1=>(mb σi h1).bind λ y h2=>(f x y h2).bind asB) Q E:=by
   unfold tOfB eBin at K
   rw[Res.bind_bind] at K
   simp only[Res.bind_bind] at K
   exact K
  exact wpAny_isTrue_Compare1 (ha.run N K' λ x h1 u s1 H1 ι1 N1 n1 r1 K1=>hb.run N1 K1 λ y h2 w s2 H2 ι2 N2 n2 r2 K2=>ho pins s2 σ H2 ι2 σi h2 x y u w _ E N2 (r1.mono n2) r2 (Kont.asB K2)) hm
theorem J7w {tr:IV->IH->Res Bool}(ht:TrI ce X tr) (ha:PEi ce X a ma) (he:∀whole,isTrue a X.env whole=(do let v<-whole;standAt a.pos;holding [v] (truthy v)):=by intro _;rfl):PTi ce X a (tOfB tr ma) :=
 λ pins s σ H ι σi h Q E N K=>isTrue_plain (ha.run N K λ x h1 u s1 H1 ι1 N1 n1 r1 K1=>ht pins s1 σ H1 ι1 σi h1 x u Q E N1 r1 K1) (he _)
variable {rest:List Expr}{ta tb:T1}
theorem J47 (ha:PTi ce X a ta):PWi ce X (.BoolOp .And [a] pos) ta:=λ wh pins s σ H ι σi h Q E N K=>by
 refine isTrue_and (ha pins s σ H ι σi h _ E N ?_)
 cases e:ta σi h with
 | ok v h' =>
  rw[e] at K
  intro u s' H' ι' N' n' r
  have r':u=v:=r
  subst r'
  cases u with
  | true=>exact isTrue_and_nil (K true s' H' ι' N' n' rfl)
  | false=>exact K false s' H' ι' N' n' rfl
 | exc n h'=>rw[e] at K;exact K
 | stuck=>rw[e] at K;exact K
theorem J70 (ha:PTi ce X a ta):PWi ce X (.BoolOp .Or [a] pos) ta:=λ wh pins s σ H ι σi h Q E N K=>by
 refine isTrue_or (ha pins s σ H ι σi h _ E N ?_)
 cases e:ta σi h with
 | ok v h' =>
  rw[e] at K
  intro u s' H' ι' N' n' r
  have r':u=v:=r
  subst r'
  cases u with
  | false=>exact isTrue_or_nil (K false s' H' ι' N' n' rfl)
  | true=>exact K true s' H' ι' N' n' rfl
 | exc n h'=>rw[e] at K;exact K
 | stuck=>rw[e] at K;exact K
theorem J7z (ha:PTi ce X a ta) (hb:PWi ce X (.BoolOp .And (b::rest) pos) tb):PWi ce X (.BoolOp .And (a::b::rest) pos) (Jzn ta tb):=λ wh pins s σ H ι σi h Q E N K =>
 isTrue_and (ha.run N K λ c h1 u s1 H1 ι1 N1 n1 r1 K1=>by
  have r':u=c:=r1
  subst r'
  cases u with
  | true=>exact hb wh pins s1 σ H1 ι1 σi h1 Q E N1 K1
  | false=>exact K1 false s1 H1 ι1 N1 .refl rfl)
theorem tw_or (ha:PTi ce X a ta) (hb:PWi ce X (.BoolOp .Or (b::rest) pos) tb):PWi ce X (.BoolOp .Or (a::b::rest) pos) (tOrI ta tb):=λ wh pins s σ H ι σi h Q E N K =>
 isTrue_or (ha.run N K λ c h1 u s1 H1 ι1 N1 n1 r1 K1=>by
  have r':u=c:=r1
  subst r'
  cases u with
  | false=>exact hb wh pins s1 σ H1 ι1 σi h1 Q E N1 K1
  | true=>exact K1 true s1 H1 ι1 N1 .refl rfl)
theorem PWi.t (h:PWi ce X a ta):PTi ce X a ta:=h _
theorem t_not (ha:PTi ce X a ta):PTi ce X (.UnaryOp .Not a pos) (Jcz ta):=λ pins s σ H ι σi h Q E N K =>
 isTrue_not (ha.run N K λ c h1 u s1 H1 ι1 N1 n1 r1 K1=>by
  have r':u=c:=r1
  subst r'
  exact K1 (!u) s1 H1 ι1 N1 .refl rfl)
theorem J6f {op} (h:PEi ce X a ma):PEi ce X (.BoolOp op [a] pos) ma:=λ pins s σ H ι σi h' Q E N K=>BoolOp_one (h pins s σ H ι σi h' Q E N K)
theorem i_and {tr:IV->IH->Res Bool}(ht:TrI ce X tr) (ha:PEi ce X a ma) (hb:PEi ce X (.BoolOp .And (b::rest) pos) mb):PEi ce X (.BoolOp .And (a::b::rest) pos) (eAnd ma mb tr):=λ pins s σ H ι σi h Q E N K =>
 BoolOp_and (ha.run N K λ x h1 u s1 H1 ι1 N1 n1 r1 K1=>by
  refine ht pins s1 σ H1 ι1 σi h1 x u _ E N1 r1 ?_
  cases e:tr x h1 with
  | ok c h2 =>
   rw[e] at K1
   intro d s2 H2 ι2 N2 n2 r2
   have r':d=c:=r2
   subst r'
   have K2:=Kont.mono (r:=if d=true then mb σi h2 else .ok x h2) K1 n2
   cases d with
   | true=>exact hb pins s2 σ H2 ι2 σi h2 Q E N2 K2
   | false=>exact K2 u s2 H2 ι2 N2 .refl (r1.mono n2)
  | exc n h'=>rw[e] at K1;exact K1
  | stuck=>rw[e] at K1;exact K1)
theorem i_or {tr:IV->IH->Res Bool}(ht:TrI ce X tr) (ha:PEi ce X a ma) (hb:PEi ce X (.BoolOp .Or (b::rest) pos) mb):PEi ce X (.BoolOp .Or (a::b::rest) pos) (eOr ma mb tr):=λ pins s σ H ι σi h Q E N K =>
 BoolOp_or (ha.run N K λ x h1 u s1 H1 ι1 N1 n1 r1 K1=>by
  refine ht pins s1 σ H1 ι1 σi h1 x u _ E N1 r1 ?_
  cases e:tr x h1 with
  | ok c h2 =>
   rw[e] at K1
   intro d s2 H2 ι2 N2 n2 r2
   have r':d=c:=r2
   subst r'
   have K2:=Kont.mono (r:=if d=true then .ok x h2 else mb σi h2) K1 n2
   cases d with
   | false=>exact hb pins s2 σ H2 ι2 σi h2 Q E N2 K2
   | true=>exact K2 u s2 H2 ι2 N2 .refl (r1.mono n2)
  | exc n h'=>rw[e] at K1;exact K1
  | stuck=>rw[e] at K1;exact K1)
noncomputable def Jws (tr:IV->IH->Res Bool):IV->IH->Res IV:=λ x h=>(tr x h).bind λ c h1=>.ok (.bl (!c)) h1
theorem J48 {tr:IV->IH->Res Bool}(ht:TrI ce X tr):UnI ce X (unaryOp .Not) (Jws tr):=λ pins s σ H ι σi h x v Q E N r K=>by
 refine not_of (ht pins s σ H ι σi h x v _ E N r ?_)
 unfold Jws at K
 cases e:tr x h with
 | ok c h2 =>
  rw[e] at K
  intro d s2 H2 ι2 N2 n2 r2
  have r':d=c:=r2
  subst r'
  exact K _ s2 H2 ι2 N2 n2 ⟨.bl (!d),rfl,rfl⟩
 | exc n h'=>rw[e] at K;exact K
 | stuck=>rw[e] at K;exact K
theorem J3v {t:Expr}{mt:T1}(ht:PTi ce X t mt) (ha:PEi ce X a ma) (hb:PEi ce X b mb):PEi ce X (.IfExp t a b pos) (eIf mt ma mb):=λ pins s σ H ι σi h Q E N K =>
 wpAny_IfExp (ht.run N K λ c h1 u s1 H1 ι1 N1 n1 r1 K1=>by
  have r':u=c:=r1
  subst r'
  cases u with
  | true=>exact ha pins s1 σ H1 ι1 σi h1 Q E N1 K1
  | false=>exact hb pins s1 σ H1 ι1 σi h1 Q E N1 K1)
theorem J3u {op op':CmpOp}{f g:IV->IV->IH->Res IV}(ho:OpI ce X (compareOp op) f) (ho':OpI ce X (compareOp op') g) (ha:PEi ce X a ma) (hb:PEi ce X b mb) (hc:PEi ce X c mc)
  (hm:lastMarks [op,op'] [b,c]=false:=by with_unfolding_all rfl):PEi ce X (.Compare a [op,op'] [b,c] pos) (Jfk f g ma mb mc):=λ pins s σ H ι σi h Q E N K =>
 Compare_chain (ha.run N K λ x h1 u s1 H1 ι1 N1 n1 r1 K1=>chain_link (hb.run N1 K1 λ y h2 w s2 H2 ι2 N2 n2 r2 K2=>by
  refine ho pins s2 σ H2 ι2 σi h2 x y u w _ E N2 (r1.mono n2) r2 ?_
  cases e:f x y h2 with
  | exc n h'=>rw[e] at K2;exact K2
  | stuck=>rw[e] at K2;exact K2
  | ok k h3 =>
   rw[e] at K2
   intro d s3 H3 ι3 N3 n3 r3
   obtain⟨z,rz,q⟩:=r3
   cases k with
   | bl k =>
    have e':z=.bl k:=q
    subst e'
    cases rz
    refine wpAny_truthy_bool ?_
    have K3:=Kont.mono (r:=match IV.bl k with|.bl true=>(mc σi h3).bind λ z h4=>g y z h4|.bl false=>.ok (.bl false) h3|_=>.stuck) K2 n3
    cases k with
    | false=>exact ite_ff (K3 _ s3 H3 ι3 N3 .refl ⟨.bl false,rfl,rfl⟩)
    | true=>exact ite_tt (chain_last (hc.run N3 K3 λ z h4 w' s4 H4 ι4 N4 n4 r4 K4=>ho' pins s4 σ H4 ι4 σi h4 y z w w' Q E N4 ((r2.mono n3).mono n4) r4 K4))
   | _=>exact Zf K2)) hm
theorem J45 {op op':CmpOp}{f g:IV->IV->IH->Res IV}(ho:OpI ce X (compareOp op) f) (ho':OpI ce X (compareOp op') g) (ha:PEi ce X a ma) (hb:PEi ce X b mb) (hc:PEi ce X c mc)
  (hm:lastMarks [op,op'] [b,c]=false:=by with_unfolding_all rfl):PTi ce X (.Compare a [op,op'] [b,c] pos) (tOfB asB (Jfk f g ma mb mc)):=λ pins s σ H ι σi h Q E N K=>by
 have K':Kont ce X RB pins ι σi σ H ((ma σi h).bind λ x h1=>(mb σi h1).bind λ y h2=>(f x y h2).bind λ k h3=>(match k with|.bl true=>(mc σi h3).bind λ z h4=>g y z h4|.bl false=>.ok (.bl false) h3|_=>.stuck:Res IV).bind asB) Q E:=by
  unfold tOfB Jfk at K
  rw[Res.bind_bind] at K
  simp only[Res.bind_bind] at K
  exact K
 refine isTrue_chain (ha.run N K' λ x h1 u s1 H1 ι1 N1 n1 r1 K1=>test_link (hb.run N1 K1 λ y h2 w s2 H2 ι2 N2 n2 r2 K2=>?_)) hm
 refine ho pins s2 σ H2 ι2 σi h2 x y u w _ E N2 (r1.mono n2) r2 ?_
 cases e:f x y h2 with
 | exc n h'=>rw[e] at K2;exact K2
 | stuck=>rw[e] at K2;exact K2
 | ok k h3 =>
  rw[e] at K2
  intro d s3 H3 ι3 N3 n3 r3
  obtain⟨z,rz,q⟩:=r3
  cases k with
  | bl k =>
   have e':z=.bl k:=q
   subst e'
   cases rz
   refine wpAny_truthy_bool ?_
   have K3:=Kont.mono (r:=(match IV.bl k with|.bl true=>(mc σi h3).bind λ z h4=>g y z h4|.bl false=>.ok (.bl false) h3|_=>.stuck:Res IV).bind asB) K2 n3
   cases k with
   | false=>exact ite_ff (K3 _ s3 H3 ι3 N3 .refl rfl)
   | true =>
    have K3':Kont ce X RB pins ι3 σi σ H3 ((mc σi h3).bind λ z h4=>(g y z h4).bind asB) Q E:=by
     have:=K3
     dsimp only at this
     rw[Res.bind_bind] at this
     exact this
    exact ite_tt (test_last (hc.run N3 K3' λ z h4 w' s4 H4 ι4 N4 n4 r4 K4=>ho' pins s4 σ H4 ι4 σi h4 y z w w' _ E N4 ((r2.mono n3).mono n4) r4 (Kont.asB K4)))
  | _=>exact Zf K2
variable {es:List Expr}{mr:A1}
theorem RUs.nil {K:W.Frag}{ι:List Addr}{H:Hp}:RUs K ι H [] []:=⟨[],.nil,rfl⟩
theorem RUs.cons {K:W.Frag}{ι:List Addr}{H:Hp}{x:IV}{u:Value}{xs:List IV}{us:List Value}(a:RU K ι H x u) (b:RUs K ι H xs us):RUs K ι H (x::xs) (u::us) :=
 let ⟨v,r,q⟩:=a;let ⟨vs,rs,qs⟩:=b;⟨v::vs,.cons r rs,v,vs,rfl,q,qs⟩
theorem Jmy:PAi ce X [] aNil:=λ _ pins s σ H ι σi h Q E N K=>Calls.spliced_nil (K [] s H ι N .refl .nil)
theorem Jfh (ha:PEi ce X a ma) (hr:PAi ce X es mr) (hs:starEach (a::es) X.env=(false,eval a X.env)::starEach es X.env:=by rfl):PAi ce X (a::es) (Ja ma mr):=by
 intro pos pins s σ H ι σi h Q E N K
 rw[hs]
 show wpAny _ _ (spliced ((false,eval a X.env)::backTo pos (starEach es X.env))) _ _ s
 exact Calls.spliced_cons (ha.run N K λ x h1 u s1 H1 ι1 N1 n1 r1 K1=>(hr pos).run N1 K1 λ xs h2 us s2 H2 ι2 N2 n2 r2 K2=>K2 _ s2 H2 ι2 N2 .refl (.cons (r1.mono n2) r2))
end
noncomputable def Jo:IV->IV->IH->Res IV
 | .int i,.int j,h=>.ok (.int (i+j)) h
 | .str x,.str y,h=>if x.length+y.length<=sizeLine then .ok (.str (x++y)) h else .stuck
 | .ref i,.ref j,h=>match h[i]?,h[j]? with
  | some (.lst xs),some (.lst ys)=>if xs.length+ys.length<=sizeLine then .ok (.ref h.length) (h++[.lst (xs++ys)]) else .stuck
  | _,_=>.stuck
 | .tup xs,.tup ys,h=>if xs≠[]/\ys≠[]/\xs.length+ys.length<=sizeLine then .ok (.tup (xs++ys)) h else .stuck
 | _,_,_=>.stuck
noncomputable def Jsn:IV->IV->IH->Res IV
 | .int i,.int j,h=>.ok (.int (i-j)) h
 | _,_,_=>.stuck
noncomputable def Jbq (i j:Int):Prop:=i.natAbs<2^64∨j.natAbs<2^64∨(i.natAbs.log2<1048576/\j.natAbs.log2<1048576)
noncomputable instance (i j:Int):Decidable (Jbq i j):=by unfold Jbq;exact inferInstance
noncomputable def Jwr:IV->IV->IH->Res IV
 | .int i,.int j,h=>if Jbq i j then .ok (.int (i*j)) h else .stuck
 | .ref i,.int k,h=>match h[i]? with
  | some (.lst xs)=>if -(2^63)<=k/\k<2^63/\xs.length*k.toNat<=sizeLine then .ok (.ref h.length) (h++[.lst (List.replicate k.toNat xs).flatten]) else .stuck
  | _=>.stuck
 | _,_,_=>.stuck
noncomputable def Jaf:IV->IV->IH->Res IV
 | .int i,.int j,h=>if 0<j/\j.natAbs.log2<9000 then .ok (.int (i/j)) h else .stuck
 | _,_,_=>.stuck
noncomputable def Ju:IV->IV->IH->Res IV
 | .int i,.int j,h=>if 0<j then .ok (.int (i%j)) h else .stuck
 | _,_,_=>.stuck
noncomputable def Jkq:IV->IV->IH->Res IV
 | .int i,.int j,h=>if 0<=j/\j<=1000000/\i.natAbs<2^64 then .ok (.int (i^j.toNat)) h else .stuck
 | _,_,_=>.stuck
noncomputable def J4i:IV->IH->Res IV
 | .int i,h=>.ok (.int (-i)) h
 | _,_=>.stuck
section
variable {ce:Str->Option Addr}{X:Cx}
theorem fin0 {pins:List (Addr×Obj)}{s:Shared}{σ:L2.St}{H:Hp}{ι:List Addr}{σi:ISt}{h:IH}{v:IV}{w:V}{Q:Value->Shared->Prop}{E:Value->Shared->Prop}(N:Now ce X pins ι σi h σ H s) (K:Kont ce X RU pins ι σi σ H (.ok v h) Q E)
  (q:RV X.K ι H v w):∀u s',Inv X pins σ H s'->RelV w u->Q u s':=λ u s' I r=>K u s' H ι ⟨I,N.rel,N.st⟩ .refl ⟨w,r,q⟩
theorem finA {pins:List (Addr×Obj)}{s:Shared}{σ:L2.St}{H:Hp}{ι:List Addr}{σi:ISt}{h:IH}{io:IO}{o:HO}{Q:Value->Shared->Prop}{E:Value->Shared->Prop}(N:Now ce X pins ι σi h σ H s)
  (K:Kont ce X RU pins ι σi σ H (.ok (.ref h.length) (h++[io])) Q E) (l:Addr) (e:H l=none) (r:RO ce X.K (ι++[l]) (upd H l o) l io):∀u s',Inv X pins σ (upd H l o) s'->RelV (.ref l) u->Q u s':=λ u s' I ru=>by
 obtain⟨R,n⟩:=N.rel.alloc e r
 refine K u s' _ _ ⟨I,R,N.st.mono n⟩ n ⟨.ref l,ru,l,rfl,?_⟩
 rw[<- N.rel.len,List.getElem?_append_right (Nat.le_refl _)]
 simp
theorem finT {pins:List (Addr×Obj)}{s:Shared}{σ:L2.St}{H:Hp}{ι:List Addr}{σi:ISt}{h:IH}{xs:List IV}{vs:List V}{Q:Value->Shared->Prop}{E:Value->Shared->Prop}(N:Now ce X pins ι σi h σ H s)
  (K:Kont ce X RU pins ι σi σ H (.ok (.tup xs) h) Q E) (l:Addr) (e:H l=none) (r:RVs X.K ι H xs vs):∀u s',Inv X pins σ (upd H l (.tup vs)) s'->RelV (.ref l) u->Q u s':=λ u s' I ru=>by
 obtain⟨R,n⟩:=N.rel.grow (o:=.tup vs) e
 exact K u s' _ _ ⟨I,R,N.st.mono n⟩ n ⟨.ref l,ru,l,vs,rfl,SqT.of Jf,RVs.mono n _ _ r⟩
theorem RVs.new {K:W.Frag}{ι:List Addr}{H:Hp}{l:Addr}{o:HO}(e:H l=none){xs:List IV}{vs:List V}(r:RVs K ι H xs vs):RVs K (ι++[l]) (upd H l o) xs vs:=RVs.mono ⟨⟨[l],rfl⟩,Ext.upd_new e⟩ _ _ r
theorem Now.at {pins:List (Addr×Obj)}{s:Shared}{σ:L2.St}{H:Hp}{ι:List Addr}{σi:ISt}{h:IH}(N:Now ce X pins ι σi h σ H s){i:Nat}{o:IO}(e:h[i]?=some o){a:Addr}(ha:ι[i]?=some a):RO ce X.K ι H a o:=by
 obtain⟨b,e1,r⟩:=N.rel.at_ i o e
 rw[ha] at e1
 cases e1
 exact r
theorem o_add:OpI ce X (binaryOp .Add) Jo:=by
 intro pins s σ H ι σi h x y v u Q E N rx ry K
 obtain⟨xv,rx,qx⟩:=rx
 obtain⟨yv,ry,qy⟩:=ry
 cases x with
 | int i =>
  cases y with
  | int j =>
   have e1:xv=.int i:=qx
   have e2:yv=.int j:=qy
   subst e1 e2
   exact Jbc (J63 (X:=X.wish E)) N.inv rx ry ⟨i,j,rfl,rfl,fin0 N K rfl⟩
  | _=>exact Zf K
 | str i =>
  cases y with
  | str j =>
   have e1:xv=.str i:=qx
   have e2:yv=.str j:=qy
   subst e1 e2
   dsimp only[Jo] at K
   split at K
   ·rename_i hz
    exact Jbc (Jwt (X:=X.wish E)) N.inv rx ry ⟨i,j,rfl,rfl,hz,fin0 N K rfl⟩
   ·exact Zf K
  | _=>exact Zf K
 | tup xs =>
  cases y with
  | tup ys =>
   obtain⟨a,vs,e1,sa,ra⟩:=qx
   obtain⟨b,ws,e2,sb,rb⟩:=qy
   subst e1 e2
   dsimp only[Jo] at K
   split at K
   ·rename_i hz
    obtain⟨h1,h2,h3⟩:=hz
    have n1:vs≠[]:=λ z=>h1 (by have:=ra.length;rw[z] at this;exact List.eq_nil_of_length_eq_zero this.symm)
    have n2:ws≠[]:=λ z=>h2 (by have:=rb.length;rw[z] at this;exact List.eq_nil_of_length_eq_zero this.symm)
    exact Jbc (J4j (X:=X.wish E)) N.inv rx ry ⟨a,b,vs,ws,rfl,rfl,sa,sb,n1,by rw[ra.length,rb.length];exact h3,λ z=>absurd z n2,λ _ p hp=>finT N K p hp (ra.append rb)⟩
   ·exact Zf K
  | _=>exact Zf K
 | ref i =>
  cases y with
  | ref j =>
   obtain⟨a,e1,ha⟩:=qx
   obtain⟨b,e2,hb⟩:=qy
   subst e1 e2
   dsimp only[Jo] at K
   cases hi:h[i]? with
   | none=>rw[hi] at K;exact Zf K
   | some oi =>
    cases hj:h[j]? with
    | none=>rw[hi,hj] at K;cases oi<;>exact Zf K
    | some oj =>
     rw[hi,hj] at K
     cases oi with
     | lst xs =>
      cases oj with
      | lst ys =>
       dsimp only at K
       split at K
       ·rename_i hz
        obtain⟨vs,e1,r1⟩:=N.at hi ha
        obtain⟨ws,e2,r2⟩:=N.at hj hb
        exact Jbc (J64 (X:=X.wish E)) N.inv rx ry ⟨a,b,vs,ws,rfl,rfl,e1,e2,by rw[r1.length,r2.length];exact hz,λ p hp=>finA N K p hp ⟨_,Jf,RVs.new hp (r1.append r2)⟩⟩
       ·exact Zf K
      | _=>exact Zf K
     | _=>exact Zf K
  | _=>exact Zf K
 | _=>cases y<;>exact Zf K
theorem o_sub:OpI ce X (binaryOp .Sub) Jsn:=by
 intro pins s σ H ι σi h x y v u Q E N rx ry K
 obtain⟨xv,rx,qx⟩:=rx
 obtain⟨yv,ry,qy⟩:=ry
 cases x with
 | int i =>
  cases y with
  | int j =>
   have e1:xv=.int i:=qx
   have e2:yv=.int j:=qy
   subst e1 e2
   exact Jbc (J68 (X:=X.wish E)) N.inv rx ry ⟨i,j,rfl,rfl,fin0 N K rfl⟩
  | _=>exact Zf K
 | _=>cases y<;>exact Zf K
theorem Jbq.ok {i j:Int}(h:Jbq i j):IntMulOk i j:=by
 rcases h with h|h|⟨h1,h2⟩
 ·exact .of_left (intBits_le_64 (by omega) (by omega))
 ·exact .of_right (intBits_le_64 (by omega) (by omega))
 ·refine .of_bits ?_ ?_
  ·unfold Builtin.Int.intBits
   split
   ·exact Nat.zero_le _
   ·have:(2:Nat)^20=1048576:=by decide
    omega
  ·unfold Builtin.Int.intBits
   split
   ·exact Nat.zero_le _
   ·have:(2:Nat)^20=1048576:=by decide
    omega
theorem J4k:OpR X (binaryOp .Mult) (rI Jbq λ i j=>.int (i*j)):=opI λ _ _ _ _ _ _ _ hc q=>mul_int q hc.ok
theorem o_mul:OpI ce X (binaryOp .Mult) Jwr:=by
 intro pins s σ H ι σi h x y v u Q E N rx ry K
 obtain⟨xv,rx,qx⟩:=rx
 obtain⟨yv,ry,qy⟩:=ry
 cases x with
 | int i =>
  cases y with
  | int j =>
   have e1:xv=.int i:=qx
   have e2:yv=.int j:=qy
   subst e1 e2
   dsimp only[Jwr] at K
   split at K
   ·rename_i hz
    exact Jbc (J4k (X:=X.wish E)) N.inv rx ry ⟨i,j,rfl,rfl,hz,fin0 N K rfl⟩
   ·exact Zf K
  | _=>exact Zf K
 | ref i =>
  cases y with
  | int k =>
   obtain⟨a,e1,ha⟩:=qx
   have e2:yv=.int k:=qy
   subst e1 e2
   dsimp only[Jwr] at K
   cases hi:h[i]? with
   | none=>rw[hi] at K;exact Zf K
   | some oi =>
    rw[hi] at K
    cases oi with
    | lst xs =>
     dsimp only at K
     split at K
     ·rename_i hz
      obtain⟨vs,e1,r1⟩:=N.at hi ha
      have rr:∀n:Nat,RVs X.K ι H (List.replicate n xs).flatten (List.replicate n vs).flatten:=λ n=>by
       induction n with
       | zero=>exact rfl
       | succ n ih =>
        rw[List.replicate_succ,List.replicate_succ,List.flatten_cons,List.flatten_cons]
        exact r1.append ih
      exact Jbc (J67 (X:=X.wish E)) N.inv rx ry ⟨a,k,vs,rfl,rfl,e1,hz.1,hz.2.1,by rw[r1.length];exact hz.2.2,λ p hp=>finA N K p hp ⟨_,Jf,RVs.new hp (rr _)⟩⟩
     ·exact Zf K
    | _=>exact Zf K
  | _=>exact Zf K
 | _=>cases y<;>exact Zf K
theorem J1g:OpR X (binaryOp .FloorDiv) (rI (λ _ j=>0<j/\j.natAbs.log2<9000) λ i j=>.int (i/j)):=opI λ i j _ _ _ _ _ hc q=>by
 have h1:(0:Int)<j:=hc.1
 exact floordiv_int (by omega) (by rw[Int.fdiv_eq_ediv_of_nonneg i (by omega)];exact q) (.inl (PyProof.noPylong_of_log2 hc.2))
theorem J60:OpI ce X (binaryOp .FloorDiv) Jaf:=by
 intro pins s σ H ι σi h x y v u Q E N rx ry K
 obtain⟨xv,rx,qx⟩:=rx
 obtain⟨yv,ry,qy⟩:=ry
 cases x with
 | int i =>
  cases y with
  | int j =>
   have e1:xv=.int i:=qx
   have e2:yv=.int j:=qy
   subst e1 e2
   dsimp only[Jaf] at K
   split at K
   ·rename_i hz
    exact Jbc (J1g (X:=X.wish E)) N.inv rx ry ⟨i,j,rfl,rfl,hz,fin0 N K rfl⟩
   ·exact Zf K
  | _=>exact Zf K
 | _=>cases y<;>exact Zf K
theorem o_mod:OpI ce X (binaryOp .Mod) Ju:=by
 intro pins s σ H ι σi h x y v u Q E N rx ry K
 obtain⟨xv,rx,qx⟩:=rx
 obtain⟨yv,ry,qy⟩:=ry
 cases x with
 | int i =>
  cases y with
  | int j =>
   have e1:xv=.int i:=qx
   have e2:yv=.int j:=qy
   subst e1 e2
   dsimp only[Ju] at K
   split at K
   ·rename_i hz
    exact Jbc (J65 (X:=X.wish E)) N.inv rx ry ⟨i,j,rfl,rfl,hz,fin0 N K rfl⟩
   ·exact Zf K
  | _=>exact Zf K
 | _=>cases y<;>exact Zf K
theorem o_pow:OpI ce X (binaryOp .Pow) Jkq:=by
 intro pins s σ H ι σi h x y v u Q E N rx ry K
 obtain⟨xv,rx,qx⟩:=rx
 obtain⟨yv,ry,qy⟩:=ry
 cases x with
 | int i =>
  cases y with
  | int j =>
   have e1:xv=.int i:=qx
   have e2:yv=.int j:=qy
   subst e1 e2
   dsimp only[Jkq] at K
   split at K
   ·rename_i hz
    exact Jbc (J66 (X:=X.wish E)) N.inv rx ry ⟨i,j,rfl,rfl,hz,fin0 N K rfl⟩
   ·exact Zf K
  | _=>exact Zf K
 | _=>cases y<;>exact Zf K
theorem u_neg:UnI ce X (unaryOp .USub) J4i:=by
 intro pins s σ H ι σi h x v Q E N rx K
 obtain⟨xv,rx,qx⟩:=rx
 cases x with
 | int i =>
  have e1:xv=.int i:=qx
  subst e1
  exact J73 (J71 (X:=X.wish E)) N.inv rx ⟨i,rfl,fin0 N K rfl⟩
 | _=>exact Zf K
noncomputable def cLt:IV->IV->IH->Res IV
 | .int i,.int j,h=>.ok (.bl (decide (i<j))) h
 | .str x,.str y,h=>.ok (.bl (decide (x.cps.toList<y.cps.toList))) h
 | _,_,_=>.stuck
noncomputable def cLe:IV->IV->IH->Res IV
 | .int i,.int j,h=>.ok (.bl (decide (i<=j))) h
 | .str x,.str y,h=>.ok (.bl (!decide (y.cps.toList<x.cps.toList))) h
 | _,_,_=>.stuck
noncomputable def cGt:IV->IV->IH->Res IV
 | .int i,.int j,h=>.ok (.bl (decide (j<i))) h
 | _,_,_=>.stuck
noncomputable def cGe:IV->IV->IH->Res IV
 | .int i,.int j,h=>.ok (.bl (decide (j<=i))) h
 | _,_,_=>.stuck
theorem o_lt:OpI ce X (compareOp .Lt) cLt:=by
 intro pins s σ H ι σi h x y v u Q E N rx ry K
 obtain⟨xv,rx,qx⟩:=rx
 obtain⟨yv,ry,qy⟩:=ry
 cases x with
 | int i =>
  cases y with
  | int j =>
   have e1:xv=.int i:=qx
   have e2:yv=.int j:=qy
   subst e1 e2
   exact Jbc (op_lt (X:=X.wish E)) N.inv rx ry ⟨i,j,rfl,rfl,fin0 N K rfl⟩
  | _=>exact Zf K
 | str i =>
  cases y with
  | str j =>
   have e1:xv=.str i:=qx
   have e2:yv=.str j:=qy
   subst e1 e2
   exact Jbc (Jy5 (X:=X.wish E)) N.inv rx ry ⟨i,j,rfl,rfl,fin0 N K rfl⟩
  | _=>exact Zf K
 | _=>cases y<;>exact Zf K
theorem o_le:OpI ce X (compareOp .LtE) cLe:=by
 intro pins s σ H ι σi h x y v u Q E N rx ry K
 obtain⟨xv,rx,qx⟩:=rx
 obtain⟨yv,ry,qy⟩:=ry
 cases x with
 | int i =>
  cases y with
  | int j =>
   have e1:xv=.int i:=qx
   have e2:yv=.int j:=qy
   subst e1 e2
   exact Jbc (op_le (X:=X.wish E)) N.inv rx ry ⟨i,j,rfl,rfl,fin0 N K rfl⟩
  | _=>exact Zf K
 | str i =>
  cases y with
  | str j =>
   have e1:xv=.str i:=qx
   have e2:yv=.str j:=qy
   subst e1 e2
   obtain⟨t,rfl⟩:=rx
   obtain⟨t',rfl⟩:=ry
   exact PySem.P.le_str (fin0 N K rfl _ s N.inv rfl)
  | _=>exact Zf K
 | _=>cases y<;>exact Zf K
theorem o_gt:OpI ce X (compareOp .Gt) cGt:=by
 intro pins s σ H ι σi h x y v u Q E N rx ry K
 obtain⟨xv,rx,qx⟩:=rx
 obtain⟨yv,ry,qy⟩:=ry
 cases x with
 | int i =>
  cases y with
  | int j =>
   have e1:xv=.int i:=qx
   have e2:yv=.int j:=qy
   subst e1 e2
   exact Jbc (op_gt (X:=X.wish E)) N.inv rx ry ⟨i,j,rfl,rfl,fin0 N K rfl⟩
  | _=>exact Zf K
 | _=>cases y<;>exact Zf K
theorem o_ge:OpI ce X (compareOp .GtE) cGe:=by
 intro pins s σ H ι σi h x y v u Q E N rx ry K
 obtain⟨xv,rx,qx⟩:=rx
 obtain⟨yv,ry,qy⟩:=ry
 cases x with
 | int i =>
  cases y with
  | int j =>
   have e1:xv=.int i:=qx
   have e2:yv=.int j:=qy
   subst e1 e2
   exact Jbc (op_ge (X:=X.wish E)) N.inv rx ry ⟨i,j,rfl,rfl,fin0 N K rfl⟩
  | _=>exact Zf K
 | _=>cases y<;>exact Zf K
noncomputable def tru:IV->IH->Res Bool
 | .non,h=>.ok false h
 | .bl b,h=>.ok b h
 | .int i,h=>.ok (i != 0) h
 | .str x,h=>if x.length<=sizeLine then .ok ((x.length:Int) != 0) h else .stuck
 | .tup xs,h=>.ok (!xs.isEmpty) h
 | .rol xs,h=>.ok (!xs.isEmpty) h
 | .ref i,h=>match h[i]? with
  | some (.lst xs)=>.ok (!xs.isEmpty) h
  | some (.dct kvs)=>.ok (!kvs.isEmpty) h
  | _=>.stuck
theorem RVs.empty {K:W.Frag}{ι:List Addr}{H:Hp}{xs:List IV}{vs:List V}(r:RVs K ι H xs vs):vs.isEmpty=xs.isEmpty:=by
 have:=r.length
 cases xs<;>cases vs<;>simp_all
theorem RPs.empty {κ:Type}{K:W.Frag}{ι:List Addr}{H:Hp}{xs:List (κ×IV)}{vs:List (κ×V)}(r:RPs K ι H xs vs):vs.isEmpty=xs.isEmpty:=by
 have:=r.length
 cases xs<;>cases vs<;>simp_all
theorem finB {pins:List (Addr×Obj)}{s:Shared}{σ:L2.St}{H:Hp}{ι:List Addr}{σi:ISt}{h:IH}{c:Bool}{Q:Bool->Shared->Prop}{E:Value->Shared->Prop}(N:Now ce X pins ι σi h σ H s) (K:Kont ce X RB pins ι σi σ H (.ok c h) Q E) :
  ∀s',Inv X pins σ H s'->Q c s':=λ s' I=>K c s' H ι ⟨I,N.rel,N.st⟩ .refl rfl
theorem Jtl:TrI ce X tru:=by
 intro pins s σ H ι σi h x v Q E N rx K
 obtain⟨xv,rx,qx⟩:=rx
 cases x with
 | non =>
  have e1:xv=.non:=qx
  subst e1
  exact Jgy (Jl5 (X:=X.wish E)) N.inv rx ⟨_,rfl,finB N K⟩
 | bl b =>
  have e1:xv=.bl b:=qx
  subst e1
  exact Jgy (Jl5 (X:=X.wish E)) N.inv rx ⟨_,rfl,finB N K⟩
 | int i =>
  have e1:xv=.int i:=qx
  subst e1
  exact Jgy (Jl5 (X:=X.wish E)) N.inv rx ⟨_,rfl,finB N K⟩
 | str y =>
  have e1:xv=.str y:=qx
  subst e1
  dsimp only[tru] at K
  split at K
  ·rename_i hz
   exact Jgy (Jl5 (X:=X.wish E)) N.inv rx ⟨_,⟨hz,rfl⟩,finB N K⟩
  ·exact Zf K
 | tup xs =>
  obtain⟨a,vs,e1,sa,ra⟩:=qx
  subst e1
  exact Jgy (Jl5 (X:=X.wish E)) N.inv rx ⟨!xs.isEmpty,.inr (.inl ⟨vs,sa,by rw[ra.empty]⟩),finB N K⟩
 | rol xs =>
  obtain⟨a,vs,e1,sa,ra⟩:=qx
  subst e1
  exact Jgy (Jl5 (X:=X.wish E)) N.inv rx ⟨!xs.isEmpty,.inl ⟨vs,sa.sq,by rw[ra.empty]⟩,finB N K⟩
 | ref i =>
  obtain⟨a,e1,ha⟩:=qx
  subst e1
  dsimp only[tru] at K
  cases hi:h[i]? with
  | none=>rw[hi] at K;exact Zf K
  | some oi =>
   rw[hi] at K
   cases oi with
   | lst xs =>
    obtain⟨vs,e1,r1⟩:=N.at hi ha
    exact Jgy (Jl5 (X:=X.wish E)) N.inv rx ⟨!xs.isEmpty,.inl ⟨vs,SqL.of e1,by rw[r1.empty]⟩,finB N K⟩
   | dct kvs =>
    obtain⟨vs,e1,r1⟩:=N.at hi ha
    exact Jgy (Jl5 (X:=X.wish E)) N.inv rx ⟨!kvs.isEmpty,.inr (.inr ⟨vs,e1,by rw[r1.empty]⟩),finB N K⟩
   | _=>exact Zf K
noncomputable def eTup (a:A1):E1:=λ σ h=>(a σ h).bind λ xs h1=>if xs.length<=sizeLine then .ok (.tup xs) h1 else .stuck
noncomputable def eLst (a:A1):E1:=λ σ h=>(a σ h).bind λ xs h1=>if xs.length<=sizeLine then .ok (.ref h1.length) (h1++[.lst xs]) else .stuck
variable {es:List Expr}{mr:A1}{pos:Pos}
theorem i_tup {x1} (hr:PAi ce X es mr):PEi ce X (.Tuple es x1 pos) (eTup mr):=λ pins s σ H ι σi h Q E N K=>by
 refine wpAny_Tuple_spliced ((hr pos).run N K λ xs h1 us s1 H1 ι1 N1 n1 r1 K1=>?_)
 change Kont ce X RU pins ι1 σi σ H1 (if xs.length<=sizeLine then _ else _) Q E at K1
 split at K1
 ·rename_i hz
  obtain⟨vs,rv,qs⟩:=r1
  have hl:=rv.length
  have hl2:=qs.length
  have hf:H1 s1.heap.objs.size=none:=N1.inv.hok.fresh (Nat.le_refl _)
  refine⟨by rw[<- hl,hl2];exact hz,?_⟩
  exact finT N1 K1 s1.heap.objs.size hf qs _ _ (N1.inv.laid (t':=s1.toks) (λ b u e=>Heap.get?_push_of_some _ e) (Nat.le_refl _) ⟨by rw[hl2];exact hz,us,rv,⟨_,Heap.get?_push_size _ rfl,rfl,_,rfl⟩⟩) rfl
 ·exact Zf K1
theorem i_lst (hr:PAi ce X es mr):PEi ce X (.List es pos) (eLst mr):=λ pins s σ H ι σi h Q E N K=>by
 refine wpAny_List_spliced ((hr pos).run N K λ xs h1 us s1 H1 ι1 N1 n1 r1 K1=>?_)
 change Kont ce X RU pins ι1 σi σ H1 (if xs.length<=sizeLine then _ else _) Q E at K1
 split at K1
 ·rename_i hz
  obtain⟨vs,rv,qs⟩:=r1
  have hl:=rv.length
  have hl2:=qs.length
  have hf:H1 s1.heap.objs.size=none:=N1.inv.hok.fresh (Nat.le_refl _)
  refine⟨by rw[<- hl,hl2];exact hz,?_⟩
  exact finA N1 K1 s1.heap.objs.size hf ⟨_,Jf,RVs.new hf qs⟩ _ _ (N1.inv.laid (t':=s1.toks) (λ b u e=>Heap.get?_push_of_some _ e) (Nat.le_refl _) ⟨by rw[hl2];exact hz,us,0,rv,Heap.get?_push_size _ rfl⟩) rfl
 ·exact Zf K1
end
section
variable {prog:Program}{w:World}{A:Around}{E:Value->Shared->Prop}{s:Shared}
theorem Jry {it t:Addr}{items:Array Value}(hne:t≠it):∀(n i:Nat) (s:Shared) (Q:List Value->Shared->Prop),s.heap.IsListIter it t i->s.heap.IsList t items->i+n<=items.size ->
  (∀h',h'.IsListIter it t (i+n)->Heap.SameBut it s.heap h'->Q ((items.toList.drop i).take n) { s with heap:=h' })->wpAny (model prog w) A (draw (.ref it) n) Q E s
 | 0,i,s,Q,hit,_,_,hQ=>by
  show wpAny _ _ (pure []) Q E s
  exact wpAny_pure (by simpa using hQ s.heap hit (Heap.SameBut.refl ..))
 | n+1,i,s,Q,hit,ht,hle,hQ=>by
  have hlt:i<items.size:=by omega
  show wpAny _ _ (pyNext (.ref it)>>=_) Q E s
  refine wpAny_bind (wpAny_pyNext_list_item hit ht (x:=items[i]) (by simp[hlt]) λ h₁ hit₁ hs₁=>?_)
  refine wpAny_bind (wpAny_holding (Jry hne n (i+1) _ _ hit₁ (ht.extBut hs₁.extBut hne) (by omega) λ h₂ hit₂ hs₂=>wpAny_pure ?_))
  have hd:items.toList.drop i=items[i]::items.toList.drop (i+1):=by simp[List.drop_eq_getElem_cons,hlt]
  have:=hQ h₂ (by rw[show i+(n+1)=i+1+n by omega];exact hit₂) (hs₁.trans hs₂)
  rw[hd,List.take_succ_cons] at this
  exact this
theorem Jml {t:Addr}{items:Array Value}{Q:List Value->Shared->Prop}(hh:A.handled=none) (ht:s.heap.IsList t items)
  (hQ:∀h',Heap.ExtBut s.heap.objs.size s.heap h'->Q items.toList { s with heap:=h' }):wpAny (model prog w) A (unpackItems (.ref t) items.size none) Q E s:=by
 have hlt:t≠s.heap.objs.size:=by obtain⟨o,ho,_⟩:=ht;exact Nat.ne_of_lt (Heap.lt_size ho)
 unfold unpackItems
 refine wpAny_bind ?_
 ·unfold notIterableAtAll
  refine wpAny_bind (wpAny_specialOf ht.typeIs slot_list_iter.lookup ?_)
  refine wpAny_pure ?_
  simp only[Bool.false_eq_true,if_false]
  refine wpAny_bind (wpAny_holding (wpAny_pyIter_list ht ?_))
  refine wpAny_bind (wpAny_holding (Jry hlt items.size 0 _ _ ⟨_,Heap.get?_push_size _ rfl,rfl,rfl⟩ (ht.push _) (by omega) λ h₁ hit₁ hs₁=>?_))
  have hall:List.take items.size (List.drop 0 items.toList)=items.toList:=by
   rw[List.drop_zero];exact List.take_of_length_le (by simp)
  rw[hall]
  rw[if_neg (by simp)]
  have ht₁:h₁.IsList t items:=(ht.push _).extBut hs₁.extBut hlt
  refine wpAny_bind (wpAny_holding (wpAny_pyNext_list_end hh hit₁ ht₁ (by simp) λ h₂ he₂=>?_))
  simp only[Option.isSome_none,Bool.false_eq_true,if_false]
  refine wpAny_pure (hQ h₂ λ b o hb e=>he₂ b o hb (hs₁.extBut b o hb (Heap.get?_push_of_some _ e)))
theorem Jkz {env:Env}{elts:List Expr}{x1} {pos:Pos}{t:Addr}{items:Array Value}{Q:Unit->Shared->Prop}(hh:A.handled=none) (ht:s.heap.IsList t items)
  (hn:(assignEach elts env).length=items.size) (hstar:(assignEach elts env).findIdx? (·.1)=none)
  (h:∀h',Heap.ExtBut s.heap.objs.size s.heap h'->wpAny (model prog w) A (assignInOrder ((assignEach elts env).map (·.2)) items.toList) Q E { s with heap:=h' }) :
  wpAny (model prog w) A (assign (.Tuple elts x1 pos) env (.ref t)) Q E s:=by
 rw[assign_Tuple]
 refine wpAny_bind (wpAny_standAt ?_)
 unfold unpack
 rw[hn,hstar]
 exact wpAny_bind (wpAny_holding (Jml hh ht h))
end
noncomputable abbrev S1:=ISt->IH->SRes
structure Noted (L:Addr) (fs:List Addr) (e:Addr) (h h3:Heap):Prop where
 ex:∃oe vs T ts,h.get? e=some oe/\oe.data=.fields vs/\1<vs.size/\h3.get? e=some (Obj.mapFields (·.setIfInBounds 1 (.ref T)) oe)/\T≠e/\h.get? T=none/\h3.get? T=some { cls:=.type "traceback",dict:=none,data:=.fields ts }/\ts[3]?=some (rawInt L)
 slot:∀b o,h.get? b=some o->b≠e->∃sl,h3.get? b=some { o with slots:=sl }
 keep:∀b o,h.get? b=some o->b≠e->b∉fs->h3.get? b=some o
noncomputable def Fly (L:Addr) (fs:List Addr) (e:Addr) (s s1:Shared):Prop:=s1=s∨∃h',s1={ s with heap:=h' }/\Noted L fs e s.heap h'
noncomputable def Jft (ce:Str->Option Addr) (X:Cx) (pins:List (Addr×Obj)) (ι:List Addr) (H:Hp) (r:SRes) (Q:Flow->Shared->Prop) (E:Value->Shared->Prop):Prop :=
 match r with
 | .next σi' h'=>∀s' σ' H' ι',Now ce X pins ι' σi' h' σ' H' s'->Nxt ι H ι' H'->Q .next s'
 | .brk σi' h'=>∀s' σ' H' ι',Now ce X pins ι' σi' h' σ' H' s'->Nxt ι H ι' H'->Q .brk s'
 | .cont σi' h'=>∀s' σ' H' ι',Now ce X pins ι' σi' h' σ' H' s'->Nxt ι H ι' H'->Q .cont s'
 | .ret v h'=>∀u s' σi' σ' H' ι',Now ce X pins ι' σi' h' σ' H' s'->Nxt ι H ι' H'->RU X.K ι' H' v u->Q (.ret u) s'
 | .exc n σi' h'=>∀pl a s' σ' H' ι',Now ce X (pins++pl) ι' σi' h' σ' H' s'->Nxt ι H ι' H'->ι'[n]?=some a->∀s1,Fly X.env.locals (frs X.stack) a s' s1->E (.ref a) s1
 | .stuck=>False
theorem Jft.mono {ce:Str->Option Addr}{X:Cx}{pins:List (Addr×Obj)}{ι ι':List Addr}{H H':Hp}{r:SRes}{Q:Flow->Shared->Prop}{E:Value->Shared->Prop}(k:Jft ce X pins ι H r Q E) (n:Nxt ι H ι' H'):Jft ce X pins ι' H' r Q E:=by
 cases r with
 | next σ h=>exact λ s' σ' H2 ι2 N n2=>k s' σ' H2 ι2 N (n.trans n2)
 | brk σ h=>exact λ s' σ' H2 ι2 N n2=>k s' σ' H2 ι2 N (n.trans n2)
 | cont σ h=>exact λ s' σ' H2 ι2 N n2=>k s' σ' H2 ι2 N (n.trans n2)
 | ret v h=>exact λ u s' σi' σ' H2 ι2 N n2=>k u s' σi' σ' H2 ι2 N (n.trans n2)
 | exc m σ h=>exact λ pl a s' σ' H2 ι2 N n2=>k pl a s' σ' H2 ι2 N (n.trans n2)
 | stuck=>exact k
noncomputable def PSi (ce:Str->Option Addr) (X:Cx) (t:Sem Flow) (m:S1):Prop :=
 ∀(pins:List (Addr×Obj)) (s:Shared) (σ:L2.St) (H:Hp) (ι:List Addr) (σi:ISt) (h:IH) (Q:Flow->Shared->Prop) (E:Value->Shared->Prop),Now ce X pins ι σi h σ H s->Jft ce X pins ι H (m σi h) Q E->wpAny (model X.prog X.w) X.A t Q E s
noncomputable abbrev PS1 (ce:Str->Option Addr) (X:Cx) (st:Stmt) (m:S1):Prop:=PSi ce X (exec st X.env) m
noncomputable abbrev PS2 (ce:Str->Option Addr) (X:Cx) (sts:List Stmt) (m:S1):Prop:=PSi ce X (execs sts X.env) m
noncomputable def sNil:S1:=λ σ h=>.next σ h
noncomputable def sSeq (a b:S1):S1:=λ σ h=>match a σ h with
 | .next σ' h'=>b σ' h'
 | r=>r
noncomputable def J4u:S1:=λ σ h=>.next σ h
noncomputable def J2n:S1:=λ σ h=>.brk σ h
noncomputable def J7m:S1:=λ σ h=>.cont σ h
noncomputable def rS {α:Type}(σ:ISt) (r:Res α) (k:α->IH->SRes):SRes:=match r with
 | .ok a h=>k a h
 | .exc n h=>.exc n σ h
 | .stuck=>.stuck
noncomputable def Jgv (e:E1):S1:=λ σ h=>rS σ (e σ h) λ _ h'=>.next σ h'
noncomputable def sRet (e:E1):S1:=λ σ h=>rS σ (e σ h) λ v h'=>.ret v h'
noncomputable def J4v:S1:=λ _ h=>.ret .non h
noncomputable def sIf (t:T1) (a b:S1):S1:=λ σ h=>rS σ (t σ h) λ c h'=>if c then a σ h' else b σ h'
noncomputable def sSet (i:Nat) (e:E1):S1:=λ σ h=>rS σ (e σ h) λ v h'=>.next (σ.set i (some v)) h'
section
variable {ce:Str->Option Addr}{X:Cx}{st:Stmt}{rest:List Stmt}{m m1 m2:S1}{e:Expr}{me:E1}{pos:Pos}
theorem krun {α β:Type}{R:REL α β}{t:Sem β}{mm:ISt->IH->Res α}(p:PX ce X R t mm){pins:List (Addr×Obj)}{s:Shared}{σ:L2.St}{H:Hp}{ι:List Addr}{σi:ISt}{h:IH}(N:Now ce X pins ι σi h σ H s){g:α->IH->SRes}{Q:Flow->Shared->Prop}{E:Value->Shared->Prop}{Q1:β->Shared->Prop}
  (K:Jft ce X pins ι H (rS σi (mm σi h) g) Q E)
  (step:∀x h1 u s1 H1 ι1,Now ce X pins ι1 σi h1 σ H1 s1->Nxt ι H ι1 H1->R X.K ι1 H1 x u->Jft ce X pins ι1 H1 (g x h1) Q E->Q1 u s1):wpAny (model X.prog X.w) X.A t Q1 E s:=by
 refine p pins s σ H ι σi h Q1 E N ?_
 cases e:mm σi h with
 | ok v h' =>
  rw[e] at K
  exact λ u s' H' ι' N' n' r=>step v h' u s' H' ι' N' n' r (Jft.mono (r:=g v h') K n')
 | exc n h' =>
  rw[e] at K
  exact λ pl a s' H' ι' N' n' q=>K pl a s' σ H' ι' N' n' q s' (.inl rfl)
 | stuck =>
  rw[e] at K
  exact K
theorem J7k:PS2 ce X [] sNil:=λ _ s σ H ι _ _ _ _ N K=>wpAny_execs_nil (K s σ H ι N .refl)
theorem J4s (h1:PS1 ce X st m1) (h2:PS2 ce X rest m2):PS2 ce X (st::rest) (sSeq m1 m2):=by
 intro pins s σ H ι σi h Q E N K
 refine wpAny_execs_cons (h1 pins s σ H ι σi h _ E N ?_)
 unfold sSeq at K
 cases e:m1 σi h with
 | next σ' h' =>
  rw[e] at K
  exact λ s' σ2 H' ι' N' n'=>h2 pins s' σ2 H' ι' σ' h' Q E N' (Jft.mono (r:=m2 σ' h') K n')
 | brk σ' h'=>rw[e] at K;exact K
 | cont σ' h'=>rw[e] at K;exact K
 | ret v h'=>rw[e] at K;exact K
 | exc n σ' h'=>rw[e] at K;exact K
 | stuck=>rw[e] at K;exact K
theorem J7l (h1:PS1 ce X st m1):PS2 ce X [st] m1:=by
 intro pins s σ H ι σi h Q E N K
 refine wpAny_execs_cons (h1 pins s σ H ι σi h _ E N ?_)
 cases e:m1 σi h with
 | next σ' h' =>
  rw[e] at K
  exact λ s' σ2 H' ι' N' n'=>wpAny_execs_nil (K s' σ2 H' ι' N' n')
 | brk σ' h'=>rw[e] at K;exact K
 | cont σ' h'=>rw[e] at K;exact K
 | ret v h'=>rw[e] at K;exact K
 | exc n σ' h'=>rw[e] at K;exact K
 | stuck=>rw[e] at K;exact K
theorem J7p:PS1 ce X (.Pass pos) J4u:=λ _ s σ H ι _ _ _ _ N K=>wpAny_Pass (K s σ H ι N .refl)
theorem J4w:PS1 ce X (.Break pos) J2n:=λ _ s σ H ι _ _ _ _ N K=>wpAny_Break (K s σ H ι N .refl)
theorem J7n:PS1 ce X (.Continue pos) J7m:=λ _ s σ H ι _ _ _ _ N K=>wpAny_Continue (K s σ H ι N .refl)
theorem J7o (he:PEi ce X e me) (hs:swapsWith e none pos.line X.env=pure false:=by rfl):PS1 ce X (.Expr e pos) (Jgv me):=λ pins s σ H ι σi h Q E N K =>
 wpAny_Expr_any (krun he N K λ x h1 u s1 H1 ι1 N1 n1 r1 K1=>K1 s1 σ H1 ι1 N1 .refl) N.inv.quiet hs
theorem s_ret (he:PEi ce X e me):PS1 ce X (.Return (some e) pos) (sRet me):=λ pins s σ H ι σi h Q E N K =>
 wpAny_Return_some (krun he N K λ x h1 u s1 H1 ι1 N1 n1 r1 K1=>K1 u s1 σi σ H1 ι1 N1 .refl r1)
theorem J7q:PS1 ce X (.Return none pos) J4v:=λ pins s σ H ι σi h Q E N K=>wpAny_Return_none (K .none s σi σ H ι N .refl ⟨.non,rfl,rfl⟩)
theorem s_if {c:Expr}{a b:List Stmt}{mt:T1}(hc:PTi ce X c mt) (ha:PS2 ce X a m1) (hb:PS2 ce X b m2):PS1 ce X (.If c a b pos) (sIf mt m1 m2):=λ pins s σ H ι σi h Q E N K =>
 wpAny_If (krun hc N K λ x h1 u s1 H1 ι1 N1 n1 r1 K1=>by
  have r':u=x:=r1
  subst r'
  cases u with
  | true=>exact ha pins s1 σ H1 ι1 σi h1 Q E N1 K1
  | false=>exact hb pins s1 σ H1 ι1 σi h1 Q E N1 K1)
theorem J7r {i:Nat}{x:Str}{pos':Pos}(hN:X.N.Nodup) (he:PEi ce X e me) (hi:X.N[i]?=some x:=by rfl) (hx:Loc X.env.scope x:=by assumption) (hs:swapsWith e (some (.Name x pos')) pos.line X.env=pure false:=by rfl)
  (hf:X.fn x=true∨X.env.scope.names.lookup x=some .local:=by assumption):PS1 ce X (.Assign [.Name x pos'] e pos) (sSet i me):=λ pins s σ H ι σi h Q E N K =>
 wpAny_Assign_Name (krun he N K λ v h1 u s1 H1 ι1 N1 n1 r1 K1=>by
  obtain⟨w,rw',q⟩:=r1
  exact Jq6 N1.inv hN hi hx rw' (λ s2 I2=>K1 s2 _ H1 ι1 ⟨I2,N1.rel,N1.st.set i q⟩ .refl) hf) hs
noncomputable abbrev G1:=IV->ISt->IH->SRes
noncomputable def PGi (ce:Str->Option Addr) (X:Cx) (tg:Expr) (g:G1):Prop :=
 ∀(pins:List (Addr×Obj)) (s:Shared) (σ:L2.St) (H:Hp) (ι:List Addr) (σi:ISt) (h:IH) (v:IV) (u:Value) (Q:Flow->Shared->Prop) (E:Value->Shared->Prop),Now ce X pins ι σi h σ H s->RU X.K ι H v u->Jft ce X pins ι H (g v σi h) Q E ->
  wpAny (model X.prog X.w) X.A (assign tg X.env u) (λ _ s'=>Q .next s') E s
noncomputable def gNm (i:Nat):G1:=λ v σ h=>.next (σ.set i (some v)) h
theorem g_nm {i:Nat}{x:Str}(hN:X.N.Nodup) (hi:X.N[i]?=some x:=by rfl) (hx:Loc X.env.scope x:=by assumption) (hf:X.fn x=true∨X.env.scope.names.lookup x=some .local:=by assumption):PGi ce X (.Name x pos) (gNm i):=by
 intro pins s σ H ι σi h v u Q E N r K
 obtain⟨w,rw',q⟩:=r
 exact wpAny_assign_Name (Jq6 N.inv hN hi hx rw' (λ s2 I2=>K s2 _ H ι ⟨I2,N.rel,N.st.set i q⟩ .refl) hf)
noncomputable def PGsi (ce:Str->Option Addr) (X:Cx) (ts:List Expr) (g:List IV->ISt->IH->SRes):Prop :=
 ∀(pins:List (Addr×Obj)) (s:Shared) (σ:L2.St) (H:Hp) (ι:List Addr) (σi:ISt) (h:IH) (vs:List IV) (us:List Value) (Q:Flow->Shared->Prop) (E:Value->Shared->Prop),Now ce X pins ι σi h σ H s->RUs X.K ι H vs us->Jft ce X pins ι H (g vs σi h) Q E ->
  wpAny (model X.prog X.w) X.A (assignInOrder ((assignEach ts X.env).map (·.2)) us) (λ _ s'=>Q .next s') E s
noncomputable def gN:List IV->ISt->IH->SRes
 | [],σ,h=>.next σ h
 | _::_,_,_=>.stuck
noncomputable def gC (g:G1) (r:List IV->ISt->IH->SRes):List IV->ISt->IH->SRes
 | v::vs,σ,h=>match g v σ h with
  | .next σ' h'=>r vs σ' h'
  | .exc n σ' h'=>.exc n σ' h'
  | _=>.stuck
 | [],_,_=>.stuck
theorem J54:PGsi ce X [] gN:=by
 intro pins s σ H ι σi h vs us Q E N r K
 cases vs with
 | nil =>
  obtain⟨xs,rv,q⟩:=r
  have e1:xs=[]:=q
  subst e1
  cases rv
  exact assignInOrder_nil (K s σ H ι N .refl)
 | cons v vs=>exact Zf K
theorem J3p {tg:Expr}{ts:List Expr}{g:G1}{r:List IV->ISt->IH->SRes}(h1:PGi ce X tg g) (h2:PGsi ce X ts r)
  (hs:(assignEach (tg::ts) X.env).map (·.2)=assign tg X.env::(assignEach ts X.env).map (·.2):=by rfl):PGsi ce X (tg::ts) (gC g r):=by
 intro pins s σ H ι σi h vs us Q E N ru K
 cases vs with
 | nil=>exact Zf K
 | cons v vs =>
  obtain⟨xs,rv,x,xr,e1,q,qs⟩:=ru
  subst e1
  cases rv with
  | cons r1 r2 =>
   rw[hs]
   refine assignInOrder_cons (h1 pins s σ H ι σi h v _ (λ f s'=>wpAny (model X.prog X.w) X.A (assignInOrder ((assignEach ts X.env).map (·.2)) _) (λ _ s'=>Q .next s') E s') E N ⟨x,r1,q⟩ ?_)
   have K':Jft ce X pins ι H (match g v σi h with|.next σ' h'=>r vs σ' h'|.exc n σ' h'=>.exc n σ' h'|_=>.stuck) Q E:=K
   cases e:g v σi h with
   | next σ' h' =>
    rw[e] at K'
    exact λ s' σ2 H' ι' N' n'=>h2 pins s' σ2 H' ι' σ' h' vs _ Q E N' ⟨xr,r2,RVs.mono n' _ _ qs⟩ (Jft.mono (r:=r vs σ' h') K' n')
   | exc n σ' h'=>rw[e] at K';exact K'
   | _=>rw[e] at K';exact(show False from K').elim
noncomputable def gTp (n:Nat) (g:List IV->ISt->IH->SRes):G1:=λ v σ h=>match v with
 | .tup xs=>if xs.length=n then g xs σ h else .stuck
 | .ref i=>(match h[i]? with
  | some (.lst xs)=>if xs.length=n then g xs σ h else .stuck
  | _=>.stuck)
 | _=>.stuck
theorem g_tup {es:List Expr}{k n:Nat}{g:List IV->ISt->IH->SRes}(hc:X.calm=true) (hg:PGsi ce X es g) (hn:(assignEach es X.env).length=n:=by rfl) (hst:(assignEach es X.env).findIdx? (·.1)=none:=by rfl):PGi ce X (.Tuple es k pos) (gTp n g):=by
 intro pins s σ H ι σi h v u Q E N r K
 obtain⟨w,rw',q⟩:=r
 cases v with
 | tup xs =>
  obtain⟨a,vs,e1,sa,ra⟩:=q
  subst e1
  cases rw'
  unfold gTp at K
  dsimp only at K
  split at K
  ·rename_i hl
   obtain⟨its,rv,ht,hz⟩:=N.inv.tuple sa
   have l1:=ra.length
   have l2:=rv.length
   refine assign_Tuple_tuple (N.inv.ok.hd hc) ht (by simp only[List.size_toArray];omega) hst λ h' hx=>?_
   have I1:Inv X pins σ H { s with heap:=h' }:=N.inv.kept (t':=s.toks) λ b o e=>hx b o (Nat.ne_of_lt (Heap.lt_size e)) e
   exact hg pins _ σ H ι σi h xs _ Q E ⟨I1,N.rel,N.st⟩ ⟨vs,by simpa using rv,ra⟩ K
  ·exact Zf K
 | ref i =>
  obtain⟨a,e1,ha⟩:=q
  subst e1
  cases rw'
  unfold gTp at K
  dsimp only at K
  cases hi:h[i]? with
  | none=>rw[hi] at K;exact Zf K
  | some ob =>
   rw[hi] at K
   cases ob with
   | lst xs =>
    dsimp only at K
    split at K
    ·rename_i hl
     obtain⟨vs,g1,ra⟩:=N.at hi ha
     obtain⟨its,rv,ht,hz⟩:=N.inv.list (SqL.of g1)
     have l1:=ra.length
     have l2:=rv.length
     refine Jkz (N.inv.ok.hd hc) ht.isList (by simp only[List.size_toArray];omega) hst λ h' hx=>?_
     have I1:Inv X pins σ H { s with heap:=h' }:=N.inv.kept (t':=s.toks) λ b o e=>hx b o (Nat.ne_of_lt (Heap.lt_size e)) e
     exact hg pins _ σ H ι σi h xs _ Q E ⟨I1,N.rel,N.st⟩ ⟨vs,by simpa using rv,ra⟩ K
    ·exact Zf K
   | _=>exact Zf K
 | _=>exact Zf K
noncomputable def sAsg (e:E1) (g:G1):S1:=λ σ h=>rS σ (e σ h) λ v h'=>g v σ h'
theorem s_asg {tg:Expr}{g:G1}(he:PEi ce X e me) (hg:PGi ce X tg g) (hs:swapsWithSole [tg] e pos.line X.env=pure false:=by rfl) (hw:swappedStores [tg] e X.env=pure none:=by rfl)
  (h1:(assignEach [tg] X.env).map (·.2)=[assign tg X.env]:=by rfl):PS1 ce X (.Assign [tg] e pos) (sAsg me g):=λ pins s σ H ι σi h Q E N K =>
 wpAny_Assign_stores (krun he N K λ v h2 u s1 H1 ι1 N1 n1 r1 K1=>by
  rw[h1]
  exact hg pins s1 σ H1 ι1 σi h2 v u Q E N1 r1 K1) hs hw
end
theorem ExF.ok {P:Program}{w:World}{H:Hp}{h:Heap}{a C:Addr}{tv:Value}{dd:Option Addr}{oe:Obj}{vs:Array Value}(e:h.get? a=some oe) (c:oe.cls=.ref C) (d:oe.data=.fields vs) (v:vs[1]?=some tv) (v2:vs[2]?=some .none) (v3:oe.dict=dd):Jcg P w H h a (ExF a C tv dd) :=
 ⟨⟨oe,vs,e,c,d,v,v2,v3⟩,⟨oe,e⟩,λ _ _ ⟨o,us,e1,r⟩ k=>⟨o,us,k _ e1,r⟩⟩
theorem ExF.get {P:Program}{w:World}{H:Hp}{h:Heap}{a C:Addr}{tv:Value}{d:Option Addr}(x:HOk P w H h) (e:H a=some (ExF a C tv d)):∃oe vs,h.get? a=some oe/\oe.cls=.ref C/\oe.data=.fields vs/\vs[1]?=some tv/\vs[2]?=some .none/\oe.dict=d :=
 (x a _ e).1
theorem Jx6 (o:Obj) (f:Array Value->Array Value):(o.mapFields f).dict=o.dict:=by
 unfold Obj.mapFields
 split<;>rfl
theorem J62 {P:Program}{w:World}{H:Hp}{h:Heap}{a:Addr}:∀{o:HO},Jcg P w H h a o->∃u,h.get? a=some u
 | .lst _,⟨_,_,_,_,e⟩=>⟨_,e⟩
 | .tup _,⟨_,_,_,⟨_,e,_⟩⟩=>⟨_,e⟩
 | .dK _,⟨_,_,_,_,o,_,_,e,_⟩=>⟨o,e⟩
 | .dT _,⟨_,_,_,_,o,_,_,e,_⟩=>⟨o,e⟩
 | .set _ _,⟨o,_,_,_,e,_⟩=>⟨o,e⟩
 | .ins _ _ _,⟨_,_,_,e,_⟩=>⟨_,e⟩
 | .own _,⟨_,e⟩=>⟨_,e⟩
 | .xd _,⟨_,⟨_,_,_,e,_⟩,_⟩=>⟨_,e⟩
 | .rng _ _,⟨_,_,_,e⟩=>⟨_,e⟩
 | .frz _ _,⟨e,_⟩=>⟨_,e⟩
 | .tbl _,e=>⟨_,(show h.get? a=some _ from e)⟩
 | .met _ _,e=>⟨_,(show h.get? a=some _ from e)⟩
 | .ext _,⟨_,⟨_,e⟩,_⟩=>⟨_,e⟩
theorem Jzo {h:Heap}{T:Addr}{oT:Obj}{ts:Array Value}{v:Value}(e:h.get? T=some oT) (d:oT.data=.fields ts) (q:ts[3]?=some v):(h.update T (Obj.mapFields (·.setIfInBounds 3 v))).get? T=some oT:=by
 have es:ts.setIfInBounds 3 v=ts:=by
  refine Array.ext (by simp) λ i h1 h2=>?_
  rw[Array.getElem_setIfInBounds]
  split
  ·rename_i z
   subst z
   rw[Array.getElem?_eq_getElem h2] at q
   exact(Option.some.inj q).symm
  ·rfl
 have eo:Obj.mapFields (·.setIfInBounds 3 v) oT=oT:=by
  obtain⟨c,dd,dt,sl⟩:=oT
  have d:dt=.fields ts:=d
  subst d
  simp only[Obj.mapFields,es]
 rw[Heap.get?_update_self _ e (by rw[eo];exact Obj.isFreed_of_fields d),eo]
section
variable {X:Cx}{pins:List (Addr×Obj)}{σ:L2.St}{H:Hp}{s:Shared}{M:Model}{E:Value->Shared->Prop}{Q:Unit->Shared->Prop}{a C:Addr}{tv:Value}{d:Option Addr}{h3:Heap}{s1:Shared}
structure Past (X:Cx) (H:Hp) (h:Heap) (a C:Addr) (d:Option Addr) (T:Addr) (oT:Obj) (h':Heap):Prop where
 new:H T=none
 ne:T≠a
 fld:∃ts,oT.data=.fields ts/\ts[3]?=some .none
 un:Un (frs X.stack) [] H (upd (upd H T (.frz oT (.own 0))) a (ExF a C (.ref T) d)) h h'
 hok:HOk X.prog X.w (upd (upd H T (.frz oT (.own 0))) a (ExF a C (.ref T) d)) h'
theorem Jvg (I:Inv X pins σ H s) (hs:X.stack=X.env::X.outer) (hf:X.env.frame=some X.env.locals) (ha:H a=some (ExF a C tv d)) (ht:TvOk H tv)
  (k:∀h3,Noted X.env.locals (frs X.stack) a s.heap h3->Q () { s with heap:=h3 }):wpAny M X.A (noteFrame (.ref a) X.env) Q E s:=by
 obtain⟨oe,vs,e1,e2,e3,e4,e5,e6⟩:=ExF.get I.hok ha
 have hfa:a∉frs X.stack:=λ z=>by rw[I.stkFree a z] at ha;cases ha
 have fr:=I.ok.frames
 have ff:s.heap.FunFrames X.base X.stack:=I.stack
 have len1:1<vs.size:=(Array.getElem?_eq_some_iff.mp e4).1
 have go:∀(h:Heap){head:Value}{hn:Bool},(∀b,h.get? b=s.heap.get? b)->wpAny M X.A (do let f<-frameOf X.env;let pl<-entryPlaceOf X.env.locals hn;let b<-EntryCells.newEntry head f .none (rawInt X.env.locals) .none pl;setField (.ref a) 1 b) Q E { s with heap:=h }:=by
  intro h head hn hh
  have ffh:h.FunFrames X.base X.stack:=ff.of_keeps λ b o q _=>⟨o,(hh b).trans q,rfl⟩
  rw[hs] at fr ffh
  refine wpAny_bind (wpAny_frameOf_fun (s:={ s with heap:=h }) fr ffh hf λ h1 so=>?_)
  have he1:h1.get? a=some oe:=(so.2.1 a (by rw[hs] at hfa;exact hfa)).trans ((hh a).trans e1)
  refine wpAny_bind (wpAny_entryPlaceOf λ pl hpl=>?_)
  unfold EntryCells.newEntry newFields
  refine wpAny_bind (wpAny_newObj_type ?_ (hpl.sizeOk5 _ _ _ _ _))
  have t3:([head,Value.ref X.env.locals,Value.none,rawInt X.env.locals,Value.none]++(if pl.isEmpty then List.replicate 6 Value.none else pl)).toArray[3]?=some (rawInt X.env.locals):=by simp
  generalize ([head,Value.ref X.env.locals,Value.none,rawInt X.env.locals,Value.none]++(if pl.isEmpty then List.replicate 6 Value.none else pl)).toArray=ts at t3 ⊢
  have lt2:∀b o,h1.get? b=some o->b≠h1.objs.size:=λ b o q=>Nat.ne_of_lt (Heap.lt_size q)
  have nT:h1.objs.size≠a:=Ne.symm (lt2 a _ he1)
  have up2:∀b o,h1.get? b=some o->(h1.push { cls:=.type "traceback",dict:=none,data:=.fields ts }).get? b=some o:=λ b o q=>Heap.get?_push_of_some _ q
  have gT2:(h1.push { cls:=.type "traceback",dict:=none,data:=.fields ts }).get? h1.objs.size=some { cls:=.type "traceback",dict:=none,data:=.fields ts }:=Heap.get?_push_size h1 rfl
  refine wpAny_setField (up2 _ _ he1) e3 len1 (k _ ⟨⟨oe,vs,h1.objs.size,ts,e1,e3,len1,Heap.get?_update_self _ (up2 _ _ he1) (Obj.isFreed_of_fields (Obj.data_mapFields e3 _)),nT,?_,(Heap.get?_update_other _ _ (Ne.symm nT)).trans gT2,t3⟩,λ b o q n=>?_,λ b o q n m=>?_⟩)
  ·cases q:s.heap.get? h1.objs.size with
   | none=>rfl
   | some o =>
    obtain⟨sl,z⟩:=so.2.2 _ _ ((hh _).trans q)
    exact absurd rfl (lt2 _ _ z)
  ·obtain⟨sl,z⟩:=so.2.2 _ _ ((hh b).trans q)
   exact⟨sl,(Heap.get?_update_other _ _ (Ne.symm n)).trans (up2 _ _ z)⟩
  ·exact(Heap.get?_update_other _ _ (Ne.symm n)).trans (up2 _ _ ((so.2.1 b (by rw[hs] at m;exact m)).trans ((hh b).trans q)))
 unfold noteFrame
 rw[hf]
 refine wpAny_bind (wpAny_field e1 e3 e4 ?_)
 rcases ht with rfl|⟨T,oT,ts,rfl,q1,q2,q3⟩
 ·rw[if_neg (by decide)]
  exact go s.heap λ _=>rfl
 ·have gT:s.heap.get? T=some oT:=(I.hok T _ q1).1
  rw[if_pos (by simp)]
  refine wpAny_bind (wpAny_field gT q2 q3 ?_)
  rw[if_neg (by simp[rawInt])]
  refine wpAny_bind (wpAny_setField gT q2 (Array.getElem?_eq_some_iff.mp q3).1 ?_)
  refine go _ λ b=>?_
  by_cases z:b=T
  ·subst z
   exact(Jzo gT q2 q3).trans gT.symm
  ·exact Heap.get?_update_other _ _ (Ne.symm z)
theorem Jnz {A:Around}{env:Env}{fs:List Addr}{h:Heap}(hf:env.frame=some env.locals) (n:Noted env.locals fs a h h3) (q:Q () { s with heap:=h3 }):wpAny M A (noteFrame (.ref a) env) Q E { s with heap:=h3 }:=by
 obtain⟨⟨oe,vs,T,ts,g1,g2,g3,g4,g5,g6,g7,g8⟩,_,_⟩:=n
 unfold noteFrame
 rw[hf]
 refine wpAny_bind (wpAny_field (x:=.ref T) g4 (Obj.data_mapFields g2 _) (by simp[g3]) ?_)
 rw[if_pos (by simp)]
 refine wpAny_bind (wpAny_field g7 rfl g8 ?_)
 rw[if_pos (by simp)]
 exact wpAny_pure q
theorem Jwq {A:Around}{env:Env}{fs:List Addr}{h:Heap}(hf:env.frame=some env.locals) (n:Noted env.locals fs a h h3) (k:∀h4,Noted env.locals fs a h h4->E (.ref a) { s with heap:=h4 }):cameBackBy M A env E (.ref a) { s with heap:=h3 }:=by
 obtain⟨⟨oe,vs,T,ts,g1,g2,g3,g4,g5,g6,g7,g8⟩,sl,kp⟩:=n
 unfold cameBackBy
 refine wpAny_bind (wpAny_field (x:=.ref T) g4 (Obj.data_mapFields g2 _) (by simp[g3]) ?_)
 rw[if_neg (by simp)]
 rw[hf]
 unfold setFlight
 refine wpAny_bind (wpAny_field (x:=.ref T) g4 (Obj.data_mapFields g2 _) (by simp[g3]) ?_)
 rw[if_pos (by simp)]
 refine wpAny_setField g7 rfl (Array.getElem?_eq_some_iff.mp g8).1 ?_
 have up:∀b o,h3.get? b=some o->(h3.update T (Obj.mapFields (·.setIfInBounds 3 (rawInt env.locals)))).get? b=some o:=λ b o q=>by
  by_cases z:b=T
  ·subst z
   rw[g7] at q
   cases q
   exact Jzo g7 rfl g8
  ·exact(Heap.get?_update_other _ _ (Ne.symm z)).trans q
 exact k _ ⟨⟨oe,vs,T,ts,g1,g2,g3,up _ _ g4,g5,g6,up _ _ g7,g8⟩,λ b o q n=>let ⟨s',z⟩:=sl b o q n;⟨s',up _ _ z⟩,λ b o q n m=>up _ _ (kp b o q n m)⟩
theorem Jpz {L:Addr}(I:Inv X pins σ H s) (ha:H a=some (ExF a C tv d)) (n:Noted L (frs X.stack) a s.heap h3) (k:∀T oT h',Past X H s.heap a C d T oT h'->Q () { s with heap:=h' }):wpAny M X.A (setFlight (.ref a) none) Q E { s with heap:=h3 }:=by
 obtain⟨⟨oe,vs,T,ts,g1,g2,g3,g4,g5,nT,g7,g8⟩,sl,kp⟩:=n
 obtain⟨oe',vs',x1,x2,x3,x4,x5,x6⟩:=ExF.get I.hok ha
 rw[g1] at x1
 cases x1
 rw[g2] at x3
 cases x3
 have hok:=I.hok
 have hfr:∀b∈frs X.stack,H b=none:=I.stkFree
 have hT:H T=none:=by
  cases q:H T with
  | none=>rfl
  | some u =>
   obtain⟨o,z⟩:=J62 (hok T u q)
   rw[nT] at z
   cases z
 have tz:3<ts.size:=(Array.getElem?_eq_some_iff.mp g8).1
 unfold setFlight
 refine wpAny_bind (wpAny_field (x:=.ref T) g4 (Obj.data_mapFields g2 _) (by simp[g3]) ?_)
 rw[if_pos (by simp)]
 refine wpAny_setField g7 rfl tz ?_
 have e1:=(Heap.get?_update_other h3 (Obj.mapFields (·.setIfInBounds 3 ((none:Option Addr).elim Value.none λ f=>rawInt f))) g5).trans g4
 have e7:=Heap.get?_update_self (Obj.mapFields (·.setIfInBounds 3 ((none:Option Addr).elim Value.none λ f=>rawInt f))) g7 (Obj.isFreed_of_fields (Obj.data_mapFields rfl _))
 have d7:=Obj.data_mapFields (o:={ cls:=.type "traceback",dict:=none,data:=.fields ts }) rfl (·.setIfInBounds 3 ((none:Option Addr).elim Value.none λ f=>rawInt f))
 have lt:∀b o,s.heap.get? b=some o->T≠b:=λ b o q z=>by rw[z,q] at nT;cases nT
 have keep:∀b o,s.heap.get? b=some o->b≠a->b∉frs X.stack->(h3.update T (Obj.mapFields (·.setIfInBounds 3 ((none:Option Addr).elim Value.none λ f=>rawInt f)))).get? b=some o:=λ b o q n1 n2=>(Heap.get?_update_other _ _ (lt b o q)).trans (kp b o q n1 n2)
 have slot:∀b o,s.heap.get? b=some o->b≠a->∃sl,(h3.update T (Obj.mapFields (·.setIfInBounds 3 ((none:Option Addr).elim Value.none λ f=>rawInt f)))).get? b=some { o with slots:=sl }:=λ b o q n1=>let ⟨s',z⟩:=sl b o q n1;⟨s',(Heap.get?_update_other _ _ (lt b o q)).trans z⟩
 generalize h3.update T (Obj.mapFields (·.setIfInBounds 3 ((none:Option Addr).elim Value.none λ f=>rawInt f)))=h' at e1 e7 keep slot
 generalize Obj.mapFields (·.setIfInBounds 3 ((none:Option Addr).elim Value.none λ f=>rawInt f)) { cls:=.type "traceback",dict:=none,data:=.fields ts }=oT at e7 d7
 have na:∀{b:Addr}{u:HO},H b=some u->(∀φ,u≠.ext φ)->b≠a:=λ {b u} q n z=>by
  subst z
  rw[ha] at q
  cases q
  exact n _ rfl
 have nTb:∀{b:Addr}{u:HO},H b=some u->b≠T:=λ {b u} q z=>by
  subst z
  rw[hT] at q
  cases q
 have up:∀{b:Addr}{u:HO},H b=some u->(∀φ,u≠.ext φ)->upd (upd H T (.frz oT (.own 0))) a (ExF a C (.ref T) d) b=some u:=λ {b u} q n=>by
  rw[Ji (na q n),Ji (nTb q)]
  exact q
 have fa:a∉frs X.stack:=λ z=>by rw[hfr a z] at ha;cases ha
 refine k T oT h' ⟨hT,g5,⟨_,d7,by simp[tz]⟩,⟨λ b o q n hb _=>keep b o q (λ z=>by subst z;rw[ha] at n;cases n) hb,λ b o q _ hb _=>slot b o q (λ z=>fa (z▸hb)),λ b o q n _=>?_,λ b o q _=>?_,λ b xs q=>up q nofun,λ b o u q=>up q nofun,λ b ps q=>⟨#[],by rw[up q nofun];simp⟩⟩,λ b u q=>?_⟩
 ·rw[Ji (λ z=>by subst z;rw[ha] at n;cases n),Ji (λ z=>by subst z;rw[nT] at q;cases q)]
  exact n
 ·by_cases z:b=a
  ·subst z
   exact⟨_,e1⟩
  ·obtain⟨sl,w⟩:=slot b o q z
   exact⟨_,w⟩
 ·by_cases z:b=a
  ·subst z
   rw[Jf] at q
   cases q
   exact ExF.ok e1 ((Obj.cls_mapFields _ _).trans x2) (Obj.data_mapFields g2 _) (by simp[g3]) (by rw[Array.getElem?_setIfInBounds_ne (by decide)];exact x5) ((Jx6 _ _).trans x6)
  ·rw[Ji z] at q
   by_cases y:b=T
   ·subst y
    rw[Jf] at q
    cases q
    exact⟨e7,⟨oT,e7⟩⟩
   ·rw[Ji y] at q
    refine(hok b u q).stay (λ c v hc p=>?_) (λ c p=>up p nofun) λ c xs p=>up p nofun
    refine keep c v p ?_ ?_
    ·rcases hc with rfl|hc
     ·exact z
     ·exact na hc nofun
    ·intro m
     rcases hc with rfl|hc
     ·rw[hfr _ m] at q;cases q
     ·rw[hfr _ m] at hc;cases hc
theorem J1f (I:Inv X pins σ H s) (fl:Fly X.env.locals (frs X.stack) a s s1) (hs:X.stack=X.env::X.outer) (hf:X.env.frame=some X.env.locals) (ha:H a=some (ExF a C tv d)) (ht:TvOk H tv)
  (k:∀T oT h',Past X H s.heap a C d T oT h'->Q () { s with heap:=h' }):wpAny M X.A (noteFrame (.ref a) X.env) (λ _ s'=>wpAny M X.A (setFlight (.ref a) none) Q E s') E s1:=by
 rcases fl with rfl|⟨h',rfl,n⟩
 ·exact Jvg I hs hf ha ht λ h3 n=>Jpz I ha n k
 ·exact Jnz hf n (Jpz I ha n k)
theorem Jyv (I:Inv X pins σ H s) (fl:Fly X.env.locals (frs X.stack) a s s1) (hs:X.stack=X.env::X.outer) (hf:X.env.frame=some X.env.locals) (ha:H a=some (ExF a C tv d)) (ht:TvOk H tv)
  (k:∀T oT h',Past X H s.heap a C d T oT h'->Q () { s with heap:=h' }):wpAny M X.A (leaving X.env (.ref a)) Q E s1:=by
 unfold leaving
 exact wpAny_bind (J1f I fl hs hf ha ht k)
end
noncomputable def CXI (P:Program) (w:World):CXT:=λ outer H s E e s'=>∃H',s'.os=s.os/\AllBare s'.gens/\Un (frs outer) [] H H' s.heap s'.heap/\HOk P w H' s'.heap/\E e none H'
theorem Un.tail {L:Addr}{fs:List Addr}{H H1 H2:Hp}{h h1 h2:Heap}(a:Un fs [] H H1 h h1) (b:Un (L::fs) [] H1 H2 h1 h2) (n:h.get? L=none):Un fs [] H H2 h h2 where
 keep:=λ c o q m hc _=>b.keep c o (a.keep c o q m hc (by simp)) (a.free c o q m (by simp)) (λ z=>(List.mem_cons.mp z).elim (λ y=>by subst y;rw[n] at q;cases q) hc) (by simp)
 slot:=λ c o q m hc _=>by
  obtain⟨sl,e1⟩:=a.slot c o q m hc (by simp)
  obtain⟨sl',e2⟩:=b.any e1 (a.free c o q m (by simp)) (by simp)
  exact⟨sl',e2⟩
 free:=λ c o q m _=>by
  obtain⟨o',e1⟩:=a.there c o q (by simp)
  exact b.free c o' e1 (a.free c o q m (by simp)) (by simp)
 there:=λ c o q _=>by
  obtain⟨o',e1⟩:=a.there c o q (by simp)
  exact b.there c o' e1 (by simp)
 tups:=λ c xs q=>b.tups c xs (a.tups c xs q)
 frzs:=λ c o u q=>b.frzs c o u (a.frzs c o u q)
 tbls:=λ c ps q=>by
  obtain⟨m1,e1⟩:=a.tbls c ps q
  obtain⟨m2,e2⟩:=b.tbls c _ e1
  exact⟨m1++m2,by rw[e2,Array.append_assoc]⟩
section
variable {X:Cx}{pins:List (Addr×Obj)}{σ:L2.St}{H:Hp}{s:Shared}{k:Nat}{f C:Addr}{fd:FuncData}{ps:List Str}{sp:Sp}{dvs:List V}{ds:List Value}{E:XK}{Q:VK}{us:List Value}{vs:List V}{W:Value->Shared->Prop}
theorem J2s {e:Value}{s':Shared}(I:Inv X pins σ H s) (h:CXI X.prog X.w X.stack H s E e s'):∃H',Inv X pins σ H' s'/\E e none H':=by
 obtain⟨H',os,bare,un,hok,q⟩:=h
 exact⟨H',I.call' os un hok bare λ b z=>absurd z (by simp),q⟩
theorem J4r (F:FnOk X.prog X.w X.K X.mg X.base (CXI X.prog X.w) k f fd ps sp) (hr:Room k X.A) (hb:Jhf X.K fd ps ds) (hd:Vals dvs ds) (I:Inv X pins σ H s) (r:Vals vs us) (h:sp (vs++dvs) H Q E)
  (hx:∀e s' H',Inv X pins σ H' s'->E e none H'->W e s'):wpAny (model X.prog X.w) X.A (call (.ref f) us) (EP X pins σ Q) W s:=by
 have ra:Vals (vs++dvs) (us++ds):=r.append hd
 have la:=ra.length
 have lf:=F.len _ _ _ _ h
 refine wpAny_call (codeAny_mono (F.run _ _ _ _ ⟨us,[]⟩ _ _ _ _ hr I.env0 (hb s us I.kIn (by omega)) ra h) λ res s' q=>?_)
 match res,q with
 | .error e,q =>
  obtain⟨H',I',z⟩:=J2s I q
  exact hx e s' H' I' z
 | .ok (.ret u),q=>exact I.after q
 | .ok .next,q=>exact False.elim q
 | .ok .brk,q=>exact False.elim q
 | .ok .cont,q=>exact False.elim q
theorem Jze (M:Mk X.K C f) (F:FnOk X.prog X.w X.K X.mg X.base (CXI X.prog X.w) k f fd ps sp) (hr:Room (k+1) X.A) (hb:Jhf X.K fd ps ds) (hd:Vals dvs ds) (I:Inv X pins σ H s) (r:Vals vs us)
  (h:∀x dx,H x=none->H dx=none->dx≠x->sp (.ref x::(vs++dvs)) (upd (upd H dx (.own x)) x (.ins C dx [])) (λ v H2=>v=.non/\Q (.ref x) H2) E)
  (hx:∀e s' H',Inv X pins σ H' s'->E e none H'->W e s'):wpAny (model X.prog X.w) X.A (call (.ref C) us) (EP X pins σ Q) W s:=by
 have z0:=s.heap.objs.size
 have hq:=h (s.heap.objs.size+1) s.heap.objs.size (I.hok.fresh (Nat.le_succ _)) (I.hok.fresh (Nat.le_refl _)) (Nat.ne_of_lt (Nat.lt_succ_self _))
 have J:=Inv.made (C:=C) I
 have ra:Vals (V.ref (s.heap.objs.size+1)::(vs++dvs)) (Value.ref (s.heap.objs.size+1)::(us++ds)):=.cons rfl (r.append hd)
 have la:=ra.length
 have lf:=F.len _ _ _ _ hq
 have hl:(Value.ref (s.heap.objs.size+1)::us++ds).length=ps.length:=by
  rw[List.cons_append]
  omega
 refine wpAny_call (J09 (f:=f) I.kIn M.makes M.init (beq_iff_eq.mp M.fn) (codeAny_mono (F.run _ _ _ _ ⟨.ref (s.heap.objs.size+1)::us,[]⟩ _ _ _ _ (hr.make C us []) (J.env0.make C us []) (hb _ (.ref (s.heap.objs.size+1)::us) J.kIn hl) ra hq) λ res s' q=>?_))
 match res,q with
 | .error e,q =>
  obtain⟨H',I',z⟩:=J2s J q
  exact hx e s' H' I' z
 | .ok (.ret u),q =>
  obtain⟨v,H',J3,rv,ev,q3⟩:=J.after q
  subst ev
  exact⟨rv,⟨V.ref (s.heap.objs.size+1),H',J3,rfl,q3⟩⟩
 | .ok .next,q=>exact False.elim q
 | .ok .brk,q=>exact False.elim q
 | .ok .cont,q=>exact False.elim q
end
structure ItI where
 xs:List IV
 chk:IH->Prop
open Classical in
noncomputable def Jhh (chk:IH->Prop) (g:G1) (b:S1):List IV->ISt->IH->SRes
 | [],σ,h=>if chk h then .next σ h else .stuck
 | x::xs,σ,h=>if chk h then(match g x σ h with
   | .next σ1 h1=>(match b σ1 h1 with
    | .next σ2 h2=>Jhh chk g b xs σ2 h2
    | .cont σ2 h2=>Jhh chk g b xs σ2 h2
    | .brk σ2 h2=>.next σ2 h2
    | .ret v h2=>.ret v h2
    | .exc n σ2 h2=>(match h2[n]? with
     | some (.exc _ _)=>.exc n σ2 h2
     | _=>.stuck)
    | _=>.stuck)
   | _=>.stuck) else .stuck
noncomputable abbrev I1:=ISt->IH->Res ItI
noncomputable def sFor (it:I1) (g:G1) (b:S1):S1:=λ σ h=>rS σ (it σ h) λ J h'=>Jhh J.chk g b J.xs σ h'
structure ItOk (ce:Str->Option Addr) (K:W.Frag) (ι:List Addr) (H₀:Hp) (J:It) (I:ItI):Prop where
 go:∀(k:Nat) (x:IV) (h:IH) (H:Hp) (ι':List Addr),Nxt ι H₀ ι' H->Rel ce K ι' h H->I.chk h->I.xs[k]?=some x ->
  J.go k H/\∀y H',J.yld k H y H'->Rel ce K ι' h H'/\Nxt ι' H ι' H'/\RV K ι' H' x y
 stop:∀(k:Nat) (h:IH) (H:Hp) (ι':List Addr),Nxt ι H₀ ι' H->Rel ce K ι' h H->I.chk h->I.xs.length<=k->J.stop k H
theorem Rel.get {ce:Str->Option Addr}{K:W.Frag}{ι:List Addr}{h:IH}{H:Hp}(R:Rel ce K ι h H){i:Nat}{o:IO}(e:h[i]?=Option.some o){a:Addr}(ha:ι[i]?=Option.some a):RO ce K ι H a o:=by
 obtain⟨b,e1,r⟩:=R.at_ i o e
 rw[ha] at e1
 cases e1
 exact r
noncomputable def RIt (ce:Str->Option Addr) (X:Cx) (tg:Expr) (pins:List (Addr×Obj)) (ι':List Addr) (I:ItI) (itv:Value) (s2:Shared) (H':Hp):Prop :=
 ∃(it:Addr) (fp:List Addr) (tn:Nat->Heap->Prop) (J:It),itv=.ref it/\Turn X.prog X.w X.K tg J fp it tn/\tn 0 s2.heap/\(∀b∈fp,FpOk X pins H' b)/\ItOk ce X.K ι' H' J I
noncomputable def PIi (ce:Str->Option Addr) (X:Cx) (tg iter:Expr) (m:I1):Prop :=
 ∀(pins:List (Addr×Obj)) (s:Shared) (σ:L2.St) (H:Hp) (ι:List Addr) (σi:ISt) (h:IH) (Q:Value->Shared->Prop) (E:Value->Shared->Prop),Now ce X pins ι σi h σ H s ->
  (match m σi h with
   | .ok I h'=>∀itv s' H' ι',Now ce X pins ι' σi h' σ H' s'->Nxt ι H ι' H'->RIt ce X tg pins ι' I itv s' H'->Q itv s'
   | .exc n h'=>∀pl a s' H' ι',Now ce X (pins++pl) ι' σi h' σ H' s'->Nxt ι H ι' H'->ι'[n]?=some a->E (.ref a) s'
   | .stuck=>False) ->
  wpAny (model X.prog X.w) X.A (eval iter X.env) (λ v s1=>wpAny (model X.prog X.w) X.A (pyIter v) Q E s1) E s
section
variable {ce:Str->Option Addr}{X:Cx}
theorem nof {M:Model}{A:Around}{α:Type}{t:Sem α}{Q:α->Shared->Prop}{E:Value->Shared->Prop}{s:Shared}(h:wpAny M A t Q (λ _ _=>False) s):wpAny M A t Q E s:=wpAny_mono h (λ _ _ x=>x) λ _ _ z=>z.elim
theorem Now.pins {pins:List (Addr×Obj)}{pl:List (Addr×Obj)}{ι:List Addr}{σi:ISt}{h:IH}{σ:L2.St}{H:Hp}{s:Shared}(N:Now ce X (pins++pl) ι σi h σ H s):Now ce X pins ι σi h σ H s:=⟨N.inv.unpinned,N.rel,N.st⟩
theorem s_for {tg iter:Expr}{body:List Stmt}{mi:I1}{g:G1}{mb:S1}{pos:Pos}(hc:X.calm=true) (hst:X.stack=X.env::X.outer) (hf:X.env.frame=some X.env.locals) (hi:PIi ce X tg iter mi) (hg:PGi ce X tg g) (hb:PS2 ce X body mb)
  (hs:∀x,foldedSetIterable iter X.env x=pure x:=by intro _;rfl):PS1 ce X (.For tg iter body [] pos) (sFor mi g mb):=by
 intro pins s σ H ι σi h Q E N K
 refine wpAny_For (hi pins s σ H ι σi h _ E N ?_) hs
 unfold sFor at K
 cases e0:mi σi h with
 | exc n h'=>rw[e0] at K;exact λ pl a s' H' ι' N' n' q=>K pl a s' σ H' ι' N' n' q s' (.inl rfl)
 | stuck=>rw[e0] at K;exact K
 | ok I h' =>
  rw[e0] at K
  intro itv s2 H2 ι2 N2 n2 R
  obtain⟨it,fp,tn,J,e,T,st2,f2,OK⟩:=R
  subst e
  have stat:∀{H':Hp},(∀b∈fp,H' b=none)->∀b∈fp,FpOk X pins H' b:=λ hn b hb=>⟨hn b hb,(f2 b hb).2⟩
  have K2:Jft ce X pins ι2 H2 (Jhh I.chk g mb I.xs σi h') Q E:=Jft.mono (r:=Jhh I.chk g mb I.xs σi h') K n2
  refine codeAny_forLoop_any (λ n s'=>∃k ιk σk hk σ' H',Now ce X pins ιk σk hk σ' H' s'/\Nxt ι2 H2 ιk H'/\tn k s'.heap/\(∀b∈fp,H' b=none)/\n=I.xs.length-k/\k<=I.xs.length/\Jft ce X pins ιk H' (Jhh I.chk g mb (I.xs.drop k) σk hk) Q E) ?_ I.xs.length
   ⟨0,ι2,σi,h',σ,H2,N2,.refl,st2,λ b hb=>(f2 b hb).1,by simp,Nat.zero_le _,by simpa using K2⟩
  rintro n s3 ⟨k,ιk,σk,hk,σ3,H3,N3,n3,st3,fr3,rfl,hkl,K3⟩
  by_cases hlt:k<I.xs.length
  ·-- a turn
   have hd:I.xs.drop k=I.xs[k]::I.xs.drop (k+1):=List.drop_eq_getElem_cons hlt
   rw[hd] at K3
   unfold Jhh at K3
   split at K3
   ·rename_i hck
    obtain⟨go,yl⟩:=OK.go k I.xs[k] hk H3 ιk n3 N3.rel hck (List.getElem?_eq_getElem hlt)
    refine nof (thn (T.item X rfl rfl rfl hc k pins s3 σ3 H3 (λ _ _=>False) N3.inv (stat fr3) st3 go) λ r s4 ⟨u,hr,h4⟩=>?_)
    subst hr
    refine nof (thn h4 λ _ s5 ⟨x,H5,I5,r5,y5,st5,fr5⟩=>?_)
    obtain⟨R5,n5,q5⟩:=yl x H5 y5
    have I5':=I5.pinned (stat fr5) (T.obj _ _ st5)
    have N5:Now ce X (pins++Jfm fp s5.heap) ιk σk hk σ3 H5 s5:=⟨I5',R5,N3.st.mono n5⟩
    cases eg:g I.xs[k] σk hk with
    | next σg hgg =>
     rw[eg] at K3
     dsimp only at K3
     refine nof (hg _ s5 σ3 H5 ιk σk hk _ u (λ _ s6=>wpAny (model X.prog X.w) X.A (execs body X.env) _ _ s6) (λ _ _=>False) N5 ⟨x,r5,q5⟩ ?_)
     rw[eg]
     intro s6 σ6 H6 ι6 N6 n6
     refine hb _ s6 σ6 H6 ι6 σg hgg _ _ N6 ?_
     have again:∀{σ7:L2.St}{H7:Hp}{s7:Shared}{σ7i:ISt}{h7:IH}{ι7:List Addr},Now ce X (pins++Jfm fp s5.heap) ι7 σ7i h7 σ7 H7 s7->Nxt ι6 H6 ι7 H7->Jft ce X pins ιk H3 (Jhh I.chk g mb (I.xs.drop (k+1)) σ7i h7) Q E ->
       ∃m,m<I.xs.length-k/\∃k ιk σk hk σ' H',Now ce X pins ιk σk hk σ' H' s7/\Nxt ι2 H2 ιk H'/\tn k s7.heap/\(∀b∈fp,H' b=none)/\m=I.xs.length-k/\k<=I.xs.length/\Jft ce X pins ιk H' (Jhh I.chk g mb (I.xs.drop k) σk hk) Q E :=
      λ {σ7 H7 s7 σ7i h7 ι7} N7 n7 K7=>by
       have nn:Nxt ιk H3 ι7 H7:=(n5.trans n6).trans n7
       refine⟨I.xs.length-(k+1),by omega,k+1,ι7,σ7i,h7,σ7,H7,N7.pins,n3.trans nn,T.keep _ _ _ st5 λ b hb o e=>(N7.inv.pin (b,o) (List.mem_append_right _ (List.mem_append_right _ (Jd4 hb e)))).1,λ b hb=>?_,rfl,hlt,K7.mono nn⟩
       obtain⟨o,e,d⟩:=T.obj _ _ st5 b hb
       exact(N7.inv.pin (b,o) (List.mem_append_right _ (List.mem_append_right _ (Jd4 hb e)))).2.1
     cases eb:mb σg hgg with
     | next σ7i h7 =>
      rw[eb] at K3
      exact λ s7 σ7 H7 ι7 N7 n7=>again N7 n7 K3
     | cont σ7i h7 =>
      rw[eb] at K3
      exact λ s7 σ7 H7 ι7 N7 n7=>again N7 n7 K3
     | brk σ7i h7 =>
      rw[eb] at K3
      exact λ s7 σ7 H7 ι7 N7 n7=>K3 s7 σ7 H7 ι7 N7.pins ((n5.trans n6).trans n7)
     | ret v h7 =>
      rw[eb] at K3
      exact λ u s7 σ7i σ7 H7 ι7 N7 n7 r=>K3 u s7 σ7i σ7 H7 ι7 N7.pins ((n5.trans n6).trans n7) r
     | exc n σ7i h7 =>
      rw[eb] at K3
      dsimp only at K3
      cases hj:h7[n]? with
      | none=>rw[hj] at K3;exact Zf K3
      | some ob =>
       cases ob with
       | exc c fs =>
        rw[hj] at K3
        intro pl a s7 σ7 H7 ι7 N7 n7 q s8 fl
        obtain⟨C,tv,d,fe,hC,ha,ht⟩:=N7.rel.get hj q
        have back:∀h8,Noted X.env.locals (frs X.stack) a s7.heap h8->cameBackBy (model X.prog X.w) X.A X.env E (.ref a) { s7 with heap:=h8 }:=λ h8 n8 =>
         Jwq hf n8 λ h9 n9=>K3 (Jfm fp s5.heap++pl) a s7 σ7 H7 ι7 (by rw[<- List.append_assoc];exact N7) ((n5.trans n6).trans n7) q _ (.inr ⟨h9,rfl,n9⟩)
        rcases fl with rfl|⟨h8,rfl,n8⟩
        ·exact Jvg N7.inv hst hf ha ht back
        ·exact Jnz hf n8 (back h8 n8)
       | _=>rw[hj] at K3;exact Zf K3
     | stuck=>rw[eb] at K3;exact Zf K3
    | _=>rw[eg] at K3;exact Zf K3
   ·exact Zf K3
  ·have hke:I.xs.drop k=[]:=List.drop_eq_nil_of_le (by omega)
   rw[hke] at K3
   unfold Jhh at K3
   split at K3
   ·rename_i hck
    have stop:=OK.stop k hk H3 ιk n3 N3.rel hck (by omega)
    refine nof (thn (T.done X rfl rfl rfl hc k pins s3 σ3 H3 (λ _ _=>False) N3.inv (stat fr3) st3 stop) λ r s4 ⟨hr,I4⟩=>?_)
    subst hr
    exact wpAny_execs_nil (K3 s4 σ3 H3 ιk ⟨I4,N3.rel,N3.st⟩ .refl)
   ·exact Zf K3
noncomputable def itOf:IV->IH->Res ItI
 | .ref i,h=>match h[i]? with
  | some (.lst xs)=>.ok ⟨xs,λ h'=>h'[i]?=some (.lst xs)⟩ h
  | _=>.stuck
 | .rol xs,h=>.ok ⟨xs,λ _=>True⟩ h
 | .tup xs,h=>.ok ⟨xs,λ _=>True⟩ h
 | _,_=>.stuck
noncomputable def iVal (e:E1):I1:=λ σ h=>(e σ h).bind itOf
variable {tg:Expr}
theorem J6i {a:Addr}{i:Nat}{xs:List IV}{ι:List Addr}{H₀:Hp}(ha:ι[i]?=some a):ItOk ce X.K ι H₀ (Itl X.K a) ⟨xs,λ h'=>h'[i]?=some (.lst xs)⟩:=by
 refine⟨λ k x h H ι' hp R hck hx=>?_,λ k h H ι' hp R hck hx=>?_⟩
 ·obtain⟨vs,e1,r1⟩:=R.get hck (hp.at ha)
  obtain⟨v,hv,qv⟩:=r1.get hx
  refine⟨⟨vs,v,SqL.of e1,hv⟩,λ y H' hy=>?_⟩
  obtain⟨rfl,hy⟩:=hy
  have:=hy vs (SqL.of e1)
  rw[hv] at this
  cases this
  exact⟨R,.refl,qv⟩
 ·obtain⟨vs,e1,r1⟩:=R.get hck (hp.at ha)
  exact⟨vs,SqL.of e1,by rw[r1.length];exact hx⟩
theorem J6j {a:Addr}{xs:List IV}{vs:List V}{ι:List Addr}{H₀:Hp}(sa:SqR X.K H₀ a vs) (ra:RVs X.K ι H₀ xs vs):ItOk ce X.K ι H₀ (Itl X.K a) ⟨xs,λ _=>True⟩:=by
 refine⟨λ k x h H ι' hp R hck hx=>?_,λ k h H ι' hp R hck hx=>?_⟩
 ·obtain⟨v,hv,qv⟩:=ra.get hx
  have sq:=(hp.ext.sqR sa).sq
  refine⟨⟨vs,v,sq,hv⟩,λ y H' hy=>?_⟩
  obtain⟨rfl,hy⟩:=hy
  have:=hy vs sq
  rw[hv] at this
  cases this
  exact⟨R,.refl,RV.mono hp _ _ qv⟩
 ·exact⟨vs,(hp.ext.sqR sa).sq,by rw[ra.length];exact hx⟩
theorem J6k {a:Addr}{xs:List IV}{vs:List V}{ι:List Addr}{H₀:Hp}(sa:SqT X.K H₀ a vs) (ra:RVs X.K ι H₀ xs vs):ItOk ce X.K ι H₀ (Itt X.K a) ⟨xs,λ _=>True⟩:=by
 refine⟨λ k x h H ι' hp R hck hx=>?_,λ k h H ι' hp R hck hx=>?_⟩
 ·obtain⟨v,hv,qv⟩:=ra.get hx
  have sq:=hp.ext.sqT sa
  refine⟨⟨vs,v,sq,hv⟩,λ y H' hy=>?_⟩
  obtain⟨rfl,hy⟩:=hy
  have:=hy vs sq
  rw[hv] at this
  cases this
  exact⟨R,.refl,RV.mono hp _ _ qv⟩
 ·exact⟨vs,hp.ext.sqT sa,by rw[ra.length];exact hx⟩
theorem Jyl {l:Expr}{ml:E1}(hl:PEi ce X l ml):PIi ce X tg l (iVal ml):=by
 intro pins s σ H ι σi h Q E N K
 refine hl pins s σ H ι σi h _ E N ?_
 unfold iVal at K
 cases e0:ml σi h with
 | exc n h'=>rw[e0] at K;exact K
 | stuck=>rw[e0] at K;exact K
 | ok v h' =>
  rw[e0] at K
  intro u s1 H1 ι1 N1 n1 r1
  obtain⟨w,rw',q⟩:=r1
  have fresh:∀b∈[s1.heap.objs.size],FpOk X pins H1 b:=λ b hb=>by
   have e:b=s1.heap.objs.size:=by simpa using hb
   subst e
   exact N1.inv.fpOk (Nat.le_refl _) (N1.inv.hok.fresh (Nat.le_refl _))
  cases v with
  | ref i =>
   obtain⟨a,e1,ha⟩:=q
   subst e1
   cases rw'
   cases hi:h'[i]? with
   | none=>simp only[Res.bind,itOf,hi] at K
   | some o =>
    cases o with
    | lst xs =>
     simp only[Res.bind,itOf,hi] at K
     obtain⟨vs,e1,r1⟩:=N1.at hi ha
     obtain⟨its,rv,p,hz⟩:=N1.inv.list (SqL.of e1)
     refine wpAny_pyIter_list p.isList (K _ _ H1 ι1 ⟨N1.inv.kept (t':=s1.toks) λ b o e=>Heap.get?_push_of_some _ e,N1.rel,N1.st⟩ n1 ?_)
     exact⟨s1.heap.objs.size,[s1.heap.objs.size],_,Itl X.K a,rfl,Jtm a _,⟨_,Heap.get?_push_size _ rfl,rfl,rfl⟩,fresh,J6i ha⟩
    | _=>simp only[Res.bind,itOf,hi] at K
  | rol xs =>
   obtain⟨a,vs,e1,sa,ra⟩:=q
   subst e1
   cases rw'
   simp only[Res.bind,itOf] at K
   obtain⟨its,rv,p,hz⟩:=N1.inv.list sa.sq
   refine wpAny_pyIter_list p.isList (K _ _ H1 ι1 ⟨N1.inv.kept (t':=s1.toks) λ b o e=>Heap.get?_push_of_some _ e,N1.rel,N1.st⟩ n1 ?_)
   exact⟨s1.heap.objs.size,[s1.heap.objs.size],_,Itl X.K a,rfl,Jtm a _,⟨_,Heap.get?_push_size _ rfl,rfl,rfl⟩,fresh,J6j sa ra⟩
  | tup xs =>
   obtain⟨a,vs,e1,sa,ra⟩:=q
   subst e1
   cases rw'
   simp only[Res.bind,itOf] at K
   obtain⟨its,rv,p,hz⟩:=N1.inv.tuple sa
   refine wpAny_pyIter_tuple (show s1.heap.IsTuple a its.toArray from p) (K _ _ H1 ι1 ⟨N1.inv.kept (t':=s1.toks) λ b o e=>Heap.get?_push_of_some _ e,N1.rel,N1.st⟩ n1 ?_)
   exact⟨s1.heap.objs.size,[s1.heap.objs.size],_,Itt X.K a,rfl,Jxb a _,⟨_,Heap.get?_push_size _ rfl,rfl,rfl⟩,fresh,J6k sa ra⟩
  | _=>simp only[Res.bind,itOf] at K
noncomputable def rngI (lo hi:Int):List IV:=(List.range (hi-lo).toNat).map λ k=>.int (lo+(k:Nat))
noncomputable def Jaq:List IV->IH->Res ItI
 | [.int j],h=>if -(2^62)<=j/\j<2^62 then .ok ⟨rngI 0 j,λ _=>True⟩ h else .stuck
 | _,_=>.stuck
noncomputable def J2f:List IV->IH->Res ItI
 | [.int i,.int j],h=>if -(2^62)<=i/\i<2^62/\ -(2^62)<=j/\j<2^62 then .ok ⟨rngI i j,λ _=>True⟩ h else .stuck
 | _,_=>.stuck
noncomputable def iRg (f:List IV->IH->Res ItI) (a:A1):I1:=λ σ h=>(a σ h).bind f
theorem J7h {lo hi:Int}{ι:List Addr}{H₀:Hp}:ItOk ce X.K ι H₀ (Itr lo (hi-lo).toNat) ⟨rngI lo hi,λ _=>True⟩:=by
 refine⟨λ k x h H ι' hp R hck hx=>?_,λ k h H ι' hp R hck hx=>?_⟩
 ·have hk:k<(hi-lo).toNat:=by
   have:=(List.getElem?_eq_some_iff.mp hx).1
   simpa [rngI] using this
  refine⟨hk,λ y H' hy=>?_⟩
  obtain⟨rfl,rfl⟩:=hy
  simp only[rngI,List.getElem?_map,List.getElem?_range hk] at hx
  cases hx
  exact⟨R,.refl,rfl⟩
 ·have:(rngI lo hi).length=(hi-lo).toNat:=by simp[rngI]
  show(hi-lo).toNat<=k
  rw[<- this]
  exact hx
theorem Jy9 {pins:List (Addr×Obj)}{σ:L2.St}{H:Hp}{ι:List Addr}{σi:ISt}{h:IH}{s:Shared}{Q:Value->Shared->Prop}{E:Value->Shared->Prop}{lo hi:Int}{t u v:Tok}{tk:Nat}(N:Now ce X pins ι σi h σ H s)
  (h1: -(2^62)<=lo) (h2:lo<2^62) (h3: -(2^62)<=hi) (h4:hi<2^62)
  (K:∀itv s' H' ι',Now ce X pins ι' σi h σ H' s'->Nxt ι H ι' H'->RIt ce X tg pins ι' ⟨rngI lo hi,λ _=>True⟩ itv s' H'->Q itv s') :
  wpAny (model X.prog X.w) X.A (pyIter (.ref s.heap.objs.size)) Q E { s with heap:=s.heap.push { cls:=.type "range",data:=.fields #[.int lo t,.int hi u,.int 1 v] },toks:=tk }:=by
 have:=J1k (X:=X) (tg:=tg) (E:=E) (R:=λ J H'=>J=Itr lo (hi-lo).toNat/\H'=H) (t:=t) (u:=u) (v:=v) (tk:=tk) N.inv h1 h2 h3 h4 ⟨rfl,rfl⟩
 refine wpAny_mono this (λ itv s' hq=>?_) λ _ _ z=>z
 obtain⟨it,fp,tn,J,H',e,I',T,st,f,rfl,rfl⟩:=hq
 exact K itv s' _ ι ⟨I',N.rel,N.st⟩ .refl ⟨it,fp,tn,_,e,T,st,f,J7h⟩
theorem J0s {a:Expr}{ma:A1}{p pos:Pos}(hg:Gl X "range") (hm:X.mg "range"=none) (ha:PAi ce X [a] ma) (hs:starEach [a] X.env=[(false,eval a X.env)]:=by rfl):PIi ce X tg (.Call (.Name "range" p) [a] [] pos) (iRg Jaq ma):=by
 intro pins s σ H ι σi h Q E N K
 refine Call_ (Jhs N.inv hg hm boot_range (PyProof.Rows.callWith_type1 ?_ hs rfl))
 refine ha pos pins s σ H ι σi h _ E N ?_
 unfold iRg at K
 cases e0:ma σi h with
 | exc n h'=>rw[e0] at K;exact K
 | stuck=>rw[e0] at K;exact K
 | ok vs h' =>
  rw[e0] at K
  intro us s1 H1 ι1 N1 n1 r1
  obtain⟨xs,rv,qs⟩:=r1
  match vs,K with
  | [.int j],K =>
   obtain⟨w,r,e1,q,q2⟩:=qs
   have e2:r=[]:=q2
   subst e1 e2
   have e3:w=.int j:=q
   subst e3
   cases rv with
   | cons r rr =>
    cases rr
    obtain⟨t,rfl⟩:=r
    simp only[Res.bind,Jaq] at K
    by_cases hb: -(2^62)<=j/\j<2^62
    ·rw[if_pos hb] at K
     exact call_range_1 (Jy9 N1 (by omega) (by omega) hb.1 hb.2 λ itv s' H' ι' N' n' R=>K itv s' H' ι' N' (n1.trans n') R)
    ·rw[if_neg hb] at K
     exact K.elim
  | [],K=>exact Zf K
  | .non::_,K=>exact Zf K
  | .bl _::_,K=>exact Zf K
  | .str _::_,K=>exact Zf K
  | .tup _::_,K=>exact Zf K
  | .rol _::_,K=>exact Zf K
  | .ref _::_,K=>exact Zf K
  | .int _::_::_,K=>exact Zf K
end
end L3
namespace L3
open PySem PySem.Spec PySem.Calls PyProof.Rows L2
section
variable {prog:Program}{w:World}{A:Around}{E:Value->Shared->Prop}{s:Shared}{K:W.Frag}{x D:Addr}{ox:Obj}
open PySem.W PySem.Builtin PySem.Builtin.ObjectAttr PySem.Builtin.Getset_descriptor in
end
structure ExI (K:W.Frag) (C:Addr):Prop where
 ga:W.findIn K (.ref C) "__getattribute__"=some (some (.builtin "BaseException.__getattribute__"))
 mb:W.mroIn K C (.type "BaseException")=some true
 gn:W.findIn K (.ref C) "__getattr__"=some none
 ca:W.findIn K (.ref C) "__class__"=some (some (.builtin "object.__class__"))
 mo:W.mroIn K C (.type "object")=some true
 hd:W.hasDictIn K C=true
theorem ExI.at_ {K:W.Frag}{C:Addr}(e:ExI K C):∃c d cd sl,K.lookup C=some ⟨c,d,.cls cd,sl⟩:=by
 obtain⟨cd,hc,_⟩:=W.any_some e.hd
 unfold W.clsIn at hc
 split at hc
 case h_2=>cases hc
 rename_i c d cd' sl ho
 exact⟨c,d,cd',sl,ho⟩
end L3
namespace L3
open PySem PySem.Spec PyProof.Rows L2
noncomputable def Jp0 (n:Nat) (vs:List IV):ISt:=vs.map some++List.replicate (n-vs.length) none
noncomputable def SRes.fin (r:SRes):Res IV:=match r with
 | .next _ h'=>.ok .non h'
 | .ret v h'=>.ok v h'
 | .exc n _ h'=>(match h'[n]? with
  | some (.exc _ _)=>.exc n h'
  | _=>.stuck)
 | _=>.stuck
noncomputable def fnI (n:Nat) (m:S1):List IV->IH->Res IV:=λ vs h=>(m (Jp0 n vs) h).fin
noncomputable def spI (ce:Str->Option Addr) (K:W.Frag) (ps:List Str) (f:List IV->IH->Res IV):Sp:=λ vs H Q E =>
 vs.length=ps.length/\∃ι h ivs,Rel ce K ι h H/\RVs K ι H ivs vs /\
  match f ivs h with
  | .ok v h'=>∀x H' ι',Rel ce K ι' h' H'->Nxt ι H ι' H'->RV K ι' H' v x->Q x H'
  | .exc n h'=>∀a H' ι',Rel ce K ι' h' H'->Nxt ι H ι' H'->ι'[n]?=some a->E (.ref a) none H'
  | .stuck=>False
theorem RVs.start {K:W.Frag}{ι:List Addr}{H:Hp}{N:List Str}{ivs:List IV}{vs:List V}(r:RVs K ι H ivs vs):RSt K ι H (Jp0 N.length ivs) (L2.start N vs):=by
 have hl:=r.length
 refine⟨by simp[Jp0,L2.start,hl],λ j v e=>?_⟩
 unfold Jp0 at e
 unfold L2.start
 by_cases hj:j<ivs.length
 ·rw[List.getElem?_append_left (by simpa using hj),List.getElem?_map] at e
  rw[List.getElem?_append_left (by simp;omega),List.getElem?_map]
  cases e1:ivs[j]? with
  | none=>rw[e1] at e;cases e
  | some w =>
   rw[e1] at e
   cases e
   obtain⟨u,hu,q⟩:=r.get e1
   exact⟨u,by rw[hu];rfl,q⟩
 ·rw[List.getElem?_append_right (by simpa using hj),List.getElem?_replicate] at e
  split at e<;>cases e
theorem Jvj {α:Type}:∀{l:List α}{i:Nat}{x:α},l[i]?=some x->l.set i x=l
 | [],_,_,e=>by simp at e
 | a::l,0,x,e=>by cases e;rfl
 | a::l,i+1,x,e=>by
  show a::l.set i x=a::l
  rw[Jvj (l:=l) e]
theorem ro_at {ce:Str->Option Addr}{K:W.Frag}{ι:List Addr}{h:IH}{H:Hp}{i:Nat}{o:IO}{a:Addr}(R:Rel ce K ι h H) (e:h[i]?=some o) (q:ι[i]?=some a):RO ce K ι H a o:=by
 obtain⟨b,e1,r⟩:=R.at_ i o e
 rw[q] at e1
 cases e1
 exact r
structure FunD (K:W.Frag) (x qual:Str) (st:Stmt) (f:Addr) (fd:FuncData) (dV:Value):Prop where
 ex:∃(oc:Value) (od:Option Addr) (kV doc pm:Value) (an:Option Addr) (cdv ct:Value) (osl:Array (Option Value)),
  fd=W.fnOf x qual (Jbh st) (Jae st) (Jj st) dV kV doc pm an cdv ct/\K.lookup f=some ⟨oc,od,.func fd,osl⟩/\W.codeIn K cdv qual=true
 kp:W.keepIn K (.ref f)=true
section
variable {P:Program}{w:World}{K:W.Frag}{mg:Str->Option Value}{base:Heap}{ce:Str->Option Addr}
theorem FunD.fn {x qual:Str}{st:Stmt}{f:Addr}{fd:FuncData}{dV:Value}{N ps:List Str}{k n:Nat}{m:S1}(F:FunD K x qual st f fd dV) (S:FnScope N ps (Jj st))
  (hbody:∀(cdv:Value) (A:Around) (outer:List Env) (s:Shared) (H:Hp) (E:XK),W.codeIn K cdv qual=true->Room k (A.deeper (envOfC qual (Jj st) s.heap.objs.size f cdv))->PS2 ce (cxOf (CXI P w) P w K mg base N qual (Jj st) f cdv A outer s H E).nox (Jae st) m) (hn:N.length=n:=by rfl) :
  FnOk P w K mg base (CXI P w) (k+1) f fd ps (spI ce K ps (fnI n m)):=by
 subst hn
 obtain⟨oc,od,kV,doc,pm,an,cdv,ct,osl,rfl,lk,hcd⟩:=F.ex
 refine J51 lk hcd S (λ vs H Q E h=>h.1) λ A outer s H vs Q E hr hsp=>?_
 obtain⟨hl,ι,h,ivs,R,rv,hk⟩:=hsp
 refine⟨λ D σ H=>∃ι σi h,Rel ce K ι h H/\RSt K ι H σi σ/\match m σi h with
  | .next σi' h'=>∀σ' H' ι',Rel ce K ι' h' H'->RSt K ι' H' σi' σ'->Nxt ι H ι' H'->D.nx σ' H'
  | .ret v h'=>∀x H' ι',Rel ce K ι' h' H'->Nxt ι H ι' H'->RV K ι' H' v x->D.rt x H'
  | .exc n _ h'=>(∃c fs,h'[n]?=some (.exc c fs))/\∀a H' ι',Rel ce K ι' h' H'->Nxt ι H ι' H'->ι'[n]?=some a->E (.ref a) none H'
  | _=>False,λ pins s' σ' H' D I ht=>?_,ι,Jp0 N.length ivs,h,R,rv.start,?_⟩
 ·obtain⟨ι,σi,h,R,rs,hm⟩:=ht
  refine wpAny_mono (hbody cdv A outer s H E hcd hr pins s' σ' H' ι σi h (SP _ pins D) _ ⟨I.wish _,R,rs⟩ ?_) (λ _ _ z=>z) (λ _ _ z=>z)
  cases e:m σi h with
  | next σ2 h2 =>
   rw[e] at hm
   exact λ s3 σ3 H3 ι3 N3 n3=>⟨σ3,H3,N3.inv.unwish,hm σ3 H3 ι3 N3.rel N3.st n3⟩
  | ret v h2 =>
   rw[e] at hm
   exact λ u s3 σ3i σ3 H3 ι3 N3 n3 ⟨z,rz,q⟩=>⟨z,σ3,H3,N3.inv.unwish,rz,hm z H3 ι3 N3.rel n3 q⟩
  | exc j σ2 h2 =>
   rw[e] at hm
   obtain⟨⟨c,fs,hj⟩,hm⟩:=hm
   intro pl a s3 σ3 H3 ι3 N3 n3 hi s4 fl
   have I3:=N3.inv.unwish
   obtain⟨C,tv,d,fe,hC,ha,ht⟩:=ro_at N3.rel hj hi
   refine Jyv I3 fl rfl rfl ha ht λ T oT h' p=>?_
   have nl:s.heap.get? s.heap.objs.size=none:=Heap.get?_none_of_le (Nat.le_refl _)
   obtain⟨R4,n4⟩:=N3.rel.grow (o:=.frz oT (.own 0)) p.new
   have ha4:upd H3 T (.frz oT (.own 0)) a=some (ExF a C tv d):=by rw[Ji (Ne.symm p.ne)];exact ha
   obtain⟨R5,n5⟩:=R4.write hi ha4 (by rw[ha4];trivial) (o:=ExF a C (.ref T) d) (io:=.exc c fs) ⟨C,.ref T,d,fe.mono p.un.frzs,hC,Jf,.inr ⟨T,oT,_,rfl,by rw[Ji p.ne,Jf],p.fld.choose_spec⟩⟩
   rw[Jvj hj] at R5
   exact⟨_,I3.os,I3.bare,Un.tail I3.base p.un nl,p.hok,hm a _ ι3 R5 ((n3.trans n4).trans n5) hi⟩
  | _=>rw[e] at hm;exact hm.elim
 ·unfold fnI SRes.fin at hk
  cases e:m (Jp0 N.length ivs) h with
  | next σ2 h2 =>
   rw[e] at hk
   exact λ σ3 H3 ι3 R3 _ n3=>hk .non H3 ι3 R3 n3 rfl
  | ret v h2 =>
   rw[e] at hk
   exact hk
  | exc j σ2 h2 =>
   rw[e] at hk
   dsimp only at hk
   cases q:h2[j]? with
   | none=>rw[q] at hk;exact hk.elim
   | some o =>
    cases o with
    | exc c fs=>rw[q] at hk;exact⟨⟨c,fs,q⟩,hk⟩
    | _=>rw[q] at hk;exact hk.elim
  | _=>rw[e] at hk;exact hk.elim
end
noncomputable def Res.nx {α:Type}:Res α->Res α
 | .ok a h=>.ok a h
 | _=>.stuck
noncomputable def Jn (f:List IV->IH->Res IV) (dvs:List IV) (a:A1):E1:=λ σ h=>(a σ h).bind λ vs h1=>f (vs++dvs) h1
noncomputable def Jnj (c:Str) (f:List IV->IH->Res IV) (dvs:List IV) (a:A1):E1:=λ σ h=>(a σ h).bind λ vs h1=>(f (.ref h1.length::(vs++dvs)) (h1++[.ins c []])).bind λ r h2=>match r with
 | .non=>.ok (.ref h1.length) h2
 | _=>.stuck
noncomputable def J0k (m:Str) (disp:Str->Option ((List IV->IH->Res IV)×List IV)) (o:E1) (a:A1):E1:=λ σ h=>(o σ h).bind λ v h1=>match v with
 | .ref i=>(match h1[i]? with
  | some (.ins c fs)=>(match disp c,fs.lookup m with
   | some (f,dvs),none=>(a σ h1).bind λ vs h2=>f (.ref i::(vs++dvs)) h2
   | _,_=>.stuck)
  | _=>.stuck)
 | _=>.stuck
section
variable {ce:Str->Option Addr}{X:Cx}{k:Nat}{fa C:Addr}{fd:FuncData}{ps:List Str}{f:List IV->IH->Res IV}{dvs:List IV}{ds:List Value}{x m:Str}{p pos apos:Pos}{e o:Expr}{es:List Expr}{mo:E1}{ma:A1}
theorem RUs.vals {K:W.Frag}{ι:List Addr}{H:Hp}{xs:List IV}{us:List Value}(r:RUs K ι H xs us):∃vs,Vals vs us/\RVs K ι H xs vs:=r
theorem Jn5 {pins:List (Addr×Obj)}{σ:L2.St}{H:Hp}{ι:List Addr}{σi:ISt}{h:IH}{s:Shared}{Q:Value->Shared->Prop}{E:Value->Shared->Prop}{us:List Value}{xs:List IV}(F:FnOk X.prog X.w X.K X.mg X.base (CXI X.prog X.w) k fa fd ps (spI ce X.K ps f)) (hr:Room k X.A) (hb:Jhf X.K fd ps ds)
  (hd:∃vs,Vals vs ds/\∀ι H,RVs X.K ι H dvs vs) (hlen:us.length+ds.length=ps.length) (N:Now ce X pins ι σi h σ H s) (r:RUs X.K ι H xs us) (K:Kont ce X RU pins ι σi σ H (f (xs++dvs) h) Q E):wpAny (model X.prog X.w) X.A (call (.ref fa) us) Q E s:=by
 obtain⟨vs,rv,q⟩:=r
 obtain⟨dv,rd,qd⟩:=hd
 have hl1:=rv.length
 have hl2:=rd.length
 refine wpAny_mono (J4r (Q:=λ z H'=>∀u s',Inv X pins σ H' s'->RelV z u->Q u s') (E:=λ v _ H'=>∀s',Inv X pins σ H' s'->E v s') F hr hb rd N.inv rv ⟨by rw[List.length_append];omega,ι,h,xs++dvs,N.rel,q.append (qd ι H),?_⟩ λ _ s' _ I' z=>z s' I')
  (λ u s' ⟨z,H',I',r',k'⟩=>k' u s' I' r') λ _ _ z=>z
 cases e:f (xs++dvs) h with
 | ok v h' =>
  rw[e] at K
  exact λ z H' ι' R' n' qz u s' I' ru=>K u s' H' ι' ⟨I',R',N.st.mono n'⟩ n' ⟨z,ru,qz⟩
 | exc n h' =>
  rw[e] at K
  exact λ a H' ι' R' n' hi s' I'=>K [] a s' H' ι' ⟨by simpa using I',R',N.st.mono n'⟩ n' hi
 | stuck=>rw[e] at K;exact K
theorem J57 (F:FnOk X.prog X.w X.K X.mg X.base (CXI X.prog X.w) k fa fd ps (spI ce X.K ps f)) (hr:Room k X.A) (hg:Gl X x) (hm:X.mg x=some (.ref fa)) (hk:W.keepIn X.K (.ref fa)=true) (hb:Jhf X.K fd ps ds) (hd:∃vs,Vals vs ds/\∀ι H,RVs X.K ι H dvs vs)
  (ha:PAi ce X (e::es) ma) (hlen:∀σ h xs h',ma σ h=.ok xs h'->xs.length+ds.length=ps.length) (hdb:(x==("__debug__":Str))=false:=by decide) (he:starEach (e::es) X.env=(false,eval e X.env)::starEach es X.env:=by rfl) (hpl:(backTo pos (starEach es X.env)).any (·.1)=false:=by rfl) :
  PEi ce X (.Call (.Name x p) (e::es) [] pos) (Jn f dvs ma):=by
 intro pins s σ H ι σi h Q E N K
 refine wpAny_Call_Name_kw (Jiy N.inv hg hm ?_ hdb)
 refine W.callWith_K (h₀:=X.base) N.inv.ok.mod.kin hk ?_ he hpl
 have K':=K
 unfold Jn at K'
 refine ha pos pins s σ H ι σi h _ E N ?_
 cases e0:ma σi h with
 | exc n h'=>rw[e0] at K';exact K'
 | stuck=>rw[e0] at K';exact K'
 | ok xs h' =>
  rw[e0] at K'
  intro us s1 H1 ι1 N1 n1 r1
  have hl:xs.length=us.length:=by
   obtain⟨vs,rv,q⟩:=r1
   rw[<- rv.length,q.length]
  exact⟨N1.inv.kIn,Jn5 (us:=us) F hr hb hd (by have:=hlen σi h xs h' e0;omega) N1 r1 (Kont.mono (r:=(f (xs++dvs) h')) K' n1)⟩
theorem J3t (F:FnOk X.prog X.w X.K X.mg X.base (CXI X.prog X.w) k fa fd ps (spI ce X.K ps f)) (hr:Room k X.A) (hg:Gl X x) (hm:X.mg x=some (.ref fa)) (hk:W.keepIn X.K (.ref fa)=true) (hb:Jhf X.K fd ps ds) (hd:∃vs,Vals vs ds/\∀ι H,RVs X.K ι H dvs vs)
  (hlen:ds.length=ps.length) (hdb:(x==("__debug__":Str))=false:=by decide):PEi ce X (.Call (.Name x p) [] [] pos) (Jn f dvs aNil):=by
 intro pins s σ H ι σi h Q E N K
 refine wpAny_Call_Name_kw (Jiy N.inv hg hm ?_ hdb)
 exact W.callWith_K0 N.inv.kIn hk (Jn5 (xs:=[]) F hr hb hd (by simpa using hlen) N .nil K)
theorem Js2 {c:Str}{pins:List (Addr×Obj)}{σ:L2.St}{H:Hp}{ι:List Addr}{σi:ISt}{h:IH}{s:Shared}{Q:Value->Shared->Prop}{E:Value->Shared->Prop}{us:List Value}{xs:List IV}(M:Mk X.K C fa) (F:FnOk X.prog X.w X.K X.mg X.base (CXI X.prog X.w) k fa fd ps (spI ce X.K ps f)) (hC:ce c=some C) (hr:Room (k+1) X.A) (hb:Jhf X.K fd ps ds)
  (hd:∃vs,Vals vs ds/\∀ι H,RVs X.K ι H dvs vs) (hlen:us.length+ds.length+1=ps.length) (N:Now ce X pins ι σi h σ H s) (r:RUs X.K ι H xs us)
  (K:Kont ce X RU pins ι σi σ H ((f (.ref h.length::(xs++dvs)) (h++[.ins c []])).bind λ r h2=>match r with|.non=>.ok (.ref h.length) h2|_=>.stuck) Q E):wpAny (model X.prog X.w) X.A (call (.ref C) us) Q E s:=by
 obtain⟨vs,rv,q⟩:=r
 obtain⟨dv,rd,qd⟩:=hd
 have hl1:=rv.length
 have hl2:=rd.length
 refine wpAny_mono (Jze (Q:=λ z H'=>∀u s',Inv X pins σ H' s'->RelV z u->Q u s') (E:=λ v _ H'=>∀s',Inv X pins σ H' s'->E v s') M F hr hb rd N.inv rv (λ x dx hx hdx hne=>⟨by rw[List.length_cons,List.length_append];omega,?_⟩) λ _ s' _ I' z=>z s' I')
  (λ u s' ⟨z,H',I',r',k'⟩=>k' u s' I' r') λ _ _ z=>z
 -- the new instance in the reading's heap
 obtain⟨R1,n1⟩:=N.rel.grow (o:=.own x) hdx
 have hx1:upd H dx (.own x) x=none:=by rw[Ji (Ne.symm hne)];exact hx
 obtain⟨R2,n2⟩:=R1.alloc (o:=.ins C dx []) (io:=.ins c []) hx1 ⟨C,dx,[],hC,Jf,rfl⟩
 have n12:=n1.trans n2
 have hat:(ι++[x])[h.length]?=some x:=by
  rw[<- N.rel.len,List.getElem?_append_right (Nat.le_refl _)]
  simp
 refine⟨ι++[x],h++[.ins c []],.ref h.length::(xs++dvs),R2,⟨_,_,rfl,⟨x,rfl,hat⟩,(RVs.mono n12 _ _ q).append (qd _ _)⟩,?_⟩
 cases e:f (.ref h.length::(xs++dvs)) (h++[.ins c []]) with
 | ok v h' =>
  rw[e] at K
  intro z H' ι' R' n' qz
  cases v with
  | non =>
   have ez:z=.non:=qz
   subst ez
   exact⟨rfl,λ u s' I' ru=>K u s' H' ι' ⟨I',R',N.st.mono (n12.trans n')⟩ (n12.trans n') ⟨.ref x,ru,x,rfl,n'.at hat⟩⟩
  | _=>exact Zf K
 | exc n h' =>
  rw[e] at K
  exact λ a H' ι' R' n' hi s' I'=>K [] a s' H' ι' ⟨by simpa using I',R',N.st.mono (n12.trans n')⟩ (n12.trans n') hi
 | stuck=>rw[e] at K;exact Zf K
theorem J6b {c:Str}(M:Mk X.K C fa) (F:FnOk X.prog X.w X.K X.mg X.base (CXI X.prog X.w) k fa fd ps (spI ce X.K ps f)) (hC:ce c=some C) (hr:Room (k+1) X.A) (hg:Gl X x) (hm:X.mg x=some (.ref C)) (hb:Jhf X.K fd ps ds) (hd:∃vs,Vals vs ds/\∀ι H,RVs X.K ι H dvs vs)
  (ha:PAi ce X (e::es) ma) (hlen:∀σ h xs h',ma σ h=.ok xs h'->xs.length+ds.length+1=ps.length) (hdb:(x==("__debug__":Str))=false:=by decide) (he:starEach (e::es) X.env=(false,eval e X.env)::starEach es X.env:=by rfl) (hpl:(backTo pos (starEach es X.env)).any (·.1)=false:=by rfl) :
  PEi ce X (.Call (.Name x p) (e::es) [] pos) (Jnj c f dvs ma):=by
 intro pins s σ H ι σi h Q E N K
 refine wpAny_Call_Name_kw (Jiy N.inv hg hm ?_ hdb)
 refine W.callWith_K (h₀:=X.base) N.inv.ok.mod.kin M.kp ?_ he hpl
 have K':=K
 unfold Jnj at K'
 refine ha pos pins s σ H ι σi h _ E N ?_
 cases e0:ma σi h with
 | exc n h'=>rw[e0] at K';exact K'
 | stuck=>rw[e0] at K';exact K'
 | ok xs h' =>
  rw[e0] at K'
  intro us s1 H1 ι1 N1 n1 r1
  have hl:xs.length=us.length:=by
   obtain⟨vs,rv,q⟩:=r1
   rw[<- rv.length,q.length]
  exact⟨N1.inv.kIn,Js2 (us:=us) M F hC hr hb hd (by have:=hlen σi h xs h' e0;omega) N1 r1 (Kont.mono (r:=(f (IV.ref h'.length::(xs++dvs)) (h'++[.ins c []])).bind λ r h2=>match r with|IV.non=>Res.ok (IV.ref h'.length) h2|_=>Res.stuck) K' n1)⟩
theorem J3w {c:Str}(M:Mk X.K C fa) (F:FnOk X.prog X.w X.K X.mg X.base (CXI X.prog X.w) k fa fd ps (spI ce X.K ps f)) (hC:ce c=some C) (hr:Room (k+1) X.A) (hg:Gl X x) (hm:X.mg x=some (.ref C)) (hb:Jhf X.K fd ps ds) (hd:∃vs,Vals vs ds/\∀ι H,RVs X.K ι H dvs vs)
  (hlen:ds.length+1=ps.length) (hdb:(x==("__debug__":Str))=false:=by decide):PEi ce X (.Call (.Name x p) [] [] pos) (Jnj c f dvs aNil):=by
 intro pins s σ H ι σi h Q E N K
 refine wpAny_Call_Name_kw (Jiy N.inv hg hm ?_ hdb)
 exact W.callWith_K0 N.inv.kIn M.kp (Js2 (xs:=[]) M F hC hr hb hd (by simpa using hlen) N .nil K)
noncomputable def Jxe (ce:Str->Option Addr) (X:Cx) (m:Str) (n:Nat) (disp:Str->Option ((List IV->IH->Res IV)×List IV)):Prop :=
 ∀c f dvs,disp c=some (f,dvs)->∃(C fa:Addr) (fd:FuncData) (k:Nat) (ps:List Str) (ds:List Value),ce c=some C/\Cls X.K C/\Meth X.K C m fa/\FnOk X.prog X.w X.K X.mg X.base (CXI X.prog X.w) k fa fd ps (spI ce X.K ps f)/\Room k X.A/\Jhf X.K fd ps ds/\(∃vs,Vals vs ds/\∀ι H,RVs X.K ι H dvs vs)/\n+ds.length+1=ps.length
theorem J6d {n:Nat}{disp:Str->Option ((List IV->IH->Res IV)×List IV)}{pl:Sem Bool}(ho:PEi ce X o mo) (hd:Jxe ce X m n disp) (ha:PAi ce X (e::es) ma) (hlen:∀σ h xs h',ma σ h=.ok xs h'->xs.length=n)
  (hst:starEach (e::es) X.env=(false,eval e X.env)::starEach es X.env:=by rfl) (hpl:(backTo pos (starEach es X.env)).any (·.1)=false:=by rfl)
  (ht:eval (.Call (.Attribute o m apos) (e::es) [] pos) X.env=(do
   let ov<-eval o X.env
   standAt apos.atName
   let (f,first)<-holding [ov] (getMethod ov m pl)
   callWith pos f first (backTo pos (starEach (e::es) X.env)) (backToKw pos (keywordEach [] X.env))):=by rfl) :
  PEi ce X (.Call (.Attribute o m apos) (e::es) [] pos) (J0k m disp mo ma):=by
 intro pins s σ H ι σi h Q E N K
 refine W.methodCall_KW (pl:=pl) (ho.run N K λ v h1 u s1 H1 ι1 N1 n1 r1 K1=>?_) ht
 cases v with
 | ref i =>
  obtain⟨w,rw',a,e1,hi⟩:=r1
  subst e1
  cases rw'
  dsimp only at K1
  cases hh:h1[i]? with
  | none=>rw[hh] at K1;exact Zf K1
  | some ob =>
   cases ob with
   | ins c fs =>
    rw[hh] at K1
    dsimp only at K1
    cases hd1:disp c with
    | none=>rw[hd1] at K1;exact Zf K1
    | some fd1 =>
     obtain⟨f,dvs⟩:=fd1
     cases hl:fs.lookup m with
     | some z=>rw[hd1,hl] at K1;exact Zf K1
     | none =>
      rw[hd1,hl] at K1
      dsimp only at K1
      obtain⟨C,fa,fd,k,ps,ds,hC,cl,hm,F,hr,hb,hdv,hn⟩:=hd c f dvs hd1
      obtain⟨C',dx,vs,hC',hH,rp⟩:=N1.at hh hi
      rw[hC] at hC'
      cases hC'
      refine Jpu N1.inv hH cl hm ((RPs.lookup rp).2 hl) ?_
      refine W.callWith_K (first:=[.ref a]) (h₀:=X.base) N1.inv.ok.mod.kin hm.kp ?_ hst hpl
      refine ha pos pins s1 σ H1 ι1 σi h1 _ E N1 ?_
      cases e0:ma σi h1 with
      | exc n h'=>rw[e0] at K1;exact K1
      | stuck=>rw[e0] at K1;exact K1
      | ok xs h' =>
       rw[e0] at K1
       intro us s2 H2 ι2 N2 n2 r2
       have hl:xs.length=us.length:=by
        obtain⟨vs,rv,q⟩:=r2
        rw[<- rv.length,q.length]
       have hl2:=hlen σi h1 xs h' e0
       refine⟨N2.inv.kIn,Jn5 (us:=.ref a::us) (xs:=.ref i::xs) F hr hb hdv (by rw[List.length_cons];omega) N2 (.cons ⟨.ref a,rfl,a,rfl,n2.at hi⟩ r2) ?_⟩
       exact Kont.mono (r:=(f (.ref i::(xs++dvs)) h')) K1 n2
   | _=>rw[hh] at K1;exact Zf K1
 | _=>exact Zf K1
theorem J3x {disp:Str->Option ((List IV->IH->Res IV)×List IV)}{pl:Sem Bool}(ho:PEi ce X o mo) (hd:Jxe ce X m 0 disp)
  (ht:eval (.Call (.Attribute o m apos) [] [] pos) X.env=(do
   let ov<-eval o X.env
   standAt apos.atName
   let (f,first)<-holding [ov] (getMethod ov m pl)
   callWith pos f first (backTo pos (starEach [] X.env)) (backToKw pos (keywordEach [] X.env))):=by rfl) :
  PEi ce X (.Call (.Attribute o m apos) [] [] pos) (J0k m disp mo aNil):=by
 intro pins s σ H ι σi h Q E N K
 refine W.methodCall_KW (pl:=pl) (ho.run N K λ v h1 u s1 H1 ι1 N1 n1 r1 K1=>?_) ht
 cases v with
 | ref i =>
  obtain⟨w,rw',a,e1,hi⟩:=r1
  subst e1
  cases rw'
  dsimp only at K1
  cases hh:h1[i]? with
  | none=>rw[hh] at K1;exact Zf K1
  | some ob =>
   cases ob with
   | ins c fs =>
    rw[hh] at K1
    dsimp only at K1
    cases hd1:disp c with
    | none=>rw[hd1] at K1;exact Zf K1
    | some fd1 =>
     obtain⟨f,dvs⟩:=fd1
     cases hl:fs.lookup m with
     | some z=>rw[hd1,hl] at K1;exact Zf K1
     | none =>
      rw[hd1,hl] at K1
      dsimp only at K1
      obtain⟨C,fa,fd,k,ps,ds,hC,cl,hm,F,hr,hb,hdv,hn⟩:=hd c f dvs hd1
      obtain⟨C',dx,vs,hC',hH,rp⟩:=N1.at hh hi
      rw[hC] at hC'
      cases hC'
      refine Jpu N1.inv hH cl hm ((RPs.lookup rp).2 hl) ?_
      exact W.callWith_K0 (first:=[.ref a]) N1.inv.kIn hm.kp (Jn5 (us:=[.ref a]) (xs:=[.ref i]) F hr hb hdv (by rw[List.length_cons,List.length_nil];omega) N1 (.cons ⟨.ref a,rfl,a,rfl,hi⟩ .nil) K1)
   | _=>rw[hh] at K1;exact Zf K1
 | _=>exact Zf K1
noncomputable def eFld (f:Str) (o:E1):E1:=λ σ h=>(o σ h).bind λ v h1=>match v with
 | .ref i=>(match h1[i]? with
  | some (.ins _ fs)=>(match fs.lookup f with
   | some x=>.ok x h1
   | none=>.stuck)
  | _=>.stuck)
 | _=>.stuck
noncomputable def Jz6 (ce:Str->Option Addr) (K:W.Frag) (f:Str):Prop:=∀c C,ce c=some C->Cls K C/\Jdz K C f
theorem i_fld {fl:Str}(ho:PEi ce X o mo) (hf:Jz6 ce X.K fl) (hb:attributeBase o fl X.env (eval o X.env)=eval o X.env:=by rfl):PEi ce X (.Attribute o fl pos) (eFld fl mo):=by
 intro pins s σ H ι σi h Q E N K
 refine J28 hb (ho.run N K λ v h1 u s1 H1 ι1 N1 n1 r1 K1=>?_)
 cases v with
 | ref i =>
  obtain⟨w,rw',a,e1,hi⟩:=r1
  subst e1
  cases rw'
  dsimp only at K1
  cases hh:h1[i]? with
  | none=>rw[hh] at K1;exact Zf K1
  | some ob =>
   cases ob with
   | ins c fs =>
    rw[hh] at K1
    dsimp only at K1
    cases hl:fs.lookup fl with
    | none=>rw[hl] at K1;exact Zf K1
    | some z =>
     rw[hl] at K1
     obtain⟨C,dx,vs,hC,hH,rp⟩:=N1.at hh hi
     obtain⟨cl,na⟩:=hf c C hC
     obtain⟨y,hy,q⟩:=(RPs.lookup rp).1 z hl
     exact Jv4 N1.inv hH cl na hy λ u' s2 I2 ru=>K1 u' s2 H1 ι1 ⟨I2,N1.rel,N1.st⟩ .refl ⟨y,ru,q⟩
   | _=>rw[hh] at K1;exact Zf K1
 | _=>exact Zf K1
noncomputable def putI (f:Str) (v:IV):List (Str×IV)->List (Str×IV)
 | []=>[(f,v)]
 | (g,x)::r=>if g=f then(g,v)::r else(g,x)::putI f v r
theorem RPs.put {K:W.Frag}{ι:List Addr}{H:Hp}{fl:Str}{v:IV}{y:V}(q:RV K ι H v y):∀{fs:List (Str×IV)}{vs:List (Str×V)},RPs K ι H fs vs->RPs K ι H (putI fl v fs) (putF fl y vs)
 | [],_,h=>by
  have e:_=[]:=h
  subst e
  exact⟨y,[],rfl,q,rfl⟩
 | (g,x)::r,_,h=>by
  obtain⟨w,vr,e,qx,t⟩:=h
  subst e
  show RPs K ι H (if g=fl then(g,v)::r else(g,x)::putI fl v r) (if g=fl then(g,y)::vr else(g,w)::putF fl y vr)
  by_cases hg:g=fl
  ·rw[if_pos hg,if_pos hg]
   exact⟨y,vr,rfl,q,t⟩
  ·rw[if_neg hg,if_neg hg]
   exact⟨w,_,rfl,qx,RPs.put q t⟩
noncomputable def Jld (f:Str) (o e:E1):S1:=λ σ h=>rS σ (e σ h) λ v h1=>rS σ (o σ h1) λ ov h2=>match ov with
 | .ref i=>(match h2[i]? with
  | some (.ins c fs)=>if fs.length<1000 then .next σ (h2.set i (.ins c (putI f v fs))) else .stuck
  | _=>.stuck)
 | _=>.stuck
theorem s_fld {fl:Str}{value:Expr}{mv:E1}{pos':Pos}(ho:PEi ce X o mo) (hv:PEi ce X value mv) (hf:Jz6 ce X.K fl) (hs:swapsWith value (some (.Attribute o fl pos')) pos.line X.env=pure false:=by rfl):PS1 ce X (.Assign [.Attribute o fl pos'] value pos) (Jld fl mo mv):=by
 intro pins s σ H ι σi h Q E N K
 refine plainObj_wpAny_Assign_Attribute (krun hv N K λ v h1 u s1 H1 ι1 N1 n1 r1 K1=>krun ho N1 K1 λ ov h2 w s2 H2 ι2 N2 n2 r2 K2=>?_) hs
 cases ov with
 | ref i =>
  obtain⟨w,rw',a,e1,hi⟩:=r2
  subst e1
  cases rw'
  dsimp only at K2
  cases hh:h2[i]? with
  | none=>rw[hh] at K2;exact Zf K2
  | some ob =>
   cases ob with
   | ins c fs =>
    rw[hh] at K2
    dsimp only at K2
    split at K2
    ·rename_i hz
     obtain⟨C,dx,vs,hC,hH,rp⟩:=N2.at hh hi
     obtain⟨cl,na⟩:=hf c C hC
     obtain⟨y,ry,q⟩:=r1
     refine Jw7 N2.inv hH cl na (by rw[rp.length];exact hz) ry λ s3 I3=>?_
     have n3:Nxt ι2 H2 ι2 (upd H2 a (.ins C dx (putF fl y vs))):=⟨⟨[],by simp⟩,Ext.upd_mut hH (by rw[hH];exact True.intro)⟩
     obtain⟨R3,_⟩:=N2.rel.write (o:=.ins C dx (putF fl y vs)) (io:=.ins c (putI fl v fs)) hi hH (by rw[hH];exact True.intro) ⟨C,dx,_,hC,Jf,RPs.put (RV.mono (n2.trans n3) _ _ q) (RPs.mono n3 _ _ rp)⟩
     exact K2 s3 σ _ ι2 ⟨I3,R3,N2.st.mono n3⟩ n3
    ·exact Zf K2
   | _=>rw[hh] at K2;exact Zf K2
 | _=>exact Zf K2
end
section
variable {ce:Str->Option Addr}{X:Cx}{a b c:Expr}{ma mb mc:E1}{pos:Pos}
noncomputable def opIx:IV->IV->IH->Res IV
 | .ref i,.int k,h=>match h[i]? with
  | some (.lst xs)=>(match atI xs k with
   | some v=>.ok v h
   | none=>.stuck)
  | _=>.stuck
 | .rol xs,.int k,h=>match atI xs k with
  | some v=>.ok v h
  | none=>.stuck
 | .tup xs,.int k,h=>match atI xs k with
  | some v=>.ok v h
  | none=>.stuck
 | .str x,.int k,h=>if x.length<=sizeLine then(match atI x.cps.toList k with
  | some c=>.ok (.str ⟨#[c]⟩) h
  | none=>.stuck) else .stuck
 | _,_,_=>.stuck
theorem Jtw {K:W.Frag}{ι:List Addr}{H:Hp}{xs:List IV}{vs:List V}{k:Int}{v:IV}(r:RVs K ι H xs vs) (e:atI xs k=some v):∃u,atI vs k=some u/\RV K ι H v u:=by
 unfold atI at e ⊢
 rw[r.length]
 cases q:ixN xs.length k with
 | none=>rw[q] at e;cases e
 | some j =>
  rw[q] at e
  exact r.get e
noncomputable def IxI (ce:Str->Option Addr) (X:Cx) (g:IV->IV->IH->Res IV):Prop :=
 ∀(value slice:Expr) (pins:List (Addr×Obj)) (s:Shared) (σ:L2.St) (H:Hp) (ι:List Addr) (σi:ISt) (h:IH) (x y:IV) (v u:Value) (Q:Value->Shared->Prop) (E:Value->Shared->Prop),Now ce X pins ι σi h σ H s->RU X.K ι H x v->RU X.K ι H y u ->
  Kont ce X RU pins ι σi σ H (g x y h) Q E->subscripted slice false v u=operate [v,u] (getItem v u)->wpAny (model X.prog X.w) X.A (subscriptTail value slice v u) Q E s
theorem Jvp {pins:List (Addr×Obj)}{s:Shared}{σ:L2.St}{H:Hp}{Q:Value->Shared->Prop}{E:Value->Shared->Prop}{r:R2}{value slice:Expr}{x y:V}{v u:Value}(p:IxR (X.wish E) r) (I:Inv X pins σ H s) (rx:RelV x v) (ry:RelV y u)
  (k:r x y H λ z H'=>∀u s',Inv X pins σ H' s'->RelV z u->Q u s') (hs:subscripted slice false v u=operate [v,u] (getItem v u)):wpAny (model X.prog X.w) X.A (subscriptTail value slice v u) Q E s :=
 wpAny_mono (p value slice pins s σ H x y v u _ (I.wish E) rx ry k hs) (λ u s' ⟨_,_,I',r,q⟩=>q u s' I'.unwish r) λ _ _ z=>z
theorem x_ix:IxI ce X opIx:=by
 intro value slice pins s σ H ι σi h x y v u Q E N rx ry K hs
 obtain⟨xv,rx,qx⟩:=rx
 obtain⟨yv,ry,qy⟩:=ry
 cases y with
 | int k =>
  have e2:yv=.int k:=qy
  subst e2
  cases x with
  | ref i =>
   obtain⟨a,e1,ha⟩:=qx
   subst e1
   dsimp only[opIx] at K
   cases hi:h[i]? with
   | none=>rw[hi] at K;exact Zf K
   | some ob =>
    rw[hi] at K
    cases ob with
    | lst xs =>
     dsimp only at K
     cases hk:atI xs k with
     | none=>rw[hk] at K;exact Zf K
     | some z =>
      rw[hk] at K
      obtain⟨vs,e1,r1⟩:=N.at hi ha
      obtain⟨w,hw,qw⟩:=Jtw r1 hk
      exact Jvp (Jyp (X:=X.wish E)) N.inv rx ry ⟨a,vs,k,w,rfl,rfl,SqL.of e1,hw,fin0 N K qw⟩ hs
    | _=>exact Zf K
  | rol xs =>
   obtain⟨a,vs,e1,sa,ra⟩:=qx
   subst e1
   dsimp only[opIx] at K
   cases hk:atI xs k with
   | none=>rw[hk] at K;exact Zf K
   | some z =>
    rw[hk] at K
    obtain⟨w,hw,qw⟩:=Jtw ra hk
    exact Jvp (Jyp (X:=X.wish E)) N.inv rx ry ⟨a,vs,k,w,rfl,rfl,sa.sq,hw,fin0 N K qw⟩ hs
  | tup xs =>
   obtain⟨a,vs,e1,sa,ra⟩:=qx
   subst e1
   dsimp only[opIx] at K
   cases hk:atI xs k with
   | none=>rw[hk] at K;exact Zf K
   | some z =>
    rw[hk] at K
    obtain⟨w,hw,qw⟩:=Jtw ra hk
    exact Jvp (J6m (X:=X.wish E)) N.inv rx ry ⟨a,vs,k,w,rfl,rfl,sa,hw,fin0 N K qw⟩ hs
  | str x =>
   have e1:xv=.str x:=qx
   subst e1
   dsimp only[opIx] at K
   split at K
   ·rename_i hz
    cases hk:atI x.cps.toList k with
    | none=>rw[hk] at K;exact Zf K
    | some z =>
     rw[hk] at K
     exact Jvp (J6l (X:=X.wish E)) N.inv rx ry ⟨x,k,z,rfl,rfl,hz,hk,fin0 N K rfl⟩ hs
   ·exact Zf K
  | _=>exact Zf K
 | _=>cases x<;>exact Zf K
theorem i_ix {g:IV->IV->IH->Res IV}(hg:IxI ce X g) (ha:PEi ce X a ma) (hb:PEi ce X b mb) (hs:Jxf b:=by intro _ _;rfl):PEi ce X (.Subscript a b pos) (eBin g ma mb):=λ pins s σ H ι σi h Q E N K =>
 Subscript_ (ha.run N K λ x h1 u s1 H1 ι1 N1 n1 r1 K1=>hb.run N1 K1 λ y h2 w s2 H2 ι2 N2 n2 r2 K2=>hg a b pins s2 σ H2 ι2 σi h2 x y u w Q E N2 (r1.mono n2) r2 K2 (hs _ _))
noncomputable abbrev O1:=ISt->IH->Res (Option Int)
noncomputable def RPart:REL (Option Int) Value:=λ _ _ _ o u=>IsPart u o
noncomputable def PPi (ce:Str->Option Addr) (X:Cx) (e:Option Expr) (m:O1):Prop:=PX ce X RPart (evalPart e X.env) m
noncomputable def Jox:O1:=λ _ h=>.ok none h
noncomputable def Jk9 (e:E1):O1:=λ σ h=>(e σ h).bind λ v h1=>match v with
 | .int i=>.ok (some i) h1
 | _=>.stuck
theorem J69:PPi ce X none Jox:=by
 intro pins s σ H ι σi h Q E N K
 rw[evalPart_none]
 exact wpAny_pure (K _ s H ι N .refl .none)
theorem J7a (ha:PEi ce X a ma):PPi ce X (some a) (Jk9 ma):=by
 intro pins s σ H ι σi h Q E N K
 rw[evalPart_some]
 refine ha.run N K λ x h1 u s1 H1 ι1 N1 n1 r1 K1=>?_
 cases x with
 | int i =>
  obtain⟨w,rw',q⟩:=r1
  have e:w=.int i:=q
  subst e
  obtain⟨t,rfl⟩:=rw'
  exact K1 _ s1 H1 ι1 N1 .refl (.int i t)
 | _=>exact Zf K1
noncomputable def cutI {α:Type}(xs:List α) (lo hi:Option Int):List α:=(xs.drop (HT.sIx xs.length 0 lo)).take (HT.sIx xs.length xs.length hi-HT.sIx xs.length 0 lo)
noncomputable def slI:IV->Option Int->Option Int->IH->Res IV
 | .ref i,lo,hi,h=>match h[i]? with
  | some (.lst xs)=>.ok (.ref h.length) (h++[.lst (cutI xs lo hi)])
  | _=>.stuck
 | .rol xs,lo,hi,h=>.ok (.ref h.length) (h++[.lst (cutI xs lo hi)])
 | _,_,_,_=>.stuck
theorem RVs.cut {K:W.Frag}{ι:List Addr}{H:Hp}{xs:List IV}{vs:List V}(r:RVs K ι H xs vs) (lo hi:Option Int):RVs K ι H (cutI xs lo hi) (cutV vs lo hi):=by
 unfold cutI cutV
 rw[r.length]
 exact(r.drop _).take _
noncomputable def eSl (f:IV->Option Int->Option Int->IH->Res IV) (e:E1) (lo hi:O1):E1:=λ σ h=>(e σ h).bind λ x h1=>(lo σ h1).bind λ l h2=>(hi σ h2).bind λ u h3=>f x l u h3
noncomputable def SlI (ce:Str->Option Addr) (X:Cx) (g:IV->Option Int->Option Int->IH->Res IV):Prop :=
 ∀(pins:List (Addr×Obj)) (s:Shared) (σ:L2.St) (H:Hp) (ι:List Addr) (σi:ISt) (h:IH) (x:IV) (v vl vu:Value) (lo hi:Option Int) (sl:Addr) (Q:Value->Shared->Prop) (E:Value->Shared->Prop),Now ce X pins ι σi h σ H s->RU X.K ι H x v->s.heap.IsSliceOf sl vl vu .none->IsPart vl lo->IsPart vu hi ->
  Kont ce X RU pins ι σi σ H (g x lo hi h) Q E->∃T id,typeLookup (.type T) "__getitem__"=pure (some (.builtin id))/\s.TypeIs v T/\wpAny (model X.prog X.w) X.A (getItem v (.ref sl)) Q E s
theorem J20 {pins:List (Addr×Obj)}{s:Shared}{σ:L2.St}{H:Hp}{Q:Value->Shared->Prop}{E:Value->Shared->Prop}{r:V->Option Int->Option Int->Hp->VK->Prop}{x:V}{v vl vu:Value}{lo hi:Option Int}{sl:Addr}(p:SlR (X.wish E) r) (I:Inv X pins σ H s) (rx:RelV x v)
  (hs:s.heap.IsSliceOf sl vl vu .none) (pl:IsPart vl lo) (pu:IsPart vu hi) (k:r x lo hi H λ z H'=>∀u s',Inv X pins σ H' s'->RelV z u->Q u s') :
  ∃T id,typeLookup (.type T) "__getitem__"=pure (some (.builtin id))/\s.TypeIs v T/\wpAny (model X.prog X.w) X.A (getItem v (.ref sl)) Q E s:=by
 obtain⟨T,id,h1,h2,h3⟩:=p pins s σ H x v vl vu lo hi sl _ (I.wish E) rx hs pl pu k
 exact⟨T,id,h1,h2,wpAny_mono h3 (λ u s' ⟨_,_,I',r,q⟩=>q u s' I'.unwish r) λ _ _ z=>z⟩
theorem J3y {g:IV->Option Int->Option Int->IH->Res IV}{lo hi:Option Expr}{ml mh:O1}{p2:Pos}(hr:SlI ce X g) (he:PEi ce X a ma) (hl:PPi ce X lo ml) (hu:PPi ce X hi mh):PEi ce X (.Subscript a (.Slice lo hi none p2) pos) (eSl g ma ml mh):=by
 intro pins s σ H ι σi h Q E N K
 refine Subscript_ (he.run N K λ x h1 v s1 H1 ι1 N1 n1 r1 K1=>?_)
 refine wpAny_Slice (PX.run hl N1 K1 λ l h2 vl s2 H2 ι2 N2 n2 pl K2=>PX.run hu N2 K2 λ u h3 vu s3 H3 ι3 N3 n3 pu K3=>?_)
 rw[evalPart_none]
 refine wpAny_pure ?_
 have I4:Inv X pins σ H3 { s3 with heap:=s3.heap.push { cls:=.type "slice",data:=.fields #[vl,vu,.none] } }:=N3.inv.kept (t':=s3.toks) λ b ob q=>Heap.get?_push_of_some _ q
 obtain⟨T,id,hT,ht,hg⟩:=hr pins { s3 with heap:=s3.heap.push { cls:=.type "slice",data:=.fields #[vl,vu,.none] } } σ H3 ι3 σi h3 x v vl vu l u s3.heap.objs.size Q E ⟨I4,N3.rel,N3.st⟩ ((r1.mono n2).mono n3) (Heap.IsSliceOf.new ..) pl pu K3
 show wpAny (model X.prog X.w) X.A (subscriptTail a (.Slice lo hi none p2) v (.ref s3.heap.objs.size)) Q E { s3 with heap:=s3.heap.push { cls:=.type "slice",data:=.fields #[vl,vu,.none] } }
 exact tail_any (ops:=[.ref s3.heap.objs.size,v]) ht hT hg (by with_unfolding_all rfl)
noncomputable def eCB (f:List IV->IH->Res IV) (a:A1):E1:=λ σ h=>(a σ h).bind f
variable {es:List Expr}{mr:A1}{x:Str}{p:Pos}{id T:String}{g:List IV->IH->Res IV}
theorem Jdd (hc:Jfq ce X (.builtin id) g) (hg:Gl X x) (hm:X.mg x=none) (hv:bootBuiltins x=some (.builtin id)) (ha:PAi ce X (a::es) mr) (hn:x≠"__name__":=by decide) (hdb:(x==("__debug__":Str))=false:=by decide)
  (he:starEach (a::es) X.env=(false,eval a X.env)::starEach es X.env:=by rfl) (hpl:(backTo pos (starEach es X.env)).any (·.1)=false:=by rfl):PEi ce X (.Call (.Name x p) (a::es) [] pos) (eCB g mr):=λ pins s σ H ι σi h Q E N K =>
 wpAny_Call_Name_kw (Jhs N.inv hg hm hv (PyProof.Rows.callWith_builtin1 ((ha pos).run N K λ xs h1 us s1 H1 ι1 N1 n1 r1 K1=>hc pins s1 σ H1 ι1 σi h1 xs us Q E N1 r1 K1) he hpl) hn hdb)
theorem Jub (hc:Jfq ce X (.type T) g) (hg:Gl X x) (hm:X.mg x=none) (hv:bootBuiltins x=some (.type T)) (ha:PAi ce X (a::es) mr) (hn:x≠"__name__":=by decide) (hdb:(x==("__debug__":Str))=false:=by decide)
  (he:starEach (a::es) X.env=(false,eval a X.env)::starEach es X.env:=by rfl) (hpl:(backTo pos (starEach es X.env)).any (·.1)=false:=by rfl):PEi ce X (.Call (.Name x p) (a::es) [] pos) (eCB g mr):=λ pins s σ H ι σi h Q E N K =>
 wpAny_Call_Name_kw (Jhs N.inv hg hm hv (PyProof.Rows.callWith_type1 ((ha pos).run N K λ xs h1 us s1 H1 ι1 N1 n1 r1 K1=>hc pins s1 σ H1 ι1 σi h1 xs us Q E N1 r1 K1) he hpl) hn hdb)
noncomputable def on1 (f:IV->IH->Res IV):List IV->IH->Res IV
 | [x],h=>f x h
 | _,_=>.stuck
noncomputable def on2 (f:IV->IV->IH->Res IV):List IV->IH->Res IV
 | [x,y],h=>f x y h
 | _,_=>.stuck
theorem RVs.one_of {K:W.Frag}{ι:List Addr}{H:Hp}{x:IV}{vs:List V}(r:RVs K ι H [x] vs):∃v,vs=[v]/\RV K ι H x v:=by
 obtain⟨v,r',e,q,q2⟩:=r
 have e2:r'=[]:=q2
 subst e2
 exact⟨v,e,q⟩
theorem RVs.two_of {K:W.Frag}{ι:List Addr}{H:Hp}{x y:IV}{vs:List V}(r:RVs K ι H [x,y] vs):∃v w,vs=[v,w]/\RV K ι H x v/\RV K ι H y w:=by
 obtain⟨v,r',e,q,r2⟩:=r
 obtain⟨w,e2,q2⟩:=r2.one_of
 subst e2
 exact⟨v,w,e,q,q2⟩
theorem Jl7 {fv:Value}{f:IV->IH->Res IV}(hh:∀(pins:List (Addr×Obj)) (s:Shared) (σ:L2.St) (H:Hp) (ι:List Addr) (σi:ISt) (h:IH) (x:IV) (xv:V) (u:Value) (Q:Value->Shared->Prop) (E:Value->Shared->Prop),Now ce X pins ι σi h σ H s->RelV xv u->RV X.K ι H x xv ->
  Kont ce X RU pins ι σi σ H (f x h) Q E->wpAny (model X.prog X.w) X.A (call fv [u]) Q E s):Jfq ce X fv (on1 f):=by
 intro pins s σ H ι σi h xs us Q E N r K
 obtain⟨vs,rv,q⟩:=r
 match xs,K with
 | [x],K =>
  obtain⟨v,e,qx⟩:=q.one_of
  subst e
  obtain⟨u,rfl,ru⟩:=Jmm rv
  exact hh pins s σ H ι σi h x v u Q E N ru qx K
 | [],K=>exact Zf K
 | _::_::_,K=>exact Zf K
noncomputable def lenI:IV->IH->Res IV
 | .str x,h=>if x.length<=sizeLine then .ok (.int x.length) h else .stuck
 | .tup xs,h=>.ok (.int xs.length) h
 | .rol xs,h=>.ok (.int xs.length) h
 | .ref i,h=>match h[i]? with
  | some (.lst xs)=>.ok (.int xs.length) h
  | _=>.stuck
 | _,_=>.stuck
theorem c_len:Jfq ce X (.builtin "len") (on1 lenI):=Jl7 λ pins s σ H ι σi h x xv u Q E N ru qx K=>by
 cases x with
 | str y =>
  have e:xv=.str y:=qx
  subst e
  dsimp only[lenI] at K
  split at K
  ·rename_i hz
   exact Jat (Jmo (X:=X.wish E)) N.inv (.cons ru .nil) ⟨_,_,rfl,⟨hz,rfl⟩,fin0 N K rfl⟩
  ·exact Zf K
 | tup xs =>
  obtain⟨a,vs,e1,sa,ra⟩:=qx
  subst e1
  exact Jat (Jmo (X:=X.wish E)) N.inv (.cons ru .nil) ⟨_,xs.length,rfl,.inr ⟨vs,sa,ra.length.symm⟩,fin0 N K rfl⟩
 | rol xs =>
  obtain⟨a,vs,e1,sa,ra⟩:=qx
  subst e1
  exact Jat (Jmo (X:=X.wish E)) N.inv (.cons ru .nil) ⟨_,xs.length,rfl,.inl ⟨vs,sa.sq,ra.length.symm⟩,fin0 N K rfl⟩
 | ref i =>
  obtain⟨a,e1,ha⟩:=qx
  subst e1
  dsimp only[lenI] at K
  cases hi:h[i]? with
  | none=>rw[hi] at K;exact Zf K
  | some ob =>
   rw[hi] at K
   cases ob with
   | lst xs =>
    obtain⟨vs,e1,r1⟩:=N.at hi ha
    exact Jat (Jmo (X:=X.wish E)) N.inv (.cons ru .nil) ⟨_,xs.length,rfl,.inl ⟨vs,SqL.of e1,r1.length.symm⟩,fin0 N K rfl⟩
   | _=>exact Zf K
 | _=>exact Zf K
end
noncomputable def ALen (n:Nat) (m:A1):Prop:=∀σ h xs h',m σ h=.ok xs h'->xs.length=n
theorem Jz7:ALen 0 aNil:=λ _ _ xs _ e=>by
 unfold aNil at e
 cases e
 rfl
theorem Jxi {n:Nat}{e:E1}{r:A1}(hr:ALen n r):ALen (n+1) (Ja e r):=λ σ h xs h' q=>by
 unfold Ja at q
 cases e1:e σ h with
 | ok x h1 =>
  rw[e1] at q
  change (r σ h1).bind (λ xs h2=>.ok (x::xs) h2)=_ at q
  cases e2:r σ h1 with
  | ok ys h2 =>
   rw[e2] at q
   cases q
   rw[List.length_cons,hr σ h1 ys _ e2]
  | exc n h2=>rw[e2] at q;cases q
  | stuck=>rw[e2] at q;cases q
 | exc n h1=>rw[e1] at q;cases q
 | stuck=>rw[e1] at q;cases q
theorem hl1 {n:Nat}{ma:A1}{ds:List Value}{ps:List Str}(l:ALen n ma) (hn:n+ds.length+1=ps.length:=by rfl):∀σ h xs h',ma σ h=.ok xs h'->xs.length+ds.length+1=ps.length:=λ σ h xs h' e=>by
 rw[l σ h xs h' e]
 exact hn
noncomputable def Jw8 (K:W.Frag) (x:Str) (f:List IV->IH->Res IV):Sp:=λ vs H Q E=>∀ce,spI ce K [x] f vs H Q E
theorem J0l {P:Program}{w:World}{K:W.Frag}{mg:Str->Option Value}{base:Heap}{k:Nat}{fa:Addr}{fd:FuncData}{x:Str}{f:List IV->IH->Res IV}{ce:Str->Option Addr}(F:FnOk P w K mg base (CXI P w) k fa fd [x] (spI ce K [x] f)) :
  FnOk P w K mg base (CXI P w) k fa fd [x] (Jw8 K x f):=F.imp λ _ _ _ _ h=>h ce
noncomputable def toD (h:IH):Nat->IV->Option PyData
 | 0=>λ v=>match v with
  | .non=>some .none
  | .bl b=>some (.bool b)
  | .int i=>some (.int i)
  | .str x=>some (.str x)
  | _=>none
 | n+1=>λ v=>match v with
  | .non=>some .none
  | .bl b=>some (.bool b)
  | .int i=>some (.int i)
  | .str x=>some (.str x)
  | .tup xs=>(xs.mapM (toD h n)).map .tuple
  | .rol xs=>(xs.mapM (toD h n)).map .list
  | .ref i=>match h[i]? with
   | some (.lst xs)=>(xs.mapM (toD h n)).map .list
   | _=>none
section
variable {ce:Str->Option Addr}{X:Cx}
theorem Jff {pins:List (Addr×Obj)}{s:Shared}{σ:L2.St}{H:Hp}{ι:List Addr}{σi:ISt}{h:IH}{n:Nat}(N:Now ce X pins ι σi h σ H s)
  (ih:∀(v:IV) (d:PyData) (x:V) (u:Value),toD h n v=some d->RV X.K ι H v x->RelV x u->∃as,Reads s.heap u d as) :
  ∀(xs:List IV) (ds:List PyData) (vs:List V) (us:List Value),xs.mapM (toD h n)=some ds->RVs X.K ι H xs vs->Vals vs us->∃as,ReadsAll s.heap us ds as
 | [],ds,vs,us,e,q,r=>by
  have e1:vs=[]:=q
  subst e1
  cases r
  simp at e
  subst e
  exact⟨_,.nil⟩
 | x::xs,ds,vs,us,e,q,r=>by
  obtain⟨v,vr,e1,q1,q2⟩:=q
  subst e1
  cases r with
  | cons r1 r2 =>
   rw[List.mapM_cons] at e
   cases e2:toD h n x with
   | none=>rw[e2] at e;cases e
   | some d =>
    rw[e2] at e
    cases e3:xs.mapM (toD h n) with
    | none=>rw[e3] at e;cases e
    | some dr =>
     rw[e3] at e
     cases e
     obtain⟨as,h1⟩:=ih x d v _ e2 q1 r1
     obtain⟨bs,h2⟩:=Jff N ih xs dr vr _ e3 q2 r2
     exact⟨_,.cons h1 h2⟩
theorem Jmu {pins:List (Addr×Obj)}{s:Shared}{σ:L2.St}{H:Hp}{ι:List Addr}{σi:ISt}{h:IH}(N:Now ce X pins ι σi h σ H s):∀(n:Nat) (v:IV) (d:PyData) (x:V) (u:Value),toD h n v=some d->RV X.K ι H v x->RelV x u->∃as,Reads s.heap u d as:=by
 have flat:∀(v:IV) (d:PyData) (x:V) (u:Value),toD h 0 v=some d->RV X.K ι H v x->RelV x u->∃as,Reads s.heap u d as:=by
  intro v d x u e q r
  cases v with
  | non=>cases e;have e1:x=.non:=q;subst e1;cases r;exact⟨_,.none⟩
  | bl b=>cases e;have e1:x=.bl b:=q;subst e1;cases r;exact⟨_,.bool b⟩
  | int i=>cases e;have e1:x=.int i:=q;subst e1;obtain⟨t,rfl⟩:=r;exact⟨_,.int i t⟩
  | str z=>cases e;have e1:x=.str z:=q;subst e1;obtain⟨t,rfl⟩:=r;exact⟨_,.str z t⟩
  | _=>cases e
 intro n
 induction n with
 | zero=>exact flat
 | succ n ih =>
  intro v d x u e q r
  cases v with
  | non=>exact flat .non d x u e q r
  | bl b=>exact flat (.bl b) d x u e q r
  | int i=>exact flat (.int i) d x u e q r
  | str z=>exact flat (.str z) d x u e q r
  | tup xs =>
   obtain⟨a,vs,e1,sa,ra⟩:=q
   subst e1
   cases r
   obtain⟨ds,e2,rfl⟩:=Option.map_eq_some_iff.mp (show(xs.mapM (toD h n)).map PyData.tuple=some d from e)
   obtain⟨its,rv,⟨o,ho,hc,m,hd⟩,hz⟩:=N.inv.tuple sa
   obtain⟨as,h1⟩:=Jff N ih xs ds vs its e2 ra rv
   exact⟨_,.tuple ho hc hd h1⟩
  | rol xs =>
   obtain⟨a,vs,e1,sa,ra⟩:=q
   subst e1
   cases r
   obtain⟨ds,e2,rfl⟩:=Option.map_eq_some_iff.mp (show(xs.mapM (toD h n)).map PyData.list=some d from e)
   obtain⟨its,rv,⟨o,m,ho,hc,_,hd⟩,hz⟩:=N.inv.list sa.sq
   obtain⟨as,h1⟩:=Jff N ih xs ds vs its e2 ra rv
   exact⟨_,.list ho hc hd h1⟩
  | ref i =>
   obtain⟨a,e1,ha⟩:=q
   subst e1
   cases r
   have e':(match h[i]? with|some (.lst xs)=>(xs.mapM (toD h n)).map PyData.list|_=>none)=some d:=e
   cases hi:h[i]? with
   | none=>rw[hi] at e';cases e'
   | some ob =>
    rw[hi] at e'
    cases ob with
    | lst xs =>
     obtain⟨ds,e2,rfl⟩:=Option.map_eq_some_iff.mp e'
     obtain⟨vs,e1,r1⟩:=N.at hi ha
     obtain⟨its,rv,⟨o,m,ho,hc,_,hd⟩,hz⟩:=N.inv.list (SqL.of e1)
     obtain⟨as,h1⟩:=Jff N ih xs ds vs its e2 r1 rv
     exact⟨_,.list ho hc hd h1⟩
    | _=>cases e'
theorem Jfa {n:Nat}{f:IV->Option PyData}(hf:∀v d,f v=some d->d.depth<=n):∀(xs:List IV) (ds:List PyData),xs.mapM f=some ds->PyData.depthAll ds<=n
 | [],ds,e=>by simp at e;subst e;exact Nat.zero_le _
 | x::xs,ds,e=>by
  rw[List.mapM_cons] at e
  cases e2:f x with
  | none=>rw[e2] at e;cases e
  | some d =>
   rw[e2] at e
   cases e3:xs.mapM f with
   | none=>rw[e3] at e;cases e
   | some dr =>
    rw[e3] at e
    cases e
    have h1:=hf x d e2
    have h2:=Jfa hf xs dr e3
    show max d.depth (PyData.depthAll dr)<=n
    omega
theorem Jtk {h:IH}:∀(n:Nat) (v:IV) (d:PyData),toD h n v=some d->d.depth<=n:=by
 intro n
 induction n with
 | zero =>
  intro v d e
  cases v<;>cases e<;>exact Nat.le_refl _
 | succ n ih =>
  intro v d e
  cases v with
  | non=>cases e;exact Nat.zero_le _
  | bl b=>cases e;exact Nat.zero_le _
  | int i=>cases e;exact Nat.zero_le _
  | str z=>cases e;exact Nat.zero_le _
  | tup xs =>
   obtain⟨ds,e2,rfl⟩:=Option.map_eq_some_iff.mp (show(xs.mapM (toD h n)).map PyData.tuple=some d from e)
   exact Nat.succ_le_succ (Jfa ih xs ds e2)
  | rol xs =>
   obtain⟨ds,e2,rfl⟩:=Option.map_eq_some_iff.mp (show(xs.mapM (toD h n)).map PyData.list=some d from e)
   exact Nat.succ_le_succ (Jfa ih xs ds e2)
  | ref i =>
   have e':(match h[i]? with|some (.lst xs)=>(xs.mapM (toD h n)).map PyData.list|_=>none)=some d:=e
   cases hi:h[i]? with
   | none=>rw[hi] at e';cases e'
   | some ob =>
    rw[hi] at e'
    cases ob with
    | lst xs =>
     obtain⟨ds,e2,rfl⟩:=Option.map_eq_some_iff.mp e'
     exact Nat.succ_le_succ (Jfa ih xs ds e2)
    | _=>cases e'
noncomputable def Jku:IV->IV->Option Bool
 | .non,.non=>some true
 | .int i,.int j=>some (decide (i=j))
 | .str i,.str j=>some (decide (i=j))
 | .bl i,.bl j=>some (decide (i=j))
 | _,_=>none
noncomputable def Jiv (x y:IV) (h:IH):Option Bool:=match toD h 6 x,toD h 6 y with
 | some a,some b=>if a.canLay0=true/\b.canLay0=true then some (PyData.eqv a b) else none
 | _,_=>none
noncomputable def cEq (x y:IV) (h:IH):Res IV:=match Jku x y with
 | some b=>.ok (.bl b) h
 | none=>match Jiv x y h with
  | some b=>.ok (.bl b) h
  | none=>.stuck
noncomputable def cNe (x y:IV) (h:IH):Res IV:=match Jku x y with
 | some b=>.ok (.bl (!b)) h
 | none=>match Jiv x y h with
  | some b=>.ok (.bl (!b)) h
  | none=>.stuck
theorem Ju8 {x y:IV}{h:IH}{b:Bool}(e:Jiv x y h=some b):∃da db,toD h 6 x=some da/\toD h 6 y=some db/\da.canLay0=true/\db.canLay0=true/\b=PyData.eqv da db:=by
 unfold Jiv at e
 cases e1:toD h 6 x with
 | none=>rw[e1] at e;cases e
 | some da =>
  cases e2:toD h 6 y with
  | none=>rw[e1,e2] at e;cases e
  | some db =>
   rw[e1,e2] at e
   dsimp only at e
   split at e
   ·rename_i hz
    cases e
    exact⟨da,db,rfl,rfl,hz.1,hz.2,rfl⟩
   ·cases e
theorem Jtg {K:W.Frag}{ι:List Addr}{H:Hp}{x y:IV}{b:Bool}{xv yv:V}(e:Jku x y=some b) (qx:RV K ι H x xv) (qy:RV K ι H y yv):scal xv yv=true/\decide (xv=yv)=b:=by
 cases x with
 | non =>
  cases y with
  | non=>cases e;cases (show xv=.non from qx);cases (show yv=.non from qy);exact⟨rfl,rfl⟩
  | _=>cases e
 | int i =>
  cases y with
  | int j=>cases e;cases (show xv=.int i from qx);cases (show yv=.int j from qy);exact⟨rfl,by simp⟩
  | _=>cases e
 | str i =>
  cases y with
  | str j=>cases e;cases (show xv=.str i from qx);cases (show yv=.str j from qy);exact⟨rfl,by simp⟩
  | _=>cases e
 | bl i =>
  cases y with
  | bl j=>cases e;cases (show xv=.bl i from qx);cases (show yv=.bl j from qy);exact⟨rfl,by simp⟩
  | _=>cases e
 | _=>cases y<;>cases e
theorem o_eq (hu:X.A.units+64<cLine):OpI ce X (compareOp .Eq) cEq:=by
 intro pins s σ H ι σi h x y v u Q E N rx ry K
 obtain⟨xv,rx,qx⟩:=rx
 obtain⟨yv,ry,qy⟩:=ry
 unfold cEq at K
 cases es:Jku x y with
 | some b =>
  rw[es] at K
  obtain⟨h1,h2⟩:=Jtg es qx qy
  exact Jbc (op_eq (X:=X.wish E)) N.inv rx ry ⟨h1,by rw[h2];exact fin0 N K rfl⟩
 | none =>
  rw[es] at K
  dsimp only at K
  cases ed:Jiv x y h with
  | none=>rw[ed] at K;exact Zf K
  | some b =>
   rw[ed] at K
   obtain⟨da,db,e1,e2,c1,c2,rfl⟩:=Ju8 ed
   obtain⟨as,r1⟩:=Jmu N 6 x da xv v e1 qx rx
   obtain⟨bs,r2⟩:=Jmu N 6 y db yv u e2 qy ry
   have d1:=Jtk 6 x da e1
   exact PySem.SeqAt.compareEq_reads r1 r2 c1 c2 (by omega) (fin0 N K rfl _ s N.inv rfl)
theorem o_ne (hu:X.A.units+64<cLine):OpI ce X (compareOp .NotEq) cNe:=by
 intro pins s σ H ι σi h x y v u Q E N rx ry K
 obtain⟨xv,rx,qx⟩:=rx
 obtain⟨yv,ry,qy⟩:=ry
 unfold cNe at K
 cases es:Jku x y with
 | some b =>
  rw[es] at K
  obtain⟨h1,h2⟩:=Jtg es qx qy
  exact Jbc (op_ne (X:=X.wish E)) N.inv rx ry ⟨h1,by rw[h2];exact fin0 N K rfl⟩
 | none =>
  rw[es] at K
  dsimp only at K
  cases ed:Jiv x y h with
  | none=>rw[ed] at K;exact Zf K
  | some b =>
   rw[ed] at K
   obtain⟨da,db,e1,e2,c1,c2,rfl⟩:=Ju8 ed
   obtain⟨as,r1⟩:=Jmu N 6 x da xv v e1 qx rx
   obtain⟨bs,r2⟩:=Jmu N 6 y db yv u e2 qy ry
   have d1:=Jtk 6 x da e1
   exact PySem.SeqAt.compareNe_reads r1 r2 c1 c2 (by omega) (fin0 N K rfl _ s N.inv rfl)
noncomputable def inI (x c:IV) (h:IH):Option Bool:=match toD h 6 c,toD h 6 x with
 | some (.list ds),some d=>if PyData.canLayAll0 ds=true/\d.canLay0=true then some (ds.any λ y=>PyData.eqv y d) else none
 | some (.tuple ds),some d=>if PyData.canLayAll0 ds=true/\d.canLay0=true then some (ds.any λ y=>PyData.eqv y d) else none
 | _,_=>none
noncomputable def cIn (x c:IV) (h:IH):Res IV:=match inI x c h with
 | some b=>.ok (.bl b) h
 | none=>.stuck
noncomputable def cNotIn (x c:IV) (h:IH):Res IV:=match inI x c h with
 | some b=>.ok (.bl (!b)) h
 | none=>.stuck
noncomputable def isI:IV->IV->Option Bool
 | .non,.non=>some true
 | .bl a,.bl b=>some (a==b)
 | .bl _,.non=>some false
 | .int _,.non=>some false
 | .str _,.non=>some false
 | .tup _,.non=>some false
 | .rol _,.non=>some false
 | .ref _,.non=>some false
 | .non,.bl _=>some false
 | .int _,.bl _=>some false
 | .str _,.bl _=>some false
 | .tup _,.bl _=>some false
 | .rol _,.bl _=>some false
 | .ref _,.bl _=>some false
 | _,_=>none
noncomputable def cIs (x y:IV) (h:IH):Res IV:=match isI x y with
 | some b=>.ok (.bl b) h
 | none=>.stuck
noncomputable def Jxx (x y:IV) (h:IH):Res IV:=match isI x y with
 | some b=>.ok (.bl (!b)) h
 | none=>.stuck
theorem J2e {K:W.Frag}{ι:List Addr}{H:Hp}{x y:IV}{b:Bool}{v u:Value}(e:isI x y=some b) (rx:RU K ι H x v) (ry:RU K ι H y u):plainIs v u=true/\(v==u)=b:=by
 obtain⟨xv,rx,qx⟩:=rx
 obtain⟨yv,ry,qy⟩:=ry
 cases y with
 | non =>
  cases (show yv=.non from qy)
  cases ry
  cases x with
  | non=>cases e;cases (show xv=.non from qx);cases rx;exact⟨rfl,rfl⟩
  | bl c=>cases e;cases (show xv=.bl c from qx);cases rx;exact⟨rfl,rfl⟩
  | int c=>cases e;cases (show xv=.int c from qx);obtain⟨t,rfl⟩:=rx;exact⟨rfl,rfl⟩
  | str c=>cases e;cases (show xv=.str c from qx);obtain⟨t,rfl⟩:=rx;exact⟨rfl,rfl⟩
  | tup c=>cases e;obtain⟨a,vs,rfl,_⟩:=qx;cases rx;exact⟨rfl,rfl⟩
  | rol c=>cases e;obtain⟨a,vs,rfl,_⟩:=qx;cases rx;exact⟨rfl,rfl⟩
  | ref c=>cases e;obtain⟨a,rfl,_⟩:=qx;cases rx;exact⟨rfl,rfl⟩
 | bl d =>
  cases (show yv=.bl d from qy)
  cases ry
  cases x with
  | non=>cases e;cases (show xv=.non from qx);cases rx;exact⟨rfl,rfl⟩
  | bl c=>cases e;cases (show xv=.bl c from qx);cases rx;cases c<;>cases d<;>exact⟨rfl,rfl⟩
  | int c=>cases e;cases (show xv=.int c from qx);obtain⟨t,rfl⟩:=rx;exact⟨rfl,rfl⟩
  | str c=>cases e;cases (show xv=.str c from qx);obtain⟨t,rfl⟩:=rx;exact⟨rfl,rfl⟩
  | tup c=>cases e;obtain⟨a,vs,rfl,_⟩:=qx;cases rx;exact⟨rfl,rfl⟩
  | rol c=>cases e;obtain⟨a,vs,rfl,_⟩:=qx;cases rx;exact⟨rfl,rfl⟩
  | ref c=>cases e;obtain⟨a,rfl,_⟩:=qx;cases rx;exact⟨rfl,rfl⟩
 | _=>cases x<;>cases e
theorem o_is:OpI ce X (compareOp .Is) cIs:=by
 intro pins s σ H ι σi h x y v u Q E N rx ry K
 unfold cIs at K
 cases ei:isI x y with
 | none=>rw[ei] at K;exact Zf K
 | some b =>
  rw[ei] at K
  obtain⟨h1,h2⟩:=J2e ei rx ry
  exact wpAny_is_plain h1 (by rw[h2];exact fin0 N K rfl _ s N.inv rfl)
theorem J4g:OpI ce X (compareOp .IsNot) Jxx:=by
 intro pins s σ H ι σi h x y v u Q E N rx ry K
 unfold Jxx at K
 cases ei:isI x y with
 | none=>rw[ei] at K;exact Zf K
 | some b =>
  rw[ei] at K
  obtain⟨h1,h2⟩:=J2e ei rx ry
  exact wpAny_isNot_plain h1 (by rw[h2];exact fin0 N K rfl _ s N.inv rfl)
inductive Ty where
 | non|bl|int|str|lst|tup|dct|ins (c:Str)|exc (c:Str)
noncomputable def tyI:IV->IH->Option Ty
 | .non,_=>some .non
 | .bl _,_=>some .bl
 | .int _,_=>some .int
 | .str _,_=>some .str
 | .tup _,_=>some .tup
 | .rol _,_=>some .lst
 | .ref i,h=>match h[i]? with
  | some (.lst _)=>some .lst
  | some (.dct _)=>some .dct
  | some (.ins c _)=>some (.ins c)
  | _=>none
structure ClsI (K:W.Frag) (C:Addr):Prop where
 cl:Cls K C
 ha:W.findIn K (.ref C) "__class__"=some (some (.builtin "object.__class__"))
 hn:W.specialIn K (.builtin "object.__class__") "__get__"=some (some (.builtin "getset_descriptor.__get__"))
 htk:W.takesIn K (.builtin "object.__class__")=some true
 hm:W.mroIn K C (.type "object")=some true
structure IsOk (ce:Str->Option Addr) (K:W.Frag) (c:Value) (ans:Ty->Option Bool):Prop where
 non:∀b,ans .non=some b->W.kitOne K (.type "NoneType") c=some b
 bl:∀b,ans .bl=some b->W.kitOne K (.type "bool") c=some b
 int:∀b,ans .int=some b->W.kitOne K (.type "int") c=some b
 str:∀b,ans .str=some b->W.kitOne K (.type "str") c=some b
 lst:∀b,ans .lst=some b->W.kitOne K (.type "list") c=some b
 tup:∀b,ans .tup=some b->W.kitOne K (.type "tuple") c=some b
 dct:∀b,ans .dct=some b->W.kitOne K (.type "dict") c=some b
 ins:∀k C b,ans (.ins k)=some b->ce k=some C->ClsI K C/\W.kitOne K (.ref C) c=some b
 exc:∀k C b,ans (.exc k)=some b->W.nsIn K mainGlobals k=some (some (.ref C))->ExI K C/\W.kitOne K (.ref C) c=some b
noncomputable def eIsi (ans:Ty->Option Bool) (e:E1):E1:=λ σ h=>(e σ h).bind λ v h1=>match (tyI v h1).bind ans with
 | some b=>.ok (.bl b) h1
 | none=>.stuck
theorem J3z {pins:List (Addr×Obj)}{s:Shared}{σ:L2.St}{H:Hp}{ι:List Addr}{σi:ISt}{h:IH}{x:IV}{u c:Value}{ans:Ty->Option Bool}{b:Bool}{Q:Value->Shared->Prop}{E:Value->Shared->Prop}{A:Around}(N:Now ce X pins ι σi h σ H s) (rx:RU X.K ι H x u) (O:IsOk ce X.K c ans)
  (e:(tyI x h).bind ans=some b) (hq:∀tk,Q (.bool b) { s with toks:=tk }):wpAny (model X.prog X.w) A (call (.builtin "isinstance") [u,c]) Q E s:=by
 obtain⟨xv,rx,qx⟩:=rx
 cases x with
 | non=>cases (show xv=.non from qx);cases rx;exact W.kia_one W.kitx_none N.inv.kIn True.intro (O.non b e) (λ z=>nomatch z) hq
 | bl i=>cases (show xv=.bl i from qx);cases rx;exact W.kia_one W.kitx_bool N.inv.kIn True.intro (O.bl b e) (λ z=>nomatch z) hq
 | int i=>cases (show xv=.int i from qx);obtain⟨t,rfl⟩:=rx;exact W.kia_one W.kitx_int N.inv.kIn True.intro (O.int b e) (λ z=>nomatch z) hq
 | str i=>cases (show xv=.str i from qx);obtain⟨t,rfl⟩:=rx;exact W.kia_one W.kitx_str N.inv.kIn True.intro (O.str b e) (λ z=>nomatch z) hq
 | tup xs =>
  obtain⟨a,vs,rfl,sa,_⟩:=qx
  cases rx
  obtain⟨its,rv,⟨o,ho,hc,m,hd⟩,hz⟩:=N.inv.tuple sa
  exact W.kia_one W.kitx_tuple N.inv.kIn ⟨o,ho,hc⟩ (O.tup b e) (λ z=>nomatch z) hq
 | rol xs =>
  obtain⟨a,vs,rfl,sa,_⟩:=qx
  cases rx
  obtain⟨its,rv,⟨o,m,ho,hc,_,hd⟩,hz⟩:=N.inv.list sa.sq
  exact W.kia_one W.kitx_list N.inv.kIn ⟨o,ho,hc⟩ (O.lst b e) (λ z=>nomatch z) hq
 | ref i =>
  obtain⟨a,rfl,ha⟩:=qx
  cases rx
  cases hi:h[i]? with
  | none=>simp[tyI,hi] at e
  | some ob =>
   cases ob with
   | lst xs =>
    simp only[tyI,hi] at e
    obtain⟨vs,e1,r1⟩:=N.at hi ha
    obtain⟨its,rv,⟨o,m,ho,hc,_,hd⟩,hz⟩:=N.inv.list (SqL.of e1)
    exact W.kia_one W.kitx_list N.inv.kIn ⟨o,ho,hc⟩ (O.lst b e) (λ z=>nomatch z) hq
   | dct kvs =>
    simp only[tyI,hi] at e
    obtain⟨vs,e1,r1⟩:=N.at hi ha
    obtain⟨_,_,ws,_,p⟩:=(show Jcg X.prog X.w H s.heap a (.dK vs) from N.inv.hok a _ e1)
    obtain⟨o,es,ep,h1,h2,_⟩:=p
    exact W.kia_one W.kitx_dict N.inv.kIn ⟨o,h1,h2.1⟩ (O.dct b e) (λ z=>nomatch z) hq
   | ins c fs =>
    simp only[tyI,hi] at e
    obtain⟨C,dx,vs,hC,hH,rp⟩:=N.at hi ha
    obtain⟨I,hk⟩:=O.ins c C b e hC
    obtain⟨mA,Ob,_⟩:=Jqo N.inv.hok hH
    obtain⟨od,J,_⟩:=Ob.look
    exact W.kia_one (W.kitx_own (I.cl.get _) I.cl.hd I.ha I.hn I.htk I.hm) N.inv.kIn J hk (λ z=>nomatch z) hq
   | exc c fs=>simp[tyI,hi] at e
   | hld c fs=>simp[tyI,hi] at e
   | tab q=>simp[tyI,hi] at e
variable {a cx:Expr}{ma:E1}{pos p:Pos}
noncomputable def ClsE (X:Cx) (cx:Expr) (c:Value):Prop:=∀(pins:List (Addr×Obj)) (σ:L2.St) (H:Hp) (s:Shared) (Q:Value->Shared->Prop) (E:Value->Shared->Prop),Inv X pins σ H s->Q c s->wpAny (model X.prog X.w) X.A (eval cx X.env) Q E s
theorem Jne {x:Str}{c:Value}(hg:Gl X x) (hm:X.mg x=none) (hv:bootBuiltins x=some c) (hn:x≠"__name__":=by decide) (hdb:(x==("__debug__":Str))=false:=by decide):ClsE X (.Name x p) c:=λ _ _ _ _ _ _ I q=>Jhs I hg hm hv q hn hdb
theorem J3d {x:Str}{c:Value}(hg:Gl X x) (hm:X.mg x=some c) (hdb:(x==("__debug__":Str))=false:=by decide):ClsE X (.Name x p) c:=λ _ _ _ _ _ _ I q=>Jiy I hg hm q hdb
theorem i_isi {ans:Ty->Option Bool}{c:Value}(hc:ClsE X cx c) (O:IsOk ce X.K c ans) (ha:PEi ce X a ma) (hg:Gl X "isinstance") (hm:X.mg "isinstance"=none) (hv:bootBuiltins "isinstance"=some (.builtin "isinstance"):=by rfl)
  (he:starEach [a,cx] X.env=(false,eval a X.env)::starEach [cx] X.env:=by rfl) (he2:starEach [cx] X.env=(false,eval cx X.env)::starEach [] X.env:=by rfl) (hpl:(backTo pos (starEach [cx] X.env)).any (·.1)=false:=by rfl):PEi ce X (.Call (.Name "isinstance" p) [a,cx] [] pos) (eIsi ans ma):=by
 intro pins s σ H ι σi h Q E N K
 refine wpAny_Call_Name_kw (Jhs N.inv hg hm hv ?_ (by decide) (by decide))
 refine PyProof.Rows.callWith_builtin1 ?_ he hpl
 rw[he]
 show wpAny _ _ (spliced ((false,eval a X.env)::backTo pos (starEach [cx] X.env))) _ _ s
 refine Calls.spliced_cons (ha.run N K λ x h1 u s1 H1 ι1 N1 n1 r1 K1=>?_)
 rw[he2]
 show wpAny _ _ (spliced ((false,eval cx X.env)::backTo pos (starEach [] X.env))) _ _ s1
 refine Calls.spliced_cons (hc pins σ H1 s1 _ E N1.inv ?_)
 refine Calls.spliced_nil ?_
 cases e:(tyI x h1).bind ans with
 | none=>rw[e] at K1;exact Zf K1
 | some b =>
  rw[e] at K1
  exact J3z N1 r1 O e λ tk=>K1 _ _ H1 ι1 ⟨N1.inv.tok tk,N1.rel,N1.st⟩ .refl ⟨.bl b,rfl,rfl⟩
noncomputable def Jhi:Ty->Option Bool
 | .int=>some true|.bl=>some true|.ins _=>none|.exc _=>none|_=>some false
noncomputable def Jc8:Ty->Option Bool
 | .bl=>some true|.ins _=>none|.exc _=>none|_=>some false
noncomputable def Ji6:Ty->Option Bool
 | .str=>some true|.ins _=>none|.exc _=>none|_=>some false
noncomputable def Jch:Ty->Option Bool
 | .lst=>some true|.ins _=>none|.exc _=>none|_=>some false
noncomputable def Ji7:Ty->Option Bool
 | .tup=>some true|.ins _=>none|.exc _=>none|_=>some false
theorem Jyo {K:W.Frag}:IsOk ce K (.type "bool") Jc8:=by
 refine⟨?_,?_,?_,?_,?_,?_,?_,(λ k C b e=>by cases e),(λ k C b e=>by cases e)⟩<;>(intro b e;cases e;first|rfl|with_unfolding_all rfl|kernel_rfl)
theorem J0v {K:W.Frag}:IsOk ce K (.type "str") Ji6:=by
 refine⟨?_,?_,?_,?_,?_,?_,?_,(λ k C b e=>by cases e),(λ k C b e=>by cases e)⟩<;>(intro b e;cases e;first|rfl|with_unfolding_all rfl|kernel_rfl)
theorem Jsf {K:W.Frag}:IsOk ce K (.type "list") Jch:=by
 refine⟨?_,?_,?_,?_,?_,?_,?_,(λ k C b e=>by cases e),(λ k C b e=>by cases e)⟩<;>(intro b e;cases e;first|rfl|with_unfolding_all rfl|kernel_rfl)
theorem J0w {K:W.Frag}:IsOk ce K (.type "tuple") Ji7:=by
 refine⟨?_,?_,?_,?_,?_,?_,?_,(λ k C b e=>by cases e),(λ k C b e=>by cases e)⟩<;>(intro b e;cases e;first|rfl|with_unfolding_all rfl|kernel_rfl)
theorem J0u {K:W.Frag}:IsOk ce K (.type "int") Jhi:=by
 refine⟨?_,?_,?_,?_,?_,?_,?_,(λ k C b e=>by cases e),(λ k C b e=>by cases e)⟩<;>(intro b e;cases e;first|rfl|with_unfolding_all rfl|kernel_rfl)
end
noncomputable def clOf (cells:List (Str×Addr)):List (Str×NameKind)->List (Str×Addr)->List (Str×Addr)
 | [],acc=>acc
 | (n,k)::r,acc=>clOf cells r (if (k==NameKind.free)=true then(match cells.lookup n with|some c=>(n,c)::acc|none=>acc) else acc)
theorem Jok {env:Env}(names:List (Str×NameKind)) (acc:List (Str×Addr)) (h:∀x∈names,x.2=.free->∃c,env.cells.lookup x.1=some c) :
  (forIn names acc (λ (x:Str×NameKind) (r:List (Str×Addr))=>if (x.2==NameKind.free)=true then(do let c<-cellOf env x.1;pure (ForInStep.yield ((x.1,c)::r))) else pure (ForInStep.yield r)):Sem (List (Str×Addr)))=pure (clOf env.cells names acc):=by
 induction names generalizing acc with
 | nil=>rfl
 | cons x r ih =>
  obtain⟨n,k⟩:=x
  have ih':=λ a=>ih a λ y hy=>h y (List.mem_cons_of_mem _ hy)
  rw[List.forIn_cons]
  by_cases hk:(k==NameKind.free)=true
  ·have hk':k=.free:=by
    cases k<;>first|rfl|exact absurd hk (by decide)
   obtain⟨c,hc⟩:=h (n,k) List.mem_cons_self hk'
   have e1:cellOf env n=pure c:=by unfold cellOf;rw[hc]
   simp only[hk,if_true,e1,pure_bind]
   rw[ih']
   simp only[clOf,hk,if_true,hc]
  ·simp only[hk,Bool.false_eq_true,if_false,pure_bind]
   rw[ih']
   simp only[clOf,hk,Bool.false_eq_true,if_false]
theorem Jka {scope:Scope}{env:Env}(h:∀x∈scope.names,x.2=.free->∃c,env.cells.lookup x.1=some c):closureFor scope env=pure (clOf env.cells scope.names []):=by
 have e:=Jok (env:=env) scope.names [] h
 have e2:closureFor scope env=((forIn scope.names [] (λ (x:Str×NameKind) (r:List (Str×Addr))=>if (x.2==NameKind.free)=true then(do let c<-cellOf env x.1;pure (ForInStep.yield ((x.1,c)::r))) else pure (ForInStep.yield r)):Sem (List (Str×Addr)))>>=λ s=>pure s):=rfl
 rw[e2,e]
 rfl
theorem Jqf {cells:List (Str×Addr)}:∀(names:List (Str×NameKind)) (acc:List (Str×Addr)),(∀x c,acc.lookup x=some c->cells.lookup x=some c)->∀x c,(clOf cells names acc).lookup x=some c->cells.lookup x=some c
 | [],_,h,x,c,e=>h x c e
 | (n,k)::r,acc,h,x,c,e=>by
  refine Jqf r _ ?_ x c e
  intro y d q
  split at q
  ·cases hc:cells.lookup n with
   | none=>rw[hc] at q;exact h y d q
   | some a =>
    rw[hc] at q
    simp only[List.lookup_cons] at q
    cases hb:y==n with
    | true =>
     rw[hb] at q
     cases q
     rw[beq_iff_eq.mp hb]
     exact hc
    | false =>
     rw[hb] at q
     exact h y d q
  ·exact h y d q
theorem Jrt {cells:List (Str×Addr)}:∀(names:List (Str×NameKind)) (acc:List (Str×Addr)) (x:Str),(acc.lookup x).isSome=true->((clOf cells names acc).lookup x).isSome=true
 | [],_,_,h=>h
 | (n,k)::r,acc,x,h=>by
  refine Jrt r _ x ?_
  split
  ·cases hc:cells.lookup n with
   | none=>exact h
   | some a =>
    simp only[List.lookup_cons]
    cases hb:x==n with
    | true=>rfl
    | false=>exact h
  ·exact h
theorem Jj9 {cells:List (Str×Addr)}:∀(names:List (Str×NameKind)) (acc:List (Str×Addr)) (x:Str) (c:Addr),(x,NameKind.free)∈names->cells.lookup x=some c->((clOf cells names acc).lookup x).isSome=true
 | [],_,_,_,h,_=>by simp at h
 | (n,k)::r,acc,x,c,h,hc=>by
  rcases List.mem_cons.mp h with e|e
  ·obtain⟨rfl,rfl⟩:=Prod.mk.inj e
   refine Jrt r _ _ ?_
   simp[hc]
  ·exact Jj9 r _ x c e hc
theorem Jde {env:Env}:∀{names:List (Str×NameKind)}{x:Str}{k:NameKind},
  (names.map λ (n,k)=>if (k==NameKind.free&&env.scope.kind==.function&&env.kindOf n==some .cell) then(n,NameKind.cell) else(n,k)).lookup x=some k ->
  ∃k0,names.lookup x=some k0/\(k,k0)∈([(k0,k0),(.cell,.free)]:List (NameKind×NameKind))
 | [],_,_,h=>by simp at h
 | (n,k1)::r,x,k,h=>by
  have ih:=@Jde env r x k
  have h':List.lookup x ((if (k1==NameKind.free&&env.scope.kind==.function&&env.kindOf n==some .cell)=true then(n,NameKind.cell) else(n,k1))::_)=some k:=h
  cases hx:x==n with
  | true =>
   refine⟨k1,by simp[List.lookup_cons,hx],?_⟩
   by_cases hc:(k1==NameKind.free&&env.scope.kind==.function&&env.kindOf n==some .cell)=true
   ·rw[if_pos hc] at h'
    simp only[List.lookup_cons,hx] at h'
    cases h'
    simp only[Bool.and_eq_true,beq_iff_eq] at hc
    rw[hc.1.1]
    simp
   ·rw[if_neg hc] at h'
    simp only[List.lookup_cons,hx] at h'
    cases h'
    simp
  | false =>
   have h2:List.lookup x (r.map λ (n,k)=>if (k==NameKind.free&&env.scope.kind==.function&&env.kindOf n==some .cell) then(n,NameKind.cell) else(n,k))=some k:=by
    by_cases hc:(k1==NameKind.free&&env.scope.kind==.function&&env.kindOf n==some .cell)=true
    ·rw[if_pos hc] at h';simpa only[List.lookup_cons,hx] using h'
    ·rw[if_neg hc] at h';simpa only[List.lookup_cons,hx] using h'
   obtain⟨k0,e,m⟩:=ih h2
   exact⟨k0,by simp only[List.lookup_cons,hx];exact e,m⟩
theorem Jl4 {env:Env}:∀{names:List (Str×NameKind)}{x:Str},names.lookup x=some .free ->
  ∃k,(names.map λ (n,k)=>if (k==NameKind.free&&env.scope.kind==.function&&env.kindOf n==some .cell) then(n,NameKind.cell) else(n,k)).lookup x=some k/\(k=.cell∨k=.free)
 | [],_,h=>by simp at h
 | (n,k1)::r,x,h=>by
  have ih:=@Jl4 env r x
  cases hx:x==n with
  | true =>
   simp only[List.lookup_cons,hx] at h
   cases h
   by_cases hc:(NameKind.free==NameKind.free&&env.scope.kind==.function&&env.kindOf n==some .cell)=true
   ·exact⟨.cell,by rw[List.map_cons];dsimp only;rw[if_pos hc];simp only[List.lookup_cons,hx],.inl rfl⟩
   ·exact⟨.free,by rw[List.map_cons];dsimp only;rw[if_neg hc];simp only[List.lookup_cons,hx],.inr rfl⟩
  | false =>
   simp only[List.lookup_cons,hx] at h
   obtain⟨k,e,q⟩:=ih h
   refine⟨k,?_,q⟩
   rw[List.map_cons]
   dsimp only
   by_cases hc:(k1==NameKind.free&&env.scope.kind==.function&&env.kindOf n==some .cell)=true
   ·rw[if_pos hc];simp only[List.lookup_cons,hx];exact e
   ·rw[if_neg hc];simp only[List.lookup_cons,hx];exact e
noncomputable def cxC (X:Cx) (N':List Str) (scope:Scope) (C:Addr) (s:Shared) (H:Hp) (fp:List Addr):Cx :=
 { X with N:=N',s₀:=s,H₀:=H,env:=compEnvC scope (clOf X.env.cells scope.names []) C X.env,outer:=X.stack,ex:=fp,fn:=λ _=>false,pn:=[] }
noncomputable def Jfj (N0 loc caps:List Str) (js:List Nat) (sc₀ scope:Scope):Bool :=
 decide (scope.kind=.function)&&decide (sc₀.kind=.function)&&scope.names.all (λ x=>!(x.2==.cell))&&scope.names.all (λ x=>!(x.2==.local)||decide (scope.names.lookup x.1=some .local)) &&
 scope.names.all (λ x=>!(x.2==.free)||decide (sc₀.names.lookup x.1=some .cell)||decide (sc₀.names.lookup x.1=some .free)) &&
 scope.names.all (λ x=>!(decide (scope.names.lookup x.1=some .free))||(x.2==.free)) &&
 (js.zip caps).all (λ p=>decide (N0[p.1]?=some p.2)&&decide (scope.names.lookup p.2=some .free))&&decide (js.length=caps.length)&&decide (loc++caps).Nodup &&
 loc.all (λ n=>decide (scope.names.lookup n=some .local))
open Classical in
noncomputable def Jcx (chk:IH->Prop) (g:G1) (t:T1) (e:E1) (i0:Nat):List IV->ISt->IH->Res IV
 | [],_,h=>if chk h then .ok (.ref i0) h else .stuck
 | x::xs,σ,h=>if chk h then(match g x σ h with
   | .next σ1 h1=>(match t σ1 h1 with
    | .ok true h2=>(match e σ1 h2 with
     | .ok v h3=>(match h3[i0]? with
      | some (.lst acc)=>if acc.length<sizeLine then Jcx chk g t e i0 xs σ1 (h3.set i0 (.lst (acc++[v]))) else .stuck
      | _=>.stuck)
     | _=>.stuck)
    | .ok false h2=>Jcx chk g t e i0 xs σ1 h2
    | _=>.stuck)
   | _=>.stuck) else .stuck
noncomputable def stC (nloc:Nat) (js:List Nat) (σ:ISt):ISt:=List.replicate nloc none++js.map λ j=>(σ[j]?).join
noncomputable def Jr (it:I1) (nloc:Nat) (js:List Nat) (g:G1) (t:T1) (e:E1):E1:=λ σ h=>(it σ h).bind λ J h1=>Jcx J.chk g t e h1.length J.xs (stC nloc js σ) (h1++[.lst []])
theorem Jrv {prog:Program}{w:World}{A:Around}{R:Result->Shared->Prop}{s:Shared}{elt target iter:Expr}{ifs:List Expr}{scope:Scope}{pos:Pos}{it acc:Value}{env:Env}(I:Nat->Shared->Prop)
  (turn:∀n s,I n s->wpAny (model prog w) A (pyNext it) (λ r s₁=>match r with
   | none=>R (.ok .next) s₁
   | some v=>wpAny (model prog w) A (letOwnedTupleGo target it v) (λ _ s₁'=>wpAny (model prog w) A (assign target env v) (λ _ s₂ =>
     wpAny (model prog w) A (forIn ifs true λ c r=>if r=true then do let ok<-isTrue c env (eval c env);pure (ForInStep.yield ok) else pure (ForInStep.yield r)) (λ ok s₃ =>
      if ok=true then wpAny (model prog w) A (eval elt env) (λ x s₄ =>
       wpAny (model prog w) A (call (.builtin "list.append") [acc,x]) (λ _ s₅=>∃m,m<n/\I m s₅) (λ _ _=>False) s₄) (λ _ _=>False) s₃
      else ∃m,m<n/\I m s₃) (λ _ _=>False) s₂) (λ _ _=>False) s₁') (λ _ _=>False) s₁) (λ _ _=>False) s)
  (n:Nat) (h:I n s):codeAny (model prog w) A (.compLoop (.ListComp elt [⟨target,iter,ifs,0⟩] scope pos) 0 it acc env) R s:=by
 refine codeAny_loop rfl I (λ n s hI=>?_) n h
 show wpAny _ A ((compTurn (.ListComp elt [⟨target,iter,ifs,0⟩] scope pos) 0 it acc env).onRaise (λ x=>do noteFrame x env;theTreesLotGoes x)) _ _ s
 refine wpAny_noted (nof ?_)
 rw[compTurn_list]
 refine wpAny_bind (wpAny_standAt (wpAny_bind (wpAny_mono (turn n s hI) (λ r s₁ h₁=>?_) λ _ _ h'=>h')))
 cases r with
 | none=>exact wpAny_pure h₁
 | some v =>
  refine wpAny_bind (wpAny_mono h₁ (λ _ s₁' h₁'=>?_) λ _ _ h'=>h')
  refine wpAny_bind (wpAny_mono h₁' (λ _ s₂ h₂=>wpAny_bind (wpAny_mono h₂ (λ ok s₃ h₃=>?_) λ _ _ h'=>h')) λ _ _ h'=>h')
  cases ok with
  | false=>exact wpAny_pure ⟨rfl,h₃⟩
  | true =>
   exact wpAny_bind (wpAny_bind (wpAny_mono h₃ (λ x s₄ h₄=>wpAny_bind (wpAny_mono h₄ (λ _ s₅ h₅=>wpAny_pure (wpAny_pure ⟨rfl,h₅⟩)) λ _ _ h'=>h')) λ _ _ h'=>h'))
noncomputable def PTsi (ce:Str->Option Addr) (X:Cx) (ifs:List Expr) (m:T1):Prop:=PX ce X RB (forIn ifs true λ c r=>if r=true then do let ok<-isTrue c X.env (eval c X.env);pure (ForInStep.yield ok) else pure (ForInStep.yield r)) m
noncomputable def Jao:T1:=λ _ h=>.ok true h
theorem J2v {ce:Str->Option Addr}{X:Cx}:PTsi ce X [] Jao:=λ _ s _ H ι _ _ _ _ N K=>wpAny_tests_nil (K true s H ι N .refl rfl)
theorem J2w {ce:Str->Option Addr}{X:Cx}{c:Expr}{m:T1}(hc:PTi ce X c m):PTsi ce X [c] m:=λ pins s σ H ι σi h Q E N K=>wpAny_tests_one (hc pins s σ H ι σi h Q E N K)
noncomputable def Jp9 (ce:Str->Option Addr) (X:Cx) (use:Option (Value->Sem Unit)) (pins:List (Addr×Obj)) (ι:List Addr) (σi:ISt) (σ:L2.St) (H:Hp) (r:Res IV) (Q:Value->Shared->Prop) (E:Value->Shared->Prop):Prop :=
 match r with
 | .ok v h'=>∀D C m s' H' ι',Now ce X pins ι' σi h' σ H' s'->Nxt ι H ι' H'->RU X.K ι' H' v (.ref D)->s'.heap.Ns C m->FpOk X pins H' C->compPost (model X.prog X.w) X.A E use Q (.ref D) C (.ok .next) s'
 | .exc n h'=>∀pl a s' H' ι',Now ce X (pins++pl) ι' σi h' σ H' s'->Nxt ι H ι' H'->ι'[n]?=some a->E (.ref a) s'
 | .stuck=>False
theorem Jp9.mono {ce:Str->Option Addr}{X:Cx}{use:Option (Value->Sem Unit)}{pins:List (Addr×Obj)}{ι ι':List Addr}{σi:ISt}{σ:L2.St}{H H':Hp}{r:Res IV}{Q:Value->Shared->Prop}{E:Value->Shared->Prop}(k:Jp9 ce X use pins ι σi σ H r Q E) (n:Nxt ι H ι' H'):Jp9 ce X use pins ι' σi σ H' r Q E:=by
 cases r with
 | ok v h'=>exact λ D C m s' H2 ι2 N n2 q=>k D C m s' H2 ι2 N (n.trans n2) q
 | exc m h'=>exact λ pl a s' H2 ι2 N n2 q=>k pl a s' H2 ι2 N (n.trans n2) q
 | stuck=>exact k
noncomputable def Warm (A:Around) (H:Hp):Prop:=∃a oe u vs,A.handled=some (.ref a)/\H a=some (.frz oe u)/\oe.data=.fields vs/\vs[2]?=some .none
theorem Warm.mono {A:Around}{H H':Hp}(x:Ext H H') (w:Warm A H):Warm A H':=let ⟨a,oe,u,vs,e1,e2,e3,e4⟩:=w;⟨a,oe,u,vs,e1,x.frzs _ _ _ e2,e3,e4⟩
structure TurnC (P:Program) (w:World) (C:Cx->Hp->Prop) (tg:Expr) (J:It) (fp:List Addr) (it:Addr) (tn:Nat->Heap->Prop):Prop where
 obj:∀i h,tn i h->∀b∈fp,∃o,h.get? b=some o/\∀v,o.data≠.cell v
 keep:∀i h h',tn i h->(∀b∈fp,∀o,h.get? b=some o->h'.get? b=some o)->tn i h'
 item:∀(X:Cx) (i:Nat) (s:Shared) (σ:L2.St) (H:Hp),C X H->Inv X [] σ H s->(∀b∈fp,FpOk X [] H b)->tn i s.heap->J.go i H ->
  wpAny (model P w) X.A (pyNext (.ref it)) (λ r s1=>∃u,r=some u/\wpAny (model P w) X.A (letOwnedTupleGo tg (.ref it) u) (λ _ s2=>∃x H',Inv X [] σ H' s2/\RelV x u/\J.yld i H x H'/\tn (i+1) s2.heap/\∀b∈fp,H' b=none) (λ _ _=>False) s1) (λ _ _=>False) s
 done:∀(X:Cx) (i:Nat) (s:Shared) (σ:L2.St) (H:Hp),C X H->Inv X [] σ H s->(∀b∈fp,FpOk X [] H b)->tn i s.heap->J.stop i H->wpAny (model P w) X.A (pyNext (.ref it)) (λ r s1=>r=none/\Inv X [] σ H s1) (λ _ _=>False) s
 self:∀(A:Around) (i:Nat) (s:Shared) (Q:Value->Shared->Prop) (E:Value->Shared->Prop),tn i s.heap->Q (.ref it) s->wpAny (model P w) A (pyIter (.ref it)) Q E s
noncomputable def CalmC (X0:Cx) (X:Cx) (_:Hp):Prop:=X.prog=X0.prog/\X.w=X0.w/\X.K=X0.K/\X.calm=true
noncomputable def RItC (C:Cx->Hp->Prop) (ce:Str->Option Addr) (X:Cx) (tg:Expr) (pins:List (Addr×Obj)) (ι':List Addr) (I:ItI) (itv:Value) (s2:Shared) (H':Hp):Prop :=
 ∃(it:Addr) (fp:List Addr) (tn:Nat->Heap->Prop) (J:It),itv=.ref it/\TurnC X.prog X.w C tg J fp it tn/\tn 0 s2.heap/\(∀b∈fp,FpOk X pins H' b)/\ItOk ce X.K ι' H' J I
noncomputable def PIc (C:Cx->Hp->Prop) (ce:Str->Option Addr) (X:Cx) (tg iter:Expr) (m:I1):Prop :=
 ∀(pins:List (Addr×Obj)) (s:Shared) (σ:L2.St) (H:Hp) (ι:List Addr) (σi:ISt) (h:IH) (Q:Value->Shared->Prop) (E:Value->Shared->Prop),Now ce X pins ι σi h σ H s ->
  (match m σi h with
   | .ok I h'=>∀itv s' H' ι',Now ce X pins ι' σi h' σ H' s'->Nxt ι H ι' H'->RItC C ce X tg pins ι' I itv s' H'->Q itv s'
   | .exc n h'=>∀pl a s' H' ι',Now ce X (pins++pl) ι' σi h' σ H' s'->Nxt ι H ι' H'->ι'[n]?=some a->E (.ref a) s'
   | .stuck=>False) ->
  wpAny (model X.prog X.w) X.A (eval iter X.env) (λ v s1=>wpAny (model X.prog X.w) X.A (pyIter v) Q E s1) E s
theorem PIi.c {ce:Str->Option Addr}{X:Cx}{tg iter:Expr}{m:I1}(p:PIi ce X tg iter m):PIc (CalmC X) ce X tg iter m:=λ pins s σ H ι σi h Q E N k=>p pins s σ H ι σi h Q E N (by
 cases e:m σi h with
 | exc n h'=>rw[e] at k;exact k
 | stuck=>rw[e] at k;exact k
 | ok I h' =>
  rw[e] at k
  intro itv s' H' ι' N' n' ⟨it,fp,tn,J,e1,T,r⟩
  refine k itv s' H' ι' N' n' ⟨it,fp,tn,J,e1,⟨T.obj,T.keep,λ X' i s σ H c=>?_,λ X' i s σ H c=>?_,T.self⟩,r⟩
  ·exact T.item X' c.1 c.2.1 c.2.2.1 c.2.2.2 i [] s σ H _
  ·exact T.done X' c.1 c.2.1 c.2.2.1 c.2.2.2 i [] s σ H _)
section
variable {ce:Str->Option Addr}{X:Cx}
theorem Jrw {N0 loc caps:List Str}{js:List Nat}{sc₀ scope:Scope}{tg iter elt:Expr}{ifs:List Expr}{mi:I1}{g:G1}{mt:T1}{me:E1}{pos ppos:Pos}{use:Option (Value->Sem Unit)}{Cc:Cx->Hp->Prop}(hi:PIc Cc ce X tg iter mi)
  (hg:∀C s H fp,PGi ce (cxC X (loc++caps) scope C s H fp) tg g) (ht:∀C s H fp,PTsi ce (cxC X (loc++caps) scope C s H fp) ifs mt) (he:∀C s H fp,PEi ce (cxC X (loc++caps) scope C s H fp) elt me)
  (ok:Jfj N0 loc caps js sc₀ scope=true) (hN0:X.N=N0:=by rfl) (hsc:X.env.scope=sc₀:=by rfl) (hs:∀x,foldedSetIterable iter X.env x=pure x:=by intro _;rfl)
  {pins:List (Addr×Obj)}{s:Shared}{σ:L2.St}{H:Hp}{ι:List Addr}{σi:ISt}{h:IH}{Q:Value->Shared->Prop}{E:Value->Shared->Prop}(hcc:∀C s H1 fp H',Ext H H'->Cc (cxC X (loc++caps) scope C s H1 fp) H') (N:Now ce X pins ι σi h σ H s) (K:Jp9 ce X use pins ι σi σ H (Jr mi loc.length js g mt me σi h) Q E) :
  wpAny (model X.prog X.w) X.A (comprehension (.ListComp elt [⟨tg,iter,ifs,0⟩] scope pos) scope X.env ppos (newList []) false (eval iter X.env) use) Q E s:=by
 simp only[Jfj,Bool.and_eq_true,decide_eq_true_eq,List.all_eq_true,Bool.not_eq_true',Bool.or_eq_true,beq_iff_eq,beq_eq_false_iff_ne] at ok
 obtain⟨⟨⟨⟨⟨⟨⟨⟨⟨kF,kF0⟩,kNC⟩,kL⟩,kFr⟩,kFx⟩,kJ⟩,kLen⟩,kNd⟩,kLo⟩:=ok
 have hfree:∀x∈scope.names,x.2=.free->X.env.kindOf x.1=some .cell∨X.env.kindOf x.1=some .free:=λ x hx hk=>by
  have e:X.env.kindOf x.1=sc₀.names.lookup x.1:=by rw[<- hsc];rfl
  rw[e]
  rcases kFr x hx with(z|z)|z
  ·exact absurd hk z
  ·exact .inl z
  ·exact .inr z
 have hclos:closureFor scope X.env=pure (clOf X.env.cells scope.names []):=Jka λ x hx hk=>N.inv.ok.has x.1 (hfree x hx hk)
 refine wpAny_comprehension_free (use:=use) (e:=.ListComp elt [⟨tg,iter,ifs,0⟩] scope pos) rfl hs hclos kF (λ x hx hl=>(kL x hx).resolve_left λ z=>z hl) ?_
 refine hi pins s σ H ι σi h _ E N ?_
 unfold Jr at K
 cases e0:mi σi h with
 | exc n h'=>rw[e0] at K;exact K
 | stuck=>rw[e0] at K;exact K
 | ok Jt h1 =>
  rw[e0] at K
  intro itv s1 H1 ι1 N1 n1 RI
  obtain⟨it,fp,tn,J,e,T,st1,f1,OK⟩:=RI
  subst e
  -- the list
  refine wpAny_newObj_type ?_
  have fresh1:H1 s1.heap.objs.size=none:=N1.inv.hok.fresh (Nat.le_refl _)
  have I2:Inv X pins σ (upd H1 s1.heap.objs.size (.lst [])) { s1 with heap:=s1.heap.push { cls:=.type "list",dict:=none,data:=.seq ([]:List Value).toArray } } :=
   N1.inv.laid (t':=s1.toks) (λ b u e=>Heap.get?_push_of_some _ e) (Nat.le_refl _) ⟨Nat.zero_le _,[],0,.nil,Heap.get?_push_size _ rfl⟩
  obtain⟨R2,n2⟩:=N1.rel.alloc (o:=.lst []) (io:=.lst []) fresh1 ⟨[],Jf,rfl⟩
  generalize hs2:({ s1 with heap:=s1.heap.push { cls:=.type "list",dict:=none,data:=.seq ([]:List Value).toArray } }:Shared)=s2 at I2 ⊢
  generalize hD:s1.heap.objs.size=D at *
  generalize hH2:upd H1 D (.lst [])=H2 at *
  have N2:Now ce X pins (ι1++[D]) σi (h1++[.lst []]) σ H2 s2:=⟨I2,R2,N1.st.mono n2⟩
  have keep12:∀b o,s1.heap.get? b=some o->s2.heap.get? b=some o:=λ b o q=>by rw[<- hs2];exact Heap.get?_push_of_some _ q
  have st2:tn 0 s2.heap:=T.keep 0 _ _ st1 λ b _ o q=>keep12 b o q
  have hat:(ι1++[D])[h1.length]?=some D:=by
   rw[<- N1.rel.len,List.getElem?_append_right (Nat.le_refl _)]
   simp
  have f2:∀b∈fp,FpOk X pins H2 b:=λ b hb=>by
   refine⟨?_,(f1 b hb).2⟩
   obtain⟨o,ho,_⟩:=T.obj 0 _ st1 b hb
   have:b≠D:=Nat.ne_of_lt (by rw[<- hD];exact Heap.lt_size ho)
   rw[<- hH2,Ji this]
   exact(f1 b hb).1
  -- the block's own dict
  refine wpAny_newFunctionEnv (λ x hx=>kNC x hx) (by intro y hy;simp at hy) (λ h3 hns3 hsb3=>?_) kF
  generalize hC:s2.heap.objs.size=C at *
  have keep23:∀b o,s2.heap.get? b=some o->h3.get? b=some o:=λ b o q=>(hsb3.2 b (Nat.ne_of_lt (by rw[<- hC];exact Heap.lt_size q))).trans (Heap.get?_push_of_some _ q)
  have cells':∀x c,(clOf X.env.cells scope.names []).lookup x=some c->X.env.cells.lookup x=some c:=Jqf _ _ (λ x c q=>by simp at q)
  -- the context of the block
  have okX:(cxC X (loc++caps) scope C s2 H2 fp).Ok:=by
   refine⟨N.inv.ok.mod,kF,N.inv.ok.glob,N.inv.ok.blt,Nat.le_of_eq hC,λ x y c a b=>N.inv.ok.inj x y c (cells' x c a) (cells' y c b),λ x hx=>?_,λ x c z=>?_,N.inv.ok.hd,N.inv.ok.frames,.inl rfl,λ b hb=>?_,λ b o q=>I2.bs b o q,
    Nat.le_trans N.inv.ok.bsz I2.sz,λ b o q hb=>?_,λ b hb z=>?_,I2.stack,I2.stkFree⟩
   ·have hx':(relabel scope X.env).names.lookup x=some .cell∨(relabel scope X.env).names.lookup x=some .free:=hx
    have hfr:scope.names.lookup x=some .free:=by
     rcases hx' with z|z
     ·obtain⟨k0,e,m⟩:=Jde z
      simp only[List.mem_cons,Prod.mk.injEq,List.not_mem_nil,or_false] at m
      rcases m with⟨m1,_⟩|⟨_,m2⟩
      ·exact absurd (kNC _ (PySem.mem_of_lookup e)) (by rw[<- m1];intro q;exact q rfl)
      ·rw[m2] at e;exact e
     ·obtain⟨k0,e,m⟩:=Jde z
      simp only[List.mem_cons,Prod.mk.injEq,List.not_mem_nil,or_false] at m
      rcases m with⟨m1,_⟩|⟨m1,_⟩
      ·rw[<- m1] at e;exact e
      ·cases m1
    have hm:=PySem.mem_of_lookup hfr
    obtain⟨c,hc'⟩:=N.inv.ok.has x (hfree (x,.free) hm rfl)
    exact Option.isSome_iff_exists.mp (Jj9 _ _ x c hm hc')
   ·exact absurd (show false=true from z) Bool.false_ne_true
   ·have hbD:=f2 b hb
    obtain⟨o,ho,_⟩:=T.obj 0 _ st2 b hb
    exact⟨Nat.ne_of_lt (by show b<C;rw[<- hC];exact Heap.lt_size ho),λ x c q=>hbD.2.2.2.2.1 x c (cells' x c q)⟩
   ·rcases(f2 b hb).2.2.2.1 with z|z
    ·exact N.inv.ok.noex b o q z
    ·exact Nat.lt_irrefl _ (Nat.lt_of_lt_of_le (Heap.lt_size q) (Nat.le_trans N.inv.ok.bsz z))
   ·rcases List.mem_cons.mp (I2.stkSub b z) with e|e
    ·exact(f2 b hb).2.1 e
    ·exact(f2 b hb).2.2.1 e
  -- the block's state
  have lenJ:js.length=caps.length:=kLen
  have stl:(stC loc.length js σi).length=(loc++caps).length:=by simp[stC,lenJ]
  have R3:Rel ce X.K (ι1++[D]) (h1++[.lst []]) H2:=R2
  have I3:Inv (cxC X (loc++caps) scope C s2 H2 fp) [] (List.replicate loc.length none++js.map λ j=>(σ[j]?).join) H2 { s2 with heap:=h3,toks:=s2.toks+([]:List (Str×Value)).length }:=by
   refine⟨okX,rfl,I2.bare,Un.kept keep23,⟨_,hns3,λ i x v a b c=>?_⟩,λ x c q=>?_,I2.hok.fresh (Nat.le_of_eq hC),λ x c q=>I2.freeC x c (cells' x c q),λ p hp=>absurd (show p∈([]:List (Addr×Obj)) from hp) (by simp),I2.hok.kept keep23,by show _=(loc++caps).length;simp[lenJ]⟩
   ·have hi:loc.length<=i:=by
     refine Nat.le_of_not_lt λ hlt=>?_
     rw[List.getElem?_append_left (by simpa using hlt),List.getElem?_replicate] at b
     split at b<;>cases b
    obtain⟨k,rfl⟩:∃k,i=loc.length+k:=⟨i-loc.length,by omega⟩
    have a':(loc++caps)[loc.length+k]?=some x:=a
    rw[List.getElem?_append_right (by omega)] at a'
    rw[List.getElem?_append_right (by simp)] at b
    simp only[Nat.add_sub_cancel_left,List.length_replicate,List.getElem?_map] at a' b
    cases ej:js[k]? with
    | none=>rw[ej] at b;cases b
    | some j =>
     rw[ej] at b
     have b':(σ[j]?).join=some v:=Option.some.inj b
     have hσ:σ[j]?=some (some v):=by
      cases es:σ[j]? with
      | none=>rw[es] at b';cases b'
      | some o=>rw[es] at b';rw[show o=some v from b']
     have hz:=kJ (j,x) (List.mem_iff_getElem?.mpr ⟨k,by rw[List.getElem?_zip_eq_some];exact⟨ej,a'⟩⟩)
     obtain⟨hx1,hx2⟩:=hz
     obtain⟨m,hn,hl⟩:=I2.loc
     have hk:=hfree (x,.free) (PySem.mem_of_lookup hx2) rfl
     obtain⟨u,ru,lk⟩:=hl j x v (by rw[hN0];exact hx1) hσ (by rcases hk with q|q;exact .inr (.inl q);exact .inr (.inr q))
     rcases lk with⟨q,_⟩|⟨q,c,hc',hcell⟩
     ·rcases hk with q'|q'<;>(rw[q'] at q;cases q)
     ·obtain⟨kk,ek,hkk⟩:=Jl4 (env:=X.env) hx2
      have hcl:=Jj9 (cells:=X.env.cells) scope.names [] x c (PySem.mem_of_lookup hx2) hc'
      obtain⟨c',hc2⟩:=Option.isSome_iff_exists.mp hcl
      have:=cells' x c' hc2
      rw[hc'] at this
      cases this
      obtain⟨oc,hoc,hd⟩:=hcell
      refine⟨u,ru,.inr ⟨?_,c,hc2,oc,keep23 _ _ hoc,hd⟩⟩
      rcases hkk with rfl|rfl
      ·exact .inl ek
      ·exact .inr ek
   ·obtain⟨v,o,ho,hd⟩:=I2.cell x c (cells' x c q)
    exact⟨v,o,keep23 _ _ ho,hd⟩
  have N3:Now ce (cxC X (loc++caps) scope C s2 H2 fp) [] (ι1++[D]) (stC loc.length js σi) (h1++[.lst []]) (List.replicate loc.length none++js.map λ j=>(σ[j]?).join) H2 { s2 with heap:=h3,toks:=s2.toks+([]:List (Str×Value)).length }:=by
   refine⟨I3,R3,by simp[stC],λ i v q=>?_⟩
   unfold stC at q
   have hi:loc.length<=i:=by
    refine Nat.le_of_not_lt λ hlt=>?_
    rw[List.getElem?_append_left (by simpa using hlt),List.getElem?_replicate] at q
    split at q<;>cases q
   rw[List.getElem?_append_right (by simpa using hi)] at q
   simp only[List.length_replicate,List.getElem?_map] at q
   cases ej:js[i-loc.length]? with
   | none=>rw[ej] at q;cases q
   | some j =>
    rw[ej] at q
    have q':(σi[j]?).join=some v:=Option.some.inj q
    have hσ:σi[j]?=some (some v):=by
     cases es:σi[j]? with
     | none=>rw[es] at q';cases q'
     | some o=>rw[es] at q';rw[show o=some v from q']
    obtain⟨u,hu,qu⟩:=N2.st.at_ j v hσ
    refine⟨u,?_,qu⟩
    rw[List.getElem?_append_right (by simpa using hi)]
    simp only[List.length_replicate,List.getElem?_map,ej,Option.map_some,hu]
    rfl
  have st3:tn 0 h3:=T.keep 0 _ _ st2 λ b _ o q=>keep23 b o q
  have K2:Jp9 ce X use pins (ι1++[D]) σi σ H2 (Jcx Jt.chk g mt me h1.length Jt.xs (stC loc.length js σi) (h1++[.lst []])) Q E:=Jp9.mono (r:=Jcx Jt.chk g mt me h1.length Jt.xs (stC loc.length js σi) (h1++[.lst []])) K (n1.trans n2)
  have loop:codeAny (model X.prog X.w) X.A (.compLoop (.ListComp elt [⟨tg,iter,ifs,0⟩] scope pos) 0 (.ref it) (.ref D) (compEnvC scope (clOf X.env.cells scope.names []) C X.env)) (compPost (model X.prog X.w) X.A E use Q (.ref D) C)
    { s2 with heap:=h3,toks:=s2.toks+([]:List (Str×Value)).length }:=by
   refine Jrv (λ n s'=>∃k ιk σk hk σ' H',Now ce (cxC X (loc++caps) scope C s2 H2 fp) [] ιk σk hk σ' H' s'/\Nxt (ι1++[D]) H2 ιk H'/\tn k s'.heap/\(∀b∈fp,H' b=none)/\n=Jt.xs.length-k/\k<=Jt.xs.length/\Jp9 ce X use pins ιk σi σ H' (Jcx Jt.chk g mt me h1.length (Jt.xs.drop k) σk hk) Q E) ?_ Jt.xs.length
    ⟨0,ι1++[D],stC loc.length js σi,h1++[.lst []],_,H2,N3,.refl,st3,λ b hb=>(f2 b hb).1,by simp,Nat.zero_le _,by simpa using K2⟩
   have stat:∀{H':Hp},(∀b∈fp,H' b=none)->∀b∈fp,FpOk (cxC X (loc++caps) scope C s2 H2 fp) [] H' b:=λ hn b hb =>
    ⟨hn b hb,(okX.exf b hb).1,okX.exfs b hb,.inl hb,(okX.exf b hb).2,λ p hp=>absurd (show p∈([]:List (Addr×Obj)) from hp) (by simp)⟩
   rintro n s4 ⟨k,ιk,σk,hk,σ4,H4,N4,n4,st4,fr4,rfl,hkl,K4⟩
   by_cases hlt:k<Jt.xs.length
   ·have hd:Jt.xs.drop k=Jt.xs[k]::Jt.xs.drop (k+1):=List.drop_eq_getElem_cons hlt
    rw[hd] at K4
    unfold Jcx at K4
    split at K4
    ·rename_i hck
     obtain⟨go,yl⟩:=OK.go k Jt.xs[k] hk H4 ιk (n2.trans n4) N4.rel hck (List.getElem?_eq_getElem hlt)
     refine thn (T.item (cxC X (loc++caps) scope C s2 H2 fp) k s4 σ4 H4 (hcc _ _ _ _ _ (n1.trans (n2.trans n4)).ext) N4.inv (stat fr4) st4 go) λ r s5 ⟨u,hr,h5⟩=>?_
     subst hr
     refine thn h5 λ _ s6 ⟨x,H6,I6,r6,y6,st6,fr6⟩=>?_
     obtain⟨R6,n6,q6⟩:=yl x H6 y6
     have I6':=I6.pinned (stat fr6) (T.obj _ _ st6)
     have N6:Now ce (cxC X (loc++caps) scope C s2 H2 fp) ([]++Jfm fp s6.heap) ιk σk hk σ4 H6 s6:=⟨I6',R6,N4.st.mono n6⟩
     have again:∀{σ7:L2.St}{H7:Hp}{s7:Shared}{σ7i:ISt}{h7:IH}{ι7:List Addr},Now ce (cxC X (loc++caps) scope C s2 H2 fp) ([]++Jfm fp s6.heap) ι7 σ7i h7 σ7 H7 s7->Nxt ιk H6 ι7 H7->Jp9 ce X use pins ιk σi σ H4 (Jcx Jt.chk g mt me h1.length (Jt.xs.drop (k+1)) σ7i h7) Q E ->
       ∃m,m<Jt.xs.length-k/\∃k ιk σk hk σ' H',Now ce (cxC X (loc++caps) scope C s2 H2 fp) [] ιk σk hk σ' H' s7/\Nxt (ι1++[D]) H2 ιk H'/\tn k s7.heap/\(∀b∈fp,H' b=none)/\m=Jt.xs.length-k/\k<=Jt.xs.length/\Jp9 ce X use pins ιk σi σ H' (Jcx Jt.chk g mt me h1.length (Jt.xs.drop k) σk hk) Q E :=
      λ {σ7 H7 s7 σ7i h7 ι7} N7 n7 K7=>by
       have nn:Nxt ιk H4 ι7 H7:=n6.trans n7
       refine⟨Jt.xs.length-(k+1),by omega,k+1,ι7,σ7i,h7,σ7,H7,N7.pins,n4.trans nn,T.keep _ _ _ st6 λ b hb o e=>(N7.inv.pin (b,o) (List.mem_append_right _ (List.mem_append_right _ (Jd4 hb e)))).1,λ b hb=>?_,rfl,hlt,K7.mono nn⟩
       obtain⟨o,e,d⟩:=T.obj _ _ st6 b hb
       exact(N7.inv.pin (b,o) (List.mem_append_right _ (List.mem_append_right _ (Jd4 hb e)))).2.1
     cases eg:g Jt.xs[k] σk hk with
     | next σg hgg =>
      rw[eg] at K4
      dsimp only at K4
      refine hg C s2 H2 fp _ s6 σ4 H6 ιk σk hk _ u (λ _ s7=>wpAny (model X.prog X.w) X.A (forIn ifs true λ c r=>if r=true then do let ok<-isTrue c _ (eval c _);pure (ForInStep.yield ok) else pure (ForInStep.yield r)) _ _ s7) (λ _ _=>False) N6 ⟨x,r6,q6⟩ ?_
      rw[eg]
      intro s7 σ7 H7 ι7 N7 n7
      refine ht C s2 H2 fp _ s7 σ7 H7 ι7 σg hgg _ (λ _ _=>False) N7 ?_
      cases et:mt σg hgg with
      | ok c h8 =>
       rw[et] at K4
       intro d s8 H8 ι8 N8 n8 rd
       have rd':d=c:=rd
       subst rd'
       cases d with
       | false=>exact again N8 (n7.trans n8) K4
       | true =>
        dsimp only at K4
        refine he C s2 H2 fp _ s8 σ7 H8 ι8 σg h8 _ (λ _ _=>False) N8 ?_
        cases ee:me σg h8 with
        | ok v h9 =>
         rw[ee] at K4
         dsimp only at K4
         intro w s9 H9 ι9 N9 n9 rw9
         have hat9:ι9[h1.length]?=some D:=(((n4.trans n6).trans n7).trans (n8.trans n9)).at hat
         cases hl:h9[h1.length]? with
         | none=>rw[hl] at K4;exact Zf K4
         | some ob =>
          rw[hl] at K4
          cases ob with
          | lst acc =>
           dsimp only at K4
           split at K4
           ·rename_i hz
            obtain⟨vs,eD,rD⟩:=N9.at hl hat9
            obtain⟨wv,rw9,qw⟩:=rw9
            have ap:=Jsm (X:=(cxC X (loc++caps) scope C s2 H2 fp).wish λ _ _=>False) ([]++Jfm fp s6.heap) s9 σ7 H9 (.ref D) [wv] (.ref D) [w] (λ _ H'=>H'=upd H9 D (.lst (vs++[wv]))) (N9.inv.wish _) rfl (.cons rw9 .nil) ⟨D,vs,wv,rfl,rfl,eD,by rw[rD.length];exact hz,rfl⟩
            refine wpAny_mono ap (λ _ s10 hq=>?_) λ _ _ z=>z
            obtain⟨z,H10,I10,_,rfl⟩:=hq
            have n10:Nxt ι9 H9 ι9 (upd H9 D (.lst (vs++[wv]))):=⟨⟨[],by simp⟩,Ext.upd_mut eD (by rw[eD];exact True.intro)⟩
            obtain⟨R10,_⟩:=N9.rel.write (o:=.lst (vs++[wv])) (io:=.lst (acc++[v])) hat9 eD (by rw[eD];exact True.intro) ⟨_,Jf,(RVs.mono n10 _ _ rD).append (RVs.one (RV.mono n10 _ _ qw))⟩
            exact again ⟨I10.unwish,R10,N9.st.mono n10⟩ (((n7.trans n8).trans n9).trans n10) K4
           ·exact Zf K4
          | _=>exact Zf K4
        | _=>rw[ee] at K4;exact Zf K4
      | _=>rw[et] at K4;exact Zf K4
     | _=>rw[eg] at K4;exact Zf K4
    ·exact Zf K4
   ·have hke:Jt.xs.drop k=[]:=List.drop_eq_nil_of_le (by omega)
    rw[hke] at K4
    unfold Jcx at K4
    split at K4
    ·rename_i hck
     have stop:=OK.stop k hk H4 ιk (n2.trans n4) N4.rel hck (by omega)
     refine thn (T.done (cxC X (loc++caps) scope C s2 H2 fp) k s4 σ4 H4 (hcc _ _ _ _ _ (n1.trans (n2.trans n4)).ext) N4.inv (stat fr4) st4 stop) λ r s5 ⟨hr,I5⟩=>?_
     subst hr
     obtain⟨m,hnm,_⟩:=I5.loc
     -- back to the def's own frame
     have hos:s5.os=s2.os:=I5.os
     obtain⟨hp5,g5,d5,t5,os5⟩:=s5
     obtain rfl:os5=s2.os:=hos
     have J5:Inv X pins σ H4 { s2 with heap:=hp5,gens:=g5,drawn:=d5,toks:=t5 }:=I2.call (ch:=fp) I5.base I5.hok I5.bare λ b hb=>⟨(f2 b hb).2.2.2.1,(f2 b hb).2.1,(f2 b hb).2.2.2.2.1,(f2 b hb).2.2.2.2.2⟩
     have fC:FpOk X pins H4 C:=I2.fpOk (Nat.le_of_eq hC) I5.free
     exact K4 D C m _ H4 ιk ⟨J5,N4.rel,(N2.st.mono n4)⟩ .refl ⟨.ref D,rfl,D,rfl,n4.at hat⟩ hnm fC
    ·exact Zf K4
  exact codeAny_compStart_list loop (T.self X.A 0 _ _ _ st3 loop)
theorem Now.letgo {pins:List (Addr×Obj)}{ι:List Addr}{σi:ISt}{h:IH}{σ:L2.St}{H:Hp}{s:Shared}{C:Addr}{h':Heap}(N:Now ce X pins ι σi h σ H s) (fC:FpOk X pins H C) (sb:Heap.SameBut C s.heap h'):Now ce X pins ι σi h σ H { s with heap:=h' } :=
 ⟨N.inv.turned (it:=C) (t':=s.toks) (λ b o hb q=>(sb.2 b hb).trans q) fC.1 fC.2.1 fC.2.2.2.1 fC.2.2.2.2.1 fC.2.2.2.2.2,N.rel,N.st⟩
theorem J2d {N0 loc caps:List Str}{js:List Nat}{sc₀ scope:Scope}{tg iter elt:Expr}{ifs:List Expr}{mi:I1}{g:G1}{mt:T1}{me:E1}{pos:Pos}(hc:X.calm=true) (hi:PIi ce X tg iter mi)
  (hg:∀C s H fp,PGi ce (cxC X (loc++caps) scope C s H fp) tg g) (ht:∀C s H fp,PTsi ce (cxC X (loc++caps) scope C s H fp) ifs mt) (he:∀C s H fp,PEi ce (cxC X (loc++caps) scope C s H fp) elt me)
  (ok:Jfj N0 loc caps js sc₀ scope=true) (hN0:X.N=N0:=by rfl) (hsc:X.env.scope=sc₀:=by rfl) (hs:∀x,foldedSetIterable iter X.env x=pure x:=by intro _;rfl):PEi ce X (.ListComp elt [⟨tg,iter,ifs,0⟩] scope pos) (Jr mi loc.length js g mt me):=by
 intro pins s σ H ι σi h Q E N K
 rw[eval_ListComp]
 refine Jrw hi.c hg ht he ok hN0 hsc hs (λ _ _ _ _ _ _=>⟨rfl,rfl,rfl,hc⟩) N ?_
 cases e0:Jr mi loc.length js g mt me σi h with
 | exc n h'=>rw[e0] at K;exact K
 | stuck=>rw[e0] at K;exact K
 | ok v h' =>
  rw[e0] at K
  exact λ D C m s' H' ι' N' n' r hns fC=>⟨m,hns,λ h2 sb=>K _ _ H' ι' (N'.letgo fC sb) n' r⟩
theorem J2o {N0 loc caps:List Str}{js:List Nat}{sc₀ scope:Scope}{tg iter elt:Expr}{ifs:List Expr}{mi:I1}{g:G1}{mt:T1}{me:E1}{pos pos2 pos3:Pos}{i:Nat}{x:Str}(hc:X.calm=true) (hi:PIi ce X tg iter mi)
  (hg:∀C s H fp,PGi ce (cxC X (loc++caps) scope C s H fp) tg g) (ht:∀C s H fp,PTsi ce (cxC X (loc++caps) scope C s H fp) ifs mt) (he:∀C s H fp,PEi ce (cxC X (loc++caps) scope C s H fp) elt me)
  (ok:Jfj N0 loc caps js sc₀ scope=true) (hN0:X.N=N0:=by rfl) (hsc:X.env.scope=sc₀:=by rfl) (hs:∀x,foldedSetIterable iter X.env x=pure x)
  (hN:X.N.Nodup) (hix:X.N[i]?=some x) (hlx:Loc X.env.scope x) (hf:X.fn x=true∨X.env.scope.names.lookup x=some .local)
  (hsw:swapsWith (.ListComp elt [⟨tg,iter,ifs,0⟩] scope pos) (some (.Name x pos2)) pos3.line X.env=pure true) :
  PS1 ce X (.Assign [.Name x pos2] (.ListComp elt [⟨tg,iter,ifs,0⟩] scope pos) pos3) (sSet i (Jr mi loc.length js g mt me)):=by
 intro pins s σ H ι σi h Q E N K
 rw[exec_Assign_Name_used _ _ _ _ hsw]
 refine wpAny_bind (wpAny_standAt (wpAny_bind ?_))
 rw[arm_evalThenUse_ListComp]
 refine wpAny_bind ?_
 refine Jrw (use:=some (assign (.Name x pos2) X.env)) hi.c hg ht he ok hN0 hsc hs (λ _ _ _ _ _ _=>⟨rfl,rfl,rfl,hc⟩) N ?_
 unfold sSet at K
 cases e0:Jr mi loc.length js g mt me σi h with
 | exc n h'=>rw[e0] at K;exact λ pl a s' H' ι' N' n' q=>K pl a s' σ H' ι' N' n' q s' (.inl rfl)
 | stuck=>rw[e0] at K;exact K
 | ok v h' =>
  rw[e0] at K
  intro D C m s' H' ι' N' n' r hns fC
  obtain⟨w,rw',q⟩:=r
  obtain⟨oC,es,ep,hoC,hdC,hrest⟩:=id hns
  have hp:Inv X (pins++Jfm [C] s'.heap) σ H' s':=N'.inv.pinned (λ b hb=>(show b=C by simpa using hb)▸fC) (λ b hb=>by
   have e:b=C:=by simpa using hb
   subst e
   exact⟨oC,hoC,λ v z=>by rw[hdC] at z;cases z⟩)
  refine wpAny_assign_Name (Jq6 hp hN hix hlx rw' (λ s2 I2=>?_) hf)
  have hC2:=(I2.pin (C,oC) (List.mem_append_right _ (List.mem_append_right _ (Jd4 (by simp) hoC)))).1
  refine⟨m,⟨oC,es,ep,hC2,hdC,hrest⟩,λ h2 sb=>wpAny_pure ?_⟩
  have N2:Now ce X pins ι' (σi.set i (some v)) h' (σ.set i (some w)) H' s2:=⟨I2.unpinned,N'.rel,N'.st.set i q⟩
  exact wpAny_pure (K _ _ H' ι' (N2.letgo fC sb) n')
noncomputable def Jpc (x:Str):List IV:=x.cps.toList.map λ c=>.str ⟨#[c]⟩
noncomputable def Its (x:Str):It:=⟨λ i _=>i<x.cps.size,λ i H y H'=>H'=H/\∃c,x.cps[i]?=some c/\y=.str ⟨#[c]⟩,λ i _=>x.cps.size<=i⟩
theorem Jvo {P:Program}{w:World}{K:W.Frag}{tg:Expr}{ty:String}{x:Str}{t:Tok}(it:Addr) (hty:["enumerate","zip","dict_itemiterator","dict_reverseitemiterator","odict_iterator","itertools.zip_longest","itertools.pairwise"].contains ty=false)
  (W:∀A:Around,A.handled=none->Walks P w A it [it] [it] x.cps.size (SignAt x) (λ i h=>h.IsStrIter it ty x t i))
  (We:∀(A:Around) (E:Value->Shared->Prop) (s:Shared) (i:Nat) (Q:Option Value->Shared->Prop),A.handled=none->s.heap.IsStrIter it ty x t i->x.cps[i]?=none->(∀h',Heap.ExtBut it s.heap h'->Q none { s with heap:=h' })->wpAny (model P w) A (pyNext (.ref it)) Q E s)
  (Ws:∀(A:Around) (E:Value->Shared->Prop) (s:Shared) (i:Nat) (Q:Value->Shared->Prop),s.heap.IsStrIter it ty x t i->Q (.ref it) s->wpAny (model P w) A (pyIter (.ref it)) Q E s):Turn P w K tg (Its x) [it] it (λ i h=>h.IsStrIter it ty x t i) where
 mem:=by simp
 obj:=λ i h st b hb=>by
  have e:b=it:=by simpa using hb
  subst e
  obtain⟨o,e,c,d⟩:=st
  exact⟨o,e,λ v z=>by rw[d] at z;cases z⟩
 keep:=λ i h h' st k=>by
  obtain⟨o,e,r⟩:=st
  exact⟨o,k it (by simp) o e,r⟩
 item:=by
  intro X hP hw hK hc i pins s σ H E I hf st hg
  subst hP hw hK
  obtain⟨f0,f1,f2,f3,f4,f5⟩:=hf it (by simp)
  refine(W X.A (I.ok.hd hc)).item i s _ _ hg st λ v h' tk hv st' kk=>?_
  obtain⟨c,u,hcc,rfl⟩:=hv
  have I1:Inv X pins σ H { s with heap:=h',toks:=tk }:=I.turned (λ b o hb e=>kk b o (by simpa using hb) e) f0 f1 f3 f4 f5
  obtain⟨o,e,c1,d1⟩:=id st'
  exact⟨_,rfl,J0n (s:={ s with heap:=h',toks:=tk }) e c1 d1 hty ⟨.str ⟨#[c]⟩,H,I1,⟨u,rfl⟩,⟨rfl,c,hcc,rfl⟩,st',λ b hb=>(hf b hb).1⟩⟩
 done:=by
  intro X hP hw hK hc i pins s σ H E I hf st hg
  subst hP hw hK
  obtain⟨f0,f1,f2,f3,f4,f5⟩:=hf it (by simp)
  have hi:x.cps.size<=i:=hg
  have hx:x.cps[i]?=none:=by simp[hi]
  exact We X.A _ s i _ (I.ok.hd hc) st hx λ h' eb=>⟨rfl,I.turned (t':=s.toks) (λ b o hb e=>eb b o hb e) f0 f1 f3 f4 f5⟩
 self:=λ A i s Q E st h=>Ws A E s i Q st h
noncomputable def J0z:IV->IH->Res ItI
 | .str x,h=>.ok ⟨Jpc x,λ _=>True⟩ h
 | _,_=>.stuck
noncomputable def iStr (e:E1):I1:=λ σ h=>(e σ h).bind J0z
theorem J2g {x:Str}{ι:List Addr}{H₀:Hp}:ItOk ce X.K ι H₀ (Its x) ⟨Jpc x,λ _=>True⟩:=by
 refine⟨λ k v h H ι' hp R hck hx=>?_,λ k h H ι' hp R hck hx=>?_⟩
 ·have hk:k<x.cps.size:=by
   have:=(List.getElem?_eq_some_iff.mp hx).1
   simpa [Jpc] using this
  refine⟨hk,λ y H' hy=>?_⟩
  obtain⟨rfl,c,hc,rfl⟩:=hy
  simp only[Jpc,List.getElem?_map,Array.getElem?_toList,hc] at hx
  cases hx
  exact⟨R,.refl,rfl⟩
 ·have:(Jpc x).length=x.cps.size:=by simp[Jpc]
  show x.cps.size<=k
  rw[<- this]
  exact hx
theorem Jwb {tg l:Expr}{ml:E1}(hl:PEi ce X l ml):PIi ce X tg l (iStr ml):=by
 intro pins s σ H ι σi h Q E N K
 refine hl pins s σ H ι σi h _ E N ?_
 unfold iStr at K
 cases e0:ml σi h with
 | exc n h'=>rw[e0] at K;exact K
 | stuck=>rw[e0] at K;exact K
 | ok v h' =>
  rw[e0] at K
  intro u s1 H1 ι1 N1 n1 r1
  obtain⟨w,rw',q⟩:=r1
  have fresh:∀b∈[s1.heap.objs.size],FpOk X pins H1 b:=λ b hb=>by
   have e:b=s1.heap.objs.size:=by simpa using hb
   subst e
   exact N1.inv.fpOk (Nat.le_refl _) (N1.inv.hok.fresh (Nat.le_refl _))
  cases v with
  | str x =>
   have e1:w=.str x:=q
   subst e1
   obtain⟨t,rfl⟩:=rw'
   simp only[Res.bind,J0z] at K
   cases ha:x.cps.all (· < 128) with
   | true =>
    refine wpAny_pyIter_ascii ha (K _ _ H1 ι1 ⟨N1.inv.kept (t':=s1.toks) λ b o e=>Heap.get?_push_of_some _ e,N1.rel,N1.st⟩ n1 ?_)
    exact⟨s1.heap.objs.size,[s1.heap.objs.size],_,Its x,rfl,Jvo (ty:="str_ascii_iterator") (t:=t) _ (by decide) (λ A hA=>Walks.strAscii hA _ x t) (λ A E s i Q hA st hx hQ=>wpAny_pyNext_ascii_end hA st hx hQ) (λ A E s i Q st hq=>wpAny_pyIter_striter_ascii st hq),⟨_,Heap.get?_push_size _ rfl,rfl,rfl⟩,fresh,J2g⟩
   | false =>
    refine wpAny_pyIter_wide ha (K _ _ H1 ι1 ⟨N1.inv.kept (t':=s1.toks) λ b o e=>Heap.get?_push_of_some _ e,N1.rel,N1.st⟩ n1 ?_)
    exact⟨s1.heap.objs.size,[s1.heap.objs.size],_,Its x,rfl,Jvo (ty:="str_iterator") (t:=t) _ (by decide) (λ A hA=>Walks.strWide hA _ x t) (λ A E s i Q hA st hx hQ=>wpAny_pyNext_wide_end hA st hx hQ) (λ A E s i Q st hq=>wpAny_pyIter_striter_wide st hq),⟨_,Heap.get?_push_size _ rfl,rfl,rfl⟩,fresh,J2g⟩
  | _=>simp only[Res.bind,J0z] at K
noncomputable def Ite (K:W.Frag) (a:Addr):It :=
 ⟨λ i H=>∃xs x,SqL K H a xs/\xs[i]?=some x,λ i H y H'=>∃p x,H p=none/\y=.ref p/\H'=upd H p (.tup [.int (i:Int),x])/\∀xs,SqL K H a xs->xs[i]?=some x,λ i H=>∃xs,SqL K H a xs/\xs.length<=i⟩
theorem Jzp {P:Program}{w:World}{K:W.Frag}{es:List Expr}{k:Nat}{p:Pos}(a it e:Addr) (hne:e≠it):Turn P w K (.Tuple es k p) (Ite K a) [e,it] e (λ i h=>(∃old,IsEnum h e it (i:Int) old)/\h.IsListIter it a i) where
 mem:=by simp
 obj:=λ i h st b hb=>by
  obtain⟨⟨old,he⟩,o,e1,c,d⟩:=st
  simp only[List.mem_cons,List.not_mem_nil,or_false] at hb
  rcases hb with rfl|rfl
  ·exact⟨_,he,λ v z=>by
    have z':Data.fields _=Data.cell v:=z
    cases z'⟩
  ·exact⟨o,e1,λ v z=>by rw[d] at z;cases z⟩
 keep:=λ i h h' st k=>⟨let ⟨old,he⟩:=st.1;⟨old,k e (by simp) _ he⟩,st.2.at λ o e=>k it (by simp) o e⟩
 item:=by
  intro X hP hw hK hc i pins s σ H E I hf st hg
  subst hP hw hK
  obtain⟨⟨old,he⟩,hit⟩:=st
  obtain⟨xs,x,hq,hx⟩:=hg
  obtain⟨its,rv,pl,hz⟩:=I.list hq
  obtain⟨u,hu,ru⟩:=rv.get hx
  have fe:=hf e (by simp)
  have fi:=hf it (by simp)
  have hn:H s.heap.objs.size=none:=I.hok.fresh (Nat.le_refl _)
  refine wpAny_pyNext_enum_item he hit pl.isList (x:=u) (by simpa using hu) hne λ h' he' hit' ht hsz kk=>?_
  refine⟨_,rfl,wpAny_letOwnedTupleGo_enum he' λ h2 he2 sb=>?_⟩
  have ltE:e<s.heap.objs.size:=Heap.lt_size he
  have neT:s.heap.objs.size≠e:=Nat.ne_of_gt ltE
  have k2:∀b o,b≠e->b≠it->s.heap.get? b=some o->h2.get? b=some o:=λ b o h1 h3 q=>(sb.2 b h1).trans (kk b o h1 h3 q)
  have hl2:h2.IsListIter it a (i+1):=by
   obtain⟨o,q,r⟩:=hit'
   exact⟨o,(sb.2 it (Ne.symm hne)).trans q,r⟩
  have t2:h2.get? s.heap.objs.size=some { cls:=.type "tuple",data:=.seq #[.int i s.toks,u] }:=(sb.2 _ neT).trans ht
  -- the two records turn, then the tuple is tracked
  obtain⟨oe,hoe⟩:∃o,s.heap.get? e=some o:=⟨_,he⟩
  obtain⟨oi,hoi,_⟩:=id hit
  have neP:∀b u,H b=some u->b≠s.heap.objs.size:=λ b u q=>J6 q hn
  have I1:Inv X pins σ (upd H s.heap.objs.size (.tup [.int (i:Int),x])) { s with heap:=h2,toks:=s.toks+1 }:=by
   refine I.step (g':=s.gens) (d':=s.drawn) (ch:=[e,it]) (λ b hb=>?_) (λ b o _ _ hc q _=>k2 b o (λ z=>hc (by simp[z])) (λ z=>hc (by simp[z])) q) (λ b o _ _ hc q _=>⟨o.slots,k2 b o (λ z=>hc (by simp[z])) (λ z=>hc (by simp[z])) q⟩) (λ b o _ q n=>?_)
    (λ b o hc q=>⟨o,k2 b o (λ z=>hc (by simp[z])) (λ z=>hc (by simp[z])) q⟩) (λ b xs q=>by rw[Ji (neP b _ q)];exact q) (λ b o u q=>by rw[Ji (neP b _ q)];exact q) (λ b ps q=>⟨#[],by rw[Ji (neP b _ q),q];simp⟩) (λ m hm=>?_) (λ b u q=>?_) I.bare
   ·simp only[List.mem_cons,List.not_mem_nil,or_false] at hb
    rcases hb with rfl|rfl
    ·exact⟨fe.2.2.2.1,fe.2.1,fe.2.2.2.2.1,fe.2.2.2.2.2⟩
    ·exact⟨fi.2.2.2.1,fi.2.1,fi.2.2.2.2.1,fi.2.2.2.2.2⟩
   ·rw[Ji (Nat.ne_of_lt (Heap.lt_size q))];exact n
   ·obtain⟨o,es,ep,ho,r⟩:=hm
    exact⟨o,es,ep,k2 _ o (Ne.symm fe.2.1) (Ne.symm fi.2.1) ho,r⟩
   ·by_cases hb:b=s.heap.objs.size
    ·subst hb
     rw[Jf] at q
     cases q
     exact⟨by show 2<=sizeLine;decide,[.int i s.toks,u],.cons ⟨_,rfl⟩ (.cons ru .nil),⟨_,t2,rfl,_,rfl⟩⟩
    ·rw[Ji hb] at q
     have n1:b≠e:=λ z=>by rw[z,fe.1] at q;cases q
     have n2:b≠it:=λ z=>by rw[z,fi.1] at q;cases q
     refine(I.hok b u q).stay (λ c v hc r=>k2 c v ?_ ?_ r) (λ c q=>by rw[Ji (neP c _ q)];exact q) λ c ys q=>by rw[Ji (neP c _ q)];exact q
     ·rcases hc with z|z
      ·rw[z];exact n1
      ·intro y;rw[y,fe.1] at z;cases z
     ·rcases hc with z|z
      ·rw[z];exact n2
      ·intro y;rw[y,fi.1] at z;cases z
  refine⟨.ref s.heap.objs.size,_,I1,rfl,⟨s.heap.objs.size,x,hn,rfl,rfl,λ ys hy=>by rw[I.list_inj hy hq];exact hx⟩,⟨⟨_,he2⟩,hl2⟩,λ b hb=>?_⟩
  simp only[List.mem_cons,List.not_mem_nil,or_false] at hb
  rcases hb with rfl|rfl
  ·rw[Ji (Nat.ne_of_lt ltE)];exact fe.1
  ·rw[Ji (Nat.ne_of_lt (Heap.lt_size hoi))];exact fi.1
 done:=by
  intro X hP hw hK hc i pins s σ H E I hf st hg
  subst hP hw hK
  obtain⟨⟨old,he⟩,hit⟩:=st
  obtain⟨xs,hq,hx⟩:=hg
  obtain⟨its,rv,p,hz⟩:=I.list hq
  obtain⟨f0,f1,f2,f3,f4,f5⟩:=hf it (by simp)
  have hl:=rv.length
  exact wpAny_pyNext_enum_end (I.ok.hd hc) he hit p.isList (by simp;omega) λ h' eb=>⟨rfl,I.turned (t':=s.toks) (λ b o hb e=>eb b o hb e) f0 f1 f3 f4 f5⟩
 self:=λ _ _ _ _ _ st h=>let ⟨_,he⟩:=st.1;wpAny_pyIter_enum he h
noncomputable def Jk6 (n:Nat):List IV->List IV
 | []=>[]
 | x::xs=>.tup [.int n,x]::Jk6 (n+1) xs
theorem Jnl:∀(xs:List IV) (n k:Nat),(Jk6 n xs)[k]?=(xs[k]?).map λ x=>.tup [.int ((n+k:Nat):Int),x]
 | [],_,_=>by simp[Jk6]
 | x::xs,n,0=>by simp[Jk6]
 | x::xs,n,k+1=>by
  simp only[Jk6,List.getElem?_cons_succ]
  rw[Jnl xs (n+1) k]
  have:n+1+k=n+(k+1):=by omega
  rw[this]
theorem Jcs:∀(xs:List IV) (n:Nat),(Jk6 n xs).length=xs.length
 | [],_=>rfl
 | _::xs,n=>by simp[Jk6,Jcs xs]
noncomputable def Jgq:List IV->IH->Res ItI
 | [.ref i],h=>match h[i]? with
  | some (.lst xs)=>.ok ⟨Jk6 0 xs,λ h'=>h'[i]?=some (.lst xs)⟩ h
  | _=>.stuck
 | _,_=>.stuck
theorem J6h {a:Addr}{i:Nat}{xs:List IV}{ι:List Addr}{H₀:Hp}(ha:ι[i]?=some a):ItOk ce X.K ι H₀ (Ite X.K a) ⟨Jk6 0 xs,λ h'=>h'[i]?=some (.lst xs)⟩:=by
 refine⟨λ k v h H ι' hp R hck hx=>?_,λ k h H ι' hp R hck hx=>?_⟩
 ·obtain⟨vs,e1,r1⟩:=R.get hck (hp.at ha)
  have hx':(Jk6 0 xs)[k]?=some v:=hx
  rw[Jnl] at hx'
  obtain⟨x,hxk,rfl⟩:=Option.map_eq_some_iff.mp hx'
  obtain⟨u,hu,qu⟩:=r1.get hxk
  refine⟨⟨vs,u,SqL.of e1,hu⟩,λ y H' hy=>?_⟩
  obtain⟨p,x',hp0,rfl,rfl,hy⟩:=hy
  have:=hy vs (SqL.of e1)
  rw[hu] at this
  cases this
  obtain⟨R',n'⟩:=R.grow (o:=.tup [.int (k:Int),u]) hp0
  refine⟨R',n',p,_,rfl,SqT.of Jf,⟨_,_,rfl,?_,_,_,rfl,RV.mono n' _ _ qu,rfl⟩⟩
  show V.int (k:Int)=V.int ((0+k:Nat):Int)
  simp
 ·obtain⟨vs,e1,r1⟩:=R.get hck (hp.at ha)
  exact⟨vs,SqL.of e1,by rw[r1.length,<-Jcs xs 0];exact hx⟩
theorem J59 {es:List Expr}{kt:Nat}{pt:Pos}{a:Expr}{ma:A1}{p pos:Pos}(hg:Gl X "enumerate") (hm:X.mg "enumerate"=none) (ha:PAi ce X [a] ma) (hs:starEach [a] X.env=[(false,eval a X.env)]:=by rfl):PIi ce X (.Tuple es kt pt) (.Call (.Name "enumerate" p) [a] [] pos) (iRg Jgq ma):=by
 intro pins s σ H ι σi h Q E N K
 refine Call_ (Jhs N.inv hg hm boot_enumerate (PyProof.Rows.callWith_type1 ?_ hs rfl))
 refine ha pos pins s σ H ι σi h _ E N ?_
 unfold iRg at K
 cases e0:ma σi h with
 | exc n h'=>rw[e0] at K;exact K
 | stuck=>rw[e0] at K;exact K
 | ok vs h' =>
  rw[e0] at K
  intro us s1 H1 ι1 N1 n1 r1
  obtain⟨xs,rv,qs⟩:=r1
  match vs,K with
  | [.ref i],K =>
   obtain⟨w,e1,q⟩:=qs.one_of
   subst e1
   obtain⟨b,e3,hb⟩:=q
   subst e3
   obtain⟨u,rfl,ru⟩:=Jmm rv
   cases ru
   cases hi:h'[i]? with
   | none=>simp only[Res.bind,Jgq,hi] at K
   | some ob =>
    cases ob with
    | lst ys =>
     simp only[Res.bind,Jgq,hi] at K
     obtain⟨ws,eH,rH⟩:=N1.at hi hb
     obtain⟨z,its,n,r,hl,eo⟩:=N1.inv.lstM eH
     refine call_enumerate_1 eo λ h2 he hit hsz kp=>?_
     refine wpAny_pyIter_enum he (K _ _ H1 ι1 ⟨N1.inv.kept (t':=s1.toks) kp,N1.rel,N1.st⟩ n1 ?_)
     refine⟨s1.heap.objs.size+1,[s1.heap.objs.size+1,s1.heap.objs.size],_,Ite X.K b,rfl,Jzp b s1.heap.objs.size (s1.heap.objs.size+1) (Nat.ne_of_gt (Nat.lt_succ_self _)),⟨⟨_,he⟩,hit⟩,λ c hc=>?_,J6h hb⟩
     simp only[List.mem_cons,List.not_mem_nil,or_false] at hc
     rcases hc with rfl|rfl
     ·exact N1.inv.fpOk (Nat.le_succ _) (N1.inv.hok.fresh (Nat.le_succ _))
     ·exact N1.inv.fpOk (Nat.le_refl _) (N1.inv.hok.fresh (Nat.le_refl _))
    | _=>simp only[Res.bind,Jgq,hi] at K
  | [],K=>exact Zf K
  | .non::_,K=>exact Zf K
  | .bl _::_,K=>exact Zf K
  | .str _::_,K=>exact Zf K
  | .tup _::_,K=>exact Zf K
  | .rol _::_,K=>exact Zf K
  | .int _::_,K=>exact Zf K
  | .ref _::_::_,K=>exact Zf K
end
noncomputable def Jwf:IV->IH->Res ItI
 | .str x,h=>J0z (.str x) h
 | v,h=>itOf v h
noncomputable def iAny (e:E1):I1:=λ σ h=>(e σ h).bind Jwf
theorem J0q {ce:Str->Option Addr}{X:Cx}{tg l:Expr}{ml:E1}(hl:PEi ce X l ml):PIi ce X tg l (iAny ml):=by
 intro pins s σ H ι σi h Q E N K
 cases e0:ml σi h with
 | ok v h' =>
  cases v with
  | str x=>exact Jwb (tg:=tg) hl pins s σ H ι σi h Q E N (by unfold iStr;unfold iAny at K;rw[e0] at K ⊢;exact K)
  | _=>exact Jyl (tg:=tg) hl pins s σ H ι σi h Q E N (by unfold iVal;unfold iAny at K;rw[e0] at K ⊢;exact K)
 | exc n h'=>exact Jyl (tg:=tg) hl pins s σ H ι σi h Q E N (by unfold iVal;unfold iAny at K;rw[e0] at K ⊢;exact K)
 | stuck=>exact Jyl (tg:=tg) hl pins s σ H ι σi h Q E N (by unfold iVal;unfold iAny at K;rw[e0] at K ⊢;exact K)
section
variable {ce:Str->Option Addr}{X:Cx}
theorem x_sl:SlI ce X slI:=by
 intro pins s σ H ι σi h x v vl vu lo hi sl Q E N rx hs pl pu K
 obtain⟨xv,rx,qx⟩:=rx
 cases x with
 | ref i =>
  obtain⟨a,e1,ha⟩:=qx
  subst e1
  dsimp only[slI] at K
  cases hi':h[i]? with
  | none=>rw[hi'] at K;exact Zf K
  | some ob =>
   rw[hi'] at K
   cases ob with
   | lst xs =>
    obtain⟨vs,e1,r1⟩:=N.at hi' ha
    exact J20 (Jzj (X:=X.wish E)) N.inv rx hs pl pu ⟨a,vs,rfl,SqL.of e1,λ p hp=>finA N K p hp ⟨_,Jf,RVs.new hp (r1.cut lo hi)⟩⟩
   | _=>exact Zf K
 | rol xs =>
  obtain⟨a,vs,e1,sa,ra⟩:=qx
  subst e1
  exact J20 (Jzj (X:=X.wish E)) N.inv rx hs pl pu ⟨a,vs,rfl,sa.sq,λ p hp=>finA N K p hp ⟨_,Jf,RVs.new hp (ra.cut lo hi)⟩⟩
 | _=>exact Zf K
noncomputable def revI:IV->IH->Res IV
 | .ref i,h=>match h[i]? with
  | some (.lst xs)=>.ok (.ref h.length) (h++[.lst xs.reverse])
  | _=>.stuck
 | .rol xs,h=>.ok (.ref h.length) (h++[.lst xs.reverse])
 | _,_=>.stuck
noncomputable def Jnu:IV->IH->Res IV
 | .ref i,h=>match h[i]? with
  | some (.lst xs)=>.ok (.ref h.length) (h++[.lst xs])
  | _=>.stuck
 | .rol xs,h=>.ok (.ref h.length) (h++[.lst xs])
 | .tup xs,h=>.ok (.ref h.length) (h++[.lst xs])
 | _,_=>.stuck
theorem J5p:Jfq ce X (.type "list") (on1 Jnu):=Jl7 λ pins s σ H ι σi h x xv u Q E N ru qx K=>by
 cases x with
 | ref i =>
  obtain⟨a,e1,ha⟩:=qx
  subst e1
  dsimp only[Jnu] at K
  cases hi:h[i]? with
  | none=>rw[hi] at K;exact Zf K
  | some ob =>
   rw[hi] at K
   cases ob with
   | lst xs =>
    obtain⟨vs,e1,r1⟩:=N.at hi ha
    exact Jat (Jgl (X:=X.wish E)) N.inv (.cons ru .nil) ⟨a,vs,rfl,.inl (SqL.of e1),λ p hp=>finA N K p hp ⟨_,Jf,RVs.new hp r1⟩⟩
   | _=>exact Zf K
 | rol xs =>
  obtain⟨a,vs,e1,sa,ra⟩:=qx
  subst e1
  exact Jat (Jgl (X:=X.wish E)) N.inv (.cons ru .nil) ⟨a,vs,rfl,.inl sa.sq,λ p hp=>finA N K p hp ⟨_,Jf,RVs.new hp ra⟩⟩
 | tup xs =>
  obtain⟨a,vs,e1,sa,ra⟩:=qx
  subst e1
  exact Jat (Jgl (X:=X.wish E)) N.inv (.cons ru .nil) ⟨a,vs,rfl,.inr sa,λ p hp=>finA N K p hp ⟨_,Jf,RVs.new hp ra⟩⟩
 | _=>exact Zf K
noncomputable def Joe:IV->IH->Res IV
 | .ref i,h=>match h[i]? with
  | some (.lst xs)=>.ok (.tup xs) h
  | _=>.stuck
 | .tup xs,h=>.ok (.tup xs) h
 | _,_=>.stuck
theorem J3c:Jfq ce X (.type "tuple") (on1 Joe):=Jl7 λ pins s σ H ι σi h x xv u Q E N ru qx K=>by
 cases x with
 | ref i =>
  obtain⟨a,e1,ha⟩:=qx
  subst e1
  dsimp only[Joe] at K
  cases hi:h[i]? with
  | none=>rw[hi] at K;exact Zf K
  | some ob =>
   rw[hi] at K
   cases ob with
   | lst xs =>
    obtain⟨vs,e1,r1⟩:=N.at hi ha
    exact Jat (Jj8 (X:=X.wish E)) N.inv (.cons ru .nil) ⟨a,vs,rfl,.inl ⟨SqL.of e1,λ p hp=>finT N K p hp r1⟩⟩
   | _=>exact Zf K
 | tup xs =>
  have qx':=qx
  obtain⟨a,vs,e1,sa,ra⟩:=qx
  subst e1
  exact Jat (Jj8 (X:=X.wish E)) N.inv (.cons ru .nil) ⟨a,vs,rfl,.inr ⟨sa,fin0 N K qx'⟩⟩
 | _=>exact Zf K
noncomputable def intI:IV->IH->Res IV
 | .int i,h=>.ok (.int i) h
 | .bl b,h=>.ok (.int (if b then 1 else 0)) h
 | _,_=>.stuck
theorem Jrq:Jfq ce X (.type "int") (on1 intI):=Jl7 λ pins s σ H ι σi h x xv u Q E N ru qx K=>by
 cases x with
 | int i =>
  have e:xv=.int i:=qx
  subst e
  exact Jat (Jrr (X:=X.wish E)) N.inv (.cons ru .nil) (.inl ⟨i,rfl,fin0 N K rfl⟩)
 | bl b =>
  have e:xv=.bl b:=qx
  subst e
  exact Jat (Jrr (X:=X.wish E)) N.inv (.cons ru .nil) (.inr ⟨b,rfl,fin0 N K rfl⟩)
 | _=>exact Zf K
noncomputable def strI:IV->IH->Res IV
 | .int i,h=>if i.natAbs.log2<1920 then .ok (.str (toString i)) h else .stuck
 | _,_=>.stuck
noncomputable def Jrm:List IV->Option (List Bool)
 | []=>some []
 | .bl b::r=>(Jrm r).map (b:: ·)
 | _::_=>none
noncomputable def allI:IV->IH->Res IV
 | .ref i,h=>match h[i]? with
  | some (.lst xs)=>(match Jrm xs with
   | some bs=>.ok (.bl (bs.all id)) h
   | none=>.stuck)
  | _=>.stuck
 | _,_=>.stuck
noncomputable def anyI:IV->IH->Res IV
 | .ref i,h=>match h[i]? with
  | some (.lst xs)=>(match Jrm xs with
   | some bs=>.ok (.bl (bs.any id)) h
   | none=>.stuck)
  | _=>.stuck
 | _,_=>.stuck
theorem Ju4 {K:W.Frag}{ι:List Addr}{H:Hp}:∀{xs:List IV}{bs:List Bool}{vs:List V}{us:List Value},Jrm xs=some bs->RVs K ι H xs vs->Vals vs us->us=bs.map Value.bool
 | [],bs,vs,us,e,q,r=>by
  cases e
  have e1:vs=[]:=q
  subst e1
  cases r
  rfl
 | x::xs,bs,vs,us,e,q,r=>by
  obtain⟨v,vr,e1,q1,q2⟩:=q
  subst e1
  cases r with
  | cons r1 r2 =>
   cases x with
   | bl b =>
    obtain⟨b2,e2,rfl⟩:=Option.map_eq_some_iff.mp (show(Jrm xs).map (b:: ·)=some bs from e)
    cases (show v=.bl b from q1)
    cases r1
    rw[Ju4 e2 q2 r2]
    rfl
   | _=>cases e
theorem Jxj (bs:List Bool):((List.range bs.length).all λ i=>bs.getD i true)=bs.all id:=by
 induction bs with
 | nil=>rfl
 | cons b r ih =>
  rw[List.length_cons,List.range_succ_eq_map,List.all_cons,List.all_map,List.all_cons]
  have e:((List.range r.length).all ((λ i=>(b::r).getD i true)∘Nat.succ))=(List.range r.length).all λ i=>r.getD i true:=by
   congr 1
  rw[e,ih]
  rfl
theorem c_all (hh:X.A.handled=none):Jfq ce X (.builtin "all") (on1 allI):=Jl7 λ pins s σ H ι σi h x xv u Q E N ru qx K=>by
 cases x with
 | ref i =>
  obtain⟨a,e1,ha⟩:=qx
  subst e1
  cases ru
  dsimp only[allI] at K
  cases hi:h[i]? with
  | none=>rw[hi] at K;exact Zf K
  | some ob =>
   rw[hi] at K
   cases ob with
   | lst xs =>
    dsimp only at K
    cases hb:Jrm xs with
    | none=>rw[hb] at K;exact Zf K
    | some bs =>
     rw[hb] at K
     obtain⟨vs,e1,r1⟩:=N.at hi ha
     obtain⟨its,rv,pl,hz⟩:=N.inv.list (SqL.of e1)
     have eu:=Ju4 hb r1 rv
     subst eu
     refine call_all_walk (wpAny_pyIter_list pl.isList ?_)
     have hlt:a<s.heap.objs.size:=by obtain⟨o,_,ho,_⟩:=pl;exact Heap.lt_size ho
     have ne:a≠s.heap.objs.size:=Nat.ne_of_lt hlt
     refine⟨s.heap.objs.size,_,_,_,_,_,λ i=>bs.getD i true,rfl,Walks.list (prog:=X.prog) (w:=X.w) (A:=X.A.in1) hh s.heap.objs.size a ne (bs.map Value.bool).toArray,⟨⟨_,Heap.get?_push_size _ rfl,rfl,rfl⟩,?_⟩,?_,λ h' tk kk=>?_⟩
     ·obtain⟨o,n,ho,hc,_,hd⟩:=pl
      exact⟨o,Heap.get?_push_of_some _ ho,hc,n,hd⟩
     ·intro i v s' Q' E' hP hq
      simp only[List.getElem?_toArray,List.getElem?_map] at hP
      obtain⟨b,hb',rfl⟩:=Option.map_eq_some_iff.mp hP
      refine wpAny_truthy_bool ?_
      have:bs.getD i true=b:=by simp[List.getD,hb']
      rw[<- this]
      exact hq
     ·rw[show(bs.map Value.bool).toArray.size=bs.length by simp,Jxj]
      have I1:Inv X pins σ H { s with heap:=s.heap.push { cls:=.type "list_iterator",data:=.fields #[.ref a,.int 0 0] } }:=N.inv.kept (t':=s.toks) λ b o e=>Heap.get?_push_of_some _ e
      have f:=N.inv.fpOk (Nat.le_refl _) (N.inv.hok.fresh (Nat.le_refl _))
      exact fin0 N K rfl _ _ (I1.turned (t':=tk) (it:=s.heap.objs.size) (λ b o hb e=>kk b o (by simpa using hb) e) f.1 f.2.1 f.2.2.2.1 f.2.2.2.2.1 f.2.2.2.2.2) rfl
   | _=>exact Zf K
 | _=>exact Zf K
noncomputable def MtI (ce:Str->Option Addr) (X:Cx) (T id:String) (g:IV->List IV->IH->Res IV):Prop :=
 ∀(pins:List (Addr×Obj)) (s:Shared) (σ:L2.St) (H:Hp) (ι:List Addr) (σi:ISt) (h:IH) (x:IV) (xs:List IV) (v:Value) (us:List Value) (Q:Value->Shared->Prop) (E:Value->Shared->Prop),Now ce X pins ι σi h σ H s->RU X.K ι H x v->RUs X.K ι H xs us ->
  Kont ce X RU pins ι σi σ H (g x xs h) Q E->wpAny (model X.prog X.w) X.A (call (.builtin id) (v::us)) Q E s
noncomputable def tyOk (T:String):IV->IH->Bool
 | .str _,_=>T=="str"
 | .int _,_=>T=="int"
 | .ref i,h=>match h[i]? with
  | some (.lst _)=>T=="list"
  | some (.dct _)=>T=="dict"
  | _=>false
 | .rol _,_=>T=="list"
 | _,_=>false
noncomputable def eBm (T:String) (g:IV->List IV->IH->Res IV) (o:E1) (a:A1):E1:=λ σ h=>(o σ h).bind λ x h1=>if tyOk T x h1=true then(a σ h1).bind λ xs h2=>g x xs h2 else .stuck
theorem J2x {pins:List (Addr×Obj)}{s:Shared}{σ:L2.St}{H:Hp}{ι:List Addr}{σi:ISt}{h:IH}{x:IV}{xv:V}{T:String}(N:Now ce X pins ι σi h σ H s) (q:RV X.K ι H x xv) (e:tyOk T x h=true):tyV X.K T xv H:=by
 cases x with
 | str y=>cases (show xv=.str y from q);exact beq_iff_eq.mp e
 | int y=>cases (show xv=.int y from q);exact beq_iff_eq.mp e
 | rol y =>
  obtain⟨a,vs,rfl,sa,_⟩:=q
  exact .inl ⟨beq_iff_eq.mp e,vs,sa.sq⟩
 | ref i =>
  obtain⟨a,rfl,ha⟩:=q
  cases hi:h[i]? with
  | none=>simp[tyOk,hi] at e
  | some ob =>
   cases ob with
   | lst xs =>
    simp only[tyOk,hi] at e
    obtain⟨vs,e1,_⟩:=N.at hi ha
    exact .inl ⟨beq_iff_eq.mp e,vs,SqL.of e1⟩
   | dct kvs =>
    simp only[tyOk,hi] at e
    obtain⟨vs,e1,_⟩:=N.at hi ha
    exact .inr (.inr (.inl ⟨beq_iff_eq.mp e,.inl ⟨vs,e1⟩⟩))
   | _=>simp[tyOk,hi] at e
 | _=>simp[tyOk] at e
variable {o a:Expr}{es:List Expr}{mo:E1}{ma:A1}{name:Str}{apos cpos:Pos}{T id:String}{g:IV->List IV->IH->Res IV}
theorem i_bm (pa:PlainAttrs T) (slot:Slot T name id) (hty:typeOf (.builtin id)=pure (.type "method_descriptor")) (hm:MtI ce X T id g) (ho:PEi ce X o mo) (ha:PAi ce X (a::es) ma)
  (hbase:attributeBase o name X.env (eval o X.env)=eval o X.env:=by rfl)
  (hfew:((backTo cpos (starEach (a::es) X.env)).all (λ x=>!x.1)&&(backToKw cpos (keywordEach [] X.env)).all (λ x=>x.1.isSome)
   && decide ((a::es).length+([]:List Keyword).length+(if ([]:List Keyword).isEmpty then 0 else 1)<30))=true:=by rfl)
  (hline:(apos.endLine==cpos.line)=true:=by rfl) (hs:starEach (a::es) X.env=(false,eval a X.env)::starEach es X.env:=by rfl) (hplain:(backTo cpos (starEach es X.env)).any (·.1)=false:=by rfl) :
  PEi ce X (.Call (.Attribute o name apos) (a::es) [] cpos) (eBm T g mo ma):=by
 intro pins s σ H ι σi h Q E N K
 refine wpAny_Call_method_late hbase hfew hline rfl (ho.run N K λ x h1 v s1 H1 ι1 N1 n1 r1 K1=>?_)
 by_cases hty1:tyOk T x h1=true
 ·rw[if_pos hty1] at K1
  obtain⟨xv,rx,qx⟩:=r1
  obtain⟨h1',h2'⟩:=J2y N1.inv rx (J2x N1 qx hty1)
  refine⟨T,id,pa,slot,hty,h1',h2',?_⟩
  have hA:=(ha cpos).run (Q1:=λ us s2=>wpAny (model X.prog X.w) X.A (call (.builtin id) (v::us)) Q E s2) N1 K1 λ xs h2 us s2 H2 ι2 N2 n2 r2 K2=>hm pins s2 σ H2 ι2 σi h2 x xs v us Q E N2 ⟨xv,rx,RV.mono n2 _ _ qx⟩ r2 K2
  rw[hs] at hA ⊢
  exact Calls.callWith_builtin (by show(false||(backTo cpos (starEach es X.env)).any (·.1))=false;rw[hplain]<;>rfl) (Calls.evalArgs_plain hA)
 ·rw[if_neg hty1] at K1
  exact Zf K1
theorem i_bm0 (pa:PlainAttrs T) (slot:Slot T name id) (hty:typeOf (.builtin id)=pure (.type "method_descriptor")) (hm:MtI ce X T id g) (ho:PEi ce X o mo)
  (hbase:attributeBase o name X.env (eval o X.env)=eval o X.env:=by rfl) (hline:(apos.endLine==cpos.line)=true:=by rfl):PEi ce X (.Call (.Attribute o name apos) [] [] cpos) (eBm T g mo aNil):=by
 intro pins s σ H ι σi h Q E N K
 refine wpAny_Call_method0_late hbase hline (ho.run N K λ x h1 v s1 H1 ι1 N1 n1 r1 K1=>?_)
 by_cases hty1:tyOk T x h1=true
 ·rw[if_pos hty1] at K1
  obtain⟨xv,rx,qx⟩:=r1
  obtain⟨h1',h2'⟩:=J2y N1.inv rx (J2x N1 qx hty1)
  exact⟨T,id,pa,slot,hty,h1',h2',Calls.callWith_builtin rfl (PySem.evalArgs_none (hm pins s1 σ H1 ι1 σi h1 x [] v [] Q E N1 ⟨xv,rx,qx⟩ .nil K1))⟩
 ·rw[if_neg hty1] at K1
  exact Zf K1
theorem J72 {pins:List (Addr×Obj)}{s:Shared}{σ:L2.St}{H:Hp}{Q:Value->Shared->Prop}{E:Value->Shared->Prop}{r:V->List V->Hp->VK->Prop}{x:V}{xs:List V}{v:Value}{us:List Value}(p:MtM (X.wish E) id r) (I:Inv X pins σ H s) (rx:RelV x v) (rs:Vals xs us)
  (k:r x xs H λ z H'=>∀u s',Inv X pins σ H' s'->RelV z u->Q u s'):wpAny (model X.prog X.w) X.A (call (.builtin id) (v::us)) Q E s :=
 wpAny_mono (p pins s σ H x xs v us _ (I.wish E) rx rs k) (λ u s' ⟨_,_,I',r,q⟩=>q u s' I'.unwish r) λ _ _ z=>z
theorem finW {pins:List (Addr×Obj)}{s:Shared}{σ:L2.St}{H:Hp}{ι:List Addr}{σi:ISt}{h:IH}{i:Nat}{b:Addr}{ys:List IV}{vs ws:List V}{v:IV}{w:V}{Q:Value->Shared->Prop}{E:Value->Shared->Prop}(N:Now ce X pins ι σi h σ H s) (K:Kont ce X RU pins ι σi σ H (.ok v (h.set i (.lst ys))) Q E)
  (hb:ι[i]?=some b) (eH:H b=some (.lst vs)) (r:RVs X.K ι H ys ws) (q:RV X.K ι H v w):∀u s',Inv X pins σ (upd H b (.lst ws)) s'->RelV w u->Q u s':=λ u s' I ru=>by
 have n:Nxt ι H ι (upd H b (.lst ws)):=⟨⟨[],by simp⟩,Ext.upd_mut eH (by rw[eH];exact True.intro)⟩
 obtain⟨R,_⟩:=N.rel.write (o:=.lst ws) (io:=.lst ys) hb eH (by rw[eH];exact True.intro) ⟨_,Jf,RVs.mono n _ _ r⟩
 exact K u s' _ ι ⟨I,R,N.st.mono n⟩ n ⟨w,ru,RV.mono n _ _ q⟩
noncomputable def Jkx:IV->List IV->IH->Res IV
 | .ref i,[y],h=>match h[i]? with
  | some (.lst xs)=>if xs.length<sizeLine then .ok .non (h.set i (.lst (xs++[y]))) else .stuck
  | _=>.stuck
 | _,_,_=>.stuck
theorem J07:MtI ce X "list" "list.append" Jkx:=by
 intro pins s σ H ι σi h x xs v us Q E N rx rs K
 obtain⟨xv,rx,qx⟩:=rx
 obtain⟨vs,rv,qs⟩:=rs
 cases x with
 | ref i =>
  match xs,K with
  | [y],K =>
   obtain⟨a,rfl,ha⟩:=qx
   obtain⟨w,rfl,qw⟩:=qs.one_of
   dsimp only[Jkx] at K
   cases hi:h[i]? with
   | none=>rw[hi] at K;exact Zf K
   | some ob =>
    rw[hi] at K
    cases ob with
    | lst zs =>
     dsimp only at K
     split at K
     ·rename_i hz
      obtain⟨ws,e1,r1⟩:=N.at hi ha
      exact J72 (Jsm (X:=X.wish E)) N.inv rx rv ⟨a,ws,w,rfl,rfl,e1,by rw[r1.length];exact hz,finW N K ha e1 (r1.append (RVs.one qw)) rfl⟩
     ·exact Zf K
    | _=>exact Zf K
  | [],K=>exact Zf K
  | _::_::_,K=>exact Zf K
 | _=>cases xs<;>exact Zf K
end
section
variable {ce:Str->Option Addr}{X:Cx}
noncomputable def keyI:IV->Option Key
 | .int i=>some (.inl i)
 | .str x=>some (.inr x)
 | _=>none
theorem Jms {K:W.Frag}{ι:List Addr}{H:Hp}{x:IV}{v:V}{k:Key}(e:keyI x=some k) (r:RV K ι H x v):v=kV k:=by
 cases x with
 | int i=>cases e;exact r
 | str y=>cases e;exact r
 | _=>cases e
noncomputable def maxI:IV->IV->IH->Res IV
 | .int i,.int j,h=>.ok (.int (if j>i then j else i)) h
 | _,_,_=>.stuck
noncomputable def minI:IV->IV->IH->Res IV
 | .int i,.int j,h=>.ok (.int (if j<i then j else i)) h
 | _,_,_=>.stuck
theorem c_max (hc:X.calm=true):Jfq ce X (.builtin "max") (on2 maxI):=by
 intro pins s σ H ι σi h xs us Q E N r K
 obtain⟨vs,rv,q⟩:=r
 match xs,K with
 | [x,y],K =>
  obtain⟨v,w,rfl,qx,qy⟩:=q.two_of
  cases x with
  | int i =>
   cases y with
   | int j =>
    cases (show v=.int i from qx)
    cases (show w=.int j from qy)
    exact Jat (Jxy (X:=X.wish E) hc) N.inv rv ⟨i,j,rfl,fin0 N K rfl⟩
   | _=>exact Zf K
  | _=>cases y<;>exact Zf K
 | [],K=>exact Zf K
 | [_],K=>exact Zf K
 | _::_::_::_,K=>exact Zf K
noncomputable def Jkv:List IV->Option (List Str)
 | []=>some []
 | .str x::r=>(Jkv r).map (x:: ·)
 | _=>none
theorem Ju0 {K:W.Frag}{ι:List Addr}{H:Hp}:∀{xs:List IV}{zs:List Str}{vs:List V}{us:List Value},Jkv xs=some zs->RVs K ι H xs vs->Vals vs us->∃l:List (Str×Tok),us=strValues l/\l.map (·.1)=zs
 | [],zs,vs,us,e,q,r=>by
  cases e
  have e1:vs=[]:=q
  subst e1
  cases r
  exact⟨[],rfl,rfl⟩
 | x::xs,zs,vs,us,e,q,r=>by
  obtain⟨v,vr,e1,q1,q2⟩:=q
  subst e1
  cases r with
  | cons r1 r2 =>
   cases x with
   | str y =>
    obtain⟨z2,e2,rfl⟩:=Option.map_eq_some_iff.mp (show(Jkv xs).map (y:: ·)=some zs from e)
    cases (show v=.str y from q1)
    obtain⟨t,rfl⟩:=r1
    obtain⟨l,rfl,hl⟩:=Ju0 e2 q2 r2
    exact⟨(y,t)::l,rfl,by rw[List.map_cons,hl]⟩
   | _=>cases e
noncomputable def Jwg:IV->List IV->IH->Res IV
 | .str x,[.ref i],h=>match h[i]? with
  | some (.lst xs)=>(match Jkv xs with
   | some zs=>if JoinOk x zs=true then .ok (.str (Txt.join x zs)) h else .stuck
   | none=>.stuck)
  | _=>.stuck
 | _,_,_=>.stuck
theorem J6v:MtI ce X "str" "str.join" Jwg:=by
 intro pins s σ H ι σi h x xs v us Q E N rx rs K
 obtain⟨xv,rx,qx⟩:=rx
 obtain⟨vs,rv,qs⟩:=rs
 cases x with
 | str x =>
  cases (show xv=.str x from qx)
  obtain⟨t,rfl⟩:=rx
  match xs,K with
  | [.ref i],K =>
   obtain⟨w,rfl,a,rfl,ha⟩:=qs.one_of
   obtain⟨u,rfl,ru⟩:=Jmm rv
   cases ru
   dsimp only[Jwg] at K
   cases hi:h[i]? with
   | none=>rw[hi] at K;exact Zf K
   | some ob =>
    rw[hi] at K
    cases ob with
    | lst ys =>
     dsimp only at K
     cases hb:Jkv ys with
     | none=>rw[hb] at K;exact Zf K
     | some zs =>
      rw[hb] at K
      dsimp only at K
      split at K
      ·rename_i hz
       obtain⟨ws,e1,r1⟩:=N.at hi ha
       obtain⟨its,rv',pl,_⟩:=N.inv.list (SqL.of e1)
       obtain⟨l,rfl,hl⟩:=Ju0 hb r1 rv'
       exact SC.join pl.isList hl hz λ t' k=>fin0 N K rfl _ _ (N.inv.tok _) ⟨_,rfl⟩
      ·exact Zf K
    | _=>exact Zf K
  | [],K=>exact Zf K
  | [.non],K=>exact Zf K
  | [.bl _],K=>exact Zf K
  | [.int _],K=>exact Zf K
  | [.str _],K=>exact Zf K
  | [.tup _],K=>exact Zf K
  | [.rol _],K=>exact Zf K
  | y::_::_,K=>cases y<;>exact Zf K
 | _=>exact Zf K
end
noncomputable def Ja8:List IV->Option (List Int)
 | []=>some []
 | .int i::r=>(Ja8 r).map (i:: ·)
 | _=>none
theorem Jct {K:W.Frag}{ι:List Addr}{H:Hp}:∀{xs:List IV}{ns:List Int}{vs:List V}{us:List Value},Ja8 xs=some ns->RVs K ι H xs vs->Vals vs us->IntsAre us ns
 | [],ns,vs,us,e,q,r=>by
  cases e
  have e1:vs=[]:=q
  subst e1
  cases r
  exact .nil
 | x::xs,ns,vs,us,e,q,r=>by
  obtain⟨v,vr,e1,q1,q2⟩:=q
  subst e1
  cases r with
  | cons r1 r2 =>
   cases x with
   | int i =>
    obtain⟨n2,e2,rfl⟩:=Option.map_eq_some_iff.mp (show(Ja8 xs).map (i:: ·)=some ns from e)
    cases (show v=.int i from q1)
    obtain⟨t,rfl⟩:=r1
    exact .cons i t (Jct e2 q2 r2)
   | _=>cases e
theorem Jfc:∀{us:List Value}{ns:List Int},IntsAre us ns->us.length=ns.length
 | _,_,.nil=>rfl
 | _,_,.cons _ _ r=>by simp[Jfc r]
section
variable {ce:Str->Option Addr}{X:Cx}
noncomputable def sumI:IV->IH->Res IV
 | .ref i,h=>match h[i]? with
  | some (.lst xs)=>(match Ja8 xs with
   | some ns=>.ok (.int ns.sum) h
   | none=>.stuck)
  | _=>.stuck
 | _,_=>.stuck
theorem c_sum (hh:X.A.handled=none):Jfq ce X (.builtin "sum") (on1 sumI):=Jl7 λ pins s σ H ι σi h x xv u Q E N ru qx K=>by
 cases x with
 | ref i =>
  obtain⟨a,e1,ha⟩:=qx
  subst e1
  cases ru
  dsimp only[sumI] at K
  cases hi:h[i]? with
  | none=>rw[hi] at K;exact Zf K
  | some ob =>
   rw[hi] at K
   cases ob with
   | lst xs =>
    dsimp only at K
    cases hb:Ja8 xs with
    | none=>rw[hb] at K;exact Zf K
    | some ns =>
     rw[hb] at K
     obtain⟨vs,e1,r1⟩:=N.at hi ha
     obtain⟨its,rv,pl,hz⟩:=N.inv.list (SqL.of e1)
     have are:=Jct hb r1 rv
     obtain⟨ys,hy⟩:=are.allInts.items
     have pl':s.heap.IsList a (intItems ys):=hy▸pl.isList
     refine sum_intListG hh pl' λ h2 tk t2 kk=>?_
     have en:ns=ys.toList.map (·.1):=by
      have q1:=are.numsOf
      have q2:=congrArg (λ z:Array Value=>numsOf z.toList) hy
      simp only at q2
      rw[<- q1]
      exact q2.trans (nums_intItems ys)
     have es:preSum (numAt ys) ys.size=ns.sum:=by
      rw[preSum_eq,en,List.take_of_length_le (by simp)]
     rw[es]
     exact fin0 N K rfl _ _ (N.inv.kept (t':=tk) kk) ⟨_,rfl⟩
   | _=>exact Zf K
 | _=>exact Zf K
end
noncomputable def Jc0 (f:Nat->Int):Nat->Int
 | 0=>0
 | 1=>f 0
 | j+2=>if f (j+1)>Jc0 f (j+1) then f (j+1) else Jc0 f (j+1)
theorem Jlg (f:Nat->Int){j:Nat}(hj:0<j):Jc0 f (j+1)=if f j>Jc0 f j then f j else Jc0 f j:=by
 cases j with
 | zero=>omega
 | succ j=>rfl
section
variable {pr:Program}{wd:World}{B:Around}{R:Result->Shared->Prop}{it:Addr}{fps wrs:List Addr}{n:Nat}{P:Nat->Value->Prop}{St:Nat->Heap->Prop}
noncomputable abbrev Jy7 (v:Value) (c:Nat):Obj:={ cls:=.type "list",dict:=none,data:=.seq #[v,v] c,slots:=#[] }
theorem Jqt:(toString "max"++toString ".loop":String)="max.loop":=by decide
theorem J4c {kw:List (Str×Value)}(W:Walks pr wd B.in1 it fps wrs n P St) (f:Nat->Int) (hf:∀i v,P i v->∃t,v=.int (f i) t) (C:Addr) (hC:C∉fps) :
  ∀(r j:Nat) (z:Shared) (v:Value) (u:Tok) (c:Nat),n-j=r->0<j->j<=n->St j z.heap->v=.int (Jc0 f j) u->z.heap.get? C=some (Jy7 v c) ->
   (∀u h2 tk,(∀a o,a∉wrs->a≠C->z.heap.get? a=some o->h2.get? a=some o)->R (.ok (.ret (.int (Jc0 f n) u))) { z with heap:=h2,toks:=tk }) ->
   codeAny (model pr wd) B (.builtin "max.loop" ⟨[.ref it,.none,.ref C],kw⟩) R z:=by
 have hw:C∉wrs:=λ q=>hC (W.sub _ q)
 intro r
 induction r with
 | zero =>
  intro j z v u c hr h0 hj st ev gC fin
  obtain rfl:j=n:=by omega
  subst ev
  refine codeAny_builtin PySem.F.entry_max_loop ?_
  rw[Around.under_plainId PySem.F.plain_max_loop _]
  show wpAny _ B.in1 (seqItems? (.ref C)>>=_) _ _ z
  refine wpAny_bind (wpAny_seqItems gC rfl ?_)
  show wpAny _ B.in1 (tryCatch (pyNext (.ref it)) _>>=_) _ _ z
  refine wpAny_bind (wpAny_tryCatch (W.done z _ _ st λ h2 tk keep=>?_))
  have gC2:=keep C _ hw gC
  show wpAny _ B.in1 (updateSeq C (λ _=>#[])>>=_) _ _ _
  refine wpAny_bind ?_
  refine wpAny_updateSeq gC2 rfl (wpAny_bind (wpAny_letGo (wpAny_pure ?_)))
  exact fin u _ tk λ a o ha hb e=>(Heap.get?_update_other _ _ (Ne.symm hb)).trans (keep a o ha e)
 | succ r ih =>
  intro j z v u c hr h0 hj st ev gC fin
  have lt:j<n:=by omega
  subst ev
  refine codeAny_builtin PySem.F.entry_max_loop ?_
  rw[Around.under_plainId PySem.F.plain_max_loop _]
  show wpAny _ B.in1 (seqItems? (.ref C)>>=_) _ _ z
  refine wpAny_bind (wpAny_seqItems gC rfl ?_)
  show wpAny _ B.in1 (tryCatch (pyNext (.ref it)) _>>=_) _ _ z
  refine wpAny_bind (wpAny_tryCatch (W.item j z _ _ lt st λ y h2 tk hP st2 keep=>?_))
  obtain⟨t,rfl⟩:=hf j y hP
  have gC2:=keep C _ hw gC
  have cmp:=CmpOf.ints_gt (prog:=pr) (w:=wd) (A:=B.in1) (P:=λ i v=>∃t,v=.int (if i=0 then f j else Jc0 f j) t) (λ i=>if i=0 then f j else Jc0 f j) (λ _ _ q=>q)
  show wpAny _ B.in1 (tryCatch (holding [Value.int (f j) t,Value.int (f j) t] (richCompare .Gt (.int (f j) t) (.int (Jc0 f j) u)>>=_)) _>>=_) _ _ _
  refine wpAny_bind (wpAny_tryCatch (wpAny_holding (wpAny_bind (cmp 0 1 _ _ _ _ _ ⟨t,by simp⟩ ⟨u,by simp⟩ ?_))))
  refine wpAny_bind (wpAny_holding (wpAny_truthy_bool ?_))
  refine wpAny_bind (wpAny_letGo (wpAny_pure ?_))
  have step:=Jlg f h0
  by_cases hb:f j>Jc0 f j
  ·rw[if_pos hb] at step
   simp only[if_true,show ¬(1:Nat)=0 by decide,if_false,decide_eq_true hb]
   refine wpAny_bind ?_
   refine wpAny_updateSeq gC2 rfl (wpAny_bind (wpAny_letGo ?_))
   rw[Jqt]
   refine wpAny_pure ⟨plainId_quiet PySem.F.plain_max_loop _,ih (j+1) _ (.int (f j) t) t _ (by omega) (by omega) lt (W.frame _ _ _ st2 λ a ha o e=>?_) (by rw[step]) (Heap.get?_update_self _ gC2 rfl) λ u2 h3 tk3 k3=>?_⟩
   ·exact(Heap.get?_update_other _ _ (λ q:C=a=>hC (by rw[q];exact ha))).trans e
   ·exact fin u2 h3 tk3 λ a o ha hc e=>k3 a o ha hc ((Heap.get?_update_other _ _ (Ne.symm hc)).trans (keep a o ha e))
  ·rw[if_neg hb] at step
   simp only[if_true,show ¬(1:Nat)=0 by decide,if_false,decide_eq_false hb,Bool.false_eq_true]
   refine wpAny_bind (wpAny_letGo ?_)
   rw[Jqt]
   refine wpAny_pure ⟨plainId_quiet PySem.F.plain_max_loop _,ih (j+1) _ (.int (Jc0 f j) u) u c (by omega) (by omega) lt st2 (by rw[step]) gC2 λ u2 h3 tk3 k3=>?_⟩
   exact fin u2 h3 tk3 λ a o ha hc e=>k3 a o ha hc (keep a o ha e)
end
theorem Jxm (a v:Value):argsOk "max" ⟨[a],[(Str.ofString "default",v)]⟩:=by unfold argsOk;kernel_rfl
section
variable {pr:Program}{wd:World}{B:Around}{E:Value->Shared->Prop}{z:Shared}{l:Addr}{us:List Value}{ns:List Int}{d:Option Value}{Q:Value->Shared->Prop}{kw:List (Str×Value)}
noncomputable def MaxIs (ns:List Int) (d:Option Value) (v:Value):Prop:=(ns=[]/\d=some v)∨(ns≠[]/\∃u,v=.int (Jc0 (λ i=>ns.getD i 0) ns.length) u)
theorem Jy2 (hk:Builtin.Builtins.bindParams "max" ["key","default"] 0 ⟨[],kw⟩=pure [none,d]) (ha:argsOk "max" ⟨[.ref l],kw⟩) (hn:ns=[]->∃v,d=some v) (hh:B.handled=none) (hl:z.heap.IsList l us.toArray) (hi:IntsAre us ns)
  (hQ:∀v h2 tk,MaxIs ns d v->(∀b o,z.heap.get? b=some o->h2.get? b=some o)->Q v { z with heap:=h2,toks:=tk }) :
  wpAny (model pr wd) B (call (.builtin "max") [.ref l] kw) Q E z:=by
 obtain⟨ol,hol,_⟩:=id hl
 have lt:l<z.heap.objs.size:=Heap.lt_size hol
 have ll:=Jfc hi
 refine kmk_tree PySem.F.kind_max PySem.F.plain_max PySem.F.entry_max ha ?_
 show wpAny _ B.in1 (Builtin.Builtins.bindParams "max" ["key","default"] 0 ⟨[],kw⟩>>=_) _ _ z
 refine wpAny_bind (wpAny_of_eq hk ?_)
 refine wpAny_bind (wpAny_pure ?_)
 refine wpAny_bind (wpAny_pyIter_list hl ?_)
 refine wpAny_bind (wpAny_newList ?_ (Nat.zero_le _))
 rw[Jqt]
 have ne:l≠z.heap.objs.size:=Nat.ne_of_lt lt
 have W:=Walks.list (prog:=pr) (w:=wd) (A:=B.in1) hh z.heap.objs.size l ne us.toArray
 have sz:us.toArray.size=us.length:=List.size_toArray ..
 have hS:(z.heap.push { cls:=.type "list_iterator",data:=.fields #[.ref l,.int 0 0] }).objs.size=z.heap.objs.size+1:=size_push' ..
 have hC:(z.heap.push { cls:=.type "list_iterator",data:=.fields #[.ref l,.int 0 0] }).objs.size∉[z.heap.objs.size,l]:=by
  rw[hS]
  simp only[List.mem_cons,List.not_mem_nil,or_false,not_or]
  exact⟨Nat.ne_of_gt (Nat.lt_succ_self _),Nat.ne_of_gt (Nat.lt_succ_of_lt lt)⟩
 have hw:(z.heap.push { cls:=.type "list_iterator",data:=.fields #[.ref l,.int 0 0] }).objs.size∉[z.heap.objs.size]:=by
  rw[hS]
  simp only[List.mem_cons,List.not_mem_nil,or_false]
  exact Nat.ne_of_gt (Nat.lt_succ_self _)
 have old:∀b o,z.heap.get? b=some o->((z.heap.push { cls:=.type "list_iterator",data:=.fields #[.ref l,.int 0 0] }).push (seqObj "list" #[] 0)).get? b=some o:=λ b o e=>Heap.get?_push_of_some _ (Heap.get?_push_of_some _ e)
 have gI:((z.heap.push { cls:=.type "list_iterator",data:=.fields #[.ref l,.int 0 0] }).push (seqObj "list" #[] 0)).get? z.heap.objs.size=some { cls:=.type "list_iterator",data:=.fields #[.ref l,.int 0 0] }:=Heap.get?_push_of_some _ (Heap.get?_push_size _ rfl)
 have gC:((z.heap.push { cls:=.type "list_iterator",data:=.fields #[.ref l,.int 0 0] }).push (seqObj "list" #[] 0)).get? (z.heap.push { cls:=.type "list_iterator",data:=.fields #[.ref l,.int 0 0] }).objs.size=some (seqObj "list" #[] 0):=Heap.get?_push_size _ rfl
 have notin:∀b o,z.heap.get? b=some o->b∉[z.heap.objs.size]:=λ b o e q=>Nat.ne_of_lt (Heap.lt_size e) (List.mem_singleton.mp q)
 have notC:∀b o,z.heap.get? b=some o->b≠(z.heap.push { cls:=.type "list_iterator",data:=.fields #[.ref l,.int 0 0] }).objs.size:=λ b o e=>by rw[hS];exact Nat.ne_of_lt (Nat.lt_succ_of_lt (Heap.lt_size e))
 refine wpAny_pure ⟨plainId_quiet PySem.F.plain_max_loop _,codeAny_builtin PySem.F.entry_max_loop ?_⟩
 rw[Around.under_plainId PySem.F.plain_max_loop _]
 show wpAny _ B.in1 (seqItems? (.ref _)>>=_) _ _ _
 refine wpAny_bind (wpAny_seqItems gC rfl ?_)
 show wpAny _ B.in1 (tryCatch (pyNext (.ref z.heap.objs.size)) _>>=_) _ _ _
 by_cases h0:us.length=0
 ·refine wpAny_bind (wpAny_tryCatch (W.done _ _ _ (by rw[sz,h0];exact⟨⟨_,gI,rfl,rfl⟩,(hl.push _).push _⟩) λ h2 tk keep=>?_))
  obtain⟨v,rfl⟩:=hn (List.eq_nil_of_length_eq_zero (by omega))
  show wpAny _ B.in1 (rule _>>=_) _ _ _
  refine wpAny_bind (wpAny_rule (wpAny_pure ?_))
  refine hQ v h2 tk (.inl ⟨List.eq_nil_of_length_eq_zero (by omega),rfl⟩) λ b o e=>keep b o (notin b o e) (old b o e)
 ·refine wpAny_bind (wpAny_tryCatch (W.item 0 _ _ _ (by rw[sz];omega) ⟨⟨_,gI,rfl,rfl⟩,(hl.push _).push _⟩ λ y h2 tk hP st2 keep=>?_))
  have gC2:=keep _ _ hw gC
  show wpAny _ B.in1 (updateSeq (z.heap.push { cls:=.type "list_iterator",data:=.fields #[.ref l,.int 0 0] }).objs.size (λ _=>#[y,y])>>=_) _ _ _
  refine wpAny_bind ?_
  refine wpAny_updateSeq gC2 rfl ?_
  rw[Jqt]
  have hf:∀(i:Nat) (v:Value),us.toArray[i]?=some v->∃t,v=.int ((λ i=>ns.getD i 0) i) t:=λ i v q=>IntsAre.int_at hi i v (by simpa using q)
  obtain⟨t,rfl⟩:=hf 0 y hP
  refine wpAny_pure ⟨plainId_quiet PySem.F.plain_max_loop _,J4c W (λ i=>ns.getD i 0) hf _ hC _ 1 _ _ t _ rfl (by decide) (by rw[sz];omega) (W.frame _ _ _ st2 λ a ha o e=>?_) rfl (Heap.get?_update_self _ gC2 rfl) λ u h3 tk3 k3=>?_⟩
  ·exact(Heap.get?_update_other _ _ (λ q=>hC (by rw[q];exact ha))).trans e
  ·rw[sz,ll]
   refine hQ _ h3 tk3 (.inr ⟨λ q=>h0 (by rw[ll,q];rfl),u,rfl⟩) λ b o e=>k3 b o (notin b o e) (notC b o e) ((Heap.get?_update_other _ _ (Ne.symm (notC b o e))).trans (keep b o (notin b o e) (old b o e)))
end
section
variable {ce:Str->Option Addr}{X:Cx}
noncomputable def maxD (ns:List Int) (d:IV):IV:=if ns=[] then d else .int (Jc0 (λ i=>ns.getD i 0) ns.length)
noncomputable def Jya (aa:A1) (md:E1):E1:=λ σ h=>(aa σ h).bind λ xs h1=>(md σ h1).bind λ d h2=>match xs with
 | [.ref i]=>(match h2[i]? with
  | some (.lst ys)=>(match Ja8 ys with
   | some ns=>.ok (maxD ns d) h2
   | none=>.stuck)
  | _=>.stuck)
 | _=>.stuck
theorem J6c {a de:Expr}{aa:A1}{md:E1}{p pos kp:Pos}(hh:X.A.handled=none) (hg:Gl X "max") (hm:X.mg "max"=none) (ha:PAi ce X [a] aa) (hd:PEi ce X de md) (hs:starEach [a] X.env=[(false,eval a X.env)]) :
  PEi ce X (.Call (.Name "max" p) [a] [⟨some "default",de,kp⟩] pos) (Jya aa md):=λ pins s σ H ι σi h Q E N K=>by
 refine wpAny_Call_Name_kw (Jhs N.inv hg hm rfl ?_)
 refine callWith_kw ?_ (by rw[hs];rfl) (by rw[hs];rfl) rfl rfl
 refine(ha pos).run N K λ xs h1 us s1 H1 ι1 N1 n1 r1 K1=>?_
 refine PyProof.Rows.evalAll_cons (wpAny_bind (PX.run hd N1 K1 λ d h2 du s2 H2 ι2 N2 n2 r2 K2=>wpAny_bind (wpAny_standAt (wpAny_pure (PyProof.Rows.evalAll_nil ?_)))))
 obtain⟨vs,rv,qs⟩:=r1.mono n2
 match xs,K2 with
 | [.ref i],K2 =>
  obtain⟨w,rfl,ad,rfl,hav⟩:=qs.one_of
  obtain⟨u,rfl,ru⟩:=Jmm rv
  cases ru
  dsimp only at K2
  cases hi:h2[i]? with
  | none=>rw[hi] at K2;exact Zf K2
  | some ob =>
   rw[hi] at K2
   cases ob with
   | lst ys =>
    dsimp only at K2
    cases hb:Ja8 ys with
    | none=>rw[hb] at K2;exact Zf K2
    | some ns =>
     rw[hb] at K2
     dsimp only at K2
     obtain⟨ws,e1,r3⟩:=N2.at hi hav
     obtain⟨its,rv2,pl,_⟩:=N2.inv.list (SqL.of e1)
     refine Jy2 (d:=some du) rfl (Jxm _ _) (λ _=>⟨_,rfl⟩) hh pl.isList (Jct hb r3 rv2) λ v h3 tk mi kk=>?_
     have N3:Now ce X pins ι2 σi h2 σ H2 { s2 with heap:=h3,toks:=tk }:=⟨N2.inv.kept (t':=tk) kk,N2.rel,N2.st⟩
     rcases mi with⟨e,ev⟩|⟨e,t,rfl⟩
     ·cases ev
      have em:maxD ns d=d:=if_pos e
      rw[em] at K2
      exact K2 _ _ _ _ N3 .refl r2
     ·have em:maxD ns d=.int (Jc0 (λ i=>ns.getD i 0) ns.length):=if_neg e
      rw[em] at K2
      exact K2 _ _ _ _ N3 .refl ⟨.int _,⟨t,rfl⟩,rfl⟩
   | _=>exact Zf K2
 | [],K2=>exact Zf K2
 | [.non],K2=>exact Zf K2
 | [.bl _],K2=>exact Zf K2
 | [.int _],K2=>exact Zf K2
 | [.str _],K2=>exact Zf K2
 | [.tup _],K2=>exact Zf K2
 | [.rol _],K2=>exact Zf K2
 | x::_::_,K2=>cases x<;>exact Zf K2
end
noncomputable def metB (f:Nat->Str) (i:Nat) (k:Str):Bool:=(List.range i).any λ j=>decide (k=f j)
noncomputable def cntD (f:Nat->Str):Nat->Nat
 | 0=>0
 | i+1=>if metB f i (f i) then cntD f i else cntD f i+1
theorem Jyy (f:Nat->Str) (i:Nat) (k:Str):metB f (i+1) k=(metB f i k||decide (k=f i)):=by simp[metB,List.range_succ]
theorem Jt3 (f:Nat->Str):∀i,cntD f i<=i
 | 0=>Nat.le_refl _
 | i+1=>by
  have:=Jt3 f i
  unfold cntD
  split<;>omega
section
variable {pr:Program}{wd:World}{B:Around}{R:Result->Shared->Prop}{it:Addr}{fps wrs:List Addr}{G:Array GenState->Array GenState->Prop}{n:Nat}{P:Nat->Value->Prop}{St:Nat->Shared->Prop}
noncomputable abbrev Jqa (pr:Program) (wd:World) (hp:Heap) (a:Addr) (f:Nat->Str) (i:Nat):Prop:=hp.SetOf (PySem.strKind pr wd) a (λ k=>metB f i k) (cntD f i)
theorem Jqa.moved {hp h2:Heap}{a:Addr}{f:Nat->Str}{i:Nat}(q:Jqa pr wd hp a f i) (m:∀o,hp.get? a=some o->h2.get? a=some o):Jqa pr wd h2 a f i:=by
 obtain⟨o,es,ep,t,ho,rest⟩:=q
 exact⟨o,es,ep,t,m o ho,rest⟩
theorem J1m (W:WalksS pr wd B.in1 it fps wrs G n P St) (C:Addr) (hC:C∉fps) (f:Nat->Str) (hf:∀i v,P i v->∃t,v=.str (f i) t) (room:n+1<scanBound) :
  ∀(r i:Nat) (z:Shared),n-i=r->i<=n->St i z->Jqa pr wd z.heap C f i->(∀z2,Moved (C::wrs) G z z2->Jqa pr wd z2.heap C f n->R (.ok (.ret .none)) z2) ->
   codeAny (model pr wd) B (.builtin "set.update.loop" ⟨[.ref C,.ref it],[]⟩) R z:=by
 have nw:C∉wrs:=λ q=>hC (W.sub _ q)
 have more:∀b∈wrs,b∈C::wrs:=λ b q=>List.mem_cons_of_mem _ q
 intro r
 induction r with
 | zero =>
  intro i z hr hi st hS fin
  obtain rfl:i=n:=by omega
  refine codeAny_builtin PyProof.Rows.F.entry_set_update_loop ?_
  rw[Around.under_plainId PyProof.Rows.F.plain_set_update_loop _]
  show wpAny _ B.in1 (pyNext (.ref it)>>=_) _ _ z
  refine wpAny_bind (W.done z _ _ st λ z2 mv=>?_)
  show wpAny _ B.in1 (ret Value.none) _ _ z2
  exact wpAny_pure (fin z2 (mv.mono more) (hS.moved λ o e=>mv.heap C _ nw e))
 | succ r ih =>
  intro i z hr hi st hS fin
  have lt:i<n:=by omega
  refine codeAny_builtin PyProof.Rows.F.entry_set_update_loop ?_
  rw[Around.under_plainId PyProof.Rows.F.plain_set_update_loop _]
  show wpAny _ B.in1 (pyNext (.ref it)>>=_) _ _ z
  refine wpAny_bind (W.item i z _ _ lt st λ v z2 hP st2 mv=>?_)
  obtain⟨t,rfl⟩:=hf i v hP
  have hS2:Jqa pr wd z2.heap C f i:=hS.moved λ o e=>mv.heap C _ nw e
  have ki:(PySem.strKind pr wd).is (f i) (.str (f i) t)=true:=strKind_is _ _ _ _
  show wpAny _ B.in1 (holding [Value.str (f i) t] (setAdd C (.str (f i) t))>>=_) _ _ z2
  refine wpAny_bind (wpAny_holding ?_)
  unfold setAdd
  refine wpAny_holding ?_
  refine wpAny_bind ((PySem.strKind pr wd).pyHash (k:=f i) ki ?_)
  have rm:cntD f i+1<scanBound:=by have:=Jt3 f i;omega
  refine wpAny_setAddHashed_of (knd:=PySem.strKind pr wd) (s:={ z2 with toks:=z2.toks+1 }) ki rfl hS2 rm λ h3 sb hS3=>?_
  have hS4:Jqa pr wd h3 C f (i+1):=SetOf_congr hS3 (λ k=>(Jyy f i k).symm) (by show _=cntD f (i+1);rfl)
  refine wpAny_pure ⟨plainId_quiet PyProof.Rows.F.plain_set_update_loop _,ih (i+1) _ (by omega) lt (W.frame _ z2 _ _ st2 (Nat.le_succ _) λ b q o e=>?_) hS4 λ z5 m5 hS5=>?_⟩
  ·rw[sb.2 b (λ e2:b=C=>hC (by rw[<- e2];exact q))];exact e
  ·refine fin z5 (Moved.trans W.gtrans ((mv.mono more).then_heap (Nat.le_succ _) λ b o q e=>?_) m5) hS5
   rw[sb.2 b (λ e2:b=C=>q (by rw[e2];exact List.mem_cons_self))];exact e
end
section
variable {pr:Program}{wd:World}{B:Around}{E:Value->Shared->Prop}{z:Shared}{l:Addr}{us:List Value}{zs:List Str}{Q:Value->Shared->Prop}
noncomputable abbrev Jgt (led:Bool):Obj:={ cls:=.type "set",dict:=none,data:=.set #[] 0 (.fresh 0 0 led) }
noncomputable abbrev Jfo (zs:List Str):Nat->Str:=λ i=>zs.getD i Str.empty
set_option maxRecDepth 100000 in
theorem J1l {l2:List (Str×Tok)}(hh:B.handled=none) (hl:z.heap.IsList l us.toArray) (eu:us=strValues l2) (ez:l2.map (·.1)=zs) (room:zs.length+1<scanBound)
  (fin:∀(h2:Heap) (tk:Nat),Jqa pr wd h2 z.heap.objs.size (Jfo zs) zs.length->(∀b o,z.heap.get? b=some o->h2.get? b=some o)->Q (.ref z.heap.objs.size) { z with heap:=h2,toks:=tk }) :
  wpAny (model pr wd) B (call (.type "set") [.ref l]) Q E z:=by
 have len:us.toArray.size=zs.length:=by rw[eu,<-ez];simp[strValues]
 have vals:∀(i:Nat) (v:Value),us.toArray[i]?=some v->∃t,v=.str (Jfo zs i) t:=λ i v q=>by
  rw[eu] at q
  simp only[strValues,List.getElem?_toArray,List.getElem?_map] at q
  obtain⟨p,hp,rfl⟩:=Option.map_eq_some_iff.mp q
  refine⟨p.2,?_⟩
  rw[<- ez]
  simp[Jfo,List.getD_eq_getElem?_getD,List.getElem?_map,hp]
 obtain⟨c,tl,hmro⟩:=PySem.F.called_set.mro
 have hmade:=PySem.F.called_set.made
 have hsub:=PySem.F.called_set.sub
 refine wpAny_call (codeAny_of_tree ?_)
 show wpAny _ _ (callAny (.type "set") _) _ _ _
 refine wpAny_pure ⟨Code.quiet_builtin _ (by decide +kernel),codeAny_builtin PySem.F.entry_type_call ?_⟩
 rw[Around.under_plain (weight_type_call_type "set" [.ref l] []) rfl]
 have no1:=PySem.F.called_set.notType
 have no2:=PySem.F.called_set.canCreate
 have ok1:=PySem.F.typeCall_set_1 (.ref l)
 repeat (any_goals (first|assumption|wp_step))
 refine codeAny_mono (code_set_new_1 (.ref l) (E:=E) (Q₁:=λ obj z1=>∃led:Bool,obj=.ref z.heap.objs.size/\z1={ z with heap:=z.heap.push (Jgt led) }) λ led=>⟨led,rfl,rfl⟩) λ res z1 hr=>?_
 cases res with
 | error e=>exact hr
 | ok fl =>
  cases fl with
  | ret obj =>
   obtain⟨led,rfl,rfl⟩:=hr
   have gS:(z.heap.push (Jgt led)).get? z.heap.objs.size=some (Jgt led):=Heap.get?_push_size _ rfl
   have tS:Shared.TypeIs { z with heap:=z.heap.push (Jgt led) } (.ref z.heap.objs.size) "set":=⟨_,gS,rfl⟩
   have in1:=PySem.F.called_set.init.lookup
   have in2:=PySem.F.called_set.init.bind (.ref z.heap.objs.size)
   repeat (any_goals (first|assumption|wp_step))
   refine codeAny_mono (codeAny_call_builtin (R:=wants (λ res z2=>res=.none/\∃h2 tk,z2={ z with heap:=h2,toks:=tk }/\Jqa pr wd h2 z.heap.objs.size (Jfo zs) zs.length/\(∀b o,z.heap.get? b=some o->h2.get? b=some o)) E)
    PySem.F.called_set.init.plain PySem.F.entry_set_init (check_set_init_1 tS ?_)) λ res2 z2 hr2=>?_
   ·obtain⟨ol,hol,hcl,nl,hdl⟩:=hl
    obtain⟨ocls,odict,odata,oslots⟩:=ol
    simp only at hcl hdl
    subst hcl;subst hdl
    have gl:(z.heap.push (Jgt led)).get? l=some { cls:=.type "list",dict:=odict,data:=.seq us.toArray nl,slots:=oslots }:=Heap.get?_push_of_some _ hol
    have sb1:=PySem.F.sub_list_set
    have sb2:=PySem.F.sub_list_frozenset
    have dne:(Value.type "list"==Value.type "dict")=false:=by decide
    have hl1:(z.heap.push (Jgt led)).IsList l us.toArray:=⟨_,gl,rfl,nl,rfl⟩
    unfold Builtin.«set.__init__» noKeywords Builtin.Frozenset.updateFrom
    generalize hPI:pyIter=PI
    wp_walk
    subst hPI
    refine wpAny_pyIter_list hl1 ?_
    refine wpAny_bind (wpAny_runValue ?_)
    have lS:l<z.heap.objs.size:=Heap.lt_size hol
    have h3:B.in1.in1.in1.handled=none:=by simp[hh]
    have neI:l≠(z.heap.push (Jgt led)).objs.size:=by rw[Heap.size_push];exact Nat.ne_of_lt (Nat.lt_succ_of_lt lS)
    have nC:z.heap.objs.size∉[(z.heap.push (Jgt led)).objs.size,l]:=by
     rw[Heap.size_push]
     simp only[List.mem_cons,List.not_mem_nil,or_false,not_or]
     exact⟨Nat.ne_of_lt (Nat.lt_succ_self _),Nat.ne_of_gt lS⟩
    refine J1m ((Walks.list h3 _ l neI us.toArray).toS) z.heap.objs.size nC (Jfo zs) vals (by rw[len];exact room) (us.toArray.size-0) 0 _ (by omega) (Nat.zero_le _) ⟨⟨_,Heap.get?_push_size _ rfl,rfl,rfl⟩,(hl1.push _)⟩ ?start ?stop
    case start =>
     have g0:((z.heap.push (Jgt led)).push { cls:=.type "list_iterator",data:=.fields #[.ref l,.int 0 0] }).get? z.heap.objs.size=some (Jgt led):=Heap.get?_push_of_some _ gS
     exact SetOf_congr ((setObjOf_fresh (knd:=PySem.strKind pr wd) led).setOf g0 (by unfold scanBound;omega)) (λ _=>rfl) rfl
    case stop =>
     intro z5 mv hS5
     obtain⟨h5,g5,d5,tk5,os5⟩:=z5
     have eg:g5=z.gens:=mv.gens
     have ed:d5=z.drawn:=mv.drawn
     have eo:os5=z.os:=mv.os
     subst eg;subst ed;subst eo
     show wpAny _ _ _ _ _ _
     refine wpAny_pure ?_
     show wpAny _ _ (ret Value.none) _ _ _
     rw[len] at hS5
     refine wpAny_pure ⟨rfl,h5,tk5,rfl,hS5,λ b o e=>?_⟩
     have lb:=Heap.lt_size e
     have b1:b≠z.heap.objs.size:=Nat.ne_of_lt lb
     have b2:b≠(z.heap.push (Jgt led)).objs.size:=by rw[Heap.size_push];exact Nat.ne_of_lt (Nat.lt_succ_of_lt lb)
     exact mv.heap b o (by simp only[List.mem_cons,List.not_mem_nil,or_false,not_or];exact⟨b1,b2⟩) (Heap.get?_push_of_some _ (Heap.get?_push_of_some _ e))
   ·cases res2 with
    | error e=>exact hr2
    | ok fl2 =>
     cases fl2 with
     | ret rv =>
      obtain⟨rfl,h2,tk,rfl,hS2,keep⟩:=hr2
      repeat (any_goals (first|assumption|wp_step))
      exact fin _ _ hS2 keep
     | _=>exact hr2.elim
  | _=>exact hr.elim
end
section
variable {ce:Str->Option Addr}{X:Cx}
noncomputable def Jni (aa:A1):E1:=λ σ h=>(aa σ h).bind λ xs h1=>match xs with
 | [.ref i]=>(match h1[i]? with
  | some (.lst ys)=>(match Jkv ys with
   | some zs=>if zs.length+1<scanBound then .ok (.int (cntD (Jfo zs) zs.length)) h1 else .stuck
   | none=>.stuck)
  | _=>.stuck)
 | _=>.stuck
theorem J0r {a:Expr}{aa:A1}{p pos p2 pos2:Pos}(hh:X.A.handled=none) (g1:Gl X "len") (m1:X.mg "len"=none) (g2:Gl X "set") (m2:X.mg "set"=none) (ha:PAi ce X [a] aa) (hs:starEach [a] X.env=[(false,eval a X.env)]) :
  PEi ce X (.Call (.Name "len" p) [.Call (.Name "set" p2) [a] [] pos2] [] pos) (Jni aa):=λ pins s σ H ι σi h Q E N K=>by
 refine wpAny_Call_Name_kw (Jhs N.inv g1 m1 rfl ?_)
 refine PyProof.Rows.callWith_builtin1 ?_ rfl rfl
 refine PyProof.Rows.spliced_more ?_
 refine wpAny_Call_Name_kw (Jhs N.inv g2 m2 rfl ?_)
 refine PyProof.Rows.callWith_type1 ?_ hs rfl
 refine(ha pos2).run N K λ xs h1 us s1 H1 ι1 N1 n1 r1 K1=>?_
 obtain⟨vs,rv,qs⟩:=r1
 match xs,K1 with
 | [.ref i],K1 =>
  obtain⟨w,rfl,ad,rfl,hav⟩:=qs.one_of
  obtain⟨u,rfl,ru⟩:=Jmm rv
  cases ru
  dsimp only at K1
  cases hi:h1[i]? with
  | none=>rw[hi] at K1;exact Zf K1
  | some ob =>
   rw[hi] at K1
   cases ob with
   | lst ys =>
    dsimp only at K1
    cases hb:Jkv ys with
    | none=>rw[hb] at K1;exact Zf K1
    | some zs =>
     rw[hb] at K1
     dsimp only at K1
     split at K1
     ·rename_i room
      obtain⟨ws,e1,r3⟩:=N1.at hi hav
      obtain⟨its,rv2,pl,_⟩:=N1.inv.list (SqL.of e1)
      obtain⟨l2,eu,ez⟩:=Ju0 hb r3 rv2
      refine J1l hh pl.isList eu ez room λ h2 tk hS keep=>PyProof.Rows.spliced_none ?_
      obtain⟨o,es,ep,t,ho,hex,hd,hel,hmem,hbb,hf,hn⟩:=hS
      have fit:(es.size:Int)<2^63:=by
       have:=Jt3 (Jfo zs) zs.length
       have sb:scanBound<=2^40:=by unfold scanBound;decide
       omega
      refine call_len_set ho hex hd hf fit ?_
      rw[hn]
      exact K1 _ _ _ _ ⟨(N1.inv.kept (t':=_) keep),N1.rel,N1.st⟩ .refl ⟨.int _,⟨_,rfl⟩,rfl⟩
     ·exact Zf K1
   | _=>exact Zf K1
 | [],K1=>exact Zf K1
 | [.non],K1=>exact Zf K1
 | [.bl _],K1=>exact Zf K1
 | [.int _],K1=>exact Zf K1
 | [.str _],K1=>exact Zf K1
 | [.tup _],K1=>exact Zf K1
 | [.rol _],K1=>exact Zf K1
 | x::_::_,K1=>cases x<;>exact Zf K1
end
section
variable {α β:Type}{h h1:IH}{σ:ISt}
noncomputable def SRes.sq (r:SRes) (b:S1):SRes:=match r with
 | .next σ' h'=>b σ' h'
 | r=>r
theorem Jnk (v:IV) (σ:ISt):eVar 0 (some v::σ) h=.ok v h:=rfl
theorem Jon (n:Nat) (x:Option IV) (σ:ISt):eVar (n+1) (x::σ) h=eVar n σ h:=rfl
end
noncomputable def MulS (x:Str) (n:Int):Bool:=decide (x.length<=1000/\ -1000<=n/\n<=1000)
theorem MulS.ok {x:Str}{n:Int}(h:MulS x n=true):MulOk x n:=by
 simp only[MulS,decide_eq_true_eq] at h
 obtain⟨h1,h2,h3⟩:=h
 refine⟨?_,λ hn _=>?_,λ hn _=>?_⟩
 ·simp only[Bool.or_eq_false_iff,decide_eq_false_iff_not]
  omega
 ·have e:(1000:Int)<=(2^63-1)/n:=by
   rw[Int.le_ediv_iff_mul_le (by omega)]
   have:(1000:Int)*n<=1000*1000:=Int.mul_le_mul_of_nonneg_left h3 (by decide)
   omega
  omega
 ·have:x.length*n.toNat<=1000*1000:=Nat.mul_le_mul h1 (by omega)
  have hb:1000000<sizeLine:=by decide
  unfold Builtin.Str.tooLong
  simp only[decide_eq_false_iff_not]
  omega
theorem J4l {X:L2.Cx}:OpR X (binaryOp .Mult) (λ x y H Q=>∃i j,x=.str i/\y=.int j/\MulS i j=true/\Q (.str (Txt.mul i j)) H):=by
 intro pins s σ H x y v u Q I rx ry h
 obtain⟨i,j,rfl,rfl,hz,q⟩:=h
 obtain⟨t,rfl⟩:=rx
 obtain⟨t',rfl⟩:=ry
 exact SB.mul (MulS.ok hz) λ t' tk=>⟨.str (Txt.mul i j),H,I.tok _,⟨_,rfl⟩,q⟩
noncomputable def Jd6 (x y:IV) (h:IH):Res IV:=match x with
 | .str i=>(match y with
  | .int j=>if MulS i j then .ok (.str (Txt.mul i j)) h else .stuck
  | _=>.stuck)
 | x=>Jwr x y h
section
variable {ce:Str->Option Addr}{X:Cx}
theorem J61:OpI ce X (binaryOp .Mult) Jd6:=by
 intro pins s σ H ι σi h x y v u Q E N rx ry K
 cases x with
 | str i =>
  obtain⟨xv,rx,qx⟩:=rx
  obtain⟨yv,ry,qy⟩:=ry
  cases y with
  | int j =>
   have e1:xv=.str i:=qx
   have e2:yv=.int j:=qy
   subst e1 e2
   dsimp only[Jd6] at K
   split at K
   ·rename_i hz
    exact Jbc (J4l (X:=X.wish E)) N.inv rx ry ⟨i,j,rfl,rfl,hz,fin0 N K rfl⟩
   ·exact Zf K
  | _=>exact Zf K
 | _=>exact o_mul pins s σ H ι σi h _ y v u Q E N rx ry K
end
noncomputable def valI (kvs:List (Key×IV)) (k:Key):Option IV:=(kvs.find? λ kv=>decide (kv.1=k)).map (·.2)
theorem Jau {p:Key×IV}{r:List (Key×IV)}{k:Key}(e:p.1=k):valI (p::r) k=some p.2:=by simp[valI,List.find?_cons,e]
theorem Jal {p:Key×IV}{r:List (Key×IV)}{k:Key}(e:¬p.1=k):valI (p::r) k=valI r k:=by simp[valI,List.find?_cons,e]
theorem RPs.get {K:W.Frag}{ι:List Addr}{H:Hp}(k:Key):∀{xs:List (Key×IV)}{vs:List (Key×V)},RPs K ι H xs vs->(valI xs k=none/\valV vs k=none)∨∃v w,valI xs k=some v/\valV vs k=some w/\RV K ι H v w
 | [],_,h=>by
  have e:_=[]:=h
  subst e
  exact .inl ⟨rfl,rfl⟩
 | x::xs,_,h=>by
  obtain⟨v,r,rfl,q,t⟩:=h
  by_cases e:x.1=k
  ·exact .inr ⟨x.2,v,Jau e,Jmw e,q⟩
  ·rw[Jal e,Jmv e]
   exact RPs.get k t
theorem RPs.snoc {K:W.Frag}{ι:List Addr}{H:Hp}{k:Key}{v:IV}{w:V}(q:RV K ι H v w):∀{xs:List (Key×IV)}{vs:List (Key×V)},RPs K ι H xs vs->RPs K ι H (xs++[(k,v)]) (vs++[(k,w)])
 | [],_,h=>by
  have e:_=[]:=h
  subst e
  exact⟨w,[],rfl,q,rfl⟩
 | x::xs,_,h=>by
  obtain⟨v',r,rfl,q',t⟩:=h
  exact⟨v',r++[(k,w)],rfl,q',RPs.snoc q t⟩
theorem Jqv {vs:List (Key×V)}{k:Key}{w:V}(e:valV vs k=none):putK vs k w=vs++[(k,w)]:=by
 unfold putK
 rw[if_neg]
 rw[Jrb,e]
 exact Bool.false_ne_true
section
variable {ce:Str->Option Addr}{X:Cx}
noncomputable def Jv1:E1:=λ _ h=>.ok (.ref h.length) (h++[.dct []])
theorem J58 {pos:Pos}:PEi ce X (.Dict [] [] pos) Jv1:=λ pins s σ H ι σi h Q E N K=>by
 have hn:=N.inv.hok.fresh (Nat.le_refl s.heap.objs.size)
 have I1:=N.inv.laid (a:=s.heap.objs.size) (o:=.dK []) (h':=s.heap.push { cls:=.type "dict",data:=.dict #[] }) (t':=s.toks) (λ _ _ q=>Heap.get?_push_of_some _ q) (Nat.le_refl _) (J0f s.heap N.inv.big)
 obtain⟨R1,n1⟩:=N.rel.alloc (o:=.dK []) (io:=.dct []) hn ⟨[],Jf,rfl⟩
 have N1:Now ce X pins (ι++[s.heap.objs.size]) σi (h++[.dct []]) σ (upd H s.heap.objs.size (.dK [])) _:=⟨I1,R1,N.st.mono n1⟩
 have h0:(ι++[s.heap.objs.size])[h.length]?=some s.heap.objs.size:=by rw[<- N.rel.len,List.getElem?_append_right (Nat.le_refl _)];simp
 exact wpAny_Dict_empty (K _ _ _ (ι++[s.heap.objs.size]) N1 n1 ⟨.ref _,rfl,_,rfl,h0⟩)
noncomputable def Jgw:IV->List IV->IH->Res IV
 | .ref i,[y,v],h=>match h[i]? with
  | some (.dct kvs)=>(match keyI y with
   | some k=>(match valI kvs k with
    | some w=>.ok w h
    | none=>if kvs.length<sizeLine then .ok v (h.set i (.dct (kvs++[(k,v)]))) else .stuck)
   | none=>.stuck)
  | _=>.stuck
 | _,_,_=>.stuck
theorem J08:MtI ce X "dict" "dict.setdefault" Jgw:=by
 intro pins s σ H ι σi h x xs v us Q E N rx rs K
 obtain⟨xv,rx,qx⟩:=rx
 obtain⟨vs,rv,qs⟩:=rs
 cases x with
 | ref i =>
  match xs,K with
  | [y,y2],K =>
   obtain⟨a,rfl,ha⟩:=qx
   obtain⟨w,w2,rfl,qw,qw2⟩:=qs.two_of
   dsimp only[Jgw] at K
   cases hi:h[i]? with
   | none=>rw[hi] at K;exact Zf K
   | some ob =>
    rw[hi] at K
    cases ob with
    | dct kvs =>
     dsimp only at K
     cases ek:keyI y with
     | none=>rw[ek] at K;exact Zf K
     | some k =>
      rw[ek] at K
      dsimp only at K
      obtain⟨ws,e1,r1⟩:=N.at hi ha
      cases Jms ek qw
      cases rv with
      | @cons _ _ _ _ ru t =>
      cases t with
      | @cons _ u2 _ _ ru2 t =>
      cases t
      cases (show v=.ref a from rx)
      obtain⟨z,hd,ps,rel,dd⟩:=J0g N.inv.hok e1
      have hz:ps.length<=sizeLine:=by rw[<- rel.length];exact z
      refine call_meetsIn PySem.F.slot_dict_setdefault dd.typeIs PySem.F.entry_dict_setdefault (PySem.F.args_dict_setdefault_3 _ _ _) (kt_meets_setdefault (Jdf X.prog X.w) a (J01 ru) hd u2) ⟨ps,dd,hz,λ v' hv=>?_,λ hn h' dd' hs=>?_⟩
      ·rcases r1.get k with⟨p,q⟩|⟨v1,w1,p,q,r⟩
       ·have rr:=rel.val k
        rw[q] at rr
        rw[RelO.none_of rr] at hv
        cases hv
       ·rw[p] at K
        have rr:=rel.val k
        rw[q,hv] at rr
        exact fin0 (w:=w1) N K r _ _ (N.inv.tok _) rr
      ·rcases r1.get k with⟨p,q⟩|⟨v1,w1,p,q,r⟩
       ·rw[p] at K
        dsimp only at K
        split at K
        ·rename_i hl
         have he:∃q,h'.get? a=some q:=let ⟨q,_,_,hq,_⟩:=dd';⟨q,hq⟩
         have hlen:(putK ws k w2).length<=sizeLine:=by rw[Jqv q,List.length_append,r1.length];exact hl
         have I4:=Jx1 (t':=s.toks+1) N.inv (by rw[e1];exact True.intro) hs he (J2a hlen hd (rel.put k ru2) dd')
         have n:Nxt ι H ι (upd H a (.dK (putK ws k w2))):=⟨⟨[],by simp⟩,Ext.upd_mut e1 (by rw[e1];exact True.intro)⟩
         obtain⟨R4,_⟩:=N.rel.write (o:=.dK (putK ws k w2)) (io:=.dct (kvs++[(k,y2)])) ha e1 (by rw[e1];exact True.intro) ⟨_,Jf,(congrArg (λ P=>RPs X.K ι (upd H a (.dK (putK ws k w2))) (kvs++[(k,y2)]) P) (Jqv q)).mpr (RPs.mono n _ _ (r1.snoc qw2))⟩
         exact K _ _ _ ι ⟨I4,R4,N.st.mono n⟩ n ⟨w2,ru2,RV.mono n _ _ qw2⟩
        ·exact Zf K
       ·have rr:=rel.val k
        rw[q,hn] at rr
        exact Zf rr
    | _=>exact Zf K
  | [],K=>exact Zf K
  | [_],K=>exact Zf K
  | _::_::_::_,K=>exact Zf K
 | _=>cases xs<;>exact Zf K
end
noncomputable def putD (kvs:List (Key×IV)) (k:Key) (v:IV):List (Key×IV) :=
 if (kvs.any λ kv=>decide (kv.1=k))=true then kvs.map (λ kv=>if kv.1=k then(kv.1,v) else kv) else kvs++[(k,v)]
theorem RPs.any {K:W.Frag}{ι:List Addr}{H:Hp}(k:Key):∀{xs:List (Key×IV)}{vs:List (Key×V)},RPs K ι H xs vs->(xs.any λ kv=>decide (kv.1=k))=vs.any λ kv=>decide (kv.1=k)
 | [],_,h=>by
  have e:_=[]:=h
  subst e
  rfl
 | x::xs,_,h=>by
  obtain⟨v,r,rfl,q,t⟩:=h
  rw[List.any_cons,List.any_cons,RPs.any k t]
theorem RPs.upd {K:W.Frag}{ι:List Addr}{H:Hp}{k:Key}{v:IV}{w:V}(q:RV K ι H v w):∀{xs:List (Key×IV)}{vs:List (Key×V)},RPs K ι H xs vs->RPs K ι H (xs.map λ kv=>if kv.1=k then(kv.1,v) else kv) (vs.map λ kv=>if kv.1=k then(kv.1,w) else kv)
 | [],_,h=>by
  have e:_=[]:=h
  subst e
  exact rfl
 | x::xs,_,h=>by
  obtain⟨v',r,rfl,q',t⟩:=h
  rw[List.map_cons,List.map_cons]
  by_cases e:x.1=k
  ·rw[if_pos e,if_pos e]
   exact⟨w,_,rfl,q,RPs.upd q t⟩
  ·rw[if_neg e,if_neg e]
   exact⟨v',_,rfl,q',RPs.upd q t⟩
theorem RPs.putKK {K:W.Frag}{ι:List Addr}{H:Hp}{k:Key}{v:IV}{w:V}{xs:List (Key×IV)}{vs:List (Key×V)}(q:RV K ι H v w) (r:RPs K ι H xs vs):RPs K ι H (putD xs k v) (putK vs k w):=by
 unfold putD putK
 rw[r.any k]
 split
 ·exact r.upd q
 ·exact r.snoc q
section
variable {ce:Str->Option Addr}{X:Cx}
noncomputable def Joy (x y:IV) (h:IH):Res IV:=match x with
 | .ref i=>(match h[i]? with
  | some (.dct kvs)=>(match keyI y with
   | some k=>(match valI kvs k with
    | some v=>.ok v h
    | none=>.stuck)
   | none=>.stuck)
  | _=>.stuck)
 | _=>.stuck
theorem x_ixD:IxI ce X Joy:=by
 intro value slice pins s σ H ι σi h x y v u Q E N rx ry K hs
 obtain⟨xv,rx,qx⟩:=rx
 obtain⟨yv,ry,qy⟩:=ry
 cases x with
 | ref i =>
  obtain⟨a,e1,ha⟩:=qx
  subst e1
  dsimp only[Joy] at K
  cases hi:h[i]? with
  | none=>rw[hi] at K;exact Zf K
  | some ob =>
   rw[hi] at K
   cases ob with
   | dct kvs =>
    dsimp only at K
    cases ek:keyI y with
    | none=>rw[ek] at K;exact Zf K
    | some k =>
     rw[ek] at K
     dsimp only at K
     obtain⟨ws,e1,r1⟩:=N.at hi ha
     cases Jms ek qy
     cases (show v=.ref a from rx)
     obtain⟨z,hd,ps,rel,dd⟩:=J0g N.inv.hok e1
     rcases r1.get k with⟨p,q⟩|⟨v1,w1,p,q,r⟩
     ·rw[p] at K;exact Zf K
     ·rw[p] at K
      have rr:=rel.val k
      rw[q] at rr
      obtain⟨w',hw,rw'⟩:=RelO.some_of rr
      exact subscriptTail_builtinR (x:=w') dd.typeIs PySem.F.slot_dict_getitem.lookup (wpAny_getItem_of (Q:=λ r s'=>r=w'/\Q r s') (J01 ry) dd.mapOf hw ⟨rfl,fin0 N K r _ _ (N.inv.tok _) rw'⟩) hs
   | _=>exact Zf K
 | _=>exact Zf K
noncomputable def cInD (x c:IV) (h:IH):Res IV:=match c with
 | .ref i=>(match h[i]? with
  | some (.dct kvs)=>(match keyI x with
   | some k=>.ok (.bl (valI kvs k).isSome) h
   | none=>.stuck)
  | _=>.stuck)
 | _=>.stuck
theorem o_inD:OpI ce X (compareOp .In) cInD:=by
 intro pins s σ H ι σi h x y v u Q E N rx ry K
 obtain⟨xv,rx,qx⟩:=rx
 obtain⟨yv,ry,qy⟩:=ry
 cases y with
 | ref i =>
  obtain⟨a,e1,ha⟩:=qy
  subst e1
  dsimp only[cInD] at K
  cases hi:h[i]? with
  | none=>rw[hi] at K;exact Zf K
  | some ob =>
   rw[hi] at K
   cases ob with
   | dct kvs =>
    dsimp only at K
    cases ek:keyI x with
    | none=>rw[ek] at K;exact Zf K
    | some k =>
     rw[ek] at K
     dsimp only at K
     obtain⟨ws,e1,r1⟩:=N.at hi ha
     cases Jms ek qx
     cases (show u=.ref a from ry)
     obtain⟨z,hd,ps,rel,dd⟩:=J0g N.inv.hok e1
     refine wpAny_in_of (J01 rx) hd dd.mapOf ?_
     rw[<- (rel.val k).isSome_eq]
     have es:(valV ws k).isSome=(valI kvs k).isSome:=by
      rcases r1.get k with⟨p,q⟩|⟨v1,w1,p,q,r⟩<;>rw[p,q]<;>rfl
     rw[es]
     exact fin0 N K rfl _ _ (N.inv.tok _) rfl
   | _=>exact Zf K
 | _=>exact Zf K
noncomputable def Jzi:IV->IV->IV->ISt->IH->SRes
 | .ref i,iv,v,σ,h=>match h[i]? with
  | some (.dct kvs)=>(match keyI iv with
   | some k=>if kvs.length<sizeLine then .next σ (h.set i (.dct (putD kvs k v))) else .stuck
   | none=>.stuck)
  | _=>.stuck
 | _,_,_,_,_=>.stuck
noncomputable def gSbD (o i:E1):G1:=λ v σ h=>rS σ (o σ h) λ ov h1=>rS σ (i σ h1) λ iv h2=>Jzi ov iv v σ h2
theorem J52 {oe ie:Expr}{mo mi:E1}{pos:Pos}(ho:PEi ce X oe mo) (hi:PEi ce X ie mi)
  (ha:∀v,assign (.Subscript oe ie pos) X.env v=(do
   let ov<-holding [v] (eval oe X.env)
   let iv<-holding [v,ov] (eval ie X.env)
   standAt pos
   holding [v,ov,iv] (setItem ov iv v)
   release [v,ov,iv] [])):PGi ce X (.Subscript oe ie pos) (gSbD mo mi):=by
 intro pins s σ H ι σi h v u Q E N r K
 rw[ha]
 refine wpAny_bind (wpAny_holding (krun ho N K λ ov h1 ou s1 H1 ι1 N1 n1 r1 K1=>?_))
 refine wpAny_bind (wpAny_holding (krun hi N1 K1 λ iv h2 iu s2 H2 ι2 N2 n2 r2 K2=>?_))
 have r':RU X.K ι2 H2 v u:=(r.mono n1).mono n2
 obtain⟨ox,ro,qo⟩:=r1.mono n2
 obtain⟨ix,ri,qi⟩:=r2
 obtain⟨vx,rvx,qv⟩:=r'
 refine wpAny_bind (wpAny_standAt (wpAny_bind (wpAny_holding ?_)))
 cases ov with
 | ref i =>
  obtain⟨a,rfl,haa⟩:=qo
  dsimp only[Jzi] at K2
  cases hh:h2[i]? with
  | none=>rw[hh] at K2;exact Zf K2
  | some ob =>
   rw[hh] at K2
   cases ob with
   | dct kvs =>
    dsimp only at K2
    cases ek:keyI iv with
    | none=>rw[ek] at K2;exact Zf K2
    | some k =>
     rw[ek] at K2
     dsimp only at K2
     split at K2
     ·rename_i hl
      obtain⟨ws,e1,r1'⟩:=N2.at hh haa
      cases Jms ek qi
      cases (show ou=.ref a from ro)
      obtain⟨z,hd,ps,rel,dd⟩:=J0g N2.inv.hok e1
      have hz:ps.length<=sizeLine:=by rw[<- rel.length];exact z
      have hlen:(putK ws k vx).length<=sizeLine:=by
       have h1:=Juc ws k vx
       have h2:=r1'.length
       omega
      refine wpAny_setItem_pairs (hsz:=hz) (J01 ri) dd λ h' dd' hs=>?_
      have he:∃q,h'.get? a=some q:=let ⟨q,_,_,hq,_⟩:=dd';⟨q,hq⟩
      have I4:=Jx1 (t':=s2.toks+1) N2.inv (by rw[e1];exact True.intro) hs he (J2a hlen hd (rel.put k rvx) dd')
      have n:Nxt ι2 H2 ι2 (upd H2 a (.dK (putK ws k vx))):=⟨⟨[],by simp⟩,Ext.upd_mut e1 (by rw[e1];exact True.intro)⟩
      obtain⟨R3,_⟩:=N2.rel.write (o:=.dK (putK ws k vx)) (io:=.dct (putD kvs k v)) haa e1 (by rw[e1];exact True.intro) ⟨_,Jf,RPs.putKK (RV.mono n _ _ qv) (RPs.mono n _ _ r1')⟩
      exact wpAny_release (K2 _ σ _ ι2 ⟨I4,R3,N2.st.mono n⟩ n)
     ·exact Zf K2
   | _=>exact Zf K2
 | _=>exact Zf K2
end
noncomputable def leZ (a b:Int):Bool:=decide (a<=b)
noncomputable def Jn9 (ns:List Int):List Int:=ns.mergeSort leZ
theorem Jvm (ns:List Int):(Jn9 ns).Pairwise (· <= ·):=by
 have:=List.pairwise_mergeSort (le:=leZ) (λ a b c h1 h2=>by simp only[leZ,decide_eq_true_eq] at *;omega) (λ a b=>by simp only[leZ,Bool.or_eq_true,decide_eq_true_eq];omega) ns
 exact this.imp λ h=>by simpa [leZ] using h
theorem J1w {ns ns':List Int}(p:ns'.Perm ns) (s:ns'.Pairwise (· <= ·)):ns'=Jn9 ns :=
 List.Perm.eq_of_pairwise (le:=(· <= ·)) (λ a b _ _ h1 h2=>Int.le_antisymm h1 h2) s (Jvm ns) (p.trans (List.mergeSort_perm ns leZ).symm)
theorem Jgz:∀{us:List Value}{ns:List Int},IntsAre us ns->Vals (ns.map V.int) us
 | _,_,.nil=>.nil
 | _,_,.cons _ _ r=>.cons ⟨_,rfl⟩ (Jgz r)
theorem Jzs:∀{us:List Value}{zs:List Str},StrsAre us zs->Vals (zs.map V.str) us
 | _,_,.nil=>.nil
 | _,_,.cons _ _ r=>.cons ⟨_,rfl⟩ (Jzs r)
theorem Jvh {K:W.Frag}{ι:List Addr}{H:Hp}:∀ns:List Int,RVs K ι H (ns.map IV.int) (ns.map V.int)
 | []=>rfl
 | _::ns=>⟨_,_,rfl,rfl,Jvh ns⟩
noncomputable def srtI (xs:List IV):Option (List IV):=match Ja8 xs with
 | some ns=>some ((Jn9 ns).map .int)
 | none=>none
section
variable {ce:Str->Option Addr}{X:Cx}
noncomputable def Jlf:IV->IH->Res IV
 | .ref i,h=>match h[i]? with
  | some (.lst xs)=>if xs.length<64 then(match srtI xs with
   | some ys=>.ok (.ref h.length) (h++[.lst ys])
   | none=>.stuck) else .stuck
  | _=>.stuck
 | _,_=>.stuck
theorem J0b:Jfq ce X (.builtin "sorted") (on1 Jlf):=Jl7 λ pins s σ H ι σi h x xv u Q E N ru qx K=>by
 cases x with
 | ref i =>
  obtain⟨a,e1,ha⟩:=qx
  subst e1
  cases ru
  dsimp only[Jlf] at K
  cases hi:h[i]? with
  | none=>rw[hi] at K;exact Zf K
  | some ob =>
   rw[hi] at K
   cases ob with
   | lst xs =>
    dsimp only at K
    split at K
    ·rename_i h64
     obtain⟨vs,e1,r1⟩:=N.at hi ha
     obtain⟨its,rv,pl,hz⟩:=N.inv.list (SqL.of e1)
     have li:its.length=xs.length:=by rw[<- rv.length,r1.length]
     have hb:64<=sizeLine:=by decide
     have fresh:H (s.heap.objs.size+1)=none:=N.inv.hok.fresh (Nat.le_succ _)
     unfold srtI at K
     cases ei:Ja8 xs with
     | some ns =>
      rw[ei] at K
      have are:=Jct ei r1 rv
      have ln:=Jfc are
      refine sorted_ints pl.isList are (by omega) λ out ns' hI hp hs=>?_
      have en:=J1w hp hs
      subst en
      obtain⟨e,he⟩:=sortedAll_at s.heap its out
      have hl:((Jn9 ns).map V.int).length<=sizeLine:=by rw[List.length_map,hp.length_eq];omega
      have I':=N.inv.laid (a:=s.heap.objs.size+1) (o:=.lst ((Jn9 ns).map V.int)) (h':=sortedAll s.heap its out) (t':=s.toks) (λ _ _=>sortedAll_old) (Nat.le_succ _) ⟨hl,out.toList,e,Jgz hI,he⟩
      exact finA N K (s.heap.objs.size+1) fresh ⟨_,Jf,Jvh _⟩ _ _ I' rfl
     | none =>
      rw[ei] at K
      exact Zf K
    ·exact Zf K
   | _=>exact Zf K
 | _=>exact Zf K
end
noncomputable def Jgc (f:Nat->Int):Nat->Int
 | 0=>0
 | 1=>f 0
 | j+2=>if f (j+1)<Jgc f (j+1) then f (j+1) else Jgc f (j+1)
theorem Jv0 (f:Nat->Int){j:Nat}(hj:0<j):Jgc f (j+1)=if f j<Jgc f j then f j else Jgc f j:=by
 cases j with
 | zero=>omega
 | succ j=>rfl
section
variable {pr:Program}{wd:World}{B:Around}{R:Result->Shared->Prop}{it:Addr}{fps wrs:List Addr}{n:Nat}{P:Nat->Value->Prop}{St:Nat->Heap->Prop}
theorem Jgu:(toString "min"++toString ".loop":String)="min.loop":=by decide
theorem J4b {kw:List (Str×Value)}(W:Walks pr wd B.in1 it fps wrs n P St) (f:Nat->Int) (hf:∀i v,P i v->∃t,v=.int (f i) t) (C:Addr) (hC:C∉fps) :
  ∀(r j:Nat) (z:Shared) (v:Value) (u:Tok) (c:Nat),n-j=r->0<j->j<=n->St j z.heap->v=.int (Jgc f j) u->z.heap.get? C=some (Jy7 v c) ->
   (∀u h2 tk,(∀a o,a∉wrs->a≠C->z.heap.get? a=some o->h2.get? a=some o)->R (.ok (.ret (.int (Jgc f n) u))) { z with heap:=h2,toks:=tk }) ->
   codeAny (model pr wd) B (.builtin "min.loop" ⟨[.ref it,.none,.ref C],kw⟩) R z:=by
 have hw:C∉wrs:=λ q=>hC (W.sub _ q)
 intro r
 induction r with
 | zero =>
  intro j z v u c hr h0 hj st ev gC fin
  obtain rfl:j=n:=by omega
  subst ev
  refine codeAny_builtin PySem.F.entry_min_loop ?_
  rw[Around.under_plainId PySem.F.plain_min_loop _]
  show wpAny _ B.in1 (seqItems? (.ref C)>>=_) _ _ z
  refine wpAny_bind (wpAny_seqItems gC rfl ?_)
  show wpAny _ B.in1 (tryCatch (pyNext (.ref it)) _>>=_) _ _ z
  refine wpAny_bind (wpAny_tryCatch (W.done z _ _ st λ h2 tk keep=>?_))
  have gC2:=keep C _ hw gC
  show wpAny _ B.in1 (updateSeq C (λ _=>#[])>>=_) _ _ _
  refine wpAny_bind ?_
  refine wpAny_updateSeq gC2 rfl (wpAny_bind (wpAny_letGo (wpAny_pure ?_)))
  exact fin u _ tk λ a o ha hb e=>(Heap.get?_update_other _ _ (Ne.symm hb)).trans (keep a o ha e)
 | succ r ih =>
  intro j z v u c hr h0 hj st ev gC fin
  have lt:j<n:=by omega
  subst ev
  refine codeAny_builtin PySem.F.entry_min_loop ?_
  rw[Around.under_plainId PySem.F.plain_min_loop _]
  show wpAny _ B.in1 (seqItems? (.ref C)>>=_) _ _ z
  refine wpAny_bind (wpAny_seqItems gC rfl ?_)
  show wpAny _ B.in1 (tryCatch (pyNext (.ref it)) _>>=_) _ _ z
  refine wpAny_bind (wpAny_tryCatch (W.item j z _ _ lt st λ y h2 tk hP st2 keep=>?_))
  obtain⟨t,rfl⟩:=hf j y hP
  have gC2:=keep C _ hw gC
  have cmp:=CmpOf.ints_lt (prog:=pr) (w:=wd) (A:=B.in1) (P:=λ i v=>∃t,v=.int (if i=0 then f j else Jgc f j) t) (λ i=>if i=0 then f j else Jgc f j) (λ _ _ q=>q)
  show wpAny _ B.in1 (tryCatch (holding [Value.int (f j) t,Value.int (f j) t] (richCompare .Lt (.int (f j) t) (.int (Jgc f j) u)>>=_)) _>>=_) _ _ _
  refine wpAny_bind (wpAny_tryCatch (wpAny_holding (wpAny_bind (cmp 0 1 _ _ _ _ _ ⟨t,by simp⟩ ⟨u,by simp⟩ ?_))))
  refine wpAny_bind (wpAny_holding (wpAny_truthy_bool ?_))
  refine wpAny_bind (wpAny_letGo (wpAny_pure ?_))
  have step:=Jv0 f h0
  by_cases hb:f j<Jgc f j
  ·rw[if_pos hb] at step
   simp only[if_true,show ¬(1:Nat)=0 by decide,if_false,decide_eq_true hb]
   refine wpAny_bind ?_
   refine wpAny_updateSeq gC2 rfl (wpAny_bind (wpAny_letGo ?_))
   rw[Jgu]
   refine wpAny_pure ⟨plainId_quiet PySem.F.plain_min_loop _,ih (j+1) _ (.int (f j) t) t _ (by omega) (by omega) lt (W.frame _ _ _ st2 λ a ha o e=>?_) (by rw[step]) (Heap.get?_update_self _ gC2 rfl) λ u2 h3 tk3 k3=>?_⟩
   ·exact(Heap.get?_update_other _ _ (λ q:C=a=>hC (by rw[q];exact ha))).trans e
   ·exact fin u2 h3 tk3 λ a o ha hc e=>k3 a o ha hc ((Heap.get?_update_other _ _ (Ne.symm hc)).trans (keep a o ha e))
  ·rw[if_neg hb] at step
   simp only[if_true,show ¬(1:Nat)=0 by decide,if_false,decide_eq_false hb,Bool.false_eq_true]
   refine wpAny_bind (wpAny_letGo ?_)
   rw[Jgu]
   refine wpAny_pure ⟨plainId_quiet PySem.F.plain_min_loop _,ih (j+1) _ (.int (Jgc f j) u) u c (by omega) (by omega) lt st2 (by rw[step]) gC2 λ u2 h3 tk3 k3=>?_⟩
   exact fin u2 h3 tk3 λ a o ha hc e=>k3 a o ha hc (keep a o ha e)
end
theorem Jrg (a:Value):argsOk "min" ⟨[a],[]⟩:=by unfold argsOk;kernel_rfl
section
variable {pr:Program}{wd:World}{B:Around}{E:Value->Shared->Prop}{z:Shared}{l:Addr}{us:List Value}{ns:List Int}{Q:Value->Shared->Prop}
theorem Jy1 (hh:B.handled=none) (hl:z.heap.IsList l us.toArray) (hi:IntsAre us ns) (hne:ns≠[])
  (hQ:∀v h2 tk,(∃u,v=.int (Jgc (λ i=>ns.getD i 0) ns.length) u)->(∀b o,z.heap.get? b=some o->h2.get? b=some o)->Q v { z with heap:=h2,toks:=tk }) :
  wpAny (model pr wd) B (call (.builtin "min") [.ref l]) Q E z:=by
 obtain⟨ol,hol,_⟩:=id hl
 have lt:l<z.heap.objs.size:=Heap.lt_size hol
 have ll:=Jfc hi
 refine kmk_tree PySem.F.kind_min PySem.F.plain_min PySem.F.entry_min (Jrg _) ?_
 show wpAny _ B.in1 (Builtin.Builtins.bindParams "min" ["key","default"] 0 ⟨[],[]⟩>>=_) _ _ z
 refine wpAny_bind (wpAny_of_eq (show Builtin.Builtins.bindParams "min" ["key","default"] 0 ⟨[],[]⟩=pure [none,none] from rfl) ?_)
 refine wpAny_bind (wpAny_pure ?_)
 refine wpAny_bind (wpAny_pyIter_list hl ?_)
 refine wpAny_bind (wpAny_newList ?_ (Nat.zero_le _))
 rw[Jgu]
 have ne:l≠z.heap.objs.size:=Nat.ne_of_lt lt
 have W:=Walks.list (prog:=pr) (w:=wd) (A:=B.in1) hh z.heap.objs.size l ne us.toArray
 have sz:us.toArray.size=us.length:=List.size_toArray ..
 have hS:(z.heap.push { cls:=.type "list_iterator",data:=.fields #[.ref l,.int 0 0] }).objs.size=z.heap.objs.size+1:=size_push' ..
 have hC:(z.heap.push { cls:=.type "list_iterator",data:=.fields #[.ref l,.int 0 0] }).objs.size∉[z.heap.objs.size,l]:=by
  rw[hS]
  simp only[List.mem_cons,List.not_mem_nil,or_false,not_or]
  exact⟨Nat.ne_of_gt (Nat.lt_succ_self _),Nat.ne_of_gt (Nat.lt_succ_of_lt lt)⟩
 have hw:(z.heap.push { cls:=.type "list_iterator",data:=.fields #[.ref l,.int 0 0] }).objs.size∉[z.heap.objs.size]:=by
  rw[hS]
  simp only[List.mem_cons,List.not_mem_nil,or_false]
  exact Nat.ne_of_gt (Nat.lt_succ_self _)
 have old:∀b o,z.heap.get? b=some o->((z.heap.push { cls:=.type "list_iterator",data:=.fields #[.ref l,.int 0 0] }).push (seqObj "list" #[] 0)).get? b=some o:=λ b o e=>Heap.get?_push_of_some _ (Heap.get?_push_of_some _ e)
 have gI:((z.heap.push { cls:=.type "list_iterator",data:=.fields #[.ref l,.int 0 0] }).push (seqObj "list" #[] 0)).get? z.heap.objs.size=some { cls:=.type "list_iterator",data:=.fields #[.ref l,.int 0 0] }:=Heap.get?_push_of_some _ (Heap.get?_push_size _ rfl)
 have gC:((z.heap.push { cls:=.type "list_iterator",data:=.fields #[.ref l,.int 0 0] }).push (seqObj "list" #[] 0)).get? (z.heap.push { cls:=.type "list_iterator",data:=.fields #[.ref l,.int 0 0] }).objs.size=some (seqObj "list" #[] 0):=Heap.get?_push_size _ rfl
 have notin:∀b o,z.heap.get? b=some o->b∉[z.heap.objs.size]:=λ b o e q=>Nat.ne_of_lt (Heap.lt_size e) (List.mem_singleton.mp q)
 have notC:∀b o,z.heap.get? b=some o->b≠(z.heap.push { cls:=.type "list_iterator",data:=.fields #[.ref l,.int 0 0] }).objs.size:=λ b o e=>by rw[hS];exact Nat.ne_of_lt (Nat.lt_succ_of_lt (Heap.lt_size e))
 refine wpAny_pure ⟨plainId_quiet PySem.F.plain_min_loop _,codeAny_builtin PySem.F.entry_min_loop ?_⟩
 rw[Around.under_plainId PySem.F.plain_min_loop _]
 show wpAny _ B.in1 (seqItems? (.ref _)>>=_) _ _ _
 refine wpAny_bind (wpAny_seqItems gC rfl ?_)
 show wpAny _ B.in1 (tryCatch (pyNext (.ref z.heap.objs.size)) _>>=_) _ _ _
 have h0:¬us.length=0:=λ q=>hne (List.eq_nil_of_length_eq_zero (by omega))
 ·refine wpAny_bind (wpAny_tryCatch (W.item 0 _ _ _ (by rw[sz];omega) ⟨⟨_,gI,rfl,rfl⟩,(hl.push _).push _⟩ λ y h2 tk hP st2 keep=>?_))
  have gC2:=keep _ _ hw gC
  show wpAny _ B.in1 (updateSeq (z.heap.push { cls:=.type "list_iterator",data:=.fields #[.ref l,.int 0 0] }).objs.size (λ _=>#[y,y])>>=_) _ _ _
  refine wpAny_bind ?_
  refine wpAny_updateSeq gC2 rfl ?_
  rw[Jgu]
  have hf:∀(i:Nat) (v:Value),us.toArray[i]?=some v->∃t,v=.int ((λ i=>ns.getD i 0) i) t:=λ i v q=>IntsAre.int_at hi i v (by simpa using q)
  obtain⟨t,rfl⟩:=hf 0 y hP
  refine wpAny_pure ⟨plainId_quiet PySem.F.plain_min_loop _,J4b W (λ i=>ns.getD i 0) hf _ hC _ 1 _ _ t _ rfl (by decide) (by rw[sz];omega) (W.frame _ _ _ st2 λ a ha o e=>?_) rfl (Heap.get?_update_self _ gC2 rfl) λ u h3 tk3 k3=>?_⟩
  ·exact(Heap.get?_update_other _ _ (λ q=>hC (by rw[q];exact ha))).trans e
  ·rw[sz,ll]
   refine hQ _ h3 tk3 ⟨u,rfl⟩ λ b o e=>k3 b o (notin b o e) (notC b o e) ((Heap.get?_update_other _ _ (Ne.symm (notC b o e))).trans (keep b o (notin b o e) (old b o e)))
end
section
variable {ce:Str->Option Addr}{X:Cx}
noncomputable def Juh:IV->IH->Res IV
 | .ref i,h=>match h[i]? with
  | some (.lst xs)=>(match Ja8 xs with
   | some ns=>if ns=[] then .stuck else .ok (.int (Jgc (λ i=>ns.getD i 0) ns.length)) h
   | none=>.stuck)
  | _=>.stuck
 | _,_=>.stuck
theorem J5r (hh:X.A.handled=none):Jfq ce X (.builtin "min") (on1 Juh):=Jl7 λ pins s σ H ι σi h x xv u Q E N ru qx K=>by
 cases x with
 | ref i =>
  obtain⟨a,e1,ha⟩:=qx
  subst e1
  cases ru
  dsimp only[Juh] at K
  cases hi:h[i]? with
  | none=>rw[hi] at K;exact Zf K
  | some ob =>
   rw[hi] at K
   cases ob with
   | lst xs =>
    dsimp only at K
    cases hb:Ja8 xs with
    | none=>rw[hb] at K;exact Zf K
    | some ns =>
     rw[hb] at K
     dsimp only at K
     split at K
     ·exact Zf K
     ·rename_i hne
      obtain⟨vs,e1,r1⟩:=N.at hi ha
      obtain⟨its,rv,pl,hz⟩:=N.inv.list (SqL.of e1)
      refine Jy1 hh pl.isList (Jct hb r1 rv) hne λ v h2 tk ⟨t,ev⟩ kk=>?_
      subst ev
      exact fin0 N K rfl _ _ (N.inv.kept (t':=tk) kk) ⟨t,rfl⟩
   | _=>exact Zf K
 | _=>exact Zf K
end
section
variable {prog:Program}{w:World}{A:Around}{E:Value->Shared->Prop}{s:Shared}
end
open AutoSeq1 (wpAny_loadPart') in
section
variable {prog:Program}{w:World}{A:Around}{E:Value->Shared->Prop}{s:Shared}
end
section
variable {ce:Str->Option Addr}{X:Cx}
end
noncomputable def Jl2 (a:Arguments):Option Str:=match a with
 | { posonlyargs:=[],args:=[p],vararg:=none,kwonlyargs:=[],kw_defaults:=[],kwarg:=none,defaults:=[] }=>some p.arg
 | _=>none
noncomputable abbrev lamQ (q:Str):Str:=q++".<locals>."++"<lambda>"
noncomputable abbrev lamO (q:Str) (params:Arguments) (body:Expr) (scope:Scope) (cl:List (Str×Addr)) (pm ctv:Value) (c:Addr):Obj:=W.kla_obj "<lambda>" (lamQ q) params body scope cl pm c ctv
noncomputable def Jmx (mg:Str->Option Value) (base:Heap):Prop :=
 ∃bm ob,mg "__builtins__"=some (.ref bm)/\bm≠builtinsNs/\bm≠mainGlobals/\base.get? bm=some ob/\ob.cls=.type "module"/\ob.dict=some builtinsNs/\ob.data=.plain
theorem Jc6.rec {H:Hp}{q:Str}{cv:Value}{P:Program}{w:World}{h:Heap}(l:Jc6 H q cv) (hok:HOk P w H h):h.CodeRec cv (lamQ q):=by
 obtain⟨c,oc,vs,t,e1,e2,e3,e4⟩:=l
 exact⟨c,oc,vs,t,e1,(hok c _ e2).1,e3,e4⟩
theorem Jc6.mono {H H':Hp}{q:Str}{cv:Value}(fz:∀b o u,H b=some (.frz o u)->H' b=some (.frz o u)) (l:Jc6 H q cv):Jc6 H' q cv:=by
 obtain⟨c,oc,vs,t,e1,e2,r⟩:=l
 exact⟨c,oc,vs,t,e1,fz _ _ _ e2,r⟩
theorem Jps {pos:Pos}{a b:Int}{c cv:Value}:∀(l:List Value),TriplesOk l->codeAmong pos (l++[rawInt a,rawInt b,c])=some cv->codeAmong pos l=some cv∨cv=c
 | [],_,e=>by
  simp only[List.nil_append,rawInt,codeAmong] at e
  split at e
  ·cases e;exact .inr rfl
  ·cases e
 | .int x t::.int y u::z::rest,h,e=>by
  simp only[List.cons_append,codeAmong] at e ⊢
  split at e
  ·rename_i hh
   rw[if_pos hh]
   exact .inl e
  ·rename_i hh
   rw[if_neg hh]
   exact Jps rest h e
 | [.int _ _],h,_=>(show False from h).elim
 | [.int _ _,.int _ _],h,_=>(show False from h).elim
section
variable {ce:Str->Option Addr}{X:Cx}
theorem Now.pinO {pins:List (Addr×Obj)}{ι:List Addr}{σi:ISt}{h:IH}{σ:L2.St}{H:Hp}{s:Shared}{f:Addr}{fo:Obj}(N:Now ce X pins ι σi h σ H s) (e:s.heap.get? f=some fo) (F:FpOk X pins H f) (d:∀v,fo.data≠.cell v):Now ce X (pins++[(f,fo)]) ι σi h σ H s:=by
 have I:=N.inv.pinned (fp:=[f]) (λ b hb=>by rw[List.mem_singleton.mp hb];exact F) (λ b hb=>by rw[List.mem_singleton.mp hb];exact⟨fo,e,d⟩)
 have ep:Jfm [f] s.heap=[(f,fo)]:=by simp[Jfm,e]
 rw[ep] at I
 exact⟨I,N.rel,N.st⟩
theorem J03 {q:Str}{j:Nat}{params:Arguments}{body:Expr}{scope:Scope}{pos:Pos}{cl:List (Str×Addr)}{pins:List (Addr×Obj)}{s:Shared}{σ:L2.St}{H:Hp}{ι:List Addr}{σi:ISt}{h:IH}{Q:Value->Shared->Prop}{E:Value->Shared->Prop}
  (N:Now ce X pins ι σi h σ H s) (hj:h[j]?=some (.tab q)) (hcd:W.codeIn X.K X.env.code q=true) (hq:X.env.qual=q++".<locals>.") (hdef:defaultsOf params X.env=([],[])) (hcl:closureFor scope X.env=pure cl) (B:Jmx X.mg X.base)
  (K:∀f c pm ctv s' H',Now ce X (pins++[(f,lamO q params body scope cl pm ctv c)]) ι σi h σ H' s'->Nxt ι H ι H'->Jc6 H' q (.ref c)->Q (.ref f) s') :
  wpAny (model X.prog X.w) X.A (eval (.Lambda params body scope pos) X.env) Q E s:=by
 obtain⟨a,ha,hc,ps,hP,ht,hcodes⟩:=N.rel.at_ j _ hj
 obtain⟨c,ec,hhd⟩:=hc _ hcd
 have I:=N.inv
 have C:=W.codeHd_of_K I.kIn hhd
 have gP:s.heap.get? a=some (W.tabObj ps):=I.hok a _ hP
 have hg:s.heap.Ns mainGlobals X.mg:=I.ok.mod.glob.keeps I.bk
 obtain⟨bm,ob,b1,b2,b3,b4,b5,b6,b7⟩:=B
 have gb:=I.bs bm ob b4
 have nba:bm≠a:=λ z=>by rw[z,hP] at gb;cases gb.2
 have hb:s.heap.BuiltinsAt X.mg a:=⟨bm,ob,b1,b2,b3,nba,gb.1,b5,b6,b7⟩
 have nga:mainGlobals≠a:=λ z=>by
  obtain⟨o,es,ep,e,d,_⟩:=hg
  rw[z,gP] at e
  cases e
  cases d
 refine W.kla_eval hdef ?_
 rw[hq]
 cases ea:codeAmong pos ps.toList with
 | some cv =>
  have LC:=hcodes pos cv ea
  obtain⟨c',oc,vs,t,ecv,_⟩:=id LC
  subst ecv
  refine W.kla_makeFunctionHit hcl I.ok.glob hg ec C gP ht ea hb λ ctv h' tk hk hsz=>?_
  have I1:=I.kept (h':=h'.push (lamO q params body scope cl ((X.mg "__name__").getD .none) ctv c')) (t':=tk) λ b o e=>Heap.get?_push_of_some _ (hk b o e)
  have N1:Now ce X pins ι σi h σ H _:=⟨I1,N.rel,N.st⟩
  exact K h'.objs.size c' _ ctv _ H (N1.pinO (Heap.get?_push_size _ rfl) (I.fpOk hsz (I.hok.fresh hsz)) λ v z=>by
   have z':Data.func _=Data.cell v:=z
   cases z') .refl LC
 | none =>
  refine W.kla_makeFunction hcl I.ok.glob hg ec C gP ht ea nga hb λ c' ctv h' tk hx hge hlt hrec htb=>?_
  obtain⟨c2,oc,vs,t,e2,hoc,hd,hv⟩:=hrec
  cases e2
  generalize hps:ps++#[rawInt pos.line,rawInt pos.col,.ref c']=ps' at htb
  generalize hob:lamO q params body scope cl ((X.mg "__name__").getD .none) ctv c'=fo
  have fc:H c'=none:=I.hok.fresh hge
  have nca:c'≠a:=λ z=>by rw[z,hP] at fc;cases fc
  have lts:s.heap.objs.size<=h'.objs.size:=Nat.le_trans hge (Nat.le_of_lt hlt)
  obtain⟨H',hH⟩:∃H',H'=upd (upd H a (.tbl ps')) c' (.frz oc (.own 0)):=⟨_,rfl⟩
  have Ha:H' a=some (.tbl ps'):=by rw[hH,Ji (Ne.symm nca),Jf]
  have Hc:H' c'=some (.frz oc (.own 0)):=by rw[hH,Jf]
  have Ho:∀b,b≠a->b≠c'->H' b=H b:=λ b h1 h2=>by rw[hH,Ji h2,Ji h1]
  have kp:∀b o,b≠a->s.heap.get? b=some o->(h'.push fo).get? b=some o:=λ b o hb e=>Heap.get?_push_of_some _ (hx b o hb e)
  have ga:(h'.push fo).get? a=some (W.tabObj ps'):=Heap.get?_push_of_some _ htb
  have frz:∀b o u,H b=some (.frz o u)->H' b=some (.frz o u):=λ b o u e=>by rw[Ho b (λ z=>by rw[z,hP] at e;cases e) (λ z=>by rw[z,fc] at e;cases e)];exact e
  have tup:∀b xs,H b=some (.tup xs)->H' b=some (.tup xs):=λ b xs e=>by rw[Ho b (λ z=>by rw[z,hP] at e;cases e) (λ z=>by rw[z,fc] at e;cases e)];exact e
  have own:∀b x,H b=some (.own x)->H' b=some (.own x):=λ b x e=>by rw[Ho b (λ z=>by rw[z,hP] at e;cases e) (λ z=>by rw[z,fc] at e;cases e)];exact e
  have I1:Inv X pins σ H' { s with heap:=h'.push fo,toks:=tk }:=by
   refine I.step (g':=s.gens) (d':=s.drawn) (ch:=[]) (λ b hb=>absurd hb (by simp)) (λ b o _ _ _ e n=>kp b o (λ z=>by rw[z,hP] at n;cases n) e) (λ b o _ _ _ e n=>⟨o.slots,kp b o (λ z=>by rw[z,hP] at n;cases n) e⟩) (λ b o _ e n=>?_) (λ b o _ e=>?_) tup frz (λ b qs e=>?_) (λ m hm=>?_) (λ b u e=>?_) I.bare
   ·rw[Ho b (λ z=>by rw[z,hP] at n;cases n) (Nat.ne_of_lt (Nat.lt_of_lt_of_le (Heap.lt_size e) hge))];exact n
   ·by_cases hb:b=a
    ·subst hb;exact⟨_,ga⟩
    ·exact⟨o,kp b o hb e⟩
   ·by_cases hb:b=a
    ·subst hb
     rw[hP] at e
     cases e
     exact⟨_,by rw[Ha,<-hps]⟩
    ·exact⟨#[],by rw[Ho b hb (λ z=>by rw[z,fc] at e;cases e),e];simp⟩
   ·obtain⟨o,es,ep,ho,r⟩:=hm
    exact⟨o,es,ep,kp _ o (λ z=>by have:=I.free;rw[z,hP] at this;cases this) ho,r⟩
   ·by_cases hb:b=a
    ·subst hb
     rw[Ha] at e
     cases e
     exact ga
    ·by_cases hb2:b=c'
     ·subst hb2
      rw[Hc] at e
      cases e
      exact⟨Heap.get?_push_of_some _ hoc,_,Heap.get?_push_of_some _ hoc⟩
     ·rw[Ho b hb hb2] at e
      refine(I.hok b u e).stay (λ d v hd r=>kp d v (λ z=>?_) r) (λ d z=>own d _ z) tup
      subst z
      rcases hd with z|z
      ·exact hb z.symm
      ·rw[hP] at z;cases z
  have n:Nxt ι H ι H':=⟨⟨[],by simp⟩,⟨tup,frz⟩⟩
  have LC:Jc6 H' q (.ref c'):=⟨c',oc,vs,t,rfl,Hc,hd,hv⟩
  have R:Rel ce X.K ι h H':=by
   refine⟨N.rel.len,N.rel.nd,λ i o e=>?_⟩
   obtain⟨b,eb,ro⟩:=N.rel.at_ i o e
   refine⟨b,eb,?_⟩
   by_cases hb:b=a
   ·subst hb
    have hij:i=j:=N.rel.inj eb ha
    subst hij
    rw[hj] at e
    cases e
    refine⟨hc,ps',Ha,?_,λ pos' cv ea'=>?_⟩
    ·rw[<- hps,Array.toList_append]
     exact TriplesOk_snoc _ _ _ _ ht
    ·rw[<- hps,Array.toList_append] at ea'
     rcases Jps ps.toList ht ea' with z|z
     ·exact(hcodes pos' cv z).mono frz
     ·rw[z];exact LC
   ·refine ro.mono n λ u hu=>?_
    rw[Ho b hb (λ z=>by rw[z,fc] at hu;cases hu)]
    exact hu
  have N1:Now ce X pins ι σi h σ H' _:=⟨I1,R,N.st.mono n⟩
  subst hob
  exact K h'.objs.size c' _ ctv _ H' (N1.pinO (Heap.get?_push_size _ rfl) (I.fpOk lts (by rw[Ho _ (Nat.ne_of_gt (Nat.lt_of_lt_of_le (Heap.lt_size gP) lts)) (Nat.ne_of_gt hlt)];exact I.hok.fresh lts)) λ v z=>by
   have z':Data.func _=Data.cell v:=z
   cases z') n LC
end
noncomputable abbrev envL (q:Str) (scope:Scope) (L f:Addr) (cd:Value) (cl:List (Str×Addr)):Env:=newEnv scope L mainGlobals cl (lamQ q++".<locals>.") (some f) cd none builtinsNs
noncomputable def cxL (X:Cx) (A:Around) (N':List Str) (q:Str) (scope:Scope) (f:Addr) (cd:Value) (s:Shared) (H:Hp):Cx :=
 { X with A:=A.deeper (envL q scope s.heap.objs.size f cd (clOf X.env.cells scope.names [])),N:=N',s₀:=s,H₀:=H,env:=envL q scope s.heap.objs.size f cd (clOf X.env.cells scope.names []),outer:=X.stack,stack:=envL q scope s.heap.objs.size f cd (clOf X.env.cells scope.names [])::X.stack,ex:=[],calm:=true,fn:=λ _=>false,pn:=[],xe:=λ _ _=>False }
structure LamSc (N0:List Str) (sc₀:List (Str×NameKind)) (x:Str) (caps:List Str) (js:List Nat) (scope:Scope):Prop where
 kind:scope.kind=.function
 co:scope.isCoroutine=false
 gen:scope.isGenerator=false
 nocell:∀y∈scope.names,y.2≠.cell
 par:scope.names.lookup x=some .local
 free:∀y∈scope.names,y.2=.free->sc₀.lookup y.1=some .cell
 fr:∀y,scope.names.lookup y=some .free->(y,.free)∈scope.names
 cap:∀(k j:Nat) (y:Str),js[k]?=some j->caps[k]?=some y->N0[j]?=some y/\scope.names.lookup y=some .free
 len:js.length=caps.length
 nd:(x::caps).Nodup
theorem Jz9 {p:Arg}{nm qu:Str}{body:Expr}{scope:Scope}{cl:List (Str×Addr)}{pm cd ctv u:Value}:bindArgs (W.kla_fn nm qu { posonlyargs:=[],args:=[p],vararg:=none,kwonlyargs:=[],kw_defaults:=[],kwarg:=none,defaults:=[] } body scope cl pm cd ctv) ⟨[u],[]⟩=pure [(p.arg,u)]:=by
 have e:(List.lookup p.arg [(p.arg,u)]).isNone=false:=by simp
 unfold bindArgs
 simp[seqItems?,e]
 rfl
section
variable {ce:Str->Option Addr}{X:Cx}
theorem J33 {k:Nat}{A:Around}{q x:Str}{caps:List Str}{js:List Nat}{params:Arguments}{body:Expr}{scope:Scope}{pm ctv:Value}{c f:Addr}{m:E1}{v:IV}{u:Value}{pins:List (Addr×Obj)}{s:Shared}{σ:L2.St}{H:Hp}{ι:List Addr}{σi:ISt}{h:IH}{Q:Value->Shared->Prop}{E:Value->Shared->Prop}
  (hA:A.frames=some X.stack) (hr:Room (k+1) A) (N:Now ce X pins ι σi h σ H s) (hf:s.heap.get? f=some (lamO q params body scope (clOf X.env.cells scope.names []) pm ctv c)) (LC:Jc6 H q (.ref c)) (hx:Jl2 params=some x) (S:LamSc X.N X.env.scope.names x caps js scope)
  (hb:∀s' H',PEi ce (cxL X A (x::caps) q scope f (.ref c) s' H') body m) (ru:RU X.K ι H v u) (K:Kont ce X RU pins ι σi σ H ((m (some v::js.map λ j=>(σi[j]?).join) h).nx) Q E) :
  wpAny (model X.prog X.w) A (call (.ref f) [u]) Q E s:=by
 have I:=N.inv
 have e0:=I.env0
 have lim:s.heap.NoLimit:=e0.mod.nolimit.keeps λ b o e=>(e0.bs b o e).1
 refine wpAny_call (W.kla_callFunE hr.depth hf rfl S.co S.gen rfl (LC.rec I.hok) ?_)
 have hbind:bindArgs (W.kla_fn "<lambda>" (lamQ q) params body scope (clOf X.env.cells scope.names []) pm (.ref c) ctv) ⟨[u],[]⟩=pure [(x,u)]:=by
  unfold Jl2 at hx
  split at hx
  ·cases hx
   exact Jz9
  ·cases hx
 rw[hbind]
 refine wpAny_pure (wpAny_newFunctionEnv S.nocell (λ y hy=>by rw[List.mem_singleton.mp hy];exact S.par) (λ h3 hns hsb=>⟨lim.fresh _ hsb,?_⟩) S.kind)
 obtain⟨w,rw',qw⟩:=ru
 have keep:∀b o,s.heap.get? b=some o->h3.get? b=some o:=λ b o z=>(hsb.2 b (Nat.ne_of_lt (Heap.lt_size z))).trans (Heap.get?_push_of_some _ z)
 have cells':∀y d,(clOf X.env.cells scope.names []).lookup y=some d->X.env.cells.lookup y=some d:=Jqf _ _ (λ y d z=>by simp at z)
 have okX:(cxL X A (x::caps) q scope f (.ref c) s H).Ok:=by
  have noA:∀b:Addr,b∉(cxL X A (x::caps) q scope f (.ref c) s H).ex:=λ b z=>absurd (show b∈([]:List Addr) from z) (by simp)
  refine⟨I.ok.mod,S.kind,rfl,rfl,Nat.le_refl _,λ y y' d a b=>I.ok.inj y y' d (cells' y d a) (cells' y' d b),λ y hy=>?_,λ y d z=>absurd (show false=true from z) Bool.false_ne_true,λ _=>hr.hd,Around.frames_deeper hA,.inr ⟨rfl,rfl⟩,λ b z=>absurd z (noA b),e0.bs,e0.bsz,λ b _ _=>noA b,λ b z=>absurd z (noA b),e0.funs,e0.frf⟩
  have hy':scope.names.lookup y=some .cell∨scope.names.lookup y=some .free:=hy
  rcases hy' with z|z
  ·exact absurd rfl (S.nocell _ (PySem.mem_of_lookup z))
  ·have hm:=PySem.mem_of_lookup z
   obtain⟨d,hd⟩:=I.ok.has y (.inl (S.free (y,.free) hm rfl))
   exact Option.isSome_iff_exists.mp (Jj9 _ _ y d hm hd)
 have I3:Inv (cxL X A (x::caps) q scope f (.ref c) s H) [] (some w::js.map λ j=>(σ[j]?).join) H { s with heap:=h3,toks:=s.toks+[(x,u)].length }:=by
  refine⟨okX,rfl,I.bare,Un.kept keep,⟨_,hns,λ i y z a b cc=>?_⟩,λ y d z=>?_,I.hok.fresh (Nat.le_refl _),λ y d z=>I.freeC y d (cells' y d z),λ p hp=>absurd (show p∈([]:List (Addr×Obj)) from hp) (by simp),I.hok.kept keep,by show _=(x::caps).length;simp[S.len]⟩
  ·cases i with
   | zero =>
    have a':some x=some y:=a
    cases a'
    have b':some (some w)=some (some z):=b
    cases b'
    exact⟨u,rw',.inl ⟨S.par,by simp⟩⟩
   | succ i =>
    have a':caps[i]?=some y:=a
    have b':(js.map λ j=>(σ[j]?).join)[i]?=some (some z):=b
    rw[List.getElem?_map] at b'
    cases ej:js[i]? with
    | none=>rw[ej] at b';cases b'
    | some j =>
     rw[ej] at b'
     have b2:(σ[j]?).join=some z:=Option.some.inj b'
     have hσ:σ[j]?=some (some z):=by
      cases es:σ[j]? with
      | none=>rw[es] at b2;cases b2
      | some o=>rw[es] at b2;rw[show o=some z from b2]
     obtain⟨hx1,hx2⟩:=S.cap i j y ej a'
     have hm:=PySem.mem_of_lookup hx2
     have hk:=S.free (y,.free) hm rfl
     obtain⟨m0,hn,hl⟩:=I.loc
     obtain⟨u',ru',lk⟩:=hl j y z hx1 hσ (.inr (.inl hk))
     rcases lk with⟨e,_⟩|⟨e,d,hd,hcell⟩
     ·have hk':X.env.scope.names.lookup y=some .cell:=hk
      have e':X.env.scope.names.lookup y=some .local:=e
      rw[hk'] at e'
      cases e'
     ·obtain⟨d',hd2⟩:=Option.isSome_iff_exists.mp (Jj9 (cells:=X.env.cells) scope.names [] y d hm hd)
      have:=cells' y d' hd2
      rw[hd] at this
      cases this
      obtain⟨oc,hoc,hdd⟩:=hcell
      exact⟨u',ru',.inr ⟨.inr hx2,d,hd2,oc,keep _ _ hoc,hdd⟩⟩
  ·obtain⟨z',o,ho,hd⟩:=I.cell y d (cells' y d z)
   exact⟨z',o,keep _ _ ho,hd⟩
 have N3:Now ce (cxL X A (x::caps) q scope f (.ref c) s H) [] ι (some v::js.map λ j=>(σi[j]?).join) h (some w::js.map λ j=>(σ[j]?).join) H { s with heap:=h3,toks:=s.toks+[(x,u)].length }:=by
  refine⟨I3,N.rel,by simp,λ i z a=>?_⟩
  cases i with
  | zero =>
   have a':some (some v)=some (some z):=a
   cases a'
   exact⟨w,rfl,qw⟩
  | succ i =>
   have a':(js.map λ j=>(σi[j]?).join)[i]?=some (some z):=a
   rw[List.getElem?_map] at a'
   cases ej:js[i]? with
   | none=>rw[ej] at a';cases a'
   | some j =>
    rw[ej] at a'
    have a2:(σi[j]?).join=some z:=Option.some.inj a'
    have hσ:σi[j]?=some (some z):=by
     cases es:σi[j]? with
     | none=>rw[es] at a2;cases a2
     | some o=>rw[es] at a2;rw[show o=some z from a2]
    obtain⟨z',ez,qz⟩:=N.st.2 j z hσ
    refine⟨z',?_,qz⟩
    show(js.map λ j=>(σ[j]?).join)[i]?=some (some z')
    rw[List.getElem?_map,ej]
    show some ((σ[j]?).join)=_
    rw[ez]
    rfl
 refine W.kla_codeExpr (wpAny_mono (hb s H [] _ _ H ι _ h (λ u' s'=>Q u' s') (λ _ _=>False) N3 ?_) (λ _ _ z=>z) λ _ _ z=>z.elim)
 cases er:m (some v::js.map λ j=>(σi[j]?).join) h with
 | ok v' h' =>
  rw[er] at K
  intro u' s' H' ι' N' n' ⟨z,rz,qz⟩
  have J:=N'.inv
  obtain⟨_,_,I',rz',e1,e2⟩:=I.after (Q:=λ z2 H2=>z2=z/\H2=H') ⟨z,H',J.os,J.bare,J.base,J.hok,rz,rfl,rfl⟩
  subst e1
  subst e2
  exact K u' s' _ ι' ⟨I',N'.rel,N.st.mono n'⟩ n' ⟨_,rz',qz⟩
 | exc n h'=>rw[er] at K;exact Zf K
 | stuck=>rw[er] at K;exact Zf K
end
noncomputable def gtZ:IV->IV->Option Bool
 | .int a,.int b=>some (decide (a>b))
 | _,_=>none
noncomputable def Jhr (gt:IV->IV->Option Bool) (mk:IV->IH->Res IV) (i n:Nat):Nat->IV->IV->IH->Res IV
 | 0,b,_,h=>(match h[i]? with
  | some (.lst ys)=>if ys.length=n then .ok b h else .stuck
  | _=>.stuck)
 | r+1,b,kb,h=>(match h[i]? with
  | some (.lst ys)=>if ys.length=n then(match ys[n-(r+1)]? with
    | some y=>(mk y h).nx.bind λ k h'=>(match gt k kb with
     | some true=>Jhr gt mk i n r y k h'
     | some false=>Jhr gt mk i n r b kb h'
     | none=>.stuck)
    | none=>.stuck) else .stuck
  | _=>.stuck)
theorem FpOk.more {X:Cx}{pins:List (Addr×Obj)}{H:Hp}{b:Addr}{p:Addr×Obj}(F:FpOk X pins H b) (ne:p.1≠b):FpOk X (pins++[p]) H b:=by
 refine⟨F.1,F.2.1,F.2.2.1,F.2.2.2.1,F.2.2.2.2.1,λ q hq=>?_⟩
 rcases List.mem_append.mp hq with z|z
 ·exact F.2.2.2.2.2 q (List.mem_append_left _ z)
 ·rcases List.mem_append.mp z with z|z
  ·exact F.2.2.2.2.2 q (List.mem_append_right _ z)
  ·rw[List.mem_singleton.mp z]
   exact ne
theorem FpOk.at {X:Cx}{pins:List (Addr×Obj)}{H H':Hp}{b:Addr}(F:FpOk X pins H b) (n:H' b=none):FpOk X pins H' b:=⟨n,F.2⟩
theorem Jzr {xs:List V}{us:List Value}{i:Nat}{u:Value}(r:Vals xs us) (e:us[i]?=some u):∃x,xs[i]?=some x/\RelV x u:=by
 have hi:=(List.getElem?_eq_some_iff.mp e).1
 have hl:=r.length
 have hi2:i<xs.length:=by omega
 have hx:xs[i]?=some xs[i]:=List.getElem?_eq_getElem hi2
 obtain⟨u',e',q⟩:=r.get hx
 rw[e] at e'
 cases e'
 exact⟨_,hx,q⟩
section
variable {ce:Str->Option Addr}{X:Cx}
theorem Now.turned {pins:List (Addr×Obj)}{ι:List Addr}{σi:ISt}{h:IH}{σ:L2.St}{H:Hp}{s:Shared}{it:Addr}{h':Heap}{t':Nat}(N:Now ce X pins ι σi h σ H s) (F:FpOk X pins H it) (k:∀b o,b≠it->s.heap.get? b=some o->h'.get? b=some o) :
  Now ce X pins ι σi h σ H { s with heap:=h',toks:=t' }:=⟨N.inv.turned k F.1 F.2.1 F.2.2.2.1 F.2.2.2.2.1 F.2.2.2.2.2,N.rel,N.st⟩
theorem Now.keptH {pins:List (Addr×Obj)}{ι:List Addr}{σi:ISt}{h:IH}{σ:L2.St}{H:Hp}{s:Shared}{h':Heap}{t':Nat}(N:Now ce X pins ι σi h σ H s) (k:∀b o,s.heap.get? b=some o->h'.get? b=some o) :
  Now ce X pins ι σi h σ H { s with heap:=h',toks:=t' }:=⟨N.inv.kept k,N.rel,N.st⟩
noncomputable def CmpK (ce:Str->Option Addr) (X:Cx) (A:Around) (op:CmpOp) (gt:IV->IV->Option Bool):Prop :=
 ∀(pins:List (Addr×Obj)) (ι:List Addr) (σi:ISt) (h:IH) (σ:L2.St) (H:Hp) (s:Shared) (k kb:IV) (u ub:Value) (b:Bool) (Q:Value->Shared->Prop) (E:Value->Shared->Prop),Now ce X pins ι σi h σ H s->RU X.K ι H k u->RU X.K ι H kb ub->gt k kb=some b ->
  (∀h' t',(∀a o,s.heap.get? a=some o->h'.get? a=some o)->Q (.bool b) { s with heap:=h',toks:=t' })->wpAny (model X.prog X.w) A (richCompare op u ub) Q E s
noncomputable def J5m (ce:Str->Option Addr) (X:Cx) (A:Around) (σi:ISt) (σ:L2.St) (pins:List (Addr×Obj)) (G:Hp->Prop) (fv:Value) (mk:IV->IH->Res IV):Prop :=
 ∀(pl:List (Addr×Obj)) (s:Shared) (H:Hp) (ι:List Addr) (h:IH) (v:IV) (u:Value) (Q:Value->Shared->Prop),Now ce X (pins++pl) ι σi h σ H s->G H->RU X.K ι H v u->Kont ce X RU (pins++pl) ι σi σ H (mk v h).nx Q (λ _ _=>False) ->
  wpAny (model X.prog X.w) A (call fv [u]) Q (λ _ _=>False) s
theorem J2k {α γ:Type}{pins:List (Addr×Obj)}{ι:List Addr}{σi:ISt}{σ:L2.St}{H:Hp}{R:REL α Value}{R':REL γ Value}{r:Res α}{g:α->IH->Res γ}{Q:Value->Shared->Prop}{E:Value->Shared->Prop}{pl:List (Addr×Obj)}{Q1:Value->Shared->Prop}
  (K:Kont ce X R' pins ι σi σ H (r.nx.bind g) Q E)
  (step:∀x h1 u s1 H1 ι1,Now ce X (pins++pl) ι1 σi h1 σ H1 s1->Nxt ι H ι1 H1->R X.K ι1 H1 x u->Kont ce X R' pins ι1 σi σ H1 (g x h1) Q E->Q1 u s1):Kont ce X R (pins++pl) ι σi σ H r.nx Q1 (λ _ _=>False):=by
 cases r with
 | ok v h'=>exact λ u s' H' ι' N' n' q=>step v h' u s' H' ι' N' n' q (Kont.mono (r:=g v h') K n')
 | exc n h'=>exact Zf K
 | stuck=>exact Zf K
section
variable {A:Around}{R:Result->Shared->Prop}{Q:Value->Shared->Prop}{E:Value->Shared->Prop}{pins:List (Addr×Obj)}{σi:ISt}{σ:L2.St}{G:Hp->Prop}{fq:Addr}{mk:IV->IH->Res IV}{gt:IV->IV->Option Bool}{i n:Nat}{l I C:Addr}{kw:List (Str×Value)}
end
theorem Kont.more {α β:Type}{R:REL α β}{pins pl:List (Addr×Obj)}{ι:List Addr}{σi:ISt}{σ:L2.St}{H:Hp}{r:Res α}{Q:β->Shared->Prop}{E:Value->Shared->Prop}(K:Kont ce X R pins ι σi σ H r Q E):Kont ce X R (pins++pl) ι σi σ H r Q E:=by
 cases r with
 | ok v h'=>exact λ u s' H' ι' N n q=>K u s' H' ι' N.pins n q
 | exc m h'=>exact λ pl' a s' H' ι' N n q=>K (pl++pl') a s' H' ι' (by rw[<- List.append_assoc];exact N) n q
 | stuck=>exact K
theorem J02 {params:Arguments}{x:Str}{env:Env}(hx:Jl2 params=some x):defaultsOf params env=([],[]):=by
 unfold Jl2 at hx
 split at hx
 ·rfl
 ·cases hx
end
section
variable {ce:Str->Option Addr}{X:Cx}{C:Addr}{x c:Str}{np cpos pos:Pos}{e:Expr}{es:List Expr}{ma:A1}
end
section
variable {ce:Str->Option Addr}{X:Cx}{a C:Addr}{pins:List (Addr×Obj)}{σ:L2.St}{H:Hp}{s:Shared}{ι:List Addr}{σi:ISt}{h:IH}{n:Nat}{c:Str}{fs:List (Str×IV)}{tv:Value}
end
noncomputable def J4o (sl:Option Nat) (x:Option IV) (σ:ISt):ISt:=match sl with
 | some i=>σ.set i x
 | none=>σ
noncomputable def SRes.drop (sl:Option Nat) (r:SRes):SRes:=match r with
 | .next σ h=>.next (J4o sl none σ) h
 | .brk σ h=>.brk (J4o sl none σ) h
 | .cont σ h=>.cont (J4o sl none σ) h
 | .ret v h=>.ret v h
 | _=>.stuck
section
variable {ce:Str->Option Addr}{X:Cx}
noncomputable def slT:IV->Option Int->Option Int->IH->Res IV
 | .str x,lo,hi,h=>if x.length<=sizeLine then .ok (.str (Txt.slice x lo hi)) h else .stuck
 | x,lo,hi,h=>slI x lo hi h
theorem x_slT:SlI ce X slT:=by
 intro pins s σ H ι σi h x v vl vu lo hi sl Q E N rx hs pl pu K
 cases x with
 | str x =>
  obtain⟨xv,rx,qx⟩:=rx
  cases (show xv=.str x from qx)
  obtain⟨t,rfl⟩:=rx
  dsimp only[slT] at K
  split at K
  ·rename_i hz
   refine⟨"str",_,F.slot_str_getitem.lookup,typeIs_str _ _ _,?_⟩
   cases pl with
   | none =>
    cases pu with
    | none=>exact wpAny_getItem_str_slice (l:=none) (u:=none) (st:=none) hs rfl (post_val_or_str ⟨Nat.le_trans (Txt.slice_le x _ _) hz,λ t' k=>fin0 N K rfl _ _ (N.inv.tok _) ⟨_,rfl⟩⟩)
    | int j tj=>exact wpAny_getItem_str_slice (l:=none) (u:=some (j,tj)) (st:=none) hs rfl (post_val_or_str ⟨Nat.le_trans (Txt.slice_le x _ _) hz,λ t' k=>fin0 N K rfl _ _ (N.inv.tok _) ⟨_,rfl⟩⟩)
   | int i ti =>
    cases pu with
    | none=>exact wpAny_getItem_str_slice (l:=some (i,ti)) (u:=none) (st:=none) hs rfl (post_val_or_str ⟨Nat.le_trans (Txt.slice_le x _ _) hz,λ t' k=>fin0 N K rfl _ _ (N.inv.tok _) ⟨_,rfl⟩⟩)
    | int j tj=>exact wpAny_getItem_str_slice (l:=some (i,ti)) (u:=some (j,tj)) (st:=none) hs rfl (post_val_or_str ⟨Nat.le_trans (Txt.slice_le x _ _) hz,λ t' k=>fin0 N K rfl _ _ (N.inv.tok _) ⟨_,rfl⟩⟩)
  ·exact Zf K
 | _=>exact x_sl pins s σ H ι σi h _ v vl vu lo hi sl Q E N rx hs pl pu K
end
theorem Jxl (a:Value):argsOk "max" ⟨[a],[]⟩:=by unfold argsOk;kernel_rfl
section
variable {ce:Str->Option Addr}{X:Cx}
noncomputable def Jwo:IV->IH->Res IV
 | .ref i,h=>match h[i]? with
  | some (.lst xs)=>(match Ja8 xs with
   | some ns=>if ns=[] then .stuck else .ok (.int (Jc0 (λ i=>ns.getD i 0) ns.length)) h
   | none=>.stuck)
  | _=>.stuck
 | _,_=>.stuck
theorem J5q (hh:X.A.handled=none):Jfq ce X (.builtin "max") (on1 Jwo):=Jl7 λ pins s σ H ι σi h x xv u Q E N ru qx K=>by
 cases x with
 | ref i =>
  obtain⟨a,e1,ha⟩:=qx
  subst e1
  cases ru
  dsimp only[Jwo] at K
  cases hi:h[i]? with
  | none=>rw[hi] at K;exact Zf K
  | some ob =>
   rw[hi] at K
   cases ob with
   | lst xs =>
    dsimp only at K
    cases hb:Ja8 xs with
    | none=>rw[hb] at K;exact Zf K
    | some ns =>
     rw[hb] at K
     dsimp only at K
     split at K
     ·exact Zf K
     ·rename_i hne
      obtain⟨vs,e1,r1⟩:=N.at hi ha
      obtain⟨its,rv,pl,hz⟩:=N.inv.list (SqL.of e1)
      refine Jy2 (d:=none) rfl (Jxl _) (λ q=>absurd q hne) hh pl.isList (Jct hb r1 rv) λ v h2 tk mi kk=>?_
      rcases mi with⟨e,_⟩|⟨_,t,ev⟩
      ·exact absurd e hne
      ·subst ev
       exact fin0 N K rfl _ _ (N.inv.kept (t':=tk) kk) ⟨t,rfl⟩
   | _=>exact Zf K
 | _=>exact Zf K
noncomputable def Jwj:IV->IH->Res IV
 | .ref i,h=>match h[i]? with
  | some (.dct kvs)=>.ok (.int kvs.length) h
  | _=>.stuck
 | _,_=>.stuck
theorem J5o:Jfq ce X (.builtin "len") (on1 Jwj):=Jl7 λ pins s σ H ι σi h x xv u Q E N ru qx K=>by
 cases x with
 | ref i =>
  obtain⟨a,e1,ha⟩:=qx
  subst e1
  cases ru
  dsimp only[Jwj] at K
  cases hi:h[i]? with
  | none=>rw[hi] at K;exact Zf K
  | some ob =>
   rw[hi] at K
   cases ob with
   | dct kvs =>
    obtain⟨ws,e1,r1⟩:=N.at hi ha
    refine d_len N.inv (.of e1) λ t s' I'=>?_
    rw[r1.length]
    exact fin0 N K rfl _ _ I' ⟨_,rfl⟩
   | _=>exact Zf K
 | _=>exact Zf K
structure BasK (K:W.Frag) (C:Addr):Prop where
 sp:W.specialIn K (.ref C) "__getattribute__"=some (some (.builtin "type.__getattribute__"))
 rd:W.readsIn K C (.type "type")=true
 fc:∃fa,W.findIn K (.ref C) "__init__"=some (some (.ref fa))/\W.findCls K (.ref C) (.type "type") "__init__"=some (.val (.ref fa))/\W.keepIn K (.ref fa)=true
variable {k:Nat}{fa C:Addr}{fd:FuncData}{ps:List Str}{f:List IV->IH->Res IV}{dvs:List IV}{ds:List Value}{x:Str}{p pos apos:Pos}{e:Expr}{es:List Expr}{ma:A1}{pl:Sem Bool}
theorem J56 (F:FnOk X.prog X.w X.K X.mg X.base (CXI X.prog X.w) k fa fd ps (spI ce X.K ps f)) (hr:Room k X.A) (hg:Gl X x) (hm:X.mg x=some (.ref C)) (B:BasK X.K C) (M:Mk X.K C fa) (hb:Jhf X.K fd ps ds) (hd:∃vs,Vals vs ds/\∀ι H,RVs X.K ι H dvs vs)
  (ha:PAi ce X (e::es) ma) (hlen:∀σ h xs h',ma σ h=.ok xs h'->xs.length+ds.length=ps.length) (hdb:(x==("__debug__":Str))=false:=by decide) (he:starEach (e::es) X.env=(false,eval e X.env)::starEach es X.env:=by rfl) (hpl:(backTo pos (starEach es X.env)).any (·.1)=false:=by rfl)
  (ht:eval (.Call (.Attribute (.Name x p) "__init__" apos) (e::es) [] pos) X.env=(do
   let ov<-eval (.Name x p) X.env
   standAt apos.atName
   let (f,first)<-holding [ov] (getMethod ov "__init__" pl)
   callWith pos f first (backTo pos (starEach (e::es) X.env)) (backToKw pos (keywordEach [] X.env))):=by rfl) :
  PEi ce X (.Call (.Attribute (.Name x p) "__init__" apos) (e::es) [] pos) (Jn f dvs ma):=by
 intro pins s σ H ι σi h Q E N K
 obtain⟨fa',f1,f2,hk⟩:=B.fc
 have ef:fa'=fa:=by
  have:=f1.symm.trans M.init
  cases this
  rfl
 subst ef
 refine W.methodCall_KW (pl:=pl) (Jiy N.inv hg hm ?_ hdb) ht
 refine W.method_cls N.inv.kIn B.sp (W.cls_value N.inv.kIn B.rd f2 rfl ?_)
 have N':Now ce X pins ι σi h σ H { s with toks:=s.toks+1 }:=⟨N.inv.tok _,N.rel,N.st⟩
 refine W.callWith_K (h₀:=X.base) N.inv.ok.mod.kin hk ?_ he hpl
 have K':=K
 unfold Jn at K'
 refine ha pos pins _ σ H ι σi h _ E N' ?_
 cases e0:ma σi h with
 | exc n h'=>rw[e0] at K';exact K'
 | stuck=>rw[e0] at K';exact K'
 | ok xs h' =>
  rw[e0] at K'
  intro us s1 H1 ι1 N1 n1 r1
  have hl:xs.length=us.length:=by
   obtain⟨vs,rv,q⟩:=r1
   rw[<- rv.length,q.length]
  have hl2:=hlen σi h xs h' e0
  exact⟨N1.inv.kIn,Jn5 (us:=us) F hr hb hd (by omega) N1 r1 (Kont.mono (r:=f (xs++dvs) h') K' n1)⟩
end
section
variable {prog:Program}{w:World}{A:Around}{E:Value->Shared->Prop}{s:Shared}{x y:Str}{t u:Tok}{Q:Value->Shared->Prop}
open Builtin Builtin.Str in
end
noncomputable def onTT (f:Str->Str->IH->Res IV):IV->List IV->IH->Res IV
 | .str x,[.str y],h=>f x y h
 | _,_,_=>.stuck
section
variable {ce:Str->Option Addr}{X:Cx}
noncomputable def J0t:IV->IH->Res IV
 | .str x,h=>if x.length<=640 then(match PySem.intText? x with
  | some n=>.ok (.int n) h
  | none=>.stuck) else .stuck
 | v,h=>intI v h
theorem J5n:Jfq ce X (.type "int") (on1 J0t):=by
 intro pins s σ H ι σi h xs us Q E N rs K
 match xs,K with
 | [.str x],K =>
  obtain⟨vs,rv,qs⟩:=rs
  obtain⟨w,rfl,e⟩:=qs.one_of
  cases (show w=.str x from e)
  obtain⟨u,rfl,ru⟩:=Jmm rv
  obtain⟨t,rfl⟩:=ru
  have K:Kont ce X RU pins ι σi σ H (if x.length<=640 then(match PySem.intText? x with
   | some n=>.ok (.int n) h
   | none=>.stuck) else .stuck) Q E:=K
  split at K
  ·rename_i hz
   cases en:PySem.intText? x with
   | none=>rw[en] at K;exact Zf K
   | some n =>
    rw[en] at K
    exact W.KIN.call_text en hz (fin0 N K rfl _ _ (N.inv.tok _) ⟨_,rfl⟩)
  ·exact Zf K
 | [],K=>exact Jrq pins s σ H ι σi h [] us Q E N rs K
 | [.non],K=>exact Jrq pins s σ H ι σi h _ us Q E N rs K
 | [.bl _],K=>exact Jrq pins s σ H ι σi h _ us Q E N rs K
 | [.int _],K=>exact Jrq pins s σ H ι σi h _ us Q E N rs K
 | [.ref _],K=>exact Jrq pins s σ H ι σi h _ us Q E N rs K
 | [.tup _],K=>exact Jrq pins s σ H ι σi h _ us Q E N rs K
 | [.rol _],K=>exact Jrq pins s σ H ι σi h _ us Q E N rs K
 | y::z::r,K=>exact Jrq pins s σ H ι σi h (y::z::r) us Q E N rs K
end
section
variable {prog:Program}{w:World}{A:Around}{E:Value->Shared->Prop}{s:Shared}
end
section
variable {ce:Str->Option Addr}{X:Cx}
end
section
variable {ce:Str->Option Addr}{X:Cx}{pins:List (Addr×Obj)}{σ:L2.St}{H:Hp}{s:Shared}{ι:List Addr}{σi:ISt}{h:IH}{n:Nat}{c:Str}{fs:List (Str×IV)}{a:Addr}
end
section
variable {P:Program}{w:World}{K:W.Frag}{mg:Str->Option Value}{base:Heap}{ce:Str->Option Addr}
end
section
variable {ce:Str->Option Addr}{X:Cx}
end
section
variable {prog:Program}{w:World}{A:Around}{E:Value->Shared->Prop}{s:Shared}
end
noncomputable def likeI (h:IH) (x y:IV):Bool:=(match x,y with
 | .ref i,.ref j=>decide (i=j)
 | _,_=>false)||decide (Jiv x y h=some true)
noncomputable def J36 (h:IH):List IV->List IV->Bool
 | [],[]=>true
 | x::xs,y::ys=>likeI h x y&&J36 h xs ys
 | _,_=>false
noncomputable def neIn (K:W.Frag) (C:Addr):Bool:=match K.lookup C with
 | some ⟨.type "type",_,.cls cd,sl⟩=>(match cd.mro,sl.toList with
  | [.ref C',.type "object"],[_,_,_,_,some (.builtin _),_]=>C'==C&&!cd.hasDel&&W.nsOkIn K cd.ns&&W.nsIn K cd.ns "__eq__"==some none&&W.nsIn K cd.ns "__ne__"==some none
  | _,_=>false)
 | _=>false
theorem neIn.cmp {K:W.Frag}{C x dx:Addr}{h:Heap}(q:neIn K C=true) (I:K.In h) (hx:h.get? x=some (W.instObj C dx)):h.CmpInst x C [.type "object"]:=by
 unfold neIn at q
 split at q
 case h_2=>cases q
 rename_i dd cd sl ho
 split at q
 case h_2=>cases q
 rename_i D k0 k1 k2 k3 n k5 em es
 simp only[Bool.and_eq_true,beq_iff_eq,Bool.not_eq_true'] at q
 obtain⟨⟨⟨⟨e1,e3⟩,e5⟩,e6⟩,e7⟩:=q
 subst e1
 obtain⟨nm,bs,mro,N,qn,hd,sn,sub,ab,col,del⟩:=cd
 have em:mro=[.ref D,.type "object"]:=em
 have e3:del=false:=e3
 subst em e3
 have es:sl=#[k0,k1,k2,k3,some (.builtin n),k5]:=by
  rw[<- Array.toArray_toList (xs:=sl),es]
 subst es
 exact⟨_,nm,qn,N,bs,hd,sn,sub,ab,col,dd,k0,k1,k2,k3,k5,n,_,hx,rfl,I _ _ ho,.of_isNs (W.isNs_of_in I e5),W.nsMap_none_of_in I e5 e6,W.nsMap_none_of_in I e5 e7⟩
section
variable {ce:Str->Option Addr}{X:Cx}{pins:List (Addr×Obj)}{s:Shared}{σ:L2.St}{H:Hp}{ι:List Addr}{σi:ISt}{h:IH}
end
section
variable {ce:Str->Option Addr}{X:Cx}
end
section
variable {X:Cx}
end
section
variable {ce:Str->Option Addr}{X:Cx}
end
noncomputable def Jb2:Ty->Option Bool
 | .lst=>some true|.ins c=>if c=="Work" then some false else none|.exc _=>none|_=>some false
theorem Jwd {ce:Str->Option Addr}{K:W.Frag}(h:∀C,ce "Work"=some C->ClsI K C/\W.kitOne K (.ref C) (.type "list")=some false):IsOk ce K (.type "list") Jb2:=by
 have O:IsOk ce K (.type "list") Jch:=Jsf
 refine⟨O.non,O.bl,O.int,O.str,O.lst,O.tup,O.dct,λ k C b e hk=>?_,(λ k C b e=>by cases e)⟩
 unfold Jb2 at e
 dsimp only at e
 split at e
 ·rename_i q
  cases beq_iff_eq.mp q
  cases e
  exact h C hk
 ·cases e
section
variable {ce:Str->Option Addr}{X:Cx}{x:Expr}{m:E1}{pos:Pos}
end
section
variable {prog:Program}{w:World}{A:Around}{E:Value->Shared->Prop}{hp:Heap}{ge:Array GenState}{dr:Drawn}{tk:Nat}{ox:OsState}
variable {nm qn:Str}{C Na:Addr}{bs bm bmB:List Value}{hdct:Bool}{sn:List Str}{sub:List Value}{ab:Bool}{col:Option Bool}{dd:Option Addr}{k0 k1 k2 k3 k5:Option Value}{B Bn newId nid initId inN:String}{bmN:List Value}
end
section
variable {X:Cx}{pins:List (Addr×Obj)}{σ:L2.St}{H:Hp}{s:Shared}{k:Nat}{f C:Addr}{fd:FuncData}{ps:List Str}{sp:Sp}{dvs:List V}{ds:List Value}{E:XK}{Q:VK}{us:List Value}{vs:List V}{W:Value->Shared->Prop}
end
section
variable {ce:Str->Option Addr}{X:Cx}{k:Nat}{fa C:Addr}{fd:FuncData}{ps:List Str}{f:List IV->IH->Res IV}{dvs:List IV}{ds:List Value}{x c:Str}{p pos:Pos}{e:Expr}{es:List Expr}{ma:A1}
end
section
variable {X:Cx}{pins:List (Addr×Obj)}{σ:L2.St}{H:Hp}{s:Shared}{f C e:Addr}{tv:Value}{d:Option Addr}{us:List Value}
end
section
variable {ce:Str->Option Addr}{X:Cx}{D:Addr}{x:Str}{p pos apos:Pos}{e:Expr}{es:List Expr}{ma:A1}{pl:Sem Bool}
end
section
variable {prog:Program}{w:World}{A:Around}{K:W.Frag}{C x:Addr}{s:Shared}{R:Result->Shared->Prop}{ox:Obj}{name:Str}{v:Value}
end
section
variable {prog:Program}{w:World}{A:Around}{K:W.Frag}{C x:Addr}{s:Shared}{ox:Obj}{name:Str}{v:Value}
end
section
variable {ce:Str->Option Addr}{X:Cx}{o value:Expr}{mo mv:E1}{pos pos':Pos}{fl:Str}
end
end L3
namespace L3
open PySem PySem.Spec PySem.Calls PyProof.Rows L2
section
variable {prog:Program}{w:World}{A:Around}{E:Value->Shared->Prop}{s:Shared}{K:W.Frag}{x D:Addr}{ox od:Obj}{f:Str}{v:Value}
end
section
variable {ce:Str->Option Addr}{X:Cx}{o:Expr}{mo:E1}{pos:Pos}{fl:Str}
end
section
variable {ce:Str->Option Addr}{X:Cx}
end
end L3
namespace L3
open PySem PySem.Spec PyProof.Rows L2
section
variable {ce:Str->Option Addr}{X:Cx}
end
section
variable {α β γ δ:Type}{ce:Str->Option Addr}{X:Cx}{R:REL α β}{R':REL γ δ}{a:Addr}{n:Nat}
variable {b c:Expr}{pos:Pos}{rest:List Expr}{ta tb:T1}{mb:E1}
end
noncomputable def Jpy (gt:IV->IV->Option Bool) (mk:IV->IH->Res IV) (i:Nat) (h:IH):Res IV:=match h[i]? with
 | some (.lst ys)=>(match ys[0]? with
  | some y=>(mk y h).nx.bind λ k h'=>Jhr gt mk i ys.length (ys.length-1) y k h'
  | none=>.stuck)
 | _=>.stuck
theorem Jmt:(toString "min"++toString ".loop":String)="min.loop":=by decide
section
variable {ce:Str->Option Addr}{X:Cx}
section
variable {A:Around}{R:Result->Shared->Prop}{Q:Value->Shared->Prop}{E:Value->Shared->Prop}{pins:List (Addr×Obj)}{σi:ISt}{σ:L2.St}{G:Hp->Prop}{fq:Addr}{mk:IV->IH->Res IV}{gt:IV->IV->Option Bool}{i n:Nat}{l I C:Addr}{kw:List (Str×Value)}
theorem J1b (hh:A.handled=none) (cm:CmpK ce X A.in1 .Lt gt) (ko:J5m ce X A.in1 σi σ pins G (.ref fq) mk) (hG:∀H H',Ext H H'->G H->G H') (hR:∀v s',Q v s'->R (.ok (.ret v)) s') (hIC:I≠C) :
  ∀(r j:Nat) (z:Shared) (H:Hp) (ι:List Addr) (h:IH) (b kb:IV) (vb uk:Value) (c:Nat),n-j=r->0<j->j<=n->Now ce X pins ι σi h σ H z->G H->ι[i]?=some l->FpOk X pins H I->FpOk X pins H C->z.heap.IsListIter I l j ->
   z.heap.get? C=some (seqObj "list" #[vb,uk] c)->RU X.K ι H b vb->RU X.K ι H kb uk->Kont ce X RU pins ι σi σ H (Jhr gt mk i n r b kb h) Q E ->
   codeAny (model X.prog X.w) A (.builtin "min.loop" ⟨[.ref I,.ref fq,.ref C],kw⟩) R z:=by
 intro r
 induction r with
 | zero =>
  intro j z H ι h b kb vb uk c hr h0 hj N g hi fI fC st gC rb rk K
  obtain rfl:j=n:=by omega
  unfold Jhr at K
  cases eh:h[i]? with
  | none=>rw[eh] at K;exact Zf K
  | some ob =>
   rw[eh] at K
   cases ob with
   | lst ys =>
    dsimp only at K
    split at K
    ·rename_i hlen
     obtain⟨ws,e1,r3⟩:=N.at eh hi
     obtain⟨its,rv2,pl,_⟩:=N.inv.list (SqL.of e1)
     have ne:l≠I:=λ q=>by have:=fI.1;rw[<- q,e1] at this;cases this
     have sz:its.toArray.size=j:=by
      rw[List.size_toArray,<-rv2.length,r3.length,hlen]
     have W:=Walks.list (prog:=X.prog) (w:=X.w) (A:=A.in1) hh I l ne its.toArray
     refine codeAny_builtin PySem.F.entry_min_loop ?_
     rw[Around.under_plainId PySem.F.plain_min_loop _]
     show wpAny _ A.in1 (seqItems? (.ref C)>>=_) _ _ z
     refine wpAny_bind (wpAny_seqItems gC rfl ?_)
     show wpAny _ A.in1 (tryCatch (pyNext (.ref I)) _>>=_) _ _ z
     refine wpAny_bind (wpAny_tryCatch (W.done z _ _ ⟨by rw[sz];exact st,pl.isList⟩ λ h2 tk keep=>?_))
     have gC2:=keep C _ (λ q=>hIC (List.mem_singleton.mp q).symm) gC
     have N1:=N.turned (h':=h2) (t':=tk) fI λ b o hb e=>keep b o (λ q=>hb (List.mem_singleton.mp q)) e
     show wpAny _ A.in1 (updateSeq C (λ _=>#[])>>=_) _ _ _
     refine wpAny_bind ?_
     refine wpAny_updateSeq gC2 rfl (wpAny_bind (wpAny_letGo (wpAny_pure ?_)))
     have N2:=N1.turned (h':=h2.update C (Obj.mapSeq λ _=>#[])) (t':=tk) fC λ b o hb e=>(Heap.get?_update_other _ _ (Ne.symm hb)).trans e
     exact hR _ _ (K _ _ _ _ N2 .refl rb)
    ·exact Zf K
   | _=>exact Zf K
 | succ r ih =>
  intro j z H ι h b kb vb uk c hr h0 hj N g hi fI fC st gC rb rk K
  unfold Jhr at K
  cases eh:h[i]? with
  | none=>rw[eh] at K;exact Zf K
  | some ob =>
   rw[eh] at K
   cases ob with
   | lst ys =>
    dsimp only at K
    split at K
    ·rename_i hlen
     obtain⟨ws,e1,r3⟩:=N.at eh hi
     obtain⟨its,rv2,pl,_⟩:=N.inv.list (SqL.of e1)
     have ne:l≠I:=λ q=>by have:=fI.1;rw[<- q,e1] at this;cases this
     have sz:its.toArray.size=n:=by
      rw[List.size_toArray,<-rv2.length,r3.length,hlen]
     have ej:n-(r+1)=j:=by omega
     rw[ej] at K
     have W:=Walks.list (prog:=X.prog) (w:=X.w) (A:=A.in1) hh I l ne its.toArray
     refine codeAny_builtin PySem.F.entry_min_loop ?_
     rw[Around.under_plainId PySem.F.plain_min_loop _]
     show wpAny _ A.in1 (seqItems? (.ref C)>>=_) _ _ z
     refine wpAny_bind (wpAny_seqItems gC rfl ?_)
     show wpAny _ A.in1 (tryCatch (pyNext (.ref I)) _>>=_) _ _ z
     refine wpAny_bind (wpAny_tryCatch (W.item j z _ _ (by rw[sz];omega) ⟨st,pl.isList⟩ λ y h2 tk hP st2 keep=>?_))
     have ey:its[j]?=some y:=by simpa using hP
     obtain⟨x,ex,rx⟩:=Jzr rv2 ey
     obtain⟨yv,eyv,qy⟩:=r3.get' ex
     rw[eyv] at K
     dsimp only at K
     have gC2:=keep C _ (λ q=>hIC (List.mem_singleton.mp q).symm) gC
     have N1:=N.turned (h':=h2) (t':=tk) fI λ b o hb e=>keep b o (λ q=>hb (List.mem_singleton.mp q)) e
     obtain⟨oI,hoI,hoc,hod⟩:=id st2.1
     have N2:=(N1.pinO gC2 fC λ v z=>by cases z).pinO hoI (FpOk.more (p:=(C,seqObj "list" #[vb,uk] c)) fI (Ne.symm hIC)) λ v z=>by rw[hod] at z;cases z
     rw[List.append_assoc] at N2
     show wpAny _ A.in1 (tryCatch (holding [y] (call (.ref fq) [y])) _>>=_) _ _ _
     refine wpAny_bind (wpAny_tryCatch (wpAny_holding (nof (ko _ _ _ _ _ yv y _ N2 g ⟨x,rx,qy⟩ (J2k K λ k h3 u s3 H3 ι3 N3 n3 ru K3=>?_)))))
     have pC:=N3.inv.pin (C,seqObj "list" #[vb,uk] c) (List.mem_append_right _ (List.mem_append_right _ (by simp)))
     have pI:=N3.inv.pin (I,oI) (List.mem_append_right _ (List.mem_append_right _ (by simp)))
     have N4:=N3.pins
     have hi3:=n3.at hi
     have g3:=hG _ _ n3.ext g
     have fI3:=FpOk.at (H':=H3) fI pI.2.1
     have fC3:=FpOk.at (H':=H3) fC pC.2.1
     have it3:s3.heap.IsListIter I l (j+1):=⟨oI,pI.1,hoc,hod⟩
     have ry3:RU X.K ι3 H3 yv y:=RU.mono n3 ⟨x,rx,qy⟩
     cases eg:gt k kb with
     | none=>rw[eg] at K3;exact Zf K3
     | some bb =>
      show wpAny _ A.in1 (tryCatch (holding [y,u] (richCompare .Lt u uk>>=_)) _>>=_) _ _ _
      refine wpAny_bind (wpAny_tryCatch (wpAny_holding (wpAny_bind (cm _ _ _ _ _ _ _ k kb u uk bb _ _ N4 ru (rk.mono n3) eg λ h5 t5 k5=>?_))))
      refine wpAny_bind (wpAny_holding (wpAny_truthy_bool ?_))
      refine wpAny_bind (wpAny_letGo (wpAny_pure ?_))
      have N5:=N4.keptH (h':=h5) (t':=t5) k5
      have gC5:=k5 _ _ pC.1
      obtain⟨oI5,hoI5,hoc5,hod5⟩:=id it3
      have it5:h5.IsListIter I l (j+1):=⟨oI5,k5 _ _ hoI5,hoc5,hod5⟩
      rw[eg] at K3
      cases bb with
      | true =>
       simp only[if_true]
       refine wpAny_bind ?_
       refine wpAny_updateSeq gC5 rfl (wpAny_bind (wpAny_letGo ?_))
       rw[Jmt]
       have N6:=N5.turned (h':=h5.update C (Obj.mapSeq λ _=>#[y,u])) (t':=t5) fC3 λ b o hb e=>(Heap.get?_update_other _ _ (Ne.symm hb)).trans e
       obtain⟨c2,hc2⟩:∃c2,(h5.update C (Obj.mapSeq λ _=>#[y,u])).get? C=some (seqObj "list" #[y,u] c2):=⟨_,get?_update_seq gC5 λ _=>#[y,u]⟩
       refine wpAny_pure ⟨plainId_quiet PySem.F.plain_min_loop _,ih (j+1) _ H3 ι3 h3 yv k y u c2 (by omega) (by omega) (by omega) N6 g3 hi3 fI3 fC3 ?_ hc2 ry3 ru K3⟩
       exact⟨oI5,(Heap.get?_update_other _ _ (Ne.symm hIC)).trans (k5 _ _ hoI5),hoc5,hod5⟩
      | false =>
       simp only[Bool.false_eq_true,if_false]
       refine wpAny_bind (wpAny_letGo ?_)
       rw[Jmt]
       exact wpAny_pure ⟨plainId_quiet PySem.F.plain_min_loop _,ih (j+1) _ H3 ι3 h3 b kb vb uk c (by omega) (by omega) (by omega) N5 g3 hi3 fI3 fC3 it5 gC5 (rb.mono n3) (rk.mono n3) K3⟩
    ·exact Zf K
   | _=>exact Zf K
theorem J1a {z:Shared}{H:Hp}{ι:List Addr}{h:IH}(hh:A.handled=none) (cm:CmpK ce X A.in1 .Lt gt) (ko:J5m ce X A.in1 σi σ pins G (.ref fq) mk) (hG:∀H H',Ext H H'->G H->G H') (N:Now ce X pins ι σi h σ H z) (g:G H) (hi:ι[i]?=some l)
  (K:Kont ce X RU pins ι σi σ H (Jpy gt mk i h) Q E):wpAny (model X.prog X.w) A (call (.builtin "min") [.ref l] [(Str.ofString "key",.ref fq)]) Q E z:=by
 unfold Jpy at K
 cases eh:h[i]? with
 | none=>rw[eh] at K;exact Zf K
 | some ob =>
  rw[eh] at K
  cases ob with
  | lst ys =>
   dsimp only at K
   obtain⟨ws,e1,r3⟩:=N.at eh hi
   obtain⟨its,rv2,pl,_⟩:=N.inv.list (SqL.of e1)
   have hl:=pl.isList
   obtain⟨ol,hol,_⟩:=id hl
   have lt:l<z.heap.objs.size:=Heap.lt_size hol
   have sz:its.toArray.size=ys.length:=by rw[List.size_toArray,<-rv2.length,r3.length]
   refine kmk_tree PySem.F.kind_min PySem.F.plain_min PySem.F.entry_min (kmk_min_key _ _) ?_
   show wpAny _ A.in1 (Builtin.Builtins.bindParams "min" ["key","default"] 0 ⟨[],[(Str.ofString "key",.ref fq)]⟩>>=_) _ _ z
   refine wpAny_bind (wpAny_of_eq (show Builtin.Builtins.bindParams "min" ["key","default"] 0 ⟨[],[(Str.ofString "key",.ref fq)]⟩=pure [some (.ref fq),none] from rfl) ?_)
   refine wpAny_bind (wpAny_pure ?_)
   refine wpAny_bind (wpAny_pyIter_list hl ?_)
   refine wpAny_bind (wpAny_newList ?_ (Nat.zero_le _))
   rw[Jmt]
   have ne:l≠z.heap.objs.size:=Nat.ne_of_lt lt
   have W:=Walks.list (prog:=X.prog) (w:=X.w) (A:=A.in1) hh z.heap.objs.size l ne its.toArray
   have hS:(z.heap.push { cls:=.type "list_iterator",data:=.fields #[.ref l,.int 0 0] }).objs.size=z.heap.objs.size+1:=size_push' ..
   obtain⟨C,hC⟩:∃C,C=(z.heap.push { cls:=.type "list_iterator",data:=.fields #[.ref l,.int 0 0] }).objs.size:=⟨_,rfl⟩
   have hIC:z.heap.objs.size≠C:=by rw[hC,hS];exact Nat.ne_of_lt (Nat.lt_succ_self _)
   have old:∀b o,z.heap.get? b=some o->((z.heap.push { cls:=.type "list_iterator",data:=.fields #[.ref l,.int 0 0] }).push (seqObj "list" #[] 0)).get? b=some o:=λ b o e=>Heap.get?_push_of_some _ (Heap.get?_push_of_some _ e)
   have gI:((z.heap.push { cls:=.type "list_iterator",data:=.fields #[.ref l,.int 0 0] }).push (seqObj "list" #[] 0)).get? z.heap.objs.size=some { cls:=.type "list_iterator",data:=.fields #[.ref l,.int 0 0] }:=Heap.get?_push_of_some _ (Heap.get?_push_size _ rfl)
   have gC:((z.heap.push { cls:=.type "list_iterator",data:=.fields #[.ref l,.int 0 0] }).push (seqObj "list" #[] 0)).get? C=some (seqObj "list" #[] 0):=by rw[hC];exact Heap.get?_push_size _ rfl
   rw[<- hC]
   have fI:FpOk X pins H z.heap.objs.size:=N.inv.fpOk (Nat.le_refl _) (N.inv.hok.fresh (Nat.le_refl _))
   have fC:FpOk X pins H C:=N.inv.fpOk (by rw[hC,hS];exact Nat.le_succ _) (N.inv.hok.fresh (by rw[hC,hS];exact Nat.le_succ _))
   have N0:=N.keptH (t':=z.toks) old
   refine wpAny_pure ⟨plainId_quiet PySem.F.plain_min_loop _,codeAny_builtin PySem.F.entry_min_loop ?_⟩
   rw[Around.under_plainId PySem.F.plain_min_loop _]
   show wpAny _ A.in1 (seqItems? (.ref _)>>=_) _ _ _
   refine wpAny_bind (wpAny_seqItems gC rfl ?_)
   show wpAny _ A.in1 (tryCatch (pyNext (.ref z.heap.objs.size)) _>>=_) _ _ _
   cases e0:ys[0]? with
   | none=>rw[e0] at K;exact Zf K
   | some yv =>
    have h0:0<ys.length:=(List.getElem?_eq_some_iff.mp e0).1
    rw[e0] at K
    dsimp only at K
    refine wpAny_bind (wpAny_tryCatch (W.item 0 _ _ _ (by rw[sz];exact h0) ⟨⟨_,gI,rfl,rfl⟩,(hl.push _).push _⟩ λ y h2 tk hP st2 keep=>?_))
    have ey:its[0]?=some y:=by simpa using hP
    obtain⟨x,ex,rx⟩:=Jzr rv2 ey
    obtain⟨yv',eyv,qy⟩:=r3.get' ex
    rw[e0] at eyv
    cases eyv
    have gC2:=keep C _ (λ q=>hIC (List.mem_singleton.mp q).symm) gC
    have N1:=N0.turned (h':=h2) (t':=tk) fI λ b o hb e=>keep b o (λ q=>hb (List.mem_singleton.mp q)) e
    obtain⟨oI,hoI,hoc,hod⟩:=id st2.1
    have N2:=(N1.pinO gC2 fC λ v z=>by cases z).pinO hoI (FpOk.more (p:=(C,seqObj "list" #[] 0)) fI (Ne.symm hIC)) λ v z=>by rw[hod] at z;cases z
    rw[List.append_assoc] at N2
    show wpAny _ A.in1 (tryCatch (holding [y] (call (.ref fq) [y])) _>>=_) _ _ _
    refine wpAny_bind (wpAny_tryCatch (wpAny_holding (nof (ko _ _ _ _ _ yv y _ N2 g ⟨x,rx,qy⟩ (J2k K λ k h3 u s3 H3 ι3 N3 n3 ru K3=>?_)))))
    have pC:=N3.inv.pin (C,seqObj "list" #[] 0) (List.mem_append_right _ (List.mem_append_right _ (by simp)))
    have pI:=N3.inv.pin (z.heap.objs.size,oI) (List.mem_append_right _ (List.mem_append_right _ (by simp)))
    have N4:=N3.pins
    have fI3:=FpOk.at (H':=H3) fI pI.2.1
    have fC3:=FpOk.at (H':=H3) fC pC.2.1
    have ry3:RU X.K ι3 H3 yv y:=RU.mono n3 ⟨x,rx,qy⟩
    show wpAny _ A.in1 (updateSeq C (λ _=>#[y,u])>>=_) _ _ _
    refine wpAny_bind ?_
    refine wpAny_updateSeq pC.1 rfl ?_
    rw[Jmt]
    have N6:=N4.turned (h':=s3.heap.update C (Obj.mapSeq λ _=>#[y,u])) (t':=s3.toks) fC3 λ b o hb e=>(Heap.get?_update_other _ _ (Ne.symm hb)).trans e
    obtain⟨c2,hc2⟩:∃c2,(s3.heap.update C (Obj.mapSeq λ _=>#[y,u])).get? C=some (seqObj "list" #[y,u] c2):=⟨_,get?_update_seq pC.1 λ _=>#[y,u]⟩
    refine wpAny_pure ⟨plainId_quiet PySem.F.plain_min_loop _,J1b hh cm ko hG (λ v s' q=>q) hIC (ys.length-1) 1 _ H3 ι3 h3 yv k y u c2 rfl (by omega) (by omega) N6 (hG _ _ n3.ext g) (n3.at hi) fI3 fC3 ?_ hc2 ry3 ru K3⟩
    exact⟨oI,(Heap.get?_update_other _ _ (Ne.symm hIC)).trans pI.1,hoc,hod⟩
  | _=>exact Zf K
end
noncomputable def Jv2 (gt:IV->IV->Option Bool) (q:Str) (j:Nat) (js:List Nat) (aa:A1) (m:E1):E1:=λ σ h=>(aa σ h).bind λ xs h1=>match h1[j]? with
 | some (.tab q')=>if q'=q then(match xs with
  | [.ref i]=>Jpy gt (λ v h'=>m (some v::js.map λ j=>(σ[j]?).join) h') i h1
  | _=>.stuck) else .stuck
 | _=>.stuck
theorem J6e {k:Nat}{q x:Str}{caps:List Str}{js:List Nat}{j:Nat}{a body:Expr}{aa:A1}{m:E1}{lt:IV->IV->Option Bool}{params:Arguments}{scope:Scope}{p lp pos kp:Pos}(hg:Gl X "min") (hm:X.mg "min"=none) (ha:PAi ce X [a] aa) (cm:∀A:Around,A.units+64<cLine->CmpK ce X A .Lt lt) (hs:starEach [a] X.env=[(false,eval a X.env)])
  (hr:Room (k+2) X.A) (hcd:W.codeIn X.K X.env.code q=true) (hq:X.env.qual=q++".<locals>.") (B:Jmx X.mg X.base) (hx:Jl2 params=some x) (S:LamSc X.N X.env.scope.names x caps js scope)
  (hb:∀f cd s' H',PEi ce (cxL X X.A.in1 (x::caps) q scope f cd s' H') body m) :
  PEi ce X (.Call (.Name "min" p) [a] [⟨some "key",.Lambda params body scope lp,kp⟩] pos) (Jv2 lt q j js aa m):=λ pins s σ H ι σi h Q E N K=>by
 have hcl:closureFor scope X.env=pure (clOf X.env.cells scope.names []):=Jka λ y hm hk=>N.inv.ok.has y.1 (.inl (S.free y hm hk))
 refine wpAny_Call_Name_kw (Jhs N.inv hg hm rfl ?_)
 refine callWith_kw ?_ (by rw[hs];rfl) (by rw[hs];rfl) rfl rfl
 refine(ha pos).run N K λ xs h1 us s1 H1 ι1 N1 n1 r1 K1=>?_
 cases ej:h1[j]? with
 | none=>rw[ej] at K1;exact Zf K1
 | some ob =>
  rw[ej] at K1
  cases ob with
  | tab q' =>
   dsimp only at K1
   split at K1
   ·rename_i eq
    subst eq
    refine PyProof.Rows.evalAll_cons (wpAny_bind (J03 N1 ej hcd hq (J02 hx) hcl B λ f c pm ctv s2 H2 N2 n2 LC=>wpAny_bind (wpAny_standAt (wpAny_pure ?_))))
    refine PyProof.Rows.evalAll_nil ?_
    have K3:=Kont.more (pl:=[(f,lamO q' params body scope (clOf X.env.cells scope.names []) pm ctv c)]) (Kont.mono K1 n2)
    obtain⟨vs,rv,qs⟩:=r1.mono n2
    match xs,K3 with
    | [.ref i],K3 =>
     obtain⟨w,rfl,ad,rfl,hav⟩:=qs.one_of
     obtain⟨u,rfl,ru⟩:=Jmm rv
     cases ru
     refine J1a (G:=λ H=>Jc6 H q' (.ref c)) (mk:=λ v h'=>m (some v::js.map λ j=>(σi[j]?).join) h') hr.hd (cm _ hr.in1.units) ?_ (λ H H' e g=>g.mono e.frzs) N2 LC hav ?_
     ·intro pl s4 H4 ι4 h4 v u Q4 N4 g4 ru4 K4
      have pf:=N4.inv.pin (f,lamO q' params body scope (clOf X.env.cells scope.names []) pm ctv c) (List.mem_append_right _ (List.mem_append_left _ (List.mem_append_right _ (List.mem_singleton.mpr rfl))))
      exact J33 (A:=X.A.in1) N.inv.ok.frames hr.in1 N4 pf.1 g4 hx S (hb f (.ref c)) ru4 K4
     ·exact K3
    | [],K3=>exact Zf K3
    | [.non],K3=>exact Zf K3
    | [.bl _],K3=>exact Zf K3
    | [.int _],K3=>exact Zf K3
    | [.str _],K3=>exact Zf K3
    | [.tup _],K3=>exact Zf K3
    | [.rol _],K3=>exact Zf K3
    | x::_::_,K3=>cases x<;>exact Zf K3
   ·exact Zf K1
  | _=>exact Zf K1
end
noncomputable def ltL:List Int->List Int->Bool
 | a::as,b::bs=>if a=b then ltL as bs else decide (a<b)
 | _,_=>false
noncomputable abbrev ivl (l:List (Int×Tok)):List Value:=l.map λ p=>.int p.1 p.2
section
open PySem.AutoSeq1 (wpAny_loadPart')
open PySem.MeetsSeq PySem.MeetsSeq2 PySem.MeetsSeq3 PySem.SeqRoads2
theorem Jp1 (l b:Addr) (as bs:List (Int×Tok)) (hl:as.length=bs.length) (n n2:Nat) (dd dd2:Option Addr) (sl sl2:Array (Option Value)) :
  Meets (Builtin.«tuple.__lt__» ⟨[.ref l,.ref b],[]⟩)
   (λ A R s=>s.heap.get? l=some { cls:=.type "tuple",dict:=dd,data:=.seq (ivl as).toArray n,slots:=sl }/\s.heap.get? b=some { cls:=.type "tuple",dict:=dd2,data:=.seq (ivl bs).toArray n2,slots:=sl2 } /\
    R (.ok (.ret (.bool (ltL (as.map (·.1)) (bs.map (·.1)))))) s) :=
 .of_wp λ prog w A R s h=>by
  obtain⟨hp,g,d,tk,os⟩:=s;obtain⟨ho,hb,h⟩:=h
  have f2:=AutoSeq1.sub_tuple_tuple
  wp_walk using wpAny_loadPart' ho,wpAny_loadPart' hb,wpAny_forIn_list _ (λ rest b s'=>b.1=none/\s'=⟨hp,g,d,tk,os⟩/\∃xs ys:List (Int×Tok),xs.length=ys.length/\rest=(ivl xs).zip (ivl ys) /\
   R (.ok (.ret (.bool (ltL (xs.map (·.1)) (ys.map (·.1)))))) ⟨hp,g,d,tk,os⟩) _
  case turn =>
   rintro⟨y,x⟩ rest b s' ⟨hb',rfl,xs,ys,ll,hz,hR⟩
   match xs,ys,ll,hz,hR with
   | p::xs,q::ys,ll,hz,hR =>
    injection hz with hyx hrest
    have hy:Value.int p.1 p.2=y:=(congrArg Prod.fst hyx).symm
    have hx:Value.int q.1 q.2=x:=(congrArg Prod.snd hyx).symm
    subst hy hx
    refine wpAny_bind (wpAny_eqBool_int ?_)
    by_cases e:p.1=q.1
    ·rw[beq_iff_eq.mpr e]
     wp_walk
     exact⟨rfl,rfl,xs,ys,by simpa using ll,hrest,by simpa [ltL,e] using hR⟩
    ·rw[beq_eq_false_iff_ne.mpr e]
     have cmp:=CmpOf.ints_lt (prog:=prog) (w:=w) (A:=A.in1) (P:=λ i v=>∃t,v=.int (if i=0 then p.1 else q.1) t) (λ i=>if i=0 then p.1 else q.1) (λ _ _ q=>q)
     have hc:∀(Q:Value->Shared->Prop) (E:Value->Shared->Prop) (s:Shared),Q (.bool (decide (p.1<q.1))) s->wpAny (model prog w) A.in1 (richCompare .Lt (.int p.1 p.2) (.int q.1 q.2)) Q E s:=λ Q E s h=>by
      have:=cmp 0 1 (.int p.1 p.2) (.int q.1 q.2) s Q E ⟨p.2,by simp⟩ ⟨q.2,by simp⟩
      simp only[if_true,show ¬(1:Nat)=0 by decide,if_false] at this
      exact this h
     show wpAny _ A.in1 (rule _>>=λ _=>richCompare .Lt (.int p.1 p.2) (.int q.1 q.2)>>=λ v=>ret v>>=λ f=>pure (ForInStep.done (some f,()))) _ _ _
     refine wpAny_bind (wpAny_rule (wpAny_bind (hc _ _ _ (wpAny_bind (wpAny_pure (wpAny_pure (wpAny_pure ⟨_,rfl,?_⟩)))))))
     simpa [ltL,e] using hR
   | [],ys,ll,hz,hR=>cases hz
   | _::_,[],ll,hz,hR=>cases hz
  case fin =>
   rintro⟨b1,b2⟩ s' ⟨hb',rfl,xs,ys,ll,hz,hR⟩
   simp only at hb'
   subst hb'
   match xs,ys,ll,hz,hR with
   | [],[],_,_,hR =>
    wp_walk
    exact⟨_,rfl,by simpa [Builtin.Tuple.tupleCompareSizes,hl,ltL] using hR⟩
   | _::_,_::_,_,hz,_=>cases hz
  case h =>
   exact⟨rfl,rfl,as,bs,hl,by simp,h⟩
end
theorem Jgp:∀{us:List Value}{ns:List Int},IntsAre us ns->∃l:List (Int×Tok),us=ivl l/\l.map (·.1)=ns
 | [],[],_=>⟨[],rfl,rfl⟩
 | [],_::_,h=>by cases h
 | _::_,[],h=>by cases h
 | u::us,n::ns,h=>by
  cases h
  rename_i t r
  obtain⟨l,e1,e2⟩:=Jgp r
  exact⟨(n,t)::l,by rw[e1];rfl,by rw[<- e2];rfl⟩
noncomputable def ltT:IV->IV->Option Bool
 | .tup xs,.tup ys=>(match Ja8 xs,Ja8 ys with
  | some as,some bs=>if as.length=bs.length then some (ltL as bs) else none
  | _,_=>none)
 | _,_=>none
section
variable {ce:Str->Option Addr}{X:Cx}
theorem J3e {A:Around}(hu:A.units<cLine):CmpK ce X A .Lt ltT:=λ pins ι σi h σ H s k kb u ub b Q E N r rb e q=>by
 cases k with
 | tup xs =>
  cases kb with
  | tup ys =>
   obtain⟨x,rx,a,vs,rfl,sa,ra⟩:=r
   obtain⟨y,ry,c,ws,rfl,sc,rc⟩:=rb
   have ru:u=.ref a:=rx
   have rub:ub=.ref c:=ry
   subst ru rub
   unfold ltT at e
   dsimp only at e
   cases e1:Ja8 xs with
   | none=>rw[e1] at e;cases e
   | some as =>
    cases e2:Ja8 ys with
    | none=>rw[e1,e2] at e;cases e
    | some bs =>
     rw[e1,e2] at e
     dsimp only at e
     split at e
     ·rename_i hl
      cases e
      obtain⟨its,v1,⟨⟨cls,dd,data,sl⟩,ho,hc,n,hd⟩,_⟩:=N.inv.tuple sa
      obtain⟨jts,v2,⟨⟨cls2,dd2,data2,sl2⟩,ho2,hc2,n2,hd2⟩,_⟩:=N.inv.tuple sc
      simp only at hc hd hc2 hd2
      subst hc hd hc2 hd2
      obtain⟨l,rfl,rfl⟩:=Jgp (Jct e1 ra v1)
      obtain⟨m,rfl,rfl⟩:=Jgp (Jct e2 rc v2)
      exact richCompare_meets_room (op:=.Lt) ⟨_,ho,rfl⟩ ⟨_,ho2,rfl⟩ PySem.F.slot_tuple_lt PySem.F.entry_tuple_lt (PySem.F.args_tuple_lt_2 _ _) (Jp1 a c l m (by simpa using hl) n n2 dd dd2 sl sl2)
       ⟨ho,ho2,show Value.bool (ltL (l.map (·.1)) (m.map (·.1)))≠Value.notImplemented/\Q (.bool (ltL (l.map (·.1)) (m.map (·.1)))) s from⟨(λ x=>nomatch x),q s.heap s.toks λ _ _ e=>e⟩⟩ hu
     ·cases e
  | _=>cases e
 | _=>cases e
end
theorem J39 {prog:Program}{w:World}{A:Around}{s:Shared}{a c:Addr}{l m:List (Int×Tok)}{Q:Value->Shared->Prop}{E:Value->Shared->Prop}(hu:A.units<cLine) (ha:IsTup s.heap a (ivl l).toArray) (hc:IsTup s.heap c (ivl m).toArray) (hl:l.length=m.length)
  (q:Q (.bool (ltL (l.map (·.1)) (m.map (·.1)))) s):wpAny (model prog w) A (richCompare .Lt (.ref a) (.ref c)) Q E s:=by
 obtain⟨⟨cls,dd,data,sl⟩,ho,hc1,n,hd⟩:=ha
 obtain⟨⟨cls2,dd2,data2,sl2⟩,ho2,hc2,n2,hd2⟩:=hc
 simp only at hc1 hd hc2 hd2
 subst hc1 hd hc2 hd2
 exact richCompare_meets_room (op:=.Lt) ⟨_,ho,rfl⟩ ⟨_,ho2,rfl⟩ PySem.F.slot_tuple_lt PySem.F.entry_tuple_lt (PySem.F.args_tuple_lt_2 _ _) (Jp1 a c l m hl n n2 dd dd2 sl sl2)
  ⟨ho,ho2,show Value.bool (ltL (l.map (·.1)) (m.map (·.1)))≠Value.notImplemented/\Q (.bool (ltL (l.map (·.1)) (m.map (·.1)))) s from⟨(λ x=>nomatch x),q⟩⟩ hu
noncomputable def botT (f:Nat->List Int):Nat->Nat
 | 0=>0
 | 1=>0
 | j+2=>if ltL (f (j+1)) (f (botT f (j+1))) then j+1 else botT f (j+1)
theorem Jro (f:Nat->List Int){j:Nat}(hj:0<j):botT f (j+1)=if ltL (f j) (f (botT f j)) then j else botT f j:=by
 cases j with
 | zero=>omega
 | succ j=>rfl
theorem Jt0 (f:Nat->List Int):∀{j:Nat},0<j->botT f j<j
 | 1,_=>Nat.lt_succ_self _
 | j+2,_=>by
  have:=Jt0 f (j:=j+1) (Nat.succ_pos _)
  show(if ltL (f (j+1)) (f (botT f (j+1))) then j+1 else botT f (j+1))<j+2
  split<;>omega
noncomputable def Jpq (h:Heap) (wrs:List Addr) (C:Addr) (k:Nat) (v:Value) (ns:List Int):Prop:=∃a l,v=.ref a/\a∉wrs/\a≠C/\IsTup h a (ivl l).toArray/\l.map (·.1)=ns/\l.length=k
theorem Jpq.keeps {h h':Heap}{wrs:List Addr}{C:Addr}{k:Nat}{v:Value}{ns:List Int}(t:Jpq h wrs C k v ns) (q:∀a o,a∉wrs->a≠C->h.get? a=some o->h'.get? a=some o):Jpq h' wrs C k v ns:=by
 obtain⟨a,l,e,n1,n2,⟨o,ho,r⟩,e2,e3⟩:=t
 exact⟨a,l,e,n1,n2,⟨o,q a o n1 n2 ho,r⟩,e2,e3⟩
section
variable {pr:Program}{wd:World}{B:Around}{R:Result->Shared->Prop}{it:Addr}{fps wrs:List Addr}{n:Nat}{St:Nat->Heap->Prop}
theorem J1d {kw:List (Str×Value)}{us:List Value}{k:Nat}(hu:B.in1.units<cLine) (W:Walks pr wd B.in1 it fps wrs n (λ i v=>us.toArray[i]?=some v) St) (hn:us.length=n) (f:Nat->List Int) (C:Addr) (hC:C∉fps) :
  ∀(r j:Nat) (z:Shared) (c:Nat),n-j=r->0<j->j<=n->St j z.heap->z.heap.get? C=some (Jy7 (us.getD (botT f j) .none) c)->(∀i,i<n->Jpq z.heap wrs C k (us.getD i .none) (f i)) ->
   (∀h2 tk,(∀a o,a∉wrs->a≠C->z.heap.get? a=some o->h2.get? a=some o)->R (.ok (.ret (us.getD (botT f n) .none))) { z with heap:=h2,toks:=tk }) ->
   codeAny (model pr wd) B (.builtin "min.loop" ⟨[.ref it,.none,.ref C],kw⟩) R z:=by
 have hw:C∉wrs:=λ q=>hC (W.sub _ q)
 intro r
 induction r with
 | zero =>
  intro j z c hr h0 hj st gC T fin
  obtain rfl:j=n:=by omega
  refine codeAny_builtin PySem.F.entry_min_loop ?_
  rw[Around.under_plainId PySem.F.plain_min_loop _]
  show wpAny _ B.in1 (seqItems? (.ref C)>>=_) _ _ z
  refine wpAny_bind (wpAny_seqItems gC rfl ?_)
  show wpAny _ B.in1 (tryCatch (pyNext (.ref it)) _>>=_) _ _ z
  refine wpAny_bind (wpAny_tryCatch (W.done z _ _ st λ h2 tk keep=>?_))
  have gC2:=keep C _ hw gC
  show wpAny _ B.in1 (updateSeq C (λ _=>#[])>>=_) _ _ _
  refine wpAny_bind ?_
  refine wpAny_updateSeq gC2 rfl (wpAny_bind (wpAny_letGo (wpAny_pure ?_)))
  exact fin _ tk λ a o ha hb e=>(Heap.get?_update_other _ _ (Ne.symm hb)).trans (keep a o ha e)
 | succ r ih =>
  intro j z c hr h0 hj st gC T fin
  have lt:j<n:=by omega
  have lb:=Jt0 f h0
  refine codeAny_builtin PySem.F.entry_min_loop ?_
  rw[Around.under_plainId PySem.F.plain_min_loop _]
  show wpAny _ B.in1 (seqItems? (.ref C)>>=_) _ _ z
  refine wpAny_bind (wpAny_seqItems gC rfl ?_)
  show wpAny _ B.in1 (tryCatch (pyNext (.ref it)) _>>=_) _ _ z
  refine wpAny_bind (wpAny_tryCatch (W.item j z _ _ lt st λ y h2 tk hP st2 keep=>?_))
  have ey:y=us.getD j .none:=by
   have hP:us[j]?=some y:=by simpa using hP
   rw[List.getD_eq_getElem?_getD,hP]
   rfl
  have T2:=λ i hi=>(T i hi).keeps (h':=h2) λ a o n1 _ e=>keep a o n1 e
  obtain⟨a1,l1,e1,_,_,t1,f1,k1⟩:=T2 j lt
  obtain⟨a2,l2,e2,_,_,t2,f2,k2⟩:=T2 (botT f j) (by omega)
  have gC2:=keep C _ hw gC
  rw[ey,e1]
  rw[e2] at gC2
  show wpAny _ B.in1 (tryCatch (holding [Value.ref a1,Value.ref a1] (richCompare .Lt (.ref a1) (us.getD (botT f j) .none)>>=_)) _>>=_) _ _ _
  rw[e2]
  refine wpAny_bind (wpAny_tryCatch (wpAny_holding (wpAny_bind (J39 hu t1 t2 (by omega) ?_))))
  rw[f1,f2]
  refine wpAny_bind (wpAny_holding (wpAny_truthy_bool ?_))
  refine wpAny_bind (wpAny_letGo (wpAny_pure ?_))
  have step:=Jro f h0
  cases hb:ltL (f j) (f (botT f j)) with
  | true =>
   rw[hb,if_pos rfl] at step
   simp only[if_true]
   refine wpAny_bind ?_
   refine wpAny_updateSeq gC2 rfl (wpAny_bind (wpAny_letGo ?_))
   rw[Jgu]
   refine wpAny_pure ⟨plainId_quiet PySem.F.plain_min_loop _,ih (j+1) _ _ (by omega) (by omega) lt (W.frame _ _ _ st2 λ a ha o e=>?_) (by rw[step,e1];exact Heap.get?_update_self _ gC2 rfl) (λ i hi=>(T2 i hi).keeps λ a o _ n2 e=>(Heap.get?_update_other _ _ (Ne.symm n2)).trans e) λ h3 tk3 k3=>?_⟩
   ·exact(Heap.get?_update_other _ _ (λ q:C=a=>hC (by rw[q];exact ha))).trans e
   ·exact fin h3 tk3 λ a o ha hc e=>k3 a o ha hc ((Heap.get?_update_other _ _ (Ne.symm hc)).trans (keep a o ha e))
  | false =>
   rw[hb,if_neg Bool.false_ne_true] at step
   simp only[Bool.false_eq_true,if_false]
   refine wpAny_bind (wpAny_letGo ?_)
   rw[Jgu]
   refine wpAny_pure ⟨plainId_quiet PySem.F.plain_min_loop _,ih (j+1) _ c (by omega) (by omega) lt st2 (by rw[step,e2];exact gC2) T2 λ h3 tk3 k3=>?_⟩
   exact fin h3 tk3 λ a o ha hc e=>k3 a o ha hc (keep a o ha e)
end
section
variable {pr:Program}{wd:World}{B:Around}{E:Value->Shared->Prop}{z:Shared}{l:Addr}{us:List Value}{k:Nat}{f:Nat->List Int}{Q:Value->Shared->Prop}
theorem J1c (hh:B.handled=none) (hu:B.in1.units<cLine) (hl:z.heap.IsList l us.toArray) (hi:∀i,i<us.length->Jpq z.heap [] z.heap.objs.size k (us.getD i .none) (f i)) (hne:us≠[])
  (hQ:∀h2 tk,(∀b o,z.heap.get? b=some o->h2.get? b=some o)->Q (us.getD (botT f us.length) .none) { z with heap:=h2,toks:=tk }) :
  wpAny (model pr wd) B (call (.builtin "min") [.ref l]) Q E z:=by
 obtain⟨ol,hol,_⟩:=id hl
 have lt:l<z.heap.objs.size:=Heap.lt_size hol
 refine kmk_tree PySem.F.kind_min PySem.F.plain_min PySem.F.entry_min (Jrg _) ?_
 show wpAny _ B.in1 (Builtin.Builtins.bindParams "min" ["key","default"] 0 ⟨[],[]⟩>>=_) _ _ z
 refine wpAny_bind (wpAny_of_eq (show Builtin.Builtins.bindParams "min" ["key","default"] 0 ⟨[],[]⟩=pure [none,none] from rfl) ?_)
 refine wpAny_bind (wpAny_pure ?_)
 refine wpAny_bind (wpAny_pyIter_list hl ?_)
 refine wpAny_bind (wpAny_newList ?_ (Nat.zero_le _))
 rw[Jgu]
 have ne:l≠z.heap.objs.size:=Nat.ne_of_lt lt
 have W:=Walks.list (prog:=pr) (w:=wd) (A:=B.in1) hh z.heap.objs.size l ne us.toArray
 have sz:us.toArray.size=us.length:=List.size_toArray ..
 have hS:(z.heap.push { cls:=.type "list_iterator",data:=.fields #[.ref l,.int 0 0] }).objs.size=z.heap.objs.size+1:=size_push' ..
 have hC:(z.heap.push { cls:=.type "list_iterator",data:=.fields #[.ref l,.int 0 0] }).objs.size∉[z.heap.objs.size,l]:=by
  rw[hS]
  simp only[List.mem_cons,List.not_mem_nil,or_false,not_or]
  exact⟨Nat.ne_of_gt (Nat.lt_succ_self _),Nat.ne_of_gt (Nat.lt_succ_of_lt lt)⟩
 have hw:(z.heap.push { cls:=.type "list_iterator",data:=.fields #[.ref l,.int 0 0] }).objs.size∉[z.heap.objs.size]:=by
  rw[hS]
  simp only[List.mem_cons,List.not_mem_nil,or_false]
  exact Nat.ne_of_gt (Nat.lt_succ_self _)
 have old:∀b o,z.heap.get? b=some o->((z.heap.push { cls:=.type "list_iterator",data:=.fields #[.ref l,.int 0 0] }).push (seqObj "list" #[] 0)).get? b=some o:=λ b o e=>Heap.get?_push_of_some _ (Heap.get?_push_of_some _ e)
 have gI:((z.heap.push { cls:=.type "list_iterator",data:=.fields #[.ref l,.int 0 0] }).push (seqObj "list" #[] 0)).get? z.heap.objs.size=some { cls:=.type "list_iterator",data:=.fields #[.ref l,.int 0 0] }:=Heap.get?_push_of_some _ (Heap.get?_push_size _ rfl)
 have gC:((z.heap.push { cls:=.type "list_iterator",data:=.fields #[.ref l,.int 0 0] }).push (seqObj "list" #[] 0)).get? (z.heap.push { cls:=.type "list_iterator",data:=.fields #[.ref l,.int 0 0] }).objs.size=some (seqObj "list" #[] 0):=Heap.get?_push_size _ rfl
 have notin:∀b o,z.heap.get? b=some o->b∉[z.heap.objs.size]:=λ b o e q=>Nat.ne_of_lt (Heap.lt_size e) (List.mem_singleton.mp q)
 have notC:∀b o,z.heap.get? b=some o->b≠(z.heap.push { cls:=.type "list_iterator",data:=.fields #[.ref l,.int 0 0] }).objs.size:=λ b o e=>by rw[hS];exact Nat.ne_of_lt (Nat.lt_succ_of_lt (Heap.lt_size e))
 refine wpAny_pure ⟨plainId_quiet PySem.F.plain_min_loop _,codeAny_builtin PySem.F.entry_min_loop ?_⟩
 rw[Around.under_plainId PySem.F.plain_min_loop _]
 show wpAny _ B.in1 (seqItems? (.ref _)>>=_) _ _ _
 refine wpAny_bind (wpAny_seqItems gC rfl ?_)
 show wpAny _ B.in1 (tryCatch (pyNext (.ref z.heap.objs.size)) _>>=_) _ _ _
 have h0:¬us.length=0:=λ q=>hne (List.eq_nil_of_length_eq_zero q)
 ·refine wpAny_bind (wpAny_tryCatch (W.item 0 _ _ _ (by rw[sz];omega) ⟨⟨_,gI,rfl,rfl⟩,(hl.push _).push _⟩ λ y h2 tk hP st2 keep=>?_))
  have gC2:=keep _ _ hw gC
  show wpAny _ B.in1 (updateSeq (z.heap.push { cls:=.type "list_iterator",data:=.fields #[.ref l,.int 0 0] }).objs.size (λ _=>#[y,y])>>=_) _ _ _
  refine wpAny_bind ?_
  refine wpAny_updateSeq gC2 rfl ?_
  rw[Jgu]
  have ey:y=us.getD 0 .none:=by
   have hP:us[0]?=some y:=by simpa using hP
   rw[List.getD_eq_getElem?_getD,hP]
   rfl
  subst ey
  refine wpAny_pure ⟨plainId_quiet PySem.F.plain_min_loop _,J1d (k:=k) hu W sz.symm f _ hC _ 1 _ _ rfl (by decide) (by rw[sz];omega) (W.frame _ _ _ st2 λ a ha o e=>?_) (Heap.get?_update_self _ gC2 rfl) (λ i hi'=>?_) λ h3 tk3 k3=>?_⟩
  ·exact(Heap.get?_update_other _ _ (λ q=>hC (by rw[q];exact ha))).trans e
  ·obtain⟨a,l',e,_,_,⟨o,ho,r⟩,e2,e3⟩:=hi i (by rw[<- sz];exact hi')
   exact⟨a,l',e,notin a o ho,notC a o ho,⟨o,(Heap.get?_update_other _ _ (Ne.symm (notC a o ho))).trans (keep a o (notin a o ho) (old a o ho)),r⟩,e2,e3⟩
  ·rw[sz]
   exact hQ h3 tk3 λ b o e=>k3 b o (notin b o e) (notC b o e) ((Heap.get?_update_other _ _ (Ne.symm (notC b o e))).trans (keep b o (notin b o e) (old b o e)))
end
noncomputable def tupZ (k:Nat):IV->Option (List Int)
 | .tup xs=>(match Ja8 xs with
  | some ns=>if ns.length=k then some ns else none
  | none=>none)
 | _=>none
noncomputable def Jq9 (k:Nat) (xs:List IV):Option (List (List Int)):=xs.mapM (tupZ k)
noncomputable def wide:List IV->Nat
 | .tup xs::_=>xs.length
 | _=>0
noncomputable def Jui:IV->IH->Res IV
 | .ref i,h=>match h[i]? with
  | some (.lst xs)=>(match Ja8 xs with
   | some ns=>if ns=[] then .stuck else .ok (.int (Jgc (λ i=>ns.getD i 0) ns.length)) h
   | none=>(match Jq9 (wide xs) xs with
    | some ts=>(match xs[botT (λ i=>ts.getD i []) xs.length]? with
     | some x=>.ok x h
     | none=>.stuck)
    | none=>.stuck))
  | _=>.stuck
 | _,_=>.stuck
theorem Juf {k:Nat}:∀{xs:List IV}{ts:List (List Int)}{i:Nat}{x:IV},Jq9 k xs=some ts->xs[i]?=some x->tupZ k x=some (ts.getD i [])
 | [],_,_,_,_,e=>by simp at e
 | y::xs,ts,i,x,e,ex=>by
  unfold Jq9 at e
  rw[List.mapM_cons] at e
  cases e1:tupZ k y with
  | none=>rw[e1] at e;cases e
  | some t =>
   rw[e1] at e
   cases e2:xs.mapM (tupZ k) with
   | none=>rw[e2] at e;cases e
   | some r =>
    rw[e2] at e
    have e:some (t::r)=some ts:=e
    cases e
    cases i with
    | zero =>
     have:y=x:=by simpa using ex
     subst this
     exact e1
    | succ i=>exact Juf (ts:=r) (show Jq9 k xs=some r from e2) (by simpa using ex)
section
variable {ce:Str->Option Addr}{X:Cx}
theorem J3a (hh:X.A.handled=none) (hu:X.A.in1.units<cLine):Jfq ce X (.builtin "min") (on1 Jui):=Jl7 λ pins s σ H ι σi h x xv u Q E N ru qx K=>by
 cases x with
 | ref i =>
  obtain⟨a,e1,ha⟩:=qx
  subst e1
  cases ru
  dsimp only[Jui] at K
  cases hi:h[i]? with
  | none=>rw[hi] at K;exact Zf K
  | some ob =>
   rw[hi] at K
   cases ob with
   | lst xs =>
    dsimp only at K
    obtain⟨vs,e1,r1⟩:=N.at hi ha
    obtain⟨its,rv,pl,hz⟩:=N.inv.list (SqL.of e1)
    cases hb:Ja8 xs with
    | some ns =>
     rw[hb] at K
     dsimp only at K
     split at K
     ·exact Zf K
     ·rename_i hne
      refine Jy1 hh pl.isList (Jct hb r1 rv) hne λ v h2 tk ⟨t,ev⟩ kk=>?_
      subst ev
      exact fin0 N K rfl _ _ (N.inv.kept (t':=tk) kk) ⟨t,rfl⟩
    | none =>
     rw[hb] at K
     dsimp only at K
     cases ht:Jq9 (wide xs) xs with
     | none=>rw[ht] at K;exact Zf K
     | some ts =>
      rw[ht] at K
      dsimp only at K
      have l1:=r1.length
      have l2:=rv.length
      cases hm:xs[botT (λ i=>ts.getD i []) xs.length]? with
      | none=>rw[hm] at K;exact Zf K
      | some x =>
       rw[hm] at K
       obtain⟨w,ew,qw⟩:=r1.get hm
       obtain⟨uw,euw,rw'⟩:=rv.get ew
       have hne:its≠[]:=λ z=>by rw[z] at euw;simp at euw
       refine J1c (k:=wide xs) (f:=λ i=>ts.getD i []) hh hu pl.isList (λ j hj=>?_) hne λ h2 tk kk=>?_
       ·obtain⟨y,ey⟩:∃y,xs[j]?=some y:=⟨_,List.getElem?_eq_getElem (by omega)⟩
        obtain⟨v,ev,qv⟩:=r1.get ey
        obtain⟨uv,euv,rv'⟩:=rv.get ev
        have ez:=Juf ht ey
        rw[List.getD_eq_getElem?_getD,euv]
        show Jpq _ _ _ _ uv _
        cases y with
        | tup ys =>
         obtain⟨b,ws,rfl,sb,rb⟩:=qv
         have rv':uv=.ref b:=rv'
         subst rv'
         unfold tupZ at ez
         dsimp only at ez
         cases en:Ja8 ys with
         | none=>rw[en] at ez;cases ez
         | some ns =>
          rw[en] at ez
          dsimp only at ez
          split at ez
          ·rename_i hl
           obtain⟨jts,v1,tp,_⟩:=N.inv.tuple sb
           obtain⟨l,rfl,el⟩:=Jgp (Jct en rb v1)
           obtain⟨o,ho,r⟩:=id tp
           refine⟨b,l,rfl,by simp,Nat.ne_of_lt (Heap.lt_size ho),tp,el.trans (Option.some.inj ez),?_⟩
           rw[<- hl,<-el,List.length_map]
          ·cases ez
        | _=>cases ez
       ·have eu:its.getD (botT (λ i=>ts.getD i []) its.length) .none=uw:=by
         rw[show its.length=xs.length by omega,List.getD_eq_getElem?_getD,euw]
         rfl
        rw[eu]
        exact fin0 N K qw _ _ (N.inv.kept (t':=tk) kk) rw'
   | _=>exact Zf K
 | _=>exact Zf K
end
end L3
namespace L3
open PySem PySem.Spec PyProof.Rows L2 PySem.W
noncomputable def kRun {α:Type}(lt:Nat->Nat->Bool):KasT α->α
 | .ret a=>a
 | .ask i j k=>kRun lt (k (lt i j))
noncomputable def Asks {α:Type}(n:Nat) (P:α->Prop):KasT α->Prop
 | .ret a=>P a
 | .ask i j k=>i<n/\j<n/\∀b,Asks n P (k b)
theorem Asks.mono {α:Type}{n:Nat}{P P':α->Prop}(f:∀a,P a->P' a):∀{t:KasT α},Asks n P t->Asks n P' t
 | .ret _,h=>f _ h
 | .ask _ _ _,⟨h1,h2,h3⟩=>⟨h1,h2,λ b=>Asks.mono f (h3 b)⟩
theorem Asks.bind {α β:Type}{n:Nat}{P:α->Prop}{P':β->Prop}{f:α->KasT β}(hf:∀a,P a->Asks n P' (f a)):∀{t:KasT α},Asks n P t->Asks n P' (t.bind f)
 | .ret _,h=>hf _ h
 | .ask _ _ _,⟨h1,h2,h3⟩=>⟨h1,h2,λ b=>Asks.bind hf (h3 b)⟩
theorem Asks.run {α:Type}{n:Nat}{P:α->Prop}{lt:Nat->Nat->Bool}:∀{t:KasT α},Asks n P t->P (kRun lt t)
 | .ret _,h=>h
 | .ask i j k,⟨_,_,h⟩=>Asks.run (t:=k (lt i j)) (h (lt i j))
theorem Asks.wp {α:Type}{n:Nat}{P:α->Prop}{lt:Nat->Nat->Bool}{cmp:Nat->Nat->(Bool->Shared->Prop)->Shared->Prop}{Q:α->Shared->Prop}{s:Shared}(hc:∀i j,i<n->j<n->∀C:Bool->Shared->Prop,C (lt i j) s->cmp i j C s) :
  ∀{t:KasT α},Asks n P t->Q (kRun lt t) s->t.kasWp cmp Q s
 | .ret _,_,q=>q
 | .ask i j k,⟨h1,h2,h3⟩,q=>hc i j h1 h2 _ (Asks.wp (t:=k (lt i j)) hc (h3 (lt i j)) q)
noncomputable def Bd (n:Nat) (p:Array Nat):Prop:=0<n/\p.toList.Perm (List.range n)
theorem Bd.at {n:Nat}{p:Array Nat}(h:Bd n p) (i:Nat):p.getD i 0<n:=by
 by_cases hi:i<p.size
 ·rw[Array.getD_eq_getD_getElem?,Array.getElem?_eq_getElem hi]
  have:p[i]∈p.toList:=by simp
  exact List.mem_range.mp (h.2.mem_iff.mp this)
 ·rw[Array.getD_eq_getD_getElem?,Array.getElem?_eq_none (by omega)]
  exact h.1
theorem Jqc {n:Nat}{p:Array Nat}(h:Bd n p):∀f m,Asks n (λ _=>True) (kas_asc p f m)
 | 0,_=>trivial
 | f+1,m=>⟨h.at _,h.at _,λ b=>by
   dsimp only
   split
   ·trivial
   ·exact Jqc h f _⟩
theorem Jky {n:Nat}{p:Array Nat}(h:Bd n p) (k:Nat):∀f l r,Asks n (λ _=>True) (kas_place p k f l r)
 | 0,_,_=>trivial
 | f+1,l,r=>by
  unfold kas_place
  split
  ·trivial
  ·exact⟨h.at _,h.at _,λ b=>by
    dsimp only
    split
    ·exact Jky h k f _ _
    ·exact Jky h k f _ _⟩
theorem Bd.perm {n:Nat}{p q:Array Nat}(h:Bd n p) (r:q.Perm p):Bd n q:=⟨h.1,(Array.perm_iff_toList_perm.mp r).trans h.2⟩
theorem Bd.rev {n:Nat}{p:Array Nat}(h:Bd n p) (i j:Nat):Bd n (kas_rev p i j):=h.perm (mirror_perm _ _ _ _)
theorem Ji8 {n:Nat}:∀f (p:Array Nat) m q,Bd n p->Asks n (λ r=>Bd n r.1) (kas_desc f p m q)
 | 0,_,_,_,h=>h
 | f+1,p,m,q,h=>⟨h.at _,h.at _,λ b=>by
   dsimp only
   split
   ·split
    ·exact Ji8 f _ _ _ (h.rev _ _)
    ·exact Ji8 f _ _ _ h
   ·exact⟨h.at _,h.at _,λ d=>by
     dsimp only
     split
     ·exact h
     ·exact Ji8 f _ _ _ h⟩⟩
theorem Jpt {n:Nat}{p:Array Nat}(h:Bd n p) (m r:Nat):Asks n (λ r=>Bd n r.2) (kas_tail3 m r p):=by
 unfold kas_tail3
 refine Asks.bind (P:=λ _=>True) (λ x _=>?_) (Jqc (h.rev _ _) _ _)
 exact h.rev _ _
theorem Ji9 {n:Nat}{p:Array Nat}(h:Bd n p) (m r:Nat):Asks n (λ r=>Bd n r.2) (kas_descPart m r p) :=
 Asks.bind (λ x hx=>by
  split
  ·exact Jpt (hx.rev _ _) _ _
  ·exact Jpt hx _ _) (Ji8 _ _ _ _ h)
theorem Jvz {n:Nat}{p:Array Nat}(h:Bd n p) (r:Nat):Asks n (λ r=>Bd n r.2) (kas_count r p) :=
 Asks.bind (λ m _=>by
  split
  ·exact h
  ·split
   ·exact⟨h.at _,h.at _,λ b=>by
     dsimp only
     split
     ·exact h
     ·exact Ji9 (h.rev _ _) _ _⟩
   ·exact Ji9 h _ _) (Jqc h _ _)
theorem Ju2 {n:Nat}:∀f (p:Array Nat) k,Bd n p->Asks n (Bd n) (kas_bin f p k)
 | 0,_,_,h=>h
 | f+1,p,k,h=>Asks.bind (λ l _=>Ju2 f _ _ (h.perm (bubble_perm _ _ _))) (Jky h k _ _ _)
theorem Jmz {n:Nat}(hn:0<n):Asks n (Bd n) (kas_sort n) :=
 Asks.bind (λ r hr=>by
  split
  ·exact Ju2 _ _ _ hr
  ·exact hr) (Jvz ⟨hn,List.Perm.refl _⟩ n)
section
variable {prog:Program}{w:World}{A:Around}{E:Value->Shared->Prop}{s:Shared}{b:Bool}{Q:Bool->Shared->Prop}
theorem Jvd:∀{l m:List (Int×Tok)}{i:Nat},l.length=m.length->Q (ltL (l.map (·.1)) (m.map (·.1))) s->KatLex prog w A b false Q ((ivl l).zip (ivl m)) i s
 | [],[],_,_,q=>kat_nil q
 | [],_::_,_,h,_=>by cases h
 | _::_,[],_,h,_=>by cases h
 | p::l,q::m,i,h,hq=>by
  refine kat_cons (p:=.int p.1 p.2) (q:=.int q.1 q.2) (wpAny_eqBool_int ?_)
  by_cases e:p.1=q.1
  ·rw[beq_iff_eq.mpr e]
   exact kat_yes (Jvd (by simpa using h) (by simpa [ltL,e] using hq))
  ·rw[beq_eq_false_iff_ne.mpr e]
   have hq:Q (decide (p.1<q.1)) s:=by simpa [ltL,e] using hq
   refine kat_no ?_
   cases (b&&i==0) with
   | true=>exact oneLt_int hq
   | false =>
    have cmp:=CmpOf.ints_lt (prog:=prog) (w:=w) (A:=A) (P:=λ i v=>∃t,v=.int (if i=0 then p.1 else q.1) t) (λ i=>if i=0 then p.1 else q.1) (λ _ _ q=>q)
    have c2:∀QQ:Value->Shared->Prop,QQ (.bool (decide (p.1<q.1))) s->wpAny (model prog w) A (richCompare .Lt (.int p.1 p.2) (.int q.1 q.2)) QQ (λ _ _=>False) s:=λ QQ h=>by
     have:=cmp 0 1 (.int p.1 p.2) (.int q.1 q.2) s QQ (λ _ _=>False) ⟨p.2,by simp⟩ ⟨q.2,by simp⟩
     simp only[if_true,show ¬(1:Nat)=0 by decide,if_false] at this
     exact this h
    exact kat_one _ _ (c2 _ hq)
end
noncomputable def Jpr (h:Heap) (k:Nat) (vs:List Value) (ts:List (List Int)):Prop:=∀i,i<vs.length->∃a l,vs.getD i .none=.ref a/\IsTup h a (ivl l).toArray/\l.map (·.1)=ts.getD i []/\l.length=k
noncomputable abbrev ltAt (ts:List (List Int)) (i j:Nat):Bool:=ltL (ts.getD i []) (ts.getD j [])
theorem Jpr.katTups {h:Heap}{k:Nat}(hk:0<k):∀{vs:List Value},(∀v∈vs,∃a l,v=.ref a/\IsTup h a (ivl l).toArray/\l.length=k)->∃fs,KatTups h vs fs/\fs.length=vs.length/\∀f∈fs,∃n t,f=.int n t
 | [],_=>⟨[],.nil,rfl,λ f hf=>by cases hf⟩
 | v::vs,q=>by
  obtain⟨a,l,rfl,⟨o,ho,hc,n,hd⟩,lk⟩:=q v (List.mem_cons_self ..)
  obtain⟨fs,t,lf,hf⟩:=Jpr.katTups hk (vs:=vs) λ v hv=>q v (List.mem_cons_of_mem _ hv)
  cases l with
  | nil=>simp at lk;omega
  | cons p l =>
   refine⟨.int p.1 p.2::fs,KatTups.cons ho hc hd rfl t,by rw[List.length_cons,List.length_cons,lf],λ f hf'=>?_⟩
   rcases List.mem_cons.mp hf' with rfl|hf'
   ·exact⟨_,_,rfl⟩
   ·exact hf f hf'
theorem Jvn {lt:Nat->Nat->Bool}(vs:List Value) (h:vs.length<2):(kRun lt (kas_sort vs.length)).toList.map (λ i=>vs.getD i Value.none)=vs:=by
 match vs,h with
 | [],_=>simp[kas_sort,kas_count,kas_asc,KasT.bind,kas_descPart,kas_desc,kas_tail3,kRun,kas_rev,mirror,Array.swapIfInBounds]
 | [v],_ =>
  have:=(Jmz (n:=1) (by decide)).run (lt:=lt)
  have e:(kRun lt (kas_sort 1)).toList=[0]:=List.perm_singleton.mp this.2
  show(kRun lt (kas_sort 1)).toList.map _=_
  rw[e]
  rfl
 | _::_::_,h=>simp at h;omega
section
variable {prog:Program}{w:World}{A:Around}{E:Value->Shared->Prop}{s:Shared}
theorem Jow {a:Addr}{vs:List Value}{ts:List (List Int)}{n k:Nat}{P:PySem.Fin->Shared->Prop}(ho:s.heap.get? a=some (seqObj "list" vs.toArray n)) (hk:0<k) (T:Jpr s.heap k vs ts) (h64:vs.length<64)
  (h:P (.done (.ret .none)) { s with heap:=sortedHeap s.heap a vs (List.toArray ((kRun (ltAt ts) (kas_sort vs.length)).toList.map λ i=>vs.getD i Value.none)) }) :
  wpAny (model prog w) A (Builtin.«list.sort» ⟨[.ref a],[]⟩) P E s:=by
 rw[list_sort_plain]
 have ha:a<s.heap.objs.size:=Heap.lt_size ho
 refine wpAny_bind (listItems_at ho rfl ?_)
 refine wpAny_bind (listUpdate_at ho rfl ?_ (by rw[List.size_toArray,sizeLine_eq];omega) (Nat.zero_le _))
 obtain⟨e1,ho1⟩:∃e1,(s.heap.update a (Obj.mapSeq λ _=>#[])).get? a=some (seqObj "list" #[] e1):=⟨_,get?_update_seq ho (λ _=>#[])⟩
 refine wpAny_bind (seqEpoch_at ho1 rfl ?_)
 refine wpAny_bind (wpAny_newTuple ?_ (by show vs.length<=_;rw[sizeLine_eq];omega))
 refine wpAny_bind (wpAny_newList ?_ (Nat.zero_le _))
 refine wpAny_holding ?_
 have keep:∀c o,c≠a->s.heap.get? c=some o->(((s.heap.update a (Obj.mapSeq λ _=>#[])).push (seqObj "tuple" vs.toArray 0)).push (seqObj "list" #[] 0)).get? c=some o:=λ c o nc e=>Heap.get?_push_of_some _ (Heap.get?_push_of_some _ ((Heap.get?_update_other _ _ (Ne.symm nc)).trans e))
 have ho6:(((s.heap.update a (Obj.mapSeq λ _=>#[])).push (seqObj "tuple" vs.toArray 0)).push (seqObj "list" #[] 0)).get? a=some (seqObj "list" #[] e1):=Heap.get?_push_of_some _ (Heap.get?_push_of_some _ ho1)
 have T6:Jpr (((s.heap.update a (Obj.mapSeq λ _=>#[])).push (seqObj "tuple" vs.toArray 0)).push (seqObj "list" #[] 0)) k vs ts:=λ i hi=>by
  obtain⟨c,l,e,⟨o,hc,r⟩,q1,q2⟩:=T i hi
  refine⟨c,l,e,⟨o,keep c o (λ z=>?_) hc,r⟩,q1,q2⟩
  subst z
  rw[ho] at hc
  cases hc
  have z:Value.type "list"=Value.type "tuple":=r.1
  injection z with z
  exact absurd z (by decide)
 show wpAny (model prog w) A _ P E { s with heap:=((s.heap.update a (Obj.mapSeq λ _=>#[])).push (seqObj "tuple" vs.toArray 0)).push (seqObj "list" #[] 0) }
 have fin:P (.done (.ret .none)) { s with heap:=(((s.heap.update a (Obj.mapSeq λ _=>#[])).push (seqObj "tuple" vs.toArray 0)).push (seqObj "list" #[] 0)).update a (Obj.mapSeq λ _=>List.toArray ((kRun (ltAt ts) (kas_sort vs.length)).toList.map λ i=>vs.getD i Value.none)) }:=h
 clear h
 generalize ((s.heap.update a (Obj.mapSeq λ _=>#[])).push (seqObj "tuple" vs.toArray 0)).push (seqObj "list" #[] 0)=h6 at ho6 T6 fin
 dsimp only
 by_cases hn2:vs.toArray.size<2
 ·rw[if_pos hn2,if_pos hn2]
  refine wpAny_bind (wpAny_pure ?_)
  rw[StateT.run_pure]
  refine wpAny_bind (wpAny_pure ?_)
  dsimp only
  refine wpAny_bind (seqEpoch_at ho6 rfl ?_)
  have out:(arrOf (SortSt.mk' general' (vs.toArray.zip vs.toArray) #[] 7 none)).map (·.2)=List.toArray ((kRun (ltAt ts) (kas_sort vs.length)).toList.map λ i=>vs.getD i Value.none):=by
   have hL:(arrOf (SortSt.mk' general' (vs.toArray.zip vs.toArray) #[] 7 none)).map (·.2)=vs.toArray:=by
    apply Array.toList_inj.mp
    show((pairsOf vs).map (·.2)).toList=_
    rw[Array.toList_map,pairsOf_toList]
    exact List.map_snd_zip (Nat.le_refl _)
   rw[hL,Jvn vs (by simpa using hn2)]
  rw[out]
  refine wpAny_bind (listUpdate_at ho6 rfl ?_ (Nat.zero_le _) (by rw[<- out,Array.size_map];show(pairsOf vs).size<=_;rw[pairsOf_size,sizeLine_eq];omega))
  simp only[bne_self_eq_false,Bool.false_eq_true,if_false]
  exact wpAny_pure fin
 have h2:2<=vs.length:=by rw[List.size_toArray] at hn2;omega
 rw[if_neg hn2,if_neg hn2]
 obtain⟨fs,kt,lf,hf⟩:=Jpr.katTups (h:=h6) hk (vs:=vs) λ v hv=>by
  obtain⟨i,hi,rfl⟩:=List.mem_iff_getElem.mp hv
  obtain⟨c,l,e,t,_,q2⟩:=T6 i hi
  exact⟨c,l,by rw[<- e,List.getD_eq_getElem?_getD,List.getElem?_eq_getElem hi];rfl,t,q2⟩
 refine wpAny_bind (kat_kind (s:={ s with heap:=h6 }) (T:=.type "int") kt (by omega) (λ v hv=>?_) (by decide) ?_)
 ·obtain⟨m,t,rfl⟩:=hf v hv
  exact .now
 have sp:=Jmz (n:=vs.length) (by omega)
 refine wpAny_bind (wpAny_mono (kat_run (ks:=vs) (vs:=vs) (Q:=λ st' s'=>s'={ s with heap:=h6 }/\failedOf st'=none/\arrOf st'=(kRun (ltAt ts) (kas_sort vs.length)).map (kas_item (vs.toArray.zip vs.toArray))/\(kRun (ltAt ts) (kas_sort vs.length)).size=vs.length) (G:=λ p s'=>s'={ s with heap:=h6 }/\p=kRun (ltAt ts) (kas_sort vs.length)) rfl h2 h64
  (λ p st' s' a1 a2 a3 a4=>⟨a4.1,a3,a4.2▸a2,a4.2▸a1⟩) (Asks.wp (n:=vs.length) (lt:=ltAt ts) (λ i j hi hj C hC=>?_) sp ⟨rfl,rfl⟩)) ?_ λ _ _ e=>e)
 ·obtain⟨c1,l1,e1,⟨o1,g1,_,n1,d1⟩,f1,k1⟩:=T6 i hi
  obtain⟨c2,l2,e2,⟨o2,g2,_,n2,d2⟩,f2,k2⟩:=T6 j hj
  unfold kas_ask
  rw[e1,e2]
  refine kat_lt (s:={ s with heap:=h6 }) g1 d1 g2 d2 ?_
  rw[show decide ((ivl l1).toArray.size<(ivl l2).toArray.size)=false by simp;omega]
  refine Jvd (by omega) ?_
  rw[f1,f2]
  exact hC
 rintro⟨⟨⟩,st'⟩ s' ⟨rfl,hfl,har,hsz⟩
 dsimp only
 have hout:=kat_snds (ks:=vs) (vs:=vs) rfl har
 refine wpAny_bind (seqEpoch_at ho6 rfl ?_)
 rw[hout]
 refine wpAny_bind (listUpdate_at ho6 rfl ?_ (Nat.zero_le _) (by rw[List.size_toArray,List.length_map,Array.length_toList,hsz,sizeLine_eq];omega))
 rw[hfl]
 simp only[bne_self_eq_false,Bool.false_eq_true,if_false]
 exact wpAny_pure fin
theorem Joa {l:Addr}{vs:List Value}{ts:List (List Int)}{k:Nat}{Q:Value->Shared->Prop}(hl:s.heap.IsList l vs.toArray) (hk:0<k) (T:Jpr s.heap k vs ts) (h64:vs.length<64)
  (h:Q (.ref (s.heap.objs.size+1)) { s with heap:=sortedAll s.heap vs (List.toArray ((kRun (ltAt ts) (kas_sort vs.length)).toList.map λ i=>vs.getD i Value.none)) }) :
  wpAny (model prog w) A (call (.builtin "sorted") [.ref l]) Q E s:=by
 refine Calls.call_function_entry kind_sorted plain_sorted entry_sorted (args_sorted1 _) ?_
 unfold Builtin.«sorted»
 refine wpAny_bind (m:=checkCount "sorted" 1 1 _) (wpAny_pure ?_)
 refine wpAny_bind (collect_list hl ?_ (by rw[sizeLine_eq];omega))
 refine wpAny_bind (wpAny_newList ?_ (by rw[sizeLine_eq];omega))
 have hsz:((s.heap.push (seqObj "list" #[] 0)).update s.heap.objs.size (Obj.mapSeq (· ++vs.toArray))).objs.size=s.heap.objs.size+1:=by
  rw[Heap.size_update,size_push']
 have hoL:(((s.heap.push (seqObj "list" #[] 0)).update s.heap.objs.size (Obj.mapSeq (· ++vs.toArray))).push (seqObj "list" vs.toArray 0)).get? (s.heap.objs.size+1)=some (seqObj "list" vs.toArray 0):=by
  rw[<- hsz];exact Heap.get?_push_size _ rfl
 show wpAny _ _ _ _ _ { s with heap:=((s.heap.push (seqObj "list" #[] 0)).update s.heap.objs.size (Obj.mapSeq (· ++vs.toArray))).push (seqObj "list" vs.toArray 0) }
 rw[hsz]
 have keep:∀b o,s.heap.get? b=some o->(((s.heap.push (seqObj "list" #[] 0)).update s.heap.objs.size (Obj.mapSeq (· ++vs.toArray))).push (seqObj "list" vs.toArray 0)).get? b=some o:=λ b o q=>by
  have hlt:b<s.heap.objs.size:=Heap.lt_size q
  rw[Heap.get?_push_ne _ _ _ (by rw[hsz];exact Nat.ne_of_lt (Nat.lt_succ_of_lt hlt)),Heap.get?_update_ne _ _ _ _ (Nat.ne_of_lt hlt),Heap.get?_push_ne _ _ _ (Nat.ne_of_lt hlt)]
  exact q
 refine wpAny_bind (wpAny_holding (wpAny_call_entry slot_list_sort ⟨_,hoL,rfl⟩ entry_list_sort (Jow hoL hk (λ i hi=>let ⟨c,l,e,t,q⟩:=T i hi;⟨c,l,e,t.keeps keep,q⟩) h64 ⟨_,rfl,?_⟩) (args_list_sort _)))
 exact wpAny_pure ⟨_,rfl,h⟩
end
theorem Jtn {vs:List V}{us:List Value}(r:Vals vs us):∀p:List Nat,(∀i∈p,i<vs.length)->Vals (p.map λ i=>vs.getD i .non) (p.map λ i=>us.getD i Value.none)
 | [],_=>.nil
 | i::p,h=>by
  have hi:=h i (List.mem_cons_self ..)
  obtain⟨u,eu,ru⟩:=r.get (List.getElem?_eq_getElem hi)
  refine .cons ?_ (Jtn r p λ j hj=>h j (List.mem_cons_of_mem _ hj))
  show L2.RelV (vs.getD i .non) (us.getD i Value.none)
  rw[List.getD_eq_getElem?_getD,List.getD_eq_getElem?_getD,List.getElem?_eq_getElem hi,eu]
  exact ru
theorem Jvi {K:W.Frag}{ι:List Addr}{H:Hp}{xs:List IV}{vs:List V}(r:RVs K ι H xs vs):∀p:List Nat,(∀i∈p,i<xs.length)->RVs K ι H (p.map λ i=>xs.getD i .non) (p.map λ i=>vs.getD i .non)
 | [],_=>rfl
 | i::p,h=>by
  have hi:=h i (List.mem_cons_self ..)
  obtain⟨v,ev,rv⟩:=r.get (List.getElem?_eq_getElem hi)
  refine⟨_,_,rfl,?_,Jvi r p λ j hj=>h j (List.mem_cons_of_mem _ hj)⟩
  show RV K ι H (xs.getD i .non) (vs.getD i .non)
  rw[List.getD_eq_getElem?_getD,List.getD_eq_getElem?_getD,List.getElem?_eq_getElem hi,ev]
  exact rv
noncomputable def ordT (ts:List (List Int)) (n:Nat):List Nat:=(kRun (ltAt ts) (kas_sort n)).toList
theorem Jn0 (ts:List (List Int)){n:Nat}(hn:0<n):(ordT ts n).Perm (List.range n):=((Jmz hn).run (lt:=ltAt ts)).2
theorem Jy6 (ts:List (List Int)){n:Nat}:∀i∈ordT ts n,i<n:=by
 intro i hi
 rcases Nat.eq_zero_or_pos n with e|e
 ·subst e
  have:ordT ts 0=[]:=by simp[ordT,kas_sort,kas_count,kas_asc,KasT.bind,kas_descPart,kas_desc,kas_tail3,kRun,kas_rev,mirror,Array.swapIfInBounds]
  rw[this] at hi
  cases hi
 ·exact List.mem_range.mp ((Jn0 ts e).mem_iff.mp hi)
noncomputable def Jti:IV->IH->Res IV
 | .ref i,h=>match h[i]? with
  | some (.lst xs)=>if xs.length<64/\0<wide xs then(match Jq9 (wide xs) xs with
   | some ts=>.ok (.ref h.length) (h++[.lst ((ordT ts xs.length).map λ i=>xs.getD i .non)])
   | none=>.stuck) else if xs=[] then .ok (.ref h.length) (h++[.lst []]) else .stuck
  | _=>.stuck
 | _,_=>.stuck
section
variable {ce:Str->Option Addr}{X:Cx}
theorem J3b:Jfq ce X (.builtin "sorted") (on1 Jti):=Jl7 λ pins s σ H ι σi h x xv u Q E N ru qx K=>by
 cases x with
 | ref i =>
  obtain⟨a,e1,ha⟩:=qx
  subst e1
  cases ru
  dsimp only[Jti] at K
  cases hi:h[i]? with
  | none=>rw[hi] at K;exact Zf K
  | some ob =>
   rw[hi] at K
   cases ob with
   | lst xs =>
    dsimp only at K
    obtain⟨vs,e1,r1⟩:=N.at hi ha
    obtain⟨its,rv,pl,hz⟩:=N.inv.list (SqL.of e1)
    have l1:=r1.length
    have l2:=rv.length
    have hb:64<=sizeLine:=by decide
    have fresh:H (s.heap.objs.size+1)=none:=N.inv.hok.fresh (Nat.le_succ _)
    split at K
    ·rename_i h64
     cases ht:Jq9 (wide xs) xs with
     | none=>rw[ht] at K;exact Zf K
     | some ts =>
      rw[ht] at K
      have lt:=λ i hi=>Jy6 ts (n:=xs.length) i hi
      refine Joa (k:=wide xs) (ts:=ts) pl.isList h64.2 (λ j hj=>?_) (by omega) ?_
      ·obtain⟨y,ey⟩:∃y,xs[j]?=some y:=⟨_,List.getElem?_eq_getElem (by omega)⟩
       obtain⟨v,ev,qv⟩:=r1.get ey
       obtain⟨uv,euv,rv'⟩:=rv.get ev
       have ez:=Juf ht ey
       rw[List.getD_eq_getElem?_getD,euv]
       show ∃a l,uv=_/\_
       cases y with
       | tup ys =>
        obtain⟨b,ws,rfl,sb,rb⟩:=qv
        have rv':uv=.ref b:=rv'
        subst rv'
        unfold tupZ at ez
        dsimp only at ez
        cases en:Ja8 ys with
        | none=>rw[en] at ez;cases ez
        | some ns =>
         rw[en] at ez
         dsimp only at ez
         split at ez
         ·rename_i hl
          obtain⟨jts,v1,tp,_⟩:=N.inv.tuple sb
          obtain⟨l,rfl,el⟩:=Jgp (Jct en rb v1)
          exact⟨b,l,rfl,tp,el.trans (Option.some.inj ez),by rw[<- hl,<-el,List.length_map]⟩
         ·cases ez
       | _=>cases ez
      ·have eo:(kRun (ltAt ts) (kas_sort its.length)).toList=ordT ts xs.length:=by rw[show its.length=xs.length by omega];rfl
       rw[eo]
       obtain⟨e,he⟩:=sortedAll_at s.heap its (List.toArray ((ordT ts xs.length).map λ i=>its.getD i Value.none))
       have lo:(ordT ts xs.length).length=xs.length:=by
        have:=(Jn0 ts (n:=xs.length) (by
         cases xs with
         | nil=>exact absurd h64.2 (by decide)
         | cons _ _=>simp)).length_eq
        simpa using this
       have hl:((ordT ts xs.length).map λ i=>vs.getD i V.non).length<=sizeLine:=by rw[List.length_map,lo];omega
       have I':=N.inv.laid (a:=s.heap.objs.size+1) (o:=.lst ((ordT ts xs.length).map λ i=>vs.getD i V.non)) (h':=sortedAll s.heap its (List.toArray ((ordT ts xs.length).map λ i=>its.getD i Value.none))) (t':=s.toks) (λ _ _=>sortedAll_old) (Nat.le_succ _) ⟨hl,(ordT ts xs.length).map λ i=>its.getD i Value.none,e,Jtn rv _ (λ i hi=>by have:=lt i hi;omega),he⟩
       exact finA N K (s.heap.objs.size+1) fresh ⟨_,Jf,RVs.new fresh (Jvi r1 _ lt)⟩ _ _ I' rfl
    ·split at K
     ·rename_i en
      subst en
      have ei:its=[]:=List.eq_nil_of_length_eq_zero (by rw[<- l2,l1];rfl)
      subst ei
      refine Joa (k:=1) (ts:=[]) pl.isList (by decide) (λ j hj=>by simp at hj) (by simp) ?_
      have eo:(kRun (ltAt []) (kas_sort ([]:List Value).length)).toList.map (λ i=>([]:List Value).getD i Value.none)=[]:=Jvn [] (by simp)
      rw[eo]
      obtain⟨e,he⟩:=sortedAll_at s.heap [] (List.toArray [])
      have I':=N.inv.laid (a:=s.heap.objs.size+1) (o:=.lst []) (h':=sortedAll s.heap [] (List.toArray [])) (t':=s.toks) (λ _ _=>sortedAll_old) (Nat.le_succ _) ⟨Nat.zero_le _,[],e,.nil,he⟩
      exact finA N K (s.heap.objs.size+1) fresh ⟨_,Jf,rfl⟩ _ _ I' rfl
     ·exact Zf K
   | _=>exact Zf K
 | _=>exact Zf K
end
end L3
namespace L4
open PySem PySem.Spec PyProof.Rows L2 L3
noncomputable def stE:E1:=λ _ _=>.stuck
noncomputable def stT:T1:=λ _ _=>.stuck
noncomputable def stO:O1:=λ _ _=>.stuck
noncomputable def stI:I1:=λ _ _=>.stuck
noncomputable def stG:G1:=λ _ _ _=>.stuck
noncomputable def stS:S1:=λ _ _=>.stuck
structure Fn where
 np:Nat
 dvs:List IV
 run:List IV->IH->Res IV
structure Pg where
 fn:Str->Option Fn
 cls:Str->Option Fn
 meth:Str->Str->Option Fn
 con:Str->Option IV
 isa:Str->Option (Str->Bool)
 fld:Str->Bool
 free:Str->Bool
 tabs:Str->Option Nat
 rz:Str->Bool
 bas:Str->Bool
 xi:Str->Option (Str->Option Bool)
 wr:Str->Option (List IV->IH->Res IV)
 ne:Str->Bool
 xo:Str->Option Fn
 xf:Str->Str->Bool
 xb:Str->Bool
structure Sc where
 N:List Str
 names:List (Str×NameKind)
 own:Bool
 q:Str
noncomputable def ixOf (x:Str):List Str->Option Nat
 | []=>none
 | y::r=>if y==x then some 0 else(ixOf x r).map (· + 1)
noncomputable def Sc.vis (S:Sc) (x:Str):Option Nat :=
 match S.names.lookup x with
 | some .local=>if x=="__debug__"||x=="__classdict__" then none else ixOf x S.N
 | some .cell=>if x=="__debug__"||x=="__classdict__" then none else ixOf x S.N
 | some .free=>if x=="__debug__"||x=="__classdict__" then none else ixOf x S.N
 | _=>none
noncomputable def Sc.gl (S:Sc) (x:Str):Bool:=S.names.lookup x==some .globalImplicit&&!(x=="__debug__")&&!(x=="__name__")
noncomputable def Sc.sto (S:Sc) (x:Str):Option Nat :=
 match S.names.lookup x with
 | some .local=>ixOf x S.N
 | some .cell=>if S.own then ixOf x S.N else none
 | _=>none
noncomputable def evC:Const->E1
 | .int i=>eC (.int i)
 | .bool b=>eC (.bl b)
 | .none=>eC .non
 | .str x=>eC (.str x)
 | _=>stE
noncomputable def binI:Operator->IV->IV->IH->Res IV
 | .Add=>Jo
 | .Sub=>Jsn
 | .Mult=>Jd6
 | .FloorDiv=>Jaf
 | .Mod=>Ju
 | .Pow=>Jkq
 | _=>λ _ _ _=>.stuck
noncomputable def cmpI:CmpOp->IV->IV->IH->Res IV
 | .Lt=>cLt
 | .LtE=>cLe
 | .Gt=>cGt
 | .GtE=>cGe
 | .Eq=>cEq
 | .NotEq=>cNe
 | .Is=>cIs
 | .IsNot=>Jxx
 | _=>λ _ _ _=>.stuck
noncomputable def unI:UnaryOp->IV->IH->Res IV
 | .Not=>Jws tru
 | .USub=>J4i
 | _=>λ _ _=>.stuck
noncomputable def J3j:List E1->E1
 | []=>stE
 | [a]=>a
 | a::b::r=>eAnd a (J3j (b::r)) tru
noncomputable def eOrs:List E1->E1
 | []=>stE
 | [a]=>a
 | a::b::r=>eOr a (eOrs (b::r)) tru
noncomputable def J44:List T1->T1
 | []=>stT
 | [a]=>a
 | a::b::r=>Jzn a (J44 (b::r))
noncomputable def tOrs:List T1->T1
 | []=>stT
 | [a]=>a
 | a::b::r=>tOrI a (tOrs (b::r))
noncomputable def aAll:List E1->A1
 | []=>aNil
 | a::r=>Ja a (aAll r)
noncomputable def Jk:Expr->Bool
 | .Starred .. =>false
 | _=>true
noncomputable def Jwp:Expr->Bool
 | .Set .. =>false
 | _=>true
noncomputable def Jqu:Expr->Bool
 | .Slice .. =>false
 | _=>true
noncomputable def Jkp:Expr->Bool
 | .ListComp .. =>false
 | .SetComp .. =>false
 | .DictComp .. =>false
 | _=>true
noncomputable def Jfe:Expr->Bool
 | .Call (.Name ..) [] [] _=>false
 | _=>true
noncomputable def isM1:Expr->Bool
 | .UnaryOp .USub (.Constant (.int 1) _ _) _=>true
 | _=>false
noncomputable def Fn.fill (f:Fn) (n:Nat):Option (List IV):=if n<=f.np/\f.np<=n+f.dvs.length then some (f.dvs.drop (f.dvs.length-(f.np-n))) else none
noncomputable def Jnh (f:Fn) (n:Nat) (a:A1):E1:=match f.fill n with
 | some d=>Jn f.run d a
 | none=>stE
noncomputable def Ju9 (c:Str) (f:Fn) (n:Nat) (a:A1):E1:=match f.fill (n+1) with
 | some d=>Jnj c f.run d a
 | none=>stE
noncomputable def bltF (x:Str):List IV->IH->Res IV :=
 if x=="len" then on1 lenI else if x=="all" then on1 allI else if x=="sum" then on1 sumI else if x=="sorted" then on1 Jlf else if x=="min" then on1 Juh else if x=="max" then on1 Jwo else λ _ _=>.stuck
noncomputable def bltT (x:Str):List IV->IH->Res IV :=
 if x=="list" then on1 Jnu else if x=="tuple" then on1 Joe else if x=="int" then on1 J0t else λ _ _=>.stuck
noncomputable def J7y:Expr->Bool
 | .ListComp (.Tuple _ _ _) _ _ _=>true
 | _=>false
noncomputable def J6s:Expr->Bool
 | .Name x _=>x=="_law_keys"
 | _=>false
noncomputable def Jvc (x:Str):Bool:=x=="len"||x=="all"||x=="sum"||x=="sorted"||x=="min"||x=="max"
noncomputable def Jyn (x:Str):Bool:=x=="list"||x=="tuple"||x=="int"
noncomputable def Jz8 (P:Pg) (x:Str):Option (Ty->Option Bool) :=
 match P.isa x with
 | some g=>some λ t=>match t with|.ins c=>some (g c)|.exc _=>none|_=>some false
 | none=>if P.free x then(if x=="int" then some Jhi else if x=="bool" then some Jc8 else if x=="str" then some Ji6 else if x=="list" then some (if P.ne "Work" then Jb2 else Jch) else if x=="tuple" then some Ji7 else none) else none
noncomputable def J3l (o:Option (Ty->Option Bool)) (e:E1):E1:=match o with
 | some ans=>eIsi ans e
 | none=>stE
noncomputable def bmOf (T:String) (m:Str) (n:Nat):Option (IV->List IV->IH->Res IV) :=
 if T=="list"&&m=="append"&&n==1 then some Jkx else if T=="str"&&m=="join"&&n==1 then some Jwg else if T=="dict"&&m=="setdefault"&&n==2 then some Jgw else none
noncomputable def Jfb (P:Pg) (m:Str) (n:Nat):Str->Option ((List IV->IH->Res IV)×List IV):=λ c=>match P.meth c m with
 | some f=>(match f.fill (n+1) with
  | some d=>some (f.run,d)
  | none=>none)
 | none=>none
noncomputable def Jse (v:IV) (h:IH):Bool:=match v with
 | .ref i=>(match h[i]? with
  | some (.ins ..)=>true
  | _=>false)
 | _=>false
noncomputable def tyS (v:IV) (h:IH):String:=match v with
 | .str _=>"str"
 | .rol _=>"list"
 | .ref i=>(match h[i]? with
  | some (.lst _)=>"list"
  | some (.dct _)=>"dict"
  | _=>"")
 | _=>""
noncomputable def eDot (P:Pg) (m:Str) (n:Nat) (o:E1) (a:A1):E1:=λ σ h=>match o σ h with
 | .ok v h1=>if Jse v h1 then J0k m (Jfb P m n) o a σ h else(match bmOf (tyS v h1) m n with
  | some g=>eBm (tyS v h1) g o a σ h
  | none=>.stuck)
 | _=>.stuck
noncomputable def J55 (n:Nat) (a:A1):I1:=match n with
 | 1=>iRg Jaq a
 | 2=>stI
 | _=>stI
noncomputable def gAll:List G1->List IV->ISt->IH->SRes
 | []=>gN
 | g::r=>gC g (gAll r)
noncomputable def Jqq (sc:Scope):List Str:=sc.names.filterMap λ x=>if x.2==.local&&!(x.1==(".0":Str)) then some x.1 else none
noncomputable def Jl8 (sc:Scope):List Str:=sc.names.filterMap λ x=>if x.2==.free then some x.1 else none
noncomputable def jsOf (S:Sc) (sc:Scope):List Nat:=(Jl8 sc).map λ x=>(ixOf x S.N).getD 0
noncomputable def Sc.comp (S:Sc) (sc:Scope):Sc where
 N:=Jqq sc++Jl8 sc
 names:=sc.names.map λ x=>if x.2==.free&&S.names.lookup x.1==some .cell then(x.1,.cell) else x
 own:=false
 q:=""
noncomputable def Sc.lam (S:Sc) (x:Str) (sc:Scope):Sc where
 N:=x::Jl8 sc
 names:=sc.names
 own:=false
 q:=""
noncomputable def Jsh (S:Sc) (x:Str) (sc:Scope):Bool :=
 sc.kind==.function&&!sc.isCoroutine&&!sc.isGenerator&&sc.names.all (λ y=>!(y.2==.cell))&&sc.names.lookup x==some .local&&sc.names.all (λ y=>!(y.2==.free)||S.names.lookup y.1==some .cell)
  && (Jl8 sc).all (λ y=>decide (S.N[(ixOf y S.N).getD 0]?=some y)&&sc.names.lookup y==some .free)&&decide (x::Jl8 sc).Nodup
noncomputable def Sc.fake (S:Sc):Scope:={ kind:=.function,names:=S.names,isGenerator:=false,isCoroutine:=false }
noncomputable def Jx5:Expr->Bool
 | .Name x _=>x=="last_come"||x=="tops"||x=="last"||x=="_law_last"||x=="_law_lows_here"
 | _=>false
noncomputable def ixD (a:Expr):IV->IV->IH->Res IV:=if Jx5 a then Joy else opIx
noncomputable def txtB:Expr->Bool
 | .Name x _=>x=="_law_word_here"||x=="_law_name"
 | .Subscript .. =>true
 | _=>false
noncomputable def slD (a:Expr):IV->Option Int->Option Int->IH->Res IV:=if txtB a then slT else slI
noncomputable def cmpD (ne:Str->Bool) (o:CmpOp) (b:Expr):IV->IV->IH->Res IV:=match o with
 | .In=>if Jx5 b then cInD else λ _ _ _=>.stuck
 | o=>cmpI o
noncomputable def gSbF (a:Expr) (o i:E1):G1:=if Jx5 a then gSbD o i else stG
noncomputable def J2p:Expr->Option Expr
 | .Call (.Name y _) [e] [] _=>if y=="set"&&Jk e then some e else none
 | _=>none
noncomputable def J2m:Expr->Option Expr
 | .Call (.Name y _) [e] [] _=>if y=="range"&&Jk e then some e else none
 | _=>none
noncomputable def dctB:Expr->Bool
 | .Call (.Name y _) _ _ _=>y=="ceilings"
 | _=>false
noncomputable def Jqe (P:Pg) (S:Sc) (x:Str) (f:Expr->E1):List Expr->E1
 | [a,b]=>if x=="max" then eCB (on2 maxI) (Ja (f a) (Ja (f b) aNil)) else if x=="min" then stE else(match b with
  | .Name y _=>if x=="isinstance"&&S.gl y then J3l (Jz8 P y) (f a) else stE
  | _=>stE)
 | [a]=>(match (if x=="len"&&S.gl "set"&&P.free "set" then J2p a else none) with
  | some e=>Jni (Ja (f e) aNil)
  | none=>match (if x=="list"&&S.gl "range"&&P.free "range" then J2m a else none) with
  | some _=>stE
  | none=>if x=="len"&&dctB a then eCB (on1 Jwj) (Ja (f a) aNil) else if Jvc x then(if x=="min"&&J6s a then eCB (on1 Jui) (Ja (f a) aNil) else if x=="sorted"&&J7y a then eCB (on1 Jti) (Ja (f a) aNil) else eCB (bltF x) (Ja (f a) aNil)) else if Jyn x then eCB (bltT x) (Ja (f a) aNil) else stE)
 | _=>stE
noncomputable def minK (P:Pg) (S:Sc) (f:Sc->Expr->E1) (x:Str) (a:Expr) (k:Str):Expr->E1
 | .Lambda ps body sc _=>(match Jl2 ps,P.tabs S.q with
  | some y,some j=>if x=="min"&&k=="key"&&S.gl x&&P.free x&&Jk a&&S.own&&Jsh S y sc then Jv2 ltT S.q j (jsOf S sc) (Ja (f S a) aNil) (f (S.lam y sc) body) else stE
  | _,_=>stE)
 | _=>stE
noncomputable def Jys (P:Pg) (S:Sc) (f:Sc->Expr->E1) (x:Str) (args:List Expr) (kws:List Keyword):E1:=match args,kws with
 | [a],[⟨some k,d,_⟩]=>if x=="max"&&k=="default"&&S.gl x&&P.free x&&Jk a then Jya (Ja (f S a) aNil) (f S d) else minK P S f x a k d
 | _,_=>stE
noncomputable def Ju3 (P:Pg) (S:Sc) (m:Str):Expr->Option Fn
 | .Name x _=>if m=="__init__"&&S.gl x&&P.bas x then P.cls x else none
 | _=>none
noncomputable def J3k (P:Pg) (m:Str) (n:Nat) (b:Option Fn) (o:E1) (a:A1):E1:=match b with
 | some f=>if n=0 then stE else Jnh f n a
 | none=>eDot P m n o a
noncomputable def Jxz (ifs:List Expr) (f:Expr->T1) (m:T1->E1):E1:=match ifs with
 | []=>m Jao
 | [c]=>m (f c)
 | _=>stE
noncomputable section
mutual
noncomputable def ev (P:Pg):Nat->Sc->Expr->E1
 | 0,_,_=>stE
 | n+1,S,e=>match e with
  | .Constant c _ _=>evC c
  | .Name x _=>(match S.vis x with
   | some i=>eVar i
   | none=>if S.gl x then(match P.con x with
    | some v=>eC v
    | none=>stE) else stE)
  | .BinOp a op b _=>eBin (binI op) (ev P n S a) (ev P n S b)
  | .UnaryOp op a _=>eUn (unI op) (ev P n S a)
  | .BoolOp .And vs _=>J3j (vs.map (ev P n S))
  | .BoolOp .Or vs _=>eOrs (vs.map (ev P n S))
  | .IfExp t a b _=>eIf (evT P n S t) (ev P n S a) (ev P n S b)
  | .Compare a [o] [b] _=>if behindInMarks o b then stE else eBin (cmpD P.ne o b) (ev P n S a) (ev P n S b)
  | .Compare a [o,o'] [b,c] _=>if lastMarks [o,o'] [b,c] then stE else Jfk (cmpI o) (cmpI o') (ev P n S a) (ev P n S b) (ev P n S c)
  | .Tuple es _ _=>if es.all Jk then eTup (aAll (es.map (ev P n S))) else stE
  | .Dict [] [] _=>Jv1
  | .List es _=>if es.all Jk then eLst (aAll (es.map (ev P n S))) else stE
  | .Subscript a (.Slice lo hi none _) _=>eSl (slD a) (ev P n S a) (evO P n S lo) (evO P n S hi)
  | .Subscript a i _=>if Jqu i then eBin (ixD a) (ev P n S a) (ev P n S i) else stE
  | .Attribute o f _=>if Jfe o&&P.fld f then eFld f (ev P n S o) else stE
  | .Call (.Name x _) args [] _=>if S.gl x&&args.all Jk then Jye P n S x args else stE
  | .Call (.Name x _) args (kw::kws) _=>Jys P S (λ S e=>ev P n S e) x args (kw::kws)
  | .Call (.Attribute o m ap) args [] p=>if args.all Jk&&Jfe o&&(ap.endLine==p.line)&&decide (args.length<30) then J3k P m args.length (Ju3 P S m o) (ev P n S o) (aAll (args.map (ev P n S))) else stE
  | .ListComp elt [⟨tg,iter,ifs,as⟩] sc _ =>
   if as=0/\Jwp iter=true/\Jfj S.N (Jqq sc) (Jl8 sc) (jsOf S sc) S.fake sc=true then
    Jxz ifs (evT P n (S.comp sc)) λ mt=>Jr (evI P n S tg iter) (Jqq sc).length (jsOf S sc) (tgt P n (S.comp sc) tg) mt (ev P n (S.comp sc) elt)
   else stE
  | _=>stE
noncomputable def evT (P:Pg):Nat->Sc->Expr->T1
 | 0,_,_=>stT
 | n+1,S,e=>match e with
  | .UnaryOp .Not a _=>Jcz (evT P n S a)
  | .BoolOp .And vs _=>J44 (vs.map (evT P n S))
  | .BoolOp .Or vs _=>tOrs (vs.map (evT P n S))
  | .IfExp .. =>stT
  | .Compare a [o] [b] _=>if behindInMarks o b then stT else tOfB asB (eBin (cmpD P.ne o b) (ev P n S a) (ev P n S b))
  | .Compare a [o,o'] [b,c] _=>if lastMarks [o,o'] [b,c] then stT else tOfB asB (Jfk (cmpI o) (cmpI o') (ev P n S a) (ev P n S b) (ev P n S c))
  | .Compare .. =>stT
  | e=>tOfB tru (ev P n S e)
noncomputable def evO (P:Pg):Nat->Sc->Option Expr->O1
 | 0,_,_=>stO
 | _+1,_,none=>Jox
 | n+1,S,some e=>Jk9 (ev P n S e)
noncomputable def Jye (P:Pg):Nat->Sc->Str->List Expr->E1
 | 0,_,_,_=>stE
 | n+1,S,x,args=>match P.fn x with
  | some f=>Jnh f args.length (aAll (args.map (ev P n S)))
  | none=>match P.cls x with
   | some f=>Ju9 x f args.length (aAll (args.map (ev P n S)))
   | none=>if P.free x then Jqe P S x (ev P n S) args else stE
noncomputable def evI (P:Pg):Nat->Sc->Expr->Expr->I1
 | 0,_,_,_=>stI
 | n+1,S,tg,e=>match e with
  | .Call (.Name x _) args [] _ =>
   if S.gl x&&P.free x&&args.all Jk&&(x=="range") then J55 args.length (aAll (args.map (ev P n S)))
   else if S.gl x&&P.free x&&args.all Jk&&(x=="enumerate") then(match tg,args with
    | .Tuple ..,[a]=>iRg Jgq (Ja (ev P n S a) aNil)
    | _,_=>stI)
   else iAny (ev P n S e)
  | e=>iAny (ev P n S e)
noncomputable def tgt (P:Pg):Nat->Sc->Expr->G1
 | 0,_,_=>stG
 | n+1,S,e=>match e with
  | .Name x _=>(match S.sto x with
   | some i=>gNm i
   | none=>stG)
  | .Tuple es _ _=>if es.all Jk then gTp es.length (gAll (es.map (tgt P n S))) else stG
  | .Subscript o i _=>if Jqu i then gSbF o (ev P n S o) (ev P n S i) else stG
  | _=>stG
end
end
noncomputable def sAll:List S1->S1
 | []=>sNil
 | [a]=>a
 | a::b::r=>sSeq a (sAll (b::r))
noncomputable def J4f:Expr->Bool
 | .Tuple .. =>false
 | _=>true
noncomputable def J0y:Expr->Bool
 | .Tuple .. =>true
 | _=>false
noncomputable def isLC:Expr->Bool
 | .ListComp .. =>true
 | _=>false
noncomputable def J0x:Expr->Bool
 | .Subscript .. =>true
 | _=>false
noncomputable abbrev Xi:=Str->Option (Str->Option Bool)
noncomputable section
end
noncomputable section
end
noncomputable def J4t (P:Pg) (f:Str) (o e:E1):S1:=if P.fld f then Jld f o e else stS
noncomputable section
noncomputable def ex (P:Pg):Nat->Sc->Stmt->S1
 | 0,_,_=>stS
 | n+1,S,st=>match st with
  | .Pass _=>J4u
  | .Break _=>J2n
  | .Continue _=>J7m
  | .Expr e _=>if Jkp e then Jgv (ev P n S e) else stS
  | .Return none _=>J4v
  | .Return (some e) _=>sRet (ev P n S e)
  | .If c a b _=>sIf (evT P n S c) (sAll (a.map (ex P n S))) (sAll (b.map (ex P n S)))
  | .For tg it a [] _=>if Jwp it&&S.own then sFor (evI P n S tg it) (tgt P n S tg) (sAll (a.map (ex P n S))) else stS
  | .Assign [.Name x _] e _=>if Jkp e||isLC e then(match S.sto x with
   | some i=>sSet i (ev P n S e)
   | none=>stS) else stS
  | .Assign [.Attribute o f _] e _=>if Jkp e then J4t P f (ev P n S o) (ev P n S e) else stS
  | .Assign [tg] e _=>if Jkp e&&((J0y tg&&J4f e)||J0x tg) then sAsg (ev P n S e) (tgt P n S tg) else stS
  | _=>stS
end
structure FnD (ce:Str->Option Addr) (prog:Program) (w:World) (K:W.Frag) (mg:Str->Option Value) (base:Heap) (k:Nat) (f:Fn) (fa:Addr) (fd:FuncData) (ps:List Str):Prop where
 len:ps.length=f.np
 ok:FnOk prog w K mg base (CXI prog w) k fa fd ps (spI ce K ps f.run)
 dv:∀j,j<=f.dvs.length->∃ds,Jhf K fd ps ds/\ds.length=f.dvs.length-j/\∃vs,Vals vs ds/\∀ι H,RVs K ι H (f.dvs.drop j) vs
structure PgOk (ce:Str->Option Addr) (k:Nat) (P:Pg) (prog:Program) (w:World) (K:W.Frag) (mg:Str->Option Value) (base:Heap):Prop where
 fn:∀x f,P.fn x=some f->∃fa fd ps,mg x=some (.ref fa)/\W.keepIn K (.ref fa)=true/\FnD ce prog w K mg base k f fa fd ps
 cls:∀x f,P.cls x=some f->∃C fa fd ps,mg x=some (.ref C)/\ce x=some C/\Mk K C fa/\FnD ce prog w K mg base k f fa fd ps
 meth:∀c m f,P.meth c m=some f->∃C fa fd ps,ce c=some C/\Cls K C/\Meth K C m fa/\FnD ce prog w K mg base k f fa fd ps
 con:∀x v,P.con x=some v->∃u y,mg x=some u/\RelV y u/\∀ι H,RV K ι H v y
 isa:∀D g,P.isa D=some g->∃c,mg D=some c/\IsOk ce K c λ t=>match t with|.ins c=>some (g c)|.exc _=>none|_=>some false
 fld:∀f,P.fld f=true->Jz6 ce K f
 free:∀x,P.free x=true->mg x=none
 blt:∀q j,P.tabs q=some j->Jmx mg base
 bas:∀x,P.bas x=true->∃C,mg x=some (.ref C)/\BasK K C
 ne:∀c,P.ne c=true->∃C,ce c=some C/\neIn K C=true/\ClsI K C/\W.kitOne K (.ref C) (.type "list")=some false
structure Good (ce:Str->Option Addr) (k:Nat) (P:Pg) (S:Sc) (X:Cx):Prop where
 n:X.N=S.N
 sc:X.env.scope.names=S.names
 nd:S.N.Nodup
 fk:X.env.scope.kind=.function
 calm:X.calm=true
 room:Room (k+1) X.A
 st:S.own=true->∀x,X.fn x=true
 pg:PgOk ce k P X.prog X.w X.K X.mg X.base
 code:S.own=true->W.codeIn X.K X.env.code S.q=true/\X.env.qual=S.q++".<locals>."
 room3:S.own=true->Room (k+3) X.A
 top:S.own=true->X.stack=X.env::X.outer/\X.env.frame=some X.env.locals
section
variable {ce:Str->Option Addr}{k:Nat}{P:Pg}{S:Sc}{X:Cx}{α β:Type}{R:REL α β}
theorem Jb {t:Sem β}:PX ce X R t (λ _ _=>.stuck):=λ _ _ _ _ _ _ _ _ _ _ K=>(show False from K).elim
theorem px_pt {t:Sem β}{m:ISt->IH->Res α}(hh:∀σi h,∃m',m σi h=m' σi h/\PX ce X R t m'):PX ce X R t m:=by
 intro pins s σ H ι σi h Q E N K
 obtain⟨m',e,p⟩:=hh σi h
 rw[e] at K
 exact p pins s σ H ι σi h Q E N K
theorem Jkr {tg e:Expr}:PIi ce X tg e stI:=λ _ _ _ _ _ _ _ _ _ _ K=>(show False from K).elim
theorem Jhd {e:Expr}:PGi ce X e stG:=λ _ _ _ _ _ _ _ _ _ _ _ _ _ K=>(show False from K).elim
theorem J1 {t:Sem Flow}:PSi ce X t stS:=λ _ _ _ _ _ _ _ _ _ _ K=>(show False from K).elim
theorem Jmr {x:Str}:∀{l:List Str}{i:Nat},ixOf x l=some i->l[i]?=some x
 | [],_,h=>by cases h
 | y::r,i,h=>by
  unfold ixOf at h
  split at h
  ·rename_i e
   cases h
   simp[beq_iff_eq.mp e]
  ·obtain⟨j,hj,rfl⟩:=Option.map_eq_some_iff.mp h
   simpa using Jmr hj
theorem Good.kind (G:Good ce k P S X) (x:Str):X.env.kindOf x=S.names.lookup x:=by
 show X.env.scope.names.lookup x=_
 rw[G.sc]
theorem Good.vis (G:Good ce k P S X){x:Str}{i:Nat}(h:S.vis x=some i):X.N[i]?=some x/\Vis X.env.scope x/\(x==("__debug__":Str))=false/\(x==("__classdict__":Str))=false:=by
 unfold Sc.vis at h
 have fin:∀{o:NameKind},(o=.local∨o=.cell∨o=.free)->S.names.lookup x=some o->(if (x==("__debug__":Str)||x==("__classdict__":Str))=true then none else ixOf x S.N)=some i ->
   X.N[i]?=some x/\Vis X.env.scope x/\(x==("__debug__":Str))=false/\(x==("__classdict__":Str))=false:=λ ho e h=>by
  split at h
  ·cases h
  ·rename_i hd
   have hd':=Bool.eq_false_iff.mpr hd
   rw[Bool.or_eq_false_iff] at hd'
   refine⟨by rw[G.n];exact Jmr h,?_,hd'.1,hd'.2⟩
   unfold Vis
   rw[G.sc,e]
   rcases ho with rfl|rfl|rfl
   ·exact .inl rfl
   ·exact .inr (.inl rfl)
   ·exact .inr (.inr rfl)
 cases e:S.names.lookup x with
 | none=>rw[e] at h;cases h
 | some o =>
  rw[e] at h
  cases o with
  | «local» =>exact fin (.inl rfl) e h
  | cell=>exact fin (.inr (.inl rfl)) e h
  | free=>exact fin (.inr (.inr rfl)) e h
  | _=>cases h
theorem Good.gl (G:Good ce k P S X){x:Str}(h:S.gl x=true):Gl X x/\(x==("__debug__":Str))=false/\x≠"__name__":=by
 unfold Sc.gl at h
 simp only[Bool.and_eq_true,beq_iff_eq,Bool.not_eq_true'] at h
 refine⟨?_,h.1.2,λ e=>?_⟩
 ·show X.env.kindOf x=_
  rw[G.kind]
  exact h.1.1
 ·have:=h.2
  rw[e] at this
  exact absurd this (by decide)
theorem Good.sto (G:Good ce k P S X){x:Str}{i:Nat}(h:S.sto x=some i):X.N[i]?=some x/\Loc X.env.scope x/\(X.fn x=true∨X.env.scope.names.lookup x=some .local):=by
 unfold Sc.sto at h
 unfold L2.Loc
 rw[G.sc]
 cases e:S.names.lookup x with
 | none=>rw[e] at h;cases h
 | some o =>
  rw[e] at h
  cases o with
  | «local» =>exact⟨by rw[G.n];exact Jmr h,.inl rfl,.inr rfl⟩
  | cell =>
   dsimp only at h
   split at h
   ·rename_i ho
    exact⟨by rw[G.n];exact Jmr h,.inr rfl,.inl (G.st ho x)⟩
   ·cases h
  | _=>cases h
theorem Good.nodup (G:Good ce k P S X):X.N.Nodup:=by rw[G.n];exact G.nd
theorem Jd {a:Expr}{es:List Expr}{env:Env}(h:Jk a=true):starEach (a::es) env=(false,eval a env)::starEach es env:=by
 cases a<;>first|rfl|cases h
theorem Jfg {pos:Pos}{env:Env}:∀{es:List Expr},es.all Jk=true->(backTo pos (starEach es env)).any (·.1)=false
 | [],_=>rfl
 | a::es,h=>by
  simp only[List.all_cons,Bool.and_eq_true] at h
  rw[Jd h.1]
  show(false||(backTo pos (starEach es env)).any (·.1))=false
  rw[Jfg h.2]<;>rfl
theorem Job {pos:Pos}{env:Env}:∀{es:List Expr},es.all Jk=true->(backTo pos (starEach es env)).all (λ x=>!x.1)=true
 | [],_=>rfl
 | a::es,h=>by
  simp only[List.all_cons,Bool.and_eq_true] at h
  rw[Jd h.1]
  show(true&&(backTo pos (starEach es env)).all (λ x=>!x.1))=true
  rw[Job h.2]<;>rfl
theorem J3q {pos:Pos}{env:Env}{es:List Expr}(ha:es.all Jk=true) (hn:es.length<30):((backTo pos (starEach es env)).all (λ x=>!x.1)&&(backToKw pos (keywordEach [] env)).all (λ x=>x.1.isSome)
   && decide (es.length+([]:List Keyword).length+(if ([]:List Keyword).isEmpty then 0 else 1)<30))=true:=by
 show((backTo pos (starEach es env)).all (λ x=>!x.1)&&true&&decide (es.length+0+0<30))=true
 rw[Job ha]
 simpa using hn
theorem Ji5:∀(l:List E1),ALen l.length (aAll l)
 | []=>Jz7
 | _::r=>Jxi (Ji5 r)
theorem Jqb {f:Expr->E1}:∀{es:List Expr},es.all Jk=true->(∀e,PEi ce X e (f e))->PAi ce X es (aAll (es.map f))
 | [],_,_=>Jmy
 | a::es,h,hf=>by
  simp only[List.all_cons,Bool.and_eq_true] at h
  exact Jfh (hf a) (Jqb h.2 hf) (Jd h.1)
theorem J2b {f:Expr->E1}{pos:Pos}(hf:∀e,PEi ce X e (f e)):∀(vs:List Expr),PEi ce X (.BoolOp .And vs pos) (J3j (vs.map f))
 | []=>Jb
 | [a]=>J6f (hf a)
 | a::b::r=>i_and Jtl (hf a) (J2b hf (b::r))
theorem J5z {f:Expr->E1}{pos:Pos}(hf:∀e,PEi ce X e (f e)):∀(vs:List Expr),PEi ce X (.BoolOp .Or vs pos) (eOrs (vs.map f))
 | []=>Jb
 | [a]=>J6f (hf a)
 | a::b::r=>i_or Jtl (hf a) (J5z hf (b::r))
theorem J2r {f:Expr->T1}{pos:Pos}(hf:∀e,PTi ce X e (f e)):∀(vs:List Expr),PWi ce X (.BoolOp .And vs pos) (J44 (vs.map f))
 | []=>λ _=>Jb
 | [a]=>J47 (hf a)
 | a::b::r=>J7z (hf a) (J2r hf (b::r))
theorem J7v {f:Expr->T1}{pos:Pos}(hf:∀e,PTi ce X e (f e)):∀(vs:List Expr),PWi ce X (.BoolOp .Or vs pos) (tOrs (vs.map f))
 | []=>λ _=>Jb
 | [a]=>J70 (hf a)
 | a::b::r=>tw_or (hf a) (J7v hf (b::r))
theorem J2c {f:Expr->G1}:∀{es:List Expr},es.all Jk=true->(∀e,PGi ce X e (f e))->PGsi ce X es (gAll (es.map f))
 | [],_,_=>J54
 | a::es,h,hf=>by
  simp only[List.all_cons,Bool.and_eq_true] at h
  refine J3p (hf a) (J2c h.2 hf) ?_
  cases a<;>first|rfl|exact absurd h.1 Bool.false_ne_true
theorem J15 {env:Env}:∀{es:List Expr},es.all Jk=true->(assignEach es env).length=es.length
 | [],_=>rfl
 | a::es,h=>by
  simp only[List.all_cons,Bool.and_eq_true] at h
  have:assignEach (a::es) env=(false,assign a env)::assignEach es env:=by cases a<;>first|rfl|exact absurd h.1 Bool.false_ne_true
  rw[this,List.length_cons,List.length_cons,J15 h.2]
theorem Jxn {env:Env}:∀{es:List Expr},es.all Jk=true->(assignEach es env).findIdx? (·.1)=none
 | [],_=>rfl
 | a::es,h=>by
  simp only[List.all_cons,Bool.and_eq_true] at h
  have:assignEach (a::es) env=(false,assign a env)::assignEach es env:=by cases a<;>first|rfl|exact absurd h.1 Bool.false_ne_true
  rw[this,List.findIdx?_cons,Jxn h.2]
  rfl
theorem o_bin (op:Operator):OpI ce X (binaryOp op) (binI op):=by
 cases op with
 | Add=>exact o_add
 | Sub=>exact o_sub
 | Mult=>exact J61
 | FloorDiv=>exact J60
 | Mod=>exact o_mod
 | Pow=>exact o_pow
 | _=>exact λ _ _ _ _ _ _ _ _ _ _ _ _ _ _ _ _ K=>(show False from K).elim
theorem Jy3 (hu:X.A.units+64<cLine) (op:CmpOp):OpI ce X (compareOp op) (cmpI op):=by
 cases op with
 | Lt=>exact o_lt
 | LtE=>exact o_le
 | Gt=>exact o_gt
 | GtE=>exact o_ge
 | Eq=>exact o_eq hu
 | NotEq=>exact o_ne hu
 | Is=>exact o_is
 | IsNot=>exact J4g
 | _=>exact λ _ _ _ _ _ _ _ _ _ _ _ _ _ _ _ _ K=>(show False from K).elim
theorem J2l {ne:Str->Bool}(hu:X.A.units+64<cLine) (hn:∀c,ne c=true->∃C,ce c=some C/\neIn X.K C=true) (op:CmpOp) (b:Expr):OpI ce X (compareOp op) (cmpD ne op b):=by
 unfold cmpD
 split
 ·split
  ·exact o_inD
  ·exact λ _ _ _ _ _ _ _ _ _ _ _ _ _ _ _ _ K=>(show False from K).elim
 ·exact Jy3 hu op
theorem x_slD (a:Expr):SlI ce X (slD a):=by
 unfold slD
 split
 ·exact x_slT
 ·exact x_sl
theorem x_ixF (a:Expr):IxI ce X (ixD a):=by
 unfold ixD
 split
 ·exact x_ixD
 ·exact x_ix
theorem o_un (op:UnaryOp):UnI ce X (unaryOp op) (unI op):=by
 cases op with
 | Not=>exact J48 Jtl
 | USub=>exact u_neg
 | _=>exact λ _ _ _ _ _ _ _ _ _ _ _ _ _ K=>(show False from K).elim
theorem Jg5 {o:Expr}{m:Str}{env:Env}{w:Sem Value}(h:Jfe o=true):attributeBase o m env w=w:=by
 cases o with
 | Call f as ks p =>
  cases f with
  | Name x q =>
   cases as with
   | nil =>
    cases ks with
    | nil=>cases h
    | cons _ _=>rfl
   | cons _ _=>rfl
  | _=>rfl
 | _=>rfl
theorem Jbt {e:Expr}{env:Env}(h:Jwp e=true) (x:Value):foldedSetIterable e env x=pure x:=by
 cases e<;>first|rfl|cases h
theorem Jhe {e:Expr}{t:Option Expr}{l:Nat}{env:Env}(h:Jkp e=true):swapsWith e t l env=pure false:=by
 cases e<;>first|rfl|cases h
theorem J00 {i:Expr}(h:Jqu i=true):Jxf i:=λ _ _=>by
 cases i<;>first|rfl|cases h
theorem Jny {o:Expr}{m:Str}{ap pos:Pos}{es:List Expr}{env:Env}(hb:Jfe o=true) (hs:es.all Jk=true) (hl:(ap.endLine==pos.line)=true) (hn:es.length<30) :
  eval (.Call (.Attribute o m ap) es [] pos) env=(do
   let ov<-eval o env
   standAt ap.atName
   let (f,first)<-holding [ov] (getMethod ov m (do return(<- importBound o env).getD true))
   callWith pos f first (backTo pos (starEach es env)) (backToKw pos (keywordEach [] env))):=by
 have hform:methodCallForm (es.length+([]:List Keyword).length) (backTo pos (starEach es env)) (backToKw pos (keywordEach [] env))=true:=by
  show((backTo pos (starEach es env)).all (λ x=>!x.1)&&true&&decide (es.length+0+0<30))=true
  rw[Job hs]
  simpa using hn
 have hpos:methodCallPos true o env ap pos=pure pos:=by unfold methodCallPos;simp[hl]
 rw[arm_eval_Call,Jg5 hb]
 unfold methodCall
 rw[hform,hpos]
 rfl
end
section
variable {ce:Str->Option Addr}{k:Nat}{P:Pg}{S:Sc}{X:Cx}
theorem Jrx (G:Good ce k P S X) (N0 l c:List Str) (js:List Nat) (sc:Scope):Jfj N0 l c js X.env.scope sc=Jfj N0 l c js S.fake sc:=by
 unfold Jfj
 rw[G.fk,G.sc]
 rfl
theorem Good.comp (G:Good ce k P S X){sc:Scope}(h:Jfj S.N (Jqq sc) (Jl8 sc) (jsOf S sc) S.fake sc=true) (C:Addr) (s:Shared) (H:Hp) (fp:List Addr):Good ce k P (S.comp sc) (cxC X (Jqq sc++Jl8 sc) sc C s H fp):=by
 simp only[Jfj,Bool.and_eq_true,decide_eq_true_eq] at h
 obtain⟨⟨⟨⟨⟨⟨⟨⟨⟨kF,kF0⟩,kNC⟩,kL⟩,kFr⟩,kFx⟩,kJ⟩,kLen⟩,kNd⟩,kLo⟩:=h
 refine⟨rfl,?_,kNd,kF,G.calm,G.room,λ z=>absurd z Bool.false_ne_true,G.pg,λ z=>absurd z Bool.false_ne_true,λ z=>absurd z Bool.false_ne_true,λ z=>absurd z Bool.false_ne_true⟩
 show(relabel sc X.env).names=_
 unfold relabel Sc.comp
 dsimp only
 refine List.map_congr_left λ x _=>?_
 obtain⟨n,kd⟩:=x
 dsimp only
 rw[G.fk,G.kind]
 simp
end
structure Snd (ce:Str->Option Addr) (k:Nat) (P:Pg) (n:Nat):Prop where
 e:∀S X e,Good ce k P S X->PEi ce X e (ev P n S e)
 t:∀S X e,Good ce k P S X->PTi ce X e (evT P n S e)
 o:∀S X e,Good ce k P S X->PPi ce X e (evO P n S e)
 c:∀S X x args p pos,Good ce k P S X->S.gl x=true->args.all Jk=true->PEi ce X (.Call (.Name x p) args [] pos) (Jye P n S x args)
 i:∀S X tg e,Good ce k P S X->PIi ce X tg e (evI P n S tg e)
 g:∀S X e,Good ce k P S X->PGi ce X e (tgt P n S e)
section
variable {ce:Str->Option Addr}{k:Nat}{P:Pg}{n:Nat}{S:Sc}{X:Cx}
theorem J1v:Snd ce k P 0:=⟨λ _ _ _ _=>Jb,λ _ _ _ _=>Jb,λ _ _ _ _=>Jb,λ _ _ _ _ _ _ _ _ _=>Jb,λ _ _ _ _ _=>Jkr,λ _ _ _ _=>Jhd⟩
theorem Jqi {prog:Program}{w:World}{K:W.Frag}{mg:Str->Option Value}{base:Heap}{f:Fn}{fa:Addr}{fd:FuncData}{ps:List Str}{m:Nat}{d:List IV}(D:FnD ce prog w K mg base k f fa fd ps) (h:f.fill m=some d) :
  ∃ds,Jhf K fd ps ds/\m+ds.length=ps.length/\∃vs,Vals vs ds/\∀ι H,RVs K ι H d vs:=by
 unfold Fn.fill at h
 split at h
 ·rename_i hz
  cases h
  obtain⟨ds,hb,hl,q⟩:=D.dv (f.dvs.length-(f.np-m)) (by omega)
  exact⟨ds,hb,by rw[hl,D.len];omega,q⟩
 ·cases h
theorem J1q (G:Good ce k P S X){x:Str}{f:Fn}(hx:P.fn x=some f) (hg:S.gl x=true){args:List Expr}(ha:args.all Jk=true){g:Expr->E1}(hf:∀e,PEi ce X e (g e)){p pos:Pos} :
  PEi ce X (.Call (.Name x p) args [] pos) (Jnh f args.length (aAll (args.map g))):=by
 obtain⟨fa,fd,ps,hm,hk,D⟩:=G.pg.fn x f hx
 obtain⟨gl,hdb,_⟩:=G.gl hg
 unfold Jnh
 cases hd:f.fill args.length with
 | none=>exact Jb
 | some d =>
  obtain⟨ds,hb,hl,q⟩:=Jqi D hd
  have hr:Room k X.A:=G.room.mono (Nat.le_succ k)
  cases args with
  | nil=>exact J3t D.ok hr gl hm hk hb q (by simpa using hl) hdb
  | cons a es =>
   have ha':=ha
   simp only[List.all_cons,Bool.and_eq_true] at ha'
   refine J57 D.ok hr gl hm hk hb q (Jqb ha hf) (λ σ h xs h' e=>?_) hdb (Jd ha'.1) (Jfg ha'.2)
   have:=Ji5 _ σ h xs h' e
   rw[List.length_map] at this
   rw[this]
   exact hl
theorem J1r (G:Good ce k P S X){x:Str}{f:Fn}(hx:P.cls x=some f) (hg:S.gl x=true){args:List Expr}(ha:args.all Jk=true){g:Expr->E1}(hf:∀e,PEi ce X e (g e)){p pos:Pos} :
  PEi ce X (.Call (.Name x p) args [] pos) (Ju9 x f args.length (aAll (args.map g))):=by
 obtain⟨C,fa,fd,ps,hm,hC,M,D⟩:=G.pg.cls x f hx
 obtain⟨gl,hdb,_⟩:=G.gl hg
 unfold Ju9
 cases hd:f.fill (args.length+1) with
 | none=>exact Jb
 | some d =>
  obtain⟨ds,hb,hl,q⟩:=Jqi D hd
  cases args with
  | nil=>exact J3w M D.ok hC G.room gl hm hb q (by simp at hl;omega) hdb
  | cons a es =>
   have ha':=ha
   simp only[List.all_cons,Bool.and_eq_true] at ha'
   refine J6b M D.ok hC G.room gl hm hb q (Jqb ha hf) (λ σ h xs h' e=>?_) hdb (Jd ha'.1) (Jfg ha'.2)
   have:=Ji5 _ σ h xs h' e
   rw[List.length_map] at this
   omega
theorem Jx7 (G:Good ce k P S X) (m:Str) (n:Nat):Jxe ce X m n (Jfb P m n):=by
 intro c f dvs h
 unfold Jfb at h
 cases hm:P.meth c m with
 | none=>rw[hm] at h;cases h
 | some fn =>
  rw[hm] at h
  dsimp only at h
  cases hd:fn.fill (n+1) with
  | none=>rw[hd] at h;cases h
  | some d =>
   rw[hd] at h
   cases h
   obtain⟨C,fa,fd,ps,hC,hcl,hM,D⟩:=G.pg.meth c m fn hm
   obtain⟨ds,hb,hl,q⟩:=Jqi D hd
   exact⟨C,fa,fd,k,ps,ds,hC,hcl,hM,D.ok,G.room.mono (Nat.le_succ k),hb,q,by omega⟩
theorem bm_ok {T:String}{m:Str}{n:Nat}{g:IV->List IV->IH->Res IV}(h:bmOf T m n=some g):∃id,PlainAttrs T/\Slot T m id/\typeOf (.builtin id)=pure (.type "method_descriptor")/\MtI ce X T id g:=by
 unfold bmOf at h
 split at h
 ·rename_i hm
  simp only[Bool.and_eq_true,beq_iff_eq] at hm
  obtain⟨⟨rfl,rfl⟩,_⟩:=hm
  cases h
  exact⟨_,PySem.F.plainAttrs_list,PySem.F.slot_list_append,PySem.F.type_list_append,J07⟩
 ·split at h
  ·rename_i hm
   simp only[Bool.and_eq_true,beq_iff_eq] at hm
   obtain⟨⟨rfl,rfl⟩,_⟩:=hm
   cases h
   exact⟨_,PySem.F.plainAttrs_str,PySem.F.slot_str_join,PySem.F.type_str_join,J6v⟩
  ·split at h
   ·rename_i hm
    simp only[Bool.and_eq_true,beq_iff_eq] at hm
    obtain⟨⟨rfl,rfl⟩,_⟩:=hm
    cases h
    exact⟨_,PySem.F.plainAttrs_dict,PySem.F.slot_dict_setdefault,PySem.F.type_dict_setdefault,J08⟩
   ·cases h
theorem J7t {o:Expr}{m:Str}{mo:E1}{args:List Expr}{f:Expr->E1}{ap pos:Pos}{T:String}{g:IV->List IV->IH->Res IV}{n:Nat}(hg:bmOf T m n=some g) (ho:PEi ce X o mo) (hf:∀e,PEi ce X e (f e)) (ha:args.all Jk=true) (hb:Jfe o=true) (hl:(ap.endLine==pos.line)=true) (hn:args.length<30) :
  PEi ce X (.Call (.Attribute o m ap) args [] pos) (eBm T g mo (aAll (args.map f))):=by
 obtain⟨id,pa,sl,ty,mt⟩:=bm_ok (ce:=ce) (X:=X) hg
 cases args with
 | nil=>exact i_bm0 pa sl ty mt ho (Jg5 hb) hl
 | cons a es =>
  have ha':=ha
  simp only[List.all_cons,Bool.and_eq_true] at ha'
  exact i_bm pa sl ty mt ho (Jqb ha hf) (Jg5 hb) (J3q ha hn) hl (Jd ha'.1) (Jfg ha'.2)
theorem J4z (G:Good ce k P S X){o:Expr}{m:Str}{mo:E1}{args:List Expr}{f:Expr->E1}{ap pos:Pos}(ho:PEi ce X o mo) (hf:∀e,PEi ce X e (f e)) (ha:args.all Jk=true) (hb:Jfe o=true) (hl:(ap.endLine==pos.line)=true) (hn:args.length<30) :
  PEi ce X (.Call (.Attribute o m ap) args [] pos) (eDot P m args.length mo (aAll (args.map f))):=by
 refine px_pt λ σi h=>?_
 unfold eDot
 cases e:mo σi h with
 | exc n h1=>exact⟨λ _ _=>.stuck,rfl,Jb⟩
 | stuck=>exact⟨λ _ _=>.stuck,rfl,Jb⟩
 | ok v h1 =>
  dsimp only
  split
  ·refine⟨_,rfl,?_⟩
   cases args with
   | nil=>exact J3x ho (Jx7 G m 0) (Jny hb ha hl hn)
   | cons a es =>
    have ha':=ha
    simp only[List.all_cons,Bool.and_eq_true] at ha'
    refine J6d ho (Jx7 G m (a::es).length) (Jqb ha hf) (λ σ h xs h' e=>?_) (Jd ha'.1) (Jfg ha'.2) (Jny hb ha hl hn)
    have:=Ji5 _ σ h xs h' e
    rwa [List.length_map] at this
  ·cases hg:bmOf (tyS v h1) m args.length with
   | none=>exact⟨λ _ _=>.stuck,rfl,Jb⟩
   | some g=>exact⟨_,rfl,J7t hg ho hf ha hb hl hn⟩
theorem J1n (G:Good ce k P S X){o:Expr}{m:Str}{mo:E1}{args:List Expr}{f:Expr->E1}{ap pos:Pos}(ho:PEi ce X o mo) (hf:∀e,PEi ce X e (f e)) (ha:args.all Jk=true) (hb:Jfe o=true) (hl:(ap.endLine==pos.line)=true) (hn:args.length<30) :
  PEi ce X (.Call (.Attribute o m ap) args [] pos) (J3k P m args.length (Ju3 P S m o) mo (aAll (args.map f))):=by
 cases eb:Ju3 P S m o with
 | none=>exact J4z G ho hf ha hb hl hn
 | some g =>
  cases o with
  | Name x q =>
   have eb2:(if m=="__init__"&&S.gl x&&P.bas x then P.cls x else none)=some g:=eb
   clear eb
   split at eb2
   ·rename_i hq
    simp only[Bool.and_eq_true,beq_iff_eq] at hq
    obtain⟨⟨rfl,hg⟩,hx⟩:=hq
    obtain⟨C,fa,fd,ps,hm,hC,M,D⟩:=G.pg.cls x g eb2
    obtain⟨C',hm',B⟩:=G.pg.bas x hx
    rw[hm] at hm'
    cases hm'
    obtain⟨gl,hdb,_⟩:=G.gl hg
    show PEi ce X _ (if args.length=0 then stE else Jnh g args.length (aAll (args.map f)))
    split
    ·exact Jb
    rename_i hz
    unfold Jnh
    cases hd:g.fill args.length with
    | none=>exact Jb
    | some d =>
     obtain⟨ds,hb',hl',q⟩:=Jqi D hd
     have hr:Room k X.A:=G.room.mono (Nat.le_succ k)
     cases args with
     | nil=>exact absurd rfl hz
     | cons a es =>
      have ha':=ha
      simp only[List.all_cons,Bool.and_eq_true] at ha'
      refine J56 D.ok hr gl hm B M hb' q (Jqb ha hf) (λ σ h xs h' e=>?_) hdb (Jd ha'.1) (Jfg ha'.2) (Jny hb ha hl hn)
      have:=Ji5 _ σ h xs h' e
      rw[List.length_map] at this
      rw[this]
      exact hl'
   ·cases eb2
  | _=>cases eb
theorem J40 (G:Good ce k P S X){a:Expr}{ma:E1}{y:Str}{p p2 pos:Pos}(ha:PEi ce X a ma) (hs:Jk a=true) (hg:S.gl "isinstance"=true) (hfr:P.free "isinstance"=true) (hy:S.gl y=true) :
  PEi ce X (.Call (.Name "isinstance" p) [a,.Name y p2] [] pos) (J3l (Jz8 P y) ma):=by
 unfold J3l
 cases e:Jz8 P y with
 | none=>exact Jb
 | some ans =>
  obtain⟨gy,ydb,yn⟩:=G.gl hy
  have fin:∀{c:Value},ClsE X (.Name y p2) c->IsOk ce X.K c ans->PEi ce X (.Call (.Name "isinstance" p) [a,.Name y p2] [] pos) (eIsi ans ma):=λ hc O =>
   i_isi hc O ha (G.gl hg).1 (G.pg.free _ hfr) rfl (Jd hs) rfl rfl
  unfold Jz8 at e
  cases hi:P.isa y with
  | some g =>
   rw[hi] at e
   cases e
   obtain⟨c,hm,O⟩:=G.pg.isa y g hi
   exact fin (J3d gy hm ydb) O
  | none =>
   rw[hi] at e
   dsimp only at e
   split at e
   ·rename_i hf
    have hm:=G.pg.free y hf
    split at e
    ·rename_i q;cases (beq_iff_eq.mp q);cases e;exact fin (Jne gy hm rfl yn ydb) J0u
    ·split at e
     ·rename_i q;cases (beq_iff_eq.mp q);cases e;exact fin (Jne gy hm rfl yn ydb) Jyo
     ·split at e
      ·rename_i q;cases (beq_iff_eq.mp q);cases e;exact fin (Jne gy hm rfl yn ydb) J0v
      ·split at e
       ·rename_i q
        cases (beq_iff_eq.mp q)
        cases e
        refine fin (Jne gy hm rfl yn ydb) ?_
        split
        ·rename_i q
         refine Jwd λ C hC=>?_
         obtain⟨C',h1,_,h2⟩:=G.pg.ne _ q
         cases hC.symm.trans h1
         exact h2
        ·exact Jsf
       ·split at e
        ·rename_i q;cases (beq_iff_eq.mp q);cases e;exact fin (Jne gy hm rfl yn ydb) J0w
        ·cases e
   ·cases e
theorem J1o (G:Good ce k P S X){a:Expr}{ma:E1}{x:Str}{p pos:Pos}(ha:PEi ce X a ma) (hs:Jk a=true) (hg:S.gl x=true) (hfr:P.free x=true) (hx:Jvc x=true) :
  PEi ce X (.Call (.Name x p) [a] [] pos) (eCB (bltF x) (Ja ma aNil)):=by
 obtain⟨gx,xdb,xn⟩:=G.gl hg
 have hm:=G.pg.free x hfr
 have hh:=G.room.hd
 have pa:PAi ce X [a] (Ja ma aNil):=Jfh ha Jmy (Jd hs)
 unfold Jvc at hx
 simp only[Bool.or_eq_true,beq_iff_eq] at hx
 rcases hx with((((rfl|rfl)|rfl)|rfl)|rfl)|rfl
 ·exact Jdd c_len gx hm rfl pa xn xdb (Jd hs) rfl
 ·exact Jdd (c_all hh) gx hm rfl pa xn xdb (Jd hs) rfl
 ·exact Jdd (c_sum hh) gx hm rfl pa xn xdb (Jd hs) rfl
 ·exact Jdd J0b gx hm rfl pa xn xdb (Jd hs) rfl
 ·exact Jdd (J5r hh) gx hm rfl pa xn xdb (Jd hs) rfl
 ·exact Jdd (J5q hh) gx hm rfl pa xn xdb (Jd hs) rfl
theorem Jzl (G:Good ce k P S X){a:Expr}{ma:E1}{x:Str}{p pos:Pos}(ha:PEi ce X a ma) (hs:Jk a=true) (hg:S.gl x=true) (hfr:P.free x=true) (hx:Jvc x=true) :
  PEi ce X (.Call (.Name x p) [a] [] pos) (if x=="min"&&J6s a then eCB (on1 Jui) (Ja ma aNil) else if x=="sorted"&&J7y a then eCB (on1 Jti) (Ja ma aNil) else eCB (bltF x) (Ja ma aNil)):=by
 split
 ·rename_i hq
  simp only[Bool.and_eq_true,beq_iff_eq] at hq
  obtain⟨rfl,_⟩:=hq
  obtain⟨gx,xdb,xn⟩:=G.gl hg
  exact Jdd (J3a G.room.hd (by have:=G.room.units;show X.A.units+1<cLine;omega)) gx (G.pg.free _ hfr) rfl (Jfh ha Jmy (Jd hs)) xn xdb (Jd hs) rfl
 ·split
  ·rename_i hq
   simp only[Bool.and_eq_true,beq_iff_eq] at hq
   obtain⟨rfl,_⟩:=hq
   obtain⟨gx,xdb,xn⟩:=G.gl hg
   exact Jdd J3b gx (G.pg.free _ hfr) rfl (Jfh ha Jmy (Jd hs)) xn xdb (Jd hs) rfl
  ·exact J1o G ha hs hg hfr hx
theorem J1p (G:Good ce k P S X){a:Expr}{ma:E1}{x:Str}{p pos:Pos}(ha:PEi ce X a ma) (hs:Jk a=true) (hg:S.gl x=true) (hfr:P.free x=true) (hx:Jyn x=true) :
  PEi ce X (.Call (.Name x p) [a] [] pos) (eCB (bltT x) (Ja ma aNil)):=by
 obtain⟨gx,xdb,xn⟩:=G.gl hg
 have hm:=G.pg.free x hfr
 have pa:PAi ce X [a] (Ja ma aNil):=Jfh ha Jmy (Jd hs)
 unfold Jyn at hx
 simp only[Bool.or_eq_true,beq_iff_eq] at hx
 rcases hx with(rfl|rfl)|rfl
 ·exact Jub J5p gx hm rfl pa xn xdb (Jd hs) rfl
 ·exact Jub J3c gx hm rfl pa xn xdb (Jd hs) rfl
 ·exact Jub J5n gx hm rfl pa xn xdb (Jd hs) rfl
theorem Jzk (G:Good ce k P S X){f:Expr->E1}(hf:∀e,PEi ce X e (f e)){x:Str}{args:List Expr}{p pos:Pos}(hg:S.gl x=true) (ha:args.all Jk=true) (hfr:P.free x=true) :
  PEi ce X (.Call (.Name x p) args [] pos) (Jqe P S x f args):=by
 unfold Jqe
 split
 ·rename_i a b
  simp only[List.all_cons,Bool.and_eq_true] at ha
  obtain⟨gx,xdb,xn⟩:=G.gl hg
  have hm:=G.pg.free x hfr
  have pa:PAi ce X [a,b] (Ja (f a) (Ja (f b) aNil)):=Jfh (hf a) (Jfh (hf b) Jmy (Jd ha.2.1)) (Jd ha.1)
  have h1:∀pos,(backTo pos (starEach [b] X.env)).any (·.1)=false:=λ pos=>Jfg (by simp[ha.2.1])
  split
  ·rename_i hs
   cases (beq_iff_eq.mp hs)
   exact Jdd (c_max G.calm) gx hm rfl pa xn xdb (Jd ha.1) (h1 _)
  ·split
   ·rename_i hs
    cases (beq_iff_eq.mp hs)
    exact Jb
   ·split
    ·rename_i y p2 _
     split
     ·rename_i hs
      simp only[Bool.and_eq_true,beq_iff_eq] at hs
      obtain⟨rfl,hy⟩:=hs
      exact J40 G (hf a) ha.1 hg hfr hy
     ·exact Jb
    ·exact Jb
 ·rename_i a
  simp only[List.all_cons,Bool.and_eq_true] at ha
  split
  ·rename_i e he
   split at he
   ·rename_i hc
    simp only[Bool.and_eq_true,beq_iff_eq] at hc
    obtain⟨⟨rfl,g2⟩,f2⟩:=hc
    unfold J2p at he
    split at he
    ·split at he
     ·rename_i hq
      simp only[Bool.and_eq_true,beq_iff_eq] at hq
      obtain⟨rfl,ns⟩:=hq
      cases he
      exact J0r G.room.hd (G.gl hg).1 (G.pg.free _ hfr) (G.gl g2).1 (G.pg.free _ f2) (Jfh (hf e) Jmy (Jd ns)) (Jd ns)
     ·cases he
    ·cases he
   ·cases he
  ·split
   ·rename_i e he
    split at he
    ·rename_i hc
     simp only[Bool.and_eq_true,beq_iff_eq] at hc
     obtain⟨⟨rfl,g2⟩,f2⟩:=hc
     unfold J2m at he
     split at he
     ·split at he
      ·rename_i hq
       simp only[Bool.and_eq_true,beq_iff_eq] at hq
       obtain⟨rfl,ns⟩:=hq
       cases he
       exact Jb
      ·cases he
     ·cases he
    ·cases he
   ·split
    ·rename_i hq
     simp only[Bool.and_eq_true,beq_iff_eq] at hq
     obtain⟨rfl,_⟩:=hq
     exact Jdd J5o (G.gl hg).1 (G.pg.free _ hfr) rfl (Jfh (hf a) Jmy (Jd ha.1)) (by decide) rfl (Jd ha.1) rfl
    split
    ·rename_i hb
     exact Jzl G (hf a) ha.1 hg hfr hb
    ·split
     ·rename_i hb
      exact J1p G (hf a) ha.1 hg hfr hb
     ·exact Jb
 ·exact Jb
theorem Jsh.of (G:Good ce k P S X){y:Str}{sc:Scope}(h:Jsh S y sc=true):LamSc X.N X.env.scope.names y (Jl8 sc) (jsOf S sc) sc:=by
 rw[G.n,G.sc]
 simp only[Jsh,Bool.and_eq_true,beq_iff_eq,Bool.not_eq_true',decide_eq_true_eq,List.all_eq_true,Bool.or_eq_true,beq_eq_false_iff_ne] at h
 obtain⟨⟨⟨⟨⟨⟨⟨h1,h2⟩,h3⟩,h4⟩,h5⟩,h6⟩,h7⟩,h8⟩:=h
 refine⟨h1,h2,h3,h4,h5,λ z hz e=>(h6 z hz).resolve_left λ q=>q e,λ z e=>PySem.mem_of_lookup e,λ i j z ej ez=>?_,by simp[jsOf],h8⟩
 unfold jsOf at ej
 rw[List.getElem?_map,ez] at ej
 cases ej
 exact h7 z (List.mem_of_getElem? ez)
theorem Good.lam (G:Good ce k P S X) (ho:S.own=true){y:Str}{sc:Scope}(h:Jsh S y sc=true) (f:Addr) (cd:Value) (s:Shared) (H:Hp):Good ce k P (S.lam y sc) (cxL X X.A.in1 (y::Jl8 sc) S.q sc f cd s H):=by
 have L:=Jsh.of G h
 exact⟨rfl,rfl,L.nd,L.kind,rfl,(G.room3 ho).in1.deeper _,λ z=>absurd z Bool.false_ne_true,G.pg,λ z=>absurd z Bool.false_ne_true,λ z=>absurd z Bool.false_ne_true,λ z=>absurd z Bool.false_ne_true⟩
theorem J1s (G:Good ce k P S X){f:Sc->Expr->E1}(hf:∀S X e,Good ce k P S X->PEi ce X e (f S e)){x y:Str}{a d:Expr}{p pos kp:Pos}:PEi ce X (.Call (.Name x p) [a] [⟨some y,d,kp⟩] pos) (minK P S f x a y d):=by
 cases d with
 | Lambda ps body sc lp =>
  show PEi ce X _ (match Jl2 ps,P.tabs S.q with|some z,some j=>if x=="min"&&y=="key"&&S.gl x&&P.free x&&Jk a&&S.own&&Jsh S z sc then Jv2 ltT S.q j (jsOf S sc) (Ja (f S a) aNil) (f (S.lam z sc) body) else stE|_,_=>stE)
  cases hy:Jl2 ps with
  | none=>exact Jb
  | some z =>
   cases hj:P.tabs S.q with
   | none=>exact Jb
   | some j =>
    dsimp only
    split
    ·rename_i hq
     simp only[Bool.and_eq_true,beq_iff_eq] at hq
     obtain⟨⟨⟨⟨⟨⟨rfl,rfl⟩,g1⟩,f1⟩,ns⟩,ho⟩,ok⟩:=hq
     exact J6e (k:=k+1) (G.gl g1).1 (G.pg.free _ f1) (Jfh (hf _ _ _ G) Jmy (Jd ns)) (λ A h=>J3e (by omega)) (Jd ns) (G.room3 ho) (G.code ho).1 (G.code ho).2 (G.pg.blt _ _ hj) hy (Jsh.of G ok) λ f cd s' H'=>hf _ _ _ (G.lam ho ok f cd s' H')
    ·exact Jb
 | _=>exact Jb
theorem J7u (G:Good ce k P S X){f:Sc->Expr->E1}(hf:∀S X e,Good ce k P S X->PEi ce X e (f S e)){x:Str}{args:List Expr}{kws:List Keyword}{p pos:Pos}:PEi ce X (.Call (.Name x p) args kws pos) (Jys P S f x args kws):=by
 unfold Jys
 split
 ·split
  ·rename_i hq
   simp only[Bool.and_eq_true,beq_iff_eq] at hq
   obtain⟨⟨⟨⟨rfl,rfl⟩,g1⟩,f1⟩,ns⟩:=hq
   exact J6c G.room.hd (G.gl g1).1 (G.pg.free _ f1) (Jfh (hf _ _ _ G) Jmy (Jd ns)) (hf _ _ _ G) (Jd ns)
  ·exact J1s G hf
 ·exact Jb
theorem J1u (ih:Snd ce k P n):Snd ce k P (n+1):=by
 refine⟨λ S X e G=>?_,λ S X e G=>?_,λ S X e G=>?_,λ S X x args p pos G hg ha=>?_,λ S X tg e G=>?_,λ S X e G=>?_⟩
 ·have ihe:=λ e=>ih.e S X e G
  have hu:=G.room.units
  cases e with
  | Constant c j p =>
   cases c with
   | int i=>exact i_int
   | bool b=>exact i_bl
   | none=>exact i_non
   | str x=>exact i_str
   | _=>exact Jb
  | Name x p =>
   show PEi ce X (.Name x p) (match S.vis x with|some i=>eVar i|none=>if S.gl x then(match P.con x with|some v=>eC v|none=>stE) else stE)
   cases hv:S.vis x with
   | some i =>
    obtain⟨h1,h2,h3,h4⟩:=G.vis hv
    exact i_var i h1 h2 h3 h4
   | none =>
    dsimp only
    split
    ·rename_i hg
     obtain⟨gx,xdb,_⟩:=G.gl hg
     cases hc:P.con x with
     | none=>exact Jb
     | some v =>
      obtain⟨u,y,hm,r,q⟩:=G.pg.con x v hc
      exact J6a gx hm r q xdb
    ·exact Jb
  | BinOp a op b p=>exact i_bin (o_bin op) (ihe a) (ihe b)
  | UnaryOp op a p=>exact i_un (o_un op) (ihe a)
  | BoolOp op vs p =>
   cases op with
   | And=>exact J2b ihe vs
   | Or=>exact J5z ihe vs
  | IfExp t a b p=>exact J3v (ih.t S X t G) (ihe a) (ihe b)
  | Compare a ops cs p =>
   match ops,cs with
   | [o],[b] =>
    show PEi ce X _ (if behindInMarks o b then stE else eBin (cmpD P.ne o b) (ev P n S a) (ev P n S b))
    split
    ·exact Jb
    ·rename_i hb
     exact i_cmp (J2l hu (λ c z=>let ⟨C,p,q,_⟩:=G.pg.ne c z;⟨C,p,q⟩) o b) (ihe a) (ihe b) (Bool.eq_false_iff.mpr hb)
   | [o,o'],[b,c] =>
    show PEi ce X _ (if lastMarks [o,o'] [b,c] then stE else Jfk (cmpI o) (cmpI o') (ev P n S a) (ev P n S b) (ev P n S c))
    split
    ·exact Jb
    ·rename_i hb
     exact J3u (Jy3 hu o) (Jy3 hu o') (ihe a) (ihe b) (ihe c) (Bool.eq_false_iff.mpr hb)
   | [],_=>exact Jb
   | [_],[]=>exact Jb
   | [_],_::_::_=>exact Jb
   | [_,_],[]=>exact Jb
   | [_,_],[_]=>exact Jb
   | [_,_],_::_::_::_=>exact Jb
   | _::_::_::_,_=>exact Jb
  | Tuple es j p =>
   show PEi ce X _ (if es.all Jk then eTup (aAll (es.map (ev P n S))) else stE)
   split
   ·rename_i hs
    exact i_tup (Jqb hs ihe)
   ·exact Jb
  | List es p =>
   show PEi ce X _ (if es.all Jk then eLst (aAll (es.map (ev P n S))) else stE)
   split
   ·rename_i hs
    exact i_lst (Jqb hs ihe)
   ·exact Jb
  | Dict ks vs p =>
   match ks,vs with
   | [some k],[v]=>exact Jb
   | [],[]=>exact J58
   | [],_::_=>exact Jb
   | [none],_=>exact Jb
   | [some _],[]=>exact Jb
   | [some _],_::_::_=>exact Jb
   | some _::_::_,_=>exact Jb
   | none::_::_,_=>exact Jb
  | Subscript a i p =>
   cases i with
   | Slice lo hi st q =>
    cases st with
    | none=>exact J3y (x_slD a) (ihe a) (ih.o S X lo G) (ih.o S X hi G)
    | some st=>exact Jb
   | _=>exact i_ix (x_ixF a) (ihe a) (ihe _) (J00 rfl)
  | Attribute o f p =>
   show PEi ce X _ (if Jfe o&&P.fld f then eFld f (ev P n S o) else stE)
   split
   ·rename_i hs
    simp only[Bool.and_eq_true] at hs
    exact i_fld (ihe o) (G.pg.fld f hs.2) (Jg5 hs.1)
   ·exact Jb
  | Call f args kws p =>
   cases kws with
   | cons kw kws =>
    cases f with
    | Name x q=>exact J7u G λ S X e G=>ih.e S X e G
    | _=>exact Jb
   | nil =>
    cases f with
    | Name x q =>
     show PEi ce X _ (if S.gl x&&args.all Jk then Jye P n S x args else stE)
     split
     ·rename_i hs
      simp only[Bool.and_eq_true] at hs
      exact ih.c S X x args q p G hs.1 hs.2
     ·exact Jb
    | Attribute o m ap =>
     show PEi ce X _ (if args.all Jk&&Jfe o&&(ap.endLine==p.line)&&decide (args.length<30) then J3k P m args.length (Ju3 P S m o) (ev P n S o) (aAll (args.map (ev P n S))) else stE)
     split
     ·rename_i hs
      simp only[Bool.and_eq_true,decide_eq_true_eq] at hs
      exact J1n G (ihe o) ihe hs.1.1.1 hs.1.1.2 hs.1.2 hs.2
     ·exact Jb
    | _=>exact Jb
  | ListComp elt gens sc p =>
   match gens with
   | [⟨tg,iter,ifs,as⟩] =>
    show PEi ce X _ (if as=0/\Jwp iter=true/\Jfj S.N (Jqq sc) (Jl8 sc) (jsOf S sc) S.fake sc=true then
     Jxz ifs (evT P n (S.comp sc)) (λ mt=>Jr (evI P n S tg iter) (Jqq sc).length (jsOf S sc) (tgt P n (S.comp sc) tg) mt (ev P n (S.comp sc) elt)) else stE)
    split
    ·rename_i hs
     obtain⟨rfl,hi,ok⟩:=hs
     have Gc:=G.comp ok
     have ok':=ok
     rw[<- Jrx G] at ok'
     match ifs with
     | []=>exact J2d G.calm (ih.i S X tg iter G) (λ C s H fp=>ih.g _ _ tg (Gc C s H fp)) (λ C s H fp=>J2v) (λ C s H fp=>ih.e _ _ elt (Gc C s H fp)) ok' G.n rfl (Jbt hi)
     | [c]=>exact J2d G.calm (ih.i S X tg iter G) (λ C s H fp=>ih.g _ _ tg (Gc C s H fp)) (λ C s H fp=>J2w (ih.t _ _ c (Gc C s H fp))) (λ C s H fp=>ih.e _ _ elt (Gc C s H fp)) ok' G.n rfl (Jbt hi)
     | _::_::_=>exact Jb
    ·exact Jb
   | []=>exact Jb
   | ⟨_,_,_,_⟩::_::_=>exact Jb
  | _=>exact Jb
 ·have ihe:=λ e=>ih.e S X e G
  have hu:=G.room.units
  cases e with
  | UnaryOp op a p =>
   cases op with
   | Not=>exact t_not (ih.t S X a G)
   | _=>exact J7w Jtl (ihe _)
  | BoolOp op vs p =>
   cases op with
   | And=>exact(J2r (λ e=>ih.t S X e G) vs).t
   | Or=>exact(J7v (λ e=>ih.t S X e G) vs).t
  | IfExp t a b p=>exact Jb
  | Compare a ops cs p =>
   match ops,cs with
   | [o],[b] =>
    show PTi ce X _ (if behindInMarks o b then stT else tOfB asB (eBin (cmpD P.ne o b) (ev P n S a) (ev P n S b)))
    split
    ·exact Jb
    ·rename_i hb
     exact t_cmp (J2l hu (λ c z=>let ⟨C,p,q,_⟩:=G.pg.ne c z;⟨C,p,q⟩) o b) (ihe a) (ihe b) (Bool.eq_false_iff.mpr hb)
   | [o,o'],[b,c] =>
    show PTi ce X _ (if lastMarks [o,o'] [b,c] then stT else tOfB asB (Jfk (cmpI o) (cmpI o') (ev P n S a) (ev P n S b) (ev P n S c)))
    split
    ·exact Jb
    ·rename_i hb
     exact J45 (Jy3 hu o) (Jy3 hu o') (ihe a) (ihe b) (ihe c) (Bool.eq_false_iff.mpr hb)
   | [],_=>exact Jb
   | [_],[]=>exact Jb
   | [_],_::_::_=>exact Jb
   | [_,_],[]=>exact Jb
   | [_,_],[_]=>exact Jb
   | [_,_],_::_::_::_=>exact Jb
   | _::_::_::_,_=>exact Jb
  | _=>exact J7w Jtl (ihe _)
 ·cases e with
  | none=>exact J69
  | some e=>exact J7a (ih.e S X e G)
 ·have ihe:=λ e=>ih.e S X e G
  show PEi ce X _ (match P.fn x with
  | some f=>Jnh f args.length (aAll (args.map (ev P n S)))
  | none=>match P.cls x with
   | some f=>Ju9 x f args.length (aAll (args.map (ev P n S)))
   | none=>if P.free x then Jqe P S x (ev P n S) args else stE)
  cases hx:P.fn x with
  | some f=>exact J1q G hx hg ha ihe
  | none =>
   dsimp only
   cases hc:P.cls x with
   | some f=>exact J1r G hc hg ha ihe
   | none =>
    dsimp only
    split
    ·rename_i hfr
     exact Jzk G ihe hg ha hfr
    ·exact Jb
 ·have ihe:=λ e=>ih.e S X e G
  cases e with
  | Call f args kws p =>
   cases kws with
   | cons _ _=>cases f<;>exact J0q (ihe _)
   | nil =>
    cases f with
    | Name x q =>
     show PIi ce X tg _ (if S.gl x&&P.free x&&args.all Jk&&(x=="range") then J55 args.length (aAll (args.map (ev P n S)))
      else if S.gl x&&P.free x&&args.all Jk&&(x=="enumerate") then(match tg,args with
       | .Tuple ..,[a]=>iRg Jgq (Ja (ev P n S a) aNil)
       | _,_=>stI)
      else iAny (ev P n S (.Call (.Name x q) args [] p)))
     split
     ·rename_i hs
      simp only[Bool.and_eq_true,beq_iff_eq] at hs
      obtain⟨⟨⟨hg,hf⟩,ha⟩,rfl⟩:=hs
      obtain⟨gx,_,_⟩:=G.gl hg
      have hm:=G.pg.free _ hf
      have pa:=Jqb ha ihe
      match args,ha,pa with
      | [],_,_=>exact Jkr
      | [a],ha,pa =>
       simp only[List.all_cons,Bool.and_eq_true] at ha
       exact J0s gx hm pa (Jd ha.1)
      | [a,b],ha,pa =>
       simp only[List.all_cons,Bool.and_eq_true] at ha
       exact Jkr
      | _::_::_::_,_,_=>exact Jkr
     ·split
      ·rename_i hs
       simp only[Bool.and_eq_true,beq_iff_eq] at hs
       obtain⟨⟨⟨hg,hf⟩,ha⟩,rfl⟩:=hs
       obtain⟨gx,_,_⟩:=G.gl hg
       have hm:=G.pg.free _ hf
       split
       ·simp only[List.all_cons,Bool.and_eq_true] at ha
        exact J59 gx hm (Jfh (ihe _) Jmy (Jd ha.1)) (Jd ha.1)
       ·exact Jkr
      ·exact J0q (ihe _)
    | _=>exact J0q (ihe _)
  | _=>exact J0q (ihe _)
 ·cases e with
  | Name x p =>
   show PGi ce X _ (match S.sto x with|some i=>gNm i|none=>stG)
   cases hv:S.sto x with
   | none=>exact Jhd
   | some i =>
    obtain⟨h1,h2,h3⟩:=G.sto hv
    exact g_nm G.nodup h1 h2 h3
  | Tuple es j p =>
   show PGi ce X _ (if es.all Jk then gTp es.length (gAll (es.map (tgt P n S))) else stG)
   split
   ·rename_i hs
    exact g_tup G.calm (J2c hs λ e=>ih.g S X e G) (J15 hs) (Jxn hs)
   ·exact Jhd
  | Subscript o i p =>
   show PGi ce X _ (if Jqu i then gSbF o (ev P n S o) (ev P n S i) else stG)
   split
   ·rename_i hs
    unfold gSbF
    split
    ·refine J52 (ih.e S X o G) (ih.e S X i G) λ v=>?_
     cases i<;>first|rfl|cases hs
    ·exact Jhd
   ·exact Jhd
  | _=>exact Jhd
theorem Jq5 (ce:Str->Option Addr) (k:Nat) (P:Pg):∀n,Snd ce k P n
 | 0=>J1v
 | n+1=>J1u (Jq5 ce k P n)
end
section
variable {ce:Str->Option Addr}{X:Cx}{pos:Pos}
end
section
variable {ce:Str->Option Addr}{k:Nat}{P:Pg}{n:Nat}{S:Sc}{X:Cx}
theorem Js3 {f:Stmt->S1}(hf:∀s,PS1 ce X s (f s)):∀(l:List Stmt),PS2 ce X l (sAll (l.map f))
 | []=>J7k
 | [a]=>J7l (hf a)
 | a::b::r=>J4s (hf a) (Js3 hf (b::r))
end
section
variable {ce:Str->Option Addr}{k:Nat}{P:Pg}{S:Sc}{X:Cx}{xi:Xi}{xf:Str->Str->Bool}{fr:Str->Bool}
end
section
variable {ce:Str->Option Addr}{k:Nat}{P:Pg}{n:Nat}{S:Sc}{X:Cx}
theorem J27 {tg:Expr}{env:Env}(h:Jk tg=true):(assignEach [tg] env).map (·.2)=[assign tg env]:=by
 cases tg<;>first|rfl|cases h
theorem J1t (G:Good ce k P S X) (i:Nat){e:Expr}{x:Str}{p q:Pos}(h:isLC e=true) (h1:X.N[i]?=some x) (h2:L2.Loc X.env.scope x) (h3:X.fn x=true∨X.env.scope.names.lookup x=some .local) :
  PS1 ce X (.Assign [.Name x q] e p) (sSet i (ev P n S e)):=by
 cases e with
 | ListComp elt gens sc cp =>
  cases hb:(X.env.blockKind==.function&&X.env.kindOf x==some .local&&q.line==cp.line&&!(sc.names.any λ (n,k)=>n==x&&(k==.local||k==.cell))) with
  | false =>
   refine J7r G.nodup ((Jq5 ce k P n).e S X _ G) h1 h2 ?_ h3
   show(pure (X.env.blockKind==.function&&X.env.kindOf x==some .local&&q.line==cp.line&&!(sc.names.any λ (n,k)=>n==x&&(k==.local||k==.cell))):Sem Bool)=pure false
   rw[hb]
  | true =>
   have hsw:swapsWith (.ListComp elt gens sc cp) (some (.Name x q)) p.line X.env=pure true:=by
    show(pure (X.env.blockKind==.function&&X.env.kindOf x==some .local&&q.line==cp.line&&!(sc.names.any λ (n,k)=>n==x&&(k==.local||k==.cell))):Sem Bool)=pure true
    rw[hb]
   have dead:∀m:E1,(∀σ h,m σ h=.stuck)->PS1 ce X (.Assign [.Name x q] (.ListComp elt gens sc cp) p) (sSet i m):=λ m hm=>by
    intro pins s σ H ι σi h Q E N K
    unfold sSet at K
    rw[hm] at K
    exact Zf K
   cases n with
   | zero=>exact dead _ λ _ _=>rfl
   | succ n =>
    have ih:=Jq5 ce k P n
    match gens,hsw with
    | [⟨tg,iter,ifs,as⟩],hsw =>
     show PS1 ce X _ (sSet i (if as=0/\Jwp iter=true/\Jfj S.N (Jqq sc) (Jl8 sc) (jsOf S sc) S.fake sc=true then
      Jxz ifs (evT P n (S.comp sc)) (λ mt=>Jr (evI P n S tg iter) (Jqq sc).length (jsOf S sc) (tgt P n (S.comp sc) tg) mt (ev P n (S.comp sc) elt)) else stE))
     split
     ·rename_i hs
      obtain⟨rfl,hi,ok⟩:=hs
      have Gc:=G.comp ok
      have ok':=ok
      rw[<- Jrx G] at ok'
      match ifs,hsw with
      | [],hsw=>exact J2o G.calm (ih.i S X tg iter G) (λ C s H fp=>ih.g _ _ tg (Gc C s H fp)) (λ C s H fp=>J2v) (λ C s H fp=>ih.e _ _ elt (Gc C s H fp)) ok' G.n rfl (Jbt hi) G.nodup h1 h2 h3 hsw
      | [c],hsw=>exact J2o G.calm (ih.i S X tg iter G) (λ C s H fp=>ih.g _ _ tg (Gc C s H fp)) (λ C s H fp=>J2w (ih.t _ _ c (Gc C s H fp))) (λ C s H fp=>ih.e _ _ elt (Gc C s H fp)) ok' G.n rfl (Jbt hi) G.nodup h1 h2 h3 hsw
      | _::_::_,_=>exact dead _ λ _ _=>rfl
     ·exact dead _ λ _ _=>rfl
    | [],_=>exact dead _ λ _ _=>rfl
    | ⟨_,_,_,_⟩::_::_,_=>exact dead _ λ _ _=>rfl
 | _=>cases h
theorem Jvl (ce:Str->Option Addr) (k:Nat) (P:Pg):∀(n:Nat) (S:Sc) (X:Cx) (st:Stmt),Good ce k P S X->PS1 ce X st (ex P n S st)
 | 0,_,_,_,_=>J1
 | n+1,S,X,st,G=>by
  have ih:=λ st=>Jvl ce k P n S X st G
  have E:=Jq5 ce k P n
  have ihe:=λ e=>E.e S X e G
  cases st with
  | Pass p=>exact J7p
  | Break p=>exact J4w
  | Continue p=>exact J7n
  | Expr e p =>
   show PS1 ce X _ (if Jkp e then Jgv (ev P n S e) else stS)
   split
   ·rename_i h
    exact J7o (ihe e) (Jhe h)
   ·exact J1
  | Return v p =>
   cases v with
   | none=>exact J7q
   | some e=>exact s_ret (ihe e)
  | If c a b p=>exact s_if (E.t S X c G) (Js3 ih a) (Js3 ih b)
  | Raise exc cause p=>exact J1
  | Try body hs o f p=>exact J1
  | While c a o p=>exact J1
  | For tg it a o p =>
   cases o with
   | nil =>
    show PS1 ce X _ (if Jwp it&&S.own then sFor (evI P n S tg it) (tgt P n S tg) (sAll (a.map (ex P n S))) else stS)
    split
    ·rename_i h
     rw[Bool.and_eq_true] at h
     obtain⟨hk,hf⟩:=G.top h.2
     exact s_for G.calm hk hf (E.i S X tg it G) (E.g S X tg G) (Js3 ih a) (Jbt h.1)
    ·exact J1
   | cons _ _=>exact J1
  | Assign tgs e p =>
   match tgs with
   | []=>exact J1
   | a::_::_=>cases a<;>exact J1
   | [tg] =>
    have gen:PS1 ce X (.Assign [tg] e p) (if Jkp e&&((J0y tg&&J4f e)||J0x tg) then sAsg (ev P n S e) (tgt P n S tg) else stS):=by
     split
     ·rename_i h
      simp only[Bool.and_eq_true,Bool.or_eq_true] at h
      have hst:Jk tg=true:=by
       rcases h.2 with q|q
       ·cases tg<;>first|rfl|(simp[J0y] at q)
       ·cases tg<;>first|rfl|(simp[J0x] at q)
      refine s_asg (ihe e) (E.g S X tg G) (Jhe h.1) ?_ (J27 hst)
      rcases h.2 with q|q
      ·cases tg with
       | Tuple es j pp =>
        have q2:=q.2
        cases e<;>first|rfl|(simp[J4f] at q2)
       | _=>simp[J0y] at q
      ·cases tg with
       | Subscript=>cases e<;>rfl
       | _=>simp[J0x] at q
     ·exact J1
    cases tg with
    | Name x q =>
     show PS1 ce X _ (if Jkp e||isLC e then(match S.sto x with|some i=>sSet i (ev P n S e)|none=>stS) else stS)
     split
     ·rename_i h
      cases hv:S.sto x with
      | none=>exact J1
      | some i =>
       obtain⟨h1,h2,h3⟩:=G.sto hv
       rcases Bool.or_eq_true _ _▸h with h|h
       ·exact J7r G.nodup (ihe e) h1 h2 (Jhe h) h3
       ·exact J1t G i h h1 h2 h3
     ·exact J1
    | Attribute o f q =>
     show PS1 ce X _ (if Jkp e then J4t P f (ev P n S o) (ev P n S e) else stS)
     split
     ·rename_i h
      unfold J4t
      split
      ·rename_i hf
       exact s_fld (ihe o) (ihe e) (G.pg.fld f hf) (Jhe h)
      ·exact J1
     ·exact J1
    | _=>exact gen
  | _=>exact J1
end
structure D4 where
 st:Stmt
 qual:Str
 ps:List Str
 N:List Str
 dvs:List IV
noncomputable def D4.sc (d:D4):Sc:=⟨d.N,(Jj d.st).names,true,d.qual⟩
structure Tab where
 fns:List (Str×D4)
 clss:List (Str×D4)
 meths:List (Str×List (Str×D4))
 cons:List (Str×IV)
 isas:List (Str×List Str)
 flds:List Str
 frees:List Str
 tabs:List Str:=[]
 razs:List Str:=[]
 xis:List (Str×List (Str×Bool)):=[]
 bass:List Str:=[]
 wrs:List (Str×D4):=[]
 nes:List Str:=[]
 xms:List (Str×D4):=[]
 xfs:List (Str×List Str):=[]
 xbs:List Str:=[]
noncomputable def memS (x:Str):List Str->Bool
 | []=>false
 | y::r=>y==x||memS x r
noncomputable def Jki {α:Type}(x:Str):List (Str×α)->Option α
 | []=>none
 | (y,a)::r=>if y==x then some a else Jki x r
noncomputable def xfOf (T:Tab) (f c:Str):Bool:=match Jki f T.xfs with|some l=>memS c l|none=>false
noncomputable def mkPg (T:Tab) (r:D4->List IV->IH->Res IV):Pg where
 fn:=λ x=>(Jki x T.fns).map λ d=>⟨d.ps.length,d.dvs,r d⟩
 cls:=λ x=>(Jki x T.clss).map λ d=>⟨d.ps.length,d.dvs,r d⟩
 meth:=λ c m=>((Jki c T.meths).bind (Jki m)).map λ d=>⟨d.ps.length,d.dvs,r d⟩
 con:=λ x=>Jki x T.cons
 isa:=λ x=>(Jki x T.isas).map λ l c=>memS c l
 fld:=λ x=>memS x T.flds
 free:=λ x=>memS x T.frees
 tabs:=λ q=>ixOf q T.tabs
 rz:=λ x=>memS x T.razs
 xi:=λ D=>(Jki D T.xis).map λ l c=>Jki c l
 bas:=λ x=>memS x T.bass
 wr:=λ _=>none
 ne:=λ x=>memS x T.nes
 xo:=λ x=>(Jki x T.xms).map λ d=>⟨d.ps.length,d.dvs,r d⟩
 xf:=xfOf T
 xb:=λ x=>memS x T.xbs
noncomputable def run (T:Tab):Nat->D4->List IV->IH->Res IV
 | 0,_=>λ _ _=>.stuck
 | k+1,d=>fnI d.N.length (sAll ((Jae d.st).map (ex (mkPg T (run T k)) 40 d.sc)))
theorem J4 {α:Type}{x:Str}{a:α}:∀{l:List (Str×α)},Jki x l=some a->(x,a)∈l
 | [],h=>by cases h
 | (y,b)::r,h=>by
  unfold Jki at h
  split at h
  ·rename_i e
   cases h
   rw[beq_iff_eq.mp e]
   exact List.mem_cons_self
  ·exact List.mem_cons_of_mem _ (J4 h)
theorem Jko {x:Str}:∀{l:List Str},memS x l=true->x∈l
 | [],h=>by cases h
 | y::r,h=>by
  unfold memS at h
  rcases Bool.or_eq_true _ _▸h with e|e
  ·rw[beq_iff_eq.mp e]
   exact List.mem_cons_self
  ·exact List.mem_cons_of_mem _ (Jko e)
structure DefOk (K:W.Frag) (x:Str) (d:D4) (fa:Addr) (fd:FuncData):Prop where
 fun_:∃dV,FunD K x d.qual d.st fa fd dV
 sc:FnScope d.N d.ps (Jj d.st)
 dv:∀j,j<=d.dvs.length->∃ds,Jhf K fd d.ps ds/\ds.length=d.dvs.length-j/\∃vs,Vals vs ds/\∀ι H,RVs K ι H (d.dvs.drop j) vs
structure TabOk (ce:Str->Option Addr) (T:Tab) (K:W.Frag) (mg:Str->Option Value):Prop where
 fn:∀x d,(x,d)∈T.fns->∃fa fd,mg x=some (.ref fa)/\DefOk K x d fa fd
 cls:∀x d,(x,d)∈T.clss->∃C fa fd,mg x=some (.ref C)/\ce x=some C/\Mk K C fa/\DefOk K "__init__" d fa fd
 meth:∀c l m d,(c,l)∈T.meths->(m,d)∈l->∃C fa fd,ce c=some C/\Cls K C/\Meth K C m fa/\DefOk K m d fa fd
 con:∀x v,(x,v)∈T.cons->∃u y,mg x=some u/\RelV y u/\∀ι H,RV K ι H v y
 isa:∀D l,(D,l)∈T.isas->∃c,mg D=some c/\IsOk ce K c λ t=>match t with|.ins c=>some (memS c l)|.exc _=>none|_=>some false
 fld:∀f,f∈T.flds->Jz6 ce K f
 free:∀x,x∈T.frees->mg x=none
 bas:∀x,x∈T.bass->∃C,mg x=some (.ref C)/\BasK K C
 ne:∀c,c∈T.nes->∃C,ce c=some C/\neIn K C=true/\ClsI K C/\W.kitOne K (.ref C) (.type "list")=some false
section
variable {ce:Str->Option Addr}{T:Tab}{prog:Program}{w:World}{K:W.Frag}{mg:Str->Option Value}{base:Heap}
theorem Jv3 {k:Nat}{fa:Addr}{fd:FuncData}{ps:List Str}:FnOk prog w K mg base (CXI prog w) k fa fd ps (spI ce K ps λ _ _=>.stuck) :=
 ⟨λ _ _ _ _ h=>h.1,λ _ _ _ _ _ _ _ _ _ _ _ _ _ h=>by obtain⟨_,_,_,_,_,_,z⟩:=h;exact z.elim⟩
theorem pg_of (O:TabOk ce T K mg) (B:T.tabs≠[]->Jmx mg base) (k:Nat) (hD:∀x d fa fd,DefOk K x d fa fd->FnD ce prog w K mg base (4*k) ⟨d.ps.length,d.dvs,run T k d⟩ fa fd d.ps):PgOk ce (4*k) (mkPg T (run T k)) prog w K mg base:=by
 refine⟨λ x f h=>?_,λ x f h=>?_,λ c m f h=>?_,λ x v h=>?_,λ D g h=>?_,λ f h=>?_,λ x h=>?_,λ q j h=>B λ e=>?_,λ x h=>O.bas x (Jko h),λ c h=>O.ne c (Jko h)⟩
 ·obtain⟨d,hd,rfl⟩:=Option.map_eq_some_iff.mp h
  obtain⟨fa,fd,hm,ok⟩:=O.fn x d (J4 hd)
  obtain⟨dV,F⟩:=ok.fun_
  exact⟨fa,fd,d.ps,hm,F.kp,hD x d fa fd ok⟩
 ·obtain⟨d,hd,rfl⟩:=Option.map_eq_some_iff.mp h
  obtain⟨C,fa,fd,hm,hC,M,ok⟩:=O.cls x d (J4 hd)
  exact⟨C,fa,fd,d.ps,hm,hC,M,hD _ d fa fd ok⟩
 ·obtain⟨d,hd,rfl⟩:=Option.map_eq_some_iff.mp h
  obtain⟨l,hl,hd⟩:=Option.bind_eq_some_iff.mp hd
  obtain⟨C,fa,fd,hC,cl,me,ok⟩:=O.meth c l m d (J4 hl) (J4 hd)
  exact⟨C,fa,fd,d.ps,hC,cl,me,hD m d fa fd ok⟩
 ·exact O.con x v (J4 h)
 ·obtain⟨l,hl,rfl⟩:=Option.map_eq_some_iff.mp h
  exact O.isa D l (J4 hl)
 ·exact O.fld f (Jko h)
 ·exact O.free x (Jko h)
 ·have h':ixOf q T.tabs=some j:=h
  rw[e] at h'
  cases h'
theorem J19 (O:TabOk ce T K mg) (B:T.tabs≠[]->Jmx mg base):∀k x d fa fd,DefOk K x d fa fd->FnD ce prog w K mg base (4*k) ⟨d.ps.length,d.dvs,run T k d⟩ fa fd d.ps
 | 0,x,d,fa,fd,ok=>⟨rfl,Jv3,ok.dv⟩
 | k+1,x,d,fa,fd,ok=>by
  refine⟨rfl,?_,ok.dv⟩
  obtain⟨dV,F⟩:=ok.fun_
  show FnOk prog w K mg base (CXI prog w) (4*k+3+1) fa fd d.ps (spI ce K d.ps (run T (k+1) d))
  refine F.fn (m:=sAll ((Jae d.st).map (ex (mkPg T (run T k)) 40 d.sc))) ok.sc λ cdv A outer s H E hcd hr=>?_
  refine Js3 (λ st=>Jvl ce (4*k) (mkPg T (run T k)) 40 d.sc _ st ?_) _
  exact⟨rfl,rfl,ok.sc.nd,ok.sc.kind,rfl,hr.mono (by omega),λ _ _=>rfl,pg_of O B k (J19 O B k),λ _=>⟨hcd,rfl⟩,λ _=>hr,λ _=>⟨rfl,rfl⟩⟩
end
inductive All {α:Type}(p:α->Prop):List α->Prop
 | nil:All p []
 | cons {a:α}{l:List α}:p a->All p l->All p (a::l)
theorem All.mem {α:Type}{p:α->Prop}:∀{l:List α}{a:α},All p l->a∈l->p a
 | _,_,.nil,h=>by cases h
 | _,_,.cons h r,m=>by
  rcases List.mem_cons.mp m with rfl|m
  ·exact h
  ·exact r.mem m
noncomputable def Jbb (l:List Str):Ty->Option Bool:=λ t=>match t with|.ins c=>some (memS c l)|.exc _=>none|_=>some false
section
variable {T:Tab}{K:W.Frag}{mg:Str->Option Value}
noncomputable def ceOf (ces:List (Str×Addr)):Str->Option Addr:=λ c=>Jki c ces
theorem J7x (ces:List (Str×Addr)) (fn:All (λ p:Str×D4=>∃fa fd,mg p.1=some (.ref fa)/\DefOk K p.1 p.2 fa fd) T.fns)
  (cls:All (λ p:Str×D4=>∃C fa fd,mg p.1=some (.ref C)/\ceOf ces p.1=some C/\Mk K C fa/\DefOk K "__init__" p.2 fa fd) T.clss)
  (meth:All (λ q:Str×List (Str×D4)=>∃C,ceOf ces q.1=some C/\All (λ p:Str×D4=>∃fa fd,Meth K C p.1 fa/\DefOk K p.1 p.2 fa fd) q.2) T.meths)
  (con:All (λ p:Str×IV=>∃u y,mg p.1=some u/\RelV y u/\∀ι H,RV K ι H p.2 y) T.cons)
  (cl:All (λ p:Str×Addr=>ClsI K p.2/\All (λ f=>Jdz K p.2 f) T.flds) ces)
  (isa:All (λ q:Str×List Str=>∃D,mg q.1=some (.ref D)/\W.kitOne K (.type "NoneType") (.ref D)=some false/\W.kitOne K (.type "bool") (.ref D)=some false/\W.kitOne K (.type "int") (.ref D)=some false/\W.kitOne K (.type "str") (.ref D)=some false /\
   W.kitOne K (.type "list") (.ref D)=some false/\W.kitOne K (.type "tuple") (.ref D)=some false/\W.kitOne K (.type "dict") (.ref D)=some false/\All (λ p:Str×Addr=>W.kitOne K (.ref p.2) (.ref D)=some (memS p.1 q.2)) ces) T.isas)
  (free:All (λ x=>mg x=none) T.frees)
  (bas:All (λ x=>∃C,mg x=some (.ref C)/\BasK K C) T.bass:=by exact .nil)
  (nes:All (λ c=>∃C,ceOf ces c=some C/\neIn K C=true/\W.kitOne K (.ref C) (.type "list")=some false) T.nes:=by exact .nil):TabOk (ceOf ces) T K mg:=by
 refine⟨λ x d h=>fn.mem h,λ x d h=>cls.mem h,λ c l m d hc hm=>?_,λ x v h=>con.mem h,λ D l h=>?_,λ f hf=>?_,λ x h=>free.mem h,λ x h=>bas.mem h,λ c h=>let ⟨C,p,q,r⟩:=nes.mem h;⟨C,p,q,(cl.mem (J4 p)).1,r⟩⟩
 ·obtain⟨C,hC,hl⟩:=meth.mem hc
  obtain⟨fa,fd,me,ok⟩:=hl.mem hm
  exact⟨C,fa,fd,hC,(cl.mem (J4 hC)).1.cl,me,ok⟩
 ·obtain⟨C,hC,h1,h2,h3,h4,h5,h6,h7,h8⟩:=isa.mem h
  refine⟨_,hC,⟨λ b e=>?_,λ b e=>?_,λ b e=>?_,λ b e=>?_,λ b e=>?_,λ b e=>?_,λ b e=>?_,λ k C' b e hk=>?_,(λ k C' b e=>by cases e)⟩⟩
  ·cases e;exact h1
  ·cases e;exact h2
  ·cases e;exact h3
  ·cases e;exact h4
  ·cases e;exact h5
  ·cases e;exact h6
  ·cases e;exact h7
  ·cases e
   exact⟨(cl.mem (J4 hk)).1,h8.mem (J4 hk)⟩
 ·intro c C e
  obtain⟨h1,h2⟩:=cl.mem (J4 e)
  exact⟨h1.cl,h2.mem hf⟩
theorem len1 {α:Type}{P:List α->Prop}(F0:∀a,P [a]):∀us:List α,us.length=1->P us
 | [a],_=>F0 a
theorem len2 {α:Type}{P:List α->Prop}(F0:∀a b,P [a,b]):∀us:List α,us.length=2->P us
 | [a,b],_=>F0 a b
theorem len3 {α:Type}{P:List α->Prop}(F0:∀a b c,P [a,b,c]):∀us:List α,us.length=3->P us
 | [a,b,c],_=>F0 a b c
theorem len4 {α:Type}{P:List α->Prop}(F0:∀a b c d,P [a,b,c,d]):∀us:List α,us.length=4->P us
 | [a,b,c,d],_=>F0 a b c d
theorem len5 {α:Type}{P:List α->Prop}(F0:∀a b c d e,P [a,b,c,d,e]):∀us:List α,us.length=5->P us
 | [a,b,c,d,e],_=>F0 a b c d e
theorem len6 {α:Type}{P:List α->Prop}(F0:∀a b c d e f,P [a,b,c,d,e,f]):∀us:List α,us.length=6->P us
 | [a,b,c,d,e,f],_=>F0 a b c d e f
theorem len7 {α:Type}{P:List α->Prop}(F0:∀a b c d e f g,P [a,b,c,d,e,f,g]):∀us:List α,us.length=7->P us
 | [a,b,c,d,e,f,g],_=>F0 a b c d e f g
theorem upto3:∀j:Nat,j<=3->j=0∨j=1∨j=2∨j=3:=by omega
theorem J18 {x:Str}{d:D4}{fa:Addr}{oc kV doc pm cdv ct:Value}{od an:Option Addr}{osl:Array (Option Value)}(lk:K.lookup fa=some ⟨oc,od,.func (W.fnOf x d.qual (Jbh d.st) (Jae d.st) (Jj d.st) .none kV doc pm an cdv ct),osl⟩)
  (hc:W.codeIn K cdv d.qual=true) (hk:W.keepIn K (.ref fa)=true) (sc:FnScope d.N d.ps (Jj d.st)) (hd:d.dvs=[])
  (hb:∀us:List Value,us.length=d.ps.length->bindArgs (W.fnOf x d.qual (Jbh d.st) (Jae d.st) (Jj d.st) .none kV doc pm an cdv ct) ⟨us,[]⟩=pure (d.ps.zip us)) :
  DefOk K x d fa (W.fnOf x d.qual (Jbh d.st) (Jae d.st) (Jj d.st) .none kV doc pm an cdv ct) :=
 ⟨⟨_,⟨oc,od,kV,doc,pm,an,cdv,ct,osl,rfl,lk,hc⟩,hk⟩,sc,λ j hj=>⟨[],.all hb,by rw[hd];simp,[],.nil,by rw[hd];intro _ _;cases j<;>exact rfl⟩⟩
noncomputable def scOk (N P:List Str) (sc:Scope):Bool :=
 sc.kind==.function&&!sc.isCoroutine&&!sc.isGenerator&&decide N.Nodup&&decide (N.take P.length=P)&&P.all (λ x=>sc.names.lookup x==some .local||sc.names.lookup x==some .cell)&&sc.names.all (λ y=>!(y.2==.free))
theorem scOk.of {N P:List Str}{sc:Scope}(h:scOk N P sc=true):FnScope N P sc:=by
 simp only[scOk,Bool.and_eq_true,beq_iff_eq,Bool.not_eq_true',decide_eq_true_eq,List.all_eq_true,Bool.or_eq_true,beq_eq_false_iff_ne] at h
 obtain⟨⟨⟨⟨⟨⟨h1,h2⟩,h3⟩,h4⟩,h5⟩,h6⟩,h7⟩:=h
 exact⟨h1,h2,h3,h4,h5,h6,h7⟩
noncomputable def FnB (x q:Str) (d:D4):Prop:=FnScope d.N d.ps (Jj d.st)/\d.dvs=[]/\d.qual=q/\∀(kV doc pm:Value) (an:Option Addr) (cdv ct:Value) (us:List Value),us.length=d.ps.length->bindArgs (W.fnOf x d.qual (Jbh d.st) (Jae d.st) (Jj d.st) .none kV doc pm an cdv ct) ⟨us,[]⟩=pure (d.ps.zip us)
section
variable {x q:Str}{d:D4}{h:Heap}{a C:Addr}{oc kV dc pm cd ct:Value}{od an:Option Addr}{sl:Array (Option Value)}
theorem Jyz (B:FnB x q d) (hl:K.lookup a=some ⟨oc,od,.func (W.fnOf x q (Jbh d.st) (Jae d.st) (Jj d.st) .none kV dc pm an cd ct),sl⟩) (hc:W.codeIn K cd q=true) (hk:W.keepIn K (.ref a)=true):∃fd,DefOk K x d a fd:=by
 obtain⟨s,v,rfl,b⟩:=B
 exact⟨_,J18 hl hc hk s v (b _ _ _ _ _ _)⟩
theorem Jay (X:K.In h) (G:h.Ns mainGlobals mg) (B:FnB x q d) (ha:W.nsIn K mainGlobals x=some (some (.ref a))) (hl:K.lookup a=some ⟨oc,od,.func (W.fnOf x q (Jbh d.st) (Jae d.st) (Jj d.st) .none kV dc pm an cd ct),sl⟩) (hc:W.codeIn K cd q=true) (hk:W.keepIn K (.ref a)=true):∃fa fd,mg x=some (.ref fa)/\DefOk K x d fa fd :=
 let ⟨fd,D⟩:=Jyz B hl hc hk
 ⟨a,fd,W.mg_of X G ha,D⟩
theorem Jd5 (B:FnB x q d) (ha:W.findIn K (.ref C) x=some (some (.ref a))) (hi:W.isFn K (.ref a)=true) (hl:K.lookup a=some ⟨oc,od,.func (W.fnOf x q (Jbh d.st) (Jae d.st) (Jj d.st) .none kV dc pm an cd ct),sl⟩) (hc:W.codeIn K cd q=true) (hk:W.keepIn K (.ref a)=true):∃fa fd,Meth K C x fa/\DefOk K x d fa fd :=
 let ⟨fd,D⟩:=Jyz B hl hc hk
 ⟨a,fd,⟨ha,hi,hk⟩,D⟩
theorem Jy0 (B:FnB "__init__" q d) (ha:W.findIn K (.ref C) "__init__"=some (some (.ref a))) (hi:W.isFn K (.ref a)=true) (hl:K.lookup a=some ⟨oc,od,.func (W.fnOf "__init__" q (Jbh d.st) (Jae d.st) (Jj d.st) .none kV dc pm an cd ct),sl⟩) (hc:W.codeIn K cd q=true) (hk:W.keepIn K (.ref a)=true) (hm:W.makesIn K C=true) (hq:W.keepIn K (.ref C)=true):∃fa fd,Mk K C fa/\DefOk K "__init__" d fa fd :=
 let ⟨fd,D⟩:=Jyz B hl hc hk
 ⟨a,fd,⟨hm,ha,hi,hq⟩,D⟩
end
theorem J34 {ce:Str->Option Addr}{prog:Program}{w:World}{base:Heap}(O:TabOk ce T K mg) (B:T.tabs≠[]->Jmx mg base) (k:Nat){d:D4}{fa:Addr}{fd:FuncData}{x:Str}(hp:d.ps=[x]) (ok:DefOk K "law" d fa fd) :
  FnOk prog w K mg base (CXI prog w) (4*k) fa fd [x] (Jw8 K x (run T k d)):=by
 have:=(J19 (prog:=prog) (w:=w) (base:=base) O B k "law" d fa fd ok).ok
 rw[hp] at this
 exact J0l this
end
noncomputable def WR {α:Type}(r:Res α) (Q:α->IH->Prop):Prop:=match r with
 | .ok a h=>Q a h
 | _=>False
noncomputable def WS (r:SRes) (N:ISt->IH->Prop) (R:IV->IH->Prop):Prop:=match r with
 | .next σ h=>N σ h
 | .ret v h=>R v h
 | _=>False
section
variable {α β:Type}{σ:ISt}{h:IH}{Q:α->IH->Prop}{N:ISt->IH->Prop}{R:IV->IH->Prop}
theorem WR.mono {r:Res α}{P Q:α->IH->Prop}(x:WR r P) (f:∀a h,P a h->Q a h):WR r Q:=by
 cases r with
 | ok a h=>exact f a h x
 | exc n h=>exact x
 | stuck=>exact x
theorem WR.of_eq {r:Res α}{a:α}{h:IH}(e:r=.ok a h) (q:Q a h):WR r Q:=by rw[e];exact q
theorem WR.eq {r:Res α}(x:WR r Q):∃a h,r=.ok a h/\Q a h:=by
 cases r with
 | ok a h=>exact⟨a,h,rfl,x⟩
 | exc n h=>exact x.elim
 | stuck=>exact x.elim
theorem WS.mono {r:SRes}{N N':ISt->IH->Prop}{R R':IV->IH->Prop}(x:WS r N R) (f:∀σ h,N σ h->N' σ h) (g:∀v h,R v h->R' v h):WS r N' R':=by
 cases r with
 | next σ h=>exact f σ h x
 | ret v h=>exact g v h x
 | _=>exact x
theorem Jfp (a:α):WR (.ok a h) Q=Q a h:=rfl
theorem J13:WR (.stuck:Res α) Q=False:=rfl
theorem Je (r:Res α) (f:α->IH->Res β) (Q:β->IH->Prop):WR (r.bind f) Q=WR r λ a h=>WR (f a h) Q:=by cases r<;>rfl
theorem Jpl (r:Res α):WR r.nx Q=WR r Q:=by cases r<;>rfl
theorem Jg0 (c:Prop) [Decidable c] (x y:Res α):WR (if c then x else y) Q=((c->WR x Q)/\(¬c->WR y Q)):=by
 by_cases hc:c<;>simp[hc]
theorem Jd7 (r:Res α) (k:α->IH->SRes):WS (rS σ r k) N R=WR r λ a h=>WS (k a h) N R:=by cases r<;>rfl
theorem Jhy (r:SRes) (Q:IV->IH->Prop):WR r.fin Q=WS r (λ _ h=>Q .non h) Q:=by
 cases r with
 | exc n σ h=>show WR (match h[n]? with|some (.exc _ _)=>Res.exc n h|_=>Res.stuck) Q=False;split<;>rfl
 | _=>rfl
theorem Jcv (σ:ISt):WS (.next σ h) N R=N σ h:=rfl
theorem Jik (v:IV):WS (.ret v h) N R=R v h:=rfl
theorem Jil (a b:S1):WS (sSeq a b σ h) N R=WS (a σ h) (λ σ1 h1=>WS (b σ1 h1) N R) R:=by
 unfold sSeq;cases a σ h<;>rfl
theorem Jcw:WS (sNil σ h) N R=N σ h:=rfl
theorem Jdu:WS (J4u σ h) N R=N σ h:=rfl
theorem Jim (i:Nat) (e:E1):WS (sSet i e σ h) N R=WR (e σ h) λ v h1=>N (σ.set i (some v)) h1:=by unfold sSet;rw[Jd7];rfl
theorem Jpp (t:T1) (a b:S1):WS (sIf t a b σ h) N R=WR (t σ h) λ c h1=>(c=true->WS (a σ h1) N R)/\(c=false->WS (b σ h1) N R):=by
 unfold sIf;rw[Jd7];congr 1;funext c h1;cases c<;>simp
theorem Jdw (e:E1):WS (sRet e σ h) N R=WR (e σ h) R:=by unfold sRet;rw[Jd7];rfl
theorem Jdv:WS (J4v σ h) N R=R .non h:=rfl
theorem Jdt (e:E1):WS (Jgv e σ h) N R=WR (e σ h) λ _ h1=>N σ h1:=by unfold Jgv;rw[Jd7];rfl
theorem Jih (e:E1) (g:G1):WS (sAsg e g σ h) N R=WR (e σ h) λ v h1=>WS (g v σ h1) N R:=by unfold sAsg;rw[Jd7]
theorem Jij (i:Nat) (v:IV):WS (gNm i v σ h) N R=N (σ.set i (some v)) h:=rfl
theorem Jl6 (n:Nat) (g:List IV->ISt->IH->SRes) (xs:List IV):WS (gTp n g (.tup xs) σ h) N R=(xs.length=n/\WS (g xs σ h) N R):=by
 unfold gTp
 by_cases hn:xs.length=n
 ·simp[hn]
 ·simp[hn,WS]
theorem Jtq:WS (gN [] σ h) N R=N σ h:=rfl
theorem Jtp (i:Nat) (r:List IV->ISt->IH->SRes) (v:IV) (vs:List IV):WS (gC (gNm i) r (v::vs) σ h) N R=WS (r vs (σ.set i (some v)) h) N R:=rfl
theorem Joh (f:Str) (o e:E1):WS (Jld f o e σ h) N R=WR (e σ h) λ v h1=>WR (o σ h1) λ ov h2=>∃i c fs,ov=.ref i/\h2[i]?=some (.ins c fs)/\fs.length<1000/\N σ (h2.set i (.ins c (putI f v fs))):=by
 unfold Jld;rw[Jd7];congr 1;funext v h1;rw[Jd7];congr 1;funext ov h2
 cases ov with
 | ref i =>
  cases e:h2[i]? with
  | none=>simp[WS,e]
  | some o =>
   cases o with
   | ins c fs =>
    by_cases hl:fs.length<1000
    ·simp only[e,hl,if_true,WS]
     refine propext ⟨λ q=>⟨i,c,fs,rfl,e,hl,q⟩,λ ⟨i',c',fs',e1,e2,_,q⟩=>?_⟩
     cases e1
     rw[e] at e2
     cases e2
     exact q
    ·simp only[e,hl,if_false,WS]
     refine propext ⟨λ q=>q.elim,λ ⟨i',c',fs',e1,e2,hl',_⟩=>?_⟩
     cases e1
     rw[e] at e2
     cases e2
     exact hl hl'
   | _=>simp[WS,e]
 | _=>simp[WS]
theorem Jii (it:I1) (g:G1) (b:S1):WS (sFor it g b σ h) N R=WR (it σ h) λ J h1=>WS (Jhh J.chk g b J.xs σ h1) N R:=by unfold sFor;rw[Jd7]
theorem Jzw (v:IV) (Q:IV->IH->Prop):WR (eC v σ h) Q=Q v h:=rfl
theorem Jhw (f:IV->IV->IH->Res IV) (a b:E1) (Q:IV->IH->Prop):WR (eBin f a b σ h) Q=WR (a σ h) λ x h1=>WR (b σ h1) λ y h2=>WR (f x y h2) Q:=by
 unfold eBin;rw[Je];congr 1;funext x h1;rw[Je]
theorem Jpo (f:IV->IH->Res IV) (a:E1) (Q:IV->IH->Prop):WR (eUn f a σ h) Q=WR (a σ h) λ x h1=>WR (f x h1) Q:=by unfold eUn;rw[Je]
theorem Jhu (a b:E1) (tr:IV->IH->Res Bool) (Q:IV->IH->Prop):WR (eAnd a b tr σ h) Q=WR (a σ h) λ x h1=>WR (tr x h1) λ c h2=>(c=true->WR (b σ h2) Q)/\(c=false->Q x h2):=by
 unfold eAnd;rw[Je];congr 1;funext x h1;rw[Je];congr 1;funext c h2;cases c<;>simp[WR]
theorem Jpm (a b:E1) (tr:IV->IH->Res Bool) (Q:IV->IH->Prop):WR (eOr a b tr σ h) Q=WR (a σ h) λ x h1=>WR (tr x h1) λ c h2=>(c=true->Q x h2)/\(c=false->WR (b σ h2) Q):=by
 unfold eOr;rw[Je];congr 1;funext x h1;rw[Je];congr 1;funext c h2;cases c<;>simp[WR]
theorem Jph (t:T1) (a b:E1) (Q:IV->IH->Prop):WR (eIf t a b σ h) Q=WR (t σ h) λ c h1=>(c=true->WR (a σ h1) Q)/\(c=false->WR (b σ h1) Q):=by
 unfold eIf;rw[Je];congr 1;funext c h1;cases c<;>simp
theorem Jdp (a b:T1) (Q:Bool->IH->Prop):WR (Jzn a b σ h) Q=WR (a σ h) λ c h1=>(c=true->WR (b σ h1) Q)/\(c=false->Q false h1):=by
 unfold Jzn;rw[Je];congr 1;funext c h1;cases c<;>simp[WR]
theorem Jif (a b:T1) (Q:Bool->IH->Prop):WR (tOrI a b σ h) Q=WR (a σ h) λ c h1=>(c=true->Q true h1)/\(c=false->WR (b σ h1) Q):=by
 unfold tOrI;rw[Je];congr 1;funext c h1;cases c<;>simp[WR]
theorem Jdq (a:T1) (Q:Bool->IH->Prop):WR (Jcz a σ h) Q=WR (a σ h) λ c h1=>Q (!c) h1:=by unfold Jcz;rw[Je];rfl
theorem Jdr (tr:IV->IH->Res Bool) (a:E1) (Q:Bool->IH->Prop):WR (tOfB tr a σ h) Q=WR (a σ h) λ x h1=>WR (tr x h1) Q:=by unfold tOfB;rw[Je]
theorem Ja9 (f g:IV->IV->IH->Res IV) (a b c:E1) (Q:IV->IH->Prop):WR (Jfk f g a b c σ h) Q=WR (a σ h) λ x h1=>WR (b σ h1) λ y h2=>WR (f x y h2) λ k h3=>∃t,k=.bl t/\(t=true->WR (c σ h3) λ z h4=>WR (g y z h4) Q)/\(t=false->Q (.bl false) h3):=by
 unfold Jfk;rw[Je];congr 1;funext x h1;rw[Je];congr 1;funext y h2;rw[Je];congr 1;funext k h3
 cases k with
 | bl t =>
  cases t with
  | true =>
   show WR ((c σ h3).bind λ z h4=>g y z h4) Q=_
   rw[Je]
   simp
  | false=>simp[WR]
 | _=>simp[WR]
theorem Jdi (Q:List IV->IH->Prop):WR (aNil σ h) Q=Q [] h:=rfl
theorem Jbm (a:E1) (r:A1) (Q:List IV->IH->Prop):WR (Ja a r σ h) Q=WR (a σ h) λ x h1=>WR (r σ h1) λ xs h2=>Q (x::xs) h2:=by
 unfold Ja;rw[Je];congr 1;funext x h1;rw[Je];rfl
theorem Jig (a:A1) (Q:IV->IH->Prop):WR (eTup a σ h) Q=WR (a σ h) λ xs h1=>xs.length<=sizeLine/\Q (.tup xs) h1:=by
 unfold eTup;rw[Je];congr 1;funext xs h1;rw[Jg0]
 by_cases hz:xs.length<=sizeLine<;>simp[hz,WR]
theorem Jh5 (a:A1) (Q:IV->IH->Prop):WR (eLst a σ h) Q=WR (a σ h) λ xs h1=>xs.length<=sizeLine/\Q (.ref h1.length) (h1++[.lst xs]):=by
 unfold eLst;rw[Je];congr 1;funext xs h1;rw[Jg0]
 by_cases hz:xs.length<=sizeLine<;>simp[hz,WR]
theorem Jdj (f:List IV->IH->Res IV) (d:List IV) (a:A1) (Q:IV->IH->Prop):WR (Jn f d a σ h) Q=WR (a σ h) λ vs h1=>WR (f (vs++d) h1) Q:=by
 unfold Jn;rw[Je]
theorem Jdm (c:Str) (f:List IV->IH->Res IV) (d:List IV) (a:A1) (Q:IV->IH->Prop):WR (Jnj c f d a σ h) Q=WR (a σ h) λ vs h1=>WR (f (.ref h1.length::(vs++d)) (h1++[.ins c []])) λ r h2=>r=.non/\Q (.ref h1.length) h2:=by
 unfold Jnj;rw[Je];congr 1;funext vs h1;rw[Je];congr 1;funext r h2;cases r<;>simp[WR]
theorem Jpd (f:List IV->IH->Res IV) (a:A1) (Q:IV->IH->Prop):WR (eCB f a σ h) Q=WR (a σ h) λ vs h1=>WR (f vs h1) Q:=by unfold eCB;rw[Je]
theorem Jib (f:IV->IH->Res IV) (x:IV) (Q:IV->IH->Prop):WR (on1 f [x] h) Q=WR (f x h) Q:=rfl
theorem J78 (f:IV->IV->IH->Res IV) (x y:IV) (Q:IV->IH->Prop):WR (on2 f [x,y] h) Q=WR (f x y h) Q:=rfl
theorem Jh1 (ans:Ty->Option Bool) (e:E1) (Q:IV->IH->Prop):WR (eIsi ans e σ h) Q=WR (e σ h) λ v h1=>∃b,(tyI v h1).bind ans=some b/\Q (.bl b) h1:=by
 unfold eIsi;rw[Je];congr 1;funext v h1
 cases (tyI v h1).bind ans<;>simp[WR]
theorem Jbo (Q:Option Int->IH->Prop):WR (Jox σ h) Q=Q none h:=rfl
theorem Jbp (e:E1) (Q:Option Int->IH->Prop):WR (Jk9 e σ h) Q=WR (e σ h) λ v h1=>∃i,v=.int i/\Q (some i) h1:=by
 unfold Jk9;rw[Je];congr 1;funext v h1;cases v<;>simp[WR]
theorem Jpn (f:IV->Option Int->Option Int->IH->Res IV) (e:E1) (lo hi:O1) (Q:IV->IH->Prop):WR (eSl f e lo hi σ h) Q=WR (e σ h) λ x h1=>WR (lo σ h1) λ l h2=>WR (hi σ h2) λ u h3=>WR (f x l u h3) Q:=by
 unfold eSl;rw[Je];congr 1;funext x h1;rw[Je];congr 1;funext l h2;rw[Je]
noncomputable def Jr0 (f:Str) (v:IV) (h:IH):Option IV:=match v with
 | .ref i=>(match h[i]? with
  | some (.ins _ fs)=>fs.lookup f
  | _=>none)
 | _=>none
theorem Jhz (f:Str) (o:E1) (Q:IV->IH->Prop):WR (eFld f o σ h) Q=WR (o σ h) λ v h1=>∃x,Jr0 f v h1=some x/\Q x h1:=by
 unfold eFld;rw[Je];congr 1;funext v h1
 cases v with
 | ref i =>
  unfold Jr0
  cases e:h1[i]? with
  | none=>simp[WR,e]
  | some ob =>
   cases ob with
   | ins c fs=>cases e2:fs.lookup f<;>simp[WR,e,e2]
   | _=>simp[WR,e]
 | _=>simp[WR,Jr0]
variable {i j:Int}{x y:Str}{P:IV->IH->Prop}
theorem Jht (i j:Int):WR (Jo (.int i) (.int j) h) P=P (.int (i+j)) h:=rfl
theorem Jie (i j:Int):WR (Jsn (.int i) (.int j) h) P=P (.int (i-j)) h:=rfl
theorem Jh8 (i:Int):WR (J4i (.int i) h) P=P (.int (-i)) h:=rfl
theorem Jh7 (i j:Int):WR (Jd6 (.int i) (.int j) h) P=(Jbq i j/\P (.int (i*j)) h):=by
 show WR (Jwr (.int i) (.int j) h) P=_
 unfold Jwr;rw[Jg0];by_cases hm:Jbq i j<;>simp[hm,WR]
theorem Jdk (i j:Int):WR (Jaf (.int i) (.int j) h) P=((0<j/\j.natAbs.log2<9000)/\P (.int (i/j)) h):=by
 unfold Jaf;rw[Jg0];by_cases hm:0<j/\j.natAbs.log2<9000<;>simp[hm,WR]
theorem Jh6 (i j:Int):WR (Ju (.int i) (.int j) h) P=(0<j/\P (.int (i%j)) h):=by
 unfold Ju;rw[Jg0];by_cases hm:0<j<;>simp[hm,WR]
theorem Jic (i j:Int):WR (Jkq (.int i) (.int j) h) P=((0<=j/\j<=1000000/\i.natAbs<2^64)/\P (.int (i^j.toNat)) h):=by
 unfold Jkq;rw[Jg0];by_cases hm:0<=j/\j<=1000000/\i.natAbs<2^64<;>simp[hm,WR]
theorem Jdh (x y:Str):WR (Jo (.str x) (.str y) h) P=(x.length+y.length<=sizeLine/\P (.str (x++y)) h):=by
 unfold Jo;rw[Jg0];by_cases hm:x.length+y.length<=sizeLine<;>simp[hm,WR]
theorem Jpj (i j:Int):WR (cLt (.int i) (.int j) h) P=P (.bl (decide (i<j))) h:=rfl
theorem Jpi (i j:Int):WR (cLe (.int i) (.int j) h) P=P (.bl (decide (i<=j))) h:=rfl
theorem J77 (x y:Str):WR (cLe (.str x) (.str y) h) P=P (.bl (!decide (y.cps.toList<x.cps.toList))) h:=rfl
theorem Jpg (i j:Int):WR (cGt (.int i) (.int j) h) P=P (.bl (decide (j<i))) h:=rfl
theorem Jpf (i j:Int):WR (cGe (.int i) (.int j) h) P=P (.bl (decide (j<=i))) h:=rfl
theorem Jpe (i j:Int):WR (cEq (.int i) (.int j) h) P=P (.bl (decide (i=j))) h:=rfl
theorem Jpk (i j:Int):WR (cNe (.int i) (.int j) h) P=P (.bl (!decide (i=j))) h:=rfl
theorem Jhx (x y:Str):WR (cEq (.str x) (.str y) h) P=P (.bl (decide (x=y))) h:=rfl
theorem Jh9 (x y:Str):WR (cNe (.str x) (.str y) h) P=P (.bl (!decide (x=y))) h:=rfl
theorem Jhv (b:Bool) (P:Bool->IH->Prop):WR (asB (.bl b) h) P=P b h:=rfl
theorem Jds (b:Bool) (P:Bool->IH->Prop):WR (tru (.bl b) h) P=P b h:=rfl
theorem Jia (tr:IV->IH->Res Bool) (v:IV):WR (Jws tr v h) P=WR (tr v h) λ c h1=>P (.bl (!c)) h1:=by unfold Jws;rw[Je];rfl
theorem J75 (v w:IV):WR (cIs v w h) P=∃b,isI v w=some b/\P (.bl b) h:=by unfold cIs;cases isI v w<;>simp[WR]
theorem Jbw {chk:IH->Prop}{g:G1}{b:S1}(I:Nat->ISt->IH->Prop){xs:List IV}(hc:∀i σ h,I i σ h->chk h)
  (turn:∀i (hi:i<xs.length) σ h,I i σ h->WS (g xs[i] σ h) (λ σ1 h1=>WS (b σ1 h1) (I (i+1)) R) λ _ _=>False) (done:∀σ h,I xs.length σ h->N σ h) (start:I 0 σ h):WS (Jhh chk g b xs σ h) N R:=by
 have key:∀(n i:Nat) (σ:ISt) (h:IH),xs.length-i=n->i<=xs.length->I i σ h->WS (Jhh chk g b (xs.drop i) σ h) N R:=by
  intro n
  induction n with
  | zero =>
   intro i σ h hn hi hI
   have:i=xs.length:=by omega
   subst this
   rw[List.drop_length]
   unfold Jhh
   rw[if_pos (hc _ _ _ hI)]
   exact done _ _ hI
  | succ n ih =>
   intro i σ h hn hi hI
   have hlt:i<xs.length:=by omega
   rw[List.drop_eq_getElem_cons hlt]
   unfold Jhh
   rw[if_pos (hc _ _ _ hI)]
   have t:=turn i hlt σ h hI
   cases eg:g xs[i] σ h with
   | next σ1 h1 =>
    rw[eg] at t
    have t':WS (b σ1 h1) (I (i+1)) R:=t
    dsimp only
    cases eb:b σ1 h1 with
    | next σ2 h2=>rw[eb] at t';exact ih (i+1) σ2 h2 (by omega) hlt t'
    | ret v h2=>rw[eb] at t';exact t'
    | brk σ2 h2=>rw[eb] at t';exact t'.elim
    | cont σ2 h2=>rw[eb] at t';exact t'.elim
    | exc m σ2 h2=>rw[eb] at t';exact t'.elim
    | stuck=>rw[eb] at t';exact t'.elim
   | ret v h1=>rw[eg] at t;exact t.elim
   | brk σ2 h2=>rw[eg] at t;exact t.elim
   | cont σ2 h2=>rw[eg] at t;exact t.elim
   | exc m σ2 h2=>rw[eg] at t;exact t.elim
   | stuck=>rw[eg] at t;exact t.elim
 have:=key xs.length 0 σ h (by omega) (Nat.zero_le _) start
 simpa using this
end
section
variable {α:Type}{h h1:IH}{a:α}{r:Res α}{P:IV->IH->Prop}
theorem Jcy (x:WR r λ v h'=>v=a/\h'=h1):r=.ok a h1:=by
 obtain⟨_,_,e,rfl,rfl⟩:=x.eq
 exact e
theorem Jog (xs:List IV) (n:Int):WR (opIx (.tup xs) (.int n) h) P=∃x,atI xs n=some x/\P x h:=by
 unfold opIx;cases e:atI xs n<;>simp[WR,e]
theorem Jp7 (xs:List IV) (n:Int):WR (opIx (.rol xs) (.int n) h) P=∃x,atI xs n=some x/\P x h:=by
 unfold opIx;cases e:atI xs n<;>simp[WR,e]
theorem Jam (i:Nat) (n:Int):WR (opIx (.ref i) (.int n) h) P=∃xs,h[i]?=some (.lst xs)/\∃x,atI xs n=some x/\P x h:=by
 unfold opIx
 cases e:h[i]? with
 | none=>simp[WR,e]
 | some o =>
  cases o with
  | lst xs=>cases e2:atI xs n<;>simp[WR,e,e2]
  | _=>simp[WR,e]
theorem Jlm (xs:List IV):WR (lenI (.tup xs) h) P=P (.int xs.length) h:=rfl
theorem Jlk (xs:List IV):WR (lenI (.rol xs) h) P=P (.int xs.length) h:=rfl
theorem Jdl (i:Nat):WR (lenI (.ref i) h) P=∃xs,h[i]?=some (.lst xs)/\P (.int xs.length) h:=by
 unfold lenI
 cases e:h[i]? with
 | none=>simp[WR,e]
 | some o=>cases o<;>simp[WR,e]
theorem Jll (x:Str):WR (lenI (.str x) h) P=(x.length<=sizeLine/\P (.int x.length) h):=by
 unfold lenI;rw[Jg0];by_cases hm:x.length<=sizeLine<;>simp[hm,WR]
theorem J9 {xs:List α}{n:Nat}{x:α}(e:xs[n]?=some x):atI xs (n:Int)=some x:=by
 have hn:n<xs.length:=(List.getElem?_eq_some_iff.mp e).1
 have:(n:Int)<xs.length:=by omega
 simp[atI,ixN,this,e]
theorem Jin {x:α}{xs:List α}:atI (x::xs) 0=some x:=by simp[atI,ixN]
theorem Jio {x y:α}{xs:List α}:atI (x::y::xs) 1=some y:=J9 (n:=1) rfl
theorem Jk0 {x y z:α}{xs:List α}:atI (x::y::z::xs) 2=some z:=J9 (n:=2) rfl
theorem Joj {x y z u:α}{xs:List α}:atI (x::y::z::u::xs) 3=some u:=J9 (n:=3) rfl
theorem Jtu {x y z u v:α}{xs:List α}:atI (x::y::z::u::v::xs) 4=some v:=J9 (n:=4) rfl
theorem Jxp {xs:List α}{n:Int}{x:α}(h0:0<=n) (e:xs[n.toNat]?=some x):atI xs n=some x:=by
 have:=J9 e
 rwa [Int.toNat_of_nonneg h0] at this
theorem Jlh (i:Int):tyI (.int i) h=some .int:=rfl
theorem Jp4 (x:Str):tyI (.str x) h=some .str:=rfl
theorem Jp5 (xs:List IV):tyI (.tup xs) h=some .tup:=rfl
theorem Jxc (b:Bool):tyI (.bl b) h=some .bl:=rfl
theorem Jp2:tyI .non h=some .non:=rfl
theorem Jp3 (xs:List IV):tyI (.rol xs) h=some .lst:=rfl
theorem J2z {i:Nat}{xs:List IV}(e:h[i]?=some (.lst xs)):tyI (.ref i) h=some .lst:=by simp[tyI,e]
theorem grow {i:Nat}{o:IO}{g:IH}(e:h[i]?=some o):(h++g)[i]?=some o:=by
 rw[List.getElem?_append_left (List.getElem?_eq_some_iff.mp e).1];exact e
theorem Jg {o:IO}:(h++[o])[h.length]?=some o:=by simp
theorem Jcb {i:Nat}{o:IO}(e:h[i]?=some o):i<h.length:=(List.getElem?_eq_some_iff.mp e).1
theorem Jrn (f:IV->Bool):∀xs:List IV,Jrm (xs.map λ x=>.bl (f x))=some (xs.map f)
 | []=>rfl
 | x::xs=>by simp[Jrm,Jrn f xs]
theorem all_map {f:IV->Bool}{i:Nat}{xs:List IV}(e:h[i]?=some (.lst (xs.map λ x=>.bl (f x)))):allI (.ref i) h=.ok (.bl (xs.all f)) h:=by
 simp[allI,e,Jrn,List.all_map,Function.comp_def]
end
noncomputable def Ex (h h':IH):Prop:=∃g,h'=h++g
theorem Ex.refl (h:IH):Ex h h:=⟨[],by simp⟩
theorem Ex.trans {h h1 h2:IH}(a:Ex h h1) (b:Ex h1 h2):Ex h h2:=by
 obtain⟨g,rfl⟩:=a
 obtain⟨g',rfl⟩:=b
 exact⟨g++g',by simp⟩
theorem Ex.get {h h':IH}(a:Ex h h'){i:Nat}{o:IO}(e:h[i]?=some o):h'[i]?=some o:=by
 obtain⟨g,rfl⟩:=a
 exact grow e
theorem Ex.one (h:IH) (o:IO):Ex h (h++[o]):=⟨[o],rfl⟩
theorem Ex.len {h h':IH}(a:Ex h h'):h.length<=h'.length:=by
 obtain⟨g,rfl⟩:=a
 simp
section
variable {α:Type}{h:IH}
theorem J3g {chk:IH->Prop}{t:T1}{e:E1}{caps:ISt}{p:IV->Bool}{f:IV->IV}(i0:Nat):∀{xs acc:List IV}{o:Option IV}{h1:IH},h1[i0]?=some (.lst acc)->(∀h2,(∀j ob,j≠i0->h1[j]?=some ob->h2[j]?=some ob)->chk h2)->acc.length+xs.length<sizeLine ->
  (∀x∈xs,∀h2,(∀j ob,j≠i0->h1[j]?=some ob->h2[j]?=some ob)->WR (t (some x::caps) h2) λ b h3=>b=p x/\Ex h2 h3) ->
  (∀x∈xs,p x=true->∀h2,(∀j ob,j≠i0->h1[j]?=some ob->h2[j]?=some ob)->WR (e (some x::caps) h2) λ v h3=>v=f x/\Ex h2 h3) ->
  WR (Jcx chk (gNm 0) t e i0 xs (o::caps) h1) λ v h3=>v=.ref i0/\∃g,h3=h1.set i0 (.lst (acc++(xs.filter p).map f))++g
 | [],acc,o,h1,hi,hc,_,_,_=>by
  unfold Jcx
  rw[if_pos (hc h1 λ _ _ _ q=>q)]
  refine⟨rfl,[],?_⟩
  simp only[List.filter_nil,List.map_nil,List.append_nil]
  refine(List.ext_getElem? λ j=>?_)
  by_cases hj:j=i0
  ·subst hj
   rw[hi,List.getElem?_set_self (Jcb hi)]
  ·rw[List.getElem?_set_ne (Ne.symm hj)]
 | x::xs,acc,o,h1,hi,hc,hl,ht,he=>by
  unfold Jcx
  rw[if_pos (hc h1 λ _ _ _ q=>q)]
  dsimp only[gNm,List.set_cons_zero]
  have hl':acc.length+xs.length+1<sizeLine:=by simpa [Nat.add_assoc] using hl
  obtain⟨b,h2,e1,rfl,x2⟩:=(ht x List.mem_cons_self h1 λ _ _ _ q=>q).eq
  rw[e1]
  have k12:∀j ob,j≠i0->h1[j]?=some ob->h2[j]?=some ob:=λ j ob _ q=>x2.get q
  cases hp:p x with
  | false =>
   dsimp only
   refine WR.mono (J3g i0 (x2.get hi) (λ h3 q=>hc h3 λ j ob n r=>q j ob n (k12 j ob n r)) (by omega) (λ y hy h3 q=>ht y (List.mem_cons_of_mem _ hy) h3 λ j ob n r=>q j ob n (k12 j ob n r))
    λ y hy hpy h3 q=>he y (List.mem_cons_of_mem _ hy) hpy h3 λ j ob n r=>q j ob n (k12 j ob n r)) λ v h3 ⟨ev,g,eg⟩=>⟨ev,?_⟩
   obtain⟨g2,rfl⟩:=x2
   refine⟨g2++g,?_⟩
   rw[eg,List.set_append_left (h:=Jcb hi)]
   simp[hp]
  | true =>
   dsimp only
   obtain⟨v,h3,e3,rfl,x3⟩:=(he x List.mem_cons_self hp h2 k12).eq
   rw[e3]
   dsimp only
   rw[x3.get (x2.get hi)]
   dsimp only
   rw[if_pos (by omega)]
   have k13:∀j ob,j≠i0->h1[j]?=some ob->(h3.set i0 (.lst (acc++[f x])))[j]?=some ob:=λ j ob n q=>by
    rw[List.getElem?_set_ne (Ne.symm n)]
    exact x3.get (x2.get q)
   refine WR.mono (J3g i0 (acc:=acc++[f x]) (by rw[List.getElem?_set_self (Jcb (x3.get (x2.get hi)))]) (λ h4 q=>hc h4 λ j ob n r=>q j ob n (k13 j ob n r)) (by simp;omega) (λ y hy h4 q=>ht y (List.mem_cons_of_mem _ hy) h4 λ j ob n r=>q j ob n (k13 j ob n r))
    λ y hy hpy h4 q=>he y (List.mem_cons_of_mem _ hy) hpy h4 λ j ob n r=>q j ob n (k13 j ob n r)) λ v h4 ⟨ev,g,eg⟩=>⟨ev,?_⟩
   obtain⟨g3,q3⟩:=x2.trans x3
   refine⟨g3++g,?_⟩
   rw[eg,q3,List.set_append_left (h:=Jcb hi),List.set_append_left (h:=by rw[List.length_set];exact Jcb hi),List.set_set]
   simp[hp]
theorem Jrd {it:I1}{t:T1}{e:E1}{js:List Nat}{σ:ISt}{xs:List IV}{chk:IH->Prop}{p:IV->Bool}{f:IV->IV}{h0:IH}(hit:WR (it σ h0) λ J h1=>J.xs=xs/\J.chk=chk/\h1=h) (hl:xs.length<sizeLine)
  (hc:∀h2:IH,(∀(j:Nat) (ob:IO),h[j]?=some ob->h2[j]?=some ob)->chk h2)
  (ht:∀x∈xs,∀h2:IH,(∀(j:Nat) (ob:IO),h[j]?=some ob->h2[j]?=some ob)->WR (t (some x::js.map λ j=>(σ[j]?).join) h2) λ b h3=>b=p x/\Ex h2 h3)
  (he:∀x∈xs,p x=true->∀h2:IH,(∀(j:Nat) (ob:IO),h[j]?=some ob->h2[j]?=some ob)->WR (e (some x::js.map λ j=>(σ[j]?).join) h2) λ v h3=>v=f x/\Ex h2 h3) :
  WR (Jr it 1 js (gNm 0) t e σ h0) λ v h3=>v=.ref h.length/\∃g,h3=h++.lst ((xs.filter p).map f)::g:=by
 obtain⟨J,h1,e1,q1,q2,rfl⟩:=hit.eq
 unfold Jr
 rw[e1]
 show WR (Jcx J.chk (gNm 0) t e h1.length J.xs (none::js.map λ j=>(σ[j]?).join) (h1++[.lst []])) _
 rw[q1,q2]
 have lift:∀{h2:IH},(∀j ob,j≠h1.length->(h1++[IO.lst []])[j]?=some ob->h2[j]?=some ob)->∀j ob,h1[j]?=some ob->h2[j]?=some ob:=λ q j ob r=>q j ob (Nat.ne_of_lt (Jcb r)) (grow r)
 refine WR.mono (J3g (p:=p) (f:=f) h1.length (acc:=[]) Jg (λ h2 q=>hc h2 (lift q)) (by simpa using hl) (λ x hx h2 q=>ht x hx h2 (lift q)) λ x hx hp h2 q=>he x hx hp h2 (lift q)) λ v h3 ⟨ev,g,eg⟩=>⟨ev,g,?_⟩
 rw[eg]
 simp
theorem filt {α:Type}(xs:List α):xs.filter (λ _=>true)=xs:=List.filter_eq_self.mpr (by simp)
theorem Jab {it:I1}{e:E1}{js:List Nat}{σ:ISt}{xs:List IV}{chk:IH->Prop}{f:IV->IV}{h0:IH}(hit:WR (it σ h0) λ J h1=>J.xs=xs/\J.chk=chk/\h1=h) (hl:xs.length<sizeLine)
  (hc:∀h2:IH,(∀(j:Nat) (ob:IO),h[j]?=some ob->h2[j]?=some ob)->chk h2)
  (he:∀x∈xs,∀h2:IH,(∀(j:Nat) (ob:IO),h[j]?=some ob->h2[j]?=some ob)->WR (e (some x::js.map λ j=>(σ[j]?).join) h2) λ v h3=>v=f x/\Ex h2 h3) :
  WR (Jr it 1 js (gNm 0) Jao e σ h0) λ v h3=>v=.ref h.length/\∃g,h3=h++.lst (xs.map f)::g:=by
 have:=Jrd (p:=λ _=>true) (f:=f) (t:=Jao) (e:=e) (js:=js) (σ:=σ) (h:=h) hit hl hc (λ _ _ h2 _=>⟨rfl,.refl _⟩) λ x hx _ h2 q=>he x hx h2 q
 rwa [filt] at this
theorem Jp {o:IO}{g:IH}:(h++o::g)[h.length]?=some o:=by simp
theorem Ex.cons (h:IH) (o:IO) (g:IH):Ex h (h++o::g):=⟨_,rfl⟩
end
section
variable {σ:ISt}{h h1:IH}{Q:IV->IH->Prop}{J:ItI->IH->Prop}
theorem Jcu (e:E1):WR (iAny e σ h) J=WR (e σ h) λ v h1=>WR (Jwf v h1) J:=by unfold iAny;rw[Je]
theorem Jh0 (f:List IV->IH->Res ItI) (a:A1):WR (iRg f a σ h) J=WR (a σ h) λ vs h1=>WR (f vs h1) J:=by unfold iRg;rw[Je]
theorem Jba (i:Nat):WR (Jwf (.ref i) h) J=∃xs,h[i]?=some (.lst xs)/\J ⟨xs,λ h'=>h'[i]?=some (.lst xs)⟩ h:=by
 show WR (itOf (.ref i) h) J=_
 unfold itOf
 cases e:h[i]? with
 | none=>simp[WR,e]
 | some o=>cases o<;>simp[WR,e]
theorem Jh2 (xs:List IV):WR (Jwf (.rol xs) h) J=J ⟨xs,λ _=>True⟩ h:=rfl
theorem Jh4 (xs:List IV):WR (Jwf (.tup xs) h) J=J ⟨xs,λ _=>True⟩ h:=rfl
theorem Jh3 (x:Str):WR (Jwf (.str x) h) J=J ⟨Jpc x,λ _=>True⟩ h:=rfl
theorem Jzy (i:Nat):WR (Jgq [.ref i] h) J=∃xs,h[i]?=some (.lst xs)/\J ⟨Jk6 0 xs,λ h'=>h'[i]?=some (.lst xs)⟩ h:=by
 show WR (Jgq [.ref i] h) J=_
 unfold Jgq
 cases e:h[i]? with
 | none=>simp[WR,e]
 | some o=>cases o<;>simp[WR,e]
theorem Jdn (j:Int):WR (Jaq [.int j] h) J=((-(2^62)<=j/\j<2^62)/\J ⟨rngI 0 j,λ _=>True⟩ h):=by
 unfold Jaq;rw[Jg0];exact propext ⟨λ ⟨a,b⟩=>(Classical.em _).elim (λ q=>⟨q,a q⟩) λ q=>(b q).elim,λ ⟨a,b⟩=>⟨λ _=>b,λ q=>absurd a q⟩⟩
theorem Jdo (i j:Int):WR (J2f [.int i,.int j] h) J=((-(2^62)<=i/\i<2^62/\ -(2^62)<=j/\j<2^62)/\J ⟨rngI i j,λ _=>True⟩ h):=by
 unfold J2f;rw[Jg0];exact propext ⟨λ ⟨a,b⟩=>(Classical.em _).elim (λ q=>⟨q,a q⟩) λ q=>(b q).elim,λ ⟨a,b⟩=>⟨λ _=>b,λ q=>absurd a q⟩⟩
theorem J2 (i j:Int):(rngI i j).length=(j-i).toNat:=by simp[rngI]
theorem Jfn (i j:Int) (n:Nat) (hn:n<(rngI i j).length):(rngI i j)[n]=.int (i+n):=by simp[rngI]
theorem Jyc (xs:List IV) (n:Nat) (hn:n<(Jk6 0 xs).length):(Jk6 0 xs)[n]=.tup [.int n,xs[n]'(by rwa [Jcs] at hn)]:=by
 have:=Jnl xs 0 n
 rw[List.getElem?_eq_getElem hn,List.getElem?_eq_getElem (by rwa [Jcs] at hn)] at this
 simpa using this
theorem Jto (i:Nat) (lo hi:Option Int):WR (slI (.ref i) lo hi h) Q=∃xs,h[i]?=some (.lst xs)/\Q (.ref h.length) (h++[.lst (cutI xs lo hi)]):=by
 unfold slI
 cases e:h[i]? with
 | none=>simp[WR,e]
 | some o=>cases o<;>simp[WR,e]
theorem Jid (xs:List IV) (lo hi:Option Int):WR (slI (.rol xs) lo hi h) Q=Q (.ref h.length) (h++[.lst (cutI xs lo hi)]):=rfl
theorem Jvk (n d:Nat):HT.sIx n d none=d:=HT.sIx_none n d
theorem Ju7 {α:Type}(xs:List α) (n:Nat):cutI xs none (some (n:Int))=xs.take n:=by
 unfold cutI
 rw[Jvk,HT.sIx_nat]
 simp
theorem Jqg {α:Type}(xs:List α) (n:Nat):cutI xs (some (n:Int)) none=xs.drop n:=by
 unfold cutI
 rw[Jvk,HT.sIx_nat]
 by_cases hn:n<=xs.length
 ·rw[Nat.min_eq_left hn]
  exact List.take_of_length_le (by simp)
 ·rw[Nat.min_eq_right (by omega),List.drop_length,List.drop_eq_nil_of_le (by omega)]
  simp
theorem J3h {α:Type}(xs:List α) (n m:Nat):cutI xs (some (n:Int)) (some (m:Int))=(xs.take m).drop n:=by
 unfold cutI
 rw[HT.sIx_nat,HT.sIx_nat]
 refine List.ext_getElem? λ i=>?_
 simp only[List.getElem?_take,List.getElem?_drop]
 by_cases h1:n+i<xs.length
 ·rw[Nat.min_eq_left (show n<=xs.length by omega)]
  by_cases h3:n+i<m
  ·rw[if_pos h3,if_pos (by omega)]
  ·rw[if_neg h3,if_neg (by omega)]
 ·rw[show xs[n+i]?=none from List.getElem?_eq_none (by omega),show xs[min n xs.length+i]?=none from List.getElem?_eq_none (by omega)]
  simp
variable {P:Pg}{m:Str}{n i:Nat}{o:E1}{a:A1}{xs:List IV}{c:Str}{fs:List (Str×IV)}
theorem Jrf {g:IV->List IV->IH->Res IV}(e:o σ h=.ok (.ref i) h1) (hl:h1[i]?=some (.lst xs)) (hg:bmOf "list" m n=some g):WR (eDot P m n o a σ h) Q=WR (a σ h1) λ vs h2=>WR (g (.ref i) vs h2) Q:=by
 unfold eDot
 rw[e]
 have hi:Jse (.ref i) h1=false:=by simp[Jse,hl]
 have ht:tyS (.ref i) h1="list":=by simp[tyS,hl]
 dsimp only
 rw[hi,ht,hg]
 dsimp only
 rw[if_neg Bool.false_ne_true]
 unfold eBm
 rw[e,Je,Jfp]
 have:tyOk "list" (.ref i) h1=true:=by simp[tyOk,hl]
 rw[if_pos this,Je]
theorem Jv {f:List IV->IH->Res IV}{d:List IV}(e:o σ h=.ok (.ref i) h1) (hi:h1[i]?=some (.ins c fs)) (hf:fs.lookup m=none) (hd:Jfb P m n c=some (f,d)):WR (eDot P m n o a σ h) Q=WR (a σ h1) λ vs h2=>WR (f (.ref i::(vs++d)) h2) Q:=by
 unfold eDot
 rw[e]
 have hi':Jse (.ref i) h1=true:=by simp[Jse,hi]
 dsimp only
 rw[hi',if_pos rfl]
 unfold J0k
 rw[e,Je,Jfp]
 dsimp only
 rw[hi]
 dsimp only
 rw[hd,hf]
 dsimp only
 rw[Je]
theorem Jkw (y:IV):WR (Jkx (.ref i) [y] h) Q=∃xs,h[i]?=some (.lst xs)/\xs.length<sizeLine/\Q .non (h.set i (.lst (xs++[y]))):=by
 unfold Jkx
 cases e:h[i]? with
 | none=>simp[WR,e]
 | some ob =>
  cases ob with
  | lst xs=>by_cases hz:xs.length<sizeLine<;>simp[WR,e,hz]
  | _=>simp[WR,e]
theorem Jj3:bmOf "list" "append" 1=some Jkx:=by kernel_rfl
theorem Jz {f:Str}(e:h[i]?=some (.ins c fs)):Jr0 f (.ref i) h=fs.lookup f:=by simp[Jr0,e]
theorem Jvt:WR (Jnu (.ref i) h) Q=∃xs,h[i]?=some (.lst xs)/\Q (.ref h.length) (h++[.lst xs]):=by
 unfold Jnu
 cases e:h[i]? with
 | none=>simp[WR,e]
 | some ob=>cases ob<;>simp[WR,e]
theorem Jbn (xs:List IV):WR (Jnu (.tup xs) h) Q=Q (.ref h.length) (h++[.lst xs]):=rfl
theorem Jz4:WR (Joe (.ref i) h) Q=∃xs,h[i]?=some (.lst xs)/\Q (.tup xs) h:=by
 unfold Joe
 cases e:h[i]? with
 | none=>simp[WR,e]
 | some ob=>cases ob<;>simp[WR,e]
end
section
variable {σ:ISt}{h:IH}{Q:IV->IH->Prop}
theorem Jrc (i j:Nat):WR (Jo (.ref i) (.ref j) h) Q=∃xs,h[i]?=some (.lst xs)/\∃ys,h[j]?=some (.lst ys)/\xs.length+ys.length<=sizeLine/\Q (.ref h.length) (h++[.lst (xs++ys)]):=by
 unfold Jo
 cases e:h[i]? with
 | none=>simp[WR,e]
 | some o =>
  cases e':h[j]? with
  | none=>cases o<;>simp[WR,e,e']
  | some o' =>
   cases o<;>cases o'<;>simp only[e,e',Jg0,Jfp,J13,Option.some.injEq,IO.lst.injEq,reduceCtorEq,exists_eq_left',false_and,and_false,exists_false,imp_false,Decidable.not_not]
   simp only[eq_iff_iff]
   exact⟨λ ⟨a,b⟩=>⟨b,a b⟩,λ ⟨a,b⟩=>⟨λ _=>b,a⟩⟩
end
section
variable {σ:ISt}{h h1:IH}{Q:IV->IH->Prop}{P:Pg}{m:Str}{n i:Nat}{o:E1}{a:A1}{x:Str}
theorem J5b {g:IV->List IV->IH->Res IV}(e:o σ h=.ok (.str x) h1) (hg:bmOf "str" m n=some g):WR (eDot P m n o a σ h) Q=WR (a σ h1) λ vs h2=>WR (g (.str x) vs h2) Q:=by
 unfold eDot
 rw[e]
 have hi:Jse (.str x) h1=false:=rfl
 have ht:tyS (.str x) h1="str":=rfl
 dsimp only
 rw[hi,ht,hg]
 dsimp only
 rw[if_neg Bool.false_ne_true]
 unfold eBm
 rw[e,Je,Jfp]
 have:tyOk "str" (.str x) h1=true:=rfl
 rw[if_pos this,Je]
theorem J29:bmOf "str" "join" 1=some Jwg:=by kernel_rfl
theorem J5d:WR (Jwg (.str x) [.ref i] h) Q=∃xs,h[i]?=some (.lst xs)/\∃zs,Jkv xs=some zs/\JoinOk x zs=true/\Q (.str (Txt.join x zs)) h:=by
 unfold Jwg
 cases e:h[i]? with
 | none=>simp[WR,e]
 | some ob =>
  cases ob with
  | lst xs =>
   cases q:Jkv xs with
   | none=>simp[WR,e,q]
   | some zs=>by_cases hz:JoinOk x zs=true<;>simp[WR,e,q,hz]
  | _=>simp[WR,e]
theorem Jq8:∀zs:List Str,Jkv (zs.map IV.str)=some zs
 | []=>rfl
 | z::zs=>by
  rw[List.map_cons,Jkv,Jq8 zs];rfl
end
section
variable {σ:ISt}{h:IH}{Q:IV->IH->Prop}{i:Nat}
theorem J5k:WR (sumI (.ref i) h) Q=∃xs,h[i]?=some (.lst xs)/\∃ns,Ja8 xs=some ns/\Q (.int ns.sum) h:=by
 unfold sumI
 cases e:h[i]? with
 | none=>simp[WR,e]
 | some ob =>
  cases ob with
  | lst xs=>cases q:Ja8 xs<;>simp[WR,e,q]
  | _=>simp[WR,e]
theorem Jca:∀ns:List Int,Ja8 (ns.map IV.int)=some ns
 | []=>rfl
 | n::ns=>by
  rw[List.map_cons,Ja8,Jca ns];rfl
theorem J5g (aa:A1) (md:E1):WR (Jya aa md σ h) Q=WR (aa σ h) λ xs h1=>WR (md σ h1) λ d h2=>∃i,xs=[.ref i]/\∃ys,h2[i]?=some (.lst ys)/\∃ns,Ja8 ys=some ns/\Q (maxD ns d) h2:=by
 unfold Jya
 rw[Je]
 congr 1;funext xs h1
 rw[Je]
 congr 1;funext d h2
 match xs with
 | [.ref i] =>
  simp only[List.cons.injEq,IV.ref.injEq,and_true,exists_eq_left']
  cases e:h2[i]? with
  | none=>simp[WR]
  | some ob =>
   cases ob with
   | lst ys=>cases q:Ja8 ys<;>simp[WR,q]
   | _=>simp[WR]
 | []=>simp[WR]
 | [.non]=>simp[WR]
 | [.bl _]=>simp[WR]
 | [.int _]=>simp[WR]
 | [.str _]=>simp[WR]
 | [.tup _]=>simp[WR]
 | [.rol _]=>simp[WR]
 | x::_::_=>cases x<;>simp[WR]
theorem Jz1 (aa:A1):WR (Jni aa σ h) Q=WR (aa σ h) λ xs h1=>∃i,xs=[.ref i]/\∃ys,h1[i]?=some (.lst ys)/\∃zs,Jkv ys=some zs/\zs.length+1<scanBound/\Q (.int (cntD (Jfo zs) zs.length)) h1:=by
 unfold Jni
 rw[Je]
 congr 1;funext xs h1
 match xs with
 | [.ref i] =>
  simp only[List.cons.injEq,IV.ref.injEq,and_true,exists_eq_left']
  cases e:h1[i]? with
  | none=>simp[WR]
  | some ob =>
   cases ob with
   | lst ys =>
    cases q:Jkv ys with
    | none=>simp[WR,q]
    | some zs=>by_cases hz:zs.length+1<scanBound<;>simp[WR,q,hz]
   | _=>simp[WR]
 | []=>simp[WR]
 | [.non]=>simp[WR]
 | [.bl _]=>simp[WR]
 | [.int _]=>simp[WR]
 | [.str _]=>simp[WR]
 | [.tup _]=>simp[WR]
 | [.rol _]=>simp[WR]
 | x::_::_=>cases x<;>simp[WR]
theorem Jru {zs:List Str}(nd:zs.Nodup):∀i,i<=zs.length->cntD (Jfo zs) i=i
 | 0,_=>rfl
 | i+1,hi=>by
  have ih:=Jru nd i (by omega)
  have hm:metB (Jfo zs) i (Jfo zs i)=false:=by
   unfold metB
   rw[List.any_eq_false]
   intro j hj
   have hj:=List.mem_range.mp hj
   simp only[decide_eq_true_eq]
   intro e
   simp only[Jfo,List.getD_eq_getElem?_getD,List.getElem?_eq_getElem (show j<zs.length by omega),List.getElem?_eq_getElem (show i<zs.length by omega),Option.getD_some] at e
   have:=(List.getElem_inj nd).mp e
   omega
  unfold cntD
  rw[hm,ih]
  rfl
theorem J2t (f:Nat->Int):∀(n j:Nat),j<n->f j<=Jc0 f n
 | 0,_,h=>by omega
 | 1,j,h=>by
  obtain rfl:j=0:=by omega
  exact Int.le_refl _
 | n+2,j,h=>by
  rw[Jlg f (by omega)]
  by_cases hj:j=n+1
  ·subst hj;split<;>omega
  ·have:=J2t f (n+1) j (by omega)
   split<;>omega
theorem J2u (f:Nat->Int) (b:Int):∀(n:Nat),0<n->(∀j,j<n->f j<=b)->Jc0 f n<=b
 | 0,h,_=>by omega
 | 1,_,q=>q 0 (by omega)
 | n+2,_,q=>by
  rw[Jlg f (by omega)]
  have:=J2u f b (n+1) (by omega) λ j hj=>q j (by omega)
  have:=q (n+1) (by omega)
  split<;>omega
end
section
variable {h:IH}{Q:IV->IH->Prop}{i:Nat}
end
noncomputable def KpB (i0:Nat) (h h':IH):Prop:=∀(j:Nat) (ob:IO),j≠i0->h[j]?=some ob->h'[j]?=some ob
noncomputable def Kp (h h':IH):Prop:=∀(j:Nat) (ob:IO),h[j]?=some ob->h'[j]?=some ob
theorem KpB.trans {i0:Nat}{a b c:IH}(p:KpB i0 a b) (q:KpB i0 b c):KpB i0 a c:=λ j ob n e=>q j ob n (p j ob n e)
theorem Kp.trans {a b c:IH}(p:Kp a b) (q:Kp b c):Kp a c:=λ j ob e=>q j ob (p j ob e)
theorem Kp.refl (a:IH):Kp a a:=λ _ _ e=>e
theorem Kp.but {i0:Nat}{a b:IH}(p:Kp a b):KpB i0 a b:=λ j ob _ e=>p j ob e
theorem Ex.kp {a b:IH}(x:Ex a b):Kp a b:=λ _ _ e=>x.get e
theorem J5u {chk:IH->Prop}{e:E1}{caps:ISt}{D:IV->IV->IH->Prop}(i0:Nat) (mono:∀x y h2 h3,KpB i0 h2 h3->D x y h2->D x y h3):∀{xs acc:List IV}{o:Option IV}{h1:IH},h1[i0]?=some (.lst acc)->(∀h2,KpB i0 h1 h2->chk h2)->acc.length+xs.length<sizeLine ->
  (∀x∈xs,∀h2:IH,KpB i0 h1 h2->i0<h2.length->WR (e (some x::caps) h2) λ v h3=>Ex h2 h3/\D x v h3) ->
  WR (Jcx chk (gNm 0) Jao e i0 xs (o::caps) h1) λ v h3=>v=.ref i0/\∃ys,h3[i0]?=some (.lst (acc++ys))/\ys.length=xs.length/\KpB i0 h1 h3/\∀(i:Nat) x y,xs[i]?=some x->ys[i]?=some y->D x y h3
 | [],acc,o,h1,hi,hc,_,_=>by
  unfold Jcx
  rw[if_pos (hc h1 λ _ _ _ q=>q)]
  exact⟨rfl,[],by simpa using hi,rfl,λ _ _ _ q=>q,λ i x y q=>by simp at q⟩
 | x::xs,acc,o,h1,hi,hc,hl,he=>by
  unfold Jcx
  rw[if_pos (hc h1 λ _ _ _ q=>q)]
  dsimp only[gNm,List.set_cons_zero,Jao]
  have hl':acc.length+xs.length+1<sizeLine:=by simpa [Nat.add_assoc] using hl
  obtain⟨v,h3,e3,x3,dv⟩:=(he x List.mem_cons_self h1 (λ _ _ _ q=>q) (Jcb hi)).eq
  rw[e3]
  dsimp only
  rw[x3.get hi]
  dsimp only
  rw[if_pos (by omega)]
  have k34:KpB i0 h3 (h3.set i0 (.lst (acc++[v]))):=λ j ob n q=>by
   rw[List.getElem?_set_ne (Ne.symm n)];exact q
  have k14:KpB i0 h1 (h3.set i0 (.lst (acc++[v]))):=x3.kp.but.trans k34
  refine WR.mono (J5u i0 mono (acc:=acc++[v]) (by rw[List.getElem?_set_self (Jcb (x3.get hi))]) (λ h4 q=>hc h4 (k14.trans q)) (by simp;omega) λ y hy h4 q=>he y (List.mem_cons_of_mem _ hy) h4 (k14.trans q)) ?_
  rintro w h5 ⟨rfl,ys,g5,ln,k5,d5⟩
  refine⟨rfl,v::ys,by simpa using g5,by simp[ln],k14.trans k5,?_⟩
  intro i x' y' q1 q2
  cases i with
  | zero =>
   simp only[List.getElem?_cons_zero,Option.some.injEq] at q1 q2
   subst q1;subst q2
   exact mono _ _ _ _ (k34.trans k5) dv
  | succ i=>exact d5 i x' y' (by simpa using q1) (by simpa using q2)
theorem J11 {h h0:IH}{it:I1}{e:E1}{js:List Nat}{σ:ISt}{xs:List IV}{chk:IH->Prop}(D:IV->IV->IH->Prop) (hit:WR (it σ h0) λ J h1=>J.xs=xs/\J.chk=chk/\h1=h) (hl:xs.length<sizeLine)
  (mono:∀x y h2 h3,KpB h.length h2 h3->D x y h2->D x y h3) (hc:∀h2:IH,Kp h h2->chk h2)
  (he:∀x∈xs,∀h2:IH,Kp h h2->h.length<h2.length->WR (e (some x::js.map λ j=>(σ[j]?).join) h2) λ v h3=>Ex h2 h3/\D x v h3) :
  WR (Jr it 1 js (gNm 0) Jao e σ h0) λ v h3=>v=.ref h.length/\∃ys,h3[h.length]?=some (.lst ys)/\ys.length=xs.length/\Kp h h3/\∀(i:Nat) x y,xs[i]?=some x->ys[i]?=some y->D x y h3:=by
 obtain⟨J,h1,e1,q1,q2,rfl⟩:=hit.eq
 unfold Jr
 rw[e1]
 show WR (Jcx J.chk (gNm 0) Jao e h1.length J.xs (none::js.map λ j=>(σ[j]?).join) (h1++[.lst []])) _
 rw[q1,q2]
 have lift:∀{h2:IH},KpB h1.length (h1++[IO.lst []]) h2->Kp h1 h2:=λ q j ob r=>q j ob (Nat.ne_of_lt (Jcb r)) (grow r)
 refine WR.mono (J5u h1.length mono (acc:=[]) Jg (λ h2 q=>hc h2 (lift q)) (by simpa using hl) λ x hx h2 q ln=>he x hx h2 (lift q) ln) ?_
 rintro v h3 ⟨rfl,ys,g3,ln,k3,d3⟩
 exact⟨rfl,ys,by simpa using g3,ln,lift k3,d3⟩
section
variable {h:IH}
theorem J3f {chk:IH->Prop}{g:G1}{t:T1}{e:E1}{caps:ISt}{p:IV->Bool}{f:IV->IV}{st:IV->ISt}{n:Nat}(i0:Nat):∀{xs acc:List IV}{ls:ISt}{h1:IH},ls.length=n->h1[i0]?=some (.lst acc)->(∀h2,(∀j ob,j≠i0->h1[j]?=some ob->h2[j]?=some ob)->chk h2)->acc.length+xs.length<sizeLine ->
  (∀x∈xs,∀(ls:ISt) (h2:IH),ls.length=n->(st x).length=n/\g x (ls++caps) h2=.next (st x++caps) h2) ->
  (∀x∈xs,∀h2,(∀j ob,j≠i0->h1[j]?=some ob->h2[j]?=some ob)->WR (t (st x++caps) h2) λ b h3=>b=p x/\Ex h2 h3) ->
  (∀x∈xs,p x=true->∀h2,(∀j ob,j≠i0->h1[j]?=some ob->h2[j]?=some ob)->WR (e (st x++caps) h2) λ v h3=>v=f x/\Ex h2 h3) ->
  WR (Jcx chk g t e i0 xs (ls++caps) h1) λ v h3=>v=.ref i0/\∃g,h3=h1.set i0 (.lst (acc++(xs.filter p).map f))++g
 | [],acc,ls,h1,_,hi,hc,_,_,_,_=>by
  unfold Jcx
  rw[if_pos (hc h1 λ _ _ _ q=>q)]
  refine⟨rfl,[],?_⟩
  simp only[List.filter_nil,List.map_nil,List.append_nil]
  refine(List.ext_getElem? λ j=>?_)
  by_cases hj:j=i0
  ·subst hj
   rw[hi,List.getElem?_set_self (Jcb hi)]
  ·rw[List.getElem?_set_ne (Ne.symm hj)]
 | x::xs,acc,ls,h1,hls,hi,hc,hl,hg,ht,he=>by
  unfold Jcx
  rw[if_pos (hc h1 λ _ _ _ q=>q)]
  obtain⟨sl,eg1⟩:=hg x List.mem_cons_self ls h1 hls
  rw[eg1]
  dsimp only
  have hl':acc.length+xs.length+1<sizeLine:=by simpa [Nat.add_assoc] using hl
  obtain⟨b,h2,e1,rfl,x2⟩:=(ht x List.mem_cons_self h1 λ _ _ _ q=>q).eq
  rw[e1]
  have k12:∀j ob,j≠i0->h1[j]?=some ob->h2[j]?=some ob:=λ j ob _ q=>x2.get q
  cases hp:p x with
  | false =>
   dsimp only
   refine WR.mono (J3f i0 sl (x2.get hi) (λ h3 q=>hc h3 λ j ob n r=>q j ob n (k12 j ob n r)) (by omega) (λ y hy=>hg y (List.mem_cons_of_mem _ hy)) (λ y hy h3 q=>ht y (List.mem_cons_of_mem _ hy) h3 λ j ob n r=>q j ob n (k12 j ob n r))
    λ y hy hpy h3 q=>he y (List.mem_cons_of_mem _ hy) hpy h3 λ j ob n r=>q j ob n (k12 j ob n r)) λ v h3 ⟨ev,g,eg⟩=>⟨ev,?_⟩
   obtain⟨g2,rfl⟩:=x2
   refine⟨g2++g,?_⟩
   rw[eg,List.set_append_left (h:=Jcb hi)]
   simp[hp]
  | true =>
   dsimp only
   obtain⟨v,h3,e3,rfl,x3⟩:=(he x List.mem_cons_self hp h2 k12).eq
   rw[e3]
   dsimp only
   rw[x3.get (x2.get hi)]
   dsimp only
   rw[if_pos (by omega)]
   have k13:∀j ob,j≠i0->h1[j]?=some ob->(h3.set i0 (.lst (acc++[f x])))[j]?=some ob:=λ j ob n q=>by
    rw[List.getElem?_set_ne (Ne.symm n)]
    exact x3.get (x2.get q)
   refine WR.mono (J3f i0 (acc:=acc++[f x]) sl (by rw[List.getElem?_set_self (Jcb (x3.get (x2.get hi)))]) (λ h4 q=>hc h4 λ j ob n r=>q j ob n (k13 j ob n r)) (by simp;omega) (λ y hy=>hg y (List.mem_cons_of_mem _ hy)) (λ y hy h4 q=>ht y (List.mem_cons_of_mem _ hy) h4 λ j ob n r=>q j ob n (k13 j ob n r))
    λ y hy hpy h4 q=>he y (List.mem_cons_of_mem _ hy) hpy h4 λ j ob n r=>q j ob n (k13 j ob n r)) λ v h4 ⟨ev,g,eg⟩=>⟨ev,?_⟩
   obtain⟨g3,q3⟩:=x2.trans x3
   refine⟨g3++g,?_⟩
   rw[eg,q3,List.set_append_left (h:=Jcb hi),List.set_append_left (h:=by rw[List.length_set];exact Jcb hi),List.set_set]
   simp[hp]
theorem Jvs {it:I1}{g:G1}{t:T1}{e:E1}{js:List Nat}{σ:ISt}{xs:List IV}{chk:IH->Prop}{p:IV->Bool}{f:IV->IV}{st:IV->ISt}{n:Nat}{h0:IH}(hit:WR (it σ h0) λ J h1=>J.xs=xs/\J.chk=chk/\h1=h) (hl:xs.length<sizeLine)
  (hc:∀h2:IH,(∀(j:Nat) (ob:IO),h[j]?=some ob->h2[j]?=some ob)->chk h2)
  (hg:∀x∈xs,∀(ls:ISt) (h2:IH),ls.length=n->(st x).length=n/\g x (ls++js.map λ j=>(σ[j]?).join) h2=.next (st x++js.map λ j=>(σ[j]?).join) h2)
  (ht:∀x∈xs,∀h2:IH,(∀(j:Nat) (ob:IO),h[j]?=some ob->h2[j]?=some ob)->WR (t (st x++js.map λ j=>(σ[j]?).join) h2) λ b h3=>b=p x/\Ex h2 h3)
  (he:∀x∈xs,p x=true->∀h2:IH,(∀(j:Nat) (ob:IO),h[j]?=some ob->h2[j]?=some ob)->WR (e (st x++js.map λ j=>(σ[j]?).join) h2) λ v h3=>v=f x/\Ex h2 h3) :
  WR (Jr it n js g t e σ h0) λ v h3=>v=.ref h.length/\∃g,h3=h++.lst ((xs.filter p).map f)::g:=by
 obtain⟨J,h1,e1,q1,q2,rfl⟩:=hit.eq
 unfold Jr
 rw[e1]
 show WR (Jcx J.chk g t e h1.length J.xs (List.replicate n none++js.map λ j=>(σ[j]?).join) (h1++[.lst []])) _
 rw[q1,q2]
 have lift:∀{h2:IH},(∀j ob,j≠h1.length->(h1++[IO.lst []])[j]?=some ob->h2[j]?=some ob)->∀j ob,h1[j]?=some ob->h2[j]?=some ob:=λ q j ob r=>q j ob (Nat.ne_of_lt (Jcb r)) (grow r)
 refine WR.mono (J3f (p:=p) (f:=f) (st:=st) h1.length (acc:=[]) (List.length_replicate ..) Jg (λ h2 q=>hc h2 (lift q)) (by simpa using hl) hg (λ x hx h2 q=>ht x hx h2 (lift q)) λ x hx hp h2 q=>he x hx hp h2 (lift q)) λ v h3 ⟨ev,g,eg⟩=>⟨ev,g,?_⟩
 rw[eg]
 simp
end
noncomputable def J24 (ts:List Addr) (H:Hp):Prop:=∀b,H b=none∨(∃o xs,H b=some (.frz o (.lst xs)))∨(b∈ts/\H b=some (.tbl #[]))
theorem Jyt {P:Program}{w:World}{K:W.Frag}{mg mb:Str->Option Value}{k:Nat}{fa a:Addr}{fd:FuncData}{x:Str}{sp:Sp}{s₁:Shared}{vs:List Value}{ns:List Int}{ts:List Addr}
  (KX:K.In s₁.heap) (hns:s₁.heap.Ns mainGlobals mg) (hb:s₁.heap.Ns builtinsNs mb) (hbb:∀x:Str,x≠"__name__"->mb x=bootBuiltins x) (hlim:s₁.heap.NoLimit) (hg:s₁.gens=#[])
  (ha:s₁.heap.get? a=some { cls:=.type "list",data:=.seq vs.toArray }) (hi:IntsAre vs ns) (hl:ns.length<=sizeLine) (hr:Room k callerA)
  (hT:∀p∈ts,s₁.heap.get? p=some (W.tabObj #[])/\isCodeTable s₁.heap p/\K.lookup p=none)
  (hbm:∃bm ob,mg "__builtins__"=some (.ref bm)/\bm≠builtinsNs/\s₁.heap.get? bm=some ob/\ob.cls=.type "module"/\ob.dict=some builtinsNs/\ob.data=.plain)
  (F:∀base:Heap,K.In base->base.Ns mainGlobals mg->Jmx mg base->FnOk P w K mg base (CXI P w) k fa fd [x] sp) (hbind:∀(s:Shared) (u:Value),BindsTo s fd ⟨[u],[]⟩ [(x,u)])
  (hsp:∀H:Hp,J24 ts H->SqL K H a (ns.map V.int)->(∀p∈ts,H p=some (.tbl #[]))->sp [.ref a] H (λ v _=>v=.bl true) λ _ _ _=>False) :
  codeAny (model P w) callerA (.call (.ref fa) ⟨[.ref a],[]⟩) (λ r s'=>r=.ok (.ret (.bool true))/\OldK s₁.heap s'.heap/\s'.os=s₁.os/\AllBare s'.gens) s₁:=by
 have rv:=L2.Jgz hi
 have lenV:=hi.length
 have nta:a∉ts:=λ z=>by
  have e:=(hT a z).1
  rw[ha] at e
  have e':=Option.some.inj e
  injection e' with h1
  cases h1
 have core:∀H:Hp,J24 ts H->SqL K H a (ns.map V.int)->HOk P w H s₁.heap->(∀b,H b≠none->b=a∨b∈ts)->(H a≠none->K.lookup a=none)->(∀p∈ts,H p=some (.tbl #[])) ->
   codeAny (model P w) callerA (.call (.ref fa) ⟨[.ref a],[]⟩) (λ r s'=>r=.ok (.ret (.bool true))/\OldK s₁.heap s'.heap/\s'.os=s₁.os/\AllBare s'.gens) s₁:=by
  intro H hO hS hok hA hK hTt
  have base_of:∀{b:Addr}{o:Obj},s₁.heap.get? b=some o->H b=none->(hidT s₁.heap H).get? b=some o:=λ e n=>J0o e n
  have noA:∀{b:Addr}{o:Obj},s₁.heap.get? b=some o->(∀vs n,o.data≠.seq vs n)->(∀vs,o.data≠.fields vs)->H b=none:=λ {b o} e d1 d2=>by
   cases q:H b with
   | none=>rfl
   | some u =>
    rcases hA b (by rw[q];simp) with e'|e'
    ·subst e'
     rw[ha] at e;cases e
     exact absurd rfl (d1 _ _)
    ·rw[(hT b e').1] at e;cases e
     exact absurd rfl (d2 _)
  have nsK:∀{b:Addr}{m:Str->Option Value},s₁.heap.Ns b m->(hidT s₁.heap H).Ns b m:=λ {b m} ⟨o,es,ep,e,d,r⟩=>⟨o,es,ep,base_of e (noA e (λ _ _ z=>by rw[d] at z;cases z) λ _ z=>by rw[d] at z;cases z),d,r⟩
  have hKb:K.In (hidT s₁.heap H):=λ b o e=>base_of (KX b o e) (by
   cases q:H b with
   | none=>rfl
   | some u =>
    rcases hA b (by rw[q];simp) with e'|e'
    ·subst e'
     rw[hK (by rw[q];simp)] at e;cases e
    ·rw[(hT b e').2.2] at e;cases e)
  have hM:Mod K mg (hidT s₁.heap H):=⟨hKb,nsK hns,⟨mb,nsK hb,hbb⟩,let ⟨mc,h1,h2⟩:=hlim;⟨mc,nsK h1,h2⟩⟩
  have hB:Jmx mg (hidT s₁.heap H):=by
   obtain⟨bm,ob,b1,b2,b3,b4,b5,b6⟩:=hbm
   refine⟨bm,ob,b1,b2,λ z=>?_,base_of b3 (noA b3 (λ _ _ z=>by rw[b6] at z;cases z) λ _ z=>by rw[b6] at z;cases z),b4,b5,b6⟩
   obtain⟨o,es,ep,e,d,_⟩:=hns
   rw[<- z,b3] at e
   cases e
   rw[b6] at d
   cases d
  have e0:Env0 P w K mg (hidT s₁.heap H) callerA [] s₁ H:=⟨rfl,hM,λ b o e=>J4h e,Nat.le_of_eq (Jyk _ _),trivial,λ b hb=>absurd (show b∈([]:List Addr) from hb) (by simp),hok,.of_eq hg⟩
  refine codeAny_mono ((F _ hKb (nsK hns) hB).run callerA [] s₁ H ⟨[.ref a],[]⟩ [.ref a] [.ref a] _ _ hr e0 (hbind s₁ (.ref a)) (.cons rfl .nil) (hsp H hO hS hTt)) λ r s' h=>?_
  cases r with
  | error e=>exact h.elim λ _ z=>z.2.2.2.2.elim
  | ok fl =>
   cases fl with
   | next=>exact False.elim h
   | brk=>exact False.elim h
   | cont=>exact False.elim h
   | ret u =>
    obtain⟨v,H',os,bare,un,hok',r',q⟩:=h
    have q':v=.bl true:=q
    subst q'
    obtain rfl:u=Value.bool true:=r'
    have main:∀b o,s₁.heap.get? b=some o->asItWas s₁.heap s'.heap b o/\∃o',s'.heap.get? b=some o':=λ b o e=>by
     rcases hO b with z|⟨ob,xs,z⟩|⟨hb,z⟩
     ·have:=un.keep b o e z (by intro z;exact absurd (show b∈([]:List Addr) from z) (by simp)) (by simp)
      exact⟨.inl this,_,this⟩
     ·have z2:=un.frzs b ob _ z
      obtain⟨e1,_⟩:=hok b _ z
      obtain⟨e2,_⟩:=hok' b _ z2
      rw[e] at e1;cases e1
      exact⟨.inl e2,_,e2⟩
     ·obtain⟨more,z2⟩:=un.tbls b _ z
      have e2:=hok' b _ z2
      have e1:=(hT b hb).1
      rw[e] at e1
      cases e1
      exact⟨.inr (.inl ⟨(hT b hb).2.1,rfl,#[],more,rfl,e2⟩),_,e2⟩
    exact⟨rfl,⟨λ b o e=>(main b o e).1,λ b o e=>(main b o e).2⟩,os,bare⟩
 cases hk:K.lookup a with
 | some o =>
  have e:=KX a o hk
  rw[ha] at e
  cases e
  refine core (λ b=>if b∈ts then some (.tbl #[]) else none) (λ b=>?_) (.inr ⟨_,vs.toArray,_,hk,rfl,rfl,rfl,by rw[List.size_toArray,lenV];exact hl,by simpa using rv⟩) (λ b u z=>?_) (λ b z=>?_) (λ z=>absurd (if_neg nta) z) λ p hp=>if_pos hp
  ·by_cases hb:b∈ts
   ·exact .inr (.inr ⟨hb,if_pos hb⟩)
   ·exact .inl (if_neg hb)
  ·by_cases hb:b∈ts
   ·have z':=(if_pos hb).symm.trans z
    cases z'
    exact(hT b hb).1
   ·have z':=(if_neg hb).symm.trans z
    cases z'
  ·by_cases hb:b∈ts
   ·exact .inr hb
   ·exact absurd (if_neg hb) z
 | none =>
  refine core (λ b=>if b=a then some (.frz { cls:=.type "list",data:=.seq vs.toArray } (.lst (ns.map V.int))) else if b∈ts then some (.tbl #[]) else none) (λ b=>?_) (.inl (.inr ⟨{ cls:=.type "list",data:=.seq vs.toArray },if_pos rfl⟩)) (λ b u z=>?_) (λ b z=>?_) (λ _=>hk) λ p hp=>?_
  ·by_cases hb:b=a
   ·exact .inr (.inl ⟨_,_,if_pos hb⟩)
   ·by_cases hc:b∈ts
    ·exact .inr (.inr ⟨hc,(if_neg hb).trans (if_pos hc)⟩)
    ·exact .inl ((if_neg hb).trans (if_neg hc))
  ·by_cases hb:b=a
   ·have z':=(if_pos hb).symm.trans z
    cases z'
    subst hb
    exact⟨ha,by rw[List.length_map];exact hl,vs,_,rv,ha⟩
   ·by_cases hc:b∈ts
    ·have z':=((if_neg hb).trans (if_pos hc)).symm.trans z
     cases z'
     exact(hT b hc).1
    ·have z':=((if_neg hb).trans (if_neg hc)).symm.trans z
     cases z'
  ·by_cases hb:b=a
   ·exact .inl hb
   ·by_cases hc:b∈ts
    ·exact .inr hc
    ·exact absurd ((if_neg hb).trans (if_neg hc)) z
  ·have hb:p≠a:=λ z=>nta (z▸hp)
   exact(if_neg hb).trans (if_pos hp)
noncomputable def J0c (o:Obj) (q:Str):Bool:=match o with
 | ⟨_,_,.fields vs,_⟩=>(match vs.toList with|_::.str n _::_=>n==q|_=>false)
 | _=>false
noncomputable def Jod (K:W.Frag) (q:Str) (p:Addr):Bool:=(K.lookup p).isNone&&K.all (λ e=>!(J0c e.2 q)||W.codeHdIn K e.1 p)&&K.any (λ e=>J0c e.2 q&&W.codeHdIn K e.1 p)
noncomputable def Jc7 (K:W.Frag):List Str->List Addr->Bool
 | [],[]=>true
 | q::qs,p::ps=>Jod K q p&&!ps.contains p&&Jc7 K qs ps
 | _,_=>false
theorem Jwl {K:W.Frag}{c:Addr}{o:Obj}(h:K.lookup c=some o):(c,o)∈K:=by
 induction K with
 | nil=>cases h
 | cons p K ih =>
  obtain⟨b,o'⟩:=p
  rw[List.lookup_cons] at h
  split at h
  ·rename_i e
   cases h
   rw[beq_iff_eq.mp e]
   exact List.mem_cons_self
  ·exact List.mem_cons_of_mem _ (ih h)
theorem Jod.code {K:W.Frag}{q:Str}{p:Addr}(h:Jod K q p=true):∀cdv,W.codeIn K cdv q=true->∃c,cdv=.ref c/\W.codeHdIn K c p=true:=by
 simp only[Jod,Bool.and_eq_true,List.all_eq_true,Bool.or_eq_true,Bool.not_eq_true'] at h
 intro cdv e
 unfold W.codeIn at e
 split at e
 ·rename_i c
  refine⟨c,rfl,?_⟩
  cases hk:K.lookup c with
  | none=>rw[hk] at e;cases e
  | some o =>
   rw[hk] at e
   rcases h.1.2 _ (Jwl hk) with z|z
   ·exfalso
    have e':J0c o q=true:=by
     obtain⟨oc,od,dt,sl⟩:=o
     cases dt<;>first|exact e|cases e
    have z':J0c o q=false:=z
    rw[e'] at z'
    cases z'
   ·exact z
 ·cases e
theorem Jod.some {K:W.Frag}{q:Str}{p:Addr}(h:Jod K q p=true):K.lookup p=none/\∃c,W.codeHdIn K c p=true:=by
 simp only[Jod,Bool.and_eq_true,List.any_eq_true,Option.isNone_iff_eq_none] at h
 obtain⟨⟨h1,_⟩,e,_,h2⟩:=h
 exact⟨h1,e.1,h2.2⟩
theorem Jc7.mem {K:W.Frag}:∀{qs:List Str}{ts:List Addr},Jc7 K qs ts=true->ts.Nodup/\qs.length=ts.length/\(∀(i:Nat) (q:Str),qs[i]?=some q->∃p,ts[i]?=some p/\Jod K q p=true)/\∀p∈ts,∃q,Jod K q p=true
 | [],[],_=>⟨.nil,rfl,λ i q e=>by simp at e,λ p hp=>by cases hp⟩
 | q::qs,p::ps,h=>by
  simp only[Jc7,Bool.and_eq_true,Bool.not_eq_true',List.contains_eq_mem,decide_eq_false_iff_not] at h
  obtain⟨⟨h1,h2⟩,h3⟩:=h
  obtain⟨a,b,c,d⟩:=Jc7.mem h3
  refine⟨List.nodup_cons.mpr ⟨h2,a⟩,by simp[b],λ i r e=>?_,λ r hr=>?_⟩
  ·cases i with
   | zero =>
    have e':some q=some r:=e
    cases e'
    exact⟨p,rfl,h1⟩
   | succ i=>exact c i r e
  ·rcases List.mem_cons.mp hr with rfl|hr
   ·exact⟨q,h1⟩
   ·exact d r hr
 | [],_::_,h=>by cases h
 | _::_,[],h=>by cases h
theorem Jwi {K:W.Frag}{x:Str}{f:List IV->IH->Res IV}{H:Hp}{a:Addr}{ns:List Int}{qs:List Str}{ts:List Addr}(hO:J24 ts H) (hS:SqL K H a (ns.map V.int)) (hT:∀p∈ts,H p=some (.tbl #[])) (hc:Jc7 K qs ts=true)
  (hf:∃h',f [.rol (ns.map IV.int)] (qs.map IO.tab)=.ok (.bl true) h'):Jw8 K x f [.ref a] H (λ v _=>v=.bl true) λ _ _ _=>False:=by
 intro ce
 obtain⟨h',hf⟩:=hf
 have sr:SqR K H a (ns.map V.int):=by
  rcases hS with(h|⟨o,h⟩)|h
  ·rcases hO a with z|⟨ob,xs,z⟩|⟨_,z⟩
   ·rw[z] at h;cases h
   ·rw[z] at h;cases h
   ·rw[z] at h;cases h
  ·exact .inl ⟨o,h⟩
  ·exact .inr h
 obtain⟨nd,le,at_,_⟩:=Jc7.mem hc
 refine⟨rfl,ts,qs.map IO.tab,[.rol (ns.map IV.int)],⟨by simp[le],nd,λ i o e=>?_⟩,⟨.ref a,[],rfl,⟨a,_,rfl,sr,RVs.ints ns⟩,rfl⟩,?_⟩
 ·rw[List.getElem?_map] at e
  cases eq:qs[i]? with
  | none=>rw[eq] at e;cases e
  | some q =>
   rw[eq] at e
   cases e
   obtain⟨p,ep,hp⟩:=at_ i q eq
   exact⟨p,ep,Jod.code hp,#[],hT p (List.mem_of_getElem? ep),trivial,λ pos cv z=>by cases z⟩
 ·rw[hf]
  intro v H' ι' _ _ q
  exact q
theorem J1z {l:W.OpenLaw}{n k:Nat}{q:Program}{loose:List Str}{XP:(Str->Option Value)->Heap->Prop}{YP:World->Heap->Prop}{d:DefRec}{K:Params->W.Frag}{f:List IV->IH->Res IV}{x:Str}{qs:List Str}{ts:List Addr}
  (hn:l.most=some n) (hn2:n<=sizeLine) (hdf:d.params.defaults=[]) (hr:Room k callerA)
  (hY:∀(w:World) (h:Heap),YP w h->(K w.params).In h/\∀p∈ts,h.get? p=some (W.tabObj #[])) (hc:∀w:World,Jc7 (K w.params) qs ts=true)
  (F:∀(w:World) (mg:Str->Option Value) (fa:Addr) (h:Heap),(K w.params).In h->h.Ns mainGlobals mg->mg d.name=some (.ref fa) ->
   ∃fd:FuncData,(∀(s:Shared) (u:Value),BindsTo s fd ⟨[u],[]⟩ [(x,u)]) /\
    ∀base:Heap,(K w.params).In base->base.Ns mainGlobals mg->Jmx mg base->FnOk l.prog w (K w.params) mg base (CXI l.prog w) k fa fd [x] (Jw8 (K w.params) x f))
  (hf:∀ns:List Int,ns.length<=n->∃h',f [.rol (ns.map IV.int)] (qs.map IO.tab)=.ok (.bl true) h') :
  W.WalkO q loose XP YP l.row.toRowW d [] (λ f vs=>PySem.call f vs):=by
 refine Att.attach_call hn hdf λ w s₀ s₁ mg mb fa o pm cd doc a vs ns G Y ho hd hcd hmg hobj hints hlen hg=>?_
 obtain⟨KX,hT⟩:=hY w _ Y
 obtain⟨fd,hb,hF⟩:=F w mg fa _ KX G.T.g hmg
 refine Jyt KX G.T.g G.T.b G.T.builtins G.T.nolimit hg hobj hints (Nat.le_trans hlen hn2) hr (λ p hp=>?_) G.T.bmain hF hb λ H hO hS hTt=>Jwi hO hS hTt (hc w) (hf ns hlen)
 obtain⟨q,hq⟩:=(Jc7.mem (hc w)).2.2.2 p hp
 obtain⟨h1,c,h2⟩:=Jod.some hq
 exact⟨hT p hp,((W.codeHd_of_K KX h2).tab (hT p hp)).isCodeTable,h1⟩
section
variable {α β:Type}{σ:ISt}{h:IH}
variable {Q:α->IH->Prop}{Z:Nat->IH->Prop}{N:ISt->IH->Prop}{R:IV->IH->Prop}{Y:Nat->ISt->IH->Prop}
theorem Jz3 {Q:IV->IH->Prop}(x:Str) (lo hi:Option Int):WR (slT (.str x) lo hi h) Q=(x.length<=sizeLine/\Q (.str (Txt.slice x lo hi)) h):=by
 unfold slT;by_cases z:x.length<=sizeLine<;>simp[WR,z]
end
theorem Jnx:∀{a b c:List Int},ltL a b=true->ltL b c=true->ltL a c=true
 | a::as,b::bs,c::cs,h1,h2=>by
  unfold ltL at h1 h2 ⊢
  by_cases e1:a=b
  ·rw[if_pos e1] at h1
   subst e1
   by_cases e2:a=c
   ·rw[if_pos e2] at h2 ⊢
    exact Jnx h1 h2
   ·rw[if_neg e2] at h2 ⊢
    exact h2
  ·rw[if_neg e1,decide_eq_true_eq] at h1
   by_cases e2:b=c
   ·subst e2
    rw[if_neg e1,decide_eq_true_eq]
    exact h1
   ·rw[if_neg e2,decide_eq_true_eq] at h2
    rw[if_neg (by omega),decide_eq_true_eq]
    omega
 | [],_,_,h,_=>by simp[ltL] at h
 | _::_,[],_,h,_=>by simp[ltL] at h
 | _::_,_::_,[],_,h=>by simp[ltL] at h
theorem Jnw:∀a:List Int,ltL a a=false
 | []=>rfl
 | a::as=>by
  unfold ltL
  rw[if_pos rfl]
  exact Jnw as
theorem J06 {as bs:List Int}(h:as.length=bs.length):ltT (.tup (as.map .int)) (.tup (bs.map .int))=some (ltL as bs):=by
 unfold ltT
 dsimp only
 rw[Jca,Jca]
 dsimp only
 rw[if_pos h]
section
variable {mk:IV->IH->Res IV}{kf:IV->List Int}{i n:Nat}{ys:List IV}
theorem Jlj {h0:IH}(hi:h0[i]?=some (.lst ys)) (hm:∀y∈ys,∀h,Ex h0 h->WR (mk y h) λ v h'=>v=.tup ((kf y).map .int)/\Ex h h') (hl:∀y∈ys,(kf y).length=n) :
  ∀(r:Nat) (b:IV) (h:IH),Ex h0 h->r<ys.length->b∈ys->(∀y∈ys.take (ys.length-r),ltL (kf y) (kf b)=false)->WR (Jhr ltT mk i ys.length r b (.tup ((kf b).map .int)) h) λ v h'=>v∈ys/\(∀y∈ys,ltL (kf y) (kf v)=false)/\Ex h h'
 | 0,b,h,x,_,hb,q=>by
  unfold Jhr
  rw[x.get hi]
  dsimp only
  rw[if_pos rfl]
  rw[Nat.sub_zero,List.take_length] at q
  exact⟨hb,q,.refl _⟩
 | r+1,b,h,x,hr,hb,q=>by
  unfold Jhr
  rw[x.get hi]
  dsimp only
  rw[if_pos rfl]
  have hlt:ys.length-(r+1)<ys.length:=by omega
  rw[List.getElem?_eq_getElem hlt]
  dsimp only
  have hy:=List.getElem_mem hlt
  have ht:ys.take (ys.length-r)=ys.take (ys.length-(r+1))++[ys[ys.length-(r+1)]]:=by
   rw[<- List.take_succ_eq_append_getElem hlt,show ys.length-(r+1)+1=ys.length-r by omega]
  generalize ys[ys.length-(r+1)]=y at hy ht
  obtain⟨v,h2,e,rfl,x2⟩:=(hm y hy h x).eq
  rw[e]
  show WR (match ltT (.tup ((kf y).map .int)) (.tup ((kf b).map .int)) with|some true=>_|some false=>_|none=>_) _
  rw[J06 (by rw[hl y hy,hl b hb])]
  cases c:ltL (kf y) (kf b) with
  | true =>
   refine WR.mono (Jlj hi hm hl r y h2 (x.trans x2) (by omega) hy λ z hz=>?_) λ v h' ⟨a,d,g⟩=>⟨a,d,x2.trans g⟩
   rw[ht] at hz
   rcases List.mem_append.mp hz with hz|hz
   ·cases zc:ltL (kf z) (kf y) with
    | false=>rfl
    | true=>exact absurd (Jnx zc c) (by rw[q z hz];exact Bool.false_ne_true)
   ·rw[List.mem_singleton.mp hz]
    exact Jnw _
  | false =>
   refine WR.mono (Jlj hi hm hl r b h2 (x.trans x2) (by omega) hb λ z hz=>?_) λ v h' ⟨a,d,g⟩=>⟨a,d,x2.trans g⟩
   rw[ht] at hz
   rcases List.mem_append.mp hz with hz|hz
   ·exact q z hz
   ·rw[List.mem_singleton.mp hz]
    exact c
theorem Jz0 {h:IH}(hi:h[i]?=some (.lst ys)) (ne:ys≠[]) (hm:∀y∈ys,∀h',Ex h h'->WR (mk y h') λ v h2=>v=.tup ((kf y).map .int)/\Ex h' h2) (hl:∀y∈ys,(kf y).length=n) :
  WR (Jpy ltT mk i h) λ v h'=>v∈ys/\(∀y∈ys,ltL (kf y) (kf v)=false)/\Ex h h':=by
 unfold Jpy
 rw[hi]
 dsimp only
 cases ys with
 | nil=>exact absurd rfl ne
 | cons y r =>
  obtain⟨v,h2,e,rfl,x2⟩:=(hm y List.mem_cons_self h (.refl _)).eq
  show WR ((mk y h).nx.bind λ k h'=>Jhr ltT mk i (y::r).length ((y::r).length-1) y k h') _
  rw[e]
  refine WR.mono (Jlj (kf:=kf) (x2.get hi) (λ z hz h' x=>hm z hz h' (x2.trans x)) hl ((y::r).length-1) y h2 (.refl _) (by simp) List.mem_cons_self λ z hz=>?_) λ v h' ⟨a,d,g⟩=>⟨a,d,x2.trans g⟩
  rw[show(y::r).length-((y::r).length-1)=1 by simp,List.take_succ_cons,List.take_zero,List.mem_singleton] at hz
  rw[hz]
  exact Jnw _
theorem J5i {q:Str}{j i a:Nat}{js:List Nat}{m:E1}{σ:ISt}{h:IH}{Q:IV->IH->Prop}(hj:h[j]?=some (.tab q)) (hi:σ[i]?=some (some (.ref a))) :
  WR (Jv2 ltT q j js (Ja (eVar i) aNil) m σ h) Q=WR (Jpy ltT (λ v h'=>m (some v::js.map λ j=>(σ[j]?).join) h') a h) Q:=by
 have e:Ja (eVar i) aNil σ h=.ok [.ref a] h:=by
  unfold Ja eVar aNil
  rw[hi]
  rfl
 unfold Jv2
 rw[e]
 show WR (match h[j]? with|some (.tab q')=>_|_=>_) Q=_
 rw[hj]
 dsimp only
 rw[if_pos rfl]
end
end L4
namespace LW
theorem Kaz {α:Sort _}{p:α->Prop}{a':α}:(∃a,a'=a/\p a)↔p a':=exists_eq_left'
theorem Kbz {α:Sort _}{p:α->Prop}{a':α}:(∃a,a=a'/\p a)↔p a':=exists_eq_left
theorem Kcz (a b:Bool):(L3.IV.bl a=L3.IV.bl b)=(a=b):=L3.IV.bl.injEq a b
theorem Kdz (a b:Int):(L3.IV.int a=L3.IV.int b)=(a=b):=L3.IV.int.injEq a b
theorem Kez (a b:Nat):(L3.IV.ref a=L3.IV.ref b)=(a=b):=L3.IV.ref.injEq a b
theorem Kfz (a b:PySem.Str):(L3.IV.str a=L3.IV.str b)=(a=b):=L3.IV.str.injEq a b
theorem Kgz (a b:List L3.IV):(L3.IV.tup a=L3.IV.tup b)=(a=b):=L3.IV.tup.injEq a b
theorem Khz (a b:List L3.IV):(L3.IO.lst a=L3.IO.lst b)=(a=b):=L3.IO.lst.injEq a b
theorem Kiz {α:Type _}(a b:α):(some a=some b)=(a=b):=Option.some.injEq a b
theorem Kjz:(!true)=false:=Bool.not_true
theorem Kkz:(!false)=true:=Bool.not_false
theorem Klz:(true=false)=False:=Bool.true_eq_false
theorem Kmz:(false=true)=False:=Bool.false_eq_true
theorem Knz {α β:Type _}(a:α) (f:α->Option β):(some a).bind f=f a:=Option.bind_some a f
theorem Koz (p:Prop):(True->p)=p:=true_implies p
theorem Kpz (p:Prop):(False->p)=True:=false_implies p
theorem Kqz (α:Sort _):(α->True)=True:=implies_true α
theorem Krz {α:Type _}{a b:α}{l:List α}{n:Nat}:(a::l).set (n+1) b=a::l.set n b:=List.set_cons_succ
theorem Ksz {α:Type _}{a b:α}{l:List α}:(a::l).set 0 b=b::l:=List.set_cons_zero
theorem Ktz {α:Type _}{a:α}{l m:List α}:(a::l)++m=a::(l++m):=List.cons_append
theorem Kuz {α:Type _}(l:List α):[]++l=l:=List.nil_append l
theorem Kvz {α:Type _}(l:List α):l++[]=l:=List.append_nil l
end LW
namespace LW
open PySem L2 L3 L4
noncomputable def top (i:Nat):Stmt:=PySem.Challenge.pw_dutyproof_k32_who_goes_first.main.body.getD i (.Pass ⟨0,0,0,0⟩)
noncomputable def Jg8:D4:=⟨top 8,"is_whole",["thing"],["thing"],[]⟩
noncomputable def Ja7:D4:=⟨top 9,"is_whole_from",["thing","least"],["thing","least"],[]⟩
noncomputable def Je9:D4:=⟨top 10,"rounds_up",["top","bottom"],["top","bottom"],[]⟩
noncomputable def Jmp:D4:=⟨top 14,"due_at",["duty","coming"],["duty","coming"],[]⟩
noncomputable def Jkc:D4:=⟨top 21,"is_name",["thing"],["thing"],[]⟩
noncomputable def Jkb:D4:=⟨top 22,"is_hold",["hold","length"],["hold","length"],[]⟩
noncomputable def Je6:D4:=⟨top 23,"lie_apart",["one","other"],["one","other"],[]⟩
noncomputable def Jkf:D4:=⟨top 24,"lies_in",["one","other"],["one","other"],[]⟩
noncomputable def Jb5:D4:=⟨top 25,"go_together",["one","other"],["one","other"],[]⟩
noncomputable def Jaj:D4:=⟨top 26,"all_go_together",["holds"],["holds","place","hold"],[]⟩
noncomputable def Je7:D4:=⟨top 27,"own_holds",["holds","length"],["holds","length"],[]⟩
noncomputable def Jkg:D4:=⟨top 28,"own_due",["due","gap"],["due","gap"],[]⟩
noncomputable def Jm:D4:=⟨J7 (top 29) 0,"Work.__init__",["self","name","gap","length","due","late","holds"],["self","name","gap","length","due","late","holds"],[.non,.int 0,.non]⟩
noncomputable def Je2:D4:=⟨J7 (top 29) 1,"Work.held",["self"],["self"],[]⟩
noncomputable def Jg6:D4:=⟨top 31,"ceilings",["duty"],["duty","found","at","hold"],[]⟩
noncomputable def Jbl:D4:=⟨top 32,"refuse_holds",["duty"],["duty"],[]⟩
noncomputable def Jb9:D4:=⟨top 33,"things_held",["work","done"],["work","done"],[]⟩
noncomputable def Jmq:D4:=⟨top 34,"lifted",["at","things","tops"],["at","things","tops"],[]⟩
noncomputable def Jc4:D4:=⟨J7 (top 36) 0,"Order.__init__",["self","duty"],["self","duty"],[]⟩
noncomputable def Jcr:D4:=⟨J7 (top 36) 1,"Order.rank_of",["self","coming","done"],["self","coming","done"],[]⟩
noncomputable def Jy:D4:=⟨J7 (top 36) 2,"Order.holds",["self","coming","done"],["self","coming","done"],[]⟩
noncomputable def Jq:D4:=⟨J7 (top 36) 3,"Order.pick",["self","row","waiting","dones"],["self","row","waiting","dones"],[]⟩
noncomputable def Jh:D4:=⟨J7 (top 36) 4,"Order.standing",["self","coming","done"],["self","coming","done"],[]⟩
noncomputable def Jb4:D4:=⟨J7 (top 37) 0,"ByRank.__init__",["self","duty"],["self","duty"],[]⟩
noncomputable def Jas:D4:=⟨J7 (top 37) 1,"ByRank.rank_of",["self","coming","done"],["self","coming","done"],[]⟩
noncomputable def Jbk:D4:=⟨J7 (top 37) 2,"ByRank.holds",["self","coming","done"],["self","coming","done"],[]⟩
noncomputable def Jc3:D4:=⟨J7 (top 38) 0,"ByDue.__init__",["self","duty"],["self","duty"],[]⟩
noncomputable def Ja6:D4:=⟨J7 (top 38) 1,"ByDue.rank_of",["self","coming","done"],["self","coming","done"],[]⟩
noncomputable def Ja5:D4:=⟨J7 (top 39) 0,"ByComing.__init__",["self","duty"],["self","duty"],[]⟩
noncomputable def Jaa:D4:=⟨J7 (top 39) 1,"ByComing.rank_of",["self","coming","done"],["self","coming","done"],[]⟩
noncomputable def Je8:D4:=⟨top 43,"own_works",["works"],["works"],[]⟩
noncomputable def Jg7:D4:=⟨top 44,"crowd_of",["works"],["works","greatest"],[]⟩
noncomputable def Jez:D4:=⟨J7 (top 45) 0,"Duty.__init__",["self","works"],["self","works"],[]⟩
noncomputable def Je0:D4:=⟨J7 (top 45) 1,"Duty.size",["self"],["self"],[]⟩
noncomputable def Je1:D4:=⟨J7 (top 45) 2,"Duty.work",["self","at"],["self","at"],[]⟩
noncomputable def Jgm:D4:=⟨J7 (top 45) 4,"Duty.crowd",["self"],["self"],[]⟩
noncomputable def Jb6:D4:=⟨top 47,"_law_cell_at",["_law_script","_law_k"],["_law_script","_law_k"],[]⟩
noncomputable def Jc5:D4:=⟨top 48,"_law_stream",["_law_cell","_law_many"],["_law_cell","_law_many","_law_found","_law_rest","_law_k","_law_number"],[]⟩
noncomputable def Jhb:D4:=⟨top 49,"_law_word",["_law_cell","_law_k"],["_law_cell","_law_k","_law_letters","_law_size","_law_word_here","_law_at"],[]⟩
noncomputable def Je3:D4:=⟨top 50,"_law_holds",["_law_xs","_law_length","_law_words"],["_law_xs","_law_length","_law_words","_law_p","_law_one","_law_other","_law_some_here"],[]⟩
noncomputable def Je5:D4:=⟨top 51,"_law_plain",["_law_cell","_law_unit","_law_words"],["_law_cell","_law_unit","_law_words","_law_xs","_law_gap","_law_due","_law_late","_law_length","_law_holds_here"],[]⟩
noncomputable def Jha:D4:=⟨top 52,"_law_some",["_law_script","_law_held"],["_law_script","_law_held","_law_first","_law_unit","_law_second","_law_words","_law_some_here","_law_k","_law_plain_here"],[]⟩
noncomputable def Jke:D4:=⟨top 53,"_law_row",["_law_cells","_law_some_here"],["_law_cells","_law_some_here","_law_row_here","_law_last","_law_base","_law_cell","_law_xs","_law_at","_law_name","_law_gap","_law_length","_law_due","_law_late","_law_holds_here","_law_wait","_law_come"],[]⟩
noncomputable def Je4:D4:=⟨top 54,"_law_order",["_law_kind","_law_some_here"],["_law_kind","_law_some_here","_law_duty"],[]⟩
noncomputable def Jg9:D4:=⟨top 55,"_law_lows",["_law_some_here"],["_law_some_here","_law_lows_here","_law_at","_law_one","_law_thing","_law_start","_law_end"],[]⟩
noncomputable def Jkd:D4:=⟨top 56,"_law_key",["_law_kind","_law_some_here","_law_lows_here","_law_coming","_law_done","_law_place"],["_law_kind","_law_some_here","_law_lows_here","_law_coming","_law_done","_law_place","_law_at","_law_come","_law_late","_law_length","_law_held"],[]⟩
noncomputable def Jb7:D4:=⟨top 57,"_law_done_by",["_law_coming","_law_holds_here","_law_x"],["_law_coming","_law_holds_here","_law_x","_law_some_here","_law_thing","_law_start","_law_end","_law_done"],[]⟩
noncomputable def Jb8:D4:=⟨top 58,"_law_waiting",["_law_xs"],["_law_xs","_law_drawn"],[]⟩
noncomputable def Jnf:D4:=⟨top 59,"law",["_law_script"],["_law_script","_law_kind","_law_some_here","_law_row_here","_law_order_here","_law_lows_here","_law_turn","_law_xs","_law_dones","_law_waiting_here","_law_handed","_law_found","_law_keys"],[]⟩
noncomputable def T:Tab where
 fns:=[(("is_whole":Str),Jg8),(("is_whole_from":Str),Ja7),(("rounds_up":Str),Je9),(("due_at":Str),Jmp),(("is_name":Str),Jkc),(("is_hold":Str),Jkb),(("lie_apart":Str),Je6),(("lies_in":Str),Jkf),(("go_together":Str),Jb5),(("all_go_together":Str),Jaj),(("own_holds":Str),Je7),(("own_due":Str),Jkg),(("ceilings":Str),Jg6),(("refuse_holds":Str),Jbl),(("things_held":Str),Jb9),(("lifted":Str),Jmq),(("own_works":Str),Je8),(("crowd_of":Str),Jg7),(("_law_cell_at":Str),Jb6),(("_law_stream":Str),Jc5),(("_law_word":Str),Jhb),(("_law_holds":Str),Je3),(("_law_plain":Str),Je5),(("_law_some":Str),Jha),(("_law_row":Str),Jke),(("_law_order":Str),Je4),(("_law_lows":Str),Jg9),(("_law_key":Str),Jkd),(("_law_done_by":Str),Jb7),(("_law_waiting":Str),Jb8),(("law":Str),Jnf)]
 clss:=[("Work",Jm),("Order",Jc4),("ByRank",Jb4),("ByDue",Jc3),("ByComing",Ja5),("Duty",Jez)]
 meths:=[("Work",([("held",Je2)]:List (Str×D4))),("Order",([("rank_of",Jcr),("holds",Jy),("pick",Jq),("standing",Jh)]:List (Str×D4))),("ByRank",([("rank_of",Jas),("holds",Jbk),("pick",Jq),("standing",Jh)]:List (Str×D4))),("ByDue",([("rank_of",Ja6),("holds",Jy),("pick",Jq),("standing",Jh)]:List (Str×D4))),("ByComing",([("rank_of",Jaa),("holds",Jy),("pick",Jq),("standing",Jh)]:List (Str×D4))),("Duty",([("size",Je0),("work",Je1),("crowd",Jgm)]:List (Str×D4)))]
 cons:=[("AT",.int 0),("COME",.int 1),("MOST_LETTERS",.int 8),("MOST_HOLDS",.int 6),("THING",.int 0),("START",.int 1),("END",.int 2),("MOST_WORKS",.int 12),("MOST_CROWD",.int 80)]
 isas:=[("Work",["Work"]),("Order",["Order","ByRank","ByDue","ByComing"]),("ByRank",["ByRank"]),("ByDue",["ByDue"]),("ByComing",["ByComing"])]
 flds:=["append","due","duty","gap","hold_tuples","join","late","length","name","setdefault","tops","works"]
 frees:=["all","bool","enumerate","int","isinstance","len","list","max","min","range","set","sorted","str","sum","tuple"]
 tabs:=["Order.pick"]
 bass:=["Order"]
noncomputable abbrev pg (k:Nat):Pg:=mkPg T (run T k)
noncomputable abbrev Jg2 (k:Nat):List IV->IH->Res IV:=run T k Jg8
noncomputable abbrev Jl (k:Nat):List IV->IH->Res IV:=run T k Ja7
noncomputable abbrev Jeg (k:Nat):List IV->IH->Res IV:=run T k Je9
noncomputable abbrev Jp8 (k:Nat):List IV->IH->Res IV:=run T k Jmp
noncomputable abbrev Jfr (k:Nat):List IV->IH->Res IV:=run T k Jkc
noncomputable abbrev Ji2 (k:Nat):List IV->IH->Res IV:=run T k Jkb
noncomputable abbrev Jee (k:Nat):List IV->IH->Res IV:=run T k Je6
noncomputable abbrev Jfs (k:Nat):List IV->IH->Res IV:=run T k Jkf
noncomputable abbrev Jbz (k:Nat):List IV->IH->Res IV:=run T k Jb5
noncomputable abbrev Jag (k:Nat):List IV->IH->Res IV:=run T k Jaj
noncomputable abbrev Jbd (k:Nat):List IV->IH->Res IV:=run T k Je7
noncomputable abbrev Jdy (k:Nat):List IV->IH->Res IV:=run T k Jkg
noncomputable abbrev Jcf (k:Nat):List IV->IH->Res IV:=run T k Jm
noncomputable abbrev Jea (k:Nat):List IV->IH->Res IV:=run T k Je2
noncomputable abbrev Jcd (k:Nat):List IV->IH->Res IV:=run T k Jg6
noncomputable abbrev Jap (k:Nat):List IV->IH->Res IV:=run T k Jbl
noncomputable abbrev Ja2 (k:Nat):List IV->IH->Res IV:=run T k Jb9
noncomputable abbrev Jmn (k:Nat):List IV->IH->Res IV:=run T k Jmq
noncomputable abbrev Jaw (k:Nat):List IV->IH->Res IV:=run T k Jc4
noncomputable abbrev Ja1 (k:Nat):List IV->IH->Res IV:=run T k Jy
noncomputable abbrev Jac (k:Nat):List IV->IH->Res IV:=run T k Jq
noncomputable abbrev Jw (k:Nat):List IV->IH->Res IV:=run T k Jh
noncomputable abbrev Jby (k:Nat):List IV->IH->Res IV:=run T k Jb4
noncomputable abbrev Jar (k:Nat):List IV->IH->Res IV:=run T k Jas
noncomputable abbrev Jbi (k:Nat):List IV->IH->Res IV:=run T k Jbk
noncomputable abbrev Jc1 (k:Nat):List IV->IH->Res IV:=run T k Jc3
noncomputable abbrev Ja0 (k:Nat):List IV->IH->Res IV:=run T k Ja6
noncomputable abbrev Jaz (k:Nat):List IV->IH->Res IV:=run T k Ja5
noncomputable abbrev J8 (k:Nat):List IV->IH->Res IV:=run T k Jaa
noncomputable abbrev Jef (k:Nat):List IV->IH->Res IV:=run T k Je8
noncomputable abbrev Jg1 (k:Nat):List IV->IH->Res IV:=run T k Jg7
noncomputable abbrev Jce (k:Nat):List IV->IH->Res IV:=run T k Jez
noncomputable abbrev Jd8 (k:Nat):List IV->IH->Res IV:=run T k Je0
noncomputable abbrev Jd9 (k:Nat):List IV->IH->Res IV:=run T k Je1
noncomputable abbrev Jx (k:Nat):List IV->IH->Res IV:=run T k Jb6
noncomputable abbrev Jax (k:Nat):List IV->IH->Res IV:=run T k Jc5
noncomputable abbrev Jdx (k:Nat):List IV->IH->Res IV:=run T k Jhb
noncomputable abbrev Jeb (k:Nat):List IV->IH->Res IV:=run T k Je3
noncomputable abbrev Jed (k:Nat):List IV->IH->Res IV:=run T k Je5
noncomputable abbrev Jg4 (k:Nat):List IV->IH->Res IV:=run T k Jha
noncomputable abbrev Ji4 (k:Nat):List IV->IH->Res IV:=run T k Jke
noncomputable abbrev Jec (k:Nat):List IV->IH->Res IV:=run T k Je4
noncomputable abbrev Jg3 (k:Nat):List IV->IH->Res IV:=run T k Jg9
noncomputable abbrev Ji3 (k:Nat):List IV->IH->Res IV:=run T k Jkd
noncomputable abbrev Jb0 (k:Nat):List IV->IH->Res IV:=run T k Jb7
noncomputable abbrev Jb1 (k:Nat):List IV->IH->Res IV:=run T k Jb8
noncomputable abbrev Jtr (k:Nat):List IV->IH->Res IV:=run T k Jnf
noncomputable def Jlo (k:Nat):S1:=(sRet (eAnd (eIsi Jhi (eVar 0)) (eUn (Jws tru) (eIsi Jc8 (eVar 0))) tru))
theorem Jun (k:Nat):Jg2 (k+1)=fnI 1 (Jlo k):=by kernel_rfl
theorem Jt7 (k:Nat) (x0:IV) (h:IH):Jg2 (k+1) [x0] h=(Jlo k [some x0] h).fin:=by rw[Jun];rfl
noncomputable def Jbg (k:Nat):S1:=(sRet (eAnd (Jn (Jg2 k) [] (Ja (eVar 0) aNil)) (eBin cGe (eVar 0) (eVar 1)) tru))
theorem Jmg (k:Nat):Jl (k+1)=fnI 2 (Jbg k):=by kernel_rfl
theorem Jmd (k:Nat) (x0 x1:IV) (h:IH):Jl (k+1) [x0,x1] h=(Jbg k [some x0,some x1] h).fin:=by rw[Jmg];rfl
noncomputable def Jex (k:Nat):S1:=(sRet (eBin Jaf (eBin Jsn (eBin Jo (eVar 0) (eVar 1)) (eC (.int 1))) (eVar 1)))
theorem Js1 (k:Nat):Jeg (k+1)=fnI 2 (Jex k):=by kernel_rfl
theorem Jsd (k:Nat) (x0 x1:IV) (h:IH):Jeg (k+1) [x0,x1] h=(Jex k [some x0,some x1] h).fin:=by rw[Js1];rfl
noncomputable def Jk1 (k:Nat):S1:=(sRet (eBin Jo (eBin opIx (eVar 1) (eC (.int 1))) (eFld "due" (eDot (pg k) "work" 1 (eVar 0) (Ja (eBin opIx (eVar 1) (eC (.int 0))) aNil)))))
theorem Jzb (k:Nat):Jp8 (k+1)=fnI 2 (Jk1 k):=by kernel_rfl
theorem Jyh (k:Nat) (x0 x1:IV) (h:IH):Jp8 (k+1) [x0,x1] h=(Jk1 k [some x0,some x1] h).fin:=by rw[Jzb];rfl
noncomputable def Jey (k:Nat):E1:=(Jfk cLe cLe (eC (.str "a")) (eVar 0) (eC (.str "z")))
noncomputable def Jm2 (k:Nat):S1:=(sRet (eCB (on1 allI) (Ja (Jr (iAny (eVar 0)) 1 [] (gNm 0) Jao (Jey k)) aNil)))
noncomputable def Jiq (k:Nat):S1:=sSeq (sIf (tOrI (Jcz (tOfB tru (eIsi Ji6 (eVar 0)))) (Jcz (tOfB asB (Jfk cLe cLe (eC (.int 1)) (eCB (on1 lenI) (Ja (eVar 0) aNil)) (eC (.int 8)))))) (sRet (eC (.bl false))) sNil) (Jm2 k)
theorem Jww (k:Nat):Jfr (k+1)=fnI 1 (Jiq k):=by kernel_rfl
theorem Jv6 (k:Nat) (x0:IV) (h:IH):Jfr (k+1) [x0] h=(Jiq k [some x0] h).fin:=by rw[Jww];rfl
noncomputable def Jm1 (k:Nat):S1:=(sRet (eAnd (Jn (Jl k) [] (Ja (eBin opIx (eVar 0) (eC (.int 2))) (Ja (eBin Jo (eBin opIx (eVar 0) (eC (.int 1))) (eC (.int 1))) aNil))) (eBin cLt (eBin opIx (eVar 0) (eC (.int 2))) (eVar 1)) tru))
noncomputable def Jm0 (k:Nat):S1:=sSeq (sIf (Jcz (tOfB tru (Jn (Jl k) [] (Ja (eBin opIx (eVar 0) (eC (.int 1))) (Ja (eC (.int 0)) aNil))))) (sRet (eC (.bl false))) sNil) (Jm1 k)
noncomputable def Jip (k:Nat):S1:=sSeq (sIf (tOrI (Jcz (tOfB tru (eIsi Ji7 (eVar 0)))) (tOrI (tOfB asB (eBin cNe (eCB (on1 lenI) (Ja (eVar 0) aNil)) (eC (.int 3)))) (Jcz (tOfB tru (Jn (Jfr k) [] (Ja (eBin opIx (eVar 0) (eC (.int 0))) aNil)))))) (sRet (eC (.bl false))) sNil) (Jm0 k)
theorem Jwv (k:Nat):Ji2 (k+1)=fnI 2 (Jip k):=by kernel_rfl
theorem Jv5 (k:Nat) (x0 x1:IV) (h:IH):Ji2 (k+1) [x0,x1] h=(Jip k [some x0,some x1] h).fin:=by rw[Jwv];rfl
noncomputable def Jeu (k:Nat):S1:=(sRet (eOr (eBin cLe (eBin opIx (eVar 0) (eC (.int 2))) (eBin opIx (eVar 1) (eC (.int 1)))) (eBin cLe (eBin opIx (eVar 1) (eC (.int 2))) (eBin opIx (eVar 0) (eC (.int 1)))) tru))
theorem Jsy (k:Nat):Jee (k+1)=fnI 2 (Jeu k):=by kernel_rfl
theorem Jsa (k:Nat) (x0 x1:IV) (h:IH):Jee (k+1) [x0,x1] h=(Jeu k [some x0,some x1] h).fin:=by rw[Jsy];rfl
noncomputable def Jit (k:Nat):S1:=(sRet (eAnd (eBin cLe (eBin opIx (eVar 1) (eC (.int 1))) (eBin opIx (eVar 0) (eC (.int 1)))) (eBin cLe (eBin opIx (eVar 0) (eC (.int 2))) (eBin opIx (eVar 1) (eC (.int 2)))) tru))
theorem Jwz (k:Nat):Jfs (k+1)=fnI 2 (Jit k):=by kernel_rfl
theorem Jv9 (k:Nat) (x0 x1:IV) (h:IH):Jfs (k+1) [x0,x1] h=(Jit k [some x0,some x1] h).fin:=by rw[Jwz];rfl
noncomputable def Jfz (k:Nat):S1:=(sRet (eOr (Jn (Jfs k) [] (Ja (eVar 0) (Ja (eVar 1) aNil))) (Jn (Jfs k) [] (Ja (eVar 1) (Ja (eVar 0) aNil))) tru))
noncomputable def Jfy (k:Nat):S1:=sSeq (sIf (tOfB asB (eBin cEq (eBin opIx (eVar 0) (eC (.int 0))) (eBin opIx (eVar 1) (eC (.int 0))))) (sRet (eC (.bl false))) sNil) (Jfz k)
noncomputable def Jcl (k:Nat):S1:=sSeq (sIf (tOfB tru (Jn (Jee k) [] (Ja (eVar 0) (Ja (eVar 1) aNil)))) (sRet (eC (.bl true))) sNil) (Jfy k)
theorem Jo1 (k:Nat):Jbz (k+1)=fnI 2 (Jcl k):=by kernel_rfl
theorem Joq (k:Nat) (x0 x1:IV) (h:IH):Jbz (k+1) [x0,x1] h=(Jcl k [some x0,some x1] h).fin:=by rw[Jo1];rfl
noncomputable def Jbr (k:Nat):E1:=(Jn (Jbz k) [] (Ja (eVar 1) (Ja (eVar 0) aNil)))
noncomputable def Jbx (k:Nat):S1:=(sIf (Jcz (tOfB tru (eCB (on1 allI) (Ja (Jr (iAny (eSl slI (eVar 0) Jox (Jk9 (eVar 1)))) 1 [2] (gNm 0) Jao (Jbr k)) aNil)))) (sRet (eC (.bl false))) sNil)
noncomputable def Jck (k:Nat):S1:=(sRet (eC (.bl true)))
noncomputable def Jav (k:Nat):S1:=sSeq (sFor (iRg Jgq (Ja (eVar 0) aNil)) (gTp 2 (gC (gNm 1) (gC (gNm 2) gN))) (Jbx k)) (Jck k)
theorem Jks (k:Nat):Jag (k+1)=fnI 3 (Jav k):=by kernel_rfl
theorem Jkj (k:Nat) (x0:IV) (h:IH):Jag (k+1) [x0] h=(Jav k [some x0,none,none] h).fin:=by rw[Jks];rfl
noncomputable def Jgh (k:Nat):E1:=(Jn (Ji2 k) [] (Ja (eVar 0) (Ja (eVar 1) aNil)))
noncomputable def Jgi (k:Nat):E1:=(eTup (Ja (eBin opIx (eVar 0) (eC (.int 0))) (Ja (eBin opIx (eVar 0) (eC (.int 1))) (Ja (eBin opIx (eVar 0) (eC (.int 2))) aNil))))
noncomputable def Jjz (k:Nat):S1:=(sRet (eCB (on1 Joe) (Ja (Jr (iAny (eVar 0)) 1 [] (gNm 0) Jao (Jgi k)) aNil)))
noncomputable def Jjy (k:Nat):S1:=sSeq (sIf (Jcz (tOfB tru (Jn (Jag k) [] (Ja (eVar 0) aNil)))) stS sNil) (Jjz k)
noncomputable def Jjx (k:Nat):S1:=sSeq (sIf (Jcz (tOfB tru (eCB (on1 allI) (Ja (Jr (iAny (eVar 0)) 1 [1] (gNm 0) Jao (Jgh k)) aNil)))) stS sNil) (Jjy k)
noncomputable def Jjw (k:Nat):S1:=sSeq (sIf (tOfB asB (eBin cGt (eCB (on1 lenI) (Ja (eVar 0) aNil)) (eC (.int 6)))) stS sNil) (Jjx k)
noncomputable def Jjv (k:Nat):S1:=sSeq (sIf (Jcz (tOfB tru (eIsi Jch (eVar 0)))) stS sNil) (Jjw k)
noncomputable def Jev (k:Nat):S1:=sSeq (sIf (tOfB asB (eBin cIs (eVar 0) (eC .non))) (sRet (eTup aNil)) sNil) (Jjv k)
theorem Jsz (k:Nat):Jbd (k+1)=fnI 2 (Jev k):=by kernel_rfl
theorem Jsb (k:Nat) (x0 x1:IV) (h:IH):Jbd (k+1) [x0,x1] h=(Jev k [some x0,some x1] h).fin:=by rw[Jsz];rfl
noncomputable def Jnc (k:Nat):S1:=(sRet (eVar 0))
noncomputable def Jnb (k:Nat):S1:=sSeq (sIf (tOrI (Jcz (tOfB tru (Jn (Jl k) [] (Ja (eVar 0) (Ja (eC (.int 1)) aNil))))) (tOfB asB (eBin cGt (eVar 0) (eVar 1)))) stS sNil) (Jnc k)
noncomputable def Jiu (k:Nat):S1:=sSeq (sIf (tOfB asB (eBin cIs (eVar 0) (eC .non))) (sRet (eVar 1)) sNil) (Jnb k)
theorem Jw0 (k:Nat):Jdy (k+1)=fnI 2 (Jiu k):=by kernel_rfl
theorem Jwa (k:Nat) (x0 x1:IV) (h:IH):Jdy (k+1) [x0,x1] h=(Jiu k [some x0,some x1] h).fin:=by rw[Jw0];rfl
noncomputable def Jjk (k:Nat):S1:=(Jld "hold_tuples" (eVar 0) (Jn (Jbd k) [] (Ja (eVar 6) (Ja (eVar 3) aNil))))
noncomputable def Jjj (k:Nat):S1:=sSeq (Jld "late" (eVar 0) (eVar 5)) (Jjk k)
noncomputable def Jji (k:Nat):S1:=sSeq (Jld "due" (eVar 0) (Jn (Jdy k) [] (Ja (eVar 4) (Ja (eVar 2) aNil)))) (Jjj k)
noncomputable def Jjh (k:Nat):S1:=sSeq (Jld "length" (eVar 0) (eVar 3)) (Jji k)
noncomputable def Jjg (k:Nat):S1:=sSeq (Jld "gap" (eVar 0) (eVar 2)) (Jjh k)
noncomputable def Jjf (k:Nat):S1:=sSeq (Jld "name" (eVar 0) (eVar 1)) (Jjg k)
noncomputable def Jje (k:Nat):S1:=sSeq (sIf (Jcz (tOfB tru (Jn (Jl k) [] (Ja (eVar 5) (Ja (eC (.int 0)) aNil))))) stS sNil) (Jjf k)
noncomputable def Jjd (k:Nat):S1:=sSeq (sIf (Jcz (tOfB tru (Jn (Jl k) [] (Ja (eVar 3) (Ja (eC (.int 1)) aNil))))) stS sNil) (Jje k)
noncomputable def Jjc (k:Nat):S1:=sSeq (sIf (Jcz (tOfB tru (Jn (Jl k) [] (Ja (eVar 2) (Ja (eC (.int 1)) aNil))))) stS sNil) (Jjd k)
noncomputable def Jel (k:Nat):S1:=sSeq (sIf (Jcz (tOfB tru (Jn (Jfr k) [] (Ja (eVar 1) aNil)))) stS sNil) (Jjc k)
theorem Jsu (k:Nat):Jcf (k+1)=fnI 7 (Jel k):=by kernel_rfl
theorem Jr6 (k:Nat) (x0 x1 x2 x3 x4 x5 x6:IV) (h:IH):Jcf (k+1) [x0,x1,x2,x3,x4,x5,x6] h=(Jel k [some x0,some x1,some x2,some x3,some x4,some x5,some x6] h).fin:=by rw[Jsu];rfl
noncomputable def Jek (k:Nat):S1:=(sRet (eCB (on1 Jnu) (Ja (eFld "hold_tuples" (eVar 0)) aNil)))
theorem Jst (k:Nat):Jea (k+1)=fnI 1 (Jek k):=by kernel_rfl
theorem Jr5 (k:Nat) (x0:IV) (h:IH):Jea (k+1) [x0] h=(Jek k [some x0] h).fin:=by rw[Jst];rfl
noncomputable def Jkk (k:Nat):S1:=(Jgv (eDot (pg k) "setdefault" 2 (eVar 1) (Ja (eBin opIx (eVar 3) (eC (.int 0))) (Ja (eVar 2) aNil))))
noncomputable def Jfd (k:Nat):S1:=(sFor (iAny (eDot (pg k) "held" 0 (eDot (pg k) "work" 1 (eVar 0) (Ja (eVar 2) aNil)) aNil)) (gNm 3) (Jkk k))
noncomputable def Jfw (k:Nat):S1:=(sRet (eVar 1))
noncomputable def Jfv (k:Nat):S1:=sSeq (sFor (iRg Jaq (Ja (eDot (pg k) "size" 0 (eVar 0) aNil) aNil)) (gNm 2) (Jfd k)) (Jfw k)
noncomputable def Jc2 (k:Nat):S1:=sSeq (sSet 1 Jv1) (Jfv k)
theorem Jul (k:Nat):Jcd (k+1)=fnI 4 (Jc2 k):=by kernel_rfl
theorem Jno (k:Nat) (x0:IV) (h:IH):Jcd (k+1) [x0] h=(Jc2 k [some x0,none,none,none] h).fin:=by rw[Jul];rfl
noncomputable def Jbv (k:Nat):S1:=(sIf (tOfB asB (eBin cGt (eCB (on1 Jwj) (Ja (Jn (Jcd k) [] (Ja (eVar 0) aNil)) aNil)) (eC (.int 0)))) stS sNil)
theorem Jn3 (k:Nat):Jap (k+1)=fnI 1 (Jbv k):=by kernel_rfl
theorem Jnp (k:Nat) (x0:IV) (h:IH):Jap (k+1) [x0] h=(Jbv k [some x0] h).fin:=by rw[Jn3];rfl
noncomputable def Jd2 (k:Nat):E1:=(eBin opIx (eVar 0) (eC (.int 0)))
noncomputable def Jd3 (k:Nat):T1:=(tOfB asB (Jfk cLt cLt (eBin opIx (eVar 0) (eC (.int 1))) (eVar 1) (eBin opIx (eVar 0) (eC (.int 2)))))
noncomputable def Jcq (k:Nat):S1:=(sRet (Jr (iAny (eDot (pg k) "held" 0 (eVar 0) aNil)) 1 [1] (gNm 0) (Jd3 k) (Jd2 k)))
theorem Jo5 (k:Nat):Ja2 (k+1)=fnI 2 (Jcq k):=by kernel_rfl
theorem Jou (k:Nat) (x0 x1:IV) (h:IH):Ja2 (k+1) [x0,x1] h=(Jcq k [some x0,some x1] h).fin:=by rw[Jo5];rfl
noncomputable def Jl0 (k:Nat):E1:=(eBin Joy (eVar 1) (eVar 0))
noncomputable def Jk2 (k:Nat):S1:=(sRet (eCB (on1 Juh) (Ja (eBin Jo (eLst (Ja (eVar 0) aNil)) (Jr (iAny (eVar 1)) 1 [2] (gNm 0) Jao (Jl0 k))) aNil)))
theorem Jzc (k:Nat):Jmn (k+1)=fnI 3 (Jk2 k):=by kernel_rfl
theorem Jyi (k:Nat) (x0 x1 x2:IV) (h:IH):Jmn (k+1) [x0,x1,x2] h=(Jk2 k [some x0,some x1,some x2] h).fin:=by rw[Jzc];rfl
noncomputable def Jda (k:Nat):S1:=(Jld "duty" (eVar 0) (eVar 1))
theorem Jqx (k:Nat):Jaw (k+1)=fnI 2 (Jda k):=by kernel_rfl
theorem Jql (k:Nat) (x0 x1:IV) (h:IH):Jaw (k+1) [x0,x1] h=(Jda k [some x0,some x1] h).fin:=by rw[Jqx];rfl
noncomputable def Jcj (k:Nat):S1:=(sRet (eC (.bl false)))
theorem Jo0 (k:Nat):Ja1 (k+1)=fnI 3 (Jcj k):=by kernel_rfl
theorem Jop (k:Nat) (x0 x1 x2:IV) (h:IH):Ja1 (k+1) [x0,x1,x2] h=(Jcj k [some x0,some x1,some x2] h).fin:=by rw[Jo0];rfl
noncomputable def Jfi (k:Nat):E1:=(eBin Jo (eDot (pg k) "standing" 2 (eVar 3) (Ja (eBin opIx (eVar 2) (eVar 0)) (Ja (eBin opIx (eVar 1) (eVar 0)) aNil))) (eTup (Ja (eVar 0) aNil)))
noncomputable def Jdb (k:Nat):S1:=(sRet (Jv2 ltT "Order.pick" 0 [3,1,0] (Ja (eVar 2) aNil) (Jfi k)))
theorem Jqy (k:Nat):Jac (k+1)=fnI 4 (Jdb k):=by kernel_rfl
theorem Jqm (k:Nat) (x0 x1 x2 x3:IV) (h:IH):Jac (k+1) [x0,x1,x2,x3] h=(Jdb k [some x0,some x1,some x2,some x3] h).fin:=by rw[Jqy];rfl
noncomputable def Ja4 (k:Nat):S1:=(sRet (eTup (Ja (eDot (pg k) "rank_of" 2 (eVar 0) (Ja (eVar 1) (Ja (eVar 2) aNil))) (Ja (eIf (tOfB tru (eDot (pg k) "holds" 2 (eVar 0) (Ja (eVar 1) (Ja (eVar 2) aNil)))) (eC (.int 0)) (eC (.int 1))) aNil))))
theorem Jlc (k:Nat):Jw (k+1)=fnI 3 (Ja4 k):=by kernel_rfl
theorem Jk8 (k:Nat) (x0 x1 x2:IV) (h:IH):Jw (k+1) [x0,x1,x2] h=(Ja4 k [some x0,some x1,some x2] h).fin:=by rw[Jlc];rfl
noncomputable def Jfu (k:Nat):S1:=(Jld "tops" (eVar 0) (Jn (Jcd k) [] (Ja (eVar 1) aNil)))
noncomputable def Jci (k:Nat):S1:=sSeq (Jgv (Jn (Jaw k) [] (Ja (eVar 0) (Ja (eVar 1) aNil)))) (Jfu k)
theorem Joz (k:Nat):Jby (k+1)=fnI 2 (Jci k):=by kernel_rfl
theorem Joo (k:Nat) (x0 x1:IV) (h:IH):Jby (k+1) [x0,x1] h=(Jci k [some x0,some x1] h).fin:=by rw[Joz];rfl
noncomputable def Ja3 (k:Nat):S1:=(sRet (Jn (Jmn k) [] (Ja (eBin opIx (eVar 1) (eC (.int 0))) (Ja (Jn (Ja2 k) [] (Ja (eDot (pg k) "work" 1 (eFld "duty" (eVar 0)) (Ja (eBin opIx (eVar 1) (eC (.int 0))) aNil)) (Ja (eVar 2) aNil))) (Ja (eFld "tops" (eVar 0)) aNil)))))
theorem Jlb (k:Nat):Jar (k+1)=fnI 3 (Ja3 k):=by kernel_rfl
theorem Jk7 (k:Nat) (x0 x1 x2:IV) (h:IH):Jar (k+1) [x0,x1,x2] h=(Ja3 k [some x0,some x1,some x2] h).fin:=by rw[Jlb];rfl
noncomputable def Jbu (k:Nat):S1:=(sRet (eBin cGt (eCB (on1 lenI) (Ja (Jn (Ja2 k) [] (Ja (eDot (pg k) "work" 1 (eFld "duty" (eVar 0)) (Ja (eBin opIx (eVar 1) (eC (.int 0))) aNil)) (Ja (eVar 2) aNil))) aNil)) (eC (.int 0))))
theorem Jn2 (k:Nat):Jbi (k+1)=fnI 3 (Jbu k):=by kernel_rfl
theorem Jnn (k:Nat) (x0 x1 x2:IV) (h:IH):Jbi (k+1) [x0,x1,x2] h=(Jbu k [some x0,some x1,some x2] h).fin:=by rw[Jn2];rfl
noncomputable def Jhj (k:Nat):S1:=(Jgv (Jn (Jaw k) [] (Ja (eVar 0) (Ja (eVar 1) aNil))))
noncomputable def Jc9 (k:Nat):S1:=sSeq (Jgv (Jn (Jap k) [] (Ja (eVar 1) aNil))) (Jhj k)
theorem Jqw (k:Nat):Jc1 (k+1)=fnI 2 (Jc9 k):=by kernel_rfl
theorem Jqk (k:Nat) (x0 x1:IV) (h:IH):Jc1 (k+1) [x0,x1] h=(Jc9 k [some x0,some x1] h).fin:=by rw[Jqw];rfl
noncomputable def Jbf (k:Nat):S1:=(sRet (Jn (Jp8 k) [] (Ja (eFld "duty" (eVar 0)) (Ja (eVar 1) aNil))))
theorem Jmf (k:Nat):Ja0 (k+1)=fnI 3 (Jbf k):=by kernel_rfl
theorem Jmc (k:Nat) (x0 x1 x2:IV) (h:IH):Ja0 (k+1) [x0,x1,x2] h=(Jbf k [some x0,some x1,some x2] h).fin:=by rw[Jmf];rfl
noncomputable def Jd0 (k:Nat):S1:=(Jgv (Jn (Jaw k) [] (Ja (eVar 0) (Ja (eVar 1) aNil))))
noncomputable def Jbe (k:Nat):S1:=sSeq (Jgv (Jn (Jap k) [] (Ja (eVar 1) aNil))) (Jd0 k)
theorem Jme (k:Nat):Jaz (k+1)=fnI 2 (Jbe k):=by kernel_rfl
theorem Jmb (k:Nat) (x0 x1:IV) (h:IH):Jaz (k+1) [x0,x1] h=(Jbe k [some x0,some x1] h).fin:=by rw[Jme];rfl
noncomputable def Jan (k:Nat):S1:=(sRet (eBin opIx (eVar 1) (eC (.int 1))))
theorem Jiz (k:Nat):J8 (k+1)=fnI 3 (Jan k):=by kernel_rfl
theorem Jix (k:Nat) (x0 x1 x2:IV) (h:IH):J8 (k+1) [x0,x1,x2] h=(Jan k [some x0,some x1,some x2] h).fin:=by rw[Jiz];rfl
noncomputable def Jgj (k:Nat):E1:=(eIsi (Jbb ["Work"]) (eVar 0))
noncomputable def Jgk (k:Nat):E1:=(eFld "name" (eVar 0))
noncomputable def Jj2 (k:Nat):S1:=(sRet (eCB (on1 Joe) (Ja (eVar 0) aNil)))
noncomputable def Jj1 (k:Nat):S1:=sSeq (sIf (tOfB asB (eBin cNe (Jni (Ja (Jr (iAny (eVar 0)) 1 [] (gNm 0) Jao (Jgk k)) aNil)) (eCB (on1 lenI) (Ja (eVar 0) aNil)))) stS sNil) (Jj2 k)
noncomputable def Jj0 (k:Nat):S1:=sSeq (sIf (Jcz (tOfB tru (eCB (on1 allI) (Ja (Jr (iAny (eVar 0)) 1 [] (gNm 0) Jao (Jgj k)) aNil)))) stS sNil) (Jj1 k)
noncomputable def Jew (k:Nat):S1:=sSeq (sIf (Jcz (tOfB tru (eIsi Jch (eVar 0)))) stS sNil) (Jj0 k)
theorem Js0 (k:Nat):Jef (k+1)=fnI 1 (Jew k):=by kernel_rfl
theorem Jsc (k:Nat) (x0:IV) (h:IH):Jef (k+1) [x0] h=(Jew k [some x0] h).fin:=by rw[Js0];rfl
noncomputable def Jho (k:Nat):E1:=(eFld "due" (eVar 0))
noncomputable def Jhp (k:Nat):E1:=(Jn (Jeg k) [] (Ja (eBin Jo (eVar 1) (eFld "late" (eVar 0))) (Ja (eFld "gap" (eVar 0)) aNil)))
noncomputable def Jln (k:Nat):S1:=(sRet (eCB (on1 sumI) (Ja (Jr (iAny (eVar 0)) 1 [1] (gNm 0) Jao (Jhp k)) aNil)))
noncomputable def Jfx (k:Nat):S1:=sSeq (sSet 1 (Jya (Ja (Jr (iAny (eVar 0)) 1 [] (gNm 0) Jao (Jho k)) aNil) (eC (.int 0)))) (Jln k)
theorem Jum (k:Nat):Jg1 (k+1)=fnI 2 (Jfx k):=by kernel_rfl
theorem Jt6 (k:Nat) (x0:IV) (h:IH):Jg1 (k+1) [x0] h=(Jfx k [some x0,none] h).fin:=by rw[Jum];rfl
noncomputable def Jjb (k:Nat):S1:=(sIf (tOfB asB (eBin cGt (Jn (Jg1 k) [] (Ja (eFld "works" (eVar 0)) aNil)) (eC (.int 80)))) stS sNil)
noncomputable def Jja (k:Nat):S1:=sSeq (sIf (tOfB asB (eBin cGt (eCB (on1 lenI) (Ja (eFld "works" (eVar 0)) aNil)) (eC (.int 12)))) stS sNil) (Jjb k)
noncomputable def Jeh (k:Nat):S1:=sSeq (Jld "works" (eVar 0) (Jn (Jef k) [] (Ja (eVar 1) aNil))) (Jja k)
theorem Jsq (k:Nat):Jce (k+1)=fnI 2 (Jeh k):=by kernel_rfl
theorem Jr2 (k:Nat) (x0 x1:IV) (h:IH):Jce (k+1) [x0,x1] h=(Jeh k [some x0,some x1] h).fin:=by rw[Jsq];rfl
noncomputable def Jei (k:Nat):S1:=(sRet (eCB (on1 lenI) (Ja (eFld "works" (eVar 0)) aNil)))
theorem Jsr (k:Nat):Jd8 (k+1)=fnI 1 (Jei k):=by kernel_rfl
theorem Jr3 (k:Nat) (x0:IV) (h:IH):Jd8 (k+1) [x0] h=(Jei k [some x0] h).fin:=by rw[Jsr];rfl
noncomputable def Jej (k:Nat):S1:=(sRet (eBin opIx (eFld "works" (eVar 0)) (eVar 1)))
theorem Jss (k:Nat):Jd9 (k+1)=fnI 2 (Jej k):=by kernel_rfl
theorem Jr4 (k:Nat) (x0 x1:IV) (h:IH):Jd9 (k+1) [x0,x1] h=(Jej k [some x0,some x1] h).fin:=by rw[Jss];rfl
noncomputable def Jf0 (k:Nat):S1:=(sRet (eC (.int 0)))
noncomputable def Jcm (k:Nat):S1:=sSeq (sIf (tOfB asB (eBin cLt (eVar 1) (eCB (on1 lenI) (Ja (eVar 0) aNil)))) (sRet (eBin opIx (eVar 0) (eVar 1))) sNil) (Jf0 k)
theorem Jo2 (k:Nat):Jx (k+1)=fnI 2 (Jcm k):=by kernel_rfl
theorem Jor (k:Nat) (x0 x1:IV) (h:IH):Jx (k+1) [x0,x1] h=(Jcm k [some x0,some x1] h).fin:=by rw[Jo2];rfl
noncomputable def Jgr (k:Nat):S1:=(sSeq (Jgv (eDot (pg k) "append" 1 (eVar 2) (Ja (eBin Ju (eVar 3) (eBin Jkq (eC (.int 10)) (eC (.int 45)))) aNil))) (sSet 3 (eBin Jaf (eVar 3) (eBin Jkq (eC (.int 10)) (eC (.int 45))))))
noncomputable def Jgs (k:Nat):S1:=(sSeq (sSet 5 (eBin Ju (eBin Jo (eBin Jo (eBin Jd6 (eVar 5) (eVar 5)) (eBin Jd6 (eC (.int 48271)) (eVar 5))) (eVar 4)) (eBin Jo (eBin Jkq (eC (.int 10)) (eC (.int 18))) (eC (.int 9))))) (Jgv (eDot (pg k) "append" 1 (eVar 2) (Ja (eVar 5) aNil))))
noncomputable def Jhn (k:Nat):S1:=(sRet (eSl slI (eVar 2) (Jk9 (eC (.int 2))) Jox))
noncomputable def Jhm (k:Nat):S1:=sSeq (sFor (iRg Jaq (Ja (eBin Jo (eVar 1) (eC (.int 2))) aNil)) (gNm 4) (Jgs k)) (Jhn k)
noncomputable def Jhl (k:Nat):S1:=sSeq (sSet 5 (eBin Jo (eBin Ju (eVar 0) (eBin Jo (eBin Jkq (eC (.int 10)) (eC (.int 18))) (eC (.int 9)))) (eC (.int 48271)))) (Jhm k)
noncomputable def Jhk (k:Nat):S1:=sSeq (sIf (tOfB asB (eBin cGe (eVar 0) (eBin Jkq (eC (.int 10)) (eC (.int 30))))) (sSeq (sSet 3 (eBin Jsn (eVar 0) (eBin Jkq (eC (.int 10)) (eC (.int 30))))) (sSeq (sFor (iRg Jaq (Ja (eVar 1) aNil)) (gNm 4) (Jgr k)) (sRet (eVar 2)))) sNil) (Jhl k)
noncomputable def Jdc (k:Nat):S1:=sSeq (sSet 2 (eLst aNil)) (Jhk k)
theorem Jqz (k:Nat):Jax (k+1)=fnI 6 (Jdc k):=by kernel_rfl
theorem Jqn (k:Nat) (x0 x1:IV) (h:IH):Jax (k+1) [x0,x1] h=(Jdc k [some x0,some x1,none,none,none,none] h).fin:=by rw[Jqz];rfl
noncomputable def Jbj (k:Nat):E1:=(eBin opIx (eVar 2) (eBin Ju (eBin Jaf (eVar 1) (eBin Jo (eC (.int 11)) (eBin Jd6 (eVar 0) (eVar 0)))) (eC (.int 26))))
noncomputable def Jlz (k:Nat):S1:=(sRet (eBin Jo (eBin Jo (eSl slT (eVar 4) Jox (Jk9 (eVar 5))) (eBin opIx (eVar 2) (eBin Ju (eBin Jo (eBin Jaf (eVar 0) (eC (.int 64))) (eVar 1)) (eC (.int 26))))) (eSl slT (eVar 4) (Jk9 (eBin Jo (eVar 5) (eC (.int 1)))) Jox)))
noncomputable def Jly (k:Nat):S1:=sSeq (sSet 5 (eBin Ju (eBin Jaf (eVar 0) (eC (.int 8))) (eVar 3))) (Jlz k)
noncomputable def Jlx (k:Nat):S1:=sSeq (sSet 4 (eDot (pg k) "join" 1 (eC (.str "")) (Ja (Jr (iRg Jaq (Ja (eVar 3) aNil)) 1 [0,2] (gNm 0) Jao (Jbj k)) aNil))) (Jly k)
noncomputable def Jlw (k:Nat):S1:=sSeq (sSet 3 (eBin Jo (eC (.int 1)) (eBin Ju (eVar 0) (eC (.int 8))))) (Jlx k)
noncomputable def Jgb (k:Nat):S1:=sSeq (sSet 2 (eC (.str "abcdefghijklmnopqrstuvwxyz"))) (Jlw k)
theorem Juq (k:Nat):Jdx (k+1)=fnI 6 (Jgb k):=by kernel_rfl
theorem Jua (k:Nat) (x0 x1:IV) (h:IH):Jdx (k+1) [x0,x1] h=(Jgb k [some x0,some x1,none,none,none,none] h).fin:=by rw[Juq];rfl
noncomputable def Jge (k:Nat):E1:=(eBin Ju (eVar 0) (eVar 1))
noncomputable def Jgf (k:Nat):E1:=(eVar 0)
noncomputable def Jgg (k:Nat):T1:=(tOfB asB (eBin cLt (eBin opIx (eVar 0) (eC (.int 1))) (eBin opIx (eVar 0) (eC (.int 2)))))
noncomputable def Jeo (k:Nat):S1:=(sRet (Jr (iAny (eBin opIx (eVar 6) (eBin Ju (eBin opIx (eVar 0) (eC (.int 6))) (eC (.int 6))))) 1 [] (gNm 0) (Jgg k) (Jgf k)))
noncomputable def Jen (k:Nat):S1:=sSeq (sSet 6 (eBin Jo (eVar 6) (eLst (Ja (eLst (Ja (eTup (Ja (eVar 4) (Ja (eBin opIx (eVar 3) (eC (.int 0))) (Ja (eBin opIx (eVar 3) (eC (.int 1))) aNil)))) (Ja (eTup (Ja (eVar 5) (Ja (eBin opIx (eVar 3) (eC (.int 2))) (Ja (eBin opIx (eVar 3) (eC (.int 3))) aNil)))) aNil))) (Ja (eLst (Ja (eTup (Ja (eVar 4) (Ja (eBin opIx (eVar 3) (eC (.int 2))) (Ja (eBin opIx (eVar 3) (eC (.int 3))) aNil)))) (Ja (eTup (Ja (eVar 4) (Ja (eBin opIx (eVar 3) (eC (.int 0))) (Ja (eBin opIx (eVar 3) (eC (.int 1))) aNil)))) aNil))) aNil))))) (Jeo k)
noncomputable def Jjn (k:Nat):S1:=sSeq (sSet 6 (eLst (Ja (eLst aNil) (Ja (eLst (Ja (eTup (Ja (eVar 4) (Ja (eBin opIx (eVar 3) (eC (.int 0))) (Ja (eBin opIx (eVar 3) (eC (.int 3))) aNil)))) aNil)) (Ja (eLst (Ja (eTup (Ja (eVar 4) (Ja (eBin opIx (eVar 3) (eC (.int 0))) (Ja (eBin opIx (eVar 3) (eC (.int 3))) aNil)))) (Ja (eTup (Ja (eVar 5) (Ja (eBin opIx (eVar 3) (eC (.int 1))) (Ja (eBin opIx (eVar 3) (eC (.int 2))) aNil)))) aNil))) (Ja (eLst (Ja (eTup (Ja (eVar 5) (Ja (eBin opIx (eVar 3) (eC (.int 1))) (Ja (eBin opIx (eVar 3) (eC (.int 2))) aNil)))) (Ja (eTup (Ja (eVar 4) (Ja (eBin opIx (eVar 3) (eC (.int 0))) (Ja (eBin opIx (eVar 3) (eC (.int 3))) aNil)))) aNil))) aNil)))))) (Jen k)
noncomputable def Jjm (k:Nat):S1:=sSeq (sSet 5 (eBin opIx (eVar 2) (eBin Ju (eBin Jo (eBin Jo (eBin opIx (eVar 0) (eC (.int 4))) (eC (.int 1))) (eBin Ju (eBin opIx (eVar 0) (eC (.int 5))) (eC (.int 2)))) (eC (.int 3))))) (Jjn k)
noncomputable def Jjl (k:Nat):S1:=sSeq (sSet 4 (eBin opIx (eVar 2) (eBin Ju (eBin opIx (eVar 0) (eC (.int 4))) (eC (.int 3))))) (Jjm k)
noncomputable def Jem (k:Nat):S1:=sSeq (sSet 3 (eCB (on1 Jlf) (Ja (Jr (iAny (eSl slI (eVar 0) Jox (Jk9 (eC (.int 4))))) 1 [1] (gNm 0) Jao (Jge k)) aNil))) (Jjl k)
theorem Jsv (k:Nat):Jeb (k+1)=fnI 7 (Jem k):=by kernel_rfl
theorem Jr7 (k:Nat) (x0 x1 x2:IV) (h:IH):Jeb (k+1) [x0,x1,x2] h=(Jem k [some x0,some x1,some x2,none,none,none,none] h).fin:=by rw[Jsv];rfl
noncomputable def Jet (k:Nat):S1:=(sRet (eTup (Ja (eVar 4) (Ja (eVar 7) (Ja (eVar 5) (Ja (eVar 6) (Ja (eVar 8) aNil)))))))
noncomputable def Jju (k:Nat):S1:=sSeq (sIf (tOfB asB (eBin cNe (eVar 2) (eLst aNil))) (sSet 8 (Jn (Jeb k) [] (Ja (eSl slI (eVar 3) (Jk9 (eC (.int 8))) Jox) (Ja (eVar 7) (Ja (eVar 2) aNil))))) sNil) (Jet k)
noncomputable def Jjt (k:Nat):S1:=sSeq (sSet 8 (eLst aNil)) (Jju k)
noncomputable def Jjs (k:Nat):S1:=sSeq (sSet 7 (eBin Jo (eC (.int 1)) (eBin Ju (eBin opIx (eVar 3) (eC (.int 6))) (eCB (on2 maxI) (Ja (eC (.int 1)) (Ja (eBin Jaf (eVar 4) (eBin opIx (eLst (Ja (eC (.int 1)) (Ja (eC (.int 2)) (Ja (eC (.int 4)) (Ja (eC (.int 9)) aNil))))) (eBin Ju (eBin opIx (eVar 3) (eC (.int 7))) (eC (.int 4))))) aNil)))))) (Jjt k)
noncomputable def Jjr (k:Nat):S1:=sSeq (sSet 6 (eBin opIx (eLst (Ja (eC (.int 0)) (Ja (eC (.int 0)) (Ja (eBin Ju (eBin opIx (eVar 3) (eC (.int 4))) (eBin Jo (eC (.int 1)) (eBin Jaf (eVar 4) (eC (.int 3))))) (Ja (eBin Ju (eBin opIx (eVar 3) (eC (.int 4))) (eBin Jo (eC (.int 1)) (eBin Jaf (eBin Jd6 (eC (.int 3)) (eVar 4)) (eC (.int 2))))) aNil))))) (eBin Ju (eBin opIx (eVar 3) (eC (.int 5))) (eC (.int 4))))) (Jjs k)
noncomputable def Jjq (k:Nat):S1:=sSeq (sSet 5 (eBin Jsn (eVar 4) (eBin opIx (eLst (Ja (eC (.int 0)) (Ja (eBin Ju (eBin opIx (eVar 3) (eC (.int 2))) (eVar 4)) aNil))) (eBin Ju (eBin opIx (eVar 3) (eC (.int 3))) (eC (.int 2)))))) (Jjr k)
noncomputable def Jjp (k:Nat):S1:=sSeq (sSet 4 (eBin Jo (eBin Jd6 (eVar 1) (eBin Jo (eC (.int 1)) (eBin Ju (eBin opIx (eVar 3) (eC (.int 0))) (eC (.int 7))))) (eBin Ju (eBin opIx (eVar 3) (eC (.int 1))) (eBin Jo (eC (.int 1)) (eBin Jaf (eVar 1) (eC (.int 2))))))) (Jjq k)
noncomputable def Jes (k:Nat):S1:=sSeq (sSet 3 (Jn (Jax k) [] (Ja (eVar 0) (Ja (eC (.int 15)) aNil)))) (Jjp k)
theorem Jsx (k:Nat):Jed (k+1)=fnI 9 (Jes k):=by kernel_rfl
theorem Jr9 (k:Nat) (x0 x1 x2:IV) (h:IH):Jed (k+1) [x0,x1,x2] h=(Jes k [some x0,some x1,some x2,none,none,none,none,none,none] h).fin:=by rw[Jsx];rfl
noncomputable def Jhq (k:Nat):E1:=(Jn (Jdx k) [] (Ja (eBin Jaf (eVar 1) (eC (.int 5))) (Ja (eVar 0) aNil)))
noncomputable def Jkn (k:Nat):S1:=(sSeq (sSet 8 (Jn (Jed k) [] (Ja (eBin Jo (Jn (Jx k) [] (Ja (eVar 0) (Ja (eBin Jo (eC (.int 2)) (eVar 7)) aNil))) (eBin Jd6 (eC (.int 7)) (eVar 7))) (Ja (eVar 3) (Ja (eVar 5) aNil))))) (Jgv (eDot (pg k) "append" 1 (eVar 6) (Ja (eBin Jo (eTup (Ja (Jn (Jdx k) [] (Ja (eBin Jaf (eVar 4) (eC (.int 7))) (Ja (eVar 7) aNil))) aNil)) (eVar 8)) aNil))))
noncomputable def Jlv (k:Nat):S1:=(sRet (eVar 6))
noncomputable def Jlu (k:Nat):S1:=sSeq (sFor (iRg Jaq (Ja (eBin Ju (eVar 4) (eC (.int 6))) aNil)) (gNm 7) (Jkn k)) (Jlv k)
noncomputable def Jf8 (k:Nat):S1:=sSeq (sSet 6 (eLst aNil)) (Jlu k)
noncomputable def Jf7 (k:Nat):S1:=sSeq (sIf (tOfB tru (eVar 1)) (sSet 5 (Jr (iRg Jaq (Ja (eC (.int 3)) aNil)) 1 [4] (gNm 0) Jao (Jhq k))) sNil) (Jf8 k)
noncomputable def Jlt (k:Nat):S1:=sSeq (sSet 5 (eLst aNil)) (Jf7 k)
noncomputable def Jls (k:Nat):S1:=sSeq (sSet 4 (Jn (Jx k) [] (Ja (eVar 0) (Ja (eC (.int 1)) aNil)))) (Jlt k)
noncomputable def Jlr (k:Nat):S1:=sSeq (sSet 3 (eBin Jo (eC (.int 1)) (eBin Ju (eBin Jaf (eVar 2) (eC (.int 4))) (eBin opIx (eLst (Ja (eC (.int 4)) (Ja (eBin Jkq (eC (.int 10)) (eC (.int 15))) (Ja (eBin Jkq (eC (.int 10)) (eC (.int 15))) (Ja (eBin Jkq (eC (.int 10)) (eC (.int 40))) aNil))))) (eBin Ju (eVar 2) (eC (.int 4))))))) (Jls k)
noncomputable def Jf6 (k:Nat):S1:=sSeq (sSet 2 (Jn (Jx k) [] (Ja (eVar 0) (Ja (eC (.int 0)) aNil)))) (Jlr k)
theorem Jup (k:Nat):Jg4 (k+1)=fnI 9 (Jf6 k):=by kernel_rfl
theorem Jt9 (k:Nat) (x0 x1:IV) (h:IH):Jg4 (k+1) [x0,x1] h=(Jf6 k [some x0,some x1,none,none,none,none,none,none,none] h).fin:=by rw[Jup];rfl
noncomputable def Jj7 (k:Nat):E1:=(eBin opIx (eVar 0) (eC (.int 1)))
noncomputable def Jl3 (k:Nat):S1:=(sSeq (sSet 6 (Jn (Jax k) [] (Ja (eVar 5) (Ja (eC (.int 6)) aNil)))) (sSeq (sSet 7 (eBin Ju (eBin opIx (eVar 6) (eC (.int 0))) (eCB (on1 lenI) (Ja (eVar 1) aNil)))) (sSeq (sAsg (eBin opIx (eVar 1) (eVar 7)) (gTp 6 (gC (gNm 8) (gC (gNm 9) (gC (gNm 10) (gC (gNm 11) (gC (gNm 12) (gC (gNm 13) gN)))))))) (sSeq (sSet 14 (eBin opIx (eLst (Ja (eVar 12) (Ja (eC (.int 0)) (Ja (eBin Ju (eBin opIx (eVar 6) (eC (.int 1))) (eBin Jo (eVar 12) (eC (.int 1)))) aNil)))) (eBin Ju (eBin opIx (eVar 6) (eC (.int 2))) (eC (.int 3))))) (sSeq (sSet 15 (eBin Jo (eBin Jsn (eVar 4) (eVar 14)) (eBin opIx (eLst (Ja (eC (.int 0)) (Ja (eBin Ju (eBin opIx (eVar 6) (eC (.int 3))) (eVar 9)) (Ja (eBin Jsn (eC (.int 0)) (eBin Ju (eBin opIx (eVar 6) (eC (.int 3))) (eVar 9))) aNil)))) (eBin Ju (eBin opIx (eVar 6) (eC (.int 4))) (eC (.int 3)))))) (sSeq (sIf (tOfB asB (eBin cInD (eVar 7) (eVar 3))) (sSet 15 (eBin Jo (eBin Jo (eBin Joy (eVar 3) (eVar 7)) (eVar 9)) (eBin opIx (eLst (Ja (eC (.int 0)) (Ja (eBin Ju (eBin opIx (eVar 6) (eC (.int 3))) (eBin Jo (eC (.int 1)) (eVar 9))) aNil))) (eBin Ju (eBin opIx (eVar 6) (eC (.int 4))) (eC (.int 2)))))) sNil) (sSeq (sAsg (eVar 15) (gSbD (eVar 3) (eVar 7))) (Jgv (eDot (pg k) "append" 1 (eVar 2) (Ja (eTup (Ja (eVar 7) (Ja (eVar 15) (Ja (eVar 14) (Ja (eBin opIx (eLst (Ja (eVar 10) (Ja (eVar 10) (Ja (eBin Jo (eC (.int 1)) (eBin Ju (eBin opIx (eVar 6) (eC (.int 5))) (eVar 10))) aNil)))) (eBin Ju (eBin Jaf (eBin opIx (eVar 6) (eC (.int 4))) (eC (.int 6))) (eC (.int 3)))) aNil))))) aNil))))))))))
noncomputable def Jna (k:Nat):S1:=(sRet (eVar 2))
noncomputable def Jm9 (k:Nat):S1:=sSeq (sFor (iAny (eVar 0)) (gNm 5) (Jl3 k)) (Jna k)
noncomputable def Jm8 (k:Nat):S1:=sSeq (sSet 4 (eBin Jd6 (eC (.int 3)) (eCB (on1 Jwo) (Ja (Jr (iAny (eVar 1)) 1 [] (gNm 0) Jao (Jj7 k)) aNil)))) (Jm9 k)
noncomputable def Jm7 (k:Nat):S1:=sSeq (sIf (tOfB asB (eBin cEq (eVar 1) (eLst aNil))) (sRet (eVar 2)) sNil) (Jm8 k)
noncomputable def Jm6 (k:Nat):S1:=sSeq (sSet 3 Jv1) (Jm7 k)
noncomputable def Jis (k:Nat):S1:=sSeq (sSet 2 (eLst aNil)) (Jm6 k)
theorem Jwy (k:Nat):Ji4 (k+1)=fnI 16 (Jis k):=by kernel_rfl
theorem Jv8 (k:Nat) (x0 x1:IV) (h:IH):Ji4 (k+1) [x0,x1] h=(Jis k [some x0,some x1,none,none,none,none,none,none,none,none,none,none,none,none,none,none] h).fin:=by rw[Jwy];rfl
noncomputable def Jad (k:Nat):E1:=(Jnj "Work" (Jcf k) [] (Ja (eBin opIx (eVar 0) (eC (.int 0))) (Ja (eBin opIx (eVar 0) (eC (.int 1))) (Ja (eBin opIx (eVar 0) (eC (.int 2))) (Ja (eBin opIx (eVar 0) (eC (.int 3))) (Ja (eBin opIx (eVar 0) (eC (.int 4))) (Ja (eCB (on1 Jnu) (Ja (eBin opIx (eVar 0) (eC (.int 5))) aNil)) aNil)))))))
noncomputable def Jjo (k:Nat):S1:=(sRet (Jnj "ByRank" (Jby k) [] (Ja (eVar 2) aNil)))
noncomputable def Jer (k:Nat):S1:=sSeq (sIf (tOfB asB (eBin cEq (eVar 0) (eC (.int 2)))) (sRet (Jnj "ByComing" (Jaz k) [] (Ja (eVar 2) aNil))) sNil) (Jjo k)
noncomputable def Jb3 (k:Nat):S1:=sSeq (sIf (tOfB asB (eBin cEq (eVar 0) (eC (.int 1)))) (sRet (Jnj "ByDue" (Jc1 k) [] (Ja (eVar 2) aNil))) sNil) (Jer k)
noncomputable def Jeq (k:Nat):S1:=sSeq (sSet 2 (Jnj "Duty" (Jce k) [] (Ja (Jr (iAny (eVar 1)) 1 [] (gNm 0) Jao (Jad k)) aNil))) (Jb3 k)
theorem Jsw (k:Nat):Jec (k+1)=fnI 3 (Jeq k):=by kernel_rfl
theorem Jr8 (k:Nat) (x0 x1:IV) (h:IH):Jec (k+1) [x0,x1] h=(Jeq k [some x0,some x1,none] h).fin:=by rw[Jsw];rfl
noncomputable def Jkl (k:Nat):S1:=(Jgv (eDot (pg k) "setdefault" 2 (eVar 1) (Ja (eVar 4) (Ja (eVar 2) aNil))))
noncomputable def Jkm (k:Nat):S1:=(sFor (iAny (eBin opIx (eVar 3) (eC (.int 5)))) (gTp 3 (gC (gNm 4) (gC (gNm 5) (gC (gNm 6) gN)))) (Jkl k))
noncomputable def Jlq (k:Nat):S1:=(sRet (eVar 1))
noncomputable def Jlp (k:Nat):S1:=sSeq (sFor (iRg Jgq (Ja (eVar 0) aNil)) (gTp 2 (gC (gNm 2) (gC (gNm 3) gN))) (Jkm k)) (Jlq k)
noncomputable def Jf5 (k:Nat):S1:=sSeq (sSet 1 Jv1) (Jlp k)
theorem Juo (k:Nat):Jg3 (k+1)=fnI 7 (Jf5 k):=by kernel_rfl
theorem Jt8 (k:Nat) (x0:IV) (h:IH):Jg3 (k+1) [x0] h=(Jf5 k [some x0,none,none,none,none,none,none] h).fin:=by rw[Juo];rfl
noncomputable def Jj5 (k:Nat):E1:=(eBin Joy (eVar 4) (eVar 0))
noncomputable def Jj6 (k:Nat):T1:=(Jzn (tOfB asB (eBin cLt (eVar 1) (eVar 3))) (tOfB asB (eBin cLt (eVar 3) (eVar 2))))
noncomputable def Jm5 (k:Nat):S1:=(sRet (eTup (Ja (eCB (on1 Juh) (Ja (eBin Jo (eLst (Ja (eVar 6) aNil)) (eVar 10)) aNil)) (Ja (eCB (on1 J0t) (Ja (eBin cEq (eVar 10) (eLst aNil)) aNil)) (Ja (eVar 5) aNil)))))
noncomputable def Jm4 (k:Nat):S1:=sSeq (sSet 10 (Jr (iAny (eBin opIx (eBin opIx (eVar 1) (eVar 6)) (eC (.int 5)))) 3 [4,2] (gTp 3 (gC (gNm 0) (gC (gNm 1) (gC (gNm 2) gN)))) (Jj6 k) (Jj5 k))) (Jm5 k)
noncomputable def Jir (k:Nat):S1:=sSeq (sIf (tOfB asB (eBin cEq (eVar 0) (eC (.int 2)))) (sRet (eTup (Ja (eVar 7) (Ja (eC (.int 1)) (Ja (eVar 5) aNil))))) sNil) (Jm4 k)
noncomputable def Jep (k:Nat):S1:=sSeq (sIf (tOfB asB (eBin cEq (eVar 0) (eC (.int 1)))) (sRet (eTup (Ja (eBin Jo (eVar 7) (eBin opIx (eBin opIx (eVar 1) (eVar 6)) (eC (.int 3)))) (Ja (eC (.int 1)) (Ja (eVar 5) aNil))))) sNil) (Jir k)
noncomputable def Jco (k:Nat):S1:=sSeq (sAsg (eVar 3) (gTp 4 (gC (gNm 6) (gC (gNm 7) (gC (gNm 8) (gC (gNm 9) gN)))))) (Jep k)
theorem Jwx (k:Nat):Ji3 (k+1)=fnI 11 (Jco k):=by kernel_rfl
theorem Jv7 (k:Nat) (x0 x1 x2 x3 x4 x5:IV) (h:IH):Ji3 (k+1) [x0,x1,x2,x3,x4,x5] h=(Jco k [some x0,some x1,some x2,some x3,some x4,some x5,none,none,none,none,none] h).fin:=by rw[Jwx];rfl
noncomputable def Jfl (k:Nat):S1:=(sSet 3 (eBin Jo (eVar 3) (eLst (Ja (eBin Jo (eVar 5) (eC (.int 1))) (Ja (eVar 6) (Ja (eBin Jo (eVar 5) (eC (.int 1))) aNil))))))
noncomputable def Jf4 (k:Nat):S1:=(sRet (eC (.int 0)))
noncomputable def Jf3 (k:Nat):S1:=sSeq (sIf (tOfB asB (eBin cLt (eVar 7) (eBin opIx (eVar 0) (eC (.int 3))))) (sRet (eVar 7)) sNil) (Jf4 k)
noncomputable def Jf2 (k:Nat):S1:=sSeq (sSet 7 (eBin opIx (eVar 3) (eBin Ju (eVar 2) (eCB (on1 lenI) (Ja (eVar 3) aNil))))) (Jf3 k)
noncomputable def Jf1 (k:Nat):S1:=sSeq (sFor (iAny (eVar 1)) (gTp 3 (gC (gNm 4) (gC (gNm 5) (gC (gNm 6) gN)))) (Jfl k)) (Jf2 k)
noncomputable def Jcn (k:Nat):S1:=sSeq (sSet 3 (eLst (Ja (eC (.int 0)) (Ja (eBin Ju (eBin Jaf (eVar 2) (eC (.int 5))) (eBin opIx (eVar 0) (eC (.int 3)))) aNil)))) (Jf1 k)
theorem Jo3 (k:Nat):Jb0 (k+1)=fnI 8 (Jcn k):=by kernel_rfl
theorem Jos (k:Nat) (x0 x1 x2:IV) (h:IH):Jb0 (k+1) [x0,x1,x2] h=(Jcn k [some x0,some x1,some x2,none,none,none,none,none] h).fin:=by rw[Jo3];rfl
noncomputable def Jah (k:Nat):E1:=(eTup (Ja (eBin Jaf (eBin opIx (eVar 1) (eVar 0)) (eC (.int 7))) (Ja (eVar 0) aNil)))
noncomputable def Jai (k:Nat):T1:=(tOfB asB (eBin cGt (eBin Ju (eBin opIx (eVar 1) (eVar 0)) (eC (.int 7))) (eC (.int 1))))
noncomputable def Jd1 (k:Nat):E1:=(eVar 1)
noncomputable def Jga (k:Nat):S1:=(sRet (Jr (iAny (eVar 1)) 2 [] (gTp 2 (gC (gNm 0) (gC (gNm 1) gN))) Jao (Jd1 k)))
noncomputable def Jf9 (k:Nat):S1:=sSeq (sIf (tOfB asB (eBin cEq (eVar 1) (eLst aNil))) (sRet (eLst (Ja (eBin Jaf (eCB (on1 lenI) (Ja (eVar 0) aNil)) (eC (.int 2))) aNil))) sNil) (Jga k)
noncomputable def Jcp (k:Nat):S1:=sSeq (sSet 1 (eCB (on1 Jti) (Ja (Jr (iRg Jaq (Ja (eCB (on1 lenI) (Ja (eVar 0) aNil)) aNil)) 1 [0] (gNm 0) (Jai k) (Jah k)) aNil))) (Jf9 k)
theorem Jo4 (k:Nat):Jb1 (k+1)=fnI 2 (Jcp k):=by kernel_rfl
theorem Jot (k:Nat) (x0:IV) (h:IH):Jb1 (k+1) [x0] h=(Jcp k [some x0,none] h).fin:=by rw[Jo4];rfl
noncomputable def Jgd (k:Nat):E1:=(Jn (Jb0 k) [] (Ja (eBin opIx (eVar 1) (eVar 0)) (Ja (eBin opIx (eBin opIx (eVar 2) (eBin opIx (eBin opIx (eVar 1) (eVar 0)) (eC (.int 0)))) (eC (.int 5))) (Ja (eBin opIx (eVar 3) (eVar 0)) aNil))))
noncomputable def Jj4 (k:Nat):E1:=(Jn (Ji3 k) [] (Ja (eVar 2) (Ja (eVar 5) (Ja (eVar 3) (Ja (eBin opIx (eVar 4) (eVar 0)) (Ja (eBin opIx (eVar 1) (eVar 0)) (Ja (eVar 0) aNil)))))))
noncomputable def Jqs (k:Nat):S1:=(sSeq (sSet 7 (Jn (Jax k) [] (Ja (eBin Jo (eBin Jaf (Jn (Jx k) [] (Ja (eVar 0) (Ja (eC (.int 7)) aNil))) (eC (.int 3))) (eBin Jd6 (eC (.int 1009)) (eVar 6))) (Ja (eBin Jd6 (eC (.int 2)) (eCB (on1 lenI) (Ja (eVar 3) aNil))) aNil)))) (sSeq (sSet 8 (Jr (iRg Jaq (Ja (eCB (on1 lenI) (Ja (eVar 3) aNil)) aNil)) 1 [3,2,7] (gNm 0) Jao (Jgd k))) (sSeq (sSet 9 (Jn (Jb1 k) [] (Ja (eSl slI (eVar 7) (Jk9 (eCB (on1 lenI) (Ja (eVar 3) aNil))) Jox) aNil))) (sSeq (sSet 10 (eLst (Ja (eCB (on1 Jnu) (Ja (eVar 3) aNil)) (Ja (eCB (on1 Jnu) (Ja (eVar 9) aNil)) (Ja (eCB (on1 Jnu) (Ja (eVar 8) aNil)) aNil))))) (sSeq (sSet 11 (eDot (pg k) "pick" 3 (eVar 4) (Ja (eBin opIx (eVar 10) (eC (.int 0))) (Ja (eBin opIx (eVar 10) (eC (.int 1))) (Ja (eBin opIx (eVar 10) (eC (.int 2))) aNil))))) (sSeq (sSet 12 (Jr (iAny (eVar 9)) 1 [8,1,5,3,2] (gNm 0) Jao (Jj4 k))) (sSeq (sIf (tOrI (Jcz (tOfB tru (eIsi Jhi (eVar 11)))) (tOrI (tOfB tru (eIsi Jc8 (eVar 11))) (tOfB asB (eBin cNe (eVar 11) (eBin opIx (eCB (on1 Jui) (Ja (eVar 12) aNil)) (eC (.int 2))))))) (sRet (eC (.bl false))) sNil) (sIf (tOfB asB (eBin cNe (eVar 10) (eLst (Ja (eVar 3) (Ja (eVar 9) (Ja (eVar 8) aNil)))))) (sRet (eC (.bl false))) sNil))))))))
noncomputable def Jxv (k:Nat):S1:=(sRet (eC (.bl true)))
noncomputable def Jty (k:Nat):S1:=sSeq (sFor (iRg Jaq (Ja (eC (.int 4)) aNil)) (gNm 6) (Jqs k)) (Jxv k)
noncomputable def Jqd (k:Nat):S1:=sSeq (sIf (tOrI (tOfB asB (eBin cNe (eIsi (Jbb ["ByDue"]) (eVar 4)) (eBin cEq (eVar 1) (eC (.int 1))))) (tOfB asB (eBin cNe (eIsi (Jbb ["ByComing"]) (eVar 4)) (eBin cEq (eVar 1) (eC (.int 2)))))) (sRet (eC (.bl false))) sNil) (Jty k)
noncomputable def Jm3 (k:Nat):S1:=sSeq (sIf (tOrI (Jcz (tOfB tru (eIsi (Jbb ["Order","ByRank","ByDue","ByComing"]) (eVar 4)))) (tOfB asB (eBin cNe (eIsi (Jbb ["ByRank"]) (eVar 4)) (eBin cEq (eVar 1) (eC (.int 0)))))) (sRet (eC (.bl false))) sNil) (Jqd k)
noncomputable def Jxu (k:Nat):S1:=sSeq (sSet 5 (Jn (Jg3 k) [] (Ja (eVar 2) aNil))) (Jm3 k)
noncomputable def Jxt (k:Nat):S1:=sSeq (sSet 4 (Jn (Jec k) [] (Ja (eVar 1) (Ja (eVar 2) aNil)))) (Jxu k)
noncomputable def Jxs (k:Nat):S1:=sSeq (sIf (tOfB asB (eBin cEq (eVar 3) (eLst aNil))) (sRet (eC (.bl true))) sNil) (Jxt k)
noncomputable def Jxr (k:Nat):S1:=sSeq (sSet 3 (Jn (Ji4 k) [] (Ja (eSl slI (eVar 0) (Jk9 (eC (.int 8))) (Jk9 (eC (.int 22)))) (Ja (eVar 2) aNil)))) (Jxs k)
noncomputable def Jxq (k:Nat):S1:=sSeq (sSet 2 (Jn (Jg4 k) [] (Ja (eVar 0) (Ja (eBin cEq (eVar 1) (eC (.int 0))) aNil)))) (Jxr k)
noncomputable def Jtx (k:Nat):S1:=sSeq (sSet 1 (eBin Ju (Jn (Jx k) [] (Ja (eVar 0) (Ja (eC (.int 7)) aNil))) (eC (.int 3)))) (Jxq k)
theorem J7g (k:Nat):Jtr (k+1)=fnI 13 (Jtx k):=by kernel_rfl
theorem J53 (k:Nat) (x0:IV) (h:IH):Jtr (k+1) [x0] h=(Jtx k [some x0,none,none,none,none,none,none,none,none,none,none,none,none] h).fin:=by rw[J7g];rfl
theorem Jgn (k:Nat):Jfb (pg k) "held" 0 "Work"=some (Jea k,[]):=by kernel_rfl
theorem Jk5 (k:Nat):Jfb (pg k) "rank_of" 2 "ByRank"=some (Jar k,[]):=by kernel_rfl
theorem Jng (k:Nat):Jfb (pg k) "holds" 2 "ByRank"=some (Jbi k,[]):=by kernel_rfl
theorem Jom (k:Nat):Jfb (pg k) "pick" 3 "ByRank"=some (Jac k,[]):=by kernel_rfl
theorem Jkh (k:Nat):Jfb (pg k) "standing" 2 "ByRank"=some (Jw k,[]):=by kernel_rfl
theorem Jma (k:Nat):Jfb (pg k) "rank_of" 2 "ByDue"=some (Ja0 k,[]):=by kernel_rfl
theorem Jol (k:Nat):Jfb (pg k) "holds" 2 "ByDue"=some (Ja1 k,[]):=by kernel_rfl
theorem Jqh (k:Nat):Jfb (pg k) "pick" 3 "ByDue"=some (Jac k,[]):=by kernel_rfl
theorem Jk4 (k:Nat):Jfb (pg k) "standing" 2 "ByDue"=some (Jw k,[]):=by kernel_rfl
theorem Jiw (k:Nat):Jfb (pg k) "rank_of" 2 "ByComing"=some (J8 k,[]):=by kernel_rfl
theorem Jk3 (k:Nat):Jfb (pg k) "holds" 2 "ByComing"=some (Ja1 k,[]):=by kernel_rfl
theorem Jl9 (k:Nat):Jfb (pg k) "pick" 3 "ByComing"=some (Jac k,[]):=by kernel_rfl
theorem Jhg (k:Nat):Jfb (pg k) "standing" 2 "ByComing"=some (Jw k,[]):=by kernel_rfl
theorem Jl1 (k:Nat):Jfb (pg k) "size" 0 "Duty"=some (Jd8 k,[]):=by kernel_rfl
theorem Jbs (k:Nat):Jfb (pg k) "work" 1 "Duty"=some (Jd9 k,[]):=by kernel_rfl
end LW
section
open PySem L2 L3 L4
local macro_rules | `(tactic| simp! [$xs,*]) => `(tactic| simp (implicitDefEqProofs := false) only [Jil, Jcw, Jdu, Jim, Jpp, Jdw, Jdv, Jdt, Jih, Jij, Jcv, Jik, Jii, Jd7, Je, Jfp, Jzw, Jnk, Jon, Jhw, Jpo, Jhu, Jpm, Jph, Jdp, Jif, Jdq, Jdr, Ja9, Jdi, Jbm, Jig, Jh5, Jdj, Jdm, Jpd, Jib, Jh1, Jbo, Jbp, Jpn, Jhz, Jht, Jie, Jh8, Jh7, Jdk, Jh6, Jic, Jdh, Jpj, Jpi, Jpg, Jpf, Jpe, Jpk, Jhx, Jh9, Jhv, Jds, Jia, Jhy, Jpl, Jcu, Jh0, Jdn, Jdo, Jh2, Jh4, Jh3, Jid, Jbn, List.set_cons_succ, List.set_cons_zero, List.append_nil, List.cons_append, List.nil_append, exists_eq_left, exists_eq_left', IV.bl.injEq, IV.int.injEq, IV.ref.injEq, IV.str.injEq, IO.lst.injEq, IV.tup.injEq, Option.some.injEq, Bool.not_true, Bool.not_false, reduceCtorEq, eq_self, true_implies, false_implies, implies_true, and_true, true_and, and_false, false_and, Option.bind_some, Bool.true_eq_false, Bool.false_eq_true, Jp4, Jlh, Jp5, Jxc, Jp2, Jp3, Jhi, Jc8, Ji6, Jch, Jb2, Ji7, Jog, Jp7, Jin, Jio, Jk0, Joj, Jtu, Jlm, Jlk, Jll, $xs,*])
local macro_rules | `(tactic| simp_all! [$xs,*]) => `(tactic| try simp (implicitDefEqProofs := false) only [Jil, Jcw, Jdu, Jim, Jpp, Jdw, Jdv, Jdt, Jih, Jij, Jcv, Jik, Jii, Jd7, Je, Jfp, Jzw, Jnk, Jon, Jhw, Jpo, Jhu, Jpm, Jph, Jdp, Jif, Jdq, Jdr, Ja9, Jdi, Jbm, Jig, Jh5, Jdj, Jdm, Jpd, Jib, Jh1, Jbo, Jbp, Jpn, Jhz, Jht, Jie, Jh8, Jh7, Jdk, Jh6, Jic, Jdh, Jpj, Jpi, Jpg, Jpf, Jpe, Jpk, Jhx, Jh9, Jhv, Jds, Jia, Jhy, Jpl, Jcu, Jh0, Jdn, Jdo, Jh2, Jh4, Jh3, Jid, Jbn, List.set_cons_succ, List.set_cons_zero, List.append_nil, List.cons_append, List.nil_append, exists_eq_left, exists_eq_left', IV.bl.injEq, IV.int.injEq, IV.ref.injEq, IV.str.injEq, IO.lst.injEq, IV.tup.injEq, Option.some.injEq, Bool.not_true, Bool.not_false, reduceCtorEq, eq_self, true_implies, false_implies, implies_true, and_true, true_and, and_false, false_and, Option.bind_some, Bool.true_eq_false, Bool.false_eq_true, Jp4, Jlh, Jp5, Jxc, Jp2, Jp3, Jhi, Jc8, Ji6, Jch, Jb2, Ji7, Jog, Jp7, Jin, Jio, Jk0, Joj, Jtu, Jlm, Jlk, Jll, $xs,*])
local macro_rules | `(tactic| dsimp! [$xs,*]) => `(tactic| simp (implicitDefEqProofs := false) only [Jil, Jcw, Jdu, Jim, Jpp, Jdw, Jdv, Jdt, Jih, Jij, Jcv, Jik, Jii, Jd7, Je, Jfp, Jzw, Jnk, Jon, Jhw, Jpo, Jhu, Jpm, Jph, Jdp, Jif, Jdq, Jdr, Ja9, Jdi, Jbm, Jig, Jh5, Jdj, Jdm, Jpd, Jib, Jh1, Jbo, Jbp, Jpn, Jhz, Jht, Jie, Jh8, Jh7, Jdk, Jh6, Jic, Jdh, Jpj, Jpi, Jpg, Jpf, Jpe, Jpk, Jhx, Jh9, Jhv, Jds, Jia, Jhy, Jpl, Jcu, Jh0, Jdn, Jdo, Jh2, Jh4, Jh3, Jid, Jbn, List.set_cons_succ, List.set_cons_zero, List.append_nil, List.cons_append, List.nil_append, $xs,*])
namespace LW
open PySem L2 L3 L4
section
variable {k:Nat}{h:IH}
theorem Jc:1000000<sizeLine:=by decide
theorem Jn8 (o o':IO):List.set (h++[o]) h.length o'=h++[o']:=by
 rw[List.set_append_right _ _ (Nat.le_refl _),Nat.sub_self];rfl
theorem Ji1 (o o':IO) (g:IH):List.set (h++o::g) h.length o'=h++o'::g:=by
 rw[List.set_append_right _ _ (Nat.le_refl _),Nat.sub_self];rfl
theorem Jnd (ns:List Int) (n:Int) (hn:0<=n):Jx (k+1) [.rol (ns.map .int),.int n] h=.ok (.int (ns.getD n.toNat 0)) h:=by
 refine Jcy ?_
 rw[Jor]
 simp! [Jcm,Jf0,List.length_map,decide_eq_true_eq,decide_eq_false_iff_not]
 refine⟨λ hl=>⟨.int (ns.getD n.toNat 0),Jxp hn ?_,rfl⟩,λ hl=>?_⟩
 ·rw[List.getElem?_map,List.getD_eq_getElem?_getD,List.getElem?_eq_getElem (show n.toNat<ns.length by omega)]
  rfl
 ·rw[List.getD_eq_getElem?_getD,List.getElem?_eq_none (by omega)]
  rfl
theorem Jsg (i:Int):Jg2 (k+1) [.int i] h=.ok (.bl true) h:=by rw[Jt7];rfl
theorem Jli (i j:Int):Jl (k+2) [.int i,.int j] h=.ok (.bl (decide (j<=i))) h:=by
 refine Jcy ?_
 rw[Jmd]
 simp! [Jbg,Jsg]
noncomputable def IsNm (x:Str):Prop:=1<=x.length/\x.length<=8/\∀c∈x.cps.toList,97<=c/\c<=122
theorem a_cps:(Str.ofString "a").cps.toList=[97]:=by decide +kernel
theorem z_cps:(Str.ofString "z").cps.toList=[122]:=by decide +kernel
theorem J4y {c:Nat}(hc:97<=c/\c<=122):Jey k [some (.str ⟨#[c]⟩)] h=.ok (.bl true) h:=by
 refine Jcy ?_
 have h1:¬([c]<[97]):=λ q=>by
  cases q with
  | rel q=>omega
  | cons q=>cases q
 have h2:¬([122]<[c]):=λ q=>by
  cases q with
  | rel q=>omega
  | cons q=>cases q
 simp only[Jey,Ja9,Jzw,Jnk,Jfp,J77,a_cps,z_cps,h1,h2,decide_false,exists_eq_left,exists_eq_left',IV.bl.injEq,IV.int.injEq,IV.ref.injEq,IV.str.injEq,IO.lst.injEq,IV.tup.injEq,Option.some.injEq,Bool.not_true,Bool.not_false,reduceCtorEq,eq_self,true_implies,false_implies,implies_true,and_true,true_and,and_false,false_and,Option.bind_some,Bool.true_eq_false,Bool.false_eq_true,Jp4,Jlh,Jp5,Jxc,Jp2,Jp3,Jhi,Jc8,Ji6,Jch,Jb2,Ji7,Jog,Jp7,Jin,Jio,Jk0,Joj,Jtu,Jlm,Jlk,Jll]
theorem Jpx {x:Str}(hx:IsNm x):WR (Jfr (k+1) [.str x] h) λ v h'=>v=.bl true/\Ex h h':=by
 obtain⟨h1,h2,h3⟩:=hx
 have hb:=Jc
 have hz:x.length<=sizeLine:=by omega
 have a1:(1:Int)<=x.length:=by omega
 have a2:(x.length:Int)<=8:=by omega
 rw[Jv6]
 simp! [Jiq,Jm2,hz,a1,a2,decide_true]
 refine WR.mono (Jab (xs:=Jpc x) (chk:=λ _=>True) (f:=λ _=>.bl true) (h:=h) ?_ ?_ (λ _ _=>trivial) ?_) ?_
 ·exact⟨rfl,rfl,rfl⟩
 ·have:(Jpc x).length=x.length:=by simp[Jpc,Str.length]
  omega
 ·intro v hv h2 _
  obtain⟨c,hc,rfl⟩:=List.mem_map.mp hv
  exact WR.of_eq (J4y (h3 c hc)) ⟨rfl,.refl _⟩
 ·rintro v h' ⟨rfl,g,rfl⟩
  refine WR.of_eq (all_map (f:=λ _=>true) Jp) ⟨?_,.cons ..⟩
  simp
noncomputable abbrev Hd:=Str×Int×Int
noncomputable def tupH (a:Hd):IV:=.tup [.str a.1,.int a.2.1,.int a.2.2]
noncomputable def HdOk (len:Int) (a:Hd):Prop:=IsNm a.1/\0<=a.2.1/\a.2.1<a.2.2/\a.2.2<len
noncomputable def Tog (a b:Hd):Prop:=a.2.2<=b.2.1∨b.2.2<=a.2.1∨(a.1≠b.1/\((b.2.1<=a.2.1/\a.2.2<=b.2.2)∨(a.2.1<=b.2.1/\b.2.2<=a.2.2)))
theorem Jwe {a:Hd}{len:Int}(ha:HdOk len a):WR (Ji2 (k+3) [tupH a,.int len] h) λ v h'=>v=.bl true/\Ex h h':=by
 obtain⟨h1,h2,h3,h4⟩:=ha
 rw[Jv5]
 have h5:a.2.1+1<=a.2.2:=by omega
 simp! [Jip,Jm0,Jm1,tupH,List.length_cons,List.length_nil,Jli]
 refine⟨λ q=>absurd q (by decide),λ _=>WR.mono (Jpx h1) ?_⟩
 rintro v h' ⟨rfl,x⟩
 simp! [decide_eq_true h2,decide_eq_true h4,decide_eq_true h5]
 exact x
theorem Jsj (a b:Hd):Jee (k+1) [tupH a,tupH b] h=.ok (.bl (decide (a.2.2<=b.2.1)||decide (b.2.2<=a.2.1))) h:=by
 refine Jcy ?_
 rw[Jsa]
 simp! [Jeu,tupH]
 cases decide (a.2.2<=b.2.1)<;>simp
theorem Jwk (a b:Hd):Jfs (k+1) [tupH a,tupH b] h=.ok (.bl (decide (b.2.1<=a.2.1)&&decide (a.2.2<=b.2.2))) h:=by
 refine Jcy ?_
 rw[Jv9]
 simp! [Jit,tupH]
 cases decide (b.2.1<=a.2.1)<;>simp
theorem Jov {a b:Hd}(t:Tog a b):Jbz (k+2) [tupH a,tupH b] h=.ok (.bl true) h:=by
 refine Jcy ?_
 rw[Joq]
 have ix:∀a:Hd,WR (opIx (tupH a) (.int 0) h)=λ P=>P (.str a.1) h:=λ a=>by
  funext P
  simp only[tupH,Jog,exists_eq_left,exists_eq_left',IV.bl.injEq,IV.int.injEq,IV.ref.injEq,IV.str.injEq,IO.lst.injEq,IV.tup.injEq,Option.some.injEq,Bool.not_true,Bool.not_false,reduceCtorEq,eq_self,true_implies,false_implies,implies_true,and_true,true_and,and_false,false_and,Option.bind_some,Bool.true_eq_false,Bool.false_eq_true,Jp4,Jlh,Jp5,Jxc,Jp2,Jp3,Jhi,Jc8,Ji6,Jch,Jb2,Ji7,Jog,Jp7,Jin,Jio,Jk0,Joj,Jtu,Jlm,Jlk,Jll]
 simp! [Jcl,Jfy,Jfz,Jsj,Jwk,ix]
 unfold Tog at t
 simp only[Bool.or_eq_true,Bool.or_eq_false_iff,Bool.and_eq_true,Bool.and_eq_false_iff,decide_eq_true_eq,decide_eq_false_iff_not]
 grind
theorem Ju1 {hs:List Hd}{i:Nat}(hi:h[i]?=some (.lst (hs.map tupH))) (hl:hs.length<=6) (ht:∀m n (hm:m<n) (hn:n<hs.length),Tog hs[n] hs[m]) :
  WR (Jag (k+3) [.ref i] h) λ v h'=>v=.bl true/\Ex h h':=by
 have hb:=Jc
 rw[Jkj]
 simp! [Jav,Jck,Jzy,hi]
 refine Jbw (λ n σ h'=>(∃a b,σ=[some (.ref i),a,b])/\Ex h h') (λ n σ h' ⟨_,x⟩=>x.get hi) ?_ ?_ ⟨⟨_,_,rfl⟩,.refl h⟩
 ·rintro n hn _ h' ⟨⟨a,b,rfl⟩,x⟩
  have hn':n<hs.length:=by rw[Jcs,List.length_map] at hn;exact hn
  rw[Jyc]
  simp! [List.getElem_map,Jl6,Jtp,Jtq,List.length_cons,List.length_nil,Jbx]
  have hi':=x.get hi
  refine WR.mono (Jab (xs:=(hs.map tupH).take n) (chk:=λ h2=>h2[h'.length]?=some (.lst ((hs.map tupH).take n))) (f:=λ _=>.bl true) (h:=h'++[.lst ((hs.map tupH).take n)]) ?_ ?_ ?_ ?_) ?_
  ·simp! [Jto,hi',Jba,Ju7,Jg]
  ·simp only[List.length_take,List.length_map];omega
  ·exact λ h2 q=>q _ _ Jg
  ·intro v hv h2 q
   obtain⟨j,hj,rfl⟩:=List.mem_iff_getElem.mp hv
   have hj':j<n:=by simp at hj;omega
   simp! [List.getElem_take,List.getElem_map,Jbr,List.map_cons,List.map_nil,List.getElem?_cons_succ,List.getElem?_cons_zero,Option.join_some]
   exact WR.of_eq (Jov (ht j n hj' hn')) ⟨rfl,.refl _⟩
  ·rintro v h3 ⟨rfl,g,rfl⟩
   refine WR.of_eq (all_map (f:=λ _=>true) Jp) ?_
   have:(((hs.map tupH).take n).all λ _=>true)=true:=by simp
   simp! [this]
   exact⟨⟨_,_,rfl⟩,x.trans ((Ex.one _ _).trans (.cons ..))⟩
 ·rintro _ h' ⟨⟨a,b,rfl⟩,x⟩
  exact x
structure HsOk (len:Int) (hs:List Hd):Prop where
 few:hs.length<=6
 each:∀a∈hs,HdOk len a
 tog:∀m n (hm:m<n) (hn:n<hs.length),Tog hs[n] hs[m]
theorem Jso {hs:List Hd}{i:Nat}{len:Int}(hi:h[i]?=some (.lst (hs.map tupH))) (ok:HsOk len hs) :
  WR (Jbd (k+4) [.ref i,.int len] h) λ v h'=>v=.tup (hs.map tupH)/\Ex h h':=by
 have hb:=Jc
 have hl:=ok.few
 have h6:¬(6:Int)<(hs.length:Int):=by omega
 rw[Jsb]
 simp! [Jev,Jjv,Jjw,Jjx,J75,isI,J2z hi,Jdl,hi,List.length_map,h6,decide_false]
 refine WR.mono (Jab (xs:=hs.map tupH) (chk:=λ h2=>h2[i]?=some (.lst (hs.map tupH))) (f:=λ _=>.bl true) (h:=h) ?_ ?_ ?_ ?_) ?_
 ·simp! [Jba,hi]
 ·simp only[List.length_map];omega
 ·exact λ h2 q=>q _ _ hi
 ·intro v hv h2 q
  obtain⟨a,ha,rfl⟩:=List.mem_map.mp hv
  simp! [Jgh,List.map_cons,List.map_nil,List.getElem?_cons_succ,List.getElem?_cons_zero,Option.join_some]
  exact Jwe (ok.each a ha)
 ·rintro v h1 ⟨rfl,g,rfl⟩
  refine WR.of_eq (all_map (f:=λ _=>true) Jp) ?_
  have:((hs.map tupH).all λ _=>true)=true:=by simp
  simp! [this,Jjy,Jjz]
  have x1:Ex h (h++IO.lst (List.map (λ x=>IV.bl true) (hs.map tupH))::g):=.cons ..
  refine WR.mono (Ju1 (x1.get hi) hl ok.tog) ?_
  rintro v h2 ⟨rfl,x2⟩
  simp! [true_and]
  have hi2:=x2.get (x1.get hi)
  refine WR.mono (Jab (xs:=hs.map tupH) (chk:=λ h3=>h3[i]?=some (.lst (hs.map tupH))) (f:=λ x=>x) (h:=h2) ?_ ?_ ?_ ?_) ?_
  ·simp! [Jba,hi2]
  ·simp only[List.length_map];omega
  ·exact λ h2 q=>q _ _ hi2
  ·intro v hv h3 q
   obtain⟨a,ha,rfl⟩:=List.mem_map.mp hv
   simp! [Jgi,tupH,List.length_cons,List.length_nil]
   exact⟨by omega,.refl _⟩
  ·rintro v h3 ⟨rfl,g3,rfl⟩
   simp only[Jz4,Jp,exists_eq_left,exists_eq_left',IV.bl.injEq,IV.int.injEq,IV.ref.injEq,IV.str.injEq,IO.lst.injEq,IV.tup.injEq,Option.some.injEq,Bool.not_true,Bool.not_false,reduceCtorEq,eq_self,true_implies,false_implies,implies_true,and_true,true_and,and_false,false_and,Option.bind_some,Bool.true_eq_false,Bool.false_eq_true,Jp4,Jlh,Jp5,Jxc,Jp2,Jp3,Jhi,Jc8,Ji6,Jch,Jb2,Ji7,Jog,Jp7,Jin,Jio,Jk0,Joj,Jtu,Jlm,Jlk,Jll,List.map_id']
   exact x1.trans (x2.trans (.cons ..))
theorem Jwu {due gap:Int}(h1:1<=due) (h2:due<=gap):Jdy (k+3) [.int due,.int gap] h=.ok (.int due) h:=by
 refine Jcy ?_
 rw[Jwa]
 have:¬gap<due:=by omega
 simp! [Jiu,Jnb,Jnc,J75,isI,Jli,decide_eq_true h1,decide_eq_false this]
noncomputable def wfs (name:Str) (gap len due late:Int) (hs:List IV):List (Str×IV):=[("name",.str name),("gap",.int gap),("length",.int len),("due",.int due),("late",.int late),("hold_tuples",.tup hs)]
section
variable (a b c d e f:IV)
theorem put0:putI "name" a ([]:List (Str×IV))=([("name",a)]:List (Str×IV)):=by kernel_rfl
theorem put1:putI "gap" b ([("name",a)]:List (Str×IV))=([("name",a),("gap",b)]:List (Str×IV)):=by kernel_rfl
theorem put2:putI "length" c ([("name",a),("gap",b)]:List (Str×IV))=([("name",a),("gap",b),("length",c)]:List (Str×IV)):=by kernel_rfl
theorem put3:putI "due" d ([("name",a),("gap",b),("length",c)]:List (Str×IV))=([("name",a),("gap",b),("length",c),("due",d)]:List (Str×IV)):=by kernel_rfl
theorem put4:putI "late" e ([("name",a),("gap",b),("length",c),("due",d)]:List (Str×IV))=([("name",a),("gap",b),("length",c),("due",d),("late",e)]:List (Str×IV)):=by kernel_rfl
theorem put5:putI "hold_tuples" f ([("name",a),("gap",b),("length",c),("due",d),("late",e)]:List (Str×IV))=([("name",a),("gap",b),("length",c),("due",d),("late",e),("hold_tuples",f)]:List (Str×IV)):=by kernel_rfl
variable {name:Str}{gap len due late:Int}{hs:List IV}
theorem fl0:(wfs name gap len due late hs).lookup ("name":Str)=some (.str name):=by kernel_rfl
theorem fl1:(wfs name gap len due late hs).lookup ("gap":Str)=some (.int gap):=by kernel_rfl
theorem fl2:(wfs name gap len due late hs).lookup ("length":Str)=some (.int len):=by kernel_rfl
theorem fl3:(wfs name gap len due late hs).lookup ("due":Str)=some (.int due):=by kernel_rfl
theorem fl4:(wfs name gap len due late hs).lookup ("late":Str)=some (.int late):=by kernel_rfl
theorem fl5:(wfs name gap len due late hs).lookup ("hold_tuples":Str)=some (.tup hs):=by kernel_rfl
theorem flh:(wfs name gap len due late hs).lookup ("held":Str)=none:=by kernel_rfl
end
theorem Jzv {name:Str}{gap len due late:Int}{dv hv:IV}{hs:List IV}{w:Nat}(hw:h[w]?=some (.ins "Work" [])) (hn:IsNm name) (hg:1<=gap) (hl:1<=len) (ht:0<=late)
  (hd:∀h1,Jdy (k+4) [dv,.int gap] h1=.ok (.int due) h1) (hh:∀h1:IH,(∀(j:Nat) (o:IO),j≠w->h[j]?=some o->h1[j]?=some o)->WR (Jbd (k+4) [hv,.int len] h1) λ v h2=>v=.tup hs/\Ex h1 h2) :
  WR (Jcf (k+5) [.ref w,.str name,.int gap,.int len,dv,.int late,hv] h) λ v h'=>v=.non/\∃g,h'=h.set w (.ins "Work" (wfs name gap len due late hs))++g:=by
 rw[Jr6]
 simp! [Jel]
 refine WR.mono (Jpx hn) ?_
 rintro v h1 ⟨rfl,g1,rfl⟩
 have lw:=Jcb hw
 have s1:∀{o:IO},(h++g1).set w o=h.set w o++g1:=by intro o;rw[List.set_append_left (h:=lw)]
 have at1:∀{o:IO},(h.set w o++g1)[w]?=some o:=by
  intro o
  rw[List.getElem?_append_left (by rw[List.length_set];exact lw),List.getElem?_set_self lw]
 have s2:∀{o o':IO},(h.set w o++g1).set w o'=h.set w o'++g1:=by intro o o';rw[List.set_append_left (h:=by rw[List.length_set];exact lw),List.set_set]
 simp! [Jjc,Jjd,Jje,Jjf,Jjg,Jjh,Jji,Jjj,Jli,decide_eq_true hg,decide_eq_true hl,decide_eq_true ht,Joh,IO.ins.injEq,grow hw]
 refine⟨w,_,_,rfl,grow hw,by decide,?_⟩
 rw[s1,put0]
 refine⟨w,_,_,rfl,at1,by show(1:Nat)<1000;decide,?_⟩
 rw[s2,put1]
 refine⟨w,_,_,rfl,at1,by show(2:Nat)<1000;decide,?_⟩
 rw[s2,put2,hd]
 refine⟨w,_,_,rfl,at1,by show(3:Nat)<1000;decide,?_⟩
 rw[s2,put3]
 refine⟨w,_,_,rfl,at1,by show(4:Nat)<1000;decide,?_⟩
 rw[s2,put4]
 simp! [Jjk,Joh]
 refine WR.mono (hh _ λ j o hj e=>?_) ?_
 ·refine grow ?_
  rw[List.getElem?_set_ne (Ne.symm hj)]
  exact e
 ·rintro v h2 ⟨rfl,g2,rfl⟩
  refine⟨w,_,_,rfl,grow at1,by show(5:Nat)<1000;decide,g1++g2,?_⟩
  rw[List.set_append_left (h:=Jcb at1),s2,put5,List.append_assoc]
  rfl
theorem J4a {name:Str}{gap len due late:Int}{dv hv:IV}{hs:List IV}(hn:IsNm name) (hg:1<=gap) (hl:1<=len) (ht:0<=late)
  (hd:∀h1,Jdy (k+4) [dv,.int gap] h1=.ok (.int due) h1) (hh:∀h1:IH,(∀(j:Nat) (o:IO),h[j]?=some o->h1[j]?=some o)->WR (Jbd (k+4) [hv,.int len] h1) λ v h2=>v=.tup hs/\Ex h1 h2) :
  WR (Jcf (k+5) [.ref h.length,.str name,.int gap,.int len,dv,.int late,hv] (h++[.ins "Work" []])) λ v h'=>v=.non/\∃g,h'=h++.ins "Work" (wfs name gap len due late hs)::g:=by
 refine WR.mono (Jzv Jg hn hg hl ht hd λ h1 q=>hh h1 λ j o e=>q j o (by have:=Jcb e;omega) (grow e)) ?_
 rintro v h' ⟨rfl,g,rfl⟩
 exact⟨rfl,g,by rw[Jn8];simp⟩
theorem Jof {name:Str}{gap len due late:Int}{hs:List IV}{w:Nat}(hw:h[w]?=some (.ins "Work" (wfs name gap len due late hs))):Jea (k+1) [.ref w] h=.ok (.ref h.length) (h++[.lst hs]):=by
 refine Jcy ?_
 rw[Jr5]
 simp! [Jek,Jz hw,fl5]
end
structure WD where
 name:Str
 gap:Int
 len:Int
 due:Int
 late:Int
noncomputable def IsW (h:IH) (v:IV) (d:WD):Prop:=∃i hs,v=.ref i/\h[i]?=some (.ins "Work" (wfs d.name d.gap d.len d.due d.late hs))
theorem IsW.kp {h h':IH}{v:IV}{d:WD}(k:Kp h h') (w:IsW h v d):IsW h' v d:=by
 obtain⟨i,hs,e,q⟩:=w
 exact⟨i,hs,e,k _ _ q⟩
structure AllW (h:IH) (vs:List IV) (ds:List WD):Prop where
 len:vs.length=ds.length
 at_:∀(i:Nat) v d,vs[i]?=some v->ds[i]?=some d->IsW h v d
theorem AllW.kp {h h':IH}{vs:List IV}{ds:List WD}(k:Kp h h') (w:AllW h vs ds):AllW h' vs ds:=⟨w.len,λ i v d a b=>(w.at_ i v d a b).kp k⟩
theorem AllW.of {h:IH}{vs:List IV}{ds:List WD}(w:AllW h vs ds){v:IV}(hv:v∈vs):∃d∈ds,IsW h v d:=by
 obtain⟨i,hi,rfl⟩:=List.mem_iff_getElem.mp hv
 have hi':i<ds.length:=by rw[<- w.len];exact hi
 exact⟨ds[i],List.getElem_mem hi',w.at_ i _ _ (List.getElem?_eq_getElem hi) (List.getElem?_eq_getElem hi')⟩
noncomputable def fOf (f:Str) (h:IH) (v:IV):IV:=(Jr0 f v h).getD .non
theorem AllW.mapF {h:IH}{vs:List IV}{ds:List WD}(w:AllW h vs ds){F:IV->IV}{g:WD->IV}(hf:∀(i:Nat) (d:WD) hs,h[i]?=some (.ins "Work" (wfs d.name d.gap d.len d.due d.late hs))->F (.ref i)=g d):vs.map F=ds.map g:=by
 refine List.ext_getElem? λ i=>?_
 rw[List.getElem?_map,List.getElem?_map]
 by_cases hi:i<vs.length
 ·have hi':i<ds.length:=by rw[<- w.len];exact hi
  rw[List.getElem?_eq_getElem hi,List.getElem?_eq_getElem hi']
  obtain⟨j,hs,e,q⟩:=w.at_ i _ _ (List.getElem?_eq_getElem hi) (List.getElem?_eq_getElem hi')
  simp only[Option.map_some,Option.some.injEq]
  rw[e,hf j _ hs q]
 ·have hi':¬i<ds.length:=by rw[<- w.len];exact hi
  rw[List.getElem?_eq_none (by omega),List.getElem?_eq_none (by omega)]
  rfl
section
variable {k:Nat}{h:IH}
theorem J1i:Jbb ["Work"] (.ins "Work")=some true:=by kernel_rfl
theorem Jsp {vs:List IV}{ds:List WD}{i:Nat}(hi:h[i]?=some (.lst vs)) (w:AllW h vs ds) (nd:(ds.map (·.name)).Nodup) (hl:ds.length<=20) :
  WR (Jef (k+1) [.ref i] h) λ v h'=>v=.tup vs/\Ex h h':=by
 have hb:=Jc
 have wl:=w.len
 rw[Jsc]
 simp! [Jew,Jj0,J2z hi]
 refine WR.mono (Jab (h:=h) (xs:=vs) (chk:=λ h'=>h'[i]?=some (.lst vs)) (f:=λ _=>.bl true) ?_ (by omega) (λ h2 q=>q _ _ hi) ?_) ?_
 ·simp! [Jba,hi]
 ·intro v hv h2 q
  obtain⟨d,_,j,hs,rfl,e⟩:=w.of hv
  have ty:tyI (.ref j) h2=some (.ins "Work"):=by simp[tyI,q _ _ e]
  simp! [Jgj,ty,J1i]
  exact .refl _
 ·rintro _ _ ⟨rfl,g,rfl⟩
  have x1:Ex h (h++L3.IO.lst (vs.map λ _=>.bl true)::g):=.cons _ _ _
  rw[all_map (f:=λ _=>true) Jp]
  generalize h++L3.IO.lst (vs.map λ _=>.bl true)::g=h1 at x1
  have at1:(vs.all λ _=>true)=true:=by simp
  simp! [at1,Jj1,Jz1]
  have w1:=w.kp x1.kp
  have nm:=w1.mapF (F:=fOf "name" h1) (g:=λ d=>.str d.name) λ j d hs e=>by rw[fOf,Jz e,fl0];rfl
  refine WR.mono (Jab (h:=h1) (xs:=vs) (chk:=λ h'=>h'[i]?=some (.lst vs)) (f:=fOf "name" h1) ?_ (by omega) (λ h2 q=>q _ _ (x1.get hi)) ?_) ?_
  ·simp! [Jba,x1.get hi]
  ·intro v hv h2 q
   obtain⟨d,_,j,hs,rfl,e⟩:=w1.of hv
   simp! [Jgk,Jz (q _ _ e),fl0,fOf,Jz e,Option.getD_some]
   exact .refl _
  ·rintro _ _ ⟨rfl,g2,rfl⟩
   rw[nm]
   have em:ds.map (λ d=>IV.str d.name)=(ds.map (·.name)).map IV.str:=by simp
   rw[em]
   have x2:Ex h1 (h1++L3.IO.lst ((ds.map (·.name)).map IV.str)::g2):=.cons _ _ _
   refine⟨_,rfl,_,Jp,ds.map (·.name),Jq8 _,by rw[List.length_map];unfold scanBound;omega,?_⟩
   rw[Jru nd _ (Nat.le_refl _)]
   simp! [Jdl,x2.get (x1.get hi),List.length_map,wl,decide_true,Jj2,Jz4]
   exact x1.trans x2
noncomputable def rup (top bottom:Int):Int:=(top+bottom-1)/bottom
noncomputable def topD (ds:List WD):Int:=if ds.map (·.due)=[] then 0 else Jc0 (λ i=>(ds.map (·.due)).getD i 0) (ds.map (·.due)).length
noncomputable def Ju6 (ds:List WD):Int:=(ds.map λ d=>rup (topD ds+d.late) d.gap).sum
noncomputable def rOf (T:Int) (h:IH) (v:IV):IV:=match Jr0 "late" v h,Jr0 "gap" v h with
 | some (.int l),some (.int g)=>.int (rup (T+l) g)
 | _,_=>.non
theorem Jzd {a b:Int}(hb:0<b) (hl:b.natAbs.log2<9000):Jeg (k+1) [.int a,.int b] h=.ok (.int (rup a b)) h:=by
 refine Jcy ?_
 rw[Jsd]
 simp! [Jex,hb,hl,rup]
theorem J0d {vs:List IV}{ds:List WD}(w:AllW h vs ds) (hl:ds.length<=20) (hg:∀d∈ds,0<d.gap/\d.gap.natAbs.log2<9000) :
  WR (Jg1 (k+2) [.tup vs] h) λ v h'=>v=.int (Ju6 ds)/\Ex h h':=by
 have hb:=Jc
 have wl:=w.len
 rw[Jt6]
 simp! [Jfx,J5g]
 have dm:=w.mapF (F:=fOf "due" h) (g:=λ d=>.int d.due) λ j d hs e=>by rw[fOf,Jz e,fl3];rfl
 refine WR.mono (Jab (h:=h) (xs:=vs) (chk:=λ _=>True) (f:=fOf "due" h) ?_ (by omega) (λ _ _=>trivial) ?_) ?_
 ·simp! [true_and]
 ·intro v hv h2 q
  obtain⟨d,_,j,hs,rfl,e⟩:=w.of hv
  simp! [Jho,Jz (q _ _ e),fl3,fOf,Jz e,Option.getD_some]
  exact .refl _
 ·rintro _ _ ⟨rfl,g,rfl⟩
  rw[dm]
  have em:ds.map (λ d=>IV.int d.due)=(ds.map (·.due)).map IV.int:=by simp
  rw[em]
  have x1:Ex h (h++L3.IO.lst ((ds.map (·.due)).map IV.int)::g):=.cons _ _ _
  refine⟨_,rfl,_,Jp,_,Jca _,?_⟩
  have et:maxD (ds.map (·.due)) (.int 0)=.int (topD ds):=by
   unfold maxD topD
   split<;>rfl
  rw[et]
  generalize h++L3.IO.lst ((ds.map (·.due)).map IV.int)::g=h1 at x1
  have w1:=w.kp x1.kp
  simp! [Jln]
  have rm:=w1.mapF (F:=rOf (topD ds) h1) (g:=λ d=>.int (rup (topD ds+d.late) d.gap)) λ j d hs e=>by rw[rOf,Jz e,Jz e,fl4,fl1]
  refine WR.mono (Jab (h:=h1) (xs:=vs) (chk:=λ _=>True) (f:=rOf (topD ds) h1) ?_ (by omega) (λ _ _=>trivial) ?_) ?_
  ·simp! [true_and]
  ·intro v hv h2 q
   obtain⟨d,hd,j,hs,rfl,e⟩:=w1.of hv
   have e2:=q _ _ e
   simp only[List.map_cons,List.map_nil,List.getElem?_cons_succ,List.getElem?_cons_zero,Option.join_some]
   simp! [Jhp,Jz e2,fl4,fl1,Jzd (hg d hd).1 (hg d hd).2]
   exact⟨by rw[rOf,Jz e,Jz e,fl4,fl1],.refl _⟩
  ·rintro _ _ ⟨rfl,g2,rfl⟩
   rw[rm]
   have em2:ds.map (λ d=>IV.int (rup (topD ds+d.late) d.gap))=(ds.map λ d=>rup (topD ds+d.late) d.gap).map IV.int:=by simp
   rw[em2]
   simp! [J5k,Jp,Jca]
   exact⟨rfl,x1.trans (.cons _ _ _)⟩
noncomputable abbrev dfs (vs:List IV):List (Str×IV):=[("works",.tup vs)]
theorem dp0 {a:IV}:putI "works" a ([]:List (Str×IV))=([("works",a)]:List (Str×IV)):=by kernel_rfl
theorem dl0 {a:IV}:(([("works",a)]:List (Str×IV))).lookup ("works":Str)=some a:=by kernel_rfl
theorem dlw {a:IV}:(([("works",a)]:List (Str×IV))).lookup ("work":Str)=none:=by kernel_rfl
theorem Jx9 {vs:List IV}{ds:List WD}{i:Nat}(hi:h[i]?=some (.lst vs)) (w:AllW h vs ds) (nd:(ds.map (·.name)).Nodup) (hl:ds.length<=12) (hg:∀d∈ds,0<d.gap/\d.gap.natAbs.log2<9000) (hc:Ju6 ds<=80) :
  WR (Jce (k+3) [.ref h.length,.ref i] (h++[.ins "Duty" []])) λ v h'=>v=.non/\∃g,h'=h++.ins "Duty" (dfs vs)::g:=by
 have wl:=w.len
 rw[Jr2]
 simp! [Jeh,Joh]
 refine WR.mono (Jsp (grow hi) (w.kp (Ex.one h _).kp) nd (by omega)) ?_
 rintro _ _ ⟨rfl,g1,rfl⟩
 refine⟨_,_,_,rfl,grow Jg,by decide,?_⟩
 rw[dp0,List.append_assoc,List.cons_append,List.nil_append,Ji1]
 simp! [Jja,Jz (Jp (h:=h)),dl0,wl]
 refine⟨λ q=>?_,λ _=>?_⟩
 ·rw[decide_eq_true_eq] at q
  omega
 simp! [Jjb,Jz (Jp (h:=h)),dl0]
 refine WR.mono (J0d (w.kp (Ex.cons h _ _).kp) (by omega) hg) ?_
 rintro _ _ ⟨rfl,g2,rfl⟩
 simp! [true_and]
 refine⟨λ q=>?_,λ _=>⟨g1++g2,by simp⟩⟩
 rw[decide_eq_true_eq] at q
 omega
theorem Jgo {vs:List IV}{D:Nat}{n:Int}{x:IV}(hD:h[D]?=some (.ins "Duty" (dfs vs))) (hx:atI vs n=some x):Jd9 (k+1) [.ref D,.int n] h=.ok x h:=by
 refine Jcy ?_
 rw[Jr4]
 simp! [Jej,Jz hD,dl0,hx]
end
theorem J7j {a b m:Int}(hb:0<b) (h:a<=m*b):rup a b<=m:=by
 unfold rup
 have:(a+b-1)/b<m+1:=by
  rw[Int.ediv_lt_iff_lt_mul hb,Int.add_mul]
  omega
 omega
theorem J2q (m:Int):∀l:List Int,(∀x∈l,x<=m)->l.sum<=l.length*m
 | [],_=>by simp
 | x::l,q=>by
  have:=J2q m l λ y hy=>q y (List.mem_cons_of_mem _ hy)
  have:=q x (List.mem_cons_self ..)
  rw[List.sum_cons,List.length_cons,Int.natCast_add,Int.add_mul]
  simp
  omega
theorem Jqr {a b K:Nat}(h:a<=b) (hb:b.log2<K):a.log2<K:=by
 by_cases ha:a=0
 ·subst ha
  exact Nat.lt_of_le_of_lt (Nat.zero_le _) hb
 ·have hb0:b≠0:=by omega
  rw[Nat.log2_lt ha]
  exact Nat.lt_of_le_of_lt h ((Nat.log2_lt hb0).mp hb)
noncomputable abbrev RH:=WD×List Hd
noncomputable def rd:RH:=⟨⟨⟨#[]⟩,0,0,0,0⟩,[]⟩
noncomputable abbrev wo (r:RH):IO:=.ins "Work" (wfs r.1.name r.1.gap r.1.len r.1.due r.1.late (r.2.map tupH))
structure AllH (h:IH) (vs:List IV) (rs:List RH):Prop where
 len:vs.length=rs.length
 at_:∀(i:Nat) v r,vs[i]?=some v->rs[i]?=some r->∃j,v=.ref j/\h[j]?=some (wo r)
theorem AllH.kp {h h':IH}{vs:List IV}{rs:List RH}(k:Kp h h') (w:AllH h vs rs):AllH h' vs rs:=⟨w.len,λ i v r a b=>let ⟨j,e,g⟩:=w.at_ i v r a b;⟨j,e,k _ _ g⟩⟩
theorem AllH.w {h:IH}{vs:List IV}{rs:List RH}(w:AllH h vs rs):AllW h vs (rs.map (·.1)):=by
 refine⟨by rw[List.length_map];exact w.len,λ i v d a b=>?_⟩
 rw[List.getElem?_map] at b
 cases er:rs[i]? with
 | none=>rw[er] at b;cases b
 | some r =>
  rw[er] at b
  cases b
  obtain⟨j,e,g⟩:=w.at_ i v r a er
  exact⟨j,_,e,g⟩
theorem AllH.get {h:IH}{vs:List IV}{rs:List RH}(w:AllH h vs rs){n:Nat}{r:RH}(e:rs[n]?=some r):∃j,vs[n]?=some (.ref j)/\h[j]?=some (wo r):=by
 have hn:n<vs.length:=by rw[w.len];exact(List.getElem?_eq_some_iff.mp e).1
 obtain⟨j,e1,g⟩:=w.at_ n _ r (List.getElem?_eq_getElem hn) e
 exact⟨j,by rw[List.getElem?_eq_getElem hn,e1],g⟩
structure F8 (unit:Int) (r:RH):Prop where
 nm:IsNm r.1.name
 g1:unit<=r.1.gap
 g2:r.1.gap<9*unit
 l1:1<=r.1.len
 d1:1<=r.1.due
 d2:r.1.due<=r.1.gap
 t1:0<=r.1.late
 t2:r.1.late<2*r.1.gap
 ok:HsOk r.1.len r.2
structure Gd (unit:Int) (rs:List RH):Prop where
 u1:1<=unit
 u2:unit<=10^40
 few:rs.length<=7
 f:∀r∈rs,F8 unit r
 nd:(rs.map λ r=>r.1.name).Nodup
theorem J5v {unit:Int}{rs:List RH}(G:Gd unit rs):Ju6 (rs.map (·.1))<=80:=by
 have hu:=G.u1
 have hf:=G.f
 have hl:=G.few
 have ht:topD (rs.map (·.1))<=9*unit:=by
  unfold topD
  split
  ·omega
  ·rename_i hne
   refine J2u _ _ _ (by rw[List.length_map,List.length_map];cases rs with|nil=>exact absurd rfl hne|cons _ _=>simp) λ j hj=>?_
   rw[List.length_map,List.length_map] at hj
   have e:((rs.map (·.1)).map (·.due)).getD j 0=(rs[j]).1.due:=by
    rw[List.getD_eq_getElem?_getD,List.getElem?_map,List.getElem?_map,List.getElem?_eq_getElem hj];rfl
   have f:=hf _ (List.getElem_mem hj)
   have f1:=f.d2
   have f2:=f.g2
   show((rs.map (·.1)).map (·.due)).getD j 0<=_
   rw[e]
   omega
 have:=J2q 11 ((rs.map (·.1)).map λ d=>rup (topD (rs.map (·.1))+d.late) d.gap) λ x hx=>by
  obtain⟨d,hd,rfl⟩:=List.mem_map.mp hx
  obtain⟨r,hr,rfl⟩:=List.mem_map.mp hd
  have f:=hf r hr
  have f1:=f.g1
  have f2:=f.t2
  exact J7j (by omega) (by omega)
 rw[List.length_map,List.length_map] at this
 unfold Ju6
 omega
theorem Gd.gl {unit:Int}{rs:List RH}(G:Gd unit rs):∀d∈rs.map (·.1),0<d.gap/\d.gap.natAbs.log2<9000:=λ d hd=>by
 obtain⟨r,hr,rfl⟩:=List.mem_map.mp hd
 have f:=G.f r hr
 have f1:=f.g1
 have f2:=f.g2
 have u1:=G.u1
 have u2:=G.u2
 refine⟨by omega,Jqr (b:=9*10^40) ?_ (by decide +kernel)⟩
 have e:((10^40:Nat):Int)=10^40:=by decide +kernel
 clear G f
 generalize (10^40:Int)=y at *
 generalize (10^40:Nat)=z at *
 omega
noncomputable def IsDu (h:IH) (D:Nat) (rs:List RH):Prop:=∃vs,h[D]?=some (.ins "Duty" (dfs vs))/\AllH h vs rs
theorem IsDu.kp {h h':IH}{D:Nat}{rs:List RH}(k:Kp h h') (w:IsDu h D rs):IsDu h' D rs:=let ⟨vs,a,b⟩:=w;⟨vs,k _ _ a,b.kp k⟩
section
variable {k:Nat}{h:IH}
theorem duty8 {vs:List IV}{rs:List RH}{unit:Int}{i:Nat}(hi:h[i]?=some (.lst vs)) (w:AllH h vs rs) (G:Gd unit rs) :
  WR (Jce (k+3) [.ref h.length,.ref i] (h++[.ins "Duty" []])) λ v h'=>v=.non/\Ex h h'/\IsDu h' h.length rs:=by
 have hl:=G.few
 refine WR.mono (Jx9 hi w.w (by have:=G.nd;rwa [List.map_map]) (by rw[List.length_map];omega) G.gl (J5v G)) ?_
 rintro _ _ ⟨rfl,g,rfl⟩
 exact⟨rfl,.cons _ _ _,vs,Jp,w.kp (Ex.cons _ _ _).kp⟩
theorem Joc (c:Int) (m:Nat) (hm:m<=40):WR (Jax (k+1) [.int c,.int m] h) λ v h'=>∃(i:Nat) (xs:List Int),v=.ref i/\h.length<=i/\h'[i]?=some (.lst (xs.map .int))/\xs.length=m/\(∀x∈xs,(0:Int)<=x/\x<10^45)/\Ex h h':=by
 have hb:=Jc
 have t45:Int.toNat 45=45:=rfl
 have t30:Int.toNat 30=30:=rfl
 have t18:Int.toNat 18=18:=rfl
 have p45:(0:Int)<10^45:=by decide +kernel
 have l45:((10:Int)^45).natAbs.log2<9000:=by decide +kernel
 have q18:(10:Int)^18+9=1000000000000000009:=by decide +kernel
 have le:(1000000000000000009:Int)<=10^45:=by decide +kernel
 have w10:(0:Int)<=45/\(45:Int)<=1000000/\Int.natAbs 10<2^64:=by decide
 have w18:(0:Int)<=18/\(18:Int)<=1000000/\Int.natAbs 10<2^64:=by decide
 rw[Jqn]
 simp! [Jdc,Jhk,List.length_nil,Nat.zero_le,t30,t18,decide_eq_true_eq,decide_eq_false_iff_not]
 refine⟨by decide,λ _=>⟨by decide,⟨by omega,by omega⟩,?_⟩,λ _=>?_⟩
 ·refine Jbw (λ n σ h'=>∃xs rest a b,h'=h++[.lst (xs.map IV.int)]/\σ=[some (.int c),some (.int (m:Int)),some (.ref h.length),some (.int rest),a,b]/\xs.length=n/\∀x∈xs,(0:Int)<=x/\x<10^45)
   (λ _ _ _ _=>trivial) ?_ ?_ ⟨[],_,_,_,rfl,rfl,rfl,by simp⟩
  ·rintro n hn _ _ ⟨xs,rest,a,b,rfl,rfl,lx,hx⟩
   rw[Jfn]
   rw[J2] at hn
   simp! [Jgr]
   rw[Jrf (i:=h.length) (h1:=h++[L3.IO.lst (xs.map IV.int)]) rfl Jg Jj3]
   simp! [Jkw,Jg,t45,w10,p45,l45,Jn8,List.length_map]
   have e1:=Int.emod_nonneg rest (b:=10^45) (by decide +kernel)
   have e2:=Int.emod_lt_of_pos rest p45
   refine⟨by omega,xs++[rest%10^45],_,_,_,by simp,rfl,by simp[lx],?_⟩
   intro x hxx
   rw[List.mem_append,List.mem_singleton] at hxx
   rcases hxx with hxx|rfl
   ·exact hx x hxx
   ·exact⟨e1,e2⟩
  ·rintro _ _ ⟨xs,rest,a,b,rfl,rfl,lx,hx⟩
   rw[J2] at lx
   simp! [true_and]
   exact⟨_,xs,rfl,Nat.le_refl _,Jg,by omega,hx,.one _ _⟩
 ·simp! [Jhl,Jhm,t18,w18,q18,show(0:Int)<1000000000000000009 by decide]
  refine⟨⟨by omega,by omega⟩,?_⟩
  have s0:=Int.emod_nonneg c (b:=1000000000000000009) (by decide)
  have s1:=Int.emod_lt_of_pos c (b:=1000000000000000009) (by decide)
  refine Jbw (λ n σ h'=>∃xs num a b,h'=h++[.lst (xs.map IV.int)]/\σ=[some (.int c),some (.int (m:Int)),some (.ref h.length),a,b,some (.int num)]/\(0<=num/\num<2000000000000000000)/\xs.length=n/\∀x∈xs,(0:Int)<=x/\x<1000000000000000009)
   (λ _ _ _ _=>trivial) ?_ ?_ ⟨[],_,_,_,rfl,rfl,by omega,rfl,by simp⟩
  ·rintro n hn _ _ ⟨xs,num,a,b,rfl,rfl,hnum,lx,hx⟩
   rw[Jfn]
   rw[J2] at hn
   have m1:Jbq num num:=.inl (by omega)
   have m2:Jbq 48271 num:=.inl (by decide)
   simp! [Jgs,t18,w18,q18,m1,m2,show(0:Int)<1000000000000000009 by decide]
   have e1:=Int.emod_nonneg (num*num+48271*num+(0+(n:Int))) (b:=1000000000000000009) (by decide)
   have e2:=Int.emod_lt_of_pos (num*num+48271*num+(0+(n:Int))) (b:=1000000000000000009) (by decide)
   generalize (num*num+48271*num+(0+(n:Int)))%1000000000000000009=y at e1 e2
   rw[Jrf (i:=h.length) (h1:=h++[L3.IO.lst (xs.map IV.int)]) rfl Jg Jj3]
   simp! [Jkw,Jg,Jn8,List.length_map]
   refine⟨by omega,xs++[y],y,_,_,by simp,rfl,by omega,by simp[lx],?_⟩
   intro x hxx
   rw[List.mem_append,List.mem_singleton] at hxx
   rcases hxx with hxx|rfl
   ·exact hx x hxx
   ·exact⟨e1,e2⟩
  ·rintro _ _ ⟨xs,num,a,b,rfl,rfl,hnum,lx,hx⟩
   rw[J2] at lx
   simp! [Jhn,Jto,Jg]
   rw[show(some (2:Int))=some ((2:Nat):Int) from rfl,Jqg,<-List.map_drop]
   refine⟨_,xs.drop 2,rfl,by simp,Jg,by simp;omega,λ x hxx=>?_,(Ex.one _ _).trans (.one _ _)⟩
   have:=hx x (List.mem_of_mem_drop hxx)
   generalize (10:Int)^45=z at *
   omega
mutual
theorem Jva:∀d:PyData,d.canLay0=true->PyData.eqv d d=true
 | .none,_=>by simp[PyData.eqv]
 | .bool _,_=>by simp[PyData.eqv]
 | .int _,_=>by simp[PyData.eqv]
 | .str _,_=>by simp[PyData.eqv]
 | .list xs,q=>by
  rw[PyData.eqv]
  exact Jnm xs (by rw[PyData.canLay0] at q;exact q)
 | .tuple xs,q=>by
  rw[PyData.eqv]
  exact Jnm xs (by rw[PyData.canLay0] at q;exact q)
 | .dict _,q=>by rw[PyData.canLay0] at q;cases q
theorem Jnm:∀ds:List PyData,PyData.canLayAll0 ds=true->PyData.eqvAll ds ds=true
 | [],_=>by rw[PyData.eqvAll]
 | d::ds,q=>by
  rw[PyData.canLayAll0,Bool.and_eq_true] at q
  rw[PyData.eqvAll,Jva d q.1,Jnm ds q.2]
  rfl
end
theorem J6z {i j:Nat}{d:PyData}(hi:toD h 6 (.ref i)=some d) (hj:toD h 6 (.ref j)=some d) (q:d.canLay0=true):cNe (.ref i) (.ref j) h=.ok (.bl false) h:=by
 have e3:Jiv (.ref i) (.ref j) h=some true:=by
  unfold Jiv
  rw[hi,hj]
  dsimp only
  rw[if_pos ⟨q,q⟩,Jva d q]
 unfold cNe
 have e4:Jku (.ref i) (.ref j)=none:=rfl
 rw[e4]
 dsimp only
 rw[e3]
 rfl
theorem Jgx {i n:Nat}{xs:List IV}(e:h[i]?=some (.lst xs)):toD h (n+1) (.ref i)=(xs.mapM (toD h n)).map PyData.list:=by
 show(match h[i]? with|some (.lst xs)=>(xs.mapM (toD h n)).map PyData.list|_=>none)=_
 rw[e]
theorem Jug {f:IV->Option PyData}{g:IV->PyData}:∀{xs:List IV},(∀x∈xs,f x=some (g x))->xs.mapM f=some (xs.map g)
 | [],_=>rfl
 | x::xs,q=>by
  rw[List.mapM_cons,q x (List.mem_cons_self ..),Jug λ y hy=>q y (List.mem_cons_of_mem _ hy)]
  rfl
theorem J2h {g:IV->PyData}:∀{xs:List IV},(∀x∈xs,(g x).canLay0=true)->PyData.canLayAll0 (xs.map g)=true
 | [],_=>by rw[List.map_nil,PyData.canLayAll0]
 | x::xs,q=>by
  rw[List.map_cons,PyData.canLayAll0,q x (List.mem_cons_self ..),J2h λ y hy=>q y (List.mem_cons_of_mem _ hy)]
  rfl
end
section
variable {k:Nat}{h:IH}
theorem Jud:(Str.ofString "abcdefghijklmnopqrstuvwxyz").cps.toList=(List.range 26).map (97+ ·):=by decide +kernel
theorem Jue:(Str.ofString "abcdefghijklmnopqrstuvwxyz").length=26:=by decide +kernel
theorem Jsi {n:Int}(h0:0<=n) (h1:n<26){Q:IV->IH->Prop}:WR (opIx (.str "abcdefghijklmnopqrstuvwxyz") (.int n) h) Q=Q (.str ⟨#[97+n.toNat]⟩) h:=by
 have hb:=Jc
 have e:atI (Str.ofString "abcdefghijklmnopqrstuvwxyz").cps.toList n=some (97+n.toNat):=by
  rw[Jud]
  refine Jxp h0 ?_
  rw[List.getElem?_map,List.getElem?_range (by omega)]
  rfl
 simp only[opIx]
 rw[if_pos (by rw[Jue];omega),e]
 rfl
theorem J43 (l m:List Nat):(⟨l.toArray⟩:Str)++(⟨m.toArray⟩:Str)=⟨(l++m).toArray⟩:=by
 show Str.append _ _=_
 unfold Str.append
 simp
theorem Jq7 (l:List Nat):(⟨l.toArray⟩:Str).length=l.length:=by simp[Str.length]
theorem Jyb:(Str.ofString "")=(⟨([]:List Nat).toArray⟩:Str):=by decide +kernel
theorem J5s {h h0:IH}{it:I1}{e:E1}{js:List Nat}{σ:ISt}{xs:List IV}{chk:IH->Prop}{f:IV->IV}(hit:WR (it σ h0) λ J h1=>J.xs=xs/\J.chk=chk/\h1=h) (hl:xs.length<sizeLine)
  (hc:∀h2:IH,(∀(j:Nat) (ob:IO),h[j]?=some ob->h2[j]?=some ob)->chk h2)
  (he:∀x∈xs,∀h2:IH,(∀(j:Nat) (ob:IO),h[j]?=some ob->h2[j]?=some ob)->WR (e (some x::js.map λ j=>(σ[j]?).join) h2) λ v h3=>v=f x/\Ex h2 h3) :
  ∃g,Jr it 1 js (gNm 0) Jao e σ h0=.ok (.ref h.length) (h++.lst (xs.map f)::g):=by
 obtain⟨v,h3,e,rfl,g,rfl⟩:=(Jab hit hl hc he).eq
 exact⟨g,e⟩
noncomputable def wSz (c:Int):Int:=1+c%8
noncomputable def wAt (c:Int):Int:=c/8%wSz c
noncomputable def wB (c:Int):List Nat:=(List.range (wSz c).toNat).map λ j:Nat=>97+(c/(11+(j:Int)*(j:Int))%26).toNat
noncomputable def wL (c:Int) (q:Nat):List Nat:=((wB c).take (wAt c).toNat++[97+((c/64+(q:Int))%26).toNat])++(wB c).drop ((wAt c).toNat+1)
noncomputable def wd (c:Int) (q:Nat):Str:=⟨(wL c q).toArray⟩
theorem w_at (c:Int):0<wSz c/\wSz c<=8/\0<=wAt c/\wAt c<wSz c:=by
 have hs:0<wSz c/\wSz c<=8:=by unfold wSz;omega
 exact⟨hs.1,hs.2,Int.emod_nonneg _ (by omega),Int.emod_lt_of_pos _ hs.1⟩
theorem J21 (c:Int):(wB c).length=(wSz c).toNat:=by simp[wB]
theorem J22 (c:Int) (q:Nat):(wL c q).length=(wSz c).toNat:=by
 have:=w_at c
 simp[wL,J21]
 omega
theorem Jzt (c:Int) (q:Nat):IsNm (wd c q):=by
 have hs:=w_at c
 refine⟨?_,?_,?_⟩
 ·rw[wd,Jq7,J22];omega
 ·rw[wd,Jq7,J22];omega
 ·intro x hx
  have hx:x∈wL c q:=by simpa [wd] using hx
  have hB:∀x∈wB c,97<=x/\x<=122:=λ x hx=>by
   obtain⟨j,_,rfl⟩:=List.mem_map.mp hx
   have h1:=Int.emod_nonneg (c/(11+(j:Int)*(j:Int))) (b:=26) (by decide)
   have h2:=Int.emod_lt_of_pos (c/(11+(j:Int)*(j:Int))) (b:=26) (by decide)
   omega
  have h1:=Int.emod_nonneg (c/64+(q:Int)) (b:=26) (by decide)
  have h2:=Int.emod_lt_of_pos (c/64+(q:Int)) (b:=26) (by decide)
  simp only[wL,List.mem_append,List.mem_singleton] at hx
  rcases hx with(hx|rfl)|hx
  ·exact hB x (List.mem_of_mem_take hx)
  ·omega
  ·exact hB x (List.mem_of_mem_drop hx)
theorem J23 {c:Int}{p q:Nat}(hp:p<26) (hq:q<26) (e:wd c p=wd c q):p=q:=by
 have e1:wL c p=wL c q:=by
  have:(wL c p).toArray=(wL c q).toArray:=congrArg Str.cps e
  simpa using this
 have h1:=Int.emod_nonneg (c/64+(p:Int)) (b:=26) (by decide)
 have h2:=Int.emod_nonneg (c/64+(q:Int)) (b:=26) (by decide)
 have e2:(97+((c/64+(p:Int))%26).toNat)=97+((c/64+(q:Int))%26).toNat:=by
  unfold wL at e1
  have:=List.append_cancel_right e1
  have:=List.append_cancel_left this
  simpa using this
 omega
noncomputable def lOf (c:Int) (v:IV):IV:=match v with
 | .int j=>.str ⟨#[97+(c/(11+j*j)%26).toNat]⟩
 | _=>.non
theorem Jw9 (l:List Nat):Jkv (l.map λ x=>IV.str ⟨#[x]⟩)=some (PyProof.Rows.signs ⟨l.toArray⟩):=by
 have:=Jq8 (PyProof.Rows.signs ⟨l.toArray⟩)
 rw[<- this]
 simp[PyProof.Rows.signs]
 rfl
theorem J31 {l:List Nat}(hl:l.length<=8):JoinOk (Str.ofString "") (PyProof.Rows.signs ⟨l.toArray⟩)=true:=by
 have hb:=Jc
 have e0:(Str.ofString "").length=0:=by decide +kernel
 have:∀(m:List Nat) (a:Nat),(m.map λ x=>(⟨#[x]⟩:Str)).foldl (λ n (x:Str)=>n+x.length+(Str.ofString "").length) a=a+m.length:=by
  intro m
  induction m with
  | nil=>intro a;rfl
  | cons x m ih =>
   intro a
   rw[List.map_cons,List.foldl_cons,ih,e0]
   simp[Str.length]
   omega
 have e:(PyProof.Rows.signs ⟨l.toArray⟩).foldl (λ n (x:Str)=>n+x.length+(Str.ofString "").length) 0=0+l.length:=this l 0
 unfold JoinOk Builtin.Str.tooLong
 rw[List.foldl_toArray]
 simp only[Bool.not_eq_true',decide_eq_false_iff_not]
 omega
theorem Jzu (c:Int) (q:Nat):WR (Jdx (k+1) [.int c,.int q] h) λ v h'=>v=.str (wd c q)/\Ex h h':=by
 have hb:=Jc
 have hs:=w_at c
 have l8:(Int.natAbs 8).log2<9000:=by decide
 have l64:(Int.natAbs 64).log2<9000:=by decide
 rw[Jua]
 simp! [Jgb,Jlw,Jlx,show(0:Int)<8 by decide]
 rw[J5b (x:=Str.ofString "") (h1:=h) rfl J29]
 dsimp! [Jcw]
 have sz:wSz c=1+c%8:=rfl
 rw[<- sz]
 have X:=@J5s h h (iRg Jaq (Ja (eVar 3) aNil)) (Jbj k) [0,2] [some (.int c),some (.int q),some (.str "abcdefghijklmnopqrstuvwxyz"),some (.int (wSz c)),none,none] (rngI 0 (wSz c)) (λ _=>True) (lOf c)
  (by
   simp! [true_and]
   omega) (by rw[J2];omega) (λ _ _=>trivial) (by
   intro x hx h2 k2
   obtain⟨n,hn,rfl⟩:=List.mem_iff_getElem.mp hx
   rw[Jfn]
   rw[J2] at hn
   have hn8:n<8:=by omega
   have mf:Jbq (0+(n:Int)) (0+(n:Int)):=.inl (by omega)
   have sq:(0+(n:Int))*(0+(n:Int))<=49/\0<=(0+(n:Int))*(0+(n:Int)):=by
    obtain rfl|rfl|rfl|rfl|rfl|rfl|rfl|rfl:n=0∨n=1∨n=2∨n=3∨n=4∨n=5∨n=6∨n=7:=by omega
    all_goals decide
   have lsz:(Int.natAbs (11+(0+(n:Int))*(0+(n:Int)))).log2<9000:=Jqr (b:=60) (by omega) (by decide)
   have p3:=Int.emod_nonneg (c/(11+(0+(n:Int))*(0+(n:Int)))) (b:=26) (by decide)
   have p4:=Int.emod_lt_of_pos (c/(11+(0+(n:Int))*(0+(n:Int)))) (b:=26) (by decide)
   simp only[List.map_cons,List.map_nil,List.getElem?_cons_succ,List.getElem?_cons_zero,Option.join_some]
   simp! [Jbj,mf,lsz,Jsi p3 p4,show(0:Int)<26 by decide,show(0:Int)<11+(0+(n:Int))*(0+(n:Int)) by omega]
   exact⟨rfl,.refl _⟩)
 generalize Jr (iRg Jaq (Ja (eVar 3) aNil)) 1 [0,2] (gNm 0) Jao (Jbj k) [some (.int c),some (.int q),some (.str "abcdefghijklmnopqrstuvwxyz"),some (.int (wSz c)),none,none] h=rc at X ⊢
 obtain⟨g,ev⟩:=X
 have em:(rngI 0 (wSz c)).map (lOf c)=(wB c).map λ x=>IV.str ⟨#[x]⟩:=by
  rw[wB,List.map_map]
  refine List.ext_getElem (by rw[List.length_map,List.length_map,J2,List.length_range];omega) λ i h1 h2=>?_
  rw[List.getElem_map,Jfn,List.getElem_map,List.getElem_range]
  simp[lOf]
 rw[em] at ev
 have x1:Ex h (h++L3.IO.lst ((wB c).map λ x=>IV.str ⟨#[x]⟩)::g):=.cons _ _ _
 have g1:(h++L3.IO.lst ((wB c).map λ x=>IV.str ⟨#[x]⟩)::g)[h.length]?=some (.lst ((wB c).map λ x=>IV.str ⟨#[x]⟩)):=Jp
 generalize h++L3.IO.lst ((wB c).map λ x=>IV.str ⟨#[x]⟩)::g=h1 at ev x1 g1
 have bl:=J21 c
 have jn:Txt.join (Str.ofString "") (PyProof.Rows.signs ⟨(wB c).toArray⟩)=⟨(wB c).toArray⟩:=by rw[Jyb];exact(StrLaws.glued_eq_join _ _).trans (PyProof.Rows.join_nil_signs _)
 simp! [ev,J5d,g1,Jw9,J31 (show(wB c).length<=8 by omega),jn,Jly,Jlz,l8,l64,show(0:Int)<8 by decide,show(0:Int)<64 by decide,show(0:Int)<26 by decide,hs.1,Jz3]
 have ea:c/8%wSz c=wAt c:=rfl
 rw[ea]
 have p1:=Int.emod_nonneg (c/64+(q:Int)) (b:=26) (by decide)
 have p2:=Int.emod_lt_of_pos (c/64+(q:Int)) (b:=26) (by decide)
 have sl:(⟨(wB c).toArray⟩:Str).length=(wB c).length:=Jq7 _
 have s1:Txt.slice ⟨(wB c).toArray⟩ none (some (wAt c))=⟨((wB c).take (wAt c).toNat).toArray⟩:=by
  have:=beq_iff_eq.mp (PyProof.Rows.slice_closes_toL (x:=⟨(wB c).toArray⟩) (j:=wAt c) hs.2.2.1 (by rw[sl,bl];omega))
  rw[this]
  simp
 have s2:Txt.slice ⟨(wB c).toArray⟩ (some (wAt c+1)) none=⟨((wB c).drop ((wAt c).toNat+1)).toArray⟩:=by
  have:=beq_iff_eq.mp (PyProof.Rows.slice_closes_fromL (x:=⟨(wB c).toArray⟩) (i:=wAt c+1) (by omega) (by rw[sl,bl];omega) rfl)
  rw[this]
  have e1:(wAt c+1).toNat=(wAt c).toNat+1:=by omega
  rw[e1,List.take_of_length_le (by rw[List.length_drop];show _<=((⟨(wB c).toArray⟩:Str).length-(wAt c+1)).toNat;rw[sl];simp;omega)]
 rw[s1,s2,Jsi p1 p2]
 have one:(⟨#[97+((c/64+(q:Int))%26).toNat]⟩:Str)=⟨[97+((c/64+(q:Int))%26).toNat].toArray⟩:=rfl
 simp! [one,J43,Jq7,Jz3,s2,sl,List.length_take,List.length_append,List.length_cons,List.length_nil,List.length_drop]
 refine⟨by omega,by omega,by omega,by omega,?_⟩
 exact⟨rfl,x1⟩
end
theorem at_x {xs:List Int}{n:Nat}(hn:n<xs.length):∃x,atI (xs.map IV.int) (n:Int)=some (.int x) :=
 ⟨xs[n],J9 (by rw[List.getElem?_map,List.getElem?_eq_getElem hn];rfl)⟩
theorem Jpv {len:Int}{cand:List Hd}(hc:cand.length<=2) (each:∀a∈cand,IsNm a.1/\0<=a.2.1/\a.2.2<len) (tog:∀a b,cand=[a,b]->Tog b a):HsOk len (cand.filter λ a=>decide (a.2.1<a.2.2)):=by
 refine⟨Nat.le_trans (List.length_filter_le _ _) (by omega),λ a ha=>?_,λ m n hm hn=>?_⟩
 ·obtain⟨h1,h2⟩:=List.mem_filter.mp ha
  obtain⟨e1,e2,e3⟩:=each a h1
  exact⟨e1,e2,by simpa using h2,e3⟩
 ·have ln:=List.length_filter_le (λ a:Hd=>decide (a.2.1<a.2.2)) cand
  match cand,hc,tog,ln,hn with
  | [],_,_,ln,hn=>simp at hn
  | [a],_,_,ln,hn=>simp at ln;omega
  | [a,b],_,tog,ln,hn =>
   have e:[a,b].filter (λ a:Hd=>decide (a.2.1<a.2.2))=[a,b]:=by
    refine List.filter_eq_self.mpr λ x hx=>?_
    by_cases ea:a.2.1<a.2.2
    ·by_cases eb:b.2.1<b.2.2
     ·simp only[List.mem_cons,List.not_mem_nil,or_false] at hx
      rcases hx with rfl|rfl<;>simpa
     ·simp[ea,eb] at hn;omega
    ·by_cases eb:b.2.1<b.2.2<;>simp[ea,eb] at hn<;>omega
   have hm0:m=0/\n=1:=by
    rw[e] at hn
    simp at hn
    omega
   obtain⟨rfl,rfl⟩:=hm0
   simp only[e]
   exact tog a b rfl
section
variable {k:Nat}{h:IH}
theorem J1x {i:Nat}{ms:List Int}(hi:h[i]?=some (.lst (ms.map .int))) (hl:ms.length<64):Jlf (.ref i) h=.ok (.ref h.length) (h++[.lst ((Jn9 ms).map .int)]):=by
 dsimp only[Jlf]
 rw[hi]
 dsimp only
 rw[if_pos (by rw[List.length_map];exact hl)]
 unfold srtI
 rw[Jca]
theorem sort4 {ms:List Int}{len:Int}(hl:ms.length=4) (hm:∀x∈ms,0<=x/\x<len):∃p0 p1 p2 p3:Int,Jn9 ms=[p0,p1,p2,p3]/\0<=p0/\p0<=p1/\p1<=p2/\p2<=p3/\p3<len:=by
 have pw:=Jvm ms
 have l:(Jn9 ms).length=4:=by rw[Jn9,List.length_mergeSort];exact hl
 have mem:∀x∈Jn9 ms,0<=x/\x<len:=λ x hx=>hm x (List.mem_mergeSort.mp hx)
 match Jn9 ms,l,pw,mem with
 | [p0,p1,p2,p3],_,pw,mem =>
  simp only[List.pairwise_cons,List.mem_cons,List.not_mem_nil,or_false] at pw
  obtain⟨a,b,c,_⟩:=pw
  have m0:=mem p0 (by simp)
  have m3:=mem p3 (by simp)
  exact⟨p0,p1,p2,p3,rfl,m0.1,a p1 (.inl rfl),b p2 (.inl rfl),c p3 rfl,m3.2⟩
noncomputable def J50 (v:IV):Bool:=match v with
 | .tup [_,.int s,.int e]=>decide (s<e)
 | _=>false
theorem Jyf (cand:List Hd):(cand.map tupH).filter J50=(cand.filter λ a=>decide (a.2.1<a.2.2)).map tupH:=by
 rw[List.filter_map]
 rfl
noncomputable def way6 (one other:Str) (p0 p1 p2 p3:Int):Nat->List Hd
 | 0=>[]
 | 1=>[(one,p0,p3)]
 | 2=>[(one,p0,p3),(other,p1,p2)]
 | 3=>[(other,p1,p2),(one,p0,p3)]
 | 4=>[(one,p0,p1),(other,p2,p3)]
 | _=>[(one,p2,p3),(one,p0,p1)]
theorem J49 {one other:Str}{p0 p1 p2 p3 len:Int}(n:Nat) (h1:IsNm one) (h2:IsNm other) (ne:one≠other) (a0:0<=p0) (a1:p0<=p1) (a2:p1<=p2) (a3:p2<=p3) (a4:p3<len):HsOk len ((way6 one other p0 p1 p2 p3 n).filter λ a=>decide (a.2.1<a.2.2)):=by
 match n with
 | 0=>exact Jpv (by simp[way6]) (by simp[way6]) (by simp[way6])
 | 1 =>
  refine Jpv (by simp[way6]) (λ a ha=>?_) (by simp[way6])
  simp only[way6,List.mem_cons,List.not_mem_nil,or_false] at ha
  subst ha
  exact⟨h1,a0,a4⟩
 | 2 =>
  refine Jpv (by simp[way6]) (λ a ha=>?_) (λ a b e=>?_)
  ·simp only[way6,List.mem_cons,List.not_mem_nil,or_false] at ha
   rcases ha with rfl|rfl
   ·exact⟨h1,a0,a4⟩
   ·exact⟨h2,by show 0<=p1;omega,by show p2<len;omega⟩
  ·simp only[way6,List.cons.injEq,and_true] at e
   obtain⟨rfl,rfl⟩:=e
   exact .inr (.inr ⟨Ne.symm ne,.inl ⟨a1,a3⟩⟩)
 | 3 =>
  refine Jpv (by simp[way6]) (λ a ha=>?_) (λ a b e=>?_)
  ·simp only[way6,List.mem_cons,List.not_mem_nil,or_false] at ha
   rcases ha with rfl|rfl
   ·exact⟨h2,by show 0<=p1;omega,by show p2<len;omega⟩
   ·exact⟨h1,a0,a4⟩
  ·simp only[way6,List.cons.injEq,and_true] at e
   obtain⟨rfl,rfl⟩:=e
   exact .inr (.inr ⟨ne,.inr ⟨a1,a3⟩⟩)
 | 4 =>
  refine Jpv (by simp[way6]) (λ a ha=>?_) (λ a b e=>?_)
  ·simp only[way6,List.mem_cons,List.not_mem_nil,or_false] at ha
   rcases ha with rfl|rfl
   ·exact⟨h1,a0,by show p1<len;omega⟩
   ·exact⟨h2,by show 0<=p2;omega,a4⟩
  ·simp only[way6,List.cons.injEq,and_true] at e
   obtain⟨rfl,rfl⟩:=e
   exact .inr (.inl a2)
 | n+5 =>
  refine Jpv (by simp[way6]) (λ a ha=>?_) (λ a b e=>?_)
  ·simp only[way6,List.mem_cons,List.not_mem_nil,or_false] at ha
   rcases ha with rfl|rfl
   ·exact⟨h1,by show 0<=p2;omega,a4⟩
   ·exact⟨h1,a0,by show p1<len;omega⟩
  ·simp only[way6,List.cons.injEq,and_true] at e
   obtain⟨rfl,rfl⟩:=e
   exact .inl a2
theorem J3s {C:IH}{X O i0 i1 i2 i3 i4 i5:Nat}{xs:List Int}{one other:Str}{p0 p1 p2 p3 y6:Int}{a1 a2 a3 a4 a5:Option IV}(c0:C[i0]?=some (.lst [])) (c1:C[i1]?=some (.lst [tupH (one,p0,p3)])) (c2:C[i2]?=some (.lst [tupH (one,p0,p3),tupH (other,p1,p2)])) (c3:C[i3]?=some (.lst [tupH (other,p1,p2),tupH (one,p0,p3)]))
  (c4:C[i4]?=some (.lst [tupH (one,p0,p1),tupH (other,p2,p3)])) (c5:C[i5]?=some (.lst [tupH (one,p2,p3),tupH (one,p0,p1)])) (cO:C[O]?=some (.lst [.ref i0,.ref i1,.ref i2,.ref i3,.ref i4,.ref i5])) (hX:C[X]?=some (.lst (xs.map .int))) (e6:atI (xs.map IV.int) 6=some (.int y6)){N:ISt->IH->Prop} :
  WS (Jeo k [some (.ref X),a1,a2,a3,a4,a5,some (.ref O)] C) N λ v h'=>∃q n,v=.ref q/\C.length<=q/\h'[q]?=some (.lst (((way6 one other p0 p1 p2 p3 n).filter λ a=>decide (a.2.1<a.2.2)).map tupH))/\Ex C h':=by
 have hb:=Jc
 have pick:∃(n m:Nat),atI [IV.ref i0,IV.ref i1,IV.ref i2,IV.ref i3,IV.ref i4,IV.ref i5] (y6%6)=some (.ref m)/\C[m]?=some (.lst ((way6 one other p0 p1 p2 p3 n).map tupH)):=by
  have:y6%6=0∨y6%6=1∨y6%6=2∨y6%6=3∨y6%6=4∨y6%6=5:=by omega
  rcases this with e|e|e|e|e|e<;>rw[e]
  ·exact⟨0,i0,Jin,c0⟩
  ·exact⟨1,i1,Jio,c1⟩
  ·exact⟨2,i2,Jk0,c2⟩
  ·exact⟨3,i3,Joj,c3⟩
  ·exact⟨4,i4,Jtu,c4⟩
  ·exact⟨5,i5,J9 (n:=5) rfl,c5⟩
 obtain⟨n,m,em,gm⟩:=pick
 have ln:(way6 one other p0 p1 p2 p3 n).length<=2:=by
  match n with
  | 0=>simp[way6]
  | 1=>simp[way6]
  | 2=>simp[way6]
  | 3=>simp[way6]
  | 4=>simp[way6]
  | n+5=>simp[way6]
 simp! [Jeo]
 refine WR.mono (Jrd (h:=C) (xs:=(way6 one other p0 p1 p2 p3 n).map tupH) (chk:=λ h'=>h'[m]?=some (.lst ((way6 one other p0 p1 p2 p3 n).map tupH))) (p:=J50) (f:=λ v=>v) ?_ (by rw[List.length_map];omega) (λ h2 q=>q _ _ gm) ?_ ?_) ?_
 ·simp! [Jam,cO,hX,e6,show(0:Int)<6 by decide,em,Jba,gm]
 ·intro v hv h2 q
  obtain⟨a,_,rfl⟩:=List.mem_map.mp hv
  simp! [Jgg,tupH]
  exact⟨rfl,.refl _⟩
 ·intro v hv _ h2 q
  simp! [Jgf]
  exact .refl _
 ·rintro _ _ ⟨rfl,g,rfl⟩
  refine⟨_,n,rfl,Nat.le_refl _,?_,.cons _ _ _⟩
  rw[Jp,List.map_id',Jyf]
theorem J3r {C:IH}{X O Pp i0 i1 i2 i3:Nat}{xs:List Int}{one other:Str}{p0 p1 p2 p3 y6:Int}{a1 a2:Option IV}(c0:C[i0]?=some (.lst [])) (c1:C[i1]?=some (.lst [tupH (one,p0,p3)])) (c2:C[i2]?=some (.lst [tupH (one,p0,p3),tupH (other,p1,p2)])) (c3:C[i3]?=some (.lst [tupH (other,p1,p2),tupH (one,p0,p3)]))
  (cO:C[O]?=some (.lst [.ref i0,.ref i1,.ref i2,.ref i3])) (gP:C[Pp]?=some (.lst [.int p0,.int p1,.int p2,.int p3])) (hX:C[X]?=some (.lst (xs.map .int))) (e6:atI (xs.map IV.int) 6=some (.int y6)){N:ISt->IH->Prop} :
  WS (Jen k [some (.ref X),a1,a2,some (.ref Pp),some (.str one),some (.str other),some (.ref O)] C) N λ v h'=>∃q n,v=.ref q/\C.length<=q/\h'[q]?=some (.lst (((way6 one other p0 p1 p2 p3 n).filter λ a=>decide (a.2.1<a.2.2)).map tupH))/\Ex C h':=by
 have hb:=Jc
 have g1:∀a,(C++a)[Pp]?=some (.lst [.int p0,.int p1,.int p2,.int p3]):=λ a=>grow gP
 simp! [Jen,Jam,gP,g1,List.length_cons,List.length_nil,Jrc]
 refine⟨by omega,by omega,by omega,by omega,by omega,by omega,by omega,_,grow (grow (grow cO)),_,Jg,by simp;omega,?_⟩
 have xC:∀a b c d,Ex C (C++[a]++[b]++[c]++[d]):=λ a b c d=>(Ex.one _ _).trans ((Ex.one _ _).trans ((Ex.one _ _).trans (.one _ _)))
 refine WS.mono (J3s (k:=k) (p0:=p0) (p1:=p1) (p2:=p2) (p3:=p3) (one:=one) (other:=other) (N:=N) ((xC _ _ _ _).get c0) ((xC _ _ _ _).get c1) ((xC _ _ _ _).get c2) ((xC _ _ _ _).get c3) (grow (grow (grow Jg))) (grow (grow Jg)) Jg ((xC _ _ _ _).get hX) e6) (λ _ _ z=>z) ?_
 rintro v h' ⟨q,n,rfl,lq,gq,x'⟩
 refine⟨q,n,rfl,?_,gq,(xC _ _ _ _).trans x'⟩
 simp only[List.length_append,List.length_cons,List.length_nil] at lq
 omega
theorem J0p {X W:Nat}{xs:List Int}{ws:List Str}{len:Int}(hX:h[X]?=some (.lst (xs.map .int))) (lx:7<=xs.length) (hW:h[W]?=some (.lst (ws.map .str))) (lw:ws.length=3) (hw:∀x∈ws,IsNm x) (nd:ws.Nodup) (h1:1<=len) :
  WR (Jeb (k+1) [.ref X,.int len,.ref W] h) λ v h'=>∃q hs,v=.ref q/\h.length<=q/\h'[q]?=some (.lst (hs.map tupH))/\HsOk len hs/\Ex h h':=by
 have hb:=Jc
 rw[Jr7]
 simp! [Jem]
 refine WR.mono (Jab (h:=h++[L3.IO.lst ((xs.take 4).map IV.int)]) (xs:=(xs.take 4).map IV.int) (chk:=λ h'=>h'[h.length]?=some (.lst ((xs.take 4).map IV.int))) (f:=λ v=>match v with|.int x=>.int (x%len)|_=>.non) ?_ ?_ ?_ ?_) ?_
 ·simp! [Jto,hX]
  rw[show(some (4:Int))=some ((4:Nat):Int) from rfl,Ju7,<-List.map_take]
  simp only[Jba,Jg,exists_eq_left,exists_eq_left',IV.bl.injEq,IV.int.injEq,IV.ref.injEq,IV.str.injEq,IO.lst.injEq,IV.tup.injEq,Option.some.injEq,Bool.not_true,Bool.not_false,reduceCtorEq,eq_self,true_implies,false_implies,implies_true,and_true,true_and,and_false,false_and,Option.bind_some,Bool.true_eq_false,Bool.false_eq_true,Jp4,Jlh,Jp5,Jxc,Jp2,Jp3,Jhi,Jc8,Ji6,Jch,Jb2,Ji7,Jog,Jp7,Jin,Jio,Jk0,Joj,Jtu,Jlm,Jlk,Jll]
 ·rw[List.length_map,List.length_take];omega
 ·exact λ h2 q=>q _ _ Jg
 ·intro v hv h2 q
  obtain⟨x,hx,rfl⟩:=List.mem_map.mp hv
  simp only[List.map_cons,List.map_nil,List.getElem?_cons_succ,List.getElem?_cons_zero,Option.join_some]
  simp! [Jge,show(0:Int)<len by omega]
  exact .refl _
 ·rintro _ _ ⟨rfl,g,rfl⟩
  have em:((xs.take 4).map IV.int).map (λ v=>match v with|.int x=>IV.int (x%len)|_=>IV.non)=((xs.take 4).map (· %len)).map IV.int:=by
   rw[List.map_map,List.map_map]
   rfl
  rw[em]
  obtain⟨p0,p1,p2,p3,es,a0,a1,a2,a3,a4⟩:=sort4 (ms:=(xs.take 4).map (· %len)) (len:=len) (by rw[List.length_map,List.length_take];omega) λ x hx=>by
   obtain⟨y,_,rfl⟩:=List.mem_map.mp hx
   exact⟨Int.emod_nonneg _ (by omega),Int.emod_lt_of_pos _ (by omega)⟩
  generalize hh1:h++[L3.IO.lst ((xs.take 4).map IV.int)]=hA
  have xA:Ex h hA:=by rw[<- hh1];exact .one _ _
  rw[J1x (ms:=(xs.take 4).map (· %len)) Jp (by rw[List.length_map,List.length_take];omega),es]
  dsimp! [Jcw]
  have xB:Ex hA (hA++L3.IO.lst (((xs.take 4).map (· %len)).map IV.int)::g++[L3.IO.lst ([p0,p1,p2,p3].map IV.int)]):=(Ex.cons _ _ _).trans (.one _ _)
  have gP:(hA++L3.IO.lst (((xs.take 4).map (· %len)).map IV.int)::g++[L3.IO.lst ([p0,p1,p2,p3].map IV.int)])[(hA++L3.IO.lst (((xs.take 4).map (· %len)).map IV.int)::g).length]?=some (.lst ([p0,p1,p2,p3].map IV.int)):=Jg
  have lP:h.length<=(hA++L3.IO.lst (((xs.take 4).map (· %len)).map IV.int)::g).length:=by have:=xA.len;rw[List.length_append];omega
  generalize (hA++L3.IO.lst (((xs.take 4).map (· %len)).map IV.int)::g).length=Pp at gP lP ⊢
  generalize hA++L3.IO.lst (((xs.take 4).map (· %len)).map IV.int)::g++[L3.IO.lst ([p0,p1,p2,p3].map IV.int)]=hB at xB gP ⊢
  have xh:=xA.trans xB
  simp only[List.map_cons,List.map_nil] at gP
  have hX2:=xh.get hX
  have hW2:=xh.get hW
  obtain⟨y4,e4⟩:=at_x (xs:=xs) (n:=4) (by omega)
  obtain⟨y5,e5⟩:=at_x (xs:=xs) (n:=5) (by omega)
  obtain⟨y6,e6⟩:=at_x (xs:=xs) (n:=6) (by omega)
  have e4:atI (xs.map IV.int) 4=some (.int y4):=e4
  have e5:atI (xs.map IV.int) 5=some (.int y5):=e5
  have e6:atI (xs.map IV.int) 6=some (.int y6):=e6
  obtain⟨i,hi⟩:∃i:Nat,y4%3=i:=⟨(y4%3).toNat,by omega⟩
  obtain⟨j,hj⟩:∃j:Nat,(y4+1+y5%2)%3=j:=⟨((y4+1+y5%2)%3).toNat,by omega⟩
  have hi3:i<ws.length:=by omega
  have hj3:j<ws.length:=by omega
  have hij:i≠j:=by omega
  have aw:∀n (hn:n<ws.length),atI (ws.map IV.str) (n:Int)=some (.str ws[n]):=λ n hn=>J9 (by rw[List.getElem?_map,List.getElem?_eq_getElem hn];rfl)
  simp! [Jjl,Jjm,Jam,hX2,hW2,e4,e5,show(0:Int)<3 by decide,show(0:Int)<2 by decide,hi,hj,aw i hi3,aw j hj3]
  have n1:=hw _ (List.getElem_mem hi3)
  have n2:=hw _ (List.getElem_mem hj3)
  have ne:ws[i]≠ws[j]:=λ e=>hij ((List.getElem_inj nd).mp e)
  generalize ws[i]=one at n1 ne
  generalize ws[j]=other at n2 ne
  have wok:=λ n=>J49 (len:=len) n n1 n2 ne a0 a1 a2 a3 a4
  have g1:∀a,(hB++a)[Pp]?=some (.lst [.int p0,.int p1,.int p2,.int p3]):=λ a=>grow gP
  have g2:∀a b,(hB++a++b)[Pp]?=some (.lst [.int p0,.int p1,.int p2,.int p3]):=λ a b=>grow (g1 a)
  have g3:∀a b c,(hB++a++b++c)[Pp]?=some (.lst [.int p0,.int p1,.int p2,.int p3]):=λ a b c=>grow (g2 a b)
  simp! [Jjn,Jam,gP,g1,g2,g3,List.length_cons,List.length_nil]
  refine⟨by omega,by omega,by omega,by omega,by omega,by omega,by omega,by omega,by omega,by omega,?_⟩
  have xC:∀a b c d e,Ex hB (hB++[a]++[b]++[c]++[d]++[e]):=λ a b c d e=>(Ex.one _ _).trans ((Ex.one _ _).trans ((Ex.one _ _).trans ((Ex.one _ _).trans (.one _ _))))
  refine WS.mono (J3r (k:=k) (p0:=p0) (p1:=p1) (p2:=p2) (p3:=p3) (one:=one) (other:=other) (N:=λ _ _=>False) (grow (grow (grow (grow Jg)))) (grow (grow (grow Jg))) (grow (grow Jg)) (grow Jg) Jg ((xC _ _ _ _ _).get gP) ((xC _ _ _ _ _).get hX2) e6) ?_ ?_
  ·exact λ _ _ z=>z.elim
  ·rintro v h' ⟨q,n,rfl,lq,gq,x'⟩
   have:=xh.len
   have l2:=(xC (L3.IO.lst []) (L3.IO.lst []) (L3.IO.lst []) (L3.IO.lst []) (L3.IO.lst [])).len
   refine⟨q,_,rfl,?_,gq,wok n,xh.trans ((xC _ _ _ _ _).trans x')⟩
   simp only[List.length_append,List.length_cons,List.length_nil] at lq
   omega
end
noncomputable abbrev tp5 (r:RH) (q:Nat):List IV:=[.int r.1.gap,.int r.1.len,.int r.1.due,.int r.1.late,.ref q]
structure F7 (unit:Int) (r:RH):Prop where
 g1:unit<=r.1.gap
 g2:r.1.gap<8*unit
 l1:1<=r.1.len
 l2:r.1.len<=r.1.gap
 d1:1<=r.1.due
 d2:r.1.due<=r.1.gap
 t1:0<=r.1.late
 t2:r.1.late<=3*r.1.gap/2
 ok:HsOk r.1.len r.2
theorem J41 {ws:List Str}(hw:∀x∈ws,IsNm x):PyData.canLayAll0 (ws.map PyData.str)=true:=by
 induction ws with
 | nil=>rfl
 | cons x xs ih =>
  have q:=hw x (List.mem_cons_self ..)
  have e:PyData.canLay0 (.str x)=true:=by
   simp only[PyData.canLay0]
   unfold PyData.strOk
   rw[<- Array.all_toList,List.all_eq_true]
   intro c hc
   have:=q.2.2 c hc
   simp only[decide_eq_true_eq]
   omega
  rw[List.map_cons,PyData.canLayAll0,e,ih λ y hy=>hw y (List.mem_cons_of_mem _ hy)]
  rfl
section
variable {k:Nat}{h:IH}
theorem J5f (i j:Int){Q:IV->IH->Prop}:WR (maxI (.int i) (.int j) h) Q=Q (.int (if j>i then j else i)) h:=rfl
theorem Juz {W j:Nat}{ws:List Str}(hW:h[W]?=some (.lst (ws.map .str))) (hw:∀x∈ws,IsNm x) (hj:h[j]?=some (.lst [])):cNe (.ref W) (.ref j) h=.ok (.bl (!ws.isEmpty)) h:=by
 have e1:toD h 6 (.ref W)=some (.list (ws.map PyData.str)):=by
  rw[Jgx hW,Jug (g:=λ v=>match v with|.str x=>.str x|_=>.none) λ x hx=>?_]
  ·simp
  ·obtain⟨y,_,rfl⟩:=List.mem_map.mp hx
   rfl
 have e2:toD h 6 (.ref j)=some (.list []):=by
  rw[Jgx hj]
  rfl
 have e3:Jiv (.ref W) (.ref j) h=some ws.isEmpty:=by
  unfold Jiv
  rw[e1,e2]
  dsimp only
  rw[if_pos ⟨by rw[PyData.canLay0];exact J41 hw,by rw[PyData.canLay0,PyData.canLayAll0]⟩,PyData.eqv]
  cases ws with
  | nil=>rw[List.map_nil,PyData.eqvAll];rfl
  | cons a as=>rw[List.map_cons,PyData.eqvAll];rfl;all_goals intros;simp_all
 unfold cNe
 have e4:Jku (.ref W) (.ref j)=none:=rfl
 rw[e4]
 dsimp only
 rw[e3]
theorem J1j {c unit:Int}{W:Nat}{ws:List Str}(hu:1<=unit) (hu2:unit<=10^40) (hW:h[W]?=some (.lst (ws.map .str))) (hw:∀x∈ws,IsNm x) (nd:ws.Nodup) (lw:ws=[]∨ws.length=3) :
  WR (Jed (k+2) [.int c,.int unit,.ref W] h) λ v h'=>Ex h h'/\∃r q,F7 unit r/\v=.tup (tp5 r q)/\h.length<=q/\h'[q]?=some (.lst (r.2.map tupH))/\(ws=[]->r.2=[]):=by
 have hb:=Jc
 rw[Jr9]
 simp! [Jes]
 refine WR.mono (Joc (k:=k) (h:=h) c 15 (by decide)) ?_
 rintro _ h1 ⟨i,xs,rfl,_,hi,lx,hx,x1⟩
 have hx0:∀x∈xs,0<=x:=λ x q=>(hx x q).1
 clear hx
 have at_:∀n:Nat,n<15->∃x,0<=x/\atI (xs.map IV.int) (n:Int)=some (.int x):=λ n hn=>⟨xs[n],hx0 _ (List.getElem_mem _),J9 (by rw[List.getElem?_map,List.getElem?_eq_getElem (by omega)];rfl)⟩
 obtain⟨y0,z0,e0⟩:=at_ 0 (by decide)
 obtain⟨y1,z1,e1⟩:=at_ 1 (by decide)
 obtain⟨y2,z2,e2⟩:=at_ 2 (by decide)
 obtain⟨y3,z3,e3⟩:=at_ 3 (by decide)
 obtain⟨y4,z4,e4⟩:=at_ 4 (by decide)
 obtain⟨y5,z5,e5⟩:=at_ 5 (by decide)
 obtain⟨y6,z6,e6⟩:=at_ 6 (by decide)
 obtain⟨y7,z7,e7⟩:=at_ 7 (by decide)
 have e0:atI (xs.map IV.int) 0=some (.int y0):=e0
 have e1:atI (xs.map IV.int) 1=some (.int y1):=e1
 have e2:atI (xs.map IV.int) 2=some (.int y2):=e2
 have e3:atI (xs.map IV.int) 3=some (.int y3):=e3
 have e4:atI (xs.map IV.int) 4=some (.int y4):=e4
 have e5:atI (xs.map IV.int) 5=some (.int y5):=e5
 have e6:atI (xs.map IV.int) 6=some (.int y6):=e6
 have e7:atI (xs.map IV.int) 7=some (.int y7):=e7
 clear at_ hx0
 have l2:(Int.natAbs 2).log2<9000:=by decide
 have l3:(Int.natAbs 3).log2<9000:=by decide
 have m1:Jbq unit (1+y0%7):=.inr (.inl (by omega))
 have b1:unit*1<=unit*(1+y0%7):=Int.mul_le_mul_of_nonneg_left (by omega) (by omega)
 have b2:unit*(1+y0%7)<=unit*7:=Int.mul_le_mul_of_nonneg_left (by omega) (by omega)
 have b3:=Int.emod_nonneg y1 (b:=1+unit/2) (by omega)
 have b4:=Int.emod_lt_of_pos y1 (b:=1+unit/2) (by omega)
 simp! [Jjp,Jam,hi,e0,e1,m1,l2,show(0:Int)<7 by decide,show(0:Int)<2 by decide,show(0:Int)<1+unit/2 by omega]
 obtain⟨g,eg,g1,g2⟩:∃g,unit*(1+y0%7)+y1%(1+unit/2)=g/\unit<=g/\g<8*unit:=⟨_,rfl,by omega,by omega⟩
 rw[eg]
 clear eg b1 b2 b3 b4 m1
 have pg':(0:Int)<g:=by omega
 have d1:=Int.emod_nonneg y2 (b:=g) (by omega)
 have d2:=Int.emod_lt_of_pos y2 pg'
 obtain⟨dd,ed,dd1,dd2⟩:∃x:Int,atI [IV.int 0,IV.int (y2%g)] (y3%2)=some (.int x)/\0<=x/\x<g:=by
  have:y3%2=0∨y3%2=1:=by omega
  rcases this with q|q<;>rw[q]
  ·exact⟨_,Jin,by omega,by omega⟩
  ·exact⟨_,Jio,by omega,by omega⟩
 simp! [Jjq,Jam,hi,e2,e3,pg',Jg,grow hi,show(0:Int)<2 by decide,List.length_cons,List.length_nil]
 refine⟨by omega,_,ed,?_⟩
 simp_all! [true_and]
 have xA:Ex h1 (h1++[L3.IO.lst [IV.int 0,IV.int (y2%g)]]):=.one _ _
 generalize h1++[L3.IO.lst [IV.int 0,IV.int (y2%g)]]=hA at xA ⊢
 have hiA:=xA.get hi
 have m3:Jbq 3 g:=.inl (by decide)
 have t1:=Int.emod_nonneg y4 (b:=1+g/3) (by omega)
 have t2:=Int.emod_lt_of_pos y4 (b:=1+g/3) (by omega)
 have t3:=Int.emod_nonneg y4 (b:=1+3*g/2) (by omega)
 have t4:=Int.emod_lt_of_pos y4 (b:=1+3*g/2) (by omega)
 obtain⟨lt,el,lt1,lt2⟩:∃x:Int,atI [IV.int 0,IV.int 0,IV.int (y4%(1+g/3)),IV.int (y4%(1+3*g/2))] (y5%4)=some (.int x)/\0<=x/\x<=3*g/2:=by
  have:y5%4=0∨y5%4=1∨y5%4=2∨y5%4=3:=by omega
  rcases this with q|q|q|q<;>rw[q]
  ·exact⟨_,Jin,by omega,by omega⟩
  ·exact⟨_,Jio,by omega,by omega⟩
  ·exact⟨_,Jk0,by omega,by omega⟩
  ·exact⟨_,Joj,by omega,by omega⟩
 simp! [Jjr,Jam,hiA,e4,e5,m3,l2,l3,Jg,grow hiA,show(0:Int)<1+g/3 by omega,show(0:Int)<1+3*g/2 by omega,show(0:Int)<3 by decide,show(0:Int)<2 by decide,show(0:Int)<4 by decide,List.length_cons,List.length_nil]
 refine⟨by omega,_,el,?_⟩
 simp_all! [true_and]
 have xB:Ex hA (hA++[L3.IO.lst [IV.int 0,IV.int 0,IV.int (y4%(1+g/3)),IV.int (y4%(1+3*g/2))]]):=.one _ _
 generalize hA++[L3.IO.lst [IV.int 0,IV.int 0,IV.int (y4%(1+g/3)),IV.int (y4%(1+3*g/2))]]=hB at xB ⊢
 have hiB:=xB.get hiA
 obtain⟨dv,ev,dv1,dv2⟩:∃x:Int,atI [IV.int 1,IV.int 2,IV.int 4,IV.int 9] (y7%4)=some (.int x)/\0<x/\x<=9:=by
  have:y7%4=0∨y7%4=1∨y7%4=2∨y7%4=3:=by omega
  rcases this with q|q|q|q<;>rw[q]
  ·exact⟨_,Jin,by omega,by omega⟩
  ·exact⟨_,Jio,by omega,by omega⟩
  ·exact⟨_,Jk0,by omega,by omega⟩
  ·exact⟨_,Joj,by omega,by omega⟩
 simp! [Jjs,Jam,hiB,e6,e7,Jg,grow hiB,show(0:Int)<4 by decide,List.length_cons,List.length_nil]
 refine⟨by omega,_,ev,?_⟩
 have ld:dv.natAbs.log2<9000:=Jqr (b:=9) (by omega) (by decide)
 simp! [ld,dv1,J78,J5f]
 obtain⟨M,eM,M1,M2⟩:∃M:Int,(if g/dv>1 then g/dv else 1)=M/\1<=M/\M<=g:=by
  have:g/dv<=g:=Int.ediv_le_self _ (by omega)
  split
  ·exact⟨_,rfl,by omega,this⟩
  ·exact⟨_,rfl,by omega,by omega⟩
 rw[eM]
 have s1:=Int.emod_nonneg y6 (b:=M) (by omega)
 have s2:=Int.emod_lt_of_pos y6 (b:=M) (by omega)
 refine⟨by omega,?_⟩
 generalize hlen:1+y6%M=len
 have xC:Ex hB (hB++[L3.IO.lst [IV.int 1,IV.int 2,IV.int 4,IV.int 9]]):=.one _ _
 generalize hB++[L3.IO.lst [IV.int 1,IV.int 2,IV.int 4,IV.int 9]]=hC at xC ⊢
 have x1C:=((x1.trans xA).trans xB).trans xC
 have lC:=x1C.len
 have hiC:=(xB.trans xC).get hiA
 have xD:Ex hC (hC++[L3.IO.lst []]++[L3.IO.lst []]):=(Ex.one _ _).trans (.one _ _)
 have gD:(hC++[L3.IO.lst []]++[L3.IO.lst []])[(hC++[L3.IO.lst []]).length]?=some (.lst []):=Jg
 have gE:(hC++[L3.IO.lst []]++[L3.IO.lst []])[hC.length]?=some (.lst []):=grow Jg
 have base:∀hs:List Hd,HsOk len hs->F7 unit (⟨⟨⟨#[]⟩,g,len,g-dd,lt⟩,hs⟩:RH):=λ hs ok=>⟨g1,g2,by show 1<=len;omega,by show len<=g;omega,by show 1<=g-dd;omega,by show g-dd<=g;omega,lt1,lt2,ok⟩
 simp! [Jjt,Jju,List.length_nil,Nat.zero_le,Juz (xD.get (x1C.get hW)) hw gD]
 rcases lw with rfl|lw
 ·simp! [List.isEmpty_nil,Jet,List.length_cons,List.length_nil]
  have ok0:HsOk len []:=⟨by simp,by simp,λ m n hm hn=>absurd hn (by simp)⟩
  first
  | exact⟨by omega,x1C.trans xD,⟨⟨⟨#[]⟩,g,len,g-dd,lt⟩,[]⟩,_,base [] ok0,rfl,by omega,gE,rfl⟩
  | exact⟨by omega,x1C.trans xD,⟨⟨#[]⟩,g,len,g-dd,lt⟩,[],_,base [] ok0,rfl,by omega,gE,rfl⟩
 ·have ne:ws.isEmpty=false:=by cases ws with|nil=>simp at lw|cons _ _=>rfl
  simp! [ne,Jto,xD.get hiC]
  rw[show(some (8:Int))=some ((8:Nat):Int) from rfl,Jqg,<-List.map_drop]
  have xE:Ex (hC++[L3.IO.lst []]++[L3.IO.lst []]) (hC++[L3.IO.lst []]++[L3.IO.lst []]++[L3.IO.lst ((xs.drop 8).map IV.int)]):=.one _ _
  refine WR.mono (J0p (k:=k) Jg (by rw[List.length_drop];omega) (xE.get (xD.get (x1C.get hW))) lw hw nd (by omega)) ?_
  rintro _ h3 ⟨q,hs,rfl,hq,gq,ok,x3⟩
  simp! [Jet,List.length_cons,List.length_nil]
  have l1:=(xD.trans xE).len
  first
  | exact⟨by omega,(x1C.trans (xD.trans xE)).trans x3,⟨⟨⟨#[]⟩,g,len,g-dd,lt⟩,hs⟩,q,base hs ok,rfl,by omega,gq,λ e=>by rw[e] at ne;cases ne⟩
  | exact⟨by omega,(x1C.trans (xD.trans xE)).trans x3,⟨⟨#[]⟩,g,len,g-dd,lt⟩,hs,q,base hs ok,rfl,by omega,gq,λ e=>by rw[e] at ne;cases ne⟩
end
noncomputable abbrev tp6 (r:RH) (q:Nat):IV:=.tup (.str r.1.name::tp5 r q)
structure RowT (h:IH) (lo:Nat) (ys:List IV) (rs:List RH):Prop where
 len:ys.length=rs.length
 at_:∀(i:Nat) y r,ys[i]?=some y->rs[i]?=some r->∃q,y=tp6 r q/\q≠lo/\h[q]?=some (.lst (r.2.map tupH))
theorem RowT.kpb {h h':IH}{lo:Nat}{ys:List IV}{rs:List RH}(k:KpB lo h h') (w:RowT h lo ys rs):RowT h' lo ys rs:=⟨w.len,λ i y r a b=>let ⟨q,e,n,g⟩:=w.at_ i y r a b;⟨q,e,n,k _ _ n g⟩⟩
theorem RowT.kp {h h':IH}{lo:Nat}{ys:List IV}{rs:List RH}(k:Kp h h') (w:RowT h lo ys rs):RowT h' lo ys rs:=w.kpb λ _ _ _ q=>k _ _ q
theorem RowT.get {h:IH}{lo:Nat}{ys:List IV}{rs:List RH}(w:RowT h lo ys rs){n:Nat}{r:RH}(e:rs[n]?=some r):∃q,ys[n]?=some (tp6 r q)/\h[q]?=some (.lst (r.2.map tupH)):=by
 have hn:n<ys.length:=by rw[w.len];exact(List.getElem?_eq_some_iff.mp e).1
 obtain⟨q,e1,_,g⟩:=w.at_ n _ r (List.getElem?_eq_getElem hn) e
 exact⟨q,by rw[List.getElem?_eq_getElem hn,e1],g⟩
theorem RowT.snoc {h:IH}{lo q:Nat}{ys:List IV}{rs:List RH}{r:RH}(w:RowT h lo ys rs) (n:q≠lo) (g:h[q]?=some (.lst (r.2.map tupH))):RowT h lo (ys++[tp6 r q]) (rs++[r]):=by
 have wl:=w.len
 refine⟨by simp[wl],λ i y s a b=>?_⟩
 by_cases hi:i<ys.length
 ·rw[List.getElem?_append_left hi] at a
  rw[List.getElem?_append_left (by omega)] at b
  exact w.at_ i y s a b
 ·have li:=(List.getElem?_eq_some_iff.mp a).1
  rw[List.length_append,List.length_singleton] at li
  obtain rfl:i=ys.length:=by omega
  rw[List.getElem?_append_right (Nat.le_refl _),Nat.sub_self] at a
  rw[wl,List.getElem?_append_right (Nat.le_refl _),Nat.sub_self] at b
  cases a
  cases b
  exact⟨q,rfl,n,g⟩
structure Dr (c unit:Int) (rs:List RH):Prop where
 u1:1<=unit
 u2:unit<=10^40
 f:∀r∈rs,F7 unit r
 nm:(rs.map λ r=>r.1.name)=(List.range rs.length).map (wd c)
theorem F7.to8 {unit:Int}{r:RH}(f:F7 unit r) (hu:1<=unit) (hn:IsNm r.1.name):F8 unit r:=by
 have g1:=f.g1
 have g2:=f.g2
 have t2:=f.t2
 exact⟨hn,f.g1,by omega,f.l1,f.d1,f.d2,f.t1,by omega,f.ok⟩
theorem Dr.gd {c unit:Int}{rs:List RH}(D:Dr c unit rs) (hl:rs.length<=7):Gd unit rs:=by
 refine⟨D.u1,D.u2,hl,λ r hr=>(D.f r hr).to8 D.u1 ?_,?_⟩
 ·have:r.1.name∈(List.range rs.length).map (wd c):=by rw[<- D.nm];exact List.mem_map_of_mem hr
  obtain⟨j,_,e⟩:=List.mem_map.mp this
  rw[<- e]
  exact Jzt c j
 ·rw[D.nm,List.Nodup,List.pairwise_map]
  refine(List.nodup_range (n:=rs.length)).imp_of_mem λ {a b} ha hb hne e=>hne ?_
  exact J23 (by have:=List.mem_range.mp ha;omega) (by have:=List.mem_range.mp hb;omega) e
noncomputable def SQ (h:IH) (held:Bool) (v:IV) (h':IH):Prop:=Ex h h'/\∃S lo ys rs c unit,v=.ref S/\h.length<=S/\h'[S]?=some (.lst ys)/\RowT h' lo ys rs/\Dr c unit rs/\rs.length<=5/\(held=false->∀r∈rs,r.2=[])
noncomputable def wOf (c:Int) (v:IV):IV:=match v with
 | .int q=>.str (wd c q.toNat)
 | _=>.non
section
variable {k:Nat}{h:IH}
theorem J42 (ns:List Int) (held:Bool):WR (Jg4 (k+4) [.rol (ns.map .int),.bl held] h) (SQ h held):=by
 have hb:=Jc
 rw[Jt9]
 have c0:=λ (h:IH)=>Jnd (k:=k+2) (h:=h) ns 0 (by decide)
 have c1:=λ (h:IH)=>Jnd (k:=k+2) (h:=h) ns 1 (by decide)
 generalize ns.getD (Int.toNat 0) 0=x0 at c0
 generalize ns.getD (Int.toNat 1) 0=x1 at c1
 have t15:Int.toNat 15=15:=rfl
 have t40:Int.toNat 40=40:=rfl
 have l4:(Int.natAbs 4).log2<9000:=by decide
 have l5:(Int.natAbs 5).log2<9000:=by decide
 have l7:(Int.natAbs 7).log2<9000:=by decide
 have w15:(0:Int)<=15/\(15:Int)<=1000000/\Int.natAbs 10<2^64:=by decide
 have w40:(0:Int)<=40/\(40:Int)<=1000000/\Int.natAbs 10<2^64:=by decide
 simp! [Jf6,Jlr,c0,t15,t40,l4,w15,w40,Jam,Jg,show(0:Int)<4 by decide,List.length_cons,List.length_nil]
 have p15:(0:Int)<10^15:=by decide
 have p40:(10:Int)^15<=10^40:=by decide +kernel
 have p4:(4:Int)<=10^40:=by decide +kernel
 obtain⟨U,eU,U1,U2⟩:∃U:Int,atI [IV.int 4,IV.int (10^15),IV.int (10^15),IV.int (10^40)] (x0%4)=some (.int U)/\0<U/\U<=10^40:=by
  have:x0%4=0∨x0%4=1∨x0%4=2∨x0%4=3:=by omega
  rcases this with q|q|q|q<;>rw[q]
  ·exact⟨_,Jin,by decide,p4⟩
  ·exact⟨_,Jio,p15,p40⟩
  ·exact⟨_,Jk0,p15,p40⟩
  ·exact⟨_,Joj,by decide +kernel,Int.le_refl _⟩
 refine⟨by omega,_,eU,?_⟩
 have u0:=Int.emod_nonneg (x0/4) (b:=U) (by omega)
 have u1:=Int.emod_lt_of_pos (x0/4) U1
 simp! [U1,Jls,Jlt,c1,List.length_nil,Nat.zero_le]
 generalize hu:1+x0/4%U=unit
 have hu1:1<=unit:=by omega
 have hu2:unit<=10^40:=by
  clear eU c0 c1 p40 p4
  generalize (10:Int)^40=y at *
  omega
 have xA:Ex h (h++[L3.IO.lst [IV.int 4,IV.int (10^15),IV.int (10^15),IV.int (10^40)]]++[L3.IO.lst []]):=(Ex.one _ _).trans (.one _ _)
 have gA:(h++[L3.IO.lst [IV.int 4,IV.int (10^15),IV.int (10^15),IV.int (10^40)]]++[L3.IO.lst []])[(h++[L3.IO.lst [IV.int 4,IV.int (10^15),IV.int (10^15),IV.int (10^40)]]).length]?=some (.lst []):=Jg
 generalize (h++[L3.IO.lst [IV.int 4,IV.int (10^15),IV.int (10^15),IV.int (10^40)]]).length=A at gA ⊢
 generalize h++[L3.IO.lst [IV.int 4,IV.int (10^15),IV.int (10^15),IV.int (10^40)]]++[L3.IO.lst []]=hA at xA gA ⊢
 clear eU p15 p40 p4 u0 u1 hu
 -- the loop, with the words
 have loop:∀(hB:IH) (W:Nat) (ws:List Str),Ex h hB->hB[W]?=some (.lst (ws.map .str))->(∀x∈ws,IsNm x)->ws.Nodup->(ws=[]∨ws.length=3)->(held=false->ws=[])->∀N:ISt->IH->Prop,
   WS (Jf8 (k+3) [some (.rol (ns.map .int)),some (.bl held),some (.int x0),some (.int unit),some (.int x1),some (.ref W),none,none,none] hB) N (SQ h held):=by
  intro hB W ws xB gW hw nd lw hh N
  simp! [Jf8,Jlu,List.length_nil,Nat.zero_le,show(0:Int)<6 by decide]
  refine⟨by omega,?_⟩
  refine Jbw (λ n σ h'=>∃ys rs g a b,h'=hB++.lst ys::g/\σ=[some (.rol (ns.map .int)),some (.bl held),some (.int x0),some (.int unit),some (.int x1),some (.ref W),some (.ref hB.length),a,b]/\RowT h' hB.length ys rs/\rs.length=n/\Dr (x1/7) unit rs/\(held=false->∀r∈rs,r.2=[]))
   (λ _ _ _ _=>trivial) ?_ ?_ ⟨[],[],[],none,none,rfl,rfl,⟨rfl,λ i y r a b=>by simp at a⟩,rfl,⟨hu1,hu2,by simp,rfl⟩,by simp⟩
  ·rintro n hn _ _ ⟨ys,rs,g,a,b,rfl,rfl,w,ln,D,hr⟩
   rw[Jfn]
   rw[J2] at hn
   have hn6:n<6:=by omega
   have cc:=λ (h:IH)=>Jnd (k:=k+2) (h:=h) ns (2+(0+(n:Int))) (by omega)
   generalize ns.getD (2+(0+(n:Int))).toNat 0=y at cc
   have m7:Jbq 7 (0+(n:Int)):=.inl (by decide)
   have gW':(hB++L3.IO.lst ys::g)[W]?=some (.lst (ws.map .str)):=grow gW
   simp! [Jkn,cc,m7]
   refine WR.mono (J1j (k:=k+1) hu1 hu2 gW' hw nd lw) ?_
   rintro _ h3 ⟨⟨g3,rfl⟩,r,q,f,rfl,hq,gq,hz⟩
   have e3:hB++L3.IO.lst ys::g++g3=hB++L3.IO.lst ys::(g++g3):=by simp
   rw[Jrf (i:=hB.length) (h1:=hB++L3.IO.lst ys::g++g3) rfl (by rw[e3];exact Jp) Jj3]
   simp! [l7,show(0:Int)<7 by decide]
   rw[show(0+(n:Int))=(n:Int) by omega]
   refine WR.mono (Jzu (k:=k+2) (x1/7) n) ?_
   rintro _ _ ⟨rfl,g4,rfl⟩
   have e4:hB++L3.IO.lst ys::g++g3++g4=hB++L3.IO.lst ys::(g++g3++g4):=by simp
   have kB:KpB hB.length (hB++L3.IO.lst ys::g) (hB++L3.IO.lst ys::(g++g3++g4)):=λ j o _ z=>by rw[<- e4];exact grow (grow z)
   have w4:=w.kpb kB
   have gq4:(hB++L3.IO.lst ys::(g++g3++g4))[q]?=some (.lst (r.2.map tupH)):=by rw[<- e4];exact grow gq
   have hq':q≠hB.length:=by rw[List.length_append,List.length_cons] at hq;omega
   have ly:ys.length<=6:=by have:=w.len;omega
   rw[e4]
   simp only[Jo]
   rw[if_pos ⟨by simp,by simp,by simp;omega⟩]
   simp! [Jkw,Jp,Ji1,List.length_cons,List.length_nil]
   refine⟨by omega,by omega,ys++[tp6 ⟨{ r.1 with name:=wd (x1/7) n },r.2⟩ q],rs++[⟨{ r.1 with name:=wd (x1/7) n },r.2⟩],g++g3++g4,_,_,rfl,rfl,?_,by simp[ln],⟨hu1,hu2,?_,?_⟩,?_⟩
   ·have kC:KpB hB.length (hB++L3.IO.lst ys::(g++g3++g4)) (hB++L3.IO.lst (ys++[tp6 ⟨{ r.1 with name:=wd (x1/7) n },r.2⟩ q])::(g++g3++g4)):=λ j o hj z=>by
     rw[<- Ji1 (L3.IO.lst ys),List.getElem?_set_ne (Ne.symm hj)]
     exact z
    exact(w4.kpb kC).snoc hq' (kC _ _ hq' gq4)
   ·intro s hs
    rw[List.mem_append,List.mem_singleton] at hs
    rcases hs with hs|rfl
    ·exact D.f s hs
    ·exact⟨f.g1,f.g2,f.l1,f.l2,f.d1,f.d2,f.t1,f.t2,f.ok⟩
   ·rw[List.map_append,D.nm,List.length_append,List.length_singleton,List.range_succ,List.map_append,ln]
    rfl
   ·intro z s hs
    rw[List.mem_append,List.mem_singleton] at hs
    rcases hs with hs|rfl
    ·exact hr z s hs
    ·exact hz (hh z)
  ·rintro _ _ ⟨ys,rs,g,a,b,rfl,rfl,w,ln,D,hr⟩
   rw[J2] at ln
   simp! [Jlv]
   have:=xB.len
   exact⟨xB.trans (.cons _ _ _),_,_,ys,rs,x1/7,unit,rfl,this,Jp,w,D,by omega,hr⟩
 cases held with
 | false =>
  simp! [Jf7]
  exact loop hA A [] xA gA (by simp) (by simp) (.inl rfl) (λ _=>rfl) _
 | true =>
  simp! [Jf7]
  refine WR.mono (Jab (h:=hA) (xs:=rngI 0 3) (chk:=λ _=>True) (f:=wOf (x1/5)) ?_ (by rw[J2];omega) (λ _ _=>trivial) ?_) ?_
  ·simp! [true_and]
   omega
  ·intro x hx h2 q
   obtain⟨n,hn,rfl⟩:=List.mem_iff_getElem.mp hx
   rw[Jfn]
   simp only[List.map_cons,List.map_nil,List.getElem?_cons_succ,List.getElem?_cons_zero,Option.join_some]
   simp! [Jhq,l5,show(0:Int)<5 by decide]
   rw[show(0+(n:Int))=(n:Int) by omega]
   refine WR.mono (Jzu (k:=k+2) (x1/5) n) ?_
   rintro _ h3 ⟨rfl,x3⟩
   exact⟨by simp[wOf],x3⟩
  ·rintro _ _ ⟨rfl,g,rfl⟩
   have em:(rngI 0 3).map (wOf (x1/5))=((List.range 3).map (wd (x1/5))).map IV.str:=by
    refine List.ext_getElem (by rw[List.length_map,J2,List.length_map,List.length_map,List.length_range];rfl) λ i h1 h2=>?_
    rw[List.getElem_map,Jfn,List.getElem_map,List.getElem_map,List.getElem_range]
    simp[wOf]
   rw[em]
   refine loop _ _ ((List.range 3).map (wd (x1/5))) (xA.trans (.cons _ _ _)) Jp (λ x hx=>?_) ?_ (.inr (by simp)) (λ z=>by cases z) _
   ·obtain⟨j,_,rfl⟩:=List.mem_map.mp hx
    exact Jzt _ j
   ·rw[List.Nodup,List.pairwise_map]
    refine(List.nodup_range (n:=3)).imp_of_mem λ {a b} ha hb hne e=>hne ?_
    exact J23 (by have:=List.mem_range.mp ha;omega) (by have:=List.mem_range.mp hb;omega) e
end
section
variable {k:Nat}{h h1:IH}{σ:ISt}
theorem Jre {Q:IV->IH->Prop}:WR (Jv1 σ h) Q=Q (.ref h.length) (h++[.dct []]):=rfl
theorem Jzx {P:Pg}{m:Str}{n i:Nat}{o:E1}{a:A1}{kvs:List (Key×IV)}{Q:IV->IH->Prop}{g:IV->List IV->IH->Res IV}(e:o σ h=.ok (.ref i) h1) (hl:h1[i]?=some (.dct kvs)) (hg:bmOf "dict" m n=some g):WR (eDot P m n o a σ h) Q=WR (a σ h1) λ vs h2=>WR (g (.ref i) vs h2) Q:=by
 unfold eDot
 rw[e]
 have hi:Jse (.ref i) h1=false:=by simp[Jse,hl]
 have ht:tyS (.ref i) h1="dict":=by simp[tyS,hl]
 dsimp only
 rw[hi,ht,hg]
 dsimp only
 rw[if_neg Bool.false_ne_true]
 unfold eBm
 rw[e,Je,Jfp]
 have:tyOk "dict" (.ref i) h1=true:=by simp[tyOk,hl]
 rw[if_pos this,Je]
theorem Jrl:bmOf "dict" "setdefault" 2=some Jgw:=by kernel_rfl
theorem Jvv {i:Nat}{kvs:List (Key×IV)}{x:Str}{v w:IV}{Q:IV->IH->Prop}(hi:h[i]?=some (.dct kvs)) (e:valI kvs (.inr x)=some w):WR (Jgw (.ref i) [.str x,v] h) Q=Q w h:=by
 unfold Jgw
 simp only[hi,keyI,e]
 rfl
theorem Jvu {i:Nat}{kvs:List (Key×IV)}{x:Str}{v:IV}{Q:IV->IH->Prop}(hi:h[i]?=some (.dct kvs)) (e:valI kvs (.inr x)=none) (hl:kvs.length<sizeLine):WR (Jgw (.ref i) [.str x,v] h) Q=Q v (h.set i (.dct (kvs++[(.inr x,v)]))):=by
 unfold Jgw
 simp only[hi,keyI,e,hl,if_true]
 rfl
end
theorem Jzq (kvs:List (Key×IV)) (k k':Key) (v:IV):valI (kvs++[(k,v)]) k'=match valI kvs k' with
  | some w=>some w
  | none=>if k=k' then some v else none:=by
 induction kvs with
 | nil =>
  by_cases e:k=k'
  ·rw[List.nil_append,Jau e,if_pos e];rfl
  ·rw[List.nil_append,Jal e,if_neg e];rfl
 | cons p r ih =>
  by_cases e:p.1=k'
  ·rw[List.cons_append,Jau e,Jau e]
  ·rw[List.cons_append,Jal e,Jal e,ih]
noncomputable def has (x:Str) (hs:List Hd):Bool:=hs.any λ a=>decide (a.1=x)
noncomputable def fstK (hss:List (List Hd)) (x:Str):Option Nat:=hss.findIdx? (has x)
noncomputable def fV (o:Option Nat):IV:=match o with
 | some i=>.int (i:Int)
 | none=>.non
theorem Jyg (hss:List (List Hd)) (hs:List Hd) (x:Str):fstK (hss++[hs]) x=match fstK hss x with
  | some i=>some i
  | none=>if has x hs=true then some hss.length else none:=by
 unfold fstK
 rw[List.findIdx?_append]
 cases hss.findIdx? (has x) with
 | some i=>rfl
 | none =>
  by_cases e:has x hs=true
  ·simp[List.findIdx?_cons,e]
  ·simp[List.findIdx?_cons,e]
theorem Jvb (x:Str) (hs:List Hd) (a:Hd):has x (hs++[a])=(has x hs||decide (a.1=x)):=by simp[has]
section
variable {k:Nat}{h:IH}
theorem dls {a:IV}:(([("works",a)]:List (Str×IV))).lookup ("size":Str)=none:=by kernel_rfl
theorem Jrz {vs:List IV}{D:Nat}(hD:h[D]?=some (.ins "Duty" (dfs vs))):Jd8 (k+1) [.ref D] h=.ok (.int vs.length) h:=by
 refine Jcy ?_
 rw[Jr3]
 simp! [Jei,Jz hD,dl0]
noncomputable def Told (kvs:List (Key×IV)) (hss:List (List Hd)) (n:Nat) (hs:List Hd):Prop:=∀x,valI kvs (.inr x)=match fstK hss x with
 | some i=>some (.int (i:Int))
 | none=>if has x hs=true then some (.int (n:Int)) else none
theorem Told.next {kvs:List (Key×IV)}{hss:List (List Hd)}{hs:List Hd}{n:Nat}(t:Told kvs hss n hs) (hn:hss.length=n):Told kvs (hss++[hs]) (n+1) []:=λ x=>by
 subst hn
 rw[t x,Jyg]
 cases fstK hss x with
 | some i=>rfl
 | none =>
  by_cases e:has x hs=true
  ·simp only[e,if_true]
  ·simp only[e];rfl
theorem Told.old {kvs:List (Key×IV)}{hss:List (List Hd)}{n:Nat}{hs:List Hd}{a:Hd}{w:IV}(t:Told kvs hss n hs) (e:valI kvs (.inr a.1)=some w):Told kvs hss n (hs++[a]):=λ x=>by
 rw[t x]
 cases ef:fstK hss x with
 | some i=>rfl
 | none =>
  dsimp only
  rw[Jvb]
  by_cases ea:a.1=x
  ·have:=t x
   rw[<- ea,e,ea,ef] at this
   dsimp only at this
   by_cases q:has x hs=true
   ·simp[q]
   ·rw[if_neg q] at this
    cases this
  ·simp[ea]
theorem Told.new {kvs:List (Key×IV)}{hss:List (List Hd)}{n:Nat}{hs:List Hd}{a:Hd}(t:Told kvs hss n hs) (e:valI kvs (.inr a.1)=none):Told (kvs++[(.inr a.1,.int (n:Int))]) hss n (hs++[a]):=λ x=>by
 rw[Jzq,t x]
 cases ef:fstK hss x with
 | some i=>rfl
 | none =>
  dsimp only
  rw[Jvb]
  by_cases q:has x hs=true
  ·simp[q]
  ·by_cases ea:a.1=x
   ·simp[q,ea]
   ·have:¬((.inr a.1:Key)=.inr x):=λ z=>ea (Sum.inr.inj z)
    simp[q,ea]
theorem Jt2 {vs:List IV}{rs:List RH}{D:Nat}(hD:h[D]?=some (.ins "Duty" (dfs vs))) (w:AllH h vs rs) (hl:rs.length<=12) (h6:∀r∈rs,r.2.length<=6) :
  WR (Jcd (k+2) [.ref D] h) λ v h'=>∃i kvs,v=.ref i/\h'[i]?=some (.dct kvs)/\(∀x,(valI kvs (.inr x)).getD .non=fV (fstK (rs.map (·.2)) x))/\Ex h h':=by
 have hb:=Jc
 have wl:=w.len
 rw[Jno]
 simp! [Jc2,Jfv,Jre]
 rw[Jv (i:=D) (h1:=h++[.dct []]) rfl (grow hD) dls (Jl1 _)]
 simp! [Jrz (grow hD)]
 refine⟨by omega,?_⟩
 refine Jbw (λ n σ h'=>∃kvs g a b,h'=h++L3.IO.dct kvs::g/\σ=[some (.ref D),some (.ref h.length),a,b]/\kvs.length<=6*n/\Told kvs ((rs.map (·.2)).take n) n []) (λ _ _ _ _=>trivial) ?_ ?_ ⟨[],[],none,none,rfl,rfl,by simp,λ x=>by simp[valI,fstK,has]⟩
 ·rintro n hn _ _ ⟨kvs,g,a,b,rfl,rfl,ln,td⟩
  rw[Jfn]
  rw[J2] at hn
  have hn':n<rs.length:=by omega
  have en:(0:Int)+(n:Int)=n:=by omega
  obtain⟨j,ej,gj⟩:=w.at_ n _ _ (List.getElem?_eq_getElem (by omega)) (List.getElem?_eq_getElem hn')
  have av:atI vs (n:Int)=some (.ref j):=J9 (by rw[List.getElem?_eq_getElem (by omega),ej])
  have hl6:=h6 _ (List.getElem_mem hn')
  have hm:n<(rs.map (·.2)).length:=by rw[List.length_map];exact hn'
  have tk:(rs.map (·.2)).take (n+1)=(rs.map (·.2)).take n++[(rs[n]).2]:=by rw[List.take_succ_eq_append_getElem hm,List.getElem_map]
  rw[tk]
  generalize rs[n]=r at gj hl6
  simp! [en,Jfd]
  have x1:Ex h (h++L3.IO.dct kvs::g):=.cons _ _ _
  have ed:eDot (pg (k+1)) "work" 1 (eVar 0) (Ja (eVar 2) aNil) [some (IV.ref D),some (IV.ref h.length),some (IV.int (n:Int)),b] (h++L3.IO.dct kvs::g)=.ok (.ref j) (h++L3.IO.dct kvs::g):=by
   refine Jcy ?_
   rw[Jv (i:=D) (h1:=h++L3.IO.dct kvs::g) rfl (x1.get hD) dlw (Jbs _)]
   simp! [Jgo (x1.get hD) av]
  rw[Jv (i:=j) (h1:=h++L3.IO.dct kvs::g) ed (x1.get gj) flh (Jgn _)]
  simp! [Jof (x1.get gj),Jba,Jg]
  generalize r.2=hs at hl6
  refine Jbw (λ m σ h'=>∃kvs' b',h'=h++L3.IO.dct kvs'::(g++[L3.IO.lst (hs.map tupH)])/\σ=[some (.ref D),some (.ref h.length),some (.int (n:Int)),b']/\kvs'.length<=6*n+m/\Told kvs' ((rs.map (·.2)).take n) n (hs.take m)) ?_ ?_ ?_ ⟨kvs,b,by rw[List.append_assoc,List.cons_append],rfl,by omega,td⟩
  ·rintro _ _ _ ⟨kvs',b',rfl,_⟩
   rw[show h++L3.IO.dct kvs'::(g++[L3.IO.lst (hs.map tupH)])=(h++L3.IO.dct kvs'::g)++[L3.IO.lst (hs.map tupH)] by rw[List.append_assoc,List.cons_append],
    show(h++L3.IO.dct kvs::g).length=(h++L3.IO.dct kvs'::g).length by simp]
   exact Jg
  ·rintro m hm _ _ ⟨kvs',b',rfl,rfl,lm,tm⟩
   have hm':m<hs.length:=by simpa using hm
   rw[List.getElem_map,List.take_succ_eq_append_getElem hm']
   generalize hs[m]=a at *
   simp! [Jkk]
   rw[Jzx (i:=h.length) (h1:=h++L3.IO.dct kvs'::(g++[L3.IO.lst (hs.map tupH)])) rfl Jp Jrl]
   simp! [tupH]
   cases ev:valI kvs' (.inr a.1) with
   | some w' =>
    rw[Jvv Jp ev]
    exact⟨kvs',_,rfl,rfl,by omega,tm.old ev⟩
   | none =>
    rw[Jvu Jp ev (by omega),Ji1]
    exact⟨_,_,rfl,rfl,by rw[List.length_append,List.length_singleton];omega,tm.new ev⟩
  ·rintro _ _ ⟨kvs',b',rfl,rfl,lm,tm⟩
   rw[List.length_map] at lm tm
   rw[List.take_of_length_le (Nat.le_refl _)] at tm
   have ltn:((rs.map (·.2)).take n).length=n:=by rw[List.length_take];omega
   exact⟨kvs',_,_,_,rfl,rfl,by omega,tm.next ltn⟩
 ·rintro _ _ ⟨kvs,g,a,b,rfl,rfl,ln,td⟩
  simp! [Jfw]
  refine⟨_,kvs,rfl,Jp,λ x=>?_,.cons _ _ _⟩
  have:=td x
  rw[J2,List.take_of_length_le (by rw[List.length_map];omega)] at this
  rw[this]
  cases fstK (rs.map (·.2)) x with
  | some i=>rfl
  | none=>simp[has,fV]
theorem Jvq (kvs:List (Key×IV)) (k k':Key) (v:IV):valI (putD kvs k v) k'=if k=k' then some v else valI kvs k':=by
 unfold putD
 have any_iff:∀l:List (Key×IV),(l.any λ kv=>decide (kv.1=k))=(valI l k).isSome:=by
  intro l
  induction l with
  | nil=>rfl
  | cons p r ih =>
   rw[List.any_cons,ih]
   by_cases e:p.1=k
   ·rw[Jau e];simp[e]
   ·rw[Jal e];simp[e]
 split
 ·rename_i ha
  have key:∀l:List (Key×IV),valI (l.map λ kv=>if kv.1=k then(kv.1,v) else kv) k'=if k=k' then(if (valI l k).isSome then some v else none) else valI l k':=by
   intro l
   induction l with
   | nil=>by_cases e:k=k'<;>simp[valI]
   | cons p r ih =>
    rw[List.map_cons]
    by_cases e:p.1=k
    ·rw[if_pos e]
     by_cases e2:k=k'
     ·rw[Jau (by rw[<- e2];exact e),if_pos e2,Jau e];rfl
     ·rw[Jal (by rw[e];exact e2),ih,if_neg e2,if_neg e2,Jal (by rw[e];exact e2)]
    ·rw[if_neg e]
     by_cases e2:p.1=k'
     ·have:¬k=k':=λ z=>e (e2.trans z.symm)
      rw[Jau e2,if_neg this,Jau e2]
     ·rw[Jal e2,ih,Jal e,Jal e2]
  rw[key,<-any_iff,ha]
  simp
 ·rename_i ha
  have hn:valI kvs k=none:=by
   have:=any_iff kvs
   cases q:valI kvs k with
   | none=>rfl
   | some z=>rw[q] at this;exact absurd this ha
  have key:∀l:List (Key×IV),valI (l++[(k,v)]) k'=match valI l k' with
    | some w=>some w
    | none=>if k=k' then some v else none:=by
   intro l
   induction l with
   | nil =>
    by_cases e:k=k'
    ·rw[List.nil_append,Jau e,if_pos e];rfl
    ·rw[List.nil_append,Jal e,if_neg e];rfl
   | cons p r ih =>
    by_cases e:p.1=k'
    ·rw[List.cons_append,Jau e,Jau e]
    ·rw[List.cons_append,Jal e,Jal e,ih]
  rw[key]
  by_cases e:k=k'
  ·subst e;rw[hn,if_pos rfl]
  ·rw[if_neg e,if_neg e];cases valI kvs k'<;>rfl
theorem J74 {i:Nat}{kvs:List (Key×IV)}{x:Int}{Q:IV->IH->Prop}(hi:h[i]?=some (.dct kvs)):WR (cInD (.int x) (.ref i) h) Q=Q (.bl (valI kvs (.inl x)).isSome) h:=by
 unfold cInD
 simp only[hi,keyI]
 rfl
theorem J76 {i:Nat}{kvs:List (Key×IV)}{x:Int}{v:IV}{Q:IV->IH->Prop}(hi:h[i]?=some (.dct kvs)) (e:valI kvs (.inl x)=some v):WR (Joy (.ref i) (.int x) h) Q=Q v h:=by
 unfold Joy
 simp only[hi,keyI,e]
 rfl
theorem J5l {σ:ISt}{N:ISt->IH->Prop}{R:IV->IH->Prop}(o i:E1) (v:IV):WS (gSbD o i v σ h) N R=WR (o σ h) λ ov h1=>WR (i σ h1) λ iv h2=>WS (Jzi ov iv v σ h2) N R:=by
 unfold gSbD
 rw[Jd7]
 congr 1
 funext ov h1
 rw[Jd7]
theorem J14 {σ:ISt}{i:Nat}{kvs:List (Key×IV)}{x:Int}{v:IV}{N:ISt->IH->Prop}{R:IV->IH->Prop}(hi:h[i]?=some (.dct kvs)) (hl:kvs.length<sizeLine):WS (Jzi (.ref i) (.int x) v σ h) N R=N σ (h.set i (.dct (putD kvs (.inl x) v))):=by
 unfold Jzi
 simp only[hi,keyI,hl,if_true]
 rfl
end
theorem Jxo {α:Type}{x y z u v w:α}{xs:List α}:atI (x::y::z::u::v::w::xs) 5=some w:=J9 (n:=5) rfl
noncomputable def dH (a:Hd):PyData:=.tuple [.str a.1,.int a.2.1,.int a.2.2]
noncomputable def dR (r:RH):PyData:=.tuple [.str r.1.name,.int r.1.gap,.int r.1.len,.int r.1.due,.int r.1.late,.list (r.2.map dH)]
theorem Jyu {x:Str}(q:IsNm x):PyData.canLay0 (.str x)=true:=by
 simp only[PyData.canLay0]
 unfold PyData.strOk
 rw[<- Array.all_toList,List.all_eq_true]
 intro c hc
 have:=q.2.2 c hc
 simp only[decide_eq_true_eq]
 omega
theorem J6t {hs:List Hd}(q:∀a∈hs,IsNm a.1):PyData.canLayAll0 (hs.map dH)=true:=by
 induction hs with
 | nil=>rfl
 | cons a hs ih =>
  have e:PyData.canLay0 (dH a)=true:=by
   have:=Jyu (q a (List.mem_cons_self ..))
   simp only[dH,PyData.canLay0,PyData.canLayAll0] at this ⊢
   rw[this]
   rfl
  rw[List.map_cons,PyData.canLayAll0,e,ih λ b hb=>q b (List.mem_cons_of_mem _ hb)]
  rfl
theorem J6u {rs:List RH}(q:∀r∈rs,IsNm r.1.name/\∀a∈r.2,IsNm a.1):PyData.canLayAll0 (rs.map dR)=true:=by
 induction rs with
 | nil=>rfl
 | cons r rs ih =>
  have e:PyData.canLay0 (dR r)=true:=by
   have h1:=Jyu (q r (List.mem_cons_self ..)).1
   have h2:=J6t (q r (List.mem_cons_self ..)).2
   simp only[dR,PyData.canLay0,PyData.canLayAll0] at h1 ⊢
   rw[h1,h2]
   rfl
  rw[List.map_cons,PyData.canLayAll0,e,ih λ b hb=>q b (List.mem_cons_of_mem _ hb)]
  rfl
theorem d_hs' {h:IH}{q n:Nat}{hs:List Hd}(e:h[q]?=some (.lst (hs.map tupH))):toD h (n+3) (.ref q)=some (.list (hs.map dH)):=by
 have:∀hs:List Hd,(hs.map tupH).mapM (toD h (n+2))=some (hs.map dH):=by
  intro hs
  induction hs with
  | nil=>rfl
  | cons a r ih=>rw[List.map_cons,List.mapM_cons,ih];rfl
 rw[Jgx e,this]
 rfl
theorem d_row {h:IH}{lo:Nat}{ys:List IV}{rs:List RH}(w:RowT h lo ys rs):ys.mapM (toD h 5)=some (rs.map dR):=by
 obtain⟨wl,at_⟩:=w
 induction ys generalizing rs with
 | nil=>cases rs with|nil=>rfl|cons _ _=>simp at wl
 | cons y ys ih =>
  cases rs with
  | nil=>simp at wl
  | cons r rs =>
   obtain⟨q,e,_,g⟩:=at_ 0 y r rfl rfl
   have ed:toD h 5 y=some (dR r):=by
    rw[e]
    show((IV.str r.1.name::tp5 r q).mapM (toD h 4)).map PyData.tuple=some (dR r)
    simp only[List.mapM_cons,List.mapM_nil,d_hs' (n:=1) g]
    rfl
   rw[List.mapM_cons,ed,ih (rs:=rs) (by simpa using wl) λ i y' r' a b=>at_ (i+1) y' r' a b]
   rfl
structure Cm where
 at_:Nat
 come:Int
 late:Int
 len:Int
noncomputable abbrev tupC (c:Cm):IV:=.tup [.int c.at_,.int c.come,.int c.late,.int c.len]
structure COk (rs:List RH) (c:Cm):Prop where
 at_:c.at_<rs.length
 come:0<=c.come
 l0:0<=c.late
 l1:c.late<=(rs[c.at_]).1.late
 n1:1<=c.len
 n2:c.len<=(rs[c.at_]).1.len
structure Legal (rs:List RH) (cs:List Cm):Prop where
 ok:∀c∈cs,COk rs c
 far:∀(i j:Nat) (a b:Cm),i<j->cs[i]?=some a->cs[j]?=some b->a.at_=b.at_->∀r,rs[a.at_]?=some r->a.come+r.1.gap<=b.come
structure Lst (kvs:List (Key×IV)) (cs:List Cm):Prop where
 no:∀n:Nat,valI kvs (.inl (n:Int))=none->∀c∈cs,c.at_≠n
 yes:∀(n:Nat) v,valI kvs (.inl (n:Int))=some v->∃x,v=.int x/\0<=x/\∀c∈cs,c.at_=n->c.come<=x
noncomputable def gOf (v:IV):IV:=match v with
 | .tup (_::g::_)=>g
 | _=>.non
theorem RowT.mapG {h:IH}{lo:Nat}{ys:List IV}{rs:List RH}(w:RowT h lo ys rs){F:IV->IV}{g:RH->IV}(hf:∀r q,F (tp6 r q)=g r):ys.map F=rs.map g:=by
 have wl:=w.len
 refine List.ext_getElem (by simp[wl]) λ i h1 h2=>?_
 rw[List.length_map] at h1 h2
 rw[List.getElem_map,List.getElem_map]
 obtain⟨q,e,_,_⟩:=w.at_ i _ _ (List.getElem?_eq_getElem h1) (List.getElem?_eq_getElem h2)
 rw[e]
 exact hf _ q
structure RI (h h':IH) (cs:List Cm) (kvs:List (Key×IV)):Prop where
 r:h'[h.length]?=some (.lst (cs.map tupC))
 d:h'[h.length+1]?=some (.dct kvs)
 kp:Kp h h'
theorem RI.ex {h h1 h2:IH}{cs:List Cm}{kvs:List (Key×IV)}(R:RI h h1 cs kvs) (x:Ex h1 h2):RI h h2 cs kvs:=⟨x.get R.r,x.get R.d,R.kp.trans x.kp⟩
theorem J3m {h h':IH}(k:Kp h h'):Ex h h':=by
 refine⟨h'.drop h.length,List.ext_getElem? λ i=>?_⟩
 by_cases hi:i<h.length
 ·rw[List.getElem?_append_left hi,List.getElem?_eq_getElem hi]
  exact k i _ (List.getElem?_eq_getElem hi)
 ·rw[List.getElem?_append_right (by omega),List.getElem?_drop]
  congr 1
  omega
theorem RI.ex0 {h h1:IH}{cs:List Cm}{kvs:List (Key×IV)}(R:RI h h1 cs kvs):Ex h h1:=J3m R.kp
section
variable {k:Nat}{h:IH}
theorem Jur {S j lo:Nat}{ys:List IV}{rs:List RH}(hS:h[S]?=some (.lst ys)) (w:RowT h lo ys rs) (q:∀r∈rs,IsNm r.1.name/\∀a∈r.2,IsNm a.1) (hj:h[j]?=some (.lst [])):cEq (.ref S) (.ref j) h=.ok (.bl rs.isEmpty) h:=by
 have e1:toD h 6 (.ref S)=some (.list (rs.map dR)):=by rw[Jgx hS,d_row w];rfl
 have e2:toD h 6 (.ref j)=some (.list []):=by rw[Jgx hj];rfl
 have e3:Jiv (.ref S) (.ref j) h=some rs.isEmpty:=by
  unfold Jiv
  rw[e1,e2]
  dsimp only
  rw[if_pos ⟨by rw[PyData.canLay0];exact J6u q,by rw[PyData.canLay0,PyData.canLayAll0]⟩,PyData.eqv]
  cases rs with
  | nil=>rw[List.map_nil,PyData.eqvAll];rfl
  | cons a as=>rw[List.map_cons,PyData.eqvAll];rfl;all_goals intros;simp_all
 unfold cEq
 have e4:Jku (.ref S) (.ref j)=none:=rfl
 rw[e4]
 dsimp only
 rw[e3]
theorem J5h {i:Nat}{ms:List Int}{Q:IV->IH->Prop}(hi:h[i]?=some (.lst (ms.map .int))) (hm:ms≠[]):WR (Jwo (.ref i) h) Q=Q (.int (Jc0 (λ i=>ms.getD i 0) ms.length)) h:=by
 unfold Jwo
 simp only[hi,Jca,hm,if_false]
 rfl
theorem pkW {l y1 y2:Int}(f3:0<=l):∃x:Int,atI [IV.int l,IV.int 0,IV.int (y1%(l+1))] (y2%3)=some (.int x)/\0<=x/\x<=l:=by
 have w1:=Int.emod_nonneg y1 (b:=l+1) (by omega)
 have w2:=Int.emod_lt_of_pos y1 (b:=l+1) (by omega)
 have:y2%3=0∨y2%3=1∨y2%3=2:=by omega
 rcases this with q|q|q<;>rw[q]
 ·exact⟨_,Jin,by omega,by omega⟩
 ·exact⟨_,Jio,by omega,by omega⟩
 ·exact⟨_,Jk0,by omega,by omega⟩
theorem pkS {g y3 y4:Int}(f:0<g):∃x:Int,atI [IV.int 0,IV.int (y3%g),IV.int (0-y3%g)] (y4%3)=some (.int x)/\0-g<x/\x<g:=by
 have v1:=Int.emod_nonneg y3 (b:=g) (by omega)
 have v2:=Int.emod_lt_of_pos y3 (b:=g) (by omega)
 have:y4%3=0∨y4%3=1∨y4%3=2:=by omega
 rcases this with q|q|q<;>rw[q]
 ·exact⟨_,Jin,by omega,by omega⟩
 ·exact⟨_,Jio,by omega,by omega⟩
 ·exact⟨_,Jk0,by omega,by omega⟩
theorem pkM {g y3 y4:Int}(f:0<g):∃x:Int,atI [IV.int 0,IV.int (y3%(1+g))] (y4%2)=some (.int x)/\0<=x:=by
 have v3:=Int.emod_nonneg y3 (b:=1+g) (by omega)
 have:y4%2=0∨y4%2=1:=by omega
 rcases this with q|q<;>rw[q]
 ·exact⟨_,Jin,by omega⟩
 ·exact⟨_,Jio,by omega⟩
theorem pkL {l y4 y5:Int}(f:1<=l):∃x:Int,atI [IV.int l,IV.int l,IV.int (1+y5%l)] (y4/6%3)=some (.int x)/\1<=x/\x<=l:=by
 have s1:=Int.emod_nonneg y5 (b:=l) (by omega)
 have s2:=Int.emod_lt_of_pos y5 (b:=l) (by omega)
 have:y4/6%3=0∨y4/6%3=1∨y4/6%3=2:=by omega
 rcases this with q|q|q<;>rw[q]
 ·exact⟨_,Jin,by omega,by omega⟩
 ·exact⟨_,Jio,by omega,by omega⟩
 ·exact⟨_,Jk0,by omega,by omega⟩
theorem J7i {S C lo:Nat}{cells:List Int}{ys:List IV}{rs:List RH}{c unit:Int}(hS:h[S]?=some (.lst ys)) (w:RowT h lo ys rs) (D:Dr c unit rs) (hr:rs.length<=7) (hC:h[C]?=some (.lst (cells.map .int))) (hc:cells.length<=64) :
  WR (Ji4 (k+2) [.ref C,.ref S] h) λ v h'=>∃R cs,v=.ref R/\h.length<=R/\h'[R]?=some (.lst (cs.map tupC))/\Legal rs cs/\cs.length<=cells.length/\Ex h h':=by
 have hb:=Jc
 have wl:=w.len
 have G:=D.gd hr
 have nmq:∀r∈rs,IsNm r.1.name/\∀a∈r.2,IsNm a.1:=λ r hr=>⟨(G.f r hr).nm,λ a ha=>((G.f r hr).ok.each a ha).1⟩
 rw[Jv8]
 have x1:Ex h (h++[L3.IO.lst []]++[L3.IO.dct []]++[L3.IO.lst []]):=(Ex.one _ _).trans ((Ex.one _ _).trans (.one _ _))
 simp! [Jis,Jm6,Jm7,Jre,List.length_nil,Nat.zero_le,Jur (x1.get hS) (w.kp x1.kp) nmq Jg]
 cases rs with
 | nil =>
  simp! [List.isEmpty_nil]
  exact⟨_,[],rfl,Nat.le_refl _,grow (grow Jg),⟨by simp,λ i j a b _ e=>by simp at e⟩,by simp,x1⟩
 | cons r0 rs0 =>
 have ne:(r0::rs0).isEmpty=false:=rfl
 have pos:0<(r0::rs0).length:=by simp
 generalize r0::rs0=rs at *
 simp! [ne,Jm8]
 have gm:=w.mapG (F:=gOf) (g:=λ r=>IV.int r.1.gap) λ r q=>rfl
 have x1S:=x1.get hS
 refine WR.mono (Jab (h:=h++[L3.IO.lst []]++[L3.IO.dct []]++[L3.IO.lst []]) (xs:=ys) (chk:=λ h'=>h'[S]?=some (.lst ys)) (f:=gOf) ?_ (by omega) (λ h2 q=>q _ _ x1S) ?_) ?_
 ·simp! [Jba,x1S]
 ·intro v hv h2 q
  obtain⟨n,hn,rfl⟩:=List.mem_iff_getElem.mp hv
  obtain⟨q,e,_,_⟩:=w.at_ n _ _ (List.getElem?_eq_getElem hn) (List.getElem?_eq_getElem (show n<rs.length by omega))
  rw[e]
  simp! [Jj7]
  exact⟨rfl,.refl _⟩
 rintro _ _ ⟨rfl,g,rfl⟩
 rw[gm]
 have em:rs.map (λ r=>IV.int r.1.gap)=(rs.map λ r=>r.1.gap).map IV.int:=by simp
 rw[em]
 have hm:(rs.map λ r=>r.1.gap)≠[]:=λ e=>by
  rw[List.map_eq_nil_iff] at e
  rw[e] at pos
  simp at pos
 have x2:Ex (h++[L3.IO.lst []]++[L3.IO.dct []]++[L3.IO.lst []]) (h++[L3.IO.lst []]++[L3.IO.dct []]++[L3.IO.lst []]++L3.IO.lst ((rs.map λ r=>r.1.gap).map IV.int)::g):=.cons _ _ _
 rw[J5h Jp hm]
 have top:∀r∈rs,r.1.gap<=Jc0 (λ i=>(rs.map λ r=>r.1.gap).getD i 0) (rs.map λ r=>r.1.gap).length:=λ r hr=>by
  obtain⟨j,hj,rfl⟩:=List.mem_iff_getElem.mp hr
  have:=J2t (λ i=>(rs.map λ r=>r.1.gap).getD i 0) (rs.map λ r=>r.1.gap).length j (by simpa using hj)
  have e:(rs.map λ r=>r.1.gap).getD j 0=(rs[j]).1.gap:=by rw[List.getD_eq_getElem?_getD,List.getElem?_map,List.getElem?_eq_getElem hj];rfl
  rw[<- e]
  exact this
 generalize Jc0 (λ i=>(rs.map λ r=>r.1.gap).getD i 0) (rs.map λ r=>r.1.gap).length=T at top
 have m3:Jbq 3 T:=.inl (by decide)
 have gR:(h++[L3.IO.lst []]++[L3.IO.dct []]++[L3.IO.lst []]++L3.IO.lst ((rs.map λ r=>r.1.gap).map IV.int)::g)[h.length]?=some (.lst []):=x2.get (grow (grow Jg))
 have gD:(h++[L3.IO.lst []]++[L3.IO.dct []]++[L3.IO.lst []]++L3.IO.lst ((rs.map λ r=>r.1.gap).map IV.int)::g)[(h++[L3.IO.lst []]).length]?=some (.dct []):=x2.get (grow Jg)
 have lD:(h++[L3.IO.lst []]).length=h.length+1:=by simp
 rw[lD] at gD ⊢
 have k2:Kp h (h++[L3.IO.lst []]++[L3.IO.dct []]++[L3.IO.lst []]++L3.IO.lst ((rs.map λ r=>r.1.gap).map IV.int)::g):=(x1.trans x2).kp
 generalize h++[L3.IO.lst []]++[L3.IO.dct []]++[L3.IO.lst []]++L3.IO.lst ((rs.map λ r=>r.1.gap).map IV.int)::g=hA at gR gD k2 ⊢
 have cl:=Jcb hC
 have sl:=Jcb hS
 simp! [m3,Jm9,Jba,k2 _ _ hC]
 refine Jbw (λ n σ h'=>∃cs kvs a5 a6 a7 a8 a9 a10 a11 a12 a13 a14 a15,RI h h' cs kvs/\σ=[some (.ref C),some (.ref S),some (.ref h.length),some (.ref (h.length+1)),some (.int (3*T)),a5,a6,a7,a8,a9,a10,a11,a12,a13,a14,a15]/\cs.length=n/\kvs.length<=n/\Legal rs cs/\Lst kvs cs)
  (λ n σ h' ⟨_,_,_,_,_,_,_,_,_,_,_,_,_,R,_⟩=>R.kp _ _ hC) ?_ ?_ ⟨[],[],none,none,none,none,none,none,none,none,none,none,none,⟨gR,gD,k2⟩,rfl,rfl,Nat.le_refl _,⟨by simp,λ i j a b _ e=>by simp at e⟩,⟨by simp,λ n v e=>by cases e⟩⟩
 ·rintro n hn _ h1 ⟨cs,kvs,a5,a6,a7,a8,a9,a10,a11,a12,a13,a14,a15,R,rfl,lc,lk,L,Z⟩
  rw[List.length_map] at hn
  simp only[List.getElem_map]
  generalize cells[n]=y
  simp! [Jl3]
  refine WR.mono (Joc (k:=k) y 6 (by decide)) ?_
  rintro _ h2 ⟨X,xs,rfl,_,gX,lx,hx,e2⟩
  have R:=R.ex e2
  match xs,lx,gX,hx with
  | [y0,y1,y2,y3,y4,y5],_,gX,hx =>
  have z1:=(hx y1 (by simp)).1
  have z3:=(hx y3 (by simp)).1
  have z4:=(hx y4 (by simp)).1
  have z5:=(hx y5 (by simp)).1
  clear hx
  simp only[List.map_cons,List.map_nil] at gX
  have pl':(0:Int)<(rs.length:Int):=by omega
  obtain⟨m,em⟩:∃m:Nat,y0%(rs.length:Int)=m:=⟨(y0%(rs.length:Int)).toNat,by have:=Int.emod_nonneg y0 (b:=(rs.length:Int)) (by omega);omega⟩
  have hm':m<rs.length:=by have:=Int.emod_lt_of_pos y0 pl';omega
  have er:=List.getElem?_eq_getElem hm'
  have f:=D.f _ (List.getElem_mem hm')
  have tg:=top _ (List.getElem_mem hm')
  generalize hrr:rs[m]=r at er f tg
  obtain⟨q,ey,_⟩:=w.get er
  have ay:atI ys (m:Int)=some (tp6 r q):=J9 ey
  have gS2:=R.kp _ _ hS
  have f1:=f.g1
  have f2:=f.l1
  have f3:=f.t1
  have f4:=f.t2
  have u1:=D.u1
  obtain⟨wt,ew,wt1,wt2⟩:=pkW (y1:=y1) (y2:=y2) f3
  have g0:0<r.1.gap:=by omega
  obtain⟨sh,es,sh1,sh2⟩:=pkS (y3:=y3) (y4:=y4) g0
  obtain⟨mo,eo,mo1⟩:=pkM (y3:=y3) (y4:=y4) g0
  obtain⟨ll,el,ll1,ll2⟩:=pkL (y4:=y4) (y5:=y5) f2
  have lg6:(Int.natAbs 6).log2<9000:=by decide
  have gX1:∀a,(h2++a)[X]?=_:=λ a=>grow gX
  have gX2:∀a b,(h2++a++b)[X]?=_:=λ a b=>grow (gX1 a)
  -- the last steps: the dict, the row
  have last:∀(h3:IH) (come:Int) (a13:Option IV),Ex h2 h3->0<=come->(∀c∈cs,c.at_=m->c.come+r.1.gap<=come)->∀Rr:IV->IH->Prop,
    WS (sSeq (sAsg (eVar 15) (gSbD (eVar 3) (eVar 7))) (Jgv (eDot (pg (k+1)) "append" 1 (eVar 2) (Ja (eTup (Ja (eVar 7) (Ja (eVar 15) (Ja (eVar 14) (Ja (eBin opIx (eLst (Ja (eVar 10) (Ja (eVar 10) (Ja (eBin Jo (eC (.int 1)) (eBin Ju (eBin opIx (eVar 6) (eC (.int 5))) (eVar 10))) aNil)))) (eBin Ju (eBin Jaf (eBin opIx (eVar 6) (eC (.int 4))) (eC (.int 6))) (eC (.int 3)))) aNil))))) aNil)))
     [some (.ref C),some (.ref S),some (.ref h.length),some (.ref (h.length+1)),some (.int (3*T)),some (.int y),some (.ref X),some (.int (m:Int)),some (.str r.1.name),some (.int r.1.gap),some (.int r.1.len),some (.int r.1.due),some (.int r.1.late),a13,some (.int wt),some (.int come)] h3)
     (λ σ h'=>∃cs kvs a5 a6 a7 a8 a9 a10 a11 a12 a13 a14 a15,RI h h' cs kvs/\σ=[some (.ref C),some (.ref S),some (.ref h.length),some (.ref (h.length+1)),some (.int (3*T)),a5,a6,a7,a8,a9,a10,a11,a12,a13,a14,a15]/\cs.length=n+1/\kvs.length<=n+1/\Legal rs cs/\Lst kvs cs) Rr:=by
   intro h3 come a13 x3 c0 cf Rr
   have R3:=R.ex x3
   have ld:h.length+1<h3.length:=Jcb R3.d
   simp! [J5l,J14 R3.d (show kvs.length<sizeLine by omega)]
   generalize hh4:h3.set (h.length+1) (.dct (putD kvs (.inl (m:Int)) (.int come)))=h4
   have kd:KpB (h.length+1) h3 h4:=λ j o hj z=>by rw[<- hh4,List.getElem?_set_ne (Ne.symm hj)];exact z
   have gd4:h4[h.length+1]?=some (.dct (putD kvs (.inl (m:Int)) (.int come))):=by rw[<- hh4,List.getElem?_set_self ld]
   have gr4:=kd _ _ (by omega) R3.r
   have lX:=Jcb gX
   have gX4:h4[X]?=some (.lst [.int y0,.int y1,.int y2,.int y3,.int y4,.int y5]):=by
    refine kd _ _ (λ z=>?_) (x3.get gX)
    have:=x3.get gX
    rw[z,R3.d] at this
    cases this
   rw[Jrf (i:=h.length) (h1:=h4) rfl gr4 Jj3]
   simp! [Jam,gX4,grow gX4,Jxo,Jg,lg6,show(0:Int)<6 by decide,show(0:Int)<3 by decide,show(0:Int)<r.1.len by omega,el,List.length_cons,List.length_nil,Jkw,grow gr4,List.length_map]
   refine⟨by omega,by omega,by omega,cs++[⟨m,come,wt,ll⟩],putD kvs (.inl (m:Int)) (.int come),_,_,_,_,_,_,_,_,_,_,_,⟨?_,?_,?_⟩,rfl,by simp[lc],?_,⟨?_,?_⟩,⟨?_,?_⟩⟩
   ·rw[List.getElem?_set_self (by rw[List.length_append];have:=Jcb gr4;omega)]
    simp
   ·rw[List.getElem?_set_ne (by omega)]
    exact grow gd4
   ·intro j o z
    have lj:=Jcb z
    rw[List.getElem?_set_ne (by omega)]
    exact grow (kd _ _ (by omega) (R3.kp _ _ z))
   ·unfold putD
    split
    ·simp;omega
    ·simp;omega
   ·intro c' hc'
    rw[List.mem_append,List.mem_singleton] at hc'
    rcases hc' with hc'|rfl
    ·exact L.ok c' hc'
    ·exact⟨hm',c0,wt1,by show wt<=(rs[m]).1.late;rw[hrr];exact wt2,ll1,by show ll<=(rs[m]).1.len;rw[hrr];exact ll2⟩
   ·intro i j a b hij ha hb' eab r' er'
    by_cases hj:j<cs.length
    ·rw[List.getElem?_append_left hj] at hb'
     rw[List.getElem?_append_left (by omega)] at ha
     exact L.far i j a b hij ha hb' eab r' er'
    ·have lj:=(List.getElem?_eq_some_iff.mp hb').1
     rw[List.length_append,List.length_singleton] at lj
     obtain rfl:j=cs.length:=by omega
     rw[List.getElem?_append_right (Nat.le_refl _),Nat.sub_self] at hb'
     cases hb'
     rw[List.getElem?_append_left (by omega)] at ha
     have:r'=r:=by
      rw[eab] at er'
      have er':rs[m]?=some r':=er'
      rw[er] at er'
      cases er'
      rfl
     rw[this]
     exact cf a (List.mem_of_getElem? ha) eab
   ·intro n' e c' hc'
    rw[Jvq] at e
    split at e
    ·cases e
    ·rename_i hne
     rw[List.mem_append,List.mem_singleton] at hc'
     rcases hc' with hc'|rfl
     ·exact Z.no n' e c' hc'
     ·exact λ z=>hne (by rw[show m=n' from z])
   ·intro n' v e
    rw[Jvq] at e
    split at e
    ·rename_i heq
     cases e
     have en:(m:Int)=n':=Sum.inl.inj heq
     have en:m=n':=by omega
     refine⟨come,rfl,c0,λ c' hc' ec=>?_⟩
     rw[List.mem_append,List.mem_singleton] at hc'
     rcases hc' with hc'|rfl
     ·have:=cf c' hc' (by rw[ec,en])
      omega
     ·exact Int.le_refl _
    ·rename_i hne
     obtain⟨x,e1,e2,e3⟩:=Z.yes n' v e
     refine⟨x,e1,e2,λ c' hc' ec=>?_⟩
     rw[List.mem_append,List.mem_singleton] at hc'
     rcases hc' with hc'|rfl
     ·exact e3 c' hc' ec
     ·exact absurd (by rw[show m=n' from ec]) hne
  simp! [Jam,gX,gX1,gX2,Jdl,gS2,wl,pl',em,ay,Jl6,Jtp,Jtq,List.length_cons,List.length_nil,show(0:Int)<3 by decide,show(0:Int)<r.1.late+1 by omega,show(0:Int)<r.1.gap by omega,Jg,ew,es]
  refine⟨by omega,by omega,?_⟩
  have x5:Ex h2 (h2++[L3.IO.lst [IV.int r.1.late,IV.int 0,IV.int (y1%(r.1.late+1))]]++[L3.IO.lst [IV.int 0,IV.int (y3%r.1.gap),IV.int (0-y3%r.1.gap)]]):=(Ex.one _ _).trans (.one _ _)
  generalize h2++[L3.IO.lst [IV.int r.1.late,IV.int 0,IV.int (y1%(r.1.late+1))]]++[L3.IO.lst [IV.int 0,IV.int (y3%r.1.gap),IV.int (0-y3%r.1.gap)]]=h5 at x5 ⊢
  have R5:=R.ex x5
  have gX5:=x5.get gX
  rw[J74 R5.d]
  simp! [true_and]
  cases ev:valI kvs (.inl (m:Int)) with
  | none =>
   have Lq:=last h5 (3*T-wt+sh) (some (.ref q)) x5 (by omega) (λ c' hc' z=>absurd z (Z.no m ev c' hc'))
   refine⟨(λ z=>by cases z),λ _=>?_⟩
   simp(implicitDefEqProofs:=false) only[Jil,Jcw,Jdu,Jim,Jpp,Jdw,Jdv,Jdt,Jih,Jij,Jcv,Jik,Jii,Jd7,Je,Jfp,Jzw,Jnk,Jon,Jhw,Jpo,Jhu,Jpm,Jph,Jdp,Jif,Jdq,Jdr,Ja9,Jdi,Jbm,Jig,Jh5,Jdj,Jdm,Jpd,Jib,Jh1,Jbo,Jbp,Jpn,Jhz,Jht,Jie,Jh8,Jh7,Jdk,Jh6,Jic,Jdh,Jpj,Jpi,Jpg,Jpf,Jpe,Jpk,Jhx,Jh9,Jhv,Jds,Jia,Jhy,Jpl,Jcu,Jh0,Jdn,Jdo,Jh2,Jh4,Jh3,Jid,Jbn,Krz,Ksz,Kvz,Ktz,Kuz] at Lq
   exact Lq _
  | some v =>
   obtain⟨x,rfl,x0,xc⟩:=Z.yes m v ev
   refine⟨λ _=>?_,(λ z=>by cases z)⟩
   rw[J76 R5.d ev]
   simp! [Jam,gX5,grow gX5,Jg,show(0:Int)<1+r.1.gap by omega,show(0:Int)<2 by decide,eo,List.length_cons,List.length_nil]
   refine⟨by omega,?_⟩
   have Lq:=last (h5++[L3.IO.lst [IV.int 0,IV.int (y3%(1+r.1.gap))]]) (x+r.1.gap+mo) (some (.ref q)) (x5.trans (.one _ _)) (by omega) (λ c' hc' z=>by have:=xc c' hc' z;omega)
   simp(implicitDefEqProofs:=false) only[Jil,Jcw,Jdu,Jim,Jpp,Jdw,Jdv,Jdt,Jih,Jij,Jcv,Jik,Jii,Jd7,Je,Jfp,Jzw,Jnk,Jon,Jhw,Jpo,Jhu,Jpm,Jph,Jdp,Jif,Jdq,Jdr,Ja9,Jdi,Jbm,Jig,Jh5,Jdj,Jdm,Jpd,Jib,Jh1,Jbo,Jbp,Jpn,Jhz,Jht,Jie,Jh8,Jh7,Jdk,Jh6,Jic,Jdh,Jpj,Jpi,Jpg,Jpf,Jpe,Jpk,Jhx,Jh9,Jhv,Jds,Jia,Jhy,Jpl,Jcu,Jh0,Jdn,Jdo,Jh2,Jh4,Jh3,Jid,Jbn,Krz,Ksz,Kvz,Ktz,Kuz] at Lq
   exact Lq _
 ·rintro _ h1 ⟨cs,kvs,a5,a6,a7,a8,a9,a10,a11,a12,a13,a14,a15,R,rfl,lc,lk,L,Z⟩
  rw[List.length_map] at lc
  simp! [Jna]
  exact⟨_,cs,rfl,Nat.le_refl _,R.r,L,by omega,R.ex0⟩
end
noncomputable def dS (v:IV):PyData:=match v with
 | .str x=>.str x
 | _=>.none
section
variable {k:Nat}{h:IH}
end
noncomputable def actv (d:Int) (a:Hd):Bool:=decide (a.2.1<d)&&decide (d<a.2.2)
noncomputable def act (hs:List Hd) (d:Int):List Str:=(hs.filter (actv d)).map (·.1)
noncomputable def avV (d:Int) (v:IV):Bool:=match v with
 | .tup [.str _,.int s,.int e]=>decide (s<d)&&decide (d<e)
 | _=>false
noncomputable def frs (v:IV):IV:=match v with
 | .tup (x::_)=>x
 | _=>.non
theorem Jts (d:Int):∀hs:List Hd,((hs.map tupH).filter (avV d)).map frs=(act hs d).map IV.str
 | []=>rfl
 | a::hs=>by
  have ih:=Jts d hs
  unfold act at *
  rw[List.map_cons]
  by_cases q:actv d a=true
  ·have q':avV d (tupH a)=true:=q
   rw[List.filter_cons_of_pos q',List.filter_cons_of_pos q,List.map_cons,List.map_cons,List.map_cons,ih]
   rfl
  ·have q':¬avV d (tupH a)=true:=q
   rw[List.filter_cons_of_neg q',List.filter_cons_of_neg q,ih]
theorem Jxh (hs:List Hd) (d:Int):(act hs d).length<=hs.length:=by
 unfold act
 rw[List.length_map]
 exact List.length_filter_le ..
theorem J25 {hs:List Hd}{d:Int}{x:Str}(h:x∈act hs d):∃a∈hs,a.1=x:=by
 unfold act at h
 obtain⟨a,ha,rfl⟩:=List.mem_map.mp h
 exact⟨a,(List.mem_filter.mp ha).1,rfl⟩
noncomputable def hit (zs:List Str) (hs:List Hd):Bool:=hs.any λ b=>zs.any λ z=>decide (z=b.1)
noncomputable def leastK (hss:List (List Hd)) (zs:List Str) (a n:Nat):Nat:=match (hss.take n).findIdx? (hit zs) with
 | some k=>k
 | none=>a
noncomputable def fZ (hss:List (List Hd)) (x:Str):Int:=match fstK hss x with
 | some j=>(j:Int)
 | none=>0
noncomputable def rkNs (hss:List (List Hd)) (zs:List Str) (a:Nat):List Int:=(a:Int)::zs.map (fZ hss)
noncomputable def rk (hss:List (List Hd)) (zs:List Str) (a:Nat):Int:=Jgc (λ i=>(rkNs hss zs a).getD i 0) (rkNs hss zs a).length
noncomputable def fstV (hss:List (List Hd)) (v:IV):IV:=match v with
 | .str t=>.int (fZ hss t)
 | _=>.non
noncomputable def stT (v:IV):ISt:=match v with
 | .tup [x,y,z]=>[some x,some y,some z]
 | _=>[none,none,none]
section
variable {k:Nat}{h:IH}
theorem Jz2 {i:Nat}{ns:List Int}{Q:IV->IH->Prop}(hi:h[i]?=some (.lst (ns.map .int))) (hn:ns≠[]):WR (Juh (.ref i) h) Q=Q (.int (Jgc (λ i=>ns.getD i 0) ns.length)) h:=by
 unfold Juh
 simp only[hi,Jca]
 rw[if_neg hn]
 rfl
theorem Jzz {i:Nat}{kvs:List (Key×IV)}{x:Str}{v:IV}{Q:IV->IH->Prop}(hi:h[i]?=some (.dct kvs)) (e:valI kvs (.inr x)=some v):WR (Joy (.ref i) (.str x) h) Q=Q v h:=by
 unfold Joy
 simp only[hi,keyI,e]
 rfl
theorem Jtj {name:Str}{gap len due late d:Int}{hs:List Hd}{w:Nat}(hw:h[w]?=some (.ins "Work" (wfs name gap len due late (hs.map tupH)))) (l6:hs.length<=6) :
  WR (Ja2 (k+2) [.ref w,.int d] h) λ v h'=>∃i,v=.ref i/\h.length<=i/\h'[i]?=some (.lst ((act hs d).map .str))/\Ex h h':=by
 have hb:=Jc
 rw[Jou]
 simp! [Jcq]
 refine WR.mono (Jrd (h:=h++[L3.IO.lst (hs.map tupH)]) (xs:=hs.map tupH) (chk:=λ h'=>h'[h.length]?=some (.lst (hs.map tupH))) (p:=avV d) (f:=frs) ?_ (by rw[List.length_map];omega) (λ h2 q=>q _ _ Jg) ?_ ?_) ?_
 ·rw[Jcu,Jv (i:=w) (h1:=h) rfl hw flh (Jgn _)]
  simp! [Jof hw,Jba,Jg]
 ·intro v hv h2 q
  obtain⟨a,_,rfl⟩:=List.mem_map.mp hv
  simp only[List.map_cons,List.map_nil,List.getElem?_cons_succ,List.getElem?_cons_zero,Option.join_some]
  simp! [Jd3,tupH,avV,decide_eq_true_eq,decide_eq_false_iff_not]
  exact⟨λ z=>⟨by simp[z],.refl _⟩,λ z=>⟨by simp[z],.refl _⟩⟩
 ·intro v hv _ h2 q
  obtain⟨a,_,rfl⟩:=List.mem_map.mp hv
  simp! [Jd2,tupH,frs]
  exact .refl _
 ·rintro _ _ ⟨rfl,g,rfl⟩
  rw[Jts]
  exact⟨_,rfl,by rw[List.length_append];omega,Jp,(Ex.one _ _).trans (.cons _ _ _)⟩
theorem Jyw {a i t:Nat}{zs:List Str}{hss:List (List Hd)}{kvs:List (Key×IV)}(gi:h[i]?=some (.lst (zs.map .str))) (gt:h[t]?=some (.dct kvs)) (tv:∀x,(valI kvs (.inr x)).getD .non=fV (fstK hss x)) (hz:∀z∈zs,fstK hss z≠none) (la:zs.length<=6) :
  WR (Jmn (k+1) [.int (a:Int),.ref i,.ref t] h) λ v h'=>v=.int (rk hss zs a)/\Ex h h':=by
 have hb:=Jc
 rw[Jyi]
 simp! [Jk2,List.length_cons,List.length_nil]
 refine⟨by omega,?_⟩
 have x3:Ex h (h++[L3.IO.lst [IV.int (a:Int)]]):=.one _ _
 have gA:(h++[L3.IO.lst [IV.int (a:Int)]])[h.length]?=some (.lst ([(a:Int)].map IV.int)):=Jg
 generalize h.length=A at gA
 generalize h++[L3.IO.lst [IV.int (a:Int)]]=h3 at x3 gA
 refine WR.mono (Jab (h:=h3) (xs:=zs.map IV.str) (chk:=λ h'=>h'[i]?=some (.lst (zs.map IV.str))) (f:=fstV hss) ?_ (by rw[List.length_map];omega) (λ h4 q=>q _ _ (x3.get gi)) ?_) ?_
 ·simp! [Jba,x3.get gi]
 ·intro v hv h4 q
  obtain⟨x,hx,rfl⟩:=List.mem_map.mp hv
  have e1:=tv x
  have ne:=hz x hx
  cases ef:fstK hss x with
  | none=>exact absurd ef ne
  | some jj =>
   rw[ef] at e1
   have e2:valI kvs (.inr x)=some (.int (jj:Int)):=by
    cases ev:valI kvs (.inr x) with
    | none=>rw[ev] at e1;cases e1
    | some v=>rw[ev] at e1;rw[show v=.int (jj:Int) from e1]
   simp only[List.map_cons,List.map_nil,List.getElem?_cons_succ,List.getElem?_cons_zero,Option.join_some]
   simp! [Jl0]
   rw[Jzz (q _ _ (x3.get gt)) e2]
   exact⟨by simp only[fstV,fZ,ef],.refl _⟩
 ·rintro _ _ ⟨rfl,g,rfl⟩
  have em:(zs.map IV.str).map (fstV hss)=(zs.map (fZ hss)).map IV.int:=by
   rw[List.map_map,List.map_map]
   rfl
  rw[em]
  have x4:Ex h3 (h3++L3.IO.lst ((zs.map (fZ hss)).map IV.int)::g):=.cons _ _ _
  simp! [Jrc,x4.get gA,Jp,List.length_map,List.length_cons,List.length_nil]
  refine⟨by omega,?_⟩
  rw[<- List.map_append]
  rw[show[(a:Int)]++zs.map (fZ hss)=rkNs hss zs a from rfl,Jz2 (ns:=rkNs hss zs a) Jg (by simp[rkNs])]
  exact⟨rfl,(x3.trans x4).trans (.one _ _)⟩
theorem Jxg {rs:List RH}{a:Nat}(ha:a<rs.length){d:Int}:∀z∈act (rs[a]).2 d,fstK (rs.map (·.2)) z≠none:=λ z q=>by
 obtain⟨b,hb',rfl⟩:=J25 q
 intro e
 unfold fstK at e
 rw[List.findIdx?_eq_none_iff] at e
 have:=e (rs[a]).2 (List.mem_map.mpr ⟨rs[a],List.getElem_mem ha,rfl⟩)
 unfold has at this
 have t2:((rs[a]).2.any λ x=>decide (x.1=b.1))=true:=List.any_eq_true.mpr ⟨b,hb',by simp⟩
 rw[t2] at this
 cases this
noncomputable abbrev ofs (D T:Nat):List (Str×IV):=[("duty",.ref D),("tops",.ref T)]
noncomputable abbrev ofs1 (D:Nat):List (Str×IV):=[("duty",.ref D)]
theorem op0 {a:IV}:putI "duty" a ([]:List (Str×IV))=([("duty",a)]:List (Str×IV)):=by kernel_rfl
theorem op1 {a b:IV}:putI "tops" b ([("duty",a)]:List (Str×IV))=([("duty",a),("tops",b)]:List (Str×IV)):=by kernel_rfl
theorem ol0 {D T:Nat}:(ofs D T).lookup ("duty":Str)=some (.ref D):=by kernel_rfl
theorem ol1 {D T:Nat}:(ofs D T).lookup ("tops":Str)=some (.ref T):=by kernel_rfl
theorem olr {D T:Nat}:(ofs D T).lookup ("rank_of":Str)=none:=by kernel_rfl
theorem olh {D T:Nat}:(ofs D T).lookup ("holds":Str)=none:=by kernel_rfl
theorem ql0 {D:Nat}:(ofs1 D).lookup ("duty":Str)=some (.ref D):=by kernel_rfl
theorem qlr {D:Nat}:(ofs1 D).lookup ("rank_of":Str)=none:=by kernel_rfl
theorem qlh {D:Nat}:(ofs1 D).lookup ("holds":Str)=none:=by kernel_rfl
noncomputable def IsOr (h:IH) (kind:Int) (O:Nat) (rs:List RH):Prop:=∃D,IsDu h D rs/\((kind=1/\h[O]?=some (.ins "ByDue" (ofs1 D)))∨(kind=2/\h[O]?=some (.ins "ByComing" (ofs1 D))) ∨
 (kind=0/\∃T kvs,h[O]?=some (.ins "ByRank" (ofs D T))/\h[T]?=some (.dct kvs)/\∀x,(valI kvs (.inr x)).getD .non=fV (fstK (rs.map (·.2)) x)))
theorem IsOr.kp {h h':IH}{kind:Int}{O:Nat}{rs:List RH}(k:Kp h h') (o:IsOr h kind O rs):IsOr h' kind O rs:=by
 obtain⟨D,d,o⟩:=o
 refine⟨D,d.kp k,o.imp (λ ⟨a,b⟩=>⟨a,k _ _ b⟩) (Or.imp (λ ⟨a,b⟩=>⟨a,k _ _ b⟩) λ ⟨a,T,kvs,b,c,d⟩=>⟨a,T,kvs,k _ _ b,k _ _ c,d⟩)⟩
theorem Jla {c:Str}{O D:Nat}(hO:h[O]?=some (.ins c [])):Jaw (k+1) [.ref O,.ref D] h=.ok .non (h.set O (.ins c (ofs1 D))):=by
 refine Jcy ?_
 rw[Jql]
 simp! [Jda,Joh]
 refine⟨_,_,_,rfl,hO,by decide,?_⟩
 rw[op0]
theorem J5e {i:Nat}{kvs:List (Key×IV)}{Q:IV->IH->Prop}(hi:h[i]?=some (.dct kvs)):WR (Jwj (.ref i) h) Q=Q (.int kvs.length) h:=by
 unfold Jwj
 simp only[hi]
 rfl
theorem Jrs {D:Nat}{rs:List RH}(d:IsDu h D rs) (hl:rs.length<=12) (no:∀r∈rs,r.2=[]):WR (Jcd (k+2) [.ref D] h) λ v h'=>∃i,v=.ref i/\h'[i]?=some (.dct [])/\Ex h h':=by
 have hb:=Jc
 obtain⟨vs,gD,w⟩:=d
 have wl:=w.len
 rw[Jno]
 simp! [Jc2,Jfv,Jre]
 rw[Jv (i:=D) (h1:=h++[.dct []]) rfl (grow gD) dls (Jl1 _)]
 simp! [Jrz (grow gD)]
 refine⟨by omega,?_⟩
 refine Jbw (λ n σ h'=>∃a b,Ex (h++[.dct []]) h'/\σ=[some (.ref D),some (.ref h.length),a,b]) (λ _ _ _ _=>trivial) ?_ ?_ ⟨none,none,.refl _,rfl⟩
 ·rintro n hn _ h1 ⟨a,b,x1,rfl⟩
  rw[Jfn]
  rw[J2] at hn
  have hn':n<rs.length:=by omega
  obtain⟨j,ej,gj⟩:=w.get (List.getElem?_eq_getElem hn')
  rw[show(0:Int)+(n:Int)=(n:Int) by omega]
  have av:atI vs (n:Int)=some (.ref j):=J9 ej
  have gD1:=x1.get (grow gD)
  have gj1:=x1.get (grow gj)
  have e0:=no _ (List.getElem_mem hn')
  generalize hσ:([some (.ref D),some (.ref h.length),some (.int (n:Int)),b]:ISt)=σ
  have e1:eDot (pg (k+1)) "work" 1 (eVar 0) (Ja (eVar 2) aNil) σ h1=.ok (.ref j) h1:=by
   subst hσ
   refine Jcy ?_
   rw[Jv (i:=D) (h1:=h1) rfl gD1 dlw (Jbs _)]
   simp! [Jgo gD1 av]
  dsimp! [hσ,Jfd]
  rw[Jv (i:=j) (h1:=h1) e1 gj1 flh (Jgn _)]
  simp! [Jof gj1,e0,List.map_nil,Jba,Jg]
  rw[<- hσ]
  simp only[Jhh]
  rw[if_pos Jg,Jcv]
  exact⟨_,_,x1.trans (.one _ _),rfl⟩
 ·rintro _ h1 ⟨a,b,x1,rfl⟩
  simp! [Jfw]
  exact⟨x1.get Jg,(Ex.one _ _).trans x1⟩
theorem Jn4 {D:Nat}{rs:List RH}(d:IsDu h D rs) (hl:rs.length<=12) (no:∀r∈rs,r.2=[]):WR (Jap (k+3) [.ref D] h) λ v h'=>v=.non/\Ex h h':=by
 rw[Jnp]
 simp! [Jbv]
 refine WR.mono (Jrs (k:=k) d hl no) ?_
 rintro _ h1 ⟨i,rfl,gi,x1⟩
 rw[J5e gi]
 simp! [List.length_nil]
 refine⟨λ q=>?_,λ _=>x1⟩
 simp at q
theorem J0j {kind:Int}{D:Nat}{rs:List RH}(d:IsDu h D rs) (hl:rs.length<=12) (no:∀r∈rs,r.2=[]):WR (Jc1 (k+4) [.ref h.length,.ref D] (h++[.ins "ByDue" []])) λ v h'=>v=.non/\Ex h h'/\IsOr h' 1 h.length rs:=by
 rw[Jqk]
 simp! [Jc9,Jhj]
 refine WR.mono (Jn4 (k:=k) (d.kp (Ex.one h _).kp) hl no) ?_
 rintro _ _ ⟨rfl,g,rfl⟩
 have gO:(h++[L3.IO.ins "ByDue" []]++g)[h.length]?=some (.ins "ByDue" []):=grow Jg
 rw[Jla (k:=k+2) gO]
 simp! [true_and]
 have e:(h++[L3.IO.ins "ByDue" []]++g).set h.length (.ins "ByDue" (ofs1 D))=h++.ins "ByDue" (ofs1 D)::g:=by
  rw[List.append_assoc,List.cons_append,List.nil_append,Ji1]
 rw[e]
 exact⟨.cons _ _ _,D,d.kp (Ex.cons _ _ _).kp,.inl ⟨rfl,Jp⟩⟩
theorem Jt4 {D:Nat}{rs:List RH}(d:IsDu h D rs) (hl:rs.length<=12) (no:∀r∈rs,r.2=[]):WR (Jaz (k+4) [.ref h.length,.ref D] (h++[.ins "ByComing" []])) λ v h'=>v=.non/\Ex h h'/\IsOr h' 2 h.length rs:=by
 rw[Jmb]
 simp! [Jbe,Jd0]
 refine WR.mono (Jn4 (k:=k) (d.kp (Ex.one h _).kp) hl no) ?_
 rintro _ _ ⟨rfl,g,rfl⟩
 have gO:(h++[L3.IO.ins "ByComing" []]++g)[h.length]?=some (.ins "ByComing" []):=grow Jg
 rw[Jla (k:=k+2) gO]
 simp! [true_and]
 have e:(h++[L3.IO.ins "ByComing" []]++g).set h.length (.ins "ByComing" (ofs1 D))=h++.ins "ByComing" (ofs1 D)::g:=by
  rw[List.append_assoc,List.cons_append,List.nil_append,Ji1]
 rw[e]
 exact⟨.cons _ _ _,D,d.kp (Ex.cons _ _ _).kp,.inr (.inl ⟨rfl,Jp⟩)⟩
theorem Jza {D:Nat}{rs:List RH}(d:IsDu h D rs) (hl:rs.length<=12) (h6:∀r∈rs,r.2.length<=6):WR (Jby (k+4) [.ref h.length,.ref D] (h++[.ins "ByRank" []])) λ v h'=>v=.non/\Ex h h'/\IsOr h' 0 h.length rs:=by
 rw[Joo]
 simp! [Jci,Jfu,Jla (k:=k+2) (h:=h++[.ins "ByRank" []]) Jg,Jn8,Joh]
 have x1:Ex h (h++[L3.IO.ins "ByRank" (ofs1 D)]):=.one _ _
 have d1:=d.kp x1.kp
 obtain⟨vs,gD,w⟩:=id d1
 refine WR.mono (Jt2 (k:=k+1) gD w hl h6) ?_
 rintro _ _ ⟨t,kvs,rfl,gt,tv,g,rfl⟩
 refine⟨_,_,_,rfl,grow Jg,by show(1:Nat)<1000;decide,?_⟩
 rw[op1]
 have e:(h++[L3.IO.ins "ByRank" (ofs1 D)]++g).set h.length (.ins "ByRank" (ofs D t))=h++.ins "ByRank" (ofs D t)::g:=by
  rw[List.append_assoc,List.cons_append,List.nil_append,Ji1]
 rw[e]
 have kb:KpB h.length (h++[L3.IO.ins "ByRank" (ofs1 D)]++g) (h++L3.IO.ins "ByRank" (ofs D t)::g):=λ j o hj z=>by
  rw[<- e,List.getElem?_set_ne (Ne.symm hj)]
  exact z
 have ht:t≠h.length:=λ z=>by
  rw[z] at gt
  have:(h++[L3.IO.ins "ByRank" (ofs1 D)]++g)[h.length]?=some (.ins "ByRank" (ofs1 D)):=grow Jg
  rw[this] at gt
  cases gt
 exact⟨.cons _ _ _,D,d.kp (Ex.cons _ _ _).kp,.inr (.inr ⟨rfl,t,kvs,Jp,kb _ _ ht gt,tv⟩)⟩
theorem J5t {h h0:IH}{it:I1}{e:E1}{js:List Nat}{σ:ISt}{xs:List IV}{chk:IH->Prop}(D:IV->IV->IH->Prop) (hit:WR (it σ h0) λ J h1=>J.xs=xs/\J.chk=chk/\h1=h) (hl:xs.length<sizeLine)
  (mono:∀x y h2 h3,KpB h.length h2 h3->D x y h2->D x y h3) (hc:∀h2:IH,Kp h h2->chk h2)
  (he:∀x∈xs,∀h2:IH,Kp h h2->h.length<h2.length->WR (e (some x::js.map λ j=>(σ[j]?).join) h2) λ v h3=>Ex h2 h3/\D x v h3) :
  ∃v h3,Jr it 1 js (gNm 0) Jao e σ h0=.ok v h3/\v=.ref h.length/\∃ys,h3[h.length]?=some (.lst ys)/\ys.length=xs.length/\Kp h h3/\∀(i:Nat) x y,xs[i]?=some x->ys[i]?=some y->D x y h3 :=
 (J11 D hit hl mono hc he).eq
noncomputable def DW (h1:IH) (x y:IV) (h':IH):Prop:=∀(r:RH) (q:Nat),x=tp6 r q->h1[q]?=some (.lst (r.2.map tupH))->∃w:Nat,y=IV.ref w/\w≠h1.length/\h'[w]?=some (wo r)
theorem J10 {S lo:Nat}{ys:List IV}{rs:List RH}{unit:Int}{a0 a2:Option IV}(G:Gd unit rs) (gS:h[S]?=some (.lst ys)) (w:RowT h lo ys rs) :
  ∃h',Jr (iAny (eVar 1)) 1 [] (gNm 0) Jao (Jad (k+5)) [a0,some (.ref S),a2] h=.ok (.ref h.length) h'/\∃vs,h'[h.length]?=some (.lst vs)/\AllH h' vs rs/\Kp h h':=by
 have hb:=Jc
 have few:=G.few
 have wl:=w.len
 have X:=@J5t h h (iAny (eVar 1)) (Jad (k+5)) [] [a0,some (.ref S),a2] ys (λ h'=>h'[S]?=some (.lst ys)) (DW h)
  (by simp! [Jba,gS]) (by omega) (by
   intro x y h2 h3 kb dd r q e g
   obtain⟨w,e1,e2,e3⟩:=dd r q e g
   exact⟨w,e1,e2,kb _ _ e2 e3⟩) (λ h2 q=>q _ _ gS) (by
   intro x hx h2 k2 l2
   obtain⟨n,hn,rfl⟩:=List.mem_iff_getElem.mp hx
   have hn':n<rs.length:=by omega
   obtain⟨q,ey,_,gq⟩:=w.at_ n _ _ (List.getElem?_eq_getElem hn) (List.getElem?_eq_getElem hn')
   have f8:=G.f _ (List.getElem_mem hn')
   have u1:=G.u1
   rw[ey]
   generalize rs[n]=r at gq f8
   have f1:=f8.g1
   have gq2:=k2 _ _ gq
   have a5:atI (IV.str r.1.name::tp5 r q) 5=some (.ref q):=Jxo
   simp! [Jad,Jvt,gq2,a5]
   generalize hs':r.2.map tupH=hs
   refine WR.mono (J4a (k:=k) (hs:=hs) f8.nm (by omega) f8.l1 f8.t1 (λ h1=>Jwu f8.d1 f8.d2) λ h1 z=>hs'▸Jso (z _ _ (by rw[hs'];exact Jg)) f8.ok) ?_
   rintro _ h3 ⟨rfl,g,rfl⟩
   refine⟨rfl,(Ex.one _ _).trans (.cons _ _ _),λ r' q' e' g'=>⟨_,rfl,by rw[List.length_append];omega,?_⟩⟩
   have e':tp6 r q=tp6 r' q':=e'
   simp only[tp6,tp5,IV.tup.injEq,List.cons.injEq,IV.str.injEq,IV.int.injEq,IV.ref.injEq,and_true] at e'
   obtain⟨e1,e2,e3,e4,e5,rfl⟩:=e'
   rw[gq] at g'
   have g':r.2.map tupH=r'.2.map tupH:=by simpa using g'
   rw[<- hs',g']
   unfold wo
   rw[<- e1,<-e2,<-e3,<-e4,<-e5]
   exact Jp)
 obtain⟨v,h3,ev,rfl,vs,gv,lv,k3,dv⟩:=X
 refine⟨h3,ev,vs,gv,⟨by omega,λ i v r a b=>?_⟩,k3⟩
 obtain⟨q,ey,gq⟩:=w.get b
 obtain⟨W,e1,_,e3⟩:=dv i _ _ ey a r q rfl gq
 exact⟨W,e1,e3⟩
theorem J1h {S lo:Nat}{ys:List IV}{rs:List RH}{c unit kind:Int}(gS:h[S]?=some (.lst ys)) (w:RowT h lo ys rs) (D:Dr c unit rs) (hr:rs.length<=7) (hk:kind=0∨kind=1∨kind=2) (no:kind≠0->∀r∈rs,r.2=[]) :
  WR (Jec (k+6) [.int kind,.ref S] h) λ v h'=>∃O,v=.ref O/\Ex h h'/\IsOr h' kind O rs:=by
 have G:=D.gd hr
 rw[Jr8]
 simp! [Jeq]
 have Y:=@J10 k h S lo ys rs unit (some (.int kind)) none G gS w
 generalize Jr (iAny (eVar 1)) 1 [] (gNm 0) Jao (Jad (k+5)) [some (.int kind),some (.ref S),none] h=rc at Y ⊢
 obtain⟨h3,ev,vs,gv,wA,k3⟩:=Y
 rw[ev,Jfp]
 clear ev
 refine WR.mono (duty8 (k:=k+2) gv wA G) ?_
 rintro _ h4 ⟨rfl,x4,d4⟩
 refine⟨rfl,?_⟩
 have x3:=J3m k3
 generalize h3.length=DD at d4 ⊢
 rcases hk with rfl|rfl|rfl
 ·simp! [Jb3,Jer,Jjo,show ¬(0:Int)=1 by decide,show ¬(0:Int)=2 by decide,decide_false]
  refine WR.mono (Jza (k:=k+1) d4 (by omega) λ r hr=>(G.f r hr).ok.few) ?_
  rintro _ h5 ⟨rfl,x5,o⟩
  exact⟨rfl,(x3.trans x4).trans x5,o⟩
 ·simp! [Jb3,decide_true]
  refine WR.mono (J0j (k:=k+1) (kind:=1) d4 (by omega) (no (by decide))) ?_
  rintro _ h5 ⟨rfl,x5,o⟩
  exact⟨rfl,(x3.trans x4).trans x5,o⟩
 ·simp! [Jb3,Jer,show ¬(2:Int)=1 by decide,decide_false,decide_true]
  refine WR.mono (Jt4 (k:=k+1) d4 (by omega) (no (by decide))) ?_
  rintro _ h5 ⟨rfl,x5,o⟩
  exact⟨rfl,(x3.trans x4).trans x5,o⟩
theorem Jxw {O D T:Nat}{rs:List RH}{kvs:List (Key×IV)}{c:Cm}{d:Int}(hd:IsDu h D rs) (gO:h[O]?=some (.ins "ByRank" (ofs D T))) (gT:h[T]?=some (.dct kvs)) (tv:∀x,(valI kvs (.inr x)).getD .non=fV (fstK (rs.map (·.2)) x)) (ha:c.at_<rs.length) (l6:∀r∈rs,r.2.length<=6) :
  WR (Jar (k+3) [.ref O,tupC c,.int d] h) λ v h'=>v=.int (rk (rs.map (·.2)) (act (rs[c.at_]).2 d) c.at_)/\Ex h h':=by
 obtain⟨vs,gD,w⟩:=hd
 obtain⟨j,ej,gj⟩:=w.get (List.getElem?_eq_getElem ha)
 have av:atI vs (c.at_:Int)=some (.ref j):=J9 ej
 have hz:=Jxg ha (d:=d)
 have l:=l6 _ (List.getElem_mem ha)
 generalize rs[c.at_]=r at gj hz l
 rw[Jk7]
 have fd:WR (eFld "duty" (eVar 0) [some (.ref O),some (tupC c),some (.int d)] h) λ v h'=>v=.ref D/\h'=h:=by
  simp! [Jz gO,ol0]
 simp! [Ja3]
 rw[Jv (i:=D) (h1:=h) (Jcy fd) gD dlw (Jbs _)]
 simp! [Jgo gD av]
 refine WR.mono (Jtj (k:=k) gj l) ?_
 rintro _ h1 ⟨i,rfl,li,gi,x1⟩
 simp! [Jz (x1.get gO),ol1]
 have la:=Jxh r.2 d
 refine WR.mono (Jyw (k:=k+1) gi (x1.get gT) tv hz (by omega)) ?_
 rintro _ h2 ⟨rfl,x2⟩
 exact⟨rfl,x1.trans x2⟩
theorem Jrp {O D T:Nat}{rs:List RH}{c:Cm}{d:Int}(hd:IsDu h D rs) (gO:h[O]?=some (.ins "ByRank" (ofs D T))) (ha:c.at_<rs.length) (l6:∀r∈rs,r.2.length<=6) :
  WR (Jbi (k+3) [.ref O,tupC c,.int d] h) λ v h'=>v=.bl (!(act (rs[c.at_]).2 d).isEmpty)/\Ex h h':=by
 obtain⟨vs,gD,w⟩:=hd
 obtain⟨j,ej,gj⟩:=w.get (List.getElem?_eq_getElem ha)
 have av:atI vs (c.at_:Int)=some (.ref j):=J9 ej
 have l:=l6 _ (List.getElem_mem ha)
 generalize rs[c.at_]=r at gj l
 rw[Jnn]
 have fd:WR (eFld "duty" (eVar 0) [some (.ref O),some (tupC c),some (.int d)] h) λ v h'=>v=.ref D/\h'=h:=by
  simp! [Jz gO,ol0]
 simp! [Jbu]
 rw[Jv (i:=D) (h1:=h) (Jcy fd) gD dlw (Jbs _)]
 simp! [Jgo gD av]
 refine WR.mono (Jtj (k:=k) gj l) ?_
 rintro _ h1 ⟨i,rfl,li,gi,x1⟩
 simp! [Jdl,gi,List.length_map]
 refine⟨?_,x1⟩
 cases act r.2 d<;>simp
theorem J0a {O D:Nat}{rs:List RH}{c:Cm}{d:Int}(hd:IsDu h D rs) (gO:h[O]?=some (.ins "ByDue" (ofs1 D))) (ha:c.at_<rs.length):Ja0 (k+3) [.ref O,tupC c,.int d] h=.ok (.int (c.come+(rs[c.at_]).1.due)) h:=by
 obtain⟨vs,gD,w⟩:=hd
 obtain⟨j,ej,gj⟩:=w.get (List.getElem?_eq_getElem ha)
 have av:atI vs (c.at_:Int)=some (.ref j):=J9 ej
 generalize rs[c.at_]=r at gj
 refine Jcy ?_
 rw[Jmc]
 simp! [Jbf,Jz gO,ql0]
 rw[Jyh]
 simp! [Jk1]
 rw[Jv (i:=D) (h1:=h) rfl gD dlw (Jbs _)]
 simp! [Jgo gD av,Jz gj,fl3]
theorem Jt1 {O:Nat}{c:Cm}{d:Int}:J8 (k+1) [.ref O,tupC c,.int d] h=.ok (.int c.come) h:=by
 refine Jcy ?_
 rw[Jix]
 simp! [Jan]
theorem Jn1 {v w:IV}{O:Nat}:Ja1 (k+1) [.ref O,v,w] h=.ok (.bl false) h:=by
 refine Jcy ?_
 rw[Jop]
 simp! [Jcj]
noncomputable def Jz5 (kind:Int) (rs:List RH) (c:Cm) (d:Int):Int:=if kind=1 then c.come+(rs.getD c.at_ rd).1.due else if kind=2 then c.come else rk (rs.map (·.2)) (act (rs.getD c.at_ rd).2 d) c.at_
noncomputable def Jxk (kind:Int) (rs:List RH) (c:Cm) (d:Int):Bool:=if kind=1 then false else if kind=2 then false else !(act (rs.getD c.at_ rd).2 d).isEmpty
theorem Jqj {rs:List RH}{n:Nat}(hn:n<rs.length):rs.getD n rd=rs[n]:=by rw[List.getD_eq_getElem?_getD,List.getElem?_eq_getElem hn];rfl
theorem Jvy {kind:Int}{O:Nat}{rs:List RH}{c:Cm}{d:Int}{oe e1 e2:E1}{σ:ISt}(o:IsOr h kind O rs) (ho:oe σ h=.ok (.ref O) h) (h1:e1 σ h=.ok (tupC c) h) (h2:e2 σ h=.ok (.int d) h) (ha:c.at_<rs.length) (l6:∀r∈rs,r.2.length<=6) :
  WR (eDot (pg (k+3)) "rank_of" 2 oe (Ja e1 (Ja e2 aNil)) σ h) λ v h'=>v=.int (Jz5 kind rs c d)/\Ex h h':=by
 obtain⟨D,hd,⟨rfl,gO⟩|⟨rfl,gO⟩|⟨rfl,T,kvs,gO,gT,tv⟩⟩:=o
 ·rw[Jv (i:=O) (h1:=h) ho gO qlr (Jma _)]
  dsimp! [h1,h2,J0a hd gO ha]
  exact⟨by rw[Jz5,if_pos rfl,Jqj ha],.refl _⟩
 ·rw[Jv (i:=O) (h1:=h) ho gO qlr (Jiw _)]
  dsimp! [h1,h2,Jt1]
  exact⟨by rw[Jz5,if_neg (by decide),if_pos rfl],.refl _⟩
 ·rw[Jv (i:=O) (h1:=h) ho gO olr (Jk5 _)]
  dsimp! [h1,h2]
  refine WR.mono (Jxw (k:=k) hd gO gT tv ha l6) ?_
  rintro _ h3 ⟨rfl,x3⟩
  exact⟨by rw[Jz5,if_neg (by decide),if_neg (by decide),Jqj ha],x3⟩
theorem Jtt {kind:Int}{O:Nat}{rs:List RH}{c:Cm}{d:Int}{oe e1 e2:E1}{σ:ISt}(o:IsOr h kind O rs) (ho:oe σ h=.ok (.ref O) h) (h1:e1 σ h=.ok (tupC c) h) (h2:e2 σ h=.ok (.int d) h) (ha:c.at_<rs.length) (l6:∀r∈rs,r.2.length<=6) :
  WR (eDot (pg (k+3)) "holds" 2 oe (Ja e1 (Ja e2 aNil)) σ h) λ v h'=>v=.bl (Jxk kind rs c d)/\Ex h h':=by
 obtain⟨D,hd,⟨rfl,gO⟩|⟨rfl,gO⟩|⟨rfl,T,kvs,gO,gT,tv⟩⟩:=o
 ·rw[Jv (i:=O) (h1:=h) ho gO qlh (Jol _)]
  dsimp! [h1,h2,Jn1]
  exact⟨by rw[Jxk,if_pos rfl],.refl _⟩
 ·rw[Jv (i:=O) (h1:=h) ho gO qlh (Jk3 _)]
  dsimp! [h1,h2,Jn1]
  exact⟨by rw[Jxk,if_neg (by decide),if_pos rfl],.refl _⟩
 ·rw[Jv (i:=O) (h1:=h) ho gO olh (Jng _)]
  dsimp! [h1,h2]
  refine WR.mono (Jrp (k:=k) hd gO ha l6) ?_
  rintro _ h3 ⟨rfl,x3⟩
  exact⟨by rw[Jxk,if_neg (by decide),if_neg (by decide),Jqj ha],x3⟩
seal WS in
theorem J38 {S lo:Nat}{ys:List IV}{rs:List RH}(gS:h[S]?=some (.lst ys)) (w:RowT h lo ys rs) (hl:rs.length<=12) (h6:∀r∈rs,r.2.length<=6) :
  WR (Jg3 (k+1) [.ref S] h) λ v h'=>∃i kvs,v=.ref i/\h'[i]?=some (.dct kvs)/\(∀x,(valI kvs (.inr x)).getD .non=fV (fstK (rs.map (·.2)) x))/\Ex h h':=by
 have hb:=Jc
 have wl:=w.len
 rw[Jt8]
 simp! [Jf5,Jlp,Jre,Jzy,grow gS]
 refine Jbw (λ n σ h'=>∃kvs a b c d e,h'=h++[L3.IO.dct kvs]/\σ=[some (.ref S),some (.ref h.length),a,b,c,d,e]/\kvs.length<=6*n/\Told kvs ((rs.map (·.2)).take n) n []) (λ _ _ _ q=>by obtain⟨_,_,_,_,_,_,rfl,_⟩:=q;exact grow gS) ?_ ?_ ⟨[],_,_,_,_,_,rfl,rfl,by simp,λ x=>by simp[valI,fstK,has]⟩
 ·rintro n hn _ _ ⟨kvs,a,b,c,d,e,rfl,rfl,ln,td⟩
  rw[Jyc]
  rw[Jcs] at hn
  have hn':n<rs.length:=by omega
  obtain⟨q,ey,_,gq⟩:=w.at_ n _ _ (List.getElem?_eq_getElem hn) (List.getElem?_eq_getElem hn')
  have hl6:=h6 _ (List.getElem_mem hn')
  have hm:n<(rs.map (·.2)).length:=by rw[List.length_map];exact hn'
  have tk:(rs.map (·.2)).take (n+1)=(rs.map (·.2)).take n++[(rs[n]).2]:=by rw[List.take_succ_eq_append_getElem hm,List.getElem_map]
  rw[tk,ey]
  generalize rs[n]=r at gq hl6
  have a5:atI (IV.str r.1.name::tp5 r q) 5=some (.ref q):=Jxo
  simp! [Jl6,Jtp,Jtq,Jkm,a5,Jba,grow gq,List.length_cons,List.length_nil]
  generalize r.2=hs at gq hl6
  refine Jbw (λ m σ h'=>∃kvs' c d e,h'=h++[L3.IO.dct kvs']/\σ=[some (.ref S),some (.ref h.length),some (.int (n:Int)),some (tp6 r q),c,d,e]/\kvs'.length<=6*n+m/\Told kvs' ((rs.map (·.2)).take n) n (hs.take m)) (λ _ _ _ z=>by obtain⟨_,_,_,_,rfl,_⟩:=z;exact grow gq) ?_ ?_ ⟨kvs,c,d,e,rfl,rfl,by omega,td⟩
  ·rintro m hm _ _ ⟨kvs',c,d,e,rfl,rfl,lm,tm⟩
   have hm':m<hs.length:=by simpa using hm
   rw[List.getElem_map,List.take_succ_eq_append_getElem hm']
   generalize hs[m]=a at *
   simp! [Jl6,Jtp,Jtq,Jkl,tupH,List.length_cons,List.length_nil]
   rw[Jzx (i:=h.length) (h1:=h++[L3.IO.dct kvs']) rfl Jg Jrl]
   simp! [true_and]
   cases ev:valI kvs' (.inr a.1) with
   | some w' =>
    rw[Jvv Jg ev]
    exact⟨kvs',_,_,_,rfl,rfl,by omega,tm.old ev⟩
   | none =>
    rw[Jvu Jg ev (by omega),Jn8]
    exact⟨_,_,_,_,rfl,rfl,by rw[List.length_append,List.length_singleton];omega,tm.new ev⟩
  ·rintro _ _ ⟨kvs',c,d,e,rfl,rfl,lm,tm⟩
   rw[List.length_map] at lm tm
   rw[List.take_of_length_le (Nat.le_refl _)] at tm
   have ltn:((rs.map (·.2)).take n).length=n:=by rw[List.length_take];omega
   exact⟨kvs',_,_,_,_,_,rfl,rfl,by omega,tm.next ltn⟩
 ·rintro _ _ ⟨kvs,a,b,c,d,e,rfl,rfl,ln,td⟩
  simp! [Jlq]
  refine⟨_,kvs,rfl,Jg,λ x=>?_,.one _ _⟩
  have:=td x
  rw[Jcs,List.take_of_length_le (by rw[List.length_map];omega)] at this
  rw[this]
  cases fstK (rs.map (·.2)) x with
  | some i=>rfl
  | none=>simp[has,fV]
end
noncomputable def cd:Cm:=⟨0,0,0,0⟩
noncomputable def keyN (kind:Int) (rs:List RH) (cs:List Cm) (ds:List Int) (n:Nat):List Int:=[Jz5 kind rs (cs.getD n cd) (ds.getD n 0),if Jxk kind rs (cs.getD n cd) (ds.getD n 0)=true then 0 else 1,(n:Int)]
noncomputable def keyV (kind:Int) (rs:List RH) (cs:List Cm) (ds:List Int) (v:IV):List Int:=match v with
 | .int x=>keyN kind rs cs ds x.toNat
 | _=>[0,0,0]
theorem J2i:∀{a b:List Int},a.length=b.length->ltL a b=false->ltL b a=false->a=b
 | [],[],_,_,_=>rfl
 | a::as,b::bs,l,h1,h2=>by
  unfold ltL at h1 h2
  by_cases e:a=b
  ·subst e
   rw[if_pos rfl] at h1 h2
   rw[J2i (by simpa using l) h1 h2]
  ·rw[if_neg e,decide_eq_false_iff_not] at h1
   rw[if_neg (Ne.symm e),decide_eq_false_iff_not] at h2
   omega
 | [],_::_,l,_,_=>by simp at l
 | _::_,[],l,_,_=>by simp at l
theorem Jtz (f:Nat->List Int):∀(n j:Nat),j<n->ltL (f j) (f (botT f n))=false
 | 0,j,h=>by omega
 | 1,j,h=>by
  obtain rfl:j=0:=by omega
  exact Jnw _
 | n+2,j,h=>by
  rw[Jro f (by omega:0<n+1)]
  split
  ·rename_i c
   by_cases e:j=n+1
   ·subst e
    exact Jnw _
   ·cases z:ltL (f j) (f (n+1)) with
    | false=>rfl
    | true=>exact absurd (Jnx z c) (by rw[Jtz f (n+1) j (by omega)];exact Bool.false_ne_true)
  ·rename_i c
   by_cases e:j=n+1
   ·subst e
    exact Bool.eq_false_iff.mpr c
   ·exact Jtz f (n+1) j (by omega)
theorem Jra {w:Nat}{g:Nat->List Int}:∀{ps:List Nat},(∀p∈ps,(g p).length=w)->Jq9 w (ps.map λ p=>IV.tup ((g p).map .int))=some (ps.map g)
 | [],_=>rfl
 | p::ps,q=>by
  have ih:=Jra (g:=g) (ps:=ps) λ p hp=>q p (List.mem_cons_of_mem _ hp)
  unfold Jq9 at ih ⊢
  have e:tupZ w (.tup ((g p).map .int))=some (g p):=by
   unfold tupZ
   dsimp only
   rw[Jca]
   dsimp only
   rw[if_pos (q p List.mem_cons_self)]
  rw[List.map_cons,List.mapM_cons,ih,e]
  rfl
theorem Jvr {w:Nat}{g:Nat->List Int}{ps:List Nat}(ne:ps≠[]) (hl:∀p∈ps,(g p).length=w):wide (ps.map λ p=>IV.tup ((g p).map .int))=w:=by
 cases ps with
 | nil=>exact absurd rfl ne
 | cons p ps =>
  show((g p).map IV.int).length=w
  rw[List.length_map]
  exact hl p List.mem_cons_self
theorem J1y {g:Nat->List Int}{ps:List Nat}(ne:ps≠[]):Ja8 (ps.map λ p=>IV.tup ((g p).map .int))=none:=by
 cases ps with
 | nil=>exact absurd rfl ne
 | cons p ps=>rfl
section
variable {k:Nat}{h:IH}
theorem J5j {i w:Nat}{ps:List Nat}{g:Nat->List Int}(hi:h[i]?=some (.lst (ps.map λ p=>.tup ((g p).map .int)))) (ne:ps≠[]) (hl:∀p∈ps,(g p).length=w) :
  WR (Jui (.ref i) h) λ v h'=>∃p∈ps,v=.tup ((g p).map .int)/\(∀p'∈ps,ltL (g p') (g p)=false)/\h'=h:=by
 unfold Jui
 simp only[hi,J1y ne,Jvr ne hl,Jra hl,List.length_map]
 have lt:=Jt0 (λ i=>(ps.map g).getD i []) (j:=ps.length) (List.length_pos_iff.mpr ne)
 have le:=Jtz (λ i=>(ps.map g).getD i []) ps.length
 generalize botT (λ i=>(ps.map g).getD i []) ps.length=b at lt le ⊢
 rw[List.getElem?_map,List.getElem?_eq_getElem lt]
 refine⟨ps[b],List.getElem_mem lt,rfl,λ p' hp'=>?_,rfl⟩
 obtain⟨j,hj,rfl⟩:=List.mem_iff_getElem.mp hp'
 have:=le j hj
 simpa [List.getD_eq_getElem?_getD,List.getElem?_eq_getElem hj,List.getElem?_eq_getElem lt] using this
theorem J12 {i w:Nat}{ps:List Nat}{g:Nat->List Int}(hi:h[i]?=some (.lst (ps.map λ p=>.tup ((g p).map .int)))) (hw:0<w) (hl:∀p∈ps,(g p).length=w) (l64:ps.length<64) :
  WR (Jti (.ref i) h) λ v h'=>∃qs:List Nat,qs.length=ps.length/\(∀q∈qs,q∈ps)/\v=.ref h.length/\h'=h++[.lst (qs.map λ p=>.tup ((g p).map .int))]:=by
 by_cases ne:ps=[]
 ·subst ne
  unfold Jti
  simp only[hi]
  exact⟨[],rfl,by simp,rfl,rfl⟩
 ·unfold Jti
  simp only[hi,List.length_map]
  rw[Jvr ne hl,if_pos ⟨l64,hw⟩,Jra hl]
  have lt:=Jy6 (ps.map g) (n:=ps.length)
  have pm:=Jn0 (ps.map g) (n:=ps.length) (List.length_pos_iff.mpr ne)
  refine⟨(ordT (ps.map g) ps.length).map λ i=>ps.getD i 0,?_,?_,rfl,?_⟩
  ·rw[List.length_map,pm.length_eq,List.length_range]
  ·intro q hq
   obtain⟨i,hi',rfl⟩:=List.mem_map.mp hq
   rw[List.getD_eq_getElem?_getD,List.getElem?_eq_getElem (lt i hi')]
   exact List.getElem_mem _
  ·rw[List.map_map]
   refine congrArg (λ l=>h++[L3.IO.lst l]) (List.map_congr_left λ i hi'=>?_)
   have:=lt i hi'
   simp[List.getD_eq_getElem?_getD,List.getElem?_eq_getElem this]
theorem J5a {xs ys:List IV}{Q:IV->IH->Prop}(hx:xs≠[]) (hy:ys≠[]) (hl:xs.length+ys.length<=sizeLine):WR (Jo (.tup xs) (.tup ys) h) Q=Q (.tup (xs++ys)) h:=by
 unfold Jo
 dsimp only
 rw[if_pos ⟨hx,hy,hl⟩]
 rfl
theorem ols {D T:Nat}:(ofs D T).lookup ("standing":Str)=none:=by kernel_rfl
theorem qls {D:Nat}:(ofs1 D).lookup ("standing":Str)=none:=by kernel_rfl
theorem olp {D T:Nat}:(ofs D T).lookup ("pick":Str)=none:=by kernel_rfl
theorem qlp {D:Nat}:(ofs1 D).lookup ("pick":Str)=none:=by kernel_rfl
noncomputable abbrev stv (kind:Int) (rs:List RH) (c:Cm) (d:Int):IV:=.tup [.int (Jz5 kind rs c d),.int (if Jxk kind rs c d=true then 0 else 1)]
theorem Juy {kind:Int}{O:Nat}{rs:List RH}{c:Cm}{d:Int}(o:IsOr h kind O rs) (ha:c.at_<rs.length) (l6:∀r∈rs,r.2.length<=6) :
  WR (Jw (k+4) [.ref O,tupC c,.int d] h) λ v h'=>v=stv kind rs c d/\Ex h h':=by
 have hb:=Jc
 rw[Jk8]
 dsimp! [Ja4]
 refine WR.mono (Jvy (k:=k) (c:=c) (d:=d) o rfl rfl rfl ha l6) ?_
 rintro _ h1 ⟨rfl,x1⟩
 try simp(implicitDefEqProofs:=false) only[Jil,Jcw,Jdu,Jim,Jpp,Jdw,Jdv,Jdt,Jih,Jij,Jcv,Jik,Jii,Jd7,Je,Jfp,Jzw,Jnk,Jon,Jhw,Jpo,Jhu,Jpm,Jph,Jdp,Jif,Jdq,Jdr,Ja9,Jdi,Jbm,Jig,Jh5,Jdj,Jdm,Jpd,Jib,Jh1,Jbo,Jbp,Jpn,Jhz,Jht,Jie,Jh8,Jh7,Jdk,Jh6,Jic,Jdh,Jpj,Jpi,Jpg,Jpf,Jpe,Jpk,Jhx,Jh9,Jhv,Jds,Jia,Jhy,Jpl,Jcu,Jh0,Jdn,Jdo,Jh2,Jh4,Jh3,Jid,Jbn,Krz,Ksz,Kvz,Ktz,Kuz]
 refine WR.mono (Jtt (k:=k) (c:=c) (d:=d) (o.kp x1.kp) rfl rfl rfl ha l6) ?_
 rintro _ h2 ⟨rfl,x2⟩
 have x:=x1.trans x2
 simp! [List.length_cons,List.length_nil,stv]
 cases Jxk kind rs c d with
 | true=>exact⟨λ _=>⟨by omega,rfl,x⟩,λ z=>by cases z⟩
 | false=>exact⟨(λ z=>by cases z),λ _=>⟨by omega,rfl,x⟩⟩
theorem Joi {kind:Int}{O:Nat}{rs:List RH}{c:Cm}{d:Int}{oe e1 e2:E1}{σ:ISt}(o:IsOr h kind O rs) (ho:oe σ h=.ok (.ref O) h) (h1:e1 σ h=.ok (tupC c) h) (h2:e2 σ h=.ok (.int d) h) (ha:c.at_<rs.length) (l6:∀r∈rs,r.2.length<=6) :
  WR (eDot (pg (k+4)) "standing" 2 oe (Ja e1 (Ja e2 aNil)) σ h) λ v h'=>v=stv kind rs c d/\Ex h h':=by
 have so:=Juy (k:=k) (d:=d) o ha l6
 obtain⟨D,hd,⟨rfl,gO⟩|⟨rfl,gO⟩|⟨rfl,T,kvs,gO,gT,tv⟩⟩:=o
 ·rw[Jv (i:=O) (h1:=h) ho gO qls (Jk4 _)]
  dsimp! [h1,h2]
  exact so
 ·rw[Jv (i:=O) (h1:=h) ho gO qls (Jhg _)]
  dsimp! [h1,h2]
  exact so
 ·rw[Jv (i:=O) (h1:=h) ho gO ols (Jkh _)]
  dsimp! [h1,h2]
  exact so
theorem J4n {kind:Int}{O R W N:Nat}{rs:List RH}{cs:List Cm}{ps:List Nat}{ds:List Int}(h0:h[0]?=some (.tab "Order.pick")) (o:IsOr h kind O rs) (l6:∀r∈rs,r.2.length<=6) (hc:∀c∈cs,c.at_<rs.length)
  (gR:h[R]?=some (.lst (cs.map tupC))) (gW:h[W]?=some (.lst (ps.map λ p:Nat=>.int p))) (gN:h[N]?=some (.lst (ds.map .int))) (ld:ds.length=cs.length) (ne:ps≠[]) (hp:∀p∈ps,p<cs.length) :
  WR (Jac (k+5) [.ref O,.ref R,.ref W,.ref N] h) λ v h'=>∃p∈ps,v=.int (p:Int)/\(∀p'∈ps,ltL (keyN kind rs cs ds p') (keyN kind rs cs ds p)=false)/\Ex h h':=by
 have hb:=Jc
 rw[Jqm]
 dsimp! [Jdb]
 rw[J5i h0 rfl]
 refine WR.mono (Jz0 (kf:=keyV kind rs cs ds) (n:=3) gW (by simpa using ne) ?_ ?_) ?_
 ·intro y hy h1 x1
  obtain⟨p,hp',rfl⟩:=List.mem_map.mp hy
  have lp:=hp p hp'
  have ac:atI (cs.map tupC) (p:Int)=some (tupC cs[p]):=J9 (by rw[List.getElem?_map,List.getElem?_eq_getElem lp];rfl)
  have ad:atI (ds.map IV.int) (p:Int)=some (.int (ds[p]'(by omega))):=J9 (by rw[List.getElem?_map,List.getElem?_eq_getElem];rfl)
  have ek:keyV kind rs cs ds (.int (p:Int))=[Jz5 kind rs cs[p] (ds[p]'(by omega)),if Jxk kind rs cs[p] (ds[p]'(by omega))=true then 0 else 1,(p:Int)]:=by
   show keyN kind rs cs ds (Int.toNat (p:Int))=_
   rw[Int.toNat_natCast]
   unfold keyN
   rw[List.getD_eq_getElem?_getD,List.getD_eq_getElem?_getD,List.getElem?_eq_getElem lp,List.getElem?_eq_getElem (show p<ds.length by omega)]
   rfl
  have hc':=hc _ (List.getElem_mem lp)
  rw[ek]
  generalize cs[p]=c at ac hc'
  generalize ds[p]'(by omega)=d at ad
  simp only[List.map_cons,List.map_nil,List.getElem?_cons_succ,List.getElem?_cons_zero,Option.join_some]
  generalize hσ:([some (.int (p:Int)),some (.ref N),some (.ref R),some (.ref O)]:ISt)=σ
  have e1:eBin opIx (eVar 2) (eVar 0) σ h1=.ok (tupC c) h1:=Jcy (by subst hσ;simp! [Jam,x1.get gR,ac])
  have e2:eBin opIx (eVar 1) (eVar 0) σ h1=.ok (.int d) h1:=Jcy (by subst hσ;simp! [Jam,x1.get gN,ad])
  dsimp! [Jfi]
  refine WR.mono (Joi (k:=k) (o.kp x1.kp) (by subst hσ;rfl) e1 e2 hc' l6) ?_
  rintro _ h2 ⟨rfl,x2⟩
  subst hσ
  simp! [stv,List.length_cons,List.length_nil]
  refine⟨by omega,?_⟩
  rw[J5a (by simp) (by simp) (by simp;omega)]
  exact⟨rfl,x2⟩
 ·intro y hy
  obtain⟨p,hp',rfl⟩:=List.mem_map.mp hy
  rfl
 ·rintro v h1 ⟨hv,le,x1⟩
  obtain⟨p,hp',rfl⟩:=List.mem_map.mp hv
  refine⟨p,hp',rfl,λ p' q=>?_,x1⟩
  have:=le _ (List.mem_map.mpr ⟨p',q,rfl⟩)
  simpa only[keyV,Int.toNat_natCast] using this
theorem Jvx {kind:Int}{O:Nat}{rs:List RH}{oe:E1}{a:A1}{σ:ISt}{v1 v2 v3:IV}{P:IV->IH->Prop}(o:IsOr h kind O rs) (ho:oe σ h=.ok (.ref O) h) (h1:a σ h=.ok [v1,v2,v3] h) (q:WR (Jac k [.ref O,v1,v2,v3] h) P) :
  WR (eDot (pg k) "pick" 3 oe a σ h) P:=by
 obtain⟨D,hd,⟨rfl,gO⟩|⟨rfl,gO⟩|⟨rfl,T,kvs,gO,gT,tv⟩⟩:=o
 ·rw[Jv (i:=O) (h1:=h) ho gO qlp (Jqh _),h1]
  dsimp! [Jcw]
  exact q
 ·rw[Jv (i:=O) (h1:=h) ho gO qlp (Jl9 _),h1]
  dsimp! [Jcw]
  exact q
 ·rw[Jv (i:=O) (h1:=h) ho gO olp (Jom _),h1]
  dsimp! [Jcw]
  exact q
end
noncomputable def gI (v:IV):PyData:=match v with
 | .int x=>.int x
 | .tup xs=>.tuple (xs.map λ v=>match v with|.int x=>.int x|_=>.none)
 | _=>.none
theorem J05 (ns:List Int):PyData.canLayAll0 (ns.map PyData.int)=true:=by
 induction ns with
 | nil=>rfl
 | cons n ns ih=>rw[List.map_cons,PyData.canLayAll0,ih];rfl
noncomputable def Pl (v:IV):Prop:=(∃x,v=.int x)∨∃ns:List Int,v=.tup (ns.map .int)
section
variable {k:Nat}{h:IH}
theorem J2j (n:Nat):∀ns:List Int,(ns.map IV.int).mapM (toD h (n+1))=some (ns.map PyData.int)
 | []=>rfl
 | x::ns=>by
  rw[List.map_cons,List.mapM_cons,J2j n ns]
  rfl
theorem J3n (ns:List Int):gI (.tup (ns.map .int))=.tuple (ns.map PyData.int):=by
 show PyData.tuple _=_
 rw[List.map_map]
 rfl
theorem d_pl {v:IV}(n:Nat) (q:Pl v):toD h (n+2) v=some (gI v)/\(gI v).canLay0=true:=by
 rcases q with⟨x,rfl⟩|⟨ns,rfl⟩
 ·exact⟨rfl,rfl⟩
 ·rw[J3n]
  refine⟨?_,by rw[PyData.canLay0];exact J05 ns⟩
  show((ns.map IV.int).mapM (toD h (n+1))).map PyData.tuple=_
  rw[J2j]
  rfl
theorem J0e {n i:Nat}{xs:List IV}(hi:h[i]?=some (.lst xs)) (q:∀x∈xs,Pl x):toD h (n+3) (.ref i)=some (.list (xs.map gI)):=by
 rw[Jgx hi,Jug (g:=gI) λ x hx=>(d_pl n (q x hx)).1]
 rfl
theorem Jqp {xs:List IV}(q:∀x∈xs,Pl x):PyData.canLayAll0 (xs.map gI)=true:=J2h λ x hx=>(d_pl (h:=[]) 0 (q x hx)).2
theorem Jyd {i j:Nat}{xs:List IV}(hi:h[i]?=some (.lst xs)) (hj:h[j]?=some (.lst [])) (q:∀x∈xs,Pl x):cEq (.ref i) (.ref j) h=.ok (.bl xs.isEmpty) h:=by
 have e2:toD h 6 (.ref j)=some (.list []):=by rw[Jgx hj];rfl
 have e3:Jiv (.ref i) (.ref j) h=some xs.isEmpty:=by
  unfold Jiv
  rw[J0e hi q,e2]
  dsimp only
  rw[if_pos ⟨by rw[PyData.canLay0];exact Jqp q,by rw[PyData.canLay0,PyData.canLayAll0]⟩,PyData.eqv]
  cases xs with
  | nil=>rw[List.map_nil,PyData.eqvAll];rfl
  | cons a as=>rw[List.map_cons,PyData.eqvAll];rfl;all_goals intros;simp_all
 unfold cEq
 have e4:Jku (.ref i) (.ref j)=none:=rfl
 rw[e4]
 dsimp only
 rw[e3]
theorem J5c (b:Bool){Q:IV->IH->Prop}:WR (J0t (.bl b) h) Q=Q (.int (if b then 1 else 0)) h:=rfl
seal WS in
theorem J6p {kind d p:Int}{S lo T:Nat}{ys:List IV}{rs:List RH}{kvs:List (Key×IV)}{c:Cm}(hk:kind=0∨kind=1∨kind=2) (hS:h[S]?=some (.lst ys)) (w:RowT h lo ys rs) (gT:h[T]?=some (.dct kvs)) (tv:∀x,(valI kvs (.inr x)).getD .non=fV (fstK (rs.map (·.2)) x)) (l6:∀r∈rs,r.2.length<=6) (ha:c.at_<rs.length) :
  WR (Ji3 (k+1) [.int kind,.ref S,.ref T,tupC c,.int d,.int p] h) λ v h'=>v=.tup [.int (Jz5 kind rs c d),.int (if Jxk kind rs c d=true then 0 else 1),.int p]/\Ex h h':=by
 have hb:=Jc
 obtain⟨q,e,gq⟩:=w.get (List.getElem?_eq_getElem ha)
 have ea:=J9 e
 have eR:=λ (kd:Int)=>Jz5.eq_1 kd rs c d
 have eH:=λ (kd:Int)=>Jxk.eq_1 kd rs c d
 have hz:=Jxg ha (d:=d)
 have l:=l6 _ (List.getElem_mem ha)
 rw[Jqj ha] at eR eH
 generalize rs[c.at_]=r at ea gq eR eH hz l
 rw[Jv7]
 rcases hk with rfl|rfl|rfl
 case inr.inl =>
  simp! [Jco,Jep,Jl6,Jtp,Jtq,decide_true,Jam,hS,ea,List.length_cons,List.length_nil]
  exact⟨by omega,by simp[eR,eH],.refl _⟩
 case inr.inr =>
  simp! [Jco,Jep,Jir,Jl6,Jtp,Jtq,show ¬(2:Int)=1 by decide,decide_false,decide_true,List.length_cons,List.length_nil]
  exact⟨by omega,by simp[eR,eH],.refl _⟩
 have a5:atI (IV.str r.1.name::tp5 r q) 5=some (.ref q):=Jxo
 simp! [Jco,Jep,Jir,Jm4,Jl6,Jtp,Jtq,show ¬(0:Int)=1 by decide,show ¬(0:Int)=2 by decide,decide_false,List.length_cons,List.length_nil]
 refine WR.mono (Jvs (h:=h) (n:=3) (st:=stT) (xs:=r.2.map tupH) (chk:=λ h'=>h'[q]?=some (.lst (r.2.map tupH))) (p:=avV d) (f:=λ v=>fstV (rs.map (·.2)) (frs v)) ?_ (by rw[List.length_map];omega) (λ h2 kk=>kk _ _ gq) ?_ ?_ ?_) ?_
 ·simp! [Jam,hS,ea,a5,Jba,gq]
 ·intro x hx ls h2 hls
  obtain⟨b,_,rfl⟩:=List.mem_map.mp hx
  match ls,hls with
  | [l0,l1,l2],_=>exact⟨rfl,rfl⟩
 ·intro x hx h2 kk
  obtain⟨b,_,rfl⟩:=List.mem_map.mp hx
  simp only[List.map_cons,List.map_nil,List.getElem?_cons_succ,List.getElem?_cons_zero,Option.join_some]
  simp! [Jj6,stT,tupH,avV,decide_eq_true_eq,decide_eq_false_iff_not]
  exact⟨λ z=>⟨by simp[z],.refl _⟩,λ z=>⟨by simp[z],.refl _⟩⟩
 ·intro x hx qx h2 kk
  obtain⟨b,hb',rfl⟩:=List.mem_map.mp hx
  have ne:=hz b.1 (List.mem_map.mpr ⟨b,List.mem_filter.mpr ⟨hb',qx⟩,rfl⟩)
  have e1:=tv b.1
  cases ef:fstK (rs.map (·.2)) b.1 with
  | none=>exact absurd ef ne
  | some jj =>
   rw[ef] at e1
   have e2:valI kvs (.inr b.1)=some (.int (jj:Int)):=by
    cases ev:valI kvs (.inr b.1) with
    | none=>rw[ev] at e1;cases e1
    | some v=>rw[ev] at e1;rw[show v=.int (jj:Int) from e1]
   simp only[List.map_cons,List.map_nil,List.getElem?_cons_succ,List.getElem?_cons_zero,Option.join_some]
   simp! [Jj5,stT,tupH,frs]
   rw[Jzz (kk _ _ gT) e2]
   exact⟨by simp only[fstV,fZ,ef],.refl _⟩
 rintro _ _ ⟨rfl,g,rfl⟩
 have la:=Jxh r.2 d
 have em:((r.2.map tupH).filter (avV d)).map (λ v=>fstV (rs.map (·.2)) (frs v))=((act r.2 d).map (fZ (rs.map (·.2)))).map IV.int:=by
  rw[show(λ v=>fstV (rs.map (·.2)) (frs v))=fstV (rs.map (·.2))∘frs from rfl,<-List.map_map,Jts,List.map_map,List.map_map]
  rfl
 rw[em]
 have x1:Ex h (h++L3.IO.lst (((act r.2 d).map (fZ (rs.map (·.2)))).map IV.int)::g):=.cons _ _ _
 have gH:(h++L3.IO.lst (((act r.2 d).map (fZ (rs.map (·.2)))).map IV.int)::g)[h.length]?=some (.lst (((act r.2 d).map (fZ (rs.map (·.2)))).map IV.int)):=Jp
 generalize h++L3.IO.lst (((act r.2 d).map (fZ (rs.map (·.2)))).map IV.int)::g=h1 at x1 gH ⊢
 generalize h.length=H at gH ⊢
 have ok:∀x∈((act r.2 d).map (fZ (rs.map (·.2)))).map IV.int,Pl x:=λ x hx=>by
  obtain⟨n,_,rfl⟩:=List.mem_map.mp hx
  exact .inl ⟨n,rfl⟩
 have em2:(((act r.2 d).map (fZ (rs.map (·.2)))).map IV.int).isEmpty=(act r.2 d).isEmpty:=by cases act r.2 d<;>rfl
 have rkE:[(c.at_:Int)]++(act r.2 d).map (fZ (rs.map (·.2)))=rkNs (rs.map (·.2)) (act r.2 d) c.at_:=rfl
 have lz:((act r.2 d).map (fZ (rs.map (·.2)))).length<=6:=by rw[List.length_map];omega
 generalize (act r.2 d).map (fZ (rs.map (·.2)))=zs at gH ok em2 rkE lz
 simp! [Jm5,Jrc,Jg,grow gH,List.length_map,List.length_cons,List.length_nil]
 refine⟨by omega,by omega,?_⟩
 rw[Jz2 (ns:=rkNs (rs.map (·.2)) (act r.2 d) c.at_) (by rw[<- rkE,List.map_append];exact Jg) (by simp[rkNs])]
 refine⟨by omega,?_⟩
 rw[Jyd (grow (grow (grow gH))) Jg ok,em2]
 simp! [J5c]
 refine⟨by omega,?_,((x1.trans (.one _ _)).trans (.one _ _)).trans (.one _ _)⟩
 rw[eR,eH]
 cases act r.2 d<;>simp[rk]
theorem J3i {c:Cm}{z:Int}{q:Nat}{hs:List Hd}(gq:h[q]?=some (.lst (hs.map tupH))) (l6:hs.length<=6) (n1:1<=c.len) :
  WR (Jb0 (k+1) [tupC c,.ref q,.int z] h) λ v h'=>∃d:Int,v=.int d/\Ex h h':=by
 have hb:=Jc
 have l5:(Int.natAbs 5).log2<9000:=by decide
 rw[Jos]
 simp! [Jcn,Jf1,Jba,grow gq,l5,List.length_cons,List.length_nil,show(0:Int)<5 by decide,show(0:Int)<c.len by omega]
 refine⟨by omega,?_⟩
 refine Jbw (λ n σ h'=>∃(i:Nat) (zs:List Int) (b c' d e:Option IV),h'[i]?=some (.lst (zs.map .int))/\zs.length=2+3*n/\Ex h h'/\σ=[some (tupC c),some (.ref q),some (.int z),some (.ref i),b,c',d,e]) (λ _ _ _ w=>by obtain⟨_,_,_,_,_,_,_,_,x,_⟩:=w;exact x.get gq) ?_ ?_ ⟨h.length,[0,z/5%c.len],none,none,none,none,Jg,rfl,.one _ _,rfl⟩
 ·rintro n hn _ h2 ⟨i,zs,b,c',d,e,gi,lz,x2,rfl⟩
  have hn':n<hs.length:=by simpa using hn
  rw[List.getElem_map]
  generalize hs[n]=a
  simp! [Jl6,Jtp,Jtq,Jfl,tupH,Jrc,Jg,grow gi,List.length_map,List.length_cons,List.length_nil]
  refine⟨by omega,by omega,_,zs++[a.2.1+1,a.2.2,a.2.1+1],_,_,_,_,?_,by simp[lz];omega,(x2.trans (.one _ _)).trans (.one _ _),rfl⟩
  rw[List.map_append]
  exact Jg
 ·rintro _ h2 ⟨i,zs,b,c',d,e,gi,lz,x2,rfl⟩
  have pl:(0:Int)<(zs.length:Int):=by omega
  obtain⟨m,em⟩:∃m:Nat,z%(zs.length:Int)=m:=⟨(z%(zs.length:Int)).toNat,by have:=Int.emod_nonneg z (b:=(zs.length:Int)) (by omega);omega⟩
  have hm:m<zs.length:=by have:=Int.emod_lt_of_pos z pl;omega
  have am:atI (zs.map IV.int) (m:Int)=some (.int zs[m]):=J9 (by rw[List.getElem?_map,List.getElem?_eq_getElem hm];rfl)
  generalize zs[m]=dd at am
  simp! [Jf2,Jf3,Jf4,Jam,Jdl,gi,List.length_map,pl,em,am]
  exact⟨λ _=>x2,λ _=>x2⟩
end
noncomputable def wK (zs:List Int) (p:Nat):List Int:=[zs.getD p 0/7,(p:Int)]
noncomputable def wP (zs:List Int) (v:IV):Bool:=match v with
 | .int x=>decide (1<zs.getD x.toNat 0%7)
 | _=>false
noncomputable def wF (zs:List Int) (v:IV):IV:=match v with
 | .int x=>.tup [.int (zs.getD x.toNat 0/7),.int x]
 | _=>.non
noncomputable def sndV (v:IV):IV:=match v with
 | .tup [_,y]=>y
 | _=>.non
noncomputable def st2 (v:IV):ISt:=match v with
 | .tup [x,y]=>[some x,some y]
 | _=>[none,none]
theorem Jx8 (zs:List Int) (n:Nat):((rngI 0 (n:Int)).filter (wP zs)).map (wF zs)=((List.range n).filter λ p=>decide (1<zs.getD p 0%7)).map λ p=>IV.tup ((wK zs p).map .int):=by
 unfold rngI
 rw[show((n:Int)-0).toNat=n by omega,List.filter_map,List.map_map]
 have e1:(wP zs∘λ k:Nat=>IV.int (0+(k:Int)))=λ p:Nat=>decide (1<zs.getD p 0%7):=by
  funext p
  show decide (1<zs.getD (0+(p:Int)).toNat 0%7)=_
  rw[show(0+(p:Int)).toNat=p by omega]
 have e2:(wF zs∘λ k:Nat=>IV.int (0+(k:Int)))=λ p:Nat=>IV.tup ((wK zs p).map .int):=by
  funext p
  show IV.tup [.int (zs.getD (0+(p:Int)).toNat 0/7),.int (0+(p:Int))]=_
  rw[show(0+(p:Int)).toNat=p by omega,show 0+(p:Int)=(p:Int) by omega]
  rfl
 rw[e1,e2]
section
variable {k:Nat}{h:IH}
theorem compF {h h0:IH}{it:I1}{t:T1}{e:E1}{js:List Nat}{σ:ISt}{xs:List IV}{chk:IH->Prop}{p:IV->Bool}{f:IV->IV}(hit:WR (it σ h0) λ J h1=>J.xs=xs/\J.chk=chk/\h1=h) (hl:xs.length<sizeLine)
  (hc:∀h2:IH,(∀(j:Nat) (ob:IO),h[j]?=some ob->h2[j]?=some ob)->chk h2)
  (ht:∀x∈xs,∀h2:IH,(∀(j:Nat) (ob:IO),h[j]?=some ob->h2[j]?=some ob)->WR (t (some x::js.map λ j=>(σ[j]?).join) h2) λ b h3=>b=p x/\Ex h2 h3)
  (he:∀x∈xs,p x=true->∀h2:IH,(∀(j:Nat) (ob:IO),h[j]?=some ob->h2[j]?=some ob)->WR (e (some x::js.map λ j=>(σ[j]?).join) h2) λ v h3=>v=f x/\Ex h2 h3) :
  ∃v h3,Jr it 1 js (gNm 0) t e σ h0=.ok v h3/\v=.ref h.length/\∃g,h3=h++.lst ((xs.filter p).map f)::g:=(Jrd hit hl hc ht he).eq
theorem J0i {X:Nat}{zs:List Int}{a:Option IV}(gX:h[X]?=some (.lst (zs.map .int))) (l2:zs.length<=40) :
  ∃v h',Jr (iRg Jaq (Ja (eCB (on1 lenI) (Ja (eVar 0) aNil)) aNil)) 1 [0] (gNm 0) (Jai k) (Jah k) [some (.ref X),a] h=.ok v h'/\v=.ref h.length/\∃g,h'=h++.lst (((rngI 0 (zs.length:Int)).filter (wP zs)).map (wF zs))::g:=by
 have hb:=Jc
 have l7:(Int.natAbs 7).log2<9000:=by decide
 have at_:∀x∈rngI 0 (zs.length:Int),∃p:Nat,x=.int (p:Int)/\atI (zs.map IV.int) (p:Int)=some (.int (zs.getD p 0)):=λ x hx=>by
  obtain⟨n,hn,rfl⟩:=List.mem_iff_getElem.mp hx
  rw[Jfn]
  rw[J2] at hn
  have hn':n<zs.length:=by omega
  refine⟨n,by rw[show(0:Int)+(n:Int)=n by omega],J9 ?_⟩
  rw[List.getElem?_map,List.getElem?_eq_getElem hn',List.getD_eq_getElem?_getD,List.getElem?_eq_getElem hn']
  rfl
 refine compF (h:=h) (xs:=rngI 0 (zs.length:Int)) (chk:=λ _=>True) (p:=wP zs) (f:=wF zs) ?_ (by rw[J2];omega) (λ _ _=>trivial) ?_ ?_
 ·simp! [Jdl,gX,List.length_map]
  omega
 ·intro x hx h2 kk
  obtain⟨p,rfl,ep⟩:=at_ x hx
  simp only[List.map_cons,List.map_nil,List.getElem?_cons_succ,List.getElem?_cons_zero,Option.join_some]
  simp! [Jai,Jam,kk _ _ gX,ep,show(0:Int)<7 by decide]
  refine⟨?_,.refl _⟩
  show _=decide (1<zs.getD (p:Int).toNat 0%7)
  rw[Int.toNat_natCast]
 ·intro x hx _ h2 kk
  obtain⟨p,rfl,ep⟩:=at_ x hx
  simp only[List.map_cons,List.map_nil,List.getElem?_cons_succ,List.getElem?_cons_zero,Option.join_some]
  simp! [Jah,Jam,kk _ _ gX,ep,l7,show(0:Int)<7 by decide,List.length_cons,List.length_nil]
  refine⟨by omega,?_,.refl _⟩
  show _=IV.tup [.int (zs.getD (p:Int).toNat 0/7),.int (p:Int)]
  rw[Int.toNat_natCast]
theorem Jxd {X:Nat}{zs:List Int}(gX:h[X]?=some (.lst (zs.map .int))) (l1:1<=zs.length) (l2:zs.length<=40) :
  WR (Jb1 (k+1) [.ref X] h) λ v h'=>∃(W:Nat) (ps:List Nat),v=.ref W/\h'[W]?=some (.lst (ps.map λ p:Nat=>.int p))/\ps≠[]/\ps.length<=40/\(∀p∈ps,p<zs.length)/\Ex h h':=by
 have hb:=Jc
 rw[Jot]
 have Y:=J0i (k:=k) (a:=none) gX l2
 dsimp! [Jcp]
 generalize Jr (iRg Jaq (Ja (eCB (on1 lenI) (Ja (eVar 0) aNil)) aNil)) 1 [0] (gNm 0) (Jai k) (Jah k) [some (.ref X),none] h=rc at Y ⊢
 obtain⟨_,_,rfl,rfl,g,rfl⟩:=Y
 rw[Jx8,Jfp]
 have hp:∀p∈(List.range zs.length).filter (λ p=>decide (1<zs.getD p 0%7)),p<zs.length:=λ p q=>List.mem_range.mp (List.mem_filter.mp q).1
 have lp:((List.range zs.length).filter λ p=>decide (1<zs.getD p 0%7)).length<=40:=Nat.le_trans (List.length_filter_le _ _) (by rw[List.length_range];exact l2)
 generalize (List.range zs.length).filter (λ p=>decide (1<zs.getD p 0%7))=ps at hp lp
 try simp(implicitDefEqProofs:=false) only[Jil,Jcw,Jdu,Jim,Jpp,Jdw,Jdv,Jdt,Jih,Jij,Jcv,Jik,Jii,Jd7,Je,Jfp,Jzw,Jnk,Jon,Jhw,Jpo,Jhu,Jpm,Jph,Jdp,Jif,Jdq,Jdr,Ja9,Jdi,Jbm,Jig,Jh5,Jdj,Jdm,Jpd,Jib,Jh1,Jbo,Jbp,Jpn,Jhz,Jht,Jie,Jh8,Jh7,Jdk,Jh6,Jic,Jdh,Jpj,Jpi,Jpg,Jpf,Jpe,Jpk,Jhx,Jh9,Jhv,Jds,Jia,Jhy,Jpl,Jcu,Jh0,Jdn,Jdo,Jh2,Jh4,Jh3,Jid,Jbn,Krz,Ksz,Kvz,Ktz,Kuz]
 refine WR.mono (J12 (w:=2) (g:=wK zs) Jp (by decide) (λ p _=>rfl) (by omega)) ?_
 rintro _ _ ⟨qs,lq,mq,rfl,rfl⟩
 have x1:Ex h (h++L3.IO.lst (ps.map λ p=>IV.tup ((wK zs p).map .int))::g):=.cons _ _ _
 generalize h++L3.IO.lst (ps.map λ p=>IV.tup ((wK zs p).map .int))::g=h1 at x1
 have x2:=x1.trans (.one h1 (L3.IO.lst (qs.map λ p=>IV.tup ((wK zs p).map .int))))
 have gQ:(h1++[L3.IO.lst (qs.map λ p=>IV.tup ((wK zs p).map .int))])[h1.length]?=some (.lst (qs.map λ p=>IV.tup ((wK zs p).map .int))):=Jg
 generalize h1++[L3.IO.lst (qs.map λ p=>IV.tup ((wK zs p).map .int))]=h2 at x2 gQ
 generalize h1.length=Q at gQ
 have pl:∀x∈qs.map (λ p=>IV.tup ((wK zs p).map .int)),Pl x:=λ x hx=>by
  obtain⟨p,_,rfl⟩:=List.mem_map.mp hx
  exact .inr ⟨_,rfl⟩
 have l2':(Int.natAbs 2).log2<9000:=by decide
 simp! [Jf9,List.length_nil,Nat.zero_le]
 rw[Jyd (grow gQ) Jg pl]
 simp! [Jdl,grow (x2.get gX),List.length_map,l2',show(0:Int)<2 by decide,List.length_cons,List.length_nil]
 refine⟨λ _=>⟨by omega,_,[zs.length/2],rfl,by rw[Jg];simp,by simp,by simp,λ p hp=>?_,(x2.trans (.one _ _)).trans (.one _ _)⟩,λ z=>?_⟩
 ·rw[List.mem_singleton.mp hp]
  omega
 ·have x3:=x2.trans (.one h2 (L3.IO.lst []))
  have gQ3:(h2++[L3.IO.lst []])[Q]?=_:=grow gQ
  generalize h2++[L3.IO.lst []]=h3 at x3 gQ3
  simp! [Jga]
  refine WR.mono (Jvs (h:=h3) (n:=2) (st:=st2) (xs:=qs.map λ p=>IV.tup ((wK zs p).map .int)) (chk:=λ h'=>h'[Q]?=some (.lst (qs.map λ p=>IV.tup ((wK zs p).map .int)))) (p:=λ _=>true) (f:=sndV) ?_ (by rw[List.length_map];omega) (λ h2 kk=>kk _ _ gQ3) ?_ ?_ ?_) ?_
  ·simp! [Jba,gQ3]
  ·intro x hx ls h2 hls
   obtain⟨b,_,rfl⟩:=List.mem_map.mp hx
   match ls,hls with
   | [l0,l1],_=>exact⟨rfl,rfl⟩
  ·intro x hx h2 kk
   exact⟨rfl,.refl _⟩
  ·intro x hx _ h2 kk
   obtain⟨b,_,rfl⟩:=List.mem_map.mp hx
   simp! [Jd1,st2,wK,sndV,List.map_cons,List.map_nil]
   exact .refl _
  ·rintro _ _ ⟨rfl,g2,rfl⟩
   refine⟨_,qs,rfl,?_,?_,by omega,λ p hp'=>hp p (mq p hp'),x3.trans (.cons _ _ _)⟩
   ·rw[Jp,filt,List.map_map]
    rfl
   ·rintro rfl
    cases z
structure Sit (h:IH) (kind:Int) (S R O T lo:Nat) (ys:List IV) (rs:List RH) (cs:List Cm) (kvs:List (Key×IV)):Prop where
 z:h[0]?=some (.tab "Order.pick")
 s:h[S]?=some (.lst ys)
 w:RowT h lo ys rs
 r:h[R]?=some (.lst (cs.map tupC))
 o:IsOr h kind O rs
 t:h[T]?=some (.dct kvs)
theorem Sit.kp {h h':IH}{kind:Int}{S R O T lo:Nat}{ys:List IV}{rs:List RH}{cs:List Cm}{kvs:List (Key×IV)}(x:Kp h h') (q:Sit h kind S R O T lo ys rs cs kvs):Sit h' kind S R O T lo ys rs cs kvs:=⟨x _ _ q.z,x _ _ q.s,q.w.kp x,x _ _ q.r,q.o.kp x,x _ _ q.t⟩
structure Fix (kind:Int) (rs:List RH) (cs:List Cm) (kvs:List (Key×IV)):Prop where
 k:kind=0∨kind=1∨kind=2
 six:∀r∈rs,r.2.length<=6
 ok:∀c∈cs,c.at_<rs.length/\1<=c.len
 tv:∀x,(valI kvs (.inr x)).getD .non=fV (fstK (rs.map (·.2)) x)
 len:cs.length<=14
 ne:cs≠[]
noncomputable abbrev sg (ns:List Int) (kind:Int) (S R O T:Nat) (a6 a7 a8 a9 a10 a11 a12:Option IV):ISt:=[some (.rol (ns.map .int)),some (.int kind),some (.ref S),some (.ref R),some (.ref O),some (.ref T),a6,a7,a8,a9,a10,a11,a12]
theorem J5w {cs:List Cm}{p:Nat}(hp:p<cs.length):atI (cs.map tupC) (p:Int)=some (tupC (cs.getD p cd)):=J9 (by rw[List.getElem?_map,List.getElem?_eq_getElem hp,List.getD_eq_getElem?_getD,List.getElem?_eq_getElem hp];rfl)
theorem J16 {cs:List Cm}{p:Nat}(hp:p<cs.length):cs.getD p cd∈cs:=by rw[List.getD_eq_getElem?_getD,List.getElem?_eq_getElem hp];exact List.getElem_mem hp
theorem J6g {ns:List Int}{p:Nat}(hp:p<ns.length):atI (ns.map IV.int) (p:Int)=some (.int (ns.getD p 0)):=J9 (by rw[List.getElem?_map,List.getElem?_eq_getElem hp,List.getD_eq_getElem?_getD,List.getElem?_eq_getElem hp];rfl)
noncomputable def DI (_ y:IV) (_:IH):Prop:=∃d:Int,y=.int d
theorem Jnq:∀{xs:List IV},(∀x∈xs,∃d:Int,x=IV.int d)->∃ds:List Int,xs=ds.map .int
 | [],_=>⟨[],rfl⟩
 | x::xs,q=>by
  obtain⟨ds,rfl⟩:=Jnq λ y hy=>q y (List.mem_cons_of_mem _ hy)
  obtain⟨d,rfl⟩:=q x List.mem_cons_self
  exact⟨d::ds,rfl⟩
theorem J0h {ns:List Int}{kind:Int}{S R O T X lo:Nat}{ys:List IV}{rs:List RH}{cs:List Cm}{kvs:List (Key×IV)}{xs:List Int}{a6 a8 a9 a10 a11 a12:Option IV}(q:Sit h kind S R O T lo ys rs cs kvs) (F:Fix kind rs cs kvs) (gX:h[X]?=some (.lst (xs.map .int))) (lx:cs.length<=xs.length) :
  ∃v h',Jr (iRg Jaq (Ja (eCB (on1 lenI) (Ja (eVar 3) aNil)) aNil)) 1 [3,2,7] (gNm 0) Jao (Jgd (k+1)) (sg ns kind S R O T a6 (some (.ref X)) a8 a9 a10 a11 a12) h=.ok v h'/\v=.ref h.length/\∃ds:List Int,h'[h.length]?=some (.lst (ds.map .int))/\ds.length=cs.length/\Kp h h':=by
 have hb:=Jc
 have lc:=F.len
 have Z:=@J5t h h (iRg Jaq (Ja (eCB (on1 lenI) (Ja (eVar 3) aNil)) aNil)) (Jgd (k+1)) [3,2,7] (sg ns kind S R O T a6 (some (.ref X)) a8 a9 a10 a11 a12) (rngI 0 (cs.length:Int)) (λ _=>True) DI
  (by simp! [sg,Jdl,q.r,List.length_map];omega) (by rw[J2];omega) (λ _ _ _ _ _ z=>z) (λ _ _=>trivial) (by
   intro x hx h2 kk _
   obtain⟨p,hp,rfl⟩:=List.mem_iff_getElem.mp hx
   rw[Jfn]
   rw[J2] at hp
   have hp':p<cs.length:=by omega
   rw[show(0:Int)+(p:Int)=p by omega]
   have q2:=q.kp kk
   have ac:=J5w hp'
   obtain⟨ca,cn⟩:=F.ok _ (J16 hp')
   have ax:=J6g (show p<xs.length by omega)
   generalize cs.getD p cd=c at ac ca cn
   obtain⟨qq,e,g⟩:=q2.w.get (List.getElem?_eq_getElem ca)
   have ea:=J9 e
   have l6:=F.six _ (List.getElem_mem ca)
   generalize rs[c.at_]=r at ea g l6
   have a5:atI (IV.str r.1.name::tp5 r qq) 5=some (.ref qq):=Jxo
   simp only[sg,List.map_cons,List.map_nil,List.getElem?_cons_succ,List.getElem?_cons_zero,Option.join_some]
   simp! [Jgd,Jam,q2.r,q2.s,ac,ea,a5,kk _ _ gX,ax]
   refine WR.mono (J3i (k:=k) g l6 cn) ?_
   rintro _ h3 ⟨d,rfl,x3⟩
   exact⟨x3,d,rfl⟩)
 obtain⟨v,h3,ev,rfl,vs,gv,lv,k3,dv⟩:=Z
 obtain⟨ds,rfl⟩:=Jnq λ x hx=>by
  obtain⟨i,hi,rfl⟩:=List.mem_iff_getElem.mp hx
  exact dv i _ _ (List.getElem?_eq_getElem (by omega)) (List.getElem?_eq_getElem hi)
 refine⟨_,h3,ev,rfl,ds,gv,?_,k3⟩
 rw[List.length_map,J2] at lv
 omega
noncomputable def keyT (kind:Int) (rs:List RH) (cs:List Cm) (ds:List Int) (v:IV):IV:=.tup ((keyV kind rs cs ds v).map .int)
theorem J32 {ns:List Int}{kind:Int}{S R O T N W lo:Nat}{ys:List IV}{rs:List RH}{cs:List Cm}{kvs:List (Key×IV)}{ds:List Int}{ps:List Nat}{a6 a7 a10 a11 a12:Option IV}(q:Sit h kind S R O T lo ys rs cs kvs) (F:Fix kind rs cs kvs) (gN:h[N]?=some (.lst (ds.map .int))) (ld:ds.length=cs.length) (gW:h[W]?=some (.lst (ps.map λ p:Nat=>.int p))) (lp:ps.length<=40) (hp:∀p∈ps,p<cs.length) :
  WR (Jr (iAny (eVar 9)) 1 [8,1,5,3,2] (gNm 0) Jao (Jj4 (k+1)) (sg ns kind S R O T a6 a7 (some (.ref N)) (some (.ref W)) a10 a11 a12) h) λ v h'=>v=.ref h.length/\∃g,h'=h++.lst (ps.map λ p=>IV.tup ((keyN kind rs cs ds p).map .int))::g:=by
 have hb:=Jc
 have Z:=Jab (h:=h) (it:=iAny (eVar 9)) (e:=Jj4 (k+1)) (js:=[8,1,5,3,2]) (σ:=sg ns kind S R O T a6 a7 (some (.ref N)) (some (.ref W)) a10 a11 a12) (h0:=h) (xs:=ps.map λ p:Nat=>.int p) (chk:=λ h'=>h'[W]?=some (.lst (ps.map λ p:Nat=>.int p))) (f:=keyT kind rs cs ds) (by simp! [sg,Jba,gW]) (by rw[List.length_map];omega) (λ h2 kk=>kk _ _ gW) (by
  intro x hx h2 kk
  obtain⟨p,hp',rfl⟩:=List.mem_map.mp hx
  have lp':=hp p hp'
  have q2:=q.kp kk
  have ek:keyT kind rs cs ds (.int (p:Int))=.tup [.int (Jz5 kind rs (cs.getD p cd) (ds.getD p 0)),.int (if Jxk kind rs (cs.getD p cd) (ds.getD p 0)=true then 0 else 1),.int (p:Int)]:=rfl
  rw[ek]
  have ac:=J5w lp'
  have ad:=J6g (ns:=ds) (show p<ds.length by omega)
  have ca:=(F.ok _ (J16 lp')).1
  generalize cs.getD p cd=c at ac ca
  generalize ds.getD p 0=d at ad
  simp only[sg,List.map_cons,List.map_nil,List.getElem?_cons_succ,List.getElem?_cons_zero,Option.join_some]
  simp! [Jj4,Jam,q2.r,ac,kk _ _ gN,ad]
  exact J6p (k:=k) F.k q2.s q2.w q2.t F.tv F.six ca)
 have em:(ps.map λ p:Nat=>IV.int p).map (keyT kind rs cs ds)=ps.map λ p=>IV.tup ((keyN kind rs cs ds p).map .int):=by
  rw[List.map_map]
  rfl
 rw[em] at Z
 exact Z
theorem J7f (cs:List Cm):∀x∈cs.map tupC,Pl x:=λ x hx=>by
 obtain⟨c,_,rfl⟩:=List.mem_map.mp hx
 exact .inr ⟨[c.at_,c.come,c.late,c.len],rfl⟩
theorem pl_ps (ps:List Nat):∀x∈ps.map (λ p:Nat=>IV.int p),Pl x:=λ x hx=>by
 obtain⟨c,_,rfl⟩:=List.mem_map.mp hx
 exact .inl ⟨_,rfl⟩
theorem pl_ds (ds:List Int):∀x∈ds.map IV.int,Pl x:=λ x hx=>by
 obtain⟨c,_,rfl⟩:=List.mem_map.mp hx
 exact .inl ⟨_,rfl⟩
theorem Jx0 {H a b c:Nat}{x y z:List IV}(gH:h[H]?=some (.lst [.ref a,.ref b,.ref c])) (ga:h[a]?=some (.lst x)) (gb:h[b]?=some (.lst y)) (gc:h[c]?=some (.lst z)) (px:∀v∈x,Pl v) (py:∀v∈y,Pl v) (pz:∀v∈z,Pl v) :
  toD h 6 (.ref H)=some (.list [.list (x.map gI),.list (y.map gI),.list (z.map gI)]):=by
 rw[Jgx gH,List.mapM_cons,List.mapM_cons,List.mapM_cons,J0e ga px,J0e gb py,J0e gc pz]
 rfl
theorem J1e {H a b c J a' b' c':Nat}{x y z:List IV}(gH:h[H]?=some (.lst [.ref a,.ref b,.ref c])) (ga:h[a]?=some (.lst x)) (gb:h[b]?=some (.lst y)) (gc:h[c]?=some (.lst z)) (gJ:h[J]?=some (.lst [.ref a',.ref b',.ref c'])) (ga':h[a']?=some (.lst x)) (gb':h[b']?=some (.lst y)) (gc':h[c']?=some (.lst z)) (px:∀v∈x,Pl v) (py:∀v∈y,Pl v) (pz:∀v∈z,Pl v) :
  cNe (.ref H) (.ref J) h=.ok (.bl false) h:=by
 refine J6z (Jx0 gH ga gb gc px py pz) (Jx0 gJ ga' gb' gc' px py pz) ?_
 rw[PyData.canLay0]
 simp only[PyData.canLayAll0,PyData.canLay0,Jqp px,Jqp py,Jqp pz,Bool.and_self]
seal WS in
theorem J46 {ns:List Int}{kind:Int}{n S R O T lo:Nat}{ys:List IV}{rs:List RH}{cs:List Cm}{kvs:List (Key×IV)}{a7 a8 a9 a10 a11 a12:Option IV}(q:Sit h kind S R O T lo ys rs cs kvs) (F:Fix kind rs cs kvs){N:ISt->IH->Prop}{Rr:IV->IH->Prop}
  (fin:∀h',Ex h h'->∀a7 a8 a9 a10 a11 a12,N (sg ns kind S R O T (some (.int (n:Int))) a7 a8 a9 a10 a11 a12) h') :
  WS (Jqs (k+5) (sg ns kind S R O T (some (.int (n:Int))) a7 a8 a9 a10 a11 a12) h) N Rr:=by
 have hb:=Jc
 have lc:=F.len
 have c7:=λ (h:IH)=>Jnd (k:=k+4) (h:=h) ns 7 (by decide)
 generalize ns.getD (Int.toNat 7) 0=x7 at c7
 have l3:(Int.natAbs 3).log2<9000:=by decide
 have m1:Jbq 1009 (n:Int):=.inl (by decide)
 have m2:Jbq 2 (cs.length:Int):=.inl (by decide)
 have e2:(2:Int)*(cs.length:Int)=((2*cs.length:Nat):Int):=by omega
 simp! [Jqs,sg,c7,l3,m1,m2,show(0:Int)<3 by decide,Jdl,q.r,List.length_map,e2]
 refine WR.mono (Joc (k:=k+4) _ (2*cs.length) (by omega)) ?_
 rintro _ h1 ⟨X,xs,rfl,_,gX,lx,_,x1⟩
 have q1:=q.kp x1.kp
 have Y:=J0h (k:=k+4) (ns:=ns) (a6:=some (.int (n:Int))) (a8:=a8) (a9:=a9) (a10:=a10) (a11:=a11) (a12:=a12) q1 F gX (by omega)
 try simp(implicitDefEqProofs:=false) only[Jil,Jcw,Jdu,Jim,Jpp,Jdw,Jdv,Jdt,Jih,Jij,Jcv,Jik,Jii,Jd7,Je,Jfp,Jzw,Jnk,Jon,Jhw,Jpo,Jhu,Jpm,Jph,Jdp,Jif,Jdq,Jdr,Ja9,Jdi,Jbm,Jig,Jh5,Jdj,Jdm,Jpd,Jib,Jh1,Jbo,Jbp,Jpn,Jhz,Jht,Jie,Jh8,Jh7,Jdk,Jh6,Jic,Jdh,Jpj,Jpi,Jpg,Jpf,Jpe,Jpk,Jhx,Jh9,Jhv,Jds,Jia,Jhy,Jpl,Jcu,Jh0,Jdn,Jdo,Jh2,Jh4,Jh3,Jid,Jbn,Krz,Ksz,Kvz,Ktz,Kuz]
 generalize Jr (iRg Jaq (Ja (eCB (on1 lenI) (Ja (eVar 3) aNil)) aNil)) 1 [3,2,7] (gNm 0) Jao (Jgd (k+5)) _ h1=rc at Y ⊢
 obtain⟨_,h2,rfl,rfl,ds,gN,ld,k2⟩:=Y
 have x2:=x1.trans (J3m k2)
 have q2:=q1.kp k2
 have gX2:=k2 _ _ gX
 generalize h1.length=Nn at gN ⊢
 simp! [Jdl,q2.r,Jto,gX2,List.length_map,Jqg,<-List.map_drop]
 have x3:=x2.trans (.one h2 (L3.IO.lst ((xs.drop cs.length).map IV.int)))
 have q3:=q.kp x3.kp
 have gN3:(h2++[L3.IO.lst ((xs.drop cs.length).map IV.int)])[Nn]?=_:=grow gN
 have gC:(h2++[L3.IO.lst ((xs.drop cs.length).map IV.int)])[h2.length]?=_:=Jg
 have ldr:(xs.drop cs.length).length=cs.length:=by rw[List.length_drop];omega
 have cp:0<cs.length:=List.length_pos_iff.mpr F.ne
 generalize h2++[L3.IO.lst ((xs.drop cs.length).map IV.int)]=h3 at x3 q3 gN3 gC ⊢
 generalize h2.length=C at gC ⊢
 refine WR.mono (Jxd (k:=k+4) gC (by omega) (by omega)) ?_
 rintro _ h4 ⟨W,ps,rfl,gW,ne,lp,hp,x4⟩
 rw[ldr] at hp
 have q4:=q3.kp x4.kp
 have gN4:=x4.get gN3
 simp! [Jvt,q4.r,grow gW,grow (grow gN4),List.length_cons,List.length_nil]
 refine⟨by omega,?_⟩
 have x5:Ex h4 (h4++[L3.IO.lst (cs.map tupC)]++[L3.IO.lst (ps.map λ p:Nat=>.int p)]++[L3.IO.lst (ds.map IV.int)]++[L3.IO.lst [.ref h4.length,.ref (h4++[L3.IO.lst (cs.map tupC)]).length,.ref (h4++[L3.IO.lst (cs.map tupC)]++[L3.IO.lst (ps.map λ p:Nat=>.int p)]).length]]):=(((Ex.one _ _).trans (.one _ _)).trans (.one _ _)).trans (.one _ _)
 have g1:(h4++[L3.IO.lst (cs.map tupC)]++[L3.IO.lst (ps.map λ p:Nat=>.int p)]++[L3.IO.lst (ds.map IV.int)]++[L3.IO.lst [.ref h4.length,.ref (h4++[L3.IO.lst (cs.map tupC)]).length,.ref (h4++[L3.IO.lst (cs.map tupC)]++[L3.IO.lst (ps.map λ p:Nat=>.int p)]).length]])[h4.length]?=some (.lst (cs.map tupC)):=grow (grow (grow Jg))
 have g2:(h4++[L3.IO.lst (cs.map tupC)]++[L3.IO.lst (ps.map λ p:Nat=>.int p)]++[L3.IO.lst (ds.map IV.int)]++[L3.IO.lst [.ref h4.length,.ref (h4++[L3.IO.lst (cs.map tupC)]).length,.ref (h4++[L3.IO.lst (cs.map tupC)]++[L3.IO.lst (ps.map λ p:Nat=>.int p)]).length]])[(h4++[L3.IO.lst (cs.map tupC)]).length]?=some (.lst (ps.map λ p:Nat=>.int p)):=grow (grow Jg)
 have g3:(h4++[L3.IO.lst (cs.map tupC)]++[L3.IO.lst (ps.map λ p:Nat=>.int p)]++[L3.IO.lst (ds.map IV.int)]++[L3.IO.lst [.ref h4.length,.ref (h4++[L3.IO.lst (cs.map tupC)]).length,.ref (h4++[L3.IO.lst (cs.map tupC)]++[L3.IO.lst (ps.map λ p:Nat=>.int p)]).length]])[(h4++[L3.IO.lst (cs.map tupC)]++[L3.IO.lst (ps.map λ p:Nat=>.int p)]).length]?=some (.lst (ds.map IV.int)):=grow Jg
 have g4:(h4++[L3.IO.lst (cs.map tupC)]++[L3.IO.lst (ps.map λ p:Nat=>.int p)]++[L3.IO.lst (ds.map IV.int)]++[L3.IO.lst [.ref h4.length,.ref (h4++[L3.IO.lst (cs.map tupC)]).length,.ref (h4++[L3.IO.lst (cs.map tupC)]++[L3.IO.lst (ps.map λ p:Nat=>.int p)]).length]])[(h4++[L3.IO.lst (cs.map tupC)]++[L3.IO.lst (ps.map λ p:Nat=>.int p)]++[L3.IO.lst (ds.map IV.int)]).length]?=some (.lst [.ref h4.length,.ref (h4++[L3.IO.lst (cs.map tupC)]).length,.ref (h4++[L3.IO.lst (cs.map tupC)]++[L3.IO.lst (ps.map λ p:Nat=>.int p)]).length]):=Jg
 generalize h4++[L3.IO.lst (cs.map tupC)]++[L3.IO.lst (ps.map λ p:Nat=>.int p)]++[L3.IO.lst (ds.map IV.int)]++[L3.IO.lst [.ref h4.length,.ref (h4++[L3.IO.lst (cs.map tupC)]).length,.ref (h4++[L3.IO.lst (cs.map tupC)]++[L3.IO.lst (ps.map λ p:Nat=>.int p)]).length]]=h5 at x5 g1 g2 g3 g4 ⊢
 generalize (h4++[L3.IO.lst (cs.map tupC)]++[L3.IO.lst (ps.map λ p:Nat=>.int p)]++[L3.IO.lst (ds.map IV.int)]).length=H at g4 ⊢
 generalize (h4++[L3.IO.lst (cs.map tupC)]++[L3.IO.lst (ps.map λ p:Nat=>.int p)]).length=C3 at g3 g4 ⊢
 generalize (h4++[L3.IO.lst (cs.map tupC)]).length=C2 at g2 g4 ⊢
 generalize h4.length=C1 at g1 g4 ⊢
 have q5:=q4.kp x5.kp
 have gN5:=x5.get gN4
 have gW5:=x5.get gW
 have x05:=(x3.trans x4).trans x5
 clear x3 x4 x5 q4 q3 gN4 gN3 gW gC x2 q2 gN q1 x1 gX gX2 k2
 refine Jvx (k:=k+5) q5.o rfl (v1:=.ref C1) (v2:=.ref C2) (v3:=.ref C3) (Jcy (by simp! [Jam,g4])) ?_
 refine WR.mono (J4n (k:=k) q5.z q5.o F.six (λ c hc=>(F.ok c hc).1) g1 g2 g3 ld ne hp) ?_
 rintro _ h6 ⟨p,pm,rfl,le,x6⟩
 have q6:=q5.kp x6.kp
 try simp(implicitDefEqProofs:=false) only[Jil,Jcw,Jdu,Jim,Jpp,Jdw,Jdv,Jdt,Jih,Jij,Jcv,Jik,Jii,Jd7,Je,Jfp,Jzw,Jnk,Jon,Jhw,Jpo,Jhu,Jpm,Jph,Jdp,Jif,Jdq,Jdr,Ja9,Jdi,Jbm,Jig,Jh5,Jdj,Jdm,Jpd,Jib,Jh1,Jbo,Jbp,Jpn,Jhz,Jht,Jie,Jh8,Jh7,Jdk,Jh6,Jic,Jdh,Jpj,Jpi,Jpg,Jpf,Jpe,Jpk,Jhx,Jh9,Jhv,Jds,Jia,Jhy,Jpl,Jcu,Jh0,Jdn,Jdo,Jh2,Jh4,Jh3,Jid,Jbn,Krz,Ksz,Kvz,Ktz,Kuz]
 refine WR.mono (J32 (k:=k+4) (ns:=ns) (a6:=some (.int (n:Int))) (a7:=some (.ref X)) (a10:=some (.ref H)) (a11:=some (.int (p:Int))) (a12:=a12) q6 F (x6.get gN5) ld (x6.get gW5) lp hp) ?_
 rintro _ _ ⟨rfl,g,rfl⟩
 have x7:Ex h6 (h6++L3.IO.lst (ps.map λ p=>IV.tup ((keyN kind rs cs ds p).map .int))::g):=.cons _ _ _
 have gK:(h6++L3.IO.lst (ps.map λ p=>IV.tup ((keyN kind rs cs ds p).map .int))::g)[h6.length]?=_:=Jp
 generalize h6++L3.IO.lst (ps.map λ p=>IV.tup ((keyN kind rs cs ds p).map .int))::g=h7 at x7 gK ⊢
 generalize h6.length=K at gK ⊢
 simp! [true_and]
 refine WR.mono (J5j (w:=3) gK ne λ p _=>rfl) ?_
 rintro _ _ ⟨p',pm',rfl,le',rfl⟩
 have ep:p'=p:=by
  have:=J2i (show(keyN kind rs cs ds p).length=(keyN kind rs cs ds p').length from rfl) (le' p pm) (le p' pm')
  simp only[keyN,List.cons.injEq,and_true] at this
  omega
 subst ep
 have x67:=x6.trans x7
 have q7:=q5.kp x67.kp
 simp! [keyN,List.map_cons,List.map_nil,decide_true,List.length_cons,List.length_nil]
 refine⟨by omega,?_⟩
 rw[J1e (grow (x67.get g4)) (grow (x67.get g1)) (grow (x67.get g2)) (grow (x67.get g3)) Jg (grow q7.r) (grow (x67.get gW5)) (grow (x67.get gN5)) (J7f cs) (pl_ps ps) (pl_ds ds)]
 simp! [true_and]
 exact fin _ ((x05.trans x67).trans (.one _ _)) _ _ _ _ _ _
end
section
variable {h:IH}
theorem J4e:cNe (.bl true) (.bl true) h=.ok (.bl false) h:=rfl
theorem J4d:cNe (.bl false) (.bl false) h=.ok (.bl false) h:=rfl
theorem or_ty {kind:Int}{O:Nat}{rs:List RH}(o:IsOr h kind O rs):(kind=1/\tyI (.ref O) h=some (.ins "ByDue"))∨(kind=2/\tyI (.ref O) h=some (.ins "ByComing"))∨(kind=0/\tyI (.ref O) h=some (.ins "ByRank")):=by
 obtain⟨D,hd,⟨rfl,gO⟩|⟨rfl,gO⟩|⟨rfl,T,kvs,gO,gT,tv⟩⟩:=o
 ·exact .inl ⟨rfl,by simp[tyI,gO]⟩
 ·exact .inr (.inl ⟨rfl,by simp[tyI,gO]⟩)
 ·exact .inr (.inr ⟨rfl,by simp[tyI,gO]⟩)
theorem own1:(Jbb ["Order","ByRank","ByDue","ByComing"]) (.ins "ByDue")=some true:=by kernel_rfl
theorem own2:(Jbb ["Order","ByRank","ByDue","ByComing"]) (.ins "ByComing")=some true:=by kernel_rfl
theorem own3:(Jbb ["Order","ByRank","ByDue","ByComing"]) (.ins "ByRank")=some true:=by kernel_rfl
theorem own4:(Jbb ["ByRank"]) (.ins "ByDue")=some false:=by kernel_rfl
theorem own5:(Jbb ["ByRank"]) (.ins "ByComing")=some false:=by kernel_rfl
theorem own6:(Jbb ["ByRank"]) (.ins "ByRank")=some true:=by kernel_rfl
theorem own7:(Jbb ["ByDue"]) (.ins "ByDue")=some true:=by kernel_rfl
theorem own8:(Jbb ["ByDue"]) (.ins "ByComing")=some false:=by kernel_rfl
theorem own9:(Jbb ["ByDue"]) (.ins "ByRank")=some false:=by kernel_rfl
theorem own10:(Jbb ["ByComing"]) (.ins "ByDue")=some false:=by kernel_rfl
theorem own11:(Jbb ["ByComing"]) (.ins "ByComing")=some true:=by kernel_rfl
theorem own12:(Jbb ["ByComing"]) (.ins "ByRank")=some false:=by kernel_rfl
seal WS in
theorem J37 {k:Nat}{ns:List Int}{kind:Int}{S R O T lo:Nat}{ys:List IV}{rs:List RH}{cs:List Cm}{kvs:List (Key×IV)}(q:Sit h kind S R O T lo ys rs cs kvs) (F:Fix kind rs cs kvs) :
  WS (Jm3 (k+5) (sg ns kind S R O T none none none none none none none) h) (λ _ _=>False) λ v _=>v=.bl true:=by
 have key:WS (Jty (k+5) (sg ns kind S R O T none none none none none none none) h) (λ _ _=>False) λ v _=>v=.bl true:=by
  simp! [Jty,sg]
  refine⟨by omega,?_⟩
  refine Jbw (λ n σ h'=>Ex h h'/\∃a6 a7 a8 a9 a10 a11 a12,σ=sg ns kind S R O T a6 a7 a8 a9 a10 a11 a12) (λ _ _ _ _=>trivial) ?_ ?_ ⟨.refl _,_,_,_,_,_,_,_,rfl⟩
  ·rintro n hn _ h5 ⟨x5,a6,a7,a8,a9,a10,a11,a12,rfl⟩
   rw[Jfn,show(0:Int)+(n:Int)=n by omega]
   dsimp! [sg]
   exact J46 (k:=k) (q.kp x5.kp) F λ h' x a7 a8 a9 a10 a11 a12=>⟨x5.trans x,_,_,_,_,_,_,_,rfl⟩
  ·rintro _ h5 ⟨x5,a6,a7,a8,a9,a10,a11,a12,rfl⟩
   simp! [Jxv]
 rcases or_ty q.o with⟨rfl,t⟩|⟨rfl,t⟩|⟨rfl,t⟩
 ·simp! [Jm3,Jqd,sg,t,own1,own4,own7,own10,decide_true,J4e,J4d,show ¬(1:Int)=0 by decide,show ¬(1:Int)=2 by decide,decide_false]
  exact key
 ·simp! [Jm3,Jqd,sg,t,own2,own5,own8,own11,decide_true,J4e,J4d,show ¬(2:Int)=0 by decide,show ¬(2:Int)=1 by decide,decide_false]
  exact key
 ·simp! [Jm3,Jqd,sg,t,own3,own6,own9,own12,decide_true,J4e,J4d,show ¬(0:Int)=1 by decide,show ¬(0:Int)=2 by decide,decide_false]
  exact key
seal WS in
theorem J04 (ns:List Int) (hl:ns.length<=63):∃h',Jtr 16 [.rol (ns.map IV.int)] [.tab "Order.pick"]=.ok (.bl true) h':=by
 suffices h:WR (Jtr 16 [.rol (ns.map IV.int)] [.tab "Order.pick"]) λ v _=>v=.bl true by
  obtain⟨v,h',e,rfl⟩:=h.eq
  exact⟨h',e⟩
 have hb:=Jc
 have h0:([.tab "Order.pick"]:IH)[0]?=some (.tab "Order.pick"):=rfl
 generalize ([.tab "Order.pick"]:IH)=h at h0 ⊢
 rw[J53]
 have c7:=λ (h:IH)=>Jnd (k:=14) (h:=h) ns 7 (by decide)
 generalize ns.getD (Int.toNat 7) 0=x7 at c7
 simp! [Jtx,Jxq,c7,show(0:Int)<3 by decide]
 have hk:x7%3=0∨x7%3=1∨x7%3=2:=by omega
 generalize x7%3=kind at hk
 refine WR.mono (J42 (k:=11) ns (decide (kind=0))) ?_
 rintro _ h1 ⟨x1,S,lo,ys,rs,c,unit,rfl,_,gS,w,D,lr,no⟩
 simp! [Jxr]
 have ec:cutI (ns.map IV.int) (some 8) (some 22)=((ns.drop 8).take 14).map IV.int:=by
  rw[show(some (8:Int))=some ((8:Nat):Int) from rfl,show(some (22:Int))=some ((22:Nat):Int) from rfl,J3h]
  rw[List.map_take,List.map_drop,List.drop_take]
 rw[ec]
 have x2:Ex h1 (h1++[L3.IO.lst (((ns.drop 8).take 14).map IV.int)]):=.one _ _
 refine WR.mono (J7i (k:=13) (x2.get gS) (w.kp x2.kp) D (by omega) Jg (by rw[List.length_take];omega)) ?_
 rintro _ h3 ⟨R,cs,rfl,_,gR,L,lcs,x3⟩
 have lcs:cs.length<=14:=Nat.le_trans lcs (by rw[List.length_take];omega)
 have x23:=x2.trans x3
 simp! [Jxs,List.length_nil,Nat.zero_le]
 rw[Jyd (grow gR) Jg (J7f cs)]
 simp! [true_and]
 refine λ ne=>?_
 have x24:=x23.trans (.one h3 (L3.IO.lst []))
 have gR4:(h3++[L3.IO.lst []])[R]?=_:=grow gR
 generalize h3++[L3.IO.lst []]=h4 at x24 gR4 ⊢
 have G:=D.gd (show rs.length<=7 by omega)
 have six:∀r∈rs,r.2.length<=6:=λ r hr=>(G.f r hr).ok.few
 simp! [Jxt]
 refine WR.mono (J1h (k:=9) (x24.get gS) (w.kp x24.kp) D (by omega) hk λ ne=>no (decide_eq_false ne)) ?_
 rintro _ h5 ⟨O,rfl,x5,o⟩
 have x25:=x24.trans x5
 simp! [Jxu]
 refine WR.mono (J38 (k:=14) (x25.get gS) (w.kp x25.kp) (by omega) six) ?_
 rintro _ h6 ⟨T,kvs,rfl,gT,tv,x6⟩
 have x26:=x25.trans x6
 have q:Sit h6 kind S R O T lo ys rs cs kvs:=⟨(x1.trans x26).get h0,x26.get gS,w.kp x26.kp,(x5.trans x6).get gR4,o.kp x6.kp,gT⟩
 have F:Fix kind rs cs kvs:=⟨hk,six,λ c hc=>⟨(L.ok c hc).at_,(L.ok c hc).n1⟩,tv,lcs,λ e=>by rw[e] at ne;cases ne⟩
 try simp(implicitDefEqProofs:=false) only[Jil,Jcw,Jdu,Jim,Jpp,Jdw,Jdv,Jdt,Jih,Jij,Jcv,Jik,Jii,Jd7,Je,Jfp,Jzw,Jnk,Jon,Jhw,Jpo,Jhu,Jpm,Jph,Jdp,Jif,Jdq,Jdr,Ja9,Jdi,Jbm,Jig,Jh5,Jdj,Jdm,Jpd,Jib,Jh1,Jbo,Jbp,Jpn,Jhz,Jht,Jie,Jh8,Jh7,Jdk,Jh6,Jic,Jdh,Jpj,Jpi,Jpg,Jpf,Jpe,Jpk,Jhx,Jh9,Jhv,Jds,Jia,Jhy,Jpl,Jcu,Jh0,Jdn,Jdo,Jh2,Jh4,Jh3,Jid,Jbn,Krz,Ksz,Kvz,Ktz,Kuz]
 exact WS.mono (J37 (k:=10) q F) (λ _ _ z=>z.elim) λ _ _ z=>z
end
end LW
end
namespace LW
open PySem L2 L3 L4
section
variable {K:W.Frag}{h:Heap}{mg:Str->Option Value}{a:Addr}{oc kV dc pm cd ct:Value}{od an:Option Addr}{sl:Array (Option Value)}
theorem Juu:FnB "is_whole" "is_whole" Jg8:=⟨scOk.of (by decide +kernel),rfl,rfl,λ _ _ _ _ _ _=>len1 (λ _=>rfl)⟩
theorem Jmk:FnB "is_whole_from" "is_whole_from" Ja7:=⟨scOk.of (by decide +kernel),rfl,rfl,λ _ _ _ _ _ _=>len2 (λ _ _=>rfl)⟩
theorem Jtf:FnB "rounds_up" "rounds_up" Je9:=⟨scOk.of (by decide +kernel),rfl,rfl,λ _ _ _ _ _ _=>len2 (λ _ _=>rfl)⟩
theorem Jzf:FnB "due_at" "due_at" Jmp:=⟨scOk.of (by decide +kernel),rfl,rfl,λ _ _ _ _ _ _=>len2 (λ _ _=>rfl)⟩
theorem Jw2:FnB "is_name" "is_name" Jkc:=⟨scOk.of (by decide +kernel),rfl,rfl,λ _ _ _ _ _ _=>len1 (λ _=>rfl)⟩
theorem Jw1:FnB "is_hold" "is_hold" Jkb:=⟨scOk.of (by decide +kernel),rfl,rfl,λ _ _ _ _ _ _=>len2 (λ _ _=>rfl)⟩
theorem Jtc:FnB "lie_apart" "lie_apart" Je6:=⟨scOk.of (by decide +kernel),rfl,rfl,λ _ _ _ _ _ _=>len2 (λ _ _=>rfl)⟩
theorem Jw5:FnB "lies_in" "lies_in" Jkf:=⟨scOk.of (by decide +kernel),rfl,rfl,λ _ _ _ _ _ _=>len2 (λ _ _=>rfl)⟩
theorem Jo7:FnB "go_together" "go_together" Jb5:=⟨scOk.of (by decide +kernel),rfl,rfl,λ _ _ _ _ _ _=>len2 (λ _ _=>rfl)⟩
theorem Jkt:FnB "all_go_together" "all_go_together" Jaj:=⟨scOk.of (by decide +kernel),rfl,rfl,λ _ _ _ _ _ _=>len1 (λ _=>rfl)⟩
theorem Jtd:FnB "own_holds" "own_holds" Je7:=⟨scOk.of (by decide +kernel),rfl,rfl,λ _ _ _ _ _ _=>len2 (λ _ _=>rfl)⟩
theorem Jw6:FnB "own_due" "own_due" Jkg:=⟨scOk.of (by decide +kernel),rfl,rfl,λ _ _ _ _ _ _=>len2 (λ _ _=>rfl)⟩
theorem Js8:FnScope Jm.N Jm.ps (Jj Jm.st):=scOk.of (by decide +kernel)
theorem Jsl {C:Addr}{T:Addr}{ox:Value}{oy:Option Addr}{nx:Nat}{sx:Array (Option Value)}{tk1:Tok}(ha:W.findIn K (.ref C) "__init__"=some (some (.ref a))) (hi:W.isFn K (.ref a)=true) (hl:K.lookup a=some ⟨oc,od,.func (W.fnOf "__init__" "Work.__init__" (Jbh Jm.st) (Jae Jm.st) (Jj Jm.st) (.ref T) kV dc pm an cd ct),sl⟩) (hc:W.codeIn K cd "Work.__init__"=true) (hk:W.keepIn K (.ref a)=true) (hd:K.lookup T=some ⟨ox,oy,.seq #[.none,.int 0 tk1,.none] nx,sx⟩) (hm:W.makesIn K C=true) (hq:W.keepIn K (.ref C)=true):∃fa fd,Mk K C fa/\DefOk K "__init__" Jm fa fd :=
 ⟨a,_,⟨hm,ha,hi,hq⟩,⟨⟨_,⟨oc,od,kV,dc,pm,an,cd,ct,sl,rfl,hl,hc⟩,hk⟩,Js8,(by intro j hj;rcases upto3 j (show j<=3 from hj) with rfl|rfl|rfl|rfl;exact⟨[.none,.int 0 tk1,.none],λ s us Y hl=>len4 (P:=λ us=>BindsTo s _ ⟨us,[]⟩ (Jm.ps.zip (us++[.none,.int 0 tk1,.none]))) (λ _ _ _ _=>.of_defaults rfl (Y T _ hd) rfl rfl rfl) us (show us.length=4 by rw[List.length_append] at hl;exact Nat.add_right_cancel (m:=3) hl),rfl,[V.non,V.int 0,V.non],.cons rfl (.cons ⟨_,rfl⟩ (.cons rfl (.nil))),λ _ _=>⟨_,_,rfl,rfl,⟨_,_,rfl,rfl,⟨_,_,rfl,rfl,rfl⟩⟩⟩⟩;exact⟨[.int 0 tk1,.none],λ s us Y hl=>len5 (P:=λ us=>BindsTo s _ ⟨us,[]⟩ (Jm.ps.zip (us++[.int 0 tk1,.none]))) (λ _ _ _ _ _=>.of_defaults rfl (Y T _ hd) rfl rfl rfl) us (show us.length=5 by rw[List.length_append] at hl;exact Nat.add_right_cancel (m:=2) hl),rfl,[V.int 0,V.non],.cons ⟨_,rfl⟩ (.cons rfl (.nil)),λ _ _=>⟨_,_,rfl,rfl,⟨_,_,rfl,rfl,rfl⟩⟩⟩;exact⟨[.none],λ s us Y hl=>len6 (P:=λ us=>BindsTo s _ ⟨us,[]⟩ (Jm.ps.zip (us++[.none]))) (λ _ _ _ _ _ _=>.of_defaults rfl (Y T _ hd) rfl rfl rfl) us (show us.length=6 by rw[List.length_append] at hl;exact Nat.add_right_cancel (m:=1) hl),rfl,[V.non],.cons rfl (.nil),λ _ _=>⟨_,_,rfl,rfl,rfl⟩⟩;exact⟨[],λ s us Y hl=>len7 (P:=λ us=>BindsTo s _ ⟨us,[]⟩ (Jm.ps.zip (us++[]))) (λ _ _ _ _ _ _ _=>.of_defaults rfl (Y T _ hd) rfl rfl rfl) us (show us.length=7 by rw[List.length_append] at hl;exact Nat.add_right_cancel (m:=0) hl),rfl,[],.nil,λ _ _=>rfl⟩)⟩⟩
theorem Js7:FnB "held" "Work.held" Je2:=⟨scOk.of (by decide +kernel),rfl,rfl,λ _ _ _ _ _ _=>len1 (λ _=>rfl)⟩
theorem Jus:FnB "ceilings" "ceilings" Jg6:=⟨scOk.of (by decide +kernel),rfl,rfl,λ _ _ _ _ _ _=>len1 (λ _=>rfl)⟩
theorem Jn7:FnB "refuse_holds" "refuse_holds" Jbl:=⟨scOk.of (by decide +kernel),rfl,rfl,λ _ _ _ _ _ _=>len1 (λ _=>rfl)⟩
theorem Jpb:FnB "things_held" "things_held" Jb9:=⟨scOk.of (by decide +kernel),rfl,rfl,λ _ _ _ _ _ _=>len2 (λ _ _=>rfl)⟩
theorem Jzg:FnB "lifted" "lifted" Jmq:=⟨scOk.of (by decide +kernel),rfl,rfl,λ _ _ _ _ _ _=>len3 (λ _ _ _=>rfl)⟩
theorem Jq2:FnB "__init__" "Order.__init__" Jc4:=⟨scOk.of (by decide +kernel),rfl,rfl,λ _ _ _ _ _ _=>len2 (λ _ _=>rfl)⟩
theorem Jmj:FnB "rank_of" "Order.rank_of" Jcr:=⟨scOk.of (by decide +kernel),rfl,rfl,λ _ _ _ _ _ _=>len3 (λ _ _ _=>rfl)⟩
theorem Jdg:FnB "holds" "Order.holds" Jy:=⟨scOk.of (by decide +kernel),rfl,rfl,λ _ _ _ _ _ _=>len3 (λ _ _ _=>rfl)⟩
theorem Jcc:FnB "pick" "Order.pick" Jq:=⟨scOk.of (by decide +kernel),rfl,rfl,λ _ _ _ _ _ _=>len4 (λ _ _ _ _=>rfl)⟩
theorem Jak:FnB "standing" "Order.standing" Jh:=⟨scOk.of (by decide +kernel),rfl,rfl,λ _ _ _ _ _ _=>len3 (λ _ _ _=>rfl)⟩
theorem Jo6:FnB "__init__" "ByRank.__init__" Jb4:=⟨scOk.of (by decide +kernel),rfl,rfl,λ _ _ _ _ _ _=>len2 (λ _ _=>rfl)⟩
theorem Jle:FnB "rank_of" "ByRank.rank_of" Jas:=⟨scOk.of (by decide +kernel),rfl,rfl,λ _ _ _ _ _ _=>len3 (λ _ _ _=>rfl)⟩
theorem Jn6:FnB "holds" "ByRank.holds" Jbk:=⟨scOk.of (by decide +kernel),rfl,rfl,λ _ _ _ _ _ _=>len3 (λ _ _ _=>rfl)⟩
theorem Jq0:FnB "__init__" "ByDue.__init__" Jc3:=⟨scOk.of (by decide +kernel),rfl,rfl,λ _ _ _ _ _ _=>len2 (λ _ _=>rfl)⟩
theorem Jmi:FnB "rank_of" "ByDue.rank_of" Ja6:=⟨scOk.of (by decide +kernel),rfl,rfl,λ _ _ _ _ _ _=>len3 (λ _ _ _=>rfl)⟩
theorem Jmh:FnB "__init__" "ByComing.__init__" Ja5:=⟨scOk.of (by decide +kernel),rfl,rfl,λ _ _ _ _ _ _=>len2 (λ _ _=>rfl)⟩
theorem Ji0:FnB "rank_of" "ByComing.rank_of" Jaa:=⟨scOk.of (by decide +kernel),rfl,rfl,λ _ _ _ _ _ _=>len3 (λ _ _ _=>rfl)⟩
theorem Jte:FnB "own_works" "own_works" Je8:=⟨scOk.of (by decide +kernel),rfl,rfl,λ _ _ _ _ _ _=>len1 (λ _=>rfl)⟩
theorem Jut:FnB "crowd_of" "crowd_of" Jg7:=⟨scOk.of (by decide +kernel),rfl,rfl,λ _ _ _ _ _ _=>len1 (λ _=>rfl)⟩
theorem Js4:FnB "__init__" "Duty.__init__" Jez:=⟨scOk.of (by decide +kernel),rfl,rfl,λ _ _ _ _ _ _=>len2 (λ _ _=>rfl)⟩
theorem Js5:FnB "size" "Duty.size" Je0:=⟨scOk.of (by decide +kernel),rfl,rfl,λ _ _ _ _ _ _=>len1 (λ _=>rfl)⟩
theorem Js6:FnB "work" "Duty.work" Je1:=⟨scOk.of (by decide +kernel),rfl,rfl,λ _ _ _ _ _ _=>len2 (λ _ _=>rfl)⟩
theorem Jq1:FnB "crowd" "Duty.crowd" Jgm:=⟨scOk.of (by decide +kernel),rfl,rfl,λ _ _ _ _ _ _=>len1 (λ _=>rfl)⟩
theorem Jo8:FnB "_law_cell_at" "_law_cell_at" Jb6:=⟨scOk.of (by decide +kernel),rfl,rfl,λ _ _ _ _ _ _=>len2 (λ _ _=>rfl)⟩
theorem Jq3:FnB "_law_stream" "_law_stream" Jc5:=⟨scOk.of (by decide +kernel),rfl,rfl,λ _ _ _ _ _ _=>len2 (λ _ _=>rfl)⟩
theorem Jux:FnB "_law_word" "_law_word" Jhb:=⟨scOk.of (by decide +kernel),rfl,rfl,λ _ _ _ _ _ _=>len2 (λ _ _=>rfl)⟩
theorem Js9:FnB "_law_holds" "_law_holds" Je3:=⟨scOk.of (by decide +kernel),rfl,rfl,λ _ _ _ _ _ _=>len3 (λ _ _ _=>rfl)⟩
theorem Jtb:FnB "_law_plain" "_law_plain" Je5:=⟨scOk.of (by decide +kernel),rfl,rfl,λ _ _ _ _ _ _=>len3 (λ _ _ _=>rfl)⟩
theorem Juw:FnB "_law_some" "_law_some" Jha:=⟨scOk.of (by decide +kernel),rfl,rfl,λ _ _ _ _ _ _=>len2 (λ _ _=>rfl)⟩
theorem Jw4:FnB "_law_row" "_law_row" Jke:=⟨scOk.of (by decide +kernel),rfl,rfl,λ _ _ _ _ _ _=>len2 (λ _ _=>rfl)⟩
theorem Jta:FnB "_law_order" "_law_order" Je4:=⟨scOk.of (by decide +kernel),rfl,rfl,λ _ _ _ _ _ _=>len2 (λ _ _=>rfl)⟩
theorem Juv:FnB "_law_lows" "_law_lows" Jg9:=⟨scOk.of (by decide +kernel),rfl,rfl,λ _ _ _ _ _ _=>len1 (λ _=>rfl)⟩
theorem Jw3:FnB "_law_key" "_law_key" Jkd:=⟨scOk.of (by decide +kernel),rfl,rfl,λ _ _ _ _ _ _=>len6 (λ _ _ _ _ _ _=>rfl)⟩
theorem Jo9:FnB "_law_done_by" "_law_done_by" Jb7:=⟨scOk.of (by decide +kernel),rfl,rfl,λ _ _ _ _ _ _=>len3 (λ _ _ _=>rfl)⟩
theorem Jpa:FnB "_law_waiting" "_law_waiting" Jb8:=⟨scOk.of (by decide +kernel),rfl,rfl,λ _ _ _ _ _ _=>len1 (λ _=>rfl)⟩
theorem J7s:FnScope Jnf.N Jnf.ps (Jj Jnf.st):=scOk.of (by decide +kernel)
theorem J6x (X:K.In h) (G:h.Ns mainGlobals mg) (ha:W.nsIn K mainGlobals "law"=some (some (.ref a))) (hl:K.lookup a=some ⟨oc,od,.func (W.fnOf "law" "law" (Jbh Jnf.st) (Jae Jnf.st) (Jj Jnf.st) .none kV dc pm an cd ct),sl⟩) (hc:W.codeIn K cd "law"=true) (hk:W.keepIn K (.ref a)=true):∃fa fd,mg "law"=some (.ref fa)/\DefOk K "law" Jnf fa fd/\∀(s:Shared) (v:Value),BindsTo s fd ⟨[v],[]⟩ [("_law_script",v)] :=
 ⟨a,_,W.mg_of X G ha,J18 (d:=Jnf) hl hc hk J7s rfl (len1 (λ _=>rfl)),λ s v=>.of_eq rfl⟩
theorem Jhc {C:Addr}(pg:W.plainGet K C Str.empty=true) (hd:W.hasDictIn K C=true) (po:W.plainOver K C=true) (sa:W.findIn K (.ref C) "__setattr__"=some (some (.builtin "object.__setattr__"))) (h1:W.findIn K (.ref C) "__class__"=some (some (.builtin "object.__class__"))) (h2:W.specialIn K (.builtin "object.__class__") "__get__"=some (some (.builtin "getset_descriptor.__get__"))) (h3:W.takesIn K (.builtin "object.__class__")=some true) (h4:W.mroIn K C (.type "object")=some true) (n0:W.findIn K (.ref C) "append"=some none) (n1:W.findIn K (.ref C) "due"=some none) (n2:W.findIn K (.ref C) "duty"=some none) (n3:W.findIn K (.ref C) "gap"=some none) (n4:W.findIn K (.ref C) "hold_tuples"=some none) (n5:W.findIn K (.ref C) "join"=some none) (n6:W.findIn K (.ref C) "late"=some none) (n7:W.findIn K (.ref C) "length"=some none) (n8:W.findIn K (.ref C) "name"=some none) (n9:W.findIn K (.ref C) "setdefault"=some none) (n10:W.findIn K (.ref C) "tops"=some none) (n11:W.findIn K (.ref C) "works"=some none):ClsI K C/\All (λ f=>Jdz K C f) T.flds :=
 ⟨⟨⟨pg,hd,po,sa⟩,h1,h2,h3,h4⟩,.cons n0 (.cons n1 (.cons n2 (.cons n3 (.cons n4 (.cons n5 (.cons n6 (.cons n7 (.cons n8 (.cons n9 (.cons n10 (.cons n11 (.nil))))))))))))⟩
theorem J6w {C a:Addr}(sp:W.specialIn K (.ref C) "__getattribute__"=some (some (.builtin "type.__getattribute__"))) (rd:W.readsIn K C (.type "type")=true) (fi:W.findIn K (.ref C) "__init__"=some (some (.ref a))) (fc:W.findCls K (.ref C) (.type "type") "__init__"=some (.val (.ref a))) (kp:W.keepIn K (.ref a)=true):BasK K C:=⟨sp,rd,a,fi,fc,kp⟩
theorem fin {prog:Program}{w:World}{fa:Addr}(X:K.In h) (G:h.Ns mainGlobals mg) (hfa:mg "law"=some (.ref fa)){C_Work:Addr}{C_Order:Addr}{C_ByRank:Addr}{C_ByDue:Addr}{C_ByComing:Addr}{C_Duty:Addr}{tk_AT:Tok}{tk_COME:Tok}{tk_MOST_LETTERS:Tok}{tk_MOST_HOLDS:Tok}{tk_THING:Tok}{tk_START:Tok}{tk_END:Tok}{tk_MOST_WORKS:Tok}{tk_MOST_CROWD:Tok}
  (aC_Work:W.nsIn K mainGlobals "Work"=some (some (.ref C_Work)))
  (aC_Order:W.nsIn K mainGlobals "Order"=some (some (.ref C_Order)))
  (aC_ByRank:W.nsIn K mainGlobals "ByRank"=some (some (.ref C_ByRank)))
  (aC_ByDue:W.nsIn K mainGlobals "ByDue"=some (some (.ref C_ByDue)))
  (aC_ByComing:W.nsIn K mainGlobals "ByComing"=some (some (.ref C_ByComing)))
  (aC_Duty:W.nsIn K mainGlobals "Duty"=some (some (.ref C_Duty)))
  (f_is_whole:∃fa fd,mg "is_whole"=some (.ref fa)/\DefOk K "is_whole" Jg8 fa fd)
  (f_is_whole_from:∃fa fd,mg "is_whole_from"=some (.ref fa)/\DefOk K "is_whole_from" Ja7 fa fd)
  (f_rounds_up:∃fa fd,mg "rounds_up"=some (.ref fa)/\DefOk K "rounds_up" Je9 fa fd)
  (f_due_at:∃fa fd,mg "due_at"=some (.ref fa)/\DefOk K "due_at" Jmp fa fd)
  (f_is_name:∃fa fd,mg "is_name"=some (.ref fa)/\DefOk K "is_name" Jkc fa fd)
  (f_is_hold:∃fa fd,mg "is_hold"=some (.ref fa)/\DefOk K "is_hold" Jkb fa fd)
  (f_lie_apart:∃fa fd,mg "lie_apart"=some (.ref fa)/\DefOk K "lie_apart" Je6 fa fd)
  (f_lies_in:∃fa fd,mg "lies_in"=some (.ref fa)/\DefOk K "lies_in" Jkf fa fd)
  (f_go_together:∃fa fd,mg "go_together"=some (.ref fa)/\DefOk K "go_together" Jb5 fa fd)
  (f_all_go_together:∃fa fd,mg "all_go_together"=some (.ref fa)/\DefOk K "all_go_together" Jaj fa fd)
  (f_own_holds:∃fa fd,mg "own_holds"=some (.ref fa)/\DefOk K "own_holds" Je7 fa fd)
  (f_own_due:∃fa fd,mg "own_due"=some (.ref fa)/\DefOk K "own_due" Jkg fa fd)
  (f_ceilings:∃fa fd,mg "ceilings"=some (.ref fa)/\DefOk K "ceilings" Jg6 fa fd)
  (f_refuse_holds:∃fa fd,mg "refuse_holds"=some (.ref fa)/\DefOk K "refuse_holds" Jbl fa fd)
  (f_things_held:∃fa fd,mg "things_held"=some (.ref fa)/\DefOk K "things_held" Jb9 fa fd)
  (f_lifted:∃fa fd,mg "lifted"=some (.ref fa)/\DefOk K "lifted" Jmq fa fd)
  (f_own_works:∃fa fd,mg "own_works"=some (.ref fa)/\DefOk K "own_works" Je8 fa fd)
  (f_crowd_of:∃fa fd,mg "crowd_of"=some (.ref fa)/\DefOk K "crowd_of" Jg7 fa fd)
  (f_law_cell_at:∃fa fd,mg "_law_cell_at"=some (.ref fa)/\DefOk K "_law_cell_at" Jb6 fa fd)
  (f_law_stream:∃fa fd,mg "_law_stream"=some (.ref fa)/\DefOk K "_law_stream" Jc5 fa fd)
  (f_law_word:∃fa fd,mg "_law_word"=some (.ref fa)/\DefOk K "_law_word" Jhb fa fd)
  (f_law_holds:∃fa fd,mg "_law_holds"=some (.ref fa)/\DefOk K "_law_holds" Je3 fa fd)
  (f_law_plain:∃fa fd,mg "_law_plain"=some (.ref fa)/\DefOk K "_law_plain" Je5 fa fd)
  (f_law_some:∃fa fd,mg "_law_some"=some (.ref fa)/\DefOk K "_law_some" Jha fa fd)
  (f_law_row:∃fa fd,mg "_law_row"=some (.ref fa)/\DefOk K "_law_row" Jke fa fd)
  (f_law_order:∃fa fd,mg "_law_order"=some (.ref fa)/\DefOk K "_law_order" Je4 fa fd)
  (f_law_lows:∃fa fd,mg "_law_lows"=some (.ref fa)/\DefOk K "_law_lows" Jg9 fa fd)
  (f_law_key:∃fa fd,mg "_law_key"=some (.ref fa)/\DefOk K "_law_key" Jkd fa fd)
  (f_law_done_by:∃fa fd,mg "_law_done_by"=some (.ref fa)/\DefOk K "_law_done_by" Jb7 fa fd)
  (f_law_waiting:∃fa fd,mg "_law_waiting"=some (.ref fa)/\DefOk K "_law_waiting" Jb8 fa fd)
  (f_law:∃fa fd,mg "law"=some (.ref fa)/\DefOk K "law" Jnf fa fd/\∀(s:Shared) (v:Value),BindsTo s fd ⟨[v],[]⟩ [("_law_script",v)])
  (i_Work:∃fa fd,Mk K C_Work fa/\DefOk K "__init__" Jm fa fd)
  (m_Work_held:∃fa fd,Meth K C_Work "held" fa/\DefOk K "held" Je2 fa fd)
  (c_Work:ClsI K C_Work/\All (λ f=>Jdz K C_Work f) T.flds)
  (i_Order:∃fa fd,Mk K C_Order fa/\DefOk K "__init__" Jc4 fa fd)
  (m_Order_rank_of:∃fa fd,Meth K C_Order "rank_of" fa/\DefOk K "rank_of" Jcr fa fd)
  (m_Order_holds:∃fa fd,Meth K C_Order "holds" fa/\DefOk K "holds" Jy fa fd)
  (m_Order_pick:∃fa fd,Meth K C_Order "pick" fa/\DefOk K "pick" Jq fa fd)
  (m_Order_standing:∃fa fd,Meth K C_Order "standing" fa/\DefOk K "standing" Jh fa fd)
  (c_Order:ClsI K C_Order/\All (λ f=>Jdz K C_Order f) T.flds)
  (i_ByRank:∃fa fd,Mk K C_ByRank fa/\DefOk K "__init__" Jb4 fa fd)
  (m_ByRank_rank_of:∃fa fd,Meth K C_ByRank "rank_of" fa/\DefOk K "rank_of" Jas fa fd)
  (m_ByRank_holds:∃fa fd,Meth K C_ByRank "holds" fa/\DefOk K "holds" Jbk fa fd)
  (m_ByRank_pick:∃fa fd,Meth K C_ByRank "pick" fa/\DefOk K "pick" Jq fa fd)
  (m_ByRank_standing:∃fa fd,Meth K C_ByRank "standing" fa/\DefOk K "standing" Jh fa fd)
  (c_ByRank:ClsI K C_ByRank/\All (λ f=>Jdz K C_ByRank f) T.flds)
  (i_ByDue:∃fa fd,Mk K C_ByDue fa/\DefOk K "__init__" Jc3 fa fd)
  (m_ByDue_rank_of:∃fa fd,Meth K C_ByDue "rank_of" fa/\DefOk K "rank_of" Ja6 fa fd)
  (m_ByDue_holds:∃fa fd,Meth K C_ByDue "holds" fa/\DefOk K "holds" Jy fa fd)
  (m_ByDue_pick:∃fa fd,Meth K C_ByDue "pick" fa/\DefOk K "pick" Jq fa fd)
  (m_ByDue_standing:∃fa fd,Meth K C_ByDue "standing" fa/\DefOk K "standing" Jh fa fd)
  (c_ByDue:ClsI K C_ByDue/\All (λ f=>Jdz K C_ByDue f) T.flds)
  (i_ByComing:∃fa fd,Mk K C_ByComing fa/\DefOk K "__init__" Ja5 fa fd)
  (m_ByComing_rank_of:∃fa fd,Meth K C_ByComing "rank_of" fa/\DefOk K "rank_of" Jaa fa fd)
  (m_ByComing_holds:∃fa fd,Meth K C_ByComing "holds" fa/\DefOk K "holds" Jy fa fd)
  (m_ByComing_pick:∃fa fd,Meth K C_ByComing "pick" fa/\DefOk K "pick" Jq fa fd)
  (m_ByComing_standing:∃fa fd,Meth K C_ByComing "standing" fa/\DefOk K "standing" Jh fa fd)
  (c_ByComing:ClsI K C_ByComing/\All (λ f=>Jdz K C_ByComing f) T.flds)
  (i_Duty:∃fa fd,Mk K C_Duty fa/\DefOk K "__init__" Jez fa fd)
  (m_Duty_size:∃fa fd,Meth K C_Duty "size" fa/\DefOk K "size" Je0 fa fd)
  (m_Duty_work:∃fa fd,Meth K C_Duty "work" fa/\DefOk K "work" Je1 fa fd)
  (m_Duty_crowd:∃fa fd,Meth K C_Duty "crowd" fa/\DefOk K "crowd" Jgm fa fd)
  (c_Duty:ClsI K C_Duty/\All (λ f=>Jdz K C_Duty f) T.flds)
  (g_AT:W.nsIn K mainGlobals "AT"=some (some (.int 0 tk_AT)))
  (g_COME:W.nsIn K mainGlobals "COME"=some (some (.int 1 tk_COME)))
  (g_MOST_LETTERS:W.nsIn K mainGlobals "MOST_LETTERS"=some (some (.int 8 tk_MOST_LETTERS)))
  (g_MOST_HOLDS:W.nsIn K mainGlobals "MOST_HOLDS"=some (some (.int 6 tk_MOST_HOLDS)))
  (g_THING:W.nsIn K mainGlobals "THING"=some (some (.int 0 tk_THING)))
  (g_START:W.nsIn K mainGlobals "START"=some (some (.int 1 tk_START)))
  (g_END:W.nsIn K mainGlobals "END"=some (some (.int 2 tk_END)))
  (g_MOST_WORKS:W.nsIn K mainGlobals "MOST_WORKS"=some (some (.int 12 tk_MOST_WORKS)))
  (g_MOST_CROWD:W.nsIn K mainGlobals "MOST_CROWD"=some (some (.int 80 tk_MOST_CROWD)))
  (k_Work_NoneType:W.kitOne K (.type "NoneType") (.ref C_Work)=some false)
  (k_Work_bool:W.kitOne K (.type "bool") (.ref C_Work)=some false)
  (k_Work_int:W.kitOne K (.type "int") (.ref C_Work)=some false)
  (k_Work_str:W.kitOne K (.type "str") (.ref C_Work)=some false)
  (k_Work_list:W.kitOne K (.type "list") (.ref C_Work)=some false)
  (k_Work_tuple:W.kitOne K (.type "tuple") (.ref C_Work)=some false)
  (k_Work_dict:W.kitOne K (.type "dict") (.ref C_Work)=some false)
  (k_Work_Work:W.kitOne K (.ref C_Work) (.ref C_Work)=some (memS "Work" ["Work"]))
  (k_Work_Order:W.kitOne K (.ref C_Order) (.ref C_Work)=some (memS "Order" ["Work"]))
  (k_Work_ByRank:W.kitOne K (.ref C_ByRank) (.ref C_Work)=some (memS "ByRank" ["Work"]))
  (k_Work_ByDue:W.kitOne K (.ref C_ByDue) (.ref C_Work)=some (memS "ByDue" ["Work"]))
  (k_Work_ByComing:W.kitOne K (.ref C_ByComing) (.ref C_Work)=some (memS "ByComing" ["Work"]))
  (k_Work_Duty:W.kitOne K (.ref C_Duty) (.ref C_Work)=some (memS "Duty" ["Work"]))
  (k_Order_NoneType:W.kitOne K (.type "NoneType") (.ref C_Order)=some false)
  (k_Order_bool:W.kitOne K (.type "bool") (.ref C_Order)=some false)
  (k_Order_int:W.kitOne K (.type "int") (.ref C_Order)=some false)
  (k_Order_str:W.kitOne K (.type "str") (.ref C_Order)=some false)
  (k_Order_list:W.kitOne K (.type "list") (.ref C_Order)=some false)
  (k_Order_tuple:W.kitOne K (.type "tuple") (.ref C_Order)=some false)
  (k_Order_dict:W.kitOne K (.type "dict") (.ref C_Order)=some false)
  (k_Order_Work:W.kitOne K (.ref C_Work) (.ref C_Order)=some (memS "Work" ["Order","ByRank","ByDue","ByComing"]))
  (k_Order_Order:W.kitOne K (.ref C_Order) (.ref C_Order)=some (memS "Order" ["Order","ByRank","ByDue","ByComing"]))
  (k_Order_ByRank:W.kitOne K (.ref C_ByRank) (.ref C_Order)=some (memS "ByRank" ["Order","ByRank","ByDue","ByComing"]))
  (k_Order_ByDue:W.kitOne K (.ref C_ByDue) (.ref C_Order)=some (memS "ByDue" ["Order","ByRank","ByDue","ByComing"]))
  (k_Order_ByComing:W.kitOne K (.ref C_ByComing) (.ref C_Order)=some (memS "ByComing" ["Order","ByRank","ByDue","ByComing"]))
  (k_Order_Duty:W.kitOne K (.ref C_Duty) (.ref C_Order)=some (memS "Duty" ["Order","ByRank","ByDue","ByComing"]))
  (k_ByRank_NoneType:W.kitOne K (.type "NoneType") (.ref C_ByRank)=some false)
  (k_ByRank_bool:W.kitOne K (.type "bool") (.ref C_ByRank)=some false)
  (k_ByRank_int:W.kitOne K (.type "int") (.ref C_ByRank)=some false)
  (k_ByRank_str:W.kitOne K (.type "str") (.ref C_ByRank)=some false)
  (k_ByRank_list:W.kitOne K (.type "list") (.ref C_ByRank)=some false)
  (k_ByRank_tuple:W.kitOne K (.type "tuple") (.ref C_ByRank)=some false)
  (k_ByRank_dict:W.kitOne K (.type "dict") (.ref C_ByRank)=some false)
  (k_ByRank_Work:W.kitOne K (.ref C_Work) (.ref C_ByRank)=some (memS "Work" ["ByRank"]))
  (k_ByRank_Order:W.kitOne K (.ref C_Order) (.ref C_ByRank)=some (memS "Order" ["ByRank"]))
  (k_ByRank_ByRank:W.kitOne K (.ref C_ByRank) (.ref C_ByRank)=some (memS "ByRank" ["ByRank"]))
  (k_ByRank_ByDue:W.kitOne K (.ref C_ByDue) (.ref C_ByRank)=some (memS "ByDue" ["ByRank"]))
  (k_ByRank_ByComing:W.kitOne K (.ref C_ByComing) (.ref C_ByRank)=some (memS "ByComing" ["ByRank"]))
  (k_ByRank_Duty:W.kitOne K (.ref C_Duty) (.ref C_ByRank)=some (memS "Duty" ["ByRank"]))
  (k_ByDue_NoneType:W.kitOne K (.type "NoneType") (.ref C_ByDue)=some false)
  (k_ByDue_bool:W.kitOne K (.type "bool") (.ref C_ByDue)=some false)
  (k_ByDue_int:W.kitOne K (.type "int") (.ref C_ByDue)=some false)
  (k_ByDue_str:W.kitOne K (.type "str") (.ref C_ByDue)=some false)
  (k_ByDue_list:W.kitOne K (.type "list") (.ref C_ByDue)=some false)
  (k_ByDue_tuple:W.kitOne K (.type "tuple") (.ref C_ByDue)=some false)
  (k_ByDue_dict:W.kitOne K (.type "dict") (.ref C_ByDue)=some false)
  (k_ByDue_Work:W.kitOne K (.ref C_Work) (.ref C_ByDue)=some (memS "Work" ["ByDue"]))
  (k_ByDue_Order:W.kitOne K (.ref C_Order) (.ref C_ByDue)=some (memS "Order" ["ByDue"]))
  (k_ByDue_ByRank:W.kitOne K (.ref C_ByRank) (.ref C_ByDue)=some (memS "ByRank" ["ByDue"]))
  (k_ByDue_ByDue:W.kitOne K (.ref C_ByDue) (.ref C_ByDue)=some (memS "ByDue" ["ByDue"]))
  (k_ByDue_ByComing:W.kitOne K (.ref C_ByComing) (.ref C_ByDue)=some (memS "ByComing" ["ByDue"]))
  (k_ByDue_Duty:W.kitOne K (.ref C_Duty) (.ref C_ByDue)=some (memS "Duty" ["ByDue"]))
  (k_ByComing_NoneType:W.kitOne K (.type "NoneType") (.ref C_ByComing)=some false)
  (k_ByComing_bool:W.kitOne K (.type "bool") (.ref C_ByComing)=some false)
  (k_ByComing_int:W.kitOne K (.type "int") (.ref C_ByComing)=some false)
  (k_ByComing_str:W.kitOne K (.type "str") (.ref C_ByComing)=some false)
  (k_ByComing_list:W.kitOne K (.type "list") (.ref C_ByComing)=some false)
  (k_ByComing_tuple:W.kitOne K (.type "tuple") (.ref C_ByComing)=some false)
  (k_ByComing_dict:W.kitOne K (.type "dict") (.ref C_ByComing)=some false)
  (k_ByComing_Work:W.kitOne K (.ref C_Work) (.ref C_ByComing)=some (memS "Work" ["ByComing"]))
  (k_ByComing_Order:W.kitOne K (.ref C_Order) (.ref C_ByComing)=some (memS "Order" ["ByComing"]))
  (k_ByComing_ByRank:W.kitOne K (.ref C_ByRank) (.ref C_ByComing)=some (memS "ByRank" ["ByComing"]))
  (k_ByComing_ByDue:W.kitOne K (.ref C_ByDue) (.ref C_ByComing)=some (memS "ByDue" ["ByComing"]))
  (k_ByComing_ByComing:W.kitOne K (.ref C_ByComing) (.ref C_ByComing)=some (memS "ByComing" ["ByComing"]))
  (k_ByComing_Duty:W.kitOne K (.ref C_Duty) (.ref C_ByComing)=some (memS "Duty" ["ByComing"]))
  (z_all:W.nsIn K mainGlobals "all"=some none)
  (z_bool:W.nsIn K mainGlobals "bool"=some none)
  (z_enumerate:W.nsIn K mainGlobals "enumerate"=some none)
  (z_int:W.nsIn K mainGlobals "int"=some none)
  (z_isinstance:W.nsIn K mainGlobals "isinstance"=some none)
  (z_len:W.nsIn K mainGlobals "len"=some none)
  (z_list:W.nsIn K mainGlobals "list"=some none)
  (z_max:W.nsIn K mainGlobals "max"=some none)
  (z_min:W.nsIn K mainGlobals "min"=some none)
  (z_range:W.nsIn K mainGlobals "range"=some none)
  (z_set:W.nsIn K mainGlobals "set"=some none)
  (z_sorted:W.nsIn K mainGlobals "sorted"=some none)
  (z_str:W.nsIn K mainGlobals "str"=some none)
  (z_sum:W.nsIn K mainGlobals "sum"=some none)
  (z_tuple:W.nsIn K mainGlobals "tuple"=some none)
  (bs_Order:BasK K C_Order)
  : ∃fd:FuncData,(∀(s:Shared) (v:Value),BindsTo s fd ⟨[v],[]⟩ [("_law_script",v)])/\∀base:Heap,K.In base->base.Ns mainGlobals mg->Jmx mg base->FnOk prog w K mg base (CXI prog w) 64 fa fd ["_law_script"] (Jw8 K "_law_script" (Jtr 16)):=by
 obtain⟨fa',fd,hm,ok,hb⟩:=f_law
 have e:=hfa.symm.trans hm
 cases e
 have O:TabOk (ceOf [("Work",C_Work),("Order",C_Order),("ByRank",C_ByRank),("ByDue",C_ByDue),("ByComing",C_ByComing),("Duty",C_Duty)]) T K mg:=J7x _
  (.cons (f_is_whole) (.cons (f_is_whole_from) (.cons (f_rounds_up) (.cons (f_due_at) (.cons (f_is_name) (.cons (f_is_hold) (.cons (f_lie_apart) (.cons (f_lies_in) (.cons (f_go_together) (.cons (f_all_go_together) (.cons (f_own_holds) (.cons (f_own_due) (.cons (f_ceilings) (.cons (f_refuse_holds) (.cons (f_things_held) (.cons (f_lifted) (.cons (f_own_works) (.cons (f_crowd_of) (.cons (f_law_cell_at) (.cons (f_law_stream) (.cons (f_law_word) (.cons (f_law_holds) (.cons (f_law_plain) (.cons (f_law_some) (.cons (f_law_row) (.cons (f_law_order) (.cons (f_law_lows) (.cons (f_law_key) (.cons (f_law_done_by) (.cons (f_law_waiting) (.cons (⟨_,_,hm,ok⟩) (.nil))))))))))))))))))))))))))))))))
  (.cons ((let ⟨fa,fd,p,q⟩:=i_Work;⟨C_Work,fa,fd,W.mg_of X G aC_Work,by kernel_rfl,p,q⟩)) (.cons ((let ⟨fa,fd,p,q⟩:=i_Order;⟨C_Order,fa,fd,W.mg_of X G aC_Order,by kernel_rfl,p,q⟩)) (.cons ((let ⟨fa,fd,p,q⟩:=i_ByRank;⟨C_ByRank,fa,fd,W.mg_of X G aC_ByRank,by kernel_rfl,p,q⟩)) (.cons ((let ⟨fa,fd,p,q⟩:=i_ByDue;⟨C_ByDue,fa,fd,W.mg_of X G aC_ByDue,by kernel_rfl,p,q⟩)) (.cons ((let ⟨fa,fd,p,q⟩:=i_ByComing;⟨C_ByComing,fa,fd,W.mg_of X G aC_ByComing,by kernel_rfl,p,q⟩)) (.cons ((let ⟨fa,fd,p,q⟩:=i_Duty;⟨C_Duty,fa,fd,W.mg_of X G aC_Duty,by kernel_rfl,p,q⟩)) (.nil)))))))
  (.cons (⟨C_Work,by kernel_rfl,.cons (m_Work_held) (.nil)⟩) (.cons (⟨C_Order,by kernel_rfl,.cons (m_Order_rank_of) (.cons (m_Order_holds) (.cons (m_Order_pick) (.cons (m_Order_standing) (.nil))))⟩) (.cons (⟨C_ByRank,by kernel_rfl,.cons (m_ByRank_rank_of) (.cons (m_ByRank_holds) (.cons (m_ByRank_pick) (.cons (m_ByRank_standing) (.nil))))⟩) (.cons (⟨C_ByDue,by kernel_rfl,.cons (m_ByDue_rank_of) (.cons (m_ByDue_holds) (.cons (m_ByDue_pick) (.cons (m_ByDue_standing) (.nil))))⟩) (.cons (⟨C_ByComing,by kernel_rfl,.cons (m_ByComing_rank_of) (.cons (m_ByComing_holds) (.cons (m_ByComing_pick) (.cons (m_ByComing_standing) (.nil))))⟩) (.cons (⟨C_Duty,by kernel_rfl,.cons (m_Duty_size) (.cons (m_Duty_work) (.cons (m_Duty_crowd) (.nil)))⟩) (.nil)))))))
  (.cons (⟨_,.int 0,W.mg_of X G g_AT,⟨tk_AT,rfl⟩,λ _ _=>rfl⟩) (.cons (⟨_,.int 1,W.mg_of X G g_COME,⟨tk_COME,rfl⟩,λ _ _=>rfl⟩) (.cons (⟨_,.int 8,W.mg_of X G g_MOST_LETTERS,⟨tk_MOST_LETTERS,rfl⟩,λ _ _=>rfl⟩) (.cons (⟨_,.int 6,W.mg_of X G g_MOST_HOLDS,⟨tk_MOST_HOLDS,rfl⟩,λ _ _=>rfl⟩) (.cons (⟨_,.int 0,W.mg_of X G g_THING,⟨tk_THING,rfl⟩,λ _ _=>rfl⟩) (.cons (⟨_,.int 1,W.mg_of X G g_START,⟨tk_START,rfl⟩,λ _ _=>rfl⟩) (.cons (⟨_,.int 2,W.mg_of X G g_END,⟨tk_END,rfl⟩,λ _ _=>rfl⟩) (.cons (⟨_,.int 12,W.mg_of X G g_MOST_WORKS,⟨tk_MOST_WORKS,rfl⟩,λ _ _=>rfl⟩) (.cons (⟨_,.int 80,W.mg_of X G g_MOST_CROWD,⟨tk_MOST_CROWD,rfl⟩,λ _ _=>rfl⟩) (.nil))))))))))
  (.cons (c_Work) (.cons (c_Order) (.cons (c_ByRank) (.cons (c_ByDue) (.cons (c_ByComing) (.cons (c_Duty) (.nil)))))))
  (.cons (⟨C_Work,W.mg_of X G aC_Work,k_Work_NoneType,k_Work_bool,k_Work_int,k_Work_str,k_Work_list,k_Work_tuple,k_Work_dict,.cons (k_Work_Work) (.cons (k_Work_Order) (.cons (k_Work_ByRank) (.cons (k_Work_ByDue) (.cons (k_Work_ByComing) (.cons (k_Work_Duty) (.nil))))))⟩) (.cons (⟨C_Order,W.mg_of X G aC_Order,k_Order_NoneType,k_Order_bool,k_Order_int,k_Order_str,k_Order_list,k_Order_tuple,k_Order_dict,.cons (k_Order_Work) (.cons (k_Order_Order) (.cons (k_Order_ByRank) (.cons (k_Order_ByDue) (.cons (k_Order_ByComing) (.cons (k_Order_Duty) (.nil))))))⟩) (.cons (⟨C_ByRank,W.mg_of X G aC_ByRank,k_ByRank_NoneType,k_ByRank_bool,k_ByRank_int,k_ByRank_str,k_ByRank_list,k_ByRank_tuple,k_ByRank_dict,.cons (k_ByRank_Work) (.cons (k_ByRank_Order) (.cons (k_ByRank_ByRank) (.cons (k_ByRank_ByDue) (.cons (k_ByRank_ByComing) (.cons (k_ByRank_Duty) (.nil))))))⟩) (.cons (⟨C_ByDue,W.mg_of X G aC_ByDue,k_ByDue_NoneType,k_ByDue_bool,k_ByDue_int,k_ByDue_str,k_ByDue_list,k_ByDue_tuple,k_ByDue_dict,.cons (k_ByDue_Work) (.cons (k_ByDue_Order) (.cons (k_ByDue_ByRank) (.cons (k_ByDue_ByDue) (.cons (k_ByDue_ByComing) (.cons (k_ByDue_Duty) (.nil))))))⟩) (.cons (⟨C_ByComing,W.mg_of X G aC_ByComing,k_ByComing_NoneType,k_ByComing_bool,k_ByComing_int,k_ByComing_str,k_ByComing_list,k_ByComing_tuple,k_ByComing_dict,.cons (k_ByComing_Work) (.cons (k_ByComing_Order) (.cons (k_ByComing_ByRank) (.cons (k_ByComing_ByDue) (.cons (k_ByComing_ByComing) (.cons (k_ByComing_Duty) (.nil))))))⟩) (.nil))))))
  (.cons (W.mg_none_of X G z_all) (.cons (W.mg_none_of X G z_bool) (.cons (W.mg_none_of X G z_enumerate) (.cons (W.mg_none_of X G z_int) (.cons (W.mg_none_of X G z_isinstance) (.cons (W.mg_none_of X G z_len) (.cons (W.mg_none_of X G z_list) (.cons (W.mg_none_of X G z_max) (.cons (W.mg_none_of X G z_min) (.cons (W.mg_none_of X G z_range) (.cons (W.mg_none_of X G z_set) (.cons (W.mg_none_of X G z_sorted) (.cons (W.mg_none_of X G z_str) (.cons (W.mg_none_of X G z_sum) (.cons (W.mg_none_of X G z_tuple) (.nil))))))))))))))))
  (.cons (⟨C_Order,W.mg_of X G aC_Order,bs_Order⟩) (.nil))
 exact⟨fd,hb,λ base _ _ B=>J34 O (λ _=>B) 16 rfl ok⟩
end
end LW
open PySem L2
theorem LW.walk {l:W.OpenLaw}{q:Program}{loose:List Str}{XP:(Str->Option Value)->Heap->Prop}{YP:World->Heap->Prop}{d:DefRec}{K:Params->W.Frag}{ts:List Addr}(hn:l.most=some 63) (hdf:d.params.defaults=[])
  (hY:∀(w:World) (h:Heap),YP w h->(K w.params).In h/\∀p∈ts,h.get? p=some (W.tabObj #[])) (hc:∀w:World,L4.Jc7 (K w.params) ["Order.pick"] ts=true)
  (F:∀(w:World) (mg:Str->Option Value) (fa:Addr) (h:Heap),(K w.params).In h->h.Ns mainGlobals mg->mg d.name=some (.ref fa) ->
   ∃fd:FuncData,(∀(s:Shared) (u:Value),BindsTo s fd ⟨[u],[]⟩ [("_law_script",u)])/\∀base:Heap,(K w.params).In base->base.Ns mainGlobals mg->L3.Jmx mg base->FnOk l.prog w (K w.params) mg base (L3.CXI l.prog w) 64 fa fd ["_law_script"] (L3.Jw8 (K w.params) "_law_script" (LW.Jtr 16))) :
  W.WalkO q loose XP YP l.row.toRowW d [] (λ f vs=>PySem.call f vs) :=
 L4.J1z (n:=63) (k:=64) (x:="_law_script") (f:=LW.Jtr 16) (qs:=["Order.pick"]) (ts:=ts) hn (by decide) hdf ⟨rfl,by decide,by decide⟩ hY hc F λ ns hl=>LW.J04 ns hl
open PySem PySem.W PyProof.Rows
structure PySem.W.Fast:Prop where (tw4931139507932806645 tw12449318807583972414 tw15391000785769828024 tw3592567119771207178 tw4230982895147628267 tw2251517305571617406 tw908824711016685762 tw13789475522257284841 tw11971868232170124195 tw14339585481683559644
tw6756839700944073843 tw5972173859836331879 tw5188125508879054182 tw9428024600567264281 tw11002769070720131300 tw7298910099391826806 tw3196599893154777870 tw6542733294991666438 tw6480437521910577032 tw6838228735104761984
tw9496608944440933975 tw16214615700720638969 tw16298611654280715861 tw3205269822748895174 tw4645568027939794032 tw2984246919529625303 tw12013662238180946121 tw3282875841657446507 tw17010856432540560217 tw4450450130864831933
tw17858248149534298242 tw14821599926280080264 tw8721606032208338820 tw2690143666547577378 tw11198402864113580159 tw9224834386548656731 tw5310612897958191309 tw17155426226303600264 tw5982631397801062495 tw7651769867259054016
tw14845607282591388380 tw18254707884536166059 tw7922192829008607901 tw3162573556757695708 tw12743796442165388342 tw3675676974857415307 tw5975072476655247736 tw4323021245235951593 tw15149773811319083167 tw4253617131728924382
tw12571352568813136129 tw10479137003461877801 tw15623444510921171344 tw14648255103364371138 tw13698317271448534869 tw12134071175813047164 tw13983594687282907983 tw9616018473364824418 tw1722322975437268483 tw406042063187226180
tw9656831916751580159 tw10658730269598680506 tw12991625723288242263 tw17780615828254543322 tw7836898920317636274 tw11747870439878834944 tw18268046236602909044 tw3329314161962989480 tw4052119522721430370 tw8980582872999850032
tw804474498561226428 tw2506390654091207561 tw11052038083331715920 tw13768183834251960663 tw4476224410239190876 tw626800646147920786 tw10711863671485786631 tw16695245768497086689 tw10533376063657194284 tw14037290227092645227
tw8976331422071967894 tw7097646039126787716 tw14419977130121539214 tw11200501995765170946 tw333650844611276904 tw6161283431967638087 tw15351311303308057687 tw218434815935110358 tw6224129792018165614 tw660908180756105559
tw1594480276796697815 tw1388968228854406691 tw12738736901045507097 tw9655725249059458127 tw449313276956297030 tw17268199819966591831 tw9364271796044146304 tw17433483388581247096 tw9598353978833757213 tw14408906571249902329
tw13703019147599018524 tw16164350428577411116 tw17903201936371442103 tw2864668367958814006 tw5983692690794674942 tw14946032147139177238 tw5106481320247022859 tw6429203415045725963 tw13850710067351798 tw5484949638847678552
tw18314241652605505795 tw1656640474128843391 tw10731412222856280511 tw10745243514857702700 tw10037554154243658156 tw13466228511683432171 tw3240156812972048626 tw14283162489676863937 tw14144123418436829573 tw8974026837586859414
tw4807701980141837967 tw16138651653905376748 tw16900303412047686513 tw11918334182661452114 tw170070803230551481 tw1248479962536631595 tw6016196317548583623 tw787936147979544021 tw11967493970162952083 tw16508628433876358
tw247456343081556023 tw13095382192646729504 tw3615332183473941264 tw1414159372385611730 tw15930754939363890631 tw11719745410443809362 tw15401772165019083492 tw1051292166498077964 tw12110256844898283062 tw14235738366527177901
tw1295624986199482708 tw3056053684404374165 tw7372314033047143142 tw4956554843132141101 tw15780102592277119847 tw7830126003315292002 tw10153396318446265640 tw16180352534510994930 tw750046704663730511 tw11724809881134917914
tw4046351136372905899 tw18325878823826440455 tw4593330835220644279 tw8864495259450518465 tw8093697692722466448 tw289499517799175494 tw8607609583529111643 tw16360711637536125770 tw13387458395329395758 tw8472564174284452082
tw16297595324175944946 tw13500395623011231637 tw1364673713702867179 tw13990008996392734847 tw2456794802807668846 tw13997184924350109665 tw222917214930197913 tw6374029655159912943 tw3522113406648427423:True)
set_option maxRecDepth 100000 in
set_option maxHeartbeats 0 in
theorem PySem.Challenge.cw_dutyproof_k32_who_goes_first_holds : PySem.Challenge.rw_dutyproof_k32_who_goes_first.Holds := by
 w_on;o_law;k_head;(case hw=>w_witness2)
 k_fill
 refine LW.walk (l:=PySem.Challenge.rw_dutyproof_k32_who_goes_first) rfl rfl (λ w h Y=>⟨W.km_in_of Y,W.km_tabs_of Y⟩) ?HC ?F
 case HC=>exact λ w=>by kernel_rfl
 case F =>
  intro w mg fa h KX G hmg
  refine' LW.fin KX G hmg ?Uqa ?Uqb ?Uqc ?Uqd ?Uqe ?Uqf ?Uqg ?Uqh ?Uqi ?Uqj ?Uqk ?Uql ?Uqm ?Uqn ?Uqo ?Uqp ?Uqq ?Uqr ?Uqs ?Uqt ?Uqu ?Uqv ?Uqw ?Uqx ?Uqy ?Uqz ?Uq0 ?Uq1 ?Uq2 ?Uq3 ?Uq4 ?Uq5 ?Uq6 ?Uq7 ?Uq8 ?Uq9 ?Uqaa ?Uqab ?Uqac ?Uqad ?Uqae ?Uqaf ?Uqag ?Uqah ?Uqai ?Uqaj ?Uqak ?Uqal ?Uqam ?Uqan ?Uqao ?Uqap ?Uqaq ?Uqar ?Uqas ?Uqat ?Uqau ?Uqav ?Uqaw ?Uqax ?Uqay ?Uqaz ?Uqa0 ?Uqa1 ?Uqa2 ?Uqa3 ?Uqa4 ?Uqa5 ?Uqa6 ?Uqa7 ?Uqa8 ?Uqa9 ?Uqba ?Uqbb ?Uqbc ?Uqbd ?Uqbe ?Uqbf ?Uqbg ?Uqbh ?Uqbi ?Uqbj ?Uqbk ?Uqbl ?Uqbm ?Uqbn ?Uqbo ?Uqbp ?Uqbq ?Uqbr ?Uqbs ?Uqbt ?Uqbu ?Uqbv ?Uqbw ?Uqbx ?Uqby ?Uqbz ?Uqb0 ?Uqb1 ?Uqb2 ?Uqb3 ?Uqb4 ?Uqb5 ?Uqb6 ?Uqb7 ?Uqb8 ?Uqb9 ?Uqca ?Uqcb ?Uqcc ?Uqcd ?Uqce ?Uqcf ?Uqcg ?Uqch ?Uqci ?Uqcj ?Uqck ?Uqcl ?Uqcm ?Uqcn ?Uqco ?Uqcp ?Uqcq ?Uqcr ?Uqcs ?Uqct ?Uqcu ?Uqcv ?Uqcw ?Uqcx ?Uqcy ?Uqcz ?Uqc0 ?Uqc1 ?Uqc2 ?Uqc3 ?Uqc4 ?Uqc5 ?Uqc6 ?Uqc7 ?Uqc8 ?Uqc9 ?Uqda ?Uqdb ?Uqdc ?Uqdd ?Uqde ?Uqdf ?Uqdg ?Uqdh ?Uqdi ?Uqdj ?Uqdk ?Uqdl ?Uqdm ?Uqdn ?Uqdo
  (case Uqa=>k_is)
  (case Uqb=>k_is)
  (case Uqc=>k_is)
  (case Uqd=>k_is)
  (case Uqe=>k_is)
  (case Uqf=>k_is)
  (case Uqg=>exact L4.Jay KX G LW.Juu (by k_is) (by k_is) (by k_is) (by k_is))
  (case Uqh=>exact L4.Jay KX G LW.Jmk (by k_is) (by k_is) (by k_is) (by k_is))
  (case Uqi=>exact L4.Jay KX G LW.Jtf (by k_is) (by k_is) (by k_is) (by k_is))
  (case Uqj=>exact L4.Jay KX G LW.Jzf (by k_is) (by k_is) (by k_is) (by k_is))
  (case Uqk=>exact L4.Jay KX G LW.Jw2 (by k_is) (by k_is) (by k_is) (by k_is))
  (case Uql=>exact L4.Jay KX G LW.Jw1 (by k_is) (by k_is) (by k_is) (by k_is))
  (case Uqm=>exact L4.Jay KX G LW.Jtc (by k_is) (by k_is) (by k_is) (by k_is))
  (case Uqn=>exact L4.Jay KX G LW.Jw5 (by k_is) (by k_is) (by k_is) (by k_is))
  (case Uqo=>exact L4.Jay KX G LW.Jo7 (by k_is) (by k_is) (by k_is) (by k_is))
  (case Uqp=>exact L4.Jay KX G LW.Jkt (by k_is) (by k_is) (by k_is) (by k_is))
  (case Uqq=>exact L4.Jay KX G LW.Jtd (by k_is) (by k_is) (by k_is) (by k_is))
  (case Uqr=>exact L4.Jay KX G LW.Jw6 (by k_is) (by k_is) (by k_is) (by k_is))
  (case Uqs=>exact L4.Jay KX G LW.Jus (by k_is) (by k_is) (by k_is) (by k_is))
  (case Uqt=>exact L4.Jay KX G LW.Jn7 (by k_is) (by k_is) (by k_is) (by k_is))
  (case Uqu=>exact L4.Jay KX G LW.Jpb (by k_is) (by k_is) (by k_is) (by k_is))
  (case Uqv=>exact L4.Jay KX G LW.Jzg (by k_is) (by k_is) (by k_is) (by k_is))
  (case Uqw=>exact L4.Jay KX G LW.Jte (by k_is) (by k_is) (by k_is) (by k_is))
  (case Uqx=>exact L4.Jay KX G LW.Jut (by k_is) (by k_is) (by k_is) (by k_is))
  (case Uqy=>exact L4.Jay KX G LW.Jo8 (by k_is) (by k_is) (by k_is) (by k_is))
  (case Uqz=>exact L4.Jay KX G LW.Jq3 (by k_is) (by k_is) (by k_is) (by k_is))
  (case Uq0=>exact L4.Jay KX G LW.Jux (by k_is) (by k_is) (by k_is) (by k_is))
  (case Uq1=>exact L4.Jay KX G LW.Js9 (by k_is) (by k_is) (by k_is) (by k_is))
  (case Uq2=>exact L4.Jay KX G LW.Jtb (by k_is) (by k_is) (by k_is) (by k_is))
  (case Uq3=>exact L4.Jay KX G LW.Juw (by k_is) (by k_is) (by k_is) (by k_is))
  (case Uq4=>exact L4.Jay KX G LW.Jw4 (by k_is) (by k_is) (by k_is) (by k_is))
  (case Uq5=>exact L4.Jay KX G LW.Jta (by k_is) (by k_is) (by k_is) (by k_is))
  (case Uq6=>exact L4.Jay KX G LW.Juv (by k_is) (by k_is) (by k_is) (by k_is))
  (case Uq7=>exact L4.Jay KX G LW.Jw3 (by k_is) (by k_is) (by k_is) (by k_is))
  (case Uq8=>exact L4.Jay KX G LW.Jo9 (by k_is) (by k_is) (by k_is) (by k_is))
  (case Uq9=>exact L4.Jay KX G LW.Jpa (by k_is) (by k_is) (by k_is) (by k_is))
  (case Uqaa=>(refine' LW.J6x KX G ?Uqdp ?Uqdq ?Uqdr ?Uqds;(case Uqdp=>k_is);(case Uqdq=>k_is);(case Uqdr=>k_is);(case Uqds=>k_is)))
  (case Uqab=>(refine' LW.Jsl ?Uqdt ?Uqdu ?Uqdv ?Uqdw ?Uqdx ?Uqdy ?Uqdz ?Uqd0;(case Uqdt=>k_is);(case Uqdu=>k_is);(case Uqdv=>k_is);(case Uqdw=>k_is);(case Uqdx=>k_is);(case Uqdy=>k_is);(case Uqdz=>k_is);(case Uqd0=>k_is)))
  (case Uqac=>exact L4.Jd5 LW.Js7 (by k_is) (by k_is) (by k_is) (by k_is) (by k_is))
  (case Uqad=>(refine' LW.Jhc ?Uqd1 ?Uqd2 ?Uqd3 ?Uqd4 ?Uqd5 ?Uqd6 ?Uqd7 ?Uqd8 ?Uqd9 ?Uqea ?Uqeb ?Uqec ?Uqed ?Uqee ?Uqef ?Uqeg ?Uqeh ?Uqei ?Uqej ?Uqek;(case Uqd1=>k_is);(case Uqd2=>k_is);(case Uqd3=>k_is);(case Uqd4=>k_is);(case Uqd5=>k_is);(case Uqd6=>k_is);(case Uqd7=>k_is);(case Uqd8=>k_is);(case Uqd9=>k_is);(case Uqea=>k_is);(case Uqeb=>k_is);(case Uqec=>k_is);(case Uqed=>k_is);(case Uqee=>k_is);(case Uqef=>k_is);(case Uqeg=>k_is);(case Uqeh=>k_is);(case Uqei=>k_is);(case Uqej=>k_is);(case Uqek=>k_is)))
  (case Uqae=>exact L4.Jy0 LW.Jq2 (by k_is) (by k_is) (by k_is) (by k_is) (by k_is) (by k_is) (by k_is))
  (case Uqaf=>exact L4.Jd5 LW.Jmj (by k_is) (by k_is) (by k_is) (by k_is) (by k_is))
  (case Uqag=>exact L4.Jd5 LW.Jdg (by k_is) (by k_is) (by k_is) (by k_is) (by k_is))
  (case Uqah=>exact L4.Jd5 LW.Jcc (by k_is) (by k_is) (by k_is) (by k_is) (by k_is))
  (case Uqai=>exact L4.Jd5 LW.Jak (by k_is) (by k_is) (by k_is) (by k_is) (by k_is))
  (case Uqaj=>(refine' LW.Jhc ?Uqel ?Uqem ?Uqen ?Uqeo ?Uqep ?Uqeq ?Uqer ?Uqes ?Uqet ?Uqeu ?Uqev ?Uqew ?Uqex ?Uqey ?Uqez ?Uqe0 ?Uqe1 ?Uqe2 ?Uqe3 ?Uqe4;(case Uqel=>k_is);(case Uqem=>k_is);(case Uqen=>k_is);(case Uqeo=>k_is);(case Uqep=>k_is);(case Uqeq=>k_is);(case Uqer=>k_is);(case Uqes=>k_is);(case Uqet=>k_is);(case Uqeu=>k_is);(case Uqev=>k_is);(case Uqew=>k_is);(case Uqex=>k_is);(case Uqey=>k_is);(case Uqez=>k_is);(case Uqe0=>k_is);(case Uqe1=>k_is);(case Uqe2=>k_is);(case Uqe3=>k_is);(case Uqe4=>k_is)))
  (case Uqak=>exact L4.Jy0 LW.Jo6 (by k_is) (by k_is) (by k_is) (by k_is) (by k_is) (by k_is) (by k_is))
  (case Uqal=>exact L4.Jd5 LW.Jle (by k_is) (by k_is) (by k_is) (by k_is) (by k_is))
  (case Uqam=>exact L4.Jd5 LW.Jn6 (by k_is) (by k_is) (by k_is) (by k_is) (by k_is))
  (case Uqan=>exact L4.Jd5 LW.Jcc (by k_is) (by k_is) (by k_is) (by k_is) (by k_is))
  (case Uqao=>exact L4.Jd5 LW.Jak (by k_is) (by k_is) (by k_is) (by k_is) (by k_is))
  (case Uqap=>(refine' LW.Jhc ?Uqe5 ?Uqe6 ?Uqe7 ?Uqe8 ?Uqe9 ?Uqfa ?Uqfb ?Uqfc ?Uqfd ?Uqfe ?Uqff ?Uqfg ?Uqfh ?Uqfi ?Uqfj ?Uqfk ?Uqfl ?Uqfm ?Uqfn ?Uqfo;(case Uqe5=>k_is);(case Uqe6=>k_is);(case Uqe7=>k_is);(case Uqe8=>k_is);(case Uqe9=>k_is);(case Uqfa=>k_is);(case Uqfb=>k_is);(case Uqfc=>k_is);(case Uqfd=>k_is);(case Uqfe=>k_is);(case Uqff=>k_is);(case Uqfg=>k_is);(case Uqfh=>k_is);(case Uqfi=>k_is);(case Uqfj=>k_is);(case Uqfk=>k_is);(case Uqfl=>k_is);(case Uqfm=>k_is);(case Uqfn=>k_is);(case Uqfo=>k_is)))
  (case Uqaq=>exact L4.Jy0 LW.Jq0 (by k_is) (by k_is) (by k_is) (by k_is) (by k_is) (by k_is) (by k_is))
  (case Uqar=>exact L4.Jd5 LW.Jmi (by k_is) (by k_is) (by k_is) (by k_is) (by k_is))
  (case Uqas=>exact L4.Jd5 LW.Jdg (by k_is) (by k_is) (by k_is) (by k_is) (by k_is))
  (case Uqat=>exact L4.Jd5 LW.Jcc (by k_is) (by k_is) (by k_is) (by k_is) (by k_is))
  (case Uqau=>exact L4.Jd5 LW.Jak (by k_is) (by k_is) (by k_is) (by k_is) (by k_is))
  (case Uqav=>(refine' LW.Jhc ?Uqfp ?Uqfq ?Uqfr ?Uqfs ?Uqft ?Uqfu ?Uqfv ?Uqfw ?Uqfx ?Uqfy ?Uqfz ?Uqf0 ?Uqf1 ?Uqf2 ?Uqf3 ?Uqf4 ?Uqf5 ?Uqf6 ?Uqf7 ?Uqf8;(case Uqfp=>k_is);(case Uqfq=>k_is);(case Uqfr=>k_is);(case Uqfs=>k_is);(case Uqft=>k_is);(case Uqfu=>k_is);(case Uqfv=>k_is);(case Uqfw=>k_is);(case Uqfx=>k_is);(case Uqfy=>k_is);(case Uqfz=>k_is);(case Uqf0=>k_is);(case Uqf1=>k_is);(case Uqf2=>k_is);(case Uqf3=>k_is);(case Uqf4=>k_is);(case Uqf5=>k_is);(case Uqf6=>k_is);(case Uqf7=>k_is);(case Uqf8=>k_is)))
  (case Uqaw=>exact L4.Jy0 LW.Jmh (by k_is) (by k_is) (by k_is) (by k_is) (by k_is) (by k_is) (by k_is))
  (case Uqax=>exact L4.Jd5 LW.Ji0 (by k_is) (by k_is) (by k_is) (by k_is) (by k_is))
  (case Uqay=>exact L4.Jd5 LW.Jdg (by k_is) (by k_is) (by k_is) (by k_is) (by k_is))
  (case Uqaz=>exact L4.Jd5 LW.Jcc (by k_is) (by k_is) (by k_is) (by k_is) (by k_is))
  (case Uqa0=>exact L4.Jd5 LW.Jak (by k_is) (by k_is) (by k_is) (by k_is) (by k_is))
  (case Uqa1=>(refine' LW.Jhc ?Uqf9 ?Uqga ?Uqgb ?Uqgc ?Uqgd ?Uqge ?Uqgf ?Uqgg ?Uqgh ?Uqgi ?Uqgj ?Uqgk ?Uqgl ?Uqgm ?Uqgn ?Uqgo ?Uqgp ?Uqgq ?Uqgr ?Uqgs;(case Uqf9=>k_is);(case Uqga=>k_is);(case Uqgb=>k_is);(case Uqgc=>k_is);(case Uqgd=>k_is);(case Uqge=>k_is);(case Uqgf=>k_is);(case Uqgg=>k_is);(case Uqgh=>k_is);(case Uqgi=>k_is);(case Uqgj=>k_is);(case Uqgk=>k_is);(case Uqgl=>k_is);(case Uqgm=>k_is);(case Uqgn=>k_is);(case Uqgo=>k_is);(case Uqgp=>k_is);(case Uqgq=>k_is);(case Uqgr=>k_is);(case Uqgs=>k_is)))
  (case Uqa2=>exact L4.Jy0 LW.Js4 (by k_is) (by k_is) (by k_is) (by k_is) (by k_is) (by k_is) (by k_is))
  (case Uqa3=>exact L4.Jd5 LW.Js5 (by k_is) (by k_is) (by k_is) (by k_is) (by k_is))
  (case Uqa4=>exact L4.Jd5 LW.Js6 (by k_is) (by k_is) (by k_is) (by k_is) (by k_is))
  (case Uqa5=>exact L4.Jd5 LW.Jq1 (by k_is) (by k_is) (by k_is) (by k_is) (by k_is))
  (case Uqa6=>(refine' LW.Jhc ?Uqgt ?Uqgu ?Uqgv ?Uqgw ?Uqgx ?Uqgy ?Uqgz ?Uqg0 ?Uqg1 ?Uqg2 ?Uqg3 ?Uqg4 ?Uqg5 ?Uqg6 ?Uqg7 ?Uqg8 ?Uqg9 ?Uqha ?Uqhb ?Uqhc;(case Uqgt=>k_is);(case Uqgu=>k_is);(case Uqgv=>k_is);(case Uqgw=>k_is);(case Uqgx=>k_is);(case Uqgy=>k_is);(case Uqgz=>k_is);(case Uqg0=>k_is);(case Uqg1=>k_is);(case Uqg2=>k_is);(case Uqg3=>k_is);(case Uqg4=>k_is);(case Uqg5=>k_is);(case Uqg6=>k_is);(case Uqg7=>k_is);(case Uqg8=>k_is);(case Uqg9=>k_is);(case Uqha=>k_is);(case Uqhb=>k_is);(case Uqhc=>k_is)))
  (case Uqa7=>k_is)
  (case Uqa8=>k_is)
  (case Uqa9=>k_is)
  (case Uqba=>k_is)
  (case Uqbb=>k_is)
  (case Uqbc=>k_is)
  (case Uqbd=>k_is)
  (case Uqbe=>k_is)
  (case Uqbf=>k_is)
  (case Uqbg=>kernel_rfl)
  (case Uqbh=>kernel_rfl)
  (case Uqbi=>kernel_rfl)
  (case Uqbj=>kernel_rfl)
  (case Uqbk=>kernel_rfl)
  (case Uqbl=>kernel_rfl)
  (case Uqbm=>kernel_rfl)
  (case Uqbn=>kernel_rfl)
  (case Uqbo=>kernel_rfl)
  (case Uqbp=>kernel_rfl)
  (case Uqbq=>kernel_rfl)
  (case Uqbr=>kernel_rfl)
  (case Uqbs=>kernel_rfl)
  (case Uqbt=>kernel_rfl)
  (case Uqbu=>kernel_rfl)
  (case Uqbv=>kernel_rfl)
  (case Uqbw=>kernel_rfl)
  (case Uqbx=>kernel_rfl)
  (case Uqby=>kernel_rfl)
  (case Uqbz=>kernel_rfl)
  (case Uqb0=>kernel_rfl)
  (case Uqb1=>kernel_rfl)
  (case Uqb2=>kernel_rfl)
  (case Uqb3=>kernel_rfl)
  (case Uqb4=>kernel_rfl)
  (case Uqb5=>kernel_rfl)
  (case Uqb6=>kernel_rfl)
  (case Uqb7=>kernel_rfl)
  (case Uqb8=>kernel_rfl)
  (case Uqb9=>kernel_rfl)
  (case Uqca=>kernel_rfl)
  (case Uqcb=>kernel_rfl)
  (case Uqcc=>kernel_rfl)
  (case Uqcd=>kernel_rfl)
  (case Uqce=>kernel_rfl)
  (case Uqcf=>kernel_rfl)
  (case Uqcg=>kernel_rfl)
  (case Uqch=>kernel_rfl)
  (case Uqci=>kernel_rfl)
  (case Uqcj=>kernel_rfl)
  (case Uqck=>kernel_rfl)
  (case Uqcl=>kernel_rfl)
  (case Uqcm=>kernel_rfl)
  (case Uqcn=>kernel_rfl)
  (case Uqco=>kernel_rfl)
  (case Uqcp=>kernel_rfl)
  (case Uqcq=>kernel_rfl)
  (case Uqcr=>kernel_rfl)
  (case Uqcs=>kernel_rfl)
  (case Uqct=>kernel_rfl)
  (case Uqcu=>kernel_rfl)
  (case Uqcv=>kernel_rfl)
  (case Uqcw=>kernel_rfl)
  (case Uqcx=>kernel_rfl)
  (case Uqcy=>kernel_rfl)
  (case Uqcz=>kernel_rfl)
  (case Uqc0=>kernel_rfl)
  (case Uqc1=>kernel_rfl)
  (case Uqc2=>kernel_rfl)
  (case Uqc3=>kernel_rfl)
  (case Uqc4=>kernel_rfl)
  (case Uqc5=>kernel_rfl)
  (case Uqc6=>kernel_rfl)
  (case Uqc7=>kernel_rfl)
  (case Uqc8=>kernel_rfl)
  (case Uqc9=>k_is)
  (case Uqda=>k_is)
  (case Uqdb=>k_is)
  (case Uqdc=>k_is)
  (case Uqdd=>k_is)
  (case Uqde=>k_is)
  (case Uqdf=>k_is)
  (case Uqdg=>k_is)
  (case Uqdh=>k_is)
  (case Uqdi=>k_is)
  (case Uqdj=>k_is)
  (case Uqdk=>k_is)
  (case Uqdl=>k_is)
  (case Uqdm=>k_is)
  (case Uqdn=>k_is)
  (case Uqdo=>(refine' LW.J6w ?vbs_Order_sp ?vbs_Order_rd ?vbs_Order_fi ?vbs_Order_fc ?vbs_Order_kp;(case vbs_Order_sp=>k_is);(case vbs_Order_rd=>k_is);(case vbs_Order_fi=>k_is);(case vbs_Order_fc=>k_is);(case vbs_Order_kp=>k_is)))
