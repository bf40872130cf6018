import PyProof.Rows.All
import Wide.All
import OpenK.AllK
import Wide.FinOn
import Lean
import PyProof.EqAt
import PyProof.EqKinds
import PyProof.TupleCall
import PyProof.ExcBaseAll.ValueError
import PyProof.ExcAttrAll.ValueError
import PyProof.NsDelKeeps
import PySem.Challenge.RW_dutyproof_k53_fars
set_option Elab.async false
set_option linter.all false
set_option maxRecDepth 100000
theorem Zf {p:Prop}(h:False):p:=h.elim
namespace L2
open PySem PySem.Spec PyProof.Rows
noncomputable abbrev Key:=Sum Int Str
noncomputable def Jrl:Key->Value->Bool
 | .inl k,v=>Value.isInt k v
 | .inr x,v=>Value.isStrOf x v
noncomputable def keyH (w:World):Key->Int
 | .inl k=>hashInt k
 | .inr x=>hashStr w x
theorem Jv:∀{k:Key}{v:Value},Jrl k v=true->(∃i t,k=Sum.inl i/\v=Value.int i t)∨(∃x t,k=Sum.inr x/\v=Value.str x t)
 | .inl i,v,h=>by
  obtain⟨t,e⟩:=Value.isInt_shape (k:=i) (v:=v) h
  exact .inl ⟨i,t,rfl,e⟩
 | .inr x,v,h=>by
  obtain⟨t,e⟩:=Value.isStrOf_shape (x:=x) (v:=v) h
  exact .inr ⟨x,t,rfl,e⟩
theorem Jub (i:Int) (t:Tok):Jrl (.inl i) (.int i t)=true:=by simp[Jrl,Value.isInt]
theorem Juc (x:Str) (t:Tok):Jrl (.inr x) (.str x t)=true:=by simp[Jrl,Value.isStrOf]
theorem J30 (a b:Int):decide ((Sum.inl a:Key)=Sum.inl b)=(a==b):=by
 by_cases e:a=b
 ·subst e;simp
 ·have h:¬(Sum.inl a:Key)=Sum.inl b:=λ q=>e (Sum.inl.inj q)
  rw[decide_eq_false h]
  exact(beq_eq_false_iff_ne.mpr e).symm
theorem J33 (a b:Str):decide ((Sum.inr a:Key)=Sum.inr b)=decide (a=b):=by
 by_cases e:a=b
 ·subst e;simp
 ·have h:¬(Sum.inr a:Key)=Sum.inr b:=λ q=>e (Sum.inr.inj q)
  rw[decide_eq_false h,decide_eq_false e]
theorem J31 (a:Int) (b:Str):decide ((Sum.inl a:Key)=Sum.inr b)=false:=decide_eq_false (λ q=>nomatch q)
theorem J32 (a:Str) (b:Int):decide ((Sum.inr a:Key)=Sum.inl b)=false:=decide_eq_false (λ q=>nomatch q)
noncomputable def Jb5 (prog:Program) (w:World):PySem.KeyKind prog w Key where
 is:=Jrl
 hash:=keyH w
 inj:=λ v a b ha hb=>by
  rcases Jv ha with⟨i,t,rfl,rfl⟩|⟨x,t,rfl,rfl⟩
  ·rcases Jv hb with⟨j,u,rfl,e⟩|⟨y,u,rfl,e⟩
   ·injection e with e1 _;rw[e1]
   ·exact nomatch e
  ·rcases Jv hb with⟨j,u,rfl,e⟩|⟨y,u,rfl,e⟩
   ·exact nomatch e
   ·injection e with e1 _;rw[e1]
 byValue:=λ k v h=>by
  rcases Jv h with⟨i,t,rfl,rfl⟩|⟨x,t,rfl,rfl⟩<;>rfl
 pyHash:=λ hv h=>by
  rcases Jv hv with⟨i,t,rfl,rfl⟩|⟨x,t,rfl,rfl⟩
  ·exact wpAny_pyHash_int h
  ·exact wpAny_pyHash_str h
 eqBool:=λ hu hv h=>by
  rcases Jv hu with⟨i,t,rfl,rfl⟩|⟨x,t,rfl,rfl⟩
  ·rcases Jv hv with⟨j,u,rfl,rfl⟩|⟨y,u,rfl,rfl⟩
   ·rw[J30] at h;exact wpAny_eqBool_int h
   ·rw[J31] at h;exact SeqAt.EqAt.int_str i t y u _ _ _ _ h
  ·rcases Jv hv with⟨j,u,rfl,rfl⟩|⟨y,u,rfl,rfl⟩
   ·rw[J32] at h;exact SeqAt.EqAt.str_int x t j u _ _ _ _ h
   ·rw[J33] at h;exact wpAny_eqBool_str h
 «strs» :=λ k x t v h=>by
  rcases Jv h with⟨i,u,rfl,e⟩|⟨y,u,rfl,e⟩
  ·exact nomatch e
  ·injection e with e1 _
   subst e1
   cases v<;>rfl
theorem Jo2 (prog:Program) (w:World) (i:Int) (t:Tok):(Jb5 prog w).is (.inl i) (.int i t)=true:=Jub i t
theorem Jo3 (prog:Program) (w:World) (x:Str) (t:Tok):(Jb5 prog w).is (.inr x) (.str x t)=true:=Juc x t
inductive V where
 | non|bl (b:Bool)|int (i:Int)|str (x:Str)|byt (b:Array UInt8)|flt (b:UInt64)|ref (a:Addr)|ty (n:String)
 deriving DecidableEq
noncomputable def RelV:V->Value->Prop
 | .non,u=>u=Value.none
 | .bl b,u=>u=Value.bool b
 | .int i,u=>∃t,u=Value.int i t
 | .str x,u=>∃t,u=Value.str x t
 | .byt b,u=>∃t,u=Value.bytes b t
 | .flt b,u=>∃t,u=Value.float b t
 | .ref a,u=>u=Value.ref a
 | .ty n,u=>u=Value.type n
noncomputable abbrev Vals:List V->List Value->Prop:=Paired RelV
theorem Vals.length {xs:List V}{us:List Value}(r:Vals xs us):xs.length=us.length:=Paired.length r
theorem Vals.get:∀{xs:List V}{us:List Value}{i:Nat}{x:V},Vals xs us->xs[i]?=some x->∃u,us[i]?=some u/\RelV x u
 | _,_,_,_,.nil,e=>by simp at e
 | _,_,0,_,.cons r _,e=>by simp at e;subst e;exact⟨_,rfl,r⟩
 | _,_,i+1,x,.cons _ t,e=>by
  obtain⟨u,h1,h2⟩:=Vals.get (i:=i) (x:=x) t (by simpa using e)
  exact⟨u,by simpa using h1,h2⟩
theorem Vals.set {x:V}{u:Value}(r:RelV x u):∀{xs:List V}{us:List Value}(i:Nat),Vals xs us->Vals (xs.set i x) (us.set i u)
 | _,_,_,.nil=>.nil
 | _,_,0,.cons _ t=>.cons r t
 | _,_,i+1,.cons q t=>.cons q (Vals.set r i t)
theorem Vals.append:∀{xs ys:List V}{us ws:List Value},Vals xs us->Vals ys ws->Vals (xs++ys) (us++ws)
 | _,_,_,_,.nil,s=>s
 | _,_,_,_,.cons r t,s=>.cons r (Vals.append t s)
theorem Vals.take:∀{xs:List V}{us:List Value}(n:Nat),Vals xs us->Vals (xs.take n) (us.take n)
 | _,_,0,_=>.nil
 | _,_,_+1,.nil=>.nil
 | _,_,n+1,.cons r t=>.cons r (Vals.take n t)
theorem Vals.drop:∀{xs:List V}{us:List Value}(n:Nat),Vals xs us->Vals (xs.drop n) (us.drop n)
 | _,_,0,r=>r
 | _,_,_+1,.nil=>.nil
 | _,_,n+1,.cons _ t=>Vals.drop n t
theorem Vals.none_of:∀{xs:List V}{us:List Value}{i:Nat},Vals xs us->xs[i]?=none->us[i]?=none:=λ {xs us i} r e=>by
 have h1:=r.length
 have h2:xs.length<=i:=List.getElem?_eq_none_iff.mp e
 exact List.getElem?_eq_none_iff.mpr (by omega)
noncomputable def RelO:Option V->Option Value->Prop
 | some v,some u=>RelV v u
 | none,none=>True
 | _,_=>False
noncomputable def KV {κ:Type}:List (κ×V)->List (κ×Value)->Prop:=Paired λ (p:κ×V) (q:κ×Value)=>p.1=q.1/\RelV p.2 q.2
noncomputable def kV:Key->V
 | .inl i=>.int i
 | .inr x=>.str x
inductive HO where
 /-- a list -/
 | lst (xs:List V)
 /-- a tuple (never changes) -/
 | tup (xs:List V)
 /-- a dict whose keys are ints and texts; one whose keys are tuples of ints and texts (the empty one is both) -/
 | dK (kvs:List (Key×V))|dT (kvs:List (List Key×V))
 /-- a set of ints: its members, its size -/
 | set (S:Int->Bool) (n:Nat)
 /-- an instance of the class at C, its dict at dx, its attributes -/
 | ins (C dx:Addr) (fs:List (Str×V))
 /-- the dict of the instance at x -/
 | own (x:Addr)
 /-- the dict of an exception -/
 | xd (fs:List (Str×V))
 /-- a bound method, f of x -/
 | met (f x:Addr)
 /-- a range object lo, lo + 1, .. below hi -/
 | rng (lo hi:Int)
 /-- a thing that is known to the object (the script; a dict while a loop walks it): read, never written while it is so -/
 | frz (o:Obj) (u:HO)
 /-- a code object's table -/
 | tbl (ps:Array Value)
 /-- any other thing, by what is true of its one object (a def of one's own: SetO a S n := HO.ext λ h => ..) -/
 | ext (φ:Heap->Prop)
noncomputable abbrev Hp:=Addr->Option HO
noncomputable def upd (H:Hp) (a:Addr) (o:HO):Hp:=λ b=>if b=a then some o else H b
theorem Jg {H:Hp}{a:Addr}{o:HO}:upd H a o a=some o:=by unfold upd;rw[if_pos rfl]
theorem Jh {H:Hp}{a b:Addr}{o:HO}(h:b≠a):upd H a o b=H b:=by unfold upd;rw[if_neg h]
theorem Jx {H:Hp}{a b:Addr}{o:HO}(h:H a=some o) (h':H b=none):a≠b:=by
 intro e;subst e;rw[h] at h';cases h'
section
variable (P:Program) (w:World)
noncomputable def Jbg (H:Hp) (h:Heap) (a:Addr):HO->Prop
 | .lst xs=>xs.length<=sizeLine/\∃(its:List Value) (n:Nat),Vals xs its/\h.get? a=some { cls:=.type "list",data:=.seq its.toArray n }
 | .tup xs=>xs.length<=sizeLine/\∃its:List Value,Vals xs its/\IsTup h a its.toArray
 | .dK kvs=>kvs.length<=sizeLine/\(a==sysModules)=false/\∃vs,KV kvs vs/\h.DictOf (Jb5 P w) a vs
 | .dT kvs=>kvs.length<=sizeLine/\(a==sysModules)=false/\∃xs:List (List Key×Addr×Value),
   Paired (λ (p:List Key×V) (q:List Key×Addr×Value)=>p.1=q.1/\H q.2.1=some (.tup (p.1.map kV))/\RelV p.2 q.2.2) kvs xs /\
   ∃o es ep,h.get? a=some o/\o.ExactDict/\o.data=.dict es ep/\es.toList=xs.map (entryOfKey (tupleKind (Jb5 P w)))/\(xs.map (·.1)).Nodup
 | .set S n=>h.SetOf (intKind P w) a S n
 | .ins C dx fs=>H dx=some (.own a)/\fs.length<=1000/\dx≠a/\h.get? a=some (W.instObj C dx) /\
   ∃mA,h.Ns1 dx mA/\(∀f,RelO (fs.lookup f) (mA f))/\PySem.Within mA (fs.map (·.1))
 | .own _=>∃o,h.get? a=some o
 | .xd fs=>∃mA,h.Ns1 a mA/\∀f,RelO (fs.lookup f) (mA f)
 | .rng lo hi=>∃t u v,h.get? a=some { cls:=.type "range",data:=.fields #[.int lo t,.int hi u,.int 1 v] }
 | .frz o u=>h.get? a=some o/\Jbg H h a u
 | .tbl ps=>h.get? a=some { cls:=.none,data:=.fields ps }
 | .met f x=>h.get? a=some (W.methodObj (.ref f) (.ref x))
 | .ext φ=>φ h/\(∃o,h.get? a=some o)/\∀h1 h2:Heap,φ h1->(∀o,h1.get? a=some o->h2.get? a=some o)->φ h2
noncomputable def HOk (H:Hp) (h:Heap):Prop:=∀a o,H a=some o->Jbg P w H h a o
end
section
variable {P:Program}{w:World}{H H':Hp}{h h':Heap}{a:Addr}{o:HO}
theorem Jbg.lt (x:Jbg P w H h a o):a<h.objs.size:=by
 cases o with
 | lst xs=>obtain⟨_,_,_,_,e⟩:=x;exact Heap.lt_size e
 | tup xs=>obtain⟨_,_,_,p⟩:=x;exact p.lt
 | dK kvs=>obtain⟨_,_,_,_,o,_,_,e,_⟩:=x;exact Heap.lt_size e
 | dT kvs=>obtain⟨_,_,_,_,o,_,_,e,_⟩:=x;exact Heap.lt_size e
 | set S n=>obtain⟨o,_,_,_,e,_⟩:=x;exact Heap.lt_size e
 | ins C dx fs=>obtain⟨_,_,_,e,_⟩:=x;exact Heap.lt_size e
 | own y=>obtain⟨_,e⟩:=x;exact Heap.lt_size e
 | xd fs=>obtain⟨_,⟨_,_,_,e,_⟩,_⟩:=x;exact Heap.lt_size e
 | rng lo hi=>obtain⟨_,_,_,e⟩:=x;exact Heap.lt_size e
 | frz ob u=>obtain⟨e,_⟩:=x;exact Heap.lt_size e
 | tbl ps=>exact Heap.lt_size (show h.get? a=some _ from x)
 | met f y=>exact Heap.lt_size (show h.get? a=some _ from x)
 | ext φ=>obtain⟨_,⟨_,e⟩,_⟩:=x;exact Heap.lt_size e
theorem Paired.mapP {α β:Type}{F G:α->β->Prop}:∀{l₁:List α}{l₂:List β},Paired F l₁ l₂->(∀a b,F a b->G a b)->Paired G l₁ l₂
 | _,_,.nil,_=>.nil
 | _,_,.cons r t,f=>.cons (f _ _ r) (Paired.mapP t f)
theorem Jbg.stay (x:Jbg P w H h a o) (k:∀b u,(b=a∨H b=some (.own a))->h.get? b=some u->h'.get? b=some u)
  (ho:∀b,H b=some (.own a)->H' b=some (.own a)) (ht:∀b xs,H b=some (.tup xs)->H' b=some (.tup xs)):Jbg P w H' h' a o:=by
 induction o with
 | lst xs=>obtain⟨z,its,n,r,e⟩:=x;exact⟨z,its,n,r,k _ _ (.inl rfl) e⟩
 | tup xs=>obtain⟨z,its,r,ob,e,c⟩:=x;exact⟨z,its,r,ob,k _ _ (.inl rfl) e,c⟩
 | dK kvs=>obtain⟨z,y,vs,r,ob,es,ep,e,c⟩:=x;exact⟨z,y,vs,r,ob,es,ep,k _ _ (.inl rfl) e,c⟩
 | dT kvs =>
  obtain⟨z,y,xs,r,ob,es,ep,e,c⟩:=x
  exact⟨z,y,xs,Paired.mapP r λ p q z=>⟨z.1,ht _ _ z.2.1,z.2.2⟩,ob,es,ep,k _ _ (.inl rfl) e,c⟩
 | set S n=>obtain⟨ob,es,ep,t,e,c⟩:=x;exact⟨ob,es,ep,t,k _ _ (.inl rfl) e,c⟩
 | ins C dx fs =>
  obtain⟨d,z,ne,e,mA,⟨od,es,ep,e2,c⟩,r⟩:=x
  exact⟨ho _ d,z,ne,k _ _ (.inl rfl) e,mA,⟨od,es,ep,k _ _ (.inr d) e2,c⟩,r⟩
 | own y=>obtain⟨ob,e⟩:=x;exact⟨ob,k _ _ (.inl rfl) e⟩
 | xd fs=>obtain⟨mA,⟨od,es,ep,e,c⟩,r⟩:=x;exact⟨mA,⟨od,es,ep,k _ _ (.inl rfl) e,c⟩,r⟩
 | rng lo hi=>obtain⟨t,u,v,e⟩:=x;exact⟨t,u,v,k _ _ (.inl rfl) e⟩
 | frz ob u ih=>obtain⟨e,q⟩:=x;exact⟨k _ _ (.inl rfl) e,ih q⟩
 | tbl ps =>
  have e:h.get? a=some { cls:=.none,data:=.fields ps }:=x
  show h'.get? a=some { cls:=.none,data:=.fields ps }
  exact k a _ (.inl rfl) e
 | met f y =>
  have e:h.get? a=some (W.methodObj (.ref f) (.ref y)):=x
  show h'.get? a=some (W.methodObj (.ref f) (.ref y))
  exact k a _ (.inl rfl) e
 | ext φ=>obtain⟨p,⟨o,e⟩,st⟩:=x;exact⟨st _ _ p λ o q=>k _ _ (.inl rfl) q,⟨o,k _ _ (.inl rfl) e⟩,st⟩
theorem HOk.lt (x:HOk P w H h) (e:H a=some o):a<h.objs.size:=(x a o e).lt
theorem HOk.fresh (x:HOk P w H h) (e:h.objs.size<=a):H a=none:=by
 cases q:H a with
 | none=>rfl
 | some u=>exact absurd (Nat.lt_of_lt_of_le (x.lt q) e) (Nat.lt_irrefl _)
theorem HOk.kept (x:HOk P w H h) (k:∀b u,h.get? b=some u->h'.get? b=some u):HOk P w H h':=λ a o e =>
 (x a o e).stay (λ b u _ q=>k b u q) (λ _ q=>q) λ _ _ q=>q
theorem HOk.laid (x:HOk P w H h) (k:∀b u,h.get? b=some u->h'.get? b=some u) (hp:h.objs.size<=a) (new:Jbg P w (upd H a o) h' a o):HOk P w (upd H a o) h':=λ b u e=>by
 have hn:=x.fresh hp
 by_cases hb:b=a
 ·subst hb;rw[Jg] at e;cases e;exact new
 ·rw[Jh hb] at e
  exact(x b u e).stay (λ c v _ q=>k c v q) (λ c q=>by rw[Jh (Jx q hn)];exact q) λ c xs q=>by rw[Jh (Jx q hn)];exact q
end
noncomputable def Rd (H:Hp) (a:Addr) (u:HO):Prop:=H a=some u∨∃o,H a=some (.frz o u)
theorem Rd.of {H:Hp}{a:Addr}{u:HO}(h:H a=some u):Rd H a u:=.inl h
theorem Rd.ok {P:Program}{w:World}{H:Hp}{h:Heap}{a:Addr}{u:HO}(r:Rd H a u) (x:HOk P w H h):Jbg P w H h a u:=by
 rcases r with r|⟨o,r⟩
 ·exact x a u r
 ·obtain⟨_,q⟩:=x a _ r
  exact q
noncomputable def Mut:Option HO->Prop
 | some (.lst _)=>True
 | some (.dK _)=>True
 | some (.dT _)=>True
 | some (.set _ _)=>True
 | some (.ins _ _ _)=>True
 | some (.ext _)=>True
 | _=>False
section
variable {P:Program}{w:World}{H:Hp}{h h':Heap}{x e:Addr}{o':HO}
theorem HOk.write (ok:HOk P w H h) (mu:Mut (H x)) (he:e=x∨H e=some (.own x)) (k:∀b u,b≠e->h.get? b=some u->h'.get? b=some u) (heo:∃u,h'.get? e=some u)
  (new:Jbg P w (upd H x o') h' x o'):HOk P w (upd H x o') h':=λ b u q=>by
 have nown:∀c y,H c=some (.own y)->c≠x:=λ c y r z=>by subst z;rw[r] at mu;exact mu
 have ntup:∀c xs,H c=some (.tup xs)->c≠x:=λ c xs r z=>by subst z;rw[r] at mu;exact mu
 by_cases hb:b=x
 ·subst hb;rw[Jg] at q;cases q;exact new
 ·rw[Jh hb] at q
  by_cases hbe:b=e
  ·have q':H b=some (.own x):=by
    rcases he with z|z
    ·exact absurd (hbe.trans z) hb
    ·rw[hbe];exact z
   rw[q] at q';cases q'
   obtain⟨v,hv⟩:=heo
   exact⟨v,by rw[hbe];exact hv⟩
  ·refine(ok b u q).stay (λ c v hc r=>k c v ?_ r) (λ c r=>by rw[Jh (nown c b r)];exact r) λ c xs r=>by rw[Jh (ntup c xs r)];exact r
   rcases hc with rfl|hc
   ·exact hbe
   ·rintro rfl
    rcases he with z|z
    ·exact nown c b hc z
    ·rw[hc] at z;cases z;exact hb rfl
end
structure Un (fs ex:List Addr) (H H':Hp) (h h':Heap):Prop where
 keep:∀b o,h.get? b=some o->H b=none->b∉fs->b∉ex->h'.get? b=some o
 slot:∀b o,h.get? b=some o->H b=none->b∈fs->b∉ex->∃sl,h'.get? b=some { o with slots:=sl }
 free:∀b o,h.get? b=some o->H b=none->b∉ex->H' b=none
 there:∀b o,h.get? b=some o->b∉ex->∃o',h'.get? b=some o'
 tups:∀b xs,H b=some (.tup xs)->H' b=some (.tup xs)
 frzs:∀b o u,H b=some (.frz o u)->H' b=some (.frz o u)
 tbls:∀b ps,H b=some (.tbl ps)->∃more,H' b=some (.tbl (ps++more))
section
variable {fs fs' ex ex':List Addr}{H H1 H2:Hp}{h h1 h2 h':Heap}{a x e:Addr}{o:HO}
theorem Un.any (u:Un fs ex H H1 h h1){b:Addr}{ob:Obj}(q:h.get? b=some ob) (n:H b=none) (hx:b∉ex):∃sl,h1.get? b=some { ob with slots:=sl }:=by
 by_cases hb:b∈fs
 ·exact u.slot b ob q n hb hx
 ·exact⟨ob.slots,u.keep b ob q n hb hx⟩
theorem Un.trans (a:Un fs ex H H1 h h1) (b:Un fs ex H1 H2 h1 h2):Un fs ex H H2 h h2 where
 keep:=λ c ob q n hc hx=>b.keep c ob (a.keep c ob q n hc hx) (a.free c ob q n hx) hc hx
 slot:=λ c ob q n hc hx=>by
  obtain⟨sl,e1⟩:=a.slot c ob q n hc hx
  obtain⟨sl',e2⟩:=b.slot c _ e1 (a.free c ob q n hx) hc hx
  exact⟨sl',e2⟩
 free:=λ c ob q n hx=>by
  obtain⟨o',e1⟩:=a.there c ob q hx
  exact b.free c o' e1 (a.free c ob q n hx) hx
 there:=λ c ob q hx=>by
  obtain⟨o',e1⟩:=a.there c ob q hx
  exact b.there c o' e1 hx
 tups:=λ c xs q=>b.tups c xs (a.tups c xs q)
 frzs:=λ c ob xs q=>b.frzs c ob xs (a.frzs c ob xs q)
 tbls:=λ c ps q=>by
  obtain⟨m1,e1⟩:=a.tbls c ps q
  obtain⟨m2,e2⟩:=b.tbls c _ e1
  exact⟨m1++m2,by rw[e2,Array.append_assoc]⟩
theorem Un.kept (k:∀b u,h.get? b=some u->h'.get? b=some u):Un fs ex H H h h' :=
 ⟨λ b ob q _ _ _=>k b ob q,λ b ob q _ _ _=>⟨ob.slots,k b ob q⟩,λ _ _ _ n _=>n,λ b ob q _=>⟨ob,k b ob q⟩,λ _ _ q=>q,λ _ _ _ q=>q,λ _ ps q=>⟨#[],by rw[q];simp⟩⟩
theorem Un.refl:Un fs ex H H h h:=Un.kept λ _ _ q=>q
theorem Un.laid (k:∀b u,h.get? b=some u->h'.get? b=some u) (hp:h.objs.size<=a) (hn:H a=none):Un fs ex H (upd H a o) h h' where
 keep:=λ b u q _ _ _=>k b u q
 slot:=λ b u q _ _ _=>⟨u.slots,k b u q⟩
 free:=λ b u q n _=>by rw[Jh (Nat.ne_of_lt (Nat.lt_of_lt_of_le (Heap.lt_size q) hp))];exact n
 there:=λ b u q _=>⟨u,k b u q⟩
 tups:=λ b xs q=>by rw[Jh (Jx q hn)];exact q
 frzs:=λ b u xs q=>by rw[Jh (Jx q hn)];exact q
 tbls:=λ b ps q=>⟨#[],by rw[Jh (Jx q hn),q];simp⟩
theorem Un.write (mu:Mut (H x)) (he:e=x∨H e=some (.own x)) (k:∀b u,b≠e->h.get? b=some u->h'.get? b=some u) (heo:∃u,h'.get? e=some u):Un fs ex H (upd H x o) h h':=by
 have hx:∀b,H b=none->b≠x:=λ b n z=>by subst z;rw[n] at mu;exact mu
 have hb:∀b,H b=none->b≠e:=λ b n z=>by
  subst z
  rcases he with r|r
  ·exact hx b n r
  ·rw[n] at r;cases r
 have hm:∀b u,H b=some u->¬Mut (some u)->b≠x:=λ b u q nm z=>by subst z;rw[q] at mu;exact nm mu
 refine⟨λ b u q n _ _=>k b u (hb b n) q,λ b u q n _ _=>⟨u.slots,k b u (hb b n) q⟩,λ b u q n _=>by rw[Jh (hx b n)];exact n,λ b u q _=>?_,
  λ b xs q=>by rw[Jh (hm b _ q λ z=>z)];exact q,λ b u xs q=>by rw[Jh (hm b _ q λ z=>z)];exact q,λ b ps q=>⟨#[],by rw[Jh (hm b _ q λ z=>z),q];simp⟩⟩
 by_cases hbe:b=e
 ·subst hbe;exact heo
 ·exact⟨u,k b u hbe q⟩
theorem Un.mono (u:Un fs ex H H1 h h1) (hs:∀b∈fs,b∈fs') (hx:∀b∈ex,b∈ex'):Un fs' ex' H H1 h h1 :=
 ⟨λ b ob q n hb he=>u.keep b ob q n (λ z=>hb (hs b z)) λ z=>he (hx b z),λ _ _ q n _ he=>u.any q n λ z=>he (hx _ z),λ b ob q n he=>u.free b ob q n λ z=>he (hx b z),λ b ob q he=>u.there b ob q λ z=>he (hx b z),u.tups,u.frzs,u.tbls⟩
end
noncomputable def trk (h:Heap) (H:Hp):List Addr:=(List.range h.objs.size).filter λ a=>(H a).isSome
noncomputable def hidT (h:Heap) (H:Hp):Heap:=W.hideAll h (trk h H)
theorem Jt1 (h:Heap) (H:Hp):(hidT h H).objs.size=h.objs.size:=W.hideAll_size _ _
theorem Jw3 {h:Heap}{H:Hp}{b:Addr}{o:Obj}(e:h.get? b=some o) (n:H b=none):(hidT h H).get? b=some o :=
 W.hideAll_get _ e λ hm=>by
  have q:(H b).isSome=true:=(List.mem_filter.mp hm).2
  rw[n] at q;simp at q
theorem J1b {h:Heap}{H:Hp}{b:Addr}{o:Obj}(e:(hidT h H).get? b=some o):h.get? b=some o/\H b=none:=by
 have e':h.get? b=some o:=W.of_hideAll (trk h H) e
 refine⟨e',?_⟩
 cases q:H b with
 | none=>rfl
 | some x =>
  have hm:b∈trk h H:=List.mem_filter.mpr ⟨List.mem_range.mpr (Heap.lt_size e'),by simp[q]⟩
  have z:(hidT h H).get? b=none:=W.hideAll_none (trk h H) hm
  rw[z] at e;cases e
noncomputable def Jz0 (g h:Heap) (L:Addr):List (Addr×Obj):=(List.range h.objs.size).filterMap λ a=>if a=L∨(g.get? a).isSome=true then none else(h.get? a).map λ o=>(a,o)
noncomputable def rest (g h:Heap) (L d:Addr):List (Addr×Obj):=(Jz0 g h L).filter λ p=>decide (p.1≠d)
structure Mod (K:W.Frag) (mg:Str->Option Value) (base:Heap):Prop where
 kin:K.In base
 glob:base.Ns mainGlobals mg
 blt:∃mb,base.Ns builtinsNs mb/\∀x:Str,x≠"__name__"->mb x=bootBuiltins x
 nolimit:base.NoLimit
structure Cx where
 prog:Program
 w:World
 K:W.Frag
 mg:Str->Option Value
 base:Heap
 A:Around
 N:List Str
 s₀:Shared
 H₀:Hp
 env:Env
 outer:List Env
 stack:List Env
 ex:List Addr
 fn:Str->Bool
 calm:Bool
 pn:List (Addr×Obj)
 xe:Value->Shared->Prop
noncomputable def frs (l:List Env):List Addr:=l.filterMap (·.frame)
noncomputable abbrev Cx.fs (X:Cx):List Addr:=frs X.outer
noncomputable def Vis (sc:Scope) (x:Str):Prop:=sc.names.lookup x=some .local∨sc.names.lookup x=some .cell∨sc.names.lookup x=some .free
noncomputable def Loc (sc:Scope) (x:Str):Prop:=sc.names.lookup x=some .local∨sc.names.lookup x=some .cell
noncomputable def Look (env:Env) (h:Heap) (m:Str->Option Value) (x:Str) (u:Value):Prop :=
 (env.kindOf x=some .local/\m x=some u)∨((env.kindOf x=some .cell∨env.kindOf x=some .free)/\∃c,env.cells.lookup x=some c/\h.IsCell c (some u))
structure Cx.Ok (X:Cx):Prop where
 mod:Mod X.K X.mg X.base
 kind:X.env.scope.kind=.function
 glob:X.env.globals=mainGlobals
 blt:X.env.builtins=builtinsNs
 above:X.s₀.heap.objs.size<=X.env.locals
 inj:∀x y c,X.env.cells.lookup x=some c->X.env.cells.lookup y=some c->x=y
 has:∀x,(X.env.kindOf x=some .cell∨X.env.kindOf x=some .free)->∃c,X.env.cells.lookup x=some c
 cab:∀x c,X.fn x=true->X.env.cells.lookup x=some c->X.s₀.heap.objs.size<=c
 hd:X.calm=true->X.A.handled=none
 frames:X.A.frames=some X.stack
 stk:X.stack=X.outer∨(X.stack=X.env::X.outer/\X.env.frame=some X.env.locals)
 exf:∀b∈X.ex,b≠X.env.locals/\∀x c,X.env.cells.lookup x=some c->c≠b
 bs:∀b o,X.base.get? b=some o->X.s₀.heap.get? b=some o/\X.H₀ b=none
 bsz:X.base.objs.size<=X.s₀.heap.objs.size
 noex:∀b o,X.base.get? b=some o->b∉X.ex
 exfs:∀b∈X.ex,b∉X.fs
 funs:X.s₀.heap.FunFrames X.base X.outer
 frf:∀b∈X.fs,X.H₀ b=none
structure Inv (X:Cx) (pins:List (Addr×Obj)) (σ:List (Option V)) (H:Hp) (s:Shared):Prop where
 ok:X.Ok
 os:s.os=X.s₀.os
 bare:AllBare s.gens
 base:Un X.fs X.ex X.H₀ H X.s₀.heap s.heap
 loc:∃m,s.heap.Ns X.env.locals m/\∀(i:Nat) (x:Str) (v:V),X.N[i]?=some x->σ[i]?=some (some v)->Vis X.env.scope x->∃u,RelV v u/\Look X.env s.heap m x u
 cell:∀x c,X.env.cells.lookup x=some c->∃v,s.heap.IsCell c v
 free:H X.env.locals=none
 freeC:∀x c,X.env.cells.lookup x=some c->H c=none
 pin:∀p∈X.pn++pins,s.heap.get? p.1=some p.2/\H p.1=none/\p.1≠X.env.locals/\p.1∉X.fs/\∀v,p.2.data≠.cell v
 hok:HOk X.prog X.w H s.heap
 len:σ.length=X.N.length
section
variable {X:Cx}{pins:List (Addr×Obj)}{σ:List (Option V)}{H H':Hp}{s:Shared}{h':Heap}
theorem Cx.Ok.nofr (ok:X.Ok){b:Addr}{o:Obj}(e:X.base.get? b=some o):b∉X.fs:=λ hb=>by
 have:=(ok.funs.mem hb).1
 rw[e] at this;cases this
theorem Inv.bs (I:Inv X pins σ H s):∀b o,X.base.get? b=some o->s.heap.get? b=some o/\H b=none:=λ b o e =>
 ⟨I.base.keep b o (I.ok.bs b o e).1 (I.ok.bs b o e).2 (I.ok.nofr e) (I.ok.noex b o e),I.base.free b o (I.ok.bs b o e).1 (I.ok.bs b o e).2 (I.ok.noex b o e)⟩
theorem Inv.bk (I:Inv X pins σ H s):∀b o,X.base.get? b=some o->s.heap.get? b=some o:=λ b o e=>(I.bs b o e).1
theorem Inv.mod (I:Inv X pins σ H s):Mod X.K X.mg X.base:=I.ok.mod
theorem Inv.kIn (I:Inv X pins σ H s):X.K.In s.heap:=I.ok.mod.kin.keeps I.bk
theorem Inv.nolimit (I:Inv X pins σ H s):s.heap.NoLimit:=I.ok.mod.nolimit.keeps I.bk
theorem Inv.fr (I:Inv X pins σ H s):∃m,Fr X.base X.env.locals s.heap m :=
 let ⟨m,hn,_⟩:=I.loc
 ⟨m,hn,I.bk,Nat.le_trans I.ok.bsz I.ok.above⟩
theorem Inv.lt (I:Inv X pins σ H s):X.env.locals<s.heap.objs.size:=let ⟨_,hn,_⟩:=I.loc;hn.lt
theorem Inv.sz (I:Inv X pins σ H s):X.s₀.heap.objs.size<=s.heap.objs.size:=Nat.le_trans I.ok.above (Nat.le_of_lt I.lt)
theorem Inv.nofs (I:Inv X pins σ H s){a:Addr}(h:s.heap.objs.size<=a):a∉X.fs:=λ hb=>by
 obtain⟨_,o,ho,_⟩:=I.ok.funs.mem hb
 exact absurd (Nat.lt_of_lt_of_le (Heap.lt_size ho) (Nat.le_trans I.sz h)) (Nat.lt_irrefl _)
theorem Inv.cne (I:Inv X pins σ H s):∀x c,X.env.cells.lookup x=some c->c≠X.env.locals:=λ x c e z=>by
 obtain⟨v,o,ho,hd⟩:=I.cell x c e
 obtain⟨m,⟨o',es,ep,ho',hd',_⟩,_⟩:=I.loc
 rw[z,ho'] at ho;cases ho;rw[hd'] at hd;cases hd
theorem Inv.funs (I:Inv X pins σ H s):s.heap.FunFrames X.base X.outer:=by
 have all:∀(l:List Env),(∀b∈frs l,b∈X.fs)->X.s₀.heap.FunFrames X.base l->s.heap.FunFrames X.base l:=by
  intro l
  induction l with
  | nil=>intro _ _;trivial
  | cons env r ih =>
   intro hs hl
   obtain⟨hk,⟨L,o,hf,hn,ho,hd⟩,hr⟩:=hl
   have hL:L∈X.fs:=hs L (by unfold frs;rw[List.filterMap_cons,hf];exact List.mem_cons_self)
   obtain⟨sl,e⟩:=I.base.slot L o ho (I.ok.frf L hL) hL λ z=>I.ok.exfs L z hL
   exact⟨hk,⟨L,_,hf,hn,e,hd⟩,ih (λ b hb=>hs b (by unfold frs;rw[List.filterMap_cons,hf];exact List.mem_cons_of_mem _ hb)) hr⟩
 exact all X.outer (λ _ hb=>hb) I.ok.funs
theorem Inv.stack (I:Inv X pins σ H s):s.heap.FunFrames X.base X.stack:=by
 rcases I.ok.stk with e|⟨e,hf⟩
 ·rw[e];exact I.funs
 ·rw[e]
  obtain⟨m,hn,_⟩:=I.loc
  refine .cons (by rw[I.ok.kind];decide) hf hn ?_ I.funs
  exact Heap.get?_none_of_le (Nat.le_trans I.ok.bsz I.ok.above)
theorem Inv.stkSub (I:Inv X pins σ H s):∀b∈frs X.stack,b∈X.env.locals::X.fs:=λ b hb=>by
 rcases I.ok.stk with e|⟨e,hf⟩
 ·rw[e] at hb;exact List.mem_cons_of_mem _ hb
 ·rw[e] at hb
  unfold frs at hb
  rw[List.filterMap_cons,hf] at hb
  exact hb
theorem Inv.stkFree (I:Inv X pins σ H s):∀b∈frs X.stack,H b=none:=λ b hb=>by
 rcases List.mem_cons.mp (I.stkSub b hb) with e|hb
 ·rw[e];exact I.free
 ·obtain⟨_,o,ho,_⟩:=I.ok.funs.mem hb
  exact I.base.free b o ho (I.ok.frf b hb) λ z=>I.ok.exfs b z hb
theorem Inv.step {g':Array GenState}{t':Nat}{d':Drawn}{ch:List Addr}(I:Inv X pins σ H s)
  (hch:∀b∈ch,(b∈X.ex∨X.s₀.heap.objs.size<=b)/\b≠X.env.locals/\(∀x c,X.env.cells.lookup x=some c->c≠b)/\∀p∈X.pn++pins,p.1≠b)
  (keep:∀b o,b≠X.env.locals->b∉X.fs->b∉ch->s.heap.get? b=some o->H b=none->h'.get? b=some o)
  (slot:∀b o,b≠X.env.locals->b∈X.fs->b∉ch->s.heap.get? b=some o->H b=none->∃sl,h'.get? b=some { o with slots:=sl }) (free:∀b o,b∉ch->s.heap.get? b=some o->H b=none->H' b=none)
  (there:∀b o,b∉ch->s.heap.get? b=some o->∃o',h'.get? b=some o')
  (tups:∀b xs,H b=some (.tup xs)->H' b=some (.tup xs)) (frzs:∀b o u,H b=some (.frz o u)->H' b=some (.frz o u)) (tbls:∀b ps,H b=some (.tbl ps)->∃more,H' b=some (.tbl (ps++more)))
  (ns:∀m,s.heap.Ns X.env.locals m->h'.Ns X.env.locals m) (hok:HOk X.prog X.w H' h') (hg:AllBare g') :
  Inv X pins σ H' { s with heap:=h',gens:=g',drawn:=d',toks:=t' }:=by
 have neL:∀b o,X.s₀.heap.get? b=some o->b≠X.env.locals:=λ b o e=>Nat.ne_of_lt (Nat.lt_of_lt_of_le (Heap.lt_size e) I.ok.above)
 have neC:∀b o,X.s₀.heap.get? b=some o->b∉X.ex->b∉ch:=λ b o e hx hb=>by
  rcases(hch b hb).1 with z|z
  ·exact hx z
  ·exact absurd (Nat.lt_of_lt_of_le (Heap.lt_size e) z) (Nat.lt_irrefl _)
 have cellK:∀x c,X.env.cells.lookup x=some c->∀v,s.heap.IsCell c v->h'.IsCell c v:=λ x c e v ⟨o,ho,hd⟩=>by
  have nch:c∉ch:=λ z=>(hch c z).2.2.1 x c e rfl
  by_cases hc:c∈X.fs
  ·obtain⟨sl,q⟩:=slot c o (I.cne x c e) hc nch ho (I.freeC x c e)
   exact⟨_,q,hd⟩
  ·exact⟨o,keep c o (I.cne x c e) hc nch ho (I.freeC x c e),hd⟩
 refine⟨I.ok,I.os,hg,⟨λ b o e n hb hx=>?_,λ b o e n hb hx=>?_,λ b o e n hx=>?_,λ b o e hx=>?_,λ b xs e=>tups b xs (I.base.tups b xs e),λ b o xs e=>frzs b o xs (I.base.frzs b o xs e),λ b ps e=>?_⟩,?_,λ x c e=>?_,?_,λ x c e=>?_,λ p hp=>?_,hok,I.len⟩
 ·exact keep b o (neL b o e) hb (neC b o e hx) (I.base.keep b o e n hb hx) (I.base.free b o e n hx)
 ·obtain⟨sl,e1⟩:=I.base.slot b o e n hb hx
  obtain⟨sl',e2⟩:=slot b _ (neL b o e) hb (neC b o e hx) e1 (I.base.free b o e n hx)
  exact⟨sl',e2⟩
 ·obtain⟨o',e1⟩:=I.base.there b o e hx
  exact free b o' (neC b o e hx) e1 (I.base.free b o e n hx)
 ·obtain⟨o',e1⟩:=I.base.there b o e hx
  exact there b o' (neC b o e hx) e1
 ·obtain⟨m1,e1⟩:=I.base.tbls b ps e
  obtain⟨m2,e2⟩:=tbls b _ e1
  exact⟨m1++m2,by rw[e2,Array.append_assoc]⟩
 ·obtain⟨m,hn,hl⟩:=I.loc
  refine⟨m,ns m hn,λ i x v e1 e2 e3=>?_⟩
  obtain⟨u,r,l⟩:=hl i x v e1 e2 e3
  refine⟨u,r,?_⟩
  rcases l with l|⟨k,c,e,z⟩
  ·exact .inl l
  ·exact .inr ⟨k,c,e,cellK x c e _ z⟩
 ·obtain⟨v,z⟩:=I.cell x c e
  exact⟨v,cellK x c e v z⟩
 ·obtain⟨m,⟨o,_,_,ho,_⟩,_⟩:=I.loc
  exact free _ o (λ z=>(hch _ z).2.1 rfl) ho I.free
 ·obtain⟨v,o,ho,hd⟩:=I.cell x c e
  exact free c o (λ z=>(hch c z).2.2.1 x c e rfl) ho (I.freeC x c e)
 ·obtain⟨e,n,ne,nf,d⟩:=I.pin p hp
  have nch:p.1∉ch:=λ z=>(hch p.1 z).2.2.2 p hp rfl
  exact⟨keep p.1 p.2 ne nf nch e n,free p.1 p.2 nch e n,ne,nf,d⟩
theorem Inv.un {t':Nat}(I:Inv X pins σ H s) (u:Un X.fs [] H H' s.heap h') (hok:HOk X.prog X.w H' h'):Inv X pins σ H' { s with heap:=h',toks:=t' }:=by
 obtain⟨m,⟨o,es,ep,ho,r⟩,_⟩:=id I.loc
 obtain⟨sl,hL⟩:=u.any ho I.free (by simp)
 exact I.step (g':=s.gens) (d':=s.drawn) (ch:=[]) (λ _ z=>nomatch z) (λ b o _ hb _ e n=>u.keep b o e n hb (by simp)) (λ b o _ hb _ e n=>u.slot b o e n hb (by simp)) (λ b o _ e n=>u.free b o e n (by simp)) (λ b o _ e=>u.there b o e (by simp)) u.tups u.frzs u.tbls (λ m' hm=>by
  obtain⟨o',es',ep',ho',r'⟩:=hm
  rw[ho] at ho';cases ho'
  exact⟨_,es',ep',hL,r'⟩) hok I.bare
theorem Inv.call {g':Array GenState}{t':Nat}{d':Drawn}{ch:List Addr}(I:Inv X pins σ H s) (u:Un (frs X.stack) ch H H' s.heap h') (hok:HOk X.prog X.w H' h') (hg:AllBare g')
  (hch:∀b∈ch,(b∈X.ex∨X.s₀.heap.objs.size<=b)/\b≠X.env.locals/\(∀x c,X.env.cells.lookup x=some c->c≠b)/\∀p∈X.pn++pins,p.1≠b) :
  Inv X pins σ H' { s with heap:=h',gens:=g',drawn:=d',toks:=t' }:=by
 obtain⟨m,⟨o,es,ep,ho,r⟩,_⟩:=id I.loc
 obtain⟨sl,hL⟩:=u.any ho I.free λ z=>(hch _ z).2.1 rfl
 exact I.step (ch:=ch) hch (λ b o hL hb hc e n=>u.keep b o e n (λ z=>(List.mem_cons.mp (I.stkSub b z)).elim hL hb) hc) (λ b o _ _ hc e n=>u.any e n hc) (λ b o hc e n=>u.free b o e n hc) (λ b o hc e=>u.there b o e hc) u.tups u.frzs u.tbls (λ m' hm=>by
  obtain⟨o',es',ep',ho',r'⟩:=hm
  rw[ho] at ho';cases ho'
  exact⟨_,es',ep',hL,r'⟩) hok hg
theorem Inv.turned {t':Nat}{it:Addr}(I:Inv X pins σ H s) (k:∀b o,b≠it->s.heap.get? b=some o->h'.get? b=some o) (hn:H it=none) (hL:it≠X.env.locals)
  (h1:it∈X.ex∨X.s₀.heap.objs.size<=it) (h2:∀x c,X.env.cells.lookup x=some c->c≠it) (h3:∀p∈X.pn++pins,p.1≠it):Inv X pins σ H { s with heap:=h',toks:=t' }:=by
 have nit:∀b u,H b=some u->b≠it:=λ b u e z=>by rw[z,hn] at e;cases e
 refine I.step (g':=s.gens) (d':=s.drawn) (ch:=[it]) (λ b hb=>?_) (λ b o _ _ hc e _=>k b o (λ z=>hc (by simp[z])) e) (λ b o _ _ hc e _=>⟨o.slots,k b o (λ z=>hc (by simp[z])) e⟩) (λ _ _ _ _ n=>n)
  (λ b o hc e=>⟨o,k b o (λ z=>hc (by simp[z])) e⟩) (λ _ _ e=>e) (λ _ _ _ e=>e) (λ b ps e=>⟨#[],by rw[e];simp⟩) (λ m hm=>?_) (λ b u e=>?_) I.bare
 ·have e:b=it:=by simpa using hb
  subst e
  exact⟨h1,hL,h2,h3⟩
 ·obtain⟨o,es,ep,ho,r⟩:=hm
  exact⟨o,es,ep,k _ o (Ne.symm hL) ho,r⟩
 ·refine(I.hok b u e).stay (λ c v hc q=>k c v ?_ q) (λ _ q=>q) λ _ _ q=>q
  rcases hc with z|z
  ·rw[z];exact nit b u e
  ·exact nit c _ z
theorem Inv.tok (I:Inv X pins σ H s) (t:Nat):Inv X pins σ H { s with toks:=t }:=I.un (h':=s.heap) (t':=t) Un.refl I.hok
theorem Inv.kept {t':Nat}(I:Inv X pins σ H s) (k:∀b u,s.heap.get? b=some u->h'.get? b=some u):Inv X pins σ H { s with heap:=h',toks:=t' }:=I.un (Un.kept k) (I.hok.kept k)
theorem Inv.laid {a:Addr}{o:HO}{t':Nat}(I:Inv X pins σ H s) (k:∀b u,s.heap.get? b=some u->h'.get? b=some u) (hp:s.heap.objs.size<=a) (new:Jbg X.prog X.w (upd H a o) h' a o) :
  Inv X pins σ (upd H a o) { s with heap:=h',toks:=t' }:=I.un (Un.laid k hp (I.hok.fresh hp)) (I.hok.laid k hp new)
theorem Inv.write {x e:Addr}{o:HO}{t':Nat}(I:Inv X pins σ H s) (mu:Mut (H x)) (he:e=x∨H e=some (.own x)) (k:∀b u,b≠e->s.heap.get? b=some u->h'.get? b=some u) (heo:∃u,h'.get? e=some u)
  (new:Jbg X.prog X.w (upd H x o) h' x o):Inv X pins σ (upd H x o) { s with heap:=h',toks:=t' }:=I.un (Un.write mu he k heo) (I.hok.write mu he k heo new)
theorem Inv.pins_of {pins':List (Addr×Obj)}(I:Inv X pins σ H s) (h:∀p∈pins',s.heap.get? p.1=some p.2/\H p.1=none/\p.1≠X.env.locals/\p.1∉X.fs/\∀v,p.2.data≠.cell v):Inv X pins' σ H s :=
 ⟨I.ok,I.os,I.bare,I.base,I.loc,I.cell,I.free,I.freeC,λ p hp=>(List.mem_append.mp hp).elim (λ z=>I.pin p (List.mem_append_left _ z)) (h p),I.hok,I.len⟩
theorem Jle {N:List Str}(hN:N.Nodup){i j:Nat}{x:Str}(a:N[i]?=some x) (b:N[j]?=some x):i=j:=by
 obtain⟨h1,e1⟩:=List.getElem?_eq_some_iff.mp a
 obtain⟨h2,e2⟩:=List.getElem?_eq_some_iff.mp b
 exact(List.getElem_inj hN).mp (e1.trans e2.symm)
theorem Ju6 {M:Model}{A:Around}{E:Value->Shared->Prop}{i:Nat}{x:Str}{v:V}{u:Value}{Q:Unit->Shared->Prop}(I:Inv X pins σ H s) (hN:X.N.Nodup) (hi:X.N[i]?=some x) (hx:Loc X.env.scope x) (r:RelV v u)
  (h:∀s',Inv X pins (σ.set i (some v)) H s'->(∃a,Heap.SameBut a s.heap s'.heap/\(a=X.env.locals∨X.env.cells.lookup x=some a))->Q () s') (hf:X.fn x=true∨X.env.scope.names.lookup x=some .local:=by assumption):wpAny M A (storeName X.env x u) Q E s:=by
 obtain⟨m,hn,hl⟩:=id I.loc
 have hcls:(X.env.scope.kind==.class||(X.env.scope.kind==.module&&X.env.locals != X.env.globals))=false:=by rw[I.ok.kind];rfl
 have hiσ:i<σ.length:=by rw[I.len];exact(List.getElem?_eq_some_iff.mp hi).1
 have cne:=I.cne
 have tracked:∀{a:Addr}{h':Heap},(∃o,s.heap.get? a=some o/\H a=none)->Heap.SameBut a s.heap h'->HOk X.prog X.w H h':=λ {a h'} ha hs b ob e=>by
  obtain⟨_,_,hfree⟩:=ha
  refine(I.hok b ob e).stay (λ c w' hc q=>(hs.2 c ?_).trans q) (λ _ q=>q) λ _ _ q=>q
  rintro rfl
  rcases hc with rfl|hc
  ·rw[hfree] at e;cases e
  ·rw[hfree] at hc;cases hc
 rcases hx with hk|hk
 ·refine wpAny_storeName_local hk hn (λ h' hn' hs=>?_) hcls
  obtain⟨oL,_,_,hoL,_⟩:=id hn
  refine h _ ⟨I.ok,I.os,I.bare,⟨λ b o e n hb hx=>?_,λ b o e n hb hx=>?_,I.base.free,λ b o e hx=>?_,I.base.tups,I.base.frzs,I.base.tbls⟩,⟨_,hn',λ j y v' e1 e2 e3=>?_⟩,λ y c e=>?_,I.free,I.freeC,λ p hp=>?_,tracked ⟨oL,hoL,I.free⟩ hs,by simpa using I.len⟩ ⟨_,hs,.inl rfl⟩
  ·exact(hs.2 b (Nat.ne_of_lt (Nat.lt_of_lt_of_le (Heap.lt_size e) I.ok.above))).trans (I.base.keep b o e n hb hx)
  ·obtain⟨sl,e1⟩:=I.base.slot b o e n hb hx
   exact⟨sl,(hs.2 b (Nat.ne_of_lt (Nat.lt_of_lt_of_le (Heap.lt_size e) I.ok.above))).trans e1⟩
  ·obtain⟨o',e1⟩:=I.base.there b o e hx
   exact⟨o',(hs.2 b (Nat.ne_of_lt (Nat.lt_of_lt_of_le (Heap.lt_size e) I.ok.above))).trans e1⟩
  ·by_cases hj:j=i
   ·subst hj
    rw[hi] at e1;cases e1
    rw[List.getElem?_set_self hiσ] at e2
    cases e2
    exact⟨u,r,.inl ⟨hk,by simp⟩⟩
   ·rw[List.getElem?_set_ne (Ne.symm hj)] at e2
    obtain⟨u',r',q⟩:=hl j y v' e1 e2 e3
    refine⟨u',r',?_⟩
    rcases q with⟨k,e⟩|⟨k,c,e,z⟩
    ·refine .inl ⟨k,?_⟩
     have:y≠x:=λ e=>hj (Jle hN e1 (e▸hi))
     simp[this,e]
    ·exact .inr ⟨k,c,e,z.sameBut hs (cne y c e)⟩
  ·obtain⟨w',z⟩:=I.cell y c e
   exact⟨w',z.sameBut hs (cne y c e)⟩
  ·obtain⟨e,n,ne,nf,d⟩:=I.pin p hp
   exact⟨(hs.2 p.1 ne).trans e,n,ne,nf,d⟩
 ·have hfn:X.fn x=true:=by
   rcases hf with z|z
   ·exact z
   ·rw[z] at hk;cases hk
  obtain⟨c,hc⟩:=I.ok.has x (.inl hk)
  obtain⟨w',z⟩:=I.cell x c hc
  refine wpAny_storeName_cell I.ok.kind hk hc z (λ h' hc' hs=>?_)
  obtain⟨oc,hoc,hocd⟩:=id z
  refine h { s with heap:=h' } ⟨I.ok,I.os,I.bare,⟨λ b o e n hb hx=>?_,λ b o e n hb hx=>?_,I.base.free,λ b o e hx=>?_,I.base.tups,I.base.frzs,I.base.tbls⟩,⟨m,hn.sameBut hs (Ne.symm (cne x c hc)),λ j y v' e1 e2 e3=>?_⟩,λ y c' e=>?_,I.free,I.freeC,λ p hp=>?_,tracked ⟨oc,hoc,I.freeC x c hc⟩ hs,by simpa using I.len⟩ ⟨c,hs,.inr hc⟩
  ·exact(hs.2 b (Nat.ne_of_lt (Nat.lt_of_lt_of_le (Heap.lt_size e) (I.ok.cab x c hfn hc)))).trans (I.base.keep b o e n hb hx)
  ·obtain⟨sl,e1⟩:=I.base.slot b o e n hb hx
   exact⟨sl,(hs.2 b (Nat.ne_of_lt (Nat.lt_of_lt_of_le (Heap.lt_size e) (I.ok.cab x c hfn hc)))).trans e1⟩
  ·obtain⟨o',e1⟩:=I.base.there b o e hx
   exact⟨o',(hs.2 b (Nat.ne_of_lt (Nat.lt_of_lt_of_le (Heap.lt_size e) (I.ok.cab x c hfn hc)))).trans e1⟩
  ·by_cases hj:j=i
   ·subst hj
    rw[hi] at e1;cases e1
    rw[List.getElem?_set_self hiσ] at e2
    cases e2
    exact⟨u,r,.inr ⟨.inl hk,c,hc,hc'⟩⟩
   ·rw[List.getElem?_set_ne (Ne.symm hj)] at e2
    obtain⟨u',r',q⟩:=hl j y v' e1 e2 e3
    refine⟨u',r',?_⟩
    rcases q with q|⟨k,c',e,z'⟩
    ·exact .inl q
    ·refine .inr ⟨k,c',e,z'.sameBut hs ?_⟩
     rintro rfl
     exact hj (Jle hN e1 (I.ok.inj _ _ _ e hc▸hi))
  ·by_cases hcc:c'=c
   ·subst hcc;exact⟨_,hc'⟩
   ·obtain⟨w2,z2⟩:=I.cell y c' e
    exact⟨w2,z2.sameBut hs hcc⟩
  ·obtain⟨e,n,ne,nf,d⟩:=I.pin p hp
   refine⟨(hs.2 p.1 ?_).trans e,n,ne,nf,d⟩
   intro q
   rw[q,hoc] at e
   have q':oc=p.2:=Option.some.inj e
   exact d w' (by rw[<- q'];exact hocd)
theorem Jij {M:Model}{A:Around}{E:Value->Shared->Prop}{i:Nat}{x:Str}{v:V}{u:Value}{Q:Unit->Shared->Prop}(I:Inv X pins σ H s) (hN:X.N.Nodup) (hi:X.N[i]?=some x) (hx:Loc X.env.scope x) (r:RelV v u)
  (h:∀s',Inv X pins (σ.set i (some v)) H s'->Q () s') (hf:X.fn x=true∨X.env.scope.names.lookup x=some .local:=by assumption):wpAny M A (storeName X.env x u) Q E s :=
 Ju6 I hN hi hx r (λ s' I' _=>h s' I') hf
theorem Inv.call' {s':Shared}{ch:List Addr}(I:Inv X pins σ H s) (ho:s'.os=s.os) (u:Un (frs X.stack) ch H H' s.heap s'.heap) (hok:HOk X.prog X.w H' s'.heap) (hg:AllBare s'.gens)
  (hch:∀b∈ch,(b∈X.ex∨X.s₀.heap.objs.size<=b)/\b≠X.env.locals/\(∀x c,X.env.cells.lookup x=some c->c≠b)/\∀p∈X.pn++pins,p.1≠b):Inv X pins σ H' s':=by
 obtain⟨h',g',d',t',o'⟩:=s'
 have e:o'=s.os:=ho
 subst e
 exact I.call (g':=g') (t':=t') (d':=d') u hok hg hch
end
noncomputable abbrev XK:=Value->Option Addr->Hp->Prop
noncomputable abbrev St:=List (Option V)
noncomputable abbrev VK:=V->Hp->Prop
noncomputable abbrev TE:=St->Hp->VK->Prop
noncomputable abbrev TT:=St->Hp->(Bool->Hp->Prop)->Prop
noncomputable abbrev TA:=St->Hp->(List V->Hp->Prop)->Prop
structure Ends where
 nx:St->Hp->Prop
 rt:VK
 bk:St->Hp->Prop:=λ _ _=>False
 ct:St->Hp->Prop:=λ _ _=>False
noncomputable abbrev TS:=Ends->St->Hp->Prop
noncomputable def EP (X:Cx) (pins:List (Addr×Obj)) (σ:St) (Q:VK) (u:Value) (s':Shared):Prop:=∃v H',Inv X pins σ H' s'/\RelV v u/\Q v H'
noncomputable def TP (X:Cx) (pins:List (Addr×Obj)) (σ:St) (Q:Bool->Hp->Prop) (b:Bool) (s':Shared):Prop:=∃H',Inv X pins σ H' s'/\Q b H'
noncomputable def SP (X:Cx) (pins:List (Addr×Obj)) (D:Ends) (f:Flow) (s':Shared):Prop :=
 match f with
 | .next=>∃σ' H',Inv X pins σ' H' s'/\D.nx σ' H'
 | .brk=>∃σ' H',Inv X pins σ' H' s'/\D.bk σ' H'
 | .cont=>∃σ' H',Inv X pins σ' H' s'/\D.ct σ' H'
 | .ret u=>∃v σ' H',Inv X pins σ' H' s'/\RelV v u/\D.rt v H'
noncomputable def PE (X:Cx) (e:Expr) (t:TE):Prop :=
 ∀(pins:List (Addr×Obj)) (s:Shared) (σ:St) (H:Hp) (Q:VK),Inv X pins σ H s->t σ H Q->wpAny (model X.prog X.w) X.A (eval e X.env) (EP X pins σ Q) X.xe s
noncomputable def PT (X:Cx) (e:Expr) (t:TT):Prop :=
 ∀(pins:List (Addr×Obj)) (s:Shared) (σ:St) (H:Hp) (Q:Bool->Hp->Prop),Inv X pins σ H s->t σ H Q->wpAny (model X.prog X.w) X.A (isTrue e X.env (eval e X.env)) (TP X pins σ Q) X.xe s
noncomputable def PW (X:Cx) (e:Expr) (t:TT):Prop :=
 ∀(whole:Sem Value) (pins:List (Addr×Obj)) (s:Shared) (σ:St) (H:Hp) (Q:Bool->Hp->Prop),Inv X pins σ H s->t σ H Q->wpAny (model X.prog X.w) X.A (isTrue e X.env whole) (TP X pins σ Q) X.xe s
theorem PW.pt {X:Cx}{e:Expr}{t:TT}(h:PW X e t):PT X e t:=h _
noncomputable def PSs (X:Cx) (st:List Stmt) (t:TS):Prop :=
 ∀(pins:List (Addr×Obj)) (s:Shared) (σ:St) (H:Hp) (D:Ends),Inv X pins σ H s->t D σ H->wpAny (model X.prog X.w) X.A (execs st X.env) (SP X pins D) X.xe s
theorem thn {α:Type}{t:Sem α}{Q Q':α->Shared->Prop}{M:Model}{A:Around}{E:Value->Shared->Prop}{s:Shared}(h:wpAny M A t Q E s) (hQ:∀a s,Q a s->Q' a s):wpAny M A t Q' E s:=wpAny_mono h hQ λ _ _ x=>x
section
variable {X:Cx}
noncomputable def tVar (i:Nat):TE:=λ σ H Q=>∃v,σ[i]?=some (some v)/\Q v H
noncomputable def tC (v:V):TE:=λ _ H Q=>Q v H
theorem J4s {i:Nat}{x:Str}{pos:Pos}(hN:X.N[i]?=some x) (hv:Vis X.env.scope x) (hd:(x==("__debug__":Str))=false:=by decide) (hcd:(x==("__classdict__":Str))=false:=by decide):PE X (.Name x pos) (tVar i):=by
 intro pins s σ H Q I h
 obtain⟨v,e,h⟩:=h
 obtain⟨m,hn,hl⟩:=I.loc
 obtain⟨u,r,l⟩:=hl i x v hN e hv
 have fin:EP X pins σ Q u s:=⟨v,H,I,r,h⟩
 rcases l with⟨hk,hm⟩|⟨hk,c,hc,hcell⟩
 ·exact wpAny_Name (wpAny_loadName_local I.ok.kind hk hn hm fin) hd
 ·rcases hk with hk|hk
  ·exact wpAny_Name (wpAny_loadName_cell I.ok.kind hk hc hcell fin) hd
  ·exact wpAny_Name (wpAny_loadName_free I.ok.kind hk hc hcell fin hcd) hd
theorem J4p {i j pos}:PE X (.Constant (.int i) j pos) (tC (.int i)):=λ _ _ _ H _ I h=>wpAny_Constant_int ⟨.int i,H,I.tok _,⟨_,rfl⟩,h⟩
theorem pe_bl {b j pos}:PE X (.Constant (.bool b) j pos) (tC (.bl b)):=λ _ _ _ H _ I h=>Constant_bool ⟨.bl b,H,I,rfl,h⟩
theorem J4q {j pos}:PE X (.Constant .none j pos) (tC .non):=λ _ _ _ H _ I h=>Constant_none ⟨.non,H,I,rfl,h⟩
theorem J4r {x j pos}:PE X (.Constant (.str x) j pos) (tC (.str x)):=λ _ _ _ H _ I h=>Calls.Constant_str ⟨.str x,H,I.tok _,⟨_,rfl⟩,h⟩
noncomputable def Gl (X:Cx) (x:Str):Prop:=X.env.kindOf x=some .globalImplicit
theorem Jfj {E:Value->Shared->Prop}{pins:List (Addr×Obj)}{s:Shared}{σ:St}{H:Hp}{x:Str}{u:Value}{pos:Pos}{Q:Value->Shared->Prop}(I:Inv X pins σ H s) (hg:Gl X x) (hm:X.mg x=some u) (h:Q u s)
  (hd:(x==("__debug__":Str))=false:=by decide):wpAny (model X.prog X.w) X.A (eval (.Name x pos) X.env) Q E s :=
 Calls.Name_function_global I.ok.kind hg (Calls.loadGlobal_global (by rw[I.ok.glob];exact I.mod.glob.keeps I.bk) hm h) hd
theorem Jed {E:Value->Shared->Prop}{pins:List (Addr×Obj)}{s:Shared}{σ:St}{H:Hp}{x:Str}{u:Value}{pos:Pos}{Q:Value->Shared->Prop}(I:Inv X pins σ H s) (hg:Gl X x) (hm:X.mg x=none) (hv:bootBuiltins x=some u) (h:Q u s)
  (hn:x≠"__name__":=by decide) (hd:(x==("__debug__":Str))=false:=by decide):wpAny (model X.prog X.w) X.A (eval (.Name x pos) X.env) Q E s:=by
 obtain⟨mb,h1,h2⟩:=I.mod.blt
 exact Calls.Name_function_global I.ok.kind hg (Calls.loadGlobal_builtin (by rw[I.ok.glob];exact I.mod.glob.keeps I.bk) hm (by rw[I.ok.blt];exact h1.keeps I.bk) ((h2 x hn).trans hv) h) hd
theorem J1g {x:Str}{v:V}{u:Value}{pos:Pos}(hg:Gl X x) (hm:X.mg x=some u) (r:RelV v u) (hd:(x==("__debug__":Str))=false:=by decide):PE X (.Name x pos) (tC v) :=
 λ _ _ _ H _ I h=>Jfj I hg hm ⟨v,H,I,r,h⟩ hd
variable {a b:Expr}{ta tb:TE}{pos:Pos}
variable {tA tB':TT}{rest:List Expr}
end
noncomputable def SqL (K:W.Frag) (H:Hp) (a:Addr) (xs:List V):Prop :=
 Rd H a (.lst xs) ∨
  ∃(o:Obj) (its:Array Value) (n:Nat),K.lookup a=some o/\o.cls=.type "list"/\o.dict=none/\o.data=.seq its n/\its.size<=sizeLine/\Vals xs its.toList
noncomputable def SqT (K:W.Frag) (H:Hp) (a:Addr) (xs:List V):Prop :=
 Rd H a (.tup xs) ∨
  ∃(o:Obj) (its:Array Value) (n:Nat),K.lookup a=some o/\o.cls=.type "tuple"/\o.data=.seq its n/\its.size<=sizeLine/\Vals xs its.toList
noncomputable def absV:Value->Option V
 | .none=>some .non
 | .bool b=>some (.bl b)
 | .int i _=>some (.int i)
 | .str x _=>some (.str x)
 | .bytes b _=>some (.byt b)
 | .float b _=>some (.flt b)
 | .ref a=>some (.ref a)
 | .type n=>some (.ty n)
 | _=>none
theorem RelV.abs {x:V}{u:Value}(r:RelV x u):absV u=some x:=by
 cases x with
 | non=>cases r;rfl
 | bl _=>cases r;rfl
 | int _=>obtain⟨t,rfl⟩:=r;rfl
 | str _=>obtain⟨t,rfl⟩:=r;rfl
 | byt _=>obtain⟨t,rfl⟩:=r;rfl
 | flt _=>obtain⟨t,rfl⟩:=r;rfl
 | ref _=>cases r;rfl
 | ty _=>cases r;rfl
theorem RelV.inj {x y:V}{u:Value}(r:RelV x u) (q:RelV y u):x=y:=Option.some.inj (r.abs.symm.trans q.abs)
theorem Vals.inj:∀{xs ys:List V}{us:List Value},Vals xs us->Vals ys us->xs=ys
 | _,_,_,.nil,.nil=>rfl
 | _,_,_,.cons r t,.cons r' t'=>by rw[r.inj r',Vals.inj t t']
section
variable {X:Cx}{pins:List (Addr×Obj)}{σ:St}{H:Hp}{s:Shared}{a:Addr}{xs ys:List V}
theorem SqL.of {K:W.Frag}(h:H a=some (.lst xs)):SqL K H a xs:=.inl (.inl h)
theorem SqT.of {K:W.Frag}(h:H a=some (.tup xs)):SqT K H a xs:=.inl (.inl h)
theorem Inv.list (I:Inv X pins σ H s) (h:SqL X.K H a xs):∃its:List Value,Vals xs its/\PlainL s.heap a its.toArray/\xs.length<=sizeLine:=by
 rcases h with h|⟨o,its,n,hk,hc,hd,hs,hz,r⟩
 ·obtain⟨z,its,n,r,e⟩:=h.ok I.hok
  exact⟨its,r,⟨_,n,e,rfl,rfl,rfl⟩,z⟩
 ·refine⟨its.toList,r,⟨o,n,I.kIn a o hk,hc,hd,by simpa using hs⟩,?_⟩
  have e:=r.length
  simp only[Array.length_toList] at e
  omega
theorem Inv.tuple (I:Inv X pins σ H s) (h:SqT X.K H a xs):∃its:List Value,Vals xs its/\IsTup s.heap a its.toArray/\xs.length<=sizeLine:=by
 rcases h with h|⟨o,its,n,hk,hc,hs,hz,r⟩
 ·obtain⟨z,its,r,p⟩:=h.ok I.hok
  exact⟨its,r,p,z⟩
 ·refine⟨its.toList,r,⟨o,I.kIn a o hk,hc,n,by simpa using hs⟩,?_⟩
  have e:=r.length
  simp only[Array.length_toList] at e
  omega
theorem Inv.list_inj (I:Inv X pins σ H s) (h:SqL X.K H a xs) (h':SqL X.K H a ys):xs=ys:=by
 obtain⟨its,r,⟨o,n,e,_,_,d⟩,_⟩:=I.list h
 obtain⟨its',r',⟨o',n',e',_,_,d'⟩,_⟩:=I.list h'
 rw[e] at e';cases e'
 rw[d] at d'
 injection d' with d1 _
 have:its=its':=by simpa using congrArg Array.toList d1
 subst this
 exact r.inj r'
theorem Inv.tuple_inj (I:Inv X pins σ H s) (h:SqT X.K H a xs) (h':SqT X.K H a ys):xs=ys:=by
 obtain⟨its,r,⟨o,e,_,n,d⟩,_⟩:=I.tuple h
 obtain⟨its',r',⟨o',e',_,n',d'⟩,_⟩:=I.tuple h'
 rw[e] at e';cases e'
 rw[d] at d'
 injection d' with d1 _
 have:its=its':=by simpa using congrArg Array.toList d1
 subst this
 exact r.inj r'
end
noncomputable abbrev Cx.wish (X:Cx) (E:Value->Shared->Prop):Cx:={ X with xe:=E }
noncomputable abbrev Cx.nox (X:Cx):Cx:=X.wish λ _ _=>False
theorem Cx.Ok.wish {X:Cx}(ok:X.Ok) (E:Value->Shared->Prop):(X.wish E).Ok :=
 ⟨ok.mod,ok.kind,ok.glob,ok.blt,ok.above,ok.inj,ok.has,ok.cab,ok.hd,ok.frames,ok.stk,ok.exf,ok.bs,ok.bsz,ok.noex,ok.exfs,ok.funs,ok.frf⟩
theorem Cx.Ok.unwish {X:Cx}{E:Value->Shared->Prop}(ok:(X.wish E).Ok):X.Ok :=
 ⟨ok.mod,ok.kind,ok.glob,ok.blt,ok.above,ok.inj,ok.has,ok.cab,ok.hd,ok.frames,ok.stk,ok.exf,ok.bs,ok.bsz,ok.noex,ok.exfs,ok.funs,ok.frf⟩
section
variable {X:Cx}{pins:List (Addr×Obj)}{σ:St}{H:Hp}{s:Shared}{E:Value->Shared->Prop}
theorem Inv.wish (I:Inv X pins σ H s) (E:Value->Shared->Prop):Inv (X.wish E) pins σ H s:=⟨I.ok.wish E,I.os,I.bare,I.base,I.loc,I.cell,I.free,I.freeC,I.pin,I.hok,I.len⟩
theorem Inv.unwish (I:Inv (X.wish E) pins σ H s):Inv X pins σ H s:=⟨I.ok.unwish,I.os,I.bare,I.base,I.loc,I.cell,I.free,I.freeC,I.pin,I.hok,I.len⟩
theorem SP.unwish {D:Ends}{f:Flow}{s':Shared}(h:SP (X.wish E) pins D f s'):SP X pins D f s':=by
 cases f with
 | next=>obtain⟨σ',H',I,q⟩:=h;exact⟨σ',H',I.unwish,q⟩
 | brk=>obtain⟨σ',H',I,q⟩:=h;exact⟨σ',H',I.unwish,q⟩
 | cont=>obtain⟨σ',H',I,q⟩:=h;exact⟨σ',H',I.unwish,q⟩
 | ret u=>obtain⟨v,σ',H',I,r,q⟩:=h;exact⟨v,σ',H',I.unwish,r,q⟩
theorem PE.nox {e:Expr}{t:TE}(h:PE X.nox e t):PE X e t:=λ pins s σ H Q I hw =>
 wpAny_mono (h pins s σ H Q (I.wish _) hw) (λ _ _ ⟨v,H',I',r,q⟩=>⟨v,H',I'.unwish,r,q⟩) λ _ _ z=>False.elim z
theorem PT.nox {e:Expr}{t:TT}(h:PT X.nox e t):PT X e t:=λ pins s σ H Q I hw =>
 wpAny_mono (h pins s σ H Q (I.wish _) hw) (λ _ _ ⟨H',I',q⟩=>⟨H',I'.unwish,q⟩) λ _ _ z=>False.elim z
theorem PSs.nox {st:List Stmt}{t:TS}(h:PSs X.nox st t):PSs X st t:=λ pins s σ H D I hw =>
 wpAny_mono (h pins s σ H D (I.wish _) hw) (λ _ _ q=>q.unwish) λ _ _ z=>False.elim z
end
section
variable {X:Cx}{st:Stmt}{rest:List Stmt}{t u:TS}{e:Expr}{te:TE}{pos:Pos}
theorem Inv.quiet {pins:List (Addr×Obj)}{σ:St}{H:Hp}{s:Shared}(I:Inv X pins σ H s):interactive X.env=false:=by simp[interactive,I.ok.kind]
end
noncomputable abbrev TIp:=V->V->Hp->VK->Prop
section
variable {X:Cx}{pos:Pos}
noncomputable def ipI (f:Int->Int->Int):TIp:=λ x y H Q=>∃i j,x=.int i/\y=.int j/\Q (.int (f i j)) H
end
structure It where
 go:Nat->Hp->Prop
 yld:Nat->Hp->V->Hp->Prop
 stop:Nat->Hp->Prop
noncomputable def FpOk (X:Cx) (pins:List (Addr×Obj)) (H:Hp) (b:Addr):Prop :=
 H b=none/\b≠X.env.locals/\b∉X.fs/\(b∈X.ex∨X.s₀.heap.objs.size<=b)/\(∀x c,X.env.cells.lookup x=some c->c≠b)/\∀p∈X.pn++pins,p.1≠b
theorem Inv.fpOk {X:Cx}{pins:List (Addr×Obj)}{σ:St}{H H':Hp}{s:Shared}{b:Addr}(I:Inv X pins σ H s) (hb:s.heap.objs.size<=b) (hn:H' b=none):FpOk X pins H' b:=by
 refine⟨hn,Nat.ne_of_gt (Nat.lt_of_lt_of_le I.lt hb),I.nofs hb,.inr (Nat.le_trans I.sz hb),λ x c e z=>?_,λ p hp z=>?_⟩
 ·obtain⟨v,q⟩:=I.cell x c e
  exact absurd (Nat.lt_of_lt_of_le q.lt (by rw[z];exact hb)) (Nat.lt_irrefl _)
 ·exact absurd (Nat.lt_of_lt_of_le (Heap.lt_size (I.pin p hp).1) (by rw[z];exact hb)) (Nat.lt_irrefl _)
structure Turn (P:Program) (w:World) (K:W.Frag) (tg:Expr) (J:It) (fp:List Addr) (it:Addr) (tn:Nat->Heap->Prop):Prop where
 mem:it∈fp
 obj:∀i h,tn i h->∀b∈fp,∃o,h.get? b=some o/\∀v,o.data≠.cell v
 keep:∀i h h',tn i h->(∀b∈fp,∀o,h.get? b=some o->h'.get? b=some o)->tn i h'
 item:∀(X:Cx),X.prog=P->X.w=w->X.K=K->X.calm=true->∀(i:Nat) (pins:List (Addr×Obj)) (s:Shared) (σ:St) (H:Hp) (E:Value->Shared->Prop),Inv X pins σ H s->(∀b∈fp,FpOk X pins H b)->tn i s.heap->J.go i H ->
  wpAny (model P w) X.A (pyNext (.ref it)) (λ r s1=>∃u,r=some u /\
   wpAny (model P w) X.A (letOwnedTupleGo tg (.ref it) u) (λ _ s2=>∃x H',Inv X pins σ H' s2/\RelV x u/\J.yld i H x H'/\tn (i+1) s2.heap/\∀b∈fp,H' b=none) E s1) E s
 done:∀(X:Cx),X.prog=P->X.w=w->X.K=K->X.calm=true->∀(i:Nat) (pins:List (Addr×Obj)) (s:Shared) (σ:St) (H:Hp) (E:Value->Shared->Prop),Inv X pins σ H s->(∀b∈fp,FpOk X pins H b)->tn i s.heap->J.stop i H ->
  wpAny (model P w) X.A (pyNext (.ref it)) (λ r s1=>r=none/\Inv X pins σ H s1) E s
 self:∀(A:Around) (i:Nat) (s:Shared) (Q:Value->Shared->Prop) (E:Value->Shared->Prop),tn i s.heap->Q (.ref it) s->wpAny (model P w) A (pyIter (.ref it)) Q E s
noncomputable abbrev TI:=St->Hp->(It->Hp->Prop)->Prop
noncomputable def PIE (X:Cx) (pins:List (Addr×Obj)) (σ:St) (tg:Expr) (R:It->Hp->Prop) (itv:Value) (s2:Shared):Prop :=
 ∃(it:Addr) (fp:List Addr) (tn:Nat->Heap->Prop) (J:It) (H':Hp),itv=.ref it/\Inv X pins σ H' s2/\Turn X.prog X.w X.K tg J fp it tn/\tn 0 s2.heap/\(∀b∈fp,FpOk X pins H' b)/\R J H'
noncomputable def PI (X:Cx) (tg iter:Expr) (wi:TI):Prop :=
 ∀(pins:List (Addr×Obj)) (s:Shared) (σ:St) (H:Hp) (R:It->Hp->Prop),Inv X pins σ H s->wi σ H R ->
  wpAny (model X.prog X.w) X.A (eval iter X.env) (λ v s1=>wpAny (model X.prog X.w) X.A (pyIter v) (PIE X pins σ tg R) X.xe s1) X.xe s
theorem Jw0 {M:Model}{A:Around}{E:Value->Shared->Prop}{s:Shared}{tg:Expr}{it:Addr}{u:Value}{o:Obj}{n:String}{vs:Array Value}{Q:Unit->Shared->Prop}(ho:s.heap.get? it=some o) (hc:o.cls=.type n) (hd:o.data=.fields vs)
  (hn:["enumerate","zip","dict_itemiterator","dict_reverseitemiterator","odict_iterator","itertools.zip_longest","itertools.pairwise"].contains n=false) (hQ:Q () s):wpAny M A (letOwnedTupleGo tg (.ref it) u) Q E s:=by
 unfold letOwnedTupleGo
 cases tg<;>first
  | exact wpAny_pure hQ
  | (cases u<;>first
    | exact wpAny_pure hQ
    | (refine wpAny_bind (wpAny_load ho ?_)
       rw[hc,hd]
       show wpAny M A (if (["enumerate","zip","dict_itemiterator","dict_reverseitemiterator","odict_iterator","itertools.zip_longest","itertools.pairwise"].contains n&&vs[0]?==some (rawInt _))=true then _ else _) Q E s
       rw[if_neg (by intro h;rw[hn,Bool.false_and] at h;cases h)]
       exact wpAny_pure hQ))
noncomputable def Itl (K:W.Frag) (a:Addr):It :=
 ⟨λ i H=>∃xs x,SqL K H a xs/\xs[i]?=some x,λ i H x H'=>H'=H/\∀xs,SqL K H a xs->xs[i]?=some x,λ i H=>∃xs,SqL K H a xs/\xs.length<=i⟩
noncomputable def Itt (K:W.Frag) (a:Addr):It :=
 ⟨λ i H=>∃xs x,SqT K H a xs/\xs[i]?=some x,λ i H x H'=>H'=H/\∀xs,SqT K H a xs->xs[i]?=some x,λ i H=>∃xs,SqT K H a xs/\xs.length<=i⟩
noncomputable def Itr (lo:Int) (n:Nat):It:=⟨λ i _=>i<n,λ i H x H'=>H'=H/\x=.int (lo+i),λ i _=>n<=i⟩
theorem Jn4 {P:Program}{w:World}{K:W.Frag}{tg:Expr}(a it:Addr):Turn P w K tg (Itl K a) [it] it (λ i h=>h.IsListIter it a i) where
 mem:=by simp
 obj:=λ i h st b hb=>by
  have e:b=it:=by simpa using hb
  subst e
  obtain⟨o,e,c,d⟩:=st
  exact⟨o,e,λ v z=>by rw[d] at z;cases z⟩
 keep:=λ i h h' st k=>st.at λ o e=>k it (by simp) o e
 item:=by
  intro X hP hw hK hc i pins s σ H E I hf st hg
  subst hP hw hK
  obtain⟨xs,x,hq,hx⟩:=hg
  obtain⟨its,rv,p,hz⟩:=I.list hq
  obtain⟨u,hu,ru⟩:=rv.get hx
  obtain⟨f0,f1,f2,f3,f4,f5⟩:=hf it (by simp)
  refine wpAny_pyNext_list_item st p.isList (x:=u) (by simpa using hu) λ h' st' sb=>?_
  have I1:Inv X pins σ H { s with heap:=h' }:=I.turned (t':=s.toks) (λ b o hb e=>(sb.2 b hb).trans e) f0 f1 f3 f4 f5
  obtain⟨o,e,c,d⟩:=id st'
  exact⟨u,rfl,Jw0 (s:={ s with heap:=h' }) e c d (by decide) ⟨x,H,I1,ru,⟨rfl,λ ys hy=>by rw[I.list_inj hy hq];exact hx⟩,st',λ b hb=>(hf b hb).1⟩⟩
 done:=by
  intro X hP hw hK hc i pins s σ H E I hf st hg
  subst hP hw hK
  obtain⟨xs,hq,hx⟩:=hg
  obtain⟨its,rv,p,hz⟩:=I.list hq
  obtain⟨f0,f1,f2,f3,f4,f5⟩:=hf it (by simp)
  have hl:=rv.length
  exact wpAny_pyNext_list_end (I.ok.hd hc) st p.isList (by simp;omega) λ h' eb=>⟨rfl,I.turned (t':=s.toks) (λ b o hb e=>eb b o hb e) f0 f1 f3 f4 f5⟩
 self:=λ _ _ _ _ _ st h=>wpAny_pyIter_listiter st h
theorem Jsj {P:Program}{w:World}{K:W.Frag}{tg:Expr}(a it:Addr):Turn P w K tg (Itt K a) [it] it (λ i h=>h.IsTupleIter it a i) where
 mem:=by simp
 obj:=λ i h st b hb=>by
  have e:b=it:=by simpa using hb
  subst e
  obtain⟨o,e,c,d⟩:=st
  exact⟨o,e,λ v z=>by rw[d] at z;cases z⟩
 keep:=λ i h h' st k=>st.at λ o e=>k it (by simp) o e
 item:=by
  intro X hP hw hK hc i pins s σ H E I hf st hg
  subst hP hw hK
  obtain⟨xs,x,hq,hx⟩:=hg
  obtain⟨its,rv,p,hz⟩:=I.tuple hq
  obtain⟨u,hu,ru⟩:=rv.get hx
  obtain⟨f0,f1,f2,f3,f4,f5⟩:=hf it (by simp)
  refine wpAny_pyNext_tuple_item st (show s.heap.IsTuple a its.toArray from p) (x:=u) (by simpa using hu) λ h' st' sb=>?_
  have I1:Inv X pins σ H { s with heap:=h' }:=I.turned (t':=s.toks) (λ b o hb e=>(sb.2 b hb).trans e) f0 f1 f3 f4 f5
  obtain⟨o,e,c,d⟩:=id st'
  exact⟨u,rfl,Jw0 (s:={ s with heap:=h' }) e c d (by decide) ⟨x,H,I1,ru,⟨rfl,λ ys hy=>by rw[I.tuple_inj hy hq];exact hx⟩,st',λ b hb=>(hf b hb).1⟩⟩
 done:=by
  intro X hP hw hK hc i pins s σ H E I hf st hg
  subst hP hw hK
  obtain⟨xs,hq,hx⟩:=hg
  obtain⟨its,rv,p,hz⟩:=I.tuple hq
  obtain⟨f0,f1,f2,f3,f4,f5⟩:=hf it (by simp)
  have hl:=rv.length
  exact wpAny_pyNext_tuple_end (I.ok.hd hc) st (show s.heap.IsTuple a its.toArray from p) (by simp;omega) λ h' eb=>⟨rfl,I.turned (t':=s.toks) (λ b o hb e=>eb b o hb e) f0 f1 f3 f4 f5⟩
 self:=λ _ _ _ _ _ st h=>wpAny_pyIter_tupleiter st h
theorem Jsi {P:Program}{w:World}{K:W.Frag}{tg:Expr}(it:Addr) (lo:Int) (n:Nat):Turn P w K tg (Itr lo n) [it] it (λ i h=>IsRangeIter h it (lo+(i:Nat)*1) ((n:Int)-(i:Nat)) 1) where
 mem:=by simp
 obj:=λ i h st b hb=>by
  have e:b=it:=by simpa using hb
  subst e
  exact⟨_,st,λ v z=>by
   have z':Data.fields _=Data.cell v:=z
   cases z'⟩
 keep:=λ i h h' st k=>k it (by simp) _ st
 item:=by
  intro X hP hw hK hc i pins s σ H E I hf st hg
  subst hP hw hK
  obtain⟨f0,f1,f2,f3,f4,f5⟩:=hf it (by simp)
  have W:=Walks.range (prog:=X.prog) (w:=X.w) (I.ok.hd hc) it lo 1 n
  refine W.item i s _ _ hg st λ v h' tk hv st' kk=>?_
  obtain⟨t,rfl⟩:=hv
  have I1:Inv X pins σ H { s with heap:=h',toks:=tk }:=I.turned (λ b o hb e=>kk b o (by simpa using hb) e) f0 f1 f3 f4 f5
  refine⟨_,rfl,Jw0 (s:={ s with heap:=h',toks:=tk }) (n:="range_iterator") st' rfl rfl (by decide) ⟨.int (lo+i),H,I1,⟨t,?_⟩,⟨rfl,rfl⟩,st',λ b hb=>(hf b hb).1⟩⟩
  rw[Int.mul_one]
 done:=by
  intro X hP hw hK hc i pins s σ H E I hf st hg
  subst hP hw hK
  obtain⟨f0,f1,f2,f3,f4,f5⟩:=hf it (by simp)
  exact wpAny_pyNext_range_end (I.ok.hd hc) st (by have:n<=i:=hg;omega) λ h' eb=>⟨rfl,I.turned (t':=s.toks) (λ b o hb e=>eb b o hb e) f0 f1 f3 f4 f5⟩
 self:=λ _ _ _ _ _ st h=>wpAny_pyIter_rangeiter st h
section
variable {X:Cx}{tg:Expr}
theorem Jxx {pins:List (Addr×Obj)}{σ:St}{H:Hp}{s:Shared}{R:It->Hp->Prop}{E:Value->Shared->Prop}{lo hi:Int}{t u v:Tok}{tk:Nat}(I:Inv X pins σ H s) (h1: -(2^62)<=lo) (h2:lo<2^62) (h3: -(2^62)<=hi) (h4:hi<2^62)
  (q:R (Itr lo (hi-lo).toNat) H):wpAny (model X.prog X.w) X.A (pyIter (.ref s.heap.objs.size)) (PIE X pins σ tg R) E { s with heap:=s.heap.push { cls:=.type "range",data:=.fields #[.int lo t,.int hi u,.int 1 v] },toks:=tk }:=by
 refine wpAny_pyIter_range (IsRange.new ..) (small_one h1 h2 h3 h4) ?_
 have I1:Inv X pins σ H { s with heap:=s.heap.push { cls:=.type "range",data:=.fields #[.int lo t,.int hi u,.int 1 v] },toks:=tk }:=I.kept λ b o e=>Heap.get?_push_of_some _ e
 refine⟨(s.heap.push { cls:=.type "range",data:=.fields #[.int lo t,.int hi u,.int 1 v] }).objs.size,[(s.heap.push { cls:=.type "range",data:=.fields #[.int lo t,.int hi u,.int 1 v] }).objs.size],_,_,H,rfl,
  I1.kept (t':=tk) λ b o e=>Heap.get?_push_of_some _ e,Jsi _ lo (hi-lo).toNat,?_,λ b hb=>?_,q⟩
 ·have e1:lo+((0:Nat):Int)*1=lo:=by simp
  have e2:(((hi-lo).toNat:Nat):Int)-((0:Nat):Int)=Builtin.Range.rangeSize lo hi 1:=by rw[rangeSize_one];split<;>omega
  show IsRangeIter _ _ (lo+((0:Nat):Int)*1) ((((hi-lo).toNat:Nat):Int)-((0:Nat):Int)) 1
  rw[e1,e2]
  exact Heap.get?_push_size _ rfl
 ·have e:b=(s.heap.push { cls:=.type "range",data:=.fields #[.int lo t,.int hi u,.int 1 v] }).objs.size:=by simpa using hb
  subst e
  exact I1.fpOk (Nat.le_refl _) (I1.hok.fresh (Nat.le_refl _))
noncomputable def Jfa (fp:List Addr) (h:Heap):List (Addr×Obj):=fp.filterMap λ b=>(h.get? b).map λ o=>(b,o)
theorem Jb8 {fp:List Addr}{h:Heap}{b:Addr}{o:Obj}(hb:b∈fp) (e:h.get? b=some o):(b,o)∈Jfa fp h:=List.mem_filterMap.mpr ⟨b,hb,by rw[e];rfl⟩
theorem Juq {fp:List Addr}{h:Heap}{p:Addr×Obj}(hp:p∈Jfa fp h):p.1∈fp/\h.get? p.1=some p.2:=by
 obtain⟨b,hb,e⟩:=List.mem_filterMap.mp hp
 cases q:h.get? b with
 | none=>rw[q] at e;cases e
 | some o =>
  rw[q] at e
  have e':(b,o)=p:=Option.some.inj e
  subst e'
  exact⟨hb,q⟩
theorem Inv.pinned {pins:List (Addr×Obj)}{σ:St}{H:Hp}{s:Shared}{fp:List Addr}(I:Inv X pins σ H s) (hf:∀b∈fp,FpOk X pins H b) (ho:∀b∈fp,∃o,s.heap.get? b=some o/\∀v,o.data≠.cell v):Inv X (pins++Jfa fp s.heap) σ H s :=
 I.pins_of λ p hp=>(List.mem_append.mp hp).elim (λ z=>I.pin p (List.mem_append_right _ z)) λ z=>by
  obtain⟨hb,e⟩:=Juq z
  obtain⟨f0,f1,f2,_⟩:=hf p.1 hb
  obtain⟨o,e',d⟩:=ho p.1 hb
  rw[e] at e';cases e'
  exact⟨e,f0,f1,f2,d⟩
theorem Inv.unpinned {pins pl:List (Addr×Obj)}{σ:St}{H:Hp}{s:Shared}(I:Inv X (pins++pl) σ H s):Inv X pins σ H s:=I.pins_of λ p hp=>I.pin p (List.mem_append_right _ (List.mem_append_left _ hp))
end
noncomputable abbrev R2:=V->V->Hp->VK->Prop
noncomputable def OpR (X:Cx) (f:Value->Value->Sem Value) (r:R2):Prop :=
 ∀(pins:List (Addr×Obj)) (s:Shared) (σ:St) (H:Hp) (x y:V) (v u:Value) (Q:VK),Inv X pins σ H s->RelV x v->RelV y u->r x y H Q ->
  wpAny (model X.prog X.w) X.A (f v u) (EP X pins σ Q) X.xe s
noncomputable def UnR (X:Cx) (f:Value->Sem Value) (r:V->Hp->VK->Prop):Prop :=
 ∀(pins:List (Addr×Obj)) (s:Shared) (σ:St) (H:Hp) (x:V) (v:Value) (Q:VK),Inv X pins σ H s->RelV x v->r x H Q ->
  wpAny (model X.prog X.w) X.A (f v) (EP X pins σ Q) X.xe s
noncomputable def Jsn (X:Cx) (f:Value) (r:List V->Hp->VK->Prop):Prop :=
 ∀(pins:List (Addr×Obj)) (s:Shared) (σ:St) (H:Hp) (xs:List V) (us:List Value) (Q:VK),Inv X pins σ H s->Vals xs us->r xs H Q ->
  wpAny (model X.prog X.w) X.A (call f us) (EP X pins σ Q) X.xe s
noncomputable def TruR (X:Cx) (r:V->Hp->(Bool->Hp->Prop)->Prop):Prop :=
 ∀(pins:List (Addr×Obj)) (s:Shared) (σ:St) (H:Hp) (x:V) (v:Value) (Q:Bool->Hp->Prop),Inv X pins σ H s->RelV x v->r x H Q ->
  wpAny (model X.prog X.w) X.A (truthy v) (TP X pins σ Q) X.xe s
noncomputable def rI (C:Int->Int->Prop) (g:Int->Int->V):R2:=λ x y H Q=>∃i j,x=.int i/\y=.int j/\C i j/\Q (g i j) H
noncomputable def rI0 (g:Int->Int->V):R2:=λ x y H Q=>∃i j,x=.int i/\y=.int j/\Q (g i j) H
noncomputable def rU (g:Int->V):V->Hp->VK->Prop:=λ x H Q=>∃i,x=.int i/\Q (g i) H
section
variable {X:Cx}{a b c:Expr}{ta tb tc:TE}{pos:Pos}
theorem opI {f:Value->Value->Sem Value}{C:Int->Int->Prop}{g:Int->Int->Int}
  (rule:∀(i j:Int) (t u:Tok) (s:Shared) (Q:Value->Shared->Prop) (E:Value->Shared->Prop),C i j->Q (.int (g i j) s.toks) { s with toks:=s.toks+1 }->wpAny (model X.prog X.w) X.A (f (.int i t) (.int j u)) Q E s) :
  OpR X f (rI C λ i j=>.int (g i j)):=by
 intro pins s σ H x y v u Q I rx ry h
 obtain⟨i,j,rfl,rfl,hc,q⟩:=h
 obtain⟨t,rfl⟩:=rx
 obtain⟨t',rfl⟩:=ry
 exact rule i j t t' s _ _ hc ⟨.int (g i j),H,I.tok _,⟨_,rfl⟩,q⟩
theorem opI0 {f:Value->Value->Sem Value}{g:Int->Int->Int}
  (rule:∀(i j:Int) (t u:Tok) (s:Shared) (Q:Value->Shared->Prop) (E:Value->Shared->Prop),Q (.int (g i j) s.toks) { s with toks:=s.toks+1 }->wpAny (model X.prog X.w) X.A (f (.int i t) (.int j u)) Q E s) :
  OpR X f (rI0 λ i j=>.int (g i j)):=by
 intro pins s σ H x y v u Q I rx ry h
 obtain⟨i,j,rfl,rfl,q⟩:=h
 obtain⟨t,rfl⟩:=rx
 obtain⟨t',rfl⟩:=ry
 exact rule i j t t' s _ _ ⟨.int (g i j),H,I.tok _,⟨_,rfl⟩,q⟩
theorem opB0 {f:Value->Value->Sem Value}{g:Int->Int->Bool}
  (rule:∀(i j:Int) (t u:Tok) (s:Shared) (Q:Value->Shared->Prop) (E:Value->Shared->Prop),Q (.bool (g i j)) s->wpAny (model X.prog X.w) X.A (f (.int i t) (.int j u)) Q E s) :
  OpR X f (rI0 λ i j=>.bl (g i j)):=by
 intro pins s σ H x y v u Q I rx ry h
 obtain⟨i,j,rfl,rfl,q⟩:=h
 obtain⟨t,rfl⟩:=rx
 obtain⟨t',rfl⟩:=ry
 exact rule i j t t' s _ _ ⟨.bl (g i j),H,I,rfl,q⟩
noncomputable def CPow (i j:Int):Prop:=0<=j/\j<=1000000/\i.natAbs<2^64
noncomputable def CMul (i j:Int):Prop:=(-(2^64)<i/\i<2^64)∨(-(2^64)<j/\j<2^64)
theorem CMul.ok {i j:Int}(h:CMul i j):IntMulOk i j:=by
 rcases h with⟨h1,h2⟩|⟨h1,h2⟩
 ·exact .of_left (intBits_le_64 h1 h2)
 ·exact .of_right (intBits_le_64 h1 h2)
theorem J4g:OpR X (binaryOp .Add) (rI0 λ i j=>.int (i+j)):=opI0 λ _ _ _ _ _ _ _ q=>add_int q
theorem J4l:OpR X (binaryOp .Sub) (rI0 λ i j=>.int (i-j)):=opI0 λ _ _ _ _ _ _ _ q=>sub_int q
theorem J4i:OpR X (binaryOp .Mod) (rI (λ _ j=>0<j) λ i j=>.int (i%j)):=opI λ i j _ _ _ _ _ hc q=>by
 have h1:(0:Int)<j:=hc
 exact mod_int' (by omega) (by rw[Int.fmod_eq_emod_of_nonneg i (by omega)];exact q)
theorem J4j:OpR X (binaryOp .Pow) (rI CPow λ i j=>.int (i^j.toNat)):=opI λ _ _ _ _ _ _ _ hc q=>pow_int_small hc.1 hc.2.1 hc.2.2 q
theorem unI {f:Value->Sem Value}{g:Int->Int}
  (rule:∀(i:Int) (t:Tok) (s:Shared) (Q:Value->Shared->Prop) (E:Value->Shared->Prop),Q (.int (g i) s.toks) { s with toks:=s.toks+1 }->wpAny (model X.prog X.w) X.A (f (.int i t)) Q E s) :
  UnR X f (rU λ i=>.int (g i)):=by
 intro pins s σ H x v Q I rx h
 obtain⟨i,rfl,q⟩:=h
 obtain⟨t,rfl⟩:=rx
 exact rule i t s _ _ ⟨.int (g i),H,I.tok _,⟨_,rfl⟩,q⟩
theorem J5d:UnR X (unaryOp .USub) (rU λ i=>.int (-i)):=unI λ _ _ _ _ _ q=>neg_int q
end
noncomputable def scal:V->V->Bool
 | .non,.non=>true|.non,.int _=>true|.int _,.non=>true|.non,.bl _=>true|.bl _,.non=>true|.non,.str _=>true|.str _,.non=>true
 | .int _,.int _=>true|.bl _,.bl _=>true|.str _,.str _=>true|.byt _,.byt _=>true
 | .int _,.str _=>true|.str _,.int _=>true|.bl _,.str _=>true|.str _,.bl _=>true
 | _,_=>false
noncomputable def rEq:R2:=λ x y H Q=>scal x y=true/\Q (.bl (decide (x=y))) H
noncomputable def rNe:R2:=λ x y H Q=>scal x y=true/\Q (.bl (!decide (x=y))) H
theorem Jte {i j:Int}:decide (V.int i=V.int j)=(i==j):=by
 rw[Bool.eq_iff_iff]
 simp
theorem Jyw {i j:Bool}:decide (V.bl i=V.bl j)=(i==j):=by
 rw[Bool.eq_iff_iff]
 simp
theorem Jtf {i j:Str}:decide (V.str i=V.str j)=(i==j):=by
 rw[Bool.eq_iff_iff]
 simp
theorem Jtd {i j:Array UInt8}:decide (V.byt i=V.byt j)=(i.toList==j.toList):=by
 rw[Bool.eq_iff_iff]
 cases i
 cases j
 simp
section
variable {X:Cx}{a b c:Expr}{ta tb tc:TE}{pos:Pos}
theorem Jq {pins:List (Addr×Obj)}{σ:St}{H:Hp}{s:Shared}{Q:VK}{k k':Bool}(I:Inv X pins σ H s) (q:Q (.bl k) H) (e:k=k'):EP X pins σ Q (.bool k') s:=by
 subst e
 exact⟨.bl k,H,I,rfl,q⟩
theorem op_eq:OpR X (compareOp .Eq) rEq:=by
 intro pins s σ H x y v u Q I rx ry h
 obtain⟨hs,q⟩:=h
 cases x with
 | non =>
  cases rx
  cases y with
  | non=>cases ry;exact PySem.EqNone.eq_none_none (Jq I q (by simp))
  | bl j=>cases ry;exact PySem.EqNone.eq_none_bool (Jq I q (by simp))
  | int j=>obtain⟨t',rfl⟩:=ry;exact PySem.EqNone.eq_none_int (Jq I q (by simp))
  | str j=>obtain⟨t',rfl⟩:=ry;exact PySem.EqNone.eq_none_str (Jq I q (by simp))
  | _=>exact absurd (show false=true from hs) Bool.false_ne_true
 | bl i =>
  cases rx
  cases y with
  | non=>cases ry;exact PySem.EqNone.eq_bool_none (Jq I q (by simp))
  | bl j=>cases ry;exact eq_bool (Jq I q Jyw)
  | str j=>obtain⟨t',rfl⟩:=ry;exact PySem.EqMixed.eq_bool_str (Jq I q (by simp))
  | _=>exact absurd (show false=true from hs) Bool.false_ne_true
 | int i =>
  obtain⟨t,rfl⟩:=rx
  cases y with
  | non=>cases ry;exact PySem.EqNone.eq_int_none (Jq I q (by simp))
  | int j=>obtain⟨t',rfl⟩:=ry;exact eq_int (Jq I q Jte)
  | str j=>obtain⟨t',rfl⟩:=ry;exact PySem.EqMixed.eq_int_str (Jq I q (by simp))
  | _=>exact absurd (show false=true from hs) Bool.false_ne_true
 | str i =>
  obtain⟨t,rfl⟩:=rx
  cases y with
  | non=>cases ry;exact PySem.EqNone.eq_str_none (Jq I q (by simp))
  | bl j=>cases ry;exact PySem.EqMixed.eq_str_bool (Jq I q (by simp))
  | int j=>obtain⟨t',rfl⟩:=ry;exact PySem.EqMixed.eq_str_int (Jq I q (by simp))
  | str j=>obtain⟨t',rfl⟩:=ry;exact eq_str (Jq I q Jtf)
  | _=>exact absurd (show false=true from hs) Bool.false_ne_true
 | byt i =>
  obtain⟨t,rfl⟩:=rx
  cases y with
  | byt j=>obtain⟨t',rfl⟩:=ry;exact W.eq_bytes (Jq I q Jtd)
  | _=>exact absurd (show false=true from hs) Bool.false_ne_true
 | _=>cases y<;>exact absurd (show false=true from hs) Bool.false_ne_true
theorem op_ne:OpR X (compareOp .NotEq) rNe:=by
 intro pins s σ H x y v u Q I rx ry h
 obtain⟨hs,q⟩:=h
 cases x with
 | non =>
  cases rx
  cases y with
  | non=>cases ry;exact PySem.EqNone.ne_none_none (Jq I q (by simp))
  | bl j=>cases ry;exact PySem.EqNone.ne_none_bool (Jq I q (by simp))
  | int j=>obtain⟨t',rfl⟩:=ry;exact PySem.EqNone.ne_none_int (Jq I q (by simp))
  | str j=>obtain⟨t',rfl⟩:=ry;exact PySem.EqNone.ne_none_str (Jq I q (by simp))
  | _=>exact absurd (show false=true from hs) Bool.false_ne_true
 | bl i =>
  cases rx
  cases y with
  | non=>cases ry;exact PySem.EqNone.ne_bool_none (Jq I q (by simp))
  | bl j=>cases ry;exact ne_bool (Jq I q (congrArg not Jyw))
  | str j=>obtain⟨t',rfl⟩:=ry;exact PySem.EqMixed.ne_bool_str (Jq I q (by simp))
  | _=>exact absurd (show false=true from hs) Bool.false_ne_true
 | int i =>
  obtain⟨t,rfl⟩:=rx
  cases y with
  | non=>cases ry;exact PySem.EqNone.ne_int_none (Jq I q (by simp))
  | int j=>obtain⟨t',rfl⟩:=ry;exact ne_int (Jq I q (congrArg not Jte))
  | str j=>obtain⟨t',rfl⟩:=ry;exact PySem.EqMixed.ne_int_str (Jq I q (by simp))
  | _=>exact absurd (show false=true from hs) Bool.false_ne_true
 | str i =>
  obtain⟨t,rfl⟩:=rx
  cases y with
  | non=>cases ry;exact PySem.EqNone.ne_str_none (Jq I q (by simp))
  | bl j=>cases ry;exact PySem.EqMixed.ne_str_bool (Jq I q (by simp))
  | int j=>obtain⟨t',rfl⟩:=ry;exact PySem.EqMixed.ne_str_int (Jq I q (by simp))
  | str j=>obtain⟨t',rfl⟩:=ry;exact ne_str (Jq I q (congrArg not Jtf))
  | _=>exact absurd (show false=true from hs) Bool.false_ne_true
 | byt i =>
  obtain⟨t,rfl⟩:=rx
  cases y with
  | byt j=>obtain⟨t',rfl⟩:=ry;exact W.ne_bytes (Jq I q (congrArg not Jtd))
  | _=>exact absurd (show false=true from hs) Bool.false_ne_true
 | _=>cases y<;>exact absurd (show false=true from hs) Bool.false_ne_true
theorem op_lt:OpR X (compareOp .Lt) (rI0 λ i j=>.bl (decide (i<j))):=opB0 λ _ _ _ _ _ _ _ q=>lt_int q
theorem op_le:OpR X (compareOp .LtE) (rI0 λ i j=>.bl (decide (i<=j))):=opB0 λ _ _ _ _ _ _ _ q=>le_int q
theorem op_gt:OpR X (compareOp .Gt) (rI0 λ i j=>.bl (decide (j<i))):=opB0 λ _ _ _ _ _ _ _ q=>gt_int q
theorem op_ge:OpR X (compareOp .GtE) (rI0 λ i j=>.bl (decide (j<=i))):=opB0 λ _ _ _ _ _ _ _ q=>ge_int q
theorem Jur:OpR X (compareOp .Lt) (λ x y H Q=>∃i j,x=.str i/\y=.str j/\Q (.bl (decide (i.cps.toList<j.cps.toList))) H):=by
 intro pins s σ H x y v u Q I rx ry h
 obtain⟨i,j,rfl,rfl,q⟩:=h
 obtain⟨t,rfl⟩:=rx
 obtain⟨t',rfl⟩:=ry
 exact lt_str (Jq I q rfl)
theorem nomark (b:Expr){op:CmpOp}(h:op≠.In:=by decide) (h2:op≠.NotIn:=by decide):behindInMarks op b=false:=by
 have e1:(op==CmpOp.In)=false:=by cases op<;>first|rfl|exact absurd rfl h
 have e2:(op==CmpOp.NotIn)=false:=by cases op<;>first|rfl|exact absurd rfl h2
 cases b<;>simp[behindInMarks,e1,e2]
noncomputable def TruV (K:W.Frag) (x:V) (H:Hp) (k:Bool):Prop :=
 match x with
 | .non=>k=false
 | .bl b=>k=b
 | .int i=>k=(i != 0)
 | .str y=>y.length<=sizeLine/\k=((y.length:Int) != 0)
 | .byt y=>y.size<=sizeLine/\k=((y.size:Int) != 0)
 | .ref p=>(∃xs,SqL K H p xs/\k=!xs.isEmpty)∨(∃xs,SqT K H p xs/\k=!xs.isEmpty)∨∃kvs,H p=some (.dK kvs)/\k=!kvs.isEmpty
 | _=>False
theorem Jrh {κ:Type}{kvs:List (κ×V)}{vs:List (κ×Value)}(r:KV kvs vs):(!vs.isEmpty)=!kvs.isEmpty:=by
 cases r<;>rfl
theorem Jkm {xs:List V}{its:List Value}(r:Vals xs its):(!its.toArray.isEmpty)=!xs.isEmpty:=by
 cases r<;>simp
theorem Jm3:(sizeLine:Nat)<2^63:=by rw[sizeLine_eq];decide
theorem Jh4:TruR X (λ x H Q=>∃k,TruV X.K x H k/\Q k H):=by
 intro pins s σ H x v Q I rx h
 obtain⟨k,e,q⟩:=h
 have hl:=Jm3
 have hs:sizeLine=16777216:=sizeLine_eq
 cases x with
 | non =>
  cases rx
  have e':k=false:=e
  subst e'
  exact truthy_none ⟨H,I,q⟩
 | bl b =>
  cases rx
  have e':k=b:=e
  subst e'
  exact wpAny_truthy_bool ⟨H,I,q⟩
 | int i =>
  obtain⟨t,rfl⟩:=rx
  have e':k=(i != 0):=e
  subst e'
  exact PySem.P.truthy_int ⟨H,I,q⟩
 | str y =>
  obtain⟨t,rfl⟩:=rx
  obtain⟨hy,e'⟩:y.length<=sizeLine/\k=((y.length:Int) != 0):=e
  subst e'
  exact PySem.P.truthy_str (by omega) ⟨H,I.tok _,q⟩
 | byt y =>
  obtain⟨t,rfl⟩:=rx
  obtain⟨hy,e'⟩:y.size<=sizeLine/\k=((y.size:Int) != 0):=e
  subst e'
  exact W.truthy_bytes (by omega) ⟨H,I.tok _,q⟩
 | ref p =>
  cases rx
  have e':(∃xs,SqL X.K H p xs/\k=!xs.isEmpty)∨(∃xs,SqT X.K H p xs/\k=!xs.isEmpty)∨∃kvs,H p=some (.dK kvs)/\k=!kvs.isEmpty:=e
  rcases e' with⟨xs,hx,e'⟩|⟨xs,hx,e'⟩|⟨kvs,hx,e'⟩
  ·subst e'
   obtain⟨its,r,pl,hz⟩:=I.list hx
   have hlen:=r.length
   exact wpAny_truthy_list pl.isList (by simp only[List.size_toArray];omega) ⟨H,I.tok _,by rw[Jkm r];exact q⟩
  ·subst e'
   obtain⟨its,r,pl,hz⟩:=I.tuple hx
   have hlen:=r.length
   exact truthy_tuple pl (by simp only[List.size_toArray];omega) ⟨H,I.tok _,by rw[Jkm r];exact q⟩
  ·subst e'
   obtain⟨hz,hS,vs,r,m⟩:kvs.length<=sizeLine/\(p==sysModules)=false/\∃vs,KV kvs vs/\s.heap.DictOf (Jb5 X.prog X.w) p vs:=I.hok p _ hx
   have hlen:kvs.length=vs.length:=Paired.length r
   exact wpAny_truthy_dict hS m (by omega) ⟨H,I.tok _,by rw[Jrh r];exact q⟩
 | _=>exact Zf e
theorem Jrx:OpR X (binaryOp .Add) (λ x y H Q=>∃i j,x=.str i/\y=.str j/\i.length+j.length<=sizeLine/\Q (.str (i++j)) H):=by
 intro pins s σ H x y v u Q I rx ry h
 obtain⟨i,j,rfl,rfl,hz,q⟩:=h
 obtain⟨t,rfl⟩:=rx
 obtain⟨t',rfl⟩:=ry
 exact add_str (λ t' tk=>⟨.str (i++j),H,I.tok _,⟨_,rfl⟩,q⟩) hz
theorem Jn9 {x:V}{us:List Value}(r:Vals [x] us):∃u,us=[u]/\RelV x u:=by
 cases r with
 | cons r1 r2=>cases r2;exact⟨_,rfl,r1⟩
theorem vals2 {x y:V}{us:List Value}(r:Vals [x,y] us):∃u w',us=[u,w']/\RelV x u/\RelV y w':=by
 cases r with
 | cons r1 r2 =>
  cases r2 with
  | cons r3 r4=>cases r4;exact⟨_,_,rfl,r1,r3⟩
theorem Js8 (hc:X.calm=true):Jsn X (.builtin "max") (λ xs H Q=>∃i j,xs=[.int i,.int j]/\Q (.int (if j>i then j else i)) H):=by
 intro pins s σ H xs us Q I r h
 obtain⟨i,j,rfl,q⟩:=h
 obtain⟨u,w',rfl,⟨t,rfl⟩,⟨t',rfl⟩⟩:=vals2 r
 refine max_two_ints (I.ok.hd hc) λ h' tk k=>⟨_,H,I.kept k,?_,q⟩
 by_cases hj:j>i
 ·rw[if_pos hj,if_pos hj];exact⟨_,rfl⟩
 ·rw[if_neg hj,if_neg hj];exact⟨_,rfl⟩
noncomputable def LenV (K:W.Frag) (x:V) (H:Hp) (n:Nat):Prop :=
 match x with
 | .str y=>y.length<=sizeLine/\n=y.length
 | .byt y=>y.size<=sizeLine/\n=y.size
 | .ref p=>(∃xs,SqL K H p xs/\n=xs.length)∨∃xs,SqT K H p xs/\n=xs.length
 | _=>False
theorem Jie:Jsn X (.builtin "len") (λ xs H Q=>∃x n,xs=[x]/\LenV X.K x H n/\Q (.int n) H):=by
 intro pins s σ H xs us Q I r h
 obtain⟨x,n,rfl,e,q⟩:=h
 obtain⟨u,rfl,rx⟩:=Jn9 r
 have hl:=Jm3
 have hs:sizeLine=16777216:=sizeLine_eq
 cases x with
 | str y =>
  obtain⟨t,rfl⟩:=rx
  obtain⟨hy,e'⟩:y.length<=sizeLine/\n=y.length:=e
  subst e'
  exact len_str (by omega) ⟨.int _,H,I.tok _,⟨_,rfl⟩,q⟩
 | byt y =>
  obtain⟨t,rfl⟩:=rx
  obtain⟨hy,e'⟩:y.size<=sizeLine/\n=y.size:=e
  subst e'
  exact W.len_bytes (by omega) ⟨.int _,H,I.tok _,⟨_,rfl⟩,q⟩
 | ref p =>
  cases rx
  have e':(∃xs,SqL X.K H p xs/\n=xs.length)∨∃xs,SqT X.K H p xs/\n=xs.length:=e
  rcases e' with⟨xs,hx,e'⟩|⟨xs,hx,e'⟩
  ·subst e'
   obtain⟨its,r',pl,hz⟩:=I.list hx
   have hlen:=r'.length
   exact Calls.call_len_list pl.isList (by simp only[List.size_toArray];omega) ⟨.int xs.length,H,I.tok _,⟨_,by simp only[List.size_toArray];rw[hlen]⟩,q⟩
  ·subst e'
   obtain⟨its,r',pl,hz⟩:=I.tuple hx
   have hlen:=r'.length
   exact len_tuple pl (by simp only[List.size_toArray];omega) ⟨.int xs.length,H,I.tok _,⟨_,by simp only[List.size_toArray];rw[hlen]⟩,q⟩
 | _=>exact Zf e
end
structure ObjM (h:Heap) (x dx C:Addr) (mA:Str->Option Value):Prop where
 obj:h.get? x=some (W.instObj C dx)
 ns:h.Ns1 dx mA
 ne:dx≠x
theorem Juj {h:Heap}{dx:Addr}{mA:Str->Option Value}(n:h.Ns1 dx mA):∃od,h.get? dx=some od/\∀name,W.lookIn name od=some (mA name):=by
 obtain⟨o,es,ep,ho,hd,hk,_,hm⟩:=n
 refine⟨o,ho,λ name=>?_⟩
 have e:=hm name
 unfold nsFind findBy at e
 rw[<- Array.find?_toList] at e
 unfold W.lookIn
 rw[hd]
 dsimp only
 split
 ·rename_i y q
  rw[q] at e
  exact congrArg some e
 ·rename_i q
  rw[q] at e
  have a:es.toList.any (·.refKey)=false:=by
   rw[List.any_eq_false]
   intro y hy
   obtain⟨z,t,hkey⟩:=hk y (Array.mem_toList_iff.mp hy)
   simp[DictEntry.refKey,hkey]
  have a':¬es.toList.any (·.refKey)=true:=by rw[a];exact Bool.false_ne_true
  rw[if_neg a']
  exact congrArg some e
theorem ObjM.look {h:Heap}{x dx C:Addr}{mA:Str->Option Value}(I:ObjM h x dx C mA):∃od,W.InstAt h x (W.instObj C dx) C (some od)/\∀name,W.lookIn name od=some (mA name) :=
 let ⟨od,ho,hl⟩:=Juj I.ns
 ⟨od,⟨I.obj,rfl,rfl,ho⟩,hl⟩
section
variable {prog:Program}{w:World}{A:Around}{E:Value->Shared->Prop}{s:Shared}{K:W.Frag}{x dx C f:Addr}{mA:Str->Option Value}{name:Str}{v:Value}
theorem J0j {expr:Bool}{Q:Value->Shared->Prop}(X:K.In s.heap) (I:ObjM s.heap x dx C mA) (hg:W.plainGet K C name=true) (hh:W.hasDictIn K C=true)
  (ha:W.findIn K (.ref C) name=some none) (hv:mA name=some v) (hv':W.handedIn v=true) (h:Q v { s with toks:=s.toks+1 }) :
  wpAny (model prog w) A (getAttr (.ref x) name expr) Q E s:=by
 obtain⟨od,J,hl⟩:=I.look
 exact W.get_value X J (W.plainGet_of hg).1 (W.findObj_own hh ha rfl (by rw[hl,hv])) hv' h
theorem Jwx {pl:Sem Bool}{Q:Value×List Value->Shared->Prop}(X:K.In s.heap) (I:ObjM s.heap x dx C mA) (hg:W.plainGet K C name=true)
  (hf:W.findIn K (.ref C) name=some (some (.ref f))) (ht:W.isFn K (.ref f)=true) (hv:mA name=none) (h:Q (.ref f,[.ref x]) s) :
  wpAny (model prog w) A (getMethod (.ref x) name pl) Q E s:=by
 obtain⟨od,J,hl⟩:=I.look
 exact W.method_fn X J (W.plainGet_of hg).1 (W.plainGet_of hg).2 hf (beq_iff_eq.mp ht) (by show(W.lookIn name od).map (·.isSome)=some false;rw[hl,hv];rfl) h
theorem J1t {ns:List Str}{Q:Unit->Shared->Prop}(X:K.In s.heap) (I:ObjM s.heap x dx C mA)
  (hs:W.findIn K (.ref C) "__setattr__"=some (some (.builtin "object.__setattr__"))) (hp:W.plainOver K C=true) (ht:W.takerIn K C name=some none) (hh:W.hasDictIn K C=true)
  (hw:PySem.Within mA ns) (hsz:ns.length<=sizeLine)
  (h:∀h',ObjM h' x dx C (λ y=>if y=name then some v else mA y)->Heap.SameBut dx s.heap h'->Q () { s with heap:=h',toks:=s.toks+2 }) :
  wpAny (model prog w) A (setAttr (.ref x) name v) Q E s:=by
 obtain⟨od,J,hl⟩:=I.look
 refine W.set_plain X J hs (W.osa_open (s:={ s with toks:=s.toks+1 }) (r:=none) X J hp ht λ b=>?_)
 obtain⟨cd,hc,hd'⟩:=W.any_some hh
 have hx:s.heap.get? x=some ⟨.ref C,some dx,.plain,#[]⟩:=I.obj
 refine wpAny_bind (wpAny_pure (wpAny_bind (wpAny_bind (wpAny_loadPart hx (wpAny_bind (W.Looks.here (s:={ s with toks:=s.toks+1 }) (W.looks_clsIn X hc) ?_))))))
 rw[hd']
 refine wpAny_pure (a:=some dx) (wpAny_bind (wpAny_pure (wpAny_bind ?_)))
 refine wpAny_nsSet1 (s:={ s with toks:=s.toks+1 }) I.ns λ h' hn2 hs2=>?_
 obtain⟨oD,esD,epD,hoD,hdD,hcD⟩:=hn2.count (PySem.Within.cons name v hw)
 refine wpAny_bind (wpAny_lookBehind hoD (by rw[hdD];exact pastItsLine_dict (Nat.le_trans hcD (by rw[List.length_cons];omega))) ?_)
 exact wpAny_pure (h _ ⟨(hs2.2 _ (Ne.symm I.ne)).trans I.obj,hn2,I.ne⟩ hs2)
theorem Jxr {R:Result->Shared->Prop}{vs:List Value}{kw:List (Str×Value)}(X:K.In s.heap) (hm:W.makesIn K C=true)
  (hi:W.findIn K (.ref C) "__init__"=some (some (.ref f))) (hf:W.typeIn K (.ref f)=some (.type "function"))
  (h:codeAny (model prog w) (A.under (.builtin "type.__call__" ⟨.ref C::vs,kw⟩)) (.call (.ref f) ⟨.ref (s.heap.objs.size+1)::vs,kw⟩) (W.InitBack (s.heap.objs.size+1) R)
   { s with heap:=(s.heap.push W.emptyDict).push (W.instObj C s.heap.objs.size) }) :
  codeAny (model prog w) A (.call (.ref C) ⟨vs,kw⟩) R s:=by
 obtain⟨hh,g,d,t,os⟩:=s
 exact W.make_core (W.makes_of X hm) (W.looks_findIn X hi) (λ self=>W.bind_fn X self hf) (.inl rfl) h
end
noncomputable def putF (f:Str) (v:V):List (Str×V)->List (Str×V)
 | []=>[(f,v)]
 | (g,x)::r=>if g=f then(g,v)::r else(g,x)::putF f v r
theorem Jjg (f g:Str) (v:V):∀fs:List (Str×V),(putF f v fs).lookup g=if g=f then some v else fs.lookup g
 | []=>by
  show List.lookup g [(f,v)]=_
  by_cases h:g=f
  ·have hb:(g==f)=true:=beq_iff_eq.mpr h
   simp only[List.lookup,hb,if_pos h]
  ·have hb:(g==f)=false:=beq_eq_false_iff_ne.mpr h
   simp only[List.lookup,hb,if_neg h]
 | (k,x)::r=>by
  have ih:=Jjg f g v r
  rw[show putF f v ((k,x)::r)=(if k=f then(k,v)::r else(k,x)::putF f v r) from rfl]
  by_cases hk:k=f
  ·rw[if_pos hk]
   by_cases h:g=k
   ·have hb:(g==k)=true:=beq_iff_eq.mpr h
    simp only[List.lookup,hb,if_pos (h.trans hk)]
   ·have hb:(g==k)=false:=beq_eq_false_iff_ne.mpr h
    simp only[List.lookup,hb,if_neg (λ e:g=f=>h (e.trans hk.symm))]
  ·rw[if_neg hk]
   by_cases h:g=k
   ·have hb:(g==k)=true:=beq_iff_eq.mpr h
    simp only[List.lookup,hb,if_neg (λ e:g=f=>hk (h.symm.trans e))]
   ·have hb:(g==k)=false:=beq_eq_false_iff_ne.mpr h
    simp only[List.lookup,hb]
    exact ih
theorem Jje (f:Str) (v:V):∀fs:List (Str×V),f∈(putF f v fs).map (·.1)/\∀g,g∈fs.map (·.1)->g∈(putF f v fs).map (·.1)
 | []=>⟨by simp[putF],λ g h=>by simp at h⟩
 | (k,x)::r=>by
  obtain⟨i1,i2⟩:=Jje f v r
  rw[show putF f v ((k,x)::r)=(if k=f then(k,v)::r else(k,x)::putF f v r) from rfl]
  by_cases hk:k=f
  ·rw[if_pos hk]
   subst hk
   exact⟨by simp,λ g h=>by simpa using h⟩
  ·rw[if_neg hk]
   refine⟨?_,λ g h=>?_⟩
   ·rw[List.map_cons]
    exact List.mem_cons_of_mem _ i1
   ·rw[List.map_cons] at h ⊢
    rcases List.mem_cons.mp h with e|e
    ·exact List.mem_cons.mpr (.inl e)
    ·exact List.mem_cons_of_mem _ (i2 g e)
theorem Jjf (f:Str) (v:V):∀fs:List (Str×V),(putF f v fs).length<=fs.length+1
 | []=>by simp[putF]
 | (k,x)::r=>by
  have ih:=Jjf f v r
  rw[show putF f v ((k,x)::r)=(if k=f then(k,v)::r else(k,x)::putF f v r) from rfl]
  by_cases hk:k=f
  ·rw[if_pos hk,List.length_cons,List.length_cons];omega
  ·rw[if_neg hk,List.length_cons,List.length_cons];omega
theorem RelO.some_of {v:V}{o:Option Value}(r:RelO (some v) o):∃u,o=some u/\RelV v u:=by
 cases o with
 | none=>exact Zf r
 | some u=>exact⟨u,rfl,r⟩
theorem RelO.none_of {o:Option Value}(r:RelO none o):o=none:=by
 cases o with
 | none=>rfl
 | some u=>exact Zf r
theorem Jty {v:V}{u:Value}(r:RelV v u):W.handedIn u=true:=by
 cases v with
 | non=>cases (show u=Value.none from r);rfl
 | bl b=>cases (show u=Value.bool b from r);rfl
 | int i=>obtain⟨t,e⟩:=(show ∃t,u=Value.int i t from r);cases e;rfl
 | str x=>obtain⟨t,e⟩:=(show ∃t,u=Value.str x t from r);cases e;rfl
 | byt b=>obtain⟨t,e⟩:=(show ∃t,u=Value.bytes b t from r);cases e;rfl
 | flt b=>obtain⟨t,e⟩:=(show ∃t,u=Value.float b t from r);cases e;rfl
 | ref a=>cases (show u=Value.ref a from r);rfl
 | ty n=>cases (show u=Value.type n from r);rfl
section
variable {P:Program}{w:World}{H H':Hp}{h h':Heap}{a C dx:Addr}{fs fs':List (Str×V)}
theorem Jk9 (hok:HOk P w H h) (e:H a=some (.ins C dx fs)):∃mA,ObjM h a dx C mA/\(∀f,RelO (fs.lookup f) (mA f))/\PySem.Within mA (fs.map (·.1))/\fs.length<=1000/\H dx=some (.own a):=by
 obtain⟨d,z,ne,ob,mA,n,r,q⟩:=(show Jbg P w H h a (.ins C dx fs) from hok a _ e)
 exact⟨mA,⟨ob,n,ne⟩,r,q,z,d⟩
end
structure Cls (K:W.Frag) (C:Addr):Prop where
 pg:W.plainGet K C Str.empty=true
 hd:W.hasDictIn K C=true
 po:W.plainOver K C=true
 sa:W.findIn K (.ref C) "__setattr__"=some (some (.builtin "object.__setattr__"))
theorem Cls.get {K:W.Frag}{C:Addr}(c:Cls K C) (f:Str):W.plainGet K C f=true:=c.pg
noncomputable def Jfp (K:W.Frag) (C:Addr) (f:Str):Prop:=W.findIn K (.ref C) f=some none
theorem Jfp.taker {K:W.Frag}{C:Addr}{f:Str}(n:Jfp K C f):W.takerIn K C f=some none:=by
 unfold W.takerIn
 rw[show W.findIn K (.ref C) f=some none from n]
 rfl
structure Con (K:W.Frag) (C:Addr) (f:Str) (v:V) (u:Value):Prop where
 at_:W.findIn K (.ref C) f=some (some u)
 rel:RelV v u
 get:W.specialIn K u "__get__"=some none
 cp:W.copiedNames.contains f=false
structure Meth (K:W.Frag) (C:Addr) (m:Str) (f:Addr):Prop where
 at_:W.findIn K (.ref C) m=some (some (.ref f))
 fn:W.isFn K (.ref f)=true
 kp:W.keepIn K (.ref f)=true
section
variable {X:Cx}{pins:List (Addr×Obj)}{σ:St}{H:Hp}{s:Shared}{a C dx:Addr}{fs:List (Str×V)}{f:Str}{v:V}{A:Around}{E:Value->Shared->Prop}
theorem Jq8 {b:Bool}{Q:Value->Shared->Prop}(I:Inv X pins σ H s) (e:H a=some (.ins C dx fs)) (c:Cls X.K C) (n:Jfp X.K C f) (l:fs.lookup f=some v)
  (h:∀u s',Inv X pins σ H s'->RelV v u->Q u s'):wpAny (model X.prog X.w) A (getAttr (.ref a) f b) Q E s:=by
 obtain⟨mA,O,r,_,_,_⟩:=Jk9 I.hok e
 obtain⟨u,hu,ru⟩:=RelO.some_of (v:=v) (o:=mA f) (by rw[<- l];exact r f)
 exact J0j I.kIn O (c.get f) c.hd n hu (Jty ru) (h u _ (I.tok _) ru)
theorem Jkl {m:Str}{g:Addr}{pl:Sem Bool}{Q:Value×List Value->Shared->Prop}(I:Inv X pins σ H s) (e:H a=some (.ins C dx fs)) (c:Cls X.K C) (k:Meth X.K C m g) (l:fs.lookup m=none)
  (h:Q (.ref g,[.ref a]) s):wpAny (model X.prog X.w) A (getMethod (.ref a) m pl) Q E s:=by
 obtain⟨mA,O,r,_,_,_⟩:=Jk9 I.hok e
 have hn:mA m=none:=RelO.none_of (by rw[<- l];exact r m)
 exact Jwx I.kIn O (c.get m) k.at_ k.fn hn h
theorem Jsd {y:V}{u:Value}{Q:Unit->Shared->Prop}(I:Inv X pins σ H s) (e:H a=some (.ins C dx fs)) (c:Cls X.K C) (n:Jfp X.K C f) (hl:fs.length<1000) (ry:RelV y u)
  (h:∀s',Inv X pins σ (upd H a (.ins C dx (putF f y fs))) s'->Q () s'):wpAny (model X.prog X.w) A (setAttr (.ref a) f u) Q E s:=by
 obtain⟨mA,O,r,wi,_,ho⟩:=Jk9 I.hok e
 have hz:(fs.map (·.1)).length<=sizeLine:=by rw[List.length_map,sizeLine_eq];omega
 refine J1t I.kIn O c.sa c.po n.taker c.hd wi hz λ h' O' sb=>h _ ?_
 have hd:∃o,h'.get? dx=some o:=let ⟨o,_,_,e',_⟩:=O'.ns;⟨o,e'⟩
 refine I.write (x:=a) (e:=dx) (by rw[e];exact True.intro) (.inr ho) (λ b q hb z=>(sb.2 b hb).trans z) hd ?_
 refine⟨by rw[Jh O.ne];exact ho,?_,O.ne,O'.obj,_,O'.ns,λ g=>?_,λ g hg=>?_⟩
 ·have:=Jjf f y fs;omega
 ·show RelO ((putF f y fs).lookup g) (if g=f then some u else mA g)
  rw[Jjg]
  by_cases q:g=f
  ·rw[if_pos q,if_pos q];exact ry
  ·rw[if_neg q,if_neg q];exact r g
 ·by_cases q:g=f
  ·rw[q];exact(Jje f y fs).1
  ·refine(Jje f y fs).2 g (wi g λ z=>hg ?_)
   show(if g=f then some u else mA g)=none
   rw[if_neg q];exact z
theorem Inv.made (I:Inv X pins σ H s):Inv X pins σ (upd (upd H s.heap.objs.size (.own (s.heap.objs.size+1))) (s.heap.objs.size+1) (.ins C s.heap.objs.size []))
  { s with heap:=(s.heap.push W.emptyDict).push (W.instObj C s.heap.objs.size) }:=by
 have e1:(s.heap.push W.emptyDict).get? s.heap.objs.size=some W.emptyDict:=Heap.get?_push_size s.heap rfl
 have e2:((s.heap.push W.emptyDict).push (W.instObj C s.heap.objs.size)).get? (s.heap.objs.size+1)=some (W.instObj C s.heap.objs.size):=by
  have:=Heap.get?_push_size (s.heap.push W.emptyDict) (o:=W.instObj C s.heap.objs.size) rfl
  rwa [Heap.size_push] at this
 have e3:(s.heap.push W.emptyDict).Ns s.heap.objs.size (λ _=>none):=⟨W.emptyDict,#[],_,e1,rfl,(λ e he=>absurd he (by simp)),λ _=>rfl⟩
 have I1:=I.laid (a:=s.heap.objs.size) (o:=.own (s.heap.objs.size+1)) (h':=s.heap.push W.emptyDict) (t':=s.toks) (λ b u q=>Heap.get?_push_of_some _ q) (Nat.le_refl _) ⟨_,e1⟩
 refine I1.laid (a:=s.heap.objs.size+1) (o:=.ins C s.heap.objs.size []) (t':=s.toks) (λ b u q=>Heap.get?_push_of_some _ q) (Nat.le_of_eq (Heap.size_push _ _)) ?_
 have ne:s.heap.objs.size≠s.heap.objs.size+1:=Nat.ne_of_lt (Nat.lt_succ_self _)
 refine⟨by rw[Jh ne,Jg],Nat.zero_le _,ne,e2,λ _=>none,(Heap.Ns1.of_empty e3).at λ o q=>Heap.get?_push_of_some _ q,λ _=>True.intro,λ y hy=>absurd rfl hy⟩
theorem Jz4 {prog:Program}{w:World}{env:Env}{e:Expr}{f:Str}{pos:Pos}{s:Shared}{Q:Value->Shared->Prop}(hb:attributeBase e f env (eval e env)=eval e env)
  (h:wpAny (model prog w) A (eval e env) (λ o s₁=>wpAny (model prog w) A (getAttr o f true) Q E s₁) E s):wpAny (model prog w) A (eval (.Attribute e f pos) env) Q E s :=
 Attribute_any_ h (by rw[arm_eval_Attribute,hb])
end
section
variable {X:Cx}{o e value:Expr}{f:Str}{pos pos' tpos:Pos}{ta tv:TE}
end
section
variable {X:Cx}{pins:List (Addr×Obj)}{σ:St}{H:Hp}{s:Shared}{A:Around}{E:Value->Shared->Prop}{Q:Value->Shared->Prop}{c:Value}{b:Bool}
inductive TyOf (K:W.Frag) (H:Hp):V->Value->Prop where
 | non:TyOf K H .non (.type "NoneType")
 | bl (x:Bool):TyOf K H (.bl x) (.type "bool")
 | int (i:Int):TyOf K H (.int i) (.type "int")
 | str (x:Str):TyOf K H (.str x) (.type "str")
 | flt (x:UInt64):TyOf K H (.flt x) (.type "float")
 | lst {a:Addr}{xs:List V}(e:H a=some (.lst xs)):TyOf K H (.ref a) (.type "list")
 | frz {a:Addr}{o:Obj}{xs:List V}(e:H a=some (.frz o (.lst xs))):TyOf K H (.ref a) (.type "list")
 | tup {a:Addr}{xs:List V}(e:H a=some (.tup xs)):TyOf K H (.ref a) (.type "tuple")
 | dK {a:Addr}{kvs:List (Key×V)}(e:H a=some (.dK kvs)):TyOf K H (.ref a) (.type "dict")
 | dT {a:Addr}{kvs:List (List Key×V)}(e:H a=some (.dT kvs)):TyOf K H (.ref a) (.type "dict")
 | ins {a C dx:Addr}{fs:List (Str×V)}(e:H a=some (.ins C dx fs)) (cl:Cls K C) (ha:W.findIn K (.ref C) "__class__"=some (some (.builtin "object.__class__")))
   (hn:W.specialIn K (.builtin "object.__class__") "__get__"=some (some (.builtin "getset_descriptor.__get__"))) (htk:W.takesIn K (.builtin "object.__class__")=some true)
   (hm:W.mroIn K C (.type "object")=some true):TyOf K H (.ref a) (.ref C)
end
structure Room (k:Nat) (A:Around):Prop where
 hd:A.handled=none
 dp:A.depth+3*k+5<recursionLimit
 un:A.units+16*k+200<cLine
theorem Room.mono {j k:Nat}{A:Around}(r:Room k A) (h:j<=k):Room j A:=⟨r.hd,by have:=r.dp;omega,by have:=r.un;omega⟩
theorem Room.deeper {k:Nat}{A:Around}(r:Room (k+1) A) (env:Env):Room k (A.deeper env) :=
 ⟨r.hd,by have:=r.dp;show A.depth+1+3*k+5<_;omega,by have:=r.un;show A.units+3+16*k+200<_;omega⟩
theorem Room.in1 {k:Nat}{A:Around}(r:Room (k+1) A):Room k A.in1 :=
 ⟨r.hd,by have:=r.dp;show A.depth+3*k+5<_;omega,by have:=r.un;show A.units+1+16*k+200<_;omega⟩
theorem Jrq {A:Around}{C:Addr}{us:List Value}{kw:List (Str×Value)}:(A.under (.builtin "type.__call__" ⟨.ref C::us,kw⟩)).depth=A.depth+1:=by
 first|rfl|simp[Around.under,Code.weight,Code.isCreation,Code.isGuard,Code.isCaller,Code.frames,Code.isFrame,guardIds]
theorem Jrr {A:Around}{C:Addr}{us:List Value}{kw:List (Str×Value)}:(A.under (.builtin "type.__call__" ⟨.ref C::us,kw⟩)).units=A.units+1:=by
 first|rfl|simp[Around.under,Code.cUnits,Code.frames,Code.isFrame]
theorem Room.make {k:Nat}{A:Around}(r:Room (k+1) A) (C:Addr) (us:List Value) (kw:List (Str×Value)):Room k (A.under (.builtin "type.__call__" ⟨.ref C::us,kw⟩)) :=
 ⟨r.hd,by have:=r.dp;rw[Jrq];omega,by have:=r.un;rw[Jrr];omega⟩
theorem Room.depth {k:Nat}{A:Around}(r:Room k A):A.depth<recursionLimit:=by have:=r.dp;omega
theorem Room.units {k:Nat}{A:Around}(r:Room k A):A.units+64<cLine:=by have:=r.un;omega
section
variable {X:Cx}{e:Expr}{es:List Expr}{te:TE}{t:TA}{pos:Pos}
end
noncomputable abbrev Sp:=List V->Hp->VK->XK->Prop
noncomputable abbrev CXT:=List Env->Hp->Shared->XK->Value->Shared->Prop
structure Env0 (P:Program) (w:World) (K:W.Frag) (mg:Str->Option Value) (base:Heap) (A:Around) (outer:List Env) (s:Shared) (H:Hp):Prop where
 frames:A.frames=some outer
 mod:Mod K mg base
 bs:∀b o,base.get? b=some o->s.heap.get? b=some o/\H b=none
 bsz:base.objs.size<=s.heap.objs.size
 funs:s.heap.FunFrames base outer
 frf:∀b∈frs outer,H b=none
 hok:HOk P w H s.heap
 bare:AllBare s.gens
noncomputable def CE (outer:List Env) (P:Program) (w:World) (H:Hp) (s:Shared) (Q:VK) (u:Value) (s':Shared):Prop :=
 ∃v H',s'.os=s.os/\AllBare s'.gens/\Un (frs outer) [] H H' s.heap s'.heap/\HOk P w H' s'.heap/\RelV v u/\Q v H'
noncomputable def CR (CX:CXT) (outer:List Env) (P:Program) (w:World) (H:Hp) (s:Shared) (Q:VK) (E:XK) (r:Result) (s':Shared):Prop :=
 match r with
 | .ok (.ret u)=>CE outer P w H s Q u s'
 | .ok _=>False
 | .error e=>CX outer H s E e s'
structure FnOk (P:Program) (w:World) (K:W.Frag) (mg:Str->Option Value) (base:Heap) (CX:CXT) (k:Nat) (f:Addr) (fd:FuncData) (ps:List Str) (sp:Sp):Prop where
 len:∀vs H Q E,sp vs H Q E->vs.length=ps.length
 run:∀(A:Around) (outer:List Env) (s:Shared) (H:Hp) (args:Args) (us:List Value) (vs:List V) (Q:VK) (E:XK),Room k A->Env0 P w K mg base A outer s H->BindsTo s fd args (ps.zip us)->Vals vs us->sp vs H Q E ->
  codeAny (model P w) A (.call (.ref f) args) (CR CX outer P w H s Q E) s
theorem FnOk.mono {P:Program}{w:World}{K:W.Frag}{mg:Str->Option Value}{base:Heap}{CX:CXT}{j k:Nat}{f:Addr}{fd:FuncData}{ps:List Str}{sp:Sp}(F:FnOk P w K mg base CX j f fd ps sp) (h:j<=k) :
  FnOk P w K mg base CX k f fd ps sp:=⟨F.len,λ A outer s H args us vs Q E hr=>F.run A outer s H args us vs Q E (hr.mono h)⟩
theorem FnOk.imp {P:Program}{w:World}{K:W.Frag}{mg:Str->Option Value}{base:Heap}{CX:CXT}{k:Nat}{f:Addr}{fd:FuncData}{ps:List Str}{sp sp':Sp}(F:FnOk P w K mg base CX k f fd ps sp)
  (h:∀vs H Q E,sp' vs H Q E->sp vs H Q E):FnOk P w K mg base CX k f fd ps sp' :=
 ⟨λ vs H Q E q=>F.len vs H Q E (h _ _ _ _ q),λ A outer s H args us vs Q E hr he hb hv hs=>F.run A outer s H args us vs Q E hr he hb hv (h _ _ _ _ hs)⟩
theorem Env0.make {P:Program}{w:World}{K:W.Frag}{mg:Str->Option Value}{base:Heap}{A:Around}{outer:List Env}{s:Shared}{H:Hp}(e:Env0 P w K mg base A outer s H) (C:Addr) (us:List Value) (kw:List (Str×Value)) :
  Env0 P w K mg base (A.under (.builtin "type.__call__" ⟨.ref C::us,kw⟩)) outer s H:=⟨by first|exact e.frames|(simpa [Around.under,Code.envs,Code.isFrame,pushEnvs] using e.frames),e.mod,e.bs,e.bsz,e.funs,e.frf,e.hok,e.bare⟩
theorem Env0.in1 {P:Program}{w:World}{K:W.Frag}{mg:Str->Option Value}{base:Heap}{A:Around}{outer:List Env}{s:Shared}{H:Hp}(e:Env0 P w K mg base A outer s H) :
  Env0 P w K mg base A.in1 outer s H:=⟨e.frames,e.mod,e.bs,e.bsz,e.funs,e.frf,e.hok,e.bare⟩
section
variable {X:Cx}{pins:List (Addr×Obj)}{σ:St}{H:Hp}{s s':Shared}
theorem Inv.env0 (I:Inv X pins σ H s):Env0 X.prog X.w X.K X.mg X.base X.A X.stack s H :=
 ⟨I.ok.frames,I.ok.mod,I.bs,Nat.le_trans I.ok.bsz I.sz,I.stack,I.stkFree,I.hok,I.bare⟩
theorem Inv.after {Q:VK}{u:Value}(I:Inv X pins σ H s) (h:CE X.stack X.prog X.w H s Q u s'):EP X pins σ Q u s':=by
 obtain⟨v,H',os,bare,un,hok,r,q⟩:=h
 obtain⟨hh,g,d,t,os'⟩:=s'
 obtain rfl:os'=s.os:=os
 exact⟨v,H',I.call (h':=hh) (g':=g) (d':=d) (t':=t) (ch:=[]) un hok bare (λ b z=>absurd z (by simp)),r,q⟩
end
noncomputable def Jfb (K:W.Frag) (fd:FuncData) (ps:List Str) (ds:List Value):Prop :=
 ∀(s:Shared) (us:List Value),K.In s.heap->(us++ds).length=ps.length->BindsTo s fd ⟨us,[]⟩ (ps.zip (us++ds))
theorem Jfb.all {K:W.Frag}{fd:FuncData}{ps:List Str}(h:∀us:List Value,us.length=ps.length->bindArgs fd ⟨us,[]⟩=pure (ps.zip us)):Jfb K fd ps []:=λ s us _ hl=>by
 rw[List.append_nil] at hl ⊢
 exact .of_eq (h us hl)
section
variable {X:Cx}{CX:CXT}{k:Nat}{f C:Addr}{fd:FuncData}{ps:List Str}{sp:Sp}{dvs:List V}{ds:List Value}{E:XK}{x m:Str}{p pos apos:Pos}{e o:Expr}{es:List Expr}{ta:TE}{t:TA}
structure Mk (K:W.Frag) (C f:Addr):Prop where
 makes:W.makesIn K C=true
 init:W.findIn K (.ref C) "__init__"=some (some (.ref f))
 fn:W.isFn K (.ref f)=true
 kp:W.keepIn K (.ref C)=true
end
section
variable {X:Cx}{CX:CXT}{k:Nat}{f C:Addr}{fd:FuncData}{ps ks:List Str}{sp:Sp}{E:XK}{x m:Str}{p pos apos kpos:Pos}{e o:Expr}{es:List Expr}{kws:List Keyword}{te ta:TE}{t tk:TA}{nm:Option Str}
structure KBinds (K:W.Frag) (fd:FuncData) (ps ks:List Str) (g:List Value->List Value->List Value) (gV:List V->List V->List V):Prop where
 to:∀(s:Shared) (us ws:List Value),K.In s.heap->(g us ws).length=ps.length->BindsTo s fd ⟨us,ks.zip ws⟩ (ps.zip (g us ws))
 rel:∀{vs:List V}{us:List Value}{zs:List V}{ws:List Value},Vals vs us->Vals zs ws->Vals (gV vs zs) (g us ws)
variable {g:List Value->List Value->List Value}{gV:List V->List V->List V}
end
structure FnScope (N P:List Str) (sc:Scope):Prop where
 kind:sc.kind=.function
 co:sc.isCoroutine=false
 gen:sc.isGenerator=false
 nd:N.Nodup
 pre:N.take P.length=P
 par:∀x∈P,sc.names.lookup x=some .local∨sc.names.lookup x=some .cell
 nofree:∀y∈sc.names,y.2≠.free
theorem Jma {kindOf:Str->Option NameKind}{x:Str}:∀{binds:List (Str×Value)}{m:Str->Option Value},(∀v,(x,v)∉binds)->bindL kindOf binds m x=m x
 | [],_,_=>rfl
 | (n,v)::r,m,h=>by
  unfold bindL
  rw[Jma λ w hw=>h w (List.mem_cons_of_mem _ hw)]
  split
  ·have:x≠n:=by rintro rfl;exact h v List.mem_cons_self
   simp[this]
  ·rfl
theorem Jl8 {kindOf:Str->Option NameKind}{x:Str}:∀{binds:List (Str×Value)}{m:Str->Option Value},(∀v,(x,v)∉binds)->bindC kindOf binds m x=m x
 | [],_,_=>rfl
 | (n,v)::r,m,h=>by
  unfold bindC
  rw[Jl8 λ w hw=>h w (List.mem_cons_of_mem _ hw)]
  split
  ·rfl
  ·have:x≠n:=by rintro rfl;exact h v List.mem_cons_self
   simp[this]
theorem Jl9 {kindOf:Str->Option NameKind}{x:Str}{v:Value}:∀{P:List Str}{vs:List Value}{i:Nat}{m:Str->Option Value},P.Nodup->P[i]?=some x->vs[i]?=some v->kindOf x=some .local ->
  bindL kindOf (P.zip vs) m x=some v
 | [],_,_,_,_,h,_,_=>by simp at h
 | _::_,[],_,_,_,_,h,_=>by simp at h
 | p::P,w::vs,0,m,nd,h1,h2,hk=>by
  simp at h1 h2;subst h1;subst h2
  show bindL kindOf ((p,w)::P.zip vs) m p=_
  unfold bindL
  rw[Jma λ v hv=>(List.nodup_cons.mp nd).1 (List.of_mem_zip hv).1,if_pos hk]
  simp
 | p::P,w::vs,i+1,m,nd,h1,h2,hk=>by
  show bindL kindOf ((p,w)::P.zip vs) m x=_
  unfold bindL
  exact Jl9 (i:=i) (List.nodup_cons.mp nd).2 (by simpa using h1) (by simpa using h2) hk
theorem Jl7 {kindOf:Str->Option NameKind}{x:Str}{v:Value}:∀{P:List Str}{vs:List Value}{i:Nat}{m:Str->Option Value},P.Nodup->P[i]?=some x->vs[i]?=some v->kindOf x≠some .local ->
  bindC kindOf (P.zip vs) m x=some v
 | [],_,_,_,_,h,_,_=>by simp at h
 | _::_,[],_,_,_,_,h,_=>by simp at h
 | p::P,w::vs,0,m,nd,h1,h2,hk=>by
  simp at h1 h2;subst h1;subst h2
  show bindC kindOf ((p,w)::P.zip vs) m p=_
  unfold bindC
  rw[Jl8 λ v hv=>(List.nodup_cons.mp nd).1 (List.of_mem_zip hv).1,if_neg hk]
  simp
 | p::P,w::vs,i+1,m,nd,h1,h2,hk=>by
  show bindC kindOf ((p,w)::P.zip vs) m x=_
  unfold bindC
  exact Jl7 (i:=i) (List.nodup_cons.mp nd).2 (by simpa using h1) (by simpa using h2) hk
noncomputable def start (N:List Str) (vs:List V):St:=vs.map some++List.replicate (N.length-vs.length) none
noncomputable def cxOf (CX:CXT) (P:Program) (w:World) (K:W.Frag) (mg:Str->Option Value) (base:Heap) (N:List Str) (qual:Str) (scope:Scope) (f:Addr) (cd:Value) (A:Around) (outer:List Env) (s:Shared) (H:Hp) (E:XK):Cx where
 prog:=P
 w:=w
 K:=K
 mg:=mg
 base:=base
 A:=A.deeper (envOfC qual scope s.heap.objs.size f cd)
 N:=N
 s₀:=s
 H₀:=H
 env:=envOfC qual scope s.heap.objs.size f cd
 outer:=outer
 stack:=envOfC qual scope s.heap.objs.size f cd::outer
 ex:=[]
 calm:=true
 fn:=λ _=>true
 pn:=[]
 xe:=λ e s'=>wpAny (model P w) (A.deeper (envOfC qual scope s.heap.objs.size f cd)) (leaving (envOfC qual scope s.heap.objs.size f cd) e) (λ _ s''=>CX outer H s E e s'') (λ e' s''=>CX outer H s E e' s'') s'
theorem Jp4 {sc:Scope}{n:Nat}{x:Str}(h:sc.names.lookup x=some .cell):∃c,(cellsFrom n sc.names []).lookup x=some c:=by
 have q:=W.cellsFrom_some sc.names n [] (.inl h)
 exact Option.isSome_iff_exists.mp q
theorem Jt6 {CX:CXT}{P:Program}{w:World}{K:W.Frag}{mg:Str->Option Value}{base:Heap}{N ps:List Str}{qual:Str}{scope:Scope}{f:Addr}{cd:Value}{A:Around}{outer:List Env}{s s1:Shared}{H:Hp}{E:XK}{us:List Value}{vs:List V}
  (S:FnScope N ps scope) (hd:A.handled=none) (e0:Env0 P w K mg base A outer s H) (hl:vs.length=ps.length) (r:Vals vs us)
  (x:InCallC s s.heap.objs.size (bindL (envOfC qual scope s.heap.objs.size f cd).kindOf (ps.zip us) λ _=>none) (cellsFrom (s.heap.objs.size+1) scope.names []) (bindC (envOfC qual scope s.heap.objs.size f cd).kindOf (ps.zip us) λ _=>none) s1) :
  Inv (cxOf CX P w K mg base N qual scope f cd A outer s H E) [] (start N vs) H s1:=by
 have hpl:ps.length<=N.length:=by have:=congrArg List.length S.pre;rw[List.length_take] at this;omega
 obtain⟨h1,tk,rfl,hk⟩:=x.done
 have noA:∀b:Addr,b∉(cxOf CX P w K mg base N qual scope f cd A outer s H E).ex:=λ b z=>absurd (show b∈([]:List Addr) from z) (by simp)
 refine⟨⟨e0.mod,S.kind,rfl,rfl,Nat.le_refl _,λ y z c h1 h2=>?_,λ y hy=>?_,λ y c _ h=>?_,λ _=>hd,Around.frames_deeper e0.frames,.inr ⟨rfl,rfl⟩,λ b z=>absurd z (noA b),e0.bs,e0.bsz,λ b _ _=>noA b,λ b z=>absurd z (noA b),e0.funs,e0.frf⟩,
  rfl,e0.bare,Un.kept hk,⟨_,x.toInCall.ns,λ i y v h1 h2 h3=>?_⟩,λ y c h=>⟨_,x.cell y c h⟩,e0.hok.fresh (Nat.le_refl _),λ y c h=>?_,λ p hp=>absurd (show p∈([]:List (Addr×Obj)) from hp) (by simp),e0.hok.kept hk,?_⟩
 ·exact name_of_addr x.apart (PySem.mem_of_lookup h1) (PySem.mem_of_lookup h2)
 ·have hy:scope.names.lookup y=some .cell∨scope.names.lookup y=some .free:=hy
  rcases hy with hy|hy
  ·exact Jp4 hy
  ·exact absurd rfl (S.nofree _ (PySem.mem_of_lookup hy))
 ·exact Nat.le_of_lt (x.above y c (PySem.mem_of_lookup h))
 ·have hi:i<vs.length:=by
   unfold start at h2
   by_cases hi:i<vs.length
   ·exact hi
   ·rw[List.getElem?_append_right (by simpa using hi)] at h2
    rw[List.getElem?_replicate] at h2
    split at h2<;>cases h2
  have ha:vs[i]?=some v:=by
   unfold start at h2
   rw[List.getElem?_append_left (by simpa using hi),List.getElem?_map] at h2
   cases e:vs[i]? with
   | none=>rw[e] at h2;cases h2
   | some a=>rw[e] at h2;cases h2;rfl
  obtain⟨u,hu,rv⟩:=r.get ha
  have hp:ps[i]?=some y:=by
   rw[<- S.pre,List.getElem?_take_of_lt (by omega)];exact h1
  have ndP:ps.Nodup:=by rw[<- S.pre];exact S.nd.sublist (List.take_sublist _ _)
  refine⟨u,rv,?_⟩
  rcases S.par y (List.mem_of_getElem? hp) with k|k
  ·exact .inl ⟨k,Jl9 ndP hp hu k⟩
  ·obtain⟨c,e⟩:=Jp4 (n:=s.heap.objs.size+1) k
   refine .inr ⟨.inl k,c,e,?_⟩
   have q:=x.cell y c e
   rw[Jl7 ndP hp hu (by show scope.names.lookup y≠_;rw[k];decide)] at q
   exact q
 ·exact e0.hok.fresh (Nat.le_of_lt (x.above y c (PySem.mem_of_lookup h)))
 ·unfold start
  show _=N.length
  rw[List.length_append,List.length_map,List.length_replicate]
  omega
theorem J28 {CX:CXT}{P:Program}{w:World}{K:W.Frag}{mg:Str->Option Value}{base:Heap}{k:Nat}{f:Addr}{name qual:Str}{params:Arguments}{body:List Stmt}{scope:Scope}{dV kV doc pm cdv ct oc:Value}{an od:Option Addr}
  {osl:Array (Option Value)}{N ps:List Str}{sp:Sp}(lk:K.lookup f=some ⟨oc,od,.func (W.fnOf name qual params body scope dV kV doc pm an cdv ct),osl⟩) (hcd:W.codeIn K cdv qual=true) (S:FnScope N ps scope)
  (len:∀vs H Q E,sp vs H Q E->vs.length=ps.length)
  (hbody:∀(A:Around) (outer:List Env) (s:Shared) (H:Hp) (vs:List V) (Q:VK) (E:XK),Room k (A.deeper (envOfC qual scope s.heap.objs.size f cdv))->sp vs H Q E ->
   ∃t,PSs (cxOf CX P w K mg base N qual scope f cdv A outer s H E) body t/\t { nx:=λ _ H'=>Q .non H',rt:=Q } (start N vs) H) :
  FnOk P w K mg base CX (k+1) f (W.fnOf name qual params body scope dV kV doc pm an cdv ct) ps sp:=by
 refine⟨len,λ A outer s H args us vs Q E hr e0 hb r hsp=>?_⟩
 have hl:=len _ _ _ _ hsp
 have KX:K.In s.heap:=e0.mod.kin.keeps λ b o e=>(e0.bs b o e).1
 have lim:s.heap.NoLimit:=e0.mod.nolimit.keeps λ b o e=>(e0.bs b o e).1
 have hkind:∀y∈ps.zip us,scope.names.lookup y.1=some .local∨(scope.names.lookup y.1=some .cell/\((cellsFrom (s.heap.objs.size+1) scope.names []).lookup y.1).isSome=true):=λ ⟨n,v⟩ hy=>by
  rcases S.par n (List.of_mem_zip hy).1 with q|q
  ·exact .inl q
  ·exact .inr ⟨q,W.cellsFrom_some _ _ _ (.inl q)⟩
 refine codeAny_call_function hr.depth (KX _ _ lk) rfl S.co S.gen rfl (W.codeRec_of KX hcd) (hb _ _ _ _ ?_)
 refine wpAny_newFunctionEnv_cells S.kind hkind λ env he s1 x=>?_
 subst he
 refine⟨lim.keeps x.toInCall.keep,codeAny_func ?_⟩
 obtain⟨t,ht,hq⟩:=hbody A outer s H vs Q E (hr.deeper _) hsp
 have I:Inv (cxOf CX P w K mg base N qual scope f cdv A outer s H E) [] (start N vs) H s1:=Jt6 S hr.hd e0 hl r x
 refine wpAny_mono (ht [] s1 (start N vs) H _ I hq) (λ fl s' hs=>?_) λ e s' hs=>hs
 have fin:∀{σ':St}{H':Hp}{v:V}{u:Value},Inv (cxOf CX P w K mg base N qual scope f cdv A outer s H E) [] σ' H' s'->RelV v u->Q v H'->CE outer P w H s Q u s' :=
  λ {σ' H' v u} J rv q=>⟨v,H',J.os,J.bare,J.base,J.hok,rv,q⟩
 cases fl with
 | ret u =>
  obtain⟨v,σ',H',J,rv,q⟩:=hs
  exact fin J rv q
 | next =>
  obtain⟨σ',H',J,q⟩:=hs
  exact fin (v:=V.non) (u:=Value.none) J rfl q
 | brk =>
  obtain⟨_,_,_,q⟩:=hs
  exact False.elim q
 | cont =>
  obtain⟨_,_,_,q⟩:=hs
  exact False.elim q
section
variable {X:Cx}{x:Str}{p pos:Pos}{e:Expr}{es:List Expr}{t:TA}{id T:String}{r:List V->Hp->VK->Prop}
end
end L2
namespace HT
open PySem PyProof.Rows
section
open PySem.SeqAt
open PySem.AutoSeq1 (wpAny_loadPart')
open PySem.MeetsSeq PySem.MeetsSeq2 PySem.MeetsSeq3
end
section
variable {prog:Program}{w:World}{A:Around}{E:Value->Shared->Prop}{s:Shared}
noncomputable def sIx (n d:Nat):Option Int->Nat
 | none=>d
 | some v=>if v<0 then(v+(n:Int)).toNat else min v.toNat n
theorem sIx_none (n d:Nat):sIx n d none=d:=rfl
theorem sIx_nat (n d k:Nat):sIx n d (some (k:Int))=min k n:=by
 show(if (k:Int)<0 then((k:Int)+(n:Int)).toNat else min (k:Int).toNat n)=min k n
 rw[if_neg (by omega),Int.toNat_natCast]
end
end HT
namespace L2
open PySem PySem.Spec PyProof.Rows
noncomputable abbrev TO:=St->Hp->(Option Int->Hp->Prop)->Prop
section
variable {X:Cx}{e:Expr}{te:TE}{lo hi:Option Expr}{tl th:TO}{pos p2:Pos}
noncomputable def SlR (X:Cx) (r:V->Option Int->Option Int->Hp->VK->Prop):Prop :=
 ∀(pins:List (Addr×Obj)) (s:Shared) (σ:St) (H:Hp) (x:V) (v vl vu:Value) (lo hi:Option Int) (sl:Addr) (Q:VK),Inv X pins σ H s->RelV x v->s.heap.IsSliceOf sl vl vu .none->IsPart vl lo->IsPart vu hi->r x lo hi H Q ->
  ∃T id,typeLookup (.type T) "__getitem__"=pure (some (.builtin id))/\s.TypeIs v T/\wpAny (model X.prog X.w) X.A (getItem v (.ref sl)) (EP X pins σ Q) X.xe s
noncomputable def cutV (xs:List V) (lo hi:Option Int):List V:=(xs.drop (HT.sIx xs.length 0 lo)).take (HT.sIx xs.length xs.length hi-HT.sIx xs.length 0 lo)
theorem Jos (xs:List V) (lo hi:Option Int):(cutV xs lo hi).length<=xs.length:=by
 unfold cutV
 rw[List.length_take,List.length_drop]
 omega
end
noncomputable def ixN (n:Nat) (i:Int):Option Nat:=if 0<=i then(if i<n then some i.toNat else none) else if -(n:Int)<=i then some (i+n).toNat else none
noncomputable def atI {α:Type}(xs:List α) (i:Int):Option α:=(ixN xs.length i).bind λ j=>xs[j]?
theorem J0v {n:Nat}{i:Int}{j:Nat}(h:ixN n i=some j):seqIndex? i n=some j/\j<n/\ -(n:Int)<=i/\i<n:=by
 unfold ixN at h
 by_cases h0:0<=i
 ·rw[if_pos h0] at h
  by_cases h1:i<n
  ·rw[if_pos h1] at h
   have e:i.toNat=j:=Option.some.inj h
   exact⟨by rw[seqIndex_of h0 h1,e],by omega,by omega,h1⟩
  ·rw[if_neg h1] at h;cases h
 ·rw[if_neg h0] at h
  by_cases h1: -(n:Int)<=i
  ·rw[if_pos h1] at h
   have e:(i+n).toNat=j:=Option.some.inj h
   exact⟨by rw[seqIndex_neg (by omega) h1,e],by omega,h1,by omega⟩
  ·rw[if_neg h1] at h;cases h
theorem Joh {α:Type}{xs:List α}{i:Int}{v:α}(h:atI xs i=some v):∃j,seqIndex? i xs.length=some j/\xs[j]?=some v/\j<xs.length/\ -(xs.length:Int)<=i/\i<xs.length:=by
 unfold atI at h
 cases e:ixN xs.length i with
 | none=>rw[e] at h;cases h
 | some j =>
  rw[e] at h
  obtain⟨h1,h2,h3,h4⟩:=J0v e
  exact⟨j,h1,h,h2,h3,h4⟩
noncomputable def Jsp (b:Expr):Prop:=∀o i,subscripted b false o i=operate [o,i] (getItem o i)
noncomputable def IxR (X:Cx) (r:R2):Prop :=
 ∀(value slice:Expr) (pins:List (Addr×Obj)) (s:Shared) (σ:St) (H:Hp) (x y:V) (v u:Value) (Q:VK),Inv X pins σ H s->RelV x v->RelV y u->r x y H Q ->
  subscripted slice false v u=operate [v,u] (getItem v u)->wpAny (model X.prog X.w) X.A (subscriptTail value slice v u) (EP X pins σ Q) X.xe s
section
variable {X:Cx}{a b:Expr}{ta tb:TE}{pos:Pos}
noncomputable def rIxL (K:W.Frag):R2:=λ x y H Q=>∃p xs i v,x=.ref p/\y=.int i/\SqL K H p xs/\atI xs i=some v/\Q v H
noncomputable def rIxT (K:W.Frag):R2:=λ x y H Q=>∃p xs i v,x=.ref p/\y=.int i/\SqT K H p xs/\atI xs i=some v/\Q v H
noncomputable def rIxS:R2:=λ x y H Q=>∃z i c,x=.str z/\y=.int i/\z.length<=sizeLine/\atI z.cps.toList i=some c/\Q (.str ⟨#[c]⟩) H
theorem Jua:IxR X (rIxL X.K):=by
 intro value slice pins s σ H x y v u Q I rx ry h hs
 obtain⟨p,xs,i,z,rfl,rfl,hq,he,q⟩:=h
 cases rx
 obtain⟨t,rfl⟩:=ry
 obtain⟨its,r,pl,hz⟩:=I.list hq
 obtain⟨j,h1,h2,h3,h4,h5⟩:=Joh he
 obtain⟨w,ew,rw'⟩:=r.get h2
 have hl:=r.length
 have hn:=Jm3
 have fin:EP X pins σ Q w s:=⟨z,H,I,rw',q⟩
 by_cases h0:0<=i
 ·have hj:i.toNat=j:=by
   rw[seqIndex_of h0 h5] at h1
   exact Option.some.inj h1
  exact item_listR pl.isList h0 (by omega) (by rw[hj];simpa using ew) fin hs
 ·have hj:(i+(its.toArray.size:Int)).toNat=j:=by
   rw[seqIndex_neg (by omega) h4] at h1
   rw[List.size_toArray,<-hl]
   exact Option.some.inj h1
  exact subscriptTail_builtinR (x:=w) pl.isList.typeIs slot_list_getitem.lookup
   (wpAny_getItem_list_neg (Q:=λ r s'=>r=w/\EP X pins σ Q r s') pl.isList (by omega) (by rw[List.size_toArray]<;>omega) (by omega) (by rw[hj];simpa using ew) ⟨rfl,fin⟩) hs
theorem J3z:IxR X (rIxT X.K):=by
 intro value slice pins s σ H x y v u Q I rx ry h hs
 obtain⟨p,xs,i,z,rfl,rfl,hq,he,q⟩:=h
 cases rx
 obtain⟨t,rfl⟩:=ry
 obtain⟨its,r,pl,hz⟩:=I.tuple hq
 obtain⟨j,h1,h2,h3,h4,h5⟩:=Joh he
 obtain⟨w,ew,rw'⟩:=r.get h2
 have hl:=r.length
 have hn:=Jm3
 have fin:EP X pins σ Q w s:=⟨z,H,I,rw',q⟩
 exact subscriptTail_builtinR (x:=w) pl.typeIs slot_tuple_getitem.lookup
  (getItem_tuple (j:=j) (Q:=λ r s'=>r=w/\EP X pins σ Q r s') pl (by omega) (by omega) (by rw[List.size_toArray,<-hl];exact h1) (by simpa using ew) ⟨rfl,fin⟩) hs
theorem J3y:IxR X rIxS:=by
 intro value slice pins s σ H x y v u Q I rx ry h hs
 obtain⟨z,i,c,rfl,rfl,hz,he,q⟩:=h
 obtain⟨t,rfl⟩:=rx
 obtain⟨t',rfl⟩:=ry
 obtain⟨j,h1,h2,h3,h4,h5⟩:=Joh he
 have hl:z.cps.toList.length=z.length:=by simp[Str.length]
 rw[hl] at h1 h4 h5
 have hn:=Jm3
 exact tail_any (typeIs_str s z t) slot_str_getitem.lookup (getItem_str (c:=c) (by
  have e1:decide (i< -(2^63:Int))=false:=decide_eq_false (by omega)
  have e2:decide (i ≥ 2^63)=false:=decide_eq_false (by omega)
  rw[e1,e2,Bool.or_false]) (by rw[h1];simpa using h2) ⟨.str ⟨#[c]⟩,H,I.tok _,⟨_,rfl⟩,q⟩) hs
theorem Inv.lst {pins:List (Addr×Obj)}{σ:St}{H:Hp}{s:Shared}{p:Addr}{xs:List V}(I:Inv X pins σ H s) (h:H p=some (.lst xs)) :
  ∃(its:List Value) (n:Nat),Vals xs its/\s.heap.get? p=some { cls:=.type "list",data:=.seq its.toArray n }/\xs.length<=sizeLine:=by
 obtain⟨z,its,n,r,e⟩:=I.hok p _ h
 exact⟨its,n,r,e,z⟩
theorem Jnz (lo hi:Option Int) (n:Nat):(sliceBounds lo hi none n).1=((HT.sIx n 0 lo:Nat):Int)/\(sliceBounds lo hi none n).2.1=((HT.sIx n n hi:Nat):Int)/\(sliceBounds lo hi none n).2.2=1:=by
 refine⟨?_,?_,rfl⟩
 ·cases lo with
  | none=>simp[sliceBounds,HT.sIx]
  | some i =>
   simp only[sliceBounds,HT.sIx,Option.getD_none,show(1:Int)>0 by decide,if_true]
   by_cases h:i<0
   ·simp only[h,if_true]<;>omega
   ·simp only[h,if_false]<;>omega
 ·cases hi with
  | none=>simp[sliceBounds,HT.sIx]
  | some i =>
   simp only[sliceBounds,HT.sIx,Option.getD_none,show(1:Int)>0 by decide,if_true]
   by_cases h:i<0
   ·simp only[h,if_true]<;>omega
   ·simp only[h,if_false]<;>omega
theorem Jlq (its:List Value) (lo hi:Option Int):slicePick its.toArray lo hi none=((its.drop (HT.sIx its.length 0 lo)).take (HT.sIx its.length its.length hi-HT.sIx its.length 0 lo)).toArray:=by
 obtain⟨h1,h2,h3⟩:=Jnz lo hi its.toArray.size
 unfold slicePick
 rw[h1,h2,h3]
 simp only[sliceRange_one,pick_run,List.size_toArray]<;>rfl
noncomputable def rSlL (K:W.Frag):V->Option Int->Option Int->Hp->VK->Prop:=λ x lo hi H Q=>∃a xs,x=.ref a/\SqL K H a xs/\∀p,H p=none->Q (.ref p) (upd H p (.lst (cutV xs lo hi)))
theorem Ju4:SlR X (rSlL X.K):=by
 intro pins s σ H x v vl vu lo hi sl Q I rx hs pl pu h
 obtain⟨a,xs,rfl,hx,q⟩:=h
 cases rx
 obtain⟨its,r,ht,hz⟩:=I.list hx
 have hlen:=r.length
 refine⟨"list",_,slot_list_getitem.lookup,ht.isList.typeIs,?_⟩
 refine wpAny_getItem_list_slice ht.isList hs pl pu .none (by simp) ?_ (by rw[List.size_toArray]<;>omega)
 rw[Jlq,<-hlen]
 refine⟨.ref s.heap.objs.size,_,I.laid (t':=s.toks) (o:=.lst (cutV xs lo hi)) (λ b ob q=>Heap.get?_push_of_some _ q) (Nat.le_refl _) ?_,rfl,q _ (I.hok.fresh (Nat.le_refl _))⟩
 exact⟨Nat.le_trans (Jos xs lo hi) hz,_,0,(r.drop (HT.sIx xs.length 0 lo)).take (HT.sIx xs.length xs.length hi-HT.sIx xs.length 0 lo),Heap.get?_push_size _ rfl⟩
theorem Jd7:Jsn X (.type "list") (λ xs H Q=>∃p ys,xs=[.ref p]/\(SqL X.K H p ys∨SqT X.K H p ys)/\∀l,H l=none->Q (.ref l) (upd H l (.lst ys))):=by
 intro pins s σ H xs us Q I r h
 obtain⟨p,ys,rfl,hq,q⟩:=h
 obtain⟨u,rfl,rx⟩:=Jn9 r
 cases rx
 have fin:∀(its:List Value),Vals ys its->ys.length<=sizeLine->∀(h':Heap) (c':Nat),(∀b o',s.heap.get? b=some o'->h'.get? b=some o') ->
   h'.get? s.heap.objs.size=some { cls:=.type "list",dict:=none,data:=.seq its.toArray c',slots:=#[] }->EP X pins σ Q (.ref s.heap.objs.size) { s with heap:=h' }:=λ its r' hz h' c' kp e =>
  ⟨.ref s.heap.objs.size,_,I.laid (t':=s.toks) kp (Nat.le_refl _) (show Jbg X.prog X.w _ h' _ (.lst ys) from⟨hz,its,c',r',e⟩),rfl,q _ (I.hok.fresh (Nat.le_refl _))⟩
 rcases hq with hq|hq
 ·obtain⟨its,r',pl,hz⟩:=I.list hq
  have hlen:=r'.length
  obtain⟨o,ho,hc,n,hd⟩:=pl.isList
  exact call_list_seq p (.inl rfl) ho hc hd (λ h' c' kp e=>fin its r' hz h' c' kp e) (by simp only[List.size_toArray]<;>omega)
 ·obtain⟨its,r',pl,hz⟩:=I.tuple hq
  have hlen:=r'.length
  obtain⟨o,ho,hc,n,hd⟩:=pl
  exact call_list_seq p (.inr rfl) ho hc hd (λ h' c' kp e=>fin its r' hz h' c' kp e) (by simp only[List.size_toArray]<;>omega)
theorem Jgh:Jsn X (.type "tuple") (λ xs H Q=>∃p ys,xs=[.ref p]/\((SqL X.K H p ys/\∀l,H l=none->Q (.ref l) (upd H l (.tup ys)))∨(SqT X.K H p ys/\Q (.ref p) H))):=by
 intro pins s σ H xs us Q I r h
 obtain⟨p,ys,rfl,h⟩:=h
 obtain⟨u,rfl,rx⟩:=Jn9 r
 cases rx
 rcases h with⟨hq,q⟩|⟨hq,q⟩
 ·obtain⟨its,r',pl,hz⟩:=I.list hq
  have hlen:=r'.length
  refine call_tuple_list pl.isList (λ h' kp=>?_) (by simp only[List.size_toArray]<;>omega)
  have I1:Inv X pins σ H { s with heap:=h' }:=I.kept (t':=s.toks) kp
  have I2:Inv X pins σ (upd H h'.objs.size (.tup ys)) { s with heap:=h'.push { cls:=.type "tuple",data:=.seq its.toArray } } :=
   I1.laid (t':=s.toks) (λ b o e=>Heap.get?_push_of_some _ e) (Nat.le_refl _) (show Jbg X.prog X.w _ _ _ (.tup ys) from⟨hz,its,r',IsTup.new _ _⟩)
  exact⟨.ref h'.objs.size,_,I2,rfl,q _ (I1.hok.fresh (Nat.le_refl _))⟩
 ·obtain⟨its,r',pl,hz⟩:=I.tuple hq
  exact call_tuple_same pl ⟨.ref p,H,I,rfl,q⟩
noncomputable def tyV (K:W.Frag) (T:String) (x:V) (H:Hp):Prop:=match x with
 | .str _=>T="str"
 | .int _=>T="int"
 | .ref p=>(T="list"/\∃xs,SqL K H p xs)∨(T="tuple"/\∃o,K.lookup p=some o/\o.cls=.type "tuple"/\o.dict=none) ∨
   (T="dict"/\((∃kvs,H p=some (.dK kvs))∨∃kvs,H p=some (.dT kvs)))∨(T="set"/\∃S n,H p=some (.set S n))
 | _=>False
theorem Jzs {pins:List (Addr×Obj)}{σ:St}{H:Hp}{s:Shared}{T:String}{x:V}{v:Value}(I:Inv X pins σ H s) (r:RelV x v) (ty:tyV X.K T x H) :
  s.TypeIs v T/\∀a,v=.ref a->∃ob,s.heap.get? a=some ob/\ob.dict=none:=by
 cases x with
 | str z =>
  obtain⟨t,rfl⟩:=r
  cases (show T="str" from ty)
  exact⟨typeIs_str s z t,λ _ e=>nomatch e⟩
 | int i =>
  obtain⟨t,rfl⟩:=r
  cases (show T="int" from ty)
  exact⟨typeIs_int s i t,λ _ e=>nomatch e⟩
 | ref p =>
  cases r
  rcases ty with⟨rfl,xs,hq⟩|⟨rfl,o,hk,hc,hd⟩|⟨rfl,hk⟩|⟨rfl,S,n,hk⟩
  ·obtain⟨its,_,pl,_⟩:=I.list hq
   refine⟨pl.isList.typeIs,λ a e=>?_⟩
   cases e
   obtain⟨o,n,e,c,hd,_⟩:=pl
   exact⟨o,e,hd⟩
  ·refine⟨⟨o,I.kIn p o hk,hc⟩,λ a e=>?_⟩
   cases e
   exact⟨o,I.kIn _ o hk,hd⟩
  ·have z:∃o,s.heap.get? p=some o/\o.ExactDict:=by
    rcases hk with⟨kvs,hk⟩|⟨kvs,hk⟩
    ·obtain⟨_,_,_,_,o,_,_,e,ex,_⟩:=I.hok p _ hk
     exact⟨o,e,ex⟩
    ·obtain⟨_,_,_,_,o,_,_,e,ex,_⟩:=I.hok p _ hk
     exact⟨o,e,ex⟩
   obtain⟨o,e,ex⟩:=z
   refine⟨⟨o,e,ex.1⟩,λ a e2=>?_⟩
   cases e2
   exact⟨o,e,ex.2.1⟩
  ·obtain⟨o,_,_,_,e,ex,_⟩:=I.hok p _ hk
   refine⟨⟨o,e,ex.1⟩,λ a e2=>?_⟩
   cases e2
   exact⟨o,e,ex.2.1⟩
 | _=>exact False.elim ty
variable {o e:Expr}{es:List Expr}{to:TE}{t:TA}{name:Str}{apos cpos:Pos}{T id:String}{r:V->List V->Hp->VK->Prop}
end
noncomputable def MtM (X:Cx) (id:String) (r:V->List V->Hp->VK->Prop):Prop :=
 ∀(pins:List (Addr×Obj)) (s:Shared) (σ:St) (H:Hp) (x:V) (xs:List V) (v:Value) (us:List Value) (Q:VK),Inv X pins σ H s->RelV x v->Vals xs us->r x xs H Q ->
  wpAny (model X.prog X.w) X.A (call (.builtin id) (v::us)) (EP X pins σ Q) X.xe s
theorem Vals.one:∀{x:V}{us:List Value},Vals [x] us->∃u,us=[u]/\RelV x u
 | _,_,.cons r .nil=>⟨_,rfl,r⟩
theorem Vals.two:∀{x y:V}{us:List Value},Vals [x,y] us->∃u v,us=[u,v]/\RelV x u/\RelV y v
 | _,_,_,.cons r (.cons q .nil)=>⟨_,_,rfl,r,q⟩
theorem Vals.zero:∀{us:List Value},Vals [] us->us=[]
 | _,.nil=>rfl
theorem Vals.eraseIdx:∀{xs:List V}{us:List Value}(i:Nat),Vals xs us->Vals (xs.eraseIdx i) (us.eraseIdx i)
 | _,_,_,.nil=>.nil
 | _,_,0,.cons _ t=>t
 | _,_,i+1,.cons r t=>.cons r (Vals.eraseIdx i t)
theorem Vals.reverse {xs:List V}{us:List Value}(h:Vals xs us):Vals xs.reverse us.reverse:=by
 induction h with
 | nil=>exact .nil
 | cons r t ih=>rw[List.reverse_cons,List.reverse_cons];exact Vals.append ih (.cons r .nil)
theorem Vals.rep {xs:List V}{us:List Value}(h:Vals xs us):∀k:Nat,Vals (List.replicate k xs).flatten (List.replicate k us).flatten
 | 0=>.nil
 | k+1=>by
  rw[List.replicate_succ,List.replicate_succ,List.flatten_cons,List.flatten_cons]
  exact Vals.append h (Vals.rep h k)
theorem Jmo (its:List Value):∀(k:Nat) (acc:List Value),
  List.foldl (λ x1 x2=>x1++x2) acc.toArray (List.replicate k its.toArray)=(acc++(List.replicate k its).flatten).toArray
 | 0,acc=>by simp
 | k+1,acc=>by
  have e:acc.toArray++its.toArray=(acc++its).toArray:=by simp
  have e2:(acc++its)++(List.replicate k its).flatten=acc++(List.replicate (k+1) its).flatten:=by
   rw[List.replicate_succ,List.flatten_cons,List.append_assoc]
  rw[<- e2,<-Jmo its k (acc++its),<-e,List.replicate_succ,List.foldl_cons]
section
variable {X:Cx}{pins:List (Addr×Obj)}{σ:St}{H:Hp}{s:Shared}{l b:Addr}{xs ys zs:List V}
theorem Inv.lset {its its':List Value}{n:Nat}{f:Array Value->Array Value}{t':Nat}(I:Inv X pins σ H s) (hH:H l=some (.lst xs))
  (e:s.heap.get? l=some { cls:=.type "list",data:=.seq its.toArray n }) (hf:f its.toArray=its'.toArray) (hv:Vals ys its') (hz:ys.length<=sizeLine) :
  Inv X pins σ (upd H l (.lst ys)) { s with heap:=s.heap.update l (Obj.mapSeq f),toks:=t' }:=by
 have q:=PySem.IsL.update e f
 rw[hf] at q
 refine I.write (x:=l) (e:=l) (by rw[hH];exact trivial) (.inl rfl) (λ b' u hb hu=>(Heap.get?_update_other s.heap (Obj.mapSeq f) (Ne.symm hb)).trans hu) ⟨_,q⟩ ?_
 exact⟨hz,its',_,hv,q⟩
theorem Inv.lnew {its:List Value}{t':Nat}(I:Inv X pins σ H s) (hv:Vals ys its) (hz:ys.length<=sizeLine) :
  Inv X pins σ (upd H s.heap.objs.size (.lst ys)) { s with heap:=s.heap.push { cls:=.type "list",data:=.seq its.toArray },toks:=t' } :=
 I.laid (λ _ _ q=>Heap.get?_push_of_some _ q) (Nat.le_refl _) ⟨hz,its,0,hv,Heap.get?_push_size _ rfl⟩
theorem Inv.fresh (I:Inv X pins σ H s):H s.heap.objs.size=none:=I.hok.fresh (Nat.le_refl _)
theorem Inv.lstM (I:Inv X pins σ H s) (hH:H l=some (.lst xs)):xs.length<=sizeLine/\∃(its:List Value) (n:Nat),Vals xs its/\xs.length=its.length/\s.heap.get? l=some { cls:=.type "list",data:=.seq its.toArray n }:=by
 obtain⟨z,its,n,r,e⟩:=I.hok l _ hH
 exact⟨z,its,n,r,r.length,e⟩
theorem Jqh {n:Nat}(h:n<=sizeLine):Builtin.List.listTooLong n=false:=by
 unfold Builtin.List.listTooLong
 exact decide_eq_false (by omega)
end
section
variable {X:Cx}
noncomputable def J1h:V->List V->Hp->VK->Prop:=λ x vs H Q=>∃l xs y,x=.ref l/\vs=[y]/\H l=some (.lst xs)/\xs.length<sizeLine/\Q .non (upd H l (.lst (xs++[y])))
theorem Jm6:MtM X "list.append" J1h:=by
 intro pins s σ H x vs v us Q I rx rv h
 obtain⟨l,xs,y,rfl,rfl,hH,hz,q⟩:=h
 cases rx
 obtain⟨u,rfl,ru⟩:=rv.one
 obtain⟨z,its,n,r,hl,e⟩:=I.lstM hH
 refine call_meets F.slot_list_append ⟨_,e,rfl⟩ F.entry_list_append (F.args_list_append_2 _ _) (PySem.list_append l its.toArray n u (by rw[List.size_toArray];omega)) ⟨e,?_⟩
 refine⟨.non,_,I.lset (its':=its++[u]) hH e (by simp) (r.append (.cons ru .nil)) ?_,rfl,q⟩
 rw[List.length_append,List.length_singleton]
 omega
noncomputable def J1i:V->List V->Hp->VK->Prop:=λ x vs H Q=>∃l b xs zs,x=.ref l/\vs=[.ref b]/\H l=some (.lst xs)/\H b=some (.lst zs)/\xs.length+zs.length<=sizeLine/\Q .non (upd H l (.lst (xs++zs)))
theorem Jun:MtM X "list.extend" J1i:=by
 intro pins s σ H x vs v us Q I rx rv h
 obtain⟨l,b,xs,zs,rfl,rfl,hH,hB,hz,q⟩:=h
 cases rx
 obtain⟨u,rfl,ru⟩:=rv.one
 cases ru
 obtain⟨z,its,n,r,hl,e⟩:=I.lstM hH
 obtain⟨z2,its2,n2,r2,hl2,e2⟩:=I.lstM hB
 have hsz:its.toArray.size+its2.toArray.size<=sizeLine:=by rw[List.size_toArray,List.size_toArray];omega
 have hlong:¬(!its.toArray.isEmpty&&Builtin.List.listTooLong (its.toArray.size+its2.toArray.size))=true:=by
  rw[Jqh hsz,Bool.and_false]
  exact Bool.false_ne_true
 refine call_meets F.slot_list_extend ⟨_,e,rfl⟩ F.entry_list_extend (F.args_list_extend_2 _ _)
  (AutoSeq1.list_extend_list_list_0 l its.toArray n b its2.toArray n2 hlong (by rw[List.size_toArray];omega) (by omega)) ⟨e,e2,?_⟩
 refine⟨.non,_,I.lset (its':=its++its2) hH e (by simp) (r.append r2) ?_,rfl,q⟩
 rw[List.length_append]
 omega
noncomputable def rCat:R2:=λ x y H Q=>∃l b xs zs,x=.ref l/\y=.ref b/\H l=some (.lst xs)/\H b=some (.lst zs)/\xs.length+zs.length<=sizeLine/\∀p,H p=none->Q (.ref p) (upd H p (.lst (xs++zs)))
theorem J4h:OpR X (binaryOp .Add) rCat:=by
 intro pins s σ H x y v u Q I rx ry h
 obtain⟨l,b,xs,zs,rfl,rfl,hH,hB,hz,q⟩:=h
 cases rx
 cases ry
 obtain⟨z,its,n,r,hl,e⟩:=I.lstM hH
 obtain⟨z2,its2,n2,r2,hl2,e2⟩:=I.lstM hB
 refine PySem.P.add_list e e2 ?_ (by rw[List.size_toArray,List.size_toArray];omega)
 have ea:its.toArray++its2.toArray=(its++its2).toArray:=by simp
 rw[ea]
 exact⟨.ref _,_,I.lnew (t':=s.toks) (r.append r2) (by rw[List.length_append];omega),rfl,q _ I.fresh⟩
noncomputable def rRep:R2:=λ x y H Q=>∃l k xs,x=.ref l/\y=.int k/\H l=some (.lst xs)/\ -(2^63)<=k/\k<2^63/\xs.length*k.toNat<=sizeLine /\
 ∀p,H p=none->Q (.ref p) (upd H p (.lst (List.replicate k.toNat xs).flatten))
theorem J0x {α:Type}(xs:List α) (k:Nat):(List.replicate k xs).flatten.length=k*xs.length:=by
 induction k with
 | zero=>simp
 | succ k ih=>rw[List.replicate_succ,List.flatten_cons,List.length_append,ih,Nat.succ_mul,Nat.add_comm]
theorem J4k:OpR X (binaryOp .Mult) rRep:=by
 intro pins s σ H x y v u Q I rx ry h
 obtain⟨l,k,xs,rfl,rfl,hH,h1,h2,hz,q⟩:=h
 cases rx
 obtain⟨t,rfl⟩:=ry
 obtain⟨z,its,n,r,hl,e⟩:=I.lstM hH
 have hlen:its.toArray.size*k.toNat<=sizeLine:=by rw[List.size_toArray,<-hl];exact hz
 have hcap:¬its.toArray.size*k.toNat>(2^63-1)/8:=by
  have:(sizeLine:Nat)<=(2^63-1)/8:=by decide
  omega
 have hfit:¬(!Builtin.List.listFitsIndex k)=true:=by
  rw[fitsIndex_both h1 h2]
  exact Bool.false_ne_true
 have hlong:¬Builtin.List.listTooLong (its.toArray.size*k.toNat)=true:=by
  rw[Jqh hlen]
  exact Bool.false_ne_true
 have hnew:List.foldl (λ x1 x2=>x1++x2) #[] (List.replicate (if its.toArray.isEmpty=true then 0 else k.toNat) its.toArray)=(List.replicate k.toNat its).flatten.toArray:=by
  have f0:∀m:Nat,List.foldl (λ x1 x2=>x1++x2) #[] (List.replicate m its.toArray)=(List.replicate m its).flatten.toArray:=λ m=>by
   have:=Jmo its m []
   rw[List.nil_append] at this
   exact this
  rw[f0]
  cases its with
  | nil=>simp
  | cons a r'=>rw[if_neg (by simp)]
 refine wpAny_binaryOp_repeat_ref (T:="list") (U:="int") (by decide) ⟨_,e,rfl⟩ (λ s'=>typeIs_int s' k t) noFill_list_mul F.fills_int_mul F.slot_int_rmul repeat_list F.slot_int_index.lookup
  (call_meets F.slot_int_rmul (typeIs_int s k t) F.entry_int_rmul (F.args_int_rmul_2 _ _) (int___rmul___int_list k t l its.toArray n)
   ⟨e,rfl,⟨_,e,rfl⟩,call_meets F.slot_list_mul ⟨_,e,rfl⟩ F.entry_list_mul (F.args_list_mul_2 _ _) (AutoListH.list___mul___list_int_3 l its.toArray n k t hfit hcap hlong) ⟨e,?_⟩⟩)
 rw[hnew]
 exact⟨.ref _,_,I.lnew (t':=s.toks) (r.rep k.toNat) (by rw[J0x,Nat.mul_comm];exact hz),rfl,q _ I.fresh⟩
end
section
variable {prog:Program}{w:World}{A:Around}{E:Value->Shared->Prop}{s:Shared}
end
section
variable {X:Cx}
end
section
variable {κ:Type}[DecidableEq κ]
noncomputable def valV (kvs:List (κ×V)) (k:κ):Option V:=(kvs.find? λ kv=>decide (kv.1=k)).map (·.2)
noncomputable def putK (kvs:List (κ×V)) (k:κ) (v:V):List (κ×V) :=
 if (kvs.any λ kv=>decide (kv.1=k))=true then kvs.map (λ kv=>if kv.1=k then(kv.1,v) else kv) else kvs++[(k,v)]
noncomputable def J25 (kvs:List (κ×V)) (k:κ):List (κ×V):=kvs.filter λ kv=>decide (kv.1≠k)
theorem Jim {p:κ×V}{r:List (κ×V)}{k:κ}(e:p.1=k):valV (p::r) k=some p.2:=by simp[valV,List.find?_cons,e]
theorem Jil {p:κ×V}{r:List (κ×V)}{k:κ}(e:¬p.1=k):valV (p::r) k=valV r k:=by simp[valV,List.find?_cons,e]
theorem Jik (k:κ):∀kvs:List (κ×V),(kvs.any λ kv=>decide (kv.1=k))=(valV kvs k).isSome
 | []=>rfl
 | p::r=>by
  rw[List.any_cons]
  by_cases e:p.1=k
  ·simp only[Jim e,decide_eq_true e,Bool.true_or,Option.isSome_some]
  ·rw[Jil e,decide_eq_false e,Bool.false_or];exact Jik k r
theorem Jlg {kvs:List (κ×V)}{k:κ}(v:V) (h:valV kvs k=none):putK kvs k v=kvs++[(k,v)]:=by
 unfold putK
 rw[Jik,h]
 exact if_neg (by decide)
theorem RelO.isSome_eq {o:Option V}{u:Option Value}(r:RelO o u):o.isSome=u.isSome:=by
 cases o with
 | none=>cases u with
  | none=>rfl
  | some _=>exact Zf r
 | some _=>cases u with
  | none=>exact Zf r
  | some _=>rfl
theorem RelO.getD {o:Option V}{u:Option Value}{d:V}{d':Value}(r:RelO o u) (rd:RelV d d'):RelV (o.getD d) (u.getD d'):=by
 cases o with
 | none=>cases u with
  | none=>exact rd
  | some _=>exact Zf r
 | some _=>cases u with
  | none=>exact Zf r
  | some _=>exact r
theorem KV.val {kvs:List (κ×V)}{vs:List (κ×Value)}(r:KV kvs vs) (k:κ):RelO (valV kvs k) (valueAt vs k):=by
 unfold KV at r
 induction r with
 | nil=>exact True.intro
 | @cons p q ps qs h t ih =>
  obtain⟨h1,h2⟩:=h
  by_cases e:p.1=k
  ·have e':q.1=k:=h1.symm.trans e
   have b:valueAt (q::qs) k=some q.2:=by simp[valueAt,List.find?_cons,e']
   rw[Jim e,b];exact h2
  ·have e':¬q.1=k:=λ z=>e (h1.trans z)
   have b:valueAt (q::qs) k=valueAt qs k:=by simp[valueAt,List.find?_cons,e']
   rw[Jil e,b];exact ih
theorem KV.any {kvs:List (κ×V)}{vs:List (κ×Value)}(r:KV kvs vs) (k:κ):(kvs.any λ kv=>decide (kv.1=k))=vs.any λ kv=>decide (kv.1=k):=by
 unfold KV at r
 induction r with
 | nil=>rfl
 | cons h t ih=>rw[List.any_cons,List.any_cons,ih,h.1]
theorem KV.repl {kvs:List (κ×V)}{vs:List (κ×Value)}(r:KV kvs vs) (k:κ){y:V}{u:Value}(ry:RelV y u) :
  KV (kvs.map λ kv=>if kv.1=k then(kv.1,y) else kv) (vs.map λ kv=>if kv.1=k then(kv.1,u) else kv):=by
 unfold KV at r ⊢
 induction r with
 | nil=>exact .nil
 | @cons p q ps qs h t ih =>
  rw[List.map_cons,List.map_cons]
  refine .cons ?_ ih
  obtain⟨h1,h2⟩:=h
  by_cases e:p.1=k
  ·rw[if_pos e,if_pos (h1.symm.trans e)];exact⟨h1,ry⟩
  ·rw[if_neg e,if_neg (λ z=>e (h1.trans z))];exact⟨h1,h2⟩
theorem KV.put {kvs:List (κ×V)}{vs:List (κ×Value)}(r:KV kvs vs) (k:κ){y:V}{u:Value}(ry:RelV y u):KV (putK kvs k y) (stored vs k u):=by
 unfold putK stored
 rw[r.any k]
 by_cases e:(vs.any λ kv=>decide (kv.1=k))=true
 ·rw[if_pos e,if_pos e];exact r.repl k ry
 ·rw[if_neg e,if_neg e];exact Paired.snoc r ⟨rfl,ry⟩
theorem KV.drop {kvs:List (κ×V)}{vs:List (κ×Value)}(r:KV kvs vs) (k:κ):KV (J25 kvs k) (without vs k):=by
 unfold KV at r ⊢
 unfold J25 without
 induction r with
 | nil=>exact .nil
 | @cons p q ps qs h t ih =>
  obtain⟨h1,h2⟩:=h
  rw[List.filter_cons,List.filter_cons]
  by_cases e:p.1=k
  ·have a:¬decide (p.1≠k)=true:=by simp[e]
   have b:¬decide (q.1≠k)=true:=by simp[h1.symm.trans e]
   rw[if_neg a,if_neg b];exact ih
  ·have e':¬q.1=k:=λ z=>e (h1.trans z)
   have a:decide (p.1≠k)=true:=by simp[e]
   have b:decide (q.1≠k)=true:=by simp[e']
   rw[if_pos a,if_pos b];exact .cons ⟨h1,h2⟩ ih
theorem KV.keys {kvs:List (κ×V)}{vs:List (κ×Value)}(r:KV kvs vs):kvs.map (·.1)=vs.map (·.1):=by
 unfold KV at r
 induction r with
 | nil=>rfl
 | cons h t ih=>rw[List.map_cons,List.map_cons,ih,h.1]
theorem KV.length {kvs:List (κ×V)}{vs:List (κ×Value)}(r:KV kvs vs):kvs.length=vs.length:=Paired.length r
end
theorem kV_is {P:Program}{w:World}{k:Key}{u:Value}(r:RelV (kV k) u):(Jb5 P w).is k u=true:=by
 cases k with
 | inl i=>obtain⟨t,e⟩:=(show ∃t,u=Value.int i t from r);subst e;exact Jo2 P w i t
 | inr x=>obtain⟨t,e⟩:=(show ∃t,u=Value.str x t from r);subst e;exact Jo3 P w x t
noncomputable abbrev KT (H:Hp):List (List Key×V)->List (List Key×Addr×Value)->Prop:=Paired λ p q=>p.1=q.1/\H q.2.1=some (.tup (p.1.map kV))/\RelV p.2 q.2.2
theorem KT.val {H:Hp}{kvs:List (List Key×V)}{xs:List (List Key×Addr×Value)}(r:KT H kvs xs) (k:List Key):RelO (valV kvs k) ((atKey xs k).map (·.2)):=by
 induction r with
 | nil=>exact True.intro
 | @cons p q ps qs h t ih =>
  obtain⟨h1,_,h2⟩:=h
  by_cases e:p.1=k
  ·have e':q.1=k:=h1.symm.trans e
   have b:atKey (q::qs) k=some q.2:=by simp[atKey,List.find?_cons,e']
   rw[Jim e,b];exact h2
  ·have e':¬q.1=k:=λ z=>e (h1.trans z)
   have b:atKey (q::qs) k=atKey qs k:=by simp[atKey,List.find?_cons,e']
   rw[Jil e,b];exact ih
theorem KT.repl {H:Hp}{kvs:List (List Key×V)}{xs:List (List Key×Addr×Value)}(r:KT H kvs xs) (k:List Key){y:V}{u:Value}(ry:RelV y u) :
  KT H (kvs.map λ kv=>if kv.1=k then(kv.1,y) else kv) (xs.map (putAt k u)):=by
 induction r with
 | nil=>exact .nil
 | @cons p q ps qs h t ih =>
  rw[List.map_cons,List.map_cons]
  refine .cons ?_ ih
  obtain⟨h1,h2,h3⟩:=h
  unfold putAt
  by_cases e:p.1=k
  ·rw[if_pos e,if_pos (h1.symm.trans e)];exact⟨h1,h2,ry⟩
  ·rw[if_neg e,if_neg (λ z=>e (h1.trans z))];exact⟨h1,h2,h3⟩
theorem KT.put {H:Hp}{kvs:List (List Key×V)}{xs:List (List Key×Addr×Value)}(r:KT H kvs xs) (k:List Key){b:Addr}{y:V}{u:Value}(hb:H b=some (.tup (k.map kV))) (ry:RelV y u) :
  KT H (putK kvs k y) (storedH xs k b u):=by
 have e:(kvs.any λ kv=>decide (kv.1=k))=(atKey xs k).isSome:=by
  rw[Jik,(r.val k).isSome_eq,Option.isSome_map]
 unfold putK storedH
 rw[e]
 by_cases q:(atKey xs k).isSome=true
 ·rw[if_pos q,if_pos q];exact r.repl k ry
 ·rw[if_neg q,if_neg q];exact Paired.snoc r ⟨rfl,hb,ry⟩
theorem KT.keeps {H H':Hp}{kvs:List (List Key×V)}{xs:List (List Key×Addr×Value)}(r:KT H kvs xs) (ht:∀b ys,H b=some (.tup ys)->H' b=some (.tup ys)):KT H' kvs xs :=
 Paired.mapP r λ _ _ z=>⟨z.1,ht _ _ z.2.1,z.2.2⟩
section
variable {P:Program}{w:World}{H:Hp}{h:Heap}{a:Addr}
theorem rd_of {u:HO}(ok:HOk P w H h) (e:Rd H a u):Jbg P w H h a u:=e.ok ok
theorem J24 {kvs:List (Key×V)}(ok:HOk P w H h) (e:Rd H a (.dK kvs)):kvs.length<=sizeLine/\(a==sysModules)=false/\∃vs,KV kvs vs/\h.DictOf (Jb5 P w) a vs :=
 show Jbg P w H h a (.dK kvs) from rd_of ok e
theorem dk_of {kvs:List (Key×V)}(ok:HOk P w H h) (e:H a=some (.dK kvs)):kvs.length<=sizeLine/\(a==sysModules)=false/\∃vs,KV kvs vs/\h.DictOf (Jb5 P w) a vs:=J24 ok (.inl e)
end
noncomputable def DGet (H:Hp) (a:Addr) (y:V) (r:Option V):Prop :=
 (∃kvs k,Rd H a (.dK kvs)/\y=kV k/\r=valV kvs k)∨∃kvs k b,Rd H a (.dT kvs)/\y=.ref b/\H b=some (.tup (k.map kV))/\r=valV kvs k
noncomputable def DPut (H:Hp) (a:Addr) (y v:V) (H':Hp):Prop :=
 (∃kvs k,H a=some (.dK kvs)/\y=kV k/\kvs.length<sizeLine/\H'=upd H a (.dK (putK kvs k v))) ∨
 ∃kvs k b,H a=some (.dT kvs)/\y=.ref b/\H b=some (.tup (k.map kV))/\kvs.length<sizeLine/\H'=upd H a (.dT (putK kvs k v))
theorem DGet.k {H:Hp}{a:Addr}{kvs:List (Key×V)}{k:Key}(e:H a=some (.dK kvs)):DGet H a (kV k) (valV kvs k):=.inl ⟨kvs,k,.inl e,rfl,rfl⟩
theorem DGet.t {H:Hp}{a b:Addr}{kvs:List (List Key×V)}{k:List Key}(e:H a=some (.dT kvs)) (eb:H b=some (.tup (k.map kV))):DGet H a (.ref b) (valV kvs k):=.inr ⟨kvs,k,b,.inl e,rfl,eb,rfl⟩
theorem DPut.k {H:Hp}{a:Addr}{kvs:List (Key×V)}{k:Key}{v:V}(e:H a=some (.dK kvs)) (hl:kvs.length<sizeLine):DPut H a (kV k) v (upd H a (.dK (putK kvs k v))):=.inl ⟨kvs,k,e,rfl,hl,rfl⟩
theorem DPut.t {H:Hp}{a b:Addr}{kvs:List (List Key×V)}{k:List Key}{v:V}(e:H a=some (.dT kvs)) (eb:H b=some (.tup (k.map kV))) (hl:kvs.length<sizeLine) :
  DPut H a (.ref b) v (upd H a (.dT (putK kvs k v))):=.inr ⟨kvs,k,b,e,rfl,eb,hl,rfl⟩
section
variable {X:Cx}{pins:List (Addr×Obj)}{σ:St}{H:Hp}{s:Shared}{a:Addr}{y v:V}{u r:Value}{o:Option V}{A:Around}{E:Value->Shared->Prop}
theorem Inv.big (I:Inv X pins σ H s):sysModules<s.heap.objs.size:=by
 have h:mainGlobals<s.heap.objs.size:=(I.mod.glob.keeps I.bk).lt
 exact Nat.lt_trans (by decide) h
theorem Jz9 {h':Heap}{t':Nat}{ob:HO}(I:Inv X pins σ H s) (mu:Mut (H a)) (hs:Heap.SameBut a s.heap h') (he:∃q,h'.get? a=some q) (new:Jbg X.prog X.w (upd H a ob) h' a ob) :
  Inv X pins σ (upd H a ob) { s with heap:=h',toks:=t' } :=
 I.write (x:=a) (e:=a) mu (.inl rfl) (λ b q hb z=>(hs.2 b hb).trans z) he new
theorem J23 {P:Program}{w:World}{H':Hp}{h':Heap}{kvs:List (Key×V)}{vs:List (Key×Value)}(z:kvs.length<=sizeLine) (hd:(a==sysModules)=false) (rel:KV kvs vs) (dd:h'.DictOf (Jb5 P w) a vs) :
  Jbg P w H' h' a (.dK kvs):=⟨z,hd,vs,rel,dd⟩
end
section
variable {X:Cx}{pins:List (Addr×Obj)}{σ:St}{H:Hp}{s:Shared}{a:Addr}{kvs:List (Key×V)}{k:Key}{u:Value}{A:Around}{E:Value->Shared->Prop}
theorem d_len {Q:Value->Shared->Prop}(I:Inv X pins σ H s) (e:Rd H a (.dK kvs)) (h:∀t s',Inv X pins σ H s'->Q (.int kvs.length t) s'):wpAny (model X.prog X.w) A (call (.builtin "len") [.ref a]) Q E s:=by
 obtain⟨z,hd,vs,rel,dd⟩:=J24 I.hok e
 refine call_len_dict hd dd (by rw[<- rel.length];rw[sizeLine_eq] at z;omega) ?_
 rw[<- rel.length]
 exact h _ _ (I.tok _)
end
section
variable {X:Cx}{o i e value:Expr}{pos pos' tpos:Pos}{td ty tv:TE}
end
theorem Jwq {P:Program}{w:World}{H:Hp}(h:Heap) (hb:sysModules<h.objs.size):Jbg P w H (h.push { cls:=.type "dict",data:=.dict #[] }) h.objs.size (.dK []) :=
 ⟨Nat.zero_le _,beq_eq_false_iff_ne.mpr (Ne.symm (Nat.ne_of_lt hb)),[],.nil,Heap.DictOf.new h⟩
section
variable {X:Cx}{pos:Pos}
end
noncomputable def J4a (kvs more:List (Key×V)):List (Key×V):=more.foldl (λ acc kv=>putK acc kv.1 kv.2) kvs
theorem KV.merge:∀{more:List (Key×V)}{rs:List (Key×Value)}{kvs:List (Key×V)}{vs:List (Key×Value)},KV more rs->KV kvs vs->KV (J4a kvs more) (merged vs rs):=by
 intro more rs kvs vs r
 unfold KV at r
 induction r generalizing kvs vs with
 | nil=>intro q;exact q
 | @cons p q ps qs h t ih =>
  intro r0
  have e:KV (putK kvs p.1 p.2) (stored vs q.1 q.2):=by
   have:=r0.put p.1 h.2
   rw[<- h.1];exact this
  exact ih e
structure M1 (X:Cx) (o:Expr) (m:Str) (apos:Pos) (e:Expr) (cpos:Pos):Prop where
 base:attributeBase o m X.env (eval o X.env)=eval o X.env
 few:((backTo cpos (starEach [e] X.env)).all (λ x=>!x.1)&&(backToKw cpos (keywordEach [] X.env)).all (λ x=>x.1.isSome)
  && decide (([e]:List Expr).length+([]:List Keyword).length+(if ([]:List Keyword).isEmpty then 0 else 1)<30))=true
 line:(apos.endLine==cpos.line)=true
 trees:backTo cpos (starEach [e] X.env)=[(false,eval e X.env)]
structure M2 (X:Cx) (o:Expr) (m:Str) (apos:Pos) (e f:Expr) (cpos:Pos):Prop where
 base:attributeBase o m X.env (eval o X.env)=eval o X.env
 few:((backTo cpos (starEach [e,f] X.env)).all (λ x=>!x.1)&&(backToKw cpos (keywordEach [] X.env)).all (λ x=>x.1.isSome)
  && decide (([e,f]:List Expr).length+([]:List Keyword).length+(if ([]:List Keyword).isEmpty then 0 else 1)<30))=true
 line:(apos.endLine==cpos.line)=true
 trees:backTo cpos (starEach [e,f] X.env)=[(false,eval e X.env),(false,eval f X.env)]
section
variable {X:Cx}{pins:List (Addr×Obj)}{σ:St}{H:Hp}{s:Shared}{a:Addr}{y d:V}{u r:Value}{o:Option V}{A:Around}{E:Value->Shared->Prop}
end
section
variable {X:Cx}{o e f:Expr}{apos cpos:Pos}{td ty tx:TE}
end
section
variable {X:Cx}{pins:List (Addr×Obj)}{σ:St}{H:Hp}{s:Shared}{a:Addr}{kvs:List (Key×V)}{A:Around}{E:Value->Shared->Prop}
end
end L2
namespace Att
open PySem PySem.W PySem.Calls PyProof.Rows
theorem Jjd {P:Params}{h:Heap}:∀(ns:List Int) (vs:List Value),WellAll P h vs (ns.map WData.int)->IntsAre vs ns:=by
 intro ns
 induction ns with
 | nil =>
  intro vs w
  rw[List.map_nil] at w
  cases w
  exact .nil
 | cons n ns ih =>
  intro vs w
  rw[List.map_cons] at w
  cases w with
  | cons a b =>
   cases a
   exact .cons _ _ (ih _ b)
theorem Ju0 {l:OpenLaw}{n:Nat}(hn:l.most=some n){P:Params}{h:Heap}{args:List WData}{vals:List Value}
  (hpre:l.row.toRowW.claim.pre args=true) (hwl:WellAll P h vals args) :
  ∃a vs ns,vals=[Value.ref a]/\args=[WData.list (ns.map WData.int)]/\h.get? a=some { cls:=.type "list",data:=.seq vs.toArray }/\IntsAre vs ns/\ns.length<=n:=by
 have hsh:WShape.hasAll [] args [.list .int]=true:=(pre_splitW hpre).1
 have hc:l.pre.holds [] { args:=args }=true:=(pre_splitW hpre).2
 obtain⟨d,r,rfl,h1,h2⟩:=hasAllW_cons hsh
 obtain rfl:=hasAllW_nil h2
 obtain⟨xs,rfl,h3⟩:=hasW_list h1
 obtain⟨ns,rfl⟩:=items_int h3
 have hlen:ns.length<=n:=by
  unfold OpenLaw.pre at hc
  have h4:(WTm.not (.lt (.lit (.int (n:Int))) (.len (.arg 0)))).holds [] { args:=[.list (ns.map .int)] }=true:=by
   have h4:=(holds_andW hc).1
   rw[hn] at h4
   exact h4
  have h5:=condW_of h4 (w_not (w_lt w_lit (w_len_list (w_arg rfl))))
  rw[List.length_map] at h5
  refine Nat.le_of_not_lt λ q=>?_
  have q':(n:Int)<((ns.length:Nat):Int):=by omega
  first
   | (rw[decide_eq_true q'] at h5;exact absurd h5 (by decide))
   | (simp at h5;omega)
 cases hwl with
 | cons w1 w2 =>
  cases w2
  cases w1 with
  | list ho hall=>exact⟨_,_,ns,rfl,rfl,ho,Jjd ns _ hall,hlen⟩
theorem Juu (l:OpenLaw) (args:List WData):l.row.toRowW.claim.post args (.bool true) args=true :=
 postW_of (r:=l.row.toRowW) (X:=(true==true))
  (show WShape.has [] (.bool true) .bool=true by first|rfl|decide|simp[WShape.has,WShape.arms,WShape.armsAll])
  (show(WTm.eq .res (.lit (.bool true))).value [] { args:=args,res:=some (.bool true),after:=args }=some (.bool (true==true)) from w_eq_bool (w_res rfl) w_lit) rfl
theorem attach_call {l:OpenLaw}{n:Nat}{q:Program}{loose:List Str}{XP:(Str->Option Value)->Heap->Prop}{YP:World->Heap->Prop}{d:DefRec}
  (hn:l.most=some n) (hdf:d.params.defaults=[])
  (call:∀(w:World) (s₀ s₁:Shared) (mg mb:Str->Option Value) (fa:Addr) (o:Obj) (pm cd doc:Value) (a:Addr) (vs:List Value) (ns:List Int),
   Ground q loose [] XP w s₀ mg mb s₁.heap->YP w s₁.heap ->
   s₁.heap.get? fa=some o->o.data=.func (docDef d.name d.params d.body d.scope pm cd doc)->s₁.heap.CodeRec cd d.name->mg d.name=some (.ref fa) ->
   s₁.heap.get? a=some { cls:=.type "list",data:=.seq vs.toArray }->IntsAre vs ns->ns.length<=n->s₁.gens=#[] ->
   codeAny (model l.prog w) callerA (.call (.ref fa) ⟨[.ref a],[]⟩) (λ r s'=>r=.ok (.ret (.bool true))/\OldK s₁.heap s'.heap/\s'.os=s₁.os/\AllBare s'.gens) s₁) :
  WalkO q loose XP YP l.row.toRowW d [] (λ f vs=>PySem.call f vs):=by
 intro w s₀ s₁ mg mb G Y fa o pm cd doc dV kV ho hd hcd hD hmg hg args vals as hpre hlay hrd hwl hlo
 obtain rfl:dV=.none:=Dflts.none hD hdf
 obtain rfl:kV=.none:=Dflts.noKw hD
 obtain⟨a,vs,ns,rfl,rfl,hobj,hints,hlen⟩:=Ju0 hn hpre hwl
 refine enter_call (codeAny_mono (call w s₀ s₁ mg mb fa o pm cd doc a vs ns G Y ho (fd_plain hd) hcd hmg hobj hints hlen hg) λ r s' hq=>?_)
 obtain⟨rfl,h2,h3,h4⟩:=hq
 exact⟨.inl ⟨.bool true,.bool true,[],rfl,λ _=>rfl,.bool true,Juu l _,λ _=>⟨List.Pairwise.nil,λ _ hm=>(nomatch hm)⟩⟩,h2,h3,h4⟩
section
variable {prog:Program}{w:World}{A:Around}{E:Value->Shared->Prop}{s:Shared}{K:Frag}
end
end Att
namespace L2
open PySem PySem.Spec PyProof.Rows
theorem Jel:∀{vs:List Value}{ns:List Int},IntsAre vs ns->Vals (ns.map V.int) vs
 | _,_,.nil=>.nil
 | _,_,.cons n t h=>.cons ⟨t,rfl⟩ (Jel h)
noncomputable def Only (H:Hp):Prop:=∀b,H b=none∨∃o xs,H b=some (.frz o (.lst xs))
theorem Jxh {P:Program}{w:World}{K:W.Frag}{mg mb:Str->Option Value}{CX:CXT}{k:Nat}{fa a:Addr}{fd:FuncData}{x:Str}{sp:Sp}{s₁:Shared}{vs:List Value}{ns:List Int}
  (KX:K.In s₁.heap) (hns:s₁.heap.Ns mainGlobals mg) (hb:s₁.heap.Ns builtinsNs mb) (hbb:∀x:Str,x≠"__name__"->mb x=bootBuiltins x) (hlim:s₁.heap.NoLimit) (hg:s₁.gens=#[])
  (ha:s₁.heap.get? a=some { cls:=.type "list",data:=.seq vs.toArray }) (hi:IntsAre vs ns) (hl:ns.length<=sizeLine) (hr:Room k callerA)
  (F:∀base:Heap,K.In base->base.Ns mainGlobals mg->FnOk P w K mg base CX k fa fd [x] sp) (hbind:∀(s:Shared) (u:Value),BindsTo s fd ⟨[u],[]⟩ [(x,u)])
  (hsp:∀H:Hp,Only H->SqL K H a (ns.map V.int)->sp [.ref a] H (λ v _=>v=.bl true) λ _ _ _=>False)
  (hCX:∀H e s',CX [] H s₁ (λ _ _ _=>False) e s'->False) :
  codeAny (model P w) callerA (.call (.ref fa) ⟨[.ref a],[]⟩) (λ r s'=>r=.ok (.ret (.bool true))/\OldK s₁.heap s'.heap/\s'.os=s₁.os/\AllBare s'.gens) s₁:=by
 have rv:=Jel hi
 have lenV:=hi.length
 -- from an abstract heap in which nothing but the script may be tracked
 have core:∀H:Hp,Only H->SqL K H a (ns.map V.int)->HOk P w H s₁.heap->(∀b,H b≠none->b=a)->(H a≠none->K.lookup a=none) ->
   codeAny (model P w) callerA (.call (.ref fa) ⟨[.ref a],[]⟩) (λ r s'=>r=.ok (.ret (.bool true))/\OldK s₁.heap s'.heap/\s'.os=s₁.os/\AllBare s'.gens) s₁:=by
  intro H hO hS hok hA hK
  have base_of:∀{b:Addr}{o:Obj},s₁.heap.get? b=some o->H b=none->(hidT s₁.heap H).get? b=some o:=λ e n=>Jw3 e n
  have noA:∀{b:Addr}{o:Obj}{es:Array DictEntry}{ep:Nat},s₁.heap.get? b=some o->o.data=.dict es ep->H b=none:=λ {b o es ep} e d=>by
   cases q:H b with
   | none=>rfl
   | some u =>
    have e':b=a:=hA b (by rw[q];simp)
    subst e'
    rw[ha] at e;cases e
    have d':Data.seq vs.toArray _=Data.dict es ep:=d
    cases d'
  have nsK:∀{b:Addr}{m:Str->Option Value},s₁.heap.Ns b m->(hidT s₁.heap H).Ns b m:=λ {b m} ⟨o,es,ep,e,d,r⟩=>⟨o,es,ep,base_of e (noA e d),d,r⟩
  have hKb:K.In (hidT s₁.heap H):=λ b o e=>base_of (KX b o e) (by
   cases q:H b with
   | none=>rfl
   | some u =>
    have e':b=a:=hA b (by rw[q];simp)
    subst e'
    rw[hK (by rw[q];simp)] at e;cases e)
  have hM:Mod K mg (hidT s₁.heap H):=⟨hKb,nsK hns,⟨mb,nsK hb,hbb⟩,let ⟨mc,h1,h2⟩:=hlim;⟨mc,nsK h1,h2⟩⟩
  have e0:Env0 P w K mg (hidT s₁.heap H) callerA [] s₁ H:=⟨rfl,hM,λ b o e=>J1b e,Nat.le_of_eq (Jt1 _ _),trivial,λ b hb=>absurd (show b∈([]:List Addr) from hb) (by simp),hok,.of_eq hg⟩
  refine codeAny_mono ((F _ hKb (nsK hns)).run callerA [] s₁ H ⟨[.ref a],[]⟩ [.ref a] [.ref a] _ _ hr e0 (hbind s₁ (.ref a)) (.cons rfl .nil) (hsp H hO hS)) λ r s' h=>?_
  cases r with
  | error e=>exact(hCX H e s' h).elim
  | ok fl =>
   cases fl with
   | next=>exact False.elim h
   | brk=>exact False.elim h
   | cont=>exact False.elim h
   | ret u =>
    obtain⟨v,H',os,bare,un,hok',r',q⟩:=h
    have q':v=.bl true:=q
    subst q'
    obtain rfl:u=Value.bool true:=r'
    refine⟨rfl,OldK.of_keep λ b o e=>?_,os,bare⟩
    cases q:H b with
    | none=>exact un.keep b o e q (by intro z;exact absurd (show b∈([]:List Addr) from z) (by simp)) (by simp)
    | some u =>
     rcases hO b with z|⟨ob,xs,z⟩
     ·rw[q] at z;cases z
     ·have z2:=un.frzs b ob _ z
      obtain⟨e1,_⟩:=hok b _ z
      obtain⟨e2,_⟩:=hok' b _ z2
      rw[e] at e1;cases e1
      exact e2
 cases hk:K.lookup a with
 | some o =>
  -- the script is one of the module's own objects
  have e:=KX a o hk
  rw[ha] at e
  cases e
  refine core (λ _=>none) (λ _=>.inl rfl) (.inr ⟨_,vs.toArray,_,hk,rfl,rfl,rfl,by rw[List.size_toArray,lenV];exact hl,by simpa using rv⟩) (λ b u z=>by have z':(none:Option HO)=some u:=z;cases z') (λ b z=>absurd rfl z) λ z=>absurd rfl z
 | none =>
  refine core (λ b=>if b=a then some (.frz { cls:=.type "list",data:=.seq vs.toArray } (.lst (ns.map V.int))) else none) (λ b=>?_) (.inl (.inr ⟨{ cls:=.type "list",data:=.seq vs.toArray },if_pos rfl⟩)) (λ b u z=>?_) (λ b z=>?_) λ _=>hk
  ·by_cases hb:b=a
   ·exact .inr ⟨_,_,if_pos hb⟩
   ·exact .inl (if_neg hb)
  ·by_cases hb:b=a
   ·have z':=(if_pos hb).symm.trans z
    cases z'
    subst hb
    exact⟨ha,by rw[List.length_map];exact hl,vs,_,rv,ha⟩
   ·have z':=(if_neg hb).symm.trans z
    cases z'
  ·by_cases hb:b=a
   ·exact hb
   ·exact absurd (if_neg hb) z
theorem J13 {l:W.OpenLaw}{n k:Nat}{q:Program}{loose:List Str}{XP:(Str->Option Value)->Heap->Prop}{YP:World->Heap->Prop}{d:DefRec}{K:Params->W.Frag}{CX:World->CXT}{sp:World->Sp}{x:Str}
  (hn:l.most=some n) (hn2:n<=sizeLine) (hdf:d.params.defaults=[]) (hr:Room k callerA)
  (hY:∀(w:World) (h:Heap),YP w h->(K w.params).In h)
  (F:∀(w:World) (mg:Str->Option Value) (fa:Addr) (h:Heap),(K w.params).In h->h.Ns mainGlobals mg->mg d.name=some (.ref fa) ->
   ∃fd:FuncData,(∀(s:Shared) (u:Value),BindsTo s fd ⟨[u],[]⟩ [(x,u)]) /\
    ∀base:Heap,(K w.params).In base->base.Ns mainGlobals mg->FnOk l.prog w (K w.params) mg base (CX w) k fa fd [x] (sp w))
  (hsp:∀(w:World) (H:Hp) (a:Addr) (ns:List Int),ns.length<=n->Only H->SqL (K w.params) H a (ns.map V.int)->sp w [.ref a] H (λ v _=>v=.bl true) λ _ _ _=>False)
  (hCX:∀(w:World) (H:Hp) (s:Shared) (e:Value) (s':Shared),CX w [] H s (λ _ _ _=>False) e s'->False) :
  W.WalkO q loose XP YP l.row.toRowW d [] (λ f vs=>PySem.call f vs):=by
 refine Att.attach_call hn hdf λ w s₀ s₁ mg mb fa o pm cd doc a vs ns G Y ho hd hcd hmg hobj hints hlen hg=>?_
 have KX:=hY w _ Y
 obtain⟨fd,hb,hF⟩:=F w mg fa _ KX G.T.g hmg
 exact Jxh KX G.T.g G.T.b G.T.builtins G.T.nolimit hg hobj hints (Nat.le_trans hlen hn2) hr hF hb (λ H hO hS=>hsp w H a ns hlen hO hS) λ H e s'=>hCX w H s₁ e s'
noncomputable def Jg9 (s:Stmt) (j:Nat):Stmt:=match s with
 | .ClassDef _ _ _ body _ _ _ _ _ _ _=>body.getD j (.Pass ⟨0,0,0,0⟩)
 | _=>.Pass ⟨0,0,0,0⟩
noncomputable def Jan (s:Stmt):Arguments:=match s with
 | .FunctionDef _ a _ _ _ _ _ _ _ _=>a
 | _=>{ posonlyargs:=[],args:=[],vararg:=none,kwonlyargs:=[],kw_defaults:=[],kwarg:=none,defaults:=[] }
noncomputable def Jy (s:Stmt):List Stmt:=match s with
 | .FunctionDef _ _ b _ _ _ _ _ _ _=>b
 | _=>[]
noncomputable def Jk (s:Stmt):Scope:=match s with
 | .FunctionDef _ _ _ _ _ _ sc _ _ _=>sc
 | _=>{ kind:=.function,names:=[],isGenerator:=false,isCoroutine:=false }
noncomputable abbrev CX0:CXT:=λ _ _ _ _ _ _=>False
structure Fun (K:W.Frag) (x qual:Str) (st:Stmt) (f:Addr) (fd:FuncData):Prop where
 ex:∃(oc:Value) (od:Option Addr) (kV doc pm:Value) (an:Option Addr) (cdv ct:Value) (osl:Array (Option Value)),
  fd=W.fnOf x qual (Jan st) (Jy st) (Jk st) .none kV doc pm an cdv ct/\K.lookup f=some ⟨oc,od,.func fd,osl⟩/\W.codeIn K cdv qual=true
 kp:W.keepIn K (.ref f)=true
section
variable {P:Program}{w:World}{K:W.Frag}{mg:Str->Option Value}{base:Heap}
theorem Fun.ok {x qual:Str}{st:Stmt}{f:Addr}{fd:FuncData}{N ps:List Str}{k:Nat}{sp:Sp}(F:Fun K x qual st f fd) (S:FnScope N ps (Jk st)) (len:∀vs H Q E,sp vs H Q E->vs.length=ps.length)
  (hbody:∀(cdv:Value) (A:Around) (outer:List Env) (s:Shared) (H:Hp) (vs:List V) (Q:VK) (E:XK),Room k (A.deeper (envOfC qual (Jk st) s.heap.objs.size f cdv))->sp vs H Q E ->
   ∃t,PSs (cxOf CX0 P w K mg base N qual (Jk st) f cdv A outer s H E).nox (Jy st) t/\t { nx:=λ _ H'=>Q .non H',rt:=Q } (start N vs) H):FnOk P w K mg base CX0 (k+1) f fd ps sp:=by
 obtain⟨oc,od,kV,doc,pm,an,cdv,ct,osl,rfl,lk,hcd⟩:=F.ex
 refine J28 lk hcd S len λ A outer s H vs Q E hr hsp=>?_
 obtain⟨t,h,q⟩:=hbody cdv A outer s H vs Q E hr hsp
 exact⟨t,h.nox,q⟩
theorem Fun.binds {x qual:Str}{st:Stmt}{f:Addr}{fd:FuncData}{ps:List Str}(F:Fun K x qual st f fd)
  (h:∀(kV doc pm:Value) (an:Option Addr) (cdv ct:Value) (us:List Value),us.length=ps.length->bindArgs (W.fnOf x qual (Jan st) (Jy st) (Jk st) .none kV doc pm an cdv ct) ⟨us,[]⟩=pure (ps.zip us)):Jfb K fd ps []:=by
 obtain⟨oc,od,kV,doc,pm,an,cdv,ct,osl,rfl,lk,hcd⟩:=F.ex
 exact .all (h kV doc pm an cdv ct)
end
section
variable {X:Cx}
end
noncomputable def Same (H H':Hp):Prop:=∀b o,H b=some o->H' b=some o
theorem Same.refl (H:Hp):Same H H:=λ _ _ h=>h
theorem Same.trans {H H1 H2:Hp}(a:Same H H1) (b:Same H1 H2):Same H H2:=λ c o h=>b c o (a c o h)
theorem Same.free {H H':Hp}(e:Same H H'){l:Addr}(h:H' l=Option.none):H l=Option.none:=by
 cases q:H l with
 | none=>rfl
 | some o =>
  rw[e l o q] at h
  cases h
theorem Same.seq {K:W.Frag}{H H':Hp}{a:Addr}{xs:List V}(e:Same H H') (h:SqL K H a xs):SqL K H' a xs:=by
 rcases h with(h|⟨o,h⟩)|h
 ·exact .inl (.inl (e _ _ h))
 ·exact .inl (.inr ⟨o,e _ _ h⟩)
 ·exact .inr h
end L2
set_option maxHeartbeats 4000000
namespace L3
open PySem PySem.Spec PyProof.Rows L2
inductive IV where
 | non|bl (b:Bool)|int (i:Int)|str (x:Str)|tup (xs:List IV)|rol (xs:List IV)|ref (i:Nat)
inductive IO where
 | lst (xs:List IV)
 | ins (c:Str) (fs:List (Str×IV))
 | dct (kvs:List (Key×IV))
 | exc (c:Str) (fs:List (Str×IV))
 | tab (q:Str)
 | hld (c:Str) (fs:List (Str×IV))
noncomputable abbrev IH:=List IO
noncomputable abbrev ISt:=List (Option IV)
inductive Res (α:Type) where
 | ok (a:α) (h:IH)|exc (n:Nat) (h:IH)|stuck
noncomputable def Res.bind {α β:Type}:Res α->(α->IH->Res β)->Res β
 | .ok a h,f=>f a h
 | .exc n h,_=>.exc n h
 | .stuck,_=>.stuck
inductive SRes where
 | next (σ:ISt) (h:IH)|ret (v:IV) (h:IH)|brk (σ:ISt) (h:IH)|cont (σ:ISt) (h:IH)|exc (n:Nat) (σ:ISt) (h:IH)|stuck
noncomputable def SqR (K:W.Frag) (H:Hp) (a:Addr) (xs:List V):Prop :=
 (∃o,H a=some (.frz o (.lst xs))) ∨
  ∃(o:Obj) (its:Array Value) (n:Nat),K.lookup a=some o/\o.cls=.type "list"/\o.dict=none/\o.data=.seq its n/\its.size<=sizeLine/\Vals xs its.toList
theorem SqR.sq {K:W.Frag}{H:Hp}{a:Addr}{xs:List V}(h:SqR K H a xs):SqL K H a xs:=by
 rcases h with⟨o,h⟩|h
 ·exact .inl (.inr ⟨o,h⟩)
 ·exact .inr h
mutual
noncomputable def RV (K:W.Frag) (ι:List Addr) (H:Hp):IV->V->Prop
 | .non,v=>v=.non
 | .bl b,v=>v=.bl b
 | .int i,v=>v=.int i
 | .str x,v=>v=.str x
 | .tup xs,v=>∃a vs,v=.ref a/\SqT K H a vs/\RVs K ι H xs vs
 | .rol xs,v=>∃a vs,v=.ref a/\SqR K H a vs/\RVs K ι H xs vs
 | .ref i,v=>∃a,v=.ref a/\ι[i]?=some a
noncomputable def RVs (K:W.Frag) (ι:List Addr) (H:Hp):List IV->List V->Prop
 | [],vs=>vs=[]
 | x::xs,vs=>∃v r,vs=v::r/\RV K ι H x v/\RVs K ι H xs r
end
structure Ext (H H':Hp):Prop where
 tups:∀b xs,H b=some (.tup xs)->H' b=some (.tup xs)
 frzs:∀b o u,H b=some (.frz o u)->H' b=some (.frz o u)
structure Nxt (ι:List Addr) (H:Hp) (ι':List Addr) (H':Hp):Prop where
 pre:∃m,ι'=ι++m
 ext:Ext H H'
theorem Nxt.refl {ι:List Addr}{H:Hp}:Nxt ι H ι H:=⟨⟨[],by simp⟩,⟨λ _ _ h=>h,λ _ _ _ h=>h⟩⟩
theorem Nxt.trans {ι ι1 ι2:List Addr}{H H1 H2:Hp}(a:Nxt ι H ι1 H1) (b:Nxt ι1 H1 ι2 H2):Nxt ι H ι2 H2:=by
 obtain⟨⟨m,e⟩,x⟩:=a
 obtain⟨⟨m',e'⟩,y⟩:=b
 exact⟨⟨m++m',by rw[e',e,List.append_assoc]⟩,⟨λ b xs h=>y.tups b xs (x.tups b xs h),λ b o u h=>y.frzs b o u (x.frzs b o u h)⟩⟩
theorem Nxt.at {ι ι':List Addr}{H H':Hp}(n:Nxt ι H ι' H'){i:Nat}{a:Addr}(h:ι[i]?=some a):ι'[i]?=some a:=by
 obtain⟨⟨m,e⟩,_⟩:=n
 subst e
 rw[List.getElem?_append_left (List.getElem?_eq_some_iff.mp h).1]
 exact h
theorem Ext.rd {H H':Hp}(x:Ext H H'){a:Addr}{xs:List V}(h:Rd H a (.tup xs)):Rd H' a (.tup xs):=by
 rcases h with h|⟨o,h⟩
 ·exact .inl (x.tups _ _ h)
 ·exact .inr ⟨o,x.frzs _ _ _ h⟩
theorem Ext.sqT {K:W.Frag}{H H':Hp}(x:Ext H H'){a:Addr}{xs:List V}(h:SqT K H a xs):SqT K H' a xs:=by
 rcases h with h|h
 ·exact .inl (x.rd h)
 ·exact .inr h
theorem Ext.sqR {K:W.Frag}{H H':Hp}(x:Ext H H'){a:Addr}{xs:List V}(h:SqR K H a xs):SqR K H' a xs:=by
 rcases h with⟨o,h⟩|h
 ·exact .inl ⟨o,x.frzs _ _ _ h⟩
 ·exact .inr h
mutual
theorem RV.mono {K:W.Frag}{ι ι':List Addr}{H H':Hp}(n:Nxt ι H ι' H'):∀(x:IV) (v:V),RV K ι H x v->RV K ι' H' x v
 | .non,_,h=>h
 | .bl _,_,h=>h
 | .int _,_,h=>h
 | .str _,_,h=>h
 | .tup xs,_,h=>by
  obtain⟨a,vs,e,q,r⟩:=h
  exact⟨a,vs,e,n.ext.sqT q,RVs.mono n xs vs r⟩
 | .rol xs,_,h=>by
  obtain⟨a,vs,e,q,r⟩:=h
  exact⟨a,vs,e,n.ext.sqR q,RVs.mono n xs vs r⟩
 | .ref i,_,h=>by
  obtain⟨a,e,q⟩:=h
  exact⟨a,e,n.at q⟩
theorem RVs.mono {K:W.Frag}{ι ι':List Addr}{H H':Hp}(n:Nxt ι H ι' H'):∀(xs:List IV) (vs:List V),RVs K ι H xs vs->RVs K ι' H' xs vs
 | [],_,h=>h
 | x::xs,_,h=>by
  obtain⟨v,r,e,q,t⟩:=h
  exact⟨v,r,e,RV.mono n x v q,RVs.mono n xs r t⟩
end
theorem RVs.length {K:W.Frag}{ι:List Addr}{H:Hp}:∀{xs:List IV}{vs:List V},RVs K ι H xs vs->vs.length=xs.length
 | [],_,h=>by
  have e:_=[]:=h
  subst e
  rfl
 | x::xs,_,h=>by
  obtain⟨v,r,e,_,t⟩:=h
  subst e
  simp[RVs.length t]
theorem RVs.get {K:W.Frag}{ι:List Addr}{H:Hp}:∀{xs:List IV}{vs:List V}{i:Nat}{x:IV},RVs K ι H xs vs->xs[i]?=some x->∃v,vs[i]?=some v/\RV K ι H x v
 | [],_,_,_,_,e=>by simp at e
 | x::xs,_,0,y,h,e=>by
  obtain⟨v,r,e1,q,t⟩:=h
  subst e1
  simp at e
  subst e
  exact⟨v,rfl,q⟩
 | x::xs,_,i+1,y,h,e=>by
  obtain⟨v,r,e1,q,t⟩:=h
  subst e1
  obtain⟨u,h1,h2⟩:=RVs.get (i:=i) (x:=y) t (by simpa using e)
  exact⟨u,by simpa using h1,h2⟩
theorem RVs.append {K:W.Frag}{ι:List Addr}{H:Hp}:∀{xs ys:List IV}{vs us:List V},RVs K ι H xs vs->RVs K ι H ys us->RVs K ι H (xs++ys) (vs++us)
 | [],_,_,_,h,g=>by
  have e:_=[]:=h
  subst e
  exact g
 | x::xs,_,_,_,h,g=>by
  obtain⟨v,r,e,q,t⟩:=h
  subst e
  exact⟨v,_,rfl,q,RVs.append t g⟩
theorem RVs.take {K:W.Frag}{ι:List Addr}{H:Hp}:∀{xs:List IV}{vs:List V}(n:Nat),RVs K ι H xs vs->RVs K ι H (xs.take n) (vs.take n)
 | _,_,0,_=>by simp;exact rfl
 | [],_,n+1,h=>by
  have e:_=[]:=h
  subst e
  exact rfl
 | x::xs,_,n+1,h=>by
  obtain⟨v,r,e,q,t⟩:=h
  subst e
  exact⟨v,r.take n,rfl,q,RVs.take n t⟩
theorem RVs.drop {K:W.Frag}{ι:List Addr}{H:Hp}:∀{xs:List IV}{vs:List V}(n:Nat),RVs K ι H xs vs->RVs K ι H (xs.drop n) (vs.drop n)
 | _,_,0,h=>h
 | [],_,n+1,h=>by
  have e:_=[]:=h
  subst e
  exact rfl
 | x::xs,_,n+1,h=>by
  obtain⟨v,r,e,q,t⟩:=h
  subst e
  exact RVs.drop n t
theorem RVs.set {K:W.Frag}{ι:List Addr}{H:Hp}{x:IV}{v:V}(q:RV K ι H x v):∀{xs:List IV}{vs:List V}(i:Nat),RVs K ι H xs vs->RVs K ι H (xs.set i x) (vs.set i v)
 | [],_,_,h=>by
  have e:_=[]:=h
  subst e
  exact rfl
 | y::xs,_,0,h=>by
  obtain⟨u,r,e,_,t⟩:=h
  subst e
  exact⟨v,r,rfl,q,t⟩
 | y::xs,_,i+1,h=>by
  obtain⟨u,r,e,p,t⟩:=h
  subst e
  exact⟨u,r.set i v,rfl,p,RVs.set q i t⟩
theorem RVs.one {K:W.Frag}{ι:List Addr}{H:Hp}{x:IV}{v:V}(q:RV K ι H x v):RVs K ι H [x] [v]:=⟨v,[],rfl,q,rfl⟩
theorem RVs.eraseIdx {K:W.Frag}{ι:List Addr}{H:Hp}:∀{xs:List IV}{vs:List V}(i:Nat),RVs K ι H xs vs->RVs K ι H (xs.eraseIdx i) (vs.eraseIdx i)
 | [],_,_,h=>by
  have e:_=[]:=h
  subst e
  exact rfl
 | x::xs,_,0,h=>by
  obtain⟨v,r,e,q,t⟩:=h
  subst e
  exact t
 | x::xs,_,i+1,h=>by
  obtain⟨v,r,e,q,t⟩:=h
  subst e
  exact⟨v,r.eraseIdx i,rfl,q,RVs.eraseIdx i t⟩
theorem RVs.ints {K:W.Frag}{ι:List Addr}{H:Hp}:∀(ns:List Int),RVs K ι H (ns.map IV.int) (ns.map V.int)
 | []=>rfl
 | _::ns=>⟨_,_,rfl,rfl,RVs.ints ns⟩
noncomputable def RPs {κ:Type}(K:W.Frag) (ι:List Addr) (H:Hp):List (κ×IV)->List (κ×V)->Prop
 | [],vs=>vs=[]
 | x::xs,vs=>∃v r,vs=(x.1,v)::r/\RV K ι H x.2 v/\RPs K ι H xs r
theorem RPs.mono {κ:Type}{K:W.Frag}{ι ι':List Addr}{H H':Hp}(n:Nxt ι H ι' H'):∀(xs:List (κ×IV)) (vs:List (κ×V)),RPs K ι H xs vs->RPs K ι' H' xs vs
 | [],_,h=>h
 | x::xs,_,h=>by
  obtain⟨v,r,e,q,t⟩:=h
  exact⟨v,r,e,RV.mono n _ v q,RPs.mono n xs r t⟩
theorem RPs.length {κ:Type}{K:W.Frag}{ι:List Addr}{H:Hp}:∀{xs:List (κ×IV)}{vs:List (κ×V)},RPs K ι H xs vs->vs.length=xs.length
 | [],_,h=>by
  have e:_=[]:=h
  subst e
  rfl
 | x::xs,_,h=>by
  obtain⟨v,r,e,_,t⟩:=h
  subst e
  simp[RPs.length t]
theorem RPs.lookup {κ:Type}[BEq κ] {K:W.Frag}{ι:List Addr}{H:Hp}{f:κ}:∀{xs:List (κ×IV)}{vs:List (κ×V)},RPs K ι H xs vs ->
  (∀x,xs.lookup f=some x->∃v,vs.lookup f=some v/\RV K ι H x v)/\(xs.lookup f=none->vs.lookup f=none)
 | [],_,h=>by
  have e:_=[]:=h
  subst e
  exact⟨λ x e=>by simp at e,λ _=>rfl⟩
 | (k,x)::xs,_,h=>by
  obtain⟨v,r,e,q,t⟩:=h
  subst e
  have ih:=RPs.lookup (f:=f) t
  simp only[List.lookup_cons]
  cases hb:f==k with
  | true=>exact⟨λ y e=>by cases e;exact⟨v,rfl,q⟩,λ e=>by cases e⟩
  | false=>exact ih
noncomputable def Jkx (H:Hp) (q:Str) (cv:Value):Prop:=∃c oc vs t,cv=.ref c/\H c=some (.frz oc (.own 0))/\oc.data=.fields vs/\vs[1]?=some (.str (q++".<locals>."++"<lambda>") t)
noncomputable def TabO (K:W.Frag) (H:Hp) (q:Str) (a:Addr):Prop:=(∀cdv,W.codeIn K cdv q=true->∃c,cdv=.ref c/\W.codeHdIn K c a=true) /\
 ∃ps,H a=some (.tbl ps)/\TriplesOk ps.toList/\∀pos cv,codeAmong pos ps.toList=some cv->Jkx H q cv
theorem TabO.mono {K:W.Frag}{H H':Hp}{q:Str}{a:Addr}(fz:∀b o u,H b=some (.frz o u)->H' b=some (.frz o u)) (k:∀u,H a=some u->H' a=some u) (h:TabO K H q a):TabO K H' q a:=by
 obtain⟨h1,ps,e,ht,hc⟩:=h
 refine⟨h1,ps,k _ e,ht,λ pos cv q=>?_⟩
 obtain⟨c,oc,vs,t,e1,e2,r⟩:=hc pos cv q
 exact⟨c,oc,vs,t,e1,fz _ _ _ e2,r⟩
noncomputable def ExF (a C:Addr) (tv:Value) (d:Option Addr):HO:=.ext λ h=>∃oe vs,h.get? a=some oe/\oe.cls=.ref C/\oe.data=.fields vs/\vs[1]?=some tv/\vs[2]?=some .none/\oe.dict=d
noncomputable def XdOk (H:Hp) (d:Option Addr) (fs:List (Str×IV)):Prop:=(fs=[]/\d=none)∨∃f i dx od t,fs=[(f,.int i)]/\d=some dx/\H dx=some (.frz od (.own 0))/\W.lookIn f od=some (some (.int i t))
theorem XdOk.mono {H H':Hp}{d:Option Addr}{fs:List (Str×IV)}(fz:∀b o u,H b=some (.frz o u)->H' b=some (.frz o u)) (h:XdOk H d fs):XdOk H' d fs:=by
 rcases h with h|⟨f,i,dx,od,t,e,q,r,z⟩
 ·exact .inl h
 ·exact .inr ⟨f,i,dx,od,t,e,q,fz _ _ _ r,z⟩
noncomputable def TvOk (H:Hp) (tv:Value):Prop:=tv=.none∨∃T oT ts,tv=.ref T/\H T=some (.frz oT (.own 0))/\oT.data=.fields ts/\ts[3]?=some .none
theorem TvOk.mono {H H':Hp}{tv:Value}(fz:∀b o u,H b=some (.frz o u)->H' b=some (.frz o u)) (h:TvOk H tv):TvOk H' tv:=by
 rcases h with h|⟨T,oT,ts,e,q,r⟩
 ·exact .inl h
 ·exact .inr ⟨T,oT,ts,e,fz _ _ _ q,r⟩
noncomputable def RO (ce:Str->Option Addr) (K:W.Frag) (ι:List Addr) (H:Hp) (a:Addr):IO->Prop
 | .lst xs=>∃vs,H a=some (.lst vs)/\RVs K ι H xs vs
 | .ins c fs=>∃C dx vs,ce c=some C/\H a=some (.ins C dx vs)/\RPs K ι H fs vs
 | .dct kvs=>∃vs,H a=some (.dK vs)/\RPs K ι H kvs vs
 | .exc c fs=>∃C tv d,XdOk H d fs/\W.nsIn K mainGlobals c=some (some (.ref C))/\H a=some (ExF a C tv d)/\TvOk H tv
 | .tab q=>TabO K H q a
 | .hld c fs=>∃C oe u vs,XdOk H oe.dict fs/\W.nsIn K mainGlobals c=some (some (.ref C))/\H a=some (.frz oe u)/\oe.cls=.ref C/\oe.data=.fields vs/\vs[2]?=some .none
theorem RO.some {ce:Str->Option Addr}{K:W.Frag}{ι:List Addr}{H:Hp}{a:Addr}{o:IO}(h:RO ce K ι H a o):∃u,H a=some u:=by
 cases o with
 | lst xs=>obtain⟨vs,e,_⟩:=h;exact⟨_,e⟩
 | ins c fs=>obtain⟨_,_,vs,_,e,_⟩:=h;exact⟨_,e⟩
 | dct kvs=>obtain⟨vs,e,_⟩:=h;exact⟨_,e⟩
 | exc c fs=>obtain⟨C,tv,d,_,_,e,_⟩:=h;exact⟨_,e⟩
 | tab q=>obtain⟨_,ps,e,_⟩:=h;exact⟨_,e⟩
 | hld c fs=>obtain⟨_,_,_,_,_,_,e,_⟩:=h;exact⟨_,e⟩
theorem RO.mono {ce:Str->Option Addr}{K:W.Frag}{ι ι':List Addr}{H H':Hp}{a:Addr}{o:IO}(n:Nxt ι H ι' H') (k:∀u,H a=Option.some u->H' a=Option.some u) (h:RO ce K ι H a o):RO ce K ι' H' a o:=by
 cases o with
 | lst xs=>obtain⟨vs,e,r⟩:=h;exact⟨vs,k _ e,RVs.mono n _ _ r⟩
 | ins c fs=>obtain⟨C,dx,vs,c1,e,r⟩:=h;exact⟨C,dx,vs,c1,k _ e,RPs.mono n _ _ r⟩
 | dct kvs=>obtain⟨vs,e,r⟩:=h;exact⟨vs,k _ e,RPs.mono n _ _ r⟩
 | exc c fs=>obtain⟨C,tv,d,e0,c1,e,r⟩:=h;exact⟨C,tv,d,e0.mono n.ext.frzs,c1,k _ e,r.mono n.ext.frzs⟩
 | tab q=>exact TabO.mono n.ext.frzs k h
 | hld c fs=>obtain⟨C,oe,u,vs,e0,c1,e,r⟩:=h;exact⟨C,oe,u,vs,e0.mono n.ext.frzs,c1,k _ e,r⟩
structure Rel (ce:Str->Option Addr) (K:W.Frag) (ι:List Addr) (h:IH) (H:Hp):Prop where
 len:ι.length=h.length
 nd:ι.Nodup
 at_:∀(i:Nat) (o:IO),h[i]?=some o->∃a,ι[i]?=some a/\RO ce K ι H a o
section
variable {ce:Str->Option Addr}{K:W.Frag}{ι:List Addr}{h:IH}{H:Hp}
theorem Rel.some (R:Rel ce K ι h H){i:Nat}{a:Addr}(e:ι[i]?=some a):∃u,H a=Option.some u:=by
 have hi:i<h.length:=by rw[<- R.len];exact(List.getElem?_eq_some_iff.mp e).1
 obtain⟨b,e',r⟩:=R.at_ i _ (List.getElem?_eq_getElem hi)
 rw[e] at e'
 cases e'
 exact r.some
theorem Rel.notin (R:Rel ce K ι h H){l:Addr}(e:H l=none):l∉ι:=λ hl=>by
 obtain⟨i,hi,q⟩:=List.mem_iff_getElem.mp hl
 obtain⟨u,hu⟩:=R.some (i:=i) (a:=l) (by rw[List.getElem?_eq_getElem hi,q])
 rw[e] at hu
 cases hu
theorem Ext.upd_new {l:Addr}{o:HO}(e:H l=none):Ext H (upd H l o) :=
 ⟨λ b xs q=>by rw[Jh (Jx q e)];exact q,λ b o u q=>by rw[Jh (Jx q e)];exact q⟩
theorem Rel.grow {l:Addr}{o:HO}(R:Rel ce K ι h H) (e:H l=none):Rel ce K ι h (upd H l o)/\Nxt ι H ι (upd H l o):=by
 have n:Nxt ι H ι (upd H l o):=⟨⟨[],by simp⟩,Ext.upd_new e⟩
 refine⟨⟨R.len,R.nd,λ i u q=>?_⟩,n⟩
 obtain⟨a,e1,r⟩:=R.at_ i u q
 exact⟨a,e1,r.mono n λ w hw=>by rw[Jh (Jx hw e)];exact hw⟩
theorem Rel.alloc {l:Addr}{o:HO}{io:IO}(R:Rel ce K ι h H) (e:H l=none) (r:RO ce K (ι++[l]) (upd H l o) l io):Rel ce K (ι++[l]) (h++[io]) (upd H l o)/\Nxt ι H (ι++[l]) (upd H l o):=by
 have n:Nxt ι H (ι++[l]) (upd H l o):=⟨⟨[l],rfl⟩,Ext.upd_new e⟩
 refine⟨⟨by simp[R.len],?_,λ i u q=>?_⟩,n⟩
 ·rw[List.nodup_append]
  refine⟨R.nd,by simp,λ a ha b hb=>?_⟩
  have:b=l:=by simpa using hb
  subst this
  rintro rfl
  exact R.notin e ha
 ·by_cases hi:i<h.length
  ·rw[List.getElem?_append_left hi] at q
   obtain⟨a,e1,r1⟩:=R.at_ i u q
   exact⟨a,n.at e1,r1.mono n λ w hw=>by rw[Jh (Jx hw e)];exact hw⟩
  ·have hi2:i=h.length:=by
    have:=(List.getElem?_eq_some_iff.mp q).1
    simp at this
    omega
   subst hi2
   rw[List.getElem?_append_right (Nat.le_refl _)] at q
   simp at q
   subst q
   refine⟨l,?_,r⟩
   rw[<- R.len,List.getElem?_append_right (Nat.le_refl _)]
   simp
theorem Rel.inj (R:Rel ce K ι h H){i j:Nat}{a:Addr}(e1:ι[i]?=Option.some a) (e2:ι[j]?=Option.some a):i=j:=by
 obtain⟨h1,q1⟩:=List.getElem?_eq_some_iff.mp e1
 obtain⟨h2,q2⟩:=List.getElem?_eq_some_iff.mp e2
 exact(List.getElem_inj R.nd).mp (q1.trans q2.symm)
theorem Ext.upd_mut {l:Addr}{o u:HO}(e:H l=Option.some u) (m:Mut (H l)):Ext H (upd H l o):=by
 refine⟨λ b xs q=>?_,λ b ob w q=>?_⟩
 ·by_cases hb:b=l
  ·subst hb
   rw[q] at m
   exact Zf m
  ·rw[Jh hb];exact q
 ·by_cases hb:b=l
  ·subst hb
   rw[q] at m
   exact Zf m
  ·rw[Jh hb];exact q
theorem Rel.write {i:Nat}{a:Addr}{o u:HO}{io:IO}(R:Rel ce K ι h H) (e:ι[i]?=Option.some a) (ha:H a=Option.some u) (m:Mut (H a)) (r:RO ce K ι (upd H a o) a io):Rel ce K ι (h.set i io) (upd H a o)/\Nxt ι H ι (upd H a o):=by
 have n:Nxt ι H ι (upd H a o):=⟨⟨[],by simp⟩,Ext.upd_mut ha m⟩
 refine⟨⟨by simp[R.len],R.nd,λ j w q=>?_⟩,n⟩
 by_cases hj:j=i
 ·subst hj
  have hl:j<h.length:=by
   have:=(List.getElem?_eq_some_iff.mp q).1
   simpa using this
  rw[List.getElem?_set_self hl] at q
  cases q
  exact⟨a,e,r⟩
 ·rw[List.getElem?_set_ne (Ne.symm hj)] at q
  obtain⟨b,e1,r1⟩:=R.at_ j w q
  refine⟨b,e1,r1.mono n λ v hv=>?_⟩
  have:b≠a:=by
   rintro rfl
   exact hj (R.inj e1 e)
  rw[Jh this]
  exact hv
end
structure RSt (K:W.Frag) (ι:List Addr) (H:Hp) (σi:ISt) (σ:L2.St):Prop where
 len:σi.length=σ.length
 at_:∀(j:Nat) (v:IV),σi[j]?=some (some v)->∃u,σ[j]?=some (some u)/\RV K ι H v u
theorem RSt.mono {K:W.Frag}{ι ι':List Addr}{H H':Hp}{σi:ISt}{σ:L2.St}(n:Nxt ι H ι' H') (r:RSt K ι H σi σ):RSt K ι' H' σi σ :=
 ⟨r.len,λ j v e=>let ⟨u,e1,q⟩:=r.at_ j v e;⟨u,e1,RV.mono n _ _ q⟩⟩
theorem RSt.set {K:W.Frag}{ι:List Addr}{H:Hp}{σi:ISt}{σ:L2.St}(r:RSt K ι H σi σ) (i:Nat){x:IV}{v:V}(q:RV K ι H x v):RSt K ι H (σi.set i (some x)) (σ.set i (some v)):=by
 refine⟨by simp[r.len],λ j w e=>?_⟩
 by_cases hj:j=i
 ·subst hj
  have hl:j<σi.length:=by
   have:=(List.getElem?_eq_some_iff.mp e).1
   simpa using this
  rw[List.getElem?_set_self hl] at e
  cases e
  exact⟨v,by rw[List.getElem?_set_self (by rw[<- r.len];exact hl)],q⟩
 ·rw[List.getElem?_set_ne (Ne.symm hj)] at e
  obtain⟨u,e1,q1⟩:=r.at_ j w e
  exact⟨u,by rw[List.getElem?_set_ne (Ne.symm hj)];exact e1,q1⟩
structure Now (ce:Str->Option Addr) (X:Cx) (pins:List (Addr×Obj)) (ι:List Addr) (σi:ISt) (h:IH) (σ:L2.St) (H:Hp) (s:Shared):Prop where
 inv:Inv X pins σ H s
 rel:Rel ce X.K ι h H
 st:RSt X.K ι H σi σ
noncomputable def RU (K:W.Frag) (ι:List Addr) (H:Hp) (v:IV) (u:Value):Prop:=∃x,RelV x u/\RV K ι H v x
theorem RU.mono {K:W.Frag}{ι ι':List Addr}{H H':Hp}{v:IV}{u:Value}(n:Nxt ι H ι' H') (r:RU K ι H v u):RU K ι' H' v u :=
 let ⟨x,a,b⟩:=r;⟨x,a,RV.mono n _ _ b⟩
noncomputable def RUs (K:W.Frag) (ι:List Addr) (H:Hp) (vs:List IV) (us:List Value):Prop:=∃xs,Vals xs us/\RVs K ι H vs xs
theorem RUs.mono {K:W.Frag}{ι ι':List Addr}{H H':Hp}{v:List IV}{u:List Value}(n:Nxt ι H ι' H') (r:RUs K ι H v u):RUs K ι' H' v u :=
 let ⟨x,a,b⟩:=r;⟨x,a,RVs.mono n _ _ b⟩
noncomputable abbrev REL (α β:Type):=W.Frag->List Addr->Hp->α->β->Prop
noncomputable def RB:REL Bool Bool:=λ _ _ _ b c=>c=b
section
variable {α β γ δ:Type}
noncomputable def Kont (ce:Str->Option Addr) (X:Cx) (R:REL α β) (pins:List (Addr×Obj)) (ι:List Addr) (σi:ISt) (σ:L2.St) (H:Hp) (r:Res α) (Q:β->Shared->Prop) (E:Value->Shared->Prop):Prop :=
 match r with
 | .ok v h'=>∀u s' H' ι',Now ce X pins ι' σi h' σ H' s'->Nxt ι H ι' H'->R X.K ι' H' v u->Q u s'
 | .exc n h'=>∀pl a s' H' ι',Now ce X (pins++pl) ι' σi h' σ H' s'->Nxt ι H ι' H'->ι'[n]?=some a->E (.ref a) s'
 | .stuck=>False
variable {ce:Str->Option Addr}{X:Cx}{R:REL α β}{R':REL γ δ}{pins:List (Addr×Obj)}{ι ι':List Addr}{σi:ISt}{σ:L2.St}{H H':Hp}
theorem Kont.mono {r:Res α}{Q:β->Shared->Prop}{E:Value->Shared->Prop}(k:Kont ce X R pins ι σi σ H r Q E) (n:Nxt ι H ι' H'):Kont ce X R pins ι' σi σ H' r Q E:=by
 cases r with
 | ok v h'=>exact λ u s' H2 ι2 N n2 q=>k u s' H2 ι2 N (n.trans n2) q
 | exc m h'=>exact λ pl a s' H2 ι2 N n2 q=>k pl a s' H2 ι2 N (n.trans n2) q
 | stuck=>exact k
noncomputable def PX (ce:Str->Option Addr) (X:Cx) (R:REL α β) (t:Sem β) (m:ISt->IH->Res α):Prop :=
 ∀(pins:List (Addr×Obj)) (s:Shared) (σ:L2.St) (H:Hp) (ι:List Addr) (σi:ISt) (h:IH) (Q:β->Shared->Prop) (E:Value->Shared->Prop),Now ce X pins ι σi h σ H s->Kont ce X R pins ι σi σ H (m σi h) Q E ->
  wpAny (model X.prog X.w) X.A t Q E s
theorem PX.run {t:Sem β}{m:ISt->IH->Res α}(p:PX ce X R t m){s:Shared}{h:IH}(N:Now ce X pins ι σi h σ H s){g:α->IH->Res γ}{Q:δ->Shared->Prop}{E:Value->Shared->Prop}{Q1:β->Shared->Prop}
  (K:Kont ce X R' pins ι σi σ H ((m σi h).bind g) Q E)
  (step:∀x h1 u s1 H1 ι1,Now ce X pins ι1 σi h1 σ H1 s1->Nxt ι H ι1 H1->R X.K ι1 H1 x u->Kont ce X R' pins ι1 σi σ H1 (g x h1) Q E->Q1 u s1):wpAny (model X.prog X.w) X.A t Q1 E s:=by
 refine p pins s σ H ι σi h Q1 E N ?_
 cases e:m σi h with
 | ok v h' =>
  rw[e] at K
  exact λ u s' H' ι' N' n' r=>step v h' u s' H' ι' N' n' r (Kont.mono (r:=g v h') K n')
 | exc n h' =>
  rw[e] at K
  exact K
 | stuck =>
  rw[e] at K
  exact K
end
noncomputable abbrev PEi (ce:Str->Option Addr) (X:Cx) (e:Expr) (m:ISt->IH->Res IV):Prop:=PX ce X RU (eval e X.env) m
noncomputable abbrev PTi (ce:Str->Option Addr) (X:Cx) (e:Expr) (m:ISt->IH->Res Bool):Prop:=PX ce X RB (isTrue e X.env (eval e X.env)) m
noncomputable def PWi (ce:Str->Option Addr) (X:Cx) (e:Expr) (m:ISt->IH->Res Bool):Prop:=∀whole:Sem Value,PX ce X RB (isTrue e X.env whole) m
noncomputable def PAi (ce:Str->Option Addr) (X:Cx) (es:List Expr) (m:ISt->IH->Res (List IV)):Prop:=∀pos:Pos,PX ce X RUs (spliced (backTo pos (starEach es X.env))) m
noncomputable abbrev E1:=ISt->IH->Res IV
noncomputable abbrev T1:=ISt->IH->Res Bool
noncomputable abbrev A1:=ISt->IH->Res (List IV)
noncomputable def eVar (i:Nat):E1:=λ σ h=>match σ[i]? with|some (some v)=>.ok v h|_=>.stuck
noncomputable def eC (v:IV):E1:=λ _ h=>.ok v h
noncomputable def eBin (f:IV->IV->IH->Res IV) (a b:E1):E1:=λ σ h=>(a σ h).bind λ x h1=>(b σ h1).bind λ y h2=>f x y h2
noncomputable def eUn (f:IV->IH->Res IV) (a:E1):E1:=λ σ h=>(a σ h).bind λ x h1=>f x h1
noncomputable def eAnd (a b:E1) (tr:IV->IH->Res Bool):E1:=λ σ h=>(a σ h).bind λ x h1=>(tr x h1).bind λ c h2=>if c then b σ h2 else .ok x h2
noncomputable def eOr (a b:E1) (tr:IV->IH->Res Bool):E1:=λ σ h=>(a σ h).bind λ x h1=>(tr x h1).bind λ c h2=>if c then .ok x h2 else b σ h2
noncomputable def eIf (t:T1) (a b:E1):E1:=λ σ h=>(t σ h).bind λ c h1=>if c then a σ h1 else b σ h1
noncomputable def Jsh (a b:T1):T1:=λ σ h=>(a σ h).bind λ c h1=>if c then b σ h1 else .ok false h1
noncomputable def tOrI (a b:T1):T1:=λ σ h=>(a σ h).bind λ c h1=>if c then .ok true h1 else b σ h1
noncomputable def Jb6 (a:T1):T1:=λ σ h=>(a σ h).bind λ c h1=>.ok (!c) h1
noncomputable def tOfB (tr:IV->IH->Res Bool) (a:E1):T1:=λ σ h=>(a σ h).bind λ x h1=>tr x h1
noncomputable def aNil:A1:=λ _ h=>.ok [] h
noncomputable def Ja (a:E1) (r:A1):A1:=λ σ h=>(a σ h).bind λ x h1=>(r σ h1).bind λ xs h2=>.ok (x::xs) h2
noncomputable def Jd9 (f g:IV->IV->IH->Res IV) (a b c:E1):E1:=λ σ h=>(a σ h).bind λ x h1=>(b σ h1).bind λ y h2=>(f x y h2).bind λ k h3 =>
 match k with
 | .bl true=>(c σ h3).bind λ z h4=>g y z h4
 | .bl false=>.ok (.bl false) h3
 | _=>.stuck
section
variable {ce:Str->Option Addr}{X:Cx}{a b c:Expr}{ma mb mc:E1}{pos:Pos}
noncomputable def OpI (ce:Str->Option Addr) (X:Cx) (f:Value->Value->Sem Value) (g:IV->IV->IH->Res IV):Prop :=
 ∀(pins:List (Addr×Obj)) (s:Shared) (σ:L2.St) (H:Hp) (ι:List Addr) (σi:ISt) (h:IH) (x y:IV) (v u:Value) (Q:Value->Shared->Prop) (E:Value->Shared->Prop),Now ce X pins ι σi h σ H s->RU X.K ι H x v->RU X.K ι H y u ->
  Kont ce X RU pins ι σi σ H (g x y h) Q E->wpAny (model X.prog X.w) X.A (f v u) Q E s
noncomputable def UnI (ce:Str->Option Addr) (X:Cx) (f:Value->Sem Value) (g:IV->IH->Res IV):Prop :=
 ∀(pins:List (Addr×Obj)) (s:Shared) (σ:L2.St) (H:Hp) (ι:List Addr) (σi:ISt) (h:IH) (x:IV) (v:Value) (Q:Value->Shared->Prop) (E:Value->Shared->Prop),Now ce X pins ι σi h σ H s->RU X.K ι H x v ->
  Kont ce X RU pins ι σi σ H (g x h) Q E->wpAny (model X.prog X.w) X.A (f v) Q E s
noncomputable def TrI (ce:Str->Option Addr) (X:Cx) (g:IV->IH->Res Bool):Prop :=
 ∀(pins:List (Addr×Obj)) (s:Shared) (σ:L2.St) (H:Hp) (ι:List Addr) (σi:ISt) (h:IH) (x:IV) (v:Value) (Q:Bool->Shared->Prop) (E:Value->Shared->Prop),Now ce X pins ι σi h σ H s->RU X.K ι H x v ->
  Kont ce X RB pins ι σi σ H (g x h) Q E->wpAny (model X.prog X.w) X.A (truthy v) Q E s
noncomputable def Jjy (ce:Str->Option Addr) (X:Cx) (f:Value) (g:List IV->IH->Res IV):Prop :=
 ∀(pins:List (Addr×Obj)) (s:Shared) (σ:L2.St) (H:Hp) (ι:List Addr) (σi:ISt) (h:IH) (xs:List IV) (us:List Value) (Q:Value->Shared->Prop) (E:Value->Shared->Prop),Now ce X pins ι σi h σ H s->RUs X.K ι H xs us ->
  Kont ce X RU pins ι σi σ H (g xs h) Q E->wpAny (model X.prog X.w) X.A (call f us) Q E s
theorem Jkt {pins:List (Addr×Obj)}{s:Shared}{σ:L2.St}{H:Hp}{Q:Value->Shared->Prop}{E:Value->Shared->Prop}{e:Expr}{t:TE}(p:PE (X.wish E) e t) (I:Inv X pins σ H s)
  (k:t σ H λ z H'=>∀u s',Inv X pins σ H' s'->RelV z u->Q u s'):wpAny (model X.prog X.w) X.A (eval e X.env) Q E s :=
 wpAny_mono (p pins s σ H _ (I.wish E) k) (λ u s' ⟨_,_,I',r,q⟩=>q u s' I'.unwish r) λ _ _ z=>z
theorem Jax {pins:List (Addr×Obj)}{s:Shared}{σ:L2.St}{H:Hp}{Q:Value->Shared->Prop}{E:Value->Shared->Prop}{f:Value->Value->Sem Value}{r:R2}{x y:V}{v u:Value}(p:OpR (X.wish E) f r) (I:Inv X pins σ H s) (rx:RelV x v) (ry:RelV y u)
  (k:r x y H λ z H'=>∀u s',Inv X pins σ H' s'->RelV z u->Q u s'):wpAny (model X.prog X.w) X.A (f v u) Q E s :=
 wpAny_mono (p pins s σ H x y v u _ (I.wish E) rx ry k) (λ u s' ⟨_,_,I',r,q⟩=>q u s' I'.unwish r) λ _ _ z=>z
theorem J5e {pins:List (Addr×Obj)}{s:Shared}{σ:L2.St}{H:Hp}{Q:Value->Shared->Prop}{E:Value->Shared->Prop}{f:Value->Sem Value}{r:V->Hp->VK->Prop}{x:V}{v:Value}(p:UnR (X.wish E) f r) (I:Inv X pins σ H s) (rx:RelV x v)
  (k:r x H λ z H'=>∀u s',Inv X pins σ H' s'->RelV z u->Q u s'):wpAny (model X.prog X.w) X.A (f v) Q E s :=
 wpAny_mono (p pins s σ H x v _ (I.wish E) rx k) (λ u s' ⟨_,_,I',r,q⟩=>q u s' I'.unwish r) λ _ _ z=>z
theorem Jek {pins:List (Addr×Obj)}{s:Shared}{σ:L2.St}{H:Hp}{Q:Bool->Shared->Prop}{E:Value->Shared->Prop}{r:V->Hp->(Bool->Hp->Prop)->Prop}{x:V}{v:Value}(p:TruR (X.wish E) r) (I:Inv X pins σ H s) (rx:RelV x v)
  (k:r x H λ z H'=>∀s',Inv X pins σ H' s'->Q z s'):wpAny (model X.prog X.w) X.A (truthy v) Q E s :=
 wpAny_mono (p pins s σ H x v _ (I.wish E) rx k) (λ _ s' ⟨_,I',q⟩=>q s' I'.unwish) λ _ _ z=>z
theorem Jar {pins:List (Addr×Obj)}{s:Shared}{σ:L2.St}{H:Hp}{Q:Value->Shared->Prop}{E:Value->Shared->Prop}{f:Value}{r:List V->Hp->VK->Prop}{xs:List V}{us:List Value}(p:Jsn (X.wish E) f r) (I:Inv X pins σ H s) (rx:Vals xs us)
  (k:r xs H λ z H'=>∀u s',Inv X pins σ H' s'->RelV z u->Q u s'):wpAny (model X.prog X.w) X.A (call f us) Q E s :=
 wpAny_mono (p pins s σ H xs us _ (I.wish E) rx k) (λ u s' ⟨_,_,I',r,q⟩=>q u s' I'.unwish r) λ _ _ z=>z
theorem J3s (i:Nat){x:Str}{pos:Pos}(hN:X.N[i]?=some x:=by rfl) (hv:Vis X.env.scope x:=by assumption) (hd:(x==("__debug__":Str))=false:=by decide)
  (hcd:(x==("__classdict__":Str))=false:=by decide):PEi ce X (.Name x pos) (eVar i):=by
 intro pins s σ H ι σi h Q E N K
 unfold eVar at K
 cases e:σi[i]? with
 | none =>
  rw[e] at K
  exact Zf K
 | some o =>
  cases o with
  | none =>
   rw[e] at K
   exact Zf K
  | some v =>
   rw[e] at K
   obtain⟨u,e1,q⟩:=N.st.at_ i v e
   exact Jkt (J4s (X:=X.wish E) hN hv hd hcd) N.inv ⟨u,e1,λ u' s' I' r'=>K u' s' H ι ⟨I',N.rel,N.st⟩ .refl ⟨u,r',q⟩⟩
theorem J3i {i j pos}:PEi ce X (.Constant (.int i) j pos) (eC (.int i)):=λ _ _ _ H ι _ _ _ E N K=>Jkt (J4p (X:=X.wish E)) N.inv λ u' s' I' r'=>K u' s' H ι ⟨I',N.rel,N.st⟩ .refl ⟨_,r',rfl⟩
theorem i_bl {i j pos}:PEi ce X (.Constant (.bool i) j pos) (eC (.bl i)):=λ _ _ _ H ι _ _ _ E N K=>Jkt (pe_bl (X:=X.wish E)) N.inv λ u' s' I' r'=>K u' s' H ι ⟨I',N.rel,N.st⟩ .refl ⟨_,r',rfl⟩
theorem J3o {j pos}:PEi ce X (.Constant .none j pos) (eC .non):=λ _ _ _ H ι _ _ _ E N K=>Jkt (J4q (X:=X.wish E)) N.inv λ u' s' I' r'=>K u' s' H ι ⟨I',N.rel,N.st⟩ .refl ⟨_,r',rfl⟩
theorem J3q {i j pos}:PEi ce X (.Constant (.str i) j pos) (eC (.str i)):=λ _ _ _ H ι _ _ _ E N K=>Jkt (J4r (X:=X.wish E)) N.inv λ u' s' I' r'=>K u' s' H ι ⟨I',N.rel,N.st⟩ .refl ⟨_,r',rfl⟩
theorem J3h {x:Str}{v:V}{iv:IV}{u:Value}{pos:Pos}(hg:Gl X x) (hm:X.mg x=some u) (r:RelV v u) (q:∀ι H,RV X.K ι H iv v) (hd:(x==("__debug__":Str))=false:=by decide):PEi ce X (.Name x pos) (eC iv) :=
 λ _ _ _ H ι _ _ _ E N K=>Jkt (J1g (X:=X.wish E) hg hm r hd) N.inv λ u' s' I' r'=>K u' s' H ι ⟨I',N.rel,N.st⟩ .refl ⟨_,r',q _ _⟩
theorem i_bin {op:Operator}{f:IV->IV->IH->Res IV}(ho:OpI ce X (binaryOp op) f) (ha:PEi ce X a ma) (hb:PEi ce X b mb):PEi ce X (.BinOp a op b pos) (eBin f ma mb) :=
 λ pins s σ H ι σi h Q E N K=>wpAny_BinOp (ha.run N K λ x h1 u s1 H1 ι1 N1 n1 r1 K1=>hb.run N1 K1 λ y h2 w s2 H2 ι2 N2 n2 r2 K2=>ho pins s2 σ H2 ι2 σi h2 x y u w Q E N2 (r1.mono n2) r2 K2)
theorem i_un {op:UnaryOp}{f:IV->IH->Res IV}(ho:UnI ce X (unaryOp op) f) (ha:PEi ce X a ma):PEi ce X (.UnaryOp op a pos) (eUn f ma) :=
 λ pins s σ H ι σi h Q E N K=>UnaryOp_ (ha.run N K λ x h1 u s1 H1 ι1 N1 n1 r1 K1=>ho pins s1 σ H1 ι1 σi h1 x u Q E N1 r1 K1)
theorem i_cmp {op:CmpOp}{f:IV->IV->IH->Res IV}(ho:OpI ce X (compareOp op) f) (ha:PEi ce X a ma) (hb:PEi ce X b mb) (hm:behindInMarks op b=false:=by assumption):PEi ce X (.Compare a [op] [b] pos) (eBin f ma mb) :=
 λ pins s σ H ι σi h Q E N K=>wpAny_Compare1 (ha.run N K λ x h1 u s1 H1 ι1 N1 n1 r1 K1=>hb.run N1 K1 λ y h2 w s2 H2 ι2 N2 n2 r2 K2=>ho pins s2 σ H2 ι2 σi h2 x y u w Q E N2 (r1.mono n2) r2 K2) hm
noncomputable def asB:IV->IH->Res Bool
 | .bl b,h=>.ok b h
 | _,_=>.stuck
theorem Kont.asB {pins:List (Addr×Obj)}{σ:L2.St}{H:Hp}{ι:List Addr}{σi:ISt}{r:Res IV}{Q:Bool->Shared->Prop}{E:Value->Shared->Prop}(K:Kont ce X RB pins ι σi σ H (r.bind asB) Q E) :
  Kont ce X RU pins ι σi σ H r (λ v s=>wpAny (model X.prog X.w) X.A (truthy v) Q E s) E:=by
 cases r with
 | exc n h=>exact K
 | stuck=>exact K
 | ok v h =>
  intro u s' H' ι' N n q
  obtain⟨x,rx,q⟩:=q
  cases v with
  | bl b =>
   have e:x=.bl b:=q
   subst e
   cases rx
   exact wpAny_truthy_bool (K b s' H' ι' N n rfl)
  | _=>exact Zf K
theorem Res.bind_bind {α β γ:Type}(r:Res α) (f:α->IH->Res β) (g:β->IH->Res γ):(r.bind f).bind g=r.bind λ x h=>(f x h).bind g:=by
 cases r<;>rfl
theorem t_cmp {op:CmpOp}{f:IV->IV->IH->Res IV}(ho:OpI ce X (compareOp op) f) (ha:PEi ce X a ma) (hb:PEi ce X b mb) (hm:behindInMarks op b=false:=by assumption):PTi ce X (.Compare a [op] [b] pos) (tOfB asB (eBin f ma mb)) :=
 λ pins s σ H ι σi h Q E N K=>by
  have K':Kont ce X RB pins ι σi σ H ((ma σi h).bind λ x h1=>(mb σi h1).bind λ y h2=>(f x y h2).bind asB) Q E:=by
   unfold tOfB eBin at K
   rw[Res.bind_bind] at K
   simp only[Res.bind_bind] at K
   exact K
  exact wpAny_isTrue_Compare1 (ha.run N K' λ x h1 u s1 H1 ι1 N1 n1 r1 K1=>hb.run N1 K1 λ y h2 w s2 H2 ι2 N2 n2 r2 K2=>ho pins s2 σ H2 ι2 σi h2 x y u w _ E N2 (r1.mono n2) r2 (Kont.asB K2)) hm
theorem J49 {tr:IV->IH->Res Bool}(ht:TrI ce X tr) (ha:PEi ce X a ma) (he:∀whole,isTrue a X.env whole=(do let v<-whole;standAt a.pos;holding [v] (truthy v)):=by intro _;rfl):PTi ce X a (tOfB tr ma) :=
 λ pins s σ H ι σi h Q E N K=>isTrue_plain (ha.run N K λ x h1 u s1 H1 ι1 N1 n1 r1 K1=>ht pins s1 σ H1 ι1 σi h1 x u Q E N1 r1 K1) (he _)
variable {rest:List Expr}{ta tb:T1}
theorem J10 (ha:PTi ce X a ta):PWi ce X (.BoolOp .And [a] pos) ta:=λ wh pins s σ H ι σi h Q E N K=>by
 refine isTrue_and (ha pins s σ H ι σi h _ E N ?_)
 cases e:ta σi h with
 | ok v h' =>
  rw[e] at K
  intro u s' H' ι' N' n' r
  have r':u=v:=r
  subst r'
  cases u with
  | true=>exact isTrue_and_nil (K true s' H' ι' N' n' rfl)
  | false=>exact K false s' H' ι' N' n' rfl
 | exc n h'=>rw[e] at K;exact K
 | stuck=>rw[e] at K;exact K
theorem J5c (ha:PTi ce X a ta):PWi ce X (.BoolOp .Or [a] pos) ta:=λ wh pins s σ H ι σi h Q E N K=>by
 refine isTrue_or (ha pins s σ H ι σi h _ E N ?_)
 cases e:ta σi h with
 | ok v h' =>
  rw[e] at K
  intro u s' H' ι' N' n' r
  have r':u=v:=r
  subst r'
  cases u with
  | false=>exact isTrue_or_nil (K false s' H' ι' N' n' rfl)
  | true=>exact K true s' H' ι' N' n' rfl
 | exc n h'=>rw[e] at K;exact K
 | stuck=>rw[e] at K;exact K
theorem J5b (ha:PTi ce X a ta) (hb:PWi ce X (.BoolOp .And (b::rest) pos) tb):PWi ce X (.BoolOp .And (a::b::rest) pos) (Jsh ta tb):=λ wh pins s σ H ι σi h Q E N K =>
 isTrue_and (ha.run N K λ c h1 u s1 H1 ι1 N1 n1 r1 K1=>by
  have r':u=c:=r1
  subst r'
  cases u with
  | true=>exact hb wh pins s1 σ H1 ι1 σi h1 Q E N1 K1
  | false=>exact K1 false s1 H1 ι1 N1 .refl rfl)
theorem tw_or (ha:PTi ce X a ta) (hb:PWi ce X (.BoolOp .Or (b::rest) pos) tb):PWi ce X (.BoolOp .Or (a::b::rest) pos) (tOrI ta tb):=λ wh pins s σ H ι σi h Q E N K =>
 isTrue_or (ha.run N K λ c h1 u s1 H1 ι1 N1 n1 r1 K1=>by
  have r':u=c:=r1
  subst r'
  cases u with
  | false=>exact hb wh pins s1 σ H1 ι1 σi h1 Q E N1 K1
  | true=>exact K1 true s1 H1 ι1 N1 .refl rfl)
theorem PWi.t (h:PWi ce X a ta):PTi ce X a ta:=h _
theorem t_not (ha:PTi ce X a ta):PTi ce X (.UnaryOp .Not a pos) (Jb6 ta):=λ pins s σ H ι σi h Q E N K =>
 isTrue_not (ha.run N K λ c h1 u s1 H1 ι1 N1 n1 r1 K1=>by
  have r':u=c:=r1
  subst r'
  exact K1 (!u) s1 H1 ι1 N1 .refl rfl)
theorem J3p {op} (h:PEi ce X a ma):PEi ce X (.BoolOp op [a] pos) ma:=λ pins s σ H ι σi h' Q E N K=>BoolOp_one (h pins s σ H ι σi h' Q E N K)
theorem i_and {tr:IV->IH->Res Bool}(ht:TrI ce X tr) (ha:PEi ce X a ma) (hb:PEi ce X (.BoolOp .And (b::rest) pos) mb):PEi ce X (.BoolOp .And (a::b::rest) pos) (eAnd ma mb tr):=λ pins s σ H ι σi h Q E N K =>
 BoolOp_and (ha.run N K λ x h1 u s1 H1 ι1 N1 n1 r1 K1=>by
  refine ht pins s1 σ H1 ι1 σi h1 x u _ E N1 r1 ?_
  cases e:tr x h1 with
  | ok c h2 =>
   rw[e] at K1
   intro d s2 H2 ι2 N2 n2 r2
   have r':d=c:=r2
   subst r'
   have K2:=Kont.mono (r:=if d=true then mb σi h2 else .ok x h2) K1 n2
   cases d with
   | true=>exact hb pins s2 σ H2 ι2 σi h2 Q E N2 K2
   | false=>exact K2 u s2 H2 ι2 N2 .refl (r1.mono n2)
  | exc n h'=>rw[e] at K1;exact K1
  | stuck=>rw[e] at K1;exact K1)
theorem i_or {tr:IV->IH->Res Bool}(ht:TrI ce X tr) (ha:PEi ce X a ma) (hb:PEi ce X (.BoolOp .Or (b::rest) pos) mb):PEi ce X (.BoolOp .Or (a::b::rest) pos) (eOr ma mb tr):=λ pins s σ H ι σi h Q E N K =>
 BoolOp_or (ha.run N K λ x h1 u s1 H1 ι1 N1 n1 r1 K1=>by
  refine ht pins s1 σ H1 ι1 σi h1 x u _ E N1 r1 ?_
  cases e:tr x h1 with
  | ok c h2 =>
   rw[e] at K1
   intro d s2 H2 ι2 N2 n2 r2
   have r':d=c:=r2
   subst r'
   have K2:=Kont.mono (r:=if d=true then .ok x h2 else mb σi h2) K1 n2
   cases d with
   | false=>exact hb pins s2 σ H2 ι2 σi h2 Q E N2 K2
   | true=>exact K2 u s2 H2 ι2 N2 .refl (r1.mono n2)
  | exc n h'=>rw[e] at K1;exact K1
  | stuck=>rw[e] at K1;exact K1)
noncomputable def Jrw (tr:IV->IH->Res Bool):IV->IH->Res IV:=λ x h=>(tr x h).bind λ c h1=>.ok (.bl (!c)) h1
theorem J11 {tr:IV->IH->Res Bool}(ht:TrI ce X tr):UnI ce X (unaryOp .Not) (Jrw tr):=λ pins s σ H ι σi h x v Q E N r K=>by
 refine not_of (ht pins s σ H ι σi h x v _ E N r ?_)
 unfold Jrw at K
 cases e:tr x h with
 | ok c h2 =>
  rw[e] at K
  intro d s2 H2 ι2 N2 n2 r2
  have r':d=c:=r2
  subst r'
  exact K _ s2 H2 ι2 N2 n2 ⟨.bl (!d),rfl,rfl⟩
 | exc n h'=>rw[e] at K;exact K
 | stuck=>rw[e] at K;exact K
theorem J0q {t:Expr}{mt:T1}(ht:PTi ce X t mt) (ha:PEi ce X a ma) (hb:PEi ce X b mb):PEi ce X (.IfExp t a b pos) (eIf mt ma mb):=λ pins s σ H ι σi h Q E N K =>
 wpAny_IfExp (ht.run N K λ c h1 u s1 H1 ι1 N1 n1 r1 K1=>by
  have r':u=c:=r1
  subst r'
  cases u with
  | true=>exact ha pins s1 σ H1 ι1 σi h1 Q E N1 K1
  | false=>exact hb pins s1 σ H1 ι1 σi h1 Q E N1 K1)
theorem J0p {op op':CmpOp}{f g:IV->IV->IH->Res IV}(ho:OpI ce X (compareOp op) f) (ho':OpI ce X (compareOp op') g) (ha:PEi ce X a ma) (hb:PEi ce X b mb) (hc:PEi ce X c mc)
  (hm:lastMarks [op,op'] [b,c]=false:=by with_unfolding_all rfl):PEi ce X (.Compare a [op,op'] [b,c] pos) (Jd9 f g ma mb mc):=λ pins s σ H ι σi h Q E N K =>
 Compare_chain (ha.run N K λ x h1 u s1 H1 ι1 N1 n1 r1 K1=>chain_link (hb.run N1 K1 λ y h2 w s2 H2 ι2 N2 n2 r2 K2=>by
  refine ho pins s2 σ H2 ι2 σi h2 x y u w _ E N2 (r1.mono n2) r2 ?_
  cases e:f x y h2 with
  | exc n h'=>rw[e] at K2;exact K2
  | stuck=>rw[e] at K2;exact K2
  | ok k h3 =>
   rw[e] at K2
   intro d s3 H3 ι3 N3 n3 r3
   obtain⟨z,rz,q⟩:=r3
   cases k with
   | bl k =>
    have e':z=.bl k:=q
    subst e'
    cases rz
    refine wpAny_truthy_bool ?_
    have K3:=Kont.mono (r:=match IV.bl k with|.bl true=>(mc σi h3).bind λ z h4=>g y z h4|.bl false=>.ok (.bl false) h3|_=>.stuck) K2 n3
    cases k with
    | false=>exact ite_ff (K3 _ s3 H3 ι3 N3 .refl ⟨.bl false,rfl,rfl⟩)
    | true=>exact ite_tt (chain_last (hc.run N3 K3 λ z h4 w' s4 H4 ι4 N4 n4 r4 K4=>ho' pins s4 σ H4 ι4 σi h4 y z w w' Q E N4 ((r2.mono n3).mono n4) r4 K4))
   | _=>exact Zf K2)) hm
theorem J1z {op op':CmpOp}{f g:IV->IV->IH->Res IV}(ho:OpI ce X (compareOp op) f) (ho':OpI ce X (compareOp op') g) (ha:PEi ce X a ma) (hb:PEi ce X b mb) (hc:PEi ce X c mc)
  (hm:lastMarks [op,op'] [b,c]=false:=by with_unfolding_all rfl):PTi ce X (.Compare a [op,op'] [b,c] pos) (tOfB asB (Jd9 f g ma mb mc)):=λ pins s σ H ι σi h Q E N K=>by
 have K':Kont ce X RB pins ι σi σ H ((ma σi h).bind λ x h1=>(mb σi h1).bind λ y h2=>(f x y h2).bind λ k h3=>(match k with|.bl true=>(mc σi h3).bind λ z h4=>g y z h4|.bl false=>.ok (.bl false) h3|_=>.stuck:Res IV).bind asB) Q E:=by
  unfold tOfB Jd9 at K
  rw[Res.bind_bind] at K
  simp only[Res.bind_bind] at K
  exact K
 refine isTrue_chain (ha.run N K' λ x h1 u s1 H1 ι1 N1 n1 r1 K1=>test_link (hb.run N1 K1 λ y h2 w s2 H2 ι2 N2 n2 r2 K2=>?_)) hm
 refine ho pins s2 σ H2 ι2 σi h2 x y u w _ E N2 (r1.mono n2) r2 ?_
 cases e:f x y h2 with
 | exc n h'=>rw[e] at K2;exact K2
 | stuck=>rw[e] at K2;exact K2
 | ok k h3 =>
  rw[e] at K2
  intro d s3 H3 ι3 N3 n3 r3
  obtain⟨z,rz,q⟩:=r3
  cases k with
  | bl k =>
   have e':z=.bl k:=q
   subst e'
   cases rz
   refine wpAny_truthy_bool ?_
   have K3:=Kont.mono (r:=(match IV.bl k with|.bl true=>(mc σi h3).bind λ z h4=>g y z h4|.bl false=>.ok (.bl false) h3|_=>.stuck:Res IV).bind asB) K2 n3
   cases k with
   | false=>exact ite_ff (K3 _ s3 H3 ι3 N3 .refl rfl)
   | true =>
    have K3':Kont ce X RB pins ι3 σi σ H3 ((mc σi h3).bind λ z h4=>(g y z h4).bind asB) Q E:=by
     have:=K3
     dsimp only at this
     rw[Res.bind_bind] at this
     exact this
    exact ite_tt (test_last (hc.run N3 K3' λ z h4 w' s4 H4 ι4 N4 n4 r4 K4=>ho' pins s4 σ H4 ι4 σi h4 y z w w' _ E N4 ((r2.mono n3).mono n4) r4 (Kont.asB K4)))
  | _=>exact Zf K2
variable {es:List Expr}{mr:A1}
theorem RUs.nil {K:W.Frag}{ι:List Addr}{H:Hp}:RUs K ι H [] []:=⟨[],.nil,rfl⟩
theorem RUs.cons {K:W.Frag}{ι:List Addr}{H:Hp}{x:IV}{u:Value}{xs:List IV}{us:List Value}(a:RU K ι H x u) (b:RUs K ι H xs us):RUs K ι H (x::xs) (u::us) :=
 let ⟨v,r,q⟩:=a;let ⟨vs,rs,qs⟩:=b;⟨v::vs,.cons r rs,v,vs,rfl,q,qs⟩
theorem Jj0:PAi ce X [] aNil:=λ _ pins s σ H ι σi h Q E N K=>Calls.spliced_nil (K [] s H ι N .refl .nil)
theorem Jdl (ha:PEi ce X a ma) (hr:PAi ce X es mr) (hs:starEach (a::es) X.env=(false,eval a X.env)::starEach es X.env:=by rfl):PAi ce X (a::es) (Ja ma mr):=by
 intro pos pins s σ H ι σi h Q E N K
 rw[hs]
 show wpAny _ _ (spliced ((false,eval a X.env)::backTo pos (starEach es X.env))) _ _ s
 exact Calls.spliced_cons (ha.run N K λ x h1 u s1 H1 ι1 N1 n1 r1 K1=>(hr pos).run N1 K1 λ xs h2 us s2 H2 ι2 N2 n2 r2 K2=>K2 _ s2 H2 ι2 N2 .refl (.cons (r1.mono n2) r2))
end
noncomputable def Jr:IV->IV->IH->Res IV
 | .int i,.int j,h=>.ok (.int (i+j)) h
 | .str x,.str y,h=>if x.length+y.length<=sizeLine then .ok (.str (x++y)) h else .stuck
 | .ref i,.ref j,h=>match h[i]?,h[j]? with
  | some (.lst xs),some (.lst ys)=>if xs.length+ys.length<=sizeLine then .ok (.ref h.length) (h++[.lst (xs++ys)]) else .stuck
  | _,_=>.stuck
 | _,_,_=>.stuck
noncomputable def Jfk:IV->IV->IH->Res IV
 | .int i,.int j,h=>.ok (.int (i-j)) h
 | _,_,_=>.stuck
noncomputable def Ju (i j:Int):Prop:=i.natAbs<2^64∨j.natAbs<2^64∨(i.natAbs.log2<1048576/\j.natAbs.log2<1048576)
noncomputable instance (i j:Int):Decidable (Ju i j):=by unfold Ju;exact inferInstance
noncomputable def Jrv:IV->IV->IH->Res IV
 | .int i,.int j,h=>if Ju i j then .ok (.int (i*j)) h else .stuck
 | .ref i,.int k,h=>match h[i]? with
  | some (.lst xs)=>if -(2^63)<=k/\k<2^63/\xs.length*k.toNat<=sizeLine then .ok (.ref h.length) (h++[.lst (List.replicate k.toNat xs).flatten]) else .stuck
  | _=>.stuck
 | _,_,_=>.stuck
noncomputable def Jaf:IV->IV->IH->Res IV
 | .int i,.int j,h=>if 0<j/\j.natAbs.log2<9000 then .ok (.int (i/j)) h else .stuck
 | _,_,_=>.stuck
noncomputable def Jbd:IV->IV->IH->Res IV
 | .int i,.int j,h=>if 0<j then .ok (.int (i%j)) h else .stuck
 | _,_,_=>.stuck
noncomputable def Jhb:IV->IV->IH->Res IV
 | .int i,.int j,h=>if 0<=j/\j<=1000000/\i.natAbs<2^64 then .ok (.int (i^j.toNat)) h else .stuck
 | _,_,_=>.stuck
noncomputable def J1c:IV->IH->Res IV
 | .int i,h=>.ok (.int (-i)) h
 | _,_=>.stuck
section
variable {ce:Str->Option Addr}{X:Cx}
theorem fin0 {pins:List (Addr×Obj)}{s:Shared}{σ:L2.St}{H:Hp}{ι:List Addr}{σi:ISt}{h:IH}{v:IV}{w:V}{Q:Value->Shared->Prop}{E:Value->Shared->Prop}(N:Now ce X pins ι σi h σ H s) (K:Kont ce X RU pins ι σi σ H (.ok v h) Q E)
  (q:RV X.K ι H v w):∀u s',Inv X pins σ H s'->RelV w u->Q u s':=λ u s' I r=>K u s' H ι ⟨I,N.rel,N.st⟩ .refl ⟨w,r,q⟩
theorem finA {pins:List (Addr×Obj)}{s:Shared}{σ:L2.St}{H:Hp}{ι:List Addr}{σi:ISt}{h:IH}{io:IO}{o:HO}{Q:Value->Shared->Prop}{E:Value->Shared->Prop}(N:Now ce X pins ι σi h σ H s)
  (K:Kont ce X RU pins ι σi σ H (.ok (.ref h.length) (h++[io])) Q E) (l:Addr) (e:H l=none) (r:RO ce X.K (ι++[l]) (upd H l o) l io):∀u s',Inv X pins σ (upd H l o) s'->RelV (.ref l) u->Q u s':=λ u s' I ru=>by
 obtain⟨R,n⟩:=N.rel.alloc e r
 refine K u s' _ _ ⟨I,R,N.st.mono n⟩ n ⟨.ref l,ru,l,rfl,?_⟩
 rw[<- N.rel.len,List.getElem?_append_right (Nat.le_refl _)]
 simp
theorem finT {pins:List (Addr×Obj)}{s:Shared}{σ:L2.St}{H:Hp}{ι:List Addr}{σi:ISt}{h:IH}{xs:List IV}{vs:List V}{Q:Value->Shared->Prop}{E:Value->Shared->Prop}(N:Now ce X pins ι σi h σ H s)
  (K:Kont ce X RU pins ι σi σ H (.ok (.tup xs) h) Q E) (l:Addr) (e:H l=none) (r:RVs X.K ι H xs vs):∀u s',Inv X pins σ (upd H l (.tup vs)) s'->RelV (.ref l) u->Q u s':=λ u s' I ru=>by
 obtain⟨R,n⟩:=N.rel.grow (o:=.tup vs) e
 exact K u s' _ _ ⟨I,R,N.st.mono n⟩ n ⟨.ref l,ru,l,vs,rfl,SqT.of Jg,RVs.mono n _ _ r⟩
theorem RVs.new {K:W.Frag}{ι:List Addr}{H:Hp}{l:Addr}{o:HO}(e:H l=none){xs:List IV}{vs:List V}(r:RVs K ι H xs vs):RVs K (ι++[l]) (upd H l o) xs vs:=RVs.mono ⟨⟨[l],rfl⟩,Ext.upd_new e⟩ _ _ r
theorem Now.at {pins:List (Addr×Obj)}{s:Shared}{σ:L2.St}{H:Hp}{ι:List Addr}{σi:ISt}{h:IH}(N:Now ce X pins ι σi h σ H s){i:Nat}{o:IO}(e:h[i]?=some o){a:Addr}(ha:ι[i]?=some a):RO ce X.K ι H a o:=by
 obtain⟨b,e1,r⟩:=N.rel.at_ i o e
 rw[ha] at e1
 cases e1
 exact r
theorem o_add:OpI ce X (binaryOp .Add) Jr:=by
 intro pins s σ H ι σi h x y v u Q E N rx ry K
 obtain⟨xv,rx,qx⟩:=rx
 obtain⟨yv,ry,qy⟩:=ry
 cases x with
 | int i =>
  cases y with
  | int j =>
   have e1:xv=.int i:=qx
   have e2:yv=.int j:=qy
   subst e1 e2
   exact Jax (J4g (X:=X.wish E)) N.inv rx ry ⟨i,j,rfl,rfl,fin0 N K rfl⟩
  | _=>exact Zf K
 | str i =>
  cases y with
  | str j =>
   have e1:xv=.str i:=qx
   have e2:yv=.str j:=qy
   subst e1 e2
   dsimp only[Jr] at K
   split at K
   ·rename_i hz
    exact Jax (Jrx (X:=X.wish E)) N.inv rx ry ⟨i,j,rfl,rfl,hz,fin0 N K rfl⟩
   ·exact Zf K
  | _=>exact Zf K
 | ref i =>
  cases y with
  | ref j =>
   obtain⟨a,e1,ha⟩:=qx
   obtain⟨b,e2,hb⟩:=qy
   subst e1 e2
   dsimp only[Jr] at K
   cases hi:h[i]? with
   | none=>rw[hi] at K;exact Zf K
   | some oi =>
    cases hj:h[j]? with
    | none=>rw[hi,hj] at K;cases oi<;>exact Zf K
    | some oj =>
     rw[hi,hj] at K
     cases oi with
     | lst xs =>
      cases oj with
      | lst ys =>
       dsimp only at K
       split at K
       ·rename_i hz
        obtain⟨vs,e1,r1⟩:=N.at hi ha
        obtain⟨ws,e2,r2⟩:=N.at hj hb
        exact Jax (J4h (X:=X.wish E)) N.inv rx ry ⟨a,b,vs,ws,rfl,rfl,e1,e2,by rw[r1.length,r2.length];exact hz,λ p hp=>finA N K p hp ⟨_,Jg,RVs.new hp (r1.append r2)⟩⟩
       ·exact Zf K
      | _=>exact Zf K
     | _=>exact Zf K
  | _=>exact Zf K
 | _=>cases y<;>exact Zf K
theorem o_sub:OpI ce X (binaryOp .Sub) Jfk:=by
 intro pins s σ H ι σi h x y v u Q E N rx ry K
 obtain⟨xv,rx,qx⟩:=rx
 obtain⟨yv,ry,qy⟩:=ry
 cases x with
 | int i =>
  cases y with
  | int j =>
   have e1:xv=.int i:=qx
   have e2:yv=.int j:=qy
   subst e1 e2
   exact Jax (J4l (X:=X.wish E)) N.inv rx ry ⟨i,j,rfl,rfl,fin0 N K rfl⟩
  | _=>exact Zf K
 | _=>cases y<;>exact Zf K
theorem Ju.ok {i j:Int}(h:Ju i j):IntMulOk i j:=by
 rcases h with h|h|⟨h1,h2⟩
 ·exact .of_left (intBits_le_64 (by omega) (by omega))
 ·exact .of_right (intBits_le_64 (by omega) (by omega))
 ·refine .of_bits ?_ ?_
  ·unfold Builtin.Int.intBits
   split
   ·exact Nat.zero_le _
   ·have:(2:Nat)^20=1048576:=by decide
    omega
  ·unfold Builtin.Int.intBits
   split
   ·exact Nat.zero_le _
   ·have:(2:Nat)^20=1048576:=by decide
    omega
theorem J1d:OpR X (binaryOp .Mult) (rI Ju λ i j=>.int (i*j)):=opI λ _ _ _ _ _ _ _ hc q=>mul_int q hc.ok
theorem o_mul:OpI ce X (binaryOp .Mult) Jrv:=by
 intro pins s σ H ι σi h x y v u Q E N rx ry K
 obtain⟨xv,rx,qx⟩:=rx
 obtain⟨yv,ry,qy⟩:=ry
 cases x with
 | int i =>
  cases y with
  | int j =>
   have e1:xv=.int i:=qx
   have e2:yv=.int j:=qy
   subst e1 e2
   dsimp only[Jrv] at K
   split at K
   ·rename_i hz
    exact Jax (J1d (X:=X.wish E)) N.inv rx ry ⟨i,j,rfl,rfl,hz,fin0 N K rfl⟩
   ·exact Zf K
  | _=>exact Zf K
 | ref i =>
  cases y with
  | int k =>
   obtain⟨a,e1,ha⟩:=qx
   have e2:yv=.int k:=qy
   subst e1 e2
   dsimp only[Jrv] at K
   cases hi:h[i]? with
   | none=>rw[hi] at K;exact Zf K
   | some oi =>
    rw[hi] at K
    cases oi with
    | lst xs =>
     dsimp only at K
     split at K
     ·rename_i hz
      obtain⟨vs,e1,r1⟩:=N.at hi ha
      have rr:∀n:Nat,RVs X.K ι H (List.replicate n xs).flatten (List.replicate n vs).flatten:=λ n=>by
       induction n with
       | zero=>exact rfl
       | succ n ih =>
        rw[List.replicate_succ,List.replicate_succ,List.flatten_cons,List.flatten_cons]
        exact r1.append ih
      exact Jax (J4k (X:=X.wish E)) N.inv rx ry ⟨a,k,vs,rfl,rfl,e1,hz.1,hz.2.1,by rw[r1.length];exact hz.2.2,λ p hp=>finA N K p hp ⟨_,Jg,RVs.new hp (rr _)⟩⟩
     ·exact Zf K
    | _=>exact Zf K
  | _=>exact Zf K
 | _=>cases y<;>exact Zf K
theorem Jxt:OpR X (binaryOp .FloorDiv) (rI (λ _ j=>0<j/\j.natAbs.log2<9000) λ i j=>.int (i/j)):=opI λ i j _ _ _ _ _ hc q=>by
 have h1:(0:Int)<j:=hc.1
 exact floordiv_int (by omega) (by rw[Int.fdiv_eq_ediv_of_nonneg i (by omega)];exact q) (.inl (PyProof.noPylong_of_log2 hc.2))
theorem J4e:OpI ce X (binaryOp .FloorDiv) Jaf:=by
 intro pins s σ H ι σi h x y v u Q E N rx ry K
 obtain⟨xv,rx,qx⟩:=rx
 obtain⟨yv,ry,qy⟩:=ry
 cases x with
 | int i =>
  cases y with
  | int j =>
   have e1:xv=.int i:=qx
   have e2:yv=.int j:=qy
   subst e1 e2
   dsimp only[Jaf] at K
   split at K
   ·rename_i hz
    exact Jax (Jxt (X:=X.wish E)) N.inv rx ry ⟨i,j,rfl,rfl,hz,fin0 N K rfl⟩
   ·exact Zf K
  | _=>exact Zf K
 | _=>cases y<;>exact Zf K
theorem o_mod:OpI ce X (binaryOp .Mod) Jbd:=by
 intro pins s σ H ι σi h x y v u Q E N rx ry K
 obtain⟨xv,rx,qx⟩:=rx
 obtain⟨yv,ry,qy⟩:=ry
 cases x with
 | int i =>
  cases y with
  | int j =>
   have e1:xv=.int i:=qx
   have e2:yv=.int j:=qy
   subst e1 e2
   dsimp only[Jbd] at K
   split at K
   ·rename_i hz
    exact Jax (J4i (X:=X.wish E)) N.inv rx ry ⟨i,j,rfl,rfl,hz,fin0 N K rfl⟩
   ·exact Zf K
  | _=>exact Zf K
 | _=>cases y<;>exact Zf K
theorem o_pow:OpI ce X (binaryOp .Pow) Jhb:=by
 intro pins s σ H ι σi h x y v u Q E N rx ry K
 obtain⟨xv,rx,qx⟩:=rx
 obtain⟨yv,ry,qy⟩:=ry
 cases x with
 | int i =>
  cases y with
  | int j =>
   have e1:xv=.int i:=qx
   have e2:yv=.int j:=qy
   subst e1 e2
   dsimp only[Jhb] at K
   split at K
   ·rename_i hz
    exact Jax (J4j (X:=X.wish E)) N.inv rx ry ⟨i,j,rfl,rfl,hz,fin0 N K rfl⟩
   ·exact Zf K
  | _=>exact Zf K
 | _=>cases y<;>exact Zf K
theorem u_neg:UnI ce X (unaryOp .USub) J1c:=by
 intro pins s σ H ι σi h x v Q E N rx K
 obtain⟨xv,rx,qx⟩:=rx
 cases x with
 | int i =>
  have e1:xv=.int i:=qx
  subst e1
  exact J5e (J5d (X:=X.wish E)) N.inv rx ⟨i,rfl,fin0 N K rfl⟩
 | _=>exact Zf K
noncomputable def cLt:IV->IV->IH->Res IV
 | .int i,.int j,h=>.ok (.bl (decide (i<j))) h
 | .str x,.str y,h=>.ok (.bl (decide (x.cps.toList<y.cps.toList))) h
 | _,_,_=>.stuck
noncomputable def cLe:IV->IV->IH->Res IV
 | .int i,.int j,h=>.ok (.bl (decide (i<=j))) h
 | .str x,.str y,h=>.ok (.bl (!decide (y.cps.toList<x.cps.toList))) h
 | _,_,_=>.stuck
noncomputable def cGt:IV->IV->IH->Res IV
 | .int i,.int j,h=>.ok (.bl (decide (j<i))) h
 | _,_,_=>.stuck
noncomputable def cGe:IV->IV->IH->Res IV
 | .int i,.int j,h=>.ok (.bl (decide (j<=i))) h
 | _,_,_=>.stuck
theorem o_lt:OpI ce X (compareOp .Lt) cLt:=by
 intro pins s σ H ι σi h x y v u Q E N rx ry K
 obtain⟨xv,rx,qx⟩:=rx
 obtain⟨yv,ry,qy⟩:=ry
 cases x with
 | int i =>
  cases y with
  | int j =>
   have e1:xv=.int i:=qx
   have e2:yv=.int j:=qy
   subst e1 e2
   exact Jax (op_lt (X:=X.wish E)) N.inv rx ry ⟨i,j,rfl,rfl,fin0 N K rfl⟩
  | _=>exact Zf K
 | str i =>
  cases y with
  | str j =>
   have e1:xv=.str i:=qx
   have e2:yv=.str j:=qy
   subst e1 e2
   exact Jax (Jur (X:=X.wish E)) N.inv rx ry ⟨i,j,rfl,rfl,fin0 N K rfl⟩
  | _=>exact Zf K
 | _=>cases y<;>exact Zf K
theorem o_le:OpI ce X (compareOp .LtE) cLe:=by
 intro pins s σ H ι σi h x y v u Q E N rx ry K
 obtain⟨xv,rx,qx⟩:=rx
 obtain⟨yv,ry,qy⟩:=ry
 cases x with
 | int i =>
  cases y with
  | int j =>
   have e1:xv=.int i:=qx
   have e2:yv=.int j:=qy
   subst e1 e2
   exact Jax (op_le (X:=X.wish E)) N.inv rx ry ⟨i,j,rfl,rfl,fin0 N K rfl⟩
  | _=>exact Zf K
 | str i =>
  cases y with
  | str j =>
   have e1:xv=.str i:=qx
   have e2:yv=.str j:=qy
   subst e1 e2
   obtain⟨t,rfl⟩:=rx
   obtain⟨t',rfl⟩:=ry
   exact PySem.P.le_str (fin0 N K rfl _ s N.inv rfl)
  | _=>exact Zf K
 | _=>cases y<;>exact Zf K
theorem o_gt:OpI ce X (compareOp .Gt) cGt:=by
 intro pins s σ H ι σi h x y v u Q E N rx ry K
 obtain⟨xv,rx,qx⟩:=rx
 obtain⟨yv,ry,qy⟩:=ry
 cases x with
 | int i =>
  cases y with
  | int j =>
   have e1:xv=.int i:=qx
   have e2:yv=.int j:=qy
   subst e1 e2
   exact Jax (op_gt (X:=X.wish E)) N.inv rx ry ⟨i,j,rfl,rfl,fin0 N K rfl⟩
  | _=>exact Zf K
 | _=>cases y<;>exact Zf K
theorem o_ge:OpI ce X (compareOp .GtE) cGe:=by
 intro pins s σ H ι σi h x y v u Q E N rx ry K
 obtain⟨xv,rx,qx⟩:=rx
 obtain⟨yv,ry,qy⟩:=ry
 cases x with
 | int i =>
  cases y with
  | int j =>
   have e1:xv=.int i:=qx
   have e2:yv=.int j:=qy
   subst e1 e2
   exact Jax (op_ge (X:=X.wish E)) N.inv rx ry ⟨i,j,rfl,rfl,fin0 N K rfl⟩
  | _=>exact Zf K
 | _=>cases y<;>exact Zf K
noncomputable def tru:IV->IH->Res Bool
 | .non,h=>.ok false h
 | .bl b,h=>.ok b h
 | .int i,h=>.ok (i != 0) h
 | .str x,h=>if x.length<=sizeLine then .ok ((x.length:Int) != 0) h else .stuck
 | .tup xs,h=>.ok (!xs.isEmpty) h
 | .rol xs,h=>.ok (!xs.isEmpty) h
 | .ref i,h=>match h[i]? with
  | some (.lst xs)=>.ok (!xs.isEmpty) h
  | some (.dct kvs)=>.ok (!kvs.isEmpty) h
  | _=>.stuck
theorem RVs.empty {K:W.Frag}{ι:List Addr}{H:Hp}{xs:List IV}{vs:List V}(r:RVs K ι H xs vs):vs.isEmpty=xs.isEmpty:=by
 have:=r.length
 cases xs<;>cases vs<;>simp_all
theorem RPs.empty {κ:Type}{K:W.Frag}{ι:List Addr}{H:Hp}{xs:List (κ×IV)}{vs:List (κ×V)}(r:RPs K ι H xs vs):vs.isEmpty=xs.isEmpty:=by
 have:=r.length
 cases xs<;>cases vs<;>simp_all
theorem finB {pins:List (Addr×Obj)}{s:Shared}{σ:L2.St}{H:Hp}{ι:List Addr}{σi:ISt}{h:IH}{c:Bool}{Q:Bool->Shared->Prop}{E:Value->Shared->Prop}(N:Now ce X pins ι σi h σ H s) (K:Kont ce X RB pins ι σi σ H (.ok c h) Q E) :
  ∀s',Inv X pins σ H s'->Q c s':=λ s' I=>K c s' H ι ⟨I,N.rel,N.st⟩ .refl rfl
theorem Jn3:TrI ce X tru:=by
 intro pins s σ H ι σi h x v Q E N rx K
 obtain⟨xv,rx,qx⟩:=rx
 cases x with
 | non =>
  have e1:xv=.non:=qx
  subst e1
  exact Jek (Jh4 (X:=X.wish E)) N.inv rx ⟨_,rfl,finB N K⟩
 | bl b =>
  have e1:xv=.bl b:=qx
  subst e1
  exact Jek (Jh4 (X:=X.wish E)) N.inv rx ⟨_,rfl,finB N K⟩
 | int i =>
  have e1:xv=.int i:=qx
  subst e1
  exact Jek (Jh4 (X:=X.wish E)) N.inv rx ⟨_,rfl,finB N K⟩
 | str y =>
  have e1:xv=.str y:=qx
  subst e1
  dsimp only[tru] at K
  split at K
  ·rename_i hz
   exact Jek (Jh4 (X:=X.wish E)) N.inv rx ⟨_,⟨hz,rfl⟩,finB N K⟩
  ·exact Zf K
 | tup xs =>
  obtain⟨a,vs,e1,sa,ra⟩:=qx
  subst e1
  exact Jek (Jh4 (X:=X.wish E)) N.inv rx ⟨!xs.isEmpty,.inr (.inl ⟨vs,sa,by rw[ra.empty]⟩),finB N K⟩
 | rol xs =>
  obtain⟨a,vs,e1,sa,ra⟩:=qx
  subst e1
  exact Jek (Jh4 (X:=X.wish E)) N.inv rx ⟨!xs.isEmpty,.inl ⟨vs,sa.sq,by rw[ra.empty]⟩,finB N K⟩
 | ref i =>
  obtain⟨a,e1,ha⟩:=qx
  subst e1
  dsimp only[tru] at K
  cases hi:h[i]? with
  | none=>rw[hi] at K;exact Zf K
  | some oi =>
   rw[hi] at K
   cases oi with
   | lst xs =>
    obtain⟨vs,e1,r1⟩:=N.at hi ha
    exact Jek (Jh4 (X:=X.wish E)) N.inv rx ⟨!xs.isEmpty,.inl ⟨vs,SqL.of e1,by rw[r1.empty]⟩,finB N K⟩
   | dct kvs =>
    obtain⟨vs,e1,r1⟩:=N.at hi ha
    exact Jek (Jh4 (X:=X.wish E)) N.inv rx ⟨!kvs.isEmpty,.inr (.inr ⟨vs,e1,by rw[r1.empty]⟩),finB N K⟩
   | _=>exact Zf K
noncomputable def eTup (a:A1):E1:=λ σ h=>(a σ h).bind λ xs h1=>if xs.length<=sizeLine then .ok (.tup xs) h1 else .stuck
noncomputable def eLst (a:A1):E1:=λ σ h=>(a σ h).bind λ xs h1=>if xs.length<=sizeLine then .ok (.ref h1.length) (h1++[.lst xs]) else .stuck
variable {es:List Expr}{mr:A1}{pos:Pos}
theorem J3r {x1} (hr:PAi ce X es mr):PEi ce X (.Tuple es x1 pos) (eTup mr):=λ pins s σ H ι σi h Q E N K=>by
 refine wpAny_Tuple_spliced ((hr pos).run N K λ xs h1 us s1 H1 ι1 N1 n1 r1 K1=>?_)
 change Kont ce X RU pins ι1 σi σ H1 (if xs.length<=sizeLine then _ else _) Q E at K1
 split at K1
 ·rename_i hz
  obtain⟨vs,rv,qs⟩:=r1
  have hl:=rv.length
  have hl2:=qs.length
  have hf:H1 s1.heap.objs.size=none:=N1.inv.hok.fresh (Nat.le_refl _)
  refine⟨by rw[<- hl,hl2];exact hz,?_⟩
  exact finT N1 K1 s1.heap.objs.size hf qs _ _ (N1.inv.laid (t':=s1.toks) (λ b u e=>Heap.get?_push_of_some _ e) (Nat.le_refl _) ⟨by rw[hl2];exact hz,us,rv,⟨_,Heap.get?_push_size _ rfl,rfl,_,rfl⟩⟩) rfl
 ·exact Zf K1
theorem J3k (hr:PAi ce X es mr):PEi ce X (.List es pos) (eLst mr):=λ pins s σ H ι σi h Q E N K=>by
 refine wpAny_List_spliced ((hr pos).run N K λ xs h1 us s1 H1 ι1 N1 n1 r1 K1=>?_)
 change Kont ce X RU pins ι1 σi σ H1 (if xs.length<=sizeLine then _ else _) Q E at K1
 split at K1
 ·rename_i hz
  obtain⟨vs,rv,qs⟩:=r1
  have hl:=rv.length
  have hl2:=qs.length
  have hf:H1 s1.heap.objs.size=none:=N1.inv.hok.fresh (Nat.le_refl _)
  refine⟨by rw[<- hl,hl2];exact hz,?_⟩
  exact finA N1 K1 s1.heap.objs.size hf ⟨_,Jg,RVs.new hf qs⟩ _ _ (N1.inv.laid (t':=s1.toks) (λ b u e=>Heap.get?_push_of_some _ e) (Nat.le_refl _) ⟨by rw[hl2];exact hz,us,0,rv,Heap.get?_push_size _ rfl⟩) rfl
 ·exact Zf K1
end
section
variable {prog:Program}{w:World}{A:Around}{E:Value->Shared->Prop}{s:Shared}
theorem Jml {it t:Addr}{items:Array Value}(hne:t≠it):∀(n i:Nat) (s:Shared) (Q:List Value->Shared->Prop),s.heap.IsListIter it t i->s.heap.IsList t items->i+n<=items.size ->
  (∀h',h'.IsListIter it t (i+n)->Heap.SameBut it s.heap h'->Q ((items.toList.drop i).take n) { s with heap:=h' })->wpAny (model prog w) A (draw (.ref it) n) Q E s
 | 0,i,s,Q,hit,_,_,hQ=>by
  show wpAny _ _ (pure []) Q E s
  exact wpAny_pure (by simpa using hQ s.heap hit (Heap.SameBut.refl ..))
 | n+1,i,s,Q,hit,ht,hle,hQ=>by
  have hlt:i<items.size:=by omega
  show wpAny _ _ (pyNext (.ref it)>>=_) Q E s
  refine wpAny_bind (wpAny_pyNext_list_item hit ht (x:=items[i]) (by simp[hlt]) λ h₁ hit₁ hs₁=>?_)
  refine wpAny_bind (wpAny_holding (Jml hne n (i+1) _ _ hit₁ (ht.extBut hs₁.extBut hne) (by omega) λ h₂ hit₂ hs₂=>wpAny_pure ?_))
  have hd:items.toList.drop i=items[i]::items.toList.drop (i+1):=by simp[List.drop_eq_getElem_cons,hlt]
  have:=hQ h₂ (by rw[show i+(n+1)=i+1+n by omega];exact hit₂) (hs₁.trans hs₂)
  rw[hd,List.take_succ_cons] at this
  exact this
theorem Jia {t:Addr}{items:Array Value}{Q:List Value->Shared->Prop}(hh:A.handled=none) (ht:s.heap.IsList t items)
  (hQ:∀h',Heap.ExtBut s.heap.objs.size s.heap h'->Q items.toList { s with heap:=h' }):wpAny (model prog w) A (unpackItems (.ref t) items.size none) Q E s:=by
 have hlt:t≠s.heap.objs.size:=by obtain⟨o,ho,_⟩:=ht;exact Nat.ne_of_lt (Heap.lt_size ho)
 unfold unpackItems
 refine wpAny_bind ?_
 ·unfold notIterableAtAll
  refine wpAny_bind (wpAny_specialOf ht.typeIs slot_list_iter.lookup ?_)
  refine wpAny_pure ?_
  simp only[Bool.false_eq_true,if_false]
  refine wpAny_bind (wpAny_holding (wpAny_pyIter_list ht ?_))
  refine wpAny_bind (wpAny_holding (Jml hlt items.size 0 _ _ ⟨_,Heap.get?_push_size _ rfl,rfl,rfl⟩ (ht.push _) (by omega) λ h₁ hit₁ hs₁=>?_))
  have hall:List.take items.size (List.drop 0 items.toList)=items.toList:=by
   rw[List.drop_zero];exact List.take_of_length_le (by simp)
  rw[hall]
  rw[if_neg (by simp)]
  have ht₁:h₁.IsList t items:=(ht.push _).extBut hs₁.extBut hlt
  refine wpAny_bind (wpAny_holding (wpAny_pyNext_list_end hh hit₁ ht₁ (by simp) λ h₂ he₂=>?_))
  simp only[Option.isSome_none,Bool.false_eq_true,if_false]
  refine wpAny_pure (hQ h₂ λ b o hb e=>he₂ b o hb (hs₁.extBut b o hb (Heap.get?_push_of_some _ e)))
theorem Jg3 {env:Env}{elts:List Expr}{x1} {pos:Pos}{t:Addr}{items:Array Value}{Q:Unit->Shared->Prop}(hh:A.handled=none) (ht:s.heap.IsList t items)
  (hn:(assignEach elts env).length=items.size) (hstar:(assignEach elts env).findIdx? (·.1)=none)
  (h:∀h',Heap.ExtBut s.heap.objs.size s.heap h'->wpAny (model prog w) A (assignInOrder ((assignEach elts env).map (·.2)) items.toList) Q E { s with heap:=h' }) :
  wpAny (model prog w) A (assign (.Tuple elts x1 pos) env (.ref t)) Q E s:=by
 rw[assign_Tuple]
 refine wpAny_bind (wpAny_standAt ?_)
 unfold unpack
 rw[hn,hstar]
 exact wpAny_bind (wpAny_holding (Jia hh ht h))
end
noncomputable abbrev S1:=ISt->IH->SRes
structure Noted (L:Addr) (fs:List Addr) (e:Addr) (h h3:Heap):Prop where
 ex:∃oe vs T ts,h.get? e=some oe/\oe.data=.fields vs/\1<vs.size/\h3.get? e=some (Obj.mapFields (·.setIfInBounds 1 (.ref T)) oe)/\T≠e/\h.get? T=none/\h3.get? T=some { cls:=.type "traceback",dict:=none,data:=.fields ts }/\ts[3]?=some (rawInt L)
 slot:∀b o,h.get? b=some o->b≠e->∃sl,h3.get? b=some { o with slots:=sl }
 keep:∀b o,h.get? b=some o->b≠e->b∉fs->h3.get? b=some o
noncomputable def Fly (L:Addr) (fs:List Addr) (e:Addr) (s s1:Shared):Prop:=s1=s∨∃h',s1={ s with heap:=h' }/\Noted L fs e s.heap h'
noncomputable def Jal (ce:Str->Option Addr) (X:Cx) (pins:List (Addr×Obj)) (ι:List Addr) (H:Hp) (r:SRes) (Q:Flow->Shared->Prop) (E:Value->Shared->Prop):Prop :=
 match r with
 | .next σi' h'=>∀s' σ' H' ι',Now ce X pins ι' σi' h' σ' H' s'->Nxt ι H ι' H'->Q .next s'
 | .brk σi' h'=>∀s' σ' H' ι',Now ce X pins ι' σi' h' σ' H' s'->Nxt ι H ι' H'->Q .brk s'
 | .cont σi' h'=>∀s' σ' H' ι',Now ce X pins ι' σi' h' σ' H' s'->Nxt ι H ι' H'->Q .cont s'
 | .ret v h'=>∀u s' σi' σ' H' ι',Now ce X pins ι' σi' h' σ' H' s'->Nxt ι H ι' H'->RU X.K ι' H' v u->Q (.ret u) s'
 | .exc n σi' h'=>∀pl a s' σ' H' ι',Now ce X (pins++pl) ι' σi' h' σ' H' s'->Nxt ι H ι' H'->ι'[n]?=some a->∀s1,Fly X.env.locals (frs X.stack) a s' s1->E (.ref a) s1
 | .stuck=>False
theorem Jal.mono {ce:Str->Option Addr}{X:Cx}{pins:List (Addr×Obj)}{ι ι':List Addr}{H H':Hp}{r:SRes}{Q:Flow->Shared->Prop}{E:Value->Shared->Prop}(k:Jal ce X pins ι H r Q E) (n:Nxt ι H ι' H'):Jal ce X pins ι' H' r Q E:=by
 cases r with
 | next σ h=>exact λ s' σ' H2 ι2 N n2=>k s' σ' H2 ι2 N (n.trans n2)
 | brk σ h=>exact λ s' σ' H2 ι2 N n2=>k s' σ' H2 ι2 N (n.trans n2)
 | cont σ h=>exact λ s' σ' H2 ι2 N n2=>k s' σ' H2 ι2 N (n.trans n2)
 | ret v h=>exact λ u s' σi' σ' H2 ι2 N n2=>k u s' σi' σ' H2 ι2 N (n.trans n2)
 | exc m σ h=>exact λ pl a s' σ' H2 ι2 N n2=>k pl a s' σ' H2 ι2 N (n.trans n2)
 | stuck=>exact k
noncomputable def PSi (ce:Str->Option Addr) (X:Cx) (t:Sem Flow) (m:S1):Prop :=
 ∀(pins:List (Addr×Obj)) (s:Shared) (σ:L2.St) (H:Hp) (ι:List Addr) (σi:ISt) (h:IH) (Q:Flow->Shared->Prop) (E:Value->Shared->Prop),Now ce X pins ι σi h σ H s->Jal ce X pins ι H (m σi h) Q E->wpAny (model X.prog X.w) X.A t Q E s
noncomputable abbrev PS1 (ce:Str->Option Addr) (X:Cx) (st:Stmt) (m:S1):Prop:=PSi ce X (exec st X.env) m
noncomputable abbrev PS2 (ce:Str->Option Addr) (X:Cx) (sts:List Stmt) (m:S1):Prop:=PSi ce X (execs sts X.env) m
noncomputable def sNil:S1:=λ σ h=>.next σ h
noncomputable def sSeq (a b:S1):S1:=λ σ h=>match a σ h with
 | .next σ' h'=>b σ' h'
 | r=>r
noncomputable def Jx2:S1:=λ σ h=>.next σ h
noncomputable def Jzi:S1:=λ σ h=>.brk σ h
noncomputable def J4y:S1:=λ σ h=>.cont σ h
noncomputable def rS {α:Type}(σ:ISt) (r:Res α) (k:α->IH->SRes):SRes:=match r with
 | .ok a h=>k a h
 | .exc n h=>.exc n σ h
 | .stuck=>.stuck
noncomputable def Jei (e:E1):S1:=λ σ h=>rS σ (e σ h) λ _ h'=>.next σ h'
noncomputable def sRet (e:E1):S1:=λ σ h=>rS σ (e σ h) λ v h'=>.ret v h'
noncomputable def J1m:S1:=λ _ h=>.ret .non h
noncomputable def sIf (t:T1) (a b:S1):S1:=λ σ h=>rS σ (t σ h) λ c h'=>if c then a σ h' else b σ h'
noncomputable def sSet (i:Nat) (e:E1):S1:=λ σ h=>rS σ (e σ h) λ v h'=>.next (σ.set i (some v)) h'
section
variable {ce:Str->Option Addr}{X:Cx}{st:Stmt}{rest:List Stmt}{m m1 m2:S1}{e:Expr}{me:E1}{pos:Pos}
theorem krun {α β:Type}{R:REL α β}{t:Sem β}{mm:ISt->IH->Res α}(p:PX ce X R t mm){pins:List (Addr×Obj)}{s:Shared}{σ:L2.St}{H:Hp}{ι:List Addr}{σi:ISt}{h:IH}(N:Now ce X pins ι σi h σ H s){g:α->IH->SRes}{Q:Flow->Shared->Prop}{E:Value->Shared->Prop}{Q1:β->Shared->Prop}
  (K:Jal ce X pins ι H (rS σi (mm σi h) g) Q E)
  (step:∀x h1 u s1 H1 ι1,Now ce X pins ι1 σi h1 σ H1 s1->Nxt ι H ι1 H1->R X.K ι1 H1 x u->Jal ce X pins ι1 H1 (g x h1) Q E->Q1 u s1):wpAny (model X.prog X.w) X.A t Q1 E s:=by
 refine p pins s σ H ι σi h Q1 E N ?_
 cases e:mm σi h with
 | ok v h' =>
  rw[e] at K
  exact λ u s' H' ι' N' n' r=>step v h' u s' H' ι' N' n' r (Jal.mono (r:=g v h') K n')
 | exc n h' =>
  rw[e] at K
  exact λ pl a s' H' ι' N' n' q=>K pl a s' σ H' ι' N' n' q s' (.inl rfl)
 | stuck =>
  rw[e] at K
  exact K
theorem J4w:PS2 ce X [] sNil:=λ _ s σ H ι _ _ _ _ N K=>wpAny_execs_nil (K s σ H ι N .refl)
theorem J1k (h1:PS1 ce X st m1) (h2:PS2 ce X rest m2):PS2 ce X (st::rest) (sSeq m1 m2):=by
 intro pins s σ H ι σi h Q E N K
 refine wpAny_execs_cons (h1 pins s σ H ι σi h _ E N ?_)
 unfold sSeq at K
 cases e:m1 σi h with
 | next σ' h' =>
  rw[e] at K
  exact λ s' σ2 H' ι' N' n'=>h2 pins s' σ2 H' ι' σ' h' Q E N' (Jal.mono (r:=m2 σ' h') K n')
 | brk σ' h'=>rw[e] at K;exact K
 | cont σ' h'=>rw[e] at K;exact K
 | ret v h'=>rw[e] at K;exact K
 | exc n σ' h'=>rw[e] at K;exact K
 | stuck=>rw[e] at K;exact K
theorem J4x (h1:PS1 ce X st m1):PS2 ce X [st] m1:=by
 intro pins s σ H ι σi h Q E N K
 refine wpAny_execs_cons (h1 pins s σ H ι σi h _ E N ?_)
 cases e:m1 σi h with
 | next σ' h' =>
  rw[e] at K
  exact λ s' σ2 H' ι' N' n'=>wpAny_execs_nil (K s' σ2 H' ι' N' n')
 | brk σ' h'=>rw[e] at K;exact K
 | cont σ' h'=>rw[e] at K;exact K
 | ret v h'=>rw[e] at K;exact K
 | exc n σ' h'=>rw[e] at K;exact K
 | stuck=>rw[e] at K;exact K
theorem Jzk:PS1 ce X (.Pass pos) Jx2:=λ _ s σ H ι _ _ _ _ N K=>wpAny_Pass (K s σ H ι N .refl)
theorem J1n:PS1 ce X (.Break pos) Jzi:=λ _ s σ H ι _ _ _ _ N K=>wpAny_Break (K s σ H ι N .refl)
theorem J4z:PS1 ce X (.Continue pos) J4y:=λ _ s σ H ι _ _ _ _ N K=>wpAny_Continue (K s σ H ι N .refl)
theorem J40 (he:PEi ce X e me) (hs:swapsWith e none pos.line X.env=pure false:=by rfl):PS1 ce X (.Expr e pos) (Jei me):=λ pins s σ H ι σi h Q E N K =>
 wpAny_Expr_any (krun he N K λ x h1 u s1 H1 ι1 N1 n1 r1 K1=>K1 s1 σ H1 ι1 N1 .refl) N.inv.quiet hs
theorem J41 (he:PEi ce X e me):PS1 ce X (.Return (some e) pos) (sRet me):=λ pins s σ H ι σi h Q E N K =>
 wpAny_Return_some (krun he N K λ x h1 u s1 H1 ι1 N1 n1 r1 K1=>K1 u s1 σi σ H1 ι1 N1 .refl r1)
theorem J42:PS1 ce X (.Return none pos) J1m:=λ pins s σ H ι σi h Q E N K=>wpAny_Return_none (K .none s σi σ H ι N .refl ⟨.non,rfl,rfl⟩)
theorem s_if {c:Expr}{a b:List Stmt}{mt:T1}(hc:PTi ce X c mt) (ha:PS2 ce X a m1) (hb:PS2 ce X b m2):PS1 ce X (.If c a b pos) (sIf mt m1 m2):=λ pins s σ H ι σi h Q E N K =>
 wpAny_If (krun hc N K λ x h1 u s1 H1 ι1 N1 n1 r1 K1=>by
  have r':u=x:=r1
  subst r'
  cases u with
  | true=>exact ha pins s1 σ H1 ι1 σi h1 Q E N1 K1
  | false=>exact hb pins s1 σ H1 ι1 σi h1 Q E N1 K1)
theorem J1p {i:Nat}{x:Str}{pos':Pos}(hN:X.N.Nodup) (he:PEi ce X e me) (hi:X.N[i]?=some x:=by rfl) (hx:Loc X.env.scope x:=by assumption) (hs:swapsWith e (some (.Name x pos')) pos.line X.env=pure false:=by rfl)
  (hf:X.fn x=true∨X.env.scope.names.lookup x=some .local:=by assumption):PS1 ce X (.Assign [.Name x pos'] e pos) (sSet i me):=λ pins s σ H ι σi h Q E N K =>
 wpAny_Assign_Name (krun he N K λ v h1 u s1 H1 ι1 N1 n1 r1 K1=>by
  obtain⟨w,rw',q⟩:=r1
  exact Jij N1.inv hN hi hx rw' (λ s2 I2=>K1 s2 _ H1 ι1 ⟨I2,N1.rel,N1.st.set i q⟩ .refl) hf) hs
noncomputable abbrev G1:=IV->ISt->IH->SRes
noncomputable def PGi (ce:Str->Option Addr) (X:Cx) (tg:Expr) (g:G1):Prop :=
 ∀(pins:List (Addr×Obj)) (s:Shared) (σ:L2.St) (H:Hp) (ι:List Addr) (σi:ISt) (h:IH) (v:IV) (u:Value) (Q:Flow->Shared->Prop) (E:Value->Shared->Prop),Now ce X pins ι σi h σ H s->RU X.K ι H v u->Jal ce X pins ι H (g v σi h) Q E ->
  wpAny (model X.prog X.w) X.A (assign tg X.env u) (λ _ s'=>Q .next s') E s
noncomputable def gNm (i:Nat):G1:=λ v σ h=>.next (σ.set i (some v)) h
theorem g_nm {i:Nat}{x:Str}(hN:X.N.Nodup) (hi:X.N[i]?=some x:=by rfl) (hx:Loc X.env.scope x:=by assumption) (hf:X.fn x=true∨X.env.scope.names.lookup x=some .local:=by assumption):PGi ce X (.Name x pos) (gNm i):=by
 intro pins s σ H ι σi h v u Q E N r K
 obtain⟨w,rw',q⟩:=r
 exact wpAny_assign_Name (Jij N.inv hN hi hx rw' (λ s2 I2=>K s2 _ H ι ⟨I2,N.rel,N.st.set i q⟩ .refl) hf)
noncomputable def PGsi (ce:Str->Option Addr) (X:Cx) (ts:List Expr) (g:List IV->ISt->IH->SRes):Prop :=
 ∀(pins:List (Addr×Obj)) (s:Shared) (σ:L2.St) (H:Hp) (ι:List Addr) (σi:ISt) (h:IH) (vs:List IV) (us:List Value) (Q:Flow->Shared->Prop) (E:Value->Shared->Prop),Now ce X pins ι σi h σ H s->RUs X.K ι H vs us->Jal ce X pins ι H (g vs σi h) Q E ->
  wpAny (model X.prog X.w) X.A (assignInOrder ((assignEach ts X.env).map (·.2)) us) (λ _ s'=>Q .next s') E s
noncomputable def gN:List IV->ISt->IH->SRes
 | [],σ,h=>.next σ h
 | _::_,_,_=>.stuck
noncomputable def gC (g:G1) (r:List IV->ISt->IH->SRes):List IV->ISt->IH->SRes
 | v::vs,σ,h=>match g v σ h with
  | .next σ' h'=>r vs σ' h'
  | .exc n σ' h'=>.exc n σ' h'
  | _=>.stuck
 | [],_,_=>.stuck
theorem J3a:PGsi ce X [] gN:=by
 intro pins s σ H ι σi h vs us Q E N r K
 cases vs with
 | nil =>
  obtain⟨xs,rv,q⟩:=r
  have e1:xs=[]:=q
  subst e1
  cases rv
  exact assignInOrder_nil (K s σ H ι N .refl)
 | cons v vs=>exact Zf K
theorem J0k {tg:Expr}{ts:List Expr}{g:G1}{r:List IV->ISt->IH->SRes}(h1:PGi ce X tg g) (h2:PGsi ce X ts r)
  (hs:(assignEach (tg::ts) X.env).map (·.2)=assign tg X.env::(assignEach ts X.env).map (·.2):=by rfl):PGsi ce X (tg::ts) (gC g r):=by
 intro pins s σ H ι σi h vs us Q E N ru K
 cases vs with
 | nil=>exact Zf K
 | cons v vs =>
  obtain⟨xs,rv,x,xr,e1,q,qs⟩:=ru
  subst e1
  cases rv with
  | cons r1 r2 =>
   rw[hs]
   refine assignInOrder_cons (h1 pins s σ H ι σi h v _ (λ f s'=>wpAny (model X.prog X.w) X.A (assignInOrder ((assignEach ts X.env).map (·.2)) _) (λ _ s'=>Q .next s') E s') E N ⟨x,r1,q⟩ ?_)
   have K':Jal ce X pins ι H (match g v σi h with|.next σ' h'=>r vs σ' h'|.exc n σ' h'=>.exc n σ' h'|_=>.stuck) Q E:=K
   cases e:g v σi h with
   | next σ' h' =>
    rw[e] at K'
    exact λ s' σ2 H' ι' N' n'=>h2 pins s' σ2 H' ι' σ' h' vs _ Q E N' ⟨xr,r2,RVs.mono n' _ _ qs⟩ (Jal.mono (r:=r vs σ' h') K' n')
   | exc n σ' h'=>rw[e] at K';exact K'
   | _=>rw[e] at K';exact(show False from K').elim
noncomputable def gTp (n:Nat) (g:List IV->ISt->IH->SRes):G1:=λ v σ h=>match v with
 | .tup xs=>if xs.length=n then g xs σ h else .stuck
 | .ref i=>(match h[i]? with
  | some (.lst xs)=>if xs.length=n then g xs σ h else .stuck
  | _=>.stuck)
 | _=>.stuck
theorem g_tup {es:List Expr}{k n:Nat}{g:List IV->ISt->IH->SRes}(hc:X.calm=true) (hg:PGsi ce X es g) (hn:(assignEach es X.env).length=n:=by rfl) (hst:(assignEach es X.env).findIdx? (·.1)=none:=by rfl):PGi ce X (.Tuple es k pos) (gTp n g):=by
 intro pins s σ H ι σi h v u Q E N r K
 obtain⟨w,rw',q⟩:=r
 cases v with
 | tup xs =>
  obtain⟨a,vs,e1,sa,ra⟩:=q
  subst e1
  cases rw'
  unfold gTp at K
  dsimp only at K
  split at K
  ·rename_i hl
   obtain⟨its,rv,ht,hz⟩:=N.inv.tuple sa
   have l1:=ra.length
   have l2:=rv.length
   refine assign_Tuple_tuple (N.inv.ok.hd hc) ht (by simp only[List.size_toArray];omega) hst λ h' hx=>?_
   have I1:Inv X pins σ H { s with heap:=h' }:=N.inv.kept (t':=s.toks) λ b o e=>hx b o (Nat.ne_of_lt (Heap.lt_size e)) e
   exact hg pins _ σ H ι σi h xs _ Q E ⟨I1,N.rel,N.st⟩ ⟨vs,by simpa using rv,ra⟩ K
  ·exact Zf K
 | ref i =>
  obtain⟨a,e1,ha⟩:=q
  subst e1
  cases rw'
  unfold gTp at K
  dsimp only at K
  cases hi:h[i]? with
  | none=>rw[hi] at K;exact Zf K
  | some ob =>
   rw[hi] at K
   cases ob with
   | lst xs =>
    dsimp only at K
    split at K
    ·rename_i hl
     obtain⟨vs,g1,ra⟩:=N.at hi ha
     obtain⟨its,rv,ht,hz⟩:=N.inv.list (SqL.of g1)
     have l1:=ra.length
     have l2:=rv.length
     refine Jg3 (N.inv.ok.hd hc) ht.isList (by simp only[List.size_toArray];omega) hst λ h' hx=>?_
     have I1:Inv X pins σ H { s with heap:=h' }:=N.inv.kept (t':=s.toks) λ b o e=>hx b o (Nat.ne_of_lt (Heap.lt_size e)) e
     exact hg pins _ σ H ι σi h xs _ Q E ⟨I1,N.rel,N.st⟩ ⟨vs,by simpa using rv,ra⟩ K
    ·exact Zf K
   | _=>exact Zf K
 | _=>exact Zf K
noncomputable def sAsg (e:E1) (g:G1):S1:=λ σ h=>rS σ (e σ h) λ v h'=>g v σ h'
theorem s_asg {tg:Expr}{g:G1}(he:PEi ce X e me) (hg:PGi ce X tg g) (hs:swapsWithSole [tg] e pos.line X.env=pure false:=by rfl) (hw:swappedStores [tg] e X.env=pure none:=by rfl)
  (h1:(assignEach [tg] X.env).map (·.2)=[assign tg X.env]:=by rfl):PS1 ce X (.Assign [tg] e pos) (sAsg me g):=λ pins s σ H ι σi h Q E N K =>
 wpAny_Assign_stores (krun he N K λ v h2 u s1 H1 ι1 N1 n1 r1 K1=>by
  rw[h1]
  exact hg pins s1 σ H1 ι1 σi h2 v u Q E N1 r1 K1) hs hw
end
theorem ExF.ok {P:Program}{w:World}{H:Hp}{h:Heap}{a C:Addr}{tv:Value}{dd:Option Addr}{oe:Obj}{vs:Array Value}(e:h.get? a=some oe) (c:oe.cls=.ref C) (d:oe.data=.fields vs) (v:vs[1]?=some tv) (v2:vs[2]?=some .none) (v3:oe.dict=dd):Jbg P w H h a (ExF a C tv dd) :=
 ⟨⟨oe,vs,e,c,d,v,v2,v3⟩,⟨oe,e⟩,λ _ _ ⟨o,us,e1,r⟩ k=>⟨o,us,k _ e1,r⟩⟩
theorem ExF.get {P:Program}{w:World}{H:Hp}{h:Heap}{a C:Addr}{tv:Value}{d:Option Addr}(x:HOk P w H h) (e:H a=some (ExF a C tv d)):∃oe vs,h.get? a=some oe/\oe.cls=.ref C/\oe.data=.fields vs/\vs[1]?=some tv/\vs[2]?=some .none/\oe.dict=d :=
 (x a _ e).1
theorem Jth (o:Obj) (f:Array Value->Array Value):(o.mapFields f).dict=o.dict:=by
 unfold Obj.mapFields
 split<;>rfl
theorem Jwu {P:Program}{w:World}{H:Hp}{h:Heap}{a C C':Addr}{tv tv':Value}{d d':Option Addr}(x:HOk P w H h) (e1:H a=some (ExF a C tv d)) (e2:H a=some (ExF a C' tv' d')):d=d':=by
 obtain⟨o,_,g,_,_,_,_,q⟩:=ExF.get x e1
 obtain⟨o',_,g',_,_,_,_,q'⟩:=ExF.get x e2
 cases g.symm.trans g'
 exact q.symm.trans q'
theorem Jzf {P:Program}{w:World}{H:Hp}{h:Heap}{a:Addr}:∀{o:HO},Jbg P w H h a o->∃u,h.get? a=some u
 | .lst _,⟨_,_,_,_,e⟩=>⟨_,e⟩
 | .tup _,⟨_,_,_,⟨_,e,_⟩⟩=>⟨_,e⟩
 | .dK _,⟨_,_,_,_,o,_,_,e,_⟩=>⟨o,e⟩
 | .dT _,⟨_,_,_,_,o,_,_,e,_⟩=>⟨o,e⟩
 | .set _ _,⟨o,_,_,_,e,_⟩=>⟨o,e⟩
 | .ins _ _ _,⟨_,_,_,e,_⟩=>⟨_,e⟩
 | .own _,⟨_,e⟩=>⟨_,e⟩
 | .xd _,⟨_,⟨_,_,_,e,_⟩,_⟩=>⟨_,e⟩
 | .rng _ _,⟨_,_,_,e⟩=>⟨_,e⟩
 | .frz _ _,⟨e,_⟩=>⟨_,e⟩
 | .tbl _,e=>⟨_,(show h.get? a=some _ from e)⟩
 | .met _ _,e=>⟨_,(show h.get? a=some _ from e)⟩
 | .ext _,⟨_,⟨_,e⟩,_⟩=>⟨_,e⟩
theorem Jpf {h:Heap}{T:Addr}{oT:Obj}{ts:Array Value}{v:Value}(e:h.get? T=some oT) (d:oT.data=.fields ts) (q:ts[3]?=some v):(h.update T (Obj.mapFields (·.setIfInBounds 3 v))).get? T=some oT:=by
 have es:ts.setIfInBounds 3 v=ts:=by
  refine Array.ext (by simp) λ i h1 h2=>?_
  rw[Array.getElem_setIfInBounds]
  split
  ·rename_i z
   subst z
   rw[Array.getElem?_eq_getElem h2] at q
   exact(Option.some.inj q).symm
  ·rfl
 have eo:Obj.mapFields (·.setIfInBounds 3 v) oT=oT:=by
  obtain⟨c,dd,dt,sl⟩:=oT
  have d:dt=.fields ts:=d
  subst d
  simp only[Obj.mapFields,es]
 rw[Heap.get?_update_self _ e (by rw[eo];exact Obj.isFreed_of_fields d),eo]
section
variable {X:Cx}{pins:List (Addr×Obj)}{σ:L2.St}{H:Hp}{s:Shared}{M:Model}{E:Value->Shared->Prop}{Q:Unit->Shared->Prop}{a C:Addr}{tv:Value}{d:Option Addr}{h3:Heap}{s1:Shared}
structure Past (X:Cx) (H:Hp) (h:Heap) (a C:Addr) (d:Option Addr) (T:Addr) (oT:Obj) (h':Heap):Prop where
 new:H T=none
 ne:T≠a
 fld:∃ts,oT.data=.fields ts/\ts[3]?=some .none
 un:Un (frs X.stack) [] H (upd (upd H T (.frz oT (.own 0))) a (ExF a C (.ref T) d)) h h'
 hok:HOk X.prog X.w (upd (upd H T (.frz oT (.own 0))) a (ExF a C (.ref T) d)) h'
theorem Jqi (I:Inv X pins σ H s) (hs:X.stack=X.env::X.outer) (hf:X.env.frame=some X.env.locals) (ha:H a=some (ExF a C tv d)) (ht:TvOk H tv)
  (k:∀h3,Noted X.env.locals (frs X.stack) a s.heap h3->Q () { s with heap:=h3 }):wpAny M X.A (noteFrame (.ref a) X.env) Q E s:=by
 obtain⟨oe,vs,e1,e2,e3,e4,e5,e6⟩:=ExF.get I.hok ha
 have hfa:a∉frs X.stack:=λ z=>by rw[I.stkFree a z] at ha;cases ha
 have fr:=I.ok.frames
 have ff:s.heap.FunFrames X.base X.stack:=I.stack
 have len1:1<vs.size:=(Array.getElem?_eq_some_iff.mp e4).1
 have go:∀(h:Heap){head:Value}{hn:Bool},(∀b,h.get? b=s.heap.get? b)->wpAny M X.A (do let f<-frameOf X.env;let pl<-entryPlaceOf X.env.locals hn;let b<-EntryCells.newEntry head f .none (rawInt X.env.locals) .none pl;setField (.ref a) 1 b) Q E { s with heap:=h }:=by
  intro h head hn hh
  have ffh:h.FunFrames X.base X.stack:=ff.of_keeps λ b o q _=>⟨o,(hh b).trans q,rfl⟩
  rw[hs] at fr ffh
  refine wpAny_bind (wpAny_frameOf_fun (s:={ s with heap:=h }) fr ffh hf λ h1 so=>?_)
  have he1:h1.get? a=some oe:=(so.2.1 a (by rw[hs] at hfa;exact hfa)).trans ((hh a).trans e1)
  refine wpAny_bind (wpAny_entryPlaceOf λ pl hpl=>?_)
  unfold EntryCells.newEntry newFields
  refine wpAny_bind (wpAny_newObj_type ?_ (hpl.sizeOk5 _ _ _ _ _))
  have t3:([head,Value.ref X.env.locals,Value.none,rawInt X.env.locals,Value.none]++(if pl.isEmpty then List.replicate 6 Value.none else pl)).toArray[3]?=some (rawInt X.env.locals):=by simp
  generalize ([head,Value.ref X.env.locals,Value.none,rawInt X.env.locals,Value.none]++(if pl.isEmpty then List.replicate 6 Value.none else pl)).toArray=ts at t3 ⊢
  have lt2:∀b o,h1.get? b=some o->b≠h1.objs.size:=λ b o q=>Nat.ne_of_lt (Heap.lt_size q)
  have nT:h1.objs.size≠a:=Ne.symm (lt2 a _ he1)
  have up2:∀b o,h1.get? b=some o->(h1.push { cls:=.type "traceback",dict:=none,data:=.fields ts }).get? b=some o:=λ b o q=>Heap.get?_push_of_some _ q
  have gT2:(h1.push { cls:=.type "traceback",dict:=none,data:=.fields ts }).get? h1.objs.size=some { cls:=.type "traceback",dict:=none,data:=.fields ts }:=Heap.get?_push_size h1 rfl
  refine wpAny_setField (up2 _ _ he1) e3 len1 (k _ ⟨⟨oe,vs,h1.objs.size,ts,e1,e3,len1,Heap.get?_update_self _ (up2 _ _ he1) (Obj.isFreed_of_fields (Obj.data_mapFields e3 _)),nT,?_,(Heap.get?_update_other _ _ (Ne.symm nT)).trans gT2,t3⟩,λ b o q n=>?_,λ b o q n m=>?_⟩)
  ·cases q:s.heap.get? h1.objs.size with
   | none=>rfl
   | some o =>
    obtain⟨sl,z⟩:=so.2.2 _ _ ((hh _).trans q)
    exact absurd rfl (lt2 _ _ z)
  ·obtain⟨sl,z⟩:=so.2.2 _ _ ((hh b).trans q)
   exact⟨sl,(Heap.get?_update_other _ _ (Ne.symm n)).trans (up2 _ _ z)⟩
  ·exact(Heap.get?_update_other _ _ (Ne.symm n)).trans (up2 _ _ ((so.2.1 b (by rw[hs] at m;exact m)).trans ((hh b).trans q)))
 unfold noteFrame
 rw[hf]
 refine wpAny_bind (wpAny_field e1 e3 e4 ?_)
 rcases ht with rfl|⟨T,oT,ts,rfl,q1,q2,q3⟩
 ·rw[if_neg (by decide)]
  exact go s.heap λ _=>rfl
 ·have gT:s.heap.get? T=some oT:=(I.hok T _ q1).1
  rw[if_pos (by simp)]
  refine wpAny_bind (wpAny_field gT q2 q3 ?_)
  rw[if_neg (by simp[rawInt])]
  refine wpAny_bind (wpAny_setField gT q2 (Array.getElem?_eq_some_iff.mp q3).1 ?_)
  refine go _ λ b=>?_
  by_cases z:b=T
  ·subst z
   exact(Jpf gT q2 q3).trans gT.symm
  ·exact Heap.get?_update_other _ _ (Ne.symm z)
theorem Jjh {A:Around}{env:Env}{fs:List Addr}{h:Heap}(hf:env.frame=some env.locals) (n:Noted env.locals fs a h h3) (q:Q () { s with heap:=h3 }):wpAny M A (noteFrame (.ref a) env) Q E { s with heap:=h3 }:=by
 obtain⟨⟨oe,vs,T,ts,g1,g2,g3,g4,g5,g6,g7,g8⟩,_,_⟩:=n
 unfold noteFrame
 rw[hf]
 refine wpAny_bind (wpAny_field (x:=.ref T) g4 (Obj.data_mapFields g2 _) (by simp[g3]) ?_)
 rw[if_pos (by simp)]
 refine wpAny_bind (wpAny_field g7 rfl g8 ?_)
 rw[if_pos (by simp)]
 exact wpAny_pure q
theorem Jrt {A:Around}{env:Env}{fs:List Addr}{h:Heap}(hf:env.frame=some env.locals) (n:Noted env.locals fs a h h3) (k:∀h4,Noted env.locals fs a h h4->E (.ref a) { s with heap:=h4 }):cameBackBy M A env E (.ref a) { s with heap:=h3 }:=by
 obtain⟨⟨oe,vs,T,ts,g1,g2,g3,g4,g5,g6,g7,g8⟩,sl,kp⟩:=n
 unfold cameBackBy
 refine wpAny_bind (wpAny_field (x:=.ref T) g4 (Obj.data_mapFields g2 _) (by simp[g3]) ?_)
 rw[if_neg (by simp)]
 rw[hf]
 unfold setFlight
 refine wpAny_bind (wpAny_field (x:=.ref T) g4 (Obj.data_mapFields g2 _) (by simp[g3]) ?_)
 rw[if_pos (by simp)]
 refine wpAny_setField g7 rfl (Array.getElem?_eq_some_iff.mp g8).1 ?_
 have up:∀b o,h3.get? b=some o->(h3.update T (Obj.mapFields (·.setIfInBounds 3 (rawInt env.locals)))).get? b=some o:=λ b o q=>by
  by_cases z:b=T
  ·subst z
   rw[g7] at q
   cases q
   exact Jpf g7 rfl g8
  ·exact(Heap.get?_update_other _ _ (Ne.symm z)).trans q
 exact k _ ⟨⟨oe,vs,T,ts,g1,g2,g3,up _ _ g4,g5,g6,up _ _ g7,g8⟩,λ b o q n=>let ⟨s',z⟩:=sl b o q n;⟨s',up _ _ z⟩,λ b o q n m=>up _ _ (kp b o q n m)⟩
theorem Jkp {L:Addr}(I:Inv X pins σ H s) (ha:H a=some (ExF a C tv d)) (n:Noted L (frs X.stack) a s.heap h3) (k:∀T oT h',Past X H s.heap a C d T oT h'->Q () { s with heap:=h' }):wpAny M X.A (setFlight (.ref a) none) Q E { s with heap:=h3 }:=by
 obtain⟨⟨oe,vs,T,ts,g1,g2,g3,g4,g5,nT,g7,g8⟩,sl,kp⟩:=n
 obtain⟨oe',vs',x1,x2,x3,x4,x5,x6⟩:=ExF.get I.hok ha
 rw[g1] at x1
 cases x1
 rw[g2] at x3
 cases x3
 have hok:=I.hok
 have hfr:∀b∈frs X.stack,H b=none:=I.stkFree
 have hT:H T=none:=by
  cases q:H T with
  | none=>rfl
  | some u =>
   obtain⟨o,z⟩:=Jzf (hok T u q)
   rw[nT] at z
   cases z
 have tz:3<ts.size:=(Array.getElem?_eq_some_iff.mp g8).1
 unfold setFlight
 refine wpAny_bind (wpAny_field (x:=.ref T) g4 (Obj.data_mapFields g2 _) (by simp[g3]) ?_)
 rw[if_pos (by simp)]
 refine wpAny_setField g7 rfl tz ?_
 have e1:=(Heap.get?_update_other h3 (Obj.mapFields (·.setIfInBounds 3 ((none:Option Addr).elim Value.none λ f=>rawInt f))) g5).trans g4
 have e7:=Heap.get?_update_self (Obj.mapFields (·.setIfInBounds 3 ((none:Option Addr).elim Value.none λ f=>rawInt f))) g7 (Obj.isFreed_of_fields (Obj.data_mapFields rfl _))
 have d7:=Obj.data_mapFields (o:={ cls:=.type "traceback",dict:=none,data:=.fields ts }) rfl (·.setIfInBounds 3 ((none:Option Addr).elim Value.none λ f=>rawInt f))
 have lt:∀b o,s.heap.get? b=some o->T≠b:=λ b o q z=>by rw[z,q] at nT;cases nT
 have keep:∀b o,s.heap.get? b=some o->b≠a->b∉frs X.stack->(h3.update T (Obj.mapFields (·.setIfInBounds 3 ((none:Option Addr).elim Value.none λ f=>rawInt f)))).get? b=some o:=λ b o q n1 n2=>(Heap.get?_update_other _ _ (lt b o q)).trans (kp b o q n1 n2)
 have slot:∀b o,s.heap.get? b=some o->b≠a->∃sl,(h3.update T (Obj.mapFields (·.setIfInBounds 3 ((none:Option Addr).elim Value.none λ f=>rawInt f)))).get? b=some { o with slots:=sl }:=λ b o q n1=>let ⟨s',z⟩:=sl b o q n1;⟨s',(Heap.get?_update_other _ _ (lt b o q)).trans z⟩
 generalize h3.update T (Obj.mapFields (·.setIfInBounds 3 ((none:Option Addr).elim Value.none λ f=>rawInt f)))=h' at e1 e7 keep slot
 generalize Obj.mapFields (·.setIfInBounds 3 ((none:Option Addr).elim Value.none λ f=>rawInt f)) { cls:=.type "traceback",dict:=none,data:=.fields ts }=oT at e7 d7
 have na:∀{b:Addr}{u:HO},H b=some u->(∀φ,u≠.ext φ)->b≠a:=λ {b u} q n z=>by
  subst z
  rw[ha] at q
  cases q
  exact n _ rfl
 have nTb:∀{b:Addr}{u:HO},H b=some u->b≠T:=λ {b u} q z=>by
  subst z
  rw[hT] at q
  cases q
 have up:∀{b:Addr}{u:HO},H b=some u->(∀φ,u≠.ext φ)->upd (upd H T (.frz oT (.own 0))) a (ExF a C (.ref T) d) b=some u:=λ {b u} q n=>by
  rw[Jh (na q n),Jh (nTb q)]
  exact q
 have fa:a∉frs X.stack:=λ z=>by rw[hfr a z] at ha;cases ha
 refine k T oT h' ⟨hT,g5,⟨_,d7,by simp[tz]⟩,⟨λ b o q n hb _=>keep b o q (λ z=>by subst z;rw[ha] at n;cases n) hb,λ b o q _ hb _=>slot b o q (λ z=>fa (z▸hb)),λ b o q n _=>?_,λ b o q _=>?_,λ b xs q=>up q nofun,λ b o u q=>up q nofun,λ b ps q=>⟨#[],by rw[up q nofun];simp⟩⟩,λ b u q=>?_⟩
 ·rw[Jh (λ z=>by subst z;rw[ha] at n;cases n),Jh (λ z=>by subst z;rw[nT] at q;cases q)]
  exact n
 ·by_cases z:b=a
  ·subst z
   exact⟨_,e1⟩
  ·obtain⟨sl,w⟩:=slot b o q z
   exact⟨_,w⟩
 ·by_cases z:b=a
  ·subst z
   rw[Jg] at q
   cases q
   exact ExF.ok e1 ((Obj.cls_mapFields _ _).trans x2) (Obj.data_mapFields g2 _) (by simp[g3]) (by rw[Array.getElem?_setIfInBounds_ne (by decide)];exact x5) ((Jth _ _).trans x6)
  ·rw[Jh z] at q
   by_cases y:b=T
   ·subst y
    rw[Jg] at q
    cases q
    exact⟨e7,⟨oT,e7⟩⟩
   ·rw[Jh y] at q
    refine(hok b u q).stay (λ c v hc p=>?_) (λ c p=>up p nofun) λ c xs p=>up p nofun
    refine keep c v p ?_ ?_
    ·rcases hc with rfl|hc
     ·exact z
     ·exact na hc nofun
    ·intro m
     rcases hc with rfl|hc
     ·rw[hfr _ m] at q;cases q
     ·rw[hfr _ m] at hc;cases hc
theorem Jqj (I:Inv X pins σ H s) (fl:Fly X.env.locals (frs X.stack) a s s1) (hs:X.stack=X.env::X.outer) (hf:X.env.frame=some X.env.locals) (ha:H a=some (ExF a C tv d)) (ht:TvOk H tv)
  (k:∀T oT h',Past X H s.heap a C d T oT h'->Q () { s with heap:=h' }):wpAny M X.A (noteFrame (.ref a) X.env) (λ _ s'=>wpAny M X.A (setFlight (.ref a) none) Q E s') E s1:=by
 rcases fl with rfl|⟨h',rfl,n⟩
 ·exact Jqi I hs hf ha ht λ h3 n=>Jkp I ha n k
 ·exact Jjh hf n (Jkp I ha n k)
theorem Jug (I:Inv X pins σ H s) (fl:Fly X.env.locals (frs X.stack) a s s1) (hs:X.stack=X.env::X.outer) (hf:X.env.frame=some X.env.locals) (ha:H a=some (ExF a C tv d)) (ht:TvOk H tv)
  (k:∀T oT h',Past X H s.heap a C d T oT h'->Q () { s with heap:=h' }):wpAny M X.A (leaving X.env (.ref a)) Q E s1:=by
 unfold leaving
 exact wpAny_bind (Jqj I fl hs hf ha ht k)
end
noncomputable def CXI (P:Program) (w:World):CXT:=λ outer H s E e s'=>∃H',s'.os=s.os/\AllBare s'.gens/\Un (frs outer) [] H H' s.heap s'.heap/\HOk P w H' s'.heap/\E e none H'
theorem Un.tail {L:Addr}{fs:List Addr}{H H1 H2:Hp}{h h1 h2:Heap}(a:Un fs [] H H1 h h1) (b:Un (L::fs) [] H1 H2 h1 h2) (n:h.get? L=none):Un fs [] H H2 h h2 where
 keep:=λ c o q m hc _=>b.keep c o (a.keep c o q m hc (by simp)) (a.free c o q m (by simp)) (λ z=>(List.mem_cons.mp z).elim (λ y=>by subst y;rw[n] at q;cases q) hc) (by simp)
 slot:=λ c o q m hc _=>by
  obtain⟨sl,e1⟩:=a.slot c o q m hc (by simp)
  obtain⟨sl',e2⟩:=b.any e1 (a.free c o q m (by simp)) (by simp)
  exact⟨sl',e2⟩
 free:=λ c o q m _=>by
  obtain⟨o',e1⟩:=a.there c o q (by simp)
  exact b.free c o' e1 (a.free c o q m (by simp)) (by simp)
 there:=λ c o q _=>by
  obtain⟨o',e1⟩:=a.there c o q (by simp)
  exact b.there c o' e1 (by simp)
 tups:=λ c xs q=>b.tups c xs (a.tups c xs q)
 frzs:=λ c o u q=>b.frzs c o u (a.frzs c o u q)
 tbls:=λ c ps q=>by
  obtain⟨m1,e1⟩:=a.tbls c ps q
  obtain⟨m2,e2⟩:=b.tbls c _ e1
  exact⟨m1++m2,by rw[e2,Array.append_assoc]⟩
section
variable {X:Cx}{pins:List (Addr×Obj)}{σ:L2.St}{H:Hp}{s:Shared}{k:Nat}{f C:Addr}{fd:FuncData}{ps:List Str}{sp:Sp}{dvs:List V}{ds:List Value}{E:XK}{Q:VK}{us:List Value}{vs:List V}{W:Value->Shared->Prop}
theorem Jzn {e:Value}{s':Shared}(I:Inv X pins σ H s) (h:CXI X.prog X.w X.stack H s E e s'):∃H',Inv X pins σ H' s'/\E e none H':=by
 obtain⟨H',os,bare,un,hok,q⟩:=h
 exact⟨H',I.call' os un hok bare λ b z=>absurd z (by simp),q⟩
theorem J1j (F:FnOk X.prog X.w X.K X.mg X.base (CXI X.prog X.w) k f fd ps sp) (hr:Room k X.A) (hb:Jfb X.K fd ps ds) (hd:Vals dvs ds) (I:Inv X pins σ H s) (r:Vals vs us) (h:sp (vs++dvs) H Q E)
  (hx:∀e s' H',Inv X pins σ H' s'->E e none H'->W e s'):wpAny (model X.prog X.w) X.A (call (.ref f) us) (EP X pins σ Q) W s:=by
 have ra:Vals (vs++dvs) (us++ds):=r.append hd
 have la:=ra.length
 have lf:=F.len _ _ _ _ h
 refine wpAny_call (codeAny_mono (F.run _ _ _ _ ⟨us,[]⟩ _ _ _ _ hr I.env0 (hb s us I.kIn (by omega)) ra h) λ res s' q=>?_)
 match res,q with
 | .error e,q =>
  obtain⟨H',I',z⟩:=Jzn I q
  exact hx e s' H' I' z
 | .ok (.ret u),q=>exact I.after q
 | .ok .next,q=>exact False.elim q
 | .ok .brk,q=>exact False.elim q
 | .ok .cont,q=>exact False.elim q
theorem Juy (M:Mk X.K C f) (F:FnOk X.prog X.w X.K X.mg X.base (CXI X.prog X.w) k f fd ps sp) (hr:Room (k+1) X.A) (hb:Jfb X.K fd ps ds) (hd:Vals dvs ds) (I:Inv X pins σ H s) (r:Vals vs us)
  (h:∀x dx,H x=none->H dx=none->dx≠x->sp (.ref x::(vs++dvs)) (upd (upd H dx (.own x)) x (.ins C dx [])) (λ v H2=>v=.non/\Q (.ref x) H2) E)
  (hx:∀e s' H',Inv X pins σ H' s'->E e none H'->W e s'):wpAny (model X.prog X.w) X.A (call (.ref C) us) (EP X pins σ Q) W s:=by
 have z0:=s.heap.objs.size
 have hq:=h (s.heap.objs.size+1) s.heap.objs.size (I.hok.fresh (Nat.le_succ _)) (I.hok.fresh (Nat.le_refl _)) (Nat.ne_of_lt (Nat.lt_succ_self _))
 have J:=Inv.made (C:=C) I
 have ra:Vals (V.ref (s.heap.objs.size+1)::(vs++dvs)) (Value.ref (s.heap.objs.size+1)::(us++ds)):=.cons rfl (r.append hd)
 have la:=ra.length
 have lf:=F.len _ _ _ _ hq
 have hl:(Value.ref (s.heap.objs.size+1)::us++ds).length=ps.length:=by
  rw[List.cons_append]
  omega
 refine wpAny_call (Jxr (f:=f) I.kIn M.makes M.init (beq_iff_eq.mp M.fn) (codeAny_mono (F.run _ _ _ _ ⟨.ref (s.heap.objs.size+1)::us,[]⟩ _ _ _ _ (hr.make C us []) (J.env0.make C us []) (hb _ (.ref (s.heap.objs.size+1)::us) J.kIn hl) ra hq) λ res s' q=>?_))
 match res,q with
 | .error e,q =>
  obtain⟨H',I',z⟩:=Jzn J q
  exact hx e s' H' I' z
 | .ok (.ret u),q =>
  obtain⟨v,H',J3,rv,ev,q3⟩:=J.after q
  subst ev
  exact⟨rv,⟨V.ref (s.heap.objs.size+1),H',J3,rfl,q3⟩⟩
 | .ok .next,q=>exact False.elim q
 | .ok .brk,q=>exact False.elim q
 | .ok .cont,q=>exact False.elim q
end
structure ItI where
 xs:List IV
 chk:IH->Prop
open Classical in
noncomputable def Jfl (chk:IH->Prop) (g:G1) (b:S1):List IV->ISt->IH->SRes
 | [],σ,h=>if chk h then .next σ h else .stuck
 | x::xs,σ,h=>if chk h then(match g x σ h with
   | .next σ1 h1=>(match b σ1 h1 with
    | .next σ2 h2=>Jfl chk g b xs σ2 h2
    | .cont σ2 h2=>Jfl chk g b xs σ2 h2
    | .brk σ2 h2=>.next σ2 h2
    | .ret v h2=>.ret v h2
    | .exc n σ2 h2=>(match h2[n]? with
     | some (.exc _ _)=>.exc n σ2 h2
     | _=>.stuck)
    | _=>.stuck)
   | _=>.stuck) else .stuck
noncomputable abbrev I1:=ISt->IH->Res ItI
noncomputable def sFor (it:I1) (g:G1) (b:S1):S1:=λ σ h=>rS σ (it σ h) λ J h'=>Jfl J.chk g b J.xs σ h'
structure ItOk (ce:Str->Option Addr) (K:W.Frag) (ι:List Addr) (H₀:Hp) (J:It) (I:ItI):Prop where
 go:∀(k:Nat) (x:IV) (h:IH) (H:Hp) (ι':List Addr),Nxt ι H₀ ι' H->Rel ce K ι' h H->I.chk h->I.xs[k]?=some x ->
  J.go k H/\∀y H',J.yld k H y H'->Rel ce K ι' h H'/\Nxt ι' H ι' H'/\RV K ι' H' x y
 stop:∀(k:Nat) (h:IH) (H:Hp) (ι':List Addr),Nxt ι H₀ ι' H->Rel ce K ι' h H->I.chk h->I.xs.length<=k->J.stop k H
theorem Rel.get {ce:Str->Option Addr}{K:W.Frag}{ι:List Addr}{h:IH}{H:Hp}(R:Rel ce K ι h H){i:Nat}{o:IO}(e:h[i]?=Option.some o){a:Addr}(ha:ι[i]?=Option.some a):RO ce K ι H a o:=by
 obtain⟨b,e1,r⟩:=R.at_ i o e
 rw[ha] at e1
 cases e1
 exact r
noncomputable def RIt (ce:Str->Option Addr) (X:Cx) (tg:Expr) (pins:List (Addr×Obj)) (ι':List Addr) (I:ItI) (itv:Value) (s2:Shared) (H':Hp):Prop :=
 ∃(it:Addr) (fp:List Addr) (tn:Nat->Heap->Prop) (J:It),itv=.ref it/\Turn X.prog X.w X.K tg J fp it tn/\tn 0 s2.heap/\(∀b∈fp,FpOk X pins H' b)/\ItOk ce X.K ι' H' J I
noncomputable def PIi (ce:Str->Option Addr) (X:Cx) (tg iter:Expr) (m:I1):Prop :=
 ∀(pins:List (Addr×Obj)) (s:Shared) (σ:L2.St) (H:Hp) (ι:List Addr) (σi:ISt) (h:IH) (Q:Value->Shared->Prop) (E:Value->Shared->Prop),Now ce X pins ι σi h σ H s ->
  (match m σi h with
   | .ok I h'=>∀itv s' H' ι',Now ce X pins ι' σi h' σ H' s'->Nxt ι H ι' H'->RIt ce X tg pins ι' I itv s' H'->Q itv s'
   | .exc n h'=>∀pl a s' H' ι',Now ce X (pins++pl) ι' σi h' σ H' s'->Nxt ι H ι' H'->ι'[n]?=some a->E (.ref a) s'
   | .stuck=>False) ->
  wpAny (model X.prog X.w) X.A (eval iter X.env) (λ v s1=>wpAny (model X.prog X.w) X.A (pyIter v) Q E s1) E s
section
variable {ce:Str->Option Addr}{X:Cx}
theorem nof {M:Model}{A:Around}{α:Type}{t:Sem α}{Q:α->Shared->Prop}{E:Value->Shared->Prop}{s:Shared}(h:wpAny M A t Q (λ _ _=>False) s):wpAny M A t Q E s:=wpAny_mono h (λ _ _ x=>x) λ _ _ z=>z.elim
theorem Now.pins {pins:List (Addr×Obj)}{pl:List (Addr×Obj)}{ι:List Addr}{σi:ISt}{h:IH}{σ:L2.St}{H:Hp}{s:Shared}(N:Now ce X (pins++pl) ι σi h σ H s):Now ce X pins ι σi h σ H s:=⟨N.inv.unpinned,N.rel,N.st⟩
theorem s_for {tg iter:Expr}{body:List Stmt}{mi:I1}{g:G1}{mb:S1}{pos:Pos}(hc:X.calm=true) (hst:X.stack=X.env::X.outer) (hf:X.env.frame=some X.env.locals) (hi:PIi ce X tg iter mi) (hg:PGi ce X tg g) (hb:PS2 ce X body mb)
  (hs:∀x,foldedSetIterable iter X.env x=pure x:=by intro _;rfl):PS1 ce X (.For tg iter body [] pos) (sFor mi g mb):=by
 intro pins s σ H ι σi h Q E N K
 refine wpAny_For (hi pins s σ H ι σi h _ E N ?_) hs
 unfold sFor at K
 cases e0:mi σi h with
 | exc n h'=>rw[e0] at K;exact λ pl a s' H' ι' N' n' q=>K pl a s' σ H' ι' N' n' q s' (.inl rfl)
 | stuck=>rw[e0] at K;exact K
 | ok I h' =>
  rw[e0] at K
  intro itv s2 H2 ι2 N2 n2 R
  obtain⟨it,fp,tn,J,e,T,st2,f2,OK⟩:=R
  subst e
  have stat:∀{H':Hp},(∀b∈fp,H' b=none)->∀b∈fp,FpOk X pins H' b:=λ hn b hb=>⟨hn b hb,(f2 b hb).2⟩
  have K2:Jal ce X pins ι2 H2 (Jfl I.chk g mb I.xs σi h') Q E:=Jal.mono (r:=Jfl I.chk g mb I.xs σi h') K n2
  refine codeAny_forLoop_any (λ n s'=>∃k ιk σk hk σ' H',Now ce X pins ιk σk hk σ' H' s'/\Nxt ι2 H2 ιk H'/\tn k s'.heap/\(∀b∈fp,H' b=none)/\n=I.xs.length-k/\k<=I.xs.length/\Jal ce X pins ιk H' (Jfl I.chk g mb (I.xs.drop k) σk hk) Q E) ?_ I.xs.length
   ⟨0,ι2,σi,h',σ,H2,N2,.refl,st2,λ b hb=>(f2 b hb).1,by simp,Nat.zero_le _,by simpa using K2⟩
  rintro n s3 ⟨k,ιk,σk,hk,σ3,H3,N3,n3,st3,fr3,rfl,hkl,K3⟩
  by_cases hlt:k<I.xs.length
  ·-- a turn
   have hd:I.xs.drop k=I.xs[k]::I.xs.drop (k+1):=List.drop_eq_getElem_cons hlt
   rw[hd] at K3
   unfold Jfl at K3
   split at K3
   ·rename_i hck
    obtain⟨go,yl⟩:=OK.go k I.xs[k] hk H3 ιk n3 N3.rel hck (List.getElem?_eq_getElem hlt)
    refine nof (thn (T.item X rfl rfl rfl hc k pins s3 σ3 H3 (λ _ _=>False) N3.inv (stat fr3) st3 go) λ r s4 ⟨u,hr,h4⟩=>?_)
    subst hr
    refine nof (thn h4 λ _ s5 ⟨x,H5,I5,r5,y5,st5,fr5⟩=>?_)
    obtain⟨R5,n5,q5⟩:=yl x H5 y5
    have I5':=I5.pinned (stat fr5) (T.obj _ _ st5)
    have N5:Now ce X (pins++Jfa fp s5.heap) ιk σk hk σ3 H5 s5:=⟨I5',R5,N3.st.mono n5⟩
    cases eg:g I.xs[k] σk hk with
    | next σg hgg =>
     rw[eg] at K3
     dsimp only at K3
     refine nof (hg _ s5 σ3 H5 ιk σk hk _ u (λ _ s6=>wpAny (model X.prog X.w) X.A (execs body X.env) _ _ s6) (λ _ _=>False) N5 ⟨x,r5,q5⟩ ?_)
     rw[eg]
     intro s6 σ6 H6 ι6 N6 n6
     refine hb _ s6 σ6 H6 ι6 σg hgg _ _ N6 ?_
     have again:∀{σ7:L2.St}{H7:Hp}{s7:Shared}{σ7i:ISt}{h7:IH}{ι7:List Addr},Now ce X (pins++Jfa fp s5.heap) ι7 σ7i h7 σ7 H7 s7->Nxt ι6 H6 ι7 H7->Jal ce X pins ιk H3 (Jfl I.chk g mb (I.xs.drop (k+1)) σ7i h7) Q E ->
       ∃m,m<I.xs.length-k/\∃k ιk σk hk σ' H',Now ce X pins ιk σk hk σ' H' s7/\Nxt ι2 H2 ιk H'/\tn k s7.heap/\(∀b∈fp,H' b=none)/\m=I.xs.length-k/\k<=I.xs.length/\Jal ce X pins ιk H' (Jfl I.chk g mb (I.xs.drop k) σk hk) Q E :=
      λ {σ7 H7 s7 σ7i h7 ι7} N7 n7 K7=>by
       have nn:Nxt ιk H3 ι7 H7:=(n5.trans n6).trans n7
       refine⟨I.xs.length-(k+1),by omega,k+1,ι7,σ7i,h7,σ7,H7,N7.pins,n3.trans nn,T.keep _ _ _ st5 λ b hb o e=>(N7.inv.pin (b,o) (List.mem_append_right _ (List.mem_append_right _ (Jb8 hb e)))).1,λ b hb=>?_,rfl,hlt,K7.mono nn⟩
       obtain⟨o,e,d⟩:=T.obj _ _ st5 b hb
       exact(N7.inv.pin (b,o) (List.mem_append_right _ (List.mem_append_right _ (Jb8 hb e)))).2.1
     cases eb:mb σg hgg with
     | next σ7i h7 =>
      rw[eb] at K3
      exact λ s7 σ7 H7 ι7 N7 n7=>again N7 n7 K3
     | cont σ7i h7 =>
      rw[eb] at K3
      exact λ s7 σ7 H7 ι7 N7 n7=>again N7 n7 K3
     | brk σ7i h7 =>
      rw[eb] at K3
      exact λ s7 σ7 H7 ι7 N7 n7=>K3 s7 σ7 H7 ι7 N7.pins ((n5.trans n6).trans n7)
     | ret v h7 =>
      rw[eb] at K3
      exact λ u s7 σ7i σ7 H7 ι7 N7 n7 r=>K3 u s7 σ7i σ7 H7 ι7 N7.pins ((n5.trans n6).trans n7) r
     | exc n σ7i h7 =>
      rw[eb] at K3
      dsimp only at K3
      cases hj:h7[n]? with
      | none=>rw[hj] at K3;exact Zf K3
      | some ob =>
       cases ob with
       | exc c fs =>
        rw[hj] at K3
        intro pl a s7 σ7 H7 ι7 N7 n7 q s8 fl
        obtain⟨C,tv,d,fe,hC,ha,ht⟩:=N7.rel.get hj q
        have back:∀h8,Noted X.env.locals (frs X.stack) a s7.heap h8->cameBackBy (model X.prog X.w) X.A X.env E (.ref a) { s7 with heap:=h8 }:=λ h8 n8 =>
         Jrt hf n8 λ h9 n9=>K3 (Jfa fp s5.heap++pl) a s7 σ7 H7 ι7 (by rw[<- List.append_assoc];exact N7) ((n5.trans n6).trans n7) q _ (.inr ⟨h9,rfl,n9⟩)
        rcases fl with rfl|⟨h8,rfl,n8⟩
        ·exact Jqi N7.inv hst hf ha ht back
        ·exact Jjh hf n8 (back h8 n8)
       | _=>rw[hj] at K3;exact Zf K3
     | stuck=>rw[eb] at K3;exact Zf K3
    | _=>rw[eg] at K3;exact Zf K3
   ·exact Zf K3
  ·have hke:I.xs.drop k=[]:=List.drop_eq_nil_of_le (by omega)
   rw[hke] at K3
   unfold Jfl at K3
   split at K3
   ·rename_i hck
    have stop:=OK.stop k hk H3 ιk n3 N3.rel hck (by omega)
    refine nof (thn (T.done X rfl rfl rfl hc k pins s3 σ3 H3 (λ _ _=>False) N3.inv (stat fr3) st3 stop) λ r s4 ⟨hr,I4⟩=>?_)
    subst hr
    exact wpAny_execs_nil (K3 s4 σ3 H3 ιk ⟨I4,N3.rel,N3.st⟩ .refl)
   ·exact Zf K3
noncomputable def itOf:IV->IH->Res ItI
 | .ref i,h=>match h[i]? with
  | some (.lst xs)=>.ok ⟨xs,λ h'=>h'[i]?=some (.lst xs)⟩ h
  | _=>.stuck
 | .rol xs,h=>.ok ⟨xs,λ _=>True⟩ h
 | .tup xs,h=>.ok ⟨xs,λ _=>True⟩ h
 | _,_=>.stuck
noncomputable def iVal (e:E1):I1:=λ σ h=>(e σ h).bind itOf
variable {tg:Expr}
theorem J3v {a:Addr}{i:Nat}{xs:List IV}{ι:List Addr}{H₀:Hp}(ha:ι[i]?=some a):ItOk ce X.K ι H₀ (Itl X.K a) ⟨xs,λ h'=>h'[i]?=some (.lst xs)⟩:=by
 refine⟨λ k x h H ι' hp R hck hx=>?_,λ k h H ι' hp R hck hx=>?_⟩
 ·obtain⟨vs,e1,r1⟩:=R.get hck (hp.at ha)
  obtain⟨v,hv,qv⟩:=r1.get hx
  refine⟨⟨vs,v,SqL.of e1,hv⟩,λ y H' hy=>?_⟩
  obtain⟨rfl,hy⟩:=hy
  have:=hy vs (SqL.of e1)
  rw[hv] at this
  cases this
  exact⟨R,.refl,qv⟩
 ·obtain⟨vs,e1,r1⟩:=R.get hck (hp.at ha)
  exact⟨vs,SqL.of e1,by rw[r1.length];exact hx⟩
theorem J3w {a:Addr}{xs:List IV}{vs:List V}{ι:List Addr}{H₀:Hp}(sa:SqR X.K H₀ a vs) (ra:RVs X.K ι H₀ xs vs):ItOk ce X.K ι H₀ (Itl X.K a) ⟨xs,λ _=>True⟩:=by
 refine⟨λ k x h H ι' hp R hck hx=>?_,λ k h H ι' hp R hck hx=>?_⟩
 ·obtain⟨v,hv,qv⟩:=ra.get hx
  have sq:=(hp.ext.sqR sa).sq
  refine⟨⟨vs,v,sq,hv⟩,λ y H' hy=>?_⟩
  obtain⟨rfl,hy⟩:=hy
  have:=hy vs sq
  rw[hv] at this
  cases this
  exact⟨R,.refl,RV.mono hp _ _ qv⟩
 ·exact⟨vs,(hp.ext.sqR sa).sq,by rw[ra.length];exact hx⟩
theorem J3x {a:Addr}{xs:List IV}{vs:List V}{ι:List Addr}{H₀:Hp}(sa:SqT X.K H₀ a vs) (ra:RVs X.K ι H₀ xs vs):ItOk ce X.K ι H₀ (Itt X.K a) ⟨xs,λ _=>True⟩:=by
 refine⟨λ k x h H ι' hp R hck hx=>?_,λ k h H ι' hp R hck hx=>?_⟩
 ·obtain⟨v,hv,qv⟩:=ra.get hx
  have sq:=hp.ext.sqT sa
  refine⟨⟨vs,v,sq,hv⟩,λ y H' hy=>?_⟩
  obtain⟨rfl,hy⟩:=hy
  have:=hy vs sq
  rw[hv] at this
  cases this
  exact⟨R,.refl,RV.mono hp _ _ qv⟩
 ·exact⟨vs,hp.ext.sqT sa,by rw[ra.length];exact hx⟩
theorem Jt3 {l:Expr}{ml:E1}(hl:PEi ce X l ml):PIi ce X tg l (iVal ml):=by
 intro pins s σ H ι σi h Q E N K
 refine hl pins s σ H ι σi h _ E N ?_
 unfold iVal at K
 cases e0:ml σi h with
 | exc n h'=>rw[e0] at K;exact K
 | stuck=>rw[e0] at K;exact K
 | ok v h' =>
  rw[e0] at K
  intro u s1 H1 ι1 N1 n1 r1
  obtain⟨w,rw',q⟩:=r1
  have fresh:∀b∈[s1.heap.objs.size],FpOk X pins H1 b:=λ b hb=>by
   have e:b=s1.heap.objs.size:=by simpa using hb
   subst e
   exact N1.inv.fpOk (Nat.le_refl _) (N1.inv.hok.fresh (Nat.le_refl _))
  cases v with
  | ref i =>
   obtain⟨a,e1,ha⟩:=q
   subst e1
   cases rw'
   cases hi:h'[i]? with
   | none=>simp only[Res.bind,itOf,hi] at K
   | some o =>
    cases o with
    | lst xs =>
     simp only[Res.bind,itOf,hi] at K
     obtain⟨vs,e1,r1⟩:=N1.at hi ha
     obtain⟨its,rv,p,hz⟩:=N1.inv.list (SqL.of e1)
     refine wpAny_pyIter_list p.isList (K _ _ H1 ι1 ⟨N1.inv.kept (t':=s1.toks) λ b o e=>Heap.get?_push_of_some _ e,N1.rel,N1.st⟩ n1 ?_)
     exact⟨s1.heap.objs.size,[s1.heap.objs.size],_,Itl X.K a,rfl,Jn4 a _,⟨_,Heap.get?_push_size _ rfl,rfl,rfl⟩,fresh,J3v ha⟩
    | _=>simp only[Res.bind,itOf,hi] at K
  | rol xs =>
   obtain⟨a,vs,e1,sa,ra⟩:=q
   subst e1
   cases rw'
   simp only[Res.bind,itOf] at K
   obtain⟨its,rv,p,hz⟩:=N1.inv.list sa.sq
   refine wpAny_pyIter_list p.isList (K _ _ H1 ι1 ⟨N1.inv.kept (t':=s1.toks) λ b o e=>Heap.get?_push_of_some _ e,N1.rel,N1.st⟩ n1 ?_)
   exact⟨s1.heap.objs.size,[s1.heap.objs.size],_,Itl X.K a,rfl,Jn4 a _,⟨_,Heap.get?_push_size _ rfl,rfl,rfl⟩,fresh,J3w sa ra⟩
  | tup xs =>
   obtain⟨a,vs,e1,sa,ra⟩:=q
   subst e1
   cases rw'
   simp only[Res.bind,itOf] at K
   obtain⟨its,rv,p,hz⟩:=N1.inv.tuple sa
   refine wpAny_pyIter_tuple (show s1.heap.IsTuple a its.toArray from p) (K _ _ H1 ι1 ⟨N1.inv.kept (t':=s1.toks) λ b o e=>Heap.get?_push_of_some _ e,N1.rel,N1.st⟩ n1 ?_)
   exact⟨s1.heap.objs.size,[s1.heap.objs.size],_,Itt X.K a,rfl,Jsj a _,⟨_,Heap.get?_push_size _ rfl,rfl,rfl⟩,fresh,J3x sa ra⟩
  | _=>simp only[Res.bind,itOf] at K
noncomputable def rngI (lo hi:Int):List IV:=(List.range (hi-lo).toNat).map λ k=>.int (lo+(k:Nat))
noncomputable def Jec:List IV->IH->Res ItI
 | [.int j],h=>if -(2^62)<=j/\j<2^62 then .ok ⟨rngI 0 j,λ _=>True⟩ h else .stuck
 | _,_=>.stuck
noncomputable def Jy8:List IV->IH->Res ItI
 | [.int i,.int j],h=>if -(2^62)<=i/\i<2^62/\ -(2^62)<=j/\j<2^62 then .ok ⟨rngI i j,λ _=>True⟩ h else .stuck
 | _,_=>.stuck
noncomputable def iRg (f:List IV->IH->Res ItI) (a:A1):I1:=λ σ h=>(a σ h).bind f
theorem J4u {lo hi:Int}{ι:List Addr}{H₀:Hp}:ItOk ce X.K ι H₀ (Itr lo (hi-lo).toNat) ⟨rngI lo hi,λ _=>True⟩:=by
 refine⟨λ k x h H ι' hp R hck hx=>?_,λ k h H ι' hp R hck hx=>?_⟩
 ·have hk:k<(hi-lo).toNat:=by
   have:=(List.getElem?_eq_some_iff.mp hx).1
   simpa [rngI] using this
  refine⟨hk,λ y H' hy=>?_⟩
  obtain⟨rfl,rfl⟩:=hy
  simp only[rngI,List.getElem?_map,List.getElem?_range hk] at hx
  cases hx
  exact⟨R,.refl,rfl⟩
 ·have:(rngI lo hi).length=(hi-lo).toNat:=by simp[rngI]
  show(hi-lo).toNat<=k
  rw[<- this]
  exact hx
theorem Juw {pins:List (Addr×Obj)}{σ:L2.St}{H:Hp}{ι:List Addr}{σi:ISt}{h:IH}{s:Shared}{Q:Value->Shared->Prop}{E:Value->Shared->Prop}{lo hi:Int}{t u v:Tok}{tk:Nat}(N:Now ce X pins ι σi h σ H s)
  (h1: -(2^62)<=lo) (h2:lo<2^62) (h3: -(2^62)<=hi) (h4:hi<2^62)
  (K:∀itv s' H' ι',Now ce X pins ι' σi h σ H' s'->Nxt ι H ι' H'->RIt ce X tg pins ι' ⟨rngI lo hi,λ _=>True⟩ itv s' H'->Q itv s') :
  wpAny (model X.prog X.w) X.A (pyIter (.ref s.heap.objs.size)) Q E { s with heap:=s.heap.push { cls:=.type "range",data:=.fields #[.int lo t,.int hi u,.int 1 v] },toks:=tk }:=by
 have:=Jxx (X:=X) (tg:=tg) (E:=E) (R:=λ J H'=>J=Itr lo (hi-lo).toNat/\H'=H) (t:=t) (u:=u) (v:=v) (tk:=tk) N.inv h1 h2 h3 h4 ⟨rfl,rfl⟩
 refine wpAny_mono this (λ itv s' hq=>?_) λ _ _ z=>z
 obtain⟨it,fp,tn,J,H',e,I',T,st,f,rfl,rfl⟩:=hq
 exact K itv s' _ ι ⟨I',N.rel,N.st⟩ .refl ⟨it,fp,tn,_,e,T,st,f,J4u⟩
theorem Jw7 {a:Expr}{ma:A1}{p pos:Pos}(hg:Gl X "range") (hm:X.mg "range"=none) (ha:PAi ce X [a] ma) (hs:starEach [a] X.env=[(false,eval a X.env)]:=by rfl):PIi ce X tg (.Call (.Name "range" p) [a] [] pos) (iRg Jec ma):=by
 intro pins s σ H ι σi h Q E N K
 refine Call_ (Jed N.inv hg hm boot_range (PyProof.Rows.callWith_type1 ?_ hs rfl))
 refine ha pos pins s σ H ι σi h _ E N ?_
 unfold iRg at K
 cases e0:ma σi h with
 | exc n h'=>rw[e0] at K;exact K
 | stuck=>rw[e0] at K;exact K
 | ok vs h' =>
  rw[e0] at K
  intro us s1 H1 ι1 N1 n1 r1
  obtain⟨xs,rv,qs⟩:=r1
  match vs,K with
  | [.int j],K =>
   obtain⟨w,r,e1,q,q2⟩:=qs
   have e2:r=[]:=q2
   subst e1 e2
   have e3:w=.int j:=q
   subst e3
   cases rv with
   | cons r rr =>
    cases rr
    obtain⟨t,rfl⟩:=r
    simp only[Res.bind,Jec] at K
    by_cases hb: -(2^62)<=j/\j<2^62
    ·rw[if_pos hb] at K
     exact call_range_1 (Juw N1 (by omega) (by omega) hb.1 hb.2 λ itv s' H' ι' N' n' R=>K itv s' H' ι' N' (n1.trans n') R)
    ·rw[if_neg hb] at K
     exact K.elim
  | [],K=>exact Zf K
  | .non::_,K=>exact Zf K
  | .bl _::_,K=>exact Zf K
  | .str _::_,K=>exact Zf K
  | .tup _::_,K=>exact Zf K
  | .rol _::_,K=>exact Zf K
  | .ref _::_,K=>exact Zf K
  | .int _::_::_,K=>exact Zf K
end
end L3
namespace L3
open PySem PySem.Spec PySem.Calls PyProof.Rows L2
section
variable {prog:Program}{w:World}{A:Around}{E:Value->Shared->Prop}{s:Shared}{K:W.Frag}{x D:Addr}{ox:Obj}
open PySem.W PySem.Builtin PySem.Builtin.ObjectAttr PySem.Builtin.Getset_descriptor in
theorem J5k {tp:Value}{R:Result->Shared->Prop}(X:K.In s.heap) (hx:s.heap.get? x=some ox) (hcl:ox.cls=.ref D) (hm:mroIn K D (.type "object")=some true) (k:R (.ok (.ret (.ref D))) s) :
  codeAny (model prog w) A (.call (.builtin "getset_descriptor.__get__") ⟨[.builtin "object.__class__",.ref x,tp],[]⟩) R s:=by
 obtain⟨hh,g,d,t,os⟩:=s
 have L0:Looks (model prog w) hh (typeOf (.ref x)) (.ref D):=hcl▸(Looks.ld hx).andThen .now
 have L5:=looks_mroIn (M:=model prog w) X hm
 have sl:=KF.slot_gs
 refine codeAny_call_builtin sl.plain KF.entry_gs (sl.check _ _ _ _ _ _ _ _ KF.type_class (KF.args_gs _ _ _) ?_)
 unfold Builtin.«getset_descriptor.__get__»
 unfold descrGet
 rw[dga_obj]
 apply wpAny_bind
 apply wpAny_pure
 unfold descrGetter descrCheckInstance
 unfold descrNameAndClass isInstance
 simp only[KF.owner_class]
 repeat lk
 have quiet:=Code.quiet_builtin (id:="object.__class__") ⟨[.ref x],[]⟩ (by decide +kernel)
 refine⟨quiet,codeAny_builtin KF.entry_class ?_⟩
 unfold Builtin.«object.__class__»
 unfold shownTypeOf
 repeat lk
 exact k
theorem Jyr {tk:Tok}{Q:Fin->Shared->Prop}(X:K.In s.heap) (hx:s.heap.get? x=some ox) (hcl:ox.cls=.ref D) (hc:W.findIn K (.ref D) "__class__"=some (some (.builtin "object.__class__"))) (hm:W.mroIn K D (.type "object")=some true)
  (hq:Q (.done (.ret (.ref D))) s):wpAny (model prog w) A (Builtin.«object.__getattribute__» ⟨[.ref x,.str "__class__" tk],[]⟩) Q E s:=by
 obtain⟨hh,g,d,t,os⟩:=s
 have L0:W.Looks (model prog w) hh (typeOf (.ref x)) (.ref D):=hcl▸(W.Looks.ld hx).andThen .now
 have L2:=W.looks_findIn (M:=model prog w) X hc
 have hT5:(⟨hh,g,d,t,os⟩:Shared).TypeIs (.builtin "object.__class__") "getset_descriptor":=F.typeOf_object_class
 have f5:=F.typeOf_object_class
 have f6:=F.slot_gs_get.lookup
 have f7:=F.slot_gs_set.lookup
 repeat (any_goals (first|assumption|with_reducible refine L0.at ?_|with_reducible refine L2.at ?_|wp_step))
 refine J5k (s:=⟨hh,g,d,t,os⟩) X hx hcl hm ?_
 repeat (any_goals (first|assumption|wp_step))
theorem Jyq {v:Value}{Q:Unit->Shared->Prop}{M:Model}(X:K.In s.heap) (hx:s.heap.get? x=some ox) (hcl:ox.cls=.ref D) (hb:W.mroIn K D (.type "BaseException")=some true) (hq:Q () s):wpAny M A (checkBuiltinCall "BaseException.__getattribute__" ⟨[.ref x,v],[]⟩) Q E s:=by
 obtain⟨hh,g,d,t,os⟩:=s
 have L0:W.Looks M hh (typeOf (.ref x)) (.ref D):=hcl▸(W.Looks.ld hx).andThen .now
 have L3:=W.looks_mroIn (M:=M) X hb
 have k1:builtinKind "BaseException.__getattribute__"=some .slot:=by decide +kernel
 have k2:splitId "BaseException.__getattribute__"=some ("BaseException","__getattribute__"):=by decide +kernel
 have k3:=F.args_bexc_ga (.ref x) v
 simp only[checkBuiltinCall,k1,k2]
 refine wpAny_bind ?_
 unfold isInstance
 repeat (first|with_reducible refine L0.at ?_|with_reducible refine L3.at ?_|wp_step)
 exact hq
theorem xc_by {tk:Tok}{Q:Value->Shared->Prop}(X:K.In s.heap) (hx:s.heap.get? x=some ox) (hcl:ox.cls=.ref D) (hg:W.findIn K (.ref D) "__getattribute__"=some (some (.builtin "BaseException.__getattribute__"))) (hb:W.mroIn K D (.type "BaseException")=some true) (hn:W.findIn K (.ref D) "__getattr__"=some none)
  (hc:W.findIn K (.ref D) "__class__"=some (some (.builtin "object.__class__"))) (hm:W.mroIn K D (.type "object")=some true) (hq:Q (.ref D) s):wpAny (model prog w) A (getAttrBy (.ref x) (.str "__class__" tk) false) Q E s:=by
 obtain⟨hh,g,d,t,os⟩:=s
 have L0:W.Looks (model prog w) hh (typeOf (.ref x)) (.ref D):=hcl▸(W.Looks.ld hx).andThen .now
 have L1:=W.looks_findIn (M:=model prog w) X hg
 have L4:=W.looks_findIn (M:=model prog w) X hn
 have f3:=F.attr_ValueError.ga.bind (.ref x)
 have hx2:(Value.builtin "BaseException.__getattribute__"==Value.builtin "object.__getattribute__")=false:=by decide +kernel
 have hx1:(onTheHeap (Value.ref D)&&Value.builtin "BaseException.__getattribute__"==Value.builtin "object.__getattribute__")=false:=by rw[hx2];rfl
 repeat (any_goals (first|assumption|with_reducible refine L0.at ?_|with_reducible refine L1.at ?_|with_reducible refine L4.at ?_|wp_step))
 refine codeAny_call_builtin F.attr_ValueError.ga.plain F.entry_bexc_ga (Jyq (s:=⟨hh,g,d,t,os⟩) X hx hcl hb (Jyr (s:=⟨hh,g,d,t,os⟩) X hx hcl hc hm ?_))
 repeat (any_goals (first|assumption|wp_step))
theorem J2t {Q:Option Value->Shared->Prop}(X:K.In s.heap) (hx:s.heap.get? x=some ox) (hcl:ox.cls=.ref D) (hg:W.findIn K (.ref D) "__getattribute__"=some (some (.builtin "BaseException.__getattribute__"))) (hb:W.mroIn K D (.type "BaseException")=some true) (hn:W.findIn K (.ref D) "__getattr__"=some none)
  (hc:W.findIn K (.ref D) "__class__"=some (some (.builtin "object.__class__"))) (hm:W.mroIn K D (.type "object")=some true) (hq:Q (some (.ref D)) { s with toks:=s.toks+1 }):wpAny (model prog w) A (getAttr? (.ref x) "__class__") Q E s:=by
 obtain⟨hh,g,d,t,os⟩:=s
 unfold getAttr? getAttrBy?
 refine wpAny_bind (wpAny_mkText (wpAny_bind (wpAny_attempt (xc_by (s:=⟨hh,g,d,t+1,os⟩) X hx hcl hg hb hn hc hm ?_))))
 exact wpAny_pure hq
end
structure ExI (K:W.Frag) (C:Addr):Prop where
 ga:W.findIn K (.ref C) "__getattribute__"=some (some (.builtin "BaseException.__getattribute__"))
 mb:W.mroIn K C (.type "BaseException")=some true
 gn:W.findIn K (.ref C) "__getattr__"=some none
 ca:W.findIn K (.ref C) "__class__"=some (some (.builtin "object.__class__"))
 mo:W.mroIn K C (.type "object")=some true
 hd:W.hasDictIn K C=true
theorem ExI.at_ {K:W.Frag}{C:Addr}(e:ExI K C):∃c d cd sl,K.lookup C=some ⟨c,d,.cls cd,sl⟩:=by
 obtain⟨cd,hc,_⟩:=W.any_some e.hd
 unfold W.clsIn at hc
 split at hc
 case h_2=>cases hc
 rename_i c d cd' sl ho
 exact⟨c,d,cd',sl,ho⟩
theorem Jqd {K:W.Frag}{x D:Addr}(e:ExI K D):W.KitX K (.ref x) (.ref D) (λ h=>∃ox,h.get? x=some ox/\ox.cls=.ref D) where
 ty:=λ _ _ _ ⟨ox,hx,hc⟩=>hc▸(W.Looks.ld hx).andThen .now
 it:=λ _ _ X _=>by
  obtain⟨c,d,cd,sl,ho⟩:=e.at_
  intro A' Q' E' s' kp q
  unfold isType
  unfold loadHead
  exact wpAny_bind (wpAny_loadPart (kp _ _ (X D _ ho)) (wpAny_pure q))
 ne:=λ h tp dd its n sl X htp=>by
  obtain⟨c,d,cd,sl',ho⟩:=e.at_
  rw[Bool.eq_false_iff]
  intro q
  cases (Value.ref.inj (beq_iff_eq.mp q))
  have z:=(X D _ ho).symm.trans htp
  cases z
 ca:=λ X ⟨ox,hx,hc⟩ k=>J2t X hx hc e.ga e.mb e.gn e.ca e.mo k
end L3
namespace L3
open PySem PySem.Spec PyProof.Rows L2
noncomputable def Jkr (n:Nat) (vs:List IV):ISt:=vs.map some++List.replicate (n-vs.length) none
noncomputable def SRes.fin (r:SRes):Res IV:=match r with
 | .next _ h'=>.ok .non h'
 | .ret v h'=>.ok v h'
 | .exc n _ h'=>(match h'[n]? with
  | some (.exc _ _)=>.exc n h'
  | _=>.stuck)
 | _=>.stuck
noncomputable def fnI (n:Nat) (m:S1):List IV->IH->Res IV:=λ vs h=>(m (Jkr n vs) h).fin
noncomputable def spI (ce:Str->Option Addr) (K:W.Frag) (ps:List Str) (f:List IV->IH->Res IV):Sp:=λ vs H Q E =>
 vs.length=ps.length/\∃ι h ivs,Rel ce K ι h H/\RVs K ι H ivs vs /\
  match f ivs h with
  | .ok v h'=>∀x H' ι',Rel ce K ι' h' H'->Nxt ι H ι' H'->RV K ι' H' v x->Q x H'
  | .exc n h'=>∀a H' ι',Rel ce K ι' h' H'->Nxt ι H ι' H'->ι'[n]?=some a->E (.ref a) none H'
  | .stuck=>False
theorem RVs.start {K:W.Frag}{ι:List Addr}{H:Hp}{N:List Str}{ivs:List IV}{vs:List V}(r:RVs K ι H ivs vs):RSt K ι H (Jkr N.length ivs) (L2.start N vs):=by
 have hl:=r.length
 refine⟨by simp[Jkr,L2.start,hl],λ j v e=>?_⟩
 unfold Jkr at e
 unfold L2.start
 by_cases hj:j<ivs.length
 ·rw[List.getElem?_append_left (by simpa using hj),List.getElem?_map] at e
  rw[List.getElem?_append_left (by simp;omega),List.getElem?_map]
  cases e1:ivs[j]? with
  | none=>rw[e1] at e;cases e
  | some w =>
   rw[e1] at e
   cases e
   obtain⟨u,hu,q⟩:=r.get e1
   exact⟨u,by rw[hu];rfl,q⟩
 ·rw[List.getElem?_append_right (by simpa using hj),List.getElem?_replicate] at e
  split at e<;>cases e
theorem Jlp {α:Type}:∀{l:List α}{i:Nat}{x:α},l[i]?=some x->l.set i x=l
 | [],_,_,e=>by simp at e
 | a::l,0,x,e=>by cases e;rfl
 | a::l,i+1,x,e=>by
  show a::l.set i x=a::l
  rw[Jlp (l:=l) e]
theorem Jx1 {ce:Str->Option Addr}{K:W.Frag}{ι:List Addr}{h:IH}{H:Hp}{i:Nat}{o:IO}{a:Addr}(R:Rel ce K ι h H) (e:h[i]?=some o) (q:ι[i]?=some a):RO ce K ι H a o:=by
 obtain⟨b,e1,r⟩:=R.at_ i o e
 rw[q] at e1
 cases e1
 exact r
structure FunD (K:W.Frag) (x qual:Str) (st:Stmt) (f:Addr) (fd:FuncData) (dV:Value):Prop where
 ex:∃(oc:Value) (od:Option Addr) (kV doc pm:Value) (an:Option Addr) (cdv ct:Value) (osl:Array (Option Value)),
  fd=W.fnOf x qual (Jan st) (Jy st) (Jk st) dV kV doc pm an cdv ct/\K.lookup f=some ⟨oc,od,.func fd,osl⟩/\W.codeIn K cdv qual=true
 kp:W.keepIn K (.ref f)=true
section
variable {P:Program}{w:World}{K:W.Frag}{mg:Str->Option Value}{base:Heap}{ce:Str->Option Addr}
theorem FunD.fn {x qual:Str}{st:Stmt}{f:Addr}{fd:FuncData}{dV:Value}{N ps:List Str}{k n:Nat}{m:S1}(F:FunD K x qual st f fd dV) (S:FnScope N ps (Jk st))
  (hbody:∀(cdv:Value) (A:Around) (outer:List Env) (s:Shared) (H:Hp) (E:XK),W.codeIn K cdv qual=true->Room k (A.deeper (envOfC qual (Jk st) s.heap.objs.size f cdv))->PS2 ce (cxOf (CXI P w) P w K mg base N qual (Jk st) f cdv A outer s H E).nox (Jy st) m) (hn:N.length=n:=by rfl) :
  FnOk P w K mg base (CXI P w) (k+1) f fd ps (spI ce K ps (fnI n m)):=by
 subst hn
 obtain⟨oc,od,kV,doc,pm,an,cdv,ct,osl,rfl,lk,hcd⟩:=F.ex
 refine J28 lk hcd S (λ vs H Q E h=>h.1) λ A outer s H vs Q E hr hsp=>?_
 obtain⟨hl,ι,h,ivs,R,rv,hk⟩:=hsp
 refine⟨λ D σ H=>∃ι σi h,Rel ce K ι h H/\RSt K ι H σi σ/\match m σi h with
  | .next σi' h'=>∀σ' H' ι',Rel ce K ι' h' H'->RSt K ι' H' σi' σ'->Nxt ι H ι' H'->D.nx σ' H'
  | .ret v h'=>∀x H' ι',Rel ce K ι' h' H'->Nxt ι H ι' H'->RV K ι' H' v x->D.rt x H'
  | .exc n _ h'=>(∃c fs,h'[n]?=some (.exc c fs))/\∀a H' ι',Rel ce K ι' h' H'->Nxt ι H ι' H'->ι'[n]?=some a->E (.ref a) none H'
  | _=>False,λ pins s' σ' H' D I ht=>?_,ι,Jkr N.length ivs,h,R,rv.start,?_⟩
 ·obtain⟨ι,σi,h,R,rs,hm⟩:=ht
  refine wpAny_mono (hbody cdv A outer s H E hcd hr pins s' σ' H' ι σi h (SP _ pins D) _ ⟨I.wish _,R,rs⟩ ?_) (λ _ _ z=>z) (λ _ _ z=>z)
  cases e:m σi h with
  | next σ2 h2 =>
   rw[e] at hm
   exact λ s3 σ3 H3 ι3 N3 n3=>⟨σ3,H3,N3.inv.unwish,hm σ3 H3 ι3 N3.rel N3.st n3⟩
  | ret v h2 =>
   rw[e] at hm
   exact λ u s3 σ3i σ3 H3 ι3 N3 n3 ⟨z,rz,q⟩=>⟨z,σ3,H3,N3.inv.unwish,rz,hm z H3 ι3 N3.rel n3 q⟩
  | exc j σ2 h2 =>
   rw[e] at hm
   obtain⟨⟨c,fs,hj⟩,hm⟩:=hm
   intro pl a s3 σ3 H3 ι3 N3 n3 hi s4 fl
   have I3:=N3.inv.unwish
   obtain⟨C,tv,d,fe,hC,ha,ht⟩:=Jx1 N3.rel hj hi
   refine Jug I3 fl rfl rfl ha ht λ T oT h' p=>?_
   have nl:s.heap.get? s.heap.objs.size=none:=Heap.get?_none_of_le (Nat.le_refl _)
   obtain⟨R4,n4⟩:=N3.rel.grow (o:=.frz oT (.own 0)) p.new
   have ha4:upd H3 T (.frz oT (.own 0)) a=some (ExF a C tv d):=by rw[Jh (Ne.symm p.ne)];exact ha
   obtain⟨R5,n5⟩:=R4.write hi ha4 (by rw[ha4];trivial) (o:=ExF a C (.ref T) d) (io:=.exc c fs) ⟨C,.ref T,d,fe.mono p.un.frzs,hC,Jg,.inr ⟨T,oT,_,rfl,by rw[Jh p.ne,Jg],p.fld.choose_spec⟩⟩
   rw[Jlp hj] at R5
   exact⟨_,I3.os,I3.bare,Un.tail I3.base p.un nl,p.hok,hm a _ ι3 R5 ((n3.trans n4).trans n5) hi⟩
  | _=>rw[e] at hm;exact hm.elim
 ·unfold fnI SRes.fin at hk
  cases e:m (Jkr N.length ivs) h with
  | next σ2 h2 =>
   rw[e] at hk
   exact λ σ3 H3 ι3 R3 _ n3=>hk .non H3 ι3 R3 n3 rfl
  | ret v h2 =>
   rw[e] at hk
   exact hk
  | exc j σ2 h2 =>
   rw[e] at hk
   dsimp only at hk
   cases q:h2[j]? with
   | none=>rw[q] at hk;exact hk.elim
   | some o =>
    cases o with
    | exc c fs=>rw[q] at hk;exact⟨⟨c,fs,q⟩,hk⟩
    | _=>rw[q] at hk;exact hk.elim
  | _=>rw[e] at hk;exact hk.elim
end
noncomputable def Res.nx {α:Type}:Res α->Res α
 | .ok a h=>.ok a h
 | _=>.stuck
noncomputable def Jn (f:List IV->IH->Res IV) (dvs:List IV) (a:A1):E1:=λ σ h=>(a σ h).bind λ vs h1=>f (vs++dvs) h1
noncomputable def Jk6 (c:Str) (f:List IV->IH->Res IV) (dvs:List IV) (a:A1):E1:=λ σ h=>(a σ h).bind λ vs h1=>(f (.ref h1.length::(vs++dvs)) (h1++[.ins c []])).bind λ r h2=>match r with
 | .non=>.ok (.ref h1.length) h2
 | _=>.stuck
noncomputable def Jws (m:Str) (disp:Str->Option ((List IV->IH->Res IV)×List IV)) (o:E1) (a:A1):E1:=λ σ h=>(o σ h).bind λ v h1=>match v with
 | .ref i=>(match h1[i]? with
  | some (.ins c fs)=>(match disp c,fs.lookup m with
   | some (f,dvs),none=>(a σ h1).bind λ vs h2=>f (.ref i::(vs++dvs)) h2
   | _,_=>.stuck)
  | _=>.stuck)
 | _=>.stuck
section
variable {ce:Str->Option Addr}{X:Cx}{k:Nat}{fa C:Addr}{fd:FuncData}{ps:List Str}{f:List IV->IH->Res IV}{dvs:List IV}{ds:List Value}{x m:Str}{p pos apos:Pos}{e o:Expr}{es:List Expr}{mo:E1}{ma:A1}
theorem RUs.vals {K:W.Frag}{ι:List Addr}{H:Hp}{xs:List IV}{us:List Value}(r:RUs K ι H xs us):∃vs,Vals vs us/\RVs K ι H xs vs:=r
theorem Jlk {pins:List (Addr×Obj)}{σ:L2.St}{H:Hp}{ι:List Addr}{σi:ISt}{h:IH}{s:Shared}{Q:Value->Shared->Prop}{E:Value->Shared->Prop}{us:List Value}{xs:List IV}(F:FnOk X.prog X.w X.K X.mg X.base (CXI X.prog X.w) k fa fd ps (spI ce X.K ps f)) (hr:Room k X.A) (hb:Jfb X.K fd ps ds)
  (hd:∃vs,Vals vs ds/\∀ι H,RVs X.K ι H dvs vs) (hlen:us.length+ds.length=ps.length) (N:Now ce X pins ι σi h σ H s) (r:RUs X.K ι H xs us) (K:Kont ce X RU pins ι σi σ H (f (xs++dvs) h) Q E):wpAny (model X.prog X.w) X.A (call (.ref fa) us) Q E s:=by
 obtain⟨vs,rv,q⟩:=r
 obtain⟨dv,rd,qd⟩:=hd
 have hl1:=rv.length
 have hl2:=rd.length
 refine wpAny_mono (J1j (Q:=λ z H'=>∀u s',Inv X pins σ H' s'->RelV z u->Q u s') (E:=λ v _ H'=>∀s',Inv X pins σ H' s'->E v s') F hr hb rd N.inv rv ⟨by rw[List.length_append];omega,ι,h,xs++dvs,N.rel,q.append (qd ι H),?_⟩ λ _ s' _ I' z=>z s' I')
  (λ u s' ⟨z,H',I',r',k'⟩=>k' u s' I' r') λ _ _ z=>z
 cases e:f (xs++dvs) h with
 | ok v h' =>
  rw[e] at K
  exact λ z H' ι' R' n' qz u s' I' ru=>K u s' H' ι' ⟨I',R',N.st.mono n'⟩ n' ⟨z,ru,qz⟩
 | exc n h' =>
  rw[e] at K
  exact λ a H' ι' R' n' hi s' I'=>K [] a s' H' ι' ⟨by simpa using I',R',N.st.mono n'⟩ n' hi
 | stuck=>rw[e] at K;exact K
theorem J3e (F:FnOk X.prog X.w X.K X.mg X.base (CXI X.prog X.w) k fa fd ps (spI ce X.K ps f)) (hr:Room k X.A) (hg:Gl X x) (hm:X.mg x=some (.ref fa)) (hk:W.keepIn X.K (.ref fa)=true) (hb:Jfb X.K fd ps ds) (hd:∃vs,Vals vs ds/\∀ι H,RVs X.K ι H dvs vs)
  (ha:PAi ce X (e::es) ma) (hlen:∀σ h xs h',ma σ h=.ok xs h'->xs.length+ds.length=ps.length) (hdb:(x==("__debug__":Str))=false:=by decide) (he:starEach (e::es) X.env=(false,eval e X.env)::starEach es X.env:=by rfl) (hpl:(backTo pos (starEach es X.env)).any (·.1)=false:=by rfl) :
  PEi ce X (.Call (.Name x p) (e::es) [] pos) (Jn f dvs ma):=by
 intro pins s σ H ι σi h Q E N K
 refine wpAny_Call_Name_kw (Jfj N.inv hg hm ?_ hdb)
 refine W.callWith_K (h₀:=X.base) N.inv.ok.mod.kin hk ?_ he hpl
 have K':=K
 unfold Jn at K'
 refine ha pos pins s σ H ι σi h _ E N ?_
 cases e0:ma σi h with
 | exc n h'=>rw[e0] at K';exact K'
 | stuck=>rw[e0] at K';exact K'
 | ok xs h' =>
  rw[e0] at K'
  intro us s1 H1 ι1 N1 n1 r1
  have hl:xs.length=us.length:=by
   obtain⟨vs,rv,q⟩:=r1
   rw[<- rv.length,q.length]
  exact⟨N1.inv.kIn,Jlk (us:=us) F hr hb hd (by have:=hlen σi h xs h' e0;omega) N1 r1 (Kont.mono (r:=(f (xs++dvs) h')) K' n1)⟩
theorem J0o (F:FnOk X.prog X.w X.K X.mg X.base (CXI X.prog X.w) k fa fd ps (spI ce X.K ps f)) (hr:Room k X.A) (hg:Gl X x) (hm:X.mg x=some (.ref fa)) (hk:W.keepIn X.K (.ref fa)=true) (hb:Jfb X.K fd ps ds) (hd:∃vs,Vals vs ds/\∀ι H,RVs X.K ι H dvs vs)
  (hlen:ds.length=ps.length) (hdb:(x==("__debug__":Str))=false:=by decide):PEi ce X (.Call (.Name x p) [] [] pos) (Jn f dvs aNil):=by
 intro pins s σ H ι σi h Q E N K
 refine wpAny_Call_Name_kw (Jfj N.inv hg hm ?_ hdb)
 exact W.callWith_K0 N.inv.kIn hk (Jlk (xs:=[]) F hr hb hd (by simpa using hlen) N .nil K)
theorem Jnm {c:Str}{pins:List (Addr×Obj)}{σ:L2.St}{H:Hp}{ι:List Addr}{σi:ISt}{h:IH}{s:Shared}{Q:Value->Shared->Prop}{E:Value->Shared->Prop}{us:List Value}{xs:List IV}(M:Mk X.K C fa) (F:FnOk X.prog X.w X.K X.mg X.base (CXI X.prog X.w) k fa fd ps (spI ce X.K ps f)) (hC:ce c=some C) (hr:Room (k+1) X.A) (hb:Jfb X.K fd ps ds)
  (hd:∃vs,Vals vs ds/\∀ι H,RVs X.K ι H dvs vs) (hlen:us.length+ds.length+1=ps.length) (N:Now ce X pins ι σi h σ H s) (r:RUs X.K ι H xs us)
  (K:Kont ce X RU pins ι σi σ H ((f (.ref h.length::(xs++dvs)) (h++[.ins c []])).bind λ r h2=>match r with|.non=>.ok (.ref h.length) h2|_=>.stuck) Q E):wpAny (model X.prog X.w) X.A (call (.ref C) us) Q E s:=by
 obtain⟨vs,rv,q⟩:=r
 obtain⟨dv,rd,qd⟩:=hd
 have hl1:=rv.length
 have hl2:=rd.length
 refine wpAny_mono (Juy (Q:=λ z H'=>∀u s',Inv X pins σ H' s'->RelV z u->Q u s') (E:=λ v _ H'=>∀s',Inv X pins σ H' s'->E v s') M F hr hb rd N.inv rv (λ x dx hx hdx hne=>⟨by rw[List.length_cons,List.length_append];omega,?_⟩) λ _ s' _ I' z=>z s' I')
  (λ u s' ⟨z,H',I',r',k'⟩=>k' u s' I' r') λ _ _ z=>z
 -- the new instance in the reading's heap
 obtain⟨R1,n1⟩:=N.rel.grow (o:=.own x) hdx
 have hx1:upd H dx (.own x) x=none:=by rw[Jh (Ne.symm hne)];exact hx
 obtain⟨R2,n2⟩:=R1.alloc (o:=.ins C dx []) (io:=.ins c []) hx1 ⟨C,dx,[],hC,Jg,rfl⟩
 have n12:=n1.trans n2
 have hat:(ι++[x])[h.length]?=some x:=by
  rw[<- N.rel.len,List.getElem?_append_right (Nat.le_refl _)]
  simp
 refine⟨ι++[x],h++[.ins c []],.ref h.length::(xs++dvs),R2,⟨_,_,rfl,⟨x,rfl,hat⟩,(RVs.mono n12 _ _ q).append (qd _ _)⟩,?_⟩
 cases e:f (.ref h.length::(xs++dvs)) (h++[.ins c []]) with
 | ok v h' =>
  rw[e] at K
  intro z H' ι' R' n' qz
  cases v with
  | non =>
   have ez:z=.non:=qz
   subst ez
   exact⟨rfl,λ u s' I' ru=>K u s' H' ι' ⟨I',R',N.st.mono (n12.trans n')⟩ (n12.trans n') ⟨.ref x,ru,x,rfl,n'.at hat⟩⟩
  | _=>exact Zf K
 | exc n h' =>
  rw[e] at K
  exact λ a H' ι' R' n' hi s' I'=>K [] a s' H' ι' ⟨by simpa using I',R',N.st.mono (n12.trans n')⟩ (n12.trans n') hi
 | stuck=>rw[e] at K;exact Zf K
theorem J3l {c:Str}(M:Mk X.K C fa) (F:FnOk X.prog X.w X.K X.mg X.base (CXI X.prog X.w) k fa fd ps (spI ce X.K ps f)) (hC:ce c=some C) (hr:Room (k+1) X.A) (hg:Gl X x) (hm:X.mg x=some (.ref C)) (hb:Jfb X.K fd ps ds) (hd:∃vs,Vals vs ds/\∀ι H,RVs X.K ι H dvs vs)
  (ha:PAi ce X (e::es) ma) (hlen:∀σ h xs h',ma σ h=.ok xs h'->xs.length+ds.length+1=ps.length) (hdb:(x==("__debug__":Str))=false:=by decide) (he:starEach (e::es) X.env=(false,eval e X.env)::starEach es X.env:=by rfl) (hpl:(backTo pos (starEach es X.env)).any (·.1)=false:=by rfl) :
  PEi ce X (.Call (.Name x p) (e::es) [] pos) (Jk6 c f dvs ma):=by
 intro pins s σ H ι σi h Q E N K
 refine wpAny_Call_Name_kw (Jfj N.inv hg hm ?_ hdb)
 refine W.callWith_K (h₀:=X.base) N.inv.ok.mod.kin M.kp ?_ he hpl
 have K':=K
 unfold Jk6 at K'
 refine ha pos pins s σ H ι σi h _ E N ?_
 cases e0:ma σi h with
 | exc n h'=>rw[e0] at K';exact K'
 | stuck=>rw[e0] at K';exact K'
 | ok xs h' =>
  rw[e0] at K'
  intro us s1 H1 ι1 N1 n1 r1
  have hl:xs.length=us.length:=by
   obtain⟨vs,rv,q⟩:=r1
   rw[<- rv.length,q.length]
  exact⟨N1.inv.kIn,Jnm (us:=us) M F hC hr hb hd (by have:=hlen σi h xs h' e0;omega) N1 r1 (Kont.mono (r:=(f (IV.ref h'.length::(xs++dvs)) (h'++[.ins c []])).bind λ r h2=>match r with|IV.non=>Res.ok (IV.ref h'.length) h2|_=>Res.stuck) K' n1)⟩
theorem J0r {c:Str}(M:Mk X.K C fa) (F:FnOk X.prog X.w X.K X.mg X.base (CXI X.prog X.w) k fa fd ps (spI ce X.K ps f)) (hC:ce c=some C) (hr:Room (k+1) X.A) (hg:Gl X x) (hm:X.mg x=some (.ref C)) (hb:Jfb X.K fd ps ds) (hd:∃vs,Vals vs ds/\∀ι H,RVs X.K ι H dvs vs)
  (hlen:ds.length+1=ps.length) (hdb:(x==("__debug__":Str))=false:=by decide):PEi ce X (.Call (.Name x p) [] [] pos) (Jk6 c f dvs aNil):=by
 intro pins s σ H ι σi h Q E N K
 refine wpAny_Call_Name_kw (Jfj N.inv hg hm ?_ hdb)
 exact W.callWith_K0 N.inv.kIn M.kp (Jnm (xs:=[]) M F hC hr hb hd (by simpa using hlen) N .nil K)
noncomputable def Jso (ce:Str->Option Addr) (X:Cx) (m:Str) (n:Nat) (disp:Str->Option ((List IV->IH->Res IV)×List IV)):Prop :=
 ∀c f dvs,disp c=some (f,dvs)->∃(C fa:Addr) (fd:FuncData) (k:Nat) (ps:List Str) (ds:List Value),ce c=some C/\Cls X.K C/\Meth X.K C m fa/\FnOk X.prog X.w X.K X.mg X.base (CXI X.prog X.w) k fa fd ps (spI ce X.K ps f)/\Room k X.A/\Jfb X.K fd ps ds/\(∃vs,Vals vs ds/\∀ι H,RVs X.K ι H dvs vs)/\n+ds.length+1=ps.length
theorem J3n {n:Nat}{disp:Str->Option ((List IV->IH->Res IV)×List IV)}{pl:Sem Bool}(ho:PEi ce X o mo) (hd:Jso ce X m n disp) (ha:PAi ce X (e::es) ma) (hlen:∀σ h xs h',ma σ h=.ok xs h'->xs.length=n)
  (hst:starEach (e::es) X.env=(false,eval e X.env)::starEach es X.env:=by rfl) (hpl:(backTo pos (starEach es X.env)).any (·.1)=false:=by rfl)
  (ht:eval (.Call (.Attribute o m apos) (e::es) [] pos) X.env=(do
   let ov<-eval o X.env
   standAt apos.atName
   let (f,first)<-holding [ov] (getMethod ov m pl)
   callWith pos f first (backTo pos (starEach (e::es) X.env)) (backToKw pos (keywordEach [] X.env))):=by rfl) :
  PEi ce X (.Call (.Attribute o m apos) (e::es) [] pos) (Jws m disp mo ma):=by
 intro pins s σ H ι σi h Q E N K
 refine W.methodCall_KW (pl:=pl) (ho.run N K λ v h1 u s1 H1 ι1 N1 n1 r1 K1=>?_) ht
 cases v with
 | ref i =>
  obtain⟨w,rw',a,e1,hi⟩:=r1
  subst e1
  cases rw'
  dsimp only at K1
  cases hh:h1[i]? with
  | none=>rw[hh] at K1;exact Zf K1
  | some ob =>
   cases ob with
   | ins c fs =>
    rw[hh] at K1
    dsimp only at K1
    cases hd1:disp c with
    | none=>rw[hd1] at K1;exact Zf K1
    | some fd1 =>
     obtain⟨f,dvs⟩:=fd1
     cases hl:fs.lookup m with
     | some z=>rw[hd1,hl] at K1;exact Zf K1
     | none =>
      rw[hd1,hl] at K1
      dsimp only at K1
      obtain⟨C,fa,fd,k,ps,ds,hC,cl,hm,F,hr,hb,hdv,hn⟩:=hd c f dvs hd1
      obtain⟨C',dx,vs,hC',hH,rp⟩:=N1.at hh hi
      rw[hC] at hC'
      cases hC'
      refine Jkl N1.inv hH cl hm ((RPs.lookup rp).2 hl) ?_
      refine W.callWith_K (first:=[.ref a]) (h₀:=X.base) N1.inv.ok.mod.kin hm.kp ?_ hst hpl
      refine ha pos pins s1 σ H1 ι1 σi h1 _ E N1 ?_
      cases e0:ma σi h1 with
      | exc n h'=>rw[e0] at K1;exact K1
      | stuck=>rw[e0] at K1;exact K1
      | ok xs h' =>
       rw[e0] at K1
       intro us s2 H2 ι2 N2 n2 r2
       have hl:xs.length=us.length:=by
        obtain⟨vs,rv,q⟩:=r2
        rw[<- rv.length,q.length]
       have hl2:=hlen σi h1 xs h' e0
       refine⟨N2.inv.kIn,Jlk (us:=.ref a::us) (xs:=.ref i::xs) F hr hb hdv (by rw[List.length_cons];omega) N2 (.cons ⟨.ref a,rfl,a,rfl,n2.at hi⟩ r2) ?_⟩
       exact Kont.mono (r:=(f (.ref i::(xs++dvs)) h')) K1 n2
   | _=>rw[hh] at K1;exact Zf K1
 | _=>exact Zf K1
theorem J0s {disp:Str->Option ((List IV->IH->Res IV)×List IV)}{pl:Sem Bool}(ho:PEi ce X o mo) (hd:Jso ce X m 0 disp)
  (ht:eval (.Call (.Attribute o m apos) [] [] pos) X.env=(do
   let ov<-eval o X.env
   standAt apos.atName
   let (f,first)<-holding [ov] (getMethod ov m pl)
   callWith pos f first (backTo pos (starEach [] X.env)) (backToKw pos (keywordEach [] X.env))):=by rfl) :
  PEi ce X (.Call (.Attribute o m apos) [] [] pos) (Jws m disp mo aNil):=by
 intro pins s σ H ι σi h Q E N K
 refine W.methodCall_KW (pl:=pl) (ho.run N K λ v h1 u s1 H1 ι1 N1 n1 r1 K1=>?_) ht
 cases v with
 | ref i =>
  obtain⟨w,rw',a,e1,hi⟩:=r1
  subst e1
  cases rw'
  dsimp only at K1
  cases hh:h1[i]? with
  | none=>rw[hh] at K1;exact Zf K1
  | some ob =>
   cases ob with
   | ins c fs =>
    rw[hh] at K1
    dsimp only at K1
    cases hd1:disp c with
    | none=>rw[hd1] at K1;exact Zf K1
    | some fd1 =>
     obtain⟨f,dvs⟩:=fd1
     cases hl:fs.lookup m with
     | some z=>rw[hd1,hl] at K1;exact Zf K1
     | none =>
      rw[hd1,hl] at K1
      dsimp only at K1
      obtain⟨C,fa,fd,k,ps,ds,hC,cl,hm,F,hr,hb,hdv,hn⟩:=hd c f dvs hd1
      obtain⟨C',dx,vs,hC',hH,rp⟩:=N1.at hh hi
      rw[hC] at hC'
      cases hC'
      refine Jkl N1.inv hH cl hm ((RPs.lookup rp).2 hl) ?_
      exact W.callWith_K0 (first:=[.ref a]) N1.inv.kIn hm.kp (Jlk (us:=[.ref a]) (xs:=[.ref i]) F hr hb hdv (by rw[List.length_cons,List.length_nil];omega) N1 (.cons ⟨.ref a,rfl,a,rfl,hi⟩ .nil) K1)
   | _=>rw[hh] at K1;exact Zf K1
 | _=>exact Zf K1
noncomputable def eFld (f:Str) (o:E1):E1:=λ σ h=>(o σ h).bind λ v h1=>match v with
 | .ref i=>(match h1[i]? with
  | some (.ins _ fs)=>(match fs.lookup f with
   | some x=>.ok x h1
   | none=>.stuck)
  | _=>.stuck)
 | _=>.stuck
noncomputable def Jwg (ce:Str->Option Addr) (K:W.Frag) (f:Str):Prop:=∀c C,ce c=some C->Cls K C/\Jfp K C f
theorem i_fld {fl:Str}(ho:PEi ce X o mo) (hf:Jwg ce X.K fl) (hb:attributeBase o fl X.env (eval o X.env)=eval o X.env:=by rfl):PEi ce X (.Attribute o fl pos) (eFld fl mo):=by
 intro pins s σ H ι σi h Q E N K
 refine Jz4 hb (ho.run N K λ v h1 u s1 H1 ι1 N1 n1 r1 K1=>?_)
 cases v with
 | ref i =>
  obtain⟨w,rw',a,e1,hi⟩:=r1
  subst e1
  cases rw'
  dsimp only at K1
  cases hh:h1[i]? with
  | none=>rw[hh] at K1;exact Zf K1
  | some ob =>
   cases ob with
   | ins c fs =>
    rw[hh] at K1
    dsimp only at K1
    cases hl:fs.lookup fl with
    | none=>rw[hl] at K1;exact Zf K1
    | some z =>
     rw[hl] at K1
     obtain⟨C,dx,vs,hC,hH,rp⟩:=N1.at hh hi
     obtain⟨cl,na⟩:=hf c C hC
     obtain⟨y,hy,q⟩:=(RPs.lookup rp).1 z hl
     exact Jq8 N1.inv hH cl na hy λ u' s2 I2 ru=>K1 u' s2 H1 ι1 ⟨I2,N1.rel,N1.st⟩ .refl ⟨y,ru,q⟩
   | _=>rw[hh] at K1;exact Zf K1
 | _=>exact Zf K1
noncomputable def putI (f:Str) (v:IV):List (Str×IV)->List (Str×IV)
 | []=>[(f,v)]
 | (g,x)::r=>if g=f then(g,v)::r else(g,x)::putI f v r
theorem RPs.put {K:W.Frag}{ι:List Addr}{H:Hp}{fl:Str}{v:IV}{y:V}(q:RV K ι H v y):∀{fs:List (Str×IV)}{vs:List (Str×V)},RPs K ι H fs vs->RPs K ι H (putI fl v fs) (putF fl y vs)
 | [],_,h=>by
  have e:_=[]:=h
  subst e
  exact⟨y,[],rfl,q,rfl⟩
 | (g,x)::r,_,h=>by
  obtain⟨w,vr,e,qx,t⟩:=h
  subst e
  show RPs K ι H (if g=fl then(g,v)::r else(g,x)::putI fl v r) (if g=fl then(g,y)::vr else(g,w)::putF fl y vr)
  by_cases hg:g=fl
  ·rw[if_pos hg,if_pos hg]
   exact⟨y,vr,rfl,q,t⟩
  ·rw[if_neg hg,if_neg hg]
   exact⟨w,_,rfl,qx,RPs.put q t⟩
noncomputable def Jjl (f:Str) (o e:E1):S1:=λ σ h=>rS σ (e σ h) λ v h1=>rS σ (o σ h1) λ ov h2=>match ov with
 | .ref i=>(match h2[i]? with
  | some (.ins c fs)=>if fs.length<1000 then .next σ (h2.set i (.ins c (putI f v fs))) else .stuck
  | _=>.stuck)
 | _=>.stuck
theorem s_fld {fl:Str}{value:Expr}{mv:E1}{pos':Pos}(ho:PEi ce X o mo) (hv:PEi ce X value mv) (hf:Jwg ce X.K fl) (hs:swapsWith value (some (.Attribute o fl pos')) pos.line X.env=pure false:=by rfl):PS1 ce X (.Assign [.Attribute o fl pos'] value pos) (Jjl fl mo mv):=by
 intro pins s σ H ι σi h Q E N K
 refine plainObj_wpAny_Assign_Attribute (krun hv N K λ v h1 u s1 H1 ι1 N1 n1 r1 K1=>krun ho N1 K1 λ ov h2 w s2 H2 ι2 N2 n2 r2 K2=>?_) hs
 cases ov with
 | ref i =>
  obtain⟨w,rw',a,e1,hi⟩:=r2
  subst e1
  cases rw'
  dsimp only at K2
  cases hh:h2[i]? with
  | none=>rw[hh] at K2;exact Zf K2
  | some ob =>
   cases ob with
   | ins c fs =>
    rw[hh] at K2
    dsimp only at K2
    split at K2
    ·rename_i hz
     obtain⟨C,dx,vs,hC,hH,rp⟩:=N2.at hh hi
     obtain⟨cl,na⟩:=hf c C hC
     obtain⟨y,ry,q⟩:=r1
     refine Jsd N2.inv hH cl na (by rw[rp.length];exact hz) ry λ s3 I3=>?_
     have n3:Nxt ι2 H2 ι2 (upd H2 a (.ins C dx (putF fl y vs))):=⟨⟨[],by simp⟩,Ext.upd_mut hH (by rw[hH];exact True.intro)⟩
     obtain⟨R3,_⟩:=N2.rel.write (o:=.ins C dx (putF fl y vs)) (io:=.ins c (putI fl v fs)) hi hH (by rw[hH];exact True.intro) ⟨C,dx,_,hC,Jg,RPs.put (RV.mono (n2.trans n3) _ _ q) (RPs.mono n3 _ _ rp)⟩
     exact K2 s3 σ _ ι2 ⟨I3,R3,N2.st.mono n3⟩ n3
    ·exact Zf K2
   | _=>rw[hh] at K2;exact Zf K2
 | _=>exact Zf K2
end
section
variable {ce:Str->Option Addr}{X:Cx}{a b c:Expr}{ma mb mc:E1}{pos:Pos}
noncomputable def opIx:IV->IV->IH->Res IV
 | .ref i,.int k,h=>match h[i]? with
  | some (.lst xs)=>(match atI xs k with
   | some v=>.ok v h
   | none=>.stuck)
  | _=>.stuck
 | .rol xs,.int k,h=>match atI xs k with
  | some v=>.ok v h
  | none=>.stuck
 | .tup xs,.int k,h=>match atI xs k with
  | some v=>.ok v h
  | none=>.stuck
 | .str x,.int k,h=>if x.length<=sizeLine then(match atI x.cps.toList k with
  | some c=>.ok (.str ⟨#[c]⟩) h
  | none=>.stuck) else .stuck
 | _,_,_=>.stuck
theorem Joi {K:W.Frag}{ι:List Addr}{H:Hp}{xs:List IV}{vs:List V}{k:Int}{v:IV}(r:RVs K ι H xs vs) (e:atI xs k=some v):∃u,atI vs k=some u/\RV K ι H v u:=by
 unfold atI at e ⊢
 rw[r.length]
 cases q:ixN xs.length k with
 | none=>rw[q] at e;cases e
 | some j =>
  rw[q] at e
  exact r.get e
noncomputable def IxI (ce:Str->Option Addr) (X:Cx) (g:IV->IV->IH->Res IV):Prop :=
 ∀(value slice:Expr) (pins:List (Addr×Obj)) (s:Shared) (σ:L2.St) (H:Hp) (ι:List Addr) (σi:ISt) (h:IH) (x y:IV) (v u:Value) (Q:Value->Shared->Prop) (E:Value->Shared->Prop),Now ce X pins ι σi h σ H s->RU X.K ι H x v->RU X.K ι H y u ->
  Kont ce X RU pins ι σi σ H (g x y h) Q E->subscripted slice false v u=operate [v,u] (getItem v u)->wpAny (model X.prog X.w) X.A (subscriptTail value slice v u) Q E s
theorem Jqu {pins:List (Addr×Obj)}{s:Shared}{σ:L2.St}{H:Hp}{Q:Value->Shared->Prop}{E:Value->Shared->Prop}{r:R2}{value slice:Expr}{x y:V}{v u:Value}(p:IxR (X.wish E) r) (I:Inv X pins σ H s) (rx:RelV x v) (ry:RelV y u)
  (k:r x y H λ z H'=>∀u s',Inv X pins σ H' s'->RelV z u->Q u s') (hs:subscripted slice false v u=operate [v,u] (getItem v u)):wpAny (model X.prog X.w) X.A (subscriptTail value slice v u) Q E s :=
 wpAny_mono (p value slice pins s σ H x y v u _ (I.wish E) rx ry k hs) (λ u s' ⟨_,_,I',r,q⟩=>q u s' I'.unwish r) λ _ _ z=>z
theorem x_ix:IxI ce X opIx:=by
 intro value slice pins s σ H ι σi h x y v u Q E N rx ry K hs
 obtain⟨xv,rx,qx⟩:=rx
 obtain⟨yv,ry,qy⟩:=ry
 cases y with
 | int k =>
  have e2:yv=.int k:=qy
  subst e2
  cases x with
  | ref i =>
   obtain⟨a,e1,ha⟩:=qx
   subst e1
   dsimp only[opIx] at K
   cases hi:h[i]? with
   | none=>rw[hi] at K;exact Zf K
   | some ob =>
    rw[hi] at K
    cases ob with
    | lst xs =>
     dsimp only at K
     cases hk:atI xs k with
     | none=>rw[hk] at K;exact Zf K
     | some z =>
      rw[hk] at K
      obtain⟨vs,e1,r1⟩:=N.at hi ha
      obtain⟨w,hw,qw⟩:=Joi r1 hk
      exact Jqu (Jua (X:=X.wish E)) N.inv rx ry ⟨a,vs,k,w,rfl,rfl,SqL.of e1,hw,fin0 N K qw⟩ hs
    | _=>exact Zf K
  | rol xs =>
   obtain⟨a,vs,e1,sa,ra⟩:=qx
   subst e1
   dsimp only[opIx] at K
   cases hk:atI xs k with
   | none=>rw[hk] at K;exact Zf K
   | some z =>
    rw[hk] at K
    obtain⟨w,hw,qw⟩:=Joi ra hk
    exact Jqu (Jua (X:=X.wish E)) N.inv rx ry ⟨a,vs,k,w,rfl,rfl,sa.sq,hw,fin0 N K qw⟩ hs
  | tup xs =>
   obtain⟨a,vs,e1,sa,ra⟩:=qx
   subst e1
   dsimp only[opIx] at K
   cases hk:atI xs k with
   | none=>rw[hk] at K;exact Zf K
   | some z =>
    rw[hk] at K
    obtain⟨w,hw,qw⟩:=Joi ra hk
    exact Jqu (J3z (X:=X.wish E)) N.inv rx ry ⟨a,vs,k,w,rfl,rfl,sa,hw,fin0 N K qw⟩ hs
  | str x =>
   have e1:xv=.str x:=qx
   subst e1
   dsimp only[opIx] at K
   split at K
   ·rename_i hz
    cases hk:atI x.cps.toList k with
    | none=>rw[hk] at K;exact Zf K
    | some z =>
     rw[hk] at K
     exact Jqu (J3y (X:=X.wish E)) N.inv rx ry ⟨x,k,z,rfl,rfl,hz,hk,fin0 N K rfl⟩ hs
   ·exact Zf K
  | _=>exact Zf K
 | _=>cases x<;>exact Zf K
theorem i_ix {g:IV->IV->IH->Res IV}(hg:IxI ce X g) (ha:PEi ce X a ma) (hb:PEi ce X b mb) (hs:Jsp b:=by intro _ _;rfl):PEi ce X (.Subscript a b pos) (eBin g ma mb):=λ pins s σ H ι σi h Q E N K =>
 Subscript_ (ha.run N K λ x h1 u s1 H1 ι1 N1 n1 r1 K1=>hb.run N1 K1 λ y h2 w s2 H2 ι2 N2 n2 r2 K2=>hg a b pins s2 σ H2 ι2 σi h2 x y u w Q E N2 (r1.mono n2) r2 K2 (hs _ _))
noncomputable abbrev O1:=ISt->IH->Res (Option Int)
noncomputable def RPart:REL (Option Int) Value:=λ _ _ _ o u=>IsPart u o
noncomputable def PPi (ce:Str->Option Addr) (X:Cx) (e:Option Expr) (m:O1):Prop:=PX ce X RPart (evalPart e X.env) m
noncomputable def Jru:O1:=λ _ h=>.ok none h
noncomputable def Jlf (e:E1):O1:=λ σ h=>(e σ h).bind λ v h1=>match v with
 | .int i=>.ok (some i) h1
 | _=>.stuck
theorem J4m:PPi ce X none Jru:=by
 intro pins s σ H ι σi h Q E N K
 rw[evalPart_none]
 exact wpAny_pure (K _ s H ι N .refl .none)
theorem J4n (ha:PEi ce X a ma):PPi ce X (some a) (Jlf ma):=by
 intro pins s σ H ι σi h Q E N K
 rw[evalPart_some]
 refine ha.run N K λ x h1 u s1 H1 ι1 N1 n1 r1 K1=>?_
 cases x with
 | int i =>
  obtain⟨w,rw',q⟩:=r1
  have e:w=.int i:=q
  subst e
  obtain⟨t,rfl⟩:=rw'
  exact K1 _ s1 H1 ι1 N1 .refl (.int i t)
 | _=>exact Zf K1
noncomputable def cutI {α:Type}(xs:List α) (lo hi:Option Int):List α:=(xs.drop (HT.sIx xs.length 0 lo)).take (HT.sIx xs.length xs.length hi-HT.sIx xs.length 0 lo)
noncomputable def slI:IV->Option Int->Option Int->IH->Res IV
 | .ref i,lo,hi,h=>match h[i]? with
  | some (.lst xs)=>.ok (.ref h.length) (h++[.lst (cutI xs lo hi)])
  | _=>.stuck
 | .rol xs,lo,hi,h=>.ok (.ref h.length) (h++[.lst (cutI xs lo hi)])
 | _,_,_,_=>.stuck
theorem RVs.cut {K:W.Frag}{ι:List Addr}{H:Hp}{xs:List IV}{vs:List V}(r:RVs K ι H xs vs) (lo hi:Option Int):RVs K ι H (cutI xs lo hi) (cutV vs lo hi):=by
 unfold cutI cutV
 rw[r.length]
 exact(r.drop _).take _
noncomputable def eSl (f:IV->Option Int->Option Int->IH->Res IV) (e:E1) (lo hi:O1):E1:=λ σ h=>(e σ h).bind λ x h1=>(lo σ h1).bind λ l h2=>(hi σ h2).bind λ u h3=>f x l u h3
noncomputable def SlI (ce:Str->Option Addr) (X:Cx) (g:IV->Option Int->Option Int->IH->Res IV):Prop :=
 ∀(pins:List (Addr×Obj)) (s:Shared) (σ:L2.St) (H:Hp) (ι:List Addr) (σi:ISt) (h:IH) (x:IV) (v vl vu:Value) (lo hi:Option Int) (sl:Addr) (Q:Value->Shared->Prop) (E:Value->Shared->Prop),Now ce X pins ι σi h σ H s->RU X.K ι H x v->s.heap.IsSliceOf sl vl vu .none->IsPart vl lo->IsPart vu hi ->
  Kont ce X RU pins ι σi σ H (g x lo hi h) Q E->∃T id,typeLookup (.type T) "__getitem__"=pure (some (.builtin id))/\s.TypeIs v T/\wpAny (model X.prog X.w) X.A (getItem v (.ref sl)) Q E s
theorem Jzw {pins:List (Addr×Obj)}{s:Shared}{σ:L2.St}{H:Hp}{Q:Value->Shared->Prop}{E:Value->Shared->Prop}{r:V->Option Int->Option Int->Hp->VK->Prop}{x:V}{v vl vu:Value}{lo hi:Option Int}{sl:Addr}(p:SlR (X.wish E) r) (I:Inv X pins σ H s) (rx:RelV x v)
  (hs:s.heap.IsSliceOf sl vl vu .none) (pl:IsPart vl lo) (pu:IsPart vu hi) (k:r x lo hi H λ z H'=>∀u s',Inv X pins σ H' s'->RelV z u->Q u s') :
  ∃T id,typeLookup (.type T) "__getitem__"=pure (some (.builtin id))/\s.TypeIs v T/\wpAny (model X.prog X.w) X.A (getItem v (.ref sl)) Q E s:=by
 obtain⟨T,id,h1,h2,h3⟩:=p pins s σ H x v vl vu lo hi sl _ (I.wish E) rx hs pl pu k
 exact⟨T,id,h1,h2,wpAny_mono h3 (λ u s' ⟨_,_,I',r,q⟩=>q u s' I'.unwish r) λ _ _ z=>z⟩
theorem J0t {g:IV->Option Int->Option Int->IH->Res IV}{lo hi:Option Expr}{ml mh:O1}{p2:Pos}(hr:SlI ce X g) (he:PEi ce X a ma) (hl:PPi ce X lo ml) (hu:PPi ce X hi mh):PEi ce X (.Subscript a (.Slice lo hi none p2) pos) (eSl g ma ml mh):=by
 intro pins s σ H ι σi h Q E N K
 refine Subscript_ (he.run N K λ x h1 v s1 H1 ι1 N1 n1 r1 K1=>?_)
 refine wpAny_Slice (PX.run hl N1 K1 λ l h2 vl s2 H2 ι2 N2 n2 pl K2=>PX.run hu N2 K2 λ u h3 vu s3 H3 ι3 N3 n3 pu K3=>?_)
 rw[evalPart_none]
 refine wpAny_pure ?_
 have I4:Inv X pins σ H3 { s3 with heap:=s3.heap.push { cls:=.type "slice",data:=.fields #[vl,vu,.none] } }:=N3.inv.kept (t':=s3.toks) λ b ob q=>Heap.get?_push_of_some _ q
 obtain⟨T,id,hT,ht,hg⟩:=hr pins { s3 with heap:=s3.heap.push { cls:=.type "slice",data:=.fields #[vl,vu,.none] } } σ H3 ι3 σi h3 x v vl vu l u s3.heap.objs.size Q E ⟨I4,N3.rel,N3.st⟩ ((r1.mono n2).mono n3) (Heap.IsSliceOf.new ..) pl pu K3
 show wpAny (model X.prog X.w) X.A (subscriptTail a (.Slice lo hi none p2) v (.ref s3.heap.objs.size)) Q E { s3 with heap:=s3.heap.push { cls:=.type "slice",data:=.fields #[vl,vu,.none] } }
 exact tail_any (ops:=[.ref s3.heap.objs.size,v]) ht hT hg (by with_unfolding_all rfl)
noncomputable def eCB (f:List IV->IH->Res IV) (a:A1):E1:=λ σ h=>(a σ h).bind f
variable {es:List Expr}{mr:A1}{x:Str}{p:Pos}{id T:String}{g:List IV->IH->Res IV}
theorem Jjb (hc:Jjy ce X (.builtin id) g) (hg:Gl X x) (hm:X.mg x=none) (hv:bootBuiltins x=some (.builtin id)) (ha:PAi ce X (a::es) mr) (hn:x≠"__name__":=by decide) (hdb:(x==("__debug__":Str))=false:=by decide)
  (he:starEach (a::es) X.env=(false,eval a X.env)::starEach es X.env:=by rfl) (hpl:(backTo pos (starEach es X.env)).any (·.1)=false:=by rfl):PEi ce X (.Call (.Name x p) (a::es) [] pos) (eCB g mr):=λ pins s σ H ι σi h Q E N K =>
 wpAny_Call_Name_kw (Jed N.inv hg hm hv (PyProof.Rows.callWith_builtin1 ((ha pos).run N K λ xs h1 us s1 H1 ι1 N1 n1 r1 K1=>hc pins s1 σ H1 ι1 σi h1 xs us Q E N1 r1 K1) he hpl) hn hdb)
theorem Jt2 (hc:Jjy ce X (.type T) g) (hg:Gl X x) (hm:X.mg x=none) (hv:bootBuiltins x=some (.type T)) (ha:PAi ce X (a::es) mr) (hn:x≠"__name__":=by decide) (hdb:(x==("__debug__":Str))=false:=by decide)
  (he:starEach (a::es) X.env=(false,eval a X.env)::starEach es X.env:=by rfl) (hpl:(backTo pos (starEach es X.env)).any (·.1)=false:=by rfl):PEi ce X (.Call (.Name x p) (a::es) [] pos) (eCB g mr):=λ pins s σ H ι σi h Q E N K =>
 wpAny_Call_Name_kw (Jed N.inv hg hm hv (PyProof.Rows.callWith_type1 ((ha pos).run N K λ xs h1 us s1 H1 ι1 N1 n1 r1 K1=>hc pins s1 σ H1 ι1 σi h1 xs us Q E N1 r1 K1) he hpl) hn hdb)
noncomputable def on1 (f:IV->IH->Res IV):List IV->IH->Res IV
 | [x],h=>f x h
 | _,_=>.stuck
noncomputable def on2 (f:IV->IV->IH->Res IV):List IV->IH->Res IV
 | [x,y],h=>f x y h
 | _,_=>.stuck
theorem RVs.one_of {K:W.Frag}{ι:List Addr}{H:Hp}{x:IV}{vs:List V}(r:RVs K ι H [x] vs):∃v,vs=[v]/\RV K ι H x v:=by
 obtain⟨v,r',e,q,q2⟩:=r
 have e2:r'=[]:=q2
 subst e2
 exact⟨v,e,q⟩
theorem RVs.two_of {K:W.Frag}{ι:List Addr}{H:Hp}{x y:IV}{vs:List V}(r:RVs K ι H [x,y] vs):∃v w,vs=[v,w]/\RV K ι H x v/\RV K ι H y w:=by
 obtain⟨v,r',e,q,r2⟩:=r
 obtain⟨w,e2,q2⟩:=r2.one_of
 subst e2
 exact⟨v,w,e,q,q2⟩
theorem Jq4 {fv:Value}{f:IV->IH->Res IV}(hh:∀(pins:List (Addr×Obj)) (s:Shared) (σ:L2.St) (H:Hp) (ι:List Addr) (σi:ISt) (h:IH) (x:IV) (xv:V) (u:Value) (Q:Value->Shared->Prop) (E:Value->Shared->Prop),Now ce X pins ι σi h σ H s->RelV xv u->RV X.K ι H x xv ->
  Kont ce X RU pins ι σi σ H (f x h) Q E->wpAny (model X.prog X.w) X.A (call fv [u]) Q E s):Jjy ce X fv (on1 f):=by
 intro pins s σ H ι σi h xs us Q E N r K
 obtain⟨vs,rv,q⟩:=r
 match xs,K with
 | [x],K =>
  obtain⟨v,e,qx⟩:=q.one_of
  subst e
  obtain⟨u,rfl,ru⟩:=Jn9 rv
  exact hh pins s σ H ι σi h x v u Q E N ru qx K
 | [],K=>exact Zf K
 | _::_::_,K=>exact Zf K
noncomputable def lenI:IV->IH->Res IV
 | .str x,h=>if x.length<=sizeLine then .ok (.int x.length) h else .stuck
 | .tup xs,h=>.ok (.int xs.length) h
 | .rol xs,h=>.ok (.int xs.length) h
 | .ref i,h=>match h[i]? with
  | some (.lst xs)=>.ok (.int xs.length) h
  | _=>.stuck
 | _,_=>.stuck
theorem c_len:Jjy ce X (.builtin "len") (on1 lenI):=Jq4 λ pins s σ H ι σi h x xv u Q E N ru qx K=>by
 cases x with
 | str y =>
  have e:xv=.str y:=qx
  subst e
  dsimp only[lenI] at K
  split at K
  ·rename_i hz
   exact Jar (Jie (X:=X.wish E)) N.inv (.cons ru .nil) ⟨_,_,rfl,⟨hz,rfl⟩,fin0 N K rfl⟩
  ·exact Zf K
 | tup xs =>
  obtain⟨a,vs,e1,sa,ra⟩:=qx
  subst e1
  exact Jar (Jie (X:=X.wish E)) N.inv (.cons ru .nil) ⟨_,xs.length,rfl,.inr ⟨vs,sa,ra.length.symm⟩,fin0 N K rfl⟩
 | rol xs =>
  obtain⟨a,vs,e1,sa,ra⟩:=qx
  subst e1
  exact Jar (Jie (X:=X.wish E)) N.inv (.cons ru .nil) ⟨_,xs.length,rfl,.inl ⟨vs,sa.sq,ra.length.symm⟩,fin0 N K rfl⟩
 | ref i =>
  obtain⟨a,e1,ha⟩:=qx
  subst e1
  dsimp only[lenI] at K
  cases hi:h[i]? with
  | none=>rw[hi] at K;exact Zf K
  | some ob =>
   rw[hi] at K
   cases ob with
   | lst xs =>
    obtain⟨vs,e1,r1⟩:=N.at hi ha
    exact Jar (Jie (X:=X.wish E)) N.inv (.cons ru .nil) ⟨_,xs.length,rfl,.inl ⟨vs,SqL.of e1,r1.length.symm⟩,fin0 N K rfl⟩
   | _=>exact Zf K
 | _=>exact Zf K
end
noncomputable def ALen (n:Nat) (m:A1):Prop:=∀σ h xs h',m σ h=.ok xs h'->xs.length=n
theorem Jwh:ALen 0 aNil:=λ _ _ xs _ e=>by
 unfold aNil at e
 cases e
 rfl
theorem Jsr {n:Nat}{e:E1}{r:A1}(hr:ALen n r):ALen (n+1) (Ja e r):=λ σ h xs h' q=>by
 unfold Ja at q
 cases e1:e σ h with
 | ok x h1 =>
  rw[e1] at q
  change (r σ h1).bind (λ xs h2=>.ok (x::xs) h2)=_ at q
  cases e2:r σ h1 with
  | ok ys h2 =>
   rw[e2] at q
   cases q
   rw[List.length_cons,hr σ h1 ys _ e2]
  | exc n h2=>rw[e2] at q;cases q
  | stuck=>rw[e2] at q;cases q
 | exc n h1=>rw[e1] at q;cases q
 | stuck=>rw[e1] at q;cases q
theorem hl1 {n:Nat}{ma:A1}{ds:List Value}{ps:List Str}(l:ALen n ma) (hn:n+ds.length+1=ps.length:=by rfl):∀σ h xs h',ma σ h=.ok xs h'->xs.length+ds.length+1=ps.length:=λ σ h xs h' e=>by
 rw[l σ h xs h' e]
 exact hn
noncomputable def Jsg (K:W.Frag) (x:Str) (f:List IV->IH->Res IV):Sp:=λ vs H Q E=>∀ce,spI ce K [x] f vs H Q E
theorem Jwv {P:Program}{w:World}{K:W.Frag}{mg:Str->Option Value}{base:Heap}{k:Nat}{fa:Addr}{fd:FuncData}{x:Str}{f:List IV->IH->Res IV}{ce:Str->Option Addr}(F:FnOk P w K mg base (CXI P w) k fa fd [x] (spI ce K [x] f)) :
  FnOk P w K mg base (CXI P w) k fa fd [x] (Jsg K x f):=F.imp λ _ _ _ _ h=>h ce
theorem Jue {K:W.Frag}{x:Str}{f:List IV->IH->Res IV}{H:Hp}{a:Addr}{ns:List Int}(hO:Only H) (hS:SqL K H a (ns.map V.int)) (hf:∃h',f [.rol (ns.map IV.int)] []=.ok (.bl true) h') :
  Jsg K x f [.ref a] H (λ v _=>v=.bl true) λ _ _ _=>False:=by
 intro ce
 obtain⟨h',hf⟩:=hf
 have sr:SqR K H a (ns.map V.int):=by
  rcases hS with(h|⟨o,h⟩)|h
  ·rcases hO a with z|⟨ob,xs,z⟩
   ·rw[z] at h;cases h
   ·rw[z] at h;cases h
  ·exact .inl ⟨o,h⟩
  ·exact .inr h
 refine⟨rfl,[],[],[.rol (ns.map IV.int)],⟨rfl,List.nodup_nil,λ i o e=>by simp at e⟩,⟨.ref a,[],rfl,⟨a,_,rfl,sr,RVs.ints ns⟩,rfl⟩,?_⟩
 rw[hf]
 intro v H' ι' _ _ q
 exact q
noncomputable def toD (h:IH):Nat->IV->Option PyData
 | 0=>λ v=>match v with
  | .non=>some .none
  | .bl b=>some (.bool b)
  | .int i=>some (.int i)
  | .str x=>some (.str x)
  | _=>none
 | n+1=>λ v=>match v with
  | .non=>some .none
  | .bl b=>some (.bool b)
  | .int i=>some (.int i)
  | .str x=>some (.str x)
  | .tup xs=>(xs.mapM (toD h n)).map .tuple
  | .rol xs=>(xs.mapM (toD h n)).map .list
  | .ref i=>match h[i]? with
   | some (.lst xs)=>(xs.mapM (toD h n)).map .list
   | _=>none
section
variable {ce:Str->Option Addr}{X:Cx}
theorem Jdb {pins:List (Addr×Obj)}{s:Shared}{σ:L2.St}{H:Hp}{ι:List Addr}{σi:ISt}{h:IH}{n:Nat}(N:Now ce X pins ι σi h σ H s)
  (ih:∀(v:IV) (d:PyData) (x:V) (u:Value),toD h n v=some d->RV X.K ι H v x->RelV x u->∃as,Reads s.heap u d as) :
  ∀(xs:List IV) (ds:List PyData) (vs:List V) (us:List Value),xs.mapM (toD h n)=some ds->RVs X.K ι H xs vs->Vals vs us->∃as,ReadsAll s.heap us ds as
 | [],ds,vs,us,e,q,r=>by
  have e1:vs=[]:=q
  subst e1
  cases r
  simp at e
  subst e
  exact⟨_,.nil⟩
 | x::xs,ds,vs,us,e,q,r=>by
  obtain⟨v,vr,e1,q1,q2⟩:=q
  subst e1
  cases r with
  | cons r1 r2 =>
   rw[List.mapM_cons] at e
   cases e2:toD h n x with
   | none=>rw[e2] at e;cases e
   | some d =>
    rw[e2] at e
    cases e3:xs.mapM (toD h n) with
    | none=>rw[e3] at e;cases e
    | some dr =>
     rw[e3] at e
     cases e
     obtain⟨as,h1⟩:=ih x d v _ e2 q1 r1
     obtain⟨bs,h2⟩:=Jdb N ih xs dr vr _ e3 q2 r2
     exact⟨_,.cons h1 h2⟩
theorem Jii {pins:List (Addr×Obj)}{s:Shared}{σ:L2.St}{H:Hp}{ι:List Addr}{σi:ISt}{h:IH}(N:Now ce X pins ι σi h σ H s):∀(n:Nat) (v:IV) (d:PyData) (x:V) (u:Value),toD h n v=some d->RV X.K ι H v x->RelV x u->∃as,Reads s.heap u d as:=by
 have flat:∀(v:IV) (d:PyData) (x:V) (u:Value),toD h 0 v=some d->RV X.K ι H v x->RelV x u->∃as,Reads s.heap u d as:=by
  intro v d x u e q r
  cases v with
  | non=>cases e;have e1:x=.non:=q;subst e1;cases r;exact⟨_,.none⟩
  | bl b=>cases e;have e1:x=.bl b:=q;subst e1;cases r;exact⟨_,.bool b⟩
  | int i=>cases e;have e1:x=.int i:=q;subst e1;obtain⟨t,rfl⟩:=r;exact⟨_,.int i t⟩
  | str z=>cases e;have e1:x=.str z:=q;subst e1;obtain⟨t,rfl⟩:=r;exact⟨_,.str z t⟩
  | _=>cases e
 intro n
 induction n with
 | zero=>exact flat
 | succ n ih =>
  intro v d x u e q r
  cases v with
  | non=>exact flat .non d x u e q r
  | bl b=>exact flat (.bl b) d x u e q r
  | int i=>exact flat (.int i) d x u e q r
  | str z=>exact flat (.str z) d x u e q r
  | tup xs =>
   obtain⟨a,vs,e1,sa,ra⟩:=q
   subst e1
   cases r
   obtain⟨ds,e2,rfl⟩:=Option.map_eq_some_iff.mp (show(xs.mapM (toD h n)).map PyData.tuple=some d from e)
   obtain⟨its,rv,⟨o,ho,hc,m,hd⟩,hz⟩:=N.inv.tuple sa
   obtain⟨as,h1⟩:=Jdb N ih xs ds vs its e2 ra rv
   exact⟨_,.tuple ho hc hd h1⟩
  | rol xs =>
   obtain⟨a,vs,e1,sa,ra⟩:=q
   subst e1
   cases r
   obtain⟨ds,e2,rfl⟩:=Option.map_eq_some_iff.mp (show(xs.mapM (toD h n)).map PyData.list=some d from e)
   obtain⟨its,rv,⟨o,m,ho,hc,_,hd⟩,hz⟩:=N.inv.list sa.sq
   obtain⟨as,h1⟩:=Jdb N ih xs ds vs its e2 ra rv
   exact⟨_,.list ho hc hd h1⟩
  | ref i =>
   obtain⟨a,e1,ha⟩:=q
   subst e1
   cases r
   have e':(match h[i]? with|some (.lst xs)=>(xs.mapM (toD h n)).map PyData.list|_=>none)=some d:=e
   cases hi:h[i]? with
   | none=>rw[hi] at e';cases e'
   | some ob =>
    rw[hi] at e'
    cases ob with
    | lst xs =>
     obtain⟨ds,e2,rfl⟩:=Option.map_eq_some_iff.mp e'
     obtain⟨vs,e1,r1⟩:=N.at hi ha
     obtain⟨its,rv,⟨o,m,ho,hc,_,hd⟩,hz⟩:=N.inv.list (SqL.of e1)
     obtain⟨as,h1⟩:=Jdb N ih xs ds vs its e2 r1 rv
     exact⟨_,.list ho hc hd h1⟩
    | _=>cases e'
theorem Jc7 {n:Nat}{f:IV->Option PyData}(hf:∀v d,f v=some d->d.depth<=n):∀(xs:List IV) (ds:List PyData),xs.mapM f=some ds->PyData.depthAll ds<=n
 | [],ds,e=>by simp at e;subst e;exact Nat.zero_le _
 | x::xs,ds,e=>by
  rw[List.mapM_cons] at e
  cases e2:f x with
  | none=>rw[e2] at e;cases e
  | some d =>
   rw[e2] at e
   cases e3:xs.mapM f with
   | none=>rw[e3] at e;cases e
   | some dr =>
    rw[e3] at e
    cases e
    have h1:=hf x d e2
    have h2:=Jc7 hf xs dr e3
    show max d.depth (PyData.depthAll dr)<=n
    omega
theorem Jn2 {h:IH}:∀(n:Nat) (v:IV) (d:PyData),toD h n v=some d->d.depth<=n:=by
 intro n
 induction n with
 | zero =>
  intro v d e
  cases v<;>cases e<;>exact Nat.le_refl _
 | succ n ih =>
  intro v d e
  cases v with
  | non=>cases e;exact Nat.zero_le _
  | bl b=>cases e;exact Nat.zero_le _
  | int i=>cases e;exact Nat.zero_le _
  | str z=>cases e;exact Nat.zero_le _
  | tup xs =>
   obtain⟨ds,e2,rfl⟩:=Option.map_eq_some_iff.mp (show(xs.mapM (toD h n)).map PyData.tuple=some d from e)
   exact Nat.succ_le_succ (Jc7 ih xs ds e2)
  | rol xs =>
   obtain⟨ds,e2,rfl⟩:=Option.map_eq_some_iff.mp (show(xs.mapM (toD h n)).map PyData.list=some d from e)
   exact Nat.succ_le_succ (Jc7 ih xs ds e2)
  | ref i =>
   have e':(match h[i]? with|some (.lst xs)=>(xs.mapM (toD h n)).map PyData.list|_=>none)=some d:=e
   cases hi:h[i]? with
   | none=>rw[hi] at e';cases e'
   | some ob =>
    rw[hi] at e'
    cases ob with
    | lst xs =>
     obtain⟨ds,e2,rfl⟩:=Option.map_eq_some_iff.mp e'
     exact Nat.succ_le_succ (Jc7 ih xs ds e2)
    | _=>cases e'
noncomputable def Jjo:IV->IV->Option Bool
 | .non,.non=>some true
 | .int i,.int j=>some (decide (i=j))
 | .str i,.str j=>some (decide (i=j))
 | .bl i,.bl j=>some (decide (i=j))
 | _,_=>none
noncomputable def Ji6 (x y:IV) (h:IH):Option Bool:=match toD h 6 x,toD h 6 y with
 | some a,some b=>if a.canLay0=true/\b.canLay0=true then some (PyData.eqv a b) else none
 | _,_=>none
noncomputable def cEq (x y:IV) (h:IH):Res IV:=match Jjo x y with
 | some b=>.ok (.bl b) h
 | none=>match Ji6 x y h with
  | some b=>.ok (.bl b) h
  | none=>.stuck
noncomputable def cNe (x y:IV) (h:IH):Res IV:=match Jjo x y with
 | some b=>.ok (.bl (!b)) h
 | none=>match Ji6 x y h with
  | some b=>.ok (.bl (!b)) h
  | none=>.stuck
theorem Jp8 {x y:IV}{h:IH}{b:Bool}(e:Ji6 x y h=some b):∃da db,toD h 6 x=some da/\toD h 6 y=some db/\da.canLay0=true/\db.canLay0=true/\b=PyData.eqv da db:=by
 unfold Ji6 at e
 cases e1:toD h 6 x with
 | none=>rw[e1] at e;cases e
 | some da =>
  cases e2:toD h 6 y with
  | none=>rw[e1,e2] at e;cases e
  | some db =>
   rw[e1,e2] at e
   dsimp only at e
   split at e
   ·rename_i hz
    cases e
    exact⟨da,db,rfl,rfl,hz.1,hz.2,rfl⟩
   ·cases e
theorem Jny {K:W.Frag}{ι:List Addr}{H:Hp}{x y:IV}{b:Bool}{xv yv:V}(e:Jjo x y=some b) (qx:RV K ι H x xv) (qy:RV K ι H y yv):scal xv yv=true/\decide (xv=yv)=b:=by
 cases x with
 | non =>
  cases y with
  | non=>cases e;cases (show xv=.non from qx);cases (show yv=.non from qy);exact⟨rfl,rfl⟩
  | _=>cases e
 | int i =>
  cases y with
  | int j=>cases e;cases (show xv=.int i from qx);cases (show yv=.int j from qy);exact⟨rfl,by simp⟩
  | _=>cases e
 | str i =>
  cases y with
  | str j=>cases e;cases (show xv=.str i from qx);cases (show yv=.str j from qy);exact⟨rfl,by simp⟩
  | _=>cases e
 | bl i =>
  cases y with
  | bl j=>cases e;cases (show xv=.bl i from qx);cases (show yv=.bl j from qy);exact⟨rfl,by simp⟩
  | _=>cases e
 | _=>cases y<;>cases e
theorem o_eq (hu:X.A.units+64<cLine):OpI ce X (compareOp .Eq) cEq:=by
 intro pins s σ H ι σi h x y v u Q E N rx ry K
 obtain⟨xv,rx,qx⟩:=rx
 obtain⟨yv,ry,qy⟩:=ry
 unfold cEq at K
 cases es:Jjo x y with
 | some b =>
  rw[es] at K
  obtain⟨h1,h2⟩:=Jny es qx qy
  exact Jax (op_eq (X:=X.wish E)) N.inv rx ry ⟨h1,by rw[h2];exact fin0 N K rfl⟩
 | none =>
  rw[es] at K
  dsimp only at K
  cases ed:Ji6 x y h with
  | none=>rw[ed] at K;exact Zf K
  | some b =>
   rw[ed] at K
   obtain⟨da,db,e1,e2,c1,c2,rfl⟩:=Jp8 ed
   obtain⟨as,r1⟩:=Jii N 6 x da xv v e1 qx rx
   obtain⟨bs,r2⟩:=Jii N 6 y db yv u e2 qy ry
   have d1:=Jn2 6 x da e1
   exact PySem.SeqAt.compareEq_reads r1 r2 c1 c2 (by omega) (fin0 N K rfl _ s N.inv rfl)
theorem o_ne (hu:X.A.units+64<cLine):OpI ce X (compareOp .NotEq) cNe:=by
 intro pins s σ H ι σi h x y v u Q E N rx ry K
 obtain⟨xv,rx,qx⟩:=rx
 obtain⟨yv,ry,qy⟩:=ry
 unfold cNe at K
 cases es:Jjo x y with
 | some b =>
  rw[es] at K
  obtain⟨h1,h2⟩:=Jny es qx qy
  exact Jax (op_ne (X:=X.wish E)) N.inv rx ry ⟨h1,by rw[h2];exact fin0 N K rfl⟩
 | none =>
  rw[es] at K
  dsimp only at K
  cases ed:Ji6 x y h with
  | none=>rw[ed] at K;exact Zf K
  | some b =>
   rw[ed] at K
   obtain⟨da,db,e1,e2,c1,c2,rfl⟩:=Jp8 ed
   obtain⟨as,r1⟩:=Jii N 6 x da xv v e1 qx rx
   obtain⟨bs,r2⟩:=Jii N 6 y db yv u e2 qy ry
   have d1:=Jn2 6 x da e1
   exact PySem.SeqAt.compareNe_reads r1 r2 c1 c2 (by omega) (fin0 N K rfl _ s N.inv rfl)
noncomputable def inI (x c:IV) (h:IH):Option Bool:=match toD h 6 c,toD h 6 x with
 | some (.list ds),some d=>if PyData.canLayAll0 ds=true/\d.canLay0=true then some (ds.any λ y=>PyData.eqv y d) else none
 | some (.tuple ds),some d=>if PyData.canLayAll0 ds=true/\d.canLay0=true then some (ds.any λ y=>PyData.eqv y d) else none
 | _,_=>none
noncomputable def cIn (x c:IV) (h:IH):Res IV:=match inI x c h with
 | some b=>.ok (.bl b) h
 | none=>.stuck
noncomputable def cNotIn (x c:IV) (h:IH):Res IV:=match inI x c h with
 | some b=>.ok (.bl (!b)) h
 | none=>.stuck
noncomputable def isI:IV->IV->Option Bool
 | .non,.non=>some true
 | .bl a,.bl b=>some (a==b)
 | .bl _,.non=>some false
 | .int _,.non=>some false
 | .str _,.non=>some false
 | .tup _,.non=>some false
 | .rol _,.non=>some false
 | .ref _,.non=>some false
 | .non,.bl _=>some false
 | .int _,.bl _=>some false
 | .str _,.bl _=>some false
 | .tup _,.bl _=>some false
 | .rol _,.bl _=>some false
 | .ref _,.bl _=>some false
 | _,_=>none
noncomputable def cIs (x y:IV) (h:IH):Res IV:=match isI x y with
 | some b=>.ok (.bl b) h
 | none=>.stuck
noncomputable def Js7 (x y:IV) (h:IH):Res IV:=match isI x y with
 | some b=>.ok (.bl (!b)) h
 | none=>.stuck
theorem Jy7 {K:W.Frag}{ι:List Addr}{H:Hp}{x y:IV}{b:Bool}{v u:Value}(e:isI x y=some b) (rx:RU K ι H x v) (ry:RU K ι H y u):plainIs v u=true/\(v==u)=b:=by
 obtain⟨xv,rx,qx⟩:=rx
 obtain⟨yv,ry,qy⟩:=ry
 cases y with
 | non =>
  cases (show yv=.non from qy)
  cases ry
  cases x with
  | non=>cases e;cases (show xv=.non from qx);cases rx;exact⟨rfl,rfl⟩
  | bl c=>cases e;cases (show xv=.bl c from qx);cases rx;exact⟨rfl,rfl⟩
  | int c=>cases e;cases (show xv=.int c from qx);obtain⟨t,rfl⟩:=rx;exact⟨rfl,rfl⟩
  | str c=>cases e;cases (show xv=.str c from qx);obtain⟨t,rfl⟩:=rx;exact⟨rfl,rfl⟩
  | tup c=>cases e;obtain⟨a,vs,rfl,_⟩:=qx;cases rx;exact⟨rfl,rfl⟩
  | rol c=>cases e;obtain⟨a,vs,rfl,_⟩:=qx;cases rx;exact⟨rfl,rfl⟩
  | ref c=>cases e;obtain⟨a,rfl,_⟩:=qx;cases rx;exact⟨rfl,rfl⟩
 | bl d =>
  cases (show yv=.bl d from qy)
  cases ry
  cases x with
  | non=>cases e;cases (show xv=.non from qx);cases rx;exact⟨rfl,rfl⟩
  | bl c=>cases e;cases (show xv=.bl c from qx);cases rx;cases c<;>cases d<;>exact⟨rfl,rfl⟩
  | int c=>cases e;cases (show xv=.int c from qx);obtain⟨t,rfl⟩:=rx;exact⟨rfl,rfl⟩
  | str c=>cases e;cases (show xv=.str c from qx);obtain⟨t,rfl⟩:=rx;exact⟨rfl,rfl⟩
  | tup c=>cases e;obtain⟨a,vs,rfl,_⟩:=qx;cases rx;exact⟨rfl,rfl⟩
  | rol c=>cases e;obtain⟨a,vs,rfl,_⟩:=qx;cases rx;exact⟨rfl,rfl⟩
  | ref c=>cases e;obtain⟨a,rfl,_⟩:=qx;cases rx;exact⟨rfl,rfl⟩
 | _=>cases x<;>cases e
theorem o_is:OpI ce X (compareOp .Is) cIs:=by
 intro pins s σ H ι σi h x y v u Q E N rx ry K
 unfold cIs at K
 cases ei:isI x y with
 | none=>rw[ei] at K;exact Zf K
 | some b =>
  rw[ei] at K
  obtain⟨h1,h2⟩:=Jy7 ei rx ry
  exact wpAny_is_plain h1 (by rw[h2];exact fin0 N K rfl _ s N.inv rfl)
theorem J1a:OpI ce X (compareOp .IsNot) Js7:=by
 intro pins s σ H ι σi h x y v u Q E N rx ry K
 unfold Js7 at K
 cases ei:isI x y with
 | none=>rw[ei] at K;exact Zf K
 | some b =>
  rw[ei] at K
  obtain⟨h1,h2⟩:=Jy7 ei rx ry
  exact wpAny_isNot_plain h1 (by rw[h2];exact fin0 N K rfl _ s N.inv rfl)
inductive Ty where
 | non|bl|int|str|lst|tup|dct|ins (c:Str)|exc (c:Str)
noncomputable def tyI:IV->IH->Option Ty
 | .non,_=>some .non
 | .bl _,_=>some .bl
 | .int _,_=>some .int
 | .str _,_=>some .str
 | .tup _,_=>some .tup
 | .rol _,_=>some .lst
 | .ref i,h=>match h[i]? with
  | some (.lst _)=>some .lst
  | some (.dct _)=>some .dct
  | some (.ins c _)=>some (.ins c)
  | some (.exc c _)=>some (.exc c)
  | some (.hld c _)=>some (.exc c)
  | _=>none
structure ClsI (K:W.Frag) (C:Addr):Prop where
 cl:Cls K C
 ha:W.findIn K (.ref C) "__class__"=some (some (.builtin "object.__class__"))
 hn:W.specialIn K (.builtin "object.__class__") "__get__"=some (some (.builtin "getset_descriptor.__get__"))
 htk:W.takesIn K (.builtin "object.__class__")=some true
 hm:W.mroIn K C (.type "object")=some true
structure IsOk (ce:Str->Option Addr) (K:W.Frag) (c:Value) (ans:Ty->Option Bool):Prop where
 non:∀b,ans .non=some b->W.kitOne K (.type "NoneType") c=some b
 bl:∀b,ans .bl=some b->W.kitOne K (.type "bool") c=some b
 int:∀b,ans .int=some b->W.kitOne K (.type "int") c=some b
 str:∀b,ans .str=some b->W.kitOne K (.type "str") c=some b
 lst:∀b,ans .lst=some b->W.kitOne K (.type "list") c=some b
 tup:∀b,ans .tup=some b->W.kitOne K (.type "tuple") c=some b
 dct:∀b,ans .dct=some b->W.kitOne K (.type "dict") c=some b
 ins:∀k C b,ans (.ins k)=some b->ce k=some C->ClsI K C/\W.kitOne K (.ref C) c=some b
 exc:∀k C b,ans (.exc k)=some b->W.nsIn K mainGlobals k=some (some (.ref C))->ExI K C/\W.kitOne K (.ref C) c=some b
noncomputable def eIsi (ans:Ty->Option Bool) (e:E1):E1:=λ σ h=>(e σ h).bind λ v h1=>match (tyI v h1).bind ans with
 | some b=>.ok (.bl b) h1
 | none=>.stuck
theorem J0u {pins:List (Addr×Obj)}{s:Shared}{σ:L2.St}{H:Hp}{ι:List Addr}{σi:ISt}{h:IH}{x:IV}{u c:Value}{ans:Ty->Option Bool}{b:Bool}{Q:Value->Shared->Prop}{E:Value->Shared->Prop}{A:Around}(N:Now ce X pins ι σi h σ H s) (rx:RU X.K ι H x u) (O:IsOk ce X.K c ans)
  (e:(tyI x h).bind ans=some b) (hq:∀tk,Q (.bool b) { s with toks:=tk }):wpAny (model X.prog X.w) A (call (.builtin "isinstance") [u,c]) Q E s:=by
 obtain⟨xv,rx,qx⟩:=rx
 cases x with
 | non=>cases (show xv=.non from qx);cases rx;exact W.kia_one W.kitx_none N.inv.kIn True.intro (O.non b e) (λ z=>nomatch z) hq
 | bl i=>cases (show xv=.bl i from qx);cases rx;exact W.kia_one W.kitx_bool N.inv.kIn True.intro (O.bl b e) (λ z=>nomatch z) hq
 | int i=>cases (show xv=.int i from qx);obtain⟨t,rfl⟩:=rx;exact W.kia_one W.kitx_int N.inv.kIn True.intro (O.int b e) (λ z=>nomatch z) hq
 | str i=>cases (show xv=.str i from qx);obtain⟨t,rfl⟩:=rx;exact W.kia_one W.kitx_str N.inv.kIn True.intro (O.str b e) (λ z=>nomatch z) hq
 | tup xs =>
  obtain⟨a,vs,rfl,sa,_⟩:=qx
  cases rx
  obtain⟨its,rv,⟨o,ho,hc,m,hd⟩,hz⟩:=N.inv.tuple sa
  exact W.kia_one W.kitx_tuple N.inv.kIn ⟨o,ho,hc⟩ (O.tup b e) (λ z=>nomatch z) hq
 | rol xs =>
  obtain⟨a,vs,rfl,sa,_⟩:=qx
  cases rx
  obtain⟨its,rv,⟨o,m,ho,hc,_,hd⟩,hz⟩:=N.inv.list sa.sq
  exact W.kia_one W.kitx_list N.inv.kIn ⟨o,ho,hc⟩ (O.lst b e) (λ z=>nomatch z) hq
 | ref i =>
  obtain⟨a,rfl,ha⟩:=qx
  cases rx
  cases hi:h[i]? with
  | none=>simp[tyI,hi] at e
  | some ob =>
   cases ob with
   | lst xs =>
    simp only[tyI,hi] at e
    obtain⟨vs,e1,r1⟩:=N.at hi ha
    obtain⟨its,rv,⟨o,m,ho,hc,_,hd⟩,hz⟩:=N.inv.list (SqL.of e1)
    exact W.kia_one W.kitx_list N.inv.kIn ⟨o,ho,hc⟩ (O.lst b e) (λ z=>nomatch z) hq
   | dct kvs =>
    simp only[tyI,hi] at e
    obtain⟨vs,e1,r1⟩:=N.at hi ha
    obtain⟨_,_,ws,_,p⟩:=(show Jbg X.prog X.w H s.heap a (.dK vs) from N.inv.hok a _ e1)
    obtain⟨o,es,ep,h1,h2,_⟩:=p
    exact W.kia_one W.kitx_dict N.inv.kIn ⟨o,h1,h2.1⟩ (O.dct b e) (λ z=>nomatch z) hq
   | ins c fs =>
    simp only[tyI,hi] at e
    obtain⟨C,dx,vs,hC,hH,rp⟩:=N.at hi ha
    obtain⟨I,hk⟩:=O.ins c C b e hC
    obtain⟨mA,Ob,_⟩:=Jk9 N.inv.hok hH
    obtain⟨od,J,_⟩:=Ob.look
    exact W.kia_one (W.kitx_own (I.cl.get _) I.cl.hd I.ha I.hn I.htk I.hm) N.inv.kIn J hk (λ z=>nomatch z) hq
   | exc c fs =>
    simp only[tyI,hi] at e
    obtain⟨C,tv,d,_,hC,hH,_⟩:=N.at hi ha
    obtain⟨I,hk⟩:=O.exc c C b e hC
    obtain⟨oe,vs,e1,e2,_⟩:=ExF.get N.inv.hok hH
    exact W.kia_one (Jqd I) N.inv.kIn ⟨oe,e1,e2⟩ hk (λ z=>nomatch z) hq
   | hld c fs =>
    simp only[tyI,hi] at e
    obtain⟨C,oe,u,vs,_,hC,hH,e2,_⟩:=N.at hi ha
    obtain⟨I,hk⟩:=O.exc c C b e hC
    exact W.kia_one (Jqd I) N.inv.kIn ⟨oe,(N.inv.hok a _ hH).1,e2⟩ hk (λ z=>nomatch z) hq
   | tab q=>simp[tyI,hi] at e
variable {a cx:Expr}{ma:E1}{pos p:Pos}
noncomputable def ClsE (X:Cx) (cx:Expr) (c:Value):Prop:=∀(pins:List (Addr×Obj)) (σ:L2.St) (H:Hp) (s:Shared) (Q:Value->Shared->Prop) (E:Value->Shared->Prop),Inv X pins σ H s->Q c s->wpAny (model X.prog X.w) X.A (eval cx X.env) Q E s
theorem Jfi {x:Str}{c:Value}(hg:Gl X x) (hm:X.mg x=none) (hv:bootBuiltins x=some c) (hn:x≠"__name__":=by decide) (hdb:(x==("__debug__":Str))=false:=by decide):ClsE X (.Name x p) c:=λ _ _ _ _ _ _ I q=>Jed I hg hm hv q hn hdb
theorem Jop {x:Str}{c:Value}(hg:Gl X x) (hm:X.mg x=some c) (hdb:(x==("__debug__":Str))=false:=by decide):ClsE X (.Name x p) c:=λ _ _ _ _ _ _ I q=>Jfj I hg hm q hdb
theorem J3j {ans:Ty->Option Bool}{c:Value}(hc:ClsE X cx c) (O:IsOk ce X.K c ans) (ha:PEi ce X a ma) (hg:Gl X "isinstance") (hm:X.mg "isinstance"=none) (hv:bootBuiltins "isinstance"=some (.builtin "isinstance"):=by rfl)
  (he:starEach [a,cx] X.env=(false,eval a X.env)::starEach [cx] X.env:=by rfl) (he2:starEach [cx] X.env=(false,eval cx X.env)::starEach [] X.env:=by rfl) (hpl:(backTo pos (starEach [cx] X.env)).any (·.1)=false:=by rfl):PEi ce X (.Call (.Name "isinstance" p) [a,cx] [] pos) (eIsi ans ma):=by
 intro pins s σ H ι σi h Q E N K
 refine wpAny_Call_Name_kw (Jed N.inv hg hm hv ?_ (by decide) (by decide))
 refine PyProof.Rows.callWith_builtin1 ?_ he hpl
 rw[he]
 show wpAny _ _ (spliced ((false,eval a X.env)::backTo pos (starEach [cx] X.env))) _ _ s
 refine Calls.spliced_cons (ha.run N K λ x h1 u s1 H1 ι1 N1 n1 r1 K1=>?_)
 rw[he2]
 show wpAny _ _ (spliced ((false,eval cx X.env)::backTo pos (starEach [] X.env))) _ _ s1
 refine Calls.spliced_cons (hc pins σ H1 s1 _ E N1.inv ?_)
 refine Calls.spliced_nil ?_
 cases e:(tyI x h1).bind ans with
 | none=>rw[e] at K1;exact Zf K1
 | some b =>
  rw[e] at K1
  exact J0u N1 r1 O e λ tk=>K1 _ _ H1 ι1 ⟨N1.inv.tok tk,N1.rel,N1.st⟩ .refl ⟨.bl b,rfl,rfl⟩
noncomputable def Jhi:Ty->Option Bool
 | .int=>some true|.bl=>some true|.ins _=>none|.exc _=>none|_=>some false
noncomputable def Jby:Ty->Option Bool
 | .bl=>some true|.ins _=>none|.exc _=>none|_=>some false
noncomputable def Jhj:Ty->Option Bool
 | .str=>some true|.ins _=>none|.exc _=>none|_=>some false
noncomputable def Jbz:Ty->Option Bool
 | .lst=>some true|.ins _=>none|.exc _=>none|_=>some false
noncomputable def Jhk:Ty->Option Bool
 | .tup=>some true|.ins _=>none|.exc _=>none|_=>some false
theorem Jt9 {K:W.Frag}:IsOk ce K (.type "bool") Jby:=by
 refine⟨?_,?_,?_,?_,?_,?_,?_,(λ k C b e=>by cases e),(λ k C b e=>by cases e)⟩<;>(intro b e;cases e;first|rfl|with_unfolding_all rfl|kernel_rfl)
theorem Jw9 {K:W.Frag}:IsOk ce K (.type "str") Jhj:=by
 refine⟨?_,?_,?_,?_,?_,?_,?_,(λ k C b e=>by cases e),(λ k C b e=>by cases e)⟩<;>(intro b e;cases e;first|rfl|with_unfolding_all rfl|kernel_rfl)
theorem Jm0 {K:W.Frag}:IsOk ce K (.type "list") Jbz:=by
 refine⟨?_,?_,?_,?_,?_,?_,?_,(λ k C b e=>by cases e),(λ k C b e=>by cases e)⟩<;>(intro b e;cases e;first|rfl|with_unfolding_all rfl|kernel_rfl)
theorem Jxa {K:W.Frag}:IsOk ce K (.type "tuple") Jhk:=by
 refine⟨?_,?_,?_,?_,?_,?_,?_,(λ k C b e=>by cases e),(λ k C b e=>by cases e)⟩<;>(intro b e;cases e;first|rfl|with_unfolding_all rfl|kernel_rfl)
theorem Jw8 {K:W.Frag}:IsOk ce K (.type "int") Jhi:=by
 refine⟨?_,?_,?_,?_,?_,?_,?_,(λ k C b e=>by cases e),(λ k C b e=>by cases e)⟩<;>(intro b e;cases e;first|rfl|with_unfolding_all rfl|kernel_rfl)
end
noncomputable def clOf (cells:List (Str×Addr)):List (Str×NameKind)->List (Str×Addr)->List (Str×Addr)
 | [],acc=>acc
 | (n,k)::r,acc=>clOf cells r (if (k==NameKind.free)=true then(match cells.lookup n with|some c=>(n,c)::acc|none=>acc) else acc)
theorem Jj1 {env:Env}(names:List (Str×NameKind)) (acc:List (Str×Addr)) (h:∀x∈names,x.2=.free->∃c,env.cells.lookup x.1=some c) :
  (forIn names acc (λ (x:Str×NameKind) (r:List (Str×Addr))=>if (x.2==NameKind.free)=true then(do let c<-cellOf env x.1;pure (ForInStep.yield ((x.1,c)::r))) else pure (ForInStep.yield r)):Sem (List (Str×Addr)))=pure (clOf env.cells names acc):=by
 induction names generalizing acc with
 | nil=>rfl
 | cons x r ih =>
  obtain⟨n,k⟩:=x
  have ih':=λ a=>ih a λ y hy=>h y (List.mem_cons_of_mem _ hy)
  rw[List.forIn_cons]
  by_cases hk:(k==NameKind.free)=true
  ·have hk':k=.free:=by
    cases k<;>first|rfl|exact absurd hk (by decide)
   obtain⟨c,hc⟩:=h (n,k) List.mem_cons_self hk'
   have e1:cellOf env n=pure c:=by unfold cellOf;rw[hc]
   simp only[hk,if_true,e1,pure_bind]
   rw[ih']
   simp only[clOf,hk,if_true,hc]
  ·simp only[hk,Bool.false_eq_true,if_false,pure_bind]
   rw[ih']
   simp only[clOf,hk,Bool.false_eq_true,if_false]
theorem Jk3 {scope:Scope}{env:Env}(h:∀x∈scope.names,x.2=.free->∃c,env.cells.lookup x.1=some c):closureFor scope env=pure (clOf env.cells scope.names []):=by
 have e:=Jj1 (env:=env) scope.names [] h
 have e2:closureFor scope env=((forIn scope.names [] (λ (x:Str×NameKind) (r:List (Str×Addr))=>if (x.2==NameKind.free)=true then(do let c<-cellOf env x.1;pure (ForInStep.yield ((x.1,c)::r))) else pure (ForInStep.yield r)):Sem (List (Str×Addr)))>>=λ s=>pure s):=rfl
 rw[e2,e]
 rfl
theorem Jp5 {cells:List (Str×Addr)}:∀(names:List (Str×NameKind)) (acc:List (Str×Addr)),(∀x c,acc.lookup x=some c->cells.lookup x=some c)->∀x c,(clOf cells names acc).lookup x=some c->cells.lookup x=some c
 | [],_,h,x,c,e=>h x c e
 | (n,k)::r,acc,h,x,c,e=>by
  refine Jp5 r _ ?_ x c e
  intro y d q
  split at q
  ·cases hc:cells.lookup n with
   | none=>rw[hc] at q;exact h y d q
   | some a =>
    rw[hc] at q
    simp only[List.lookup_cons] at q
    cases hb:y==n with
    | true =>
     rw[hb] at q
     cases q
     rw[beq_iff_eq.mp hb]
     exact hc
    | false =>
     rw[hb] at q
     exact h y d q
  ·exact h y d q
theorem Jmd {cells:List (Str×Addr)}:∀(names:List (Str×NameKind)) (acc:List (Str×Addr)) (x:Str),(acc.lookup x).isSome=true->((clOf cells names acc).lookup x).isSome=true
 | [],_,_,h=>h
 | (n,k)::r,acc,x,h=>by
  refine Jmd r _ x ?_
  split
  ·cases hc:cells.lookup n with
   | none=>exact h
   | some a =>
    simp only[List.lookup_cons]
    cases hb:x==n with
    | true=>rfl
    | false=>exact h
  ·exact h
theorem Jk2 {cells:List (Str×Addr)}:∀(names:List (Str×NameKind)) (acc:List (Str×Addr)) (x:Str) (c:Addr),(x,NameKind.free)∈names->cells.lookup x=some c->((clOf cells names acc).lookup x).isSome=true
 | [],_,_,_,h,_=>by simp at h
 | (n,k)::r,acc,x,c,h,hc=>by
  rcases List.mem_cons.mp h with e|e
  ·obtain⟨rfl,rfl⟩:=Prod.mk.inj e
   refine Jmd r _ _ ?_
   simp[hc]
  ·exact Jk2 r _ x c e hc
theorem Jb3 {env:Env}:∀{names:List (Str×NameKind)}{x:Str}{k:NameKind},
  (names.map λ (n,k)=>if (k==NameKind.free&&env.scope.kind==.function&&env.kindOf n==some .cell) then(n,NameKind.cell) else(n,k)).lookup x=some k ->
  ∃k0,names.lookup x=some k0/\(k,k0)∈([(k0,k0),(.cell,.free)]:List (NameKind×NameKind))
 | [],_,_,h=>by simp at h
 | (n,k1)::r,x,k,h=>by
  have ih:=@Jb3 env r x k
  have h':List.lookup x ((if (k1==NameKind.free&&env.scope.kind==.function&&env.kindOf n==some .cell)=true then(n,NameKind.cell) else(n,k1))::_)=some k:=h
  cases hx:x==n with
  | true =>
   refine⟨k1,by simp[List.lookup_cons,hx],?_⟩
   by_cases hc:(k1==NameKind.free&&env.scope.kind==.function&&env.kindOf n==some .cell)=true
   ·rw[if_pos hc] at h'
    simp only[List.lookup_cons,hx] at h'
    cases h'
    simp only[Bool.and_eq_true,beq_iff_eq] at hc
    rw[hc.1.1]
    simp
   ·rw[if_neg hc] at h'
    simp only[List.lookup_cons,hx] at h'
    cases h'
    simp
  | false =>
   have h2:List.lookup x (r.map λ (n,k)=>if (k==NameKind.free&&env.scope.kind==.function&&env.kindOf n==some .cell) then(n,NameKind.cell) else(n,k))=some k:=by
    by_cases hc:(k1==NameKind.free&&env.scope.kind==.function&&env.kindOf n==some .cell)=true
    ·rw[if_pos hc] at h';simpa only[List.lookup_cons,hx] using h'
    ·rw[if_neg hc] at h';simpa only[List.lookup_cons,hx] using h'
   obtain⟨k0,e,m⟩:=ih h2
   exact⟨k0,by simp only[List.lookup_cons,hx];exact e,m⟩
theorem Jh1 {env:Env}:∀{names:List (Str×NameKind)}{x:Str},names.lookup x=some .free ->
  ∃k,(names.map λ (n,k)=>if (k==NameKind.free&&env.scope.kind==.function&&env.kindOf n==some .cell) then(n,NameKind.cell) else(n,k)).lookup x=some k/\(k=.cell∨k=.free)
 | [],_,h=>by simp at h
 | (n,k1)::r,x,h=>by
  have ih:=@Jh1 env r x
  cases hx:x==n with
  | true =>
   simp only[List.lookup_cons,hx] at h
   cases h
   by_cases hc:(NameKind.free==NameKind.free&&env.scope.kind==.function&&env.kindOf n==some .cell)=true
   ·exact⟨.cell,by rw[List.map_cons];dsimp only;rw[if_pos hc];simp only[List.lookup_cons,hx],.inl rfl⟩
   ·exact⟨.free,by rw[List.map_cons];dsimp only;rw[if_neg hc];simp only[List.lookup_cons,hx],.inr rfl⟩
  | false =>
   simp only[List.lookup_cons,hx] at h
   obtain⟨k,e,q⟩:=ih h
   refine⟨k,?_,q⟩
   rw[List.map_cons]
   dsimp only
   by_cases hc:(k1==NameKind.free&&env.scope.kind==.function&&env.kindOf n==some .cell)=true
   ·rw[if_pos hc];simp only[List.lookup_cons,hx];exact e
   ·rw[if_neg hc];simp only[List.lookup_cons,hx];exact e
noncomputable def cxC (X:Cx) (N':List Str) (scope:Scope) (C:Addr) (s:Shared) (H:Hp) (fp:List Addr):Cx :=
 { X with N:=N',s₀:=s,H₀:=H,env:=compEnvC scope (clOf X.env.cells scope.names []) C X.env,outer:=X.stack,ex:=fp,fn:=λ _=>false,pn:=[] }
noncomputable def Jdd (N0 loc caps:List Str) (js:List Nat) (sc₀ scope:Scope):Bool :=
 decide (scope.kind=.function)&&decide (sc₀.kind=.function)&&scope.names.all (λ x=>!(x.2==.cell))&&scope.names.all (λ x=>!(x.2==.local)||decide (scope.names.lookup x.1=some .local)) &&
 scope.names.all (λ x=>!(x.2==.free)||decide (sc₀.names.lookup x.1=some .cell)||decide (sc₀.names.lookup x.1=some .free)) &&
 scope.names.all (λ x=>!(decide (scope.names.lookup x.1=some .free))||(x.2==.free)) &&
 (js.zip caps).all (λ p=>decide (N0[p.1]?=some p.2)&&decide (scope.names.lookup p.2=some .free))&&decide (js.length=caps.length)&&decide (loc++caps).Nodup &&
 loc.all (λ n=>decide (scope.names.lookup n=some .local))
open Classical in
noncomputable def Jdg (chk:IH->Prop) (g:G1) (t:T1) (e:E1) (i0:Nat):List IV->ISt->IH->Res IV
 | [],_,h=>if chk h then .ok (.ref i0) h else .stuck
 | x::xs,σ,h=>if chk h then(match g x σ h with
   | .next σ1 h1=>(match t σ1 h1 with
    | .ok true h2=>(match e σ1 h2 with
     | .ok v h3=>(match h3[i0]? with
      | some (.lst acc)=>if acc.length<sizeLine then Jdg chk g t e i0 xs σ1 (h3.set i0 (.lst (acc++[v]))) else .stuck
      | _=>.stuck)
     | _=>.stuck)
    | .ok false h2=>Jdg chk g t e i0 xs σ1 h2
    | _=>.stuck)
   | _=>.stuck) else .stuck
noncomputable def stC (nloc:Nat) (js:List Nat) (σ:ISt):ISt:=List.replicate nloc none++js.map λ j=>(σ[j]?).join
noncomputable def Jaa (it:I1) (nloc:Nat) (js:List Nat) (g:G1) (t:T1) (e:E1):E1:=λ σ h=>(it σ h).bind λ J h1=>Jdg J.chk g t e h1.length J.xs (stC nloc js σ) (h1++[.lst []])
theorem Jmf {prog:Program}{w:World}{A:Around}{R:Result->Shared->Prop}{s:Shared}{elt target iter:Expr}{ifs:List Expr}{scope:Scope}{pos:Pos}{it acc:Value}{env:Env}(I:Nat->Shared->Prop)
  (turn:∀n s,I n s->wpAny (model prog w) A (pyNext it) (λ r s₁=>match r with
   | none=>R (.ok .next) s₁
   | some v=>wpAny (model prog w) A (letOwnedTupleGo target it v) (λ _ s₁'=>wpAny (model prog w) A (assign target env v) (λ _ s₂ =>
     wpAny (model prog w) A (forIn ifs true λ c r=>if r=true then do let ok<-isTrue c env (eval c env);pure (ForInStep.yield ok) else pure (ForInStep.yield r)) (λ ok s₃ =>
      if ok=true then wpAny (model prog w) A (eval elt env) (λ x s₄ =>
       wpAny (model prog w) A (call (.builtin "list.append") [acc,x]) (λ _ s₅=>∃m,m<n/\I m s₅) (λ _ _=>False) s₄) (λ _ _=>False) s₃
      else ∃m,m<n/\I m s₃) (λ _ _=>False) s₂) (λ _ _=>False) s₁') (λ _ _=>False) s₁) (λ _ _=>False) s)
  (n:Nat) (h:I n s):codeAny (model prog w) A (.compLoop (.ListComp elt [⟨target,iter,ifs,0⟩] scope pos) 0 it acc env) R s:=by
 refine codeAny_loop rfl I (λ n s hI=>?_) n h
 show wpAny _ A ((compTurn (.ListComp elt [⟨target,iter,ifs,0⟩] scope pos) 0 it acc env).onRaise (λ x=>do noteFrame x env;theTreesLotGoes x)) _ _ s
 refine wpAny_noted (nof ?_)
 rw[compTurn_list]
 refine wpAny_bind (wpAny_standAt (wpAny_bind (wpAny_mono (turn n s hI) (λ r s₁ h₁=>?_) λ _ _ h'=>h')))
 cases r with
 | none=>exact wpAny_pure h₁
 | some v =>
  refine wpAny_bind (wpAny_mono h₁ (λ _ s₁' h₁'=>?_) λ _ _ h'=>h')
  refine wpAny_bind (wpAny_mono h₁' (λ _ s₂ h₂=>wpAny_bind (wpAny_mono h₂ (λ ok s₃ h₃=>?_) λ _ _ h'=>h')) λ _ _ h'=>h')
  cases ok with
  | false=>exact wpAny_pure ⟨rfl,h₃⟩
  | true =>
   exact wpAny_bind (wpAny_bind (wpAny_mono h₃ (λ x s₄ h₄=>wpAny_bind (wpAny_mono h₄ (λ _ s₅ h₅=>wpAny_pure (wpAny_pure ⟨rfl,h₅⟩)) λ _ _ h'=>h')) λ _ _ h'=>h'))
noncomputable def PTsi (ce:Str->Option Addr) (X:Cx) (ifs:List Expr) (m:T1):Prop:=PX ce X RB (forIn ifs true λ c r=>if r=true then do let ok<-isTrue c X.env (eval c X.env);pure (ForInStep.yield ok) else pure (ForInStep.yield r)) m
noncomputable def Jaw:T1:=λ _ h=>.ok true h
theorem Jzp {ce:Str->Option Addr}{X:Cx}:PTsi ce X [] Jaw:=λ _ s _ H ι _ _ _ _ N K=>wpAny_tests_nil (K true s H ι N .refl rfl)
theorem Jzq {ce:Str->Option Addr}{X:Cx}{c:Expr}{m:T1}(hc:PTi ce X c m):PTsi ce X [c] m:=λ pins s σ H ι σi h Q E N K=>wpAny_tests_one (hc pins s σ H ι σi h Q E N K)
noncomputable def Jkw (ce:Str->Option Addr) (X:Cx) (use:Option (Value->Sem Unit)) (pins:List (Addr×Obj)) (ι:List Addr) (σi:ISt) (σ:L2.St) (H:Hp) (r:Res IV) (Q:Value->Shared->Prop) (E:Value->Shared->Prop):Prop :=
 match r with
 | .ok v h'=>∀D C m s' H' ι',Now ce X pins ι' σi h' σ H' s'->Nxt ι H ι' H'->RU X.K ι' H' v (.ref D)->s'.heap.Ns C m->FpOk X pins H' C->compPost (model X.prog X.w) X.A E use Q (.ref D) C (.ok .next) s'
 | .exc n h'=>∀pl a s' H' ι',Now ce X (pins++pl) ι' σi h' σ H' s'->Nxt ι H ι' H'->ι'[n]?=some a->E (.ref a) s'
 | .stuck=>False
theorem Jkw.mono {ce:Str->Option Addr}{X:Cx}{use:Option (Value->Sem Unit)}{pins:List (Addr×Obj)}{ι ι':List Addr}{σi:ISt}{σ:L2.St}{H H':Hp}{r:Res IV}{Q:Value->Shared->Prop}{E:Value->Shared->Prop}(k:Jkw ce X use pins ι σi σ H r Q E) (n:Nxt ι H ι' H'):Jkw ce X use pins ι' σi σ H' r Q E:=by
 cases r with
 | ok v h'=>exact λ D C m s' H2 ι2 N n2 q=>k D C m s' H2 ι2 N (n.trans n2) q
 | exc m h'=>exact λ pl a s' H2 ι2 N n2 q=>k pl a s' H2 ι2 N (n.trans n2) q
 | stuck=>exact k
noncomputable def Warm (A:Around) (H:Hp):Prop:=∃a oe u vs,A.handled=some (.ref a)/\H a=some (.frz oe u)/\oe.data=.fields vs/\vs[2]?=some .none
theorem Warm.mono {A:Around}{H H':Hp}(x:Ext H H') (w:Warm A H):Warm A H':=let ⟨a,oe,u,vs,e1,e2,e3,e4⟩:=w;⟨a,oe,u,vs,e1,x.frzs _ _ _ e2,e3,e4⟩
structure TurnC (P:Program) (w:World) (C:Cx->Hp->Prop) (tg:Expr) (J:It) (fp:List Addr) (it:Addr) (tn:Nat->Heap->Prop):Prop where
 obj:∀i h,tn i h->∀b∈fp,∃o,h.get? b=some o/\∀v,o.data≠.cell v
 keep:∀i h h',tn i h->(∀b∈fp,∀o,h.get? b=some o->h'.get? b=some o)->tn i h'
 item:∀(X:Cx) (i:Nat) (s:Shared) (σ:L2.St) (H:Hp),C X H->Inv X [] σ H s->(∀b∈fp,FpOk X [] H b)->tn i s.heap->J.go i H ->
  wpAny (model P w) X.A (pyNext (.ref it)) (λ r s1=>∃u,r=some u/\wpAny (model P w) X.A (letOwnedTupleGo tg (.ref it) u) (λ _ s2=>∃x H',Inv X [] σ H' s2/\RelV x u/\J.yld i H x H'/\tn (i+1) s2.heap/\∀b∈fp,H' b=none) (λ _ _=>False) s1) (λ _ _=>False) s
 done:∀(X:Cx) (i:Nat) (s:Shared) (σ:L2.St) (H:Hp),C X H->Inv X [] σ H s->(∀b∈fp,FpOk X [] H b)->tn i s.heap->J.stop i H->wpAny (model P w) X.A (pyNext (.ref it)) (λ r s1=>r=none/\Inv X [] σ H s1) (λ _ _=>False) s
 self:∀(A:Around) (i:Nat) (s:Shared) (Q:Value->Shared->Prop) (E:Value->Shared->Prop),tn i s.heap->Q (.ref it) s->wpAny (model P w) A (pyIter (.ref it)) Q E s
noncomputable def CalmC (X0:Cx) (X:Cx) (_:Hp):Prop:=X.prog=X0.prog/\X.w=X0.w/\X.K=X0.K/\X.calm=true
noncomputable def RItC (C:Cx->Hp->Prop) (ce:Str->Option Addr) (X:Cx) (tg:Expr) (pins:List (Addr×Obj)) (ι':List Addr) (I:ItI) (itv:Value) (s2:Shared) (H':Hp):Prop :=
 ∃(it:Addr) (fp:List Addr) (tn:Nat->Heap->Prop) (J:It),itv=.ref it/\TurnC X.prog X.w C tg J fp it tn/\tn 0 s2.heap/\(∀b∈fp,FpOk X pins H' b)/\ItOk ce X.K ι' H' J I
noncomputable def PIc (C:Cx->Hp->Prop) (ce:Str->Option Addr) (X:Cx) (tg iter:Expr) (m:I1):Prop :=
 ∀(pins:List (Addr×Obj)) (s:Shared) (σ:L2.St) (H:Hp) (ι:List Addr) (σi:ISt) (h:IH) (Q:Value->Shared->Prop) (E:Value->Shared->Prop),Now ce X pins ι σi h σ H s ->
  (match m σi h with
   | .ok I h'=>∀itv s' H' ι',Now ce X pins ι' σi h' σ H' s'->Nxt ι H ι' H'->RItC C ce X tg pins ι' I itv s' H'->Q itv s'
   | .exc n h'=>∀pl a s' H' ι',Now ce X (pins++pl) ι' σi h' σ H' s'->Nxt ι H ι' H'->ι'[n]?=some a->E (.ref a) s'
   | .stuck=>False) ->
  wpAny (model X.prog X.w) X.A (eval iter X.env) (λ v s1=>wpAny (model X.prog X.w) X.A (pyIter v) Q E s1) E s
theorem PIi.c {ce:Str->Option Addr}{X:Cx}{tg iter:Expr}{m:I1}(p:PIi ce X tg iter m):PIc (CalmC X) ce X tg iter m:=λ pins s σ H ι σi h Q E N k=>p pins s σ H ι σi h Q E N (by
 cases e:m σi h with
 | exc n h'=>rw[e] at k;exact k
 | stuck=>rw[e] at k;exact k
 | ok I h' =>
  rw[e] at k
  intro itv s' H' ι' N' n' ⟨it,fp,tn,J,e1,T,r⟩
  refine k itv s' H' ι' N' n' ⟨it,fp,tn,J,e1,⟨T.obj,T.keep,λ X' i s σ H c=>?_,λ X' i s σ H c=>?_,T.self⟩,r⟩
  ·exact T.item X' c.1 c.2.1 c.2.2.1 c.2.2.2 i [] s σ H _
  ·exact T.done X' c.1 c.2.1 c.2.2.1 c.2.2.2 i [] s σ H _)
section
variable {ce:Str->Option Addr}{X:Cx}
theorem Jmg {N0 loc caps:List Str}{js:List Nat}{sc₀ scope:Scope}{tg iter elt:Expr}{ifs:List Expr}{mi:I1}{g:G1}{mt:T1}{me:E1}{pos ppos:Pos}{use:Option (Value->Sem Unit)}{Cc:Cx->Hp->Prop}(hi:PIc Cc ce X tg iter mi)
  (hg:∀C s H fp,PGi ce (cxC X (loc++caps) scope C s H fp) tg g) (ht:∀C s H fp,PTsi ce (cxC X (loc++caps) scope C s H fp) ifs mt) (he:∀C s H fp,PEi ce (cxC X (loc++caps) scope C s H fp) elt me)
  (ok:Jdd N0 loc caps js sc₀ scope=true) (hN0:X.N=N0:=by rfl) (hsc:X.env.scope=sc₀:=by rfl) (hs:∀x,foldedSetIterable iter X.env x=pure x:=by intro _;rfl)
  {pins:List (Addr×Obj)}{s:Shared}{σ:L2.St}{H:Hp}{ι:List Addr}{σi:ISt}{h:IH}{Q:Value->Shared->Prop}{E:Value->Shared->Prop}(hcc:∀C s H1 fp H',Ext H H'->Cc (cxC X (loc++caps) scope C s H1 fp) H') (N:Now ce X pins ι σi h σ H s) (K:Jkw ce X use pins ι σi σ H (Jaa mi loc.length js g mt me σi h) Q E) :
  wpAny (model X.prog X.w) X.A (comprehension (.ListComp elt [⟨tg,iter,ifs,0⟩] scope pos) scope X.env ppos (newList []) false (eval iter X.env) use) Q E s:=by
 simp only[Jdd,Bool.and_eq_true,decide_eq_true_eq,List.all_eq_true,Bool.not_eq_true',Bool.or_eq_true,beq_iff_eq,beq_eq_false_iff_ne] at ok
 obtain⟨⟨⟨⟨⟨⟨⟨⟨⟨kF,kF0⟩,kNC⟩,kL⟩,kFr⟩,kFx⟩,kJ⟩,kLen⟩,kNd⟩,kLo⟩:=ok
 have hfree:∀x∈scope.names,x.2=.free->X.env.kindOf x.1=some .cell∨X.env.kindOf x.1=some .free:=λ x hx hk=>by
  have e:X.env.kindOf x.1=sc₀.names.lookup x.1:=by rw[<- hsc];rfl
  rw[e]
  rcases kFr x hx with(z|z)|z
  ·exact absurd hk z
  ·exact .inl z
  ·exact .inr z
 have hclos:closureFor scope X.env=pure (clOf X.env.cells scope.names []):=Jk3 λ x hx hk=>N.inv.ok.has x.1 (hfree x hx hk)
 refine wpAny_comprehension_free (use:=use) (e:=.ListComp elt [⟨tg,iter,ifs,0⟩] scope pos) rfl hs hclos kF (λ x hx hl=>(kL x hx).resolve_left λ z=>z hl) ?_
 refine hi pins s σ H ι σi h _ E N ?_
 unfold Jaa at K
 cases e0:mi σi h with
 | exc n h'=>rw[e0] at K;exact K
 | stuck=>rw[e0] at K;exact K
 | ok Jt h1 =>
  rw[e0] at K
  intro itv s1 H1 ι1 N1 n1 RI
  obtain⟨it,fp,tn,J,e,T,st1,f1,OK⟩:=RI
  subst e
  -- the list
  refine wpAny_newObj_type ?_
  have fresh1:H1 s1.heap.objs.size=none:=N1.inv.hok.fresh (Nat.le_refl _)
  have I2:Inv X pins σ (upd H1 s1.heap.objs.size (.lst [])) { s1 with heap:=s1.heap.push { cls:=.type "list",dict:=none,data:=.seq ([]:List Value).toArray } } :=
   N1.inv.laid (t':=s1.toks) (λ b u e=>Heap.get?_push_of_some _ e) (Nat.le_refl _) ⟨Nat.zero_le _,[],0,.nil,Heap.get?_push_size _ rfl⟩
  obtain⟨R2,n2⟩:=N1.rel.alloc (o:=.lst []) (io:=.lst []) fresh1 ⟨[],Jg,rfl⟩
  generalize hs2:({ s1 with heap:=s1.heap.push { cls:=.type "list",dict:=none,data:=.seq ([]:List Value).toArray } }:Shared)=s2 at I2 ⊢
  generalize hD:s1.heap.objs.size=D at *
  generalize hH2:upd H1 D (.lst [])=H2 at *
  have N2:Now ce X pins (ι1++[D]) σi (h1++[.lst []]) σ H2 s2:=⟨I2,R2,N1.st.mono n2⟩
  have keep12:∀b o,s1.heap.get? b=some o->s2.heap.get? b=some o:=λ b o q=>by rw[<- hs2];exact Heap.get?_push_of_some _ q
  have st2:tn 0 s2.heap:=T.keep 0 _ _ st1 λ b _ o q=>keep12 b o q
  have hat:(ι1++[D])[h1.length]?=some D:=by
   rw[<- N1.rel.len,List.getElem?_append_right (Nat.le_refl _)]
   simp
  have f2:∀b∈fp,FpOk X pins H2 b:=λ b hb=>by
   refine⟨?_,(f1 b hb).2⟩
   obtain⟨o,ho,_⟩:=T.obj 0 _ st1 b hb
   have:b≠D:=Nat.ne_of_lt (by rw[<- hD];exact Heap.lt_size ho)
   rw[<- hH2,Jh this]
   exact(f1 b hb).1
  -- the block's own dict
  refine wpAny_newFunctionEnv (λ x hx=>kNC x hx) (by intro y hy;simp at hy) (λ h3 hns3 hsb3=>?_) kF
  generalize hC:s2.heap.objs.size=C at *
  have keep23:∀b o,s2.heap.get? b=some o->h3.get? b=some o:=λ b o q=>(hsb3.2 b (Nat.ne_of_lt (by rw[<- hC];exact Heap.lt_size q))).trans (Heap.get?_push_of_some _ q)
  have cells':∀x c,(clOf X.env.cells scope.names []).lookup x=some c->X.env.cells.lookup x=some c:=Jp5 _ _ (λ x c q=>by simp at q)
  -- the context of the block
  have okX:(cxC X (loc++caps) scope C s2 H2 fp).Ok:=by
   refine⟨N.inv.ok.mod,kF,N.inv.ok.glob,N.inv.ok.blt,Nat.le_of_eq hC,λ x y c a b=>N.inv.ok.inj x y c (cells' x c a) (cells' y c b),λ x hx=>?_,λ x c z=>?_,N.inv.ok.hd,N.inv.ok.frames,.inl rfl,λ b hb=>?_,λ b o q=>I2.bs b o q,
    Nat.le_trans N.inv.ok.bsz I2.sz,λ b o q hb=>?_,λ b hb z=>?_,I2.stack,I2.stkFree⟩
   ·have hx':(relabel scope X.env).names.lookup x=some .cell∨(relabel scope X.env).names.lookup x=some .free:=hx
    have hfr:scope.names.lookup x=some .free:=by
     rcases hx' with z|z
     ·obtain⟨k0,e,m⟩:=Jb3 z
      simp only[List.mem_cons,Prod.mk.injEq,List.not_mem_nil,or_false] at m
      rcases m with⟨m1,_⟩|⟨_,m2⟩
      ·exact absurd (kNC _ (PySem.mem_of_lookup e)) (by rw[<- m1];intro q;exact q rfl)
      ·rw[m2] at e;exact e
     ·obtain⟨k0,e,m⟩:=Jb3 z
      simp only[List.mem_cons,Prod.mk.injEq,List.not_mem_nil,or_false] at m
      rcases m with⟨m1,_⟩|⟨m1,_⟩
      ·rw[<- m1] at e;exact e
      ·cases m1
    have hm:=PySem.mem_of_lookup hfr
    obtain⟨c,hc'⟩:=N.inv.ok.has x (hfree (x,.free) hm rfl)
    exact Option.isSome_iff_exists.mp (Jk2 _ _ x c hm hc')
   ·exact absurd (show false=true from z) Bool.false_ne_true
   ·have hbD:=f2 b hb
    obtain⟨o,ho,_⟩:=T.obj 0 _ st2 b hb
    exact⟨Nat.ne_of_lt (by show b<C;rw[<- hC];exact Heap.lt_size ho),λ x c q=>hbD.2.2.2.2.1 x c (cells' x c q)⟩
   ·rcases(f2 b hb).2.2.2.1 with z|z
    ·exact N.inv.ok.noex b o q z
    ·exact Nat.lt_irrefl _ (Nat.lt_of_lt_of_le (Heap.lt_size q) (Nat.le_trans N.inv.ok.bsz z))
   ·rcases List.mem_cons.mp (I2.stkSub b z) with e|e
    ·exact(f2 b hb).2.1 e
    ·exact(f2 b hb).2.2.1 e
  -- the block's state
  have lenJ:js.length=caps.length:=kLen
  have stl:(stC loc.length js σi).length=(loc++caps).length:=by simp[stC,lenJ]
  have R3:Rel ce X.K (ι1++[D]) (h1++[.lst []]) H2:=R2
  have I3:Inv (cxC X (loc++caps) scope C s2 H2 fp) [] (List.replicate loc.length none++js.map λ j=>(σ[j]?).join) H2 { s2 with heap:=h3,toks:=s2.toks+([]:List (Str×Value)).length }:=by
   refine⟨okX,rfl,I2.bare,Un.kept keep23,⟨_,hns3,λ i x v a b c=>?_⟩,λ x c q=>?_,I2.hok.fresh (Nat.le_of_eq hC),λ x c q=>I2.freeC x c (cells' x c q),λ p hp=>absurd (show p∈([]:List (Addr×Obj)) from hp) (by simp),I2.hok.kept keep23,by show _=(loc++caps).length;simp[lenJ]⟩
   ·have hi:loc.length<=i:=by
     refine Nat.le_of_not_lt λ hlt=>?_
     rw[List.getElem?_append_left (by simpa using hlt),List.getElem?_replicate] at b
     split at b<;>cases b
    obtain⟨k,rfl⟩:∃k,i=loc.length+k:=⟨i-loc.length,by omega⟩
    have a':(loc++caps)[loc.length+k]?=some x:=a
    rw[List.getElem?_append_right (by omega)] at a'
    rw[List.getElem?_append_right (by simp)] at b
    simp only[Nat.add_sub_cancel_left,List.length_replicate,List.getElem?_map] at a' b
    cases ej:js[k]? with
    | none=>rw[ej] at b;cases b
    | some j =>
     rw[ej] at b
     have b':(σ[j]?).join=some v:=Option.some.inj b
     have hσ:σ[j]?=some (some v):=by
      cases es:σ[j]? with
      | none=>rw[es] at b';cases b'
      | some o=>rw[es] at b';rw[show o=some v from b']
     have hz:=kJ (j,x) (List.mem_iff_getElem?.mpr ⟨k,by rw[List.getElem?_zip_eq_some];exact⟨ej,a'⟩⟩)
     obtain⟨hx1,hx2⟩:=hz
     obtain⟨m,hn,hl⟩:=I2.loc
     have hk:=hfree (x,.free) (PySem.mem_of_lookup hx2) rfl
     obtain⟨u,ru,lk⟩:=hl j x v (by rw[hN0];exact hx1) hσ (by rcases hk with q|q;exact .inr (.inl q);exact .inr (.inr q))
     rcases lk with⟨q,_⟩|⟨q,c,hc',hcell⟩
     ·rcases hk with q'|q'<;>(rw[q'] at q;cases q)
     ·obtain⟨kk,ek,hkk⟩:=Jh1 (env:=X.env) hx2
      have hcl:=Jk2 (cells:=X.env.cells) scope.names [] x c (PySem.mem_of_lookup hx2) hc'
      obtain⟨c',hc2⟩:=Option.isSome_iff_exists.mp hcl
      have:=cells' x c' hc2
      rw[hc'] at this
      cases this
      obtain⟨oc,hoc,hd⟩:=hcell
      refine⟨u,ru,.inr ⟨?_,c,hc2,oc,keep23 _ _ hoc,hd⟩⟩
      rcases hkk with rfl|rfl
      ·exact .inl ek
      ·exact .inr ek
   ·obtain⟨v,o,ho,hd⟩:=I2.cell x c (cells' x c q)
    exact⟨v,o,keep23 _ _ ho,hd⟩
  have N3:Now ce (cxC X (loc++caps) scope C s2 H2 fp) [] (ι1++[D]) (stC loc.length js σi) (h1++[.lst []]) (List.replicate loc.length none++js.map λ j=>(σ[j]?).join) H2 { s2 with heap:=h3,toks:=s2.toks+([]:List (Str×Value)).length }:=by
   refine⟨I3,R3,by simp[stC],λ i v q=>?_⟩
   unfold stC at q
   have hi:loc.length<=i:=by
    refine Nat.le_of_not_lt λ hlt=>?_
    rw[List.getElem?_append_left (by simpa using hlt),List.getElem?_replicate] at q
    split at q<;>cases q
   rw[List.getElem?_append_right (by simpa using hi)] at q
   simp only[List.length_replicate,List.getElem?_map] at q
   cases ej:js[i-loc.length]? with
   | none=>rw[ej] at q;cases q
   | some j =>
    rw[ej] at q
    have q':(σi[j]?).join=some v:=Option.some.inj q
    have hσ:σi[j]?=some (some v):=by
     cases es:σi[j]? with
     | none=>rw[es] at q';cases q'
     | some o=>rw[es] at q';rw[show o=some v from q']
    obtain⟨u,hu,qu⟩:=N2.st.at_ j v hσ
    refine⟨u,?_,qu⟩
    rw[List.getElem?_append_right (by simpa using hi)]
    simp only[List.length_replicate,List.getElem?_map,ej,Option.map_some,hu]
    rfl
  have st3:tn 0 h3:=T.keep 0 _ _ st2 λ b _ o q=>keep23 b o q
  have K2:Jkw ce X use pins (ι1++[D]) σi σ H2 (Jdg Jt.chk g mt me h1.length Jt.xs (stC loc.length js σi) (h1++[.lst []])) Q E:=Jkw.mono (r:=Jdg Jt.chk g mt me h1.length Jt.xs (stC loc.length js σi) (h1++[.lst []])) K (n1.trans n2)
  have loop:codeAny (model X.prog X.w) X.A (.compLoop (.ListComp elt [⟨tg,iter,ifs,0⟩] scope pos) 0 (.ref it) (.ref D) (compEnvC scope (clOf X.env.cells scope.names []) C X.env)) (compPost (model X.prog X.w) X.A E use Q (.ref D) C)
    { s2 with heap:=h3,toks:=s2.toks+([]:List (Str×Value)).length }:=by
   refine Jmf (λ n s'=>∃k ιk σk hk σ' H',Now ce (cxC X (loc++caps) scope C s2 H2 fp) [] ιk σk hk σ' H' s'/\Nxt (ι1++[D]) H2 ιk H'/\tn k s'.heap/\(∀b∈fp,H' b=none)/\n=Jt.xs.length-k/\k<=Jt.xs.length/\Jkw ce X use pins ιk σi σ H' (Jdg Jt.chk g mt me h1.length (Jt.xs.drop k) σk hk) Q E) ?_ Jt.xs.length
    ⟨0,ι1++[D],stC loc.length js σi,h1++[.lst []],_,H2,N3,.refl,st3,λ b hb=>(f2 b hb).1,by simp,Nat.zero_le _,by simpa using K2⟩
   have stat:∀{H':Hp},(∀b∈fp,H' b=none)->∀b∈fp,FpOk (cxC X (loc++caps) scope C s2 H2 fp) [] H' b:=λ hn b hb =>
    ⟨hn b hb,(okX.exf b hb).1,okX.exfs b hb,.inl hb,(okX.exf b hb).2,λ p hp=>absurd (show p∈([]:List (Addr×Obj)) from hp) (by simp)⟩
   rintro n s4 ⟨k,ιk,σk,hk,σ4,H4,N4,n4,st4,fr4,rfl,hkl,K4⟩
   by_cases hlt:k<Jt.xs.length
   ·have hd:Jt.xs.drop k=Jt.xs[k]::Jt.xs.drop (k+1):=List.drop_eq_getElem_cons hlt
    rw[hd] at K4
    unfold Jdg at K4
    split at K4
    ·rename_i hck
     obtain⟨go,yl⟩:=OK.go k Jt.xs[k] hk H4 ιk (n2.trans n4) N4.rel hck (List.getElem?_eq_getElem hlt)
     refine thn (T.item (cxC X (loc++caps) scope C s2 H2 fp) k s4 σ4 H4 (hcc _ _ _ _ _ (n1.trans (n2.trans n4)).ext) N4.inv (stat fr4) st4 go) λ r s5 ⟨u,hr,h5⟩=>?_
     subst hr
     refine thn h5 λ _ s6 ⟨x,H6,I6,r6,y6,st6,fr6⟩=>?_
     obtain⟨R6,n6,q6⟩:=yl x H6 y6
     have I6':=I6.pinned (stat fr6) (T.obj _ _ st6)
     have N6:Now ce (cxC X (loc++caps) scope C s2 H2 fp) ([]++Jfa fp s6.heap) ιk σk hk σ4 H6 s6:=⟨I6',R6,N4.st.mono n6⟩
     have again:∀{σ7:L2.St}{H7:Hp}{s7:Shared}{σ7i:ISt}{h7:IH}{ι7:List Addr},Now ce (cxC X (loc++caps) scope C s2 H2 fp) ([]++Jfa fp s6.heap) ι7 σ7i h7 σ7 H7 s7->Nxt ιk H6 ι7 H7->Jkw ce X use pins ιk σi σ H4 (Jdg Jt.chk g mt me h1.length (Jt.xs.drop (k+1)) σ7i h7) Q E ->
       ∃m,m<Jt.xs.length-k/\∃k ιk σk hk σ' H',Now ce (cxC X (loc++caps) scope C s2 H2 fp) [] ιk σk hk σ' H' s7/\Nxt (ι1++[D]) H2 ιk H'/\tn k s7.heap/\(∀b∈fp,H' b=none)/\m=Jt.xs.length-k/\k<=Jt.xs.length/\Jkw ce X use pins ιk σi σ H' (Jdg Jt.chk g mt me h1.length (Jt.xs.drop k) σk hk) Q E :=
      λ {σ7 H7 s7 σ7i h7 ι7} N7 n7 K7=>by
       have nn:Nxt ιk H4 ι7 H7:=n6.trans n7
       refine⟨Jt.xs.length-(k+1),by omega,k+1,ι7,σ7i,h7,σ7,H7,N7.pins,n4.trans nn,T.keep _ _ _ st6 λ b hb o e=>(N7.inv.pin (b,o) (List.mem_append_right _ (List.mem_append_right _ (Jb8 hb e)))).1,λ b hb=>?_,rfl,hlt,K7.mono nn⟩
       obtain⟨o,e,d⟩:=T.obj _ _ st6 b hb
       exact(N7.inv.pin (b,o) (List.mem_append_right _ (List.mem_append_right _ (Jb8 hb e)))).2.1
     cases eg:g Jt.xs[k] σk hk with
     | next σg hgg =>
      rw[eg] at K4
      dsimp only at K4
      refine hg C s2 H2 fp _ s6 σ4 H6 ιk σk hk _ u (λ _ s7=>wpAny (model X.prog X.w) X.A (forIn ifs true λ c r=>if r=true then do let ok<-isTrue c _ (eval c _);pure (ForInStep.yield ok) else pure (ForInStep.yield r)) _ _ s7) (λ _ _=>False) N6 ⟨x,r6,q6⟩ ?_
      rw[eg]
      intro s7 σ7 H7 ι7 N7 n7
      refine ht C s2 H2 fp _ s7 σ7 H7 ι7 σg hgg _ (λ _ _=>False) N7 ?_
      cases et:mt σg hgg with
      | ok c h8 =>
       rw[et] at K4
       intro d s8 H8 ι8 N8 n8 rd
       have rd':d=c:=rd
       subst rd'
       cases d with
       | false=>exact again N8 (n7.trans n8) K4
       | true =>
        dsimp only at K4
        refine he C s2 H2 fp _ s8 σ7 H8 ι8 σg h8 _ (λ _ _=>False) N8 ?_
        cases ee:me σg h8 with
        | ok v h9 =>
         rw[ee] at K4
         dsimp only at K4
         intro w s9 H9 ι9 N9 n9 rw9
         have hat9:ι9[h1.length]?=some D:=(((n4.trans n6).trans n7).trans (n8.trans n9)).at hat
         cases hl:h9[h1.length]? with
         | none=>rw[hl] at K4;exact Zf K4
         | some ob =>
          rw[hl] at K4
          cases ob with
          | lst acc =>
           dsimp only at K4
           split at K4
           ·rename_i hz
            obtain⟨vs,eD,rD⟩:=N9.at hl hat9
            obtain⟨wv,rw9,qw⟩:=rw9
            have ap:=Jm6 (X:=(cxC X (loc++caps) scope C s2 H2 fp).wish λ _ _=>False) ([]++Jfa fp s6.heap) s9 σ7 H9 (.ref D) [wv] (.ref D) [w] (λ _ H'=>H'=upd H9 D (.lst (vs++[wv]))) (N9.inv.wish _) rfl (.cons rw9 .nil) ⟨D,vs,wv,rfl,rfl,eD,by rw[rD.length];exact hz,rfl⟩
            refine wpAny_mono ap (λ _ s10 hq=>?_) λ _ _ z=>z
            obtain⟨z,H10,I10,_,rfl⟩:=hq
            have n10:Nxt ι9 H9 ι9 (upd H9 D (.lst (vs++[wv]))):=⟨⟨[],by simp⟩,Ext.upd_mut eD (by rw[eD];exact True.intro)⟩
            obtain⟨R10,_⟩:=N9.rel.write (o:=.lst (vs++[wv])) (io:=.lst (acc++[v])) hat9 eD (by rw[eD];exact True.intro) ⟨_,Jg,(RVs.mono n10 _ _ rD).append (RVs.one (RV.mono n10 _ _ qw))⟩
            exact again ⟨I10.unwish,R10,N9.st.mono n10⟩ (((n7.trans n8).trans n9).trans n10) K4
           ·exact Zf K4
          | _=>exact Zf K4
        | _=>rw[ee] at K4;exact Zf K4
      | _=>rw[et] at K4;exact Zf K4
     | _=>rw[eg] at K4;exact Zf K4
    ·exact Zf K4
   ·have hke:Jt.xs.drop k=[]:=List.drop_eq_nil_of_le (by omega)
    rw[hke] at K4
    unfold Jdg at K4
    split at K4
    ·rename_i hck
     have stop:=OK.stop k hk H4 ιk (n2.trans n4) N4.rel hck (by omega)
     refine thn (T.done (cxC X (loc++caps) scope C s2 H2 fp) k s4 σ4 H4 (hcc _ _ _ _ _ (n1.trans (n2.trans n4)).ext) N4.inv (stat fr4) st4 stop) λ r s5 ⟨hr,I5⟩=>?_
     subst hr
     obtain⟨m,hnm,_⟩:=I5.loc
     -- back to the def's own frame
     have hos:s5.os=s2.os:=I5.os
     obtain⟨hp5,g5,d5,t5,os5⟩:=s5
     obtain rfl:os5=s2.os:=hos
     have J5:Inv X pins σ H4 { s2 with heap:=hp5,gens:=g5,drawn:=d5,toks:=t5 }:=I2.call (ch:=fp) I5.base I5.hok I5.bare λ b hb=>⟨(f2 b hb).2.2.2.1,(f2 b hb).2.1,(f2 b hb).2.2.2.2.1,(f2 b hb).2.2.2.2.2⟩
     have fC:FpOk X pins H4 C:=I2.fpOk (Nat.le_of_eq hC) I5.free
     exact K4 D C m _ H4 ιk ⟨J5,N4.rel,(N2.st.mono n4)⟩ .refl ⟨.ref D,rfl,D,rfl,n4.at hat⟩ hnm fC
    ·exact Zf K4
  exact codeAny_compStart_list loop (T.self X.A 0 _ _ _ st3 loop)
theorem Now.letgo {pins:List (Addr×Obj)}{ι:List Addr}{σi:ISt}{h:IH}{σ:L2.St}{H:Hp}{s:Shared}{C:Addr}{h':Heap}(N:Now ce X pins ι σi h σ H s) (fC:FpOk X pins H C) (sb:Heap.SameBut C s.heap h'):Now ce X pins ι σi h σ H { s with heap:=h' } :=
 ⟨N.inv.turned (it:=C) (t':=s.toks) (λ b o hb q=>(sb.2 b hb).trans q) fC.1 fC.2.1 fC.2.2.2.1 fC.2.2.2.2.1 fC.2.2.2.2.2,N.rel,N.st⟩
theorem Jy6 {N0 loc caps:List Str}{js:List Nat}{sc₀ scope:Scope}{tg iter elt:Expr}{ifs:List Expr}{mi:I1}{g:G1}{mt:T1}{me:E1}{pos:Pos}(hc:X.calm=true) (hi:PIi ce X tg iter mi)
  (hg:∀C s H fp,PGi ce (cxC X (loc++caps) scope C s H fp) tg g) (ht:∀C s H fp,PTsi ce (cxC X (loc++caps) scope C s H fp) ifs mt) (he:∀C s H fp,PEi ce (cxC X (loc++caps) scope C s H fp) elt me)
  (ok:Jdd N0 loc caps js sc₀ scope=true) (hN0:X.N=N0:=by rfl) (hsc:X.env.scope=sc₀:=by rfl) (hs:∀x,foldedSetIterable iter X.env x=pure x:=by intro _;rfl):PEi ce X (.ListComp elt [⟨tg,iter,ifs,0⟩] scope pos) (Jaa mi loc.length js g mt me):=by
 intro pins s σ H ι σi h Q E N K
 rw[eval_ListComp]
 refine Jmg hi.c hg ht he ok hN0 hsc hs (λ _ _ _ _ _ _=>⟨rfl,rfl,rfl,hc⟩) N ?_
 cases e0:Jaa mi loc.length js g mt me σi h with
 | exc n h'=>rw[e0] at K;exact K
 | stuck=>rw[e0] at K;exact K
 | ok v h' =>
  rw[e0] at K
  exact λ D C m s' H' ι' N' n' r hns fC=>⟨m,hns,λ h2 sb=>K _ _ H' ι' (N'.letgo fC sb) n' r⟩
theorem Jzj {N0 loc caps:List Str}{js:List Nat}{sc₀ scope:Scope}{tg iter elt:Expr}{ifs:List Expr}{mi:I1}{g:G1}{mt:T1}{me:E1}{pos pos2 pos3:Pos}{i:Nat}{x:Str}(hc:X.calm=true) (hi:PIi ce X tg iter mi)
  (hg:∀C s H fp,PGi ce (cxC X (loc++caps) scope C s H fp) tg g) (ht:∀C s H fp,PTsi ce (cxC X (loc++caps) scope C s H fp) ifs mt) (he:∀C s H fp,PEi ce (cxC X (loc++caps) scope C s H fp) elt me)
  (ok:Jdd N0 loc caps js sc₀ scope=true) (hN0:X.N=N0:=by rfl) (hsc:X.env.scope=sc₀:=by rfl) (hs:∀x,foldedSetIterable iter X.env x=pure x)
  (hN:X.N.Nodup) (hix:X.N[i]?=some x) (hlx:Loc X.env.scope x) (hf:X.fn x=true∨X.env.scope.names.lookup x=some .local)
  (hsw:swapsWith (.ListComp elt [⟨tg,iter,ifs,0⟩] scope pos) (some (.Name x pos2)) pos3.line X.env=pure true) :
  PS1 ce X (.Assign [.Name x pos2] (.ListComp elt [⟨tg,iter,ifs,0⟩] scope pos) pos3) (sSet i (Jaa mi loc.length js g mt me)):=by
 intro pins s σ H ι σi h Q E N K
 rw[exec_Assign_Name_used _ _ _ _ hsw]
 refine wpAny_bind (wpAny_standAt (wpAny_bind ?_))
 rw[arm_evalThenUse_ListComp]
 refine wpAny_bind ?_
 refine Jmg (use:=some (assign (.Name x pos2) X.env)) hi.c hg ht he ok hN0 hsc hs (λ _ _ _ _ _ _=>⟨rfl,rfl,rfl,hc⟩) N ?_
 unfold sSet at K
 cases e0:Jaa mi loc.length js g mt me σi h with
 | exc n h'=>rw[e0] at K;exact λ pl a s' H' ι' N' n' q=>K pl a s' σ H' ι' N' n' q s' (.inl rfl)
 | stuck=>rw[e0] at K;exact K
 | ok v h' =>
  rw[e0] at K
  intro D C m s' H' ι' N' n' r hns fC
  obtain⟨w,rw',q⟩:=r
  obtain⟨oC,es,ep,hoC,hdC,hrest⟩:=id hns
  have hp:Inv X (pins++Jfa [C] s'.heap) σ H' s':=N'.inv.pinned (λ b hb=>(show b=C by simpa using hb)▸fC) (λ b hb=>by
   have e:b=C:=by simpa using hb
   subst e
   exact⟨oC,hoC,λ v z=>by rw[hdC] at z;cases z⟩)
  refine wpAny_assign_Name (Jij hp hN hix hlx rw' (λ s2 I2=>?_) hf)
  have hC2:=(I2.pin (C,oC) (List.mem_append_right _ (List.mem_append_right _ (Jb8 (by simp) hoC)))).1
  refine⟨m,⟨oC,es,ep,hC2,hdC,hrest⟩,λ h2 sb=>wpAny_pure ?_⟩
  have N2:Now ce X pins ι' (σi.set i (some v)) h' (σ.set i (some w)) H' s2:=⟨I2.unpinned,N'.rel,N'.st.set i q⟩
  exact wpAny_pure (K _ _ H' ι' (N2.letgo fC sb) n')
noncomputable def Jki (x:Str):List IV:=x.cps.toList.map λ c=>.str ⟨#[c]⟩
noncomputable def Its (x:Str):It:=⟨λ i _=>i<x.cps.size,λ i H y H'=>H'=H/\∃c,x.cps[i]?=some c/\y=.str ⟨#[c]⟩,λ i _=>x.cps.size<=i⟩
theorem Jqt {P:Program}{w:World}{K:W.Frag}{tg:Expr}{ty:String}{x:Str}{t:Tok}(it:Addr) (hty:["enumerate","zip","dict_itemiterator","dict_reverseitemiterator","odict_iterator","itertools.zip_longest","itertools.pairwise"].contains ty=false)
  (W:∀A:Around,A.handled=none->Walks P w A it [it] [it] x.cps.size (SignAt x) (λ i h=>h.IsStrIter it ty x t i))
  (We:∀(A:Around) (E:Value->Shared->Prop) (s:Shared) (i:Nat) (Q:Option Value->Shared->Prop),A.handled=none->s.heap.IsStrIter it ty x t i->x.cps[i]?=none->(∀h',Heap.ExtBut it s.heap h'->Q none { s with heap:=h' })->wpAny (model P w) A (pyNext (.ref it)) Q E s)
  (Ws:∀(A:Around) (E:Value->Shared->Prop) (s:Shared) (i:Nat) (Q:Value->Shared->Prop),s.heap.IsStrIter it ty x t i->Q (.ref it) s->wpAny (model P w) A (pyIter (.ref it)) Q E s):Turn P w K tg (Its x) [it] it (λ i h=>h.IsStrIter it ty x t i) where
 mem:=by simp
 obj:=λ i h st b hb=>by
  have e:b=it:=by simpa using hb
  subst e
  obtain⟨o,e,c,d⟩:=st
  exact⟨o,e,λ v z=>by rw[d] at z;cases z⟩
 keep:=λ i h h' st k=>by
  obtain⟨o,e,r⟩:=st
  exact⟨o,k it (by simp) o e,r⟩
 item:=by
  intro X hP hw hK hc i pins s σ H E I hf st hg
  subst hP hw hK
  obtain⟨f0,f1,f2,f3,f4,f5⟩:=hf it (by simp)
  refine(W X.A (I.ok.hd hc)).item i s _ _ hg st λ v h' tk hv st' kk=>?_
  obtain⟨c,u,hcc,rfl⟩:=hv
  have I1:Inv X pins σ H { s with heap:=h',toks:=tk }:=I.turned (λ b o hb e=>kk b o (by simpa using hb) e) f0 f1 f3 f4 f5
  obtain⟨o,e,c1,d1⟩:=id st'
  exact⟨_,rfl,Jw0 (s:={ s with heap:=h',toks:=tk }) e c1 d1 hty ⟨.str ⟨#[c]⟩,H,I1,⟨u,rfl⟩,⟨rfl,c,hcc,rfl⟩,st',λ b hb=>(hf b hb).1⟩⟩
 done:=by
  intro X hP hw hK hc i pins s σ H E I hf st hg
  subst hP hw hK
  obtain⟨f0,f1,f2,f3,f4,f5⟩:=hf it (by simp)
  have hi:x.cps.size<=i:=hg
  have hx:x.cps[i]?=none:=by simp[hi]
  exact We X.A _ s i _ (I.ok.hd hc) st hx λ h' eb=>⟨rfl,I.turned (t':=s.toks) (λ b o hb e=>eb b o hb e) f0 f1 f3 f4 f5⟩
 self:=λ A i s Q E st h=>Ws A E s i Q st h
noncomputable def Jxd:IV->IH->Res ItI
 | .str x,h=>.ok ⟨Jki x,λ _=>True⟩ h
 | _,_=>.stuck
noncomputable def iStr (e:E1):I1:=λ σ h=>(e σ h).bind Jxd
theorem Jy9 {x:Str}{ι:List Addr}{H₀:Hp}:ItOk ce X.K ι H₀ (Its x) ⟨Jki x,λ _=>True⟩:=by
 refine⟨λ k v h H ι' hp R hck hx=>?_,λ k h H ι' hp R hck hx=>?_⟩
 ·have hk:k<x.cps.size:=by
   have:=(List.getElem?_eq_some_iff.mp hx).1
   simpa [Jki] using this
  refine⟨hk,λ y H' hy=>?_⟩
  obtain⟨rfl,c,hc,rfl⟩:=hy
  simp only[Jki,List.getElem?_map,Array.getElem?_toList,hc] at hx
  cases hx
  exact⟨R,.refl,rfl⟩
 ·have:(Jki x).length=x.cps.size:=by simp[Jki]
  show x.cps.size<=k
  rw[<- this]
  exact hx
theorem Jrg {tg l:Expr}{ml:E1}(hl:PEi ce X l ml):PIi ce X tg l (iStr ml):=by
 intro pins s σ H ι σi h Q E N K
 refine hl pins s σ H ι σi h _ E N ?_
 unfold iStr at K
 cases e0:ml σi h with
 | exc n h'=>rw[e0] at K;exact K
 | stuck=>rw[e0] at K;exact K
 | ok v h' =>
  rw[e0] at K
  intro u s1 H1 ι1 N1 n1 r1
  obtain⟨w,rw',q⟩:=r1
  have fresh:∀b∈[s1.heap.objs.size],FpOk X pins H1 b:=λ b hb=>by
   have e:b=s1.heap.objs.size:=by simpa using hb
   subst e
   exact N1.inv.fpOk (Nat.le_refl _) (N1.inv.hok.fresh (Nat.le_refl _))
  cases v with
  | str x =>
   have e1:w=.str x:=q
   subst e1
   obtain⟨t,rfl⟩:=rw'
   simp only[Res.bind,Jxd] at K
   cases ha:x.cps.all (· < 128) with
   | true =>
    refine wpAny_pyIter_ascii ha (K _ _ H1 ι1 ⟨N1.inv.kept (t':=s1.toks) λ b o e=>Heap.get?_push_of_some _ e,N1.rel,N1.st⟩ n1 ?_)
    exact⟨s1.heap.objs.size,[s1.heap.objs.size],_,Its x,rfl,Jqt (ty:="str_ascii_iterator") (t:=t) _ (by decide) (λ A hA=>Walks.strAscii hA _ x t) (λ A E s i Q hA st hx hQ=>wpAny_pyNext_ascii_end hA st hx hQ) (λ A E s i Q st hq=>wpAny_pyIter_striter_ascii st hq),⟨_,Heap.get?_push_size _ rfl,rfl,rfl⟩,fresh,Jy9⟩
   | false =>
    refine wpAny_pyIter_wide ha (K _ _ H1 ι1 ⟨N1.inv.kept (t':=s1.toks) λ b o e=>Heap.get?_push_of_some _ e,N1.rel,N1.st⟩ n1 ?_)
    exact⟨s1.heap.objs.size,[s1.heap.objs.size],_,Its x,rfl,Jqt (ty:="str_iterator") (t:=t) _ (by decide) (λ A hA=>Walks.strWide hA _ x t) (λ A E s i Q hA st hx hQ=>wpAny_pyNext_wide_end hA st hx hQ) (λ A E s i Q st hq=>wpAny_pyIter_striter_wide st hq),⟨_,Heap.get?_push_size _ rfl,rfl,rfl⟩,fresh,Jy9⟩
  | _=>simp only[Res.bind,Jxd] at K
noncomputable def Ite (K:W.Frag) (a:Addr):It :=
 ⟨λ i H=>∃xs x,SqL K H a xs/\xs[i]?=some x,λ i H y H'=>∃p x,H p=none/\y=.ref p/\H'=upd H p (.tup [.int (i:Int),x])/\∀xs,SqL K H a xs->xs[i]?=some x,λ i H=>∃xs,SqL K H a xs/\xs.length<=i⟩
theorem Jva {P:Program}{w:World}{K:W.Frag}{es:List Expr}{k:Nat}{p:Pos}(a it e:Addr) (hne:e≠it):Turn P w K (.Tuple es k p) (Ite K a) [e,it] e (λ i h=>(∃old,IsEnum h e it (i:Int) old)/\h.IsListIter it a i) where
 mem:=by simp
 obj:=λ i h st b hb=>by
  obtain⟨⟨old,he⟩,o,e1,c,d⟩:=st
  simp only[List.mem_cons,List.not_mem_nil,or_false] at hb
  rcases hb with rfl|rfl
  ·exact⟨_,he,λ v z=>by
    have z':Data.fields _=Data.cell v:=z
    cases z'⟩
  ·exact⟨o,e1,λ v z=>by rw[d] at z;cases z⟩
 keep:=λ i h h' st k=>⟨let ⟨old,he⟩:=st.1;⟨old,k e (by simp) _ he⟩,st.2.at λ o e=>k it (by simp) o e⟩
 item:=by
  intro X hP hw hK hc i pins s σ H E I hf st hg
  subst hP hw hK
  obtain⟨⟨old,he⟩,hit⟩:=st
  obtain⟨xs,x,hq,hx⟩:=hg
  obtain⟨its,rv,pl,hz⟩:=I.list hq
  obtain⟨u,hu,ru⟩:=rv.get hx
  have fe:=hf e (by simp)
  have fi:=hf it (by simp)
  have hn:H s.heap.objs.size=none:=I.hok.fresh (Nat.le_refl _)
  refine wpAny_pyNext_enum_item he hit pl.isList (x:=u) (by simpa using hu) hne λ h' he' hit' ht hsz kk=>?_
  refine⟨_,rfl,wpAny_letOwnedTupleGo_enum he' λ h2 he2 sb=>?_⟩
  have ltE:e<s.heap.objs.size:=Heap.lt_size he
  have neT:s.heap.objs.size≠e:=Nat.ne_of_gt ltE
  have k2:∀b o,b≠e->b≠it->s.heap.get? b=some o->h2.get? b=some o:=λ b o h1 h3 q=>(sb.2 b h1).trans (kk b o h1 h3 q)
  have hl2:h2.IsListIter it a (i+1):=by
   obtain⟨o,q,r⟩:=hit'
   exact⟨o,(sb.2 it (Ne.symm hne)).trans q,r⟩
  have t2:h2.get? s.heap.objs.size=some { cls:=.type "tuple",data:=.seq #[.int i s.toks,u] }:=(sb.2 _ neT).trans ht
  -- the two records turn, then the tuple is tracked
  obtain⟨oe,hoe⟩:∃o,s.heap.get? e=some o:=⟨_,he⟩
  obtain⟨oi,hoi,_⟩:=id hit
  have neP:∀b u,H b=some u->b≠s.heap.objs.size:=λ b u q=>Jx q hn
  have I1:Inv X pins σ (upd H s.heap.objs.size (.tup [.int (i:Int),x])) { s with heap:=h2,toks:=s.toks+1 }:=by
   refine I.step (g':=s.gens) (d':=s.drawn) (ch:=[e,it]) (λ b hb=>?_) (λ b o _ _ hc q _=>k2 b o (λ z=>hc (by simp[z])) (λ z=>hc (by simp[z])) q) (λ b o _ _ hc q _=>⟨o.slots,k2 b o (λ z=>hc (by simp[z])) (λ z=>hc (by simp[z])) q⟩) (λ b o _ q n=>?_)
    (λ b o hc q=>⟨o,k2 b o (λ z=>hc (by simp[z])) (λ z=>hc (by simp[z])) q⟩) (λ b xs q=>by rw[Jh (neP b _ q)];exact q) (λ b o u q=>by rw[Jh (neP b _ q)];exact q) (λ b ps q=>⟨#[],by rw[Jh (neP b _ q),q];simp⟩) (λ m hm=>?_) (λ b u q=>?_) I.bare
   ·simp only[List.mem_cons,List.not_mem_nil,or_false] at hb
    rcases hb with rfl|rfl
    ·exact⟨fe.2.2.2.1,fe.2.1,fe.2.2.2.2.1,fe.2.2.2.2.2⟩
    ·exact⟨fi.2.2.2.1,fi.2.1,fi.2.2.2.2.1,fi.2.2.2.2.2⟩
   ·rw[Jh (Nat.ne_of_lt (Heap.lt_size q))];exact n
   ·obtain⟨o,es,ep,ho,r⟩:=hm
    exact⟨o,es,ep,k2 _ o (Ne.symm fe.2.1) (Ne.symm fi.2.1) ho,r⟩
   ·by_cases hb:b=s.heap.objs.size
    ·subst hb
     rw[Jg] at q
     cases q
     exact⟨by show 2<=sizeLine;decide,[.int i s.toks,u],.cons ⟨_,rfl⟩ (.cons ru .nil),⟨_,t2,rfl,_,rfl⟩⟩
    ·rw[Jh hb] at q
     have n1:b≠e:=λ z=>by rw[z,fe.1] at q;cases q
     have n2:b≠it:=λ z=>by rw[z,fi.1] at q;cases q
     refine(I.hok b u q).stay (λ c v hc r=>k2 c v ?_ ?_ r) (λ c q=>by rw[Jh (neP c _ q)];exact q) λ c ys q=>by rw[Jh (neP c _ q)];exact q
     ·rcases hc with z|z
      ·rw[z];exact n1
      ·intro y;rw[y,fe.1] at z;cases z
     ·rcases hc with z|z
      ·rw[z];exact n2
      ·intro y;rw[y,fi.1] at z;cases z
  refine⟨.ref s.heap.objs.size,_,I1,rfl,⟨s.heap.objs.size,x,hn,rfl,rfl,λ ys hy=>by rw[I.list_inj hy hq];exact hx⟩,⟨⟨_,he2⟩,hl2⟩,λ b hb=>?_⟩
  simp only[List.mem_cons,List.not_mem_nil,or_false] at hb
  rcases hb with rfl|rfl
  ·rw[Jh (Nat.ne_of_lt ltE)];exact fe.1
  ·rw[Jh (Nat.ne_of_lt (Heap.lt_size hoi))];exact fi.1
 done:=by
  intro X hP hw hK hc i pins s σ H E I hf st hg
  subst hP hw hK
  obtain⟨⟨old,he⟩,hit⟩:=st
  obtain⟨xs,hq,hx⟩:=hg
  obtain⟨its,rv,p,hz⟩:=I.list hq
  obtain⟨f0,f1,f2,f3,f4,f5⟩:=hf it (by simp)
  have hl:=rv.length
  exact wpAny_pyNext_enum_end (I.ok.hd hc) he hit p.isList (by simp;omega) λ h' eb=>⟨rfl,I.turned (t':=s.toks) (λ b o hb e=>eb b o hb e) f0 f1 f3 f4 f5⟩
 self:=λ _ _ _ _ _ st h=>let ⟨_,he⟩:=st.1;wpAny_pyIter_enum he h
noncomputable def Jg5 (n:Nat):List IV->List IV
 | []=>[]
 | x::xs=>.tup [.int n,x]::Jg5 (n+1) xs
theorem Ji8:∀(xs:List IV) (n k:Nat),(Jg5 n xs)[k]?=(xs[k]?).map λ x=>.tup [.int ((n+k:Nat):Int),x]
 | [],_,_=>by simp[Jg5]
 | x::xs,n,0=>by simp[Jg5]
 | x::xs,n,k+1=>by
  simp only[Jg5,List.getElem?_cons_succ]
  rw[Ji8 xs (n+1) k]
  have:n+1+k=n+(k+1):=by omega
  rw[this]
theorem Jea:∀(xs:List IV) (n:Nat),(Jg5 n xs).length=xs.length
 | [],_=>rfl
 | _::xs,n=>by simp[Jg5,Jea xs]
noncomputable def Je9:List IV->IH->Res ItI
 | [.ref i],h=>match h[i]? with
  | some (.lst xs)=>.ok ⟨Jg5 0 xs,λ h'=>h'[i]?=some (.lst xs)⟩ h
  | _=>.stuck
 | _,_=>.stuck
theorem J3u {a:Addr}{i:Nat}{xs:List IV}{ι:List Addr}{H₀:Hp}(ha:ι[i]?=some a):ItOk ce X.K ι H₀ (Ite X.K a) ⟨Jg5 0 xs,λ h'=>h'[i]?=some (.lst xs)⟩:=by
 refine⟨λ k v h H ι' hp R hck hx=>?_,λ k h H ι' hp R hck hx=>?_⟩
 ·obtain⟨vs,e1,r1⟩:=R.get hck (hp.at ha)
  have hx':(Jg5 0 xs)[k]?=some v:=hx
  rw[Ji8] at hx'
  obtain⟨x,hxk,rfl⟩:=Option.map_eq_some_iff.mp hx'
  obtain⟨u,hu,qu⟩:=r1.get hxk
  refine⟨⟨vs,u,SqL.of e1,hu⟩,λ y H' hy=>?_⟩
  obtain⟨p,x',hp0,rfl,rfl,hy⟩:=hy
  have:=hy vs (SqL.of e1)
  rw[hu] at this
  cases this
  obtain⟨R',n'⟩:=R.grow (o:=.tup [.int (k:Int),u]) hp0
  refine⟨R',n',p,_,rfl,SqT.of Jg,⟨_,_,rfl,?_,_,_,rfl,RV.mono n' _ _ qu,rfl⟩⟩
  show V.int (k:Int)=V.int ((0+k:Nat):Int)
  simp
 ·obtain⟨vs,e1,r1⟩:=R.get hck (hp.at ha)
  exact⟨vs,SqL.of e1,by rw[r1.length,<-Jea xs 0];exact hx⟩
theorem J3g {es:List Expr}{kt:Nat}{pt:Pos}{a:Expr}{ma:A1}{p pos:Pos}(hg:Gl X "enumerate") (hm:X.mg "enumerate"=none) (ha:PAi ce X [a] ma) (hs:starEach [a] X.env=[(false,eval a X.env)]:=by rfl):PIi ce X (.Tuple es kt pt) (.Call (.Name "enumerate" p) [a] [] pos) (iRg Je9 ma):=by
 intro pins s σ H ι σi h Q E N K
 refine Call_ (Jed N.inv hg hm boot_enumerate (PyProof.Rows.callWith_type1 ?_ hs rfl))
 refine ha pos pins s σ H ι σi h _ E N ?_
 unfold iRg at K
 cases e0:ma σi h with
 | exc n h'=>rw[e0] at K;exact K
 | stuck=>rw[e0] at K;exact K
 | ok vs h' =>
  rw[e0] at K
  intro us s1 H1 ι1 N1 n1 r1
  obtain⟨xs,rv,qs⟩:=r1
  match vs,K with
  | [.ref i],K =>
   obtain⟨w,e1,q⟩:=qs.one_of
   subst e1
   obtain⟨b,e3,hb⟩:=q
   subst e3
   obtain⟨u,rfl,ru⟩:=Jn9 rv
   cases ru
   cases hi:h'[i]? with
   | none=>simp only[Res.bind,Je9,hi] at K
   | some ob =>
    cases ob with
    | lst ys =>
     simp only[Res.bind,Je9,hi] at K
     obtain⟨ws,eH,rH⟩:=N1.at hi hb
     obtain⟨z,its,n,r,hl,eo⟩:=N1.inv.lstM eH
     refine call_enumerate_1 eo λ h2 he hit hsz kp=>?_
     refine wpAny_pyIter_enum he (K _ _ H1 ι1 ⟨N1.inv.kept (t':=s1.toks) kp,N1.rel,N1.st⟩ n1 ?_)
     refine⟨s1.heap.objs.size+1,[s1.heap.objs.size+1,s1.heap.objs.size],_,Ite X.K b,rfl,Jva b s1.heap.objs.size (s1.heap.objs.size+1) (Nat.ne_of_gt (Nat.lt_succ_self _)),⟨⟨_,he⟩,hit⟩,λ c hc=>?_,J3u hb⟩
     simp only[List.mem_cons,List.not_mem_nil,or_false] at hc
     rcases hc with rfl|rfl
     ·exact N1.inv.fpOk (Nat.le_succ _) (N1.inv.hok.fresh (Nat.le_succ _))
     ·exact N1.inv.fpOk (Nat.le_refl _) (N1.inv.hok.fresh (Nat.le_refl _))
    | _=>simp only[Res.bind,Je9,hi] at K
  | [],K=>exact Zf K
  | .non::_,K=>exact Zf K
  | .bl _::_,K=>exact Zf K
  | .str _::_,K=>exact Zf K
  | .tup _::_,K=>exact Zf K
  | .rol _::_,K=>exact Zf K
  | .int _::_,K=>exact Zf K
  | .ref _::_::_,K=>exact Zf K
end
noncomputable def Jrk:IV->IH->Res ItI
 | .str x,h=>Jxd (.str x) h
 | v,h=>itOf v h
noncomputable def iAny (e:E1):I1:=λ σ h=>(e σ h).bind Jrk
theorem Jw5 {ce:Str->Option Addr}{X:Cx}{tg l:Expr}{ml:E1}(hl:PEi ce X l ml):PIi ce X tg l (iAny ml):=by
 intro pins s σ H ι σi h Q E N K
 cases e0:ml σi h with
 | ok v h' =>
  cases v with
  | str x=>exact Jrg (tg:=tg) hl pins s σ H ι σi h Q E N (by unfold iStr;unfold iAny at K;rw[e0] at K ⊢;exact K)
  | _=>exact Jt3 (tg:=tg) hl pins s σ H ι σi h Q E N (by unfold iVal;unfold iAny at K;rw[e0] at K ⊢;exact K)
 | exc n h'=>exact Jt3 (tg:=tg) hl pins s σ H ι σi h Q E N (by unfold iVal;unfold iAny at K;rw[e0] at K ⊢;exact K)
 | stuck=>exact Jt3 (tg:=tg) hl pins s σ H ι σi h Q E N (by unfold iVal;unfold iAny at K;rw[e0] at K ⊢;exact K)
section
variable {ce:Str->Option Addr}{X:Cx}
theorem x_sl:SlI ce X slI:=by
 intro pins s σ H ι σi h x v vl vu lo hi sl Q E N rx hs pl pu K
 obtain⟨xv,rx,qx⟩:=rx
 cases x with
 | ref i =>
  obtain⟨a,e1,ha⟩:=qx
  subst e1
  dsimp only[slI] at K
  cases hi':h[i]? with
  | none=>rw[hi'] at K;exact Zf K
  | some ob =>
   rw[hi'] at K
   cases ob with
   | lst xs =>
    obtain⟨vs,e1,r1⟩:=N.at hi' ha
    exact Jzw (Ju4 (X:=X.wish E)) N.inv rx hs pl pu ⟨a,vs,rfl,SqL.of e1,λ p hp=>finA N K p hp ⟨_,Jg,RVs.new hp (r1.cut lo hi)⟩⟩
   | _=>exact Zf K
 | rol xs =>
  obtain⟨a,vs,e1,sa,ra⟩:=qx
  subst e1
  exact Jzw (Ju4 (X:=X.wish E)) N.inv rx hs pl pu ⟨a,vs,rfl,sa.sq,λ p hp=>finA N K p hp ⟨_,Jg,RVs.new hp (ra.cut lo hi)⟩⟩
 | _=>exact Zf K
noncomputable def revI:IV->IH->Res IV
 | .ref i,h=>match h[i]? with
  | some (.lst xs)=>.ok (.ref h.length) (h++[.lst xs.reverse])
  | _=>.stuck
 | .rol xs,h=>.ok (.ref h.length) (h++[.lst xs.reverse])
 | _,_=>.stuck
noncomputable def Juh:IV->IH->Res IV
 | .ref i,h=>match h[i]? with
  | some (.lst xs)=>.ok (.ref h.length) (h++[.lst xs])
  | _=>.stuck
 | .rol xs,h=>.ok (.ref h.length) (h++[.lst xs])
 | .tup xs,h=>.ok (.ref h.length) (h++[.lst xs])
 | _,_=>.stuck
theorem J2z:Jjy ce X (.type "list") (on1 Juh):=Jq4 λ pins s σ H ι σi h x xv u Q E N ru qx K=>by
 cases x with
 | ref i =>
  obtain⟨a,e1,ha⟩:=qx
  subst e1
  dsimp only[Juh] at K
  cases hi:h[i]? with
  | none=>rw[hi] at K;exact Zf K
  | some ob =>
   rw[hi] at K
   cases ob with
   | lst xs =>
    obtain⟨vs,e1,r1⟩:=N.at hi ha
    exact Jar (Jd7 (X:=X.wish E)) N.inv (.cons ru .nil) ⟨a,vs,rfl,.inl (SqL.of e1),λ p hp=>finA N K p hp ⟨_,Jg,RVs.new hp r1⟩⟩
   | _=>exact Zf K
 | rol xs =>
  obtain⟨a,vs,e1,sa,ra⟩:=qx
  subst e1
  exact Jar (Jd7 (X:=X.wish E)) N.inv (.cons ru .nil) ⟨a,vs,rfl,.inl sa.sq,λ p hp=>finA N K p hp ⟨_,Jg,RVs.new hp ra⟩⟩
 | tup xs =>
  obtain⟨a,vs,e1,sa,ra⟩:=qx
  subst e1
  exact Jar (Jd7 (X:=X.wish E)) N.inv (.cons ru .nil) ⟨a,vs,rfl,.inr sa,λ p hp=>finA N K p hp ⟨_,Jg,RVs.new hp ra⟩⟩
 | _=>exact Zf K
noncomputable def Jjr:IV->IH->Res IV
 | .ref i,h=>match h[i]? with
  | some (.lst xs)=>.ok (.tup xs) h
  | _=>.stuck
 | .tup xs,h=>.ok (.tup xs) h
 | _,_=>.stuck
theorem Jz6:Jjy ce X (.type "tuple") (on1 Jjr):=Jq4 λ pins s σ H ι σi h x xv u Q E N ru qx K=>by
 cases x with
 | ref i =>
  obtain⟨a,e1,ha⟩:=qx
  subst e1
  dsimp only[Jjr] at K
  cases hi:h[i]? with
  | none=>rw[hi] at K;exact Zf K
  | some ob =>
   rw[hi] at K
   cases ob with
   | lst xs =>
    obtain⟨vs,e1,r1⟩:=N.at hi ha
    exact Jar (Jgh (X:=X.wish E)) N.inv (.cons ru .nil) ⟨a,vs,rfl,.inl ⟨SqL.of e1,λ p hp=>finT N K p hp r1⟩⟩
   | _=>exact Zf K
 | tup xs =>
  have qx':=qx
  obtain⟨a,vs,e1,sa,ra⟩:=qx
  subst e1
  exact Jar (Jgh (X:=X.wish E)) N.inv (.cons ru .nil) ⟨a,vs,rfl,.inr ⟨sa,fin0 N K qx'⟩⟩
 | _=>exact Zf K
noncomputable def intI:IV->IH->Res IV
 | .int i,h=>.ok (.int i) h
 | .bl b,h=>.ok (.int (if b then 1 else 0)) h
 | _,_=>.stuck
noncomputable def strI:IV->IH->Res IV
 | .int i,h=>if i.natAbs.log2<1920 then .ok (.str (toString i)) h else .stuck
 | _,_=>.stuck
noncomputable def Jmb:List IV->Option (List Bool)
 | []=>some []
 | .bl b::r=>(Jmb r).map (b:: ·)
 | _::_=>none
noncomputable def allI:IV->IH->Res IV
 | .ref i,h=>match h[i]? with
  | some (.lst xs)=>(match Jmb xs with
   | some bs=>.ok (.bl (bs.all id)) h
   | none=>.stuck)
  | _=>.stuck
 | _,_=>.stuck
noncomputable def anyI:IV->IH->Res IV
 | .ref i,h=>match h[i]? with
  | some (.lst xs)=>(match Jmb xs with
   | some bs=>.ok (.bl (bs.any id)) h
   | none=>.stuck)
  | _=>.stuck
 | _,_=>.stuck
theorem Jp3 {K:W.Frag}{ι:List Addr}{H:Hp}:∀{xs:List IV}{bs:List Bool}{vs:List V}{us:List Value},Jmb xs=some bs->RVs K ι H xs vs->Vals vs us->us=bs.map Value.bool
 | [],bs,vs,us,e,q,r=>by
  cases e
  have e1:vs=[]:=q
  subst e1
  cases r
  rfl
 | x::xs,bs,vs,us,e,q,r=>by
  obtain⟨v,vr,e1,q1,q2⟩:=q
  subst e1
  cases r with
  | cons r1 r2 =>
   cases x with
   | bl b =>
    obtain⟨b2,e2,rfl⟩:=Option.map_eq_some_iff.mp (show(Jmb xs).map (b:: ·)=some bs from e)
    cases (show v=.bl b from q1)
    cases r1
    rw[Jp3 e2 q2 r2]
    rfl
   | _=>cases e
theorem Jss (bs:List Bool):((List.range bs.length).all λ i=>bs.getD i true)=bs.all id:=by
 induction bs with
 | nil=>rfl
 | cons b r ih =>
  rw[List.length_cons,List.range_succ_eq_map,List.all_cons,List.all_map,List.all_cons]
  have e:((List.range r.length).all ((λ i=>(b::r).getD i true)∘Nat.succ))=(List.range r.length).all λ i=>r.getD i true:=by
   congr 1
  rw[e,ih]
  rfl
theorem c_all (hh:X.A.handled=none):Jjy ce X (.builtin "all") (on1 allI):=Jq4 λ pins s σ H ι σi h x xv u Q E N ru qx K=>by
 cases x with
 | ref i =>
  obtain⟨a,e1,ha⟩:=qx
  subst e1
  cases ru
  dsimp only[allI] at K
  cases hi:h[i]? with
  | none=>rw[hi] at K;exact Zf K
  | some ob =>
   rw[hi] at K
   cases ob with
   | lst xs =>
    dsimp only at K
    cases hb:Jmb xs with
    | none=>rw[hb] at K;exact Zf K
    | some bs =>
     rw[hb] at K
     obtain⟨vs,e1,r1⟩:=N.at hi ha
     obtain⟨its,rv,pl,hz⟩:=N.inv.list (SqL.of e1)
     have eu:=Jp3 hb r1 rv
     subst eu
     refine call_all_walk (wpAny_pyIter_list pl.isList ?_)
     have hlt:a<s.heap.objs.size:=by obtain⟨o,_,ho,_⟩:=pl;exact Heap.lt_size ho
     have ne:a≠s.heap.objs.size:=Nat.ne_of_lt hlt
     refine⟨s.heap.objs.size,_,_,_,_,_,λ i=>bs.getD i true,rfl,Walks.list (prog:=X.prog) (w:=X.w) (A:=X.A.in1) hh s.heap.objs.size a ne (bs.map Value.bool).toArray,⟨⟨_,Heap.get?_push_size _ rfl,rfl,rfl⟩,?_⟩,?_,λ h' tk kk=>?_⟩
     ·obtain⟨o,n,ho,hc,_,hd⟩:=pl
      exact⟨o,Heap.get?_push_of_some _ ho,hc,n,hd⟩
     ·intro i v s' Q' E' hP hq
      simp only[List.getElem?_toArray,List.getElem?_map] at hP
      obtain⟨b,hb',rfl⟩:=Option.map_eq_some_iff.mp hP
      refine wpAny_truthy_bool ?_
      have:bs.getD i true=b:=by simp[List.getD,hb']
      rw[<- this]
      exact hq
     ·rw[show(bs.map Value.bool).toArray.size=bs.length by simp,Jss]
      have I1:Inv X pins σ H { s with heap:=s.heap.push { cls:=.type "list_iterator",data:=.fields #[.ref a,.int 0 0] } }:=N.inv.kept (t':=s.toks) λ b o e=>Heap.get?_push_of_some _ e
      have f:=N.inv.fpOk (Nat.le_refl _) (N.inv.hok.fresh (Nat.le_refl _))
      exact fin0 N K rfl _ _ (I1.turned (t':=tk) (it:=s.heap.objs.size) (λ b o hb e=>kk b o (by simpa using hb) e) f.1 f.2.1 f.2.2.2.1 f.2.2.2.2.1 f.2.2.2.2.2) rfl
   | _=>exact Zf K
 | _=>exact Zf K
noncomputable def MtI (ce:Str->Option Addr) (X:Cx) (T id:String) (g:IV->List IV->IH->Res IV):Prop :=
 ∀(pins:List (Addr×Obj)) (s:Shared) (σ:L2.St) (H:Hp) (ι:List Addr) (σi:ISt) (h:IH) (x:IV) (xs:List IV) (v:Value) (us:List Value) (Q:Value->Shared->Prop) (E:Value->Shared->Prop),Now ce X pins ι σi h σ H s->RU X.K ι H x v->RUs X.K ι H xs us ->
  Kont ce X RU pins ι σi σ H (g x xs h) Q E->wpAny (model X.prog X.w) X.A (call (.builtin id) (v::us)) Q E s
noncomputable def tyOk (T:String):IV->IH->Bool
 | .str _,_=>T=="str"
 | .int _,_=>T=="int"
 | .ref i,h=>match h[i]? with
  | some (.lst _)=>T=="list"
  | some (.dct _)=>T=="dict"
  | _=>false
 | .rol _,_=>T=="list"
 | _,_=>false
noncomputable def eBm (T:String) (g:IV->List IV->IH->Res IV) (o:E1) (a:A1):E1:=λ σ h=>(o σ h).bind λ x h1=>if tyOk T x h1=true then(a σ h1).bind λ xs h2=>g x xs h2 else .stuck
theorem Jzr {pins:List (Addr×Obj)}{s:Shared}{σ:L2.St}{H:Hp}{ι:List Addr}{σi:ISt}{h:IH}{x:IV}{xv:V}{T:String}(N:Now ce X pins ι σi h σ H s) (q:RV X.K ι H x xv) (e:tyOk T x h=true):tyV X.K T xv H:=by
 cases x with
 | str y=>cases (show xv=.str y from q);exact beq_iff_eq.mp e
 | int y=>cases (show xv=.int y from q);exact beq_iff_eq.mp e
 | rol y =>
  obtain⟨a,vs,rfl,sa,_⟩:=q
  exact .inl ⟨beq_iff_eq.mp e,vs,sa.sq⟩
 | ref i =>
  obtain⟨a,rfl,ha⟩:=q
  cases hi:h[i]? with
  | none=>simp[tyOk,hi] at e
  | some ob =>
   cases ob with
   | lst xs =>
    simp only[tyOk,hi] at e
    obtain⟨vs,e1,_⟩:=N.at hi ha
    exact .inl ⟨beq_iff_eq.mp e,vs,SqL.of e1⟩
   | dct kvs =>
    simp only[tyOk,hi] at e
    obtain⟨vs,e1,_⟩:=N.at hi ha
    exact .inr (.inr (.inl ⟨beq_iff_eq.mp e,.inl ⟨vs,e1⟩⟩))
   | _=>simp[tyOk,hi] at e
 | _=>simp[tyOk] at e
variable {o a:Expr}{es:List Expr}{mo:E1}{ma:A1}{name:Str}{apos cpos:Pos}{T id:String}{g:IV->List IV->IH->Res IV}
theorem i_bm (pa:PlainAttrs T) (slot:Slot T name id) (hty:typeOf (.builtin id)=pure (.type "method_descriptor")) (hm:MtI ce X T id g) (ho:PEi ce X o mo) (ha:PAi ce X (a::es) ma)
  (hbase:attributeBase o name X.env (eval o X.env)=eval o X.env:=by rfl)
  (hfew:((backTo cpos (starEach (a::es) X.env)).all (λ x=>!x.1)&&(backToKw cpos (keywordEach [] X.env)).all (λ x=>x.1.isSome)
   && decide ((a::es).length+([]:List Keyword).length+(if ([]:List Keyword).isEmpty then 0 else 1)<30))=true:=by rfl)
  (hline:(apos.endLine==cpos.line)=true:=by rfl) (hs:starEach (a::es) X.env=(false,eval a X.env)::starEach es X.env:=by rfl) (hplain:(backTo cpos (starEach es X.env)).any (·.1)=false:=by rfl) :
  PEi ce X (.Call (.Attribute o name apos) (a::es) [] cpos) (eBm T g mo ma):=by
 intro pins s σ H ι σi h Q E N K
 refine wpAny_Call_method_late hbase hfew hline rfl (ho.run N K λ x h1 v s1 H1 ι1 N1 n1 r1 K1=>?_)
 by_cases hty1:tyOk T x h1=true
 ·rw[if_pos hty1] at K1
  obtain⟨xv,rx,qx⟩:=r1
  obtain⟨h1',h2'⟩:=Jzs N1.inv rx (Jzr N1 qx hty1)
  refine⟨T,id,pa,slot,hty,h1',h2',?_⟩
  have hA:=(ha cpos).run (Q1:=λ us s2=>wpAny (model X.prog X.w) X.A (call (.builtin id) (v::us)) Q E s2) N1 K1 λ xs h2 us s2 H2 ι2 N2 n2 r2 K2=>hm pins s2 σ H2 ι2 σi h2 x xs v us Q E N2 ⟨xv,rx,RV.mono n2 _ _ qx⟩ r2 K2
  rw[hs] at hA ⊢
  exact Calls.callWith_builtin (by show(false||(backTo cpos (starEach es X.env)).any (·.1))=false;rw[hplain]<;>rfl) (Calls.evalArgs_plain hA)
 ·rw[if_neg hty1] at K1
  exact Zf K1
theorem i_bm0 (pa:PlainAttrs T) (slot:Slot T name id) (hty:typeOf (.builtin id)=pure (.type "method_descriptor")) (hm:MtI ce X T id g) (ho:PEi ce X o mo)
  (hbase:attributeBase o name X.env (eval o X.env)=eval o X.env:=by rfl) (hline:(apos.endLine==cpos.line)=true:=by rfl):PEi ce X (.Call (.Attribute o name apos) [] [] cpos) (eBm T g mo aNil):=by
 intro pins s σ H ι σi h Q E N K
 refine wpAny_Call_method0_late hbase hline (ho.run N K λ x h1 v s1 H1 ι1 N1 n1 r1 K1=>?_)
 by_cases hty1:tyOk T x h1=true
 ·rw[if_pos hty1] at K1
  obtain⟨xv,rx,qx⟩:=r1
  obtain⟨h1',h2'⟩:=Jzs N1.inv rx (Jzr N1 qx hty1)
  exact⟨T,id,pa,slot,hty,h1',h2',Calls.callWith_builtin rfl (PySem.evalArgs_none (hm pins s1 σ H1 ι1 σi h1 x [] v [] Q E N1 ⟨xv,rx,qx⟩ .nil K1))⟩
 ·rw[if_neg hty1] at K1
  exact Zf K1
theorem Jzv {pins:List (Addr×Obj)}{s:Shared}{σ:L2.St}{H:Hp}{Q:Value->Shared->Prop}{E:Value->Shared->Prop}{r:V->List V->Hp->VK->Prop}{x:V}{xs:List V}{v:Value}{us:List Value}(p:MtM (X.wish E) id r) (I:Inv X pins σ H s) (rx:RelV x v) (rs:Vals xs us)
  (k:r x xs H λ z H'=>∀u s',Inv X pins σ H' s'->RelV z u->Q u s'):wpAny (model X.prog X.w) X.A (call (.builtin id) (v::us)) Q E s :=
 wpAny_mono (p pins s σ H x xs v us _ (I.wish E) rx rs k) (λ u s' ⟨_,_,I',r,q⟩=>q u s' I'.unwish r) λ _ _ z=>z
theorem finW {pins:List (Addr×Obj)}{s:Shared}{σ:L2.St}{H:Hp}{ι:List Addr}{σi:ISt}{h:IH}{i:Nat}{b:Addr}{ys:List IV}{vs ws:List V}{v:IV}{w:V}{Q:Value->Shared->Prop}{E:Value->Shared->Prop}(N:Now ce X pins ι σi h σ H s) (K:Kont ce X RU pins ι σi σ H (.ok v (h.set i (.lst ys))) Q E)
  (hb:ι[i]?=some b) (eH:H b=some (.lst vs)) (r:RVs X.K ι H ys ws) (q:RV X.K ι H v w):∀u s',Inv X pins σ (upd H b (.lst ws)) s'->RelV w u->Q u s':=λ u s' I ru=>by
 have n:Nxt ι H ι (upd H b (.lst ws)):=⟨⟨[],by simp⟩,Ext.upd_mut eH (by rw[eH];exact True.intro)⟩
 obtain⟨R,_⟩:=N.rel.write (o:=.lst ws) (io:=.lst ys) hb eH (by rw[eH];exact True.intro) ⟨_,Jg,RVs.mono n _ _ r⟩
 exact K u s' _ ι ⟨I,R,N.st.mono n⟩ n ⟨w,ru,RV.mono n _ _ q⟩
noncomputable def Jg2:IV->List IV->IH->Res IV
 | .ref i,[y],h=>match h[i]? with
  | some (.lst xs)=>if xs.length<sizeLine then .ok .non (h.set i (.lst (xs++[y]))) else .stuck
  | _=>.stuck
 | _,_,_=>.stuck
theorem Jxo:MtI ce X "list" "list.append" Jg2:=by
 intro pins s σ H ι σi h x xs v us Q E N rx rs K
 obtain⟨xv,rx,qx⟩:=rx
 obtain⟨vs,rv,qs⟩:=rs
 cases x with
 | ref i =>
  match xs,K with
  | [y],K =>
   obtain⟨a,rfl,ha⟩:=qx
   obtain⟨w,rfl,qw⟩:=qs.one_of
   dsimp only[Jg2] at K
   cases hi:h[i]? with
   | none=>rw[hi] at K;exact Zf K
   | some ob =>
    rw[hi] at K
    cases ob with
    | lst zs =>
     dsimp only at K
     split at K
     ·rename_i hz
      obtain⟨ws,e1,r1⟩:=N.at hi ha
      exact Jzv (Jm6 (X:=X.wish E)) N.inv rx rv ⟨a,ws,w,rfl,rfl,e1,by rw[r1.length];exact hz,finW N K ha e1 (r1.append (RVs.one qw)) rfl⟩
     ·exact Zf K
    | _=>exact Zf K
  | [],K=>exact Zf K
  | _::_::_,K=>exact Zf K
 | _=>cases xs<;>exact Zf K
noncomputable def setI:IV->IV->IV->ISt->IH->SRes
 | .ref i,.int k,v,σ,h=>match h[i]? with
  | some (.lst xs)=>(match ixN xs.length k with
   | some j=>.next σ (h.set i (.lst (xs.set j v)))
   | none=>.stuck)
  | _=>.stuck
 | _,_,_,_,_=>.stuck
noncomputable def gSb (o i:E1):G1:=λ v σ h=>rS σ (o σ h) λ ov h1=>rS σ (i σ h1) λ iv h2=>setI ov iv v σ h2
end
section
variable {ce:Str->Option Addr}{X:Cx}
noncomputable def keyI:IV->Option Key
 | .int i=>some (.inl i)
 | .str x=>some (.inr x)
 | _=>none
theorem Jxg {K:W.Frag}{ι:List Addr}{H:Hp}{x:IV}{v:V}{k:Key}(e:keyI x=some k) (r:RV K ι H x v):v=kV k:=by
 cases x with
 | int i=>cases e;exact r
 | str y=>cases e;exact r
 | _=>cases e
noncomputable def maxI:IV->IV->IH->Res IV
 | .int i,.int j,h=>.ok (.int (if j>i then j else i)) h
 | _,_,_=>.stuck
noncomputable def minI:IV->IV->IH->Res IV
 | .int i,.int j,h=>.ok (.int (if j<i then j else i)) h
 | _,_,_=>.stuck
theorem c_max (hc:X.calm=true):Jjy ce X (.builtin "max") (on2 maxI):=by
 intro pins s σ H ι σi h xs us Q E N r K
 obtain⟨vs,rv,q⟩:=r
 match xs,K with
 | [x,y],K =>
  obtain⟨v,w,rfl,qx,qy⟩:=q.two_of
  cases x with
  | int i =>
   cases y with
   | int j =>
    cases (show v=.int i from qx)
    cases (show w=.int j from qy)
    exact Jar (Js8 (X:=X.wish E) hc) N.inv rv ⟨i,j,rfl,fin0 N K rfl⟩
   | _=>exact Zf K
  | _=>cases y<;>exact Zf K
 | [],K=>exact Zf K
 | [_],K=>exact Zf K
 | _::_::_::_,K=>exact Zf K
noncomputable def Jls:List IV->Option (List Str)
 | []=>some []
 | .str x::r=>(Jls r).map (x:: ·)
 | _=>none
theorem Ju8 {K:W.Frag}{ι:List Addr}{H:Hp}:∀{xs:List IV}{zs:List Str}{vs:List V}{us:List Value},Jls xs=some zs->RVs K ι H xs vs->Vals vs us->∃l:List (Str×Tok),us=strValues l/\l.map (·.1)=zs
 | [],zs,vs,us,e,q,r=>by
  cases e
  have e1:vs=[]:=q
  subst e1
  cases r
  exact⟨[],rfl,rfl⟩
 | x::xs,zs,vs,us,e,q,r=>by
  obtain⟨v,vr,e1,q1,q2⟩:=q
  subst e1
  cases r with
  | cons r1 r2 =>
   cases x with
   | str y =>
    obtain⟨z2,e2,rfl⟩:=Option.map_eq_some_iff.mp (show(Jls xs).map (y:: ·)=some zs from e)
    cases (show v=.str y from q1)
    obtain⟨t,rfl⟩:=r1
    obtain⟨l,rfl,hl⟩:=Ju8 e2 q2 r2
    exact⟨(y,t)::l,rfl,by rw[List.map_cons,hl]⟩
   | _=>cases e
end
noncomputable def Jdh:List IV->Option (List Int)
 | []=>some []
 | .int i::r=>(Jdh r).map (i:: ·)
 | _=>none
theorem Jla {K:W.Frag}{ι:List Addr}{H:Hp}:∀{xs:List IV}{ns:List Int}{vs:List V}{us:List Value},Jdh xs=some ns->RVs K ι H xs vs->Vals vs us->IntsAre us ns
 | [],ns,vs,us,e,q,r=>by
  cases e
  have e1:vs=[]:=q
  subst e1
  cases r
  exact .nil
 | x::xs,ns,vs,us,e,q,r=>by
  obtain⟨v,vr,e1,q1,q2⟩:=q
  subst e1
  cases r with
  | cons r1 r2 =>
   cases x with
   | int i =>
    obtain⟨n2,e2,rfl⟩:=Option.map_eq_some_iff.mp (show(Jdh xs).map (i:: ·)=some ns from e)
    cases (show v=.int i from q1)
    obtain⟨t,rfl⟩:=r1
    exact .cons i t (Jla e2 q2 r2)
   | _=>cases e
theorem Jjc:∀{us:List Value}{ns:List Int},IntsAre us ns->us.length=ns.length
 | _,_,.nil=>rfl
 | _,_,.cons _ _ r=>by simp[Jjc r]
section
variable {ce:Str->Option Addr}{X:Cx}
noncomputable def sumI:IV->IH->Res IV
 | .ref i,h=>match h[i]? with
  | some (.lst xs)=>(match Jdh xs with
   | some ns=>.ok (.int ns.sum) h
   | none=>.stuck)
  | _=>.stuck
 | _,_=>.stuck
theorem c_sum (hh:X.A.handled=none):Jjy ce X (.builtin "sum") (on1 sumI):=Jq4 λ pins s σ H ι σi h x xv u Q E N ru qx K=>by
 cases x with
 | ref i =>
  obtain⟨a,e1,ha⟩:=qx
  subst e1
  cases ru
  dsimp only[sumI] at K
  cases hi:h[i]? with
  | none=>rw[hi] at K;exact Zf K
  | some ob =>
   rw[hi] at K
   cases ob with
   | lst xs =>
    dsimp only at K
    cases hb:Jdh xs with
    | none=>rw[hb] at K;exact Zf K
    | some ns =>
     rw[hb] at K
     obtain⟨vs,e1,r1⟩:=N.at hi ha
     obtain⟨its,rv,pl,hz⟩:=N.inv.list (SqL.of e1)
     have are:=Jla hb r1 rv
     obtain⟨ys,hy⟩:=are.allInts.items
     have pl':s.heap.IsList a (intItems ys):=hy▸pl.isList
     refine sum_intListG hh pl' λ h2 tk t2 kk=>?_
     have en:ns=ys.toList.map (·.1):=by
      have q1:=are.numsOf
      have q2:=congrArg (λ z:Array Value=>numsOf z.toList) hy
      simp only at q2
      rw[<- q1]
      exact q2.trans (nums_intItems ys)
     have es:preSum (numAt ys) ys.size=ns.sum:=by
      rw[preSum_eq,en,List.take_of_length_le (by simp)]
     rw[es]
     exact fin0 N K rfl _ _ (N.inv.kept (t':=tk) kk) ⟨_,rfl⟩
   | _=>exact Zf K
 | _=>exact Zf K
end
noncomputable def Jdc (f:Nat->Int):Nat->Int
 | 0=>0
 | 1=>f 0
 | j+2=>if f (j+1)>Jdc f (j+1) then f (j+1) else Jdc f (j+1)
theorem Jhe (f:Nat->Int){j:Nat}(hj:0<j):Jdc f (j+1)=if f j>Jdc f j then f j else Jdc f j:=by
 cases j with
 | zero=>omega
 | succ j=>rfl
section
variable {pr:Program}{wd:World}{B:Around}{R:Result->Shared->Prop}{it:Addr}{fps wrs:List Addr}{n:Nat}{P:Nat->Value->Prop}{St:Nat->Heap->Prop}
noncomputable abbrev J4o (v:Value) (c:Nat):Obj:={ cls:=.type "list",dict:=none,data:=.seq #[v,v] c,slots:=#[] }
theorem Jld:(toString "max"++toString ".loop":String)="max.loop":=by decide
theorem J05 {kw:List (Str×Value)}(W:Walks pr wd B.in1 it fps wrs n P St) (f:Nat->Int) (hf:∀i v,P i v->∃t,v=.int (f i) t) (C:Addr) (hC:C∉fps) :
  ∀(r j:Nat) (z:Shared) (v:Value) (u:Tok) (c:Nat),n-j=r->0<j->j<=n->St j z.heap->v=.int (Jdc f j) u->z.heap.get? C=some (J4o v c) ->
   (∀u h2 tk,(∀a o,a∉wrs->a≠C->z.heap.get? a=some o->h2.get? a=some o)->R (.ok (.ret (.int (Jdc f n) u))) { z with heap:=h2,toks:=tk }) ->
   codeAny (model pr wd) B (.builtin "max.loop" ⟨[.ref it,.none,.ref C],kw⟩) R z:=by
 have hw:C∉wrs:=λ q=>hC (W.sub _ q)
 intro r
 induction r with
 | zero =>
  intro j z v u c hr h0 hj st ev gC fin
  obtain rfl:j=n:=by omega
  subst ev
  refine codeAny_builtin PySem.F.entry_max_loop ?_
  rw[Around.under_plainId PySem.F.plain_max_loop _]
  show wpAny _ B.in1 (seqItems? (.ref C)>>=_) _ _ z
  refine wpAny_bind (wpAny_seqItems gC rfl ?_)
  show wpAny _ B.in1 (tryCatch (pyNext (.ref it)) _>>=_) _ _ z
  refine wpAny_bind (wpAny_tryCatch (W.done z _ _ st λ h2 tk keep=>?_))
  have gC2:=keep C _ hw gC
  show wpAny _ B.in1 (updateSeq C (λ _=>#[])>>=_) _ _ _
  refine wpAny_bind ?_
  refine wpAny_updateSeq gC2 rfl (wpAny_bind (wpAny_letGo (wpAny_pure ?_)))
  exact fin u _ tk λ a o ha hb e=>(Heap.get?_update_other _ _ (Ne.symm hb)).trans (keep a o ha e)
 | succ r ih =>
  intro j z v u c hr h0 hj st ev gC fin
  have lt:j<n:=by omega
  subst ev
  refine codeAny_builtin PySem.F.entry_max_loop ?_
  rw[Around.under_plainId PySem.F.plain_max_loop _]
  show wpAny _ B.in1 (seqItems? (.ref C)>>=_) _ _ z
  refine wpAny_bind (wpAny_seqItems gC rfl ?_)
  show wpAny _ B.in1 (tryCatch (pyNext (.ref it)) _>>=_) _ _ z
  refine wpAny_bind (wpAny_tryCatch (W.item j z _ _ lt st λ y h2 tk hP st2 keep=>?_))
  obtain⟨t,rfl⟩:=hf j y hP
  have gC2:=keep C _ hw gC
  have cmp:=CmpOf.ints_gt (prog:=pr) (w:=wd) (A:=B.in1) (P:=λ i v=>∃t,v=.int (if i=0 then f j else Jdc f j) t) (λ i=>if i=0 then f j else Jdc f j) (λ _ _ q=>q)
  show wpAny _ B.in1 (tryCatch (holding [Value.int (f j) t,Value.int (f j) t] (richCompare .Gt (.int (f j) t) (.int (Jdc f j) u)>>=_)) _>>=_) _ _ _
  refine wpAny_bind (wpAny_tryCatch (wpAny_holding (wpAny_bind (cmp 0 1 _ _ _ _ _ ⟨t,by simp⟩ ⟨u,by simp⟩ ?_))))
  refine wpAny_bind (wpAny_holding (wpAny_truthy_bool ?_))
  refine wpAny_bind (wpAny_letGo (wpAny_pure ?_))
  have step:=Jhe f h0
  by_cases hb:f j>Jdc f j
  ·rw[if_pos hb] at step
   simp only[if_true,show ¬(1:Nat)=0 by decide,if_false,decide_eq_true hb]
   refine wpAny_bind ?_
   refine wpAny_updateSeq gC2 rfl (wpAny_bind (wpAny_letGo ?_))
   rw[Jld]
   refine wpAny_pure ⟨plainId_quiet PySem.F.plain_max_loop _,ih (j+1) _ (.int (f j) t) t _ (by omega) (by omega) lt (W.frame _ _ _ st2 λ a ha o e=>?_) (by rw[step]) (Heap.get?_update_self _ gC2 rfl) λ u2 h3 tk3 k3=>?_⟩
   ·exact(Heap.get?_update_other _ _ (λ q:C=a=>hC (by rw[q];exact ha))).trans e
   ·exact fin u2 h3 tk3 λ a o ha hc e=>k3 a o ha hc ((Heap.get?_update_other _ _ (Ne.symm hc)).trans (keep a o ha e))
  ·rw[if_neg hb] at step
   simp only[if_true,show ¬(1:Nat)=0 by decide,if_false,decide_eq_false hb,Bool.false_eq_true]
   refine wpAny_bind (wpAny_letGo ?_)
   rw[Jld]
   refine wpAny_pure ⟨plainId_quiet PySem.F.plain_max_loop _,ih (j+1) _ (.int (Jdc f j) u) u c (by omega) (by omega) lt st2 (by rw[step]) gC2 λ u2 h3 tk3 k3=>?_⟩
   exact fin u2 h3 tk3 λ a o ha hc e=>k3 a o ha hc (keep a o ha e)
end
theorem Jst (a v:Value):argsOk "max" ⟨[a],[(Str.ofString "default",v)]⟩:=by unfold argsOk;kernel_rfl
section
variable {pr:Program}{wd:World}{B:Around}{E:Value->Shared->Prop}{z:Shared}{l:Addr}{us:List Value}{ns:List Int}{d:Option Value}{Q:Value->Shared->Prop}{kw:List (Str×Value)}
noncomputable def MaxIs (ns:List Int) (d:Option Value) (v:Value):Prop:=(ns=[]/\d=some v)∨(ns≠[]/\∃u,v=.int (Jdc (λ i=>ns.getD i 0) ns.length) u)
theorem J04 (hk:Builtin.Builtins.bindParams "max" ["key","default"] 0 ⟨[],kw⟩=pure [none,d]) (ha:argsOk "max" ⟨[.ref l],kw⟩) (hn:ns=[]->∃v,d=some v) (hh:B.handled=none) (hl:z.heap.IsList l us.toArray) (hi:IntsAre us ns)
  (hQ:∀v h2 tk,MaxIs ns d v->(∀b o,z.heap.get? b=some o->h2.get? b=some o)->Q v { z with heap:=h2,toks:=tk }) :
  wpAny (model pr wd) B (call (.builtin "max") [.ref l] kw) Q E z:=by
 obtain⟨ol,hol,_⟩:=id hl
 have lt:l<z.heap.objs.size:=Heap.lt_size hol
 have ll:=Jjc hi
 refine kmk_tree PySem.F.kind_max PySem.F.plain_max PySem.F.entry_max ha ?_
 show wpAny _ B.in1 (Builtin.Builtins.bindParams "max" ["key","default"] 0 ⟨[],kw⟩>>=_) _ _ z
 refine wpAny_bind (wpAny_of_eq hk ?_)
 refine wpAny_bind (wpAny_pure ?_)
 refine wpAny_bind (wpAny_pyIter_list hl ?_)
 refine wpAny_bind (wpAny_newList ?_ (Nat.zero_le _))
 rw[Jld]
 have ne:l≠z.heap.objs.size:=Nat.ne_of_lt lt
 have W:=Walks.list (prog:=pr) (w:=wd) (A:=B.in1) hh z.heap.objs.size l ne us.toArray
 have sz:us.toArray.size=us.length:=List.size_toArray ..
 have hS:(z.heap.push { cls:=.type "list_iterator",data:=.fields #[.ref l,.int 0 0] }).objs.size=z.heap.objs.size+1:=size_push' ..
 have hC:(z.heap.push { cls:=.type "list_iterator",data:=.fields #[.ref l,.int 0 0] }).objs.size∉[z.heap.objs.size,l]:=by
  rw[hS]
  simp only[List.mem_cons,List.not_mem_nil,or_false,not_or]
  exact⟨Nat.ne_of_gt (Nat.lt_succ_self _),Nat.ne_of_gt (Nat.lt_succ_of_lt lt)⟩
 have hw:(z.heap.push { cls:=.type "list_iterator",data:=.fields #[.ref l,.int 0 0] }).objs.size∉[z.heap.objs.size]:=by
  rw[hS]
  simp only[List.mem_cons,List.not_mem_nil,or_false]
  exact Nat.ne_of_gt (Nat.lt_succ_self _)
 have old:∀b o,z.heap.get? b=some o->((z.heap.push { cls:=.type "list_iterator",data:=.fields #[.ref l,.int 0 0] }).push (seqObj "list" #[] 0)).get? b=some o:=λ b o e=>Heap.get?_push_of_some _ (Heap.get?_push_of_some _ e)
 have gI:((z.heap.push { cls:=.type "list_iterator",data:=.fields #[.ref l,.int 0 0] }).push (seqObj "list" #[] 0)).get? z.heap.objs.size=some { cls:=.type "list_iterator",data:=.fields #[.ref l,.int 0 0] }:=Heap.get?_push_of_some _ (Heap.get?_push_size _ rfl)
 have gC:((z.heap.push { cls:=.type "list_iterator",data:=.fields #[.ref l,.int 0 0] }).push (seqObj "list" #[] 0)).get? (z.heap.push { cls:=.type "list_iterator",data:=.fields #[.ref l,.int 0 0] }).objs.size=some (seqObj "list" #[] 0):=Heap.get?_push_size _ rfl
 have notin:∀b o,z.heap.get? b=some o->b∉[z.heap.objs.size]:=λ b o e q=>Nat.ne_of_lt (Heap.lt_size e) (List.mem_singleton.mp q)
 have notC:∀b o,z.heap.get? b=some o->b≠(z.heap.push { cls:=.type "list_iterator",data:=.fields #[.ref l,.int 0 0] }).objs.size:=λ b o e=>by rw[hS];exact Nat.ne_of_lt (Nat.lt_succ_of_lt (Heap.lt_size e))
 refine wpAny_pure ⟨plainId_quiet PySem.F.plain_max_loop _,codeAny_builtin PySem.F.entry_max_loop ?_⟩
 rw[Around.under_plainId PySem.F.plain_max_loop _]
 show wpAny _ B.in1 (seqItems? (.ref _)>>=_) _ _ _
 refine wpAny_bind (wpAny_seqItems gC rfl ?_)
 show wpAny _ B.in1 (tryCatch (pyNext (.ref z.heap.objs.size)) _>>=_) _ _ _
 by_cases h0:us.length=0
 ·refine wpAny_bind (wpAny_tryCatch (W.done _ _ _ (by rw[sz,h0];exact⟨⟨_,gI,rfl,rfl⟩,(hl.push _).push _⟩) λ h2 tk keep=>?_))
  obtain⟨v,rfl⟩:=hn (List.eq_nil_of_length_eq_zero (by omega))
  show wpAny _ B.in1 (rule _>>=_) _ _ _
  refine wpAny_bind (wpAny_rule (wpAny_pure ?_))
  refine hQ v h2 tk (.inl ⟨List.eq_nil_of_length_eq_zero (by omega),rfl⟩) λ b o e=>keep b o (notin b o e) (old b o e)
 ·refine wpAny_bind (wpAny_tryCatch (W.item 0 _ _ _ (by rw[sz];omega) ⟨⟨_,gI,rfl,rfl⟩,(hl.push _).push _⟩ λ y h2 tk hP st2 keep=>?_))
  have gC2:=keep _ _ hw gC
  show wpAny _ B.in1 (updateSeq (z.heap.push { cls:=.type "list_iterator",data:=.fields #[.ref l,.int 0 0] }).objs.size (λ _=>#[y,y])>>=_) _ _ _
  refine wpAny_bind ?_
  refine wpAny_updateSeq gC2 rfl ?_
  rw[Jld]
  have hf:∀(i:Nat) (v:Value),us.toArray[i]?=some v->∃t,v=.int ((λ i=>ns.getD i 0) i) t:=λ i v q=>IntsAre.int_at hi i v (by simpa using q)
  obtain⟨t,rfl⟩:=hf 0 y hP
  refine wpAny_pure ⟨plainId_quiet PySem.F.plain_max_loop _,J05 W (λ i=>ns.getD i 0) hf _ hC _ 1 _ _ t _ rfl (by decide) (by rw[sz];omega) (W.frame _ _ _ st2 λ a ha o e=>?_) rfl (Heap.get?_update_self _ gC2 rfl) λ u h3 tk3 k3=>?_⟩
  ·exact(Heap.get?_update_other _ _ (λ q=>hC (by rw[q];exact ha))).trans e
  ·rw[sz,ll]
   refine hQ _ h3 tk3 (.inr ⟨λ q=>h0 (by rw[ll,q];rfl),u,rfl⟩) λ b o e=>k3 b o (notin b o e) (notC b o e) ((Heap.get?_update_other _ _ (Ne.symm (notC b o e))).trans (keep b o (notin b o e) (old b o e)))
end
section
variable {ce:Str->Option Addr}{X:Cx}
noncomputable def maxD (ns:List Int) (d:IV):IV:=if ns=[] then d else .int (Jdc (λ i=>ns.getD i 0) ns.length)
noncomputable def Jmm (aa:A1) (md:E1):E1:=λ σ h=>(aa σ h).bind λ xs h1=>(md σ h1).bind λ d h2=>match xs with
 | [.ref i]=>(match h2[i]? with
  | some (.lst ys)=>(match Jdh ys with
   | some ns=>.ok (maxD ns d) h2
   | none=>.stuck)
  | _=>.stuck)
 | _=>.stuck
theorem J3m {a de:Expr}{aa:A1}{md:E1}{p pos kp:Pos}(hh:X.A.handled=none) (hg:Gl X "max") (hm:X.mg "max"=none) (ha:PAi ce X [a] aa) (hd:PEi ce X de md) (hs:starEach [a] X.env=[(false,eval a X.env)]) :
  PEi ce X (.Call (.Name "max" p) [a] [⟨some "default",de,kp⟩] pos) (Jmm aa md):=λ pins s σ H ι σi h Q E N K=>by
 refine wpAny_Call_Name_kw (Jed N.inv hg hm rfl ?_)
 refine callWith_kw ?_ (by rw[hs];rfl) (by rw[hs];rfl) rfl rfl
 refine(ha pos).run N K λ xs h1 us s1 H1 ι1 N1 n1 r1 K1=>?_
 refine PyProof.Rows.evalAll_cons (wpAny_bind (PX.run hd N1 K1 λ d h2 du s2 H2 ι2 N2 n2 r2 K2=>wpAny_bind (wpAny_standAt (wpAny_pure (PyProof.Rows.evalAll_nil ?_)))))
 obtain⟨vs,rv,qs⟩:=r1.mono n2
 match xs,K2 with
 | [.ref i],K2 =>
  obtain⟨w,rfl,ad,rfl,hav⟩:=qs.one_of
  obtain⟨u,rfl,ru⟩:=Jn9 rv
  cases ru
  dsimp only at K2
  cases hi:h2[i]? with
  | none=>rw[hi] at K2;exact Zf K2
  | some ob =>
   rw[hi] at K2
   cases ob with
   | lst ys =>
    dsimp only at K2
    cases hb:Jdh ys with
    | none=>rw[hb] at K2;exact Zf K2
    | some ns =>
     rw[hb] at K2
     dsimp only at K2
     obtain⟨ws,e1,r3⟩:=N2.at hi hav
     obtain⟨its,rv2,pl,_⟩:=N2.inv.list (SqL.of e1)
     refine J04 (d:=some du) rfl (Jst _ _) (λ _=>⟨_,rfl⟩) hh pl.isList (Jla hb r3 rv2) λ v h3 tk mi kk=>?_
     have N3:Now ce X pins ι2 σi h2 σ H2 { s2 with heap:=h3,toks:=tk }:=⟨N2.inv.kept (t':=tk) kk,N2.rel,N2.st⟩
     rcases mi with⟨e,ev⟩|⟨e,t,rfl⟩
     ·cases ev
      have em:maxD ns d=d:=if_pos e
      rw[em] at K2
      exact K2 _ _ _ _ N3 .refl r2
     ·have em:maxD ns d=.int (Jdc (λ i=>ns.getD i 0) ns.length):=if_neg e
      rw[em] at K2
      exact K2 _ _ _ _ N3 .refl ⟨.int _,⟨t,rfl⟩,rfl⟩
   | _=>exact Zf K2
 | [],K2=>exact Zf K2
 | [.non],K2=>exact Zf K2
 | [.bl _],K2=>exact Zf K2
 | [.int _],K2=>exact Zf K2
 | [.str _],K2=>exact Zf K2
 | [.tup _],K2=>exact Zf K2
 | [.rol _],K2=>exact Zf K2
 | x::_::_,K2=>cases x<;>exact Zf K2
end
noncomputable def metB (f:Nat->Str) (i:Nat) (k:Str):Bool:=(List.range i).any λ j=>decide (k=f j)
noncomputable def cntD (f:Nat->Str):Nat->Nat
 | 0=>0
 | i+1=>if metB f i (f i) then cntD f i else cntD f i+1
theorem Jul (f:Nat->Str) (i:Nat) (k:Str):metB f (i+1) k=(metB f i k||decide (k=f i)):=by simp[metB,List.range_succ]
theorem Joq (f:Nat->Str):∀i,cntD f i<=i
 | 0=>Nat.le_refl _
 | i+1=>by
  have:=Joq f i
  unfold cntD
  split<;>omega
section
variable {pr:Program}{wd:World}{B:Around}{R:Result->Shared->Prop}{it:Addr}{fps wrs:List Addr}{G:Array GenState->Array GenState->Prop}{n:Nat}{P:Nat->Value->Prop}{St:Nat->Shared->Prop}
noncomputable abbrev Jky (pr:Program) (wd:World) (hp:Heap) (a:Addr) (f:Nat->Str) (i:Nat):Prop:=hp.SetOf (PySem.strKind pr wd) a (λ k=>metB f i k) (cntD f i)
theorem Jky.moved {hp h2:Heap}{a:Addr}{f:Nat->Str}{i:Nat}(q:Jky pr wd hp a f i) (m:∀o,hp.get? a=some o->h2.get? a=some o):Jky pr wd h2 a f i:=by
 obtain⟨o,es,ep,t,ho,rest⟩:=q
 exact⟨o,es,ep,t,m o ho,rest⟩
theorem Jx7 (W:WalksS pr wd B.in1 it fps wrs G n P St) (C:Addr) (hC:C∉fps) (f:Nat->Str) (hf:∀i v,P i v->∃t,v=.str (f i) t) (room:n+1<scanBound) :
  ∀(r i:Nat) (z:Shared),n-i=r->i<=n->St i z->Jky pr wd z.heap C f i->(∀z2,Moved (C::wrs) G z z2->Jky pr wd z2.heap C f n->R (.ok (.ret .none)) z2) ->
   codeAny (model pr wd) B (.builtin "set.update.loop" ⟨[.ref C,.ref it],[]⟩) R z:=by
 have nw:C∉wrs:=λ q=>hC (W.sub _ q)
 have more:∀b∈wrs,b∈C::wrs:=λ b q=>List.mem_cons_of_mem _ q
 intro r
 induction r with
 | zero =>
  intro i z hr hi st hS fin
  obtain rfl:i=n:=by omega
  refine codeAny_builtin PyProof.Rows.F.entry_set_update_loop ?_
  rw[Around.under_plainId PyProof.Rows.F.plain_set_update_loop _]
  show wpAny _ B.in1 (pyNext (.ref it)>>=_) _ _ z
  refine wpAny_bind (W.done z _ _ st λ z2 mv=>?_)
  show wpAny _ B.in1 (ret Value.none) _ _ z2
  exact wpAny_pure (fin z2 (mv.mono more) (hS.moved λ o e=>mv.heap C _ nw e))
 | succ r ih =>
  intro i z hr hi st hS fin
  have lt:i<n:=by omega
  refine codeAny_builtin PyProof.Rows.F.entry_set_update_loop ?_
  rw[Around.under_plainId PyProof.Rows.F.plain_set_update_loop _]
  show wpAny _ B.in1 (pyNext (.ref it)>>=_) _ _ z
  refine wpAny_bind (W.item i z _ _ lt st λ v z2 hP st2 mv=>?_)
  obtain⟨t,rfl⟩:=hf i v hP
  have hS2:Jky pr wd z2.heap C f i:=hS.moved λ o e=>mv.heap C _ nw e
  have ki:(PySem.strKind pr wd).is (f i) (.str (f i) t)=true:=strKind_is _ _ _ _
  show wpAny _ B.in1 (holding [Value.str (f i) t] (setAdd C (.str (f i) t))>>=_) _ _ z2
  refine wpAny_bind (wpAny_holding ?_)
  unfold setAdd
  refine wpAny_holding ?_
  refine wpAny_bind ((PySem.strKind pr wd).pyHash (k:=f i) ki ?_)
  have rm:cntD f i+1<scanBound:=by have:=Joq f i;omega
  refine wpAny_setAddHashed_of (knd:=PySem.strKind pr wd) (s:={ z2 with toks:=z2.toks+1 }) ki rfl hS2 rm λ h3 sb hS3=>?_
  have hS4:Jky pr wd h3 C f (i+1):=SetOf_congr hS3 (λ k=>(Jul f i k).symm) (by show _=cntD f (i+1);rfl)
  refine wpAny_pure ⟨plainId_quiet PyProof.Rows.F.plain_set_update_loop _,ih (i+1) _ (by omega) lt (W.frame _ z2 _ _ st2 (Nat.le_succ _) λ b q o e=>?_) hS4 λ z5 m5 hS5=>?_⟩
  ·rw[sb.2 b (λ e2:b=C=>hC (by rw[<- e2];exact q))];exact e
  ·refine fin z5 (Moved.trans W.gtrans ((mv.mono more).then_heap (Nat.le_succ _) λ b o q e=>?_) m5) hS5
   rw[sb.2 b (λ e2:b=C=>q (by rw[e2];exact List.mem_cons_self))];exact e
end
section
variable {pr:Program}{wd:World}{B:Around}{E:Value->Shared->Prop}{z:Shared}{l:Addr}{us:List Value}{zs:List Str}{Q:Value->Shared->Prop}
noncomputable abbrev Jz (led:Bool):Obj:={ cls:=.type "set",dict:=none,data:=.set #[] 0 (.fresh 0 0 led) }
noncomputable abbrev Jdf (zs:List Str):Nat->Str:=λ i=>zs.getD i Str.empty
set_option maxRecDepth 100000 in
theorem Jx6 {l2:List (Str×Tok)}(hh:B.handled=none) (hl:z.heap.IsList l us.toArray) (eu:us=strValues l2) (ez:l2.map (·.1)=zs) (room:zs.length+1<scanBound)
  (fin:∀(h2:Heap) (tk:Nat),Jky pr wd h2 z.heap.objs.size (Jdf zs) zs.length->(∀b o,z.heap.get? b=some o->h2.get? b=some o)->Q (.ref z.heap.objs.size) { z with heap:=h2,toks:=tk }) :
  wpAny (model pr wd) B (call (.type "set") [.ref l]) Q E z:=by
 have len:us.toArray.size=zs.length:=by rw[eu,<-ez];simp[strValues]
 have vals:∀(i:Nat) (v:Value),us.toArray[i]?=some v->∃t,v=.str (Jdf zs i) t:=λ i v q=>by
  rw[eu] at q
  simp only[strValues,List.getElem?_toArray,List.getElem?_map] at q
  obtain⟨p,hp,rfl⟩:=Option.map_eq_some_iff.mp q
  refine⟨p.2,?_⟩
  rw[<- ez]
  simp[Jdf,List.getD_eq_getElem?_getD,List.getElem?_map,hp]
 obtain⟨c,tl,hmro⟩:=PySem.F.called_set.mro
 have hmade:=PySem.F.called_set.made
 have hsub:=PySem.F.called_set.sub
 refine wpAny_call (codeAny_of_tree ?_)
 show wpAny _ _ (callAny (.type "set") _) _ _ _
 refine wpAny_pure ⟨Code.quiet_builtin _ (by decide +kernel),codeAny_builtin PySem.F.entry_type_call ?_⟩
 rw[Around.under_plain (weight_type_call_type "set" [.ref l] []) rfl]
 have no1:=PySem.F.called_set.notType
 have no2:=PySem.F.called_set.canCreate
 have ok1:=PySem.F.typeCall_set_1 (.ref l)
 repeat (any_goals (first|assumption|wp_step))
 refine codeAny_mono (code_set_new_1 (.ref l) (E:=E) (Q₁:=λ obj z1=>∃led:Bool,obj=.ref z.heap.objs.size/\z1={ z with heap:=z.heap.push (Jz led) }) λ led=>⟨led,rfl,rfl⟩) λ res z1 hr=>?_
 cases res with
 | error e=>exact hr
 | ok fl =>
  cases fl with
  | ret obj =>
   obtain⟨led,rfl,rfl⟩:=hr
   have gS:(z.heap.push (Jz led)).get? z.heap.objs.size=some (Jz led):=Heap.get?_push_size _ rfl
   have tS:Shared.TypeIs { z with heap:=z.heap.push (Jz led) } (.ref z.heap.objs.size) "set":=⟨_,gS,rfl⟩
   have in1:=PySem.F.called_set.init.lookup
   have in2:=PySem.F.called_set.init.bind (.ref z.heap.objs.size)
   repeat (any_goals (first|assumption|wp_step))
   refine codeAny_mono (codeAny_call_builtin (R:=wants (λ res z2=>res=.none/\∃h2 tk,z2={ z with heap:=h2,toks:=tk }/\Jky pr wd h2 z.heap.objs.size (Jdf zs) zs.length/\(∀b o,z.heap.get? b=some o->h2.get? b=some o)) E)
    PySem.F.called_set.init.plain PySem.F.entry_set_init (check_set_init_1 tS ?_)) λ res2 z2 hr2=>?_
   ·obtain⟨ol,hol,hcl,nl,hdl⟩:=hl
    obtain⟨ocls,odict,odata,oslots⟩:=ol
    simp only at hcl hdl
    subst hcl;subst hdl
    have gl:(z.heap.push (Jz led)).get? l=some { cls:=.type "list",dict:=odict,data:=.seq us.toArray nl,slots:=oslots }:=Heap.get?_push_of_some _ hol
    have sb1:=PySem.F.sub_list_set
    have sb2:=PySem.F.sub_list_frozenset
    have dne:(Value.type "list"==Value.type "dict")=false:=by decide
    have hl1:(z.heap.push (Jz led)).IsList l us.toArray:=⟨_,gl,rfl,nl,rfl⟩
    unfold Builtin.«set.__init__» noKeywords Builtin.Frozenset.updateFrom
    generalize hPI:pyIter=PI
    wp_walk
    subst hPI
    refine wpAny_pyIter_list hl1 ?_
    refine wpAny_bind (wpAny_runValue ?_)
    have lS:l<z.heap.objs.size:=Heap.lt_size hol
    have h3:B.in1.in1.in1.handled=none:=by simp[hh]
    have neI:l≠(z.heap.push (Jz led)).objs.size:=by rw[Heap.size_push];exact Nat.ne_of_lt (Nat.lt_succ_of_lt lS)
    have nC:z.heap.objs.size∉[(z.heap.push (Jz led)).objs.size,l]:=by
     rw[Heap.size_push]
     simp only[List.mem_cons,List.not_mem_nil,or_false,not_or]
     exact⟨Nat.ne_of_lt (Nat.lt_succ_self _),Nat.ne_of_gt lS⟩
    refine Jx7 ((Walks.list h3 _ l neI us.toArray).toS) z.heap.objs.size nC (Jdf zs) vals (by rw[len];exact room) (us.toArray.size-0) 0 _ (by omega) (Nat.zero_le _) ⟨⟨_,Heap.get?_push_size _ rfl,rfl,rfl⟩,(hl1.push _)⟩ ?start ?stop
    case start =>
     have g0:((z.heap.push (Jz led)).push { cls:=.type "list_iterator",data:=.fields #[.ref l,.int 0 0] }).get? z.heap.objs.size=some (Jz led):=Heap.get?_push_of_some _ gS
     exact SetOf_congr ((setObjOf_fresh (knd:=PySem.strKind pr wd) led).setOf g0 (by unfold scanBound;omega)) (λ _=>rfl) rfl
    case stop =>
     intro z5 mv hS5
     obtain⟨h5,g5,d5,tk5,os5⟩:=z5
     have eg:g5=z.gens:=mv.gens
     have ed:d5=z.drawn:=mv.drawn
     have eo:os5=z.os:=mv.os
     subst eg;subst ed;subst eo
     show wpAny _ _ _ _ _ _
     refine wpAny_pure ?_
     show wpAny _ _ (ret Value.none) _ _ _
     rw[len] at hS5
     refine wpAny_pure ⟨rfl,h5,tk5,rfl,hS5,λ b o e=>?_⟩
     have lb:=Heap.lt_size e
     have b1:b≠z.heap.objs.size:=Nat.ne_of_lt lb
     have b2:b≠(z.heap.push (Jz led)).objs.size:=by rw[Heap.size_push];exact Nat.ne_of_lt (Nat.lt_succ_of_lt lb)
     exact mv.heap b o (by simp only[List.mem_cons,List.not_mem_nil,or_false,not_or];exact⟨b1,b2⟩) (Heap.get?_push_of_some _ (Heap.get?_push_of_some _ e))
   ·cases res2 with
    | error e=>exact hr2
    | ok fl2 =>
     cases fl2 with
     | ret rv =>
      obtain⟨rfl,h2,tk,rfl,hS2,keep⟩:=hr2
      repeat (any_goals (first|assumption|wp_step))
      exact fin _ _ hS2 keep
     | _=>exact hr2.elim
  | _=>exact hr.elim
end
section
variable {ce:Str->Option Addr}{X:Cx}
noncomputable def Ji7 (aa:A1):E1:=λ σ h=>(aa σ h).bind λ xs h1=>match xs with
 | [.ref i]=>(match h1[i]? with
  | some (.lst ys)=>(match Jls ys with
   | some zs=>if zs.length+1<scanBound then .ok (.int (cntD (Jdf zs) zs.length)) h1 else .stuck
   | none=>.stuck)
  | _=>.stuck)
 | _=>.stuck
theorem Jw6 {a:Expr}{aa:A1}{p pos p2 pos2:Pos}(hh:X.A.handled=none) (g1:Gl X "len") (m1:X.mg "len"=none) (g2:Gl X "set") (m2:X.mg "set"=none) (ha:PAi ce X [a] aa) (hs:starEach [a] X.env=[(false,eval a X.env)]) :
  PEi ce X (.Call (.Name "len" p) [.Call (.Name "set" p2) [a] [] pos2] [] pos) (Ji7 aa):=λ pins s σ H ι σi h Q E N K=>by
 refine wpAny_Call_Name_kw (Jed N.inv g1 m1 rfl ?_)
 refine PyProof.Rows.callWith_builtin1 ?_ rfl rfl
 refine PyProof.Rows.spliced_more ?_
 refine wpAny_Call_Name_kw (Jed N.inv g2 m2 rfl ?_)
 refine PyProof.Rows.callWith_type1 ?_ hs rfl
 refine(ha pos2).run N K λ xs h1 us s1 H1 ι1 N1 n1 r1 K1=>?_
 obtain⟨vs,rv,qs⟩:=r1
 match xs,K1 with
 | [.ref i],K1 =>
  obtain⟨w,rfl,ad,rfl,hav⟩:=qs.one_of
  obtain⟨u,rfl,ru⟩:=Jn9 rv
  cases ru
  dsimp only at K1
  cases hi:h1[i]? with
  | none=>rw[hi] at K1;exact Zf K1
  | some ob =>
   rw[hi] at K1
   cases ob with
   | lst ys =>
    dsimp only at K1
    cases hb:Jls ys with
    | none=>rw[hb] at K1;exact Zf K1
    | some zs =>
     rw[hb] at K1
     dsimp only at K1
     split at K1
     ·rename_i room
      obtain⟨ws,e1,r3⟩:=N1.at hi hav
      obtain⟨its,rv2,pl,_⟩:=N1.inv.list (SqL.of e1)
      obtain⟨l2,eu,ez⟩:=Ju8 hb r3 rv2
      refine Jx6 hh pl.isList eu ez room λ h2 tk hS keep=>PyProof.Rows.spliced_none ?_
      obtain⟨o,es,ep,t,ho,hex,hd,hel,hmem,hbb,hf,hn⟩:=hS
      have fit:(es.size:Int)<2^63:=by
       have:=Joq (Jdf zs) zs.length
       have sb:scanBound<=2^40:=by unfold scanBound;decide
       omega
      refine call_len_set ho hex hd hf fit ?_
      rw[hn]
      exact K1 _ _ _ _ ⟨(N1.inv.kept (t':=_) keep),N1.rel,N1.st⟩ .refl ⟨.int _,⟨_,rfl⟩,rfl⟩
     ·exact Zf K1
   | _=>exact Zf K1
 | [],K1=>exact Zf K1
 | [.non],K1=>exact Zf K1
 | [.bl _],K1=>exact Zf K1
 | [.int _],K1=>exact Zf K1
 | [.str _],K1=>exact Zf K1
 | [.tup _],K1=>exact Zf K1
 | [.rol _],K1=>exact Zf K1
 | x::_::_,K1=>cases x<;>exact Zf K1
end
section
variable {α β:Type}{h h1:IH}{σ:ISt}
noncomputable def SRes.sq (r:SRes) (b:S1):SRes:=match r with
 | .next σ' h'=>b σ' h'
 | r=>r
theorem J0h {n:Nat}{σ:ISt}{h:IH}{c:Str}{fs:List (Str×IV)}(e:h[n]?=some (.exc c fs)):(SRes.exc n σ h).fin=.exc n h:=by simp[SRes.fin,e]
theorem Jwt (v:IV) (σ:ISt):eVar 0 (some v::σ) h=.ok v h:=rfl
theorem J0e (n:Nat) (x:Option IV) (σ:ISt):eVar (n+1) (x::σ) h=eVar n σ h:=rfl
end
noncomputable def MulS (x:Str) (n:Int):Bool:=decide (x.length<=1000/\ -1000<=n/\n<=1000)
theorem MulS.ok {x:Str}{n:Int}(h:MulS x n=true):MulOk x n:=by
 simp only[MulS,decide_eq_true_eq] at h
 obtain⟨h1,h2,h3⟩:=h
 refine⟨?_,λ hn _=>?_,λ hn _=>?_⟩
 ·simp only[Bool.or_eq_false_iff,decide_eq_false_iff_not]
  omega
 ·have e:(1000:Int)<=(2^63-1)/n:=by
   rw[Int.le_ediv_iff_mul_le (by omega)]
   have:(1000:Int)*n<=1000*1000:=Int.mul_le_mul_of_nonneg_left h3 (by decide)
   omega
  omega
 ·have:x.length*n.toNat<=1000*1000:=Nat.mul_le_mul h1 (by omega)
  have hb:1000000<sizeLine:=by decide
  unfold Builtin.Str.tooLong
  simp only[decide_eq_false_iff_not]
  omega
theorem J1e {X:L2.Cx}:OpR X (binaryOp .Mult) (λ x y H Q=>∃i j,x=.str i/\y=.int j/\MulS i j=true/\Q (.str (Txt.mul i j)) H):=by
 intro pins s σ H x y v u Q I rx ry h
 obtain⟨i,j,rfl,rfl,hz,q⟩:=h
 obtain⟨t,rfl⟩:=rx
 obtain⟨t',rfl⟩:=ry
 exact SB.mul (MulS.ok hz) λ t' tk=>⟨.str (Txt.mul i j),H,I.tok _,⟨_,rfl⟩,q⟩
noncomputable def J8 (x y:IV) (h:IH):Res IV:=match x with
 | .str i=>(match y with
  | .int j=>if MulS i j then .ok (.str (Txt.mul i j)) h else .stuck
  | _=>.stuck)
 | x=>Jrv x y h
section
variable {ce:Str->Option Addr}{X:Cx}
theorem J4f:OpI ce X (binaryOp .Mult) J8:=by
 intro pins s σ H ι σi h x y v u Q E N rx ry K
 cases x with
 | str i =>
  obtain⟨xv,rx,qx⟩:=rx
  obtain⟨yv,ry,qy⟩:=ry
  cases y with
  | int j =>
   have e1:xv=.str i:=qx
   have e2:yv=.int j:=qy
   subst e1 e2
   dsimp only[J8] at K
   split at K
   ·rename_i hz
    exact Jax (J1e (X:=X.wish E)) N.inv rx ry ⟨i,j,rfl,rfl,hz,fin0 N K rfl⟩
   ·exact Zf K
  | _=>exact Zf K
 | _=>exact o_mul pins s σ H ι σi h _ y v u Q E N rx ry K
end
noncomputable def valI (kvs:List (Key×IV)) (k:Key):Option IV:=(kvs.find? λ kv=>decide (kv.1=k)).map (·.2)
theorem Jyl {p:Key×IV}{r:List (Key×IV)}{k:Key}(e:p.1=k):valI (p::r) k=some p.2:=by simp[valI,List.find?_cons,e]
theorem Jyk {p:Key×IV}{r:List (Key×IV)}{k:Key}(e:¬p.1=k):valI (p::r) k=valI r k:=by simp[valI,List.find?_cons,e]
theorem RPs.get {K:W.Frag}{ι:List Addr}{H:Hp}(k:Key):∀{xs:List (Key×IV)}{vs:List (Key×V)},RPs K ι H xs vs->(valI xs k=none/\valV vs k=none)∨∃v w,valI xs k=some v/\valV vs k=some w/\RV K ι H v w
 | [],_,h=>by
  have e:_=[]:=h
  subst e
  exact .inl ⟨rfl,rfl⟩
 | x::xs,_,h=>by
  obtain⟨v,r,rfl,q,t⟩:=h
  by_cases e:x.1=k
  ·exact .inr ⟨x.2,v,Jyl e,Jim e,q⟩
  ·rw[Jyk e,Jil e]
   exact RPs.get k t
theorem RPs.snoc {K:W.Frag}{ι:List Addr}{H:Hp}{k:Key}{v:IV}{w:V}(q:RV K ι H v w):∀{xs:List (Key×IV)}{vs:List (Key×V)},RPs K ι H xs vs->RPs K ι H (xs++[(k,v)]) (vs++[(k,w)])
 | [],_,h=>by
  have e:_=[]:=h
  subst e
  exact⟨w,[],rfl,q,rfl⟩
 | x::xs,_,h=>by
  obtain⟨v',r,rfl,q',t⟩:=h
  exact⟨v',r++[(k,w)],rfl,q',RPs.snoc q t⟩
theorem Jlg {vs:List (Key×V)}{k:Key}{w:V}(e:valV vs k=none):putK vs k w=vs++[(k,w)]:=by
 unfold putK
 rw[if_neg]
 rw[Jik,e]
 exact Bool.false_ne_true
section
variable {ce:Str->Option Addr}{X:Cx}
noncomputable def Jwr:E1:=λ _ h=>.ok (.ref h.length) (h++[.dct []])
theorem J3f {pos:Pos}:PEi ce X (.Dict [] [] pos) Jwr:=λ pins s σ H ι σi h Q E N K=>by
 have hn:=N.inv.hok.fresh (Nat.le_refl s.heap.objs.size)
 have I1:=N.inv.laid (a:=s.heap.objs.size) (o:=.dK []) (h':=s.heap.push { cls:=.type "dict",data:=.dict #[] }) (t':=s.toks) (λ _ _ q=>Heap.get?_push_of_some _ q) (Nat.le_refl _) (Jwq s.heap N.inv.big)
 obtain⟨R1,n1⟩:=N.rel.alloc (o:=.dK []) (io:=.dct []) hn ⟨[],Jg,rfl⟩
 have N1:Now ce X pins (ι++[s.heap.objs.size]) σi (h++[.dct []]) σ (upd H s.heap.objs.size (.dK [])) _:=⟨I1,R1,N.st.mono n1⟩
 have h0:(ι++[s.heap.objs.size])[h.length]?=some s.heap.objs.size:=by rw[<- N.rel.len,List.getElem?_append_right (Nat.le_refl _)];simp
 exact wpAny_Dict_empty (K _ _ _ (ι++[s.heap.objs.size]) N1 n1 ⟨.ref _,rfl,_,rfl,h0⟩)
noncomputable def Jej:IV->List IV->IH->Res IV
 | .ref i,[y,v],h=>match h[i]? with
  | some (.dct kvs)=>(match keyI y with
   | some k=>(match valI kvs k with
    | some w=>.ok w h
    | none=>if kvs.length<sizeLine then .ok v (h.set i (.dct (kvs++[(k,v)]))) else .stuck)
   | none=>.stuck)
  | _=>.stuck
 | _,_,_=>.stuck
theorem Jxq:MtI ce X "dict" "dict.setdefault" Jej:=by
 intro pins s σ H ι σi h x xs v us Q E N rx rs K
 obtain⟨xv,rx,qx⟩:=rx
 obtain⟨vs,rv,qs⟩:=rs
 cases x with
 | ref i =>
  match xs,K with
  | [y,y2],K =>
   obtain⟨a,rfl,ha⟩:=qx
   obtain⟨w,w2,rfl,qw,qw2⟩:=qs.two_of
   dsimp only[Jej] at K
   cases hi:h[i]? with
   | none=>rw[hi] at K;exact Zf K
   | some ob =>
    rw[hi] at K
    cases ob with
    | dct kvs =>
     dsimp only at K
     cases ek:keyI y with
     | none=>rw[ek] at K;exact Zf K
     | some k =>
      rw[ek] at K
      dsimp only at K
      obtain⟨ws,e1,r1⟩:=N.at hi ha
      cases Jxg ek qw
      cases rv with
      | @cons _ _ _ _ ru t =>
      cases t with
      | @cons _ u2 _ _ ru2 t =>
      cases t
      cases (show v=.ref a from rx)
      obtain⟨z,hd,ps,rel,dd⟩:=dk_of N.inv.hok e1
      have hz:ps.length<=sizeLine:=by rw[<- rel.length];exact z
      refine call_meetsIn PySem.F.slot_dict_setdefault dd.typeIs PySem.F.entry_dict_setdefault (PySem.F.args_dict_setdefault_3 _ _ _) (kt_meets_setdefault (Jb5 X.prog X.w) a (kV_is ru) hd u2) ⟨ps,dd,hz,λ v' hv=>?_,λ hn h' dd' hs=>?_⟩
      ·rcases r1.get k with⟨p,q⟩|⟨v1,w1,p,q,r⟩
       ·have rr:=rel.val k
        rw[q] at rr
        rw[RelO.none_of rr] at hv
        cases hv
       ·rw[p] at K
        have rr:=rel.val k
        rw[q,hv] at rr
        exact fin0 (w:=w1) N K r _ _ (N.inv.tok _) rr
      ·rcases r1.get k with⟨p,q⟩|⟨v1,w1,p,q,r⟩
       ·rw[p] at K
        dsimp only at K
        split at K
        ·rename_i hl
         have he:∃q,h'.get? a=some q:=let ⟨q,_,_,hq,_⟩:=dd';⟨q,hq⟩
         have hlen:(putK ws k w2).length<=sizeLine:=by rw[Jlg q,List.length_append,r1.length];exact hl
         have I4:=Jz9 (t':=s.toks+1) N.inv (by rw[e1];exact True.intro) hs he (J23 hlen hd (rel.put k ru2) dd')
         have n:Nxt ι H ι (upd H a (.dK (putK ws k w2))):=⟨⟨[],by simp⟩,Ext.upd_mut e1 (by rw[e1];exact True.intro)⟩
         obtain⟨R4,_⟩:=N.rel.write (o:=.dK (putK ws k w2)) (io:=.dct (kvs++[(k,y2)])) ha e1 (by rw[e1];exact True.intro) ⟨_,Jg,(congrArg (λ P=>RPs X.K ι (upd H a (.dK (putK ws k w2))) (kvs++[(k,y2)]) P) (Jlg q)).mpr (RPs.mono n _ _ (r1.snoc qw2))⟩
         exact K _ _ _ ι ⟨I4,R4,N.st.mono n⟩ n ⟨w2,ru2,RV.mono n _ _ qw2⟩
        ·exact Zf K
       ·have rr:=rel.val k
        rw[q,hn] at rr
        exact Zf rr
    | _=>exact Zf K
  | [],K=>exact Zf K
  | [_],K=>exact Zf K
  | _::_::_::_,K=>exact Zf K
 | _=>cases xs<;>exact Zf K
end
noncomputable def putD (kvs:List (Key×IV)) (k:Key) (v:IV):List (Key×IV) :=
 if (kvs.any λ kv=>decide (kv.1=k))=true then kvs.map (λ kv=>if kv.1=k then(kv.1,v) else kv) else kvs++[(k,v)]
theorem RPs.any {K:W.Frag}{ι:List Addr}{H:Hp}(k:Key):∀{xs:List (Key×IV)}{vs:List (Key×V)},RPs K ι H xs vs->(xs.any λ kv=>decide (kv.1=k))=vs.any λ kv=>decide (kv.1=k)
 | [],_,h=>by
  have e:_=[]:=h
  subst e
  rfl
 | x::xs,_,h=>by
  obtain⟨v,r,rfl,q,t⟩:=h
  rw[List.any_cons,List.any_cons,RPs.any k t]
theorem RPs.upd {K:W.Frag}{ι:List Addr}{H:Hp}{k:Key}{v:IV}{w:V}(q:RV K ι H v w):∀{xs:List (Key×IV)}{vs:List (Key×V)},RPs K ι H xs vs->RPs K ι H (xs.map λ kv=>if kv.1=k then(kv.1,v) else kv) (vs.map λ kv=>if kv.1=k then(kv.1,w) else kv)
 | [],_,h=>by
  have e:_=[]:=h
  subst e
  exact rfl
 | x::xs,_,h=>by
  obtain⟨v',r,rfl,q',t⟩:=h
  rw[List.map_cons,List.map_cons]
  by_cases e:x.1=k
  ·rw[if_pos e,if_pos e]
   exact⟨w,_,rfl,q,RPs.upd q t⟩
  ·rw[if_neg e,if_neg e]
   exact⟨v',_,rfl,q',RPs.upd q t⟩
section
variable {ce:Str->Option Addr}{X:Cx}
noncomputable def opIxD (x y:IV) (h:IH):Res IV:=match x with
 | .ref i=>(match h[i]? with
  | some (.dct kvs)=>(match keyI y with
   | some k=>(match valI kvs k with
    | some v=>.ok v h
    | none=>.stuck)
   | none=>.stuck)
  | _=>.stuck)
 | _=>.stuck
noncomputable def cInD (x c:IV) (h:IH):Res IV:=match c with
 | .ref i=>(match h[i]? with
  | some (.dct kvs)=>(match keyI x with
   | some k=>.ok (.bl (valI kvs k).isSome) h
   | none=>.stuck)
  | _=>.stuck)
 | _=>.stuck
noncomputable def setID:IV->IV->IV->ISt->IH->SRes
 | .ref i,iv,v,σ,h=>match h[i]? with
  | some (.dct kvs)=>(match keyI iv with
   | some k=>if kvs.length<sizeLine then .next σ (h.set i (.dct (putD kvs k v))) else .stuck
   | none=>.stuck)
  | _=>.stuck
 | _,_,_,_,_=>.stuck
noncomputable def gSbD (o i:E1):G1:=λ v σ h=>rS σ (o σ h) λ ov h1=>rS σ (i σ h1) λ iv h2=>setID ov iv v σ h2
end
noncomputable def leZ (a b:Int):Bool:=decide (a<=b)
noncomputable def Jn1 (ns:List Int):List Int:=ns.mergeSort leZ
theorem Jyh (ns:List Int):(Jn1 ns).Pairwise (· <= ·):=by
 have:=List.pairwise_mergeSort (le:=leZ) (λ a b c h1 h2=>by simp only[leZ,decide_eq_true_eq] at *;omega) (λ a b=>by simp only[leZ,Bool.or_eq_true,decide_eq_true_eq];omega) ns
 exact this.imp λ h=>by simpa [leZ] using h
theorem Jyg {ns ns':List Int}(p:ns'.Perm ns) (s:ns'.Pairwise (· <= ·)):ns'=Jn1 ns :=
 List.Perm.eq_of_pairwise (le:=(· <= ·)) (λ a b _ _ h1 h2=>Int.le_antisymm h1 h2) s (Jyh ns) (p.trans (List.mergeSort_perm ns leZ).symm)
theorem Jel:∀{us:List Value}{ns:List Int},IntsAre us ns->Vals (ns.map V.int) us
 | _,_,.nil=>.nil
 | _,_,.cons _ _ r=>.cons ⟨_,rfl⟩ (Jel r)
theorem Jqm {K:W.Frag}{ι:List Addr}{H:Hp}:∀ns:List Int,RVs K ι H (ns.map IV.int) (ns.map V.int)
 | []=>rfl
 | _::ns=>⟨_,_,rfl,rfl,Jqm ns⟩
noncomputable def srtI (xs:List IV):Option (List IV):=match Jdh xs with
 | some ns=>some ((Jn1 ns).map .int)
 | none=>none
section
variable {ce:Str->Option Addr}{X:Cx}
noncomputable def sortedI:IV->IH->Res IV
 | .ref i,h=>match h[i]? with
  | some (.lst xs)=>if xs.length<64 then(match srtI xs with
   | some ys=>.ok (.ref h.length) (h++[.lst ys])
   | none=>.stuck) else .stuck
  | _=>.stuck
 | _,_=>.stuck
end
noncomputable def Jz5 (f:Nat->Int):Nat->Int
 | 0=>0
 | 1=>f 0
 | j+2=>if f (j+1)<Jz5 f (j+1) then f (j+1) else Jz5 f (j+1)
section
variable {pr:Program}{wd:World}{B:Around}{R:Result->Shared->Prop}{it:Addr}{fps wrs:List Addr}{n:Nat}{P:Nat->Value->Prop}{St:Nat->Heap->Prop}
end
section
variable {pr:Program}{wd:World}{B:Around}{E:Value->Shared->Prop}{z:Shared}{l:Addr}{us:List Value}{ns:List Int}{Q:Value->Shared->Prop}
end
section
variable {ce:Str->Option Addr}{X:Cx}
noncomputable def minLI:IV->IH->Res IV
 | .ref i,h=>match h[i]? with
  | some (.lst xs)=>(match Jdh xs with
   | some ns=>if ns=[] then .stuck else .ok (.int (Jz5 (λ i=>ns.getD i 0) ns.length)) h
   | none=>.stuck)
  | _=>.stuck
 | _,_=>.stuck
noncomputable def Jg7:IV->List IV->IH->Res IV
 | .ref i,[.ref j],h=>match h[i]? with
  | some (.lst xs)=>(match h[j]? with
   | some (.lst ys)=>if xs.length+ys.length<=sizeLine then .ok .non (h.set i (.lst (xs++ys))) else .stuck
   | _=>.stuck)
  | _=>.stuck
 | _,_,_=>.stuck
theorem Jxp:MtI ce X "list" "list.extend" Jg7:=by
 intro pins s σ H ι σi h x xs v us Q E N rx rs K
 obtain⟨xv,rx,qx⟩:=rx
 obtain⟨vs,rv,qs⟩:=rs
 cases x with
 | ref i =>
  match xs,K with
  | [y],K =>
   cases y with
   | ref j =>
    obtain⟨a,rfl,ha⟩:=qx
    obtain⟨w,rfl,b,rfl,hb⟩:=qs.one_of
    dsimp only[Jg7] at K
    cases hi:h[i]? with
    | none=>rw[hi] at K;exact Zf K
    | some ob =>
     rw[hi] at K
     cases ob with
     | lst zs =>
      dsimp only at K
      cases hj:h[j]? with
      | none=>rw[hj] at K;exact Zf K
      | some oj =>
       rw[hj] at K
       cases oj with
       | lst ys =>
        dsimp only at K
        split at K
        ·rename_i hl
         obtain⟨ws,e1,r1⟩:=N.at hi ha
         obtain⟨ws2,e2,r2⟩:=N.at hj hb
         exact Jzv (Jun (X:=X.wish E)) N.inv rx rv ⟨a,b,ws,ws2,rfl,rfl,e1,e2,by rw[r1.length,r2.length];exact hl,finW (ys:=zs++ys) N K ha e1 (r1.append r2) rfl⟩
        ·exact Zf K
       | _=>exact Zf K
     | _=>exact Zf K
   | _=>exact Zf K
  | [],K=>exact Zf K
  | y::_::_,K=>cases y<;>exact Zf K
 | _=>cases xs with
  | nil=>exact Zf K
  | cons y r=>cases y<;>cases r<;>exact Zf K
end
section
variable {prog:Program}{w:World}{A:Around}{E:Value->Shared->Prop}{s:Shared}
end
open AutoSeq1 (wpAny_loadPart') in
section
variable {prog:Program}{w:World}{A:Around}{E:Value->Shared->Prop}{s:Shared}
end
section
variable {ce:Str->Option Addr}{X:Cx}
end
noncomputable def lamOne (a:Arguments):Option Str:=match a with
 | { posonlyargs:=[],args:=[p],vararg:=none,kwonlyargs:=[],kw_defaults:=[],kwarg:=none,defaults:=[] }=>some p.arg
 | _=>none
noncomputable abbrev lamQ (q:Str):Str:=q++".<locals>."++"<lambda>"
noncomputable def Jwf (mg:Str->Option Value) (base:Heap):Prop :=
 ∃bm ob,mg "__builtins__"=some (.ref bm)/\bm≠builtinsNs/\bm≠mainGlobals/\base.get? bm=some ob/\ob.cls=.type "module"/\ob.dict=some builtinsNs/\ob.data=.plain
theorem Jkx.mono {H H':Hp}{q:Str}{cv:Value}(fz:∀b o u,H b=some (.frz o u)->H' b=some (.frz o u)) (l:Jkx H q cv):Jkx H' q cv:=by
 obtain⟨c,oc,vs,t,e1,e2,r⟩:=l
 exact⟨c,oc,vs,t,e1,fz _ _ _ e2,r⟩
section
variable {ce:Str->Option Addr}{X:Cx}
end
noncomputable abbrev envL (q:Str) (scope:Scope) (L f:Addr) (cd:Value) (cl:List (Str×Addr)):Env:=newEnv scope L mainGlobals cl (lamQ q++".<locals>.") (some f) cd none builtinsNs
noncomputable def cxL (X:Cx) (A:Around) (N':List Str) (q:Str) (scope:Scope) (f:Addr) (cd:Value) (s:Shared) (H:Hp):Cx :=
 { X with A:=A.deeper (envL q scope s.heap.objs.size f cd (clOf X.env.cells scope.names [])),N:=N',s₀:=s,H₀:=H,env:=envL q scope s.heap.objs.size f cd (clOf X.env.cells scope.names []),outer:=X.stack,stack:=envL q scope s.heap.objs.size f cd (clOf X.env.cells scope.names [])::X.stack,ex:=[],calm:=true,fn:=λ _=>false,pn:=[],xe:=λ _ _=>False }
structure LamSc (N0:List Str) (sc₀:List (Str×NameKind)) (x:Str) (caps:List Str) (js:List Nat) (scope:Scope):Prop where
 kind:scope.kind=.function
 co:scope.isCoroutine=false
 gen:scope.isGenerator=false
 nocell:∀y∈scope.names,y.2≠.cell
 par:scope.names.lookup x=some .local
 free:∀y∈scope.names,y.2=.free->sc₀.lookup y.1=some .cell
 fr:∀y,scope.names.lookup y=some .free->(y,.free)∈scope.names
 cap:∀(k j:Nat) (y:Str),js[k]?=some j->caps[k]?=some y->N0[j]?=some y/\scope.names.lookup y=some .free
 len:js.length=caps.length
 nd:(x::caps).Nodup
section
variable {ce:Str->Option Addr}{X:Cx}
end
noncomputable def gtZ:IV->IV->Option Bool
 | .int a,.int b=>some (decide (a>b))
 | _,_=>none
theorem FpOk.more {X:Cx}{pins:List (Addr×Obj)}{H:Hp}{b:Addr}{p:Addr×Obj}(F:FpOk X pins H b) (ne:p.1≠b):FpOk X (pins++[p]) H b:=by
 refine⟨F.1,F.2.1,F.2.2.1,F.2.2.2.1,F.2.2.2.2.1,λ q hq=>?_⟩
 rcases List.mem_append.mp hq with z|z
 ·exact F.2.2.2.2.2 q (List.mem_append_left _ z)
 ·rcases List.mem_append.mp z with z|z
  ·exact F.2.2.2.2.2 q (List.mem_append_right _ z)
  ·rw[List.mem_singleton.mp z]
   exact ne
theorem FpOk.at {X:Cx}{pins:List (Addr×Obj)}{H H':Hp}{b:Addr}(F:FpOk X pins H b) (n:H' b=none):FpOk X pins H' b:=⟨n,F.2⟩
section
variable {ce:Str->Option Addr}{X:Cx}
theorem Now.turned {pins:List (Addr×Obj)}{ι:List Addr}{σi:ISt}{h:IH}{σ:L2.St}{H:Hp}{s:Shared}{it:Addr}{h':Heap}{t':Nat}(N:Now ce X pins ι σi h σ H s) (F:FpOk X pins H it) (k:∀b o,b≠it->s.heap.get? b=some o->h'.get? b=some o) :
  Now ce X pins ι σi h σ H { s with heap:=h',toks:=t' }:=⟨N.inv.turned k F.1 F.2.1 F.2.2.2.1 F.2.2.2.2.1 F.2.2.2.2.2,N.rel,N.st⟩
section
variable {A:Around}{R:Result->Shared->Prop}{Q:Value->Shared->Prop}{E:Value->Shared->Prop}{pins:List (Addr×Obj)}{σi:ISt}{σ:L2.St}{G:Hp->Prop}{fq:Addr}{mk:IV->IH->Res IV}{gt:IV->IV->Option Bool}{i n:Nat}{l I C:Addr}{kw:List (Str×Value)}
end
theorem Kont.more {α β:Type}{R:REL α β}{pins pl:List (Addr×Obj)}{ι:List Addr}{σi:ISt}{σ:L2.St}{H:Hp}{r:Res α}{Q:β->Shared->Prop}{E:Value->Shared->Prop}(K:Kont ce X R pins ι σi σ H r Q E):Kont ce X R (pins++pl) ι σi σ H r Q E:=by
 cases r with
 | ok v h'=>exact λ u s' H' ι' N n q=>K u s' H' ι' N.pins n q
 | exc m h'=>exact λ pl' a s' H' ι' N n q=>K (pl++pl') a s' H' ι' (by rw[<- List.append_assoc];exact N) n q
 | stuck=>exact K
end
noncomputable def bmV:List Value:=[.type "ValueError",.type "Exception",.type "BaseException",.type "object"]
noncomputable def XCls (K:W.Frag) (C:Addr):Prop:=W.excIn K C bmV "ValueError.__new__"=true
theorem XCls.obj {K:W.Frag}{C:Addr}{h:Heap}(x:XCls K C) (I:K.In h):∃bm N nm q bs hdct sn sub ab col dd k0 k1 k2 k3 k5 mN,h.get? C=some (excClassObj nm q C N bs bm hdct sn sub ab col dd k0 k1 k2 k3 k5 "ValueError.__new__")/\h.Ns N mN/\mN "__init__"=none/\OwnTail h bmV bm:=by
 unfold XCls W.excIn at x
 split at x
 case h_2=>cases x
 rename_i dd cd sl ho
 split at x
 case h_2=>cases x
 rename_i D bm k0 k1 k2 k3 n k5 em es
 simp only[Bool.and_eq_true,beq_iff_eq,Bool.not_eq_true'] at x
 obtain⟨⟨⟨⟨⟨e1,e2⟩,e3⟩,e4⟩,e5⟩,e6⟩:=x
 subst e1 e2
 obtain⟨nm,bs,mro,N,qn,hd,sn,sub,ab,col,del⟩:=cd
 have em:mro=.ref D::bm:=em
 have e3:del=false:=e3
 subst em e3
 have es:sl=#[k0,k1,k2,k3,some (.builtin "ValueError.__new__"),k5]:=by
  rw[<- Array.toArray_toList (xs:=sl),es]
 subst es
 exact⟨bm,N,nm,qn,bs,hd,sn,sub,ab,col,dd,k0,k1,k2,k3,k5,_,I _ _ ho,.of_isNs (W.isNs_of_in I e5),W.nsMap_none_of_in I e5 e6,W.tail_of_in I e4⟩
noncomputable def Jh3 (c:Str) (a:A1):S1:=λ σ h=>rS σ (a σ h) λ vs h1=>if vs.length<=sizeLine then .exc h1.length σ (h1++[.exc c []]) else .stuck
section
variable {ce:Str->Option Addr}{X:Cx}{C:Addr}{x c:Str}{np cpos pos:Pos}{e:Expr}{es:List Expr}{ma:A1}
theorem J1o (hc:X.calm=true) (hg:Gl X x) (hm:X.mg x=some (.ref C)) (hC:W.nsIn X.K mainGlobals c=some (some (.ref C))) (xc:XCls X.K C) (ha:PAi ce X (e::es) ma) (hdb:(x==("__debug__":Str))=false:=by decide)
  (he:starEach (e::es) X.env=(false,eval e X.env)::starEach es X.env:=by rfl) (hpl:(backTo cpos (starEach es X.env)).any (·.1)=false:=by rfl):PS1 ce X (.Raise (some (.Call (.Name x np) (e::es) [] cpos)) none pos) (Jh3 c ma):=by
 intro pins s σ H ι σi h Q E N K
 obtain⟨bm,Na,nm,q,bs,hdct,sn,sub,ab,col,dd,k0,k1,k2,k3,k5,mN,hCo,hN,hni,T⟩:=xc.obj N.inv.mod.kin
 have hpa:(backTo cpos (starEach (e::es) X.env)).any (·.1)=false:=by
  rw[he]
  show(false||(backTo cpos (starEach es X.env)).any (·.1))=false
  rw[hpl]
  rfl
 refine wpAny_Raise_call_subU (mN:=mN) (nm:=nm) (q:=q) (N:=Na) (bs:=bs) (hdct:=hdct) (sn:=sn) (sub:=sub) (ab:=ab) (col:=col) (dd:=dd) (k0:=k0) (k1:=k1) (k2:=k2) (k3:=k3) (k5:=k5) F.excBase_ValueError (by decide) F.excBase_ValueError (T.hasType (by decide)) (N.inv.ok.hd hc) hpa hni (Jfj N.inv hg hm ⟨rfl,?_⟩ hdb)
 have hs:=ha cpos
 rw[he] at hs ⊢
 refine Calls.evalArgs_plain (krun hs N K λ vs h1 us s1 H1 ι1 N1 n1 r1 K1=>?_)
 change Jal ce X pins ι1 H1 (if vs.length<=sizeLine then _ else _) Q E at K1
 split at K1
 case isFalse=>exact K1.elim
 rename_i hz
 have kb:=N1.inv.bk
 have hl:us.length=vs.length:=by
  obtain⟨ws,rv,qv⟩:=r1
  rw[<- rv.length,qv.length]
 refine⟨rfl,by show us.length<=_;omega,kb _ _ hCo,hN.keeps kb,T.keeps kb,λ h' a M=>?_⟩
 obtain⟨t,hat,_,_⟩:=M.there
 have hf:H1 a=none:=by
  cases z:H1 a with
  | none=>rfl
  | some u =>
   obtain⟨o,z'⟩:=Jzf (N1.inv.hok a u z)
   rw[M.new] at z'
   cases z'
 obtain⟨R2,n2⟩:=N1.rel.alloc (o:=ExF a C .none none) (io:=.exc c []) hf ⟨C,.none,none,.inl ⟨rfl,rfl⟩,hC,Jg,.inl rfl⟩
 have kk:∀b u,s1.heap.get? b=some u->h'.get? b=some u:=λ b u q=>M.keeps b u q
 have up:∀{b:Addr}{u:HO},H1 b=some u->upd H1 a (ExF a C .none none) b=some u:=λ {b u} q=>by
  rw[Jh (λ z=>by subst z;rw[hf] at q;cases q)]
  exact q
 have un:Un X.fs [] H1 (upd H1 a (ExF a C .none none)) s1.heap h' :=
  ⟨λ b o q _ _ _=>kk b o q,λ b o q _ _ _=>⟨o.slots,kk b o q⟩,λ b o q n _=>by rw[Jh (λ z=>by subst z;rw[M.new] at q;cases q)];exact n,λ b o q _=>⟨o,kk b o q⟩,λ b xs q=>up q,λ b o u q=>up q,λ b ps q=>⟨#[],by rw[up q];simp⟩⟩
 have ok:HOk X.prog X.w (upd H1 a (ExF a C .none none)) h':=λ b u q=>by
  by_cases z:b=a
  ·subst z
   rw[Jg] at q
   cases q
   exact ExF.ok hat rfl rfl rfl rfl rfl
  ·rw[Jh z] at q
   exact(N1.inv.hok b u q).stay (λ d v _ p=>kk d v p) (λ d p=>up p) λ d xs p=>up p
 have I2:Inv X pins σ (upd H1 a (ExF a C .none none)) { s1 with heap:=h' }:=N1.inv.un (t':=s1.toks) un ok
 refine K1 [] a _ σ _ _ ⟨by simpa using I2,R2,N1.st.mono n2⟩ n2 ?_ _ (.inl rfl)
 rw[<- N1.rel.len,List.getElem?_append_right (Nat.le_refl _)]
 simp
end
noncomputable abbrev Js (X:Cx) (a:Addr):Cx:={ X with A:=X.A.mark (some (.ref a)),calm:=false }
section
variable {ce:Str->Option Addr}{X:Cx}{a C:Addr}{pins:List (Addr×Obj)}{σ:L2.St}{H:Hp}{s:Shared}{ι:List Addr}{σi:ISt}{h:IH}{n:Nat}{c:Str}{fs:List (Str×IV)}{tv:Value}
theorem Jlc (I:Inv X pins σ H s) (a:Addr):Inv (Js X a) pins σ H s :=
 ⟨⟨I.ok.mod,I.ok.kind,I.ok.glob,I.ok.blt,I.ok.above,I.ok.inj,I.ok.has,I.ok.cab,nofun,I.ok.frames,I.ok.stk,I.ok.exf,I.ok.bs,I.ok.bsz,I.ok.noex,I.ok.exfs,I.ok.funs,I.ok.frf⟩,I.os,I.bare,I.base,I.loc,I.cell,I.free,I.freeC,I.pin,I.hok,I.len⟩
theorem Jks (ok:X.Ok) (I:Inv (Js X a) pins σ H s):Inv X pins σ H s :=
 ⟨ok,I.os,I.bare,I.base,I.loc,I.cell,I.free,I.freeC,I.pin,I.hok,I.len⟩
theorem _root_.L2.Inv.fewer {pins':List (Addr×Obj)}(I:Inv X pins σ H s) (k:∀p∈X.pn++pins',p∈X.pn++pins):Inv X pins' σ H s :=
 ⟨I.ok,I.os,I.bare,I.base,I.loc,I.cell,I.free,I.freeC,λ p hp=>I.pin p (k p hp),I.hok,I.len⟩
theorem Jxv {d:Option Addr}{T:Addr}{oT:Obj}{h':Heap}(N:Now ce X pins ι σi h σ H s) (hj:h[n]?=some (.exc c fs)) (hi:ι[n]?=some a) (hC:W.nsIn X.K mainGlobals c=some (some (.ref C))) (ha:H a=some (ExF a C tv d)) (p:Past X H s.heap a C d T oT h') :
  Now ce X pins ι σi h σ (upd (upd H T (.frz oT (.own 0))) a (ExF a C (.ref T) d)) { s with heap:=h' }/\Nxt ι H ι (upd (upd H T (.frz oT (.own 0))) a (ExF a C (.ref T) d)):=by
 obtain⟨C',tv',d',fe,_,ha',_⟩:=Jx1 N.rel hj hi
 rw[Jwu N.inv.hok ha' ha] at fe
 obtain⟨R4,n4⟩:=N.rel.grow (o:=.frz oT (.own 0)) p.new
 have ha4:upd H T (.frz oT (.own 0)) a=some (ExF a C tv d):=by rw[Jh (Ne.symm p.ne)];exact ha
 obtain⟨R5,n5⟩:=R4.write hi ha4 (by rw[ha4];trivial) (o:=ExF a C (.ref T) d) (io:=.exc c fs) ⟨C,.ref T,d,fe.mono p.un.frzs,hC,Jg,.inr ⟨T,oT,_,rfl,by rw[Jh p.ne,Jg],p.fld.choose_spec⟩⟩
 rw[Jlp hj] at R5
 have I:=N.inv.call (g':=s.gens) (t':=s.toks) (d':=s.drawn) (ch:=[]) p.un p.hok N.inv.bare λ b z=>absurd z (by simp)
 exact⟨⟨I,R5,N.st.mono (n4.trans n5)⟩,n4.trans n5⟩
theorem Jmn {d:Option Addr}{M:Model}{A:Around}{Q:Unit->Shared->Prop}{E:Value->Shared->Prop}(ok:HOk X.prog X.w H s.heap) (ha:H a=some (ExF a C tv d)) (ht:TvOk H tv) (k:∀h',(∀b o,s.heap.get? b=some o->h'.get? b=some o)->Q () { s with heap:=h' }) :
  wpAny M A (setFlight (.ref a) none) Q E s:=by
 obtain⟨oe,vs,e1,e2,e3,e4,_⟩:=ExF.get ok ha
 unfold setFlight
 refine wpAny_bind (wpAny_field e1 e3 e4 ?_)
 rcases ht with rfl|⟨T,oT,ts,rfl,q1,q2,q3⟩
 ·rw[if_neg (by decide)]
  exact wpAny_pure (k s.heap λ _ _ q=>q)
 ·have gT:s.heap.get? T=some oT:=(ok T _ q1).1
  rw[if_pos (by simp)]
  refine wpAny_setField gT q2 (Array.getElem?_eq_some_iff.mp q3).1 (k _ λ b o q=>?_)
  by_cases z:b=T
  ·subst z
   rw[gT] at q
   cases q
   exact Jpf gT q2 q3
  ·rw[Heap.get?_update_other _ _ (Ne.symm z)]
   exact q
theorem Jw1 {M:Model}{A:Around}{E:Value->Shared->Prop}{Q:Unit->Shared->Prop}{i:Nat}{x:Str}{pos:Pos}(I:Inv X pins σ H s) (hN:X.N.Nodup) (hi:X.N[i]?=some x) (hx:X.env.kindOf x=some .local) (k:∀s',Inv X pins (σ.set i none) H s'->Q () s') :
  wpAny M A (do bindName X.env x .none;unbindBehindTheSuite X.env x pos) Q E s:=by
 obtain⟨m,hn,hl⟩:=id I.loc
 have hcls:(X.env.scope.kind==.class||(X.env.scope.kind==.module&&X.env.locals != X.env.globals))=false:=by rw[I.ok.kind];rfl
 have cne:=I.cne
 refine wpAny_nameGoes_keeps hx hn hcls λ h' v hn' hs=>?_
 have up:∀{b:Addr}{o:Obj},X.s₀.heap.get? b=some o->b≠X.env.locals:=λ e=>Nat.ne_of_lt (Nat.lt_of_lt_of_le (Heap.lt_size e) I.ok.above)
 refine k _ ⟨I.ok,I.os,I.bare,⟨λ b o e nn hb hx=>?_,λ b o e nn hb hx=>?_,I.base.free,λ b o e hx=>?_,I.base.tups,I.base.frzs,I.base.tbls⟩,⟨_,hn',λ j y w e1 e2 e3=>?_⟩,λ y cc e=>?_,I.free,I.freeC,λ p hp=>?_,λ b ob e=>?_,by rw[List.length_set];exact I.len⟩
 ·exact(hs.2 b (up e)).trans (I.base.keep b o e nn hb hx)
 ·obtain⟨sl,e1⟩:=I.base.slot b o e nn hb hx
  exact⟨sl,(hs.2 b (up e)).trans e1⟩
 ·obtain⟨o',e1⟩:=I.base.there b o e hx
  exact⟨o',(hs.2 b (up e)).trans e1⟩
 ·by_cases z:j=i
  ·subst z
   have hj:j<σ.length:=by rw[I.len];exact(List.getElem?_eq_some_iff.mp hi).1
   rw[List.getElem?_set_self hj] at e2
   cases e2
  ·rw[List.getElem?_set_ne (Ne.symm z)] at e2
   obtain⟨u,r,q⟩:=hl j y w e1 e2 e3
   refine⟨u,r,?_⟩
   rcases q with⟨q1,q2⟩|⟨q1,cc,q2,q3⟩
   ·refine .inl ⟨q1,?_⟩
    show(if y=x then v else m y)=some u
    rw[if_neg (show ¬y=x from λ z2=>z (Jle hN e1 (by rw[z2];exact hi)))]
    exact q2
   ·exact .inr ⟨q1,cc,q2,q3.sameBut hs (cne y cc q2)⟩
 ·obtain⟨w',z⟩:=I.cell y cc e
  exact⟨w',z.sameBut hs (cne y cc e)⟩
 ·obtain⟨e,nn,ne,nf,d⟩:=I.pin p hp
  exact⟨(hs.2 p.1 ne).trans e,nn,ne,nf,d⟩
 ·have nb:∀{d:Addr}{u:HO},H d=some u->d≠X.env.locals:=λ q z=>by rw[z,I.free] at q;cases q
  refine(I.hok b ob e).stay (λ d w' hc q=>(hs.2 d ?_).trans q) (λ _ q=>q) λ _ _ q=>q
  rcases hc with rfl|hc
  ·exact nb e
  ·exact nb hc
end
theorem RSt.unset {K:W.Frag}{ι:List Addr}{H:Hp}{σi:ISt}{σ:L2.St}(r:RSt K ι H σi σ) (i:Nat):RSt K ι H (σi.set i none) (σ.set i none):=by
 refine⟨by simp[r.len],λ j w e=>?_⟩
 by_cases z:j=i
 ·subst z
  have hl:j<σi.length:=by
   have:=(List.getElem?_eq_some_iff.mp e).1
   simpa using this
  rw[List.getElem?_set_self hl] at e
  cases e
 ·rw[List.getElem?_set_ne (Ne.symm z)] at e
  obtain⟨u,e1,q1⟩:=r.at_ j w e
  exact⟨u,by rw[List.getElem?_set_ne (Ne.symm z)];exact e1,q1⟩
noncomputable abbrev HdI:=(Str->Option Bool)×Option Nat×S1
noncomputable def Jlh (sl:Option Nat) (x:Option IV) (σ:ISt):ISt:=match sl with
 | some i=>σ.set i x
 | none=>σ
noncomputable def SRes.drop (sl:Option Nat) (r:SRes):SRes:=match r with
 | .next σ h=>.next (Jlh sl none σ) h
 | .brk σ h=>.brk (Jlh sl none σ) h
 | .cont σ h=>.cont (Jlh sl none σ) h
 | .ret v h=>.ret v h
 | _=>.stuck
noncomputable def Jbo:List HdI->Str->Nat->S1
 | [],_,_=>λ _ _=>.stuck
 | q::r,c,n=>λ σ h=>match q.1 c with
  | some true=>(q.2.2 (Jlh q.2.1 (some (.ref n)) σ) h).drop q.2.1
  | some false=>Jbo r c n σ h
  | none=>.stuck
noncomputable def sTry (b:S1) (hs:List HdI):S1:=λ σ h=>match b σ h with
 | .exc n σ1 h1=>(match h1[n]? with
  | some (.exc c _)=>Jbo hs c n σ1 h1
  | _=>.stuck)
 | r=>r
noncomputable def PSH (ce:Str->Option Addr) (X:Cx) (a:Addr) (sl:Option Nat) (suite:List Stmt) (m:S1):Prop :=
 ∀(pins:List (Addr×Obj)) (s:Shared) (σ:L2.St) (H:Hp) (ι:List Addr) (σi:ISt) (h:IH) (Q:Flow->Shared->Prop) (E:Value->Shared->Prop) (n:Nat) (c:Str) (fs:List (Str×IV)),X.Ok->Now ce (Js X a) pins ι σi h σ H s->h[n]?=some (.exc c fs)->ι[n]?=some a->(∀i,sl=some i->i<σi.length->σi[i]?=some (some (.ref n))) ->
  Jal ce (Js X a) pins ι H (m σi h) Q E->wpAny (model X.prog X.w) (Js X a).A (execs suite X.env) Q E s
theorem PS2.h {ce:Str->Option Addr}{X:Cx}{a:Addr}{sl:Option Nat}{suite:List Stmt}{m:S1}(p:PS2 ce (Js X a) suite m):PSH ce X a sl suite m:=λ pins s σ H ι σi h Q E _ _ _ _ N _ _ _ K=>p pins s σ H ι σi h Q E N K
structure HdOk (ce:Str->Option Addr) (X:Cx) (t:Expr) (nm:Option Str) (suite:List Stmt) (f:Str->Option Bool) (sl:Option Nat) (m:S1):Prop where
 test:∀(a:Addr) (c:Str) (C:Addr) (b:Bool) (pins:List (Addr×Obj)) (σ:L2.St) (H:Hp) (s:Shared) (Q:Bool->Shared->Prop) (E:Value->Shared->Prop),f c=some b->W.nsIn X.K mainGlobals c=some (some (.ref C))->Inv (Js X a) pins σ H s->(∃oe,s.heap.get? a=some oe/\oe.cls=.ref C)->Q b s ->
  wpAny (model X.prog X.w) (Js X a).A (eval t X.env) (λ v s₁=>wpAny (model X.prog X.w) (Js X a).A (excMatches (.ref a) v) Q E s₁) E s
 nm:(nm=none/\sl=none)∨∃n i,nm=some n/\sl=some i/\X.N[i]?=some n/\X.env.kindOf n=some .local
 run:∀a,PSH ce X a sl suite m
inductive HdsOk (ce:Str->Option Addr) (X:Cx):List ExceptHandler->List HdI->Prop
 | nil:HdsOk ce X [] []
 | cons {t:Expr}{nm:Option Str}{b₀:Stmt}{suite:List Stmt}{pos:Pos}{f:Str->Option Bool}{sl:Option Nat}{m:S1}{hs:List ExceptHandler}{ms:List HdI}:HdOk ce X t nm (b₀::suite) f sl m->HdsOk ce X hs ms->HdsOk ce X (.ExceptHandler (some t) nm (b₀::suite) pos::hs) ((f,sl,m)::ms)
section
variable {ce:Str->Option Addr}{X:Cx}
theorem Jtz (hN:X.N.Nodup){hs:List ExceptHandler}{ms:List HdI}(O:HdsOk ce X hs ms){a:Addr}{pins:List (Addr×Obj)}{σ:L2.St}{H:Hp}{s:Shared}{ι:List Addr}{σi:ISt}{h:IH}{n:Nat}{c:Str}{fs:List (Str×IV)}{Q:Flow->Shared->Prop}{E:Value->Shared->Prop}
  (N:Now ce X pins ι σi h σ H s) (hj:h[n]?=some (.exc c fs)) (hi:ι[n]?=some a) (K:Jal ce X pins ι H (Jbo ms c n σi h) Q E):wpAny (model X.prog X.w) X.A (handleBy (.ref a) X.env hs) Q E s:=by
 obtain⟨C,tv,d,fe,hC,ha,ht⟩:=Jx1 N.rel hj hi
 obtain⟨oe,vs,e1,e2,_⟩:=ExF.get N.inv.hok ha
 induction O with
 | nil=>exact Zf K
 | @cons t nm b₀ suite pos f sl m hs ms o O ih =>
  unfold Jbo at K
  dsimp only at K
  cases hb:f c with
  | none=>rw[hb] at K;exact Zf K
  | some b =>
   rw[hb] at K
   refine wpAny_handleBy_cons (codeAny_handlers_test (o.test a c C b pins σ H s _ _ hb hC (Jlc N.inv a) ⟨oe,e1,e2⟩ ?_)) (by intro q;cases q)
   cases b with
   | false=>exact ih K
   | true =>
    dsimp only at K
    rcases o.nm with⟨rfl,rfl⟩|⟨x,i,rfl,rfl,hx,hk⟩
    ·have K:Jal ce X pins ι H ((m σi h).drop none) Q E:=K
     refine codeAny_handlers_suite (Jmn N.inv.hok ha ht λ h' kp=>?_)
     have N2:Now ce (Js X a) pins ι σi h σ H { s with heap:=h' }:=⟨Jlc (N.inv.kept (t':=s.toks) kp) a,N.rel,N.st⟩
     refine o.run a pins _ σ H ι σi h _ _ n c fs N.inv.ok N2 hj hi (λ i z=>by cases z) ?_
     have un:∀{pins:List (Addr×Obj)}{ι:List Addr}{σi:ISt}{h:IH}{σ:L2.St}{H:Hp}{s:Shared},Now ce (Js X a) pins ι σi h σ H s->Now ce X pins ι σi h σ H s:=λ q=>⟨Jks N.inv.ok q.inv,q.rel,q.st⟩
     cases em:m σi h with
     | next σ2 h2=>rw[em] at K;exact λ s3 σ3 H3 ι3 N3 n3=>K s3 σ3 H3 ι3 (un N3) n3
     | brk σ2 h2=>rw[em] at K;exact λ s3 σ3 H3 ι3 N3 n3=>K s3 σ3 H3 ι3 (un N3) n3
     | cont σ2 h2=>rw[em] at K;exact λ s3 σ3 H3 ι3 N3 n3=>K s3 σ3 H3 ι3 (un N3) n3
     | ret v h2=>rw[em] at K;exact λ u s3 σ2 σ3 H3 ι3 N3 n3 r3=>K u s3 σ2 σ3 H3 ι3 (un N3) n3 r3
     | exc k σ2 h2=>rw[em] at K;exact Zf K
     | stuck=>rw[em] at K;exact Zf K
    ·have K:Jal ce X pins ι H ((m (σi.set i (some (.ref n))) h).drop (some i)) Q E:=K
     refine codeAny_handlers_suite_as (Jmn N.inv.hok ha ht λ h' kp=>?_)
     have I2:Inv (Js X a) pins σ H { s with heap:=h' }:=Jlc (N.inv.kept (t':=s.toks) kp) a
     refine Jij (X:=Js X a) (v:=V.ref a) I2 hN hx (.inl hk) rfl (λ s3 I3=>?_) (.inr hk)
     have N3:Now ce (Js X a) pins ι (σi.set i (some (.ref n))) h (σ.set i (some (V.ref a))) H s3:=⟨I3,N.rel,N.st.set i ⟨a,rfl,hi⟩⟩
     refine o.run a pins _ _ H ι _ h _ _ n c fs N.inv.ok N3 hj hi (λ j z l=>by cases z;exact List.getElem?_set_self (by simpa using l)) ?_
     have fin:∀{ι3:List Addr}{σ2:ISt}{h2:IH}{σ3:L2.St}{H3:Hp}{s3:Shared}{W:Unit->Shared->Prop},Now ce (Js X a) pins ι3 σ2 h2 σ3 H3 s3->(∀s4,Now ce X pins ι3 (σ2.set i none) h2 (σ3.set i none) H3 s4->W () s4)->wpAny (model X.prog X.w) X.A (do bindName X.env x .none;unbindBehindTheSuite X.env x pos) W E s3:=λ q k =>
      Jw1 (Jks N.inv.ok q.inv) hN hx hk λ s4 I4=>k s4 ⟨I4,q.rel,q.st.unset i⟩
     cases em:m (σi.set i (some (.ref n))) h with
     | next σ2 h2=>rw[em] at K;exact λ s3 σ3 H3 ι3 N3 n3=>fin N3 λ s4 N4=>K s4 _ H3 ι3 N4 n3
     | brk σ2 h2=>rw[em] at K;exact λ s3 σ3 H3 ι3 N3 n3=>fin N3 λ s4 N4=>K s4 _ H3 ι3 N4 n3
     | cont σ2 h2=>rw[em] at K;exact λ s3 σ3 H3 ι3 N3 n3=>fin N3 λ s4 N4=>K s4 _ H3 ι3 N4 n3
     | ret v h2=>rw[em] at K;exact λ u s3 σ2 σ3 H3 ι3 N3 n3 r3=>fin N3 λ s4 N4=>K u s4 _ _ H3 ι3 N4 n3 r3
     | exc k σ2 h2=>rw[em] at K;exact Zf K
     | stuck=>rw[em] at K;exact Zf K
theorem s_try {body:List Stmt}{mb:S1}{h₀:ExceptHandler}{hs:List ExceptHandler}{ms:List HdI}{pos:Pos}(hN:X.N.Nodup) (hk:X.stack=X.env::X.outer) (hf:X.env.frame=some X.env.locals) (hb:PS2 ce X body mb) (O:HdsOk ce X (h₀::hs) ms):PS1 ce X (.Try body (h₀::hs) [] [] pos) (sTry mb ms):=by
 intro pins s σ H ι σi h Q E N K
 unfold sTry at K
 refine wpAny_Try_except (hb pins s σ H ι σi h _ _ N ?_)
 cases e:mb σi h with
 | next σ2 h2=>rw[e] at K;exact λ s3 σ3 H3 ι3 N3 n3=>wpAny_execs_nil (K s3 σ3 H3 ι3 N3 n3)
 | brk σ2 h2=>rw[e] at K;exact K
 | cont σ2 h2=>rw[e] at K;exact K
 | ret v h2=>rw[e] at K;exact K
 | stuck=>rw[e] at K;exact K
 | exc n σ2 h2 =>
  rw[e] at K
  dsimp only at K
  cases hj:h2[n]? with
  | none=>rw[hj] at K;exact Zf K
  | some ob =>
   cases ob with
   | exc c fs =>
    rw[hj] at K
    intro pl a s3 σ3 H3 ι3 N3 n3 hi s4 fl
    have N3:Now ce X pins ι3 σ2 h2 σ3 H3 s3:=⟨N3.inv.fewer λ p hp=>List.mem_append.mpr ((List.mem_append.mp hp).imp_right λ z=>List.mem_append_left _ z),N3.rel,N3.st⟩
    obtain⟨C,tv,d,fe,hC,ha,ht⟩:=Jx1 N3.rel hj hi
    refine Jqj N3.inv fl hk hf ha ht λ T oT h' p=>?_
    obtain⟨N4,n4⟩:=Jxv N3 hj hi hC ha p
    exact Jtz hN O N4 hj hi (Jal.mono (r:=Jbo ms c n σ2 h2) K (n3.trans n4))
   | _=>rw[hj] at K;exact Zf K
noncomputable def maxLI:IV->IH->Res IV
 | .ref i,h=>match h[i]? with
  | some (.lst xs)=>(match Jdh xs with
   | some ns=>if ns=[] then .stuck else .ok (.int (Jdc (λ i=>ns.getD i 0) ns.length)) h
   | none=>.stuck)
  | _=>.stuck
 | _,_=>.stuck
noncomputable def Jrm:IV->IH->Res IV
 | .ref i,h=>match h[i]? with
  | some (.dct kvs)=>.ok (.int kvs.length) h
  | _=>.stuck
 | _,_=>.stuck
theorem J2y:Jjy ce X (.builtin "len") (on1 Jrm):=Jq4 λ pins s σ H ι σi h x xv u Q E N ru qx K=>by
 cases x with
 | ref i =>
  obtain⟨a,e1,ha⟩:=qx
  subst e1
  cases ru
  dsimp only[Jrm] at K
  cases hi:h[i]? with
  | none=>rw[hi] at K;exact Zf K
  | some ob =>
   rw[hi] at K
   cases ob with
   | dct kvs =>
    obtain⟨ws,e1,r1⟩:=N.at hi ha
    refine d_len N.inv (.of e1) λ t s' I'=>?_
    rw[r1.length]
    exact fin0 N K rfl _ _ I' ⟨_,rfl⟩
   | _=>exact Zf K
 | _=>exact Zf K
structure BasK (K:W.Frag) (C:Addr):Prop where
 sp:W.specialIn K (.ref C) "__getattribute__"=some (some (.builtin "type.__getattribute__"))
 rd:W.readsIn K C (.type "type")=true
 fc:∃fa,W.findIn K (.ref C) "__init__"=some (some (.ref fa))/\W.findCls K (.ref C) (.type "type") "__init__"=some (.val (.ref fa))/\W.keepIn K (.ref fa)=true
variable {k:Nat}{fa C:Addr}{fd:FuncData}{ps:List Str}{f:List IV->IH->Res IV}{dvs:List IV}{ds:List Value}{x:Str}{p pos apos:Pos}{e:Expr}{es:List Expr}{ma:A1}{pl:Sem Bool}
end
section
variable {prog:Program}{w:World}{A:Around}{E:Value->Shared->Prop}{s:Shared}{x y:Str}{t u:Tok}{Q:Value->Shared->Prop}
open Builtin Builtin.Str in
end
noncomputable def onTT (f:Str->Str->IH->Res IV):IV->List IV->IH->Res IV
 | .str x,[.str y],h=>f x y h
 | _,_,_=>.stuck
section
variable {ce:Str->Option Addr}{X:Cx}
noncomputable def intTI:IV->IH->Res IV
 | .str x,h=>if x.length<=640 then(match PySem.intText? x with
  | some n=>.ok (.int n) h
  | none=>.stuck) else .stuck
 | v,h=>intI v h
end
section
variable {prog:Program}{w:World}{A:Around}{E:Value->Shared->Prop}{s:Shared}
end
section
variable {ce:Str->Option Addr}{X:Cx}
end
section
variable {ce:Str->Option Addr}{X:Cx}{pins:List (Addr×Obj)}{σ:L2.St}{H:Hp}{s:Shared}{ι:List Addr}{σi:ISt}{h:IH}{n:Nat}{c:Str}{fs:List (Str×IV)}{a:Addr}
end
section
variable {P:Program}{w:World}{K:W.Frag}{mg:Str->Option Value}{base:Heap}{ce:Str->Option Addr}
end
section
variable {ce:Str->Option Addr}{X:Cx}
end
section
variable {prog:Program}{w:World}{A:Around}{E:Value->Shared->Prop}{s:Shared}
end
noncomputable def likeI (h:IH) (x y:IV):Bool:=(match x,y with
 | .ref i,.ref j=>decide (i=j)
 | _,_=>false)||decide (Ji6 x y h=some true)
noncomputable def J0z (h:IH):List IV->List IV->Bool
 | [],[]=>true
 | x::xs,y::ys=>likeI h x y&&J0z h xs ys
 | _,_=>false
noncomputable def neIn (K:W.Frag) (C:Addr):Bool:=match K.lookup C with
 | some ⟨.type "type",_,.cls cd,sl⟩=>(match cd.mro,sl.toList with
  | [.ref C',.type "object"],[_,_,_,_,some (.builtin _),_]=>C'==C&&!cd.hasDel&&W.nsOkIn K cd.ns&&W.nsIn K cd.ns "__eq__"==some none&&W.nsIn K cd.ns "__ne__"==some none
  | _,_=>false)
 | _=>false
theorem neIn.cmp {K:W.Frag}{C x dx:Addr}{h:Heap}(q:neIn K C=true) (I:K.In h) (hx:h.get? x=some (W.instObj C dx)):h.CmpInst x C [.type "object"]:=by
 unfold neIn at q
 split at q
 case h_2=>cases q
 rename_i dd cd sl ho
 split at q
 case h_2=>cases q
 rename_i D k0 k1 k2 k3 n k5 em es
 simp only[Bool.and_eq_true,beq_iff_eq,Bool.not_eq_true'] at q
 obtain⟨⟨⟨⟨e1,e3⟩,e5⟩,e6⟩,e7⟩:=q
 subst e1
 obtain⟨nm,bs,mro,N,qn,hd,sn,sub,ab,col,del⟩:=cd
 have em:mro=[.ref D,.type "object"]:=em
 have e3:del=false:=e3
 subst em e3
 have es:sl=#[k0,k1,k2,k3,some (.builtin n),k5]:=by
  rw[<- Array.toArray_toList (xs:=sl),es]
 subst es
 exact⟨_,nm,qn,N,bs,hd,sn,sub,ab,col,dd,k0,k1,k2,k3,k5,n,_,hx,rfl,I _ _ ho,.of_isNs (W.isNs_of_in I e5),W.nsMap_none_of_in I e5 e6,W.nsMap_none_of_in I e5 e7⟩
section
variable {ce:Str->Option Addr}{X:Cx}{pins:List (Addr×Obj)}{s:Shared}{σ:L2.St}{H:Hp}{ι:List Addr}{σi:ISt}{h:IH}
end
section
variable {ce:Str->Option Addr}{X:Cx}
end
section
variable {X:Cx}
end
section
variable {ce:Str->Option Addr}{X:Cx}
end
noncomputable def Jbr:Ty->Option Bool
 | .lst=>some true|.ins c=>if c=="Work" then some false else none|.exc _=>none|_=>some false
theorem Jri {ce:Str->Option Addr}{K:W.Frag}(h:∀C,ce "Work"=some C->ClsI K C/\W.kitOne K (.ref C) (.type "list")=some false):IsOk ce K (.type "list") Jbr:=by
 have O:IsOk ce K (.type "list") Jbz:=Jm0
 refine⟨O.non,O.bl,O.int,O.str,O.lst,O.tup,O.dct,λ k C b e hk=>?_,(λ k C b e=>by cases e)⟩
 unfold Jbr at e
 dsimp only at e
 split at e
 ·rename_i q
  cases beq_iff_eq.mp q
  cases e
  exact h C hk
 ·cases e
noncomputable def ExC (h:Heap) (C:Addr):Prop:=∃nm q N bs bm hdct sn sub ab col dd k0 k1 k2 k3 k5 newId,h.get? C=some (excClassObj nm q C N bs bm hdct sn sub ab col dd k0 k1 k2 k3 k5 newId)/\bm.contains (.type "BaseException")=true
section
variable {ce:Str->Option Addr}{X:Cx}{x:Expr}{m:E1}{pos:Pos}
end
section
variable {prog:Program}{w:World}{A:Around}{E:Value->Shared->Prop}{hp:Heap}{ge:Array GenState}{dr:Drawn}{tk:Nat}{ox:OsState}
variable {nm qn:Str}{C Na:Addr}{bs bm bmB:List Value}{hdct:Bool}{sn:List Str}{sub:List Value}{ab:Bool}{col:Option Bool}{dd:Option Addr}{k0 k1 k2 k3 k5:Option Value}{B Bn newId nid initId inN:String}{bmN:List Value}
end
theorem J4d {K:W.Frag}{h:Heap}{N:Addr}{m:Str->Option Value}{x:Str}{v:Value}(I:K.In h) (G:h.Ns N m) (e:W.nsIn K N x=some (some v)):m x=some v:=by
 obtain⟨o,es,ep,go,gd,_,gf⟩:=G
 unfold W.nsIn at e
 split at e
 ·rename_i q
  have z:=I _ _ q
  rw[go] at z
  cases z
  cases gd
  split at e
  ·rename_i en he
   cases e
   rw[<- gf]
   unfold nsFind findBy
   rw[<- Array.find?_toList,he]
   rfl
  ·split at e<;>cases e
 ·cases e
noncomputable def Jsm (K:W.Frag) (C f:Addr):Bool:=match K.lookup C with
 | some ⟨.type "type",_,.cls cd,sl⟩=>(match cd.mro,sl.toList with
  | .ref C'::bm,[_,_,_,_,some (.builtin n),_]=>C'==C&&n=="ValueError.__new__"&&!cd.hasDel&&W.tailIn K bmV bm&&W.nsOkIn K cd.ns&&W.nsIn K cd.ns "__init__"==some (some (.ref f))&&(match K.lookup f with|some o=>o.cls==.type "function"|none=>false)
  | _,_=>false)
 | _=>false
theorem Jsm.obj {K:W.Frag}{C f:Addr}{h:Heap}(x:Jsm K C f=true) (I:K.In h):∃bm N nm q bs hdct sn sub ab col dd k0 k1 k2 k3 k5 mN oI,h.get? C=some (excClassObj nm q C N bs bm hdct sn sub ab col dd k0 k1 k2 k3 k5 "ValueError.__new__")/\h.Ns N mN/\mN "__init__"=some (.ref f)/\OwnTail h bmV bm/\h.get? f=some oI/\oI.cls=.type "function":=by
 unfold Jsm at x
 split at x
 case h_2=>cases x
 rename_i dd cd sl ho
 split at x
 case h_2=>cases x
 rename_i D bm k0 k1 k2 k3 n k5 em es
 simp only[Bool.and_eq_true,beq_iff_eq,Bool.not_eq_true'] at x
 obtain⟨⟨⟨⟨⟨⟨e1,e2⟩,e3⟩,e4⟩,e5⟩,e6⟩,e7⟩:=x
 subst e1 e2
 obtain⟨nm,bs,mro,N,qn,hd,sn,sub,ab,col,del⟩:=cd
 have em:mro=.ref D::bm:=em
 have e3:del=false:=e3
 subst em e3
 have es:sl=#[k0,k1,k2,k3,some (.builtin "ValueError.__new__"),k5]:=by
  rw[<- Array.toArray_toList (xs:=sl),es]
 subst es
 cases lk:K.lookup f with
 | none=>rw[lk] at e7;cases e7
 | some o =>
  rw[lk] at e7
  exact⟨bm,N,nm,qn,bs,hd,sn,sub,ab,col,dd,k0,k1,k2,k3,k5,_,o,I _ _ ho,.of_isNs (W.isNs_of_in I e5),J4d I (.of_isNs (W.isNs_of_in I e5)) e6,W.tail_of_in I e4,I _ _ lk,beq_iff_eq.mp e7⟩
section
variable {X:Cx}{pins:List (Addr×Obj)}{σ:L2.St}{H:Hp}{s:Shared}{k:Nat}{f C:Addr}{fd:FuncData}{ps:List Str}{sp:Sp}{dvs:List V}{ds:List Value}{E:XK}{Q:VK}{us:List Value}{vs:List V}{W:Value->Shared->Prop}
end
section
variable {ce:Str->Option Addr}{X:Cx}{k:Nat}{fa C:Addr}{fd:FuncData}{ps:List Str}{f:List IV->IH->Res IV}{dvs:List IV}{ds:List Value}{x c:Str}{p pos:Pos}{e:Expr}{es:List Expr}{ma:A1}
end
section
variable {X:Cx}{pins:List (Addr×Obj)}{σ:L2.St}{H:Hp}{s:Shared}{f C e:Addr}{tv:Value}{d:Option Addr}{us:List Value}
end
structure BasX (K:W.Frag) (D:Addr):Prop where
 sp:W.specialIn K (.ref D) "__getattribute__"=some (some (.builtin "type.__getattribute__"))
 rd:W.readsIn K D (.type "type")=true
 fc:W.findCls K (.ref D) (.type "type") "__init__"=some (.val (.builtin "ValueError.__init__"))
section
variable {ce:Str->Option Addr}{X:Cx}{D:Addr}{x:Str}{p pos apos:Pos}{e:Expr}{es:List Expr}{ma:A1}{pl:Sem Bool}
end
noncomputable def Jy0:List Value->Bool
 | .ref _::r=>Jy0 r
 | l=>l==bmV
section
variable {prog:Program}{w:World}{A:Around}{K:W.Frag}{C x:Addr}{s:Shared}{R:Result->Shared->Prop}{ox:Obj}{name:Str}{v:Value}
structure StoX (K:W.Frag) (C:Addr) (name:Str):Prop where
 line:(W.clsIn K C).any (λ cd=>Jy0 cd.mro&&cd.hasDict)=true
 free:W.takerIn K C name=some none
 way:W.findIn K (.ref C) "__setattr__"=some (some (.builtin "object.__setattr__"))
end
section
variable {prog:Program}{w:World}{A:Around}{K:W.Frag}{C x:Addr}{s:Shared}{ox:Obj}{name:Str}{v:Value}
end
section
variable {ce:Str->Option Addr}{X:Cx}{o value:Expr}{mo mv:E1}{pos pos':Pos}{fl:Str}
end
end L3
namespace L3
open PySem PySem.Spec PySem.Calls PyProof.Rows L2
section
variable {prog:Program}{w:World}{A:Around}{E:Value->Shared->Prop}{s:Shared}{K:W.Frag}{x D:Addr}{ox od:Obj}{f:Str}{v:Value}
end
section
variable {ce:Str->Option Addr}{X:Cx}{o:Expr}{mo:E1}{pos:Pos}{fl:Str}
end
section
variable {ce:Str->Option Addr}{X:Cx}
end
end L3
namespace L3
open PySem PySem.Spec PyProof.Rows L2
noncomputable def PEw (ce:Str->Option Addr) (X:Cx) (a:Addr) (n:Nat) (e:Expr) (m:E1):Prop :=
 ∀(pins:List (Addr×Obj)) (s:Shared) (σ:L2.St) (H:Hp) (ι:List Addr) (σi:ISt) (h:IH) (Q:Value->Shared->Prop) (E:Value->Shared->Prop),Now ce (Js X a) pins ι σi h σ H s->ι[n]?=some a ->
  Kont ce (Js X a) RU pins ι σi σ H (m σi h) Q E->wpAny (model X.prog X.w) (Js X a).A (eval e X.env) Q E s
theorem PEi.w {ce:Str->Option Addr}{X:Cx}{a:Addr}{n:Nat}{e:Expr}{m:E1}(p:PEi ce (Js X a) e m):PEw ce X a n e m:=λ pins s σ H ι σi h Q E N _ K=>p pins s σ H ι σi h Q E N K
section
variable {ce:Str->Option Addr}{X:Cx}
end
section
variable {α β γ δ:Type}{ce:Str->Option Addr}{X:Cx}{R:REL α β}{R':REL γ δ}{a:Addr}{n:Nat}
noncomputable def PXw (ce:Str->Option Addr) (X:Cx) (a:Addr) (n:Nat) (R:REL α β) (t:Sem β) (m:ISt->IH->Res α):Prop :=
 ∀(pins:List (Addr×Obj)) (s:Shared) (σ:L2.St) (H:Hp) (ι:List Addr) (σi:ISt) (h:IH) (Q:β->Shared->Prop) (E:Value->Shared->Prop),Now ce X pins ι σi h σ H s->ι[n]?=some a->Kont ce X R pins ι σi σ H (m σi h) Q E->wpAny (model X.prog X.w) X.A t Q E s
noncomputable def PSw (ce:Str->Option Addr) (X:Cx) (a:Addr) (n:Nat) (t:Sem Flow) (m:S1):Prop :=
 ∀(pins:List (Addr×Obj)) (s:Shared) (σ:L2.St) (H:Hp) (ι:List Addr) (σi:ISt) (h:IH) (Q:Flow->Shared->Prop) (E:Value->Shared->Prop),Now ce X pins ι σi h σ H s->ι[n]?=some a->Jal ce X pins ι H (m σi h) Q E->wpAny (model X.prog X.w) X.A t Q E s
theorem PX.w {t:Sem β}{m:ISt->IH->Res α}(p:PX ce X R t m):PXw ce X a n R t m:=λ pins s σ H ι σi h Q E N _ K=>p pins s σ H ι σi h Q E N K
theorem PS2.w {l:List Stmt}{m:S1}(p:PS2 ce X l m):PSw ce X a n (execs l X.env) m:=λ pins s σ H ι σi h Q E N _ K=>p pins s σ H ι σi h Q E N K
theorem PS1.w {l:Stmt}{m:S1}(p:PS1 ce X l m):PSw ce X a n (exec l X.env) m:=λ pins s σ H ι σi h Q E N _ K=>p pins s σ H ι σi h Q E N K
theorem PXw.run {t:Sem β}{m:ISt->IH->Res α}(p:PXw ce X a n R t m){pins:List (Addr×Obj)}{ι:List Addr}{σi:ISt}{σ:L2.St}{H:Hp}{s:Shared}{h:IH}(N:Now ce X pins ι σi h σ H s) (hi:ι[n]?=some a){g:α->IH->Res γ}{Q:δ->Shared->Prop}{E:Value->Shared->Prop}{Q1:β->Shared->Prop}
  (K:Kont ce X R' pins ι σi σ H ((m σi h).bind g) Q E)
  (step:∀x h1 u s1 H1 ι1,Now ce X pins ι1 σi h1 σ H1 s1->ι1[n]?=some a->R X.K ι1 H1 x u->Kont ce X R' pins ι1 σi σ H1 (g x h1) Q E->Q1 u s1):wpAny (model X.prog X.w) X.A t Q1 E s:=by
 refine p pins s σ H ι σi h Q1 E N hi ?_
 cases e:m σi h with
 | stuck=>rw[e] at K;exact K
 | exc _ h'=>rw[e] at K;exact K
 | ok v h' =>
  rw[e] at K
  exact λ u s' H' ι' N' n' r=>step v h' u s' H' ι' N' (n'.at hi) r (Kont.mono (r:=g v h') K n')
variable {b c:Expr}{pos:Pos}{rest:List Expr}{ta tb:T1}{mb:E1}
end
section
variable {ce:Str->Option Addr}{X:Cx}
section
variable {A:Around}{R:Result->Shared->Prop}{Q:Value->Shared->Prop}{E:Value->Shared->Prop}{pins:List (Addr×Obj)}{σi:ISt}{σ:L2.St}{G:Hp->Prop}{fq:Addr}{mk:IV->IH->Res IV}{gt:IV->IV->Option Bool}{i n:Nat}{l I C:Addr}{kw:List (Str×Value)}
end
end
noncomputable abbrev ivl (l:List (Int×Tok)):List Value:=l.map λ p=>.int p.1 p.2
section
open PySem.AutoSeq1 (wpAny_loadPart')
open PySem.MeetsSeq PySem.MeetsSeq2 PySem.MeetsSeq3 PySem.SeqRoads2
end
section
variable {ce:Str->Option Addr}{X:Cx}
end
noncomputable def Jsq (h:Heap) (wrs:List Addr) (C:Addr) (k:Nat) (v:Value) (ns:List Int):Prop:=∃a l,v=.ref a/\a∉wrs/\a≠C/\IsTup h a (ivl l).toArray/\l.map (·.1)=ns/\l.length=k
theorem Jsq.keeps {h h':Heap}{wrs:List Addr}{C:Addr}{k:Nat}{v:Value}{ns:List Int}(t:Jsq h wrs C k v ns) (q:∀a o,a∉wrs->a≠C->h.get? a=some o->h'.get? a=some o):Jsq h' wrs C k v ns:=by
 obtain⟨a,l,e,n1,n2,⟨o,ho,r⟩,e2,e3⟩:=t
 exact⟨a,l,e,n1,n2,⟨o,q a o n1 n2 ho,r⟩,e2,e3⟩
section
variable {pr:Program}{wd:World}{B:Around}{R:Result->Shared->Prop}{it:Addr}{fps wrs:List Addr}{n:Nat}{St:Nat->Heap->Prop}
end
section
variable {pr:Program}{wd:World}{B:Around}{E:Value->Shared->Prop}{z:Shared}{l:Addr}{us:List Value}{k:Nat}{f:Nat->List Int}{Q:Value->Shared->Prop}
end
section
variable {ce:Str->Option Addr}{X:Cx}
end
end L3
namespace L3
open PySem PySem.Spec PyProof.Rows L2 PySem.W
noncomputable def kRun {α:Type}(lt:Nat->Nat->Bool):KasT α->α
 | .ret a=>a
 | .ask i j k=>kRun lt (k (lt i j))
noncomputable def Asks {α:Type}(n:Nat) (P:α->Prop):KasT α->Prop
 | .ret a=>P a
 | .ask i j k=>i<n/\j<n/\∀b,Asks n P (k b)
theorem Asks.mono {α:Type}{n:Nat}{P P':α->Prop}(f:∀a,P a->P' a):∀{t:KasT α},Asks n P t->Asks n P' t
 | .ret _,h=>f _ h
 | .ask _ _ _,⟨h1,h2,h3⟩=>⟨h1,h2,λ b=>Asks.mono f (h3 b)⟩
theorem Asks.bind {α β:Type}{n:Nat}{P:α->Prop}{P':β->Prop}{f:α->KasT β}(hf:∀a,P a->Asks n P' (f a)):∀{t:KasT α},Asks n P t->Asks n P' (t.bind f)
 | .ret _,h=>hf _ h
 | .ask _ _ _,⟨h1,h2,h3⟩=>⟨h1,h2,λ b=>Asks.bind hf (h3 b)⟩
theorem Asks.run {α:Type}{n:Nat}{P:α->Prop}{lt:Nat->Nat->Bool}:∀{t:KasT α},Asks n P t->P (kRun lt t)
 | .ret _,h=>h
 | .ask i j k,⟨_,_,h⟩=>Asks.run (t:=k (lt i j)) (h (lt i j))
noncomputable def Bd (n:Nat) (p:Array Nat):Prop:=0<n/\p.toList.Perm (List.range n)
theorem Bd.at {n:Nat}{p:Array Nat}(h:Bd n p) (i:Nat):p.getD i 0<n:=by
 by_cases hi:i<p.size
 ·rw[Array.getD_eq_getD_getElem?,Array.getElem?_eq_getElem hi]
  have:p[i]∈p.toList:=by simp
  exact List.mem_range.mp (h.2.mem_iff.mp this)
 ·rw[Array.getD_eq_getD_getElem?,Array.getElem?_eq_none (by omega)]
  exact h.1
theorem Bd.perm {n:Nat}{p q:Array Nat}(h:Bd n p) (r:q.Perm p):Bd n q:=⟨h.1,(Array.perm_iff_toList_perm.mp r).trans h.2⟩
section
variable {prog:Program}{w:World}{A:Around}{E:Value->Shared->Prop}{s:Shared}{b:Bool}{Q:Bool->Shared->Prop}
end
section
variable {prog:Program}{w:World}{A:Around}{E:Value->Shared->Prop}{s:Shared}
end
section
variable {ce:Str->Option Addr}{X:Cx}
end
section
variable {kf:Nat->Int}{p:Array Nat}{n i j:Nat}
noncomputable def kAt (kf:Nat->Int) (p:Array Nat) (i:Nat):Int:=kf (p.getD i 0)
noncomputable def Ris (kf:Nat->Int) (p:Array Nat) (n:Nat):Prop:=∀i j,i<=j->j<n->kAt kf p i<=kAt kf p j
noncomputable def Fal (kf:Nat->Int) (p:Array Nat) (n:Nat):Prop:=∀i j,i<=j->j<n->kAt kf p j<=kAt kf p i
theorem Ris.succ (h:Ris kf p n) (h1:1<=n) (q:kAt kf p (n-1)<=kAt kf p n):Ris kf p (n+1):=λ i j hij hj=>by
 by_cases e:j<n
 ·exact h i j hij e
 ·obtain rfl:j=n:=by omega
  by_cases e2:i=j
  ·subst e2;exact Int.le_refl _
  ·exact Int.le_trans (h i (j-1) (by omega) (by omega)) q
theorem Fal.succ (h:Fal kf p n) (h1:1<=n) (q:kAt kf p n<=kAt kf p (n-1)):Fal kf p (n+1):=λ i j hij hj=>by
 by_cases e:j<n
 ·exact h i j hij e
 ·obtain rfl:j=n:=by omega
  by_cases e2:i=j
  ·subst e2;exact Int.le_refl _
  ·exact Int.le_trans q (h i (j-1) (by omega) (by omega))
structure Dn (kf:Nat->Int) (p:Array Nat) (n q:Nat):Prop where
 f:Fal kf p n
 q1:q+1<=n
 e:∀m,n-(q+1)<=m->m<n->kAt kf p m=kAt kf p (n-1)
end
section
variable {ce:Str->Option Addr}{X:Cx}
section
variable {A:Around}{Q:Value->Shared->Prop}{E:Value->Shared->Prop}{P:PySem.Fin->Shared->Prop}{pins:List (Addr×Obj)}{σi:ISt}{σ:L2.St}{G:Hp->Prop}{fq D kS:Addr}{mk:IV->IH->Res IV}{ys:List IV}{ws:List V}{its:List Value}{ks:List Int}{e e1:Nat}{H:Hp}{ι:List Addr}{h:IH}{s:Shared}
end
end
end L3
namespace L3
open PySem PySem.Spec PyProof.Rows L2
noncomputable abbrev RisA (xs:Array Nat):Prop:=xs.toList.Pairwise (· < ·)
section
variable {xs:Array Nat}{j:Nat}
theorem RisA.get (r:RisA xs){i k:Nat}(h:i<k) (hk:k<xs.size):xs.getD i 0<xs.getD k 0:=by
 have:=List.pairwise_iff_getElem.mp r i k (by simp;omega) (by simpa using hk) h
 simpa [Array.getD,hk,Nat.lt_trans h hk] using this
theorem RisA.le (r:RisA xs){i k:Nat}(h:i<=k) (hk:k<xs.size):xs.getD i 0<=xs.getD k 0:=by
 rcases Nat.eq_or_lt_of_le h with e|e
 ·rw[e];exact Nat.le_refl _
 ·exact Nat.le_of_lt (r.get e hk)
theorem Jk0 (r:RisA xs):∀(f lo hi:Nat),lo<=hi->hi<=xs.size->hi-lo<=f->(∀i,i<lo->xs.getD i 0<j)->(∀i,hi<=i->i<xs.size->j<=xs.getD i 0)->∀x,SetTable.below.go xs j f lo hi=x->x<=xs.size/\(∀i,i<x->xs.getD i 0<j)/\∀i,x<=i->i<xs.size->j<=xs.getD i 0
 | 0,lo,hi,h1,h2,h3,a,b,x,e=>by
  obtain rfl:lo=hi:=by omega
  subst e
  exact⟨h2,a,b⟩
 | f+1,lo,hi,h1,h2,h3,a,b,x,e=>by
  unfold SetTable.below.go at e
  split at e
  ·rename_i hl
   have hm:(lo+hi)/2<xs.size:=by omega
   have gd:xs.getD ((lo+hi)/2) j=xs.getD ((lo+hi)/2) 0:=by simp[Array.getD,hm]
   dsimp only at e
   rw[gd] at e
   by_cases c:xs.getD ((lo+hi)/2) 0<j
   ·rw[if_pos c] at e
    exact Jk0 r f _ _ (by omega) h2 (by omega) (λ i hi'=>Nat.lt_of_le_of_lt (r.le (show i<=(lo+hi)/2 by omega) hm) c) b x e
   ·rw[if_neg c] at e
    exact Jk0 r f _ _ (by omega) (by omega) (by omega) a (λ i hi' hs=>Nat.le_trans (Nat.le_of_not_lt c) (r.le hi' hs)) x e
  ·obtain rfl:lo=hi:=by omega
   subst e
   exact⟨h2,a,b⟩
theorem Jk1 (r:RisA xs) (j:Nat):SetTable.below xs j<=xs.size/\(∀i,i<SetTable.below xs j->xs.getD i 0<j)/\∀i,SetTable.below xs j<=i->i<xs.size->j<=xs.getD i 0 :=
 Jk0 r xs.size 0 xs.size (Nat.zero_le _) (Nat.le_refl _) (by omega) (λ i h=>by omega) (λ i h1 h2=>by omega) _ rfl
noncomputable def Jn0 (xs:Array Nat):Nat->Nat
 | 0=>0
 | i+1=>xs.getD i 0+1
theorem Jkj (r:RisA xs):∀{i:Nat},i<=xs.size->SetTable.below xs (Jn0 xs i)=i
 | 0,_=>by
  obtain⟨h1,h2,h3⟩:=Jk1 r 0
  rcases Nat.eq_zero_or_pos (SetTable.below xs 0) with e|e
  ·exact e
  ·have:=h2 0 e;omega
 | i+1,hi=>by
  obtain⟨h1,h2,h3⟩:=Jk1 r (xs.getD i 0+1)
  show SetTable.below xs (xs.getD i 0+1)=i+1
  generalize SetTable.below xs (xs.getD i 0+1)=x at h1 h2 h3
  rcases Nat.lt_trichotomy x (i+1) with e|e|e
  ·have:=h3 i (by omega) (by omega);omega
  ·exact e
  ·have a:=h2 (i+1) e
   have b:=r.get (show i<i+1 by omega) (show i+1<xs.size by omega)
   omega
theorem RisA.insert (r:RisA xs) (hj:xs[SetTable.below xs j]?≠some j):RisA (SetTable.insertAt xs (SetTable.below xs j) j):=by
 obtain⟨h1,h2,h3⟩:=Jk1 r j
 generalize SetTable.below xs j=p at h1 h2 h3 hj
 unfold RisA
 rw[SetTable.toList_insertAt,List.pairwise_append]
 have lo:∀a∈xs.toList.take p,a<j:=λ a ha=>by
  obtain⟨i,hi,rfl⟩:=List.mem_iff_getElem.mp ha
  have hi':i<p/\i<xs.size:=by
   have:i<min p xs.size:=by simpa using hi
   omega
  have:=h2 i hi'.1
  simpa [Array.getD,hi'.2] using this
 have hi:∀a∈xs.toList.drop p,j<a:=λ a ha=>by
  obtain⟨i,hi,rfl⟩:=List.mem_iff_getElem.mp ha
  have hi':p+i<xs.size:=by
   have:i<xs.size-p:=by simpa using hi
   omega
  have ge:=h3 (p+i) (by omega) hi'
  have pz:p<xs.size:=by omega
  have np:j≠xs.getD p 0:=λ e=>hj (by rw[Array.getElem?_eq_getElem pz];simp[Array.getD,pz] at e;rw[e])
  have gp:=h3 p (Nat.le_refl _) pz
  have pi:=r.le (show p<=p+i by omega) hi'
  have:j<xs.getD (p+i) 0:=by omega
  simpa [Array.getD,hi'] using this
 exact⟨List.Pairwise.sublist (List.take_sublist _ _) r,List.pairwise_cons.mpr ⟨hi,List.Pairwise.sublist (List.drop_sublist _ _) r⟩,λ a ha b hb=>by
  rcases List.mem_cons.mp hb with rfl|hb
  ·exact lo a ha
  ·exact Nat.lt_trans (lo a ha) (hi b hb)⟩
end
structure Tb (led:Bool) (t:SetTable):Prop where
 r:RisA t.place
 d:t.dummies=#[]
 l:t.led=led
section
variable {t:SetTable}{led:Bool}
theorem Tb.standIn (b:Tb led t) (n:Nat):Tb led (t.standIn n):=⟨by show(Array.range n).toList.Pairwise _;rw[Array.toList_range];exact List.pairwise_lt_range,rfl,b.l⟩
theorem Tb.orStandIn (b:Tb led t) (n:Nat):Tb led (t.orStandIn n):=by
 unfold SetTable.orStandIn
 split
 ·exact b
 ·exact b.standIn n
theorem Jt0 (j:Nat):SetTable.has #[] j=false:=by
 unfold SetTable.has
 simp
theorem Jqk (d:t.dummies=#[]){f:Nat->Int}{h:Int}:∀(n:Nat) (p:SetTable.Probe),p.dummy=none->∀j dm,SetTable.probe.go t f h n p=some (.empty j dm)->dm=none/\t.place[SetTable.below t.place j]?≠some j
 | 0,p,_,j,dm,e=>by cases e
 | n+1,p,hp,j,dm,e=>by
  have adv:(t.advance p).dummy=none:=by
   unfold SetTable.advance
   split
   ·exact hp
   ·exact hp
  unfold SetTable.probe.go at e
  unfold SetTable.slot at e
  dsimp only at e
  by_cases c:(t.place[SetTable.below t.place p.j]?==some p.j)=true
  ·rw[if_pos c] at e
   dsimp only at e
   split at e
   ·cases e
   ·exact Jqk d n _ adv j dm e
  ·rw[if_neg c,d,Jt0] at e
   simp only[Bool.false_eq_true,if_false,Option.some.injEq,SetTable.Met.empty.injEq] at e
   obtain⟨rfl,rfl⟩:=e
   exact⟨hp,λ z=>c (beq_iff_eq.mpr z)⟩
theorem Tb.free (b:Tb led t){h:Int}{sl:Nat}{wd:Bool}(e:t.freeSlot h=some (sl,wd)):t.place[SetTable.below t.place sl]?≠some sl:=by
 unfold SetTable.freeSlot at e
 split at e
 ·rename_i j dm ep
  obtain⟨rfl,q⟩:=Jqk b.d _ _ rfl j dm ep
  simp only[Option.some.injEq,Prod.mk.injEq] at e
  rw[<- e.1]
  exact q
 ·cases e
theorem Tb.layNew (b:Tb led t) (es:Array (Int×Value)) (h:Int) (x:Value):Tb led (layNew t es h x).2.1:=by
 unfold PySem.layNew
 split
 ·rename_i sl wd e
  refine Tb.orStandIn ?_ _
  refine⟨b.r.insert (b.free e),?_,b.l⟩
  show(if SetTable.has t.dummies sl then _ else t.dummies)=#[]
  rw[b.d,Jt0]
  rfl
 ·exact b.standIn _
theorem Tb.laid {mask fi mo:Nat}{pl:Bool}{hs:Array Int}{t':SetTable}{o:Array Nat}(e:SetTable.laid mask fi mo led pl hs=some (t',o)):Tb led t':=by
 unfold SetTable.laid at e
 cases q:SetTable.layClean mask hs with
 | none=>rw[q] at e;cases e
 | some ow =>
  rw[q] at e
  have e:some _=some (t',o):=e
  simp only[Option.some.injEq,Prod.mk.injEq] at e
  obtain⟨rfl,_⟩:=e
  refine⟨?_,rfl,rfl⟩
  show(List.map _ _).Pairwise _
  rw[List.pairwise_map]
  refine List.Pairwise.filterMap _ (λ a a' hlt b hb b' hb'=>?_) List.pairwise_lt_range
  obtain⟨_,_,rfl⟩:=Option.map_eq_some_iff.mp hb
  obtain⟨_,_,rfl⟩:=Option.map_eq_some_iff.mp hb'
  exact hlt
theorem Tb.relayAll (b:Tb led t) (es:Array (Int×Value)) (w:Nat):Tb led (relayAll t es w).2.1:=by
 unfold PySem.relayAll
 split
 ·rename_i t' o e
  dsimp only
  split
  ·unfold SetTable.relaid at e
   rw[b.l] at e
   exact Tb.laid e
  ·exact b.standIn _
 ·exact b.standIn _
end
theorem Jg6 {α:Type}:∀{l:List α}{i:Nat}{x:α},l[i]?=some x->(x::l.eraseIdx i).Perm l
 | [],i,x,e=>by simp at e
 | a::l,0,x,e=>by
  simp only[List.getElem?_cons_zero,Option.some.injEq] at e
  subst e
  exact List.Perm.refl _
 | a::l,i+1,x,e=>by
  simp only[List.getElem?_cons_succ] at e
  exact(List.Perm.swap a x _).trans ((Jg6 e).cons a)
theorem Jus {α:Type}{nx:Nat->Nat}:∀(f k:Nat) (l:List α) (out:Array α),l.length<=f->(pickOrder.go nx f k l out).toList.Perm (out.toList++l)
 | 0,k,l,out,h=>by
  obtain rfl:l=[]:=List.eq_nil_of_length_eq_zero (by omega)
  unfold pickOrder.go
  simp
 | f+1,k,l,out,h=>by
  unfold pickOrder.go
  cases e:l[nx k%l.length]? with
  | none =>
   have:l=[]:=by
    cases l with
    | nil=>rfl
    | cons a l =>
     have:nx k%(a::l).length<(a::l).length:=Nat.mod_lt _ (by simp)
     rw[List.getElem?_eq_getElem this] at e
     cases e
   subst this
   simp
  | some x =>
   dsimp only
   have hl:=(List.getElem?_eq_some_iff.mp e).1
   refine(Jus f (k+1) _ _ (by rw[List.length_eraseIdx_of_lt hl];omega)).trans ?_
   rw[Array.toList_push,List.append_assoc]
   exact(Jg6 e).append_left _
theorem Jut {α:Type}(nx:Nat->Nat) (xs:Array α):(pickOrder nx xs).toList.Perm xs.toList:=by
 have:=Jus (nx:=nx) xs.size 0 xs.toList #[] (by simp)
 unfold pickOrder
 simpa using this
noncomputable abbrev byT (wd:World):Bool:=wd.params.followText "set-order"
noncomputable abbrev ents (es:Array (Int×Value)):List Int:=es.toList.map λ e=>numOf e.2
noncomputable def AllI (es:List (Int×Value)):Prop:=∀e∈es,∃n t,e=(hashInt n,Value.int n t)
noncomputable def SetI (wd:World) (h:Heap) (a:Addr) (ns:List Int):Prop:=∃o es ep t,h.get? a=some o/\o.ExactSet/\o.data=.set es ep t/\AllI es.toList/\ents es=ns/\es.size<scanBound/\t.fits es.size=true/\Tb (!byT wd) t
theorem SetI.moved {wd:World}{hp h2:Heap}{a:Addr}{ns:List Int}(q:SetI wd hp a ns) (m:∀o,hp.get? a=some o->h2.get? a=some o):SetI wd h2 a ns:=by
 obtain⟨o,es,ep,t,ho,rest⟩:=q
 exact⟨o,es,ep,t,m o ho,rest⟩
theorem AllI.perm {l l':List (Int×Value)}(h:AllI l) (p:l'.Perm l):AllI l':=λ e he=>h e (p.mem_iff.mp he)
theorem AllI.elems {pr:Program}{wd:World}{l:List (Int×Value)}(h:AllI l):ElemsOf (PySem.intKind pr wd) l:=λ e he=>by
 obtain⟨n,t,rfl⟩:=h e he
 exact⟨⟨n,intKind_is _ _ _ _,rfl⟩,rfl⟩
section
variable {pr:Program}{wd:World}{A:Around}{E:Value->Shared->Prop}{s:Shared}{a:Addr}
theorem Juv {h:Heap}{o:Obj}{es:Array (Int×Value)}{ep:Nat}{t:SetTable}{es':Array (Int×Value)}{t':SetTable}(ho:h.get? a=some o) (hd:o.data=.set es ep t):(h.update a (Obj.putSet es' t')).get? a=some { o with data:=.set es' (ep+1) t' }:=by
 have:=Heap.get?_update_self (Obj.putSet es' t') ho (by rw[putSet_of es' t' hd];rfl)
 rwa [putSet_of es' t' hd] at this
theorem Jqc {b:Bool}{s1:Shared}{Q:Unit->Shared->Prop}(h:Q () s1):wpAny (model pr wd) A (match b with|true=>rule "set.scan.the-table-gave-way"|false=>pure ()) Q E s1:=by
 cases b<;>first|exact wpAny_pure h|exact wpAny_rule h
theorem Jx5 {n:Int}{tk:Tok}{ns:List Int}{Q:Bool->Shared->Prop}(hS:SetI wd s.heap a ns) (room:ns.length+1<scanBound)
  (h:∀b h' ns',Heap.SameBut a s.heap h'->SetI wd h' a ns'->ns'.Perm (if n∈ns then ns else ns++[n])->Q b { s with heap:=h' }):wpAny (model pr wd) A (setAddHashed a (.int n tk) (hashInt n)) Q E s:=by
 obtain⟨o,es,ep,t,ho,hex,hd,ai,en,hb,hf,tb⟩:=hS
 have hel:ElemsOf (PySem.intKind pr wd) es.toList:=ai.elems
 have hkey:(PySem.intKind pr wd).is n (.int n tk)=true:=intKind_is _ _ _ _
 have lz:es.size=ns.length:=by rw[<- en,List.length_map,Array.length_toList]
 unfold setAddHashed setAddHashedIn
 refine wpAny_holding (wpAny_bind (wpAny_setState_of ho hd hf ?_))
 dsimp only
 rw[byScan_of (knd:=PySem.intKind pr wd) rfl hb hel]
 simp only[↓reduceIte]
 unfold setAddByScan
 refine wpAny_bind ?_
 refine wpAny_bind (wpAny_rule ?_)
 refine wpAny_bind (wpAny_setScan_of (knd:=PySem.intKind pr wd) hkey ho hd hf hel ?_)
 cases hr:List.findIdx? (λ e=>(PySem.intKind pr wd).is n e.2) es.toList with
 | some j =>
  dsimp only
  obtain⟨hj,hpj,_⟩:=List.findIdx?_eq_some_iff_getElem.mp hr
  have mem:n∈ns:=by
   rw[<- en]
   refine List.mem_map.mpr ⟨es.toList[j],List.getElem_mem hj,?_⟩
   obtain⟨m,t',e⟩:=ai _ (List.getElem_mem hj)
   rw[e] at hpj ⊢
   exact(PySem.intKind pr wd).inj _ _ _ (intKind_is _ _ _ _) hpj
  refine wpAny_pure (wpAny_pure ?_)
  have e:s={ s with heap:=s.heap }:=by cases s;rfl
  rw[e]
  exact h _ s.heap ns (Heap.SameBut.refl a s.heap) ⟨o,es,ep,t,ho,hex,hd,ai,en,hb,hf,tb⟩ (by rw[if_pos mem])
 | none =>
  dsimp only
  have nmem:n∉ns:=λ m=>by
   rw[<- en] at m
   obtain⟨e,he,q⟩:=List.mem_map.mp m
   obtain⟨m',t',rfl⟩:=ai e he
   have q:m'=n:=q
   subst q
   have:=List.findIdx?_eq_none_iff.mp hr _ he
   rw[show(PySem.intKind pr wd).is m' (.int m' t')=true from intKind_is _ _ _ _] at this
   cases this
  have hperm:=layNew_perm t es (hashInt n) (.int n tk)
  have hfits:=layNew_fits t es (hashInt n) (.int n tk)
  have tb1:=tb.layNew es (hashInt n) (.int n tk)
  generalize layNew t es (hashInt n) (.int n tk)=L at hperm hfits tb1 ⊢
  obtain⟨es1,t1,wasDummy,gave⟩:=L
  dsimp only at hperm hfits tb1 ⊢
  rw[Array.toList_push] at hperm
  have ai1:AllI es1.toList:=AllI.perm (λ e he=>by
   rcases List.mem_append.mp he with he|he
   ·exact ai e he
   ·rw[List.mem_singleton.mp he];exact⟨n,tk,rfl⟩) hperm
  have en1:(ents es1).Perm (ns++[n]):=by
   have:=hperm.map λ e=>numOf e.2
   rw[List.map_append] at this
   rwa [show es.toList.map (λ e=>numOf e.2)=ns from en] at this
  have sz1:es1.size=es.size+1:=by rw[<- Array.length_toList,hperm.length_eq,List.length_append,Array.length_toList];rfl
  have hb1:es1.size<scanBound:=by omega
  have fin:∀h' ns',Heap.SameBut a s.heap h'->SetI wd h' a ns'->ns'.Perm (ents es1)->Q true { s with heap:=h' }:=λ h' ns' sb q p=>h true h' ns' sb q (by rw[if_neg nmem];exact p.trans en1)
  refine wpAny_bind (Jqc ?_)
  have tail:∀{R:Option Bool->Shared->Prop},(∀h' ns',Heap.SameBut a s.heap h'->SetI wd h' a ns'->ns'.Perm (ents es1)->R (some true) { s with heap:=h' })->wpAny (model pr wd) A (do
    storeSet a es1 t1
    if (!wasDummy&&t1.tooFull)=true then do
      (match (relayAll t1 es1 (SetTable.grown es1.size)).2.2 with|true=>rule "set.scan.the-table-gave-way"|false=>pure ())
      storeSet a (relayAll t1 es1 (SetTable.grown es1.size)).1 (relayAll t1 es1 (SetTable.grown es1.size)).2.1
      pure (some true)
     else pure (some true)) R E s:=λ {R} hR=>by
   refine wpAny_bind (wpAny_storeSet_of ho hd ?_ (fits_of_scanBound hb1))
   have ho1:=Juv (es':=es1) (t':=t1) ho hd
   have sb1:=Heap.SameBut.update s.heap a (Obj.putSet es1 t1)
   split
   ·have hp:=relayAll_perm t1 es1 (SetTable.grown es1.size)
    have hfr:=relayAll_fits t1 es1 (SetTable.grown es1.size)
    have tb2:=tb1.relayAll es1 (SetTable.grown es1.size)
    generalize relayAll t1 es1 (SetTable.grown es1.size)=Rl at hp hfr tb2 ⊢
    obtain⟨es2,t3,gave2⟩:=Rl
    dsimp only at hp hfr tb2 ⊢
    have sz2:es2.size=es1.size:=by rw[<- Array.length_toList,hp.length_eq,Array.length_toList]
    refine wpAny_bind (Jqc ?_)
    refine wpAny_bind (wpAny_storeSet_of ho1 rfl ?_ (fits_of_scanBound (by omega)))
    exact wpAny_pure (hR _ _ (sb1.trans (Heap.SameBut.update _ a _)) ⟨_,es2,ep+1+1,t3,Juv ho1 rfl,hex,rfl,ai1.perm hp,rfl,by omega,hfr,tb2⟩ (hp.map _))
   ·exact wpAny_pure (hR _ _ sb1 ⟨_,es1,ep+1,t1,ho1,hex,rfl,ai1,rfl,hb1,hfits,tb1⟩ (List.Perm.refl _))
  split
  ·refine wpAny_bind ?_
   rw[hashByValue_scannable 8 (x:=.int n tk) rfl]
   refine wpAny_pure ?_
   exact tail λ h' ns' sb q p=>by dsimp only;exact wpAny_pure (fin h' ns' sb q p)
  ·refine wpAny_bind (wpAny_pure ?_)
   simp only[↓reduceIte]
   exact tail λ h' ns' sb q p=>by dsimp only;exact wpAny_pure (fin h' ns' sb q p)
end
noncomputable def ddN (f:Nat->Int):Nat->List Int
 | 0=>[]
 | i+1=>if f i∈ddN f i then ddN f i else ddN f i++[f i]
theorem Jtb (f:Nat->Int):∀i,(ddN f i).length<=i
 | 0=>Nat.le_refl _
 | i+1=>by
  have:=Jtb f i
  unfold ddN
  split
  ·omega
  ·rw[List.length_append,List.length_singleton];omega
theorem Jwp {f:Nat->Int}{i:Nat}{ms:List Int}(p:ms.Perm (ddN f i)):(if f i∈ms then ms else ms++[f i]).Perm (ddN f (i+1)):=by
 unfold ddN
 by_cases c:f i∈ms
 ·rw[if_pos c,if_pos (p.mem_iff.mp c)];exact p
 ·rw[if_neg c,if_neg (λ z=>c (p.mem_iff.mpr z))];exact p.append_right _
theorem Jtc (f:Nat->Int) (x:Int):∀i,x∈ddN f i↔∃j,j<i/\x=f j
 | 0=>by simp[ddN]
 | i+1=>by
  have ih:=Jtc f x i
  unfold ddN
  constructor
  ·intro h
   split at h
   ·obtain⟨j,hj,e⟩:=ih.mp h;exact⟨j,by omega,e⟩
   ·rcases List.mem_append.mp h with h|h
    ·obtain⟨j,hj,e⟩:=ih.mp h;exact⟨j,by omega,e⟩
    ·exact⟨i,by omega,List.mem_singleton.mp h⟩
  ·rintro⟨j,hj,rfl⟩
   by_cases e:j=i
   ·subst e
    split
    ·assumption
    ·exact List.mem_append_right _ (List.mem_singleton.mpr rfl)
   ·have:=ih.mpr ⟨j,by omega,rfl⟩
    split
    ·exact this
    ·exact List.mem_append_left _ this
noncomputable abbrev Jbu (zs:List Int):Nat->Int:=λ i=>zs.getD i 0
noncomputable def SetD (wd:World) (h:Heap) (a:Addr) (f:Nat->Int) (i:Nat):Prop:=∃ms,SetI wd h a ms/\ms.Perm (ddN f i)
theorem SetD.moved {wd:World}{hp h2:Heap}{a:Addr}{f:Nat->Int}{i:Nat}(q:SetD wd hp a f i) (m:∀o,hp.get? a=some o->h2.get? a=some o):SetD wd h2 a f i:=by
 obtain⟨ms,h,p⟩:=q
 exact⟨ms,h.moved m,p⟩
section
variable {pr:Program}{wd:World}{B:Around}{R:Result->Shared->Prop}{it:Addr}{fps wrs:List Addr}{G:Array GenState->Array GenState->Prop}{n:Nat}{P:Nat->Value->Prop}{St:Nat->Shared->Prop}
theorem Ju3 (W:WalksS pr wd B.in1 it fps wrs G n P St) (C:Addr) (hC:C∉fps) (f:Nat->Int) (hf:∀i v,P i v->∃t,v=.int (f i) t) (room:n+1<scanBound) :
  ∀(r i:Nat) (z:Shared),n-i=r->i<=n->St i z->SetD wd z.heap C f i->(∀z2,Moved (C::wrs) G z z2->SetD wd z2.heap C f n->R (.ok (.ret .none)) z2) ->
   codeAny (model pr wd) B (.builtin "set.update.loop" ⟨[.ref C,.ref it],[]⟩) R z:=by
 have nw:C∉wrs:=λ q=>hC (W.sub _ q)
 have more:∀b∈wrs,b∈C::wrs:=λ b q=>List.mem_cons_of_mem _ q
 intro r
 induction r with
 | zero =>
  intro i z hr hi st hS fin
  obtain rfl:i=n:=by omega
  refine codeAny_builtin PyProof.Rows.F.entry_set_update_loop ?_
  rw[Around.under_plainId PyProof.Rows.F.plain_set_update_loop _]
  show wpAny _ B.in1 (pyNext (.ref it)>>=_) _ _ z
  refine wpAny_bind (W.done z _ _ st λ z2 mv=>?_)
  show wpAny _ B.in1 (ret Value.none) _ _ z2
  exact wpAny_pure (fin z2 (mv.mono more) (hS.moved λ o e=>mv.heap C _ nw e))
 | succ r ih =>
  intro i z hr hi st hS fin
  have lt:i<n:=by omega
  refine codeAny_builtin PyProof.Rows.F.entry_set_update_loop ?_
  rw[Around.under_plainId PyProof.Rows.F.plain_set_update_loop _]
  show wpAny _ B.in1 (pyNext (.ref it)>>=_) _ _ z
  refine wpAny_bind (W.item i z _ _ lt st λ v z2 hP st2 mv=>?_)
  obtain⟨t,rfl⟩:=hf i v hP
  have hS2:SetD wd z2.heap C f i:=hS.moved λ o e=>mv.heap C _ nw e
  show wpAny _ B.in1 (holding [Value.int (f i) t] (setAdd C (.int (f i) t))>>=_) _ _ z2
  refine wpAny_bind (wpAny_holding ?_)
  unfold setAdd
  refine wpAny_holding ?_
  refine wpAny_bind (wpAny_pyHash_int ?_)
  obtain⟨ms,hm,pm⟩:=hS2
  have lm:ms.length<=i:=by rw[pm.length_eq];exact Jtb f i
  refine Jx5 (s:={ z2 with toks:=z2.toks+1 }) hm (by omega) λ _ h3 ms' sb hm' pm'=>?_
  have hS4:SetD wd h3 C f (i+1):=⟨ms',hm',pm'.trans (Jwp pm)⟩
  refine wpAny_pure ⟨plainId_quiet PyProof.Rows.F.plain_set_update_loop _,ih (i+1) _ (by omega) lt (W.frame _ z2 _ _ st2 (Nat.le_succ _) λ b q o e=>?_) hS4 λ z5 m5 hS5=>?_⟩
  ·rw[sb.2 b (λ e2:b=C=>hC (by rw[<- e2];exact q))];exact e
  ·refine fin z5 (Moved.trans W.gtrans ((mv.mono more).then_heap (Nat.le_succ _) λ b o q e=>?_) m5) hS5
   rw[sb.2 b (λ e2:b=C=>q (by rw[e2];exact List.mem_cons_self))];exact e
end
section
variable {pr:Program}{wd:World}{A B:Around}{E:Value->Shared->Prop}{s z:Shared}{l:Addr}{us:List Value}{zs:List Int}{Q:Value->Shared->Prop}
theorem Jx8 (a:Value){Q₁:Value->Shared->Prop}(h:Q₁ (.ref s.heap.objs.size) { s with heap:=s.heap.push (Jz (!byT wd)) }):codeAny (model pr wd) A (.call (.builtin "set.__new__") ⟨[.type "set",a],[]⟩) (wants Q₁ E) s:=by
 refine codeAny_of_tree ?_
 show wpAny _ A.in1 (do checkBuiltinCall "set.__new__" ⟨[.type "set",a],[]⟩;again (.builtin "set.__new__" ⟨[.type "set",a],[]⟩)) _ _ s
 refine wpAny_bind (wpAny_of_eq (PySem.F.newCall_set_1 a) (wpAny_pure ⟨plainId_quiet PySem.F.plain_set_new _,codeAny_builtin PySem.F.entry_set_new ?_⟩))
 rw[Around.under_plainId PySem.F.plain_set_new _]
 unfold Builtin.«set.__new__» Builtin.Frozenset.newClass
 have hsub:=PySem.sub_set_self
 obtain⟨hp,g,d,tk,os⟩:=s
 dsimp only
 wp_walk
 refine wpAny_askSetting (wpAny_pure ?_)
 dsimp only
 simp only[newObj]
 refine wpAny_bind (wpAny_alloc (wpAny_pure ?_))
 exact wpAny_pure h
set_option maxRecDepth 100000 in
theorem Ju2 (hh:B.handled=none) (hl:z.heap.IsList l us.toArray) (hi:IntsAre us zs) (room:zs.length+1<scanBound)
  (fin:∀(h2:Heap) (tk:Nat),SetD wd h2 z.heap.objs.size (Jbu zs) zs.length->(∀b o,z.heap.get? b=some o->h2.get? b=some o)->Q (.ref z.heap.objs.size) { z with heap:=h2,toks:=tk }) :
  wpAny (model pr wd) B (call (.type "set") [.ref l]) Q E z:=by
 have len:us.toArray.size=zs.length:=by rw[List.size_toArray,hi.length]
 have vals:∀(i:Nat) (v:Value),us.toArray[i]?=some v->∃t,v=.int (Jbu zs i) t:=λ i v q=>by
  have q:us[i]?=some v:=by simpa using q
  have hz:i<zs.length:=by have:=(List.getElem?_eq_some_iff.mp q).1;have:=hi.length;omega
  obtain⟨t,e⟩:=hi.get i _ (List.getElem?_eq_getElem hz)
  rw[q] at e
  cases e
  exact⟨t,by simp[Jbu,hz]⟩
 obtain⟨c,tl,hmro⟩:=PySem.F.called_set.mro
 have hmade:=PySem.F.called_set.made
 have hsub:=PySem.F.called_set.sub
 refine wpAny_call (codeAny_of_tree ?_)
 show wpAny _ _ (callAny (.type "set") _) _ _ _
 refine wpAny_pure ⟨Code.quiet_builtin _ (by decide +kernel),codeAny_builtin PySem.F.entry_type_call ?_⟩
 rw[Around.under_plain (weight_type_call_type "set" [.ref l] []) rfl]
 have no1:=PySem.F.called_set.notType
 have no2:=PySem.F.called_set.canCreate
 have ok1:=PySem.F.typeCall_set_1 (.ref l)
 repeat (any_goals (first|assumption|wp_step))
 refine codeAny_mono (Jx8 (.ref l) (E:=E) (Q₁:=λ obj z1=>obj=.ref z.heap.objs.size/\z1={ z with heap:=z.heap.push (Jz (!byT wd)) }) ⟨rfl,rfl⟩) λ res z1 hr=>?_
 cases res with
 | error e=>exact hr
 | ok fl =>
  cases fl with
  | ret obj =>
   obtain⟨rfl,rfl⟩:=hr
   have gS:(z.heap.push (Jz (!byT wd))).get? z.heap.objs.size=some (Jz (!byT wd)):=Heap.get?_push_size _ rfl
   have tS:Shared.TypeIs { z with heap:=z.heap.push (Jz (!byT wd)) } (.ref z.heap.objs.size) "set":=⟨_,gS,rfl⟩
   have in1:=PySem.F.called_set.init.lookup
   have in2:=PySem.F.called_set.init.bind (.ref z.heap.objs.size)
   repeat (any_goals (first|assumption|wp_step))
   refine codeAny_mono (codeAny_call_builtin (R:=wants (λ res z2=>res=.none/\∃h2 tk,z2={ z with heap:=h2,toks:=tk }/\SetD wd h2 z.heap.objs.size (Jbu zs) zs.length/\(∀b o,z.heap.get? b=some o->h2.get? b=some o)) E)
    PySem.F.called_set.init.plain PySem.F.entry_set_init (check_set_init_1 tS ?_)) λ res2 z2 hr2=>?_
   ·obtain⟨ol,hol,hcl,nl,hdl⟩:=hl
    obtain⟨ocls,odict,odata,oslots⟩:=ol
    simp only at hcl hdl
    subst hcl;subst hdl
    have gl:(z.heap.push (Jz (!byT wd))).get? l=some { cls:=.type "list",dict:=odict,data:=.seq us.toArray nl,slots:=oslots }:=Heap.get?_push_of_some _ hol
    have sb1:=PySem.F.sub_list_set
    have sb2:=PySem.F.sub_list_frozenset
    have dne:(Value.type "list"==Value.type "dict")=false:=by decide
    have hl1:(z.heap.push (Jz (!byT wd))).IsList l us.toArray:=⟨_,gl,rfl,nl,rfl⟩
    unfold Builtin.«set.__init__» noKeywords Builtin.Frozenset.updateFrom
    generalize hPI:pyIter=PI
    wp_walk
    subst hPI
    refine wpAny_pyIter_list hl1 ?_
    refine wpAny_bind (wpAny_runValue ?_)
    have lS:l<z.heap.objs.size:=Heap.lt_size hol
    have h3:B.in1.in1.in1.handled=none:=by simp[hh]
    have neI:l≠(z.heap.push (Jz (!byT wd))).objs.size:=by rw[Heap.size_push];exact Nat.ne_of_lt (Nat.lt_succ_of_lt lS)
    have nC:z.heap.objs.size∉[(z.heap.push (Jz (!byT wd))).objs.size,l]:=by
     rw[Heap.size_push]
     simp only[List.mem_cons,List.not_mem_nil,or_false,not_or]
     exact⟨Nat.ne_of_lt (Nat.lt_succ_self _),Nat.ne_of_gt lS⟩
    refine Ju3 ((Walks.list h3 _ l neI us.toArray).toS) z.heap.objs.size nC (Jbu zs) vals (by rw[len];exact room) (us.toArray.size-0) 0 _ (by omega) (Nat.zero_le _) ⟨⟨_,Heap.get?_push_size _ rfl,rfl,rfl⟩,(hl1.push _)⟩ ?start ?stop
    case start =>
     have g0:((z.heap.push (Jz (!byT wd))).push { cls:=.type "list_iterator",data:=.fields #[.ref l,.int 0 0] }).get? z.heap.objs.size=some (Jz (!byT wd)):=Heap.get?_push_of_some _ gS
     exact⟨[],⟨_,#[],0,_,g0,⟨rfl,rfl,rfl⟩,rfl,(λ e he=>by simp at he),rfl,by decide,rfl,⟨.nil,rfl,rfl⟩⟩,List.Perm.refl _⟩
    case stop =>
     intro z5 mv hS5
     obtain⟨h5,g5,d5,tk5,os5⟩:=z5
     have eg:g5=z.gens:=mv.gens
     have ed:d5=z.drawn:=mv.drawn
     have eo:os5=z.os:=mv.os
     subst eg;subst ed;subst eo
     show wpAny _ _ _ _ _ _
     refine wpAny_pure ?_
     show wpAny _ _ (ret Value.none) _ _ _
     rw[len] at hS5
     refine wpAny_pure ⟨rfl,h5,tk5,rfl,hS5,λ b o e=>?_⟩
     have lb:=Heap.lt_size e
     have b1:b≠z.heap.objs.size:=Nat.ne_of_lt lb
     have b2:b≠(z.heap.push (Jz (!byT wd))).objs.size:=by rw[Heap.size_push];exact Nat.ne_of_lt (Nat.lt_succ_of_lt lb)
     exact mv.heap b o (by simp only[List.mem_cons,List.not_mem_nil,or_false,not_or];exact⟨b1,b2⟩) (Heap.get?_push_of_some _ (Heap.get?_push_of_some _ e))
   ·cases res2 with
    | error e=>exact hr2
    | ok fl2 =>
     cases fl2 with
     | ret rv =>
      obtain⟨rfl,h2,tk,rfl,hS2,keep⟩:=hr2
      repeat (any_goals (first|assumption|wp_step))
      exact fin _ _ hS2 keep
     | _=>exact hr2.elim
  | _=>exact hr.elim
end
theorem Jbp:Slot "set_iterator" "__next__" "set_iterator.__next__" :=
 .of (owner:="set_iterator") (n:="__next__") (by rw[typeLookup_type,builtinLookup_eq_fast];kernel_rfl) (by decide +kernel) (by decide +kernel) (by decide +kernel) (by first|exact .inl (by decide +kernel)|exact .inr (by decide +kernel)) (by rw[isSubtype_type];kernel_rfl)
theorem Jqp:Slot "set_iterator" "__iter__" "set_iterator.__iter__" :=
 .of (owner:="set_iterator") (n:="__iter__") (by rw[typeLookup_type,builtinLookup_eq_fast];kernel_rfl) (by decide +kernel) (by decide +kernel) (by decide +kernel) (by first|exact .inl (by decide +kernel)|exact .inr (by decide +kernel)) (by rw[isSubtype_type];kernel_rfl)
theorem Jig:entryFor table "set_iterator.__next__"=some Builtin.«set_iterator.__next__» :=entryFor_of_fast (by kernel_rfl)
theorem Jkz (a:Value):argsOk "set_iterator.__next__" ⟨[a],[]⟩:=by unfold argsOk;kernel_rfl
theorem Jtp:entryFor table "set.__iter__"=some Builtin.«frozenset.__iter__» :=entryFor_alias (id':="frozenset.__iter__") (by kernel_rfl) rfl (by decide +kernel) (by kernel_rfl)
noncomputable def IsSI (h:Heap) (it:Addr) (F:Value) (i:Nat) (a:Addr) (n ep:Nat):Prop:=∃o,h.get? it=some o/\o.cls=.type "set_iterator"/\o.data=.fields #[F,.int i 0,.ref a,.int n 0,.int ep 0]
theorem IsSI.ty {s:Shared}{it:Addr}{F:Value}{i:Nat}{a:Addr}{n ep:Nat}(x:IsSI s.heap it F i a n ep):s.TypeIs (.ref it) "set_iterator":=let ⟨o,ho,hc,_⟩:=x;⟨o,ho,hc⟩
section
variable {pr:Program}{wd:World}{A:Around}{E:Value->Shared->Prop}{s:Shared}{a it:Addr}{o:Obj}{es:Array (Int×Value)}{ep i n sl:Nat}{t:SetTable}
theorem Joa (hb:byT wd=true) (ho:s.heap.get? a=some o) (hd:o.data=.set es ep t) (hf:t.fits es.size=true){Q:Option (Value×Nat)->Shared->Prop}
  (h:Q (((pickOrder (wd.params.setOrder a ep) es)[i]?).map λ e=>(e.2,sl)) s):wpAny (model pr wd) A (setNext a sl i ep) Q E s:=by
 unfold setNext
 refine wpAny_bind (wpAny_setState_of ho hd hf ?_)
 unfold setsByText
 refine wpAny_bind (wpAny_bind (wpAny_askSetting (wpAny_pure ?_)))
 show wpAny _ _ (if byT wd=true then _ else _) _ _ s
 rw[if_pos hb]
 dsimp only
 rw[if_neg (by simp)]
 unfold setWalk setsByText
 refine wpAny_bind (wpAny_bind (wpAny_setState_of ho hd hf ?_))
 refine wpAny_bind (wpAny_bind (wpAny_askSetting (wpAny_pure ?_)))
 show wpAny _ _ (if byT wd=true then _ else _) _ _ s
 rw[if_pos hb]
 exact wpAny_bind (wpAny_askSetting (wpAny_pure (wpAny_pure h)))
theorem Jqv (hb:byT wd=false) (ho:s.heap.get? a=some o) (hd:o.data=.set es ep t) (hf:t.fits es.size=true) (hp:(!t.plain&&decide (es.size>1))=false) (hl:t.led=true){Q:Option (Value×Nat)->Shared->Prop}
  (h:Q (match es[SetTable.below t.place sl]?,t.place[SetTable.below t.place sl]? with|some (_,x),some j=>some (x,j+1)|_,_=>none) s):wpAny (model pr wd) A (setNext a sl i ep) Q E s:=by
 unfold setNext
 refine wpAny_bind (wpAny_setState_of ho hd hf ?_)
 unfold setsByText
 refine wpAny_bind (wpAny_bind (wpAny_askSetting (wpAny_pure ?_)))
 show wpAny _ _ (if byT wd=true then _ else _) _ _ s
 rw[if_neg (by rw[hb];exact Bool.false_ne_true)]
 show wpAny _ _ (if (!t.plain&&decide (es.size>1))=true then _ else _) _ _ s
 rw[if_neg (by rw[hp];exact Bool.false_ne_true)]
 refine wpAny_bind (show wpAny _ _ (if (!t.led&&!es.isEmpty)=true then _ else _) _ _ s from ?_)
 rw[hl]
 simp only[Bool.not_true,Bool.false_and,Bool.false_eq_true,if_false]
 exact wpAny_pure (wpAny_pure h)
theorem Jsk {p:Nat}{x:Int×Value}(ho:s.heap.get? a=some o) (hd:o.data=.set es ep t) (hf:t.fits es.size=true) (hx:es[p]?=some x){Q:Value->Shared->Prop}(h:Q x.2 s):wpAny (model pr wd) A (setNextDrawn a p ep) Q E s:=by
 unfold setNextDrawn
 refine wpAny_bind (wpAny_setState_of ho hd hf ?_)
 dsimp only
 rw[if_neg (by simp),hx]
 exact wpAny_pure h
theorem J1u {x:Value}{nx:Nat}{Q:Option Value->Shared->Prop}(hit:IsSI s.heap it (.int sl 0) i a n ep) (ho:s.heap.get? a=some o) (hd:o.data=.set es ep t) (hf:t.fits es.size=true) (hn:es.size=n)
  (hN:∀(Q':Option (Value×Nat)->Shared->Prop) (E':Value->Shared->Prop),Q' (some (x,nx)) s->wpAny (model pr wd) A.in1 (setNext a sl i ep) Q' E' s)
  (hQ:∀h',IsSI h' it (.int nx 0) (i+1) a n ep->Heap.SameBut it s.heap h'->Q (some x) { s with heap:=h' }):wpAny (model pr wd) A (pyNext (.ref it)) Q E s:=by
 obtain⟨oi,hi,hc,hdi⟩:=id hit
 unfold pyNext
 refine wpAny_bind (wpAny_attempt (wpAny_callSpecial?_slot (name:=Str.ofString "__next__") hit.ty Jbp (wpAny_call_entry Jbp hit.ty Jig ?_ (Jkz _))))
 unfold Builtin.«set_iterator.__next__»
 refine wpAny_bind (wpAny_pure ?_)
 refine wpAny_bind (wpAny_fieldsOf hi hdi ?_)
 show wpAny _ A.in1 (setEntries a>>=_) _ _ s
 refine wpAny_bind (wpAny_setEntries_of ho hd hf ?_)
 rw[if_neg (by rw[hn];simp)]
 show wpAny _ A.in1 (setNext a sl i ep>>=_) _ _ s
 refine wpAny_bind (hN _ _ ?_)
 show wpAny _ A.in1 (setField (.ref it) 0 (rawInt nx)>>=_) _ _ s
 refine wpAny_bind (wpAny_setField hi hdi (by simp) ?_)
 have h1:(s.heap.update it (Obj.mapFields (·.setIfInBounds 0 (rawInt (nx:Int))))).get? it=some (oi.mapFields (·.setIfInBounds 0 (rawInt (nx:Int)))):=Heap.get?_update_self _ hi (Obj.isFreed_of_fields (Obj.data_mapFields hdi _))
 have d1:(oi.mapFields (·.setIfInBounds 0 (rawInt (nx:Int)))).data=.fields #[.int nx 0,.int i 0,.ref a,.int n 0,.int ep 0]:=by rw[Obj.data_mapFields hdi];simp[rawInt]
 refine wpAny_bind (wpAny_setField h1 d1 (by simp) ?_)
 refine wpAny_pure ⟨_,rfl,wpAny_pure (hQ _ ⟨_,Heap.get?_update_self _ h1 (Obj.isFreed_of_fields (Obj.data_mapFields d1 _)),(Obj.cls_mapFields ..).trans ((Obj.cls_mapFields ..).trans hc),?_⟩ ((Heap.SameBut.update ..).trans (Heap.SameBut.update ..)))⟩
 rw[Obj.data_mapFields d1]
 simp[rawInt]
theorem Jqr {α:Type}{h1:Heap}{Qf:α->Shared->Prop}{E':Value->Shared->Prop}(hh:A.handled=none) (e1:Heap.ExtBut it s.heap h1) (hE:∀h' e,Heap.ExtBut it s.heap h'->(∃o,h'.get? e=some o/\o.cls=.type "StopIteration")->E' (.ref e) { s with heap:=h' }) :
  wpAny (model pr wd) A.in1 (newExc (.type "StopIteration") []>>=λ e=>(raiseNew e:Sem α)) Qf E' { s with heap:=h1 }:=by
 refine wpAny_bind ?_
 simp only[newExc,newTuple]
 refine wpAny_bind (wpAny_newObj_type ?_ (by size_fits))
 refine wpAny_bind (m:=firstArgMember _ _) (wpAny_of_eq (a:=Value.none) (by first|rfl|(simp only[firstArgMember];rfl)) ?_)
 refine wpAny_newObj_type ?_ (by size_fits)
 simp only[raiseNew]
 refine wpAny_bind (wpAny_handled ?_)
 rw[show A.in1.handled=none from hh]
 exact wpAny_bind (wpAny_pure (wpAny_throw (hE _ _ ((e1.push _).push _) ⟨_,Heap.get?_push_size _ rfl,rfl⟩)))
theorem J45 {Q:Option Value->Shared->Prop}(hh:A.handled=none) (hit:IsSI s.heap it (.int sl 0) i a n ep) (ho:s.heap.get? a=some o) (hd:o.data=.set es ep t) (hf:t.fits es.size=true) (hn:es.size=n)
  (hN:∀(Q':Option (Value×Nat)->Shared->Prop) (E':Value->Shared->Prop),Q' none s->wpAny (model pr wd) A.in1 (setNext a sl i ep) Q' E' s)
  (hQ:∀h',Heap.ExtBut it s.heap h'->Q none { s with heap:=h' }):wpAny (model pr wd) A (pyNext (.ref it)) Q E s:=by
 obtain⟨oi,hi,hc,hdi⟩:=id hit
 unfold pyNext
 refine wpAny_bind (wpAny_attempt (wpAny_callSpecial?_slot (name:=Str.ofString "__next__") hit.ty Jbp (wpAny_call_entry Jbp hit.ty Jig ?_ (Jkz _))))
 unfold Builtin.«set_iterator.__next__»
 refine wpAny_bind (wpAny_pure ?_)
 refine wpAny_bind (wpAny_fieldsOf hi hdi ?_)
 show wpAny _ A.in1 (setEntries a>>=_) _ _ s
 refine wpAny_bind (wpAny_setEntries_of ho hd hf ?_)
 rw[if_neg (by rw[hn];simp)]
 show wpAny _ A.in1 (setNext a sl i ep>>=_) _ _ s
 refine wpAny_bind (hN _ _ ?_)
 show wpAny _ A.in1 (setField (.ref it) 2 .none>>=_) _ _ s
 refine wpAny_bind (wpAny_setField hi hdi (by simp) ?_)
 refine Jqr (it:=it) hh (Heap.SameBut.update ..).extBut λ h' e x ⟨o',g',c'⟩=>?_
 exact wpAny_bind (wpAny_isInstance (T:="StopIteration") (b:=true) ⟨o',g',c'⟩ isSubtype_stop (wpAny_pure (hQ _ x)))
theorem J1r {T:Addr}{ot:Obj}{its:Array Value}{nt p:Nat}{x:Int×Value}{tk:Tok}{Q:Option Value->Shared->Prop}(hit:IsSI s.heap it (.ref T) i a n ep) (ho:s.heap.get? a=some o) (hd:o.data=.set es ep t) (hf:t.fits es.size=true) (hn:es.size=n)
  (hT:s.heap.get? T=some ot) (dT:ot.data=.seq its nt) (hp:its[i]?=some (.int p tk)) (hx:es[p]?=some x)
  (hQ:∀h',IsSI h' it (.ref T) (i+1) a n ep->Heap.SameBut it s.heap h'->Q (some x.2) { s with heap:=h' }):wpAny (model pr wd) A (pyNext (.ref it)) Q E s:=by
 obtain⟨oi,hi,hc,hdi⟩:=id hit
 unfold pyNext
 refine wpAny_bind (wpAny_attempt (wpAny_callSpecial?_slot (name:=Str.ofString "__next__") hit.ty Jbp (wpAny_call_entry Jbp hit.ty Jig ?_ (Jkz _))))
 unfold Builtin.«set_iterator.__next__»
 refine wpAny_bind (wpAny_pure ?_)
 refine wpAny_bind (wpAny_fieldsOf hi hdi ?_)
 show wpAny _ A.in1 (setEntries a>>=_) _ _ s
 refine wpAny_bind (wpAny_setEntries_of ho hd hf ?_)
 rw[if_neg (by rw[hn];simp)]
 show wpAny _ A.in1 (seqItems? (.ref T)>>=_) _ _ s
 refine wpAny_bind (wpAny_seqItems hT dT ?_)
 simp only[Int.toNat_natCast,hp]
 refine wpAny_bind (Jsk ho hd hf hx ?_)
 refine wpAny_bind (wpAny_setField hi hdi (by simp) ?_)
 refine wpAny_pure ⟨_,rfl,wpAny_pure (hQ _ ⟨_,Heap.get?_update_self _ hi (Obj.isFreed_of_fields (Obj.data_mapFields hdi _)),(Obj.cls_mapFields ..).trans hc,?_⟩ (Heap.SameBut.update ..))⟩
 rw[Obj.data_mapFields hdi]
 simp[rawInt]
theorem J44 {T:Addr}{ot:Obj}{its:Array Value}{nt:Nat}{Q:Option Value->Shared->Prop}(hh:A.handled=none) (hit:IsSI s.heap it (.ref T) i a n ep) (ho:s.heap.get? a=some o) (hd:o.data=.set es ep t) (hf:t.fits es.size=true) (hn:es.size=n)
  (hT:s.heap.get? T=some ot) (dT:ot.data=.seq its nt) (hp:its[i]?=none) (hQ:∀h',Heap.ExtBut it s.heap h'->Q none { s with heap:=h' }):wpAny (model pr wd) A (pyNext (.ref it)) Q E s:=by
 obtain⟨oi,hi,hc,hdi⟩:=id hit
 unfold pyNext
 refine wpAny_bind (wpAny_attempt (wpAny_callSpecial?_slot (name:=Str.ofString "__next__") hit.ty Jbp (wpAny_call_entry Jbp hit.ty Jig ?_ (Jkz _))))
 unfold Builtin.«set_iterator.__next__»
 refine wpAny_bind (wpAny_pure ?_)
 refine wpAny_bind (wpAny_fieldsOf hi hdi ?_)
 show wpAny _ A.in1 (setEntries a>>=_) _ _ s
 refine wpAny_bind (wpAny_setEntries_of ho hd hf ?_)
 rw[if_neg (by rw[hn];simp)]
 show wpAny _ A.in1 (seqItems? (.ref T)>>=_) _ _ s
 refine wpAny_bind (wpAny_seqItems hT dT ?_)
 simp only[Int.toNat_natCast,hp]
 show wpAny _ A.in1 (setField (.ref it) 0 (rawInt 0)>>=_) _ _ s
 refine wpAny_bind (wpAny_setField hi hdi (by simp) ?_)
 have h1:(s.heap.update it (Obj.mapFields (·.setIfInBounds 0 (rawInt 0)))).get? it=some (oi.mapFields (·.setIfInBounds 0 (rawInt 0))):=Heap.get?_update_self _ hi (Obj.isFreed_of_fields (Obj.data_mapFields hdi _))
 have d1:(oi.mapFields (·.setIfInBounds 0 (rawInt 0))).data=.fields #[.int 0 0,.int i 0,.ref a,.int n 0,.int ep 0]:=by rw[Obj.data_mapFields hdi];simp[rawInt]
 show wpAny _ A.in1 (setField (.ref it) 2 .none>>=_) _ _ _
 refine wpAny_bind (wpAny_setField h1 d1 (by simp) ?_)
 have e1:=((Heap.SameBut.update s.heap it (Obj.mapFields (·.setIfInBounds 0 (rawInt 0)))).trans (Heap.SameBut.update (s.heap.update it (Obj.mapFields (·.setIfInBounds 0 (rawInt 0)))) it (Obj.mapFields (·.setIfInBounds 2 .none)))).extBut
 refine Jqr (s:=s) (it:=it) (h1:=(s.heap.update it (Obj.mapFields (·.setIfInBounds 0 (rawInt 0)))).update it (Obj.mapFields (·.setIfInBounds 2 .none))) hh e1 λ h' e x ⟨o',g',c'⟩=>?_
 exact wpAny_bind (wpAny_isInstance (T:="StopIteration") (b:=true) ⟨o',g',c'⟩ isSubtype_stop (wpAny_pure (hQ _ x)))
end
theorem Jto:entryFor table "set_iterator.__iter__"=some Builtin.«dict_keyiterator.__iter__» :=entryFor_alias (id':="dict_keyiterator.__iter__") (by kernel_rfl) rfl (by decide +kernel) (by kernel_rfl)
theorem Jwj (a:Value):argsOk "set_iterator.__iter__" ⟨[a],[]⟩:=by unfold argsOk;kernel_rfl
section
variable {pr:Program}{wd:World}{A:Around}{E:Value->Shared->Prop}{s:Shared}{a it T:Addr}{o ot:Obj}{es:Array (Int×Value)}{ep n nt:Nat}{t:SetTable}{ord:List Value}
theorem IsSI.self {F:Value}{i:Nat}{Q:Value->Shared->Prop}(hit:IsSI s.heap it F i a n ep) (h:Q (.ref it) s):wpAny (model pr wd) A (pyIter (.ref it)) Q E s:=by
 refine wpAny_pyIter_slot hit.ty Jqp (wpAny_call_entry Jqp hit.ty Jto ?_ (Jwj _))
 show wpAny _ _ (ret (.ref it)) _ _ s
 exact wpAny_pure ⟨_,rfl,"set_iterator",_,hit.ty,Jbp.lookup,h⟩
theorem IsSI.at {h h':Heap}{F:Value}{i:Nat}(x:IsSI h it F i a n ep) (e:∀o,h.get? it=some o->h'.get? it=some o):IsSI h' it F i a n ep:=let ⟨o,ho,r⟩:=x;⟨o,e _ ho,r⟩
theorem Jvc (hh:A.handled=none) (ne:a≠it) (hd:o.data=.set es ep t) (hf:t.fits es.size=true) (hn:es.size=n) (sl:Nat->Nat) (lo:ord.length=n)
  (hN:∀(i:Nat) (s:Shared) (x:Value),s.heap.get? a=some o->ord[i]?=some x->∀(Q':Option (Value×Nat)->Shared->Prop) (E':Value->Shared->Prop),Q' (some (x,sl (i+1))) s->wpAny (model pr wd) A.in1 (setNext a (sl i) i ep) Q' E' s)
  (hE:∀(s:Shared),s.heap.get? a=some o->∀(Q':Option (Value×Nat)->Shared->Prop) (E':Value->Shared->Prop),Q' none s->wpAny (model pr wd) A.in1 (setNext a (sl n) n ep) Q' E' s) :
  Walks pr wd A it [it,a] [it] n (λ i v=>ord[i]?=some v) (λ i h=>IsSI h it (.int (sl i) 0) i a n ep/\h.get? a=some o) where
 sub:=λ b hb=>by simp at hb;simp[hb]
 frame:=λ _ _ _ st hk=>⟨st.1.at λ o e=>hk it (by simp) o e,hk a (by simp) _ st.2⟩
 item:=λ i s Q E hi st hQ=>by
  have hx:ord[i]?=some (ord[i]'(by omega)):=List.getElem?_eq_getElem _
  refine J1u st.1 st.2 hd hf hn (hN i s _ st.2 hx) λ h' hit' hs'=>?_
  exact hQ _ h' s.toks hx ⟨hit',(hs'.2 a ne).trans st.2⟩ λ b o hb e=>(hs'.2 b (λ h=>hb (by simp[h]))).trans e
 done:=λ s Q E st hQ=>J45 hh st.1 st.2 hd hf hn (hE s st.2) λ h' he'=>hQ h' s.toks λ b o hb e=>he' b o (λ h=>hb (by simp[h])) e
 self:=λ _ _ _ _ st hQ=>st.1.self hQ
theorem J14 (hh:A.handled=none) (ne:a≠it) (nT:T≠it) (hd:o.data=.set es ep t) (hf:t.fits es.size=true) (hn:es.size=n) (ps:List Nat) (lp:ps.length=n) (dT:ot.data=.seq (List.toArray (ps.map λ (i:Nat)=>rawInt i)) nt) (hp:∀p∈ps,p<es.size) :
  Walks pr wd A it [it,a,T] [it] n (λ i v=>(ps.map λ p=>(es.getD p (0,.none)).2)[i]?=some v) (λ i h=>IsSI h it (.ref T) i a n ep/\h.get? a=some o/\h.get? T=some ot) where
 sub:=λ b hb=>by simp at hb;simp[hb]
 frame:=λ _ _ _ st hk=>⟨st.1.at λ o e=>hk it (by simp) o e,hk a (by simp) _ st.2.1,hk T (by simp) _ st.2.2⟩
 item:=λ i s Q E hi st hQ=>by
  have hi':i<ps.length:=by omega
  have pz:=hp _ (List.getElem_mem hi')
  refine J1r (p:=ps[i]) (tk:=0) (x:=es[ps[i]]) st.1 st.2.1 hd hf hn st.2.2 dT (by simp[hi',rawInt]) (Array.getElem?_eq_getElem pz) λ h' hit' hs'=>?_
  refine hQ _ h' s.toks ?_ ⟨hit',(hs'.2 a ne).trans st.2.1,(hs'.2 T nT).trans st.2.2⟩ λ b o hb e=>(hs'.2 b (λ h=>hb (by simp[h]))).trans e
  simp[hi',Array.getD,pz]
 done:=λ s Q E st hQ=>J44 hh st.1 st.2.1 hd hf hn st.2.2 dT (by simp[lp]) λ h' he'=>hQ h' s.toks λ b o hb e=>he' b o (λ h=>hb (by simp[h])) e
 self:=λ _ _ _ _ st hQ=>st.1.self hQ
theorem Jvf {src:Source}{m:Nat}{Q:Nat->Shared->Prop}(hm:m≠0) (h:∀i d',i<m->Q i { s with drawn:=d' }):wpAny (model pr wd) A (choose src m) Q E s:=λ Γ p _=>by
 show Sem.wp _ Γ (.choose src m .pure) _ _ p s
 rw[Sem.wp]
 refine⟨hm,?_⟩
 rw[Sem.wp]
 exact h _ _ (Nat.mod_lt _ (Nat.pos_of_ne_zero hm))
theorem Jtj {α:Type}:∀(n:Nat) (xs:List α) (s:Shared) (Q:List α->Shared->Prop),xs.length=n->(∀ys d',ys.Perm xs->Q ys { s with drawn:=d' })->wpAny (model pr wd) A (drawOrder n xs) Q E s
 | 0,xs,s,Q,h,hQ=>by
  obtain rfl:xs=[]:=List.eq_nil_of_length_eq_zero h
  unfold drawOrder
  exact wpAny_pure (hQ [] s.drawn (List.Perm.refl _))
 | n+1,[],s,Q,h,hQ=>by cases h
 | n+1,x::xs,s,Q,h,hQ=>by
  unfold drawOrder
  refine wpAny_bind (Jvf (by simp) λ i d' hi=>?_)
  have e:(x::xs)[i]?=some (x::xs)[i]:=List.getElem?_eq_getElem hi
  have el:((x::xs).eraseIdx i).length=n:=by rw[List.length_eraseIdx_of_lt hi,h];rfl
  have pm:=Jg6 e
  rw[e]
  dsimp only
  refine wpAny_bind (Jtj n _ _ _ el λ ys d2 p=>?_)
  exact wpAny_pure (hQ _ d2 ((p.cons _).trans pm))
structure WalkOf (pr:Program) (wd:World) (a lo it:Addr) (h:Heap) (ns:List Int) (fp:List Addr) (ord:List Value) (St:Nat->Heap->Prop):Prop where
 w:∀A:Around,A.handled=none->Walks pr wd A it fp [it] ns.length (λ i v=>ord[i]?=some v) St
 st:St 0 h
 fp:∀b∈fp,b=a∨lo<=b
 zs:∃ms,IntsAre ord ms/\ms.Perm ns
theorem J12 {l:List (Int×Value)}(h:AllI l):IntsAre (l.map (·.2)) (l.map λ e=>numOf e.2):=by
 have:=intsAre_map (l.map (·.2)) λ v hv=>by
  obtain⟨e,he,rfl⟩:=List.mem_map.mp hv
  obtain⟨n,t,rfl⟩:=h e he
  exact⟨n,t,rfl⟩
 rwa [List.map_map] at this
theorem Jji {l l':List (Int×Value)}{ns:List Int}(h:AllI l) (en:l.map (λ e=>numOf e.2)=ns) (p:l'.Perm l):∃ms,IntsAre (l'.map (·.2)) ms/\ms.Perm ns :=
 ⟨_,J12 (h.perm p),en▸p.map _⟩
theorem Jxe {ns:List Int}{Q:Value->Shared->Prop}(hS:SetI wd s.heap a ns) (hQ:∀it h' d' fp ord St,WalkOf pr wd a s.heap.objs.size it h' ns fp ord St->(∀b o,s.heap.get? b=some o->h'.get? b=some o)->s.heap.objs.size<=it->Q (.ref it) { s with heap:=h',drawn:=d' }) :
  wpAny (model pr wd) A (pyIter (.ref a)) Q E s:=by
 obtain⟨o,es,ep,t,ho,hex,hd,ai,en,hb,hf,tb⟩:=hS
 have hT:s.TypeIs (.ref a) "set":=⟨o,ho,hex.1⟩
 have ln:es.size=ns.length:=by rw[<- en,List.length_map,Array.length_toList]
 have lt:=Heap.lt_size ho
 refine wpAny_pyIter_slot hT PySem.F.slot_set_iter (wpAny_call_entry PySem.F.slot_set_iter hT Jtp ?_ (PySem.F.args_set_iter_1 _))
 unfold Builtin.«frozenset.__iter__»
 refine wpAny_bind (wpAny_pure ?_)
 refine wpAny_bind (wpAny_bind (wpAny_setEntries_of ho hd hf (wpAny_pure ?_)))
 refine wpAny_bind ?_
 unfold setDrawn setsByText
 refine wpAny_bind (wpAny_setState_of ho hd hf ?_)
 refine wpAny_bind (wpAny_bind (wpAny_askSetting (wpAny_pure ?_)))
 refine wpAny_pure ?_
 show wpAny _ _ (if (!byT wd&&(!t.plain&&decide (es.size>1)))=true then _ else _) _ _ s
 cases c:(!byT wd&&(!t.plain&&decide (es.size>1))) with
 | true =>
  rw[if_pos rfl]
  refine wpAny_bind (Jtj es.size (List.range es.size) s _ (by simp) λ ps d' pm=>?_)
  have lp:ps.length=es.size:=by rw[pm.length_eq,List.length_range]
  have hp:∀p∈ps,p<es.size:=λ p h=>List.mem_range.mp (pm.mem_iff.mp h)
  refine wpAny_bind (wpAny_newTuple ?_ (by rw[List.length_map,lp];exact fits_of_scanBound hb))
  show wpAny _ _ (setEpoch a>>=_) _ _ _
  refine wpAny_bind (wpAny_setEpoch_of (Heap.get?_push_of_some _ ho) hd hf ?_)
  refine wpAny_bind (wpAny_newObj_type (wpAny_pure ⟨_,rfl,"set_iterator",_,⟨_,Heap.get?_push_size _ rfl,rfl⟩,Jbp.lookup,?_⟩))
  have sz:(s.heap.push (seqObj "tuple" (List.toArray (ps.map λ (i:Nat)=>rawInt i)) 0)).objs.size=s.heap.objs.size+1:=size_push' ..
  refine hQ _ _ d' [(s.heap.push (seqObj "tuple" (List.toArray (ps.map λ (i:Nat)=>rawInt i)) 0)).objs.size,a,s.heap.objs.size] (ps.map λ p=>(es.getD p (0,.none)).2) (λ i h=>IsSI h (s.heap.push (seqObj "tuple" (List.toArray (ps.map λ (i:Nat)=>rawInt i)) 0)).objs.size (.ref s.heap.objs.size) i a ns.length ep/\h.get? a=some o/\h.get? s.heap.objs.size=some (seqObj "tuple" (List.toArray (ps.map λ (i:Nat)=>rawInt i)) 0)) ⟨λ A hh=>?_,?_,?_,?_⟩ (λ b o e=>Heap.get?_push_of_some _ (Heap.get?_push_of_some _ e)) (by rw[sz];exact Nat.le_succ _)
  ·exact J14 (ot:=seqObj "tuple" (List.toArray (ps.map λ (i:Nat)=>rawInt i)) 0) (nt:=0) (o:=o) (ep:=ep) hh (by rw[sz];exact Nat.ne_of_lt (Nat.lt_succ_of_lt lt)) (by rw[sz];exact Nat.ne_of_lt (Nat.lt_succ_self _)) hd hf ln ps (by rw[lp,ln]) rfl hp
  ·refine⟨⟨_,Heap.get?_push_size _ rfl,rfl,?_⟩,Heap.get?_push_of_some _ (Heap.get?_push_of_some _ ho),Heap.get?_push_of_some _ (Heap.get?_push_size _ rfl)⟩
   simp[rawInt,ln]
  ·intro b hb
   simp only[List.mem_cons,List.not_mem_nil,or_false] at hb
   rcases hb with rfl|rfl|rfl
   ·exact .inr (by rw[sz];exact Nat.le_succ _)
   ·exact .inl rfl
   ·exact .inr (Nat.le_refl _)
  ·have e1:(ps.map λ p=>(es.getD p (0,.none)).2)=(ps.map λ p=>es.getD p (0,.none)).map (·.2):=by rw[List.map_map];rfl
   rw[e1]
   refine Jji ai en ?_
   have e2:(List.range es.size).map (λ p=>es.getD p (0,.none))=es.toList:=by
    refine List.ext_getElem (by simp) λ i h1 h2=>?_
    have h3:i<es.size:=by simpa using h1
    simp[Array.getD,h3]
   rw[<- e2]
   exact pm.map _
 | false =>
  rw[if_neg Bool.false_ne_true]
  refine wpAny_bind (wpAny_pure ?_)
  show wpAny _ _ (setEpoch a>>=_) _ _ _
  refine wpAny_bind (wpAny_setEpoch_of ho hd hf ?_)
  refine wpAny_bind (wpAny_newObj_type (wpAny_pure ⟨_,rfl,"set_iterator",_,⟨_,Heap.get?_push_size _ rfl,rfl⟩,Jbp.lookup,?_⟩))
  have fpz:∀b∈[s.heap.objs.size,a],b=a∨s.heap.objs.size<=b:=λ b hb=>by
   simp only[List.mem_cons,List.not_mem_nil,or_false] at hb
   rcases hb with rfl|rfl
   ·exact .inr (Nat.le_refl _)
   ·exact .inl rfl
  have go:∀(sl:Nat->Nat) (ord:List Value),sl 0=0->(∀A:Around,A.handled=none->Walks pr wd A s.heap.objs.size [s.heap.objs.size,a] [s.heap.objs.size] ns.length (λ i v=>ord[i]?=some v) (λ i h=>IsSI h s.heap.objs.size (.int (sl i) 0) i a ns.length ep/\h.get? a=some o))->(∃ms,IntsAre ord ms/\ms.Perm ns) ->
    Q (.ref s.heap.objs.size) { s with heap:=s.heap.push { cls:=.type "set_iterator",data:=.fields #[.int 0 0,.int 0 0,.ref a,.int ns.length 0,.int ep 0] } }:=λ sl ord h0 w q =>
   hQ _ _ s.drawn _ ord _ ⟨w,⟨⟨_,Heap.get?_push_size _ rfl,rfl,by rw[h0];rfl⟩,Heap.get?_push_of_some _ ho⟩,fpz,q⟩ (λ b o e=>Heap.get?_push_of_some _ e) (Nat.le_refl _)
  have ne:a≠s.heap.objs.size:=Nat.ne_of_lt lt
  rw[ln]
  show Q (.ref s.heap.objs.size) { s with heap:=s.heap.push { cls:=.type "set_iterator",data:=.fields #[.int 0 0,.int 0 0,.ref a,.int ns.length 0,.int ep 0] } }
  cases hb':byT wd with
  | true =>
   have pm:=Jut (wd.params.setOrder a ep) es
   have lo:((pickOrder (wd.params.setOrder a ep) es).toList.map (·.2)).length=ns.length:=by rw[List.length_map,pm.length_eq,Array.length_toList,ln]
   refine go (λ _=>0) ((pickOrder (wd.params.setOrder a ep) es).toList.map (·.2)) rfl (λ A hh=>Jvc hh ne hd hf ln (λ _=>0) lo (λ i s' x g e Q' E' q=>Joa hb' g hd hf ?_) (λ s' g Q' E' q=>Joa hb' g hd hf ?_)) (Jji ai en pm)
   ·rw[List.getElem?_map,Array.getElem?_toList] at e
    obtain⟨y,ey,rfl⟩:=Option.map_eq_some_iff.mp e
    rw[ey]
    exact q
   ·rw[Array.getElem?_eq_none (by rw[List.length_map,Array.length_toList] at lo;omega)]
    exact q
  | false =>
   rw[hb'] at c tb
   have c:(!t.plain&&decide (es.size>1))=false:=c
   have pz:t.place.size=es.size:=by
    unfold SetTable.fits at hf
    simp only[Bool.and_eq_true,beq_iff_eq] at hf
    exact hf.1
   have lo:(es.toList.map (·.2)).length=ns.length:=by rw[List.length_map,Array.length_toList,ln]
   refine go (Jn0 t.place) (es.toList.map (·.2)) rfl (λ A hh=>Jvc hh ne hd hf ln (Jn0 t.place) lo (λ i s' x g e Q' E' q=>Jqv hb' g hd hf c tb.l ?_) (λ s' g Q' E' q=>Jqv hb' g hd hf c tb.l ?_)) (Jji ai en (List.Perm.refl _))
   ·rw[List.getElem?_map,Array.getElem?_toList] at e
    obtain⟨y,ey,rfl⟩:=Option.map_eq_some_iff.mp e
    have hi:i<es.size:=(Array.getElem?_eq_some_iff.mp ey).1
    rw[Jkj tb.r (by omega),ey,Array.getElem?_eq_getElem (show i<t.place.size by omega)]
    have:Jn0 t.place (i+1)=t.place[i]+1:=by simp[Jn0,Array.getD,show i<t.place.size by omega]
    rw[this] at q
    exact q
   ·rw[Jkj tb.r (by omega),Array.getElem?_eq_none (by omega)]
    exact q
end
end L3
namespace L3
open PySem PyProof.Rows
noncomputable abbrev kd (p:Keyed):Int:=numOf p.1
noncomputable def Ik (p:Keyed):Prop:=∃n t,p.1=.int n t
noncomputable def gal:Bool->Keyed->Array Keyed->Nat->Nat->Nat->StateT SortSt Sem (Option Nat):=sortPriv% PySem.Builtin.gallop
section
variable {pr:Program}{wd:World}{A:Around}{E:Value->Shared->Prop}{s:Shared}{st:SortSt}
theorem Jb4 {xs:Array Keyed}{i:Nat}{p:Keyed}{Q:Keyed->SortSt->Prop}(h:xs[i]?=some p) (hq:Q p st):wpS (model pr wd) A E s (elem' xs i) Q st:=by
 rw[elem'_eq,h];exact wpS_pure hq
theorem Jxn {p q:Keyed}{Q:Option Bool->SortSt->Prop}(hk:kindOf st=oneType') (hp:Ik p) (hq:Ik q) (h:Q (some (decide (kd p<kd q))) st):wpS (model pr wd) A E s (lt' p q) Q st:=by
 obtain⟨p,p2⟩:=p
 obtain⟨q,q2⟩:=q
 obtain⟨n,t,e⟩:=hp
 obtain⟨m,u,e'⟩:=hq
 cases e
 cases e'
 rw[lt'_eq]
 refine wpS_bind (wpS_get ?_)
 rw[hk,keyLt'_oneType]
 exact wpS_bind (wpS_lift (wpAny_attempt (oneLt_int ⟨rfl,wpS_pure h⟩)))
theorem galT {F:Nat->Option (Option Nat)×Nat×Nat->StateT SortSt Sem (ForInStep (Option (Option Nat)×Nat×Nat))}{B:Nat->Bool}{n lo hi:Nat}{Q:Option (Option Nat)×Nat×Nat->SortSt->Prop}
  (hF:∀x l o R,o<=n->(o<=l->R (.done (none,l,o)) st)->(∀m,l<=m->m<o->m=l+(o-l)/2->B m=true->R (.yield (none,m+1,o)) st)->(∀m,l<=m->m<o->m=l+(o-l)/2->B m=false->R (.yield (none,l,m)) st)->wpS (model pr wd) A E s (F x (none,l,o)) R st) (mo:∀i j,i<=j->j<n->B j=true->B i=true)
  (f1:∀i,i<lo->B i=true) (f2:∀i,hi<=i->i<n->B i=false) (f3:lo<=hi) (f4:hi<=n)
  (h:∀k,k<=n->(∀i,i<k->B i=true)->(∀i,k<=i->i<n->B i=false)->Q (none,k,k) st) :
  wpS (model pr wd) A E s (forIn [0:n] (none,lo,hi) F) Q st:=by
 refine wpS_mono (wpS_forRange (I:=λ x c st'=>st'=st/\∃l o,c=(none,l,o)/\l<=o/\o<=n/\o-l<=n-x/\(∀i,i<l->B i=true)/\∀i,o<=i->i<n->B i=false)
  (Q:=λ c st'=>st'=st/\∃l,c=(none,l,l)/\l<=n/\(∀i,i<l->B i=true)/\∀i,l<=i->i<n->B i=false) ?_ ?_ ⟨rfl,lo,hi,rfl,f3,f4,by omega,f1,f2⟩) ?_
 ·rintro x c st' _ hx ⟨rfl,l,o,rfl,lo,on,d,g1,g2⟩
  refine hF x l o _ on (λ z=>?_) (λ m a b _ e=>?_) (λ m a b _ e=>?_)
  ·obtain rfl:l=o:=by omega
   exact⟨rfl,l,rfl,on,g1,g2⟩
  ·exact⟨rfl,_,o,rfl,by omega,on,by omega,λ i hi=>mo i _ (by omega) (by omega) e,g2⟩
  ·refine⟨rfl,l,_,rfl,by omega,by omega,by omega,g1,λ i hi h'=>?_⟩
   cases ei:B i with
   | false=>rfl
   | true=>rw[mo _ i hi h' ei] at e;cases e
 ·rintro c st' ⟨rfl,l,o,rfl,lo,on,d,g1,g2⟩
  obtain rfl:l=o:=by omega
  exact⟨rfl,l,rfl,on,g1,g2⟩
 ·rintro c st' ⟨rfl,l,rfl,ln,g1,g2⟩
  exact h l ln g1 g2
theorem J37 {left:Bool}{key:Keyed}{arr:Array Keyed}{base n hint:Nat}{Q:Option Nat->SortSt->Prop}{B:Nat->Bool}(hk:kindOf st=oneType') (hh:hint<n)
  (hB:∀i,i<n->∃p,arr[base+i]?=some p/\Ik p/\B i=(if left then decide (kd p<kd key) else !decide (kd key<kd p))) (ik:Ik key)
  (mo:∀i j,i<=j->j<n->B j=true->B i=true)
  (h:∀k,k<=n->(∀i,i<k->B i=true)->(∀i,k<=i->i<n->B i=false)->Q (some k) st):wpS (model pr wd) A E s (gal left key arr base n hint) Q st:=by
 have bey:∀i,i<n->∀{Q:Option Bool->SortSt->Prop},Q (some (B i)) st->wpS (model pr wd) A E s (elem' arr (base+i)>>=λ x=>if left then lt' x key else lt' key x>>=λ y=>pure (y.map (!·))) Q st:=λ i hi Q hq=>by
  obtain⟨p,e,ip,eb⟩:=hB i hi
  refine wpS_bind (Jb4 e ?_)
  cases left with
  | true=>exact Jxn hk ip ik (by simpa [eb] using hq)
  | false=>exact wpS_bind (Jxn hk ik ip (wpS_pure (by simpa [eb] using hq)))
 have up:∀{i j:Nat},i<=j->j<n->B i=false->B j=false:=λ {i j} ij jn e=>by
  cases ej:B j with
  | false=>rfl
  | true=>rw[mo i j ij jn ej] at e;cases e
 refine wpS_bind (bey hint hh ?_)
 dsimp only
 cases eh:B hint with
 | true =>
  rw[if_pos rfl]
  refine wpS_bind (wpS_mono (wpS_forRange (I:=λ x c st'=>st'=st/\∃l o,c=(none,l,o)/\x<o/\l<o/\hint+l<n/\B (hint+l)=true)
   (Q:=λ c st'=>st'=st/\∃l o,c=(none,l,o)/\l<o/\hint+l<n/\B (hint+l)=true/\(n<=hint+o∨B (hint+o)=false)) ?_ ?_ ⟨rfl,0,1,rfl,by omega,by omega,hh,eh⟩) ?_)
  ·rintro x c st' _ hx ⟨rfl,l,o,rfl,xo,lo,ln,el⟩
   dsimp only
   split
   ·exact wpS_pure ⟨rfl,l,o,rfl,lo,ln,el,.inl (by omega)⟩
   ·rename_i g
    refine wpS_bind (bey (hint+o) (by omega) ?_)
    cases eo:B (hint+o) with
    | true=>exact wpS_pure ⟨rfl,o,2*o+1,rfl,by omega,by omega,by omega,eo⟩
    | false=>exact wpS_pure ⟨rfl,l,o,rfl,lo,ln,el,.inr eo⟩
  ·rintro c st' ⟨rfl,l,o,rfl,xo,lo,ln,el⟩
   exact⟨rfl,l,o,rfl,lo,ln,el,.inl (by omega)⟩
  rintro c st' ⟨rfl,l,o,rfl,lo,ln,el,e⟩
  dsimp only
  have f1:∀i,i<hint+l+1->B i=true:=λ i hi=>mo i _ (by omega) ln el
  have f2:∀i,hint+min o (n-hint)<=i->i<n->B i=false:=λ i hi h'=>by
   rcases e with e|e
   ·omega
   ·exact up (by omega) h' e
  have f3:hint+l+1<=hint+min o (n-hint):=by omega
  have f4:hint+min o (n-hint)<=n:=by omega
  generalize hint+l+1=lo at *
  generalize hint+min o (n-hint)=hi at *
  clear e el ln eh
  refine wpS_bind (galT (λ x l o R on a b c=>?_) mo f1 f2 f3 f4 λ k k1 k2 k3=>wpS_pure (h k k1 k2 k3))
  dsimp only
  split
  ·rename_i g;exact wpS_pure (a g)
  ·refine wpS_bind (bey (l+(o-l)/2) (by omega) ?_)
   cases e:B (l+(o-l)/2) with
   | true=>exact wpS_pure (b _ (by omega) (by omega) rfl e)
   | false=>exact wpS_pure (c _ (by omega) (by omega) rfl e)
 | false =>
  rw[if_neg (by decide)]
  refine wpS_bind (wpS_mono (wpS_forRange (I:=λ x c st'=>st'=st/\∃l o,c=(none,l,o)/\x<o/\l<o/\l<=hint/\B (hint-l)=false)
   (Q:=λ c st'=>st'=st/\∃l o,c=(none,l,o)/\l<o/\l<=hint/\B (hint-l)=false/\(hint<o∨B (hint-o)=true)) ?_ ?_ ⟨rfl,0,1,rfl,by omega,by omega,by omega,eh⟩) ?_)
  ·rintro x c st' _ hx ⟨rfl,l,o,rfl,xo,lo,ln,el⟩
   dsimp only
   split
   ·exact wpS_pure ⟨rfl,l,o,rfl,lo,ln,el,.inl (by omega)⟩
   ·rename_i g
    refine wpS_bind (bey (hint-o) (by omega) ?_)
    cases eo:B (hint-o) with
    | false=>exact wpS_pure ⟨rfl,o,2*o+1,rfl,by omega,by omega,by omega,eo⟩
    | true=>exact wpS_pure ⟨rfl,l,o,rfl,lo,ln,el,.inr eo⟩
  ·rintro c st' ⟨rfl,l,o,rfl,xo,lo,ln,el⟩
   exact⟨rfl,l,o,rfl,lo,ln,el,.inl (by omega)⟩
  rintro c st' ⟨rfl,l,o,rfl,lo,ln,el,e⟩
  dsimp only
  have f1:∀i,i<hint+1-min o (hint+1)->B i=true:=λ i hi=>by
   rcases e with e|e
   ·omega
   ·exact mo i _ (by omega) (by omega) e
  have f2:∀i,hint-l<=i->i<n->B i=false:=λ i hi h'=>up (by omega) h' el
  have f3:hint+1-min o (hint+1)<=hint-l:=by omega
  have f4:hint-l<=n:=by omega
  generalize hint+1-min o (hint+1)=lo at *
  generalize hint-l=hi at *
  refine wpS_bind (galT (λ x l o R on a b c=>?_) mo f1 f2 f3 f4 λ k k1 k2 k3=>wpS_pure (h k k1 k2 k3))
  dsimp only
  split
  ·rename_i g;exact wpS_pure (a g)
  ·refine wpS_bind (bey (l+(o-l)/2) (by omega) ?_)
   cases e:B (l+(o-l)/2) with
   | true=>exact wpS_pure (b _ (by omega) (by omega) rfl e)
   | false=>exact wpS_pure (c _ (by omega) (by omega) rfl e)
end
noncomputable def Ord (r:Int->Int->Prop) (l:List Keyed):Prop:=l.Pairwise λ p q=>r (kd p) (kd q)
structure Mg (r:Int->Int->Prop) (L o a b:List Keyed):Prop where
 pm:(o++a++b).Perm L
 so:Ord r o
 sa:Ord r a
 sb:Ord r b
 oa:∀p∈o,∀q∈a,r (kd p) (kd q)
 ob:∀p∈o,∀q∈b,r (kd p) (kd q)
theorem Mg.swap {r:Int->Int->Prop}{L o a b:List Keyed}(h:Mg r L o a b):Mg r L o b a :=
 ⟨by rw[List.append_assoc];exact(List.perm_append_comm.append_left o).trans ((List.append_assoc o a b)▸h.pm),h.so,h.sb,h.sa,h.ob,h.oa⟩
theorem Mg.step {r:Int->Int->Prop}{L o c a b:List Keyed}(h:Mg r L o (c++a) b) (hc:∀p∈c,∀q∈b,r (kd p) (kd q)):Mg r L (o++c) a b:=by
 obtain⟨sc,sa,ca⟩:=List.pairwise_append.mp h.sa
 refine⟨by rw[List.append_assoc o c a];exact h.pm,List.pairwise_append.mpr ⟨h.so,sc,λ p hp q hq=>h.oa p hp q (List.mem_append_left _ hq)⟩,sa,h.sb,λ p hp q hq=>?_,λ p hp q hq=>?_⟩
 ·rcases List.mem_append.mp hp with hp|hp
  ·exact h.oa p hp q (List.mem_append_right _ hq)
  ·exact ca p hp q hq
 ·rcases List.mem_append.mp hp with hp|hp
  ·exact h.ob p hp q hq
  ·exact hc p hp q hq
theorem Mg.fin {r:Int->Int->Prop}{L o a b:List Keyed}(h:Mg r L o a b) (hc:∀p∈a,∀q∈b,r (kd p) (kd q)):(o++a++b).Perm L/\Ord r (o++a++b):=by
 refine⟨h.pm,List.pairwise_append.mpr ⟨List.pairwise_append.mpr ⟨h.so,h.sa,h.oa⟩,h.sb,λ p hp q hq=>?_⟩⟩
 rcases List.mem_append.mp hp with hp|hp
 ·exact h.ob p hp q hq
 ·exact hc p hp q hq
structure Run (a:Array Keyed):Prop where
 ik:∀i,i<a.size->∃p,a[i]?=some p/\Ik p
 so:∀i j,i<=j->j<a.size->K a i<=K a j
theorem Jc8 (a:Array Keyed){i k j:Nat}(h:i<=k) (h':k<=j):(a.extract i j).toList=(a.extract i k).toList++(a.extract k j).toList:=by
 rw[<- Array.toList_append,Array.extract_append_extract,Nat.min_eq_left h,Nat.max_eq_right h']
theorem Jh0 {a:Array Keyed}{i j:Nat}{p:Keyed}(h:p∈(a.extract i j).toList):∃t,i<=t/\t<j/\t<a.size/\kd p=K a t:=by
 obtain⟨t,ht,e⟩:=List.mem_iff_getElem.mp h
 have ht':t<min (j-i) (a.size-i):=by simpa using ht
 refine⟨i+t,by omega,by omega,by omega,?_⟩
 rw[K_eq (show i+t<a.size by omega)]
 subst e
 simp
theorem Run.ord {a:Array Keyed}(R:Run a) (i j:Nat):Ord (· <= ·) (a.extract i j).toList:=by
 refine List.pairwise_iff_getElem.mpr λ x y hx hy xy=>?_
 have hy':y<min (j-i) (a.size-i):=by simpa using hy
 have:=R.so (i+x) (i+y) (by omega) (by omega)
 rw[K_eq (show i+x<a.size by omega),K_eq (show i+y<a.size by omega)] at this
 simpa using this
theorem Jq5 {a b:Array Keyed}{i j i' j':Nat}{key:Int}(h:∀t,i<=t->t<j->t<a.size->K a t<=key) (h':∀t,i'<=t->t<j'->t<b.size->key<=K b t):∀p∈(a.extract i j).toList,∀q∈(b.extract i' j').toList,kd p<=kd q:=λ p hp q hq=>by
 obtain⟨t,a1,a2,a3,e⟩:=Jh0 hp
 obtain⟨u,b1,b2,b3,e'⟩:=Jh0 hq
 rw[e,e']
 exact Int.le_trans (h t a1 a2 a3) (h' u b1 b2 b3)
theorem Jo4 {a:Array Keyed}{i:Nat}{p:Keyed}(e:a[i]?=some p) (o:Array Keyed):(o.push p).toList=o.toList++(a.extract i (i+1)).toList:=by
 have hi:i<a.size:=by
  rcases Nat.lt_or_ge i a.size with h|h
  ·exact h
  ·rw[Array.getElem?_eq_none h] at e;cases e
 have:a[i]=p:=by simpa [hi] using e
 subst this
 simp[List.extract_eq_drop_take,List.take_one,hi]
noncomputable def Srt (L:List Keyed) (c:Array Keyed):Prop:=c.toList.Perm L/\Ord (· <= ·) c.toList
noncomputable def Lo (a b:Array Keyed) (o:Array Keyed) (i j:Nat):Prop:=Mg (· <= ·) (a.toList++b.toList) o.toList (a.extract i a.size).toList (b.extract j b.size).toList
section
variable {a b o:Array Keyed}{i j k:Nat}{key:Int}
theorem Lo.cA (m:Lo a b o i j) (h:i+k<=a.size) (f:∀t,i<=t->t<i+k->t<a.size->K a t<=key) (g:∀t,j<=t->t<b.size->t<b.size->key<=K b t):Lo a b (o++a.extract i (i+k)) (i+k) j:=by
 unfold Lo at m ⊢
 rw[Jc8 a (Nat.le_add_right i k) h] at m
 rw[Array.toList_append]
 exact m.step (Jq5 f g)
theorem Lo.cB (m:Lo a b o i j) (h:j+k<=b.size) (f:∀t,j<=t->t<j+k->t<b.size->K b t<=key) (g:∀t,i<=t->t<a.size->t<a.size->key<=K a t):Lo a b (o++b.extract j (j+k)) i (j+k):=by
 unfold Lo at m ⊢
 rw[Jc8 b (Nat.le_add_right j k) h] at m
 rw[Array.toList_append]
 exact(m.swap.step (Jq5 f g)).swap
theorem Lo.pA {p:Keyed}(m:Lo a b o i j) (R:Run a) (h:i<a.size) (e:a[i]?=some p) (g:∀t,j<=t->t<b.size->t<b.size->K a i<=K b t):Lo a b (o.push p) (i+1) j:=by
 have:=m.cA (k:=1) h (λ t h1 h2 h3=>R.so t i (by omega) h) g
 unfold Lo at this ⊢
 rw[Array.toList_append] at this
 rwa [Jo4 e]
theorem Lo.pB {p:Keyed}(m:Lo a b o i j) (R:Run b) (h:j<b.size) (e:b[j]?=some p) (g:∀t,i<=t->t<a.size->t<a.size->K b j<=K a t):Lo a b (o.push p) i (j+1):=by
 have:=m.cB (k:=1) h (λ t h1 h2 h3=>R.so t j (by omega) h) g
 unfold Lo at this ⊢
 rw[Array.toList_append] at this
 rwa [Jo4 e]
theorem Lo.dn (m:Lo a b o i j) (h:i=a.size∨j=b.size):Srt (a.toList++b.toList) (o++a.extract i a.size++b.extract j b.size):=by
 unfold Srt
 rw[Array.toList_append,Array.toList_append]
 exact Mg.fin m λ p hp q hq=>by
  obtain⟨t,a1,a2,_⟩:=Jh0 hp
  obtain⟨u,b1,b2,_⟩:=Jh0 hq
  omega
theorem Lo.la (m:Lo a b o i j) (h:i+1=a.size) (h2:∀t,t<b.size->K b t<=K a (a.size-1)):Srt (a.toList++b.toList) (o++b.extract j b.size++a.extract i a.size):=by
 unfold Srt
 rw[Array.toList_append,Array.toList_append]
 refine m.swap.fin (Jq5 (key:=K a (a.size-1)) (λ t _ _ h'=>h2 t h') λ t h1 h2 _=>?_)
 obtain rfl:t=a.size-1:=by omega
 exact Int.le_refl _
end
noncomputable def Same (st st':SortSt):Prop:=∃g,st'=SortSt.mk' (kindOf st) (arrOf st) (pendingOf st) g (failedOf st)
theorem Same.rfl {st:SortSt}:Same st st:=⟨gallopOf st,by cases st;exact Eq.refl _⟩
theorem Same.more {st st':SortSt}(h:Same st st') (g:Nat):Same st (SortSt.mk' (kindOf st') (arrOf st') (pendingOf st') g (failedOf st')):=by
 obtain⟨_,e⟩:=h
 subst e
 exact⟨g,Eq.refl _⟩
theorem Same.kind {st st':SortSt}(h:Same st st'):kindOf st'=kindOf st:=by obtain⟨_,e⟩:=h;subst e;exact Eq.refl _
section
variable {pr:Program}{wd:World}{A:Around}{E:Value->Shared->Prop}{s:Shared}{st:SortSt}
theorem J0 {α:Type}{c:Prop}[Decidable c] {x y:StateT SortSt Sem α}{Q:α->SortSt->Prop}(h1:c->wpS (model pr wd) A E s x Q st) (h2:¬c->wpS (model pr wd) A E s y Q st):wpS (model pr wd) A E s (if c then x else y) Q st:=by
 split
 ·exact h1 ‹_›
 ·exact h2 ‹_›
theorem Jab {α:Type}{i j:Nat}{x y:StateT SortSt Sem α}{Q:α->SortSt->Prop}(h1:i=j->wpS (model pr wd) A E s x Q st) (h2:i≠j->wpS (model pr wd) A E s y Q st):wpS (model pr wd) A E s (if (i==j)=true then x else y) Q st :=
 J0 (λ g=>h1 (eq_of_beq g)) λ g=>h2 λ e=>g (beq_iff_eq.mpr e)
theorem Jem {α:Type}{c:Prop}[Decidable c] {x y:StateT SortSt Sem α}{Q:α->SortSt->Prop}(h1:c->wpS (model pr wd) A E s x Q st) (h2:¬c->wpS (model pr wd) A E s y Q st):wpS (model pr wd) A E s (if decide c=true then x else y) Q st :=
 J0 (λ g=>h1 (of_decide_eq_true g)) λ g=>h2 λ e=>g (decide_eq_true e)
theorem Jha {left:Bool}{key:Keyed}{arr:Array Keyed}{base n hint:Nat}{Q:Option Nat->SortSt->Prop}(hk:kindOf st=oneType') (hh:hint<n) (hn:base+n<=arr.size) (ik:Ik key)
  (ia:∀i,i<arr.size->∃p,arr[i]?=some p/\Ik p) (so:∀i j,base<=i->i<=j->j<base+n->K arr i<=K arr j)
  (h:∀k,k<=n->(∀t,base<=t->t<base+k->K arr t<=kd key)->(∀t,base+k<=t->t<base+n->kd key<=K arr t)->Q (some k) st):wpS (model pr wd) A E s (gal left key arr base n hint) Q st:=by
 have kv:∀i,i<n->∃p,arr[base+i]?=some p/\Ik p/\kd p=K arr (base+i):=λ i hi=>by
  obtain⟨p,e,ip⟩:=ia (base+i) (by omega)
  exact⟨p,e,ip,by unfold K;rw[e]⟩
 refine J37 (B:=λ i=>if left then decide (K arr (base+i)<kd key) else !decide (kd key<K arr (base+i))) hk hh (λ i hi=>?_) ik (λ i j ij jn e=>?_) λ k kn f g=>?_
 ·obtain⟨p,e,ip,ek⟩:=kv i hi
  exact⟨p,e,ip,by rw[ek]⟩
 ·have:=so (base+i) (base+j) (by omega) (by omega) (by omega)
  cases left<;>simp at e ⊢ <;>omega
 ·refine h k kn (λ t h1 h2=>?_) λ t h1 h2=>?_
  ·have:=f (t-base) (by omega)
   rw[show base+(t-base)=t by omega] at this
   cases left<;>simp at this<;>omega
  ·have:=g (t-base) (by omega) (by omega)
   rw[show base+(t-base)=t by omega] at this
   cases left<;>simp at this<;>omega
end
noncomputable def mLo:Array Keyed->Array Keyed->StateT SortSt Sem (Array Keyed):=sortPriv% PySem.Builtin.mergeLo
inductive MgQ {τ:Type}(st:SortSt) (F:Array Keyed->Prop) (P:τ->Prop):ForInStep (Option (Array Keyed)×τ)->SortSt->Prop
 | fin {r c st'}:Same st st'->F r->MgQ st F P (.done (some r,c)) st'
 | brk {c st'}:Same st st'->P c->MgQ st F P (.done (none,c)) st'
 | go {c st'}:Same st st'->P c->MgQ st F P (.yield (none,c)) st'
section
variable {pr:Program}{wd:World}{A:Around}{E:Value->Shared->Prop}{s:Shared}{st:SortSt}
theorem Jzy {α β:Type}{c:Prop}[Decidable c] (f:β->StateT SortSt Sem α){x y:β}{Q:α->SortSt->Prop}(h:∀z,wpS (model pr wd) A E s (f z) Q st):wpS (model pr wd) A E s (if c then f x else f y) Q st:=by
 split
 ·exact h x
 ·exact h y
theorem J39 {a b:Array Keyed}{Q:Array Keyed->SortSt->Prop}(hk:kindOf st=oneType') (Ra:Run a) (Rb:Run b) (na:0<a.size) (nb:0<b.size)
  (h1:∀t,t<a.size->K b 0<=K a t) (h2:∀t,t<b.size->K b t<=K a (a.size-1)) (h:∀c st',Srt (a.toList++b.toList) c->Same st st'->Q c st'):wpS (model pr wd) A E s (mLo a b) Q st:=by
 have kv:∀{x:Array Keyed}{i:Nat}{p:Keyed},x[i]?=some p->kd p=K x i:=λ e=>by unfold K;rw[e]
 refine wpS_bind (wpS_lift (wpAny_rule ⟨rfl,?_⟩))
 obtain⟨p0,e0,_⟩:=Rb.ik 0 nb
 have m0:Lo a b #[] 0 0:=by
  refine⟨by simp,List.Pairwise.nil,Ra.ord _ _,Rb.ord _ _,?_,?_⟩<;>(intro p hp;simp at hp)
 have m1:=m0.pB Rb nb e0 λ t _ h' _=>h1 t h'
 refine wpS_bind (Jb4 e0 ?_)
 refine Jab (λ g=>wpS_pure (h _ _ (m1.dn (.inr g)) Same.rfl)) λ g1=>Jab (λ g=>wpS_pure (h _ _ (m1.la g h2) Same.rfl)) λ g2=>?_
 have g1':1<b.size:=Nat.lt_of_le_of_ne nb g1
 have g2':1<a.size:=Nat.lt_of_le_of_ne na g2
 refine wpS_bind (wpS_get ?_)
 refine wpS_bind (wpS_mono (wpS_forRange (I:=λ x c st'=>Same st st'/\∃o i j g,c=(none,o,i,j,g)/\Lo a b o i j/\x<i+j/\i+1<a.size/\j<b.size)
  (Q:=λ c st'=>Same st st'/\∃r,c.1=some r/\Srt (a.toList++b.toList) r) ?_ ?_ ⟨Same.rfl,_,0,1,_,rfl,m1,by omega,g2',g1'⟩) ?_)
 ·clear m1 m0
  rintro x c st1 _ hx ⟨S1,o,i,j,g,rfl,m,xl,il,jl⟩
  refine wpS_bind (wpS_mono (wpS_forRange (I:=λ y c st'=>st'=st1/\∃o i j ac bc,c=(none,o,i,j,ac,bc)/\Lo a b o i j/\x+y<i+j/\i+1<a.size/\j<b.size)
   (Q:=λ c st'=>st'=st1/\((∃r,c.1=some r/\Srt (a.toList++b.toList) r)∨∃o i j ac bc,c=(none,o,i,j,ac,bc)/\Lo a b o i j/\x+1<i+j/\i+1<a.size/\j<b.size)) ?_ ?_ ⟨rfl,o,i,j,_,_,rfl,m,by omega,il,jl⟩) ?_)
  ·clear m xl il jl
   rintro y c st2 _ hy ⟨rfl,o,i,j,ac,bc,rfl,m,xl,il,jl⟩
   obtain⟨p,ep,ip⟩:=Rb.ik j jl
   obtain⟨q,eq,iq⟩:=Ra.ik i (by omega)
   refine wpS_bind (Jb4 ep (wpS_bind (Jb4 eq (wpS_bind (Jxn (S1.kind.trans hk) ip iq (Jem (λ lt=>?_) λ lt=>?_))))))
   all_goals rw[kv ep,kv eq] at lt
   ·have m':=m.pB Rb jl ep λ t h1 h2 _=>Int.le_trans (Int.le_of_lt lt) (Ra.so i t h1 h2)
    refine wpS_bind (Jb4 ep (Jab (λ g=>wpS_pure ⟨rfl,.inl ⟨_,rfl,m'.dn (.inr g)⟩⟩) λ g=>?_))
    have g':j+1<b.size:=Nat.lt_of_le_of_ne jl g
    exact J0 (λ _=>wpS_pure ⟨rfl,.inr ⟨_,i,j+1,_,_,rfl,m',Nat.succ_lt_succ (Nat.lt_of_le_of_lt (Nat.le_add_right x y) xl),il,g'⟩⟩) λ _=>wpS_pure ⟨rfl,_,i,j+1,_,_,rfl,m',Nat.succ_lt_succ xl,il,g'⟩
   ·have m':=m.pA Ra (Nat.lt_of_succ_lt il) eq λ t h1 h2 _=>Int.le_trans (Int.not_lt.mp lt) (Rb.so j t h1 h2)
    refine wpS_bind (Jb4 eq (Jab (λ g=>wpS_pure ⟨rfl,.inl ⟨_,rfl,m'.la g h2⟩⟩) λ g=>?_))
    have g':i+1+1<a.size:=Nat.lt_of_le_of_ne il g
    exact J0 (λ _=>wpS_pure ⟨rfl,.inr ⟨_,i+1,j,_,_,rfl,m',by rw[Nat.add_right_comm];exact Nat.succ_lt_succ (Nat.lt_of_le_of_lt (Nat.le_add_right x y) xl),g',jl⟩⟩) λ _=>wpS_pure ⟨rfl,_,i+1,j,_,_,rfl,m',by rw[Nat.add_right_comm i];exact Nat.succ_lt_succ xl,g',jl⟩
  ·rintro c st2 ⟨rfl,o,i,j,ac,bc,rfl,m,xl,il,jl⟩
   omega
  rintro c st2 ⟨rfl,⟨r,er,sr⟩|⟨o,i,j,ac,bc,rfl,m,xl,il,jl⟩⟩
  ·obtain⟨c0,c⟩:=c
   cases er
   exact wpS_pure ⟨S1,r,rfl,sr⟩
  refine wpS_bind (wpS_lift (wpAny_rule ⟨rfl,?_⟩))
  refine wpS_bind (wpS_mono (wpS_forRange (I:=λ y c st'=>Same st st'/\∃o i j g ac bc,c=(none,o,i,j,g,ac,bc)/\Lo a b o i j/\x+1<i+j/\i+1<a.size/\j<b.size)
   (Q:=λ c st'=>Same st st'/\((∃r,c.1=some r/\Srt (a.toList++b.toList) r)∨∃o i j g ac bc,c=(none,o,i,j,g,ac,bc)/\Lo a b o i j/\x+1<i+j/\i+1<a.size/\j<b.size)) ?_ ?_ ⟨S1,o,i,j,_,_,_,rfl,m,by omega,il,jl⟩) ?_)
  ·clear m xl il jl hx g1 g2 g1' g2' na nb
   rintro y c st2 _ _ ⟨S2,o,i,j,g,ac,bc,rfl,m,xl,il,jl⟩
   refine wpS_mono (Q:=MgQ st (Srt (a.toList++b.toList)) λ c=>Lo a b c.1 c.2.1 c.2.2.1/\x+1<c.2.1+c.2.2.1/\c.2.1+1<a.size/\c.2.2.1<b.size) ?_ λ r st' h=>by cases h with
    | fin S f=>exact⟨S,.inl ⟨_,rfl,f⟩⟩
    | brk S f=>exact⟨S,.inr ⟨_,_,_,_,_,_,rfl,f⟩⟩
    | go S f=>exact⟨S,_,_,_,_,_,_,rfl,f⟩
   dsimp -zeta only
   extract_lets -merge -useContext -underBinder z1 z2 z3 z4 z5 z6 z7 z8 z9 z10 z11 jp
   refine Jzy (jp ()) λ g'=>?_
   have S3:=S2.more g'
   obtain⟨p,ep,ip⟩:=Rb.ik j jl
   refine wpS_bind (wpS_modify (wpS_bind (Jb4 ep (wpS_bind (Jha (base:=i) (n:=a.size-i) (S3.kind.trans hk) (by omega) (by omega) ip Ra.ik (λ u v _ uv hv=>Ra.so u v uv (by omega)) λ k kn f1 f2=>?_)))))
   rw[kv ep] at f1 f2
   dsimp -zeta only
   extract_lets -merge -useContext -underBinder y1 jp2
   have H2:∀o1 i1,Lo a b o1 i1 j->i<=i1->i1+1<a.size->(∀t,i1<=t->t<a.size->K b j<=K a t)->wpS (model pr wd) A E s (jp2 () o1 i1) (MgQ st (Srt (a.toList++b.toList)) λ c=>Lo a b c.1 c.2.1 c.2.2.1/\x+1<c.2.1+c.2.2.1/\c.2.1+1<a.size/\c.2.2.1<b.size) _:=λ o1 i1 m1 ii l1 f=>by
    have m2:=m1.pB Rb jl ep λ t h1 h2 _=>f t h1 h2
    refine wpS_bind (Jb4 ep (Jab (λ g=>wpS_pure (.fin S3 (m2.dn (.inr g)))) λ g=>?_))
    have g':j+1<b.size:=Nat.lt_of_le_of_ne jl g
    obtain⟨q,eq,iq⟩:=Ra.ik i1 (Nat.lt_of_succ_lt l1)
    refine wpS_bind (Jb4 eq (wpS_bind (Jha (base:=j+1) (n:=b.size-(j+1)) (S3.kind.trans hk) (Nat.sub_pos_of_lt g') (by omega) iq Rb.ik (λ u v _ uv hv=>Rb.so u v uv (by omega)) λ k kn f1 f2=>?_)))
    rw[kv eq] at f1 f2
    dsimp -zeta only
    extract_lets -merge -useContext -underBinder y2 jp3
    have H3:∀o2 j2,Lo a b o2 i1 j2->j+1<=j2->j2<b.size->(∀t,j2<=t->t<b.size->K a i1<=K b t)->wpS (model pr wd) A E s (jp3 () o2 j2) (MgQ st (Srt (a.toList++b.toList)) λ c=>Lo a b c.1 c.2.1 c.2.2.1/\x+1<c.2.1+c.2.2.1/\c.2.1+1<a.size/\c.2.2.1<b.size) _:=λ o2 j2 m3 jj l2 f=>by
     have m4:=m3.pA Ra (Nat.lt_of_succ_lt l1) eq λ t h1 h2 _=>f t h1 h2
     refine wpS_bind (Jb4 eq (Jab (λ g=>wpS_pure (.fin S3 (m4.la g h2))) λ g=>?_))
     have g':i1+1+1<a.size:=Nat.lt_of_le_of_ne l1 g
     have pp:x+1<i1+1+j2:=by omega
     exact J0 (λ _=>wpS_pure (.brk S3 ⟨m4,pp,g',l2⟩)) λ _=>wpS_pure (.go S3 ⟨m4,pp,g',l2⟩)
    refine J0 (λ _=>?_) λ g=>?_
    ·have m3:=m2.cB (k:=k) (by omega) (λ t h1 h2 _=>f1 t h1 h2) λ t h1 h2 _=>Ra.so i1 t h1 h2
     refine Jab (λ g=>wpS_pure (.fin S3 (m3.dn (.inr g)))) λ g=>?_
     have g':¬j+1+k=b.size:=g
     exact H3 _ (j+1+k) m3 (Nat.le_add_right _ _) (by omega) λ t h1 h2=>f2 t h1 (by omega)
    ·have k0:k=0:=Nat.le_zero.mp (Nat.not_lt.mp g)
     subst k0
     exact H3 _ (j+1) m2 (Nat.le_refl _) g' λ t h1 h2=>f2 t h1 (by omega)
   refine J0 (λ _=>?_) λ g=>?_
   ·have m3:=m.cA (k:=k) (by omega) (λ t h1 h2 _=>f1 t h1 h2) λ t h1 h2 _=>Rb.so j t h1 h2
    refine Jab (λ g=>wpS_pure (.fin S3 (m3.la g h2))) λ g=>Jab (λ g=>wpS_pure (.fin S3 (m3.dn (.inl g)))) λ g2=>?_
    have g':¬i+k+1=a.size:=g
    have g2':¬i+k=a.size:=g2
    exact H2 _ (i+k) m3 (Nat.le_add_right _ _) (by omega) λ t h1 h2=>f2 t h1 (by omega)
   ·have k0:k=0:=Nat.le_zero.mp (Nat.not_lt.mp g)
    subst k0
    exact H2 _ i m (Nat.le_refl _) il λ t h1 h2=>f2 t h1 (by omega)
  ·rintro c st2 ⟨S2,o,i,j,g,ac,bc,rfl,m,xl,il,jl⟩
   exact⟨S2,.inr ⟨o,i,j,g,ac,bc,rfl,m,xl,il,jl⟩⟩
  rintro c st2 ⟨S2,⟨r,er,sr⟩|⟨o,i,j,g,ac,bc,rfl,m,xl,il,jl⟩⟩
  ·obtain⟨c0,c⟩:=c
   cases er
   exact wpS_pure ⟨S2,r,rfl,sr⟩
  refine wpS_bind (wpS_modify (wpS_pure ⟨S2.more _,o,i,j,_,rfl,m,xl,il,jl⟩))
 ·rintro c st1 ⟨S1,o,i,j,g,rfl,m,xl,il,jl⟩
  omega
 ·rintro⟨c0,c⟩ st1 ⟨S1,r,er,sr⟩
  cases er
  exact wpS_pure (h r _ sr S1)
end
noncomputable def Hi (a b:Array Keyed) (o:Array Keyed) (i j:Nat):Prop:=Mg (λ x y=>y<=x) (a.toList++b.toList) o.toList (a.extract 0 i).toList.reverse (b.extract 0 j).toList.reverse
section
variable {a b o:Array Keyed}{i j k:Nat}{key:Int}
theorem Hi.cA (m:Hi a b o i j) (h:k<=i) (f:∀t,k<=t->t<i->t<a.size->key<=K a t) (g:∀t,0<=t->t<j->t<b.size->K b t<=key):Hi a b (o++(a.extract k i).reverse) k j:=by
 unfold Hi at m ⊢
 rw[Jc8 a (Nat.zero_le k) h,List.reverse_append] at m
 rw[Array.toList_append,Array.toList_reverse]
 exact m.step λ p hp q hq=>Jq5 g f q (List.mem_reverse.mp hq) p (List.mem_reverse.mp hp)
theorem Hi.cB (m:Hi a b o i j) (h:k<=j) (f:∀t,k<=t->t<j->t<b.size->key<=K b t) (g:∀t,0<=t->t<i->t<a.size->K a t<=key):Hi a b (o++(b.extract k j).reverse) i k:=by
 unfold Hi at m ⊢
 rw[Jc8 b (Nat.zero_le k) h,List.reverse_append] at m
 rw[Array.toList_append,Array.toList_reverse]
 exact(m.swap.step λ p hp q hq=>Jq5 g f q (List.mem_reverse.mp hq) p (List.mem_reverse.mp hp)).swap
theorem Jql {p:Keyed}(h:0<i) (e:a[i-1]?=some p):(o.push p).toList=(o++(a.extract (i-1) i).reverse).toList:=by
 have:=Jo4 e #[]
 rw[show i-1+1=i by omega] at this
 rw[Array.toList_append,Array.toList_reverse,<-List.nil_append (a.extract (i-1) i).toList,<-this]
 simp
theorem Hi.pA {p:Keyed}(m:Hi a b o i j) (h:0<i) (e:a[i-1]?=some p) (g:∀t,0<=t->t<j->t<b.size->K b t<=K a (i-1)):Hi a b (o.push p) (i-1) j:=by
 have:=m.cA (k:=i-1) (by omega) (λ t h1 h2 h3=>by rw[show t=i-1 by omega];exact Int.le_refl _) g
 unfold Hi at this ⊢
 rwa [Jql h e]
theorem Hi.pB {p:Keyed}(m:Hi a b o i j) (h:0<j) (e:b[j-1]?=some p) (g:∀t,0<=t->t<i->t<a.size->K a t<=K b (j-1)):Hi a b (o.push p) i (j-1):=by
 have:=m.cB (k:=j-1) (by omega) (λ t h1 h2 h3=>by rw[show t=j-1 by omega];exact Int.le_refl _) g
 unfold Hi at this ⊢
 rwa [Jql h e]
theorem Mg.rev {L x y z:List Keyed}(h:(x++y.reverse++z.reverse).Perm L/\Ord (λ x y=>y<=x) (x++y.reverse++z.reverse)):(z++y++x.reverse).Perm L/\Ord (· <= ·) (z++y++x.reverse):=by
 have e:z++y++x.reverse=(x++y.reverse++z.reverse).reverse:=by simp
 rw[e]
 exact⟨(List.reverse_perm _).trans h.1,List.pairwise_reverse.mpr h.2⟩
theorem Hi.dn (m:Hi a b o i j) (h:i=0∨j=0):Srt (a.toList++b.toList) (a.extract 0 i++b.extract 0 j++o.reverse):=by
 unfold Srt
 rw[Array.toList_append,Array.toList_append,Array.toList_reverse]
 exact Mg.rev (m.swap.fin λ p hp q hq=>by
  obtain⟨t,a1,a2,_⟩:=Jh0 (List.mem_reverse.mp hp)
  obtain⟨u,b1,b2,_⟩:=Jh0 (List.mem_reverse.mp hq)
  omega)
theorem Hi.fb (m:Hi a b o i j) (h:j=1) (h1:∀t,t<a.size->K b 0<=K a t):Srt (a.toList++b.toList) (b.extract 0 j++a.extract 0 i++o.reverse):=by
 unfold Srt
 rw[Array.toList_append,Array.toList_append,Array.toList_reverse]
 refine Mg.rev (m.fin λ p hp q hq=>Jq5 (key:=K b 0) (λ t _ h2 _=>?_) (λ t _ _ h'=>h1 t h') q (List.mem_reverse.mp hq) p (List.mem_reverse.mp hp))
 rw[show t=0 by omega]
 exact Int.le_refl _
end
noncomputable def mHi:Array Keyed->Array Keyed->StateT SortSt Sem (Array Keyed):=sortPriv% PySem.Builtin.mergeHi
section
variable {pr:Program}{wd:World}{A:Around}{E:Value->Shared->Prop}{s:Shared}{st:SortSt}
theorem J38 {a b:Array Keyed}{Q:Array Keyed->SortSt->Prop}(hk:kindOf st=oneType') (Ra:Run a) (Rb:Run b) (na:0<a.size) (nb:0<b.size)
  (h1:∀t,t<a.size->K b 0<=K a t) (h2:∀t,t<b.size->K b t<=K a (a.size-1)) (h:∀c st',Srt (a.toList++b.toList) c->Same st st'->Q c st'):wpS (model pr wd) A E s (mHi a b) Q st:=by
 have kv:∀{x:Array Keyed}{i:Nat}{p:Keyed},x[i]?=some p->kd p=K x i:=λ e=>by unfold K;rw[e]
 refine wpS_bind (wpS_lift (wpAny_rule ⟨rfl,?_⟩))
 obtain⟨p0,e0,_⟩:=Ra.ik (a.size-1) (by omega)
 have rv:∀{x:Array Keyed}(R:Run x) (i:Nat),Ord (λ x y=>y<=x) (x.extract 0 i).toList.reverse:=λ R i=>List.pairwise_reverse.mpr (R.ord 0 i)
 have m0:Hi a b #[] a.size b.size:=by
  refine⟨?_,List.Pairwise.nil,rv Ra _,rv Rb _,?_,?_⟩
  ·exact(((List.reverse_perm _).append (List.reverse_perm _)).trans (by simp))
  all_goals (intro p hp;simp at hp)
 have m1:=m0.pA na e0 λ t _ h' _=>h2 t h'
 refine wpS_bind (Jb4 e0 ?_)
 refine Jab (i:=a.size-1) (j:=0) (λ g=>wpS_pure (h _ _ (m1.dn (.inl g)) Same.rfl)) λ g1=>Jab (i:=b.size) (j:=1) (λ g=>wpS_pure (h _ _ (m1.fb g h1) Same.rfl)) λ g2=>?_
 have g1':0<a.size-1:=Nat.pos_of_ne_zero g1
 have g2':1<b.size:=Nat.lt_of_le_of_ne nb (Ne.symm g2)
 have s1:0+(a.size-1)+b.size<a.size+b.size:=by omega
 refine wpS_bind (wpS_get ?_)
 refine wpS_bind (wpS_mono (wpS_forRange (I:=λ x c st'=>Same st st'/\∃i j o g,c=(none,i,j,o,g)/\Hi a b o i j/\x+i+j<a.size+b.size/\0<i/\i<=a.size/\1<j/\j<=b.size)
  (Q:=λ c st'=>Same st st'/\∃r,c.1=some r/\Srt (a.toList++b.toList) r) ?_ ?_ ⟨Same.rfl,_,_,_,_,rfl,m1,s1,g1',Nat.sub_le _ _,g2',Nat.le_refl _⟩) ?_)
 ·clear m1 m0
  rintro x c st1 _ hx ⟨S1,i,j,o,g,rfl,m,xl,il,ia,jl,jb⟩
  refine wpS_bind (wpS_mono (wpS_forRange (I:=λ y c st'=>st'=st1/\∃i j o ac bc,c=(none,i,j,o,ac,bc)/\Hi a b o i j/\x+y+i+j<a.size+b.size/\0<i/\i<=a.size/\1<j/\j<=b.size)
   (Q:=λ c st'=>st'=st1/\((∃r,c.1=some r/\Srt (a.toList++b.toList) r)∨∃i j o ac bc,c=(none,i,j,o,ac,bc)/\Hi a b o i j/\x+1+i+j<a.size+b.size/\0<i/\i<=a.size/\1<j/\j<=b.size)) ?_ ?_ ⟨rfl,i,j,o,_,_,rfl,m,by omega,il,ia,jl,jb⟩) ?_)
  ·clear m xl il ia jl jb
   rintro y c st2 _ hy ⟨rfl,i,j,o,ac,bc,rfl,m,xl,il,ia,jl,jb⟩
   have jm:j-1<b.size:=Nat.sub_one_lt_of_le (Nat.lt_of_succ_lt jl) jb
   have im:i-1<a.size:=Nat.sub_one_lt_of_le il ia
   obtain⟨p,ep,ip⟩:=Rb.ik (j-1) jm
   obtain⟨q,eq,iq⟩:=Ra.ik (i-1) im
   refine wpS_bind (Jb4 ep (wpS_bind (Jb4 eq (wpS_bind (Jxn (S1.kind.trans hk) ip iq (Jem (λ lt=>?_) λ lt=>?_))))))
   all_goals rw[kv ep,kv eq] at lt
   ·have m':=m.pA il eq λ t _ h2 _=>Int.le_trans (Rb.so t (j-1) (Nat.le_sub_one_of_lt h2) jm) (Int.le_of_lt lt)
    have pp:x+y+1+(i-1)+j<a.size+b.size:=by omega
    have p1:x+1+(i-1)+j<a.size+b.size:=by omega
    refine wpS_bind (Jb4 eq (Jab (i:=i-1) (j:=0) (λ g=>wpS_pure ⟨rfl,.inl ⟨_,rfl,m'.dn (.inl g)⟩⟩) λ g=>?_))
    have g':=Nat.pos_of_ne_zero g
    have i':=Nat.le_trans (Nat.sub_le i 1) ia
    exact J0 (λ _=>wpS_pure ⟨rfl,.inr ⟨i-1,j,_,_,_,rfl,m',p1,g',i',jl,jb⟩⟩) λ _=>wpS_pure ⟨rfl,i-1,j,_,_,_,rfl,m',pp,g',i',jl,jb⟩
   ·have m':=m.pB (Nat.lt_of_succ_lt jl) ep λ t _ h2 _=>Int.le_trans (Ra.so t (i-1) (Nat.le_sub_one_of_lt h2) im) (Int.not_lt.mp lt)
    have pp:x+y+1+i+(j-1)<a.size+b.size:=by omega
    have p1:x+1+i+(j-1)<a.size+b.size:=by omega
    refine wpS_bind (Jb4 ep (Jab (i:=j-1) (j:=1) (λ g=>wpS_pure ⟨rfl,.inl ⟨_,rfl,m'.fb g h1⟩⟩) λ g=>?_))
    have g':1<j-1:=Nat.lt_of_le_of_ne (Nat.le_sub_one_of_lt jl) (Ne.symm g)
    have j':=Nat.le_trans (Nat.sub_le j 1) jb
    exact J0 (λ _=>wpS_pure ⟨rfl,.inr ⟨i,j-1,_,_,_,rfl,m',p1,il,ia,g',j'⟩⟩) λ _=>wpS_pure ⟨rfl,i,j-1,_,_,_,rfl,m',pp,il,ia,g',j'⟩
  ·rintro c st2 ⟨rfl,i,j,o,ac,bc,rfl,m,xl,il,ia,jl,jb⟩
   omega
  rintro c st2 ⟨rfl,⟨r,er,sr⟩|⟨i,j,o,ac,bc,rfl,m,xl,il,ia,jl,jb⟩⟩
  ·obtain⟨c0,c⟩:=c
   cases er
   exact wpS_pure ⟨S1,r,rfl,sr⟩
  refine wpS_bind (wpS_lift (wpAny_rule ⟨rfl,?_⟩))
  refine wpS_bind (wpS_mono (wpS_forRange (I:=λ y c st'=>Same st st'/\∃i j o g ac bc,c=(none,i,j,o,g,ac,bc)/\Hi a b o i j/\x+1+i+j<a.size+b.size/\0<i/\i<=a.size/\1<j/\j<=b.size)
   (Q:=λ c st'=>Same st st'/\((∃r,c.1=some r/\Srt (a.toList++b.toList) r)∨∃i j o g ac bc,c=(none,i,j,o,g,ac,bc)/\Hi a b o i j/\x+1+i+j<a.size+b.size/\0<i/\i<=a.size/\1<j/\j<=b.size)) ?_ ?_ ⟨S1,i,j,o,_,_,_,rfl,m,xl,il,ia,jl,jb⟩) ?_)
  ·clear m xl il ia jl jb hx s1 g1 g2 g1' g2' na nb
   rintro y c st2 _ _ ⟨S2,i,j,o,g,ac,bc,rfl,m,xl,il,ia,jl,jb⟩
   refine wpS_mono (Q:=MgQ st (Srt (a.toList++b.toList)) λ c:Nat×Nat×Array Keyed×Nat×Nat×Nat=>Hi a b c.2.2.1 c.1 c.2.1/\x+1+c.1+c.2.1<a.size+b.size/\0<c.1/\c.1<=a.size/\1<c.2.1/\c.2.1<=b.size) ?_ λ r st' h=>by cases h with
    | fin S f=>exact⟨S,.inl ⟨_,rfl,f⟩⟩
    | brk S f=>exact⟨S,.inr ⟨_,_,_,_,_,_,rfl,f⟩⟩
    | go S f=>exact⟨S,_,_,_,_,_,_,rfl,f⟩
   dsimp -zeta only
   extract_lets -merge -useContext -underBinder z1 z2 z3 z4 z5 z6 z7 z8 z9 z10 z11 jp
   refine Jzy (jp ()) λ g'=>?_
   have S3:=S2.more g'
   have jm:j-1<b.size:=Nat.sub_one_lt_of_le (Nat.lt_of_succ_lt jl) jb
   obtain⟨p,ep,ip⟩:=Rb.ik (j-1) jm
   refine wpS_bind (wpS_modify (wpS_bind (Jb4 ep (wpS_bind (Jha (base:=0) (n:=i) (hint:=i-1) (S3.kind.trans hk) (Nat.sub_lt il Nat.one_pos) (by rw[Nat.zero_add];exact ia) ip Ra.ik (λ u v _ uv hv=>Ra.so u v uv (Nat.lt_of_lt_of_le hv (by rw[Nat.zero_add];exact ia))) λ k kn f1 f2=>?_)))))
   rw[kv ep] at f1 f2
   rw[Nat.zero_add] at f1 f2
   dsimp -zeta only
   extract_lets -merge -useContext -underBinder y0 y1 jp2
   have H2:∀i1 o1,Hi a b o1 i1 j->i1<=i->0<i1->(∀t,t<i1->K a t<=K b (j-1))->wpS (model pr wd) A E s (jp2 () i1 o1) (MgQ st (Srt (a.toList++b.toList)) λ c:Nat×Nat×Array Keyed×Nat×Nat×Nat=>Hi a b c.2.2.1 c.1 c.2.1/\x+1+c.1+c.2.1<a.size+b.size/\0<c.1/\c.1<=a.size/\1<c.2.1/\c.2.1<=b.size) _:=λ i1 o1 m1 ii l1 f=>by
    have m2:=m1.pB (Nat.lt_of_succ_lt jl) ep λ t _ h2 _=>f t h2
    refine wpS_bind (Jb4 ep (Jab (i:=j-1) (j:=1) (λ g=>wpS_pure (.fin S3 (m2.fb g h1))) λ g=>?_))
    have g':1<j-1:=Nat.lt_of_le_of_ne (Nat.le_sub_one_of_lt jl) (Ne.symm g)
    have im:i1-1<a.size:=Nat.sub_one_lt_of_le l1 (Nat.le_trans ii ia)
    obtain⟨q,eq,iq⟩:=Ra.ik (i1-1) im
    refine wpS_bind (Jb4 eq (wpS_bind (Jha (base:=0) (n:=j-1) (hint:=j-1-1) (S3.kind.trans hk) (Nat.sub_lt (Nat.lt_of_succ_lt g') Nat.one_pos) (by rw[Nat.zero_add];exact Nat.le_of_lt jm) iq Rb.ik (λ u v _ uv hv=>Rb.so u v uv (Nat.lt_trans hv (by rw[Nat.zero_add];exact jm))) λ k kn f1 f2=>?_)))
    rw[kv eq] at f1 f2
    rw[Nat.zero_add] at f1 f2
    dsimp -zeta only
    extract_lets -merge -useContext -underBinder y2 y3 jp3
    have H3:∀j2 o2,Hi a b o2 i1 j2->j2<=j-1->1<j2->(∀t,t<j2->K b t<=K a (i1-1))->wpS (model pr wd) A E s (jp3 () j2 o2) (MgQ st (Srt (a.toList++b.toList)) λ c:Nat×Nat×Array Keyed×Nat×Nat×Nat=>Hi a b c.2.2.1 c.1 c.2.1/\x+1+c.1+c.2.1<a.size+b.size/\0<c.1/\c.1<=a.size/\1<c.2.1/\c.2.1<=b.size) _:=λ j2 o2 m3 jj l2 f=>by
     have m4:=m3.pA l1 eq λ t _ h2 _=>f t h2
     refine wpS_bind (Jb4 eq (Jab (i:=i1-1) (j:=0) (λ g=>wpS_pure (.fin S3 (m4.dn (.inl g)))) λ g=>?_))
     have pp:x+1+(i1-1)+j2<a.size+b.size:=by omega
     have i':=Nat.le_of_lt im
     have j':=Nat.le_of_lt (Nat.lt_of_le_of_lt jj jm)
     exact J0 (λ _=>wpS_pure (.brk S3 ⟨m4,pp,Nat.pos_of_ne_zero g,i',l2,j'⟩)) λ _=>wpS_pure (.go S3 ⟨m4,pp,Nat.pos_of_ne_zero g,i',l2,j'⟩)
    refine J0 (λ _=>?_) λ g=>?_
    ·have m3:=m2.cB (k:=k) kn (λ t h1 h2 _=>f2 t h1 (by rw[Nat.zero_add];exact h2)) λ t _ h2 _=>Ra.so t (i1-1) (Nat.le_sub_one_of_lt h2) im
     refine Jab (i:=k) (j:=1) (λ g=>wpS_pure (.fin S3 (m3.fb g h1))) λ g=>Jab (i:=k) (j:=0) (λ g=>wpS_pure (.fin S3 (m3.dn (.inr g)))) λ g2=>?_
     exact H3 k _ m3 kn (Nat.lt_of_le_of_ne (Nat.pos_of_ne_zero g2) (Ne.symm g)) λ t h1=>f1 t (Nat.zero_le _) h1
    ·have k0:k=j-1:=Nat.le_antisymm kn (Nat.le_of_sub_eq_zero (Nat.le_zero.mp (Nat.not_lt.mp g)))
     subst k0
     exact H3 (j-1) _ m2 (Nat.le_refl _) g' λ t h1=>f1 t (Nat.zero_le _) h1
   refine J0 (λ _=>?_) λ g=>?_
   ·have m3:=m.cA (k:=k) kn (λ t h1 h2 _=>f2 t h1 (by rw[Nat.zero_add];exact h2)) λ t _ h2 _=>Rb.so t (j-1) (Nat.le_sub_one_of_lt h2) jm
    exact Jab (i:=k) (j:=0) (λ g=>wpS_pure (.fin S3 (m3.dn (.inl g)))) λ g=>H2 k _ m3 kn (Nat.pos_of_ne_zero g) λ t h1=>f1 t (Nat.zero_le _) h1
   ·have k0:k=i:=Nat.le_antisymm kn (Nat.le_of_sub_eq_zero (Nat.le_zero.mp (Nat.not_lt.mp g)))
    subst k0
    exact H2 k _ m (Nat.le_refl _) il λ t h1=>f1 t (Nat.zero_le _) h1
  ·rintro c st2 ⟨S2,i,j,o,g,ac,bc,rfl,m⟩
   exact⟨S2,.inr ⟨i,j,o,g,ac,bc,rfl,m⟩⟩
  rintro c st2 ⟨S2,⟨r,er,sr⟩|⟨i,j,o,g,ac,bc,rfl,m⟩⟩
  ·obtain⟨c0,c⟩:=c
   cases er
   exact wpS_pure ⟨S2,r,rfl,sr⟩
  refine wpS_bind (wpS_modify (wpS_pure ⟨S2.more _,i,j,o,_,rfl,m⟩))
 ·rintro c st1 ⟨S1,i,j,o,g,rfl,m,xl,il,ia,jl,jb⟩
  omega
 ·rintro⟨c0,c⟩ st1 ⟨S1,r,er,sr⟩
  cases er
  exact wpS_pure (h r _ sr S1)
end
theorem Juf {sa:Nat}:∀(l:List Keyed) (n:Nat) (xs:Array Keyed) (t:Nat),sa+n+l.length<=xs.size->((l.zipIdx n).foldl (λ a (q:Keyed×Nat)=>a.setIfInBounds (sa+q.2) q.1) xs)[t]?=if sa+n<=t/\t<sa+n+l.length then l[t-(sa+n)]? else xs[t]?
 | [],n,xs,t,_=>by rw[if_neg (by simp only[List.length_nil];omega)];rfl
 | p::l,n,xs,t,h=>by
  simp only[List.length_cons] at h ⊢
  rw[List.zipIdx_cons,List.foldl_cons,Juf l (n+1) _ t (by rw[Array.size_setIfInBounds];omega),Array.getElem?_setIfInBounds]
  dsimp only
  by_cases e:sa+n=t
  ·subst e
   rw[if_neg (by omega),if_pos rfl,if_pos (by omega),if_pos (by omega),Nat.sub_self]
   rfl
  ·rw[if_neg e]
   by_cases g:sa+(n+1)<=t/\t<sa+(n+1)+l.length
   ·rw[if_pos g,if_pos (by omega),show t-(sa+n)=t-(sa+(n+1))+1 by omega]
    rfl
   ·rw[if_neg g,if_neg (by omega)]
noncomputable def lay (sa:Nat) (m xs:Array Keyed):Array Keyed:=m.toList.zipIdx.foldl (λ a (q:Keyed×Nat)=>a.setIfInBounds (sa+q.2) q.1) xs
theorem J0i {sa:Nat}{m xs:Array Keyed}(h:sa+m.size<=xs.size) (t:Nat):(lay sa m xs)[t]?=if sa<=t/\t<sa+m.size then m[t-sa]? else xs[t]?:=by
 have:=Juf m.toList 0 xs t (sa:=sa) (by simpa using h)
 unfold lay
 simpa using this
theorem K_lay {sa:Nat}{m xs:Array Keyed}(h:sa+m.size<=xs.size) (t:Nat):K (lay sa m xs) t=if sa<=t/\t<sa+m.size then K m (t-sa) else K xs t:=by
 have:=J0i h t
 by_cases g:sa<=t/\t<sa+m.size
 ·rw[if_pos g] at this ⊢;exact K_congr this
 ·rw[if_neg g] at this ⊢;exact K_congr this
theorem Jxj {sa:Nat}(l:List Keyed):∀(mid pre post:List Keyed) (n:Nat),mid.length=l.length->pre.length=sa+n->((l.zipIdx n).foldl (λ a (q:Keyed×Nat)=>a.setIfInBounds (sa+q.2) q.1) (pre++(mid++post)).toArray).toList=pre++(l++post):=by
 induction l with
 | nil =>
  intro mid pre post n h _
  rw[List.length_eq_zero_iff.mp h]
  rfl
 | cons p l ih =>
  intro mid pre post n h e
  obtain⟨q,mid,rfl⟩:=List.exists_cons_of_length_eq_add_one h
  rw[List.zipIdx_cons,List.foldl_cons,List.setIfInBounds_toArray]
  dsimp only
  rw[<- e,List.set_append_right _ _ (Nat.le_refl _),Nat.sub_self,List.cons_append,List.set_cons_zero,List.append_cons pre p (mid++post),ih mid (pre++[p]) post (n+1) (Nat.succ.inj h) (by rw[List.length_append,e];rfl),<-List.append_cons]
  rfl
theorem Jxk {sa sb e:Nat}{m xs:Array Keyed}(h1:sa<=sb) (h2:sb<=e) (h3:e<=xs.size) (h:m.toList.Perm ((xs.extract sa sb).toList++(xs.extract sb e).toList)):m.size=e-sa/\(lay sa m xs).Perm xs:=by
 have ex:xs.toList=(xs.extract 0 sa).toList++((xs.extract sa e).toList++(xs.extract e xs.size).toList):=by
  rw[<- List.append_assoc,<-Jc8 xs (Nat.zero_le _) (Nat.le_trans h1 h2),<-Jc8 xs (Nat.zero_le _) h3]
  simp
 rw[<- Jc8 xs h1 h2] at h
 have hl:=h.length_eq
 have lm:(xs.extract sa e).toList.length=e-sa:=by rw[Array.length_toList,Array.size_extract,Nat.min_eq_left h3]
 refine⟨hl.trans lm,Array.perm_iff_toList_perm.mpr ?_⟩
 unfold lay
 have ey:=Jxj (sa:=sa) m.toList (xs.extract sa e).toList (xs.extract 0 sa).toList (xs.extract e xs.size).toList 0 hl.symm (by rw[Array.length_toList,Array.size_extract,Nat.min_eq_left (Nat.le_trans (Nat.le_trans h1 h2) h3)];rfl)
 rw[<- ex] at ey
 rw[ey]
 conv=>rhs;rw[ex]
 exact(h.append_right _).append_left _
noncomputable def So (xs:Array Keyed) (i j:Nat):Prop:=∀t u,i<=t->t<=u->u<j->K xs t<=K xs u
structure Pd (xs:Array Keyed) (p:Array (Nat×Nat×Nat)) (B:Nat->Nat) (lo:Nat):Prop where
 b0:B 0=0
 bl:B p.size=lo
 up:∀k,k<p.size->B k<B (k+1)
 ix:∀k,k<p.size->∃w,p[k]?=some (B k,B (k+1)-B k,w)
 so:∀k,k<p.size->So xs (B k) (B (k+1))
structure Bs (a₀:Array Keyed) (st:SortSt):Prop where
 perm:(arrOf st).Perm a₀
 kind:kindOf st=oneType'
 ok:failedOf st=none
theorem Bs.ik {a₀:Array Keyed}{st:SortSt}(h:Bs a₀ st) (h0:IntKeys a₀) (i:Nat) (hi:i<(arrOf st).size):∃p,(arrOf st)[i]?=some p/\Ik p :=
 ⟨(arrOf st)[i],getElem?_pos _ i hi,h0 _ ((Array.perm_iff_toList_perm.mp h.perm).mem_iff.mp (by simp))⟩
section
variable {xs:Array Keyed}{p:Array (Nat×Nat×Nat)}{B:Nat->Nat}{lo:Nat}
theorem Pd.mono (P:Pd xs p B lo){u:Nat}:∀{v:Nat},u<=v->v<=p.size->B u<=B v
 | 0,h,_=>by rw[Nat.le_zero.mp h];exact Nat.le_refl _
 | v+1,h,h'=>by
  rcases Nat.lt_or_ge u (v+1) with g|g
  ·exact Nat.le_trans (P.mono (v:=v) (by omega) (by omega)) (Nat.le_of_lt (P.up v (by omega)))
  ·rw[show u=v+1 by omega];exact Nat.le_refl _
theorem Pd.ge (P:Pd xs p B lo):∀{v:Nat},v<=p.size->v<=B v
 | 0,_=>Nat.zero_le _
 | v+1,h=>Nat.lt_of_le_of_lt (P.ge (v:=v) (by omega)) (P.up v h)
theorem Jtq {i:Nat}(x:Nat×Nat×Nat) (hi:i+1<p.size):((p.setIfInBounds i x).eraseIdxIfInBounds (i+1)).size=p.size-1:=by
 rw[Array.eraseIdxIfInBounds,dif_pos (by simpa using hi),Array.size_eraseIdx,Array.size_setIfInBounds]
theorem Pd.merged {ys:Array Keyed}{i w:Nat}(P:Pd xs p B lo) (hi:i+1<p.size) (out:∀t,t<B i∨B (i+1+1)<=t->K ys t=K xs t) (so:So ys (B i) (B (i+1+1))) :
  Pd ys ((p.setIfInBounds i (B i,B (i+1)-B i+(B (i+1+1)-B (i+1)),w)).eraseIdxIfInBounds (i+1)) (λ k=>if k<=i then B k else B (k+1)) lo:=by
 have sz:=Jtq (i:=i) (p:=p) (B i,B (i+1)-B i+(B (i+1+1)-B (i+1)),w) hi
 refine⟨by simpa using P.b0,?_,λ k hk=>?_,λ k hk=>?_,λ k hk=>?_⟩
 ·rw[sz,if_neg (by omega),show p.size-1+1=p.size by omega]
  exact P.bl
 all_goals rw[sz] at hk
 ·by_cases a:k+1<=i
  ·rw[if_pos (by omega),if_pos a];exact P.up k (by omega)
  ·rw[if_neg a]
   by_cases b:k<=i
   ·rw[if_pos b];exact Nat.lt_trans (P.up k (by omega)) (P.up (k+1) (by omega))
   ·rw[if_neg b];exact P.up (k+1) (by omega)
 ·rw[Array.eraseIdxIfInBounds,dif_pos (by simpa using hi),Array.getElem?_eraseIdx]
  by_cases a:k<i+1
  ·rw[if_pos a,Array.getElem?_setIfInBounds,if_pos (show k<=i by omega)]
   by_cases b:i=k
   ·subst b
    rw[if_pos rfl,if_pos (by omega),if_neg (by omega)]
    have h1:=P.up i (by omega)
    have h2:=P.up (i+1) (by omega)
    exact⟨w,by rw[show B (i+1+1)-B i=B (i+1)-B i+(B (i+1+1)-B (i+1)) by omega]⟩
   ·rw[if_neg b,if_pos (by omega)]
    exact P.ix k (by omega)
  ·rw[if_neg a,Array.getElem?_setIfInBounds,if_neg (by omega),if_neg (by omega),if_neg (by omega)]
   exact P.ix (k+1) (by omega)
 ·have eq:∀{j:Nat},j<p.size->(B (j+1)<=B i∨B (i+1+1)<=B j)->So ys (B j) (B (j+1)):=λ {j} hj h t u h1 h2 h3=>by
   rw[out t (by omega),out u (by omega)]
   exact P.so j hj t u h1 h2 h3
  by_cases a:k+1<=i
  ·rw[if_pos (by omega),if_pos a]
   exact eq (by omega) (.inl (P.mono a (by omega)))
  ·rw[if_neg a]
   by_cases b:k<=i
   ·rw[if_pos b,show k=i by omega];exact so
   ·rw[if_neg b]
    exact eq (by omega) (.inr (P.mono (by omega) (by omega)))
end
section
variable {pr:Program}{wd:World}{A:Around}{E:Value->Shared->Prop}{s:Shared}{st:SortSt}{a₀:Array Keyed}
theorem J16 {x:SortSt}{Q:PUnit->SortSt->Prop}(h:Q ⟨⟩ x):wpS (model pr wd) A E s (set x:StateT SortSt Sem PUnit) Q st:=by
 unfold wpS;rw[StateT.run_set];exact wpAny_pure ⟨rfl,h⟩
theorem So.run {xs:Array Keyed}{i j:Nat}(ik:∀i,i<xs.size->∃p,xs[i]?=some p/\Ik p) (h:So xs i j) (hj:j<=xs.size):Run (xs.extract i j)/\∀t,t<j-i->K (xs.extract i j) t=K xs (i+t):=by
 have g:∀t,t<j-i->(xs.extract i j)[t]?=xs[i+t]?:=λ t ht=>by rw[Array.getElem?_extract,if_pos (by omega)]
 have sz:(xs.extract i j).size=j-i:=by rw[Array.size_extract];omega
 refine⟨⟨λ t ht=>?_,λ t u tu hu=>?_⟩,λ t ht=>K_congr (g t ht)⟩
 ·rw[sz] at ht
  rw[g t ht]
  exact ik _ (by omega)
 ·rw[sz] at hu
  rw[K_congr (g t (by omega)),K_congr (g u hu)]
  exact h _ _ (by omega) (by omega) (by omega)
theorem J34 {xs m:Array Keyed}{x y z u v:Nat}(h1:x<=u) (h2:u<y) (h3:y<=v) (h4:v<=z) (hz:v<=xs.size) (so1:So xs x y) (so2:So xs y z) (f1:∀t,x<=t->t<u->K xs t<=K xs y) (f2:∀t,u<=t->t<y->K xs y<=K xs t)
  (g1:∀t,y<=t->t<v->K xs t<=K xs (y-1)) (g2:∀t,v<=t->t<z->K xs (y-1)<=K xs t) (ms:m.size=v-u) (mp:m.toList.Perm ((xs.extract u y).toList++(xs.extract y v).toList)) (mo:Ord (· <= ·) m.toList) :
  So (lay u m xs) x z/\∀t,t<x∨z<=t->K (lay u m xs) t=K xs t:=by
 have e:u+m.size=v:=by omega
 have kl:=K_lay (sa:=u) (m:=m) (xs:=xs) (by omega)
 rw[e] at kl
 have y1:y-1<y:=Nat.sub_lt (Nat.lt_of_le_of_lt (Nat.zero_le _) h2) Nat.one_pos
 have y2:∀{t},t<y->t<=y-1:=Nat.le_sub_one_of_lt
 have mid:∀t,t<m.size->K xs y<=K m t/\K m t<=K xs (y-1):=λ t ht=>by
  have hm:m[t]∈m.toList:=by simp
  rw[K_eq ht]
  rcases List.mem_append.mp (mp.mem_iff.mp hm) with w|w
  ·obtain⟨r,a1,a2,_,e⟩:=Jh0 w
   rw[show numOf m[t].1=K xs r from e]
   exact⟨f2 r a1 a2,so1 r _ (Nat.le_trans h1 a1) (y2 a2) y1⟩
  ·obtain⟨r,a1,a2,_,e⟩:=Jh0 w
   rw[show numOf m[t].1=K xs r from e]
   exact⟨so2 _ r (Nat.le_refl _) a1 (Nat.lt_of_lt_of_le a2 h4),g1 r a1 a2⟩
 have mm:∀t r,t<=r->r<m.size->K m t<=K m r:=λ t r tr hr=>by
  rcases Nat.lt_or_eq_of_le tr with w|w
  ·rw[K_eq (Nat.lt_trans w hr),K_eq hr]
   exact(List.pairwise_iff_getElem.mp mo) t r (Nat.lt_trans w hr) hr w
  ·rw[w];exact Int.le_refl _
 have lk:=f2 (y-1) (y2 h2) y1
 have off:∀{t},u<=t->t<v->t-u<m.size:=λ a b=>by rw[ms];exact Nat.sub_lt_sub_right a b
 refine⟨λ t r a b c=>?_,λ t ht=>by rw[kl,if_neg (by omega)]⟩
 rw[kl,kl]
 by_cases t1:t<u
 ·have q1:=f1 t a t1
  rw[if_neg λ w=>Nat.not_lt.mpr w.1 t1]
  by_cases r1:r<u
  ·rw[if_neg λ w=>Nat.not_lt.mpr w.1 r1];exact so1 t r a b (Nat.lt_trans r1 h2)
  have r1:=Nat.not_lt.mp r1
  by_cases r2:r<v
  ·rw[if_pos ⟨r1,r2⟩]
   exact Int.le_trans q1 (mid _ (off r1 r2)).1
  ·rw[if_neg λ w=>r2 w.2]
   exact Int.le_trans q1 (Int.le_trans lk (g2 r (Nat.not_lt.mp r2) c))
 have t1:=Nat.not_lt.mp t1
 have r1:=Nat.le_trans t1 b
 by_cases t2:t<v
 ·rw[if_pos ⟨t1,t2⟩]
  by_cases r2:r<v
  ·rw[if_pos ⟨r1,r2⟩]
   exact mm _ _ (Nat.sub_le_sub_right b u) (off r1 r2)
  ·rw[if_neg λ w=>r2 w.2]
   exact Int.le_trans (mid _ (off t1 t2)).2 (g2 r (Nat.not_lt.mp r2) c)
 ·have t2:=Nat.not_lt.mp t2
  rw[if_neg λ w=>Nat.not_lt.mpr t2 w.2,if_neg λ w=>Nat.not_lt.mpr (Nat.le_trans t2 b) w.2]
  exact so2 t r (Nat.le_trans h3 t2) b c
theorem So.join {xs:Array Keyed}{x y z:Nat}(so1:So xs x y) (so2:So xs y z) (h:∀t u,x<=t->t<y->y<=u->u<z->K xs t<=K xs u):So xs x z:=λ t u a b c=>by
 by_cases u1:u<y
 ·exact so1 t u a b u1
 by_cases t1:t<y
 ·exact h t u a t1 (Nat.not_lt.mp u1) c
 ·exact so2 t u (Nat.not_lt.mp t1) b c
theorem Jzc {B:Nat->Nat}{lo i:Nat}{Q:Bool->SortSt->Prop}(hB:Bs a₀ st) (h0:IntKeys a₀) (P:Pd (arrOf st) (pendingOf st) B lo) (hi:i+1<(pendingOf st).size) (hl:lo<=a₀.size)
  (h:∀st',Bs a₀ st'->Pd (arrOf st') (pendingOf st') (λ k=>if k<=i then B k else B (k+1)) lo->(pendingOf st').size+1=(pendingOf st).size->(∀t,lo<=t->K (arrOf st') t=K (arrOf st) t)->Q true st'):wpS (model pr wd) A E s (mergeAt' i) Q st:=by
 obtain⟨w,e1⟩:=P.ix i (Nat.lt_of_succ_lt hi)
 obtain⟨w2,e2⟩:=P.ix (i+1) hi
 have u1:=P.up i (Nat.lt_of_succ_lt hi)
 have u2:=P.up (i+1) hi
 have u3:B (i+1+1)<=lo:=by rw[<- P.bl];exact P.mono hi (Nat.le_refl _)
 have so1:=P.so i (Nat.lt_of_succ_lt hi)
 have so2:=P.so (i+1) hi
 have u4:B (i+1+1)<=(arrOf st).size:=by rw[hB.perm.size_eq];exact Nat.le_trans u3 hl
 have u5:=Nat.lt_of_lt_of_le u2 u4
 have ik:=hB.ik h0
 have next:∀{ys:Array Keyed}{g:Nat},ys.Perm (arrOf st)->So ys (B i) (B (i+1+1))->(∀t,t<B i∨B (i+1+1)<=t->K ys t=K (arrOf st) t)->Q true (SortSt.mk' (kindOf st) ys (((pendingOf st).setIfInBounds i (B i,B (i+1)-B i+(B (i+1+1)-B (i+1)),w)).eraseIdxIfInBounds (i+1)) g (failedOf st)):=λ {ys g} p so out=>by
  have z:=Jtq (i:=i) (p:=pendingOf st) (B i,B (i+1)-B i+(B (i+1+1)-B (i+1)),w) hi
  exact h _ ⟨p.trans hB.perm,hB.kind,hB.ok⟩ (P.merged (w:=w) hi out so) ((congrArg (· + 1) z).trans (Nat.sub_add_cancel (Nat.lt_of_le_of_lt (Nat.zero_le _) hi))) λ t ht=>out t (.inr (Nat.le_trans u3 ht))
 have kv:∀{j:Nat}{p:Keyed},(arrOf st)[j]?=some p->kd p=K (arrOf st) j:=λ e=>by unfold K;rw[e]
 refine wpS_bind (wpS_get ?_)
 rw[e1,e2]
 refine wpS_bind (J16 ?_)
 clear h P e1 e2 u3 hl hi
 generalize B (i+1+1)=z at *
 generalize B (i+1)=y at *
 generalize B i=x at *
 obtain⟨pb,eb,ib⟩:=ik y u5
 have y1:y-1<y:=Nat.sub_lt (Nat.lt_of_le_of_lt (Nat.zero_le _) u1) Nat.one_pos
 obtain⟨pa,ea,ia⟩:=ik (y-1) (Nat.lt_trans y1 u5)
 have n1:x+(y-x)=y:=Nat.add_sub_cancel' (Nat.le_of_lt u1)
 have n2:y+(z-y)=z:=Nat.add_sub_cancel' (Nat.le_of_lt u2)
 refine wpS_bind (Jb4 eb (wpS_bind (Jha (arr:=arrOf st) (base:=x) (n:=y-x) (hint:=0) hB.kind (Nat.sub_pos_of_lt u1) (by rw[n1];exact Nat.le_of_lt u5) ib ik (λ u v a b c=>so1 u v a b (by rw[<- n1];exact c)) λ k kn f1 f2=>?_)))
 rw[kv eb] at f1 f2
 rw[n1] at f2
 refine Jab (i:=y-x-k) (j:=0) (λ g=>wpS_pure (next (Array.Perm.refl _) (so1.join so2 λ t u a b c d=>Int.le_trans (f1 t a ?_) (so2 y u (Nat.le_refl _) c d)) λ _ _=>rfl)) λ g=>?_
 ·have:=Nat.le_of_sub_eq_zero g
  omega
 have ku:x+k<y:=by
  have:=Nat.lt_of_sub_ne_zero g
  omega
 have er:x+k+(y-x-k)=y:=by rw[Nat.sub_sub];exact Nat.add_sub_cancel' (Nat.le_of_lt ku)
 rw[er]
 refine wpS_bind (Jb4 ea (wpS_bind (Jha (arr:=arrOf st) (base:=y) (n:=z-y) (hint:=z-y-1) hB.kind (Nat.sub_lt (Nat.sub_pos_of_lt u2) Nat.one_pos) (by rw[n2];exact u4) ia ik (λ u v a b c=>so2 u v a b (by rw[<- n2];exact c)) λ k2 kn2 g1 g2=>?_)))
 rw[kv ea] at g1 g2
 rw[n2] at g2
 refine Jab (i:=k2) (j:=0) (λ c=>wpS_pure (next (Array.Perm.refl _) (so1.join so2 λ t u a b c' d=>Int.le_trans (so1 t (y-1) a (Nat.le_sub_one_of_lt b) y1) (g2 u (by rw[c];exact c') d)) λ _ _=>rfl)) λ c=>?_
 have v4:y+k2<=z:=by rw[<- n2];exact Nat.add_le_add_left kn2 y
 have v5:=Nat.le_trans v4 u4
 extract_lets -merge -useContext -underBinder x1 y1 jp
 have H:∀m st',Srt (((arrOf st).extract (x+k) y).toList++((arrOf st).extract y (y+k2)).toList) m->Same (SortSt.mk' (kindOf st) (arrOf st) (((pendingOf st).setIfInBounds i (x,y-x+(z-y),w)).eraseIdxIfInBounds (i+1)) (gallopOf st) (failedOf st)) st'->wpS (model pr wd) A E s (jp m) Q st':=by
  rintro m _ ⟨mp,mo⟩ ⟨gg,rfl⟩
  obtain⟨ms,lp⟩:=Jxk (Nat.le_of_lt ku) (Nat.le_add_right _ _) v5 mp
  obtain⟨so,out⟩:=J34 (Nat.le_add_right x k) ku (Nat.le_add_right _ _) v4 v5 so1 so2 f1 f2 g1 g2 ms mp mo
  have hq:=next (g:=gg) lp so out
  have fn:(failedOf st).isNone=true:=by rw[hB.ok];rfl
  rw[<- fn] at hq
  exact wpS_bind (wpS_modify (wpS_bind (wpS_get (wpS_pure hq))))
 have R1:=So.run ik (λ t u a b c=>so1 t u (Nat.le_trans (Nat.le_add_right _ _) a) b c) (Nat.le_of_lt u5) (i:=x+k)
 have R2:=So.run ik (λ t u a b c=>so2 t u a b (Nat.lt_of_lt_of_le c v4)) v5 (i:=y)
 have z1:((arrOf st).extract (x+k) y).size=y-(x+k):=by rw[Array.size_extract,Nat.min_eq_left (Nat.le_of_lt u5)]
 have z2:((arrOf st).extract y (y+k2)).size=k2:=by rw[Array.size_extract,Nat.min_eq_left v5,Nat.add_sub_cancel_left]
 have q1:0<((arrOf st).extract (x+k) y).size:=by rw[z1];exact Nat.sub_pos_of_lt ku
 have q2:0<k2:=Nat.pos_of_ne_zero c
 have d2:y+k2-y=k2:=Nat.add_sub_cancel_left ..
 rw[d2] at R2
 have p1:∀t,t<((arrOf st).extract (x+k) y).size->K ((arrOf st).extract y (y+k2)) 0<=K ((arrOf st).extract (x+k) y) t:=λ t ht=>by
  rw[z1] at ht
  rw[R1.2 t ht,R2.2 0 q2]
  exact f2 _ (Nat.le_add_right _ _) (by omega)
 have p2:∀t,t<((arrOf st).extract y (y+k2)).size->K ((arrOf st).extract y (y+k2)) t<=K ((arrOf st).extract (x+k) y) (((arrOf st).extract (x+k) y).size-1):=λ t ht=>by
  rw[z2] at ht
  rw[z1] at q1
  rw[z1,R1.2 _ (Nat.sub_lt q1 Nat.one_pos),R2.2 t ht,show x+k+(y-(x+k)-1)=y-1 by omega]
  exact g1 _ (Nat.le_add_right _ _) (Nat.add_lt_add_left ht y)
 rw[<- z2] at q2
 exact J0 (λ _=>wpS_bind (J39 hB.kind R1.1 R2.1 q1 q2 p1 p2 H)) λ _=>wpS_bind (J38 hB.kind R1.1 R2.1 q1 q2 p1 p2 H)
end
noncomputable def Ch (lo:Nat) (st st':SortSt):Prop:=∃ys,st'=setArr st ys/\ys.Perm (arrOf st)/\∀t,t<lo->K ys t=K (arrOf st) t
theorem Ch.rfl {lo:Nat}{st:SortSt}:Ch lo st st:=⟨arrOf st,by cases st;exact Eq.refl _,Array.Perm.refl _,λ _ _=>Eq.refl _⟩
theorem Ch.set {lo:Nat}{st st':SortSt}(h:Ch lo st st'){ys:Array Keyed}(p:ys.Perm (arrOf st')) (k:∀t,t<lo->K ys t=K (arrOf st') t):Ch lo st (setArr st' ys):=by
 obtain⟨xs,e,p',k'⟩:=h
 subst e
 exact⟨ys,Eq.refl _,p.trans p',λ t ht=>(k t ht).trans (k' t ht)⟩
theorem Ch.bs {lo:Nat}{a₀:Array Keyed}{st st':SortSt}(h:Ch lo st st') (b:Bs a₀ st):Bs a₀ st':=by
 obtain⟨xs,e,p,_⟩:=h
 subst e
 exact⟨p.trans b.perm,b.kind,b.ok⟩
section
variable {pr:Program}{wd:World}{A:Around}{E:Value->Shared->Prop}{s:Shared}{st:SortSt}{a₀:Array Keyed}{lo:Nat}
theorem Jrp {i j:Nat}{Q:Option Bool->SortSt->Prop}(hB:Bs a₀ st) (h0:IntKeys a₀) (hi:i<a₀.size) (hj:j<a₀.size) (h:Q (some (decide (K (arrOf st) i<K (arrOf st) j))) st):wpS (model pr wd) A E s (ltAt' i j) Q st:=by
 have sz:(arrOf st).size=a₀.size:=hB.perm.size_eq
 obtain⟨⟨p,p2⟩,e1,n,t,h1⟩:=hB.ik h0 i (by omega)
 obtain⟨⟨q,q2⟩,e2,m,u,h2⟩:=hB.ik h0 j (by omega)
 cases h1
 cases h2
 unfold K at h
 rw[e1,e2] at h
 exact wpS_ltAt hB.kind e1 e2 h
theorem J2x {xs:Array Keyed}{a b:Nat}(h:lo<=a) (h':a<=b) (hb:b<xs.size) (so:So xs lo b) (f1:∀i,lo<=i->i<a->K xs i<=K xs b) (f2:∀i,a<=i->i<b->K xs b<=K xs i):So (bubble xs b (b-a)) lo (b+1)/\∀t,t<lo->K (bubble xs b (b-a)) t=K xs t:=by
 have kb:=K_bubble (d:=b-a) hb (Nat.sub_le _ _)
 rw[Nat.sub_sub_self h'] at kb
 refine⟨λ t u h1 h2 h3=>?_,λ t ht=>by rw[kb,if_neg (by omega),if_neg (by omega)]⟩
 have h3:=Nat.le_of_lt_succ h3
 rw[kb,kb]
 rcases Nat.lt_trichotomy t a with t1|t1|t1
 ·rw[if_neg (Nat.ne_of_lt t1),if_neg λ w=>Nat.lt_asymm t1 w.1]
  have tb:=Nat.lt_of_lt_of_le t1 h'
  split
  ·exact f1 t h1 t1
  ·split
   ·exact so t (u-1) h1 (by omega) (by omega)
   ·exact so t u h1 h2 (by omega)
 ·rw[if_pos t1]
  split
  ·exact Int.le_refl _
  ·rw[if_pos (by omega)];exact f2 _ (by omega) (by omega)
 ·rw[if_neg (Nat.ne_of_gt t1),if_pos ⟨t1,Nat.le_trans h2 h3⟩,if_neg (Nat.ne_of_gt (Nat.lt_of_lt_of_le t1 h2)),if_pos ⟨Nat.lt_of_lt_of_le t1 h2,h3⟩]
  exact so _ _ (by omega) (Nat.sub_le_sub_right h2 1) (by omega)
theorem J35 {n ok:Nat}{Q:Bool->SortSt->Prop}(h0:IntKeys a₀) (hn:lo+n<=a₀.size) (hok:ok<=n) (hB:Bs a₀ st) (hs:So (arrOf st) lo (lo+ok)) (h:∀st',Ch lo st st'->So (arrOf st') lo (lo+n)->Q true st'):wpS (model pr wd) A E s (binarySort' lo n ok) Q st:=by
 refine wpS_bind (wpS_mono (wpS_forRange (I:=λ k c st'=>c=(none,())/\Ch lo st st'/\So (arrOf st') lo (lo+min k n)) (Q:=λ c st'=>c=(none,())/\Ch lo st st'/\So (arrOf st') lo (lo+n)) ?_ ?_ ⟨rfl,Ch.rfl,λ t u h1 h2 h3=>?_⟩) ?_)
 ·clear hs h hok
  rintro k c st1 _ kn ⟨rfl,C,so⟩
  rw[Nat.min_eq_left (Nat.le_of_lt kn)] at so
  have hB':=C.bs hB
  have kz:lo+k<a₀.size:=Nat.lt_of_lt_of_le (Nat.add_lt_add_left kn lo) hn
  refine wpS_bind (wpS_mono (wpS_forRange (I:=λ x c st'=>st'=st1/\∃l r,c=(none,l,r)/\l<=r/\r<=k/\r-l<=k-x/\(∀i,lo<=i->i<lo+l->K (arrOf st1) i<=K (arrOf st1) (lo+k))/\∀i,lo+r<=i->i<lo+k->K (arrOf st1) (lo+k)<=K (arrOf st1) i)
   (Q:=λ c st'=>st'=st1/\∃l,c=(none,l,l)/\l<=k/\(∀i,lo<=i->i<lo+l->K (arrOf st1) i<=K (arrOf st1) (lo+k))/\∀i,lo+l<=i->i<lo+k->K (arrOf st1) (lo+k)<=K (arrOf st1) i) ?_ ?_ ⟨rfl,0,k,rfl,Nat.zero_le _,Nat.le_refl _,Nat.le_refl _,λ i a b=>absurd a (Nat.not_le.mpr b),λ i a b=>absurd a (Nat.not_le.mpr b)⟩) ?_)
  ·clear kn hn
   rintro x c st2 _ hx ⟨rfl,l,r,rfl,lr,rk,d,f1,f2⟩
   refine J0 (λ g=>?_) λ g=>?_
   ·obtain rfl:l=r:=Nat.le_antisymm lr g
    exact wpS_pure ⟨rfl,l,rfl,rk,f1,f2⟩
   have g:l<r:=Nat.not_le.mp g
   have m1:l<=(l+r)/2:=by omega
   have m2:(l+r)/2<r:=by omega
   have mk:=Nat.add_lt_add_left (Nat.lt_of_lt_of_le m2 rk) lo
   have dx:k-(x+1)=k-x-1:=rfl
   refine wpS_bind (Jrp hB' h0 kz (Nat.lt_trans mk kz) (Jem (λ less=>?_) λ less=>?_))
   ·exact wpS_pure ⟨rfl,l,(l+r)/2,rfl,m1,Nat.le_of_lt (Nat.lt_of_lt_of_le m2 rk),by omega,f1,λ i h1 h2=>Int.le_trans (Int.le_of_lt less) (so _ i (Nat.le_add_right _ _) h1 h2)⟩
   ·exact wpS_pure ⟨rfl,(l+r)/2+1,r,rfl,m2,rk,by omega,λ i h1 h2=>Int.le_trans (so i (lo+(l+r)/2) h1 (Nat.le_of_lt_succ h2) mk) (Int.not_lt.mp less),f2⟩
  ·rintro c st2 ⟨rfl,l,r,rfl,lr,rk,d,f1,f2⟩
   obtain rfl:l=r:=by omega
   exact⟨rfl,l,rfl,rk,f1,f2⟩
  ·rintro c st2 ⟨rfl,l,rfl,lk,f1,f2⟩
   obtain⟨s1,s2⟩:=J2x (Nat.le_add_right lo l) (Nat.add_le_add_left lk lo) (by rw[hB'.perm.size_eq];exact kz) so f1 f2
   exact wpS_bind (wpS_modify (wpS_pure ⟨rfl,C.set (bubble_perm _ _ _) s2,by rw[Nat.min_eq_left kn];exact s1⟩))
 ·rintro c st1 ⟨rfl,C,so⟩
  rw[show min (max (max ok 1) n) n=n by omega] at so
  exact⟨rfl,C,so⟩
 ·by_cases z:ok=0
  ·rw[show t=u by omega];exact Int.le_refl _
  ·exact hs t u h1 h2 (by omega)
 ·rintro c st1 ⟨rfl,C,so⟩
  exact wpS_pure (h st1 C so)
theorem Jzb {F:Nat->Option (Option Nat)×Nat->StateT SortSt Sem (ForInStep (Option (Option Nat)×Nat))}{a n:Nat}{Q:Option (Option Nat)×Nat->SortSt->Prop}
  (hF:∀x y R,a<=y->y<n->(K (arrOf st) (lo+y)<K (arrOf st) (lo+y-1)->R (.done (none,y)) st)->(K (arrOf st) (lo+y-1)<=K (arrOf st) (lo+y)->R (.yield (none,y+1)) st)->wpS (model pr wd) A E s (F x (none,y)) R st) (a1:1<=a) (an:a<=n) (so:So (arrOf st) lo (lo+a))
  (h:∀m,a<=m->m<=n->So (arrOf st) lo (lo+m)->(m=n∨K (arrOf st) (lo+m)<K (arrOf st) (lo+m-1))->Q (none,m) st):wpS (model pr wd) A E s (forIn [a:n] (none,a) F) Q st:=by
 refine wpS_forRange (I:=λ x c st'=>st'=st/\c=(none,x)/\So (arrOf st) lo (lo+x)) ?_ ?_ ⟨rfl,rfl,so⟩
 ·rintro x c st1 ax xn ⟨rfl,rfl,so⟩
  refine hF x x _ ax xn (λ g=>h x ax (by omega) so (.inr g)) λ g=>⟨rfl,rfl,λ t u h1 h2 h3=>?_⟩
  by_cases z:u<lo+x
  ·exact so t u h1 h2 z
  have ux:u=lo+x:=Nat.le_antisymm (Nat.le_of_lt_succ h3) (Nat.not_lt.mp z)
  subst ux
  rcases Nat.lt_or_eq_of_le h2 with w|w
  ·exact Int.le_trans (so t (lo+x-1) h1 (Nat.le_sub_one_of_lt w) (Nat.sub_lt (Nat.lt_of_le_of_lt (Nat.zero_le _) w) Nat.one_pos)) g
  ·rw[w];exact Int.le_refl _
 ·rintro c st1 ⟨rfl,rfl,so⟩
  rw[show max a n=n by omega] at so ⊢
  exact h n an (Nat.le_refl _) so (.inl rfl)
noncomputable def Ni (xs:Array Keyed) (lo k:Nat):Prop:=∀t u,lo<=t->t<=u->u<lo+k->K xs u<=K xs t
theorem Ni.more {xs:Array Keyed}{k:Nat}(h:Ni xs lo k) (h1:1<=k) (g:K xs (lo+k)<=K xs (lo+k-1)):Ni xs lo (k+1):=λ t u a b c=>by
 by_cases z:u<lo+k
 ·exact h t u a b z
 have ux:u=lo+k:=Nat.le_antisymm (Nat.le_of_lt_succ c) (Nat.not_lt.mp z)
 subst ux
 rcases Nat.lt_or_eq_of_le b with w|w
 ·exact Int.le_trans g (h t (lo+k-1) a (Nat.le_sub_one_of_lt w) (Nat.sub_lt (Nat.lt_of_le_of_lt (Nat.zero_le _) w) Nat.one_pos))
 ·rw[w];exact Int.le_refl _
theorem Ni.eq {xs ys:Array Keyed}{k:Nat}(h:Ni xs lo k) (e:∀t,K ys t=K xs t):Ni ys lo k:=λ t u a b c=>by rw[e,e];exact h t u a b c
theorem J36 {n:Nat}{Q:Option Nat->SortSt->Prop}(h0:IntKeys a₀) (hn:lo+n<=a₀.size) (h1:1<=n) (hB:Bs a₀ st) (h:∀m st',Ch lo st st'->1<=m->m<=n->So (arrOf st') lo (lo+m)->Q (some m) st'):wpS (model pr wd) A E s (countRun' lo n) Q st:=by
 have lt1:∀{y},y<n->lo+y<a₀.size:=λ yn=>Nat.lt_of_lt_of_le (Nat.add_lt_add_left yn lo) hn
 have lt2:∀{y},y<n->lo+y-1<a₀.size:=λ yn=>Nat.lt_of_le_of_lt (Nat.sub_le _ _) (lt1 yn)
 have one:∀y q,q=0->∀{xs:Array Keyed} i,lo+(y+1)-(q+1)<=i->i<lo+(y+1)->K xs i=K xs (lo+(y+1)-1):=λ y q e xs i a b=>by
  subst e
  rw[Nat.le_antisymm (Nat.le_of_lt_succ b) a]
  rfl
 refine wpS_bind (Jzb (lo:=lo) (λ x y R ay yn d g=>?_) (Nat.le_refl 1) h1 (λ t u a b c=>by rw[Nat.le_antisymm b (Nat.le_trans (Nat.le_of_lt_succ c) a)];exact Int.le_refl _) λ m am mn so g=>?_)
 ·exact wpS_bind (Jrp hB h0 (lt1 yn) (lt2 yn) (Jem (λ l=>wpS_pure (d l)) λ l=>wpS_pure (g (Int.not_lt.mp l))))
 refine Jab (i:=m) (j:=n) (λ _=>wpS_pure (h m st Ch.rfl am mn so)) λ mn2=>?_
 have lt:=g.resolve_left mn2
 have mn':m+1<=n:=Nat.lt_of_le_of_ne mn mn2
 clear g mn2
 extract_lets -merge -useContext -underBinder jp
 have H:∀st1,Ch lo st st1->Ni (arrOf st1) lo (m+1)->wpS (model pr wd) A E s (jp ()) Q st1:=λ st1 C ni=>by
  clear lt so
  refine wpS_bind (wpS_lift (wpAny_rule ⟨rfl,?_⟩))
  refine wpS_bind (wpS_mono (wpS_forRange (I:=λ x c st'=>∃q,c=(none,x,q)/\Ch lo st st'/\Ni (arrOf st') lo x/\q+1<=x/\∀i,lo+x-(q+1)<=i->i<lo+x->K (arrOf st') i=K (arrOf st') (lo+x-1))
   (Q:=λ c st'=>∃x q,c=(none,x,q)/\1<=x/\x<=n/\Ch lo st st'/\Ni (arrOf st') lo x/\q+1<=x/\∀i,lo+x-(q+1)<=i->i<lo+x->K (arrOf st') i=K (arrOf st') (lo+x-1)) ?_ ?_ ⟨0,rfl,C,ni,Nat.le_add_left _ _,one m 0 rfl⟩) ?_)
  ·rintro x c st2 mx xn ⟨q,rfl,C2,ni2,qx,e⟩
   have hB2:=C2.bs hB
   have x1:1<=x:=Nat.le_trans (Nat.le_add_left _ _) mx
   refine wpS_bind (Jrp hB2 h0 (lt1 xn) (lt2 xn) (Jem (λ less=>?_) λ less=>?_))
   ·have n3:=ni2.more x1 (Int.le_of_lt less)
    have ke:=K_mirror_equal (show lo+x<=(arrOf st2).size by rw[hB2.perm.size_eq];exact Nat.le_of_lt (lt1 xn)) e
    exact J0 (λ _=>wpS_bind (wpS_reverse (wpS_pure ⟨0,rfl,C2.set (mirror_perm _ _ _ _) λ t _=>ke t,n3.eq ke,Nat.le_add_left _ _,one x 0 rfl⟩))) λ _=>wpS_pure ⟨0,rfl,C2,n3,Nat.le_add_left _ _,one x 0 rfl⟩
   ·refine wpS_bind (Jrp hB2 h0 (lt2 xn) (lt1 xn) (Jem (λ more=>?_) λ more=>?_))
    ·exact wpS_pure ⟨x,q,rfl,x1,Nat.le_of_lt xn,C2,ni2,qx,e⟩
    ·have eq:K (arrOf st2) (lo+x)=K (arrOf st2) (lo+x-1):=Int.le_antisymm (Int.not_lt.mp more) (Int.not_lt.mp less)
     refine wpS_pure ⟨q+1,rfl,C2,ni2.more x1 (Int.le_of_eq eq),Nat.succ_le_succ qx,λ i a b=>?_⟩
     rw[show lo+(x+1)-(q+1+1)=lo+x-(q+1) from Nat.succ_sub_succ ..] at a
     show _=K _ (lo+x)
     rcases Nat.lt_or_eq_of_le (Nat.le_of_lt_succ b) with w|w
     ·rw[eq];exact e i a w
     ·rw[w];rfl
  ·rintro c st2 ⟨q,rfl,C2,ni2,qx,e⟩
   rw[Nat.max_eq_right mn'] at ni2 qx e ⊢
   exact⟨n,q,rfl,h1,Nat.le_refl _,C2,ni2,qx,e⟩
  rintro c st2 ⟨x,q,rfl,x1,xn,C2,ni2,qx,e⟩
  have xz:lo+x<=a₀.size:=Nat.le_trans (Nat.add_le_add_left xn lo) hn
  dsimp -zeta only
  extract_lets -merge -useContext -underBinder r0 s0 n0 q0
  dsimp -zeta only[r0,n0,q0,s0]
  extract_lets -merge -useContext -underBinder jp2
  have T:∀st3,Ch lo st st3->Ni (arrOf st3) lo x->wpS (model pr wd) A E s (jp2 ()) Q st3:=λ st3 C3 ni3=>by
   have km:=K_mirror (xs:=arrOf st3) (i:=lo) (show lo+x<=(arrOf st3).size by rw[(C3.bs hB).perm.size_eq];exact xz)
   have C4:=C3.set (mirror_perm (arrOf st3) lo (lo+x) ((lo+x-lo)/2)) λ t ht=>by rw[km,if_neg λ w=>Nat.not_le.mpr ht w.1]
   refine wpS_bind (wpS_reverse (wpS_bind (Jzb (lo:=lo) (a:=x) (n:=n) (λ z y R ay yn d g=>wpS_bind (Jrp (C4.bs hB) h0 (lt1 yn) (lt2 yn) (Jem (λ l=>wpS_pure (d l)) λ l=>wpS_pure (g (Int.not_lt.mp l))))) x1 xn (λ t u a b c=>?_) λ k xk kn so _=>wpS_pure (h k _ C4 (Nat.le_trans x1 xk) kn so))))
   show K (mirror (arrOf st3) lo (lo+x) ((lo+x-lo)/2)) t<=K (mirror (arrOf st3) lo (lo+x) ((lo+x-lo)/2)) u
   rw[km,km,if_pos ⟨a,Nat.lt_of_le_of_lt b c⟩,if_pos ⟨Nat.le_trans a b,c⟩]
   exact ni3 _ _ (by omega) (Nat.sub_le_sub_left b _) (by omega)
  have ke:=K_mirror_equal (show lo+x<=(arrOf st2).size by rw[(C2.bs hB).perm.size_eq];exact xz) e
  exact J0 (c:=q>0) (λ _=>wpS_bind (wpS_reverse (T _ (C2.set (mirror_perm _ _ _ _) λ t _=>ke t) (ni2.eq ke)))) λ _=>T st2 C2 ni2
 refine J0 (λ _=>?_) λ g=>?_
 ·refine wpS_bind (Jrp hB h0 (lt1 (y:=0) h1) (lt2 mn') (Jem (λ rose=>wpS_pure (h m st Ch.rfl am mn so)) λ rose=>?_))
  have all:∀k,lo<=k->k<lo+m->K (arrOf st) k=K (arrOf st) (lo+m-1):=λ k a b=>by
   have y:=Nat.sub_lt (Nat.lt_of_le_of_lt (Nat.zero_le _) b) Nat.one_pos
   exact Int.le_antisymm (so k (lo+m-1) a (Nat.le_sub_one_of_lt b) y) (Int.le_trans (Int.not_lt.mp rose) (so lo k (Nat.le_refl _) a b))
  have ke:=K_mirror_equal (show lo+m<=(arrOf st).size by rw[hB.perm.size_eq];exact Nat.le_of_lt (lt1 mn')) all
  refine wpS_bind (wpS_reverse (H _ (Ch.rfl.set (mirror_perm _ _ _ _) λ t _=>ke t) (Ni.eq (Ni.more (λ t u a b c=>?_) am (Int.le_of_lt lt)) ke)))
  rw[all t a (Nat.lt_of_le_of_lt b c),all u (Nat.le_trans a b) c]
  exact Int.le_refl _
 ·refine H st Ch.rfl (Ni.more (λ t u a b c=>?_) am (Int.le_of_lt lt))
  have:=Nat.not_lt.mp g
  rw[show t=u by omega]
  exact Int.le_refl _
end
section
variable {xs:Array Keyed}{p:Array (Nat×Nat×Nat)}{B:Nat->Nat}{lo:Nat}
theorem Pd.eq {ys:Array Keyed}(P:Pd xs p B lo) (e:∀t,t<lo->K ys t=K xs t):Pd ys p B lo :=
 ⟨P.b0,P.bl,P.up,P.ix,λ k hk t u a b c=>by
  have:=P.mono (show k+1<=p.size from hk) (Nat.le_refl _)
  rw[P.bl] at this
  rw[e t (by omega),e u (by omega)]
  exact P.so k hk t u a b c⟩
theorem Pd.pw {f:Nat×Nat×Nat->Nat×Nat×Nat}{j:Nat}(P:Pd xs p B lo) (hf:∀x,∃w,f x=(x.1,x.2.1,w)):Pd xs (p.modify j f) B lo:=by
 refine⟨P.b0,by rw[Array.size_modify];exact P.bl,λ k hk=>P.up k (by simpa using hk),λ k hk=>?_,λ k hk=>P.so k (by simpa using hk)⟩
 obtain⟨w,e⟩:=P.ix k (by simpa using hk)
 rw[Array.getElem?_modify]
 split
 ·rw[e]
  obtain⟨w',e'⟩:=hf (B k,B (k+1)-B k,w)
  exact⟨w',by rw[Option.map_some,e']⟩
 ·exact⟨w,e⟩
theorem Pd.push {n:Nat}(P:Pd xs p B lo) (so:So xs lo (lo+n)) (n1:1<=n) (w:Nat):Pd xs (p.push (lo,n,w)) (λ k=>if k<=p.size then B k else lo+n) (lo+n):=by
 have bl:=P.bl
 refine⟨by rw[if_pos (Nat.zero_le _)];exact P.b0,by rw[Array.size_push,if_neg (by omega)],λ k hk=>?_,λ k hk=>?_,λ k hk=>?_⟩
 all_goals
  rw[Array.size_push] at hk
  by_cases z:k<p.size
 ·rw[if_pos (by omega),if_pos (by omega)];exact P.up k z
 ·rw[if_pos (by omega),if_neg (by omega),show k=p.size by omega,bl];omega
 ·obtain⟨v,e⟩:=P.ix k z
  exact⟨v,by rw[if_pos (by omega),if_pos (by omega),Array.getElem?_push_lt z,<-e,getElem?_pos p k z]⟩
 ·rw[if_pos (by omega),if_neg (by omega),show k=p.size by omega,bl,show lo+n-lo=n by omega,Array.getElem?_push_size]
  exact⟨w,rfl⟩
 ·rw[if_pos (by omega),if_pos (by omega)];exact P.so k z
 ·rw[if_pos (by omega),if_neg (by omega),show k=p.size by omega,bl];exact so
end
section
variable {pr:Program}{wd:World}{A:Around}{E:Value->Shared->Prop}{s:Shared}{st:SortSt}{a₀:Array Keyed}
theorem J00 {Q:Unit->SortSt->Prop}(h0:IntKeys a₀) (hB:Bs a₀ st) (he:pendingOf st=#[]) (h2:2<=a₀.size) (h:∀st',(arrOf st').Perm a₀->failedOf st'=none->SortedTo (arrOf st') a₀.size->Q () st'):wpS (model pr wd) A E s sortRuns' Q st:=by
 have sz:(arrOf st).size=a₀.size:=hB.perm.size_eq
 have P0:Pd (arrOf st) (pendingOf st) (λ _=>0) 0:=by
  rw[he]
  exact⟨rfl,rfl,λ k hk=>by simp at hk,λ k hk=>by simp at hk,λ k hk=>by simp at hk⟩
 refine wpS_bind (wpS_get ?_)
 refine wpS_bind (wpS_mono (wpS_forRange (I:=λ x c st'=>Bs a₀ st'/\∃lo B,c=(none,lo)/\Pd (arrOf st') (pendingOf st') B lo/\lo<=a₀.size/\x<=lo) (Q:=λ c st'=>Bs a₀ st'/\∃B,c=(none,a₀.size)/\Pd (arrOf st') (pendingOf st') B a₀.size) ?_ ?_ ⟨hB,0,_,rfl,P0,by omega,by omega⟩) ?_)
 ·rintro x c st1 _ hx ⟨hB1,lo,B,rfl,P,lz,xl⟩
  refine wpS_mono (Q:=λ r st'=>Bs a₀ st'/\((∃B,r=.done (none,a₀.size)/\Pd (arrOf st') (pendingOf st') B a₀.size)∨∃lo B,r=.yield (none,lo)/\Pd (arrOf st') (pendingOf st') B lo/\lo<=a₀.size/\x+1<=lo)) ?_ ?_
  case refine_2 =>
   rintro _ st' ⟨b,⟨B,rfl,P⟩|⟨lo,B,rfl,P⟩⟩
   ·exact⟨b,B,rfl,P⟩
   ·exact⟨b,lo,B,rfl,P⟩
  dsimp -zeta only
  rw[sz]
  show wpS _ _ _ _ (if lo ≥ a₀.size then _ else _) _ _
  split
  ·have e:lo=a₀.size:=by omega
   exact wpS_pure ⟨hB1,.inl ⟨B,by rw[e],by rw[e] at P;exact P⟩⟩
  refine wpS_bind (J36 h0 (show lo+(a₀.size-lo)<=a₀.size by omega) (by omega) hB1 λ m st2 C m1 mn so=>?_)
  dsimp -zeta only
  extract_lets -merge -useContext -underBinder n0 jp
  have H:∀k st3,Ch lo st1 st3->1<=k->lo+k<=a₀.size->So (arrOf st3) lo (lo+k)->wpS (model pr wd) A E s (jp () k) (λ r st'=>Bs a₀ st'/\((∃B,r=.done (none,a₀.size)/\Pd (arrOf st') (pendingOf st') B a₀.size)∨∃lo B,r=.yield (none,lo)/\Pd (arrOf st') (pendingOf st') B lo/\lo<=a₀.size/\x+1<=lo)) st3:=λ k st3 C k1 ks so=>by
   have hB3:=C.bs hB1
   obtain⟨ys,rfl,_,ey⟩:=C
   have P3:=P.eq ey
   refine wpS_bind (wpS_get ?_)
   extract_lets -merge -useContext -underBinder jp2
   have T:∀st4 B4,Bs a₀ st4->Pd (arrOf st4) (pendingOf st4) B4 lo->So (arrOf st4) lo (lo+k)->wpS (model pr wd) A E s (jp2 ()) (λ r st'=>Bs a₀ st'/\((∃B,r=.done (none,a₀.size)/\Pd (arrOf st') (pendingOf st') B a₀.size)∨∃lo B,r=.yield (none,lo)/\Pd (arrOf st') (pendingOf st') B lo/\lo<=a₀.size/\x+1<=lo)) st4:=λ st4 B4 b4 P4 so4 =>
    wpS_bind (wpS_modify (wpS_pure ⟨⟨b4.perm,b4.kind,b4.ok⟩,.inr ⟨lo+k,_,rfl,P4.push so4 k1 0,ks,by omega⟩⟩))
   split
   ·refine wpS_bind (wpS_mono (wpS_forRange (I:=λ y c st'=>c=(none,())/\Bs a₀ st'/\(∃B,Pd (arrOf st') (pendingOf st') B lo)/\So (arrOf st') lo (lo+k)) (Q:=λ c st'=>c=(none,())/\Bs a₀ st'/\(∃B,Pd (arrOf st') (pendingOf st') B lo)/\So (arrOf st') lo (lo+k)) ?_ (λ _ _ h=>h) ⟨rfl,hB3,⟨B,P3⟩,so⟩) ?_)
    ·rintro y c st4 _ _ ⟨rfl,b4,⟨B4,P4⟩,so4⟩
     refine wpS_bind (wpS_get ?_)
     by_cases z:(pendingOf st4).size>1
     ·obtain⟨w,e⟩:=P4.ix ((pendingOf st4).size-2) (by omega)
      dsimp only
      rw[if_pos z,e]
      dsimp only
      split
      ·exact wpS_pure ⟨rfl,b4,⟨B4,P4⟩,so4⟩
      ·refine wpS_bind (Jzc (i:=(pendingOf st4).size-2) b4 h0 P4 (by omega) lz λ st5 b5 P5 _ e5=>wpS_pure ⟨rfl,b5,⟨_,P5⟩,λ t u a b c=>?_⟩)
       rw[e5 t a,e5 u (by omega)]
       exact so4 t u a b c
     ·dsimp only
      rw[if_neg z]
      exact wpS_pure ⟨rfl,b4,⟨B4,P4⟩,so4⟩
    ·rintro c st4 ⟨rfl,b4,⟨B4,P4⟩,so4⟩
     exact wpS_bind (wpS_modify (T _ B4 ⟨b4.perm,b4.kind,b4.ok⟩ (P4.pw λ x=>⟨_,rfl⟩) so4))
   ·exact T _ B hB3 P3 so
  split
  ·rename_i lt
   refine wpS_bind (wpS_lift (wpAny_rule ⟨rfl,?_⟩))
   have lt':m<minRun' a₀.size a₀.size 0:=lt
   refine wpS_bind (J35 (n:=min (a₀.size-lo) (minRun' a₀.size a₀.size 0)) h0 (by omega) (by omega) (C.bs hB1) so λ st3 C3 so3=>?_)
   refine H (min (a₀.size-lo) (minRun' a₀.size a₀.size 0)) st3 ?_ (by omega) (by omega) so3
   obtain⟨ys,rfl,p,e⟩:=C
   obtain⟨zs,rfl,p',e'⟩:=C3
   exact⟨zs,rfl,p'.trans p,λ t ht=>(e' t ht).trans (e t ht)⟩
  ·exact H m st2 C m1 (by omega) so
 ·rintro c st1 ⟨hB1,lo,B,rfl,P,lz,xl⟩
  have e:lo=a₀.size:=by rw[sz] at xl;omega
  rw[e] at P
  exact⟨hB1,B,by rw[e],P⟩
 ·rintro c st1 ⟨hB1,B,rfl,P⟩
  refine wpS_bind (wpS_mono (wpS_forRange (I:=λ y c st'=>c=(none,())/\Bs a₀ st'/\∃B,Pd (arrOf st') (pendingOf st') B a₀.size/\(pendingOf st').size<=a₀.size+1-y) (Q:=λ c st'=>c=(none,())/\Bs a₀ st'/\∃B,Pd (arrOf st') (pendingOf st') B a₀.size/\(pendingOf st').size<=1) ?_ ?_ ⟨rfl,hB1,B,P,?_⟩) ?_)
  ·rintro y c st2 _ hy ⟨rfl,b2,B2,P2,l2⟩
   refine wpS_bind (wpS_get ?_)
   dsimp only
   split
   ·rename_i z
    exact wpS_pure ⟨rfl,b2,B2,P2,z⟩
   ·rename_i z
    have z':¬(pendingOf st2).size<=1:=z
    have fin:∀i,i+1<(pendingOf st2).size->∀{R:Bool->SortSt->Prop},(∀st3,Bs a₀ st3->(∃B,Pd (arrOf st3) (pendingOf st3) B a₀.size)->(pendingOf st3).size+1=(pendingOf st2).size->R true st3)->wpS (model pr wd) A E s (mergeAt' i) R st2:=λ i hi R r=>Jzc b2 h0 P2 hi (Nat.le_refl _) λ st3 b3 P3 s3 _=>r st3 b3 ⟨_,P3⟩ s3
    have two:∀(c:Prop) [Decidable c],(if c then(pendingOf st2).size-2-1 else(pendingOf st2).size-2)+1<(pendingOf st2).size:=λ c _=>by split<;>omega
    refine wpS_bind (fin _ ?_ λ st3 b3 P3 s3=>?_)
    ·exact two _
    ·obtain⟨B3,P3⟩:=P3
     exact wpS_pure ⟨rfl,b3,B3,P3,by omega⟩
  ·rintro c st2 ⟨rfl,b2,B2,P2,l2⟩
   refine⟨rfl,b2,B2,P2,?_⟩
   rw[show max 0 (arrOf st).size=a₀.size by omega] at l2
   omega
  ·have:=P.ge (Nat.le_refl _)
   rw[P.bl] at this
   omega
  ·rintro c st2 ⟨rfl,b2,B2,P2,l2⟩
   refine wpS_pure (h st2 b2.perm b2.ok λ i j ij hj=>?_)
   have bl:=P2.bl
   have b0:=P2.b0
   have one:(pendingOf st2).size=1:=by
    rcases Nat.lt_or_ge 0 (pendingOf st2).size with z|z
    ·omega
    ·rw[show(pendingOf st2).size=0 by omega,b0] at bl
     omega
   have so:=P2.so 0 (by omega)
   rw[one] at bl
   exact so i j (by omega) ij (by rw[bl];exact hj)
end
end L3
namespace L3
open PySem PySem.Spec PyProof.Rows L2
theorem Jyi {pr:Program}{wd:World}{A:Around}{E:Value->Shared->Prop}{s:Shared}{a:Addr}{vs:List Value}{ns:List Int}{n:Nat}{P:Fin->Shared->Prop}(ho:s.heap.get? a=some (seqObj "list" vs.toArray n)) (hI:IntsAre vs ns) (hl:vs.length<4096)
  (h:∀out ns',IntsAre (Array.toList out) ns'->ns'.Perm ns->ns'.Pairwise (· <= ·)->P (.done (.ret .none)) { s with heap:=sortedHeap s.heap a vs out }):wpAny (model pr wd) A (Builtin.«list.sort» ⟨[.ref a],[]⟩) P E s:=by
 by_cases few:vs.length<64
 ·exact list_sort_tree ho hI few h
 match vs,few,hl,ho,hI,h with
 | [],few,_,_,_,_=>exact(few (by decide)).elim
 | [_],few,_,_,_,_=>exact(few (by simp)).elim
 | v1::v2::vs,few,hl,ho,hI,h =>
  have big:4096<=sizeLine:=by decide
  have la:=Heap.lt_size ho
  rw[list_sort_plain]
  refine wpAny_bind (listItems_at ho rfl (wpAny_bind (listUpdate_at (f:=λ _=>#[]) ho rfl ?_ (by simp only[List.size_toArray];omega) (Nat.zero_le _))))
  obtain⟨c,g⟩:∃c,(s.heap.update a (Obj.mapSeq λ _=>#[])).get? a=some (seqObj "list" #[] c):=⟨_,get?_update_seq ho λ _=>#[]⟩
  refine wpAny_bind (seqEpoch_at g rfl (wpAny_bind (wpAny_newTuple (wpAny_bind (wpAny_newList (wpAny_holding ?_) (Nat.zero_le _))) (by simp only[List.length_cons] at hl ⊢;omega))))
  have g2:(((s.heap.update a (Obj.mapSeq λ _=>#[])).push (seqObj "tuple" (v1::v2::vs).toArray 0)).push (seqObj "list" #[] 0)).get? a=some (seqObj "list" #[] c):=Heap.get?_push_of_some _ (Heap.get?_push_of_some _ g)
  have two:¬(v1::v2::vs).toArray.size<2:=by simp
  simp only[if_neg two]
  rw[keyKind_ints hI]
  refine wpAny_bind (wpAny_pure (wpAny_bind (wpAny_mono (J00 (a₀:=pairsOf (v1::v2::vs)) (Q:=λ _ st=>(arrOf st).Perm (pairsOf (v1::v2::vs))/\failedOf st=none/\SortedTo (arrOf st) (pairsOf (v1::v2::vs)).size) hI.intKeys ⟨Array.Perm.refl _,rfl,rfl⟩ rfl (by rw[pairsOf_size];simp) λ st p f o=>⟨p,f,o⟩) ?_ λ _ _ e=>e)))
  rintro⟨u,st⟩ _ ⟨rfl,p,f,o⟩
  obtain⟨ns',a1,a2,a3⟩:=sorted_out hI p o
  refine wpAny_bind (seqEpoch_at g2 rfl (wpAny_bind (listUpdate_at g2 rfl ?_ (Nat.zero_le _) ?_)))
  ·dsimp only
   rw[f]
   simp only[bne_self_eq_false,Bool.false_eq_true,if_false]
   exact wpAny_pure (h _ ns' a1 a2 a3)
  ·refine Nat.le_trans (Nat.le_of_eq ((Array.size_map ..).trans (p.size_eq.trans (pairsOf_size _)))) ?_
   omega
theorem J1s:typeLookup (.type "set") "__len__"=pure (some (.builtin "set.__len__")):=by rw[typeLookup_type,builtinLookup_eq_fast];kernel_rfl
section
variable {pr:Program}{wd:World}{A:Around}{E:Value->Shared->Prop}{s:Shared}{a:Addr}
theorem Jxl {Q:Bool->Shared->Prop}(hT:s.TypeIs (.ref a) "set") (h:Q false s):wpAny (model pr wd) A (Builtin.List.listLengthHint (.ref a)) Q E s:=by
 unfold Builtin.List.listLengthHint
 refine wpAny_bind (wpAny_specialOf hT J1s ?_)
 dsimp only
 rw[show splitId "set.__len__"=some ("set","__len__") from by decide +kernel]
 dsimp only
 refine wpAny_bind (wpAny_isInstance (b:=true) hT PySem.sub_set_self ?_)
 simp only[Bool.not_true,Bool.false_eq_true,if_false]
 rw[if_pos (by decide +kernel)]
 exact wpAny_bind (wpAny_typeOf hT (wpAny_pure h))
theorem Jor {ns:List Int}{Q:List Value->Shared->Prop}(hh:A.handled=none) (hS:SetI wd s.heap a ns) (hb:ns.length<4096) (hQ:∀h' d' tk ord ms,IntsAre ord ms->ms.Perm ns->(∀b o,s.heap.get? b=some o->h'.get? b=some o)->s.heap.objs.size<h'.objs.size->Q ord { s with heap:=h',drawn:=d',toks:=tk }) :
  wpAny (model pr wd) A (collect (.ref a)) Q E s:=by
 obtain⟨o,hoo⟩:∃o,s.heap.get? a=some o/\o.cls=.type "set":=by
  obtain⟨o,es,ep,t,ho,hex,_⟩:=hS
  exact⟨o,ho,hex.1⟩
 have la:=Heap.lt_size hoo.1
 unfold collect
 refine wpAny_bind (wpAny_runValue (codeAny_builtin PySem.F.entry_proto_collect ?_))
 rw[Around.under_plainId PySem.F.plain_proto_collect _]
 show wpAny _ A.in1 (newList []>>=λ l=>again (.builtin "list.__iadd__" ⟨[l,.ref a],[]⟩)) _ _ s
 refine wpAny_bind (wpAny_newList ?_ (Nat.zero_le _))
 refine wpAny_pure ⟨plainId_quiet PySem.F.plain_list_iadd _,codeAny_builtin PySem.F.entry_list_iadd ?_⟩
 rw[Around.under_plainId PySem.F.plain_list_iadd _]
 show wpAny _ A.in1 (Builtin.List.listExtendWith (.ref s.heap.objs.size) (.ref a) (.ref s.heap.objs.size)) _ _ _
 unfold Builtin.List.listExtendWith
 have keep1:∀b o,s.heap.get? b=some o->(s.heap.push (seqObj "list" #[] 0)).get? b=some o:=λ b o e=>Heap.get?_push_of_some _ e
 have gL:(s.heap.push (seqObj "list" #[] 0)).get? s.heap.objs.size=some (seqObj "list" #[] 0):=Heap.get?_push_size _ rfl
 have hT1:Shared.TypeIs { s with heap:=s.heap.push (seqObj "list" #[] 0) } (.ref a) "set":=⟨o,keep1 _ _ hoo.1,hoo.2⟩
 refine wpAny_bind (wpAny_typeOf hT1 ?_)
 have h1:Builtin.List.listSameRef (.ref s.heap.objs.size) (.ref a)=false:=by simp[Builtin.List.listSameRef,Nat.ne_of_gt la]
 rw[if_neg (by rw[h1];decide)]
 refine wpAny_bind (Jxe (s:={ s with heap:=s.heap.push (seqObj "list" #[] 0) }) (hS.moved λ o e=>keep1 _ _ e) λ it h2 d2 fp ord St W keep2 le=>?_)
 have sz1:(s.heap.push (seqObj "list" #[] 0)).objs.size=s.heap.objs.size+1:=size_push' ..
 have gL2:=keep2 _ _ gL
 have hT2:Shared.TypeIs { s with heap:=h2,drawn:=d2 } (.ref a) "set":=⟨o,keep2 _ _ (keep1 _ _ hoo.1),hoo.2⟩
 refine wpAny_bind (wpAny_holding (Jxl (s:={ s with heap:=h2,drawn:=d2 }) hT2 ?_))
 rw[if_pos (by decide +kernel)]
 refine wpAny_bind (wpAny_rule ?_)
 have nS:s.heap.objs.size∉fp:=λ hb=>by
  rcases W.fp _ hb with e|e
  ·exact absurd e (Nat.ne_of_gt la)
  ·rw[show({ s with heap:=s.heap.push (seqObj "list" #[] 0) }:Shared).heap.objs.size=s.heap.objs.size+1 from sz1] at e
   exact absurd e (Nat.not_le_of_gt (Nat.lt_succ_self _))
 have bg:10<=sizeLine:=by decide
 unfold Builtin.List.listTouch
 refine wpAny_bind (wpAny_bind (listUpdate_at (f:=(·.push .none)) gL2 rfl ?_ (Nat.zero_le _) (show 1<=sizeLine+1 by omega)))
 obtain⟨c3,g3⟩:∃c3,(h2.update s.heap.objs.size (Obj.mapSeq (·.push .none))).get? s.heap.objs.size=some (seqObj "list" #[.none] c3):=⟨_,get?_update_seq gL2 (·.push .none)⟩
 refine listUpdate_at (f:=(·.pop)) g3 rfl ?_ (show 1<=sizeLine by omega) (Nat.zero_le _)
 obtain⟨c4,g4⟩:∃c4,((h2.update s.heap.objs.size (Obj.mapSeq (·.push .none))).update s.heap.objs.size (Obj.mapSeq (·.pop))).get? s.heap.objs.size=some (seqObj "list" #[] c4):=⟨_,get?_update_seq g3 (·.pop)⟩
 have keep4:∀b o,b≠s.heap.objs.size->h2.get? b=some o->((h2.update s.heap.objs.size (Obj.mapSeq (·.push .none))).update s.heap.objs.size (Obj.mapSeq (·.pop))).get? b=some o:=λ b o nb e=>(Heap.get?_update_other _ _ (Ne.symm nb)).trans ((Heap.get?_update_other _ _ (Ne.symm nb)).trans e)
 generalize (h2.update s.heap.objs.size (Obj.mapSeq (·.push .none))).update s.heap.objs.size (Obj.mapSeq (·.pop))=h4 at g4 keep4
 have st4:=(W.w A.in1 hh).frame 0 h2 h4 W.st λ b hb o e=>keep4 b o (λ z=>nS (z▸hb)) e
 refine wpAny_pure ⟨plainId_quiet PySem.F.plain_extend_loop _,codeAny_extend_loopS (W.w A.in1 hh).toS (Nat.le_trans (Nat.le_of_lt hb) (by decide)) _ nS _ ns.length 0 _ #[] c4 rfl (Nat.zero_le _) st4 g4 (ItemsOf.nil _) λ s5 acc c5 mv g5 hacc=>?_⟩
 show wpAny _ A (load s.heap.objs.size>>=_) _ _ s5
 refine wpAny_bind (wpAny_load g5 ?_)
 refine wpAny_pure ?_
 obtain⟨ms,hi,hp⟩:=W.zs
 have eo:acc.toList=ord:=by
  have lo:ord.length=ns.length:=by rw[hi.length,hp.length_eq]
  refine List.ext_getElem? λ i=>?_
  by_cases hi':i<ns.length
  ·have e1:acc.toList[i]?=some (acc[i]'(by rw[hacc.1];exact hi')):=by simp[hacc.1,hi']
   rw[e1]
   exact(hacc.2 i _ (by simp[hacc.1,hi'])).symm
  ·rw[List.getElem?_eq_none (by rw[Array.length_toList,hacc.1];omega),List.getElem?_eq_none (by omega)]
 rw[eo]
 obtain⟨h5,g5',d5,tk5,os5⟩:=s5
 have eg:g5'=s.gens:=mv.gens
 have ed:d5=d2:=mv.drawn
 have eos:os5=s.os:=mv.os
 subst eg;subst ed;subst eos
 refine hQ h5 d5 tk5 ord ms hi hp (λ b o e=>?_) (Heap.lt_size g5)
 have lb:=Heap.lt_size e
 have b1:b≠s.heap.objs.size:=Nat.ne_of_lt lb
 have le':s.heap.objs.size+1<=it:=by rw[<- sz1];exact le
 have b2:b≠it:=Nat.ne_of_lt (Nat.lt_of_lt_of_le lb (Nat.le_trans (Nat.le_succ _) le'))
 exact mv.heap b o (by simp only[List.mem_cons,List.not_mem_nil,or_false,not_or];exact⟨b1,b2⟩) (keep4 b o b1 (keep2 _ _ (keep1 _ _ e)))
theorem Jsf {ns:List Int}{Q:Value->Shared->Prop}(hh:A.handled=none) (hS:SetI wd s.heap a ns) (h64:ns.length<4090)
  (h:∀D h' d' tk out ns' c,IntsAre out ns'->ns'.Perm ns->ns'.Pairwise (· <= ·)->s.heap.objs.size<=D->(∀b o,s.heap.get? b=some o->h'.get? b=some o)->h'.get? D=some (seqObj "list" (List.toArray out) c)->Q (.ref D) { s with heap:=h',drawn:=d',toks:=tk }) :
  wpAny (model pr wd) A (call (.builtin "sorted") [.ref a]) Q E s:=by
 refine Calls.call_function_entry kind_sorted plain_sorted entry_sorted (args_sorted1 _) ?_
 unfold Builtin.«sorted»
 refine wpAny_bind (m:=checkCount "sorted" 1 1 _) (wpAny_pure ?_)
 refine wpAny_bind (Jor hh hS (by omega) λ h2 d2 tk2 ord ms hi hp keep lz=>?_)
 have lo:ord.length=ns.length:=by rw[hi.length,hp.length_eq]
 refine wpAny_bind (wpAny_newList ?_ (by rw[lo,sizeLine_eq];omega))
 have gL:(h2.push (seqObj "list" ord.toArray 0)).get? h2.objs.size=some (seqObj "list" ord.toArray 0):=Heap.get?_push_size _ rfl
 refine wpAny_bind (wpAny_holding (wpAny_call_entry (s:={ s with heap:=h2.push (seqObj "list" ord.toArray 0),drawn:=d2,toks:=tk2 }) slot_list_sort ⟨_,gL,rfl⟩ entry_list_sort (Jyi (s:={ s with heap:=h2.push (seqObj "list" ord.toArray 0),drawn:=d2,toks:=tk2 }) gL hi (by omega) λ out ns' a1 a2 a3=>⟨_,rfl,?_⟩) (args_list_sort _)))
 obtain⟨e1,ho1⟩:∃e1,((h2.push (seqObj "list" ord.toArray 0)).update h2.objs.size (Obj.mapSeq λ _=>#[])).get? h2.objs.size=some (seqObj "list" #[] e1):=⟨_,get?_update_seq gL (λ _=>#[])⟩
 have ho6:((((h2.push (seqObj "list" ord.toArray 0)).update h2.objs.size (Obj.mapSeq λ _=>#[])).push (seqObj "tuple" ord.toArray 0)).push (seqObj "list" #[] 0)).get? h2.objs.size=some (seqObj "list" #[] e1):=Heap.get?_push_of_some _ (Heap.get?_push_of_some _ ho1)
 obtain⟨c,hc⟩:∃c,(sortedHeap (h2.push (seqObj "list" ord.toArray 0)) h2.objs.size ord out).get? h2.objs.size=some (seqObj "list" out c):=⟨_,get?_update_seq ho6 (λ _=>out)⟩
 refine wpAny_pure ⟨_,rfl,h h2.objs.size _ d2 tk2 out.toList ns' c a1 (a2.trans hp) a3 (Nat.le_of_lt lz) (λ b o e=>?_) (by rw[Array.toArray_toList];exact hc)⟩
 have nb:b≠h2.objs.size:=Nat.ne_of_lt (Heap.lt_size (keep b o e))
 exact(Heap.get?_update_other _ _ (Ne.symm nb)).trans (Heap.get?_push_of_some _ (Heap.get?_push_of_some _ ((Heap.get?_update_other _ _ (Ne.symm nb)).trans (Heap.get?_push_of_some _ (keep b o e)))))
end
theorem Jt5 {X:Cx}{pins:List (Addr×Obj)}{σ:L2.St}{H:Hp}{s:Shared}{d:Drawn}(I:Inv X pins σ H s):Inv X pins σ H { s with drawn:=d }:=⟨I.ok,I.os,I.bare,I.base,I.loc,I.cell,I.free,I.freeC,I.pin,I.hok,I.len⟩
section
variable {ce:Str->Option Addr}{X:Cx}
noncomputable def Jgp (aa:A1):E1:=λ σ h=>(aa σ h).bind λ xs h1=>match xs with
 | [.ref i]=>(match h1[i]? with
  | some (.lst ys)=>(match Jdh ys with
   | some zs=>if zs.length<4000 then .ok (.ref h1.length) (h1++[.lst ((Jn1 (ddN (Jbu zs) zs.length)).map .int)]) else .stuck
   | none=>.stuck)
  | _=>.stuck)
 | _=>.stuck
theorem Jt4 {a:Expr}{aa:A1}{p pos p2 pos2:Pos}(hh:X.A.handled=none) (g1:Gl X "sorted") (m1:X.mg "sorted"=none) (g2:Gl X "set") (m2:X.mg "set"=none) (ha:PAi ce X [a] aa) (hs:starEach [a] X.env=[(false,eval a X.env)]) :
  PEi ce X (.Call (.Name "sorted" p) [.Call (.Name "set" p2) [a] [] pos2] [] pos) (Jgp aa):=λ pins s σ H ι σi h Q E N K=>by
 refine wpAny_Call_Name_kw (Jed N.inv g1 m1 rfl ?_)
 refine PyProof.Rows.callWith_builtin1 ?_ rfl rfl
 refine PyProof.Rows.spliced_more ?_
 refine wpAny_Call_Name_kw (Jed N.inv g2 m2 rfl ?_)
 refine PyProof.Rows.callWith_type1 ?_ hs rfl
 refine(ha pos2).run N K λ xs h1 us s1 H1 ι1 N1 n1 r1 K1=>?_
 obtain⟨vs,rv,qs⟩:=r1
 match xs,K1 with
 | [.ref i],K1 =>
  obtain⟨w,rfl,ad,rfl,hav⟩:=qs.one_of
  obtain⟨u,rfl,ru⟩:=Jn9 rv
  cases ru
  dsimp only at K1
  cases hi:h1[i]? with
  | none=>rw[hi] at K1;exact Zf K1
  | some ob =>
   rw[hi] at K1
   cases ob with
   | lst ys =>
    dsimp only at K1
    cases hb:Jdh ys with
    | none=>rw[hb] at K1;exact Zf K1
    | some zs =>
     rw[hb] at K1
     dsimp only at K1
     split at K1
     ·rename_i room
      obtain⟨ws,e1,r3⟩:=N1.at hi hav
      obtain⟨its,rv2,pl,_⟩:=N1.inv.list (SqL.of e1)
      have are:=Jla hb r3 rv2
      have dl:=Jtb (Jbu zs) zs.length
      refine Ju2 hh pl.isList are (show zs.length+1<4096 by omega) λ h2 tk hS keep=>PyProof.Rows.spliced_none ?_
      obtain⟨ms,hm,pm⟩:=hS
      have lm:ms.length<=zs.length:=by rw[pm.length_eq];exact dl
      refine Jsf (s:={ s1 with heap:=h2,toks:=tk }) hh hm (by omega) λ D h3 d3 tk3 out ns' c a1 a2 a3 le keep3 hc=>?_
      have en:=Jyg (a2.trans pm) a3
      subst en
      have leD:s1.heap.objs.size<=D:=by
       obtain⟨o,es,ep,t,ho,_⟩:=hm
       exact Nat.le_trans (Nat.le_of_lt (Heap.lt_size ho)) le
      have hl:((Jn1 (ddN (Jbu zs) zs.length)).map V.int).length<=sizeLine:=by
       have:=(a2.trans pm).length_eq
       rw[List.length_map,this,sizeLine_eq]
       omega
      have I':=N1.inv.laid (a:=D) (o:=.lst ((Jn1 (ddN (Jbu zs) zs.length)).map V.int)) (h':=h3) (t':=tk3) (λ b u q=>keep3 _ _ (keep _ _ q)) leD ⟨hl,out,c,Jel a1,hc⟩
      exact finA N1 K1 D (N1.inv.hok.fresh leD) ⟨_,Jg,Jqm _⟩ _ _ (Jt5 (d:=d3) I') rfl
     ·exact Zf K1
   | _=>exact Zf K1
 | [],K1=>exact Zf K1
 | [.non],K1=>exact Zf K1
 | [.bl _],K1=>exact Zf K1
 | [.int _],K1=>exact Zf K1
 | [.str _],K1=>exact Zf K1
 | [.tup _],K1=>exact Zf K1
 | [.rol _],K1=>exact Zf K1
 | x::_::_,K1=>cases x<;>exact Zf K1
end
end L3
namespace L4
open PySem PySem.Spec PyProof.Rows L2 L3
noncomputable def stE:E1:=λ _ _=>.stuck
noncomputable def stT:T1:=λ _ _=>.stuck
noncomputable def stO:O1:=λ _ _=>.stuck
noncomputable def stI:I1:=λ _ _=>.stuck
noncomputable def stG:G1:=λ _ _ _=>.stuck
noncomputable def stS:S1:=λ _ _=>.stuck
structure Fn where
 np:Nat
 dvs:List IV
 run:List IV->IH->Res IV
structure Pg where
 fn:Str->Option Fn
 cls:Str->Option Fn
 meth:Str->Str->Option Fn
 con:Str->Option IV
 isa:Str->Option (Str->Bool)
 fld:Str->Bool
 free:Str->Bool
 tabs:Str->Option Nat
 rz:Str->Bool
 bas:Str->Bool
 xi:Str->Option (Str->Option Bool)
 wr:Str->Option (List IV->IH->Res IV)
 ne:Str->Bool
 xo:Str->Option Fn
 xf:Str->Str->Bool
 xb:Str->Bool
structure Sc where
 N:List Str
 names:List (Str×NameKind)
 own:Bool
 q:Str
noncomputable def ixOf (x:Str):List Str->Option Nat
 | []=>none
 | y::r=>if y==x then some 0 else(ixOf x r).map (· + 1)
noncomputable def Sc.vis (S:Sc) (x:Str):Option Nat :=
 match S.names.lookup x with
 | some .local=>if x=="__debug__"||x=="__classdict__" then none else ixOf x S.N
 | some .cell=>if x=="__debug__"||x=="__classdict__" then none else ixOf x S.N
 | some .free=>if x=="__debug__"||x=="__classdict__" then none else ixOf x S.N
 | _=>none
noncomputable def Sc.gl (S:Sc) (x:Str):Bool:=S.names.lookup x==some .globalImplicit&&!(x=="__debug__")&&!(x=="__name__")
noncomputable def Sc.sto (S:Sc) (x:Str):Option Nat :=
 match S.names.lookup x with
 | some .local=>ixOf x S.N
 | some .cell=>if S.own then ixOf x S.N else none
 | _=>none
noncomputable def evC:Const->E1
 | .int i=>eC (.int i)
 | .bool b=>eC (.bl b)
 | .none=>eC .non
 | .str x=>eC (.str x)
 | _=>stE
noncomputable def binI:Operator->IV->IV->IH->Res IV
 | .Add=>Jr
 | .Sub=>Jfk
 | .Mult=>J8
 | .FloorDiv=>Jaf
 | .Mod=>Jbd
 | .Pow=>Jhb
 | _=>λ _ _ _=>.stuck
noncomputable def cmpI:CmpOp->IV->IV->IH->Res IV
 | .Lt=>cLt
 | .LtE=>cLe
 | .Gt=>cGt
 | .GtE=>cGe
 | .Eq=>cEq
 | .NotEq=>cNe
 | .Is=>cIs
 | .IsNot=>Js7
 | _=>λ _ _ _=>.stuck
noncomputable def unI:UnaryOp->IV->IH->Res IV
 | .Not=>Jrw tru
 | .USub=>J1c
 | _=>λ _ _=>.stuck
noncomputable def J0c:List E1->E1
 | []=>stE
 | [a]=>a
 | a::b::r=>eAnd a (J0c (b::r)) tru
noncomputable def eOrs:List E1->E1
 | []=>stE
 | [a]=>a
 | a::b::r=>eOr a (eOrs (b::r)) tru
noncomputable def J1y:List T1->T1
 | []=>stT
 | [a]=>a
 | a::b::r=>Jsh a (J1y (b::r))
noncomputable def tOrs:List T1->T1
 | []=>stT
 | [a]=>a
 | a::b::r=>tOrI a (tOrs (b::r))
noncomputable def aAll:List E1->A1
 | []=>aNil
 | a::r=>Ja a (aAll r)
noncomputable def Ji:Expr->Bool
 | .Starred .. =>false
 | _=>true
noncomputable def Jrs:Expr->Bool
 | .Set .. =>false
 | _=>true
noncomputable def Juo:Expr->Bool
 | .Slice .. =>false
 | _=>true
noncomputable def Jeh:Expr->Bool
 | .ListComp .. =>false
 | .SetComp .. =>false
 | .DictComp .. =>false
 | _=>true
noncomputable def Jeg:Expr->Bool
 | .Call (.Name ..) [] [] _=>false
 | _=>true
noncomputable def isM1:Expr->Bool
 | .UnaryOp .USub (.Constant (.int 1) _ _) _=>true
 | _=>false
noncomputable def Fn.fill (f:Fn) (n:Nat):Option (List IV):=if n<=f.np/\f.np<=n+f.dvs.length then some (f.dvs.drop (f.dvs.length-(f.np-n))) else none
noncomputable def Jp9 (f:Fn) (n:Nat) (a:A1):E1:=match f.fill n with
 | some d=>Jn f.run d a
 | none=>stE
noncomputable def Jqa (c:Str) (f:Fn) (n:Nat) (a:A1):E1:=match f.fill (n+1) with
 | some d=>Jk6 c f.run d a
 | none=>stE
noncomputable def bltF (x:Str):List IV->IH->Res IV :=
 if x=="len" then on1 lenI else if x=="all" then on1 allI else if x=="sum" then on1 sumI else λ _ _=>.stuck
noncomputable def bltT (x:Str):List IV->IH->Res IV :=
 if x=="list" then on1 Juh else if x=="tuple" then on1 Jjr else λ _ _=>.stuck
noncomputable def Jt7 (x:Str):Bool:=x=="len"||x=="all"||x=="sum"
noncomputable def Jt8 (x:Str):Bool:=x=="list"||x=="tuple"
noncomputable def Jwi (P:Pg) (x:Str):Option (Ty->Option Bool) :=
 match P.isa x with
 | some g=>some λ t=>match t with|.ins c=>some (g c)|.exc _=>none|_=>some false
 | none=>if P.free x then(if x=="int" then some Jhi else if x=="bool" then some Jby else if x=="str" then some Jhj else if x=="list" then some (if P.ne "Work" then Jbr else Jbz) else if x=="tuple" then some Jhk else none) else none
noncomputable def J0d (o:Option (Ty->Option Bool)) (e:E1):E1:=match o with
 | some ans=>eIsi ans e
 | none=>stE
noncomputable def bmOf (T:String) (m:Str) (n:Nat):Option (IV->List IV->IH->Res IV) :=
 if T=="list"&&m=="append"&&n==1 then some Jg2 else if T=="list"&&m=="extend"&&n==1 then some Jg7 else if T=="dict"&&m=="setdefault"&&n==2 then some Jej else none
noncomputable def Jot (P:Pg) (m:Str) (n:Nat):Str->Option ((List IV->IH->Res IV)×List IV):=λ c=>match P.meth c m with
 | some f=>(match f.fill (n+1) with
  | some d=>some (f.run,d)
  | none=>none)
 | none=>none
noncomputable def Jo1 (v:IV) (h:IH):Bool:=match v with
 | .ref i=>(match h[i]? with
  | some (.ins ..)=>true
  | _=>false)
 | _=>false
noncomputable def tyS (v:IV) (h:IH):String:=match v with
 | .str _=>"str"
 | .rol _=>"list"
 | .ref i=>(match h[i]? with
  | some (.lst _)=>"list"
  | some (.dct _)=>"dict"
  | _=>"")
 | _=>""
noncomputable def eDot (P:Pg) (m:Str) (n:Nat) (o:E1) (a:A1):E1:=λ σ h=>match o σ h with
 | .ok v h1=>if Jo1 v h1 then Jws m (Jot P m n) o a σ h else(match bmOf (tyS v h1) m n with
  | some g=>eBm (tyS v h1) g o a σ h
  | none=>.stuck)
 | _=>.stuck
noncomputable def J3d (n:Nat) (a:A1):I1:=match n with
 | 1=>iRg Jec a
 | 2=>stI
 | _=>stI
noncomputable def gAll:List G1->List IV->ISt->IH->SRes
 | []=>gN
 | g::r=>gC g (gAll r)
noncomputable def Jlb (sc:Scope):List Str:=sc.names.filterMap λ x=>if x.2==.local&&!(x.1==(".0":Str)) then some x.1 else none
noncomputable def Jon (sc:Scope):List Str:=sc.names.filterMap λ x=>if x.2==.free then some x.1 else none
noncomputable def jsOf (S:Sc) (sc:Scope):List Nat:=(Jon sc).map λ x=>(ixOf x S.N).getD 0
noncomputable def Sc.comp (S:Sc) (sc:Scope):Sc where
 N:=Jlb sc++Jon sc
 names:=sc.names.map λ x=>if x.2==.free&&S.names.lookup x.1==some .cell then(x.1,.cell) else x
 own:=false
 q:=""
noncomputable def Sc.fake (S:Sc):Scope:={ kind:=.function,names:=S.names,isGenerator:=false,isCoroutine:=false }
noncomputable def J22:Expr->Bool
 | .Name x _=>x=="last_come"||x=="tops"||x=="last"||x=="_law_last"||x=="_law_lows_here"
 | _=>false
noncomputable def ixD (_:Expr):IV->IV->IH->Res IV:=opIx
noncomputable def cmpD (_:Str->Bool) (o:CmpOp) (_:Expr):IV->IV->IH->Res IV:=cmpI o
noncomputable def gSbF (a:Expr) (o i:E1):G1:=if J22 a then gSbD o i else gSb o i
noncomputable def Jqn:Expr->Option Expr
 | .Call (.Name y _) [e] [] _=>if y=="set"&&Ji e then some e else none
 | _=>none
noncomputable def Jzh:Expr->Option Expr
 | .Call (.Name y _) [e] [] _=>if y=="range"&&Ji e then some e else none
 | _=>none
noncomputable def dctB:Expr->Bool
 | .Call (.Name y _) _ _ _=>y=="ceilings"
 | _=>false
noncomputable def Jom (P:Pg) (S:Sc) (x:Str) (f:Expr->E1):List Expr->E1
 | [a,b]=>if x=="max" then eCB (on2 maxI) (Ja (f a) (Ja (f b) aNil)) else if x=="min" then stE else(match b with
  | .Name y _=>if x=="isinstance"&&S.gl y then J0d (Jwi P y) (f a) else stE
  | _=>stE)
 | [a]=>(match (if x=="len"&&S.gl "set"&&P.free "set" then Jqn a else none) with
  | some e=>Ji7 (Ja (f e) aNil)
  | none=>match (if x=="list"&&S.gl "range"&&P.free "range" then Jzh a else none) with
  | some _=>stE
  | none=>if x=="len"&&dctB a then eCB (on1 Jrm) (Ja (f a) aNil) else if Jt7 x then eCB (bltF x) (Ja (f a) aNil) else if Jt8 x then eCB (bltT x) (Ja (f a) aNil) else stE)
 | _=>stE
noncomputable def Ju1:List Expr->Option Expr
 | [a]=>Jqn a
 | _=>none
noncomputable def Jid (P:Pg) (S:Sc) (x:Str) (f:Expr->E1) (args:List Expr):E1:=match (if x=="sorted"&&S.gl "set"&&P.free "set" then Ju1 args else none) with
 | some e=>Jgp (Ja (f e) aNil)
 | none=>Jom P S x f args
noncomputable def Jud (P:Pg) (S:Sc) (f:Sc->Expr->E1) (x:Str) (args:List Expr) (kws:List Keyword):E1:=match args,kws with
 | [a],[⟨some k,d,_⟩]=>if x=="max"&&k=="default"&&S.gl x&&P.free x&&Ji a then Jmm (Ja (f S a) aNil) (f S d) else stE
 | _,_=>stE
noncomputable def Jta (ifs:List Expr) (f:Expr->T1) (m:T1->E1):E1:=match ifs with
 | []=>m Jaw
 | [c]=>m (f c)
 | _=>stE
noncomputable section
mutual
noncomputable def ev (P:Pg):Nat->Sc->Expr->E1
 | 0,_,_=>stE
 | n+1,S,e=>match e with
  | .Constant c _ _=>evC c
  | .Name x _=>(match S.vis x with
   | some i=>eVar i
   | none=>if S.gl x then(match P.con x with
    | some v=>eC v
    | none=>stE) else stE)
  | .BinOp a op b _=>eBin (binI op) (ev P n S a) (ev P n S b)
  | .UnaryOp op a _=>eUn (unI op) (ev P n S a)
  | .BoolOp .And vs _=>J0c (vs.map (ev P n S))
  | .BoolOp .Or vs _=>eOrs (vs.map (ev P n S))
  | .IfExp t a b _=>eIf (evT P n S t) (ev P n S a) (ev P n S b)
  | .Compare a [o] [b] _=>if behindInMarks o b then stE else eBin (cmpD P.ne o b) (ev P n S a) (ev P n S b)
  | .Compare a [o,o'] [b,c] _=>if lastMarks [o,o'] [b,c] then stE else Jd9 (cmpI o) (cmpI o') (ev P n S a) (ev P n S b) (ev P n S c)
  | .Tuple es _ _=>if es.all Ji then eTup (aAll (es.map (ev P n S))) else stE
  | .Dict [] [] _=>Jwr
  | .List es _=>if es.all Ji then eLst (aAll (es.map (ev P n S))) else stE
  | .Subscript a (.Slice lo hi none _) _=>eSl slI (ev P n S a) (evO P n S lo) (evO P n S hi)
  | .Subscript a i _=>if Juo i then eBin (ixD a) (ev P n S a) (ev P n S i) else stE
  | .Attribute o f _=>if Jeg o&&P.fld f then eFld f (ev P n S o) else stE
  | .Call (.Name x _) args [] _=>if S.gl x&&args.all Ji then Jtr P n S x args else stE
  | .Call (.Name x _) args (kw::kws) _=>Jud P S (λ S e=>ev P n S e) x args (kw::kws)
  | .Call (.Attribute o m ap) args [] p=>if args.all Ji&&Jeg o&&(ap.endLine==p.line)&&decide (args.length<30) then eDot P m args.length (ev P n S o) (aAll (args.map (ev P n S))) else stE
  | .ListComp elt [⟨tg,iter,ifs,as⟩] sc _ =>
   if as=0/\Jrs iter=true/\Jdd S.N (Jlb sc) (Jon sc) (jsOf S sc) S.fake sc=true then
    Jta ifs (evT P n (S.comp sc)) λ mt=>Jaa (evI P n S tg iter) (Jlb sc).length (jsOf S sc) (tgt P n (S.comp sc) tg) mt (ev P n (S.comp sc) elt)
   else stE
  | _=>stE
noncomputable def evT (P:Pg):Nat->Sc->Expr->T1
 | 0,_,_=>stT
 | n+1,S,e=>match e with
  | .UnaryOp .Not a _=>Jb6 (evT P n S a)
  | .BoolOp .And vs _=>J1y (vs.map (evT P n S))
  | .BoolOp .Or vs _=>tOrs (vs.map (evT P n S))
  | .IfExp .. =>stT
  | .Compare a [o] [b] _=>if behindInMarks o b then stT else tOfB asB (eBin (cmpD P.ne o b) (ev P n S a) (ev P n S b))
  | .Compare a [o,o'] [b,c] _=>if lastMarks [o,o'] [b,c] then stT else tOfB asB (Jd9 (cmpI o) (cmpI o') (ev P n S a) (ev P n S b) (ev P n S c))
  | .Compare .. =>stT
  | e=>tOfB tru (ev P n S e)
noncomputable def evO (P:Pg):Nat->Sc->Option Expr->O1
 | 0,_,_=>stO
 | _+1,_,none=>Jru
 | n+1,S,some e=>Jlf (ev P n S e)
noncomputable def Jtr (P:Pg):Nat->Sc->Str->List Expr->E1
 | 0,_,_,_=>stE
 | n+1,S,x,args=>match P.fn x with
  | some f=>Jp9 f args.length (aAll (args.map (ev P n S)))
  | none=>match P.cls x with
   | some f=>Jqa x f args.length (aAll (args.map (ev P n S)))
   | none=>if P.free x then Jid P S x (ev P n S) args else stE
noncomputable def evI (P:Pg):Nat->Sc->Expr->Expr->I1
 | 0,_,_,_=>stI
 | n+1,S,tg,e=>match e with
  | .Call (.Name x _) args [] _ =>
   if S.gl x&&P.free x&&args.all Ji&&(x=="range") then J3d args.length (aAll (args.map (ev P n S)))
   else if S.gl x&&P.free x&&args.all Ji&&(x=="enumerate") then(match tg,args with
    | .Tuple ..,[a]=>iRg Je9 (Ja (ev P n S a) aNil)
    | _,_=>stI)
   else iAny (ev P n S e)
  | e=>iAny (ev P n S e)
noncomputable def tgt (P:Pg):Nat->Sc->Expr->G1
 | 0,_,_=>stG
 | n+1,S,e=>match e with
  | .Name x _=>(match S.sto x with
   | some i=>gNm i
   | none=>stG)
  | .Tuple es _ _=>if es.all Ji then gTp es.length (gAll (es.map (tgt P n S))) else stG
  | _=>stG
end
end
noncomputable def Jg1 (t:T1) (b:S1):Nat->S1
 | 0,_,_=>.stuck
 | n+1,σ,h=>match t σ h with
  | .ok c h1=>if c then(match b σ h1 with
   | .next σ2 h2=>Jg1 t b n σ2 h2
   | .cont σ2 h2=>Jg1 t b n σ2 h2
   | .brk σ2 h2=>.next σ2 h2
   | .ret v h2=>.ret v h2
   | _=>.stuck) else .next σ h1
  | _=>.stuck
@[irreducible] noncomputable def Jyj:Nat:=1000000
noncomputable def Jjm (t:T1) (b:S1):S1:=Jg1 t b Jyj
noncomputable def ipI:Operator->IV->IV->IH->Res IV
 | .Add,.int i,.int j,h=>.ok (.int (i+j)) h
 | _,_,_,_=>.stuck
noncomputable def sAug (op:Operator) (i:Nat) (e:E1):S1:=λ σ h=>rS σ (eVar i σ h) λ x h1=>rS σ (e σ h1) λ y h2=>rS σ (ipI op x y h2) λ z h3=>.next (σ.set i (some z)) h3
noncomputable def sAugF (op:Operator) (f:Str) (o e:E1):S1:=λ σ h=>rS σ (o σ h) λ ov h1=>match ov with
 | .ref i=>(match h1[i]? with
  | some (.ins _ fs)=>(match fs.lookup f with
   | some x=>rS σ (e σ h1) λ y h2=>rS σ (ipI op x y h2) λ z h3=>(match h3[i]? with
    | some (.ins c gs)=>if gs.length<1000 then .next σ (h3.set i (.ins c (putI f z gs))) else .stuck
    | _=>.stuck)
   | none=>.stuck)
  | _=>.stuck)
 | _=>.stuck
noncomputable def ixL:IV->IV->IH->Res IV
 | .ref i,.int k,h=>match h[i]? with
  | some (.lst xs)=>(match atI xs k with
   | some v=>if 0<=k then .ok v h else .stuck
   | none=>.stuck)
  | _=>.stuck
 | _,_,_=>.stuck
noncomputable def sAugS (op:Operator) (o k e:E1):S1:=λ σ h=>rS σ (o σ h) λ ov h1=>rS σ (k σ h1) λ kv h2=>rS σ (ixL ov kv h2) λ x h3=>rS σ (e σ h3) λ y h4=>rS σ (ipI op x y h4) λ z h5=>setI ov kv z σ h5
noncomputable def sAll:List S1->S1
 | []=>sNil
 | [a]=>a
 | a::b::r=>sSeq a (sAll (b::r))
noncomputable def J08:Expr->Bool
 | .Tuple .. =>false
 | _=>true
noncomputable def Jxc:Expr->Bool
 | .Tuple .. =>true
 | _=>false
noncomputable def isLC:Expr->Bool
 | .ListComp .. =>true
 | _=>false
noncomputable def Jxb:Expr->Bool
 | .Subscript .. =>true
 | _=>false
noncomputable abbrev Xi:=Str->Option (Str->Option Bool)
noncomputable def Jz1 (g:Str->Option Bool):Ty->Option Bool
 | .exc c=>g c
 | _=>none
noncomputable section
noncomputable def J0l (S:Sc) (xi:Xi) (fr:Str->Bool) (f:Expr) (as:List Expr) (ks:List Keyword) (p:Pos) (m:Expr->E1):E1:=match f,as,ks with
 | .Name x _,[a,.Name D _],[]=>if x=="isinstance"&&fr x&&S.gl x&&S.gl D&&Ji a then(match xi D with
  | some g=>eIsi (Jz1 g) (m a)
  | none=>stE) else stE
 | _,_,_=>stE
noncomputable def hv (xi:Xi) (xf:Str->Str->Bool) (fr:Str->Bool):Nat->Bool->Sc->Expr->E1
 | 0,_,_,_=>stE
 | n+1,w,S,e=>match e with
  | .Constant c _ _=>evC c
  | .Name x _=>(match S.vis x with
   | some i=>eVar i
   | none=>stE)
  | .Tuple es _ _=>if es.all Ji then eTup (aAll (es.map (hv xi xf fr n w S))) else stE
  | .List es _=>if es.all Ji then eLst (aAll (es.map (hv xi xf fr n w S))) else stE
  | .Call f as ks p=>J0l S xi fr f as ks p (hv xi xf fr n w S)
  | _=>stE
noncomputable def hx (xi:Xi) (xf:Str->Str->Bool) (fr:Str->Bool) (w:Bool) (S:Sc):Nat->Stmt->S1
 | 0,_=>stS
 | n+1,st=>match st with
  | .Pass _=>Jx2
  | .Return (some e) _=>sRet (hv xi xf fr n w S e)
  | .Assign [.Name x _] e _=>if Jeh e then(match S.sto x with
   | some i=>sSet i (hv xi xf fr n w S e)
   | none=>stS) else stS
  | _=>stS
noncomputable def hSl (S:Sc):Option Str->Option (Option Nat)
 | none=>some none
 | some x=>if S.names.lookup x==some .local then(ixOf x S.N).map some else none
noncomputable def Jy5 (P:Pg) (S:Sc) (n:Nat) (sl:Option Nat) (suite:List Stmt):S1:=sAll (suite.map (hx P.xi P.xf P.free false S n))
noncomputable def hHd (P:Pg) (S:Sc) (n:Nat):ExceptHandler->Option HdI
 | .ExceptHandler (some (.Name D _)) nm (b::suite) _=>if S.gl D then(match P.xi D,hSl S nm with
  | some g,some sl=>some (g,sl,Jy5 P S n sl (b::suite))
  | _,_=>none) else none
 | _=>none
noncomputable def hHds (P:Pg) (S:Sc) (n:Nat):List ExceptHandler->Option (List HdI)
 | []=>some []
 | h::r=>match hHd P S n h,hHds P S n r with
  | some q,some l=>some (q::l)
  | _,_=>none
end
noncomputable def XiOk (K:W.Frag) (mg:Str->Option Value) (xi:Xi) (xf:Str->Str->Bool):Prop:=(∀D g,xi D=some g->∃v,(mg D=some v∨(mg D=none/\bootBuiltins D=some v)) /\
 ∀c C b,g c=some b->W.nsIn K mainGlobals c=some (some (.ref C))->ExI K C/\W.kitOne K (.ref C) v=some b/\W.exmOne K (.ref C) v=some b) /\
 ∀f c C,xf f c=true->W.nsIn K mainGlobals c=some (some (.ref C))->StoX K C f/\ExI K C/\W.findIn K (.ref C) f=some none
noncomputable section
noncomputable def Jtv (P:Pg) (S:Sc) (m:Expr->E1) (exc cause:Option Expr):S1:=match exc,cause with
 | some (.Call (.Name x _) [e] [] _),none=>if S.gl x&&P.rz x&&Ji e then Jh3 x (Ja (m e) aNil) else stS
 | _,_=>stS
noncomputable def hTry (P:Pg) (S:Sc) (n:Nat) (m:Stmt->S1) (body:List Stmt) (hs:List ExceptHandler) (o f:List Stmt):S1:=match hs,o,f with
 | h::r,[],[]=>if S.own then(match hHds P S n (h::r) with
  | some ms=>sTry (sAll (body.map m)) ms
  | none=>stS) else stS
 | _,_,_=>stS
end
noncomputable def J1l (P:Pg) (f:Str) (o e:E1):S1:=if P.fld f then Jjl f o e else stS
noncomputable section
noncomputable def ex (P:Pg):Nat->Sc->Stmt->S1
 | 0,_,_=>stS
 | n+1,S,st=>match st with
  | .Pass _=>Jx2
  | .Break _=>Jzi
  | .Continue _=>J4y
  | .Expr e _=>if Jeh e then Jei (ev P n S e) else stS
  | .Return none _=>J1m
  | .Return (some e) _=>sRet (ev P n S e)
  | .If c a b _=>sIf (evT P n S c) (sAll (a.map (ex P n S))) (sAll (b.map (ex P n S)))
  | .While c a [] _=>Jjm (evT P n S c) (sAll (a.map (ex P n S)))
  | .For tg it a [] _=>if Jrs it&&S.own then sFor (evI P n S tg it) (tgt P n S tg) (sAll (a.map (ex P n S))) else stS
  | .Assign [.Name x _] e _=>if Jeh e||isLC e then(match S.sto x with
   | some i=>sSet i (ev P n S e)
   | none=>stS) else stS
  | .Assign [.Attribute o f _] e _=>if Jeh e then J1l P f (ev P n S o) (ev P n S e) else stS
  | .Assign [tg] e _=>if Jeh e&&((Jxc tg&&J08 e)||Jxb tg) then sAsg (ev P n S e) (tgt P n S tg) else stS
  | .Raise exc cause _=>Jtv P S (ev P n S) exc cause
  | .Try body hs o f _=>hTry P S n (ex P n S) body hs o f
  | _=>stS
end
structure FnD (ce:Str->Option Addr) (prog:Program) (w:World) (K:W.Frag) (mg:Str->Option Value) (base:Heap) (k:Nat) (f:Fn) (fa:Addr) (fd:FuncData) (ps:List Str):Prop where
 len:ps.length=f.np
 ok:FnOk prog w K mg base (CXI prog w) k fa fd ps (spI ce K ps f.run)
 dv:∀j,j<=f.dvs.length->∃ds,Jfb K fd ps ds/\ds.length=f.dvs.length-j/\∃vs,Vals vs ds/\∀ι H,RVs K ι H (f.dvs.drop j) vs
structure PgOk (ce:Str->Option Addr) (k:Nat) (P:Pg) (prog:Program) (w:World) (K:W.Frag) (mg:Str->Option Value) (base:Heap):Prop where
 fn:∀x f,P.fn x=some f->∃fa fd ps,mg x=some (.ref fa)/\W.keepIn K (.ref fa)=true/\FnD ce prog w K mg base k f fa fd ps
 cls:∀x f,P.cls x=some f->∃C fa fd ps,mg x=some (.ref C)/\ce x=some C/\Mk K C fa/\FnD ce prog w K mg base k f fa fd ps
 meth:∀c m f,P.meth c m=some f->∃C fa fd ps,ce c=some C/\Cls K C/\Meth K C m fa/\FnD ce prog w K mg base k f fa fd ps
 con:∀x v,P.con x=some v->∃u y,mg x=some u/\RelV y u/\∀ι H,RV K ι H v y
 isa:∀D g,P.isa D=some g->∃c,mg D=some c/\IsOk ce K c λ t=>match t with|.ins c=>some (g c)|.exc _=>none|_=>some false
 fld:∀f,P.fld f=true->Jwg ce K f
 free:∀x,P.free x=true->mg x=none
 blt:∀q j,P.tabs q=some j->Jwf mg base
 rz:∀x,P.rz x=true->∃C,mg x=some (.ref C)/\W.nsIn K mainGlobals x=some (some (.ref C))/\XCls K C
 xi:XiOk K mg P.xi P.xf
 bas:∀x,P.bas x=true->∃C,mg x=some (.ref C)/\BasK K C
 wr:∀x r,P.wr x=some r->True
 ne:∀c,P.ne c=true->∃C,ce c=some C/\neIn K C=true/\ClsI K C/\W.kitOne K (.ref C) (.type "list")=some false
 xo:∀x f,P.xo x=some f->∃C fa fd ps,mg x=some (.ref C)/\W.nsIn K mainGlobals x=some (some (.ref C))/\Jsm K C fa=true/\W.keepIn K (.ref C)=true/\(∀h:Heap,K.In h->ExC h C)/\FnD ce prog w K mg base k f fa fd ps
 xb:∀x,P.xb x=true->∃C,mg x=some (.ref C)/\BasX K C
structure Good (ce:Str->Option Addr) (k:Nat) (P:Pg) (S:Sc) (X:Cx):Prop where
 n:X.N=S.N
 sc:X.env.scope.names=S.names
 nd:S.N.Nodup
 fk:X.env.scope.kind=.function
 calm:X.calm=true
 room:Room (k+1) X.A
 st:S.own=true->∀x,X.fn x=true
 pg:PgOk ce k P X.prog X.w X.K X.mg X.base
 code:S.own=true->W.codeIn X.K X.env.code S.q=true/\X.env.qual=S.q++".<locals>."
 room3:S.own=true->Room (k+3) X.A
 top:S.own=true->X.stack=X.env::X.outer/\X.env.frame=some X.env.locals
section
variable {ce:Str->Option Addr}{k:Nat}{P:Pg}{S:Sc}{X:Cx}{α β:Type}{R:REL α β}
theorem Jb {t:Sem β}:PX ce X R t (λ _ _=>.stuck):=λ _ _ _ _ _ _ _ _ _ _ K=>(show False from K).elim
theorem px_pt {t:Sem β}{m:ISt->IH->Res α}(hh:∀σi h,∃m',m σi h=m' σi h/\PX ce X R t m'):PX ce X R t m:=by
 intro pins s σ H ι σi h Q E N K
 obtain⟨m',e,p⟩:=hh σi h
 rw[e] at K
 exact p pins s σ H ι σi h Q E N K
theorem Jgw {tg e:Expr}:PIi ce X tg e stI:=λ _ _ _ _ _ _ _ _ _ _ K=>(show False from K).elim
theorem Jih {e:Expr}:PGi ce X e stG:=λ _ _ _ _ _ _ _ _ _ _ _ _ _ K=>(show False from K).elim
theorem Jj {t:Sem Flow}:PSi ce X t stS:=λ _ _ _ _ _ _ _ _ _ _ K=>(show False from K).elim
theorem Jgs {x:Str}:∀{l:List Str}{i:Nat},ixOf x l=some i->l[i]?=some x
 | [],_,h=>by cases h
 | y::r,i,h=>by
  unfold ixOf at h
  split at h
  ·rename_i e
   cases h
   simp[beq_iff_eq.mp e]
  ·obtain⟨j,hj,rfl⟩:=Option.map_eq_some_iff.mp h
   simpa using Jgs hj
theorem Good.kind (G:Good ce k P S X) (x:Str):X.env.kindOf x=S.names.lookup x:=by
 show X.env.scope.names.lookup x=_
 rw[G.sc]
theorem Good.vis (G:Good ce k P S X){x:Str}{i:Nat}(h:S.vis x=some i):X.N[i]?=some x/\Vis X.env.scope x/\(x==("__debug__":Str))=false/\(x==("__classdict__":Str))=false:=by
 unfold Sc.vis at h
 have fin:∀{o:NameKind},(o=.local∨o=.cell∨o=.free)->S.names.lookup x=some o->(if (x==("__debug__":Str)||x==("__classdict__":Str))=true then none else ixOf x S.N)=some i ->
   X.N[i]?=some x/\Vis X.env.scope x/\(x==("__debug__":Str))=false/\(x==("__classdict__":Str))=false:=λ ho e h=>by
  split at h
  ·cases h
  ·rename_i hd
   have hd':=Bool.eq_false_iff.mpr hd
   rw[Bool.or_eq_false_iff] at hd'
   refine⟨by rw[G.n];exact Jgs h,?_,hd'.1,hd'.2⟩
   unfold Vis
   rw[G.sc,e]
   rcases ho with rfl|rfl|rfl
   ·exact .inl rfl
   ·exact .inr (.inl rfl)
   ·exact .inr (.inr rfl)
 cases e:S.names.lookup x with
 | none=>rw[e] at h;cases h
 | some o =>
  rw[e] at h
  cases o with
  | «local» =>exact fin (.inl rfl) e h
  | cell=>exact fin (.inr (.inl rfl)) e h
  | free=>exact fin (.inr (.inr rfl)) e h
  | _=>cases h
theorem Good.gl (G:Good ce k P S X){x:Str}(h:S.gl x=true):Gl X x/\(x==("__debug__":Str))=false/\x≠"__name__":=by
 unfold Sc.gl at h
 simp only[Bool.and_eq_true,beq_iff_eq,Bool.not_eq_true'] at h
 refine⟨?_,h.1.2,λ e=>?_⟩
 ·show X.env.kindOf x=_
  rw[G.kind]
  exact h.1.1
 ·have:=h.2
  rw[e] at this
  exact absurd this (by decide)
theorem Good.sto (G:Good ce k P S X){x:Str}{i:Nat}(h:S.sto x=some i):X.N[i]?=some x/\Loc X.env.scope x/\(X.fn x=true∨X.env.scope.names.lookup x=some .local):=by
 unfold Sc.sto at h
 unfold L2.Loc
 rw[G.sc]
 cases e:S.names.lookup x with
 | none=>rw[e] at h;cases h
 | some o =>
  rw[e] at h
  cases o with
  | «local» =>exact⟨by rw[G.n];exact Jgs h,.inl rfl,.inr rfl⟩
  | cell =>
   dsimp only at h
   split at h
   ·rename_i ho
    exact⟨by rw[G.n];exact Jgs h,.inr rfl,.inl (G.st ho x)⟩
   ·cases h
  | _=>cases h
theorem Good.nodup (G:Good ce k P S X):X.N.Nodup:=by rw[G.n];exact G.nd
theorem Jd {a:Expr}{es:List Expr}{env:Env}(h:Ji a=true):starEach (a::es) env=(false,eval a env)::starEach es env:=by
 cases a<;>first|rfl|cases h
theorem Jez {pos:Pos}{env:Env}:∀{es:List Expr},es.all Ji=true->(backTo pos (starEach es env)).any (·.1)=false
 | [],_=>rfl
 | a::es,h=>by
  simp only[List.all_cons,Bool.and_eq_true] at h
  rw[Jd h.1]
  show(false||(backTo pos (starEach es env)).any (·.1))=false
  rw[Jez h.2]<;>rfl
theorem Jjq {pos:Pos}{env:Env}:∀{es:List Expr},es.all Ji=true->(backTo pos (starEach es env)).all (λ x=>!x.1)=true
 | [],_=>rfl
 | a::es,h=>by
  simp only[List.all_cons,Bool.and_eq_true] at h
  rw[Jd h.1]
  show(true&&(backTo pos (starEach es env)).all (λ x=>!x.1))=true
  rw[Jjq h.2]<;>rfl
theorem J0n {pos:Pos}{env:Env}{es:List Expr}(ha:es.all Ji=true) (hn:es.length<30):((backTo pos (starEach es env)).all (λ x=>!x.1)&&(backToKw pos (keywordEach [] env)).all (λ x=>x.1.isSome)
   && decide (es.length+([]:List Keyword).length+(if ([]:List Keyword).isEmpty then 0 else 1)<30))=true:=by
 show((backTo pos (starEach es env)).all (λ x=>!x.1)&&true&&decide (es.length+0+0<30))=true
 rw[Jjq ha]
 simpa using hn
theorem Jic:∀(l:List E1),ALen l.length (aAll l)
 | []=>Jwh
 | _::r=>Jsr (Jic r)
theorem Jjz {f:Expr->E1}:∀{es:List Expr},es.all Ji=true->(∀e,PEi ce X e (f e))->PAi ce X es (aAll (es.map f))
 | [],_,_=>Jj0
 | a::es,h,hf=>by
  simp only[List.all_cons,Bool.and_eq_true] at h
  exact Jdl (hf a) (Jjz h.2 hf) (Jd h.1)
theorem Jyz {f:Expr->E1}{pos:Pos}(hf:∀e,PEi ce X e (f e)):∀(vs:List Expr),PEi ce X (.BoolOp .And vs pos) (J0c (vs.map f))
 | []=>Jb
 | [a]=>J3p (hf a)
 | a::b::r=>i_and Jn3 (hf a) (Jyz hf (b::r))
theorem J26 {f:Expr->E1}{pos:Pos}(hf:∀e,PEi ce X e (f e)):∀(vs:List Expr),PEi ce X (.BoolOp .Or vs pos) (eOrs (vs.map f))
 | []=>Jb
 | [a]=>J3p (hf a)
 | a::b::r=>i_or Jn3 (hf a) (J26 hf (b::r))
theorem Jzm {f:Expr->T1}{pos:Pos}(hf:∀e,PTi ce X e (f e)):∀(vs:List Expr),PWi ce X (.BoolOp .And vs pos) (J1y (vs.map f))
 | []=>λ _=>Jb
 | [a]=>J10 (hf a)
 | a::b::r=>J5b (hf a) (Jzm hf (b::r))
theorem J48 {f:Expr->T1}{pos:Pos}(hf:∀e,PTi ce X e (f e)):∀(vs:List Expr),PWi ce X (.BoolOp .Or vs pos) (tOrs (vs.map f))
 | []=>λ _=>Jb
 | [a]=>J5c (hf a)
 | a::b::r=>tw_or (hf a) (J48 hf (b::r))
theorem Jy4 {f:Expr->G1}:∀{es:List Expr},es.all Ji=true->(∀e,PGi ce X e (f e))->PGsi ce X es (gAll (es.map f))
 | [],_,_=>J3a
 | a::es,h,hf=>by
  simp only[List.all_cons,Bool.and_eq_true] at h
  refine J0k (hf a) (Jy4 h.2 hf) ?_
  cases a<;>first|rfl|exact absurd h.1 Bool.false_ne_true
theorem Jyu {env:Env}:∀{es:List Expr},es.all Ji=true->(assignEach es env).length=es.length
 | [],_=>rfl
 | a::es,h=>by
  simp only[List.all_cons,Bool.and_eq_true] at h
  have:assignEach (a::es) env=(false,assign a env)::assignEach es env:=by cases a<;>first|rfl|exact absurd h.1 Bool.false_ne_true
  rw[this,List.length_cons,List.length_cons,Jyu h.2]
theorem Jsu {env:Env}:∀{es:List Expr},es.all Ji=true->(assignEach es env).findIdx? (·.1)=none
 | [],_=>rfl
 | a::es,h=>by
  simp only[List.all_cons,Bool.and_eq_true] at h
  have:assignEach (a::es) env=(false,assign a env)::assignEach es env:=by cases a<;>first|rfl|exact absurd h.1 Bool.false_ne_true
  rw[this,List.findIdx?_cons,Jsu h.2]
  rfl
theorem o_bin (op:Operator):OpI ce X (binaryOp op) (binI op):=by
 cases op with
 | Add=>exact o_add
 | Sub=>exact o_sub
 | Mult=>exact J4f
 | FloorDiv=>exact J4e
 | Mod=>exact o_mod
 | Pow=>exact o_pow
 | _=>exact λ _ _ _ _ _ _ _ _ _ _ _ _ _ _ _ _ K=>(show False from K).elim
theorem Jup (hu:X.A.units+64<cLine) (op:CmpOp):OpI ce X (compareOp op) (cmpI op):=by
 cases op with
 | Lt=>exact o_lt
 | LtE=>exact o_le
 | Gt=>exact o_gt
 | GtE=>exact o_ge
 | Eq=>exact o_eq hu
 | NotEq=>exact o_ne hu
 | Is=>exact o_is
 | IsNot=>exact J1a
 | _=>exact λ _ _ _ _ _ _ _ _ _ _ _ _ _ _ _ _ K=>(show False from K).elim
theorem Jze {ne:Str->Bool}(hu:X.A.units+64<cLine) (_:∀c,ne c=true->∃C,ce c=some C/\neIn X.K C=true) (op:CmpOp) (b:Expr):OpI ce X (compareOp op) (cmpD ne op b):=Jup hu op
theorem x_ixF (a:Expr):IxI ce X (ixD a):=x_ix
theorem o_un (op:UnaryOp):UnI ce X (unaryOp op) (unI op):=by
 cases op with
 | Not=>exact J11 Jn3
 | USub=>exact u_neg
 | _=>exact λ _ _ _ _ _ _ _ _ _ _ _ _ _ K=>(show False from K).elim
theorem Jet {o:Expr}{m:Str}{env:Env}{w:Sem Value}(h:Jeg o=true):attributeBase o m env w=w:=by
 cases o with
 | Call f as ks p =>
  cases f with
  | Name x q =>
   cases as with
   | nil =>
    cases ks with
    | nil=>cases h
    | cons _ _=>rfl
   | cons _ _=>rfl
  | _=>rfl
 | _=>rfl
theorem Jav {e:Expr}{env:Env}(h:Jrs e=true) (x:Value):foldedSetIterable e env x=pure x:=by
 cases e<;>first|rfl|cases h
theorem Jb9 {e:Expr}{t:Option Expr}{l:Nat}{env:Env}(h:Jeh e=true):swapsWith e t l env=pure false:=by
 cases e<;>first|rfl|cases h
theorem Jxf {i:Expr}(h:Juo i=true):Jsp i:=λ _ _=>by
 cases i<;>first|rfl|cases h
theorem Jm4 {o:Expr}{m:Str}{ap pos:Pos}{es:List Expr}{env:Env}(hb:Jeg o=true) (hs:es.all Ji=true) (hl:(ap.endLine==pos.line)=true) (hn:es.length<30) :
  eval (.Call (.Attribute o m ap) es [] pos) env=(do
   let ov<-eval o env
   standAt ap.atName
   let (f,first)<-holding [ov] (getMethod ov m (do return(<- importBound o env).getD true))
   callWith pos f first (backTo pos (starEach es env)) (backToKw pos (keywordEach [] env))):=by
 have hform:methodCallForm (es.length+([]:List Keyword).length) (backTo pos (starEach es env)) (backToKw pos (keywordEach [] env))=true:=by
  show((backTo pos (starEach es env)).all (λ x=>!x.1)&&true&&decide (es.length+0+0<30))=true
  rw[Jjq hs]
  simpa using hn
 have hpos:methodCallPos true o env ap pos=pure pos:=by unfold methodCallPos;simp[hl]
 rw[arm_eval_Call,Jet hb]
 unfold methodCall
 rw[hform,hpos]
 rfl
end
section
variable {ce:Str->Option Addr}{k:Nat}{P:Pg}{S:Sc}{X:Cx}
theorem Jmh (G:Good ce k P S X) (N0 l c:List Str) (js:List Nat) (sc:Scope):Jdd N0 l c js X.env.scope sc=Jdd N0 l c js S.fake sc:=by
 unfold Jdd
 rw[G.fk,G.sc]
 rfl
theorem Good.comp (G:Good ce k P S X){sc:Scope}(h:Jdd S.N (Jlb sc) (Jon sc) (jsOf S sc) S.fake sc=true) (C:Addr) (s:Shared) (H:Hp) (fp:List Addr):Good ce k P (S.comp sc) (cxC X (Jlb sc++Jon sc) sc C s H fp):=by
 simp only[Jdd,Bool.and_eq_true,decide_eq_true_eq] at h
 obtain⟨⟨⟨⟨⟨⟨⟨⟨⟨kF,kF0⟩,kNC⟩,kL⟩,kFr⟩,kFx⟩,kJ⟩,kLen⟩,kNd⟩,kLo⟩:=h
 refine⟨rfl,?_,kNd,kF,G.calm,G.room,λ z=>absurd z Bool.false_ne_true,G.pg,λ z=>absurd z Bool.false_ne_true,λ z=>absurd z Bool.false_ne_true,λ z=>absurd z Bool.false_ne_true⟩
 show(relabel sc X.env).names=_
 unfold relabel Sc.comp
 dsimp only
 refine List.map_congr_left λ x _=>?_
 obtain⟨n,kd⟩:=x
 dsimp only
 rw[G.fk,G.kind]
 simp
end
structure Snd (ce:Str->Option Addr) (k:Nat) (P:Pg) (n:Nat):Prop where
 e:∀S X e,Good ce k P S X->PEi ce X e (ev P n S e)
 t:∀S X e,Good ce k P S X->PTi ce X e (evT P n S e)
 o:∀S X e,Good ce k P S X->PPi ce X e (evO P n S e)
 c:∀S X x args p pos,Good ce k P S X->S.gl x=true->args.all Ji=true->PEi ce X (.Call (.Name x p) args [] pos) (Jtr P n S x args)
 i:∀S X tg e,Good ce k P S X->PIi ce X tg e (evI P n S tg e)
 g:∀S X e,Good ce k P S X->PGi ce X e (tgt P n S e)
section
variable {ce:Str->Option Addr}{k:Nat}{P:Pg}{n:Nat}{S:Sc}{X:Cx}
theorem Jyf:Snd ce k P 0:=⟨λ _ _ _ _=>Jb,λ _ _ _ _=>Jb,λ _ _ _ _=>Jb,λ _ _ _ _ _ _ _ _ _=>Jb,λ _ _ _ _ _=>Jgw,λ _ _ _ _=>Jih⟩
theorem Jou {prog:Program}{w:World}{K:W.Frag}{mg:Str->Option Value}{base:Heap}{f:Fn}{fa:Addr}{fd:FuncData}{ps:List Str}{m:Nat}{d:List IV}(D:FnD ce prog w K mg base k f fa fd ps) (h:f.fill m=some d) :
  ∃ds,Jfb K fd ps ds/\m+ds.length=ps.length/\∃vs,Vals vs ds/\∀ι H,RVs K ι H d vs:=by
 unfold Fn.fill at h
 split at h
 ·rename_i hz
  cases h
  obtain⟨ds,hb,hl,q⟩:=D.dv (f.dvs.length-(f.np-m)) (by omega)
  exact⟨ds,hb,by rw[hl,D.len];omega,q⟩
 ·cases h
theorem Jyb (G:Good ce k P S X){x:Str}{f:Fn}(hx:P.fn x=some f) (hg:S.gl x=true){args:List Expr}(ha:args.all Ji=true){g:Expr->E1}(hf:∀e,PEi ce X e (g e)){p pos:Pos} :
  PEi ce X (.Call (.Name x p) args [] pos) (Jp9 f args.length (aAll (args.map g))):=by
 obtain⟨fa,fd,ps,hm,hk,D⟩:=G.pg.fn x f hx
 obtain⟨gl,hdb,_⟩:=G.gl hg
 unfold Jp9
 cases hd:f.fill args.length with
 | none=>exact Jb
 | some d =>
  obtain⟨ds,hb,hl,q⟩:=Jou D hd
  have hr:Room k X.A:=G.room.mono (Nat.le_succ k)
  cases args with
  | nil=>exact J0o D.ok hr gl hm hk hb q (by simpa using hl) hdb
  | cons a es =>
   have ha':=ha
   simp only[List.all_cons,Bool.and_eq_true] at ha'
   refine J3e D.ok hr gl hm hk hb q (Jjz ha hf) (λ σ h xs h' e=>?_) hdb (Jd ha'.1) (Jez ha'.2)
   have:=Jic _ σ h xs h' e
   rw[List.length_map] at this
   rw[this]
   exact hl
theorem Jyc (G:Good ce k P S X){x:Str}{f:Fn}(hx:P.cls x=some f) (hg:S.gl x=true){args:List Expr}(ha:args.all Ji=true){g:Expr->E1}(hf:∀e,PEi ce X e (g e)){p pos:Pos} :
  PEi ce X (.Call (.Name x p) args [] pos) (Jqa x f args.length (aAll (args.map g))):=by
 obtain⟨C,fa,fd,ps,hm,hC,M,D⟩:=G.pg.cls x f hx
 obtain⟨gl,hdb,_⟩:=G.gl hg
 unfold Jqa
 cases hd:f.fill (args.length+1) with
 | none=>exact Jb
 | some d =>
  obtain⟨ds,hb,hl,q⟩:=Jou D hd
  cases args with
  | nil=>exact J0r M D.ok hC G.room gl hm hb q (by simp at hl;omega) hdb
  | cons a es =>
   have ha':=ha
   simp only[List.all_cons,Bool.and_eq_true] at ha'
   refine J3l M D.ok hC G.room gl hm hb q (Jjz ha hf) (λ σ h xs h' e=>?_) hdb (Jd ha'.1) (Jez ha'.2)
   have:=Jic _ σ h xs h' e
   rw[List.length_map] at this
   omega
theorem Jti (G:Good ce k P S X) (m:Str) (n:Nat):Jso ce X m n (Jot P m n):=by
 intro c f dvs h
 unfold Jot at h
 cases hm:P.meth c m with
 | none=>rw[hm] at h;cases h
 | some fn =>
  rw[hm] at h
  dsimp only at h
  cases hd:fn.fill (n+1) with
  | none=>rw[hd] at h;cases h
  | some d =>
   rw[hd] at h
   cases h
   obtain⟨C,fa,fd,ps,hC,hcl,hM,D⟩:=G.pg.meth c m fn hm
   obtain⟨ds,hb,hl,q⟩:=Jou D hd
   exact⟨C,fa,fd,k,ps,ds,hC,hcl,hM,D.ok,G.room.mono (Nat.le_succ k),hb,q,by omega⟩
theorem bm_ok {T:String}{m:Str}{n:Nat}{g:IV->List IV->IH->Res IV}(h:bmOf T m n=some g):∃id,PlainAttrs T/\Slot T m id/\typeOf (.builtin id)=pure (.type "method_descriptor")/\MtI ce X T id g:=by
 unfold bmOf at h
 split at h
 ·rename_i hm
  simp only[Bool.and_eq_true,beq_iff_eq] at hm
  obtain⟨⟨rfl,rfl⟩,_⟩:=hm
  cases h
  exact⟨_,PySem.F.plainAttrs_list,PySem.F.slot_list_append,PySem.F.type_list_append,Jxo⟩
 ·split at h
  ·rename_i hm
   simp only[Bool.and_eq_true,beq_iff_eq] at hm
   obtain⟨⟨rfl,rfl⟩,_⟩:=hm
   cases h
   exact⟨_,PySem.F.plainAttrs_list,PySem.F.slot_list_extend,PySem.F.type_list_extend,Jxp⟩
  ·split at h
   ·rename_i hm
    simp only[Bool.and_eq_true,beq_iff_eq] at hm
    obtain⟨⟨rfl,rfl⟩,_⟩:=hm
    cases h
    exact⟨_,PySem.F.plainAttrs_dict,PySem.F.slot_dict_setdefault,PySem.F.type_dict_setdefault,Jxq⟩
   ·cases h
theorem J46 {o:Expr}{m:Str}{mo:E1}{args:List Expr}{f:Expr->E1}{ap pos:Pos}{T:String}{g:IV->List IV->IH->Res IV}{n:Nat}(hg:bmOf T m n=some g) (ho:PEi ce X o mo) (hf:∀e,PEi ce X e (f e)) (ha:args.all Ji=true) (hb:Jeg o=true) (hl:(ap.endLine==pos.line)=true) (hn:args.length<30) :
  PEi ce X (.Call (.Attribute o m ap) args [] pos) (eBm T g mo (aAll (args.map f))):=by
 obtain⟨id,pa,sl,ty,mt⟩:=bm_ok (ce:=ce) (X:=X) hg
 cases args with
 | nil=>exact i_bm0 pa sl ty mt ho (Jet hb) hl
 | cons a es =>
  have ha':=ha
  simp only[List.all_cons,Bool.and_eq_true] at ha'
  exact i_bm pa sl ty mt ho (Jjz ha hf) (Jet hb) (J0n ha hn) hl (Jd ha'.1) (Jez ha'.2)
theorem J1w (G:Good ce k P S X){o:Expr}{m:Str}{mo:E1}{args:List Expr}{f:Expr->E1}{ap pos:Pos}(ho:PEi ce X o mo) (hf:∀e,PEi ce X e (f e)) (ha:args.all Ji=true) (hb:Jeg o=true) (hl:(ap.endLine==pos.line)=true) (hn:args.length<30) :
  PEi ce X (.Call (.Attribute o m ap) args [] pos) (eDot P m args.length mo (aAll (args.map f))):=by
 refine px_pt λ σi h=>?_
 unfold eDot
 cases e:mo σi h with
 | exc n h1=>exact⟨λ _ _=>.stuck,rfl,Jb⟩
 | stuck=>exact⟨λ _ _=>.stuck,rfl,Jb⟩
 | ok v h1 =>
  dsimp only
  split
  ·refine⟨_,rfl,?_⟩
   cases args with
   | nil=>exact J0s ho (Jti G m 0) (Jm4 hb ha hl hn)
   | cons a es =>
    have ha':=ha
    simp only[List.all_cons,Bool.and_eq_true] at ha'
    refine J3n ho (Jti G m (a::es).length) (Jjz ha hf) (λ σ h xs h' e=>?_) (Jd ha'.1) (Jez ha'.2) (Jm4 hb ha hl hn)
    have:=Jic _ σ h xs h' e
    rwa [List.length_map] at this
  ·cases hg:bmOf (tyS v h1) m args.length with
   | none=>exact⟨λ _ _=>.stuck,rfl,Jb⟩
   | some g=>exact⟨_,rfl,J46 hg ho hf ha hb hl hn⟩
theorem J1x (G:Good ce k P S X){a:Expr}{ma:E1}{y:Str}{p p2 pos:Pos}(ha:PEi ce X a ma) (hs:Ji a=true) (hg:S.gl "isinstance"=true) (hfr:P.free "isinstance"=true) (hy:S.gl y=true) :
  PEi ce X (.Call (.Name "isinstance" p) [a,.Name y p2] [] pos) (J0d (Jwi P y) ma):=by
 unfold J0d
 cases e:Jwi P y with
 | none=>exact Jb
 | some ans =>
  obtain⟨gy,ydb,yn⟩:=G.gl hy
  have fin:∀{c:Value},ClsE X (.Name y p2) c->IsOk ce X.K c ans->PEi ce X (.Call (.Name "isinstance" p) [a,.Name y p2] [] pos) (eIsi ans ma):=λ hc O =>
   J3j hc O ha (G.gl hg).1 (G.pg.free _ hfr) rfl (Jd hs) rfl rfl
  unfold Jwi at e
  cases hi:P.isa y with
  | some g =>
   rw[hi] at e
   cases e
   obtain⟨c,hm,O⟩:=G.pg.isa y g hi
   exact fin (Jop gy hm ydb) O
  | none =>
   rw[hi] at e
   dsimp only at e
   split at e
   ·rename_i hf
    have hm:=G.pg.free y hf
    split at e
    ·rename_i q;cases (beq_iff_eq.mp q);cases e;exact fin (Jfi gy hm rfl yn ydb) Jw8
    ·split at e
     ·rename_i q;cases (beq_iff_eq.mp q);cases e;exact fin (Jfi gy hm rfl yn ydb) Jt9
     ·split at e
      ·rename_i q;cases (beq_iff_eq.mp q);cases e;exact fin (Jfi gy hm rfl yn ydb) Jw9
      ·split at e
       ·rename_i q
        cases (beq_iff_eq.mp q)
        cases e
        refine fin (Jfi gy hm rfl yn ydb) ?_
        split
        ·rename_i q
         refine Jri λ C hC=>?_
         obtain⟨C',h1,_,h2⟩:=G.pg.ne _ q
         cases hC.symm.trans h1
         exact h2
        ·exact Jm0
       ·split at e
        ·rename_i q;cases (beq_iff_eq.mp q);cases e;exact fin (Jfi gy hm rfl yn ydb) Jxa
        ·cases e
   ·cases e
theorem Jx9 (G:Good ce k P S X){a:Expr}{ma:E1}{x:Str}{p pos:Pos}(ha:PEi ce X a ma) (hs:Ji a=true) (hg:S.gl x=true) (hfr:P.free x=true) (hx:Jt7 x=true) :
  PEi ce X (.Call (.Name x p) [a] [] pos) (eCB (bltF x) (Ja ma aNil)):=by
 obtain⟨gx,xdb,xn⟩:=G.gl hg
 have hm:=G.pg.free x hfr
 have hh:=G.room.hd
 have pa:PAi ce X [a] (Ja ma aNil):=Jdl ha Jj0 (Jd hs)
 unfold Jt7 at hx
 simp only[Bool.or_eq_true,beq_iff_eq] at hx
 rcases hx with(rfl|rfl)|rfl
 ·exact Jjb c_len gx hm rfl pa xn xdb (Jd hs) rfl
 ·exact Jjb (c_all hh) gx hm rfl pa xn xdb (Jd hs) rfl
 ·exact Jjb (c_sum hh) gx hm rfl pa xn xdb (Jd hs) rfl
theorem Jya (G:Good ce k P S X){a:Expr}{ma:E1}{x:Str}{p pos:Pos}(ha:PEi ce X a ma) (hs:Ji a=true) (hg:S.gl x=true) (hfr:P.free x=true) (hx:Jt8 x=true) :
  PEi ce X (.Call (.Name x p) [a] [] pos) (eCB (bltT x) (Ja ma aNil)):=by
 obtain⟨gx,xdb,xn⟩:=G.gl hg
 have hm:=G.pg.free x hfr
 have pa:PAi ce X [a] (Ja ma aNil):=Jdl ha Jj0 (Jd hs)
 unfold Jt8 at hx
 simp only[Bool.or_eq_true,beq_iff_eq] at hx
 rcases hx with rfl|rfl
 ·exact Jt2 J2z gx hm rfl pa xn xdb (Jd hs) rfl
 ·exact Jt2 Jz6 gx hm rfl pa xn xdb (Jd hs) rfl
theorem Ju5 (G:Good ce k P S X){f:Expr->E1}(hf:∀e,PEi ce X e (f e)){x:Str}{args:List Expr}{p pos:Pos}(hg:S.gl x=true) (ha:args.all Ji=true) (hfr:P.free x=true) :
  PEi ce X (.Call (.Name x p) args [] pos) (Jom P S x f args):=by
 unfold Jom
 split
 ·rename_i a b
  simp only[List.all_cons,Bool.and_eq_true] at ha
  obtain⟨gx,xdb,xn⟩:=G.gl hg
  have hm:=G.pg.free x hfr
  have pa:PAi ce X [a,b] (Ja (f a) (Ja (f b) aNil)):=Jdl (hf a) (Jdl (hf b) Jj0 (Jd ha.2.1)) (Jd ha.1)
  have h1:∀pos,(backTo pos (starEach [b] X.env)).any (·.1)=false:=λ pos=>Jez (by simp[ha.2.1])
  split
  ·rename_i hs
   cases (beq_iff_eq.mp hs)
   exact Jjb (c_max G.calm) gx hm rfl pa xn xdb (Jd ha.1) (h1 _)
  ·split
   ·rename_i hs
    cases (beq_iff_eq.mp hs)
    exact Jb
   ·split
    ·rename_i y p2 _
     split
     ·rename_i hs
      simp only[Bool.and_eq_true,beq_iff_eq] at hs
      obtain⟨rfl,hy⟩:=hs
      exact J1x G (hf a) ha.1 hg hfr hy
     ·exact Jb
    ·exact Jb
 ·rename_i a
  simp only[List.all_cons,Bool.and_eq_true] at ha
  split
  ·rename_i e he
   split at he
   ·rename_i hc
    simp only[Bool.and_eq_true,beq_iff_eq] at hc
    obtain⟨⟨rfl,g2⟩,f2⟩:=hc
    unfold Jqn at he
    split at he
    ·split at he
     ·rename_i hq
      simp only[Bool.and_eq_true,beq_iff_eq] at hq
      obtain⟨rfl,ns⟩:=hq
      cases he
      exact Jw6 G.room.hd (G.gl hg).1 (G.pg.free _ hfr) (G.gl g2).1 (G.pg.free _ f2) (Jdl (hf e) Jj0 (Jd ns)) (Jd ns)
     ·cases he
    ·cases he
   ·cases he
  ·split
   ·rename_i e he
    split at he
    ·rename_i hc
     simp only[Bool.and_eq_true,beq_iff_eq] at hc
     obtain⟨⟨rfl,g2⟩,f2⟩:=hc
     unfold Jzh at he
     split at he
     ·split at he
      ·rename_i hq
       simp only[Bool.and_eq_true,beq_iff_eq] at hq
       obtain⟨rfl,ns⟩:=hq
       cases he
       exact Jb
      ·cases he
     ·cases he
    ·cases he
   ·split
    ·rename_i hq
     simp only[Bool.and_eq_true,beq_iff_eq] at hq
     obtain⟨rfl,_⟩:=hq
     exact Jjb J2y (G.gl hg).1 (G.pg.free _ hfr) rfl (Jdl (hf a) Jj0 (Jd ha.1)) (by decide) rfl (Jd ha.1) rfl
    split
    ·rename_i hb
     exact Jx9 G (hf a) ha.1 hg hfr hb
    ·split
     ·rename_i hb
      exact Jya G (hf a) ha.1 hg hfr hb
     ·exact Jb
 ·exact Jb
theorem Jse (G:Good ce k P S X){f:Expr->E1}(hf:∀e,PEi ce X e (f e)){x:Str}{args:List Expr}{p pos:Pos}(hg:S.gl x=true) (ha:args.all Ji=true) (hfr:P.free x=true) :
  PEi ce X (.Call (.Name x p) args [] pos) (Jid P S x f args):=by
 unfold Jid
 split
 ·rename_i e he
  split at he
  ·rename_i hc
   simp only[Bool.and_eq_true,beq_iff_eq] at hc
   obtain⟨⟨rfl,g2⟩,f2⟩:=hc
   unfold Ju1 at he
   split at he
   ·unfold Jqn at he
    split at he
    ·split at he
     ·rename_i hq
      simp only[Bool.and_eq_true,beq_iff_eq] at hq
      obtain⟨rfl,ns⟩:=hq
      cases he
      exact Jt4 G.room.hd (G.gl hg).1 (G.pg.free _ hfr) (G.gl g2).1 (G.pg.free _ f2) (Jdl (hf e) Jj0 (Jd ns)) (Jd ns)
     ·cases he
    ·cases he
   ·cases he
  ·cases he
 ·exact Ju5 G hf hg ha hfr
theorem J47 (G:Good ce k P S X){f:Sc->Expr->E1}(hf:∀S X e,Good ce k P S X->PEi ce X e (f S e)){x:Str}{args:List Expr}{kws:List Keyword}{p pos:Pos}:PEi ce X (.Call (.Name x p) args kws pos) (Jud P S f x args kws):=by
 unfold Jud
 split
 ·split
  ·rename_i hq
   simp only[Bool.and_eq_true,beq_iff_eq] at hq
   obtain⟨⟨⟨⟨rfl,rfl⟩,g1⟩,f1⟩,ns⟩:=hq
   exact J3m G.room.hd (G.gl g1).1 (G.pg.free _ f1) (Jdl (hf _ _ _ G) Jj0 (Jd ns)) (hf _ _ _ G) (Jd ns)
  ·exact Jb
 ·exact Jb
theorem Jye (ih:Snd ce k P n):Snd ce k P (n+1):=by
 refine⟨λ S X e G=>?_,λ S X e G=>?_,λ S X e G=>?_,λ S X x args p pos G hg ha=>?_,λ S X tg e G=>?_,λ S X e G=>?_⟩
 ·have ihe:=λ e=>ih.e S X e G
  have hu:=G.room.units
  cases e with
  | Constant c j p =>
   cases c with
   | int i=>exact J3i
   | bool b=>exact i_bl
   | none=>exact J3o
   | str x=>exact J3q
   | _=>exact Jb
  | Name x p =>
   show PEi ce X (.Name x p) (match S.vis x with|some i=>eVar i|none=>if S.gl x then(match P.con x with|some v=>eC v|none=>stE) else stE)
   cases hv:S.vis x with
   | some i =>
    obtain⟨h1,h2,h3,h4⟩:=G.vis hv
    exact J3s i h1 h2 h3 h4
   | none =>
    dsimp only
    split
    ·rename_i hg
     obtain⟨gx,xdb,_⟩:=G.gl hg
     cases hc:P.con x with
     | none=>exact Jb
     | some v =>
      obtain⟨u,y,hm,r,q⟩:=G.pg.con x v hc
      exact J3h gx hm r q xdb
    ·exact Jb
  | BinOp a op b p=>exact i_bin (o_bin op) (ihe a) (ihe b)
  | UnaryOp op a p=>exact i_un (o_un op) (ihe a)
  | BoolOp op vs p =>
   cases op with
   | And=>exact Jyz ihe vs
   | Or=>exact J26 ihe vs
  | IfExp t a b p=>exact J0q (ih.t S X t G) (ihe a) (ihe b)
  | Compare a ops cs p =>
   match ops,cs with
   | [o],[b] =>
    show PEi ce X _ (if behindInMarks o b then stE else eBin (cmpD P.ne o b) (ev P n S a) (ev P n S b))
    split
    ·exact Jb
    ·rename_i hb
     exact i_cmp (Jze hu (λ c z=>let ⟨C,p,q,_⟩:=G.pg.ne c z;⟨C,p,q⟩) o b) (ihe a) (ihe b) (Bool.eq_false_iff.mpr hb)
   | [o,o'],[b,c] =>
    show PEi ce X _ (if lastMarks [o,o'] [b,c] then stE else Jd9 (cmpI o) (cmpI o') (ev P n S a) (ev P n S b) (ev P n S c))
    split
    ·exact Jb
    ·rename_i hb
     exact J0p (Jup hu o) (Jup hu o') (ihe a) (ihe b) (ihe c) (Bool.eq_false_iff.mpr hb)
   | [],_=>exact Jb
   | [_],[]=>exact Jb
   | [_],_::_::_=>exact Jb
   | [_,_],[]=>exact Jb
   | [_,_],[_]=>exact Jb
   | [_,_],_::_::_::_=>exact Jb
   | _::_::_::_,_=>exact Jb
  | Tuple es j p =>
   show PEi ce X _ (if es.all Ji then eTup (aAll (es.map (ev P n S))) else stE)
   split
   ·rename_i hs
    exact J3r (Jjz hs ihe)
   ·exact Jb
  | List es p =>
   show PEi ce X _ (if es.all Ji then eLst (aAll (es.map (ev P n S))) else stE)
   split
   ·rename_i hs
    exact J3k (Jjz hs ihe)
   ·exact Jb
  | Dict ks vs p =>
   match ks,vs with
   | [some k],[v]=>exact Jb
   | [],[]=>exact J3f
   | [],_::_=>exact Jb
   | [none],_=>exact Jb
   | [some _],[]=>exact Jb
   | [some _],_::_::_=>exact Jb
   | some _::_::_,_=>exact Jb
   | none::_::_,_=>exact Jb
  | Subscript a i p =>
   cases i with
   | Slice lo hi st q =>
    cases st with
    | none=>exact J0t x_sl (ihe a) (ih.o S X lo G) (ih.o S X hi G)
    | some st=>exact Jb
   | _=>exact i_ix (x_ixF a) (ihe a) (ihe _) (Jxf rfl)
  | Attribute o f p =>
   show PEi ce X _ (if Jeg o&&P.fld f then eFld f (ev P n S o) else stE)
   split
   ·rename_i hs
    simp only[Bool.and_eq_true] at hs
    exact i_fld (ihe o) (G.pg.fld f hs.2) (Jet hs.1)
   ·exact Jb
  | Call f args kws p =>
   cases kws with
   | cons kw kws =>
    cases f with
    | Name x q=>exact J47 G λ S X e G=>ih.e S X e G
    | _=>exact Jb
   | nil =>
    cases f with
    | Name x q =>
     show PEi ce X _ (if S.gl x&&args.all Ji then Jtr P n S x args else stE)
     split
     ·rename_i hs
      simp only[Bool.and_eq_true] at hs
      exact ih.c S X x args q p G hs.1 hs.2
     ·exact Jb
    | Attribute o m ap =>
     show PEi ce X _ (if args.all Ji&&Jeg o&&(ap.endLine==p.line)&&decide (args.length<30) then eDot P m args.length (ev P n S o) (aAll (args.map (ev P n S))) else stE)
     split
     ·rename_i hs
      simp only[Bool.and_eq_true,decide_eq_true_eq] at hs
      exact J1w G (ihe o) ihe hs.1.1.1 hs.1.1.2 hs.1.2 hs.2
     ·exact Jb
    | _=>exact Jb
  | ListComp elt gens sc p =>
   match gens with
   | [⟨tg,iter,ifs,as⟩] =>
    show PEi ce X _ (if as=0/\Jrs iter=true/\Jdd S.N (Jlb sc) (Jon sc) (jsOf S sc) S.fake sc=true then
     Jta ifs (evT P n (S.comp sc)) (λ mt=>Jaa (evI P n S tg iter) (Jlb sc).length (jsOf S sc) (tgt P n (S.comp sc) tg) mt (ev P n (S.comp sc) elt)) else stE)
    split
    ·rename_i hs
     obtain⟨rfl,hi,ok⟩:=hs
     have Gc:=G.comp ok
     have ok':=ok
     rw[<- Jmh G] at ok'
     match ifs with
     | []=>exact Jy6 G.calm (ih.i S X tg iter G) (λ C s H fp=>ih.g _ _ tg (Gc C s H fp)) (λ C s H fp=>Jzp) (λ C s H fp=>ih.e _ _ elt (Gc C s H fp)) ok' G.n rfl (Jav hi)
     | [c]=>exact Jy6 G.calm (ih.i S X tg iter G) (λ C s H fp=>ih.g _ _ tg (Gc C s H fp)) (λ C s H fp=>Jzq (ih.t _ _ c (Gc C s H fp))) (λ C s H fp=>ih.e _ _ elt (Gc C s H fp)) ok' G.n rfl (Jav hi)
     | _::_::_=>exact Jb
    ·exact Jb
   | []=>exact Jb
   | ⟨_,_,_,_⟩::_::_=>exact Jb
  | _=>exact Jb
 ·have ihe:=λ e=>ih.e S X e G
  have hu:=G.room.units
  cases e with
  | UnaryOp op a p =>
   cases op with
   | Not=>exact t_not (ih.t S X a G)
   | _=>exact J49 Jn3 (ihe _)
  | BoolOp op vs p =>
   cases op with
   | And=>exact(Jzm (λ e=>ih.t S X e G) vs).t
   | Or=>exact(J48 (λ e=>ih.t S X e G) vs).t
  | IfExp t a b p=>exact Jb
  | Compare a ops cs p =>
   match ops,cs with
   | [o],[b] =>
    show PTi ce X _ (if behindInMarks o b then stT else tOfB asB (eBin (cmpD P.ne o b) (ev P n S a) (ev P n S b)))
    split
    ·exact Jb
    ·rename_i hb
     exact t_cmp (Jze hu (λ c z=>let ⟨C,p,q,_⟩:=G.pg.ne c z;⟨C,p,q⟩) o b) (ihe a) (ihe b) (Bool.eq_false_iff.mpr hb)
   | [o,o'],[b,c] =>
    show PTi ce X _ (if lastMarks [o,o'] [b,c] then stT else tOfB asB (Jd9 (cmpI o) (cmpI o') (ev P n S a) (ev P n S b) (ev P n S c)))
    split
    ·exact Jb
    ·rename_i hb
     exact J1z (Jup hu o) (Jup hu o') (ihe a) (ihe b) (ihe c) (Bool.eq_false_iff.mpr hb)
   | [],_=>exact Jb
   | [_],[]=>exact Jb
   | [_],_::_::_=>exact Jb
   | [_,_],[]=>exact Jb
   | [_,_],[_]=>exact Jb
   | [_,_],_::_::_::_=>exact Jb
   | _::_::_::_,_=>exact Jb
  | _=>exact J49 Jn3 (ihe _)
 ·cases e with
  | none=>exact J4m
  | some e=>exact J4n (ih.e S X e G)
 ·have ihe:=λ e=>ih.e S X e G
  show PEi ce X _ (match P.fn x with
  | some f=>Jp9 f args.length (aAll (args.map (ev P n S)))
  | none=>match P.cls x with
   | some f=>Jqa x f args.length (aAll (args.map (ev P n S)))
   | none=>if P.free x then Jid P S x (ev P n S) args else stE)
  cases hx:P.fn x with
  | some f=>exact Jyb G hx hg ha ihe
  | none =>
   dsimp only
   cases hc:P.cls x with
   | some f=>exact Jyc G hc hg ha ihe
   | none =>
    dsimp only
    split
    ·rename_i hfr
     exact Jse G ihe hg ha hfr
    ·exact Jb
 ·have ihe:=λ e=>ih.e S X e G
  cases e with
  | Call f args kws p =>
   cases kws with
   | cons _ _=>cases f<;>exact Jw5 (ihe _)
   | nil =>
    cases f with
    | Name x q =>
     show PIi ce X tg _ (if S.gl x&&P.free x&&args.all Ji&&(x=="range") then J3d args.length (aAll (args.map (ev P n S)))
      else if S.gl x&&P.free x&&args.all Ji&&(x=="enumerate") then(match tg,args with
       | .Tuple ..,[a]=>iRg Je9 (Ja (ev P n S a) aNil)
       | _,_=>stI)
      else iAny (ev P n S (.Call (.Name x q) args [] p)))
     split
     ·rename_i hs
      simp only[Bool.and_eq_true,beq_iff_eq] at hs
      obtain⟨⟨⟨hg,hf⟩,ha⟩,rfl⟩:=hs
      obtain⟨gx,_,_⟩:=G.gl hg
      have hm:=G.pg.free _ hf
      have pa:=Jjz ha ihe
      match args,ha,pa with
      | [],_,_=>exact Jgw
      | [a],ha,pa =>
       simp only[List.all_cons,Bool.and_eq_true] at ha
       exact Jw7 gx hm pa (Jd ha.1)
      | [a,b],ha,pa =>
       simp only[List.all_cons,Bool.and_eq_true] at ha
       exact Jgw
      | _::_::_::_,_,_=>exact Jgw
     ·split
      ·rename_i hs
       simp only[Bool.and_eq_true,beq_iff_eq] at hs
       obtain⟨⟨⟨hg,hf⟩,ha⟩,rfl⟩:=hs
       obtain⟨gx,_,_⟩:=G.gl hg
       have hm:=G.pg.free _ hf
       split
       ·simp only[List.all_cons,Bool.and_eq_true] at ha
        exact J3g gx hm (Jdl (ihe _) Jj0 (Jd ha.1)) (Jd ha.1)
       ·exact Jgw
      ·exact Jw5 (ihe _)
    | _=>exact Jw5 (ihe _)
  | _=>exact Jw5 (ihe _)
 ·cases e with
  | Name x p =>
   show PGi ce X _ (match S.sto x with|some i=>gNm i|none=>stG)
   cases hv:S.sto x with
   | none=>exact Jih
   | some i =>
    obtain⟨h1,h2,h3⟩:=G.sto hv
    exact g_nm G.nodup h1 h2 h3
  | Tuple es j p =>
   show PGi ce X _ (if es.all Ji then gTp es.length (gAll (es.map (tgt P n S))) else stG)
   split
   ·rename_i hs
    exact g_tup G.calm (Jy4 hs λ e=>ih.g S X e G) (Jyu hs) (Jsu hs)
   ·exact Jih
  | _=>exact Jih
theorem Jlr (ce:Str->Option Addr) (k:Nat) (P:Pg):∀n,Snd ce k P n
 | 0=>Jyf
 | n+1=>Jye (Jlr ce k P n)
end
section
variable {ce:Str->Option Addr}{X:Cx}{pos:Pos}
theorem J1q {c:Expr}{body:List Stmt}{mt:T1}{mb:S1}(hc:PTi ce X c mt) (hb:PS2 ce X body mb):PS1 ce X (.While c body [] pos) (Jjm mt mb):=by
 intro pins s σ H ι σi h Q E N K
 unfold Jjm at K
 generalize Jyj=m0 at K
 refine wpAny_While (codeAny_whileLoop (λ n s'=>∃ιk σk hk σ' H',Now ce X pins ιk σk hk σ' H' s'/\Nxt ι H ιk H'/\Jal ce X pins ιk H' (Jg1 mt mb n σk hk) Q E) ?_ m0 ⟨ι,σi,h,σ,H,N,.refl,K⟩)
 rintro n s1 ⟨ι1,σ1i,h1,σ1,H1,N1,n1,K1⟩
 cases n with
 | zero=>exact Zf K1
 | succ n =>
  unfold Jg1 at K1
  refine nof (hc pins s1 σ1 H1 ι1 σ1i h1 _ (λ _ _=>False) N1 ?_)
  cases et:mt σ1i h1 with
  | exc m h2=>rw[et] at K1;exact Zf K1
  | stuck=>rw[et] at K1;exact Zf K1
  | ok b h2 =>
   rw[et] at K1
   intro b' s2 H2 ι2 N2 n2 r2
   have r':b'=b:=r2
   subst r'
   dsimp only at K1
   cases b' with
   | false=>exact wpAny_execs_nil (K1 s2 σ1 H2 ι2 N2 n2)
   | true =>
    rw[if_pos rfl]
    rw[if_pos rfl] at K1
    refine nof (hb pins s2 σ1 H2 ι2 σ1i h2 _ (λ _ _=>False) N2 ?_)
    cases eb:mb σ1i h2 with
    | next σ3 h3 =>
     rw[eb] at K1
     exact λ s3 σ3' H3 ι3 N3 n3=>⟨n,Nat.lt_succ_self n,ι3,σ3,h3,σ3',H3,N3,(n1.trans n2).trans n3,Jal.mono (r:=Jg1 mt mb n σ3 h3) K1 (n2.trans n3)⟩
    | cont σ3 h3 =>
     rw[eb] at K1
     exact λ s3 σ3' H3 ι3 N3 n3=>⟨n,Nat.lt_succ_self n,ι3,σ3,h3,σ3',H3,N3,(n1.trans n2).trans n3,Jal.mono (r:=Jg1 mt mb n σ3 h3) K1 (n2.trans n3)⟩
    | brk σ3 h3 =>
     rw[eb] at K1
     exact λ s3 σ3' H3 ι3 N3 n3=>K1 s3 σ3' H3 ι3 N3 (n2.trans n3)
    | ret v h3 =>
     rw[eb] at K1
     exact λ u s3 σ3i σ3' H3 ι3 N3 n3 r=>K1 u s3 σ3i σ3' H3 ι3 N3 (n2.trans n3) r
    | exc m σ3 h3=>rw[eb] at K1;exact Zf K1
    | stuck=>rw[eb] at K1;exact Zf K1
end
section
variable {ce:Str->Option Addr}{k:Nat}{P:Pg}{n:Nat}{S:Sc}{X:Cx}
theorem Jh2 {f:Stmt->S1}(hf:∀s,PS1 ce X s (f s)):∀(l:List Stmt),PS2 ce X l (sAll (l.map f))
 | []=>J4w
 | [a]=>J4x (hf a)
 | a::b::r=>J1k (hf a) (Jh2 hf (b::r))
end
section
variable {ce:Str->Option Addr}{k:Nat}{P:Pg}{S:Sc}{X:Cx}{xi:Xi}{xf:Str->Str->Bool}{fr:Str->Bool}
theorem Jw2 (G:Good ce k P S X) (O:XiOk X.K X.mg xi xf) (hi:∀x,fr x=true->X.mg x=none) (a:Addr){f:Expr}{as:List Expr}{ks:List Keyword}{p:Pos}{m:Expr->E1}(hm:∀e,PEi ce (Js X a) e (m e)):PEi ce (Js X a) (.Call f as ks p) (J0l S xi fr f as ks p m):=by
 unfold J0l
 split
 ·rename_i x q b D q2
  split
  ·rename_i h
   simp only[Bool.and_eq_true,beq_iff_eq] at h
   obtain⟨⟨⟨⟨rfl,h0⟩,h1⟩,h2⟩,h3⟩:=h
   cases hx:xi D with
   | none=>exact Jb
   | some g =>
    obtain⟨v,hv,hg⟩:=O.1 D g hx
    obtain⟨gD,db,nn⟩:=G.gl h2
    have hc:ClsE (Js X a) (.Name D q2) v:=by
     rcases hv with z|⟨z,w⟩
     ·exact Jop (X:=Js X a) gD z db
     ·exact Jfi (X:=Js X a) gD z w nn db
    refine J3j (X:=Js X a) (c:=v) hc ⟨nofun,nofun,nofun,nofun,nofun,nofun,nofun,nofun,λ c C b e hC=>?_⟩ (hm b) (G.gl h1).1 (hi _ h0) rfl (Jd h3) rfl rfl
    obtain⟨e1,e2,_⟩:=hg c C b e hC
    exact⟨e1,e2⟩
  ·exact Jb
 ·exact Jb
theorem J3b (a:Addr):∀(n:Nat) (w:Bool) (S:Sc) (X:Cx),Good ce k P S X->XiOk X.K X.mg xi xf->(∀x,fr x=true->X.mg x=none)->(w=true->Warm (Js X a).A X.H₀)->∀e,PEi ce (Js X a) e (hv xi xf fr n w S e)
 | 0,_,_,_,_,_,_,_,_=>Jb
 | n+1,w,S,X,G,O,hi,hw,e=>by
  have ihe:=J3b a n w S X G O hi hw
  have hu:(Js X a).A.units+64<cLine:=G.room.units
  cases e with
  | Constant c j p =>
   cases c with
   | int i=>exact J3i
   | bool b=>exact i_bl
   | none=>exact J3o
   | str x=>exact J3q
   | _=>exact Jb
  | Name x p =>
   show PEi ce (Js X a) (.Name x p) (match S.vis x with|some i=>eVar i|none=>stE)
   cases hv:S.vis x with
   | some i =>
    obtain⟨h1,h2,h3,h4⟩:=G.vis hv
    exact J3s (X:=Js X a) i h1 h2 h3 h4
   | none=>exact Jb
  | Tuple es j p =>
   show PEi ce (Js X a) _ (if es.all Ji then eTup (aAll (es.map (hv xi xf fr n w S))) else stE)
   split
   ·rename_i hs
    exact J3r (Jjz hs ihe)
   ·exact Jb
  | List es p =>
   show PEi ce (Js X a) _ (if es.all Ji then eLst (aAll (es.map (hv xi xf fr n w S))) else stE)
   split
   ·rename_i hs
    exact J3k (Jjz hs ihe)
   ·exact Jb
  | Call f as ks p =>
   exact Jw2 G O hi a ihe
  | _=>exact Jb
theorem J3c (G:Good ce k P S X) (O:XiOk X.K X.mg xi xf) (hi:∀x,fr x=true->X.mg x=none) (a:Addr){w:Bool}(hw:w=true->Warm (Js X a).A X.H₀):∀n st,PS1 ce (Js X a) st (hx xi xf fr w S n st)
 | 0,_=>Jj
 | n+1,st=>by
  have ih:=J3c G O hi a hw n
  have ihe:=J3b a n w S X G O hi hw
  cases st with
  | Pass p=>exact Jzk
  | Return v p =>
   cases v with
   | none=>exact Jj
   | some e=>exact J41 (ihe e)
  | Assign tgs e p =>
   match tgs with
   | []=>exact Jj
   | b::_::_=>cases b<;>exact Jj
   | [tg] =>
    cases tg with
    | Name x q =>
     show PS1 ce (Js X a) _ (if Jeh e then(match S.sto x with|some i=>sSet i (hv xi xf fr n w S e)|none=>stS) else stS)
     split
     ·rename_i h
      cases hv:S.sto x with
      | none=>exact Jj
      | some i =>
       obtain⟨h1,h2,h3⟩:=G.sto hv
       exact J1p (X:=Js X a) G.nodup (ihe e) h1 h2 (Jb9 h) h3
     ·exact Jj
    | _=>exact Jj
  | _=>exact Jj
theorem Jtx (G:Good ce k P S X) (ho:S.own=true) (n:Nat) (a:Addr) (sl:Option Nat) (suite:List Stmt):PSH ce X a sl suite (Jy5 P S n sl suite):=by
 exact(Jh2 (J3c G G.pg.xi G.pg.free a (λ z=>by cases z) n) _).h
theorem hTest (G:Good ce k P S X) (O:XiOk X.K X.mg xi xf){D:Str}{g:Str->Option Bool}{q:Pos}(hx:xi D=some g) (h2:S.gl D=true) (a:Addr) (c:Str) (C:Addr) (b:Bool) (pins:List (Addr×Obj)) (σ:L2.St) (H:Hp) (s:Shared) (Q:Bool->Shared->Prop) (E:Value->Shared->Prop) (hb:g c=some b)
  (hC:W.nsIn X.K mainGlobals c=some (some (.ref C))) (I:Inv (Js X a) pins σ H s) (ho:∃oe,s.heap.get? a=some oe/\oe.cls=.ref C) (hq:Q b s):wpAny (model X.prog X.w) (Js X a).A (eval (.Name D q) X.env) (λ v s₁=>wpAny (model X.prog X.w) (Js X a).A (excMatches (.ref a) v) Q E s₁) E s:=by
 obtain⟨v,hv,hg⟩:=O.1 D g hx
 obtain⟨gD,db,nn⟩:=G.gl h2
 have hc:ClsE (Js X a) (.Name D q) v:=by
  rcases hv with z|⟨z,w⟩
  ·exact Jop (X:=Js X a) gD z db
  ·exact Jfi (X:=Js X a) gD z w nn db
 refine hc pins σ H s _ E I ?_
 obtain⟨_,_,e3⟩:=hg c C b hb hC
 obtain⟨oe,h1,h2⟩:=ho
 obtain⟨hh,gg,d,tk,os⟩:=s
 have LT:W.Looks (model X.prog X.w) hh (typeOf (.ref a)) (.ref C):=h2▸(W.Looks.ld h1).andThen .now
 exact(W.exm_one (I.kIn:X.K.In hh) LT e3).at hq
theorem Jtu (G:Good ce k P S X) (ho:S.own=true){n:Nat}:∀{l:List ExceptHandler}{ms:List HdI},hHds P S n l=some ms->HdsOk ce X l ms
 | [],ms,e=>by cases e;exact .nil
 | h::r,ms,e=>by
  unfold hHds at e
  cases e1:hHd P S n h with
  | none=>rw[e1] at e;cases e
  | some q =>
   cases e2:hHds P S n r with
   | none=>rw[e1,e2] at e;cases e
   | some l =>
    rw[e1,e2] at e
    cases e
    unfold hHd at e1
    split at e1
    ·rename_i D q2 nm b suite pos
     split at e1
     ·rename_i hD
      cases e3:P.xi D with
      | none=>rw[e3] at e1;cases e1
      | some g =>
       cases e4:hSl S nm with
       | none=>rw[e3,e4] at e1;cases e1
       | some sl =>
        rw[e3,e4] at e1
        cases e1
        refine .cons ⟨λ a c C b pins σ H s Q E hb hC I ho hq=>hTest G G.pg.xi e3 hD a c C b pins σ H s Q E hb hC I ho hq,?_,λ a=>Jtx G ho n a sl _⟩ (Jtu G ho e2)
        unfold hSl at e4
        cases nm with
        | none=>cases e4;exact .inl ⟨rfl,rfl⟩
        | some x =>
         dsimp only at e4
         split at e4
         ·rename_i hl
          obtain⟨i,hi',rfl⟩:=Option.map_eq_some_iff.mp e4
          refine .inr ⟨x,i,rfl,rfl,by rw[G.n];exact Jgs hi',?_⟩
          rw[G.kind]
          exact beq_iff_eq.mp hl
         ·cases e4
     ·cases e1
    ·cases e1
end
section
variable {ce:Str->Option Addr}{k:Nat}{P:Pg}{n:Nat}{S:Sc}{X:Cx}
theorem Jtw (G:Good ce k P S X){m:Expr->E1}(hm:∀e,PEi ce X e (m e)){exc cause:Option Expr}{p:Pos}:PS1 ce X (.Raise exc cause p) (Jtv P S m exc cause):=by
 unfold Jtv
 split
 ·rename_i x q e q2
  split
  ·rename_i h
   simp only[Bool.and_eq_true] at h
   obtain⟨⟨h1,h2⟩,h3⟩:=h
   obtain⟨C,c1,c2,c3⟩:=G.pg.rz x h2
   obtain⟨gx,db,_⟩:=G.gl h1
   exact J1o G.calm gx c1 c2 c3 (Jdl (hm e) Jj0 (Jd h3)) db (Jd h3) rfl
  ·exact Jj
 ·exact Jj
theorem J0m (G:Good ce k P S X){m:Stmt->S1}(hm:∀s,PS1 ce X s (m s)){body:List Stmt}{hs:List ExceptHandler}{o f:List Stmt}{p:Pos}:PS1 ce X (.Try body hs o f p) (hTry P S n m body hs o f):=by
 unfold hTry
 split
 ·split
  ·rename_i h
   obtain⟨hk,hf⟩:=G.top h
   split
   ·rename_i ms e
    exact s_try G.nodup hk hf (Jh2 hm body) (Jtu G h e)
   ·exact Jj
  ·exact Jj
 ·exact Jj
theorem Jz2 {tg:Expr}{env:Env}(h:Ji tg=true):(assignEach [tg] env).map (·.2)=[assign tg env]:=by
 cases tg<;>first|rfl|cases h
theorem Jyd (G:Good ce k P S X) (i:Nat){e:Expr}{x:Str}{p q:Pos}(h:isLC e=true) (h1:X.N[i]?=some x) (h2:L2.Loc X.env.scope x) (h3:X.fn x=true∨X.env.scope.names.lookup x=some .local) :
  PS1 ce X (.Assign [.Name x q] e p) (sSet i (ev P n S e)):=by
 cases e with
 | ListComp elt gens sc cp =>
  cases hb:(X.env.blockKind==.function&&X.env.kindOf x==some .local&&q.line==cp.line&&!(sc.names.any λ (n,k)=>n==x&&(k==.local||k==.cell))) with
  | false =>
   refine J1p G.nodup ((Jlr ce k P n).e S X _ G) h1 h2 ?_ h3
   show(pure (X.env.blockKind==.function&&X.env.kindOf x==some .local&&q.line==cp.line&&!(sc.names.any λ (n,k)=>n==x&&(k==.local||k==.cell))):Sem Bool)=pure false
   rw[hb]
  | true =>
   have hsw:swapsWith (.ListComp elt gens sc cp) (some (.Name x q)) p.line X.env=pure true:=by
    show(pure (X.env.blockKind==.function&&X.env.kindOf x==some .local&&q.line==cp.line&&!(sc.names.any λ (n,k)=>n==x&&(k==.local||k==.cell))):Sem Bool)=pure true
    rw[hb]
   have dead:∀m:E1,(∀σ h,m σ h=.stuck)->PS1 ce X (.Assign [.Name x q] (.ListComp elt gens sc cp) p) (sSet i m):=λ m hm=>by
    intro pins s σ H ι σi h Q E N K
    unfold sSet at K
    rw[hm] at K
    exact Zf K
   cases n with
   | zero=>exact dead _ λ _ _=>rfl
   | succ n =>
    have ih:=Jlr ce k P n
    match gens,hsw with
    | [⟨tg,iter,ifs,as⟩],hsw =>
     show PS1 ce X _ (sSet i (if as=0/\Jrs iter=true/\Jdd S.N (Jlb sc) (Jon sc) (jsOf S sc) S.fake sc=true then
      Jta ifs (evT P n (S.comp sc)) (λ mt=>Jaa (evI P n S tg iter) (Jlb sc).length (jsOf S sc) (tgt P n (S.comp sc) tg) mt (ev P n (S.comp sc) elt)) else stE))
     split
     ·rename_i hs
      obtain⟨rfl,hi,ok⟩:=hs
      have Gc:=G.comp ok
      have ok':=ok
      rw[<- Jmh G] at ok'
      match ifs,hsw with
      | [],hsw=>exact Jzj G.calm (ih.i S X tg iter G) (λ C s H fp=>ih.g _ _ tg (Gc C s H fp)) (λ C s H fp=>Jzp) (λ C s H fp=>ih.e _ _ elt (Gc C s H fp)) ok' G.n rfl (Jav hi) G.nodup h1 h2 h3 hsw
      | [c],hsw=>exact Jzj G.calm (ih.i S X tg iter G) (λ C s H fp=>ih.g _ _ tg (Gc C s H fp)) (λ C s H fp=>Jzq (ih.t _ _ c (Gc C s H fp))) (λ C s H fp=>ih.e _ _ elt (Gc C s H fp)) ok' G.n rfl (Jav hi) G.nodup h1 h2 h3 hsw
      | _::_::_,_=>exact dead _ λ _ _=>rfl
     ·exact dead _ λ _ _=>rfl
    | [],_=>exact dead _ λ _ _=>rfl
    | ⟨_,_,_,_⟩::_::_,_=>exact dead _ λ _ _=>rfl
 | _=>cases h
theorem Jqq (ce:Str->Option Addr) (k:Nat) (P:Pg):∀(n:Nat) (S:Sc) (X:Cx) (st:Stmt),Good ce k P S X->PS1 ce X st (ex P n S st)
 | 0,_,_,_,_=>Jj
 | n+1,S,X,st,G=>by
  have ih:=λ st=>Jqq ce k P n S X st G
  have E:=Jlr ce k P n
  have ihe:=λ e=>E.e S X e G
  cases st with
  | Pass p=>exact Jzk
  | Break p=>exact J1n
  | Continue p=>exact J4z
  | Expr e p =>
   show PS1 ce X _ (if Jeh e then Jei (ev P n S e) else stS)
   split
   ·rename_i h
    exact J40 (ihe e) (Jb9 h)
   ·exact Jj
  | Return v p =>
   cases v with
   | none=>exact J42
   | some e=>exact J41 (ihe e)
  | If c a b p=>exact s_if (E.t S X c G) (Jh2 ih a) (Jh2 ih b)
  | Raise exc cause p=>exact Jtw G ihe
  | Try body hs o f p=>exact J0m G ih
  | While c a o p =>
   cases o with
   | nil=>exact J1q (E.t S X c G) (Jh2 ih a)
   | cons _ _=>exact Jj
  | For tg it a o p =>
   cases o with
   | nil =>
    show PS1 ce X _ (if Jrs it&&S.own then sFor (evI P n S tg it) (tgt P n S tg) (sAll (a.map (ex P n S))) else stS)
    split
    ·rename_i h
     rw[Bool.and_eq_true] at h
     obtain⟨hk,hf⟩:=G.top h.2
     exact s_for G.calm hk hf (E.i S X tg it G) (E.g S X tg G) (Jh2 ih a) (Jav h.1)
    ·exact Jj
   | cons _ _=>exact Jj
  | Assign tgs e p =>
   match tgs with
   | []=>exact Jj
   | a::_::_=>cases a<;>exact Jj
   | [tg] =>
    have gen:PS1 ce X (.Assign [tg] e p) (if Jeh e&&((Jxc tg&&J08 e)||Jxb tg) then sAsg (ev P n S e) (tgt P n S tg) else stS):=by
     split
     ·rename_i h
      simp only[Bool.and_eq_true,Bool.or_eq_true] at h
      have hst:Ji tg=true:=by
       rcases h.2 with q|q
       ·cases tg<;>first|rfl|(simp[Jxc] at q)
       ·cases tg<;>first|rfl|(simp[Jxb] at q)
      refine s_asg (ihe e) (E.g S X tg G) (Jb9 h.1) ?_ (Jz2 hst)
      rcases h.2 with q|q
      ·cases tg with
       | Tuple es j pp =>
        have q2:=q.2
        cases e<;>first|rfl|(simp[J08] at q2)
       | _=>simp[Jxc] at q
      ·cases tg with
       | Subscript=>cases e<;>rfl
       | _=>simp[Jxb] at q
     ·exact Jj
    cases tg with
    | Name x q =>
     show PS1 ce X _ (if Jeh e||isLC e then(match S.sto x with|some i=>sSet i (ev P n S e)|none=>stS) else stS)
     split
     ·rename_i h
      cases hv:S.sto x with
      | none=>exact Jj
      | some i =>
       obtain⟨h1,h2,h3⟩:=G.sto hv
       rcases Bool.or_eq_true _ _▸h with h|h
       ·exact J1p G.nodup (ihe e) h1 h2 (Jb9 h) h3
       ·exact Jyd G i h h1 h2 h3
     ·exact Jj
    | Attribute o f q =>
     show PS1 ce X _ (if Jeh e then J1l P f (ev P n S o) (ev P n S e) else stS)
     split
     ·rename_i h
      unfold J1l
      split
      ·rename_i hf
       exact s_fld (ihe o) (ihe e) (G.pg.fld f hf) (Jb9 h)
      ·exact Jj
     ·exact Jj
    | _=>exact gen
  | _=>exact Jj
end
structure D4 where
 st:Stmt
 qual:Str
 ps:List Str
 N:List Str
 dvs:List IV
noncomputable def D4.sc (d:D4):Sc:=⟨d.N,(Jk d.st).names,true,d.qual⟩
structure Tab where
 fns:List (Str×D4)
 clss:List (Str×D4)
 meths:List (Str×List (Str×D4))
 cons:List (Str×IV)
 isas:List (Str×List Str)
 flds:List Str
 frees:List Str
 tabs:List Str:=[]
 razs:List Str:=[]
 xis:List (Str×List (Str×Bool)):=[]
 bass:List Str:=[]
 wrs:List (Str×D4):=[]
 nes:List Str:=[]
 xms:List (Str×D4):=[]
 xfs:List (Str×List Str):=[]
 xbs:List Str:=[]
noncomputable def memS (x:Str):List Str->Bool
 | []=>false
 | y::r=>y==x||memS x r
noncomputable def Jb2 {α:Type}(x:Str):List (Str×α)->Option α
 | []=>none
 | (y,a)::r=>if y==x then some a else Jb2 x r
noncomputable def xfOf (T:Tab) (f c:Str):Bool:=match Jb2 f T.xfs with|some l=>memS c l|none=>false
noncomputable def mkPg (T:Tab) (r:D4->List IV->IH->Res IV):Pg where
 fn:=λ x=>(Jb2 x T.fns).map λ d=>⟨d.ps.length,d.dvs,r d⟩
 cls:=λ x=>(Jb2 x T.clss).map λ d=>⟨d.ps.length,d.dvs,r d⟩
 meth:=λ c m=>((Jb2 c T.meths).bind (Jb2 m)).map λ d=>⟨d.ps.length,d.dvs,r d⟩
 con:=λ x=>Jb2 x T.cons
 isa:=λ x=>(Jb2 x T.isas).map λ l c=>memS c l
 fld:=λ x=>memS x T.flds
 free:=λ x=>memS x T.frees
 tabs:=λ q=>ixOf q T.tabs
 rz:=λ x=>memS x T.razs
 xi:=λ D=>(Jb2 D T.xis).map λ l c=>Jb2 c l
 bas:=λ x=>memS x T.bass
 wr:=λ _=>none
 ne:=λ x=>memS x T.nes
 xo:=λ x=>(Jb2 x T.xms).map λ d=>⟨d.ps.length,d.dvs,r d⟩
 xf:=xfOf T
 xb:=λ x=>memS x T.xbs
noncomputable def run (T:Tab):Nat->D4->List IV->IH->Res IV
 | 0,_=>λ _ _=>.stuck
 | k+1,d=>fnI d.N.length (sAll ((Jy d.st).map (ex (mkPg T (run T k)) 40 d.sc)))
theorem Jo {α:Type}{x:Str}{a:α}:∀{l:List (Str×α)},Jb2 x l=some a->(x,a)∈l
 | [],h=>by cases h
 | (y,b)::r,h=>by
  unfold Jb2 at h
  split at h
  ·rename_i e
   cases h
   rw[beq_iff_eq.mp e]
   exact List.mem_cons_self
  ·exact List.mem_cons_of_mem _ (Jo h)
theorem Jbw {x:Str}:∀{l:List Str},memS x l=true->x∈l
 | [],h=>by cases h
 | y::r,h=>by
  unfold memS at h
  rcases Bool.or_eq_true _ _▸h with e|e
  ·rw[beq_iff_eq.mp e]
   exact List.mem_cons_self
  ·exact List.mem_cons_of_mem _ (Jbw e)
structure DefOk (K:W.Frag) (x:Str) (d:D4) (fa:Addr) (fd:FuncData):Prop where
 fun_:∃dV,FunD K x d.qual d.st fa fd dV
 sc:FnScope d.N d.ps (Jk d.st)
 dv:∀j,j<=d.dvs.length->∃ds,Jfb K fd d.ps ds/\ds.length=d.dvs.length-j/\∃vs,Vals vs ds/\∀ι H,RVs K ι H (d.dvs.drop j) vs
structure TabOk (ce:Str->Option Addr) (T:Tab) (K:W.Frag) (mg:Str->Option Value):Prop where
 fn:∀x d,(x,d)∈T.fns->∃fa fd,mg x=some (.ref fa)/\DefOk K x d fa fd
 cls:∀x d,(x,d)∈T.clss->∃C fa fd,mg x=some (.ref C)/\ce x=some C/\Mk K C fa/\DefOk K "__init__" d fa fd
 meth:∀c l m d,(c,l)∈T.meths->(m,d)∈l->∃C fa fd,ce c=some C/\Cls K C/\Meth K C m fa/\DefOk K m d fa fd
 con:∀x v,(x,v)∈T.cons->∃u y,mg x=some u/\RelV y u/\∀ι H,RV K ι H v y
 isa:∀D l,(D,l)∈T.isas->∃c,mg D=some c/\IsOk ce K c λ t=>match t with|.ins c=>some (memS c l)|.exc _=>none|_=>some false
 fld:∀f,f∈T.flds->Jwg ce K f
 free:∀x,x∈T.frees->mg x=none
 rz:∀x,x∈T.razs->∃C,mg x=some (.ref C)/\W.nsIn K mainGlobals x=some (some (.ref C))/\XCls K C
 xi:∀D l,(D,l)∈T.xis->∃v,(mg D=some v∨(mg D=none/\bootBuiltins D=some v))/\∀c b,(c,b)∈l->∃C,W.nsIn K mainGlobals c=some (some (.ref C))/\ExI K C/\W.kitOne K (.ref C) v=some b/\W.exmOne K (.ref C) v=some b
 bas:∀x,x∈T.bass->∃C,mg x=some (.ref C)/\BasK K C
 wr:∀x d,(x,d)∈T.wrs->∃fa fd p,mg x=some (.ref fa)/\DefOk K x d fa fd/\d.ps=[p]/\d.dvs=[]
 ne:∀c,c∈T.nes->∃C,ce c=some C/\neIn K C=true/\ClsI K C/\W.kitOne K (.ref C) (.type "list")=some false
 xo:∀x d,(x,d)∈T.xms->∃C fa fd,mg x=some (.ref C)/\W.nsIn K mainGlobals x=some (some (.ref C))/\Jsm K C fa=true/\W.keepIn K (.ref C)=true/\(∀h:Heap,K.In h->ExC h C)/\DefOk K "__init__" d fa fd
 xf:∀f l c,(f,l)∈T.xfs->c∈l->∃C,W.nsIn K mainGlobals c=some (some (.ref C))/\StoX K C f/\ExI K C/\W.findIn K (.ref C) f=some none
 xb:∀x,x∈T.xbs->∃C,mg x=some (.ref C)/\BasX K C
section
variable {ce:Str->Option Addr}{T:Tab}{prog:Program}{w:World}{K:W.Frag}{mg:Str->Option Value}{base:Heap}
theorem Jq7 {k:Nat}{fa:Addr}{fd:FuncData}{ps:List Str}:FnOk prog w K mg base (CXI prog w) k fa fd ps (spI ce K ps λ _ _=>.stuck) :=
 ⟨λ _ _ _ _ h=>h.1,λ _ _ _ _ _ _ _ _ _ _ _ _ _ h=>by obtain⟨_,_,_,_,_,_,z⟩:=h;exact z.elim⟩
theorem xi_of (O:TabOk ce T K mg):XiOk K mg (λ D=>(Jb2 D T.xis).map λ l c=>Jb2 c l) (xfOf T):=by
 refine⟨λ D g h=>?_,λ f c C h hC=>?_⟩
 rotate_left
 ·have h':(match Jb2 f T.xfs with|some l=>memS c l|none=>false)=true:=h
  cases hl:Jb2 f T.xfs with
  | none=>rw[hl] at h';cases h'
  | some l =>
   rw[hl] at h'
   obtain⟨C',q,r⟩:=O.xf f l c (Jo hl) (Jbw h')
   rw[hC] at q
   cases q
   exact r
 obtain⟨l,hl,rfl⟩:=Option.map_eq_some_iff.mp h
 obtain⟨v,hv,hc⟩:=O.xi D l (Jo hl)
 refine⟨v,hv,λ c C b e hC=>?_⟩
 obtain⟨C',h1,h2⟩:=hc c b (Jo e)
 rw[hC] at h1
 cases h1
 exact h2
theorem pg_of (O:TabOk ce T K mg) (B:T.tabs≠[]->Jwf mg base) (k:Nat) (hD:∀x d fa fd,DefOk K x d fa fd->FnD ce prog w K mg base (4*k) ⟨d.ps.length,d.dvs,run T k d⟩ fa fd d.ps):PgOk ce (4*k) (mkPg T (run T k)) prog w K mg base:=by
 refine⟨λ x f h=>?_,λ x f h=>?_,λ c m f h=>?_,λ x v h=>?_,λ D g h=>?_,λ f h=>?_,λ x h=>?_,λ q j h=>B λ e=>?_,λ x h=>O.rz x (Jbw h),xi_of O,λ x h=>O.bas x (Jbw h),λ x r h=>trivial,λ c h=>O.ne c (Jbw h),λ x f h=>?_,λ x h=>O.xb x (Jbw h)⟩
 ·obtain⟨d,hd,rfl⟩:=Option.map_eq_some_iff.mp h
  obtain⟨fa,fd,hm,ok⟩:=O.fn x d (Jo hd)
  obtain⟨dV,F⟩:=ok.fun_
  exact⟨fa,fd,d.ps,hm,F.kp,hD x d fa fd ok⟩
 ·obtain⟨d,hd,rfl⟩:=Option.map_eq_some_iff.mp h
  obtain⟨C,fa,fd,hm,hC,M,ok⟩:=O.cls x d (Jo hd)
  exact⟨C,fa,fd,d.ps,hm,hC,M,hD _ d fa fd ok⟩
 ·obtain⟨d,hd,rfl⟩:=Option.map_eq_some_iff.mp h
  obtain⟨l,hl,hd⟩:=Option.bind_eq_some_iff.mp hd
  obtain⟨C,fa,fd,hC,cl,me,ok⟩:=O.meth c l m d (Jo hl) (Jo hd)
  exact⟨C,fa,fd,d.ps,hC,cl,me,hD m d fa fd ok⟩
 ·exact O.con x v (Jo h)
 ·obtain⟨l,hl,rfl⟩:=Option.map_eq_some_iff.mp h
  exact O.isa D l (Jo hl)
 ·exact O.fld f (Jbw h)
 ·exact O.free x (Jbw h)
 ·have h':ixOf q T.tabs=some j:=h
  rw[e] at h'
  cases h'
 ·obtain⟨d,hd,rfl⟩:=Option.map_eq_some_iff.mp h
  obtain⟨C,fa,fd,h1,h2,h3,h4,h5,ok⟩:=O.xo x d (Jo hd)
  exact⟨C,fa,fd,d.ps,h1,h2,h3,h4,h5,hD _ d fa fd ok⟩
theorem Jyy (O:TabOk ce T K mg) (B:T.tabs≠[]->Jwf mg base):∀k x d fa fd,DefOk K x d fa fd->FnD ce prog w K mg base (4*k) ⟨d.ps.length,d.dvs,run T k d⟩ fa fd d.ps
 | 0,x,d,fa,fd,ok=>⟨rfl,Jq7,ok.dv⟩
 | k+1,x,d,fa,fd,ok=>by
  refine⟨rfl,?_,ok.dv⟩
  obtain⟨dV,F⟩:=ok.fun_
  show FnOk prog w K mg base (CXI prog w) (4*k+3+1) fa fd d.ps (spI ce K d.ps (run T (k+1) d))
  refine F.fn (m:=sAll ((Jy d.st).map (ex (mkPg T (run T k)) 40 d.sc))) ok.sc λ cdv A outer s H E hcd hr=>?_
  refine Jh2 (λ st=>Jqq ce (4*k) (mkPg T (run T k)) 40 d.sc _ st ?_) _
  exact⟨rfl,rfl,ok.sc.nd,ok.sc.kind,rfl,hr.mono (by omega),λ _ _=>rfl,pg_of O B k (Jyy O B k),λ _=>⟨hcd,rfl⟩,λ _=>hr,λ _=>⟨rfl,rfl⟩⟩
end
inductive All {α:Type}(p:α->Prop):List α->Prop
 | nil:All p []
 | cons {a:α}{l:List α}:p a->All p l->All p (a::l)
theorem All.mem {α:Type}{p:α->Prop}:∀{l:List α}{a:α},All p l->a∈l->p a
 | _,_,.nil,h=>by cases h
 | _,_,.cons h r,m=>by
  rcases List.mem_cons.mp m with rfl|m
  ·exact h
  ·exact r.mem m
noncomputable def Jyt (l:List Str):Ty->Option Bool:=λ t=>match t with|.ins c=>some (memS c l)|.exc _=>none|_=>some false
section
variable {T:Tab}{K:W.Frag}{mg:Str->Option Value}
noncomputable def ceOf (ces:List (Str×Addr)):Str->Option Addr:=λ c=>Jb2 c ces
noncomputable def kits (K:W.Frag) (v:Value) (l:List (Addr×Bool)):Bool:=l.all λ p=>W.kitOne K (.ref p.1) v==some p.2&&W.exmOne K (.ref p.1) v==some p.2
theorem Jys {v:Value}:∀{cs:List (Str×Addr)}{bs:List Bool},All (λ p:Str×Addr=>W.nsIn K mainGlobals p.1=some (some (.ref p.2))/\ExI K p.2) cs->cs.length=bs.length->kits K v ((cs.map (·.2)).zip bs)=true ->
  All (λ p:Str×Bool=>∃C,W.nsIn K mainGlobals p.1=some (some (.ref C))/\ExI K C/\W.kitOne K (.ref C) v=some p.2/\W.exmOne K (.ref C) v=some p.2) ((cs.map (·.1)).zip bs)
 | [],[],_,_,_=>.nil
 | (_,C)::_,_::_,.cons h r,e,q=>by
  simp only[kits,List.map_cons,List.zip_cons_cons,List.all_cons,Bool.and_eq_true,beq_iff_eq] at q
  exact .cons ⟨C,h.1,h.2,q.1.1,q.1.2⟩ (Jys r (by simpa using e) (by simpa only[kits] using q.2))
 | [],_::_,_,e,_=>by cases e
 | _::_,[],_,e,_=>by cases e
theorem J5a (ces:List (Str×Addr)) (fn:All (λ p:Str×D4=>∃fa fd,mg p.1=some (.ref fa)/\DefOk K p.1 p.2 fa fd) T.fns)
  (cls:All (λ p:Str×D4=>∃C fa fd,mg p.1=some (.ref C)/\ceOf ces p.1=some C/\Mk K C fa/\DefOk K "__init__" p.2 fa fd) T.clss)
  (meth:All (λ q:Str×List (Str×D4)=>∃C,ceOf ces q.1=some C/\All (λ p:Str×D4=>∃fa fd,Meth K C p.1 fa/\DefOk K p.1 p.2 fa fd) q.2) T.meths)
  (con:All (λ p:Str×IV=>∃u y,mg p.1=some u/\RelV y u/\∀ι H,RV K ι H p.2 y) T.cons)
  (cl:All (λ p:Str×Addr=>ClsI K p.2/\All (λ f=>Jfp K p.2 f) T.flds) ces)
  (isa:All (λ q:Str×List Str=>∃D,mg q.1=some (.ref D)/\W.kitOne K (.type "NoneType") (.ref D)=some false/\W.kitOne K (.type "bool") (.ref D)=some false/\W.kitOne K (.type "int") (.ref D)=some false/\W.kitOne K (.type "str") (.ref D)=some false /\
   W.kitOne K (.type "list") (.ref D)=some false/\W.kitOne K (.type "tuple") (.ref D)=some false/\W.kitOne K (.type "dict") (.ref D)=some false/\All (λ p:Str×Addr=>W.kitOne K (.ref p.2) (.ref D)=some (memS p.1 q.2)) ces) T.isas)
  (free:All (λ x=>mg x=none) T.frees)
  (raz:All (λ x=>∃C,mg x=some (.ref C)/\W.nsIn K mainGlobals x=some (some (.ref C))/\XCls K C) T.razs:=by exact .nil)
  (xis:All (λ q:Str×List (Str×Bool)=>∃v,(mg q.1=some v∨(mg q.1=none/\bootBuiltins q.1=some v))/\All (λ p:Str×Bool=>∃C,W.nsIn K mainGlobals p.1=some (some (.ref C))/\ExI K C/\W.kitOne K (.ref C) v=some p.2/\W.exmOne K (.ref C) v=some p.2) q.2) T.xis:=by exact .nil)
  (bas:All (λ x=>∃C,mg x=some (.ref C)/\BasK K C) T.bass:=by exact .nil)
  (wr:All (λ q:Str×D4=>(∃fa fd,mg q.1=some (.ref fa)/\DefOk K q.1 q.2 fa fd)/\∃p,q.2.ps=[p]/\q.2.dvs=[]) T.wrs:=by exact .nil)
  (nes:All (λ c=>∃C,ceOf ces c=some C/\neIn K C=true/\W.kitOne K (.ref C) (.type "list")=some false) T.nes:=by exact .nil)
  (xms:All (λ p:Str×D4=>∃C fa fd,mg p.1=some (.ref C)/\W.nsIn K mainGlobals p.1=some (some (.ref C))/\Jsm K C fa=true/\W.keepIn K (.ref C)=true/\(∀h:Heap,K.In h->ExC h C)/\DefOk K "__init__" p.2 fa fd) T.xms:=by exact .nil)
  (xfs:All (λ q:Str×List Str=>All (λ c=>∃C,W.nsIn K mainGlobals c=some (some (.ref C))/\StoX K C q.1/\ExI K C/\W.findIn K (.ref C) q.1=some none) q.2) T.xfs:=by exact .nil)
  (xbs:All (λ x=>∃C,mg x=some (.ref C)/\BasX K C) T.xbs:=by exact .nil):TabOk (ceOf ces) T K mg:=by
 refine⟨λ x d h=>fn.mem h,λ x d h=>cls.mem h,λ c l m d hc hm=>?_,λ x v h=>con.mem h,λ D l h=>?_,λ f hf=>?_,λ x h=>free.mem h,λ x h=>raz.mem h,λ D l h=>?_,λ x h=>bas.mem h,λ x d h=>let ⟨⟨fa,fd,a,b⟩,p,c,e⟩:=wr.mem h;⟨fa,fd,p,a,b,c,e⟩,λ c h=>let ⟨C,p,q,r⟩:=nes.mem h;⟨C,p,q,(cl.mem (Jo p)).1,r⟩,λ x d h=>xms.mem h,λ f l c h hc=>(xfs.mem h).mem hc,λ x h=>xbs.mem h⟩
 ·obtain⟨C,hC,hl⟩:=meth.mem hc
  obtain⟨fa,fd,me,ok⟩:=hl.mem hm
  exact⟨C,fa,fd,hC,(cl.mem (Jo hC)).1.cl,me,ok⟩
 ·obtain⟨C,hC,h1,h2,h3,h4,h5,h6,h7,h8⟩:=isa.mem h
  refine⟨_,hC,⟨λ b e=>?_,λ b e=>?_,λ b e=>?_,λ b e=>?_,λ b e=>?_,λ b e=>?_,λ b e=>?_,λ k C' b e hk=>?_,(λ k C' b e=>by cases e)⟩⟩
  ·cases e;exact h1
  ·cases e;exact h2
  ·cases e;exact h3
  ·cases e;exact h4
  ·cases e;exact h5
  ·cases e;exact h6
  ·cases e;exact h7
  ·cases e
   exact⟨(cl.mem (Jo hk)).1,h8.mem (Jo hk)⟩
 ·intro c C e
  obtain⟨h1,h2⟩:=cl.mem (Jo e)
  exact⟨h1.cl,h2.mem hf⟩
 ·obtain⟨v,hv,hl⟩:=xis.mem h
  exact⟨v,hv,λ c b hc=>hl.mem hc⟩
theorem len1 {α:Type}{P:List α->Prop}(F0:∀a,P [a]):∀us:List α,us.length=1->P us
 | [a],_=>F0 a
theorem len2 {α:Type}{P:List α->Prop}(F0:∀a b,P [a,b]):∀us:List α,us.length=2->P us
 | [a,b],_=>F0 a b
theorem len3 {α:Type}{P:List α->Prop}(F0:∀a b c,P [a,b,c]):∀us:List α,us.length=3->P us
 | [a,b,c],_=>F0 a b c
theorem len4 {α:Type}{P:List α->Prop}(F0:∀a b c d,P [a,b,c,d]):∀us:List α,us.length=4->P us
 | [a,b,c,d],_=>F0 a b c d
theorem len5 {α:Type}{P:List α->Prop}(F0:∀a b c d e,P [a,b,c,d,e]):∀us:List α,us.length=5->P us
 | [a,b,c,d,e],_=>F0 a b c d e
theorem len6 {α:Type}{P:List α->Prop}(F0:∀a b c d e f,P [a,b,c,d,e,f]):∀us:List α,us.length=6->P us
 | [a,b,c,d,e,f],_=>F0 a b c d e f
theorem len7 {α:Type}{P:List α->Prop}(F0:∀a b c d e f g,P [a,b,c,d,e,f,g]):∀us:List α,us.length=7->P us
 | [a,b,c,d,e,f,g],_=>F0 a b c d e f g
theorem upto3:∀j:Nat,j<=3->j=0∨j=1∨j=2∨j=3:=by omega
theorem Jyx {x:Str}{d:D4}{fa:Addr}{oc kV doc pm cdv ct:Value}{od an:Option Addr}{osl:Array (Option Value)}(lk:K.lookup fa=some ⟨oc,od,.func (W.fnOf x d.qual (Jan d.st) (Jy d.st) (Jk d.st) .none kV doc pm an cdv ct),osl⟩)
  (hc:W.codeIn K cdv d.qual=true) (hk:W.keepIn K (.ref fa)=true) (sc:FnScope d.N d.ps (Jk d.st)) (hd:d.dvs=[])
  (hb:∀us:List Value,us.length=d.ps.length->bindArgs (W.fnOf x d.qual (Jan d.st) (Jy d.st) (Jk d.st) .none kV doc pm an cdv ct) ⟨us,[]⟩=pure (d.ps.zip us)) :
  DefOk K x d fa (W.fnOf x d.qual (Jan d.st) (Jy d.st) (Jk d.st) .none kV doc pm an cdv ct) :=
 ⟨⟨_,⟨oc,od,kV,doc,pm,an,cdv,ct,osl,rfl,lk,hc⟩,hk⟩,sc,λ j hj=>⟨[],.all hb,by rw[hd];simp,[],.nil,by rw[hd];intro _ _;cases j<;>exact rfl⟩⟩
noncomputable def scOk (N P:List Str) (sc:Scope):Bool :=
 sc.kind==.function&&!sc.isCoroutine&&!sc.isGenerator&&decide N.Nodup&&decide (N.take P.length=P)&&P.all (λ x=>sc.names.lookup x==some .local||sc.names.lookup x==some .cell)&&sc.names.all (λ y=>!(y.2==.free))
theorem scOk.of {N P:List Str}{sc:Scope}(h:scOk N P sc=true):FnScope N P sc:=by
 simp only[scOk,Bool.and_eq_true,beq_iff_eq,Bool.not_eq_true',decide_eq_true_eq,List.all_eq_true,Bool.or_eq_true,beq_eq_false_iff_ne] at h
 obtain⟨⟨⟨⟨⟨⟨h1,h2⟩,h3⟩,h4⟩,h5⟩,h6⟩,h7⟩:=h
 exact⟨h1,h2,h3,h4,h5,h6,h7⟩
noncomputable def FnB (x q:Str) (d:D4):Prop:=FnScope d.N d.ps (Jk d.st)/\d.dvs=[]/\d.qual=q/\∀(kV doc pm:Value) (an:Option Addr) (cdv ct:Value) (us:List Value),us.length=d.ps.length->bindArgs (W.fnOf x d.qual (Jan d.st) (Jy d.st) (Jk d.st) .none kV doc pm an cdv ct) ⟨us,[]⟩=pure (d.ps.zip us)
section
variable {x q:Str}{d:D4}{h:Heap}{a C:Addr}{oc kV dc pm cd ct:Value}{od an:Option Addr}{sl:Array (Option Value)}
theorem Jum (B:FnB x q d) (hl:K.lookup a=some ⟨oc,od,.func (W.fnOf x q (Jan d.st) (Jy d.st) (Jk d.st) .none kV dc pm an cd ct),sl⟩) (hc:W.codeIn K cd q=true) (hk:W.keepIn K (.ref a)=true):∃fd,DefOk K x d a fd:=by
 obtain⟨s,v,rfl,b⟩:=B
 exact⟨_,Jyx hl hc hk s v (b _ _ _ _ _ _)⟩
theorem J9 (X:K.In h) (G:h.Ns mainGlobals mg) (B:FnB x q d) (ha:W.nsIn K mainGlobals x=some (some (.ref a))) (hl:K.lookup a=some ⟨oc,od,.func (W.fnOf x q (Jan d.st) (Jy d.st) (Jk d.st) .none kV dc pm an cd ct),sl⟩) (hc:W.codeIn K cd q=true) (hk:W.keepIn K (.ref a)=true):∃fa fd,mg x=some (.ref fa)/\DefOk K x d fa fd :=
 let ⟨fd,D⟩:=Jum B hl hc hk
 ⟨a,fd,W.mg_of X G ha,D⟩
theorem Jxs (B:FnB x q d) (ha:W.findIn K (.ref C) x=some (some (.ref a))) (hi:W.isFn K (.ref a)=true) (hl:K.lookup a=some ⟨oc,od,.func (W.fnOf x q (Jan d.st) (Jy d.st) (Jk d.st) .none kV dc pm an cd ct),sl⟩) (hc:W.codeIn K cd q=true) (hk:W.keepIn K (.ref a)=true):∃fa fd,Meth K C x fa/\DefOk K x d fa fd :=
 let ⟨fd,D⟩:=Jum B hl hc hk
 ⟨a,fd,⟨ha,hi,hk⟩,D⟩
theorem mk_in (B:FnB "__init__" q d) (ha:W.findIn K (.ref C) "__init__"=some (some (.ref a))) (hi:W.isFn K (.ref a)=true) (hl:K.lookup a=some ⟨oc,od,.func (W.fnOf "__init__" q (Jan d.st) (Jy d.st) (Jk d.st) .none kV dc pm an cd ct),sl⟩) (hc:W.codeIn K cd q=true) (hk:W.keepIn K (.ref a)=true) (hm:W.makesIn K C=true) (hq:W.keepIn K (.ref C)=true):∃fa fd,Mk K C fa/\DefOk K "__init__" d fa fd :=
 let ⟨fd,D⟩:=Jum B hl hc hk
 ⟨a,fd,⟨hm,ha,hi,hq⟩,D⟩
end
theorem J0w {ce:Str->Option Addr}{prog:Program}{w:World}{base:Heap}(O:TabOk ce T K mg) (B:T.tabs≠[]->Jwf mg base) (k:Nat){d:D4}{fa:Addr}{fd:FuncData}{x:Str}(hp:d.ps=[x]) (ok:DefOk K "law" d fa fd) :
  FnOk prog w K mg base (CXI prog w) (4*k) fa fd [x] (Jsg K x (run T k d)):=by
 have:=(Jyy (prog:=prog) (w:=w) (base:=base) O B k "law" d fa fd ok).ok
 rw[hp] at this
 exact Jwv this
end
noncomputable def WR {α:Type}(r:Res α) (Q:α->IH->Prop):Prop:=match r with
 | .ok a h=>Q a h
 | _=>False
noncomputable def WS (r:SRes) (N:ISt->IH->Prop) (R:IV->IH->Prop):Prop:=match r with
 | .next σ h=>N σ h
 | .ret v h=>R v h
 | _=>False
section
variable {α β:Type}{σ:ISt}{h:IH}{Q:α->IH->Prop}{N:ISt->IH->Prop}{R:IV->IH->Prop}
theorem WR.mono {r:Res α}{P Q:α->IH->Prop}(x:WR r P) (f:∀a h,P a h->Q a h):WR r Q:=by
 cases r with
 | ok a h=>exact f a h x
 | exc n h=>exact x
 | stuck=>exact x
theorem WR.of_eq {r:Res α}{a:α}{h:IH}(e:r=.ok a h) (q:Q a h):WR r Q:=by rw[e];exact q
theorem WR.eq {r:Res α}(x:WR r Q):∃a h,r=.ok a h/\Q a h:=by
 cases r with
 | ok a h=>exact⟨a,h,rfl,x⟩
 | exc n h=>exact x.elim
 | stuck=>exact x.elim
theorem WS.mono {r:SRes}{N N':ISt->IH->Prop}{R R':IV->IH->Prop}(x:WS r N R) (f:∀σ h,N σ h->N' σ h) (g:∀v h,R v h->R' v h):WS r N' R':=by
 cases r with
 | next σ h=>exact f σ h x
 | ret v h=>exact g v h x
 | _=>exact x
theorem Jhh (a:α):WR (.ok a h) Q=Q a h:=rfl
theorem Jyp:WR (.stuck:Res α) Q=False:=rfl
theorem Je (r:Res α) (f:α->IH->Res β) (Q:β->IH->Prop):WR (r.bind f) Q=WR r λ a h=>WR (f a h) Q:=by cases r<;>rfl
theorem J2m (r:Res α):WR r.nx Q=WR r Q:=by cases r<;>rfl
theorem Jeo (c:Prop) [Decidable c] (x y:Res α):WR (if c then x else y) Q=((c->WR x Q)/\(¬c->WR y Q)):=by
 by_cases hc:c<;>simp[hc]
theorem Jjx (r:Res α) (k:α->IH->SRes):WS (rS σ r k) N R=WR r λ a h=>WS (k a h) N R:=by cases r<;>rfl
theorem Jqx (r:SRes) (Q:IV->IH->Prop):WR r.fin Q=WS r (λ _ h=>Q .non h) Q:=by
 cases r with
 | exc n σ h=>show WR (match h[n]? with|some (.exc _ _)=>Res.exc n h|_=>Res.stuck) Q=False;split<;>rfl
 | _=>rfl
theorem Jpx (σ:ISt):WS (.next σ h) N R=N σ h:=rfl
theorem Jwd (v:IV):WS (.ret v h) N R=R v h:=rfl
theorem Jqy (a b:S1):WS (sSeq a b σ h) N R=WS (a σ h) (λ σ1 h1=>WS (b σ1 h1) N R) R:=by
 unfold sSeq;cases a σ h<;>rfl
theorem Jwc:WS (sNil σ h) N R=N σ h:=rfl
theorem Jpy:WS (Jx2 σ h) N R=N σ h:=rfl
theorem Jqz (i:Nat) (e:E1):WS (sSet i e σ h) N R=WR (e σ h) λ v h1=>N (σ.set i (some v)) h1:=by unfold sSet;rw[Jjx];rfl
theorem J2r (t:T1) (a b:S1):WS (sIf t a b σ h) N R=WR (t σ h) λ c h1=>(c=true->WS (a σ h1) N R)/\(c=false->WS (b σ h1) N R):=by
 unfold sIf;rw[Jjx];congr 1;funext c h1;cases c<;>simp
theorem Jp0 (e:E1):WS (sRet e σ h) N R=WR (e σ h) R:=by unfold sRet;rw[Jjx];rfl
theorem Jpz:WS (J1m σ h) N R=R .non h:=rfl
theorem Jpv (e:E1):WS (Jei e σ h) N R=WR (e σ h) λ _ h1=>N σ h1:=by unfold Jei;rw[Jjx];rfl
theorem Jv9 (e:E1) (g:G1):WS (sAsg e g σ h) N R=WR (e σ h) λ v h1=>WS (g v σ h1) N R:=by unfold sAsg;rw[Jjx]
theorem Jwb (i:Nat) (v:IV):WS (gNm i v σ h) N R=N (σ.set i (some v)) h:=rfl
theorem Jh5 (n:Nat) (g:List IV->ISt->IH->SRes) (xs:List IV):WS (gTp n g (.tup xs) σ h) N R=(xs.length=n/\WS (g xs σ h) N R):=by
 unfold gTp
 by_cases hn:xs.length=n
 ·simp[hn]
 ·simp[hn,WS]
theorem Joe:WS (gN [] σ h) N R=N σ h:=rfl
theorem Jod (i:Nat) (r:List IV->ISt->IH->SRes) (v:IV) (vs:List IV):WS (gC (gNm i) r (v::vs) σ h) N R=WS (r vs (σ.set i (some v)) h) N R:=rfl
theorem Jpw (f:Str) (o e:E1):WS (Jjl f o e σ h) N R=WR (e σ h) λ v h1=>WR (o σ h1) λ ov h2=>∃i c fs,ov=.ref i/\h2[i]?=some (.ins c fs)/\fs.length<1000/\N σ (h2.set i (.ins c (putI f v fs))):=by
 unfold Jjl;rw[Jjx];congr 1;funext v h1;rw[Jjx];congr 1;funext ov h2
 cases ov with
 | ref i =>
  cases e:h2[i]? with
  | none=>simp[WS,e]
  | some o =>
   cases o with
   | ins c fs =>
    by_cases hl:fs.length<1000
    ·simp only[e,hl,if_true,WS]
     refine propext ⟨λ q=>⟨i,c,fs,rfl,e,hl,q⟩,λ ⟨i',c',fs',e1,e2,_,q⟩=>?_⟩
     cases e1
     rw[e] at e2
     cases e2
     exact q
    ·simp only[e,hl,if_false,WS]
     refine propext ⟨λ q=>q.elim,λ ⟨i',c',fs',e1,e2,hl',_⟩=>?_⟩
     cases e1
     rw[e] at e2
     cases e2
     exact hl hl'
   | _=>simp[WS,e]
 | _=>simp[WS]
theorem Jwa (it:I1) (g:G1) (b:S1):WS (sFor it g b σ h) N R=WR (it σ h) λ J h1=>WS (Jfl J.chk g b J.xs σ h1) N R:=by unfold sFor;rw[Jjx]
theorem wr_c (v:IV) (Q:IV->IH->Prop):WR (eC v σ h) Q=Q v h:=rfl
theorem Jvk (f:IV->IV->IH->Res IV) (a b:E1) (Q:IV->IH->Prop):WR (eBin f a b σ h) Q=WR (a σ h) λ x h1=>WR (b σ h1) λ y h2=>WR (f x y h2) Q:=by
 unfold eBin;rw[Je];congr 1;funext x h1;rw[Je]
theorem J2p (f:IV->IH->Res IV) (a:E1) (Q:IV->IH->Prop):WR (eUn f a σ h) Q=WR (a σ h) λ x h1=>WR (f x h1) Q:=by unfold eUn;rw[Je]
theorem Jvi (a b:E1) (tr:IV->IH->Res Bool) (Q:IV->IH->Prop):WR (eAnd a b tr σ h) Q=WR (a σ h) λ x h1=>WR (tr x h1) λ c h2=>(c=true->WR (b σ h2) Q)/\(c=false->Q x h2):=by
 unfold eAnd;rw[Je];congr 1;funext x h1;rw[Je];congr 1;funext c h2;cases c<;>simp[WR]
theorem J2n (a b:E1) (tr:IV->IH->Res Bool) (Q:IV->IH->Prop):WR (eOr a b tr σ h) Q=WR (a σ h) λ x h1=>WR (tr x h1) λ c h2=>(c=true->Q x h2)/\(c=false->WR (b σ h2) Q):=by
 unfold eOr;rw[Je];congr 1;funext x h1;rw[Je];congr 1;funext c h2;cases c<;>simp[WR]
theorem J2f (t:T1) (a b:E1) (Q:IV->IH->Prop):WR (eIf t a b σ h) Q=WR (t σ h) λ c h1=>(c=true->WR (a σ h1) Q)/\(c=false->WR (b σ h1) Q):=by
 unfold eIf;rw[Je];congr 1;funext c h1;cases c<;>simp
theorem Jpr (a b:T1) (Q:Bool->IH->Prop):WR (Jsh a b σ h) Q=WR (a σ h) λ c h1=>(c=true->WR (b σ h1) Q)/\(c=false->Q false h1):=by
 unfold Jsh;rw[Je];congr 1;funext c h1;cases c<;>simp[WR]
theorem Jv6 (a b:T1) (Q:Bool->IH->Prop):WR (tOrI a b σ h) Q=WR (a σ h) λ c h1=>(c=true->Q true h1)/\(c=false->WR (b σ h1) Q):=by
 unfold tOrI;rw[Je];congr 1;funext c h1;cases c<;>simp[WR]
theorem Jps (a:T1) (Q:Bool->IH->Prop):WR (Jb6 a σ h) Q=WR (a σ h) λ c h1=>Q (!c) h1:=by unfold Jb6;rw[Je];rfl
theorem Jpt (tr:IV->IH->Res Bool) (a:E1) (Q:Bool->IH->Prop):WR (tOfB tr a σ h) Q=WR (a σ h) λ x h1=>WR (tr x h1) Q:=by unfold tOfB;rw[Je]
theorem Jin (f g:IV->IV->IH->Res IV) (a b c:E1) (Q:IV->IH->Prop):WR (Jd9 f g a b c σ h) Q=WR (a σ h) λ x h1=>WR (b σ h1) λ y h2=>WR (f x y h2) λ k h3=>∃t,k=.bl t/\(t=true->WR (c σ h3) λ z h4=>WR (g y z h4) Q)/\(t=false->Q (.bl false) h3):=by
 unfold Jd9;rw[Je];congr 1;funext x h1;rw[Je];congr 1;funext y h2;rw[Je];congr 1;funext k h3
 cases k with
 | bl t =>
  cases t with
  | true =>
   show WR ((c σ h3).bind λ z h4=>g y z h4) Q=_
   rw[Je]
   simp
  | false=>simp[WR]
 | _=>simp[WR]
theorem Jpj (Q:List IV->IH->Prop):WR (aNil σ h) Q=Q [] h:=rfl
theorem Jlx (a:E1) (r:A1) (Q:List IV->IH->Prop):WR (Ja a r σ h) Q=WR (a σ h) λ x h1=>WR (r σ h1) λ xs h2=>Q (x::xs) h2:=by
 unfold Ja;rw[Je];congr 1;funext x h1;rw[Je];rfl
theorem Jv7 (a:A1) (Q:IV->IH->Prop):WR (eTup a σ h) Q=WR (a σ h) λ xs h1=>xs.length<=sizeLine/\Q (.tup xs) h1:=by
 unfold eTup;rw[Je];congr 1;funext xs h1;rw[Jeo]
 by_cases hz:xs.length<=sizeLine<;>simp[hz,WR]
theorem Jvu (a:A1) (Q:IV->IH->Prop):WR (eLst a σ h) Q=WR (a σ h) λ xs h1=>xs.length<=sizeLine/\Q (.ref h1.length) (h1++[.lst xs]):=by
 unfold eLst;rw[Je];congr 1;funext xs h1;rw[Jeo]
 by_cases hz:xs.length<=sizeLine<;>simp[hz,WR]
theorem Jpk (f:List IV->IH->Res IV) (d:List IV) (a:A1) (Q:IV->IH->Prop):WR (Jn f d a σ h) Q=WR (a σ h) λ vs h1=>WR (f (vs++d) h1) Q:=by
 unfold Jn;rw[Je]
theorem Jpo (c:Str) (f:List IV->IH->Res IV) (d:List IV) (a:A1) (Q:IV->IH->Prop):WR (Jk6 c f d a σ h) Q=WR (a σ h) λ vs h1=>WR (f (.ref h1.length::(vs++d)) (h1++[.ins c []])) λ r h2=>r=.non/\Q (.ref h1.length) h2:=by
 unfold Jk6;rw[Je];congr 1;funext vs h1;rw[Je];congr 1;funext r h2;cases r<;>simp[WR]
theorem J17 (f:List IV->IH->Res IV) (a:A1) (Q:IV->IH->Prop):WR (eCB f a σ h) Q=WR (a σ h) λ vs h1=>WR (f vs h1) Q:=by unfold eCB;rw[Je]
theorem Jv1 (f:IV->IH->Res IV) (x:IV) (Q:IV->IH->Prop):WR (on1 f [x] h) Q=WR (f x h) Q:=rfl
theorem J5g (f:IV->IV->IH->Res IV) (x y:IV) (Q:IV->IH->Prop):WR (on2 f [x,y] h) Q=WR (f x y h) Q:=rfl
theorem Jvp (ans:Ty->Option Bool) (e:E1) (Q:IV->IH->Prop):WR (eIsi ans e σ h) Q=WR (e σ h) λ v h1=>∃b,(tyI v h1).bind ans=some b/\Q (.bl b) h1:=by
 unfold eIsi;rw[Je];congr 1;funext v h1
 cases (tyI v h1).bind ans<;>simp[WR]
theorem Jlz (Q:Option Int->IH->Prop):WR (Jru σ h) Q=Q none h:=rfl
theorem Jl0 (e:E1) (Q:Option Int->IH->Prop):WR (Jlf e σ h) Q=WR (e σ h) λ v h1=>∃i,v=.int i/\Q (some i) h1:=by
 unfold Jlf;rw[Je];congr 1;funext v h1;cases v<;>simp[WR]
theorem J2o (f:IV->Option Int->Option Int->IH->Res IV) (e:E1) (lo hi:O1) (Q:IV->IH->Prop):WR (eSl f e lo hi σ h) Q=WR (e σ h) λ x h1=>WR (lo σ h1) λ l h2=>WR (hi σ h2) λ u h3=>WR (f x l u h3) Q:=by
 unfold eSl;rw[Je];congr 1;funext x h1;rw[Je];congr 1;funext l h2;rw[Je]
noncomputable def Jeb (f:Str) (v:IV) (h:IH):Option IV:=match v with
 | .ref i=>(match h[i]? with
  | some (.ins _ fs)=>fs.lookup f
  | _=>none)
 | _=>none
theorem Jvn (f:Str) (o:E1) (Q:IV->IH->Prop):WR (eFld f o σ h) Q=WR (o σ h) λ v h1=>∃x,Jeb f v h1=some x/\Q x h1:=by
 unfold eFld;rw[Je];congr 1;funext v h1
 cases v with
 | ref i =>
  unfold Jeb
  cases e:h1[i]? with
  | none=>simp[WR,e]
  | some ob =>
   cases ob with
   | ins c fs=>cases e2:fs.lookup f<;>simp[WR,e,e2]
   | _=>simp[WR,e]
 | _=>simp[WR,Jeb]
variable {i j:Int}{x y:Str}{P:IV->IH->Prop}
theorem Jvg (i j:Int):WR (Jr (.int i) (.int j) h) P=P (.int (i+j)) h:=rfl
theorem Jv5 (i j:Int):WR (Jfk (.int i) (.int j) h) P=P (.int (i-j)) h:=rfl
theorem Jvy (i:Int):WR (J1c (.int i) h) P=P (.int (-i)) h:=rfl
theorem Jvx (i j:Int):WR (J8 (.int i) (.int j) h) P=(Ju i j/\P (.int (i*j)) h):=by
 show WR (Jrv (.int i) (.int j) h) P=_
 unfold Jrv;rw[Jeo];by_cases hm:Ju i j<;>simp[hm,WR]
theorem Jpm (i j:Int):WR (Jaf (.int i) (.int j) h) P=((0<j/\j.natAbs.log2<9000)/\P (.int (i/j)) h):=by
 unfold Jaf;rw[Jeo];by_cases hm:0<j/\j.natAbs.log2<9000<;>simp[hm,WR]
theorem Jvw (i j:Int):WR (Jbd (.int i) (.int j) h) P=(0<j/\P (.int (i%j)) h):=by
 unfold Jbd;rw[Jeo];by_cases hm:0<j<;>simp[hm,WR]
theorem Jv2 (i j:Int):WR (Jhb (.int i) (.int j) h) P=((0<=j/\j<=1000000/\i.natAbs<2^64)/\P (.int (i^j.toNat)) h):=by
 unfold Jhb;rw[Jeo];by_cases hm:0<=j/\j<=1000000/\i.natAbs<2^64<;>simp[hm,WR]
theorem Jpi (x y:Str):WR (Jr (.str x) (.str y) h) P=(x.length+y.length<=sizeLine/\P (.str (x++y)) h):=by
 unfold Jr;rw[Jeo];by_cases hm:x.length+y.length<=sizeLine<;>simp[hm,WR]
theorem J2j (i j:Int):WR (cLt (.int i) (.int j) h) P=P (.bl (decide (i<j))) h:=rfl
theorem J2h (i j:Int):WR (cLe (.int i) (.int j) h) P=P (.bl (decide (i<=j))) h:=rfl
theorem J5f (x y:Str):WR (cLe (.str x) (.str y) h) P=P (.bl (!decide (y.cps.toList<x.cps.toList))) h:=rfl
theorem J2e (i j:Int):WR (cGt (.int i) (.int j) h) P=P (.bl (decide (j<i))) h:=rfl
theorem J2d (i j:Int):WR (cGe (.int i) (.int j) h) P=P (.bl (decide (j<=i))) h:=rfl
theorem J2c (i j:Int):WR (cEq (.int i) (.int j) h) P=P (.bl (decide (i=j))) h:=rfl
theorem J2l (i j:Int):WR (cNe (.int i) (.int j) h) P=P (.bl (!decide (i=j))) h:=rfl
theorem Jvl (x y:Str):WR (cEq (.str x) (.str y) h) P=P (.bl (decide (x=y))) h:=rfl
theorem Jvz (x y:Str):WR (cNe (.str x) (.str y) h) P=P (.bl (!decide (x=y))) h:=rfl
theorem Jvj (b:Bool) (P:Bool->IH->Prop):WR (asB (.bl b) h) P=P b h:=rfl
theorem Jpu (b:Bool) (P:Bool->IH->Prop):WR (tru (.bl b) h) P=P b h:=rfl
theorem Jv0 (tr:IV->IH->Res Bool) (v:IV):WR (Jrw tr v h) P=WR (tr v h) λ c h1=>P (.bl (!c)) h1:=by unfold Jrw;rw[Je];rfl
theorem J2g (v w:IV):WR (cIs v w h) P=∃b,isI v w=some b/\P (.bl b) h:=by unfold cIs;cases isI v w<;>simp[WR]
theorem Jao {chk:IH->Prop}{g:G1}{b:S1}(I:Nat->ISt->IH->Prop){xs:List IV}(hc:∀i σ h,I i σ h->chk h)
  (turn:∀i (hi:i<xs.length) σ h,I i σ h->WS (g xs[i] σ h) (λ σ1 h1=>WS (b σ1 h1) (I (i+1)) R) λ _ _=>False) (done:∀σ h,I xs.length σ h->N σ h) (start:I 0 σ h):WS (Jfl chk g b xs σ h) N R:=by
 have key:∀(n i:Nat) (σ:ISt) (h:IH),xs.length-i=n->i<=xs.length->I i σ h->WS (Jfl chk g b (xs.drop i) σ h) N R:=by
  intro n
  induction n with
  | zero =>
   intro i σ h hn hi hI
   have:i=xs.length:=by omega
   subst this
   rw[List.drop_length]
   unfold Jfl
   rw[if_pos (hc _ _ _ hI)]
   exact done _ _ hI
  | succ n ih =>
   intro i σ h hn hi hI
   have hlt:i<xs.length:=by omega
   rw[List.drop_eq_getElem_cons hlt]
   unfold Jfl
   rw[if_pos (hc _ _ _ hI)]
   have t:=turn i hlt σ h hI
   cases eg:g xs[i] σ h with
   | next σ1 h1 =>
    rw[eg] at t
    have t':WS (b σ1 h1) (I (i+1)) R:=t
    dsimp only
    cases eb:b σ1 h1 with
    | next σ2 h2=>rw[eb] at t';exact ih (i+1) σ2 h2 (by omega) hlt t'
    | ret v h2=>rw[eb] at t';exact t'
    | brk σ2 h2=>rw[eb] at t';exact t'.elim
    | cont σ2 h2=>rw[eb] at t';exact t'.elim
    | exc m σ2 h2=>rw[eb] at t';exact t'.elim
    | stuck=>rw[eb] at t';exact t'.elim
   | ret v h1=>rw[eg] at t;exact t.elim
   | brk σ2 h2=>rw[eg] at t;exact t.elim
   | cont σ2 h2=>rw[eg] at t;exact t.elim
   | exc m σ2 h2=>rw[eg] at t;exact t.elim
   | stuck=>rw[eg] at t;exact t.elim
 have:=key xs.length 0 σ h (by omega) (Nat.zero_le _) start
 simpa using this
end
section
variable {α:Type}{h h1:IH}{a:α}{r:Res α}{P:IV->IH->Prop}
theorem Jda (x:WR r λ v h'=>v=a/\h'=h1):r=.ok a h1:=by
 obtain⟨_,_,e,rfl,rfl⟩:=x.eq
 exact e
theorem Jku (xs:List IV) (n:Int):WR (opIx (.tup xs) (.int n) h) P=∃x,atI xs n=some x/\P x h:=by
 unfold opIx;cases e:atI xs n<;>simp[WR,e]
theorem Joc (xs:List IV) (n:Int):WR (opIx (.rol xs) (.int n) h) P=∃x,atI xs n=some x/\P x h:=by
 unfold opIx;cases e:atI xs n<;>simp[WR,e]
theorem Job (i:Nat) (n:Int):WR (opIx (.ref i) (.int n) h) P=∃xs,h[i]?=some (.lst xs)/\∃x,atI xs n=some x/\P x h:=by
 unfold opIx
 cases e:h[i]? with
 | none=>simp[WR,e]
 | some o =>
  cases o with
  | lst xs=>cases e2:atI xs n<;>simp[WR,e,e2]
  | _=>simp[WR,e]
theorem Jjw (xs:List IV):WR (lenI (.tup xs) h) P=P (.int xs.length) h:=rfl
theorem Jju (xs:List IV):WR (lenI (.rol xs) h) P=P (.int xs.length) h:=rfl
theorem Jjt (i:Nat):WR (lenI (.ref i) h) P=∃xs,h[i]?=some (.lst xs)/\P (.int xs.length) h:=by
 unfold lenI
 cases e:h[i]? with
 | none=>simp[WR,e]
 | some o=>cases o<;>simp[WR,e]
theorem Jjv (x:Str):WR (lenI (.str x) h) P=(x.length<=sizeLine/\P (.int x.length) h):=by
 unfold lenI;rw[Jeo];by_cases hm:x.length<=sizeLine<;>simp[hm,WR]
theorem Jfq {xs:List α}{n:Nat}{x:α}(e:xs[n]?=some x):atI xs (n:Int)=some x:=by
 have hn:n<xs.length:=(List.getElem?_eq_some_iff.mp e).1
 have:(n:Int)<xs.length:=by omega
 simp[atI,ixN,this,e]
theorem Jq2 {x:α}{xs:List α}:atI (x::xs) 0=some x:=by simp[atI,ixN]
theorem Jq3 {x y:α}{xs:List α}:atI (x::y::xs) 1=some y:=Jfq (n:=1) rfl
theorem Jsv {x y z:α}{xs:List α}:atI (x::y::z::xs) 2=some z:=Jfq (n:=2) rfl
theorem Jsw {x y z u:α}{xs:List α}:atI (x::y::z::u::xs) 3=some u:=Jfq (n:=3) rfl
theorem Jsx {x y z u v:α}{xs:List α}:atI (x::y::z::u::v::xs) 4=some v:=Jfq (n:=4) rfl
theorem Jz3 {xs:List α}{n:Int}{x:α}(h0:0<=n) (e:xs[n.toNat]?=some x):atI xs n=some x:=by
 have:=Jfq e
 rwa [Int.toNat_of_nonneg h0] at this
theorem Jjs (i:Int):tyI (.int i) h=some .int:=rfl
theorem Jn7 (x:Str):tyI (.str x) h=some .str:=rfl
theorem Jn8 (xs:List IV):tyI (.tup xs) h=some .tup:=rfl
theorem Jvb (b:Bool):tyI (.bl b) h=some .bl:=rfl
theorem Jn5:tyI .non h=some .non:=rfl
theorem Jn6 (xs:List IV):tyI (.rol xs) h=some .lst:=rfl
theorem Jzu {i:Nat}{xs:List IV}(e:h[i]?=some (.lst xs)):tyI (.ref i) h=some .lst:=by simp[tyI,e]
theorem grow {i:Nat}{o:IO}{g:IH}(e:h[i]?=some o):(h++g)[i]?=some o:=by
 rw[List.getElem?_append_left (List.getElem?_eq_some_iff.mp e).1];exact e
theorem grown {o:IO}:(h++[o])[h.length]?=some o:=by simp
theorem Jh7 {i:Nat}{o:IO}(e:h[i]?=some o):i<h.length:=(List.getElem?_eq_some_iff.mp e).1
theorem Jmc (f:IV->Bool):∀xs:List IV,Jmb (xs.map λ x=>.bl (f x))=some (xs.map f)
 | []=>rfl
 | x::xs=>by simp[Jmb,Jmc f xs]
theorem all_map {f:IV->Bool}{i:Nat}{xs:List IV}(e:h[i]?=some (.lst (xs.map λ x=>.bl (f x)))):allI (.ref i) h=.ok (.bl (xs.all f)) h:=by
 simp[allI,e,Jmc,List.all_map,Function.comp_def]
end
noncomputable def Ex (h h':IH):Prop:=∃g,h'=h++g
theorem Ex.refl (h:IH):Ex h h:=⟨[],by simp⟩
theorem Ex.trans {h h1 h2:IH}(a:Ex h h1) (b:Ex h1 h2):Ex h h2:=by
 obtain⟨g,rfl⟩:=a
 obtain⟨g',rfl⟩:=b
 exact⟨g++g',by simp⟩
theorem Ex.get {h h':IH}(a:Ex h h'){i:Nat}{o:IO}(e:h[i]?=some o):h'[i]?=some o:=by
 obtain⟨g,rfl⟩:=a
 exact grow e
theorem Ex.one (h:IH) (o:IO):Ex h (h++[o]):=⟨[o],rfl⟩
theorem Ex.len {h h':IH}(a:Ex h h'):h.length<=h'.length:=by
 obtain⟨g,rfl⟩:=a
 simp
section
variable {α:Type}{h:IH}
theorem Jz7 {chk:IH->Prop}{t:T1}{e:E1}{caps:ISt}{p:IV->Bool}{f:IV->IV}(i0:Nat):∀{xs acc:List IV}{o:Option IV}{h1:IH},h1[i0]?=some (.lst acc)->(∀h2,(∀j ob,j≠i0->h1[j]?=some ob->h2[j]?=some ob)->chk h2)->acc.length+xs.length<sizeLine ->
  (∀x∈xs,∀h2,(∀j ob,j≠i0->h1[j]?=some ob->h2[j]?=some ob)->WR (t (some x::caps) h2) λ b h3=>b=p x/\Ex h2 h3) ->
  (∀x∈xs,p x=true->∀h2,(∀j ob,j≠i0->h1[j]?=some ob->h2[j]?=some ob)->WR (e (some x::caps) h2) λ v h3=>v=f x/\Ex h2 h3) ->
  WR (Jdg chk (gNm 0) t e i0 xs (o::caps) h1) λ v h3=>v=.ref i0/\∃g,h3=h1.set i0 (.lst (acc++(xs.filter p).map f))++g
 | [],acc,o,h1,hi,hc,_,_,_=>by
  unfold Jdg
  rw[if_pos (hc h1 λ _ _ _ q=>q)]
  refine⟨rfl,[],?_⟩
  simp only[List.filter_nil,List.map_nil,List.append_nil]
  refine(List.ext_getElem? λ j=>?_)
  by_cases hj:j=i0
  ·subst hj
   rw[hi,List.getElem?_set_self (Jh7 hi)]
  ·rw[List.getElem?_set_ne (Ne.symm hj)]
 | x::xs,acc,o,h1,hi,hc,hl,ht,he=>by
  unfold Jdg
  rw[if_pos (hc h1 λ _ _ _ q=>q)]
  dsimp only[gNm,List.set_cons_zero]
  have hl':acc.length+xs.length+1<sizeLine:=by simpa [Nat.add_assoc] using hl
  obtain⟨b,h2,e1,rfl,x2⟩:=(ht x List.mem_cons_self h1 λ _ _ _ q=>q).eq
  rw[e1]
  have k12:∀j ob,j≠i0->h1[j]?=some ob->h2[j]?=some ob:=λ j ob _ q=>x2.get q
  cases hp:p x with
  | false =>
   dsimp only
   refine WR.mono (Jz7 i0 (x2.get hi) (λ h3 q=>hc h3 λ j ob n r=>q j ob n (k12 j ob n r)) (by omega) (λ y hy h3 q=>ht y (List.mem_cons_of_mem _ hy) h3 λ j ob n r=>q j ob n (k12 j ob n r))
    λ y hy hpy h3 q=>he y (List.mem_cons_of_mem _ hy) hpy h3 λ j ob n r=>q j ob n (k12 j ob n r)) λ v h3 ⟨ev,g,eg⟩=>⟨ev,?_⟩
   obtain⟨g2,rfl⟩:=x2
   refine⟨g2++g,?_⟩
   rw[eg,List.set_append_left (h:=Jh7 hi)]
   simp[hp]
  | true =>
   dsimp only
   obtain⟨v,h3,e3,rfl,x3⟩:=(he x List.mem_cons_self hp h2 k12).eq
   rw[e3]
   dsimp only
   rw[x3.get (x2.get hi)]
   dsimp only
   rw[if_pos (by omega)]
   have k13:∀j ob,j≠i0->h1[j]?=some ob->(h3.set i0 (.lst (acc++[f x])))[j]?=some ob:=λ j ob n q=>by
    rw[List.getElem?_set_ne (Ne.symm n)]
    exact x3.get (x2.get q)
   refine WR.mono (Jz7 i0 (acc:=acc++[f x]) (by rw[List.getElem?_set_self (Jh7 (x3.get (x2.get hi)))]) (λ h4 q=>hc h4 λ j ob n r=>q j ob n (k13 j ob n r)) (by simp;omega) (λ y hy h4 q=>ht y (List.mem_cons_of_mem _ hy) h4 λ j ob n r=>q j ob n (k13 j ob n r))
    λ y hy hpy h4 q=>he y (List.mem_cons_of_mem _ hy) hpy h4 λ j ob n r=>q j ob n (k13 j ob n r)) λ v h4 ⟨ev,g,eg⟩=>⟨ev,?_⟩
   obtain⟨g3,q3⟩:=x2.trans x3
   refine⟨g3++g,?_⟩
   rw[eg,q3,List.set_append_left (h:=Jh7 hi),List.set_append_left (h:=by rw[List.length_set];exact Jh7 hi),List.set_set]
   simp[hp]
theorem J18 {it:I1}{t:T1}{e:E1}{js:List Nat}{σ:ISt}{xs:List IV}{chk:IH->Prop}{p:IV->Bool}{f:IV->IV}{h0:IH}(hit:WR (it σ h0) λ J h1=>J.xs=xs/\J.chk=chk/\h1=h) (hl:xs.length<sizeLine)
  (hc:∀h2:IH,(∀(j:Nat) (ob:IO),h[j]?=some ob->h2[j]?=some ob)->chk h2)
  (ht:∀x∈xs,∀h2:IH,(∀(j:Nat) (ob:IO),h[j]?=some ob->h2[j]?=some ob)->WR (t (some x::js.map λ j=>(σ[j]?).join) h2) λ b h3=>b=p x/\Ex h2 h3)
  (he:∀x∈xs,p x=true->∀h2:IH,(∀(j:Nat) (ob:IO),h[j]?=some ob->h2[j]?=some ob)->WR (e (some x::js.map λ j=>(σ[j]?).join) h2) λ v h3=>v=f x/\Ex h2 h3) :
  WR (Jaa it 1 js (gNm 0) t e σ h0) λ v h3=>v=.ref h.length/\∃g,h3=h++.lst ((xs.filter p).map f)::g:=by
 obtain⟨J,h1,e1,q1,q2,rfl⟩:=hit.eq
 unfold Jaa
 rw[e1]
 show WR (Jdg J.chk (gNm 0) t e h1.length J.xs (none::js.map λ j=>(σ[j]?).join) (h1++[.lst []])) _
 rw[q1,q2]
 have lift:∀{h2:IH},(∀j ob,j≠h1.length->(h1++[IO.lst []])[j]?=some ob->h2[j]?=some ob)->∀j ob,h1[j]?=some ob->h2[j]?=some ob:=λ q j ob r=>q j ob (Nat.ne_of_lt (Jh7 r)) (grow r)
 refine WR.mono (Jz7 (p:=p) (f:=f) h1.length (acc:=[]) grown (λ h2 q=>hc h2 (lift q)) (by simpa using hl) (λ x hx h2 q=>ht x hx h2 (lift q)) λ x hx hp h2 q=>he x hx hp h2 (lift q)) λ v h3 ⟨ev,g,eg⟩=>⟨ev,g,?_⟩
 rw[eg]
 simp
theorem filt {α:Type}(xs:List α):xs.filter (λ _=>true)=xs:=List.filter_eq_self.mpr (by simp)
theorem J7 {it:I1}{e:E1}{js:List Nat}{σ:ISt}{xs:List IV}{chk:IH->Prop}{f:IV->IV}{h0:IH}(hit:WR (it σ h0) λ J h1=>J.xs=xs/\J.chk=chk/\h1=h) (hl:xs.length<sizeLine)
  (hc:∀h2:IH,(∀(j:Nat) (ob:IO),h[j]?=some ob->h2[j]?=some ob)->chk h2)
  (he:∀x∈xs,∀h2:IH,(∀(j:Nat) (ob:IO),h[j]?=some ob->h2[j]?=some ob)->WR (e (some x::js.map λ j=>(σ[j]?).join) h2) λ v h3=>v=f x/\Ex h2 h3) :
  WR (Jaa it 1 js (gNm 0) Jaw e σ h0) λ v h3=>v=.ref h.length/\∃g,h3=h++.lst (xs.map f)::g:=by
 have:=J18 (p:=λ _=>true) (f:=f) (t:=Jaw) (e:=e) (js:=js) (σ:=σ) (h:=h) hit hl hc (λ _ _ h2 _=>⟨rfl,.refl _⟩) λ x hx _ h2 q=>he x hx h2 q
 rwa [filt] at this
theorem Jp {o:IO}{g:IH}:(h++o::g)[h.length]?=some o:=by simp
theorem Ex.cons (h:IH) (o:IO) (g:IH):Ex h (h++o::g):=⟨_,rfl⟩
end
section
variable {σ:ISt}{h h1:IH}{Q:IV->IH->Prop}{J:ItI->IH->Prop}
theorem Jpn (e:E1):WR (iAny e σ h) J=WR (e σ h) λ v h1=>WR (Jrk v h1) J:=by unfold iAny;rw[Je]
theorem Jvo (f:List IV->IH->Res ItI) (a:A1):WR (iRg f a σ h) J=WR (a σ h) λ vs h1=>WR (f vs h1) J:=by unfold iRg;rw[Je]
theorem Jca (i:Nat):WR (Jrk (.ref i) h) J=∃xs,h[i]?=some (.lst xs)/\J ⟨xs,λ h'=>h'[i]?=some (.lst xs)⟩ h:=by
 show WR (itOf (.ref i) h) J=_
 unfold itOf
 cases e:h[i]? with
 | none=>simp[WR,e]
 | some o=>cases o<;>simp[WR,e]
theorem Jvq (xs:List IV):WR (Jrk (.rol xs) h) J=J ⟨xs,λ _=>True⟩ h:=rfl
theorem Jvs (xs:List IV):WR (Jrk (.tup xs) h) J=J ⟨xs,λ _=>True⟩ h:=rfl
theorem Jvr (x:Str):WR (Jrk (.str x) h) J=J ⟨Jki x,λ _=>True⟩ h:=rfl
theorem J2b (i:Nat):WR (Je9 [.ref i] h) J=∃xs,h[i]?=some (.lst xs)/\J ⟨Jg5 0 xs,λ h'=>h'[i]?=some (.lst xs)⟩ h:=by
 show WR (Je9 [.ref i] h) J=_
 unfold Je9
 cases e:h[i]? with
 | none=>simp[WR,e]
 | some o=>cases o<;>simp[WR,e]
theorem Jpp (j:Int):WR (Jec [.int j] h) J=((-(2^62)<=j/\j<2^62)/\J ⟨rngI 0 j,λ _=>True⟩ h):=by
 unfold Jec;rw[Jeo];exact propext ⟨λ ⟨a,b⟩=>(Classical.em _).elim (λ q=>⟨q,a q⟩) λ q=>(b q).elim,λ ⟨a,b⟩=>⟨λ _=>b,λ q=>absurd a q⟩⟩
theorem Jpq (i j:Int):WR (Jy8 [.int i,.int j] h) J=((-(2^62)<=i/\i<2^62/\ -(2^62)<=j/\j<2^62)/\J ⟨rngI i j,λ _=>True⟩ h):=by
 unfold Jy8;rw[Jeo];exact propext ⟨λ ⟨a,b⟩=>(Classical.em _).elim (λ q=>⟨q,a q⟩) λ q=>(b q).elim,λ ⟨a,b⟩=>⟨λ _=>b,λ q=>absurd a q⟩⟩
theorem Ja0 (i j:Int):(rngI i j).length=(j-i).toNat:=by simp[rngI]
theorem Jkq (i j:Int) (n:Nat) (hn:n<(rngI i j).length):(rngI i j)[n]=.int (i+n):=by simp[rngI]
theorem J0f (xs:List IV) (n:Nat) (hn:n<(Jg5 0 xs).length):(Jg5 0 xs)[n]=.tup [.int n,xs[n]'(by rwa [Jea] at hn)]:=by
 have:=Ji8 xs 0 n
 rw[List.getElem?_eq_getElem hn,List.getElem?_eq_getElem (by rwa [Jea] at hn)] at this
 simpa using this
theorem Jv3 (i:Nat) (lo hi:Option Int):WR (slI (.ref i) lo hi h) Q=∃xs,h[i]?=some (.lst xs)/\Q (.ref h.length) (h++[.lst (cutI xs lo hi)]):=by
 unfold slI
 cases e:h[i]? with
 | none=>simp[WR,e]
 | some o=>cases o<;>simp[WR,e]
theorem Jv4 (xs:List IV) (lo hi:Option Int):WR (slI (.rol xs) lo hi h) Q=Q (.ref h.length) (h++[.lst (cutI xs lo hi)]):=rfl
theorem Jqo (n d:Nat):HT.sIx n d none=d:=HT.sIx_none n d
theorem Jp7 {α:Type}(xs:List α) (n:Nat):cutI xs none (some (n:Int))=xs.take n:=by
 unfold cutI
 rw[Jqo,HT.sIx_nat]
 simp
theorem Jwo {α:Type}(xs:List α) (n:Nat):cutI xs (some (n:Int)) none=xs.drop n:=by
 unfold cutI
 rw[Jqo,HT.sIx_nat]
 by_cases hn:n<=xs.length
 ·rw[Nat.min_eq_left hn]
  exact List.take_of_length_le (by simp)
 ·rw[Nat.min_eq_right (by omega),List.drop_length,List.drop_eq_nil_of_le (by omega)]
  simp
theorem Jz8 {α:Type}(xs:List α) (n m:Nat):cutI xs (some (n:Int)) (some (m:Int))=(xs.take m).drop n:=by
 unfold cutI
 rw[HT.sIx_nat,HT.sIx_nat]
 refine List.ext_getElem? λ i=>?_
 simp only[List.getElem?_take,List.getElem?_drop]
 by_cases h1:n+i<xs.length
 ·rw[Nat.min_eq_left (show n<=xs.length by omega)]
  by_cases h3:n+i<m
  ·rw[if_pos h3,if_pos (by omega)]
  ·rw[if_neg h3,if_neg (by omega)]
 ·rw[show xs[n+i]?=none from List.getElem?_eq_none (by omega),show xs[min n xs.length+i]?=none from List.getElem?_eq_none (by omega)]
  simp
variable {P:Pg}{m:Str}{n i:Nat}{o:E1}{a:A1}{xs:List IV}{c:Str}{fs:List (Str×IV)}
theorem Jhg {g:IV->List IV->IH->Res IV}(e:o σ h=.ok (.ref i) h1) (hl:h1[i]?=some (.lst xs)) (hg:bmOf "list" m n=some g):WR (eDot P m n o a σ h) Q=WR (a σ h1) λ vs h2=>WR (g (.ref i) vs h2) Q:=by
 unfold eDot
 rw[e]
 have hi:Jo1 (.ref i) h1=false:=by simp[Jo1,hl]
 have ht:tyS (.ref i) h1="list":=by simp[tyS,hl]
 dsimp only
 rw[hi,ht,hg]
 dsimp only
 rw[if_neg Bool.false_ne_true]
 unfold eBm
 rw[e,Je,Jhh]
 have:tyOk "list" (.ref i) h1=true:=by simp[tyOk,hl]
 rw[if_pos this,Je]
theorem Jpl {f:List IV->IH->Res IV}{d:List IV}(e:o σ h=.ok (.ref i) h1) (hi:h1[i]?=some (.ins c fs)) (hf:fs.lookup m=none) (hd:Jot P m n c=some (f,d)):WR (eDot P m n o a σ h) Q=WR (a σ h1) λ vs h2=>WR (f (.ref i::(vs++d)) h2) Q:=by
 unfold eDot
 rw[e]
 have hi':Jo1 (.ref i) h1=true:=by simp[Jo1,hi]
 dsimp only
 rw[hi',if_pos rfl]
 unfold Jws
 rw[e,Je,Jhh]
 dsimp only
 rw[hi]
 dsimp only
 rw[hd,hf]
 dsimp only
 rw[Je]
theorem Jen (y:IV):WR (Jg2 (.ref i) [y] h) Q=∃xs,h[i]?=some (.lst xs)/\xs.length<sizeLine/\Q .non (h.set i (.lst (xs++[y]))):=by
 unfold Jg2
 cases e:h[i]? with
 | none=>simp[WR,e]
 | some ob =>
  cases ob with
  | lst xs=>by_cases hz:xs.length<sizeLine<;>simp[WR,e,hz]
  | _=>simp[WR,e]
theorem Jd2:bmOf "list" "append" 1=some Jg2:=by kernel_rfl
theorem Jf {f:Str}(e:h[i]?=some (.ins c fs)):Jeb f (.ref i) h=fs.lookup f:=by simp[Jeb,e]
theorem Jly (xs:List IV):WR (Juh (.tup xs) h) Q=Q (.ref h.length) (h++[.lst xs]):=rfl
theorem Jv8:WR (Jjr (.ref i) h) Q=∃xs,h[i]?=some (.lst xs)/\Q (.tup xs) h:=by
 unfold Jjr
 cases e:h[i]? with
 | none=>simp[WR,e]
 | some ob=>cases ob<;>simp[WR,e]
end
section
variable {σ:ISt}{h:IH}{Q:IV->IH->Prop}
theorem Jvh (i j:Nat):WR (Jr (.ref i) (.ref j) h) Q=∃xs,h[i]?=some (.lst xs)/\∃ys,h[j]?=some (.lst ys)/\xs.length+ys.length<=sizeLine/\Q (.ref h.length) (h++[.lst (xs++ys)]):=by
 unfold Jr
 cases e:h[i]? with
 | none=>simp[WR,e]
 | some o =>
  cases e':h[j]? with
  | none=>cases o<;>simp[WR,e,e']
  | some o' =>
   cases o<;>cases o'<;>simp only[e,e',Jeo,Jhh,Jyp,Option.some.injEq,IO.lst.injEq,reduceCtorEq,exists_eq_left',false_and,and_false,exists_false,imp_false,Decidable.not_not]
   simp only[eq_iff_iff]
   exact⟨λ ⟨a,b⟩=>⟨b,a b⟩,λ ⟨a,b⟩=>⟨λ _=>b,a⟩⟩
end
section
variable {σ:ISt}{h h1:IH}{Q:IV->IH->Prop}{P:Pg}{m:Str}{n i:Nat}{o:E1}{a:A1}{x:Str}
theorem Js5:bmOf "list" "extend" 1=some Jg7:=by kernel_rfl
theorem Jqs:∀zs:List Str,Jls (zs.map IV.str)=some zs
 | []=>rfl
 | z::zs=>by
  rw[List.map_cons,Jls,Jqs zs];rfl
end
section
variable {σ:ISt}{h:IH}{Q:IV->IH->Prop}{i:Nat}
theorem Jl1:WR (sumI (.ref i) h) Q=∃xs,h[i]?=some (.lst xs)/\∃ns,Jdh xs=some ns/\Q (.int ns.sum) h:=by
 unfold sumI
 cases e:h[i]? with
 | none=>simp[WR,e]
 | some ob =>
  cases ob with
  | lst xs=>cases q:Jdh xs<;>simp[WR,e,q]
  | _=>simp[WR,e]
theorem Jbv:∀ns:List Int,Jdh (ns.map IV.int)=some ns
 | []=>rfl
 | n::ns=>by
  rw[List.map_cons,Jdh,Jbv ns];rfl
theorem Jvv (aa:A1) (md:E1):WR (Jmm aa md σ h) Q=WR (aa σ h) λ xs h1=>WR (md σ h1) λ d h2=>∃i,xs=[.ref i]/\∃ys,h2[i]?=some (.lst ys)/\∃ns,Jdh ys=some ns/\Q (maxD ns d) h2:=by
 unfold Jmm
 rw[Je]
 congr 1;funext xs h1
 rw[Je]
 congr 1;funext d h2
 match xs with
 | [.ref i] =>
  simp only[List.cons.injEq,IV.ref.injEq,and_true,exists_eq_left']
  cases e:h2[i]? with
  | none=>simp[WR]
  | some ob =>
   cases ob with
   | lst ys=>cases q:Jdh ys<;>simp[WR,q]
   | _=>simp[WR]
 | []=>simp[WR]
 | [.non]=>simp[WR]
 | [.bl _]=>simp[WR]
 | [.int _]=>simp[WR]
 | [.str _]=>simp[WR]
 | [.tup _]=>simp[WR]
 | [.rol _]=>simp[WR]
 | x::_::_=>cases x<;>simp[WR]
theorem Jvt (aa:A1):WR (Ji7 aa σ h) Q=WR (aa σ h) λ xs h1=>∃i,xs=[.ref i]/\∃ys,h1[i]?=some (.lst ys)/\∃zs,Jls ys=some zs/\zs.length+1<scanBound/\Q (.int (cntD (Jdf zs) zs.length)) h1:=by
 unfold Ji7
 rw[Je]
 congr 1;funext xs h1
 match xs with
 | [.ref i] =>
  simp only[List.cons.injEq,IV.ref.injEq,and_true,exists_eq_left']
  cases e:h1[i]? with
  | none=>simp[WR]
  | some ob =>
   cases ob with
   | lst ys =>
    cases q:Jls ys with
    | none=>simp[WR,q]
    | some zs=>by_cases hz:zs.length+1<scanBound<;>simp[WR,q,hz]
   | _=>simp[WR]
 | []=>simp[WR]
 | [.non]=>simp[WR]
 | [.bl _]=>simp[WR]
 | [.int _]=>simp[WR]
 | [.str _]=>simp[WR]
 | [.tup _]=>simp[WR]
 | [.rol _]=>simp[WR]
 | x::_::_=>cases x<;>simp[WR]
theorem Jme {zs:List Str}(nd:zs.Nodup):∀i,i<=zs.length->cntD (Jdf zs) i=i
 | 0,_=>rfl
 | i+1,hi=>by
  have ih:=Jme nd i (by omega)
  have hm:metB (Jdf zs) i (Jdf zs i)=false:=by
   unfold metB
   rw[List.any_eq_false]
   intro j hj
   have hj:=List.mem_range.mp hj
   simp only[decide_eq_true_eq]
   intro e
   simp only[Jdf,List.getD_eq_getElem?_getD,List.getElem?_eq_getElem (show j<zs.length by omega),List.getElem?_eq_getElem (show i<zs.length by omega),Option.getD_some] at e
   have:=(List.getElem_inj nd).mp e
   omega
  unfold cntD
  rw[hm,ih]
  rfl
theorem Jzo (f:Nat->Int):∀(n j:Nat),j<n->f j<=Jdc f n
 | 0,_,h=>by omega
 | 1,j,h=>by
  obtain rfl:j=0:=by omega
  exact Int.le_refl _
 | n+2,j,h=>by
  rw[Jhe f (by omega)]
  by_cases hj:j=n+1
  ·subst hj;split<;>omega
  ·have:=Jzo f (n+1) j (by omega)
   split<;>omega
theorem Ju9 (f:Nat->Int) (b:Int):∀(n:Nat),0<n->(∀j,j<n->f j<=b)->Jdc f n<=b
 | 0,h,_=>by omega
 | 1,_,q=>q 0 (by omega)
 | n+2,_,q=>by
  rw[Jhe f (by omega)]
  have:=Ju9 f b (n+1) (by omega) λ j hj=>q j (by omega)
  have:=q (n+1) (by omega)
  split<;>omega
end
section
variable {h:IH}{Q:IV->IH->Prop}{i:Nat}
theorem Jvm {j:Nat}{xs ys:List IV}(hi:h[i]?=some (.lst xs)) (hj:h[j]?=some (.lst ys)) (hl:xs.length+ys.length<=sizeLine):WR (Jg7 (.ref i) [.ref j] h) Q=Q .non (h.set i (.lst (xs++ys))):=by
 unfold Jg7
 simp only[hi,hj]
 rw[if_pos hl]
 rfl
end
noncomputable def KpB (i0:Nat) (h h':IH):Prop:=∀(j:Nat) (ob:IO),j≠i0->h[j]?=some ob->h'[j]?=some ob
noncomputable def Kp (h h':IH):Prop:=∀(j:Nat) (ob:IO),h[j]?=some ob->h'[j]?=some ob
theorem KpB.trans {i0:Nat}{a b c:IH}(p:KpB i0 a b) (q:KpB i0 b c):KpB i0 a c:=λ j ob n e=>q j ob n (p j ob n e)
theorem Kp.trans {a b c:IH}(p:Kp a b) (q:Kp b c):Kp a c:=λ j ob e=>q j ob (p j ob e)
theorem Kp.refl (a:IH):Kp a a:=λ _ _ e=>e
theorem Kp.but {i0:Nat}{a b:IH}(p:Kp a b):KpB i0 a b:=λ j ob _ e=>p j ob e
theorem Ex.kp {a b:IH}(x:Ex a b):Kp a b:=λ _ _ e=>x.get e
theorem J20 {chk:IH->Prop}{e:E1}{caps:ISt}{D:IV->IV->IH->Prop}(i0:Nat) (mono:∀x y h2 h3,KpB i0 h2 h3->D x y h2->D x y h3):∀{xs acc:List IV}{o:Option IV}{h1:IH},h1[i0]?=some (.lst acc)->(∀h2,KpB i0 h1 h2->chk h2)->acc.length+xs.length<sizeLine ->
  (∀x∈xs,∀h2:IH,KpB i0 h1 h2->i0<h2.length->WR (e (some x::caps) h2) λ v h3=>Ex h2 h3/\D x v h3) ->
  WR (Jdg chk (gNm 0) Jaw e i0 xs (o::caps) h1) λ v h3=>v=.ref i0/\∃ys,h3[i0]?=some (.lst (acc++ys))/\ys.length=xs.length/\KpB i0 h1 h3/\∀(i:Nat) x y,xs[i]?=some x->ys[i]?=some y->D x y h3
 | [],acc,o,h1,hi,hc,_,_=>by
  unfold Jdg
  rw[if_pos (hc h1 λ _ _ _ q=>q)]
  exact⟨rfl,[],by simpa using hi,rfl,λ _ _ _ q=>q,λ i x y q=>by simp at q⟩
 | x::xs,acc,o,h1,hi,hc,hl,he=>by
  unfold Jdg
  rw[if_pos (hc h1 λ _ _ _ q=>q)]
  dsimp only[gNm,List.set_cons_zero,Jaw]
  have hl':acc.length+xs.length+1<sizeLine:=by simpa [Nat.add_assoc] using hl
  obtain⟨v,h3,e3,x3,dv⟩:=(he x List.mem_cons_self h1 (λ _ _ _ q=>q) (Jh7 hi)).eq
  rw[e3]
  dsimp only
  rw[x3.get hi]
  dsimp only
  rw[if_pos (by omega)]
  have k34:KpB i0 h3 (h3.set i0 (.lst (acc++[v]))):=λ j ob n q=>by
   rw[List.getElem?_set_ne (Ne.symm n)];exact q
  have k14:KpB i0 h1 (h3.set i0 (.lst (acc++[v]))):=x3.kp.but.trans k34
  refine WR.mono (J20 i0 mono (acc:=acc++[v]) (by rw[List.getElem?_set_self (Jh7 (x3.get hi))]) (λ h4 q=>hc h4 (k14.trans q)) (by simp;omega) λ y hy h4 q=>he y (List.mem_cons_of_mem _ hy) h4 (k14.trans q)) ?_
  rintro w h5 ⟨rfl,ys,g5,ln,k5,d5⟩
  refine⟨rfl,v::ys,by simpa using g5,by simp[ln],k14.trans k5,?_⟩
  intro i x' y' q1 q2
  cases i with
  | zero =>
   simp only[List.getElem?_cons_zero,Option.some.injEq] at q1 q2
   subst q1;subst q2
   exact mono _ _ _ _ (k34.trans k5) dv
  | succ i=>exact d5 i x' y' (by simpa using q1) (by simpa using q2)
theorem Jym {h h0:IH}{it:I1}{e:E1}{js:List Nat}{σ:ISt}{xs:List IV}{chk:IH->Prop}(D:IV->IV->IH->Prop) (hit:WR (it σ h0) λ J h1=>J.xs=xs/\J.chk=chk/\h1=h) (hl:xs.length<sizeLine)
  (mono:∀x y h2 h3,KpB h.length h2 h3->D x y h2->D x y h3) (hc:∀h2:IH,Kp h h2->chk h2)
  (he:∀x∈xs,∀h2:IH,Kp h h2->h.length<h2.length->WR (e (some x::js.map λ j=>(σ[j]?).join) h2) λ v h3=>Ex h2 h3/\D x v h3) :
  WR (Jaa it 1 js (gNm 0) Jaw e σ h0) λ v h3=>v=.ref h.length/\∃ys,h3[h.length]?=some (.lst ys)/\ys.length=xs.length/\Kp h h3/\∀(i:Nat) x y,xs[i]?=some x->ys[i]?=some y->D x y h3:=by
 obtain⟨J,h1,e1,q1,q2,rfl⟩:=hit.eq
 unfold Jaa
 rw[e1]
 show WR (Jdg J.chk (gNm 0) Jaw e h1.length J.xs (none::js.map λ j=>(σ[j]?).join) (h1++[.lst []])) _
 rw[q1,q2]
 have lift:∀{h2:IH},KpB h1.length (h1++[IO.lst []]) h2->Kp h1 h2:=λ q j ob r=>q j ob (Nat.ne_of_lt (Jh7 r)) (grow r)
 refine WR.mono (J20 h1.length mono (acc:=[]) grown (λ h2 q=>hc h2 (lift q)) (by simpa using hl) λ x hx h2 q ln=>he x hx h2 (lift q) ln) ?_
 rintro v h3 ⟨rfl,ys,g3,ln,k3,d3⟩
 exact⟨rfl,ys,by simpa using g3,ln,lift k3,d3⟩
section
variable {h:IH}
end
noncomputable def Jwm (o:Obj) (q:Str):Bool:=match o with
 | ⟨_,_,.fields vs,_⟩=>(match vs.toList with|_::.str n _::_=>n==q|_=>false)
 | _=>false
noncomputable def Jlu (K:W.Frag) (q:Str) (p:Addr):Bool:=(K.lookup p).isNone&&K.all (λ e=>!(Jwm e.2 q)||W.codeHdIn K e.1 p)&&K.any (λ e=>Jwm e.2 q&&W.codeHdIn K e.1 p)
noncomputable def Jip (K:W.Frag):List Str->List Addr->Bool
 | [],[]=>true
 | q::qs,p::ps=>Jlu K q p&&!ps.contains p&&Jip K qs ps
 | _,_=>false
theorem Jro {K:W.Frag}{c:Addr}{o:Obj}(h:K.lookup c=some o):(c,o)∈K:=by
 induction K with
 | nil=>cases h
 | cons p K ih =>
  obtain⟨b,o'⟩:=p
  rw[List.lookup_cons] at h
  split at h
  ·rename_i e
   cases h
   rw[beq_iff_eq.mp e]
   exact List.mem_cons_self
  ·exact List.mem_cons_of_mem _ (ih h)
theorem Jlu.code {K:W.Frag}{q:Str}{p:Addr}(h:Jlu K q p=true):∀cdv,W.codeIn K cdv q=true->∃c,cdv=.ref c/\W.codeHdIn K c p=true:=by
 simp only[Jlu,Bool.and_eq_true,List.all_eq_true,Bool.or_eq_true,Bool.not_eq_true'] at h
 intro cdv e
 unfold W.codeIn at e
 split at e
 ·rename_i c
  refine⟨c,rfl,?_⟩
  cases hk:K.lookup c with
  | none=>rw[hk] at e;cases e
  | some o =>
   rw[hk] at e
   rcases h.1.2 _ (Jro hk) with z|z
   ·exfalso
    have e':Jwm o q=true:=by
     obtain⟨oc,od,dt,sl⟩:=o
     cases dt<;>first|exact e|cases e
    have z':Jwm o q=false:=z
    rw[e'] at z'
    cases z'
   ·exact z
 ·cases e
theorem Jlu.some {K:W.Frag}{q:Str}{p:Addr}(h:Jlu K q p=true):K.lookup p=none/\∃c,W.codeHdIn K c p=true:=by
 simp only[Jlu,Bool.and_eq_true,List.any_eq_true,Option.isNone_iff_eq_none] at h
 obtain⟨⟨h1,_⟩,e,_,h2⟩:=h
 exact⟨h1,e.1,h2.2⟩
theorem Jip.mem {K:W.Frag}:∀{qs:List Str}{ts:List Addr},Jip K qs ts=true->ts.Nodup/\qs.length=ts.length/\(∀(i:Nat) (q:Str),qs[i]?=some q->∃p,ts[i]?=some p/\Jlu K q p=true)/\∀p∈ts,∃q,Jlu K q p=true
 | [],[],_=>⟨.nil,rfl,λ i q e=>by simp at e,λ p hp=>by cases hp⟩
 | q::qs,p::ps,h=>by
  simp only[Jip,Bool.and_eq_true,Bool.not_eq_true',List.contains_eq_mem,decide_eq_false_iff_not] at h
  obtain⟨⟨h1,h2⟩,h3⟩:=h
  obtain⟨a,b,c,d⟩:=Jip.mem h3
  refine⟨List.nodup_cons.mpr ⟨h2,a⟩,by simp[b],λ i r e=>?_,λ r hr=>?_⟩
  ·cases i with
   | zero =>
    have e':some q=some r:=e
    cases e'
    exact⟨p,rfl,h1⟩
   | succ i=>exact c i r e
  ·rcases List.mem_cons.mp hr with rfl|hr
   ·exact⟨q,h1⟩
   ·exact d r hr
 | [],_::_,h=>by cases h
 | _::_,[],h=>by cases h
section
variable {α β:Type}{σ:ISt}{h:IH}
noncomputable def WE (r:Res α) (Q:α->IH->Prop) (Z:Nat->IH->Prop):Prop:=match r with
 | .ok a h=>Q a h
 | .exc n h=>Z n h
 | .stuck=>False
noncomputable def WSE (r:SRes) (N:ISt->IH->Prop) (R:IV->IH->Prop) (Z:Nat->ISt->IH->Prop):Prop:=match r with
 | .next σ h=>N σ h
 | .ret v h=>R v h
 | .exc n σ h=>Z n σ h
 | _=>False
variable {Q:α->IH->Prop}{Z:Nat->IH->Prop}{N:ISt->IH->Prop}{R:IV->IH->Prop}{Y:Nat->ISt->IH->Prop}
theorem J15 {Q:β->IH->Prop}(r:Res α) (f:α->IH->Res β):WE (r.bind f) Q Z=WE r (λ a h=>WE (f a h) Q Z) Z:=by cases r<;>rfl
theorem WE.of {r:Res α}(w:WR r Q):WE r Q Z:=by
 cases r with
 | ok a h=>exact w
 | exc n h=>exact Zf w
 | stuck=>exact Zf w
theorem WE.mono {r:Res α}{Q':α->IH->Prop}{Z':Nat->IH->Prop}(w:WE r Q Z) (hq:∀a h,Q a h->Q' a h) (hz:∀n h,Z n h->Z' n h):WE r Q' Z':=by
 cases r with
 | ok a h=>exact hq _ _ w
 | exc n h=>exact hz _ _ w
 | stuck=>exact w
theorem WE.wr {r:Res α}(w:WE r Q λ _ _=>False):WR r Q:=by
 cases r with
 | ok a h=>exact w
 | exc n h=>exact w
 | stuck=>exact w
theorem WSE.of {r:SRes}(w:WS r N R):WSE r N R Y:=by
 cases r with
 | next σ h=>exact w
 | ret v h=>exact w
 | _=>exact Zf w
theorem Jq1 (r:Res α) (k:α->IH->SRes):WSE (rS σ r k) N R Y=WE r (λ a h=>WSE (k a h) N R Y) λ n h=>Y n σ h:=by cases r<;>rfl
theorem Jl3 (a b:S1):WSE (sSeq a b σ h) N R Y=WSE (a σ h) (λ σ1 h1=>WSE (b σ1 h1) N R Y) R Y:=by
 unfold sSeq;cases a σ h<;>rfl
theorem Jp1:WSE (sNil σ h) N R Y=N σ h:=rfl
theorem J2s (i:Nat) (e:E1):WSE (sSet i e σ h) N R Y=WE (e σ h) (λ v h1=>N (σ.set i (some v)) h1) λ n h=>Y n σ h:=by unfold sSet;rw[Jq1];rfl
theorem Jl2 (e:E1):WSE (Jei e σ h) N R Y=WE (e σ h) (λ _ h1=>N σ h1) λ n h=>Y n σ h:=by unfold Jei;rw[Jq1];rfl
theorem Jwe (t:T1) (a b:S1):WSE (sIf t a b σ h) N R Y=WE (t σ h) (λ c h1=>(c=true->WSE (a σ h1) N R Y)/\(c=false->WSE (b σ h1) N R Y)) λ n h=>Y n σ h:=by
 unfold sIf;rw[Jq1];congr 1;funext c h1;cases c<;>simp
theorem Jof (c:Str) (a:A1):WSE (Jh3 c a σ h) N R Y=WE (a σ h) (λ vs h1=>vs.length<=sizeLine/\Y h1.length σ (h1++[.exc c []])) λ n h=>Y n σ h:=by
 unfold Jh3;rw[Jq1];congr 1;funext vs h1
 by_cases z:vs.length<=sizeLine
 ·simp[z,WSE]
 ·simp[z,WSE]
theorem Jlw {Q:IV->IH->Prop}(f:List IV->IH->Res IV) (d:List IV) (a:A1):WE (Jn f d a σ h) Q Z=WE (a σ h) (λ vs h1=>WE (f (vs++d) h1) Q Z) Z:=by unfold Jn;rw[J15]
theorem Jqw {Q:IV->IH->Prop}{r:SRes}(w:WSE r (λ _ h=>Q .non h) Q λ n _ h=>(∃c fs,h[n]?=some (.exc c fs))/\Z n h):WE r.fin Q Z:=by
 cases r with
 | next σ h=>exact w
 | ret v h=>exact w
 | exc n σ h =>
  obtain⟨⟨c,fs,e⟩,z⟩:=w
  rw[J0h e]
  exact z
 | _=>exact Zf w
theorem J5j (b:S1) (hs:List HdI) (w:WSE (b σ h) N R λ n σ1 h1=>∃c fs,h1[n]?=some (.exc c fs)/\WS (Jbo hs c n σ1 h1) N R):WS (sTry b hs σ h) N R:=by
 unfold sTry
 cases e:b σ h with
 | next σ1 h1=>rw[e] at w;exact w
 | ret v h1=>rw[e] at w;exact w
 | exc n σ1 h1 =>
  rw[e] at w
  obtain⟨c,fs,e1,w⟩:=w
  dsimp only
  rw[e1]
  exact w
 | _=>rw[e] at w;exact Zf w
theorem J2q (sl:Option Nat) (r:SRes):WS (r.drop sl) N R=WS r (λ σ h=>N (Jlh sl none σ) h) R:=by
 unfold SRes.drop;cases r<;>rfl
theorem J5h {g:Str->Option Bool}{sl:Option Nat}{m:S1}{r:List HdI}{c:Str}{n:Nat}(e:g c=some true):WS (Jbo ((g,sl,m)::r) c n σ h) N R=WS (m (Jlh sl (some (.ref n)) σ) h) (λ σ h=>N (Jlh sl none σ) h) R:=by
 unfold Jbo;dsimp only;rw[e];dsimp only;rw[J2q]
theorem J5i {g:Str->Option Bool}{sl:Option Nat}{m:S1}{r:List HdI}{c:Str}{n:Nat}(e:g c=some false):WS (Jbo ((g,sl,m)::r) c n σ h) N R=WS (Jbo r c n σ h) N R:=by
 rw[Jbo];dsimp only;rw[e]
theorem Jzt {n:Nat}{c:Str}{fs:List (Str×IV)}(e:h[n]?=some (.exc c fs)):tyI (.ref n) h=some (.exc c):=by simp[tyI,e]
end
section
variable {mk:IV->IH->Res IV}{kf:IV->List Int}{i n:Nat}{ys:List IV}
end
end L4
namespace LW
theorem Kaz {α:Sort _}{p:α->Prop}{a':α}:(∃a,a'=a/\p a)↔p a':=exists_eq_left'
theorem Kbz {α:Sort _}{p:α->Prop}{a':α}:(∃a,a=a'/\p a)↔p a':=exists_eq_left
theorem Kcz (a b:Bool):(L3.IV.bl a=L3.IV.bl b)=(a=b):=L3.IV.bl.injEq a b
theorem Kdz (a b:Int):(L3.IV.int a=L3.IV.int b)=(a=b):=L3.IV.int.injEq a b
theorem Kez (a b:Nat):(L3.IV.ref a=L3.IV.ref b)=(a=b):=L3.IV.ref.injEq a b
theorem Kfz (a b:PySem.Str):(L3.IV.str a=L3.IV.str b)=(a=b):=L3.IV.str.injEq a b
theorem Kgz (a b:List L3.IV):(L3.IV.tup a=L3.IV.tup b)=(a=b):=L3.IV.tup.injEq a b
theorem Khz (a b:List L3.IV):(L3.IO.lst a=L3.IO.lst b)=(a=b):=L3.IO.lst.injEq a b
theorem Kiz {α:Type _}(a b:α):(some a=some b)=(a=b):=Option.some.injEq a b
theorem Kjz:(!true)=false:=Bool.not_true
theorem Kkz:(!false)=true:=Bool.not_false
theorem Klz:(true=false)=False:=Bool.true_eq_false
theorem Kmz:(false=true)=False:=Bool.false_eq_true
theorem Knz {α β:Type _}(a:α) (f:α->Option β):(some a).bind f=f a:=Option.bind_some a f
theorem Koz (p:Prop):(True->p)=p:=true_implies p
theorem Kpz (p:Prop):(False->p)=True:=false_implies p
theorem Kqz (α:Sort _):(α->True)=True:=implies_true α
theorem Krz {α:Type _}{a b:α}{l:List α}{n:Nat}:(a::l).set (n+1) b=a::l.set n b:=List.set_cons_succ
theorem Ksz {α:Type _}{a b:α}{l:List α}:(a::l).set 0 b=b::l:=List.set_cons_zero
theorem Ktz {α:Type _}{a:α}{l m:List α}:(a::l)++m=a::(l++m):=List.cons_append
theorem Kuz {α:Type _}(l:List α):[]++l=l:=List.nil_append l
theorem Kvz {α:Type _}(l:List α):l++[]=l:=List.append_nil l
end LW
namespace LW
open PySem L2 L3 L4
noncomputable def top (i:Nat):Stmt:=PySem.Challenge.pw_dutyproof_k53_fars.main.body.getD i (.Pass ⟨0,0,0,0⟩)
noncomputable def Jew:D4:=⟨top 8,"is_whole",["thing"],["thing"],[]⟩
noncomputable def Jai:D4:=⟨top 9,"is_whole_from",["thing","least"],["thing","least"],[]⟩
noncomputable def Jc6:D4:=⟨top 10,"rounds_up",["top","bottom"],["top","bottom"],[]⟩
noncomputable def Jgl:D4:=⟨top 17,"is_name",["thing"],["thing"],[]⟩
noncomputable def Jgk:D4:=⟨top 18,"is_hold",["hold","length"],["hold","length"],[]⟩
noncomputable def Jc3:D4:=⟨top 19,"lie_apart",["one","other"],["one","other"],[]⟩
noncomputable def Jgn:D4:=⟨top 20,"lies_in",["one","other"],["one","other"],[]⟩
noncomputable def Ja8:D4:=⟨top 21,"go_together",["one","other"],["one","other"],[]⟩
noncomputable def J4:D4:=⟨top 22,"all_go_together",["holds"],["holds","place","hold"],[]⟩
noncomputable def Jc4:D4:=⟨top 23,"own_holds",["holds","length"],["holds","length"],[]⟩
noncomputable def Jgo:D4:=⟨top 24,"own_due",["due","gap"],["due","gap"],[]⟩
noncomputable def Jm:D4:=⟨Jg9 (top 25) 0,"Work.__init__",["self","name","gap","length","due","late","holds"],["self","name","gap","length","due","late","holds"],[.non,.int 0,.non]⟩
noncomputable def Jc0:D4:=⟨Jg9 (top 25) 1,"Work.held",["self"],["self"],[]⟩
noncomputable def Jeu:D4:=⟨top 27,"ceilings",["duty"],["duty","found","at","hold"],[]⟩
noncomputable def Jaq:D4:=⟨top 28,"refuse_holds",["duty"],["duty"],[]⟩
noncomputable def Jbs:D4:=⟨top 30,"comings_in",["work","span"],["work","span"],[]⟩
noncomputable def Jgj:D4:=⟨top 33,"dues_in",["work","span"],["work","span","spare"],[]⟩
noncomputable def Jif:D4:=⟨top 34,"demand",["duty","span"],["duty","span"],[]⟩
noncomputable def Jk4:D4:=⟨top 35,"asked",["duty","span"],["duty","span"],[]⟩
noncomputable def Jgi:D4:=⟨top 36,"crowded",["duty","span"],["duty","span"],[]⟩
noncomputable def Jac:D4:=⟨top 37,"refuse_crowded",["duty","far"],["duty","far"],[]⟩
noncomputable def Jk5:D4:=⟨top 38,"bends",["duty","far"],["duty","far","found","work"],[]⟩
noncomputable def J6:D4:=⟨top 39,"first_overdrawn",["duty","far"],["duty","far","bend"],[]⟩
noncomputable def Jbc:D4:=⟨top 40,"lets_by_due",["duty","far"],["duty","far"],[]⟩
noncomputable def Jc5:D4:=⟨top 44,"own_works",["works"],["works"],[]⟩
noncomputable def Jev:D4:=⟨top 45,"crowd_of",["works"],["works","greatest"],[]⟩
noncomputable def Jcx:D4:=⟨Jg9 (top 46) 0,"Duty.__init__",["self","works"],["self","works"],[]⟩
noncomputable def Jcy:D4:=⟨Jg9 (top 46) 1,"Duty.size",["self"],["self"],[]⟩
noncomputable def Jcz:D4:=⟨Jg9 (top 46) 2,"Duty.work",["self","at"],["self","at"],[]⟩
noncomputable def Jd8:D4:=⟨Jg9 (top 46) 4,"Duty.crowd",["self"],["self"],[]⟩
noncomputable def Ja9:D4:=⟨top 48,"_law_cell_at",["_law_script","_law_k"],["_law_script","_law_k"],[]⟩
noncomputable def Jbt:D4:=⟨top 49,"_law_stream",["_law_cell","_law_many"],["_law_cell","_law_many","_law_found","_law_rest","_law_k","_law_number"],[]⟩
noncomputable def Jc1:D4:=⟨top 50,"_law_plain",["_law_cell","_law_unit","_law_many"],["_law_cell","_law_unit","_law_many","_law_xs","_law_gap","_law_length","_law_last","_law_late"],[]⟩
noncomputable def Jey:D4:=⟨top 51,"_law_sums",["_law_some","_law_span"],["_law_some","_law_span","_law_total","_law_many","_law_gap","_law_length","_law_last","_law_late","_law_times"],[]⟩
noncomputable def Jba:D4:=⟨top 52,"_law_fullest",["_law_some","_law_gap"],["_law_some","_law_gap","_law_low","_law_high","_law_middle"],[]⟩
noncomputable def Jex:D4:=⟨top 53,"_law_fars",["_law_cell","_law_some"],["_law_cell","_law_some","_law_top","_law_gap","_law_found","_law_last","_law_k","_law_fullest_here"],[]⟩
noncomputable def Jbb:D4:=⟨top 54,"_law_is_full",["_law_some","_law_bend"],["_law_some","_law_bend","_law_total","_law_gap","_law_length","_law_last","_law_late"],[]⟩
noncomputable def Jgm:D4:=⟨top 55,"_law_due",["_law_some","_law_far","_law_held"],["_law_some","_law_far","_law_held","_law_total","_law_many","_law_gap","_law_length","_law_last","_law_late","_law_bend"],[]⟩
noncomputable def Jc2:D4:=⟨top 56,"_law_right",["_law_duty","_law_far","_law_due_here"],["_law_duty","_law_far","_law_due_here","_law_found","e"],[]⟩
noncomputable def Ji5:D4:=⟨top 57,"law",["_law_script"],["_law_script","_law_first","_law_unit","_law_cells","_law_some","_law_works","_law_held","_law_k","_law_gap","_law_length","_law_last","_law_late","_law_holds","_law_duty","_law_turns","_law_far"],[]⟩
noncomputable def T:Tab where
 fns:=[(("is_whole":Str),Jew),(("is_whole_from":Str),Jai),(("rounds_up":Str),Jc6),(("is_name":Str),Jgl),(("is_hold":Str),Jgk),(("lie_apart":Str),Jc3),(("lies_in":Str),Jgn),(("go_together":Str),Ja8),(("all_go_together":Str),J4),(("own_holds":Str),Jc4),(("own_due":Str),Jgo),(("ceilings":Str),Jeu),(("refuse_holds":Str),Jaq),(("comings_in":Str),Jbs),(("dues_in":Str),Jgj),(("demand":Str),Jif),(("asked":Str),Jk4),(("crowded":Str),Jgi),(("refuse_crowded":Str),Jac),(("bends":Str),Jk5),(("first_overdrawn":Str),J6),(("lets_by_due":Str),Jbc),(("own_works":Str),Jc5),(("crowd_of":Str),Jev),(("_law_cell_at":Str),Ja9),(("_law_stream":Str),Jbt),(("_law_plain":Str),Jc1),(("_law_sums":Str),Jey),(("_law_fullest":Str),Jba),(("_law_fars":Str),Jex),(("_law_is_full":Str),Jbb),(("_law_due":Str),Jgm),(("_law_right":Str),Jc2),(("law":Str),Ji5)]
 clss:=[("Work",Jm),("Duty",Jcx)]
 meths:=[("Work",([("held",Jc0)]:List (Str×D4))),("Duty",([("size",Jcy),("work",Jcz),("crowd",Jd8)]:List (Str×D4)))]
 cons:=[("MOST_LETTERS",.int 8),("MOST_HOLDS",.int 6),("THING",.int 0),("START",.int 1),("END",.int 2),("MOST_CROWDED",.int 200),("MOST_WORKS",.int 12),("MOST_CROWD",.int 80)]
 isas:=[("Work",["Work"])]
 flds:=["append","due","extend","gap","hold_tuples","late","length","name","setdefault","works"]
 frees:=["all","bool","enumerate","int","isinstance","len","list","max","range","set","sorted","str","sum","tuple"]
 razs:=["HoldsThings","TooMany"]
 xis:=[("HoldsThings",[("HoldsThings",true),("TooMany",false)]),("DutyError",[("HoldsThings",true),("TooMany",true)]),("TooMany",[("HoldsThings",false),("TooMany",true)])]
noncomputable def Jas:Str->Option Bool:=λ c=>Jb2 c [("HoldsThings",true),("TooMany",false)]
noncomputable def Jbx:Str->Option Bool:=λ c=>Jb2 c [("HoldsThings",true),("TooMany",true)]
noncomputable def Je0:Str->Option Bool:=λ c=>Jb2 c [("HoldsThings",false),("TooMany",true)]
noncomputable abbrev pg (k:Nat):Pg:=mkPg T (run T k)
noncomputable abbrev Jer (k:Nat):List IV->IH->Res IV:=run T k Jew
noncomputable abbrev Jl (k:Nat):List IV->IH->Res IV:=run T k Jai
noncomputable abbrev Jbf (k:Nat):List IV->IH->Res IV:=run T k Jc6
noncomputable abbrev Jdj (k:Nat):List IV->IH->Res IV:=run T k Jgl
noncomputable abbrev Jfn (k:Nat):List IV->IH->Res IV:=run T k Jgk
noncomputable abbrev Jch (k:Nat):List IV->IH->Res IV:=run T k Jc3
noncomputable abbrev Jdk (k:Nat):List IV->IH->Res IV:=run T k Jgn
noncomputable abbrev Ja3 (k:Nat):List IV->IH->Res IV:=run T k Ja8
noncomputable abbrev J1 (k:Nat):List IV->IH->Res IV:=run T k J4
noncomputable abbrev Jak (k:Nat):List IV->IH->Res IV:=run T k Jc4
noncomputable abbrev Jb7 (k:Nat):List IV->IH->Res IV:=run T k Jgo
noncomputable abbrev Jaj (k:Nat):List IV->IH->Res IV:=run T k Jm
noncomputable abbrev Jce (k:Nat):List IV->IH->Res IV:=run T k Jc0
noncomputable abbrev Jep (k:Nat):List IV->IH->Res IV:=run T k Jeu
noncomputable abbrev Jap (k:Nat):List IV->IH->Res IV:=run T k Jaq
noncomputable abbrev Jat (k:Nat):List IV->IH->Res IV:=run T k Jbs
noncomputable abbrev Jdi (k:Nat):List IV->IH->Res IV:=run T k Jgj
noncomputable abbrev Jib (k:Nat):List IV->IH->Res IV:=run T k Jif
noncomputable abbrev Jkv (k:Nat):List IV->IH->Res IV:=run T k Jk4
noncomputable abbrev Jfm (k:Nat):List IV->IH->Res IV:=run T k Jgi
noncomputable abbrev Jw (k:Nat):List IV->IH->Res IV:=run T k Jac
noncomputable abbrev Jio (k:Nat):List IV->IH->Res IV:=run T k Jk5
noncomputable abbrev J2 (k:Nat):List IV->IH->Res IV:=run T k J6
noncomputable abbrev Ja6 (k:Nat):List IV->IH->Res IV:=run T k Jbc
noncomputable abbrev Jci (k:Nat):List IV->IH->Res IV:=run T k Jc5
noncomputable abbrev Jeq (k:Nat):List IV->IH->Res IV:=run T k Jev
noncomputable abbrev Jcb (k:Nat):List IV->IH->Res IV:=run T k Jcx
noncomputable abbrev Jcc (k:Nat):List IV->IH->Res IV:=run T k Jcy
noncomputable abbrev Jcd (k:Nat):List IV->IH->Res IV:=run T k Jcz
noncomputable abbrev Jag (k:Nat):List IV->IH->Res IV:=run T k Ja9
noncomputable abbrev Jbq (k:Nat):List IV->IH->Res IV:=run T k Jbt
noncomputable abbrev Jcf (k:Nat):List IV->IH->Res IV:=run T k Jc1
noncomputable abbrev Jbe (k:Nat):List IV->IH->Res IV:=run T k Jey
noncomputable abbrev Ja4 (k:Nat):List IV->IH->Res IV:=run T k Jba
noncomputable abbrev Jes (k:Nat):List IV->IH->Res IV:=run T k Jex
noncomputable abbrev Ja5 (k:Nat):List IV->IH->Res IV:=run T k Jbb
noncomputable abbrev Jfo (k:Nat):List IV->IH->Res IV:=run T k Jgm
noncomputable abbrev Jcg (k:Nat):List IV->IH->Res IV:=run T k Jc2
noncomputable abbrev Jog (k:Nat):List IV->IH->Res IV:=run T k Ji5
noncomputable def Jho (k:Nat):S1:=(sRet (eAnd (eIsi Jhi (eVar 0)) (eUn (Jrw tru) (eIsi Jby (eVar 0))) tru))
theorem Jo7 (k:Nat):Jer (k+1)=fnI 1 (Jho k):=by kernel_rfl
theorem Joy (k:Nat) (x0:IV) (h:IH):Jer (k+1) [x0] h=(Jho k [some x0] h).fin:=by rw[Jo7];rfl
noncomputable def Jam (k:Nat):S1:=(sRet (eAnd (Jn (Jer k) [] (Ja (eVar 0) aNil)) (eBin cGe (eVar 0) (eVar 1)) tru))
theorem Jh8 (k:Nat):Jl (k+1)=fnI 2 (Jam k):=by kernel_rfl
theorem Jh6 (k:Nat) (x0 x1:IV) (h:IH):Jl (k+1) [x0,x1] h=(Jam k [some x0,some x1] h).fin:=by rw[Jh8];rfl
noncomputable def Jcv (k:Nat):S1:=(sRet (eBin Jaf (eBin Jfk (eBin Jr (eVar 0) (eVar 1)) (eC (.int 1))) (eVar 1)))
theorem Jnj (k:Nat):Jbf (k+1)=fnI 2 (Jcv k):=by kernel_rfl
theorem Jmz (k:Nat) (x0 x1:IV) (h:IH):Jbf (k+1) [x0,x1] h=(Jcv k [some x0,some x1] h).fin:=by rw[Jnj];rfl
noncomputable def Jcw (k:Nat):E1:=(Jd9 cLe cLe (eC (.str "a")) (eVar 0) (eC (.str "z")))
noncomputable def Jiv (k:Nat):S1:=(sRet (eCB (on1 allI) (Ja (Jaa (iAny (eVar 0)) 1 [] (gNm 0) Jaw (Jcw k)) aNil)))
noncomputable def Jff (k:Nat):S1:=sSeq (sIf (tOrI (Jb6 (tOfB tru (eIsi Jhj (eVar 0)))) (Jb6 (tOfB asB (Jd9 cLe cLe (eC (.int 1)) (eCB (on1 lenI) (Ja (eVar 0) aNil)) (eC (.int 8)))))) (sRet (eC (.bl false))) sNil) (Jiv k)
theorem Jr2 (k:Nat):Jdj (k+1)=fnI 1 (Jff k):=by kernel_rfl
theorem Jrc (k:Nat) (x0:IV) (h:IH):Jdj (k+1) [x0] h=(Jff k [some x0] h).fin:=by rw[Jr2];rfl
noncomputable def Jiu (k:Nat):S1:=(sRet (eAnd (Jn (Jl k) [] (Ja (eBin opIx (eVar 0) (eC (.int 2))) (Ja (eBin Jr (eBin opIx (eVar 0) (eC (.int 1))) (eC (.int 1))) aNil))) (eBin cLt (eBin opIx (eVar 0) (eC (.int 2))) (eVar 1)) tru))
noncomputable def Jit (k:Nat):S1:=sSeq (sIf (Jb6 (tOfB tru (Jn (Jl k) [] (Ja (eBin opIx (eVar 0) (eC (.int 1))) (Ja (eC (.int 0)) aNil))))) (sRet (eC (.bl false))) sNil) (Jiu k)
noncomputable def Jfe (k:Nat):S1:=sSeq (sIf (tOrI (Jb6 (tOfB tru (eIsi Jhk (eVar 0)))) (tOrI (tOfB asB (eBin cNe (eCB (on1 lenI) (Ja (eVar 0) aNil)) (eC (.int 3)))) (Jb6 (tOfB tru (Jn (Jdj k) [] (Ja (eBin opIx (eVar 0) (eC (.int 0))) aNil)))))) (sRet (eC (.bl false))) sNil) (Jit k)
theorem Jr1 (k:Nat):Jfn (k+1)=fnI 2 (Jfe k):=by kernel_rfl
theorem Jrb (k:Nat) (x0 x1:IV) (h:IH):Jfn (k+1) [x0,x1] h=(Jfe k [some x0,some x1] h).fin:=by rw[Jr1];rfl
noncomputable def Jcs (k:Nat):S1:=(sRet (eOr (eBin cLe (eBin opIx (eVar 0) (eC (.int 2))) (eBin opIx (eVar 1) (eC (.int 1)))) (eBin cLe (eBin opIx (eVar 1) (eC (.int 2))) (eBin opIx (eVar 0) (eC (.int 1)))) tru))
theorem Jng (k:Nat):Jch (k+1)=fnI 2 (Jcs k):=by kernel_rfl
theorem Jmw (k:Nat) (x0 x1:IV) (h:IH):Jch (k+1) [x0,x1] h=(Jcs k [some x0,some x1] h).fin:=by rw[Jng];rfl
noncomputable def Jfg (k:Nat):S1:=(sRet (eAnd (eBin cLe (eBin opIx (eVar 1) (eC (.int 1))) (eBin opIx (eVar 0) (eC (.int 1)))) (eBin cLe (eBin opIx (eVar 0) (eC (.int 2))) (eBin opIx (eVar 1) (eC (.int 2)))) tru))
theorem Jr4 (k:Nat):Jdk (k+1)=fnI 2 (Jfg k):=by kernel_rfl
theorem Jre (k:Nat) (x0 x1:IV) (h:IH):Jdk (k+1) [x0,x1] h=(Jfg k [some x0,some x1] h).fin:=by rw[Jr4];rfl
noncomputable def Jdp (k:Nat):S1:=(sRet (eOr (Jn (Jdk k) [] (Ja (eVar 0) (Ja (eVar 1) aNil))) (Jn (Jdk k) [] (Ja (eVar 1) (Ja (eVar 0) aNil))) tru))
noncomputable def Jdo (k:Nat):S1:=sSeq (sIf (tOfB asB (eBin cEq (eBin opIx (eVar 0) (eC (.int 0))) (eBin opIx (eVar 1) (eC (.int 0))))) (sRet (eC (.bl false))) sNil) (Jdp k)
noncomputable def Jbj (k:Nat):S1:=sSeq (sIf (tOfB tru (Jn (Jch k) [] (Ja (eVar 0) (Ja (eVar 1) aNil)))) (sRet (eC (.bl true))) sNil) (Jdo k)
theorem Jj8 (k:Nat):Ja3 (k+1)=fnI 2 (Jbj k):=by kernel_rfl
theorem Jj2 (k:Nat) (x0 x1:IV) (h:IH):Ja3 (k+1) [x0,x1] h=(Jbj k [some x0,some x1] h).fin:=by rw[Jj8];rfl
noncomputable def Jau (k:Nat):E1:=(Jn (Ja3 k) [] (Ja (eVar 1) (Ja (eVar 0) aNil)))
noncomputable def Ja1 (k:Nat):S1:=(sIf (Jb6 (tOfB tru (eCB (on1 allI) (Ja (Jaa (iAny (eSl slI (eVar 0) Jru (Jlf (eVar 1)))) 1 [2] (gNm 0) Jaw (Jau k)) aNil)))) (sRet (eC (.bl false))) sNil)
noncomputable def Jbh (k:Nat):S1:=(sRet (eC (.bl true)))
noncomputable def Jad (k:Nat):S1:=sSeq (sFor (iRg Je9 (Ja (eVar 0) aNil)) (gTp 2 (gC (gNm 1) (gC (gNm 2) gN))) (Ja1 k)) (Jbh k)
theorem Jgx (k:Nat):J1 (k+1)=fnI 3 (Jad k):=by kernel_rfl
theorem Jgq (k:Nat) (x0:IV) (h:IH):J1 (k+1) [x0] h=(Jad k [some x0,none,none] h).fin:=by rw[Jgx];rfl
noncomputable def Jd3 (k:Nat):E1:=(Jn (Jfn k) [] (Ja (eVar 0) (Ja (eVar 1) aNil)))
noncomputable def Jd4 (k:Nat):E1:=(eTup (Ja (eBin opIx (eVar 0) (eC (.int 0))) (Ja (eBin opIx (eVar 0) (eC (.int 1))) (Ja (eBin opIx (eVar 0) (eC (.int 2))) aNil))))
noncomputable def Jgb (k:Nat):S1:=(sRet (eCB (on1 Jjr) (Ja (Jaa (iAny (eVar 0)) 1 [] (gNm 0) Jaw (Jd4 k)) aNil)))
noncomputable def Jga (k:Nat):S1:=sSeq (sIf (Jb6 (tOfB tru (Jn (J1 k) [] (Ja (eVar 0) aNil)))) stS sNil) (Jgb k)
noncomputable def Jf9 (k:Nat):S1:=sSeq (sIf (Jb6 (tOfB tru (eCB (on1 allI) (Ja (Jaa (iAny (eVar 0)) 1 [1] (gNm 0) Jaw (Jd3 k)) aNil)))) stS sNil) (Jga k)
noncomputable def Jf8 (k:Nat):S1:=sSeq (sIf (tOfB asB (eBin cGt (eCB (on1 lenI) (Ja (eVar 0) aNil)) (eC (.int 6)))) stS sNil) (Jf9 k)
noncomputable def Jf7 (k:Nat):S1:=sSeq (sIf (Jb6 (tOfB tru (eIsi Jbz (eVar 0)))) stS sNil) (Jf8 k)
noncomputable def Jct (k:Nat):S1:=sSeq (sIf (tOfB asB (eBin cIs (eVar 0) (eC .non))) (sRet (eTup aNil)) sNil) (Jf7 k)
theorem Jnh (k:Nat):Jak (k+1)=fnI 2 (Jct k):=by kernel_rfl
theorem Jmx (k:Nat) (x0 x1:IV) (h:IH):Jak (k+1) [x0,x1] h=(Jct k [some x0,some x1] h).fin:=by rw[Jnh];rfl
noncomputable def Ji2 (k:Nat):S1:=(sRet (eVar 0))
noncomputable def Ji1 (k:Nat):S1:=sSeq (sIf (tOrI (Jb6 (tOfB tru (Jn (Jl k) [] (Ja (eVar 0) (Ja (eC (.int 1)) aNil))))) (tOfB asB (eBin cGt (eVar 0) (eVar 1)))) stS sNil) (Ji2 k)
noncomputable def Jfh (k:Nat):S1:=sSeq (sIf (tOfB asB (eBin cIs (eVar 0) (eC .non))) (sRet (eVar 1)) sNil) (Ji1 k)
theorem Jr5 (k:Nat):Jb7 (k+1)=fnI 2 (Jfh k):=by kernel_rfl
theorem Jrf (k:Nat) (x0 x1:IV) (h:IH):Jb7 (k+1) [x0,x1] h=(Jfh k [some x0,some x1] h).fin:=by rw[Jr5];rfl
noncomputable def Jf1 (k:Nat):S1:=(Jjl "hold_tuples" (eVar 0) (Jn (Jak k) [] (Ja (eVar 6) (Ja (eVar 3) aNil))))
noncomputable def Jf0 (k:Nat):S1:=sSeq (Jjl "late" (eVar 0) (eVar 5)) (Jf1 k)
noncomputable def Jfz (k:Nat):S1:=sSeq (Jjl "due" (eVar 0) (Jn (Jb7 k) [] (Ja (eVar 4) (Ja (eVar 2) aNil)))) (Jf0 k)
noncomputable def Jfy (k:Nat):S1:=sSeq (Jjl "length" (eVar 0) (eVar 3)) (Jfz k)
noncomputable def Jfx (k:Nat):S1:=sSeq (Jjl "gap" (eVar 0) (eVar 2)) (Jfy k)
noncomputable def Jfw (k:Nat):S1:=sSeq (Jjl "name" (eVar 0) (eVar 1)) (Jfx k)
noncomputable def Jfv (k:Nat):S1:=sSeq (sIf (Jb6 (tOfB tru (Jn (Jl k) [] (Ja (eVar 5) (Ja (eC (.int 0)) aNil))))) stS sNil) (Jfw k)
noncomputable def Jfu (k:Nat):S1:=sSeq (sIf (Jb6 (tOfB tru (Jn (Jl k) [] (Ja (eVar 3) (Ja (eC (.int 1)) aNil))))) stS sNil) (Jfv k)
noncomputable def Jft (k:Nat):S1:=sSeq (sIf (Jb6 (tOfB tru (Jn (Jl k) [] (Ja (eVar 2) (Ja (eC (.int 1)) aNil))))) stS sNil) (Jfu k)
noncomputable def Jcn (k:Nat):S1:=sSeq (sIf (Jb6 (tOfB tru (Jn (Jdj k) [] (Ja (eVar 1) aNil)))) stS sNil) (Jft k)
theorem Jnd (k:Nat):Jaj (k+1)=fnI 7 (Jcn k):=by kernel_rfl
theorem Jmt (k:Nat) (x0 x1 x2 x3 x4 x5 x6:IV) (h:IH):Jaj (k+1) [x0,x1,x2,x3,x4,x5,x6] h=(Jcn k [some x0,some x1,some x2,some x3,some x4,some x5,some x6] h).fin:=by rw[Jnd];rfl
noncomputable def Jcm (k:Nat):S1:=(sRet (eCB (on1 Juh) (Ja (eFld "hold_tuples" (eVar 0)) aNil)))
theorem Jnc (k:Nat):Jce (k+1)=fnI 1 (Jcm k):=by kernel_rfl
theorem Jms (k:Nat) (x0:IV) (h:IH):Jce (k+1) [x0] h=(Jcm k [some x0] h).fin:=by rw[Jnc];rfl
noncomputable def Jgt (k:Nat):S1:=(Jei (eDot (pg k) "setdefault" 2 (eVar 1) (Ja (eBin opIx (eVar 3) (eC (.int 0))) (Ja (eVar 2) aNil))))
noncomputable def Jgu (k:Nat):S1:=(sFor (iAny (eDot (pg k) "held" 0 (eDot (pg k) "work" 1 (eVar 0) (Ja (eVar 2) aNil)) aNil)) (gNm 3) (Jgt k))
noncomputable def Jhm (k:Nat):S1:=(sRet (eVar 1))
noncomputable def Jhl (k:Nat):S1:=sSeq (sFor (iRg Jec (Ja (eDot (pg k) "size" 0 (eVar 0) aNil) aNil)) (gNm 2) (Jgu k)) (Jhm k)
noncomputable def Jdm (k:Nat):S1:=sSeq (sSet 1 Jwr) (Jhl k)
theorem Jo5 (k:Nat):Jep (k+1)=fnI 4 (Jdm k):=by kernel_rfl
theorem Jow (k:Nat) (x0:IV) (h:IH):Jep (k+1) [x0] h=(Jdm k [some x0,none,none,none] h).fin:=by rw[Jo5];rfl
noncomputable def Jay (k:Nat):S1:=(sIf (tOfB asB (eBin cGt (eCB (on1 Jrm) (Ja (Jn (Jep k) [] (Ja (eVar 0) aNil)) aNil)) (eC (.int 0)))) (Jh3 "HoldsThings" (Ja (eC (.str "a work of the duty holds a shared thing")) aNil)) sNil)
theorem Jjj (k:Nat):Jap (k+1)=fnI 1 (Jay k):=by kernel_rfl
theorem Jja (k:Nat) (x0:IV) (h:IH):Jap (k+1) [x0] h=(Jay k [some x0] h).fin:=by rw[Jjj];rfl
noncomputable def Jb0 (k:Nat):S1:=(sRet (eIf (tOfB asB (eBin cGe (eVar 1) (eC (.int 1)))) (Jn (Jbf k) [] (Ja (eBin Jr (eVar 1) (eFld "late" (eVar 0))) (Ja (eFld "gap" (eVar 0)) aNil))) (eC (.int 0))))
theorem Jli (k:Nat):Jat (k+1)=fnI 2 (Jb0 k):=by kernel_rfl
theorem Jk7 (k:Nat) (x0 x1:IV) (h:IH):Jat (k+1) [x0,x1] h=(Jb0 k [some x0,some x1] h).fin:=by rw[Jli];rfl
noncomputable def Jis (k:Nat):S1:=(sRet (eIf (tOfB asB (eBin cGe (eVar 2) (eC (.int 0)))) (eBin Jr (eBin Jaf (eVar 2) (eFld "gap" (eVar 0))) (eC (.int 1))) (eC (.int 0))))
noncomputable def Jfd (k:Nat):S1:=sSeq (sSet 2 (eBin Jfk (eBin Jr (eVar 1) (eFld "late" (eVar 0))) (eFld "due" (eVar 0)))) (Jis k)
theorem Jr0 (k:Nat):Jdi (k+1)=fnI 3 (Jfd k):=by kernel_rfl
theorem Jra (k:Nat) (x0 x1:IV) (h:IH):Jdi (k+1) [x0,x1] h=(Jfd k [some x0,some x1,none] h).fin:=by rw[Jr0];rfl
noncomputable def Jhx (k:Nat):E1:=(eBin J8 (Jn (Jdi k) [] (Ja (eVar 0) (Ja (eVar 1) aNil))) (eFld "length" (eVar 0)))
noncomputable def Jg4 (k:Nat):S1:=(sRet (eCB (on1 sumI) (Ja (Jaa (iAny (eFld "works" (eVar 0))) 1 [1] (gNm 0) Jaw (Jhx k)) aNil)))
theorem Jux (k:Nat):Jib (k+1)=fnI 2 (Jg4 k):=by kernel_rfl
theorem Jtt (k:Nat) (x0 x1:IV) (h:IH):Jib (k+1) [x0,x1] h=(Jg4 k [some x0,some x1] h).fin:=by rw[Jux];rfl
noncomputable def Ji3 (k:Nat):E1:=(eBin J8 (Jn (Jat k) [] (Ja (eVar 0) (Ja (eVar 1) aNil))) (eFld "length" (eVar 0)))
noncomputable def Jiq (k:Nat):S1:=(sRet (eCB (on1 sumI) (Ja (Jaa (iAny (eFld "works" (eVar 0))) 1 [1] (gNm 0) Jaw (Ji3 k)) aNil)))
theorem Jxy (k:Nat):Jkv (k+1)=fnI 2 (Jiq k):=by kernel_rfl
theorem Jwy (k:Nat) (x0 x1:IV) (h:IH):Jkv (k+1) [x0,x1] h=(Jiq k [some x0,some x1] h).fin:=by rw[Jxy];rfl
noncomputable def Jgf (k:Nat):E1:=(Jn (Jat k) [] (Ja (eVar 0) (Ja (eVar 1) aNil)))
noncomputable def Jfc (k:Nat):S1:=(sRet (eCB (on1 sumI) (Ja (Jaa (iAny (eFld "works" (eVar 0))) 1 [1] (gNm 0) Jaw (Jgf k)) aNil)))
theorem Jrz (k:Nat):Jfm (k+1)=fnI 2 (Jfc k):=by kernel_rfl
theorem Jq9 (k:Nat) (x0 x1:IV) (h:IH):Jfm (k+1) [x0,x1] h=(Jfc k [some x0,some x1] h).fin:=by rw[Jrz];rfl
noncomputable def Jah (k:Nat):S1:=(sIf (tOfB asB (eBin cGt (Jn (Jfm k) [] (Ja (eVar 0) (Ja (eVar 1) aNil))) (eC (.int 200)))) (Jh3 "TooMany" (Ja (eC (.str "more than 200 comings may be ready within the far")) aNil)) sNil)
theorem Jhc (k:Nat):Jw (k+1)=fnI 2 (Jah k):=by kernel_rfl
theorem Jg8 (k:Nat) (x0 x1:IV) (h:IH):Jw (k+1) [x0,x1] h=(Jah k [some x0,some x1] h).fin:=by rw[Jhc];rfl
noncomputable def Ji4 (k:Nat):E1:=(eBin Jfk (eBin Jr (eBin J8 (eVar 0) (eFld "gap" (eVar 1))) (eFld "due" (eVar 1))) (eFld "late" (eVar 1)))
noncomputable def Jko (k:Nat):S1:=(Jei (eDot (pg k) "extend" 1 (eVar 2) (Ja (Jaa (iRg Jec (Ja (Jn (Jdi k) [] (Ja (eVar 3) (Ja (eVar 1) aNil))) aNil)) 1 [3] (gNm 0) Jaw (Ji4 k)) aNil)))
noncomputable def Jl6 (k:Nat):S1:=(sRet (Jgp (Ja (eVar 2) aNil)))
noncomputable def Jl5 (k:Nat):S1:=sSeq (sFor (iAny (eFld "works" (eVar 0))) (gNm 3) (Jko k)) (Jl6 k)
noncomputable def Jl4 (k:Nat):S1:=sSeq (sSet 2 (eLst aNil)) (Jl5 k)
noncomputable def Jir (k:Nat):S1:=sSeq (Jei (Jn (Jw k) [] (Ja (eVar 0) (Ja (eVar 1) aNil)))) (Jl4 k)
theorem Jxz (k:Nat):Jio (k+1)=fnI 4 (Jir k):=by kernel_rfl
theorem Jwz (k:Nat) (x0 x1:IV) (h:IH):Jio (k+1) [x0,x1] h=(Jir k [some x0,some x1,none,none] h).fin:=by rw[Jxz];rfl
noncomputable def Ja2 (k:Nat):S1:=(sIf (tOfB asB (eBin cGt (Jn (Jib k) [] (Ja (eVar 0) (Ja (eVar 2) aNil))) (eVar 2))) (sRet (eVar 2)) sNil)
noncomputable def Jbi (k:Nat):S1:=(sRet (eC .non))
noncomputable def Jae (k:Nat):S1:=sSeq (sFor (iAny (Jn (Jio k) [] (Ja (eVar 0) (Ja (eVar 1) aNil)))) (gNm 2) (Ja2 k)) (Jbi k)
theorem Jgy (k:Nat):J2 (k+1)=fnI 3 (Jae k):=by kernel_rfl
theorem Jgr (k:Nat) (x0 x1:IV) (h:IH):J2 (k+1) [x0,x1] h=(Jae k [some x0,some x1,none] h).fin:=by rw[Jgy];rfl
noncomputable def Jd1 (k:Nat):S1:=(sRet (eAnd (eBin cLe (Jn (Jkv k) [] (Ja (eVar 0) (Ja (eVar 1) aNil))) (eVar 1)) (eBin cIs (Jn (J2 k) [] (Ja (eVar 0) (Ja (eVar 1) aNil))) (eC .non)) tru))
noncomputable def Jd0 (k:Nat):S1:=sSeq (Jei (Jn (Jw k) [] (Ja (eVar 0) (Ja (eVar 1) aNil)))) (Jd1 k)
noncomputable def Jdz (k:Nat):S1:=sSeq (sIf (tOfB asB (eBin cLt (eVar 1) (eC (.int 1)))) (sRet (eC (.bl false))) sNil) (Jd0 k)
noncomputable def Jbn (k:Nat):S1:=sSeq (Jei (Jn (Jap k) [] (Ja (eVar 0) aNil))) (Jdz k)
theorem Jkc (k:Nat):Ja6 (k+1)=fnI 2 (Jbn k):=by kernel_rfl
theorem Jj6 (k:Nat) (x0 x1:IV) (h:IH):Ja6 (k+1) [x0,x1] h=(Jbn k [some x0,some x1] h).fin:=by rw[Jkc];rfl
noncomputable def Jd5 (k:Nat):E1:=(eIsi (Jyt ["Work"]) (eVar 0))
noncomputable def Jd6 (k:Nat):E1:=(eFld "name" (eVar 0))
noncomputable def Jge (k:Nat):S1:=(sRet (eCB (on1 Jjr) (Ja (eVar 0) aNil)))
noncomputable def Jgd (k:Nat):S1:=sSeq (sIf (tOfB asB (eBin cNe (Ji7 (Ja (Jaa (iAny (eVar 0)) 1 [] (gNm 0) Jaw (Jd6 k)) aNil)) (eCB (on1 lenI) (Ja (eVar 0) aNil)))) stS sNil) (Jge k)
noncomputable def Jgc (k:Nat):S1:=sSeq (sIf (Jb6 (tOfB tru (eCB (on1 allI) (Ja (Jaa (iAny (eVar 0)) 1 [] (gNm 0) Jaw (Jd5 k)) aNil)))) stS sNil) (Jgd k)
noncomputable def Jcu (k:Nat):S1:=sSeq (sIf (Jb6 (tOfB tru (eIsi Jbz (eVar 0)))) stS sNil) (Jgc k)
theorem Jni (k:Nat):Jci (k+1)=fnI 1 (Jcu k):=by kernel_rfl
theorem Jmy (k:Nat) (x0:IV) (h:IH):Jci (k+1) [x0] h=(Jcu k [some x0] h).fin:=by rw[Jni];rfl
noncomputable def Je5 (k:Nat):E1:=(eFld "due" (eVar 0))
noncomputable def Je6 (k:Nat):E1:=(Jn (Jbf k) [] (Ja (eBin Jr (eVar 1) (eFld "late" (eVar 0))) (Ja (eFld "gap" (eVar 0)) aNil)))
noncomputable def Jhn (k:Nat):S1:=(sRet (eCB (on1 sumI) (Ja (Jaa (iAny (eVar 0)) 1 [1] (gNm 0) Jaw (Je6 k)) aNil)))
noncomputable def Jdn (k:Nat):S1:=sSeq (sSet 1 (Jmm (Ja (Jaa (iAny (eVar 0)) 1 [] (gNm 0) Jaw (Je5 k)) aNil) (eC (.int 0)))) (Jhn k)
theorem Jo6 (k:Nat):Jeq (k+1)=fnI 2 (Jdn k):=by kernel_rfl
theorem Jox (k:Nat) (x0:IV) (h:IH):Jeq (k+1) [x0] h=(Jdn k [some x0,none] h).fin:=by rw[Jo6];rfl
noncomputable def Jfs (k:Nat):S1:=(sIf (tOfB asB (eBin cGt (Jn (Jeq k) [] (Ja (eFld "works" (eVar 0)) aNil)) (eC (.int 80)))) (Jh3 "TooMany" (Ja (eC (.str "the crowd of a duty is at most 80")) aNil)) sNil)
noncomputable def Jfr (k:Nat):S1:=sSeq (sIf (tOfB asB (eBin cGt (eCB (on1 lenI) (Ja (eFld "works" (eVar 0)) aNil)) (eC (.int 12)))) (Jh3 "TooMany" (Ja (eC (.str "a duty has at most twelve works")) aNil)) sNil) (Jfs k)
noncomputable def Jcj (k:Nat):S1:=sSeq (Jjl "works" (eVar 0) (Jn (Jci k) [] (Ja (eVar 1) aNil))) (Jfr k)
theorem Jm9 (k:Nat):Jcb (k+1)=fnI 2 (Jcj k):=by kernel_rfl
theorem Jmp (k:Nat) (x0 x1:IV) (h:IH):Jcb (k+1) [x0,x1] h=(Jcj k [some x0,some x1] h).fin:=by rw[Jm9];rfl
noncomputable def Jck (k:Nat):S1:=(sRet (eCB (on1 lenI) (Ja (eFld "works" (eVar 0)) aNil)))
theorem Jna (k:Nat):Jcc (k+1)=fnI 1 (Jck k):=by kernel_rfl
theorem Jmq (k:Nat) (x0:IV) (h:IH):Jcc (k+1) [x0] h=(Jck k [some x0] h).fin:=by rw[Jna];rfl
noncomputable def Jcl (k:Nat):S1:=(sRet (eBin opIx (eFld "works" (eVar 0)) (eVar 1)))
theorem Jnb (k:Nat):Jcd (k+1)=fnI 2 (Jcl k):=by kernel_rfl
theorem Jmr (k:Nat) (x0 x1:IV) (h:IH):Jcd (k+1) [x0,x1] h=(Jcl k [some x0,some x1] h).fin:=by rw[Jnb];rfl
noncomputable def Jdq (k:Nat):S1:=(sRet (eC (.int 0)))
noncomputable def Jbk (k:Nat):S1:=sSeq (sIf (tOfB asB (eBin cLt (eVar 1) (eCB (on1 lenI) (Ja (eVar 0) aNil)))) (sRet (eBin opIx (eVar 0) (eVar 1))) sNil) (Jdq k)
theorem Jj9 (k:Nat):Jag (k+1)=fnI 2 (Jbk k):=by kernel_rfl
theorem Jj3 (k:Nat) (x0 x1:IV) (h:IH):Jag (k+1) [x0,x1] h=(Jbk k [some x0,some x1] h).fin:=by rw[Jj9];rfl
noncomputable def Jee (k:Nat):S1:=(sSeq (Jei (eDot (pg k) "append" 1 (eVar 2) (Ja (eBin Jbd (eVar 3) (eBin Jhb (eC (.int 10)) (eC (.int 45)))) aNil))) (sSet 3 (eBin Jaf (eVar 3) (eBin Jhb (eC (.int 10)) (eC (.int 45))))))
noncomputable def Jef (k:Nat):S1:=(sSeq (sSet 5 (eBin Jbd (eBin Jr (eBin Jr (eBin J8 (eVar 5) (eVar 5)) (eBin J8 (eC (.int 48271)) (eVar 5))) (eVar 4)) (eBin Jr (eBin Jhb (eC (.int 10)) (eC (.int 18))) (eC (.int 9))))) (Jei (eDot (pg k) "append" 1 (eVar 2) (Ja (eVar 5) aNil))))
noncomputable def Je4 (k:Nat):S1:=(sRet (eSl slI (eVar 2) (Jlf (eC (.int 2))) Jru))
noncomputable def Je3 (k:Nat):S1:=sSeq (sFor (iRg Jec (Ja (eBin Jr (eVar 1) (eC (.int 2))) aNil)) (gNm 4) (Jef k)) (Je4 k)
noncomputable def Je2 (k:Nat):S1:=sSeq (sSet 5 (eBin Jr (eBin Jbd (eVar 0) (eBin Jr (eBin Jhb (eC (.int 10)) (eC (.int 18))) (eC (.int 9)))) (eC (.int 48271)))) (Je3 k)
noncomputable def Je1 (k:Nat):S1:=sSeq (sIf (tOfB asB (eBin cGe (eVar 0) (eBin Jhb (eC (.int 10)) (eC (.int 30))))) (sSeq (sSet 3 (eBin Jfk (eVar 0) (eBin Jhb (eC (.int 10)) (eC (.int 30))))) (sSeq (sFor (iRg Jec (Ja (eVar 1) aNil)) (gNm 4) (Jee k)) (sRet (eVar 2)))) sNil) (Je2 k)
noncomputable def Jb1 (k:Nat):S1:=sSeq (sSet 2 (eLst aNil)) (Je1 k)
theorem Jlj (k:Nat):Jbq (k+1)=fnI 6 (Jb1 k):=by kernel_rfl
theorem Jk8 (k:Nat) (x0 x1:IV) (h:IH):Jbq (k+1) [x0,x1] h=(Jb1 k [some x0,some x1,none,none,none,none] h).fin:=by rw[Jlj];rfl
noncomputable def Jf6 (k:Nat):S1:=(sRet (eTup (Ja (eVar 4) (Ja (eVar 5) (Ja (eVar 6) (Ja (eVar 7) aNil))))))
noncomputable def Jf5 (k:Nat):S1:=sSeq (sSet 7 (eBin J8 (eBin Jaf (eBin Jbd (eBin opIx (eVar 3) (eC (.int 5))) (eC (.int 3))) (eC (.int 2))) (eBin Jbd (eBin opIx (eVar 3) (eC (.int 6))) (eBin Jr (eBin Jaf (eVar 4) (eC (.int 4))) (eC (.int 1)))))) (Jf6 k)
noncomputable def Jf4 (k:Nat):S1:=sSeq (sSet 6 (eBin Jfk (eVar 4) (eBin J8 (eBin Jbd (eBin opIx (eVar 3) (eC (.int 3))) (eC (.int 2))) (eBin Jbd (eBin opIx (eVar 3) (eC (.int 4))) (eBin Jr (eBin Jaf (eBin J8 (eVar 4) (eC (.int 3))) (eC (.int 4))) (eC (.int 1))))))) (Jf5 k)
noncomputable def Jf3 (k:Nat):S1:=sSeq (sSet 5 (eBin Jr (eC (.int 1)) (eBin Jbd (eBin opIx (eVar 3) (eC (.int 2))) (eBin Jr (eBin Jaf (eBin J8 (eVar 4) (eC (.int 6))) (eBin J8 (eC (.int 5)) (eVar 2))) (eC (.int 1)))))) (Jf4 k)
noncomputable def Jf2 (k:Nat):S1:=sSeq (sSet 4 (eBin Jr (eBin J8 (eVar 1) (eBin Jr (eC (.int 1)) (eBin Jbd (eBin opIx (eVar 3) (eC (.int 0))) (eC (.int 8))))) (eBin Jbd (eBin opIx (eVar 3) (eC (.int 1))) (eC (.int 5))))) (Jf3 k)
noncomputable def Jcp (k:Nat):S1:=sSeq (sSet 3 (Jn (Jbq k) [] (Ja (eVar 0) (Ja (eC (.int 7)) aNil)))) (Jf2 k)
theorem Jne (k:Nat):Jcf (k+1)=fnI 8 (Jcp k):=by kernel_rfl
theorem Jmu (k:Nat) (x0 x1 x2:IV) (h:IH):Jcf (k+1) [x0,x1,x2] h=(Jcp k [some x0,some x1,some x2,none,none,none,none,none] h).fin:=by rw[Jne];rfl
noncomputable def Jc9 (k:Nat):S1:=(sIf (tOfB asB (eBin cGt (eVar 1) (eC (.int 0)))) (sSeq (sSet 8 (eBin Jaf (eBin Jfk (eBin Jr (eBin Jr (eVar 1) (eVar 7)) (eVar 4)) (eC (.int 1))) (eVar 4))) (sSeq (sSet 2 (eBin Jr (eVar 2) (eBin J8 (eVar 8) (eVar 5)))) (sSet 3 (eBin Jr (eVar 3) (eVar 8))))) sNil)
noncomputable def Jhw (k:Nat):S1:=(sRet (eTup (Ja (eVar 2) (Ja (eVar 3) aNil))))
noncomputable def Jhv (k:Nat):S1:=sSeq (sFor (iAny (eVar 0)) (gTp 4 (gC (gNm 4) (gC (gNm 5) (gC (gNm 6) (gC (gNm 7) gN))))) (Jc9 k)) (Jhw k)
noncomputable def Jhu (k:Nat):S1:=sSeq (sSet 3 (eC (.int 0))) (Jhv k)
noncomputable def Jdy (k:Nat):S1:=sSeq (sSet 2 (eC (.int 0))) (Jhu k)
theorem Jo9 (k:Nat):Jbe (k+1)=fnI 9 (Jdy k):=by kernel_rfl
theorem Jo0 (k:Nat) (x0 x1:IV) (h:IH):Jbe (k+1) [x0,x1] h=(Jdy k [some x0,some x1,none,none,none,none,none,none,none] h).fin:=by rw[Jo9];rfl
noncomputable def Jde (k:Nat):S1:=(sSeq (sSet 4 (eBin Jaf (eBin Jr (eVar 2) (eVar 3)) (eC (.int 2)))) (sIf (tOfB asB (eBin cGt (eBin opIx (Jn (Jbe k) [] (Ja (eVar 0) (Ja (eVar 4) aNil))) (eC (.int 1))) (eC (.int 200)))) (sSet 3 (eVar 4)) (sSet 2 (eVar 4))))
noncomputable def Jdv (k:Nat):S1:=(sRet (eVar 2))
noncomputable def Jdu (k:Nat):S1:=sSeq (Jjm (tOfB asB (eBin cGt (eBin Jfk (eVar 3) (eVar 2)) (eC (.int 1)))) (Jde k)) (Jdv k)
noncomputable def Jdt (k:Nat):S1:=sSeq (sSet 3 (eBin Jr (eBin J8 (eC (.int 200)) (eVar 1)) (eC (.int 1)))) (Jdu k)
noncomputable def Jbl (k:Nat):S1:=sSeq (sSet 2 (eC (.int 1))) (Jdt k)
theorem Jka (k:Nat):Ja4 (k+1)=fnI 5 (Jbl k):=by kernel_rfl
theorem Jj4 (k:Nat) (x0 x1:IV) (h:IH):Ja4 (k+1) [x0,x1] h=(Jbl k [some x0,some x1,none,none,none] h).fin:=by rw[Jka];rfl
noncomputable def Je7 (k:Nat):E1:=(eBin opIx (eVar 0) (eC (.int 2)))
noncomputable def Je8 (k:Nat):E1:=(eBin opIx (eVar 0) (eC (.int 0)))
noncomputable def Jgv (k:Nat):S1:=(sSeq (sSet 5 (eCB (on2 maxI) (Ja (eC (.int 1)) (Ja (eBin opIx (Jn (Jbe k) [] (Ja (eVar 1) (Ja (eVar 5) aNil))) (eC (.int 0))) aNil)))) (Jei (eDot (pg k) "append" 1 (eVar 4) (Ja (eVar 5) aNil))))
noncomputable def Jds (k:Nat):S1:=(sRet (eVar 4))
noncomputable def Jht (k:Nat):S1:=sSeq (sIf (tOfB asB (eBin cNe (eVar 1) (eLst aNil))) (sSeq (sSet 7 (Jn (Ja4 k) [] (Ja (eVar 1) (Ja (eVar 3) aNil)))) (sSet 4 (eBin Jr (eVar 4) (eLst (Ja (eVar 7) (Ja (eBin Jr (eVar 7) (eC (.int 1))) aNil)))))) sNil) (Jds k)
noncomputable def Jhs (k:Nat):S1:=sSeq (sFor (iRg Jec (Ja (eC (.int 2)) aNil)) (gNm 6) (Jgv k)) (Jht k)
noncomputable def Jhr (k:Nat):S1:=sSeq (sSet 5 (eBin opIx (eLst (Ja (eVar 2) (Ja (eBin opIx (eVar 4) (eC (.int 5))) (Ja (eBin Jr (eVar 2) (eBin Jbd (eBin Jaf (eVar 0) (eC (.int 3))) (eBin J8 (eC (.int 3)) (eVar 3)))) aNil)))) (eBin Jbd (eVar 0) (eC (.int 3))))) (Jhs k)
noncomputable def Jhq (k:Nat):S1:=sSeq (sSet 4 (eLst (Ja (eC (.int 0)) (Ja (eBin Jfk (eC (.int 0)) (eBin Jbd (eVar 0) (eBin Jhb (eC (.int 10)) (eC (.int 20))))) (Ja (eC (.int 1)) (Ja (eVar 2) (Ja (eBin J8 (eC (.int 2)) (eVar 2)) (Ja (eBin Jr (eC (.int 1)) (eBin Jbd (eVar 0) (eBin J8 (eC (.int 12)) (eVar 3)))) (Ja (eBin Jr (eBin J8 (eC (.int 200)) (eVar 3)) (eC (.int 1))) aNil))))))))) (Jhr k)
noncomputable def Jhp (k:Nat):S1:=sSeq (sSet 3 (Jmm (Ja (Jaa (iAny (eVar 1)) 1 [] (gNm 0) Jaw (Je8 k)) aNil) (eC (.int 1)))) (Jhq k)
noncomputable def Jdr (k:Nat):S1:=sSeq (sSet 2 (Jmm (Ja (Jaa (iAny (eVar 1)) 1 [] (gNm 0) Jaw (Je7 k)) aNil) (eC (.int 1)))) (Jhp k)
theorem Jo8 (k:Nat):Jes (k+1)=fnI 8 (Jdr k):=by kernel_rfl
theorem Joz (k:Nat) (x0 x1:IV) (h:IH):Jes (k+1) [x0,x1] h=(Jdr k [some x0,some x1,none,none,none,none,none,none] h).fin:=by rw[Jo8];rfl
noncomputable def Jaz (k:Nat):S1:=(sIf (tOfB asB (eBin cGe (eBin Jr (eVar 1) (eVar 6)) (eVar 5))) (sSet 2 (eBin Jr (eVar 2) (eBin J8 (eBin Jr (eBin Jaf (eBin Jfk (eBin Jr (eVar 1) (eVar 6)) (eVar 5)) (eVar 3)) (eC (.int 1))) (eVar 4)))) sNil)
noncomputable def Jdx (k:Nat):S1:=(sRet (eBin cGt (eVar 2) (eVar 1)))
noncomputable def Jdw (k:Nat):S1:=sSeq (sFor (iAny (eVar 0)) (gTp 4 (gC (gNm 3) (gC (gNm 4) (gC (gNm 5) (gC (gNm 6) gN))))) (Jaz k)) (Jdx k)
noncomputable def Jbm (k:Nat):S1:=sSeq (sSet 2 (eC (.int 0))) (Jdw k)
theorem Jkb (k:Nat):Ja5 (k+1)=fnI 7 (Jbm k):=by kernel_rfl
theorem Jj5 (k:Nat) (x0 x1:IV) (h:IH):Ja5 (k+1) [x0,x1] h=(Jbm k [some x0,some x1,none,none,none,none,none] h).fin:=by rw[Jkb];rfl
noncomputable def Jhy (k:Nat):S1:=(sSeq (sIf (tOfB tru (Jn (Ja5 k) [] (Ja (eVar 0) (Ja (eVar 9) aNil)))) (sRet (eC (.bl false))) sNil) (sSet 9 (eBin Jr (eVar 9) (eVar 5))))
noncomputable def Jhz (k:Nat):S1:=(sSeq (sSet 9 (eBin Jfk (eVar 7) (eVar 8))) (Jjm (tOfB asB (eBin cLe (eVar 9) (eVar 1))) (Jhy k)))
noncomputable def Ji0 (k:Nat):S1:=(sRet (eBin cLe (eVar 3) (eVar 1)))
noncomputable def Jiz (k:Nat):S1:=sSeq (sFor (iAny (eVar 0)) (gTp 4 (gC (gNm 5) (gC (gNm 6) (gC (gNm 7) (gC (gNm 8) gN))))) (Jhz k)) (Ji0 k)
noncomputable def Jiy (k:Nat):S1:=sSeq (sIf (tOfB asB (eBin cGt (eVar 4) (eC (.int 200)))) (sRet (eC (.str "many"))) sNil) (Jiz k)
noncomputable def Jix (k:Nat):S1:=sSeq (sAsg (Jn (Jbe k) [] (Ja (eVar 0) (Ja (eVar 1) aNil))) (gTp 2 (gC (gNm 3) (gC (gNm 4) gN)))) (Jiy k)
noncomputable def Jiw (k:Nat):S1:=sSeq (sIf (tOfB asB (eBin cLt (eVar 1) (eC (.int 1)))) (sRet (eC (.bl false))) sNil) (Jix k)
noncomputable def Jco (k:Nat):S1:=sSeq (sIf (tOfB tru (eVar 2)) (sRet (eC (.str "holds"))) sNil) (Jiw k)
theorem Jr3 (k:Nat):Jfo (k+1)=fnI 10 (Jco k):=by kernel_rfl
theorem Jrd (k:Nat) (x0 x1 x2:IV) (h:IH):Jfo (k+1) [x0,x1,x2] h=(Jco k [some x0,some x1,some x2,none,none,none,none,none,none,none] h).fin:=by rw[Jr3];rfl
noncomputable def Jcr (k:Nat):S1:=(sRet (eBin cEq (eVar 3) (eLst (Ja (eVar 2) (Ja (eC (.bl true)) (Ja (eC (.bl false)) aNil))))))
noncomputable def Ja7 (k:Nat):S1:=sSeq (sIf (tOfB tru (eIsi Jby (eVar 2))) (sRet (eAnd (eIsi Jby (eVar 3)) (eBin cEq (eVar 3) (eVar 2)) tru)) sNil) (Jcr k)
noncomputable def Jcq (k:Nat):S1:=sSeq (sTry (sSet 3 (Jn (Ja6 k) [] (Ja (eVar 0) (Ja (eVar 1) aNil)))) [(Jas,some 4,(sSet 3 (eLst (Ja (eC (.str "holds")) (Ja (eIsi (Jz1 Jbx) (eVar 4)) (Ja (eIsi (Jz1 Je0) (eVar 4)) aNil)))))),(Je0,some 4,(sSet 3 (eLst (Ja (eC (.str "many")) (Ja (eIsi (Jz1 Jbx) (eVar 4)) (Ja (eIsi (Jz1 Jas) (eVar 4)) aNil))))))]) (Ja7 k)
theorem Jnf (k:Nat):Jcg (k+1)=fnI 5 (Jcq k):=by kernel_rfl
theorem Jmv (k:Nat) (x0 x1 x2:IV) (h:IH):Jcg (k+1) [x0,x1,x2] h=(Jcq k [some x0,some x1,some x2,none,none] h).fin:=by rw[Jnf];rfl
noncomputable def Jgg (k:Nat):E1:=(Jn (Jcf k) [] (Ja (eVar 0) (Ja (eVar 2) (Ja (eCB (on1 lenI) (Ja (eVar 1) aNil)) aNil))))
noncomputable def Jqe (k:Nat):S1:=(sSeq (sAsg (eBin opIx (eVar 4) (eVar 7)) (gTp 4 (gC (gNm 8) (gC (gNm 9) (gC (gNm 10) (gC (gNm 11) gN)))))) (sSeq (sSet 12 (eLst aNil)) (sSeq (sIf (Jsh (tOfB asB (eBin cEq (eBin Jbd (eBin Jaf (eVar 1) (eC (.int 8))) (eC (.int 5))) (eC (.int 2)))) (Jsh (tOfB asB (eBin cEq (eBin Jbd (eBin Jaf (eVar 1) (eC (.int 40))) (eCB (on1 lenI) (Ja (eVar 4) aNil))) (eVar 7))) (tOfB asB (eBin cGt (eVar 9) (eC (.int 1)))))) (sSeq (Jei (eDot (pg k) "append" 1 (eVar 12) (Ja (eTup (Ja (eC (.str "ink")) (Ja (eBin Jbd (eBin Jaf (eVar 1) (eC (.int 200))) (eBin Jfk (eVar 9) (eC (.int 1)))) (Ja (eBin Jfk (eVar 9) (eC (.int 1))) aNil)))) aNil))) (sSet 6 (eC (.bl true)))) sNil) (Jei (eDot (pg k) "append" 1 (eVar 5) (Ja (Jk6 "Work" (Jaj k) [] (Ja (eBin opIx (eC (.str "vwxyz")) (eVar 7)) (Ja (eVar 8) (Ja (eVar 9) (Ja (eVar 10) (Ja (eVar 11) (Ja (eVar 12) aNil))))))) aNil))))))
noncomputable def Jqf (k:Nat):S1:=(sIf (Jb6 (tOfB tru (Jn (Jcg k) [] (Ja (eVar 13) (Ja (eVar 15) (Ja (Jn (Jfo k) [] (Ja (eVar 4) (Ja (eVar 15) (Ja (eVar 6) aNil)))) aNil)))))) (sRet (eC (.bl false))) sNil)
noncomputable def Jp2 (k:Nat):S1:=(sRet (eC (.bl true)))
noncomputable def Js4 (k:Nat):S1:=sSeq (sFor (iAny (eBin Jr (eVar 14) (eSl slI (eVar 14) Jru (Jlf (eC (.int 2)))))) (gNm 15) (Jqf k)) (Jp2 k)
noncomputable def Js3 (k:Nat):S1:=sSeq (sSet 14 (Jn (Jes k) [] (Ja (Jn (Jag k) [] (Ja (eVar 0) (Ja (eC (.int 1)) aNil))) (Ja (eVar 4) aNil)))) (Js4 k)
noncomputable def Jol (k:Nat):S1:=sSeq (sSet 13 (Jk6 "Duty" (Jcb k) [] (Ja (eVar 5) aNil))) (Js3 k)
noncomputable def Js2 (k:Nat):S1:=sSeq (sFor (iRg Jec (Ja (eCB (on1 lenI) (Ja (eVar 4) aNil)) aNil)) (gNm 7) (Jqe k)) (Jol k)
noncomputable def Js1 (k:Nat):S1:=sSeq (sSet 6 (eC (.bl false))) (Js2 k)
noncomputable def Jok (k:Nat):S1:=sSeq (sSet 5 (eLst aNil)) (Js1 k)
noncomputable def Js0 (k:Nat):S1:=sSeq (sSet 4 (Jaa (iAny (eVar 3)) 1 [3,2] (gNm 0) Jaw (Jgg k))) (Jok k)
noncomputable def Jsz (k:Nat):S1:=sSeq (sSet 3 (eSl slI (eVar 0) (Jlf (eC (.int 2))) (Jlf (eC (.int 7))))) (Js0 k)
noncomputable def Jsy (k:Nat):S1:=sSeq (sSet 2 (eBin Jr (eC (.int 1)) (eBin Jbd (eBin Jaf (eVar 1) (eC (.int 4))) (eBin opIx (eLst (Ja (eC (.int 3)) (Ja (eBin Jhb (eC (.int 10)) (eC (.int 15))) aNil))) (eBin Jbd (eVar 1) (eC (.int 2))))))) (Jsz k)
noncomputable def Joj (k:Nat):S1:=sSeq (sSet 1 (Jn (Jag k) [] (Ja (eVar 0) (Ja (eC (.int 0)) aNil)))) (Jsy k)
theorem J4t (k:Nat):Jog (k+1)=fnI 16 (Joj k):=by kernel_rfl
theorem J29 (k:Nat) (x0:IV) (h:IH):Jog (k+1) [x0] h=(Joj k [some x0,none,none,none,none,none,none,none,none,none,none,none,none,none,none,none] h).fin:=by rw[J4t];rfl
theorem Jmk (k:Nat):Jot (pg k) "held" 0 "Work"=some (Jce k,[]):=by kernel_rfl
theorem Jmi (k:Nat):Jot (pg k) "size" 0 "Duty"=some (Jcc k,[]):=by kernel_rfl
theorem Jmj (k:Nat):Jot (pg k) "work" 1 "Duty"=some (Jcd k,[]):=by kernel_rfl
end LW
section
open PySem L2 L3 L4
local macro_rules | `(tactic| simp! [$xs,*]) => `(tactic| simp (implicitDefEqProofs := false) only [Jqy, Jwc, Jpy, Jqz, J2r, Jp0, Jpz, Jpv, Jv9, Jwb, Jpx, Jwd, Jwa, Jjx, Je, Jhh, wr_c, Jwt, J0e, Jvk, J2p, Jvi, J2n, J2f, Jpr, Jv6, Jps, Jpt, Jin, Jpj, Jlx, Jv7, Jvu, Jpk, Jpo, J17, Jv1, Jvp, Jlz, Jl0, J2o, Jvn, Jvg, Jv5, Jvy, Jvx, Jpm, Jvw, Jv2, Jpi, J2j, J2h, J2e, J2d, J2c, J2l, Jvl, Jvz, Jvj, Jpu, Jv0, Jqx, J2m, Jpn, Jvo, Jpp, Jpq, Jvq, Jvs, Jvr, Jv4, Jly, List.set_cons_succ, List.set_cons_zero, List.append_nil, List.cons_append, List.nil_append, exists_eq_left, exists_eq_left', IV.bl.injEq, IV.int.injEq, IV.ref.injEq, IV.str.injEq, IO.lst.injEq, IV.tup.injEq, Option.some.injEq, Bool.not_true, Bool.not_false, reduceCtorEq, eq_self, true_implies, false_implies, implies_true, and_true, true_and, and_false, false_and, Option.bind_some, Bool.true_eq_false, Bool.false_eq_true, Jn7, Jjs, Jn8, Jvb, Jn5, Jn6, Jhi, Jby, Jhj, Jbz, Jbr, Jhk, Jku, Joc, Jq2, Jq3, Jsv, Jsw, Jsx, Jjw, Jju, Jjv, $xs,*])
local macro_rules | `(tactic| simp_all! [$xs,*]) => `(tactic| try simp (implicitDefEqProofs := false) only [Jqy, Jwc, Jpy, Jqz, J2r, Jp0, Jpz, Jpv, Jv9, Jwb, Jpx, Jwd, Jwa, Jjx, Je, Jhh, wr_c, Jwt, J0e, Jvk, J2p, Jvi, J2n, J2f, Jpr, Jv6, Jps, Jpt, Jin, Jpj, Jlx, Jv7, Jvu, Jpk, Jpo, J17, Jv1, Jvp, Jlz, Jl0, J2o, Jvn, Jvg, Jv5, Jvy, Jvx, Jpm, Jvw, Jv2, Jpi, J2j, J2h, J2e, J2d, J2c, J2l, Jvl, Jvz, Jvj, Jpu, Jv0, Jqx, J2m, Jpn, Jvo, Jpp, Jpq, Jvq, Jvs, Jvr, Jv4, Jly, List.set_cons_succ, List.set_cons_zero, List.append_nil, List.cons_append, List.nil_append, exists_eq_left, exists_eq_left', IV.bl.injEq, IV.int.injEq, IV.ref.injEq, IV.str.injEq, IO.lst.injEq, IV.tup.injEq, Option.some.injEq, Bool.not_true, Bool.not_false, reduceCtorEq, eq_self, true_implies, false_implies, implies_true, and_true, true_and, and_false, false_and, Option.bind_some, Bool.true_eq_false, Bool.false_eq_true, Jn7, Jjs, Jn8, Jvb, Jn5, Jn6, Jhi, Jby, Jhj, Jbz, Jbr, Jhk, Jku, Joc, Jq2, Jq3, Jsv, Jsw, Jsx, Jjw, Jju, Jjv, $xs,*])
local macro_rules | `(tactic| dsimp! [$xs,*]) => `(tactic| simp (implicitDefEqProofs := false) only [Jqy, Jwc, Jpy, Jqz, J2r, Jp0, Jpz, Jpv, Jv9, Jwb, Jpx, Jwd, Jwa, Jjx, Je, Jhh, wr_c, Jwt, J0e, Jvk, J2p, Jvi, J2n, J2f, Jpr, Jv6, Jps, Jpt, Jin, Jpj, Jlx, Jv7, Jvu, Jpk, Jpo, J17, Jv1, Jvp, Jlz, Jl0, J2o, Jvn, Jvg, Jv5, Jvy, Jvx, Jpm, Jvw, Jv2, Jpi, J2j, J2h, J2e, J2d, J2c, J2l, Jvl, Jvz, Jvj, Jpu, Jv0, Jqx, J2m, Jpn, Jvo, Jpp, Jpq, Jvq, Jvs, Jvr, Jv4, Jly, List.set_cons_succ, List.set_cons_zero, List.append_nil, List.cons_append, List.nil_append, $xs,*])
namespace LW
open PySem L2 L3 L4
section
variable {k:Nat}{h:IH}
theorem Jc:1000000<sizeLine:=by decide
theorem Jlo (o o':IO):List.set (h++[o]) h.length o'=h++[o']:=by
 rw[List.set_append_right _ _ (Nat.le_refl _),Nat.sub_self];rfl
theorem Jjp (o o':IO) (g:IH):List.set (h++o::g) h.length o'=h++o'::g:=by
 rw[List.set_append_right _ _ (Nat.le_refl _),Nat.sub_self];rfl
theorem Js9 (ns:List Int) (n:Int) (hn:0<=n):Jag (k+1) [.rol (ns.map .int),.int n] h=.ok (.int (ns.getD n.toNat 0)) h:=by
 refine Jda ?_
 rw[Jj3]
 simp! [Jbk,Jdq,List.length_map,decide_eq_true_eq,decide_eq_false_iff_not]
 refine⟨λ hl=>⟨.int (ns.getD n.toNat 0),Jz3 hn ?_,rfl⟩,λ hl=>?_⟩
 ·rw[List.getElem?_map,List.getD_eq_getElem?_getD,List.getElem?_eq_getElem (show n.toNat<ns.length by omega)]
  rfl
 ·rw[List.getD_eq_getElem?_getD,List.getElem?_eq_none (by omega)]
  rfl
theorem Jm1 (i:Int):Jer (k+1) [.int i] h=.ok (.bl true) h:=by rw[Joy];rfl
theorem Jhf (i j:Int):Jl (k+2) [.int i,.int j] h=.ok (.bl (decide (j<=i))) h:=by
 refine Jda ?_
 rw[Jh6]
 simp! [Jam,Jm1]
noncomputable def IsNm (x:Str):Prop:=1<=x.length/\x.length<=8/\∀c∈x.cps.toList,97<=c/\c<=122
theorem a_cps:(Str.ofString "a").cps.toList=[97]:=by decide +kernel
theorem z_cps:(Str.ofString "z").cps.toList=[122]:=by decide +kernel
theorem J1v {c:Nat}(hc:97<=c/\c<=122):Jcw k [some (.str ⟨#[c]⟩)] h=.ok (.bl true) h:=by
 refine Jda ?_
 have h1:¬([c]<[97]):=λ q=>by
  cases q with
  | rel q=>omega
  | cons q=>cases q
 have h2:¬([122]<[c]):=λ q=>by
  cases q with
  | rel q=>omega
  | cons q=>cases q
 simp only[Jcw,Jin,wr_c,Jwt,Jhh,J5f,a_cps,z_cps,h1,h2,decide_false,exists_eq_left,exists_eq_left',IV.bl.injEq,IV.int.injEq,IV.ref.injEq,IV.str.injEq,IO.lst.injEq,IV.tup.injEq,Option.some.injEq,Bool.not_true,Bool.not_false,reduceCtorEq,eq_self,true_implies,false_implies,implies_true,and_true,true_and,and_false,false_and,Option.bind_some,Bool.true_eq_false,Bool.false_eq_true,Jn7,Jjs,Jn8,Jvb,Jn5,Jn6,Jhi,Jby,Jhj,Jbz,Jbr,Jhk,Jku,Joc,Jq2,Jq3,Jsv,Jsw,Jsx,Jjw,Jju,Jjv]
theorem Jkn {x:Str}(hx:IsNm x):WR (Jdj (k+1) [.str x] h) λ v h'=>v=.bl true/\Ex h h':=by
 obtain⟨h1,h2,h3⟩:=hx
 have hb:=Jc
 have hz:x.length<=sizeLine:=by omega
 have a1:(1:Int)<=x.length:=by omega
 have a2:(x.length:Int)<=8:=by omega
 rw[Jrc]
 simp! [Jff,Jiv,hz,a1,a2,decide_true]
 refine WR.mono (J7 (xs:=Jki x) (chk:=λ _=>True) (f:=λ _=>.bl true) (h:=h) ?_ ?_ (λ _ _=>trivial) ?_) ?_
 ·exact⟨rfl,rfl,rfl⟩
 ·have:(Jki x).length=x.length:=by simp[Jki,Str.length]
  omega
 ·intro v hv h2 _
  obtain⟨c,hc,rfl⟩:=List.mem_map.mp hv
  exact WR.of_eq (J1v (h3 c hc)) ⟨rfl,.refl _⟩
 ·rintro v h' ⟨rfl,g,rfl⟩
  refine WR.of_eq (all_map (f:=λ _=>true) Jp) ⟨?_,.cons ..⟩
  simp
noncomputable abbrev Hd:=Str×Int×Int
noncomputable def tupH (a:Hd):IV:=.tup [.str a.1,.int a.2.1,.int a.2.2]
noncomputable def HdOk (len:Int) (a:Hd):Prop:=IsNm a.1/\0<=a.2.1/\a.2.1<a.2.2/\a.2.2<len
noncomputable def Tog (a b:Hd):Prop:=a.2.2<=b.2.1∨b.2.2<=a.2.1∨(a.1≠b.1/\((b.2.1<=a.2.1/\a.2.2<=b.2.2)∨(a.2.1<=b.2.1/\b.2.2<=a.2.2)))
theorem Jrj {a:Hd}{len:Int}(ha:HdOk len a):WR (Jfn (k+3) [tupH a,.int len] h) λ v h'=>v=.bl true/\Ex h h':=by
 obtain⟨h1,h2,h3,h4⟩:=ha
 rw[Jrb]
 have h5:a.2.1+1<=a.2.2:=by omega
 simp! [Jfe,Jit,Jiu,tupH,List.length_cons,List.length_nil,Jhf]
 refine⟨λ q=>absurd q (by decide),λ _=>WR.mono (Jkn h1) ?_⟩
 rintro v h' ⟨rfl,x⟩
 simp! [decide_eq_true h2,decide_eq_true h4,decide_eq_true h5]
 exact x
theorem Jm2 (a b:Hd):Jch (k+1) [tupH a,tupH b] h=.ok (.bl (decide (a.2.2<=b.2.1)||decide (b.2.2<=a.2.1))) h:=by
 refine Jda ?_
 rw[Jmw]
 simp! [Jcs,tupH]
 cases decide (a.2.2<=b.2.1)<;>simp
theorem Jrn (a b:Hd):Jdk (k+1) [tupH a,tupH b] h=.ok (.bl (decide (b.2.1<=a.2.1)&&decide (a.2.2<=b.2.2))) h:=by
 refine Jda ?_
 rw[Jre]
 simp! [Jfg,tupH]
 cases decide (b.2.1<=a.2.1)<;>simp
theorem Jj7 {a b:Hd}(t:Tog a b):Ja3 (k+2) [tupH a,tupH b] h=.ok (.bl true) h:=by
 refine Jda ?_
 rw[Jj2]
 have ix:∀a:Hd,WR (opIx (tupH a) (.int 0) h)=λ P=>P (.str a.1) h:=λ a=>by
  funext P
  simp only[tupH,Jku,exists_eq_left,exists_eq_left',IV.bl.injEq,IV.int.injEq,IV.ref.injEq,IV.str.injEq,IO.lst.injEq,IV.tup.injEq,Option.some.injEq,Bool.not_true,Bool.not_false,reduceCtorEq,eq_self,true_implies,false_implies,implies_true,and_true,true_and,and_false,false_and,Option.bind_some,Bool.true_eq_false,Bool.false_eq_true,Jn7,Jjs,Jn8,Jvb,Jn5,Jn6,Jhi,Jby,Jhj,Jbz,Jbr,Jhk,Jku,Joc,Jq2,Jq3,Jsv,Jsw,Jsx,Jjw,Jju,Jjv]
 simp! [Jbj,Jdo,Jdp,Jm2,Jrn,ix]
 unfold Tog at t
 simp only[Bool.or_eq_true,Bool.or_eq_false_iff,Bool.and_eq_true,Bool.and_eq_false_iff,decide_eq_true_eq,decide_eq_false_iff_not]
 grind
theorem Jph {hs:List Hd}{i:Nat}(hi:h[i]?=some (.lst (hs.map tupH))) (hl:hs.length<=6) (ht:∀m n (hm:m<n) (hn:n<hs.length),Tog hs[n] hs[m]) :
  WR (J1 (k+3) [.ref i] h) λ v h'=>v=.bl true/\Ex h h':=by
 have hb:=Jc
 rw[Jgq]
 simp! [Jad,Jbh,J2b,hi]
 refine Jao (λ n σ h'=>(∃a b,σ=[some (.ref i),a,b])/\Ex h h') (λ n σ h' ⟨_,x⟩=>x.get hi) ?_ ?_ ⟨⟨_,_,rfl⟩,.refl h⟩
 ·rintro n hn _ h' ⟨⟨a,b,rfl⟩,x⟩
  have hn':n<hs.length:=by rw[Jea,List.length_map] at hn;exact hn
  rw[J0f]
  simp! [List.getElem_map,Jh5,Jod,Joe,List.length_cons,List.length_nil,Ja1]
  have hi':=x.get hi
  refine WR.mono (J7 (xs:=(hs.map tupH).take n) (chk:=λ h2=>h2[h'.length]?=some (.lst ((hs.map tupH).take n))) (f:=λ _=>.bl true) (h:=h'++[.lst ((hs.map tupH).take n)]) ?_ ?_ ?_ ?_) ?_
  ·simp! [Jv3,hi',Jca,Jp7,grown]
  ·simp only[List.length_take,List.length_map];omega
  ·exact λ h2 q=>q _ _ grown
  ·intro v hv h2 q
   obtain⟨j,hj,rfl⟩:=List.mem_iff_getElem.mp hv
   have hj':j<n:=by simp at hj;omega
   simp! [List.getElem_take,List.getElem_map,Jau,List.map_cons,List.map_nil,List.getElem?_cons_succ,List.getElem?_cons_zero,Option.join_some]
   exact WR.of_eq (Jj7 (ht j n hj' hn')) ⟨rfl,.refl _⟩
  ·rintro v h3 ⟨rfl,g,rfl⟩
   refine WR.of_eq (all_map (f:=λ _=>true) Jp) ?_
   have:(((hs.map tupH).take n).all λ _=>true)=true:=by simp
   simp! [this]
   exact⟨⟨_,_,rfl⟩,x.trans ((Ex.one _ _).trans (.cons ..))⟩
 ·rintro _ h' ⟨⟨a,b,rfl⟩,x⟩
  exact x
structure HsOk (len:Int) (hs:List Hd):Prop where
 few:hs.length<=6
 each:∀a∈hs,HdOk len a
 tog:∀m n (hm:m<n) (hn:n<hs.length),Tog hs[n] hs[m]
theorem Jm7 {hs:List Hd}{i:Nat}{len:Int}(hi:h[i]?=some (.lst (hs.map tupH))) (ok:HsOk len hs) :
  WR (Jak (k+4) [.ref i,.int len] h) λ v h'=>v=.tup (hs.map tupH)/\Ex h h':=by
 have hb:=Jc
 have hl:=ok.few
 have h6:¬(6:Int)<(hs.length:Int):=by omega
 rw[Jmx]
 simp! [Jct,Jf7,Jf8,Jf9,J2g,isI,Jzu hi,Jjt,hi,List.length_map,h6,decide_false]
 refine WR.mono (J7 (xs:=hs.map tupH) (chk:=λ h2=>h2[i]?=some (.lst (hs.map tupH))) (f:=λ _=>.bl true) (h:=h) ?_ ?_ ?_ ?_) ?_
 ·simp! [Jca,hi]
 ·simp only[List.length_map];omega
 ·exact λ h2 q=>q _ _ hi
 ·intro v hv h2 q
  obtain⟨a,ha,rfl⟩:=List.mem_map.mp hv
  simp! [Jd3,List.map_cons,List.map_nil,List.getElem?_cons_succ,List.getElem?_cons_zero,Option.join_some]
  exact Jrj (ok.each a ha)
 ·rintro v h1 ⟨rfl,g,rfl⟩
  refine WR.of_eq (all_map (f:=λ _=>true) Jp) ?_
  have:((hs.map tupH).all λ _=>true)=true:=by simp
  simp! [this,Jga,Jgb]
  have x1:Ex h (h++IO.lst (List.map (λ x=>IV.bl true) (hs.map tupH))::g):=.cons ..
  refine WR.mono (Jph (x1.get hi) hl ok.tog) ?_
  rintro v h2 ⟨rfl,x2⟩
  simp! [true_and]
  have hi2:=x2.get (x1.get hi)
  refine WR.mono (J7 (xs:=hs.map tupH) (chk:=λ h3=>h3[i]?=some (.lst (hs.map tupH))) (f:=λ x=>x) (h:=h2) ?_ ?_ ?_ ?_) ?_
  ·simp! [Jca,hi2]
  ·simp only[List.length_map];omega
  ·exact λ h2 q=>q _ _ hi2
  ·intro v hv h3 q
   obtain⟨a,ha,rfl⟩:=List.mem_map.mp hv
   simp! [Jd4,tupH,List.length_cons,List.length_nil]
   exact⟨by omega,.refl _⟩
  ·rintro v h3 ⟨rfl,g3,rfl⟩
   simp only[Jv8,Jp,exists_eq_left,exists_eq_left',IV.bl.injEq,IV.int.injEq,IV.ref.injEq,IV.str.injEq,IO.lst.injEq,IV.tup.injEq,Option.some.injEq,Bool.not_true,Bool.not_false,reduceCtorEq,eq_self,true_implies,false_implies,implies_true,and_true,true_and,and_false,false_and,Option.bind_some,Bool.true_eq_false,Bool.false_eq_true,Jn7,Jjs,Jn8,Jvb,Jn5,Jn6,Jhi,Jby,Jhj,Jbz,Jbr,Jhk,Jku,Joc,Jq2,Jq3,Jsv,Jsw,Jsx,Jjw,Jju,Jjv,List.map_id']
   exact x1.trans (x2.trans (.cons ..))
theorem Jry {due gap:Int}(h1:1<=due) (h2:due<=gap):Jb7 (k+3) [.int due,.int gap] h=.ok (.int due) h:=by
 refine Jda ?_
 rw[Jrf]
 have:¬gap<due:=by omega
 simp! [Jfh,Ji1,Ji2,J2g,isI,Jhf,decide_eq_true h1,decide_eq_false this]
noncomputable def wfs (name:Str) (gap len due late:Int) (hs:List IV):List (Str×IV):=[("name",.str name),("gap",.int gap),("length",.int len),("due",.int due),("late",.int late),("hold_tuples",.tup hs)]
section
variable (a b c d e f:IV)
theorem put0:putI "name" a ([]:List (Str×IV))=([("name",a)]:List (Str×IV)):=by kernel_rfl
theorem put1:putI "gap" b ([("name",a)]:List (Str×IV))=([("name",a),("gap",b)]:List (Str×IV)):=by kernel_rfl
theorem put2:putI "length" c ([("name",a),("gap",b)]:List (Str×IV))=([("name",a),("gap",b),("length",c)]:List (Str×IV)):=by kernel_rfl
theorem put3:putI "due" d ([("name",a),("gap",b),("length",c)]:List (Str×IV))=([("name",a),("gap",b),("length",c),("due",d)]:List (Str×IV)):=by kernel_rfl
theorem put4:putI "late" e ([("name",a),("gap",b),("length",c),("due",d)]:List (Str×IV))=([("name",a),("gap",b),("length",c),("due",d),("late",e)]:List (Str×IV)):=by kernel_rfl
theorem put5:putI "hold_tuples" f ([("name",a),("gap",b),("length",c),("due",d),("late",e)]:List (Str×IV))=([("name",a),("gap",b),("length",c),("due",d),("late",e),("hold_tuples",f)]:List (Str×IV)):=by kernel_rfl
variable {name:Str}{gap len due late:Int}{hs:List IV}
theorem fl0:(wfs name gap len due late hs).lookup ("name":Str)=some (.str name):=by kernel_rfl
theorem fl1:(wfs name gap len due late hs).lookup ("gap":Str)=some (.int gap):=by kernel_rfl
theorem fl2:(wfs name gap len due late hs).lookup ("length":Str)=some (.int len):=by kernel_rfl
theorem fl3:(wfs name gap len due late hs).lookup ("due":Str)=some (.int due):=by kernel_rfl
theorem fl4:(wfs name gap len due late hs).lookup ("late":Str)=some (.int late):=by kernel_rfl
theorem fl5:(wfs name gap len due late hs).lookup ("hold_tuples":Str)=some (.tup hs):=by kernel_rfl
theorem flh:(wfs name gap len due late hs).lookup ("held":Str)=none:=by kernel_rfl
end
theorem Jve {name:Str}{gap len due late:Int}{dv hv:IV}{hs:List IV}{w:Nat}(hw:h[w]?=some (.ins "Work" [])) (hn:IsNm name) (hg:1<=gap) (hl:1<=len) (ht:0<=late)
  (hd:∀h1,Jb7 (k+4) [dv,.int gap] h1=.ok (.int due) h1) (hh:∀h1:IH,(∀(j:Nat) (o:IO),j≠w->h[j]?=some o->h1[j]?=some o)->WR (Jak (k+4) [hv,.int len] h1) λ v h2=>v=.tup hs/\Ex h1 h2) :
  WR (Jaj (k+5) [.ref w,.str name,.int gap,.int len,dv,.int late,hv] h) λ v h'=>v=.non/\∃g,h'=h.set w (.ins "Work" (wfs name gap len due late hs))++g:=by
 rw[Jmt]
 simp! [Jcn]
 refine WR.mono (Jkn hn) ?_
 rintro v h1 ⟨rfl,g1,rfl⟩
 have lw:=Jh7 hw
 have s1:∀{o:IO},(h++g1).set w o=h.set w o++g1:=by intro o;rw[List.set_append_left (h:=lw)]
 have at1:∀{o:IO},(h.set w o++g1)[w]?=some o:=by
  intro o
  rw[List.getElem?_append_left (by rw[List.length_set];exact lw),List.getElem?_set_self lw]
 have s2:∀{o o':IO},(h.set w o++g1).set w o'=h.set w o'++g1:=by intro o o';rw[List.set_append_left (h:=by rw[List.length_set];exact lw),List.set_set]
 simp! [Jft,Jfu,Jfv,Jfw,Jfx,Jfy,Jfz,Jf0,Jhf,decide_eq_true hg,decide_eq_true hl,decide_eq_true ht,Jpw,IO.ins.injEq,grow hw]
 refine⟨w,_,_,rfl,grow hw,by decide,?_⟩
 rw[s1,put0]
 refine⟨w,_,_,rfl,at1,by show(1:Nat)<1000;decide,?_⟩
 rw[s2,put1]
 refine⟨w,_,_,rfl,at1,by show(2:Nat)<1000;decide,?_⟩
 rw[s2,put2,hd]
 refine⟨w,_,_,rfl,at1,by show(3:Nat)<1000;decide,?_⟩
 rw[s2,put3]
 refine⟨w,_,_,rfl,at1,by show(4:Nat)<1000;decide,?_⟩
 rw[s2,put4]
 simp! [Jf1,Jpw]
 refine WR.mono (hh _ λ j o hj e=>?_) ?_
 ·refine grow ?_
  rw[List.getElem?_set_ne (Ne.symm hj)]
  exact e
 ·rintro v h2 ⟨rfl,g2,rfl⟩
  refine⟨w,_,_,rfl,grow at1,by show(5:Nat)<1000;decide,g1++g2,?_⟩
  rw[List.set_append_left (h:=Jh7 at1),s2,put5,List.append_assoc]
  rfl
theorem J02 {name:Str}{gap len due late:Int}{dv hv:IV}{hs:List IV}(hn:IsNm name) (hg:1<=gap) (hl:1<=len) (ht:0<=late)
  (hd:∀h1,Jb7 (k+4) [dv,.int gap] h1=.ok (.int due) h1) (hh:∀h1:IH,(∀(j:Nat) (o:IO),h[j]?=some o->h1[j]?=some o)->WR (Jak (k+4) [hv,.int len] h1) λ v h2=>v=.tup hs/\Ex h1 h2) :
  WR (Jaj (k+5) [.ref h.length,.str name,.int gap,.int len,dv,.int late,hv] (h++[.ins "Work" []])) λ v h'=>v=.non/\∃g,h'=h++.ins "Work" (wfs name gap len due late hs)::g:=by
 refine WR.mono (Jve grown hn hg hl ht hd λ h1 q=>hh h1 λ j o e=>q j o (by have:=Jh7 e;omega) (grow e)) ?_
 rintro v h' ⟨rfl,g,rfl⟩
 exact⟨rfl,g,by rw[Jlo];simp⟩
theorem Jvd {name:Str}{gap len due late:Int}{hs:List IV}{w:Nat}(hw:h[w]?=some (.ins "Work" (wfs name gap len due late hs))):Jce (k+1) [.ref w] h=.ok (.ref h.length) (h++[.lst hs]):=by
 refine Jda ?_
 rw[Jms]
 simp! [Jcm,Jf hw,fl5]
end
structure WD where
 name:Str
 gap:Int
 len:Int
 due:Int
 late:Int
noncomputable def IsW (h:IH) (v:IV) (d:WD):Prop:=∃i hs,v=.ref i/\h[i]?=some (.ins "Work" (wfs d.name d.gap d.len d.due d.late hs))
theorem IsW.kp {h h':IH}{v:IV}{d:WD}(k:Kp h h') (w:IsW h v d):IsW h' v d:=by
 obtain⟨i,hs,e,q⟩:=w
 exact⟨i,hs,e,k _ _ q⟩
structure AllW (h:IH) (vs:List IV) (ds:List WD):Prop where
 len:vs.length=ds.length
 at_:∀(i:Nat) v d,vs[i]?=some v->ds[i]?=some d->IsW h v d
theorem AllW.kp {h h':IH}{vs:List IV}{ds:List WD}(k:Kp h h') (w:AllW h vs ds):AllW h' vs ds:=⟨w.len,λ i v d a b=>(w.at_ i v d a b).kp k⟩
theorem AllW.of {h:IH}{vs:List IV}{ds:List WD}(w:AllW h vs ds){v:IV}(hv:v∈vs):∃d∈ds,IsW h v d:=by
 obtain⟨i,hi,rfl⟩:=List.mem_iff_getElem.mp hv
 have hi':i<ds.length:=by rw[<- w.len];exact hi
 exact⟨ds[i],List.getElem_mem hi',w.at_ i _ _ (List.getElem?_eq_getElem hi) (List.getElem?_eq_getElem hi')⟩
noncomputable def fOf (f:Str) (h:IH) (v:IV):IV:=(Jeb f v h).getD .non
theorem AllW.mapF {h:IH}{vs:List IV}{ds:List WD}(w:AllW h vs ds){F:IV->IV}{g:WD->IV}(hf:∀(i:Nat) (d:WD) hs,h[i]?=some (.ins "Work" (wfs d.name d.gap d.len d.due d.late hs))->F (.ref i)=g d):vs.map F=ds.map g:=by
 refine List.ext_getElem? λ i=>?_
 rw[List.getElem?_map,List.getElem?_map]
 by_cases hi:i<vs.length
 ·have hi':i<ds.length:=by rw[<- w.len];exact hi
  rw[List.getElem?_eq_getElem hi,List.getElem?_eq_getElem hi']
  obtain⟨j,hs,e,q⟩:=w.at_ i _ _ (List.getElem?_eq_getElem hi) (List.getElem?_eq_getElem hi')
  simp only[Option.map_some,Option.some.injEq]
  rw[e,hf j _ hs q]
 ·have hi':¬i<ds.length:=by rw[<- w.len];exact hi
  rw[List.getElem?_eq_none (by omega),List.getElem?_eq_none (by omega)]
  rfl
section
variable {k:Nat}{h:IH}
theorem Jxu:Jyt ["Work"] (.ins "Work")=some true:=by kernel_rfl
theorem Jm8 {vs:List IV}{ds:List WD}{i:Nat}(hi:h[i]?=some (.lst vs)) (w:AllW h vs ds) (nd:(ds.map (·.name)).Nodup) (hl:ds.length<=20) :
  WR (Jci (k+1) [.ref i] h) λ v h'=>v=.tup vs/\Ex h h':=by
 have hb:=Jc
 have wl:=w.len
 rw[Jmy]
 simp! [Jcu,Jgc,Jzu hi]
 refine WR.mono (J7 (h:=h) (xs:=vs) (chk:=λ h'=>h'[i]?=some (.lst vs)) (f:=λ _=>.bl true) ?_ (by omega) (λ h2 q=>q _ _ hi) ?_) ?_
 ·simp! [Jca,hi]
 ·intro v hv h2 q
  obtain⟨d,_,j,hs,rfl,e⟩:=w.of hv
  have ty:tyI (.ref j) h2=some (.ins "Work"):=by simp[tyI,q _ _ e]
  simp! [Jd5,ty,Jxu]
  exact .refl _
 ·rintro _ _ ⟨rfl,g,rfl⟩
  have x1:Ex h (h++L3.IO.lst (vs.map λ _=>.bl true)::g):=.cons _ _ _
  rw[all_map (f:=λ _=>true) Jp]
  generalize h++L3.IO.lst (vs.map λ _=>.bl true)::g=h1 at x1
  have at1:(vs.all λ _=>true)=true:=by simp
  simp! [at1,Jgd,Jvt]
  have w1:=w.kp x1.kp
  have nm:=w1.mapF (F:=fOf "name" h1) (g:=λ d=>.str d.name) λ j d hs e=>by rw[fOf,Jf e,fl0];rfl
  refine WR.mono (J7 (h:=h1) (xs:=vs) (chk:=λ h'=>h'[i]?=some (.lst vs)) (f:=fOf "name" h1) ?_ (by omega) (λ h2 q=>q _ _ (x1.get hi)) ?_) ?_
  ·simp! [Jca,x1.get hi]
  ·intro v hv h2 q
   obtain⟨d,_,j,hs,rfl,e⟩:=w1.of hv
   simp! [Jd6,Jf (q _ _ e),fl0,fOf,Jf e,Option.getD_some]
   exact .refl _
  ·rintro _ _ ⟨rfl,g2,rfl⟩
   rw[nm]
   have em:ds.map (λ d=>IV.str d.name)=(ds.map (·.name)).map IV.str:=by simp
   rw[em]
   have x2:Ex h1 (h1++L3.IO.lst ((ds.map (·.name)).map IV.str)::g2):=.cons _ _ _
   refine⟨_,rfl,_,Jp,ds.map (·.name),Jqs _,by rw[List.length_map];unfold scanBound;omega,?_⟩
   rw[Jme nd _ (Nat.le_refl _)]
   simp! [Jjt,x2.get (x1.get hi),List.length_map,wl,decide_true,Jge,Jv8]
   exact x1.trans x2
noncomputable def rup (top bottom:Int):Int:=(top+bottom-1)/bottom
noncomputable def topD (ds:List WD):Int:=if ds.map (·.due)=[] then 0 else Jdc (λ i=>(ds.map (·.due)).getD i 0) (ds.map (·.due)).length
noncomputable def Jp6 (ds:List WD):Int:=(ds.map λ d=>rup (topD ds+d.late) d.gap).sum
noncomputable def rOf (T:Int) (h:IH) (v:IV):IV:=match Jeb "late" v h,Jeb "gap" v h with
 | some (.int l),some (.int g)=>.int (rup (T+l) g)
 | _,_=>.non
theorem Jnl {a b:Int}(hb:0<b) (hl:b.natAbs.log2<9000):Jbf (k+1) [.int a,.int b] h=.ok (.int (rup a b)) h:=by
 refine Jda ?_
 rw[Jmz]
 simp! [Jcv,hb,hl,rup]
theorem Jwn {vs:List IV}{ds:List WD}(w:AllW h vs ds) (hl:ds.length<=20) (hg:∀d∈ds,0<d.gap/\d.gap.natAbs.log2<9000) :
  WR (Jeq (k+2) [.tup vs] h) λ v h'=>v=.int (Jp6 ds)/\Ex h h':=by
 have hb:=Jc
 have wl:=w.len
 rw[Jox]
 simp! [Jdn,Jvv]
 have dm:=w.mapF (F:=fOf "due" h) (g:=λ d=>.int d.due) λ j d hs e=>by rw[fOf,Jf e,fl3];rfl
 refine WR.mono (J7 (h:=h) (xs:=vs) (chk:=λ _=>True) (f:=fOf "due" h) ?_ (by omega) (λ _ _=>trivial) ?_) ?_
 ·simp! [true_and]
 ·intro v hv h2 q
  obtain⟨d,_,j,hs,rfl,e⟩:=w.of hv
  simp! [Je5,Jf (q _ _ e),fl3,fOf,Jf e,Option.getD_some]
  exact .refl _
 ·rintro _ _ ⟨rfl,g,rfl⟩
  rw[dm]
  have em:ds.map (λ d=>IV.int d.due)=(ds.map (·.due)).map IV.int:=by simp
  rw[em]
  have x1:Ex h (h++L3.IO.lst ((ds.map (·.due)).map IV.int)::g):=.cons _ _ _
  refine⟨_,rfl,_,Jp,_,Jbv _,?_⟩
  have et:maxD (ds.map (·.due)) (.int 0)=.int (topD ds):=by
   unfold maxD topD
   split<;>rfl
  rw[et]
  generalize h++L3.IO.lst ((ds.map (·.due)).map IV.int)::g=h1 at x1
  have w1:=w.kp x1.kp
  simp! [Jhn]
  have rm:=w1.mapF (F:=rOf (topD ds) h1) (g:=λ d=>.int (rup (topD ds+d.late) d.gap)) λ j d hs e=>by rw[rOf,Jf e,Jf e,fl4,fl1]
  refine WR.mono (J7 (h:=h1) (xs:=vs) (chk:=λ _=>True) (f:=rOf (topD ds) h1) ?_ (by omega) (λ _ _=>trivial) ?_) ?_
  ·simp! [true_and]
  ·intro v hv h2 q
   obtain⟨d,hd,j,hs,rfl,e⟩:=w1.of hv
   have e2:=q _ _ e
   simp only[List.map_cons,List.map_nil,List.getElem?_cons_succ,List.getElem?_cons_zero,Option.join_some]
   simp! [Je6,Jf e2,fl4,fl1,Jnl (hg d hd).1 (hg d hd).2]
   exact⟨by rw[rOf,Jf e,Jf e,fl4,fl1],.refl _⟩
  ·rintro _ _ ⟨rfl,g2,rfl⟩
   rw[rm]
   have em2:ds.map (λ d=>IV.int (rup (topD ds+d.late) d.gap))=(ds.map λ d=>rup (topD ds+d.late) d.gap).map IV.int:=by simp
   rw[em2]
   simp! [Jl1,Jp,Jbv]
   exact⟨rfl,x1.trans (.cons _ _ _)⟩
noncomputable abbrev dfs (vs:List IV):List (Str×IV):=[("works",.tup vs)]
theorem dp0 {a:IV}:putI "works" a ([]:List (Str×IV))=([("works",a)]:List (Str×IV)):=by kernel_rfl
theorem dl0 {a:IV}:(([("works",a)]:List (Str×IV))).lookup ("works":Str)=some a:=by kernel_rfl
theorem dlw {a:IV}:(([("works",a)]:List (Str×IV))).lookup ("work":Str)=none:=by kernel_rfl
theorem Jtl {vs:List IV}{ds:List WD}{i:Nat}(hi:h[i]?=some (.lst vs)) (w:AllW h vs ds) (nd:(ds.map (·.name)).Nodup) (hl:ds.length<=12) (hg:∀d∈ds,0<d.gap/\d.gap.natAbs.log2<9000) (hc:Jp6 ds<=80) :
  WR (Jcb (k+3) [.ref h.length,.ref i] (h++[.ins "Duty" []])) λ v h'=>v=.non/\∃g,h'=h++.ins "Duty" (dfs vs)::g:=by
 have wl:=w.len
 rw[Jmp]
 simp! [Jcj,Jpw]
 refine WR.mono (Jm8 (grow hi) (w.kp (Ex.one h _).kp) nd (by omega)) ?_
 rintro _ _ ⟨rfl,g1,rfl⟩
 refine⟨_,_,_,rfl,grow grown,by decide,?_⟩
 rw[dp0,List.append_assoc,List.cons_append,List.nil_append,Jjp]
 simp! [Jfr,Jf (Jp (h:=h)),dl0,wl]
 refine⟨λ q=>?_,λ _=>?_⟩
 ·rw[decide_eq_true_eq] at q
  omega
 simp! [Jfs,Jf (Jp (h:=h)),dl0]
 refine WR.mono (Jwn (w.kp (Ex.cons h _ _).kp) (by omega) hg) ?_
 rintro _ _ ⟨rfl,g2,rfl⟩
 simp! [true_and]
 refine⟨λ q=>?_,λ _=>⟨g1++g2,by simp⟩⟩
 rw[decide_eq_true_eq] at q
 omega
theorem Jtn {vs:List IV}{D:Nat}{n:Int}{x:IV}(hD:h[D]?=some (.ins "Duty" (dfs vs))) (hx:atI vs n=some x):Jcd (k+1) [.ref D,.int n] h=.ok x h:=by
 refine Jda ?_
 rw[Jmr]
 simp! [Jcl,Jf hD,dl0,hx]
theorem Ju7 (c:Int) (m:Nat) (hm:m<=40):WR (Jbq (k+1) [.int c,.int m] h) λ v h'=>∃(i:Nat) (xs:List Int),v=.ref i/\h.length<=i/\h'[i]?=some (.lst (xs.map .int))/\xs.length=m/\(∀x∈xs,(0:Int)<=x/\x<10^45)/\Ex h h':=by
 have hb:=Jc
 have t45:Int.toNat 45=45:=rfl
 have t30:Int.toNat 30=30:=rfl
 have t18:Int.toNat 18=18:=rfl
 have p45:(0:Int)<10^45:=by decide +kernel
 have l45:((10:Int)^45).natAbs.log2<9000:=by decide +kernel
 have q18:(10:Int)^18+9=1000000000000000009:=by decide +kernel
 have le:(1000000000000000009:Int)<=10^45:=by decide +kernel
 have w10:(0:Int)<=45/\(45:Int)<=1000000/\Int.natAbs 10<2^64:=by decide
 have w18:(0:Int)<=18/\(18:Int)<=1000000/\Int.natAbs 10<2^64:=by decide
 rw[Jk8]
 simp! [Jb1,Je1,List.length_nil,Nat.zero_le,t30,t18,decide_eq_true_eq,decide_eq_false_iff_not]
 refine⟨by decide,λ _=>⟨by decide,⟨by omega,by omega⟩,?_⟩,λ _=>?_⟩
 ·refine Jao (λ n σ h'=>∃xs rest a b,h'=h++[.lst (xs.map IV.int)]/\σ=[some (.int c),some (.int (m:Int)),some (.ref h.length),some (.int rest),a,b]/\xs.length=n/\∀x∈xs,(0:Int)<=x/\x<10^45)
   (λ _ _ _ _=>trivial) ?_ ?_ ⟨[],_,_,_,rfl,rfl,rfl,by simp⟩
  ·rintro n hn _ _ ⟨xs,rest,a,b,rfl,rfl,lx,hx⟩
   rw[Jkq]
   rw[Ja0] at hn
   simp! [Jee]
   rw[Jhg (i:=h.length) (h1:=h++[L3.IO.lst (xs.map IV.int)]) rfl grown Jd2]
   simp! [Jen,grown,t45,w10,p45,l45,Jlo,List.length_map]
   have e1:=Int.emod_nonneg rest (b:=10^45) (by decide +kernel)
   have e2:=Int.emod_lt_of_pos rest p45
   refine⟨by omega,xs++[rest%10^45],_,_,_,by simp,rfl,by simp[lx],?_⟩
   intro x hxx
   rw[List.mem_append,List.mem_singleton] at hxx
   rcases hxx with hxx|rfl
   ·exact hx x hxx
   ·exact⟨e1,e2⟩
  ·rintro _ _ ⟨xs,rest,a,b,rfl,rfl,lx,hx⟩
   rw[Ja0] at lx
   simp! [true_and]
   exact⟨_,xs,rfl,Nat.le_refl _,grown,by omega,hx,.one _ _⟩
 ·simp! [Je2,Je3,t18,w18,q18,show(0:Int)<1000000000000000009 by decide]
  refine⟨⟨by omega,by omega⟩,?_⟩
  have s0:=Int.emod_nonneg c (b:=1000000000000000009) (by decide)
  have s1:=Int.emod_lt_of_pos c (b:=1000000000000000009) (by decide)
  refine Jao (λ n σ h'=>∃xs num a b,h'=h++[.lst (xs.map IV.int)]/\σ=[some (.int c),some (.int (m:Int)),some (.ref h.length),a,b,some (.int num)]/\(0<=num/\num<2000000000000000000)/\xs.length=n/\∀x∈xs,(0:Int)<=x/\x<1000000000000000009)
   (λ _ _ _ _=>trivial) ?_ ?_ ⟨[],_,_,_,rfl,rfl,by omega,rfl,by simp⟩
  ·rintro n hn _ _ ⟨xs,num,a,b,rfl,rfl,hnum,lx,hx⟩
   rw[Jkq]
   rw[Ja0] at hn
   have m1:Ju num num:=.inl (by omega)
   have m2:Ju 48271 num:=.inl (by decide)
   simp! [Jef,t18,w18,q18,m1,m2,show(0:Int)<1000000000000000009 by decide]
   have e1:=Int.emod_nonneg (num*num+48271*num+(0+(n:Int))) (b:=1000000000000000009) (by decide)
   have e2:=Int.emod_lt_of_pos (num*num+48271*num+(0+(n:Int))) (b:=1000000000000000009) (by decide)
   generalize (num*num+48271*num+(0+(n:Int)))%1000000000000000009=y at e1 e2
   rw[Jhg (i:=h.length) (h1:=h++[L3.IO.lst (xs.map IV.int)]) rfl grown Jd2]
   simp! [Jen,grown,Jlo,List.length_map]
   refine⟨by omega,xs++[y],y,_,_,by simp,rfl,by omega,by simp[lx],?_⟩
   intro x hxx
   rw[List.mem_append,List.mem_singleton] at hxx
   rcases hxx with hxx|rfl
   ·exact hx x hxx
   ·exact⟨e1,e2⟩
  ·rintro _ _ ⟨xs,num,a,b,rfl,rfl,hnum,lx,hx⟩
   rw[Ja0] at lx
   simp! [Je4,Jv3,grown]
   rw[show(some (2:Int))=some ((2:Nat):Int) from rfl,Jwo,<-List.map_drop]
   refine⟨_,xs.drop 2,rfl,by simp,grown,by simp;omega,λ x hxx=>?_,(Ex.one _ _).trans (.one _ _)⟩
   have:=hx x (List.mem_of_mem_drop hxx)
   generalize (10:Int)^45=z at *
   omega
end
structure F5 (unit:Int) (r:WD×Int):Prop where
 g1:unit<=r.1.gap
 g2:r.1.gap<=8*unit+4
 l1:1<=r.1.len
 l2:r.1.len<=2*r.1.gap+1
 d1:1<=r.1.due
 d2:r.1.due<=r.1.gap
 t1:0<=r.1.late
 t2:r.1.late<=r.1.gap+r.1.gap/2
 z1:0<=r.2
theorem Jxm {a b K:Nat}(h:a<=b) (hb:b.log2<K):a.log2<K:=by
 by_cases ha:a=0
 ·subst ha
  exact Nat.lt_of_le_of_lt (Nat.zero_le _) hb
 ·have hb0:b≠0:=by omega
  rw[Nat.log2_lt ha]
  exact Nat.lt_of_le_of_lt h ((Nat.log2_lt hb0).mp hb)
theorem Jui {x:Int}(h0:0<=x) (h:x<=10^60):x.natAbs.log2<9000:=by
 refine Jxm (b:=10^60) ?_ (by decide +kernel)
 have e:((10^60:Nat):Int)=10^60:=by decide +kernel
 generalize (10^60:Int)=y at *
 generalize (10^60:Nat)=z at *
 omega
theorem half {a b g:Int}(h:0<g):0<=a%2*(b%g)/\a%2*(b%g)<g:=by
 have b1:=Int.emod_nonneg b (b:=g) (by omega)
 have b2:=Int.emod_lt_of_pos b h
 have:a%2=0∨a%2=1:=by omega
 rcases this with e|e<;>rw[e]
 ·omega
 ·omega
theorem at7 {xs:List Int}{n:Nat}{P:Int->Prop}(hl:n<xs.length) (hx:∀x∈xs,P x):∃x,P x/\atI (xs.map IV.int) (n:Int)=some (.int x):=by
 refine⟨xs[n],hx _ (List.getElem_mem hl),Jfq ?_⟩
 rw[List.getElem?_map,List.getElem?_eq_getElem hl]
 rfl
theorem J4v {a b m:Int}(hb:0<b) (h:a<=m*b):rup a b<=m:=by
 unfold rup
 have:(a+b-1)/b<m+1:=by
  rw[Int.ediv_lt_iff_lt_mul hb,Int.add_mul]
  omega
 omega
theorem Jzl (m:Int):∀l:List Int,(∀x∈l,x<=m)->l.sum<=l.length*m
 | [],_=>by simp
 | x::l,q=>by
  have:=Jzl m l λ y hy=>q y (List.mem_cons_of_mem _ hy)
  have:=q x (List.mem_cons_self ..)
  rw[List.sum_cons,List.length_cons,Int.natCast_add,Int.add_mul]
  simp
  omega
theorem J21 {unit:Int}{rs:List (WD×Int)}(hu:1<=unit) (hf:∀r∈rs,F5 unit r) (hl:rs.length<=6):Jp6 (rs.map (·.1))<=80:=by
 have ht:topD (rs.map (·.1))<=8*unit+4:=by
  unfold topD
  split
  ·omega
  ·rename_i hne
   refine Ju9 _ _ _ (by rw[List.length_map,List.length_map];cases rs with|nil=>exact absurd rfl hne|cons _ _=>simp) λ j hj=>?_
   rw[List.length_map,List.length_map] at hj
   have e:((rs.map (·.1)).map (·.due)).getD j 0=(rs[j]).1.due:=by
    rw[List.getD_eq_getElem?_getD,List.getElem?_map,List.getElem?_map,List.getElem?_eq_getElem hj];rfl
   have f:=hf _ (List.getElem_mem hj)
   have f1:=f.d2
   have f2:=f.g2
   show((rs.map (·.1)).map (·.due)).getD j 0<=_
   rw[e]
   omega
 have:=Jzl 13 ((rs.map (·.1)).map λ d=>rup (topD (rs.map (·.1))+d.late) d.gap) λ x hx=>by
  obtain⟨d,hd,rfl⟩:=List.mem_map.mp hx
  obtain⟨r,hr,rfl⟩:=List.mem_map.mp hd
  have f:=hf r hr
  have f1:=f.g1
  have f2:=f.t2
  exact J4v (by omega) (by omega)
 rw[List.length_map,List.length_map] at this
 unfold Jp6
 omega
noncomputable abbrev t5 (r:WD×Int):IV:=.tup [.int r.1.gap,.int r.1.len,.int r.1.due,.int r.1.late,.int r.2]
theorem Jlv {f:WD->Int}{ds:List WD}{n:Nat}(hn:n<ds.length):((ds.take (n+1)).map f).sum=((ds.take n).map f).sum+f ds[n]:=by
 rw[List.take_succ_eq_append_getElem hn,List.map_append,List.sum_append]
 simp
noncomputable def Gaps (ds:List WD):Prop:=∀d∈ds,0<d.gap/\d.gap.natAbs.log2<9000/\d.len.natAbs<2^64
noncomputable def Good (ds:List WD):Prop:=Gaps ds/\∀d∈ds,1<=d.due/\0<=d.late
theorem gaps5 {unit:Int}{rs:List (WD×Int)}(hu:1<=unit) (hu2:unit<=10^15) (hf:∀r∈rs,F5 unit r):Good (rs.map (·.1)):=by
 have t15:(10:Int)^15=1000000000000000:=by decide
 have t60:(9000000000000000:Int)<=10^60:=by decide +kernel
 rw[t15] at hu2
 refine⟨λ d hd=>?_,λ d hd=>?_⟩
 ·obtain⟨r,hr,rfl⟩:=List.mem_map.mp hd
  obtain⟨a1,a2,a3,a4,_,_,_,_,_⟩:=hf r hr
  exact⟨by omega,Jui (by omega) (by omega),by omega⟩
 ·obtain⟨r,hr,rfl⟩:=List.mem_map.mp hd
  exact⟨(hf r hr).d1,(hf r hr).t1⟩
theorem AllW.swap {h g:IH}{vs ys:List IV}{xs:List IV}{ds:List WD}(w:AllW (h++L3.IO.lst ys::g) vs ds):AllW (h++L3.IO.lst xs::g) vs ds:=by
 refine⟨w.len,λ i v d a b=>?_⟩
 obtain⟨j,hs,e,q⟩:=w.at_ i v d a b
 refine⟨j,hs,e,?_⟩
 by_cases hj:j=h.length
 ·subst hj
  rw[Jp] at q
  cases q
 ·by_cases hl:j<h.length
  ·rw[List.getElem?_append_left hl] at q ⊢
   exact q
  ·rw[List.getElem?_append_right (by omega)] at q ⊢
   obtain⟨n,hn⟩:∃n,j-h.length=n+1:=⟨j-h.length-1,by omega⟩
   rw[hn] at q ⊢
   exact q
theorem AllW.snoc {h:IH}{vs:List IV}{ds:List WD}{v:IV}{d:WD}(w:AllW h vs ds) (x:IsW h v d):AllW h (vs++[v]) (ds++[d]):=by
 have wl:=w.len
 refine⟨by simp[wl],λ i u e a b=>?_⟩
 by_cases hi:i<vs.length
 ·rw[List.getElem?_append_left hi] at a
  rw[List.getElem?_append_left (by omega)] at b
  exact w.at_ i u e a b
 ·rw[List.getElem?_append_right (by omega)] at a
  rw[List.getElem?_append_right (by omega)] at b
  have ei:i-vs.length=0:=by
   by_cases q:i-vs.length=0
   ·exact q
   ·obtain⟨n,hn⟩:∃n,i-vs.length=n+1:=⟨i-vs.length-1,by omega⟩
    rw[hn] at a
    cases a
  rw[ei] at a
  rw[<- wl,ei] at b
  cases a
  cases b
  exact x
theorem J3t:IsNm (Str.ofString "ink"):=by
 refine⟨by decide +kernel,by decide +kernel,?_⟩
 have e:(Str.ofString "ink").cps.toList=[105,110,107]:=by decide +kernel
 rw[e]
 decide
noncomputable abbrev s9 (S W:Nat) (a b c d e f o:Option IV):ISt:=[some (.ref S),some (.ref W),a,b,c,d,e,f,o]
theorem compF {h h0:IH}{it:I1}{e:E1}{js:List Nat}{σ:ISt}{xs:List IV}{chk:IH->Prop}(D:IV->Prop) (hit:WR (it σ h0) λ J h1=>J.xs=xs/\J.chk=chk/\h1=h) (hl:xs.length<sizeLine) (hc:∀h2:IH,Kp h h2->chk h2)
  (he:∀x∈xs,∀h2:IH,Kp h h2->h.length<h2.length->WR (e (some x::js.map λ j=>(σ[j]?).join) h2) λ v h3=>Ex h2 h3/\D v) :
  ∃v h3,Jaa it 1 js (gNm 0) Jaw e σ h0=.ok v h3/\v=.ref h.length/\∃ys,h3[h.length]?=some (.lst ys)/\ys.length=xs.length/\Kp h h3/\∀(i:Nat) x y,xs[i]?=some x->ys[i]?=some y->D y :=
 (Jym (λ _ y _=>D y) hit hl (λ _ _ _ _ _ d=>d) hc he).eq
section
variable {k:Nat}{h:IH}
theorem J2k (i j:Int){Q:IV->IH->Prop}:WR (maxI (.int i) (.int j) h) Q=Q (.int (if j>i then j else i)) h:=rfl
mutual
theorem Jqb:∀d:PyData,d.canLay0=true->PyData.eqv d d=true
 | .none,_=>by simp[PyData.eqv]
 | .bool _,_=>by simp[PyData.eqv]
 | .int _,_=>by simp[PyData.eqv]
 | .str _,_=>by simp[PyData.eqv]
 | .list xs,q=>by
  rw[PyData.eqv]
  exact Ji9 xs (by rw[PyData.canLay0] at q;exact q)
 | .tuple xs,q=>by
  rw[PyData.eqv]
  exact Ji9 xs (by rw[PyData.canLay0] at q;exact q)
 | .dict _,q=>by rw[PyData.canLay0] at q;cases q
theorem Ji9:∀ds:List PyData,PyData.canLayAll0 ds=true->PyData.eqvAll ds ds=true
 | [],_=>by rw[PyData.eqvAll]
 | d::ds,q=>by
  rw[PyData.canLayAll0,Bool.and_eq_true] at q
  rw[PyData.eqvAll,Jqb d q.1,Ji9 ds q.2]
  rfl
end
theorem Jpg {i n:Nat}{xs:List IV}(e:h[i]?=some (.lst xs)):toD h (n+1) (.ref i)=(xs.mapM (toD h n)).map PyData.list:=by
 show(match h[i]? with|some (.lst xs)=>(xs.mapM (toD h n)).map PyData.list|_=>none)=_
 rw[e]
theorem Juk {f:IV->Option PyData}{g:IV->PyData}:∀{xs:List IV},(∀x∈xs,f x=some (g x))->xs.mapM f=some (xs.map g)
 | [],_=>rfl
 | x::xs,q=>by
  rw[List.mapM_cons,q x (List.mem_cons_self ..),Juk λ y hy=>q y (List.mem_cons_of_mem _ hy)]
  rfl
theorem Jza {g:IV->PyData}:∀{xs:List IV},(∀x∈xs,(g x).canLay0=true)->PyData.canLayAll0 (xs.map g)=true
 | [],_=>by rw[List.map_nil,PyData.canLayAll0]
 | x::xs,q=>by
  rw[List.map_cons,PyData.canLayAll0,q x (List.mem_cons_self ..),Jza λ y hy=>q y (List.mem_cons_of_mem _ hy)]
  rfl
end
noncomputable abbrev t4 (d:WD):IV:=.tup [.int d.gap,.int d.len,.int d.due,.int d.late]
section
variable {k:Nat}{h:IH}
theorem Jxw {c unit:Int}{m:Nat}(hu:1<=unit) (hu2:unit<=10^15) (hm:0<m) (hm5:m<=5) :
  WR (Jcf (k+2) [.int c,.int unit,.int m] h) λ v h'=>Ex h h'/\∃d,F5 unit (d,0)/\v=t4 d:=by
 have hb:=Jc
 rw[Jmu]
 simp! [Jcp]
 refine WR.mono (Ju7 (k:=k) (h:=h) c 7 (by decide)) ?_
 rintro _ h1 ⟨i,xs,rfl,_,hi,lx,hx,x1⟩
 obtain⟨a0,_,e0⟩:=at7 (n:=0) (by omega) hx
 obtain⟨a1,_,e1⟩:=at7 (n:=1) (by omega) hx
 obtain⟨a2,_,e2⟩:=at7 (n:=2) (by omega) hx
 obtain⟨a3,_,e3⟩:=at7 (n:=3) (by omega) hx
 obtain⟨a4,_,e4⟩:=at7 (n:=4) (by omega) hx
 obtain⟨a5,_,e5⟩:=at7 (n:=5) (by omega) hx
 obtain⟨a6,_,e6⟩:=at7 (n:=6) (by omega) hx
 clear hx
 have e0:atI (xs.map IV.int) 0=some (.int a0):=e0
 have e1:atI (xs.map IV.int) 1=some (.int a1):=e1
 have e2:atI (xs.map IV.int) 2=some (.int a2):=e2
 have e3:atI (xs.map IV.int) 3=some (.int a3):=e3
 have e4:atI (xs.map IV.int) 4=some (.int a4):=e4
 have e5:atI (xs.map IV.int) 5=some (.int a5):=e5
 have e6:atI (xs.map IV.int) 6=some (.int a6):=e6
 have t15:(10:Int)^15=1000000000000000:=by decide
 have t60:(9000000000000000:Int)<=10^60:=by decide +kernel
 rw[t15] at hu2
 have m1:Ju unit (1+a0%8):=.inr (.inl (by omega))
 have b1:unit*1<=unit*(1+a0%8):=Int.mul_le_mul_of_nonneg_left (by omega) (by omega)
 have b2:unit*(1+a0%8)<=unit*8:=Int.mul_le_mul_of_nonneg_left (by omega) (by omega)
 simp! [Jf2,Job,hi,e0,e1,m1,show(0:Int)<8 by decide,show(0:Int)<5 by decide]
 obtain⟨g,eg,g1,g2⟩:∃g,unit*(1+a0%8)+a1%5=g/\unit<=g/\g<=8*unit+4:=⟨_,rfl,by omega,by omega⟩
 rw[eg]
 clear eg b1 b2 m1
 have m2:Ju g 6:=.inr (.inl (by decide))
 have m3:Ju 5 (m:Int):=.inl (by decide)
 have m4:Ju g 3:=.inr (.inl (by decide))
 have lm:(5*(m:Int)).natAbs.log2<9000:=Jui (by omega) (by omega)
 have l4:(Int.natAbs 4).log2<9000:=by decide
 have l2:(Int.natAbs 2).log2<9000:=by decide
 have z0:0<=g*6/(5*(m:Int)):=Int.ediv_nonneg (by omega) (by omega)
 have z1:g*6/(5*(m:Int))<=2*g:=by
  have:g*6/(5*(m:Int))<2*g+1:=Int.ediv_lt_of_lt_mul (by omega) (by
   have:(2*g+1)*5<=(2*g+1)*(5*(m:Int)):=Int.mul_le_mul_of_nonneg_left (by omega) (by omega)
   omega)
  omega
 have q0:=Int.emod_nonneg a2 (b:=g*6/(5*(m:Int))+1) (by omega)
 have q1:=Int.emod_lt_of_pos a2 (b:=g*6/(5*(m:Int))+1) (by omega)
 have u:=half (a:=a3) (b:=a4) (g:=g*3/4+1) (by omega)
 have m5:Ju (a3%2) (a4%(g*3/4+1)):=.inl (by omega)
 have v0:=Int.emod_nonneg a6 (b:=g/4+1) (by omega)
 have v1:=Int.emod_lt_of_pos a6 (b:=g/4+1) (by omega)
 have m6:Ju (a5%3/2) (a6%(g/4+1)):=.inl (by omega)
 have v2:0<=a5%3/2*(a6%(g/4+1))/\a5%3/2*(a6%(g/4+1))<=g/4:=by
  have:a5%3/2=0∨a5%3/2=1:=by omega
  rcases this with e|e<;>rw[e]<;>omega
 simp! [Jf3,Jf4,Jf5,Jf6,Job,hi,e2,e3,e4,e5,e6,m2,m3,m4,m5,m6,lm,l4,l2,show(0:Int)<5*(m:Int) by omega,show(0:Int)<g*6/(5*(m:Int))+1 by omega,show(0:Int)<2 by decide,show(0:Int)<3 by decide,show(0:Int)<4 by decide,show(0:Int)<g*3/4+1 by omega,show(0:Int)<g/4+1 by omega,List.length_cons,List.length_nil]
 refine⟨by omega,x1,⟨⟨#[]⟩,g,1+a2%(g*6/(5*(m:Int))+1),g-a3%2*(a4%(g*3/4+1)),a5%3/2*(a6%(g/4+1))⟩,⟨g1,g2,?_,?_,?_,?_,v2.1,?_,Int.le_refl _⟩,rfl⟩
 all_goals dsimp only
 all_goals omega
end
noncomputable abbrev RH:=WD×List Hd
noncomputable abbrev wo (r:RH):IO:=.ins "Work" (wfs r.1.name r.1.gap r.1.len r.1.due r.1.late (r.2.map tupH))
structure AllH (h:IH) (vs:List IV) (rs:List RH):Prop where
 len:vs.length=rs.length
 at_:∀(i:Nat) v r,vs[i]?=some v->rs[i]?=some r->∃j,v=.ref j/\h[j]?=some (wo r)
theorem AllH.kp {h h':IH}{vs:List IV}{rs:List RH}(k:Kp h h') (w:AllH h vs rs):AllH h' vs rs:=⟨w.len,λ i v r a b=>let ⟨j,e,g⟩:=w.at_ i v r a b;⟨j,e,k _ _ g⟩⟩
theorem AllH.w {h:IH}{vs:List IV}{rs:List RH}(w:AllH h vs rs):AllW h vs (rs.map (·.1)):=by
 refine⟨by rw[List.length_map];exact w.len,λ i v d a b=>?_⟩
 rw[List.getElem?_map] at b
 cases er:rs[i]? with
 | none=>rw[er] at b;cases b
 | some r =>
  rw[er] at b
  cases b
  obtain⟨j,e,g⟩:=w.at_ i v r a er
  exact⟨j,_,e,g⟩
section
variable {k:Nat}{h h1:IH}{σ:ISt}
theorem J19 {Q:IV->IH->Prop}:WR (Jwr σ h) Q=Q (.ref h.length) (h++[.dct []]):=rfl
theorem J2a {P:Pg}{m:Str}{n i:Nat}{o:E1}{a:A1}{kvs:List (Key×IV)}{Q:IV->IH->Prop}{g:IV->List IV->IH->Res IV}(e:o σ h=.ok (.ref i) h1) (hl:h1[i]?=some (.dct kvs)) (hg:bmOf "dict" m n=some g):WR (eDot P m n o a σ h) Q=WR (a σ h1) λ vs h2=>WR (g (.ref i) vs h2) Q:=by
 unfold eDot
 rw[e]
 have hi:Jo1 (.ref i) h1=false:=by simp[Jo1,hl]
 have ht:tyS (.ref i) h1="dict":=by simp[tyS,hl]
 dsimp only
 rw[hi,ht,hg]
 dsimp only
 rw[if_neg Bool.false_ne_true]
 unfold eBm
 rw[e,Je,Jhh]
 have:tyOk "dict" (.ref i) h1=true:=by simp[tyOk,hl]
 rw[if_pos this,Je]
theorem Js6:bmOf "dict" "setdefault" 2=some Jej:=by kernel_rfl
theorem Jyo {i:Nat}{kvs:List (Key×IV)}{x:Str}{v w:IV}{Q:IV->IH->Prop}(hi:h[i]?=some (.dct kvs)) (e:valI kvs (.inr x)=some w):WR (Jej (.ref i) [.str x,v] h) Q=Q w h:=by
 unfold Jej
 simp only[hi,keyI,e]
 rfl
theorem Jyn {i:Nat}{kvs:List (Key×IV)}{x:Str}{v:IV}{Q:IV->IH->Prop}(hi:h[i]?=some (.dct kvs)) (e:valI kvs (.inr x)=none) (hl:kvs.length<sizeLine):WR (Jej (.ref i) [.str x,v] h) Q=Q v (h.set i (.dct (kvs++[(.inr x,v)]))):=by
 unfold Jej
 simp only[hi,keyI,e,hl,if_true]
 rfl
end
section
variable {k:Nat}{h:IH}
theorem dls {a:IV}:(([("works",a)]:List (Str×IV))).lookup ("size":Str)=none:=by kernel_rfl
theorem Jtm {vs:List IV}{D:Nat}(hD:h[D]?=some (.ins "Duty" (dfs vs))):Jcc (k+1) [.ref D] h=.ok (.int vs.length) h:=by
 refine Jda ?_
 rw[Jmq]
 simp! [Jck,Jf hD,dl0]
theorem J2i {i:Nat}{kvs:List (Key×IV)}{Q:IV->IH->Prop}(hi:h[i]?=some (.dct kvs)):WR (Jrm (.ref i) h) Q=Q (.int kvs.length) h:=by
 unfold Jrm
 simp only[hi]
 rfl
noncomputable def hld (rs:List RH):List Hd:=(rs.map (·.2)).flatten
theorem Joo {vs:List IV}{rs:List RH}{D:Nat}(hD:h[D]?=some (.ins "Duty" (dfs vs))) (w:AllH h vs rs) (hl:rs.length<=12) (h6:∀r∈rs,r.2.length<=6) :
  WR (Jep (k+2) [.ref D] h) λ v h'=>∃i kvs,v=.ref i/\h'[i]?=some (.dct kvs)/\(kvs=[]↔hld rs=[])/\Ex h h':=by
 have hb:=Jc
 have wl:=w.len
 rw[Jow]
 simp! [Jdm,Jhl,J19]
 rw[Jpl (i:=D) (h1:=h++[.dct []]) rfl (grow hD) dls (Jmi _)]
 simp! [Jtm (grow hD)]
 refine⟨by omega,?_⟩
 refine Jao (λ n σ h'=>∃kvs g a b,h'=h++L3.IO.dct kvs::g/\σ=[some (.ref D),some (.ref h.length),a,b]/\kvs.length<=6*n/\(kvs=[]↔((rs.map (·.2)).take n).flatten=[])) (λ _ _ _ _=>trivial) ?_ ?_ ⟨[],[],none,none,rfl,rfl,by simp,by simp⟩
 ·rintro n hn _ _ ⟨kvs,g,a,b,rfl,rfl,ln,td⟩
  rw[Jkq]
  rw[Ja0] at hn
  have hn':n<rs.length:=by omega
  have en:(0:Int)+(n:Int)=n:=by omega
  obtain⟨j,ej,gj⟩:=w.at_ n _ _ (List.getElem?_eq_getElem (by omega)) (List.getElem?_eq_getElem hn')
  have av:atI vs (n:Int)=some (.ref j):=Jfq (by rw[List.getElem?_eq_getElem (by omega),ej])
  have hl6:=h6 _ (List.getElem_mem hn')
  have hm:n<(rs.map (·.2)).length:=by rw[List.length_map];exact hn'
  have tk:(rs.map (·.2)).take (n+1)=(rs.map (·.2)).take n++[(rs[n]).2]:=by rw[List.take_succ_eq_append_getElem hm,List.getElem_map]
  rw[tk]
  generalize rs[n]=r at gj hl6
  simp! [en,Jgu]
  have x1:Ex h (h++L3.IO.dct kvs::g):=.cons _ _ _
  have ed:eDot (pg (k+1)) "work" 1 (eVar 0) (Ja (eVar 2) aNil) [some (IV.ref D),some (IV.ref h.length),some (IV.int (n:Int)),b] (h++L3.IO.dct kvs::g)=.ok (.ref j) (h++L3.IO.dct kvs::g):=by
   refine Jda ?_
   rw[Jpl (i:=D) (h1:=h++L3.IO.dct kvs::g) rfl (x1.get hD) dlw (Jmj _)]
   simp! [Jtn (x1.get hD) av]
  rw[Jpl (i:=j) (h1:=h++L3.IO.dct kvs::g) ed (x1.get gj) flh (Jmk _)]
  simp! [Jvd (x1.get gj),Jca,grown]
  generalize r.2=hs at hl6
  refine Jao (λ m σ h'=>∃kvs' b',h'=h++L3.IO.dct kvs'::(g++[L3.IO.lst (hs.map tupH)])/\σ=[some (.ref D),some (.ref h.length),some (.int (n:Int)),b']/\kvs'.length<=6*n+m/\(kvs'=[]↔((rs.map (·.2)).take n).flatten++hs.take m=[])) ?_ ?_ ?_ ⟨kvs,b,by rw[List.append_assoc,List.cons_append],rfl,by omega,by rw[List.take_zero,List.append_nil];exact td⟩
  ·rintro _ _ _ ⟨kvs',b',rfl,_⟩
   rw[show h++L3.IO.dct kvs'::(g++[L3.IO.lst (hs.map tupH)])=(h++L3.IO.dct kvs'::g)++[L3.IO.lst (hs.map tupH)] by rw[List.append_assoc,List.cons_append],
    show(h++L3.IO.dct kvs::g).length=(h++L3.IO.dct kvs'::g).length by simp]
   exact grown
  ·rintro m hm _ _ ⟨kvs',b',rfl,rfl,lm,tm⟩
   have hm':m<hs.length:=by simpa using hm
   rw[List.getElem_map,List.take_succ_eq_append_getElem hm']
   generalize hs[m]=a at *
   simp! [Jgt]
   rw[J2a (i:=h.length) (h1:=h++L3.IO.dct kvs'::(g++[L3.IO.lst (hs.map tupH)])) rfl Jp Js6]
   simp! [tupH]
   cases ev:valI kvs' (.inr a.1) with
   | some w' =>
    rw[Jyo Jp ev]
    exact⟨kvs',_,rfl,rfl,by omega,iff_of_false (λ e=>by rw[e] at ev;cases ev) (by simp)⟩
   | none =>
    rw[Jyn Jp ev (by omega),Jjp]
    exact⟨_,_,rfl,rfl,by rw[List.length_append,List.length_singleton];omega,iff_of_false (by simp) (by simp)⟩
  ·rintro _ _ ⟨kvs',b',rfl,rfl,lm,tm⟩
   rw[List.length_map] at lm tm
   rw[List.take_of_length_le (Nat.le_refl _)] at tm
   exact⟨kvs',_,_,_,rfl,rfl,by omega,by rw[List.flatten_append,List.flatten_singleton];exact tm⟩
 ·rintro _ _ ⟨kvs,g,a,b,rfl,rfl,ln,td⟩
  simp! [Jhm]
  rw[Ja0,List.take_of_length_le (by rw[List.length_map];omega)] at td
  exact⟨_,kvs,rfl,Jp,td,.cons _ _ _⟩
theorem Jjk {vs:List IV}{rs:List RH}{D:Nat}(hD:h[D]?=some (.ins "Duty" (dfs vs))) (w:AllH h vs rs) (hl:rs.length<=12) (h6:∀r∈rs,r.2.length<=6) :
  WE (Jap (k+3) [.ref D] h) (λ _ h'=>hld rs=[]/\Ex h h') λ n h'=>hld rs≠[]/\h'[n]?=some (.exc "HoldsThings" [])/\Ex h h':=by
 have hb:=Jc
 rw[Jja]
 refine Jqw ?_
 rw[Jay,Jwe]
 refine WE.of ?_
 simp! [true_and]
 refine WR.mono (Joo (k:=k) hD w hl h6) ?_
 rintro _ h1 ⟨i,kvs,rfl,gi,iff,x1⟩
 simp! [J2i gi,decide_eq_true_eq,decide_eq_false_iff_not]
 refine⟨λ q=>?_,λ q=>?_⟩
 ·rw[Jof]
  refine WE.of ?_
  simp! [List.length_cons,List.length_nil]
  exact⟨by omega,⟨_,_,grown⟩,λ e=>by rw[iff.mpr e] at q;simp at q,grown,x1.trans (.one _ _)⟩
 ·rw[Jp1]
  exact⟨iff.mp (by cases kvs with|nil=>rfl|cons a b=>simp at q),x1⟩
end
noncomputable def nmv (n:Nat):Str:=⟨#[118+n]⟩
theorem J4c:∀n,n<5->IsNm (nmv n):=by unfold IsNm;decide +kernel
theorem J07:∀i,i<5->∀j,j<5->nmv i=nmv j->i=j:=by decide +kernel
theorem cpsV:(Str.ofString "vwxyz").cps.toList=(List.range 5).map (118+ ·):=by decide +kernel
theorem lenV:(Str.ofString "vwxyz").length=5:=by decide +kernel
noncomputable abbrev sk (p:IV) (x0 unit:Int) (C S W:Nat) (hd:Bool) (a b c d e f:Option IV):ISt:=[some p,some (.int x0),some (.int unit),some (.ref C),some (.ref S),some (.ref W),some (.bl hd),a,b,c,d,e,f,none,none,none]
theorem AllH.snoc {h:IH}{vs:List IV}{rs:List RH}{j:Nat}{r:RH}(w:AllH h vs rs) (x:h[j]?=some (wo r)):AllH h (vs++[.ref j]) (rs++[r]):=by
 have wl:=w.len
 refine⟨by simp[wl],λ i u e a b=>?_⟩
 by_cases hi:i<vs.length
 ·rw[List.getElem?_append_left hi] at a
  rw[List.getElem?_append_left (by omega)] at b
  exact w.at_ i u e a b
 ·rw[List.getElem?_append_right (by omega)] at a
  rw[List.getElem?_append_right (by omega)] at b
  have hi':=(List.getElem?_eq_some_iff.mp a).1
  rw[List.length_singleton] at hi'
  have ei:i-vs.length=0:=by omega
  rw[ei] at a
  rw[<- wl,ei] at b
  cases a
  cases b
  exact⟨j,rfl,x⟩
theorem Jw4 (rs:List RH) (r:RH):hld (rs++[r])=hld rs++r.2:=by simp[hld]
section
variable {k:Nat}{h:IH}
theorem atV {n:Nat}(h1:n<5){Q:IV->IH->Prop}:WR (opIx (.str "vwxyz") (.int n) h) Q=Q (.str (nmv n)) h:=by
 have hb:=Jc
 have e:atI (Str.ofString "vwxyz").cps.toList (n:Int)=some (118+n):=by
  rw[cpsV]
  refine Jfq ?_
  rw[List.getElem?_map,List.getElem?_range h1]
  rfl
 simp only[opIx]
 rw[if_pos (by rw[lenV];omega),e]
 rfl
theorem Jzx {C S n:Nat}{p:IV}{x0 unit:Int}{hd:Bool}{d:WD}{hs:List Hd}{vs:List IV}{h0 g:IH}(hu:1<=unit) (f:F5 unit (d,0)) (hn:n<5) (nm:d.name=nmv n) (ok:HsOk d.len hs) (hv:vs.length<=6){Q:IV->IH->Prop}{σ:ISt}
  (hN:∀w g',(h0++L3.IO.lst (vs++[.ref w])::g')[w]?=some (wo (d,hs))->(∀j o,(h0++L3.IO.lst vs::g)[j]?=some o->j≠h0.length->(h0++L3.IO.lst (vs++[.ref w])::g')[j]?=some o)->Q .non (h0++L3.IO.lst (vs++[.ref w])::g'))
  (hσ:σ=sk p x0 unit C S h0.length hd (some (.int n)) (some (.int d.gap)) (some (.int d.len)) (some (.int d.due)) (some (.int d.late)) (some (.ref (h0++L3.IO.lst vs::g).length))) :
  WR (eDot (pg (k+5)) "append" 1 (eVar 5) (Ja (Jk6 "Work" (Jaj (k+5)) [] (Ja (eBin opIx (eC (.str "vwxyz")) (eVar 7)) (Ja (eVar 8) (Ja (eVar 9) (Ja (eVar 10) (Ja (eVar 11) (Ja (eVar 12) aNil))))))) aNil) σ (h0++L3.IO.lst vs::g++[L3.IO.lst (hs.map tupH)])) Q:=by
 have hb:=Jc
 subst hσ
 have f1:unit<=d.gap:=f.g1
 rw[Jhg (i:=h0.length) (h1:=h0++L3.IO.lst vs::g++[L3.IO.lst (hs.map tupH)]) rfl (grow Jp) Jd2]
 simp! [atV hn]
 rw[<- nm]
 refine WR.mono (J02 (k:=k) (hs:=hs.map tupH) (by rw[nm];exact J4c n hn) (by omega) f.l1 f.t1 (λ h1=>Jry f.d1 f.d2) λ h1 q=>Jm7 (q _ _ grown) ok) ?_
 rintro _ h3 ⟨rfl,g3,rfl⟩
 refine⟨rfl,?_⟩
 generalize hw:List.length (h0++L3.IO.lst vs::g++[L3.IO.lst (hs.map tupH)])=w
 simp only[Jen]
 refine⟨_,grow (grow Jp),by omega,?_⟩
 have at_w:(h0++L3.IO.lst vs::g++[L3.IO.lst (hs.map tupH)]++wo (d,hs)::g3)[w]?=some (wo (d,hs)):=by rw[<- hw];exact Jp
 have hne:w≠h0.length:=by rw[<- hw,List.length_append,List.length_append,List.length_cons];omega
 have keep:∀j o,(h0++L3.IO.lst vs::g++[L3.IO.lst (hs.map tupH)]++wo (d,hs)::g3)[j]?=some o->j≠h0.length->(List.set (h0++L3.IO.lst vs::g++[L3.IO.lst (hs.map tupH)]++wo (d,hs)::g3) h0.length (L3.IO.lst (vs++[.ref w])))[j]?=some o:=λ j o e ne=>by
  rw[List.getElem?_set_ne (Ne.symm ne)];exact e
 have es:List.set (h0++L3.IO.lst vs::g++[L3.IO.lst (hs.map tupH)]++wo (d,hs)::g3) h0.length (L3.IO.lst (vs++[.ref w]))=h0++L3.IO.lst (vs++[.ref w])::(g++[L3.IO.lst (hs.map tupH)]++wo (d,hs)::g3):=by
  rw[List.append_assoc,List.append_assoc,List.cons_append,Jjp]
  simp
 rw[es] at keep ⊢
 exact hN w _ (keep _ _ at_w hne) λ j o e ne=>keep j o (grow (grow e)) ne
theorem J01 {C S:Nat}{p:IV}{x0 unit:Int}{ds:List WD}(hS:h[S]?=some (.lst (ds.map t4))) (hl:ds.length<=5) (hu:1<=unit) (hf:∀i d,ds[i]?=some d->F5 unit (d,0)/\d.name=nmv i){N:ISt->IH->Prop}{R:IV->IH->Prop}
  (hN:∀rs vs g a b c d e f,rs.map (·.1)=ds->(∀r∈rs,r.2.length<=6)->AllH (h++L3.IO.lst vs::g) vs rs->WS (Jol (k+6) (sk p x0 unit C S h.length (!(hld rs).isEmpty) a b c d e f) (h++L3.IO.lst vs::g)) N R) :
  WS (Jok (k+6) [some p,some (.int x0),some (.int unit),some (.ref C),some (.ref S),none,none,none,none,none,none,none,none,none,none,none] h) N R:=by
 have hb:=Jc
 simp! [Jok,Js1,Js2,List.length_nil,Nat.zero_le,Jjt,grow hS,List.length_map]
 refine⟨by omega,?_⟩
 refine Jao (λ n σ h'=>∃rs vs g a b c d e f,h'=h++L3.IO.lst vs::g/\σ=sk p x0 unit C S h.length (!(hld rs).isEmpty) a b c d e f/\rs.map (·.1)=ds.take n/\(∀r∈rs,r.2.length<=6)/\AllH h' vs rs) (λ _ _ _ _=>trivial) ?_ ?_ ⟨[],[],[],none,none,none,none,none,none,rfl,rfl,by simp,by simp,⟨rfl,λ i v d a b=>by simp at a⟩⟩
 ·rintro n hn _ _ ⟨rs,vs,g,a,b,c,d,e,f,rfl,rfl,er,h6,w⟩
  rw[Jkq]
  rw[Ja0] at hn
  have hn':n<ds.length:=by omega
  obtain⟨f5,nm⟩:=hf n _ (List.getElem?_eq_getElem hn')
  have wl:=w.len
  have rl:rs.length=n:=by have:=congrArg List.length er;simpa [Nat.min_eq_left (Nat.le_of_lt hn')] using this
  have hv:vs.length<=6:=by omega
  have en:(0:Int)+(n:Int)=n:=by omega
  have ea:atI (ds.map t4) (n:Int)=some (t4 ds[n]):=Jfq (by rw[List.getElem?_map,List.getElem?_eq_getElem hn'];rfl)
  rw[List.take_succ_eq_append_getElem hn',<-er]
  generalize ds[n]=d at f5 nm ea
  have xS:(h++L3.IO.lst vs::g)[S]?=some (.lst (ds.map t4)):=grow hS
  have l8:(Int.natAbs 8).log2<9000:=by decide
  have l40:(Int.natAbs 40).log2<9000:=by decide
  have l200:(Int.natAbs 200).log2<9000:=by decide
  have l1:1<=d.len:=f5.l1
  simp! [en,Jqe,Job,xS,ea,Jh5,Jod,Joe,l8,l40,Jjt,grow xS,List.length_map,List.length_cons,List.length_nil,Nat.zero_le,decide_eq_true_eq,decide_eq_false_iff_not,show(0:Int)<8 by decide,show(0:Int)<5 by decide,show(0:Int)<40 by decide,show(0:Int)<(ds.length:Int) by omega]
  have fin:∀{σ:ISt}{H:Bool}(hs:List Hd) (b c d' e f),hs.length<=6->H=(!(hld rs++hs).isEmpty)->σ=sk p x0 unit C S h.length H (some (.int n)) b c d' e f->∀w' g',(h++L3.IO.lst (vs++[.ref w'])::g')[w']?=some (wo (d,hs))->(∀j o,(h++L3.IO.lst vs::g)[j]?=some o->j≠h.length->(h++L3.IO.lst (vs++[.ref w'])::g')[j]?=some o) ->
    ∃rs_1 vs_1 g_1 a b c d_1 e f,h++L3.IO.lst (vs++[.ref w'])::g'=h++L3.IO.lst vs_1::g_1/\σ=sk p x0 unit C S h.length (!(hld rs_1).isEmpty) a b c d_1 e f/\rs_1.map (·.1)=rs.map (·.1)++[d]/\(∀r∈rs_1,r.2.length<=6)/\AllH (h++L3.IO.lst (vs++[.ref w'])::g') vs_1 rs_1:=by
   intro σ H hs b c d' e f l6 eH hσ w' g' isw kp
   refine⟨rs++[(d,hs)],_,g',_,_,_,_,_,_,rfl,by rw[Jw4,<-eH];exact hσ,by simp,λ r hr=>?_,AllH.snoc ?_ isw⟩
   ·rcases List.mem_append.mp hr with hr|hr
    ·exact h6 r hr
    ·rw[List.mem_singleton.mp hr];exact l6
   ·exact⟨wl,λ i u d a b=>let ⟨j,e,q⟩:=w.at_ i u d a b;⟨j,e,kp _ _ q λ ej=>by rw[ej,Jp] at q;cases q⟩⟩
  have no:=λ {Q:IV->IH->Prop}{σ:ISt}(hN) (hσ)=>Jzx (k:=k+1) (C:=C) (S:=S) (p:=p) (x0:=x0) (hd:=!(hld rs).isEmpty) (hs:=[]) (h0:=h) (g:=g) (Q:=Q) (σ:=σ) hu f5 (by omega) nm ⟨by decide,λ x hx=>(by cases hx),λ m n h1 h2=>(by rw[List.length_nil] at h2;omega)⟩ hv hN hσ
  refine⟨λ q1=>⟨λ q2=>⟨λ q3=>?_,λ _=>?_⟩,λ _=>?_⟩,λ _=>?_⟩
  ·have m0:=Int.emod_nonneg (x0/200) (b:=d.len-1) (by omega)
   have m1:=Int.emod_lt_of_pos (x0/200) (b:=d.len-1) (by omega)
   rw[Jhg (i:=(h++L3.IO.lst vs::g).length) (h1:=h++L3.IO.lst vs::g++[L3.IO.lst []]) rfl grown Jd2]
   simp! [l200,Jen,grown,Jlo,show(0:Int)<200 by decide,show(0:Int)<d.len-1 by omega,List.length_cons,List.length_nil]
   refine⟨by omega,by omega,?_⟩
   refine Jzx (k:=k+1) (hd:=true) (hs:=[("ink",x0/200%(d.len-1),d.len-1)]) hu f5 (by omega) nm ⟨by show 1<=6;decide,λ x hx=>?_,λ m n h1 h2=>?_⟩ hv (fin _ _ _ _ _ _ (by show 1<=6;decide) (by simp) rfl) rfl
   ·rw[List.mem_singleton] at hx
    subst hx
    exact⟨J3t,m0,m1,by show d.len-1<d.len;omega⟩
   ·rw[List.length_singleton] at h2
    omega
  all_goals exact no (fin [] _ _ _ _ _ (by decide) (by rw[List.append_nil]) rfl) rfl
 ·rintro _ _ ⟨rs,vs,g,a,b,c,d,e,f,rfl,rfl,er,h6,w⟩
  rw[Ja0,List.take_of_length_le (by omega)] at er
  exact hN rs vs g a b c d e f er h6 w
theorem J09 {unit:Int}{ds:List WD}(hl:ds.length<=5) (hf:∀i d,ds[i]?=some d->F5 unit (d,0)/\d.name=nmv i):(ds.map (·.name)).Nodup:=by
 rw[List.Nodup,List.pairwise_iff_getElem]
 intro i j hi hj hij e
 rw[List.length_map] at hi hj
 rw[List.getElem_map,List.getElem_map,(hf i _ (List.getElem?_eq_getElem hi)).2,(hf j _ (List.getElem?_eq_getElem hj)).2] at e
 have:=J07 i (by omega) j (by omega) e
 omega
end
noncomputable def cm (s:Int) (d:WD):Int:=if 1<=s then rup (s+d.late) d.gap else 0
noncomputable def dm (s:Int) (d:WD):Int:=if 0<=s+d.late-d.due then(s+d.late-d.due)/d.gap+1 else 0
noncomputable def dem (ds:List WD) (s:Int):Int:=(ds.map λ d=>dm s d*d.len).sum
noncomputable def ask (ds:List WD) (s:Int):Int:=(ds.map λ d=>cm s d*d.len).sum
noncomputable def crd (ds:List WD) (s:Int):Int:=(ds.map λ d=>cm s d).sum
noncomputable def cOf (s:Int) (h:IH) (v:IV):IV:=match Jeb "late" v h,Jeb "gap" v h with
 | some (.int l),some (.int g)=>.int (if 1<=s then rup (s+l) g else 0)
 | _,_=>.non
noncomputable def aOf (s:Int) (h:IH) (v:IV):IV:=match Jeb "late" v h,Jeb "gap" v h,Jeb "length" v h with
 | some (.int l),some (.int g),some (.int n)=>.int ((if 1<=s then rup (s+l) g else 0)*n)
 | _,_,_=>.non
noncomputable def eOf (s:Int) (h:IH) (v:IV):IV:=match Jeb "late" v h,Jeb "gap" v h,Jeb "length" v h,Jeb "due" v h with
 | some (.int l),some (.int g),some (.int n),some (.int u)=>.int ((if 0<=s+l-u then(s+l-u)/g+1 else 0)*n)
 | _,_,_,_=>.non
section
variable {k:Nat}{h:IH}
theorem Jkk {d:WD}{hs:List IV}{w:Nat}{s:Int}(hw:h[w]?=some (.ins "Work" (wfs d.name d.gap d.len d.due d.late hs))) (hg:0<d.gap) (hl:d.gap.natAbs.log2<9000) :
  Jat (k+2) [.ref w,.int s] h=.ok (.int (cm s d)) h:=by
 refine Jda ?_
 rw[Jk7]
 simp! [Jb0,Jf hw,fl4,fl1,Jnl hg hl,decide_eq_true_eq,decide_eq_false_iff_not,cm]
 exact⟨λ q=>by rw[if_pos q],λ q=>by rw[if_neg q]⟩
theorem Jwk {vs:List IV}{ds:List WD}{D:Nat}{s:Int}(hD:h[D]?=some (.ins "Duty" (dfs vs))) (w:AllW h vs ds) (hl:ds.length<=20) (hg:Gaps ds) :
  WR (Jkv (k+3) [.ref D,.int s] h) λ v h'=>v=.int (ask ds s)/\Ex h h':=by
 have hb:=Jc
 have wl:=w.len
 rw[Jwy]
 simp! [Jiq]
 have rm:=w.mapF (F:=aOf s h) (g:=λ d=>.int (cm s d*d.len)) λ j d hs e=>by rw[aOf,Jf e,Jf e,Jf e,fl4,fl1,fl2];rfl
 refine WR.mono (J7 (h:=h) (xs:=vs) (chk:=λ _=>True) (f:=aOf s h) ?_ (by omega) (λ _ _=>trivial) ?_) ?_
 ·simp! [Jf hD,dl0]
 ·intro v hv h2 q
  obtain⟨d,hd,j,hs,rfl,e⟩:=w.of hv
  have e2:=q _ _ e
  have g:=hg d hd
  have mf:Ju (cm s d) d.len:=.inr (.inl g.2.2)
  simp only[List.map_cons,List.map_nil,List.getElem?_cons_succ,List.getElem?_cons_zero,Option.join_some]
  simp! [Ji3,Jkk e2 g.1 g.2.1,Jf e2,fl2,mf]
  exact⟨by rw[aOf,Jf e,Jf e,Jf e,fl4,fl1,fl2];rfl,.refl _⟩
 ·rintro _ _ ⟨rfl,g,rfl⟩
  rw[rm]
  have em:ds.map (λ d=>IV.int (cm s d*d.len))=(ds.map λ d=>cm s d*d.len).map IV.int:=by simp
  rw[em]
  simp! [Jl1,Jp,Jbv]
  exact⟨rfl,.cons _ _ _⟩
theorem Jtk {d:WD}{hs:List IV}{w:Nat}{s:Int}(hw:h[w]?=some (.ins "Work" (wfs d.name d.gap d.len d.due d.late hs))) (hg:0<d.gap) (hl:d.gap.natAbs.log2<9000) :
  Jdi (k+2) [.ref w,.int s] h=.ok (.int (dm s d)) h:=by
 refine Jda ?_
 rw[Jra]
 simp! [Jfd,Jis,Jf hw,fl4,fl3,fl1,hg,hl,decide_eq_true_eq,decide_eq_false_iff_not,dm]
 exact⟨λ q=>by rw[if_pos q],λ q=>by rw[if_neg q]⟩
theorem Jtg {vs:List IV}{ds:List WD}{D:Nat}{s:Int}(hD:h[D]?=some (.ins "Duty" (dfs vs))) (w:AllW h vs ds) (hl:ds.length<=20) (hg:Gaps ds) :
  WR (Jib (k+3) [.ref D,.int s] h) λ v h'=>v=.int (dem ds s)/\Ex h h':=by
 have hb:=Jc
 have wl:=w.len
 rw[Jtt]
 simp! [Jg4]
 have rm:=w.mapF (F:=eOf s h) (g:=λ d=>.int (dm s d*d.len)) λ j d hs e=>by rw[eOf,Jf e,Jf e,Jf e,Jf e,fl4,fl1,fl2,fl3];rfl
 refine WR.mono (J7 (h:=h) (xs:=vs) (chk:=λ _=>True) (f:=eOf s h) ?_ (by omega) (λ _ _=>trivial) ?_) ?_
 ·simp! [Jf hD,dl0]
 ·intro v hv h2 q
  obtain⟨d,hd,j,hs,rfl,e⟩:=w.of hv
  have e2:=q _ _ e
  have g:=hg d hd
  have mf:Ju (dm s d) d.len:=.inr (.inl g.2.2)
  simp only[List.map_cons,List.map_nil,List.getElem?_cons_succ,List.getElem?_cons_zero,Option.join_some]
  simp! [Jhx,Jtk e2 g.1 g.2.1,Jf e2,fl2,mf]
  exact⟨by rw[eOf,Jf e,Jf e,Jf e,Jf e,fl4,fl1,fl2,fl3];rfl,.refl _⟩
 ·rintro _ _ ⟨rfl,g,rfl⟩
  rw[rm]
  have em:ds.map (λ d=>IV.int (dm s d*d.len))=(ds.map λ d=>dm s d*d.len).map IV.int:=by simp
  rw[em]
  simp! [Jl1,Jp,Jbv]
  exact⟨rfl,.cons _ _ _⟩
theorem Jq6 {vs:List IV}{ds:List WD}{D:Nat}{s:Int}(hD:h[D]?=some (.ins "Duty" (dfs vs))) (w:AllW h vs ds) (hl:ds.length<=20) (hg:Gaps ds) :
  WR (Jfm (k+3) [.ref D,.int s] h) λ v h'=>v=.int (crd ds s)/\Ex h h':=by
 have hb:=Jc
 have wl:=w.len
 rw[Jq9]
 simp! [Jfc]
 have rm:=w.mapF (F:=cOf s h) (g:=λ d=>.int (cm s d)) λ j d hs e=>by rw[cOf,Jf e,Jf e,fl4,fl1];rfl
 refine WR.mono (J7 (h:=h) (xs:=vs) (chk:=λ _=>True) (f:=cOf s h) ?_ (by omega) (λ _ _=>trivial) ?_) ?_
 ·simp! [Jf hD,dl0]
 ·intro v hv h2 q
  obtain⟨d,hd,j,hs,rfl,e⟩:=w.of hv
  have e2:=q _ _ e
  have g:=hg d hd
  simp only[List.map_cons,List.map_nil,List.getElem?_cons_succ,List.getElem?_cons_zero,Option.join_some]
  simp! [Jgf,Jkk e2 g.1 g.2.1]
  exact⟨by rw[cOf,Jf e,Jf e,fl4,fl1];rfl,.refl _⟩
 ·rintro _ _ ⟨rfl,g,rfl⟩
  rw[rm]
  have em:ds.map (λ d=>IV.int (cm s d))=(ds.map λ d=>cm s d).map IV.int:=by simp
  rw[em]
  simp! [Jl1,Jp,Jbv]
  exact⟨rfl,.cons _ _ _⟩
end
noncomputable def bL (s:Int) (d:WD):List Int:=(List.range (dm s d).toNat).map λ (t:Nat)=>(t:Int)*d.gap+d.due-d.late
noncomputable def fL (ds:List WD) (s:Int):List Int:=ds.flatMap (bL s)
noncomputable def zL (ds:List WD) (s:Int):List Int:=Jn1 (ddN (Jbu (fL ds s)) (fL ds s).length)
noncomputable def bOf (d:WD):IV->IV
 | .int x=>.int (x*d.gap+d.due-d.late)
 | _=>.non
theorem dm_nn (s:Int){d:WD}(hg:0<d.gap):0<=dm s d:=by
 unfold dm
 split
 ·rename_i q
  have:=Int.ediv_nonneg q (Int.le_of_lt hg)
  omega
 ·omega
theorem J2w (s:Int) (d:WD):(rngI 0 (dm s d)).map (bOf d)=(bL s d).map IV.int:=by
 unfold rngI bL
 rw[List.map_map,List.map_map,Int.sub_zero]
 refine List.map_congr_left λ t _=>?_
 show IV.int _=IV.int _
 rw[Int.zero_add]
theorem Jts {ds:List WD}{s:Int}{n:Nat}(hn:n<ds.length):fL (ds.take (n+1)) s=fL (ds.take n) s++bL s ds[n]:=by
 unfold fL
 rw[List.take_succ_eq_append_getElem hn,List.flatMap_append]
 simp
theorem fL_le {ds:List WD}{s:Int}(n:Nat):(fL (ds.take n) s).length<=(fL ds s).length:=by
 have:fL ds s=fL (ds.take n) s++fL (ds.drop n) s:=by
  unfold fL
  rw[<- List.flatMap_append,List.take_append_drop]
 rw[this,List.length_append]
 omega
section
variable {k:Nat}{h:IH}{D:Nat}{vs:List IV}{ds:List WD}{s:Int}
theorem Jsl {e:E1}{σ:ISt}{ns:List Int}(he:WR (e σ h) λ v h1=>∃i,v=.ref i/\h1[i]?=some (.lst (ns.map .int))/\Ex h h1) (l64:ns.length<4000) :
  WR (Jgp (Ja e aNil) σ h) λ v h'=>∃h1,Ex h h1/\v=.ref h1.length/\h'=h1++[.lst ((Jn1 (ddN (Jbu ns) ns.length)).map .int)]:=by
 obtain⟨v,h1,q,i,rfl,gi,x1⟩:=he.eq
 unfold Jgp Ja aNil
 rw[q]
 show WR (match h1[i]? with|some (.lst ys)=>_|_=>_) _
 rw[gi]
 dsimp only
 rw[Jbv]
 dsimp only
 rw[if_pos l64]
 exact⟨h1,x1,rfl,rfl⟩
theorem Jnk (hD:h[D]?=some (.ins "Duty" (dfs vs))) (w:AllW h vs ds) (hl:ds.length<=20) (hg:Gaps ds) :
  WE (Jw (k+4) [.ref D,.int s] h) (λ _ h'=>crd ds s<=200/\Ex h h') λ n h'=>200<crd ds s/\h'[n]?=some (.exc "TooMany" [])/\Ex h h':=by
 have hb:=Jc
 rw[Jg8]
 refine Jqw ?_
 rw[Jah,Jwe]
 refine WE.of ?_
 simp! [true_and]
 refine WR.mono (Jq6 (k:=k) hD w hl hg) ?_
 rintro _ h1 ⟨rfl,x1⟩
 simp! [decide_eq_true_eq,decide_eq_false_iff_not]
 refine⟨λ q=>?_,λ q=>?_⟩
 ·rw[Jof]
  refine WE.of ?_
  simp! [List.length_cons,List.length_nil]
  exact⟨by omega,⟨_,_,grown⟩,q,grown,x1.trans (.one _ _)⟩
 ·rw[Jp1]
  exact⟨by omega,x1⟩
theorem Jwl (hD:h[D]?=some (.ins "Duty" (dfs vs))) (w:AllW h vs ds) (hl:ds.length<=20) (hg:Gaps ds) (hm:∀d∈ds,d.gap.natAbs<2^64) (hf:crd ds s<=200->(fL ds s).length<4000) :
  WE (Jio (k+5) [.ref D,.int s] h) (λ v h'=>crd ds s<=200/\∃i,v=.ref i/\h.length<=i/\h'[i]?=some (.lst ((zL ds s).map .int))/\Ex h h') λ n h'=>200<crd ds s/\h'[n]?=some (.exc "TooMany" [])/\Ex h h':=by
 have hb:=Jc
 have wl:=w.len
 rw[Jwz]
 refine Jqw ?_
 rw[Jir,Jl3,Jl2,Jlw]
 refine WE.of ?_
 simp! [true_and]
 refine WE.mono (Jnk (k:=k) (s:=s) hD w hl hg) ?_ ?_
 ·rintro _ h1 ⟨c,x1⟩
  have hf:=hf c
  refine WSE.of ?_
  have w1:=w.kp x1.kp
  have hD1:=x1.get hD
  simp! [Jl4,Jl5,List.length_nil,Nat.zero_le,Jf (grow hD1),dl0]
  refine Jao (λ n σ h'=>∃g a,h'=h1++L3.IO.lst ((fL (ds.take n) s).map .int)::g/\σ=[some (.ref D),some (.int s),some (.ref h1.length),a]) (λ _ _ _ _=>trivial) ?_ ?_ ⟨[],none,rfl,rfl⟩
  ·rintro n hn _ _ ⟨g,a,rfl,rfl⟩
   have hn':n<ds.length:=by omega
   obtain⟨j,hs,ev,e⟩:=w1.at_ n _ _ (List.getElem?_eq_getElem hn) (List.getElem?_eq_getElem hn')
   rw[ev,Jts hn']
   have gd:=hg _ (List.getElem_mem hn')
   have gm:=hm _ (List.getElem_mem hn')
   have ln:=fL_le (ds:=ds) (s:=s) (n+1)
   rw[Jts hn',List.length_append] at ln
   generalize ds[n]=d at e gd gm ln
   generalize fL (ds.take n) s=fs at ln
   have e2:(h1++L3.IO.lst (fs.map .int)::g)[j]?=some (.ins "Work" (wfs d.name d.gap d.len d.due d.late hs)):=grow e
   simp! [Jko]
   rw[Jhg (i:=h1.length) (h1:=h1++L3.IO.lst (fs.map .int)::g) rfl Jp Js5]
   simp! [true_and]
   have lb:(rngI 0 (dm s d)).length=(bL s d).length:=by rw[Ja0];simp[bL]
   refine WR.mono (J7 (h:=h1++L3.IO.lst (fs.map .int)::g) (xs:=rngI 0 (dm s d)) (chk:=λ _=>True) (f:=bOf d) ?_ (by rw[lb];omega) (λ _ _=>trivial) ?_) ?_
   ·simp! [Jtk e2 gd.1 gd.2.1]
    rw[Ja0] at lb
    have:=dm_nn s gd.1
    omega
   ·intro v hv h2 q
    obtain⟨m,hm',ev⟩:=List.mem_iff_getElem.mp hv
    rw[Jkq] at ev
    subst ev
    have mf:Ju (0+(m:Int)) d.gap:=.inr (.inl gm)
    simp only[List.map_cons,List.map_nil,List.getElem?_cons_succ,List.getElem?_cons_zero,Option.join_some]
    simp! [Ji4,Jf (q _ _ e2),fl1,fl3,fl4,mf]
    exact⟨rfl,.refl _⟩
   ·rintro _ _ ⟨rfl,g2,rfl⟩
    rw[J2w,Jvm (xs:=fs.map .int) (ys:=(bL s d).map .int) (grow Jp) Jp (by rw[List.length_map,List.length_map];omega)]
    refine⟨g++L3.IO.lst ((bL s d).map .int)::g2,_,?_,rfl⟩
    rw[List.append_assoc,List.cons_append,Jjp,<-List.map_append]
  ·rintro _ _ ⟨g,a,rfl,rfl⟩
   rw[List.take_of_length_le (by omega)]
   dsimp! [Jl6]
   refine WR.mono (Jsl (ns:=fL ds s) ?_ hf) ?_
   ·simp! [true_and]
    exact⟨Jp,.refl _⟩
   ·rintro _ _ ⟨h3,x3,rfl,rfl⟩
    have x4:=(x1.trans (.cons _ _ _)).trans x3
    exact⟨c,_,rfl,x4.len,grown,x4.trans (.one _ _)⟩
 ·rintro n h1 ⟨lt,e,x⟩
  exact⟨⟨_,_,e⟩,lt,e,x⟩
end
structure Ok52 (ds:List WD):Prop where
 l:ds.length<=5
 g:∀d∈ds,0<d.gap/\1<=d.due/\0<=d.late/\d.late<=d.gap+d.gap/2
section
variable {ds:List WD}{s x:Int}
theorem J2u:(zL ds s).Perm (ddN (Jbu (fL ds s)) (fL ds s).length):=List.mergeSort_perm _ _
theorem Jzz:x∈zL ds s↔x∈fL ds s:=by
 rw[J2u.mem_iff,Jtc,List.mem_iff_getElem]
 constructor
 ·rintro⟨j,hj,e⟩
  exact⟨j,hj,by rw[e];simp[Jbu,hj]⟩
 ·rintro⟨j,hj,e⟩
  exact⟨j,hj,by rw[<- e];simp[Jbu,hj]⟩
theorem Jy3:x∈fL ds s↔∃d∈ds,∃t:Nat,(t:Int)<dm s d/\x=(t:Int)*d.gap+d.due-d.late:=by
 unfold fL bL
 simp only[List.mem_flatMap,List.mem_map,List.mem_range]
 constructor
 ·rintro⟨d,hd,t,ht,e⟩
  exact⟨d,hd,t,by omega,e.symm⟩
 ·rintro⟨d,hd,t,ht,e⟩
  exact⟨d,hd,t,by omega,e.symm⟩
theorem J0a {d:WD}{t:Nat}(hg:0<d.gap):(t:Int)<dm s d↔(t:Int)*d.gap+d.due-d.late<=s:=by
 unfold dm
 split
 ·rename_i q
  have:(t:Int)<(s+d.late-d.due)/d.gap+1↔(t:Int)<=(s+d.late-d.due)/d.gap:=by omega
  rw[this,Int.le_ediv_iff_mul_le hg]
  omega
 ·rename_i q
  have:=Int.mul_nonneg (show(0:Int)<=t by omega) (Int.le_of_lt hg)
  omega
theorem Jy2 (b:WD->Int) (h:∀d∈ds,dm s d<=b d/\0<=b d):((fL ds s).length:Int)<=(ds.map b).sum:=by
 induction ds with
 | nil=>simp[fL]
 | cons d ds ih =>
  have h1:=h d (List.mem_cons_self ..)
  have h2:=ih λ e he=>h e (List.mem_cons_of_mem _ he)
  have e:(fL (d::ds) s).length=(dm s d).toNat+(fL ds s).length:=by simp[fL,bL]
  rw[e,List.map_cons,List.sum_cons]
  omega
theorem Jy1 (ok:Ok52 ds) (c:crd ds s<=200):(fL ds s).length<4000:=by
 by_cases s1:1<=s
 ·have:=Jy2 (ds:=ds) (s:=s) (λ d=>cm s d) λ d hd=>by
   obtain⟨g1,g2,g3,g4⟩:=ok.g d hd
   unfold dm cm rup
   rw[if_pos s1]
   have n:=Int.ediv_nonneg (show 0<=s+d.late+d.gap-1 by omega) (Int.le_of_lt g1)
   split
   ·have e:(s+d.late-d.due)/d.gap+1=(s+d.late-d.due+d.gap)/d.gap:=by rw[Int.add_ediv_of_dvd_right (Int.dvd_refl _),Int.ediv_self (by omega)]
    rw[e]
    exact⟨Int.ediv_le_ediv g1 (by omega),n⟩
   ·exact⟨n,n⟩
  unfold crd at c
  omega
 ·have:=Jy2 (ds:=ds) (s:=s) (λ _=>2) λ d hd=>by
   obtain⟨g1,g2,g3,g4⟩:=ok.g d hd
   unfold dm
   split
   ·have:(s+d.late-d.due)/d.gap<2:=Int.ediv_lt_of_lt_mul g1 (by omega)
    omega
   ·omega
  have l:=ok.l
  rw[List.map_const',List.sum_replicate_int] at this
  omega
end
theorem Jq0 {t:T1}{b:S1}{σ:ISt}{h:IH}{N:ISt->IH->Prop}{R:IV->IH->Prop}(I:Nat->ISt->IH->Prop)
  (turn:∀m σ h,I m σ h->WR (t σ h) λ c h1=>(c=true->∃m',m=m'+1/\WS (b σ h1) (I m') R)/\(c=false->N σ h1)){m:Nat}(hm:m<1000000) (start:I m σ h):WS (Jjm t b σ h) N R:=by
 have key:∀(n m:Nat) (σ:ISt) (h:IH),m<n->I m σ h->WS (Jg1 t b n σ h) N R:=by
  intro n
  induction n with
  | zero=>intro m σ h hn _;omega
  | succ n ih =>
   intro m σ h hn hI
   obtain⟨c,h1,e,q1,q2⟩:=(turn m σ h hI).eq
   unfold Jg1
   rw[e]
   cases c with
   | false=>exact q2 rfl
   | true =>
    obtain⟨m',rfl,w⟩:=q1 rfl
    simp only[if_true]
    cases eb:b σ h1 with
    | next σ2 h2=>rw[eb] at w;exact ih m' σ2 h2 (by omega) w
    | ret v h2=>rw[eb] at w;exact w
    | _=>rw[eb] at w;exact w.elim
 have et:Jyj=1000000:=by unfold Jyj;rfl
 unfold Jjm
 exact key _ m σ h (by rw[et];exact hm) start
noncomputable def letB (ds:List WD) (s:Int):Bool:=decide (ask ds s<=s)&&(zL ds s).all λ x=>decide (dem ds x<=x)
section
variable {k:Nat}{h:IH}{D:Nat}{vs:List IV}{ds:List WD}{rs:List RH}{s:Int}
theorem J1f (hD:h[D]?=some (.ins "Duty" (dfs vs))) (w:AllW h vs ds) (ok:Ok52 ds) (hg:Gaps ds) (hm:∀d∈ds,d.gap.natAbs<2^64) (c:crd ds s<=200) :
  WR (J2 (k+6) [.ref D,.int s] h) λ v h'=>Ex h h'/\((v=.non/\(zL ds s).all (λ x=>decide (dem ds x<=x))=true)∨((∃x,v=.int x)/\(zL ds s).all (λ x=>decide (dem ds x<=x))=false)):=by
 have hb:=Jc
 have l:=ok.l
 have B:WR (Jio (k+5) [.ref D,.int s] h) λ v h'=>∃i,v=.ref i/\h'[i]?=some (.lst ((zL ds s).map .int))/\Ex h h':=WE.wr (WE.mono (Jwl (k:=k) (s:=s) hD w (by omega) hg hm (Jy1 ok)) (λ _ _ z=>let ⟨_,i,a,_,b,c⟩:=z;⟨i,a,b,c⟩) λ _ _ z=>by have:=z.1;omega)
 rw[Jgr]
 simp! [Jae]
 refine WR.mono B ?_
 rintro _ h1 ⟨i,rfl,gi,x1⟩
 simp! [Jca,gi]
 refine Jao (λ n σ h'=>Ex h1 h'/\(∃a,σ=[some (.ref D),some (.int s),a])/\∀x∈(zL ds s).take n,dem ds x<=x) (λ _ _ _ z=>z.1.get gi) ?_ ?_ ⟨.refl _,⟨_,rfl⟩,by simp⟩
 ·rintro n hn _ h2 ⟨x2,⟨a,rfl⟩,no⟩
  have hn':n<(zL ds s).length:=by simpa using hn
  rw[List.getElem_map,List.take_succ_eq_append_getElem hn']
  have mem:=List.getElem_mem hn'
  generalize (zL ds s)[n]=x at mem
  simp! [Ja2]
  refine WR.mono (Jtg (k:=k+2) (s:=x) (x2.get (x1.get hD)) (w.kp (x1.trans x2).kp) (by omega) hg) ?_
  rintro _ h3 ⟨rfl,x3⟩
  simp! [decide_eq_true_eq,decide_eq_false_iff_not]
  refine⟨λ q=>⟨(x1.trans x2).trans x3,.inr ?_⟩,λ q=>⟨x2.trans x3,⟨_,rfl⟩,λ y hy=>?_⟩⟩
  ·refine⟨⟨_,rfl⟩,?_⟩
   rw[List.all_eq_false]
   exact⟨x,mem,by simp;omega⟩
  ·rcases List.mem_append.mp hy with hy|hy
   ·exact no y hy
   ·rw[List.mem_singleton.mp hy];omega
 ·rintro _ h2 ⟨x2,⟨a,rfl⟩,no⟩
  rw[List.length_map,List.take_of_length_le (Nat.le_refl _)] at no
  simp! [Jbi]
  have al:(zL ds s).all (λ x=>decide (dem ds x<=x))=true:=by rw[List.all_eq_true];exact λ x hx=>decide_eq_true (no x hx)
  refine⟨x1.trans x2,?_⟩
  first|exact .inl ⟨rfl,al⟩|exact .inl al|exact al
theorem J0y (hD:h[D]?=some (.ins "Duty" (dfs vs))) (w:AllH h vs rs) (h6:∀r∈rs,r.2.length<=6) (ok:Ok52 (rs.map (·.1))) (hg:Gaps (rs.map (·.1))) (hm:∀d∈rs.map (·.1),d.gap.natAbs<2^64) :
  WE (Ja6 (k+7) [.ref D,.int s] h) (λ v h'=>Ex h h'/\hld rs=[]/\(s<1/\v=.bl false∨1<=s/\crd (rs.map (·.1)) s<=200/\v=.bl (letB (rs.map (·.1)) s)))
   λ n h'=>Ex h h'/\((hld rs≠[]/\h'[n]?=some (.exc "HoldsThings" []))∨(hld rs=[]/\1<=s/\200<crd (rs.map (·.1)) s/\h'[n]?=some (.exc "TooMany" []))):=by
 have hb:=Jc
 have l:=ok.l
 rw[List.length_map] at l
 have ll:(rs.map (·.1)).length<=20:=by rw[List.length_map];omega
 rw[Jj6]
 refine Jqw ?_
 rw[Jbn,Jl3,Jl2,Jlw]
 refine WE.of ?_
 simp! [true_and]
 refine WE.mono (Jjk (k:=k+3) hD w (by omega) h6) ?_ ?_
 ·rintro _ h1 ⟨e0,x1⟩
  rw[Jdz,Jl3,Jwe]
  refine WE.of ?_
  simp! [decide_eq_true_eq,decide_eq_false_iff_not]
  refine⟨λ q=>?_,λ q=>?_⟩
  ·refine WSE.of ?_
   simp! [true_and]
   refine⟨x1,e0,?_⟩
   first|exact .inl ⟨q,rfl⟩|exact .inl q
  ·rw[Jp1,Jd0,Jl3,Jl2,Jlw]
   refine WE.of ?_
   simp! [true_and]
   have hD1:=x1.get hD
   have w1:=w.w.kp x1.kp
   refine WE.mono (Jnk (k:=k+2) (s:=s) hD1 w1 ll hg) ?_ ?_
   ·rintro _ h2 ⟨c,x2⟩
    refine WSE.of ?_
    simp! [Jd1]
    refine WR.mono (Jwk (k:=k+3) (s:=s) (x2.get hD1) (w1.kp x2.kp) ll hg) ?_
    rintro _ h3 ⟨rfl,x3⟩
    have x13:=(x1.trans x2).trans x3
    simp! [decide_eq_true_eq,decide_eq_false_iff_not]
    refine⟨λ q=>?_,λ q=>⟨x13,e0,.inr ⟨by omega,c,by unfold letB;rw[decide_eq_false q];rfl⟩⟩⟩
    refine WR.mono (J1f (k:=k) (s:=s) (x13.get hD) (w.w.kp x13.kp) ok hg hm c) ?_
    rintro v h4 ⟨x4,⟨rfl,al⟩|⟨⟨x,rfl⟩,al⟩⟩<;>rw[J2g]
    ·exact⟨true,rfl,x13.trans x4,e0,.inr ⟨by omega,c,by unfold letB;rw[decide_eq_true q,al];rfl⟩⟩
    ·exact⟨false,rfl,x13.trans x4,e0,.inr ⟨by omega,c,by unfold letB;rw[decide_eq_true q,al];rfl⟩⟩
   ·rintro n h2 ⟨lt,e,x2⟩
    exact⟨⟨_,_,e⟩,x1.trans x2,.inr ⟨e0,by omega,lt,e⟩⟩
 ·rintro n h1 ⟨ne,e,x1⟩
  exact⟨⟨_,_,e⟩,x1,.inl ⟨ne,e⟩⟩
end
section
variable {k:Nat}{h:IH}{S:Nat}{ds:List WD}{s:Int}
theorem Jlt (hS:h[S]?=some (.lst (ds.map t4))) (g:Gaps ds):Jbe (k+1) [.ref S,.int s] h=.ok (.tup [.int (ask ds s),.int (crd ds s)]) h:=by
 have hb:=Jc
 refine Jda ?_
 rw[Jo0]
 simp! [Jdy,Jhu,Jhv,Jca,hS]
 refine Jao (λ n σ h'=>h'=h/\∃a b c d e,σ=[some (.ref S),some (.int s),some (.int (ask (ds.take n) s)),some (.int (crd (ds.take n) s)),a,b,c,d,e]) (λ _ _ _ z=>z.1▸hS) ?_ ?_ ⟨rfl,none,none,none,none,none,by simp[ask,crd]⟩
 ·rintro n hn _ _ ⟨rfl,a,b,c,d,e,rfl⟩
  have hn2:n<ds.length:=by simpa using hn
  have gg:=g _ (List.getElem_mem hn2)
  have n1:ask (ds.take (n+1)) s=ask (ds.take n) s+cm s ds[n]*(ds[n]).len:=by unfold ask;rw[Jlv hn2]
  have n2:crd (ds.take (n+1)) s=crd (ds.take n) s+cm s ds[n]:=by unfold crd;rw[Jlv hn2]
  rw[List.getElem_map,n1,n2]
  generalize ds[n]=r at gg
  by_cases q:1<=s
  ·have em:(s+r.late+r.gap-1)/r.gap=cm s r:=by unfold cm rup;rw[if_pos q]
   have mf:Ju (cm s r) r.len:=.inr (.inl gg.2.2)
   simp! [Jh5,Jod,Joe,Jc9,decide_eq_true_eq,decide_eq_false_iff_not,gg.1,gg.2.1,em,mf,List.length_cons,List.length_nil]
   exact⟨λ _=>⟨_,_,_,_,_,rfl⟩,λ z=>by omega⟩
  ·have em:cm s r=0:=by unfold cm;rw[if_neg q]
   simp! [Jh5,Jod,Joe,Jc9,decide_eq_true_eq,decide_eq_false_iff_not,em,List.length_cons,List.length_nil]
   exact⟨λ z=>by omega,λ _=>⟨_,_,_,_,_,by rw[Int.zero_mul,Int.add_zero,Int.add_zero]⟩⟩
 ·rintro _ _ ⟨rfl,a,b,c,d,e,rfl⟩
  simp! [Jhw,List.length_map,List.length_cons,List.length_nil]
  rw[List.take_of_length_le (Nat.le_refl _)]
  exact⟨by omega,rfl⟩
theorem Jww (hS:h[S]?=some (.lst (ds.map t4))) (g:Gaps ds):Ja5 (k+1) [.ref S,.int s] h=.ok (.bl (decide (dem ds s>s))) h:=by
 have hb:=Jc
 refine Jda ?_
 rw[Jj5]
 simp! [Jbm,Jdw,Jca,hS]
 refine Jao (λ n σ h'=>h'=h/\∃a b c d,σ=[some (.ref S),some (.int s),some (.int (dem (ds.take n) s)),a,b,c,d]) (λ _ _ _ z=>z.1▸hS) ?_ ?_ ⟨rfl,none,none,none,none,by simp[dem]⟩
 ·rintro n hn _ _ ⟨rfl,a,b,c,d,rfl⟩
  have hn2:n<ds.length:=by simpa using hn
  have gg:=g _ (List.getElem_mem hn2)
  have n1:dem (ds.take (n+1)) s=dem (ds.take n) s+dm s ds[n]*(ds[n]).len:=by unfold dem;rw[Jlv hn2]
  rw[List.getElem_map,n1]
  generalize ds[n]=r at gg
  by_cases q:0<=s+r.late-r.due
  ·have em:(s+r.late-r.due)/r.gap+1=dm s r:=by unfold dm;rw[if_pos q]
   have mf:Ju (dm s r) r.len:=.inr (.inl gg.2.2)
   simp! [Jh5,Jod,Joe,Jaz,decide_eq_true_eq,decide_eq_false_iff_not,gg.1,gg.2.1,em,mf,List.length_cons,List.length_nil]
   exact⟨λ _=>⟨_,_,_,_,rfl⟩,λ z=>by omega⟩
  ·have em:dm s r=0:=by unfold dm;rw[if_neg q]
   simp! [Jh5,Jod,Joe,Jaz,decide_eq_true_eq,decide_eq_false_iff_not,em,List.length_cons,List.length_nil]
   exact⟨λ z=>by omega,λ _=>⟨_,_,_,_,by rw[Int.zero_mul,Int.add_zero]⟩⟩
 ·rintro _ _ ⟨rfl,a,b,c,d,rfl⟩
  simp! [Jdx,List.length_map]
  rw[List.take_of_length_le (Nat.le_refl _)]
noncomputable def dueV (ds:List WD) (s:Int) (hd:Bool):IV:=if hd=true then .str "holds" else if s<1 then .bl false else if 200<crd ds s then .str "many" else .bl (letB ds s)
theorem J2v {d:WD}:∀{ds:List WD},d∈ds->(bL s d).length<=(fL ds s).length
 | e::ds,hd=>by
  have q:(fL (e::ds) s).length=(bL s e).length+(fL ds s).length:=by simp[fL]
  rcases List.mem_cons.mp hd with rfl|hd
  ·omega
  ·have:=J2v hd
   omega
theorem J0b {hd:Bool}(hS:h[S]?=some (.lst (ds.map t4))) (ok:Ok52 ds) (g:Gaps ds):Jfo (k+2) [.ref S,.int s,.bl hd] h=.ok (dueV ds s hd) h:=by
 have hb:=Jc
 refine Jda ?_
 rw[Jrd]
 cases hd with
 | true=>simp! [Jco,dueV,if_true]
 | false =>
  simp! [Jco,Jiw,Jix,Jiy,Jlt hS g,Jh5,Jod,Joe,List.length_cons,List.length_nil,decide_eq_true_eq,decide_eq_false_iff_not,dueV,Bool.false_eq_true,if_false]
  refine⟨λ q=>by rw[if_pos q],λ q=>?_⟩
  rw[if_neg q]
  refine⟨λ c=>by rw[if_pos c],λ c=>?_⟩
  rw[if_neg c]
  have few:=Jy1 (s:=s) ok (by omega)
  have dm4:∀d∈ds,(dm s d).toNat<4000:=λ d hd=>by
   have:=J2v (s:=s) hd
   simp[bL] at this
   omega
  have bad:∀d∈ds,∀t:Nat,(t:Int)*d.gap+d.due-d.late<=s->dem ds ((t:Int)*d.gap+d.due-d.late)>(t:Int)*d.gap+d.due-d.late->letB ds s=false:=λ d hd t ht f=>by
   unfold letB
   rw[Bool.and_eq_false_iff]
   right
   rw[List.all_eq_false]
   exact⟨_,Jzz.mpr (Jy3.mpr ⟨d,hd,t,(J0a (ok.g d hd).1).mpr ht,rfl⟩),by simp;omega⟩
  simp! [Jiz,Jca,hS]
  refine Jao (λ n σ h'=>h'=h/\(∃a b c d e,σ=[some (.ref S),some (.int s),some (.bl false),some (.int (ask ds s)),some (.int (crd ds s)),a,b,c,d,e])/\∀d∈ds.take n,∀t:Nat,(t:Int)<dm s d->dem ds ((t:Int)*d.gap+d.due-d.late)<=(t:Int)*d.gap+d.due-d.late) (λ _ _ _ z=>z.1▸hS) ?_ ?_ ⟨rfl,⟨_,_,_,_,_,rfl⟩,by simp⟩
  ·rintro n hn _ h ⟨rfl,⟨a,b,c,d,e,rfl⟩,no⟩
   have hn2:n<ds.length:=by simpa using hn
   have hd:=List.getElem_mem hn2
   rw[List.getElem_map,List.take_succ_eq_append_getElem hn2]
   generalize ds[n]=r at hd
   have gr:=(ok.g r hd).1
   have dl:=dm4 r hd
   simp! [Jh5,Jod,Joe,Jhz,List.length_cons,List.length_nil]
   refine Jq0 (λ m σ h'=>h'=h/\∃t:Nat,m+t=(dm s r).toNat/\σ=[some (.ref S),some (.int s),some (.bl false),some (.int (ask ds s)),some (.int (crd ds s)),some (.int r.gap),some (.int r.len),some (.int r.due),some (.int r.late),some (.int ((t:Int)*r.gap+r.due-r.late))]/\∀u:Nat,u<t->dem ds ((u:Int)*r.gap+r.due-r.late)<=(u:Int)*r.gap+r.due-r.late) ?_ (m:=(dm s r).toNat) (by omega) ⟨rfl,0,rfl,by simp,λ u hu=>by omega⟩
   rintro m _ _ ⟨rfl,t,mt,rfl,nu⟩
   simp! [decide_eq_true_eq,decide_eq_false_iff_not]
   refine⟨λ q=>?_,λ q=>⟨⟨_,_,_,_,_,rfl⟩,λ d hd' u hu=>?_⟩⟩
   ·have tl:=(J0a (t:=t) gr).mpr q
    obtain⟨m',rfl⟩:∃m',m=m'+1:=⟨m-1,by omega⟩
    refine⟨m',rfl,?_⟩
    simp! [Jhy,Jww hS g,decide_eq_true_eq,decide_eq_false_iff_not]
    refine⟨λ f=>by rw[bad r hd t q f],λ f=>⟨t+1,by omega,?_,λ u hu=>?_⟩⟩
    ·have e:((t+1:Nat):Int)*r.gap=(t:Int)*r.gap+r.gap:=by rw[Int.natCast_add,Int.add_mul];simp
     rw[e,show(t:Int)*r.gap+r.due-r.late+r.gap=(t:Int)*r.gap+r.gap+r.due-r.late by omega]
    ·by_cases z:u=t
     ·rw[z];omega
     ·exact nu u (by omega)
   ·rcases List.mem_append.mp hd' with z|z
    ·exact no d z u hu
    ·rw[List.mem_singleton.mp z] at hu ⊢
     refine nu u ?_
     have:¬(t:Int)<dm s r:=λ z=>q ((J0a gr).mp z)
     omega
  ·rintro _ h ⟨rfl,⟨a,b,c,d,e,rfl⟩,no⟩
   rw[List.length_map,List.take_of_length_le (Nat.le_refl _)] at no
   have al:(zL ds s).all (λ x=>decide (dem ds x<=x))=true:=by
    rw[List.all_eq_true]
    intro x hx
    obtain⟨d,hd,t,ht,rfl⟩:=Jy3.mp (Jzz.mp hx)
    exact decide_eq_true (no d hd t ht)
   simp! [Ji0,letB,al,Bool.and_true]
end
noncomputable def d4 (v:IV):PyData:=match v with
 | .tup [.int a,.int b,.int c,.int d]=>.tuple [.int a,.int b,.int c,.int d]
 | _=>.none
theorem J03 {b:Int}(hb:1<=b) (ns:List Int) (q:∀x∈ns,1<=x/\x<=b):∃y,maxD ns (.int 1)=.int y/\1<=y/\y<=b:=by
 unfold maxD
 split
 ·exact⟨1,rfl,Int.le_refl _,hb⟩
 ·rename_i ne
  have at_:∀j,j<ns.length->1<=ns.getD j 0/\ns.getD j 0<=b:=λ j hj=>by
   rw[List.getD_eq_getElem?_getD,List.getElem?_eq_getElem hj]
   exact q _ (List.getElem_mem hj)
  have pos:0<ns.length:=List.length_pos_iff.mpr ne
  exact⟨_,rfl,Int.le_trans (at_ 0 pos).1 (Jzo _ _ 0 pos),Ju9 _ _ _ pos λ j hj=>(at_ j hj).2⟩
section
variable {k:Nat}{h:IH}{S:Nat}{ds:List WD}{s:Int}
theorem J06 {i j:Nat}(hi:h[i]?=some (.lst (ds.map t4))) (hj:h[j]?=some (.lst [])):cNe (.ref i) (.ref j) h=.ok (.bl (!ds.isEmpty)) h:=by
 have e1:toD h 6 (.ref i)=some (.list ((ds.map t4).map d4)):=by
  rw[Jpg hi,Juk (g:=d4) λ x hx=>?_]
  ·rfl
  ·obtain⟨r,_,rfl⟩:=List.mem_map.mp hx
   rfl
 have e2:toD h 6 (.ref j)=some (.list []):=by rw[Jpg hj];rfl
 have c1:PyData.canLayAll0 ((ds.map t4).map d4)=true:=Jza λ x hx=>by
  obtain⟨r,_,rfl⟩:=List.mem_map.mp hx
  simp only[d4,PyData.canLay0,PyData.canLayAll0]
  rfl
 have e3:Ji6 (.ref i) (.ref j) h=some ds.isEmpty:=by
  unfold Ji6
  rw[e1,e2]
  dsimp only
  rw[if_pos ⟨by rw[PyData.canLay0];exact c1,by rw[PyData.canLay0,PyData.canLayAll0]⟩,PyData.eqv]
  cases ds with
  | nil=>rw[List.map_nil,List.map_nil,PyData.eqvAll];rfl
  | cons a as=>rw[List.map_cons,List.map_cons,PyData.eqvAll];rfl;all_goals intros;simp_all
 unfold cNe
 have e4:Jjo (.ref i) (.ref j)=none:=rfl
 rw[e4]
 dsimp only
 rw[e3]
theorem Jyv {e:E1}{f:WD->Int}{pf:IV->IV}{b:Int}{x:Option IV}{σ:ISt}(hb:1<=b) (hS:h[S]?=some (.lst (ds.map t4))) (hl:ds.length<=5) (hp:∀d,pf (t4 d)=.int (f d)) (he:∀d (h2:IH),e [some (t4 d)] h2=.ok (.int (f d)) h2) (q:∀d∈ds,1<=f d/\f d<=b) :
  WR (Jmm (Ja (Jaa (iAny (eVar 1)) 1 [] (gNm 0) Jaw e) aNil) (eC (.int 1)) (x::some (.ref S)::σ) h) λ v h'=>Ex h h'/\∃y,v=.int y/\1<=y/\y<=b:=by
 have hz:=Jc
 simp! [Jvv]
 refine WR.mono (J7 (h:=h) (xs:=ds.map t4) (chk:=λ h'=>h'[S]?=some (.lst (ds.map t4))) (f:=pf) ?_ (by rw[List.length_map];omega) (λ h2 q=>q _ _ hS) ?_) ?_
 ·simp! [Jca,hS]
 ·intro v hv h2 _
  obtain⟨d,_,rfl⟩:=List.mem_map.mp hv
  rw[List.map_nil,he,Jhh]
  exact⟨(hp d).symm,.refl _⟩
 ·rintro _ _ ⟨rfl,g,rfl⟩
  have em:(ds.map t4).map pf=(ds.map f).map IV.int:=by rw[List.map_map,List.map_map];exact List.map_congr_left λ d _=>hp d
  obtain⟨y,ey,y1,y2⟩:=J03 hb (ds.map f) λ z hz=>by
   obtain⟨d,hd,rfl⟩:=List.mem_map.mp hz
   exact q d hd
  rw[em]
  refine⟨_,rfl,_,Jp,_,Jbv _,?_⟩
  rw[ey]
  exact⟨.cons _ _ _,y,rfl,y1,y2⟩
theorem Jov {g:Int}(hS:h[S]?=some (.lst (ds.map t4))) (gp:Gaps ds) (g1:1<=g) (g2:g<=9000000000000000):WR (Ja4 (k+2) [.ref S,.int g] h) λ v h'=>h'=h/\∃x,v=.int x:=by
 have hb:=Jc
 have l2:(Int.natAbs 2).log2<9000:=by decide
 have m1:Ju 200 g:=.inl (by decide)
 rw[Jj4]
 simp! [Jbl,Jdt,Jdu,m1]
 refine Jq0 (λ m σ h'=>h'=h/\∃lo hi a,hi-lo<=2^m/\σ=[some (.ref S),some (.int g),some (.int lo),some (.int hi),a]) ?_ (m:=61) (by decide) ⟨rfl,1,200*g+1,none,by omega,rfl⟩
 rintro m _ h ⟨rfl,lo,hi,a,le,rfl⟩
 simp! [decide_eq_true_eq,decide_eq_false_iff_not]
 refine⟨λ q=>?_,λ q=>?_⟩
 ·obtain⟨m',rfl⟩:∃m',m=m'+1:=by
   cases m with
   | zero=>rw[show(2:Int)^0=1 from rfl] at le;omega
   | succ m=>exact⟨m,rfl⟩
  have pw:(2:Int)^(m'+1)=2*2^m':=by rw[Int.pow_succ,Int.mul_comm]
  rw[pw] at le
  refine⟨m',rfl,?_⟩
  simp! [Jde,l2,Jlt hS gp,show(0:Int)<2 by decide,decide_eq_true_eq,decide_eq_false_iff_not]
  generalize (2:Int)^m'=z at le ⊢
  exact⟨λ _=>⟨lo,(lo+hi)/2,_,by omega,rfl⟩,λ _=>⟨(lo+hi)/2,hi,_,by omega,rfl⟩⟩
 ·simp! [Jdv]
  exact⟨_,rfl⟩
theorem J0g {c:Int}(hS:h[S]?=some (.lst (ds.map t4))) (hl:ds.length<=5) (gp:Gaps ds) (q:∀d∈ds,(1<=d.due/\d.due<=9000000000000000)/\1<=d.gap/\d.gap<=9000000000000000) :
  WR (Jes (k+3) [.int c,.ref S] h) λ v h'=>Ex h h'/\∃i,∃zs:List Int,v=.ref i/\h'[i]?=some (.lst (zs.map .int))/\zs.length<=20:=by
 have hb:=Jc
 have tn:Int.toNat 20=20:=rfl
 have t20:(0:Int)<10^20:=by decide +kernel
 have l3:(Int.natAbs 3).log2<9000:=by decide
 rw[Joz]
 simp only[Jqx,Jdr,Jhp,Jqy,Jqz]
 refine WR.mono (Jyv (f:=WD.due) (pf:=λ v=>match v with|.tup [_,_,x,_]=>x|_=>.non) (b:=9000000000000000) (by decide) hS hl (λ d=>rfl) (λ d h2=>by refine Jda ?_;simp! [Je7]) λ d hd=>(q d hd).1) ?_
 rintro _ h1 ⟨x1,top,rfl,p1,p2⟩
 refine WR.mono (Jyv (f:=WD.gap) (pf:=λ v=>match v with|.tup [x,_,_,_]=>x|_=>.non) (b:=9000000000000000) (by decide) (x1.get hS) hl (λ d=>rfl) (λ d h2=>by refine Jda ?_;simp! [Je8]) λ d hd=>(q d hd).2) ?_
 rintro _ h2 ⟨x2,g,rfl,g1,g2⟩
 have gS:=x2.get (x1.get hS)
 have x12:=x1.trans x2
 clear x1 x2
 have m2:Ju 2 top:=.inl (by decide)
 have m12:Ju 12 g:=.inl (by decide)
 have m200:Ju 200 g:=.inl (by decide)
 have m3:Ju 3 g:=.inl (by decide)
 have e5:∀a b c d e f' g':IV,atI [a,b,c,d,e,f',g'] 5=some f':=λ _ _ _ _ _ _ _=>rfl
 simp! [Jhq,Jhr,tn,t20,m2,m12,m200,m3,l3,e5,Job,grown,List.length_cons,List.length_nil,show(0:Int)<12*g by omega,show(0:Int)<3*g by omega,show(0:Int)<3 by decide]
 refine⟨by decide,by omega,by omega,?_⟩
 obtain⟨x,ex⟩:∃x:Int,atI [IV.int top,IV.int (1+c%(12*g)),IV.int (top+c/3%(3*g))] (c%3)=some (.int x):=by
  have:c%3=0∨c%3=1∨c%3=2:=by omega
  rcases this with e|e|e<;>rw[e]<;>exact⟨_,rfl⟩
 refine⟨_,ex,?_⟩
 clear ex
 have sh:h2++[L3.IO.lst [IV.int 0,IV.int (0-c%10^20),IV.int 1,IV.int top,IV.int (2*top),IV.int (1+c%(12*g)),IV.int (200*g+1)]]++[L3.IO.lst [IV.int top,IV.int (1+c%(12*g)),IV.int (top+c/3%(3*g))]]=h2++L3.IO.lst (([0,0-c%10^20,1,top,2*top,1+c%(12*g),200*g+1]:List Int).map .int)::[L3.IO.lst [IV.int top,IV.int (1+c%(12*g)),IV.int (top+c/3%(3*g))]]:=by simp
 rw[sh]
 simp! [Jhs]
 refine⟨by decide,?_⟩
 refine Jao (λ n σ h'=>∃(zs:List Int) (gg:IH) (y:Int) (a:Option IV),h'=h2++L3.IO.lst (zs.map .int)::gg/\zs.length=7+n/\σ=[some (.int c),some (.ref S),some (.int top),some (.int g),some (.ref h2.length),some (.int y),a,none]) (λ _ _ _ _=>trivial) ?_ ?_ ⟨[0,0-c%10^20,1,top,2*top,1+c%(12*g),200*g+1],_,x,none,rfl,rfl,rfl⟩
 ·rintro n hn _ _ ⟨zs,gg,y,a,rfl,lz,rfl⟩
  rw[Jkq]
  rw[Ja0] at hn
  simp! [Jgv,Jlt (grow gS) gp,J5g,J2k]
  rw[Jhg (i:=h2.length) (h1:=h2++L3.IO.lst (zs.map .int)::gg) rfl Jp Jd2]
  simp! [Jen]
  refine⟨_,Jp,by rw[List.length_map];omega,?_⟩
  rw[Jjp]
  exact⟨zs++[_],gg,_,_,by rw[List.map_append];rfl,by simp;omega,rfl⟩
 ·rintro _ _ ⟨zs,gg,y,a,rfl,lz,rfl⟩
  rw[Ja0] at lz
  have x3:Ex h2 (h2++L3.IO.lst (zs.map .int)::gg):=.cons _ _ _
  have x4:Ex (h2++L3.IO.lst (zs.map .int)::gg) (h2++L3.IO.lst (zs.map .int)::gg++[L3.IO.lst []]):=.one _ _
  have gL:(h2++L3.IO.lst (zs.map .int)::gg)[h2.length]?=some (.lst (zs.map .int)):=Jp
  simp! [Jht,List.length_nil,Nat.zero_le,J06 (x4.get (x3.get gS)) grown]
  generalize h2++L3.IO.lst (zs.map .int)::gg=h3 at x3 x4 gL
  generalize h3++[L3.IO.lst []]=h4 at x4
  have gL4:=x4.get gL
  have gS4:=x4.get (x3.get gS)
  have x14:=(x12.trans x3).trans x4
  generalize h2.length=L at gL4
  cases ds.isEmpty with
  | true =>
   simp! [Jds]
   exact⟨x14,_,zs,rfl,gL4,by omega⟩
  | false =>
   simp! [true_and]
   refine WR.mono (Jov (k:=k) gS4 gp g1 g2) ?_
   rintro _ _ ⟨rfl,f,rfl⟩
   simp! [Jds,Jvh,grow gL4,grown,List.length_map,List.length_cons,List.length_nil]
   exact⟨by omega,by omega,(x14.trans (.one _ _)).trans (.one _ _),_,zs++[f,f+1],rfl,by rw[List.map_append];exact grown,by simp;omega⟩
end
theorem Jzg {unit:Int}:∀(ys:List IV) (i0:Nat),(∀y∈ys,∃d,F5 unit (d,0)/\y=t4 d)->∃ds:List WD,ys=ds.map t4/\∀i d,ds[i]?=some d->F5 unit (d,0)/\d.name=nmv (i0+i)
 | [],_,_=>⟨[],rfl,λ i r e=>by simp at e⟩
 | y::ys,i0,q=>by
  obtain⟨d,f,rfl⟩:=q y (List.mem_cons_self ..)
  obtain⟨ds,rfl,p⟩:=Jzg ys (i0+1) λ z hz=>q z (List.mem_cons_of_mem _ hz)
  refine⟨{ d with name:=nmv i0 }::ds,rfl,λ i s e=>?_⟩
  cases i with
  | zero =>
   have e:{ d with name:=nmv i0 }=s:=by simpa using e
   subst e
   exact⟨⟨f.g1,f.g2,f.l1,f.l2,f.d1,f.d2,f.t1,f.t2,f.z1⟩,rfl⟩
  | succ i =>
   have:=p i s (by simpa using e)
   rw[show i0+(i+1)=i0+1+i by omega]
   exact this
section
variable {k:Nat}{h:IH}{D:Nat}{vs:List IV}{rs:List RH}{s:Int}
theorem J27 {x:Str}{i j:Nat}(hi:h[i]?=some (.lst [.str x,.bl true,.bl false])) (hj:h[j]?=some (.lst [.str x,.bl true,.bl false])) (q:PyData.canLay0 (.str x)=true):cEq (.ref i) (.ref j) h=.ok (.bl true) h:=by
 have e:∀{i:Nat},h[i]?=some (.lst [.str x,.bl true,.bl false])->toD h 6 (.ref i)=some (.list [.str x,.bool true,.bool false]):=λ {i} hi=>by rw[Jpg hi];rfl
 have q':PyData.canLay0 (.list [.str x,.bool true,.bool false])=true:=by
  rw[PyData.canLay0,PyData.canLayAll0,q,PyData.canLayAll0,PyData.canLayAll0,PyData.canLayAll0,PyData.canLay0,PyData.canLay0]
  rfl
 have e3:Ji6 (.ref i) (.ref j) h=some true:=by
  unfold Ji6
  rw[e hi,e hj]
  dsimp only
  rw[if_pos ⟨q',q'⟩,Jqb _ q']
 unfold cEq
 rw[show Jjo (.ref i) (.ref j)=none from rfl]
 dsimp only
 rw[e3]
theorem Jx0 (hD:h[D]?=some (.ins "Duty" (dfs vs))) (w:AllH h vs rs) (h6:∀r∈rs,r.2.length<=6) (ok:Ok52 (rs.map (·.1))) (hg:Gaps (rs.map (·.1))) (hm:∀d∈rs.map (·.1),d.gap.natAbs<2^64) :
  WR (Jcg (k+8) [.ref D,.int s,dueV (rs.map (·.1)) s (!(hld rs).isEmpty)] h) λ v h'=>v=.bl true/\Ex h h':=by
 have hb:=Jc
 have x1:Jas "HoldsThings"=some true:=by kernel_rfl
 have x2:Jbx "HoldsThings"=some true:=by kernel_rfl
 have x3:Je0 "HoldsThings"=some false:=by kernel_rfl
 have y1:Jas "TooMany"=some false:=by kernel_rfl
 have y2:Jbx "TooMany"=some true:=by kernel_rfl
 have y3:Je0 "TooMany"=some true:=by kernel_rfl
 have q1:PyData.canLay0 (.str (Str.ofString "holds"))=true:=by decide +kernel
 have q2:PyData.canLay0 (.str (Str.ofString "many"))=true:=by decide +kernel
 rw[Jmv]
 generalize hV:dueV (rs.map (·.1)) s (!(hld rs).isEmpty)=V
 simp! [Jcq]
 refine J5j _ _ ?_
 rw[J2s,Jlw]
 refine WE.of ?_
 simp! [true_and]
 refine WE.mono (J0y (k:=k) (s:=s) hD w h6 ok hg hm) ?_ ?_
 ·rintro v h1 ⟨x,e0,c⟩
  rw[e0] at hV
  have hV:V=v:=by
   rw[<- hV]
   unfold dueV
   rcases c with⟨s1,rfl⟩|⟨s1,c,rfl⟩
   ·rw[if_neg (by simp),if_pos s1]
   ·rw[if_neg (by simp),if_neg (by omega),if_neg (by omega)]
  have hB:∃b,v=.bl b:=by rcases c with⟨_,e⟩|⟨_,_,e⟩<;>exact⟨_,e⟩
  subst hV
  obtain⟨b,rfl⟩:=hB
  simp! [Ja7]
  rw[show cEq (.bl b) (.bl b) h1=.ok (.bl true) h1 from by cases b<;>rfl,Jhh]
  exact⟨rfl,x⟩
 ·rintro n h1 ⟨x,⟨ne,e⟩|⟨e0,s1,c,e⟩⟩
  ·refine⟨"HoldsThings",_,e,?_⟩
   have hV:V=.str "holds":=by
    rw[<- hV]
    unfold dueV
    rw[if_pos]
    cases hh:hld rs with
    | nil=>exact absurd hh ne
    | cons _ _=>rfl
   subst hV
   rw[J5h x1]
   simp! [Jlh,Jzt e,Jz1,x2,x3,Ja7,Jcr,List.length_cons,List.length_nil]
   refine⟨by omega,by omega,?_⟩
   rw[J27 (grow grown) grown q1,Jhh]
   exact⟨rfl,(x.trans (.one _ _)).trans (.one _ _)⟩
  ·refine⟨"TooMany",_,e,?_⟩
   have hV:V=.str "many":=by
    rw[<- hV,e0]
    unfold dueV
    rw[if_neg (by simp),if_neg (by omega),if_pos c]
   subst hV
   rw[J5i y1,J5h y3]
   simp! [Jlh,Jzt e,Jz1,y1,y2,Ja7,Jcr,List.length_cons,List.length_nil]
   refine⟨by omega,by omega,?_⟩
   rw[J27 (grow grown) grown q2,Jhh]
   exact⟨rfl,(x.trans (.one _ _)).trans (.one _ _)⟩
theorem Jxi (ns:List Int) (hl:ns.length<=63):∃h',Jog 16 [.rol (ns.map IV.int)] []=.ok (.bl true) h':=by
 suffices h:WR (Jog 16 [.rol (ns.map IV.int)] []) λ v _=>v=.bl true by
  obtain⟨v,h',e,rfl⟩:=h.eq
  exact⟨h',e⟩
 have hb:=Jc
 rw[J29]
 have l4:(Int.natAbs 4).log2<9000:=by decide
 have tn:Int.toNat 15=15:=rfl
 have t15:(10:Int)^15=1000000000000000:=by decide
 simp! [Joj,Jsy,Js9 ns 0 (by decide),Job,l4,tn,t15,grown,show(0:Int)<4 by decide,show(0:Int)<2 by decide,List.length_cons,List.length_nil]
 generalize ns.getD _ 0=x0
 refine⟨by decide,by omega,?_⟩
 obtain⟨md,em,hm1,hm2⟩:∃x:Int,atI [IV.int 3,IV.int 1000000000000000] (x0%2)=some (.int x)/\0<x/\x<=1000000000000000:=by
  have:x0%2=0∨x0%2=1:=by omega
  rcases this with q|q<;>rw[q]
  ·exact⟨_,Jq2,by decide,by decide⟩
  ·exact⟨_,Jq3,by decide,by decide⟩
 refine⟨_,em,?_⟩
 simp! [true_and]
 refine⟨hm1,?_⟩
 have u0:=Int.emod_nonneg (x0/4) (b:=md) (by omega)
 have u1:=Int.emod_lt_of_pos (x0/4) hm1
 generalize hu:1+x0/4%md=unit
 have hu1:1<=unit:=by omega
 have hu2:unit<=10^15:=by rw[t15];omega
 generalize [L3.IO.lst [IV.int 3,IV.int 1000000000000000]]=h1
 generalize hcs:(ns.take 7).drop 2=cs
 have lc:cs.length<=5:=by rw[<- hcs];simp;omega
 have ec:cutI (ns.map IV.int) (some 2) (some 7)=cs.map IV.int:=by
  rw[show(some (2:Int))=some ((2:Nat):Int) from rfl,show(some (7:Int))=some ((7:Nat):Int) from rfl,Jz8,<-List.map_take,<-List.map_drop,hcs]
 simp! [Jsz,ec]
 have gC:(h1++[L3.IO.lst (cs.map IV.int)])[h1.length]?=some (.lst (cs.map IV.int)):=grown
 generalize h1.length=C at gC
 generalize h1++[L3.IO.lst (cs.map IV.int)]=h2 at gC
 simp! [Js0]
 have X:=@compF h2 h2 (iAny (eVar 3)) (Jgg 15) [3,2] [some (.rol (ns.map IV.int)),some (.int x0),some (.int unit),some (.ref C),none,none,none,none,none,none,none,none,none,none,none,none] (cs.map IV.int) (λ h'=>h'[C]?=some (.lst (cs.map IV.int))) (λ y=>∃d,F5 unit (d,0)/\y=t4 d)
  (by simp! [Jca,gC]) (by rw[List.length_map];omega) (λ h3 q=>q _ _ gC) (by
   intro x hx h3 q _
   obtain⟨c,hc,rfl⟩:=List.mem_map.mp hx
   have pos:=List.length_pos_of_mem hc
   simp only[List.map_cons,List.map_nil,List.getElem?_cons_succ,List.getElem?_cons_zero,Option.join_some]
   simp! [Jgg,Jjt,q _ _ gC,List.length_map]
   exact Jxw (k:=13) hu1 hu2 pos lc)
 generalize Jaa (iAny (eVar 3)) 1 [3,2] (gNm 0) Jaw (Jgg 15) [some (.rol (ns.map IV.int)),some (.int x0),some (.int unit),some (.ref C),none,none,none,none,none,none,none,none,none,none,none,none] h2=r at X ⊢
 obtain⟨v,h3,ev,rfl,ys,gS,ly,_,dS⟩:=X
 rw[ev,Jhh]
 clear ev
 rw[List.length_map] at ly
 obtain⟨ds,rfl,hP⟩:=Jzg (unit:=unit) ys 0 λ y hy=>by
  obtain⟨i,hi,rfl⟩:=List.mem_iff_getElem.mp hy
  exact dS i _ _ (List.getElem?_eq_getElem (show i<(cs.map IV.int).length by rw[List.length_map];omega)) (List.getElem?_eq_getElem hi)
 rw[List.length_map] at ly
 have hP:∀i d,ds[i]?=some d->F5 unit (d,0)/\d.name=nmv i:=λ i r e=>by have:=hP i r e;rwa [Nat.zero_add] at this
 have hf':∀d∈ds,F5 unit (d,0):=λ r hr=>by
  obtain⟨i,hi⟩:=List.mem_iff_getElem?.mp hr
  exact(hP i r hi).1
 have em:(ds.map λ d=>((d,0):WD×Int)).map (·.1)=ds:=by rw[List.map_map];exact List.map_id ds
 have hf2:∀r∈ds.map λ d=>((d,0):WD×Int),F5 unit r:=λ r hr=>by
  obtain⟨d,hd,rfl⟩:=List.mem_map.mp hr
  exact hf' d hd
 have gg:=gaps5 hu1 hu2 hf2
 have cw:=J21 hu1 hf2 (by rw[List.length_map];omega)
 rw[em] at gg cw
 have lr:ds.length<=5:=by omega
 have ok:Ok52 ds:=⟨lr,λ d hd=>by
  have f:=hf' d hd
  exact⟨by have:=f.g1;dsimp only at this;omega,f.d1,f.t1,f.t2⟩⟩
 have bd:∀d∈ds,1<=d.gap/\d.gap<=9000000000000000:=λ d hd=>by
  have f1:=(hf' d hd).g1
  have f2:=(hf' d hd).g2
  dsimp only at f1 f2
  rw[t15] at hu2
  omega
 have hm:∀d∈ds,d.gap.natAbs<2^64:=λ d hd=>by
  have:=bd d hd
  omega
 generalize List.length h2=S at gS
 refine J01 (k:=9) gS lr hu1 hP λ rs vs g a b c d e f er h6 w=>?_
 simp! [Jol]
 have ww:=w.w
 rw[er] at ww
 refine WR.mono (Jtl (k:=12) Jp ww (J09 lr hP) (by omega) (λ d hd=>⟨(gg.1 d hd).1,(gg.1 d hd).2.1⟩) cw) ?_
 rintro _ h4 ⟨rfl,g4,rfl⟩
 have x4:Ex (h3++L3.IO.lst vs::g) (h3++L3.IO.lst vs::g++L3.IO.ins "Duty" (dfs vs)::g4):=.cons _ _ _
 have gD:(h3++L3.IO.lst vs::g++L3.IO.ins "Duty" (dfs vs)::g4)[(h3++L3.IO.lst vs::g).length]?=some (.ins "Duty" (dfs vs)):=Jp
 have gS4:=x4.get ((Ex.cons h3 (L3.IO.lst vs) g).get gS)
 have w4:=w.kp x4.kp
 refine⟨rfl,?_⟩
 generalize (h3++L3.IO.lst vs::g).length=D at gD
 generalize h3++L3.IO.lst vs::g++L3.IO.ins "Duty" (dfs vs)::g4=h4 at gD gS4 w4
 simp! [Js3,Js9 ns 1 (by decide)]
 refine WR.mono (J0g (k:=12) gS4 lr gg.1 λ d hd=>⟨⟨(hf' d hd).d1,Int.le_trans (hf' d hd).d2 (bd d hd).2⟩,bd d hd⟩) ?_
 rintro _ h5 ⟨x5,i,zs,rfl,gi,lz⟩
 have ec2:cutI (zs.map IV.int) none (some 2)=(zs.take 2).map IV.int:=by rw[show(some (2:Int))=some ((2:Nat):Int) from rfl,Jp7,List.map_take]
 simp! [Js4]
 rw[Jv3]
 refine⟨_,gi,?_⟩
 rw[ec2]
 simp! [Jvh,grow gi,grown,Jca,List.length_map]
 refine⟨by rw[List.length_take];omega,?_⟩
 rw[<- List.map_append]
 generalize zs++zs.take 2=us
 have x6:Ex h5 (h5++[L3.IO.lst ((zs.take 2).map IV.int)]++[L3.IO.lst (us.map IV.int)]):=(Ex.one _ _).trans (.one _ _)
 have gW:(h5++[L3.IO.lst ((zs.take 2).map IV.int)]++[L3.IO.lst (us.map IV.int)])[(h5++[L3.IO.lst ((zs.take 2).map IV.int)]).length]?=some (.lst (us.map IV.int)):=grown
 generalize (h5++[L3.IO.lst ((zs.take 2).map IV.int)]).length=W at gW
 generalize h5++[L3.IO.lst ((zs.take 2).map IV.int)]++[L3.IO.lst (us.map IV.int)]=h6' at x6 gW
 have x46:=x5.trans x6
 have gD6:=x46.get gD
 have gS6:=x46.get gS4
 have w6:=w4.kp x46.kp
 refine Jao (λ n σ h'=>Ex h6' h'/\∃z,σ=[some (.rol (ns.map IV.int)),some (.int x0),some (.int unit),some (.ref C),some (.ref S),some (.ref h3.length),some (.bl (!(hld rs).isEmpty)),a,b,c,d,e,f,some (.ref D),some (.ref i),z]) (λ _ _ _ z=>z.1.get gW) ?_ ?_ ⟨.refl _,none,rfl⟩
 ·rintro n hn _ h7 ⟨x7,z,rfl⟩
  rw[List.getElem_map]
  generalize us[n]'(by simpa using hn)=s
  have R:=Jx0 (k:=7) (s:=s) (x7.get gD6) (w6.kp x7.kp) h6 (by rw[er];exact ok) (by rw[er];exact gg.1) (by rw[er];exact hm)
  rw[er] at R
  simp! [Jqf,J0b (k:=13) (x7.get gS6) ok gg.1]
  refine WR.mono R ?_
  rintro _ h8 ⟨rfl,x8⟩
  simp! [true_and]
  exact⟨x7.trans x8,_,rfl⟩
 ·rintro _ _ ⟨_,z,rfl⟩
  simp! [Jp2]
end
end LW
end
namespace LW
open PySem L2 L3 L4
section
variable {K:W.Frag}{h:Heap}{mg:Str->Option Value}{a:Addr}{oc kV dc pm cd ct:Value}{od an:Option Addr}{sl:Array (Option Value)}
theorem Jpc:FnB "is_whole" "is_whole" Jew:=⟨scOk.of (by decide +kernel),rfl,rfl,λ _ _ _ _ _ _=>len1 (λ _=>rfl)⟩
theorem Jh9:FnB "is_whole_from" "is_whole_from" Jai:=⟨scOk.of (by decide +kernel),rfl,rfl,λ _ _ _ _ _ _=>len2 (λ _ _=>rfl)⟩
theorem Jnx:FnB "rounds_up" "rounds_up" Jc6:=⟨scOk.of (by decide +kernel),rfl,rfl,λ _ _ _ _ _ _=>len2 (λ _ _=>rfl)⟩
theorem Jr9:FnB "is_name" "is_name" Jgl:=⟨scOk.of (by decide +kernel),rfl,rfl,λ _ _ _ _ _ _=>len1 (λ _=>rfl)⟩
theorem Jr8:FnB "is_hold" "is_hold" Jgk:=⟨scOk.of (by decide +kernel),rfl,rfl,λ _ _ _ _ _ _=>len2 (λ _ _=>rfl)⟩
theorem Jnu:FnB "lie_apart" "lie_apart" Jc3:=⟨scOk.of (by decide +kernel),rfl,rfl,λ _ _ _ _ _ _=>len2 (λ _ _=>rfl)⟩
theorem Jsb:FnB "lies_in" "lies_in" Jgn:=⟨scOk.of (by decide +kernel),rfl,rfl,λ _ _ _ _ _ _=>len2 (λ _ _=>rfl)⟩
theorem Jkd:FnB "go_together" "go_together" Ja8:=⟨scOk.of (by decide +kernel),rfl,rfl,λ _ _ _ _ _ _=>len2 (λ _ _=>rfl)⟩
theorem Jgz:FnB "all_go_together" "all_go_together" J4:=⟨scOk.of (by decide +kernel),rfl,rfl,λ _ _ _ _ _ _=>len1 (λ _=>rfl)⟩
theorem Jnv:FnB "own_holds" "own_holds" Jc4:=⟨scOk.of (by decide +kernel),rfl,rfl,λ _ _ _ _ _ _=>len2 (λ _ _=>rfl)⟩
theorem Jsc:FnB "own_due" "own_due" Jgo:=⟨scOk.of (by decide +kernel),rfl,rfl,λ _ _ _ _ _ _=>len2 (λ _ _=>rfl)⟩
theorem Jnr:FnScope Jm.N Jm.ps (Jk Jm.st):=scOk.of (by decide +kernel)
theorem Jm5 {C:Addr}{T:Addr}{ox:Value}{oy:Option Addr}{nx:Nat}{sx:Array (Option Value)}{tk1:Tok}(ha:W.findIn K (.ref C) "__init__"=some (some (.ref a))) (hi:W.isFn K (.ref a)=true) (hl:K.lookup a=some ⟨oc,od,.func (W.fnOf "__init__" "Work.__init__" (Jan Jm.st) (Jy Jm.st) (Jk Jm.st) (.ref T) kV dc pm an cd ct),sl⟩) (hc:W.codeIn K cd "Work.__init__"=true) (hk:W.keepIn K (.ref a)=true) (hd:K.lookup T=some ⟨ox,oy,.seq #[.none,.int 0 tk1,.none] nx,sx⟩) (hm:W.makesIn K C=true) (hq:W.keepIn K (.ref C)=true):∃fa fd,Mk K C fa/\DefOk K "__init__" Jm fa fd :=
 ⟨a,_,⟨hm,ha,hi,hq⟩,⟨⟨_,⟨oc,od,kV,dc,pm,an,cd,ct,sl,rfl,hl,hc⟩,hk⟩,Jnr,(by intro j hj;rcases upto3 j (show j<=3 from hj) with rfl|rfl|rfl|rfl;exact⟨[.none,.int 0 tk1,.none],λ s us Y hl=>len4 (P:=λ us=>BindsTo s _ ⟨us,[]⟩ (Jm.ps.zip (us++[.none,.int 0 tk1,.none]))) (λ _ _ _ _=>.of_defaults rfl (Y T _ hd) rfl rfl rfl) us (show us.length=4 by rw[List.length_append] at hl;exact Nat.add_right_cancel (m:=3) hl),rfl,[V.non,V.int 0,V.non],.cons rfl (.cons ⟨_,rfl⟩ (.cons rfl (.nil))),λ _ _=>⟨_,_,rfl,rfl,⟨_,_,rfl,rfl,⟨_,_,rfl,rfl,rfl⟩⟩⟩⟩;exact⟨[.int 0 tk1,.none],λ s us Y hl=>len5 (P:=λ us=>BindsTo s _ ⟨us,[]⟩ (Jm.ps.zip (us++[.int 0 tk1,.none]))) (λ _ _ _ _ _=>.of_defaults rfl (Y T _ hd) rfl rfl rfl) us (show us.length=5 by rw[List.length_append] at hl;exact Nat.add_right_cancel (m:=2) hl),rfl,[V.int 0,V.non],.cons ⟨_,rfl⟩ (.cons rfl (.nil)),λ _ _=>⟨_,_,rfl,rfl,⟨_,_,rfl,rfl,rfl⟩⟩⟩;exact⟨[.none],λ s us Y hl=>len6 (P:=λ us=>BindsTo s _ ⟨us,[]⟩ (Jm.ps.zip (us++[.none]))) (λ _ _ _ _ _ _=>.of_defaults rfl (Y T _ hd) rfl rfl rfl) us (show us.length=6 by rw[List.length_append] at hl;exact Nat.add_right_cancel (m:=1) hl),rfl,[V.non],.cons rfl (.nil),λ _ _=>⟨_,_,rfl,rfl,rfl⟩⟩;exact⟨[],λ s us Y hl=>len7 (P:=λ us=>BindsTo s _ ⟨us,[]⟩ (Jm.ps.zip (us++[]))) (λ _ _ _ _ _ _ _=>.of_defaults rfl (Y T _ hd) rfl rfl rfl) us (show us.length=7 by rw[List.length_append] at hl;exact Nat.add_right_cancel (m:=0) hl),rfl,[],.nil,λ _ _=>rfl⟩)⟩⟩
theorem Jnq:FnB "held" "Work.held" Jc0:=⟨scOk.of (by decide +kernel),rfl,rfl,λ _ _ _ _ _ _=>len1 (λ _=>rfl)⟩
theorem Jpa:FnB "ceilings" "ceilings" Jeu:=⟨scOk.of (by decide +kernel),rfl,rfl,λ _ _ _ _ _ _=>len1 (λ _=>rfl)⟩
theorem Jjn:FnB "refuse_holds" "refuse_holds" Jaq:=⟨scOk.of (by decide +kernel),rfl,rfl,λ _ _ _ _ _ _=>len1 (λ _=>rfl)⟩
theorem Jlm:FnB "comings_in" "comings_in" Jbs:=⟨scOk.of (by decide +kernel),rfl,rfl,λ _ _ _ _ _ _=>len2 (λ _ _=>rfl)⟩
theorem Jr7:FnB "dues_in" "dues_in" Jgj:=⟨scOk.of (by decide +kernel),rfl,rfl,λ _ _ _ _ _ _=>len2 (λ _ _=>rfl)⟩
theorem Juz:FnB "demand" "demand" Jif:=⟨scOk.of (by decide +kernel),rfl,rfl,λ _ _ _ _ _ _=>len2 (λ _ _=>rfl)⟩
theorem Jx3:FnB "asked" "asked" Jk4:=⟨scOk.of (by decide +kernel),rfl,rfl,λ _ _ _ _ _ _=>len2 (λ _ _=>rfl)⟩
theorem Jr6:FnB "crowded" "crowded" Jgi:=⟨scOk.of (by decide +kernel),rfl,rfl,λ _ _ _ _ _ _=>len2 (λ _ _=>rfl)⟩
theorem Jhd:FnB "refuse_crowded" "refuse_crowded" Jac:=⟨scOk.of (by decide +kernel),rfl,rfl,λ _ _ _ _ _ _=>len2 (λ _ _=>rfl)⟩
theorem Jx4:FnB "bends" "bends" Jk5:=⟨scOk.of (by decide +kernel),rfl,rfl,λ _ _ _ _ _ _=>len2 (λ _ _=>rfl)⟩
theorem Jg0:FnB "first_overdrawn" "first_overdrawn" J6:=⟨scOk.of (by decide +kernel),rfl,rfl,λ _ _ _ _ _ _=>len2 (λ _ _=>rfl)⟩
theorem Jkh:FnB "lets_by_due" "lets_by_due" Jbc:=⟨scOk.of (by decide +kernel),rfl,rfl,λ _ _ _ _ _ _=>len2 (λ _ _=>rfl)⟩
theorem Jnw:FnB "own_works" "own_works" Jc5:=⟨scOk.of (by decide +kernel),rfl,rfl,λ _ _ _ _ _ _=>len1 (λ _=>rfl)⟩
theorem Jpb:FnB "crowd_of" "crowd_of" Jev:=⟨scOk.of (by decide +kernel),rfl,rfl,λ _ _ _ _ _ _=>len1 (λ _=>rfl)⟩
theorem Jnn:FnB "__init__" "Duty.__init__" Jcx:=⟨scOk.of (by decide +kernel),rfl,rfl,λ _ _ _ _ _ _=>len2 (λ _ _=>rfl)⟩
theorem Jno:FnB "size" "Duty.size" Jcy:=⟨scOk.of (by decide +kernel),rfl,rfl,λ _ _ _ _ _ _=>len1 (λ _=>rfl)⟩
theorem Jnp:FnB "work" "Duty.work" Jcz:=⟨scOk.of (by decide +kernel),rfl,rfl,λ _ _ _ _ _ _=>len2 (λ _ _=>rfl)⟩
theorem Jll:FnB "crowd" "Duty.crowd" Jd8:=⟨scOk.of (by decide +kernel),rfl,rfl,λ _ _ _ _ _ _=>len1 (λ _=>rfl)⟩
theorem Jke:FnB "_law_cell_at" "_law_cell_at" Ja9:=⟨scOk.of (by decide +kernel),rfl,rfl,λ _ _ _ _ _ _=>len2 (λ _ _=>rfl)⟩
theorem Jln:FnB "_law_stream" "_law_stream" Jbt:=⟨scOk.of (by decide +kernel),rfl,rfl,λ _ _ _ _ _ _=>len2 (λ _ _=>rfl)⟩
theorem Jns:FnB "_law_plain" "_law_plain" Jc1:=⟨scOk.of (by decide +kernel),rfl,rfl,λ _ _ _ _ _ _=>len3 (λ _ _ _=>rfl)⟩
theorem Jpe:FnB "_law_sums" "_law_sums" Jey:=⟨scOk.of (by decide +kernel),rfl,rfl,λ _ _ _ _ _ _=>len2 (λ _ _=>rfl)⟩
theorem Jkf:FnB "_law_fullest" "_law_fullest" Jba:=⟨scOk.of (by decide +kernel),rfl,rfl,λ _ _ _ _ _ _=>len2 (λ _ _=>rfl)⟩
theorem Jpd:FnB "_law_fars" "_law_fars" Jex:=⟨scOk.of (by decide +kernel),rfl,rfl,λ _ _ _ _ _ _=>len2 (λ _ _=>rfl)⟩
theorem Jkg:FnB "_law_is_full" "_law_is_full" Jbb:=⟨scOk.of (by decide +kernel),rfl,rfl,λ _ _ _ _ _ _=>len2 (λ _ _=>rfl)⟩
theorem Jsa:FnB "_law_due" "_law_due" Jgm:=⟨scOk.of (by decide +kernel),rfl,rfl,λ _ _ _ _ _ _=>len3 (λ _ _ _=>rfl)⟩
theorem Jnt:FnB "_law_right" "_law_right" Jc2:=⟨scOk.of (by decide +kernel),rfl,rfl,λ _ _ _ _ _ _=>len3 (λ _ _ _=>rfl)⟩
theorem J43:FnScope Ji5.N Ji5.ps (Jk Ji5.st):=scOk.of (by decide +kernel)
theorem J4b (X:K.In h) (G:h.Ns mainGlobals mg) (ha:W.nsIn K mainGlobals "law"=some (some (.ref a))) (hl:K.lookup a=some ⟨oc,od,.func (W.fnOf "law" "law" (Jan Ji5.st) (Jy Ji5.st) (Jk Ji5.st) .none kV dc pm an cd ct),sl⟩) (hc:W.codeIn K cd "law"=true) (hk:W.keepIn K (.ref a)=true):∃fa fd,mg "law"=some (.ref fa)/\DefOk K "law" Ji5 fa fd/\∀(s:Shared) (v:Value),BindsTo s fd ⟨[v],[]⟩ [("_law_script",v)] :=
 ⟨a,_,W.mg_of X G ha,Jyx (d:=Ji5) hl hc hk J43 rfl (len1 (λ _=>rfl)),λ s v=>.of_eq rfl⟩
theorem Jqg {C:Addr}(pg:W.plainGet K C Str.empty=true) (hd:W.hasDictIn K C=true) (po:W.plainOver K C=true) (sa:W.findIn K (.ref C) "__setattr__"=some (some (.builtin "object.__setattr__"))) (h1:W.findIn K (.ref C) "__class__"=some (some (.builtin "object.__class__"))) (h2:W.specialIn K (.builtin "object.__class__") "__get__"=some (some (.builtin "getset_descriptor.__get__"))) (h3:W.takesIn K (.builtin "object.__class__")=some true) (h4:W.mroIn K C (.type "object")=some true) (n0:W.findIn K (.ref C) "append"=some none) (n1:W.findIn K (.ref C) "due"=some none) (n2:W.findIn K (.ref C) "extend"=some none) (n3:W.findIn K (.ref C) "gap"=some none) (n4:W.findIn K (.ref C) "hold_tuples"=some none) (n5:W.findIn K (.ref C) "late"=some none) (n6:W.findIn K (.ref C) "length"=some none) (n7:W.findIn K (.ref C) "name"=some none) (n8:W.findIn K (.ref C) "setdefault"=some none) (n9:W.findIn K (.ref C) "works"=some none):ClsI K C/\All (λ f=>Jfp K C f) T.flds :=
 ⟨⟨⟨pg,hd,po,sa⟩,h1,h2,h3,h4⟩,.cons n0 (.cons n1 (.cons n2 (.cons n3 (.cons n4 (.cons n5 (.cons n6 (.cons n7 (.cons n8 (.cons n9 (.nil))))))))))⟩
theorem Jzd {C:Addr}(ga:W.findIn K (.ref C) "__getattribute__"=some (some (.builtin "BaseException.__getattribute__"))) (mb:W.mroIn K C (.type "BaseException")=some true) (gn:W.findIn K (.ref C) "__getattr__"=some none) (ca:W.findIn K (.ref C) "__class__"=some (some (.builtin "object.__class__"))) (mo:W.mroIn K C (.type "object")=some true) (hd:W.hasDictIn K C=true):ExI K C:=⟨ga,mb,gn,ca,mo,hd⟩
theorem fin {prog:Program}{w:World}{fa:Addr}(X:K.In h) (G:h.Ns mainGlobals mg) (hfa:mg "law"=some (.ref fa)){C_Work:Addr}{C_Duty:Addr}{C_HoldsThings:Addr}{C_TooMany:Addr}{C_DutyError:Addr}{tk_MOST_LETTERS:Tok}{tk_MOST_HOLDS:Tok}{tk_THING:Tok}{tk_START:Tok}{tk_END:Tok}{tk_MOST_CROWDED:Tok}{tk_MOST_WORKS:Tok}{tk_MOST_CROWD:Tok}
  (aX_HoldsThings:W.nsIn K mainGlobals "HoldsThings"=some (some (.ref C_HoldsThings)))
  (aX_TooMany:W.nsIn K mainGlobals "TooMany"=some (some (.ref C_TooMany)))
  (aX_DutyError:W.nsIn K mainGlobals "DutyError"=some (some (.ref C_DutyError)))
  (xc_HoldsThings:W.excIn K C_HoldsThings [.type "ValueError",.type "Exception",.type "BaseException",.type "object"] "ValueError.__new__"=true)
  (xc_TooMany:W.excIn K C_TooMany [.type "ValueError",.type "Exception",.type "BaseException",.type "object"] "ValueError.__new__"=true)
  (ei_HoldsThings:ExI K C_HoldsThings)
  (ei_TooMany:ExI K C_TooMany)
  (kk_HoldsThings:kits K (.ref C_HoldsThings) [(C_HoldsThings,true),(C_TooMany,false)]=true)
  (kk_DutyError:kits K (.ref C_DutyError) [(C_HoldsThings,true),(C_TooMany,true)]=true)
  (kk_TooMany:kits K (.ref C_TooMany) [(C_HoldsThings,false),(C_TooMany,true)]=true)
  (aC_Work:W.nsIn K mainGlobals "Work"=some (some (.ref C_Work)))
  (aC_Duty:W.nsIn K mainGlobals "Duty"=some (some (.ref C_Duty)))
  (f_is_whole:∃fa fd,mg "is_whole"=some (.ref fa)/\DefOk K "is_whole" Jew fa fd)
  (f_is_whole_from:∃fa fd,mg "is_whole_from"=some (.ref fa)/\DefOk K "is_whole_from" Jai fa fd)
  (f_rounds_up:∃fa fd,mg "rounds_up"=some (.ref fa)/\DefOk K "rounds_up" Jc6 fa fd)
  (f_is_name:∃fa fd,mg "is_name"=some (.ref fa)/\DefOk K "is_name" Jgl fa fd)
  (f_is_hold:∃fa fd,mg "is_hold"=some (.ref fa)/\DefOk K "is_hold" Jgk fa fd)
  (f_lie_apart:∃fa fd,mg "lie_apart"=some (.ref fa)/\DefOk K "lie_apart" Jc3 fa fd)
  (f_lies_in:∃fa fd,mg "lies_in"=some (.ref fa)/\DefOk K "lies_in" Jgn fa fd)
  (f_go_together:∃fa fd,mg "go_together"=some (.ref fa)/\DefOk K "go_together" Ja8 fa fd)
  (f_all_go_together:∃fa fd,mg "all_go_together"=some (.ref fa)/\DefOk K "all_go_together" J4 fa fd)
  (f_own_holds:∃fa fd,mg "own_holds"=some (.ref fa)/\DefOk K "own_holds" Jc4 fa fd)
  (f_own_due:∃fa fd,mg "own_due"=some (.ref fa)/\DefOk K "own_due" Jgo fa fd)
  (f_ceilings:∃fa fd,mg "ceilings"=some (.ref fa)/\DefOk K "ceilings" Jeu fa fd)
  (f_refuse_holds:∃fa fd,mg "refuse_holds"=some (.ref fa)/\DefOk K "refuse_holds" Jaq fa fd)
  (f_comings_in:∃fa fd,mg "comings_in"=some (.ref fa)/\DefOk K "comings_in" Jbs fa fd)
  (f_dues_in:∃fa fd,mg "dues_in"=some (.ref fa)/\DefOk K "dues_in" Jgj fa fd)
  (f_demand:∃fa fd,mg "demand"=some (.ref fa)/\DefOk K "demand" Jif fa fd)
  (f_asked:∃fa fd,mg "asked"=some (.ref fa)/\DefOk K "asked" Jk4 fa fd)
  (f_crowded:∃fa fd,mg "crowded"=some (.ref fa)/\DefOk K "crowded" Jgi fa fd)
  (f_refuse_crowded:∃fa fd,mg "refuse_crowded"=some (.ref fa)/\DefOk K "refuse_crowded" Jac fa fd)
  (f_bends:∃fa fd,mg "bends"=some (.ref fa)/\DefOk K "bends" Jk5 fa fd)
  (f_first_overdrawn:∃fa fd,mg "first_overdrawn"=some (.ref fa)/\DefOk K "first_overdrawn" J6 fa fd)
  (f_lets_by_due:∃fa fd,mg "lets_by_due"=some (.ref fa)/\DefOk K "lets_by_due" Jbc fa fd)
  (f_own_works:∃fa fd,mg "own_works"=some (.ref fa)/\DefOk K "own_works" Jc5 fa fd)
  (f_crowd_of:∃fa fd,mg "crowd_of"=some (.ref fa)/\DefOk K "crowd_of" Jev fa fd)
  (f_law_cell_at:∃fa fd,mg "_law_cell_at"=some (.ref fa)/\DefOk K "_law_cell_at" Ja9 fa fd)
  (f_law_stream:∃fa fd,mg "_law_stream"=some (.ref fa)/\DefOk K "_law_stream" Jbt fa fd)
  (f_law_plain:∃fa fd,mg "_law_plain"=some (.ref fa)/\DefOk K "_law_plain" Jc1 fa fd)
  (f_law_sums:∃fa fd,mg "_law_sums"=some (.ref fa)/\DefOk K "_law_sums" Jey fa fd)
  (f_law_fullest:∃fa fd,mg "_law_fullest"=some (.ref fa)/\DefOk K "_law_fullest" Jba fa fd)
  (f_law_fars:∃fa fd,mg "_law_fars"=some (.ref fa)/\DefOk K "_law_fars" Jex fa fd)
  (f_law_is_full:∃fa fd,mg "_law_is_full"=some (.ref fa)/\DefOk K "_law_is_full" Jbb fa fd)
  (f_law_due:∃fa fd,mg "_law_due"=some (.ref fa)/\DefOk K "_law_due" Jgm fa fd)
  (f_law_right:∃fa fd,mg "_law_right"=some (.ref fa)/\DefOk K "_law_right" Jc2 fa fd)
  (f_law:∃fa fd,mg "law"=some (.ref fa)/\DefOk K "law" Ji5 fa fd/\∀(s:Shared) (v:Value),BindsTo s fd ⟨[v],[]⟩ [("_law_script",v)])
  (i_Work:∃fa fd,Mk K C_Work fa/\DefOk K "__init__" Jm fa fd)
  (m_Work_held:∃fa fd,Meth K C_Work "held" fa/\DefOk K "held" Jc0 fa fd)
  (c_Work:ClsI K C_Work/\All (λ f=>Jfp K C_Work f) T.flds)
  (i_Duty:∃fa fd,Mk K C_Duty fa/\DefOk K "__init__" Jcx fa fd)
  (m_Duty_size:∃fa fd,Meth K C_Duty "size" fa/\DefOk K "size" Jcy fa fd)
  (m_Duty_work:∃fa fd,Meth K C_Duty "work" fa/\DefOk K "work" Jcz fa fd)
  (m_Duty_crowd:∃fa fd,Meth K C_Duty "crowd" fa/\DefOk K "crowd" Jd8 fa fd)
  (c_Duty:ClsI K C_Duty/\All (λ f=>Jfp K C_Duty f) T.flds)
  (g_MOST_LETTERS:W.nsIn K mainGlobals "MOST_LETTERS"=some (some (.int 8 tk_MOST_LETTERS)))
  (g_MOST_HOLDS:W.nsIn K mainGlobals "MOST_HOLDS"=some (some (.int 6 tk_MOST_HOLDS)))
  (g_THING:W.nsIn K mainGlobals "THING"=some (some (.int 0 tk_THING)))
  (g_START:W.nsIn K mainGlobals "START"=some (some (.int 1 tk_START)))
  (g_END:W.nsIn K mainGlobals "END"=some (some (.int 2 tk_END)))
  (g_MOST_CROWDED:W.nsIn K mainGlobals "MOST_CROWDED"=some (some (.int 200 tk_MOST_CROWDED)))
  (g_MOST_WORKS:W.nsIn K mainGlobals "MOST_WORKS"=some (some (.int 12 tk_MOST_WORKS)))
  (g_MOST_CROWD:W.nsIn K mainGlobals "MOST_CROWD"=some (some (.int 80 tk_MOST_CROWD)))
  (k_Work_NoneType:W.kitOne K (.type "NoneType") (.ref C_Work)=some false)
  (k_Work_bool:W.kitOne K (.type "bool") (.ref C_Work)=some false)
  (k_Work_int:W.kitOne K (.type "int") (.ref C_Work)=some false)
  (k_Work_str:W.kitOne K (.type "str") (.ref C_Work)=some false)
  (k_Work_list:W.kitOne K (.type "list") (.ref C_Work)=some false)
  (k_Work_tuple:W.kitOne K (.type "tuple") (.ref C_Work)=some false)
  (k_Work_dict:W.kitOne K (.type "dict") (.ref C_Work)=some false)
  (k_Work_Work:W.kitOne K (.ref C_Work) (.ref C_Work)=some (memS "Work" ["Work"]))
  (k_Work_Duty:W.kitOne K (.ref C_Duty) (.ref C_Work)=some (memS "Duty" ["Work"]))
  (z_all:W.nsIn K mainGlobals "all"=some none)
  (z_bool:W.nsIn K mainGlobals "bool"=some none)
  (z_enumerate:W.nsIn K mainGlobals "enumerate"=some none)
  (z_int:W.nsIn K mainGlobals "int"=some none)
  (z_isinstance:W.nsIn K mainGlobals "isinstance"=some none)
  (z_len:W.nsIn K mainGlobals "len"=some none)
  (z_list:W.nsIn K mainGlobals "list"=some none)
  (z_max:W.nsIn K mainGlobals "max"=some none)
  (z_range:W.nsIn K mainGlobals "range"=some none)
  (z_set:W.nsIn K mainGlobals "set"=some none)
  (z_sorted:W.nsIn K mainGlobals "sorted"=some none)
  (z_str:W.nsIn K mainGlobals "str"=some none)
  (z_sum:W.nsIn K mainGlobals "sum"=some none)
  (z_tuple:W.nsIn K mainGlobals "tuple"=some none)
  : ∃fd:FuncData,(∀(s:Shared) (v:Value),BindsTo s fd ⟨[v],[]⟩ [("_law_script",v)])/\∀base:Heap,K.In base->base.Ns mainGlobals mg->FnOk prog w K mg base (CXI prog w) 64 fa fd ["_law_script"] (Jsg K "_law_script" (Jog 16)):=by
 obtain⟨fa',fd,hm,ok,hb⟩:=f_law
 have e:=hfa.symm.trans hm
 cases e
 have XA:All (λ p:Str×Addr=>W.nsIn K mainGlobals p.1=some (some (.ref p.2))/\ExI K p.2) [("HoldsThings",C_HoldsThings),("TooMany",C_TooMany)]:=.cons (⟨aX_HoldsThings,ei_HoldsThings⟩) (.cons (⟨aX_TooMany,ei_TooMany⟩) (.nil))
 have O:TabOk (ceOf [("Work",C_Work),("Duty",C_Duty)]) T K mg:=J5a _
  (.cons (f_is_whole) (.cons (f_is_whole_from) (.cons (f_rounds_up) (.cons (f_is_name) (.cons (f_is_hold) (.cons (f_lie_apart) (.cons (f_lies_in) (.cons (f_go_together) (.cons (f_all_go_together) (.cons (f_own_holds) (.cons (f_own_due) (.cons (f_ceilings) (.cons (f_refuse_holds) (.cons (f_comings_in) (.cons (f_dues_in) (.cons (f_demand) (.cons (f_asked) (.cons (f_crowded) (.cons (f_refuse_crowded) (.cons (f_bends) (.cons (f_first_overdrawn) (.cons (f_lets_by_due) (.cons (f_own_works) (.cons (f_crowd_of) (.cons (f_law_cell_at) (.cons (f_law_stream) (.cons (f_law_plain) (.cons (f_law_sums) (.cons (f_law_fullest) (.cons (f_law_fars) (.cons (f_law_is_full) (.cons (f_law_due) (.cons (f_law_right) (.cons (⟨_,_,hm,ok⟩) (.nil)))))))))))))))))))))))))))))))))))
  (.cons ((let ⟨fa,fd,p,q⟩:=i_Work;⟨C_Work,fa,fd,W.mg_of X G aC_Work,by kernel_rfl,p,q⟩)) (.cons ((let ⟨fa,fd,p,q⟩:=i_Duty;⟨C_Duty,fa,fd,W.mg_of X G aC_Duty,by kernel_rfl,p,q⟩)) (.nil)))
  (.cons (⟨C_Work,by kernel_rfl,.cons (m_Work_held) (.nil)⟩) (.cons (⟨C_Duty,by kernel_rfl,.cons (m_Duty_size) (.cons (m_Duty_work) (.cons (m_Duty_crowd) (.nil)))⟩) (.nil)))
  (.cons (⟨_,.int 8,W.mg_of X G g_MOST_LETTERS,⟨tk_MOST_LETTERS,rfl⟩,λ _ _=>rfl⟩) (.cons (⟨_,.int 6,W.mg_of X G g_MOST_HOLDS,⟨tk_MOST_HOLDS,rfl⟩,λ _ _=>rfl⟩) (.cons (⟨_,.int 0,W.mg_of X G g_THING,⟨tk_THING,rfl⟩,λ _ _=>rfl⟩) (.cons (⟨_,.int 1,W.mg_of X G g_START,⟨tk_START,rfl⟩,λ _ _=>rfl⟩) (.cons (⟨_,.int 2,W.mg_of X G g_END,⟨tk_END,rfl⟩,λ _ _=>rfl⟩) (.cons (⟨_,.int 200,W.mg_of X G g_MOST_CROWDED,⟨tk_MOST_CROWDED,rfl⟩,λ _ _=>rfl⟩) (.cons (⟨_,.int 12,W.mg_of X G g_MOST_WORKS,⟨tk_MOST_WORKS,rfl⟩,λ _ _=>rfl⟩) (.cons (⟨_,.int 80,W.mg_of X G g_MOST_CROWD,⟨tk_MOST_CROWD,rfl⟩,λ _ _=>rfl⟩) (.nil)))))))))
  (.cons (c_Work) (.cons (c_Duty) (.nil)))
  (.cons (⟨C_Work,W.mg_of X G aC_Work,k_Work_NoneType,k_Work_bool,k_Work_int,k_Work_str,k_Work_list,k_Work_tuple,k_Work_dict,.cons (k_Work_Work) (.cons (k_Work_Duty) (.nil))⟩) (.nil))
  (.cons (W.mg_none_of X G z_all) (.cons (W.mg_none_of X G z_bool) (.cons (W.mg_none_of X G z_enumerate) (.cons (W.mg_none_of X G z_int) (.cons (W.mg_none_of X G z_isinstance) (.cons (W.mg_none_of X G z_len) (.cons (W.mg_none_of X G z_list) (.cons (W.mg_none_of X G z_max) (.cons (W.mg_none_of X G z_range) (.cons (W.mg_none_of X G z_set) (.cons (W.mg_none_of X G z_sorted) (.cons (W.mg_none_of X G z_str) (.cons (W.mg_none_of X G z_sum) (.cons (W.mg_none_of X G z_tuple) (.nil)))))))))))))))
  (.cons (⟨C_HoldsThings,W.mg_of X G aX_HoldsThings,aX_HoldsThings,xc_HoldsThings⟩) (.cons (⟨C_TooMany,W.mg_of X G aX_TooMany,aX_TooMany,xc_TooMany⟩) (.nil)))
  (.cons (⟨(.ref C_HoldsThings),.inl (W.mg_of X G aX_HoldsThings),Jys (bs:=[true,false]) XA rfl kk_HoldsThings⟩) (.cons (⟨(.ref C_DutyError),.inl (W.mg_of X G aX_DutyError),Jys (bs:=[true,true]) XA rfl kk_DutyError⟩) (.cons (⟨(.ref C_TooMany),.inl (W.mg_of X G aX_TooMany),Jys (bs:=[false,true]) XA rfl kk_TooMany⟩) (.nil))))
 exact⟨fd,hb,λ base _ _=>J0w O (λ h=>absurd rfl h) 16 rfl ok⟩
end
end LW
open PySem L2
theorem LW.walk {l:W.OpenLaw}{q:Program}{loose:List Str}{XP:(Str->Option Value)->Heap->Prop}{YP:World->Heap->Prop}{d:DefRec}{K:Params->W.Frag}(hn:l.most=some 63) (hdf:d.params.defaults=[])
  (hY:∀(w:World) (h:Heap),YP w h->(K w.params).In h)
  (F:∀(w:World) (mg:Str->Option Value) (fa:Addr) (h:Heap),(K w.params).In h->h.Ns mainGlobals mg->mg d.name=some (.ref fa) ->
   ∃fd:FuncData,(∀(s:Shared) (u:Value),BindsTo s fd ⟨[u],[]⟩ [("_law_script",u)])/\∀base:Heap,(K w.params).In base->base.Ns mainGlobals mg->FnOk l.prog w (K w.params) mg base (L3.CXI l.prog w) 64 fa fd ["_law_script"] (L3.Jsg (K w.params) "_law_script" (LW.Jog 16))) :
  W.WalkO q loose XP YP l.row.toRowW d [] (λ f vs=>PySem.call f vs) :=
 L2.J13 (n:=63) (k:=64) (x:="_law_script") (CX:=λ w=>L3.CXI l.prog w) (sp:=λ w=>L3.Jsg (K w.params) "_law_script" (LW.Jog 16)) hn (by decide) hdf ⟨rfl,by decide,by decide⟩ hY F (λ _ _ a ns hl hO hS=>L3.Jue hO hS (LW.Jxi ns hl)) λ _ _ _ _ _ z=>z.elim λ _ y=>y.2.2.2.2
open PySem PySem.W PyProof.Rows
structure PySem.W.Fast:Prop where (tw15469787427271955894 tw10100384632890059857 tw7395444829088626438 tw16623271122193317242 tw7143316581950837391 tw6931800267330645752 tw16639584777277566615 tw13844566467898250280 tw4560635884051767147 tw1439656747171433672
tw16535261238840267782 tw13282528055868458002 tw18086881372299557819 tw18015158405596219098 tw7960135883413244803 tw3042262536380722147 tw6254261020299345204 tw17584181507376438603 tw15948647532593705277 tw1734568597588298349
tw14928117727169726813 tw10515739598673693856 tw16695229418688825481 tw5184707597163873281 tw16600808270035210646 tw17300171058534884821 tw11803294582469800729 tw2514808276898296049 tw8475187664181884273 tw15624152092904233039
tw16404408442942824370 tw6778609650732296787 tw18220286403386823338 tw623703893631320293 tw9469379124607612375 tw16843576043389345703 tw4519423297839229411 tw13122663852242815108 tw11698913623262518277 tw3461229692508558527
tw6934623346665084839 tw3248637689382070258 tw7076314936197156549 tw6157295833161856256 tw12760574187914790341 tw17710352624859423305 tw13156923042945556184 tw8409980862567493072 tw1099261071275436984 tw13742742095532430267
tw18157966862769962147 tw13641231282881364550 tw11428883844620893900 tw5816480992465941743 tw1556614716206233081 tw1775406915649249636 tw7013944662676505359 tw1946221352362509973 tw6425093474454145276 tw9653016120088312878
tw14674636312245388288 tw12076298805664541169 tw3405747039765478863 tw15050572369214409556 tw2004556949463110407 tw11883032714688510309 tw5475183300315360743 tw13898730609309206350 tw3812937945688516812 tw4092564443005526438
tw14112939479284606081 tw81375405481905832 tw160906780349594841 tw10424703580103414917 tw17891161833455053991 tw9360294721405752888 tw7199039300524089640 tw12511003429864525499 tw5414720428777660125 tw1966719669401782599
tw5776678300674579766 tw17082350753895359701 tw13037611852100689030 tw16427632205211807480 tw13802170470145904040 tw9320418408640284239 tw7745852919856917627 tw11732566269702325415 tw16540220011765192054 tw10436438018647955015
tw13173995200908743060 tw7285610090122239387 tw6811402749672308292 tw15085518047357900185 tw2902744265973341692 tw7243207165839355038 tw3994544888715503804 tw9486053219644348028 tw14833583918786663775 tw18259108798257359394
tw7797923520725361200 tw1714752644890663042 tw193484590124037920 tw3028823619645538949 tw2088779887328169225 tw2978498565170649012 tw593872006349073154 tw13535876037781782206 tw4463059385325728269 tw17208558125295690961
tw18403593796850585508 tw1216438670707476434 tw1318552264139416923 tw9265169324921228995 tw9823309416505944046 tw15037610299706010263 tw5613861597517502870 tw3148198828372850794 tw1731906741455207163 tw718729990355891783
tw5226046644979062519 tw12627164793100184072 tw1175635808043430033 tw13107546583121080907 tw3136788731124544588 tw14475905460535349118 tw1382992548022470370 tw4657019652751737086 tw8026851699735044682 tw17593445924779479989
tw6292676682405455926 tw6894682002049245616 tw12263197672795202153 tw11945122421265292047 tw15581659717922722495 tw11444562289692970097 tw13859734273883514920 tw2957604972296615539 tw6260426929102684970 tw14344527493011034272
tw4542210426385724281 tw7866239699079049466 tw14163059644291012967 tw12218069901969038534 tw9386749291653355884 tw8713042835356185088 tw7780697921152580710 tw11978030311286332742 tw17077738298117697765 tw9141087932174535584
tw13554070589854355495 tw17676101257520011151 tw11328093318234032481 tw15352538415960413265 tw7459491308948672708 tw12406631663599881147 tw7485451926910864583 tw3042017838913798446 tw5800422911290551585 tw6275714170480460578
tw16619865574999739971 tw345479096596886384 tw1425605488032402817 tw12828242335031169965 tw12214722904663461232 tw11858889874736514990:True)
set_option maxRecDepth 100000 in
set_option maxHeartbeats 0 in
theorem PySem.Challenge.cw_dutyproof_k53_fars_holds : PySem.Challenge.rw_dutyproof_k53_fars.Holds := by
 w_on;o_law;k_head;(case hw=>w_witness2)
 k_fill
 refine LW.walk (l:=PySem.Challenge.rw_dutyproof_k53_fars) rfl rfl (λ w h Y=>W.kIn_of Y) ?F
 case F =>
  intro w mg fa h KX G hmg
  refine' LW.fin KX G hmg ?Uqa ?Uqb ?Uqc ?Uqd ?Uqe ?Uqf ?Uqg ?Uqh ?Uqi ?Uqj ?Uqk ?Uql ?Uqm ?Uqn ?Uqo ?Uqp ?Uqq ?Uqr ?Uqs ?Uqt ?Uqu ?Uqv ?Uqw ?Uqx ?Uqy ?Uqz ?Uq0 ?Uq1 ?Uq2 ?Uq3 ?Uq4 ?Uq5 ?Uq6 ?Uq7 ?Uq8 ?Uq9 ?Uqaa ?Uqab ?Uqac ?Uqad ?Uqae ?Uqaf ?Uqag ?Uqah ?Uqai ?Uqaj ?Uqak ?Uqal ?Uqam ?Uqan ?Uqao ?Uqap ?Uqaq ?Uqar ?Uqas ?Uqat ?Uqau ?Uqav ?Uqaw ?Uqax ?Uqay ?Uqaz ?Uqa0 ?Uqa1 ?Uqa2 ?Uqa3 ?Uqa4 ?Uqa5 ?Uqa6 ?Uqa7 ?Uqa8 ?Uqa9 ?Uqba ?Uqbb ?Uqbc ?Uqbd ?Uqbe ?Uqbf ?Uqbg ?Uqbh ?Uqbi ?Uqbj ?Uqbk ?Uqbl ?Uqbm
  (case Uqa=>k_is)
  (case Uqb=>k_is)
  (case Uqc=>k_is)
  (case Uqd=>k_exc)
  (case Uqe=>k_exc)
  (case Uqf=>(refine' LW.Jzd ?vei_HoldsThings_ga ?vei_HoldsThings_mb ?vei_HoldsThings_gn ?vei_HoldsThings_ca ?vei_HoldsThings_mo ?vei_HoldsThings_hd;(case vei_HoldsThings_ga=>k_is);(case vei_HoldsThings_mb=>k_is);(case vei_HoldsThings_gn=>k_is);(case vei_HoldsThings_ca=>k_is);(case vei_HoldsThings_mo=>k_is);(case vei_HoldsThings_hd=>k_is)))
  (case Uqg=>(refine' LW.Jzd ?vei_TooMany_ga ?vei_TooMany_mb ?vei_TooMany_gn ?vei_TooMany_ca ?vei_TooMany_mo ?vei_TooMany_hd;(case vei_TooMany_ga=>k_is);(case vei_TooMany_mb=>k_is);(case vei_TooMany_gn=>k_is);(case vei_TooMany_ca=>k_is);(case vei_TooMany_mo=>k_is);(case vei_TooMany_hd=>k_is)))
  (case Uqh=>kernel_rfl)
  (case Uqi=>kernel_rfl)
  (case Uqj=>kernel_rfl)
  (case Uqk=>k_is)
  (case Uql=>k_is)
  (case Uqm=>exact L4.J9 KX G LW.Jpc (by k_is) (by k_is) (by k_is) (by k_is))
  (case Uqn=>exact L4.J9 KX G LW.Jh9 (by k_is) (by k_is) (by k_is) (by k_is))
  (case Uqo=>exact L4.J9 KX G LW.Jnx (by k_is) (by k_is) (by k_is) (by k_is))
  (case Uqp=>exact L4.J9 KX G LW.Jr9 (by k_is) (by k_is) (by k_is) (by k_is))
  (case Uqq=>exact L4.J9 KX G LW.Jr8 (by k_is) (by k_is) (by k_is) (by k_is))
  (case Uqr=>exact L4.J9 KX G LW.Jnu (by k_is) (by k_is) (by k_is) (by k_is))
  (case Uqs=>exact L4.J9 KX G LW.Jsb (by k_is) (by k_is) (by k_is) (by k_is))
  (case Uqt=>exact L4.J9 KX G LW.Jkd (by k_is) (by k_is) (by k_is) (by k_is))
  (case Uqu=>exact L4.J9 KX G LW.Jgz (by k_is) (by k_is) (by k_is) (by k_is))
  (case Uqv=>exact L4.J9 KX G LW.Jnv (by k_is) (by k_is) (by k_is) (by k_is))
  (case Uqw=>exact L4.J9 KX G LW.Jsc (by k_is) (by k_is) (by k_is) (by k_is))
  (case Uqx=>exact L4.J9 KX G LW.Jpa (by k_is) (by k_is) (by k_is) (by k_is))
  (case Uqy=>exact L4.J9 KX G LW.Jjn (by k_is) (by k_is) (by k_is) (by k_is))
  (case Uqz=>exact L4.J9 KX G LW.Jlm (by k_is) (by k_is) (by k_is) (by k_is))
  (case Uq0=>exact L4.J9 KX G LW.Jr7 (by k_is) (by k_is) (by k_is) (by k_is))
  (case Uq1=>exact L4.J9 KX G LW.Juz (by k_is) (by k_is) (by k_is) (by k_is))
  (case Uq2=>exact L4.J9 KX G LW.Jx3 (by k_is) (by k_is) (by k_is) (by k_is))
  (case Uq3=>exact L4.J9 KX G LW.Jr6 (by k_is) (by k_is) (by k_is) (by k_is))
  (case Uq4=>exact L4.J9 KX G LW.Jhd (by k_is) (by k_is) (by k_is) (by k_is))
  (case Uq5=>exact L4.J9 KX G LW.Jx4 (by k_is) (by k_is) (by k_is) (by k_is))
  (case Uq6=>exact L4.J9 KX G LW.Jg0 (by k_is) (by k_is) (by k_is) (by k_is))
  (case Uq7=>exact L4.J9 KX G LW.Jkh (by k_is) (by k_is) (by k_is) (by k_is))
  (case Uq8=>exact L4.J9 KX G LW.Jnw (by k_is) (by k_is) (by k_is) (by k_is))
  (case Uq9=>exact L4.J9 KX G LW.Jpb (by k_is) (by k_is) (by k_is) (by k_is))
  (case Uqaa=>exact L4.J9 KX G LW.Jke (by k_is) (by k_is) (by k_is) (by k_is))
  (case Uqab=>exact L4.J9 KX G LW.Jln (by k_is) (by k_is) (by k_is) (by k_is))
  (case Uqac=>exact L4.J9 KX G LW.Jns (by k_is) (by k_is) (by k_is) (by k_is))
  (case Uqad=>exact L4.J9 KX G LW.Jpe (by k_is) (by k_is) (by k_is) (by k_is))
  (case Uqae=>exact L4.J9 KX G LW.Jkf (by k_is) (by k_is) (by k_is) (by k_is))
  (case Uqaf=>exact L4.J9 KX G LW.Jpd (by k_is) (by k_is) (by k_is) (by k_is))
  (case Uqag=>exact L4.J9 KX G LW.Jkg (by k_is) (by k_is) (by k_is) (by k_is))
  (case Uqah=>exact L4.J9 KX G LW.Jsa (by k_is) (by k_is) (by k_is) (by k_is))
  (case Uqai=>exact L4.J9 KX G LW.Jnt (by k_is) (by k_is) (by k_is) (by k_is))
  (case Uqaj=>(refine' LW.J4b KX G ?Uqbn ?Uqbo ?Uqbp ?Uqbq;(case Uqbn=>k_is);(case Uqbo=>k_is);(case Uqbp=>k_is);(case Uqbq=>k_is)))
  (case Uqak=>(refine' LW.Jm5 ?Uqbr ?Uqbs ?Uqbt ?Uqbu ?Uqbv ?Uqbw ?Uqbx ?Uqby;(case Uqbr=>k_is);(case Uqbs=>k_is);(case Uqbt=>k_is);(case Uqbu=>k_is);(case Uqbv=>k_is);(case Uqbw=>k_is);(case Uqbx=>k_is);(case Uqby=>k_is)))
  (case Uqal=>exact L4.Jxs LW.Jnq (by k_is) (by k_is) (by k_is) (by k_is) (by k_is))
  (case Uqam=>(refine' LW.Jqg ?Uqbz ?Uqb0 ?Uqb1 ?Uqb2 ?Uqb3 ?Uqb4 ?Uqb5 ?Uqb6 ?Uqb7 ?Uqb8 ?Uqb9 ?Uqca ?Uqcb ?Uqcc ?Uqcd ?Uqce ?Uqcf ?Uqcg;(case Uqbz=>k_is);(case Uqb0=>k_is);(case Uqb1=>k_is);(case Uqb2=>k_is);(case Uqb3=>k_is);(case Uqb4=>k_is);(case Uqb5=>k_is);(case Uqb6=>k_is);(case Uqb7=>k_is);(case Uqb8=>k_is);(case Uqb9=>k_is);(case Uqca=>k_is);(case Uqcb=>k_is);(case Uqcc=>k_is);(case Uqcd=>k_is);(case Uqce=>k_is);(case Uqcf=>k_is);(case Uqcg=>k_is)))
  (case Uqan=>exact L4.mk_in LW.Jnn (by k_is) (by k_is) (by k_is) (by k_is) (by k_is) (by k_is) (by k_is))
  (case Uqao=>exact L4.Jxs LW.Jno (by k_is) (by k_is) (by k_is) (by k_is) (by k_is))
  (case Uqap=>exact L4.Jxs LW.Jnp (by k_is) (by k_is) (by k_is) (by k_is) (by k_is))
  (case Uqaq=>exact L4.Jxs LW.Jll (by k_is) (by k_is) (by k_is) (by k_is) (by k_is))
  (case Uqar=>(refine' LW.Jqg ?Uqch ?Uqci ?Uqcj ?Uqck ?Uqcl ?Uqcm ?Uqcn ?Uqco ?Uqcp ?Uqcq ?Uqcr ?Uqcs ?Uqct ?Uqcu ?Uqcv ?Uqcw ?Uqcx ?Uqcy;(case Uqch=>k_is);(case Uqci=>k_is);(case Uqcj=>k_is);(case Uqck=>k_is);(case Uqcl=>k_is);(case Uqcm=>k_is);(case Uqcn=>k_is);(case Uqco=>k_is);(case Uqcp=>k_is);(case Uqcq=>k_is);(case Uqcr=>k_is);(case Uqcs=>k_is);(case Uqct=>k_is);(case Uqcu=>k_is);(case Uqcv=>k_is);(case Uqcw=>k_is);(case Uqcx=>k_is);(case Uqcy=>k_is)))
  (case Uqas=>k_is)
  (case Uqat=>k_is)
  (case Uqau=>k_is)
  (case Uqav=>k_is)
  (case Uqaw=>k_is)
  (case Uqax=>k_is)
  (case Uqay=>k_is)
  (case Uqaz=>k_is)
  (case Uqa0=>kernel_rfl)
  (case Uqa1=>kernel_rfl)
  (case Uqa2=>kernel_rfl)
  (case Uqa3=>kernel_rfl)
  (case Uqa4=>kernel_rfl)
  (case Uqa5=>kernel_rfl)
  (case Uqa6=>kernel_rfl)
  (case Uqa7=>kernel_rfl)
  (case Uqa8=>kernel_rfl)
  (case Uqa9=>k_is)
  (case Uqba=>k_is)
  (case Uqbb=>k_is)
  (case Uqbc=>k_is)
  (case Uqbd=>k_is)
  (case Uqbe=>k_is)
  (case Uqbf=>k_is)
  (case Uqbg=>k_is)
  (case Uqbh=>k_is)
  (case Uqbi=>k_is)
  (case Uqbj=>k_is)
  (case Uqbk=>k_is)
  (case Uqbl=>k_is)
  (case Uqbm=>k_is)
