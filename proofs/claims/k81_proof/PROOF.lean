import PyProof.Rows.All
import Wide.All
import OpenK.AllK
import Wide.FinOn
import Lean
import PyProof.EqAt
import PyProof.EqKinds
import PyProof.TupleCall
import PyProof.ExcBaseAll.ValueError
import PyProof.ExcAttrAll.ValueError
import PyProof.NsDelKeeps
import PySem.Challenge.RW_dutyproof_k81_where_a_row_is_too_full
set_option Elab.async false
set_option linter.all false
set_option maxRecDepth 100000
theorem Zf {p:Prop}(h:False):p:=h.elim
namespace L2
open PySem PySem.Spec PyProof.Rows
noncomputable abbrev Key:=Sum Int Str
noncomputable def Jsn:Key->Value->Bool
 | .inl k,v=>Value.isInt k v
 | .inr x,v=>Value.isStrOf x v
noncomputable def keyH (w:World):Key->Int
 | .inl k=>hashInt k
 | .inr x=>hashStr w x
theorem Js:∀{k:Key}{v:Value},Jsn k v=true->(∃i t,k=Sum.inl i/\v=Value.int i t)∨(∃x t,k=Sum.inr x/\v=Value.str x t)
 | .inl i,v,h=>by
  obtain⟨t,e⟩:=Value.isInt_shape (k:=i) (v:=v) h
  exact .inl ⟨i,t,rfl,e⟩
 | .inr x,v,h=>by
  obtain⟨t,e⟩:=Value.isStrOf_shape (x:=x) (v:=v) h
  exact .inr ⟨x,t,rfl,e⟩
theorem Jvr (i:Int) (t:Tok):Jsn (.inl i) (.int i t)=true:=by simp[Jsn,Value.isInt]
theorem Jvs (x:Str) (t:Tok):Jsn (.inr x) (.str x t)=true:=by simp[Jsn,Value.isStrOf]
theorem J3n (a b:Int):decide ((Sum.inl a:Key)=Sum.inl b)=(a==b):=by
 by_cases e:a=b
 ·subst e;simp
 ·have h:¬(Sum.inl a:Key)=Sum.inl b:=λ q=>e (Sum.inl.inj q)
  rw[decide_eq_false h]
  exact(beq_eq_false_iff_ne.mpr e).symm
theorem J3q (a b:Str):decide ((Sum.inr a:Key)=Sum.inr b)=decide (a=b):=by
 by_cases e:a=b
 ·subst e;simp
 ·have h:¬(Sum.inr a:Key)=Sum.inr b:=λ q=>e (Sum.inr.inj q)
  rw[decide_eq_false h,decide_eq_false e]
theorem J3o (a:Int) (b:Str):decide ((Sum.inl a:Key)=Sum.inr b)=false:=decide_eq_false (λ q=>nomatch q)
theorem J3p (a:Str) (b:Int):decide ((Sum.inr a:Key)=Sum.inl b)=false:=decide_eq_false (λ q=>nomatch q)
noncomputable def Jcw (prog:Program) (w:World):PySem.KeyKind prog w Key where
 is:=Jsn
 hash:=keyH w
 inj:=λ v a b ha hb=>by
  rcases Js ha with⟨i,t,rfl,rfl⟩|⟨x,t,rfl,rfl⟩
  ·rcases Js hb with⟨j,u,rfl,e⟩|⟨y,u,rfl,e⟩
   ·injection e with e1 _;rw[e1]
   ·exact nomatch e
  ·rcases Js hb with⟨j,u,rfl,e⟩|⟨y,u,rfl,e⟩
   ·exact nomatch e
   ·injection e with e1 _;rw[e1]
 byValue:=λ k v h=>by
  rcases Js h with⟨i,t,rfl,rfl⟩|⟨x,t,rfl,rfl⟩<;>rfl
 pyHash:=λ hv h=>by
  rcases Js hv with⟨i,t,rfl,rfl⟩|⟨x,t,rfl,rfl⟩
  ·exact wpAny_pyHash_int h
  ·exact wpAny_pyHash_str h
 eqBool:=λ hu hv h=>by
  rcases Js hu with⟨i,t,rfl,rfl⟩|⟨x,t,rfl,rfl⟩
  ·rcases Js hv with⟨j,u,rfl,rfl⟩|⟨y,u,rfl,rfl⟩
   ·rw[J3n] at h;exact wpAny_eqBool_int h
   ·rw[J3o] at h;exact SeqAt.EqAt.int_str i t y u _ _ _ _ h
  ·rcases Js hv with⟨j,u,rfl,rfl⟩|⟨y,u,rfl,rfl⟩
   ·rw[J3p] at h;exact SeqAt.EqAt.str_int x t j u _ _ _ _ h
   ·rw[J3q] at h;exact wpAny_eqBool_str h
 «strs» :=λ k x t v h=>by
  rcases Js h with⟨i,u,rfl,e⟩|⟨y,u,rfl,e⟩
  ·exact nomatch e
  ·injection e with e1 _
   subst e1
   cases v<;>rfl
theorem Jqf (prog:Program) (w:World) (i:Int) (t:Tok):(Jcw prog w).is (.inl i) (.int i t)=true:=Jvr i t
theorem Jqg (prog:Program) (w:World) (x:Str) (t:Tok):(Jcw prog w).is (.inr x) (.str x t)=true:=Jvs x t
inductive V where
 | non|bl (b:Bool)|int (i:Int)|str (x:Str)|byt (b:Array UInt8)|flt (b:UInt64)|ref (a:Addr)|ty (n:String)
 deriving DecidableEq
noncomputable def RelV:V->Value->Prop
 | .non,u=>u=Value.none
 | .bl b,u=>u=Value.bool b
 | .int i,u=>∃t,u=Value.int i t
 | .str x,u=>∃t,u=Value.str x t
 | .byt b,u=>∃t,u=Value.bytes b t
 | .flt b,u=>∃t,u=Value.float b t
 | .ref a,u=>u=Value.ref a
 | .ty n,u=>u=Value.type n
noncomputable abbrev Vals:List V->List Value->Prop:=Paired RelV
theorem Vals.length {xs:List V}{us:List Value}(r:Vals xs us):xs.length=us.length:=Paired.length r
theorem Vals.get:∀{xs:List V}{us:List Value}{i:Nat}{x:V},Vals xs us->xs[i]?=some x->∃u,us[i]?=some u/\RelV x u
 | _,_,_,_,.nil,e=>by simp at e
 | _,_,0,_,.cons r _,e=>by simp at e;subst e;exact⟨_,rfl,r⟩
 | _,_,i+1,x,.cons _ t,e=>by
  obtain⟨u,h1,h2⟩:=Vals.get (i:=i) (x:=x) t (by simpa using e)
  exact⟨u,by simpa using h1,h2⟩
theorem Vals.set {x:V}{u:Value}(r:RelV x u):∀{xs:List V}{us:List Value}(i:Nat),Vals xs us->Vals (xs.set i x) (us.set i u)
 | _,_,_,.nil=>.nil
 | _,_,0,.cons _ t=>.cons r t
 | _,_,i+1,.cons q t=>.cons q (Vals.set r i t)
theorem Vals.append:∀{xs ys:List V}{us ws:List Value},Vals xs us->Vals ys ws->Vals (xs++ys) (us++ws)
 | _,_,_,_,.nil,s=>s
 | _,_,_,_,.cons r t,s=>.cons r (Vals.append t s)
theorem Vals.take:∀{xs:List V}{us:List Value}(n:Nat),Vals xs us->Vals (xs.take n) (us.take n)
 | _,_,0,_=>.nil
 | _,_,_+1,.nil=>.nil
 | _,_,n+1,.cons r t=>.cons r (Vals.take n t)
theorem Vals.drop:∀{xs:List V}{us:List Value}(n:Nat),Vals xs us->Vals (xs.drop n) (us.drop n)
 | _,_,0,r=>r
 | _,_,_+1,.nil=>.nil
 | _,_,n+1,.cons _ t=>Vals.drop n t
theorem Vals.none_of:∀{xs:List V}{us:List Value}{i:Nat},Vals xs us->xs[i]?=none->us[i]?=none:=λ {xs us i} r e=>by
 have h1:=r.length
 have h2:xs.length<=i:=List.getElem?_eq_none_iff.mp e
 exact List.getElem?_eq_none_iff.mpr (by omega)
noncomputable def RelO:Option V->Option Value->Prop
 | some v,some u=>RelV v u
 | none,none=>True
 | _,_=>False
noncomputable def KV {κ:Type}:List (κ×V)->List (κ×Value)->Prop:=Paired λ (p:κ×V) (q:κ×Value)=>p.1=q.1/\RelV p.2 q.2
noncomputable def kV:Key->V
 | .inl i=>.int i
 | .inr x=>.str x
inductive HO where
 /-- a list -/
 | lst (xs:List V)
 /-- a tuple (never changes) -/
 | tup (xs:List V)
 /-- a dict whose keys are ints and texts; one whose keys are tuples of ints and texts (the empty one is both) -/
 | dK (kvs:List (Key×V))|dT (kvs:List (List Key×V))
 /-- a set of ints: its members, its size -/
 | set (S:Int->Bool) (n:Nat)
 /-- an instance of the class at C, its dict at dx, its attributes -/
 | ins (C dx:Addr) (fs:List (Str×V))
 /-- the dict of the instance at x -/
 | own (x:Addr)
 /-- the dict of an exception -/
 | xd (fs:List (Str×V))
 /-- a bound method, f of x -/
 | met (f x:Addr)
 /-- a range object lo, lo + 1, .. below hi -/
 | rng (lo hi:Int)
 /-- a thing that is known to the object (the script; a dict while a loop walks it): read, never written while it is so -/
 | frz (o:Obj) (u:HO)
 /-- a code object's table -/
 | tbl (ps:Array Value)
 /-- any other thing, by what is true of its one object (a def of one's own: SetO a S n := HO.ext λ h => ..) -/
 | ext (φ:Heap->Prop)
noncomputable abbrev Hp:=Addr->Option HO
noncomputable def upd (H:Hp) (a:Addr) (o:HO):Hp:=λ b=>if b=a then some o else H b
theorem Jf {H:Hp}{a:Addr}{o:HO}:upd H a o a=some o:=by unfold upd;rw[if_pos rfl]
theorem Jg {H:Hp}{a b:Addr}{o:HO}(h:b≠a):upd H a o b=H b:=by unfold upd;rw[if_neg h]
theorem Jv {H:Hp}{a b:Addr}{o:HO}(h:H a=some o) (h':H b=none):a≠b:=by
 intro e;subst e;rw[h] at h';cases h'
section
variable (P:Program) (w:World)
noncomputable def Jas (H:Hp) (h:Heap) (a:Addr):HO->Prop
 | .lst xs=>xs.length<=sizeLine/\∃(its:List Value) (n:Nat),Vals xs its/\h.get? a=some { cls:=.type "list",data:=.seq its.toArray n }
 | .tup xs=>xs.length<=sizeLine/\∃its:List Value,Vals xs its/\IsTup h a its.toArray
 | .dK kvs=>kvs.length<=sizeLine/\(a==sysModules)=false/\∃vs,KV kvs vs/\h.DictOf (Jcw P w) a vs
 | .dT kvs=>kvs.length<=sizeLine/\(a==sysModules)=false/\∃xs:List (List Key×Addr×Value),
   Paired (λ (p:List Key×V) (q:List Key×Addr×Value)=>p.1=q.1/\H q.2.1=some (.tup (p.1.map kV))/\RelV p.2 q.2.2) kvs xs /\
   ∃o es ep,h.get? a=some o/\o.ExactDict/\o.data=.dict es ep/\es.toList=xs.map (entryOfKey (tupleKind (Jcw P w)))/\(xs.map (·.1)).Nodup
 | .set S n=>h.SetOf (intKind P w) a S n
 | .ins C dx fs=>H dx=some (.own a)/\fs.length<=1000/\dx≠a/\h.get? a=some (W.instObj C dx) /\
   ∃mA,h.Ns1 dx mA/\(∀f,RelO (fs.lookup f) (mA f))/\PySem.Within mA (fs.map (·.1))
 | .own _=>∃o,h.get? a=some o
 | .xd fs=>∃mA,h.Ns1 a mA/\∀f,RelO (fs.lookup f) (mA f)
 | .rng lo hi=>∃t u v,h.get? a=some { cls:=.type "range",data:=.fields #[.int lo t,.int hi u,.int 1 v] }
 | .frz o u=>h.get? a=some o/\Jas H h a u
 | .tbl ps=>h.get? a=some { cls:=.none,data:=.fields ps }
 | .met f x=>h.get? a=some (W.methodObj (.ref f) (.ref x))
 | .ext φ=>φ h/\(∃o,h.get? a=some o)/\∀h1 h2:Heap,φ h1->(∀o,h1.get? a=some o->h2.get? a=some o)->φ h2
noncomputable def HOk (H:Hp) (h:Heap):Prop:=∀a o,H a=some o->Jas P w H h a o
end
section
variable {P:Program}{w:World}{H H':Hp}{h h':Heap}{a:Addr}{o:HO}
theorem Jas.lt (x:Jas P w H h a o):a<h.objs.size:=by
 cases o with
 | lst xs=>obtain⟨_,_,_,_,e⟩:=x;exact Heap.lt_size e
 | tup xs=>obtain⟨_,_,_,p⟩:=x;exact p.lt
 | dK kvs=>obtain⟨_,_,_,_,o,_,_,e,_⟩:=x;exact Heap.lt_size e
 | dT kvs=>obtain⟨_,_,_,_,o,_,_,e,_⟩:=x;exact Heap.lt_size e
 | set S n=>obtain⟨o,_,_,_,e,_⟩:=x;exact Heap.lt_size e
 | ins C dx fs=>obtain⟨_,_,_,e,_⟩:=x;exact Heap.lt_size e
 | own y=>obtain⟨_,e⟩:=x;exact Heap.lt_size e
 | xd fs=>obtain⟨_,⟨_,_,_,e,_⟩,_⟩:=x;exact Heap.lt_size e
 | rng lo hi=>obtain⟨_,_,_,e⟩:=x;exact Heap.lt_size e
 | frz ob u=>obtain⟨e,_⟩:=x;exact Heap.lt_size e
 | tbl ps=>exact Heap.lt_size (show h.get? a=some _ from x)
 | met f y=>exact Heap.lt_size (show h.get? a=some _ from x)
 | ext φ=>obtain⟨_,⟨_,e⟩,_⟩:=x;exact Heap.lt_size e
theorem Paired.mapP {α β:Type}{F G:α->β->Prop}:∀{l₁:List α}{l₂:List β},Paired F l₁ l₂->(∀a b,F a b->G a b)->Paired G l₁ l₂
 | _,_,.nil,_=>.nil
 | _,_,.cons r t,f=>.cons (f _ _ r) (Paired.mapP t f)
theorem Jas.stay (x:Jas P w H h a o) (k:∀b u,(b=a∨H b=some (.own a))->h.get? b=some u->h'.get? b=some u)
  (ho:∀b,H b=some (.own a)->H' b=some (.own a)) (ht:∀b xs,H b=some (.tup xs)->H' b=some (.tup xs)):Jas P w H' h' a o:=by
 induction o with
 | lst xs=>obtain⟨z,its,n,r,e⟩:=x;exact⟨z,its,n,r,k _ _ (.inl rfl) e⟩
 | tup xs=>obtain⟨z,its,r,ob,e,c⟩:=x;exact⟨z,its,r,ob,k _ _ (.inl rfl) e,c⟩
 | dK kvs=>obtain⟨z,y,vs,r,ob,es,ep,e,c⟩:=x;exact⟨z,y,vs,r,ob,es,ep,k _ _ (.inl rfl) e,c⟩
 | dT kvs =>
  obtain⟨z,y,xs,r,ob,es,ep,e,c⟩:=x
  exact⟨z,y,xs,Paired.mapP r λ p q z=>⟨z.1,ht _ _ z.2.1,z.2.2⟩,ob,es,ep,k _ _ (.inl rfl) e,c⟩
 | set S n=>obtain⟨ob,es,ep,t,e,c⟩:=x;exact⟨ob,es,ep,t,k _ _ (.inl rfl) e,c⟩
 | ins C dx fs =>
  obtain⟨d,z,ne,e,mA,⟨od,es,ep,e2,c⟩,r⟩:=x
  exact⟨ho _ d,z,ne,k _ _ (.inl rfl) e,mA,⟨od,es,ep,k _ _ (.inr d) e2,c⟩,r⟩
 | own y=>obtain⟨ob,e⟩:=x;exact⟨ob,k _ _ (.inl rfl) e⟩
 | xd fs=>obtain⟨mA,⟨od,es,ep,e,c⟩,r⟩:=x;exact⟨mA,⟨od,es,ep,k _ _ (.inl rfl) e,c⟩,r⟩
 | rng lo hi=>obtain⟨t,u,v,e⟩:=x;exact⟨t,u,v,k _ _ (.inl rfl) e⟩
 | frz ob u ih=>obtain⟨e,q⟩:=x;exact⟨k _ _ (.inl rfl) e,ih q⟩
 | tbl ps =>
  have e:h.get? a=some { cls:=.none,data:=.fields ps }:=x
  show h'.get? a=some { cls:=.none,data:=.fields ps }
  exact k a _ (.inl rfl) e
 | met f y =>
  have e:h.get? a=some (W.methodObj (.ref f) (.ref y)):=x
  show h'.get? a=some (W.methodObj (.ref f) (.ref y))
  exact k a _ (.inl rfl) e
 | ext φ=>obtain⟨p,⟨o,e⟩,st⟩:=x;exact⟨st _ _ p λ o q=>k _ _ (.inl rfl) q,⟨o,k _ _ (.inl rfl) e⟩,st⟩
theorem HOk.lt (x:HOk P w H h) (e:H a=some o):a<h.objs.size:=(x a o e).lt
theorem HOk.fresh (x:HOk P w H h) (e:h.objs.size<=a):H a=none:=by
 cases q:H a with
 | none=>rfl
 | some u=>exact absurd (Nat.lt_of_lt_of_le (x.lt q) e) (Nat.lt_irrefl _)
theorem HOk.kept (x:HOk P w H h) (k:∀b u,h.get? b=some u->h'.get? b=some u):HOk P w H h':=λ a o e =>
 (x a o e).stay (λ b u _ q=>k b u q) (λ _ q=>q) λ _ _ q=>q
theorem HOk.laid (x:HOk P w H h) (k:∀b u,h.get? b=some u->h'.get? b=some u) (hp:h.objs.size<=a) (new:Jas P w (upd H a o) h' a o):HOk P w (upd H a o) h':=λ b u e=>by
 have hn:=x.fresh hp
 by_cases hb:b=a
 ·subst hb;rw[Jf] at e;cases e;exact new
 ·rw[Jg hb] at e
  exact(x b u e).stay (λ c v _ q=>k c v q) (λ c q=>by rw[Jg (Jv q hn)];exact q) λ c xs q=>by rw[Jg (Jv q hn)];exact q
end
noncomputable def Rd (H:Hp) (a:Addr) (u:HO):Prop:=H a=some u∨∃o,H a=some (.frz o u)
theorem Rd.of {H:Hp}{a:Addr}{u:HO}(h:H a=some u):Rd H a u:=.inl h
theorem Rd.ok {P:Program}{w:World}{H:Hp}{h:Heap}{a:Addr}{u:HO}(r:Rd H a u) (x:HOk P w H h):Jas P w H h a u:=by
 rcases r with r|⟨o,r⟩
 ·exact x a u r
 ·obtain⟨_,q⟩:=x a _ r
  exact q
noncomputable def Mut:Option HO->Prop
 | some (.lst _)=>True
 | some (.dK _)=>True
 | some (.dT _)=>True
 | some (.set _ _)=>True
 | some (.ins _ _ _)=>True
 | some (.ext _)=>True
 | _=>False
section
variable {P:Program}{w:World}{H:Hp}{h h':Heap}{x e:Addr}{o':HO}
theorem HOk.write (ok:HOk P w H h) (mu:Mut (H x)) (he:e=x∨H e=some (.own x)) (k:∀b u,b≠e->h.get? b=some u->h'.get? b=some u) (heo:∃u,h'.get? e=some u)
  (new:Jas P w (upd H x o') h' x o'):HOk P w (upd H x o') h':=λ b u q=>by
 have nown:∀c y,H c=some (.own y)->c≠x:=λ c y r z=>by subst z;rw[r] at mu;exact mu
 have ntup:∀c xs,H c=some (.tup xs)->c≠x:=λ c xs r z=>by subst z;rw[r] at mu;exact mu
 by_cases hb:b=x
 ·subst hb;rw[Jf] at q;cases q;exact new
 ·rw[Jg hb] at q
  by_cases hbe:b=e
  ·have q':H b=some (.own x):=by
    rcases he with z|z
    ·exact absurd (hbe.trans z) hb
    ·rw[hbe];exact z
   rw[q] at q';cases q'
   obtain⟨v,hv⟩:=heo
   exact⟨v,by rw[hbe];exact hv⟩
  ·refine(ok b u q).stay (λ c v hc r=>k c v ?_ r) (λ c r=>by rw[Jg (nown c b r)];exact r) λ c xs r=>by rw[Jg (ntup c xs r)];exact r
   rcases hc with rfl|hc
   ·exact hbe
   ·rintro rfl
    rcases he with z|z
    ·exact nown c b hc z
    ·rw[hc] at z;cases z;exact hb rfl
end
structure Un (fs ex:List Addr) (H H':Hp) (h h':Heap):Prop where
 keep:∀b o,h.get? b=some o->H b=none->b∉fs->b∉ex->h'.get? b=some o
 slot:∀b o,h.get? b=some o->H b=none->b∈fs->b∉ex->∃sl,h'.get? b=some { o with slots:=sl }
 free:∀b o,h.get? b=some o->H b=none->b∉ex->H' b=none
 there:∀b o,h.get? b=some o->b∉ex->∃o',h'.get? b=some o'
 tups:∀b xs,H b=some (.tup xs)->H' b=some (.tup xs)
 frzs:∀b o u,H b=some (.frz o u)->H' b=some (.frz o u)
 tbls:∀b ps,H b=some (.tbl ps)->∃more,H' b=some (.tbl (ps++more))
section
variable {fs fs' ex ex':List Addr}{H H1 H2:Hp}{h h1 h2 h':Heap}{a x e:Addr}{o:HO}
theorem Un.any (u:Un fs ex H H1 h h1){b:Addr}{ob:Obj}(q:h.get? b=some ob) (n:H b=none) (hx:b∉ex):∃sl,h1.get? b=some { ob with slots:=sl }:=by
 by_cases hb:b∈fs
 ·exact u.slot b ob q n hb hx
 ·exact⟨ob.slots,u.keep b ob q n hb hx⟩
theorem Un.trans (a:Un fs ex H H1 h h1) (b:Un fs ex H1 H2 h1 h2):Un fs ex H H2 h h2 where
 keep:=λ c ob q n hc hx=>b.keep c ob (a.keep c ob q n hc hx) (a.free c ob q n hx) hc hx
 slot:=λ c ob q n hc hx=>by
  obtain⟨sl,e1⟩:=a.slot c ob q n hc hx
  obtain⟨sl',e2⟩:=b.slot c _ e1 (a.free c ob q n hx) hc hx
  exact⟨sl',e2⟩
 free:=λ c ob q n hx=>by
  obtain⟨o',e1⟩:=a.there c ob q hx
  exact b.free c o' e1 (a.free c ob q n hx) hx
 there:=λ c ob q hx=>by
  obtain⟨o',e1⟩:=a.there c ob q hx
  exact b.there c o' e1 hx
 tups:=λ c xs q=>b.tups c xs (a.tups c xs q)
 frzs:=λ c ob xs q=>b.frzs c ob xs (a.frzs c ob xs q)
 tbls:=λ c ps q=>by
  obtain⟨m1,e1⟩:=a.tbls c ps q
  obtain⟨m2,e2⟩:=b.tbls c _ e1
  exact⟨m1++m2,by rw[e2,Array.append_assoc]⟩
theorem Un.kept (k:∀b u,h.get? b=some u->h'.get? b=some u):Un fs ex H H h h' :=
 ⟨λ b ob q _ _ _=>k b ob q,λ b ob q _ _ _=>⟨ob.slots,k b ob q⟩,λ _ _ _ n _=>n,λ b ob q _=>⟨ob,k b ob q⟩,λ _ _ q=>q,λ _ _ _ q=>q,λ _ ps q=>⟨#[],by rw[q];simp⟩⟩
theorem Un.refl:Un fs ex H H h h:=Un.kept λ _ _ q=>q
theorem Un.laid (k:∀b u,h.get? b=some u->h'.get? b=some u) (hp:h.objs.size<=a) (hn:H a=none):Un fs ex H (upd H a o) h h' where
 keep:=λ b u q _ _ _=>k b u q
 slot:=λ b u q _ _ _=>⟨u.slots,k b u q⟩
 free:=λ b u q n _=>by rw[Jg (Nat.ne_of_lt (Nat.lt_of_lt_of_le (Heap.lt_size q) hp))];exact n
 there:=λ b u q _=>⟨u,k b u q⟩
 tups:=λ b xs q=>by rw[Jg (Jv q hn)];exact q
 frzs:=λ b u xs q=>by rw[Jg (Jv q hn)];exact q
 tbls:=λ b ps q=>⟨#[],by rw[Jg (Jv q hn),q];simp⟩
theorem Un.write (mu:Mut (H x)) (he:e=x∨H e=some (.own x)) (k:∀b u,b≠e->h.get? b=some u->h'.get? b=some u) (heo:∃u,h'.get? e=some u):Un fs ex H (upd H x o) h h':=by
 have hx:∀b,H b=none->b≠x:=λ b n z=>by subst z;rw[n] at mu;exact mu
 have hb:∀b,H b=none->b≠e:=λ b n z=>by
  subst z
  rcases he with r|r
  ·exact hx b n r
  ·rw[n] at r;cases r
 have hm:∀b u,H b=some u->¬Mut (some u)->b≠x:=λ b u q nm z=>by subst z;rw[q] at mu;exact nm mu
 refine⟨λ b u q n _ _=>k b u (hb b n) q,λ b u q n _ _=>⟨u.slots,k b u (hb b n) q⟩,λ b u q n _=>by rw[Jg (hx b n)];exact n,λ b u q _=>?_,
  λ b xs q=>by rw[Jg (hm b _ q λ z=>z)];exact q,λ b u xs q=>by rw[Jg (hm b _ q λ z=>z)];exact q,λ b ps q=>⟨#[],by rw[Jg (hm b _ q λ z=>z),q];simp⟩⟩
 by_cases hbe:b=e
 ·subst hbe;exact heo
 ·exact⟨u,k b u hbe q⟩
theorem Un.mono (u:Un fs ex H H1 h h1) (hs:∀b∈fs,b∈fs') (hx:∀b∈ex,b∈ex'):Un fs' ex' H H1 h h1 :=
 ⟨λ b ob q n hb he=>u.keep b ob q n (λ z=>hb (hs b z)) λ z=>he (hx b z),λ _ _ q n _ he=>u.any q n λ z=>he (hx _ z),λ b ob q n he=>u.free b ob q n λ z=>he (hx b z),λ b ob q he=>u.there b ob q λ z=>he (hx b z),u.tups,u.frzs,u.tbls⟩
end
noncomputable def trk (h:Heap) (H:Hp):List Addr:=(List.range h.objs.size).filter λ a=>(H a).isSome
noncomputable def hidT (h:Heap) (H:Hp):Heap:=W.hideAll h (trk h H)
theorem Jve (h:Heap) (H:Hp):(hidT h H).objs.size=h.objs.size:=W.hideAll_size _ _
theorem Jxl {h:Heap}{H:Hp}{b:Addr}{o:Obj}(e:h.get? b=some o) (n:H b=none):(hidT h H).get? b=some o :=
 W.hideAll_get _ e λ hm=>by
  have q:(H b).isSome=true:=(List.mem_filter.mp hm).2
  rw[n] at q;simp at q
theorem J1e {h:Heap}{H:Hp}{b:Addr}{o:Obj}(e:(hidT h H).get? b=some o):h.get? b=some o/\H b=none:=by
 have e':h.get? b=some o:=W.of_hideAll (trk h H) e
 refine⟨e',?_⟩
 cases q:H b with
 | none=>rfl
 | some x =>
  have hm:b∈trk h H:=List.mem_filter.mpr ⟨List.mem_range.mpr (Heap.lt_size e'),by simp[q]⟩
  have z:(hidT h H).get? b=none:=W.hideAll_none (trk h H) hm
  rw[z] at e;cases e
noncomputable def Jz8 (g h:Heap) (L:Addr):List (Addr×Obj):=(List.range h.objs.size).filterMap λ a=>if a=L∨(g.get? a).isSome=true then none else(h.get? a).map λ o=>(a,o)
noncomputable def rest (g h:Heap) (L d:Addr):List (Addr×Obj):=(Jz8 g h L).filter λ p=>decide (p.1≠d)
structure Mod (K:W.Frag) (mg:Str->Option Value) (base:Heap):Prop where
 kin:K.In base
 glob:base.Ns mainGlobals mg
 blt:∃mb,base.Ns builtinsNs mb/\∀x:Str,x≠"__name__"->mb x=bootBuiltins x
 nolimit:base.NoLimit
structure Cx where
 prog:Program
 w:World
 K:W.Frag
 mg:Str->Option Value
 base:Heap
 A:Around
 N:List Str
 s₀:Shared
 H₀:Hp
 env:Env
 outer:List Env
 stack:List Env
 ex:List Addr
 fn:Str->Bool
 calm:Bool
 pn:List (Addr×Obj)
 xe:Value->Shared->Prop
noncomputable def frs (l:List Env):List Addr:=l.filterMap (·.frame)
noncomputable abbrev Cx.fs (X:Cx):List Addr:=frs X.outer
noncomputable def Vis (sc:Scope) (x:Str):Prop:=sc.names.lookup x=some .local∨sc.names.lookup x=some .cell∨sc.names.lookup x=some .free
noncomputable def Loc (sc:Scope) (x:Str):Prop:=sc.names.lookup x=some .local∨sc.names.lookup x=some .cell
noncomputable def Look (env:Env) (h:Heap) (m:Str->Option Value) (x:Str) (u:Value):Prop :=
 (env.kindOf x=some .local/\m x=some u)∨((env.kindOf x=some .cell∨env.kindOf x=some .free)/\∃c,env.cells.lookup x=some c/\h.IsCell c (some u))
structure Cx.Ok (X:Cx):Prop where
 mod:Mod X.K X.mg X.base
 kind:X.env.scope.kind=.function
 glob:X.env.globals=mainGlobals
 blt:X.env.builtins=builtinsNs
 above:X.s₀.heap.objs.size<=X.env.locals
 inj:∀x y c,X.env.cells.lookup x=some c->X.env.cells.lookup y=some c->x=y
 has:∀x,(X.env.kindOf x=some .cell∨X.env.kindOf x=some .free)->∃c,X.env.cells.lookup x=some c
 cab:∀x c,X.fn x=true->X.env.cells.lookup x=some c->X.s₀.heap.objs.size<=c
 hd:X.calm=true->X.A.handled=none
 frames:X.A.frames=some X.stack
 stk:X.stack=X.outer∨(X.stack=X.env::X.outer/\X.env.frame=some X.env.locals)
 exf:∀b∈X.ex,b≠X.env.locals/\∀x c,X.env.cells.lookup x=some c->c≠b
 bs:∀b o,X.base.get? b=some o->X.s₀.heap.get? b=some o/\X.H₀ b=none
 bsz:X.base.objs.size<=X.s₀.heap.objs.size
 noex:∀b o,X.base.get? b=some o->b∉X.ex
 exfs:∀b∈X.ex,b∉X.fs
 funs:X.s₀.heap.FunFrames X.base X.outer
 frf:∀b∈X.fs,X.H₀ b=none
structure Inv (X:Cx) (pins:List (Addr×Obj)) (σ:List (Option V)) (H:Hp) (s:Shared):Prop where
 ok:X.Ok
 os:s.os=X.s₀.os
 bare:AllBare s.gens
 base:Un X.fs X.ex X.H₀ H X.s₀.heap s.heap
 loc:∃m,s.heap.Ns X.env.locals m/\∀(i:Nat) (x:Str) (v:V),X.N[i]?=some x->σ[i]?=some (some v)->Vis X.env.scope x->∃u,RelV v u/\Look X.env s.heap m x u
 cell:∀x c,X.env.cells.lookup x=some c->∃v,s.heap.IsCell c v
 free:H X.env.locals=none
 freeC:∀x c,X.env.cells.lookup x=some c->H c=none
 pin:∀p∈X.pn++pins,s.heap.get? p.1=some p.2/\H p.1=none/\p.1≠X.env.locals/\p.1∉X.fs/\∀v,p.2.data≠.cell v
 hok:HOk X.prog X.w H s.heap
 len:σ.length=X.N.length
section
variable {X:Cx}{pins:List (Addr×Obj)}{σ:List (Option V)}{H H':Hp}{s:Shared}{h':Heap}
theorem Cx.Ok.nofr (ok:X.Ok){b:Addr}{o:Obj}(e:X.base.get? b=some o):b∉X.fs:=λ hb=>by
 have:=(ok.funs.mem hb).1
 rw[e] at this;cases this
theorem Inv.bs (I:Inv X pins σ H s):∀b o,X.base.get? b=some o->s.heap.get? b=some o/\H b=none:=λ b o e =>
 ⟨I.base.keep b o (I.ok.bs b o e).1 (I.ok.bs b o e).2 (I.ok.nofr e) (I.ok.noex b o e),I.base.free b o (I.ok.bs b o e).1 (I.ok.bs b o e).2 (I.ok.noex b o e)⟩
theorem Inv.bk (I:Inv X pins σ H s):∀b o,X.base.get? b=some o->s.heap.get? b=some o:=λ b o e=>(I.bs b o e).1
theorem Inv.mod (I:Inv X pins σ H s):Mod X.K X.mg X.base:=I.ok.mod
theorem Inv.kIn (I:Inv X pins σ H s):X.K.In s.heap:=I.ok.mod.kin.keeps I.bk
theorem Inv.nolimit (I:Inv X pins σ H s):s.heap.NoLimit:=I.ok.mod.nolimit.keeps I.bk
theorem Inv.fr (I:Inv X pins σ H s):∃m,Fr X.base X.env.locals s.heap m :=
 let ⟨m,hn,_⟩:=I.loc
 ⟨m,hn,I.bk,Nat.le_trans I.ok.bsz I.ok.above⟩
theorem Inv.lt (I:Inv X pins σ H s):X.env.locals<s.heap.objs.size:=let ⟨_,hn,_⟩:=I.loc;hn.lt
theorem Inv.sz (I:Inv X pins σ H s):X.s₀.heap.objs.size<=s.heap.objs.size:=Nat.le_trans I.ok.above (Nat.le_of_lt I.lt)
theorem Inv.nofs (I:Inv X pins σ H s){a:Addr}(h:s.heap.objs.size<=a):a∉X.fs:=λ hb=>by
 obtain⟨_,o,ho,_⟩:=I.ok.funs.mem hb
 exact absurd (Nat.lt_of_lt_of_le (Heap.lt_size ho) (Nat.le_trans I.sz h)) (Nat.lt_irrefl _)
theorem Inv.cne (I:Inv X pins σ H s):∀x c,X.env.cells.lookup x=some c->c≠X.env.locals:=λ x c e z=>by
 obtain⟨v,o,ho,hd⟩:=I.cell x c e
 obtain⟨m,⟨o',es,ep,ho',hd',_⟩,_⟩:=I.loc
 rw[z,ho'] at ho;cases ho;rw[hd'] at hd;cases hd
theorem Inv.funs (I:Inv X pins σ H s):s.heap.FunFrames X.base X.outer:=by
 have all:∀(l:List Env),(∀b∈frs l,b∈X.fs)->X.s₀.heap.FunFrames X.base l->s.heap.FunFrames X.base l:=by
  intro l
  induction l with
  | nil=>intro _ _;trivial
  | cons env r ih =>
   intro hs hl
   obtain⟨hk,⟨L,o,hf,hn,ho,hd⟩,hr⟩:=hl
   have hL:L∈X.fs:=hs L (by unfold frs;rw[List.filterMap_cons,hf];exact List.mem_cons_self)
   obtain⟨sl,e⟩:=I.base.slot L o ho (I.ok.frf L hL) hL λ z=>I.ok.exfs L z hL
   exact⟨hk,⟨L,_,hf,hn,e,hd⟩,ih (λ b hb=>hs b (by unfold frs;rw[List.filterMap_cons,hf];exact List.mem_cons_of_mem _ hb)) hr⟩
 exact all X.outer (λ _ hb=>hb) I.ok.funs
theorem Inv.stack (I:Inv X pins σ H s):s.heap.FunFrames X.base X.stack:=by
 rcases I.ok.stk with e|⟨e,hf⟩
 ·rw[e];exact I.funs
 ·rw[e]
  obtain⟨m,hn,_⟩:=I.loc
  refine .cons (by rw[I.ok.kind];decide) hf hn ?_ I.funs
  exact Heap.get?_none_of_le (Nat.le_trans I.ok.bsz I.ok.above)
theorem Inv.stkSub (I:Inv X pins σ H s):∀b∈frs X.stack,b∈X.env.locals::X.fs:=λ b hb=>by
 rcases I.ok.stk with e|⟨e,hf⟩
 ·rw[e] at hb;exact List.mem_cons_of_mem _ hb
 ·rw[e] at hb
  unfold frs at hb
  rw[List.filterMap_cons,hf] at hb
  exact hb
theorem Inv.stkFree (I:Inv X pins σ H s):∀b∈frs X.stack,H b=none:=λ b hb=>by
 rcases List.mem_cons.mp (I.stkSub b hb) with e|hb
 ·rw[e];exact I.free
 ·obtain⟨_,o,ho,_⟩:=I.ok.funs.mem hb
  exact I.base.free b o ho (I.ok.frf b hb) λ z=>I.ok.exfs b z hb
theorem Inv.step {g':Array GenState}{t':Nat}{d':Drawn}{ch:List Addr}(I:Inv X pins σ H s)
  (hch:∀b∈ch,(b∈X.ex∨X.s₀.heap.objs.size<=b)/\b≠X.env.locals/\(∀x c,X.env.cells.lookup x=some c->c≠b)/\∀p∈X.pn++pins,p.1≠b)
  (keep:∀b o,b≠X.env.locals->b∉X.fs->b∉ch->s.heap.get? b=some o->H b=none->h'.get? b=some o)
  (slot:∀b o,b≠X.env.locals->b∈X.fs->b∉ch->s.heap.get? b=some o->H b=none->∃sl,h'.get? b=some { o with slots:=sl }) (free:∀b o,b∉ch->s.heap.get? b=some o->H b=none->H' b=none)
  (there:∀b o,b∉ch->s.heap.get? b=some o->∃o',h'.get? b=some o')
  (tups:∀b xs,H b=some (.tup xs)->H' b=some (.tup xs)) (frzs:∀b o u,H b=some (.frz o u)->H' b=some (.frz o u)) (tbls:∀b ps,H b=some (.tbl ps)->∃more,H' b=some (.tbl (ps++more)))
  (ns:∀m,s.heap.Ns X.env.locals m->h'.Ns X.env.locals m) (hok:HOk X.prog X.w H' h') (hg:AllBare g') :
  Inv X pins σ H' { s with heap:=h',gens:=g',drawn:=d',toks:=t' }:=by
 have neL:∀b o,X.s₀.heap.get? b=some o->b≠X.env.locals:=λ b o e=>Nat.ne_of_lt (Nat.lt_of_lt_of_le (Heap.lt_size e) I.ok.above)
 have neC:∀b o,X.s₀.heap.get? b=some o->b∉X.ex->b∉ch:=λ b o e hx hb=>by
  rcases(hch b hb).1 with z|z
  ·exact hx z
  ·exact absurd (Nat.lt_of_lt_of_le (Heap.lt_size e) z) (Nat.lt_irrefl _)
 have cellK:∀x c,X.env.cells.lookup x=some c->∀v,s.heap.IsCell c v->h'.IsCell c v:=λ x c e v ⟨o,ho,hd⟩=>by
  have nch:c∉ch:=λ z=>(hch c z).2.2.1 x c e rfl
  by_cases hc:c∈X.fs
  ·obtain⟨sl,q⟩:=slot c o (I.cne x c e) hc nch ho (I.freeC x c e)
   exact⟨_,q,hd⟩
  ·exact⟨o,keep c o (I.cne x c e) hc nch ho (I.freeC x c e),hd⟩
 refine⟨I.ok,I.os,hg,⟨λ b o e n hb hx=>?_,λ b o e n hb hx=>?_,λ b o e n hx=>?_,λ b o e hx=>?_,λ b xs e=>tups b xs (I.base.tups b xs e),λ b o xs e=>frzs b o xs (I.base.frzs b o xs e),λ b ps e=>?_⟩,?_,λ x c e=>?_,?_,λ x c e=>?_,λ p hp=>?_,hok,I.len⟩
 ·exact keep b o (neL b o e) hb (neC b o e hx) (I.base.keep b o e n hb hx) (I.base.free b o e n hx)
 ·obtain⟨sl,e1⟩:=I.base.slot b o e n hb hx
  obtain⟨sl',e2⟩:=slot b _ (neL b o e) hb (neC b o e hx) e1 (I.base.free b o e n hx)
  exact⟨sl',e2⟩
 ·obtain⟨o',e1⟩:=I.base.there b o e hx
  exact free b o' (neC b o e hx) e1 (I.base.free b o e n hx)
 ·obtain⟨o',e1⟩:=I.base.there b o e hx
  exact there b o' (neC b o e hx) e1
 ·obtain⟨m1,e1⟩:=I.base.tbls b ps e
  obtain⟨m2,e2⟩:=tbls b _ e1
  exact⟨m1++m2,by rw[e2,Array.append_assoc]⟩
 ·obtain⟨m,hn,hl⟩:=I.loc
  refine⟨m,ns m hn,λ i x v e1 e2 e3=>?_⟩
  obtain⟨u,r,l⟩:=hl i x v e1 e2 e3
  refine⟨u,r,?_⟩
  rcases l with l|⟨k,c,e,z⟩
  ·exact .inl l
  ·exact .inr ⟨k,c,e,cellK x c e _ z⟩
 ·obtain⟨v,z⟩:=I.cell x c e
  exact⟨v,cellK x c e v z⟩
 ·obtain⟨m,⟨o,_,_,ho,_⟩,_⟩:=I.loc
  exact free _ o (λ z=>(hch _ z).2.1 rfl) ho I.free
 ·obtain⟨v,o,ho,hd⟩:=I.cell x c e
  exact free c o (λ z=>(hch c z).2.2.1 x c e rfl) ho (I.freeC x c e)
 ·obtain⟨e,n,ne,nf,d⟩:=I.pin p hp
  have nch:p.1∉ch:=λ z=>(hch p.1 z).2.2.2 p hp rfl
  exact⟨keep p.1 p.2 ne nf nch e n,free p.1 p.2 nch e n,ne,nf,d⟩
theorem Inv.un {t':Nat}(I:Inv X pins σ H s) (u:Un X.fs [] H H' s.heap h') (hok:HOk X.prog X.w H' h'):Inv X pins σ H' { s with heap:=h',toks:=t' }:=by
 obtain⟨m,⟨o,es,ep,ho,r⟩,_⟩:=id I.loc
 obtain⟨sl,hL⟩:=u.any ho I.free (by simp)
 exact I.step (g':=s.gens) (d':=s.drawn) (ch:=[]) (λ _ z=>nomatch z) (λ b o _ hb _ e n=>u.keep b o e n hb (by simp)) (λ b o _ hb _ e n=>u.slot b o e n hb (by simp)) (λ b o _ e n=>u.free b o e n (by simp)) (λ b o _ e=>u.there b o e (by simp)) u.tups u.frzs u.tbls (λ m' hm=>by
  obtain⟨o',es',ep',ho',r'⟩:=hm
  rw[ho] at ho';cases ho'
  exact⟨_,es',ep',hL,r'⟩) hok I.bare
theorem Inv.call {g':Array GenState}{t':Nat}{d':Drawn}{ch:List Addr}(I:Inv X pins σ H s) (u:Un (frs X.stack) ch H H' s.heap h') (hok:HOk X.prog X.w H' h') (hg:AllBare g')
  (hch:∀b∈ch,(b∈X.ex∨X.s₀.heap.objs.size<=b)/\b≠X.env.locals/\(∀x c,X.env.cells.lookup x=some c->c≠b)/\∀p∈X.pn++pins,p.1≠b) :
  Inv X pins σ H' { s with heap:=h',gens:=g',drawn:=d',toks:=t' }:=by
 obtain⟨m,⟨o,es,ep,ho,r⟩,_⟩:=id I.loc
 obtain⟨sl,hL⟩:=u.any ho I.free λ z=>(hch _ z).2.1 rfl
 exact I.step (ch:=ch) hch (λ b o hL hb hc e n=>u.keep b o e n (λ z=>(List.mem_cons.mp (I.stkSub b z)).elim hL hb) hc) (λ b o _ _ hc e n=>u.any e n hc) (λ b o hc e n=>u.free b o e n hc) (λ b o hc e=>u.there b o e hc) u.tups u.frzs u.tbls (λ m' hm=>by
  obtain⟨o',es',ep',ho',r'⟩:=hm
  rw[ho] at ho';cases ho'
  exact⟨_,es',ep',hL,r'⟩) hok hg
theorem Inv.turned {t':Nat}{it:Addr}(I:Inv X pins σ H s) (k:∀b o,b≠it->s.heap.get? b=some o->h'.get? b=some o) (hn:H it=none) (hL:it≠X.env.locals)
  (h1:it∈X.ex∨X.s₀.heap.objs.size<=it) (h2:∀x c,X.env.cells.lookup x=some c->c≠it) (h3:∀p∈X.pn++pins,p.1≠it):Inv X pins σ H { s with heap:=h',toks:=t' }:=by
 have nit:∀b u,H b=some u->b≠it:=λ b u e z=>by rw[z,hn] at e;cases e
 refine I.step (g':=s.gens) (d':=s.drawn) (ch:=[it]) (λ b hb=>?_) (λ b o _ _ hc e _=>k b o (λ z=>hc (by simp[z])) e) (λ b o _ _ hc e _=>⟨o.slots,k b o (λ z=>hc (by simp[z])) e⟩) (λ _ _ _ _ n=>n)
  (λ b o hc e=>⟨o,k b o (λ z=>hc (by simp[z])) e⟩) (λ _ _ e=>e) (λ _ _ _ e=>e) (λ b ps e=>⟨#[],by rw[e];simp⟩) (λ m hm=>?_) (λ b u e=>?_) I.bare
 ·have e:b=it:=by simpa using hb
  subst e
  exact⟨h1,hL,h2,h3⟩
 ·obtain⟨o,es,ep,ho,r⟩:=hm
  exact⟨o,es,ep,k _ o (Ne.symm hL) ho,r⟩
 ·refine(I.hok b u e).stay (λ c v hc q=>k c v ?_ q) (λ _ q=>q) λ _ _ q=>q
  rcases hc with z|z
  ·rw[z];exact nit b u e
  ·exact nit c _ z
theorem Inv.tok (I:Inv X pins σ H s) (t:Nat):Inv X pins σ H { s with toks:=t }:=I.un (h':=s.heap) (t':=t) Un.refl I.hok
theorem Inv.kept {t':Nat}(I:Inv X pins σ H s) (k:∀b u,s.heap.get? b=some u->h'.get? b=some u):Inv X pins σ H { s with heap:=h',toks:=t' }:=I.un (Un.kept k) (I.hok.kept k)
theorem Inv.laid {a:Addr}{o:HO}{t':Nat}(I:Inv X pins σ H s) (k:∀b u,s.heap.get? b=some u->h'.get? b=some u) (hp:s.heap.objs.size<=a) (new:Jas X.prog X.w (upd H a o) h' a o) :
  Inv X pins σ (upd H a o) { s with heap:=h',toks:=t' }:=I.un (Un.laid k hp (I.hok.fresh hp)) (I.hok.laid k hp new)
theorem Inv.write {x e:Addr}{o:HO}{t':Nat}(I:Inv X pins σ H s) (mu:Mut (H x)) (he:e=x∨H e=some (.own x)) (k:∀b u,b≠e->s.heap.get? b=some u->h'.get? b=some u) (heo:∃u,h'.get? e=some u)
  (new:Jas X.prog X.w (upd H x o) h' x o):Inv X pins σ (upd H x o) { s with heap:=h',toks:=t' }:=I.un (Un.write mu he k heo) (I.hok.write mu he k heo new)
theorem Inv.pins_of {pins':List (Addr×Obj)}(I:Inv X pins σ H s) (h:∀p∈pins',s.heap.get? p.1=some p.2/\H p.1=none/\p.1≠X.env.locals/\p.1∉X.fs/\∀v,p.2.data≠.cell v):Inv X pins' σ H s :=
 ⟨I.ok,I.os,I.bare,I.base,I.loc,I.cell,I.free,I.freeC,λ p hp=>(List.mem_append.mp hp).elim (λ z=>I.pin p (List.mem_append_left _ z)) (h p),I.hok,I.len⟩
theorem Jrg {N:List Str}(hN:N.Nodup){i j:Nat}{x:Str}(a:N[i]?=some x) (b:N[j]?=some x):i=j:=by
 obtain⟨h1,e1⟩:=List.getElem?_eq_some_iff.mp a
 obtain⟨h2,e2⟩:=List.getElem?_eq_some_iff.mp b
 exact(List.getElem_inj hN).mp (e1.trans e2.symm)
theorem Jwo {M:Model}{A:Around}{E:Value->Shared->Prop}{i:Nat}{x:Str}{v:V}{u:Value}{Q:Unit->Shared->Prop}(I:Inv X pins σ H s) (hN:X.N.Nodup) (hi:X.N[i]?=some x) (hx:Loc X.env.scope x) (r:RelV v u)
  (h:∀s',Inv X pins (σ.set i (some v)) H s'->(∃a,Heap.SameBut a s.heap s'.heap/\(a=X.env.locals∨X.env.cells.lookup x=some a))->Q () s') (hf:X.fn x=true∨X.env.scope.names.lookup x=some .local:=by assumption):wpAny M A (storeName X.env x u) Q E s:=by
 obtain⟨m,hn,hl⟩:=id I.loc
 have hcls:(X.env.scope.kind==.class||(X.env.scope.kind==.module&&X.env.locals != X.env.globals))=false:=by rw[I.ok.kind];rfl
 have hiσ:i<σ.length:=by rw[I.len];exact(List.getElem?_eq_some_iff.mp hi).1
 have cne:=I.cne
 have tracked:∀{a:Addr}{h':Heap},(∃o,s.heap.get? a=some o/\H a=none)->Heap.SameBut a s.heap h'->HOk X.prog X.w H h':=λ {a h'} ha hs b ob e=>by
  obtain⟨_,_,hfree⟩:=ha
  refine(I.hok b ob e).stay (λ c w' hc q=>(hs.2 c ?_).trans q) (λ _ q=>q) λ _ _ q=>q
  rintro rfl
  rcases hc with rfl|hc
  ·rw[hfree] at e;cases e
  ·rw[hfree] at hc;cases hc
 rcases hx with hk|hk
 ·refine wpAny_storeName_local hk hn (λ h' hn' hs=>?_) hcls
  obtain⟨oL,_,_,hoL,_⟩:=id hn
  refine h _ ⟨I.ok,I.os,I.bare,⟨λ b o e n hb hx=>?_,λ b o e n hb hx=>?_,I.base.free,λ b o e hx=>?_,I.base.tups,I.base.frzs,I.base.tbls⟩,⟨_,hn',λ j y v' e1 e2 e3=>?_⟩,λ y c e=>?_,I.free,I.freeC,λ p hp=>?_,tracked ⟨oL,hoL,I.free⟩ hs,by simpa using I.len⟩ ⟨_,hs,.inl rfl⟩
  ·exact(hs.2 b (Nat.ne_of_lt (Nat.lt_of_lt_of_le (Heap.lt_size e) I.ok.above))).trans (I.base.keep b o e n hb hx)
  ·obtain⟨sl,e1⟩:=I.base.slot b o e n hb hx
   exact⟨sl,(hs.2 b (Nat.ne_of_lt (Nat.lt_of_lt_of_le (Heap.lt_size e) I.ok.above))).trans e1⟩
  ·obtain⟨o',e1⟩:=I.base.there b o e hx
   exact⟨o',(hs.2 b (Nat.ne_of_lt (Nat.lt_of_lt_of_le (Heap.lt_size e) I.ok.above))).trans e1⟩
  ·by_cases hj:j=i
   ·subst hj
    rw[hi] at e1;cases e1
    rw[List.getElem?_set_self hiσ] at e2
    cases e2
    exact⟨u,r,.inl ⟨hk,by simp⟩⟩
   ·rw[List.getElem?_set_ne (Ne.symm hj)] at e2
    obtain⟨u',r',q⟩:=hl j y v' e1 e2 e3
    refine⟨u',r',?_⟩
    rcases q with⟨k,e⟩|⟨k,c,e,z⟩
    ·refine .inl ⟨k,?_⟩
     have:y≠x:=λ e=>hj (Jrg hN e1 (e▸hi))
     simp[this,e]
    ·exact .inr ⟨k,c,e,z.sameBut hs (cne y c e)⟩
  ·obtain⟨w',z⟩:=I.cell y c e
   exact⟨w',z.sameBut hs (cne y c e)⟩
  ·obtain⟨e,n,ne,nf,d⟩:=I.pin p hp
   exact⟨(hs.2 p.1 ne).trans e,n,ne,nf,d⟩
 ·have hfn:X.fn x=true:=by
   rcases hf with z|z
   ·exact z
   ·rw[z] at hk;cases hk
  obtain⟨c,hc⟩:=I.ok.has x (.inl hk)
  obtain⟨w',z⟩:=I.cell x c hc
  refine wpAny_storeName_cell I.ok.kind hk hc z (λ h' hc' hs=>?_)
  obtain⟨oc,hoc,hocd⟩:=id z
  refine h { s with heap:=h' } ⟨I.ok,I.os,I.bare,⟨λ b o e n hb hx=>?_,λ b o e n hb hx=>?_,I.base.free,λ b o e hx=>?_,I.base.tups,I.base.frzs,I.base.tbls⟩,⟨m,hn.sameBut hs (Ne.symm (cne x c hc)),λ j y v' e1 e2 e3=>?_⟩,λ y c' e=>?_,I.free,I.freeC,λ p hp=>?_,tracked ⟨oc,hoc,I.freeC x c hc⟩ hs,by simpa using I.len⟩ ⟨c,hs,.inr hc⟩
  ·exact(hs.2 b (Nat.ne_of_lt (Nat.lt_of_lt_of_le (Heap.lt_size e) (I.ok.cab x c hfn hc)))).trans (I.base.keep b o e n hb hx)
  ·obtain⟨sl,e1⟩:=I.base.slot b o e n hb hx
   exact⟨sl,(hs.2 b (Nat.ne_of_lt (Nat.lt_of_lt_of_le (Heap.lt_size e) (I.ok.cab x c hfn hc)))).trans e1⟩
  ·obtain⟨o',e1⟩:=I.base.there b o e hx
   exact⟨o',(hs.2 b (Nat.ne_of_lt (Nat.lt_of_lt_of_le (Heap.lt_size e) (I.ok.cab x c hfn hc)))).trans e1⟩
  ·by_cases hj:j=i
   ·subst hj
    rw[hi] at e1;cases e1
    rw[List.getElem?_set_self hiσ] at e2
    cases e2
    exact⟨u,r,.inr ⟨.inl hk,c,hc,hc'⟩⟩
   ·rw[List.getElem?_set_ne (Ne.symm hj)] at e2
    obtain⟨u',r',q⟩:=hl j y v' e1 e2 e3
    refine⟨u',r',?_⟩
    rcases q with q|⟨k,c',e,z'⟩
    ·exact .inl q
    ·refine .inr ⟨k,c',e,z'.sameBut hs ?_⟩
     rintro rfl
     exact hj (Jrg hN e1 (I.ok.inj _ _ _ e hc▸hi))
  ·by_cases hcc:c'=c
   ·subst hcc;exact⟨_,hc'⟩
   ·obtain⟨w2,z2⟩:=I.cell y c' e
    exact⟨w2,z2.sameBut hs hcc⟩
  ·obtain⟨e,n,ne,nf,d⟩:=I.pin p hp
   refine⟨(hs.2 p.1 ?_).trans e,n,ne,nf,d⟩
   intro q
   rw[q,hoc] at e
   have q':oc=p.2:=Option.some.inj e
   exact d w' (by rw[<- q'];exact hocd)
theorem Jji {M:Model}{A:Around}{E:Value->Shared->Prop}{i:Nat}{x:Str}{v:V}{u:Value}{Q:Unit->Shared->Prop}(I:Inv X pins σ H s) (hN:X.N.Nodup) (hi:X.N[i]?=some x) (hx:Loc X.env.scope x) (r:RelV v u)
  (h:∀s',Inv X pins (σ.set i (some v)) H s'->Q () s') (hf:X.fn x=true∨X.env.scope.names.lookup x=some .local:=by assumption):wpAny M A (storeName X.env x u) Q E s :=
 Jwo I hN hi hx r (λ s' I' _=>h s' I') hf
theorem Inv.call' {s':Shared}{ch:List Addr}(I:Inv X pins σ H s) (ho:s'.os=s.os) (u:Un (frs X.stack) ch H H' s.heap s'.heap) (hok:HOk X.prog X.w H' s'.heap) (hg:AllBare s'.gens)
  (hch:∀b∈ch,(b∈X.ex∨X.s₀.heap.objs.size<=b)/\b≠X.env.locals/\(∀x c,X.env.cells.lookup x=some c->c≠b)/\∀p∈X.pn++pins,p.1≠b):Inv X pins σ H' s':=by
 obtain⟨h',g',d',t',o'⟩:=s'
 have e:o'=s.os:=ho
 subst e
 exact I.call (g':=g') (t':=t') (d':=d') u hok hg hch
end
noncomputable abbrev XK:=Value->Option Addr->Hp->Prop
noncomputable abbrev St:=List (Option V)
noncomputable abbrev VK:=V->Hp->Prop
noncomputable abbrev TE:=St->Hp->VK->Prop
noncomputable abbrev TT:=St->Hp->(Bool->Hp->Prop)->Prop
noncomputable abbrev TA:=St->Hp->(List V->Hp->Prop)->Prop
structure Ends where
 nx:St->Hp->Prop
 rt:VK
 bk:St->Hp->Prop:=λ _ _=>False
 ct:St->Hp->Prop:=λ _ _=>False
noncomputable abbrev TS:=Ends->St->Hp->Prop
noncomputable def EP (X:Cx) (pins:List (Addr×Obj)) (σ:St) (Q:VK) (u:Value) (s':Shared):Prop:=∃v H',Inv X pins σ H' s'/\RelV v u/\Q v H'
noncomputable def TP (X:Cx) (pins:List (Addr×Obj)) (σ:St) (Q:Bool->Hp->Prop) (b:Bool) (s':Shared):Prop:=∃H',Inv X pins σ H' s'/\Q b H'
noncomputable def SP (X:Cx) (pins:List (Addr×Obj)) (D:Ends) (f:Flow) (s':Shared):Prop :=
 match f with
 | .next=>∃σ' H',Inv X pins σ' H' s'/\D.nx σ' H'
 | .brk=>∃σ' H',Inv X pins σ' H' s'/\D.bk σ' H'
 | .cont=>∃σ' H',Inv X pins σ' H' s'/\D.ct σ' H'
 | .ret u=>∃v σ' H',Inv X pins σ' H' s'/\RelV v u/\D.rt v H'
noncomputable def PE (X:Cx) (e:Expr) (t:TE):Prop :=
 ∀(pins:List (Addr×Obj)) (s:Shared) (σ:St) (H:Hp) (Q:VK),Inv X pins σ H s->t σ H Q->wpAny (model X.prog X.w) X.A (eval e X.env) (EP X pins σ Q) X.xe s
noncomputable def PT (X:Cx) (e:Expr) (t:TT):Prop :=
 ∀(pins:List (Addr×Obj)) (s:Shared) (σ:St) (H:Hp) (Q:Bool->Hp->Prop),Inv X pins σ H s->t σ H Q->wpAny (model X.prog X.w) X.A (isTrue e X.env (eval e X.env)) (TP X pins σ Q) X.xe s
noncomputable def PW (X:Cx) (e:Expr) (t:TT):Prop :=
 ∀(whole:Sem Value) (pins:List (Addr×Obj)) (s:Shared) (σ:St) (H:Hp) (Q:Bool->Hp->Prop),Inv X pins σ H s->t σ H Q->wpAny (model X.prog X.w) X.A (isTrue e X.env whole) (TP X pins σ Q) X.xe s
theorem PW.pt {X:Cx}{e:Expr}{t:TT}(h:PW X e t):PT X e t:=h _
noncomputable def PSs (X:Cx) (st:List Stmt) (t:TS):Prop :=
 ∀(pins:List (Addr×Obj)) (s:Shared) (σ:St) (H:Hp) (D:Ends),Inv X pins σ H s->t D σ H->wpAny (model X.prog X.w) X.A (execs st X.env) (SP X pins D) X.xe s
theorem thn {α:Type}{t:Sem α}{Q Q':α->Shared->Prop}{M:Model}{A:Around}{E:Value->Shared->Prop}{s:Shared}(h:wpAny M A t Q E s) (hQ:∀a s,Q a s->Q' a s):wpAny M A t Q' E s:=wpAny_mono h hQ λ _ _ x=>x
section
variable {X:Cx}
noncomputable def tVar (i:Nat):TE:=λ σ H Q=>∃v,σ[i]?=some (some v)/\Q v H
noncomputable def tC (v:V):TE:=λ _ H Q=>Q v H
theorem J4f {i:Nat}{x:Str}{pos:Pos}(hN:X.N[i]?=some x) (hv:Vis X.env.scope x) (hd:(x==("__debug__":Str))=false:=by decide) (hcd:(x==("__classdict__":Str))=false:=by decide):PE X (.Name x pos) (tVar i):=by
 intro pins s σ H Q I h
 obtain⟨v,e,h⟩:=h
 obtain⟨m,hn,hl⟩:=I.loc
 obtain⟨u,r,l⟩:=hl i x v hN e hv
 have fin:EP X pins σ Q u s:=⟨v,H,I,r,h⟩
 rcases l with⟨hk,hm⟩|⟨hk,c,hc,hcell⟩
 ·exact wpAny_Name (wpAny_loadName_local I.ok.kind hk hn hm fin) hd
 ·rcases hk with hk|hk
  ·exact wpAny_Name (wpAny_loadName_cell I.ok.kind hk hc hcell fin) hd
  ·exact wpAny_Name (wpAny_loadName_free I.ok.kind hk hc hcell fin hcd) hd
theorem J4c {i j pos}:PE X (.Constant (.int i) j pos) (tC (.int i)):=λ _ _ _ H _ I h=>wpAny_Constant_int ⟨.int i,H,I.tok _,⟨_,rfl⟩,h⟩
theorem pe_bl {b j pos}:PE X (.Constant (.bool b) j pos) (tC (.bl b)):=λ _ _ _ H _ I h=>Constant_bool ⟨.bl b,H,I,rfl,h⟩
theorem J4d {j pos}:PE X (.Constant .none j pos) (tC .non):=λ _ _ _ H _ I h=>Constant_none ⟨.non,H,I,rfl,h⟩
theorem J4e {x j pos}:PE X (.Constant (.str x) j pos) (tC (.str x)):=λ _ _ _ H _ I h=>Calls.Constant_str ⟨.str x,H,I.tok _,⟨_,rfl⟩,h⟩
noncomputable def Gl (X:Cx) (x:Str):Prop:=X.env.kindOf x=some .globalImplicit
theorem Jhn {E:Value->Shared->Prop}{pins:List (Addr×Obj)}{s:Shared}{σ:St}{H:Hp}{x:Str}{u:Value}{pos:Pos}{Q:Value->Shared->Prop}(I:Inv X pins σ H s) (hg:Gl X x) (hm:X.mg x=some u) (h:Q u s)
  (hd:(x==("__debug__":Str))=false:=by decide):wpAny (model X.prog X.w) X.A (eval (.Name x pos) X.env) Q E s :=
 Calls.Name_function_global I.ok.kind hg (Calls.loadGlobal_global (by rw[I.ok.glob];exact I.mod.glob.keeps I.bk) hm h) hd
theorem Jc2 {E:Value->Shared->Prop}{pins:List (Addr×Obj)}{s:Shared}{σ:St}{H:Hp}{x:Str}{u:Value}{pos:Pos}{Q:Value->Shared->Prop}(I:Inv X pins σ H s) (hg:Gl X x) (hm:X.mg x=none) (hv:bootBuiltins x=some u) (h:Q u s)
  (hn:x≠"__name__":=by decide) (hd:(x==("__debug__":Str))=false:=by decide):wpAny (model X.prog X.w) X.A (eval (.Name x pos) X.env) Q E s:=by
 obtain⟨mb,h1,h2⟩:=I.mod.blt
 exact Calls.Name_function_global I.ok.kind hg (Calls.loadGlobal_builtin (by rw[I.ok.glob];exact I.mod.glob.keeps I.bk) hm (by rw[I.ok.blt];exact h1.keeps I.bk) ((h2 x hn).trans hv) h) hd
theorem J1j {x:Str}{v:V}{u:Value}{pos:Pos}(hg:Gl X x) (hm:X.mg x=some u) (r:RelV v u) (hd:(x==("__debug__":Str))=false:=by decide):PE X (.Name x pos) (tC v) :=
 λ _ _ _ H _ I h=>Jhn I hg hm ⟨v,H,I,r,h⟩ hd
variable {a b:Expr}{ta tb:TE}{pos:Pos}
variable {tA tB':TT}{rest:List Expr}
end
noncomputable def SqL (K:W.Frag) (H:Hp) (a:Addr) (xs:List V):Prop :=
 Rd H a (.lst xs) ∨
  ∃(o:Obj) (its:Array Value) (n:Nat),K.lookup a=some o/\o.cls=.type "list"/\o.dict=none/\o.data=.seq its n/\its.size<=sizeLine/\Vals xs its.toList
noncomputable def SqT (K:W.Frag) (H:Hp) (a:Addr) (xs:List V):Prop :=
 Rd H a (.tup xs) ∨
  ∃(o:Obj) (its:Array Value) (n:Nat),K.lookup a=some o/\o.cls=.type "tuple"/\o.data=.seq its n/\its.size<=sizeLine/\Vals xs its.toList
noncomputable def absV:Value->Option V
 | .none=>some .non
 | .bool b=>some (.bl b)
 | .int i _=>some (.int i)
 | .str x _=>some (.str x)
 | .bytes b _=>some (.byt b)
 | .float b _=>some (.flt b)
 | .ref a=>some (.ref a)
 | .type n=>some (.ty n)
 | _=>none
theorem RelV.abs {x:V}{u:Value}(r:RelV x u):absV u=some x:=by
 cases x with
 | non=>cases r;rfl
 | bl _=>cases r;rfl
 | int _=>obtain⟨t,rfl⟩:=r;rfl
 | str _=>obtain⟨t,rfl⟩:=r;rfl
 | byt _=>obtain⟨t,rfl⟩:=r;rfl
 | flt _=>obtain⟨t,rfl⟩:=r;rfl
 | ref _=>cases r;rfl
 | ty _=>cases r;rfl
theorem RelV.inj {x y:V}{u:Value}(r:RelV x u) (q:RelV y u):x=y:=Option.some.inj (r.abs.symm.trans q.abs)
theorem Vals.inj:∀{xs ys:List V}{us:List Value},Vals xs us->Vals ys us->xs=ys
 | _,_,_,.nil,.nil=>rfl
 | _,_,_,.cons r t,.cons r' t'=>by rw[r.inj r',Vals.inj t t']
section
variable {X:Cx}{pins:List (Addr×Obj)}{σ:St}{H:Hp}{s:Shared}{a:Addr}{xs ys:List V}
theorem SqL.of {K:W.Frag}(h:H a=some (.lst xs)):SqL K H a xs:=.inl (.inl h)
theorem SqT.of {K:W.Frag}(h:H a=some (.tup xs)):SqT K H a xs:=.inl (.inl h)
theorem Inv.list (I:Inv X pins σ H s) (h:SqL X.K H a xs):∃its:List Value,Vals xs its/\PlainL s.heap a its.toArray/\xs.length<=sizeLine:=by
 rcases h with h|⟨o,its,n,hk,hc,hd,hs,hz,r⟩
 ·obtain⟨z,its,n,r,e⟩:=h.ok I.hok
  exact⟨its,r,⟨_,n,e,rfl,rfl,rfl⟩,z⟩
 ·refine⟨its.toList,r,⟨o,n,I.kIn a o hk,hc,hd,by simpa using hs⟩,?_⟩
  have e:=r.length
  simp only[Array.length_toList] at e
  omega
theorem Inv.tuple (I:Inv X pins σ H s) (h:SqT X.K H a xs):∃its:List Value,Vals xs its/\IsTup s.heap a its.toArray/\xs.length<=sizeLine:=by
 rcases h with h|⟨o,its,n,hk,hc,hs,hz,r⟩
 ·obtain⟨z,its,r,p⟩:=h.ok I.hok
  exact⟨its,r,p,z⟩
 ·refine⟨its.toList,r,⟨o,I.kIn a o hk,hc,n,by simpa using hs⟩,?_⟩
  have e:=r.length
  simp only[Array.length_toList] at e
  omega
theorem Inv.list_inj (I:Inv X pins σ H s) (h:SqL X.K H a xs) (h':SqL X.K H a ys):xs=ys:=by
 obtain⟨its,r,⟨o,n,e,_,_,d⟩,_⟩:=I.list h
 obtain⟨its',r',⟨o',n',e',_,_,d'⟩,_⟩:=I.list h'
 rw[e] at e';cases e'
 rw[d] at d'
 injection d' with d1 _
 have:its=its':=by simpa using congrArg Array.toList d1
 subst this
 exact r.inj r'
theorem Inv.tuple_inj (I:Inv X pins σ H s) (h:SqT X.K H a xs) (h':SqT X.K H a ys):xs=ys:=by
 obtain⟨its,r,⟨o,e,_,n,d⟩,_⟩:=I.tuple h
 obtain⟨its',r',⟨o',e',_,n',d'⟩,_⟩:=I.tuple h'
 rw[e] at e';cases e'
 rw[d] at d'
 injection d' with d1 _
 have:its=its':=by simpa using congrArg Array.toList d1
 subst this
 exact r.inj r'
end
noncomputable abbrev Cx.wish (X:Cx) (E:Value->Shared->Prop):Cx:={ X with xe:=E }
noncomputable abbrev Cx.nox (X:Cx):Cx:=X.wish λ _ _=>False
theorem Cx.Ok.wish {X:Cx}(ok:X.Ok) (E:Value->Shared->Prop):(X.wish E).Ok :=
 ⟨ok.mod,ok.kind,ok.glob,ok.blt,ok.above,ok.inj,ok.has,ok.cab,ok.hd,ok.frames,ok.stk,ok.exf,ok.bs,ok.bsz,ok.noex,ok.exfs,ok.funs,ok.frf⟩
theorem Cx.Ok.unwish {X:Cx}{E:Value->Shared->Prop}(ok:(X.wish E).Ok):X.Ok :=
 ⟨ok.mod,ok.kind,ok.glob,ok.blt,ok.above,ok.inj,ok.has,ok.cab,ok.hd,ok.frames,ok.stk,ok.exf,ok.bs,ok.bsz,ok.noex,ok.exfs,ok.funs,ok.frf⟩
section
variable {X:Cx}{pins:List (Addr×Obj)}{σ:St}{H:Hp}{s:Shared}{E:Value->Shared->Prop}
theorem Inv.wish (I:Inv X pins σ H s) (E:Value->Shared->Prop):Inv (X.wish E) pins σ H s:=⟨I.ok.wish E,I.os,I.bare,I.base,I.loc,I.cell,I.free,I.freeC,I.pin,I.hok,I.len⟩
theorem Inv.unwish (I:Inv (X.wish E) pins σ H s):Inv X pins σ H s:=⟨I.ok.unwish,I.os,I.bare,I.base,I.loc,I.cell,I.free,I.freeC,I.pin,I.hok,I.len⟩
theorem SP.unwish {D:Ends}{f:Flow}{s':Shared}(h:SP (X.wish E) pins D f s'):SP X pins D f s':=by
 cases f with
 | next=>obtain⟨σ',H',I,q⟩:=h;exact⟨σ',H',I.unwish,q⟩
 | brk=>obtain⟨σ',H',I,q⟩:=h;exact⟨σ',H',I.unwish,q⟩
 | cont=>obtain⟨σ',H',I,q⟩:=h;exact⟨σ',H',I.unwish,q⟩
 | ret u=>obtain⟨v,σ',H',I,r,q⟩:=h;exact⟨v,σ',H',I.unwish,r,q⟩
theorem PE.nox {e:Expr}{t:TE}(h:PE X.nox e t):PE X e t:=λ pins s σ H Q I hw =>
 wpAny_mono (h pins s σ H Q (I.wish _) hw) (λ _ _ ⟨v,H',I',r,q⟩=>⟨v,H',I'.unwish,r,q⟩) λ _ _ z=>False.elim z
theorem PT.nox {e:Expr}{t:TT}(h:PT X.nox e t):PT X e t:=λ pins s σ H Q I hw =>
 wpAny_mono (h pins s σ H Q (I.wish _) hw) (λ _ _ ⟨H',I',q⟩=>⟨H',I'.unwish,q⟩) λ _ _ z=>False.elim z
theorem PSs.nox {st:List Stmt}{t:TS}(h:PSs X.nox st t):PSs X st t:=λ pins s σ H D I hw =>
 wpAny_mono (h pins s σ H D (I.wish _) hw) (λ _ _ q=>q.unwish) λ _ _ z=>False.elim z
end
section
variable {X:Cx}{st:Stmt}{rest:List Stmt}{t u:TS}{e:Expr}{te:TE}{pos:Pos}
theorem Inv.quiet {pins:List (Addr×Obj)}{σ:St}{H:Hp}{s:Shared}(I:Inv X pins σ H s):interactive X.env=false:=by simp[interactive,I.ok.kind]
end
noncomputable abbrev TSet:=V->V->V->Hp->(Hp->Prop)->Prop
noncomputable def PSet (X:Cx) (t:TSet):Prop :=
 ∀(pins:List (Addr×Obj)) (s:Shared) (σ:St) (H:Hp) (o i v:V) (ov iv u:Value) (Q:Hp->Prop),Inv X pins σ H s->RelV o ov->RelV i iv->RelV v u->t o i v H Q ->
  wpAny (model X.prog X.w) X.A (setItem ov iv u) (λ _ s'=>∃H',Inv X pins σ H' s'/\Q H') X.xe s
noncomputable abbrev TIp:=V->V->Hp->VK->Prop
section
variable {X:Cx}{pos:Pos}
noncomputable def ipI (f:Int->Int->Int):TIp:=λ x y H Q=>∃i j,x=.int i/\y=.int j/\Q (.int (f i j)) H
end
structure It where
 go:Nat->Hp->Prop
 yld:Nat->Hp->V->Hp->Prop
 stop:Nat->Hp->Prop
noncomputable def FpOk (X:Cx) (pins:List (Addr×Obj)) (H:Hp) (b:Addr):Prop :=
 H b=none/\b≠X.env.locals/\b∉X.fs/\(b∈X.ex∨X.s₀.heap.objs.size<=b)/\(∀x c,X.env.cells.lookup x=some c->c≠b)/\∀p∈X.pn++pins,p.1≠b
theorem Inv.fpOk {X:Cx}{pins:List (Addr×Obj)}{σ:St}{H H':Hp}{s:Shared}{b:Addr}(I:Inv X pins σ H s) (hb:s.heap.objs.size<=b) (hn:H' b=none):FpOk X pins H' b:=by
 refine⟨hn,Nat.ne_of_gt (Nat.lt_of_lt_of_le I.lt hb),I.nofs hb,.inr (Nat.le_trans I.sz hb),λ x c e z=>?_,λ p hp z=>?_⟩
 ·obtain⟨v,q⟩:=I.cell x c e
  exact absurd (Nat.lt_of_lt_of_le q.lt (by rw[z];exact hb)) (Nat.lt_irrefl _)
 ·exact absurd (Nat.lt_of_lt_of_le (Heap.lt_size (I.pin p hp).1) (by rw[z];exact hb)) (Nat.lt_irrefl _)
structure Turn (P:Program) (w:World) (K:W.Frag) (tg:Expr) (J:It) (fp:List Addr) (it:Addr) (tn:Nat->Heap->Prop):Prop where
 mem:it∈fp
 obj:∀i h,tn i h->∀b∈fp,∃o,h.get? b=some o/\∀v,o.data≠.cell v
 keep:∀i h h',tn i h->(∀b∈fp,∀o,h.get? b=some o->h'.get? b=some o)->tn i h'
 item:∀(X:Cx),X.prog=P->X.w=w->X.K=K->X.calm=true->∀(i:Nat) (pins:List (Addr×Obj)) (s:Shared) (σ:St) (H:Hp) (E:Value->Shared->Prop),Inv X pins σ H s->(∀b∈fp,FpOk X pins H b)->tn i s.heap->J.go i H ->
  wpAny (model P w) X.A (pyNext (.ref it)) (λ r s1=>∃u,r=some u /\
   wpAny (model P w) X.A (letOwnedTupleGo tg (.ref it) u) (λ _ s2=>∃x H',Inv X pins σ H' s2/\RelV x u/\J.yld i H x H'/\tn (i+1) s2.heap/\∀b∈fp,H' b=none) E s1) E s
 done:∀(X:Cx),X.prog=P->X.w=w->X.K=K->X.calm=true->∀(i:Nat) (pins:List (Addr×Obj)) (s:Shared) (σ:St) (H:Hp) (E:Value->Shared->Prop),Inv X pins σ H s->(∀b∈fp,FpOk X pins H b)->tn i s.heap->J.stop i H ->
  wpAny (model P w) X.A (pyNext (.ref it)) (λ r s1=>r=none/\Inv X pins σ H s1) E s
 self:∀(A:Around) (i:Nat) (s:Shared) (Q:Value->Shared->Prop) (E:Value->Shared->Prop),tn i s.heap->Q (.ref it) s->wpAny (model P w) A (pyIter (.ref it)) Q E s
noncomputable abbrev TI:=St->Hp->(It->Hp->Prop)->Prop
noncomputable def PIE (X:Cx) (pins:List (Addr×Obj)) (σ:St) (tg:Expr) (R:It->Hp->Prop) (itv:Value) (s2:Shared):Prop :=
 ∃(it:Addr) (fp:List Addr) (tn:Nat->Heap->Prop) (J:It) (H':Hp),itv=.ref it/\Inv X pins σ H' s2/\Turn X.prog X.w X.K tg J fp it tn/\tn 0 s2.heap/\(∀b∈fp,FpOk X pins H' b)/\R J H'
noncomputable def PI (X:Cx) (tg iter:Expr) (wi:TI):Prop :=
 ∀(pins:List (Addr×Obj)) (s:Shared) (σ:St) (H:Hp) (R:It->Hp->Prop),Inv X pins σ H s->wi σ H R ->
  wpAny (model X.prog X.w) X.A (eval iter X.env) (λ v s1=>wpAny (model X.prog X.w) X.A (pyIter v) (PIE X pins σ tg R) X.xe s1) X.xe s
theorem Jxj {M:Model}{A:Around}{E:Value->Shared->Prop}{s:Shared}{tg:Expr}{it:Addr}{u:Value}{o:Obj}{n:String}{vs:Array Value}{Q:Unit->Shared->Prop}(ho:s.heap.get? it=some o) (hc:o.cls=.type n) (hd:o.data=.fields vs)
  (hn:["enumerate","zip","dict_itemiterator","dict_reverseitemiterator","odict_iterator","itertools.zip_longest","itertools.pairwise"].contains n=false) (hQ:Q () s):wpAny M A (letOwnedTupleGo tg (.ref it) u) Q E s:=by
 unfold letOwnedTupleGo
 cases tg<;>first
  | exact wpAny_pure hQ
  | (cases u<;>first
    | exact wpAny_pure hQ
    | (refine wpAny_bind (wpAny_load ho ?_)
       rw[hc,hd]
       show wpAny M A (if (["enumerate","zip","dict_itemiterator","dict_reverseitemiterator","odict_iterator","itertools.zip_longest","itertools.pairwise"].contains n&&vs[0]?==some (rawInt _))=true then _ else _) Q E s
       rw[if_neg (by intro h;rw[hn,Bool.false_and] at h;cases h)]
       exact wpAny_pure hQ))
noncomputable def Itl (K:W.Frag) (a:Addr):It :=
 ⟨λ i H=>∃xs x,SqL K H a xs/\xs[i]?=some x,λ i H x H'=>H'=H/\∀xs,SqL K H a xs->xs[i]?=some x,λ i H=>∃xs,SqL K H a xs/\xs.length<=i⟩
noncomputable def Itt (K:W.Frag) (a:Addr):It :=
 ⟨λ i H=>∃xs x,SqT K H a xs/\xs[i]?=some x,λ i H x H'=>H'=H/\∀xs,SqT K H a xs->xs[i]?=some x,λ i H=>∃xs,SqT K H a xs/\xs.length<=i⟩
noncomputable def Itr (lo:Int) (n:Nat):It:=⟨λ i _=>i<n,λ i H x H'=>H'=H/\x=.int (lo+i),λ i _=>n<=i⟩
theorem Jpo {P:Program}{w:World}{K:W.Frag}{tg:Expr}(a it:Addr):Turn P w K tg (Itl K a) [it] it (λ i h=>h.IsListIter it a i) where
 mem:=by simp
 obj:=λ i h st b hb=>by
  have e:b=it:=by simpa using hb
  subst e
  obtain⟨o,e,c,d⟩:=st
  exact⟨o,e,λ v z=>by rw[d] at z;cases z⟩
 keep:=λ i h h' st k=>st.at λ o e=>k it (by simp) o e
 item:=by
  intro X hP hw hK hc i pins s σ H E I hf st hg
  subst hP hw hK
  obtain⟨xs,x,hq,hx⟩:=hg
  obtain⟨its,rv,p,hz⟩:=I.list hq
  obtain⟨u,hu,ru⟩:=rv.get hx
  obtain⟨f0,f1,f2,f3,f4,f5⟩:=hf it (by simp)
  refine wpAny_pyNext_list_item st p.isList (x:=u) (by simpa using hu) λ h' st' sb=>?_
  have I1:Inv X pins σ H { s with heap:=h' }:=I.turned (t':=s.toks) (λ b o hb e=>(sb.2 b hb).trans e) f0 f1 f3 f4 f5
  obtain⟨o,e,c,d⟩:=id st'
  exact⟨u,rfl,Jxj (s:={ s with heap:=h' }) e c d (by decide) ⟨x,H,I1,ru,⟨rfl,λ ys hy=>by rw[I.list_inj hy hq];exact hx⟩,st',λ b hb=>(hf b hb).1⟩⟩
 done:=by
  intro X hP hw hK hc i pins s σ H E I hf st hg
  subst hP hw hK
  obtain⟨xs,hq,hx⟩:=hg
  obtain⟨its,rv,p,hz⟩:=I.list hq
  obtain⟨f0,f1,f2,f3,f4,f5⟩:=hf it (by simp)
  have hl:=rv.length
  exact wpAny_pyNext_list_end (I.ok.hd hc) st p.isList (by simp;omega) λ h' eb=>⟨rfl,I.turned (t':=s.toks) (λ b o hb e=>eb b o hb e) f0 f1 f3 f4 f5⟩
 self:=λ _ _ _ _ _ st h=>wpAny_pyIter_listiter st h
theorem Jtm {P:Program}{w:World}{K:W.Frag}{tg:Expr}(a it:Addr):Turn P w K tg (Itt K a) [it] it (λ i h=>h.IsTupleIter it a i) where
 mem:=by simp
 obj:=λ i h st b hb=>by
  have e:b=it:=by simpa using hb
  subst e
  obtain⟨o,e,c,d⟩:=st
  exact⟨o,e,λ v z=>by rw[d] at z;cases z⟩
 keep:=λ i h h' st k=>st.at λ o e=>k it (by simp) o e
 item:=by
  intro X hP hw hK hc i pins s σ H E I hf st hg
  subst hP hw hK
  obtain⟨xs,x,hq,hx⟩:=hg
  obtain⟨its,rv,p,hz⟩:=I.tuple hq
  obtain⟨u,hu,ru⟩:=rv.get hx
  obtain⟨f0,f1,f2,f3,f4,f5⟩:=hf it (by simp)
  refine wpAny_pyNext_tuple_item st (show s.heap.IsTuple a its.toArray from p) (x:=u) (by simpa using hu) λ h' st' sb=>?_
  have I1:Inv X pins σ H { s with heap:=h' }:=I.turned (t':=s.toks) (λ b o hb e=>(sb.2 b hb).trans e) f0 f1 f3 f4 f5
  obtain⟨o,e,c,d⟩:=id st'
  exact⟨u,rfl,Jxj (s:={ s with heap:=h' }) e c d (by decide) ⟨x,H,I1,ru,⟨rfl,λ ys hy=>by rw[I.tuple_inj hy hq];exact hx⟩,st',λ b hb=>(hf b hb).1⟩⟩
 done:=by
  intro X hP hw hK hc i pins s σ H E I hf st hg
  subst hP hw hK
  obtain⟨xs,hq,hx⟩:=hg
  obtain⟨its,rv,p,hz⟩:=I.tuple hq
  obtain⟨f0,f1,f2,f3,f4,f5⟩:=hf it (by simp)
  have hl:=rv.length
  exact wpAny_pyNext_tuple_end (I.ok.hd hc) st (show s.heap.IsTuple a its.toArray from p) (by simp;omega) λ h' eb=>⟨rfl,I.turned (t':=s.toks) (λ b o hb e=>eb b o hb e) f0 f1 f3 f4 f5⟩
 self:=λ _ _ _ _ _ st h=>wpAny_pyIter_tupleiter st h
theorem Jtl {P:Program}{w:World}{K:W.Frag}{tg:Expr}(it:Addr) (lo:Int) (n:Nat):Turn P w K tg (Itr lo n) [it] it (λ i h=>IsRangeIter h it (lo+(i:Nat)*1) ((n:Int)-(i:Nat)) 1) where
 mem:=by simp
 obj:=λ i h st b hb=>by
  have e:b=it:=by simpa using hb
  subst e
  exact⟨_,st,λ v z=>by
   have z':Data.fields _=Data.cell v:=z
   cases z'⟩
 keep:=λ i h h' st k=>k it (by simp) _ st
 item:=by
  intro X hP hw hK hc i pins s σ H E I hf st hg
  subst hP hw hK
  obtain⟨f0,f1,f2,f3,f4,f5⟩:=hf it (by simp)
  have W:=Walks.range (prog:=X.prog) (w:=X.w) (I.ok.hd hc) it lo 1 n
  refine W.item i s _ _ hg st λ v h' tk hv st' kk=>?_
  obtain⟨t,rfl⟩:=hv
  have I1:Inv X pins σ H { s with heap:=h',toks:=tk }:=I.turned (λ b o hb e=>kk b o (by simpa using hb) e) f0 f1 f3 f4 f5
  refine⟨_,rfl,Jxj (s:={ s with heap:=h',toks:=tk }) (n:="range_iterator") st' rfl rfl (by decide) ⟨.int (lo+i),H,I1,⟨t,?_⟩,⟨rfl,rfl⟩,st',λ b hb=>(hf b hb).1⟩⟩
  rw[Int.mul_one]
 done:=by
  intro X hP hw hK hc i pins s σ H E I hf st hg
  subst hP hw hK
  obtain⟨f0,f1,f2,f3,f4,f5⟩:=hf it (by simp)
  exact wpAny_pyNext_range_end (I.ok.hd hc) st (by have:n<=i:=hg;omega) λ h' eb=>⟨rfl,I.turned (t':=s.toks) (λ b o hb e=>eb b o hb e) f0 f1 f3 f4 f5⟩
 self:=λ _ _ _ _ _ st h=>wpAny_pyIter_rangeiter st h
section
variable {X:Cx}{tg:Expr}
theorem Jyc {pins:List (Addr×Obj)}{σ:St}{H:Hp}{s:Shared}{R:It->Hp->Prop}{E:Value->Shared->Prop}{lo hi:Int}{t u v:Tok}{tk:Nat}(I:Inv X pins σ H s) (h1: -(2^62)<=lo) (h2:lo<2^62) (h3: -(2^62)<=hi) (h4:hi<2^62)
  (q:R (Itr lo (hi-lo).toNat) H):wpAny (model X.prog X.w) X.A (pyIter (.ref s.heap.objs.size)) (PIE X pins σ tg R) E { s with heap:=s.heap.push { cls:=.type "range",data:=.fields #[.int lo t,.int hi u,.int 1 v] },toks:=tk }:=by
 refine wpAny_pyIter_range (IsRange.new ..) (small_one h1 h2 h3 h4) ?_
 have I1:Inv X pins σ H { s with heap:=s.heap.push { cls:=.type "range",data:=.fields #[.int lo t,.int hi u,.int 1 v] },toks:=tk }:=I.kept λ b o e=>Heap.get?_push_of_some _ e
 refine⟨(s.heap.push { cls:=.type "range",data:=.fields #[.int lo t,.int hi u,.int 1 v] }).objs.size,[(s.heap.push { cls:=.type "range",data:=.fields #[.int lo t,.int hi u,.int 1 v] }).objs.size],_,_,H,rfl,
  I1.kept (t':=tk) λ b o e=>Heap.get?_push_of_some _ e,Jtl _ lo (hi-lo).toNat,?_,λ b hb=>?_,q⟩
 ·have e1:lo+((0:Nat):Int)*1=lo:=by simp
  have e2:(((hi-lo).toNat:Nat):Int)-((0:Nat):Int)=Builtin.Range.rangeSize lo hi 1:=by rw[rangeSize_one];split<;>omega
  show IsRangeIter _ _ (lo+((0:Nat):Int)*1) ((((hi-lo).toNat:Nat):Int)-((0:Nat):Int)) 1
  rw[e1,e2]
  exact Heap.get?_push_size _ rfl
 ·have e:b=(s.heap.push { cls:=.type "range",data:=.fields #[.int lo t,.int hi u,.int 1 v] }).objs.size:=by simpa using hb
  subst e
  exact I1.fpOk (Nat.le_refl _) (I1.hok.fresh (Nat.le_refl _))
noncomputable def Jc4 (fp:List Addr) (h:Heap):List (Addr×Obj):=fp.filterMap λ b=>(h.get? b).map λ o=>(b,o)
theorem Jbu {fp:List Addr}{h:Heap}{b:Addr}{o:Obj}(hb:b∈fp) (e:h.get? b=some o):(b,o)∈Jc4 fp h:=List.mem_filterMap.mpr ⟨b,hb,by rw[e];rfl⟩
theorem Jv3 {fp:List Addr}{h:Heap}{p:Addr×Obj}(hp:p∈Jc4 fp h):p.1∈fp/\h.get? p.1=some p.2:=by
 obtain⟨b,hb,e⟩:=List.mem_filterMap.mp hp
 cases q:h.get? b with
 | none=>rw[q] at e;cases e
 | some o =>
  rw[q] at e
  have e':(b,o)=p:=Option.some.inj e
  subst e'
  exact⟨hb,q⟩
theorem Inv.pinned {pins:List (Addr×Obj)}{σ:St}{H:Hp}{s:Shared}{fp:List Addr}(I:Inv X pins σ H s) (hf:∀b∈fp,FpOk X pins H b) (ho:∀b∈fp,∃o,s.heap.get? b=some o/\∀v,o.data≠.cell v):Inv X (pins++Jc4 fp s.heap) σ H s :=
 I.pins_of λ p hp=>(List.mem_append.mp hp).elim (λ z=>I.pin p (List.mem_append_right _ z)) λ z=>by
  obtain⟨hb,e⟩:=Jv3 z
  obtain⟨f0,f1,f2,_⟩:=hf p.1 hb
  obtain⟨o,e',d⟩:=ho p.1 hb
  rw[e] at e';cases e'
  exact⟨e,f0,f1,f2,d⟩
theorem Inv.unpinned {pins pl:List (Addr×Obj)}{σ:St}{H:Hp}{s:Shared}(I:Inv X (pins++pl) σ H s):Inv X pins σ H s:=I.pins_of λ p hp=>I.pin p (List.mem_append_right _ (List.mem_append_left _ hp))
end
noncomputable abbrev R2:=V->V->Hp->VK->Prop
noncomputable def OpR (X:Cx) (f:Value->Value->Sem Value) (r:R2):Prop :=
 ∀(pins:List (Addr×Obj)) (s:Shared) (σ:St) (H:Hp) (x y:V) (v u:Value) (Q:VK),Inv X pins σ H s->RelV x v->RelV y u->r x y H Q ->
  wpAny (model X.prog X.w) X.A (f v u) (EP X pins σ Q) X.xe s
noncomputable def UnR (X:Cx) (f:Value->Sem Value) (r:V->Hp->VK->Prop):Prop :=
 ∀(pins:List (Addr×Obj)) (s:Shared) (σ:St) (H:Hp) (x:V) (v:Value) (Q:VK),Inv X pins σ H s->RelV x v->r x H Q ->
  wpAny (model X.prog X.w) X.A (f v) (EP X pins σ Q) X.xe s
noncomputable def Jt3 (X:Cx) (f:Value) (r:List V->Hp->VK->Prop):Prop :=
 ∀(pins:List (Addr×Obj)) (s:Shared) (σ:St) (H:Hp) (xs:List V) (us:List Value) (Q:VK),Inv X pins σ H s->Vals xs us->r xs H Q ->
  wpAny (model X.prog X.w) X.A (call f us) (EP X pins σ Q) X.xe s
noncomputable def TruR (X:Cx) (r:V->Hp->(Bool->Hp->Prop)->Prop):Prop :=
 ∀(pins:List (Addr×Obj)) (s:Shared) (σ:St) (H:Hp) (x:V) (v:Value) (Q:Bool->Hp->Prop),Inv X pins σ H s->RelV x v->r x H Q ->
  wpAny (model X.prog X.w) X.A (truthy v) (TP X pins σ Q) X.xe s
noncomputable def rI (C:Int->Int->Prop) (g:Int->Int->V):R2:=λ x y H Q=>∃i j,x=.int i/\y=.int j/\C i j/\Q (g i j) H
noncomputable def rI0 (g:Int->Int->V):R2:=λ x y H Q=>∃i j,x=.int i/\y=.int j/\Q (g i j) H
noncomputable def rU (g:Int->V):V->Hp->VK->Prop:=λ x H Q=>∃i,x=.int i/\Q (g i) H
section
variable {X:Cx}{a b c:Expr}{ta tb tc:TE}{pos:Pos}
theorem opI {f:Value->Value->Sem Value}{C:Int->Int->Prop}{g:Int->Int->Int}
  (rule:∀(i j:Int) (t u:Tok) (s:Shared) (Q:Value->Shared->Prop) (E:Value->Shared->Prop),C i j->Q (.int (g i j) s.toks) { s with toks:=s.toks+1 }->wpAny (model X.prog X.w) X.A (f (.int i t) (.int j u)) Q E s) :
  OpR X f (rI C λ i j=>.int (g i j)):=by
 intro pins s σ H x y v u Q I rx ry h
 obtain⟨i,j,rfl,rfl,hc,q⟩:=h
 obtain⟨t,rfl⟩:=rx
 obtain⟨t',rfl⟩:=ry
 exact rule i j t t' s _ _ hc ⟨.int (g i j),H,I.tok _,⟨_,rfl⟩,q⟩
theorem opI0 {f:Value->Value->Sem Value}{g:Int->Int->Int}
  (rule:∀(i j:Int) (t u:Tok) (s:Shared) (Q:Value->Shared->Prop) (E:Value->Shared->Prop),Q (.int (g i j) s.toks) { s with toks:=s.toks+1 }->wpAny (model X.prog X.w) X.A (f (.int i t) (.int j u)) Q E s) :
  OpR X f (rI0 λ i j=>.int (g i j)):=by
 intro pins s σ H x y v u Q I rx ry h
 obtain⟨i,j,rfl,rfl,q⟩:=h
 obtain⟨t,rfl⟩:=rx
 obtain⟨t',rfl⟩:=ry
 exact rule i j t t' s _ _ ⟨.int (g i j),H,I.tok _,⟨_,rfl⟩,q⟩
theorem opB0 {f:Value->Value->Sem Value}{g:Int->Int->Bool}
  (rule:∀(i j:Int) (t u:Tok) (s:Shared) (Q:Value->Shared->Prop) (E:Value->Shared->Prop),Q (.bool (g i j)) s->wpAny (model X.prog X.w) X.A (f (.int i t) (.int j u)) Q E s) :
  OpR X f (rI0 λ i j=>.bl (g i j)):=by
 intro pins s σ H x y v u Q I rx ry h
 obtain⟨i,j,rfl,rfl,q⟩:=h
 obtain⟨t,rfl⟩:=rx
 obtain⟨t',rfl⟩:=ry
 exact rule i j t t' s _ _ ⟨.bl (g i j),H,I,rfl,q⟩
noncomputable def CPow (i j:Int):Prop:=0<=j/\j<=1000000/\i.natAbs<2^64
noncomputable def CMul (i j:Int):Prop:=(-(2^64)<i/\i<2^64)∨(-(2^64)<j/\j<2^64)
theorem CMul.ok {i j:Int}(h:CMul i j):IntMulOk i j:=by
 rcases h with⟨h1,h2⟩|⟨h1,h2⟩
 ·exact .of_left (intBits_le_64 h1 h2)
 ·exact .of_right (intBits_le_64 h1 h2)
theorem J33:OpR X (binaryOp .Add) (rI0 λ i j=>.int (i+j)):=opI0 λ _ _ _ _ _ _ _ q=>add_int q
theorem J38:OpR X (binaryOp .Sub) (rI0 λ i j=>.int (i-j)):=opI0 λ _ _ _ _ _ _ _ q=>sub_int q
theorem J35:OpR X (binaryOp .Mod) (rI (λ _ j=>0<j) λ i j=>.int (i%j)):=opI λ i j _ _ _ _ _ hc q=>by
 have h1:(0:Int)<j:=hc
 exact mod_int' (by omega) (by rw[Int.fmod_eq_emod_of_nonneg i (by omega)];exact q)
theorem J36:OpR X (binaryOp .Pow) (rI CPow λ i j=>.int (i^j.toNat)):=opI λ _ _ _ _ _ _ _ hc q=>pow_int_small hc.1 hc.2.1 hc.2.2 q
theorem unI {f:Value->Sem Value}{g:Int->Int}
  (rule:∀(i:Int) (t:Tok) (s:Shared) (Q:Value->Shared->Prop) (E:Value->Shared->Prop),Q (.int (g i) s.toks) { s with toks:=s.toks+1 }->wpAny (model X.prog X.w) X.A (f (.int i t)) Q E s) :
  UnR X f (rU λ i=>.int (g i)):=by
 intro pins s σ H x v Q I rx h
 obtain⟨i,rfl,q⟩:=h
 obtain⟨t,rfl⟩:=rx
 exact rule i t s _ _ ⟨.int (g i),H,I.tok _,⟨_,rfl⟩,q⟩
theorem J47:UnR X (unaryOp .USub) (rU λ i=>.int (-i)):=unI λ _ _ _ _ _ q=>neg_int q
end
noncomputable def scal:V->V->Bool
 | .non,.non=>true|.non,.int _=>true|.int _,.non=>true|.non,.bl _=>true|.bl _,.non=>true|.non,.str _=>true|.str _,.non=>true
 | .int _,.int _=>true|.bl _,.bl _=>true|.str _,.str _=>true|.byt _,.byt _=>true
 | .int _,.str _=>true|.str _,.int _=>true|.bl _,.str _=>true|.str _,.bl _=>true
 | _,_=>false
noncomputable def rEq:R2:=λ x y H Q=>scal x y=true/\Q (.bl (decide (x=y))) H
noncomputable def rNe:R2:=λ x y H Q=>scal x y=true/\Q (.bl (!decide (x=y))) H
theorem Jur {i j:Int}:decide (V.int i=V.int j)=(i==j):=by
 rw[Bool.eq_iff_iff]
 simp
theorem Jy9 {i j:Bool}:decide (V.bl i=V.bl j)=(i==j):=by
 rw[Bool.eq_iff_iff]
 simp
theorem Jus {i j:Str}:decide (V.str i=V.str j)=(i==j):=by
 rw[Bool.eq_iff_iff]
 simp
theorem Juq {i j:Array UInt8}:decide (V.byt i=V.byt j)=(i.toList==j.toList):=by
 rw[Bool.eq_iff_iff]
 cases i
 cases j
 simp
section
variable {X:Cx}{a b c:Expr}{ta tb tc:TE}{pos:Pos}
theorem Jo {pins:List (Addr×Obj)}{σ:St}{H:Hp}{s:Shared}{Q:VK}{k k':Bool}(I:Inv X pins σ H s) (q:Q (.bl k) H) (e:k=k'):EP X pins σ Q (.bool k') s:=by
 subst e
 exact⟨.bl k,H,I,rfl,q⟩
theorem op_eq:OpR X (compareOp .Eq) rEq:=by
 intro pins s σ H x y v u Q I rx ry h
 obtain⟨hs,q⟩:=h
 cases x with
 | non =>
  cases rx
  cases y with
  | non=>cases ry;exact PySem.EqNone.eq_none_none (Jo I q (by simp))
  | bl j=>cases ry;exact PySem.EqNone.eq_none_bool (Jo I q (by simp))
  | int j=>obtain⟨t',rfl⟩:=ry;exact PySem.EqNone.eq_none_int (Jo I q (by simp))
  | str j=>obtain⟨t',rfl⟩:=ry;exact PySem.EqNone.eq_none_str (Jo I q (by simp))
  | _=>exact absurd (show false=true from hs) Bool.false_ne_true
 | bl i =>
  cases rx
  cases y with
  | non=>cases ry;exact PySem.EqNone.eq_bool_none (Jo I q (by simp))
  | bl j=>cases ry;exact eq_bool (Jo I q Jy9)
  | str j=>obtain⟨t',rfl⟩:=ry;exact PySem.EqMixed.eq_bool_str (Jo I q (by simp))
  | _=>exact absurd (show false=true from hs) Bool.false_ne_true
 | int i =>
  obtain⟨t,rfl⟩:=rx
  cases y with
  | non=>cases ry;exact PySem.EqNone.eq_int_none (Jo I q (by simp))
  | int j=>obtain⟨t',rfl⟩:=ry;exact eq_int (Jo I q Jur)
  | str j=>obtain⟨t',rfl⟩:=ry;exact PySem.EqMixed.eq_int_str (Jo I q (by simp))
  | _=>exact absurd (show false=true from hs) Bool.false_ne_true
 | str i =>
  obtain⟨t,rfl⟩:=rx
  cases y with
  | non=>cases ry;exact PySem.EqNone.eq_str_none (Jo I q (by simp))
  | bl j=>cases ry;exact PySem.EqMixed.eq_str_bool (Jo I q (by simp))
  | int j=>obtain⟨t',rfl⟩:=ry;exact PySem.EqMixed.eq_str_int (Jo I q (by simp))
  | str j=>obtain⟨t',rfl⟩:=ry;exact eq_str (Jo I q Jus)
  | _=>exact absurd (show false=true from hs) Bool.false_ne_true
 | byt i =>
  obtain⟨t,rfl⟩:=rx
  cases y with
  | byt j=>obtain⟨t',rfl⟩:=ry;exact W.eq_bytes (Jo I q Juq)
  | _=>exact absurd (show false=true from hs) Bool.false_ne_true
 | _=>cases y<;>exact absurd (show false=true from hs) Bool.false_ne_true
theorem op_ne:OpR X (compareOp .NotEq) rNe:=by
 intro pins s σ H x y v u Q I rx ry h
 obtain⟨hs,q⟩:=h
 cases x with
 | non =>
  cases rx
  cases y with
  | non=>cases ry;exact PySem.EqNone.ne_none_none (Jo I q (by simp))
  | bl j=>cases ry;exact PySem.EqNone.ne_none_bool (Jo I q (by simp))
  | int j=>obtain⟨t',rfl⟩:=ry;exact PySem.EqNone.ne_none_int (Jo I q (by simp))
  | str j=>obtain⟨t',rfl⟩:=ry;exact PySem.EqNone.ne_none_str (Jo I q (by simp))
  | _=>exact absurd (show false=true from hs) Bool.false_ne_true
 | bl i =>
  cases rx
  cases y with
  | non=>cases ry;exact PySem.EqNone.ne_bool_none (Jo I q (by simp))
  | bl j=>cases ry;exact ne_bool (Jo I q (congrArg not Jy9))
  | str j=>obtain⟨t',rfl⟩:=ry;exact PySem.EqMixed.ne_bool_str (Jo I q (by simp))
  | _=>exact absurd (show false=true from hs) Bool.false_ne_true
 | int i =>
  obtain⟨t,rfl⟩:=rx
  cases y with
  | non=>cases ry;exact PySem.EqNone.ne_int_none (Jo I q (by simp))
  | int j=>obtain⟨t',rfl⟩:=ry;exact ne_int (Jo I q (congrArg not Jur))
  | str j=>obtain⟨t',rfl⟩:=ry;exact PySem.EqMixed.ne_int_str (Jo I q (by simp))
  | _=>exact absurd (show false=true from hs) Bool.false_ne_true
 | str i =>
  obtain⟨t,rfl⟩:=rx
  cases y with
  | non=>cases ry;exact PySem.EqNone.ne_str_none (Jo I q (by simp))
  | bl j=>cases ry;exact PySem.EqMixed.ne_str_bool (Jo I q (by simp))
  | int j=>obtain⟨t',rfl⟩:=ry;exact PySem.EqMixed.ne_str_int (Jo I q (by simp))
  | str j=>obtain⟨t',rfl⟩:=ry;exact ne_str (Jo I q (congrArg not Jus))
  | _=>exact absurd (show false=true from hs) Bool.false_ne_true
 | byt i =>
  obtain⟨t,rfl⟩:=rx
  cases y with
  | byt j=>obtain⟨t',rfl⟩:=ry;exact W.ne_bytes (Jo I q (congrArg not Juq))
  | _=>exact absurd (show false=true from hs) Bool.false_ne_true
 | _=>cases y<;>exact absurd (show false=true from hs) Bool.false_ne_true
theorem op_lt:OpR X (compareOp .Lt) (rI0 λ i j=>.bl (decide (i<j))):=opB0 λ _ _ _ _ _ _ _ q=>lt_int q
theorem op_le:OpR X (compareOp .LtE) (rI0 λ i j=>.bl (decide (i<=j))):=opB0 λ _ _ _ _ _ _ _ q=>le_int q
theorem op_gt:OpR X (compareOp .Gt) (rI0 λ i j=>.bl (decide (j<i))):=opB0 λ _ _ _ _ _ _ _ q=>gt_int q
theorem op_ge:OpR X (compareOp .GtE) (rI0 λ i j=>.bl (decide (j<=i))):=opB0 λ _ _ _ _ _ _ _ q=>ge_int q
theorem Jv4:OpR X (compareOp .Lt) (λ x y H Q=>∃i j,x=.str i/\y=.str j/\Q (.bl (decide (i.cps.toList<j.cps.toList))) H):=by
 intro pins s σ H x y v u Q I rx ry h
 obtain⟨i,j,rfl,rfl,q⟩:=h
 obtain⟨t,rfl⟩:=rx
 obtain⟨t',rfl⟩:=ry
 exact lt_str (Jo I q rfl)
theorem nomark (b:Expr){op:CmpOp}(h:op≠.In:=by decide) (h2:op≠.NotIn:=by decide):behindInMarks op b=false:=by
 have e1:(op==CmpOp.In)=false:=by cases op<;>first|rfl|exact absurd rfl h
 have e2:(op==CmpOp.NotIn)=false:=by cases op<;>first|rfl|exact absurd rfl h2
 cases b<;>simp[behindInMarks,e1,e2]
noncomputable def TruV (K:W.Frag) (x:V) (H:Hp) (k:Bool):Prop :=
 match x with
 | .non=>k=false
 | .bl b=>k=b
 | .int i=>k=(i != 0)
 | .str y=>y.length<=sizeLine/\k=((y.length:Int) != 0)
 | .byt y=>y.size<=sizeLine/\k=((y.size:Int) != 0)
 | .ref p=>(∃xs,SqL K H p xs/\k=!xs.isEmpty)∨(∃xs,SqT K H p xs/\k=!xs.isEmpty)∨∃kvs,H p=some (.dK kvs)/\k=!kvs.isEmpty
 | _=>False
theorem Jsh {κ:Type}{kvs:List (κ×V)}{vs:List (κ×Value)}(r:KV kvs vs):(!vs.isEmpty)=!kvs.isEmpty:=by
 cases r<;>rfl
theorem Jlc {xs:List V}{its:List Value}(r:Vals xs its):(!its.toArray.isEmpty)=!xs.isEmpty:=by
 cases r<;>simp
theorem Jkc:(sizeLine:Nat)<2^63:=by rw[sizeLine_eq];decide
theorem Ji0:TruR X (λ x H Q=>∃k,TruV X.K x H k/\Q k H):=by
 intro pins s σ H x v Q I rx h
 obtain⟨k,e,q⟩:=h
 have hl:=Jkc
 have hs:sizeLine=16777216:=sizeLine_eq
 cases x with
 | non =>
  cases rx
  have e':k=false:=e
  subst e'
  exact truthy_none ⟨H,I,q⟩
 | bl b =>
  cases rx
  have e':k=b:=e
  subst e'
  exact wpAny_truthy_bool ⟨H,I,q⟩
 | int i =>
  obtain⟨t,rfl⟩:=rx
  have e':k=(i != 0):=e
  subst e'
  exact PySem.P.truthy_int ⟨H,I,q⟩
 | str y =>
  obtain⟨t,rfl⟩:=rx
  obtain⟨hy,e'⟩:y.length<=sizeLine/\k=((y.length:Int) != 0):=e
  subst e'
  exact PySem.P.truthy_str (by omega) ⟨H,I.tok _,q⟩
 | byt y =>
  obtain⟨t,rfl⟩:=rx
  obtain⟨hy,e'⟩:y.size<=sizeLine/\k=((y.size:Int) != 0):=e
  subst e'
  exact W.truthy_bytes (by omega) ⟨H,I.tok _,q⟩
 | ref p =>
  cases rx
  have e':(∃xs,SqL X.K H p xs/\k=!xs.isEmpty)∨(∃xs,SqT X.K H p xs/\k=!xs.isEmpty)∨∃kvs,H p=some (.dK kvs)/\k=!kvs.isEmpty:=e
  rcases e' with⟨xs,hx,e'⟩|⟨xs,hx,e'⟩|⟨kvs,hx,e'⟩
  ·subst e'
   obtain⟨its,r,pl,hz⟩:=I.list hx
   have hlen:=r.length
   exact wpAny_truthy_list pl.isList (by simp only[List.size_toArray];omega) ⟨H,I.tok _,by rw[Jlc r];exact q⟩
  ·subst e'
   obtain⟨its,r,pl,hz⟩:=I.tuple hx
   have hlen:=r.length
   exact truthy_tuple pl (by simp only[List.size_toArray];omega) ⟨H,I.tok _,by rw[Jlc r];exact q⟩
  ·subst e'
   obtain⟨hz,hS,vs,r,m⟩:kvs.length<=sizeLine/\(p==sysModules)=false/\∃vs,KV kvs vs/\s.heap.DictOf (Jcw X.prog X.w) p vs:=I.hok p _ hx
   have hlen:kvs.length=vs.length:=Paired.length r
   exact wpAny_truthy_dict hS m (by omega) ⟨H,I.tok _,by rw[Jsh r];exact q⟩
 | _=>exact Zf e
theorem Jsz:OpR X (binaryOp .Add) (λ x y H Q=>∃i j,x=.str i/\y=.str j/\i.length+j.length<=sizeLine/\Q (.str (i++j)) H):=by
 intro pins s σ H x y v u Q I rx ry h
 obtain⟨i,j,rfl,rfl,hz,q⟩:=h
 obtain⟨t,rfl⟩:=rx
 obtain⟨t',rfl⟩:=ry
 exact add_str (λ t' tk=>⟨.str (i++j),H,I.tok _,⟨_,rfl⟩,q⟩) hz
theorem Jk3 {x:V}{us:List Value}(r:Vals [x] us):∃u,us=[u]/\RelV x u:=by
 cases r with
 | cons r1 r2=>cases r2;exact⟨_,rfl,r1⟩
theorem vals2 {x y:V}{us:List Value}(r:Vals [x,y] us):∃u w',us=[u,w']/\RelV x u/\RelV y w':=by
 cases r with
 | cons r1 r2 =>
  cases r2 with
  | cons r3 r4=>cases r4;exact⟨_,_,rfl,r1,r3⟩
theorem Jum (hc:X.calm=true):Jt3 X (.builtin "max") (λ xs H Q=>∃i j,xs=[.int i,.int j]/\Q (.int (if j>i then j else i)) H):=by
 intro pins s σ H xs us Q I r h
 obtain⟨i,j,rfl,q⟩:=h
 obtain⟨u,w',rfl,⟨t,rfl⟩,⟨t',rfl⟩⟩:=vals2 r
 refine max_two_ints (I.ok.hd hc) λ h' tk k=>⟨_,H,I.kept k,?_,q⟩
 by_cases hj:j>i
 ·rw[if_pos hj,if_pos hj];exact⟨_,rfl⟩
 ·rw[if_neg hj,if_neg hj];exact⟨_,rfl⟩
noncomputable def LenV (K:W.Frag) (x:V) (H:Hp) (n:Nat):Prop :=
 match x with
 | .str y=>y.length<=sizeLine/\n=y.length
 | .byt y=>y.size<=sizeLine/\n=y.size
 | .ref p=>(∃xs,SqL K H p xs/\n=xs.length)∨∃xs,SqT K H p xs/\n=xs.length
 | _=>False
theorem Jjb:Jt3 X (.builtin "len") (λ xs H Q=>∃x n,xs=[x]/\LenV X.K x H n/\Q (.int n) H):=by
 intro pins s σ H xs us Q I r h
 obtain⟨x,n,rfl,e,q⟩:=h
 obtain⟨u,rfl,rx⟩:=Jk3 r
 have hl:=Jkc
 have hs:sizeLine=16777216:=sizeLine_eq
 cases x with
 | str y =>
  obtain⟨t,rfl⟩:=rx
  obtain⟨hy,e'⟩:y.length<=sizeLine/\n=y.length:=e
  subst e'
  exact len_str (by omega) ⟨.int _,H,I.tok _,⟨_,rfl⟩,q⟩
 | byt y =>
  obtain⟨t,rfl⟩:=rx
  obtain⟨hy,e'⟩:y.size<=sizeLine/\n=y.size:=e
  subst e'
  exact W.len_bytes (by omega) ⟨.int _,H,I.tok _,⟨_,rfl⟩,q⟩
 | ref p =>
  cases rx
  have e':(∃xs,SqL X.K H p xs/\n=xs.length)∨∃xs,SqT X.K H p xs/\n=xs.length:=e
  rcases e' with⟨xs,hx,e'⟩|⟨xs,hx,e'⟩
  ·subst e'
   obtain⟨its,r',pl,hz⟩:=I.list hx
   have hlen:=r'.length
   exact Calls.call_len_list pl.isList (by simp only[List.size_toArray];omega) ⟨.int xs.length,H,I.tok _,⟨_,by simp only[List.size_toArray];rw[hlen]⟩,q⟩
  ·subst e'
   obtain⟨its,r',pl,hz⟩:=I.tuple hx
   have hlen:=r'.length
   exact len_tuple pl (by simp only[List.size_toArray];omega) ⟨.int xs.length,H,I.tok _,⟨_,by simp only[List.size_toArray];rw[hlen]⟩,q⟩
 | _=>exact Zf e
end
structure ObjM (h:Heap) (x dx C:Addr) (mA:Str->Option Value):Prop where
 obj:h.get? x=some (W.instObj C dx)
 ns:h.Ns1 dx mA
 ne:dx≠x
theorem Jvy {h:Heap}{dx:Addr}{mA:Str->Option Value}(n:h.Ns1 dx mA):∃od,h.get? dx=some od/\∀name,W.lookIn name od=some (mA name):=by
 obtain⟨o,es,ep,ho,hd,hk,_,hm⟩:=n
 refine⟨o,ho,λ name=>?_⟩
 have e:=hm name
 unfold nsFind findBy at e
 rw[<- Array.find?_toList] at e
 unfold W.lookIn
 rw[hd]
 dsimp only
 split
 ·rename_i y q
  rw[q] at e
  exact congrArg some e
 ·rename_i q
  rw[q] at e
  have a:es.toList.any (·.refKey)=false:=by
   rw[List.any_eq_false]
   intro y hy
   obtain⟨z,t,hkey⟩:=hk y (Array.mem_toList_iff.mp hy)
   simp[DictEntry.refKey,hkey]
  have a':¬es.toList.any (·.refKey)=true:=by rw[a];exact Bool.false_ne_true
  rw[if_neg a']
  exact congrArg some e
theorem ObjM.look {h:Heap}{x dx C:Addr}{mA:Str->Option Value}(I:ObjM h x dx C mA):∃od,W.InstAt h x (W.instObj C dx) C (some od)/\∀name,W.lookIn name od=some (mA name) :=
 let ⟨od,ho,hl⟩:=Jvy I.ns
 ⟨od,⟨I.obj,rfl,rfl,ho⟩,hl⟩
section
variable {prog:Program}{w:World}{A:Around}{E:Value->Shared->Prop}{s:Shared}{K:W.Frag}{x dx C f:Addr}{mA:Str->Option Value}{name:Str}{v:Value}
theorem J0o {expr:Bool}{Q:Value->Shared->Prop}(X:K.In s.heap) (I:ObjM s.heap x dx C mA) (hg:W.plainGet K C name=true) (hh:W.hasDictIn K C=true)
  (ha:W.findIn K (.ref C) name=some none) (hv:mA name=some v) (hv':W.handedIn v=true) (h:Q v { s with toks:=s.toks+1 }) :
  wpAny (model prog w) A (getAttr (.ref x) name expr) Q E s:=by
 obtain⟨od,J,hl⟩:=I.look
 exact W.get_value X J (W.plainGet_of hg).1 (W.findObj_own hh ha rfl (by rw[hl,hv])) hv' h
theorem Jxi {pl:Sem Bool}{Q:Value×List Value->Shared->Prop}(X:K.In s.heap) (I:ObjM s.heap x dx C mA) (hg:W.plainGet K C name=true)
  (hf:W.findIn K (.ref C) name=some (some (.ref f))) (ht:W.isFn K (.ref f)=true) (hv:mA name=none) (h:Q (.ref f,[.ref x]) s) :
  wpAny (model prog w) A (getMethod (.ref x) name pl) Q E s:=by
 obtain⟨od,J,hl⟩:=I.look
 exact W.method_fn X J (W.plainGet_of hg).1 (W.plainGet_of hg).2 hf (beq_iff_eq.mp ht) (by show(W.lookIn name od).map (·.isSome)=some false;rw[hl,hv];rfl) h
theorem J1x {ns:List Str}{Q:Unit->Shared->Prop}(X:K.In s.heap) (I:ObjM s.heap x dx C mA)
  (hs:W.findIn K (.ref C) "__setattr__"=some (some (.builtin "object.__setattr__"))) (hp:W.plainOver K C=true) (ht:W.takerIn K C name=some none) (hh:W.hasDictIn K C=true)
  (hw:PySem.Within mA ns) (hsz:ns.length<=sizeLine)
  (h:∀h',ObjM h' x dx C (λ y=>if y=name then some v else mA y)->Heap.SameBut dx s.heap h'->Q () { s with heap:=h',toks:=s.toks+2 }) :
  wpAny (model prog w) A (setAttr (.ref x) name v) Q E s:=by
 obtain⟨od,J,hl⟩:=I.look
 refine W.set_plain X J hs (W.osa_open (s:={ s with toks:=s.toks+1 }) (r:=none) X J hp ht λ b=>?_)
 obtain⟨cd,hc,hd'⟩:=W.any_some hh
 have hx:s.heap.get? x=some ⟨.ref C,some dx,.plain,#[]⟩:=I.obj
 refine wpAny_bind (wpAny_pure (wpAny_bind (wpAny_bind (wpAny_loadPart hx (wpAny_bind (W.Looks.here (s:={ s with toks:=s.toks+1 }) (W.looks_clsIn X hc) ?_))))))
 rw[hd']
 refine wpAny_pure (a:=some dx) (wpAny_bind (wpAny_pure (wpAny_bind ?_)))
 refine wpAny_nsSet1 (s:={ s with toks:=s.toks+1 }) I.ns λ h' hn2 hs2=>?_
 obtain⟨oD,esD,epD,hoD,hdD,hcD⟩:=hn2.count (PySem.Within.cons name v hw)
 refine wpAny_bind (wpAny_lookBehind hoD (by rw[hdD];exact pastItsLine_dict (Nat.le_trans hcD (by rw[List.length_cons];omega))) ?_)
 exact wpAny_pure (h _ ⟨(hs2.2 _ (Ne.symm I.ne)).trans I.obj,hn2,I.ne⟩ hs2)
theorem Jx5 {R:Result->Shared->Prop}{vs:List Value}{kw:List (Str×Value)}(X:K.In s.heap) (hm:W.makesIn K C=true)
  (hi:W.findIn K (.ref C) "__init__"=some (some (.ref f))) (hf:W.typeIn K (.ref f)=some (.type "function"))
  (h:codeAny (model prog w) (A.under (.builtin "type.__call__" ⟨.ref C::vs,kw⟩)) (.call (.ref f) ⟨.ref (s.heap.objs.size+1)::vs,kw⟩) (W.InitBack (s.heap.objs.size+1) R)
   { s with heap:=(s.heap.push W.emptyDict).push (W.instObj C s.heap.objs.size) }) :
  codeAny (model prog w) A (.call (.ref C) ⟨vs,kw⟩) R s:=by
 obtain⟨hh,g,d,t,os⟩:=s
 exact W.make_core (W.makes_of X hm) (W.looks_findIn X hi) (λ self=>W.bind_fn X self hf) (.inl rfl) h
end
noncomputable def putF (f:Str) (v:V):List (Str×V)->List (Str×V)
 | []=>[(f,v)]
 | (g,x)::r=>if g=f then(g,v)::r else(g,x)::putF f v r
theorem Jkd (f g:Str) (v:V):∀fs:List (Str×V),(putF f v fs).lookup g=if g=f then some v else fs.lookup g
 | []=>by
  show List.lookup g [(f,v)]=_
  by_cases h:g=f
  ·have hb:(g==f)=true:=beq_iff_eq.mpr h
   simp only[List.lookup,hb,if_pos h]
  ·have hb:(g==f)=false:=beq_eq_false_iff_ne.mpr h
   simp only[List.lookup,hb,if_neg h]
 | (k,x)::r=>by
  have ih:=Jkd f g v r
  rw[show putF f v ((k,x)::r)=(if k=f then(k,v)::r else(k,x)::putF f v r) from rfl]
  by_cases hk:k=f
  ·rw[if_pos hk]
   by_cases h:g=k
   ·have hb:(g==k)=true:=beq_iff_eq.mpr h
    simp only[List.lookup,hb,if_pos (h.trans hk)]
   ·have hb:(g==k)=false:=beq_eq_false_iff_ne.mpr h
    simp only[List.lookup,hb,if_neg (λ e:g=f=>h (e.trans hk.symm))]
  ·rw[if_neg hk]
   by_cases h:g=k
   ·have hb:(g==k)=true:=beq_iff_eq.mpr h
    simp only[List.lookup,hb,if_neg (λ e:g=f=>hk (h.symm.trans e))]
   ·have hb:(g==k)=false:=beq_eq_false_iff_ne.mpr h
    simp only[List.lookup,hb]
    exact ih
theorem Jka (f:Str) (v:V):∀fs:List (Str×V),f∈(putF f v fs).map (·.1)/\∀g,g∈fs.map (·.1)->g∈(putF f v fs).map (·.1)
 | []=>⟨by simp[putF],λ g h=>by simp at h⟩
 | (k,x)::r=>by
  obtain⟨i1,i2⟩:=Jka f v r
  rw[show putF f v ((k,x)::r)=(if k=f then(k,v)::r else(k,x)::putF f v r) from rfl]
  by_cases hk:k=f
  ·rw[if_pos hk]
   subst hk
   exact⟨by simp,λ g h=>by simpa using h⟩
  ·rw[if_neg hk]
   refine⟨?_,λ g h=>?_⟩
   ·rw[List.map_cons]
    exact List.mem_cons_of_mem _ i1
   ·rw[List.map_cons] at h ⊢
    rcases List.mem_cons.mp h with e|e
    ·exact List.mem_cons.mpr (.inl e)
    ·exact List.mem_cons_of_mem _ (i2 g e)
theorem Jkb (f:Str) (v:V):∀fs:List (Str×V),(putF f v fs).length<=fs.length+1
 | []=>by simp[putF]
 | (k,x)::r=>by
  have ih:=Jkb f v r
  rw[show putF f v ((k,x)::r)=(if k=f then(k,v)::r else(k,x)::putF f v r) from rfl]
  by_cases hk:k=f
  ·rw[if_pos hk,List.length_cons,List.length_cons];omega
  ·rw[if_neg hk,List.length_cons,List.length_cons];omega
theorem RelO.some_of {v:V}{o:Option Value}(r:RelO (some v) o):∃u,o=some u/\RelV v u:=by
 cases o with
 | none=>exact Zf r
 | some u=>exact⟨u,rfl,r⟩
theorem RelO.none_of {o:Option Value}(r:RelO none o):o=none:=by
 cases o with
 | none=>rfl
 | some u=>exact Zf r
theorem Jvc {v:V}{u:Value}(r:RelV v u):W.handedIn u=true:=by
 cases v with
 | non=>cases (show u=Value.none from r);rfl
 | bl b=>cases (show u=Value.bool b from r);rfl
 | int i=>obtain⟨t,e⟩:=(show ∃t,u=Value.int i t from r);cases e;rfl
 | str x=>obtain⟨t,e⟩:=(show ∃t,u=Value.str x t from r);cases e;rfl
 | byt b=>obtain⟨t,e⟩:=(show ∃t,u=Value.bytes b t from r);cases e;rfl
 | flt b=>obtain⟨t,e⟩:=(show ∃t,u=Value.float b t from r);cases e;rfl
 | ref a=>cases (show u=Value.ref a from r);rfl
 | ty n=>cases (show u=Value.type n from r);rfl
section
variable {P:Program}{w:World}{H H':Hp}{h h':Heap}{a C dx:Addr}{fs fs':List (Str×V)}
theorem Jmz (hok:HOk P w H h) (e:H a=some (.ins C dx fs)):∃mA,ObjM h a dx C mA/\(∀f,RelO (fs.lookup f) (mA f))/\PySem.Within mA (fs.map (·.1))/\fs.length<=1000/\H dx=some (.own a):=by
 obtain⟨d,z,ne,ob,mA,n,r,q⟩:=(show Jas P w H h a (.ins C dx fs) from hok a _ e)
 exact⟨mA,⟨ob,n,ne⟩,r,q,z,d⟩
end
structure Cls (K:W.Frag) (C:Addr):Prop where
 pg:W.plainGet K C Str.empty=true
 hd:W.hasDictIn K C=true
 po:W.plainOver K C=true
 sa:W.findIn K (.ref C) "__setattr__"=some (some (.builtin "object.__setattr__"))
theorem Cls.get {K:W.Frag}{C:Addr}(c:Cls K C) (f:Str):W.plainGet K C f=true:=c.pg
noncomputable def Jfn (K:W.Frag) (C:Addr) (f:Str):Prop:=W.findIn K (.ref C) f=some none
theorem Jfn.taker {K:W.Frag}{C:Addr}{f:Str}(n:Jfn K C f):W.takerIn K C f=some none:=by
 unfold W.takerIn
 rw[show W.findIn K (.ref C) f=some none from n]
 rfl
structure Con (K:W.Frag) (C:Addr) (f:Str) (v:V) (u:Value):Prop where
 at_:W.findIn K (.ref C) f=some (some u)
 rel:RelV v u
 get:W.specialIn K u "__get__"=some none
 cp:W.copiedNames.contains f=false
structure Meth (K:W.Frag) (C:Addr) (m:Str) (f:Addr):Prop where
 at_:W.findIn K (.ref C) m=some (some (.ref f))
 fn:W.isFn K (.ref f)=true
 kp:W.keepIn K (.ref f)=true
section
variable {X:Cx}{pins:List (Addr×Obj)}{σ:St}{H:Hp}{s:Shared}{a C dx:Addr}{fs:List (Str×V)}{f:Str}{v:V}{A:Around}{E:Value->Shared->Prop}
theorem Jk9 {b:Bool}{Q:Value->Shared->Prop}(I:Inv X pins σ H s) (e:H a=some (.ins C dx fs)) (c:Cls X.K C) (n:Jfn X.K C f) (l:fs.lookup f=some v)
  (h:∀u s',Inv X pins σ H s'->RelV v u->Q u s'):wpAny (model X.prog X.w) A (getAttr (.ref a) f b) Q E s:=by
 obtain⟨mA,O,r,_,_,_⟩:=Jmz I.hok e
 obtain⟨u,hu,ru⟩:=RelO.some_of (v:=v) (o:=mA f) (by rw[<- l];exact r f)
 exact J0o I.kIn O (c.get f) c.hd n hu (Jvc ru) (h u _ (I.tok _) ru)
theorem Jla {m:Str}{g:Addr}{pl:Sem Bool}{Q:Value×List Value->Shared->Prop}(I:Inv X pins σ H s) (e:H a=some (.ins C dx fs)) (c:Cls X.K C) (k:Meth X.K C m g) (l:fs.lookup m=none)
  (h:Q (.ref g,[.ref a]) s):wpAny (model X.prog X.w) A (getMethod (.ref a) m pl) Q E s:=by
 obtain⟨mA,O,r,_,_,_⟩:=Jmz I.hok e
 have hn:mA m=none:=RelO.none_of (by rw[<- l];exact r m)
 exact Jxi I.kIn O (c.get m) k.at_ k.fn hn h
theorem Jlf {y:V}{u:Value}{Q:Unit->Shared->Prop}(I:Inv X pins σ H s) (e:H a=some (.ins C dx fs)) (c:Cls X.K C) (n:Jfn X.K C f) (hl:fs.length<1000) (ry:RelV y u)
  (h:∀s',Inv X pins σ (upd H a (.ins C dx (putF f y fs))) s'->Q () s'):wpAny (model X.prog X.w) A (setAttr (.ref a) f u) Q E s:=by
 obtain⟨mA,O,r,wi,_,ho⟩:=Jmz I.hok e
 have hz:(fs.map (·.1)).length<=sizeLine:=by rw[List.length_map,sizeLine_eq];omega
 refine J1x I.kIn O c.sa c.po n.taker c.hd wi hz λ h' O' sb=>h _ ?_
 have hd:∃o,h'.get? dx=some o:=let ⟨o,_,_,e',_⟩:=O'.ns;⟨o,e'⟩
 refine I.write (x:=a) (e:=dx) (by rw[e];exact True.intro) (.inr ho) (λ b q hb z=>(sb.2 b hb).trans z) hd ?_
 refine⟨by rw[Jg O.ne];exact ho,?_,O.ne,O'.obj,_,O'.ns,λ g=>?_,λ g hg=>?_⟩
 ·have:=Jkb f y fs;omega
 ·show RelO ((putF f y fs).lookup g) (if g=f then some u else mA g)
  rw[Jkd]
  by_cases q:g=f
  ·rw[if_pos q,if_pos q];exact ry
  ·rw[if_neg q,if_neg q];exact r g
 ·by_cases q:g=f
  ·rw[q];exact(Jka f y fs).1
  ·refine(Jka f y fs).2 g (wi g λ z=>hg ?_)
   show(if g=f then some u else mA g)=none
   rw[if_neg q];exact z
theorem Inv.made (I:Inv X pins σ H s):Inv X pins σ (upd (upd H s.heap.objs.size (.own (s.heap.objs.size+1))) (s.heap.objs.size+1) (.ins C s.heap.objs.size []))
  { s with heap:=(s.heap.push W.emptyDict).push (W.instObj C s.heap.objs.size) }:=by
 have e1:(s.heap.push W.emptyDict).get? s.heap.objs.size=some W.emptyDict:=Heap.get?_push_size s.heap rfl
 have e2:((s.heap.push W.emptyDict).push (W.instObj C s.heap.objs.size)).get? (s.heap.objs.size+1)=some (W.instObj C s.heap.objs.size):=by
  have:=Heap.get?_push_size (s.heap.push W.emptyDict) (o:=W.instObj C s.heap.objs.size) rfl
  rwa [Heap.size_push] at this
 have e3:(s.heap.push W.emptyDict).Ns s.heap.objs.size (λ _=>none):=⟨W.emptyDict,#[],_,e1,rfl,(λ e he=>absurd he (by simp)),λ _=>rfl⟩
 have I1:=I.laid (a:=s.heap.objs.size) (o:=.own (s.heap.objs.size+1)) (h':=s.heap.push W.emptyDict) (t':=s.toks) (λ b u q=>Heap.get?_push_of_some _ q) (Nat.le_refl _) ⟨_,e1⟩
 refine I1.laid (a:=s.heap.objs.size+1) (o:=.ins C s.heap.objs.size []) (t':=s.toks) (λ b u q=>Heap.get?_push_of_some _ q) (Nat.le_of_eq (Heap.size_push _ _)) ?_
 have ne:s.heap.objs.size≠s.heap.objs.size+1:=Nat.ne_of_lt (Nat.lt_succ_self _)
 refine⟨by rw[Jg ne,Jf],Nat.zero_le _,ne,e2,λ _=>none,(Heap.Ns1.of_empty e3).at λ o q=>Heap.get?_push_of_some _ q,λ _=>True.intro,λ y hy=>absurd rfl hy⟩
theorem J0a {prog:Program}{w:World}{env:Env}{e:Expr}{f:Str}{pos:Pos}{s:Shared}{Q:Value->Shared->Prop}(hb:attributeBase e f env (eval e env)=eval e env)
  (h:wpAny (model prog w) A (eval e env) (λ o s₁=>wpAny (model prog w) A (getAttr o f true) Q E s₁) E s):wpAny (model prog w) A (eval (.Attribute e f pos) env) Q E s :=
 Attribute_any_ h (by rw[arm_eval_Attribute,hb])
end
section
variable {X:Cx}{o e value:Expr}{f:Str}{pos pos' tpos:Pos}{ta tv:TE}
end
section
variable {X:Cx}{pins:List (Addr×Obj)}{σ:St}{H:Hp}{s:Shared}{A:Around}{E:Value->Shared->Prop}{Q:Value->Shared->Prop}{c:Value}{b:Bool}
inductive TyOf (K:W.Frag) (H:Hp):V->Value->Prop where
 | non:TyOf K H .non (.type "NoneType")
 | bl (x:Bool):TyOf K H (.bl x) (.type "bool")
 | int (i:Int):TyOf K H (.int i) (.type "int")
 | str (x:Str):TyOf K H (.str x) (.type "str")
 | flt (x:UInt64):TyOf K H (.flt x) (.type "float")
 | lst {a:Addr}{xs:List V}(e:H a=some (.lst xs)):TyOf K H (.ref a) (.type "list")
 | frz {a:Addr}{o:Obj}{xs:List V}(e:H a=some (.frz o (.lst xs))):TyOf K H (.ref a) (.type "list")
 | tup {a:Addr}{xs:List V}(e:H a=some (.tup xs)):TyOf K H (.ref a) (.type "tuple")
 | dK {a:Addr}{kvs:List (Key×V)}(e:H a=some (.dK kvs)):TyOf K H (.ref a) (.type "dict")
 | dT {a:Addr}{kvs:List (List Key×V)}(e:H a=some (.dT kvs)):TyOf K H (.ref a) (.type "dict")
 | ins {a C dx:Addr}{fs:List (Str×V)}(e:H a=some (.ins C dx fs)) (cl:Cls K C) (ha:W.findIn K (.ref C) "__class__"=some (some (.builtin "object.__class__")))
   (hn:W.specialIn K (.builtin "object.__class__") "__get__"=some (some (.builtin "getset_descriptor.__get__"))) (htk:W.takesIn K (.builtin "object.__class__")=some true)
   (hm:W.mroIn K C (.type "object")=some true):TyOf K H (.ref a) (.ref C)
end
structure Room (k:Nat) (A:Around):Prop where
 hd:A.handled=none
 dp:A.depth+3*k+5<recursionLimit
 un:A.units+16*k+200<cLine
theorem Room.mono {j k:Nat}{A:Around}(r:Room k A) (h:j<=k):Room j A:=⟨r.hd,by have:=r.dp;omega,by have:=r.un;omega⟩
theorem Room.deeper {k:Nat}{A:Around}(r:Room (k+1) A) (env:Env):Room k (A.deeper env) :=
 ⟨r.hd,by have:=r.dp;show A.depth+1+3*k+5<_;omega,by have:=r.un;show A.units+3+16*k+200<_;omega⟩
theorem Room.in1 {k:Nat}{A:Around}(r:Room (k+1) A):Room k A.in1 :=
 ⟨r.hd,by have:=r.dp;show A.depth+3*k+5<_;omega,by have:=r.un;show A.units+1+16*k+200<_;omega⟩
theorem Jss {A:Around}{C:Addr}{us:List Value}{kw:List (Str×Value)}:(A.under (.builtin "type.__call__" ⟨.ref C::us,kw⟩)).depth=A.depth+1:=by
 first|rfl|simp[Around.under,Code.weight,Code.isCreation,Code.isGuard,Code.isCaller,Code.frames,Code.isFrame,guardIds]
theorem Jst {A:Around}{C:Addr}{us:List Value}{kw:List (Str×Value)}:(A.under (.builtin "type.__call__" ⟨.ref C::us,kw⟩)).units=A.units+1:=by
 first|rfl|simp[Around.under,Code.cUnits,Code.frames,Code.isFrame]
theorem Room.make {k:Nat}{A:Around}(r:Room (k+1) A) (C:Addr) (us:List Value) (kw:List (Str×Value)):Room k (A.under (.builtin "type.__call__" ⟨.ref C::us,kw⟩)) :=
 ⟨r.hd,by have:=r.dp;rw[Jss];omega,by have:=r.un;rw[Jst];omega⟩
theorem Room.depth {k:Nat}{A:Around}(r:Room k A):A.depth<recursionLimit:=by have:=r.dp;omega
theorem Room.units {k:Nat}{A:Around}(r:Room k A):A.units+64<cLine:=by have:=r.un;omega
section
variable {X:Cx}{e:Expr}{es:List Expr}{te:TE}{t:TA}{pos:Pos}
end
noncomputable abbrev Sp:=List V->Hp->VK->XK->Prop
noncomputable abbrev CXT:=List Env->Hp->Shared->XK->Value->Shared->Prop
structure Env0 (P:Program) (w:World) (K:W.Frag) (mg:Str->Option Value) (base:Heap) (A:Around) (outer:List Env) (s:Shared) (H:Hp):Prop where
 frames:A.frames=some outer
 mod:Mod K mg base
 bs:∀b o,base.get? b=some o->s.heap.get? b=some o/\H b=none
 bsz:base.objs.size<=s.heap.objs.size
 funs:s.heap.FunFrames base outer
 frf:∀b∈frs outer,H b=none
 hok:HOk P w H s.heap
 bare:AllBare s.gens
noncomputable def CE (outer:List Env) (P:Program) (w:World) (H:Hp) (s:Shared) (Q:VK) (u:Value) (s':Shared):Prop :=
 ∃v H',s'.os=s.os/\AllBare s'.gens/\Un (frs outer) [] H H' s.heap s'.heap/\HOk P w H' s'.heap/\RelV v u/\Q v H'
noncomputable def CR (CX:CXT) (outer:List Env) (P:Program) (w:World) (H:Hp) (s:Shared) (Q:VK) (E:XK) (r:Result) (s':Shared):Prop :=
 match r with
 | .ok (.ret u)=>CE outer P w H s Q u s'
 | .ok _=>False
 | .error e=>CX outer H s E e s'
structure FnOk (P:Program) (w:World) (K:W.Frag) (mg:Str->Option Value) (base:Heap) (CX:CXT) (k:Nat) (f:Addr) (fd:FuncData) (ps:List Str) (sp:Sp):Prop where
 len:∀vs H Q E,sp vs H Q E->vs.length=ps.length
 run:∀(A:Around) (outer:List Env) (s:Shared) (H:Hp) (args:Args) (us:List Value) (vs:List V) (Q:VK) (E:XK),Room k A->Env0 P w K mg base A outer s H->BindsTo s fd args (ps.zip us)->Vals vs us->sp vs H Q E ->
  codeAny (model P w) A (.call (.ref f) args) (CR CX outer P w H s Q E) s
theorem FnOk.mono {P:Program}{w:World}{K:W.Frag}{mg:Str->Option Value}{base:Heap}{CX:CXT}{j k:Nat}{f:Addr}{fd:FuncData}{ps:List Str}{sp:Sp}(F:FnOk P w K mg base CX j f fd ps sp) (h:j<=k) :
  FnOk P w K mg base CX k f fd ps sp:=⟨F.len,λ A outer s H args us vs Q E hr=>F.run A outer s H args us vs Q E (hr.mono h)⟩
theorem FnOk.imp {P:Program}{w:World}{K:W.Frag}{mg:Str->Option Value}{base:Heap}{CX:CXT}{k:Nat}{f:Addr}{fd:FuncData}{ps:List Str}{sp sp':Sp}(F:FnOk P w K mg base CX k f fd ps sp)
  (h:∀vs H Q E,sp' vs H Q E->sp vs H Q E):FnOk P w K mg base CX k f fd ps sp' :=
 ⟨λ vs H Q E q=>F.len vs H Q E (h _ _ _ _ q),λ A outer s H args us vs Q E hr he hb hv hs=>F.run A outer s H args us vs Q E hr he hb hv (h _ _ _ _ hs)⟩
theorem Env0.make {P:Program}{w:World}{K:W.Frag}{mg:Str->Option Value}{base:Heap}{A:Around}{outer:List Env}{s:Shared}{H:Hp}(e:Env0 P w K mg base A outer s H) (C:Addr) (us:List Value) (kw:List (Str×Value)) :
  Env0 P w K mg base (A.under (.builtin "type.__call__" ⟨.ref C::us,kw⟩)) outer s H:=⟨by first|exact e.frames|(simpa [Around.under,Code.envs,Code.isFrame,pushEnvs] using e.frames),e.mod,e.bs,e.bsz,e.funs,e.frf,e.hok,e.bare⟩
theorem Env0.in1 {P:Program}{w:World}{K:W.Frag}{mg:Str->Option Value}{base:Heap}{A:Around}{outer:List Env}{s:Shared}{H:Hp}(e:Env0 P w K mg base A outer s H) :
  Env0 P w K mg base A.in1 outer s H:=⟨e.frames,e.mod,e.bs,e.bsz,e.funs,e.frf,e.hok,e.bare⟩
section
variable {X:Cx}{pins:List (Addr×Obj)}{σ:St}{H:Hp}{s s':Shared}
theorem Inv.env0 (I:Inv X pins σ H s):Env0 X.prog X.w X.K X.mg X.base X.A X.stack s H :=
 ⟨I.ok.frames,I.ok.mod,I.bs,Nat.le_trans I.ok.bsz I.sz,I.stack,I.stkFree,I.hok,I.bare⟩
theorem Inv.after {Q:VK}{u:Value}(I:Inv X pins σ H s) (h:CE X.stack X.prog X.w H s Q u s'):EP X pins σ Q u s':=by
 obtain⟨v,H',os,bare,un,hok,r,q⟩:=h
 obtain⟨hh,g,d,t,os'⟩:=s'
 obtain rfl:os'=s.os:=os
 exact⟨v,H',I.call (h':=hh) (g':=g) (d':=d) (t':=t) (ch:=[]) un hok bare (λ b z=>absurd z (by simp)),r,q⟩
end
noncomputable def Je3 (K:W.Frag) (fd:FuncData) (ps:List Str) (ds:List Value):Prop :=
 ∀(s:Shared) (us:List Value),K.In s.heap->(us++ds).length=ps.length->BindsTo s fd ⟨us,[]⟩ (ps.zip (us++ds))
theorem Je3.all {K:W.Frag}{fd:FuncData}{ps:List Str}(h:∀us:List Value,us.length=ps.length->bindArgs fd ⟨us,[]⟩=pure (ps.zip us)):Je3 K fd ps []:=λ s us _ hl=>by
 rw[List.append_nil] at hl ⊢
 exact .of_eq (h us hl)
section
variable {X:Cx}{CX:CXT}{k:Nat}{f C:Addr}{fd:FuncData}{ps:List Str}{sp:Sp}{dvs:List V}{ds:List Value}{E:XK}{x m:Str}{p pos apos:Pos}{e o:Expr}{es:List Expr}{ta:TE}{t:TA}
structure Mk (K:W.Frag) (C f:Addr):Prop where
 makes:W.makesIn K C=true
 init:W.findIn K (.ref C) "__init__"=some (some (.ref f))
 fn:W.isFn K (.ref f)=true
 kp:W.keepIn K (.ref C)=true
end
section
variable {X:Cx}{CX:CXT}{k:Nat}{f C:Addr}{fd:FuncData}{ps ks:List Str}{sp:Sp}{E:XK}{x m:Str}{p pos apos kpos:Pos}{e o:Expr}{es:List Expr}{kws:List Keyword}{te ta:TE}{t tk:TA}{nm:Option Str}
structure KBinds (K:W.Frag) (fd:FuncData) (ps ks:List Str) (g:List Value->List Value->List Value) (gV:List V->List V->List V):Prop where
 to:∀(s:Shared) (us ws:List Value),K.In s.heap->(g us ws).length=ps.length->BindsTo s fd ⟨us,ks.zip ws⟩ (ps.zip (g us ws))
 rel:∀{vs:List V}{us:List Value}{zs:List V}{ws:List Value},Vals vs us->Vals zs ws->Vals (gV vs zs) (g us ws)
variable {g:List Value->List Value->List Value}{gV:List V->List V->List V}
end
structure FnScope (N P:List Str) (sc:Scope):Prop where
 kind:sc.kind=.function
 co:sc.isCoroutine=false
 gen:sc.isGenerator=false
 nd:N.Nodup
 pre:N.take P.length=P
 par:∀x∈P,sc.names.lookup x=some .local∨sc.names.lookup x=some .cell
 nofree:∀y∈sc.names,y.2≠.free
theorem Jnu {kindOf:Str->Option NameKind}{x:Str}:∀{binds:List (Str×Value)}{m:Str->Option Value},(∀v,(x,v)∉binds)->bindL kindOf binds m x=m x
 | [],_,_=>rfl
 | (n,v)::r,m,h=>by
  unfold bindL
  rw[Jnu λ w hw=>h w (List.mem_cons_of_mem _ hw)]
  split
  ·have:x≠n:=by rintro rfl;exact h v List.mem_cons_self
   simp[this]
  ·rfl
theorem Jns {kindOf:Str->Option NameKind}{x:Str}:∀{binds:List (Str×Value)}{m:Str->Option Value},(∀v,(x,v)∉binds)->bindC kindOf binds m x=m x
 | [],_,_=>rfl
 | (n,v)::r,m,h=>by
  unfold bindC
  rw[Jns λ w hw=>h w (List.mem_cons_of_mem _ hw)]
  split
  ·rfl
  ·have:x≠n:=by rintro rfl;exact h v List.mem_cons_self
   simp[this]
theorem Jnt {kindOf:Str->Option NameKind}{x:Str}{v:Value}:∀{P:List Str}{vs:List Value}{i:Nat}{m:Str->Option Value},P.Nodup->P[i]?=some x->vs[i]?=some v->kindOf x=some .local ->
  bindL kindOf (P.zip vs) m x=some v
 | [],_,_,_,_,h,_,_=>by simp at h
 | _::_,[],_,_,_,_,h,_=>by simp at h
 | p::P,w::vs,0,m,nd,h1,h2,hk=>by
  simp at h1 h2;subst h1;subst h2
  show bindL kindOf ((p,w)::P.zip vs) m p=_
  unfold bindL
  rw[Jnu λ v hv=>(List.nodup_cons.mp nd).1 (List.of_mem_zip hv).1,if_pos hk]
  simp
 | p::P,w::vs,i+1,m,nd,h1,h2,hk=>by
  show bindL kindOf ((p,w)::P.zip vs) m x=_
  unfold bindL
  exact Jnt (i:=i) (List.nodup_cons.mp nd).2 (by simpa using h1) (by simpa using h2) hk
theorem Jnr {kindOf:Str->Option NameKind}{x:Str}{v:Value}:∀{P:List Str}{vs:List Value}{i:Nat}{m:Str->Option Value},P.Nodup->P[i]?=some x->vs[i]?=some v->kindOf x≠some .local ->
  bindC kindOf (P.zip vs) m x=some v
 | [],_,_,_,_,h,_,_=>by simp at h
 | _::_,[],_,_,_,_,h,_=>by simp at h
 | p::P,w::vs,0,m,nd,h1,h2,hk=>by
  simp at h1 h2;subst h1;subst h2
  show bindC kindOf ((p,w)::P.zip vs) m p=_
  unfold bindC
  rw[Jns λ v hv=>(List.nodup_cons.mp nd).1 (List.of_mem_zip hv).1,if_neg hk]
  simp
 | p::P,w::vs,i+1,m,nd,h1,h2,hk=>by
  show bindC kindOf ((p,w)::P.zip vs) m x=_
  unfold bindC
  exact Jnr (i:=i) (List.nodup_cons.mp nd).2 (by simpa using h1) (by simpa using h2) hk
noncomputable def start (N:List Str) (vs:List V):St:=vs.map some++List.replicate (N.length-vs.length) none
noncomputable def cxOf (CX:CXT) (P:Program) (w:World) (K:W.Frag) (mg:Str->Option Value) (base:Heap) (N:List Str) (qual:Str) (scope:Scope) (f:Addr) (cd:Value) (A:Around) (outer:List Env) (s:Shared) (H:Hp) (E:XK):Cx where
 prog:=P
 w:=w
 K:=K
 mg:=mg
 base:=base
 A:=A.deeper (envOfC qual scope s.heap.objs.size f cd)
 N:=N
 s₀:=s
 H₀:=H
 env:=envOfC qual scope s.heap.objs.size f cd
 outer:=outer
 stack:=envOfC qual scope s.heap.objs.size f cd::outer
 ex:=[]
 calm:=true
 fn:=λ _=>true
 pn:=[]
 xe:=λ e s'=>wpAny (model P w) (A.deeper (envOfC qual scope s.heap.objs.size f cd)) (leaving (envOfC qual scope s.heap.objs.size f cd) e) (λ _ s''=>CX outer H s E e s'') (λ e' s''=>CX outer H s E e' s'') s'
theorem Jq5 {sc:Scope}{n:Nat}{x:Str}(h:sc.names.lookup x=some .cell):∃c,(cellsFrom n sc.names []).lookup x=some c:=by
 have q:=W.cellsFrom_some sc.names n [] (.inl h)
 exact Option.isSome_iff_exists.mp q
theorem Jvk {CX:CXT}{P:Program}{w:World}{K:W.Frag}{mg:Str->Option Value}{base:Heap}{N ps:List Str}{qual:Str}{scope:Scope}{f:Addr}{cd:Value}{A:Around}{outer:List Env}{s s1:Shared}{H:Hp}{E:XK}{us:List Value}{vs:List V}
  (S:FnScope N ps scope) (hd:A.handled=none) (e0:Env0 P w K mg base A outer s H) (hl:vs.length=ps.length) (r:Vals vs us)
  (x:InCallC s s.heap.objs.size (bindL (envOfC qual scope s.heap.objs.size f cd).kindOf (ps.zip us) λ _=>none) (cellsFrom (s.heap.objs.size+1) scope.names []) (bindC (envOfC qual scope s.heap.objs.size f cd).kindOf (ps.zip us) λ _=>none) s1) :
  Inv (cxOf CX P w K mg base N qual scope f cd A outer s H E) [] (start N vs) H s1:=by
 have hpl:ps.length<=N.length:=by have:=congrArg List.length S.pre;rw[List.length_take] at this;omega
 obtain⟨h1,tk,rfl,hk⟩:=x.done
 have noA:∀b:Addr,b∉(cxOf CX P w K mg base N qual scope f cd A outer s H E).ex:=λ b z=>absurd (show b∈([]:List Addr) from z) (by simp)
 refine⟨⟨e0.mod,S.kind,rfl,rfl,Nat.le_refl _,λ y z c h1 h2=>?_,λ y hy=>?_,λ y c _ h=>?_,λ _=>hd,Around.frames_deeper e0.frames,.inr ⟨rfl,rfl⟩,λ b z=>absurd z (noA b),e0.bs,e0.bsz,λ b _ _=>noA b,λ b z=>absurd z (noA b),e0.funs,e0.frf⟩,
  rfl,e0.bare,Un.kept hk,⟨_,x.toInCall.ns,λ i y v h1 h2 h3=>?_⟩,λ y c h=>⟨_,x.cell y c h⟩,e0.hok.fresh (Nat.le_refl _),λ y c h=>?_,λ p hp=>absurd (show p∈([]:List (Addr×Obj)) from hp) (by simp),e0.hok.kept hk,?_⟩
 ·exact name_of_addr x.apart (PySem.mem_of_lookup h1) (PySem.mem_of_lookup h2)
 ·have hy:scope.names.lookup y=some .cell∨scope.names.lookup y=some .free:=hy
  rcases hy with hy|hy
  ·exact Jq5 hy
  ·exact absurd rfl (S.nofree _ (PySem.mem_of_lookup hy))
 ·exact Nat.le_of_lt (x.above y c (PySem.mem_of_lookup h))
 ·have hi:i<vs.length:=by
   unfold start at h2
   by_cases hi:i<vs.length
   ·exact hi
   ·rw[List.getElem?_append_right (by simpa using hi)] at h2
    rw[List.getElem?_replicate] at h2
    split at h2<;>cases h2
  have ha:vs[i]?=some v:=by
   unfold start at h2
   rw[List.getElem?_append_left (by simpa using hi),List.getElem?_map] at h2
   cases e:vs[i]? with
   | none=>rw[e] at h2;cases h2
   | some a=>rw[e] at h2;cases h2;rfl
  obtain⟨u,hu,rv⟩:=r.get ha
  have hp:ps[i]?=some y:=by
   rw[<- S.pre,List.getElem?_take_of_lt (by omega)];exact h1
  have ndP:ps.Nodup:=by rw[<- S.pre];exact S.nd.sublist (List.take_sublist _ _)
  refine⟨u,rv,?_⟩
  rcases S.par y (List.mem_of_getElem? hp) with k|k
  ·exact .inl ⟨k,Jnt ndP hp hu k⟩
  ·obtain⟨c,e⟩:=Jq5 (n:=s.heap.objs.size+1) k
   refine .inr ⟨.inl k,c,e,?_⟩
   have q:=x.cell y c e
   rw[Jnr ndP hp hu (by show scope.names.lookup y≠_;rw[k];decide)] at q
   exact q
 ·exact e0.hok.fresh (Nat.le_of_lt (x.above y c (PySem.mem_of_lookup h)))
 ·unfold start
  show _=N.length
  rw[List.length_append,List.length_map,List.length_replicate]
  omega
theorem J23 {CX:CXT}{P:Program}{w:World}{K:W.Frag}{mg:Str->Option Value}{base:Heap}{k:Nat}{f:Addr}{name qual:Str}{params:Arguments}{body:List Stmt}{scope:Scope}{dV kV doc pm cdv ct oc:Value}{an od:Option Addr}
  {osl:Array (Option Value)}{N ps:List Str}{sp:Sp}(lk:K.lookup f=some ⟨oc,od,.func (W.fnOf name qual params body scope dV kV doc pm an cdv ct),osl⟩) (hcd:W.codeIn K cdv qual=true) (S:FnScope N ps scope)
  (len:∀vs H Q E,sp vs H Q E->vs.length=ps.length)
  (hbody:∀(A:Around) (outer:List Env) (s:Shared) (H:Hp) (vs:List V) (Q:VK) (E:XK),Room k (A.deeper (envOfC qual scope s.heap.objs.size f cdv))->sp vs H Q E ->
   ∃t,PSs (cxOf CX P w K mg base N qual scope f cdv A outer s H E) body t/\t { nx:=λ _ H'=>Q .non H',rt:=Q } (start N vs) H) :
  FnOk P w K mg base CX (k+1) f (W.fnOf name qual params body scope dV kV doc pm an cdv ct) ps sp:=by
 refine⟨len,λ A outer s H args us vs Q E hr e0 hb r hsp=>?_⟩
 have hl:=len _ _ _ _ hsp
 have KX:K.In s.heap:=e0.mod.kin.keeps λ b o e=>(e0.bs b o e).1
 have lim:s.heap.NoLimit:=e0.mod.nolimit.keeps λ b o e=>(e0.bs b o e).1
 have hkind:∀y∈ps.zip us,scope.names.lookup y.1=some .local∨(scope.names.lookup y.1=some .cell/\((cellsFrom (s.heap.objs.size+1) scope.names []).lookup y.1).isSome=true):=λ ⟨n,v⟩ hy=>by
  rcases S.par n (List.of_mem_zip hy).1 with q|q
  ·exact .inl q
  ·exact .inr ⟨q,W.cellsFrom_some _ _ _ (.inl q)⟩
 refine codeAny_call_function hr.depth (KX _ _ lk) rfl S.co S.gen rfl (W.codeRec_of KX hcd) (hb _ _ _ _ ?_)
 refine wpAny_newFunctionEnv_cells S.kind hkind λ env he s1 x=>?_
 subst he
 refine⟨lim.keeps x.toInCall.keep,codeAny_func ?_⟩
 obtain⟨t,ht,hq⟩:=hbody A outer s H vs Q E (hr.deeper _) hsp
 have I:Inv (cxOf CX P w K mg base N qual scope f cdv A outer s H E) [] (start N vs) H s1:=Jvk S hr.hd e0 hl r x
 refine wpAny_mono (ht [] s1 (start N vs) H _ I hq) (λ fl s' hs=>?_) λ e s' hs=>hs
 have fin:∀{σ':St}{H':Hp}{v:V}{u:Value},Inv (cxOf CX P w K mg base N qual scope f cdv A outer s H E) [] σ' H' s'->RelV v u->Q v H'->CE outer P w H s Q u s' :=
  λ {σ' H' v u} J rv q=>⟨v,H',J.os,J.bare,J.base,J.hok,rv,q⟩
 cases fl with
 | ret u =>
  obtain⟨v,σ',H',J,rv,q⟩:=hs
  exact fin J rv q
 | next =>
  obtain⟨σ',H',J,q⟩:=hs
  exact fin (v:=V.non) (u:=Value.none) J rfl q
 | brk =>
  obtain⟨_,_,_,q⟩:=hs
  exact False.elim q
 | cont =>
  obtain⟨_,_,_,q⟩:=hs
  exact False.elim q
section
variable {X:Cx}{x:Str}{p pos:Pos}{e:Expr}{es:List Expr}{t:TA}{id T:String}{r:List V->Hp->VK->Prop}
end
end L2
namespace HT
open PySem PyProof.Rows
section
open PySem.SeqAt
open PySem.AutoSeq1 (wpAny_loadPart')
open PySem.MeetsSeq PySem.MeetsSeq2 PySem.MeetsSeq3
end
section
variable {prog:Program}{w:World}{A:Around}{E:Value->Shared->Prop}{s:Shared}
theorem cat_tup {t b:Addr}{vs ws:List Value}{Q:Value->Shared->Prop}(ht:IsTup s.heap t vs.toArray) (hb:IsTup s.heap b ws.toArray) (hv:vs≠[])
  (h1:ws=[]->Q (.ref t) s) (h2:ws≠[]->Q (.ref s.heap.objs.size) { s with heap:=s.heap.push { cls:=.type "tuple",data:=.seq (vs++ws).toArray } })
  (hsz:vs.length+ws.length<=sizeLine):wpAny (model prog w) A (binaryOp .Add (.ref t) (.ref b)) Q E s:=by
 obtain⟨⟨cls,dd,data,sl⟩,ho,hc,n,hd⟩:=id ht
 obtain⟨⟨cls2,dd2,data2,sl2⟩,ho2,hc2,n2,hd2⟩:=id hb
 simp only at hc hd hc2 hd2
 subst hc hd hc2 hd2
 have e:vs.toArray++ws.toArray=(vs++ws).toArray:=by simp
 by_cases hw:ws=[]
 ·exact concat_meets ⟨_,ho,rfl⟩ ⟨_,ho2,rfl⟩ noFill_tuple_add seq_tuple_add PySem.F.slot_tuple_add PySem.F.entry_tuple_add (PySem.F.args_tuple_add_2 _ _)
   (tuple_addW1 t b vs.toArray ws.toArray n n2 dd dd2 sl sl2 (by simpa using hv) (by simp[hw])) ⟨ho,ho2,h1 hw⟩
 ·refine concat_meets ⟨_,ho,rfl⟩ ⟨_,ho2,rfl⟩ noFill_tuple_add seq_tuple_add PySem.F.slot_tuple_add PySem.F.entry_tuple_add (PySem.F.args_tuple_add_2 _ _)
   (tuple_addW2 t b vs.toArray ws.toArray n n2 dd dd2 sl sl2 (by simpa using hv) (by simpa using hw) (by rw[List.size_toArray,List.size_toArray];exact hsz)) ⟨ho,ho2,?_⟩
  rw[e]
  exact h2 hw
noncomputable def sIx (n d:Nat):Option Int->Nat
 | none=>d
 | some v=>if v<0 then(v+(n:Int)).toNat else min v.toNat n
theorem sIx_none (n d:Nat):sIx n d none=d:=rfl
theorem sIx_nat (n d k:Nat):sIx n d (some (k:Int))=min k n:=by
 show(if (k:Int)<0 then((k:Int)+(n:Int)).toNat else min (k:Int).toNat n)=min k n
 rw[if_neg (by omega),Int.toNat_natCast]
end
end HT
namespace L2
open PySem PySem.Spec PyProof.Rows
noncomputable abbrev TO:=St->Hp->(Option Int->Hp->Prop)->Prop
section
variable {X:Cx}{e:Expr}{te:TE}{lo hi:Option Expr}{tl th:TO}{pos p2:Pos}
noncomputable def SlR (X:Cx) (r:V->Option Int->Option Int->Hp->VK->Prop):Prop :=
 ∀(pins:List (Addr×Obj)) (s:Shared) (σ:St) (H:Hp) (x:V) (v vl vu:Value) (lo hi:Option Int) (sl:Addr) (Q:VK),Inv X pins σ H s->RelV x v->s.heap.IsSliceOf sl vl vu .none->IsPart vl lo->IsPart vu hi->r x lo hi H Q ->
  ∃T id,typeLookup (.type T) "__getitem__"=pure (some (.builtin id))/\s.TypeIs v T/\wpAny (model X.prog X.w) X.A (getItem v (.ref sl)) (EP X pins σ Q) X.xe s
noncomputable def cutV (xs:List V) (lo hi:Option Int):List V:=(xs.drop (HT.sIx xs.length 0 lo)).take (HT.sIx xs.length xs.length hi-HT.sIx xs.length 0 lo)
theorem Jpz (xs:List V) (lo hi:Option Int):(cutV xs lo hi).length<=xs.length:=by
 unfold cutV
 rw[List.length_take,List.length_drop]
 omega
noncomputable def rCatT (K:W.Frag):R2:=λ x y H Q=>∃a b xs ys,x=.ref a/\y=.ref b/\SqT K H a xs/\SqT K H b ys/\xs≠[]/\xs.length+ys.length<=sizeLine /\
 (ys=[]->Q (.ref a) H)/\(ys≠[]->∀p,H p=none->Q (.ref p) (upd H p (.tup (xs++ys))))
theorem Vals.nil_iff {xs:List V}{us:List Value}(r:Vals xs us):us=[]↔xs=[]:=by
 cases r with
 | nil=>simp
 | cons _ _=>simp
theorem J1g:OpR X (binaryOp .Add) (rCatT X.K):=by
 intro pins s σ H x y v u Q I rx ry h
 obtain⟨a,b,xs,ys,rfl,rfl,ha,hb,hx,hz,q1,q2⟩:=h
 cases rx
 cases ry
 obtain⟨its,r1,p1,_⟩:=I.tuple ha
 obtain⟨its2,r2,p2,_⟩:=I.tuple hb
 refine HT.cat_tup p1 p2 (λ z=>hx (r1.nil_iff.mp z)) (λ z=>⟨.ref a,H,I,rfl,q1 (r2.nil_iff.mp z)⟩) (λ z=>?_) (by rw[<- r1.length,<-r2.length];exact hz)
 refine⟨.ref s.heap.objs.size,_,I.laid (t':=s.toks) (o:=.tup (xs++ys)) (λ b ob q=>Heap.get?_push_of_some _ q) (Nat.le_refl _) ?_,rfl,q2 (λ w=>z (r2.nil_iff.mpr w)) _ (I.hok.fresh (Nat.le_refl _))⟩
 exact⟨by rw[List.length_append];exact hz,_,r1.append r2,IsTup.new _ _⟩
end
noncomputable def ixN (n:Nat) (i:Int):Option Nat:=if 0<=i then(if i<n then some i.toNat else none) else if -(n:Int)<=i then some (i+n).toNat else none
noncomputable def atI {α:Type}(xs:List α) (i:Int):Option α:=(ixN xs.length i).bind λ j=>xs[j]?
theorem Jvo {n:Nat}{i:Int}{j:Nat}(h:ixN n i=some j):seqIndex? i n=some j/\j<n/\ -(n:Int)<=i/\i<n:=by
 unfold ixN at h
 by_cases h0:0<=i
 ·rw[if_pos h0] at h
  by_cases h1:i<n
  ·rw[if_pos h1] at h
   have e:i.toNat=j:=Option.some.inj h
   exact⟨by rw[seqIndex_of h0 h1,e],by omega,by omega,h1⟩
  ·rw[if_neg h1] at h;cases h
 ·rw[if_neg h0] at h
  by_cases h1: -(n:Int)<=i
  ·rw[if_pos h1] at h
   have e:(i+n).toNat=j:=Option.some.inj h
   exact⟨by rw[seqIndex_neg (by omega) h1,e],by omega,h1,by omega⟩
  ·rw[if_neg h1] at h;cases h
theorem Jmo {α:Type}{xs:List α}{i:Int}{v:α}(h:atI xs i=some v):∃j,seqIndex? i xs.length=some j/\xs[j]?=some v/\j<xs.length/\ -(xs.length:Int)<=i/\i<xs.length:=by
 unfold atI at h
 cases e:ixN xs.length i with
 | none=>rw[e] at h;cases h
 | some j =>
  rw[e] at h
  obtain⟨h1,h2,h3,h4⟩:=Jvo e
  exact⟨j,h1,h,h2,h3,h4⟩
noncomputable def Jt6 (b:Expr):Prop:=∀o i,subscripted b false o i=operate [o,i] (getItem o i)
noncomputable def IxR (X:Cx) (r:R2):Prop :=
 ∀(value slice:Expr) (pins:List (Addr×Obj)) (s:Shared) (σ:St) (H:Hp) (x y:V) (v u:Value) (Q:VK),Inv X pins σ H s->RelV x v->RelV y u->r x y H Q ->
  subscripted slice false v u=operate [v,u] (getItem v u)->wpAny (model X.prog X.w) X.A (subscriptTail value slice v u) (EP X pins σ Q) X.xe s
section
variable {X:Cx}{a b:Expr}{ta tb:TE}{pos:Pos}
noncomputable def rIxL (K:W.Frag):R2:=λ x y H Q=>∃p xs i v,x=.ref p/\y=.int i/\SqL K H p xs/\atI xs i=some v/\Q v H
noncomputable def rIxT (K:W.Frag):R2:=λ x y H Q=>∃p xs i v,x=.ref p/\y=.int i/\SqT K H p xs/\atI xs i=some v/\Q v H
noncomputable def rIxS:R2:=λ x y H Q=>∃z i c,x=.str z/\y=.int i/\z.length<=sizeLine/\atI z.cps.toList i=some c/\Q (.str ⟨#[c]⟩) H
theorem Jvp:IxR X (rIxL X.K):=by
 intro value slice pins s σ H x y v u Q I rx ry h hs
 obtain⟨p,xs,i,z,rfl,rfl,hq,he,q⟩:=h
 cases rx
 obtain⟨t,rfl⟩:=ry
 obtain⟨its,r,pl,hz⟩:=I.list hq
 obtain⟨j,h1,h2,h3,h4,h5⟩:=Jmo he
 obtain⟨w,ew,rw'⟩:=r.get h2
 have hl:=r.length
 have hn:=Jkc
 have fin:EP X pins σ Q w s:=⟨z,H,I,rw',q⟩
 by_cases h0:0<=i
 ·have hj:i.toNat=j:=by
   rw[seqIndex_of h0 h5] at h1
   exact Option.some.inj h1
  exact item_listR pl.isList h0 (by omega) (by rw[hj];simpa using ew) fin hs
 ·have hj:(i+(its.toArray.size:Int)).toNat=j:=by
   rw[seqIndex_neg (by omega) h4] at h1
   rw[List.size_toArray,<-hl]
   exact Option.some.inj h1
  exact subscriptTail_builtinR (x:=w) pl.isList.typeIs slot_list_getitem.lookup
   (wpAny_getItem_list_neg (Q:=λ r s'=>r=w/\EP X pins σ Q r s') pl.isList (by omega) (by rw[List.size_toArray]<;>omega) (by omega) (by rw[hj];simpa using ew) ⟨rfl,fin⟩) hs
theorem J3m:IxR X (rIxT X.K):=by
 intro value slice pins s σ H x y v u Q I rx ry h hs
 obtain⟨p,xs,i,z,rfl,rfl,hq,he,q⟩:=h
 cases rx
 obtain⟨t,rfl⟩:=ry
 obtain⟨its,r,pl,hz⟩:=I.tuple hq
 obtain⟨j,h1,h2,h3,h4,h5⟩:=Jmo he
 obtain⟨w,ew,rw'⟩:=r.get h2
 have hl:=r.length
 have hn:=Jkc
 have fin:EP X pins σ Q w s:=⟨z,H,I,rw',q⟩
 exact subscriptTail_builtinR (x:=w) pl.typeIs slot_tuple_getitem.lookup
  (getItem_tuple (j:=j) (Q:=λ r s'=>r=w/\EP X pins σ Q r s') pl (by omega) (by omega) (by rw[List.size_toArray,<-hl];exact h1) (by simpa using ew) ⟨rfl,fin⟩) hs
theorem J3l:IxR X rIxS:=by
 intro value slice pins s σ H x y v u Q I rx ry h hs
 obtain⟨z,i,c,rfl,rfl,hz,he,q⟩:=h
 obtain⟨t,rfl⟩:=rx
 obtain⟨t',rfl⟩:=ry
 obtain⟨j,h1,h2,h3,h4,h5⟩:=Jmo he
 have hl:z.cps.toList.length=z.length:=by simp[Str.length]
 rw[hl] at h1 h4 h5
 have hn:=Jkc
 exact tail_any (typeIs_str s z t) slot_str_getitem.lookup (getItem_str (c:=c) (by
  have e1:decide (i< -(2^63:Int))=false:=decide_eq_false (by omega)
  have e2:decide (i ≥ 2^63)=false:=decide_eq_false (by omega)
  rw[e1,e2,Bool.or_false]) (by rw[h1];simpa using h2) ⟨.str ⟨#[c]⟩,H,I.tok _,⟨_,rfl⟩,q⟩) hs
theorem Jsu (its:List Value) (n j:Nat) (u:Value):Obj.mapSeq (·.setIfInBounds j u) { cls:=.type "list",data:=.seq its.toArray n }={ cls:=.type "list",data:=.seq (its.set j u).toArray n }:=by
 simp[Obj.mapSeq]
theorem Inv.lst {pins:List (Addr×Obj)}{σ:St}{H:Hp}{s:Shared}{p:Addr}{xs:List V}(I:Inv X pins σ H s) (h:H p=some (.lst xs)) :
  ∃(its:List Value) (n:Nat),Vals xs its/\s.heap.get? p=some { cls:=.type "list",data:=.seq its.toArray n }/\xs.length<=sizeLine:=by
 obtain⟨z,its,n,r,e⟩:=I.hok p _ h
 exact⟨its,n,r,e,z⟩
theorem Inv.lstUpd {pins:List (Addr×Obj)}{σ:St}{H:Hp}{s:Shared}{p:Addr}{xs ys:List V}{its its':List Value}{n n':Nat}{f:Obj->Obj}(I:Inv X pins σ H s) (h:H p=some (.lst xs))
  (ho:s.heap.get? p=some { cls:=.type "list",data:=.seq its.toArray n }) (hf:f { cls:=.type "list",data:=.seq its.toArray n }={ cls:=.type "list",data:=.seq its'.toArray n' }) (r:Vals ys its') (hz:ys.length<=sizeLine) (t:Nat) :
  Inv X pins σ (upd H p (.lst ys)) { s with heap:=s.heap.update p f,toks:=t }:=by
 have e:(s.heap.update p f).get? p=some { cls:=.type "list",data:=.seq its'.toArray n' }:=by
  rw[Heap.get?_update_self f ho (by rw[hf]<;>rfl),hf]
 refine I.write (x:=p) (e:=p) (by rw[h];trivial) (.inl rfl) (λ b u hb q=>(Heap.get?_update_other _ _ (Ne.symm hb)).trans q) ⟨_,e⟩ ?_
 exact⟨hz,its',n',r,e⟩
noncomputable def rSetL:V->V->V->Hp->(Hp->Prop)->Prop:=λ o i v H Q=>∃p xs k j,o=.ref p/\i=.int k/\H p=some (.lst xs)/\ixN xs.length k=some j/\Q (upd H p (.lst (xs.set j v)))
theorem Jyi:PSet X rSetL:=by
 intro pins s σ H o i v ov iv u Q I ro ri rv h
 obtain⟨p,xs,k,j,rfl,rfl,hp,hj,q⟩:=h
 cases ro
 obtain⟨t,rfl⟩:=ri
 obtain⟨its,n,r,ho,hz⟩:=I.lst hp
 obtain⟨h1,h2,h3,h4⟩:=Jvo hj
 have hl:=r.length
 have hn:=Jkc
 have I':Inv X pins σ (upd H p (.lst (xs.set j v))) { s with heap:=s.heap.update p (Obj.mapSeq (·.setIfInBounds j u)) } :=
  I.lstUpd hp ho (Jsu its n j u) (r.set rv j) (by rw[List.length_set];exact hz) s.toks
 by_cases h0:0<=k
 ·have hk:k.toNat=j:=by
   rw[seqIndex_of h0 h4] at h1
   exact Option.some.inj h1
  exact W.ki_setAt ho h0 (by omega) (by rw[List.size_toArray,<-hl];exact h4) (by rw[hk];exact⟨_,I',q⟩)
 ·have hk:(k+(its.toArray.size:Int)).toNat=j:=by
   rw[seqIndex_neg (by omega) h3] at h1
   rw[List.size_toArray,<-hl]
   exact Option.some.inj h1
  exact W.ki_setBack ho (by omega) (by rw[List.size_toArray,<-hl];exact h3) (by omega) (by rw[hk];exact⟨_,I',q⟩)
theorem Jpj (lo hi:Option Int) (n:Nat):(sliceBounds lo hi none n).1=((HT.sIx n 0 lo:Nat):Int)/\(sliceBounds lo hi none n).2.1=((HT.sIx n n hi:Nat):Int)/\(sliceBounds lo hi none n).2.2=1:=by
 refine⟨?_,?_,rfl⟩
 ·cases lo with
  | none=>simp[sliceBounds,HT.sIx]
  | some i =>
   simp only[sliceBounds,HT.sIx,Option.getD_none,show(1:Int)>0 by decide,if_true]
   by_cases h:i<0
   ·simp only[h,if_true]<;>omega
   ·simp only[h,if_false]<;>omega
 ·cases hi with
  | none=>simp[sliceBounds,HT.sIx]
  | some i =>
   simp only[sliceBounds,HT.sIx,Option.getD_none,show(1:Int)>0 by decide,if_true]
   by_cases h:i<0
   ·simp only[h,if_true]<;>omega
   ·simp only[h,if_false]<;>omega
theorem Jnf (its:List Value) (lo hi:Option Int):slicePick its.toArray lo hi none=((its.drop (HT.sIx its.length 0 lo)).take (HT.sIx its.length its.length hi-HT.sIx its.length 0 lo)).toArray:=by
 obtain⟨h1,h2,h3⟩:=Jpj lo hi its.toArray.size
 unfold slicePick
 rw[h1,h2,h3]
 simp only[sliceRange_one,pick_run,List.size_toArray]<;>rfl
noncomputable def rSlL (K:W.Frag):V->Option Int->Option Int->Hp->VK->Prop:=λ x lo hi H Q=>∃a xs,x=.ref a/\SqL K H a xs/\∀p,H p=none->Q (.ref p) (upd H p (.lst (cutV xs lo hi)))
theorem Jwl:SlR X (rSlL X.K):=by
 intro pins s σ H x v vl vu lo hi sl Q I rx hs pl pu h
 obtain⟨a,xs,rfl,hx,q⟩:=h
 cases rx
 obtain⟨its,r,ht,hz⟩:=I.list hx
 have hlen:=r.length
 refine⟨"list",_,slot_list_getitem.lookup,ht.isList.typeIs,?_⟩
 refine wpAny_getItem_list_slice ht.isList hs pl pu .none (by simp) ?_ (by rw[List.size_toArray]<;>omega)
 rw[Jnf,<-hlen]
 refine⟨.ref s.heap.objs.size,_,I.laid (t':=s.toks) (o:=.lst (cutV xs lo hi)) (λ b ob q=>Heap.get?_push_of_some _ q) (Nat.le_refl _) ?_,rfl,q _ (I.hok.fresh (Nat.le_refl _))⟩
 exact⟨Nat.le_trans (Jpz xs lo hi) hz,_,0,(r.drop (HT.sIx xs.length 0 lo)).take (HT.sIx xs.length xs.length hi-HT.sIx xs.length 0 lo),Heap.get?_push_size _ rfl⟩
theorem Jdx:Jt3 X (.type "list") (λ xs H Q=>∃p ys,xs=[.ref p]/\(SqL X.K H p ys∨SqT X.K H p ys)/\∀l,H l=none->Q (.ref l) (upd H l (.lst ys))):=by
 intro pins s σ H xs us Q I r h
 obtain⟨p,ys,rfl,hq,q⟩:=h
 obtain⟨u,rfl,rx⟩:=Jk3 r
 cases rx
 have fin:∀(its:List Value),Vals ys its->ys.length<=sizeLine->∀(h':Heap) (c':Nat),(∀b o',s.heap.get? b=some o'->h'.get? b=some o') ->
   h'.get? s.heap.objs.size=some { cls:=.type "list",dict:=none,data:=.seq its.toArray c',slots:=#[] }->EP X pins σ Q (.ref s.heap.objs.size) { s with heap:=h' }:=λ its r' hz h' c' kp e =>
  ⟨.ref s.heap.objs.size,_,I.laid (t':=s.toks) kp (Nat.le_refl _) (show Jas X.prog X.w _ h' _ (.lst ys) from⟨hz,its,c',r',e⟩),rfl,q _ (I.hok.fresh (Nat.le_refl _))⟩
 rcases hq with hq|hq
 ·obtain⟨its,r',pl,hz⟩:=I.list hq
  have hlen:=r'.length
  obtain⟨o,ho,hc,n,hd⟩:=pl.isList
  exact call_list_seq p (.inl rfl) ho hc hd (λ h' c' kp e=>fin its r' hz h' c' kp e) (by simp only[List.size_toArray]<;>omega)
 ·obtain⟨its,r',pl,hz⟩:=I.tuple hq
  have hlen:=r'.length
  obtain⟨o,ho,hc,n,hd⟩:=pl
  exact call_list_seq p (.inr rfl) ho hc hd (λ h' c' kp e=>fin its r' hz h' c' kp e) (by simp only[List.size_toArray]<;>omega)
theorem Jgo:Jt3 X (.type "tuple") (λ xs H Q=>∃p ys,xs=[.ref p]/\((SqL X.K H p ys/\∀l,H l=none->Q (.ref l) (upd H l (.tup ys)))∨(SqT X.K H p ys/\Q (.ref p) H))):=by
 intro pins s σ H xs us Q I r h
 obtain⟨p,ys,rfl,h⟩:=h
 obtain⟨u,rfl,rx⟩:=Jk3 r
 cases rx
 rcases h with⟨hq,q⟩|⟨hq,q⟩
 ·obtain⟨its,r',pl,hz⟩:=I.list hq
  have hlen:=r'.length
  refine call_tuple_list pl.isList (λ h' kp=>?_) (by simp only[List.size_toArray]<;>omega)
  have I1:Inv X pins σ H { s with heap:=h' }:=I.kept (t':=s.toks) kp
  have I2:Inv X pins σ (upd H h'.objs.size (.tup ys)) { s with heap:=h'.push { cls:=.type "tuple",data:=.seq its.toArray } } :=
   I1.laid (t':=s.toks) (λ b o e=>Heap.get?_push_of_some _ e) (Nat.le_refl _) (show Jas X.prog X.w _ _ _ (.tup ys) from⟨hz,its,r',IsTup.new _ _⟩)
  exact⟨.ref h'.objs.size,_,I2,rfl,q _ (I1.hok.fresh (Nat.le_refl _))⟩
 ·obtain⟨its,r',pl,hz⟩:=I.tuple hq
  exact call_tuple_same pl ⟨.ref p,H,I,rfl,q⟩
noncomputable def tyV (K:W.Frag) (T:String) (x:V) (H:Hp):Prop:=match x with
 | .str _=>T="str"
 | .int _=>T="int"
 | .ref p=>(T="list"/\∃xs,SqL K H p xs)∨(T="tuple"/\∃o,K.lookup p=some o/\o.cls=.type "tuple"/\o.dict=none) ∨
   (T="dict"/\((∃kvs,H p=some (.dK kvs))∨∃kvs,H p=some (.dT kvs)))∨(T="set"/\∃S n,H p=some (.set S n))
 | _=>False
theorem Jzy {pins:List (Addr×Obj)}{σ:St}{H:Hp}{s:Shared}{T:String}{x:V}{v:Value}(I:Inv X pins σ H s) (r:RelV x v) (ty:tyV X.K T x H) :
  s.TypeIs v T/\∀a,v=.ref a->∃ob,s.heap.get? a=some ob/\ob.dict=none:=by
 cases x with
 | str z =>
  obtain⟨t,rfl⟩:=r
  cases (show T="str" from ty)
  exact⟨typeIs_str s z t,λ _ e=>nomatch e⟩
 | int i =>
  obtain⟨t,rfl⟩:=r
  cases (show T="int" from ty)
  exact⟨typeIs_int s i t,λ _ e=>nomatch e⟩
 | ref p =>
  cases r
  rcases ty with⟨rfl,xs,hq⟩|⟨rfl,o,hk,hc,hd⟩|⟨rfl,hk⟩|⟨rfl,S,n,hk⟩
  ·obtain⟨its,_,pl,_⟩:=I.list hq
   refine⟨pl.isList.typeIs,λ a e=>?_⟩
   cases e
   obtain⟨o,n,e,c,hd,_⟩:=pl
   exact⟨o,e,hd⟩
  ·refine⟨⟨o,I.kIn p o hk,hc⟩,λ a e=>?_⟩
   cases e
   exact⟨o,I.kIn _ o hk,hd⟩
  ·have z:∃o,s.heap.get? p=some o/\o.ExactDict:=by
    rcases hk with⟨kvs,hk⟩|⟨kvs,hk⟩
    ·obtain⟨_,_,_,_,o,_,_,e,ex,_⟩:=I.hok p _ hk
     exact⟨o,e,ex⟩
    ·obtain⟨_,_,_,_,o,_,_,e,ex,_⟩:=I.hok p _ hk
     exact⟨o,e,ex⟩
   obtain⟨o,e,ex⟩:=z
   refine⟨⟨o,e,ex.1⟩,λ a e2=>?_⟩
   cases e2
   exact⟨o,e,ex.2.1⟩
  ·obtain⟨o,_,_,_,e,ex,_⟩:=I.hok p _ hk
   refine⟨⟨o,e,ex.1⟩,λ a e2=>?_⟩
   cases e2
   exact⟨o,e,ex.2.1⟩
 | _=>exact False.elim ty
variable {o e:Expr}{es:List Expr}{to:TE}{t:TA}{name:Str}{apos cpos:Pos}{T id:String}{r:V->List V->Hp->VK->Prop}
end
noncomputable def MtM (X:Cx) (id:String) (r:V->List V->Hp->VK->Prop):Prop :=
 ∀(pins:List (Addr×Obj)) (s:Shared) (σ:St) (H:Hp) (x:V) (xs:List V) (v:Value) (us:List Value) (Q:VK),Inv X pins σ H s->RelV x v->Vals xs us->r x xs H Q ->
  wpAny (model X.prog X.w) X.A (call (.builtin id) (v::us)) (EP X pins σ Q) X.xe s
theorem Vals.one:∀{x:V}{us:List Value},Vals [x] us->∃u,us=[u]/\RelV x u
 | _,_,.cons r .nil=>⟨_,rfl,r⟩
theorem Vals.two:∀{x y:V}{us:List Value},Vals [x,y] us->∃u v,us=[u,v]/\RelV x u/\RelV y v
 | _,_,_,.cons r (.cons q .nil)=>⟨_,_,rfl,r,q⟩
theorem Vals.zero:∀{us:List Value},Vals [] us->us=[]
 | _,.nil=>rfl
theorem Vals.eraseIdx:∀{xs:List V}{us:List Value}(i:Nat),Vals xs us->Vals (xs.eraseIdx i) (us.eraseIdx i)
 | _,_,_,.nil=>.nil
 | _,_,0,.cons _ t=>t
 | _,_,i+1,.cons r t=>.cons r (Vals.eraseIdx i t)
theorem Vals.rep {xs:List V}{us:List Value}(h:Vals xs us):∀k:Nat,Vals (List.replicate k xs).flatten (List.replicate k us).flatten
 | 0=>.nil
 | k+1=>by
  rw[List.replicate_succ,List.replicate_succ,List.flatten_cons,List.flatten_cons]
  exact Vals.append h (Vals.rep h k)
theorem Jn6 (its:List Value):∀(k:Nat) (acc:List Value),
  List.foldl (λ x1 x2=>x1++x2) acc.toArray (List.replicate k its.toArray)=(acc++(List.replicate k its).flatten).toArray
 | 0,acc=>by simp
 | k+1,acc=>by
  have e:acc.toArray++its.toArray=(acc++its).toArray:=by simp
  have e2:(acc++its)++(List.replicate k its).flatten=acc++(List.replicate (k+1) its).flatten:=by
   rw[List.replicate_succ,List.flatten_cons,List.append_assoc]
  rw[<- e2,<-Jn6 its k (acc++its),<-e,List.replicate_succ,List.foldl_cons]
section
variable {X:Cx}{pins:List (Addr×Obj)}{σ:St}{H:Hp}{s:Shared}{l b:Addr}{xs ys zs:List V}
theorem Inv.lset {its its':List Value}{n:Nat}{f:Array Value->Array Value}{t':Nat}(I:Inv X pins σ H s) (hH:H l=some (.lst xs))
  (e:s.heap.get? l=some { cls:=.type "list",data:=.seq its.toArray n }) (hf:f its.toArray=its'.toArray) (hv:Vals ys its') (hz:ys.length<=sizeLine) :
  Inv X pins σ (upd H l (.lst ys)) { s with heap:=s.heap.update l (Obj.mapSeq f),toks:=t' }:=by
 have q:=PySem.IsL.update e f
 rw[hf] at q
 refine I.write (x:=l) (e:=l) (by rw[hH];exact trivial) (.inl rfl) (λ b' u hb hu=>(Heap.get?_update_other s.heap (Obj.mapSeq f) (Ne.symm hb)).trans hu) ⟨_,q⟩ ?_
 exact⟨hz,its',_,hv,q⟩
theorem Inv.lnew {its:List Value}{t':Nat}(I:Inv X pins σ H s) (hv:Vals ys its) (hz:ys.length<=sizeLine) :
  Inv X pins σ (upd H s.heap.objs.size (.lst ys)) { s with heap:=s.heap.push { cls:=.type "list",data:=.seq its.toArray },toks:=t' } :=
 I.laid (λ _ _ q=>Heap.get?_push_of_some _ q) (Nat.le_refl _) ⟨hz,its,0,hv,Heap.get?_push_size _ rfl⟩
theorem Inv.fresh (I:Inv X pins σ H s):H s.heap.objs.size=none:=I.hok.fresh (Nat.le_refl _)
theorem Inv.lstM (I:Inv X pins σ H s) (hH:H l=some (.lst xs)):xs.length<=sizeLine/\∃(its:List Value) (n:Nat),Vals xs its/\xs.length=its.length/\s.heap.get? l=some { cls:=.type "list",data:=.seq its.toArray n }:=by
 obtain⟨z,its,n,r,e⟩:=I.hok l _ hH
 exact⟨z,its,n,r,r.length,e⟩
theorem Jrh {n:Nat}(h:n<=sizeLine):Builtin.List.listTooLong n=false:=by
 unfold Builtin.List.listTooLong
 exact decide_eq_false (by omega)
end
section
variable {X:Cx}
noncomputable def J1l:V->List V->Hp->VK->Prop:=λ x vs H Q=>∃l xs y,x=.ref l/\vs=[y]/\H l=some (.lst xs)/\xs.length<sizeLine/\Q .non (upd H l (.lst (xs++[y])))
theorem Joq:MtM X "list.append" J1l:=by
 intro pins s σ H x vs v us Q I rx rv h
 obtain⟨l,xs,y,rfl,rfl,hH,hz,q⟩:=h
 cases rx
 obtain⟨u,rfl,ru⟩:=rv.one
 obtain⟨z,its,n,r,hl,e⟩:=I.lstM hH
 refine call_meets F.slot_list_append ⟨_,e,rfl⟩ F.entry_list_append (F.args_list_append_2 _ _) (PySem.list_append l its.toArray n u (by rw[List.size_toArray];omega)) ⟨e,?_⟩
 refine⟨.non,_,I.lset (its':=its++[u]) hH e (by simp) (r.append (.cons ru .nil)) ?_,rfl,q⟩
 rw[List.length_append,List.length_singleton]
 omega
noncomputable def J1m:V->List V->Hp->VK->Prop:=λ x vs H Q=>∃l b xs zs,x=.ref l/\vs=[.ref b]/\H l=some (.lst xs)/\H b=some (.lst zs)/\xs.length+zs.length<=sizeLine/\Q .non (upd H l (.lst (xs++zs)))
theorem J3w:MtM X "list.extend" J1m:=by
 intro pins s σ H x vs v us Q I rx rv h
 obtain⟨l,b,xs,zs,rfl,rfl,hH,hB,hz,q⟩:=h
 cases rx
 obtain⟨u,rfl,ru⟩:=rv.one
 cases ru
 obtain⟨z,its,n,r,hl,e⟩:=I.lstM hH
 obtain⟨z2,its2,n2,r2,hl2,e2⟩:=I.lstM hB
 have hsz:its.toArray.size+its2.toArray.size<=sizeLine:=by rw[List.size_toArray,List.size_toArray];omega
 have hlong:¬(!its.toArray.isEmpty&&Builtin.List.listTooLong (its.toArray.size+its2.toArray.size))=true:=by
  rw[Jrh hsz,Bool.and_false]
  exact Bool.false_ne_true
 refine call_meets F.slot_list_extend ⟨_,e,rfl⟩ F.entry_list_extend (F.args_list_extend_2 _ _)
  (AutoSeq1.list_extend_list_list_0 l its.toArray n b its2.toArray n2 hlong (by rw[List.size_toArray];omega) (by omega)) ⟨e,e2,?_⟩
 refine⟨.non,_,I.lset (its':=its++its2) hH e (by simp) (r.append r2) ?_,rfl,q⟩
 rw[List.length_append]
 omega
noncomputable def J4g:V->List V->Hp->VK->Prop:=λ x vs H Q=>∃l xs,x=.ref l/\vs=[]/\H l=some (.lst xs)/\Q .non (upd H l (.lst []))
theorem Jx6:MtM X "list.clear" J4g:=by
 intro pins s σ H x vs v us Q I rx rv h
 obtain⟨l,xs,rfl,rfl,hH,q⟩:=h
 cases rx
 have hus:=rv.zero
 subst hus
 obtain⟨z,its,n,r,hl,e⟩:=I.lstM hH
 refine call_meets F.slot_list_clear ⟨_,e,rfl⟩ F.entry_list_clear (F.args_list_clear_1 _) (AutoSeq1.list_clear_list_0 l its.toArray n (by rw[List.size_toArray];omega)) ⟨e,?_⟩
 exact⟨.non,_,I.lset (its':=[]) (ys:=[]) hH e rfl .nil (Nat.zero_le _),rfl,q⟩
noncomputable def rCat:R2:=λ x y H Q=>∃l b xs zs,x=.ref l/\y=.ref b/\H l=some (.lst xs)/\H b=some (.lst zs)/\xs.length+zs.length<=sizeLine/\∀p,H p=none->Q (.ref p) (upd H p (.lst (xs++zs)))
theorem J34:OpR X (binaryOp .Add) rCat:=by
 intro pins s σ H x y v u Q I rx ry h
 obtain⟨l,b,xs,zs,rfl,rfl,hH,hB,hz,q⟩:=h
 cases rx
 cases ry
 obtain⟨z,its,n,r,hl,e⟩:=I.lstM hH
 obtain⟨z2,its2,n2,r2,hl2,e2⟩:=I.lstM hB
 refine PySem.P.add_list e e2 ?_ (by rw[List.size_toArray,List.size_toArray];omega)
 have ea:its.toArray++its2.toArray=(its++its2).toArray:=by simp
 rw[ea]
 exact⟨.ref _,_,I.lnew (t':=s.toks) (r.append r2) (by rw[List.length_append];omega),rfl,q _ I.fresh⟩
noncomputable def rRep:R2:=λ x y H Q=>∃l k xs,x=.ref l/\y=.int k/\H l=some (.lst xs)/\ -(2^63)<=k/\k<2^63/\xs.length*k.toNat<=sizeLine /\
 ∀p,H p=none->Q (.ref p) (upd H p (.lst (List.replicate k.toNat xs).flatten))
theorem J05 {α:Type}(xs:List α) (k:Nat):(List.replicate k xs).flatten.length=k*xs.length:=by
 induction k with
 | zero=>simp
 | succ k ih=>rw[List.replicate_succ,List.flatten_cons,List.length_append,ih,Nat.succ_mul,Nat.add_comm]
theorem J37:OpR X (binaryOp .Mult) rRep:=by
 intro pins s σ H x y v u Q I rx ry h
 obtain⟨l,k,xs,rfl,rfl,hH,h1,h2,hz,q⟩:=h
 cases rx
 obtain⟨t,rfl⟩:=ry
 obtain⟨z,its,n,r,hl,e⟩:=I.lstM hH
 have hlen:its.toArray.size*k.toNat<=sizeLine:=by rw[List.size_toArray,<-hl];exact hz
 have hcap:¬its.toArray.size*k.toNat>(2^63-1)/8:=by
  have:(sizeLine:Nat)<=(2^63-1)/8:=by decide
  omega
 have hfit:¬(!Builtin.List.listFitsIndex k)=true:=by
  rw[fitsIndex_both h1 h2]
  exact Bool.false_ne_true
 have hlong:¬Builtin.List.listTooLong (its.toArray.size*k.toNat)=true:=by
  rw[Jrh hlen]
  exact Bool.false_ne_true
 have hnew:List.foldl (λ x1 x2=>x1++x2) #[] (List.replicate (if its.toArray.isEmpty=true then 0 else k.toNat) its.toArray)=(List.replicate k.toNat its).flatten.toArray:=by
  have f0:∀m:Nat,List.foldl (λ x1 x2=>x1++x2) #[] (List.replicate m its.toArray)=(List.replicate m its).flatten.toArray:=λ m=>by
   have:=Jn6 its m []
   rw[List.nil_append] at this
   exact this
  rw[f0]
  cases its with
  | nil=>simp
  | cons a r'=>rw[if_neg (by simp)]
 refine wpAny_binaryOp_repeat_ref (T:="list") (U:="int") (by decide) ⟨_,e,rfl⟩ (λ s'=>typeIs_int s' k t) noFill_list_mul F.fills_int_mul F.slot_int_rmul repeat_list F.slot_int_index.lookup
  (call_meets F.slot_int_rmul (typeIs_int s k t) F.entry_int_rmul (F.args_int_rmul_2 _ _) (int___rmul___int_list k t l its.toArray n)
   ⟨e,rfl,⟨_,e,rfl⟩,call_meets F.slot_list_mul ⟨_,e,rfl⟩ F.entry_list_mul (F.args_list_mul_2 _ _) (AutoListH.list___mul___list_int_3 l its.toArray n k t hfit hcap hlong) ⟨e,?_⟩⟩)
 rw[hnew]
 exact⟨.ref _,_,I.lnew (t':=s.toks) (r.rep k.toNat) (by rw[J05,Nat.mul_comm];exact hz),rfl,q _ I.fresh⟩
end
section
variable {prog:Program}{w:World}{A:Around}{E:Value->Shared->Prop}{s:Shared}
end
section
variable {X:Cx}
end
section
variable {κ:Type}[DecidableEq κ]
noncomputable def valV (kvs:List (κ×V)) (k:κ):Option V:=(kvs.find? λ kv=>decide (kv.1=k)).map (·.2)
noncomputable def putK (kvs:List (κ×V)) (k:κ) (v:V):List (κ×V) :=
 if (kvs.any λ kv=>decide (kv.1=k))=true then kvs.map (λ kv=>if kv.1=k then(kv.1,v) else kv) else kvs++[(k,v)]
noncomputable def J2z (kvs:List (κ×V)) (k:κ):List (κ×V):=kvs.filter λ kv=>decide (kv.1≠k)
theorem Jnl {p:κ×V}{r:List (κ×V)}{k:κ}(e:p.1=k):valV (p::r) k=some p.2:=by simp[valV,List.find?_cons,e]
theorem Jnk {p:κ×V}{r:List (κ×V)}{k:κ}(e:¬p.1=k):valV (p::r) k=valV r k:=by simp[valV,List.find?_cons,e]
theorem Jqb (kvs:List (κ×V)) (k:κ) (v:V):(putK kvs k v).length<=kvs.length+1:=by
 unfold putK
 split
 ·rw[List.length_map];omega
 ·rw[List.length_append,List.length_cons,List.length_nil];omega
theorem RelO.isSome_eq {o:Option V}{u:Option Value}(r:RelO o u):o.isSome=u.isSome:=by
 cases o with
 | none=>cases u with
  | none=>rfl
  | some _=>exact Zf r
 | some _=>cases u with
  | none=>exact Zf r
  | some _=>rfl
theorem RelO.getD {o:Option V}{u:Option Value}{d:V}{d':Value}(r:RelO o u) (rd:RelV d d'):RelV (o.getD d) (u.getD d'):=by
 cases o with
 | none=>cases u with
  | none=>exact rd
  | some _=>exact Zf r
 | some _=>cases u with
  | none=>exact Zf r
  | some _=>exact r
theorem KV.val {kvs:List (κ×V)}{vs:List (κ×Value)}(r:KV kvs vs) (k:κ):RelO (valV kvs k) (valueAt vs k):=by
 unfold KV at r
 induction r with
 | nil=>exact True.intro
 | @cons p q ps qs h t ih =>
  obtain⟨h1,h2⟩:=h
  by_cases e:p.1=k
  ·have e':q.1=k:=h1.symm.trans e
   have b:valueAt (q::qs) k=some q.2:=by simp[valueAt,List.find?_cons,e']
   rw[Jnl e,b];exact h2
  ·have e':¬q.1=k:=λ z=>e (h1.trans z)
   have b:valueAt (q::qs) k=valueAt qs k:=by simp[valueAt,List.find?_cons,e']
   rw[Jnk e,b];exact ih
theorem KV.any {kvs:List (κ×V)}{vs:List (κ×Value)}(r:KV kvs vs) (k:κ):(kvs.any λ kv=>decide (kv.1=k))=vs.any λ kv=>decide (kv.1=k):=by
 unfold KV at r
 induction r with
 | nil=>rfl
 | cons h t ih=>rw[List.any_cons,List.any_cons,ih,h.1]
theorem KV.repl {kvs:List (κ×V)}{vs:List (κ×Value)}(r:KV kvs vs) (k:κ){y:V}{u:Value}(ry:RelV y u) :
  KV (kvs.map λ kv=>if kv.1=k then(kv.1,y) else kv) (vs.map λ kv=>if kv.1=k then(kv.1,u) else kv):=by
 unfold KV at r ⊢
 induction r with
 | nil=>exact .nil
 | @cons p q ps qs h t ih =>
  rw[List.map_cons,List.map_cons]
  refine .cons ?_ ih
  obtain⟨h1,h2⟩:=h
  by_cases e:p.1=k
  ·rw[if_pos e,if_pos (h1.symm.trans e)];exact⟨h1,ry⟩
  ·rw[if_neg e,if_neg (λ z=>e (h1.trans z))];exact⟨h1,h2⟩
theorem KV.put {kvs:List (κ×V)}{vs:List (κ×Value)}(r:KV kvs vs) (k:κ){y:V}{u:Value}(ry:RelV y u):KV (putK kvs k y) (stored vs k u):=by
 unfold putK stored
 rw[r.any k]
 by_cases e:(vs.any λ kv=>decide (kv.1=k))=true
 ·rw[if_pos e,if_pos e];exact r.repl k ry
 ·rw[if_neg e,if_neg e];exact Paired.snoc r ⟨rfl,ry⟩
theorem KV.drop {kvs:List (κ×V)}{vs:List (κ×Value)}(r:KV kvs vs) (k:κ):KV (J2z kvs k) (without vs k):=by
 unfold KV at r ⊢
 unfold J2z without
 induction r with
 | nil=>exact .nil
 | @cons p q ps qs h t ih =>
  obtain⟨h1,h2⟩:=h
  rw[List.filter_cons,List.filter_cons]
  by_cases e:p.1=k
  ·have a:¬decide (p.1≠k)=true:=by simp[e]
   have b:¬decide (q.1≠k)=true:=by simp[h1.symm.trans e]
   rw[if_neg a,if_neg b];exact ih
  ·have e':¬q.1=k:=λ z=>e (h1.trans z)
   have a:decide (p.1≠k)=true:=by simp[e]
   have b:decide (q.1≠k)=true:=by simp[e']
   rw[if_pos a,if_pos b];exact .cons ⟨h1,h2⟩ ih
theorem KV.keys {kvs:List (κ×V)}{vs:List (κ×Value)}(r:KV kvs vs):kvs.map (·.1)=vs.map (·.1):=by
 unfold KV at r
 induction r with
 | nil=>rfl
 | cons h t ih=>rw[List.map_cons,List.map_cons,ih,h.1]
theorem KV.length {kvs:List (κ×V)}{vs:List (κ×Value)}(r:KV kvs vs):kvs.length=vs.length:=Paired.length r
end
theorem J02 {P:Program}{w:World}{k:Key}{u:Value}(r:RelV (kV k) u):(Jcw P w).is k u=true:=by
 cases k with
 | inl i=>obtain⟨t,e⟩:=(show ∃t,u=Value.int i t from r);subst e;exact Jqf P w i t
 | inr x=>obtain⟨t,e⟩:=(show ∃t,u=Value.str x t from r);subst e;exact Jqg P w x t
noncomputable abbrev KT (H:Hp):List (List Key×V)->List (List Key×Addr×Value)->Prop:=Paired λ p q=>p.1=q.1/\H q.2.1=some (.tup (p.1.map kV))/\RelV p.2 q.2.2
theorem KT.val {H:Hp}{kvs:List (List Key×V)}{xs:List (List Key×Addr×Value)}(r:KT H kvs xs) (k:List Key):RelO (valV kvs k) ((atKey xs k).map (·.2)):=by
 induction r with
 | nil=>exact True.intro
 | @cons p q ps qs h t ih =>
  obtain⟨h1,_,h2⟩:=h
  by_cases e:p.1=k
  ·have e':q.1=k:=h1.symm.trans e
   have b:atKey (q::qs) k=some q.2:=by simp[atKey,List.find?_cons,e']
   rw[Jnl e,b];exact h2
  ·have e':¬q.1=k:=λ z=>e (h1.trans z)
   have b:atKey (q::qs) k=atKey qs k:=by simp[atKey,List.find?_cons,e']
   rw[Jnk e,b];exact ih
theorem KT.keeps {H H':Hp}{kvs:List (List Key×V)}{xs:List (List Key×Addr×Value)}(r:KT H kvs xs) (ht:∀b ys,H b=some (.tup ys)->H' b=some (.tup ys)):KT H' kvs xs :=
 Paired.mapP r λ _ _ z=>⟨z.1,ht _ _ z.2.1,z.2.2⟩
section
variable {P:Program}{w:World}{H:Hp}{h:Heap}{a:Addr}
theorem rd_of {u:HO}(ok:HOk P w H h) (e:Rd H a u):Jas P w H h a u:=e.ok ok
theorem dk_rd {kvs:List (Key×V)}(ok:HOk P w H h) (e:Rd H a (.dK kvs)):kvs.length<=sizeLine/\(a==sysModules)=false/\∃vs,KV kvs vs/\h.DictOf (Jcw P w) a vs :=
 show Jas P w H h a (.dK kvs) from rd_of ok e
theorem J0j {kvs:List (Key×V)}(ok:HOk P w H h) (e:H a=some (.dK kvs)):kvs.length<=sizeLine/\(a==sysModules)=false/\∃vs,KV kvs vs/\h.DictOf (Jcw P w) a vs:=dk_rd ok (.inl e)
end
noncomputable def DGet (H:Hp) (a:Addr) (y:V) (r:Option V):Prop :=
 (∃kvs k,Rd H a (.dK kvs)/\y=kV k/\r=valV kvs k)∨∃kvs k b,Rd H a (.dT kvs)/\y=.ref b/\H b=some (.tup (k.map kV))/\r=valV kvs k
noncomputable def DPut (H:Hp) (a:Addr) (y v:V) (H':Hp):Prop :=
 (∃kvs k,H a=some (.dK kvs)/\y=kV k/\kvs.length<sizeLine/\H'=upd H a (.dK (putK kvs k v))) ∨
 ∃kvs k b,H a=some (.dT kvs)/\y=.ref b/\H b=some (.tup (k.map kV))/\kvs.length<sizeLine/\H'=upd H a (.dT (putK kvs k v))
theorem DGet.k {H:Hp}{a:Addr}{kvs:List (Key×V)}{k:Key}(e:H a=some (.dK kvs)):DGet H a (kV k) (valV kvs k):=.inl ⟨kvs,k,.inl e,rfl,rfl⟩
theorem DGet.t {H:Hp}{a b:Addr}{kvs:List (List Key×V)}{k:List Key}(e:H a=some (.dT kvs)) (eb:H b=some (.tup (k.map kV))):DGet H a (.ref b) (valV kvs k):=.inr ⟨kvs,k,b,.inl e,rfl,eb,rfl⟩
theorem DPut.k {H:Hp}{a:Addr}{kvs:List (Key×V)}{k:Key}{v:V}(e:H a=some (.dK kvs)) (hl:kvs.length<sizeLine):DPut H a (kV k) v (upd H a (.dK (putK kvs k v))):=.inl ⟨kvs,k,e,rfl,hl,rfl⟩
theorem DPut.t {H:Hp}{a b:Addr}{kvs:List (List Key×V)}{k:List Key}{v:V}(e:H a=some (.dT kvs)) (eb:H b=some (.tup (k.map kV))) (hl:kvs.length<sizeLine) :
  DPut H a (.ref b) v (upd H a (.dT (putK kvs k v))):=.inr ⟨kvs,k,b,e,rfl,eb,hl,rfl⟩
section
variable {X:Cx}{pins:List (Addr×Obj)}{σ:St}{H:Hp}{s:Shared}{a:Addr}{y v:V}{u r:Value}{o:Option V}{A:Around}{E:Value->Shared->Prop}
theorem Inv.big (I:Inv X pins σ H s):sysModules<s.heap.objs.size:=by
 have h:mainGlobals<s.heap.objs.size:=(I.mod.glob.keeps I.bk).lt
 exact Nat.lt_trans (by decide) h
theorem J0i {h':Heap}{t':Nat}{ob:HO}(I:Inv X pins σ H s) (mu:Mut (H a)) (hs:Heap.SameBut a s.heap h') (he:∃q,h'.get? a=some q) (new:Jas X.prog X.w (upd H a ob) h' a ob) :
  Inv X pins σ (upd H a ob) { s with heap:=h',toks:=t' } :=
 I.write (x:=a) (e:=a) mu (.inl rfl) (λ b q hb z=>(hs.2 b hb).trans z) he new
theorem J2y {P:Program}{w:World}{H':Hp}{h':Heap}{kvs:List (Key×V)}{vs:List (Key×Value)}(z:kvs.length<=sizeLine) (hd:(a==sysModules)=false) (rel:KV kvs vs) (dd:h'.DictOf (Jcw P w) a vs) :
  Jas P w H' h' a (.dK kvs):=⟨z,hd,vs,rel,dd⟩
end
section
variable {X:Cx}{pins:List (Addr×Obj)}{σ:St}{H:Hp}{s:Shared}{a:Addr}{kvs:List (Key×V)}{k:Key}{u:Value}{A:Around}{E:Value->Shared->Prop}
end
section
variable {X:Cx}{o i e value:Expr}{pos pos' tpos:Pos}{td ty tv:TE}
end
theorem Jxf {P:Program}{w:World}{H:Hp}(h:Heap) (hb:sysModules<h.objs.size):Jas P w H (h.push { cls:=.type "dict",data:=.dict #[] }) h.objs.size (.dK []) :=
 ⟨Nat.zero_le _,beq_eq_false_iff_ne.mpr (Ne.symm (Nat.ne_of_lt hb)),[],.nil,Heap.DictOf.new h⟩
section
variable {X:Cx}{pos:Pos}
end
structure M1 (X:Cx) (o:Expr) (m:Str) (apos:Pos) (e:Expr) (cpos:Pos):Prop where
 base:attributeBase o m X.env (eval o X.env)=eval o X.env
 few:((backTo cpos (starEach [e] X.env)).all (λ x=>!x.1)&&(backToKw cpos (keywordEach [] X.env)).all (λ x=>x.1.isSome)
  && decide (([e]:List Expr).length+([]:List Keyword).length+(if ([]:List Keyword).isEmpty then 0 else 1)<30))=true
 line:(apos.endLine==cpos.line)=true
 trees:backTo cpos (starEach [e] X.env)=[(false,eval e X.env)]
structure M2 (X:Cx) (o:Expr) (m:Str) (apos:Pos) (e f:Expr) (cpos:Pos):Prop where
 base:attributeBase o m X.env (eval o X.env)=eval o X.env
 few:((backTo cpos (starEach [e,f] X.env)).all (λ x=>!x.1)&&(backToKw cpos (keywordEach [] X.env)).all (λ x=>x.1.isSome)
  && decide (([e,f]:List Expr).length+([]:List Keyword).length+(if ([]:List Keyword).isEmpty then 0 else 1)<30))=true
 line:(apos.endLine==cpos.line)=true
 trees:backTo cpos (starEach [e,f] X.env)=[(false,eval e X.env),(false,eval f X.env)]
section
variable {X:Cx}{pins:List (Addr×Obj)}{σ:St}{H:Hp}{s:Shared}{a:Addr}{y d:V}{u r:Value}{o:Option V}{A:Around}{E:Value->Shared->Prop}
end
section
variable {X:Cx}{o e f:Expr}{apos cpos:Pos}{td ty tx:TE}
end
section
variable {X:Cx}{pins:List (Addr×Obj)}{σ:St}{H:Hp}{s:Shared}{a:Addr}{kvs:List (Key×V)}{A:Around}{E:Value->Shared->Prop}
end
end L2
namespace Att
open PySem PySem.W PySem.Calls PyProof.Rows
theorem Jj9 {P:Params}{h:Heap}:∀(ns:List Int) (vs:List Value),WellAll P h vs (ns.map WData.int)->IntsAre vs ns:=by
 intro ns
 induction ns with
 | nil =>
  intro vs w
  rw[List.map_nil] at w
  cases w
  exact .nil
 | cons n ns ih =>
  intro vs w
  rw[List.map_cons] at w
  cases w with
  | cons a b =>
   cases a
   exact .cons _ _ (ih _ b)
theorem Jwg {l:OpenLaw}{n:Nat}(hn:l.most=some n){P:Params}{h:Heap}{args:List WData}{vals:List Value}
  (hpre:l.row.toRowW.claim.pre args=true) (hwl:WellAll P h vals args) :
  ∃a vs ns,vals=[Value.ref a]/\args=[WData.list (ns.map WData.int)]/\h.get? a=some { cls:=.type "list",data:=.seq vs.toArray }/\IntsAre vs ns/\ns.length<=n:=by
 have hsh:WShape.hasAll [] args [.list .int]=true:=(pre_splitW hpre).1
 have hc:l.pre.holds [] { args:=args }=true:=(pre_splitW hpre).2
 obtain⟨d,r,rfl,h1,h2⟩:=hasAllW_cons hsh
 obtain rfl:=hasAllW_nil h2
 obtain⟨xs,rfl,h3⟩:=hasW_list h1
 obtain⟨ns,rfl⟩:=items_int h3
 have hlen:ns.length<=n:=by
  unfold OpenLaw.pre at hc
  have h4:(WTm.not (.lt (.lit (.int (n:Int))) (.len (.arg 0)))).holds [] { args:=[.list (ns.map .int)] }=true:=by
   have h4:=(holds_andW hc).1
   rw[hn] at h4
   exact h4
  have h5:=condW_of h4 (w_not (w_lt w_lit (w_len_list (w_arg rfl))))
  rw[List.length_map] at h5
  refine Nat.le_of_not_lt λ q=>?_
  have q':(n:Int)<((ns.length:Nat):Int):=by omega
  first
   | (rw[decide_eq_true q'] at h5;exact absurd h5 (by decide))
   | (simp at h5;omega)
 cases hwl with
 | cons w1 w2 =>
  cases w2
  cases w1 with
  | list ho hall=>exact⟨_,_,ns,rfl,rfl,ho,Jj9 ns _ hall,hlen⟩
theorem Jv7 (l:OpenLaw) (args:List WData):l.row.toRowW.claim.post args (.bool true) args=true :=
 postW_of (r:=l.row.toRowW) (X:=(true==true))
  (show WShape.has [] (.bool true) .bool=true by first|rfl|decide|simp[WShape.has,WShape.arms,WShape.armsAll])
  (show(WTm.eq .res (.lit (.bool true))).value [] { args:=args,res:=some (.bool true),after:=args }=some (.bool (true==true)) from w_eq_bool (w_res rfl) w_lit) rfl
theorem attach_call {l:OpenLaw}{n:Nat}{q:Program}{loose:List Str}{XP:(Str->Option Value)->Heap->Prop}{YP:World->Heap->Prop}{d:DefRec}
  (hn:l.most=some n) (hdf:d.params.defaults=[])
  (call:∀(w:World) (s₀ s₁:Shared) (mg mb:Str->Option Value) (fa:Addr) (o:Obj) (pm cd doc:Value) (a:Addr) (vs:List Value) (ns:List Int),
   Ground q loose [] XP w s₀ mg mb s₁.heap->YP w s₁.heap ->
   s₁.heap.get? fa=some o->o.data=.func (docDef d.name d.params d.body d.scope pm cd doc)->s₁.heap.CodeRec cd d.name->mg d.name=some (.ref fa) ->
   s₁.heap.get? a=some { cls:=.type "list",data:=.seq vs.toArray }->IntsAre vs ns->ns.length<=n->s₁.gens=#[] ->
   codeAny (model l.prog w) callerA (.call (.ref fa) ⟨[.ref a],[]⟩) (λ r s'=>r=.ok (.ret (.bool true))/\OldK s₁.heap s'.heap/\s'.os=s₁.os/\AllBare s'.gens) s₁) :
  WalkO q loose XP YP l.row.toRowW d [] (λ f vs=>PySem.call f vs):=by
 intro w s₀ s₁ mg mb G Y fa o pm cd doc dV kV ho hd hcd hD hmg hg args vals as hpre hlay hrd hwl hlo
 obtain rfl:dV=.none:=Dflts.none hD hdf
 obtain rfl:kV=.none:=Dflts.noKw hD
 obtain⟨a,vs,ns,rfl,rfl,hobj,hints,hlen⟩:=Jwg hn hpre hwl
 refine enter_call (codeAny_mono (call w s₀ s₁ mg mb fa o pm cd doc a vs ns G Y ho (fd_plain hd) hcd hmg hobj hints hlen hg) λ r s' hq=>?_)
 obtain⟨rfl,h2,h3,h4⟩:=hq
 exact⟨.inl ⟨.bool true,.bool true,[],rfl,λ _=>rfl,.bool true,Jv7 l _,λ _=>⟨List.Pairwise.nil,λ _ hm=>(nomatch hm)⟩⟩,h2,h3,h4⟩
section
variable {prog:Program}{w:World}{A:Around}{E:Value->Shared->Prop}{s:Shared}{K:Frag}
end
end Att
namespace L2
open PySem PySem.Spec PyProof.Rows
theorem Jbv:∀{vs:List Value}{ns:List Int},IntsAre vs ns->Vals (ns.map V.int) vs
 | _,_,.nil=>.nil
 | _,_,.cons n t h=>.cons ⟨t,rfl⟩ (Jbv h)
noncomputable def Jj8 (s:Stmt) (j:Nat):Stmt:=match s with
 | .ClassDef _ _ _ body _ _ _ _ _ _ _=>body.getD j (.Pass ⟨0,0,0,0⟩)
 | _=>.Pass ⟨0,0,0,0⟩
noncomputable def Jae (s:Stmt):Arguments:=match s with
 | .FunctionDef _ a _ _ _ _ _ _ _ _=>a
 | _=>{ posonlyargs:=[],args:=[],vararg:=none,kwonlyargs:=[],kw_defaults:=[],kwarg:=none,defaults:=[] }
noncomputable def Jz (s:Stmt):List Stmt:=match s with
 | .FunctionDef _ _ b _ _ _ _ _ _ _=>b
 | _=>[]
noncomputable def Jh (s:Stmt):Scope:=match s with
 | .FunctionDef _ _ _ _ _ _ sc _ _ _=>sc
 | _=>{ kind:=.function,names:=[],isGenerator:=false,isCoroutine:=false }
noncomputable abbrev CX0:CXT:=λ _ _ _ _ _ _=>False
structure Fun (K:W.Frag) (x qual:Str) (st:Stmt) (f:Addr) (fd:FuncData):Prop where
 ex:∃(oc:Value) (od:Option Addr) (kV doc pm:Value) (an:Option Addr) (cdv ct:Value) (osl:Array (Option Value)),
  fd=W.fnOf x qual (Jae st) (Jz st) (Jh st) .none kV doc pm an cdv ct/\K.lookup f=some ⟨oc,od,.func fd,osl⟩/\W.codeIn K cdv qual=true
 kp:W.keepIn K (.ref f)=true
section
variable {P:Program}{w:World}{K:W.Frag}{mg:Str->Option Value}{base:Heap}
theorem Fun.ok {x qual:Str}{st:Stmt}{f:Addr}{fd:FuncData}{N ps:List Str}{k:Nat}{sp:Sp}(F:Fun K x qual st f fd) (S:FnScope N ps (Jh st)) (len:∀vs H Q E,sp vs H Q E->vs.length=ps.length)
  (hbody:∀(cdv:Value) (A:Around) (outer:List Env) (s:Shared) (H:Hp) (vs:List V) (Q:VK) (E:XK),Room k (A.deeper (envOfC qual (Jh st) s.heap.objs.size f cdv))->sp vs H Q E ->
   ∃t,PSs (cxOf CX0 P w K mg base N qual (Jh st) f cdv A outer s H E).nox (Jz st) t/\t { nx:=λ _ H'=>Q .non H',rt:=Q } (start N vs) H):FnOk P w K mg base CX0 (k+1) f fd ps sp:=by
 obtain⟨oc,od,kV,doc,pm,an,cdv,ct,osl,rfl,lk,hcd⟩:=F.ex
 refine J23 lk hcd S len λ A outer s H vs Q E hr hsp=>?_
 obtain⟨t,h,q⟩:=hbody cdv A outer s H vs Q E hr hsp
 exact⟨t,h.nox,q⟩
theorem Fun.binds {x qual:Str}{st:Stmt}{f:Addr}{fd:FuncData}{ps:List Str}(F:Fun K x qual st f fd)
  (h:∀(kV doc pm:Value) (an:Option Addr) (cdv ct:Value) (us:List Value),us.length=ps.length->bindArgs (W.fnOf x qual (Jae st) (Jz st) (Jh st) .none kV doc pm an cdv ct) ⟨us,[]⟩=pure (ps.zip us)):Je3 K fd ps []:=by
 obtain⟨oc,od,kV,doc,pm,an,cdv,ct,osl,rfl,lk,hcd⟩:=F.ex
 exact .all (h kV doc pm an cdv ct)
end
section
variable {X:Cx}
end
noncomputable def Same (H H':Hp):Prop:=∀b o,H b=some o->H' b=some o
theorem Same.refl (H:Hp):Same H H:=λ _ _ h=>h
theorem Same.trans {H H1 H2:Hp}(a:Same H H1) (b:Same H1 H2):Same H H2:=λ c o h=>b c o (a c o h)
theorem Same.free {H H':Hp}(e:Same H H'){l:Addr}(h:H' l=Option.none):H l=Option.none:=by
 cases q:H l with
 | none=>rfl
 | some o =>
  rw[e l o q] at h
  cases h
theorem Same.seq {K:W.Frag}{H H':Hp}{a:Addr}{xs:List V}(e:Same H H') (h:SqL K H a xs):SqL K H' a xs:=by
 rcases h with(h|⟨o,h⟩)|h
 ·exact .inl (.inl (e _ _ h))
 ·exact .inl (.inr ⟨o,e _ _ h⟩)
 ·exact .inr h
end L2
set_option maxHeartbeats 4000000
namespace L3
open PySem PySem.Spec PyProof.Rows L2
inductive IV where
 | non|bl (b:Bool)|int (i:Int)|str (x:Str)|tup (xs:List IV)|rol (xs:List IV)|ref (i:Nat)
inductive IO where
 | lst (xs:List IV)
 | ins (c:Str) (fs:List (Str×IV))
 | dct (kvs:List (Key×IV))
 | exc (c:Str) (fs:List (Str×IV))
 | tab (q:Str)
 | hld (c:Str) (fs:List (Str×IV))
noncomputable abbrev IH:=List IO
noncomputable abbrev ISt:=List (Option IV)
inductive Res (α:Type) where
 | ok (a:α) (h:IH)|exc (n:Nat) (h:IH)|stuck
noncomputable def Res.bind {α β:Type}:Res α->(α->IH->Res β)->Res β
 | .ok a h,f=>f a h
 | .exc n h,_=>.exc n h
 | .stuck,_=>.stuck
inductive SRes where
 | next (σ:ISt) (h:IH)|ret (v:IV) (h:IH)|brk (σ:ISt) (h:IH)|cont (σ:ISt) (h:IH)|exc (n:Nat) (σ:ISt) (h:IH)|stuck
noncomputable def SqR (K:W.Frag) (H:Hp) (a:Addr) (xs:List V):Prop :=
 (∃o,H a=some (.frz o (.lst xs))) ∨
  ∃(o:Obj) (its:Array Value) (n:Nat),K.lookup a=some o/\o.cls=.type "list"/\o.dict=none/\o.data=.seq its n/\its.size<=sizeLine/\Vals xs its.toList
theorem SqR.sq {K:W.Frag}{H:Hp}{a:Addr}{xs:List V}(h:SqR K H a xs):SqL K H a xs:=by
 rcases h with⟨o,h⟩|h
 ·exact .inl (.inr ⟨o,h⟩)
 ·exact .inr h
mutual
noncomputable def RV (K:W.Frag) (ι:List Addr) (H:Hp):IV->V->Prop
 | .non,v=>v=.non
 | .bl b,v=>v=.bl b
 | .int i,v=>v=.int i
 | .str x,v=>v=.str x
 | .tup xs,v=>∃a vs,v=.ref a/\SqT K H a vs/\RVs K ι H xs vs
 | .rol xs,v=>∃a vs,v=.ref a/\SqR K H a vs/\RVs K ι H xs vs
 | .ref i,v=>∃a,v=.ref a/\ι[i]?=some a
noncomputable def RVs (K:W.Frag) (ι:List Addr) (H:Hp):List IV->List V->Prop
 | [],vs=>vs=[]
 | x::xs,vs=>∃v r,vs=v::r/\RV K ι H x v/\RVs K ι H xs r
end
structure Ext (H H':Hp):Prop where
 tups:∀b xs,H b=some (.tup xs)->H' b=some (.tup xs)
 frzs:∀b o u,H b=some (.frz o u)->H' b=some (.frz o u)
structure Nxt (ι:List Addr) (H:Hp) (ι':List Addr) (H':Hp):Prop where
 pre:∃m,ι'=ι++m
 ext:Ext H H'
theorem Nxt.refl {ι:List Addr}{H:Hp}:Nxt ι H ι H:=⟨⟨[],by simp⟩,⟨λ _ _ h=>h,λ _ _ _ h=>h⟩⟩
theorem Nxt.trans {ι ι1 ι2:List Addr}{H H1 H2:Hp}(a:Nxt ι H ι1 H1) (b:Nxt ι1 H1 ι2 H2):Nxt ι H ι2 H2:=by
 obtain⟨⟨m,e⟩,x⟩:=a
 obtain⟨⟨m',e'⟩,y⟩:=b
 exact⟨⟨m++m',by rw[e',e,List.append_assoc]⟩,⟨λ b xs h=>y.tups b xs (x.tups b xs h),λ b o u h=>y.frzs b o u (x.frzs b o u h)⟩⟩
theorem Nxt.at {ι ι':List Addr}{H H':Hp}(n:Nxt ι H ι' H'){i:Nat}{a:Addr}(h:ι[i]?=some a):ι'[i]?=some a:=by
 obtain⟨⟨m,e⟩,_⟩:=n
 subst e
 rw[List.getElem?_append_left (List.getElem?_eq_some_iff.mp h).1]
 exact h
theorem Ext.rd {H H':Hp}(x:Ext H H'){a:Addr}{xs:List V}(h:Rd H a (.tup xs)):Rd H' a (.tup xs):=by
 rcases h with h|⟨o,h⟩
 ·exact .inl (x.tups _ _ h)
 ·exact .inr ⟨o,x.frzs _ _ _ h⟩
theorem Ext.sqT {K:W.Frag}{H H':Hp}(x:Ext H H'){a:Addr}{xs:List V}(h:SqT K H a xs):SqT K H' a xs:=by
 rcases h with h|h
 ·exact .inl (x.rd h)
 ·exact .inr h
theorem Ext.sqR {K:W.Frag}{H H':Hp}(x:Ext H H'){a:Addr}{xs:List V}(h:SqR K H a xs):SqR K H' a xs:=by
 rcases h with⟨o,h⟩|h
 ·exact .inl ⟨o,x.frzs _ _ _ h⟩
 ·exact .inr h
mutual
theorem RV.mono {K:W.Frag}{ι ι':List Addr}{H H':Hp}(n:Nxt ι H ι' H'):∀(x:IV) (v:V),RV K ι H x v->RV K ι' H' x v
 | .non,_,h=>h
 | .bl _,_,h=>h
 | .int _,_,h=>h
 | .str _,_,h=>h
 | .tup xs,_,h=>by
  obtain⟨a,vs,e,q,r⟩:=h
  exact⟨a,vs,e,n.ext.sqT q,RVs.mono n xs vs r⟩
 | .rol xs,_,h=>by
  obtain⟨a,vs,e,q,r⟩:=h
  exact⟨a,vs,e,n.ext.sqR q,RVs.mono n xs vs r⟩
 | .ref i,_,h=>by
  obtain⟨a,e,q⟩:=h
  exact⟨a,e,n.at q⟩
theorem RVs.mono {K:W.Frag}{ι ι':List Addr}{H H':Hp}(n:Nxt ι H ι' H'):∀(xs:List IV) (vs:List V),RVs K ι H xs vs->RVs K ι' H' xs vs
 | [],_,h=>h
 | x::xs,_,h=>by
  obtain⟨v,r,e,q,t⟩:=h
  exact⟨v,r,e,RV.mono n x v q,RVs.mono n xs r t⟩
end
theorem RVs.length {K:W.Frag}{ι:List Addr}{H:Hp}:∀{xs:List IV}{vs:List V},RVs K ι H xs vs->vs.length=xs.length
 | [],_,h=>by
  have e:_=[]:=h
  subst e
  rfl
 | x::xs,_,h=>by
  obtain⟨v,r,e,_,t⟩:=h
  subst e
  simp[RVs.length t]
theorem RVs.get {K:W.Frag}{ι:List Addr}{H:Hp}:∀{xs:List IV}{vs:List V}{i:Nat}{x:IV},RVs K ι H xs vs->xs[i]?=some x->∃v,vs[i]?=some v/\RV K ι H x v
 | [],_,_,_,_,e=>by simp at e
 | x::xs,_,0,y,h,e=>by
  obtain⟨v,r,e1,q,t⟩:=h
  subst e1
  simp at e
  subst e
  exact⟨v,rfl,q⟩
 | x::xs,_,i+1,y,h,e=>by
  obtain⟨v,r,e1,q,t⟩:=h
  subst e1
  obtain⟨u,h1,h2⟩:=RVs.get (i:=i) (x:=y) t (by simpa using e)
  exact⟨u,by simpa using h1,h2⟩
theorem RVs.get' {K:W.Frag}{ι:List Addr}{H:Hp}{xs:List IV}{vs:List V}{i:Nat}{v:V}(h:RVs K ι H xs vs) (e:vs[i]?=some v):∃x,xs[i]?=some x/\RV K ι H x v:=by
 have hl:=h.length
 have hi:i<vs.length:=(List.getElem?_eq_some_iff.mp e).1
 have hx:xs[i]?=some xs[i]:=List.getElem?_eq_getElem (by omega)
 obtain⟨u,h1,h2⟩:=h.get hx
 rw[e] at h1
 cases h1
 exact⟨_,hx,h2⟩
theorem RVs.append {K:W.Frag}{ι:List Addr}{H:Hp}:∀{xs ys:List IV}{vs us:List V},RVs K ι H xs vs->RVs K ι H ys us->RVs K ι H (xs++ys) (vs++us)
 | [],_,_,_,h,g=>by
  have e:_=[]:=h
  subst e
  exact g
 | x::xs,_,_,_,h,g=>by
  obtain⟨v,r,e,q,t⟩:=h
  subst e
  exact⟨v,_,rfl,q,RVs.append t g⟩
theorem RVs.take {K:W.Frag}{ι:List Addr}{H:Hp}:∀{xs:List IV}{vs:List V}(n:Nat),RVs K ι H xs vs->RVs K ι H (xs.take n) (vs.take n)
 | _,_,0,_=>by simp;exact rfl
 | [],_,n+1,h=>by
  have e:_=[]:=h
  subst e
  exact rfl
 | x::xs,_,n+1,h=>by
  obtain⟨v,r,e,q,t⟩:=h
  subst e
  exact⟨v,r.take n,rfl,q,RVs.take n t⟩
theorem RVs.drop {K:W.Frag}{ι:List Addr}{H:Hp}:∀{xs:List IV}{vs:List V}(n:Nat),RVs K ι H xs vs->RVs K ι H (xs.drop n) (vs.drop n)
 | _,_,0,h=>h
 | [],_,n+1,h=>by
  have e:_=[]:=h
  subst e
  exact rfl
 | x::xs,_,n+1,h=>by
  obtain⟨v,r,e,q,t⟩:=h
  subst e
  exact RVs.drop n t
theorem RVs.set {K:W.Frag}{ι:List Addr}{H:Hp}{x:IV}{v:V}(q:RV K ι H x v):∀{xs:List IV}{vs:List V}(i:Nat),RVs K ι H xs vs->RVs K ι H (xs.set i x) (vs.set i v)
 | [],_,_,h=>by
  have e:_=[]:=h
  subst e
  exact rfl
 | y::xs,_,0,h=>by
  obtain⟨u,r,e,_,t⟩:=h
  subst e
  exact⟨v,r,rfl,q,t⟩
 | y::xs,_,i+1,h=>by
  obtain⟨u,r,e,p,t⟩:=h
  subst e
  exact⟨u,r.set i v,rfl,p,RVs.set q i t⟩
theorem RVs.one {K:W.Frag}{ι:List Addr}{H:Hp}{x:IV}{v:V}(q:RV K ι H x v):RVs K ι H [x] [v]:=⟨v,[],rfl,q,rfl⟩
theorem RVs.eraseIdx {K:W.Frag}{ι:List Addr}{H:Hp}:∀{xs:List IV}{vs:List V}(i:Nat),RVs K ι H xs vs->RVs K ι H (xs.eraseIdx i) (vs.eraseIdx i)
 | [],_,_,h=>by
  have e:_=[]:=h
  subst e
  exact rfl
 | x::xs,_,0,h=>by
  obtain⟨v,r,e,q,t⟩:=h
  subst e
  exact t
 | x::xs,_,i+1,h=>by
  obtain⟨v,r,e,q,t⟩:=h
  subst e
  exact⟨v,r.eraseIdx i,rfl,q,RVs.eraseIdx i t⟩
theorem RVs.ints {K:W.Frag}{ι:List Addr}{H:Hp}:∀(ns:List Int),RVs K ι H (ns.map IV.int) (ns.map V.int)
 | []=>rfl
 | _::ns=>⟨_,_,rfl,rfl,RVs.ints ns⟩
noncomputable def RPs {κ:Type}(K:W.Frag) (ι:List Addr) (H:Hp):List (κ×IV)->List (κ×V)->Prop
 | [],vs=>vs=[]
 | x::xs,vs=>∃v r,vs=(x.1,v)::r/\RV K ι H x.2 v/\RPs K ι H xs r
theorem RPs.mono {κ:Type}{K:W.Frag}{ι ι':List Addr}{H H':Hp}(n:Nxt ι H ι' H'):∀(xs:List (κ×IV)) (vs:List (κ×V)),RPs K ι H xs vs->RPs K ι' H' xs vs
 | [],_,h=>h
 | x::xs,_,h=>by
  obtain⟨v,r,e,q,t⟩:=h
  exact⟨v,r,e,RV.mono n _ v q,RPs.mono n xs r t⟩
theorem RPs.length {κ:Type}{K:W.Frag}{ι:List Addr}{H:Hp}:∀{xs:List (κ×IV)}{vs:List (κ×V)},RPs K ι H xs vs->vs.length=xs.length
 | [],_,h=>by
  have e:_=[]:=h
  subst e
  rfl
 | x::xs,_,h=>by
  obtain⟨v,r,e,_,t⟩:=h
  subst e
  simp[RPs.length t]
theorem RPs.lookup {κ:Type}[BEq κ] {K:W.Frag}{ι:List Addr}{H:Hp}{f:κ}:∀{xs:List (κ×IV)}{vs:List (κ×V)},RPs K ι H xs vs ->
  (∀x,xs.lookup f=some x->∃v,vs.lookup f=some v/\RV K ι H x v)/\(xs.lookup f=none->vs.lookup f=none)
 | [],_,h=>by
  have e:_=[]:=h
  subst e
  exact⟨λ x e=>by simp at e,λ _=>rfl⟩
 | (k,x)::xs,_,h=>by
  obtain⟨v,r,e,q,t⟩:=h
  subst e
  have ih:=RPs.lookup (f:=f) t
  simp only[List.lookup_cons]
  cases hb:f==k with
  | true=>exact⟨λ y e=>by cases e;exact⟨v,rfl,q⟩,λ e=>by cases e⟩
  | false=>exact ih
noncomputable def Jbg (H:Hp) (q:Str) (cv:Value):Prop:=∃c oc vs t,cv=.ref c/\H c=some (.frz oc (.own 0))/\oc.data=.fields vs/\vs[1]?=some (.str (q++".<locals>."++"<lambda>") t)
noncomputable def TabO (K:W.Frag) (H:Hp) (q:Str) (a:Addr):Prop:=(∀cdv,W.codeIn K cdv q=true->∃c,cdv=.ref c/\W.codeHdIn K c a=true) /\
 ∃ps,H a=some (.tbl ps)/\TriplesOk ps.toList/\∀pos cv,codeAmong pos ps.toList=some cv->Jbg H q cv
theorem TabO.mono {K:W.Frag}{H H':Hp}{q:Str}{a:Addr}(fz:∀b o u,H b=some (.frz o u)->H' b=some (.frz o u)) (k:∀u,H a=some u->H' a=some u) (h:TabO K H q a):TabO K H' q a:=by
 obtain⟨h1,ps,e,ht,hc⟩:=h
 refine⟨h1,ps,k _ e,ht,λ pos cv q=>?_⟩
 obtain⟨c,oc,vs,t,e1,e2,r⟩:=hc pos cv q
 exact⟨c,oc,vs,t,e1,fz _ _ _ e2,r⟩
noncomputable def ExF (a C:Addr) (tv:Value) (d:Option Addr):HO:=.ext λ h=>∃oe vs,h.get? a=some oe/\oe.cls=.ref C/\oe.data=.fields vs/\vs[1]?=some tv/\vs[2]?=some .none/\oe.dict=d
noncomputable def XdOk (H:Hp) (d:Option Addr) (fs:List (Str×IV)):Prop:=(fs=[]/\d=none)∨∃f i dx od t,fs=[(f,.int i)]/\d=some dx/\H dx=some (.frz od (.own 0))/\W.lookIn f od=some (some (.int i t))
theorem XdOk.mono {H H':Hp}{d:Option Addr}{fs:List (Str×IV)}(fz:∀b o u,H b=some (.frz o u)->H' b=some (.frz o u)) (h:XdOk H d fs):XdOk H' d fs:=by
 rcases h with h|⟨f,i,dx,od,t,e,q,r,z⟩
 ·exact .inl h
 ·exact .inr ⟨f,i,dx,od,t,e,q,fz _ _ _ r,z⟩
noncomputable def TvOk (H:Hp) (tv:Value):Prop:=tv=.none∨∃T oT ts,tv=.ref T/\H T=some (.frz oT (.own 0))/\oT.data=.fields ts/\ts[3]?=some .none
theorem TvOk.mono {H H':Hp}{tv:Value}(fz:∀b o u,H b=some (.frz o u)->H' b=some (.frz o u)) (h:TvOk H tv):TvOk H' tv:=by
 rcases h with h|⟨T,oT,ts,e,q,r⟩
 ·exact .inl h
 ·exact .inr ⟨T,oT,ts,e,fz _ _ _ q,r⟩
noncomputable def RO (ce:Str->Option Addr) (K:W.Frag) (ι:List Addr) (H:Hp) (a:Addr):IO->Prop
 | .lst xs=>∃vs,H a=some (.lst vs)/\RVs K ι H xs vs
 | .ins c fs=>∃C dx vs,ce c=some C/\H a=some (.ins C dx vs)/\RPs K ι H fs vs
 | .dct kvs=>∃vs,H a=some (.dK vs)/\RPs K ι H kvs vs
 | .exc c fs=>∃C tv d,XdOk H d fs/\W.nsIn K mainGlobals c=some (some (.ref C))/\H a=some (ExF a C tv d)/\TvOk H tv
 | .tab q=>TabO K H q a
 | .hld c fs=>∃C oe u vs,XdOk H oe.dict fs/\W.nsIn K mainGlobals c=some (some (.ref C))/\H a=some (.frz oe u)/\oe.cls=.ref C/\oe.data=.fields vs/\vs[2]?=some .none
theorem RO.some {ce:Str->Option Addr}{K:W.Frag}{ι:List Addr}{H:Hp}{a:Addr}{o:IO}(h:RO ce K ι H a o):∃u,H a=some u:=by
 cases o with
 | lst xs=>obtain⟨vs,e,_⟩:=h;exact⟨_,e⟩
 | ins c fs=>obtain⟨_,_,vs,_,e,_⟩:=h;exact⟨_,e⟩
 | dct kvs=>obtain⟨vs,e,_⟩:=h;exact⟨_,e⟩
 | exc c fs=>obtain⟨C,tv,d,_,_,e,_⟩:=h;exact⟨_,e⟩
 | tab q=>obtain⟨_,ps,e,_⟩:=h;exact⟨_,e⟩
 | hld c fs=>obtain⟨_,_,_,_,_,_,e,_⟩:=h;exact⟨_,e⟩
theorem RO.mono {ce:Str->Option Addr}{K:W.Frag}{ι ι':List Addr}{H H':Hp}{a:Addr}{o:IO}(n:Nxt ι H ι' H') (k:∀u,H a=Option.some u->H' a=Option.some u) (h:RO ce K ι H a o):RO ce K ι' H' a o:=by
 cases o with
 | lst xs=>obtain⟨vs,e,r⟩:=h;exact⟨vs,k _ e,RVs.mono n _ _ r⟩
 | ins c fs=>obtain⟨C,dx,vs,c1,e,r⟩:=h;exact⟨C,dx,vs,c1,k _ e,RPs.mono n _ _ r⟩
 | dct kvs=>obtain⟨vs,e,r⟩:=h;exact⟨vs,k _ e,RPs.mono n _ _ r⟩
 | exc c fs=>obtain⟨C,tv,d,e0,c1,e,r⟩:=h;exact⟨C,tv,d,e0.mono n.ext.frzs,c1,k _ e,r.mono n.ext.frzs⟩
 | tab q=>exact TabO.mono n.ext.frzs k h
 | hld c fs=>obtain⟨C,oe,u,vs,e0,c1,e,r⟩:=h;exact⟨C,oe,u,vs,e0.mono n.ext.frzs,c1,k _ e,r⟩
structure Rel (ce:Str->Option Addr) (K:W.Frag) (ι:List Addr) (h:IH) (H:Hp):Prop where
 len:ι.length=h.length
 nd:ι.Nodup
 at_:∀(i:Nat) (o:IO),h[i]?=some o->∃a,ι[i]?=some a/\RO ce K ι H a o
section
variable {ce:Str->Option Addr}{K:W.Frag}{ι:List Addr}{h:IH}{H:Hp}
theorem Rel.some (R:Rel ce K ι h H){i:Nat}{a:Addr}(e:ι[i]?=some a):∃u,H a=Option.some u:=by
 have hi:i<h.length:=by rw[<- R.len];exact(List.getElem?_eq_some_iff.mp e).1
 obtain⟨b,e',r⟩:=R.at_ i _ (List.getElem?_eq_getElem hi)
 rw[e] at e'
 cases e'
 exact r.some
theorem Rel.notin (R:Rel ce K ι h H){l:Addr}(e:H l=none):l∉ι:=λ hl=>by
 obtain⟨i,hi,q⟩:=List.mem_iff_getElem.mp hl
 obtain⟨u,hu⟩:=R.some (i:=i) (a:=l) (by rw[List.getElem?_eq_getElem hi,q])
 rw[e] at hu
 cases hu
theorem Ext.upd_new {l:Addr}{o:HO}(e:H l=none):Ext H (upd H l o) :=
 ⟨λ b xs q=>by rw[Jg (Jv q e)];exact q,λ b o u q=>by rw[Jg (Jv q e)];exact q⟩
theorem Rel.grow {l:Addr}{o:HO}(R:Rel ce K ι h H) (e:H l=none):Rel ce K ι h (upd H l o)/\Nxt ι H ι (upd H l o):=by
 have n:Nxt ι H ι (upd H l o):=⟨⟨[],by simp⟩,Ext.upd_new e⟩
 refine⟨⟨R.len,R.nd,λ i u q=>?_⟩,n⟩
 obtain⟨a,e1,r⟩:=R.at_ i u q
 exact⟨a,e1,r.mono n λ w hw=>by rw[Jg (Jv hw e)];exact hw⟩
theorem Rel.alloc {l:Addr}{o:HO}{io:IO}(R:Rel ce K ι h H) (e:H l=none) (r:RO ce K (ι++[l]) (upd H l o) l io):Rel ce K (ι++[l]) (h++[io]) (upd H l o)/\Nxt ι H (ι++[l]) (upd H l o):=by
 have n:Nxt ι H (ι++[l]) (upd H l o):=⟨⟨[l],rfl⟩,Ext.upd_new e⟩
 refine⟨⟨by simp[R.len],?_,λ i u q=>?_⟩,n⟩
 ·rw[List.nodup_append]
  refine⟨R.nd,by simp,λ a ha b hb=>?_⟩
  have:b=l:=by simpa using hb
  subst this
  rintro rfl
  exact R.notin e ha
 ·by_cases hi:i<h.length
  ·rw[List.getElem?_append_left hi] at q
   obtain⟨a,e1,r1⟩:=R.at_ i u q
   exact⟨a,n.at e1,r1.mono n λ w hw=>by rw[Jg (Jv hw e)];exact hw⟩
  ·have hi2:i=h.length:=by
    have:=(List.getElem?_eq_some_iff.mp q).1
    simp at this
    omega
   subst hi2
   rw[List.getElem?_append_right (Nat.le_refl _)] at q
   simp at q
   subst q
   refine⟨l,?_,r⟩
   rw[<- R.len,List.getElem?_append_right (Nat.le_refl _)]
   simp
theorem Rel.inj (R:Rel ce K ι h H){i j:Nat}{a:Addr}(e1:ι[i]?=Option.some a) (e2:ι[j]?=Option.some a):i=j:=by
 obtain⟨h1,q1⟩:=List.getElem?_eq_some_iff.mp e1
 obtain⟨h2,q2⟩:=List.getElem?_eq_some_iff.mp e2
 exact(List.getElem_inj R.nd).mp (q1.trans q2.symm)
theorem Ext.upd_mut {l:Addr}{o u:HO}(e:H l=Option.some u) (m:Mut (H l)):Ext H (upd H l o):=by
 refine⟨λ b xs q=>?_,λ b ob w q=>?_⟩
 ·by_cases hb:b=l
  ·subst hb
   rw[q] at m
   exact Zf m
  ·rw[Jg hb];exact q
 ·by_cases hb:b=l
  ·subst hb
   rw[q] at m
   exact Zf m
  ·rw[Jg hb];exact q
theorem Rel.write {i:Nat}{a:Addr}{o u:HO}{io:IO}(R:Rel ce K ι h H) (e:ι[i]?=Option.some a) (ha:H a=Option.some u) (m:Mut (H a)) (r:RO ce K ι (upd H a o) a io):Rel ce K ι (h.set i io) (upd H a o)/\Nxt ι H ι (upd H a o):=by
 have n:Nxt ι H ι (upd H a o):=⟨⟨[],by simp⟩,Ext.upd_mut ha m⟩
 refine⟨⟨by simp[R.len],R.nd,λ j w q=>?_⟩,n⟩
 by_cases hj:j=i
 ·subst hj
  have hl:j<h.length:=by
   have:=(List.getElem?_eq_some_iff.mp q).1
   simpa using this
  rw[List.getElem?_set_self hl] at q
  cases q
  exact⟨a,e,r⟩
 ·rw[List.getElem?_set_ne (Ne.symm hj)] at q
  obtain⟨b,e1,r1⟩:=R.at_ j w q
  refine⟨b,e1,r1.mono n λ v hv=>?_⟩
  have:b≠a:=by
   rintro rfl
   exact hj (R.inj e1 e)
  rw[Jg this]
  exact hv
end
structure RSt (K:W.Frag) (ι:List Addr) (H:Hp) (σi:ISt) (σ:L2.St):Prop where
 len:σi.length=σ.length
 at_:∀(j:Nat) (v:IV),σi[j]?=some (some v)->∃u,σ[j]?=some (some u)/\RV K ι H v u
theorem RSt.mono {K:W.Frag}{ι ι':List Addr}{H H':Hp}{σi:ISt}{σ:L2.St}(n:Nxt ι H ι' H') (r:RSt K ι H σi σ):RSt K ι' H' σi σ :=
 ⟨r.len,λ j v e=>let ⟨u,e1,q⟩:=r.at_ j v e;⟨u,e1,RV.mono n _ _ q⟩⟩
theorem RSt.set {K:W.Frag}{ι:List Addr}{H:Hp}{σi:ISt}{σ:L2.St}(r:RSt K ι H σi σ) (i:Nat){x:IV}{v:V}(q:RV K ι H x v):RSt K ι H (σi.set i (some x)) (σ.set i (some v)):=by
 refine⟨by simp[r.len],λ j w e=>?_⟩
 by_cases hj:j=i
 ·subst hj
  have hl:j<σi.length:=by
   have:=(List.getElem?_eq_some_iff.mp e).1
   simpa using this
  rw[List.getElem?_set_self hl] at e
  cases e
  exact⟨v,by rw[List.getElem?_set_self (by rw[<- r.len];exact hl)],q⟩
 ·rw[List.getElem?_set_ne (Ne.symm hj)] at e
  obtain⟨u,e1,q1⟩:=r.at_ j w e
  exact⟨u,by rw[List.getElem?_set_ne (Ne.symm hj)];exact e1,q1⟩
structure Now (ce:Str->Option Addr) (X:Cx) (pins:List (Addr×Obj)) (ι:List Addr) (σi:ISt) (h:IH) (σ:L2.St) (H:Hp) (s:Shared):Prop where
 inv:Inv X pins σ H s
 rel:Rel ce X.K ι h H
 st:RSt X.K ι H σi σ
noncomputable def RU (K:W.Frag) (ι:List Addr) (H:Hp) (v:IV) (u:Value):Prop:=∃x,RelV x u/\RV K ι H v x
theorem RU.mono {K:W.Frag}{ι ι':List Addr}{H H':Hp}{v:IV}{u:Value}(n:Nxt ι H ι' H') (r:RU K ι H v u):RU K ι' H' v u :=
 let ⟨x,a,b⟩:=r;⟨x,a,RV.mono n _ _ b⟩
noncomputable def RUs (K:W.Frag) (ι:List Addr) (H:Hp) (vs:List IV) (us:List Value):Prop:=∃xs,Vals xs us/\RVs K ι H vs xs
theorem RUs.mono {K:W.Frag}{ι ι':List Addr}{H H':Hp}{v:List IV}{u:List Value}(n:Nxt ι H ι' H') (r:RUs K ι H v u):RUs K ι' H' v u :=
 let ⟨x,a,b⟩:=r;⟨x,a,RVs.mono n _ _ b⟩
noncomputable abbrev REL (α β:Type):=W.Frag->List Addr->Hp->α->β->Prop
noncomputable def RB:REL Bool Bool:=λ _ _ _ b c=>c=b
section
variable {α β γ δ:Type}
noncomputable def Kont (ce:Str->Option Addr) (X:Cx) (R:REL α β) (pins:List (Addr×Obj)) (ι:List Addr) (σi:ISt) (σ:L2.St) (H:Hp) (r:Res α) (Q:β->Shared->Prop) (E:Value->Shared->Prop):Prop :=
 match r with
 | .ok v h'=>∀u s' H' ι',Now ce X pins ι' σi h' σ H' s'->Nxt ι H ι' H'->R X.K ι' H' v u->Q u s'
 | .exc n h'=>∀pl a s' H' ι',Now ce X (pins++pl) ι' σi h' σ H' s'->Nxt ι H ι' H'->ι'[n]?=some a->E (.ref a) s'
 | .stuck=>False
variable {ce:Str->Option Addr}{X:Cx}{R:REL α β}{R':REL γ δ}{pins:List (Addr×Obj)}{ι ι':List Addr}{σi:ISt}{σ:L2.St}{H H':Hp}
theorem Kont.mono {r:Res α}{Q:β->Shared->Prop}{E:Value->Shared->Prop}(k:Kont ce X R pins ι σi σ H r Q E) (n:Nxt ι H ι' H'):Kont ce X R pins ι' σi σ H' r Q E:=by
 cases r with
 | ok v h'=>exact λ u s' H2 ι2 N n2 q=>k u s' H2 ι2 N (n.trans n2) q
 | exc m h'=>exact λ pl a s' H2 ι2 N n2 q=>k pl a s' H2 ι2 N (n.trans n2) q
 | stuck=>exact k
noncomputable def PX (ce:Str->Option Addr) (X:Cx) (R:REL α β) (t:Sem β) (m:ISt->IH->Res α):Prop :=
 ∀(pins:List (Addr×Obj)) (s:Shared) (σ:L2.St) (H:Hp) (ι:List Addr) (σi:ISt) (h:IH) (Q:β->Shared->Prop) (E:Value->Shared->Prop),Now ce X pins ι σi h σ H s->Kont ce X R pins ι σi σ H (m σi h) Q E ->
  wpAny (model X.prog X.w) X.A t Q E s
theorem PX.run {t:Sem β}{m:ISt->IH->Res α}(p:PX ce X R t m){s:Shared}{h:IH}(N:Now ce X pins ι σi h σ H s){g:α->IH->Res γ}{Q:δ->Shared->Prop}{E:Value->Shared->Prop}{Q1:β->Shared->Prop}
  (K:Kont ce X R' pins ι σi σ H ((m σi h).bind g) Q E)
  (step:∀x h1 u s1 H1 ι1,Now ce X pins ι1 σi h1 σ H1 s1->Nxt ι H ι1 H1->R X.K ι1 H1 x u->Kont ce X R' pins ι1 σi σ H1 (g x h1) Q E->Q1 u s1):wpAny (model X.prog X.w) X.A t Q1 E s:=by
 refine p pins s σ H ι σi h Q1 E N ?_
 cases e:m σi h with
 | ok v h' =>
  rw[e] at K
  exact λ u s' H' ι' N' n' r=>step v h' u s' H' ι' N' n' r (Kont.mono (r:=g v h') K n')
 | exc n h' =>
  rw[e] at K
  exact K
 | stuck =>
  rw[e] at K
  exact K
end
noncomputable abbrev PEi (ce:Str->Option Addr) (X:Cx) (e:Expr) (m:ISt->IH->Res IV):Prop:=PX ce X RU (eval e X.env) m
noncomputable abbrev PTi (ce:Str->Option Addr) (X:Cx) (e:Expr) (m:ISt->IH->Res Bool):Prop:=PX ce X RB (isTrue e X.env (eval e X.env)) m
noncomputable def PWi (ce:Str->Option Addr) (X:Cx) (e:Expr) (m:ISt->IH->Res Bool):Prop:=∀whole:Sem Value,PX ce X RB (isTrue e X.env whole) m
noncomputable def PAi (ce:Str->Option Addr) (X:Cx) (es:List Expr) (m:ISt->IH->Res (List IV)):Prop:=∀pos:Pos,PX ce X RUs (spliced (backTo pos (starEach es X.env))) m
noncomputable abbrev E1:=ISt->IH->Res IV
noncomputable abbrev T1:=ISt->IH->Res Bool
noncomputable abbrev A1:=ISt->IH->Res (List IV)
noncomputable def eVar (i:Nat):E1:=λ σ h=>match σ[i]? with|some (some v)=>.ok v h|_=>.stuck
noncomputable def eC (v:IV):E1:=λ _ h=>.ok v h
noncomputable def eBin (f:IV->IV->IH->Res IV) (a b:E1):E1:=λ σ h=>(a σ h).bind λ x h1=>(b σ h1).bind λ y h2=>f x y h2
noncomputable def eUn (f:IV->IH->Res IV) (a:E1):E1:=λ σ h=>(a σ h).bind λ x h1=>f x h1
noncomputable def eAnd (a b:E1) (tr:IV->IH->Res Bool):E1:=λ σ h=>(a σ h).bind λ x h1=>(tr x h1).bind λ c h2=>if c then b σ h2 else .ok x h2
noncomputable def eOr (a b:E1) (tr:IV->IH->Res Bool):E1:=λ σ h=>(a σ h).bind λ x h1=>(tr x h1).bind λ c h2=>if c then .ok x h2 else b σ h2
noncomputable def eIf (t:T1) (a b:E1):E1:=λ σ h=>(t σ h).bind λ c h1=>if c then a σ h1 else b σ h1
noncomputable def Jtk (a b:T1):T1:=λ σ h=>(a σ h).bind λ c h1=>if c then b σ h1 else .ok false h1
noncomputable def tOrI (a b:T1):T1:=λ σ h=>(a σ h).bind λ c h1=>if c then .ok true h1 else b σ h1
noncomputable def Jal (a:T1):T1:=λ σ h=>(a σ h).bind λ c h1=>.ok (!c) h1
noncomputable def tOfB (tr:IV->IH->Res Bool) (a:E1):T1:=λ σ h=>(a σ h).bind λ x h1=>tr x h1
noncomputable def aNil:A1:=λ _ h=>.ok [] h
noncomputable def Ja (a:E1) (r:A1):A1:=λ σ h=>(a σ h).bind λ x h1=>(r σ h1).bind λ xs h2=>.ok (x::xs) h2
noncomputable def Jbc (f g:IV->IV->IH->Res IV) (a b c:E1):E1:=λ σ h=>(a σ h).bind λ x h1=>(b σ h1).bind λ y h2=>(f x y h2).bind λ k h3 =>
 match k with
 | .bl true=>(c σ h3).bind λ z h4=>g y z h4
 | .bl false=>.ok (.bl false) h3
 | _=>.stuck
section
variable {ce:Str->Option Addr}{X:Cx}{a b c:Expr}{ma mb mc:E1}{pos:Pos}
noncomputable def OpI (ce:Str->Option Addr) (X:Cx) (f:Value->Value->Sem Value) (g:IV->IV->IH->Res IV):Prop :=
 ∀(pins:List (Addr×Obj)) (s:Shared) (σ:L2.St) (H:Hp) (ι:List Addr) (σi:ISt) (h:IH) (x y:IV) (v u:Value) (Q:Value->Shared->Prop) (E:Value->Shared->Prop),Now ce X pins ι σi h σ H s->RU X.K ι H x v->RU X.K ι H y u ->
  Kont ce X RU pins ι σi σ H (g x y h) Q E->wpAny (model X.prog X.w) X.A (f v u) Q E s
noncomputable def UnI (ce:Str->Option Addr) (X:Cx) (f:Value->Sem Value) (g:IV->IH->Res IV):Prop :=
 ∀(pins:List (Addr×Obj)) (s:Shared) (σ:L2.St) (H:Hp) (ι:List Addr) (σi:ISt) (h:IH) (x:IV) (v:Value) (Q:Value->Shared->Prop) (E:Value->Shared->Prop),Now ce X pins ι σi h σ H s->RU X.K ι H x v ->
  Kont ce X RU pins ι σi σ H (g x h) Q E->wpAny (model X.prog X.w) X.A (f v) Q E s
noncomputable def TrI (ce:Str->Option Addr) (X:Cx) (g:IV->IH->Res Bool):Prop :=
 ∀(pins:List (Addr×Obj)) (s:Shared) (σ:L2.St) (H:Hp) (ι:List Addr) (σi:ISt) (h:IH) (x:IV) (v:Value) (Q:Bool->Shared->Prop) (E:Value->Shared->Prop),Now ce X pins ι σi h σ H s->RU X.K ι H x v ->
  Kont ce X RB pins ι σi σ H (g x h) Q E->wpAny (model X.prog X.w) X.A (truthy v) Q E s
noncomputable def Jjk (ce:Str->Option Addr) (X:Cx) (f:Value) (g:List IV->IH->Res IV):Prop :=
 ∀(pins:List (Addr×Obj)) (s:Shared) (σ:L2.St) (H:Hp) (ι:List Addr) (σi:ISt) (h:IH) (xs:List IV) (us:List Value) (Q:Value->Shared->Prop) (E:Value->Shared->Prop),Now ce X pins ι σi h σ H s->RUs X.K ι H xs us ->
  Kont ce X RU pins ι σi σ H (g xs h) Q E->wpAny (model X.prog X.w) X.A (call f us) Q E s
theorem Jln {pins:List (Addr×Obj)}{s:Shared}{σ:L2.St}{H:Hp}{Q:Value->Shared->Prop}{E:Value->Shared->Prop}{e:Expr}{t:TE}(p:PE (X.wish E) e t) (I:Inv X pins σ H s)
  (k:t σ H λ z H'=>∀u s',Inv X pins σ H' s'->RelV z u->Q u s'):wpAny (model X.prog X.w) X.A (eval e X.env) Q E s :=
 wpAny_mono (p pins s σ H _ (I.wish E) k) (λ u s' ⟨_,_,I',r,q⟩=>q u s' I'.unwish r) λ _ _ z=>z
theorem Jab {pins:List (Addr×Obj)}{s:Shared}{σ:L2.St}{H:Hp}{Q:Value->Shared->Prop}{E:Value->Shared->Prop}{f:Value->Value->Sem Value}{r:R2}{x y:V}{v u:Value}(p:OpR (X.wish E) f r) (I:Inv X pins σ H s) (rx:RelV x v) (ry:RelV y u)
  (k:r x y H λ z H'=>∀u s',Inv X pins σ H' s'->RelV z u->Q u s'):wpAny (model X.prog X.w) X.A (f v u) Q E s :=
 wpAny_mono (p pins s σ H x y v u _ (I.wish E) rx ry k) (λ u s' ⟨_,_,I',r,q⟩=>q u s' I'.unwish r) λ _ _ z=>z
theorem J48 {pins:List (Addr×Obj)}{s:Shared}{σ:L2.St}{H:Hp}{Q:Value->Shared->Prop}{E:Value->Shared->Prop}{f:Value->Sem Value}{r:V->Hp->VK->Prop}{x:V}{v:Value}(p:UnR (X.wish E) f r) (I:Inv X pins σ H s) (rx:RelV x v)
  (k:r x H λ z H'=>∀u s',Inv X pins σ H' s'->RelV z u->Q u s'):wpAny (model X.prog X.w) X.A (f v) Q E s :=
 wpAny_mono (p pins s σ H x v _ (I.wish E) rx k) (λ u s' ⟨_,_,I',r,q⟩=>q u s' I'.unwish r) λ _ _ z=>z
theorem Jd6 {pins:List (Addr×Obj)}{s:Shared}{σ:L2.St}{H:Hp}{Q:Bool->Shared->Prop}{E:Value->Shared->Prop}{r:V->Hp->(Bool->Hp->Prop)->Prop}{x:V}{v:Value}(p:TruR (X.wish E) r) (I:Inv X pins σ H s) (rx:RelV x v)
  (k:r x H λ z H'=>∀s',Inv X pins σ H' s'->Q z s'):wpAny (model X.prog X.w) X.A (truthy v) Q E s :=
 wpAny_mono (p pins s σ H x v _ (I.wish E) rx k) (λ _ s' ⟨_,I',q⟩=>q s' I'.unwish) λ _ _ z=>z
theorem Jag {pins:List (Addr×Obj)}{s:Shared}{σ:L2.St}{H:Hp}{Q:Value->Shared->Prop}{E:Value->Shared->Prop}{f:Value}{r:List V->Hp->VK->Prop}{xs:List V}{us:List Value}(p:Jt3 (X.wish E) f r) (I:Inv X pins σ H s) (rx:Vals xs us)
  (k:r xs H λ z H'=>∀u s',Inv X pins σ H' s'->RelV z u->Q u s'):wpAny (model X.prog X.w) X.A (call f us) Q E s :=
 wpAny_mono (p pins s σ H xs us _ (I.wish E) rx k) (λ u s' ⟨_,_,I',r,q⟩=>q u s' I'.unwish r) λ _ _ z=>z
theorem i_var (i:Nat){x:Str}{pos:Pos}(hN:X.N[i]?=some x:=by rfl) (hv:Vis X.env.scope x:=by assumption) (hd:(x==("__debug__":Str))=false:=by decide)
  (hcd:(x==("__classdict__":Str))=false:=by decide):PEi ce X (.Name x pos) (eVar i):=by
 intro pins s σ H ι σi h Q E N K
 unfold eVar at K
 cases e:σi[i]? with
 | none =>
  rw[e] at K
  exact Zf K
 | some o =>
  cases o with
  | none =>
   rw[e] at K
   exact Zf K
  | some v =>
   rw[e] at K
   obtain⟨u,e1,q⟩:=N.st.at_ i v e
   exact Jln (J4f (X:=X.wish E) hN hv hd hcd) N.inv ⟨u,e1,λ u' s' I' r'=>K u' s' H ι ⟨I',N.rel,N.st⟩ .refl ⟨u,r',q⟩⟩
theorem i_int {i j pos}:PEi ce X (.Constant (.int i) j pos) (eC (.int i)):=λ _ _ _ H ι _ _ _ E N K=>Jln (J4c (X:=X.wish E)) N.inv λ u' s' I' r'=>K u' s' H ι ⟨I',N.rel,N.st⟩ .refl ⟨_,r',rfl⟩
theorem i_bl {i j pos}:PEi ce X (.Constant (.bool i) j pos) (eC (.bl i)):=λ _ _ _ H ι _ _ _ E N K=>Jln (pe_bl (X:=X.wish E)) N.inv λ u' s' I' r'=>K u' s' H ι ⟨I',N.rel,N.st⟩ .refl ⟨_,r',rfl⟩
theorem i_non {j pos}:PEi ce X (.Constant .none j pos) (eC .non):=λ _ _ _ H ι _ _ _ E N K=>Jln (J4d (X:=X.wish E)) N.inv λ u' s' I' r'=>K u' s' H ι ⟨I',N.rel,N.st⟩ .refl ⟨_,r',rfl⟩
theorem i_str {i j pos}:PEi ce X (.Constant (.str i) j pos) (eC (.str i)):=λ _ _ _ H ι _ _ _ E N K=>Jln (J4e (X:=X.wish E)) N.inv λ u' s' I' r'=>K u' s' H ι ⟨I',N.rel,N.st⟩ .refl ⟨_,r',rfl⟩
theorem J3c {x:Str}{v:V}{iv:IV}{u:Value}{pos:Pos}(hg:Gl X x) (hm:X.mg x=some u) (r:RelV v u) (q:∀ι H,RV X.K ι H iv v) (hd:(x==("__debug__":Str))=false:=by decide):PEi ce X (.Name x pos) (eC iv) :=
 λ _ _ _ H ι _ _ _ E N K=>Jln (J1j (X:=X.wish E) hg hm r hd) N.inv λ u' s' I' r'=>K u' s' H ι ⟨I',N.rel,N.st⟩ .refl ⟨_,r',q _ _⟩
theorem i_bin {op:Operator}{f:IV->IV->IH->Res IV}(ho:OpI ce X (binaryOp op) f) (ha:PEi ce X a ma) (hb:PEi ce X b mb):PEi ce X (.BinOp a op b pos) (eBin f ma mb) :=
 λ pins s σ H ι σi h Q E N K=>wpAny_BinOp (ha.run N K λ x h1 u s1 H1 ι1 N1 n1 r1 K1=>hb.run N1 K1 λ y h2 w s2 H2 ι2 N2 n2 r2 K2=>ho pins s2 σ H2 ι2 σi h2 x y u w Q E N2 (r1.mono n2) r2 K2)
theorem i_un {op:UnaryOp}{f:IV->IH->Res IV}(ho:UnI ce X (unaryOp op) f) (ha:PEi ce X a ma):PEi ce X (.UnaryOp op a pos) (eUn f ma) :=
 λ pins s σ H ι σi h Q E N K=>UnaryOp_ (ha.run N K λ x h1 u s1 H1 ι1 N1 n1 r1 K1=>ho pins s1 σ H1 ι1 σi h1 x u Q E N1 r1 K1)
theorem i_cmp {op:CmpOp}{f:IV->IV->IH->Res IV}(ho:OpI ce X (compareOp op) f) (ha:PEi ce X a ma) (hb:PEi ce X b mb) (hm:behindInMarks op b=false:=by assumption):PEi ce X (.Compare a [op] [b] pos) (eBin f ma mb) :=
 λ pins s σ H ι σi h Q E N K=>wpAny_Compare1 (ha.run N K λ x h1 u s1 H1 ι1 N1 n1 r1 K1=>hb.run N1 K1 λ y h2 w s2 H2 ι2 N2 n2 r2 K2=>ho pins s2 σ H2 ι2 σi h2 x y u w Q E N2 (r1.mono n2) r2 K2) hm
noncomputable def asB:IV->IH->Res Bool
 | .bl b,h=>.ok b h
 | _,_=>.stuck
theorem Kont.asB {pins:List (Addr×Obj)}{σ:L2.St}{H:Hp}{ι:List Addr}{σi:ISt}{r:Res IV}{Q:Bool->Shared->Prop}{E:Value->Shared->Prop}(K:Kont ce X RB pins ι σi σ H (r.bind asB) Q E) :
  Kont ce X RU pins ι σi σ H r (λ v s=>wpAny (model X.prog X.w) X.A (truthy v) Q E s) E:=by
 cases r with
 | exc n h=>exact K
 | stuck=>exact K
 | ok v h =>
  intro u s' H' ι' N n q
  obtain⟨x,rx,q⟩:=q
  cases v with
  | bl b =>
   have e:x=.bl b:=q
   subst e
   cases rx
   exact wpAny_truthy_bool (K b s' H' ι' N n rfl)
  | _=>exact Zf K
theorem Res.bind_bind {α β γ:Type}(r:Res α) (f:α->IH->Res β) (g:β->IH->Res γ):(r.bind f).bind g=r.bind λ x h=>(f x h).bind g:=by
 cases r<;>rfl
theorem t_cmp {op:CmpOp}{f:IV->IV->IH->Res IV}(ho:OpI ce X (compareOp op) f) (ha:PEi ce X a ma) (hb:PEi ce X b mb) (hm:behindInMarks op b=false:=by assumption):PTi ce X (.Compare a [op] [b] pos) (tOfB asB (eBin f ma mb)) :=
 λ pins s σ H ι σi h Q E N K=>by
  have K':Kont ce X RB pins ι σi σ H ((ma σi h).bind λ x h1=>(mb σi h1).bind λ y h2=>(f x y h2).bind asB) Q E:=by
   unfold tOfB eBin at K
   rw[Res.bind_bind] at K
   simp only[Res.bind_bind] at K
   exact K
  exact wpAny_isTrue_Compare1 (ha.run N K' λ x h1 u s1 H1 ι1 N1 n1 r1 K1=>hb.run N1 K1 λ y h2 w s2 H2 ι2 N2 n2 r2 K2=>ho pins s2 σ H2 ι2 σi h2 x y u w _ E N2 (r1.mono n2) r2 (Kont.asB K2)) hm
theorem J43 {tr:IV->IH->Res Bool}(ht:TrI ce X tr) (ha:PEi ce X a ma) (he:∀whole,isTrue a X.env whole=(do let v<-whole;standAt a.pos;holding [v] (truthy v)):=by intro _;rfl):PTi ce X a (tOfB tr ma) :=
 λ pins s σ H ι σi h Q E N K=>isTrue_plain (ha.run N K λ x h1 u s1 H1 ι1 N1 n1 r1 K1=>ht pins s1 σ H1 ι1 σi h1 x u Q E N1 r1 K1) (he _)
variable {rest:List Expr}{ta tb:T1}
theorem J2b (ha:PTi ce X a ta):PWi ce X (.BoolOp .And [a] pos) ta:=λ wh pins s σ H ι σi h Q E N K=>by
 refine isTrue_and (ha pins s σ H ι σi h _ E N ?_)
 cases e:ta σi h with
 | ok v h' =>
  rw[e] at K
  intro u s' H' ι' N' n' r
  have r':u=v:=r
  subst r'
  cases u with
  | true=>exact isTrue_and_nil (K true s' H' ι' N' n' rfl)
  | false=>exact K false s' H' ι' N' n' rfl
 | exc n h'=>rw[e] at K;exact K
 | stuck=>rw[e] at K;exact K
theorem J46 (ha:PTi ce X a ta):PWi ce X (.BoolOp .Or [a] pos) ta:=λ wh pins s σ H ι σi h Q E N K=>by
 refine isTrue_or (ha pins s σ H ι σi h _ E N ?_)
 cases e:ta σi h with
 | ok v h' =>
  rw[e] at K
  intro u s' H' ι' N' n' r
  have r':u=v:=r
  subst r'
  cases u with
  | false=>exact isTrue_or_nil (K false s' H' ι' N' n' rfl)
  | true=>exact K true s' H' ι' N' n' rfl
 | exc n h'=>rw[e] at K;exact K
 | stuck=>rw[e] at K;exact K
theorem J45 (ha:PTi ce X a ta) (hb:PWi ce X (.BoolOp .And (b::rest) pos) tb):PWi ce X (.BoolOp .And (a::b::rest) pos) (Jtk ta tb):=λ wh pins s σ H ι σi h Q E N K =>
 isTrue_and (ha.run N K λ c h1 u s1 H1 ι1 N1 n1 r1 K1=>by
  have r':u=c:=r1
  subst r'
  cases u with
  | true=>exact hb wh pins s1 σ H1 ι1 σi h1 Q E N1 K1
  | false=>exact K1 false s1 H1 ι1 N1 .refl rfl)
theorem tw_or (ha:PTi ce X a ta) (hb:PWi ce X (.BoolOp .Or (b::rest) pos) tb):PWi ce X (.BoolOp .Or (a::b::rest) pos) (tOrI ta tb):=λ wh pins s σ H ι σi h Q E N K =>
 isTrue_or (ha.run N K λ c h1 u s1 H1 ι1 N1 n1 r1 K1=>by
  have r':u=c:=r1
  subst r'
  cases u with
  | false=>exact hb wh pins s1 σ H1 ι1 σi h1 Q E N1 K1
  | true=>exact K1 true s1 H1 ι1 N1 .refl rfl)
theorem PWi.t (h:PWi ce X a ta):PTi ce X a ta:=h _
theorem t_not (ha:PTi ce X a ta):PTi ce X (.UnaryOp .Not a pos) (Jal ta):=λ pins s σ H ι σi h Q E N K =>
 isTrue_not (ha.run N K λ c h1 u s1 H1 ι1 N1 n1 r1 K1=>by
  have r':u=c:=r1
  subst r'
  exact K1 (!u) s1 H1 ι1 N1 .refl rfl)
theorem J3g {op} (h:PEi ce X a ma):PEi ce X (.BoolOp op [a] pos) ma:=λ pins s σ H ι σi h' Q E N K=>BoolOp_one (h pins s σ H ι σi h' Q E N K)
theorem i_and {tr:IV->IH->Res Bool}(ht:TrI ce X tr) (ha:PEi ce X a ma) (hb:PEi ce X (.BoolOp .And (b::rest) pos) mb):PEi ce X (.BoolOp .And (a::b::rest) pos) (eAnd ma mb tr):=λ pins s σ H ι σi h Q E N K =>
 BoolOp_and (ha.run N K λ x h1 u s1 H1 ι1 N1 n1 r1 K1=>by
  refine ht pins s1 σ H1 ι1 σi h1 x u _ E N1 r1 ?_
  cases e:tr x h1 with
  | ok c h2 =>
   rw[e] at K1
   intro d s2 H2 ι2 N2 n2 r2
   have r':d=c:=r2
   subst r'
   have K2:=Kont.mono (r:=if d=true then mb σi h2 else .ok x h2) K1 n2
   cases d with
   | true=>exact hb pins s2 σ H2 ι2 σi h2 Q E N2 K2
   | false=>exact K2 u s2 H2 ι2 N2 .refl (r1.mono n2)
  | exc n h'=>rw[e] at K1;exact K1
  | stuck=>rw[e] at K1;exact K1)
theorem i_or {tr:IV->IH->Res Bool}(ht:TrI ce X tr) (ha:PEi ce X a ma) (hb:PEi ce X (.BoolOp .Or (b::rest) pos) mb):PEi ce X (.BoolOp .Or (a::b::rest) pos) (eOr ma mb tr):=λ pins s σ H ι σi h Q E N K =>
 BoolOp_or (ha.run N K λ x h1 u s1 H1 ι1 N1 n1 r1 K1=>by
  refine ht pins s1 σ H1 ι1 σi h1 x u _ E N1 r1 ?_
  cases e:tr x h1 with
  | ok c h2 =>
   rw[e] at K1
   intro d s2 H2 ι2 N2 n2 r2
   have r':d=c:=r2
   subst r'
   have K2:=Kont.mono (r:=if d=true then .ok x h2 else mb σi h2) K1 n2
   cases d with
   | false=>exact hb pins s2 σ H2 ι2 σi h2 Q E N2 K2
   | true=>exact K2 u s2 H2 ι2 N2 .refl (r1.mono n2)
  | exc n h'=>rw[e] at K1;exact K1
  | stuck=>rw[e] at K1;exact K1)
noncomputable def Jqi (tr:IV->IH->Res Bool):IV->IH->Res IV:=λ x h=>(tr x h).bind λ c h1=>.ok (.bl (!c)) h1
theorem J2c {tr:IV->IH->Res Bool}(ht:TrI ce X tr):UnI ce X (unaryOp .Not) (Jqi tr):=λ pins s σ H ι σi h x v Q E N r K=>by
 refine not_of (ht pins s σ H ι σi h x v _ E N r ?_)
 unfold Jqi at K
 cases e:tr x h with
 | ok c h2 =>
  rw[e] at K
  intro d s2 H2 ι2 N2 n2 r2
  have r':d=c:=r2
  subst r'
  exact K _ s2 H2 ι2 N2 n2 ⟨.bl (!d),rfl,rfl⟩
 | exc n h'=>rw[e] at K;exact K
 | stuck=>rw[e] at K;exact K
theorem J0v {t:Expr}{mt:T1}(ht:PTi ce X t mt) (ha:PEi ce X a ma) (hb:PEi ce X b mb):PEi ce X (.IfExp t a b pos) (eIf mt ma mb):=λ pins s σ H ι σi h Q E N K =>
 wpAny_IfExp (ht.run N K λ c h1 u s1 H1 ι1 N1 n1 r1 K1=>by
  have r':u=c:=r1
  subst r'
  cases u with
  | true=>exact ha pins s1 σ H1 ι1 σi h1 Q E N1 K1
  | false=>exact hb pins s1 σ H1 ι1 σi h1 Q E N1 K1)
theorem J0u {op op':CmpOp}{f g:IV->IV->IH->Res IV}(ho:OpI ce X (compareOp op) f) (ho':OpI ce X (compareOp op') g) (ha:PEi ce X a ma) (hb:PEi ce X b mb) (hc:PEi ce X c mc)
  (hm:lastMarks [op,op'] [b,c]=false:=by with_unfolding_all rfl):PEi ce X (.Compare a [op,op'] [b,c] pos) (Jbc f g ma mb mc):=λ pins s σ H ι σi h Q E N K =>
 Compare_chain (ha.run N K λ x h1 u s1 H1 ι1 N1 n1 r1 K1=>chain_link (hb.run N1 K1 λ y h2 w s2 H2 ι2 N2 n2 r2 K2=>by
  refine ho pins s2 σ H2 ι2 σi h2 x y u w _ E N2 (r1.mono n2) r2 ?_
  cases e:f x y h2 with
  | exc n h'=>rw[e] at K2;exact K2
  | stuck=>rw[e] at K2;exact K2
  | ok k h3 =>
   rw[e] at K2
   intro d s3 H3 ι3 N3 n3 r3
   obtain⟨z,rz,q⟩:=r3
   cases k with
   | bl k =>
    have e':z=.bl k:=q
    subst e'
    cases rz
    refine wpAny_truthy_bool ?_
    have K3:=Kont.mono (r:=match IV.bl k with|.bl true=>(mc σi h3).bind λ z h4=>g y z h4|.bl false=>.ok (.bl false) h3|_=>.stuck) K2 n3
    cases k with
    | false=>exact ite_ff (K3 _ s3 H3 ι3 N3 .refl ⟨.bl false,rfl,rfl⟩)
    | true=>exact ite_tt (chain_last (hc.run N3 K3 λ z h4 w' s4 H4 ι4 N4 n4 r4 K4=>ho' pins s4 σ H4 ι4 σi h4 y z w w' Q E N4 ((r2.mono n3).mono n4) r4 K4))
   | _=>exact Zf K2)) hm
theorem J17 {op op':CmpOp}{f g:IV->IV->IH->Res IV}(ho:OpI ce X (compareOp op) f) (ho':OpI ce X (compareOp op') g) (ha:PEi ce X a ma) (hb:PEi ce X b mb) (hc:PEi ce X c mc)
  (hm:lastMarks [op,op'] [b,c]=false:=by with_unfolding_all rfl):PTi ce X (.Compare a [op,op'] [b,c] pos) (tOfB asB (Jbc f g ma mb mc)):=λ pins s σ H ι σi h Q E N K=>by
 have K':Kont ce X RB pins ι σi σ H ((ma σi h).bind λ x h1=>(mb σi h1).bind λ y h2=>(f x y h2).bind λ k h3=>(match k with|.bl true=>(mc σi h3).bind λ z h4=>g y z h4|.bl false=>.ok (.bl false) h3|_=>.stuck:Res IV).bind asB) Q E:=by
  unfold tOfB Jbc at K
  rw[Res.bind_bind] at K
  simp only[Res.bind_bind] at K
  exact K
 refine isTrue_chain (ha.run N K' λ x h1 u s1 H1 ι1 N1 n1 r1 K1=>test_link (hb.run N1 K1 λ y h2 w s2 H2 ι2 N2 n2 r2 K2=>?_)) hm
 refine ho pins s2 σ H2 ι2 σi h2 x y u w _ E N2 (r1.mono n2) r2 ?_
 cases e:f x y h2 with
 | exc n h'=>rw[e] at K2;exact K2
 | stuck=>rw[e] at K2;exact K2
 | ok k h3 =>
  rw[e] at K2
  intro d s3 H3 ι3 N3 n3 r3
  obtain⟨z,rz,q⟩:=r3
  cases k with
  | bl k =>
   have e':z=.bl k:=q
   subst e'
   cases rz
   refine wpAny_truthy_bool ?_
   have K3:=Kont.mono (r:=(match IV.bl k with|.bl true=>(mc σi h3).bind λ z h4=>g y z h4|.bl false=>.ok (.bl false) h3|_=>.stuck:Res IV).bind asB) K2 n3
   cases k with
   | false=>exact ite_ff (K3 _ s3 H3 ι3 N3 .refl rfl)
   | true =>
    have K3':Kont ce X RB pins ι3 σi σ H3 ((mc σi h3).bind λ z h4=>(g y z h4).bind asB) Q E:=by
     have:=K3
     dsimp only at this
     rw[Res.bind_bind] at this
     exact this
    exact ite_tt (test_last (hc.run N3 K3' λ z h4 w' s4 H4 ι4 N4 n4 r4 K4=>ho' pins s4 σ H4 ι4 σi h4 y z w w' _ E N4 ((r2.mono n3).mono n4) r4 (Kont.asB K4)))
  | _=>exact Zf K2
variable {es:List Expr}{mr:A1}
theorem RUs.nil {K:W.Frag}{ι:List Addr}{H:Hp}:RUs K ι H [] []:=⟨[],.nil,rfl⟩
theorem RUs.cons {K:W.Frag}{ι:List Addr}{H:Hp}{x:IV}{u:Value}{xs:List IV}{us:List Value}(a:RU K ι H x u) (b:RUs K ι H xs us):RUs K ι H (x::xs) (u::us) :=
 let ⟨v,r,q⟩:=a;let ⟨vs,rs,qs⟩:=b;⟨v::vs,.cons r rs,v,vs,rfl,q,qs⟩
theorem Jml:PAi ce X [] aNil:=λ _ pins s σ H ι σi h Q E N K=>Calls.spliced_nil (K [] s H ι N .refl .nil)
theorem Jeq (ha:PEi ce X a ma) (hr:PAi ce X es mr) (hs:starEach (a::es) X.env=(false,eval a X.env)::starEach es X.env:=by rfl):PAi ce X (a::es) (Ja ma mr):=by
 intro pos pins s σ H ι σi h Q E N K
 rw[hs]
 show wpAny _ _ (spliced ((false,eval a X.env)::backTo pos (starEach es X.env))) _ _ s
 exact Calls.spliced_cons (ha.run N K λ x h1 u s1 H1 ι1 N1 n1 r1 K1=>(hr pos).run N1 K1 λ xs h2 us s2 H2 ι2 N2 n2 r2 K2=>K2 _ s2 H2 ι2 N2 .refl (.cons (r1.mono n2) r2))
end
noncomputable def Jm:IV->IV->IH->Res IV
 | .int i,.int j,h=>.ok (.int (i+j)) h
 | .str x,.str y,h=>if x.length+y.length<=sizeLine then .ok (.str (x++y)) h else .stuck
 | .ref i,.ref j,h=>match h[i]?,h[j]? with
  | some (.lst xs),some (.lst ys)=>if xs.length+ys.length<=sizeLine then .ok (.ref h.length) (h++[.lst (xs++ys)]) else .stuck
  | _,_=>.stuck
 | .tup xs,.tup ys,h=>if xs≠[]/\ys≠[]/\xs.length+ys.length<=sizeLine then .ok (.tup (xs++ys)) h else .stuck
 | _,_,_=>.stuck
noncomputable def Jkf:IV->IV->IH->Res IV
 | .int i,.int j,h=>.ok (.int (i-j)) h
 | _,_,_=>.stuck
noncomputable def Ja0 (i j:Int):Prop:=i.natAbs<2^64∨j.natAbs<2^64∨(i.natAbs.log2<1048576/\j.natAbs.log2<1048576)
noncomputable instance (i j:Int):Decidable (Ja0 i j):=by unfold Ja0;exact inferInstance
noncomputable def Jsy:IV->IV->IH->Res IV
 | .int i,.int j,h=>if Ja0 i j then .ok (.int (i*j)) h else .stuck
 | .ref i,.int k,h=>match h[i]? with
  | some (.lst xs)=>if -(2^63)<=k/\k<2^63/\xs.length*k.toNat<=sizeLine then .ok (.ref h.length) (h++[.lst (List.replicate k.toNat xs).flatten]) else .stuck
  | _=>.stuck
 | _,_,_=>.stuck
noncomputable def J9:IV->IV->IH->Res IV
 | .int i,.int j,h=>if 0<j/\j.natAbs.log2<9000 then .ok (.int (i/j)) h else .stuck
 | _,_,_=>.stuck
noncomputable def Jp:IV->IV->IH->Res IV
 | .int i,.int j,h=>if 0<j then .ok (.int (i%j)) h else .stuck
 | _,_,_=>.stuck
noncomputable def Jg6:IV->IV->IH->Res IV
 | .int i,.int j,h=>if 0<=j/\j<=1000000/\i.natAbs<2^64 then .ok (.int (i^j.toNat)) h else .stuck
 | _,_,_=>.stuck
noncomputable def J1f:IV->IH->Res IV
 | .int i,h=>.ok (.int (-i)) h
 | _,_=>.stuck
section
variable {ce:Str->Option Addr}{X:Cx}
theorem fin0 {pins:List (Addr×Obj)}{s:Shared}{σ:L2.St}{H:Hp}{ι:List Addr}{σi:ISt}{h:IH}{v:IV}{w:V}{Q:Value->Shared->Prop}{E:Value->Shared->Prop}(N:Now ce X pins ι σi h σ H s) (K:Kont ce X RU pins ι σi σ H (.ok v h) Q E)
  (q:RV X.K ι H v w):∀u s',Inv X pins σ H s'->RelV w u->Q u s':=λ u s' I r=>K u s' H ι ⟨I,N.rel,N.st⟩ .refl ⟨w,r,q⟩
theorem finA {pins:List (Addr×Obj)}{s:Shared}{σ:L2.St}{H:Hp}{ι:List Addr}{σi:ISt}{h:IH}{io:IO}{o:HO}{Q:Value->Shared->Prop}{E:Value->Shared->Prop}(N:Now ce X pins ι σi h σ H s)
  (K:Kont ce X RU pins ι σi σ H (.ok (.ref h.length) (h++[io])) Q E) (l:Addr) (e:H l=none) (r:RO ce X.K (ι++[l]) (upd H l o) l io):∀u s',Inv X pins σ (upd H l o) s'->RelV (.ref l) u->Q u s':=λ u s' I ru=>by
 obtain⟨R,n⟩:=N.rel.alloc e r
 refine K u s' _ _ ⟨I,R,N.st.mono n⟩ n ⟨.ref l,ru,l,rfl,?_⟩
 rw[<- N.rel.len,List.getElem?_append_right (Nat.le_refl _)]
 simp
theorem finT {pins:List (Addr×Obj)}{s:Shared}{σ:L2.St}{H:Hp}{ι:List Addr}{σi:ISt}{h:IH}{xs:List IV}{vs:List V}{Q:Value->Shared->Prop}{E:Value->Shared->Prop}(N:Now ce X pins ι σi h σ H s)
  (K:Kont ce X RU pins ι σi σ H (.ok (.tup xs) h) Q E) (l:Addr) (e:H l=none) (r:RVs X.K ι H xs vs):∀u s',Inv X pins σ (upd H l (.tup vs)) s'->RelV (.ref l) u->Q u s':=λ u s' I ru=>by
 obtain⟨R,n⟩:=N.rel.grow (o:=.tup vs) e
 exact K u s' _ _ ⟨I,R,N.st.mono n⟩ n ⟨.ref l,ru,l,vs,rfl,SqT.of Jf,RVs.mono n _ _ r⟩
theorem RVs.new {K:W.Frag}{ι:List Addr}{H:Hp}{l:Addr}{o:HO}(e:H l=none){xs:List IV}{vs:List V}(r:RVs K ι H xs vs):RVs K (ι++[l]) (upd H l o) xs vs:=RVs.mono ⟨⟨[l],rfl⟩,Ext.upd_new e⟩ _ _ r
theorem Now.at {pins:List (Addr×Obj)}{s:Shared}{σ:L2.St}{H:Hp}{ι:List Addr}{σi:ISt}{h:IH}(N:Now ce X pins ι σi h σ H s){i:Nat}{o:IO}(e:h[i]?=some o){a:Addr}(ha:ι[i]?=some a):RO ce X.K ι H a o:=by
 obtain⟨b,e1,r⟩:=N.rel.at_ i o e
 rw[ha] at e1
 cases e1
 exact r
theorem o_add:OpI ce X (binaryOp .Add) Jm:=by
 intro pins s σ H ι σi h x y v u Q E N rx ry K
 obtain⟨xv,rx,qx⟩:=rx
 obtain⟨yv,ry,qy⟩:=ry
 cases x with
 | int i =>
  cases y with
  | int j =>
   have e1:xv=.int i:=qx
   have e2:yv=.int j:=qy
   subst e1 e2
   exact Jab (J33 (X:=X.wish E)) N.inv rx ry ⟨i,j,rfl,rfl,fin0 N K rfl⟩
  | _=>exact Zf K
 | str i =>
  cases y with
  | str j =>
   have e1:xv=.str i:=qx
   have e2:yv=.str j:=qy
   subst e1 e2
   dsimp only[Jm] at K
   split at K
   ·rename_i hz
    exact Jab (Jsz (X:=X.wish E)) N.inv rx ry ⟨i,j,rfl,rfl,hz,fin0 N K rfl⟩
   ·exact Zf K
  | _=>exact Zf K
 | tup xs =>
  cases y with
  | tup ys =>
   obtain⟨a,vs,e1,sa,ra⟩:=qx
   obtain⟨b,ws,e2,sb,rb⟩:=qy
   subst e1 e2
   dsimp only[Jm] at K
   split at K
   ·rename_i hz
    obtain⟨h1,h2,h3⟩:=hz
    have n1:vs≠[]:=λ z=>h1 (by have:=ra.length;rw[z] at this;exact List.eq_nil_of_length_eq_zero this.symm)
    have n2:ws≠[]:=λ z=>h2 (by have:=rb.length;rw[z] at this;exact List.eq_nil_of_length_eq_zero this.symm)
    exact Jab (J1g (X:=X.wish E)) N.inv rx ry ⟨a,b,vs,ws,rfl,rfl,sa,sb,n1,by rw[ra.length,rb.length];exact h3,λ z=>absurd z n2,λ _ p hp=>finT N K p hp (ra.append rb)⟩
   ·exact Zf K
  | _=>exact Zf K
 | ref i =>
  cases y with
  | ref j =>
   obtain⟨a,e1,ha⟩:=qx
   obtain⟨b,e2,hb⟩:=qy
   subst e1 e2
   dsimp only[Jm] at K
   cases hi:h[i]? with
   | none=>rw[hi] at K;exact Zf K
   | some oi =>
    cases hj:h[j]? with
    | none=>rw[hi,hj] at K;cases oi<;>exact Zf K
    | some oj =>
     rw[hi,hj] at K
     cases oi with
     | lst xs =>
      cases oj with
      | lst ys =>
       dsimp only at K
       split at K
       ·rename_i hz
        obtain⟨vs,e1,r1⟩:=N.at hi ha
        obtain⟨ws,e2,r2⟩:=N.at hj hb
        exact Jab (J34 (X:=X.wish E)) N.inv rx ry ⟨a,b,vs,ws,rfl,rfl,e1,e2,by rw[r1.length,r2.length];exact hz,λ p hp=>finA N K p hp ⟨_,Jf,RVs.new hp (r1.append r2)⟩⟩
       ·exact Zf K
      | _=>exact Zf K
     | _=>exact Zf K
  | _=>exact Zf K
 | _=>cases y<;>exact Zf K
theorem o_sub:OpI ce X (binaryOp .Sub) Jkf:=by
 intro pins s σ H ι σi h x y v u Q E N rx ry K
 obtain⟨xv,rx,qx⟩:=rx
 obtain⟨yv,ry,qy⟩:=ry
 cases x with
 | int i =>
  cases y with
  | int j =>
   have e1:xv=.int i:=qx
   have e2:yv=.int j:=qy
   subst e1 e2
   exact Jab (J38 (X:=X.wish E)) N.inv rx ry ⟨i,j,rfl,rfl,fin0 N K rfl⟩
  | _=>exact Zf K
 | _=>cases y<;>exact Zf K
theorem Ja0.ok {i j:Int}(h:Ja0 i j):IntMulOk i j:=by
 rcases h with h|h|⟨h1,h2⟩
 ·exact .of_left (intBits_le_64 (by omega) (by omega))
 ·exact .of_right (intBits_le_64 (by omega) (by omega))
 ·refine .of_bits ?_ ?_
  ·unfold Builtin.Int.intBits
   split
   ·exact Nat.zero_le _
   ·have:(2:Nat)^20=1048576:=by decide
    omega
  ·unfold Builtin.Int.intBits
   split
   ·exact Nat.zero_le _
   ·have:(2:Nat)^20=1048576:=by decide
    omega
theorem J1h:OpR X (binaryOp .Mult) (rI Ja0 λ i j=>.int (i*j)):=opI λ _ _ _ _ _ _ _ hc q=>mul_int q hc.ok
theorem o_mul:OpI ce X (binaryOp .Mult) Jsy:=by
 intro pins s σ H ι σi h x y v u Q E N rx ry K
 obtain⟨xv,rx,qx⟩:=rx
 obtain⟨yv,ry,qy⟩:=ry
 cases x with
 | int i =>
  cases y with
  | int j =>
   have e1:xv=.int i:=qx
   have e2:yv=.int j:=qy
   subst e1 e2
   dsimp only[Jsy] at K
   split at K
   ·rename_i hz
    exact Jab (J1h (X:=X.wish E)) N.inv rx ry ⟨i,j,rfl,rfl,hz,fin0 N K rfl⟩
   ·exact Zf K
  | _=>exact Zf K
 | ref i =>
  cases y with
  | int k =>
   obtain⟨a,e1,ha⟩:=qx
   have e2:yv=.int k:=qy
   subst e1 e2
   dsimp only[Jsy] at K
   cases hi:h[i]? with
   | none=>rw[hi] at K;exact Zf K
   | some oi =>
    rw[hi] at K
    cases oi with
    | lst xs =>
     dsimp only at K
     split at K
     ·rename_i hz
      obtain⟨vs,e1,r1⟩:=N.at hi ha
      have rr:∀n:Nat,RVs X.K ι H (List.replicate n xs).flatten (List.replicate n vs).flatten:=λ n=>by
       induction n with
       | zero=>exact rfl
       | succ n ih =>
        rw[List.replicate_succ,List.replicate_succ,List.flatten_cons,List.flatten_cons]
        exact r1.append ih
      exact Jab (J37 (X:=X.wish E)) N.inv rx ry ⟨a,k,vs,rfl,rfl,e1,hz.1,hz.2.1,by rw[r1.length];exact hz.2.2,λ p hp=>finA N K p hp ⟨_,Jf,RVs.new hp (rr _)⟩⟩
     ·exact Zf K
    | _=>exact Zf K
  | _=>exact Zf K
 | _=>cases y<;>exact Zf K
theorem Jx8:OpR X (binaryOp .FloorDiv) (rI (λ _ j=>0<j/\j.natAbs.log2<9000) λ i j=>.int (i/j)):=opI λ i j _ _ _ _ _ hc q=>by
 have h1:(0:Int)<j:=hc.1
 exact floordiv_int (by omega) (by rw[Int.fdiv_eq_ediv_of_nonneg i (by omega)];exact q) (.inl (PyProof.noPylong_of_log2 hc.2))
theorem J30:OpI ce X (binaryOp .FloorDiv) J9:=by
 intro pins s σ H ι σi h x y v u Q E N rx ry K
 obtain⟨xv,rx,qx⟩:=rx
 obtain⟨yv,ry,qy⟩:=ry
 cases x with
 | int i =>
  cases y with
  | int j =>
   have e1:xv=.int i:=qx
   have e2:yv=.int j:=qy
   subst e1 e2
   dsimp only[J9] at K
   split at K
   ·rename_i hz
    exact Jab (Jx8 (X:=X.wish E)) N.inv rx ry ⟨i,j,rfl,rfl,hz,fin0 N K rfl⟩
   ·exact Zf K
  | _=>exact Zf K
 | _=>cases y<;>exact Zf K
theorem o_mod:OpI ce X (binaryOp .Mod) Jp:=by
 intro pins s σ H ι σi h x y v u Q E N rx ry K
 obtain⟨xv,rx,qx⟩:=rx
 obtain⟨yv,ry,qy⟩:=ry
 cases x with
 | int i =>
  cases y with
  | int j =>
   have e1:xv=.int i:=qx
   have e2:yv=.int j:=qy
   subst e1 e2
   dsimp only[Jp] at K
   split at K
   ·rename_i hz
    exact Jab (J35 (X:=X.wish E)) N.inv rx ry ⟨i,j,rfl,rfl,hz,fin0 N K rfl⟩
   ·exact Zf K
  | _=>exact Zf K
 | _=>cases y<;>exact Zf K
theorem o_pow:OpI ce X (binaryOp .Pow) Jg6:=by
 intro pins s σ H ι σi h x y v u Q E N rx ry K
 obtain⟨xv,rx,qx⟩:=rx
 obtain⟨yv,ry,qy⟩:=ry
 cases x with
 | int i =>
  cases y with
  | int j =>
   have e1:xv=.int i:=qx
   have e2:yv=.int j:=qy
   subst e1 e2
   dsimp only[Jg6] at K
   split at K
   ·rename_i hz
    exact Jab (J36 (X:=X.wish E)) N.inv rx ry ⟨i,j,rfl,rfl,hz,fin0 N K rfl⟩
   ·exact Zf K
  | _=>exact Zf K
 | _=>cases y<;>exact Zf K
theorem u_neg:UnI ce X (unaryOp .USub) J1f:=by
 intro pins s σ H ι σi h x v Q E N rx K
 obtain⟨xv,rx,qx⟩:=rx
 cases x with
 | int i =>
  have e1:xv=.int i:=qx
  subst e1
  exact J48 (J47 (X:=X.wish E)) N.inv rx ⟨i,rfl,fin0 N K rfl⟩
 | _=>exact Zf K
noncomputable def cLt:IV->IV->IH->Res IV
 | .int i,.int j,h=>.ok (.bl (decide (i<j))) h
 | .str x,.str y,h=>.ok (.bl (decide (x.cps.toList<y.cps.toList))) h
 | _,_,_=>.stuck
noncomputable def cLe:IV->IV->IH->Res IV
 | .int i,.int j,h=>.ok (.bl (decide (i<=j))) h
 | .str x,.str y,h=>.ok (.bl (!decide (y.cps.toList<x.cps.toList))) h
 | _,_,_=>.stuck
noncomputable def cGt:IV->IV->IH->Res IV
 | .int i,.int j,h=>.ok (.bl (decide (j<i))) h
 | _,_,_=>.stuck
noncomputable def cGe:IV->IV->IH->Res IV
 | .int i,.int j,h=>.ok (.bl (decide (j<=i))) h
 | _,_,_=>.stuck
theorem o_lt:OpI ce X (compareOp .Lt) cLt:=by
 intro pins s σ H ι σi h x y v u Q E N rx ry K
 obtain⟨xv,rx,qx⟩:=rx
 obtain⟨yv,ry,qy⟩:=ry
 cases x with
 | int i =>
  cases y with
  | int j =>
   have e1:xv=.int i:=qx
   have e2:yv=.int j:=qy
   subst e1 e2
   exact Jab (op_lt (X:=X.wish E)) N.inv rx ry ⟨i,j,rfl,rfl,fin0 N K rfl⟩
  | _=>exact Zf K
 | str i =>
  cases y with
  | str j =>
   have e1:xv=.str i:=qx
   have e2:yv=.str j:=qy
   subst e1 e2
   exact Jab (Jv4 (X:=X.wish E)) N.inv rx ry ⟨i,j,rfl,rfl,fin0 N K rfl⟩
  | _=>exact Zf K
 | _=>cases y<;>exact Zf K
theorem o_le:OpI ce X (compareOp .LtE) cLe:=by
 intro pins s σ H ι σi h x y v u Q E N rx ry K
 obtain⟨xv,rx,qx⟩:=rx
 obtain⟨yv,ry,qy⟩:=ry
 cases x with
 | int i =>
  cases y with
  | int j =>
   have e1:xv=.int i:=qx
   have e2:yv=.int j:=qy
   subst e1 e2
   exact Jab (op_le (X:=X.wish E)) N.inv rx ry ⟨i,j,rfl,rfl,fin0 N K rfl⟩
  | _=>exact Zf K
 | str i =>
  cases y with
  | str j =>
   have e1:xv=.str i:=qx
   have e2:yv=.str j:=qy
   subst e1 e2
   obtain⟨t,rfl⟩:=rx
   obtain⟨t',rfl⟩:=ry
   exact PySem.P.le_str (fin0 N K rfl _ s N.inv rfl)
  | _=>exact Zf K
 | _=>cases y<;>exact Zf K
theorem o_gt:OpI ce X (compareOp .Gt) cGt:=by
 intro pins s σ H ι σi h x y v u Q E N rx ry K
 obtain⟨xv,rx,qx⟩:=rx
 obtain⟨yv,ry,qy⟩:=ry
 cases x with
 | int i =>
  cases y with
  | int j =>
   have e1:xv=.int i:=qx
   have e2:yv=.int j:=qy
   subst e1 e2
   exact Jab (op_gt (X:=X.wish E)) N.inv rx ry ⟨i,j,rfl,rfl,fin0 N K rfl⟩
  | _=>exact Zf K
 | _=>cases y<;>exact Zf K
theorem o_ge:OpI ce X (compareOp .GtE) cGe:=by
 intro pins s σ H ι σi h x y v u Q E N rx ry K
 obtain⟨xv,rx,qx⟩:=rx
 obtain⟨yv,ry,qy⟩:=ry
 cases x with
 | int i =>
  cases y with
  | int j =>
   have e1:xv=.int i:=qx
   have e2:yv=.int j:=qy
   subst e1 e2
   exact Jab (op_ge (X:=X.wish E)) N.inv rx ry ⟨i,j,rfl,rfl,fin0 N K rfl⟩
  | _=>exact Zf K
 | _=>cases y<;>exact Zf K
noncomputable def tru:IV->IH->Res Bool
 | .non,h=>.ok false h
 | .bl b,h=>.ok b h
 | .int i,h=>.ok (i != 0) h
 | .str x,h=>if x.length<=sizeLine then .ok ((x.length:Int) != 0) h else .stuck
 | .tup xs,h=>.ok (!xs.isEmpty) h
 | .rol xs,h=>.ok (!xs.isEmpty) h
 | .ref i,h=>match h[i]? with
  | some (.lst xs)=>.ok (!xs.isEmpty) h
  | some (.dct kvs)=>.ok (!kvs.isEmpty) h
  | _=>.stuck
theorem RVs.empty {K:W.Frag}{ι:List Addr}{H:Hp}{xs:List IV}{vs:List V}(r:RVs K ι H xs vs):vs.isEmpty=xs.isEmpty:=by
 have:=r.length
 cases xs<;>cases vs<;>simp_all
theorem RPs.empty {κ:Type}{K:W.Frag}{ι:List Addr}{H:Hp}{xs:List (κ×IV)}{vs:List (κ×V)}(r:RPs K ι H xs vs):vs.isEmpty=xs.isEmpty:=by
 have:=r.length
 cases xs<;>cases vs<;>simp_all
theorem finB {pins:List (Addr×Obj)}{s:Shared}{σ:L2.St}{H:Hp}{ι:List Addr}{σi:ISt}{h:IH}{c:Bool}{Q:Bool->Shared->Prop}{E:Value->Shared->Prop}(N:Now ce X pins ι σi h σ H s) (K:Kont ce X RB pins ι σi σ H (.ok c h) Q E) :
  ∀s',Inv X pins σ H s'->Q c s':=λ s' I=>K c s' H ι ⟨I,N.rel,N.st⟩ .refl rfl
theorem Jpn:TrI ce X tru:=by
 intro pins s σ H ι σi h x v Q E N rx K
 obtain⟨xv,rx,qx⟩:=rx
 cases x with
 | non =>
  have e1:xv=.non:=qx
  subst e1
  exact Jd6 (Ji0 (X:=X.wish E)) N.inv rx ⟨_,rfl,finB N K⟩
 | bl b =>
  have e1:xv=.bl b:=qx
  subst e1
  exact Jd6 (Ji0 (X:=X.wish E)) N.inv rx ⟨_,rfl,finB N K⟩
 | int i =>
  have e1:xv=.int i:=qx
  subst e1
  exact Jd6 (Ji0 (X:=X.wish E)) N.inv rx ⟨_,rfl,finB N K⟩
 | str y =>
  have e1:xv=.str y:=qx
  subst e1
  dsimp only[tru] at K
  split at K
  ·rename_i hz
   exact Jd6 (Ji0 (X:=X.wish E)) N.inv rx ⟨_,⟨hz,rfl⟩,finB N K⟩
  ·exact Zf K
 | tup xs =>
  obtain⟨a,vs,e1,sa,ra⟩:=qx
  subst e1
  exact Jd6 (Ji0 (X:=X.wish E)) N.inv rx ⟨!xs.isEmpty,.inr (.inl ⟨vs,sa,by rw[ra.empty]⟩),finB N K⟩
 | rol xs =>
  obtain⟨a,vs,e1,sa,ra⟩:=qx
  subst e1
  exact Jd6 (Ji0 (X:=X.wish E)) N.inv rx ⟨!xs.isEmpty,.inl ⟨vs,sa.sq,by rw[ra.empty]⟩,finB N K⟩
 | ref i =>
  obtain⟨a,e1,ha⟩:=qx
  subst e1
  dsimp only[tru] at K
  cases hi:h[i]? with
  | none=>rw[hi] at K;exact Zf K
  | some oi =>
   rw[hi] at K
   cases oi with
   | lst xs =>
    obtain⟨vs,e1,r1⟩:=N.at hi ha
    exact Jd6 (Ji0 (X:=X.wish E)) N.inv rx ⟨!xs.isEmpty,.inl ⟨vs,SqL.of e1,by rw[r1.empty]⟩,finB N K⟩
   | dct kvs =>
    obtain⟨vs,e1,r1⟩:=N.at hi ha
    exact Jd6 (Ji0 (X:=X.wish E)) N.inv rx ⟨!kvs.isEmpty,.inr (.inr ⟨vs,e1,by rw[r1.empty]⟩),finB N K⟩
   | _=>exact Zf K
noncomputable def eTup (a:A1):E1:=λ σ h=>(a σ h).bind λ xs h1=>if xs.length<=sizeLine then .ok (.tup xs) h1 else .stuck
noncomputable def eLst (a:A1):E1:=λ σ h=>(a σ h).bind λ xs h1=>if xs.length<=sizeLine then .ok (.ref h1.length) (h1++[.lst xs]) else .stuck
variable {es:List Expr}{mr:A1}{pos:Pos}
theorem i_tup {x1} (hr:PAi ce X es mr):PEi ce X (.Tuple es x1 pos) (eTup mr):=λ pins s σ H ι σi h Q E N K=>by
 refine wpAny_Tuple_spliced ((hr pos).run N K λ xs h1 us s1 H1 ι1 N1 n1 r1 K1=>?_)
 change Kont ce X RU pins ι1 σi σ H1 (if xs.length<=sizeLine then _ else _) Q E at K1
 split at K1
 ·rename_i hz
  obtain⟨vs,rv,qs⟩:=r1
  have hl:=rv.length
  have hl2:=qs.length
  have hf:H1 s1.heap.objs.size=none:=N1.inv.hok.fresh (Nat.le_refl _)
  refine⟨by rw[<- hl,hl2];exact hz,?_⟩
  exact finT N1 K1 s1.heap.objs.size hf qs _ _ (N1.inv.laid (t':=s1.toks) (λ b u e=>Heap.get?_push_of_some _ e) (Nat.le_refl _) ⟨by rw[hl2];exact hz,us,rv,⟨_,Heap.get?_push_size _ rfl,rfl,_,rfl⟩⟩) rfl
 ·exact Zf K1
theorem i_lst (hr:PAi ce X es mr):PEi ce X (.List es pos) (eLst mr):=λ pins s σ H ι σi h Q E N K=>by
 refine wpAny_List_spliced ((hr pos).run N K λ xs h1 us s1 H1 ι1 N1 n1 r1 K1=>?_)
 change Kont ce X RU pins ι1 σi σ H1 (if xs.length<=sizeLine then _ else _) Q E at K1
 split at K1
 ·rename_i hz
  obtain⟨vs,rv,qs⟩:=r1
  have hl:=rv.length
  have hl2:=qs.length
  have hf:H1 s1.heap.objs.size=none:=N1.inv.hok.fresh (Nat.le_refl _)
  refine⟨by rw[<- hl,hl2];exact hz,?_⟩
  exact finA N1 K1 s1.heap.objs.size hf ⟨_,Jf,RVs.new hf qs⟩ _ _ (N1.inv.laid (t':=s1.toks) (λ b u e=>Heap.get?_push_of_some _ e) (Nat.le_refl _) ⟨by rw[hl2];exact hz,us,0,rv,Heap.get?_push_size _ rfl⟩) rfl
 ·exact Zf K1
end
section
variable {prog:Program}{w:World}{A:Around}{E:Value->Shared->Prop}{s:Shared}
theorem Jn3 {it t:Addr}{items:Array Value}(hne:t≠it):∀(n i:Nat) (s:Shared) (Q:List Value->Shared->Prop),s.heap.IsListIter it t i->s.heap.IsList t items->i+n<=items.size ->
  (∀h',h'.IsListIter it t (i+n)->Heap.SameBut it s.heap h'->Q ((items.toList.drop i).take n) { s with heap:=h' })->wpAny (model prog w) A (draw (.ref it) n) Q E s
 | 0,i,s,Q,hit,_,_,hQ=>by
  show wpAny _ _ (pure []) Q E s
  exact wpAny_pure (by simpa using hQ s.heap hit (Heap.SameBut.refl ..))
 | n+1,i,s,Q,hit,ht,hle,hQ=>by
  have hlt:i<items.size:=by omega
  show wpAny _ _ (pyNext (.ref it)>>=_) Q E s
  refine wpAny_bind (wpAny_pyNext_list_item hit ht (x:=items[i]) (by simp[hlt]) λ h₁ hit₁ hs₁=>?_)
  refine wpAny_bind (wpAny_holding (Jn3 hne n (i+1) _ _ hit₁ (ht.extBut hs₁.extBut hne) (by omega) λ h₂ hit₂ hs₂=>wpAny_pure ?_))
  have hd:items.toList.drop i=items[i]::items.toList.drop (i+1):=by simp[List.drop_eq_getElem_cons,hlt]
  have:=hQ h₂ (by rw[show i+(n+1)=i+1+n by omega];exact hit₂) (hs₁.trans hs₂)
  rw[hd,List.take_succ_cons] at this
  exact this
theorem Ji7 {t:Addr}{items:Array Value}{Q:List Value->Shared->Prop}(hh:A.handled=none) (ht:s.heap.IsList t items)
  (hQ:∀h',Heap.ExtBut s.heap.objs.size s.heap h'->Q items.toList { s with heap:=h' }):wpAny (model prog w) A (unpackItems (.ref t) items.size none) Q E s:=by
 have hlt:t≠s.heap.objs.size:=by obtain⟨o,ho,_⟩:=ht;exact Nat.ne_of_lt (Heap.lt_size ho)
 unfold unpackItems
 refine wpAny_bind ?_
 ·unfold notIterableAtAll
  refine wpAny_bind (wpAny_specialOf ht.typeIs slot_list_iter.lookup ?_)
  refine wpAny_pure ?_
  simp only[Bool.false_eq_true,if_false]
  refine wpAny_bind (wpAny_holding (wpAny_pyIter_list ht ?_))
  refine wpAny_bind (wpAny_holding (Jn3 hlt items.size 0 _ _ ⟨_,Heap.get?_push_size _ rfl,rfl,rfl⟩ (ht.push _) (by omega) λ h₁ hit₁ hs₁=>?_))
  have hall:List.take items.size (List.drop 0 items.toList)=items.toList:=by
   rw[List.drop_zero];exact List.take_of_length_le (by simp)
  rw[hall]
  rw[if_neg (by simp)]
  have ht₁:h₁.IsList t items:=(ht.push _).extBut hs₁.extBut hlt
  refine wpAny_bind (wpAny_holding (wpAny_pyNext_list_end hh hit₁ ht₁ (by simp) λ h₂ he₂=>?_))
  simp only[Option.isSome_none,Bool.false_eq_true,if_false]
  refine wpAny_pure (hQ h₂ λ b o hb e=>he₂ b o hb (hs₁.extBut b o hb (Heap.get?_push_of_some _ e)))
theorem Jhf {env:Env}{elts:List Expr}{x1} {pos:Pos}{t:Addr}{items:Array Value}{Q:Unit->Shared->Prop}(hh:A.handled=none) (ht:s.heap.IsList t items)
  (hn:(assignEach elts env).length=items.size) (hstar:(assignEach elts env).findIdx? (·.1)=none)
  (h:∀h',Heap.ExtBut s.heap.objs.size s.heap h'->wpAny (model prog w) A (assignInOrder ((assignEach elts env).map (·.2)) items.toList) Q E { s with heap:=h' }) :
  wpAny (model prog w) A (assign (.Tuple elts x1 pos) env (.ref t)) Q E s:=by
 rw[assign_Tuple]
 refine wpAny_bind (wpAny_standAt ?_)
 unfold unpack
 rw[hn,hstar]
 exact wpAny_bind (wpAny_holding (Ji7 hh ht h))
end
noncomputable abbrev S1:=ISt->IH->SRes
structure Noted (L:Addr) (fs:List Addr) (e:Addr) (h h3:Heap):Prop where
 ex:∃oe vs T ts,h.get? e=some oe/\oe.data=.fields vs/\1<vs.size/\h3.get? e=some (Obj.mapFields (·.setIfInBounds 1 (.ref T)) oe)/\T≠e/\h.get? T=none/\h3.get? T=some { cls:=.type "traceback",dict:=none,data:=.fields ts }/\ts[3]?=some (rawInt L)
 slot:∀b o,h.get? b=some o->b≠e->∃sl,h3.get? b=some { o with slots:=sl }
 keep:∀b o,h.get? b=some o->b≠e->b∉fs->h3.get? b=some o
noncomputable def Fly (L:Addr) (fs:List Addr) (e:Addr) (s s1:Shared):Prop:=s1=s∨∃h',s1={ s with heap:=h' }/\Noted L fs e s.heap h'
noncomputable def Jbf (ce:Str->Option Addr) (X:Cx) (pins:List (Addr×Obj)) (ι:List Addr) (H:Hp) (r:SRes) (Q:Flow->Shared->Prop) (E:Value->Shared->Prop):Prop :=
 match r with
 | .next σi' h'=>∀s' σ' H' ι',Now ce X pins ι' σi' h' σ' H' s'->Nxt ι H ι' H'->Q .next s'
 | .brk σi' h'=>∀s' σ' H' ι',Now ce X pins ι' σi' h' σ' H' s'->Nxt ι H ι' H'->Q .brk s'
 | .cont σi' h'=>∀s' σ' H' ι',Now ce X pins ι' σi' h' σ' H' s'->Nxt ι H ι' H'->Q .cont s'
 | .ret v h'=>∀u s' σi' σ' H' ι',Now ce X pins ι' σi' h' σ' H' s'->Nxt ι H ι' H'->RU X.K ι' H' v u->Q (.ret u) s'
 | .exc n σi' h'=>∀pl a s' σ' H' ι',Now ce X (pins++pl) ι' σi' h' σ' H' s'->Nxt ι H ι' H'->ι'[n]?=some a->∀s1,Fly X.env.locals (frs X.stack) a s' s1->E (.ref a) s1
 | .stuck=>False
theorem Jbf.mono {ce:Str->Option Addr}{X:Cx}{pins:List (Addr×Obj)}{ι ι':List Addr}{H H':Hp}{r:SRes}{Q:Flow->Shared->Prop}{E:Value->Shared->Prop}(k:Jbf ce X pins ι H r Q E) (n:Nxt ι H ι' H'):Jbf ce X pins ι' H' r Q E:=by
 cases r with
 | next σ h=>exact λ s' σ' H2 ι2 N n2=>k s' σ' H2 ι2 N (n.trans n2)
 | brk σ h=>exact λ s' σ' H2 ι2 N n2=>k s' σ' H2 ι2 N (n.trans n2)
 | cont σ h=>exact λ s' σ' H2 ι2 N n2=>k s' σ' H2 ι2 N (n.trans n2)
 | ret v h=>exact λ u s' σi' σ' H2 ι2 N n2=>k u s' σi' σ' H2 ι2 N (n.trans n2)
 | exc m σ h=>exact λ pl a s' σ' H2 ι2 N n2=>k pl a s' σ' H2 ι2 N (n.trans n2)
 | stuck=>exact k
noncomputable def PSi (ce:Str->Option Addr) (X:Cx) (t:Sem Flow) (m:S1):Prop :=
 ∀(pins:List (Addr×Obj)) (s:Shared) (σ:L2.St) (H:Hp) (ι:List Addr) (σi:ISt) (h:IH) (Q:Flow->Shared->Prop) (E:Value->Shared->Prop),Now ce X pins ι σi h σ H s->Jbf ce X pins ι H (m σi h) Q E->wpAny (model X.prog X.w) X.A t Q E s
noncomputable abbrev PS1 (ce:Str->Option Addr) (X:Cx) (st:Stmt) (m:S1):Prop:=PSi ce X (exec st X.env) m
noncomputable abbrev PS2 (ce:Str->Option Addr) (X:Cx) (sts:List Stmt) (m:S1):Prop:=PSi ce X (execs sts X.env) m
noncomputable def sNil:S1:=λ σ h=>.next σ h
noncomputable def sSeq (a b:S1):S1:=λ σ h=>match a σ h with
 | .next σ' h'=>b σ' h'
 | r=>r
noncomputable def J1s:S1:=λ σ h=>.next σ h
noncomputable def Jzn:S1:=λ σ h=>.brk σ h
noncomputable def J4n:S1:=λ σ h=>.cont σ h
noncomputable def rS {α:Type}(σ:ISt) (r:Res α) (k:α->IH->SRes):SRes:=match r with
 | .ok a h=>k a h
 | .exc n h=>.exc n σ h
 | .stuck=>.stuck
noncomputable def Jg9 (e:E1):S1:=λ σ h=>rS σ (e σ h) λ _ h'=>.next σ h'
noncomputable def sRet (e:E1):S1:=λ σ h=>rS σ (e σ h) λ v h'=>.ret v h'
noncomputable def J1t:S1:=λ _ h=>.ret .non h
noncomputable def sIf (t:T1) (a b:S1):S1:=λ σ h=>rS σ (t σ h) λ c h'=>if c then a σ h' else b σ h'
noncomputable def sSet (i:Nat) (e:E1):S1:=λ σ h=>rS σ (e σ h) λ v h'=>.next (σ.set i (some v)) h'
section
variable {ce:Str->Option Addr}{X:Cx}{st:Stmt}{rest:List Stmt}{m m1 m2:S1}{e:Expr}{me:E1}{pos:Pos}
theorem krun {α β:Type}{R:REL α β}{t:Sem β}{mm:ISt->IH->Res α}(p:PX ce X R t mm){pins:List (Addr×Obj)}{s:Shared}{σ:L2.St}{H:Hp}{ι:List Addr}{σi:ISt}{h:IH}(N:Now ce X pins ι σi h σ H s){g:α->IH->SRes}{Q:Flow->Shared->Prop}{E:Value->Shared->Prop}{Q1:β->Shared->Prop}
  (K:Jbf ce X pins ι H (rS σi (mm σi h) g) Q E)
  (step:∀x h1 u s1 H1 ι1,Now ce X pins ι1 σi h1 σ H1 s1->Nxt ι H ι1 H1->R X.K ι1 H1 x u->Jbf ce X pins ι1 H1 (g x h1) Q E->Q1 u s1):wpAny (model X.prog X.w) X.A t Q1 E s:=by
 refine p pins s σ H ι σi h Q1 E N ?_
 cases e:mm σi h with
 | ok v h' =>
  rw[e] at K
  exact λ u s' H' ι' N' n' r=>step v h' u s' H' ι' N' n' r (Jbf.mono (r:=g v h') K n')
 | exc n h' =>
  rw[e] at K
  exact λ pl a s' H' ι' N' n' q=>K pl a s' σ H' ι' N' n' q s' (.inl rfl)
 | stuck =>
  rw[e] at K
  exact K
theorem J4l:PS2 ce X [] sNil:=λ _ s σ H ι _ _ _ _ N K=>wpAny_execs_nil (K s σ H ι N .refl)
theorem J1o (h1:PS1 ce X st m1) (h2:PS2 ce X rest m2):PS2 ce X (st::rest) (sSeq m1 m2):=by
 intro pins s σ H ι σi h Q E N K
 refine wpAny_execs_cons (h1 pins s σ H ι σi h _ E N ?_)
 unfold sSeq at K
 cases e:m1 σi h with
 | next σ' h' =>
  rw[e] at K
  exact λ s' σ2 H' ι' N' n'=>h2 pins s' σ2 H' ι' σ' h' Q E N' (Jbf.mono (r:=m2 σ' h') K n')
 | brk σ' h'=>rw[e] at K;exact K
 | cont σ' h'=>rw[e] at K;exact K
 | ret v h'=>rw[e] at K;exact K
 | exc n σ' h'=>rw[e] at K;exact K
 | stuck=>rw[e] at K;exact K
theorem J4m (h1:PS1 ce X st m1):PS2 ce X [st] m1:=by
 intro pins s σ H ι σi h Q E N K
 refine wpAny_execs_cons (h1 pins s σ H ι σi h _ E N ?_)
 cases e:m1 σi h with
 | next σ' h' =>
  rw[e] at K
  exact λ s' σ2 H' ι' N' n'=>wpAny_execs_nil (K s' σ2 H' ι' N' n')
 | brk σ' h'=>rw[e] at K;exact K
 | cont σ' h'=>rw[e] at K;exact K
 | ret v h'=>rw[e] at K;exact K
 | exc n σ' h'=>rw[e] at K;exact K
 | stuck=>rw[e] at K;exact K
theorem J4s:PS1 ce X (.Pass pos) J1s:=λ _ s σ H ι _ _ _ _ N K=>wpAny_Pass (K s σ H ι N .refl)
theorem J1u:PS1 ce X (.Break pos) Jzn:=λ _ s σ H ι _ _ _ _ N K=>wpAny_Break (K s σ H ι N .refl)
theorem J4q:PS1 ce X (.Continue pos) J4n:=λ _ s σ H ι _ _ _ _ N K=>wpAny_Continue (K s σ H ι N .refl)
theorem J4r (he:PEi ce X e me) (hs:swapsWith e none pos.line X.env=pure false:=by rfl):PS1 ce X (.Expr e pos) (Jg9 me):=λ pins s σ H ι σi h Q E N K =>
 wpAny_Expr_any (krun he N K λ x h1 u s1 H1 ι1 N1 n1 r1 K1=>K1 s1 σ H1 ι1 N1 .refl) N.inv.quiet hs
theorem s_ret (he:PEi ce X e me):PS1 ce X (.Return (some e) pos) (sRet me):=λ pins s σ H ι σi h Q E N K =>
 wpAny_Return_some (krun he N K λ x h1 u s1 H1 ι1 N1 n1 r1 K1=>K1 u s1 σi σ H1 ι1 N1 .refl r1)
theorem J4t:PS1 ce X (.Return none pos) J1t:=λ pins s σ H ι σi h Q E N K=>wpAny_Return_none (K .none s σi σ H ι N .refl ⟨.non,rfl,rfl⟩)
theorem s_if {c:Expr}{a b:List Stmt}{mt:T1}(hc:PTi ce X c mt) (ha:PS2 ce X a m1) (hb:PS2 ce X b m2):PS1 ce X (.If c a b pos) (sIf mt m1 m2):=λ pins s σ H ι σi h Q E N K =>
 wpAny_If (krun hc N K λ x h1 u s1 H1 ι1 N1 n1 r1 K1=>by
  have r':u=x:=r1
  subst r'
  cases u with
  | true=>exact ha pins s1 σ H1 ι1 σi h1 Q E N1 K1
  | false=>exact hb pins s1 σ H1 ι1 σi h1 Q E N1 K1)
theorem J4u {i:Nat}{x:Str}{pos':Pos}(hN:X.N.Nodup) (he:PEi ce X e me) (hi:X.N[i]?=some x:=by rfl) (hx:Loc X.env.scope x:=by assumption) (hs:swapsWith e (some (.Name x pos')) pos.line X.env=pure false:=by rfl)
  (hf:X.fn x=true∨X.env.scope.names.lookup x=some .local:=by assumption):PS1 ce X (.Assign [.Name x pos'] e pos) (sSet i me):=λ pins s σ H ι σi h Q E N K =>
 wpAny_Assign_Name (krun he N K λ v h1 u s1 H1 ι1 N1 n1 r1 K1=>by
  obtain⟨w,rw',q⟩:=r1
  exact Jji N1.inv hN hi hx rw' (λ s2 I2=>K1 s2 _ H1 ι1 ⟨I2,N1.rel,N1.st.set i q⟩ .refl) hf) hs
noncomputable abbrev G1:=IV->ISt->IH->SRes
noncomputable def PGi (ce:Str->Option Addr) (X:Cx) (tg:Expr) (g:G1):Prop :=
 ∀(pins:List (Addr×Obj)) (s:Shared) (σ:L2.St) (H:Hp) (ι:List Addr) (σi:ISt) (h:IH) (v:IV) (u:Value) (Q:Flow->Shared->Prop) (E:Value->Shared->Prop),Now ce X pins ι σi h σ H s->RU X.K ι H v u->Jbf ce X pins ι H (g v σi h) Q E ->
  wpAny (model X.prog X.w) X.A (assign tg X.env u) (λ _ s'=>Q .next s') E s
noncomputable def gNm (i:Nat):G1:=λ v σ h=>.next (σ.set i (some v)) h
theorem g_nm {i:Nat}{x:Str}(hN:X.N.Nodup) (hi:X.N[i]?=some x:=by rfl) (hx:Loc X.env.scope x:=by assumption) (hf:X.fn x=true∨X.env.scope.names.lookup x=some .local:=by assumption):PGi ce X (.Name x pos) (gNm i):=by
 intro pins s σ H ι σi h v u Q E N r K
 obtain⟨w,rw',q⟩:=r
 exact wpAny_assign_Name (Jji N.inv hN hi hx rw' (λ s2 I2=>K s2 _ H ι ⟨I2,N.rel,N.st.set i q⟩ .refl) hf)
noncomputable def PGsi (ce:Str->Option Addr) (X:Cx) (ts:List Expr) (g:List IV->ISt->IH->SRes):Prop :=
 ∀(pins:List (Addr×Obj)) (s:Shared) (σ:L2.St) (H:Hp) (ι:List Addr) (σi:ISt) (h:IH) (vs:List IV) (us:List Value) (Q:Flow->Shared->Prop) (E:Value->Shared->Prop),Now ce X pins ι σi h σ H s->RUs X.K ι H vs us->Jbf ce X pins ι H (g vs σi h) Q E ->
  wpAny (model X.prog X.w) X.A (assignInOrder ((assignEach ts X.env).map (·.2)) us) (λ _ s'=>Q .next s') E s
noncomputable def gN:List IV->ISt->IH->SRes
 | [],σ,h=>.next σ h
 | _::_,_,_=>.stuck
noncomputable def gC (g:G1) (r:List IV->ISt->IH->SRes):List IV->ISt->IH->SRes
 | v::vs,σ,h=>match g v σ h with
  | .next σ' h'=>r vs σ' h'
  | .exc n σ' h'=>.exc n σ' h'
  | _=>.stuck
 | [],_,_=>.stuck
theorem J27:PGsi ce X [] gN:=by
 intro pins s σ H ι σi h vs us Q E N r K
 cases vs with
 | nil =>
  obtain⟨xs,rv,q⟩:=r
  have e1:xs=[]:=q
  subst e1
  cases rv
  exact assignInOrder_nil (K s σ H ι N .refl)
 | cons v vs=>exact Zf K
theorem J0p {tg:Expr}{ts:List Expr}{g:G1}{r:List IV->ISt->IH->SRes}(h1:PGi ce X tg g) (h2:PGsi ce X ts r)
  (hs:(assignEach (tg::ts) X.env).map (·.2)=assign tg X.env::(assignEach ts X.env).map (·.2):=by rfl):PGsi ce X (tg::ts) (gC g r):=by
 intro pins s σ H ι σi h vs us Q E N ru K
 cases vs with
 | nil=>exact Zf K
 | cons v vs =>
  obtain⟨xs,rv,x,xr,e1,q,qs⟩:=ru
  subst e1
  cases rv with
  | cons r1 r2 =>
   rw[hs]
   refine assignInOrder_cons (h1 pins s σ H ι σi h v _ (λ f s'=>wpAny (model X.prog X.w) X.A (assignInOrder ((assignEach ts X.env).map (·.2)) _) (λ _ s'=>Q .next s') E s') E N ⟨x,r1,q⟩ ?_)
   have K':Jbf ce X pins ι H (match g v σi h with|.next σ' h'=>r vs σ' h'|.exc n σ' h'=>.exc n σ' h'|_=>.stuck) Q E:=K
   cases e:g v σi h with
   | next σ' h' =>
    rw[e] at K'
    exact λ s' σ2 H' ι' N' n'=>h2 pins s' σ2 H' ι' σ' h' vs _ Q E N' ⟨xr,r2,RVs.mono n' _ _ qs⟩ (Jbf.mono (r:=r vs σ' h') K' n')
   | exc n σ' h'=>rw[e] at K';exact K'
   | _=>rw[e] at K';exact(show False from K').elim
noncomputable def gTp (n:Nat) (g:List IV->ISt->IH->SRes):G1:=λ v σ h=>match v with
 | .tup xs=>if xs.length=n then g xs σ h else .stuck
 | .ref i=>(match h[i]? with
  | some (.lst xs)=>if xs.length=n then g xs σ h else .stuck
  | _=>.stuck)
 | _=>.stuck
theorem g_tup {es:List Expr}{k n:Nat}{g:List IV->ISt->IH->SRes}(hc:X.calm=true) (hg:PGsi ce X es g) (hn:(assignEach es X.env).length=n:=by rfl) (hst:(assignEach es X.env).findIdx? (·.1)=none:=by rfl):PGi ce X (.Tuple es k pos) (gTp n g):=by
 intro pins s σ H ι σi h v u Q E N r K
 obtain⟨w,rw',q⟩:=r
 cases v with
 | tup xs =>
  obtain⟨a,vs,e1,sa,ra⟩:=q
  subst e1
  cases rw'
  unfold gTp at K
  dsimp only at K
  split at K
  ·rename_i hl
   obtain⟨its,rv,ht,hz⟩:=N.inv.tuple sa
   have l1:=ra.length
   have l2:=rv.length
   refine assign_Tuple_tuple (N.inv.ok.hd hc) ht (by simp only[List.size_toArray];omega) hst λ h' hx=>?_
   have I1:Inv X pins σ H { s with heap:=h' }:=N.inv.kept (t':=s.toks) λ b o e=>hx b o (Nat.ne_of_lt (Heap.lt_size e)) e
   exact hg pins _ σ H ι σi h xs _ Q E ⟨I1,N.rel,N.st⟩ ⟨vs,by simpa using rv,ra⟩ K
  ·exact Zf K
 | ref i =>
  obtain⟨a,e1,ha⟩:=q
  subst e1
  cases rw'
  unfold gTp at K
  dsimp only at K
  cases hi:h[i]? with
  | none=>rw[hi] at K;exact Zf K
  | some ob =>
   rw[hi] at K
   cases ob with
   | lst xs =>
    dsimp only at K
    split at K
    ·rename_i hl
     obtain⟨vs,g1,ra⟩:=N.at hi ha
     obtain⟨its,rv,ht,hz⟩:=N.inv.list (SqL.of g1)
     have l1:=ra.length
     have l2:=rv.length
     refine Jhf (N.inv.ok.hd hc) ht.isList (by simp only[List.size_toArray];omega) hst λ h' hx=>?_
     have I1:Inv X pins σ H { s with heap:=h' }:=N.inv.kept (t':=s.toks) λ b o e=>hx b o (Nat.ne_of_lt (Heap.lt_size e)) e
     exact hg pins _ σ H ι σi h xs _ Q E ⟨I1,N.rel,N.st⟩ ⟨vs,by simpa using rv,ra⟩ K
    ·exact Zf K
   | _=>exact Zf K
 | _=>exact Zf K
noncomputable def sAsg (e:E1) (g:G1):S1:=λ σ h=>rS σ (e σ h) λ v h'=>g v σ h'
theorem s_asg {tg:Expr}{g:G1}(he:PEi ce X e me) (hg:PGi ce X tg g) (hs:swapsWithSole [tg] e pos.line X.env=pure false:=by rfl) (hw:swappedStores [tg] e X.env=pure none:=by rfl)
  (h1:(assignEach [tg] X.env).map (·.2)=[assign tg X.env]:=by rfl):PS1 ce X (.Assign [tg] e pos) (sAsg me g):=λ pins s σ H ι σi h Q E N K =>
 wpAny_Assign_stores (krun he N K λ v h2 u s1 H1 ι1 N1 n1 r1 K1=>by
  rw[h1]
  exact hg pins s1 σ H1 ι1 σi h2 v u Q E N1 r1 K1) hs hw
end
theorem ExF.ok {P:Program}{w:World}{H:Hp}{h:Heap}{a C:Addr}{tv:Value}{dd:Option Addr}{oe:Obj}{vs:Array Value}(e:h.get? a=some oe) (c:oe.cls=.ref C) (d:oe.data=.fields vs) (v:vs[1]?=some tv) (v2:vs[2]?=some .none) (v3:oe.dict=dd):Jas P w H h a (ExF a C tv dd) :=
 ⟨⟨oe,vs,e,c,d,v,v2,v3⟩,⟨oe,e⟩,λ _ _ ⟨o,us,e1,r⟩ k=>⟨o,us,k _ e1,r⟩⟩
theorem ExF.get {P:Program}{w:World}{H:Hp}{h:Heap}{a C:Addr}{tv:Value}{d:Option Addr}(x:HOk P w H h) (e:H a=some (ExF a C tv d)):∃oe vs,h.get? a=some oe/\oe.cls=.ref C/\oe.data=.fields vs/\vs[1]?=some tv/\vs[2]?=some .none/\oe.dict=d :=
 (x a _ e).1
theorem Juu (o:Obj) (f:Array Value->Array Value):(o.mapFields f).dict=o.dict:=by
 unfold Obj.mapFields
 split<;>rfl
theorem J32 {P:Program}{w:World}{H:Hp}{h:Heap}{a:Addr}:∀{o:HO},Jas P w H h a o->∃u,h.get? a=some u
 | .lst _,⟨_,_,_,_,e⟩=>⟨_,e⟩
 | .tup _,⟨_,_,_,⟨_,e,_⟩⟩=>⟨_,e⟩
 | .dK _,⟨_,_,_,_,o,_,_,e,_⟩=>⟨o,e⟩
 | .dT _,⟨_,_,_,_,o,_,_,e,_⟩=>⟨o,e⟩
 | .set _ _,⟨o,_,_,_,e,_⟩=>⟨o,e⟩
 | .ins _ _ _,⟨_,_,_,e,_⟩=>⟨_,e⟩
 | .own _,⟨_,e⟩=>⟨_,e⟩
 | .xd _,⟨_,⟨_,_,_,e,_⟩,_⟩=>⟨_,e⟩
 | .rng _ _,⟨_,_,_,e⟩=>⟨_,e⟩
 | .frz _ _,⟨e,_⟩=>⟨_,e⟩
 | .tbl _,e=>⟨_,(show h.get? a=some _ from e)⟩
 | .met _ _,e=>⟨_,(show h.get? a=some _ from e)⟩
 | .ext _,⟨_,⟨_,e⟩,_⟩=>⟨_,e⟩
theorem Jwp {h:Heap}{T:Addr}{oT:Obj}{ts:Array Value}{v:Value}(e:h.get? T=some oT) (d:oT.data=.fields ts) (q:ts[3]?=some v):(h.update T (Obj.mapFields (·.setIfInBounds 3 v))).get? T=some oT:=by
 have es:ts.setIfInBounds 3 v=ts:=by
  refine Array.ext (by simp) λ i h1 h2=>?_
  rw[Array.getElem_setIfInBounds]
  split
  ·rename_i z
   subst z
   rw[Array.getElem?_eq_getElem h2] at q
   exact(Option.some.inj q).symm
  ·rfl
 have eo:Obj.mapFields (·.setIfInBounds 3 v) oT=oT:=by
  obtain⟨c,dd,dt,sl⟩:=oT
  have d:dt=.fields ts:=d
  subst d
  simp only[Obj.mapFields,es]
 rw[Heap.get?_update_self _ e (by rw[eo];exact Obj.isFreed_of_fields d),eo]
section
variable {X:Cx}{pins:List (Addr×Obj)}{σ:L2.St}{H:Hp}{s:Shared}{M:Model}{E:Value->Shared->Prop}{Q:Unit->Shared->Prop}{a C:Addr}{tv:Value}{d:Option Addr}{h3:Heap}{s1:Shared}
structure Past (X:Cx) (H:Hp) (h:Heap) (a C:Addr) (d:Option Addr) (T:Addr) (oT:Obj) (h':Heap):Prop where
 new:H T=none
 ne:T≠a
 fld:∃ts,oT.data=.fields ts/\ts[3]?=some .none
 un:Un (frs X.stack) [] H (upd (upd H T (.frz oT (.own 0))) a (ExF a C (.ref T) d)) h h'
 hok:HOk X.prog X.w (upd (upd H T (.frz oT (.own 0))) a (ExF a C (.ref T) d)) h'
theorem Jri (I:Inv X pins σ H s) (hs:X.stack=X.env::X.outer) (hf:X.env.frame=some X.env.locals) (ha:H a=some (ExF a C tv d)) (ht:TvOk H tv)
  (k:∀h3,Noted X.env.locals (frs X.stack) a s.heap h3->Q () { s with heap:=h3 }):wpAny M X.A (noteFrame (.ref a) X.env) Q E s:=by
 obtain⟨oe,vs,e1,e2,e3,e4,e5,e6⟩:=ExF.get I.hok ha
 have hfa:a∉frs X.stack:=λ z=>by rw[I.stkFree a z] at ha;cases ha
 have fr:=I.ok.frames
 have ff:s.heap.FunFrames X.base X.stack:=I.stack
 have len1:1<vs.size:=(Array.getElem?_eq_some_iff.mp e4).1
 have go:∀(h:Heap){head:Value}{hn:Bool},(∀b,h.get? b=s.heap.get? b)->wpAny M X.A (do let f<-frameOf X.env;let pl<-entryPlaceOf X.env.locals hn;let b<-EntryCells.newEntry head f .none (rawInt X.env.locals) .none pl;setField (.ref a) 1 b) Q E { s with heap:=h }:=by
  intro h head hn hh
  have ffh:h.FunFrames X.base X.stack:=ff.of_keeps λ b o q _=>⟨o,(hh b).trans q,rfl⟩
  rw[hs] at fr ffh
  refine wpAny_bind (wpAny_frameOf_fun (s:={ s with heap:=h }) fr ffh hf λ h1 so=>?_)
  have he1:h1.get? a=some oe:=(so.2.1 a (by rw[hs] at hfa;exact hfa)).trans ((hh a).trans e1)
  refine wpAny_bind (wpAny_entryPlaceOf λ pl hpl=>?_)
  unfold EntryCells.newEntry newFields
  refine wpAny_bind (wpAny_newObj_type ?_ (hpl.sizeOk5 _ _ _ _ _))
  have t3:([head,Value.ref X.env.locals,Value.none,rawInt X.env.locals,Value.none]++(if pl.isEmpty then List.replicate 6 Value.none else pl)).toArray[3]?=some (rawInt X.env.locals):=by simp
  generalize ([head,Value.ref X.env.locals,Value.none,rawInt X.env.locals,Value.none]++(if pl.isEmpty then List.replicate 6 Value.none else pl)).toArray=ts at t3 ⊢
  have lt2:∀b o,h1.get? b=some o->b≠h1.objs.size:=λ b o q=>Nat.ne_of_lt (Heap.lt_size q)
  have nT:h1.objs.size≠a:=Ne.symm (lt2 a _ he1)
  have up2:∀b o,h1.get? b=some o->(h1.push { cls:=.type "traceback",dict:=none,data:=.fields ts }).get? b=some o:=λ b o q=>Heap.get?_push_of_some _ q
  have gT2:(h1.push { cls:=.type "traceback",dict:=none,data:=.fields ts }).get? h1.objs.size=some { cls:=.type "traceback",dict:=none,data:=.fields ts }:=Heap.get?_push_size h1 rfl
  refine wpAny_setField (up2 _ _ he1) e3 len1 (k _ ⟨⟨oe,vs,h1.objs.size,ts,e1,e3,len1,Heap.get?_update_self _ (up2 _ _ he1) (Obj.isFreed_of_fields (Obj.data_mapFields e3 _)),nT,?_,(Heap.get?_update_other _ _ (Ne.symm nT)).trans gT2,t3⟩,λ b o q n=>?_,λ b o q n m=>?_⟩)
  ·cases q:s.heap.get? h1.objs.size with
   | none=>rfl
   | some o =>
    obtain⟨sl,z⟩:=so.2.2 _ _ ((hh _).trans q)
    exact absurd rfl (lt2 _ _ z)
  ·obtain⟨sl,z⟩:=so.2.2 _ _ ((hh b).trans q)
   exact⟨sl,(Heap.get?_update_other _ _ (Ne.symm n)).trans (up2 _ _ z)⟩
  ·exact(Heap.get?_update_other _ _ (Ne.symm n)).trans (up2 _ _ ((so.2.1 b (by rw[hs] at m;exact m)).trans ((hh b).trans q)))
 unfold noteFrame
 rw[hf]
 refine wpAny_bind (wpAny_field e1 e3 e4 ?_)
 rcases ht with rfl|⟨T,oT,ts,rfl,q1,q2,q3⟩
 ·rw[if_neg (by decide)]
  exact go s.heap λ _=>rfl
 ·have gT:s.heap.get? T=some oT:=(I.hok T _ q1).1
  rw[if_pos (by simp)]
  refine wpAny_bind (wpAny_field gT q2 q3 ?_)
  rw[if_neg (by simp[rawInt])]
  refine wpAny_bind (wpAny_setField gT q2 (Array.getElem?_eq_some_iff.mp q3).1 ?_)
  refine go _ λ b=>?_
  by_cases z:b=T
  ·subst z
   exact(Jwp gT q2 q3).trans gT.symm
  ·exact Heap.get?_update_other _ _ (Ne.symm z)
theorem Jke {A:Around}{env:Env}{fs:List Addr}{h:Heap}(hf:env.frame=some env.locals) (n:Noted env.locals fs a h h3) (q:Q () { s with heap:=h3 }):wpAny M A (noteFrame (.ref a) env) Q E { s with heap:=h3 }:=by
 obtain⟨⟨oe,vs,T,ts,g1,g2,g3,g4,g5,g6,g7,g8⟩,_,_⟩:=n
 unfold noteFrame
 rw[hf]
 refine wpAny_bind (wpAny_field (x:=.ref T) g4 (Obj.data_mapFields g2 _) (by simp[g3]) ?_)
 rw[if_pos (by simp)]
 refine wpAny_bind (wpAny_field g7 rfl g8 ?_)
 rw[if_pos (by simp)]
 exact wpAny_pure q
theorem Jsx {A:Around}{env:Env}{fs:List Addr}{h:Heap}(hf:env.frame=some env.locals) (n:Noted env.locals fs a h h3) (k:∀h4,Noted env.locals fs a h h4->E (.ref a) { s with heap:=h4 }):cameBackBy M A env E (.ref a) { s with heap:=h3 }:=by
 obtain⟨⟨oe,vs,T,ts,g1,g2,g3,g4,g5,g6,g7,g8⟩,sl,kp⟩:=n
 unfold cameBackBy
 refine wpAny_bind (wpAny_field (x:=.ref T) g4 (Obj.data_mapFields g2 _) (by simp[g3]) ?_)
 rw[if_neg (by simp)]
 rw[hf]
 unfold setFlight
 refine wpAny_bind (wpAny_field (x:=.ref T) g4 (Obj.data_mapFields g2 _) (by simp[g3]) ?_)
 rw[if_pos (by simp)]
 refine wpAny_setField g7 rfl (Array.getElem?_eq_some_iff.mp g8).1 ?_
 have up:∀b o,h3.get? b=some o->(h3.update T (Obj.mapFields (·.setIfInBounds 3 (rawInt env.locals)))).get? b=some o:=λ b o q=>by
  by_cases z:b=T
  ·subst z
   rw[g7] at q
   cases q
   exact Jwp g7 rfl g8
  ·exact(Heap.get?_update_other _ _ (Ne.symm z)).trans q
 exact k _ ⟨⟨oe,vs,T,ts,g1,g2,g3,up _ _ g4,g5,g6,up _ _ g7,g8⟩,λ b o q n=>let ⟨s',z⟩:=sl b o q n;⟨s',up _ _ z⟩,λ b o q n m=>up _ _ (kp b o q n m)⟩
theorem Jle {L:Addr}(I:Inv X pins σ H s) (ha:H a=some (ExF a C tv d)) (n:Noted L (frs X.stack) a s.heap h3) (k:∀T oT h',Past X H s.heap a C d T oT h'->Q () { s with heap:=h' }):wpAny M X.A (setFlight (.ref a) none) Q E { s with heap:=h3 }:=by
 obtain⟨⟨oe,vs,T,ts,g1,g2,g3,g4,g5,nT,g7,g8⟩,sl,kp⟩:=n
 obtain⟨oe',vs',x1,x2,x3,x4,x5,x6⟩:=ExF.get I.hok ha
 rw[g1] at x1
 cases x1
 rw[g2] at x3
 cases x3
 have hok:=I.hok
 have hfr:∀b∈frs X.stack,H b=none:=I.stkFree
 have hT:H T=none:=by
  cases q:H T with
  | none=>rfl
  | some u =>
   obtain⟨o,z⟩:=J32 (hok T u q)
   rw[nT] at z
   cases z
 have tz:3<ts.size:=(Array.getElem?_eq_some_iff.mp g8).1
 unfold setFlight
 refine wpAny_bind (wpAny_field (x:=.ref T) g4 (Obj.data_mapFields g2 _) (by simp[g3]) ?_)
 rw[if_pos (by simp)]
 refine wpAny_setField g7 rfl tz ?_
 have e1:=(Heap.get?_update_other h3 (Obj.mapFields (·.setIfInBounds 3 ((none:Option Addr).elim Value.none λ f=>rawInt f))) g5).trans g4
 have e7:=Heap.get?_update_self (Obj.mapFields (·.setIfInBounds 3 ((none:Option Addr).elim Value.none λ f=>rawInt f))) g7 (Obj.isFreed_of_fields (Obj.data_mapFields rfl _))
 have d7:=Obj.data_mapFields (o:={ cls:=.type "traceback",dict:=none,data:=.fields ts }) rfl (·.setIfInBounds 3 ((none:Option Addr).elim Value.none λ f=>rawInt f))
 have lt:∀b o,s.heap.get? b=some o->T≠b:=λ b o q z=>by rw[z,q] at nT;cases nT
 have keep:∀b o,s.heap.get? b=some o->b≠a->b∉frs X.stack->(h3.update T (Obj.mapFields (·.setIfInBounds 3 ((none:Option Addr).elim Value.none λ f=>rawInt f)))).get? b=some o:=λ b o q n1 n2=>(Heap.get?_update_other _ _ (lt b o q)).trans (kp b o q n1 n2)
 have slot:∀b o,s.heap.get? b=some o->b≠a->∃sl,(h3.update T (Obj.mapFields (·.setIfInBounds 3 ((none:Option Addr).elim Value.none λ f=>rawInt f)))).get? b=some { o with slots:=sl }:=λ b o q n1=>let ⟨s',z⟩:=sl b o q n1;⟨s',(Heap.get?_update_other _ _ (lt b o q)).trans z⟩
 generalize h3.update T (Obj.mapFields (·.setIfInBounds 3 ((none:Option Addr).elim Value.none λ f=>rawInt f)))=h' at e1 e7 keep slot
 generalize Obj.mapFields (·.setIfInBounds 3 ((none:Option Addr).elim Value.none λ f=>rawInt f)) { cls:=.type "traceback",dict:=none,data:=.fields ts }=oT at e7 d7
 have na:∀{b:Addr}{u:HO},H b=some u->(∀φ,u≠.ext φ)->b≠a:=λ {b u} q n z=>by
  subst z
  rw[ha] at q
  cases q
  exact n _ rfl
 have nTb:∀{b:Addr}{u:HO},H b=some u->b≠T:=λ {b u} q z=>by
  subst z
  rw[hT] at q
  cases q
 have up:∀{b:Addr}{u:HO},H b=some u->(∀φ,u≠.ext φ)->upd (upd H T (.frz oT (.own 0))) a (ExF a C (.ref T) d) b=some u:=λ {b u} q n=>by
  rw[Jg (na q n),Jg (nTb q)]
  exact q
 have fa:a∉frs X.stack:=λ z=>by rw[hfr a z] at ha;cases ha
 refine k T oT h' ⟨hT,g5,⟨_,d7,by simp[tz]⟩,⟨λ b o q n hb _=>keep b o q (λ z=>by subst z;rw[ha] at n;cases n) hb,λ b o q _ hb _=>slot b o q (λ z=>fa (z▸hb)),λ b o q n _=>?_,λ b o q _=>?_,λ b xs q=>up q nofun,λ b o u q=>up q nofun,λ b ps q=>⟨#[],by rw[up q nofun];simp⟩⟩,λ b u q=>?_⟩
 ·rw[Jg (λ z=>by subst z;rw[ha] at n;cases n),Jg (λ z=>by subst z;rw[nT] at q;cases q)]
  exact n
 ·by_cases z:b=a
  ·subst z
   exact⟨_,e1⟩
  ·obtain⟨sl,w⟩:=slot b o q z
   exact⟨_,w⟩
 ·by_cases z:b=a
  ·subst z
   rw[Jf] at q
   cases q
   exact ExF.ok e1 ((Obj.cls_mapFields _ _).trans x2) (Obj.data_mapFields g2 _) (by simp[g3]) (by rw[Array.getElem?_setIfInBounds_ne (by decide)];exact x5) ((Juu _ _).trans x6)
  ·rw[Jg z] at q
   by_cases y:b=T
   ·subst y
    rw[Jf] at q
    cases q
    exact⟨e7,⟨oT,e7⟩⟩
   ·rw[Jg y] at q
    refine(hok b u q).stay (λ c v hc p=>?_) (λ c p=>up p nofun) λ c xs p=>up p nofun
    refine keep c v p ?_ ?_
    ·rcases hc with rfl|hc
     ·exact z
     ·exact na hc nofun
    ·intro m
     rcases hc with rfl|hc
     ·rw[hfr _ m] at q;cases q
     ·rw[hfr _ m] at hc;cases hc
theorem Jx7 (I:Inv X pins σ H s) (fl:Fly X.env.locals (frs X.stack) a s s1) (hs:X.stack=X.env::X.outer) (hf:X.env.frame=some X.env.locals) (ha:H a=some (ExF a C tv d)) (ht:TvOk H tv)
  (k:∀T oT h',Past X H s.heap a C d T oT h'->Q () { s with heap:=h' }):wpAny M X.A (noteFrame (.ref a) X.env) (λ _ s'=>wpAny M X.A (setFlight (.ref a) none) Q E s') E s1:=by
 rcases fl with rfl|⟨h',rfl,n⟩
 ·exact Jri I hs hf ha ht λ h3 n=>Jle I ha n k
 ·exact Jke hf n (Jle I ha n k)
theorem Jvx (I:Inv X pins σ H s) (fl:Fly X.env.locals (frs X.stack) a s s1) (hs:X.stack=X.env::X.outer) (hf:X.env.frame=some X.env.locals) (ha:H a=some (ExF a C tv d)) (ht:TvOk H tv)
  (k:∀T oT h',Past X H s.heap a C d T oT h'->Q () { s with heap:=h' }):wpAny M X.A (leaving X.env (.ref a)) Q E s1:=by
 unfold leaving
 exact wpAny_bind (Jx7 I fl hs hf ha ht k)
end
noncomputable def CXI (P:Program) (w:World):CXT:=λ outer H s E e s'=>∃H',s'.os=s.os/\AllBare s'.gens/\Un (frs outer) [] H H' s.heap s'.heap/\HOk P w H' s'.heap/\E e none H'
theorem Un.tail {L:Addr}{fs:List Addr}{H H1 H2:Hp}{h h1 h2:Heap}(a:Un fs [] H H1 h h1) (b:Un (L::fs) [] H1 H2 h1 h2) (n:h.get? L=none):Un fs [] H H2 h h2 where
 keep:=λ c o q m hc _=>b.keep c o (a.keep c o q m hc (by simp)) (a.free c o q m (by simp)) (λ z=>(List.mem_cons.mp z).elim (λ y=>by subst y;rw[n] at q;cases q) hc) (by simp)
 slot:=λ c o q m hc _=>by
  obtain⟨sl,e1⟩:=a.slot c o q m hc (by simp)
  obtain⟨sl',e2⟩:=b.any e1 (a.free c o q m (by simp)) (by simp)
  exact⟨sl',e2⟩
 free:=λ c o q m _=>by
  obtain⟨o',e1⟩:=a.there c o q (by simp)
  exact b.free c o' e1 (a.free c o q m (by simp)) (by simp)
 there:=λ c o q _=>by
  obtain⟨o',e1⟩:=a.there c o q (by simp)
  exact b.there c o' e1 (by simp)
 tups:=λ c xs q=>b.tups c xs (a.tups c xs q)
 frzs:=λ c o u q=>b.frzs c o u (a.frzs c o u q)
 tbls:=λ c ps q=>by
  obtain⟨m1,e1⟩:=a.tbls c ps q
  obtain⟨m2,e2⟩:=b.tbls c _ e1
  exact⟨m1++m2,by rw[e2,Array.append_assoc]⟩
section
variable {X:Cx}{pins:List (Addr×Obj)}{σ:L2.St}{H:Hp}{s:Shared}{k:Nat}{f C:Addr}{fd:FuncData}{ps:List Str}{sp:Sp}{dvs:List V}{ds:List Value}{E:XK}{Q:VK}{us:List Value}{vs:List V}{W:Value->Shared->Prop}
theorem Jzr {e:Value}{s':Shared}(I:Inv X pins σ H s) (h:CXI X.prog X.w X.stack H s E e s'):∃H',Inv X pins σ H' s'/\E e none H':=by
 obtain⟨H',os,bare,un,hok,q⟩:=h
 exact⟨H',I.call' os un hok bare λ b z=>absurd z (by simp),q⟩
theorem J1n (F:FnOk X.prog X.w X.K X.mg X.base (CXI X.prog X.w) k f fd ps sp) (hr:Room k X.A) (hb:Je3 X.K fd ps ds) (hd:Vals dvs ds) (I:Inv X pins σ H s) (r:Vals vs us) (h:sp (vs++dvs) H Q E)
  (hx:∀e s' H',Inv X pins σ H' s'->E e none H'->W e s'):wpAny (model X.prog X.w) X.A (call (.ref f) us) (EP X pins σ Q) W s:=by
 have ra:Vals (vs++dvs) (us++ds):=r.append hd
 have la:=ra.length
 have lf:=F.len _ _ _ _ h
 refine wpAny_call (codeAny_mono (F.run _ _ _ _ ⟨us,[]⟩ _ _ _ _ hr I.env0 (hb s us I.kIn (by omega)) ra h) λ res s' q=>?_)
 match res,q with
 | .error e,q =>
  obtain⟨H',I',z⟩:=Jzr I q
  exact hx e s' H' I' z
 | .ok (.ret u),q=>exact I.after q
 | .ok .next,q=>exact False.elim q
 | .ok .brk,q=>exact False.elim q
 | .ok .cont,q=>exact False.elim q
theorem Jwe (M:Mk X.K C f) (F:FnOk X.prog X.w X.K X.mg X.base (CXI X.prog X.w) k f fd ps sp) (hr:Room (k+1) X.A) (hb:Je3 X.K fd ps ds) (hd:Vals dvs ds) (I:Inv X pins σ H s) (r:Vals vs us)
  (h:∀x dx,H x=none->H dx=none->dx≠x->sp (.ref x::(vs++dvs)) (upd (upd H dx (.own x)) x (.ins C dx [])) (λ v H2=>v=.non/\Q (.ref x) H2) E)
  (hx:∀e s' H',Inv X pins σ H' s'->E e none H'->W e s'):wpAny (model X.prog X.w) X.A (call (.ref C) us) (EP X pins σ Q) W s:=by
 have z0:=s.heap.objs.size
 have hq:=h (s.heap.objs.size+1) s.heap.objs.size (I.hok.fresh (Nat.le_succ _)) (I.hok.fresh (Nat.le_refl _)) (Nat.ne_of_lt (Nat.lt_succ_self _))
 have J:=Inv.made (C:=C) I
 have ra:Vals (V.ref (s.heap.objs.size+1)::(vs++dvs)) (Value.ref (s.heap.objs.size+1)::(us++ds)):=.cons rfl (r.append hd)
 have la:=ra.length
 have lf:=F.len _ _ _ _ hq
 have hl:(Value.ref (s.heap.objs.size+1)::us++ds).length=ps.length:=by
  rw[List.cons_append]
  omega
 refine wpAny_call (Jx5 (f:=f) I.kIn M.makes M.init (beq_iff_eq.mp M.fn) (codeAny_mono (F.run _ _ _ _ ⟨.ref (s.heap.objs.size+1)::us,[]⟩ _ _ _ _ (hr.make C us []) (J.env0.make C us []) (hb _ (.ref (s.heap.objs.size+1)::us) J.kIn hl) ra hq) λ res s' q=>?_))
 match res,q with
 | .error e,q =>
  obtain⟨H',I',z⟩:=Jzr J q
  exact hx e s' H' I' z
 | .ok (.ret u),q =>
  obtain⟨v,H',J3,rv,ev,q3⟩:=J.after q
  subst ev
  exact⟨rv,⟨V.ref (s.heap.objs.size+1),H',J3,rfl,q3⟩⟩
 | .ok .next,q=>exact False.elim q
 | .ok .brk,q=>exact False.elim q
 | .ok .cont,q=>exact False.elim q
end
structure ItI where
 xs:List IV
 chk:IH->Prop
open Classical in
noncomputable def Jfg (chk:IH->Prop) (g:G1) (b:S1):List IV->ISt->IH->SRes
 | [],σ,h=>if chk h then .next σ h else .stuck
 | x::xs,σ,h=>if chk h then(match g x σ h with
   | .next σ1 h1=>(match b σ1 h1 with
    | .next σ2 h2=>Jfg chk g b xs σ2 h2
    | .cont σ2 h2=>Jfg chk g b xs σ2 h2
    | .brk σ2 h2=>.next σ2 h2
    | .ret v h2=>.ret v h2
    | .exc n σ2 h2=>(match h2[n]? with
     | some (.exc _ _)=>.exc n σ2 h2
     | _=>.stuck)
    | _=>.stuck)
   | _=>.stuck) else .stuck
noncomputable abbrev I1:=ISt->IH->Res ItI
noncomputable def sFor (it:I1) (g:G1) (b:S1):S1:=λ σ h=>rS σ (it σ h) λ J h'=>Jfg J.chk g b J.xs σ h'
structure ItOk (ce:Str->Option Addr) (K:W.Frag) (ι:List Addr) (H₀:Hp) (J:It) (I:ItI):Prop where
 go:∀(k:Nat) (x:IV) (h:IH) (H:Hp) (ι':List Addr),Nxt ι H₀ ι' H->Rel ce K ι' h H->I.chk h->I.xs[k]?=some x ->
  J.go k H/\∀y H',J.yld k H y H'->Rel ce K ι' h H'/\Nxt ι' H ι' H'/\RV K ι' H' x y
 stop:∀(k:Nat) (h:IH) (H:Hp) (ι':List Addr),Nxt ι H₀ ι' H->Rel ce K ι' h H->I.chk h->I.xs.length<=k->J.stop k H
theorem Rel.get {ce:Str->Option Addr}{K:W.Frag}{ι:List Addr}{h:IH}{H:Hp}(R:Rel ce K ι h H){i:Nat}{o:IO}(e:h[i]?=Option.some o){a:Addr}(ha:ι[i]?=Option.some a):RO ce K ι H a o:=by
 obtain⟨b,e1,r⟩:=R.at_ i o e
 rw[ha] at e1
 cases e1
 exact r
noncomputable def RIt (ce:Str->Option Addr) (X:Cx) (tg:Expr) (pins:List (Addr×Obj)) (ι':List Addr) (I:ItI) (itv:Value) (s2:Shared) (H':Hp):Prop :=
 ∃(it:Addr) (fp:List Addr) (tn:Nat->Heap->Prop) (J:It),itv=.ref it/\Turn X.prog X.w X.K tg J fp it tn/\tn 0 s2.heap/\(∀b∈fp,FpOk X pins H' b)/\ItOk ce X.K ι' H' J I
noncomputable def PIi (ce:Str->Option Addr) (X:Cx) (tg iter:Expr) (m:I1):Prop :=
 ∀(pins:List (Addr×Obj)) (s:Shared) (σ:L2.St) (H:Hp) (ι:List Addr) (σi:ISt) (h:IH) (Q:Value->Shared->Prop) (E:Value->Shared->Prop),Now ce X pins ι σi h σ H s ->
  (match m σi h with
   | .ok I h'=>∀itv s' H' ι',Now ce X pins ι' σi h' σ H' s'->Nxt ι H ι' H'->RIt ce X tg pins ι' I itv s' H'->Q itv s'
   | .exc n h'=>∀pl a s' H' ι',Now ce X (pins++pl) ι' σi h' σ H' s'->Nxt ι H ι' H'->ι'[n]?=some a->E (.ref a) s'
   | .stuck=>False) ->
  wpAny (model X.prog X.w) X.A (eval iter X.env) (λ v s1=>wpAny (model X.prog X.w) X.A (pyIter v) Q E s1) E s
section
variable {ce:Str->Option Addr}{X:Cx}
theorem nof {M:Model}{A:Around}{α:Type}{t:Sem α}{Q:α->Shared->Prop}{E:Value->Shared->Prop}{s:Shared}(h:wpAny M A t Q (λ _ _=>False) s):wpAny M A t Q E s:=wpAny_mono h (λ _ _ x=>x) λ _ _ z=>z.elim
theorem Now.pins {pins:List (Addr×Obj)}{pl:List (Addr×Obj)}{ι:List Addr}{σi:ISt}{h:IH}{σ:L2.St}{H:Hp}{s:Shared}(N:Now ce X (pins++pl) ι σi h σ H s):Now ce X pins ι σi h σ H s:=⟨N.inv.unpinned,N.rel,N.st⟩
theorem s_for {tg iter:Expr}{body:List Stmt}{mi:I1}{g:G1}{mb:S1}{pos:Pos}(hc:X.calm=true) (hst:X.stack=X.env::X.outer) (hf:X.env.frame=some X.env.locals) (hi:PIi ce X tg iter mi) (hg:PGi ce X tg g) (hb:PS2 ce X body mb)
  (hs:∀x,foldedSetIterable iter X.env x=pure x:=by intro _;rfl):PS1 ce X (.For tg iter body [] pos) (sFor mi g mb):=by
 intro pins s σ H ι σi h Q E N K
 refine wpAny_For (hi pins s σ H ι σi h _ E N ?_) hs
 unfold sFor at K
 cases e0:mi σi h with
 | exc n h'=>rw[e0] at K;exact λ pl a s' H' ι' N' n' q=>K pl a s' σ H' ι' N' n' q s' (.inl rfl)
 | stuck=>rw[e0] at K;exact K
 | ok I h' =>
  rw[e0] at K
  intro itv s2 H2 ι2 N2 n2 R
  obtain⟨it,fp,tn,J,e,T,st2,f2,OK⟩:=R
  subst e
  have stat:∀{H':Hp},(∀b∈fp,H' b=none)->∀b∈fp,FpOk X pins H' b:=λ hn b hb=>⟨hn b hb,(f2 b hb).2⟩
  have K2:Jbf ce X pins ι2 H2 (Jfg I.chk g mb I.xs σi h') Q E:=Jbf.mono (r:=Jfg I.chk g mb I.xs σi h') K n2
  refine codeAny_forLoop_any (λ n s'=>∃k ιk σk hk σ' H',Now ce X pins ιk σk hk σ' H' s'/\Nxt ι2 H2 ιk H'/\tn k s'.heap/\(∀b∈fp,H' b=none)/\n=I.xs.length-k/\k<=I.xs.length/\Jbf ce X pins ιk H' (Jfg I.chk g mb (I.xs.drop k) σk hk) Q E) ?_ I.xs.length
   ⟨0,ι2,σi,h',σ,H2,N2,.refl,st2,λ b hb=>(f2 b hb).1,by simp,Nat.zero_le _,by simpa using K2⟩
  rintro n s3 ⟨k,ιk,σk,hk,σ3,H3,N3,n3,st3,fr3,rfl,hkl,K3⟩
  by_cases hlt:k<I.xs.length
  ·-- a turn
   have hd:I.xs.drop k=I.xs[k]::I.xs.drop (k+1):=List.drop_eq_getElem_cons hlt
   rw[hd] at K3
   unfold Jfg at K3
   split at K3
   ·rename_i hck
    obtain⟨go,yl⟩:=OK.go k I.xs[k] hk H3 ιk n3 N3.rel hck (List.getElem?_eq_getElem hlt)
    refine nof (thn (T.item X rfl rfl rfl hc k pins s3 σ3 H3 (λ _ _=>False) N3.inv (stat fr3) st3 go) λ r s4 ⟨u,hr,h4⟩=>?_)
    subst hr
    refine nof (thn h4 λ _ s5 ⟨x,H5,I5,r5,y5,st5,fr5⟩=>?_)
    obtain⟨R5,n5,q5⟩:=yl x H5 y5
    have I5':=I5.pinned (stat fr5) (T.obj _ _ st5)
    have N5:Now ce X (pins++Jc4 fp s5.heap) ιk σk hk σ3 H5 s5:=⟨I5',R5,N3.st.mono n5⟩
    cases eg:g I.xs[k] σk hk with
    | next σg hgg =>
     rw[eg] at K3
     dsimp only at K3
     refine nof (hg _ s5 σ3 H5 ιk σk hk _ u (λ _ s6=>wpAny (model X.prog X.w) X.A (execs body X.env) _ _ s6) (λ _ _=>False) N5 ⟨x,r5,q5⟩ ?_)
     rw[eg]
     intro s6 σ6 H6 ι6 N6 n6
     refine hb _ s6 σ6 H6 ι6 σg hgg _ _ N6 ?_
     have again:∀{σ7:L2.St}{H7:Hp}{s7:Shared}{σ7i:ISt}{h7:IH}{ι7:List Addr},Now ce X (pins++Jc4 fp s5.heap) ι7 σ7i h7 σ7 H7 s7->Nxt ι6 H6 ι7 H7->Jbf ce X pins ιk H3 (Jfg I.chk g mb (I.xs.drop (k+1)) σ7i h7) Q E ->
       ∃m,m<I.xs.length-k/\∃k ιk σk hk σ' H',Now ce X pins ιk σk hk σ' H' s7/\Nxt ι2 H2 ιk H'/\tn k s7.heap/\(∀b∈fp,H' b=none)/\m=I.xs.length-k/\k<=I.xs.length/\Jbf ce X pins ιk H' (Jfg I.chk g mb (I.xs.drop k) σk hk) Q E :=
      λ {σ7 H7 s7 σ7i h7 ι7} N7 n7 K7=>by
       have nn:Nxt ιk H3 ι7 H7:=(n5.trans n6).trans n7
       refine⟨I.xs.length-(k+1),by omega,k+1,ι7,σ7i,h7,σ7,H7,N7.pins,n3.trans nn,T.keep _ _ _ st5 λ b hb o e=>(N7.inv.pin (b,o) (List.mem_append_right _ (List.mem_append_right _ (Jbu hb e)))).1,λ b hb=>?_,rfl,hlt,K7.mono nn⟩
       obtain⟨o,e,d⟩:=T.obj _ _ st5 b hb
       exact(N7.inv.pin (b,o) (List.mem_append_right _ (List.mem_append_right _ (Jbu hb e)))).2.1
     cases eb:mb σg hgg with
     | next σ7i h7 =>
      rw[eb] at K3
      exact λ s7 σ7 H7 ι7 N7 n7=>again N7 n7 K3
     | cont σ7i h7 =>
      rw[eb] at K3
      exact λ s7 σ7 H7 ι7 N7 n7=>again N7 n7 K3
     | brk σ7i h7 =>
      rw[eb] at K3
      exact λ s7 σ7 H7 ι7 N7 n7=>K3 s7 σ7 H7 ι7 N7.pins ((n5.trans n6).trans n7)
     | ret v h7 =>
      rw[eb] at K3
      exact λ u s7 σ7i σ7 H7 ι7 N7 n7 r=>K3 u s7 σ7i σ7 H7 ι7 N7.pins ((n5.trans n6).trans n7) r
     | exc n σ7i h7 =>
      rw[eb] at K3
      dsimp only at K3
      cases hj:h7[n]? with
      | none=>rw[hj] at K3;exact Zf K3
      | some ob =>
       cases ob with
       | exc c fs =>
        rw[hj] at K3
        intro pl a s7 σ7 H7 ι7 N7 n7 q s8 fl
        obtain⟨C,tv,d,fe,hC,ha,ht⟩:=N7.rel.get hj q
        have back:∀h8,Noted X.env.locals (frs X.stack) a s7.heap h8->cameBackBy (model X.prog X.w) X.A X.env E (.ref a) { s7 with heap:=h8 }:=λ h8 n8 =>
         Jsx hf n8 λ h9 n9=>K3 (Jc4 fp s5.heap++pl) a s7 σ7 H7 ι7 (by rw[<- List.append_assoc];exact N7) ((n5.trans n6).trans n7) q _ (.inr ⟨h9,rfl,n9⟩)
        rcases fl with rfl|⟨h8,rfl,n8⟩
        ·exact Jri N7.inv hst hf ha ht back
        ·exact Jke hf n8 (back h8 n8)
       | _=>rw[hj] at K3;exact Zf K3
     | stuck=>rw[eb] at K3;exact Zf K3
    | _=>rw[eg] at K3;exact Zf K3
   ·exact Zf K3
  ·have hke:I.xs.drop k=[]:=List.drop_eq_nil_of_le (by omega)
   rw[hke] at K3
   unfold Jfg at K3
   split at K3
   ·rename_i hck
    have stop:=OK.stop k hk H3 ιk n3 N3.rel hck (by omega)
    refine nof (thn (T.done X rfl rfl rfl hc k pins s3 σ3 H3 (λ _ _=>False) N3.inv (stat fr3) st3 stop) λ r s4 ⟨hr,I4⟩=>?_)
    subst hr
    exact wpAny_execs_nil (K3 s4 σ3 H3 ιk ⟨I4,N3.rel,N3.st⟩ .refl)
   ·exact Zf K3
noncomputable def itOf:IV->IH->Res ItI
 | .ref i,h=>match h[i]? with
  | some (.lst xs)=>.ok ⟨xs,λ h'=>h'[i]?=some (.lst xs)⟩ h
  | _=>.stuck
 | .rol xs,h=>.ok ⟨xs,λ _=>True⟩ h
 | .tup xs,h=>.ok ⟨xs,λ _=>True⟩ h
 | _,_=>.stuck
noncomputable def iVal (e:E1):I1:=λ σ h=>(e σ h).bind itOf
variable {tg:Expr}
theorem J3i {a:Addr}{i:Nat}{xs:List IV}{ι:List Addr}{H₀:Hp}(ha:ι[i]?=some a):ItOk ce X.K ι H₀ (Itl X.K a) ⟨xs,λ h'=>h'[i]?=some (.lst xs)⟩:=by
 refine⟨λ k x h H ι' hp R hck hx=>?_,λ k h H ι' hp R hck hx=>?_⟩
 ·obtain⟨vs,e1,r1⟩:=R.get hck (hp.at ha)
  obtain⟨v,hv,qv⟩:=r1.get hx
  refine⟨⟨vs,v,SqL.of e1,hv⟩,λ y H' hy=>?_⟩
  obtain⟨rfl,hy⟩:=hy
  have:=hy vs (SqL.of e1)
  rw[hv] at this
  cases this
  exact⟨R,.refl,qv⟩
 ·obtain⟨vs,e1,r1⟩:=R.get hck (hp.at ha)
  exact⟨vs,SqL.of e1,by rw[r1.length];exact hx⟩
theorem J3j {a:Addr}{xs:List IV}{vs:List V}{ι:List Addr}{H₀:Hp}(sa:SqR X.K H₀ a vs) (ra:RVs X.K ι H₀ xs vs):ItOk ce X.K ι H₀ (Itl X.K a) ⟨xs,λ _=>True⟩:=by
 refine⟨λ k x h H ι' hp R hck hx=>?_,λ k h H ι' hp R hck hx=>?_⟩
 ·obtain⟨v,hv,qv⟩:=ra.get hx
  have sq:=(hp.ext.sqR sa).sq
  refine⟨⟨vs,v,sq,hv⟩,λ y H' hy=>?_⟩
  obtain⟨rfl,hy⟩:=hy
  have:=hy vs sq
  rw[hv] at this
  cases this
  exact⟨R,.refl,RV.mono hp _ _ qv⟩
 ·exact⟨vs,(hp.ext.sqR sa).sq,by rw[ra.length];exact hx⟩
theorem J3k {a:Addr}{xs:List IV}{vs:List V}{ι:List Addr}{H₀:Hp}(sa:SqT X.K H₀ a vs) (ra:RVs X.K ι H₀ xs vs):ItOk ce X.K ι H₀ (Itt X.K a) ⟨xs,λ _=>True⟩:=by
 refine⟨λ k x h H ι' hp R hck hx=>?_,λ k h H ι' hp R hck hx=>?_⟩
 ·obtain⟨v,hv,qv⟩:=ra.get hx
  have sq:=hp.ext.sqT sa
  refine⟨⟨vs,v,sq,hv⟩,λ y H' hy=>?_⟩
  obtain⟨rfl,hy⟩:=hy
  have:=hy vs sq
  rw[hv] at this
  cases this
  exact⟨R,.refl,RV.mono hp _ _ qv⟩
 ·exact⟨vs,hp.ext.sqT sa,by rw[ra.length];exact hx⟩
theorem Jvg {l:Expr}{ml:E1}(hl:PEi ce X l ml):PIi ce X tg l (iVal ml):=by
 intro pins s σ H ι σi h Q E N K
 refine hl pins s σ H ι σi h _ E N ?_
 unfold iVal at K
 cases e0:ml σi h with
 | exc n h'=>rw[e0] at K;exact K
 | stuck=>rw[e0] at K;exact K
 | ok v h' =>
  rw[e0] at K
  intro u s1 H1 ι1 N1 n1 r1
  obtain⟨w,rw',q⟩:=r1
  have fresh:∀b∈[s1.heap.objs.size],FpOk X pins H1 b:=λ b hb=>by
   have e:b=s1.heap.objs.size:=by simpa using hb
   subst e
   exact N1.inv.fpOk (Nat.le_refl _) (N1.inv.hok.fresh (Nat.le_refl _))
  cases v with
  | ref i =>
   obtain⟨a,e1,ha⟩:=q
   subst e1
   cases rw'
   cases hi:h'[i]? with
   | none=>simp only[Res.bind,itOf,hi] at K
   | some o =>
    cases o with
    | lst xs =>
     simp only[Res.bind,itOf,hi] at K
     obtain⟨vs,e1,r1⟩:=N1.at hi ha
     obtain⟨its,rv,p,hz⟩:=N1.inv.list (SqL.of e1)
     refine wpAny_pyIter_list p.isList (K _ _ H1 ι1 ⟨N1.inv.kept (t':=s1.toks) λ b o e=>Heap.get?_push_of_some _ e,N1.rel,N1.st⟩ n1 ?_)
     exact⟨s1.heap.objs.size,[s1.heap.objs.size],_,Itl X.K a,rfl,Jpo a _,⟨_,Heap.get?_push_size _ rfl,rfl,rfl⟩,fresh,J3i ha⟩
    | _=>simp only[Res.bind,itOf,hi] at K
  | rol xs =>
   obtain⟨a,vs,e1,sa,ra⟩:=q
   subst e1
   cases rw'
   simp only[Res.bind,itOf] at K
   obtain⟨its,rv,p,hz⟩:=N1.inv.list sa.sq
   refine wpAny_pyIter_list p.isList (K _ _ H1 ι1 ⟨N1.inv.kept (t':=s1.toks) λ b o e=>Heap.get?_push_of_some _ e,N1.rel,N1.st⟩ n1 ?_)
   exact⟨s1.heap.objs.size,[s1.heap.objs.size],_,Itl X.K a,rfl,Jpo a _,⟨_,Heap.get?_push_size _ rfl,rfl,rfl⟩,fresh,J3j sa ra⟩
  | tup xs =>
   obtain⟨a,vs,e1,sa,ra⟩:=q
   subst e1
   cases rw'
   simp only[Res.bind,itOf] at K
   obtain⟨its,rv,p,hz⟩:=N1.inv.tuple sa
   refine wpAny_pyIter_tuple (show s1.heap.IsTuple a its.toArray from p) (K _ _ H1 ι1 ⟨N1.inv.kept (t':=s1.toks) λ b o e=>Heap.get?_push_of_some _ e,N1.rel,N1.st⟩ n1 ?_)
   exact⟨s1.heap.objs.size,[s1.heap.objs.size],_,Itt X.K a,rfl,Jtm a _,⟨_,Heap.get?_push_size _ rfl,rfl,rfl⟩,fresh,J3k sa ra⟩
  | _=>simp only[Res.bind,itOf] at K
noncomputable def rngI (lo hi:Int):List IV:=(List.range (hi-lo).toNat).map λ k=>.int (lo+(k:Nat))
noncomputable def Jc1:List IV->IH->Res ItI
 | [.int j],h=>if -(2^62)<=j/\j<2^62 then .ok ⟨rngI 0 j,λ _=>True⟩ h else .stuck
 | _,_=>.stuck
noncomputable def Jzh:List IV->IH->Res ItI
 | [.int i,.int j],h=>if -(2^62)<=i/\i<2^62/\ -(2^62)<=j/\j<2^62 then .ok ⟨rngI i j,λ _=>True⟩ h else .stuck
 | _,_=>.stuck
noncomputable def iRg (f:List IV->IH->Res ItI) (a:A1):I1:=λ σ h=>(a σ h).bind f
theorem J4i {lo hi:Int}{ι:List Addr}{H₀:Hp}:ItOk ce X.K ι H₀ (Itr lo (hi-lo).toNat) ⟨rngI lo hi,λ _=>True⟩:=by
 refine⟨λ k x h H ι' hp R hck hx=>?_,λ k h H ι' hp R hck hx=>?_⟩
 ·have hk:k<(hi-lo).toNat:=by
   have:=(List.getElem?_eq_some_iff.mp hx).1
   simpa [rngI] using this
  refine⟨hk,λ y H' hy=>?_⟩
  obtain⟨rfl,rfl⟩:=hy
  simp only[rngI,List.getElem?_map,List.getElem?_range hk] at hx
  cases hx
  exact⟨R,.refl,rfl⟩
 ·have:(rngI lo hi).length=(hi-lo).toNat:=by simp[rngI]
  show(hi-lo).toNat<=k
  rw[<- this]
  exact hx
theorem Jv9 {pins:List (Addr×Obj)}{σ:L2.St}{H:Hp}{ι:List Addr}{σi:ISt}{h:IH}{s:Shared}{Q:Value->Shared->Prop}{E:Value->Shared->Prop}{lo hi:Int}{t u v:Tok}{tk:Nat}(N:Now ce X pins ι σi h σ H s)
  (h1: -(2^62)<=lo) (h2:lo<2^62) (h3: -(2^62)<=hi) (h4:hi<2^62)
  (K:∀itv s' H' ι',Now ce X pins ι' σi h σ H' s'->Nxt ι H ι' H'->RIt ce X tg pins ι' ⟨rngI lo hi,λ _=>True⟩ itv s' H'->Q itv s') :
  wpAny (model X.prog X.w) X.A (pyIter (.ref s.heap.objs.size)) Q E { s with heap:=s.heap.push { cls:=.type "range",data:=.fields #[.int lo t,.int hi u,.int 1 v] },toks:=tk }:=by
 have:=Jyc (X:=X) (tg:=tg) (E:=E) (R:=λ J H'=>J=Itr lo (hi-lo).toNat/\H'=H) (t:=t) (u:=u) (v:=v) (tk:=tk) N.inv h1 h2 h3 h4 ⟨rfl,rfl⟩
 refine wpAny_mono this (λ itv s' hq=>?_) λ _ _ z=>z
 obtain⟨it,fp,tn,J,H',e,I',T,st,f,rfl,rfl⟩:=hq
 exact K itv s' _ ι ⟨I',N.rel,N.st⟩ .refl ⟨it,fp,tn,_,e,T,st,f,J4i⟩
theorem Jxp {a:Expr}{ma:A1}{p pos:Pos}(hg:Gl X "range") (hm:X.mg "range"=none) (ha:PAi ce X [a] ma) (hs:starEach [a] X.env=[(false,eval a X.env)]:=by rfl):PIi ce X tg (.Call (.Name "range" p) [a] [] pos) (iRg Jc1 ma):=by
 intro pins s σ H ι σi h Q E N K
 refine Call_ (Jc2 N.inv hg hm boot_range (PyProof.Rows.callWith_type1 ?_ hs rfl))
 refine ha pos pins s σ H ι σi h _ E N ?_
 unfold iRg at K
 cases e0:ma σi h with
 | exc n h'=>rw[e0] at K;exact K
 | stuck=>rw[e0] at K;exact K
 | ok vs h' =>
  rw[e0] at K
  intro us s1 H1 ι1 N1 n1 r1
  obtain⟨xs,rv,qs⟩:=r1
  match vs,K with
  | [.int j],K =>
   obtain⟨w,r,e1,q,q2⟩:=qs
   have e2:r=[]:=q2
   subst e1 e2
   have e3:w=.int j:=q
   subst e3
   cases rv with
   | cons r rr =>
    cases rr
    obtain⟨t,rfl⟩:=r
    simp only[Res.bind,Jc1] at K
    by_cases hb: -(2^62)<=j/\j<2^62
    ·rw[if_pos hb] at K
     exact call_range_1 (Jv9 N1 (by omega) (by omega) hb.1 hb.2 λ itv s' H' ι' N' n' R=>K itv s' H' ι' N' (n1.trans n') R)
    ·rw[if_neg hb] at K
     exact K.elim
  | [],K=>exact Zf K
  | .non::_,K=>exact Zf K
  | .bl _::_,K=>exact Zf K
  | .str _::_,K=>exact Zf K
  | .tup _::_,K=>exact Zf K
  | .rol _::_,K=>exact Zf K
  | .ref _::_,K=>exact Zf K
  | .int _::_::_,K=>exact Zf K
end
end L3
namespace L3
open PySem PySem.Spec PySem.Calls PyProof.Rows L2
section
variable {prog:Program}{w:World}{A:Around}{E:Value->Shared->Prop}{s:Shared}{K:W.Frag}{x D:Addr}{ox:Obj}
open PySem.W PySem.Builtin PySem.Builtin.ObjectAttr PySem.Builtin.Getset_descriptor in
end
structure ExI (K:W.Frag) (C:Addr):Prop where
 ga:W.findIn K (.ref C) "__getattribute__"=some (some (.builtin "BaseException.__getattribute__"))
 mb:W.mroIn K C (.type "BaseException")=some true
 gn:W.findIn K (.ref C) "__getattr__"=some none
 ca:W.findIn K (.ref C) "__class__"=some (some (.builtin "object.__class__"))
 mo:W.mroIn K C (.type "object")=some true
 hd:W.hasDictIn K C=true
theorem ExI.at_ {K:W.Frag}{C:Addr}(e:ExI K C):∃c d cd sl,K.lookup C=some ⟨c,d,.cls cd,sl⟩:=by
 obtain⟨cd,hc,_⟩:=W.any_some e.hd
 unfold W.clsIn at hc
 split at hc
 case h_2=>cases hc
 rename_i c d cd' sl ho
 exact⟨c,d,cd',sl,ho⟩
end L3
namespace L3
open PySem PySem.Spec PyProof.Rows L2
noncomputable def Jlh (n:Nat) (vs:List IV):ISt:=vs.map some++List.replicate (n-vs.length) none
noncomputable def SRes.fin (r:SRes):Res IV:=match r with
 | .next _ h'=>.ok .non h'
 | .ret v h'=>.ok v h'
 | .exc n _ h'=>(match h'[n]? with
  | some (.exc _ _)=>.exc n h'
  | _=>.stuck)
 | _=>.stuck
noncomputable def fnI (n:Nat) (m:S1):List IV->IH->Res IV:=λ vs h=>(m (Jlh n vs) h).fin
noncomputable def spI (ce:Str->Option Addr) (K:W.Frag) (ps:List Str) (f:List IV->IH->Res IV):Sp:=λ vs H Q E =>
 vs.length=ps.length/\∃ι h ivs,Rel ce K ι h H/\RVs K ι H ivs vs /\
  match f ivs h with
  | .ok v h'=>∀x H' ι',Rel ce K ι' h' H'->Nxt ι H ι' H'->RV K ι' H' v x->Q x H'
  | .exc n h'=>∀a H' ι',Rel ce K ι' h' H'->Nxt ι H ι' H'->ι'[n]?=some a->E (.ref a) none H'
  | .stuck=>False
theorem RVs.start {K:W.Frag}{ι:List Addr}{H:Hp}{N:List Str}{ivs:List IV}{vs:List V}(r:RVs K ι H ivs vs):RSt K ι H (Jlh N.length ivs) (L2.start N vs):=by
 have hl:=r.length
 refine⟨by simp[Jlh,L2.start,hl],λ j v e=>?_⟩
 unfold Jlh at e
 unfold L2.start
 by_cases hj:j<ivs.length
 ·rw[List.getElem?_append_left (by simpa using hj),List.getElem?_map] at e
  rw[List.getElem?_append_left (by simp;omega),List.getElem?_map]
  cases e1:ivs[j]? with
  | none=>rw[e1] at e;cases e
  | some w =>
   rw[e1] at e
   cases e
   obtain⟨u,hu,q⟩:=r.get e1
   exact⟨u,by rw[hu];rfl,q⟩
 ·rw[List.getElem?_append_right (by simpa using hj),List.getElem?_replicate] at e
  split at e<;>cases e
theorem Jro {α:Type}:∀{l:List α}{i:Nat}{x:α},l[i]?=some x->l.set i x=l
 | [],_,_,e=>by simp at e
 | a::l,0,x,e=>by cases e;rfl
 | a::l,i+1,x,e=>by
  show a::l.set i x=a::l
  rw[Jro (l:=l) e]
theorem ro_at {ce:Str->Option Addr}{K:W.Frag}{ι:List Addr}{h:IH}{H:Hp}{i:Nat}{o:IO}{a:Addr}(R:Rel ce K ι h H) (e:h[i]?=some o) (q:ι[i]?=some a):RO ce K ι H a o:=by
 obtain⟨b,e1,r⟩:=R.at_ i o e
 rw[q] at e1
 cases e1
 exact r
structure FunD (K:W.Frag) (x qual:Str) (st:Stmt) (f:Addr) (fd:FuncData) (dV:Value):Prop where
 ex:∃(oc:Value) (od:Option Addr) (kV doc pm:Value) (an:Option Addr) (cdv ct:Value) (osl:Array (Option Value)),
  fd=W.fnOf x qual (Jae st) (Jz st) (Jh st) dV kV doc pm an cdv ct/\K.lookup f=some ⟨oc,od,.func fd,osl⟩/\W.codeIn K cdv qual=true
 kp:W.keepIn K (.ref f)=true
section
variable {P:Program}{w:World}{K:W.Frag}{mg:Str->Option Value}{base:Heap}{ce:Str->Option Addr}
theorem FunD.fn {x qual:Str}{st:Stmt}{f:Addr}{fd:FuncData}{dV:Value}{N ps:List Str}{k n:Nat}{m:S1}(F:FunD K x qual st f fd dV) (S:FnScope N ps (Jh st))
  (hbody:∀(cdv:Value) (A:Around) (outer:List Env) (s:Shared) (H:Hp) (E:XK),W.codeIn K cdv qual=true->Room k (A.deeper (envOfC qual (Jh st) s.heap.objs.size f cdv))->PS2 ce (cxOf (CXI P w) P w K mg base N qual (Jh st) f cdv A outer s H E).nox (Jz st) m) (hn:N.length=n:=by rfl) :
  FnOk P w K mg base (CXI P w) (k+1) f fd ps (spI ce K ps (fnI n m)):=by
 subst hn
 obtain⟨oc,od,kV,doc,pm,an,cdv,ct,osl,rfl,lk,hcd⟩:=F.ex
 refine J23 lk hcd S (λ vs H Q E h=>h.1) λ A outer s H vs Q E hr hsp=>?_
 obtain⟨hl,ι,h,ivs,R,rv,hk⟩:=hsp
 refine⟨λ D σ H=>∃ι σi h,Rel ce K ι h H/\RSt K ι H σi σ/\match m σi h with
  | .next σi' h'=>∀σ' H' ι',Rel ce K ι' h' H'->RSt K ι' H' σi' σ'->Nxt ι H ι' H'->D.nx σ' H'
  | .ret v h'=>∀x H' ι',Rel ce K ι' h' H'->Nxt ι H ι' H'->RV K ι' H' v x->D.rt x H'
  | .exc n _ h'=>(∃c fs,h'[n]?=some (.exc c fs))/\∀a H' ι',Rel ce K ι' h' H'->Nxt ι H ι' H'->ι'[n]?=some a->E (.ref a) none H'
  | _=>False,λ pins s' σ' H' D I ht=>?_,ι,Jlh N.length ivs,h,R,rv.start,?_⟩
 ·obtain⟨ι,σi,h,R,rs,hm⟩:=ht
  refine wpAny_mono (hbody cdv A outer s H E hcd hr pins s' σ' H' ι σi h (SP _ pins D) _ ⟨I.wish _,R,rs⟩ ?_) (λ _ _ z=>z) (λ _ _ z=>z)
  cases e:m σi h with
  | next σ2 h2 =>
   rw[e] at hm
   exact λ s3 σ3 H3 ι3 N3 n3=>⟨σ3,H3,N3.inv.unwish,hm σ3 H3 ι3 N3.rel N3.st n3⟩
  | ret v h2 =>
   rw[e] at hm
   exact λ u s3 σ3i σ3 H3 ι3 N3 n3 ⟨z,rz,q⟩=>⟨z,σ3,H3,N3.inv.unwish,rz,hm z H3 ι3 N3.rel n3 q⟩
  | exc j σ2 h2 =>
   rw[e] at hm
   obtain⟨⟨c,fs,hj⟩,hm⟩:=hm
   intro pl a s3 σ3 H3 ι3 N3 n3 hi s4 fl
   have I3:=N3.inv.unwish
   obtain⟨C,tv,d,fe,hC,ha,ht⟩:=ro_at N3.rel hj hi
   refine Jvx I3 fl rfl rfl ha ht λ T oT h' p=>?_
   have nl:s.heap.get? s.heap.objs.size=none:=Heap.get?_none_of_le (Nat.le_refl _)
   obtain⟨R4,n4⟩:=N3.rel.grow (o:=.frz oT (.own 0)) p.new
   have ha4:upd H3 T (.frz oT (.own 0)) a=some (ExF a C tv d):=by rw[Jg (Ne.symm p.ne)];exact ha
   obtain⟨R5,n5⟩:=R4.write hi ha4 (by rw[ha4];trivial) (o:=ExF a C (.ref T) d) (io:=.exc c fs) ⟨C,.ref T,d,fe.mono p.un.frzs,hC,Jf,.inr ⟨T,oT,_,rfl,by rw[Jg p.ne,Jf],p.fld.choose_spec⟩⟩
   rw[Jro hj] at R5
   exact⟨_,I3.os,I3.bare,Un.tail I3.base p.un nl,p.hok,hm a _ ι3 R5 ((n3.trans n4).trans n5) hi⟩
  | _=>rw[e] at hm;exact hm.elim
 ·unfold fnI SRes.fin at hk
  cases e:m (Jlh N.length ivs) h with
  | next σ2 h2 =>
   rw[e] at hk
   exact λ σ3 H3 ι3 R3 _ n3=>hk .non H3 ι3 R3 n3 rfl
  | ret v h2 =>
   rw[e] at hk
   exact hk
  | exc j σ2 h2 =>
   rw[e] at hk
   dsimp only at hk
   cases q:h2[j]? with
   | none=>rw[q] at hk;exact hk.elim
   | some o =>
    cases o with
    | exc c fs=>rw[q] at hk;exact⟨⟨c,fs,q⟩,hk⟩
    | _=>rw[q] at hk;exact hk.elim
  | _=>rw[e] at hk;exact hk.elim
end
noncomputable def Res.nx {α:Type}:Res α->Res α
 | .ok a h=>.ok a h
 | _=>.stuck
noncomputable def Jl (f:List IV->IH->Res IV) (dvs:List IV) (a:A1):E1:=λ σ h=>(a σ h).bind λ vs h1=>f (vs++dvs) h1
noncomputable def Jn4 (c:Str) (f:List IV->IH->Res IV) (dvs:List IV) (a:A1):E1:=λ σ h=>(a σ h).bind λ vs h1=>(f (.ref h1.length::(vs++dvs)) (h1++[.ins c []])).bind λ r h2=>match r with
 | .non=>.ok (.ref h1.length) h2
 | _=>.stuck
noncomputable def Jxg (m:Str) (disp:Str->Option ((List IV->IH->Res IV)×List IV)) (o:E1) (a:A1):E1:=λ σ h=>(o σ h).bind λ v h1=>match v with
 | .ref i=>(match h1[i]? with
  | some (.ins c fs)=>(match disp c,fs.lookup m with
   | some (f,dvs),none=>(a σ h1).bind λ vs h2=>f (.ref i::(vs++dvs)) h2
   | _,_=>.stuck)
  | _=>.stuck)
 | _=>.stuck
section
variable {ce:Str->Option Addr}{X:Cx}{k:Nat}{fa C:Addr}{fd:FuncData}{ps:List Str}{f:List IV->IH->Res IV}{dvs:List IV}{ds:List Value}{x m:Str}{p pos apos:Pos}{e o:Expr}{es:List Expr}{mo:E1}{ma:A1}
theorem RUs.vals {K:W.Frag}{ι:List Addr}{H:Hp}{xs:List IV}{us:List Value}(r:RUs K ι H xs us):∃vs,Vals vs us/\RVs K ι H xs vs:=r
theorem Jm8 {pins:List (Addr×Obj)}{σ:L2.St}{H:Hp}{ι:List Addr}{σi:ISt}{h:IH}{s:Shared}{Q:Value->Shared->Prop}{E:Value->Shared->Prop}{us:List Value}{xs:List IV}(F:FnOk X.prog X.w X.K X.mg X.base (CXI X.prog X.w) k fa fd ps (spI ce X.K ps f)) (hr:Room k X.A) (hb:Je3 X.K fd ps ds)
  (hd:∃vs,Vals vs ds/\∀ι H,RVs X.K ι H dvs vs) (hlen:us.length+ds.length=ps.length) (N:Now ce X pins ι σi h σ H s) (r:RUs X.K ι H xs us) (K:Kont ce X RU pins ι σi σ H (f (xs++dvs) h) Q E):wpAny (model X.prog X.w) X.A (call (.ref fa) us) Q E s:=by
 obtain⟨vs,rv,q⟩:=r
 obtain⟨dv,rd,qd⟩:=hd
 have hl1:=rv.length
 have hl2:=rd.length
 refine wpAny_mono (J1n (Q:=λ z H'=>∀u s',Inv X pins σ H' s'->RelV z u->Q u s') (E:=λ v _ H'=>∀s',Inv X pins σ H' s'->E v s') F hr hb rd N.inv rv ⟨by rw[List.length_append];omega,ι,h,xs++dvs,N.rel,q.append (qd ι H),?_⟩ λ _ s' _ I' z=>z s' I')
  (λ u s' ⟨z,H',I',r',k'⟩=>k' u s' I' r') λ _ _ z=>z
 cases e:f (xs++dvs) h with
 | ok v h' =>
  rw[e] at K
  exact λ z H' ι' R' n' qz u s' I' ru=>K u s' H' ι' ⟨I',R',N.st.mono n'⟩ n' ⟨z,ru,qz⟩
 | exc n h' =>
  rw[e] at K
  exact λ a H' ι' R' n' hi s' I'=>K [] a s' H' ι' ⟨by simpa using I',R',N.st.mono n'⟩ n' hi
 | stuck=>rw[e] at K;exact K
theorem J29 (F:FnOk X.prog X.w X.K X.mg X.base (CXI X.prog X.w) k fa fd ps (spI ce X.K ps f)) (hr:Room k X.A) (hg:Gl X x) (hm:X.mg x=some (.ref fa)) (hk:W.keepIn X.K (.ref fa)=true) (hb:Je3 X.K fd ps ds) (hd:∃vs,Vals vs ds/\∀ι H,RVs X.K ι H dvs vs)
  (ha:PAi ce X (e::es) ma) (hlen:∀σ h xs h',ma σ h=.ok xs h'->xs.length+ds.length=ps.length) (hdb:(x==("__debug__":Str))=false:=by decide) (he:starEach (e::es) X.env=(false,eval e X.env)::starEach es X.env:=by rfl) (hpl:(backTo pos (starEach es X.env)).any (·.1)=false:=by rfl) :
  PEi ce X (.Call (.Name x p) (e::es) [] pos) (Jl f dvs ma):=by
 intro pins s σ H ι σi h Q E N K
 refine wpAny_Call_Name_kw (Jhn N.inv hg hm ?_ hdb)
 refine W.callWith_K (h₀:=X.base) N.inv.ok.mod.kin hk ?_ he hpl
 have K':=K
 unfold Jl at K'
 refine ha pos pins s σ H ι σi h _ E N ?_
 cases e0:ma σi h with
 | exc n h'=>rw[e0] at K';exact K'
 | stuck=>rw[e0] at K';exact K'
 | ok xs h' =>
  rw[e0] at K'
  intro us s1 H1 ι1 N1 n1 r1
  have hl:xs.length=us.length:=by
   obtain⟨vs,rv,q⟩:=r1
   rw[<- rv.length,q.length]
  exact⟨N1.inv.kIn,Jm8 (us:=us) F hr hb hd (by have:=hlen σi h xs h' e0;omega) N1 r1 (Kont.mono (r:=(f (xs++dvs) h')) K' n1)⟩
theorem J0t (F:FnOk X.prog X.w X.K X.mg X.base (CXI X.prog X.w) k fa fd ps (spI ce X.K ps f)) (hr:Room k X.A) (hg:Gl X x) (hm:X.mg x=some (.ref fa)) (hk:W.keepIn X.K (.ref fa)=true) (hb:Je3 X.K fd ps ds) (hd:∃vs,Vals vs ds/\∀ι H,RVs X.K ι H dvs vs)
  (hlen:ds.length=ps.length) (hdb:(x==("__debug__":Str))=false:=by decide):PEi ce X (.Call (.Name x p) [] [] pos) (Jl f dvs aNil):=by
 intro pins s σ H ι σi h Q E N K
 refine wpAny_Call_Name_kw (Jhn N.inv hg hm ?_ hdb)
 exact W.callWith_K0 N.inv.kIn hk (Jm8 (xs:=[]) F hr hb hd (by simpa using hlen) N .nil K)
theorem Jo4 {c:Str}{pins:List (Addr×Obj)}{σ:L2.St}{H:Hp}{ι:List Addr}{σi:ISt}{h:IH}{s:Shared}{Q:Value->Shared->Prop}{E:Value->Shared->Prop}{us:List Value}{xs:List IV}(M:Mk X.K C fa) (F:FnOk X.prog X.w X.K X.mg X.base (CXI X.prog X.w) k fa fd ps (spI ce X.K ps f)) (hC:ce c=some C) (hr:Room (k+1) X.A) (hb:Je3 X.K fd ps ds)
  (hd:∃vs,Vals vs ds/\∀ι H,RVs X.K ι H dvs vs) (hlen:us.length+ds.length+1=ps.length) (N:Now ce X pins ι σi h σ H s) (r:RUs X.K ι H xs us)
  (K:Kont ce X RU pins ι σi σ H ((f (.ref h.length::(xs++dvs)) (h++[.ins c []])).bind λ r h2=>match r with|.non=>.ok (.ref h.length) h2|_=>.stuck) Q E):wpAny (model X.prog X.w) X.A (call (.ref C) us) Q E s:=by
 obtain⟨vs,rv,q⟩:=r
 obtain⟨dv,rd,qd⟩:=hd
 have hl1:=rv.length
 have hl2:=rd.length
 refine wpAny_mono (Jwe (Q:=λ z H'=>∀u s',Inv X pins σ H' s'->RelV z u->Q u s') (E:=λ v _ H'=>∀s',Inv X pins σ H' s'->E v s') M F hr hb rd N.inv rv (λ x dx hx hdx hne=>⟨by rw[List.length_cons,List.length_append];omega,?_⟩) λ _ s' _ I' z=>z s' I')
  (λ u s' ⟨z,H',I',r',k'⟩=>k' u s' I' r') λ _ _ z=>z
 -- the new instance in the reading's heap
 obtain⟨R1,n1⟩:=N.rel.grow (o:=.own x) hdx
 have hx1:upd H dx (.own x) x=none:=by rw[Jg (Ne.symm hne)];exact hx
 obtain⟨R2,n2⟩:=R1.alloc (o:=.ins C dx []) (io:=.ins c []) hx1 ⟨C,dx,[],hC,Jf,rfl⟩
 have n12:=n1.trans n2
 have hat:(ι++[x])[h.length]?=some x:=by
  rw[<- N.rel.len,List.getElem?_append_right (Nat.le_refl _)]
  simp
 refine⟨ι++[x],h++[.ins c []],.ref h.length::(xs++dvs),R2,⟨_,_,rfl,⟨x,rfl,hat⟩,(RVs.mono n12 _ _ q).append (qd _ _)⟩,?_⟩
 cases e:f (.ref h.length::(xs++dvs)) (h++[.ins c []]) with
 | ok v h' =>
  rw[e] at K
  intro z H' ι' R' n' qz
  cases v with
  | non =>
   have ez:z=.non:=qz
   subst ez
   exact⟨rfl,λ u s' I' ru=>K u s' H' ι' ⟨I',R',N.st.mono (n12.trans n')⟩ (n12.trans n') ⟨.ref x,ru,x,rfl,n'.at hat⟩⟩
  | _=>exact Zf K
 | exc n h' =>
  rw[e] at K
  exact λ a H' ι' R' n' hi s' I'=>K [] a s' H' ι' ⟨by simpa using I',R',N.st.mono (n12.trans n')⟩ (n12.trans n') hi
 | stuck=>rw[e] at K;exact Zf K
theorem J3d {c:Str}(M:Mk X.K C fa) (F:FnOk X.prog X.w X.K X.mg X.base (CXI X.prog X.w) k fa fd ps (spI ce X.K ps f)) (hC:ce c=some C) (hr:Room (k+1) X.A) (hg:Gl X x) (hm:X.mg x=some (.ref C)) (hb:Je3 X.K fd ps ds) (hd:∃vs,Vals vs ds/\∀ι H,RVs X.K ι H dvs vs)
  (ha:PAi ce X (e::es) ma) (hlen:∀σ h xs h',ma σ h=.ok xs h'->xs.length+ds.length+1=ps.length) (hdb:(x==("__debug__":Str))=false:=by decide) (he:starEach (e::es) X.env=(false,eval e X.env)::starEach es X.env:=by rfl) (hpl:(backTo pos (starEach es X.env)).any (·.1)=false:=by rfl) :
  PEi ce X (.Call (.Name x p) (e::es) [] pos) (Jn4 c f dvs ma):=by
 intro pins s σ H ι σi h Q E N K
 refine wpAny_Call_Name_kw (Jhn N.inv hg hm ?_ hdb)
 refine W.callWith_K (h₀:=X.base) N.inv.ok.mod.kin M.kp ?_ he hpl
 have K':=K
 unfold Jn4 at K'
 refine ha pos pins s σ H ι σi h _ E N ?_
 cases e0:ma σi h with
 | exc n h'=>rw[e0] at K';exact K'
 | stuck=>rw[e0] at K';exact K'
 | ok xs h' =>
  rw[e0] at K'
  intro us s1 H1 ι1 N1 n1 r1
  have hl:xs.length=us.length:=by
   obtain⟨vs,rv,q⟩:=r1
   rw[<- rv.length,q.length]
  exact⟨N1.inv.kIn,Jo4 (us:=us) M F hC hr hb hd (by have:=hlen σi h xs h' e0;omega) N1 r1 (Kont.mono (r:=(f (IV.ref h'.length::(xs++dvs)) (h'++[.ins c []])).bind λ r h2=>match r with|IV.non=>Res.ok (IV.ref h'.length) h2|_=>Res.stuck) K' n1)⟩
theorem J0w {c:Str}(M:Mk X.K C fa) (F:FnOk X.prog X.w X.K X.mg X.base (CXI X.prog X.w) k fa fd ps (spI ce X.K ps f)) (hC:ce c=some C) (hr:Room (k+1) X.A) (hg:Gl X x) (hm:X.mg x=some (.ref C)) (hb:Je3 X.K fd ps ds) (hd:∃vs,Vals vs ds/\∀ι H,RVs X.K ι H dvs vs)
  (hlen:ds.length+1=ps.length) (hdb:(x==("__debug__":Str))=false:=by decide):PEi ce X (.Call (.Name x p) [] [] pos) (Jn4 c f dvs aNil):=by
 intro pins s σ H ι σi h Q E N K
 refine wpAny_Call_Name_kw (Jhn N.inv hg hm ?_ hdb)
 exact W.callWith_K0 N.inv.kIn M.kp (Jo4 (xs:=[]) M F hC hr hb hd (by simpa using hlen) N .nil K)
noncomputable def Jt4 (ce:Str->Option Addr) (X:Cx) (m:Str) (n:Nat) (disp:Str->Option ((List IV->IH->Res IV)×List IV)):Prop :=
 ∀c f dvs,disp c=some (f,dvs)->∃(C fa:Addr) (fd:FuncData) (k:Nat) (ps:List Str) (ds:List Value),ce c=some C/\Cls X.K C/\Meth X.K C m fa/\FnOk X.prog X.w X.K X.mg X.base (CXI X.prog X.w) k fa fd ps (spI ce X.K ps f)/\Room k X.A/\Je3 X.K fd ps ds/\(∃vs,Vals vs ds/\∀ι H,RVs X.K ι H dvs vs)/\n+ds.length+1=ps.length
theorem J3f {n:Nat}{disp:Str->Option ((List IV->IH->Res IV)×List IV)}{pl:Sem Bool}(ho:PEi ce X o mo) (hd:Jt4 ce X m n disp) (ha:PAi ce X (e::es) ma) (hlen:∀σ h xs h',ma σ h=.ok xs h'->xs.length=n)
  (hst:starEach (e::es) X.env=(false,eval e X.env)::starEach es X.env:=by rfl) (hpl:(backTo pos (starEach es X.env)).any (·.1)=false:=by rfl)
  (ht:eval (.Call (.Attribute o m apos) (e::es) [] pos) X.env=(do
   let ov<-eval o X.env
   standAt apos.atName
   let (f,first)<-holding [ov] (getMethod ov m pl)
   callWith pos f first (backTo pos (starEach (e::es) X.env)) (backToKw pos (keywordEach [] X.env))):=by rfl) :
  PEi ce X (.Call (.Attribute o m apos) (e::es) [] pos) (Jxg m disp mo ma):=by
 intro pins s σ H ι σi h Q E N K
 refine W.methodCall_KW (pl:=pl) (ho.run N K λ v h1 u s1 H1 ι1 N1 n1 r1 K1=>?_) ht
 cases v with
 | ref i =>
  obtain⟨w,rw',a,e1,hi⟩:=r1
  subst e1
  cases rw'
  dsimp only at K1
  cases hh:h1[i]? with
  | none=>rw[hh] at K1;exact Zf K1
  | some ob =>
   cases ob with
   | ins c fs =>
    rw[hh] at K1
    dsimp only at K1
    cases hd1:disp c with
    | none=>rw[hd1] at K1;exact Zf K1
    | some fd1 =>
     obtain⟨f,dvs⟩:=fd1
     cases hl:fs.lookup m with
     | some z=>rw[hd1,hl] at K1;exact Zf K1
     | none =>
      rw[hd1,hl] at K1
      dsimp only at K1
      obtain⟨C,fa,fd,k,ps,ds,hC,cl,hm,F,hr,hb,hdv,hn⟩:=hd c f dvs hd1
      obtain⟨C',dx,vs,hC',hH,rp⟩:=N1.at hh hi
      rw[hC] at hC'
      cases hC'
      refine Jla N1.inv hH cl hm ((RPs.lookup rp).2 hl) ?_
      refine W.callWith_K (first:=[.ref a]) (h₀:=X.base) N1.inv.ok.mod.kin hm.kp ?_ hst hpl
      refine ha pos pins s1 σ H1 ι1 σi h1 _ E N1 ?_
      cases e0:ma σi h1 with
      | exc n h'=>rw[e0] at K1;exact K1
      | stuck=>rw[e0] at K1;exact K1
      | ok xs h' =>
       rw[e0] at K1
       intro us s2 H2 ι2 N2 n2 r2
       have hl:xs.length=us.length:=by
        obtain⟨vs,rv,q⟩:=r2
        rw[<- rv.length,q.length]
       have hl2:=hlen σi h1 xs h' e0
       refine⟨N2.inv.kIn,Jm8 (us:=.ref a::us) (xs:=.ref i::xs) F hr hb hdv (by rw[List.length_cons];omega) N2 (.cons ⟨.ref a,rfl,a,rfl,n2.at hi⟩ r2) ?_⟩
       exact Kont.mono (r:=(f (.ref i::(xs++dvs)) h')) K1 n2
   | _=>rw[hh] at K1;exact Zf K1
 | _=>exact Zf K1
theorem J0x {disp:Str->Option ((List IV->IH->Res IV)×List IV)}{pl:Sem Bool}(ho:PEi ce X o mo) (hd:Jt4 ce X m 0 disp)
  (ht:eval (.Call (.Attribute o m apos) [] [] pos) X.env=(do
   let ov<-eval o X.env
   standAt apos.atName
   let (f,first)<-holding [ov] (getMethod ov m pl)
   callWith pos f first (backTo pos (starEach [] X.env)) (backToKw pos (keywordEach [] X.env))):=by rfl) :
  PEi ce X (.Call (.Attribute o m apos) [] [] pos) (Jxg m disp mo aNil):=by
 intro pins s σ H ι σi h Q E N K
 refine W.methodCall_KW (pl:=pl) (ho.run N K λ v h1 u s1 H1 ι1 N1 n1 r1 K1=>?_) ht
 cases v with
 | ref i =>
  obtain⟨w,rw',a,e1,hi⟩:=r1
  subst e1
  cases rw'
  dsimp only at K1
  cases hh:h1[i]? with
  | none=>rw[hh] at K1;exact Zf K1
  | some ob =>
   cases ob with
   | ins c fs =>
    rw[hh] at K1
    dsimp only at K1
    cases hd1:disp c with
    | none=>rw[hd1] at K1;exact Zf K1
    | some fd1 =>
     obtain⟨f,dvs⟩:=fd1
     cases hl:fs.lookup m with
     | some z=>rw[hd1,hl] at K1;exact Zf K1
     | none =>
      rw[hd1,hl] at K1
      dsimp only at K1
      obtain⟨C,fa,fd,k,ps,ds,hC,cl,hm,F,hr,hb,hdv,hn⟩:=hd c f dvs hd1
      obtain⟨C',dx,vs,hC',hH,rp⟩:=N1.at hh hi
      rw[hC] at hC'
      cases hC'
      refine Jla N1.inv hH cl hm ((RPs.lookup rp).2 hl) ?_
      exact W.callWith_K0 (first:=[.ref a]) N1.inv.kIn hm.kp (Jm8 (us:=[.ref a]) (xs:=[.ref i]) F hr hb hdv (by rw[List.length_cons,List.length_nil];omega) N1 (.cons ⟨.ref a,rfl,a,rfl,hi⟩ .nil) K1)
   | _=>rw[hh] at K1;exact Zf K1
 | _=>exact Zf K1
noncomputable def eFld (f:Str) (o:E1):E1:=λ σ h=>(o σ h).bind λ v h1=>match v with
 | .ref i=>(match h1[i]? with
  | some (.ins _ fs)=>(match fs.lookup f with
   | some x=>.ok x h1
   | none=>.stuck)
  | _=>.stuck)
 | _=>.stuck
noncomputable def Jt5 (ce:Str->Option Addr) (K:W.Frag) (f:Str):Prop:=∀c C,ce c=some C->Cls K C/\Jfn K C f
theorem i_fld {fl:Str}(ho:PEi ce X o mo) (hf:Jt5 ce X.K fl) (hb:attributeBase o fl X.env (eval o X.env)=eval o X.env:=by rfl):PEi ce X (.Attribute o fl pos) (eFld fl mo):=by
 intro pins s σ H ι σi h Q E N K
 refine J0a hb (ho.run N K λ v h1 u s1 H1 ι1 N1 n1 r1 K1=>?_)
 cases v with
 | ref i =>
  obtain⟨w,rw',a,e1,hi⟩:=r1
  subst e1
  cases rw'
  dsimp only at K1
  cases hh:h1[i]? with
  | none=>rw[hh] at K1;exact Zf K1
  | some ob =>
   cases ob with
   | ins c fs =>
    rw[hh] at K1
    dsimp only at K1
    cases hl:fs.lookup fl with
    | none=>rw[hl] at K1;exact Zf K1
    | some z =>
     rw[hl] at K1
     obtain⟨C,dx,vs,hC,hH,rp⟩:=N1.at hh hi
     obtain⟨cl,na⟩:=hf c C hC
     obtain⟨y,hy,q⟩:=(RPs.lookup rp).1 z hl
     exact Jk9 N1.inv hH cl na hy λ u' s2 I2 ru=>K1 u' s2 H1 ι1 ⟨I2,N1.rel,N1.st⟩ .refl ⟨y,ru,q⟩
   | _=>rw[hh] at K1;exact Zf K1
 | _=>exact Zf K1
noncomputable def putI (f:Str) (v:IV):List (Str×IV)->List (Str×IV)
 | []=>[(f,v)]
 | (g,x)::r=>if g=f then(g,v)::r else(g,x)::putI f v r
theorem RPs.put {K:W.Frag}{ι:List Addr}{H:Hp}{fl:Str}{v:IV}{y:V}(q:RV K ι H v y):∀{fs:List (Str×IV)}{vs:List (Str×V)},RPs K ι H fs vs->RPs K ι H (putI fl v fs) (putF fl y vs)
 | [],_,h=>by
  have e:_=[]:=h
  subst e
  exact⟨y,[],rfl,q,rfl⟩
 | (g,x)::r,_,h=>by
  obtain⟨w,vr,e,qx,t⟩:=h
  subst e
  show RPs K ι H (if g=fl then(g,v)::r else(g,x)::putI fl v r) (if g=fl then(g,y)::vr else(g,w)::putF fl y vr)
  by_cases hg:g=fl
  ·rw[if_pos hg,if_pos hg]
   exact⟨y,vr,rfl,q,t⟩
  ·rw[if_neg hg,if_neg hg]
   exact⟨w,_,rfl,qx,RPs.put q t⟩
noncomputable def Jkk (f:Str) (o e:E1):S1:=λ σ h=>rS σ (e σ h) λ v h1=>rS σ (o σ h1) λ ov h2=>match ov with
 | .ref i=>(match h2[i]? with
  | some (.ins c fs)=>if fs.length<1000 then .next σ (h2.set i (.ins c (putI f v fs))) else .stuck
  | _=>.stuck)
 | _=>.stuck
theorem s_fld {fl:Str}{value:Expr}{mv:E1}{pos':Pos}(ho:PEi ce X o mo) (hv:PEi ce X value mv) (hf:Jt5 ce X.K fl) (hs:swapsWith value (some (.Attribute o fl pos')) pos.line X.env=pure false:=by rfl):PS1 ce X (.Assign [.Attribute o fl pos'] value pos) (Jkk fl mo mv):=by
 intro pins s σ H ι σi h Q E N K
 refine plainObj_wpAny_Assign_Attribute (krun hv N K λ v h1 u s1 H1 ι1 N1 n1 r1 K1=>krun ho N1 K1 λ ov h2 w s2 H2 ι2 N2 n2 r2 K2=>?_) hs
 cases ov with
 | ref i =>
  obtain⟨w,rw',a,e1,hi⟩:=r2
  subst e1
  cases rw'
  dsimp only at K2
  cases hh:h2[i]? with
  | none=>rw[hh] at K2;exact Zf K2
  | some ob =>
   cases ob with
   | ins c fs =>
    rw[hh] at K2
    dsimp only at K2
    split at K2
    ·rename_i hz
     obtain⟨C,dx,vs,hC,hH,rp⟩:=N2.at hh hi
     obtain⟨cl,na⟩:=hf c C hC
     obtain⟨y,ry,q⟩:=r1
     refine Jlf N2.inv hH cl na (by rw[rp.length];exact hz) ry λ s3 I3=>?_
     have n3:Nxt ι2 H2 ι2 (upd H2 a (.ins C dx (putF fl y vs))):=⟨⟨[],by simp⟩,Ext.upd_mut hH (by rw[hH];exact True.intro)⟩
     obtain⟨R3,_⟩:=N2.rel.write (o:=.ins C dx (putF fl y vs)) (io:=.ins c (putI fl v fs)) hi hH (by rw[hH];exact True.intro) ⟨C,dx,_,hC,Jf,RPs.put (RV.mono (n2.trans n3) _ _ q) (RPs.mono n3 _ _ rp)⟩
     exact K2 s3 σ _ ι2 ⟨I3,R3,N2.st.mono n3⟩ n3
    ·exact Zf K2
   | _=>rw[hh] at K2;exact Zf K2
 | _=>exact Zf K2
end
section
variable {ce:Str->Option Addr}{X:Cx}{a b c:Expr}{ma mb mc:E1}{pos:Pos}
noncomputable def opIx:IV->IV->IH->Res IV
 | .ref i,.int k,h=>match h[i]? with
  | some (.lst xs)=>(match atI xs k with
   | some v=>.ok v h
   | none=>.stuck)
  | _=>.stuck
 | .rol xs,.int k,h=>match atI xs k with
  | some v=>.ok v h
  | none=>.stuck
 | .tup xs,.int k,h=>match atI xs k with
  | some v=>.ok v h
  | none=>.stuck
 | .str x,.int k,h=>if x.length<=sizeLine then(match atI x.cps.toList k with
  | some c=>.ok (.str ⟨#[c]⟩) h
  | none=>.stuck) else .stuck
 | _,_,_=>.stuck
theorem Jmp {K:W.Frag}{ι:List Addr}{H:Hp}{xs:List IV}{vs:List V}{k:Int}{v:IV}(r:RVs K ι H xs vs) (e:atI xs k=some v):∃u,atI vs k=some u/\RV K ι H v u:=by
 unfold atI at e ⊢
 rw[r.length]
 cases q:ixN xs.length k with
 | none=>rw[q] at e;cases e
 | some j =>
  rw[q] at e
  exact r.get e
noncomputable def IxI (ce:Str->Option Addr) (X:Cx) (g:IV->IV->IH->Res IV):Prop :=
 ∀(value slice:Expr) (pins:List (Addr×Obj)) (s:Shared) (σ:L2.St) (H:Hp) (ι:List Addr) (σi:ISt) (h:IH) (x y:IV) (v u:Value) (Q:Value->Shared->Prop) (E:Value->Shared->Prop),Now ce X pins ι σi h σ H s->RU X.K ι H x v->RU X.K ι H y u ->
  Kont ce X RU pins ι σi σ H (g x y h) Q E->subscripted slice false v u=operate [v,u] (getItem v u)->wpAny (model X.prog X.w) X.A (subscriptTail value slice v u) Q E s
theorem Jrz {pins:List (Addr×Obj)}{s:Shared}{σ:L2.St}{H:Hp}{Q:Value->Shared->Prop}{E:Value->Shared->Prop}{r:R2}{value slice:Expr}{x y:V}{v u:Value}(p:IxR (X.wish E) r) (I:Inv X pins σ H s) (rx:RelV x v) (ry:RelV y u)
  (k:r x y H λ z H'=>∀u s',Inv X pins σ H' s'->RelV z u->Q u s') (hs:subscripted slice false v u=operate [v,u] (getItem v u)):wpAny (model X.prog X.w) X.A (subscriptTail value slice v u) Q E s :=
 wpAny_mono (p value slice pins s σ H x y v u _ (I.wish E) rx ry k hs) (λ u s' ⟨_,_,I',r,q⟩=>q u s' I'.unwish r) λ _ _ z=>z
theorem x_ix:IxI ce X opIx:=by
 intro value slice pins s σ H ι σi h x y v u Q E N rx ry K hs
 obtain⟨xv,rx,qx⟩:=rx
 obtain⟨yv,ry,qy⟩:=ry
 cases y with
 | int k =>
  have e2:yv=.int k:=qy
  subst e2
  cases x with
  | ref i =>
   obtain⟨a,e1,ha⟩:=qx
   subst e1
   dsimp only[opIx] at K
   cases hi:h[i]? with
   | none=>rw[hi] at K;exact Zf K
   | some ob =>
    rw[hi] at K
    cases ob with
    | lst xs =>
     dsimp only at K
     cases hk:atI xs k with
     | none=>rw[hk] at K;exact Zf K
     | some z =>
      rw[hk] at K
      obtain⟨vs,e1,r1⟩:=N.at hi ha
      obtain⟨w,hw,qw⟩:=Jmp r1 hk
      exact Jrz (Jvp (X:=X.wish E)) N.inv rx ry ⟨a,vs,k,w,rfl,rfl,SqL.of e1,hw,fin0 N K qw⟩ hs
    | _=>exact Zf K
  | rol xs =>
   obtain⟨a,vs,e1,sa,ra⟩:=qx
   subst e1
   dsimp only[opIx] at K
   cases hk:atI xs k with
   | none=>rw[hk] at K;exact Zf K
   | some z =>
    rw[hk] at K
    obtain⟨w,hw,qw⟩:=Jmp ra hk
    exact Jrz (Jvp (X:=X.wish E)) N.inv rx ry ⟨a,vs,k,w,rfl,rfl,sa.sq,hw,fin0 N K qw⟩ hs
  | tup xs =>
   obtain⟨a,vs,e1,sa,ra⟩:=qx
   subst e1
   dsimp only[opIx] at K
   cases hk:atI xs k with
   | none=>rw[hk] at K;exact Zf K
   | some z =>
    rw[hk] at K
    obtain⟨w,hw,qw⟩:=Jmp ra hk
    exact Jrz (J3m (X:=X.wish E)) N.inv rx ry ⟨a,vs,k,w,rfl,rfl,sa,hw,fin0 N K qw⟩ hs
  | str x =>
   have e1:xv=.str x:=qx
   subst e1
   dsimp only[opIx] at K
   split at K
   ·rename_i hz
    cases hk:atI x.cps.toList k with
    | none=>rw[hk] at K;exact Zf K
    | some z =>
     rw[hk] at K
     exact Jrz (J3l (X:=X.wish E)) N.inv rx ry ⟨x,k,z,rfl,rfl,hz,hk,fin0 N K rfl⟩ hs
   ·exact Zf K
  | _=>exact Zf K
 | _=>cases x<;>exact Zf K
theorem i_ix {g:IV->IV->IH->Res IV}(hg:IxI ce X g) (ha:PEi ce X a ma) (hb:PEi ce X b mb) (hs:Jt6 b:=by intro _ _;rfl):PEi ce X (.Subscript a b pos) (eBin g ma mb):=λ pins s σ H ι σi h Q E N K =>
 Subscript_ (ha.run N K λ x h1 u s1 H1 ι1 N1 n1 r1 K1=>hb.run N1 K1 λ y h2 w s2 H2 ι2 N2 n2 r2 K2=>hg a b pins s2 σ H2 ι2 σi h2 x y u w Q E N2 (r1.mono n2) r2 K2 (hs _ _))
noncomputable abbrev O1:=ISt->IH->Res (Option Int)
noncomputable def RPart:REL (Option Int) Value:=λ _ _ _ o u=>IsPart u o
noncomputable def PPi (ce:Str->Option Addr) (X:Cx) (e:Option Expr) (m:O1):Prop:=PX ce X RPart (evalPart e X.env) m
noncomputable def Jm4:O1:=λ _ h=>.ok none h
noncomputable def Ji4 (e:E1):O1:=λ σ h=>(e σ h).bind λ v h1=>match v with
 | .int i=>.ok (some i) h1
 | _=>.stuck
theorem J39:PPi ce X none Jm4:=by
 intro pins s σ H ι σi h Q E N K
 rw[evalPart_none]
 exact wpAny_pure (K _ s H ι N .refl .none)
theorem J4a (ha:PEi ce X a ma):PPi ce X (some a) (Ji4 ma):=by
 intro pins s σ H ι σi h Q E N K
 rw[evalPart_some]
 refine ha.run N K λ x h1 u s1 H1 ι1 N1 n1 r1 K1=>?_
 cases x with
 | int i =>
  obtain⟨w,rw',q⟩:=r1
  have e:w=.int i:=q
  subst e
  obtain⟨t,rfl⟩:=rw'
  exact K1 _ s1 H1 ι1 N1 .refl (.int i t)
 | _=>exact Zf K1
noncomputable def cutI {α:Type}(xs:List α) (lo hi:Option Int):List α:=(xs.drop (HT.sIx xs.length 0 lo)).take (HT.sIx xs.length xs.length hi-HT.sIx xs.length 0 lo)
noncomputable def slI:IV->Option Int->Option Int->IH->Res IV
 | .ref i,lo,hi,h=>match h[i]? with
  | some (.lst xs)=>.ok (.ref h.length) (h++[.lst (cutI xs lo hi)])
  | _=>.stuck
 | .rol xs,lo,hi,h=>.ok (.ref h.length) (h++[.lst (cutI xs lo hi)])
 | _,_,_,_=>.stuck
theorem RVs.cut {K:W.Frag}{ι:List Addr}{H:Hp}{xs:List IV}{vs:List V}(r:RVs K ι H xs vs) (lo hi:Option Int):RVs K ι H (cutI xs lo hi) (cutV vs lo hi):=by
 unfold cutI cutV
 rw[r.length]
 exact(r.drop _).take _
noncomputable def eSl (f:IV->Option Int->Option Int->IH->Res IV) (e:E1) (lo hi:O1):E1:=λ σ h=>(e σ h).bind λ x h1=>(lo σ h1).bind λ l h2=>(hi σ h2).bind λ u h3=>f x l u h3
noncomputable def SlI (ce:Str->Option Addr) (X:Cx) (g:IV->Option Int->Option Int->IH->Res IV):Prop :=
 ∀(pins:List (Addr×Obj)) (s:Shared) (σ:L2.St) (H:Hp) (ι:List Addr) (σi:ISt) (h:IH) (x:IV) (v vl vu:Value) (lo hi:Option Int) (sl:Addr) (Q:Value->Shared->Prop) (E:Value->Shared->Prop),Now ce X pins ι σi h σ H s->RU X.K ι H x v->s.heap.IsSliceOf sl vl vu .none->IsPart vl lo->IsPart vu hi ->
  Kont ce X RU pins ι σi σ H (g x lo hi h) Q E->∃T id,typeLookup (.type T) "__getitem__"=pure (some (.builtin id))/\s.TypeIs v T/\wpAny (model X.prog X.w) X.A (getItem v (.ref sl)) Q E s
theorem Jz1 {pins:List (Addr×Obj)}{s:Shared}{σ:L2.St}{H:Hp}{Q:Value->Shared->Prop}{E:Value->Shared->Prop}{r:V->Option Int->Option Int->Hp->VK->Prop}{x:V}{v vl vu:Value}{lo hi:Option Int}{sl:Addr}(p:SlR (X.wish E) r) (I:Inv X pins σ H s) (rx:RelV x v)
  (hs:s.heap.IsSliceOf sl vl vu .none) (pl:IsPart vl lo) (pu:IsPart vu hi) (k:r x lo hi H λ z H'=>∀u s',Inv X pins σ H' s'->RelV z u->Q u s') :
  ∃T id,typeLookup (.type T) "__getitem__"=pure (some (.builtin id))/\s.TypeIs v T/\wpAny (model X.prog X.w) X.A (getItem v (.ref sl)) Q E s:=by
 obtain⟨T,id,h1,h2,h3⟩:=p pins s σ H x v vl vu lo hi sl _ (I.wish E) rx hs pl pu k
 exact⟨T,id,h1,h2,wpAny_mono h3 (λ u s' ⟨_,_,I',r,q⟩=>q u s' I'.unwish r) λ _ _ z=>z⟩
theorem J0y {g:IV->Option Int->Option Int->IH->Res IV}{lo hi:Option Expr}{ml mh:O1}{p2:Pos}(hr:SlI ce X g) (he:PEi ce X a ma) (hl:PPi ce X lo ml) (hu:PPi ce X hi mh):PEi ce X (.Subscript a (.Slice lo hi none p2) pos) (eSl g ma ml mh):=by
 intro pins s σ H ι σi h Q E N K
 refine Subscript_ (he.run N K λ x h1 v s1 H1 ι1 N1 n1 r1 K1=>?_)
 refine wpAny_Slice (PX.run hl N1 K1 λ l h2 vl s2 H2 ι2 N2 n2 pl K2=>PX.run hu N2 K2 λ u h3 vu s3 H3 ι3 N3 n3 pu K3=>?_)
 rw[evalPart_none]
 refine wpAny_pure ?_
 have I4:Inv X pins σ H3 { s3 with heap:=s3.heap.push { cls:=.type "slice",data:=.fields #[vl,vu,.none] } }:=N3.inv.kept (t':=s3.toks) λ b ob q=>Heap.get?_push_of_some _ q
 obtain⟨T,id,hT,ht,hg⟩:=hr pins { s3 with heap:=s3.heap.push { cls:=.type "slice",data:=.fields #[vl,vu,.none] } } σ H3 ι3 σi h3 x v vl vu l u s3.heap.objs.size Q E ⟨I4,N3.rel,N3.st⟩ ((r1.mono n2).mono n3) (Heap.IsSliceOf.new ..) pl pu K3
 show wpAny (model X.prog X.w) X.A (subscriptTail a (.Slice lo hi none p2) v (.ref s3.heap.objs.size)) Q E { s3 with heap:=s3.heap.push { cls:=.type "slice",data:=.fields #[vl,vu,.none] } }
 exact tail_any (ops:=[.ref s3.heap.objs.size,v]) ht hT hg (by with_unfolding_all rfl)
noncomputable def eCB (f:List IV->IH->Res IV) (a:A1):E1:=λ σ h=>(a σ h).bind f
variable {es:List Expr}{mr:A1}{x:Str}{p:Pos}{id T:String}{g:List IV->IH->Res IV}
theorem Jhk (hc:Jjk ce X (.builtin id) g) (hg:Gl X x) (hm:X.mg x=none) (hv:bootBuiltins x=some (.builtin id)) (ha:PAi ce X (a::es) mr) (hn:x≠"__name__":=by decide) (hdb:(x==("__debug__":Str))=false:=by decide)
  (he:starEach (a::es) X.env=(false,eval a X.env)::starEach es X.env:=by rfl) (hpl:(backTo pos (starEach es X.env)).any (·.1)=false:=by rfl):PEi ce X (.Call (.Name x p) (a::es) [] pos) (eCB g mr):=λ pins s σ H ι σi h Q E N K =>
 wpAny_Call_Name_kw (Jc2 N.inv hg hm hv (PyProof.Rows.callWith_builtin1 ((ha pos).run N K λ xs h1 us s1 H1 ι1 N1 n1 r1 K1=>hc pins s1 σ H1 ι1 σi h1 xs us Q E N1 r1 K1) he hpl) hn hdb)
theorem Jvf (hc:Jjk ce X (.type T) g) (hg:Gl X x) (hm:X.mg x=none) (hv:bootBuiltins x=some (.type T)) (ha:PAi ce X (a::es) mr) (hn:x≠"__name__":=by decide) (hdb:(x==("__debug__":Str))=false:=by decide)
  (he:starEach (a::es) X.env=(false,eval a X.env)::starEach es X.env:=by rfl) (hpl:(backTo pos (starEach es X.env)).any (·.1)=false:=by rfl):PEi ce X (.Call (.Name x p) (a::es) [] pos) (eCB g mr):=λ pins s σ H ι σi h Q E N K =>
 wpAny_Call_Name_kw (Jc2 N.inv hg hm hv (PyProof.Rows.callWith_type1 ((ha pos).run N K λ xs h1 us s1 H1 ι1 N1 n1 r1 K1=>hc pins s1 σ H1 ι1 σi h1 xs us Q E N1 r1 K1) he hpl) hn hdb)
noncomputable def on1 (f:IV->IH->Res IV):List IV->IH->Res IV
 | [x],h=>f x h
 | _,_=>.stuck
noncomputable def on2 (f:IV->IV->IH->Res IV):List IV->IH->Res IV
 | [x,y],h=>f x y h
 | _,_=>.stuck
theorem RVs.one_of {K:W.Frag}{ι:List Addr}{H:Hp}{x:IV}{vs:List V}(r:RVs K ι H [x] vs):∃v,vs=[v]/\RV K ι H x v:=by
 obtain⟨v,r',e,q,q2⟩:=r
 have e2:r'=[]:=q2
 subst e2
 exact⟨v,e,q⟩
theorem RVs.two_of {K:W.Frag}{ι:List Addr}{H:Hp}{x y:IV}{vs:List V}(r:RVs K ι H [x,y] vs):∃v w,vs=[v,w]/\RV K ι H x v/\RV K ι H y w:=by
 obtain⟨v,r',e,q,r2⟩:=r
 obtain⟨w,e2,q2⟩:=r2.one_of
 subst e2
 exact⟨v,w,e,q,q2⟩
theorem Jpw {fv:Value}{f:IV->IH->Res IV}(hh:∀(pins:List (Addr×Obj)) (s:Shared) (σ:L2.St) (H:Hp) (ι:List Addr) (σi:ISt) (h:IH) (x:IV) (xv:V) (u:Value) (Q:Value->Shared->Prop) (E:Value->Shared->Prop),Now ce X pins ι σi h σ H s->RelV xv u->RV X.K ι H x xv ->
  Kont ce X RU pins ι σi σ H (f x h) Q E->wpAny (model X.prog X.w) X.A (call fv [u]) Q E s):Jjk ce X fv (on1 f):=by
 intro pins s σ H ι σi h xs us Q E N r K
 obtain⟨vs,rv,q⟩:=r
 match xs,K with
 | [x],K =>
  obtain⟨v,e,qx⟩:=q.one_of
  subst e
  obtain⟨u,rfl,ru⟩:=Jk3 rv
  exact hh pins s σ H ι σi h x v u Q E N ru qx K
 | [],K=>exact Zf K
 | _::_::_,K=>exact Zf K
noncomputable def lenI:IV->IH->Res IV
 | .str x,h=>if x.length<=sizeLine then .ok (.int x.length) h else .stuck
 | .tup xs,h=>.ok (.int xs.length) h
 | .rol xs,h=>.ok (.int xs.length) h
 | .ref i,h=>match h[i]? with
  | some (.lst xs)=>.ok (.int xs.length) h
  | _=>.stuck
 | _,_=>.stuck
theorem c_len:Jjk ce X (.builtin "len") (on1 lenI):=Jpw λ pins s σ H ι σi h x xv u Q E N ru qx K=>by
 cases x with
 | str y =>
  have e:xv=.str y:=qx
  subst e
  dsimp only[lenI] at K
  split at K
  ·rename_i hz
   exact Jag (Jjb (X:=X.wish E)) N.inv (.cons ru .nil) ⟨_,_,rfl,⟨hz,rfl⟩,fin0 N K rfl⟩
  ·exact Zf K
 | tup xs =>
  obtain⟨a,vs,e1,sa,ra⟩:=qx
  subst e1
  exact Jag (Jjb (X:=X.wish E)) N.inv (.cons ru .nil) ⟨_,xs.length,rfl,.inr ⟨vs,sa,ra.length.symm⟩,fin0 N K rfl⟩
 | rol xs =>
  obtain⟨a,vs,e1,sa,ra⟩:=qx
  subst e1
  exact Jag (Jjb (X:=X.wish E)) N.inv (.cons ru .nil) ⟨_,xs.length,rfl,.inl ⟨vs,sa.sq,ra.length.symm⟩,fin0 N K rfl⟩
 | ref i =>
  obtain⟨a,e1,ha⟩:=qx
  subst e1
  dsimp only[lenI] at K
  cases hi:h[i]? with
  | none=>rw[hi] at K;exact Zf K
  | some ob =>
   rw[hi] at K
   cases ob with
   | lst xs =>
    obtain⟨vs,e1,r1⟩:=N.at hi ha
    exact Jag (Jjb (X:=X.wish E)) N.inv (.cons ru .nil) ⟨_,xs.length,rfl,.inl ⟨vs,SqL.of e1,r1.length.symm⟩,fin0 N K rfl⟩
   | _=>exact Zf K
 | _=>exact Zf K
end
noncomputable def ALen (n:Nat) (m:A1):Prop:=∀σ h xs h',m σ h=.ok xs h'->xs.length=n
theorem Jw6:ALen 0 aNil:=λ _ _ xs _ e=>by
 unfold aNil at e
 cases e
 rfl
theorem Jt8 {n:Nat}{e:E1}{r:A1}(hr:ALen n r):ALen (n+1) (Ja e r):=λ σ h xs h' q=>by
 unfold Ja at q
 cases e1:e σ h with
 | ok x h1 =>
  rw[e1] at q
  change (r σ h1).bind (λ xs h2=>.ok (x::xs) h2)=_ at q
  cases e2:r σ h1 with
  | ok ys h2 =>
   rw[e2] at q
   cases q
   rw[List.length_cons,hr σ h1 ys _ e2]
  | exc n h2=>rw[e2] at q;cases q
  | stuck=>rw[e2] at q;cases q
 | exc n h1=>rw[e1] at q;cases q
 | stuck=>rw[e1] at q;cases q
theorem hl1 {n:Nat}{ma:A1}{ds:List Value}{ps:List Str}(l:ALen n ma) (hn:n+ds.length+1=ps.length:=by rfl):∀σ h xs h',ma σ h=.ok xs h'->xs.length+ds.length+1=ps.length:=λ σ h xs h' e=>by
 rw[l σ h xs h' e]
 exact hn
noncomputable def Jti (K:W.Frag) (x:Str) (f:List IV->IH->Res IV):Sp:=λ vs H Q E=>∀ce,spI ce K [x] f vs H Q E
theorem Jxh {P:Program}{w:World}{K:W.Frag}{mg:Str->Option Value}{base:Heap}{k:Nat}{fa:Addr}{fd:FuncData}{x:Str}{f:List IV->IH->Res IV}{ce:Str->Option Addr}(F:FnOk P w K mg base (CXI P w) k fa fd [x] (spI ce K [x] f)) :
  FnOk P w K mg base (CXI P w) k fa fd [x] (Jti K x f):=F.imp λ _ _ _ _ h=>h ce
noncomputable def toD (h:IH):Nat->IV->Option PyData
 | 0=>λ v=>match v with
  | .non=>some .none
  | .bl b=>some (.bool b)
  | .int i=>some (.int i)
  | .str x=>some (.str x)
  | _=>none
 | n+1=>λ v=>match v with
  | .non=>some .none
  | .bl b=>some (.bool b)
  | .int i=>some (.int i)
  | .str x=>some (.str x)
  | .tup xs=>(xs.mapM (toD h n)).map .tuple
  | .rol xs=>(xs.mapM (toD h n)).map .list
  | .ref i=>match h[i]? with
   | some (.lst xs)=>(xs.mapM (toD h n)).map .list
   | _=>none
section
variable {ce:Str->Option Addr}{X:Cx}
theorem Jcx {pins:List (Addr×Obj)}{s:Shared}{σ:L2.St}{H:Hp}{ι:List Addr}{σi:ISt}{h:IH}{n:Nat}(N:Now ce X pins ι σi h σ H s)
  (ih:∀(v:IV) (d:PyData) (x:V) (u:Value),toD h n v=some d->RV X.K ι H v x->RelV x u->∃as,Reads s.heap u d as) :
  ∀(xs:List IV) (ds:List PyData) (vs:List V) (us:List Value),xs.mapM (toD h n)=some ds->RVs X.K ι H xs vs->Vals vs us->∃as,ReadsAll s.heap us ds as
 | [],ds,vs,us,e,q,r=>by
  have e1:vs=[]:=q
  subst e1
  cases r
  simp at e
  subst e
  exact⟨_,.nil⟩
 | x::xs,ds,vs,us,e,q,r=>by
  obtain⟨v,vr,e1,q1,q2⟩:=q
  subst e1
  cases r with
  | cons r1 r2 =>
   rw[List.mapM_cons] at e
   cases e2:toD h n x with
   | none=>rw[e2] at e;cases e
   | some d =>
    rw[e2] at e
    cases e3:xs.mapM (toD h n) with
    | none=>rw[e3] at e;cases e
    | some dr =>
     rw[e3] at e
     cases e
     obtain⟨as,h1⟩:=ih x d v _ e2 q1 r1
     obtain⟨bs,h2⟩:=Jcx N ih xs dr vr _ e3 q2 r2
     exact⟨_,.cons h1 h2⟩
theorem Jjg {pins:List (Addr×Obj)}{s:Shared}{σ:L2.St}{H:Hp}{ι:List Addr}{σi:ISt}{h:IH}(N:Now ce X pins ι σi h σ H s):∀(n:Nat) (v:IV) (d:PyData) (x:V) (u:Value),toD h n v=some d->RV X.K ι H v x->RelV x u->∃as,Reads s.heap u d as:=by
 have flat:∀(v:IV) (d:PyData) (x:V) (u:Value),toD h 0 v=some d->RV X.K ι H v x->RelV x u->∃as,Reads s.heap u d as:=by
  intro v d x u e q r
  cases v with
  | non=>cases e;have e1:x=.non:=q;subst e1;cases r;exact⟨_,.none⟩
  | bl b=>cases e;have e1:x=.bl b:=q;subst e1;cases r;exact⟨_,.bool b⟩
  | int i=>cases e;have e1:x=.int i:=q;subst e1;obtain⟨t,rfl⟩:=r;exact⟨_,.int i t⟩
  | str z=>cases e;have e1:x=.str z:=q;subst e1;obtain⟨t,rfl⟩:=r;exact⟨_,.str z t⟩
  | _=>cases e
 intro n
 induction n with
 | zero=>exact flat
 | succ n ih =>
  intro v d x u e q r
  cases v with
  | non=>exact flat .non d x u e q r
  | bl b=>exact flat (.bl b) d x u e q r
  | int i=>exact flat (.int i) d x u e q r
  | str z=>exact flat (.str z) d x u e q r
  | tup xs =>
   obtain⟨a,vs,e1,sa,ra⟩:=q
   subst e1
   cases r
   obtain⟨ds,e2,rfl⟩:=Option.map_eq_some_iff.mp (show(xs.mapM (toD h n)).map PyData.tuple=some d from e)
   obtain⟨its,rv,⟨o,ho,hc,m,hd⟩,hz⟩:=N.inv.tuple sa
   obtain⟨as,h1⟩:=Jcx N ih xs ds vs its e2 ra rv
   exact⟨_,.tuple ho hc hd h1⟩
  | rol xs =>
   obtain⟨a,vs,e1,sa,ra⟩:=q
   subst e1
   cases r
   obtain⟨ds,e2,rfl⟩:=Option.map_eq_some_iff.mp (show(xs.mapM (toD h n)).map PyData.list=some d from e)
   obtain⟨its,rv,⟨o,m,ho,hc,_,hd⟩,hz⟩:=N.inv.list sa.sq
   obtain⟨as,h1⟩:=Jcx N ih xs ds vs its e2 ra rv
   exact⟨_,.list ho hc hd h1⟩
  | ref i =>
   obtain⟨a,e1,ha⟩:=q
   subst e1
   cases r
   have e':(match h[i]? with|some (.lst xs)=>(xs.mapM (toD h n)).map PyData.list|_=>none)=some d:=e
   cases hi:h[i]? with
   | none=>rw[hi] at e';cases e'
   | some ob =>
    rw[hi] at e'
    cases ob with
    | lst xs =>
     obtain⟨ds,e2,rfl⟩:=Option.map_eq_some_iff.mp e'
     obtain⟨vs,e1,r1⟩:=N.at hi ha
     obtain⟨its,rv,⟨o,m,ho,hc,_,hd⟩,hz⟩:=N.inv.list (SqL.of e1)
     obtain⟨as,h1⟩:=Jcx N ih xs ds vs its e2 r1 rv
     exact⟨_,.list ho hc hd h1⟩
    | _=>cases e'
theorem Jct {n:Nat}{f:IV->Option PyData}(hf:∀v d,f v=some d->d.depth<=n):∀(xs:List IV) (ds:List PyData),xs.mapM f=some ds->PyData.depthAll ds<=n
 | [],ds,e=>by simp at e;subst e;exact Nat.zero_le _
 | x::xs,ds,e=>by
  rw[List.mapM_cons] at e
  cases e2:f x with
  | none=>rw[e2] at e;cases e
  | some d =>
   rw[e2] at e
   cases e3:xs.mapM f with
   | none=>rw[e3] at e;cases e
   | some dr =>
    rw[e3] at e
    cases e
    have h1:=hf x d e2
    have h2:=Jct hf xs dr e3
    show max d.depth (PyData.depthAll dr)<=n
    omega
theorem Jpm {h:IH}:∀(n:Nat) (v:IV) (d:PyData),toD h n v=some d->d.depth<=n:=by
 intro n
 induction n with
 | zero =>
  intro v d e
  cases v<;>cases e<;>exact Nat.le_refl _
 | succ n ih =>
  intro v d e
  cases v with
  | non=>cases e;exact Nat.zero_le _
  | bl b=>cases e;exact Nat.zero_le _
  | int i=>cases e;exact Nat.zero_le _
  | str z=>cases e;exact Nat.zero_le _
  | tup xs =>
   obtain⟨ds,e2,rfl⟩:=Option.map_eq_some_iff.mp (show(xs.mapM (toD h n)).map PyData.tuple=some d from e)
   exact Nat.succ_le_succ (Jct ih xs ds e2)
  | rol xs =>
   obtain⟨ds,e2,rfl⟩:=Option.map_eq_some_iff.mp (show(xs.mapM (toD h n)).map PyData.list=some d from e)
   exact Nat.succ_le_succ (Jct ih xs ds e2)
  | ref i =>
   have e':(match h[i]? with|some (.lst xs)=>(xs.mapM (toD h n)).map PyData.list|_=>none)=some d:=e
   cases hi:h[i]? with
   | none=>rw[hi] at e';cases e'
   | some ob =>
    rw[hi] at e'
    cases ob with
    | lst xs =>
     obtain⟨ds,e2,rfl⟩:=Option.map_eq_some_iff.mp e'
     exact Nat.succ_le_succ (Jct ih xs ds e2)
    | _=>cases e'
noncomputable def Jhb:IV->IV->Option Bool
 | .non,.non=>some true
 | .int i,.int j=>some (decide (i=j))
 | .str i,.str j=>some (decide (i=j))
 | .bl i,.bl j=>some (decide (i=j))
 | _,_=>none
noncomputable def Jfd (x y:IV) (h:IH):Option Bool:=match toD h 6 x,toD h 6 y with
 | some a,some b=>if a.canLay0=true/\b.canLay0=true then some (PyData.eqv a b) else none
 | _,_=>none
noncomputable def cEq (x y:IV) (h:IH):Res IV:=match Jhb x y with
 | some b=>.ok (.bl b) h
 | none=>match Jfd x y h with
  | some b=>.ok (.bl b) h
  | none=>.stuck
noncomputable def cNe (x y:IV) (h:IH):Res IV:=match Jhb x y with
 | some b=>.ok (.bl (!b)) h
 | none=>match Jfd x y h with
  | some b=>.ok (.bl (!b)) h
  | none=>.stuck
theorem Jq9 {x y:IV}{h:IH}{b:Bool}(e:Jfd x y h=some b):∃da db,toD h 6 x=some da/\toD h 6 y=some db/\da.canLay0=true/\db.canLay0=true/\b=PyData.eqv da db:=by
 unfold Jfd at e
 cases e1:toD h 6 x with
 | none=>rw[e1] at e;cases e
 | some da =>
  cases e2:toD h 6 y with
  | none=>rw[e1,e2] at e;cases e
  | some db =>
   rw[e1,e2] at e
   dsimp only at e
   split at e
   ·rename_i hz
    cases e
    exact⟨da,db,rfl,rfl,hz.1,hz.2,rfl⟩
   ·cases e
theorem Jpi {K:W.Frag}{ι:List Addr}{H:Hp}{x y:IV}{b:Bool}{xv yv:V}(e:Jhb x y=some b) (qx:RV K ι H x xv) (qy:RV K ι H y yv):scal xv yv=true/\decide (xv=yv)=b:=by
 cases x with
 | non =>
  cases y with
  | non=>cases e;cases (show xv=.non from qx);cases (show yv=.non from qy);exact⟨rfl,rfl⟩
  | _=>cases e
 | int i =>
  cases y with
  | int j=>cases e;cases (show xv=.int i from qx);cases (show yv=.int j from qy);exact⟨rfl,by simp⟩
  | _=>cases e
 | str i =>
  cases y with
  | str j=>cases e;cases (show xv=.str i from qx);cases (show yv=.str j from qy);exact⟨rfl,by simp⟩
  | _=>cases e
 | bl i =>
  cases y with
  | bl j=>cases e;cases (show xv=.bl i from qx);cases (show yv=.bl j from qy);exact⟨rfl,by simp⟩
  | _=>cases e
 | _=>cases y<;>cases e
theorem o_eq (hu:X.A.units+64<cLine):OpI ce X (compareOp .Eq) cEq:=by
 intro pins s σ H ι σi h x y v u Q E N rx ry K
 obtain⟨xv,rx,qx⟩:=rx
 obtain⟨yv,ry,qy⟩:=ry
 unfold cEq at K
 cases es:Jhb x y with
 | some b =>
  rw[es] at K
  obtain⟨h1,h2⟩:=Jpi es qx qy
  exact Jab (op_eq (X:=X.wish E)) N.inv rx ry ⟨h1,by rw[h2];exact fin0 N K rfl⟩
 | none =>
  rw[es] at K
  dsimp only at K
  cases ed:Jfd x y h with
  | none=>rw[ed] at K;exact Zf K
  | some b =>
   rw[ed] at K
   obtain⟨da,db,e1,e2,c1,c2,rfl⟩:=Jq9 ed
   obtain⟨as,r1⟩:=Jjg N 6 x da xv v e1 qx rx
   obtain⟨bs,r2⟩:=Jjg N 6 y db yv u e2 qy ry
   have d1:=Jpm 6 x da e1
   exact PySem.SeqAt.compareEq_reads r1 r2 c1 c2 (by omega) (fin0 N K rfl _ s N.inv rfl)
theorem o_ne (hu:X.A.units+64<cLine):OpI ce X (compareOp .NotEq) cNe:=by
 intro pins s σ H ι σi h x y v u Q E N rx ry K
 obtain⟨xv,rx,qx⟩:=rx
 obtain⟨yv,ry,qy⟩:=ry
 unfold cNe at K
 cases es:Jhb x y with
 | some b =>
  rw[es] at K
  obtain⟨h1,h2⟩:=Jpi es qx qy
  exact Jab (op_ne (X:=X.wish E)) N.inv rx ry ⟨h1,by rw[h2];exact fin0 N K rfl⟩
 | none =>
  rw[es] at K
  dsimp only at K
  cases ed:Jfd x y h with
  | none=>rw[ed] at K;exact Zf K
  | some b =>
   rw[ed] at K
   obtain⟨da,db,e1,e2,c1,c2,rfl⟩:=Jq9 ed
   obtain⟨as,r1⟩:=Jjg N 6 x da xv v e1 qx rx
   obtain⟨bs,r2⟩:=Jjg N 6 y db yv u e2 qy ry
   have d1:=Jpm 6 x da e1
   exact PySem.SeqAt.compareNe_reads r1 r2 c1 c2 (by omega) (fin0 N K rfl _ s N.inv rfl)
noncomputable def inI (x c:IV) (h:IH):Option Bool:=match toD h 6 c,toD h 6 x with
 | some (.list ds),some d=>if PyData.canLayAll0 ds=true/\d.canLay0=true then some (ds.any λ y=>PyData.eqv y d) else none
 | some (.tuple ds),some d=>if PyData.canLayAll0 ds=true/\d.canLay0=true then some (ds.any λ y=>PyData.eqv y d) else none
 | _,_=>none
noncomputable def cIn (x c:IV) (h:IH):Res IV:=match inI x c h with
 | some b=>.ok (.bl b) h
 | none=>.stuck
noncomputable def cNotIn (x c:IV) (h:IH):Res IV:=match inI x c h with
 | some b=>.ok (.bl (!b)) h
 | none=>.stuck
noncomputable def isI:IV->IV->Option Bool
 | .non,.non=>some true
 | .bl a,.bl b=>some (a==b)
 | .bl _,.non=>some false
 | .int _,.non=>some false
 | .str _,.non=>some false
 | .tup _,.non=>some false
 | .rol _,.non=>some false
 | .ref _,.non=>some false
 | .non,.bl _=>some false
 | .int _,.bl _=>some false
 | .str _,.bl _=>some false
 | .tup _,.bl _=>some false
 | .rol _,.bl _=>some false
 | .ref _,.bl _=>some false
 | _,_=>none
noncomputable def cIs (x y:IV) (h:IH):Res IV:=match isI x y with
 | some b=>.ok (.bl b) h
 | none=>.stuck
noncomputable def Jj1 (x y:IV) (h:IH):Res IV:=match isI x y with
 | some b=>.ok (.bl (!b)) h
 | none=>.stuck
theorem Jzg {K:W.Frag}{ι:List Addr}{H:Hp}{x y:IV}{b:Bool}{v u:Value}(e:isI x y=some b) (rx:RU K ι H x v) (ry:RU K ι H y u):plainIs v u=true/\(v==u)=b:=by
 obtain⟨xv,rx,qx⟩:=rx
 obtain⟨yv,ry,qy⟩:=ry
 cases y with
 | non =>
  cases (show yv=.non from qy)
  cases ry
  cases x with
  | non=>cases e;cases (show xv=.non from qx);cases rx;exact⟨rfl,rfl⟩
  | bl c=>cases e;cases (show xv=.bl c from qx);cases rx;exact⟨rfl,rfl⟩
  | int c=>cases e;cases (show xv=.int c from qx);obtain⟨t,rfl⟩:=rx;exact⟨rfl,rfl⟩
  | str c=>cases e;cases (show xv=.str c from qx);obtain⟨t,rfl⟩:=rx;exact⟨rfl,rfl⟩
  | tup c=>cases e;obtain⟨a,vs,rfl,_⟩:=qx;cases rx;exact⟨rfl,rfl⟩
  | rol c=>cases e;obtain⟨a,vs,rfl,_⟩:=qx;cases rx;exact⟨rfl,rfl⟩
  | ref c=>cases e;obtain⟨a,rfl,_⟩:=qx;cases rx;exact⟨rfl,rfl⟩
 | bl d =>
  cases (show yv=.bl d from qy)
  cases ry
  cases x with
  | non=>cases e;cases (show xv=.non from qx);cases rx;exact⟨rfl,rfl⟩
  | bl c=>cases e;cases (show xv=.bl c from qx);cases rx;cases c<;>cases d<;>exact⟨rfl,rfl⟩
  | int c=>cases e;cases (show xv=.int c from qx);obtain⟨t,rfl⟩:=rx;exact⟨rfl,rfl⟩
  | str c=>cases e;cases (show xv=.str c from qx);obtain⟨t,rfl⟩:=rx;exact⟨rfl,rfl⟩
  | tup c=>cases e;obtain⟨a,vs,rfl,_⟩:=qx;cases rx;exact⟨rfl,rfl⟩
  | rol c=>cases e;obtain⟨a,vs,rfl,_⟩:=qx;cases rx;exact⟨rfl,rfl⟩
  | ref c=>cases e;obtain⟨a,rfl,_⟩:=qx;cases rx;exact⟨rfl,rfl⟩
 | _=>cases x<;>cases e
theorem o_is:OpI ce X (compareOp .Is) cIs:=by
 intro pins s σ H ι σi h x y v u Q E N rx ry K
 unfold cIs at K
 cases ei:isI x y with
 | none=>rw[ei] at K;exact Zf K
 | some b =>
  rw[ei] at K
  obtain⟨h1,h2⟩:=Jzg ei rx ry
  exact wpAny_is_plain h1 (by rw[h2];exact fin0 N K rfl _ s N.inv rfl)
theorem J1d:OpI ce X (compareOp .IsNot) Jj1:=by
 intro pins s σ H ι σi h x y v u Q E N rx ry K
 unfold Jj1 at K
 cases ei:isI x y with
 | none=>rw[ei] at K;exact Zf K
 | some b =>
  rw[ei] at K
  obtain⟨h1,h2⟩:=Jzg ei rx ry
  exact wpAny_isNot_plain h1 (by rw[h2];exact fin0 N K rfl _ s N.inv rfl)
inductive Ty where
 | non|bl|int|str|lst|tup|dct|ins (c:Str)|exc (c:Str)
noncomputable def tyI:IV->IH->Option Ty
 | .non,_=>some .non
 | .bl _,_=>some .bl
 | .int _,_=>some .int
 | .str _,_=>some .str
 | .tup _,_=>some .tup
 | .rol _,_=>some .lst
 | .ref i,h=>match h[i]? with
  | some (.lst _)=>some .lst
  | some (.dct _)=>some .dct
  | some (.ins c _)=>some (.ins c)
  | _=>none
structure ClsI (K:W.Frag) (C:Addr):Prop where
 cl:Cls K C
 ha:W.findIn K (.ref C) "__class__"=some (some (.builtin "object.__class__"))
 hn:W.specialIn K (.builtin "object.__class__") "__get__"=some (some (.builtin "getset_descriptor.__get__"))
 htk:W.takesIn K (.builtin "object.__class__")=some true
 hm:W.mroIn K C (.type "object")=some true
structure IsOk (ce:Str->Option Addr) (K:W.Frag) (c:Value) (ans:Ty->Option Bool):Prop where
 non:∀b,ans .non=some b->W.kitOne K (.type "NoneType") c=some b
 bl:∀b,ans .bl=some b->W.kitOne K (.type "bool") c=some b
 int:∀b,ans .int=some b->W.kitOne K (.type "int") c=some b
 str:∀b,ans .str=some b->W.kitOne K (.type "str") c=some b
 lst:∀b,ans .lst=some b->W.kitOne K (.type "list") c=some b
 tup:∀b,ans .tup=some b->W.kitOne K (.type "tuple") c=some b
 dct:∀b,ans .dct=some b->W.kitOne K (.type "dict") c=some b
 ins:∀k C b,ans (.ins k)=some b->ce k=some C->ClsI K C/\W.kitOne K (.ref C) c=some b
 exc:∀k C b,ans (.exc k)=some b->W.nsIn K mainGlobals k=some (some (.ref C))->ExI K C/\W.kitOne K (.ref C) c=some b
noncomputable def eIsi (ans:Ty->Option Bool) (e:E1):E1:=λ σ h=>(e σ h).bind λ v h1=>match (tyI v h1).bind ans with
 | some b=>.ok (.bl b) h1
 | none=>.stuck
theorem J00 {pins:List (Addr×Obj)}{s:Shared}{σ:L2.St}{H:Hp}{ι:List Addr}{σi:ISt}{h:IH}{x:IV}{u c:Value}{ans:Ty->Option Bool}{b:Bool}{Q:Value->Shared->Prop}{E:Value->Shared->Prop}{A:Around}(N:Now ce X pins ι σi h σ H s) (rx:RU X.K ι H x u) (O:IsOk ce X.K c ans)
  (e:(tyI x h).bind ans=some b) (hq:∀tk,Q (.bool b) { s with toks:=tk }):wpAny (model X.prog X.w) A (call (.builtin "isinstance") [u,c]) Q E s:=by
 obtain⟨xv,rx,qx⟩:=rx
 cases x with
 | non=>cases (show xv=.non from qx);cases rx;exact W.kia_one W.kitx_none N.inv.kIn True.intro (O.non b e) (λ z=>nomatch z) hq
 | bl i=>cases (show xv=.bl i from qx);cases rx;exact W.kia_one W.kitx_bool N.inv.kIn True.intro (O.bl b e) (λ z=>nomatch z) hq
 | int i=>cases (show xv=.int i from qx);obtain⟨t,rfl⟩:=rx;exact W.kia_one W.kitx_int N.inv.kIn True.intro (O.int b e) (λ z=>nomatch z) hq
 | str i=>cases (show xv=.str i from qx);obtain⟨t,rfl⟩:=rx;exact W.kia_one W.kitx_str N.inv.kIn True.intro (O.str b e) (λ z=>nomatch z) hq
 | tup xs =>
  obtain⟨a,vs,rfl,sa,_⟩:=qx
  cases rx
  obtain⟨its,rv,⟨o,ho,hc,m,hd⟩,hz⟩:=N.inv.tuple sa
  exact W.kia_one W.kitx_tuple N.inv.kIn ⟨o,ho,hc⟩ (O.tup b e) (λ z=>nomatch z) hq
 | rol xs =>
  obtain⟨a,vs,rfl,sa,_⟩:=qx
  cases rx
  obtain⟨its,rv,⟨o,m,ho,hc,_,hd⟩,hz⟩:=N.inv.list sa.sq
  exact W.kia_one W.kitx_list N.inv.kIn ⟨o,ho,hc⟩ (O.lst b e) (λ z=>nomatch z) hq
 | ref i =>
  obtain⟨a,rfl,ha⟩:=qx
  cases rx
  cases hi:h[i]? with
  | none=>simp[tyI,hi] at e
  | some ob =>
   cases ob with
   | lst xs =>
    simp only[tyI,hi] at e
    obtain⟨vs,e1,r1⟩:=N.at hi ha
    obtain⟨its,rv,⟨o,m,ho,hc,_,hd⟩,hz⟩:=N.inv.list (SqL.of e1)
    exact W.kia_one W.kitx_list N.inv.kIn ⟨o,ho,hc⟩ (O.lst b e) (λ z=>nomatch z) hq
   | dct kvs =>
    simp only[tyI,hi] at e
    obtain⟨vs,e1,r1⟩:=N.at hi ha
    obtain⟨_,_,ws,_,p⟩:=(show Jas X.prog X.w H s.heap a (.dK vs) from N.inv.hok a _ e1)
    obtain⟨o,es,ep,h1,h2,_⟩:=p
    exact W.kia_one W.kitx_dict N.inv.kIn ⟨o,h1,h2.1⟩ (O.dct b e) (λ z=>nomatch z) hq
   | ins c fs =>
    simp only[tyI,hi] at e
    obtain⟨C,dx,vs,hC,hH,rp⟩:=N.at hi ha
    obtain⟨I,hk⟩:=O.ins c C b e hC
    obtain⟨mA,Ob,_⟩:=Jmz N.inv.hok hH
    obtain⟨od,J,_⟩:=Ob.look
    exact W.kia_one (W.kitx_own (I.cl.get _) I.cl.hd I.ha I.hn I.htk I.hm) N.inv.kIn J hk (λ z=>nomatch z) hq
   | exc c fs=>simp[tyI,hi] at e
   | hld c fs=>simp[tyI,hi] at e
   | tab q=>simp[tyI,hi] at e
variable {a cx:Expr}{ma:E1}{pos p:Pos}
noncomputable def ClsE (X:Cx) (cx:Expr) (c:Value):Prop:=∀(pins:List (Addr×Obj)) (σ:L2.St) (H:Hp) (s:Shared) (Q:Value->Shared->Prop) (E:Value->Shared->Prop),Inv X pins σ H s->Q c s->wpAny (model X.prog X.w) X.A (eval cx X.env) Q E s
theorem Jj2 {x:Str}{c:Value}(hg:Gl X x) (hm:X.mg x=none) (hv:bootBuiltins x=some c) (hn:x≠"__name__":=by decide) (hdb:(x==("__debug__":Str))=false:=by decide):ClsE X (.Name x p) c:=λ _ _ _ _ _ _ I q=>Jc2 I hg hm hv q hn hdb
theorem J0e {x:Str}{c:Value}(hg:Gl X x) (hm:X.mg x=some c) (hdb:(x==("__debug__":Str))=false:=by decide):ClsE X (.Name x p) c:=λ _ _ _ _ _ _ I q=>Jhn I hg hm q hdb
theorem i_isi {ans:Ty->Option Bool}{c:Value}(hc:ClsE X cx c) (O:IsOk ce X.K c ans) (ha:PEi ce X a ma) (hg:Gl X "isinstance") (hm:X.mg "isinstance"=none) (hv:bootBuiltins "isinstance"=some (.builtin "isinstance"):=by rfl)
  (he:starEach [a,cx] X.env=(false,eval a X.env)::starEach [cx] X.env:=by rfl) (he2:starEach [cx] X.env=(false,eval cx X.env)::starEach [] X.env:=by rfl) (hpl:(backTo pos (starEach [cx] X.env)).any (·.1)=false:=by rfl):PEi ce X (.Call (.Name "isinstance" p) [a,cx] [] pos) (eIsi ans ma):=by
 intro pins s σ H ι σi h Q E N K
 refine wpAny_Call_Name_kw (Jc2 N.inv hg hm hv ?_ (by decide) (by decide))
 refine PyProof.Rows.callWith_builtin1 ?_ he hpl
 rw[he]
 show wpAny _ _ (spliced ((false,eval a X.env)::backTo pos (starEach [cx] X.env))) _ _ s
 refine Calls.spliced_cons (ha.run N K λ x h1 u s1 H1 ι1 N1 n1 r1 K1=>?_)
 rw[he2]
 show wpAny _ _ (spliced ((false,eval cx X.env)::backTo pos (starEach [] X.env))) _ _ s1
 refine Calls.spliced_cons (hc pins σ H1 s1 _ E N1.inv ?_)
 refine Calls.spliced_nil ?_
 cases e:(tyI x h1).bind ans with
 | none=>rw[e] at K1;exact Zf K1
 | some b =>
  rw[e] at K1
  exact J00 N1 r1 O e λ tk=>K1 _ _ H1 ι1 ⟨N1.inv.tok tk,N1.rel,N1.st⟩ .refl ⟨.bl b,rfl,rfl⟩
noncomputable def Jer:Ty->Option Bool
 | .int=>some true|.bl=>some true|.ins _=>none|.exc _=>none|_=>some false
noncomputable def Jbi:Ty->Option Bool
 | .bl=>some true|.ins _=>none|.exc _=>none|_=>some false
noncomputable def Jfo:Ty->Option Bool
 | .str=>some true|.ins _=>none|.exc _=>none|_=>some false
noncomputable def Ja1:Ty->Option Bool
 | .lst=>some true|.ins _=>none|.exc _=>none|_=>some false
noncomputable def Jda:Ty->Option Bool
 | .tup=>some true|.ins _=>none|.exc _=>none|_=>some false
theorem Jvn {K:W.Frag}:IsOk ce K (.type "bool") Jbi:=by
 refine⟨?_,?_,?_,?_,?_,?_,?_,(λ k C b e=>by cases e),(λ k C b e=>by cases e)⟩<;>(intro b e;cases e;first|rfl|with_unfolding_all rfl|kernel_rfl)
theorem Jxr {K:W.Frag}:IsOk ce K (.type "str") Jfo:=by
 refine⟨?_,?_,?_,?_,?_,?_,?_,(λ k C b e=>by cases e),(λ k C b e=>by cases e)⟩<;>(intro b e;cases e;first|rfl|with_unfolding_all rfl|kernel_rfl)
theorem Joi {K:W.Frag}:IsOk ce K (.type "list") Ja1:=by
 refine⟨?_,?_,?_,?_,?_,?_,?_,(λ k C b e=>by cases e),(λ k C b e=>by cases e)⟩<;>(intro b e;cases e;first|rfl|with_unfolding_all rfl|kernel_rfl)
theorem Jxs {K:W.Frag}:IsOk ce K (.type "tuple") Jda:=by
 refine⟨?_,?_,?_,?_,?_,?_,?_,(λ k C b e=>by cases e),(λ k C b e=>by cases e)⟩<;>(intro b e;cases e;first|rfl|with_unfolding_all rfl|kernel_rfl)
theorem Jxq {K:W.Frag}:IsOk ce K (.type "int") Jer:=by
 refine⟨?_,?_,?_,?_,?_,?_,?_,(λ k C b e=>by cases e),(λ k C b e=>by cases e)⟩<;>(intro b e;cases e;first|rfl|with_unfolding_all rfl|kernel_rfl)
end
noncomputable def clOf (cells:List (Str×Addr)):List (Str×NameKind)->List (Str×Addr)->List (Str×Addr)
 | [],acc=>acc
 | (n,k)::r,acc=>clOf cells r (if (k==NameKind.free)=true then(match cells.lookup n with|some c=>(n,c)::acc|none=>acc) else acc)
theorem Jkr {env:Env}(names:List (Str×NameKind)) (acc:List (Str×Addr)) (h:∀x∈names,x.2=.free->∃c,env.cells.lookup x.1=some c) :
  (forIn names acc (λ (x:Str×NameKind) (r:List (Str×Addr))=>if (x.2==NameKind.free)=true then(do let c<-cellOf env x.1;pure (ForInStep.yield ((x.1,c)::r))) else pure (ForInStep.yield r)):Sem (List (Str×Addr)))=pure (clOf env.cells names acc):=by
 induction names generalizing acc with
 | nil=>rfl
 | cons x r ih =>
  obtain⟨n,k⟩:=x
  have ih':=λ a=>ih a λ y hy=>h y (List.mem_cons_of_mem _ hy)
  rw[List.forIn_cons]
  by_cases hk:(k==NameKind.free)=true
  ·have hk':k=.free:=by
    cases k<;>first|rfl|exact absurd hk (by decide)
   obtain⟨c,hc⟩:=h (n,k) List.mem_cons_self hk'
   have e1:cellOf env n=pure c:=by unfold cellOf;rw[hc]
   simp only[hk,if_true,e1,pure_bind]
   rw[ih']
   simp only[clOf,hk,if_true,hc]
  ·simp only[hk,Bool.false_eq_true,if_false,pure_bind]
   rw[ih']
   simp only[clOf,hk,Bool.false_eq_true,if_false]
theorem Jgq {scope:Scope}{env:Env}(h:∀x∈scope.names,x.2=.free->∃c,env.cells.lookup x.1=some c):closureFor scope env=pure (clOf env.cells scope.names []):=by
 have e:=Jkr (env:=env) scope.names [] h
 have e2:closureFor scope env=((forIn scope.names [] (λ (x:Str×NameKind) (r:List (Str×Addr))=>if (x.2==NameKind.free)=true then(do let c<-cellOf env x.1;pure (ForInStep.yield ((x.1,c)::r))) else pure (ForInStep.yield r)):Sem (List (Str×Addr)))>>=λ s=>pure s):=rfl
 rw[e2,e]
 rfl
theorem Jmu {cells:List (Str×Addr)}:∀(names:List (Str×NameKind)) (acc:List (Str×Addr)),(∀x c,acc.lookup x=some c->cells.lookup x=some c)->∀x c,(clOf cells names acc).lookup x=some c->cells.lookup x=some c
 | [],_,h,x,c,e=>h x c e
 | (n,k)::r,acc,h,x,c,e=>by
  refine Jmu r _ ?_ x c e
  intro y d q
  split at q
  ·cases hc:cells.lookup n with
   | none=>rw[hc] at q;exact h y d q
   | some a =>
    rw[hc] at q
    simp only[List.lookup_cons] at q
    cases hb:y==n with
    | true =>
     rw[hb] at q
     cases q
     rw[beq_iff_eq.mp hb]
     exact hc
    | false =>
     rw[hb] at q
     exact h y d q
  ·exact h y d q
theorem Jnx {cells:List (Str×Addr)}:∀(names:List (Str×NameKind)) (acc:List (Str×Addr)) (x:Str),(acc.lookup x).isSome=true->((clOf cells names acc).lookup x).isSome=true
 | [],_,_,h=>h
 | (n,k)::r,acc,x,h=>by
  refine Jnx r _ x ?_
  split
  ·cases hc:cells.lookup n with
   | none=>exact h
   | some a =>
    simp only[List.lookup_cons]
    cases hb:x==n with
    | true=>rfl
    | false=>exact h
  ·exact h
theorem Jgp {cells:List (Str×Addr)}:∀(names:List (Str×NameKind)) (acc:List (Str×Addr)) (x:Str) (c:Addr),(x,NameKind.free)∈names->cells.lookup x=some c->((clOf cells names acc).lookup x).isSome=true
 | [],_,_,_,h,_=>by simp at h
 | (n,k)::r,acc,x,c,h,hc=>by
  rcases List.mem_cons.mp h with e|e
  ·obtain⟨rfl,rfl⟩:=Prod.mk.inj e
   refine Jnx r _ _ ?_
   simp[hc]
  ·exact Jgp r _ x c e hc
theorem Jbl {env:Env}:∀{names:List (Str×NameKind)}{x:Str}{k:NameKind},
  (names.map λ (n,k)=>if (k==NameKind.free&&env.scope.kind==.function&&env.kindOf n==some .cell) then(n,NameKind.cell) else(n,k)).lookup x=some k ->
  ∃k0,names.lookup x=some k0/\(k,k0)∈([(k0,k0),(.cell,.free)]:List (NameKind×NameKind))
 | [],_,_,h=>by simp at h
 | (n,k1)::r,x,k,h=>by
  have ih:=@Jbl env r x k
  have h':List.lookup x ((if (k1==NameKind.free&&env.scope.kind==.function&&env.kindOf n==some .cell)=true then(n,NameKind.cell) else(n,k1))::_)=some k:=h
  cases hx:x==n with
  | true =>
   refine⟨k1,by simp[List.lookup_cons,hx],?_⟩
   by_cases hc:(k1==NameKind.free&&env.scope.kind==.function&&env.kindOf n==some .cell)=true
   ·rw[if_pos hc] at h'
    simp only[List.lookup_cons,hx] at h'
    cases h'
    simp only[Bool.and_eq_true,beq_iff_eq] at hc
    rw[hc.1.1]
    simp
   ·rw[if_neg hc] at h'
    simp only[List.lookup_cons,hx] at h'
    cases h'
    simp
  | false =>
   have h2:List.lookup x (r.map λ (n,k)=>if (k==NameKind.free&&env.scope.kind==.function&&env.kindOf n==some .cell) then(n,NameKind.cell) else(n,k))=some k:=by
    by_cases hc:(k1==NameKind.free&&env.scope.kind==.function&&env.kindOf n==some .cell)=true
    ·rw[if_pos hc] at h';simpa only[List.lookup_cons,hx] using h'
    ·rw[if_neg hc] at h';simpa only[List.lookup_cons,hx] using h'
   obtain⟨k0,e,m⟩:=ih h2
   exact⟨k0,by simp only[List.lookup_cons,hx];exact e,m⟩
theorem Jiy {env:Env}:∀{names:List (Str×NameKind)}{x:Str},names.lookup x=some .free ->
  ∃k,(names.map λ (n,k)=>if (k==NameKind.free&&env.scope.kind==.function&&env.kindOf n==some .cell) then(n,NameKind.cell) else(n,k)).lookup x=some k/\(k=.cell∨k=.free)
 | [],_,h=>by simp at h
 | (n,k1)::r,x,h=>by
  have ih:=@Jiy env r x
  cases hx:x==n with
  | true =>
   simp only[List.lookup_cons,hx] at h
   cases h
   by_cases hc:(NameKind.free==NameKind.free&&env.scope.kind==.function&&env.kindOf n==some .cell)=true
   ·exact⟨.cell,by rw[List.map_cons];dsimp only;rw[if_pos hc];simp only[List.lookup_cons,hx],.inl rfl⟩
   ·exact⟨.free,by rw[List.map_cons];dsimp only;rw[if_neg hc];simp only[List.lookup_cons,hx],.inr rfl⟩
  | false =>
   simp only[List.lookup_cons,hx] at h
   obtain⟨k,e,q⟩:=ih h
   refine⟨k,?_,q⟩
   rw[List.map_cons]
   dsimp only
   by_cases hc:(k1==NameKind.free&&env.scope.kind==.function&&env.kindOf n==some .cell)=true
   ·rw[if_pos hc];simp only[List.lookup_cons,hx];exact e
   ·rw[if_neg hc];simp only[List.lookup_cons,hx];exact e
noncomputable def cxC (X:Cx) (N':List Str) (scope:Scope) (C:Addr) (s:Shared) (H:Hp) (fp:List Addr):Cx :=
 { X with N:=N',s₀:=s,H₀:=H,env:=compEnvC scope (clOf X.env.cells scope.names []) C X.env,outer:=X.stack,ex:=fp,fn:=λ _=>false,pn:=[] }
noncomputable def Jc0 (N0 loc caps:List Str) (js:List Nat) (sc₀ scope:Scope):Bool :=
 decide (scope.kind=.function)&&decide (sc₀.kind=.function)&&scope.names.all (λ x=>!(x.2==.cell))&&scope.names.all (λ x=>!(x.2==.local)||decide (scope.names.lookup x.1=some .local)) &&
 scope.names.all (λ x=>!(x.2==.free)||decide (sc₀.names.lookup x.1=some .cell)||decide (sc₀.names.lookup x.1=some .free)) &&
 scope.names.all (λ x=>!(decide (scope.names.lookup x.1=some .free))||(x.2==.free)) &&
 (js.zip caps).all (λ p=>decide (N0[p.1]?=some p.2)&&decide (scope.names.lookup p.2=some .free))&&decide (js.length=caps.length)&&decide (loc++caps).Nodup &&
 loc.all (λ n=>decide (scope.names.lookup n=some .local))
open Classical in
noncomputable def Jc6 (chk:IH->Prop) (g:G1) (t:T1) (e:E1) (i0:Nat):List IV->ISt->IH->Res IV
 | [],_,h=>if chk h then .ok (.ref i0) h else .stuck
 | x::xs,σ,h=>if chk h then(match g x σ h with
   | .next σ1 h1=>(match t σ1 h1 with
    | .ok true h2=>(match e σ1 h2 with
     | .ok v h3=>(match h3[i0]? with
      | some (.lst acc)=>if acc.length<sizeLine then Jc6 chk g t e i0 xs σ1 (h3.set i0 (.lst (acc++[v]))) else .stuck
      | _=>.stuck)
     | _=>.stuck)
    | .ok false h2=>Jc6 chk g t e i0 xs σ1 h2
    | _=>.stuck)
   | _=>.stuck) else .stuck
noncomputable def stC (nloc:Nat) (js:List Nat) (σ:ISt):ISt:=List.replicate nloc none++js.map λ j=>(σ[j]?).join
noncomputable def J0 (it:I1) (nloc:Nat) (js:List Nat) (g:G1) (t:T1) (e:E1):E1:=λ σ h=>(it σ h).bind λ J h1=>Jc6 J.chk g t e h1.length J.xs (stC nloc js σ) (h1++[.lst []])
theorem Jnz {prog:Program}{w:World}{A:Around}{R:Result->Shared->Prop}{s:Shared}{elt target iter:Expr}{ifs:List Expr}{scope:Scope}{pos:Pos}{it acc:Value}{env:Env}(I:Nat->Shared->Prop)
  (turn:∀n s,I n s->wpAny (model prog w) A (pyNext it) (λ r s₁=>match r with
   | none=>R (.ok .next) s₁
   | some v=>wpAny (model prog w) A (letOwnedTupleGo target it v) (λ _ s₁'=>wpAny (model prog w) A (assign target env v) (λ _ s₂ =>
     wpAny (model prog w) A (forIn ifs true λ c r=>if r=true then do let ok<-isTrue c env (eval c env);pure (ForInStep.yield ok) else pure (ForInStep.yield r)) (λ ok s₃ =>
      if ok=true then wpAny (model prog w) A (eval elt env) (λ x s₄ =>
       wpAny (model prog w) A (call (.builtin "list.append") [acc,x]) (λ _ s₅=>∃m,m<n/\I m s₅) (λ _ _=>False) s₄) (λ _ _=>False) s₃
      else ∃m,m<n/\I m s₃) (λ _ _=>False) s₂) (λ _ _=>False) s₁') (λ _ _=>False) s₁) (λ _ _=>False) s)
  (n:Nat) (h:I n s):codeAny (model prog w) A (.compLoop (.ListComp elt [⟨target,iter,ifs,0⟩] scope pos) 0 it acc env) R s:=by
 refine codeAny_loop rfl I (λ n s hI=>?_) n h
 show wpAny _ A ((compTurn (.ListComp elt [⟨target,iter,ifs,0⟩] scope pos) 0 it acc env).onRaise (λ x=>do noteFrame x env;theTreesLotGoes x)) _ _ s
 refine wpAny_noted (nof ?_)
 rw[compTurn_list]
 refine wpAny_bind (wpAny_standAt (wpAny_bind (wpAny_mono (turn n s hI) (λ r s₁ h₁=>?_) λ _ _ h'=>h')))
 cases r with
 | none=>exact wpAny_pure h₁
 | some v =>
  refine wpAny_bind (wpAny_mono h₁ (λ _ s₁' h₁'=>?_) λ _ _ h'=>h')
  refine wpAny_bind (wpAny_mono h₁' (λ _ s₂ h₂=>wpAny_bind (wpAny_mono h₂ (λ ok s₃ h₃=>?_) λ _ _ h'=>h')) λ _ _ h'=>h')
  cases ok with
  | false=>exact wpAny_pure ⟨rfl,h₃⟩
  | true =>
   exact wpAny_bind (wpAny_bind (wpAny_mono h₃ (λ x s₄ h₄=>wpAny_bind (wpAny_mono h₄ (λ _ s₅ h₅=>wpAny_pure (wpAny_pure ⟨rfl,h₅⟩)) λ _ _ h'=>h')) λ _ _ h'=>h'))
noncomputable def PTsi (ce:Str->Option Addr) (X:Cx) (ifs:List Expr) (m:T1):Prop:=PX ce X RB (forIn ifs true λ c r=>if r=true then do let ok<-isTrue c X.env (eval c X.env);pure (ForInStep.yield ok) else pure (ForInStep.yield r)) m
noncomputable def Jaa:T1:=λ _ h=>.ok true h
theorem Jzv {ce:Str->Option Addr}{X:Cx}:PTsi ce X [] Jaa:=λ _ s _ H ι _ _ _ _ N K=>wpAny_tests_nil (K true s H ι N .refl rfl)
theorem Jzw {ce:Str->Option Addr}{X:Cx}{c:Expr}{m:T1}(hc:PTi ce X c m):PTsi ce X [c] m:=λ pins s σ H ι σi h Q E N K=>wpAny_tests_one (hc pins s σ H ι σi h Q E N K)
noncomputable def Jmj (ce:Str->Option Addr) (X:Cx) (use:Option (Value->Sem Unit)) (pins:List (Addr×Obj)) (ι:List Addr) (σi:ISt) (σ:L2.St) (H:Hp) (r:Res IV) (Q:Value->Shared->Prop) (E:Value->Shared->Prop):Prop :=
 match r with
 | .ok v h'=>∀D C m s' H' ι',Now ce X pins ι' σi h' σ H' s'->Nxt ι H ι' H'->RU X.K ι' H' v (.ref D)->s'.heap.Ns C m->FpOk X pins H' C->compPost (model X.prog X.w) X.A E use Q (.ref D) C (.ok .next) s'
 | .exc n h'=>∀pl a s' H' ι',Now ce X (pins++pl) ι' σi h' σ H' s'->Nxt ι H ι' H'->ι'[n]?=some a->E (.ref a) s'
 | .stuck=>False
theorem Jmj.mono {ce:Str->Option Addr}{X:Cx}{use:Option (Value->Sem Unit)}{pins:List (Addr×Obj)}{ι ι':List Addr}{σi:ISt}{σ:L2.St}{H H':Hp}{r:Res IV}{Q:Value->Shared->Prop}{E:Value->Shared->Prop}(k:Jmj ce X use pins ι σi σ H r Q E) (n:Nxt ι H ι' H'):Jmj ce X use pins ι' σi σ H' r Q E:=by
 cases r with
 | ok v h'=>exact λ D C m s' H2 ι2 N n2 q=>k D C m s' H2 ι2 N (n.trans n2) q
 | exc m h'=>exact λ pl a s' H2 ι2 N n2 q=>k pl a s' H2 ι2 N (n.trans n2) q
 | stuck=>exact k
noncomputable def Warm (A:Around) (H:Hp):Prop:=∃a oe u vs,A.handled=some (.ref a)/\H a=some (.frz oe u)/\oe.data=.fields vs/\vs[2]?=some .none
theorem Warm.mono {A:Around}{H H':Hp}(x:Ext H H') (w:Warm A H):Warm A H':=let ⟨a,oe,u,vs,e1,e2,e3,e4⟩:=w;⟨a,oe,u,vs,e1,x.frzs _ _ _ e2,e3,e4⟩
structure TurnC (P:Program) (w:World) (C:Cx->Hp->Prop) (tg:Expr) (J:It) (fp:List Addr) (it:Addr) (tn:Nat->Heap->Prop):Prop where
 obj:∀i h,tn i h->∀b∈fp,∃o,h.get? b=some o/\∀v,o.data≠.cell v
 keep:∀i h h',tn i h->(∀b∈fp,∀o,h.get? b=some o->h'.get? b=some o)->tn i h'
 item:∀(X:Cx) (i:Nat) (s:Shared) (σ:L2.St) (H:Hp),C X H->Inv X [] σ H s->(∀b∈fp,FpOk X [] H b)->tn i s.heap->J.go i H ->
  wpAny (model P w) X.A (pyNext (.ref it)) (λ r s1=>∃u,r=some u/\wpAny (model P w) X.A (letOwnedTupleGo tg (.ref it) u) (λ _ s2=>∃x H',Inv X [] σ H' s2/\RelV x u/\J.yld i H x H'/\tn (i+1) s2.heap/\∀b∈fp,H' b=none) (λ _ _=>False) s1) (λ _ _=>False) s
 done:∀(X:Cx) (i:Nat) (s:Shared) (σ:L2.St) (H:Hp),C X H->Inv X [] σ H s->(∀b∈fp,FpOk X [] H b)->tn i s.heap->J.stop i H->wpAny (model P w) X.A (pyNext (.ref it)) (λ r s1=>r=none/\Inv X [] σ H s1) (λ _ _=>False) s
 self:∀(A:Around) (i:Nat) (s:Shared) (Q:Value->Shared->Prop) (E:Value->Shared->Prop),tn i s.heap->Q (.ref it) s->wpAny (model P w) A (pyIter (.ref it)) Q E s
noncomputable def CalmC (X0:Cx) (X:Cx) (_:Hp):Prop:=X.prog=X0.prog/\X.w=X0.w/\X.K=X0.K/\X.calm=true
noncomputable def RItC (C:Cx->Hp->Prop) (ce:Str->Option Addr) (X:Cx) (tg:Expr) (pins:List (Addr×Obj)) (ι':List Addr) (I:ItI) (itv:Value) (s2:Shared) (H':Hp):Prop :=
 ∃(it:Addr) (fp:List Addr) (tn:Nat->Heap->Prop) (J:It),itv=.ref it/\TurnC X.prog X.w C tg J fp it tn/\tn 0 s2.heap/\(∀b∈fp,FpOk X pins H' b)/\ItOk ce X.K ι' H' J I
noncomputable def PIc (C:Cx->Hp->Prop) (ce:Str->Option Addr) (X:Cx) (tg iter:Expr) (m:I1):Prop :=
 ∀(pins:List (Addr×Obj)) (s:Shared) (σ:L2.St) (H:Hp) (ι:List Addr) (σi:ISt) (h:IH) (Q:Value->Shared->Prop) (E:Value->Shared->Prop),Now ce X pins ι σi h σ H s ->
  (match m σi h with
   | .ok I h'=>∀itv s' H' ι',Now ce X pins ι' σi h' σ H' s'->Nxt ι H ι' H'->RItC C ce X tg pins ι' I itv s' H'->Q itv s'
   | .exc n h'=>∀pl a s' H' ι',Now ce X (pins++pl) ι' σi h' σ H' s'->Nxt ι H ι' H'->ι'[n]?=some a->E (.ref a) s'
   | .stuck=>False) ->
  wpAny (model X.prog X.w) X.A (eval iter X.env) (λ v s1=>wpAny (model X.prog X.w) X.A (pyIter v) Q E s1) E s
theorem PIi.c {ce:Str->Option Addr}{X:Cx}{tg iter:Expr}{m:I1}(p:PIi ce X tg iter m):PIc (CalmC X) ce X tg iter m:=λ pins s σ H ι σi h Q E N k=>p pins s σ H ι σi h Q E N (by
 cases e:m σi h with
 | exc n h'=>rw[e] at k;exact k
 | stuck=>rw[e] at k;exact k
 | ok I h' =>
  rw[e] at k
  intro itv s' H' ι' N' n' ⟨it,fp,tn,J,e1,T,r⟩
  refine k itv s' H' ι' N' n' ⟨it,fp,tn,J,e1,⟨T.obj,T.keep,λ X' i s σ H c=>?_,λ X' i s σ H c=>?_,T.self⟩,r⟩
  ·exact T.item X' c.1 c.2.1 c.2.2.1 c.2.2.2 i [] s σ H _
  ·exact T.done X' c.1 c.2.1 c.2.2.1 c.2.2.2 i [] s σ H _)
section
variable {ce:Str->Option Addr}{X:Cx}
theorem Jn0 {N0 loc caps:List Str}{js:List Nat}{sc₀ scope:Scope}{tg iter elt:Expr}{ifs:List Expr}{mi:I1}{g:G1}{mt:T1}{me:E1}{pos ppos:Pos}{use:Option (Value->Sem Unit)}{Cc:Cx->Hp->Prop}(hi:PIc Cc ce X tg iter mi)
  (hg:∀C s H fp,PGi ce (cxC X (loc++caps) scope C s H fp) tg g) (ht:∀C s H fp,PTsi ce (cxC X (loc++caps) scope C s H fp) ifs mt) (he:∀C s H fp,PEi ce (cxC X (loc++caps) scope C s H fp) elt me)
  (ok:Jc0 N0 loc caps js sc₀ scope=true) (hN0:X.N=N0:=by rfl) (hsc:X.env.scope=sc₀:=by rfl) (hs:∀x,foldedSetIterable iter X.env x=pure x:=by intro _;rfl)
  {pins:List (Addr×Obj)}{s:Shared}{σ:L2.St}{H:Hp}{ι:List Addr}{σi:ISt}{h:IH}{Q:Value->Shared->Prop}{E:Value->Shared->Prop}(hcc:∀C s H1 fp H',Ext H H'->Cc (cxC X (loc++caps) scope C s H1 fp) H') (N:Now ce X pins ι σi h σ H s) (K:Jmj ce X use pins ι σi σ H (J0 mi loc.length js g mt me σi h) Q E) :
  wpAny (model X.prog X.w) X.A (comprehension (.ListComp elt [⟨tg,iter,ifs,0⟩] scope pos) scope X.env ppos (newList []) false (eval iter X.env) use) Q E s:=by
 simp only[Jc0,Bool.and_eq_true,decide_eq_true_eq,List.all_eq_true,Bool.not_eq_true',Bool.or_eq_true,beq_iff_eq,beq_eq_false_iff_ne] at ok
 obtain⟨⟨⟨⟨⟨⟨⟨⟨⟨kF,kF0⟩,kNC⟩,kL⟩,kFr⟩,kFx⟩,kJ⟩,kLen⟩,kNd⟩,kLo⟩:=ok
 have hfree:∀x∈scope.names,x.2=.free->X.env.kindOf x.1=some .cell∨X.env.kindOf x.1=some .free:=λ x hx hk=>by
  have e:X.env.kindOf x.1=sc₀.names.lookup x.1:=by rw[<- hsc];rfl
  rw[e]
  rcases kFr x hx with(z|z)|z
  ·exact absurd hk z
  ·exact .inl z
  ·exact .inr z
 have hclos:closureFor scope X.env=pure (clOf X.env.cells scope.names []):=Jgq λ x hx hk=>N.inv.ok.has x.1 (hfree x hx hk)
 refine wpAny_comprehension_free (use:=use) (e:=.ListComp elt [⟨tg,iter,ifs,0⟩] scope pos) rfl hs hclos kF (λ x hx hl=>(kL x hx).resolve_left λ z=>z hl) ?_
 refine hi pins s σ H ι σi h _ E N ?_
 unfold J0 at K
 cases e0:mi σi h with
 | exc n h'=>rw[e0] at K;exact K
 | stuck=>rw[e0] at K;exact K
 | ok Jt h1 =>
  rw[e0] at K
  intro itv s1 H1 ι1 N1 n1 RI
  obtain⟨it,fp,tn,J,e,T,st1,f1,OK⟩:=RI
  subst e
  -- the list
  refine wpAny_newObj_type ?_
  have fresh1:H1 s1.heap.objs.size=none:=N1.inv.hok.fresh (Nat.le_refl _)
  have I2:Inv X pins σ (upd H1 s1.heap.objs.size (.lst [])) { s1 with heap:=s1.heap.push { cls:=.type "list",dict:=none,data:=.seq ([]:List Value).toArray } } :=
   N1.inv.laid (t':=s1.toks) (λ b u e=>Heap.get?_push_of_some _ e) (Nat.le_refl _) ⟨Nat.zero_le _,[],0,.nil,Heap.get?_push_size _ rfl⟩
  obtain⟨R2,n2⟩:=N1.rel.alloc (o:=.lst []) (io:=.lst []) fresh1 ⟨[],Jf,rfl⟩
  generalize hs2:({ s1 with heap:=s1.heap.push { cls:=.type "list",dict:=none,data:=.seq ([]:List Value).toArray } }:Shared)=s2 at I2 ⊢
  generalize hD:s1.heap.objs.size=D at *
  generalize hH2:upd H1 D (.lst [])=H2 at *
  have N2:Now ce X pins (ι1++[D]) σi (h1++[.lst []]) σ H2 s2:=⟨I2,R2,N1.st.mono n2⟩
  have keep12:∀b o,s1.heap.get? b=some o->s2.heap.get? b=some o:=λ b o q=>by rw[<- hs2];exact Heap.get?_push_of_some _ q
  have st2:tn 0 s2.heap:=T.keep 0 _ _ st1 λ b _ o q=>keep12 b o q
  have hat:(ι1++[D])[h1.length]?=some D:=by
   rw[<- N1.rel.len,List.getElem?_append_right (Nat.le_refl _)]
   simp
  have f2:∀b∈fp,FpOk X pins H2 b:=λ b hb=>by
   refine⟨?_,(f1 b hb).2⟩
   obtain⟨o,ho,_⟩:=T.obj 0 _ st1 b hb
   have:b≠D:=Nat.ne_of_lt (by rw[<- hD];exact Heap.lt_size ho)
   rw[<- hH2,Jg this]
   exact(f1 b hb).1
  -- the block's own dict
  refine wpAny_newFunctionEnv (λ x hx=>kNC x hx) (by intro y hy;simp at hy) (λ h3 hns3 hsb3=>?_) kF
  generalize hC:s2.heap.objs.size=C at *
  have keep23:∀b o,s2.heap.get? b=some o->h3.get? b=some o:=λ b o q=>(hsb3.2 b (Nat.ne_of_lt (by rw[<- hC];exact Heap.lt_size q))).trans (Heap.get?_push_of_some _ q)
  have cells':∀x c,(clOf X.env.cells scope.names []).lookup x=some c->X.env.cells.lookup x=some c:=Jmu _ _ (λ x c q=>by simp at q)
  -- the context of the block
  have okX:(cxC X (loc++caps) scope C s2 H2 fp).Ok:=by
   refine⟨N.inv.ok.mod,kF,N.inv.ok.glob,N.inv.ok.blt,Nat.le_of_eq hC,λ x y c a b=>N.inv.ok.inj x y c (cells' x c a) (cells' y c b),λ x hx=>?_,λ x c z=>?_,N.inv.ok.hd,N.inv.ok.frames,.inl rfl,λ b hb=>?_,λ b o q=>I2.bs b o q,
    Nat.le_trans N.inv.ok.bsz I2.sz,λ b o q hb=>?_,λ b hb z=>?_,I2.stack,I2.stkFree⟩
   ·have hx':(relabel scope X.env).names.lookup x=some .cell∨(relabel scope X.env).names.lookup x=some .free:=hx
    have hfr:scope.names.lookup x=some .free:=by
     rcases hx' with z|z
     ·obtain⟨k0,e,m⟩:=Jbl z
      simp only[List.mem_cons,Prod.mk.injEq,List.not_mem_nil,or_false] at m
      rcases m with⟨m1,_⟩|⟨_,m2⟩
      ·exact absurd (kNC _ (PySem.mem_of_lookup e)) (by rw[<- m1];intro q;exact q rfl)
      ·rw[m2] at e;exact e
     ·obtain⟨k0,e,m⟩:=Jbl z
      simp only[List.mem_cons,Prod.mk.injEq,List.not_mem_nil,or_false] at m
      rcases m with⟨m1,_⟩|⟨m1,_⟩
      ·rw[<- m1] at e;exact e
      ·cases m1
    have hm:=PySem.mem_of_lookup hfr
    obtain⟨c,hc'⟩:=N.inv.ok.has x (hfree (x,.free) hm rfl)
    exact Option.isSome_iff_exists.mp (Jgp _ _ x c hm hc')
   ·exact absurd (show false=true from z) Bool.false_ne_true
   ·have hbD:=f2 b hb
    obtain⟨o,ho,_⟩:=T.obj 0 _ st2 b hb
    exact⟨Nat.ne_of_lt (by show b<C;rw[<- hC];exact Heap.lt_size ho),λ x c q=>hbD.2.2.2.2.1 x c (cells' x c q)⟩
   ·rcases(f2 b hb).2.2.2.1 with z|z
    ·exact N.inv.ok.noex b o q z
    ·exact Nat.lt_irrefl _ (Nat.lt_of_lt_of_le (Heap.lt_size q) (Nat.le_trans N.inv.ok.bsz z))
   ·rcases List.mem_cons.mp (I2.stkSub b z) with e|e
    ·exact(f2 b hb).2.1 e
    ·exact(f2 b hb).2.2.1 e
  -- the block's state
  have lenJ:js.length=caps.length:=kLen
  have stl:(stC loc.length js σi).length=(loc++caps).length:=by simp[stC,lenJ]
  have R3:Rel ce X.K (ι1++[D]) (h1++[.lst []]) H2:=R2
  have I3:Inv (cxC X (loc++caps) scope C s2 H2 fp) [] (List.replicate loc.length none++js.map λ j=>(σ[j]?).join) H2 { s2 with heap:=h3,toks:=s2.toks+([]:List (Str×Value)).length }:=by
   refine⟨okX,rfl,I2.bare,Un.kept keep23,⟨_,hns3,λ i x v a b c=>?_⟩,λ x c q=>?_,I2.hok.fresh (Nat.le_of_eq hC),λ x c q=>I2.freeC x c (cells' x c q),λ p hp=>absurd (show p∈([]:List (Addr×Obj)) from hp) (by simp),I2.hok.kept keep23,by show _=(loc++caps).length;simp[lenJ]⟩
   ·have hi:loc.length<=i:=by
     refine Nat.le_of_not_lt λ hlt=>?_
     rw[List.getElem?_append_left (by simpa using hlt),List.getElem?_replicate] at b
     split at b<;>cases b
    obtain⟨k,rfl⟩:∃k,i=loc.length+k:=⟨i-loc.length,by omega⟩
    have a':(loc++caps)[loc.length+k]?=some x:=a
    rw[List.getElem?_append_right (by omega)] at a'
    rw[List.getElem?_append_right (by simp)] at b
    simp only[Nat.add_sub_cancel_left,List.length_replicate,List.getElem?_map] at a' b
    cases ej:js[k]? with
    | none=>rw[ej] at b;cases b
    | some j =>
     rw[ej] at b
     have b':(σ[j]?).join=some v:=Option.some.inj b
     have hσ:σ[j]?=some (some v):=by
      cases es:σ[j]? with
      | none=>rw[es] at b';cases b'
      | some o=>rw[es] at b';rw[show o=some v from b']
     have hz:=kJ (j,x) (List.mem_iff_getElem?.mpr ⟨k,by rw[List.getElem?_zip_eq_some];exact⟨ej,a'⟩⟩)
     obtain⟨hx1,hx2⟩:=hz
     obtain⟨m,hn,hl⟩:=I2.loc
     have hk:=hfree (x,.free) (PySem.mem_of_lookup hx2) rfl
     obtain⟨u,ru,lk⟩:=hl j x v (by rw[hN0];exact hx1) hσ (by rcases hk with q|q;exact .inr (.inl q);exact .inr (.inr q))
     rcases lk with⟨q,_⟩|⟨q,c,hc',hcell⟩
     ·rcases hk with q'|q'<;>(rw[q'] at q;cases q)
     ·obtain⟨kk,ek,hkk⟩:=Jiy (env:=X.env) hx2
      have hcl:=Jgp (cells:=X.env.cells) scope.names [] x c (PySem.mem_of_lookup hx2) hc'
      obtain⟨c',hc2⟩:=Option.isSome_iff_exists.mp hcl
      have:=cells' x c' hc2
      rw[hc'] at this
      cases this
      obtain⟨oc,hoc,hd⟩:=hcell
      refine⟨u,ru,.inr ⟨?_,c,hc2,oc,keep23 _ _ hoc,hd⟩⟩
      rcases hkk with rfl|rfl
      ·exact .inl ek
      ·exact .inr ek
   ·obtain⟨v,o,ho,hd⟩:=I2.cell x c (cells' x c q)
    exact⟨v,o,keep23 _ _ ho,hd⟩
  have N3:Now ce (cxC X (loc++caps) scope C s2 H2 fp) [] (ι1++[D]) (stC loc.length js σi) (h1++[.lst []]) (List.replicate loc.length none++js.map λ j=>(σ[j]?).join) H2 { s2 with heap:=h3,toks:=s2.toks+([]:List (Str×Value)).length }:=by
   refine⟨I3,R3,by simp[stC],λ i v q=>?_⟩
   unfold stC at q
   have hi:loc.length<=i:=by
    refine Nat.le_of_not_lt λ hlt=>?_
    rw[List.getElem?_append_left (by simpa using hlt),List.getElem?_replicate] at q
    split at q<;>cases q
   rw[List.getElem?_append_right (by simpa using hi)] at q
   simp only[List.length_replicate,List.getElem?_map] at q
   cases ej:js[i-loc.length]? with
   | none=>rw[ej] at q;cases q
   | some j =>
    rw[ej] at q
    have q':(σi[j]?).join=some v:=Option.some.inj q
    have hσ:σi[j]?=some (some v):=by
     cases es:σi[j]? with
     | none=>rw[es] at q';cases q'
     | some o=>rw[es] at q';rw[show o=some v from q']
    obtain⟨u,hu,qu⟩:=N2.st.at_ j v hσ
    refine⟨u,?_,qu⟩
    rw[List.getElem?_append_right (by simpa using hi)]
    simp only[List.length_replicate,List.getElem?_map,ej,Option.map_some,hu]
    rfl
  have st3:tn 0 h3:=T.keep 0 _ _ st2 λ b _ o q=>keep23 b o q
  have K2:Jmj ce X use pins (ι1++[D]) σi σ H2 (Jc6 Jt.chk g mt me h1.length Jt.xs (stC loc.length js σi) (h1++[.lst []])) Q E:=Jmj.mono (r:=Jc6 Jt.chk g mt me h1.length Jt.xs (stC loc.length js σi) (h1++[.lst []])) K (n1.trans n2)
  have loop:codeAny (model X.prog X.w) X.A (.compLoop (.ListComp elt [⟨tg,iter,ifs,0⟩] scope pos) 0 (.ref it) (.ref D) (compEnvC scope (clOf X.env.cells scope.names []) C X.env)) (compPost (model X.prog X.w) X.A E use Q (.ref D) C)
    { s2 with heap:=h3,toks:=s2.toks+([]:List (Str×Value)).length }:=by
   refine Jnz (λ n s'=>∃k ιk σk hk σ' H',Now ce (cxC X (loc++caps) scope C s2 H2 fp) [] ιk σk hk σ' H' s'/\Nxt (ι1++[D]) H2 ιk H'/\tn k s'.heap/\(∀b∈fp,H' b=none)/\n=Jt.xs.length-k/\k<=Jt.xs.length/\Jmj ce X use pins ιk σi σ H' (Jc6 Jt.chk g mt me h1.length (Jt.xs.drop k) σk hk) Q E) ?_ Jt.xs.length
    ⟨0,ι1++[D],stC loc.length js σi,h1++[.lst []],_,H2,N3,.refl,st3,λ b hb=>(f2 b hb).1,by simp,Nat.zero_le _,by simpa using K2⟩
   have stat:∀{H':Hp},(∀b∈fp,H' b=none)->∀b∈fp,FpOk (cxC X (loc++caps) scope C s2 H2 fp) [] H' b:=λ hn b hb =>
    ⟨hn b hb,(okX.exf b hb).1,okX.exfs b hb,.inl hb,(okX.exf b hb).2,λ p hp=>absurd (show p∈([]:List (Addr×Obj)) from hp) (by simp)⟩
   rintro n s4 ⟨k,ιk,σk,hk,σ4,H4,N4,n4,st4,fr4,rfl,hkl,K4⟩
   by_cases hlt:k<Jt.xs.length
   ·have hd:Jt.xs.drop k=Jt.xs[k]::Jt.xs.drop (k+1):=List.drop_eq_getElem_cons hlt
    rw[hd] at K4
    unfold Jc6 at K4
    split at K4
    ·rename_i hck
     obtain⟨go,yl⟩:=OK.go k Jt.xs[k] hk H4 ιk (n2.trans n4) N4.rel hck (List.getElem?_eq_getElem hlt)
     refine thn (T.item (cxC X (loc++caps) scope C s2 H2 fp) k s4 σ4 H4 (hcc _ _ _ _ _ (n1.trans (n2.trans n4)).ext) N4.inv (stat fr4) st4 go) λ r s5 ⟨u,hr,h5⟩=>?_
     subst hr
     refine thn h5 λ _ s6 ⟨x,H6,I6,r6,y6,st6,fr6⟩=>?_
     obtain⟨R6,n6,q6⟩:=yl x H6 y6
     have I6':=I6.pinned (stat fr6) (T.obj _ _ st6)
     have N6:Now ce (cxC X (loc++caps) scope C s2 H2 fp) ([]++Jc4 fp s6.heap) ιk σk hk σ4 H6 s6:=⟨I6',R6,N4.st.mono n6⟩
     have again:∀{σ7:L2.St}{H7:Hp}{s7:Shared}{σ7i:ISt}{h7:IH}{ι7:List Addr},Now ce (cxC X (loc++caps) scope C s2 H2 fp) ([]++Jc4 fp s6.heap) ι7 σ7i h7 σ7 H7 s7->Nxt ιk H6 ι7 H7->Jmj ce X use pins ιk σi σ H4 (Jc6 Jt.chk g mt me h1.length (Jt.xs.drop (k+1)) σ7i h7) Q E ->
       ∃m,m<Jt.xs.length-k/\∃k ιk σk hk σ' H',Now ce (cxC X (loc++caps) scope C s2 H2 fp) [] ιk σk hk σ' H' s7/\Nxt (ι1++[D]) H2 ιk H'/\tn k s7.heap/\(∀b∈fp,H' b=none)/\m=Jt.xs.length-k/\k<=Jt.xs.length/\Jmj ce X use pins ιk σi σ H' (Jc6 Jt.chk g mt me h1.length (Jt.xs.drop k) σk hk) Q E :=
      λ {σ7 H7 s7 σ7i h7 ι7} N7 n7 K7=>by
       have nn:Nxt ιk H4 ι7 H7:=n6.trans n7
       refine⟨Jt.xs.length-(k+1),by omega,k+1,ι7,σ7i,h7,σ7,H7,N7.pins,n4.trans nn,T.keep _ _ _ st6 λ b hb o e=>(N7.inv.pin (b,o) (List.mem_append_right _ (List.mem_append_right _ (Jbu hb e)))).1,λ b hb=>?_,rfl,hlt,K7.mono nn⟩
       obtain⟨o,e,d⟩:=T.obj _ _ st6 b hb
       exact(N7.inv.pin (b,o) (List.mem_append_right _ (List.mem_append_right _ (Jbu hb e)))).2.1
     cases eg:g Jt.xs[k] σk hk with
     | next σg hgg =>
      rw[eg] at K4
      dsimp only at K4
      refine hg C s2 H2 fp _ s6 σ4 H6 ιk σk hk _ u (λ _ s7=>wpAny (model X.prog X.w) X.A (forIn ifs true λ c r=>if r=true then do let ok<-isTrue c _ (eval c _);pure (ForInStep.yield ok) else pure (ForInStep.yield r)) _ _ s7) (λ _ _=>False) N6 ⟨x,r6,q6⟩ ?_
      rw[eg]
      intro s7 σ7 H7 ι7 N7 n7
      refine ht C s2 H2 fp _ s7 σ7 H7 ι7 σg hgg _ (λ _ _=>False) N7 ?_
      cases et:mt σg hgg with
      | ok c h8 =>
       rw[et] at K4
       intro d s8 H8 ι8 N8 n8 rd
       have rd':d=c:=rd
       subst rd'
       cases d with
       | false=>exact again N8 (n7.trans n8) K4
       | true =>
        dsimp only at K4
        refine he C s2 H2 fp _ s8 σ7 H8 ι8 σg h8 _ (λ _ _=>False) N8 ?_
        cases ee:me σg h8 with
        | ok v h9 =>
         rw[ee] at K4
         dsimp only at K4
         intro w s9 H9 ι9 N9 n9 rw9
         have hat9:ι9[h1.length]?=some D:=(((n4.trans n6).trans n7).trans (n8.trans n9)).at hat
         cases hl:h9[h1.length]? with
         | none=>rw[hl] at K4;exact Zf K4
         | some ob =>
          rw[hl] at K4
          cases ob with
          | lst acc =>
           dsimp only at K4
           split at K4
           ·rename_i hz
            obtain⟨vs,eD,rD⟩:=N9.at hl hat9
            obtain⟨wv,rw9,qw⟩:=rw9
            have ap:=Joq (X:=(cxC X (loc++caps) scope C s2 H2 fp).wish λ _ _=>False) ([]++Jc4 fp s6.heap) s9 σ7 H9 (.ref D) [wv] (.ref D) [w] (λ _ H'=>H'=upd H9 D (.lst (vs++[wv]))) (N9.inv.wish _) rfl (.cons rw9 .nil) ⟨D,vs,wv,rfl,rfl,eD,by rw[rD.length];exact hz,rfl⟩
            refine wpAny_mono ap (λ _ s10 hq=>?_) λ _ _ z=>z
            obtain⟨z,H10,I10,_,rfl⟩:=hq
            have n10:Nxt ι9 H9 ι9 (upd H9 D (.lst (vs++[wv]))):=⟨⟨[],by simp⟩,Ext.upd_mut eD (by rw[eD];exact True.intro)⟩
            obtain⟨R10,_⟩:=N9.rel.write (o:=.lst (vs++[wv])) (io:=.lst (acc++[v])) hat9 eD (by rw[eD];exact True.intro) ⟨_,Jf,(RVs.mono n10 _ _ rD).append (RVs.one (RV.mono n10 _ _ qw))⟩
            exact again ⟨I10.unwish,R10,N9.st.mono n10⟩ (((n7.trans n8).trans n9).trans n10) K4
           ·exact Zf K4
          | _=>exact Zf K4
        | _=>rw[ee] at K4;exact Zf K4
      | _=>rw[et] at K4;exact Zf K4
     | _=>rw[eg] at K4;exact Zf K4
    ·exact Zf K4
   ·have hke:Jt.xs.drop k=[]:=List.drop_eq_nil_of_le (by omega)
    rw[hke] at K4
    unfold Jc6 at K4
    split at K4
    ·rename_i hck
     have stop:=OK.stop k hk H4 ιk (n2.trans n4) N4.rel hck (by omega)
     refine thn (T.done (cxC X (loc++caps) scope C s2 H2 fp) k s4 σ4 H4 (hcc _ _ _ _ _ (n1.trans (n2.trans n4)).ext) N4.inv (stat fr4) st4 stop) λ r s5 ⟨hr,I5⟩=>?_
     subst hr
     obtain⟨m,hnm,_⟩:=I5.loc
     -- back to the def's own frame
     have hos:s5.os=s2.os:=I5.os
     obtain⟨hp5,g5,d5,t5,os5⟩:=s5
     obtain rfl:os5=s2.os:=hos
     have J5:Inv X pins σ H4 { s2 with heap:=hp5,gens:=g5,drawn:=d5,toks:=t5 }:=I2.call (ch:=fp) I5.base I5.hok I5.bare λ b hb=>⟨(f2 b hb).2.2.2.1,(f2 b hb).2.1,(f2 b hb).2.2.2.2.1,(f2 b hb).2.2.2.2.2⟩
     have fC:FpOk X pins H4 C:=I2.fpOk (Nat.le_of_eq hC) I5.free
     exact K4 D C m _ H4 ιk ⟨J5,N4.rel,(N2.st.mono n4)⟩ .refl ⟨.ref D,rfl,D,rfl,n4.at hat⟩ hnm fC
    ·exact Zf K4
  exact codeAny_compStart_list loop (T.self X.A 0 _ _ _ st3 loop)
theorem Now.letgo {pins:List (Addr×Obj)}{ι:List Addr}{σi:ISt}{h:IH}{σ:L2.St}{H:Hp}{s:Shared}{C:Addr}{h':Heap}(N:Now ce X pins ι σi h σ H s) (fC:FpOk X pins H C) (sb:Heap.SameBut C s.heap h'):Now ce X pins ι σi h σ H { s with heap:=h' } :=
 ⟨N.inv.turned (it:=C) (t':=s.toks) (λ b o hb q=>(sb.2 b hb).trans q) fC.1 fC.2.1 fC.2.2.2.1 fC.2.2.2.2.1 fC.2.2.2.2.2,N.rel,N.st⟩
theorem Jzf {N0 loc caps:List Str}{js:List Nat}{sc₀ scope:Scope}{tg iter elt:Expr}{ifs:List Expr}{mi:I1}{g:G1}{mt:T1}{me:E1}{pos:Pos}(hc:X.calm=true) (hi:PIi ce X tg iter mi)
  (hg:∀C s H fp,PGi ce (cxC X (loc++caps) scope C s H fp) tg g) (ht:∀C s H fp,PTsi ce (cxC X (loc++caps) scope C s H fp) ifs mt) (he:∀C s H fp,PEi ce (cxC X (loc++caps) scope C s H fp) elt me)
  (ok:Jc0 N0 loc caps js sc₀ scope=true) (hN0:X.N=N0:=by rfl) (hsc:X.env.scope=sc₀:=by rfl) (hs:∀x,foldedSetIterable iter X.env x=pure x:=by intro _;rfl):PEi ce X (.ListComp elt [⟨tg,iter,ifs,0⟩] scope pos) (J0 mi loc.length js g mt me):=by
 intro pins s σ H ι σi h Q E N K
 rw[eval_ListComp]
 refine Jn0 hi.c hg ht he ok hN0 hsc hs (λ _ _ _ _ _ _=>⟨rfl,rfl,rfl,hc⟩) N ?_
 cases e0:J0 mi loc.length js g mt me σi h with
 | exc n h'=>rw[e0] at K;exact K
 | stuck=>rw[e0] at K;exact K
 | ok v h' =>
  rw[e0] at K
  exact λ D C m s' H' ι' N' n' r hns fC=>⟨m,hns,λ h2 sb=>K _ _ H' ι' (N'.letgo fC sb) n' r⟩
theorem Jzo {N0 loc caps:List Str}{js:List Nat}{sc₀ scope:Scope}{tg iter elt:Expr}{ifs:List Expr}{mi:I1}{g:G1}{mt:T1}{me:E1}{pos pos2 pos3:Pos}{i:Nat}{x:Str}(hc:X.calm=true) (hi:PIi ce X tg iter mi)
  (hg:∀C s H fp,PGi ce (cxC X (loc++caps) scope C s H fp) tg g) (ht:∀C s H fp,PTsi ce (cxC X (loc++caps) scope C s H fp) ifs mt) (he:∀C s H fp,PEi ce (cxC X (loc++caps) scope C s H fp) elt me)
  (ok:Jc0 N0 loc caps js sc₀ scope=true) (hN0:X.N=N0:=by rfl) (hsc:X.env.scope=sc₀:=by rfl) (hs:∀x,foldedSetIterable iter X.env x=pure x)
  (hN:X.N.Nodup) (hix:X.N[i]?=some x) (hlx:Loc X.env.scope x) (hf:X.fn x=true∨X.env.scope.names.lookup x=some .local)
  (hsw:swapsWith (.ListComp elt [⟨tg,iter,ifs,0⟩] scope pos) (some (.Name x pos2)) pos3.line X.env=pure true) :
  PS1 ce X (.Assign [.Name x pos2] (.ListComp elt [⟨tg,iter,ifs,0⟩] scope pos) pos3) (sSet i (J0 mi loc.length js g mt me)):=by
 intro pins s σ H ι σi h Q E N K
 rw[exec_Assign_Name_used _ _ _ _ hsw]
 refine wpAny_bind (wpAny_standAt (wpAny_bind ?_))
 rw[arm_evalThenUse_ListComp]
 refine wpAny_bind ?_
 refine Jn0 (use:=some (assign (.Name x pos2) X.env)) hi.c hg ht he ok hN0 hsc hs (λ _ _ _ _ _ _=>⟨rfl,rfl,rfl,hc⟩) N ?_
 unfold sSet at K
 cases e0:J0 mi loc.length js g mt me σi h with
 | exc n h'=>rw[e0] at K;exact λ pl a s' H' ι' N' n' q=>K pl a s' σ H' ι' N' n' q s' (.inl rfl)
 | stuck=>rw[e0] at K;exact K
 | ok v h' =>
  rw[e0] at K
  intro D C m s' H' ι' N' n' r hns fC
  obtain⟨w,rw',q⟩:=r
  obtain⟨oC,es,ep,hoC,hdC,hrest⟩:=id hns
  have hp:Inv X (pins++Jc4 [C] s'.heap) σ H' s':=N'.inv.pinned (λ b hb=>(show b=C by simpa using hb)▸fC) (λ b hb=>by
   have e:b=C:=by simpa using hb
   subst e
   exact⟨oC,hoC,λ v z=>by rw[hdC] at z;cases z⟩)
  refine wpAny_assign_Name (Jji hp hN hix hlx rw' (λ s2 I2=>?_) hf)
  have hC2:=(I2.pin (C,oC) (List.mem_append_right _ (List.mem_append_right _ (Jbu (by simp) hoC)))).1
  refine⟨m,⟨oC,es,ep,hC2,hdC,hrest⟩,λ h2 sb=>wpAny_pure ?_⟩
  have N2:Now ce X pins ι' (σi.set i (some v)) h' (σ.set i (some w)) H' s2:=⟨I2.unpinned,N'.rel,N'.st.set i q⟩
  exact wpAny_pure (K _ _ H' ι' (N2.letgo fC sb) n')
noncomputable def Jk2 (x:Str):List IV:=x.cps.toList.map λ c=>.str ⟨#[c]⟩
noncomputable def Its (x:Str):It:=⟨λ i _=>i<x.cps.size,λ i H y H'=>H'=H/\∃c,x.cps[i]?=some c/\y=.str ⟨#[c]⟩,λ i _=>x.cps.size<=i⟩
theorem Jry {P:Program}{w:World}{K:W.Frag}{tg:Expr}{ty:String}{x:Str}{t:Tok}(it:Addr) (hty:["enumerate","zip","dict_itemiterator","dict_reverseitemiterator","odict_iterator","itertools.zip_longest","itertools.pairwise"].contains ty=false)
  (W:∀A:Around,A.handled=none->Walks P w A it [it] [it] x.cps.size (SignAt x) (λ i h=>h.IsStrIter it ty x t i))
  (We:∀(A:Around) (E:Value->Shared->Prop) (s:Shared) (i:Nat) (Q:Option Value->Shared->Prop),A.handled=none->s.heap.IsStrIter it ty x t i->x.cps[i]?=none->(∀h',Heap.ExtBut it s.heap h'->Q none { s with heap:=h' })->wpAny (model P w) A (pyNext (.ref it)) Q E s)
  (Ws:∀(A:Around) (E:Value->Shared->Prop) (s:Shared) (i:Nat) (Q:Value->Shared->Prop),s.heap.IsStrIter it ty x t i->Q (.ref it) s->wpAny (model P w) A (pyIter (.ref it)) Q E s):Turn P w K tg (Its x) [it] it (λ i h=>h.IsStrIter it ty x t i) where
 mem:=by simp
 obj:=λ i h st b hb=>by
  have e:b=it:=by simpa using hb
  subst e
  obtain⟨o,e,c,d⟩:=st
  exact⟨o,e,λ v z=>by rw[d] at z;cases z⟩
 keep:=λ i h h' st k=>by
  obtain⟨o,e,r⟩:=st
  exact⟨o,k it (by simp) o e,r⟩
 item:=by
  intro X hP hw hK hc i pins s σ H E I hf st hg
  subst hP hw hK
  obtain⟨f0,f1,f2,f3,f4,f5⟩:=hf it (by simp)
  refine(W X.A (I.ok.hd hc)).item i s _ _ hg st λ v h' tk hv st' kk=>?_
  obtain⟨c,u,hcc,rfl⟩:=hv
  have I1:Inv X pins σ H { s with heap:=h',toks:=tk }:=I.turned (λ b o hb e=>kk b o (by simpa using hb) e) f0 f1 f3 f4 f5
  obtain⟨o,e,c1,d1⟩:=id st'
  exact⟨_,rfl,Jxj (s:={ s with heap:=h',toks:=tk }) e c1 d1 hty ⟨.str ⟨#[c]⟩,H,I1,⟨u,rfl⟩,⟨rfl,c,hcc,rfl⟩,st',λ b hb=>(hf b hb).1⟩⟩
 done:=by
  intro X hP hw hK hc i pins s σ H E I hf st hg
  subst hP hw hK
  obtain⟨f0,f1,f2,f3,f4,f5⟩:=hf it (by simp)
  have hi:x.cps.size<=i:=hg
  have hx:x.cps[i]?=none:=by simp[hi]
  exact We X.A _ s i _ (I.ok.hd hc) st hx λ h' eb=>⟨rfl,I.turned (t':=s.toks) (λ b o hb e=>eb b o hb e) f0 f1 f3 f4 f5⟩
 self:=λ A i s Q E st h=>Ws A E s i Q st h
noncomputable def Jxw:IV->IH->Res ItI
 | .str x,h=>.ok ⟨Jk2 x,λ _=>True⟩ h
 | _,_=>.stuck
noncomputable def iStr (e:E1):I1:=λ σ h=>(e σ h).bind Jxw
theorem Jzi {x:Str}{ι:List Addr}{H₀:Hp}:ItOk ce X.K ι H₀ (Its x) ⟨Jk2 x,λ _=>True⟩:=by
 refine⟨λ k v h H ι' hp R hck hx=>?_,λ k h H ι' hp R hck hx=>?_⟩
 ·have hk:k<x.cps.size:=by
   have:=(List.getElem?_eq_some_iff.mp hx).1
   simpa [Jk2] using this
  refine⟨hk,λ y H' hy=>?_⟩
  obtain⟨rfl,c,hc,rfl⟩:=hy
  simp only[Jk2,List.getElem?_map,Array.getElem?_toList,hc] at hx
  cases hx
  exact⟨R,.refl,rfl⟩
 ·have:(Jk2 x).length=x.cps.size:=by simp[Jk2]
  show x.cps.size<=k
  rw[<- this]
  exact hx
theorem Jsg {tg l:Expr}{ml:E1}(hl:PEi ce X l ml):PIi ce X tg l (iStr ml):=by
 intro pins s σ H ι σi h Q E N K
 refine hl pins s σ H ι σi h _ E N ?_
 unfold iStr at K
 cases e0:ml σi h with
 | exc n h'=>rw[e0] at K;exact K
 | stuck=>rw[e0] at K;exact K
 | ok v h' =>
  rw[e0] at K
  intro u s1 H1 ι1 N1 n1 r1
  obtain⟨w,rw',q⟩:=r1
  have fresh:∀b∈[s1.heap.objs.size],FpOk X pins H1 b:=λ b hb=>by
   have e:b=s1.heap.objs.size:=by simpa using hb
   subst e
   exact N1.inv.fpOk (Nat.le_refl _) (N1.inv.hok.fresh (Nat.le_refl _))
  cases v with
  | str x =>
   have e1:w=.str x:=q
   subst e1
   obtain⟨t,rfl⟩:=rw'
   simp only[Res.bind,Jxw] at K
   cases ha:x.cps.all (· < 128) with
   | true =>
    refine wpAny_pyIter_ascii ha (K _ _ H1 ι1 ⟨N1.inv.kept (t':=s1.toks) λ b o e=>Heap.get?_push_of_some _ e,N1.rel,N1.st⟩ n1 ?_)
    exact⟨s1.heap.objs.size,[s1.heap.objs.size],_,Its x,rfl,Jry (ty:="str_ascii_iterator") (t:=t) _ (by decide) (λ A hA=>Walks.strAscii hA _ x t) (λ A E s i Q hA st hx hQ=>wpAny_pyNext_ascii_end hA st hx hQ) (λ A E s i Q st hq=>wpAny_pyIter_striter_ascii st hq),⟨_,Heap.get?_push_size _ rfl,rfl,rfl⟩,fresh,Jzi⟩
   | false =>
    refine wpAny_pyIter_wide ha (K _ _ H1 ι1 ⟨N1.inv.kept (t':=s1.toks) λ b o e=>Heap.get?_push_of_some _ e,N1.rel,N1.st⟩ n1 ?_)
    exact⟨s1.heap.objs.size,[s1.heap.objs.size],_,Its x,rfl,Jry (ty:="str_iterator") (t:=t) _ (by decide) (λ A hA=>Walks.strWide hA _ x t) (λ A E s i Q hA st hx hQ=>wpAny_pyNext_wide_end hA st hx hQ) (λ A E s i Q st hq=>wpAny_pyIter_striter_wide st hq),⟨_,Heap.get?_push_size _ rfl,rfl,rfl⟩,fresh,Jzi⟩
  | _=>simp only[Res.bind,Jxw] at K
noncomputable def Ite (K:W.Frag) (a:Addr):It :=
 ⟨λ i H=>∃xs x,SqL K H a xs/\xs[i]?=some x,λ i H y H'=>∃p x,H p=none/\y=.ref p/\H'=upd H p (.tup [.int (i:Int),x])/\∀xs,SqL K H a xs->xs[i]?=some x,λ i H=>∃xs,SqL K H a xs/\xs.length<=i⟩
theorem Jwq {P:Program}{w:World}{K:W.Frag}{es:List Expr}{k:Nat}{p:Pos}(a it e:Addr) (hne:e≠it):Turn P w K (.Tuple es k p) (Ite K a) [e,it] e (λ i h=>(∃old,IsEnum h e it (i:Int) old)/\h.IsListIter it a i) where
 mem:=by simp
 obj:=λ i h st b hb=>by
  obtain⟨⟨old,he⟩,o,e1,c,d⟩:=st
  simp only[List.mem_cons,List.not_mem_nil,or_false] at hb
  rcases hb with rfl|rfl
  ·exact⟨_,he,λ v z=>by
    have z':Data.fields _=Data.cell v:=z
    cases z'⟩
  ·exact⟨o,e1,λ v z=>by rw[d] at z;cases z⟩
 keep:=λ i h h' st k=>⟨let ⟨old,he⟩:=st.1;⟨old,k e (by simp) _ he⟩,st.2.at λ o e=>k it (by simp) o e⟩
 item:=by
  intro X hP hw hK hc i pins s σ H E I hf st hg
  subst hP hw hK
  obtain⟨⟨old,he⟩,hit⟩:=st
  obtain⟨xs,x,hq,hx⟩:=hg
  obtain⟨its,rv,pl,hz⟩:=I.list hq
  obtain⟨u,hu,ru⟩:=rv.get hx
  have fe:=hf e (by simp)
  have fi:=hf it (by simp)
  have hn:H s.heap.objs.size=none:=I.hok.fresh (Nat.le_refl _)
  refine wpAny_pyNext_enum_item he hit pl.isList (x:=u) (by simpa using hu) hne λ h' he' hit' ht hsz kk=>?_
  refine⟨_,rfl,wpAny_letOwnedTupleGo_enum he' λ h2 he2 sb=>?_⟩
  have ltE:e<s.heap.objs.size:=Heap.lt_size he
  have neT:s.heap.objs.size≠e:=Nat.ne_of_gt ltE
  have k2:∀b o,b≠e->b≠it->s.heap.get? b=some o->h2.get? b=some o:=λ b o h1 h3 q=>(sb.2 b h1).trans (kk b o h1 h3 q)
  have hl2:h2.IsListIter it a (i+1):=by
   obtain⟨o,q,r⟩:=hit'
   exact⟨o,(sb.2 it (Ne.symm hne)).trans q,r⟩
  have t2:h2.get? s.heap.objs.size=some { cls:=.type "tuple",data:=.seq #[.int i s.toks,u] }:=(sb.2 _ neT).trans ht
  -- the two records turn, then the tuple is tracked
  obtain⟨oe,hoe⟩:∃o,s.heap.get? e=some o:=⟨_,he⟩
  obtain⟨oi,hoi,_⟩:=id hit
  have neP:∀b u,H b=some u->b≠s.heap.objs.size:=λ b u q=>Jv q hn
  have I1:Inv X pins σ (upd H s.heap.objs.size (.tup [.int (i:Int),x])) { s with heap:=h2,toks:=s.toks+1 }:=by
   refine I.step (g':=s.gens) (d':=s.drawn) (ch:=[e,it]) (λ b hb=>?_) (λ b o _ _ hc q _=>k2 b o (λ z=>hc (by simp[z])) (λ z=>hc (by simp[z])) q) (λ b o _ _ hc q _=>⟨o.slots,k2 b o (λ z=>hc (by simp[z])) (λ z=>hc (by simp[z])) q⟩) (λ b o _ q n=>?_)
    (λ b o hc q=>⟨o,k2 b o (λ z=>hc (by simp[z])) (λ z=>hc (by simp[z])) q⟩) (λ b xs q=>by rw[Jg (neP b _ q)];exact q) (λ b o u q=>by rw[Jg (neP b _ q)];exact q) (λ b ps q=>⟨#[],by rw[Jg (neP b _ q),q];simp⟩) (λ m hm=>?_) (λ b u q=>?_) I.bare
   ·simp only[List.mem_cons,List.not_mem_nil,or_false] at hb
    rcases hb with rfl|rfl
    ·exact⟨fe.2.2.2.1,fe.2.1,fe.2.2.2.2.1,fe.2.2.2.2.2⟩
    ·exact⟨fi.2.2.2.1,fi.2.1,fi.2.2.2.2.1,fi.2.2.2.2.2⟩
   ·rw[Jg (Nat.ne_of_lt (Heap.lt_size q))];exact n
   ·obtain⟨o,es,ep,ho,r⟩:=hm
    exact⟨o,es,ep,k2 _ o (Ne.symm fe.2.1) (Ne.symm fi.2.1) ho,r⟩
   ·by_cases hb:b=s.heap.objs.size
    ·subst hb
     rw[Jf] at q
     cases q
     exact⟨by show 2<=sizeLine;decide,[.int i s.toks,u],.cons ⟨_,rfl⟩ (.cons ru .nil),⟨_,t2,rfl,_,rfl⟩⟩
    ·rw[Jg hb] at q
     have n1:b≠e:=λ z=>by rw[z,fe.1] at q;cases q
     have n2:b≠it:=λ z=>by rw[z,fi.1] at q;cases q
     refine(I.hok b u q).stay (λ c v hc r=>k2 c v ?_ ?_ r) (λ c q=>by rw[Jg (neP c _ q)];exact q) λ c ys q=>by rw[Jg (neP c _ q)];exact q
     ·rcases hc with z|z
      ·rw[z];exact n1
      ·intro y;rw[y,fe.1] at z;cases z
     ·rcases hc with z|z
      ·rw[z];exact n2
      ·intro y;rw[y,fi.1] at z;cases z
  refine⟨.ref s.heap.objs.size,_,I1,rfl,⟨s.heap.objs.size,x,hn,rfl,rfl,λ ys hy=>by rw[I.list_inj hy hq];exact hx⟩,⟨⟨_,he2⟩,hl2⟩,λ b hb=>?_⟩
  simp only[List.mem_cons,List.not_mem_nil,or_false] at hb
  rcases hb with rfl|rfl
  ·rw[Jg (Nat.ne_of_lt ltE)];exact fe.1
  ·rw[Jg (Nat.ne_of_lt (Heap.lt_size hoi))];exact fi.1
 done:=by
  intro X hP hw hK hc i pins s σ H E I hf st hg
  subst hP hw hK
  obtain⟨⟨old,he⟩,hit⟩:=st
  obtain⟨xs,hq,hx⟩:=hg
  obtain⟨its,rv,p,hz⟩:=I.list hq
  obtain⟨f0,f1,f2,f3,f4,f5⟩:=hf it (by simp)
  have hl:=rv.length
  exact wpAny_pyNext_enum_end (I.ok.hd hc) he hit p.isList (by simp;omega) λ h' eb=>⟨rfl,I.turned (t':=s.toks) (λ b o hb e=>eb b o hb e) f0 f1 f3 f4 f5⟩
 self:=λ _ _ _ _ _ st h=>let ⟨_,he⟩:=st.1;wpAny_pyIter_enum he h
noncomputable def Jhi (n:Nat):List IV->List IV
 | []=>[]
 | x::xs=>.tup [.int n,x]::Jhi (n+1) xs
theorem Jj6:∀(xs:List IV) (n k:Nat),(Jhi n xs)[k]?=(xs[k]?).map λ x=>.tup [.int ((n+k:Nat):Int),x]
 | [],_,_=>by simp[Jhi]
 | x::xs,n,0=>by simp[Jhi]
 | x::xs,n,k+1=>by
  simp only[Jhi,List.getElem?_cons_succ]
  rw[Jj6 xs (n+1) k]
  have:n+1+k=n+(k+1):=by omega
  rw[this]
theorem Jbr:∀(xs:List IV) (n:Nat),(Jhi n xs).length=xs.length
 | [],_=>rfl
 | _::xs,n=>by simp[Jhi,Jbr xs]
noncomputable def Jd0:List IV->IH->Res ItI
 | [.ref i],h=>match h[i]? with
  | some (.lst xs)=>.ok ⟨Jhi 0 xs,λ h'=>h'[i]?=some (.lst xs)⟩ h
  | _=>.stuck
 | _,_=>.stuck
theorem J3h {a:Addr}{i:Nat}{xs:List IV}{ι:List Addr}{H₀:Hp}(ha:ι[i]?=some a):ItOk ce X.K ι H₀ (Ite X.K a) ⟨Jhi 0 xs,λ h'=>h'[i]?=some (.lst xs)⟩:=by
 refine⟨λ k v h H ι' hp R hck hx=>?_,λ k h H ι' hp R hck hx=>?_⟩
 ·obtain⟨vs,e1,r1⟩:=R.get hck (hp.at ha)
  have hx':(Jhi 0 xs)[k]?=some v:=hx
  rw[Jj6] at hx'
  obtain⟨x,hxk,rfl⟩:=Option.map_eq_some_iff.mp hx'
  obtain⟨u,hu,qu⟩:=r1.get hxk
  refine⟨⟨vs,u,SqL.of e1,hu⟩,λ y H' hy=>?_⟩
  obtain⟨p,x',hp0,rfl,rfl,hy⟩:=hy
  have:=hy vs (SqL.of e1)
  rw[hu] at this
  cases this
  obtain⟨R',n'⟩:=R.grow (o:=.tup [.int (k:Int),u]) hp0
  refine⟨R',n',p,_,rfl,SqT.of Jf,⟨_,_,rfl,?_,_,_,rfl,RV.mono n' _ _ qu,rfl⟩⟩
  show V.int (k:Int)=V.int ((0+k:Nat):Int)
  simp
 ·obtain⟨vs,e1,r1⟩:=R.get hck (hp.at ha)
  exact⟨vs,SqL.of e1,by rw[r1.length,<-Jbr xs 0];exact hx⟩
theorem J3b {es:List Expr}{kt:Nat}{pt:Pos}{a:Expr}{ma:A1}{p pos:Pos}(hg:Gl X "enumerate") (hm:X.mg "enumerate"=none) (ha:PAi ce X [a] ma) (hs:starEach [a] X.env=[(false,eval a X.env)]:=by rfl):PIi ce X (.Tuple es kt pt) (.Call (.Name "enumerate" p) [a] [] pos) (iRg Jd0 ma):=by
 intro pins s σ H ι σi h Q E N K
 refine Call_ (Jc2 N.inv hg hm boot_enumerate (PyProof.Rows.callWith_type1 ?_ hs rfl))
 refine ha pos pins s σ H ι σi h _ E N ?_
 unfold iRg at K
 cases e0:ma σi h with
 | exc n h'=>rw[e0] at K;exact K
 | stuck=>rw[e0] at K;exact K
 | ok vs h' =>
  rw[e0] at K
  intro us s1 H1 ι1 N1 n1 r1
  obtain⟨xs,rv,qs⟩:=r1
  match vs,K with
  | [.ref i],K =>
   obtain⟨w,e1,q⟩:=qs.one_of
   subst e1
   obtain⟨b,e3,hb⟩:=q
   subst e3
   obtain⟨u,rfl,ru⟩:=Jk3 rv
   cases ru
   cases hi:h'[i]? with
   | none=>simp only[Res.bind,Jd0,hi] at K
   | some ob =>
    cases ob with
    | lst ys =>
     simp only[Res.bind,Jd0,hi] at K
     obtain⟨ws,eH,rH⟩:=N1.at hi hb
     obtain⟨z,its,n,r,hl,eo⟩:=N1.inv.lstM eH
     refine call_enumerate_1 eo λ h2 he hit hsz kp=>?_
     refine wpAny_pyIter_enum he (K _ _ H1 ι1 ⟨N1.inv.kept (t':=s1.toks) kp,N1.rel,N1.st⟩ n1 ?_)
     refine⟨s1.heap.objs.size+1,[s1.heap.objs.size+1,s1.heap.objs.size],_,Ite X.K b,rfl,Jwq b s1.heap.objs.size (s1.heap.objs.size+1) (Nat.ne_of_gt (Nat.lt_succ_self _)),⟨⟨_,he⟩,hit⟩,λ c hc=>?_,J3h hb⟩
     simp only[List.mem_cons,List.not_mem_nil,or_false] at hc
     rcases hc with rfl|rfl
     ·exact N1.inv.fpOk (Nat.le_succ _) (N1.inv.hok.fresh (Nat.le_succ _))
     ·exact N1.inv.fpOk (Nat.le_refl _) (N1.inv.hok.fresh (Nat.le_refl _))
    | _=>simp only[Res.bind,Jd0,hi] at K
  | [],K=>exact Zf K
  | .non::_,K=>exact Zf K
  | .bl _::_,K=>exact Zf K
  | .str _::_,K=>exact Zf K
  | .tup _::_,K=>exact Zf K
  | .rol _::_,K=>exact Zf K
  | .int _::_,K=>exact Zf K
  | .ref _::_::_,K=>exact Zf K
end
noncomputable def Jsl:IV->IH->Res ItI
 | .str x,h=>Jxw (.str x) h
 | v,h=>itOf v h
noncomputable def iAny (e:E1):I1:=λ σ h=>(e σ h).bind Jsl
theorem Jxn {ce:Str->Option Addr}{X:Cx}{tg l:Expr}{ml:E1}(hl:PEi ce X l ml):PIi ce X tg l (iAny ml):=by
 intro pins s σ H ι σi h Q E N K
 cases e0:ml σi h with
 | ok v h' =>
  cases v with
  | str x=>exact Jsg (tg:=tg) hl pins s σ H ι σi h Q E N (by unfold iStr;unfold iAny at K;rw[e0] at K ⊢;exact K)
  | _=>exact Jvg (tg:=tg) hl pins s σ H ι σi h Q E N (by unfold iVal;unfold iAny at K;rw[e0] at K ⊢;exact K)
 | exc n h'=>exact Jvg (tg:=tg) hl pins s σ H ι σi h Q E N (by unfold iVal;unfold iAny at K;rw[e0] at K ⊢;exact K)
 | stuck=>exact Jvg (tg:=tg) hl pins s σ H ι σi h Q E N (by unfold iVal;unfold iAny at K;rw[e0] at K ⊢;exact K)
section
variable {ce:Str->Option Addr}{X:Cx}
theorem x_sl:SlI ce X slI:=by
 intro pins s σ H ι σi h x v vl vu lo hi sl Q E N rx hs pl pu K
 obtain⟨xv,rx,qx⟩:=rx
 cases x with
 | ref i =>
  obtain⟨a,e1,ha⟩:=qx
  subst e1
  dsimp only[slI] at K
  cases hi':h[i]? with
  | none=>rw[hi'] at K;exact Zf K
  | some ob =>
   rw[hi'] at K
   cases ob with
   | lst xs =>
    obtain⟨vs,e1,r1⟩:=N.at hi' ha
    exact Jz1 (Jwl (X:=X.wish E)) N.inv rx hs pl pu ⟨a,vs,rfl,SqL.of e1,λ p hp=>finA N K p hp ⟨_,Jf,RVs.new hp (r1.cut lo hi)⟩⟩
   | _=>exact Zf K
 | rol xs =>
  obtain⟨a,vs,e1,sa,ra⟩:=qx
  subst e1
  exact Jz1 (Jwl (X:=X.wish E)) N.inv rx hs pl pu ⟨a,vs,rfl,sa.sq,λ p hp=>finA N K p hp ⟨_,Jf,RVs.new hp (ra.cut lo hi)⟩⟩
 | _=>exact Zf K
noncomputable def revI:IV->IH->Res IV
 | .ref i,h=>match h[i]? with
  | some (.lst xs)=>.ok (.ref h.length) (h++[.lst xs.reverse])
  | _=>.stuck
 | .rol xs,h=>.ok (.ref h.length) (h++[.lst xs.reverse])
 | _,_=>.stuck
noncomputable def Jon:IV->IH->Res IV
 | .ref i,h=>match h[i]? with
  | some (.lst xs)=>.ok (.ref h.length) (h++[.lst xs])
  | _=>.stuck
 | .rol xs,h=>.ok (.ref h.length) (h++[.lst xs])
 | .tup xs,h=>.ok (.ref h.length) (h++[.lst xs])
 | _,_=>.stuck
theorem J2s:Jjk ce X (.type "list") (on1 Jon):=Jpw λ pins s σ H ι σi h x xv u Q E N ru qx K=>by
 cases x with
 | ref i =>
  obtain⟨a,e1,ha⟩:=qx
  subst e1
  dsimp only[Jon] at K
  cases hi:h[i]? with
  | none=>rw[hi] at K;exact Zf K
  | some ob =>
   rw[hi] at K
   cases ob with
   | lst xs =>
    obtain⟨vs,e1,r1⟩:=N.at hi ha
    exact Jag (Jdx (X:=X.wish E)) N.inv (.cons ru .nil) ⟨a,vs,rfl,.inl (SqL.of e1),λ p hp=>finA N K p hp ⟨_,Jf,RVs.new hp r1⟩⟩
   | _=>exact Zf K
 | rol xs =>
  obtain⟨a,vs,e1,sa,ra⟩:=qx
  subst e1
  exact Jag (Jdx (X:=X.wish E)) N.inv (.cons ru .nil) ⟨a,vs,rfl,.inl sa.sq,λ p hp=>finA N K p hp ⟨_,Jf,RVs.new hp ra⟩⟩
 | tup xs =>
  obtain⟨a,vs,e1,sa,ra⟩:=qx
  subst e1
  exact Jag (Jdx (X:=X.wish E)) N.inv (.cons ru .nil) ⟨a,vs,rfl,.inr sa,λ p hp=>finA N K p hp ⟨_,Jf,RVs.new hp ra⟩⟩
 | _=>exact Zf K
noncomputable def Jko:IV->IH->Res IV
 | .ref i,h=>match h[i]? with
  | some (.lst xs)=>.ok (.tup xs) h
  | _=>.stuck
 | .tup xs,h=>.ok (.tup xs) h
 | _,_=>.stuck
theorem J0d:Jjk ce X (.type "tuple") (on1 Jko):=Jpw λ pins s σ H ι σi h x xv u Q E N ru qx K=>by
 cases x with
 | ref i =>
  obtain⟨a,e1,ha⟩:=qx
  subst e1
  dsimp only[Jko] at K
  cases hi:h[i]? with
  | none=>rw[hi] at K;exact Zf K
  | some ob =>
   rw[hi] at K
   cases ob with
   | lst xs =>
    obtain⟨vs,e1,r1⟩:=N.at hi ha
    exact Jag (Jgo (X:=X.wish E)) N.inv (.cons ru .nil) ⟨a,vs,rfl,.inl ⟨SqL.of e1,λ p hp=>finT N K p hp r1⟩⟩
   | _=>exact Zf K
 | tup xs =>
  have qx':=qx
  obtain⟨a,vs,e1,sa,ra⟩:=qx
  subst e1
  exact Jag (Jgo (X:=X.wish E)) N.inv (.cons ru .nil) ⟨a,vs,rfl,.inr ⟨sa,fin0 N K qx'⟩⟩
 | _=>exact Zf K
noncomputable def intI:IV->IH->Res IV
 | .int i,h=>.ok (.int i) h
 | .bl b,h=>.ok (.int (if b then 1 else 0)) h
 | _,_=>.stuck
noncomputable def strI:IV->IH->Res IV
 | .int i,h=>if i.natAbs.log2<1920 then .ok (.str (toString i)) h else .stuck
 | _,_=>.stuck
noncomputable def Jnv:List IV->Option (List Bool)
 | []=>some []
 | .bl b::r=>(Jnv r).map (b:: ·)
 | _::_=>none
noncomputable def allI:IV->IH->Res IV
 | .ref i,h=>match h[i]? with
  | some (.lst xs)=>(match Jnv xs with
   | some bs=>.ok (.bl (bs.all id)) h
   | none=>.stuck)
  | _=>.stuck
 | _,_=>.stuck
noncomputable def anyI:IV->IH->Res IV
 | .ref i,h=>match h[i]? with
  | some (.lst xs)=>(match Jnv xs with
   | some bs=>.ok (.bl (bs.any id)) h
   | none=>.stuck)
  | _=>.stuck
 | _,_=>.stuck
theorem Jq4 {K:W.Frag}{ι:List Addr}{H:Hp}:∀{xs:List IV}{bs:List Bool}{vs:List V}{us:List Value},Jnv xs=some bs->RVs K ι H xs vs->Vals vs us->us=bs.map Value.bool
 | [],bs,vs,us,e,q,r=>by
  cases e
  have e1:vs=[]:=q
  subst e1
  cases r
  rfl
 | x::xs,bs,vs,us,e,q,r=>by
  obtain⟨v,vr,e1,q1,q2⟩:=q
  subst e1
  cases r with
  | cons r1 r2 =>
   cases x with
   | bl b =>
    obtain⟨b2,e2,rfl⟩:=Option.map_eq_some_iff.mp (show(Jnv xs).map (b:: ·)=some bs from e)
    cases (show v=.bl b from q1)
    cases r1
    rw[Jq4 e2 q2 r2]
    rfl
   | _=>cases e
theorem Jt9 (bs:List Bool):((List.range bs.length).all λ i=>bs.getD i true)=bs.all id:=by
 induction bs with
 | nil=>rfl
 | cons b r ih =>
  rw[List.length_cons,List.range_succ_eq_map,List.all_cons,List.all_map,List.all_cons]
  have e:((List.range r.length).all ((λ i=>(b::r).getD i true)∘Nat.succ))=(List.range r.length).all λ i=>r.getD i true:=by
   congr 1
  rw[e,ih]
  rfl
theorem c_all (hh:X.A.handled=none):Jjk ce X (.builtin "all") (on1 allI):=Jpw λ pins s σ H ι σi h x xv u Q E N ru qx K=>by
 cases x with
 | ref i =>
  obtain⟨a,e1,ha⟩:=qx
  subst e1
  cases ru
  dsimp only[allI] at K
  cases hi:h[i]? with
  | none=>rw[hi] at K;exact Zf K
  | some ob =>
   rw[hi] at K
   cases ob with
   | lst xs =>
    dsimp only at K
    cases hb:Jnv xs with
    | none=>rw[hb] at K;exact Zf K
    | some bs =>
     rw[hb] at K
     obtain⟨vs,e1,r1⟩:=N.at hi ha
     obtain⟨its,rv,pl,hz⟩:=N.inv.list (SqL.of e1)
     have eu:=Jq4 hb r1 rv
     subst eu
     refine call_all_walk (wpAny_pyIter_list pl.isList ?_)
     have hlt:a<s.heap.objs.size:=by obtain⟨o,_,ho,_⟩:=pl;exact Heap.lt_size ho
     have ne:a≠s.heap.objs.size:=Nat.ne_of_lt hlt
     refine⟨s.heap.objs.size,_,_,_,_,_,λ i=>bs.getD i true,rfl,Walks.list (prog:=X.prog) (w:=X.w) (A:=X.A.in1) hh s.heap.objs.size a ne (bs.map Value.bool).toArray,⟨⟨_,Heap.get?_push_size _ rfl,rfl,rfl⟩,?_⟩,?_,λ h' tk kk=>?_⟩
     ·obtain⟨o,n,ho,hc,_,hd⟩:=pl
      exact⟨o,Heap.get?_push_of_some _ ho,hc,n,hd⟩
     ·intro i v s' Q' E' hP hq
      simp only[List.getElem?_toArray,List.getElem?_map] at hP
      obtain⟨b,hb',rfl⟩:=Option.map_eq_some_iff.mp hP
      refine wpAny_truthy_bool ?_
      have:bs.getD i true=b:=by simp[List.getD,hb']
      rw[<- this]
      exact hq
     ·rw[show(bs.map Value.bool).toArray.size=bs.length by simp,Jt9]
      have I1:Inv X pins σ H { s with heap:=s.heap.push { cls:=.type "list_iterator",data:=.fields #[.ref a,.int 0 0] } }:=N.inv.kept (t':=s.toks) λ b o e=>Heap.get?_push_of_some _ e
      have f:=N.inv.fpOk (Nat.le_refl _) (N.inv.hok.fresh (Nat.le_refl _))
      exact fin0 N K rfl _ _ (I1.turned (t':=tk) (it:=s.heap.objs.size) (λ b o hb e=>kk b o (by simpa using hb) e) f.1 f.2.1 f.2.2.2.1 f.2.2.2.2.1 f.2.2.2.2.2) rfl
   | _=>exact Zf K
 | _=>exact Zf K
noncomputable def MtI (ce:Str->Option Addr) (X:Cx) (T id:String) (g:IV->List IV->IH->Res IV):Prop :=
 ∀(pins:List (Addr×Obj)) (s:Shared) (σ:L2.St) (H:Hp) (ι:List Addr) (σi:ISt) (h:IH) (x:IV) (xs:List IV) (v:Value) (us:List Value) (Q:Value->Shared->Prop) (E:Value->Shared->Prop),Now ce X pins ι σi h σ H s->RU X.K ι H x v->RUs X.K ι H xs us ->
  Kont ce X RU pins ι σi σ H (g x xs h) Q E->wpAny (model X.prog X.w) X.A (call (.builtin id) (v::us)) Q E s
noncomputable def tyOk (T:String):IV->IH->Bool
 | .str _,_=>T=="str"
 | .int _,_=>T=="int"
 | .ref i,h=>match h[i]? with
  | some (.lst _)=>T=="list"
  | some (.dct _)=>T=="dict"
  | _=>false
 | .rol _,_=>T=="list"
 | _,_=>false
noncomputable def eBm (T:String) (g:IV->List IV->IH->Res IV) (o:E1) (a:A1):E1:=λ σ h=>(o σ h).bind λ x h1=>if tyOk T x h1=true then(a σ h1).bind λ xs h2=>g x xs h2 else .stuck
theorem Jzx {pins:List (Addr×Obj)}{s:Shared}{σ:L2.St}{H:Hp}{ι:List Addr}{σi:ISt}{h:IH}{x:IV}{xv:V}{T:String}(N:Now ce X pins ι σi h σ H s) (q:RV X.K ι H x xv) (e:tyOk T x h=true):tyV X.K T xv H:=by
 cases x with
 | str y=>cases (show xv=.str y from q);exact beq_iff_eq.mp e
 | int y=>cases (show xv=.int y from q);exact beq_iff_eq.mp e
 | rol y =>
  obtain⟨a,vs,rfl,sa,_⟩:=q
  exact .inl ⟨beq_iff_eq.mp e,vs,sa.sq⟩
 | ref i =>
  obtain⟨a,rfl,ha⟩:=q
  cases hi:h[i]? with
  | none=>simp[tyOk,hi] at e
  | some ob =>
   cases ob with
   | lst xs =>
    simp only[tyOk,hi] at e
    obtain⟨vs,e1,_⟩:=N.at hi ha
    exact .inl ⟨beq_iff_eq.mp e,vs,SqL.of e1⟩
   | dct kvs =>
    simp only[tyOk,hi] at e
    obtain⟨vs,e1,_⟩:=N.at hi ha
    exact .inr (.inr (.inl ⟨beq_iff_eq.mp e,.inl ⟨vs,e1⟩⟩))
   | _=>simp[tyOk,hi] at e
 | _=>simp[tyOk] at e
variable {o a:Expr}{es:List Expr}{mo:E1}{ma:A1}{name:Str}{apos cpos:Pos}{T id:String}{g:IV->List IV->IH->Res IV}
theorem i_bm (pa:PlainAttrs T) (slot:Slot T name id) (hty:typeOf (.builtin id)=pure (.type "method_descriptor")) (hm:MtI ce X T id g) (ho:PEi ce X o mo) (ha:PAi ce X (a::es) ma)
  (hbase:attributeBase o name X.env (eval o X.env)=eval o X.env:=by rfl)
  (hfew:((backTo cpos (starEach (a::es) X.env)).all (λ x=>!x.1)&&(backToKw cpos (keywordEach [] X.env)).all (λ x=>x.1.isSome)
   && decide ((a::es).length+([]:List Keyword).length+(if ([]:List Keyword).isEmpty then 0 else 1)<30))=true:=by rfl)
  (hline:(apos.endLine==cpos.line)=true:=by rfl) (hs:starEach (a::es) X.env=(false,eval a X.env)::starEach es X.env:=by rfl) (hplain:(backTo cpos (starEach es X.env)).any (·.1)=false:=by rfl) :
  PEi ce X (.Call (.Attribute o name apos) (a::es) [] cpos) (eBm T g mo ma):=by
 intro pins s σ H ι σi h Q E N K
 refine wpAny_Call_method_late hbase hfew hline rfl (ho.run N K λ x h1 v s1 H1 ι1 N1 n1 r1 K1=>?_)
 by_cases hty1:tyOk T x h1=true
 ·rw[if_pos hty1] at K1
  obtain⟨xv,rx,qx⟩:=r1
  obtain⟨h1',h2'⟩:=Jzy N1.inv rx (Jzx N1 qx hty1)
  refine⟨T,id,pa,slot,hty,h1',h2',?_⟩
  have hA:=(ha cpos).run (Q1:=λ us s2=>wpAny (model X.prog X.w) X.A (call (.builtin id) (v::us)) Q E s2) N1 K1 λ xs h2 us s2 H2 ι2 N2 n2 r2 K2=>hm pins s2 σ H2 ι2 σi h2 x xs v us Q E N2 ⟨xv,rx,RV.mono n2 _ _ qx⟩ r2 K2
  rw[hs] at hA ⊢
  exact Calls.callWith_builtin (by show(false||(backTo cpos (starEach es X.env)).any (·.1))=false;rw[hplain]<;>rfl) (Calls.evalArgs_plain hA)
 ·rw[if_neg hty1] at K1
  exact Zf K1
theorem i_bm0 (pa:PlainAttrs T) (slot:Slot T name id) (hty:typeOf (.builtin id)=pure (.type "method_descriptor")) (hm:MtI ce X T id g) (ho:PEi ce X o mo)
  (hbase:attributeBase o name X.env (eval o X.env)=eval o X.env:=by rfl) (hline:(apos.endLine==cpos.line)=true:=by rfl):PEi ce X (.Call (.Attribute o name apos) [] [] cpos) (eBm T g mo aNil):=by
 intro pins s σ H ι σi h Q E N K
 refine wpAny_Call_method0_late hbase hline (ho.run N K λ x h1 v s1 H1 ι1 N1 n1 r1 K1=>?_)
 by_cases hty1:tyOk T x h1=true
 ·rw[if_pos hty1] at K1
  obtain⟨xv,rx,qx⟩:=r1
  obtain⟨h1',h2'⟩:=Jzy N1.inv rx (Jzx N1 qx hty1)
  exact⟨T,id,pa,slot,hty,h1',h2',Calls.callWith_builtin rfl (PySem.evalArgs_none (hm pins s1 σ H1 ι1 σi h1 x [] v [] Q E N1 ⟨xv,rx,qx⟩ .nil K1))⟩
 ·rw[if_neg hty1] at K1
  exact Zf K1
theorem Jz0 {pins:List (Addr×Obj)}{s:Shared}{σ:L2.St}{H:Hp}{Q:Value->Shared->Prop}{E:Value->Shared->Prop}{r:V->List V->Hp->VK->Prop}{x:V}{xs:List V}{v:Value}{us:List Value}(p:MtM (X.wish E) id r) (I:Inv X pins σ H s) (rx:RelV x v) (rs:Vals xs us)
  (k:r x xs H λ z H'=>∀u s',Inv X pins σ H' s'->RelV z u->Q u s'):wpAny (model X.prog X.w) X.A (call (.builtin id) (v::us)) Q E s :=
 wpAny_mono (p pins s σ H x xs v us _ (I.wish E) rx rs k) (λ u s' ⟨_,_,I',r,q⟩=>q u s' I'.unwish r) λ _ _ z=>z
theorem finW {pins:List (Addr×Obj)}{s:Shared}{σ:L2.St}{H:Hp}{ι:List Addr}{σi:ISt}{h:IH}{i:Nat}{b:Addr}{ys:List IV}{vs ws:List V}{v:IV}{w:V}{Q:Value->Shared->Prop}{E:Value->Shared->Prop}(N:Now ce X pins ι σi h σ H s) (K:Kont ce X RU pins ι σi σ H (.ok v (h.set i (.lst ys))) Q E)
  (hb:ι[i]?=some b) (eH:H b=some (.lst vs)) (r:RVs X.K ι H ys ws) (q:RV X.K ι H v w):∀u s',Inv X pins σ (upd H b (.lst ws)) s'->RelV w u->Q u s':=λ u s' I ru=>by
 have n:Nxt ι H ι (upd H b (.lst ws)):=⟨⟨[],by simp⟩,Ext.upd_mut eH (by rw[eH];exact True.intro)⟩
 obtain⟨R,_⟩:=N.rel.write (o:=.lst ws) (io:=.lst ys) hb eH (by rw[eH];exact True.intro) ⟨_,Jf,RVs.mono n _ _ r⟩
 exact K u s' _ ι ⟨I,R,N.st.mono n⟩ n ⟨w,ru,RV.mono n _ _ q⟩
noncomputable def Jhd:IV->List IV->IH->Res IV
 | .ref i,[y],h=>match h[i]? with
  | some (.lst xs)=>if xs.length<sizeLine then .ok .non (h.set i (.lst (xs++[y]))) else .stuck
  | _=>.stuck
 | _,_,_=>.stuck
theorem Jx4:MtI ce X "list" "list.append" Jhd:=by
 intro pins s σ H ι σi h x xs v us Q E N rx rs K
 obtain⟨xv,rx,qx⟩:=rx
 obtain⟨vs,rv,qs⟩:=rs
 cases x with
 | ref i =>
  match xs,K with
  | [y],K =>
   obtain⟨a,rfl,ha⟩:=qx
   obtain⟨w,rfl,qw⟩:=qs.one_of
   dsimp only[Jhd] at K
   cases hi:h[i]? with
   | none=>rw[hi] at K;exact Zf K
   | some ob =>
    rw[hi] at K
    cases ob with
    | lst zs =>
     dsimp only at K
     split at K
     ·rename_i hz
      obtain⟨ws,e1,r1⟩:=N.at hi ha
      exact Jz0 (Joq (X:=X.wish E)) N.inv rx rv ⟨a,ws,w,rfl,rfl,e1,by rw[r1.length];exact hz,finW N K ha e1 (r1.append (RVs.one qw)) rfl⟩
     ·exact Zf K
    | _=>exact Zf K
  | [],K=>exact Zf K
  | _::_::_,K=>exact Zf K
 | _=>cases xs<;>exact Zf K
noncomputable def setI:IV->IV->IV->ISt->IH->SRes
 | .ref i,.int k,v,σ,h=>match h[i]? with
  | some (.lst xs)=>(match ixN xs.length k with
   | some j=>.next σ (h.set i (.lst (xs.set j v)))
   | none=>.stuck)
  | _=>.stuck
 | _,_,_,_,_=>.stuck
end
section
variable {ce:Str->Option Addr}{X:Cx}
noncomputable def keyI:IV->Option Key
 | .int i=>some (.inl i)
 | .str x=>some (.inr x)
 | _=>none
theorem Jm0 {K:W.Frag}{ι:List Addr}{H:Hp}{x:IV}{v:V}{k:Key}(e:keyI x=some k) (r:RV K ι H x v):v=kV k:=by
 cases x with
 | int i=>cases e;exact r
 | str y=>cases e;exact r
 | _=>cases e
noncomputable def maxI:IV->IV->IH->Res IV
 | .int i,.int j,h=>.ok (.int (if j>i then j else i)) h
 | _,_,_=>.stuck
noncomputable def minI:IV->IV->IH->Res IV
 | .int i,.int j,h=>.ok (.int (if j<i then j else i)) h
 | _,_,_=>.stuck
theorem c_max (hc:X.calm=true):Jjk ce X (.builtin "max") (on2 maxI):=by
 intro pins s σ H ι σi h xs us Q E N r K
 obtain⟨vs,rv,q⟩:=r
 match xs,K with
 | [x,y],K =>
  obtain⟨v,w,rfl,qx,qy⟩:=q.two_of
  cases x with
  | int i =>
   cases y with
   | int j =>
    cases (show v=.int i from qx)
    cases (show w=.int j from qy)
    exact Jag (Jum (X:=X.wish E) hc) N.inv rv ⟨i,j,rfl,fin0 N K rfl⟩
   | _=>exact Zf K
  | _=>cases y<;>exact Zf K
 | [],K=>exact Zf K
 | [_],K=>exact Zf K
 | _::_::_::_,K=>exact Zf K
noncomputable def Jhc:List IV->Option (List Str)
 | []=>some []
 | .str x::r=>(Jhc r).map (x:: ·)
 | _=>none
theorem Jqy {K:W.Frag}{ι:List Addr}{H:Hp}:∀{xs:List IV}{zs:List Str}{vs:List V}{us:List Value},Jhc xs=some zs->RVs K ι H xs vs->Vals vs us->∃l:List (Str×Tok),us=strValues l/\l.map (·.1)=zs
 | [],zs,vs,us,e,q,r=>by
  cases e
  have e1:vs=[]:=q
  subst e1
  cases r
  exact⟨[],rfl,rfl⟩
 | x::xs,zs,vs,us,e,q,r=>by
  obtain⟨v,vr,e1,q1,q2⟩:=q
  subst e1
  cases r with
  | cons r1 r2 =>
   cases x with
   | str y =>
    obtain⟨z2,e2,rfl⟩:=Option.map_eq_some_iff.mp (show(Jhc xs).map (y:: ·)=some zs from e)
    cases (show v=.str y from q1)
    obtain⟨t,rfl⟩:=r1
    obtain⟨l,rfl,hl⟩:=Jqy e2 q2 r2
    exact⟨(y,t)::l,rfl,by rw[List.map_cons,hl]⟩
   | _=>cases e
noncomputable def Jsm:IV->List IV->IH->Res IV
 | .str x,[.ref i],h=>match h[i]? with
  | some (.lst xs)=>(match Jhc xs with
   | some zs=>if JoinOk x zs=true then .ok (.str (Txt.join x zs)) h else .stuck
   | none=>.stuck)
  | _=>.stuck
 | _,_,_=>.stuck
theorem J3u:MtI ce X "str" "str.join" Jsm:=by
 intro pins s σ H ι σi h x xs v us Q E N rx rs K
 obtain⟨xv,rx,qx⟩:=rx
 obtain⟨vs,rv,qs⟩:=rs
 cases x with
 | str x =>
  cases (show xv=.str x from qx)
  obtain⟨t,rfl⟩:=rx
  match xs,K with
  | [.ref i],K =>
   obtain⟨w,rfl,a,rfl,ha⟩:=qs.one_of
   obtain⟨u,rfl,ru⟩:=Jk3 rv
   cases ru
   dsimp only[Jsm] at K
   cases hi:h[i]? with
   | none=>rw[hi] at K;exact Zf K
   | some ob =>
    rw[hi] at K
    cases ob with
    | lst ys =>
     dsimp only at K
     cases hb:Jhc ys with
     | none=>rw[hb] at K;exact Zf K
     | some zs =>
      rw[hb] at K
      dsimp only at K
      split at K
      ·rename_i hz
       obtain⟨ws,e1,r1⟩:=N.at hi ha
       obtain⟨its,rv',pl,_⟩:=N.inv.list (SqL.of e1)
       obtain⟨l,rfl,hl⟩:=Jqy hb r1 rv'
       exact SC.join pl.isList hl hz λ t' k=>fin0 N K rfl _ _ (N.inv.tok _) ⟨_,rfl⟩
      ·exact Zf K
    | _=>exact Zf K
  | [],K=>exact Zf K
  | [.non],K=>exact Zf K
  | [.bl _],K=>exact Zf K
  | [.int _],K=>exact Zf K
  | [.str _],K=>exact Zf K
  | [.tup _],K=>exact Zf K
  | [.rol _],K=>exact Zf K
  | y::_::_,K=>cases y<;>exact Zf K
 | _=>exact Zf K
noncomputable def Jk7:IV->List IV->IH->Res IV
 | .ref i,[],h=>match h[i]? with
  | some (.lst _)=>.ok .non (h.set i (.lst []))
  | _=>.stuck
 | _,_,_=>.stuck
theorem J07:MtI ce X "list" "list.clear" Jk7:=by
 intro pins s σ H ι σi h x xs v us Q E N rx rs K
 obtain⟨xv,rx,qx⟩:=rx
 obtain⟨vs,rv,qs⟩:=rs
 cases x with
 | ref i =>
  match xs,K with
  | [],K =>
   obtain⟨a,rfl,ha⟩:=qx
   cases (show vs=[] from qs)
   dsimp only[Jk7] at K
   cases hi:h[i]? with
   | none=>rw[hi] at K;exact Zf K
   | some ob =>
    rw[hi] at K
    cases ob with
    | lst zs =>
     obtain⟨ws,e1,r1⟩:=N.at hi ha
     exact Jz0 (Jx6 (X:=X.wish E)) N.inv rx rv ⟨a,ws,rfl,rfl,e1,finW (ys:=[]) (ws:=[]) N K ha e1 rfl rfl⟩
    | _=>exact Zf K
  | _::_,K=>exact Zf K
 | _=>cases xs<;>exact Zf K
end
noncomputable def Jbs:List IV->Option (List Int)
 | []=>some []
 | .int i::r=>(Jbs r).map (i:: ·)
 | _=>none
theorem Jhl {K:W.Frag}{ι:List Addr}{H:Hp}:∀{xs:List IV}{ns:List Int}{vs:List V}{us:List Value},Jbs xs=some ns->RVs K ι H xs vs->Vals vs us->IntsAre us ns
 | [],ns,vs,us,e,q,r=>by
  cases e
  have e1:vs=[]:=q
  subst e1
  cases r
  exact .nil
 | x::xs,ns,vs,us,e,q,r=>by
  obtain⟨v,vr,e1,q1,q2⟩:=q
  subst e1
  cases r with
  | cons r1 r2 =>
   cases x with
   | int i =>
    obtain⟨n2,e2,rfl⟩:=Option.map_eq_some_iff.mp (show(Jbs xs).map (i:: ·)=some ns from e)
    cases (show v=.int i from q1)
    obtain⟨t,rfl⟩:=r1
    exact .cons i t (Jhl e2 q2 r2)
   | _=>cases e
theorem Jfe:∀{us:List Value}{ns:List Int},IntsAre us ns->us.length=ns.length
 | _,_,.nil=>rfl
 | _,_,.cons _ _ r=>by simp[Jfe r]
section
variable {ce:Str->Option Addr}{X:Cx}
noncomputable def sumI:IV->IH->Res IV
 | .ref i,h=>match h[i]? with
  | some (.lst xs)=>(match Jbs xs with
   | some ns=>.ok (.int ns.sum) h
   | none=>.stuck)
  | _=>.stuck
 | _,_=>.stuck
theorem c_sum (hh:X.A.handled=none):Jjk ce X (.builtin "sum") (on1 sumI):=Jpw λ pins s σ H ι σi h x xv u Q E N ru qx K=>by
 cases x with
 | ref i =>
  obtain⟨a,e1,ha⟩:=qx
  subst e1
  cases ru
  dsimp only[sumI] at K
  cases hi:h[i]? with
  | none=>rw[hi] at K;exact Zf K
  | some ob =>
   rw[hi] at K
   cases ob with
   | lst xs =>
    dsimp only at K
    cases hb:Jbs xs with
    | none=>rw[hb] at K;exact Zf K
    | some ns =>
     rw[hb] at K
     obtain⟨vs,e1,r1⟩:=N.at hi ha
     obtain⟨its,rv,pl,hz⟩:=N.inv.list (SqL.of e1)
     have are:=Jhl hb r1 rv
     obtain⟨ys,hy⟩:=are.allInts.items
     have pl':s.heap.IsList a (intItems ys):=hy▸pl.isList
     refine sum_intListG hh pl' λ h2 tk t2 kk=>?_
     have en:ns=ys.toList.map (·.1):=by
      have q1:=are.numsOf
      have q2:=congrArg (λ z:Array Value=>numsOf z.toList) hy
      simp only at q2
      rw[<- q1]
      exact q2.trans (nums_intItems ys)
     have es:preSum (numAt ys) ys.size=ns.sum:=by
      rw[preSum_eq,en,List.take_of_length_le (by simp)]
     rw[es]
     exact fin0 N K rfl _ _ (N.inv.kept (t':=tk) kk) ⟨_,rfl⟩
   | _=>exact Zf K
 | _=>exact Zf K
end
noncomputable def Ja8 (f:Nat->Int):Nat->Int
 | 0=>0
 | 1=>f 0
 | j+2=>if f (j+1)>Ja8 f (j+1) then f (j+1) else Ja8 f (j+1)
theorem Jhq (f:Nat->Int){j:Nat}(hj:0<j):Ja8 f (j+1)=if f j>Ja8 f j then f j else Ja8 f j:=by
 cases j with
 | zero=>omega
 | succ j=>rfl
section
variable {pr:Program}{wd:World}{B:Around}{R:Result->Shared->Prop}{it:Addr}{fps wrs:List Addr}{n:Nat}{P:Nat->Value->Prop}{St:Nat->Heap->Prop}
noncomputable abbrev J4b (v:Value) (c:Nat):Obj:={ cls:=.type "list",dict:=none,data:=.seq #[v,v] c,slots:=#[] }
theorem Jm3:(toString "max"++toString ".loop":String)="max.loop":=by decide
theorem J1a {kw:List (Str×Value)}(W:Walks pr wd B.in1 it fps wrs n P St) (f:Nat->Int) (hf:∀i v,P i v->∃t,v=.int (f i) t) (C:Addr) (hC:C∉fps) :
  ∀(r j:Nat) (z:Shared) (v:Value) (u:Tok) (c:Nat),n-j=r->0<j->j<=n->St j z.heap->v=.int (Ja8 f j) u->z.heap.get? C=some (J4b v c) ->
   (∀u h2 tk,(∀a o,a∉wrs->a≠C->z.heap.get? a=some o->h2.get? a=some o)->R (.ok (.ret (.int (Ja8 f n) u))) { z with heap:=h2,toks:=tk }) ->
   codeAny (model pr wd) B (.builtin "max.loop" ⟨[.ref it,.none,.ref C],kw⟩) R z:=by
 have hw:C∉wrs:=λ q=>hC (W.sub _ q)
 intro r
 induction r with
 | zero =>
  intro j z v u c hr h0 hj st ev gC fin
  obtain rfl:j=n:=by omega
  subst ev
  refine codeAny_builtin PySem.F.entry_max_loop ?_
  rw[Around.under_plainId PySem.F.plain_max_loop _]
  show wpAny _ B.in1 (seqItems? (.ref C)>>=_) _ _ z
  refine wpAny_bind (wpAny_seqItems gC rfl ?_)
  show wpAny _ B.in1 (tryCatch (pyNext (.ref it)) _>>=_) _ _ z
  refine wpAny_bind (wpAny_tryCatch (W.done z _ _ st λ h2 tk keep=>?_))
  have gC2:=keep C _ hw gC
  show wpAny _ B.in1 (updateSeq C (λ _=>#[])>>=_) _ _ _
  refine wpAny_bind ?_
  refine wpAny_updateSeq gC2 rfl (wpAny_bind (wpAny_letGo (wpAny_pure ?_)))
  exact fin u _ tk λ a o ha hb e=>(Heap.get?_update_other _ _ (Ne.symm hb)).trans (keep a o ha e)
 | succ r ih =>
  intro j z v u c hr h0 hj st ev gC fin
  have lt:j<n:=by omega
  subst ev
  refine codeAny_builtin PySem.F.entry_max_loop ?_
  rw[Around.under_plainId PySem.F.plain_max_loop _]
  show wpAny _ B.in1 (seqItems? (.ref C)>>=_) _ _ z
  refine wpAny_bind (wpAny_seqItems gC rfl ?_)
  show wpAny _ B.in1 (tryCatch (pyNext (.ref it)) _>>=_) _ _ z
  refine wpAny_bind (wpAny_tryCatch (W.item j z _ _ lt st λ y h2 tk hP st2 keep=>?_))
  obtain⟨t,rfl⟩:=hf j y hP
  have gC2:=keep C _ hw gC
  have cmp:=CmpOf.ints_gt (prog:=pr) (w:=wd) (A:=B.in1) (P:=λ i v=>∃t,v=.int (if i=0 then f j else Ja8 f j) t) (λ i=>if i=0 then f j else Ja8 f j) (λ _ _ q=>q)
  show wpAny _ B.in1 (tryCatch (holding [Value.int (f j) t,Value.int (f j) t] (richCompare .Gt (.int (f j) t) (.int (Ja8 f j) u)>>=_)) _>>=_) _ _ _
  refine wpAny_bind (wpAny_tryCatch (wpAny_holding (wpAny_bind (cmp 0 1 _ _ _ _ _ ⟨t,by simp⟩ ⟨u,by simp⟩ ?_))))
  refine wpAny_bind (wpAny_holding (wpAny_truthy_bool ?_))
  refine wpAny_bind (wpAny_letGo (wpAny_pure ?_))
  have step:=Jhq f h0
  by_cases hb:f j>Ja8 f j
  ·rw[if_pos hb] at step
   simp only[if_true,show ¬(1:Nat)=0 by decide,if_false,decide_eq_true hb]
   refine wpAny_bind ?_
   refine wpAny_updateSeq gC2 rfl (wpAny_bind (wpAny_letGo ?_))
   rw[Jm3]
   refine wpAny_pure ⟨plainId_quiet PySem.F.plain_max_loop _,ih (j+1) _ (.int (f j) t) t _ (by omega) (by omega) lt (W.frame _ _ _ st2 λ a ha o e=>?_) (by rw[step]) (Heap.get?_update_self _ gC2 rfl) λ u2 h3 tk3 k3=>?_⟩
   ·exact(Heap.get?_update_other _ _ (λ q:C=a=>hC (by rw[q];exact ha))).trans e
   ·exact fin u2 h3 tk3 λ a o ha hc e=>k3 a o ha hc ((Heap.get?_update_other _ _ (Ne.symm hc)).trans (keep a o ha e))
  ·rw[if_neg hb] at step
   simp only[if_true,show ¬(1:Nat)=0 by decide,if_false,decide_eq_false hb,Bool.false_eq_true]
   refine wpAny_bind (wpAny_letGo ?_)
   rw[Jm3]
   refine wpAny_pure ⟨plainId_quiet PySem.F.plain_max_loop _,ih (j+1) _ (.int (Ja8 f j) u) u c (by omega) (by omega) lt st2 (by rw[step]) gC2 λ u2 h3 tk3 k3=>?_⟩
   exact fin u2 h3 tk3 λ a o ha hc e=>k3 a o ha hc (keep a o ha e)
end
theorem Jub (a v:Value):argsOk "max" ⟨[a],[(Str.ofString "default",v)]⟩:=by unfold argsOk;kernel_rfl
section
variable {pr:Program}{wd:World}{B:Around}{E:Value->Shared->Prop}{z:Shared}{l:Addr}{us:List Value}{ns:List Int}{d:Option Value}{Q:Value->Shared->Prop}{kw:List (Str×Value)}
noncomputable def MaxIs (ns:List Int) (d:Option Value) (v:Value):Prop:=(ns=[]/\d=some v)∨(ns≠[]/\∃u,v=.int (Ja8 (λ i=>ns.getD i 0) ns.length) u)
theorem Jv1 (hk:Builtin.Builtins.bindParams "max" ["key","default"] 0 ⟨[],kw⟩=pure [none,d]) (ha:argsOk "max" ⟨[.ref l],kw⟩) (hn:ns=[]->∃v,d=some v) (hh:B.handled=none) (hl:z.heap.IsList l us.toArray) (hi:IntsAre us ns)
  (hQ:∀v h2 tk,MaxIs ns d v->(∀b o,z.heap.get? b=some o->h2.get? b=some o)->Q v { z with heap:=h2,toks:=tk }) :
  wpAny (model pr wd) B (call (.builtin "max") [.ref l] kw) Q E z:=by
 obtain⟨ol,hol,_⟩:=id hl
 have lt:l<z.heap.objs.size:=Heap.lt_size hol
 have ll:=Jfe hi
 refine kmk_tree PySem.F.kind_max PySem.F.plain_max PySem.F.entry_max ha ?_
 show wpAny _ B.in1 (Builtin.Builtins.bindParams "max" ["key","default"] 0 ⟨[],kw⟩>>=_) _ _ z
 refine wpAny_bind (wpAny_of_eq hk ?_)
 refine wpAny_bind (wpAny_pure ?_)
 refine wpAny_bind (wpAny_pyIter_list hl ?_)
 refine wpAny_bind (wpAny_newList ?_ (Nat.zero_le _))
 rw[Jm3]
 have ne:l≠z.heap.objs.size:=Nat.ne_of_lt lt
 have W:=Walks.list (prog:=pr) (w:=wd) (A:=B.in1) hh z.heap.objs.size l ne us.toArray
 have sz:us.toArray.size=us.length:=List.size_toArray ..
 have hS:(z.heap.push { cls:=.type "list_iterator",data:=.fields #[.ref l,.int 0 0] }).objs.size=z.heap.objs.size+1:=size_push' ..
 have hC:(z.heap.push { cls:=.type "list_iterator",data:=.fields #[.ref l,.int 0 0] }).objs.size∉[z.heap.objs.size,l]:=by
  rw[hS]
  simp only[List.mem_cons,List.not_mem_nil,or_false,not_or]
  exact⟨Nat.ne_of_gt (Nat.lt_succ_self _),Nat.ne_of_gt (Nat.lt_succ_of_lt lt)⟩
 have hw:(z.heap.push { cls:=.type "list_iterator",data:=.fields #[.ref l,.int 0 0] }).objs.size∉[z.heap.objs.size]:=by
  rw[hS]
  simp only[List.mem_cons,List.not_mem_nil,or_false]
  exact Nat.ne_of_gt (Nat.lt_succ_self _)
 have old:∀b o,z.heap.get? b=some o->((z.heap.push { cls:=.type "list_iterator",data:=.fields #[.ref l,.int 0 0] }).push (seqObj "list" #[] 0)).get? b=some o:=λ b o e=>Heap.get?_push_of_some _ (Heap.get?_push_of_some _ e)
 have gI:((z.heap.push { cls:=.type "list_iterator",data:=.fields #[.ref l,.int 0 0] }).push (seqObj "list" #[] 0)).get? z.heap.objs.size=some { cls:=.type "list_iterator",data:=.fields #[.ref l,.int 0 0] }:=Heap.get?_push_of_some _ (Heap.get?_push_size _ rfl)
 have gC:((z.heap.push { cls:=.type "list_iterator",data:=.fields #[.ref l,.int 0 0] }).push (seqObj "list" #[] 0)).get? (z.heap.push { cls:=.type "list_iterator",data:=.fields #[.ref l,.int 0 0] }).objs.size=some (seqObj "list" #[] 0):=Heap.get?_push_size _ rfl
 have notin:∀b o,z.heap.get? b=some o->b∉[z.heap.objs.size]:=λ b o e q=>Nat.ne_of_lt (Heap.lt_size e) (List.mem_singleton.mp q)
 have notC:∀b o,z.heap.get? b=some o->b≠(z.heap.push { cls:=.type "list_iterator",data:=.fields #[.ref l,.int 0 0] }).objs.size:=λ b o e=>by rw[hS];exact Nat.ne_of_lt (Nat.lt_succ_of_lt (Heap.lt_size e))
 refine wpAny_pure ⟨plainId_quiet PySem.F.plain_max_loop _,codeAny_builtin PySem.F.entry_max_loop ?_⟩
 rw[Around.under_plainId PySem.F.plain_max_loop _]
 show wpAny _ B.in1 (seqItems? (.ref _)>>=_) _ _ _
 refine wpAny_bind (wpAny_seqItems gC rfl ?_)
 show wpAny _ B.in1 (tryCatch (pyNext (.ref z.heap.objs.size)) _>>=_) _ _ _
 by_cases h0:us.length=0
 ·refine wpAny_bind (wpAny_tryCatch (W.done _ _ _ (by rw[sz,h0];exact⟨⟨_,gI,rfl,rfl⟩,(hl.push _).push _⟩) λ h2 tk keep=>?_))
  obtain⟨v,rfl⟩:=hn (List.eq_nil_of_length_eq_zero (by omega))
  show wpAny _ B.in1 (rule _>>=_) _ _ _
  refine wpAny_bind (wpAny_rule (wpAny_pure ?_))
  refine hQ v h2 tk (.inl ⟨List.eq_nil_of_length_eq_zero (by omega),rfl⟩) λ b o e=>keep b o (notin b o e) (old b o e)
 ·refine wpAny_bind (wpAny_tryCatch (W.item 0 _ _ _ (by rw[sz];omega) ⟨⟨_,gI,rfl,rfl⟩,(hl.push _).push _⟩ λ y h2 tk hP st2 keep=>?_))
  have gC2:=keep _ _ hw gC
  show wpAny _ B.in1 (updateSeq (z.heap.push { cls:=.type "list_iterator",data:=.fields #[.ref l,.int 0 0] }).objs.size (λ _=>#[y,y])>>=_) _ _ _
  refine wpAny_bind ?_
  refine wpAny_updateSeq gC2 rfl ?_
  rw[Jm3]
  have hf:∀(i:Nat) (v:Value),us.toArray[i]?=some v->∃t,v=.int ((λ i=>ns.getD i 0) i) t:=λ i v q=>IntsAre.int_at hi i v (by simpa using q)
  obtain⟨t,rfl⟩:=hf 0 y hP
  refine wpAny_pure ⟨plainId_quiet PySem.F.plain_max_loop _,J1a W (λ i=>ns.getD i 0) hf _ hC _ 1 _ _ t _ rfl (by decide) (by rw[sz];omega) (W.frame _ _ _ st2 λ a ha o e=>?_) rfl (Heap.get?_update_self _ gC2 rfl) λ u h3 tk3 k3=>?_⟩
  ·exact(Heap.get?_update_other _ _ (λ q=>hC (by rw[q];exact ha))).trans e
  ·rw[sz,ll]
   refine hQ _ h3 tk3 (.inr ⟨λ q=>h0 (by rw[ll,q];rfl),u,rfl⟩) λ b o e=>k3 b o (notin b o e) (notC b o e) ((Heap.get?_update_other _ _ (Ne.symm (notC b o e))).trans (keep b o (notin b o e) (old b o e)))
end
section
variable {ce:Str->Option Addr}{X:Cx}
noncomputable def maxD (ns:List Int) (d:IV):IV:=if ns=[] then d else .int (Ja8 (λ i=>ns.getD i 0) ns.length)
noncomputable def Ju0 (aa:A1) (md:E1):E1:=λ σ h=>(aa σ h).bind λ xs h1=>(md σ h1).bind λ d h2=>match xs with
 | [.ref i]=>(match h2[i]? with
  | some (.lst ys)=>(match Jbs ys with
   | some ns=>.ok (maxD ns d) h2
   | none=>.stuck)
  | _=>.stuck)
 | _=>.stuck
theorem J3e {a de:Expr}{aa:A1}{md:E1}{p pos kp:Pos}(hh:X.A.handled=none) (hg:Gl X "max") (hm:X.mg "max"=none) (ha:PAi ce X [a] aa) (hd:PEi ce X de md) (hs:starEach [a] X.env=[(false,eval a X.env)]) :
  PEi ce X (.Call (.Name "max" p) [a] [⟨some "default",de,kp⟩] pos) (Ju0 aa md):=λ pins s σ H ι σi h Q E N K=>by
 refine wpAny_Call_Name_kw (Jc2 N.inv hg hm rfl ?_)
 refine callWith_kw ?_ (by rw[hs];rfl) (by rw[hs];rfl) rfl rfl
 refine(ha pos).run N K λ xs h1 us s1 H1 ι1 N1 n1 r1 K1=>?_
 refine PyProof.Rows.evalAll_cons (wpAny_bind (PX.run hd N1 K1 λ d h2 du s2 H2 ι2 N2 n2 r2 K2=>wpAny_bind (wpAny_standAt (wpAny_pure (PyProof.Rows.evalAll_nil ?_)))))
 obtain⟨vs,rv,qs⟩:=r1.mono n2
 match xs,K2 with
 | [.ref i],K2 =>
  obtain⟨w,rfl,ad,rfl,hav⟩:=qs.one_of
  obtain⟨u,rfl,ru⟩:=Jk3 rv
  cases ru
  dsimp only at K2
  cases hi:h2[i]? with
  | none=>rw[hi] at K2;exact Zf K2
  | some ob =>
   rw[hi] at K2
   cases ob with
   | lst ys =>
    dsimp only at K2
    cases hb:Jbs ys with
    | none=>rw[hb] at K2;exact Zf K2
    | some ns =>
     rw[hb] at K2
     dsimp only at K2
     obtain⟨ws,e1,r3⟩:=N2.at hi hav
     obtain⟨its,rv2,pl,_⟩:=N2.inv.list (SqL.of e1)
     refine Jv1 (d:=some du) rfl (Jub _ _) (λ _=>⟨_,rfl⟩) hh pl.isList (Jhl hb r3 rv2) λ v h3 tk mi kk=>?_
     have N3:Now ce X pins ι2 σi h2 σ H2 { s2 with heap:=h3,toks:=tk }:=⟨N2.inv.kept (t':=tk) kk,N2.rel,N2.st⟩
     rcases mi with⟨e,ev⟩|⟨e,t,rfl⟩
     ·cases ev
      have em:maxD ns d=d:=if_pos e
      rw[em] at K2
      exact K2 _ _ _ _ N3 .refl r2
     ·have em:maxD ns d=.int (Ja8 (λ i=>ns.getD i 0) ns.length):=if_neg e
      rw[em] at K2
      exact K2 _ _ _ _ N3 .refl ⟨.int _,⟨t,rfl⟩,rfl⟩
   | _=>exact Zf K2
 | [],K2=>exact Zf K2
 | [.non],K2=>exact Zf K2
 | [.bl _],K2=>exact Zf K2
 | [.int _],K2=>exact Zf K2
 | [.str _],K2=>exact Zf K2
 | [.tup _],K2=>exact Zf K2
 | [.rol _],K2=>exact Zf K2
 | x::_::_,K2=>cases x<;>exact Zf K2
end
noncomputable def metB (f:Nat->Str) (i:Nat) (k:Str):Bool:=(List.range i).any λ j=>decide (k=f j)
noncomputable def cntD (f:Nat->Str):Nat->Nat
 | 0=>0
 | i+1=>if metB f i (f i) then cntD f i else cntD f i+1
theorem Jvz (f:Nat->Str) (i:Nat) (k:Str):metB f (i+1) k=(metB f i k||decide (k=f i)):=by simp[metB,List.range_succ]
theorem Jpx (f:Nat->Str):∀i,cntD f i<=i
 | 0=>Nat.le_refl _
 | i+1=>by
  have:=Jpx f i
  unfold cntD
  split<;>omega
section
variable {pr:Program}{wd:World}{B:Around}{R:Result->Shared->Prop}{it:Addr}{fps wrs:List Addr}{G:Array GenState->Array GenState->Prop}{n:Nat}{P:Nat->Value->Prop}{St:Nat->Shared->Prop}
noncomputable abbrev Jmk (pr:Program) (wd:World) (hp:Heap) (a:Addr) (f:Nat->Str) (i:Nat):Prop:=hp.SetOf (PySem.strKind pr wd) a (λ k=>metB f i k) (cntD f i)
theorem Jmk.moved {hp h2:Heap}{a:Addr}{f:Nat->Str}{i:Nat}(q:Jmk pr wd hp a f i) (m:∀o,hp.get? a=some o->h2.get? a=some o):Jmk pr wd h2 a f i:=by
 obtain⟨o,es,ep,t,ho,rest⟩:=q
 exact⟨o,es,ep,t,m o ho,rest⟩
theorem Jyj (W:WalksS pr wd B.in1 it fps wrs G n P St) (C:Addr) (hC:C∉fps) (f:Nat->Str) (hf:∀i v,P i v->∃t,v=.str (f i) t) (room:n+1<scanBound) :
  ∀(r i:Nat) (z:Shared),n-i=r->i<=n->St i z->Jmk pr wd z.heap C f i->(∀z2,Moved (C::wrs) G z z2->Jmk pr wd z2.heap C f n->R (.ok (.ret .none)) z2) ->
   codeAny (model pr wd) B (.builtin "set.update.loop" ⟨[.ref C,.ref it],[]⟩) R z:=by
 have nw:C∉wrs:=λ q=>hC (W.sub _ q)
 have more:∀b∈wrs,b∈C::wrs:=λ b q=>List.mem_cons_of_mem _ q
 intro r
 induction r with
 | zero =>
  intro i z hr hi st hS fin
  obtain rfl:i=n:=by omega
  refine codeAny_builtin PyProof.Rows.F.entry_set_update_loop ?_
  rw[Around.under_plainId PyProof.Rows.F.plain_set_update_loop _]
  show wpAny _ B.in1 (pyNext (.ref it)>>=_) _ _ z
  refine wpAny_bind (W.done z _ _ st λ z2 mv=>?_)
  show wpAny _ B.in1 (ret Value.none) _ _ z2
  exact wpAny_pure (fin z2 (mv.mono more) (hS.moved λ o e=>mv.heap C _ nw e))
 | succ r ih =>
  intro i z hr hi st hS fin
  have lt:i<n:=by omega
  refine codeAny_builtin PyProof.Rows.F.entry_set_update_loop ?_
  rw[Around.under_plainId PyProof.Rows.F.plain_set_update_loop _]
  show wpAny _ B.in1 (pyNext (.ref it)>>=_) _ _ z
  refine wpAny_bind (W.item i z _ _ lt st λ v z2 hP st2 mv=>?_)
  obtain⟨t,rfl⟩:=hf i v hP
  have hS2:Jmk pr wd z2.heap C f i:=hS.moved λ o e=>mv.heap C _ nw e
  have ki:(PySem.strKind pr wd).is (f i) (.str (f i) t)=true:=strKind_is _ _ _ _
  show wpAny _ B.in1 (holding [Value.str (f i) t] (setAdd C (.str (f i) t))>>=_) _ _ z2
  refine wpAny_bind (wpAny_holding ?_)
  unfold setAdd
  refine wpAny_holding ?_
  refine wpAny_bind ((PySem.strKind pr wd).pyHash (k:=f i) ki ?_)
  have rm:cntD f i+1<scanBound:=by have:=Jpx f i;omega
  refine wpAny_setAddHashed_of (knd:=PySem.strKind pr wd) (s:={ z2 with toks:=z2.toks+1 }) ki rfl hS2 rm λ h3 sb hS3=>?_
  have hS4:Jmk pr wd h3 C f (i+1):=SetOf_congr hS3 (λ k=>(Jvz f i k).symm) (by show _=cntD f (i+1);rfl)
  refine wpAny_pure ⟨plainId_quiet PyProof.Rows.F.plain_set_update_loop _,ih (i+1) _ (by omega) lt (W.frame _ z2 _ _ st2 (Nat.le_succ _) λ b q o e=>?_) hS4 λ z5 m5 hS5=>?_⟩
  ·rw[sb.2 b (λ e2:b=C=>hC (by rw[<- e2];exact q))];exact e
  ·refine fin z5 (Moved.trans W.gtrans ((mv.mono more).then_heap (Nat.le_succ _) λ b o q e=>?_) m5) hS5
   rw[sb.2 b (λ e2:b=C=>q (by rw[e2];exact List.mem_cons_self))];exact e
end
section
variable {pr:Program}{wd:World}{B:Around}{E:Value->Shared->Prop}{z:Shared}{l:Addr}{us:List Value}{zs:List Str}{Q:Value->Shared->Prop}
noncomputable abbrev J1 (led:Bool):Obj:={ cls:=.type "set",dict:=none,data:=.set #[] 0 (.fresh 0 0 led) }
noncomputable abbrev Jc5 (zs:List Str):Nat->Str:=λ i=>zs.getD i Str.empty
set_option maxRecDepth 100000 in
theorem Jyh {l2:List (Str×Tok)}(hh:B.handled=none) (hl:z.heap.IsList l us.toArray) (eu:us=strValues l2) (ez:l2.map (·.1)=zs) (room:zs.length+1<scanBound)
  (fin:∀(h2:Heap) (tk:Nat),Jmk pr wd h2 z.heap.objs.size (Jc5 zs) zs.length->(∀b o,z.heap.get? b=some o->h2.get? b=some o)->Q (.ref z.heap.objs.size) { z with heap:=h2,toks:=tk }) :
  wpAny (model pr wd) B (call (.type "set") [.ref l]) Q E z:=by
 have len:us.toArray.size=zs.length:=by rw[eu,<-ez];simp[strValues]
 have vals:∀(i:Nat) (v:Value),us.toArray[i]?=some v->∃t,v=.str (Jc5 zs i) t:=λ i v q=>by
  rw[eu] at q
  simp only[strValues,List.getElem?_toArray,List.getElem?_map] at q
  obtain⟨p,hp,rfl⟩:=Option.map_eq_some_iff.mp q
  refine⟨p.2,?_⟩
  rw[<- ez]
  simp[Jc5,List.getD_eq_getElem?_getD,List.getElem?_map,hp]
 obtain⟨c,tl,hmro⟩:=PySem.F.called_set.mro
 have hmade:=PySem.F.called_set.made
 have hsub:=PySem.F.called_set.sub
 refine wpAny_call (codeAny_of_tree ?_)
 show wpAny _ _ (callAny (.type "set") _) _ _ _
 refine wpAny_pure ⟨Code.quiet_builtin _ (by decide +kernel),codeAny_builtin PySem.F.entry_type_call ?_⟩
 rw[Around.under_plain (weight_type_call_type "set" [.ref l] []) rfl]
 have no1:=PySem.F.called_set.notType
 have no2:=PySem.F.called_set.canCreate
 have ok1:=PySem.F.typeCall_set_1 (.ref l)
 repeat (any_goals (first|assumption|wp_step))
 refine codeAny_mono (code_set_new_1 (.ref l) (E:=E) (Q₁:=λ obj z1=>∃led:Bool,obj=.ref z.heap.objs.size/\z1={ z with heap:=z.heap.push (J1 led) }) λ led=>⟨led,rfl,rfl⟩) λ res z1 hr=>?_
 cases res with
 | error e=>exact hr
 | ok fl =>
  cases fl with
  | ret obj =>
   obtain⟨led,rfl,rfl⟩:=hr
   have gS:(z.heap.push (J1 led)).get? z.heap.objs.size=some (J1 led):=Heap.get?_push_size _ rfl
   have tS:Shared.TypeIs { z with heap:=z.heap.push (J1 led) } (.ref z.heap.objs.size) "set":=⟨_,gS,rfl⟩
   have in1:=PySem.F.called_set.init.lookup
   have in2:=PySem.F.called_set.init.bind (.ref z.heap.objs.size)
   repeat (any_goals (first|assumption|wp_step))
   refine codeAny_mono (codeAny_call_builtin (R:=wants (λ res z2=>res=.none/\∃h2 tk,z2={ z with heap:=h2,toks:=tk }/\Jmk pr wd h2 z.heap.objs.size (Jc5 zs) zs.length/\(∀b o,z.heap.get? b=some o->h2.get? b=some o)) E)
    PySem.F.called_set.init.plain PySem.F.entry_set_init (check_set_init_1 tS ?_)) λ res2 z2 hr2=>?_
   ·obtain⟨ol,hol,hcl,nl,hdl⟩:=hl
    obtain⟨ocls,odict,odata,oslots⟩:=ol
    simp only at hcl hdl
    subst hcl;subst hdl
    have gl:(z.heap.push (J1 led)).get? l=some { cls:=.type "list",dict:=odict,data:=.seq us.toArray nl,slots:=oslots }:=Heap.get?_push_of_some _ hol
    have sb1:=PySem.F.sub_list_set
    have sb2:=PySem.F.sub_list_frozenset
    have dne:(Value.type "list"==Value.type "dict")=false:=by decide
    have hl1:(z.heap.push (J1 led)).IsList l us.toArray:=⟨_,gl,rfl,nl,rfl⟩
    unfold Builtin.«set.__init__» noKeywords Builtin.Frozenset.updateFrom
    generalize hPI:pyIter=PI
    wp_walk
    subst hPI
    refine wpAny_pyIter_list hl1 ?_
    refine wpAny_bind (wpAny_runValue ?_)
    have lS:l<z.heap.objs.size:=Heap.lt_size hol
    have h3:B.in1.in1.in1.handled=none:=by simp[hh]
    have neI:l≠(z.heap.push (J1 led)).objs.size:=by rw[Heap.size_push];exact Nat.ne_of_lt (Nat.lt_succ_of_lt lS)
    have nC:z.heap.objs.size∉[(z.heap.push (J1 led)).objs.size,l]:=by
     rw[Heap.size_push]
     simp only[List.mem_cons,List.not_mem_nil,or_false,not_or]
     exact⟨Nat.ne_of_lt (Nat.lt_succ_self _),Nat.ne_of_gt lS⟩
    refine Jyj ((Walks.list h3 _ l neI us.toArray).toS) z.heap.objs.size nC (Jc5 zs) vals (by rw[len];exact room) (us.toArray.size-0) 0 _ (by omega) (Nat.zero_le _) ⟨⟨_,Heap.get?_push_size _ rfl,rfl,rfl⟩,(hl1.push _)⟩ ?start ?stop
    case start =>
     have g0:((z.heap.push (J1 led)).push { cls:=.type "list_iterator",data:=.fields #[.ref l,.int 0 0] }).get? z.heap.objs.size=some (J1 led):=Heap.get?_push_of_some _ gS
     exact SetOf_congr ((setObjOf_fresh (knd:=PySem.strKind pr wd) led).setOf g0 (by unfold scanBound;omega)) (λ _=>rfl) rfl
    case stop =>
     intro z5 mv hS5
     obtain⟨h5,g5,d5,tk5,os5⟩:=z5
     have eg:g5=z.gens:=mv.gens
     have ed:d5=z.drawn:=mv.drawn
     have eo:os5=z.os:=mv.os
     subst eg;subst ed;subst eo
     show wpAny _ _ _ _ _ _
     refine wpAny_pure ?_
     show wpAny _ _ (ret Value.none) _ _ _
     rw[len] at hS5
     refine wpAny_pure ⟨rfl,h5,tk5,rfl,hS5,λ b o e=>?_⟩
     have lb:=Heap.lt_size e
     have b1:b≠z.heap.objs.size:=Nat.ne_of_lt lb
     have b2:b≠(z.heap.push (J1 led)).objs.size:=by rw[Heap.size_push];exact Nat.ne_of_lt (Nat.lt_succ_of_lt lb)
     exact mv.heap b o (by simp only[List.mem_cons,List.not_mem_nil,or_false,not_or];exact⟨b1,b2⟩) (Heap.get?_push_of_some _ (Heap.get?_push_of_some _ e))
   ·cases res2 with
    | error e=>exact hr2
    | ok fl2 =>
     cases fl2 with
     | ret rv =>
      obtain⟨rfl,h2,tk,rfl,hS2,keep⟩:=hr2
      repeat (any_goals (first|assumption|wp_step))
      exact fin _ _ hS2 keep
     | _=>exact hr2.elim
  | _=>exact hr.elim
end
section
variable {ce:Str->Option Addr}{X:Cx}
noncomputable def Jj5 (aa:A1):E1:=λ σ h=>(aa σ h).bind λ xs h1=>match xs with
 | [.ref i]=>(match h1[i]? with
  | some (.lst ys)=>(match Jhc ys with
   | some zs=>if zs.length+1<scanBound then .ok (.int (cntD (Jc5 zs) zs.length)) h1 else .stuck
   | none=>.stuck)
  | _=>.stuck)
 | _=>.stuck
theorem Jxo {a:Expr}{aa:A1}{p pos p2 pos2:Pos}(hh:X.A.handled=none) (g1:Gl X "len") (m1:X.mg "len"=none) (g2:Gl X "set") (m2:X.mg "set"=none) (ha:PAi ce X [a] aa) (hs:starEach [a] X.env=[(false,eval a X.env)]) :
  PEi ce X (.Call (.Name "len" p) [.Call (.Name "set" p2) [a] [] pos2] [] pos) (Jj5 aa):=λ pins s σ H ι σi h Q E N K=>by
 refine wpAny_Call_Name_kw (Jc2 N.inv g1 m1 rfl ?_)
 refine PyProof.Rows.callWith_builtin1 ?_ rfl rfl
 refine PyProof.Rows.spliced_more ?_
 refine wpAny_Call_Name_kw (Jc2 N.inv g2 m2 rfl ?_)
 refine PyProof.Rows.callWith_type1 ?_ hs rfl
 refine(ha pos2).run N K λ xs h1 us s1 H1 ι1 N1 n1 r1 K1=>?_
 obtain⟨vs,rv,qs⟩:=r1
 match xs,K1 with
 | [.ref i],K1 =>
  obtain⟨w,rfl,ad,rfl,hav⟩:=qs.one_of
  obtain⟨u,rfl,ru⟩:=Jk3 rv
  cases ru
  dsimp only at K1
  cases hi:h1[i]? with
  | none=>rw[hi] at K1;exact Zf K1
  | some ob =>
   rw[hi] at K1
   cases ob with
   | lst ys =>
    dsimp only at K1
    cases hb:Jhc ys with
    | none=>rw[hb] at K1;exact Zf K1
    | some zs =>
     rw[hb] at K1
     dsimp only at K1
     split at K1
     ·rename_i room
      obtain⟨ws,e1,r3⟩:=N1.at hi hav
      obtain⟨its,rv2,pl,_⟩:=N1.inv.list (SqL.of e1)
      obtain⟨l2,eu,ez⟩:=Jqy hb r3 rv2
      refine Jyh hh pl.isList eu ez room λ h2 tk hS keep=>PyProof.Rows.spliced_none ?_
      obtain⟨o,es,ep,t,ho,hex,hd,hel,hmem,hbb,hf,hn⟩:=hS
      have fit:(es.size:Int)<2^63:=by
       have:=Jpx (Jc5 zs) zs.length
       have sb:scanBound<=2^40:=by unfold scanBound;decide
       omega
      refine call_len_set ho hex hd hf fit ?_
      rw[hn]
      exact K1 _ _ _ _ ⟨(N1.inv.kept (t':=_) keep),N1.rel,N1.st⟩ .refl ⟨.int _,⟨_,rfl⟩,rfl⟩
     ·exact Zf K1
   | _=>exact Zf K1
 | [],K1=>exact Zf K1
 | [.non],K1=>exact Zf K1
 | [.bl _],K1=>exact Zf K1
 | [.int _],K1=>exact Zf K1
 | [.str _],K1=>exact Zf K1
 | [.tup _],K1=>exact Zf K1
 | [.rol _],K1=>exact Zf K1
 | x::_::_,K1=>cases x<;>exact Zf K1
end
section
variable {α β:Type}{h h1:IH}{σ:ISt}
noncomputable def SRes.sq (r:SRes) (b:S1):SRes:=match r with
 | .next σ' h'=>b σ' h'
 | r=>r
theorem Jp1 (v:IV) (σ:ISt):eVar 0 (some v::σ) h=.ok v h:=rfl
theorem Jr7 (n:Nat) (x:Option IV) (σ:ISt):eVar (n+1) (x::σ) h=eVar n σ h:=rfl
end
noncomputable def MulS (x:Str) (n:Int):Bool:=decide (x.length<=1000/\ -1000<=n/\n<=1000)
theorem MulS.ok {x:Str}{n:Int}(h:MulS x n=true):MulOk x n:=by
 simp only[MulS,decide_eq_true_eq] at h
 obtain⟨h1,h2,h3⟩:=h
 refine⟨?_,λ hn _=>?_,λ hn _=>?_⟩
 ·simp only[Bool.or_eq_false_iff,decide_eq_false_iff_not]
  omega
 ·have e:(1000:Int)<=(2^63-1)/n:=by
   rw[Int.le_ediv_iff_mul_le (by omega)]
   have:(1000:Int)*n<=1000*1000:=Int.mul_le_mul_of_nonneg_left h3 (by decide)
   omega
  omega
 ·have:x.length*n.toNat<=1000*1000:=Nat.mul_le_mul h1 (by omega)
  have hb:1000000<sizeLine:=by decide
  unfold Builtin.Str.tooLong
  simp only[decide_eq_false_iff_not]
  omega
theorem J1i {X:L2.Cx}:OpR X (binaryOp .Mult) (λ x y H Q=>∃i j,x=.str i/\y=.int j/\MulS i j=true/\Q (.str (Txt.mul i j)) H):=by
 intro pins s σ H x y v u Q I rx ry h
 obtain⟨i,j,rfl,rfl,hz,q⟩:=h
 obtain⟨t,rfl⟩:=rx
 obtain⟨t',rfl⟩:=ry
 exact SB.mul (MulS.ok hz) λ t' tk=>⟨.str (Txt.mul i j),H,I.tok _,⟨_,rfl⟩,q⟩
noncomputable def Jd5 (x y:IV) (h:IH):Res IV:=match x with
 | .str i=>(match y with
  | .int j=>if MulS i j then .ok (.str (Txt.mul i j)) h else .stuck
  | _=>.stuck)
 | x=>Jsy x y h
section
variable {ce:Str->Option Addr}{X:Cx}
theorem J31:OpI ce X (binaryOp .Mult) Jd5:=by
 intro pins s σ H ι σi h x y v u Q E N rx ry K
 cases x with
 | str i =>
  obtain⟨xv,rx,qx⟩:=rx
  obtain⟨yv,ry,qy⟩:=ry
  cases y with
  | int j =>
   have e1:xv=.str i:=qx
   have e2:yv=.int j:=qy
   subst e1 e2
   dsimp only[Jd5] at K
   split at K
   ·rename_i hz
    exact Jab (J1i (X:=X.wish E)) N.inv rx ry ⟨i,j,rfl,rfl,hz,fin0 N K rfl⟩
   ·exact Zf K
  | _=>exact Zf K
 | _=>exact o_mul pins s σ H ι σi h _ y v u Q E N rx ry K
end
noncomputable def valI (kvs:List (Key×IV)) (k:Key):Option IV:=(kvs.find? λ kv=>decide (kv.1=k)).map (·.2)
theorem Jax {p:Key×IV}{r:List (Key×IV)}{k:Key}(e:p.1=k):valI (p::r) k=some p.2:=by simp[valI,List.find?_cons,e]
theorem Jah {p:Key×IV}{r:List (Key×IV)}{k:Key}(e:¬p.1=k):valI (p::r) k=valI r k:=by simp[valI,List.find?_cons,e]
theorem RPs.get {K:W.Frag}{ι:List Addr}{H:Hp}(k:Key):∀{xs:List (Key×IV)}{vs:List (Key×V)},RPs K ι H xs vs->(valI xs k=none/\valV vs k=none)∨∃v w,valI xs k=some v/\valV vs k=some w/\RV K ι H v w
 | [],_,h=>by
  have e:_=[]:=h
  subst e
  exact .inl ⟨rfl,rfl⟩
 | x::xs,_,h=>by
  obtain⟨v,r,rfl,q,t⟩:=h
  by_cases e:x.1=k
  ·exact .inr ⟨x.2,v,Jax e,Jnl e,q⟩
  ·rw[Jah e,Jnk e]
   exact RPs.get k t
theorem RPs.snoc {K:W.Frag}{ι:List Addr}{H:Hp}{k:Key}{v:IV}{w:V}(q:RV K ι H v w):∀{xs:List (Key×IV)}{vs:List (Key×V)},RPs K ι H xs vs->RPs K ι H (xs++[(k,v)]) (vs++[(k,w)])
 | [],_,h=>by
  have e:_=[]:=h
  subst e
  exact⟨w,[],rfl,q,rfl⟩
 | x::xs,_,h=>by
  obtain⟨v',r,rfl,q',t⟩:=h
  exact⟨v',r++[(k,w)],rfl,q',RPs.snoc q t⟩
section
variable {ce:Str->Option Addr}{X:Cx}
noncomputable def Juz:E1:=λ _ h=>.ok (.ref h.length) (h++[.dct []])
theorem J3a {pos:Pos}:PEi ce X (.Dict [] [] pos) Juz:=λ pins s σ H ι σi h Q E N K=>by
 have hn:=N.inv.hok.fresh (Nat.le_refl s.heap.objs.size)
 have I1:=N.inv.laid (a:=s.heap.objs.size) (o:=.dK []) (h':=s.heap.push { cls:=.type "dict",data:=.dict #[] }) (t':=s.toks) (λ _ _ q=>Heap.get?_push_of_some _ q) (Nat.le_refl _) (Jxf s.heap N.inv.big)
 obtain⟨R1,n1⟩:=N.rel.alloc (o:=.dK []) (io:=.dct []) hn ⟨[],Jf,rfl⟩
 have N1:Now ce X pins (ι++[s.heap.objs.size]) σi (h++[.dct []]) σ (upd H s.heap.objs.size (.dK [])) _:=⟨I1,R1,N.st.mono n1⟩
 have h0:(ι++[s.heap.objs.size])[h.length]?=some s.heap.objs.size:=by rw[<- N.rel.len,List.getElem?_append_right (Nat.le_refl _)];simp
 exact wpAny_Dict_empty (K _ _ _ (ι++[s.heap.objs.size]) N1 n1 ⟨.ref _,rfl,_,rfl,h0⟩)
end
noncomputable def putD (kvs:List (Key×IV)) (k:Key) (v:IV):List (Key×IV) :=
 if (kvs.any λ kv=>decide (kv.1=k))=true then kvs.map (λ kv=>if kv.1=k then(kv.1,v) else kv) else kvs++[(k,v)]
theorem RPs.any {K:W.Frag}{ι:List Addr}{H:Hp}(k:Key):∀{xs:List (Key×IV)}{vs:List (Key×V)},RPs K ι H xs vs->(xs.any λ kv=>decide (kv.1=k))=vs.any λ kv=>decide (kv.1=k)
 | [],_,h=>by
  have e:_=[]:=h
  subst e
  rfl
 | x::xs,_,h=>by
  obtain⟨v,r,rfl,q,t⟩:=h
  rw[List.any_cons,List.any_cons,RPs.any k t]
theorem RPs.upd {K:W.Frag}{ι:List Addr}{H:Hp}{k:Key}{v:IV}{w:V}(q:RV K ι H v w):∀{xs:List (Key×IV)}{vs:List (Key×V)},RPs K ι H xs vs->RPs K ι H (xs.map λ kv=>if kv.1=k then(kv.1,v) else kv) (vs.map λ kv=>if kv.1=k then(kv.1,w) else kv)
 | [],_,h=>by
  have e:_=[]:=h
  subst e
  exact rfl
 | x::xs,_,h=>by
  obtain⟨v',r,rfl,q',t⟩:=h
  rw[List.map_cons,List.map_cons]
  by_cases e:x.1=k
  ·rw[if_pos e,if_pos e]
   exact⟨w,_,rfl,q,RPs.upd q t⟩
  ·rw[if_neg e,if_neg e]
   exact⟨v',_,rfl,q',RPs.upd q t⟩
theorem RPs.putKK {K:W.Frag}{ι:List Addr}{H:Hp}{k:Key}{v:IV}{w:V}{xs:List (Key×IV)}{vs:List (Key×V)}(q:RV K ι H v w) (r:RPs K ι H xs vs):RPs K ι H (putD xs k v) (putK vs k w):=by
 unfold putD putK
 rw[r.any k]
 split
 ·exact r.upd q
 ·exact r.snoc q
section
variable {ce:Str->Option Addr}{X:Cx}
noncomputable def Jqh (x y:IV) (h:IH):Res IV:=match x with
 | .ref i=>(match h[i]? with
  | some (.dct kvs)=>(match keyI y with
   | some k=>(match valI kvs k with
    | some v=>.ok v h
    | none=>.stuck)
   | none=>.stuck)
  | _=>.stuck)
 | _=>.stuck
theorem x_ixD:IxI ce X Jqh:=by
 intro value slice pins s σ H ι σi h x y v u Q E N rx ry K hs
 obtain⟨xv,rx,qx⟩:=rx
 obtain⟨yv,ry,qy⟩:=ry
 cases x with
 | ref i =>
  obtain⟨a,e1,ha⟩:=qx
  subst e1
  dsimp only[Jqh] at K
  cases hi:h[i]? with
  | none=>rw[hi] at K;exact Zf K
  | some ob =>
   rw[hi] at K
   cases ob with
   | dct kvs =>
    dsimp only at K
    cases ek:keyI y with
    | none=>rw[ek] at K;exact Zf K
    | some k =>
     rw[ek] at K
     dsimp only at K
     obtain⟨ws,e1,r1⟩:=N.at hi ha
     cases Jm0 ek qy
     cases (show v=.ref a from rx)
     obtain⟨z,hd,ps,rel,dd⟩:=J0j N.inv.hok e1
     rcases r1.get k with⟨p,q⟩|⟨v1,w1,p,q,r⟩
     ·rw[p] at K;exact Zf K
     ·rw[p] at K
      have rr:=rel.val k
      rw[q] at rr
      obtain⟨w',hw,rw'⟩:=RelO.some_of rr
      exact subscriptTail_builtinR (x:=w') dd.typeIs PySem.F.slot_dict_getitem.lookup (wpAny_getItem_of (Q:=λ r s'=>r=w'/\Q r s') (J02 ry) dd.mapOf hw ⟨rfl,fin0 N K r _ _ (N.inv.tok _) rw'⟩) hs
   | _=>exact Zf K
 | _=>exact Zf K
noncomputable def cInD (x c:IV) (h:IH):Res IV:=match c with
 | .ref i=>(match h[i]? with
  | some (.dct kvs)=>(match keyI x with
   | some k=>.ok (.bl (valI kvs k).isSome) h
   | none=>.stuck)
  | _=>.stuck)
 | _=>.stuck
theorem o_inD:OpI ce X (compareOp .In) cInD:=by
 intro pins s σ H ι σi h x y v u Q E N rx ry K
 obtain⟨xv,rx,qx⟩:=rx
 obtain⟨yv,ry,qy⟩:=ry
 cases y with
 | ref i =>
  obtain⟨a,e1,ha⟩:=qy
  subst e1
  dsimp only[cInD] at K
  cases hi:h[i]? with
  | none=>rw[hi] at K;exact Zf K
  | some ob =>
   rw[hi] at K
   cases ob with
   | dct kvs =>
    dsimp only at K
    cases ek:keyI x with
    | none=>rw[ek] at K;exact Zf K
    | some k =>
     rw[ek] at K
     dsimp only at K
     obtain⟨ws,e1,r1⟩:=N.at hi ha
     cases Jm0 ek qx
     cases (show u=.ref a from ry)
     obtain⟨z,hd,ps,rel,dd⟩:=J0j N.inv.hok e1
     refine wpAny_in_of (J02 rx) hd dd.mapOf ?_
     rw[<- (rel.val k).isSome_eq]
     have es:(valV ws k).isSome=(valI kvs k).isSome:=by
      rcases r1.get k with⟨p,q⟩|⟨v1,w1,p,q,r⟩<;>rw[p,q]<;>rfl
     rw[es]
     exact fin0 N K rfl _ _ (N.inv.tok _) rfl
   | _=>exact Zf K
 | _=>exact Zf K
noncomputable def Jwi:IV->IV->IV->ISt->IH->SRes
 | .ref i,iv,v,σ,h=>match h[i]? with
  | some (.dct kvs)=>(match keyI iv with
   | some k=>if kvs.length<sizeLine then .next σ (h.set i (.dct (putD kvs k v))) else .stuck
   | none=>.stuck)
  | _=>.stuck
 | _,_,_,_,_=>.stuck
noncomputable def gSbD (o i:E1):G1:=λ v σ h=>rS σ (o σ h) λ ov h1=>rS σ (i σ h1) λ iv h2=>Jwi ov iv v σ h2
theorem J24 {oe ie:Expr}{mo mi:E1}{pos:Pos}(ho:PEi ce X oe mo) (hi:PEi ce X ie mi)
  (ha:∀v,assign (.Subscript oe ie pos) X.env v=(do
   let ov<-holding [v] (eval oe X.env)
   let iv<-holding [v,ov] (eval ie X.env)
   standAt pos
   holding [v,ov,iv] (setItem ov iv v)
   release [v,ov,iv] [])):PGi ce X (.Subscript oe ie pos) (gSbD mo mi):=by
 intro pins s σ H ι σi h v u Q E N r K
 rw[ha]
 refine wpAny_bind (wpAny_holding (krun ho N K λ ov h1 ou s1 H1 ι1 N1 n1 r1 K1=>?_))
 refine wpAny_bind (wpAny_holding (krun hi N1 K1 λ iv h2 iu s2 H2 ι2 N2 n2 r2 K2=>?_))
 have r':RU X.K ι2 H2 v u:=(r.mono n1).mono n2
 obtain⟨ox,ro,qo⟩:=r1.mono n2
 obtain⟨ix,ri,qi⟩:=r2
 obtain⟨vx,rvx,qv⟩:=r'
 refine wpAny_bind (wpAny_standAt (wpAny_bind (wpAny_holding ?_)))
 cases ov with
 | ref i =>
  obtain⟨a,rfl,haa⟩:=qo
  dsimp only[Jwi] at K2
  cases hh:h2[i]? with
  | none=>rw[hh] at K2;exact Zf K2
  | some ob =>
   rw[hh] at K2
   cases ob with
   | dct kvs =>
    dsimp only at K2
    cases ek:keyI iv with
    | none=>rw[ek] at K2;exact Zf K2
    | some k =>
     rw[ek] at K2
     dsimp only at K2
     split at K2
     ·rename_i hl
      obtain⟨ws,e1,r1'⟩:=N2.at hh haa
      cases Jm0 ek qi
      cases (show ou=.ref a from ro)
      obtain⟨z,hd,ps,rel,dd⟩:=J0j N2.inv.hok e1
      have hz:ps.length<=sizeLine:=by rw[<- rel.length];exact z
      have hlen:(putK ws k vx).length<=sizeLine:=by
       have h1:=Jqb ws k vx
       have h2:=r1'.length
       omega
      refine wpAny_setItem_pairs (hsz:=hz) (J02 ri) dd λ h' dd' hs=>?_
      have he:∃q,h'.get? a=some q:=let ⟨q,_,_,hq,_⟩:=dd';⟨q,hq⟩
      have I4:=J0i (t':=s2.toks+1) N2.inv (by rw[e1];exact True.intro) hs he (J2y hlen hd (rel.put k rvx) dd')
      have n:Nxt ι2 H2 ι2 (upd H2 a (.dK (putK ws k vx))):=⟨⟨[],by simp⟩,Ext.upd_mut e1 (by rw[e1];exact True.intro)⟩
      obtain⟨R3,_⟩:=N2.rel.write (o:=.dK (putK ws k vx)) (io:=.dct (putD kvs k v)) haa e1 (by rw[e1];exact True.intro) ⟨_,Jf,RPs.putKK (RV.mono n _ _ qv) (RPs.mono n _ _ r1')⟩
      exact wpAny_release (K2 _ σ _ ι2 ⟨I4,R3,N2.st.mono n⟩ n)
     ·exact Zf K2
   | _=>exact Zf K2
 | _=>exact Zf K2
end
noncomputable def leZ (a b:Int):Bool:=decide (a<=b)
noncomputable def Jc7 (ns:List Int):List Int:=ns.mergeSort leZ
theorem Jrt (ns:List Int):(Jc7 ns).Pairwise (· <= ·):=by
 have:=List.pairwise_mergeSort (le:=leZ) (λ a b c h1 h2=>by simp only[leZ,decide_eq_true_eq] at *;omega) (λ a b=>by simp only[leZ,Bool.or_eq_true,decide_eq_true_eq];omega) ns
 exact this.imp λ h=>by simpa [leZ] using h
theorem Jrs {ns ns':List Int}(p:ns'.Perm ns) (s:ns'.Pairwise (· <= ·)):ns'=Jc7 ns :=
 List.Perm.eq_of_pairwise (le:=(· <= ·)) (λ a b _ _ h1 h2=>Int.le_antisymm h1 h2) s (Jrt ns) (p.trans (List.mergeSort_perm ns leZ).symm)
theorem Jbv:∀{us:List Value}{ns:List Int},IntsAre us ns->Vals (ns.map V.int) us
 | _,_,.nil=>.nil
 | _,_,.cons _ _ r=>.cons ⟨_,rfl⟩ (Jbv r)
theorem Jm9 {K:W.Frag}{ι:List Addr}{H:Hp}:∀ns:List Int,RVs K ι H (ns.map IV.int) (ns.map V.int)
 | []=>rfl
 | _::ns=>⟨_,_,rfl,rfl,Jm9 ns⟩
noncomputable def srtI (xs:List IV):Option (List IV):=match Jbs xs with
 | some ns=>some ((Jc7 ns).map .int)
 | none=>none
section
variable {ce:Str->Option Addr}{X:Cx}
noncomputable def Jhp:IV->IH->Res IV
 | .ref i,h=>match h[i]? with
  | some (.lst xs)=>if xs.length<64 then(match srtI xs with
   | some ys=>.ok (.ref h.length) (h++[.lst ys])
   | none=>.stuck) else .stuck
  | _=>.stuck
 | _,_=>.stuck
theorem Jxb:Jjk ce X (.builtin "sorted") (on1 Jhp):=Jpw λ pins s σ H ι σi h x xv u Q E N ru qx K=>by
 cases x with
 | ref i =>
  obtain⟨a,e1,ha⟩:=qx
  subst e1
  cases ru
  dsimp only[Jhp] at K
  cases hi:h[i]? with
  | none=>rw[hi] at K;exact Zf K
  | some ob =>
   rw[hi] at K
   cases ob with
   | lst xs =>
    dsimp only at K
    split at K
    ·rename_i h64
     obtain⟨vs,e1,r1⟩:=N.at hi ha
     obtain⟨its,rv,pl,hz⟩:=N.inv.list (SqL.of e1)
     have li:its.length=xs.length:=by rw[<- rv.length,r1.length]
     have hb:64<=sizeLine:=by decide
     have fresh:H (s.heap.objs.size+1)=none:=N.inv.hok.fresh (Nat.le_succ _)
     unfold srtI at K
     cases ei:Jbs xs with
     | some ns =>
      rw[ei] at K
      have are:=Jhl ei r1 rv
      have ln:=Jfe are
      refine sorted_ints pl.isList are (by omega) λ out ns' hI hp hs=>?_
      have en:=Jrs hp hs
      subst en
      obtain⟨e,he⟩:=sortedAll_at s.heap its out
      have hl:((Jc7 ns).map V.int).length<=sizeLine:=by rw[List.length_map,hp.length_eq];omega
      have I':=N.inv.laid (a:=s.heap.objs.size+1) (o:=.lst ((Jc7 ns).map V.int)) (h':=sortedAll s.heap its out) (t':=s.toks) (λ _ _=>sortedAll_old) (Nat.le_succ _) ⟨hl,out.toList,e,Jbv hI,he⟩
      exact finA N K (s.heap.objs.size+1) fresh ⟨_,Jf,Jm9 _⟩ _ _ I' rfl
     | none =>
      rw[ei] at K
      exact Zf K
    ·exact Zf K
   | _=>exact Zf K
 | _=>exact Zf K
end
noncomputable def J0c (f:Nat->Int):Nat->Int
 | 0=>0
 | 1=>f 0
 | j+2=>if f (j+1)<J0c f (j+1) then f (j+1) else J0c f (j+1)
section
variable {pr:Program}{wd:World}{B:Around}{R:Result->Shared->Prop}{it:Addr}{fps wrs:List Addr}{n:Nat}{P:Nat->Value->Prop}{St:Nat->Heap->Prop}
end
section
variable {pr:Program}{wd:World}{B:Around}{E:Value->Shared->Prop}{z:Shared}{l:Addr}{us:List Value}{ns:List Int}{Q:Value->Shared->Prop}
end
section
variable {ce:Str->Option Addr}{X:Cx}
noncomputable def minLI:IV->IH->Res IV
 | .ref i,h=>match h[i]? with
  | some (.lst xs)=>(match Jbs xs with
   | some ns=>if ns=[] then .stuck else .ok (.int (J0c (λ i=>ns.getD i 0) ns.length)) h
   | none=>.stuck)
  | _=>.stuck
 | _,_=>.stuck
end
section
variable {prog:Program}{w:World}{A:Around}{E:Value->Shared->Prop}{s:Shared}
end
open AutoSeq1 (wpAny_loadPart') in
section
variable {prog:Program}{w:World}{A:Around}{E:Value->Shared->Prop}{s:Shared}
end
section
variable {ce:Str->Option Addr}{X:Cx}
end
noncomputable def Jiu (a:Arguments):Option Str:=match a with
 | { posonlyargs:=[],args:=[p],vararg:=none,kwonlyargs:=[],kw_defaults:=[],kwarg:=none,defaults:=[] }=>some p.arg
 | _=>none
noncomputable abbrev lamQ (q:Str):Str:=q++".<locals>."++"<lambda>"
noncomputable abbrev lamO (q:Str) (params:Arguments) (body:Expr) (scope:Scope) (cl:List (Str×Addr)) (pm ctv:Value) (c:Addr):Obj:=W.kla_obj "<lambda>" (lamQ q) params body scope cl pm c ctv
noncomputable def Jjj (mg:Str->Option Value) (base:Heap):Prop :=
 ∃bm ob,mg "__builtins__"=some (.ref bm)/\bm≠builtinsNs/\bm≠mainGlobals/\base.get? bm=some ob/\ob.cls=.type "module"/\ob.dict=some builtinsNs/\ob.data=.plain
theorem Jbg.rec {H:Hp}{q:Str}{cv:Value}{P:Program}{w:World}{h:Heap}(l:Jbg H q cv) (hok:HOk P w H h):h.CodeRec cv (lamQ q):=by
 obtain⟨c,oc,vs,t,e1,e2,e3,e4⟩:=l
 exact⟨c,oc,vs,t,e1,(hok c _ e2).1,e3,e4⟩
theorem Jbg.mono {H H':Hp}{q:Str}{cv:Value}(fz:∀b o u,H b=some (.frz o u)->H' b=some (.frz o u)) (l:Jbg H q cv):Jbg H' q cv:=by
 obtain⟨c,oc,vs,t,e1,e2,r⟩:=l
 exact⟨c,oc,vs,t,e1,fz _ _ _ e2,r⟩
theorem Jk4 {pos:Pos}{a b:Int}{c cv:Value}:∀(l:List Value),TriplesOk l->codeAmong pos (l++[rawInt a,rawInt b,c])=some cv->codeAmong pos l=some cv∨cv=c
 | [],_,e=>by
  simp only[List.nil_append,rawInt,codeAmong] at e
  split at e
  ·cases e;exact .inr rfl
  ·cases e
 | .int x t::.int y u::z::rest,h,e=>by
  simp only[List.cons_append,codeAmong] at e ⊢
  split at e
  ·rename_i hh
   rw[if_pos hh]
   exact .inl e
  ·rename_i hh
   rw[if_neg hh]
   exact Jk4 rest h e
 | [.int _ _],h,_=>(show False from h).elim
 | [.int _ _,.int _ _],h,_=>(show False from h).elim
section
variable {ce:Str->Option Addr}{X:Cx}
theorem Now.pinO {pins:List (Addr×Obj)}{ι:List Addr}{σi:ISt}{h:IH}{σ:L2.St}{H:Hp}{s:Shared}{f:Addr}{fo:Obj}(N:Now ce X pins ι σi h σ H s) (e:s.heap.get? f=some fo) (F:FpOk X pins H f) (d:∀v,fo.data≠.cell v):Now ce X (pins++[(f,fo)]) ι σi h σ H s:=by
 have I:=N.inv.pinned (fp:=[f]) (λ b hb=>by rw[List.mem_singleton.mp hb];exact F) (λ b hb=>by rw[List.mem_singleton.mp hb];exact⟨fo,e,d⟩)
 have ep:Jc4 [f] s.heap=[(f,fo)]:=by simp[Jc4,e]
 rw[ep] at I
 exact⟨I,N.rel,N.st⟩
theorem Jx0 {q:Str}{j:Nat}{params:Arguments}{body:Expr}{scope:Scope}{pos:Pos}{cl:List (Str×Addr)}{pins:List (Addr×Obj)}{s:Shared}{σ:L2.St}{H:Hp}{ι:List Addr}{σi:ISt}{h:IH}{Q:Value->Shared->Prop}{E:Value->Shared->Prop}
  (N:Now ce X pins ι σi h σ H s) (hj:h[j]?=some (.tab q)) (hcd:W.codeIn X.K X.env.code q=true) (hq:X.env.qual=q++".<locals>.") (hdef:defaultsOf params X.env=([],[])) (hcl:closureFor scope X.env=pure cl) (B:Jjj X.mg X.base)
  (K:∀f c pm ctv s' H',Now ce X (pins++[(f,lamO q params body scope cl pm ctv c)]) ι σi h σ H' s'->Nxt ι H ι H'->Jbg H' q (.ref c)->Q (.ref f) s') :
  wpAny (model X.prog X.w) X.A (eval (.Lambda params body scope pos) X.env) Q E s:=by
 obtain⟨a,ha,hc,ps,hP,ht,hcodes⟩:=N.rel.at_ j _ hj
 obtain⟨c,ec,hhd⟩:=hc _ hcd
 have I:=N.inv
 have C:=W.codeHd_of_K I.kIn hhd
 have gP:s.heap.get? a=some (W.tabObj ps):=I.hok a _ hP
 have hg:s.heap.Ns mainGlobals X.mg:=I.ok.mod.glob.keeps I.bk
 obtain⟨bm,ob,b1,b2,b3,b4,b5,b6,b7⟩:=B
 have gb:=I.bs bm ob b4
 have nba:bm≠a:=λ z=>by rw[z,hP] at gb;cases gb.2
 have hb:s.heap.BuiltinsAt X.mg a:=⟨bm,ob,b1,b2,b3,nba,gb.1,b5,b6,b7⟩
 have nga:mainGlobals≠a:=λ z=>by
  obtain⟨o,es,ep,e,d,_⟩:=hg
  rw[z,gP] at e
  cases e
  cases d
 refine W.kla_eval hdef ?_
 rw[hq]
 cases ea:codeAmong pos ps.toList with
 | some cv =>
  have LC:=hcodes pos cv ea
  obtain⟨c',oc,vs,t,ecv,_⟩:=id LC
  subst ecv
  refine W.kla_makeFunctionHit hcl I.ok.glob hg ec C gP ht ea hb λ ctv h' tk hk hsz=>?_
  have I1:=I.kept (h':=h'.push (lamO q params body scope cl ((X.mg "__name__").getD .none) ctv c')) (t':=tk) λ b o e=>Heap.get?_push_of_some _ (hk b o e)
  have N1:Now ce X pins ι σi h σ H _:=⟨I1,N.rel,N.st⟩
  exact K h'.objs.size c' _ ctv _ H (N1.pinO (Heap.get?_push_size _ rfl) (I.fpOk hsz (I.hok.fresh hsz)) λ v z=>by
   have z':Data.func _=Data.cell v:=z
   cases z') .refl LC
 | none =>
  refine W.kla_makeFunction hcl I.ok.glob hg ec C gP ht ea nga hb λ c' ctv h' tk hx hge hlt hrec htb=>?_
  obtain⟨c2,oc,vs,t,e2,hoc,hd,hv⟩:=hrec
  cases e2
  generalize hps:ps++#[rawInt pos.line,rawInt pos.col,.ref c']=ps' at htb
  generalize hob:lamO q params body scope cl ((X.mg "__name__").getD .none) ctv c'=fo
  have fc:H c'=none:=I.hok.fresh hge
  have nca:c'≠a:=λ z=>by rw[z,hP] at fc;cases fc
  have lts:s.heap.objs.size<=h'.objs.size:=Nat.le_trans hge (Nat.le_of_lt hlt)
  obtain⟨H',hH⟩:∃H',H'=upd (upd H a (.tbl ps')) c' (.frz oc (.own 0)):=⟨_,rfl⟩
  have Ha:H' a=some (.tbl ps'):=by rw[hH,Jg (Ne.symm nca),Jf]
  have Hc:H' c'=some (.frz oc (.own 0)):=by rw[hH,Jf]
  have Ho:∀b,b≠a->b≠c'->H' b=H b:=λ b h1 h2=>by rw[hH,Jg h2,Jg h1]
  have kp:∀b o,b≠a->s.heap.get? b=some o->(h'.push fo).get? b=some o:=λ b o hb e=>Heap.get?_push_of_some _ (hx b o hb e)
  have ga:(h'.push fo).get? a=some (W.tabObj ps'):=Heap.get?_push_of_some _ htb
  have frz:∀b o u,H b=some (.frz o u)->H' b=some (.frz o u):=λ b o u e=>by rw[Ho b (λ z=>by rw[z,hP] at e;cases e) (λ z=>by rw[z,fc] at e;cases e)];exact e
  have tup:∀b xs,H b=some (.tup xs)->H' b=some (.tup xs):=λ b xs e=>by rw[Ho b (λ z=>by rw[z,hP] at e;cases e) (λ z=>by rw[z,fc] at e;cases e)];exact e
  have own:∀b x,H b=some (.own x)->H' b=some (.own x):=λ b x e=>by rw[Ho b (λ z=>by rw[z,hP] at e;cases e) (λ z=>by rw[z,fc] at e;cases e)];exact e
  have I1:Inv X pins σ H' { s with heap:=h'.push fo,toks:=tk }:=by
   refine I.step (g':=s.gens) (d':=s.drawn) (ch:=[]) (λ b hb=>absurd hb (by simp)) (λ b o _ _ _ e n=>kp b o (λ z=>by rw[z,hP] at n;cases n) e) (λ b o _ _ _ e n=>⟨o.slots,kp b o (λ z=>by rw[z,hP] at n;cases n) e⟩) (λ b o _ e n=>?_) (λ b o _ e=>?_) tup frz (λ b qs e=>?_) (λ m hm=>?_) (λ b u e=>?_) I.bare
   ·rw[Ho b (λ z=>by rw[z,hP] at n;cases n) (Nat.ne_of_lt (Nat.lt_of_lt_of_le (Heap.lt_size e) hge))];exact n
   ·by_cases hb:b=a
    ·subst hb;exact⟨_,ga⟩
    ·exact⟨o,kp b o hb e⟩
   ·by_cases hb:b=a
    ·subst hb
     rw[hP] at e
     cases e
     exact⟨_,by rw[Ha,<-hps]⟩
    ·exact⟨#[],by rw[Ho b hb (λ z=>by rw[z,fc] at e;cases e),e];simp⟩
   ·obtain⟨o,es,ep,ho,r⟩:=hm
    exact⟨o,es,ep,kp _ o (λ z=>by have:=I.free;rw[z,hP] at this;cases this) ho,r⟩
   ·by_cases hb:b=a
    ·subst hb
     rw[Ha] at e
     cases e
     exact ga
    ·by_cases hb2:b=c'
     ·subst hb2
      rw[Hc] at e
      cases e
      exact⟨Heap.get?_push_of_some _ hoc,_,Heap.get?_push_of_some _ hoc⟩
     ·rw[Ho b hb hb2] at e
      refine(I.hok b u e).stay (λ d v hd r=>kp d v (λ z=>?_) r) (λ d z=>own d _ z) tup
      subst z
      rcases hd with z|z
      ·exact hb z.symm
      ·rw[hP] at z;cases z
  have n:Nxt ι H ι H':=⟨⟨[],by simp⟩,⟨tup,frz⟩⟩
  have LC:Jbg H' q (.ref c'):=⟨c',oc,vs,t,rfl,Hc,hd,hv⟩
  have R:Rel ce X.K ι h H':=by
   refine⟨N.rel.len,N.rel.nd,λ i o e=>?_⟩
   obtain⟨b,eb,ro⟩:=N.rel.at_ i o e
   refine⟨b,eb,?_⟩
   by_cases hb:b=a
   ·subst hb
    have hij:i=j:=N.rel.inj eb ha
    subst hij
    rw[hj] at e
    cases e
    refine⟨hc,ps',Ha,?_,λ pos' cv ea'=>?_⟩
    ·rw[<- hps,Array.toList_append]
     exact TriplesOk_snoc _ _ _ _ ht
    ·rw[<- hps,Array.toList_append] at ea'
     rcases Jk4 ps.toList ht ea' with z|z
     ·exact(hcodes pos' cv z).mono frz
     ·rw[z];exact LC
   ·refine ro.mono n λ u hu=>?_
    rw[Ho b hb (λ z=>by rw[z,fc] at hu;cases hu)]
    exact hu
  have N1:Now ce X pins ι σi h σ H' _:=⟨I1,R,N.st.mono n⟩
  subst hob
  exact K h'.objs.size c' _ ctv _ H' (N1.pinO (Heap.get?_push_size _ rfl) (I.fpOk lts (by rw[Ho _ (Nat.ne_of_gt (Nat.lt_of_lt_of_le (Heap.lt_size gP) lts)) (Nat.ne_of_gt hlt)];exact I.hok.fresh lts)) λ v z=>by
   have z':Data.func _=Data.cell v:=z
   cases z') n LC
end
noncomputable abbrev envL (q:Str) (scope:Scope) (L f:Addr) (cd:Value) (cl:List (Str×Addr)):Env:=newEnv scope L mainGlobals cl (lamQ q++".<locals>.") (some f) cd none builtinsNs
noncomputable def cxL (X:Cx) (A:Around) (N':List Str) (q:Str) (scope:Scope) (f:Addr) (cd:Value) (s:Shared) (H:Hp):Cx :=
 { X with A:=A.deeper (envL q scope s.heap.objs.size f cd (clOf X.env.cells scope.names [])),N:=N',s₀:=s,H₀:=H,env:=envL q scope s.heap.objs.size f cd (clOf X.env.cells scope.names []),outer:=X.stack,stack:=envL q scope s.heap.objs.size f cd (clOf X.env.cells scope.names [])::X.stack,ex:=[],calm:=true,fn:=λ _=>false,pn:=[],xe:=λ _ _=>False }
structure LamSc (N0:List Str) (sc₀:List (Str×NameKind)) (x:Str) (caps:List Str) (js:List Nat) (scope:Scope):Prop where
 kind:scope.kind=.function
 co:scope.isCoroutine=false
 gen:scope.isGenerator=false
 nocell:∀y∈scope.names,y.2≠.cell
 par:scope.names.lookup x=some .local
 free:∀y∈scope.names,y.2=.free->sc₀.lookup y.1=some .cell
 fr:∀y,scope.names.lookup y=some .free->(y,.free)∈scope.names
 cap:∀(k j:Nat) (y:Str),js[k]?=some j->caps[k]?=some y->N0[j]?=some y/\scope.names.lookup y=some .free
 len:js.length=caps.length
 nd:(x::caps).Nodup
theorem Jw9 {p:Arg}{nm qu:Str}{body:Expr}{scope:Scope}{cl:List (Str×Addr)}{pm cd ctv u:Value}:bindArgs (W.kla_fn nm qu { posonlyargs:=[],args:=[p],vararg:=none,kwonlyargs:=[],kw_defaults:=[],kwarg:=none,defaults:=[] } body scope cl pm cd ctv) ⟨[u],[]⟩=pure [(p.arg,u)]:=by
 have e:(List.lookup p.arg [(p.arg,u)]).isNone=false:=by simp
 unfold bindArgs
 simp[seqItems?,e]
 rfl
section
variable {ce:Str->Option Addr}{X:Cx}
theorem J03 {k:Nat}{A:Around}{q x:Str}{caps:List Str}{js:List Nat}{params:Arguments}{body:Expr}{scope:Scope}{pm ctv:Value}{c f:Addr}{m:E1}{v:IV}{u:Value}{pins:List (Addr×Obj)}{s:Shared}{σ:L2.St}{H:Hp}{ι:List Addr}{σi:ISt}{h:IH}{Q:Value->Shared->Prop}{E:Value->Shared->Prop}
  (hA:A.frames=some X.stack) (hr:Room (k+1) A) (N:Now ce X pins ι σi h σ H s) (hf:s.heap.get? f=some (lamO q params body scope (clOf X.env.cells scope.names []) pm ctv c)) (LC:Jbg H q (.ref c)) (hx:Jiu params=some x) (S:LamSc X.N X.env.scope.names x caps js scope)
  (hb:∀s' H',PEi ce (cxL X A (x::caps) q scope f (.ref c) s' H') body m) (ru:RU X.K ι H v u) (K:Kont ce X RU pins ι σi σ H ((m (some v::js.map λ j=>(σi[j]?).join) h).nx) Q E) :
  wpAny (model X.prog X.w) A (call (.ref f) [u]) Q E s:=by
 have I:=N.inv
 have e0:=I.env0
 have lim:s.heap.NoLimit:=e0.mod.nolimit.keeps λ b o e=>(e0.bs b o e).1
 refine wpAny_call (W.kla_callFunE hr.depth hf rfl S.co S.gen rfl (LC.rec I.hok) ?_)
 have hbind:bindArgs (W.kla_fn "<lambda>" (lamQ q) params body scope (clOf X.env.cells scope.names []) pm (.ref c) ctv) ⟨[u],[]⟩=pure [(x,u)]:=by
  unfold Jiu at hx
  split at hx
  ·cases hx
   exact Jw9
  ·cases hx
 rw[hbind]
 refine wpAny_pure (wpAny_newFunctionEnv S.nocell (λ y hy=>by rw[List.mem_singleton.mp hy];exact S.par) (λ h3 hns hsb=>⟨lim.fresh _ hsb,?_⟩) S.kind)
 obtain⟨w,rw',qw⟩:=ru
 have keep:∀b o,s.heap.get? b=some o->h3.get? b=some o:=λ b o z=>(hsb.2 b (Nat.ne_of_lt (Heap.lt_size z))).trans (Heap.get?_push_of_some _ z)
 have cells':∀y d,(clOf X.env.cells scope.names []).lookup y=some d->X.env.cells.lookup y=some d:=Jmu _ _ (λ y d z=>by simp at z)
 have okX:(cxL X A (x::caps) q scope f (.ref c) s H).Ok:=by
  have noA:∀b:Addr,b∉(cxL X A (x::caps) q scope f (.ref c) s H).ex:=λ b z=>absurd (show b∈([]:List Addr) from z) (by simp)
  refine⟨I.ok.mod,S.kind,rfl,rfl,Nat.le_refl _,λ y y' d a b=>I.ok.inj y y' d (cells' y d a) (cells' y' d b),λ y hy=>?_,λ y d z=>absurd (show false=true from z) Bool.false_ne_true,λ _=>hr.hd,Around.frames_deeper hA,.inr ⟨rfl,rfl⟩,λ b z=>absurd z (noA b),e0.bs,e0.bsz,λ b _ _=>noA b,λ b z=>absurd z (noA b),e0.funs,e0.frf⟩
  have hy':scope.names.lookup y=some .cell∨scope.names.lookup y=some .free:=hy
  rcases hy' with z|z
  ·exact absurd rfl (S.nocell _ (PySem.mem_of_lookup z))
  ·have hm:=PySem.mem_of_lookup z
   obtain⟨d,hd⟩:=I.ok.has y (.inl (S.free (y,.free) hm rfl))
   exact Option.isSome_iff_exists.mp (Jgp _ _ y d hm hd)
 have I3:Inv (cxL X A (x::caps) q scope f (.ref c) s H) [] (some w::js.map λ j=>(σ[j]?).join) H { s with heap:=h3,toks:=s.toks+[(x,u)].length }:=by
  refine⟨okX,rfl,I.bare,Un.kept keep,⟨_,hns,λ i y z a b cc=>?_⟩,λ y d z=>?_,I.hok.fresh (Nat.le_refl _),λ y d z=>I.freeC y d (cells' y d z),λ p hp=>absurd (show p∈([]:List (Addr×Obj)) from hp) (by simp),I.hok.kept keep,by show _=(x::caps).length;simp[S.len]⟩
  ·cases i with
   | zero =>
    have a':some x=some y:=a
    cases a'
    have b':some (some w)=some (some z):=b
    cases b'
    exact⟨u,rw',.inl ⟨S.par,by simp⟩⟩
   | succ i =>
    have a':caps[i]?=some y:=a
    have b':(js.map λ j=>(σ[j]?).join)[i]?=some (some z):=b
    rw[List.getElem?_map] at b'
    cases ej:js[i]? with
    | none=>rw[ej] at b';cases b'
    | some j =>
     rw[ej] at b'
     have b2:(σ[j]?).join=some z:=Option.some.inj b'
     have hσ:σ[j]?=some (some z):=by
      cases es:σ[j]? with
      | none=>rw[es] at b2;cases b2
      | some o=>rw[es] at b2;rw[show o=some z from b2]
     obtain⟨hx1,hx2⟩:=S.cap i j y ej a'
     have hm:=PySem.mem_of_lookup hx2
     have hk:=S.free (y,.free) hm rfl
     obtain⟨m0,hn,hl⟩:=I.loc
     obtain⟨u',ru',lk⟩:=hl j y z hx1 hσ (.inr (.inl hk))
     rcases lk with⟨e,_⟩|⟨e,d,hd,hcell⟩
     ·have hk':X.env.scope.names.lookup y=some .cell:=hk
      have e':X.env.scope.names.lookup y=some .local:=e
      rw[hk'] at e'
      cases e'
     ·obtain⟨d',hd2⟩:=Option.isSome_iff_exists.mp (Jgp (cells:=X.env.cells) scope.names [] y d hm hd)
      have:=cells' y d' hd2
      rw[hd] at this
      cases this
      obtain⟨oc,hoc,hdd⟩:=hcell
      exact⟨u',ru',.inr ⟨.inr hx2,d,hd2,oc,keep _ _ hoc,hdd⟩⟩
  ·obtain⟨z',o,ho,hd⟩:=I.cell y d (cells' y d z)
   exact⟨z',o,keep _ _ ho,hd⟩
 have N3:Now ce (cxL X A (x::caps) q scope f (.ref c) s H) [] ι (some v::js.map λ j=>(σi[j]?).join) h (some w::js.map λ j=>(σ[j]?).join) H { s with heap:=h3,toks:=s.toks+[(x,u)].length }:=by
  refine⟨I3,N.rel,by simp,λ i z a=>?_⟩
  cases i with
  | zero =>
   have a':some (some v)=some (some z):=a
   cases a'
   exact⟨w,rfl,qw⟩
  | succ i =>
   have a':(js.map λ j=>(σi[j]?).join)[i]?=some (some z):=a
   rw[List.getElem?_map] at a'
   cases ej:js[i]? with
   | none=>rw[ej] at a';cases a'
   | some j =>
    rw[ej] at a'
    have a2:(σi[j]?).join=some z:=Option.some.inj a'
    have hσ:σi[j]?=some (some z):=by
     cases es:σi[j]? with
     | none=>rw[es] at a2;cases a2
     | some o=>rw[es] at a2;rw[show o=some z from a2]
    obtain⟨z',ez,qz⟩:=N.st.2 j z hσ
    refine⟨z',?_,qz⟩
    show(js.map λ j=>(σ[j]?).join)[i]?=some (some z')
    rw[List.getElem?_map,ej]
    show some ((σ[j]?).join)=_
    rw[ez]
    rfl
 refine W.kla_codeExpr (wpAny_mono (hb s H [] _ _ H ι _ h (λ u' s'=>Q u' s') (λ _ _=>False) N3 ?_) (λ _ _ z=>z) λ _ _ z=>z.elim)
 cases er:m (some v::js.map λ j=>(σi[j]?).join) h with
 | ok v' h' =>
  rw[er] at K
  intro u' s' H' ι' N' n' ⟨z,rz,qz⟩
  have J:=N'.inv
  obtain⟨_,_,I',rz',e1,e2⟩:=I.after (Q:=λ z2 H2=>z2=z/\H2=H') ⟨z,H',J.os,J.bare,J.base,J.hok,rz,rfl,rfl⟩
  subst e1
  subst e2
  exact K u' s' _ ι' ⟨I',N'.rel,N.st.mono n'⟩ n' ⟨_,rz',qz⟩
 | exc n h'=>rw[er] at K;exact Zf K
 | stuck=>rw[er] at K;exact Zf K
end
noncomputable def gtZ:IV->IV->Option Bool
 | .int a,.int b=>some (decide (a>b))
 | _,_=>none
theorem FpOk.more {X:Cx}{pins:List (Addr×Obj)}{H:Hp}{b:Addr}{p:Addr×Obj}(F:FpOk X pins H b) (ne:p.1≠b):FpOk X (pins++[p]) H b:=by
 refine⟨F.1,F.2.1,F.2.2.1,F.2.2.2.1,F.2.2.2.2.1,λ q hq=>?_⟩
 rcases List.mem_append.mp hq with z|z
 ·exact F.2.2.2.2.2 q (List.mem_append_left _ z)
 ·rcases List.mem_append.mp z with z|z
  ·exact F.2.2.2.2.2 q (List.mem_append_right _ z)
  ·rw[List.mem_singleton.mp z]
   exact ne
theorem FpOk.at {X:Cx}{pins:List (Addr×Obj)}{H H':Hp}{b:Addr}(F:FpOk X pins H b) (n:H' b=none):FpOk X pins H' b:=⟨n,F.2⟩
theorem J2d {xs:List V}{us:List Value}{i:Nat}{u:Value}(r:Vals xs us) (e:us[i]?=some u):∃x,xs[i]?=some x/\RelV x u:=by
 have hi:=(List.getElem?_eq_some_iff.mp e).1
 have hl:=r.length
 have hi2:i<xs.length:=by omega
 have hx:xs[i]?=some xs[i]:=List.getElem?_eq_getElem hi2
 obtain⟨u',e',q⟩:=r.get hx
 rw[e] at e'
 cases e'
 exact⟨_,hx,q⟩
section
variable {ce:Str->Option Addr}{X:Cx}
theorem Now.turned {pins:List (Addr×Obj)}{ι:List Addr}{σi:ISt}{h:IH}{σ:L2.St}{H:Hp}{s:Shared}{it:Addr}{h':Heap}{t':Nat}(N:Now ce X pins ι σi h σ H s) (F:FpOk X pins H it) (k:∀b o,b≠it->s.heap.get? b=some o->h'.get? b=some o) :
  Now ce X pins ι σi h σ H { s with heap:=h',toks:=t' }:=⟨N.inv.turned k F.1 F.2.1 F.2.2.2.1 F.2.2.2.2.1 F.2.2.2.2.2,N.rel,N.st⟩
theorem Now.keptH {pins:List (Addr×Obj)}{ι:List Addr}{σi:ISt}{h:IH}{σ:L2.St}{H:Hp}{s:Shared}{h':Heap}{t':Nat}(N:Now ce X pins ι σi h σ H s) (k:∀b o,s.heap.get? b=some o->h'.get? b=some o) :
  Now ce X pins ι σi h σ H { s with heap:=h',toks:=t' }:=⟨N.inv.kept k,N.rel,N.st⟩
noncomputable def J2o (ce:Str->Option Addr) (X:Cx) (A:Around) (σi:ISt) (σ:L2.St) (pins:List (Addr×Obj)) (G:Hp->Prop) (fv:Value) (mk:IV->IH->Res IV):Prop :=
 ∀(pl:List (Addr×Obj)) (s:Shared) (H:Hp) (ι:List Addr) (h:IH) (v:IV) (u:Value) (Q:Value->Shared->Prop),Now ce X (pins++pl) ι σi h σ H s->G H->RU X.K ι H v u->Kont ce X RU (pins++pl) ι σi σ H (mk v h).nx Q (λ _ _=>False) ->
  wpAny (model X.prog X.w) A (call fv [u]) Q (λ _ _=>False) s
theorem J3z {α γ:Type}{pins:List (Addr×Obj)}{ι:List Addr}{σi:ISt}{σ:L2.St}{H:Hp}{R:REL α Value}{R':REL γ Value}{r:Res α}{g:α->IH->Res γ}{Q:Value->Shared->Prop}{E:Value->Shared->Prop}{pl:List (Addr×Obj)}{Q1:Value->Shared->Prop}
  (K:Kont ce X R' pins ι σi σ H (r.nx.bind g) Q E)
  (step:∀x h1 u s1 H1 ι1,Now ce X (pins++pl) ι1 σi h1 σ H1 s1->Nxt ι H ι1 H1->R X.K ι1 H1 x u->Kont ce X R' pins ι1 σi σ H1 (g x h1) Q E->Q1 u s1):Kont ce X R (pins++pl) ι σi σ H r.nx Q1 (λ _ _=>False):=by
 cases r with
 | ok v h'=>exact λ u s' H' ι' N' n' q=>step v h' u s' H' ι' N' n' q (Kont.mono (r:=g v h') K n')
 | exc n h'=>exact Zf K
 | stuck=>exact Zf K
section
variable {A:Around}{R:Result->Shared->Prop}{Q:Value->Shared->Prop}{E:Value->Shared->Prop}{pins:List (Addr×Obj)}{σi:ISt}{σ:L2.St}{G:Hp->Prop}{fq:Addr}{mk:IV->IH->Res IV}{gt:IV->IV->Option Bool}{i n:Nat}{l I C:Addr}{kw:List (Str×Value)}
end
theorem Kont.more {α β:Type}{R:REL α β}{pins pl:List (Addr×Obj)}{ι:List Addr}{σi:ISt}{σ:L2.St}{H:Hp}{r:Res α}{Q:β->Shared->Prop}{E:Value->Shared->Prop}(K:Kont ce X R pins ι σi σ H r Q E):Kont ce X R (pins++pl) ι σi σ H r Q E:=by
 cases r with
 | ok v h'=>exact λ u s' H' ι' N n q=>K u s' H' ι' N.pins n q
 | exc m h'=>exact λ pl' a s' H' ι' N n q=>K (pl++pl') a s' H' ι' (by rw[<- List.append_assoc];exact N) n q
 | stuck=>exact K
theorem Jxz {params:Arguments}{x:Str}{env:Env}(hx:Jiu params=some x):defaultsOf params env=([],[]):=by
 unfold Jiu at hx
 split at hx
 ·rfl
 ·cases hx
end
section
variable {ce:Str->Option Addr}{X:Cx}{C:Addr}{x c:Str}{np cpos pos:Pos}{e:Expr}{es:List Expr}{ma:A1}
end
section
variable {ce:Str->Option Addr}{X:Cx}{a C:Addr}{pins:List (Addr×Obj)}{σ:L2.St}{H:Hp}{s:Shared}{ι:List Addr}{σi:ISt}{h:IH}{n:Nat}{c:Str}{fs:List (Str×IV)}{tv:Value}
end
noncomputable def J1k (sl:Option Nat) (x:Option IV) (σ:ISt):ISt:=match sl with
 | some i=>σ.set i x
 | none=>σ
noncomputable def SRes.drop (sl:Option Nat) (r:SRes):SRes:=match r with
 | .next σ h=>.next (J1k sl none σ) h
 | .brk σ h=>.brk (J1k sl none σ) h
 | .cont σ h=>.cont (J1k sl none σ) h
 | .ret v h=>.ret v h
 | _=>.stuck
section
variable {ce:Str->Option Addr}{X:Cx}
noncomputable def slT:IV->Option Int->Option Int->IH->Res IV
 | .str x,lo,hi,h=>if x.length<=sizeLine then .ok (.str (Txt.slice x lo hi)) h else .stuck
 | x,lo,hi,h=>slI x lo hi h
theorem x_slT:SlI ce X slT:=by
 intro pins s σ H ι σi h x v vl vu lo hi sl Q E N rx hs pl pu K
 cases x with
 | str x =>
  obtain⟨xv,rx,qx⟩:=rx
  cases (show xv=.str x from qx)
  obtain⟨t,rfl⟩:=rx
  dsimp only[slT] at K
  split at K
  ·rename_i hz
   refine⟨"str",_,F.slot_str_getitem.lookup,typeIs_str _ _ _,?_⟩
   cases pl with
   | none =>
    cases pu with
    | none=>exact wpAny_getItem_str_slice (l:=none) (u:=none) (st:=none) hs rfl (post_val_or_str ⟨Nat.le_trans (Txt.slice_le x _ _) hz,λ t' k=>fin0 N K rfl _ _ (N.inv.tok _) ⟨_,rfl⟩⟩)
    | int j tj=>exact wpAny_getItem_str_slice (l:=none) (u:=some (j,tj)) (st:=none) hs rfl (post_val_or_str ⟨Nat.le_trans (Txt.slice_le x _ _) hz,λ t' k=>fin0 N K rfl _ _ (N.inv.tok _) ⟨_,rfl⟩⟩)
   | int i ti =>
    cases pu with
    | none=>exact wpAny_getItem_str_slice (l:=some (i,ti)) (u:=none) (st:=none) hs rfl (post_val_or_str ⟨Nat.le_trans (Txt.slice_le x _ _) hz,λ t' k=>fin0 N K rfl _ _ (N.inv.tok _) ⟨_,rfl⟩⟩)
    | int j tj=>exact wpAny_getItem_str_slice (l:=some (i,ti)) (u:=some (j,tj)) (st:=none) hs rfl (post_val_or_str ⟨Nat.le_trans (Txt.slice_le x _ _) hz,λ t' k=>fin0 N K rfl _ _ (N.inv.tok _) ⟨_,rfl⟩⟩)
  ·exact Zf K
 | _=>exact x_sl pins s σ H ι σi h _ v vl vu lo hi sl Q E N rx hs pl pu K
end
theorem Jua (a:Value):argsOk "max" ⟨[a],[]⟩:=by unfold argsOk;kernel_rfl
section
variable {ce:Str->Option Addr}{X:Cx}
noncomputable def Jsv:IV->IH->Res IV
 | .ref i,h=>match h[i]? with
  | some (.lst xs)=>(match Jbs xs with
   | some ns=>if ns=[] then .stuck else .ok (.int (Ja8 (λ i=>ns.getD i 0) ns.length)) h
   | none=>.stuck)
  | _=>.stuck
 | _,_=>.stuck
theorem J2t (hh:X.A.handled=none):Jjk ce X (.builtin "max") (on1 Jsv):=Jpw λ pins s σ H ι σi h x xv u Q E N ru qx K=>by
 cases x with
 | ref i =>
  obtain⟨a,e1,ha⟩:=qx
  subst e1
  cases ru
  dsimp only[Jsv] at K
  cases hi:h[i]? with
  | none=>rw[hi] at K;exact Zf K
  | some ob =>
   rw[hi] at K
   cases ob with
   | lst xs =>
    dsimp only at K
    cases hb:Jbs xs with
    | none=>rw[hb] at K;exact Zf K
    | some ns =>
     rw[hb] at K
     dsimp only at K
     split at K
     ·exact Zf K
     ·rename_i hne
      obtain⟨vs,e1,r1⟩:=N.at hi ha
      obtain⟨its,rv,pl,hz⟩:=N.inv.list (SqL.of e1)
      refine Jv1 (d:=none) rfl (Jua _) (λ q=>absurd q hne) hh pl.isList (Jhl hb r1 rv) λ v h2 tk mi kk=>?_
      rcases mi with⟨e,_⟩|⟨_,t,ev⟩
      ·exact absurd e hne
      ·subst ev
       exact fin0 N K rfl _ _ (N.inv.kept (t':=tk) kk) ⟨t,rfl⟩
   | _=>exact Zf K
 | _=>exact Zf K
structure BasK (K:W.Frag) (C:Addr):Prop where
 sp:W.specialIn K (.ref C) "__getattribute__"=some (some (.builtin "type.__getattribute__"))
 rd:W.readsIn K C (.type "type")=true
 fc:∃fa,W.findIn K (.ref C) "__init__"=some (some (.ref fa))/\W.findCls K (.ref C) (.type "type") "__init__"=some (.val (.ref fa))/\W.keepIn K (.ref fa)=true
variable {k:Nat}{fa C:Addr}{fd:FuncData}{ps:List Str}{f:List IV->IH->Res IV}{dvs:List IV}{ds:List Value}{x:Str}{p pos apos:Pos}{e:Expr}{es:List Expr}{ma:A1}{pl:Sem Bool}
end
section
variable {prog:Program}{w:World}{A:Around}{E:Value->Shared->Prop}{s:Shared}{x y:Str}{t u:Tok}{Q:Value->Shared->Prop}
open Builtin Builtin.Str in
end
noncomputable def onTT (f:Str->Str->IH->Res IV):IV->List IV->IH->Res IV
 | .str x,[.str y],h=>f x y h
 | _,_,_=>.stuck
section
variable {ce:Str->Option Addr}{X:Cx}
noncomputable def intTI:IV->IH->Res IV
 | .str x,h=>if x.length<=640 then(match PySem.intText? x with
  | some n=>.ok (.int n) h
  | none=>.stuck) else .stuck
 | v,h=>intI v h
end
section
variable {prog:Program}{w:World}{A:Around}{E:Value->Shared->Prop}{s:Shared}
end
section
variable {ce:Str->Option Addr}{X:Cx}
end
section
variable {ce:Str->Option Addr}{X:Cx}{pins:List (Addr×Obj)}{σ:L2.St}{H:Hp}{s:Shared}{ι:List Addr}{σi:ISt}{h:IH}{n:Nat}{c:Str}{fs:List (Str×IV)}{a:Addr}
end
section
variable {P:Program}{w:World}{K:W.Frag}{mg:Str->Option Value}{base:Heap}{ce:Str->Option Addr}
end
section
variable {ce:Str->Option Addr}{X:Cx}
end
section
variable {prog:Program}{w:World}{A:Around}{E:Value->Shared->Prop}{s:Shared}
end
noncomputable def likeI (h:IH) (x y:IV):Bool:=(match x,y with
 | .ref i,.ref j=>decide (i=j)
 | _,_=>false)||decide (Jfd x y h=some true)
noncomputable def J06 (h:IH):List IV->List IV->Bool
 | [],[]=>true
 | x::xs,y::ys=>likeI h x y&&J06 h xs ys
 | _,_=>false
noncomputable def neIn (K:W.Frag) (C:Addr):Bool:=match K.lookup C with
 | some ⟨.type "type",_,.cls cd,sl⟩=>(match cd.mro,sl.toList with
  | [.ref C',.type "object"],[_,_,_,_,some (.builtin _),_]=>C'==C&&!cd.hasDel&&W.nsOkIn K cd.ns&&W.nsIn K cd.ns "__eq__"==some none&&W.nsIn K cd.ns "__ne__"==some none
  | _,_=>false)
 | _=>false
theorem neIn.cmp {K:W.Frag}{C x dx:Addr}{h:Heap}(q:neIn K C=true) (I:K.In h) (hx:h.get? x=some (W.instObj C dx)):h.CmpInst x C [.type "object"]:=by
 unfold neIn at q
 split at q
 case h_2=>cases q
 rename_i dd cd sl ho
 split at q
 case h_2=>cases q
 rename_i D k0 k1 k2 k3 n k5 em es
 simp only[Bool.and_eq_true,beq_iff_eq,Bool.not_eq_true'] at q
 obtain⟨⟨⟨⟨e1,e3⟩,e5⟩,e6⟩,e7⟩:=q
 subst e1
 obtain⟨nm,bs,mro,N,qn,hd,sn,sub,ab,col,del⟩:=cd
 have em:mro=[.ref D,.type "object"]:=em
 have e3:del=false:=e3
 subst em e3
 have es:sl=#[k0,k1,k2,k3,some (.builtin n),k5]:=by
  rw[<- Array.toArray_toList (xs:=sl),es]
 subst es
 exact⟨_,nm,qn,N,bs,hd,sn,sub,ab,col,dd,k0,k1,k2,k3,k5,n,_,hx,rfl,I _ _ ho,.of_isNs (W.isNs_of_in I e5),W.nsMap_none_of_in I e5 e6,W.nsMap_none_of_in I e5 e7⟩
section
variable {ce:Str->Option Addr}{X:Cx}{pins:List (Addr×Obj)}{s:Shared}{σ:L2.St}{H:Hp}{ι:List Addr}{σi:ISt}{h:IH}
end
section
variable {ce:Str->Option Addr}{X:Cx}
end
section
variable {X:Cx}
end
section
variable {ce:Str->Option Addr}{X:Cx}
end
noncomputable def Jat:Ty->Option Bool
 | .lst=>some true|.ins c=>if c=="Work" then some false else none|.exc _=>none|_=>some false
theorem Jsj {ce:Str->Option Addr}{K:W.Frag}(h:∀C,ce "Work"=some C->ClsI K C/\W.kitOne K (.ref C) (.type "list")=some false):IsOk ce K (.type "list") Jat:=by
 have O:IsOk ce K (.type "list") Ja1:=Joi
 refine⟨O.non,O.bl,O.int,O.str,O.lst,O.tup,O.dct,λ k C b e hk=>?_,(λ k C b e=>by cases e)⟩
 unfold Jat at e
 dsimp only at e
 split at e
 ·rename_i q
  cases beq_iff_eq.mp q
  cases e
  exact h C hk
 ·cases e
section
variable {ce:Str->Option Addr}{X:Cx}{x:Expr}{m:E1}{pos:Pos}
end
section
variable {prog:Program}{w:World}{A:Around}{E:Value->Shared->Prop}{hp:Heap}{ge:Array GenState}{dr:Drawn}{tk:Nat}{ox:OsState}
variable {nm qn:Str}{C Na:Addr}{bs bm bmB:List Value}{hdct:Bool}{sn:List Str}{sub:List Value}{ab:Bool}{col:Option Bool}{dd:Option Addr}{k0 k1 k2 k3 k5:Option Value}{B Bn newId nid initId inN:String}{bmN:List Value}
end
section
variable {X:Cx}{pins:List (Addr×Obj)}{σ:L2.St}{H:Hp}{s:Shared}{k:Nat}{f C:Addr}{fd:FuncData}{ps:List Str}{sp:Sp}{dvs:List V}{ds:List Value}{E:XK}{Q:VK}{us:List Value}{vs:List V}{W:Value->Shared->Prop}
end
section
variable {ce:Str->Option Addr}{X:Cx}{k:Nat}{fa C:Addr}{fd:FuncData}{ps:List Str}{f:List IV->IH->Res IV}{dvs:List IV}{ds:List Value}{x c:Str}{p pos:Pos}{e:Expr}{es:List Expr}{ma:A1}
end
section
variable {X:Cx}{pins:List (Addr×Obj)}{σ:L2.St}{H:Hp}{s:Shared}{f C e:Addr}{tv:Value}{d:Option Addr}{us:List Value}
end
section
variable {ce:Str->Option Addr}{X:Cx}{D:Addr}{x:Str}{p pos apos:Pos}{e:Expr}{es:List Expr}{ma:A1}{pl:Sem Bool}
end
section
variable {prog:Program}{w:World}{A:Around}{K:W.Frag}{C x:Addr}{s:Shared}{R:Result->Shared->Prop}{ox:Obj}{name:Str}{v:Value}
end
section
variable {prog:Program}{w:World}{A:Around}{K:W.Frag}{C x:Addr}{s:Shared}{ox:Obj}{name:Str}{v:Value}
end
section
variable {ce:Str->Option Addr}{X:Cx}{o value:Expr}{mo mv:E1}{pos pos':Pos}{fl:Str}
end
end L3
namespace L3
open PySem PySem.Spec PySem.Calls PyProof.Rows L2
section
variable {prog:Program}{w:World}{A:Around}{E:Value->Shared->Prop}{s:Shared}{K:W.Frag}{x D:Addr}{ox od:Obj}{f:Str}{v:Value}
end
section
variable {ce:Str->Option Addr}{X:Cx}{o:Expr}{mo:E1}{pos:Pos}{fl:Str}
end
section
variable {ce:Str->Option Addr}{X:Cx}
end
end L3
namespace L3
open PySem PySem.Spec PyProof.Rows L2
section
variable {ce:Str->Option Addr}{X:Cx}
end
section
variable {α β γ δ:Type}{ce:Str->Option Addr}{X:Cx}{R:REL α β}{R':REL γ δ}{a:Addr}{n:Nat}
variable {b c:Expr}{pos:Pos}{rest:List Expr}{ta tb:T1}{mb:E1}
end
section
variable {ce:Str->Option Addr}{X:Cx}
section
variable {A:Around}{R:Result->Shared->Prop}{Q:Value->Shared->Prop}{E:Value->Shared->Prop}{pins:List (Addr×Obj)}{σi:ISt}{σ:L2.St}{G:Hp->Prop}{fq:Addr}{mk:IV->IH->Res IV}{gt:IV->IV->Option Bool}{i n:Nat}{l I C:Addr}{kw:List (Str×Value)}
end
end
noncomputable abbrev ivl (l:List (Int×Tok)):List Value:=l.map λ p=>.int p.1 p.2
section
open PySem.AutoSeq1 (wpAny_loadPart')
open PySem.MeetsSeq PySem.MeetsSeq2 PySem.MeetsSeq3 PySem.SeqRoads2
end
section
variable {ce:Str->Option Addr}{X:Cx}
end
noncomputable def Jt7 (h:Heap) (wrs:List Addr) (C:Addr) (k:Nat) (v:Value) (ns:List Int):Prop:=∃a l,v=.ref a/\a∉wrs/\a≠C/\IsTup h a (ivl l).toArray/\l.map (·.1)=ns/\l.length=k
theorem Jt7.keeps {h h':Heap}{wrs:List Addr}{C:Addr}{k:Nat}{v:Value}{ns:List Int}(t:Jt7 h wrs C k v ns) (q:∀a o,a∉wrs->a≠C->h.get? a=some o->h'.get? a=some o):Jt7 h' wrs C k v ns:=by
 obtain⟨a,l,e,n1,n2,⟨o,ho,r⟩,e2,e3⟩:=t
 exact⟨a,l,e,n1,n2,⟨o,q a o n1 n2 ho,r⟩,e2,e3⟩
section
variable {pr:Program}{wd:World}{B:Around}{R:Result->Shared->Prop}{it:Addr}{fps wrs:List Addr}{n:Nat}{St:Nat->Heap->Prop}
end
section
variable {pr:Program}{wd:World}{B:Around}{E:Value->Shared->Prop}{z:Shared}{l:Addr}{us:List Value}{k:Nat}{f:Nat->List Int}{Q:Value->Shared->Prop}
end
section
variable {ce:Str->Option Addr}{X:Cx}
end
end L3
namespace L3
open PySem PySem.Spec PyProof.Rows L2 PySem.W
noncomputable def kRun {α:Type}(lt:Nat->Nat->Bool):KasT α->α
 | .ret a=>a
 | .ask i j k=>kRun lt (k (lt i j))
noncomputable def Asks {α:Type}(n:Nat) (P:α->Prop):KasT α->Prop
 | .ret a=>P a
 | .ask i j k=>i<n/\j<n/\∀b,Asks n P (k b)
theorem Asks.mono {α:Type}{n:Nat}{P P':α->Prop}(f:∀a,P a->P' a):∀{t:KasT α},Asks n P t->Asks n P' t
 | .ret _,h=>f _ h
 | .ask _ _ _,⟨h1,h2,h3⟩=>⟨h1,h2,λ b=>Asks.mono f (h3 b)⟩
theorem Asks.bind {α β:Type}{n:Nat}{P:α->Prop}{P':β->Prop}{f:α->KasT β}(hf:∀a,P a->Asks n P' (f a)):∀{t:KasT α},Asks n P t->Asks n P' (t.bind f)
 | .ret _,h=>hf _ h
 | .ask _ _ _,⟨h1,h2,h3⟩=>⟨h1,h2,λ b=>Asks.bind hf (h3 b)⟩
theorem Asks.run {α:Type}{n:Nat}{P:α->Prop}{lt:Nat->Nat->Bool}:∀{t:KasT α},Asks n P t->P (kRun lt t)
 | .ret _,h=>h
 | .ask i j k,⟨_,_,h⟩=>Asks.run (t:=k (lt i j)) (h (lt i j))
theorem Asks.wp {α:Type}{n:Nat}{P:α->Prop}{lt:Nat->Nat->Bool}{cmp:Nat->Nat->(Bool->Shared->Prop)->Shared->Prop}{Q:α->Shared->Prop}{s:Shared}(hc:∀i j,i<n->j<n->∀C:Bool->Shared->Prop,C (lt i j) s->cmp i j C s) :
  ∀{t:KasT α},Asks n P t->Q (kRun lt t) s->t.kasWp cmp Q s
 | .ret _,_,q=>q
 | .ask i j k,⟨h1,h2,h3⟩,q=>hc i j h1 h2 _ (Asks.wp (t:=k (lt i j)) hc (h3 (lt i j)) q)
noncomputable def Bd (n:Nat) (p:Array Nat):Prop:=0<n/\p.toList.Perm (List.range n)
theorem Bd.at {n:Nat}{p:Array Nat}(h:Bd n p) (i:Nat):p.getD i 0<n:=by
 by_cases hi:i<p.size
 ·rw[Array.getD_eq_getD_getElem?,Array.getElem?_eq_getElem hi]
  have:p[i]∈p.toList:=by simp
  exact List.mem_range.mp (h.2.mem_iff.mp this)
 ·rw[Array.getD_eq_getD_getElem?,Array.getElem?_eq_none (by omega)]
  exact h.1
theorem Jmn {n:Nat}{p:Array Nat}(h:Bd n p):∀f m,Asks n (λ _=>True) (kas_asc p f m)
 | 0,_=>trivial
 | f+1,m=>⟨h.at _,h.at _,λ b=>by
   dsimp only
   split
   ·trivial
   ·exact Jmn h f _⟩
theorem Jhe {n:Nat}{p:Array Nat}(h:Bd n p) (k:Nat):∀f l r,Asks n (λ _=>True) (kas_place p k f l r)
 | 0,_,_=>trivial
 | f+1,l,r=>by
  unfold kas_place
  split
  ·trivial
  ·exact⟨h.at _,h.at _,λ b=>by
    dsimp only
    split
    ·exact Jhe h k f _ _
    ·exact Jhe h k f _ _⟩
theorem Bd.perm {n:Nat}{p q:Array Nat}(h:Bd n p) (r:q.Perm p):Bd n q:=⟨h.1,(Array.perm_iff_toList_perm.mp r).trans h.2⟩
theorem Bd.rev {n:Nat}{p:Array Nat}(h:Bd n p) (i j:Nat):Bd n (kas_rev p i j):=h.perm (mirror_perm _ _ _ _)
theorem Jfp {n:Nat}:∀f (p:Array Nat) m q,Bd n p->Asks n (λ r=>Bd n r.1) (kas_desc f p m q)
 | 0,_,_,_,h=>h
 | f+1,p,m,q,h=>⟨h.at _,h.at _,λ b=>by
   dsimp only
   split
   ·split
    ·exact Jfp f _ _ _ (h.rev _ _)
    ·exact Jfp f _ _ _ h
   ·exact⟨h.at _,h.at _,λ d=>by
     dsimp only
     split
     ·exact h
     ·exact Jfp f _ _ _ h⟩⟩
theorem Jk5 {n:Nat}{p:Array Nat}(h:Bd n p) (m r:Nat):Asks n (λ r=>Bd n r.2) (kas_tail3 m r p):=by
 unfold kas_tail3
 refine Asks.bind (P:=λ _=>True) (λ x _=>?_) (Jmn (h.rev _ _) _ _)
 exact h.rev _ _
theorem Jfq {n:Nat}{p:Array Nat}(h:Bd n p) (m r:Nat):Asks n (λ r=>Bd n r.2) (kas_descPart m r p) :=
 Asks.bind (λ x hx=>by
  split
  ·exact Jk5 (hx.rev _ _) _ _
  ·exact Jk5 hx _ _) (Jfp _ _ _ _ h)
theorem Jr5 {n:Nat}{p:Array Nat}(h:Bd n p) (r:Nat):Asks n (λ r=>Bd n r.2) (kas_count r p) :=
 Asks.bind (λ m _=>by
  split
  ·exact h
  ·split
   ·exact⟨h.at _,h.at _,λ b=>by
     dsimp only
     split
     ·exact h
     ·exact Jfq (h.rev _ _) _ _⟩
   ·exact Jfq h _ _) (Jmn h _ _)
theorem Jq1 {n:Nat}:∀f (p:Array Nat) k,Bd n p->Asks n (Bd n) (kas_bin f p k)
 | 0,_,_,h=>h
 | f+1,p,k,h=>Asks.bind (λ l _=>Jq1 f _ _ (h.perm (bubble_perm _ _ _))) (Jhe h k _ _ _)
theorem Jjm {n:Nat}(hn:0<n):Asks n (Bd n) (kas_sort n) :=
 Asks.bind (λ r hr=>by
  split
  ·exact Jq1 _ _ _ hr
  ·exact hr) (Jr5 ⟨hn,List.Perm.refl _⟩ n)
section
variable {prog:Program}{w:World}{A:Around}{E:Value->Shared->Prop}{s:Shared}{b:Bool}{Q:Bool->Shared->Prop}
end
theorem Jyt {lt:Nat->Nat->Bool}(vs:List Value) (h:vs.length<2):(kRun lt (kas_sort vs.length)).toList.map (λ i=>vs.getD i Value.none)=vs:=by
 match vs,h with
 | [],_=>simp[kas_sort,kas_count,kas_asc,KasT.bind,kas_descPart,kas_desc,kas_tail3,kRun,kas_rev,mirror,Array.swapIfInBounds]
 | [v],_ =>
  have:=(Jjm (n:=1) (by decide)).run (lt:=lt)
  have e:(kRun lt (kas_sort 1)).toList=[0]:=List.perm_singleton.mp this.2
  show(kRun lt (kas_sort 1)).toList.map _=_
  rw[e]
  rfl
 | _::_::_,h=>simp at h;omega
section
variable {prog:Program}{w:World}{A:Around}{E:Value->Shared->Prop}{s:Shared}
end
theorem Jpp {vs:List V}{us:List Value}(r:Vals vs us):∀p:List Nat,(∀i∈p,i<vs.length)->Vals (p.map λ i=>vs.getD i .non) (p.map λ i=>us.getD i Value.none)
 | [],_=>.nil
 | i::p,h=>by
  have hi:=h i (List.mem_cons_self ..)
  obtain⟨u,eu,ru⟩:=r.get (List.getElem?_eq_getElem hi)
  refine .cons ?_ (Jpp r p λ j hj=>h j (List.mem_cons_of_mem _ hj))
  show L2.RelV (vs.getD i .non) (us.getD i Value.none)
  rw[List.getD_eq_getElem?_getD,List.getD_eq_getElem?_getD,List.getElem?_eq_getElem hi,eu]
  exact ru
theorem Jrm {K:W.Frag}{ι:List Addr}{H:Hp}{xs:List IV}{vs:List V}(r:RVs K ι H xs vs):∀p:List Nat,(∀i∈p,i<xs.length)->RVs K ι H (p.map λ i=>xs.getD i .non) (p.map λ i=>vs.getD i .non)
 | [],_=>rfl
 | i::p,h=>by
  have hi:=h i (List.mem_cons_self ..)
  obtain⟨v,ev,rv⟩:=r.get (List.getElem?_eq_getElem hi)
  refine⟨_,_,rfl,?_,Jrm r p λ j hj=>h j (List.mem_cons_of_mem _ hj)⟩
  show RV K ι H (xs.getD i .non) (vs.getD i .non)
  rw[List.getD_eq_getElem?_getD,List.getD_eq_getElem?_getD,List.getElem?_eq_getElem hi,ev]
  exact rv
section
variable {ce:Str->Option Addr}{X:Cx}
end
theorem Jbt {α β:Type}{lt:Nat->Nat->Bool}{f:α->KasT β}:∀(t:KasT α),kRun lt (t.bind f)=kRun lt (f (kRun lt t))
 | .ret _=>rfl
 | .ask i j k=>Jbt (k (lt i j))
section
variable {kf:Nat->Int}{p:Array Nat}{n i j:Nat}
noncomputable abbrev ltF (kf:Nat->Int) (i j:Nat):Bool:=decide (kf i<kf j)
noncomputable def kAt (kf:Nat->Int) (p:Array Nat) (i:Nat):Int:=kf (p.getD i 0)
noncomputable def Ris (kf:Nat->Int) (p:Array Nat) (n:Nat):Prop:=∀i j,i<=j->j<n->kAt kf p i<=kAt kf p j
noncomputable def Fal (kf:Nat->Int) (p:Array Nat) (n:Nat):Prop:=∀i j,i<=j->j<n->kAt kf p j<=kAt kf p i
theorem Joj {q:Array Nat}(h:p[i]?=q[j]?):kAt kf p i=kAt kf q j:=by
 unfold kAt
 rw[Array.getD_eq_getD_getElem?,Array.getD_eq_getD_getElem?,h]
theorem Jqa (hj:j<=p.size) (m:Nat):kAt kf (kas_rev p i j) m=if i<=m/\m<j then kAt kf p (i+j-1-m) else kAt kf p m:=by
 have e:=getElem?_mirror_all (i:=i) hj m
 split at e
 ·rename_i c;rw[if_pos c];exact Joj e
 ·rename_i c;rw[if_neg c];exact Joj e
theorem Jvq {k d:Nat}(hs:k<p.size) (hd:d<=k) (m:Nat):kAt kf (bubble p k d) m=if m=k-d then kAt kf p k else if k-d<m/\m<=k then kAt kf p (m-1) else kAt kf p m:=by
 have e:=getElem?_bubble hs d hd m
 split at e
 ·rename_i c;rw[if_pos c];exact Joj e
 ·rename_i c
  rw[if_neg c]
  split at e
  ·rename_i c;rw[if_pos c];exact Joj e
  ·rename_i c;rw[if_neg c];exact Joj e
theorem Jhm (hj:j<=p.size) (h:∀m,i<=m->m<j->kAt kf p m=kAt kf p (j-1)) (m:Nat):kAt kf (kas_rev p i j) m=kAt kf p m:=by
 rw[Jqa hj]
 split
 ·rw[h _ (by omega) (by omega),h m (by omega) (by omega)]
 ·rfl
theorem Ris.succ (h:Ris kf p n) (h1:1<=n) (q:kAt kf p (n-1)<=kAt kf p n):Ris kf p (n+1):=λ i j hij hj=>by
 by_cases e:j<n
 ·exact h i j hij e
 ·obtain rfl:j=n:=by omega
  by_cases e2:i=j
  ·subst e2;exact Int.le_refl _
  ·exact Int.le_trans (h i (j-1) (by omega) (by omega)) q
theorem Fal.succ (h:Fal kf p n) (h1:1<=n) (q:kAt kf p n<=kAt kf p (n-1)):Fal kf p (n+1):=λ i j hij hj=>by
 by_cases e:j<n
 ·exact h i j hij e
 ·obtain rfl:j=n:=by omega
  by_cases e2:i=j
  ·subst e2;exact Int.le_refl _
  ·exact Int.le_trans q (h i (j-1) (by omega) (by omega))
theorem Jqq:∀(f n:Nat),1<=n->Ris kf p n->n<=kRun (ltF kf) (kas_asc p f n)/\kRun (ltF kf) (kas_asc p f n)<=n+f/\Ris kf p (kRun (ltF kf) (kas_asc p f n))/\(kRun (ltF kf) (kas_asc p f n)=n+f∨kAt kf p (kRun (ltF kf) (kas_asc p f n))<kAt kf p (kRun (ltF kf) (kas_asc p f n)-1))
 | 0,n,_,h=>⟨Nat.le_refl _,Nat.le_refl _,h,.inl rfl⟩
 | f+1,n,h1,h=>by
  show n<=kRun (ltF kf) (if decide (kAt kf p n<kAt kf p (n-1))=true then .ret n else kas_asc p f (n+1))/\_
  have e:kRun (ltF kf) (kas_asc p (f+1) n)=kRun (ltF kf) (if decide (kAt kf p n<kAt kf p (n-1))=true then .ret n else kas_asc p f (n+1)):=rfl
  rw[e]
  split
  ·rename_i c
   exact⟨Nat.le_refl _,by show n<=_;omega,h,.inr (of_decide_eq_true c)⟩
  ·rename_i c
   have c:¬kAt kf p n<kAt kf p (n-1):=by simpa using c
   obtain⟨a,b,d,g⟩:=Jqq f (n+1) (by omega) (h.succ h1 (by omega))
   exact⟨by omega,by omega,d,g.imp (λ z=>by omega) id⟩
structure Dn (kf:Nat->Int) (p:Array Nat) (n q:Nat):Prop where
 f:Fal kf p n
 q1:q+1<=n
 e:∀m,n-(q+1)<=m->m<n->kAt kf p m=kAt kf p (n-1)
theorem Jjh {z:Nat}:∀(f:Nat) (p:Array Nat) (n q:Nat),p.size=z->n+f<=z->Dn kf p n q->∀r,kRun (ltF kf) (kas_desc f p n q)=r->r.1.size=z/\n<=r.2.1/\r.2.1<=n+f/\Dn kf r.1 r.2.1 r.2.2
 | 0,p,n,q,hz,hf,d,r,e=>by subst e;exact⟨hz,Nat.le_refl _,Nat.le_refl _,d⟩
 | f+1,p,n,q,hz,hf,d,r,e=>by
  have dq:=d.q1
  have e':kRun (ltF kf) (if decide (kAt kf p n<kAt kf p (n-1))=true then(if q>0 then kas_desc f (kas_rev p (n-(q+1)) n) (n+1) 0 else kas_desc f p (n+1) 0)
   else .ask (p.getD (n-1) 0) (p.getD n 0) λ d=>if d=true then .ret (p,n,q) else kas_desc f p (n+1) (q+1))=r:=e
  split at e'
  ·rename_i c
   have c:kAt kf p n<kAt kf p (n-1):=by simpa using c
   split at e'
   ·have same:=λ m=>Jhm (kf:=kf) (i:=n-(q+1)) (j:=n) (p:=p) (by omega) d.e m
    have d2:Dn kf (kas_rev p (n-(q+1)) n) (n+1) 0:=by
     refine⟨λ i j hij hj=>?_,by omega,λ m h1 h2=>by rw[show m=n+1-1 by omega]⟩
     rw[same,same]
     exact d.f.succ (by omega) (by omega) i j hij hj
    obtain⟨a1,a2,a3,a4⟩:=Jjh f _ (n+1) 0 ((mirror_size _ _ _ _).trans hz) (by omega) d2 r e'
    exact⟨a1,by omega,by omega,a4⟩
   ·have d2:Dn kf p (n+1) 0:=⟨d.f.succ (by omega) (by omega),by omega,λ m h1 h2=>by rw[show m=n+1-1 by omega]⟩
    obtain⟨a1,a2,a3,a4⟩:=Jjh f _ (n+1) 0 hz (by omega) d2 r e'
    exact⟨a1,by omega,by omega,a4⟩
  ·rename_i c
   have c:¬kAt kf p n<kAt kf p (n-1):=by simpa using c
   have e'':kRun (ltF kf) (if decide (kAt kf p (n-1)<kAt kf p n)=true then .ret (p,n,q) else kas_desc f p (n+1) (q+1))=r:=e'
   split at e''
   ·subst e''
    exact⟨hz,Nat.le_refl _,by show n<=_;omega,d⟩
   ·rename_i c2
    have c2:¬kAt kf p (n-1)<kAt kf p n:=by simpa using c2
    have d2:Dn kf p (n+1) (q+1):=by
     refine⟨d.f.succ (by omega) (by omega),by omega,λ m h1 h2=>?_⟩
     by_cases em:m=n
     ·subst em;rfl
     ·rw[d.e m (by omega) (by omega)]
      show _=kAt kf p n
      omega
    obtain⟨a1,a2,a3,a4⟩:=Jjh f _ (n+1) (q+1) hz (by omega) d2 r e''
    exact⟨a1,by omega,by omega,a4⟩
theorem Jo5 {m r:Nat}(h1:1<=m) (hm:m<=r) (hr:r<=p.size) (h:Fal kf p m):∀x,kRun (ltF kf) (kas_tail3 m r p)=x->x.2.size=p.size/\1<=x.1/\x.1<=r/\Ris kf x.2 x.1:=by
 intro x e
 have e:kRun (ltF kf) ((kas_asc (kas_rev p 0 m) (r-m) m).bind λ k=>.ret (k,kas_rev p 0 m))=x:=e
 rw[Jbt] at e
 have rs:Ris kf (kas_rev p 0 m) m:=λ i j hij hj=>by
  rw[Jqa (by omega),Jqa (by omega),if_pos (by omega),if_pos (by omega)]
  exact h _ _ (by omega) (by omega)
 obtain⟨a,b,c,_⟩:=Jqq (r-m) m h1 rs
 subst e
 exact⟨mirror_size _ _ _ _,by show 1<=kRun (ltF kf) (kas_asc (kas_rev p 0 m) (r-m) m);omega,by show kRun (ltF kf) (kas_asc (kas_rev p 0 m) (r-m) m)<=r;omega,c⟩
theorem Jiz {m r:Nat}(hm:m+1<=r) (hr:r<=p.size) (h:Fal kf p (m+1)):∀x,kRun (ltF kf) (kas_descPart m r p)=x->x.2.size=p.size/\1<=x.1/\x.1<=r/\Ris kf x.2 x.1:=by
 intro x e
 unfold kas_descPart at e
 rw[Jbt] at e
 obtain⟨a1,a2,a3,a4⟩:=Jjh (z:=p.size) (r-(m+1)) p (m+1) 0 rfl (by omega) ⟨h,by omega,λ k h1 h2=>by rw[show k=m+1-1 by omega]⟩ _ rfl
 generalize kRun (ltF kf) (kas_desc (r-(m+1)) p (m+1) 0)=y at a1 a2 a3 a4 e
 have q1:=a4.q1
 split at e
 ·have same:=λ k=>Jhm (kf:=kf) (i:=y.2.1-(y.2.2+1)) (j:=y.2.1) (p:=y.1) (by omega) a4.e k
  have:=Jo5 (m:=y.2.1) (r:=r) (p:=kas_rev y.1 (y.2.1-(y.2.2+1)) y.2.1) (by omega) (by omega) (by show r<=(mirror _ _ _ _).size;rw[mirror_size];omega) (λ i j hij hj=>by rw[same,same];exact a4.f i j hij hj) x e
  rw[show(kas_rev y.1 (y.2.1-(y.2.2+1)) y.2.1).size=y.1.size from mirror_size _ _ _ _,a1] at this
  exact this
 ·have:=Jo5 (m:=y.2.1) (r:=r) (p:=y.1) (by omega) (by omega) (by omega) a4.f x e
  rw[a1] at this
  exact this
theorem Jwd {r:Nat}(h1:1<=r) (hr:r<=p.size):∀x,kRun (ltF kf) (kas_count r p)=x->x.2.size=p.size/\1<=x.1/\x.1<=r/\Ris kf x.2 x.1:=by
 intro x e
 unfold kas_count at e
 rw[Jbt] at e
 obtain⟨a,b,c,d⟩:=Jqq (kf:=kf) (p:=p) (r-1) 1 (Nat.le_refl _) (λ i j hij hj=>by
  obtain rfl:j=0:=by omega
  obtain rfl:i=0:=by omega
  exact Int.le_refl _)
 generalize kRun (ltF kf) (kas_asc p (r-1) 1)=n at a b c d e
 split at e
 ·subst e;exact⟨rfl,a,by show n<=r;omega,c⟩
 ·rename_i hn
  have hn:n≠r:=by simpa using hn
  have dn:kAt kf p n<kAt kf p (n-1):=d.resolve_left (by omega)
  split at e
  ·have e':kRun (ltF kf) (if decide (kAt kf p 0<kAt kf p (n-1))=true then .ret (n,p) else kas_descPart n r (kas_rev p 0 n))=x:=e
   split at e'
   ·subst e';exact⟨rfl,a,by show n<=r;omega,c⟩
   ·rename_i cc
    have cc:¬kAt kf p 0<kAt kf p (n-1):=by simpa using cc
    have al:∀m,0<=m->m<n->kAt kf p m=kAt kf p (n-1):=λ m _ hm=>by
     have:=c 0 m (by omega) hm
     have:=c m (n-1) (by omega) (by omega)
     omega
    have same:=λ k=>Jhm (kf:=kf) (i:=0) (j:=n) (p:=p) (by omega) al k
    have:=Jiz (m:=n) (r:=r) (p:=kas_rev p 0 n) (by omega) (by show r<=(mirror _ _ _ _).size;rw[mirror_size];omega) (λ i j hij hj=>by
     rw[same,same]
     by_cases ej:j<n
     ·rw[al i (by omega) (by omega),al j (by omega) ej];exact Int.le_refl _
     ·obtain rfl:j=n:=by omega
      by_cases ei:i=j
      ·subst ei;exact Int.le_refl _
      ·rw[al i (by omega) (by omega)];omega) x e'
    rw[show(kas_rev p 0 n).size=p.size from mirror_size _ _ _ _] at this
    exact this
  ·obtain rfl:n=1:=by omega
   refine Jiz (m:=1) (r:=r) (p:=p) (by omega) hr (λ i j hij hj=>?_) x e
   have dn:kAt kf p 1<kAt kf p 0:=dn
   match i,j with
   | 0,0=>exact Int.le_refl _
   | 0,1=>omega
   | 1,1=>exact Int.le_refl _
   | _,j+2=>omega
   | i+2,_=>omega
   | 1,0=>omega
theorem Jkj {k:Nat}(h:Ris kf p k):∀(f l r:Nat),r<=k->l<=r->r-l<=f->(∀i,i<l->kAt kf p i<=kAt kf p k)->(∀i,r<=i->i<k->kAt kf p k<kAt kf p i)->∀x,kRun (ltF kf) (kas_place p k f l r)=x->x<=k/\(∀i,i<x->kAt kf p i<=kAt kf p k)/\∀i,x<=i->i<k->kAt kf p k<kAt kf p i
 | 0,l,r,hr,hl,hf,h1,h2,x,e=>by
  obtain rfl:l=r:=by omega
  subst e
  exact⟨hr,h1,h2⟩
 | f+1,l,r,hr,hl,hf,h1,h2,x,e=>by
  unfold kas_place at e
  split at e
  ·obtain rfl:l=r:=by omega
   subst e
   exact⟨hr,h1,h2⟩
  ·have e':kRun (ltF kf) (if decide (kAt kf p k<kAt kf p ((l+r)/2))=true then kas_place p k f l ((l+r)/2) else kas_place p k f ((l+r)/2+1) r)=x:=e
   split at e'
   ·rename_i c
    have c:kAt kf p k<kAt kf p ((l+r)/2):=by simpa using c
    exact Jkj h f _ _ (by omega) (by omega) (by omega) h1 (λ i a b=>Int.lt_of_lt_of_le c (h _ _ a b)) x e'
   ·rename_i c
    have c:¬kAt kf p k<kAt kf p ((l+r)/2):=by simpa using c
    exact Jkj h f _ _ hr (by omega) (by omega) (λ i a=>Int.le_trans (h i _ (show i<=(l+r)/2 by omega) (by omega)) (by omega)) h2 x e'
theorem Jwc:∀(f:Nat) (p:Array Nat) (k:Nat),k+f<=p.size->Ris kf p k->∀x,kRun (ltF kf) (kas_bin f p k)=x->Ris kf x (k+f)
 | 0,p,k,_,h,x,e=>by subst e;exact h
 | f+1,p,k,hk,h,x,e=>by
  unfold kas_bin at e
  rw[Jbt] at e
  obtain⟨a,b,c⟩:=Jkj h k 0 k (Nat.le_refl _) (Nat.zero_le _) (Nat.le_refl _) (λ i q=>by omega) (λ i q r=>by omega) _ rfl
  generalize kRun (ltF kf) (kas_place p k k 0 k)=l at a b c e
  have:=Jwc f (bubble p k (k-l)) (k+1) (by rw[bubble_size];omega) (λ i j hij hj=>by
   have ed:k-(k-l)=l:=by omega
   rw[Jvq (by omega) (by omega),Jvq (by omega) (by omega),ed]
   split
   ·rename_i ei
    split
    ·exact Int.le_refl _
    ·split
     ·exact Int.le_of_lt (c _ (by omega) (by omega))
     ·omega
   ·split
    ·rename_i n1 y
     split
     ·omega
     ·split
      ·exact h _ _ (by omega) (by omega)
      ·omega
    ·split
     ·exact b i (by omega)
     ·split
      ·exact h _ _ (by omega) (by omega)
      ·exact h _ _ hij (by omega)) x e
  rwa [show k+(f+1)=k+1+f by omega]
theorem Jye {n:Nat}(hn:0<n):Ris kf (kRun (ltF kf) (kas_sort n)) n:=by
 unfold kas_sort
 rw[Jbt]
 have hz:(List.toArray (List.range n)).size=n:=by simp
 obtain⟨a,b,c,d⟩:=Jwd (kf:=kf) (p:=List.toArray (List.range n)) (r:=n) (by omega) (by rw[hz];exact Nat.le_refl _) _ rfl
 generalize kRun (ltF kf) (kas_count n (List.toArray (List.range n)))=y at a b c d
 rw[hz] at a
 split
 ·have em:max y.1 1=y.1:=by omega
  rw[em]
  have:=Jwc (kf:=kf) (n-y.1) y.2 y.1 (by omega) d _ rfl
  rwa [show y.1+(n-y.1)=n by omega] at this
 ·obtain e:y.1=n:=by omega
  rw[<- e]
  exact d
end
noncomputable def ordK (ks:List Int) (n:Nat):List Nat:=(kRun (ltF λ i=>ks.getD i 0) (kas_sort n)).toList
theorem Jkg (ks:List Int){n:Nat}(hn:0<n):(ordK ks n).Perm (List.range n):=((Jjm hn).run (lt:=ltF λ i=>ks.getD i 0)).2
theorem Jjf (ks:List Int):ordK ks 0=[]:=by simp[ordK,kas_sort,kas_count,kas_asc,KasT.bind,kas_descPart,kas_desc,kas_tail3,kRun,kas_rev,mirror,Array.swapIfInBounds]
theorem Jm5 (ks:List Int){n:Nat}:∀i∈ordK ks n,i<n:=by
 intro i hi
 rcases Nat.eq_zero_or_pos n with e|e
 ·subst e
  rw[Jjf] at hi
  cases hi
 ·exact List.mem_range.mp ((Jkg ks e).mem_iff.mp hi)
theorem Jrj (ks:List Int) (n:Nat):(ordK ks n).length=n:=by
 rcases Nat.eq_zero_or_pos n with e|e
 ·subst e
  rw[Jjf]
  rfl
 ·rw[(Jkg ks e).length_eq,List.length_range]
theorem Jx9 (ks:List Int) (n:Nat):(ordK ks n).Pairwise λ i j=>ks.getD i 0<=ks.getD j 0:=by
 rcases Nat.eq_zero_or_pos n with e|e
 ·subst e
  rw[Jjf]
  exact .nil
 ·have r:=Jye (kf:=λ i=>ks.getD i 0) e
  have l:=Jrj ks n
  rw[List.pairwise_iff_getElem]
  intro i j hi hj hij
  have:=r i j (by omega) (by omega)
  have g:∀(m:Nat) (hm:m<(ordK ks n).length),(kRun (ltF λ i=>ks.getD i 0) (kas_sort n)).getD m 0=(ordK ks n)[m]:=λ m hm=>by
   have hm':m<(kRun (ltF λ i=>ks.getD i 0) (kas_sort n)).size:=by rw[<- Array.length_toList];exact hm
   rw[Array.getD_eq_getD_getElem?,Array.getElem?_eq_getElem hm']
   rfl
  unfold kAt at this
  rw[g i hi,g j hj] at this
  exact this
theorem Jvi {X:Cx}{pins:List (Addr×Obj)}{σ:L2.St}{H:Hp}{s:Shared}{h':Heap}{t':Nat}{it:Addr}{o:HO}(I:Inv X pins σ H s) (k:∀b u,b≠it->s.heap.get? b=some u->h'.get? b=some u) (F:FpOk X pins H it) (new:Jas X.prog X.w (upd H it o) h' it o) :
  Inv X pins σ (upd H it o) { s with heap:=h',toks:=t' }:=by
 obtain⟨hn,hL,_,h1,h2,h3⟩:=F
 have nit:∀b u,H b=some u->b≠it:=λ b u e z=>by rw[z,hn] at e;cases e
 refine I.step (g':=s.gens) (d':=s.drawn) (ch:=[it]) (λ b hb=>?_) (λ b o _ _ hc e _=>k b o (λ z=>hc (by simp[z])) e) (λ b o _ _ hc e _=>⟨o.slots,k b o (λ z=>hc (by simp[z])) e⟩) (λ b o hc _ n=>by rw[Jg (λ z=>hc (by simp[z]))];exact n)
  (λ b o hc e=>⟨o,k b o (λ z=>hc (by simp[z])) e⟩) (λ b _ e=>by rw[Jg (nit b _ e)];exact e) (λ b _ _ e=>by rw[Jg (nit b _ e)];exact e) (λ b ps e=>⟨#[],by rw[Jg (nit b _ e),e];simp⟩) (λ m hm=>?_) (λ b u e=>?_) I.bare
 ·have e:b=it:=by simpa using hb
  subst e
  exact⟨h1,hL,h2,h3⟩
 ·obtain⟨o,es,ep,ho,r⟩:=hm
  exact⟨o,es,ep,k _ o (Ne.symm hL) ho,r⟩
 ·by_cases hb:b=it
  ·subst hb
   rw[Jf] at e
   cases e
   exact new
  ·rw[Jg hb] at e
   refine(I.hok b u e).stay (λ c v hc q=>k c v ?_ q) (λ c q=>by rw[Jg (nit c _ q)];exact q) λ c _ q=>by rw[Jg (nit c _ q)];exact q
   rcases hc with z|z
   ·rw[z];exact hb
   ·exact nit c _ z
noncomputable def Jso (mk:IV->IH->Res IV):List IV->List Int->IH->Res (List Int)
 | [],ks,h=>.ok ks h
 | y::r,ks,h=>(mk y h).nx.bind λ k h'=>match k with
  | .int n=>Jso mk r (ks++[n]) h'
  | _=>.stuck
noncomputable def Jtg (ys:List IV) (ks:List Int) (h:IH):Res IV:=.ok (.ref h.length) (h++[.lst ((ordK ks ys.length).map λ i=>ys.getD i .non)])
noncomputable def Jlg (mk:IV->IH->Res IV) (i:Nat) (h:IH):Res IV:=match h[i]? with
 | some (.lst ys)=>if ys.length<64 then(Jso mk ys [] h).bind (Jtg ys) else .stuck
 | _=>.stuck
section
variable {ce:Str->Option Addr}{X:Cx}
section
variable {A:Around}{Q:Value->Shared->Prop}{E:Value->Shared->Prop}{P:PySem.Fin->Shared->Prop}{pins:List (Addr×Obj)}{σi:ISt}{σ:L2.St}{G:Hp->Prop}{fq D kS:Addr}{mk:IV->IH->Res IV}{ys:List IV}{ws:List V}{its:List Value}{ks:List Int}{e e1:Nat}{H:Hp}{ι:List Addr}{h:IH}{s:Shared}
theorem Jru {kA:Array Value}{st:SortSt}(N:Now ce X pins ι σi h σ H s) (fD:FpOk X pins H D) (fK:FpOk X pins H kS) (hDK:D≠kS) (gD:s.heap.get? D=some (seqObj "list" #[] e1)) (gK:s.heap.get? kS=some (seqObj "list" kA e)) (hz:kA.size<64)
  (rv:Vals ws its) (r3:RVs X.K ι H ys ws) (h64:ys.length<64) (hout:(arrOf st).map (·.2)=List.toArray ((ordK ks ys.length).map λ i=>its.getD i Value.none)) (hf:failedOf st=none) (hP:∀s',Q (.ref D) s'->P (.done (.ret .none)) s') (K:Kont ce X RU pins ι σi σ H (Jtg ys ks h) Q E) :
  wpAny (model X.prog X.w) A (ksk_tail D false e1 (.ref kS) st) P E s:=by
 have lo:=Jrj ks ys.length
 have lt:=Jm5 ks (n:=ys.length)
 have l1:=r3.length
 have l2:=rv.length
 have s1:∀b u,b≠kS->s.heap.get? b=some u->(s.heap.update kS (Obj.mapSeq λ _=>(#[]:Array Value))).get? b=some u:=λ b u nb q=>(Heap.get?_update_other _ _ (Ne.symm nb)).trans q
 have gD1:=s1 D _ hDK gD
 have N1:=N.turned (h':=s.heap.update kS (Obj.mapSeq λ _=>(#[]:Array Value))) (t':=s.toks) fK s1
 have hsz:(List.toArray ((ordK ks ys.length).map λ i=>its.getD i Value.none)).size=ys.length:=by rw[List.size_toArray,List.length_map,lo]
 unfold ksk_tail
 try dsimp only
 rw[hout]
 refine wpAny_bind (listUpdate_at gK rfl ?_ (by rw[sizeLine_eq];omega) (Nat.zero_le _))
 refine wpAny_bind (wpAny_letGo ?_)
 refine wpAny_bind (seqEpoch_at gD1 rfl ?_)
 refine wpAny_bind (listUpdate_at gD1 rfl ?_ (Nat.zero_le _) (by simp only[Bool.false_eq_true,if_false];rw[hsz,sizeLine_eq];omega))
 rw[hf]
 simp only[bne_self_eq_false,Bool.false_eq_true,if_false]
 refine wpAny_pure (hP _ ?_)
 obtain⟨c2,hc2⟩:∃c2,((s.heap.update kS (Obj.mapSeq λ _=>(#[]:Array Value))).update D (Obj.mapSeq λ _=>List.toArray ((ordK ks ys.length).map λ i=>its.getD i Value.none))).get? D=some (seqObj "list" (List.toArray ((ordK ks ys.length).map λ i=>its.getD i Value.none)) c2):=⟨_,get?_update_seq gD1 λ _=>List.toArray ((ordK ks ys.length).map λ i=>its.getD i Value.none)⟩
 have hl:((ordK ks ys.length).map λ i=>ws.getD i V.non).length<=sizeLine:=by rw[List.length_map,lo,sizeLine_eq];omega
 have I':=Jvi N1.inv (o:=.lst ((ordK ks ys.length).map λ i=>ws.getD i V.non)) (h':=(s.heap.update kS (Obj.mapSeq λ _=>(#[]:Array Value))).update D (Obj.mapSeq λ _=>List.toArray ((ordK ks ys.length).map λ i=>its.getD i Value.none))) (t':=s.toks) (λ b u nb q=>(Heap.get?_update_other _ _ (Ne.symm nb)).trans q) fD
  ⟨hl,(ordK ks ys.length).map λ i=>its.getD i Value.none,c2,Jpp rv _ (λ i hi=>by have:=lt i hi;omega),hc2⟩
 exact finA N1 K D fD.1 ⟨_,Jf,RVs.new fD.1 (Jrm r3 _ lt)⟩ _ _ I' rfl
theorem J14 {kA:Array Value}(N:Now ce X pins ι σi h σ H s) (fD:FpOk X pins H D) (fK:FpOk X pins H kS) (hDK:D≠kS) (gD:s.heap.get? D=some (seqObj "list" #[] e1)) (gK:s.heap.get? kS=some (seqObj "list" kA e)) (hk:IntsAre kA.toList ks) (lk:ks.length=ys.length)
  (rv:Vals ws its) (r3:RVs X.K ι H ys ws) (h64:ys.length<64) (hP:∀s',Q (.ref D) s'->P (.done (.ret .none)) s') (K:Kont ce X RU pins ι σi σ H (Jtg ys ks h) Q E) :
  wpAny (model X.prog X.w) A (ksk_end D false its.toArray e1 (.ref kS) kA) P E s:=by
 have l1:=r3.length
 have l2:=rv.length
 have l3:=hk.length
 have l4:kA.toList.length=its.length:=by omega
 have hz:kA.size=its.length:=by rw[<- Array.length_toList];exact l4
 have ea:kA.toList.toArray=kA:=Array.toArray_toList
 unfold ksk_end
 simp only[Bool.false_eq_true,if_false]
 by_cases h2:its.toArray.size<2
 ·rw[if_pos h2,if_pos h2]
  refine wpAny_bind (wpAny_pure ?_)
  rw[StateT.run_pure]
  refine wpAny_bind (wpAny_pure ?_)
  try dsimp only
  refine Jru N fD fK hDK gD gK (by omega) rv r3 h64 ?_ rfl hP K
  have e1:(arrOf (SortSt.mk' general' (kA.zip its.toArray) #[] 7 none)).map (·.2)=its.toArray:=by
   apply Array.toList_inj.mp
   show((kA.zip its.toArray).map (·.2)).toList=_
   rw[Array.toList_map,ksk_zip]
   exact List.map_snd_zip (by omega)
  rw[e1]
  have:=Jyt (lt:=ltF λ i=>ks.getD i 0) its (by simpa using h2)
  rw[show ys.length=its.length by omega]
  exact congrArg List.toArray this.symm
 ·rw[if_neg h2,if_neg h2]
  rw[List.size_toArray] at h2
  rw[ksk_kind hk (by omega)]
  refine wpAny_bind (wpAny_pure ?_)
  have sp:=Jjm (n:=its.length) (by omega)
  rw[<- ea]
  refine wpAny_bind (wpAny_mono (kat_run (ks:=kA.toList) (vs:=its) (Q:=λ st' s'=>s'=s/\failedOf st'=none/\arrOf st'=(kRun (ltF λ i=>ks.getD i 0) (kas_sort its.length)).map (kas_item (kA.toList.toArray.zip its.toArray))) (G:=λ p s'=>s'=s/\p=kRun (ltF λ i=>ks.getD i 0) (kas_sort its.length)) l4 (by omega) (by omega)
   (λ p st' s' a1 a2 a3 a4=>⟨a4.1,a3,a4.2▸a2⟩) (Asks.wp (n:=its.length) (lt:=ltF λ i=>ks.getD i 0) (λ i j hi hj C hC=>?_) sp ⟨rfl,rfl⟩)) ?_ λ _ _ e=>e)
  ·unfold kas_ask
   obtain⟨t1,e1⟩:=hk.get i _ (List.getElem?_eq_getElem (show i<ks.length by omega))
   obtain⟨t2,e2⟩:=hk.get j _ (List.getElem?_eq_getElem (show j<ks.length by omega))
   rw[List.getD_eq_getElem?_getD,List.getD_eq_getElem?_getD,e1,e2]
   refine kat_lt_int ?_
   have hC:C (decide (ks.getD i 0<ks.getD j 0)) s:=hC
   rw[List.getD_eq_getElem?_getD,List.getD_eq_getElem?_getD,List.getElem?_eq_getElem (show i<ks.length by omega),List.getElem?_eq_getElem (show j<ks.length by omega)] at hC
   exact hC
  ·rintro⟨⟨⟩,st'⟩ s' ⟨rfl,hfl,har⟩
   try dsimp only
   refine Jru N fD fK hDK gD gK (by omega) rv r3 h64 ?_ hfl hP K
   rw[kat_snds (ks:=kA.toList) (vs:=its) l4 har,show ys.length=its.length by omega]
   rfl
theorem Jyw (ko:J2o ce X A σi σ pins G (.ref fq) mk) (hG:∀H H',Ext H H'->G H->G H') (N:Now ce X pins ι σi h σ H s) (g:G H) (fD:FpOk X pins H D) (fK:FpOk X pins H kS) (hDK:D≠kS) (gD:s.heap.get? D=some (seqObj "list" #[] e1)) (gK:s.heap.get? kS=some (seqObj "list" #[] 0))
  (rv:Vals ws its) (r3:RVs X.K ι H ys ws) (h64:ys.length<64) (hP:∀s',Q (.ref D) s'->P (.done (.ret .none)) s') (K:Kont ce X RU pins ι σi σ H ((Jso mk ys [] h).bind (Jtg ys)) Q E) :
  wpAny (model X.prog X.w) A (ksk_rest D (.ref fq) false its.toArray e1 (.ref kS)) P E s:=by
 have l1:=r3.length
 have l2:=rv.length
 unfold ksk_rest
 refine wpAny_bind (wpAny_rule ?_)
 rw[List.forIn_toArray]
 refine wpAny_bind (ksk_fold (λ j s'=>∃H' ι' h' ks kA e,Now ce X pins ι' σi h' σ H' s'/\G H'/\Nxt ι H ι' H'/\s'.heap.get? D=some (seqObj "list" #[] e1)/\s'.heap.get? kS=some (seqObj "list" kA e)/\IntsAre kA.toList ks/\ks.length=j/\H' D=none/\H' kS=none/\Kont ce X RU pins ι' σi σ H' ((Jso mk (ys.drop j) ks h').bind (Jtg ys)) Q E) its 0 s
  ⟨H,ι,h,[],#[],0,N,g,.refl,gD,gK,.nil,rfl,fD.1,fK.1,K⟩ ?step ?done)
 case step =>
  rintro j x s' hx ⟨H',ι',h',ks,kA,e,N',g',n',gD',gK',hk,hlj,hD',hK',K'⟩
  simp only[Nat.zero_add] at hlj K' ⊢
  have fD':=FpOk.at fD hD'
  have fK':=FpOk.at fK hK'
  obtain⟨xv,ex,rx⟩:=J2d rv hx
  obtain⟨yv,eyv,qy⟩:=(r3.mono n').get' ex
  have hj:j<ys.length:=(List.getElem?_eq_some_iff.mp eyv).1
  have ed:ys.drop j=yv::ys.drop (j+1):=by
   rw[List.drop_eq_getElem_cons hj,(List.getElem?_eq_some_iff.mp eyv).2]
  rw[ed] at K'
  have K':Kont ce X RU pins ι' σi σ H' (((mk yv h').nx.bind λ k h''=>match k with|.int n=>Jso mk (ys.drop (j+1)) (ks++[n]) h''|_=>.stuck).bind (Jtg ys)) Q E:=K'
  rw[Res.bind_bind] at K'
  have hz:kA.size=j:=by rw[<- Array.length_toList,hk.length,hlj]
  have N2:=(N'.pinO gK' fK' λ v z=>by cases z).pinO gD' (FpOk.more (p:=(kS,seqObj "list" kA e)) fD' (Ne.symm hDK)) λ v z=>by cases z
  rw[List.append_assoc] at N2
  refine wpAny_bind (wpAny_attempt (nof (ko _ _ _ _ _ yv x _ N2 g' ⟨xv,rx,qy⟩ (J3z K' λ k h3 u s3 H3 ι3 N3 n3 ru K3=>?_))))
  have pK:=N3.inv.pin (kS,seqObj "list" kA e) (List.mem_append_right _ (List.mem_append_right _ (by simp)))
  have pD:=N3.inv.pin (D,seqObj "list" #[] e1) (List.mem_append_right _ (List.mem_append_right _ (by simp)))
  have N4:=N3.pins
  cases k with
  | int n =>
   obtain⟨v,rv',ev⟩:=ru
   have ev:v=.int n:=ev
   subst ev
   obtain⟨t,rfl⟩:=rv'
   try dsimp only
   refine wpAny_bind (listUpdate_at pK.1 rfl ?_ (by rw[sizeLine_eq];omega) (Nat.le_trans (Nat.le_of_eq (Array.size_push ..)) (by rw[sizeLine_eq];omega)))
   obtain⟨c2,hc2⟩:∃c2,(s3.heap.update kS (Obj.mapSeq (·.push (.int n t)))).get? kS=some (seqObj "list" (kA.push (.int n t)) c2):=⟨_,get?_update_seq pK.1 (·.push (.int n t))⟩
   have s1:∀b u,b≠kS->s3.heap.get? b=some u->(s3.heap.update kS (Obj.mapSeq (·.push (.int n t)))).get? b=some u:=λ b u nb q=>(Heap.get?_update_other _ _ (Ne.symm nb)).trans q
   have N5:=N4.turned (h':=s3.heap.update kS (Obj.mapSeq (·.push (.int n t)))) (t':=s3.toks) (FpOk.at fK pK.2.1) s1
   refine wpAny_pure ⟨rfl,H3,ι3,h3,ks++[n],kA.push (.int n t),c2,N5,hG _ _ n3.ext g',n'.trans n3,s1 D _ hDK pD.1,hc2,by rw[Array.toList_push];exact ksk_snoc hk,by simp[hlj],pD.2.1,pK.2.1,K3⟩
  | _=>exact Zf K3
 case done =>
  rintro s' ⟨H',ι',h',ks,kA,e,N',g',n',gD',gK',hk,hlj,hD',hK',K'⟩
  rw[Nat.zero_add] at hlj K'
  rw[List.drop_of_length_le (by omega)] at K'
  try dsimp only
  refine wpAny_bind (listItems_at gK' rfl ?_)
  exact J14 N' (FpOk.at fD hD') (FpOk.at fK hK') hDK gD' gK' hk (by omega) rv (r3.mono n') h64 hP K'
theorem Jyv {i:Nat}{l:Addr}(ko:J2o ce X A.in1.in1 σi σ pins G (.ref fq) mk) (hG:∀H H',Ext H H'->G H->G H') (N:Now ce X pins ι σi h σ H s) (g:G H) (hi:ι[i]?=some l)
  (K:Kont ce X RU pins ι σi σ H (Jlg mk i h) Q E):wpAny (model X.prog X.w) A (call (.builtin "sorted") [.ref l] [(Str.ofString "key",.ref fq)]) Q E s:=by
 unfold Jlg at K
 cases eh:h[i]? with
 | none=>rw[eh] at K;exact Zf K
 | some ob =>
  rw[eh] at K
  cases ob with
  | lst ys =>
   dsimp only at K
   split at K
   ·rename_i h64
    obtain⟨ws,e1,r3⟩:=N.at eh hi
    obtain⟨its,rv2,pl,_⟩:=N.inv.list (SqL.of e1)
    have hl:=pl.isList
    have l1:=r3.length
    have l2:=rv2.length
    refine call_function_entry_kw kind_sorted plain_sorted entry_sorted (ksk_s1 _ _) ?_
    unfold Builtin.«sorted»
    refine wpAny_bind (m:=checkCount "sorted" 1 1 _) (wpAny_pure ?_)
    refine wpAny_bind (collect_list hl ?_ (by rw[sizeLine_eq];omega))
    refine wpAny_bind (wpAny_newList ?_ (by rw[sizeLine_eq];omega))
    have hsz:((s.heap.push (seqObj "list" #[] 0)).update s.heap.objs.size (Obj.mapSeq (· ++its.toArray))).objs.size=s.heap.objs.size+1:=by rw[Heap.size_update,size_push']
    have hoL:(((s.heap.push (seqObj "list" #[] 0)).update s.heap.objs.size (Obj.mapSeq (· ++its.toArray))).push (seqObj "list" its.toArray 0)).get? (s.heap.objs.size+1)=some (seqObj "list" its.toArray 0):=by rw[<- hsz];exact Heap.get?_push_size _ rfl
    have keep:∀b o,s.heap.get? b=some o->(((s.heap.push (seqObj "list" #[] 0)).update s.heap.objs.size (Obj.mapSeq (· ++its.toArray))).push (seqObj "list" its.toArray 0)).get? b=some o:=λ b o q=>by
     have hlt:b<s.heap.objs.size:=Heap.lt_size q
     rw[Heap.get?_push_ne _ _ _ (by rw[hsz];exact Nat.ne_of_lt (Nat.lt_succ_of_lt hlt)),Heap.get?_update_ne _ _ _ _ (Nat.ne_of_lt hlt),Heap.get?_push_ne _ _ _ (Nat.ne_of_lt hlt)]
     exact q
    have sz3:(((s.heap.push (seqObj "list" #[] 0)).update s.heap.objs.size (Obj.mapSeq (· ++its.toArray))).push (seqObj "list" its.toArray 0)).objs.size=s.heap.objs.size+2:=by rw[size_push',hsz]
    show wpAny _ _ _ _ _ { s with heap:=((s.heap.push (seqObj "list" #[] 0)).update s.heap.objs.size (Obj.mapSeq (· ++its.toArray))).push (seqObj "list" its.toArray 0) }
    rw[hsz]
    generalize ((s.heap.push (seqObj "list" #[] 0)).update s.heap.objs.size (Obj.mapSeq (· ++its.toArray))).push (seqObj "list" its.toArray 0)=h3 at hoL keep sz3
    refine wpAny_bind (wpAny_holding (wpAny_call_entry_kw slot_list_sort ⟨_,hoL,rfl⟩ entry_list_sort ?body (ksk_l1 _ _)))
    case body =>
     show wpAny (model X.prog X.w) A.in1.in1 (Builtin.«list.sort» ⟨[.ref (s.heap.objs.size+1)],[(Str.ofString "key",.ref fq)]⟩) _ _ _
     rw[ksk_t1]
     unfold ksk_tree
     refine wpAny_bind (listItems_at hoL rfl ?_)
     refine wpAny_bind (listUpdate_at hoL rfl ?_ (by rw[List.size_toArray,sizeLine_eq];omega) (Nat.zero_le _))
     obtain⟨ep,ho1⟩:∃ep,(h3.update (s.heap.objs.size+1) (Obj.mapSeq λ _=>(#[]:Array Value))).get? (s.heap.objs.size+1)=some (seqObj "list" #[] ep):=⟨_,get?_update_seq hoL λ _=>#[]⟩
     refine wpAny_bind (seqEpoch_at ho1 rfl ?_)
     refine wpAny_bind (wpAny_newTuple ?_ (by show its.length<=_;rw[sizeLine_eq];omega))
     refine wpAny_bind (wpAny_newList ?_ (Nat.zero_le _))
     refine wpAny_holding ?_
     have sz5:((h3.update (s.heap.objs.size+1) (Obj.mapSeq λ _=>(#[]:Array Value))).push (seqObj "tuple" its.toArray 0)).objs.size=s.heap.objs.size+3:=by rw[size_push',Heap.size_update,sz3]
     obtain⟨kS,hkS⟩:∃kS,kS=((h3.update (s.heap.objs.size+1) (Obj.mapSeq λ _=>(#[]:Array Value))).push (seqObj "tuple" its.toArray 0)).objs.size:=⟨_,rfl⟩
     have gK:(((h3.update (s.heap.objs.size+1) (Obj.mapSeq λ _=>(#[]:Array Value))).push (seqObj "tuple" its.toArray 0)).push (seqObj "list" #[] 0)).get? kS=some (seqObj "list" #[] 0):=by rw[hkS];exact Heap.get?_push_size _ rfl
     have gD:(((h3.update (s.heap.objs.size+1) (Obj.mapSeq λ _=>(#[]:Array Value))).push (seqObj "tuple" its.toArray 0)).push (seqObj "list" #[] 0)).get? (s.heap.objs.size+1)=some (seqObj "list" #[] ep):=Heap.get?_push_of_some _ (Heap.get?_push_of_some _ ho1)
     have old:∀b o,s.heap.get? b=some o->(((h3.update (s.heap.objs.size+1) (Obj.mapSeq λ _=>(#[]:Array Value))).push (seqObj "tuple" its.toArray 0)).push (seqObj "list" #[] 0)).get? b=some o:=λ b o q=>Heap.get?_push_of_some _ (Heap.get?_push_of_some _ ((Heap.get?_update_other _ _ (Nat.ne_of_gt (Nat.lt_succ_of_lt (Heap.lt_size q)))).trans (keep b o q)))
     rw[<- hkS]
     rw[sz5] at hkS
     have fD:FpOk X pins H (s.heap.objs.size+1):=N.inv.fpOk (Nat.le_succ _) (N.inv.hok.fresh (Nat.le_succ _))
     have le:s.heap.objs.size<=kS:=by rw[hkS];exact Nat.le_add_right _ _
     have fK:FpOk X pins H kS:=N.inv.fpOk le (N.inv.hok.fresh le)
     exact Jyw ko hG (N.keptH (t':=s.toks) old) g fD fK (by rw[hkS];exact Nat.ne_of_lt (Nat.add_lt_add_left (by decide) _)) gD gK rv2 r3 h64 (λ s' q=>⟨_,rfl,wpAny_pure ⟨_,rfl,q⟩⟩) K
   ·exact Zf K
  | _=>exact Zf K
end
noncomputable def Jk8 (q:Str) (j:Nat) (js:List Nat) (aa:A1) (m:E1):E1:=λ σ h=>(aa σ h).bind λ xs h1=>match h1[j]? with
 | some (.tab q')=>if q'=q then(match xs with
  | [.ref i]=>Jlg (λ v h'=>m (some v::js.map λ j=>(σ[j]?).join) h') i h1
  | _=>.stuck) else .stuck
 | _=>.stuck
theorem J0z {k:Nat}{q x:Str}{caps:List Str}{js:List Nat}{j:Nat}{a body:Expr}{aa:A1}{m:E1}{params:Arguments}{scope:Scope}{p lp pos kp:Pos}(hg:Gl X "sorted") (hm:X.mg "sorted"=none) (ha:PAi ce X [a] aa) (hs:starEach [a] X.env=[(false,eval a X.env)])
  (hr:Room (k+3) X.A) (hcd:W.codeIn X.K X.env.code q=true) (hq:X.env.qual=q++".<locals>.") (B:Jjj X.mg X.base) (hx:Jiu params=some x) (S:LamSc X.N X.env.scope.names x caps js scope)
  (hb:∀f cd s' H',PEi ce (cxL X X.A.in1.in1 (x::caps) q scope f cd s' H') body m) :
  PEi ce X (.Call (.Name "sorted" p) [a] [⟨some "key",.Lambda params body scope lp,kp⟩] pos) (Jk8 q j js aa m):=λ pins s σ H ι σi h Q E N K=>by
 have hcl:closureFor scope X.env=pure (clOf X.env.cells scope.names []):=Jgq λ y hm hk=>N.inv.ok.has y.1 (.inl (S.free y hm hk))
 refine wpAny_Call_Name_kw (Jc2 N.inv hg hm rfl ?_)
 refine callWith_kw ?_ (by rw[hs];rfl) (by rw[hs];rfl) rfl rfl
 refine(ha pos).run N K λ xs h1 us s1 H1 ι1 N1 n1 r1 K1=>?_
 cases ej:h1[j]? with
 | none=>rw[ej] at K1;exact Zf K1
 | some ob =>
  rw[ej] at K1
  cases ob with
  | tab q' =>
   dsimp only at K1
   split at K1
   ·rename_i eq
    subst eq
    refine PyProof.Rows.evalAll_cons (wpAny_bind (Jx0 N1 ej hcd hq (Jxz hx) hcl B λ f c pm ctv s2 H2 N2 n2 LC=>wpAny_bind (wpAny_standAt (wpAny_pure ?_))))
    refine PyProof.Rows.evalAll_nil ?_
    have K3:=Kont.more (pl:=[(f,lamO q' params body scope (clOf X.env.cells scope.names []) pm ctv c)]) (Kont.mono K1 n2)
    obtain⟨vs,rv,qs⟩:=r1.mono n2
    match xs,K3 with
    | [.ref i],K3 =>
     obtain⟨w,rfl,ad,rfl,hav⟩:=qs.one_of
     obtain⟨u,rfl,ru⟩:=Jk3 rv
     cases ru
     refine Jyv (G:=λ H=>Jbg H q' (.ref c)) (mk:=λ v h'=>m (some v::js.map λ j=>(σi[j]?).join) h') ?_ (λ H H' e g=>g.mono e.frzs) N2 LC hav ?_
     ·intro pl s4 H4 ι4 h4 v u Q4 N4 g4 ru4 K4
      have pf:=N4.inv.pin (f,lamO q' params body scope (clOf X.env.cells scope.names []) pm ctv c) (List.mem_append_right _ (List.mem_append_left _ (List.mem_append_right _ (List.mem_singleton.mpr rfl))))
      exact J03 (A:=X.A.in1.in1) N.inv.ok.frames hr.in1.in1 N4 pf.1 g4 hx S (hb f (.ref c)) ru4 K4
     ·exact K3
    | [],K3=>exact Zf K3
    | [.non],K3=>exact Zf K3
    | [.bl _],K3=>exact Zf K3
    | [.int _],K3=>exact Zf K3
    | [.str _],K3=>exact Zf K3
    | [.tup _],K3=>exact Zf K3
    | [.rol _],K3=>exact Zf K3
    | x::_::_,K3=>cases x<;>exact Zf K3
   ·exact Zf K1
  | _=>exact Zf K1
end
end L3
namespace L3
open PySem PySem.Spec PyProof.Rows L2
noncomputable abbrev RisA (xs:Array Nat):Prop:=xs.toList.Pairwise (· < ·)
section
variable {xs:Array Nat}{j:Nat}
theorem RisA.get (r:RisA xs){i k:Nat}(h:i<k) (hk:k<xs.size):xs.getD i 0<xs.getD k 0:=by
 have:=List.pairwise_iff_getElem.mp r i k (by simp;omega) (by simpa using hk) h
 simpa [Array.getD,hk,Nat.lt_trans h hk] using this
theorem RisA.le (r:RisA xs){i k:Nat}(h:i<=k) (hk:k<xs.size):xs.getD i 0<=xs.getD k 0:=by
 rcases Nat.eq_or_lt_of_le h with e|e
 ·rw[e];exact Nat.le_refl _
 ·exact Nat.le_of_lt (r.get e hk)
theorem Jmr (r:RisA xs):∀(f lo hi:Nat),lo<=hi->hi<=xs.size->hi-lo<=f->(∀i,i<lo->xs.getD i 0<j)->(∀i,hi<=i->i<xs.size->j<=xs.getD i 0)->∀x,SetTable.below.go xs j f lo hi=x->x<=xs.size/\(∀i,i<x->xs.getD i 0<j)/\∀i,x<=i->i<xs.size->j<=xs.getD i 0
 | 0,lo,hi,h1,h2,h3,a,b,x,e=>by
  obtain rfl:lo=hi:=by omega
  subst e
  exact⟨h2,a,b⟩
 | f+1,lo,hi,h1,h2,h3,a,b,x,e=>by
  unfold SetTable.below.go at e
  split at e
  ·rename_i hl
   have hm:(lo+hi)/2<xs.size:=by omega
   have gd:xs.getD ((lo+hi)/2) j=xs.getD ((lo+hi)/2) 0:=by simp[Array.getD,hm]
   dsimp only at e
   rw[gd] at e
   by_cases c:xs.getD ((lo+hi)/2) 0<j
   ·rw[if_pos c] at e
    exact Jmr r f _ _ (by omega) h2 (by omega) (λ i hi'=>Nat.lt_of_le_of_lt (r.le (show i<=(lo+hi)/2 by omega) hm) c) b x e
   ·rw[if_neg c] at e
    exact Jmr r f _ _ (by omega) (by omega) (by omega) a (λ i hi' hs=>Nat.le_trans (Nat.le_of_not_lt c) (r.le hi' hs)) x e
  ·obtain rfl:lo=hi:=by omega
   subst e
   exact⟨h2,a,b⟩
theorem Jms (r:RisA xs) (j:Nat):SetTable.below xs j<=xs.size/\(∀i,i<SetTable.below xs j->xs.getD i 0<j)/\∀i,SetTable.below xs j<=i->i<xs.size->j<=xs.getD i 0 :=
 Jmr r xs.size 0 xs.size (Nat.zero_le _) (Nat.le_refl _) (by omega) (λ i h=>by omega) (λ i h1 h2=>by omega) _ rfl
noncomputable def Jpk (xs:Array Nat):Nat->Nat
 | 0=>0
 | i+1=>xs.getD i 0+1
theorem Jk6 (r:RisA xs):∀{i:Nat},i<=xs.size->SetTable.below xs (Jpk xs i)=i
 | 0,_=>by
  obtain⟨h1,h2,h3⟩:=Jms r 0
  rcases Nat.eq_zero_or_pos (SetTable.below xs 0) with e|e
  ·exact e
  ·have:=h2 0 e;omega
 | i+1,hi=>by
  obtain⟨h1,h2,h3⟩:=Jms r (xs.getD i 0+1)
  show SetTable.below xs (xs.getD i 0+1)=i+1
  generalize SetTable.below xs (xs.getD i 0+1)=x at h1 h2 h3
  rcases Nat.lt_trichotomy x (i+1) with e|e|e
  ·have:=h3 i (by omega) (by omega);omega
  ·exact e
  ·have a:=h2 (i+1) e
   have b:=r.get (show i<i+1 by omega) (show i+1<xs.size by omega)
   omega
theorem RisA.insert (r:RisA xs) (hj:xs[SetTable.below xs j]?≠some j):RisA (SetTable.insertAt xs (SetTable.below xs j) j):=by
 obtain⟨h1,h2,h3⟩:=Jms r j
 generalize SetTable.below xs j=p at h1 h2 h3 hj
 unfold RisA
 rw[SetTable.toList_insertAt,List.pairwise_append]
 have lo:∀a∈xs.toList.take p,a<j:=λ a ha=>by
  obtain⟨i,hi,rfl⟩:=List.mem_iff_getElem.mp ha
  have hi':i<p/\i<xs.size:=by
   have:i<min p xs.size:=by simpa using hi
   omega
  have:=h2 i hi'.1
  simpa [Array.getD,hi'.2] using this
 have hi:∀a∈xs.toList.drop p,j<a:=λ a ha=>by
  obtain⟨i,hi,rfl⟩:=List.mem_iff_getElem.mp ha
  have hi':p+i<xs.size:=by
   have:i<xs.size-p:=by simpa using hi
   omega
  have ge:=h3 (p+i) (by omega) hi'
  have pz:p<xs.size:=by omega
  have np:j≠xs.getD p 0:=λ e=>hj (by rw[Array.getElem?_eq_getElem pz];simp[Array.getD,pz] at e;rw[e])
  have gp:=h3 p (Nat.le_refl _) pz
  have pi:=r.le (show p<=p+i by omega) hi'
  have:j<xs.getD (p+i) 0:=by omega
  simpa [Array.getD,hi'] using this
 exact⟨List.Pairwise.sublist (List.take_sublist _ _) r,List.pairwise_cons.mpr ⟨hi,List.Pairwise.sublist (List.drop_sublist _ _) r⟩,λ a ha b hb=>by
  rcases List.mem_cons.mp hb with rfl|hb
  ·exact lo a ha
  ·exact Nat.lt_trans (lo a ha) (hi b hb)⟩
end
structure Tb (led:Bool) (t:SetTable):Prop where
 r:RisA t.place
 d:t.dummies=#[]
 l:t.led=led
section
variable {t:SetTable}{led:Bool}
theorem Tb.standIn (b:Tb led t) (n:Nat):Tb led (t.standIn n):=⟨by show(Array.range n).toList.Pairwise _;rw[Array.toList_range];exact List.pairwise_lt_range,rfl,b.l⟩
theorem Tb.orStandIn (b:Tb led t) (n:Nat):Tb led (t.orStandIn n):=by
 unfold SetTable.orStandIn
 split
 ·exact b
 ·exact b.standIn n
theorem Jvd (j:Nat):SetTable.has #[] j=false:=by
 unfold SetTable.has
 simp
theorem Jrk (d:t.dummies=#[]){f:Nat->Int}{h:Int}:∀(n:Nat) (p:SetTable.Probe),p.dummy=none->∀j dm,SetTable.probe.go t f h n p=some (.empty j dm)->dm=none/\t.place[SetTable.below t.place j]?≠some j
 | 0,p,_,j,dm,e=>by cases e
 | n+1,p,hp,j,dm,e=>by
  have adv:(t.advance p).dummy=none:=by
   unfold SetTable.advance
   split
   ·exact hp
   ·exact hp
  unfold SetTable.probe.go at e
  unfold SetTable.slot at e
  dsimp only at e
  by_cases c:(t.place[SetTable.below t.place p.j]?==some p.j)=true
  ·rw[if_pos c] at e
   dsimp only at e
   split at e
   ·cases e
   ·exact Jrk d n _ adv j dm e
  ·rw[if_neg c,d,Jvd] at e
   simp only[Bool.false_eq_true,if_false,Option.some.injEq,SetTable.Met.empty.injEq] at e
   obtain⟨rfl,rfl⟩:=e
   exact⟨hp,λ z=>c (beq_iff_eq.mpr z)⟩
theorem Tb.free (b:Tb led t){h:Int}{sl:Nat}{wd:Bool}(e:t.freeSlot h=some (sl,wd)):t.place[SetTable.below t.place sl]?≠some sl:=by
 unfold SetTable.freeSlot at e
 split at e
 ·rename_i j dm ep
  obtain⟨rfl,q⟩:=Jrk b.d _ _ rfl j dm ep
  simp only[Option.some.injEq,Prod.mk.injEq] at e
  rw[<- e.1]
  exact q
 ·cases e
theorem Tb.layNew (b:Tb led t) (es:Array (Int×Value)) (h:Int) (x:Value):Tb led (layNew t es h x).2.1:=by
 unfold PySem.layNew
 split
 ·rename_i sl wd e
  refine Tb.orStandIn ?_ _
  refine⟨b.r.insert (b.free e),?_,b.l⟩
  show(if SetTable.has t.dummies sl then _ else t.dummies)=#[]
  rw[b.d,Jvd]
  rfl
 ·exact b.standIn _
theorem Tb.laid {mask fi mo:Nat}{pl:Bool}{hs:Array Int}{t':SetTable}{o:Array Nat}(e:SetTable.laid mask fi mo led pl hs=some (t',o)):Tb led t':=by
 unfold SetTable.laid at e
 cases q:SetTable.layClean mask hs with
 | none=>rw[q] at e;cases e
 | some ow =>
  rw[q] at e
  have e:some _=some (t',o):=e
  simp only[Option.some.injEq,Prod.mk.injEq] at e
  obtain⟨rfl,_⟩:=e
  refine⟨?_,rfl,rfl⟩
  show(List.map _ _).Pairwise _
  rw[List.pairwise_map]
  refine List.Pairwise.filterMap _ (λ a a' hlt b hb b' hb'=>?_) List.pairwise_lt_range
  obtain⟨_,_,rfl⟩:=Option.map_eq_some_iff.mp hb
  obtain⟨_,_,rfl⟩:=Option.map_eq_some_iff.mp hb'
  exact hlt
theorem Tb.relayAll (b:Tb led t) (es:Array (Int×Value)) (w:Nat):Tb led (relayAll t es w).2.1:=by
 unfold PySem.relayAll
 split
 ·rename_i t' o e
  dsimp only
  split
  ·unfold SetTable.relaid at e
   rw[b.l] at e
   exact Tb.laid e
  ·exact b.standIn _
 ·exact b.standIn _
end
theorem Jhj {α:Type}:∀{l:List α}{i:Nat}{x:α},l[i]?=some x->(x::l.eraseIdx i).Perm l
 | [],i,x,e=>by simp at e
 | a::l,0,x,e=>by
  simp only[List.getElem?_cons_zero,Option.some.injEq] at e
  subst e
  exact List.Perm.refl _
 | a::l,i+1,x,e=>by
  simp only[List.getElem?_cons_succ] at e
  exact(List.Perm.swap a x _).trans ((Jhj e).cons a)
theorem Jv5 {α:Type}{nx:Nat->Nat}:∀(f k:Nat) (l:List α) (out:Array α),l.length<=f->(pickOrder.go nx f k l out).toList.Perm (out.toList++l)
 | 0,k,l,out,h=>by
  obtain rfl:l=[]:=List.eq_nil_of_length_eq_zero (by omega)
  unfold pickOrder.go
  simp
 | f+1,k,l,out,h=>by
  unfold pickOrder.go
  cases e:l[nx k%l.length]? with
  | none =>
   have:l=[]:=by
    cases l with
    | nil=>rfl
    | cons a l =>
     have:nx k%(a::l).length<(a::l).length:=Nat.mod_lt _ (by simp)
     rw[List.getElem?_eq_getElem this] at e
     cases e
   subst this
   simp
  | some x =>
   dsimp only
   have hl:=(List.getElem?_eq_some_iff.mp e).1
   refine(Jv5 f (k+1) _ _ (by rw[List.length_eraseIdx_of_lt hl];omega)).trans ?_
   rw[Array.toList_push,List.append_assoc]
   exact(Jhj e).append_left _
theorem Jv6 {α:Type}(nx:Nat->Nat) (xs:Array α):(pickOrder nx xs).toList.Perm xs.toList:=by
 have:=Jv5 (nx:=nx) xs.size 0 xs.toList #[] (by simp)
 unfold pickOrder
 simpa using this
noncomputable abbrev byT (wd:World):Bool:=wd.params.followText "set-order"
noncomputable abbrev ents (es:Array (Int×Value)):List Int:=es.toList.map λ e=>numOf e.2
noncomputable def AllI (es:List (Int×Value)):Prop:=∀e∈es,∃n t,e=(hashInt n,Value.int n t)
noncomputable def SetI (wd:World) (h:Heap) (a:Addr) (ns:List Int):Prop:=∃o es ep t,h.get? a=some o/\o.ExactSet/\o.data=.set es ep t/\AllI es.toList/\ents es=ns/\es.size<scanBound/\t.fits es.size=true/\Tb (!byT wd) t
theorem SetI.moved {wd:World}{hp h2:Heap}{a:Addr}{ns:List Int}(q:SetI wd hp a ns) (m:∀o,hp.get? a=some o->h2.get? a=some o):SetI wd h2 a ns:=by
 obtain⟨o,es,ep,t,ho,rest⟩:=q
 exact⟨o,es,ep,t,m o ho,rest⟩
theorem AllI.perm {l l':List (Int×Value)}(h:AllI l) (p:l'.Perm l):AllI l':=λ e he=>h e (p.mem_iff.mp he)
theorem AllI.elems {pr:Program}{wd:World}{l:List (Int×Value)}(h:AllI l):ElemsOf (PySem.intKind pr wd) l:=λ e he=>by
 obtain⟨n,t,rfl⟩:=h e he
 exact⟨⟨n,intKind_is _ _ _ _,rfl⟩,rfl⟩
section
variable {pr:Program}{wd:World}{A:Around}{E:Value->Shared->Prop}{s:Shared}{a:Addr}
theorem Jv8 {h:Heap}{o:Obj}{es:Array (Int×Value)}{ep:Nat}{t:SetTable}{es':Array (Int×Value)}{t':SetTable}(ho:h.get? a=some o) (hd:o.data=.set es ep t):(h.update a (Obj.putSet es' t')).get? a=some { o with data:=.set es' (ep+1) t' }:=by
 have:=Heap.get?_update_self (Obj.putSet es' t') ho (by rw[putSet_of es' t' hd];rfl)
 rwa [putSet_of es' t' hd] at this
theorem Jrd {b:Bool}{s1:Shared}{Q:Unit->Shared->Prop}(h:Q () s1):wpAny (model pr wd) A (match b with|true=>rule "set.scan.the-table-gave-way"|false=>pure ()) Q E s1:=by
 cases b<;>first|exact wpAny_pure h|exact wpAny_rule h
theorem Jyg {n:Int}{tk:Tok}{ns:List Int}{Q:Bool->Shared->Prop}(hS:SetI wd s.heap a ns) (room:ns.length+1<scanBound)
  (h:∀b h' ns',Heap.SameBut a s.heap h'->SetI wd h' a ns'->ns'.Perm (if n∈ns then ns else ns++[n])->Q b { s with heap:=h' }):wpAny (model pr wd) A (setAddHashed a (.int n tk) (hashInt n)) Q E s:=by
 obtain⟨o,es,ep,t,ho,hex,hd,ai,en,hb,hf,tb⟩:=hS
 have hel:ElemsOf (PySem.intKind pr wd) es.toList:=ai.elems
 have hkey:(PySem.intKind pr wd).is n (.int n tk)=true:=intKind_is _ _ _ _
 have lz:es.size=ns.length:=by rw[<- en,List.length_map,Array.length_toList]
 unfold setAddHashed setAddHashedIn
 refine wpAny_holding (wpAny_bind (wpAny_setState_of ho hd hf ?_))
 dsimp only
 rw[byScan_of (knd:=PySem.intKind pr wd) rfl hb hel]
 simp only[↓reduceIte]
 unfold setAddByScan
 refine wpAny_bind ?_
 refine wpAny_bind (wpAny_rule ?_)
 refine wpAny_bind (wpAny_setScan_of (knd:=PySem.intKind pr wd) hkey ho hd hf hel ?_)
 cases hr:List.findIdx? (λ e=>(PySem.intKind pr wd).is n e.2) es.toList with
 | some j =>
  dsimp only
  obtain⟨hj,hpj,_⟩:=List.findIdx?_eq_some_iff_getElem.mp hr
  have mem:n∈ns:=by
   rw[<- en]
   refine List.mem_map.mpr ⟨es.toList[j],List.getElem_mem hj,?_⟩
   obtain⟨m,t',e⟩:=ai _ (List.getElem_mem hj)
   rw[e] at hpj ⊢
   exact(PySem.intKind pr wd).inj _ _ _ (intKind_is _ _ _ _) hpj
  refine wpAny_pure (wpAny_pure ?_)
  have e:s={ s with heap:=s.heap }:=by cases s;rfl
  rw[e]
  exact h _ s.heap ns (Heap.SameBut.refl a s.heap) ⟨o,es,ep,t,ho,hex,hd,ai,en,hb,hf,tb⟩ (by rw[if_pos mem])
 | none =>
  dsimp only
  have nmem:n∉ns:=λ m=>by
   rw[<- en] at m
   obtain⟨e,he,q⟩:=List.mem_map.mp m
   obtain⟨m',t',rfl⟩:=ai e he
   have q:m'=n:=q
   subst q
   have:=List.findIdx?_eq_none_iff.mp hr _ he
   rw[show(PySem.intKind pr wd).is m' (.int m' t')=true from intKind_is _ _ _ _] at this
   cases this
  have hperm:=layNew_perm t es (hashInt n) (.int n tk)
  have hfits:=layNew_fits t es (hashInt n) (.int n tk)
  have tb1:=tb.layNew es (hashInt n) (.int n tk)
  generalize layNew t es (hashInt n) (.int n tk)=L at hperm hfits tb1 ⊢
  obtain⟨es1,t1,wasDummy,gave⟩:=L
  dsimp only at hperm hfits tb1 ⊢
  rw[Array.toList_push] at hperm
  have ai1:AllI es1.toList:=AllI.perm (λ e he=>by
   rcases List.mem_append.mp he with he|he
   ·exact ai e he
   ·rw[List.mem_singleton.mp he];exact⟨n,tk,rfl⟩) hperm
  have en1:(ents es1).Perm (ns++[n]):=by
   have:=hperm.map λ e=>numOf e.2
   rw[List.map_append] at this
   rwa [show es.toList.map (λ e=>numOf e.2)=ns from en] at this
  have sz1:es1.size=es.size+1:=by rw[<- Array.length_toList,hperm.length_eq,List.length_append,Array.length_toList];rfl
  have hb1:es1.size<scanBound:=by omega
  have fin:∀h' ns',Heap.SameBut a s.heap h'->SetI wd h' a ns'->ns'.Perm (ents es1)->Q true { s with heap:=h' }:=λ h' ns' sb q p=>h true h' ns' sb q (by rw[if_neg nmem];exact p.trans en1)
  refine wpAny_bind (Jrd ?_)
  have tail:∀{R:Option Bool->Shared->Prop},(∀h' ns',Heap.SameBut a s.heap h'->SetI wd h' a ns'->ns'.Perm (ents es1)->R (some true) { s with heap:=h' })->wpAny (model pr wd) A (do
    storeSet a es1 t1
    if (!wasDummy&&t1.tooFull)=true then do
      (match (relayAll t1 es1 (SetTable.grown es1.size)).2.2 with|true=>rule "set.scan.the-table-gave-way"|false=>pure ())
      storeSet a (relayAll t1 es1 (SetTable.grown es1.size)).1 (relayAll t1 es1 (SetTable.grown es1.size)).2.1
      pure (some true)
     else pure (some true)) R E s:=λ {R} hR=>by
   refine wpAny_bind (wpAny_storeSet_of ho hd ?_ (fits_of_scanBound hb1))
   have ho1:=Jv8 (es':=es1) (t':=t1) ho hd
   have sb1:=Heap.SameBut.update s.heap a (Obj.putSet es1 t1)
   split
   ·have hp:=relayAll_perm t1 es1 (SetTable.grown es1.size)
    have hfr:=relayAll_fits t1 es1 (SetTable.grown es1.size)
    have tb2:=tb1.relayAll es1 (SetTable.grown es1.size)
    generalize relayAll t1 es1 (SetTable.grown es1.size)=Rl at hp hfr tb2 ⊢
    obtain⟨es2,t3,gave2⟩:=Rl
    dsimp only at hp hfr tb2 ⊢
    have sz2:es2.size=es1.size:=by rw[<- Array.length_toList,hp.length_eq,Array.length_toList]
    refine wpAny_bind (Jrd ?_)
    refine wpAny_bind (wpAny_storeSet_of ho1 rfl ?_ (fits_of_scanBound (by omega)))
    exact wpAny_pure (hR _ _ (sb1.trans (Heap.SameBut.update _ a _)) ⟨_,es2,ep+1+1,t3,Jv8 ho1 rfl,hex,rfl,ai1.perm hp,rfl,by omega,hfr,tb2⟩ (hp.map _))
   ·exact wpAny_pure (hR _ _ sb1 ⟨_,es1,ep+1,t1,ho1,hex,rfl,ai1,rfl,hb1,hfits,tb1⟩ (List.Perm.refl _))
  split
  ·refine wpAny_bind ?_
   rw[hashByValue_scannable 8 (x:=.int n tk) rfl]
   refine wpAny_pure ?_
   exact tail λ h' ns' sb q p=>by dsimp only;exact wpAny_pure (fin h' ns' sb q p)
  ·refine wpAny_bind (wpAny_pure ?_)
   simp only[↓reduceIte]
   exact tail λ h' ns' sb q p=>by dsimp only;exact wpAny_pure (fin h' ns' sb q p)
end
noncomputable def ddN (f:Nat->Int):Nat->List Int
 | 0=>[]
 | i+1=>if f i∈ddN f i then ddN f i else ddN f i++[f i]
theorem Juo (f:Nat->Int):∀i,(ddN f i).length<=i
 | 0=>Nat.le_refl _
 | i+1=>by
  have:=Juo f i
  unfold ddN
  split
  ·omega
  ·rw[List.length_append,List.length_singleton];omega
theorem Jxe {f:Nat->Int}{i:Nat}{ms:List Int}(p:ms.Perm (ddN f i)):(if f i∈ms then ms else ms++[f i]).Perm (ddN f (i+1)):=by
 unfold ddN
 by_cases c:f i∈ms
 ·rw[if_pos c,if_pos (p.mem_iff.mp c)];exact p
 ·rw[if_neg c,if_neg (λ z=>c (p.mem_iff.mpr z))];exact p.append_right _
theorem Jup (f:Nat->Int) (x:Int):∀i,x∈ddN f i↔∃j,j<i/\x=f j
 | 0=>by simp[ddN]
 | i+1=>by
  have ih:=Jup f x i
  unfold ddN
  constructor
  ·intro h
   split at h
   ·obtain⟨j,hj,e⟩:=ih.mp h;exact⟨j,by omega,e⟩
   ·rcases List.mem_append.mp h with h|h
    ·obtain⟨j,hj,e⟩:=ih.mp h;exact⟨j,by omega,e⟩
    ·exact⟨i,by omega,List.mem_singleton.mp h⟩
  ·rintro⟨j,hj,rfl⟩
   by_cases e:j=i
   ·subst e
    split
    ·assumption
    ·exact List.mem_append_right _ (List.mem_singleton.mpr rfl)
   ·have:=ih.mpr ⟨j,by omega,rfl⟩
    split
    ·exact this
    ·exact List.mem_append_left _ this
noncomputable abbrev Jbd (zs:List Int):Nat->Int:=λ i=>zs.getD i 0
noncomputable def SetD (wd:World) (h:Heap) (a:Addr) (f:Nat->Int) (i:Nat):Prop:=∃ms,SetI wd h a ms/\ms.Perm (ddN f i)
theorem SetD.moved {wd:World}{hp h2:Heap}{a:Addr}{f:Nat->Int}{i:Nat}(q:SetD wd hp a f i) (m:∀o,hp.get? a=some o->h2.get? a=some o):SetD wd h2 a f i:=by
 obtain⟨ms,h,p⟩:=q
 exact⟨ms,h.moved m,p⟩
section
variable {pr:Program}{wd:World}{B:Around}{R:Result->Shared->Prop}{it:Addr}{fps wrs:List Addr}{G:Array GenState->Array GenState->Prop}{n:Nat}{P:Nat->Value->Prop}{St:Nat->Shared->Prop}
theorem Jwk (W:WalksS pr wd B.in1 it fps wrs G n P St) (C:Addr) (hC:C∉fps) (f:Nat->Int) (hf:∀i v,P i v->∃t,v=.int (f i) t) (room:n+1<scanBound) :
  ∀(r i:Nat) (z:Shared),n-i=r->i<=n->St i z->SetD wd z.heap C f i->(∀z2,Moved (C::wrs) G z z2->SetD wd z2.heap C f n->R (.ok (.ret .none)) z2) ->
   codeAny (model pr wd) B (.builtin "set.update.loop" ⟨[.ref C,.ref it],[]⟩) R z:=by
 have nw:C∉wrs:=λ q=>hC (W.sub _ q)
 have more:∀b∈wrs,b∈C::wrs:=λ b q=>List.mem_cons_of_mem _ q
 intro r
 induction r with
 | zero =>
  intro i z hr hi st hS fin
  obtain rfl:i=n:=by omega
  refine codeAny_builtin PyProof.Rows.F.entry_set_update_loop ?_
  rw[Around.under_plainId PyProof.Rows.F.plain_set_update_loop _]
  show wpAny _ B.in1 (pyNext (.ref it)>>=_) _ _ z
  refine wpAny_bind (W.done z _ _ st λ z2 mv=>?_)
  show wpAny _ B.in1 (ret Value.none) _ _ z2
  exact wpAny_pure (fin z2 (mv.mono more) (hS.moved λ o e=>mv.heap C _ nw e))
 | succ r ih =>
  intro i z hr hi st hS fin
  have lt:i<n:=by omega
  refine codeAny_builtin PyProof.Rows.F.entry_set_update_loop ?_
  rw[Around.under_plainId PyProof.Rows.F.plain_set_update_loop _]
  show wpAny _ B.in1 (pyNext (.ref it)>>=_) _ _ z
  refine wpAny_bind (W.item i z _ _ lt st λ v z2 hP st2 mv=>?_)
  obtain⟨t,rfl⟩:=hf i v hP
  have hS2:SetD wd z2.heap C f i:=hS.moved λ o e=>mv.heap C _ nw e
  show wpAny _ B.in1 (holding [Value.int (f i) t] (setAdd C (.int (f i) t))>>=_) _ _ z2
  refine wpAny_bind (wpAny_holding ?_)
  unfold setAdd
  refine wpAny_holding ?_
  refine wpAny_bind (wpAny_pyHash_int ?_)
  obtain⟨ms,hm,pm⟩:=hS2
  have lm:ms.length<=i:=by rw[pm.length_eq];exact Juo f i
  refine Jyg (s:={ z2 with toks:=z2.toks+1 }) hm (by omega) λ _ h3 ms' sb hm' pm'=>?_
  have hS4:SetD wd h3 C f (i+1):=⟨ms',hm',pm'.trans (Jxe pm)⟩
  refine wpAny_pure ⟨plainId_quiet PyProof.Rows.F.plain_set_update_loop _,ih (i+1) _ (by omega) lt (W.frame _ z2 _ _ st2 (Nat.le_succ _) λ b q o e=>?_) hS4 λ z5 m5 hS5=>?_⟩
  ·rw[sb.2 b (λ e2:b=C=>hC (by rw[<- e2];exact q))];exact e
  ·refine fin z5 (Moved.trans W.gtrans ((mv.mono more).then_heap (Nat.le_succ _) λ b o q e=>?_) m5) hS5
   rw[sb.2 b (λ e2:b=C=>q (by rw[e2];exact List.mem_cons_self))];exact e
end
section
variable {pr:Program}{wd:World}{A B:Around}{E:Value->Shared->Prop}{s z:Shared}{l:Addr}{us:List Value}{zs:List Int}{Q:Value->Shared->Prop}
theorem Jyk (a:Value){Q₁:Value->Shared->Prop}(h:Q₁ (.ref s.heap.objs.size) { s with heap:=s.heap.push (J1 (!byT wd)) }):codeAny (model pr wd) A (.call (.builtin "set.__new__") ⟨[.type "set",a],[]⟩) (wants Q₁ E) s:=by
 refine codeAny_of_tree ?_
 show wpAny _ A.in1 (do checkBuiltinCall "set.__new__" ⟨[.type "set",a],[]⟩;again (.builtin "set.__new__" ⟨[.type "set",a],[]⟩)) _ _ s
 refine wpAny_bind (wpAny_of_eq (PySem.F.newCall_set_1 a) (wpAny_pure ⟨plainId_quiet PySem.F.plain_set_new _,codeAny_builtin PySem.F.entry_set_new ?_⟩))
 rw[Around.under_plainId PySem.F.plain_set_new _]
 unfold Builtin.«set.__new__» Builtin.Frozenset.newClass
 have hsub:=PySem.sub_set_self
 obtain⟨hp,g,d,tk,os⟩:=s
 dsimp only
 wp_walk
 refine wpAny_askSetting (wpAny_pure ?_)
 dsimp only
 simp only[newObj]
 refine wpAny_bind (wpAny_alloc (wpAny_pure ?_))
 exact wpAny_pure h
set_option maxRecDepth 100000 in
theorem Jwj (hh:B.handled=none) (hl:z.heap.IsList l us.toArray) (hi:IntsAre us zs) (room:zs.length+1<scanBound)
  (fin:∀(h2:Heap) (tk:Nat),SetD wd h2 z.heap.objs.size (Jbd zs) zs.length->(∀b o,z.heap.get? b=some o->h2.get? b=some o)->Q (.ref z.heap.objs.size) { z with heap:=h2,toks:=tk }) :
  wpAny (model pr wd) B (call (.type "set") [.ref l]) Q E z:=by
 have len:us.toArray.size=zs.length:=by rw[List.size_toArray,hi.length]
 have vals:∀(i:Nat) (v:Value),us.toArray[i]?=some v->∃t,v=.int (Jbd zs i) t:=λ i v q=>by
  have q:us[i]?=some v:=by simpa using q
  have hz:i<zs.length:=by have:=(List.getElem?_eq_some_iff.mp q).1;have:=hi.length;omega
  obtain⟨t,e⟩:=hi.get i _ (List.getElem?_eq_getElem hz)
  rw[q] at e
  cases e
  exact⟨t,by simp[Jbd,hz]⟩
 obtain⟨c,tl,hmro⟩:=PySem.F.called_set.mro
 have hmade:=PySem.F.called_set.made
 have hsub:=PySem.F.called_set.sub
 refine wpAny_call (codeAny_of_tree ?_)
 show wpAny _ _ (callAny (.type "set") _) _ _ _
 refine wpAny_pure ⟨Code.quiet_builtin _ (by decide +kernel),codeAny_builtin PySem.F.entry_type_call ?_⟩
 rw[Around.under_plain (weight_type_call_type "set" [.ref l] []) rfl]
 have no1:=PySem.F.called_set.notType
 have no2:=PySem.F.called_set.canCreate
 have ok1:=PySem.F.typeCall_set_1 (.ref l)
 repeat (any_goals (first|assumption|wp_step))
 refine codeAny_mono (Jyk (.ref l) (E:=E) (Q₁:=λ obj z1=>obj=.ref z.heap.objs.size/\z1={ z with heap:=z.heap.push (J1 (!byT wd)) }) ⟨rfl,rfl⟩) λ res z1 hr=>?_
 cases res with
 | error e=>exact hr
 | ok fl =>
  cases fl with
  | ret obj =>
   obtain⟨rfl,rfl⟩:=hr
   have gS:(z.heap.push (J1 (!byT wd))).get? z.heap.objs.size=some (J1 (!byT wd)):=Heap.get?_push_size _ rfl
   have tS:Shared.TypeIs { z with heap:=z.heap.push (J1 (!byT wd)) } (.ref z.heap.objs.size) "set":=⟨_,gS,rfl⟩
   have in1:=PySem.F.called_set.init.lookup
   have in2:=PySem.F.called_set.init.bind (.ref z.heap.objs.size)
   repeat (any_goals (first|assumption|wp_step))
   refine codeAny_mono (codeAny_call_builtin (R:=wants (λ res z2=>res=.none/\∃h2 tk,z2={ z with heap:=h2,toks:=tk }/\SetD wd h2 z.heap.objs.size (Jbd zs) zs.length/\(∀b o,z.heap.get? b=some o->h2.get? b=some o)) E)
    PySem.F.called_set.init.plain PySem.F.entry_set_init (check_set_init_1 tS ?_)) λ res2 z2 hr2=>?_
   ·obtain⟨ol,hol,hcl,nl,hdl⟩:=hl
    obtain⟨ocls,odict,odata,oslots⟩:=ol
    simp only at hcl hdl
    subst hcl;subst hdl
    have gl:(z.heap.push (J1 (!byT wd))).get? l=some { cls:=.type "list",dict:=odict,data:=.seq us.toArray nl,slots:=oslots }:=Heap.get?_push_of_some _ hol
    have sb1:=PySem.F.sub_list_set
    have sb2:=PySem.F.sub_list_frozenset
    have dne:(Value.type "list"==Value.type "dict")=false:=by decide
    have hl1:(z.heap.push (J1 (!byT wd))).IsList l us.toArray:=⟨_,gl,rfl,nl,rfl⟩
    unfold Builtin.«set.__init__» noKeywords Builtin.Frozenset.updateFrom
    generalize hPI:pyIter=PI
    wp_walk
    subst hPI
    refine wpAny_pyIter_list hl1 ?_
    refine wpAny_bind (wpAny_runValue ?_)
    have lS:l<z.heap.objs.size:=Heap.lt_size hol
    have h3:B.in1.in1.in1.handled=none:=by simp[hh]
    have neI:l≠(z.heap.push (J1 (!byT wd))).objs.size:=by rw[Heap.size_push];exact Nat.ne_of_lt (Nat.lt_succ_of_lt lS)
    have nC:z.heap.objs.size∉[(z.heap.push (J1 (!byT wd))).objs.size,l]:=by
     rw[Heap.size_push]
     simp only[List.mem_cons,List.not_mem_nil,or_false,not_or]
     exact⟨Nat.ne_of_lt (Nat.lt_succ_self _),Nat.ne_of_gt lS⟩
    refine Jwk ((Walks.list h3 _ l neI us.toArray).toS) z.heap.objs.size nC (Jbd zs) vals (by rw[len];exact room) (us.toArray.size-0) 0 _ (by omega) (Nat.zero_le _) ⟨⟨_,Heap.get?_push_size _ rfl,rfl,rfl⟩,(hl1.push _)⟩ ?start ?stop
    case start =>
     have g0:((z.heap.push (J1 (!byT wd))).push { cls:=.type "list_iterator",data:=.fields #[.ref l,.int 0 0] }).get? z.heap.objs.size=some (J1 (!byT wd)):=Heap.get?_push_of_some _ gS
     exact⟨[],⟨_,#[],0,_,g0,⟨rfl,rfl,rfl⟩,rfl,(λ e he=>by simp at he),rfl,by decide,rfl,⟨.nil,rfl,rfl⟩⟩,List.Perm.refl _⟩
    case stop =>
     intro z5 mv hS5
     obtain⟨h5,g5,d5,tk5,os5⟩:=z5
     have eg:g5=z.gens:=mv.gens
     have ed:d5=z.drawn:=mv.drawn
     have eo:os5=z.os:=mv.os
     subst eg;subst ed;subst eo
     show wpAny _ _ _ _ _ _
     refine wpAny_pure ?_
     show wpAny _ _ (ret Value.none) _ _ _
     rw[len] at hS5
     refine wpAny_pure ⟨rfl,h5,tk5,rfl,hS5,λ b o e=>?_⟩
     have lb:=Heap.lt_size e
     have b1:b≠z.heap.objs.size:=Nat.ne_of_lt lb
     have b2:b≠(z.heap.push (J1 (!byT wd))).objs.size:=by rw[Heap.size_push];exact Nat.ne_of_lt (Nat.lt_succ_of_lt lb)
     exact mv.heap b o (by simp only[List.mem_cons,List.not_mem_nil,or_false,not_or];exact⟨b1,b2⟩) (Heap.get?_push_of_some _ (Heap.get?_push_of_some _ e))
   ·cases res2 with
    | error e=>exact hr2
    | ok fl2 =>
     cases fl2 with
     | ret rv =>
      obtain⟨rfl,h2,tk,rfl,hS2,keep⟩:=hr2
      repeat (any_goals (first|assumption|wp_step))
      exact fin _ _ hS2 keep
     | _=>exact hr2.elim
  | _=>exact hr.elim
end
theorem Ja7:Slot "set_iterator" "__next__" "set_iterator.__next__" :=
 .of (owner:="set_iterator") (n:="__next__") (by rw[typeLookup_type,builtinLookup_eq_fast];kernel_rfl) (by decide +kernel) (by decide +kernel) (by decide +kernel) (by first|exact .inl (by decide +kernel)|exact .inr (by decide +kernel)) (by rw[isSubtype_type];kernel_rfl)
theorem Jrq:Slot "set_iterator" "__iter__" "set_iterator.__iter__" :=
 .of (owner:="set_iterator") (n:="__iter__") (by rw[typeLookup_type,builtinLookup_eq_fast];kernel_rfl) (by decide +kernel) (by decide +kernel) (by decide +kernel) (by first|exact .inl (by decide +kernel)|exact .inr (by decide +kernel)) (by rw[isSubtype_type];kernel_rfl)
theorem Jjd:entryFor table "set_iterator.__next__"=some Builtin.«set_iterator.__next__» :=entryFor_of_fast (by kernel_rfl)
theorem Jmm (a:Value):argsOk "set_iterator.__next__" ⟨[a],[]⟩:=by unfold argsOk;kernel_rfl
theorem Ju3:entryFor table "set.__iter__"=some Builtin.«frozenset.__iter__» :=entryFor_alias (id':="frozenset.__iter__") (by kernel_rfl) rfl (by decide +kernel) (by kernel_rfl)
noncomputable def IsSI (h:Heap) (it:Addr) (F:Value) (i:Nat) (a:Addr) (n ep:Nat):Prop:=∃o,h.get? it=some o/\o.cls=.type "set_iterator"/\o.data=.fields #[F,.int i 0,.ref a,.int n 0,.int ep 0]
theorem IsSI.ty {s:Shared}{it:Addr}{F:Value}{i:Nat}{a:Addr}{n ep:Nat}(x:IsSI s.heap it F i a n ep):s.TypeIs (.ref it) "set_iterator":=let ⟨o,ho,hc,_⟩:=x;⟨o,ho,hc⟩
section
variable {pr:Program}{wd:World}{A:Around}{E:Value->Shared->Prop}{s:Shared}{a it:Addr}{o:Obj}{es:Array (Int×Value)}{ep i n sl:Nat}{t:SetTable}
theorem Jpq (hb:byT wd=true) (ho:s.heap.get? a=some o) (hd:o.data=.set es ep t) (hf:t.fits es.size=true){Q:Option (Value×Nat)->Shared->Prop}
  (h:Q (((pickOrder (wd.params.setOrder a ep) es)[i]?).map λ e=>(e.2,sl)) s):wpAny (model pr wd) A (setNext a sl i ep) Q E s:=by
 unfold setNext
 refine wpAny_bind (wpAny_setState_of ho hd hf ?_)
 unfold setsByText
 refine wpAny_bind (wpAny_bind (wpAny_askSetting (wpAny_pure ?_)))
 show wpAny _ _ (if byT wd=true then _ else _) _ _ s
 rw[if_pos hb]
 dsimp only
 rw[if_neg (by simp)]
 unfold setWalk setsByText
 refine wpAny_bind (wpAny_bind (wpAny_setState_of ho hd hf ?_))
 refine wpAny_bind (wpAny_bind (wpAny_askSetting (wpAny_pure ?_)))
 show wpAny _ _ (if byT wd=true then _ else _) _ _ s
 rw[if_pos hb]
 exact wpAny_bind (wpAny_askSetting (wpAny_pure (wpAny_pure h)))
theorem Jr0 (hb:byT wd=false) (ho:s.heap.get? a=some o) (hd:o.data=.set es ep t) (hf:t.fits es.size=true) (hp:(!t.plain&&decide (es.size>1))=false) (hl:t.led=true){Q:Option (Value×Nat)->Shared->Prop}
  (h:Q (match es[SetTable.below t.place sl]?,t.place[SetTable.below t.place sl]? with|some (_,x),some j=>some (x,j+1)|_,_=>none) s):wpAny (model pr wd) A (setNext a sl i ep) Q E s:=by
 unfold setNext
 refine wpAny_bind (wpAny_setState_of ho hd hf ?_)
 unfold setsByText
 refine wpAny_bind (wpAny_bind (wpAny_askSetting (wpAny_pure ?_)))
 show wpAny _ _ (if byT wd=true then _ else _) _ _ s
 rw[if_neg (by rw[hb];exact Bool.false_ne_true)]
 show wpAny _ _ (if (!t.plain&&decide (es.size>1))=true then _ else _) _ _ s
 rw[if_neg (by rw[hp];exact Bool.false_ne_true)]
 refine wpAny_bind (show wpAny _ _ (if (!t.led&&!es.isEmpty)=true then _ else _) _ _ s from ?_)
 rw[hl]
 simp only[Bool.not_true,Bool.false_and,Bool.false_eq_true,if_false]
 exact wpAny_pure (wpAny_pure h)
theorem Jto {p:Nat}{x:Int×Value}(ho:s.heap.get? a=some o) (hd:o.data=.set es ep t) (hf:t.fits es.size=true) (hx:es[p]?=some x){Q:Value->Shared->Prop}(h:Q x.2 s):wpAny (model pr wd) A (setNextDrawn a p ep) Q E s:=by
 unfold setNextDrawn
 refine wpAny_bind (wpAny_setState_of ho hd hf ?_)
 dsimp only
 rw[if_neg (by simp),hx]
 exact wpAny_pure h
theorem J1y {x:Value}{nx:Nat}{Q:Option Value->Shared->Prop}(hit:IsSI s.heap it (.int sl 0) i a n ep) (ho:s.heap.get? a=some o) (hd:o.data=.set es ep t) (hf:t.fits es.size=true) (hn:es.size=n)
  (hN:∀(Q':Option (Value×Nat)->Shared->Prop) (E':Value->Shared->Prop),Q' (some (x,nx)) s->wpAny (model pr wd) A.in1 (setNext a sl i ep) Q' E' s)
  (hQ:∀h',IsSI h' it (.int nx 0) (i+1) a n ep->Heap.SameBut it s.heap h'->Q (some x) { s with heap:=h' }):wpAny (model pr wd) A (pyNext (.ref it)) Q E s:=by
 obtain⟨oi,hi,hc,hdi⟩:=id hit
 unfold pyNext
 refine wpAny_bind (wpAny_attempt (wpAny_callSpecial?_slot (name:=Str.ofString "__next__") hit.ty Ja7 (wpAny_call_entry Ja7 hit.ty Jjd ?_ (Jmm _))))
 unfold Builtin.«set_iterator.__next__»
 refine wpAny_bind (wpAny_pure ?_)
 refine wpAny_bind (wpAny_fieldsOf hi hdi ?_)
 show wpAny _ A.in1 (setEntries a>>=_) _ _ s
 refine wpAny_bind (wpAny_setEntries_of ho hd hf ?_)
 rw[if_neg (by rw[hn];simp)]
 show wpAny _ A.in1 (setNext a sl i ep>>=_) _ _ s
 refine wpAny_bind (hN _ _ ?_)
 show wpAny _ A.in1 (setField (.ref it) 0 (rawInt nx)>>=_) _ _ s
 refine wpAny_bind (wpAny_setField hi hdi (by simp) ?_)
 have h1:(s.heap.update it (Obj.mapFields (·.setIfInBounds 0 (rawInt (nx:Int))))).get? it=some (oi.mapFields (·.setIfInBounds 0 (rawInt (nx:Int)))):=Heap.get?_update_self _ hi (Obj.isFreed_of_fields (Obj.data_mapFields hdi _))
 have d1:(oi.mapFields (·.setIfInBounds 0 (rawInt (nx:Int)))).data=.fields #[.int nx 0,.int i 0,.ref a,.int n 0,.int ep 0]:=by rw[Obj.data_mapFields hdi];simp[rawInt]
 refine wpAny_bind (wpAny_setField h1 d1 (by simp) ?_)
 refine wpAny_pure ⟨_,rfl,wpAny_pure (hQ _ ⟨_,Heap.get?_update_self _ h1 (Obj.isFreed_of_fields (Obj.data_mapFields d1 _)),(Obj.cls_mapFields ..).trans ((Obj.cls_mapFields ..).trans hc),?_⟩ ((Heap.SameBut.update ..).trans (Heap.SameBut.update ..)))⟩
 rw[Obj.data_mapFields d1]
 simp[rawInt]
theorem Jrv {α:Type}{h1:Heap}{Qf:α->Shared->Prop}{E':Value->Shared->Prop}(hh:A.handled=none) (e1:Heap.ExtBut it s.heap h1) (hE:∀h' e,Heap.ExtBut it s.heap h'->(∃o,h'.get? e=some o/\o.cls=.type "StopIteration")->E' (.ref e) { s with heap:=h' }) :
  wpAny (model pr wd) A.in1 (newExc (.type "StopIteration") []>>=λ e=>(raiseNew e:Sem α)) Qf E' { s with heap:=h1 }:=by
 refine wpAny_bind ?_
 simp only[newExc,newTuple]
 refine wpAny_bind (wpAny_newObj_type ?_ (by size_fits))
 refine wpAny_bind (m:=firstArgMember _ _) (wpAny_of_eq (a:=Value.none) (by first|rfl|(simp only[firstArgMember];rfl)) ?_)
 refine wpAny_newObj_type ?_ (by size_fits)
 simp only[raiseNew]
 refine wpAny_bind (wpAny_handled ?_)
 rw[show A.in1.handled=none from hh]
 exact wpAny_bind (wpAny_pure (wpAny_throw (hE _ _ ((e1.push _).push _) ⟨_,Heap.get?_push_size _ rfl,rfl⟩)))
theorem J4y {Q:Option Value->Shared->Prop}(hh:A.handled=none) (hit:IsSI s.heap it (.int sl 0) i a n ep) (ho:s.heap.get? a=some o) (hd:o.data=.set es ep t) (hf:t.fits es.size=true) (hn:es.size=n)
  (hN:∀(Q':Option (Value×Nat)->Shared->Prop) (E':Value->Shared->Prop),Q' none s->wpAny (model pr wd) A.in1 (setNext a sl i ep) Q' E' s)
  (hQ:∀h',Heap.ExtBut it s.heap h'->Q none { s with heap:=h' }):wpAny (model pr wd) A (pyNext (.ref it)) Q E s:=by
 obtain⟨oi,hi,hc,hdi⟩:=id hit
 unfold pyNext
 refine wpAny_bind (wpAny_attempt (wpAny_callSpecial?_slot (name:=Str.ofString "__next__") hit.ty Ja7 (wpAny_call_entry Ja7 hit.ty Jjd ?_ (Jmm _))))
 unfold Builtin.«set_iterator.__next__»
 refine wpAny_bind (wpAny_pure ?_)
 refine wpAny_bind (wpAny_fieldsOf hi hdi ?_)
 show wpAny _ A.in1 (setEntries a>>=_) _ _ s
 refine wpAny_bind (wpAny_setEntries_of ho hd hf ?_)
 rw[if_neg (by rw[hn];simp)]
 show wpAny _ A.in1 (setNext a sl i ep>>=_) _ _ s
 refine wpAny_bind (hN _ _ ?_)
 show wpAny _ A.in1 (setField (.ref it) 2 .none>>=_) _ _ s
 refine wpAny_bind (wpAny_setField hi hdi (by simp) ?_)
 refine Jrv (it:=it) hh (Heap.SameBut.update ..).extBut λ h' e x ⟨o',g',c'⟩=>?_
 exact wpAny_bind (wpAny_isInstance (T:="StopIteration") (b:=true) ⟨o',g',c'⟩ isSubtype_stop (wpAny_pure (hQ _ x)))
theorem J1v {T:Addr}{ot:Obj}{its:Array Value}{nt p:Nat}{x:Int×Value}{tk:Tok}{Q:Option Value->Shared->Prop}(hit:IsSI s.heap it (.ref T) i a n ep) (ho:s.heap.get? a=some o) (hd:o.data=.set es ep t) (hf:t.fits es.size=true) (hn:es.size=n)
  (hT:s.heap.get? T=some ot) (dT:ot.data=.seq its nt) (hp:its[i]?=some (.int p tk)) (hx:es[p]?=some x)
  (hQ:∀h',IsSI h' it (.ref T) (i+1) a n ep->Heap.SameBut it s.heap h'->Q (some x.2) { s with heap:=h' }):wpAny (model pr wd) A (pyNext (.ref it)) Q E s:=by
 obtain⟨oi,hi,hc,hdi⟩:=id hit
 unfold pyNext
 refine wpAny_bind (wpAny_attempt (wpAny_callSpecial?_slot (name:=Str.ofString "__next__") hit.ty Ja7 (wpAny_call_entry Ja7 hit.ty Jjd ?_ (Jmm _))))
 unfold Builtin.«set_iterator.__next__»
 refine wpAny_bind (wpAny_pure ?_)
 refine wpAny_bind (wpAny_fieldsOf hi hdi ?_)
 show wpAny _ A.in1 (setEntries a>>=_) _ _ s
 refine wpAny_bind (wpAny_setEntries_of ho hd hf ?_)
 rw[if_neg (by rw[hn];simp)]
 show wpAny _ A.in1 (seqItems? (.ref T)>>=_) _ _ s
 refine wpAny_bind (wpAny_seqItems hT dT ?_)
 simp only[Int.toNat_natCast,hp]
 refine wpAny_bind (Jto ho hd hf hx ?_)
 refine wpAny_bind (wpAny_setField hi hdi (by simp) ?_)
 refine wpAny_pure ⟨_,rfl,wpAny_pure (hQ _ ⟨_,Heap.get?_update_self _ hi (Obj.isFreed_of_fields (Obj.data_mapFields hdi _)),(Obj.cls_mapFields ..).trans hc,?_⟩ (Heap.SameBut.update ..))⟩
 rw[Obj.data_mapFields hdi]
 simp[rawInt]
theorem J4w {T:Addr}{ot:Obj}{its:Array Value}{nt:Nat}{Q:Option Value->Shared->Prop}(hh:A.handled=none) (hit:IsSI s.heap it (.ref T) i a n ep) (ho:s.heap.get? a=some o) (hd:o.data=.set es ep t) (hf:t.fits es.size=true) (hn:es.size=n)
  (hT:s.heap.get? T=some ot) (dT:ot.data=.seq its nt) (hp:its[i]?=none) (hQ:∀h',Heap.ExtBut it s.heap h'->Q none { s with heap:=h' }):wpAny (model pr wd) A (pyNext (.ref it)) Q E s:=by
 obtain⟨oi,hi,hc,hdi⟩:=id hit
 unfold pyNext
 refine wpAny_bind (wpAny_attempt (wpAny_callSpecial?_slot (name:=Str.ofString "__next__") hit.ty Ja7 (wpAny_call_entry Ja7 hit.ty Jjd ?_ (Jmm _))))
 unfold Builtin.«set_iterator.__next__»
 refine wpAny_bind (wpAny_pure ?_)
 refine wpAny_bind (wpAny_fieldsOf hi hdi ?_)
 show wpAny _ A.in1 (setEntries a>>=_) _ _ s
 refine wpAny_bind (wpAny_setEntries_of ho hd hf ?_)
 rw[if_neg (by rw[hn];simp)]
 show wpAny _ A.in1 (seqItems? (.ref T)>>=_) _ _ s
 refine wpAny_bind (wpAny_seqItems hT dT ?_)
 simp only[Int.toNat_natCast,hp]
 show wpAny _ A.in1 (setField (.ref it) 0 (rawInt 0)>>=_) _ _ s
 refine wpAny_bind (wpAny_setField hi hdi (by simp) ?_)
 have h1:(s.heap.update it (Obj.mapFields (·.setIfInBounds 0 (rawInt 0)))).get? it=some (oi.mapFields (·.setIfInBounds 0 (rawInt 0))):=Heap.get?_update_self _ hi (Obj.isFreed_of_fields (Obj.data_mapFields hdi _))
 have d1:(oi.mapFields (·.setIfInBounds 0 (rawInt 0))).data=.fields #[.int 0 0,.int i 0,.ref a,.int n 0,.int ep 0]:=by rw[Obj.data_mapFields hdi];simp[rawInt]
 show wpAny _ A.in1 (setField (.ref it) 2 .none>>=_) _ _ _
 refine wpAny_bind (wpAny_setField h1 d1 (by simp) ?_)
 have e1:=((Heap.SameBut.update s.heap it (Obj.mapFields (·.setIfInBounds 0 (rawInt 0)))).trans (Heap.SameBut.update (s.heap.update it (Obj.mapFields (·.setIfInBounds 0 (rawInt 0)))) it (Obj.mapFields (·.setIfInBounds 2 .none)))).extBut
 refine Jrv (s:=s) (it:=it) (h1:=(s.heap.update it (Obj.mapFields (·.setIfInBounds 0 (rawInt 0)))).update it (Obj.mapFields (·.setIfInBounds 2 .none))) hh e1 λ h' e x ⟨o',g',c'⟩=>?_
 exact wpAny_bind (wpAny_isInstance (T:="StopIteration") (b:=true) ⟨o',g',c'⟩ isSubtype_stop (wpAny_pure (hQ _ x)))
end
theorem Ju2:entryFor table "set_iterator.__iter__"=some Builtin.«dict_keyiterator.__iter__» :=entryFor_alias (id':="dict_keyiterator.__iter__") (by kernel_rfl) rfl (by decide +kernel) (by kernel_rfl)
theorem Jw8 (a:Value):argsOk "set_iterator.__iter__" ⟨[a],[]⟩:=by unfold argsOk;kernel_rfl
section
variable {pr:Program}{wd:World}{A:Around}{E:Value->Shared->Prop}{s:Shared}{a it T:Addr}{o ot:Obj}{es:Array (Int×Value)}{ep n nt:Nat}{t:SetTable}{ord:List Value}
theorem IsSI.self {F:Value}{i:Nat}{Q:Value->Shared->Prop}(hit:IsSI s.heap it F i a n ep) (h:Q (.ref it) s):wpAny (model pr wd) A (pyIter (.ref it)) Q E s:=by
 refine wpAny_pyIter_slot hit.ty Jrq (wpAny_call_entry Jrq hit.ty Ju2 ?_ (Jw8 _))
 show wpAny _ _ (ret (.ref it)) _ _ s
 exact wpAny_pure ⟨_,rfl,"set_iterator",_,hit.ty,Ja7.lookup,h⟩
theorem IsSI.at {h h':Heap}{F:Value}{i:Nat}(x:IsSI h it F i a n ep) (e:∀o,h.get? it=some o->h'.get? it=some o):IsSI h' it F i a n ep:=let ⟨o,ho,r⟩:=x;⟨o,e _ ho,r⟩
theorem Jwr (hh:A.handled=none) (ne:a≠it) (hd:o.data=.set es ep t) (hf:t.fits es.size=true) (hn:es.size=n) (sl:Nat->Nat) (lo:ord.length=n)
  (hN:∀(i:Nat) (s:Shared) (x:Value),s.heap.get? a=some o->ord[i]?=some x->∀(Q':Option (Value×Nat)->Shared->Prop) (E':Value->Shared->Prop),Q' (some (x,sl (i+1))) s->wpAny (model pr wd) A.in1 (setNext a (sl i) i ep) Q' E' s)
  (hE:∀(s:Shared),s.heap.get? a=some o->∀(Q':Option (Value×Nat)->Shared->Prop) (E':Value->Shared->Prop),Q' none s->wpAny (model pr wd) A.in1 (setNext a (sl n) n ep) Q' E' s) :
  Walks pr wd A it [it,a] [it] n (λ i v=>ord[i]?=some v) (λ i h=>IsSI h it (.int (sl i) 0) i a n ep/\h.get? a=some o) where
 sub:=λ b hb=>by simp at hb;simp[hb]
 frame:=λ _ _ _ st hk=>⟨st.1.at λ o e=>hk it (by simp) o e,hk a (by simp) _ st.2⟩
 item:=λ i s Q E hi st hQ=>by
  have hx:ord[i]?=some (ord[i]'(by omega)):=List.getElem?_eq_getElem _
  refine J1y st.1 st.2 hd hf hn (hN i s _ st.2 hx) λ h' hit' hs'=>?_
  exact hQ _ h' s.toks hx ⟨hit',(hs'.2 a ne).trans st.2⟩ λ b o hb e=>(hs'.2 b (λ h=>hb (by simp[h]))).trans e
 done:=λ s Q E st hQ=>J4y hh st.1 st.2 hd hf hn (hE s st.2) λ h' he'=>hQ h' s.toks λ b o hb e=>he' b o (λ h=>hb (by simp[h])) e
 self:=λ _ _ _ _ st hQ=>st.1.self hQ
theorem J2f (hh:A.handled=none) (ne:a≠it) (nT:T≠it) (hd:o.data=.set es ep t) (hf:t.fits es.size=true) (hn:es.size=n) (ps:List Nat) (lp:ps.length=n) (dT:ot.data=.seq (List.toArray (ps.map λ (i:Nat)=>rawInt i)) nt) (hp:∀p∈ps,p<es.size) :
  Walks pr wd A it [it,a,T] [it] n (λ i v=>(ps.map λ p=>(es.getD p (0,.none)).2)[i]?=some v) (λ i h=>IsSI h it (.ref T) i a n ep/\h.get? a=some o/\h.get? T=some ot) where
 sub:=λ b hb=>by simp at hb;simp[hb]
 frame:=λ _ _ _ st hk=>⟨st.1.at λ o e=>hk it (by simp) o e,hk a (by simp) _ st.2.1,hk T (by simp) _ st.2.2⟩
 item:=λ i s Q E hi st hQ=>by
  have hi':i<ps.length:=by omega
  have pz:=hp _ (List.getElem_mem hi')
  refine J1v (p:=ps[i]) (tk:=0) (x:=es[ps[i]]) st.1 st.2.1 hd hf hn st.2.2 dT (by simp[hi',rawInt]) (Array.getElem?_eq_getElem pz) λ h' hit' hs'=>?_
  refine hQ _ h' s.toks ?_ ⟨hit',(hs'.2 a ne).trans st.2.1,(hs'.2 T nT).trans st.2.2⟩ λ b o hb e=>(hs'.2 b (λ h=>hb (by simp[h]))).trans e
  simp[hi',Array.getD,pz]
 done:=λ s Q E st hQ=>J4w hh st.1 st.2.1 hd hf hn st.2.2 dT (by simp[lp]) λ h' he'=>hQ h' s.toks λ b o hb e=>he' b o (λ h=>hb (by simp[h])) e
 self:=λ _ _ _ _ st hQ=>st.1.self hQ
theorem Jwv {src:Source}{m:Nat}{Q:Nat->Shared->Prop}(hm:m≠0) (h:∀i d',i<m->Q i { s with drawn:=d' }):wpAny (model pr wd) A (choose src m) Q E s:=λ Γ p _=>by
 show Sem.wp _ Γ (.choose src m .pure) _ _ p s
 rw[Sem.wp]
 refine⟨hm,?_⟩
 rw[Sem.wp]
 exact h _ _ (Nat.mod_lt _ (Nat.pos_of_ne_zero hm))
theorem Juw {α:Type}:∀(n:Nat) (xs:List α) (s:Shared) (Q:List α->Shared->Prop),xs.length=n->(∀ys d',ys.Perm xs->Q ys { s with drawn:=d' })->wpAny (model pr wd) A (drawOrder n xs) Q E s
 | 0,xs,s,Q,h,hQ=>by
  obtain rfl:xs=[]:=List.eq_nil_of_length_eq_zero h
  unfold drawOrder
  exact wpAny_pure (hQ [] s.drawn (List.Perm.refl _))
 | n+1,[],s,Q,h,hQ=>by cases h
 | n+1,x::xs,s,Q,h,hQ=>by
  unfold drawOrder
  refine wpAny_bind (Jwv (by simp) λ i d' hi=>?_)
  have e:(x::xs)[i]?=some (x::xs)[i]:=List.getElem?_eq_getElem hi
  have el:((x::xs).eraseIdx i).length=n:=by rw[List.length_eraseIdx_of_lt hi,h];rfl
  have pm:=Jhj e
  rw[e]
  dsimp only
  refine wpAny_bind (Juw n _ _ _ el λ ys d2 p=>?_)
  exact wpAny_pure (hQ _ d2 ((p.cons _).trans pm))
structure WalkOf (pr:Program) (wd:World) (a lo it:Addr) (h:Heap) (ns:List Int) (fp:List Addr) (ord:List Value) (St:Nat->Heap->Prop):Prop where
 w:∀A:Around,A.handled=none->Walks pr wd A it fp [it] ns.length (λ i v=>ord[i]?=some v) St
 st:St 0 h
 fp:∀b∈fp,b=a∨lo<=b
 zs:∃ms,IntsAre ord ms/\ms.Perm ns
theorem J2e {l:List (Int×Value)}(h:AllI l):IntsAre (l.map (·.2)) (l.map λ e=>numOf e.2):=by
 have:=intsAre_map (l.map (·.2)) λ v hv=>by
  obtain⟨e,he,rfl⟩:=List.mem_map.mp hv
  obtain⟨n,t,rfl⟩:=h e he
  exact⟨n,t,rfl⟩
 rwa [List.map_map] at this
theorem Jkh {l l':List (Int×Value)}{ns:List Int}(h:AllI l) (en:l.map (λ e=>numOf e.2)=ns) (p:l'.Perm l):∃ms,IntsAre (l'.map (·.2)) ms/\ms.Perm ns :=
 ⟨_,J2e (h.perm p),en▸p.map _⟩
theorem Jxx {ns:List Int}{Q:Value->Shared->Prop}(hS:SetI wd s.heap a ns) (hQ:∀it h' d' fp ord St,WalkOf pr wd a s.heap.objs.size it h' ns fp ord St->(∀b o,s.heap.get? b=some o->h'.get? b=some o)->s.heap.objs.size<=it->Q (.ref it) { s with heap:=h',drawn:=d' }) :
  wpAny (model pr wd) A (pyIter (.ref a)) Q E s:=by
 obtain⟨o,es,ep,t,ho,hex,hd,ai,en,hb,hf,tb⟩:=hS
 have hT:s.TypeIs (.ref a) "set":=⟨o,ho,hex.1⟩
 have ln:es.size=ns.length:=by rw[<- en,List.length_map,Array.length_toList]
 have lt:=Heap.lt_size ho
 refine wpAny_pyIter_slot hT PySem.F.slot_set_iter (wpAny_call_entry PySem.F.slot_set_iter hT Ju3 ?_ (PySem.F.args_set_iter_1 _))
 unfold Builtin.«frozenset.__iter__»
 refine wpAny_bind (wpAny_pure ?_)
 refine wpAny_bind (wpAny_bind (wpAny_setEntries_of ho hd hf (wpAny_pure ?_)))
 refine wpAny_bind ?_
 unfold setDrawn setsByText
 refine wpAny_bind (wpAny_setState_of ho hd hf ?_)
 refine wpAny_bind (wpAny_bind (wpAny_askSetting (wpAny_pure ?_)))
 refine wpAny_pure ?_
 show wpAny _ _ (if (!byT wd&&(!t.plain&&decide (es.size>1)))=true then _ else _) _ _ s
 cases c:(!byT wd&&(!t.plain&&decide (es.size>1))) with
 | true =>
  rw[if_pos rfl]
  refine wpAny_bind (Juw es.size (List.range es.size) s _ (by simp) λ ps d' pm=>?_)
  have lp:ps.length=es.size:=by rw[pm.length_eq,List.length_range]
  have hp:∀p∈ps,p<es.size:=λ p h=>List.mem_range.mp (pm.mem_iff.mp h)
  refine wpAny_bind (wpAny_newTuple ?_ (by rw[List.length_map,lp];exact fits_of_scanBound hb))
  show wpAny _ _ (setEpoch a>>=_) _ _ _
  refine wpAny_bind (wpAny_setEpoch_of (Heap.get?_push_of_some _ ho) hd hf ?_)
  refine wpAny_bind (wpAny_newObj_type (wpAny_pure ⟨_,rfl,"set_iterator",_,⟨_,Heap.get?_push_size _ rfl,rfl⟩,Ja7.lookup,?_⟩))
  have sz:(s.heap.push (seqObj "tuple" (List.toArray (ps.map λ (i:Nat)=>rawInt i)) 0)).objs.size=s.heap.objs.size+1:=size_push' ..
  refine hQ _ _ d' [(s.heap.push (seqObj "tuple" (List.toArray (ps.map λ (i:Nat)=>rawInt i)) 0)).objs.size,a,s.heap.objs.size] (ps.map λ p=>(es.getD p (0,.none)).2) (λ i h=>IsSI h (s.heap.push (seqObj "tuple" (List.toArray (ps.map λ (i:Nat)=>rawInt i)) 0)).objs.size (.ref s.heap.objs.size) i a ns.length ep/\h.get? a=some o/\h.get? s.heap.objs.size=some (seqObj "tuple" (List.toArray (ps.map λ (i:Nat)=>rawInt i)) 0)) ⟨λ A hh=>?_,?_,?_,?_⟩ (λ b o e=>Heap.get?_push_of_some _ (Heap.get?_push_of_some _ e)) (by rw[sz];exact Nat.le_succ _)
  ·exact J2f (ot:=seqObj "tuple" (List.toArray (ps.map λ (i:Nat)=>rawInt i)) 0) (nt:=0) (o:=o) (ep:=ep) hh (by rw[sz];exact Nat.ne_of_lt (Nat.lt_succ_of_lt lt)) (by rw[sz];exact Nat.ne_of_lt (Nat.lt_succ_self _)) hd hf ln ps (by rw[lp,ln]) rfl hp
  ·refine⟨⟨_,Heap.get?_push_size _ rfl,rfl,?_⟩,Heap.get?_push_of_some _ (Heap.get?_push_of_some _ ho),Heap.get?_push_of_some _ (Heap.get?_push_size _ rfl)⟩
   simp[rawInt,ln]
  ·intro b hb
   simp only[List.mem_cons,List.not_mem_nil,or_false] at hb
   rcases hb with rfl|rfl|rfl
   ·exact .inr (by rw[sz];exact Nat.le_succ _)
   ·exact .inl rfl
   ·exact .inr (Nat.le_refl _)
  ·have e1:(ps.map λ p=>(es.getD p (0,.none)).2)=(ps.map λ p=>es.getD p (0,.none)).map (·.2):=by rw[List.map_map];rfl
   rw[e1]
   refine Jkh ai en ?_
   have e2:(List.range es.size).map (λ p=>es.getD p (0,.none))=es.toList:=by
    refine List.ext_getElem (by simp) λ i h1 h2=>?_
    have h3:i<es.size:=by simpa using h1
    simp[Array.getD,h3]
   rw[<- e2]
   exact pm.map _
 | false =>
  rw[if_neg Bool.false_ne_true]
  refine wpAny_bind (wpAny_pure ?_)
  show wpAny _ _ (setEpoch a>>=_) _ _ _
  refine wpAny_bind (wpAny_setEpoch_of ho hd hf ?_)
  refine wpAny_bind (wpAny_newObj_type (wpAny_pure ⟨_,rfl,"set_iterator",_,⟨_,Heap.get?_push_size _ rfl,rfl⟩,Ja7.lookup,?_⟩))
  have fpz:∀b∈[s.heap.objs.size,a],b=a∨s.heap.objs.size<=b:=λ b hb=>by
   simp only[List.mem_cons,List.not_mem_nil,or_false] at hb
   rcases hb with rfl|rfl
   ·exact .inr (Nat.le_refl _)
   ·exact .inl rfl
  have go:∀(sl:Nat->Nat) (ord:List Value),sl 0=0->(∀A:Around,A.handled=none->Walks pr wd A s.heap.objs.size [s.heap.objs.size,a] [s.heap.objs.size] ns.length (λ i v=>ord[i]?=some v) (λ i h=>IsSI h s.heap.objs.size (.int (sl i) 0) i a ns.length ep/\h.get? a=some o))->(∃ms,IntsAre ord ms/\ms.Perm ns) ->
    Q (.ref s.heap.objs.size) { s with heap:=s.heap.push { cls:=.type "set_iterator",data:=.fields #[.int 0 0,.int 0 0,.ref a,.int ns.length 0,.int ep 0] } }:=λ sl ord h0 w q =>
   hQ _ _ s.drawn _ ord _ ⟨w,⟨⟨_,Heap.get?_push_size _ rfl,rfl,by rw[h0];rfl⟩,Heap.get?_push_of_some _ ho⟩,fpz,q⟩ (λ b o e=>Heap.get?_push_of_some _ e) (Nat.le_refl _)
  have ne:a≠s.heap.objs.size:=Nat.ne_of_lt lt
  rw[ln]
  show Q (.ref s.heap.objs.size) { s with heap:=s.heap.push { cls:=.type "set_iterator",data:=.fields #[.int 0 0,.int 0 0,.ref a,.int ns.length 0,.int ep 0] } }
  cases hb':byT wd with
  | true =>
   have pm:=Jv6 (wd.params.setOrder a ep) es
   have lo:((pickOrder (wd.params.setOrder a ep) es).toList.map (·.2)).length=ns.length:=by rw[List.length_map,pm.length_eq,Array.length_toList,ln]
   refine go (λ _=>0) ((pickOrder (wd.params.setOrder a ep) es).toList.map (·.2)) rfl (λ A hh=>Jwr hh ne hd hf ln (λ _=>0) lo (λ i s' x g e Q' E' q=>Jpq hb' g hd hf ?_) (λ s' g Q' E' q=>Jpq hb' g hd hf ?_)) (Jkh ai en pm)
   ·rw[List.getElem?_map,Array.getElem?_toList] at e
    obtain⟨y,ey,rfl⟩:=Option.map_eq_some_iff.mp e
    rw[ey]
    exact q
   ·rw[Array.getElem?_eq_none (by rw[List.length_map,Array.length_toList] at lo;omega)]
    exact q
  | false =>
   rw[hb'] at c tb
   have c:(!t.plain&&decide (es.size>1))=false:=c
   have pz:t.place.size=es.size:=by
    unfold SetTable.fits at hf
    simp only[Bool.and_eq_true,beq_iff_eq] at hf
    exact hf.1
   have lo:(es.toList.map (·.2)).length=ns.length:=by rw[List.length_map,Array.length_toList,ln]
   refine go (Jpk t.place) (es.toList.map (·.2)) rfl (λ A hh=>Jwr hh ne hd hf ln (Jpk t.place) lo (λ i s' x g e Q' E' q=>Jr0 hb' g hd hf c tb.l ?_) (λ s' g Q' E' q=>Jr0 hb' g hd hf c tb.l ?_)) (Jkh ai en (List.Perm.refl _))
   ·rw[List.getElem?_map,Array.getElem?_toList] at e
    obtain⟨y,ey,rfl⟩:=Option.map_eq_some_iff.mp e
    have hi:i<es.size:=(Array.getElem?_eq_some_iff.mp ey).1
    rw[Jk6 tb.r (by omega),ey,Array.getElem?_eq_getElem (show i<t.place.size by omega)]
    have:Jpk t.place (i+1)=t.place[i]+1:=by simp[Jpk,Array.getD,show i<t.place.size by omega]
    rw[this] at q
    exact q
   ·rw[Jk6 tb.r (by omega),Array.getElem?_eq_none (by omega)]
    exact q
end
theorem J1w:typeLookup (.type "set") "__len__"=pure (some (.builtin "set.__len__")):=by rw[typeLookup_type,builtinLookup_eq_fast];kernel_rfl
section
variable {pr:Program}{wd:World}{A:Around}{E:Value->Shared->Prop}{s:Shared}{a:Addr}
theorem Jx3 {Q:Bool->Shared->Prop}(hT:s.TypeIs (.ref a) "set") (h:Q false s):wpAny (model pr wd) A (Builtin.List.listLengthHint (.ref a)) Q E s:=by
 unfold Builtin.List.listLengthHint
 refine wpAny_bind (wpAny_specialOf hT J1w ?_)
 dsimp only
 rw[show splitId "set.__len__"=some ("set","__len__") from by decide +kernel]
 dsimp only
 refine wpAny_bind (wpAny_isInstance (b:=true) hT PySem.sub_set_self ?_)
 simp only[Bool.not_true,Bool.false_eq_true,if_false]
 rw[if_pos (by decide +kernel)]
 exact wpAny_bind (wpAny_typeOf hT (wpAny_pure h))
theorem Jpy {ns:List Int}{Q:List Value->Shared->Prop}(hh:A.handled=none) (hS:SetI wd s.heap a ns) (hb:ns.length<4096) (hQ:∀h' d' tk ord ms,IntsAre ord ms->ms.Perm ns->(∀b o,s.heap.get? b=some o->h'.get? b=some o)->s.heap.objs.size<h'.objs.size->Q ord { s with heap:=h',drawn:=d',toks:=tk }) :
  wpAny (model pr wd) A (collect (.ref a)) Q E s:=by
 obtain⟨o,hoo⟩:∃o,s.heap.get? a=some o/\o.cls=.type "set":=by
  obtain⟨o,es,ep,t,ho,hex,_⟩:=hS
  exact⟨o,ho,hex.1⟩
 have la:=Heap.lt_size hoo.1
 unfold collect
 refine wpAny_bind (wpAny_runValue (codeAny_builtin PySem.F.entry_proto_collect ?_))
 rw[Around.under_plainId PySem.F.plain_proto_collect _]
 show wpAny _ A.in1 (newList []>>=λ l=>again (.builtin "list.__iadd__" ⟨[l,.ref a],[]⟩)) _ _ s
 refine wpAny_bind (wpAny_newList ?_ (Nat.zero_le _))
 refine wpAny_pure ⟨plainId_quiet PySem.F.plain_list_iadd _,codeAny_builtin PySem.F.entry_list_iadd ?_⟩
 rw[Around.under_plainId PySem.F.plain_list_iadd _]
 show wpAny _ A.in1 (Builtin.List.listExtendWith (.ref s.heap.objs.size) (.ref a) (.ref s.heap.objs.size)) _ _ _
 unfold Builtin.List.listExtendWith
 have keep1:∀b o,s.heap.get? b=some o->(s.heap.push (seqObj "list" #[] 0)).get? b=some o:=λ b o e=>Heap.get?_push_of_some _ e
 have gL:(s.heap.push (seqObj "list" #[] 0)).get? s.heap.objs.size=some (seqObj "list" #[] 0):=Heap.get?_push_size _ rfl
 have hT1:Shared.TypeIs { s with heap:=s.heap.push (seqObj "list" #[] 0) } (.ref a) "set":=⟨o,keep1 _ _ hoo.1,hoo.2⟩
 refine wpAny_bind (wpAny_typeOf hT1 ?_)
 have h1:Builtin.List.listSameRef (.ref s.heap.objs.size) (.ref a)=false:=by simp[Builtin.List.listSameRef,Nat.ne_of_gt la]
 rw[if_neg (by rw[h1];decide)]
 refine wpAny_bind (Jxx (s:={ s with heap:=s.heap.push (seqObj "list" #[] 0) }) (hS.moved λ o e=>keep1 _ _ e) λ it h2 d2 fp ord St W keep2 le=>?_)
 have sz1:(s.heap.push (seqObj "list" #[] 0)).objs.size=s.heap.objs.size+1:=size_push' ..
 have gL2:=keep2 _ _ gL
 have hT2:Shared.TypeIs { s with heap:=h2,drawn:=d2 } (.ref a) "set":=⟨o,keep2 _ _ (keep1 _ _ hoo.1),hoo.2⟩
 refine wpAny_bind (wpAny_holding (Jx3 (s:={ s with heap:=h2,drawn:=d2 }) hT2 ?_))
 rw[if_pos (by decide +kernel)]
 refine wpAny_bind (wpAny_rule ?_)
 have nS:s.heap.objs.size∉fp:=λ hb=>by
  rcases W.fp _ hb with e|e
  ·exact absurd e (Nat.ne_of_gt la)
  ·rw[show({ s with heap:=s.heap.push (seqObj "list" #[] 0) }:Shared).heap.objs.size=s.heap.objs.size+1 from sz1] at e
   exact absurd e (Nat.not_le_of_gt (Nat.lt_succ_self _))
 have bg:10<=sizeLine:=by decide
 unfold Builtin.List.listTouch
 refine wpAny_bind (wpAny_bind (listUpdate_at (f:=(·.push .none)) gL2 rfl ?_ (Nat.zero_le _) (show 1<=sizeLine+1 by omega)))
 obtain⟨c3,g3⟩:∃c3,(h2.update s.heap.objs.size (Obj.mapSeq (·.push .none))).get? s.heap.objs.size=some (seqObj "list" #[.none] c3):=⟨_,get?_update_seq gL2 (·.push .none)⟩
 refine listUpdate_at (f:=(·.pop)) g3 rfl ?_ (show 1<=sizeLine by omega) (Nat.zero_le _)
 obtain⟨c4,g4⟩:∃c4,((h2.update s.heap.objs.size (Obj.mapSeq (·.push .none))).update s.heap.objs.size (Obj.mapSeq (·.pop))).get? s.heap.objs.size=some (seqObj "list" #[] c4):=⟨_,get?_update_seq g3 (·.pop)⟩
 have keep4:∀b o,b≠s.heap.objs.size->h2.get? b=some o->((h2.update s.heap.objs.size (Obj.mapSeq (·.push .none))).update s.heap.objs.size (Obj.mapSeq (·.pop))).get? b=some o:=λ b o nb e=>(Heap.get?_update_other _ _ (Ne.symm nb)).trans ((Heap.get?_update_other _ _ (Ne.symm nb)).trans e)
 generalize (h2.update s.heap.objs.size (Obj.mapSeq (·.push .none))).update s.heap.objs.size (Obj.mapSeq (·.pop))=h4 at g4 keep4
 have st4:=(W.w A.in1 hh).frame 0 h2 h4 W.st λ b hb o e=>keep4 b o (λ z=>nS (z▸hb)) e
 refine wpAny_pure ⟨plainId_quiet PySem.F.plain_extend_loop _,codeAny_extend_loopS (W.w A.in1 hh).toS (Nat.le_trans (Nat.le_of_lt hb) (by decide)) _ nS _ ns.length 0 _ #[] c4 rfl (Nat.zero_le _) st4 g4 (ItemsOf.nil _) λ s5 acc c5 mv g5 hacc=>?_⟩
 show wpAny _ A (load s.heap.objs.size>>=_) _ _ s5
 refine wpAny_bind (wpAny_load g5 ?_)
 refine wpAny_pure ?_
 obtain⟨ms,hi,hp⟩:=W.zs
 have eo:acc.toList=ord:=by
  have lo:ord.length=ns.length:=by rw[hi.length,hp.length_eq]
  refine List.ext_getElem? λ i=>?_
  by_cases hi':i<ns.length
  ·have e1:acc.toList[i]?=some (acc[i]'(by rw[hacc.1];exact hi')):=by simp[hacc.1,hi']
   rw[e1]
   exact(hacc.2 i _ (by simp[hacc.1,hi'])).symm
  ·rw[List.getElem?_eq_none (by rw[Array.length_toList,hacc.1];omega),List.getElem?_eq_none (by omega)]
 rw[eo]
 obtain⟨h5,g5',d5,tk5,os5⟩:=s5
 have eg:g5'=s.gens:=mv.gens
 have ed:d5=d2:=mv.drawn
 have eos:os5=s.os:=mv.os
 subst eg;subst ed;subst eos
 refine hQ h5 d5 tk5 ord ms hi hp (λ b o e=>?_) (Heap.lt_size g5)
 have lb:=Heap.lt_size e
 have b1:b≠s.heap.objs.size:=Nat.ne_of_lt lb
 have le':s.heap.objs.size+1<=it:=by rw[<- sz1];exact le
 have b2:b≠it:=Nat.ne_of_lt (Nat.lt_of_lt_of_le lb (Nat.le_trans (Nat.le_succ _) le'))
 exact mv.heap b o (by simp only[List.mem_cons,List.not_mem_nil,or_false,not_or];exact⟨b1,b2⟩) (keep4 b o b1 (keep2 _ _ (keep1 _ _ e)))
theorem Jth {ns:List Int}{Q:Value->Shared->Prop}(hh:A.handled=none) (hS:SetI wd s.heap a ns) (h64:ns.length<64)
  (h:∀D h' d' tk out ns' c,IntsAre out ns'->ns'.Perm ns->ns'.Pairwise (· <= ·)->s.heap.objs.size<=D->(∀b o,s.heap.get? b=some o->h'.get? b=some o)->h'.get? D=some (seqObj "list" (List.toArray out) c)->Q (.ref D) { s with heap:=h',drawn:=d',toks:=tk }) :
  wpAny (model pr wd) A (call (.builtin "sorted") [.ref a]) Q E s:=by
 refine Calls.call_function_entry kind_sorted plain_sorted entry_sorted (args_sorted1 _) ?_
 unfold Builtin.«sorted»
 refine wpAny_bind (m:=checkCount "sorted" 1 1 _) (wpAny_pure ?_)
 refine wpAny_bind (Jpy hh hS (by omega) λ h2 d2 tk2 ord ms hi hp keep lz=>?_)
 have lo:ord.length=ns.length:=by rw[hi.length,hp.length_eq]
 refine wpAny_bind (wpAny_newList ?_ (by rw[lo,sizeLine_eq];omega))
 have gL:(h2.push (seqObj "list" ord.toArray 0)).get? h2.objs.size=some (seqObj "list" ord.toArray 0):=Heap.get?_push_size _ rfl
 refine wpAny_bind (wpAny_holding (wpAny_call_entry (s:={ s with heap:=h2.push (seqObj "list" ord.toArray 0),drawn:=d2,toks:=tk2 }) slot_list_sort ⟨_,gL,rfl⟩ entry_list_sort (list_sort_tree (s:={ s with heap:=h2.push (seqObj "list" ord.toArray 0),drawn:=d2,toks:=tk2 }) gL hi (by omega) λ out ns' a1 a2 a3=>⟨_,rfl,?_⟩) (args_list_sort _)))
 obtain⟨e1,ho1⟩:∃e1,((h2.push (seqObj "list" ord.toArray 0)).update h2.objs.size (Obj.mapSeq λ _=>#[])).get? h2.objs.size=some (seqObj "list" #[] e1):=⟨_,get?_update_seq gL (λ _=>#[])⟩
 have ho6:((((h2.push (seqObj "list" ord.toArray 0)).update h2.objs.size (Obj.mapSeq λ _=>#[])).push (seqObj "tuple" ord.toArray 0)).push (seqObj "list" #[] 0)).get? h2.objs.size=some (seqObj "list" #[] e1):=Heap.get?_push_of_some _ (Heap.get?_push_of_some _ ho1)
 obtain⟨c,hc⟩:∃c,(sortedHeap (h2.push (seqObj "list" ord.toArray 0)) h2.objs.size ord out).get? h2.objs.size=some (seqObj "list" out c):=⟨_,get?_update_seq ho6 (λ _=>out)⟩
 refine wpAny_pure ⟨_,rfl,h h2.objs.size _ d2 tk2 out.toList ns' c a1 (a2.trans hp) a3 (Nat.le_of_lt lz) (λ b o e=>?_) (by rw[Array.toArray_toList];exact hc)⟩
 have nb:b≠h2.objs.size:=Nat.ne_of_lt (Heap.lt_size (keep b o e))
 exact(Heap.get?_update_other _ _ (Ne.symm nb)).trans (Heap.get?_push_of_some _ (Heap.get?_push_of_some _ ((Heap.get?_update_other _ _ (Ne.symm nb)).trans (Heap.get?_push_of_some _ (keep b o e)))))
end
theorem Jvj {X:Cx}{pins:List (Addr×Obj)}{σ:L2.St}{H:Hp}{s:Shared}{d:Drawn}(I:Inv X pins σ H s):Inv X pins σ H { s with drawn:=d }:=⟨I.ok,I.os,I.bare,I.base,I.loc,I.cell,I.free,I.freeC,I.pin,I.hok,I.len⟩
section
variable {ce:Str->Option Addr}{X:Cx}
noncomputable def Jgy (aa:A1):E1:=λ σ h=>(aa σ h).bind λ xs h1=>match xs with
 | [.ref i]=>(match h1[i]? with
  | some (.lst ys)=>(match Jbs ys with
   | some zs=>if zs.length<64 then .ok (.ref h1.length) (h1++[.lst ((Jc7 (ddN (Jbd zs) zs.length)).map .int)]) else .stuck
   | none=>.stuck)
  | _=>.stuck)
 | _=>.stuck
theorem Jvh {a:Expr}{aa:A1}{p pos p2 pos2:Pos}(hh:X.A.handled=none) (g1:Gl X "sorted") (m1:X.mg "sorted"=none) (g2:Gl X "set") (m2:X.mg "set"=none) (ha:PAi ce X [a] aa) (hs:starEach [a] X.env=[(false,eval a X.env)]) :
  PEi ce X (.Call (.Name "sorted" p) [.Call (.Name "set" p2) [a] [] pos2] [] pos) (Jgy aa):=λ pins s σ H ι σi h Q E N K=>by
 refine wpAny_Call_Name_kw (Jc2 N.inv g1 m1 rfl ?_)
 refine PyProof.Rows.callWith_builtin1 ?_ rfl rfl
 refine PyProof.Rows.spliced_more ?_
 refine wpAny_Call_Name_kw (Jc2 N.inv g2 m2 rfl ?_)
 refine PyProof.Rows.callWith_type1 ?_ hs rfl
 refine(ha pos2).run N K λ xs h1 us s1 H1 ι1 N1 n1 r1 K1=>?_
 obtain⟨vs,rv,qs⟩:=r1
 match xs,K1 with
 | [.ref i],K1 =>
  obtain⟨w,rfl,ad,rfl,hav⟩:=qs.one_of
  obtain⟨u,rfl,ru⟩:=Jk3 rv
  cases ru
  dsimp only at K1
  cases hi:h1[i]? with
  | none=>rw[hi] at K1;exact Zf K1
  | some ob =>
   rw[hi] at K1
   cases ob with
   | lst ys =>
    dsimp only at K1
    cases hb:Jbs ys with
    | none=>rw[hb] at K1;exact Zf K1
    | some zs =>
     rw[hb] at K1
     dsimp only at K1
     split at K1
     ·rename_i room
      obtain⟨ws,e1,r3⟩:=N1.at hi hav
      obtain⟨its,rv2,pl,_⟩:=N1.inv.list (SqL.of e1)
      have are:=Jhl hb r3 rv2
      have dl:=Juo (Jbd zs) zs.length
      refine Jwj hh pl.isList are (show zs.length+1<4096 by omega) λ h2 tk hS keep=>PyProof.Rows.spliced_none ?_
      obtain⟨ms,hm,pm⟩:=hS
      have lm:ms.length<=zs.length:=by rw[pm.length_eq];exact dl
      refine Jth (s:={ s1 with heap:=h2,toks:=tk }) hh hm (by omega) λ D h3 d3 tk3 out ns' c a1 a2 a3 le keep3 hc=>?_
      have en:=Jrs (a2.trans pm) a3
      subst en
      have leD:s1.heap.objs.size<=D:=by
       obtain⟨o,es,ep,t,ho,_⟩:=hm
       exact Nat.le_trans (Nat.le_of_lt (Heap.lt_size ho)) le
      have hl:((Jc7 (ddN (Jbd zs) zs.length)).map V.int).length<=sizeLine:=by
       have:=(a2.trans pm).length_eq
       rw[List.length_map,this,sizeLine_eq]
       omega
      have I':=N1.inv.laid (a:=D) (o:=.lst ((Jc7 (ddN (Jbd zs) zs.length)).map V.int)) (h':=h3) (t':=tk3) (λ b u q=>keep3 _ _ (keep _ _ q)) leD ⟨hl,out,c,Jbv a1,hc⟩
      exact finA N1 K1 D (N1.inv.hok.fresh leD) ⟨_,Jf,Jm9 _⟩ _ _ (Jvj (d:=d3) I') rfl
     ·exact Zf K1
   | _=>exact Zf K1
 | [],K1=>exact Zf K1
 | [.non],K1=>exact Zf K1
 | [.bl _],K1=>exact Zf K1
 | [.int _],K1=>exact Zf K1
 | [.str _],K1=>exact Zf K1
 | [.tup _],K1=>exact Zf K1
 | [.rol _],K1=>exact Zf K1
 | x::_::_,K1=>cases x<;>exact Zf K1
end
end L3
namespace L4
open PySem PySem.Spec PyProof.Rows L2 L3
noncomputable def stE:E1:=λ _ _=>.stuck
noncomputable def stT:T1:=λ _ _=>.stuck
noncomputable def stO:O1:=λ _ _=>.stuck
noncomputable def stI:I1:=λ _ _=>.stuck
noncomputable def stG:G1:=λ _ _ _=>.stuck
noncomputable def stS:S1:=λ _ _=>.stuck
structure Fn where
 np:Nat
 dvs:List IV
 run:List IV->IH->Res IV
structure Pg where
 fn:Str->Option Fn
 cls:Str->Option Fn
 meth:Str->Str->Option Fn
 con:Str->Option IV
 isa:Str->Option (Str->Bool)
 fld:Str->Bool
 free:Str->Bool
 tabs:Str->Option Nat
 rz:Str->Bool
 bas:Str->Bool
 xi:Str->Option (Str->Option Bool)
 wr:Str->Option (List IV->IH->Res IV)
 ne:Str->Bool
 xo:Str->Option Fn
 xf:Str->Str->Bool
 xb:Str->Bool
structure Sc where
 N:List Str
 names:List (Str×NameKind)
 own:Bool
 q:Str
noncomputable def ixOf (x:Str):List Str->Option Nat
 | []=>none
 | y::r=>if y==x then some 0 else(ixOf x r).map (· + 1)
noncomputable def Sc.vis (S:Sc) (x:Str):Option Nat :=
 match S.names.lookup x with
 | some .local=>if x=="__debug__"||x=="__classdict__" then none else ixOf x S.N
 | some .cell=>if x=="__debug__"||x=="__classdict__" then none else ixOf x S.N
 | some .free=>if x=="__debug__"||x=="__classdict__" then none else ixOf x S.N
 | _=>none
noncomputable def Sc.gl (S:Sc) (x:Str):Bool:=S.names.lookup x==some .globalImplicit&&!(x=="__debug__")&&!(x=="__name__")
noncomputable def Sc.sto (S:Sc) (x:Str):Option Nat :=
 match S.names.lookup x with
 | some .local=>ixOf x S.N
 | some .cell=>if S.own then ixOf x S.N else none
 | _=>none
noncomputable def evC:Const->E1
 | .int i=>eC (.int i)
 | .bool b=>eC (.bl b)
 | .none=>eC .non
 | .str x=>eC (.str x)
 | _=>stE
noncomputable def binI:Operator->IV->IV->IH->Res IV
 | .Add=>Jm
 | .Sub=>Jkf
 | .Mult=>Jd5
 | .FloorDiv=>J9
 | .Mod=>Jp
 | .Pow=>Jg6
 | _=>λ _ _ _=>.stuck
noncomputable def cmpI:CmpOp->IV->IV->IH->Res IV
 | .Lt=>cLt
 | .LtE=>cLe
 | .Gt=>cGt
 | .GtE=>cGe
 | .Eq=>cEq
 | .NotEq=>cNe
 | .Is=>cIs
 | .IsNot=>Jj1
 | _=>λ _ _ _=>.stuck
noncomputable def unI:UnaryOp->IV->IH->Res IV
 | .Not=>Jqi tru
 | .USub=>J1f
 | _=>λ _ _=>.stuck
noncomputable def J0k:List E1->E1
 | []=>stE
 | [a]=>a
 | a::b::r=>eAnd a (J0k (b::r)) tru
noncomputable def eOrs:List E1->E1
 | []=>stE
 | [a]=>a
 | a::b::r=>eOr a (eOrs (b::r)) tru
noncomputable def J16:List T1->T1
 | []=>stT
 | [a]=>a
 | a::b::r=>Jtk a (J16 (b::r))
noncomputable def tOrs:List T1->T1
 | []=>stT
 | [a]=>a
 | a::b::r=>tOrI a (tOrs (b::r))
noncomputable def aAll:List E1->A1
 | []=>aNil
 | a::r=>Ja a (aAll r)
noncomputable def Ji:Expr->Bool
 | .Starred .. =>false
 | _=>true
noncomputable def Jsw:Expr->Bool
 | .Set .. =>false
 | _=>true
noncomputable def Jff:Expr->Bool
 | .Slice .. =>false
 | _=>true
noncomputable def Jg5:Expr->Bool
 | .ListComp .. =>false
 | .SetComp .. =>false
 | .DictComp .. =>false
 | _=>true
noncomputable def Jd4:Expr->Bool
 | .Call (.Name ..) [] [] _=>false
 | _=>true
noncomputable def isM1:Expr->Bool
 | .UnaryOp .USub (.Constant (.int 1) _ _) _=>true
 | _=>false
noncomputable def Fn.fill (f:Fn) (n:Nat):Option (List IV):=if n<=f.np/\f.np<=n+f.dvs.length then some (f.dvs.drop (f.dvs.length-(f.np-n))) else none
noncomputable def Jra (f:Fn) (n:Nat) (a:A1):E1:=match f.fill n with
 | some d=>Jl f.run d a
 | none=>stE
noncomputable def Jrb (c:Str) (f:Fn) (n:Nat) (a:A1):E1:=match f.fill (n+1) with
 | some d=>Jn4 c f.run d a
 | none=>stE
noncomputable def bltF (x:Str):List IV->IH->Res IV :=
 if x=="len" then on1 lenI else if x=="all" then on1 allI else if x=="sum" then on1 sumI else if x=="sorted" then on1 Jhp else if x=="max" then on1 Jsv else λ _ _=>.stuck
noncomputable def bltT (x:Str):List IV->IH->Res IV :=
 if x=="list" then on1 Jon else if x=="tuple" then on1 Jko else λ _ _=>.stuck
noncomputable def Jvl (x:Str):Bool:=x=="len"||x=="all"||x=="sum"||x=="sorted"||x=="max"
noncomputable def Jvm (x:Str):Bool:=x=="list"||x=="tuple"
noncomputable def Jw7 (P:Pg) (x:Str):Option (Ty->Option Bool) :=
 match P.isa x with
 | some g=>some λ t=>match t with|.ins c=>some (g c)|.exc _=>none|_=>some false
 | none=>if P.free x then(if x=="int" then some Jer else if x=="bool" then some Jbi else if x=="str" then some Jfo else if x=="list" then some (if P.ne "Work" then Jat else Ja1) else if x=="tuple" then some Jda else none) else none
noncomputable def J0l (o:Option (Ty->Option Bool)) (e:E1):E1:=match o with
 | some ans=>eIsi ans e
 | none=>stE
noncomputable def bmOf (T:String) (m:Str) (n:Nat):Option (IV->List IV->IH->Res IV) :=
 if T=="list"&&m=="append"&&n==1 then some Jhd else if T=="list"&&m=="clear"&&n==0 then some Jk7 else if T=="str"&&m=="join"&&n==1 then some Jsm else none
noncomputable def Jr6 (P:Pg) (m:Str) (n:Nat):Str->Option ((List IV->IH->Res IV)×List IV):=λ c=>match P.meth c m with
 | some f=>(match f.fill (n+1) with
  | some d=>some (f.run,d)
  | none=>none)
 | none=>none
noncomputable def Jsi (v:IV) (h:IH):Bool:=match v with
 | .ref i=>(match h[i]? with
  | some (.ins ..)=>true
  | _=>false)
 | _=>false
noncomputable def tyS (v:IV) (h:IH):String:=match v with
 | .str _=>"str"
 | .rol _=>"list"
 | .ref i=>(match h[i]? with
  | some (.lst _)=>"list"
  | some (.dct _)=>"dict"
  | _=>"")
 | _=>""
noncomputable def eDot (P:Pg) (m:Str) (n:Nat) (o:E1) (a:A1):E1:=λ σ h=>match o σ h with
 | .ok v h1=>if Jsi v h1 then Jxg m (Jr6 P m n) o a σ h else(match bmOf (tyS v h1) m n with
  | some g=>eBm (tyS v h1) g o a σ h
  | none=>.stuck)
 | _=>.stuck
noncomputable def J28 (n:Nat) (a:A1):I1:=match n with
 | 1=>iRg Jc1 a
 | 2=>stI
 | _=>stI
noncomputable def gAll:List G1->List IV->ISt->IH->SRes
 | []=>gN
 | g::r=>gC g (gAll r)
noncomputable def Jm1 (sc:Scope):List Str:=sc.names.filterMap λ x=>if x.2==.local&&!(x.1==(".0":Str)) then some x.1 else none
noncomputable def Ji2 (sc:Scope):List Str:=sc.names.filterMap λ x=>if x.2==.free then some x.1 else none
noncomputable def jsOf (S:Sc) (sc:Scope):List Nat:=(Ji2 sc).map λ x=>(ixOf x S.N).getD 0
noncomputable def Sc.comp (S:Sc) (sc:Scope):Sc where
 N:=Jm1 sc++Ji2 sc
 names:=sc.names.map λ x=>if x.2==.free&&S.names.lookup x.1==some .cell then(x.1,.cell) else x
 own:=false
 q:=""
noncomputable def Sc.lam (S:Sc) (x:Str) (sc:Scope):Sc where
 N:=x::Ji2 sc
 names:=sc.names
 own:=false
 q:=""
noncomputable def Jok (S:Sc) (x:Str) (sc:Scope):Bool :=
 sc.kind==.function&&!sc.isCoroutine&&!sc.isGenerator&&sc.names.all (λ y=>!(y.2==.cell))&&sc.names.lookup x==some .local&&sc.names.all (λ y=>!(y.2==.free)||S.names.lookup y.1==some .cell)
  && (Ji2 sc).all (λ y=>decide (S.N[(ixOf y S.N).getD 0]?=some y)&&sc.names.lookup y==some .free)&&decide (x::Ji2 sc).Nodup
noncomputable def Sc.fake (S:Sc):Scope:={ kind:=.function,names:=S.names,isGenerator:=false,isCoroutine:=false }
noncomputable def Jut:Expr->Bool
 | .Name x _=>x=="last_come"||x=="tops"||x=="last"||x=="_law_last"||x=="_law_lows_here"
 | _=>false
noncomputable def ixD (a:Expr):IV->IV->IH->Res IV:=if Jut a then Jqh else opIx
noncomputable def txtB:Expr->Bool
 | .Name x _=>x=="_law_word_here"||x=="_law_name"
 | .Subscript .. =>true
 | _=>false
noncomputable def slD (a:Expr):IV->Option Int->Option Int->IH->Res IV:=if txtB a then slT else slI
noncomputable def cmpD (ne:Str->Bool) (o:CmpOp) (b:Expr):IV->IV->IH->Res IV:=match o with
 | .In=>if Jut b then cInD else λ _ _ _=>.stuck
 | o=>cmpI o
noncomputable def gSbF (a:Expr) (o i:E1):G1:=if Jut a then gSbD o i else stG
noncomputable def Jrn:Expr->Option Expr
 | .Call (.Name y _) [e] [] _=>if y=="set"&&Ji e then some e else none
 | _=>none
noncomputable def Jzm:Expr->Option Expr
 | .Call (.Name y _) [e] [] _=>if y=="range"&&Ji e then some e else none
 | _=>none
noncomputable def Jpu (P:Pg) (S:Sc) (x:Str) (f:Expr->E1):List Expr->E1
 | [a,b]=>if x=="max" then eCB (on2 maxI) (Ja (f a) (Ja (f b) aNil)) else if x=="min" then stE else(match b with
  | .Name y _=>if x=="isinstance"&&S.gl y then J0l (Jw7 P y) (f a) else stE
  | _=>stE)
 | [a]=>(match (if x=="len"&&S.gl "set"&&P.free "set" then Jrn a else none) with
  | some e=>Jj5 (Ja (f e) aNil)
  | none=>match (if x=="list"&&S.gl "range"&&P.free "range" then Jzm a else none) with
  | some _=>stE
  | none=>if Jvl x then eCB (bltF x) (Ja (f a) aNil) else if Jvm x then eCB (bltT x) (Ja (f a) aNil) else stE)
 | _=>stE
noncomputable def Jwh:List Expr->Option Expr
 | [a]=>Jrn a
 | _=>none
noncomputable def Jja (P:Pg) (S:Sc) (x:Str) (f:Expr->E1) (args:List Expr):E1:=match (if x=="sorted"&&S.gl "set"&&P.free "set" then Jwh args else none) with
 | some e=>Jgy (Ja (f e) aNil)
 | none=>Jpu P S x f args
noncomputable def J41 (P:Pg) (S:Sc) (f:Sc->Expr->E1) (x:Str) (a:Expr) (k:Str):Expr->E1
 | .Lambda ps body sc _=>(match Jiu ps,P.tabs S.q with
  | some y,some j=>if x=="sorted"&&k=="key"&&S.gl x&&P.free x&&Ji a&&S.own&&Jok S y sc then Jk8 S.q j (jsOf S sc) (Ja (f S a) aNil) (f (S.lam y sc) body) else stE
  | _,_=>stE)
 | _=>stE
noncomputable def Jvt (P:Pg) (S:Sc) (f:Sc->Expr->E1) (x:Str) (args:List Expr) (kws:List Keyword):E1:=match args,kws with
 | [a],[⟨some k,d,_⟩]=>if x=="max"&&k=="default"&&S.gl x&&P.free x&&Ji a then Ju0 (Ja (f S a) aNil) (f S d) else if x=="sorted" then J41 P S f x a k d else stE
 | _,_=>stE
noncomputable def Jun (ifs:List Expr) (f:Expr->T1) (m:T1->E1):E1:=match ifs with
 | []=>m Jaa
 | [c]=>m (f c)
 | _=>stE
noncomputable section
mutual
noncomputable def ev (P:Pg):Nat->Sc->Expr->E1
 | 0,_,_=>stE
 | n+1,S,e=>match e with
  | .Constant c _ _=>evC c
  | .Name x _=>(match S.vis x with
   | some i=>eVar i
   | none=>if S.gl x then(match P.con x with
    | some v=>eC v
    | none=>stE) else stE)
  | .BinOp a op b _=>eBin (binI op) (ev P n S a) (ev P n S b)
  | .UnaryOp op a _=>eUn (unI op) (ev P n S a)
  | .BoolOp .And vs _=>J0k (vs.map (ev P n S))
  | .BoolOp .Or vs _=>eOrs (vs.map (ev P n S))
  | .IfExp t a b _=>eIf (evT P n S t) (ev P n S a) (ev P n S b)
  | .Compare a [o] [b] _=>if behindInMarks o b then stE else eBin (cmpD P.ne o b) (ev P n S a) (ev P n S b)
  | .Compare a [o,o'] [b,c] _=>if lastMarks [o,o'] [b,c] then stE else Jbc (cmpI o) (cmpI o') (ev P n S a) (ev P n S b) (ev P n S c)
  | .Tuple es _ _=>if es.all Ji then eTup (aAll (es.map (ev P n S))) else stE
  | .Dict [] [] _=>Juz
  | .List es _=>if es.all Ji then eLst (aAll (es.map (ev P n S))) else stE
  | .Subscript a (.Slice lo hi none _) _=>eSl (slD a) (ev P n S a) (evO P n S lo) (evO P n S hi)
  | .Subscript a i _=>if Jff i then eBin (ixD a) (ev P n S a) (ev P n S i) else stE
  | .Attribute o f _=>if Jd4 o&&P.fld f then eFld f (ev P n S o) else stE
  | .Call (.Name x _) args [] _=>if S.gl x&&args.all Ji then Ju5 P n S x args else stE
  | .Call (.Name x _) args (kw::kws) _=>Jvt P S (λ S e=>ev P n S e) x args (kw::kws)
  | .Call (.Attribute o m ap) args [] p=>if args.all Ji&&Jd4 o&&(ap.endLine==p.line)&&decide (args.length<30) then eDot P m args.length (ev P n S o) (aAll (args.map (ev P n S))) else stE
  | .ListComp elt [⟨tg,iter,ifs,as⟩] sc _ =>
   if as=0/\Jsw iter=true/\Jc0 S.N (Jm1 sc) (Ji2 sc) (jsOf S sc) S.fake sc=true then
    Jun ifs (evT P n (S.comp sc)) λ mt=>J0 (evI P n S tg iter) (Jm1 sc).length (jsOf S sc) (tgt P n (S.comp sc) tg) mt (ev P n (S.comp sc) elt)
   else stE
  | _=>stE
noncomputable def evT (P:Pg):Nat->Sc->Expr->T1
 | 0,_,_=>stT
 | n+1,S,e=>match e with
  | .UnaryOp .Not a _=>Jal (evT P n S a)
  | .BoolOp .And vs _=>J16 (vs.map (evT P n S))
  | .BoolOp .Or vs _=>tOrs (vs.map (evT P n S))
  | .IfExp .. =>stT
  | .Compare a [o] [b] _=>if behindInMarks o b then stT else tOfB asB (eBin (cmpD P.ne o b) (ev P n S a) (ev P n S b))
  | .Compare a [o,o'] [b,c] _=>if lastMarks [o,o'] [b,c] then stT else tOfB asB (Jbc (cmpI o) (cmpI o') (ev P n S a) (ev P n S b) (ev P n S c))
  | .Compare .. =>stT
  | e=>tOfB tru (ev P n S e)
noncomputable def evO (P:Pg):Nat->Sc->Option Expr->O1
 | 0,_,_=>stO
 | _+1,_,none=>Jm4
 | n+1,S,some e=>Ji4 (ev P n S e)
noncomputable def Ju5 (P:Pg):Nat->Sc->Str->List Expr->E1
 | 0,_,_,_=>stE
 | n+1,S,x,args=>match P.fn x with
  | some f=>Jra f args.length (aAll (args.map (ev P n S)))
  | none=>match P.cls x with
   | some f=>Jrb x f args.length (aAll (args.map (ev P n S)))
   | none=>if P.free x then Jja P S x (ev P n S) args else stE
noncomputable def evI (P:Pg):Nat->Sc->Expr->Expr->I1
 | 0,_,_,_=>stI
 | n+1,S,tg,e=>match e with
  | .Call (.Name x _) args [] _ =>
   if S.gl x&&P.free x&&args.all Ji&&(x=="range") then J28 args.length (aAll (args.map (ev P n S)))
   else if S.gl x&&P.free x&&args.all Ji&&(x=="enumerate") then(match tg,args with
    | .Tuple ..,[a]=>iRg Jd0 (Ja (ev P n S a) aNil)
    | _,_=>stI)
   else iAny (ev P n S e)
  | e=>iAny (ev P n S e)
noncomputable def tgt (P:Pg):Nat->Sc->Expr->G1
 | 0,_,_=>stG
 | n+1,S,e=>match e with
  | .Name x _=>(match S.sto x with
   | some i=>gNm i
   | none=>stG)
  | .Tuple es _ _=>if es.all Ji then gTp es.length (gAll (es.map (tgt P n S))) else stG
  | .Subscript o i _=>if Jff i then gSbF o (ev P n S o) (ev P n S i) else stG
  | _=>stG
end
end
noncomputable def ipI:Operator->IV->IV->IH->Res IV
 | .Add,.int i,.int j,h=>.ok (.int (i+j)) h
 | _,_,_,_=>.stuck
noncomputable def sAug (op:Operator) (i:Nat) (e:E1):S1:=λ σ h=>rS σ (eVar i σ h) λ x h1=>rS σ (e σ h1) λ y h2=>rS σ (ipI op x y h2) λ z h3=>.next (σ.set i (some z)) h3
noncomputable def J1p (op:Operator) (f:Str) (o e:E1):S1:=λ σ h=>rS σ (o σ h) λ ov h1=>match ov with
 | .ref i=>(match h1[i]? with
  | some (.ins _ fs)=>(match fs.lookup f with
   | some x=>rS σ (e σ h1) λ y h2=>rS σ (ipI op x y h2) λ z h3=>(match h3[i]? with
    | some (.ins c gs)=>if gs.length<1000 then .next σ (h3.set i (.ins c (putI f z gs))) else .stuck
    | _=>.stuck)
   | none=>.stuck)
  | _=>.stuck)
 | _=>.stuck
noncomputable def ixL:IV->IV->IH->Res IV
 | .ref i,.int k,h=>match h[i]? with
  | some (.lst xs)=>(match atI xs k with
   | some v=>if 0<=k then .ok v h else .stuck
   | none=>.stuck)
  | _=>.stuck
 | _,_,_=>.stuck
noncomputable def J1q (op:Operator) (o k e:E1):S1:=λ σ h=>rS σ (o σ h) λ ov h1=>rS σ (k σ h1) λ kv h2=>rS σ (ixL ov kv h2) λ x h3=>rS σ (e σ h3) λ y h4=>rS σ (ipI op x y h4) λ z h5=>setI ov kv z σ h5
noncomputable def sAll:List S1->S1
 | []=>sNil
 | [a]=>a
 | a::b::r=>sSeq a (sAll (b::r))
noncomputable def J1c:Expr->Bool
 | .Tuple .. =>false
 | _=>true
noncomputable def Jxu:Expr->Bool
 | .Tuple .. =>true
 | _=>false
noncomputable def isLC:Expr->Bool
 | .ListComp .. =>true
 | _=>false
noncomputable def Jxt:Expr->Bool
 | .Subscript .. =>true
 | _=>false
noncomputable abbrev Xi:=Str->Option (Str->Option Bool)
noncomputable section
end
noncomputable section
end
noncomputable def J1r (P:Pg) (f:Str) (o e:E1):S1:=if P.fld f then Jkk f o e else stS
noncomputable section
noncomputable def ex (P:Pg):Nat->Sc->Stmt->S1
 | 0,_,_=>stS
 | n+1,S,st=>match st with
  | .Pass _=>J1s
  | .Break _=>Jzn
  | .Continue _=>J4n
  | .Expr e _=>if Jg5 e then Jg9 (ev P n S e) else stS
  | .Return none _=>J1t
  | .Return (some e) _=>sRet (ev P n S e)
  | .If c a b _=>sIf (evT P n S c) (sAll (a.map (ex P n S))) (sAll (b.map (ex P n S)))
  | .For tg it a [] _=>if Jsw it&&S.own then sFor (evI P n S tg it) (tgt P n S tg) (sAll (a.map (ex P n S))) else stS
  | .Assign [.Name x _] e _=>if Jg5 e||isLC e then(match S.sto x with
   | some i=>sSet i (ev P n S e)
   | none=>stS) else stS
  | .Assign [.Attribute o f _] e _=>if Jg5 e then J1r P f (ev P n S o) (ev P n S e) else stS
  | .Assign [tg] e _=>if Jg5 e&&((Jxu tg&&J1c e)||Jxt tg) then sAsg (ev P n S e) (tgt P n S tg) else stS
  | .AugAssign (.Name x _) op e _=>(match S.sto x with
   | some i=>sAug op i (ev P n S e)
   | none=>stS)
  | .AugAssign (.Attribute o f _) op e _=>if P.fld f then J1p op f (ev P n S o) (ev P n S e) else stS
  | .AugAssign (.Subscript o k _) op e _=>if Jff k then J1q op (ev P n S o) (ev P n S k) (ev P n S e) else stS
  | _=>stS
end
structure FnD (ce:Str->Option Addr) (prog:Program) (w:World) (K:W.Frag) (mg:Str->Option Value) (base:Heap) (k:Nat) (f:Fn) (fa:Addr) (fd:FuncData) (ps:List Str):Prop where
 len:ps.length=f.np
 ok:FnOk prog w K mg base (CXI prog w) k fa fd ps (spI ce K ps f.run)
 dv:∀j,j<=f.dvs.length->∃ds,Je3 K fd ps ds/\ds.length=f.dvs.length-j/\∃vs,Vals vs ds/\∀ι H,RVs K ι H (f.dvs.drop j) vs
structure PgOk (ce:Str->Option Addr) (k:Nat) (P:Pg) (prog:Program) (w:World) (K:W.Frag) (mg:Str->Option Value) (base:Heap):Prop where
 fn:∀x f,P.fn x=some f->∃fa fd ps,mg x=some (.ref fa)/\W.keepIn K (.ref fa)=true/\FnD ce prog w K mg base k f fa fd ps
 cls:∀x f,P.cls x=some f->∃C fa fd ps,mg x=some (.ref C)/\ce x=some C/\Mk K C fa/\FnD ce prog w K mg base k f fa fd ps
 meth:∀c m f,P.meth c m=some f->∃C fa fd ps,ce c=some C/\Cls K C/\Meth K C m fa/\FnD ce prog w K mg base k f fa fd ps
 con:∀x v,P.con x=some v->∃u y,mg x=some u/\RelV y u/\∀ι H,RV K ι H v y
 isa:∀D g,P.isa D=some g->∃c,mg D=some c/\IsOk ce K c λ t=>match t with|.ins c=>some (g c)|.exc _=>none|_=>some false
 fld:∀f,P.fld f=true->Jt5 ce K f
 free:∀x,P.free x=true->mg x=none
 blt:∀q j,P.tabs q=some j->Jjj mg base
 bas:∀x,P.bas x=true->∃C,mg x=some (.ref C)/\BasK K C
 ne:∀c,P.ne c=true->∃C,ce c=some C/\neIn K C=true/\ClsI K C/\W.kitOne K (.ref C) (.type "list")=some false
structure Good (ce:Str->Option Addr) (k:Nat) (P:Pg) (S:Sc) (X:Cx):Prop where
 n:X.N=S.N
 sc:X.env.scope.names=S.names
 nd:S.N.Nodup
 fk:X.env.scope.kind=.function
 calm:X.calm=true
 room:Room (k+1) X.A
 st:S.own=true->∀x,X.fn x=true
 pg:PgOk ce k P X.prog X.w X.K X.mg X.base
 code:S.own=true->W.codeIn X.K X.env.code S.q=true/\X.env.qual=S.q++".<locals>."
 room3:S.own=true->Room (k+3) X.A
 top:S.own=true->X.stack=X.env::X.outer/\X.env.frame=some X.env.locals
section
variable {ce:Str->Option Addr}{k:Nat}{P:Pg}{S:Sc}{X:Cx}{α β:Type}{R:REL α β}
theorem Jb {t:Sem β}:PX ce X R t (λ _ _=>.stuck):=λ _ _ _ _ _ _ _ _ _ _ K=>(show False from K).elim
theorem px_pt {t:Sem β}{m:ISt->IH->Res α}(hh:∀σi h,∃m',m σi h=m' σi h/\PX ce X R t m'):PX ce X R t m:=by
 intro pins s σ H ι σi h Q E N K
 obtain⟨m',e,p⟩:=hh σi h
 rw[e] at K
 exact p pins s σ H ι σi h Q E N K
theorem Jg7 {tg e:Expr}:PIi ce X tg e stI:=λ _ _ _ _ _ _ _ _ _ _ K=>(show False from K).elim
theorem Jej {e:Expr}:PGi ce X e stG:=λ _ _ _ _ _ _ _ _ _ _ _ _ _ K=>(show False from K).elim
theorem Jn {t:Sem Flow}:PSi ce X t stS:=λ _ _ _ _ _ _ _ _ _ _ K=>(show False from K).elim
theorem Jje {x:Str}:∀{l:List Str}{i:Nat},ixOf x l=some i->l[i]?=some x
 | [],_,h=>by cases h
 | y::r,i,h=>by
  unfold ixOf at h
  split at h
  ·rename_i e
   cases h
   simp[beq_iff_eq.mp e]
  ·obtain⟨j,hj,rfl⟩:=Option.map_eq_some_iff.mp h
   simpa using Jje hj
theorem Good.kind (G:Good ce k P S X) (x:Str):X.env.kindOf x=S.names.lookup x:=by
 show X.env.scope.names.lookup x=_
 rw[G.sc]
theorem Good.vis (G:Good ce k P S X){x:Str}{i:Nat}(h:S.vis x=some i):X.N[i]?=some x/\Vis X.env.scope x/\(x==("__debug__":Str))=false/\(x==("__classdict__":Str))=false:=by
 unfold Sc.vis at h
 have fin:∀{o:NameKind},(o=.local∨o=.cell∨o=.free)->S.names.lookup x=some o->(if (x==("__debug__":Str)||x==("__classdict__":Str))=true then none else ixOf x S.N)=some i ->
   X.N[i]?=some x/\Vis X.env.scope x/\(x==("__debug__":Str))=false/\(x==("__classdict__":Str))=false:=λ ho e h=>by
  split at h
  ·cases h
  ·rename_i hd
   have hd':=Bool.eq_false_iff.mpr hd
   rw[Bool.or_eq_false_iff] at hd'
   refine⟨by rw[G.n];exact Jje h,?_,hd'.1,hd'.2⟩
   unfold Vis
   rw[G.sc,e]
   rcases ho with rfl|rfl|rfl
   ·exact .inl rfl
   ·exact .inr (.inl rfl)
   ·exact .inr (.inr rfl)
 cases e:S.names.lookup x with
 | none=>rw[e] at h;cases h
 | some o =>
  rw[e] at h
  cases o with
  | «local» =>exact fin (.inl rfl) e h
  | cell=>exact fin (.inr (.inl rfl)) e h
  | free=>exact fin (.inr (.inr rfl)) e h
  | _=>cases h
theorem Good.gl (G:Good ce k P S X){x:Str}(h:S.gl x=true):Gl X x/\(x==("__debug__":Str))=false/\x≠"__name__":=by
 unfold Sc.gl at h
 simp only[Bool.and_eq_true,beq_iff_eq,Bool.not_eq_true'] at h
 refine⟨?_,h.1.2,λ e=>?_⟩
 ·show X.env.kindOf x=_
  rw[G.kind]
  exact h.1.1
 ·have:=h.2
  rw[e] at this
  exact absurd this (by decide)
theorem Good.sto (G:Good ce k P S X){x:Str}{i:Nat}(h:S.sto x=some i):X.N[i]?=some x/\Loc X.env.scope x/\(X.fn x=true∨X.env.scope.names.lookup x=some .local):=by
 unfold Sc.sto at h
 unfold L2.Loc
 rw[G.sc]
 cases e:S.names.lookup x with
 | none=>rw[e] at h;cases h
 | some o =>
  rw[e] at h
  cases o with
  | «local» =>exact⟨by rw[G.n];exact Jje h,.inl rfl,.inr rfl⟩
  | cell =>
   dsimp only at h
   split at h
   ·rename_i ho
    exact⟨by rw[G.n];exact Jje h,.inr rfl,.inl (G.st ho x)⟩
   ·cases h
  | _=>cases h
theorem Good.nodup (G:Good ce k P S X):X.N.Nodup:=by rw[G.n];exact G.nd
theorem Je {a:Expr}{es:List Expr}{env:Env}(h:Ji a=true):starEach (a::es) env=(false,eval a env)::starEach es env:=by
 cases a<;>first|rfl|cases h
theorem Jek {pos:Pos}{env:Env}:∀{es:List Expr},es.all Ji=true->(backTo pos (starEach es env)).any (·.1)=false
 | [],_=>rfl
 | a::es,h=>by
  simp only[List.all_cons,Bool.and_eq_true] at h
  rw[Je h.1]
  show(false||(backTo pos (starEach es env)).any (·.1))=false
  rw[Jek h.2]<;>rfl
theorem Jkl {pos:Pos}{env:Env}:∀{es:List Expr},es.all Ji=true->(backTo pos (starEach es env)).all (λ x=>!x.1)=true
 | [],_=>rfl
 | a::es,h=>by
  simp only[List.all_cons,Bool.and_eq_true] at h
  rw[Je h.1]
  show(true&&(backTo pos (starEach es env)).all (λ x=>!x.1))=true
  rw[Jkl h.2]<;>rfl
theorem J0q {pos:Pos}{env:Env}{es:List Expr}(ha:es.all Ji=true) (hn:es.length<30):((backTo pos (starEach es env)).all (λ x=>!x.1)&&(backToKw pos (keywordEach [] env)).all (λ x=>x.1.isSome)
   && decide (es.length+([]:List Keyword).length+(if ([]:List Keyword).isEmpty then 0 else 1)<30))=true:=by
 show((backTo pos (starEach es env)).all (λ x=>!x.1)&&true&&decide (es.length+0+0<30))=true
 rw[Jkl ha]
 simpa using hn
theorem Ji9:∀(l:List E1),ALen l.length (aAll l)
 | []=>Jw6
 | _::r=>Jt8 (Ji9 r)
theorem Jnq {f:Expr->E1}:∀{es:List Expr},es.all Ji=true->(∀e,PEi ce X e (f e))->PAi ce X es (aAll (es.map f))
 | [],_,_=>Jml
 | a::es,h,hf=>by
  simp only[List.all_cons,Bool.and_eq_true] at h
  exact Jeq (hf a) (Jnq h.2 hf) (Je h.1)
theorem Jzd {f:Expr->E1}{pos:Pos}(hf:∀e,PEi ce X e (f e)):∀(vs:List Expr),PEi ce X (.BoolOp .And vs pos) (J0k (vs.map f))
 | []=>Jb
 | [a]=>J3g (hf a)
 | a::b::r=>i_and Jpn (hf a) (Jzd hf (b::r))
theorem J20 {f:Expr->E1}{pos:Pos}(hf:∀e,PEi ce X e (f e)):∀(vs:List Expr),PEi ce X (.BoolOp .Or vs pos) (eOrs (vs.map f))
 | []=>Jb
 | [a]=>J3g (hf a)
 | a::b::r=>i_or Jpn (hf a) (J20 hf (b::r))
theorem Jzq {f:Expr->T1}{pos:Pos}(hf:∀e,PTi ce X e (f e)):∀(vs:List Expr),PWi ce X (.BoolOp .And vs pos) (J16 (vs.map f))
 | []=>λ _=>Jb
 | [a]=>J2b (hf a)
 | a::b::r=>J45 (hf a) (Jzq hf (b::r))
theorem J42 {f:Expr->T1}{pos:Pos}(hf:∀e,PTi ce X e (f e)):∀(vs:List Expr),PWi ce X (.BoolOp .Or vs pos) (tOrs (vs.map f))
 | []=>λ _=>Jb
 | [a]=>J46 (hf a)
 | a::b::r=>tw_or (hf a) (J42 hf (b::r))
theorem Jze {f:Expr->G1}:∀{es:List Expr},es.all Ji=true->(∀e,PGi ce X e (f e))->PGsi ce X es (gAll (es.map f))
 | [],_,_=>J27
 | a::es,h,hf=>by
  simp only[List.all_cons,Bool.and_eq_true] at h
  refine J0p (hf a) (Jze h.2 hf) ?_
  cases a<;>first|rfl|exact absurd h.1 Bool.false_ne_true
theorem Jy8 {env:Env}:∀{es:List Expr},es.all Ji=true->(assignEach es env).length=es.length
 | [],_=>rfl
 | a::es,h=>by
  simp only[List.all_cons,Bool.and_eq_true] at h
  have:assignEach (a::es) env=(false,assign a env)::assignEach es env:=by cases a<;>first|rfl|exact absurd h.1 Bool.false_ne_true
  rw[this,List.length_cons,List.length_cons,Jy8 h.2]
theorem Juc {env:Env}:∀{es:List Expr},es.all Ji=true->(assignEach es env).findIdx? (·.1)=none
 | [],_=>rfl
 | a::es,h=>by
  simp only[List.all_cons,Bool.and_eq_true] at h
  have:assignEach (a::es) env=(false,assign a env)::assignEach es env:=by cases a<;>first|rfl|exact absurd h.1 Bool.false_ne_true
  rw[this,List.findIdx?_cons,Juc h.2]
  rfl
theorem o_bin (op:Operator):OpI ce X (binaryOp op) (binI op):=by
 cases op with
 | Add=>exact o_add
 | Sub=>exact o_sub
 | Mult=>exact J31
 | FloorDiv=>exact J30
 | Mod=>exact o_mod
 | Pow=>exact o_pow
 | _=>exact λ _ _ _ _ _ _ _ _ _ _ _ _ _ _ _ _ K=>(show False from K).elim
theorem Jv2 (hu:X.A.units+64<cLine) (op:CmpOp):OpI ce X (compareOp op) (cmpI op):=by
 cases op with
 | Lt=>exact o_lt
 | LtE=>exact o_le
 | Gt=>exact o_gt
 | GtE=>exact o_ge
 | Eq=>exact o_eq hu
 | NotEq=>exact o_ne hu
 | Is=>exact o_is
 | IsNot=>exact J1d
 | _=>exact λ _ _ _ _ _ _ _ _ _ _ _ _ _ _ _ _ K=>(show False from K).elim
theorem Jzl {ne:Str->Bool}(hu:X.A.units+64<cLine) (hn:∀c,ne c=true->∃C,ce c=some C/\neIn X.K C=true) (op:CmpOp) (b:Expr):OpI ce X (compareOp op) (cmpD ne op b):=by
 unfold cmpD
 split
 ·split
  ·exact o_inD
  ·exact λ _ _ _ _ _ _ _ _ _ _ _ _ _ _ _ _ K=>(show False from K).elim
 ·exact Jv2 hu op
theorem x_slD (a:Expr):SlI ce X (slD a):=by
 unfold slD
 split
 ·exact x_slT
 ·exact x_sl
theorem x_ixF (a:Expr):IxI ce X (ixD a):=by
 unfold ixD
 split
 ·exact x_ixD
 ·exact x_ix
theorem o_un (op:UnaryOp):UnI ce X (unaryOp op) (unI op):=by
 cases op with
 | Not=>exact J2c Jpn
 | USub=>exact u_neg
 | _=>exact λ _ _ _ _ _ _ _ _ _ _ _ _ _ K=>(show False from K).elim
theorem Jec {o:Expr}{m:Str}{env:Env}{w:Sem Value}(h:Jd4 o=true):attributeBase o m env w=w:=by
 cases o with
 | Call f as ks p =>
  cases f with
  | Name x q =>
   cases as with
   | nil =>
    cases ks with
    | nil=>cases h
    | cons _ _=>rfl
   | cons _ _=>rfl
  | _=>rfl
 | _=>rfl
theorem Jak {e:Expr}{env:Env}(h:Jsw e=true) (x:Value):foldedSetIterable e env x=pure x:=by
 cases e<;>first|rfl|cases h
theorem Jel {e:Expr}{t:Option Expr}{l:Nat}{env:Env}(h:Jg5 e=true):swapsWith e t l env=pure false:=by
 cases e<;>first|rfl|cases h
theorem Jxy {i:Expr}(h:Jff i=true):Jt6 i:=λ _ _=>by
 cases i<;>first|rfl|cases h
theorem Joo {o:Expr}{m:Str}{ap pos:Pos}{es:List Expr}{env:Env}(hb:Jd4 o=true) (hs:es.all Ji=true) (hl:(ap.endLine==pos.line)=true) (hn:es.length<30) :
  eval (.Call (.Attribute o m ap) es [] pos) env=(do
   let ov<-eval o env
   standAt ap.atName
   let (f,first)<-holding [ov] (getMethod ov m (do return(<- importBound o env).getD true))
   callWith pos f first (backTo pos (starEach es env)) (backToKw pos (keywordEach [] env))):=by
 have hform:methodCallForm (es.length+([]:List Keyword).length) (backTo pos (starEach es env)) (backToKw pos (keywordEach [] env))=true:=by
  show((backTo pos (starEach es env)).all (λ x=>!x.1)&&true&&decide (es.length+0+0<30))=true
  rw[Jkl hs]
  simpa using hn
 have hpos:methodCallPos true o env ap pos=pure pos:=by unfold methodCallPos;simp[hl]
 rw[arm_eval_Call,Jec hb]
 unfold methodCall
 rw[hform,hpos]
 rfl
end
section
variable {ce:Str->Option Addr}{k:Nat}{P:Pg}{S:Sc}{X:Cx}
theorem Jn1 (G:Good ce k P S X) (N0 l c:List Str) (js:List Nat) (sc:Scope):Jc0 N0 l c js X.env.scope sc=Jc0 N0 l c js S.fake sc:=by
 unfold Jc0
 rw[G.fk,G.sc]
 rfl
theorem Good.comp (G:Good ce k P S X){sc:Scope}(h:Jc0 S.N (Jm1 sc) (Ji2 sc) (jsOf S sc) S.fake sc=true) (C:Addr) (s:Shared) (H:Hp) (fp:List Addr):Good ce k P (S.comp sc) (cxC X (Jm1 sc++Ji2 sc) sc C s H fp):=by
 simp only[Jc0,Bool.and_eq_true,decide_eq_true_eq] at h
 obtain⟨⟨⟨⟨⟨⟨⟨⟨⟨kF,kF0⟩,kNC⟩,kL⟩,kFr⟩,kFx⟩,kJ⟩,kLen⟩,kNd⟩,kLo⟩:=h
 refine⟨rfl,?_,kNd,kF,G.calm,G.room,λ z=>absurd z Bool.false_ne_true,G.pg,λ z=>absurd z Bool.false_ne_true,λ z=>absurd z Bool.false_ne_true,λ z=>absurd z Bool.false_ne_true⟩
 show(relabel sc X.env).names=_
 unfold relabel Sc.comp
 dsimp only
 refine List.map_congr_left λ x _=>?_
 obtain⟨n,kd⟩:=x
 dsimp only
 rw[G.fk,G.kind]
 simp
end
structure Snd (ce:Str->Option Addr) (k:Nat) (P:Pg) (n:Nat):Prop where
 e:∀S X e,Good ce k P S X->PEi ce X e (ev P n S e)
 t:∀S X e,Good ce k P S X->PTi ce X e (evT P n S e)
 o:∀S X e,Good ce k P S X->PPi ce X e (evO P n S e)
 c:∀S X x args p pos,Good ce k P S X->S.gl x=true->args.all Ji=true->PEi ce X (.Call (.Name x p) args [] pos) (Ju5 P n S x args)
 i:∀S X tg e,Good ce k P S X->PIi ce X tg e (evI P n S tg e)
 g:∀S X e,Good ce k P S X->PGi ce X e (tgt P n S e)
section
variable {ce:Str->Option Addr}{k:Nat}{P:Pg}{n:Nat}{S:Sc}{X:Cx}
theorem Jys:Snd ce k P 0:=⟨λ _ _ _ _=>Jb,λ _ _ _ _=>Jb,λ _ _ _ _=>Jb,λ _ _ _ _ _ _ _ _ _=>Jb,λ _ _ _ _ _=>Jg7,λ _ _ _ _=>Jej⟩
theorem Jp0 {prog:Program}{w:World}{K:W.Frag}{mg:Str->Option Value}{base:Heap}{f:Fn}{fa:Addr}{fd:FuncData}{ps:List Str}{m:Nat}{d:List IV}(D:FnD ce prog w K mg base k f fa fd ps) (h:f.fill m=some d) :
  ∃ds,Je3 K fd ps ds/\m+ds.length=ps.length/\∃vs,Vals vs ds/\∀ι H,RVs K ι H d vs:=by
 unfold Fn.fill at h
 split at h
 ·rename_i hz
  cases h
  obtain⟨ds,hb,hl,q⟩:=D.dv (f.dvs.length-(f.np-m)) (by omega)
  exact⟨ds,hb,by rw[hl,D.len];omega,q⟩
 ·cases h
theorem Jyo (G:Good ce k P S X){x:Str}{f:Fn}(hx:P.fn x=some f) (hg:S.gl x=true){args:List Expr}(ha:args.all Ji=true){g:Expr->E1}(hf:∀e,PEi ce X e (g e)){p pos:Pos} :
  PEi ce X (.Call (.Name x p) args [] pos) (Jra f args.length (aAll (args.map g))):=by
 obtain⟨fa,fd,ps,hm,hk,D⟩:=G.pg.fn x f hx
 obtain⟨gl,hdb,_⟩:=G.gl hg
 unfold Jra
 cases hd:f.fill args.length with
 | none=>exact Jb
 | some d =>
  obtain⟨ds,hb,hl,q⟩:=Jp0 D hd
  have hr:Room k X.A:=G.room.mono (Nat.le_succ k)
  cases args with
  | nil=>exact J0t D.ok hr gl hm hk hb q (by simpa using hl) hdb
  | cons a es =>
   have ha':=ha
   simp only[List.all_cons,Bool.and_eq_true] at ha'
   refine J29 D.ok hr gl hm hk hb q (Jnq ha hf) (λ σ h xs h' e=>?_) hdb (Je ha'.1) (Jek ha'.2)
   have:=Ji9 _ σ h xs h' e
   rw[List.length_map] at this
   rw[this]
   exact hl
theorem Jyp (G:Good ce k P S X){x:Str}{f:Fn}(hx:P.cls x=some f) (hg:S.gl x=true){args:List Expr}(ha:args.all Ji=true){g:Expr->E1}(hf:∀e,PEi ce X e (g e)){p pos:Pos} :
  PEi ce X (.Call (.Name x p) args [] pos) (Jrb x f args.length (aAll (args.map g))):=by
 obtain⟨C,fa,fd,ps,hm,hC,M,D⟩:=G.pg.cls x f hx
 obtain⟨gl,hdb,_⟩:=G.gl hg
 unfold Jrb
 cases hd:f.fill (args.length+1) with
 | none=>exact Jb
 | some d =>
  obtain⟨ds,hb,hl,q⟩:=Jp0 D hd
  cases args with
  | nil=>exact J0w M D.ok hC G.room gl hm hb q (by simp at hl;omega) hdb
  | cons a es =>
   have ha':=ha
   simp only[List.all_cons,Bool.and_eq_true] at ha'
   refine J3d M D.ok hC G.room gl hm hb q (Jnq ha hf) (λ σ h xs h' e=>?_) hdb (Je ha'.1) (Jek ha'.2)
   have:=Ji9 _ σ h xs h' e
   rw[List.length_map] at this
   omega
theorem Juv (G:Good ce k P S X) (m:Str) (n:Nat):Jt4 ce X m n (Jr6 P m n):=by
 intro c f dvs h
 unfold Jr6 at h
 cases hm:P.meth c m with
 | none=>rw[hm] at h;cases h
 | some fn =>
  rw[hm] at h
  dsimp only at h
  cases hd:fn.fill (n+1) with
  | none=>rw[hd] at h;cases h
  | some d =>
   rw[hd] at h
   cases h
   obtain⟨C,fa,fd,ps,hC,hcl,hM,D⟩:=G.pg.meth c m fn hm
   obtain⟨ds,hb,hl,q⟩:=Jp0 D hd
   exact⟨C,fa,fd,k,ps,ds,hC,hcl,hM,D.ok,G.room.mono (Nat.le_succ k),hb,q,by omega⟩
theorem bm_ok {T:String}{m:Str}{n:Nat}{g:IV->List IV->IH->Res IV}(h:bmOf T m n=some g):∃id,PlainAttrs T/\Slot T m id/\typeOf (.builtin id)=pure (.type "method_descriptor")/\MtI ce X T id g:=by
 unfold bmOf at h
 split at h
 ·rename_i hm
  simp only[Bool.and_eq_true,beq_iff_eq] at hm
  obtain⟨⟨rfl,rfl⟩,_⟩:=hm
  cases h
  exact⟨_,PySem.F.plainAttrs_list,PySem.F.slot_list_append,PySem.F.type_list_append,Jx4⟩
 ·split at h
  ·rename_i hm
   simp only[Bool.and_eq_true,beq_iff_eq] at hm
   obtain⟨⟨rfl,rfl⟩,_⟩:=hm
   cases h
   exact⟨_,PySem.F.plainAttrs_list,PySem.F.slot_list_clear,PySem.F.type_list_clear,J07⟩
  ·split at h
   ·rename_i hm
    simp only[Bool.and_eq_true,beq_iff_eq] at hm
    obtain⟨⟨rfl,rfl⟩,_⟩:=hm
    cases h
    exact⟨_,PySem.F.plainAttrs_str,PySem.F.slot_str_join,PySem.F.type_str_join,J3u⟩
   ·cases h
theorem J4z {o:Expr}{m:Str}{mo:E1}{args:List Expr}{f:Expr->E1}{ap pos:Pos}{T:String}{g:IV->List IV->IH->Res IV}{n:Nat}(hg:bmOf T m n=some g) (ho:PEi ce X o mo) (hf:∀e,PEi ce X e (f e)) (ha:args.all Ji=true) (hb:Jd4 o=true) (hl:(ap.endLine==pos.line)=true) (hn:args.length<30) :
  PEi ce X (.Call (.Attribute o m ap) args [] pos) (eBm T g mo (aAll (args.map f))):=by
 obtain⟨id,pa,sl,ty,mt⟩:=bm_ok (ce:=ce) (X:=X) hg
 cases args with
 | nil=>exact i_bm0 pa sl ty mt ho (Jec hb) hl
 | cons a es =>
  have ha':=ha
  simp only[List.all_cons,Bool.and_eq_true] at ha'
  exact i_bm pa sl ty mt ho (Jnq ha hf) (Jec hb) (J0q ha hn) hl (Je ha'.1) (Jek ha'.2)
theorem J10 (G:Good ce k P S X){o:Expr}{m:Str}{mo:E1}{args:List Expr}{f:Expr->E1}{ap pos:Pos}(ho:PEi ce X o mo) (hf:∀e,PEi ce X e (f e)) (ha:args.all Ji=true) (hb:Jd4 o=true) (hl:(ap.endLine==pos.line)=true) (hn:args.length<30) :
  PEi ce X (.Call (.Attribute o m ap) args [] pos) (eDot P m args.length mo (aAll (args.map f))):=by
 refine px_pt λ σi h=>?_
 unfold eDot
 cases e:mo σi h with
 | exc n h1=>exact⟨λ _ _=>.stuck,rfl,Jb⟩
 | stuck=>exact⟨λ _ _=>.stuck,rfl,Jb⟩
 | ok v h1 =>
  dsimp only
  split
  ·refine⟨_,rfl,?_⟩
   cases args with
   | nil=>exact J0x ho (Juv G m 0) (Joo hb ha hl hn)
   | cons a es =>
    have ha':=ha
    simp only[List.all_cons,Bool.and_eq_true] at ha'
    refine J3f ho (Juv G m (a::es).length) (Jnq ha hf) (λ σ h xs h' e=>?_) (Je ha'.1) (Jek ha'.2) (Joo hb ha hl hn)
    have:=Ji9 _ σ h xs h' e
    rwa [List.length_map] at this
  ·cases hg:bmOf (tyS v h1) m args.length with
   | none=>exact⟨λ _ _=>.stuck,rfl,Jb⟩
   | some g=>exact⟨_,rfl,J4z hg ho hf ha hb hl hn⟩
theorem J11 (G:Good ce k P S X){a:Expr}{ma:E1}{y:Str}{p p2 pos:Pos}(ha:PEi ce X a ma) (hs:Ji a=true) (hg:S.gl "isinstance"=true) (hfr:P.free "isinstance"=true) (hy:S.gl y=true) :
  PEi ce X (.Call (.Name "isinstance" p) [a,.Name y p2] [] pos) (J0l (Jw7 P y) ma):=by
 unfold J0l
 cases e:Jw7 P y with
 | none=>exact Jb
 | some ans =>
  obtain⟨gy,ydb,yn⟩:=G.gl hy
  have fin:∀{c:Value},ClsE X (.Name y p2) c->IsOk ce X.K c ans->PEi ce X (.Call (.Name "isinstance" p) [a,.Name y p2] [] pos) (eIsi ans ma):=λ hc O =>
   i_isi hc O ha (G.gl hg).1 (G.pg.free _ hfr) rfl (Je hs) rfl rfl
  unfold Jw7 at e
  cases hi:P.isa y with
  | some g =>
   rw[hi] at e
   cases e
   obtain⟨c,hm,O⟩:=G.pg.isa y g hi
   exact fin (J0e gy hm ydb) O
  | none =>
   rw[hi] at e
   dsimp only at e
   split at e
   ·rename_i hf
    have hm:=G.pg.free y hf
    split at e
    ·rename_i q;cases (beq_iff_eq.mp q);cases e;exact fin (Jj2 gy hm rfl yn ydb) Jxq
    ·split at e
     ·rename_i q;cases (beq_iff_eq.mp q);cases e;exact fin (Jj2 gy hm rfl yn ydb) Jvn
     ·split at e
      ·rename_i q;cases (beq_iff_eq.mp q);cases e;exact fin (Jj2 gy hm rfl yn ydb) Jxr
      ·split at e
       ·rename_i q
        cases (beq_iff_eq.mp q)
        cases e
        refine fin (Jj2 gy hm rfl yn ydb) ?_
        split
        ·rename_i q
         refine Jsj λ C hC=>?_
         obtain⟨C',h1,_,h2⟩:=G.pg.ne _ q
         cases hC.symm.trans h1
         exact h2
        ·exact Joi
       ·split at e
        ·rename_i q;cases (beq_iff_eq.mp q);cases e;exact fin (Jj2 gy hm rfl yn ydb) Jxs
        ·cases e
   ·cases e
theorem Jym (G:Good ce k P S X){a:Expr}{ma:E1}{x:Str}{p pos:Pos}(ha:PEi ce X a ma) (hs:Ji a=true) (hg:S.gl x=true) (hfr:P.free x=true) (hx:Jvl x=true) :
  PEi ce X (.Call (.Name x p) [a] [] pos) (eCB (bltF x) (Ja ma aNil)):=by
 obtain⟨gx,xdb,xn⟩:=G.gl hg
 have hm:=G.pg.free x hfr
 have hh:=G.room.hd
 have pa:PAi ce X [a] (Ja ma aNil):=Jeq ha Jml (Je hs)
 unfold Jvl at hx
 simp only[Bool.or_eq_true,beq_iff_eq] at hx
 rcases hx with(((rfl|rfl)|rfl)|rfl)|rfl
 ·exact Jhk c_len gx hm rfl pa xn xdb (Je hs) rfl
 ·exact Jhk (c_all hh) gx hm rfl pa xn xdb (Je hs) rfl
 ·exact Jhk (c_sum hh) gx hm rfl pa xn xdb (Je hs) rfl
 ·exact Jhk Jxb gx hm rfl pa xn xdb (Je hs) rfl
 ·exact Jhk (J2t hh) gx hm rfl pa xn xdb (Je hs) rfl
theorem Jyn (G:Good ce k P S X){a:Expr}{ma:E1}{x:Str}{p pos:Pos}(ha:PEi ce X a ma) (hs:Ji a=true) (hg:S.gl x=true) (hfr:P.free x=true) (hx:Jvm x=true) :
  PEi ce X (.Call (.Name x p) [a] [] pos) (eCB (bltT x) (Ja ma aNil)):=by
 obtain⟨gx,xdb,xn⟩:=G.gl hg
 have hm:=G.pg.free x hfr
 have pa:PAi ce X [a] (Ja ma aNil):=Jeq ha Jml (Je hs)
 unfold Jvm at hx
 simp only[Bool.or_eq_true,beq_iff_eq] at hx
 rcases hx with rfl|rfl
 ·exact Jvf J2s gx hm rfl pa xn xdb (Je hs) rfl
 ·exact Jvf J0d gx hm rfl pa xn xdb (Je hs) rfl
theorem Jwm (G:Good ce k P S X){f:Expr->E1}(hf:∀e,PEi ce X e (f e)){x:Str}{args:List Expr}{p pos:Pos}(hg:S.gl x=true) (ha:args.all Ji=true) (hfr:P.free x=true) :
  PEi ce X (.Call (.Name x p) args [] pos) (Jpu P S x f args):=by
 unfold Jpu
 split
 ·rename_i a b
  simp only[List.all_cons,Bool.and_eq_true] at ha
  obtain⟨gx,xdb,xn⟩:=G.gl hg
  have hm:=G.pg.free x hfr
  have pa:PAi ce X [a,b] (Ja (f a) (Ja (f b) aNil)):=Jeq (hf a) (Jeq (hf b) Jml (Je ha.2.1)) (Je ha.1)
  have h1:∀pos,(backTo pos (starEach [b] X.env)).any (·.1)=false:=λ pos=>Jek (by simp[ha.2.1])
  split
  ·rename_i hs
   cases (beq_iff_eq.mp hs)
   exact Jhk (c_max G.calm) gx hm rfl pa xn xdb (Je ha.1) (h1 _)
  ·split
   ·rename_i hs
    cases (beq_iff_eq.mp hs)
    exact Jb
   ·split
    ·rename_i y p2 _
     split
     ·rename_i hs
      simp only[Bool.and_eq_true,beq_iff_eq] at hs
      obtain⟨rfl,hy⟩:=hs
      exact J11 G (hf a) ha.1 hg hfr hy
     ·exact Jb
    ·exact Jb
 ·rename_i a
  simp only[List.all_cons,Bool.and_eq_true] at ha
  split
  ·rename_i e he
   split at he
   ·rename_i hc
    simp only[Bool.and_eq_true,beq_iff_eq] at hc
    obtain⟨⟨rfl,g2⟩,f2⟩:=hc
    unfold Jrn at he
    split at he
    ·split at he
     ·rename_i hq
      simp only[Bool.and_eq_true,beq_iff_eq] at hq
      obtain⟨rfl,ns⟩:=hq
      cases he
      exact Jxo G.room.hd (G.gl hg).1 (G.pg.free _ hfr) (G.gl g2).1 (G.pg.free _ f2) (Jeq (hf e) Jml (Je ns)) (Je ns)
     ·cases he
    ·cases he
   ·cases he
  ·split
   ·rename_i e he
    split at he
    ·rename_i hc
     simp only[Bool.and_eq_true,beq_iff_eq] at hc
     obtain⟨⟨rfl,g2⟩,f2⟩:=hc
     unfold Jzm at he
     split at he
     ·split at he
      ·rename_i hq
       simp only[Bool.and_eq_true,beq_iff_eq] at hq
       obtain⟨rfl,ns⟩:=hq
       cases he
       exact Jb
      ·cases he
     ·cases he
    ·cases he
   ·split
    ·rename_i hb
     exact Jym G (hf a) ha.1 hg hfr hb
    ·split
     ·rename_i hb
      exact Jyn G (hf a) ha.1 hg hfr hb
     ·exact Jb
 ·exact Jb
theorem Jtf (G:Good ce k P S X){f:Expr->E1}(hf:∀e,PEi ce X e (f e)){x:Str}{args:List Expr}{p pos:Pos}(hg:S.gl x=true) (ha:args.all Ji=true) (hfr:P.free x=true) :
  PEi ce X (.Call (.Name x p) args [] pos) (Jja P S x f args):=by
 unfold Jja
 split
 ·rename_i e he
  split at he
  ·rename_i hc
   simp only[Bool.and_eq_true,beq_iff_eq] at hc
   obtain⟨⟨rfl,g2⟩,f2⟩:=hc
   unfold Jwh at he
   split at he
   ·unfold Jrn at he
    split at he
    ·split at he
     ·rename_i hq
      simp only[Bool.and_eq_true,beq_iff_eq] at hq
      obtain⟨rfl,ns⟩:=hq
      cases he
      exact Jvh G.room.hd (G.gl hg).1 (G.pg.free _ hfr) (G.gl g2).1 (G.pg.free _ f2) (Jeq (hf e) Jml (Je ns)) (Je ns)
     ·cases he
    ·cases he
   ·cases he
  ·cases he
 ·exact Jwm G hf hg ha hfr
theorem Jok.of (G:Good ce k P S X){y:Str}{sc:Scope}(h:Jok S y sc=true):LamSc X.N X.env.scope.names y (Ji2 sc) (jsOf S sc) sc:=by
 rw[G.n,G.sc]
 simp only[Jok,Bool.and_eq_true,beq_iff_eq,Bool.not_eq_true',decide_eq_true_eq,List.all_eq_true,Bool.or_eq_true,beq_eq_false_iff_ne] at h
 obtain⟨⟨⟨⟨⟨⟨⟨h1,h2⟩,h3⟩,h4⟩,h5⟩,h6⟩,h7⟩,h8⟩:=h
 refine⟨h1,h2,h3,h4,h5,λ z hz e=>(h6 z hz).resolve_left λ q=>q e,λ z e=>PySem.mem_of_lookup e,λ i j z ej ez=>?_,by simp[jsOf],h8⟩
 unfold jsOf at ej
 rw[List.getElem?_map,ez] at ej
 cases ej
 exact h7 z (List.mem_of_getElem? ez)
theorem Good.lam2 (G:Good ce k P S X) (ho:S.own=true){y:Str}{sc:Scope}(h:Jok S y sc=true) (f:Addr) (cd:Value) (s:Shared) (H:Hp):Good ce k P (S.lam y sc) (cxL X X.A.in1.in1 (y::Ji2 sc) S.q sc f cd s H):=by
 have L:=Jok.of G h
 have R:=G.room3 ho
 refine⟨rfl,rfl,L.nd,L.kind,rfl,⟨R.hd,?_,?_⟩,λ z=>absurd z Bool.false_ne_true,G.pg,λ z=>absurd z Bool.false_ne_true,λ z=>absurd z Bool.false_ne_true,λ z=>absurd z Bool.false_ne_true⟩
 ·have:=R.dp
  show X.A.depth+1+3*(k+1)+5<_
  omega
 ·have:=R.un
  show X.A.units+1+1+3+16*(k+1)+200<_
  omega
theorem Jwn (G:Good ce k P S X){f:Sc->Expr->E1}(hf:∀S X e,Good ce k P S X->PEi ce X e (f S e)){x y:Str}{a d:Expr}{p pos kp:Pos}:PEi ce X (.Call (.Name x p) [a] [⟨some y,d,kp⟩] pos) (J41 P S f x a y d):=by
 cases d with
 | Lambda ps body sc lp =>
  show PEi ce X _ (match Jiu ps,P.tabs S.q with|some z,some j=>if x=="sorted"&&y=="key"&&S.gl x&&P.free x&&Ji a&&S.own&&Jok S z sc then Jk8 S.q j (jsOf S sc) (Ja (f S a) aNil) (f (S.lam z sc) body) else stE|_,_=>stE)
  cases hy:Jiu ps with
  | none=>exact Jb
  | some z =>
   cases hj:P.tabs S.q with
   | none=>exact Jb
   | some j =>
    dsimp only
    split
    ·rename_i hq
     simp only[Bool.and_eq_true,beq_iff_eq] at hq
     obtain⟨⟨⟨⟨⟨⟨rfl,rfl⟩,g1⟩,f1⟩,ns⟩,ho⟩,ok⟩:=hq
     exact J0z (k:=k) (G.gl g1).1 (G.pg.free _ f1) (Jeq (hf _ _ _ G) Jml (Je ns)) (Je ns) (G.room3 ho) (G.code ho).1 (G.code ho).2 (G.pg.blt _ _ hj) hy (Jok.of G ok) λ f cd s' H'=>hf _ _ _ (G.lam2 ho ok f cd s' H')
    ·exact Jb
 | _=>exact Jb
theorem J40 (G:Good ce k P S X){f:Sc->Expr->E1}(hf:∀S X e,Good ce k P S X->PEi ce X e (f S e)){x:Str}{args:List Expr}{kws:List Keyword}{p pos:Pos}:PEi ce X (.Call (.Name x p) args kws pos) (Jvt P S f x args kws):=by
 unfold Jvt
 split
 ·split
  ·rename_i hq
   simp only[Bool.and_eq_true,beq_iff_eq] at hq
   obtain⟨⟨⟨⟨rfl,rfl⟩,g1⟩,f1⟩,ns⟩:=hq
   exact J3e G.room.hd (G.gl g1).1 (G.pg.free _ f1) (Jeq (hf _ _ _ G) Jml (Je ns)) (hf _ _ _ G) (Je ns)
  ·split
   ·exact Jwn G hf
   ·exact Jb
 ·exact Jb
theorem Jyr (ih:Snd ce k P n):Snd ce k P (n+1):=by
 refine⟨λ S X e G=>?_,λ S X e G=>?_,λ S X e G=>?_,λ S X x args p pos G hg ha=>?_,λ S X tg e G=>?_,λ S X e G=>?_⟩
 ·have ihe:=λ e=>ih.e S X e G
  have hu:=G.room.units
  cases e with
  | Constant c j p =>
   cases c with
   | int i=>exact i_int
   | bool b=>exact i_bl
   | none=>exact i_non
   | str x=>exact i_str
   | _=>exact Jb
  | Name x p =>
   show PEi ce X (.Name x p) (match S.vis x with|some i=>eVar i|none=>if S.gl x then(match P.con x with|some v=>eC v|none=>stE) else stE)
   cases hv:S.vis x with
   | some i =>
    obtain⟨h1,h2,h3,h4⟩:=G.vis hv
    exact i_var i h1 h2 h3 h4
   | none =>
    dsimp only
    split
    ·rename_i hg
     obtain⟨gx,xdb,_⟩:=G.gl hg
     cases hc:P.con x with
     | none=>exact Jb
     | some v =>
      obtain⟨u,y,hm,r,q⟩:=G.pg.con x v hc
      exact J3c gx hm r q xdb
    ·exact Jb
  | BinOp a op b p=>exact i_bin (o_bin op) (ihe a) (ihe b)
  | UnaryOp op a p=>exact i_un (o_un op) (ihe a)
  | BoolOp op vs p =>
   cases op with
   | And=>exact Jzd ihe vs
   | Or=>exact J20 ihe vs
  | IfExp t a b p=>exact J0v (ih.t S X t G) (ihe a) (ihe b)
  | Compare a ops cs p =>
   match ops,cs with
   | [o],[b] =>
    show PEi ce X _ (if behindInMarks o b then stE else eBin (cmpD P.ne o b) (ev P n S a) (ev P n S b))
    split
    ·exact Jb
    ·rename_i hb
     exact i_cmp (Jzl hu (λ c z=>let ⟨C,p,q,_⟩:=G.pg.ne c z;⟨C,p,q⟩) o b) (ihe a) (ihe b) (Bool.eq_false_iff.mpr hb)
   | [o,o'],[b,c] =>
    show PEi ce X _ (if lastMarks [o,o'] [b,c] then stE else Jbc (cmpI o) (cmpI o') (ev P n S a) (ev P n S b) (ev P n S c))
    split
    ·exact Jb
    ·rename_i hb
     exact J0u (Jv2 hu o) (Jv2 hu o') (ihe a) (ihe b) (ihe c) (Bool.eq_false_iff.mpr hb)
   | [],_=>exact Jb
   | [_],[]=>exact Jb
   | [_],_::_::_=>exact Jb
   | [_,_],[]=>exact Jb
   | [_,_],[_]=>exact Jb
   | [_,_],_::_::_::_=>exact Jb
   | _::_::_::_,_=>exact Jb
  | Tuple es j p =>
   show PEi ce X _ (if es.all Ji then eTup (aAll (es.map (ev P n S))) else stE)
   split
   ·rename_i hs
    exact i_tup (Jnq hs ihe)
   ·exact Jb
  | List es p =>
   show PEi ce X _ (if es.all Ji then eLst (aAll (es.map (ev P n S))) else stE)
   split
   ·rename_i hs
    exact i_lst (Jnq hs ihe)
   ·exact Jb
  | Dict ks vs p =>
   match ks,vs with
   | [some k],[v]=>exact Jb
   | [],[]=>exact J3a
   | [],_::_=>exact Jb
   | [none],_=>exact Jb
   | [some _],[]=>exact Jb
   | [some _],_::_::_=>exact Jb
   | some _::_::_,_=>exact Jb
   | none::_::_,_=>exact Jb
  | Subscript a i p =>
   cases i with
   | Slice lo hi st q =>
    cases st with
    | none=>exact J0y (x_slD a) (ihe a) (ih.o S X lo G) (ih.o S X hi G)
    | some st=>exact Jb
   | _=>exact i_ix (x_ixF a) (ihe a) (ihe _) (Jxy rfl)
  | Attribute o f p =>
   show PEi ce X _ (if Jd4 o&&P.fld f then eFld f (ev P n S o) else stE)
   split
   ·rename_i hs
    simp only[Bool.and_eq_true] at hs
    exact i_fld (ihe o) (G.pg.fld f hs.2) (Jec hs.1)
   ·exact Jb
  | Call f args kws p =>
   cases kws with
   | cons kw kws =>
    cases f with
    | Name x q=>exact J40 G λ S X e G=>ih.e S X e G
    | _=>exact Jb
   | nil =>
    cases f with
    | Name x q =>
     show PEi ce X _ (if S.gl x&&args.all Ji then Ju5 P n S x args else stE)
     split
     ·rename_i hs
      simp only[Bool.and_eq_true] at hs
      exact ih.c S X x args q p G hs.1 hs.2
     ·exact Jb
    | Attribute o m ap =>
     show PEi ce X _ (if args.all Ji&&Jd4 o&&(ap.endLine==p.line)&&decide (args.length<30) then eDot P m args.length (ev P n S o) (aAll (args.map (ev P n S))) else stE)
     split
     ·rename_i hs
      simp only[Bool.and_eq_true,decide_eq_true_eq] at hs
      exact J10 G (ihe o) ihe hs.1.1.1 hs.1.1.2 hs.1.2 hs.2
     ·exact Jb
    | _=>exact Jb
  | ListComp elt gens sc p =>
   match gens with
   | [⟨tg,iter,ifs,as⟩] =>
    show PEi ce X _ (if as=0/\Jsw iter=true/\Jc0 S.N (Jm1 sc) (Ji2 sc) (jsOf S sc) S.fake sc=true then
     Jun ifs (evT P n (S.comp sc)) (λ mt=>J0 (evI P n S tg iter) (Jm1 sc).length (jsOf S sc) (tgt P n (S.comp sc) tg) mt (ev P n (S.comp sc) elt)) else stE)
    split
    ·rename_i hs
     obtain⟨rfl,hi,ok⟩:=hs
     have Gc:=G.comp ok
     have ok':=ok
     rw[<- Jn1 G] at ok'
     match ifs with
     | []=>exact Jzf G.calm (ih.i S X tg iter G) (λ C s H fp=>ih.g _ _ tg (Gc C s H fp)) (λ C s H fp=>Jzv) (λ C s H fp=>ih.e _ _ elt (Gc C s H fp)) ok' G.n rfl (Jak hi)
     | [c]=>exact Jzf G.calm (ih.i S X tg iter G) (λ C s H fp=>ih.g _ _ tg (Gc C s H fp)) (λ C s H fp=>Jzw (ih.t _ _ c (Gc C s H fp))) (λ C s H fp=>ih.e _ _ elt (Gc C s H fp)) ok' G.n rfl (Jak hi)
     | _::_::_=>exact Jb
    ·exact Jb
   | []=>exact Jb
   | ⟨_,_,_,_⟩::_::_=>exact Jb
  | _=>exact Jb
 ·have ihe:=λ e=>ih.e S X e G
  have hu:=G.room.units
  cases e with
  | UnaryOp op a p =>
   cases op with
   | Not=>exact t_not (ih.t S X a G)
   | _=>exact J43 Jpn (ihe _)
  | BoolOp op vs p =>
   cases op with
   | And=>exact(Jzq (λ e=>ih.t S X e G) vs).t
   | Or=>exact(J42 (λ e=>ih.t S X e G) vs).t
  | IfExp t a b p=>exact Jb
  | Compare a ops cs p =>
   match ops,cs with
   | [o],[b] =>
    show PTi ce X _ (if behindInMarks o b then stT else tOfB asB (eBin (cmpD P.ne o b) (ev P n S a) (ev P n S b)))
    split
    ·exact Jb
    ·rename_i hb
     exact t_cmp (Jzl hu (λ c z=>let ⟨C,p,q,_⟩:=G.pg.ne c z;⟨C,p,q⟩) o b) (ihe a) (ihe b) (Bool.eq_false_iff.mpr hb)
   | [o,o'],[b,c] =>
    show PTi ce X _ (if lastMarks [o,o'] [b,c] then stT else tOfB asB (Jbc (cmpI o) (cmpI o') (ev P n S a) (ev P n S b) (ev P n S c)))
    split
    ·exact Jb
    ·rename_i hb
     exact J17 (Jv2 hu o) (Jv2 hu o') (ihe a) (ihe b) (ihe c) (Bool.eq_false_iff.mpr hb)
   | [],_=>exact Jb
   | [_],[]=>exact Jb
   | [_],_::_::_=>exact Jb
   | [_,_],[]=>exact Jb
   | [_,_],[_]=>exact Jb
   | [_,_],_::_::_::_=>exact Jb
   | _::_::_::_,_=>exact Jb
  | _=>exact J43 Jpn (ihe _)
 ·cases e with
  | none=>exact J39
  | some e=>exact J4a (ih.e S X e G)
 ·have ihe:=λ e=>ih.e S X e G
  show PEi ce X _ (match P.fn x with
  | some f=>Jra f args.length (aAll (args.map (ev P n S)))
  | none=>match P.cls x with
   | some f=>Jrb x f args.length (aAll (args.map (ev P n S)))
   | none=>if P.free x then Jja P S x (ev P n S) args else stE)
  cases hx:P.fn x with
  | some f=>exact Jyo G hx hg ha ihe
  | none =>
   dsimp only
   cases hc:P.cls x with
   | some f=>exact Jyp G hc hg ha ihe
   | none =>
    dsimp only
    split
    ·rename_i hfr
     exact Jtf G ihe hg ha hfr
    ·exact Jb
 ·have ihe:=λ e=>ih.e S X e G
  cases e with
  | Call f args kws p =>
   cases kws with
   | cons _ _=>cases f<;>exact Jxn (ihe _)
   | nil =>
    cases f with
    | Name x q =>
     show PIi ce X tg _ (if S.gl x&&P.free x&&args.all Ji&&(x=="range") then J28 args.length (aAll (args.map (ev P n S)))
      else if S.gl x&&P.free x&&args.all Ji&&(x=="enumerate") then(match tg,args with
       | .Tuple ..,[a]=>iRg Jd0 (Ja (ev P n S a) aNil)
       | _,_=>stI)
      else iAny (ev P n S (.Call (.Name x q) args [] p)))
     split
     ·rename_i hs
      simp only[Bool.and_eq_true,beq_iff_eq] at hs
      obtain⟨⟨⟨hg,hf⟩,ha⟩,rfl⟩:=hs
      obtain⟨gx,_,_⟩:=G.gl hg
      have hm:=G.pg.free _ hf
      have pa:=Jnq ha ihe
      match args,ha,pa with
      | [],_,_=>exact Jg7
      | [a],ha,pa =>
       simp only[List.all_cons,Bool.and_eq_true] at ha
       exact Jxp gx hm pa (Je ha.1)
      | [a,b],ha,pa =>
       simp only[List.all_cons,Bool.and_eq_true] at ha
       exact Jg7
      | _::_::_::_,_,_=>exact Jg7
     ·split
      ·rename_i hs
       simp only[Bool.and_eq_true,beq_iff_eq] at hs
       obtain⟨⟨⟨hg,hf⟩,ha⟩,rfl⟩:=hs
       obtain⟨gx,_,_⟩:=G.gl hg
       have hm:=G.pg.free _ hf
       split
       ·simp only[List.all_cons,Bool.and_eq_true] at ha
        exact J3b gx hm (Jeq (ihe _) Jml (Je ha.1)) (Je ha.1)
       ·exact Jg7
      ·exact Jxn (ihe _)
    | _=>exact Jxn (ihe _)
  | _=>exact Jxn (ihe _)
 ·cases e with
  | Name x p =>
   show PGi ce X _ (match S.sto x with|some i=>gNm i|none=>stG)
   cases hv:S.sto x with
   | none=>exact Jej
   | some i =>
    obtain⟨h1,h2,h3⟩:=G.sto hv
    exact g_nm G.nodup h1 h2 h3
  | Tuple es j p =>
   show PGi ce X _ (if es.all Ji then gTp es.length (gAll (es.map (tgt P n S))) else stG)
   split
   ·rename_i hs
    exact g_tup G.calm (Jze hs λ e=>ih.g S X e G) (Jy8 hs) (Juc hs)
   ·exact Jej
  | Subscript o i p =>
   show PGi ce X _ (if Jff i then gSbF o (ev P n S o) (ev P n S i) else stG)
   split
   ·rename_i hs
    unfold gSbF
    split
    ·refine J24 (ih.e S X o G) (ih.e S X i G) λ v=>?_
     cases i<;>first|rfl|cases hs
    ·exact Jej
   ·exact Jej
  | _=>exact Jej
theorem Jng (ce:Str->Option Addr) (k:Nat) (P:Pg):∀n,Snd ce k P n
 | 0=>Jys
 | n+1=>Jyr (Jng ce k P n)
end
section
variable {ce:Str->Option Addr}{X:Cx}{pos:Pos}
theorem o_ip (op:Operator):OpI ce X (inplaceOp op) (ipI op):=by
 intro pins s σ H ι σi h x y v u Q E N rx ry K
 cases op with
 | Add =>
  obtain⟨xv,rx,qx⟩:=rx
  obtain⟨yv,ry,qy⟩:=ry
  cases x with
  | int i =>
   cases y with
   | int j =>
    cases (show xv=.int i from qx)
    cases (show yv=.int j from qy)
    obtain⟨t,rfl⟩:=rx
    obtain⟨t',rfl⟩:=ry
    exact iadd_int (K _ _ H ι ⟨N.inv.tok _,N.rel,N.st⟩ .refl ⟨.int (i+j),⟨_,rfl⟩,rfl⟩)
   | _=>exact Zf K
  | _=>cases y<;>exact Zf K
 | _=>cases x<;>cases y<;>exact Zf K
theorem s_aug {i:Nat}{x:Str}{e:Expr}{me:E1}{op:Operator}{pos':Pos}(hN:X.N.Nodup) (he:PEi ce X e me) (hi:X.N[i]?=some x) (hx:Loc X.env.scope x) (hf:X.fn x=true∨X.env.scope.names.lookup x=some .local) :
  PS1 ce X (.AugAssign (.Name x pos') op e pos) (sAug op i me):=by
 intro pins s σ H ι σi h Q E N K
 refine wpAny_AugAssign_Name ?_
 unfold sAug at K
 cases ev:eVar i σi h with
 | exc n h1=>exfalso;unfold eVar at ev;split at ev<;>cases ev
 | stuck=>rw[ev] at K;exact Zf K
 | ok v h1 =>
  rw[ev] at K
  obtain⟨e1,rfl⟩:σi[i]?=some (some v)/\h1=h:=by
   unfold eVar at ev
   split at ev
   ·rename_i q;cases ev;exact⟨q,rfl⟩
   ·cases ev
  obtain⟨w,hw,qw⟩:=N.st.at_ i v e1
  obtain⟨m,hn,hl⟩:=N.inv.loc
  have vis:Vis X.env.scope x:=by rcases hx with k|k;exact .inl k;exact .inr (.inl k)
  obtain⟨u,r,l⟩:=hl i x w hi hw vis
  have go:wpAny (model X.prog X.w) X.A (eval e X.env) (λ w s₂=>wpAny (model X.prog X.w) X.A (inplaceOp op u w) (λ r s₃=>wpAny (model X.prog X.w) X.A (storeName X.env x r) (λ _=>Q .next) E s₃) E s₂) E s:=by
   refine krun he N K λ y h2 uy s2 H2 ι2 N2 n2 r2 K2=>?_
   refine o_ip op pins s2 σ H2 ι2 σi h2 v y u uy _ E N2 ⟨w,r,RV.mono n2 _ _ qw⟩ r2 ?_
   cases ez:ipI op v y h2 with
   | exc n h3 =>
    rw[ez] at K2
    exact λ pl a s' H' ι' N' n' q=>K2 pl a s' σ H' ι' N' n' q s' (.inl rfl)
   | stuck=>rw[ez] at K2;exact K2
   | ok z h3 =>
    rw[ez] at K2
    intro uz s3 H3 ι3 N3 n3 r3
    obtain⟨zv,rz,qz⟩:=r3
    exact Jji N3.inv hN hi hx rz (λ s4 I4=>K2 s4 _ H3 ι3 ⟨I4,N3.rel,N3.st.set i qz⟩ n3) hf
  rcases l with⟨hk,hm⟩|⟨hk,c,hc,hcell⟩
  ·exact wpAny_loadName_local N.inv.ok.kind hk hn hm go
  ·rcases hk with hk|hk
   ·exact wpAny_loadName_cell N.inv.ok.kind hk hc hcell go
   ·rcases hx with k|k
    ·have:X.env.scope.names.lookup x=some .free:=hk
     rw[k] at this;cases this
    ·have:X.env.scope.names.lookup x=some .free:=hk
     rw[k] at this;cases this
theorem J4o {fl:Str}{o e:Expr}{mo me:E1}{op:Operator}{tpos:Pos}(ho:PEi ce X o mo) (he:PEi ce X e me) (hf:Jt5 ce X.K fl):PS1 ce X (.AugAssign (.Attribute o fl tpos) op e pos) (J1p op fl mo me):=by
 intro pins s σ H ι σi h Q E N K
 refine wpAny_AugAssign_AttributeAny (krun ho N K λ ov h1 w s1 H1 ι1 N1 n1 r1 K1=>?_)
 cases ov with
 | ref i =>
  obtain⟨w,rw',a,e1,hi⟩:=r1
  subst e1
  cases rw'
  dsimp only at K1
  cases hh:h1[i]? with
  | none=>rw[hh] at K1;exact Zf K1
  | some ob =>
   cases ob with
   | ins c fs =>
    rw[hh] at K1
    dsimp only at K1
    cases hl:fs.lookup fl with
    | none=>rw[hl] at K1;exact Zf K1
    | some x =>
     rw[hl] at K1
     obtain⟨C,dx,vs,hC,hH,rp⟩:=N1.at hh hi
     obtain⟨cl,na⟩:=hf c C hC
     obtain⟨y,hy,q⟩:=(RPs.lookup rp).1 x hl
     refine Jk9 N1.inv hH cl na hy λ u' s2 I2 ru=>?_
     refine krun he (⟨I2,N1.rel,N1.st⟩:Now ce X pins ι1 σi h1 σ H1 s2) K1 λ z h3 uz s3 H3 ι3 N3 n3 r3 K3=>?_
     refine o_ip op pins s3 σ H3 ι3 σi h3 x z u' uz _ E N3 ⟨y,ru,RV.mono n3 _ _ q⟩ r3 ?_
     cases ez:ipI op x z h3 with
     | exc n h4 =>
      rw[ez] at K3
      exact λ pl a s' H' ι' N' n' q=>K3 pl a s' σ H' ι' N' n' q s' (.inl rfl)
     | stuck=>rw[ez] at K3;exact K3
     | ok v h4 =>
      rw[ez] at K3
      intro uv s4 H4 ι4 N4 n4 r4
      dsimp only[rS] at K3
      have hi4:ι4[i]?=some a:=n4.at (n3.at hi)
      cases h4i:h4[i]? with
      | none=>rw[h4i] at K3;exact Zf K3
      | some ob =>
       cases ob with
       | ins c' gs =>
        rw[h4i] at K3
        dsimp only at K3
        split at K3
        ·rename_i hz
         obtain⟨C',dx',vs',hC',hH',rp'⟩:=N4.at h4i hi4
         obtain⟨cl',na'⟩:=hf c' C' hC'
         obtain⟨yv,ryv,qv⟩:=r4
         refine Jlf N4.inv hH' cl' na' (by rw[rp'.length];exact hz) ryv λ s5 I5=>?_
         have n5:Nxt ι4 H4 ι4 (upd H4 a (.ins C' dx' (putF fl yv vs'))):=⟨⟨[],by simp⟩,Ext.upd_mut hH' (by rw[hH'];exact True.intro)⟩
         obtain⟨R5,_⟩:=N4.rel.write (o:=.ins C' dx' (putF fl yv vs')) (io:=.ins c' (putI fl v gs)) hi4 hH' (by rw[hH'];exact True.intro) ⟨C',dx',_,hC',Jf,RPs.put (RV.mono n5 _ _ qv) (RPs.mono n5 _ _ rp')⟩
         exact K3 s5 σ _ ι4 ⟨I5,R5,N4.st.mono n5⟩ (n4.trans n5)
        ·exact Zf K3
       | _=>rw[h4i] at K3;exact Zf K3
   | _=>rw[hh] at K1;exact Zf K1
 | _=>exact Zf K1
theorem J25:OpI ce X getItem ixL:=by
 intro pins s σ H ι σi h x y v u Q E N rx ry K
 obtain⟨xv,rx,qx⟩:=rx
 obtain⟨yv,ry,qy⟩:=ry
 cases x with
 | ref i =>
  cases y with
  | int k =>
   obtain⟨a,rfl,ha⟩:=qx
   cases (show yv=.int k from qy)
   cases rx
   obtain⟨t,rfl⟩:=ry
   dsimp only[ixL] at K
   cases hi:h[i]? with
   | none=>rw[hi] at K;exact Zf K
   | some ob =>
    rw[hi] at K
    cases ob with
    | lst xs =>
     dsimp only at K
     cases hk:atI xs k with
     | none=>rw[hk] at K;exact Zf K
     | some z =>
      rw[hk] at K
      dsimp only at K
      split at K
      ·rename_i h0
       obtain⟨vs,e1,r1⟩:=N.at hi ha
       obtain⟨w,hw,qw⟩:=Jmp r1 hk
       obtain⟨its,r,pl,hz⟩:=N.inv.list (SqL.of e1)
       obtain⟨j,g1,g2,g3,g4,g5⟩:=Jmo hw
       obtain⟨w',ew,rw'⟩:=r.get g2
       have hn:=Jkc
       have hj:k.toNat=j:=by
        rw[seqIndex_of h0 g5] at g1
        exact Option.some.inj g1
       exact wpAny_getItem_list pl.isList h0 (by omega) (by rw[hj];simpa using ew) (K _ _ H ι N .refl ⟨w,rw',qw⟩)
      ·exact Zf K
    | _=>exact Zf K
  | _=>exact Zf K
 | _=>cases y<;>exact Zf K
theorem J3r {f:Value->Value->Sem Value}{g:IV->IV->IH->Res IV}(p:OpI ce X f g){pins:List (Addr×Obj)}{s:Shared}{σ:L2.St}{H:Hp}{ι:List Addr}{σi:ISt}{h:IH}{x y:IV}{v u:Value}(N:Now ce X pins ι σi h σ H s) (rx:RU X.K ι H x v) (ry:RU X.K ι H y u)
  {k:IV->IH->SRes}{Q:Flow->Shared->Prop}{E:Value->Shared->Prop}{Q1:Value->Shared->Prop}(K:Jbf ce X pins ι H (rS σi (g x y h) k) Q E)
  (step:∀z h1 w s1 H1 ι1,Now ce X pins ι1 σi h1 σ H1 s1->Nxt ι H ι1 H1->RU X.K ι1 H1 z w->Jbf ce X pins ι1 H1 (k z h1) Q E->Q1 w s1):wpAny (model X.prog X.w) X.A (f v u) Q1 E s:=by
 refine p pins s σ H ι σi h x y v u Q1 E N rx ry ?_
 cases e:g x y h with
 | ok z h' =>
  rw[e] at K
  exact λ w s' H' ι' N' n' r=>step z h' w s' H' ι' N' n' r (Jbf.mono (r:=k z h') K n')
 | exc n h' =>
  rw[e] at K
  exact λ pl a s' H' ι' N' n' q=>K pl a s' σ H' ι' N' n' q s' (.inl rfl)
 | stuck =>
  rw[e] at K
  exact K
theorem J4x {pins:List (Addr×Obj)}{s:Shared}{σ:L2.St}{H:Hp}{ι:List Addr}{σi:ISt}{h:IH}{o i v:IV}{ou iu u:Value}{Q:Flow->Shared->Prop}{E:Value->Shared->Prop}(N:Now ce X pins ι σi h σ H s) (ro:RU X.K ι H o ou) (ri:RU X.K ι H i iu) (rv:RU X.K ι H v u)
  (K:Jbf ce X pins ι H (setI o i v σi h) Q E):wpAny (model X.prog X.w) X.A (setItem ou iu u) (λ _=>Q .next) E s:=by
 obtain⟨ox,ro,qo⟩:=ro
 obtain⟨ix,ri,qi⟩:=ri
 obtain⟨vx,rvx,qv⟩:=rv
 cases o with
 | ref i =>
  rename_i iv
  cases iv with
  | int k =>
   obtain⟨a,rfl,haa⟩:=qo
   cases (show ix=.int k from qi)
   dsimp only[setI] at K
   cases hh:h[i]? with
   | none=>rw[hh] at K;exact Zf K
   | some ob =>
    rw[hh] at K
    cases ob with
    | lst xs =>
     dsimp only at K
     cases hj:ixN xs.length k with
     | none=>rw[hj] at K;exact Zf K
     | some j =>
      rw[hj] at K
      obtain⟨ws,e1,r1'⟩:=N.at hh haa
      refine wpAny_mono (Jyi (X:=X.wish E) pins s σ H (.ref a) (.int k) vx ou iu u (λ H'=>H'=upd H a (.lst (ws.set j vx))) (N.inv.wish E) ro ri rvx ⟨a,ws,k,j,rfl,rfl,e1,by rw[r1'.length];exact hj,rfl⟩) (λ _ s3 hq=>?_) λ _ _ z=>z
      obtain⟨H',I',rfl⟩:=hq
      have n:Nxt ι H ι (upd H a (.lst (ws.set j vx))):=⟨⟨[],by simp⟩,Ext.upd_mut e1 (by rw[e1];exact True.intro)⟩
      obtain⟨R3,_⟩:=N.rel.write (o:=.lst (ws.set j vx)) (io:=.lst (xs.set j v)) haa e1 (by rw[e1];exact True.intro) ⟨_,Jf,(RVs.mono n _ _ r1').set (RV.mono n _ _ qv) j⟩
      exact K s3 σ _ ι ⟨I'.unwish,R3,N.st.mono n⟩ n
    | _=>exact Zf K
  | _=>exact Zf K
 | _=>cases i<;>exact Zf K
theorem J4p {o i e:Expr}{mo mi me:E1}{op:Operator}{tpos:Pos}(ho:PEi ce X o mo) (hi:PEi ce X i mi) (he:PEi ce X e me) (hs:Jff i=true):PS1 ce X (.AugAssign (.Subscript o i tpos) op e pos) (J1q op mo mi me):=by
 intro pins s σ H ι σi h Q E N K
 refine wpAny_AugAssign_SubscriptAny (krun ho N K λ ov h1 ou s1 H1 ι1 N1 n1 r1 K1=>krun hi N1 K1 λ kv h2 ku s2 H2 ι2 N2 n2 r2 K2=>?_) (λ _ _ _=>by cases i<;>first|rfl|cases hs)
 refine J3r J25 N2 (r1.mono n2) r2 K2 λ x h3 xu s3 H3 ι3 N3 n3 r3 K3=>?_
 refine krun he N3 K3 λ y h4 yu s4 H4 ι4 N4 n4 r4 K4=>?_
 refine J3r (o_ip op) N4 (r3.mono n4) r4 K4 λ z h5 zu s5 H5 ι5 N5 n5 r5 K5=>?_
 exact J4x N5 ((((r1.mono n2).mono n3).mono n4).mono n5) (((r2.mono n3).mono n4).mono n5) r5 K5
end
section
variable {ce:Str->Option Addr}{k:Nat}{P:Pg}{n:Nat}{S:Sc}{X:Cx}
theorem Jo6 {f:Stmt->S1}(hf:∀s,PS1 ce X s (f s)):∀(l:List Stmt),PS2 ce X l (sAll (l.map f))
 | []=>J4l
 | [a]=>J4m (hf a)
 | a::b::r=>J1o (hf a) (Jo6 hf (b::r))
end
section
variable {ce:Str->Option Addr}{k:Nat}{P:Pg}{S:Sc}{X:Cx}{xi:Xi}{xf:Str->Str->Bool}{fr:Str->Bool}
end
section
variable {ce:Str->Option Addr}{k:Nat}{P:Pg}{n:Nat}{S:Sc}{X:Cx}
theorem Jz9 {tg:Expr}{env:Env}(h:Ji tg=true):(assignEach [tg] env).map (·.2)=[assign tg env]:=by
 cases tg<;>first|rfl|cases h
theorem Jyq (G:Good ce k P S X) (i:Nat){e:Expr}{x:Str}{p q:Pos}(h:isLC e=true) (h1:X.N[i]?=some x) (h2:L2.Loc X.env.scope x) (h3:X.fn x=true∨X.env.scope.names.lookup x=some .local) :
  PS1 ce X (.Assign [.Name x q] e p) (sSet i (ev P n S e)):=by
 cases e with
 | ListComp elt gens sc cp =>
  cases hb:(X.env.blockKind==.function&&X.env.kindOf x==some .local&&q.line==cp.line&&!(sc.names.any λ (n,k)=>n==x&&(k==.local||k==.cell))) with
  | false =>
   refine J4u G.nodup ((Jng ce k P n).e S X _ G) h1 h2 ?_ h3
   show(pure (X.env.blockKind==.function&&X.env.kindOf x==some .local&&q.line==cp.line&&!(sc.names.any λ (n,k)=>n==x&&(k==.local||k==.cell))):Sem Bool)=pure false
   rw[hb]
  | true =>
   have hsw:swapsWith (.ListComp elt gens sc cp) (some (.Name x q)) p.line X.env=pure true:=by
    show(pure (X.env.blockKind==.function&&X.env.kindOf x==some .local&&q.line==cp.line&&!(sc.names.any λ (n,k)=>n==x&&(k==.local||k==.cell))):Sem Bool)=pure true
    rw[hb]
   have dead:∀m:E1,(∀σ h,m σ h=.stuck)->PS1 ce X (.Assign [.Name x q] (.ListComp elt gens sc cp) p) (sSet i m):=λ m hm=>by
    intro pins s σ H ι σi h Q E N K
    unfold sSet at K
    rw[hm] at K
    exact Zf K
   cases n with
   | zero=>exact dead _ λ _ _=>rfl
   | succ n =>
    have ih:=Jng ce k P n
    match gens,hsw with
    | [⟨tg,iter,ifs,as⟩],hsw =>
     show PS1 ce X _ (sSet i (if as=0/\Jsw iter=true/\Jc0 S.N (Jm1 sc) (Ji2 sc) (jsOf S sc) S.fake sc=true then
      Jun ifs (evT P n (S.comp sc)) (λ mt=>J0 (evI P n S tg iter) (Jm1 sc).length (jsOf S sc) (tgt P n (S.comp sc) tg) mt (ev P n (S.comp sc) elt)) else stE))
     split
     ·rename_i hs
      obtain⟨rfl,hi,ok⟩:=hs
      have Gc:=G.comp ok
      have ok':=ok
      rw[<- Jn1 G] at ok'
      match ifs,hsw with
      | [],hsw=>exact Jzo G.calm (ih.i S X tg iter G) (λ C s H fp=>ih.g _ _ tg (Gc C s H fp)) (λ C s H fp=>Jzv) (λ C s H fp=>ih.e _ _ elt (Gc C s H fp)) ok' G.n rfl (Jak hi) G.nodup h1 h2 h3 hsw
      | [c],hsw=>exact Jzo G.calm (ih.i S X tg iter G) (λ C s H fp=>ih.g _ _ tg (Gc C s H fp)) (λ C s H fp=>Jzw (ih.t _ _ c (Gc C s H fp))) (λ C s H fp=>ih.e _ _ elt (Gc C s H fp)) ok' G.n rfl (Jak hi) G.nodup h1 h2 h3 hsw
      | _::_::_,_=>exact dead _ λ _ _=>rfl
     ·exact dead _ λ _ _=>rfl
    | [],_=>exact dead _ λ _ _=>rfl
    | ⟨_,_,_,_⟩::_::_,_=>exact dead _ λ _ _=>rfl
 | _=>cases h
theorem Jrr (ce:Str->Option Addr) (k:Nat) (P:Pg):∀(n:Nat) (S:Sc) (X:Cx) (st:Stmt),Good ce k P S X->PS1 ce X st (ex P n S st)
 | 0,_,_,_,_=>Jn
 | n+1,S,X,st,G=>by
  have ih:=λ st=>Jrr ce k P n S X st G
  have E:=Jng ce k P n
  have ihe:=λ e=>E.e S X e G
  cases st with
  | Pass p=>exact J4s
  | Break p=>exact J1u
  | Continue p=>exact J4q
  | Expr e p =>
   show PS1 ce X _ (if Jg5 e then Jg9 (ev P n S e) else stS)
   split
   ·rename_i h
    exact J4r (ihe e) (Jel h)
   ·exact Jn
  | Return v p =>
   cases v with
   | none=>exact J4t
   | some e=>exact s_ret (ihe e)
  | If c a b p=>exact s_if (E.t S X c G) (Jo6 ih a) (Jo6 ih b)
  | Raise exc cause p=>exact Jn
  | Try body hs o f p=>exact Jn
  | While c a o p=>exact Jn
  | For tg it a o p =>
   cases o with
   | nil =>
    show PS1 ce X _ (if Jsw it&&S.own then sFor (evI P n S tg it) (tgt P n S tg) (sAll (a.map (ex P n S))) else stS)
    split
    ·rename_i h
     rw[Bool.and_eq_true] at h
     obtain⟨hk,hf⟩:=G.top h.2
     exact s_for G.calm hk hf (E.i S X tg it G) (E.g S X tg G) (Jo6 ih a) (Jak h.1)
    ·exact Jn
   | cons _ _=>exact Jn
  | AugAssign tg op e p =>
   cases tg with
   | Name x q =>
    show PS1 ce X _ (match S.sto x with|some i=>sAug op i (ev P n S e)|none=>stS)
    cases hv:S.sto x with
    | none=>exact Jn
    | some i =>
     obtain⟨h1,h2,h3⟩:=G.sto hv
     exact s_aug G.nodup (ihe e) h1 h2 h3
   | Attribute o f q =>
    show PS1 ce X _ (if P.fld f then J1p op f (ev P n S o) (ev P n S e) else stS)
    split
    ·rename_i h
     exact J4o (ihe o) (ihe e) (G.pg.fld f h)
    ·exact Jn
   | Subscript o i q =>
    show PS1 ce X _ (if Jff i then J1q op (ev P n S o) (ev P n S i) (ev P n S e) else stS)
    split
    ·rename_i h
     exact J4p (ihe o) (ihe i) (ihe e) h
    ·exact Jn
   | _=>exact Jn
  | Assign tgs e p =>
   match tgs with
   | []=>exact Jn
   | a::_::_=>cases a<;>exact Jn
   | [tg] =>
    have gen:PS1 ce X (.Assign [tg] e p) (if Jg5 e&&((Jxu tg&&J1c e)||Jxt tg) then sAsg (ev P n S e) (tgt P n S tg) else stS):=by
     split
     ·rename_i h
      simp only[Bool.and_eq_true,Bool.or_eq_true] at h
      have hst:Ji tg=true:=by
       rcases h.2 with q|q
       ·cases tg<;>first|rfl|(simp[Jxu] at q)
       ·cases tg<;>first|rfl|(simp[Jxt] at q)
      refine s_asg (ihe e) (E.g S X tg G) (Jel h.1) ?_ (Jz9 hst)
      rcases h.2 with q|q
      ·cases tg with
       | Tuple es j pp =>
        have q2:=q.2
        cases e<;>first|rfl|(simp[J1c] at q2)
       | _=>simp[Jxu] at q
      ·cases tg with
       | Subscript=>cases e<;>rfl
       | _=>simp[Jxt] at q
     ·exact Jn
    cases tg with
    | Name x q =>
     show PS1 ce X _ (if Jg5 e||isLC e then(match S.sto x with|some i=>sSet i (ev P n S e)|none=>stS) else stS)
     split
     ·rename_i h
      cases hv:S.sto x with
      | none=>exact Jn
      | some i =>
       obtain⟨h1,h2,h3⟩:=G.sto hv
       rcases Bool.or_eq_true _ _▸h with h|h
       ·exact J4u G.nodup (ihe e) h1 h2 (Jel h) h3
       ·exact Jyq G i h h1 h2 h3
     ·exact Jn
    | Attribute o f q =>
     show PS1 ce X _ (if Jg5 e then J1r P f (ev P n S o) (ev P n S e) else stS)
     split
     ·rename_i h
      unfold J1r
      split
      ·rename_i hf
       exact s_fld (ihe o) (ihe e) (G.pg.fld f hf) (Jel h)
      ·exact Jn
     ·exact Jn
    | _=>exact gen
  | _=>exact Jn
end
structure D4 where
 st:Stmt
 qual:Str
 ps:List Str
 N:List Str
 dvs:List IV
noncomputable def D4.sc (d:D4):Sc:=⟨d.N,(Jh d.st).names,true,d.qual⟩
structure Tab where
 fns:List (Str×D4)
 clss:List (Str×D4)
 meths:List (Str×List (Str×D4))
 cons:List (Str×IV)
 isas:List (Str×List Str)
 flds:List Str
 frees:List Str
 tabs:List Str:=[]
 razs:List Str:=[]
 xis:List (Str×List (Str×Bool)):=[]
 bass:List Str:=[]
 wrs:List (Str×D4):=[]
 nes:List Str:=[]
 xms:List (Str×D4):=[]
 xfs:List (Str×List Str):=[]
 xbs:List Str:=[]
noncomputable def memS (x:Str):List Str->Bool
 | []=>false
 | y::r=>y==x||memS x r
noncomputable def Jgz {α:Type}(x:Str):List (Str×α)->Option α
 | []=>none
 | (y,a)::r=>if y==x then some a else Jgz x r
noncomputable def xfOf (T:Tab) (f c:Str):Bool:=match Jgz f T.xfs with|some l=>memS c l|none=>false
noncomputable def mkPg (T:Tab) (r:D4->List IV->IH->Res IV):Pg where
 fn:=λ x=>(Jgz x T.fns).map λ d=>⟨d.ps.length,d.dvs,r d⟩
 cls:=λ x=>(Jgz x T.clss).map λ d=>⟨d.ps.length,d.dvs,r d⟩
 meth:=λ c m=>((Jgz c T.meths).bind (Jgz m)).map λ d=>⟨d.ps.length,d.dvs,r d⟩
 con:=λ x=>Jgz x T.cons
 isa:=λ x=>(Jgz x T.isas).map λ l c=>memS c l
 fld:=λ x=>memS x T.flds
 free:=λ x=>memS x T.frees
 tabs:=λ q=>ixOf q T.tabs
 rz:=λ x=>memS x T.razs
 xi:=λ D=>(Jgz D T.xis).map λ l c=>Jgz c l
 bas:=λ x=>memS x T.bass
 wr:=λ _=>none
 ne:=λ x=>memS x T.nes
 xo:=λ x=>(Jgz x T.xms).map λ d=>⟨d.ps.length,d.dvs,r d⟩
 xf:=xfOf T
 xb:=λ x=>memS x T.xbs
noncomputable def run (T:Tab):Nat->D4->List IV->IH->Res IV
 | 0,_=>λ _ _=>.stuck
 | k+1,d=>fnI d.N.length (sAll ((Jz d.st).map (ex (mkPg T (run T k)) 40 d.sc)))
theorem Ju {α:Type}{x:Str}{a:α}:∀{l:List (Str×α)},Jgz x l=some a->(x,a)∈l
 | [],h=>by cases h
 | (y,b)::r,h=>by
  unfold Jgz at h
  split at h
  ·rename_i e
   cases h
   rw[beq_iff_eq.mp e]
   exact List.mem_cons_self
  ·exact List.mem_cons_of_mem _ (Ju h)
theorem Jg4 {x:Str}:∀{l:List Str},memS x l=true->x∈l
 | [],h=>by cases h
 | y::r,h=>by
  unfold memS at h
  rcases Bool.or_eq_true _ _▸h with e|e
  ·rw[beq_iff_eq.mp e]
   exact List.mem_cons_self
  ·exact List.mem_cons_of_mem _ (Jg4 e)
structure DefOk (K:W.Frag) (x:Str) (d:D4) (fa:Addr) (fd:FuncData):Prop where
 fun_:∃dV,FunD K x d.qual d.st fa fd dV
 sc:FnScope d.N d.ps (Jh d.st)
 dv:∀j,j<=d.dvs.length->∃ds,Je3 K fd d.ps ds/\ds.length=d.dvs.length-j/\∃vs,Vals vs ds/\∀ι H,RVs K ι H (d.dvs.drop j) vs
structure TabOk (ce:Str->Option Addr) (T:Tab) (K:W.Frag) (mg:Str->Option Value):Prop where
 fn:∀x d,(x,d)∈T.fns->∃fa fd,mg x=some (.ref fa)/\DefOk K x d fa fd
 cls:∀x d,(x,d)∈T.clss->∃C fa fd,mg x=some (.ref C)/\ce x=some C/\Mk K C fa/\DefOk K "__init__" d fa fd
 meth:∀c l m d,(c,l)∈T.meths->(m,d)∈l->∃C fa fd,ce c=some C/\Cls K C/\Meth K C m fa/\DefOk K m d fa fd
 con:∀x v,(x,v)∈T.cons->∃u y,mg x=some u/\RelV y u/\∀ι H,RV K ι H v y
 isa:∀D l,(D,l)∈T.isas->∃c,mg D=some c/\IsOk ce K c λ t=>match t with|.ins c=>some (memS c l)|.exc _=>none|_=>some false
 fld:∀f,f∈T.flds->Jt5 ce K f
 free:∀x,x∈T.frees->mg x=none
 bas:∀x,x∈T.bass->∃C,mg x=some (.ref C)/\BasK K C
 ne:∀c,c∈T.nes->∃C,ce c=some C/\neIn K C=true/\ClsI K C/\W.kitOne K (.ref C) (.type "list")=some false
section
variable {ce:Str->Option Addr}{T:Tab}{prog:Program}{w:World}{K:W.Frag}{mg:Str->Option Value}{base:Heap}
theorem Jr8 {k:Nat}{fa:Addr}{fd:FuncData}{ps:List Str}:FnOk prog w K mg base (CXI prog w) k fa fd ps (spI ce K ps λ _ _=>.stuck) :=
 ⟨λ _ _ _ _ h=>h.1,λ _ _ _ _ _ _ _ _ _ _ _ _ _ h=>by obtain⟨_,_,_,_,_,_,z⟩:=h;exact z.elim⟩
theorem pg_of (O:TabOk ce T K mg) (B:T.tabs≠[]->Jjj mg base) (k:Nat) (hD:∀x d fa fd,DefOk K x d fa fd->FnD ce prog w K mg base (4*k) ⟨d.ps.length,d.dvs,run T k d⟩ fa fd d.ps):PgOk ce (4*k) (mkPg T (run T k)) prog w K mg base:=by
 refine⟨λ x f h=>?_,λ x f h=>?_,λ c m f h=>?_,λ x v h=>?_,λ D g h=>?_,λ f h=>?_,λ x h=>?_,λ q j h=>B λ e=>?_,λ x h=>O.bas x (Jg4 h),λ c h=>O.ne c (Jg4 h)⟩
 ·obtain⟨d,hd,rfl⟩:=Option.map_eq_some_iff.mp h
  obtain⟨fa,fd,hm,ok⟩:=O.fn x d (Ju hd)
  obtain⟨dV,F⟩:=ok.fun_
  exact⟨fa,fd,d.ps,hm,F.kp,hD x d fa fd ok⟩
 ·obtain⟨d,hd,rfl⟩:=Option.map_eq_some_iff.mp h
  obtain⟨C,fa,fd,hm,hC,M,ok⟩:=O.cls x d (Ju hd)
  exact⟨C,fa,fd,d.ps,hm,hC,M,hD _ d fa fd ok⟩
 ·obtain⟨d,hd,rfl⟩:=Option.map_eq_some_iff.mp h
  obtain⟨l,hl,hd⟩:=Option.bind_eq_some_iff.mp hd
  obtain⟨C,fa,fd,hC,cl,me,ok⟩:=O.meth c l m d (Ju hl) (Ju hd)
  exact⟨C,fa,fd,d.ps,hC,cl,me,hD m d fa fd ok⟩
 ·exact O.con x v (Ju h)
 ·obtain⟨l,hl,rfl⟩:=Option.map_eq_some_iff.mp h
  exact O.isa D l (Ju hl)
 ·exact O.fld f (Jg4 h)
 ·exact O.free x (Jg4 h)
 ·have h':ixOf q T.tabs=some j:=h
  rw[e] at h'
  cases h'
theorem Jzb (O:TabOk ce T K mg) (B:T.tabs≠[]->Jjj mg base):∀k x d fa fd,DefOk K x d fa fd->FnD ce prog w K mg base (4*k) ⟨d.ps.length,d.dvs,run T k d⟩ fa fd d.ps
 | 0,x,d,fa,fd,ok=>⟨rfl,Jr8,ok.dv⟩
 | k+1,x,d,fa,fd,ok=>by
  refine⟨rfl,?_,ok.dv⟩
  obtain⟨dV,F⟩:=ok.fun_
  show FnOk prog w K mg base (CXI prog w) (4*k+3+1) fa fd d.ps (spI ce K d.ps (run T (k+1) d))
  refine F.fn (m:=sAll ((Jz d.st).map (ex (mkPg T (run T k)) 40 d.sc))) ok.sc λ cdv A outer s H E hcd hr=>?_
  refine Jo6 (λ st=>Jrr ce (4*k) (mkPg T (run T k)) 40 d.sc _ st ?_) _
  exact⟨rfl,rfl,ok.sc.nd,ok.sc.kind,rfl,hr.mono (by omega),λ _ _=>rfl,pg_of O B k (Jzb O B k),λ _=>⟨hcd,rfl⟩,λ _=>hr,λ _=>⟨rfl,rfl⟩⟩
end
inductive All {α:Type}(p:α->Prop):List α->Prop
 | nil:All p []
 | cons {a:α}{l:List α}:p a->All p l->All p (a::l)
theorem All.mem {α:Type}{p:α->Prop}:∀{l:List α}{a:α},All p l->a∈l->p a
 | _,_,.nil,h=>by cases h
 | _,_,.cons h r,m=>by
  rcases List.mem_cons.mp m with rfl|m
  ·exact h
  ·exact r.mem m
noncomputable def Jy7 (l:List Str):Ty->Option Bool:=λ t=>match t with|.ins c=>some (memS c l)|.exc _=>none|_=>some false
section
variable {T:Tab}{K:W.Frag}{mg:Str->Option Value}
noncomputable def ceOf (ces:List (Str×Addr)):Str->Option Addr:=λ c=>Jgz c ces
theorem J44 (ces:List (Str×Addr)) (fn:All (λ p:Str×D4=>∃fa fd,mg p.1=some (.ref fa)/\DefOk K p.1 p.2 fa fd) T.fns)
  (cls:All (λ p:Str×D4=>∃C fa fd,mg p.1=some (.ref C)/\ceOf ces p.1=some C/\Mk K C fa/\DefOk K "__init__" p.2 fa fd) T.clss)
  (meth:All (λ q:Str×List (Str×D4)=>∃C,ceOf ces q.1=some C/\All (λ p:Str×D4=>∃fa fd,Meth K C p.1 fa/\DefOk K p.1 p.2 fa fd) q.2) T.meths)
  (con:All (λ p:Str×IV=>∃u y,mg p.1=some u/\RelV y u/\∀ι H,RV K ι H p.2 y) T.cons)
  (cl:All (λ p:Str×Addr=>ClsI K p.2/\All (λ f=>Jfn K p.2 f) T.flds) ces)
  (isa:All (λ q:Str×List Str=>∃D,mg q.1=some (.ref D)/\W.kitOne K (.type "NoneType") (.ref D)=some false/\W.kitOne K (.type "bool") (.ref D)=some false/\W.kitOne K (.type "int") (.ref D)=some false/\W.kitOne K (.type "str") (.ref D)=some false /\
   W.kitOne K (.type "list") (.ref D)=some false/\W.kitOne K (.type "tuple") (.ref D)=some false/\W.kitOne K (.type "dict") (.ref D)=some false/\All (λ p:Str×Addr=>W.kitOne K (.ref p.2) (.ref D)=some (memS p.1 q.2)) ces) T.isas)
  (free:All (λ x=>mg x=none) T.frees)
  (bas:All (λ x=>∃C,mg x=some (.ref C)/\BasK K C) T.bass:=by exact .nil)
  (nes:All (λ c=>∃C,ceOf ces c=some C/\neIn K C=true/\W.kitOne K (.ref C) (.type "list")=some false) T.nes:=by exact .nil):TabOk (ceOf ces) T K mg:=by
 refine⟨λ x d h=>fn.mem h,λ x d h=>cls.mem h,λ c l m d hc hm=>?_,λ x v h=>con.mem h,λ D l h=>?_,λ f hf=>?_,λ x h=>free.mem h,λ x h=>bas.mem h,λ c h=>let ⟨C,p,q,r⟩:=nes.mem h;⟨C,p,q,(cl.mem (Ju p)).1,r⟩⟩
 ·obtain⟨C,hC,hl⟩:=meth.mem hc
  obtain⟨fa,fd,me,ok⟩:=hl.mem hm
  exact⟨C,fa,fd,hC,(cl.mem (Ju hC)).1.cl,me,ok⟩
 ·obtain⟨C,hC,h1,h2,h3,h4,h5,h6,h7,h8⟩:=isa.mem h
  refine⟨_,hC,⟨λ b e=>?_,λ b e=>?_,λ b e=>?_,λ b e=>?_,λ b e=>?_,λ b e=>?_,λ b e=>?_,λ k C' b e hk=>?_,(λ k C' b e=>by cases e)⟩⟩
  ·cases e;exact h1
  ·cases e;exact h2
  ·cases e;exact h3
  ·cases e;exact h4
  ·cases e;exact h5
  ·cases e;exact h6
  ·cases e;exact h7
  ·cases e
   exact⟨(cl.mem (Ju hk)).1,h8.mem (Ju hk)⟩
 ·intro c C e
  obtain⟨h1,h2⟩:=cl.mem (Ju e)
  exact⟨h1.cl,h2.mem hf⟩
theorem len1 {α:Type}{P:List α->Prop}(F0:∀a,P [a]):∀us:List α,us.length=1->P us
 | [a],_=>F0 a
theorem len2 {α:Type}{P:List α->Prop}(F0:∀a b,P [a,b]):∀us:List α,us.length=2->P us
 | [a,b],_=>F0 a b
theorem len3 {α:Type}{P:List α->Prop}(F0:∀a b c,P [a,b,c]):∀us:List α,us.length=3->P us
 | [a,b,c],_=>F0 a b c
theorem len4 {α:Type}{P:List α->Prop}(F0:∀a b c d,P [a,b,c,d]):∀us:List α,us.length=4->P us
 | [a,b,c,d],_=>F0 a b c d
theorem len5 {α:Type}{P:List α->Prop}(F0:∀a b c d e,P [a,b,c,d,e]):∀us:List α,us.length=5->P us
 | [a,b,c,d,e],_=>F0 a b c d e
theorem len6 {α:Type}{P:List α->Prop}(F0:∀a b c d e f,P [a,b,c,d,e,f]):∀us:List α,us.length=6->P us
 | [a,b,c,d,e,f],_=>F0 a b c d e f
theorem len7 {α:Type}{P:List α->Prop}(F0:∀a b c d e f g,P [a,b,c,d,e,f,g]):∀us:List α,us.length=7->P us
 | [a,b,c,d,e,f,g],_=>F0 a b c d e f g
theorem upto3:∀j:Nat,j<=3->j=0∨j=1∨j=2∨j=3:=by omega
theorem Jza {x:Str}{d:D4}{fa:Addr}{oc kV doc pm cdv ct:Value}{od an:Option Addr}{osl:Array (Option Value)}(lk:K.lookup fa=some ⟨oc,od,.func (W.fnOf x d.qual (Jae d.st) (Jz d.st) (Jh d.st) .none kV doc pm an cdv ct),osl⟩)
  (hc:W.codeIn K cdv d.qual=true) (hk:W.keepIn K (.ref fa)=true) (sc:FnScope d.N d.ps (Jh d.st)) (hd:d.dvs=[])
  (hb:∀us:List Value,us.length=d.ps.length->bindArgs (W.fnOf x d.qual (Jae d.st) (Jz d.st) (Jh d.st) .none kV doc pm an cdv ct) ⟨us,[]⟩=pure (d.ps.zip us)) :
  DefOk K x d fa (W.fnOf x d.qual (Jae d.st) (Jz d.st) (Jh d.st) .none kV doc pm an cdv ct) :=
 ⟨⟨_,⟨oc,od,kV,doc,pm,an,cdv,ct,osl,rfl,lk,hc⟩,hk⟩,sc,λ j hj=>⟨[],.all hb,by rw[hd];simp,[],.nil,by rw[hd];intro _ _;cases j<;>exact rfl⟩⟩
noncomputable def scOk (N P:List Str) (sc:Scope):Bool :=
 sc.kind==.function&&!sc.isCoroutine&&!sc.isGenerator&&decide N.Nodup&&decide (N.take P.length=P)&&P.all (λ x=>sc.names.lookup x==some .local||sc.names.lookup x==some .cell)&&sc.names.all (λ y=>!(y.2==.free))
theorem scOk.of {N P:List Str}{sc:Scope}(h:scOk N P sc=true):FnScope N P sc:=by
 simp only[scOk,Bool.and_eq_true,beq_iff_eq,Bool.not_eq_true',decide_eq_true_eq,List.all_eq_true,Bool.or_eq_true,beq_eq_false_iff_ne] at h
 obtain⟨⟨⟨⟨⟨⟨h1,h2⟩,h3⟩,h4⟩,h5⟩,h6⟩,h7⟩:=h
 exact⟨h1,h2,h3,h4,h5,h6,h7⟩
noncomputable def FnB (x q:Str) (d:D4):Prop:=FnScope d.N d.ps (Jh d.st)/\d.dvs=[]/\d.qual=q/\∀(kV doc pm:Value) (an:Option Addr) (cdv ct:Value) (us:List Value),us.length=d.ps.length->bindArgs (W.fnOf x d.qual (Jae d.st) (Jz d.st) (Jh d.st) .none kV doc pm an cdv ct) ⟨us,[]⟩=pure (d.ps.zip us)
section
variable {x q:Str}{d:D4}{h:Heap}{a C:Addr}{oc kV dc pm cd ct:Value}{od an:Option Addr}{sl:Array (Option Value)}
theorem Jv0 (B:FnB x q d) (hl:K.lookup a=some ⟨oc,od,.func (W.fnOf x q (Jae d.st) (Jz d.st) (Jh d.st) .none kV dc pm an cd ct),sl⟩) (hc:W.codeIn K cd q=true) (hk:W.keepIn K (.ref a)=true):∃fd,DefOk K x d a fd:=by
 obtain⟨s,v,rfl,b⟩:=B
 exact⟨_,Jza hl hc hk s v (b _ _ _ _ _ _)⟩
theorem J8 (X:K.In h) (G:h.Ns mainGlobals mg) (B:FnB x q d) (ha:W.nsIn K mainGlobals x=some (some (.ref a))) (hl:K.lookup a=some ⟨oc,od,.func (W.fnOf x q (Jae d.st) (Jz d.st) (Jh d.st) .none kV dc pm an cd ct),sl⟩) (hc:W.codeIn K cd q=true) (hk:W.keepIn K (.ref a)=true):∃fa fd,mg x=some (.ref fa)/\DefOk K x d fa fd :=
 let ⟨fd,D⟩:=Jv0 B hl hc hk
 ⟨a,fd,W.mg_of X G ha,D⟩
theorem J09 (B:FnB x q d) (ha:W.findIn K (.ref C) x=some (some (.ref a))) (hi:W.isFn K (.ref a)=true) (hl:K.lookup a=some ⟨oc,od,.func (W.fnOf x q (Jae d.st) (Jz d.st) (Jh d.st) .none kV dc pm an cd ct),sl⟩) (hc:W.codeIn K cd q=true) (hk:W.keepIn K (.ref a)=true):∃fa fd,Meth K C x fa/\DefOk K x d fa fd :=
 let ⟨fd,D⟩:=Jv0 B hl hc hk
 ⟨a,fd,⟨ha,hi,hk⟩,D⟩
theorem mk_in (B:FnB "__init__" q d) (ha:W.findIn K (.ref C) "__init__"=some (some (.ref a))) (hi:W.isFn K (.ref a)=true) (hl:K.lookup a=some ⟨oc,od,.func (W.fnOf "__init__" q (Jae d.st) (Jz d.st) (Jh d.st) .none kV dc pm an cd ct),sl⟩) (hc:W.codeIn K cd q=true) (hk:W.keepIn K (.ref a)=true) (hm:W.makesIn K C=true) (hq:W.keepIn K (.ref C)=true):∃fa fd,Mk K C fa/\DefOk K "__init__" d fa fd :=
 let ⟨fd,D⟩:=Jv0 B hl hc hk
 ⟨a,fd,⟨hm,ha,hi,hq⟩,D⟩
end
theorem J04 {ce:Str->Option Addr}{prog:Program}{w:World}{base:Heap}(O:TabOk ce T K mg) (B:T.tabs≠[]->Jjj mg base) (k:Nat){d:D4}{fa:Addr}{fd:FuncData}{x:Str}(hp:d.ps=[x]) (ok:DefOk K "law" d fa fd) :
  FnOk prog w K mg base (CXI prog w) (4*k) fa fd [x] (Jti K x (run T k d)):=by
 have:=(Jzb (prog:=prog) (w:=w) (base:=base) O B k "law" d fa fd ok).ok
 rw[hp] at this
 exact Jxh this
end
noncomputable def WR {α:Type}(r:Res α) (Q:α->IH->Prop):Prop:=match r with
 | .ok a h=>Q a h
 | _=>False
noncomputable def WS (r:SRes) (N:ISt->IH->Prop) (R:IV->IH->Prop):Prop:=match r with
 | .next σ h=>N σ h
 | .ret v h=>R v h
 | _=>False
section
variable {α β:Type}{σ:ISt}{h:IH}{Q:α->IH->Prop}{N:ISt->IH->Prop}{R:IV->IH->Prop}
theorem WR.mono {r:Res α}{P Q:α->IH->Prop}(x:WR r P) (f:∀a h,P a h->Q a h):WR r Q:=by
 cases r with
 | ok a h=>exact f a h x
 | exc n h=>exact x
 | stuck=>exact x
theorem WR.of_eq {r:Res α}{a:α}{h:IH}(e:r=.ok a h) (q:Q a h):WR r Q:=by rw[e];exact q
theorem WR.eq {r:Res α}(x:WR r Q):∃a h,r=.ok a h/\Q a h:=by
 cases r with
 | ok a h=>exact⟨a,h,rfl,x⟩
 | exc n h=>exact x.elim
 | stuck=>exact x.elim
theorem WS.mono {r:SRes}{N N':ISt->IH->Prop}{R R':IV->IH->Prop}(x:WS r N R) (f:∀σ h,N σ h->N' σ h) (g:∀v h,R v h->R' v h):WS r N' R':=by
 cases r with
 | next σ h=>exact f σ h x
 | ret v h=>exact g v h x
 | _=>exact x
theorem Ji8 (a:α):WR (.ok a h) Q=Q a h:=rfl
theorem Jy4:WR (.stuck:Res α) Q=False:=rfl
theorem Jd (r:Res α) (f:α->IH->Res β) (Q:β->IH->Prop):WR (r.bind f) Q=WR r λ a h=>WR (f a h) Q:=by cases r<;>rfl
theorem Jtx (r:Res α):WR r.nx Q=WR r Q:=by cases r<;>rfl
theorem Jd8 (c:Prop) [Decidable c] (x y:Res α):WR (if c then x else y) Q=((c->WR x Q)/\(¬c->WR y Q)):=by
 by_cases hc:c<;>simp[hc]
theorem Jcz (r:Res α) (k:α->IH->SRes):WS (rS σ r k) N R=WR r λ a h=>WS (k a h) N R:=by cases r<;>rfl
theorem Jlt (r:SRes) (Q:IV->IH->Prop):WR r.fin Q=WS r (λ _ h=>Q .non h) Q:=by
 cases r with
 | exc n σ h=>show WR (match h[n]? with|some (.exc _ _)=>Res.exc n h|_=>Res.stuck) Q=False;split<;>rfl
 | _=>rfl
theorem Jh9 (σ:ISt):WS (.next σ h) N R=N σ h:=rfl
theorem Jmg (v:IV):WS (.ret v h) N R=R v h:=rfl
theorem Jmh (a b:S1):WS (sSeq a b σ h) N R=WS (a σ h) (λ σ1 h1=>WS (b σ1 h1) N R) R:=by
 unfold sSeq;cases a σ h<;>rfl
theorem Ji1:WS (sNil σ h) N R=N σ h:=rfl
theorem Jia:WS (J1s σ h) N R=N σ h:=rfl
theorem Jmi (i:Nat) (e:E1):WS (sSet i e σ h) N R=WR (e σ h) λ v h1=>N (σ.set i (some v)) h1:=by unfold sSet;rw[Jcz];rfl
theorem Jt2 (t:T1) (a b:S1):WS (sIf t a b σ h) N R=WR (t σ h) λ c h1=>(c=true->WS (a σ h1) N R)/\(c=false->WS (b σ h1) N R):=by
 unfold sIf;rw[Jcz];congr 1;funext c h1;cases c<;>simp
theorem Jic (e:E1):WS (sRet e σ h) N R=WR (e σ h) R:=by unfold sRet;rw[Jcz];rfl
theorem Jib:WS (J1t σ h) N R=R .non h:=rfl
theorem Jfi (e:E1):WS (Jg9 e σ h) N R=WR (e σ h) λ _ h1=>N σ h1:=by unfold Jg9;rw[Jcz];rfl
theorem Jmd (e:E1) (g:G1):WS (sAsg e g σ h) N R=WR (e σ h) λ v h1=>WS (g v σ h1) N R:=by unfold sAsg;rw[Jcz]
theorem Jmf (i:Nat) (v:IV):WS (gNm i v σ h) N R=N (σ.set i (some v)) h:=rfl
theorem Jr4 (n:Nat) (g:List IV->ISt->IH->SRes) (xs:List IV):WS (gTp n g (.tup xs) σ h) N R=(xs.length=n/\WS (g xs σ h) N R):=by
 unfold gTp
 by_cases hn:xs.length=n
 ·simp[hn]
 ·simp[hn,WS]
theorem Jy6:WS (gN [] σ h) N R=N σ h:=rfl
theorem Jy5 (i:Nat) (r:List IV->ISt->IH->SRes) (v:IV) (vs:List IV):WS (gC (gNm i) r (v::vs) σ h) N R=WS (r vs (σ.set i (some v)) h) N R:=rfl
theorem Jq0 (f:Str) (o e:E1):WS (Jkk f o e σ h) N R=WR (e σ h) λ v h1=>WR (o σ h1) λ ov h2=>∃i c fs,ov=.ref i/\h2[i]?=some (.ins c fs)/\fs.length<1000/\N σ (h2.set i (.ins c (putI f v fs))):=by
 unfold Jkk;rw[Jcz];congr 1;funext v h1;rw[Jcz];congr 1;funext ov h2
 cases ov with
 | ref i =>
  cases e:h2[i]? with
  | none=>simp[WS,e]
  | some o =>
   cases o with
   | ins c fs =>
    by_cases hl:fs.length<1000
    ·simp only[e,hl,if_true,WS]
     refine propext ⟨λ q=>⟨i,c,fs,rfl,e,hl,q⟩,λ ⟨i',c',fs',e1,e2,_,q⟩=>?_⟩
     cases e1
     rw[e] at e2
     cases e2
     exact q
    ·simp only[e,hl,if_false,WS]
     refine propext ⟨λ q=>q.elim,λ ⟨i',c',fs',e1,e2,hl',_⟩=>?_⟩
     cases e1
     rw[e] at e2
     cases e2
     exact hl hl'
   | _=>simp[WS,e]
 | _=>simp[WS]
theorem Jme (it:I1) (g:G1) (b:S1):WS (sFor it g b σ h) N R=WR (it σ h) λ J h1=>WS (Jfg J.chk g b J.xs σ h1) N R:=by unfold sFor;rw[Jcz]
theorem J2i (v:IV) (Q:IV->IH->Prop):WR (eC v σ h) Q=Q v h:=rfl
theorem Jlr (f:IV->IV->IH->Res IV) (a b:E1) (Q:IV->IH->Prop):WR (eBin f a b σ h) Q=WR (a σ h) λ x h1=>WR (b σ h1) λ y h2=>WR (f x y h2) Q:=by
 unfold eBin;rw[Jd];congr 1;funext x h1;rw[Jd]
theorem Jt1 (f:IV->IH->Res IV) (a:E1) (Q:IV->IH->Prop):WR (eUn f a σ h) Q=WR (a σ h) λ x h1=>WR (f x h1) Q:=by unfold eUn;rw[Jd]
theorem Jlp (a b:E1) (tr:IV->IH->Res Bool) (Q:IV->IH->Prop):WR (eAnd a b tr σ h) Q=WR (a σ h) λ x h1=>WR (tr x h1) λ c h2=>(c=true->WR (b σ h2) Q)/\(c=false->Q x h2):=by
 unfold eAnd;rw[Jd];congr 1;funext x h1;rw[Jd];congr 1;funext c h2;cases c<;>simp[WR]
theorem Jty (a b:E1) (tr:IV->IH->Res Bool) (Q:IV->IH->Prop):WR (eOr a b tr σ h) Q=WR (a σ h) λ x h1=>WR (tr x h1) λ c h2=>(c=true->Q x h2)/\(c=false->WR (b σ h2) Q):=by
 unfold eOr;rw[Jd];congr 1;funext x h1;rw[Jd];congr 1;funext c h2;cases c<;>simp[WR]
theorem Jtt (t:T1) (a b:E1) (Q:IV->IH->Prop):WR (eIf t a b σ h) Q=WR (t σ h) λ c h1=>(c=true->WR (a σ h1) Q)/\(c=false->WR (b σ h1) Q):=by
 unfold eIf;rw[Jd];congr 1;funext c h1;cases c<;>simp
theorem Jh5 (a b:T1) (Q:Bool->IH->Prop):WR (Jtk a b σ h) Q=WR (a σ h) λ c h1=>(c=true->WR (b σ h1) Q)/\(c=false->Q false h1):=by
 unfold Jtk;rw[Jd];congr 1;funext c h1;cases c<;>simp[WR]
theorem Jmb (a b:T1) (Q:Bool->IH->Prop):WR (tOrI a b σ h) Q=WR (a σ h) λ c h1=>(c=true->Q true h1)/\(c=false->WR (b σ h1) Q):=by
 unfold tOrI;rw[Jd];congr 1;funext c h1;cases c<;>simp[WR]
theorem Jh6 (a:T1) (Q:Bool->IH->Prop):WR (Jal a σ h) Q=WR (a σ h) λ c h1=>Q (!c) h1:=by unfold Jal;rw[Jd];rfl
theorem Jh7 (tr:IV->IH->Res Bool) (a:E1) (Q:Bool->IH->Prop):WR (tOfB tr a σ h) Q=WR (a σ h) λ x h1=>WR (tr x h1) Q:=by unfold tOfB;rw[Jd]
theorem Jcy (f g:IV->IV->IH->Res IV) (a b c:E1) (Q:IV->IH->Prop):WR (Jbc f g a b c σ h) Q=WR (a σ h) λ x h1=>WR (b σ h1) λ y h2=>WR (f x y h2) λ k h3=>∃t,k=.bl t/\(t=true->WR (c σ h3) λ z h4=>WR (g y z h4) Q)/\(t=false->Q (.bl false) h3):=by
 unfold Jbc;rw[Jd];congr 1;funext x h1;rw[Jd];congr 1;funext y h2;rw[Jd];congr 1;funext k h3
 cases k with
 | bl t =>
  cases t with
  | true =>
   show WR ((c σ h3).bind λ z h4=>g y z h4) Q=_
   rw[Jd]
   simp
  | false=>simp[WR]
 | _=>simp[WR]
theorem Jhu (Q:List IV->IH->Prop):WR (aNil σ h) Q=Q [] h:=rfl
theorem Jem (a:E1) (r:A1) (Q:List IV->IH->Prop):WR (Ja a r σ h) Q=WR (a σ h) λ x h1=>WR (r σ h1) λ xs h2=>Q (x::xs) h2:=by
 unfold Ja;rw[Jd];congr 1;funext x h1;rw[Jd];rfl
theorem Jmc (a:A1) (Q:IV->IH->Prop):WR (eTup a σ h) Q=WR (a σ h) λ xs h1=>xs.length<=sizeLine/\Q (.tup xs) h1:=by
 unfold eTup;rw[Jd];congr 1;funext xs h1;rw[Jd8]
 by_cases hz:xs.length<=sizeLine<;>simp[hz,WR]
theorem Jl1 (a:A1) (Q:IV->IH->Prop):WR (eLst a σ h) Q=WR (a σ h) λ xs h1=>xs.length<=sizeLine/\Q (.ref h1.length) (h1++[.lst xs]):=by
 unfold eLst;rw[Jd];congr 1;funext xs h1;rw[Jd8]
 by_cases hz:xs.length<=sizeLine<;>simp[hz,WR]
theorem Jhv (f:List IV->IH->Res IV) (d:List IV) (a:A1) (Q:IV->IH->Prop):WR (Jl f d a σ h) Q=WR (a σ h) λ vs h1=>WR (f (vs++d) h1) Q:=by
 unfold Jl;rw[Jd]
theorem Jh2 (c:Str) (f:List IV->IH->Res IV) (d:List IV) (a:A1) (Q:IV->IH->Prop):WR (Jn4 c f d a σ h) Q=WR (a σ h) λ vs h1=>WR (f (.ref h1.length::(vs++d)) (h1++[.ins c []])) λ r h2=>r=.non/\Q (.ref h1.length) h2:=by
 unfold Jn4;rw[Jd];congr 1;funext vs h1;rw[Jd];congr 1;funext r h2;cases r<;>simp[WR]
theorem Jtp (f:List IV->IH->Res IV) (a:A1) (Q:IV->IH->Prop):WR (eCB f a σ h) Q=WR (a σ h) λ vs h1=>WR (f vs h1) Q:=by unfold eCB;rw[Jd]
theorem Jl7 (f:IV->IH->Res IV) (x:IV) (Q:IV->IH->Prop):WR (on1 f [x] h) Q=WR (f x h) Q:=rfl
theorem J5a (f:IV->IV->IH->Res IV) (x y:IV) (Q:IV->IH->Prop):WR (on2 f [x,y] h) Q=WR (f x y h) Q:=rfl
theorem Jlw (ans:Ty->Option Bool) (e:E1) (Q:IV->IH->Prop):WR (eIsi ans e σ h) Q=WR (e σ h) λ v h1=>∃b,(tyI v h1).bind ans=some b/\Q (.bl b) h1:=by
 unfold eIsi;rw[Jd];congr 1;funext v h1
 cases (tyI v h1).bind ans<;>simp[WR]
theorem Jeo (Q:Option Int->IH->Prop):WR (Jm4 σ h) Q=Q none h:=rfl
theorem Jep (e:E1) (Q:Option Int->IH->Prop):WR (Ji4 e σ h) Q=WR (e σ h) λ v h1=>∃i,v=.int i/\Q (some i) h1:=by
 unfold Ji4;rw[Jd];congr 1;funext v h1;cases v<;>simp[WR]
theorem Jtz (f:IV->Option Int->Option Int->IH->Res IV) (e:E1) (lo hi:O1) (Q:IV->IH->Prop):WR (eSl f e lo hi σ h) Q=WR (e σ h) λ x h1=>WR (lo σ h1) λ l h2=>WR (hi σ h2) λ u h3=>WR (f x l u h3) Q:=by
 unfold eSl;rw[Jd];congr 1;funext x h1;rw[Jd];congr 1;funext l h2;rw[Jd]
noncomputable def Jn5 (f:Str) (v:IV) (h:IH):Option IV:=match v with
 | .ref i=>(match h[i]? with
  | some (.ins _ fs)=>fs.lookup f
  | _=>none)
 | _=>none
theorem Jlu (f:Str) (o:E1) (Q:IV->IH->Prop):WR (eFld f o σ h) Q=WR (o σ h) λ v h1=>∃x,Jn5 f v h1=some x/\Q x h1:=by
 unfold eFld;rw[Jd];congr 1;funext v h1
 cases v with
 | ref i =>
  unfold Jn5
  cases e:h1[i]? with
  | none=>simp[WR,e]
  | some ob =>
   cases ob with
   | ins c fs=>cases e2:fs.lookup f<;>simp[WR,e,e2]
   | _=>simp[WR,e]
 | _=>simp[WR,Jn5]
variable {i j:Int}{x y:Str}{P:IV->IH->Prop}
theorem Jlo (i j:Int):WR (Jm (.int i) (.int j) h) P=P (.int (i+j)) h:=rfl
theorem Jma (i j:Int):WR (Jkf (.int i) (.int j) h) P=P (.int (i-j)) h:=rfl
theorem Jl4 (i:Int):WR (J1f (.int i) h) P=P (.int (-i)) h:=rfl
theorem Jl3 (i j:Int):WR (Jd5 (.int i) (.int j) h) P=(Ja0 i j/\P (.int (i*j)) h):=by
 show WR (Jsy (.int i) (.int j) h) P=_
 unfold Jsy;rw[Jd8];by_cases hm:Ja0 i j<;>simp[hm,WR]
theorem Jhx (i j:Int):WR (J9 (.int i) (.int j) h) P=((0<j/\j.natAbs.log2<9000)/\P (.int (i/j)) h):=by
 unfold J9;rw[Jd8];by_cases hm:0<j/\j.natAbs.log2<9000<;>simp[hm,WR]
theorem Jl2 (i j:Int):WR (Jp (.int i) (.int j) h) P=(0<j/\P (.int (i%j)) h):=by
 unfold Jp;rw[Jd8];by_cases hm:0<j<;>simp[hm,WR]
theorem Jl8 (i j:Int):WR (Jg6 (.int i) (.int j) h) P=((0<=j/\j<=1000000/\i.natAbs<2^64)/\P (.int (i^j.toNat)) h):=by
 unfold Jg6;rw[Jd8];by_cases hm:0<=j/\j<=1000000/\i.natAbs<2^64<;>simp[hm,WR]
theorem Jht (x y:Str):WR (Jm (.str x) (.str y) h) P=(x.length+y.length<=sizeLine/\P (.str (x++y)) h):=by
 unfold Jm;rw[Jd8];by_cases hm:x.length+y.length<=sizeLine<;>simp[hm,WR]
theorem Jtv (i j:Int):WR (cLt (.int i) (.int j) h) P=P (.bl (decide (i<j))) h:=rfl
theorem Jtu (i j:Int):WR (cLe (.int i) (.int j) h) P=P (.bl (decide (i<=j))) h:=rfl
theorem J49 (x y:Str):WR (cLe (.str x) (.str y) h) P=P (.bl (!decide (y.cps.toList<x.cps.toList))) h:=rfl
theorem Jts (i j:Int):WR (cGt (.int i) (.int j) h) P=P (.bl (decide (j<i))) h:=rfl
theorem Jtr (i j:Int):WR (cGe (.int i) (.int j) h) P=P (.bl (decide (j<=i))) h:=rfl
theorem Jtq (i j:Int):WR (cEq (.int i) (.int j) h) P=P (.bl (decide (i=j))) h:=rfl
theorem Jtw (i j:Int):WR (cNe (.int i) (.int j) h) P=P (.bl (!decide (i=j))) h:=rfl
theorem Jls (x y:Str):WR (cEq (.str x) (.str y) h) P=P (.bl (decide (x=y))) h:=rfl
theorem Jl5 (x y:Str):WR (cNe (.str x) (.str y) h) P=P (.bl (!decide (x=y))) h:=rfl
theorem Jlq (b:Bool) (P:Bool->IH->Prop):WR (asB (.bl b) h) P=P b h:=rfl
theorem Jh8 (b:Bool) (P:Bool->IH->Prop):WR (tru (.bl b) h) P=P b h:=rfl
theorem Jl6 (tr:IV->IH->Res Bool) (v:IV):WR (Jqi tr v h) P=WR (tr v h) λ c h1=>P (.bl (!c)) h1:=by unfold Jqi;rw[Jd];rfl
theorem Jwz (v w:IV):WR (cIs v w h) P=∃b,isI v w=some b/\P (.bl b) h:=by unfold cIs;cases isI v w<;>simp[WR]
theorem Jnn (v w:IV):WR (Jj1 v w h) P=∃b,isI v w=some b/\P (.bl (!b)) h:=by unfold Jj1;cases isI v w<;>simp[WR]
theorem Jam {chk:IH->Prop}{g:G1}{b:S1}(I:Nat->ISt->IH->Prop){xs:List IV}(hc:∀i σ h,I i σ h->chk h)
  (turn:∀i (hi:i<xs.length) σ h,I i σ h->WS (g xs[i] σ h) (λ σ1 h1=>WS (b σ1 h1) (I (i+1)) R) λ _ _=>False) (done:∀σ h,I xs.length σ h->N σ h) (start:I 0 σ h):WS (Jfg chk g b xs σ h) N R:=by
 have key:∀(n i:Nat) (σ:ISt) (h:IH),xs.length-i=n->i<=xs.length->I i σ h->WS (Jfg chk g b (xs.drop i) σ h) N R:=by
  intro n
  induction n with
  | zero =>
   intro i σ h hn hi hI
   have:i=xs.length:=by omega
   subst this
   rw[List.drop_length]
   unfold Jfg
   rw[if_pos (hc _ _ _ hI)]
   exact done _ _ hI
  | succ n ih =>
   intro i σ h hn hi hI
   have hlt:i<xs.length:=by omega
   rw[List.drop_eq_getElem_cons hlt]
   unfold Jfg
   rw[if_pos (hc _ _ _ hI)]
   have t:=turn i hlt σ h hI
   cases eg:g xs[i] σ h with
   | next σ1 h1 =>
    rw[eg] at t
    have t':WS (b σ1 h1) (I (i+1)) R:=t
    dsimp only
    cases eb:b σ1 h1 with
    | next σ2 h2=>rw[eb] at t';exact ih (i+1) σ2 h2 (by omega) hlt t'
    | ret v h2=>rw[eb] at t';exact t'
    | brk σ2 h2=>rw[eb] at t';exact t'.elim
    | cont σ2 h2=>rw[eb] at t';exact t'.elim
    | exc m σ2 h2=>rw[eb] at t';exact t'.elim
    | stuck=>rw[eb] at t';exact t'.elim
   | ret v h1=>rw[eg] at t;exact t.elim
   | brk σ2 h2=>rw[eg] at t;exact t.elim
   | cont σ2 h2=>rw[eg] at t;exact t.elim
   | exc m σ2 h2=>rw[eg] at t;exact t.elim
   | stuck=>rw[eg] at t;exact t.elim
 have:=key xs.length 0 σ h (by omega) (Nat.zero_le _) start
 simpa using this
end
section
variable {α:Type}{h h1:IH}{a:α}{r:Res α}{P:IV->IH->Prop}
theorem Jho (x:WR r λ v h'=>v=a/\h'=h1):r=.ok a h1:=by
 obtain⟨_,_,e,rfl,rfl⟩:=x.eq
 exact e
theorem Jkp (xs:List IV) (n:Int):WR (opIx (.tup xs) (.int n) h) P=∃x,atI xs n=some x/\P x h:=by
 unfold opIx;cases e:atI xs n<;>simp[WR,e]
theorem Jl0 (xs:List IV) (n:Int):WR (opIx (.rol xs) (.int n) h) P=∃x,atI xs n=some x/\P x h:=by
 unfold opIx;cases e:atI xs n<;>simp[WR,e]
theorem Jbe (i:Nat) (n:Int):WR (opIx (.ref i) (.int n) h) P=∃xs,h[i]?=some (.lst xs)/\∃x,atI xs n=some x/\P x h:=by
 unfold opIx
 cases e:h[i]? with
 | none=>simp[WR,e]
 | some o =>
  cases o with
  | lst xs=>cases e2:atI xs n<;>simp[WR,e,e2]
  | _=>simp[WR,e]
theorem Jh1 (xs:List IV):WR (lenI (.tup xs) h) P=P (.int xs.length) h:=rfl
theorem Jhz (xs:List IV):WR (lenI (.rol xs) h) P=P (.int xs.length) h:=rfl
theorem Jno (i:Nat):WR (lenI (.ref i) h) P=∃xs,h[i]?=some (.lst xs)/\P (.int xs.length) h:=by
 unfold lenI
 cases e:h[i]? with
 | none=>simp[WR,e]
 | some o=>cases o<;>simp[WR,e]
theorem Jh0 (x:Str):WR (lenI (.str x) h) P=(x.length<=sizeLine/\P (.int x.length) h):=by
 unfold lenI;rw[Jd8];by_cases hm:x.length<=sizeLine<;>simp[hm,WR]
theorem Jan {xs:List α}{n:Nat}{x:α}(e:xs[n]?=some x):atI xs (n:Int)=some x:=by
 have hn:n<xs.length:=(List.getElem?_eq_some_iff.mp e).1
 have:(n:Int)<xs.length:=by omega
 simp[atI,ixN,this,e]
theorem Je4 {x:α}{xs:List α}:atI (x::xs) 0=some x:=by simp[atI,ixN]
theorem Je5 {x y:α}{xs:List α}:atI (x::y::xs) 1=some y:=Jan (n:=1) rfl
theorem Jhg {x y z:α}{xs:List α}:atI (x::y::z::xs) 2=some z:=Jan (n:=2) rfl
theorem Jkq {x y z u:α}{xs:List α}:atI (x::y::z::u::xs) 3=some u:=Jan (n:=3) rfl
theorem Jps {x y z u v:α}{xs:List α}:atI (x::y::z::u::v::xs) 4=some v:=Jan (n:=4) rfl
theorem Jud {xs:List α}{n:Int}{x:α}(h0:0<=n) (e:xs[n.toNat]?=some x):atI xs n=some x:=by
 have:=Jan e
 rwa [Int.toNat_of_nonneg h0] at this
theorem Jhr (i:Int):tyI (.int i) h=some .int:=rfl
theorem Jll (x:Str):tyI (.str x) h=some .str:=rfl
theorem Jlm (xs:List IV):tyI (.tup xs) h=some .tup:=rfl
theorem Jtn (b:Bool):tyI (.bl b) h=some .bl:=rfl
theorem Jlj:tyI .non h=some .non:=rfl
theorem Jlk (xs:List IV):tyI (.rol xs) h=some .lst:=rfl
theorem Jzz {i:Nat}{xs:List IV}(e:h[i]?=some (.lst xs)):tyI (.ref i) h=some .lst:=by simp[tyI,e]
theorem grow {i:Nat}{o:IO}{g:IH}(e:h[i]?=some o):(h++g)[i]?=some o:=by
 rw[List.getElem?_append_left (List.getElem?_eq_some_iff.mp e).1];exact e
theorem grown {o:IO}:(h++[o])[h.length]?=some o:=by simp
theorem Jcv {i:Nat}{o:IO}(e:h[i]?=some o):i<h.length:=(List.getElem?_eq_some_iff.mp e).1
theorem Jnw (f:IV->Bool):∀xs:List IV,Jnv (xs.map λ x=>.bl (f x))=some (xs.map f)
 | []=>rfl
 | x::xs=>by simp[Jnv,Jnw f xs]
theorem all_map {f:IV->Bool}{i:Nat}{xs:List IV}(e:h[i]?=some (.lst (xs.map λ x=>.bl (f x)))):allI (.ref i) h=.ok (.bl (xs.all f)) h:=by
 simp[allI,e,Jnw,List.all_map,Function.comp_def]
end
noncomputable def Ex (h h':IH):Prop:=∃g,h'=h++g
theorem Ex.refl (h:IH):Ex h h:=⟨[],by simp⟩
theorem Ex.trans {h h1 h2:IH}(a:Ex h h1) (b:Ex h1 h2):Ex h h2:=by
 obtain⟨g,rfl⟩:=a
 obtain⟨g',rfl⟩:=b
 exact⟨g++g',by simp⟩
theorem Ex.get {h h':IH}(a:Ex h h'){i:Nat}{o:IO}(e:h[i]?=some o):h'[i]?=some o:=by
 obtain⟨g,rfl⟩:=a
 exact grow e
theorem Ex.one (h:IH) (o:IO):Ex h (h++[o]):=⟨[o],rfl⟩
theorem Ex.len {h h':IH}(a:Ex h h'):h.length<=h'.length:=by
 obtain⟨g,rfl⟩:=a
 simp
section
variable {α:Type}{h:IH}
theorem J0f {chk:IH->Prop}{t:T1}{e:E1}{caps:ISt}{p:IV->Bool}{f:IV->IV}(i0:Nat):∀{xs acc:List IV}{o:Option IV}{h1:IH},h1[i0]?=some (.lst acc)->(∀h2,(∀j ob,j≠i0->h1[j]?=some ob->h2[j]?=some ob)->chk h2)->acc.length+xs.length<sizeLine ->
  (∀x∈xs,∀h2,(∀j ob,j≠i0->h1[j]?=some ob->h2[j]?=some ob)->WR (t (some x::caps) h2) λ b h3=>b=p x/\Ex h2 h3) ->
  (∀x∈xs,p x=true->∀h2,(∀j ob,j≠i0->h1[j]?=some ob->h2[j]?=some ob)->WR (e (some x::caps) h2) λ v h3=>v=f x/\Ex h2 h3) ->
  WR (Jc6 chk (gNm 0) t e i0 xs (o::caps) h1) λ v h3=>v=.ref i0/\∃g,h3=h1.set i0 (.lst (acc++(xs.filter p).map f))++g
 | [],acc,o,h1,hi,hc,_,_,_=>by
  unfold Jc6
  rw[if_pos (hc h1 λ _ _ _ q=>q)]
  refine⟨rfl,[],?_⟩
  simp only[List.filter_nil,List.map_nil,List.append_nil]
  refine(List.ext_getElem? λ j=>?_)
  by_cases hj:j=i0
  ·subst hj
   rw[hi,List.getElem?_set_self (Jcv hi)]
  ·rw[List.getElem?_set_ne (Ne.symm hj)]
 | x::xs,acc,o,h1,hi,hc,hl,ht,he=>by
  unfold Jc6
  rw[if_pos (hc h1 λ _ _ _ q=>q)]
  dsimp only[gNm,List.set_cons_zero]
  have hl':acc.length+xs.length+1<sizeLine:=by simpa [Nat.add_assoc] using hl
  obtain⟨b,h2,e1,rfl,x2⟩:=(ht x List.mem_cons_self h1 λ _ _ _ q=>q).eq
  rw[e1]
  have k12:∀j ob,j≠i0->h1[j]?=some ob->h2[j]?=some ob:=λ j ob _ q=>x2.get q
  cases hp:p x with
  | false =>
   dsimp only
   refine WR.mono (J0f i0 (x2.get hi) (λ h3 q=>hc h3 λ j ob n r=>q j ob n (k12 j ob n r)) (by omega) (λ y hy h3 q=>ht y (List.mem_cons_of_mem _ hy) h3 λ j ob n r=>q j ob n (k12 j ob n r))
    λ y hy hpy h3 q=>he y (List.mem_cons_of_mem _ hy) hpy h3 λ j ob n r=>q j ob n (k12 j ob n r)) λ v h3 ⟨ev,g,eg⟩=>⟨ev,?_⟩
   obtain⟨g2,rfl⟩:=x2
   refine⟨g2++g,?_⟩
   rw[eg,List.set_append_left (h:=Jcv hi)]
   simp[hp]
  | true =>
   dsimp only
   obtain⟨v,h3,e3,rfl,x3⟩:=(he x List.mem_cons_self hp h2 k12).eq
   rw[e3]
   dsimp only
   rw[x3.get (x2.get hi)]
   dsimp only
   rw[if_pos (by omega)]
   have k13:∀j ob,j≠i0->h1[j]?=some ob->(h3.set i0 (.lst (acc++[f x])))[j]?=some ob:=λ j ob n q=>by
    rw[List.getElem?_set_ne (Ne.symm n)]
    exact x3.get (x2.get q)
   refine WR.mono (J0f i0 (acc:=acc++[f x]) (by rw[List.getElem?_set_self (Jcv (x3.get (x2.get hi)))]) (λ h4 q=>hc h4 λ j ob n r=>q j ob n (k13 j ob n r)) (by simp;omega) (λ y hy h4 q=>ht y (List.mem_cons_of_mem _ hy) h4 λ j ob n r=>q j ob n (k13 j ob n r))
    λ y hy hpy h4 q=>he y (List.mem_cons_of_mem _ hy) hpy h4 λ j ob n r=>q j ob n (k13 j ob n r)) λ v h4 ⟨ev,g,eg⟩=>⟨ev,?_⟩
   obtain⟨g3,q3⟩:=x2.trans x3
   refine⟨g3++g,?_⟩
   rw[eg,q3,List.set_append_left (h:=Jcv hi),List.set_append_left (h:=by rw[List.length_set];exact Jcv hi),List.set_set]
   simp[hp]
theorem Jww {it:I1}{t:T1}{e:E1}{js:List Nat}{σ:ISt}{xs:List IV}{chk:IH->Prop}{p:IV->Bool}{f:IV->IV}{h0:IH}(hit:WR (it σ h0) λ J h1=>J.xs=xs/\J.chk=chk/\h1=h) (hl:xs.length<sizeLine)
  (hc:∀h2:IH,(∀(j:Nat) (ob:IO),h[j]?=some ob->h2[j]?=some ob)->chk h2)
  (ht:∀x∈xs,∀h2:IH,(∀(j:Nat) (ob:IO),h[j]?=some ob->h2[j]?=some ob)->WR (t (some x::js.map λ j=>(σ[j]?).join) h2) λ b h3=>b=p x/\Ex h2 h3)
  (he:∀x∈xs,p x=true->∀h2:IH,(∀(j:Nat) (ob:IO),h[j]?=some ob->h2[j]?=some ob)->WR (e (some x::js.map λ j=>(σ[j]?).join) h2) λ v h3=>v=f x/\Ex h2 h3) :
  WR (J0 it 1 js (gNm 0) t e σ h0) λ v h3=>v=.ref h.length/\∃g,h3=h++.lst ((xs.filter p).map f)::g:=by
 obtain⟨J,h1,e1,q1,q2,rfl⟩:=hit.eq
 unfold J0
 rw[e1]
 show WR (Jc6 J.chk (gNm 0) t e h1.length J.xs (none::js.map λ j=>(σ[j]?).join) (h1++[.lst []])) _
 rw[q1,q2]
 have lift:∀{h2:IH},(∀j ob,j≠h1.length->(h1++[IO.lst []])[j]?=some ob->h2[j]?=some ob)->∀j ob,h1[j]?=some ob->h2[j]?=some ob:=λ q j ob r=>q j ob (Nat.ne_of_lt (Jcv r)) (grow r)
 refine WR.mono (J0f (p:=p) (f:=f) h1.length (acc:=[]) grown (λ h2 q=>hc h2 (lift q)) (by simpa using hl) (λ x hx h2 q=>ht x hx h2 (lift q)) λ x hx hp h2 q=>he x hx hp h2 (lift q)) λ v h3 ⟨ev,g,eg⟩=>⟨ev,g,?_⟩
 rw[eg]
 simp
theorem filt {α:Type}(xs:List α):xs.filter (λ _=>true)=xs:=List.filter_eq_self.mpr (by simp)
theorem Jy {it:I1}{e:E1}{js:List Nat}{σ:ISt}{xs:List IV}{chk:IH->Prop}{f:IV->IV}{h0:IH}(hit:WR (it σ h0) λ J h1=>J.xs=xs/\J.chk=chk/\h1=h) (hl:xs.length<sizeLine)
  (hc:∀h2:IH,(∀(j:Nat) (ob:IO),h[j]?=some ob->h2[j]?=some ob)->chk h2)
  (he:∀x∈xs,∀h2:IH,(∀(j:Nat) (ob:IO),h[j]?=some ob->h2[j]?=some ob)->WR (e (some x::js.map λ j=>(σ[j]?).join) h2) λ v h3=>v=f x/\Ex h2 h3) :
  WR (J0 it 1 js (gNm 0) Jaa e σ h0) λ v h3=>v=.ref h.length/\∃g,h3=h++.lst (xs.map f)::g:=by
 have:=Jww (p:=λ _=>true) (f:=f) (t:=Jaa) (e:=e) (js:=js) (σ:=σ) (h:=h) hit hl hc (λ _ _ h2 _=>⟨rfl,.refl _⟩) λ x hx _ h2 q=>he x hx h2 q
 rwa [filt] at this
theorem Jq {o:IO}{g:IH}:(h++o::g)[h.length]?=some o:=by simp
theorem Ex.cons (h:IH) (o:IO) (g:IH):Ex h (h++o::g):=⟨_,rfl⟩
end
section
variable {σ:ISt}{h h1:IH}{Q:IV->IH->Prop}{J:ItI->IH->Prop}
theorem Jhy (e:E1):WR (iAny e σ h) J=WR (e σ h) λ v h1=>WR (Jsl v h1) J:=by unfold iAny;rw[Jd]
theorem Jlv (f:List IV->IH->Res ItI) (a:A1):WR (iRg f a σ h) J=WR (a σ h) λ vs h1=>WR (f vs h1) J:=by unfold iRg;rw[Jd]
theorem Jap (i:Nat):WR (Jsl (.ref i) h) J=∃xs,h[i]?=some (.lst xs)/\J ⟨xs,λ h'=>h'[i]?=some (.lst xs)⟩ h:=by
 show WR (itOf (.ref i) h) J=_
 unfold itOf
 cases e:h[i]? with
 | none=>simp[WR,e]
 | some o=>cases o<;>simp[WR,e]
theorem Jlx (xs:List IV):WR (Jsl (.rol xs) h) J=J ⟨xs,λ _=>True⟩ h:=rfl
theorem Jlz (xs:List IV):WR (Jsl (.tup xs) h) J=J ⟨xs,λ _=>True⟩ h:=rfl
theorem Jly (x:Str):WR (Jsl (.str x) h) J=J ⟨Jk2 x,λ _=>True⟩ h:=rfl
theorem Jwy (i:Nat):WR (Jd0 [.ref i] h) J=∃xs,h[i]?=some (.lst xs)/\J ⟨Jhi 0 xs,λ h'=>h'[i]?=some (.lst xs)⟩ h:=by
 show WR (Jd0 [.ref i] h) J=_
 unfold Jd0
 cases e:h[i]? with
 | none=>simp[WR,e]
 | some o=>cases o<;>simp[WR,e]
theorem Jh3 (j:Int):WR (Jc1 [.int j] h) J=((-(2^62)<=j/\j<2^62)/\J ⟨rngI 0 j,λ _=>True⟩ h):=by
 unfold Jc1;rw[Jd8];exact propext ⟨λ ⟨a,b⟩=>(Classical.em _).elim (λ q=>⟨q,a q⟩) λ q=>(b q).elim,λ ⟨a,b⟩=>⟨λ _=>b,λ q=>absurd a q⟩⟩
theorem Jh4 (i j:Int):WR (Jzh [.int i,.int j] h) J=((-(2^62)<=i/\i<2^62/\ -(2^62)<=j/\j<2^62)/\J ⟨rngI i j,λ _=>True⟩ h):=by
 unfold Jzh;rw[Jd8];exact propext ⟨λ ⟨a,b⟩=>(Classical.em _).elim (λ q=>⟨q,a q⟩) λ q=>(b q).elim,λ ⟨a,b⟩=>⟨λ _=>b,λ q=>absurd a q⟩⟩
theorem Ja6 (i j:Int):(rngI i j).length=(j-i).toNat:=by simp[rngI]
theorem Jki (i j:Int) (n:Nat) (hn:n<(rngI i j).length):(rngI i j)[n]=.int (i+n):=by simp[rngI]
theorem Ju4 (xs:List IV) (n:Nat) (hn:n<(Jhi 0 xs).length):(Jhi 0 xs)[n]=.tup [.int n,xs[n]'(by rwa [Jbr] at hn)]:=by
 have:=Jj6 xs 0 n
 rw[List.getElem?_eq_getElem hn,List.getElem?_eq_getElem (by rwa [Jbr] at hn)] at this
 simpa using this
theorem Jr3 (i:Nat) (lo hi:Option Int):WR (slI (.ref i) lo hi h) Q=∃xs,h[i]?=some (.lst xs)/\Q (.ref h.length) (h++[.lst (cutI xs lo hi)]):=by
 unfold slI
 cases e:h[i]? with
 | none=>simp[WR,e]
 | some o=>cases o<;>simp[WR,e]
theorem Jl9 (xs:List IV) (lo hi:Option Int):WR (slI (.rol xs) lo hi h) Q=Q (.ref h.length) (h++[.lst (cutI xs lo hi)]):=rfl
theorem Jrp (n d:Nat):HT.sIx n d none=d:=HT.sIx_none n d
theorem Jq8 {α:Type}(xs:List α) (n:Nat):cutI xs none (some (n:Int))=xs.take n:=by
 unfold cutI
 rw[Jrp,HT.sIx_nat]
 simp
theorem Jq7 {α:Type}(xs:List α) (n:Nat):cutI xs (some (n:Int)) none=xs.drop n:=by
 unfold cutI
 rw[Jrp,HT.sIx_nat]
 by_cases hn:n<=xs.length
 ·rw[Nat.min_eq_left hn]
  exact List.take_of_length_le (by simp)
 ·rw[Nat.min_eq_right (by omega),List.drop_length,List.drop_eq_nil_of_le (by omega)]
  simp
theorem J0g {α:Type}(xs:List α) (n m:Nat):cutI xs (some (n:Int)) (some (m:Int))=(xs.take m).drop n:=by
 unfold cutI
 rw[HT.sIx_nat,HT.sIx_nat]
 refine List.ext_getElem? λ i=>?_
 simp only[List.getElem?_take,List.getElem?_drop]
 by_cases h1:n+i<xs.length
 ·rw[Nat.min_eq_left (show n<=xs.length by omega)]
  by_cases h3:n+i<m
  ·rw[if_pos h3,if_pos (by omega)]
  ·rw[if_neg h3,if_neg (by omega)]
 ·rw[show xs[n+i]?=none from List.getElem?_eq_none (by omega),show xs[min n xs.length+i]?=none from List.getElem?_eq_none (by omega)]
  simp
variable {P:Pg}{m:Str}{n i:Nat}{o:E1}{a:A1}{xs:List IV}{c:Str}{fs:List (Str×IV)}
theorem Jhw {g:IV->List IV->IH->Res IV}(e:o σ h=.ok (.ref i) h1) (hl:h1[i]?=some (.lst xs)) (hg:bmOf "list" m n=some g):WR (eDot P m n o a σ h) Q=WR (a σ h1) λ vs h2=>WR (g (.ref i) vs h2) Q:=by
 unfold eDot
 rw[e]
 have hi:Jsi (.ref i) h1=false:=by simp[Jsi,hl]
 have ht:tyS (.ref i) h1="list":=by simp[tyS,hl]
 dsimp only
 rw[hi,ht,hg]
 dsimp only
 rw[if_neg Bool.false_ne_true]
 unfold eBm
 rw[e,Jd,Ji8]
 have:tyOk "list" (.ref i) h1=true:=by simp[tyOk,hl]
 rw[if_pos this,Jd]
theorem Jnm {f:List IV->IH->Res IV}{d:List IV}(e:o σ h=.ok (.ref i) h1) (hi:h1[i]?=some (.ins c fs)) (hf:fs.lookup m=none) (hd:Jr6 P m n c=some (f,d)):WR (eDot P m n o a σ h) Q=WR (a σ h1) λ vs h2=>WR (f (.ref i::(vs++d)) h2) Q:=by
 unfold eDot
 rw[e]
 have hi':Jsi (.ref i) h1=true:=by simp[Jsi,hi]
 dsimp only
 rw[hi',if_pos rfl]
 unfold Jxg
 rw[e,Jd,Ji8]
 dsimp only
 rw[hi]
 dsimp only
 rw[hd,hf]
 dsimp only
 rw[Jd]
theorem Jd7 (y:IV):WR (Jhd (.ref i) [y] h) Q=∃xs,h[i]?=some (.lst xs)/\xs.length<sizeLine/\Q .non (h.set i (.lst (xs++[y]))):=by
 unfold Jhd
 cases e:h[i]? with
 | none=>simp[WR,e]
 | some ob =>
  cases ob with
  | lst xs=>by_cases hz:xs.length<sizeLine<;>simp[WR,e,hz]
  | _=>simp[WR,e]
theorem Jdn:bmOf "list" "append" 1=some Jhd:=by kernel_rfl
theorem Jx {f:Str}(e:h[i]?=some (.ins c fs)):Jn5 f (.ref i) h=fs.lookup f:=by simp[Jn5,e]
theorem Jr2:WR (Jon (.ref i) h) Q=∃xs,h[i]?=some (.lst xs)/\Q (.ref h.length) (h++[.lst xs]):=by
 unfold Jon
 cases e:h[i]? with
 | none=>simp[WR,e]
 | some ob=>cases ob<;>simp[WR,e]
theorem Jen (xs:List IV):WR (Jon (.tup xs) h) Q=Q (.ref h.length) (h++[.lst xs]):=rfl
theorem Jw4:WR (Jko (.ref i) h) Q=∃xs,h[i]?=some (.lst xs)/\Q (.tup xs) h:=by
 unfold Jko
 cases e:h[i]? with
 | none=>simp[WR,e]
 | some ob=>cases ob<;>simp[WR,e]
end
section
variable {σ:ISt}{h:IH}{Q:IV->IH->Prop}
theorem J2h (i j:Nat):WR (Jm (.ref i) (.ref j) h) Q=∃xs,h[i]?=some (.lst xs)/\∃ys,h[j]?=some (.lst ys)/\xs.length+ys.length<=sizeLine/\Q (.ref h.length) (h++[.lst (xs++ys)]):=by
 unfold Jm
 cases e:h[i]? with
 | none=>simp[WR,e]
 | some o =>
  cases e':h[j]? with
  | none=>cases o<;>simp[WR,e,e']
  | some o' =>
   cases o<;>cases o'<;>simp only[e,e',Jd8,Ji8,Jy4,Option.some.injEq,IO.lst.injEq,reduceCtorEq,exists_eq_left',false_and,and_false,exists_false,imp_false,Decidable.not_not]
   simp only[eq_iff_iff]
   exact⟨λ ⟨a,b⟩=>⟨b,a b⟩,λ ⟨a,b⟩=>⟨λ _=>b,a⟩⟩
end
section
variable {σ:ISt}{h h1:IH}{Q:IV->IH->Prop}{P:Pg}{m:Str}{n i:Nat}{o:E1}{a:A1}{x:Str}
theorem J2j {g:IV->List IV->IH->Res IV}(e:o σ h=.ok (.str x) h1) (hg:bmOf "str" m n=some g):WR (eDot P m n o a σ h) Q=WR (a σ h1) λ vs h2=>WR (g (.str x) vs h2) Q:=by
 unfold eDot
 rw[e]
 have hi:Jsi (.str x) h1=false:=rfl
 have ht:tyS (.str x) h1="str":=rfl
 dsimp only
 rw[hi,ht,hg]
 dsimp only
 rw[if_neg Bool.false_ne_true]
 unfold eBm
 rw[e,Jd,Ji8]
 have:tyOk "str" (.str x) h1=true:=rfl
 rw[if_pos this,Jd]
theorem J0b:bmOf "str" "join" 1=some Jsm:=by kernel_rfl
theorem Jxa:bmOf "list" "clear" 0=some Jk7:=by kernel_rfl
theorem J2k:WR (Jsm (.str x) [.ref i] h) Q=∃xs,h[i]?=some (.lst xs)/\∃zs,Jhc xs=some zs/\JoinOk x zs=true/\Q (.str (Txt.join x zs)) h:=by
 unfold Jsm
 cases e:h[i]? with
 | none=>simp[WR,e]
 | some ob =>
  cases ob with
  | lst xs =>
   cases q:Jhc xs with
   | none=>simp[WR,e,q]
   | some zs=>by_cases hz:JoinOk x zs=true<;>simp[WR,e,q,hz]
  | _=>simp[WR,e]
theorem Jy0:WR (Jk7 (.ref i) [] h) Q=∃xs,h[i]?=some (.lst xs)/\Q .non (h.set i (.lst [])):=by
 unfold Jk7
 cases e:h[i]? with
 | none=>simp[WR,e]
 | some ob=>cases ob<;>simp[WR,e]
theorem Jni:∀zs:List Str,Jhc (zs.map IV.str)=some zs
 | []=>rfl
 | z::zs=>by
  rw[List.map_cons,Jhc,Jni zs];rfl
end
section
variable {σ:ISt}{h:IH}{Q:IV->IH->Prop}{i:Nat}
theorem Jw3:WR (sumI (.ref i) h) Q=∃xs,h[i]?=some (.lst xs)/\∃ns,Jbs xs=some ns/\Q (.int ns.sum) h:=by
 unfold sumI
 cases e:h[i]? with
 | none=>simp[WR,e]
 | some ob =>
  cases ob with
  | lst xs=>cases q:Jbs xs<;>simp[WR,e,q]
  | _=>simp[WR,e]
theorem Jcu:∀ns:List Int,Jbs (ns.map IV.int)=some ns
 | []=>rfl
 | n::ns=>by
  rw[List.map_cons,Jbs,Jcu ns];rfl
theorem J2m (aa:A1) (md:E1):WR (Ju0 aa md σ h) Q=WR (aa σ h) λ xs h1=>WR (md σ h1) λ d h2=>∃i,xs=[.ref i]/\∃ys,h2[i]?=some (.lst ys)/\∃ns,Jbs ys=some ns/\Q (maxD ns d) h2:=by
 unfold Ju0
 rw[Jd]
 congr 1;funext xs h1
 rw[Jd]
 congr 1;funext d h2
 match xs with
 | [.ref i] =>
  simp only[List.cons.injEq,IV.ref.injEq,and_true,exists_eq_left']
  cases e:h2[i]? with
  | none=>simp[WR]
  | some ob =>
   cases ob with
   | lst ys=>cases q:Jbs ys<;>simp[WR,q]
   | _=>simp[WR]
 | []=>simp[WR]
 | [.non]=>simp[WR]
 | [.bl _]=>simp[WR]
 | [.int _]=>simp[WR]
 | [.str _]=>simp[WR]
 | [.tup _]=>simp[WR]
 | [.rol _]=>simp[WR]
 | x::_::_=>cases x<;>simp[WR]
theorem Jw0 (aa:A1):WR (Jj5 aa σ h) Q=WR (aa σ h) λ xs h1=>∃i,xs=[.ref i]/\∃ys,h1[i]?=some (.lst ys)/\∃zs,Jhc ys=some zs/\zs.length+1<scanBound/\Q (.int (cntD (Jc5 zs) zs.length)) h1:=by
 unfold Jj5
 rw[Jd]
 congr 1;funext xs h1
 match xs with
 | [.ref i] =>
  simp only[List.cons.injEq,IV.ref.injEq,and_true,exists_eq_left']
  cases e:h1[i]? with
  | none=>simp[WR]
  | some ob =>
   cases ob with
   | lst ys =>
    cases q:Jhc ys with
    | none=>simp[WR,q]
    | some zs=>by_cases hz:zs.length+1<scanBound<;>simp[WR,q,hz]
   | _=>simp[WR]
 | []=>simp[WR]
 | [.non]=>simp[WR]
 | [.bl _]=>simp[WR]
 | [.int _]=>simp[WR]
 | [.str _]=>simp[WR]
 | [.tup _]=>simp[WR]
 | [.rol _]=>simp[WR]
 | x::_::_=>cases x<;>simp[WR]
theorem Jny {zs:List Str}(nd:zs.Nodup):∀i,i<=zs.length->cntD (Jc5 zs) i=i
 | 0,_=>rfl
 | i+1,hi=>by
  have ih:=Jny nd i (by omega)
  have hm:metB (Jc5 zs) i (Jc5 zs i)=false:=by
   unfold metB
   rw[List.any_eq_false]
   intro j hj
   have hj:=List.mem_range.mp hj
   simp only[decide_eq_true_eq]
   intro e
   simp only[Jc5,List.getD_eq_getElem?_getD,List.getElem?_eq_getElem (show j<zs.length by omega),List.getElem?_eq_getElem (show i<zs.length by omega),Option.getD_some] at e
   have:=(List.getElem_inj nd).mp e
   omega
  unfold cntD
  rw[hm,ih]
  rfl
theorem Jzt (f:Nat->Int):∀(n j:Nat),j<n->f j<=Ja8 f n
 | 0,_,h=>by omega
 | 1,j,h=>by
  obtain rfl:j=0:=by omega
  exact Int.le_refl _
 | n+2,j,h=>by
  rw[Jhq f (by omega)]
  by_cases hj:j=n+1
  ·subst hj;split<;>omega
  ·have:=Jzt f (n+1) j (by omega)
   split<;>omega
theorem Jzu (f:Nat->Int) (b:Int):∀(n:Nat),0<n->(∀j,j<n->f j<=b)->Ja8 f n<=b
 | 0,h,_=>by omega
 | 1,_,q=>q 0 (by omega)
 | n+2,_,q=>by
  rw[Jhq f (by omega)]
  have:=Jzu f b (n+1) (by omega) λ j hj=>q j (by omega)
  have:=q (n+1) (by omega)
  split<;>omega
end
section
variable {h:IH}{Q:IV->IH->Prop}{i:Nat}
end
noncomputable def KpB (i0:Nat) (h h':IH):Prop:=∀(j:Nat) (ob:IO),j≠i0->h[j]?=some ob->h'[j]?=some ob
noncomputable def Kp (h h':IH):Prop:=∀(j:Nat) (ob:IO),h[j]?=some ob->h'[j]?=some ob
theorem KpB.trans {i0:Nat}{a b c:IH}(p:KpB i0 a b) (q:KpB i0 b c):KpB i0 a c:=λ j ob n e=>q j ob n (p j ob n e)
theorem Kp.trans {a b c:IH}(p:Kp a b) (q:Kp b c):Kp a c:=λ j ob e=>q j ob (p j ob e)
theorem Kp.refl (a:IH):Kp a a:=λ _ _ e=>e
theorem Kp.but {i0:Nat}{a b:IH}(p:Kp a b):KpB i0 a b:=λ j ob _ e=>p j ob e
theorem Ex.kp {a b:IH}(x:Ex a b):Kp a b:=λ _ _ e=>x.get e
theorem J2w {chk:IH->Prop}{e:E1}{caps:ISt}{D:IV->IV->IH->Prop}(i0:Nat) (mono:∀x y h2 h3,KpB i0 h2 h3->D x y h2->D x y h3):∀{xs acc:List IV}{o:Option IV}{h1:IH},h1[i0]?=some (.lst acc)->(∀h2,KpB i0 h1 h2->chk h2)->acc.length+xs.length<sizeLine ->
  (∀x∈xs,∀h2:IH,KpB i0 h1 h2->i0<h2.length->WR (e (some x::caps) h2) λ v h3=>Ex h2 h3/\D x v h3) ->
  WR (Jc6 chk (gNm 0) Jaa e i0 xs (o::caps) h1) λ v h3=>v=.ref i0/\∃ys,h3[i0]?=some (.lst (acc++ys))/\ys.length=xs.length/\KpB i0 h1 h3/\∀(i:Nat) x y,xs[i]?=some x->ys[i]?=some y->D x y h3
 | [],acc,o,h1,hi,hc,_,_=>by
  unfold Jc6
  rw[if_pos (hc h1 λ _ _ _ q=>q)]
  exact⟨rfl,[],by simpa using hi,rfl,λ _ _ _ q=>q,λ i x y q=>by simp at q⟩
 | x::xs,acc,o,h1,hi,hc,hl,he=>by
  unfold Jc6
  rw[if_pos (hc h1 λ _ _ _ q=>q)]
  dsimp only[gNm,List.set_cons_zero,Jaa]
  have hl':acc.length+xs.length+1<sizeLine:=by simpa [Nat.add_assoc] using hl
  obtain⟨v,h3,e3,x3,dv⟩:=(he x List.mem_cons_self h1 (λ _ _ _ q=>q) (Jcv hi)).eq
  rw[e3]
  dsimp only
  rw[x3.get hi]
  dsimp only
  rw[if_pos (by omega)]
  have k34:KpB i0 h3 (h3.set i0 (.lst (acc++[v]))):=λ j ob n q=>by
   rw[List.getElem?_set_ne (Ne.symm n)];exact q
  have k14:KpB i0 h1 (h3.set i0 (.lst (acc++[v]))):=x3.kp.but.trans k34
  refine WR.mono (J2w i0 mono (acc:=acc++[v]) (by rw[List.getElem?_set_self (Jcv (x3.get hi))]) (λ h4 q=>hc h4 (k14.trans q)) (by simp;omega) λ y hy h4 q=>he y (List.mem_cons_of_mem _ hy) h4 (k14.trans q)) ?_
  rintro w h5 ⟨rfl,ys,g5,ln,k5,d5⟩
  refine⟨rfl,v::ys,by simpa using g5,by simp[ln],k14.trans k5,?_⟩
  intro i x' y' q1 q2
  cases i with
  | zero =>
   simp only[List.getElem?_cons_zero,Option.some.injEq] at q1 q2
   subst q1;subst q2
   exact mono _ _ _ _ (k34.trans k5) dv
  | succ i=>exact d5 i x' y' (by simpa using q1) (by simpa using q2)
theorem Jy1 {h h0:IH}{it:I1}{e:E1}{js:List Nat}{σ:ISt}{xs:List IV}{chk:IH->Prop}(D:IV->IV->IH->Prop) (hit:WR (it σ h0) λ J h1=>J.xs=xs/\J.chk=chk/\h1=h) (hl:xs.length<sizeLine)
  (mono:∀x y h2 h3,KpB h.length h2 h3->D x y h2->D x y h3) (hc:∀h2:IH,Kp h h2->chk h2)
  (he:∀x∈xs,∀h2:IH,Kp h h2->h.length<h2.length->WR (e (some x::js.map λ j=>(σ[j]?).join) h2) λ v h3=>Ex h2 h3/\D x v h3) :
  WR (J0 it 1 js (gNm 0) Jaa e σ h0) λ v h3=>v=.ref h.length/\∃ys,h3[h.length]?=some (.lst ys)/\ys.length=xs.length/\Kp h h3/\∀(i:Nat) x y,xs[i]?=some x->ys[i]?=some y->D x y h3:=by
 obtain⟨J,h1,e1,q1,q2,rfl⟩:=hit.eq
 unfold J0
 rw[e1]
 show WR (Jc6 J.chk (gNm 0) Jaa e h1.length J.xs (none::js.map λ j=>(σ[j]?).join) (h1++[.lst []])) _
 rw[q1,q2]
 have lift:∀{h2:IH},KpB h1.length (h1++[IO.lst []]) h2->Kp h1 h2:=λ q j ob r=>q j ob (Nat.ne_of_lt (Jcv r)) (grow r)
 refine WR.mono (J2w h1.length mono (acc:=[]) grown (λ h2 q=>hc h2 (lift q)) (by simpa using hl) λ x hx h2 q ln=>he x hx h2 (lift q) ln) ?_
 rintro v h3 ⟨rfl,ys,g3,ln,k3,d3⟩
 exact⟨rfl,ys,by simpa using g3,ln,lift k3,d3⟩
section
variable {h:IH}
end
noncomputable def Jz7 (ts:List Addr) (H:Hp):Prop:=∀b,H b=none∨(∃o xs,H b=some (.frz o (.lst xs)))∨(b∈ts/\H b=some (.tbl #[]))
theorem Jvu {P:Program}{w:World}{K:W.Frag}{mg mb:Str->Option Value}{k:Nat}{fa a:Addr}{fd:FuncData}{x:Str}{sp:Sp}{s₁:Shared}{vs:List Value}{ns:List Int}{ts:List Addr}
  (KX:K.In s₁.heap) (hns:s₁.heap.Ns mainGlobals mg) (hb:s₁.heap.Ns builtinsNs mb) (hbb:∀x:Str,x≠"__name__"->mb x=bootBuiltins x) (hlim:s₁.heap.NoLimit) (hg:s₁.gens=#[])
  (ha:s₁.heap.get? a=some { cls:=.type "list",data:=.seq vs.toArray }) (hi:IntsAre vs ns) (hl:ns.length<=sizeLine) (hr:Room k callerA)
  (hT:∀p∈ts,s₁.heap.get? p=some (W.tabObj #[])/\isCodeTable s₁.heap p/\K.lookup p=none)
  (hbm:∃bm ob,mg "__builtins__"=some (.ref bm)/\bm≠builtinsNs/\s₁.heap.get? bm=some ob/\ob.cls=.type "module"/\ob.dict=some builtinsNs/\ob.data=.plain)
  (F:∀base:Heap,K.In base->base.Ns mainGlobals mg->Jjj mg base->FnOk P w K mg base (CXI P w) k fa fd [x] sp) (hbind:∀(s:Shared) (u:Value),BindsTo s fd ⟨[u],[]⟩ [(x,u)])
  (hsp:∀H:Hp,Jz7 ts H->SqL K H a (ns.map V.int)->(∀p∈ts,H p=some (.tbl #[]))->sp [.ref a] H (λ v _=>v=.bl true) λ _ _ _=>False) :
  codeAny (model P w) callerA (.call (.ref fa) ⟨[.ref a],[]⟩) (λ r s'=>r=.ok (.ret (.bool true))/\OldK s₁.heap s'.heap/\s'.os=s₁.os/\AllBare s'.gens) s₁:=by
 have rv:=L2.Jbv hi
 have lenV:=hi.length
 have nta:a∉ts:=λ z=>by
  have e:=(hT a z).1
  rw[ha] at e
  have e':=Option.some.inj e
  injection e' with h1
  cases h1
 have core:∀H:Hp,Jz7 ts H->SqL K H a (ns.map V.int)->HOk P w H s₁.heap->(∀b,H b≠none->b=a∨b∈ts)->(H a≠none->K.lookup a=none)->(∀p∈ts,H p=some (.tbl #[])) ->
   codeAny (model P w) callerA (.call (.ref fa) ⟨[.ref a],[]⟩) (λ r s'=>r=.ok (.ret (.bool true))/\OldK s₁.heap s'.heap/\s'.os=s₁.os/\AllBare s'.gens) s₁:=by
  intro H hO hS hok hA hK hTt
  have base_of:∀{b:Addr}{o:Obj},s₁.heap.get? b=some o->H b=none->(hidT s₁.heap H).get? b=some o:=λ e n=>Jxl e n
  have noA:∀{b:Addr}{o:Obj},s₁.heap.get? b=some o->(∀vs n,o.data≠.seq vs n)->(∀vs,o.data≠.fields vs)->H b=none:=λ {b o} e d1 d2=>by
   cases q:H b with
   | none=>rfl
   | some u =>
    rcases hA b (by rw[q];simp) with e'|e'
    ·subst e'
     rw[ha] at e;cases e
     exact absurd rfl (d1 _ _)
    ·rw[(hT b e').1] at e;cases e
     exact absurd rfl (d2 _)
  have nsK:∀{b:Addr}{m:Str->Option Value},s₁.heap.Ns b m->(hidT s₁.heap H).Ns b m:=λ {b m} ⟨o,es,ep,e,d,r⟩=>⟨o,es,ep,base_of e (noA e (λ _ _ z=>by rw[d] at z;cases z) λ _ z=>by rw[d] at z;cases z),d,r⟩
  have hKb:K.In (hidT s₁.heap H):=λ b o e=>base_of (KX b o e) (by
   cases q:H b with
   | none=>rfl
   | some u =>
    rcases hA b (by rw[q];simp) with e'|e'
    ·subst e'
     rw[hK (by rw[q];simp)] at e;cases e
    ·rw[(hT b e').2.2] at e;cases e)
  have hM:Mod K mg (hidT s₁.heap H):=⟨hKb,nsK hns,⟨mb,nsK hb,hbb⟩,let ⟨mc,h1,h2⟩:=hlim;⟨mc,nsK h1,h2⟩⟩
  have hB:Jjj mg (hidT s₁.heap H):=by
   obtain⟨bm,ob,b1,b2,b3,b4,b5,b6⟩:=hbm
   refine⟨bm,ob,b1,b2,λ z=>?_,base_of b3 (noA b3 (λ _ _ z=>by rw[b6] at z;cases z) λ _ z=>by rw[b6] at z;cases z),b4,b5,b6⟩
   obtain⟨o,es,ep,e,d,_⟩:=hns
   rw[<- z,b3] at e
   cases e
   rw[b6] at d
   cases d
  have e0:Env0 P w K mg (hidT s₁.heap H) callerA [] s₁ H:=⟨rfl,hM,λ b o e=>J1e e,Nat.le_of_eq (Jve _ _),trivial,λ b hb=>absurd (show b∈([]:List Addr) from hb) (by simp),hok,.of_eq hg⟩
  refine codeAny_mono ((F _ hKb (nsK hns) hB).run callerA [] s₁ H ⟨[.ref a],[]⟩ [.ref a] [.ref a] _ _ hr e0 (hbind s₁ (.ref a)) (.cons rfl .nil) (hsp H hO hS hTt)) λ r s' h=>?_
  cases r with
  | error e=>exact h.elim λ _ z=>z.2.2.2.2.elim
  | ok fl =>
   cases fl with
   | next=>exact False.elim h
   | brk=>exact False.elim h
   | cont=>exact False.elim h
   | ret u =>
    obtain⟨v,H',os,bare,un,hok',r',q⟩:=h
    have q':v=.bl true:=q
    subst q'
    obtain rfl:u=Value.bool true:=r'
    have main:∀b o,s₁.heap.get? b=some o->asItWas s₁.heap s'.heap b o/\∃o',s'.heap.get? b=some o':=λ b o e=>by
     rcases hO b with z|⟨ob,xs,z⟩|⟨hb,z⟩
     ·have:=un.keep b o e z (by intro z;exact absurd (show b∈([]:List Addr) from z) (by simp)) (by simp)
      exact⟨.inl this,_,this⟩
     ·have z2:=un.frzs b ob _ z
      obtain⟨e1,_⟩:=hok b _ z
      obtain⟨e2,_⟩:=hok' b _ z2
      rw[e] at e1;cases e1
      exact⟨.inl e2,_,e2⟩
     ·obtain⟨more,z2⟩:=un.tbls b _ z
      have e2:=hok' b _ z2
      have e1:=(hT b hb).1
      rw[e] at e1
      cases e1
      exact⟨.inr (.inl ⟨(hT b hb).2.1,rfl,#[],more,rfl,e2⟩),_,e2⟩
    exact⟨rfl,⟨λ b o e=>(main b o e).1,λ b o e=>(main b o e).2⟩,os,bare⟩
 cases hk:K.lookup a with
 | some o =>
  have e:=KX a o hk
  rw[ha] at e
  cases e
  refine core (λ b=>if b∈ts then some (.tbl #[]) else none) (λ b=>?_) (.inr ⟨_,vs.toArray,_,hk,rfl,rfl,rfl,by rw[List.size_toArray,lenV];exact hl,by simpa using rv⟩) (λ b u z=>?_) (λ b z=>?_) (λ z=>absurd (if_neg nta) z) λ p hp=>if_pos hp
  ·by_cases hb:b∈ts
   ·exact .inr (.inr ⟨hb,if_pos hb⟩)
   ·exact .inl (if_neg hb)
  ·by_cases hb:b∈ts
   ·have z':=(if_pos hb).symm.trans z
    cases z'
    exact(hT b hb).1
   ·have z':=(if_neg hb).symm.trans z
    cases z'
  ·by_cases hb:b∈ts
   ·exact .inr hb
   ·exact absurd (if_neg hb) z
 | none =>
  refine core (λ b=>if b=a then some (.frz { cls:=.type "list",data:=.seq vs.toArray } (.lst (ns.map V.int))) else if b∈ts then some (.tbl #[]) else none) (λ b=>?_) (.inl (.inr ⟨{ cls:=.type "list",data:=.seq vs.toArray },if_pos rfl⟩)) (λ b u z=>?_) (λ b z=>?_) (λ _=>hk) λ p hp=>?_
  ·by_cases hb:b=a
   ·exact .inr (.inl ⟨_,_,if_pos hb⟩)
   ·by_cases hc:b∈ts
    ·exact .inr (.inr ⟨hc,(if_neg hb).trans (if_pos hc)⟩)
    ·exact .inl ((if_neg hb).trans (if_neg hc))
  ·by_cases hb:b=a
   ·have z':=(if_pos hb).symm.trans z
    cases z'
    subst hb
    exact⟨ha,by rw[List.length_map];exact hl,vs,_,rv,ha⟩
   ·by_cases hc:b∈ts
    ·have z':=((if_neg hb).trans (if_pos hc)).symm.trans z
     cases z'
     exact(hT b hc).1
    ·have z':=((if_neg hb).trans (if_neg hc)).symm.trans z
     cases z'
  ·by_cases hb:b=a
   ·exact .inl hb
   ·by_cases hc:b∈ts
    ·exact .inr hc
    ·exact absurd ((if_neg hb).trans (if_neg hc)) z
  ·have hb:p≠a:=λ z=>nta (z▸hp)
   exact(if_neg hb).trans (if_pos hp)
noncomputable def Jxc (o:Obj) (q:Str):Bool:=match o with
 | ⟨_,_,.fields vs,_⟩=>(match vs.toList with|_::.str n _::_=>n==q|_=>false)
 | _=>false
noncomputable def Jkn (K:W.Frag) (q:Str) (p:Addr):Bool:=(K.lookup p).isNone&&K.all (λ e=>!(Jxc e.2 q)||W.codeHdIn K e.1 p)&&K.any (λ e=>Jxc e.2 q&&W.codeHdIn K e.1 p)
noncomputable def Jbh (K:W.Frag):List Str->List Addr->Bool
 | [],[]=>true
 | q::qs,p::ps=>Jkn K q p&&!ps.contains p&&Jbh K qs ps
 | _,_=>false
theorem Jsr {K:W.Frag}{c:Addr}{o:Obj}(h:K.lookup c=some o):(c,o)∈K:=by
 induction K with
 | nil=>cases h
 | cons p K ih =>
  obtain⟨b,o'⟩:=p
  rw[List.lookup_cons] at h
  split at h
  ·rename_i e
   cases h
   rw[beq_iff_eq.mp e]
   exact List.mem_cons_self
  ·exact List.mem_cons_of_mem _ (ih h)
theorem Jkn.code {K:W.Frag}{q:Str}{p:Addr}(h:Jkn K q p=true):∀cdv,W.codeIn K cdv q=true->∃c,cdv=.ref c/\W.codeHdIn K c p=true:=by
 simp only[Jkn,Bool.and_eq_true,List.all_eq_true,Bool.or_eq_true,Bool.not_eq_true'] at h
 intro cdv e
 unfold W.codeIn at e
 split at e
 ·rename_i c
  refine⟨c,rfl,?_⟩
  cases hk:K.lookup c with
  | none=>rw[hk] at e;cases e
  | some o =>
   rw[hk] at e
   rcases h.1.2 _ (Jsr hk) with z|z
   ·exfalso
    have e':Jxc o q=true:=by
     obtain⟨oc,od,dt,sl⟩:=o
     cases dt<;>first|exact e|cases e
    have z':Jxc o q=false:=z
    rw[e'] at z'
    cases z'
   ·exact z
 ·cases e
theorem Jkn.some {K:W.Frag}{q:Str}{p:Addr}(h:Jkn K q p=true):K.lookup p=none/\∃c,W.codeHdIn K c p=true:=by
 simp only[Jkn,Bool.and_eq_true,List.any_eq_true,Option.isNone_iff_eq_none] at h
 obtain⟨⟨h1,_⟩,e,_,h2⟩:=h
 exact⟨h1,e.1,h2.2⟩
theorem Jbh.mem {K:W.Frag}:∀{qs:List Str}{ts:List Addr},Jbh K qs ts=true->ts.Nodup/\qs.length=ts.length/\(∀(i:Nat) (q:Str),qs[i]?=some q->∃p,ts[i]?=some p/\Jkn K q p=true)/\∀p∈ts,∃q,Jkn K q p=true
 | [],[],_=>⟨.nil,rfl,λ i q e=>by simp at e,λ p hp=>by cases hp⟩
 | q::qs,p::ps,h=>by
  simp only[Jbh,Bool.and_eq_true,Bool.not_eq_true',List.contains_eq_mem,decide_eq_false_iff_not] at h
  obtain⟨⟨h1,h2⟩,h3⟩:=h
  obtain⟨a,b,c,d⟩:=Jbh.mem h3
  refine⟨List.nodup_cons.mpr ⟨h2,a⟩,by simp[b],λ i r e=>?_,λ r hr=>?_⟩
  ·cases i with
   | zero =>
    have e':some q=some r:=e
    cases e'
    exact⟨p,rfl,h1⟩
   | succ i=>exact c i r e
  ·rcases List.mem_cons.mp hr with rfl|hr
   ·exact⟨q,h1⟩
   ·exact d r hr
 | [],_::_,h=>by cases h
 | _::_,[],h=>by cases h
theorem Jsp {K:W.Frag}{x:Str}{f:List IV->IH->Res IV}{H:Hp}{a:Addr}{ns:List Int}{qs:List Str}{ts:List Addr}(hO:Jz7 ts H) (hS:SqL K H a (ns.map V.int)) (hT:∀p∈ts,H p=some (.tbl #[])) (hc:Jbh K qs ts=true)
  (hf:∃h',f [.rol (ns.map IV.int)] (qs.map IO.tab)=.ok (.bl true) h'):Jti K x f [.ref a] H (λ v _=>v=.bl true) λ _ _ _=>False:=by
 intro ce
 obtain⟨h',hf⟩:=hf
 have sr:SqR K H a (ns.map V.int):=by
  rcases hS with(h|⟨o,h⟩)|h
  ·rcases hO a with z|⟨ob,xs,z⟩|⟨_,z⟩
   ·rw[z] at h;cases h
   ·rw[z] at h;cases h
   ·rw[z] at h;cases h
  ·exact .inl ⟨o,h⟩
  ·exact .inr h
 obtain⟨nd,le,at_,_⟩:=Jbh.mem hc
 refine⟨rfl,ts,qs.map IO.tab,[.rol (ns.map IV.int)],⟨by simp[le],nd,λ i o e=>?_⟩,⟨.ref a,[],rfl,⟨a,_,rfl,sr,RVs.ints ns⟩,rfl⟩,?_⟩
 ·rw[List.getElem?_map] at e
  cases eq:qs[i]? with
  | none=>rw[eq] at e;cases e
  | some q =>
   rw[eq] at e
   cases e
   obtain⟨p,ep,hp⟩:=at_ i q eq
   exact⟨p,ep,Jkn.code hp,#[],hT p (List.mem_of_getElem? ep),trivial,λ pos cv z=>by cases z⟩
 ·rw[hf]
  intro v H' ι' _ _ q
  exact q
theorem Jyy {l:W.OpenLaw}{n k:Nat}{q:Program}{loose:List Str}{XP:(Str->Option Value)->Heap->Prop}{YP:World->Heap->Prop}{d:DefRec}{K:Params->W.Frag}{f:List IV->IH->Res IV}{x:Str}{qs:List Str}{ts:List Addr}
  (hn:l.most=some n) (hn2:n<=sizeLine) (hdf:d.params.defaults=[]) (hr:Room k callerA)
  (hY:∀(w:World) (h:Heap),YP w h->(K w.params).In h/\∀p∈ts,h.get? p=some (W.tabObj #[])) (hc:∀w:World,Jbh (K w.params) qs ts=true)
  (F:∀(w:World) (mg:Str->Option Value) (fa:Addr) (h:Heap),(K w.params).In h->h.Ns mainGlobals mg->mg d.name=some (.ref fa) ->
   ∃fd:FuncData,(∀(s:Shared) (u:Value),BindsTo s fd ⟨[u],[]⟩ [(x,u)]) /\
    ∀base:Heap,(K w.params).In base->base.Ns mainGlobals mg->Jjj mg base->FnOk l.prog w (K w.params) mg base (CXI l.prog w) k fa fd [x] (Jti (K w.params) x f))
  (hf:∀ns:List Int,ns.length<=n->∃h',f [.rol (ns.map IV.int)] (qs.map IO.tab)=.ok (.bl true) h') :
  W.WalkO q loose XP YP l.row.toRowW d [] (λ f vs=>PySem.call f vs):=by
 refine Att.attach_call hn hdf λ w s₀ s₁ mg mb fa o pm cd doc a vs ns G Y ho hd hcd hmg hobj hints hlen hg=>?_
 obtain⟨KX,hT⟩:=hY w _ Y
 obtain⟨fd,hb,hF⟩:=F w mg fa _ KX G.T.g hmg
 refine Jvu KX G.T.g G.T.b G.T.builtins G.T.nolimit hg hobj hints (Nat.le_trans hlen hn2) hr (λ p hp=>?_) G.T.bmain hF hb λ H hO hS hTt=>Jsp hO hS hTt (hc w) (hf ns hlen)
 obtain⟨q,hq⟩:=(Jbh.mem (hc w)).2.2.2 p hp
 obtain⟨h1,c,h2⟩:=Jkn.some hq
 exact⟨hT p hp,((W.codeHd_of_K KX h2).tab (hT p hp)).isCodeTable,h1⟩
section
variable {α β:Type}{σ:ISt}{h:IH}
variable {Q:α->IH->Prop}{Z:Nat->IH->Prop}{N:ISt->IH->Prop}{R:IV->IH->Prop}{Y:Nat->ISt->IH->Prop}
theorem Jw1 {Q:IV->IH->Prop}(x:Str) (lo hi:Option Int):WR (slT (.str x) lo hi h) Q=(x.length<=sizeLine/\Q (.str (Txt.slice x lo hi)) h):=by
 unfold slT;by_cases z:x.length<=sizeLine<;>simp[WR,z]
end
section
variable {mk:IV->IH->Res IV}{kf:IV->List Int}{i n:Nat}{ys:List IV}
end
end L4
namespace LW
theorem Kaz {α:Sort _}{p:α->Prop}{a':α}:(∃a,a'=a/\p a)↔p a':=exists_eq_left'
theorem Kbz {α:Sort _}{p:α->Prop}{a':α}:(∃a,a=a'/\p a)↔p a':=exists_eq_left
theorem Kcz (a b:Bool):(L3.IV.bl a=L3.IV.bl b)=(a=b):=L3.IV.bl.injEq a b
theorem Kdz (a b:Int):(L3.IV.int a=L3.IV.int b)=(a=b):=L3.IV.int.injEq a b
theorem Kez (a b:Nat):(L3.IV.ref a=L3.IV.ref b)=(a=b):=L3.IV.ref.injEq a b
theorem Kfz (a b:PySem.Str):(L3.IV.str a=L3.IV.str b)=(a=b):=L3.IV.str.injEq a b
theorem Kgz (a b:List L3.IV):(L3.IV.tup a=L3.IV.tup b)=(a=b):=L3.IV.tup.injEq a b
theorem Khz (a b:List L3.IV):(L3.IO.lst a=L3.IO.lst b)=(a=b):=L3.IO.lst.injEq a b
theorem Kiz {α:Type _}(a b:α):(some a=some b)=(a=b):=Option.some.injEq a b
theorem Kjz:(!true)=false:=Bool.not_true
theorem Kkz:(!false)=true:=Bool.not_false
theorem Klz:(true=false)=False:=Bool.true_eq_false
theorem Kmz:(false=true)=False:=Bool.false_eq_true
theorem Knz {α β:Type _}(a:α) (f:α->Option β):(some a).bind f=f a:=Option.bind_some a f
theorem Koz (p:Prop):(True->p)=p:=true_implies p
theorem Kpz (p:Prop):(False->p)=True:=false_implies p
theorem Kqz (α:Sort _):(α->True)=True:=implies_true α
theorem Krz {α:Type _}{a b:α}{l:List α}{n:Nat}:(a::l).set (n+1) b=a::l.set n b:=List.set_cons_succ
theorem Ksz {α:Type _}{a b:α}{l:List α}:(a::l).set 0 b=b::l:=List.set_cons_zero
theorem Ktz {α:Type _}{a:α}{l m:List α}:(a::l)++m=a::(l++m):=List.cons_append
theorem Kuz {α:Type _}(l:List α):[]++l=l:=List.nil_append l
theorem Kvz {α:Type _}(l:List α):l++[]=l:=List.append_nil l
end LW
namespace LW
open PySem L2 L3 L4
noncomputable def top (i:Nat):Stmt:=PySem.Challenge.pw_dutyproof_k81_where_a_row_is_too_full.main.body.getD i (.Pass ⟨0,0,0,0⟩)
noncomputable def Jee:D4:=⟨top 8,"is_whole",["thing"],["thing"],[]⟩
noncomputable def J7:D4:=⟨top 9,"is_whole_from",["thing","least"],["thing","least"],[]⟩
noncomputable def Jcs:D4:=⟨top 10,"rounds_up",["top","bottom"],["top","bottom"],[]⟩
noncomputable def Jmv:D4:=⟨top 17,"ready",["coming"],["coming"],[]⟩
noncomputable def Jjc:D4:=⟨top 18,"due_at",["duty","coming"],["duty","coming"],[]⟩
noncomputable def Jcm:D4:=⟨top 19,"is_coming",["duty","thing"],["duty","thing","work"],[]⟩
noncomputable def Jau:D4:=⟨top 20,"first_wrong",["duty","row"],["duty","row","last_come","place","coming","at"],[]⟩
noncomputable def Jgr:D4:=⟨top 21,"checked",["duty","row"],["duty","row","wrong"],[]⟩
noncomputable def Jba:D4:=⟨top 23,"full_until",["duty","by_due","begin"],["duty","by_due","begin","lengths","coming"],[]⟩
noncomputable def Jei:D4:=⟨top 24,"too_full",["duty","row"],["duty","row","by_due","begin","until"],[]⟩
noncomputable def Jgt:D4:=⟨top 31,"is_name",["thing"],["thing"],[]⟩
noncomputable def Jgs:D4:=⟨top 32,"is_hold",["hold","length"],["hold","length"],[]⟩
noncomputable def Jcp:D4:=⟨top 33,"lie_apart",["one","other"],["one","other"],[]⟩
noncomputable def Jgw:D4:=⟨top 34,"lies_in",["one","other"],["one","other"],[]⟩
noncomputable def Jav:D4:=⟨top 35,"go_together",["one","other"],["one","other"],[]⟩
noncomputable def J4:D4:=⟨top 36,"all_go_together",["holds"],["holds","place","hold"],[]⟩
noncomputable def Jcq:D4:=⟨top 37,"own_holds",["holds","length"],["holds","length"],[]⟩
noncomputable def Jgx:D4:=⟨top 38,"own_due",["due","gap"],["due","gap"],[]⟩
noncomputable def Jk:D4:=⟨Jj8 (top 39) 0,"Work.__init__",["self","name","gap","length","due","late","holds"],["self","name","gap","length","due","late","holds"],[.non,.int 0,.non]⟩
noncomputable def Jcr:D4:=⟨top 43,"own_works",["works"],["works"],[]⟩
noncomputable def Jed:D4:=⟨top 44,"crowd_of",["works"],["works","greatest"],[]⟩
noncomputable def Jcj:D4:=⟨Jj8 (top 45) 0,"Duty.__init__",["self","works"],["self","works"],[]⟩
noncomputable def Jck:D4:=⟨Jj8 (top 45) 1,"Duty.size",["self"],["self"],[]⟩
noncomputable def Jcl:D4:=⟨Jj8 (top 45) 2,"Duty.work",["self","at"],["self","at"],[]⟩
noncomputable def Jdy:D4:=⟨Jj8 (top 45) 4,"Duty.crowd",["self"],["self"],[]⟩
noncomputable def Jaw:D4:=⟨top 47,"_law_cell_at",["_law_script","_law_k"],["_law_script","_law_k"],[]⟩
noncomputable def Jbb:D4:=⟨top 48,"_law_stream",["_law_cell","_law_many"],["_law_cell","_law_many","_law_found","_law_rest","_law_k","_law_number"],[]⟩
noncomputable def Jeh:D4:=⟨top 49,"_law_word",["_law_cell","_law_k"],["_law_cell","_law_k","_law_letters","_law_size","_law_word_here","_law_at"],[]⟩
noncomputable def Jcn:D4:=⟨top 50,"_law_holds",["_law_xs","_law_length","_law_words"],["_law_xs","_law_length","_law_words","_law_p","_law_one","_law_other","_law_some_here"],[]⟩
noncomputable def Jco:D4:=⟨top 51,"_law_plain",["_law_cell","_law_unit","_law_words"],["_law_cell","_law_unit","_law_words","_law_xs","_law_gap","_law_due","_law_late","_law_length","_law_holds_here"],[]⟩
noncomputable def Jeg:D4:=⟨top 52,"_law_some",["_law_script","_law_held"],["_law_script","_law_held","_law_first","_law_unit","_law_second","_law_words","_law_some_here","_law_k","_law_plain_here"],[]⟩
noncomputable def Jgv:D4:=⟨top 53,"_law_row",["_law_cells","_law_some_here"],["_law_cells","_law_some_here","_law_row_here","_law_last","_law_base","_law_cell","_law_xs","_law_at","_law_name","_law_gap","_law_length","_law_due","_law_late","_law_holds_here","_law_wait","_law_come"],[]⟩
noncomputable def Jef:D4:=⟨top 54,"_law_full",["_law_row_here","_law_some_here","_law_start","_law_last"],["_law_row_here","_law_some_here","_law_start","_law_last","_law_inside","_law_at","_law_come","_law_late","_law_length"],[]⟩
noncomputable def Jgu:D4:=⟨top 55,"_law_any",["_law_row_here","_law_some_here"],["_law_row_here","_law_some_here","_law_one","_law_other"],[]⟩
noncomputable def Jj3:D4:=⟨top 56,"law",["_law_script"],["_law_script","_law_some_here","_law_row_here","_law_duty","_law_handed","_law_found","_law_turn"],[]⟩
noncomputable def T:Tab where
 fns:=[(("is_whole":Str),Jee),(("is_whole_from":Str),J7),(("rounds_up":Str),Jcs),(("ready":Str),Jmv),(("due_at":Str),Jjc),(("is_coming":Str),Jcm),(("first_wrong":Str),Jau),(("checked":Str),Jgr),(("full_until":Str),Jba),(("too_full":Str),Jei),(("is_name":Str),Jgt),(("is_hold":Str),Jgs),(("lie_apart":Str),Jcp),(("lies_in":Str),Jgw),(("go_together":Str),Jav),(("all_go_together":Str),J4),(("own_holds":Str),Jcq),(("own_due":Str),Jgx),(("own_works":Str),Jcr),(("crowd_of":Str),Jed),(("_law_cell_at":Str),Jaw),(("_law_stream":Str),Jbb),(("_law_word":Str),Jeh),(("_law_holds":Str),Jcn),(("_law_plain":Str),Jco),(("_law_some":Str),Jeg),(("_law_row":Str),Jgv),(("_law_full":Str),Jef),(("_law_any":Str),Jgu),(("law":Str),Jj3)]
 clss:=[("Work",Jk),("Duty",Jcj)]
 meths:=[("Work",([]:List (Str×D4))),("Duty",([("size",Jck),("work",Jcl),("crowd",Jdy)]:List (Str×D4)))]
 cons:=[("MOST_COMINGS",.int 200),("AT",.int 0),("COME",.int 1),("LATE",.int 2),("LENGTH",.int 3),("MOST_LETTERS",.int 8),("MOST_HOLDS",.int 6),("THING",.int 0),("START",.int 1),("END",.int 2),("MOST_WORKS",.int 12),("MOST_CROWD",.int 80)]
 isas:=[("Work",["Work"])]
 flds:=["append","clear","due","gap","hold_tuples","join","late","length","name","place","works"]
 frees:=["all","bool","enumerate","int","isinstance","len","list","max","range","set","sorted","str","sum","tuple"]
 tabs:=["too_full"]
noncomputable abbrev pg (k:Nat):Pg:=mkPg T (run T k)
noncomputable abbrev Jbm (k:Nat):List IV->IH->Res IV:=run T k Jee
noncomputable abbrev Jj (k:Nat):List IV->IH->Res IV:=run T k J7
noncomputable abbrev Jb3 (k:Nat):List IV->IH->Res IV:=run T k Jcs
noncomputable abbrev Jjl (k:Nat):List IV->IH->Res IV:=run T k Jmv
noncomputable abbrev Jea (k:Nat):List IV->IH->Res IV:=run T k Jjc
noncomputable abbrev Jby (k:Nat):List IV->IH->Res IV:=run T k Jcm
noncomputable abbrev Jaq (k:Nat):List IV->IH->Res IV:=run T k Jau
noncomputable abbrev Jfj (k:Nat):List IV->IH->Res IV:=run T k Jgr
noncomputable abbrev Ja9 (k:Nat):List IV->IH->Res IV:=run T k Jba
noncomputable abbrev Jbq (k:Nat):List IV->IH->Res IV:=run T k Jei
noncomputable abbrev Jc8 (k:Nat):List IV->IH->Res IV:=run T k Jgt
noncomputable abbrev Jfk (k:Nat):List IV->IH->Res IV:=run T k Jgs
noncomputable abbrev Jb1 (k:Nat):List IV->IH->Res IV:=run T k Jcp
noncomputable abbrev Jc9 (k:Nat):List IV->IH->Res IV:=run T k Jgw
noncomputable abbrev Jar (k:Nat):List IV->IH->Res IV:=run T k Jav
noncomputable abbrev J2 (k:Nat):List IV->IH->Res IV:=run T k J4
noncomputable abbrev Jac (k:Nat):List IV->IH->Res IV:=run T k Jcq
noncomputable abbrev Jbp (k:Nat):List IV->IH->Res IV:=run T k Jgx
noncomputable abbrev Jaz (k:Nat):List IV->IH->Res IV:=run T k Jk
noncomputable abbrev Jb2 (k:Nat):List IV->IH->Res IV:=run T k Jcr
noncomputable abbrev Jd9 (k:Nat):List IV->IH->Res IV:=run T k Jed
noncomputable abbrev Jay (k:Nat):List IV->IH->Res IV:=run T k Jcj
noncomputable abbrev Jbw (k:Nat):List IV->IH->Res IV:=run T k Jck
noncomputable abbrev Jbx (k:Nat):List IV->IH->Res IV:=run T k Jcl
noncomputable abbrev Jr (k:Nat):List IV->IH->Res IV:=run T k Jaw
noncomputable abbrev Jai (k:Nat):List IV->IH->Res IV:=run T k Jbb
noncomputable abbrev Jbo (k:Nat):List IV->IH->Res IV:=run T k Jeh
noncomputable abbrev Jbz (k:Nat):List IV->IH->Res IV:=run T k Jcn
noncomputable abbrev Jb0 (k:Nat):List IV->IH->Res IV:=run T k Jco
noncomputable abbrev Jeb (k:Nat):List IV->IH->Res IV:=run T k Jeg
noncomputable abbrev Jfm (k:Nat):List IV->IH->Res IV:=run T k Jgv
noncomputable abbrev Jbn (k:Nat):List IV->IH->Res IV:=run T k Jef
noncomputable abbrev Jfl (k:Nat):List IV->IH->Res IV:=run T k Jgu
noncomputable abbrev Jpr (k:Nat):List IV->IH->Res IV:=run T k Jj3
noncomputable def Jie (k:Nat):S1:=(sRet (eAnd (eIsi Jer (eVar 0)) (eUn (Jqi tru) (eIsi Jbi (eVar 0))) tru))
theorem Jqk (k:Nat):Jbm (k+1)=fnI 1 (Jie k):=by kernel_rfl
theorem Jp5 (k:Nat) (x0:IV) (h:IH):Jbm (k+1) [x0] h=(Jie k [some x0] h).fin:=by rw[Jqk];rfl
noncomputable def Jad (k:Nat):S1:=(sRet (eAnd (Jl (Jbm k) [] (Ja (eVar 0) aNil)) (eBin cGe (eVar 0) (eVar 1)) tru))
theorem Ji5 (k:Nat):Jj (k+1)=fnI 2 (Jad k):=by kernel_rfl
theorem Ji3 (k:Nat) (x0 x1:IV) (h:IH):Jj (k+1) [x0,x1] h=(Jad k [some x0,some x1] h).fin:=by rw[Ji5];rfl
noncomputable def Jch (k:Nat):S1:=(sRet (eBin J9 (eBin Jkf (eBin Jm (eVar 0) (eVar 1)) (eC (.int 1))) (eVar 1)))
theorem Jo3 (k:Nat):Jb3 (k+1)=fnI 2 (Jch k):=by kernel_rfl
theorem Joh (k:Nat) (x0 x1:IV) (h:IH):Jb3 (k+1) [x0,x1] h=(Jch k [some x0,some x1] h).fin:=by rw[Jo3];rfl
noncomputable def Jj0 (k:Nat):S1:=(sRet (eBin Jm (eBin opIx (eVar 0) (eC (.int 1))) (eBin opIx (eVar 0) (eC (.int 2)))))
theorem Jyd (k:Nat):Jjl (k+1)=fnI 1 (Jj0 k):=by kernel_rfl
theorem Jxk (k:Nat) (x0:IV) (h:IH):Jjl (k+1) [x0] h=(Jj0 k [some x0] h).fin:=by rw[Jyd];rfl
noncomputable def Jhh (k:Nat):S1:=(sRet (eBin Jm (eBin opIx (eVar 1) (eC (.int 1))) (eFld "due" (eDot (pg k) "work" 1 (eVar 0) (Ja (eBin opIx (eVar 1) (eC (.int 0))) aNil)))))
theorem Jwa (k:Nat):Jea (k+1)=fnI 2 (Jhh k):=by kernel_rfl
theorem Jvb (k:Nat) (x0 x1:IV) (h:IH):Jea (k+1) [x0,x1] h=(Jhh k [some x0,some x1] h).fin:=by rw[Jwa];rfl
noncomputable def Jdo (k:Nat):E1:=(Jl (Jbm k) [] (Ja (eVar 0) aNil))
noncomputable def Jf5 (k:Nat):S1:=(sRet (eAnd (Jbc cLe cLe (eC (.int 0)) (eBin opIx (eVar 1) (eC (.int 2))) (eFld "late" (eVar 2))) (Jbc cLe cLe (eC (.int 1)) (eBin opIx (eVar 1) (eC (.int 3))) (eFld "length" (eVar 2))) tru))
noncomputable def Jf4 (k:Nat):S1:=sSeq (sSet 2 (eDot (pg k) "work" 1 (eVar 0) (Ja (eBin opIx (eVar 1) (eC (.int 0))) aNil))) (Jf5 k)
noncomputable def Jf3 (k:Nat):S1:=sSeq (sIf (tOrI (Jal (tOfB asB (Jbc cLe cLt (eC (.int 0)) (eBin opIx (eVar 1) (eC (.int 0))) (eDot (pg k) "size" 0 (eVar 0) aNil)))) (tOfB asB (eBin cLt (eBin opIx (eVar 1) (eC (.int 1))) (eC (.int 0))))) (sRet (eC (.bl false))) sNil) (Jf4 k)
noncomputable def Jf2 (k:Nat):S1:=sSeq (sIf (Jal (tOfB tru (eCB (on1 allI) (Ja (J0 (iAny (eVar 1)) 1 [] (gNm 0) Jaa (Jdo k)) aNil)))) (sRet (eC (.bl false))) sNil) (Jf3 k)
noncomputable def Jb8 (k:Nat):S1:=sSeq (sIf (tOrI (Jal (tOfB tru (eIsi Jda (eVar 1)))) (tOfB asB (eBin cNe (eCB (on1 lenI) (Ja (eVar 1) aNil)) (eC (.int 4))))) (sRet (eC (.bl false))) sNil) (Jf2 k)
theorem Jox (k:Nat):Jby (k+1)=fnI 3 (Jb8 k):=by kernel_rfl
theorem Job (k:Nat) (x0 x1:IV) (h:IH):Jby (k+1) [x0,x1] h=(Jb8 k [some x0,some x1,none] h).fin:=by rw[Jox];rfl
noncomputable def Jc3 (k:Nat):S1:=(sSeq (sIf (Jal (tOfB tru (Jl (Jby k) [] (Ja (eVar 0) (Ja (eVar 4) aNil))))) (sRet (eVar 3)) sNil) (sSeq (sSet 5 (eBin opIx (eVar 4) (eC (.int 0)))) (sSeq (sIf (Jtk (tOfB asB (eBin cInD (eVar 5) (eVar 2))) (tOfB asB (eBin cLt (eBin Jkf (eBin opIx (eVar 4) (eC (.int 1))) (eBin Jqh (eVar 2) (eVar 5))) (eFld "gap" (eDot (pg k) "work" 1 (eVar 0) (Ja (eVar 5) aNil)))))) (sRet (eVar 3)) sNil) (sAsg (eBin opIx (eVar 4) (eC (.int 1))) (gSbD (eVar 2) (eVar 5))))))
noncomputable def Jdd (k:Nat):S1:=(sRet (eC .non))
noncomputable def Jdc (k:Nat):S1:=sSeq (sFor (iRg Jd0 (Ja (eVar 1) aNil)) (gTp 2 (gC (gNm 3) (gC (gNm 4) gN))) (Jc3 k)) (Jdd k)
noncomputable def Ja3 (k:Nat):S1:=sSeq (sSet 2 Juz) (Jdc k)
theorem Jkw (k:Nat):Jaq (k+1)=fnI 6 (Ja3 k):=by kernel_rfl
theorem Jks (k:Nat) (x0 x1:IV) (h:IH):Jaq (k+1) [x0,x1] h=(Ja3 k [some x0,some x1,none,none,none,none] h).fin:=by rw[Jkw];rfl
noncomputable def Jjo (k:Nat):S1:=(sIf (tOfB asB (eBin Jj1 (eVar 2) (eC .non))) stS sNil)
noncomputable def Jjn (k:Nat):S1:=sSeq (sSet 2 (Jl (Jaq k) [] (Ja (eVar 0) (Ja (eVar 1) aNil)))) (Jjo k)
noncomputable def Je6 (k:Nat):S1:=sSeq (sIf (tOfB asB (eBin cGt (eCB (on1 lenI) (Ja (eVar 1) aNil)) (eC (.int 200)))) stS sNil) (Jjn k)
theorem Js1 (k:Nat):Jfj (k+1)=fnI 3 (Je6 k):=by kernel_rfl
theorem Jr9 (k:Nat) (x0 x1:IV) (h:IH):Jfj (k+1) [x0,x1] h=(Je6 k [some x0,some x1,none] h).fin:=by rw[Js1];rfl
noncomputable def Jd1 (k:Nat):S1:=(sIf (tOfB asB (eBin cGe (Jl (Jjl k) [] (Ja (eVar 4) aNil)) (eVar 2))) (sSeq (sAug .Add 3 (eBin opIx (eVar 4) (eC (.int 3)))) (sIf (tOfB asB (eBin cGt (eVar 3) (eBin Jkf (Jl (Jea k) [] (Ja (eVar 0) (Ja (eVar 4) aNil))) (eVar 2)))) (sRet (Jl (Jea k) [] (Ja (eVar 0) (Ja (eVar 4) aNil)))) sNil)) sNil)
noncomputable def Jet (k:Nat):S1:=(sRet (eC .non))
noncomputable def Jes (k:Nat):S1:=sSeq (sFor (iAny (eVar 1)) (gNm 4) (Jd1 k)) (Jet k)
noncomputable def Jbj (k:Nat):S1:=sSeq (sSet 3 (eC (.int 0))) (Jes k)
theorem Jm6 (k:Nat):Ja9 (k+1)=fnI 5 (Jbj k):=by kernel_rfl
theorem Jmx (k:Nat) (x0 x1 x2:IV) (h:IH):Ja9 (k+1) [x0,x1,x2] h=(Jbj k [some x0,some x1,some x2,none,none] h).fin:=by rw[Jm6];rfl
noncomputable def Je1 (k:Nat):E1:=(Jl (Jea k) [] (Ja (eVar 1) (Ja (eVar 0) aNil)))
noncomputable def Je2 (k:Nat):E1:=(Jl (Jjl k) [] (Ja (eVar 0) aNil))
noncomputable def Jg3 (k:Nat):S1:=(sSeq (sSet 4 (Jl (Ja9 k) [] (Ja (eVar 0) (Ja (eVar 2) (Ja (eVar 3) aNil))))) (sIf (tOfB asB (eBin Jj1 (eVar 4) (eC .non))) (sRet (eTup (Ja (eVar 3) (Ja (eVar 4) aNil)))) sNil))
noncomputable def Jis (k:Nat):S1:=(sRet (eC .non))
noncomputable def Jir (k:Nat):S1:=sSeq (sFor (iAny (Jgy (Ja (J0 (iAny (eVar 1)) 1 [] (gNm 0) Jaa (Je2 k)) aNil))) (gNm 3) (Jg3 k)) (Jis k)
noncomputable def Jiq (k:Nat):S1:=sSeq (sSet 2 (Jk8 "too_full" 0 [0] (Ja (eVar 1) aNil) (Je1 k))) (Jir k)
noncomputable def Jdm (k:Nat):S1:=sSeq (Jg9 (Jl (Jfj k) [] (Ja (eVar 0) (Ja (eVar 1) aNil)))) (Jiq k)
theorem Jqo (k:Nat):Jbq (k+1)=fnI 5 (Jdm k):=by kernel_rfl
theorem Jp9 (k:Nat) (x0 x1:IV) (h:IH):Jbq (k+1) [x0,x1] h=(Jdm k [some x0,some x1,none,none,none] h).fin:=by rw[Jqo];rfl
noncomputable def Jci (k:Nat):E1:=(Jbc cLe cLe (eC (.str "a")) (eVar 0) (eC (.str "z")))
noncomputable def Jjr (k:Nat):S1:=(sRet (eCB (on1 allI) (Ja (J0 (iAny (eVar 0)) 1 [] (gNm 0) Jaa (Jci k)) aNil)))
noncomputable def Je8 (k:Nat):S1:=sSeq (sIf (tOrI (Jal (tOfB tru (eIsi Jfo (eVar 0)))) (Jal (tOfB asB (Jbc cLe cLe (eC (.int 1)) (eCB (on1 lenI) (Ja (eVar 0) aNil)) (eC (.int 8)))))) (sRet (eC (.bl false))) sNil) (Jjr k)
theorem Js3 (k:Nat):Jc8 (k+1)=fnI 1 (Je8 k):=by kernel_rfl
theorem Jsb (k:Nat) (x0:IV) (h:IH):Jc8 (k+1) [x0] h=(Je8 k [some x0] h).fin:=by rw[Js3];rfl
noncomputable def Jjq (k:Nat):S1:=(sRet (eAnd (Jl (Jj k) [] (Ja (eBin opIx (eVar 0) (eC (.int 2))) (Ja (eBin Jm (eBin opIx (eVar 0) (eC (.int 1))) (eC (.int 1))) aNil))) (eBin cLt (eBin opIx (eVar 0) (eC (.int 2))) (eVar 1)) tru))
noncomputable def Jjp (k:Nat):S1:=sSeq (sIf (Jal (tOfB tru (Jl (Jj k) [] (Ja (eBin opIx (eVar 0) (eC (.int 1))) (Ja (eC (.int 0)) aNil))))) (sRet (eC (.bl false))) sNil) (Jjq k)
noncomputable def Je7 (k:Nat):S1:=sSeq (sIf (tOrI (Jal (tOfB tru (eIsi Jda (eVar 0)))) (tOrI (tOfB asB (eBin cNe (eCB (on1 lenI) (Ja (eVar 0) aNil)) (eC (.int 3)))) (Jal (tOfB tru (Jl (Jc8 k) [] (Ja (eBin opIx (eVar 0) (eC (.int 0))) aNil)))))) (sRet (eC (.bl false))) sNil) (Jjp k)
theorem Js2 (k:Nat):Jfk (k+1)=fnI 2 (Je7 k):=by kernel_rfl
theorem Jsa (k:Nat) (x0 x1:IV) (h:IH):Jfk (k+1) [x0,x1] h=(Je7 k [some x0,some x1] h).fin:=by rw[Js2];rfl
noncomputable def Jce (k:Nat):S1:=(sRet (eOr (eBin cLe (eBin opIx (eVar 0) (eC (.int 2))) (eBin opIx (eVar 1) (eC (.int 1)))) (eBin cLe (eBin opIx (eVar 1) (eC (.int 2))) (eBin opIx (eVar 0) (eC (.int 1)))) tru))
theorem Jo0 (k:Nat):Jb1 (k+1)=fnI 2 (Jce k):=by kernel_rfl
theorem Joe (k:Nat) (x0 x1:IV) (h:IH):Jb1 (k+1) [x0,x1] h=(Jce k [some x0,some x1] h).fin:=by rw[Jo0];rfl
noncomputable def Jfb (k:Nat):S1:=(sRet (eAnd (eBin cLe (eBin opIx (eVar 1) (eC (.int 1))) (eBin opIx (eVar 0) (eC (.int 1)))) (eBin cLe (eBin opIx (eVar 0) (eC (.int 2))) (eBin opIx (eVar 1) (eC (.int 2)))) tru))
theorem Js6 (k:Nat):Jc9 (k+1)=fnI 2 (Jfb k):=by kernel_rfl
theorem Jse (k:Nat) (x0 x1:IV) (h:IH):Jc9 (k+1) [x0,x1] h=(Jfb k [some x0,some x1] h).fin:=by rw[Js6];rfl
noncomputable def Jdf (k:Nat):S1:=(sRet (eOr (Jl (Jc9 k) [] (Ja (eVar 0) (Ja (eVar 1) aNil))) (Jl (Jc9 k) [] (Ja (eVar 1) (Ja (eVar 0) aNil))) tru))
noncomputable def Jde (k:Nat):S1:=sSeq (sIf (tOfB asB (eBin cEq (eBin opIx (eVar 0) (eC (.int 0))) (eBin opIx (eVar 1) (eC (.int 0))))) (sRet (eC (.bl false))) sNil) (Jdf k)
noncomputable def Ja4 (k:Nat):S1:=sSeq (sIf (tOfB tru (Jl (Jb1 k) [] (Ja (eVar 0) (Ja (eVar 1) aNil)))) (sRet (eC (.bl true))) sNil) (Jde k)
theorem Jkx (k:Nat):Jar (k+1)=fnI 2 (Ja4 k):=by kernel_rfl
theorem Jkt (k:Nat) (x0 x1:IV) (h:IH):Jar (k+1) [x0,x1] h=(Ja4 k [some x0,some x1] h).fin:=by rw[Jkx];rfl
noncomputable def Jaj (k:Nat):E1:=(Jl (Jar k) [] (Ja (eVar 1) (Ja (eVar 0) aNil)))
noncomputable def Jao (k:Nat):S1:=(sIf (Jal (tOfB tru (eCB (on1 allI) (Ja (J0 (iAny (eSl slI (eVar 0) Jm4 (Ji4 (eVar 1)))) 1 [2] (gNm 0) Jaa (Jaj k)) aNil)))) (sRet (eC (.bl false))) sNil)
noncomputable def Ja2 (k:Nat):S1:=(sRet (eC (.bl true)))
noncomputable def J6 (k:Nat):S1:=sSeq (sFor (iRg Jd0 (Ja (eVar 0) aNil)) (gTp 2 (gC (gNm 1) (gC (gNm 2) gN))) (Jao k)) (Ja2 k)
theorem Jg8 (k:Nat):J2 (k+1)=fnI 3 (J6 k):=by kernel_rfl
theorem Jg0 (k:Nat) (x0:IV) (h:IH):J2 (k+1) [x0] h=(J6 k [some x0,none,none] h).fin:=by rw[Jg8];rfl
noncomputable def Jdt (k:Nat):E1:=(Jl (Jfk k) [] (Ja (eVar 0) (Ja (eVar 1) aNil)))
noncomputable def Jdu (k:Nat):E1:=(eTup (Ja (eBin opIx (eVar 0) (eC (.int 0))) (Ja (eBin opIx (eVar 0) (eC (.int 1))) (Ja (eBin opIx (eVar 0) (eC (.int 2))) aNil))))
noncomputable def Jgj (k:Nat):S1:=(sRet (eCB (on1 Jko) (Ja (J0 (iAny (eVar 0)) 1 [] (gNm 0) Jaa (Jdu k)) aNil)))
noncomputable def Jgi (k:Nat):S1:=sSeq (sIf (Jal (tOfB tru (Jl (J2 k) [] (Ja (eVar 0) aNil)))) stS sNil) (Jgj k)
noncomputable def Jgh (k:Nat):S1:=sSeq (sIf (Jal (tOfB tru (eCB (on1 allI) (Ja (J0 (iAny (eVar 0)) 1 [1] (gNm 0) Jaa (Jdt k)) aNil)))) stS sNil) (Jgi k)
noncomputable def Jgg (k:Nat):S1:=sSeq (sIf (tOfB asB (eBin cGt (eCB (on1 lenI) (Ja (eVar 0) aNil)) (eC (.int 6)))) stS sNil) (Jgh k)
noncomputable def Jgf (k:Nat):S1:=sSeq (sIf (Jal (tOfB tru (eIsi Ja1 (eVar 0)))) stS sNil) (Jgg k)
noncomputable def Jcf (k:Nat):S1:=sSeq (sIf (tOfB asB (eBin cIs (eVar 0) (eC .non))) (sRet (eTup aNil)) sNil) (Jgf k)
theorem Jo1 (k:Nat):Jac (k+1)=fnI 2 (Jcf k):=by kernel_rfl
theorem Jof (k:Nat) (x0 x1:IV) (h:IH):Jac (k+1) [x0,x1] h=(Jcf k [some x0,some x1] h).fin:=by rw[Jo1];rfl
noncomputable def Jjz (k:Nat):S1:=(sRet (eVar 0))
noncomputable def Jjy (k:Nat):S1:=sSeq (sIf (tOrI (Jal (tOfB tru (Jl (Jj k) [] (Ja (eVar 0) (Ja (eC (.int 1)) aNil))))) (tOfB asB (eBin cGt (eVar 0) (eVar 1)))) stS sNil) (Jjz k)
noncomputable def Jfc (k:Nat):S1:=sSeq (sIf (tOfB asB (eBin cIs (eVar 0) (eC .non))) (sRet (eVar 1)) sNil) (Jjy k)
theorem Js7 (k:Nat):Jbp (k+1)=fnI 2 (Jfc k):=by kernel_rfl
theorem Jsf (k:Nat) (x0 x1:IV) (h:IH):Jbp (k+1) [x0,x1] h=(Jfc k [some x0,some x1] h).fin:=by rw[Js7];rfl
noncomputable def Jf1 (k:Nat):S1:=(Jkk "hold_tuples" (eVar 0) (Jl (Jac k) [] (Ja (eVar 6) (Ja (eVar 3) aNil))))
noncomputable def Jf0 (k:Nat):S1:=sSeq (Jkk "late" (eVar 0) (eVar 5)) (Jf1 k)
noncomputable def Jfz (k:Nat):S1:=sSeq (Jkk "due" (eVar 0) (Jl (Jbp k) [] (Ja (eVar 4) (Ja (eVar 2) aNil)))) (Jf0 k)
noncomputable def Jfy (k:Nat):S1:=sSeq (Jkk "length" (eVar 0) (eVar 3)) (Jfz k)
noncomputable def Jfx (k:Nat):S1:=sSeq (Jkk "gap" (eVar 0) (eVar 2)) (Jfy k)
noncomputable def Jfw (k:Nat):S1:=sSeq (Jkk "name" (eVar 0) (eVar 1)) (Jfx k)
noncomputable def Jfv (k:Nat):S1:=sSeq (sIf (Jal (tOfB tru (Jl (Jj k) [] (Ja (eVar 5) (Ja (eC (.int 0)) aNil))))) stS sNil) (Jfw k)
noncomputable def Jfu (k:Nat):S1:=sSeq (sIf (Jal (tOfB tru (Jl (Jj k) [] (Ja (eVar 3) (Ja (eC (.int 1)) aNil))))) stS sNil) (Jfv k)
noncomputable def Jft (k:Nat):S1:=sSeq (sIf (Jal (tOfB tru (Jl (Jj k) [] (Ja (eVar 2) (Ja (eC (.int 1)) aNil))))) stS sNil) (Jfu k)
noncomputable def Jb7 (k:Nat):S1:=sSeq (sIf (Jal (tOfB tru (Jl (Jc8 k) [] (Ja (eVar 1) aNil)))) stS sNil) (Jft k)
theorem Jow (k:Nat):Jaz (k+1)=fnI 7 (Jb7 k):=by kernel_rfl
theorem Joa (k:Nat) (x0 x1 x2 x3 x4 x5 x6:IV) (h:IH):Jaz (k+1) [x0,x1,x2,x3,x4,x5,x6] h=(Jb7 k [some x0,some x1,some x2,some x3,some x4,some x5,some x6] h).fin:=by rw[Jow];rfl
noncomputable def Jdv (k:Nat):E1:=(eIsi (Jy7 ["Work"]) (eVar 0))
noncomputable def Jdw (k:Nat):E1:=(eFld "name" (eVar 0))
noncomputable def Jgm (k:Nat):S1:=(sRet (eCB (on1 Jko) (Ja (eVar 0) aNil)))
noncomputable def Jgl (k:Nat):S1:=sSeq (sIf (tOfB asB (eBin cNe (Jj5 (Ja (J0 (iAny (eVar 0)) 1 [] (gNm 0) Jaa (Jdw k)) aNil)) (eCB (on1 lenI) (Ja (eVar 0) aNil)))) stS sNil) (Jgm k)
noncomputable def Jgk (k:Nat):S1:=sSeq (sIf (Jal (tOfB tru (eCB (on1 allI) (Ja (J0 (iAny (eVar 0)) 1 [] (gNm 0) Jaa (Jdv k)) aNil)))) stS sNil) (Jgl k)
noncomputable def Jcg (k:Nat):S1:=sSeq (sIf (Jal (tOfB tru (eIsi Ja1 (eVar 0)))) stS sNil) (Jgk k)
theorem Jo2 (k:Nat):Jb2 (k+1)=fnI 1 (Jcg k):=by kernel_rfl
theorem Jog (k:Nat) (x0:IV) (h:IH):Jb2 (k+1) [x0] h=(Jcg k [some x0] h).fin:=by rw[Jo2];rfl
noncomputable def Jey (k:Nat):E1:=(eFld "due" (eVar 0))
noncomputable def Jez (k:Nat):E1:=(Jl (Jb3 k) [] (Ja (eBin Jm (eVar 1) (eFld "late" (eVar 0))) (Ja (eFld "gap" (eVar 0)) aNil)))
noncomputable def Jid (k:Nat):S1:=(sRet (eCB (on1 sumI) (Ja (J0 (iAny (eVar 0)) 1 [1] (gNm 0) Jaa (Jez k)) aNil)))
noncomputable def Jdb (k:Nat):S1:=sSeq (sSet 1 (Ju0 (Ja (J0 (iAny (eVar 0)) 1 [] (gNm 0) Jaa (Jey k)) aNil) (eC (.int 0)))) (Jid k)
theorem Jqj (k:Nat):Jd9 (k+1)=fnI 2 (Jdb k):=by kernel_rfl
theorem Jp4 (k:Nat) (x0:IV) (h:IH):Jd9 (k+1) [x0] h=(Jdb k [some x0,none] h).fin:=by rw[Jqj];rfl
noncomputable def Jfs (k:Nat):S1:=(sIf (tOfB asB (eBin cGt (Jl (Jd9 k) [] (Ja (eFld "works" (eVar 0)) aNil)) (eC (.int 80)))) stS sNil)
noncomputable def Jfr (k:Nat):S1:=sSeq (sIf (tOfB asB (eBin cGt (eCB (on1 lenI) (Ja (eFld "works" (eVar 0)) aNil)) (eC (.int 12)))) stS sNil) (Jfs k)
noncomputable def Jb4 (k:Nat):S1:=sSeq (Jkk "works" (eVar 0) (Jl (Jb2 k) [] (Ja (eVar 1) aNil))) (Jfr k)
theorem Jot (k:Nat):Jay (k+1)=fnI 2 (Jb4 k):=by kernel_rfl
theorem Jn7 (k:Nat) (x0 x1:IV) (h:IH):Jay (k+1) [x0,x1] h=(Jb4 k [some x0,some x1] h).fin:=by rw[Jot];rfl
noncomputable def Jb5 (k:Nat):S1:=(sRet (eCB (on1 lenI) (Ja (eFld "works" (eVar 0)) aNil)))
theorem Jou (k:Nat):Jbw (k+1)=fnI 1 (Jb5 k):=by kernel_rfl
theorem Jn8 (k:Nat) (x0:IV) (h:IH):Jbw (k+1) [x0] h=(Jb5 k [some x0] h).fin:=by rw[Jou];rfl
noncomputable def Jb6 (k:Nat):S1:=(sRet (eBin opIx (eFld "works" (eVar 0)) (eVar 1)))
theorem Jov (k:Nat):Jbx (k+1)=fnI 2 (Jb6 k):=by kernel_rfl
theorem Jn9 (k:Nat) (x0 x1:IV) (h:IH):Jbx (k+1) [x0,x1] h=(Jb6 k [some x0,some x1] h).fin:=by rw[Jov];rfl
noncomputable def Jdg (k:Nat):S1:=(sRet (eC (.int 0)))
noncomputable def Ja5 (k:Nat):S1:=sSeq (sIf (tOfB asB (eBin cLt (eVar 1) (eCB (on1 lenI) (Ja (eVar 0) aNil)))) (sRet (eBin opIx (eVar 0) (eVar 1))) sNil) (Jdg k)
theorem Jky (k:Nat):Jr (k+1)=fnI 2 (Ja5 k):=by kernel_rfl
theorem Jku (k:Nat) (x0 x1:IV) (h:IH):Jr (k+1) [x0,x1] h=(Ja5 k [some x0,some x1] h).fin:=by rw[Jky];rfl
noncomputable def Jd2 (k:Nat):S1:=(sSeq (Jg9 (eDot (pg k) "append" 1 (eVar 2) (Ja (eBin Jp (eVar 3) (eBin Jg6 (eC (.int 10)) (eC (.int 45)))) aNil))) (sSet 3 (eBin J9 (eVar 3) (eBin Jg6 (eC (.int 10)) (eC (.int 45))))))
noncomputable def Jd3 (k:Nat):S1:=(sSeq (sSet 5 (eBin Jp (eBin Jm (eBin Jm (eBin Jd5 (eVar 5) (eVar 5)) (eBin Jd5 (eC (.int 48271)) (eVar 5))) (eVar 4)) (eBin Jm (eBin Jg6 (eC (.int 10)) (eC (.int 18))) (eC (.int 9))))) (Jg9 (eDot (pg k) "append" 1 (eVar 2) (Ja (eVar 5) aNil))))
noncomputable def Jex (k:Nat):S1:=(sRet (eSl slI (eVar 2) (Ji4 (eC (.int 2))) Jm4))
noncomputable def Jew (k:Nat):S1:=sSeq (sFor (iRg Jc1 (Ja (eBin Jm (eVar 1) (eC (.int 2))) aNil)) (gNm 4) (Jd3 k)) (Jex k)
noncomputable def Jev (k:Nat):S1:=sSeq (sSet 5 (eBin Jm (eBin Jp (eVar 0) (eBin Jm (eBin Jg6 (eC (.int 10)) (eC (.int 18))) (eC (.int 9)))) (eC (.int 48271)))) (Jew k)
noncomputable def Jeu (k:Nat):S1:=sSeq (sIf (tOfB asB (eBin cGe (eVar 0) (eBin Jg6 (eC (.int 10)) (eC (.int 30))))) (sSeq (sSet 3 (eBin Jkf (eVar 0) (eBin Jg6 (eC (.int 10)) (eC (.int 30))))) (sSeq (sFor (iRg Jc1 (Ja (eVar 1) aNil)) (gNm 4) (Jd2 k)) (sRet (eVar 2)))) sNil) (Jev k)
noncomputable def Jbk (k:Nat):S1:=sSeq (sSet 2 (eLst aNil)) (Jeu k)
theorem Jm7 (k:Nat):Jai (k+1)=fnI 6 (Jbk k):=by kernel_rfl
theorem Jmy (k:Nat) (x0 x1:IV) (h:IH):Jai (k+1) [x0,x1] h=(Jbk k [some x0,some x1,none,none,none,none] h).fin:=by rw[Jm7];rfl
noncomputable def Jaf (k:Nat):E1:=(eBin opIx (eVar 2) (eBin Jp (eBin J9 (eVar 1) (eBin Jm (eC (.int 11)) (eBin Jd5 (eVar 0) (eVar 0)))) (eC (.int 26))))
noncomputable def Jip (k:Nat):S1:=(sRet (eBin Jm (eBin Jm (eSl slT (eVar 4) Jm4 (Ji4 (eVar 5))) (eBin opIx (eVar 2) (eBin Jp (eBin Jm (eBin J9 (eVar 0) (eC (.int 64))) (eVar 1)) (eC (.int 26))))) (eSl slT (eVar 4) (Ji4 (eBin Jm (eVar 5) (eC (.int 1)))) Jm4)))
noncomputable def Jio (k:Nat):S1:=sSeq (sSet 5 (eBin Jp (eBin J9 (eVar 0) (eC (.int 8))) (eVar 3))) (Jip k)
noncomputable def Jin (k:Nat):S1:=sSeq (sSet 4 (eDot (pg k) "join" 1 (eC (.str "")) (Ja (J0 (iRg Jc1 (Ja (eVar 3) aNil)) 1 [0,2] (gNm 0) Jaa (Jaf k)) aNil))) (Jio k)
noncomputable def Jim (k:Nat):S1:=sSeq (sSet 3 (eBin Jm (eC (.int 1)) (eBin Jp (eVar 0) (eC (.int 8))))) (Jin k)
noncomputable def Jdl (k:Nat):S1:=sSeq (sSet 2 (eC (.str "abcdefghijklmnopqrstuvwxyz"))) (Jim k)
theorem Jqn (k:Nat):Jbo (k+1)=fnI 6 (Jdl k):=by kernel_rfl
theorem Jp8 (k:Nat) (x0 x1:IV) (h:IH):Jbo (k+1) [x0,x1] h=(Jdl k [some x0,some x1,none,none,none,none] h).fin:=by rw[Jqn];rfl
noncomputable def Jdq (k:Nat):E1:=(eBin Jp (eVar 0) (eVar 1))
noncomputable def Jdr (k:Nat):E1:=(eVar 0)
noncomputable def Jds (k:Nat):T1:=(tOfB asB (eBin cLt (eBin opIx (eVar 0) (eC (.int 1))) (eBin opIx (eVar 0) (eC (.int 2)))))
noncomputable def Jcb (k:Nat):S1:=(sRet (J0 (iAny (eBin opIx (eVar 6) (eBin Jp (eBin opIx (eVar 0) (eC (.int 6))) (eC (.int 6))))) 1 [] (gNm 0) (Jds k) (Jdr k)))
noncomputable def Jca (k:Nat):S1:=sSeq (sSet 6 (eBin Jm (eVar 6) (eLst (Ja (eLst (Ja (eTup (Ja (eVar 4) (Ja (eBin opIx (eVar 3) (eC (.int 0))) (Ja (eBin opIx (eVar 3) (eC (.int 1))) aNil)))) (Ja (eTup (Ja (eVar 5) (Ja (eBin opIx (eVar 3) (eC (.int 2))) (Ja (eBin opIx (eVar 3) (eC (.int 3))) aNil)))) aNil))) (Ja (eLst (Ja (eTup (Ja (eVar 4) (Ja (eBin opIx (eVar 3) (eC (.int 2))) (Ja (eBin opIx (eVar 3) (eC (.int 3))) aNil)))) (Ja (eTup (Ja (eVar 4) (Ja (eBin opIx (eVar 3) (eC (.int 0))) (Ja (eBin opIx (eVar 3) (eC (.int 1))) aNil)))) aNil))) aNil))))) (Jcb k)
noncomputable def Jf8 (k:Nat):S1:=sSeq (sSet 6 (eLst (Ja (eLst aNil) (Ja (eLst (Ja (eTup (Ja (eVar 4) (Ja (eBin opIx (eVar 3) (eC (.int 0))) (Ja (eBin opIx (eVar 3) (eC (.int 3))) aNil)))) aNil)) (Ja (eLst (Ja (eTup (Ja (eVar 4) (Ja (eBin opIx (eVar 3) (eC (.int 0))) (Ja (eBin opIx (eVar 3) (eC (.int 3))) aNil)))) (Ja (eTup (Ja (eVar 5) (Ja (eBin opIx (eVar 3) (eC (.int 1))) (Ja (eBin opIx (eVar 3) (eC (.int 2))) aNil)))) aNil))) (Ja (eLst (Ja (eTup (Ja (eVar 5) (Ja (eBin opIx (eVar 3) (eC (.int 1))) (Ja (eBin opIx (eVar 3) (eC (.int 2))) aNil)))) (Ja (eTup (Ja (eVar 4) (Ja (eBin opIx (eVar 3) (eC (.int 0))) (Ja (eBin opIx (eVar 3) (eC (.int 3))) aNil)))) aNil))) aNil)))))) (Jca k)
noncomputable def Jf7 (k:Nat):S1:=sSeq (sSet 5 (eBin opIx (eVar 2) (eBin Jp (eBin Jm (eBin Jm (eBin opIx (eVar 0) (eC (.int 4))) (eC (.int 1))) (eBin Jp (eBin opIx (eVar 0) (eC (.int 5))) (eC (.int 2)))) (eC (.int 3))))) (Jf8 k)
noncomputable def Jf6 (k:Nat):S1:=sSeq (sSet 4 (eBin opIx (eVar 2) (eBin Jp (eBin opIx (eVar 0) (eC (.int 4))) (eC (.int 3))))) (Jf7 k)
noncomputable def Jb9 (k:Nat):S1:=sSeq (sSet 3 (eCB (on1 Jhp) (Ja (J0 (iAny (eSl slI (eVar 0) Jm4 (Ji4 (eC (.int 4))))) 1 [1] (gNm 0) Jaa (Jdq k)) aNil))) (Jf6 k)
theorem Joy (k:Nat):Jbz (k+1)=fnI 7 (Jb9 k):=by kernel_rfl
theorem Joc (k:Nat) (x0 x1 x2:IV) (h:IH):Jbz (k+1) [x0,x1,x2] h=(Jb9 k [some x0,some x1,some x2,none,none,none,none] h).fin:=by rw[Joy];rfl
noncomputable def Jcd (k:Nat):S1:=(sRet (eTup (Ja (eVar 4) (Ja (eVar 7) (Ja (eVar 5) (Ja (eVar 6) (Ja (eVar 8) aNil)))))))
noncomputable def Jge (k:Nat):S1:=sSeq (sIf (tOfB asB (eBin cNe (eVar 2) (eLst aNil))) (sSet 8 (Jl (Jbz k) [] (Ja (eSl slI (eVar 3) (Ji4 (eC (.int 8))) Jm4) (Ja (eVar 7) (Ja (eVar 2) aNil))))) sNil) (Jcd k)
noncomputable def Jgd (k:Nat):S1:=sSeq (sSet 8 (eLst aNil)) (Jge k)
noncomputable def Jgc (k:Nat):S1:=sSeq (sSet 7 (eBin Jm (eC (.int 1)) (eBin Jp (eBin opIx (eVar 3) (eC (.int 6))) (eCB (on2 maxI) (Ja (eC (.int 1)) (Ja (eBin J9 (eVar 4) (eBin opIx (eLst (Ja (eC (.int 1)) (Ja (eC (.int 2)) (Ja (eC (.int 4)) (Ja (eC (.int 9)) aNil))))) (eBin Jp (eBin opIx (eVar 3) (eC (.int 7))) (eC (.int 4))))) aNil)))))) (Jgd k)
noncomputable def Jgb (k:Nat):S1:=sSeq (sSet 6 (eBin opIx (eLst (Ja (eC (.int 0)) (Ja (eC (.int 0)) (Ja (eBin Jp (eBin opIx (eVar 3) (eC (.int 4))) (eBin Jm (eC (.int 1)) (eBin J9 (eVar 4) (eC (.int 3))))) (Ja (eBin Jp (eBin opIx (eVar 3) (eC (.int 4))) (eBin Jm (eC (.int 1)) (eBin J9 (eBin Jd5 (eC (.int 3)) (eVar 4)) (eC (.int 2))))) aNil))))) (eBin Jp (eBin opIx (eVar 3) (eC (.int 5))) (eC (.int 4))))) (Jgc k)
noncomputable def Jga (k:Nat):S1:=sSeq (sSet 5 (eBin Jkf (eVar 4) (eBin opIx (eLst (Ja (eC (.int 0)) (Ja (eBin Jp (eBin opIx (eVar 3) (eC (.int 2))) (eVar 4)) aNil))) (eBin Jp (eBin opIx (eVar 3) (eC (.int 3))) (eC (.int 2)))))) (Jgb k)
noncomputable def Jf9 (k:Nat):S1:=sSeq (sSet 4 (eBin Jm (eBin Jd5 (eVar 1) (eBin Jm (eC (.int 1)) (eBin Jp (eBin opIx (eVar 3) (eC (.int 0))) (eC (.int 7))))) (eBin Jp (eBin opIx (eVar 3) (eC (.int 1))) (eBin Jm (eC (.int 1)) (eBin J9 (eVar 1) (eC (.int 2))))))) (Jga k)
noncomputable def Jcc (k:Nat):S1:=sSeq (sSet 3 (Jl (Jai k) [] (Ja (eVar 0) (Ja (eC (.int 15)) aNil)))) (Jf9 k)
theorem Joz (k:Nat):Jb0 (k+1)=fnI 9 (Jcc k):=by kernel_rfl
theorem Jod (k:Nat) (x0 x1 x2:IV) (h:IH):Jb0 (k+1) [x0,x1,x2] h=(Jcc k [some x0,some x1,some x2,none,none,none,none,none,none] h).fin:=by rw[Joz];rfl
noncomputable def Je0 (k:Nat):E1:=(Jl (Jbo k) [] (Ja (eBin J9 (eVar 1) (eC (.int 5))) (Ja (eVar 0) aNil)))
noncomputable def Jg2 (k:Nat):S1:=(sSeq (sSet 8 (Jl (Jb0 k) [] (Ja (eBin Jm (Jl (Jr k) [] (Ja (eVar 0) (Ja (eBin Jm (eC (.int 2)) (eVar 7)) aNil))) (eBin Jd5 (eC (.int 7)) (eVar 7))) (Ja (eVar 3) (Ja (eVar 5) aNil))))) (Jg9 (eDot (pg k) "append" 1 (eVar 6) (Ja (eBin Jm (eTup (Ja (Jl (Jbo k) [] (Ja (eBin J9 (eVar 4) (eC (.int 7))) (Ja (eVar 7) aNil))) aNil)) (eVar 8)) aNil))))
noncomputable def Jil (k:Nat):S1:=(sRet (eVar 6))
noncomputable def Jik (k:Nat):S1:=sSeq (sFor (iRg Jc1 (Ja (eBin Jp (eVar 4) (eC (.int 6))) aNil)) (gNm 7) (Jg2 k)) (Jil k)
noncomputable def Jdk (k:Nat):S1:=sSeq (sSet 6 (eLst aNil)) (Jik k)
noncomputable def Jdj (k:Nat):S1:=sSeq (sIf (tOfB tru (eVar 1)) (sSet 5 (J0 (iRg Jc1 (Ja (eC (.int 3)) aNil)) 1 [4] (gNm 0) Jaa (Je0 k))) sNil) (Jdk k)
noncomputable def Jij (k:Nat):S1:=sSeq (sSet 5 (eLst aNil)) (Jdj k)
noncomputable def Jii (k:Nat):S1:=sSeq (sSet 4 (Jl (Jr k) [] (Ja (eVar 0) (Ja (eC (.int 1)) aNil)))) (Jij k)
noncomputable def Jih (k:Nat):S1:=sSeq (sSet 3 (eBin Jm (eC (.int 1)) (eBin Jp (eBin J9 (eVar 2) (eC (.int 4))) (eBin opIx (eLst (Ja (eC (.int 4)) (Ja (eBin Jg6 (eC (.int 10)) (eC (.int 15))) (Ja (eBin Jg6 (eC (.int 10)) (eC (.int 15))) (Ja (eBin Jg6 (eC (.int 10)) (eC (.int 40))) aNil))))) (eBin Jp (eVar 2) (eC (.int 4))))))) (Jii k)
noncomputable def Jdi (k:Nat):S1:=sSeq (sSet 2 (Jl (Jr k) [] (Ja (eVar 0) (Ja (eC (.int 0)) aNil)))) (Jih k)
theorem Jqm (k:Nat):Jeb (k+1)=fnI 9 (Jdi k):=by kernel_rfl
theorem Jp7 (k:Nat) (x0 x1:IV) (h:IH):Jeb (k+1) [x0,x1] h=(Jdi k [some x0,some x1,none,none,none,none,none,none,none] h).fin:=by rw[Jqm];rfl
noncomputable def Jgn (k:Nat):E1:=(eBin opIx (eVar 0) (eC (.int 1)))
noncomputable def Jix (k:Nat):S1:=(sSeq (sSet 6 (Jl (Jai k) [] (Ja (eVar 5) (Ja (eC (.int 6)) aNil)))) (sSeq (sSet 7 (eBin Jp (eBin opIx (eVar 6) (eC (.int 0))) (eCB (on1 lenI) (Ja (eVar 1) aNil)))) (sSeq (sAsg (eBin opIx (eVar 1) (eVar 7)) (gTp 6 (gC (gNm 8) (gC (gNm 9) (gC (gNm 10) (gC (gNm 11) (gC (gNm 12) (gC (gNm 13) gN)))))))) (sSeq (sSet 14 (eBin opIx (eLst (Ja (eVar 12) (Ja (eC (.int 0)) (Ja (eBin Jp (eBin opIx (eVar 6) (eC (.int 1))) (eBin Jm (eVar 12) (eC (.int 1)))) aNil)))) (eBin Jp (eBin opIx (eVar 6) (eC (.int 2))) (eC (.int 3))))) (sSeq (sSet 15 (eBin Jm (eBin Jkf (eVar 4) (eVar 14)) (eBin opIx (eLst (Ja (eC (.int 0)) (Ja (eBin Jp (eBin opIx (eVar 6) (eC (.int 3))) (eVar 9)) (Ja (eBin Jkf (eC (.int 0)) (eBin Jp (eBin opIx (eVar 6) (eC (.int 3))) (eVar 9))) aNil)))) (eBin Jp (eBin opIx (eVar 6) (eC (.int 4))) (eC (.int 3)))))) (sSeq (sIf (tOfB asB (eBin cInD (eVar 7) (eVar 3))) (sSet 15 (eBin Jm (eBin Jm (eBin Jqh (eVar 3) (eVar 7)) (eVar 9)) (eBin opIx (eLst (Ja (eC (.int 0)) (Ja (eBin Jp (eBin opIx (eVar 6) (eC (.int 3))) (eBin Jm (eC (.int 1)) (eVar 9))) aNil))) (eBin Jp (eBin opIx (eVar 6) (eC (.int 4))) (eC (.int 2)))))) sNil) (sSeq (sAsg (eVar 15) (gSbD (eVar 3) (eVar 7))) (Jg9 (eDot (pg k) "append" 1 (eVar 2) (Ja (eTup (Ja (eVar 7) (Ja (eVar 15) (Ja (eVar 14) (Ja (eBin opIx (eLst (Ja (eVar 10) (Ja (eVar 10) (Ja (eBin Jm (eC (.int 1)) (eBin Jp (eBin opIx (eVar 6) (eC (.int 5))) (eVar 10))) aNil)))) (eBin Jp (eBin J9 (eBin opIx (eVar 6) (eC (.int 4))) (eC (.int 6))) (eC (.int 3)))) aNil))))) aNil))))))))))
noncomputable def Jjx (k:Nat):S1:=(sRet (eVar 2))
noncomputable def Jjw (k:Nat):S1:=sSeq (sFor (iAny (eVar 0)) (gNm 5) (Jix k)) (Jjx k)
noncomputable def Jjv (k:Nat):S1:=sSeq (sSet 4 (eBin Jd5 (eC (.int 3)) (eCB (on1 Jsv) (Ja (J0 (iAny (eVar 1)) 1 [] (gNm 0) Jaa (Jgn k)) aNil)))) (Jjw k)
noncomputable def Jju (k:Nat):S1:=sSeq (sIf (tOfB asB (eBin cEq (eVar 1) (eLst aNil))) (sRet (eVar 2)) sNil) (Jjv k)
noncomputable def Jjt (k:Nat):S1:=sSeq (sSet 3 Juz) (Jju k)
noncomputable def Jfa (k:Nat):S1:=sSeq (sSet 2 (eLst aNil)) (Jjt k)
theorem Js5 (k:Nat):Jfm (k+1)=fnI 16 (Jfa k):=by kernel_rfl
theorem Jsd (k:Nat) (x0 x1:IV) (h:IH):Jfm (k+1) [x0,x1] h=(Jfa k [some x0,some x1,none,none,none,none,none,none,none,none,none,none,none,none,none,none] h).fin:=by rw[Js5];rfl
noncomputable def Jg1 (k:Nat):S1:=(sIf (Jtk (tOfB asB (eBin cGe (eBin Jm (eVar 6) (eVar 7)) (eVar 2))) (tOfB asB (eBin cLe (eBin Jm (eVar 6) (eBin opIx (eBin opIx (eVar 1) (eVar 5)) (eC (.int 3)))) (eVar 3)))) (Jg9 (eDot (pg k) "append" 1 (eVar 4) (Ja (eVar 8) aNil))) sNil)
noncomputable def Jig (k:Nat):S1:=(sRet (eAnd (eBin cNe (eVar 4) (eLst aNil)) (eBin cGt (eCB (on1 sumI) (Ja (eVar 4) aNil)) (eBin Jkf (eVar 3) (eVar 2))) tru))
noncomputable def Jif (k:Nat):S1:=sSeq (sFor (iAny (eVar 0)) (gTp 4 (gC (gNm 5) (gC (gNm 6) (gC (gNm 7) (gC (gNm 8) gN))))) (Jg1 k)) (Jig k)
noncomputable def Jdh (k:Nat):S1:=sSeq (sSet 4 (eLst aNil)) (Jif k)
theorem Jql (k:Nat):Jbn (k+1)=fnI 9 (Jdh k):=by kernel_rfl
theorem Jp6 (k:Nat) (x0 x1 x2 x3:IV) (h:IH):Jbn (k+1) [x0,x1,x2,x3] h=(Jdh k [some x0,some x1,some x2,some x3,none,none,none,none,none] h).fin:=by rw[Jql];rfl
noncomputable def Jiv (k:Nat):S1:=(sIf (tOfB tru (Jl (Jbn k) [] (Ja (eVar 0) (Ja (eVar 1) (Ja (eBin Jm (eBin opIx (eVar 2) (eC (.int 1))) (eBin opIx (eVar 2) (eC (.int 2)))) (Ja (eBin Jm (eBin opIx (eVar 3) (eC (.int 1))) (eBin opIx (eBin opIx (eVar 1) (eBin opIx (eVar 3) (eC (.int 0)))) (eC (.int 3)))) aNil)))))) (sRet (eC (.bl true))) sNil)
noncomputable def Jiw (k:Nat):S1:=(sFor (iAny (eVar 0)) (gNm 3) (Jiv k))
noncomputable def Jjs (k:Nat):S1:=(sRet (eC (.bl false)))
noncomputable def Je9 (k:Nat):S1:=sSeq (sFor (iAny (eVar 0)) (gNm 2) (Jiw k)) (Jjs k)
theorem Js4 (k:Nat):Jfl (k+1)=fnI 4 (Je9 k):=by kernel_rfl
theorem Jsc (k:Nat) (x0 x1:IV) (h:IH):Jfl (k+1) [x0,x1] h=(Je9 k [some x0,some x1,none,none] h).fin:=by rw[Js4];rfl
noncomputable def Jdp (k:Nat):E1:=(Jn4 "Work" (Jaz k) [] (Ja (eBin opIx (eVar 0) (eC (.int 0))) (Ja (eBin opIx (eVar 0) (eC (.int 1))) (Ja (eBin opIx (eVar 0) (eC (.int 2))) (Ja (eBin opIx (eVar 0) (eC (.int 3))) (Ja (eBin opIx (eVar 0) (eC (.int 4))) (Ja (eCB (on1 Jon) (Ja (eBin opIx (eVar 0) (eC (.int 5))) aNil)) aNil)))))))
noncomputable def Jre (k:Nat):S1:=(sIf (tOrI (Jal (tOfB tru (eIsi Jer (eVar 6)))) (tOfB tru (eIsi Jbi (eVar 6)))) (sRet (eC (.bl false))) sNil)
noncomputable def Jq3 (k:Nat):S1:=(sRet (Jl (Jbn k) [] (Ja (eVar 2) (Ja (eVar 1) (Ja (eBin opIx (eVar 5) (eC (.int 0))) (Ja (eBin opIx (eVar 5) (eC (.int 1))) aNil))))))
noncomputable def Jq2 (k:Nat):S1:=sSeq (sFor (iAny (eVar 5)) (gNm 6) (Jre k)) (Jq3 k)
noncomputable def Jul (k:Nat):S1:=sSeq (sIf (tOrI (Jal (tOfB tru (eIsi Jda (eVar 5)))) (tOfB asB (eBin cNe (eCB (on1 lenI) (Ja (eVar 5) aNil)) (eC (.int 2))))) (sRet (eC (.bl false))) sNil) (Jq2 k)
noncomputable def Jmq (k:Nat):S1:=sSeq (sIf (tOfB asB (eBin cIs (eVar 5) (eC .non))) (sRet (eUn (Jqi tru) (Jl (Jfl k) [] (Ja (eVar 2) (Ja (eVar 1) aNil))))) sNil) (Jul k)
noncomputable def Juk (k:Nat):S1:=sSeq (sIf (tOfB asB (eBin cNe (eBin cIs (Jl (Jbq k) [] (Ja (eVar 3) (Ja (eVar 2) aNil))) (eC .non)) (eBin cIs (eVar 5) (eC .non)))) (sRet (eC (.bl false))) sNil) (Jmq k)
noncomputable def Juj (k:Nat):S1:=sSeq (Jg9 (eDot (pg k) "clear" 0 (eVar 4) aNil)) (Juk k)
noncomputable def Jui (k:Nat):S1:=sSeq (sIf (tOfB asB (eBin cNe (eVar 4) (eVar 2))) (sRet (eC (.bl false))) sNil) (Juj k)
noncomputable def Juh (k:Nat):S1:=sSeq (sSet 5 (Jl (Jbq k) [] (Ja (eVar 3) (Ja (eVar 4) aNil)))) (Jui k)
noncomputable def Jug (k:Nat):S1:=sSeq (sSet 4 (eCB (on1 Jon) (Ja (eVar 2) aNil))) (Juh k)
noncomputable def Juf (k:Nat):S1:=sSeq (sSet 3 (Jn4 "Duty" (Jay k) [] (Ja (J0 (iAny (eVar 1)) 1 [] (gNm 0) Jaa (Jdp k)) aNil))) (Jug k)
noncomputable def Jue (k:Nat):S1:=sSeq (sSet 2 (Jl (Jfm k) [] (Ja (eSl slI (eVar 0) (Ji4 (eC (.int 8))) (Ji4 (eC (.int 22)))) (Ja (eVar 1) aNil)))) (Juf k)
noncomputable def Jpt (k:Nat):S1:=sSeq (sSet 1 (Jl (Jeb k) [] (Ja (eVar 0) (Ja (eBin cEq (eBin Jp (Jl (Jr k) [] (Ja (eVar 0) (Ja (eC (.int 7)) aNil))) (eC (.int 2))) (eC (.int 0))) aNil)))) (Jue k)
theorem J4h (k:Nat):Jpr (k+1)=fnI 7 (Jpt k):=by kernel_rfl
theorem J26 (k:Nat) (x0:IV) (h:IH):Jpr (k+1) [x0] h=(Jpt k [some x0,none,none,none,none,none,none] h).fin:=by rw[J4h];rfl
theorem Jn2 (k:Nat):Jr6 (pg k) "size" 0 "Duty"=some (Jbw k,[]):=by kernel_rfl
theorem Jdz (k:Nat):Jr6 (pg k) "work" 1 "Duty"=some (Jbx k,[]):=by kernel_rfl
end LW
section
open PySem L2 L3 L4
local macro_rules | `(tactic| simp! [$xs,*]) => `(tactic| simp (implicitDefEqProofs := false) only [Jmh, Ji1, Jia, Jmi, Jt2, Jic, Jib, Jfi, Jmd, Jmf, Jh9, Jmg, Jme, Jcz, Jd, Ji8, J2i, Jp1, Jr7, Jlr, Jt1, Jlp, Jty, Jtt, Jh5, Jmb, Jh6, Jh7, Jcy, Jhu, Jem, Jmc, Jl1, Jhv, Jh2, Jtp, Jl7, Jlw, Jeo, Jep, Jtz, Jlu, Jlo, Jma, Jl4, Jl3, Jhx, Jl2, Jl8, Jht, Jtv, Jtu, Jts, Jtr, Jtq, Jtw, Jls, Jl5, Jlq, Jh8, Jl6, Jlt, Jtx, Jhy, Jlv, Jh3, Jh4, Jlx, Jlz, Jly, Jl9, Jen, List.set_cons_succ, List.set_cons_zero, List.append_nil, List.cons_append, List.nil_append, exists_eq_left, exists_eq_left', IV.bl.injEq, IV.int.injEq, IV.ref.injEq, IV.str.injEq, IO.lst.injEq, IV.tup.injEq, Option.some.injEq, Bool.not_true, Bool.not_false, reduceCtorEq, eq_self, true_implies, false_implies, implies_true, and_true, true_and, and_false, false_and, Option.bind_some, Bool.true_eq_false, Bool.false_eq_true, Jll, Jhr, Jlm, Jtn, Jlj, Jlk, Jer, Jbi, Jfo, Ja1, Jat, Jda, Jkp, Jl0, Je4, Je5, Jhg, Jkq, Jps, Jh1, Jhz, Jh0, $xs,*])
local macro_rules | `(tactic| simp_all! [$xs,*]) => `(tactic| try simp (implicitDefEqProofs := false) only [Jmh, Ji1, Jia, Jmi, Jt2, Jic, Jib, Jfi, Jmd, Jmf, Jh9, Jmg, Jme, Jcz, Jd, Ji8, J2i, Jp1, Jr7, Jlr, Jt1, Jlp, Jty, Jtt, Jh5, Jmb, Jh6, Jh7, Jcy, Jhu, Jem, Jmc, Jl1, Jhv, Jh2, Jtp, Jl7, Jlw, Jeo, Jep, Jtz, Jlu, Jlo, Jma, Jl4, Jl3, Jhx, Jl2, Jl8, Jht, Jtv, Jtu, Jts, Jtr, Jtq, Jtw, Jls, Jl5, Jlq, Jh8, Jl6, Jlt, Jtx, Jhy, Jlv, Jh3, Jh4, Jlx, Jlz, Jly, Jl9, Jen, List.set_cons_succ, List.set_cons_zero, List.append_nil, List.cons_append, List.nil_append, exists_eq_left, exists_eq_left', IV.bl.injEq, IV.int.injEq, IV.ref.injEq, IV.str.injEq, IO.lst.injEq, IV.tup.injEq, Option.some.injEq, Bool.not_true, Bool.not_false, reduceCtorEq, eq_self, true_implies, false_implies, implies_true, and_true, true_and, and_false, false_and, Option.bind_some, Bool.true_eq_false, Bool.false_eq_true, Jll, Jhr, Jlm, Jtn, Jlj, Jlk, Jer, Jbi, Jfo, Ja1, Jat, Jda, Jkp, Jl0, Je4, Je5, Jhg, Jkq, Jps, Jh1, Jhz, Jh0, $xs,*])
local macro_rules | `(tactic| dsimp! [$xs,*]) => `(tactic| simp (implicitDefEqProofs := false) only [Jmh, Ji1, Jia, Jmi, Jt2, Jic, Jib, Jfi, Jmd, Jmf, Jh9, Jmg, Jme, Jcz, Jd, Ji8, J2i, Jp1, Jr7, Jlr, Jt1, Jlp, Jty, Jtt, Jh5, Jmb, Jh6, Jh7, Jcy, Jhu, Jem, Jmc, Jl1, Jhv, Jh2, Jtp, Jl7, Jlw, Jeo, Jep, Jtz, Jlu, Jlo, Jma, Jl4, Jl3, Jhx, Jl2, Jl8, Jht, Jtv, Jtu, Jts, Jtr, Jtq, Jtw, Jls, Jl5, Jlq, Jh8, Jl6, Jlt, Jtx, Jhy, Jlv, Jh3, Jh4, Jlx, Jlz, Jly, Jl9, Jen, List.set_cons_succ, List.set_cons_zero, List.append_nil, List.cons_append, List.nil_append, $xs,*])
namespace LW
open PySem L2 L3 L4
section
variable {k:Nat}{h:IH}
theorem Jc:1000000<sizeLine:=by decide
theorem Jnd (o o':IO):List.set (h++[o]) h.length o'=h++[o']:=by
 rw[List.set_append_right _ _ (Nat.le_refl _),Nat.sub_self];rfl
theorem Jne (o o':IO) (g:IH):List.set (h++o::g) h.length o'=h++o'::g:=by
 rw[List.set_append_right _ _ (Nat.le_refl _),Nat.sub_self];rfl
theorem Jmt (ns:List Int) (n:Int) (hn:0<=n):Jr (k+1) [.rol (ns.map .int),.int n] h=.ok (.int (ns.getD n.toNat 0)) h:=by
 refine Jho ?_
 rw[Jku]
 simp! [Ja5,Jdg,List.length_map,decide_eq_true_eq,decide_eq_false_iff_not]
 refine⟨λ hl=>⟨.int (ns.getD n.toNat 0),Jud hn ?_,rfl⟩,λ hl=>?_⟩
 ·rw[List.getElem?_map,List.getD_eq_getElem?_getD,List.getElem?_eq_getElem (show n.toNat<ns.length by omega)]
  rfl
 ·rw[List.getD_eq_getElem?_getD,List.getElem?_eq_none (by omega)]
  rfl
theorem Jit (i:Int):Jbm (k+1) [.int i] h=.ok (.bl true) h:=by rw[Jp5];rfl
theorem Jhs (i j:Int):Jj (k+2) [.int i,.int j] h=.ok (.bl (decide (j<=i))) h:=by
 refine Jho ?_
 rw[Ji3]
 simp! [Jad,Jit]
noncomputable def IsNm (x:Str):Prop:=1<=x.length/\x.length<=8/\∀c∈x.cps.toList,97<=c/\c<=122
theorem a_cps:(Str.ofString "a").cps.toList=[97]:=by decide +kernel
theorem z_cps:(Str.ofString "z").cps.toList=[122]:=by decide +kernel
theorem J1z {c:Nat}(hc:97<=c/\c<=122):Jci k [some (.str ⟨#[c]⟩)] h=.ok (.bl true) h:=by
 refine Jho ?_
 have h1:¬([c]<[97]):=λ q=>by
  cases q with
  | rel q=>omega
  | cons q=>cases q
 have h2:¬([122]<[c]):=λ q=>by
  cases q with
  | rel q=>omega
  | cons q=>cases q
 simp only[Jci,Jcy,J2i,Jp1,Ji8,J49,a_cps,z_cps,h1,h2,decide_false,exists_eq_left,exists_eq_left',IV.bl.injEq,IV.int.injEq,IV.ref.injEq,IV.str.injEq,IO.lst.injEq,IV.tup.injEq,Option.some.injEq,Bool.not_true,Bool.not_false,reduceCtorEq,eq_self,true_implies,false_implies,implies_true,and_true,true_and,and_false,false_and,Option.bind_some,Bool.true_eq_false,Bool.false_eq_true,Jll,Jhr,Jlm,Jtn,Jlj,Jlk,Jer,Jbi,Jfo,Ja1,Jat,Jda,Jkp,Jl0,Je4,Je5,Jhg,Jkq,Jps,Jh1,Jhz,Jh0]
theorem Jld {x:Str}(hx:IsNm x):WR (Jc8 (k+1) [.str x] h) λ v h'=>v=.bl true/\Ex h h':=by
 obtain⟨h1,h2,h3⟩:=hx
 have hb:=Jc
 have hz:x.length<=sizeLine:=by omega
 have a1:(1:Int)<=x.length:=by omega
 have a2:(x.length:Int)<=8:=by omega
 rw[Jsb]
 simp! [Je8,Jjr,hz,a1,a2,decide_true]
 refine WR.mono (Jy (xs:=Jk2 x) (chk:=λ _=>True) (f:=λ _=>.bl true) (h:=h) ?_ ?_ (λ _ _=>trivial) ?_) ?_
 ·exact⟨rfl,rfl,rfl⟩
 ·have:(Jk2 x).length=x.length:=by simp[Jk2,Str.length]
  omega
 ·intro v hv h2 _
  obtain⟨c,hc,rfl⟩:=List.mem_map.mp hv
  exact WR.of_eq (J1z (h3 c hc)) ⟨rfl,.refl _⟩
 ·rintro v h' ⟨rfl,g,rfl⟩
  refine WR.of_eq (all_map (f:=λ _=>true) Jq) ⟨?_,.cons ..⟩
  simp
noncomputable abbrev Hd:=Str×Int×Int
noncomputable def tupH (a:Hd):IV:=.tup [.str a.1,.int a.2.1,.int a.2.2]
noncomputable def HdOk (len:Int) (a:Hd):Prop:=IsNm a.1/\0<=a.2.1/\a.2.1<a.2.2/\a.2.2<len
noncomputable def Tog (a b:Hd):Prop:=a.2.2<=b.2.1∨b.2.2<=a.2.1∨(a.1≠b.1/\((b.2.1<=a.2.1/\a.2.2<=b.2.2)∨(a.2.1<=b.2.1/\b.2.2<=a.2.2)))
theorem Jsk {a:Hd}{len:Int}(ha:HdOk len a):WR (Jfk (k+3) [tupH a,.int len] h) λ v h'=>v=.bl true/\Ex h h':=by
 obtain⟨h1,h2,h3,h4⟩:=ha
 rw[Jsa]
 have h5:a.2.1+1<=a.2.2:=by omega
 simp! [Je7,Jjp,Jjq,tupH,List.length_cons,List.length_nil,Jhs]
 refine⟨λ q=>absurd q (by decide),λ _=>WR.mono (Jld h1) ?_⟩
 rintro v h' ⟨rfl,x⟩
 simp! [decide_eq_true h2,decide_eq_true h4,decide_eq_true h5]
 exact x
theorem Jom (a b:Hd):Jb1 (k+1) [tupH a,tupH b] h=.ok (.bl (decide (a.2.2<=b.2.1)||decide (b.2.2<=a.2.1))) h:=by
 refine Jho ?_
 rw[Joe]
 simp! [Jce,tupH]
 cases decide (a.2.2<=b.2.1)<;>simp
theorem Jsq (a b:Hd):Jc9 (k+1) [tupH a,tupH b] h=.ok (.bl (decide (b.2.1<=a.2.1)&&decide (a.2.2<=b.2.2))) h:=by
 refine Jho ?_
 rw[Jse]
 simp! [Jfb,tupH]
 cases decide (b.2.1<=a.2.1)<;>simp
theorem Jkv {a b:Hd}(t:Tog a b):Jar (k+2) [tupH a,tupH b] h=.ok (.bl true) h:=by
 refine Jho ?_
 rw[Jkt]
 have ix:∀a:Hd,WR (opIx (tupH a) (.int 0) h)=λ P=>P (.str a.1) h:=λ a=>by
  funext P
  simp only[tupH,Jkp,exists_eq_left,exists_eq_left',IV.bl.injEq,IV.int.injEq,IV.ref.injEq,IV.str.injEq,IO.lst.injEq,IV.tup.injEq,Option.some.injEq,Bool.not_true,Bool.not_false,reduceCtorEq,eq_self,true_implies,false_implies,implies_true,and_true,true_and,and_false,false_and,Option.bind_some,Bool.true_eq_false,Bool.false_eq_true,Jll,Jhr,Jlm,Jtn,Jlj,Jlk,Jer,Jbi,Jfo,Ja1,Jat,Jda,Jkp,Jl0,Je4,Je5,Jhg,Jkq,Jps,Jh1,Jhz,Jh0]
 simp! [Ja4,Jde,Jdf,Jom,Jsq,ix]
 unfold Tog at t
 simp only[Bool.or_eq_true,Bool.or_eq_false_iff,Bool.and_eq_true,Bool.and_eq_false_iff,decide_eq_true_eq,decide_eq_false_iff_not]
 grind
theorem Jqz {hs:List Hd}{i:Nat}(hi:h[i]?=some (.lst (hs.map tupH))) (hl:hs.length<=6) (ht:∀m n (hm:m<n) (hn:n<hs.length),Tog hs[n] hs[m]) :
  WR (J2 (k+3) [.ref i] h) λ v h'=>v=.bl true/\Ex h h':=by
 have hb:=Jc
 rw[Jg0]
 simp! [J6,Ja2,Jwy,hi]
 refine Jam (λ n σ h'=>(∃a b,σ=[some (.ref i),a,b])/\Ex h h') (λ n σ h' ⟨_,x⟩=>x.get hi) ?_ ?_ ⟨⟨_,_,rfl⟩,.refl h⟩
 ·rintro n hn _ h' ⟨⟨a,b,rfl⟩,x⟩
  have hn':n<hs.length:=by rw[Jbr,List.length_map] at hn;exact hn
  rw[Ju4]
  simp! [List.getElem_map,Jr4,Jy5,Jy6,List.length_cons,List.length_nil,Jao]
  have hi':=x.get hi
  refine WR.mono (Jy (xs:=(hs.map tupH).take n) (chk:=λ h2=>h2[h'.length]?=some (.lst ((hs.map tupH).take n))) (f:=λ _=>.bl true) (h:=h'++[.lst ((hs.map tupH).take n)]) ?_ ?_ ?_ ?_) ?_
  ·simp! [Jr3,hi',Jap,Jq8,grown]
  ·simp only[List.length_take,List.length_map];omega
  ·exact λ h2 q=>q _ _ grown
  ·intro v hv h2 q
   obtain⟨j,hj,rfl⟩:=List.mem_iff_getElem.mp hv
   have hj':j<n:=by simp at hj;omega
   simp! [List.getElem_take,List.getElem_map,Jaj,List.map_cons,List.map_nil,List.getElem?_cons_succ,List.getElem?_cons_zero,Option.join_some]
   exact WR.of_eq (Jkv (ht j n hj' hn')) ⟨rfl,.refl _⟩
  ·rintro v h3 ⟨rfl,g,rfl⟩
   refine WR.of_eq (all_map (f:=λ _=>true) Jq) ?_
   have:(((hs.map tupH).take n).all λ _=>true)=true:=by simp
   simp! [this]
   exact⟨⟨_,_,rfl⟩,x.trans ((Ex.one _ _).trans (.cons ..))⟩
 ·rintro _ h' ⟨⟨a,b,rfl⟩,x⟩
  exact x
structure HsOk (len:Int) (hs:List Hd):Prop where
 few:hs.length<=6
 each:∀a∈hs,HdOk len a
 tog:∀m n (hm:m<n) (hn:n<hs.length),Tog hs[n] hs[m]
theorem Jor {hs:List Hd}{i:Nat}{len:Int}(hi:h[i]?=some (.lst (hs.map tupH))) (ok:HsOk len hs) :
  WR (Jac (k+4) [.ref i,.int len] h) λ v h'=>v=.tup (hs.map tupH)/\Ex h h':=by
 have hb:=Jc
 have hl:=ok.few
 have h6:¬(6:Int)<(hs.length:Int):=by omega
 rw[Jof]
 simp! [Jcf,Jgf,Jgg,Jgh,Jwz,isI,Jzz hi,Jno,hi,List.length_map,h6,decide_false]
 refine WR.mono (Jy (xs:=hs.map tupH) (chk:=λ h2=>h2[i]?=some (.lst (hs.map tupH))) (f:=λ _=>.bl true) (h:=h) ?_ ?_ ?_ ?_) ?_
 ·simp! [Jap,hi]
 ·simp only[List.length_map];omega
 ·exact λ h2 q=>q _ _ hi
 ·intro v hv h2 q
  obtain⟨a,ha,rfl⟩:=List.mem_map.mp hv
  simp! [Jdt,List.map_cons,List.map_nil,List.getElem?_cons_succ,List.getElem?_cons_zero,Option.join_some]
  exact Jsk (ok.each a ha)
 ·rintro v h1 ⟨rfl,g,rfl⟩
  refine WR.of_eq (all_map (f:=λ _=>true) Jq) ?_
  have:((hs.map tupH).all λ _=>true)=true:=by simp
  simp! [this,Jgi,Jgj]
  have x1:Ex h (h++IO.lst (List.map (λ x=>IV.bl true) (hs.map tupH))::g):=.cons ..
  refine WR.mono (Jqz (x1.get hi) hl ok.tog) ?_
  rintro v h2 ⟨rfl,x2⟩
  simp! [true_and]
  have hi2:=x2.get (x1.get hi)
  refine WR.mono (Jy (xs:=hs.map tupH) (chk:=λ h3=>h3[i]?=some (.lst (hs.map tupH))) (f:=λ x=>x) (h:=h2) ?_ ?_ ?_ ?_) ?_
  ·simp! [Jap,hi2]
  ·simp only[List.length_map];omega
  ·exact λ h2 q=>q _ _ hi2
  ·intro v hv h3 q
   obtain⟨a,ha,rfl⟩:=List.mem_map.mp hv
   simp! [Jdu,tupH,List.length_cons,List.length_nil]
   exact⟨by omega,.refl _⟩
  ·rintro v h3 ⟨rfl,g3,rfl⟩
   simp only[Jw4,Jq,exists_eq_left,exists_eq_left',IV.bl.injEq,IV.int.injEq,IV.ref.injEq,IV.str.injEq,IO.lst.injEq,IV.tup.injEq,Option.some.injEq,Bool.not_true,Bool.not_false,reduceCtorEq,eq_self,true_implies,false_implies,implies_true,and_true,true_and,and_false,false_and,Option.bind_some,Bool.true_eq_false,Bool.false_eq_true,Jll,Jhr,Jlm,Jtn,Jlj,Jlk,Jer,Jbi,Jfo,Ja1,Jat,Jda,Jkp,Jl0,Je4,Je5,Jhg,Jkq,Jps,Jh1,Jhz,Jh0,List.map_id']
   exact x1.trans (x2.trans (.cons ..))
theorem Js0 {due gap:Int}(h1:1<=due) (h2:due<=gap):Jbp (k+3) [.int due,.int gap] h=.ok (.int due) h:=by
 refine Jho ?_
 rw[Jsf]
 have:¬gap<due:=by omega
 simp! [Jfc,Jjy,Jjz,Jwz,isI,Jhs,decide_eq_true h1,decide_eq_false this]
noncomputable def wfs (name:Str) (gap len due late:Int) (hs:List IV):List (Str×IV):=[("name",.str name),("gap",.int gap),("length",.int len),("due",.int due),("late",.int late),("hold_tuples",.tup hs)]
section
variable (a b c d e f:IV)
theorem put0:putI "name" a ([]:List (Str×IV))=([("name",a)]:List (Str×IV)):=by kernel_rfl
theorem put1:putI "gap" b ([("name",a)]:List (Str×IV))=([("name",a),("gap",b)]:List (Str×IV)):=by kernel_rfl
theorem put2:putI "length" c ([("name",a),("gap",b)]:List (Str×IV))=([("name",a),("gap",b),("length",c)]:List (Str×IV)):=by kernel_rfl
theorem put3:putI "due" d ([("name",a),("gap",b),("length",c)]:List (Str×IV))=([("name",a),("gap",b),("length",c),("due",d)]:List (Str×IV)):=by kernel_rfl
theorem put4:putI "late" e ([("name",a),("gap",b),("length",c),("due",d)]:List (Str×IV))=([("name",a),("gap",b),("length",c),("due",d),("late",e)]:List (Str×IV)):=by kernel_rfl
theorem put5:putI "hold_tuples" f ([("name",a),("gap",b),("length",c),("due",d),("late",e)]:List (Str×IV))=([("name",a),("gap",b),("length",c),("due",d),("late",e),("hold_tuples",f)]:List (Str×IV)):=by kernel_rfl
variable {name:Str}{gap len due late:Int}{hs:List IV}
theorem fl0:(wfs name gap len due late hs).lookup ("name":Str)=some (.str name):=by kernel_rfl
theorem fl1:(wfs name gap len due late hs).lookup ("gap":Str)=some (.int gap):=by kernel_rfl
theorem fl2:(wfs name gap len due late hs).lookup ("length":Str)=some (.int len):=by kernel_rfl
theorem fl3:(wfs name gap len due late hs).lookup ("due":Str)=some (.int due):=by kernel_rfl
theorem fl4:(wfs name gap len due late hs).lookup ("late":Str)=some (.int late):=by kernel_rfl
end
theorem Jwu {name:Str}{gap len due late:Int}{dv hv:IV}{hs:List IV}{w:Nat}(hw:h[w]?=some (.ins "Work" [])) (hn:IsNm name) (hg:1<=gap) (hl:1<=len) (ht:0<=late)
  (hd:∀h1,Jbp (k+4) [dv,.int gap] h1=.ok (.int due) h1) (hh:∀h1:IH,(∀(j:Nat) (o:IO),j≠w->h[j]?=some o->h1[j]?=some o)->WR (Jac (k+4) [hv,.int len] h1) λ v h2=>v=.tup hs/\Ex h1 h2) :
  WR (Jaz (k+5) [.ref w,.str name,.int gap,.int len,dv,.int late,hv] h) λ v h'=>v=.non/\∃g,h'=h.set w (.ins "Work" (wfs name gap len due late hs))++g:=by
 rw[Joa]
 simp! [Jb7]
 refine WR.mono (Jld hn) ?_
 rintro v h1 ⟨rfl,g1,rfl⟩
 have lw:=Jcv hw
 have s1:∀{o:IO},(h++g1).set w o=h.set w o++g1:=by intro o;rw[List.set_append_left (h:=lw)]
 have at1:∀{o:IO},(h.set w o++g1)[w]?=some o:=by
  intro o
  rw[List.getElem?_append_left (by rw[List.length_set];exact lw),List.getElem?_set_self lw]
 have s2:∀{o o':IO},(h.set w o++g1).set w o'=h.set w o'++g1:=by intro o o';rw[List.set_append_left (h:=by rw[List.length_set];exact lw),List.set_set]
 simp! [Jft,Jfu,Jfv,Jfw,Jfx,Jfy,Jfz,Jf0,Jhs,decide_eq_true hg,decide_eq_true hl,decide_eq_true ht,Jq0,IO.ins.injEq,grow hw]
 refine⟨w,_,_,rfl,grow hw,by decide,?_⟩
 rw[s1,put0]
 refine⟨w,_,_,rfl,at1,by show(1:Nat)<1000;decide,?_⟩
 rw[s2,put1]
 refine⟨w,_,_,rfl,at1,by show(2:Nat)<1000;decide,?_⟩
 rw[s2,put2,hd]
 refine⟨w,_,_,rfl,at1,by show(3:Nat)<1000;decide,?_⟩
 rw[s2,put3]
 refine⟨w,_,_,rfl,at1,by show(4:Nat)<1000;decide,?_⟩
 rw[s2,put4]
 simp! [Jf1,Jq0]
 refine WR.mono (hh _ λ j o hj e=>?_) ?_
 ·refine grow ?_
  rw[List.getElem?_set_ne (Ne.symm hj)]
  exact e
 ·rintro v h2 ⟨rfl,g2,rfl⟩
  refine⟨w,_,_,rfl,grow at1,by show(5:Nat)<1000;decide,g1++g2,?_⟩
  rw[List.set_append_left (h:=Jcv at1),s2,put5,List.append_assoc]
  rfl
theorem J08 {name:Str}{gap len due late:Int}{dv hv:IV}{hs:List IV}(hn:IsNm name) (hg:1<=gap) (hl:1<=len) (ht:0<=late)
  (hd:∀h1,Jbp (k+4) [dv,.int gap] h1=.ok (.int due) h1) (hh:∀h1:IH,(∀(j:Nat) (o:IO),h[j]?=some o->h1[j]?=some o)->WR (Jac (k+4) [hv,.int len] h1) λ v h2=>v=.tup hs/\Ex h1 h2) :
  WR (Jaz (k+5) [.ref h.length,.str name,.int gap,.int len,dv,.int late,hv] (h++[.ins "Work" []])) λ v h'=>v=.non/\∃g,h'=h++.ins "Work" (wfs name gap len due late hs)::g:=by
 refine WR.mono (Jwu grown hn hg hl ht hd λ h1 q=>hh h1 λ j o e=>q j o (by have:=Jcv e;omega) (grow e)) ?_
 rintro v h' ⟨rfl,g,rfl⟩
 exact⟨rfl,g,by rw[Jnd];simp⟩
end
structure WD where
 name:Str
 gap:Int
 len:Int
 due:Int
 late:Int
noncomputable def IsW (h:IH) (v:IV) (d:WD):Prop:=∃i hs,v=.ref i/\h[i]?=some (.ins "Work" (wfs d.name d.gap d.len d.due d.late hs))
theorem IsW.kp {h h':IH}{v:IV}{d:WD}(k:Kp h h') (w:IsW h v d):IsW h' v d:=by
 obtain⟨i,hs,e,q⟩:=w
 exact⟨i,hs,e,k _ _ q⟩
structure AllW (h:IH) (vs:List IV) (ds:List WD):Prop where
 len:vs.length=ds.length
 at_:∀(i:Nat) v d,vs[i]?=some v->ds[i]?=some d->IsW h v d
theorem AllW.kp {h h':IH}{vs:List IV}{ds:List WD}(k:Kp h h') (w:AllW h vs ds):AllW h' vs ds:=⟨w.len,λ i v d a b=>(w.at_ i v d a b).kp k⟩
theorem AllW.of {h:IH}{vs:List IV}{ds:List WD}(w:AllW h vs ds){v:IV}(hv:v∈vs):∃d∈ds,IsW h v d:=by
 obtain⟨i,hi,rfl⟩:=List.mem_iff_getElem.mp hv
 have hi':i<ds.length:=by rw[<- w.len];exact hi
 exact⟨ds[i],List.getElem_mem hi',w.at_ i _ _ (List.getElem?_eq_getElem hi) (List.getElem?_eq_getElem hi')⟩
noncomputable def fOf (f:Str) (h:IH) (v:IV):IV:=(Jn5 f v h).getD .non
theorem AllW.mapF {h:IH}{vs:List IV}{ds:List WD}(w:AllW h vs ds){F:IV->IV}{g:WD->IV}(hf:∀(i:Nat) (d:WD) hs,h[i]?=some (.ins "Work" (wfs d.name d.gap d.len d.due d.late hs))->F (.ref i)=g d):vs.map F=ds.map g:=by
 refine List.ext_getElem? λ i=>?_
 rw[List.getElem?_map,List.getElem?_map]
 by_cases hi:i<vs.length
 ·have hi':i<ds.length:=by rw[<- w.len];exact hi
  rw[List.getElem?_eq_getElem hi,List.getElem?_eq_getElem hi']
  obtain⟨j,hs,e,q⟩:=w.at_ i _ _ (List.getElem?_eq_getElem hi) (List.getElem?_eq_getElem hi')
  simp only[Option.map_some,Option.some.injEq]
  rw[e,hf j _ hs q]
 ·have hi':¬i<ds.length:=by rw[<- w.len];exact hi
  rw[List.getElem?_eq_none (by omega),List.getElem?_eq_none (by omega)]
  rfl
section
variable {k:Nat}{h:IH}
theorem Jya:Jy7 ["Work"] (.ins "Work")=some true:=by kernel_rfl
theorem Jos {vs:List IV}{ds:List WD}{i:Nat}(hi:h[i]?=some (.lst vs)) (w:AllW h vs ds) (nd:(ds.map (·.name)).Nodup) (hl:ds.length<=20) :
  WR (Jb2 (k+1) [.ref i] h) λ v h'=>v=.tup vs/\Ex h h':=by
 have hb:=Jc
 have wl:=w.len
 rw[Jog]
 simp! [Jcg,Jgk,Jzz hi]
 refine WR.mono (Jy (h:=h) (xs:=vs) (chk:=λ h'=>h'[i]?=some (.lst vs)) (f:=λ _=>.bl true) ?_ (by omega) (λ h2 q=>q _ _ hi) ?_) ?_
 ·simp! [Jap,hi]
 ·intro v hv h2 q
  obtain⟨d,_,j,hs,rfl,e⟩:=w.of hv
  have ty:tyI (.ref j) h2=some (.ins "Work"):=by simp[tyI,q _ _ e]
  simp! [Jdv,ty,Jya]
  exact .refl _
 ·rintro _ _ ⟨rfl,g,rfl⟩
  have x1:Ex h (h++L3.IO.lst (vs.map λ _=>.bl true)::g):=.cons _ _ _
  rw[all_map (f:=λ _=>true) Jq]
  generalize h++L3.IO.lst (vs.map λ _=>.bl true)::g=h1 at x1
  have at1:(vs.all λ _=>true)=true:=by simp
  simp! [at1,Jgl,Jw0]
  have w1:=w.kp x1.kp
  have nm:=w1.mapF (F:=fOf "name" h1) (g:=λ d=>.str d.name) λ j d hs e=>by rw[fOf,Jx e,fl0];rfl
  refine WR.mono (Jy (h:=h1) (xs:=vs) (chk:=λ h'=>h'[i]?=some (.lst vs)) (f:=fOf "name" h1) ?_ (by omega) (λ h2 q=>q _ _ (x1.get hi)) ?_) ?_
  ·simp! [Jap,x1.get hi]
  ·intro v hv h2 q
   obtain⟨d,_,j,hs,rfl,e⟩:=w1.of hv
   simp! [Jdw,Jx (q _ _ e),fl0,fOf,Jx e,Option.getD_some]
   exact .refl _
  ·rintro _ _ ⟨rfl,g2,rfl⟩
   rw[nm]
   have em:ds.map (λ d=>IV.str d.name)=(ds.map (·.name)).map IV.str:=by simp
   rw[em]
   have x2:Ex h1 (h1++L3.IO.lst ((ds.map (·.name)).map IV.str)::g2):=.cons _ _ _
   refine⟨_,rfl,_,Jq,ds.map (·.name),Jni _,by rw[List.length_map];unfold scanBound;omega,?_⟩
   rw[Jny nd _ (Nat.le_refl _)]
   simp! [Jno,x2.get (x1.get hi),List.length_map,wl,decide_true,Jgm,Jw4]
   exact x1.trans x2
noncomputable def rup (top bottom:Int):Int:=(top+bottom-1)/bottom
noncomputable def topD (ds:List WD):Int:=if ds.map (·.due)=[] then 0 else Ja8 (λ i=>(ds.map (·.due)).getD i 0) (ds.map (·.due)).length
noncomputable def Jq6 (ds:List WD):Int:=(ds.map λ d=>rup (topD ds+d.late) d.gap).sum
noncomputable def rOf (T:Int) (h:IH) (v:IV):IV:=match Jn5 "late" v h,Jn5 "gap" v h with
 | some (.int l),some (.int g)=>.int (rup (T+l) g)
 | _,_=>.non
theorem Jwb {a b:Int}(hb:0<b) (hl:b.natAbs.log2<9000):Jb3 (k+1) [.int a,.int b] h=.ok (.int (rup a b)) h:=by
 refine Jho ?_
 rw[Joh]
 simp! [Jch,hb,hl,rup]
theorem Jxd {vs:List IV}{ds:List WD}(w:AllW h vs ds) (hl:ds.length<=20) (hg:∀d∈ds,0<d.gap/\d.gap.natAbs.log2<9000) :
  WR (Jd9 (k+2) [.tup vs] h) λ v h'=>v=.int (Jq6 ds)/\Ex h h':=by
 have hb:=Jc
 have wl:=w.len
 rw[Jp4]
 simp! [Jdb,J2m]
 have dm:=w.mapF (F:=fOf "due" h) (g:=λ d=>.int d.due) λ j d hs e=>by rw[fOf,Jx e,fl3];rfl
 refine WR.mono (Jy (h:=h) (xs:=vs) (chk:=λ _=>True) (f:=fOf "due" h) ?_ (by omega) (λ _ _=>trivial) ?_) ?_
 ·simp! [true_and]
 ·intro v hv h2 q
  obtain⟨d,_,j,hs,rfl,e⟩:=w.of hv
  simp! [Jey,Jx (q _ _ e),fl3,fOf,Jx e,Option.getD_some]
  exact .refl _
 ·rintro _ _ ⟨rfl,g,rfl⟩
  rw[dm]
  have em:ds.map (λ d=>IV.int d.due)=(ds.map (·.due)).map IV.int:=by simp
  rw[em]
  have x1:Ex h (h++L3.IO.lst ((ds.map (·.due)).map IV.int)::g):=.cons _ _ _
  refine⟨_,rfl,_,Jq,_,Jcu _,?_⟩
  have et:maxD (ds.map (·.due)) (.int 0)=.int (topD ds):=by
   unfold maxD topD
   split<;>rfl
  rw[et]
  generalize h++L3.IO.lst ((ds.map (·.due)).map IV.int)::g=h1 at x1
  have w1:=w.kp x1.kp
  simp! [Jid]
  have rm:=w1.mapF (F:=rOf (topD ds) h1) (g:=λ d=>.int (rup (topD ds+d.late) d.gap)) λ j d hs e=>by rw[rOf,Jx e,Jx e,fl4,fl1]
  refine WR.mono (Jy (h:=h1) (xs:=vs) (chk:=λ _=>True) (f:=rOf (topD ds) h1) ?_ (by omega) (λ _ _=>trivial) ?_) ?_
  ·simp! [true_and]
  ·intro v hv h2 q
   obtain⟨d,hd,j,hs,rfl,e⟩:=w1.of hv
   have e2:=q _ _ e
   simp only[List.map_cons,List.map_nil,List.getElem?_cons_succ,List.getElem?_cons_zero,Option.join_some]
   simp! [Jez,Jx e2,fl4,fl1,Jwb (hg d hd).1 (hg d hd).2]
   exact⟨by rw[rOf,Jx e,Jx e,fl4,fl1],.refl _⟩
  ·rintro _ _ ⟨rfl,g2,rfl⟩
   rw[rm]
   have em2:ds.map (λ d=>IV.int (rup (topD ds+d.late) d.gap))=(ds.map λ d=>rup (topD ds+d.late) d.gap).map IV.int:=by simp
   rw[em2]
   simp! [Jw3,Jq,Jcu]
   exact⟨rfl,x1.trans (.cons _ _ _)⟩
noncomputable abbrev dfs (vs:List IV):List (Str×IV):=[("works",.tup vs)]
theorem dp0 {a:IV}:putI "works" a ([]:List (Str×IV))=([("works",a)]:List (Str×IV)):=by kernel_rfl
theorem dl0 {a:IV}:(([("works",a)]:List (Str×IV))).lookup ("works":Str)=some a:=by kernel_rfl
theorem dlw {a:IV}:(([("works",a)]:List (Str×IV))).lookup ("work":Str)=none:=by kernel_rfl
theorem Jux {vs:List IV}{ds:List WD}{i:Nat}(hi:h[i]?=some (.lst vs)) (w:AllW h vs ds) (nd:(ds.map (·.name)).Nodup) (hl:ds.length<=12) (hg:∀d∈ds,0<d.gap/\d.gap.natAbs.log2<9000) (hc:Jq6 ds<=80) :
  WR (Jay (k+3) [.ref h.length,.ref i] (h++[.ins "Duty" []])) λ v h'=>v=.non/\∃g,h'=h++.ins "Duty" (dfs vs)::g:=by
 have wl:=w.len
 rw[Jn7]
 simp! [Jb4,Jq0]
 refine WR.mono (Jos (grow hi) (w.kp (Ex.one h _).kp) nd (by omega)) ?_
 rintro _ _ ⟨rfl,g1,rfl⟩
 refine⟨_,_,_,rfl,grow grown,by decide,?_⟩
 rw[dp0,List.append_assoc,List.cons_append,List.nil_append,Jne]
 simp! [Jfr,Jx (Jq (h:=h)),dl0,wl]
 refine⟨λ q=>?_,λ _=>?_⟩
 ·rw[decide_eq_true_eq] at q
  omega
 simp! [Jfs,Jx (Jq (h:=h)),dl0]
 refine WR.mono (Jxd (w.kp (Ex.cons h _ _).kp) (by omega) hg) ?_
 rintro _ _ ⟨rfl,g2,rfl⟩
 simp! [true_and]
 refine⟨λ q=>?_,λ _=>⟨g1++g2,by simp⟩⟩
 rw[decide_eq_true_eq] at q
 omega
theorem Jj4 {vs:List IV}{D:Nat}{n:Int}{x:IV}(hD:h[D]?=some (.ins "Duty" (dfs vs))) (hx:atI vs n=some x):Jbx (k+1) [.ref D,.int n] h=.ok x h:=by
 refine Jho ?_
 rw[Jn9]
 simp! [Jb6,Jx hD,dl0,hx]
end
theorem J4k {a b m:Int}(hb:0<b) (h:a<=m*b):rup a b<=m:=by
 unfold rup
 have:(a+b-1)/b<m+1:=by
  rw[Int.ediv_lt_iff_lt_mul hb,Int.add_mul]
  omega
 omega
theorem Jzp (m:Int):∀l:List Int,(∀x∈l,x<=m)->l.sum<=l.length*m
 | [],_=>by simp
 | x::l,q=>by
  have:=Jzp m l λ y hy=>q y (List.mem_cons_of_mem _ hy)
  have:=q x (List.mem_cons_self ..)
  rw[List.sum_cons,List.length_cons,Int.natCast_add,Int.add_mul]
  simp
  omega
theorem Jm2 {a b K:Nat}(h:a<=b) (hb:b.log2<K):a.log2<K:=by
 by_cases ha:a=0
 ·subst ha
  exact Nat.lt_of_le_of_lt (Nat.zero_le _) hb
 ·have hb0:b≠0:=by omega
  rw[Nat.log2_lt ha]
  exact Nat.lt_of_le_of_lt h ((Nat.log2_lt hb0).mp hb)
noncomputable abbrev RH:=WD×List Hd
noncomputable def rd:RH:=⟨⟨⟨#[]⟩,0,0,0,0⟩,[]⟩
noncomputable abbrev wo (r:RH):IO:=.ins "Work" (wfs r.1.name r.1.gap r.1.len r.1.due r.1.late (r.2.map tupH))
structure AllH (h:IH) (vs:List IV) (rs:List RH):Prop where
 len:vs.length=rs.length
 at_:∀(i:Nat) v r,vs[i]?=some v->rs[i]?=some r->∃j,v=.ref j/\h[j]?=some (wo r)
theorem AllH.kp {h h':IH}{vs:List IV}{rs:List RH}(k:Kp h h') (w:AllH h vs rs):AllH h' vs rs:=⟨w.len,λ i v r a b=>let ⟨j,e,g⟩:=w.at_ i v r a b;⟨j,e,k _ _ g⟩⟩
theorem AllH.w {h:IH}{vs:List IV}{rs:List RH}(w:AllH h vs rs):AllW h vs (rs.map (·.1)):=by
 refine⟨by rw[List.length_map];exact w.len,λ i v d a b=>?_⟩
 rw[List.getElem?_map] at b
 cases er:rs[i]? with
 | none=>rw[er] at b;cases b
 | some r =>
  rw[er] at b
  cases b
  obtain⟨j,e,g⟩:=w.at_ i v r a er
  exact⟨j,_,e,g⟩
theorem AllH.get {h:IH}{vs:List IV}{rs:List RH}(w:AllH h vs rs){n:Nat}{r:RH}(e:rs[n]?=some r):∃j,vs[n]?=some (.ref j)/\h[j]?=some (wo r):=by
 have hn:n<vs.length:=by rw[w.len];exact(List.getElem?_eq_some_iff.mp e).1
 obtain⟨j,e1,g⟩:=w.at_ n _ r (List.getElem?_eq_getElem hn) e
 exact⟨j,by rw[List.getElem?_eq_getElem hn,e1],g⟩
structure F8 (unit:Int) (r:RH):Prop where
 nm:IsNm r.1.name
 g1:unit<=r.1.gap
 g2:r.1.gap<9*unit
 l1:1<=r.1.len
 d1:1<=r.1.due
 d2:r.1.due<=r.1.gap
 t1:0<=r.1.late
 t2:r.1.late<2*r.1.gap
 ok:HsOk r.1.len r.2
structure Gd (unit:Int) (rs:List RH):Prop where
 u1:1<=unit
 u2:unit<=10^40
 few:rs.length<=7
 f:∀r∈rs,F8 unit r
 nd:(rs.map λ r=>r.1.name).Nodup
theorem J2x {unit:Int}{rs:List RH}(G:Gd unit rs):Jq6 (rs.map (·.1))<=80:=by
 have hu:=G.u1
 have hf:=G.f
 have hl:=G.few
 have ht:topD (rs.map (·.1))<=9*unit:=by
  unfold topD
  split
  ·omega
  ·rename_i hne
   refine Jzu _ _ _ (by rw[List.length_map,List.length_map];cases rs with|nil=>exact absurd rfl hne|cons _ _=>simp) λ j hj=>?_
   rw[List.length_map,List.length_map] at hj
   have e:((rs.map (·.1)).map (·.due)).getD j 0=(rs[j]).1.due:=by
    rw[List.getD_eq_getElem?_getD,List.getElem?_map,List.getElem?_map,List.getElem?_eq_getElem hj];rfl
   have f:=hf _ (List.getElem_mem hj)
   have f1:=f.d2
   have f2:=f.g2
   show((rs.map (·.1)).map (·.due)).getD j 0<=_
   rw[e]
   omega
 have:=Jzp 11 ((rs.map (·.1)).map λ d=>rup (topD (rs.map (·.1))+d.late) d.gap) λ x hx=>by
  obtain⟨d,hd,rfl⟩:=List.mem_map.mp hx
  obtain⟨r,hr,rfl⟩:=List.mem_map.mp hd
  have f:=hf r hr
  have f1:=f.g1
  have f2:=f.t2
  exact J4k (by omega) (by omega)
 rw[List.length_map,List.length_map] at this
 unfold Jq6
 omega
theorem Gd.gl {unit:Int}{rs:List RH}(G:Gd unit rs):∀d∈rs.map (·.1),0<d.gap/\d.gap.natAbs.log2<9000:=λ d hd=>by
 obtain⟨r,hr,rfl⟩:=List.mem_map.mp hd
 have f:=G.f r hr
 have f1:=f.g1
 have f2:=f.g2
 have u1:=G.u1
 have u2:=G.u2
 refine⟨by omega,Jm2 (b:=9*10^40) ?_ (by decide +kernel)⟩
 have e:((10^40:Nat):Int)=10^40:=by decide +kernel
 clear G f
 generalize (10^40:Int)=y at *
 generalize (10^40:Nat)=z at *
 omega
noncomputable def IsDu (h:IH) (D:Nat) (rs:List RH):Prop:=∃vs,h[D]?=some (.ins "Duty" (dfs vs))/\AllH h vs rs
theorem IsDu.kp {h h':IH}{D:Nat}{rs:List RH}(k:Kp h h') (w:IsDu h D rs):IsDu h' D rs:=let ⟨vs,a,b⟩:=w;⟨vs,k _ _ a,b.kp k⟩
section
variable {k:Nat}{h:IH}
theorem duty8 {vs:List IV}{rs:List RH}{unit:Int}{i:Nat}(hi:h[i]?=some (.lst vs)) (w:AllH h vs rs) (G:Gd unit rs) :
  WR (Jay (k+3) [.ref h.length,.ref i] (h++[.ins "Duty" []])) λ v h'=>v=.non/\Ex h h'/\IsDu h' h.length rs:=by
 have hl:=G.few
 refine WR.mono (Jux hi w.w (by have:=G.nd;rwa [List.map_map]) (by rw[List.length_map];omega) G.gl (J2x G)) ?_
 rintro _ _ ⟨rfl,g,rfl⟩
 exact⟨rfl,.cons _ _ _,vs,Jq,w.kp (Ex.cons _ _ _).kp⟩
theorem Jpl (c:Int) (m:Nat) (hm:m<=40):WR (Jai (k+1) [.int c,.int m] h) λ v h'=>∃(i:Nat) (xs:List Int),v=.ref i/\h.length<=i/\h'[i]?=some (.lst (xs.map .int))/\xs.length=m/\(∀x∈xs,(0:Int)<=x/\x<10^45)/\Ex h h':=by
 have hb:=Jc
 have t45:Int.toNat 45=45:=rfl
 have t30:Int.toNat 30=30:=rfl
 have t18:Int.toNat 18=18:=rfl
 have p45:(0:Int)<10^45:=by decide +kernel
 have l45:((10:Int)^45).natAbs.log2<9000:=by decide +kernel
 have q18:(10:Int)^18+9=1000000000000000009:=by decide +kernel
 have le:(1000000000000000009:Int)<=10^45:=by decide +kernel
 have w10:(0:Int)<=45/\(45:Int)<=1000000/\Int.natAbs 10<2^64:=by decide
 have w18:(0:Int)<=18/\(18:Int)<=1000000/\Int.natAbs 10<2^64:=by decide
 rw[Jmy]
 simp! [Jbk,Jeu,List.length_nil,Nat.zero_le,t30,t18,decide_eq_true_eq,decide_eq_false_iff_not]
 refine⟨by decide,λ _=>⟨by decide,⟨by omega,by omega⟩,?_⟩,λ _=>?_⟩
 ·refine Jam (λ n σ h'=>∃xs rest a b,h'=h++[.lst (xs.map IV.int)]/\σ=[some (.int c),some (.int (m:Int)),some (.ref h.length),some (.int rest),a,b]/\xs.length=n/\∀x∈xs,(0:Int)<=x/\x<10^45)
   (λ _ _ _ _=>trivial) ?_ ?_ ⟨[],_,_,_,rfl,rfl,rfl,by simp⟩
  ·rintro n hn _ _ ⟨xs,rest,a,b,rfl,rfl,lx,hx⟩
   rw[Jki]
   rw[Ja6] at hn
   simp! [Jd2]
   rw[Jhw (i:=h.length) (h1:=h++[L3.IO.lst (xs.map IV.int)]) rfl grown Jdn]
   simp! [Jd7,grown,t45,w10,p45,l45,Jnd,List.length_map]
   have e1:=Int.emod_nonneg rest (b:=10^45) (by decide +kernel)
   have e2:=Int.emod_lt_of_pos rest p45
   refine⟨by omega,xs++[rest%10^45],_,_,_,by simp,rfl,by simp[lx],?_⟩
   intro x hxx
   rw[List.mem_append,List.mem_singleton] at hxx
   rcases hxx with hxx|rfl
   ·exact hx x hxx
   ·exact⟨e1,e2⟩
  ·rintro _ _ ⟨xs,rest,a,b,rfl,rfl,lx,hx⟩
   rw[Ja6] at lx
   simp! [true_and]
   exact⟨_,xs,rfl,Nat.le_refl _,grown,by omega,hx,.one _ _⟩
 ·simp! [Jev,Jew,t18,w18,q18,show(0:Int)<1000000000000000009 by decide]
  refine⟨⟨by omega,by omega⟩,?_⟩
  have s0:=Int.emod_nonneg c (b:=1000000000000000009) (by decide)
  have s1:=Int.emod_lt_of_pos c (b:=1000000000000000009) (by decide)
  refine Jam (λ n σ h'=>∃xs num a b,h'=h++[.lst (xs.map IV.int)]/\σ=[some (.int c),some (.int (m:Int)),some (.ref h.length),a,b,some (.int num)]/\(0<=num/\num<2000000000000000000)/\xs.length=n/\∀x∈xs,(0:Int)<=x/\x<1000000000000000009)
   (λ _ _ _ _=>trivial) ?_ ?_ ⟨[],_,_,_,rfl,rfl,by omega,rfl,by simp⟩
  ·rintro n hn _ _ ⟨xs,num,a,b,rfl,rfl,hnum,lx,hx⟩
   rw[Jki]
   rw[Ja6] at hn
   have m1:Ja0 num num:=.inl (by omega)
   have m2:Ja0 48271 num:=.inl (by decide)
   simp! [Jd3,t18,w18,q18,m1,m2,show(0:Int)<1000000000000000009 by decide]
   have e1:=Int.emod_nonneg (num*num+48271*num+(0+(n:Int))) (b:=1000000000000000009) (by decide)
   have e2:=Int.emod_lt_of_pos (num*num+48271*num+(0+(n:Int))) (b:=1000000000000000009) (by decide)
   generalize (num*num+48271*num+(0+(n:Int)))%1000000000000000009=y at e1 e2
   rw[Jhw (i:=h.length) (h1:=h++[L3.IO.lst (xs.map IV.int)]) rfl grown Jdn]
   simp! [Jd7,grown,Jnd,List.length_map]
   refine⟨by omega,xs++[y],y,_,_,by simp,rfl,by omega,by simp[lx],?_⟩
   intro x hxx
   rw[List.mem_append,List.mem_singleton] at hxx
   rcases hxx with hxx|rfl
   ·exact hx x hxx
   ·exact⟨e1,e2⟩
  ·rintro _ _ ⟨xs,num,a,b,rfl,rfl,hnum,lx,hx⟩
   rw[Ja6] at lx
   simp! [Jex,Jr3,grown]
   rw[show(some (2:Int))=some ((2:Nat):Int) from rfl,Jq7,<-List.map_drop]
   refine⟨_,xs.drop 2,rfl,by simp,grown,by simp;omega,λ x hxx=>?_,(Ex.one _ _).trans (.one _ _)⟩
   have:=hx x (List.mem_of_mem_drop hxx)
   generalize (10:Int)^45=z at *
   omega
mutual
theorem Jrc:∀d:PyData,d.canLay0=true->PyData.eqv d d=true
 | .none,_=>by simp[PyData.eqv]
 | .bool _,_=>by simp[PyData.eqv]
 | .int _,_=>by simp[PyData.eqv]
 | .str _,_=>by simp[PyData.eqv]
 | .list xs,q=>by
  rw[PyData.eqv]
  exact Jj7 xs (by rw[PyData.canLay0] at q;exact q)
 | .tuple xs,q=>by
  rw[PyData.eqv]
  exact Jj7 xs (by rw[PyData.canLay0] at q;exact q)
 | .dict _,q=>by rw[PyData.canLay0] at q;cases q
theorem Jj7:∀ds:List PyData,PyData.canLayAll0 ds=true->PyData.eqvAll ds ds=true
 | [],_=>by rw[PyData.eqvAll]
 | d::ds,q=>by
  rw[PyData.canLayAll0,Bool.and_eq_true] at q
  rw[PyData.eqvAll,Jrc d q.1,Jj7 ds q.2]
  rfl
end
theorem J3x {i j:Nat}{d:PyData}(hi:toD h 6 (.ref i)=some d) (hj:toD h 6 (.ref j)=some d) (q:d.canLay0=true):cNe (.ref i) (.ref j) h=.ok (.bl false) h:=by
 have e3:Jfd (.ref i) (.ref j) h=some true:=by
  unfold Jfd
  rw[hi,hj]
  dsimp only
  rw[if_pos ⟨q,q⟩,Jrc d q]
 unfold cNe
 have e4:Jhb (.ref i) (.ref j)=none:=rfl
 rw[e4]
 dsimp only
 rw[e3]
 rfl
theorem Jfh {i n:Nat}{xs:List IV}(e:h[i]?=some (.lst xs)):toD h (n+1) (.ref i)=(xs.mapM (toD h n)).map PyData.list:=by
 show(match h[i]? with|some (.lst xs)=>(xs.mapM (toD h n)).map PyData.list|_=>none)=_
 rw[e]
theorem Jqe {f:IV->Option PyData}{g:IV->PyData}:∀{xs:List IV},(∀x∈xs,f x=some (g x))->xs.mapM f=some (xs.map g)
 | [],_=>rfl
 | x::xs,q=>by
  rw[List.mapM_cons,q x (List.mem_cons_self ..),Jqe λ y hy=>q y (List.mem_cons_of_mem _ hy)]
  rfl
theorem Jzj {g:IV->PyData}:∀{xs:List IV},(∀x∈xs,(g x).canLay0=true)->PyData.canLayAll0 (xs.map g)=true
 | [],_=>by rw[List.map_nil,PyData.canLayAll0]
 | x::xs,q=>by
  rw[List.map_cons,PyData.canLayAll0,q x (List.mem_cons_self ..),Jzj λ y hy=>q y (List.mem_cons_of_mem _ hy)]
  rfl
end
section
variable {k:Nat}{h:IH}
theorem Jqc:(Str.ofString "abcdefghijklmnopqrstuvwxyz").cps.toList=(List.range 26).map (97+ ·):=by decide +kernel
theorem Jqd:(Str.ofString "abcdefghijklmnopqrstuvwxyz").length=26:=by decide +kernel
theorem Jol {n:Int}(h0:0<=n) (h1:n<26){Q:IV->IH->Prop}:WR (opIx (.str "abcdefghijklmnopqrstuvwxyz") (.int n) h) Q=Q (.str ⟨#[97+n.toNat]⟩) h:=by
 have hb:=Jc
 have e:atI (Str.ofString "abcdefghijklmnopqrstuvwxyz").cps.toList n=some (97+n.toNat):=by
  rw[Jqc]
  refine Jud h0 ?_
  rw[List.getElem?_map,List.getElem?_range (by omega)]
  rfl
 simp only[opIx]
 rw[if_pos (by rw[Jqd];omega),e]
 rfl
theorem J15 (l m:List Nat):(⟨l.toArray⟩:Str)++(⟨m.toArray⟩:Str)=⟨(l++m).toArray⟩:=by
 show Str.append _ _=_
 unfold Str.append
 simp
theorem Jnh (l:List Nat):(⟨l.toArray⟩:Str).length=l.length:=by simp[Str.length]
theorem Ju1:(Str.ofString "")=(⟨([]:List Nat).toArray⟩:Str):=by decide +kernel
theorem J2v {h h0:IH}{it:I1}{e:E1}{js:List Nat}{σ:ISt}{xs:List IV}{chk:IH->Prop}{f:IV->IV}(hit:WR (it σ h0) λ J h1=>J.xs=xs/\J.chk=chk/\h1=h) (hl:xs.length<sizeLine)
  (hc:∀h2:IH,(∀(j:Nat) (ob:IO),h[j]?=some ob->h2[j]?=some ob)->chk h2)
  (he:∀x∈xs,∀h2:IH,(∀(j:Nat) (ob:IO),h[j]?=some ob->h2[j]?=some ob)->WR (e (some x::js.map λ j=>(σ[j]?).join) h2) λ v h3=>v=f x/\Ex h2 h3) :
  ∃g,J0 it 1 js (gNm 0) Jaa e σ h0=.ok (.ref h.length) (h++.lst (xs.map f)::g):=by
 obtain⟨v,h3,e,rfl,g,rfl⟩:=(Jy hit hl hc he).eq
 exact⟨g,e⟩
noncomputable def wSz (c:Int):Int:=1+c%8
noncomputable def wAt (c:Int):Int:=c/8%wSz c
noncomputable def wB (c:Int):List Nat:=(List.range (wSz c).toNat).map λ j:Nat=>97+(c/(11+(j:Int)*(j:Int))%26).toNat
noncomputable def wL (c:Int) (q:Nat):List Nat:=((wB c).take (wAt c).toNat++[97+((c/64+(q:Int))%26).toNat])++(wB c).drop ((wAt c).toNat+1)
noncomputable def wd (c:Int) (q:Nat):Str:=⟨(wL c q).toArray⟩
theorem w_at (c:Int):0<wSz c/\wSz c<=8/\0<=wAt c/\wAt c<wSz c:=by
 have hs:0<wSz c/\wSz c<=8:=by unfold wSz;omega
 exact⟨hs.1,hs.2,Int.emod_nonneg _ (by omega),Int.emod_lt_of_pos _ hs.1⟩
theorem Jz2 (c:Int):(wB c).length=(wSz c).toNat:=by simp[wB]
theorem Jz3 (c:Int) (q:Nat):(wL c q).length=(wSz c).toNat:=by
 have:=w_at c
 simp[wL,Jz2]
 omega
theorem Jws (c:Int) (q:Nat):IsNm (wd c q):=by
 have hs:=w_at c
 refine⟨?_,?_,?_⟩
 ·rw[wd,Jnh,Jz3];omega
 ·rw[wd,Jnh,Jz3];omega
 ·intro x hx
  have hx:x∈wL c q:=by simpa [wd] using hx
  have hB:∀x∈wB c,97<=x/\x<=122:=λ x hx=>by
   obtain⟨j,_,rfl⟩:=List.mem_map.mp hx
   have h1:=Int.emod_nonneg (c/(11+(j:Int)*(j:Int))) (b:=26) (by decide)
   have h2:=Int.emod_lt_of_pos (c/(11+(j:Int)*(j:Int))) (b:=26) (by decide)
   omega
  have h1:=Int.emod_nonneg (c/64+(q:Int)) (b:=26) (by decide)
  have h2:=Int.emod_lt_of_pos (c/64+(q:Int)) (b:=26) (by decide)
  simp only[wL,List.mem_append,List.mem_singleton] at hx
  rcases hx with(hx|rfl)|hx
  ·exact hB x (List.mem_of_mem_take hx)
  ·omega
  ·exact hB x (List.mem_of_mem_drop hx)
theorem Jz4 {c:Int}{p q:Nat}(hp:p<26) (hq:q<26) (e:wd c p=wd c q):p=q:=by
 have e1:wL c p=wL c q:=by
  have:(wL c p).toArray=(wL c q).toArray:=congrArg Str.cps e
  simpa using this
 have h1:=Int.emod_nonneg (c/64+(p:Int)) (b:=26) (by decide)
 have h2:=Int.emod_nonneg (c/64+(q:Int)) (b:=26) (by decide)
 have e2:(97+((c/64+(p:Int))%26).toNat)=97+((c/64+(q:Int))%26).toNat:=by
  unfold wL at e1
  have:=List.append_cancel_right e1
  have:=List.append_cancel_left this
  simpa using this
 omega
noncomputable def lOf (c:Int) (v:IV):IV:=match v with
 | .int j=>.str ⟨#[97+(c/(11+j*j)%26).toNat]⟩
 | _=>.non
theorem Jtj (l:List Nat):Jhc (l.map λ x=>IV.str ⟨#[x]⟩)=some (PyProof.Rows.signs ⟨l.toArray⟩):=by
 have:=Jni (PyProof.Rows.signs ⟨l.toArray⟩)
 rw[<- this]
 simp[PyProof.Rows.signs]
 rfl
theorem J01 {l:List Nat}(hl:l.length<=8):JoinOk (Str.ofString "") (PyProof.Rows.signs ⟨l.toArray⟩)=true:=by
 have hb:=Jc
 have e0:(Str.ofString "").length=0:=by decide +kernel
 have:∀(m:List Nat) (a:Nat),(m.map λ x=>(⟨#[x]⟩:Str)).foldl (λ n (x:Str)=>n+x.length+(Str.ofString "").length) a=a+m.length:=by
  intro m
  induction m with
  | nil=>intro a;rfl
  | cons x m ih =>
   intro a
   rw[List.map_cons,List.foldl_cons,ih,e0]
   simp[Str.length]
   omega
 have e:(PyProof.Rows.signs ⟨l.toArray⟩).foldl (λ n (x:Str)=>n+x.length+(Str.ofString "").length) 0=0+l.length:=this l 0
 unfold JoinOk Builtin.Str.tooLong
 rw[List.foldl_toArray]
 simp only[Bool.not_eq_true',decide_eq_false_iff_not]
 omega
theorem Jwt (c:Int) (q:Nat):WR (Jbo (k+1) [.int c,.int q] h) λ v h'=>v=.str (wd c q)/\Ex h h':=by
 have hb:=Jc
 have hs:=w_at c
 have l8:(Int.natAbs 8).log2<9000:=by decide
 have l64:(Int.natAbs 64).log2<9000:=by decide
 rw[Jp8]
 simp! [Jdl,Jim,Jin,show(0:Int)<8 by decide]
 rw[J2j (x:=Str.ofString "") (h1:=h) rfl J0b]
 dsimp! [Ji1]
 have sz:wSz c=1+c%8:=rfl
 rw[<- sz]
 have X:=@J2v h h (iRg Jc1 (Ja (eVar 3) aNil)) (Jaf k) [0,2] [some (.int c),some (.int q),some (.str "abcdefghijklmnopqrstuvwxyz"),some (.int (wSz c)),none,none] (rngI 0 (wSz c)) (λ _=>True) (lOf c)
  (by
   simp! [true_and]
   omega) (by rw[Ja6];omega) (λ _ _=>trivial) (by
   intro x hx h2 k2
   obtain⟨n,hn,rfl⟩:=List.mem_iff_getElem.mp hx
   rw[Jki]
   rw[Ja6] at hn
   have hn8:n<8:=by omega
   have mf:Ja0 (0+(n:Int)) (0+(n:Int)):=.inl (by omega)
   have sq:(0+(n:Int))*(0+(n:Int))<=49/\0<=(0+(n:Int))*(0+(n:Int)):=by
    obtain rfl|rfl|rfl|rfl|rfl|rfl|rfl|rfl:n=0∨n=1∨n=2∨n=3∨n=4∨n=5∨n=6∨n=7:=by omega
    all_goals decide
   have lsz:(Int.natAbs (11+(0+(n:Int))*(0+(n:Int)))).log2<9000:=Jm2 (b:=60) (by omega) (by decide)
   have p3:=Int.emod_nonneg (c/(11+(0+(n:Int))*(0+(n:Int)))) (b:=26) (by decide)
   have p4:=Int.emod_lt_of_pos (c/(11+(0+(n:Int))*(0+(n:Int)))) (b:=26) (by decide)
   simp only[List.map_cons,List.map_nil,List.getElem?_cons_succ,List.getElem?_cons_zero,Option.join_some]
   simp! [Jaf,mf,lsz,Jol p3 p4,show(0:Int)<26 by decide,show(0:Int)<11+(0+(n:Int))*(0+(n:Int)) by omega]
   exact⟨rfl,.refl _⟩)
 generalize J0 (iRg Jc1 (Ja (eVar 3) aNil)) 1 [0,2] (gNm 0) Jaa (Jaf k) [some (.int c),some (.int q),some (.str "abcdefghijklmnopqrstuvwxyz"),some (.int (wSz c)),none,none] h=rc at X ⊢
 obtain⟨g,ev⟩:=X
 have em:(rngI 0 (wSz c)).map (lOf c)=(wB c).map λ x=>IV.str ⟨#[x]⟩:=by
  rw[wB,List.map_map]
  refine List.ext_getElem (by rw[List.length_map,List.length_map,Ja6,List.length_range];omega) λ i h1 h2=>?_
  rw[List.getElem_map,Jki,List.getElem_map,List.getElem_range]
  simp[lOf]
 rw[em] at ev
 have x1:Ex h (h++L3.IO.lst ((wB c).map λ x=>IV.str ⟨#[x]⟩)::g):=.cons _ _ _
 have g1:(h++L3.IO.lst ((wB c).map λ x=>IV.str ⟨#[x]⟩)::g)[h.length]?=some (.lst ((wB c).map λ x=>IV.str ⟨#[x]⟩)):=Jq
 generalize h++L3.IO.lst ((wB c).map λ x=>IV.str ⟨#[x]⟩)::g=h1 at ev x1 g1
 have bl:=Jz2 c
 have jn:Txt.join (Str.ofString "") (PyProof.Rows.signs ⟨(wB c).toArray⟩)=⟨(wB c).toArray⟩:=by rw[Ju1];exact(StrLaws.glued_eq_join _ _).trans (PyProof.Rows.join_nil_signs _)
 simp! [ev,J2k,g1,Jtj,J01 (show(wB c).length<=8 by omega),jn,Jio,Jip,l8,l64,show(0:Int)<8 by decide,show(0:Int)<64 by decide,show(0:Int)<26 by decide,hs.1,Jw1]
 have ea:c/8%wSz c=wAt c:=rfl
 rw[ea]
 have p1:=Int.emod_nonneg (c/64+(q:Int)) (b:=26) (by decide)
 have p2:=Int.emod_lt_of_pos (c/64+(q:Int)) (b:=26) (by decide)
 have sl:(⟨(wB c).toArray⟩:Str).length=(wB c).length:=Jnh _
 have s1:Txt.slice ⟨(wB c).toArray⟩ none (some (wAt c))=⟨((wB c).take (wAt c).toNat).toArray⟩:=by
  have:=beq_iff_eq.mp (PyProof.Rows.slice_closes_toL (x:=⟨(wB c).toArray⟩) (j:=wAt c) hs.2.2.1 (by rw[sl,bl];omega))
  rw[this]
  simp
 have s2:Txt.slice ⟨(wB c).toArray⟩ (some (wAt c+1)) none=⟨((wB c).drop ((wAt c).toNat+1)).toArray⟩:=by
  have:=beq_iff_eq.mp (PyProof.Rows.slice_closes_fromL (x:=⟨(wB c).toArray⟩) (i:=wAt c+1) (by omega) (by rw[sl,bl];omega) rfl)
  rw[this]
  have e1:(wAt c+1).toNat=(wAt c).toNat+1:=by omega
  rw[e1,List.take_of_length_le (by rw[List.length_drop];show _<=((⟨(wB c).toArray⟩:Str).length-(wAt c+1)).toNat;rw[sl];simp;omega)]
 rw[s1,s2,Jol p1 p2]
 have one:(⟨#[97+((c/64+(q:Int))%26).toNat]⟩:Str)=⟨[97+((c/64+(q:Int))%26).toNat].toArray⟩:=rfl
 simp! [one,J15,Jnh,Jw1,s2,sl,List.length_take,List.length_append,List.length_cons,List.length_nil,List.length_drop]
 refine⟨by omega,by omega,by omega,by omega,?_⟩
 exact⟨rfl,x1⟩
end
theorem at_x {xs:List Int}{n:Nat}(hn:n<xs.length):∃x,atI (xs.map IV.int) (n:Int)=some (.int x) :=
 ⟨xs[n],Jan (by rw[List.getElem?_map,List.getElem?_eq_getElem hn];rfl)⟩
theorem Jlb {len:Int}{cand:List Hd}(hc:cand.length<=2) (each:∀a∈cand,IsNm a.1/\0<=a.2.1/\a.2.2<len) (tog:∀a b,cand=[a,b]->Tog b a):HsOk len (cand.filter λ a=>decide (a.2.1<a.2.2)):=by
 refine⟨Nat.le_trans (List.length_filter_le _ _) (by omega),λ a ha=>?_,λ m n hm hn=>?_⟩
 ·obtain⟨h1,h2⟩:=List.mem_filter.mp ha
  obtain⟨e1,e2,e3⟩:=each a h1
  exact⟨e1,e2,by simpa using h2,e3⟩
 ·have ln:=List.length_filter_le (λ a:Hd=>decide (a.2.1<a.2.2)) cand
  match cand,hc,tog,ln,hn with
  | [],_,_,ln,hn=>simp at hn
  | [a],_,_,ln,hn=>simp at ln;omega
  | [a,b],_,tog,ln,hn =>
   have e:[a,b].filter (λ a:Hd=>decide (a.2.1<a.2.2))=[a,b]:=by
    refine List.filter_eq_self.mpr λ x hx=>?_
    by_cases ea:a.2.1<a.2.2
    ·by_cases eb:b.2.1<b.2.2
     ·simp only[List.mem_cons,List.not_mem_nil,or_false] at hx
      rcases hx with rfl|rfl<;>simpa
     ·simp[ea,eb] at hn;omega
    ·by_cases eb:b.2.1<b.2.2<;>simp[ea,eb] at hn<;>omega
   have hm0:m=0/\n=1:=by
    rw[e] at hn
    simp at hn
    omega
   obtain⟨rfl,rfl⟩:=hm0
   simp only[e]
   exact tog a b rfl
section
variable {k:Nat}{h:IH}
theorem Jyu {i:Nat}{ms:List Int}(hi:h[i]?=some (.lst (ms.map .int))) (hl:ms.length<64):Jhp (.ref i) h=.ok (.ref h.length) (h++[.lst ((Jc7 ms).map .int)]):=by
 dsimp only[Jhp]
 rw[hi]
 dsimp only
 rw[if_pos (by rw[List.length_map];exact hl)]
 unfold srtI
 rw[Jcu]
theorem sort4 {ms:List Int}{len:Int}(hl:ms.length=4) (hm:∀x∈ms,0<=x/\x<len):∃p0 p1 p2 p3:Int,Jc7 ms=[p0,p1,p2,p3]/\0<=p0/\p0<=p1/\p1<=p2/\p2<=p3/\p3<len:=by
 have pw:=Jrt ms
 have l:(Jc7 ms).length=4:=by rw[Jc7,List.length_mergeSort];exact hl
 have mem:∀x∈Jc7 ms,0<=x/\x<len:=λ x hx=>hm x (List.mem_mergeSort.mp hx)
 match Jc7 ms,l,pw,mem with
 | [p0,p1,p2,p3],_,pw,mem =>
  simp only[List.pairwise_cons,List.mem_cons,List.not_mem_nil,or_false] at pw
  obtain⟨a,b,c,_⟩:=pw
  have m0:=mem p0 (by simp)
  have m3:=mem p3 (by simp)
  exact⟨p0,p1,p2,p3,rfl,m0.1,a p1 (.inl rfl),b p2 (.inl rfl),c p3 rfl,m3.2⟩
noncomputable def J22 (v:IV):Bool:=match v with
 | .tup [_,.int s,.int e]=>decide (s<e)
 | _=>false
theorem Ju6 (cand:List Hd):(cand.map tupH).filter J22=(cand.filter λ a=>decide (a.2.1<a.2.2)).map tupH:=by
 rw[List.filter_map]
 rfl
noncomputable def way6 (one other:Str) (p0 p1 p2 p3:Int):Nat->List Hd
 | 0=>[]
 | 1=>[(one,p0,p3)]
 | 2=>[(one,p0,p3),(other,p1,p2)]
 | 3=>[(other,p1,p2),(one,p0,p3)]
 | 4=>[(one,p0,p1),(other,p2,p3)]
 | _=>[(one,p2,p3),(one,p0,p1)]
theorem J2g {one other:Str}{p0 p1 p2 p3 len:Int}(n:Nat) (h1:IsNm one) (h2:IsNm other) (ne:one≠other) (a0:0<=p0) (a1:p0<=p1) (a2:p1<=p2) (a3:p2<=p3) (a4:p3<len):HsOk len ((way6 one other p0 p1 p2 p3 n).filter λ a=>decide (a.2.1<a.2.2)):=by
 match n with
 | 0=>exact Jlb (by simp[way6]) (by simp[way6]) (by simp[way6])
 | 1 =>
  refine Jlb (by simp[way6]) (λ a ha=>?_) (by simp[way6])
  simp only[way6,List.mem_cons,List.not_mem_nil,or_false] at ha
  subst ha
  exact⟨h1,a0,a4⟩
 | 2 =>
  refine Jlb (by simp[way6]) (λ a ha=>?_) (λ a b e=>?_)
  ·simp only[way6,List.mem_cons,List.not_mem_nil,or_false] at ha
   rcases ha with rfl|rfl
   ·exact⟨h1,a0,a4⟩
   ·exact⟨h2,by show 0<=p1;omega,by show p2<len;omega⟩
  ·simp only[way6,List.cons.injEq,and_true] at e
   obtain⟨rfl,rfl⟩:=e
   exact .inr (.inr ⟨Ne.symm ne,.inl ⟨a1,a3⟩⟩)
 | 3 =>
  refine Jlb (by simp[way6]) (λ a ha=>?_) (λ a b e=>?_)
  ·simp only[way6,List.mem_cons,List.not_mem_nil,or_false] at ha
   rcases ha with rfl|rfl
   ·exact⟨h2,by show 0<=p1;omega,by show p2<len;omega⟩
   ·exact⟨h1,a0,a4⟩
  ·simp only[way6,List.cons.injEq,and_true] at e
   obtain⟨rfl,rfl⟩:=e
   exact .inr (.inr ⟨ne,.inr ⟨a1,a3⟩⟩)
 | 4 =>
  refine Jlb (by simp[way6]) (λ a ha=>?_) (λ a b e=>?_)
  ·simp only[way6,List.mem_cons,List.not_mem_nil,or_false] at ha
   rcases ha with rfl|rfl
   ·exact⟨h1,a0,by show p1<len;omega⟩
   ·exact⟨h2,by show 0<=p2;omega,a4⟩
  ·simp only[way6,List.cons.injEq,and_true] at e
   obtain⟨rfl,rfl⟩:=e
   exact .inr (.inl a2)
 | n+5 =>
  refine Jlb (by simp[way6]) (λ a ha=>?_) (λ a b e=>?_)
  ·simp only[way6,List.mem_cons,List.not_mem_nil,or_false] at ha
   rcases ha with rfl|rfl
   ·exact⟨h1,by show 0<=p2;omega,a4⟩
   ·exact⟨h1,a0,by show p1<len;omega⟩
  ·simp only[way6,List.cons.injEq,and_true] at e
   obtain⟨rfl,rfl⟩:=e
   exact .inl a2
theorem J0s {C:IH}{X O i0 i1 i2 i3 i4 i5:Nat}{xs:List Int}{one other:Str}{p0 p1 p2 p3 y6:Int}{a1 a2 a3 a4 a5:Option IV}(c0:C[i0]?=some (.lst [])) (c1:C[i1]?=some (.lst [tupH (one,p0,p3)])) (c2:C[i2]?=some (.lst [tupH (one,p0,p3),tupH (other,p1,p2)])) (c3:C[i3]?=some (.lst [tupH (other,p1,p2),tupH (one,p0,p3)]))
  (c4:C[i4]?=some (.lst [tupH (one,p0,p1),tupH (other,p2,p3)])) (c5:C[i5]?=some (.lst [tupH (one,p2,p3),tupH (one,p0,p1)])) (cO:C[O]?=some (.lst [.ref i0,.ref i1,.ref i2,.ref i3,.ref i4,.ref i5])) (hX:C[X]?=some (.lst (xs.map .int))) (e6:atI (xs.map IV.int) 6=some (.int y6)){N:ISt->IH->Prop} :
  WS (Jcb k [some (.ref X),a1,a2,a3,a4,a5,some (.ref O)] C) N λ v h'=>∃q n,v=.ref q/\C.length<=q/\h'[q]?=some (.lst (((way6 one other p0 p1 p2 p3 n).filter λ a=>decide (a.2.1<a.2.2)).map tupH))/\Ex C h':=by
 have hb:=Jc
 have pick:∃(n m:Nat),atI [IV.ref i0,IV.ref i1,IV.ref i2,IV.ref i3,IV.ref i4,IV.ref i5] (y6%6)=some (.ref m)/\C[m]?=some (.lst ((way6 one other p0 p1 p2 p3 n).map tupH)):=by
  have:y6%6=0∨y6%6=1∨y6%6=2∨y6%6=3∨y6%6=4∨y6%6=5:=by omega
  rcases this with e|e|e|e|e|e<;>rw[e]
  ·exact⟨0,i0,Je4,c0⟩
  ·exact⟨1,i1,Je5,c1⟩
  ·exact⟨2,i2,Jhg,c2⟩
  ·exact⟨3,i3,Jkq,c3⟩
  ·exact⟨4,i4,Jps,c4⟩
  ·exact⟨5,i5,Jan (n:=5) rfl,c5⟩
 obtain⟨n,m,em,gm⟩:=pick
 have ln:(way6 one other p0 p1 p2 p3 n).length<=2:=by
  match n with
  | 0=>simp[way6]
  | 1=>simp[way6]
  | 2=>simp[way6]
  | 3=>simp[way6]
  | 4=>simp[way6]
  | n+5=>simp[way6]
 simp! [Jcb]
 refine WR.mono (Jww (h:=C) (xs:=(way6 one other p0 p1 p2 p3 n).map tupH) (chk:=λ h'=>h'[m]?=some (.lst ((way6 one other p0 p1 p2 p3 n).map tupH))) (p:=J22) (f:=λ v=>v) ?_ (by rw[List.length_map];omega) (λ h2 q=>q _ _ gm) ?_ ?_) ?_
 ·simp! [Jbe,cO,hX,e6,show(0:Int)<6 by decide,em,Jap,gm]
 ·intro v hv h2 q
  obtain⟨a,_,rfl⟩:=List.mem_map.mp hv
  simp! [Jds,tupH]
  exact⟨rfl,.refl _⟩
 ·intro v hv _ h2 q
  simp! [Jdr]
  exact .refl _
 ·rintro _ _ ⟨rfl,g,rfl⟩
  refine⟨_,n,rfl,Nat.le_refl _,?_,.cons _ _ _⟩
  rw[Jq,List.map_id',Ju6]
theorem J0r {C:IH}{X O Pp i0 i1 i2 i3:Nat}{xs:List Int}{one other:Str}{p0 p1 p2 p3 y6:Int}{a1 a2:Option IV}(c0:C[i0]?=some (.lst [])) (c1:C[i1]?=some (.lst [tupH (one,p0,p3)])) (c2:C[i2]?=some (.lst [tupH (one,p0,p3),tupH (other,p1,p2)])) (c3:C[i3]?=some (.lst [tupH (other,p1,p2),tupH (one,p0,p3)]))
  (cO:C[O]?=some (.lst [.ref i0,.ref i1,.ref i2,.ref i3])) (gP:C[Pp]?=some (.lst [.int p0,.int p1,.int p2,.int p3])) (hX:C[X]?=some (.lst (xs.map .int))) (e6:atI (xs.map IV.int) 6=some (.int y6)){N:ISt->IH->Prop} :
  WS (Jca k [some (.ref X),a1,a2,some (.ref Pp),some (.str one),some (.str other),some (.ref O)] C) N λ v h'=>∃q n,v=.ref q/\C.length<=q/\h'[q]?=some (.lst (((way6 one other p0 p1 p2 p3 n).filter λ a=>decide (a.2.1<a.2.2)).map tupH))/\Ex C h':=by
 have hb:=Jc
 have g1:∀a,(C++a)[Pp]?=some (.lst [.int p0,.int p1,.int p2,.int p3]):=λ a=>grow gP
 simp! [Jca,Jbe,gP,g1,List.length_cons,List.length_nil,J2h]
 refine⟨by omega,by omega,by omega,by omega,by omega,by omega,by omega,_,grow (grow (grow cO)),_,grown,by simp;omega,?_⟩
 have xC:∀a b c d,Ex C (C++[a]++[b]++[c]++[d]):=λ a b c d=>(Ex.one _ _).trans ((Ex.one _ _).trans ((Ex.one _ _).trans (.one _ _)))
 refine WS.mono (J0s (k:=k) (p0:=p0) (p1:=p1) (p2:=p2) (p3:=p3) (one:=one) (other:=other) (N:=N) ((xC _ _ _ _).get c0) ((xC _ _ _ _).get c1) ((xC _ _ _ _).get c2) ((xC _ _ _ _).get c3) (grow (grow (grow grown))) (grow (grow grown)) grown ((xC _ _ _ _).get hX) e6) (λ _ _ z=>z) ?_
 rintro v h' ⟨q,n,rfl,lq,gq,x'⟩
 refine⟨q,n,rfl,?_,gq,(xC _ _ _ _).trans x'⟩
 simp only[List.length_append,List.length_cons,List.length_nil] at lq
 omega
theorem Jxm {X W:Nat}{xs:List Int}{ws:List Str}{len:Int}(hX:h[X]?=some (.lst (xs.map .int))) (lx:7<=xs.length) (hW:h[W]?=some (.lst (ws.map .str))) (lw:ws.length=3) (hw:∀x∈ws,IsNm x) (nd:ws.Nodup) (h1:1<=len) :
  WR (Jbz (k+1) [.ref X,.int len,.ref W] h) λ v h'=>∃q hs,v=.ref q/\h.length<=q/\h'[q]?=some (.lst (hs.map tupH))/\HsOk len hs/\Ex h h':=by
 have hb:=Jc
 rw[Joc]
 simp! [Jb9]
 refine WR.mono (Jy (h:=h++[L3.IO.lst ((xs.take 4).map IV.int)]) (xs:=(xs.take 4).map IV.int) (chk:=λ h'=>h'[h.length]?=some (.lst ((xs.take 4).map IV.int))) (f:=λ v=>match v with|.int x=>.int (x%len)|_=>.non) ?_ ?_ ?_ ?_) ?_
 ·simp! [Jr3,hX]
  rw[show(some (4:Int))=some ((4:Nat):Int) from rfl,Jq8,<-List.map_take]
  simp only[Jap,grown,exists_eq_left,exists_eq_left',IV.bl.injEq,IV.int.injEq,IV.ref.injEq,IV.str.injEq,IO.lst.injEq,IV.tup.injEq,Option.some.injEq,Bool.not_true,Bool.not_false,reduceCtorEq,eq_self,true_implies,false_implies,implies_true,and_true,true_and,and_false,false_and,Option.bind_some,Bool.true_eq_false,Bool.false_eq_true,Jll,Jhr,Jlm,Jtn,Jlj,Jlk,Jer,Jbi,Jfo,Ja1,Jat,Jda,Jkp,Jl0,Je4,Je5,Jhg,Jkq,Jps,Jh1,Jhz,Jh0]
 ·rw[List.length_map,List.length_take];omega
 ·exact λ h2 q=>q _ _ grown
 ·intro v hv h2 q
  obtain⟨x,hx,rfl⟩:=List.mem_map.mp hv
  simp only[List.map_cons,List.map_nil,List.getElem?_cons_succ,List.getElem?_cons_zero,Option.join_some]
  simp! [Jdq,show(0:Int)<len by omega]
  exact .refl _
 ·rintro _ _ ⟨rfl,g,rfl⟩
  have em:((xs.take 4).map IV.int).map (λ v=>match v with|.int x=>IV.int (x%len)|_=>IV.non)=((xs.take 4).map (· %len)).map IV.int:=by
   rw[List.map_map,List.map_map]
   rfl
  rw[em]
  obtain⟨p0,p1,p2,p3,es,a0,a1,a2,a3,a4⟩:=sort4 (ms:=(xs.take 4).map (· %len)) (len:=len) (by rw[List.length_map,List.length_take];omega) λ x hx=>by
   obtain⟨y,_,rfl⟩:=List.mem_map.mp hx
   exact⟨Int.emod_nonneg _ (by omega),Int.emod_lt_of_pos _ (by omega)⟩
  generalize hh1:h++[L3.IO.lst ((xs.take 4).map IV.int)]=hA
  have xA:Ex h hA:=by rw[<- hh1];exact .one _ _
  rw[Jyu (ms:=(xs.take 4).map (· %len)) Jq (by rw[List.length_map,List.length_take];omega),es]
  dsimp! [Ji1]
  have xB:Ex hA (hA++L3.IO.lst (((xs.take 4).map (· %len)).map IV.int)::g++[L3.IO.lst ([p0,p1,p2,p3].map IV.int)]):=(Ex.cons _ _ _).trans (.one _ _)
  have gP:(hA++L3.IO.lst (((xs.take 4).map (· %len)).map IV.int)::g++[L3.IO.lst ([p0,p1,p2,p3].map IV.int)])[(hA++L3.IO.lst (((xs.take 4).map (· %len)).map IV.int)::g).length]?=some (.lst ([p0,p1,p2,p3].map IV.int)):=grown
  have lP:h.length<=(hA++L3.IO.lst (((xs.take 4).map (· %len)).map IV.int)::g).length:=by have:=xA.len;rw[List.length_append];omega
  generalize (hA++L3.IO.lst (((xs.take 4).map (· %len)).map IV.int)::g).length=Pp at gP lP ⊢
  generalize hA++L3.IO.lst (((xs.take 4).map (· %len)).map IV.int)::g++[L3.IO.lst ([p0,p1,p2,p3].map IV.int)]=hB at xB gP ⊢
  have xh:=xA.trans xB
  simp only[List.map_cons,List.map_nil] at gP
  have hX2:=xh.get hX
  have hW2:=xh.get hW
  obtain⟨y4,e4⟩:=at_x (xs:=xs) (n:=4) (by omega)
  obtain⟨y5,e5⟩:=at_x (xs:=xs) (n:=5) (by omega)
  obtain⟨y6,e6⟩:=at_x (xs:=xs) (n:=6) (by omega)
  have e4:atI (xs.map IV.int) 4=some (.int y4):=e4
  have e5:atI (xs.map IV.int) 5=some (.int y5):=e5
  have e6:atI (xs.map IV.int) 6=some (.int y6):=e6
  obtain⟨i,hi⟩:∃i:Nat,y4%3=i:=⟨(y4%3).toNat,by omega⟩
  obtain⟨j,hj⟩:∃j:Nat,(y4+1+y5%2)%3=j:=⟨((y4+1+y5%2)%3).toNat,by omega⟩
  have hi3:i<ws.length:=by omega
  have hj3:j<ws.length:=by omega
  have hij:i≠j:=by omega
  have aw:∀n (hn:n<ws.length),atI (ws.map IV.str) (n:Int)=some (.str ws[n]):=λ n hn=>Jan (by rw[List.getElem?_map,List.getElem?_eq_getElem hn];rfl)
  simp! [Jf6,Jf7,Jbe,hX2,hW2,e4,e5,show(0:Int)<3 by decide,show(0:Int)<2 by decide,hi,hj,aw i hi3,aw j hj3]
  have n1:=hw _ (List.getElem_mem hi3)
  have n2:=hw _ (List.getElem_mem hj3)
  have ne:ws[i]≠ws[j]:=λ e=>hij ((List.getElem_inj nd).mp e)
  generalize ws[i]=one at n1 ne
  generalize ws[j]=other at n2 ne
  have wok:=λ n=>J2g (len:=len) n n1 n2 ne a0 a1 a2 a3 a4
  have g1:∀a,(hB++a)[Pp]?=some (.lst [.int p0,.int p1,.int p2,.int p3]):=λ a=>grow gP
  have g2:∀a b,(hB++a++b)[Pp]?=some (.lst [.int p0,.int p1,.int p2,.int p3]):=λ a b=>grow (g1 a)
  have g3:∀a b c,(hB++a++b++c)[Pp]?=some (.lst [.int p0,.int p1,.int p2,.int p3]):=λ a b c=>grow (g2 a b)
  simp! [Jf8,Jbe,gP,g1,g2,g3,List.length_cons,List.length_nil]
  refine⟨by omega,by omega,by omega,by omega,by omega,by omega,by omega,by omega,by omega,by omega,?_⟩
  have xC:∀a b c d e,Ex hB (hB++[a]++[b]++[c]++[d]++[e]):=λ a b c d e=>(Ex.one _ _).trans ((Ex.one _ _).trans ((Ex.one _ _).trans ((Ex.one _ _).trans (.one _ _))))
  refine WS.mono (J0r (k:=k) (p0:=p0) (p1:=p1) (p2:=p2) (p3:=p3) (one:=one) (other:=other) (N:=λ _ _=>False) (grow (grow (grow (grow grown)))) (grow (grow (grow grown))) (grow (grow grown)) (grow grown) grown ((xC _ _ _ _ _).get gP) ((xC _ _ _ _ _).get hX2) e6) ?_ ?_
  ·exact λ _ _ z=>z.elim
  ·rintro v h' ⟨q,n,rfl,lq,gq,x'⟩
   have:=xh.len
   have l2:=(xC (L3.IO.lst []) (L3.IO.lst []) (L3.IO.lst []) (L3.IO.lst []) (L3.IO.lst [])).len
   refine⟨q,_,rfl,?_,gq,wok n,xh.trans ((xC _ _ _ _ _).trans x')⟩
   simp only[List.length_append,List.length_cons,List.length_nil] at lq
   omega
end
noncomputable abbrev tp5 (r:RH) (q:Nat):List IV:=[.int r.1.gap,.int r.1.len,.int r.1.due,.int r.1.late,.ref q]
structure F7 (unit:Int) (r:RH):Prop where
 g1:unit<=r.1.gap
 g2:r.1.gap<8*unit
 l1:1<=r.1.len
 l2:r.1.len<=r.1.gap
 d1:1<=r.1.due
 d2:r.1.due<=r.1.gap
 t1:0<=r.1.late
 t2:r.1.late<=3*r.1.gap/2
 ok:HsOk r.1.len r.2
theorem J12 {ws:List Str}(hw:∀x∈ws,IsNm x):PyData.canLayAll0 (ws.map PyData.str)=true:=by
 induction ws with
 | nil=>rfl
 | cons x xs ih =>
  have q:=hw x (List.mem_cons_self ..)
  have e:PyData.canLay0 (.str x)=true:=by
   simp only[PyData.canLay0]
   unfold PyData.strOk
   rw[<- Array.all_toList,List.all_eq_true]
   intro c hc
   have:=q.2.2 c hc
   simp only[decide_eq_true_eq]
   omega
  rw[List.map_cons,PyData.canLayAll0,e,ih λ y hy=>hw y (List.mem_cons_of_mem _ hy)]
  rfl
section
variable {k:Nat}{h:IH}
theorem J2l (i j:Int){Q:IV->IH->Prop}:WR (maxI (.int i) (.int j) h) Q=Q (.int (if j>i then j else i)) h:=rfl
theorem Jqx {W j:Nat}{ws:List Str}(hW:h[W]?=some (.lst (ws.map .str))) (hw:∀x∈ws,IsNm x) (hj:h[j]?=some (.lst [])):cNe (.ref W) (.ref j) h=.ok (.bl (!ws.isEmpty)) h:=by
 have e1:toD h 6 (.ref W)=some (.list (ws.map PyData.str)):=by
  rw[Jfh hW,Jqe (g:=λ v=>match v with|.str x=>.str x|_=>.none) λ x hx=>?_]
  ·simp
  ·obtain⟨y,_,rfl⟩:=List.mem_map.mp hx
   rfl
 have e2:toD h 6 (.ref j)=some (.list []):=by
  rw[Jfh hj]
  rfl
 have e3:Jfd (.ref W) (.ref j) h=some ws.isEmpty:=by
  unfold Jfd
  rw[e1,e2]
  dsimp only
  rw[if_pos ⟨by rw[PyData.canLay0];exact J12 hw,by rw[PyData.canLay0,PyData.canLayAll0]⟩,PyData.eqv]
  cases ws with
  | nil=>rw[List.map_nil,PyData.eqvAll];rfl
  | cons a as=>rw[List.map_cons,PyData.eqvAll];rfl;all_goals intros;simp_all
 unfold cNe
 have e4:Jhb (.ref W) (.ref j)=none:=rfl
 rw[e4]
 dsimp only
 rw[e3]
theorem Jyb {c unit:Int}{W:Nat}{ws:List Str}(hu:1<=unit) (hu2:unit<=10^40) (hW:h[W]?=some (.lst (ws.map .str))) (hw:∀x∈ws,IsNm x) (nd:ws.Nodup) (lw:ws=[]∨ws.length=3) :
  WR (Jb0 (k+2) [.int c,.int unit,.ref W] h) λ v h'=>Ex h h'/\∃r q,F7 unit r/\v=.tup (tp5 r q)/\h.length<=q/\h'[q]?=some (.lst (r.2.map tupH))/\(ws=[]->r.2=[]):=by
 have hb:=Jc
 rw[Jod]
 simp! [Jcc]
 refine WR.mono (Jpl (k:=k) (h:=h) c 15 (by decide)) ?_
 rintro _ h1 ⟨i,xs,rfl,_,hi,lx,hx,x1⟩
 have hx0:∀x∈xs,0<=x:=λ x q=>(hx x q).1
 clear hx
 have at_:∀n:Nat,n<15->∃x,0<=x/\atI (xs.map IV.int) (n:Int)=some (.int x):=λ n hn=>⟨xs[n],hx0 _ (List.getElem_mem _),Jan (by rw[List.getElem?_map,List.getElem?_eq_getElem (by omega)];rfl)⟩
 obtain⟨y0,z0,e0⟩:=at_ 0 (by decide)
 obtain⟨y1,z1,e1⟩:=at_ 1 (by decide)
 obtain⟨y2,z2,e2⟩:=at_ 2 (by decide)
 obtain⟨y3,z3,e3⟩:=at_ 3 (by decide)
 obtain⟨y4,z4,e4⟩:=at_ 4 (by decide)
 obtain⟨y5,z5,e5⟩:=at_ 5 (by decide)
 obtain⟨y6,z6,e6⟩:=at_ 6 (by decide)
 obtain⟨y7,z7,e7⟩:=at_ 7 (by decide)
 have e0:atI (xs.map IV.int) 0=some (.int y0):=e0
 have e1:atI (xs.map IV.int) 1=some (.int y1):=e1
 have e2:atI (xs.map IV.int) 2=some (.int y2):=e2
 have e3:atI (xs.map IV.int) 3=some (.int y3):=e3
 have e4:atI (xs.map IV.int) 4=some (.int y4):=e4
 have e5:atI (xs.map IV.int) 5=some (.int y5):=e5
 have e6:atI (xs.map IV.int) 6=some (.int y6):=e6
 have e7:atI (xs.map IV.int) 7=some (.int y7):=e7
 clear at_ hx0
 have l2:(Int.natAbs 2).log2<9000:=by decide
 have l3:(Int.natAbs 3).log2<9000:=by decide
 have m1:Ja0 unit (1+y0%7):=.inr (.inl (by omega))
 have b1:unit*1<=unit*(1+y0%7):=Int.mul_le_mul_of_nonneg_left (by omega) (by omega)
 have b2:unit*(1+y0%7)<=unit*7:=Int.mul_le_mul_of_nonneg_left (by omega) (by omega)
 have b3:=Int.emod_nonneg y1 (b:=1+unit/2) (by omega)
 have b4:=Int.emod_lt_of_pos y1 (b:=1+unit/2) (by omega)
 simp! [Jf9,Jbe,hi,e0,e1,m1,l2,show(0:Int)<7 by decide,show(0:Int)<2 by decide,show(0:Int)<1+unit/2 by omega]
 obtain⟨g,eg,g1,g2⟩:∃g,unit*(1+y0%7)+y1%(1+unit/2)=g/\unit<=g/\g<8*unit:=⟨_,rfl,by omega,by omega⟩
 rw[eg]
 clear eg b1 b2 b3 b4 m1
 have pg':(0:Int)<g:=by omega
 have d1:=Int.emod_nonneg y2 (b:=g) (by omega)
 have d2:=Int.emod_lt_of_pos y2 pg'
 obtain⟨dd,ed,dd1,dd2⟩:∃x:Int,atI [IV.int 0,IV.int (y2%g)] (y3%2)=some (.int x)/\0<=x/\x<g:=by
  have:y3%2=0∨y3%2=1:=by omega
  rcases this with q|q<;>rw[q]
  ·exact⟨_,Je4,by omega,by omega⟩
  ·exact⟨_,Je5,by omega,by omega⟩
 simp! [Jga,Jbe,hi,e2,e3,pg',grown,grow hi,show(0:Int)<2 by decide,List.length_cons,List.length_nil]
 refine⟨by omega,_,ed,?_⟩
 simp_all! [true_and]
 have xA:Ex h1 (h1++[L3.IO.lst [IV.int 0,IV.int (y2%g)]]):=.one _ _
 generalize h1++[L3.IO.lst [IV.int 0,IV.int (y2%g)]]=hA at xA ⊢
 have hiA:=xA.get hi
 have m3:Ja0 3 g:=.inl (by decide)
 have t1:=Int.emod_nonneg y4 (b:=1+g/3) (by omega)
 have t2:=Int.emod_lt_of_pos y4 (b:=1+g/3) (by omega)
 have t3:=Int.emod_nonneg y4 (b:=1+3*g/2) (by omega)
 have t4:=Int.emod_lt_of_pos y4 (b:=1+3*g/2) (by omega)
 obtain⟨lt,el,lt1,lt2⟩:∃x:Int,atI [IV.int 0,IV.int 0,IV.int (y4%(1+g/3)),IV.int (y4%(1+3*g/2))] (y5%4)=some (.int x)/\0<=x/\x<=3*g/2:=by
  have:y5%4=0∨y5%4=1∨y5%4=2∨y5%4=3:=by omega
  rcases this with q|q|q|q<;>rw[q]
  ·exact⟨_,Je4,by omega,by omega⟩
  ·exact⟨_,Je5,by omega,by omega⟩
  ·exact⟨_,Jhg,by omega,by omega⟩
  ·exact⟨_,Jkq,by omega,by omega⟩
 simp! [Jgb,Jbe,hiA,e4,e5,m3,l2,l3,grown,grow hiA,show(0:Int)<1+g/3 by omega,show(0:Int)<1+3*g/2 by omega,show(0:Int)<3 by decide,show(0:Int)<2 by decide,show(0:Int)<4 by decide,List.length_cons,List.length_nil]
 refine⟨by omega,_,el,?_⟩
 simp_all! [true_and]
 have xB:Ex hA (hA++[L3.IO.lst [IV.int 0,IV.int 0,IV.int (y4%(1+g/3)),IV.int (y4%(1+3*g/2))]]):=.one _ _
 generalize hA++[L3.IO.lst [IV.int 0,IV.int 0,IV.int (y4%(1+g/3)),IV.int (y4%(1+3*g/2))]]=hB at xB ⊢
 have hiB:=xB.get hiA
 obtain⟨dv,ev,dv1,dv2⟩:∃x:Int,atI [IV.int 1,IV.int 2,IV.int 4,IV.int 9] (y7%4)=some (.int x)/\0<x/\x<=9:=by
  have:y7%4=0∨y7%4=1∨y7%4=2∨y7%4=3:=by omega
  rcases this with q|q|q|q<;>rw[q]
  ·exact⟨_,Je4,by omega,by omega⟩
  ·exact⟨_,Je5,by omega,by omega⟩
  ·exact⟨_,Jhg,by omega,by omega⟩
  ·exact⟨_,Jkq,by omega,by omega⟩
 simp! [Jgc,Jbe,hiB,e6,e7,grown,grow hiB,show(0:Int)<4 by decide,List.length_cons,List.length_nil]
 refine⟨by omega,_,ev,?_⟩
 have ld:dv.natAbs.log2<9000:=Jm2 (b:=9) (by omega) (by decide)
 simp! [ld,dv1,J5a,J2l]
 obtain⟨M,eM,M1,M2⟩:∃M:Int,(if g/dv>1 then g/dv else 1)=M/\1<=M/\M<=g:=by
  have:g/dv<=g:=Int.ediv_le_self _ (by omega)
  split
  ·exact⟨_,rfl,by omega,this⟩
  ·exact⟨_,rfl,by omega,by omega⟩
 rw[eM]
 have s1:=Int.emod_nonneg y6 (b:=M) (by omega)
 have s2:=Int.emod_lt_of_pos y6 (b:=M) (by omega)
 refine⟨by omega,?_⟩
 generalize hlen:1+y6%M=len
 have xC:Ex hB (hB++[L3.IO.lst [IV.int 1,IV.int 2,IV.int 4,IV.int 9]]):=.one _ _
 generalize hB++[L3.IO.lst [IV.int 1,IV.int 2,IV.int 4,IV.int 9]]=hC at xC ⊢
 have x1C:=((x1.trans xA).trans xB).trans xC
 have lC:=x1C.len
 have hiC:=(xB.trans xC).get hiA
 have xD:Ex hC (hC++[L3.IO.lst []]++[L3.IO.lst []]):=(Ex.one _ _).trans (.one _ _)
 have gD:(hC++[L3.IO.lst []]++[L3.IO.lst []])[(hC++[L3.IO.lst []]).length]?=some (.lst []):=grown
 have gE:(hC++[L3.IO.lst []]++[L3.IO.lst []])[hC.length]?=some (.lst []):=grow grown
 have base:∀hs:List Hd,HsOk len hs->F7 unit (⟨⟨⟨#[]⟩,g,len,g-dd,lt⟩,hs⟩:RH):=λ hs ok=>⟨g1,g2,by show 1<=len;omega,by show len<=g;omega,by show 1<=g-dd;omega,by show g-dd<=g;omega,lt1,lt2,ok⟩
 simp! [Jgd,Jge,List.length_nil,Nat.zero_le,Jqx (xD.get (x1C.get hW)) hw gD]
 rcases lw with rfl|lw
 ·simp! [List.isEmpty_nil,Jcd,List.length_cons,List.length_nil]
  have ok0:HsOk len []:=⟨by simp,by simp,λ m n hm hn=>absurd hn (by simp)⟩
  first
  | exact⟨by omega,x1C.trans xD,⟨⟨⟨#[]⟩,g,len,g-dd,lt⟩,[]⟩,_,base [] ok0,rfl,by omega,gE,rfl⟩
  | exact⟨by omega,x1C.trans xD,⟨⟨#[]⟩,g,len,g-dd,lt⟩,[],_,base [] ok0,rfl,by omega,gE,rfl⟩
 ·have ne:ws.isEmpty=false:=by cases ws with|nil=>simp at lw|cons _ _=>rfl
  simp! [ne,Jr3,xD.get hiC]
  rw[show(some (8:Int))=some ((8:Nat):Int) from rfl,Jq7,<-List.map_drop]
  have xE:Ex (hC++[L3.IO.lst []]++[L3.IO.lst []]) (hC++[L3.IO.lst []]++[L3.IO.lst []]++[L3.IO.lst ((xs.drop 8).map IV.int)]):=.one _ _
  refine WR.mono (Jxm (k:=k) grown (by rw[List.length_drop];omega) (xE.get (xD.get (x1C.get hW))) lw hw nd (by omega)) ?_
  rintro _ h3 ⟨q,hs,rfl,hq,gq,ok,x3⟩
  simp! [Jcd,List.length_cons,List.length_nil]
  have l1:=(xD.trans xE).len
  first
  | exact⟨by omega,(x1C.trans (xD.trans xE)).trans x3,⟨⟨⟨#[]⟩,g,len,g-dd,lt⟩,hs⟩,q,base hs ok,rfl,by omega,gq,λ e=>by rw[e] at ne;cases ne⟩
  | exact⟨by omega,(x1C.trans (xD.trans xE)).trans x3,⟨⟨#[]⟩,g,len,g-dd,lt⟩,hs,q,base hs ok,rfl,by omega,gq,λ e=>by rw[e] at ne;cases ne⟩
end
noncomputable abbrev tp6 (r:RH) (q:Nat):IV:=.tup (.str r.1.name::tp5 r q)
structure RowT (h:IH) (lo:Nat) (ys:List IV) (rs:List RH):Prop where
 len:ys.length=rs.length
 at_:∀(i:Nat) y r,ys[i]?=some y->rs[i]?=some r->∃q,y=tp6 r q/\q≠lo/\h[q]?=some (.lst (r.2.map tupH))
theorem RowT.kpb {h h':IH}{lo:Nat}{ys:List IV}{rs:List RH}(k:KpB lo h h') (w:RowT h lo ys rs):RowT h' lo ys rs:=⟨w.len,λ i y r a b=>let ⟨q,e,n,g⟩:=w.at_ i y r a b;⟨q,e,n,k _ _ n g⟩⟩
theorem RowT.kp {h h':IH}{lo:Nat}{ys:List IV}{rs:List RH}(k:Kp h h') (w:RowT h lo ys rs):RowT h' lo ys rs:=w.kpb λ _ _ _ q=>k _ _ q
theorem RowT.get {h:IH}{lo:Nat}{ys:List IV}{rs:List RH}(w:RowT h lo ys rs){n:Nat}{r:RH}(e:rs[n]?=some r):∃q,ys[n]?=some (tp6 r q)/\h[q]?=some (.lst (r.2.map tupH)):=by
 have hn:n<ys.length:=by rw[w.len];exact(List.getElem?_eq_some_iff.mp e).1
 obtain⟨q,e1,_,g⟩:=w.at_ n _ r (List.getElem?_eq_getElem hn) e
 exact⟨q,by rw[List.getElem?_eq_getElem hn,e1],g⟩
theorem RowT.snoc {h:IH}{lo q:Nat}{ys:List IV}{rs:List RH}{r:RH}(w:RowT h lo ys rs) (n:q≠lo) (g:h[q]?=some (.lst (r.2.map tupH))):RowT h lo (ys++[tp6 r q]) (rs++[r]):=by
 have wl:=w.len
 refine⟨by simp[wl],λ i y s a b=>?_⟩
 by_cases hi:i<ys.length
 ·rw[List.getElem?_append_left hi] at a
  rw[List.getElem?_append_left (by omega)] at b
  exact w.at_ i y s a b
 ·have li:=(List.getElem?_eq_some_iff.mp a).1
  rw[List.length_append,List.length_singleton] at li
  obtain rfl:i=ys.length:=by omega
  rw[List.getElem?_append_right (Nat.le_refl _),Nat.sub_self] at a
  rw[wl,List.getElem?_append_right (Nat.le_refl _),Nat.sub_self] at b
  cases a
  cases b
  exact⟨q,rfl,n,g⟩
structure Dr (c unit:Int) (rs:List RH):Prop where
 u1:1<=unit
 u2:unit<=10^40
 f:∀r∈rs,F7 unit r
 nm:(rs.map λ r=>r.1.name)=(List.range rs.length).map (wd c)
theorem F7.to8 {unit:Int}{r:RH}(f:F7 unit r) (hu:1<=unit) (hn:IsNm r.1.name):F8 unit r:=by
 have g1:=f.g1
 have g2:=f.g2
 have t2:=f.t2
 exact⟨hn,f.g1,by omega,f.l1,f.d1,f.d2,f.t1,by omega,f.ok⟩
theorem Dr.gd {c unit:Int}{rs:List RH}(D:Dr c unit rs) (hl:rs.length<=7):Gd unit rs:=by
 refine⟨D.u1,D.u2,hl,λ r hr=>(D.f r hr).to8 D.u1 ?_,?_⟩
 ·have:r.1.name∈(List.range rs.length).map (wd c):=by rw[<- D.nm];exact List.mem_map_of_mem hr
  obtain⟨j,_,e⟩:=List.mem_map.mp this
  rw[<- e]
  exact Jws c j
 ·rw[D.nm,List.Nodup,List.pairwise_map]
  refine(List.nodup_range (n:=rs.length)).imp_of_mem λ {a b} ha hb hne e=>hne ?_
  exact Jz4 (by have:=List.mem_range.mp ha;omega) (by have:=List.mem_range.mp hb;omega) e
noncomputable def SQ (h:IH) (held:Bool) (v:IV) (h':IH):Prop:=Ex h h'/\∃S lo ys rs c unit,v=.ref S/\h.length<=S/\h'[S]?=some (.lst ys)/\RowT h' lo ys rs/\Dr c unit rs/\rs.length<=5/\(held=false->∀r∈rs,r.2=[])
noncomputable def wOf (c:Int) (v:IV):IV:=match v with
 | .int q=>.str (wd c q.toNat)
 | _=>.non
section
variable {k:Nat}{h:IH}
theorem J13 (ns:List Int) (held:Bool):WR (Jeb (k+4) [.rol (ns.map .int),.bl held] h) (SQ h held):=by
 have hb:=Jc
 rw[Jp7]
 have c0:=λ (h:IH)=>Jmt (k:=k+2) (h:=h) ns 0 (by decide)
 have c1:=λ (h:IH)=>Jmt (k:=k+2) (h:=h) ns 1 (by decide)
 generalize ns.getD (Int.toNat 0) 0=x0 at c0
 generalize ns.getD (Int.toNat 1) 0=x1 at c1
 have t15:Int.toNat 15=15:=rfl
 have t40:Int.toNat 40=40:=rfl
 have l4:(Int.natAbs 4).log2<9000:=by decide
 have l5:(Int.natAbs 5).log2<9000:=by decide
 have l7:(Int.natAbs 7).log2<9000:=by decide
 have w15:(0:Int)<=15/\(15:Int)<=1000000/\Int.natAbs 10<2^64:=by decide
 have w40:(0:Int)<=40/\(40:Int)<=1000000/\Int.natAbs 10<2^64:=by decide
 simp! [Jdi,Jih,c0,t15,t40,l4,w15,w40,Jbe,grown,show(0:Int)<4 by decide,List.length_cons,List.length_nil]
 have p15:(0:Int)<10^15:=by decide
 have p40:(10:Int)^15<=10^40:=by decide +kernel
 have p4:(4:Int)<=10^40:=by decide +kernel
 obtain⟨U,eU,U1,U2⟩:∃U:Int,atI [IV.int 4,IV.int (10^15),IV.int (10^15),IV.int (10^40)] (x0%4)=some (.int U)/\0<U/\U<=10^40:=by
  have:x0%4=0∨x0%4=1∨x0%4=2∨x0%4=3:=by omega
  rcases this with q|q|q|q<;>rw[q]
  ·exact⟨_,Je4,by decide,p4⟩
  ·exact⟨_,Je5,p15,p40⟩
  ·exact⟨_,Jhg,p15,p40⟩
  ·exact⟨_,Jkq,by decide +kernel,Int.le_refl _⟩
 refine⟨by omega,_,eU,?_⟩
 have u0:=Int.emod_nonneg (x0/4) (b:=U) (by omega)
 have u1:=Int.emod_lt_of_pos (x0/4) U1
 simp! [U1,Jii,Jij,c1,List.length_nil,Nat.zero_le]
 generalize hu:1+x0/4%U=unit
 have hu1:1<=unit:=by omega
 have hu2:unit<=10^40:=by
  clear eU c0 c1 p40 p4
  generalize (10:Int)^40=y at *
  omega
 have xA:Ex h (h++[L3.IO.lst [IV.int 4,IV.int (10^15),IV.int (10^15),IV.int (10^40)]]++[L3.IO.lst []]):=(Ex.one _ _).trans (.one _ _)
 have gA:(h++[L3.IO.lst [IV.int 4,IV.int (10^15),IV.int (10^15),IV.int (10^40)]]++[L3.IO.lst []])[(h++[L3.IO.lst [IV.int 4,IV.int (10^15),IV.int (10^15),IV.int (10^40)]]).length]?=some (.lst []):=grown
 generalize (h++[L3.IO.lst [IV.int 4,IV.int (10^15),IV.int (10^15),IV.int (10^40)]]).length=A at gA ⊢
 generalize h++[L3.IO.lst [IV.int 4,IV.int (10^15),IV.int (10^15),IV.int (10^40)]]++[L3.IO.lst []]=hA at xA gA ⊢
 clear eU p15 p40 p4 u0 u1 hu
 -- the loop, with the words
 have loop:∀(hB:IH) (W:Nat) (ws:List Str),Ex h hB->hB[W]?=some (.lst (ws.map .str))->(∀x∈ws,IsNm x)->ws.Nodup->(ws=[]∨ws.length=3)->(held=false->ws=[])->∀N:ISt->IH->Prop,
   WS (Jdk (k+3) [some (.rol (ns.map .int)),some (.bl held),some (.int x0),some (.int unit),some (.int x1),some (.ref W),none,none,none] hB) N (SQ h held):=by
  intro hB W ws xB gW hw nd lw hh N
  simp! [Jdk,Jik,List.length_nil,Nat.zero_le,show(0:Int)<6 by decide]
  refine⟨by omega,?_⟩
  refine Jam (λ n σ h'=>∃ys rs g a b,h'=hB++.lst ys::g/\σ=[some (.rol (ns.map .int)),some (.bl held),some (.int x0),some (.int unit),some (.int x1),some (.ref W),some (.ref hB.length),a,b]/\RowT h' hB.length ys rs/\rs.length=n/\Dr (x1/7) unit rs/\(held=false->∀r∈rs,r.2=[]))
   (λ _ _ _ _=>trivial) ?_ ?_ ⟨[],[],[],none,none,rfl,rfl,⟨rfl,λ i y r a b=>by simp at a⟩,rfl,⟨hu1,hu2,by simp,rfl⟩,by simp⟩
  ·rintro n hn _ _ ⟨ys,rs,g,a,b,rfl,rfl,w,ln,D,hr⟩
   rw[Jki]
   rw[Ja6] at hn
   have hn6:n<6:=by omega
   have cc:=λ (h:IH)=>Jmt (k:=k+2) (h:=h) ns (2+(0+(n:Int))) (by omega)
   generalize ns.getD (2+(0+(n:Int))).toNat 0=y at cc
   have m7:Ja0 7 (0+(n:Int)):=.inl (by decide)
   have gW':(hB++L3.IO.lst ys::g)[W]?=some (.lst (ws.map .str)):=grow gW
   simp! [Jg2,cc,m7]
   refine WR.mono (Jyb (k:=k+1) hu1 hu2 gW' hw nd lw) ?_
   rintro _ h3 ⟨⟨g3,rfl⟩,r,q,f,rfl,hq,gq,hz⟩
   have e3:hB++L3.IO.lst ys::g++g3=hB++L3.IO.lst ys::(g++g3):=by simp
   rw[Jhw (i:=hB.length) (h1:=hB++L3.IO.lst ys::g++g3) rfl (by rw[e3];exact Jq) Jdn]
   simp! [l7,show(0:Int)<7 by decide]
   rw[show(0+(n:Int))=(n:Int) by omega]
   refine WR.mono (Jwt (k:=k+2) (x1/7) n) ?_
   rintro _ _ ⟨rfl,g4,rfl⟩
   have e4:hB++L3.IO.lst ys::g++g3++g4=hB++L3.IO.lst ys::(g++g3++g4):=by simp
   have kB:KpB hB.length (hB++L3.IO.lst ys::g) (hB++L3.IO.lst ys::(g++g3++g4)):=λ j o _ z=>by rw[<- e4];exact grow (grow z)
   have w4:=w.kpb kB
   have gq4:(hB++L3.IO.lst ys::(g++g3++g4))[q]?=some (.lst (r.2.map tupH)):=by rw[<- e4];exact grow gq
   have hq':q≠hB.length:=by rw[List.length_append,List.length_cons] at hq;omega
   have ly:ys.length<=6:=by have:=w.len;omega
   rw[e4]
   simp only[Jm]
   rw[if_pos ⟨by simp,by simp,by simp;omega⟩]
   simp! [Jd7,Jq,Jne,List.length_cons,List.length_nil]
   refine⟨by omega,by omega,ys++[tp6 ⟨{ r.1 with name:=wd (x1/7) n },r.2⟩ q],rs++[⟨{ r.1 with name:=wd (x1/7) n },r.2⟩],g++g3++g4,_,_,rfl,rfl,?_,by simp[ln],⟨hu1,hu2,?_,?_⟩,?_⟩
   ·have kC:KpB hB.length (hB++L3.IO.lst ys::(g++g3++g4)) (hB++L3.IO.lst (ys++[tp6 ⟨{ r.1 with name:=wd (x1/7) n },r.2⟩ q])::(g++g3++g4)):=λ j o hj z=>by
     rw[<- Jne (L3.IO.lst ys),List.getElem?_set_ne (Ne.symm hj)]
     exact z
    exact(w4.kpb kC).snoc hq' (kC _ _ hq' gq4)
   ·intro s hs
    rw[List.mem_append,List.mem_singleton] at hs
    rcases hs with hs|rfl
    ·exact D.f s hs
    ·exact⟨f.g1,f.g2,f.l1,f.l2,f.d1,f.d2,f.t1,f.t2,f.ok⟩
   ·rw[List.map_append,D.nm,List.length_append,List.length_singleton,List.range_succ,List.map_append,ln]
    rfl
   ·intro z s hs
    rw[List.mem_append,List.mem_singleton] at hs
    rcases hs with hs|rfl
    ·exact hr z s hs
    ·exact hz (hh z)
  ·rintro _ _ ⟨ys,rs,g,a,b,rfl,rfl,w,ln,D,hr⟩
   rw[Ja6] at ln
   simp! [Jil]
   have:=xB.len
   exact⟨xB.trans (.cons _ _ _),_,_,ys,rs,x1/7,unit,rfl,this,Jq,w,D,by omega,hr⟩
 cases held with
 | false =>
  simp! [Jdj]
  exact loop hA A [] xA gA (by simp) (by simp) (.inl rfl) (λ _=>rfl) _
 | true =>
  simp! [Jdj]
  refine WR.mono (Jy (h:=hA) (xs:=rngI 0 3) (chk:=λ _=>True) (f:=wOf (x1/5)) ?_ (by rw[Ja6];omega) (λ _ _=>trivial) ?_) ?_
  ·simp! [true_and]
   omega
  ·intro x hx h2 q
   obtain⟨n,hn,rfl⟩:=List.mem_iff_getElem.mp hx
   rw[Jki]
   simp only[List.map_cons,List.map_nil,List.getElem?_cons_succ,List.getElem?_cons_zero,Option.join_some]
   simp! [Je0,l5,show(0:Int)<5 by decide]
   rw[show(0+(n:Int))=(n:Int) by omega]
   refine WR.mono (Jwt (k:=k+2) (x1/5) n) ?_
   rintro _ h3 ⟨rfl,x3⟩
   exact⟨by simp[wOf],x3⟩
  ·rintro _ _ ⟨rfl,g,rfl⟩
   have em:(rngI 0 3).map (wOf (x1/5))=((List.range 3).map (wd (x1/5))).map IV.str:=by
    refine List.ext_getElem (by rw[List.length_map,Ja6,List.length_map,List.length_map,List.length_range];rfl) λ i h1 h2=>?_
    rw[List.getElem_map,Jki,List.getElem_map,List.getElem_map,List.getElem_range]
    simp[wOf]
   rw[em]
   refine loop _ _ ((List.range 3).map (wd (x1/5))) (xA.trans (.cons _ _ _)) Jq (λ x hx=>?_) ?_ (.inr (by simp)) (λ z=>by cases z) _
   ·obtain⟨j,_,rfl⟩:=List.mem_map.mp hx
    exact Jws _ j
   ·rw[List.Nodup,List.pairwise_map]
    refine(List.nodup_range (n:=3)).imp_of_mem λ {a b} ha hb hne e=>hne ?_
    exact Jz4 (by have:=List.mem_range.mp ha;omega) (by have:=List.mem_range.mp hb;omega) e
theorem Jnj (kvs:List (Key×IV)) (k k':Key) (v:IV):valI (putD kvs k v) k'=if k=k' then some v else valI kvs k':=by
 unfold putD
 have any_iff:∀l:List (Key×IV),(l.any λ kv=>decide (kv.1=k))=(valI l k).isSome:=by
  intro l
  induction l with
  | nil=>rfl
  | cons p r ih =>
   rw[List.any_cons,ih]
   by_cases e:p.1=k
   ·rw[Jax e];simp[e]
   ·rw[Jah e];simp[e]
 split
 ·rename_i ha
  have key:∀l:List (Key×IV),valI (l.map λ kv=>if kv.1=k then(kv.1,v) else kv) k'=if k=k' then(if (valI l k).isSome then some v else none) else valI l k':=by
   intro l
   induction l with
   | nil=>by_cases e:k=k'<;>simp[valI]
   | cons p r ih =>
    rw[List.map_cons]
    by_cases e:p.1=k
    ·rw[if_pos e]
     by_cases e2:k=k'
     ·rw[Jax (by rw[<- e2];exact e),if_pos e2,Jax e];rfl
     ·rw[Jah (by rw[e];exact e2),ih,if_neg e2,if_neg e2,Jah (by rw[e];exact e2)]
    ·rw[if_neg e]
     by_cases e2:p.1=k'
     ·have:¬k=k':=λ z=>e (e2.trans z.symm)
      rw[Jax e2,if_neg this,Jax e2]
     ·rw[Jah e2,ih,Jah e,Jah e2]
  rw[key,<-any_iff,ha]
  simp
 ·rename_i ha
  have hn:valI kvs k=none:=by
   have:=any_iff kvs
   cases q:valI kvs k with
   | none=>rfl
   | some z=>rw[q] at this;exact absurd this ha
  have key:∀l:List (Key×IV),valI (l++[(k,v)]) k'=match valI l k' with
    | some w=>some w
    | none=>if k=k' then some v else none:=by
   intro l
   induction l with
   | nil =>
    by_cases e:k=k'
    ·rw[List.nil_append,Jax e,if_pos e];rfl
    ·rw[List.nil_append,Jah e,if_neg e];rfl
   | cons p r ih =>
    by_cases e:p.1=k'
    ·rw[List.cons_append,Jax e,Jax e]
    ·rw[List.cons_append,Jah e,Jah e,ih]
  rw[key]
  by_cases e:k=k'
  ·subst e;rw[hn,if_pos rfl]
  ·rw[if_neg e,if_neg e];cases valI kvs k'<;>rfl
theorem Jz5 {i:Nat}{kvs:List (Key×IV)}{x:Int}{Q:IV->IH->Prop}(hi:h[i]?=some (.dct kvs)):WR (cInD (.int x) (.ref i) h) Q=Q (.bl (valI kvs (.inl x)).isSome) h:=by
 unfold cInD
 simp only[hi,keyI]
 rfl
theorem Jz6 {i:Nat}{kvs:List (Key×IV)}{x:Int}{v:IV}{Q:IV->IH->Prop}(hi:h[i]?=some (.dct kvs)) (e:valI kvs (.inl x)=some v):WR (Jqh (.ref i) (.int x) h) Q=Q v h:=by
 unfold Jqh
 simp only[hi,keyI,e]
 rfl
theorem Jw5 {σ:ISt}{N:ISt->IH->Prop}{R:IV->IH->Prop}(o i:E1) (v:IV):WS (gSbD o i v σ h) N R=WR (o σ h) λ ov h1=>WR (i σ h1) λ iv h2=>WS (Jwi ov iv v σ h2) N R:=by
 unfold gSbD
 rw[Jcz]
 congr 1
 funext ov h1
 rw[Jcz]
theorem Jnp {σ:ISt}{i:Nat}{kvs:List (Key×IV)}{x:Int}{v:IV}{N:ISt->IH->Prop}{R:IV->IH->Prop}(hi:h[i]?=some (.dct kvs)) (hl:kvs.length<sizeLine):WS (Jwi (.ref i) (.int x) v σ h) N R=N σ (h.set i (.dct (putD kvs (.inl x) v))):=by
 unfold Jwi
 simp only[hi,keyI,hl,if_true]
 rfl
end
theorem Jwx {h:IH}{σ:ISt}{Q:IV->IH->Prop}:WR (Juz σ h) Q=Q (.ref h.length) (h++[.dct []]):=rfl
theorem J2q {α:Type}{x y z u v w:α}{xs:List α}:atI (x::y::z::u::v::w::xs) 5=some w:=Jan (n:=5) rfl
noncomputable def dH (a:Hd):PyData:=.tuple [.str a.1,.int a.2.1,.int a.2.2]
noncomputable def dR (r:RH):PyData:=.tuple [.str r.1.name,.int r.1.gap,.int r.1.len,.int r.1.due,.int r.1.late,.list (r.2.map dH)]
theorem Jvw {x:Str}(q:IsNm x):PyData.canLay0 (.str x)=true:=by
 simp only[PyData.canLay0]
 unfold PyData.strOk
 rw[<- Array.all_toList,List.all_eq_true]
 intro c hc
 have:=q.2.2 c hc
 simp only[decide_eq_true_eq]
 omega
theorem J3s {hs:List Hd}(q:∀a∈hs,IsNm a.1):PyData.canLayAll0 (hs.map dH)=true:=by
 induction hs with
 | nil=>rfl
 | cons a hs ih =>
  have e:PyData.canLay0 (dH a)=true:=by
   have:=Jvw (q a (List.mem_cons_self ..))
   simp only[dH,PyData.canLay0,PyData.canLayAll0] at this ⊢
   rw[this]
   rfl
  rw[List.map_cons,PyData.canLayAll0,e,ih λ b hb=>q b (List.mem_cons_of_mem _ hb)]
  rfl
theorem J3t {rs:List RH}(q:∀r∈rs,IsNm r.1.name/\∀a∈r.2,IsNm a.1):PyData.canLayAll0 (rs.map dR)=true:=by
 induction rs with
 | nil=>rfl
 | cons r rs ih =>
  have e:PyData.canLay0 (dR r)=true:=by
   have h1:=Jvw (q r (List.mem_cons_self ..)).1
   have h2:=J3s (q r (List.mem_cons_self ..)).2
   simp only[dR,PyData.canLay0,PyData.canLayAll0] at h1 ⊢
   rw[h1,h2]
   rfl
  rw[List.map_cons,PyData.canLayAll0,e,ih λ b hb=>q b (List.mem_cons_of_mem _ hb)]
  rfl
theorem d_hs' {h:IH}{q n:Nat}{hs:List Hd}(e:h[q]?=some (.lst (hs.map tupH))):toD h (n+3) (.ref q)=some (.list (hs.map dH)):=by
 have:∀hs:List Hd,(hs.map tupH).mapM (toD h (n+2))=some (hs.map dH):=by
  intro hs
  induction hs with
  | nil=>rfl
  | cons a r ih=>rw[List.map_cons,List.mapM_cons,ih];rfl
 rw[Jfh e,this]
 rfl
theorem d_row {h:IH}{lo:Nat}{ys:List IV}{rs:List RH}(w:RowT h lo ys rs):ys.mapM (toD h 5)=some (rs.map dR):=by
 obtain⟨wl,at_⟩:=w
 induction ys generalizing rs with
 | nil=>cases rs with|nil=>rfl|cons _ _=>simp at wl
 | cons y ys ih =>
  cases rs with
  | nil=>simp at wl
  | cons r rs =>
   obtain⟨q,e,_,g⟩:=at_ 0 y r rfl rfl
   have ed:toD h 5 y=some (dR r):=by
    rw[e]
    show((IV.str r.1.name::tp5 r q).mapM (toD h 4)).map PyData.tuple=some (dR r)
    simp only[List.mapM_cons,List.mapM_nil,d_hs' (n:=1) g]
    rfl
   rw[List.mapM_cons,ed,ih (rs:=rs) (by simpa using wl) λ i y' r' a b=>at_ (i+1) y' r' a b]
   rfl
structure Cm where
 at_:Nat
 come:Int
 late:Int
 len:Int
noncomputable abbrev tupC (c:Cm):IV:=.tup [.int c.at_,.int c.come,.int c.late,.int c.len]
structure COk (rs:List RH) (c:Cm):Prop where
 at_:c.at_<rs.length
 come:0<=c.come
 l0:0<=c.late
 l1:c.late<=(rs[c.at_]).1.late
 n1:1<=c.len
 n2:c.len<=(rs[c.at_]).1.len
structure Legal (rs:List RH) (cs:List Cm):Prop where
 ok:∀c∈cs,COk rs c
 far:∀(i j:Nat) (a b:Cm),i<j->cs[i]?=some a->cs[j]?=some b->a.at_=b.at_->∀r,rs[a.at_]?=some r->a.come+r.1.gap<=b.come
structure Lst (kvs:List (Key×IV)) (cs:List Cm):Prop where
 no:∀n:Nat,valI kvs (.inl (n:Int))=none->∀c∈cs,c.at_≠n
 yes:∀(n:Nat) v,valI kvs (.inl (n:Int))=some v->∃x,v=.int x/\0<=x/\∀c∈cs,c.at_=n->c.come<=x
noncomputable def gOf (v:IV):IV:=match v with
 | .tup (_::g::_)=>g
 | _=>.non
theorem RowT.mapG {h:IH}{lo:Nat}{ys:List IV}{rs:List RH}(w:RowT h lo ys rs){F:IV->IV}{g:RH->IV}(hf:∀r q,F (tp6 r q)=g r):ys.map F=rs.map g:=by
 have wl:=w.len
 refine List.ext_getElem (by simp[wl]) λ i h1 h2=>?_
 rw[List.length_map] at h1 h2
 rw[List.getElem_map,List.getElem_map]
 obtain⟨q,e,_,_⟩:=w.at_ i _ _ (List.getElem?_eq_getElem h1) (List.getElem?_eq_getElem h2)
 rw[e]
 exact hf _ q
structure RI (h h':IH) (cs:List Cm) (kvs:List (Key×IV)):Prop where
 r:h'[h.length]?=some (.lst (cs.map tupC))
 d:h'[h.length+1]?=some (.dct kvs)
 kp:Kp h h'
theorem RI.ex {h h1 h2:IH}{cs:List Cm}{kvs:List (Key×IV)}(R:RI h h1 cs kvs) (x:Ex h1 h2):RI h h2 cs kvs:=⟨x.get R.r,x.get R.d,R.kp.trans x.kp⟩
theorem J21 {h h':IH}(k:Kp h h'):Ex h h':=by
 refine⟨h'.drop h.length,List.ext_getElem? λ i=>?_⟩
 by_cases hi:i<h.length
 ·rw[List.getElem?_append_left hi,List.getElem?_eq_getElem hi]
  exact k i _ (List.getElem?_eq_getElem hi)
 ·rw[List.getElem?_append_right (by omega),List.getElem?_drop]
  congr 1
  omega
theorem RI.ex0 {h h1:IH}{cs:List Cm}{kvs:List (Key×IV)}(R:RI h h1 cs kvs):Ex h h1:=J21 R.kp
section
variable {k:Nat}{h:IH}
theorem Jqp {S j lo:Nat}{ys:List IV}{rs:List RH}(hS:h[S]?=some (.lst ys)) (w:RowT h lo ys rs) (q:∀r∈rs,IsNm r.1.name/\∀a∈r.2,IsNm a.1) (hj:h[j]?=some (.lst [])):cEq (.ref S) (.ref j) h=.ok (.bl rs.isEmpty) h:=by
 have e1:toD h 6 (.ref S)=some (.list (rs.map dR)):=by rw[Jfh hS,d_row w];rfl
 have e2:toD h 6 (.ref j)=some (.list []):=by rw[Jfh hj];rfl
 have e3:Jfd (.ref S) (.ref j) h=some rs.isEmpty:=by
  unfold Jfd
  rw[e1,e2]
  dsimp only
  rw[if_pos ⟨by rw[PyData.canLay0];exact J3t q,by rw[PyData.canLay0,PyData.canLayAll0]⟩,PyData.eqv]
  cases rs with
  | nil=>rw[List.map_nil,PyData.eqvAll];rfl
  | cons a as=>rw[List.map_cons,PyData.eqvAll];rfl;all_goals intros;simp_all
 unfold cEq
 have e4:Jhb (.ref S) (.ref j)=none:=rfl
 rw[e4]
 dsimp only
 rw[e3]
theorem J2n {i:Nat}{ms:List Int}{Q:IV->IH->Prop}(hi:h[i]?=some (.lst (ms.map .int))) (hm:ms≠[]):WR (Jsv (.ref i) h) Q=Q (.int (Ja8 (λ i=>ms.getD i 0) ms.length)) h:=by
 unfold Jsv
 simp only[hi,Jcu,hm,if_false]
 rfl
theorem pkW {l y1 y2:Int}(f3:0<=l):∃x:Int,atI [IV.int l,IV.int 0,IV.int (y1%(l+1))] (y2%3)=some (.int x)/\0<=x/\x<=l:=by
 have w1:=Int.emod_nonneg y1 (b:=l+1) (by omega)
 have w2:=Int.emod_lt_of_pos y1 (b:=l+1) (by omega)
 have:y2%3=0∨y2%3=1∨y2%3=2:=by omega
 rcases this with q|q|q<;>rw[q]
 ·exact⟨_,Je4,by omega,by omega⟩
 ·exact⟨_,Je5,by omega,by omega⟩
 ·exact⟨_,Jhg,by omega,by omega⟩
theorem pkS {g y3 y4:Int}(f:0<g):∃x:Int,atI [IV.int 0,IV.int (y3%g),IV.int (0-y3%g)] (y4%3)=some (.int x)/\0-g<x/\x<g:=by
 have v1:=Int.emod_nonneg y3 (b:=g) (by omega)
 have v2:=Int.emod_lt_of_pos y3 (b:=g) (by omega)
 have:y4%3=0∨y4%3=1∨y4%3=2:=by omega
 rcases this with q|q|q<;>rw[q]
 ·exact⟨_,Je4,by omega,by omega⟩
 ·exact⟨_,Je5,by omega,by omega⟩
 ·exact⟨_,Jhg,by omega,by omega⟩
theorem pkM {g y3 y4:Int}(f:0<g):∃x:Int,atI [IV.int 0,IV.int (y3%(1+g))] (y4%2)=some (.int x)/\0<=x:=by
 have v3:=Int.emod_nonneg y3 (b:=1+g) (by omega)
 have:y4%2=0∨y4%2=1:=by omega
 rcases this with q|q<;>rw[q]
 ·exact⟨_,Je4,by omega⟩
 ·exact⟨_,Je5,by omega⟩
theorem pkL {l y4 y5:Int}(f:1<=l):∃x:Int,atI [IV.int l,IV.int l,IV.int (1+y5%l)] (y4/6%3)=some (.int x)/\1<=x/\x<=l:=by
 have s1:=Int.emod_nonneg y5 (b:=l) (by omega)
 have s2:=Int.emod_lt_of_pos y5 (b:=l) (by omega)
 have:y4/6%3=0∨y4/6%3=1∨y4/6%3=2:=by omega
 rcases this with q|q|q<;>rw[q]
 ·exact⟨_,Je4,by omega,by omega⟩
 ·exact⟨_,Je5,by omega,by omega⟩
 ·exact⟨_,Jhg,by omega,by omega⟩
theorem J4j {S C lo:Nat}{cells:List Int}{ys:List IV}{rs:List RH}{c unit:Int}(hS:h[S]?=some (.lst ys)) (w:RowT h lo ys rs) (D:Dr c unit rs) (hr:rs.length<=7) (hC:h[C]?=some (.lst (cells.map .int))) (hc:cells.length<=64) :
  WR (Jfm (k+2) [.ref C,.ref S] h) λ v h'=>∃R cs,v=.ref R/\h.length<=R/\h'[R]?=some (.lst (cs.map tupC))/\Legal rs cs/\cs.length<=cells.length/\Ex h h':=by
 have hb:=Jc
 have wl:=w.len
 have G:=D.gd hr
 have nmq:∀r∈rs,IsNm r.1.name/\∀a∈r.2,IsNm a.1:=λ r hr=>⟨(G.f r hr).nm,λ a ha=>((G.f r hr).ok.each a ha).1⟩
 rw[Jsd]
 have x1:Ex h (h++[L3.IO.lst []]++[L3.IO.dct []]++[L3.IO.lst []]):=(Ex.one _ _).trans ((Ex.one _ _).trans (.one _ _))
 simp! [Jfa,Jjt,Jju,Jwx,List.length_nil,Nat.zero_le,Jqp (x1.get hS) (w.kp x1.kp) nmq grown]
 cases rs with
 | nil =>
  simp! [List.isEmpty_nil]
  exact⟨_,[],rfl,Nat.le_refl _,grow (grow grown),⟨by simp,λ i j a b _ e=>by simp at e⟩,by simp,x1⟩
 | cons r0 rs0 =>
 have ne:(r0::rs0).isEmpty=false:=rfl
 have pos:0<(r0::rs0).length:=by simp
 generalize r0::rs0=rs at *
 simp! [ne,Jjv]
 have gm:=w.mapG (F:=gOf) (g:=λ r=>IV.int r.1.gap) λ r q=>rfl
 have x1S:=x1.get hS
 refine WR.mono (Jy (h:=h++[L3.IO.lst []]++[L3.IO.dct []]++[L3.IO.lst []]) (xs:=ys) (chk:=λ h'=>h'[S]?=some (.lst ys)) (f:=gOf) ?_ (by omega) (λ h2 q=>q _ _ x1S) ?_) ?_
 ·simp! [Jap,x1S]
 ·intro v hv h2 q
  obtain⟨n,hn,rfl⟩:=List.mem_iff_getElem.mp hv
  obtain⟨q,e,_,_⟩:=w.at_ n _ _ (List.getElem?_eq_getElem hn) (List.getElem?_eq_getElem (show n<rs.length by omega))
  rw[e]
  simp! [Jgn]
  exact⟨rfl,.refl _⟩
 rintro _ _ ⟨rfl,g,rfl⟩
 rw[gm]
 have em:rs.map (λ r=>IV.int r.1.gap)=(rs.map λ r=>r.1.gap).map IV.int:=by simp
 rw[em]
 have hm:(rs.map λ r=>r.1.gap)≠[]:=λ e=>by
  rw[List.map_eq_nil_iff] at e
  rw[e] at pos
  simp at pos
 have x2:Ex (h++[L3.IO.lst []]++[L3.IO.dct []]++[L3.IO.lst []]) (h++[L3.IO.lst []]++[L3.IO.dct []]++[L3.IO.lst []]++L3.IO.lst ((rs.map λ r=>r.1.gap).map IV.int)::g):=.cons _ _ _
 rw[J2n Jq hm]
 have top:∀r∈rs,r.1.gap<=Ja8 (λ i=>(rs.map λ r=>r.1.gap).getD i 0) (rs.map λ r=>r.1.gap).length:=λ r hr=>by
  obtain⟨j,hj,rfl⟩:=List.mem_iff_getElem.mp hr
  have:=Jzt (λ i=>(rs.map λ r=>r.1.gap).getD i 0) (rs.map λ r=>r.1.gap).length j (by simpa using hj)
  have e:(rs.map λ r=>r.1.gap).getD j 0=(rs[j]).1.gap:=by rw[List.getD_eq_getElem?_getD,List.getElem?_map,List.getElem?_eq_getElem hj];rfl
  rw[<- e]
  exact this
 generalize Ja8 (λ i=>(rs.map λ r=>r.1.gap).getD i 0) (rs.map λ r=>r.1.gap).length=T at top
 have m3:Ja0 3 T:=.inl (by decide)
 have gR:(h++[L3.IO.lst []]++[L3.IO.dct []]++[L3.IO.lst []]++L3.IO.lst ((rs.map λ r=>r.1.gap).map IV.int)::g)[h.length]?=some (.lst []):=x2.get (grow (grow grown))
 have gD:(h++[L3.IO.lst []]++[L3.IO.dct []]++[L3.IO.lst []]++L3.IO.lst ((rs.map λ r=>r.1.gap).map IV.int)::g)[(h++[L3.IO.lst []]).length]?=some (.dct []):=x2.get (grow grown)
 have lD:(h++[L3.IO.lst []]).length=h.length+1:=by simp
 rw[lD] at gD ⊢
 have k2:Kp h (h++[L3.IO.lst []]++[L3.IO.dct []]++[L3.IO.lst []]++L3.IO.lst ((rs.map λ r=>r.1.gap).map IV.int)::g):=(x1.trans x2).kp
 generalize h++[L3.IO.lst []]++[L3.IO.dct []]++[L3.IO.lst []]++L3.IO.lst ((rs.map λ r=>r.1.gap).map IV.int)::g=hA at gR gD k2 ⊢
 have cl:=Jcv hC
 have sl:=Jcv hS
 simp! [m3,Jjw,Jap,k2 _ _ hC]
 refine Jam (λ n σ h'=>∃cs kvs a5 a6 a7 a8 a9 a10 a11 a12 a13 a14 a15,RI h h' cs kvs/\σ=[some (.ref C),some (.ref S),some (.ref h.length),some (.ref (h.length+1)),some (.int (3*T)),a5,a6,a7,a8,a9,a10,a11,a12,a13,a14,a15]/\cs.length=n/\kvs.length<=n/\Legal rs cs/\Lst kvs cs)
  (λ n σ h' ⟨_,_,_,_,_,_,_,_,_,_,_,_,_,R,_⟩=>R.kp _ _ hC) ?_ ?_ ⟨[],[],none,none,none,none,none,none,none,none,none,none,none,⟨gR,gD,k2⟩,rfl,rfl,Nat.le_refl _,⟨by simp,λ i j a b _ e=>by simp at e⟩,⟨by simp,λ n v e=>by cases e⟩⟩
 ·rintro n hn _ h1 ⟨cs,kvs,a5,a6,a7,a8,a9,a10,a11,a12,a13,a14,a15,R,rfl,lc,lk,L,Z⟩
  rw[List.length_map] at hn
  simp only[List.getElem_map]
  generalize cells[n]=y
  simp! [Jix]
  refine WR.mono (Jpl (k:=k) y 6 (by decide)) ?_
  rintro _ h2 ⟨X,xs,rfl,_,gX,lx,hx,e2⟩
  have R:=R.ex e2
  match xs,lx,gX,hx with
  | [y0,y1,y2,y3,y4,y5],_,gX,hx =>
  have z1:=(hx y1 (by simp)).1
  have z3:=(hx y3 (by simp)).1
  have z4:=(hx y4 (by simp)).1
  have z5:=(hx y5 (by simp)).1
  clear hx
  simp only[List.map_cons,List.map_nil] at gX
  have pl':(0:Int)<(rs.length:Int):=by omega
  obtain⟨m,em⟩:∃m:Nat,y0%(rs.length:Int)=m:=⟨(y0%(rs.length:Int)).toNat,by have:=Int.emod_nonneg y0 (b:=(rs.length:Int)) (by omega);omega⟩
  have hm':m<rs.length:=by have:=Int.emod_lt_of_pos y0 pl';omega
  have er:=List.getElem?_eq_getElem hm'
  have f:=D.f _ (List.getElem_mem hm')
  have tg:=top _ (List.getElem_mem hm')
  generalize hrr:rs[m]=r at er f tg
  obtain⟨q,ey,_⟩:=w.get er
  have ay:atI ys (m:Int)=some (tp6 r q):=Jan ey
  have gS2:=R.kp _ _ hS
  have f1:=f.g1
  have f2:=f.l1
  have f3:=f.t1
  have f4:=f.t2
  have u1:=D.u1
  obtain⟨wt,ew,wt1,wt2⟩:=pkW (y1:=y1) (y2:=y2) f3
  have g0:0<r.1.gap:=by omega
  obtain⟨sh,es,sh1,sh2⟩:=pkS (y3:=y3) (y4:=y4) g0
  obtain⟨mo,eo,mo1⟩:=pkM (y3:=y3) (y4:=y4) g0
  obtain⟨ll,el,ll1,ll2⟩:=pkL (y4:=y4) (y5:=y5) f2
  have lg6:(Int.natAbs 6).log2<9000:=by decide
  have gX1:∀a,(h2++a)[X]?=_:=λ a=>grow gX
  have gX2:∀a b,(h2++a++b)[X]?=_:=λ a b=>grow (gX1 a)
  -- the last steps: the dict, the row
  have last:∀(h3:IH) (come:Int) (a13:Option IV),Ex h2 h3->0<=come->(∀c∈cs,c.at_=m->c.come+r.1.gap<=come)->∀Rr:IV->IH->Prop,
    WS (sSeq (sAsg (eVar 15) (gSbD (eVar 3) (eVar 7))) (Jg9 (eDot (pg (k+1)) "append" 1 (eVar 2) (Ja (eTup (Ja (eVar 7) (Ja (eVar 15) (Ja (eVar 14) (Ja (eBin opIx (eLst (Ja (eVar 10) (Ja (eVar 10) (Ja (eBin Jm (eC (.int 1)) (eBin Jp (eBin opIx (eVar 6) (eC (.int 5))) (eVar 10))) aNil)))) (eBin Jp (eBin J9 (eBin opIx (eVar 6) (eC (.int 4))) (eC (.int 6))) (eC (.int 3)))) aNil))))) aNil)))
     [some (.ref C),some (.ref S),some (.ref h.length),some (.ref (h.length+1)),some (.int (3*T)),some (.int y),some (.ref X),some (.int (m:Int)),some (.str r.1.name),some (.int r.1.gap),some (.int r.1.len),some (.int r.1.due),some (.int r.1.late),a13,some (.int wt),some (.int come)] h3)
     (λ σ h'=>∃cs kvs a5 a6 a7 a8 a9 a10 a11 a12 a13 a14 a15,RI h h' cs kvs/\σ=[some (.ref C),some (.ref S),some (.ref h.length),some (.ref (h.length+1)),some (.int (3*T)),a5,a6,a7,a8,a9,a10,a11,a12,a13,a14,a15]/\cs.length=n+1/\kvs.length<=n+1/\Legal rs cs/\Lst kvs cs) Rr:=by
   intro h3 come a13 x3 c0 cf Rr
   have R3:=R.ex x3
   have ld:h.length+1<h3.length:=Jcv R3.d
   simp! [Jw5,Jnp R3.d (show kvs.length<sizeLine by omega)]
   generalize hh4:h3.set (h.length+1) (.dct (putD kvs (.inl (m:Int)) (.int come)))=h4
   have kd:KpB (h.length+1) h3 h4:=λ j o hj z=>by rw[<- hh4,List.getElem?_set_ne (Ne.symm hj)];exact z
   have gd4:h4[h.length+1]?=some (.dct (putD kvs (.inl (m:Int)) (.int come))):=by rw[<- hh4,List.getElem?_set_self ld]
   have gr4:=kd _ _ (by omega) R3.r
   have lX:=Jcv gX
   have gX4:h4[X]?=some (.lst [.int y0,.int y1,.int y2,.int y3,.int y4,.int y5]):=by
    refine kd _ _ (λ z=>?_) (x3.get gX)
    have:=x3.get gX
    rw[z,R3.d] at this
    cases this
   rw[Jhw (i:=h.length) (h1:=h4) rfl gr4 Jdn]
   simp! [Jbe,gX4,grow gX4,J2q,grown,lg6,show(0:Int)<6 by decide,show(0:Int)<3 by decide,show(0:Int)<r.1.len by omega,el,List.length_cons,List.length_nil,Jd7,grow gr4,List.length_map]
   refine⟨by omega,by omega,by omega,cs++[⟨m,come,wt,ll⟩],putD kvs (.inl (m:Int)) (.int come),_,_,_,_,_,_,_,_,_,_,_,⟨?_,?_,?_⟩,rfl,by simp[lc],?_,⟨?_,?_⟩,⟨?_,?_⟩⟩
   ·rw[List.getElem?_set_self (by rw[List.length_append];have:=Jcv gr4;omega)]
    simp
   ·rw[List.getElem?_set_ne (by omega)]
    exact grow gd4
   ·intro j o z
    have lj:=Jcv z
    rw[List.getElem?_set_ne (by omega)]
    exact grow (kd _ _ (by omega) (R3.kp _ _ z))
   ·unfold putD
    split
    ·simp;omega
    ·simp;omega
   ·intro c' hc'
    rw[List.mem_append,List.mem_singleton] at hc'
    rcases hc' with hc'|rfl
    ·exact L.ok c' hc'
    ·exact⟨hm',c0,wt1,by show wt<=(rs[m]).1.late;rw[hrr];exact wt2,ll1,by show ll<=(rs[m]).1.len;rw[hrr];exact ll2⟩
   ·intro i j a b hij ha hb' eab r' er'
    by_cases hj:j<cs.length
    ·rw[List.getElem?_append_left hj] at hb'
     rw[List.getElem?_append_left (by omega)] at ha
     exact L.far i j a b hij ha hb' eab r' er'
    ·have lj:=(List.getElem?_eq_some_iff.mp hb').1
     rw[List.length_append,List.length_singleton] at lj
     obtain rfl:j=cs.length:=by omega
     rw[List.getElem?_append_right (Nat.le_refl _),Nat.sub_self] at hb'
     cases hb'
     rw[List.getElem?_append_left (by omega)] at ha
     have:r'=r:=by
      rw[eab] at er'
      have er':rs[m]?=some r':=er'
      rw[er] at er'
      cases er'
      rfl
     rw[this]
     exact cf a (List.mem_of_getElem? ha) eab
   ·intro n' e c' hc'
    rw[Jnj] at e
    split at e
    ·cases e
    ·rename_i hne
     rw[List.mem_append,List.mem_singleton] at hc'
     rcases hc' with hc'|rfl
     ·exact Z.no n' e c' hc'
     ·exact λ z=>hne (by rw[show m=n' from z])
   ·intro n' v e
    rw[Jnj] at e
    split at e
    ·rename_i heq
     cases e
     have en:(m:Int)=n':=Sum.inl.inj heq
     have en:m=n':=by omega
     refine⟨come,rfl,c0,λ c' hc' ec=>?_⟩
     rw[List.mem_append,List.mem_singleton] at hc'
     rcases hc' with hc'|rfl
     ·have:=cf c' hc' (by rw[ec,en])
      omega
     ·exact Int.le_refl _
    ·rename_i hne
     obtain⟨x,e1,e2,e3⟩:=Z.yes n' v e
     refine⟨x,e1,e2,λ c' hc' ec=>?_⟩
     rw[List.mem_append,List.mem_singleton] at hc'
     rcases hc' with hc'|rfl
     ·exact e3 c' hc' ec
     ·exact absurd (by rw[show m=n' from ec]) hne
  simp! [Jbe,gX,gX1,gX2,Jno,gS2,wl,pl',em,ay,Jr4,Jy5,Jy6,List.length_cons,List.length_nil,show(0:Int)<3 by decide,show(0:Int)<r.1.late+1 by omega,show(0:Int)<r.1.gap by omega,grown,ew,es]
  refine⟨by omega,by omega,?_⟩
  have x5:Ex h2 (h2++[L3.IO.lst [IV.int r.1.late,IV.int 0,IV.int (y1%(r.1.late+1))]]++[L3.IO.lst [IV.int 0,IV.int (y3%r.1.gap),IV.int (0-y3%r.1.gap)]]):=(Ex.one _ _).trans (.one _ _)
  generalize h2++[L3.IO.lst [IV.int r.1.late,IV.int 0,IV.int (y1%(r.1.late+1))]]++[L3.IO.lst [IV.int 0,IV.int (y3%r.1.gap),IV.int (0-y3%r.1.gap)]]=h5 at x5 ⊢
  have R5:=R.ex x5
  have gX5:=x5.get gX
  rw[Jz5 R5.d]
  simp! [true_and]
  cases ev:valI kvs (.inl (m:Int)) with
  | none =>
   have Lq:=last h5 (3*T-wt+sh) (some (.ref q)) x5 (by omega) (λ c' hc' z=>absurd z (Z.no m ev c' hc'))
   refine⟨(λ z=>by cases z),λ _=>?_⟩
   simp(implicitDefEqProofs:=false) only[Jmh,Ji1,Jia,Jmi,Jt2,Jic,Jib,Jfi,Jmd,Jmf,Jh9,Jmg,Jme,Jcz,Jd,Ji8,J2i,Jp1,Jr7,Jlr,Jt1,Jlp,Jty,Jtt,Jh5,Jmb,Jh6,Jh7,Jcy,Jhu,Jem,Jmc,Jl1,Jhv,Jh2,Jtp,Jl7,Jlw,Jeo,Jep,Jtz,Jlu,Jlo,Jma,Jl4,Jl3,Jhx,Jl2,Jl8,Jht,Jtv,Jtu,Jts,Jtr,Jtq,Jtw,Jls,Jl5,Jlq,Jh8,Jl6,Jlt,Jtx,Jhy,Jlv,Jh3,Jh4,Jlx,Jlz,Jly,Jl9,Jen,Krz,Ksz,Kvz,Ktz,Kuz] at Lq
   exact Lq _
  | some v =>
   obtain⟨x,rfl,x0,xc⟩:=Z.yes m v ev
   refine⟨λ _=>?_,(λ z=>by cases z)⟩
   rw[Jz6 R5.d ev]
   simp! [Jbe,gX5,grow gX5,grown,show(0:Int)<1+r.1.gap by omega,show(0:Int)<2 by decide,eo,List.length_cons,List.length_nil]
   refine⟨by omega,?_⟩
   have Lq:=last (h5++[L3.IO.lst [IV.int 0,IV.int (y3%(1+r.1.gap))]]) (x+r.1.gap+mo) (some (.ref q)) (x5.trans (.one _ _)) (by omega) (λ c' hc' z=>by have:=xc c' hc' z;omega)
   simp(implicitDefEqProofs:=false) only[Jmh,Ji1,Jia,Jmi,Jt2,Jic,Jib,Jfi,Jmd,Jmf,Jh9,Jmg,Jme,Jcz,Jd,Ji8,J2i,Jp1,Jr7,Jlr,Jt1,Jlp,Jty,Jtt,Jh5,Jmb,Jh6,Jh7,Jcy,Jhu,Jem,Jmc,Jl1,Jhv,Jh2,Jtp,Jl7,Jlw,Jeo,Jep,Jtz,Jlu,Jlo,Jma,Jl4,Jl3,Jhx,Jl2,Jl8,Jht,Jtv,Jtu,Jts,Jtr,Jtq,Jtw,Jls,Jl5,Jlq,Jh8,Jl6,Jlt,Jtx,Jhy,Jlv,Jh3,Jh4,Jlx,Jlz,Jly,Jl9,Jen,Krz,Ksz,Kvz,Ktz,Kuz] at Lq
   exact Lq _
 ·rintro _ h1 ⟨cs,kvs,a5,a6,a7,a8,a9,a10,a11,a12,a13,a14,a15,R,rfl,lc,lk,L,Z⟩
  rw[List.length_map] at lc
  simp! [Jjx]
  exact⟨_,cs,rfl,Nat.le_refl _,R.r,L,by omega,R.ex0⟩
end
noncomputable def rdC (c:Cm):Int:=c.come+c.late
noncomputable def duC (rs:List RH) (c:Cm):Int:=c.come+(rs.getD c.at_ rd).1.due
section
variable {k:Nat}{h:IH}
theorem Jva {rs:List RH}{n:Nat}(hn:n<rs.length):rs.getD n rd=rs[n]:=by rw[List.getD_eq_getElem?_getD,List.getElem?_eq_getElem hn];rfl
theorem dls {a:IV}:(([("works",a)]:List (Str×IV))).lookup ("size":Str)=none:=by kernel_rfl
theorem Juy {vs:List IV}{D:Nat}(hD:h[D]?=some (.ins "Duty" (dfs vs))):Jbw (k+1) [.ref D] h=.ok (.int vs.length) h:=by
 refine Jho ?_
 rw[Jn8]
 simp! [Jb5,Jx hD,dl0]
theorem Jyl {vs:List IV}{D:Nat}{a b:Option IV}{Q:IV->IH->Prop}(hD:h[D]?=some (.ins "Duty" (dfs vs))):WR (eDot (pg (k+1)) "size" 0 (eVar 0) aNil [some (.ref D),a,b] h) Q=Q (.int vs.length) h:=by
 rw[Jnm (i:=D) (h1:=h) rfl hD dls (Jn2 _)]
 simp! [Juy hD]
theorem Jxv {D:Nat}{rs:List RH}{c:Cm}(hd:IsDu h D rs) (ok:COk rs c):WR (Jby (k+3) [.ref D,tupC c] h) λ v h'=>v=.bl true/\Ex h h':=by
 have hb:=Jc
 obtain⟨vs,hD,w⟩:=hd
 have wl:=w.len
 obtain⟨a,b,c,d⟩:=c
 obtain⟨q1,q2,q3,q4,q5,q6⟩:=ok
 have q1:a<rs.length:=q1
 have q2:0<=b:=q2
 have q3:0<=c:=q3
 have q5:1<=d:=q5
 obtain⟨j,ev,gj⟩:=w.get (List.getElem?_eq_getElem q1)
 have av:=Jan ev
 have q4:c<=(rs[a]).1.late:=q4
 have q6:d<=(rs[a]).1.len:=q6
 generalize rs[a]=r at gj q4 q6
 rw[Job]
 have e4:((([IV.int (a:Int),IV.int b,IV.int c,IV.int d].length:Nat):Int))=4:=rfl
 simp! [Jb8,Jf2,e4,decide_true]
 refine WR.mono (Jy (h:=h) (xs:=[IV.int (a:Int),IV.int b,IV.int c,IV.int d]) (chk:=λ _=>True) (f:=λ _=>.bl true) ?_ (by simp;omega) (λ _ _=>trivial) ?_) ?_
 ·simp! [true_and]
 ·intro v hv h2 q
  obtain⟨i,rfl⟩:∃i,v=.int i:=by
   simp only[List.mem_cons,List.not_mem_nil,or_false] at hv
   rcases hv with rfl|rfl|rfl|rfl<;>exact⟨_,rfl⟩
  simp! [Jdo,Jit]
  exact .refl _
 ·rintro _ _ ⟨rfl,g,rfl⟩
  rw[all_map (f:=λ _=>true) Jq]
  have x1:Ex h (h++L3.IO.lst ([IV.int (a:Int),IV.int b,IV.int c,IV.int d].map λ _=>.bl true)::g):=.cons _ _ _
  generalize h++L3.IO.lst ([IV.int (a:Int),IV.int b,IV.int c,IV.int d].map λ _=>.bl true)::g=h1 at x1
  simp! [List.all_cons,List.all_nil,Bool.and_self,Jf3,decide_eq_true_eq,decide_eq_false_iff_not]
  refine⟨λ a0=>?_,λ a0=>absurd (Int.natCast_nonneg a) a0⟩
  rw[Jyl (k:=k+1) (x1.get hD)]
  simp! [wl,Bool.not_eq_true',Bool.not_eq_false',decide_eq_true_eq,decide_eq_false_iff_not]
  refine⟨λ a1=>absurd (show(a:Int)<(rs.length:Int) by omega) a1,λ a1=>⟨λ b0=>absurd b0 (by omega),λ b0=>?_⟩⟩
  simp! [Jf4]
  rw[Jnm (i:=D) (h1:=h1) rfl (x1.get hD) dlw (Jdz _)]
  simp! [Jj4 (x1.get hD) av,Jf5,Jx (x1.get gj),fl4,fl2,decide_eq_true_eq,decide_eq_false_iff_not]
  simp[q3,q4,q5,q6,x1]
theorem J0m {D R:Nat}{rs:List RH}{cs:List Cm}(hd:IsDu h D rs) (gR:h[R]?=some (.lst (cs.map tupC))) (L:Legal rs cs) (hl:cs.length<=1000) :
  WR (Jaq (k+4) [.ref D,.ref R] h) λ v h'=>v=.non/\Ex h h':=by
 have hb:=Jc
 obtain⟨vs,hD,w⟩:=id hd
 rw[Jks]
 simp! [Ja3,Jdc,Jwx,Jwy,grow gR]
 refine Jam (λ n σ h'=>∃kvs g a b c,h'=h++L3.IO.dct kvs::g/\σ=[some (.ref D),some (.ref R),some (.ref h.length),a,b,c]/\kvs.length<=n/\∀(a:Nat) v,valI kvs (.inl (a:Int))=some v->∃i c,i<n/\cs[i]?=some c/\c.at_=a/\v=.int c.come) ?_ ?_ ?_ ⟨[],[],none,none,none,rfl,rfl,Nat.le_refl _,λ a v e=>by cases e⟩
 ·rintro _ _ _ ⟨kvs,g,a,b,c,rfl,_⟩
  exact grow gR
 ·rintro n hn _ _ ⟨kvs,g,a,b,c,rfl,rfl,ln,td⟩
  rw[Ju4]
  have hc:n<cs.length:=by simpa [Jbr] using hn
  have x1:Ex h (h++L3.IO.dct kvs::g):=.cons _ _ _
  rw[List.getElem_map]
  have ec:cs[n]?=some cs[n]:=List.getElem?_eq_getElem hc
  have ok:=L.ok _ (List.getElem_mem hc)
  generalize cs[n]=ci at ec ok
  simp! [Jr4,Jy5,Jy6,Jc3,List.length_cons,List.length_nil]
  refine WR.mono (Jxv (k:=k) (c:=ci) (hd.kp x1.kp) ok) ?_
  rintro _ _ ⟨rfl,g2,rfl⟩
  have eh:h++L3.IO.dct kvs::g++g2=h++L3.IO.dct kvs::(g++g2):=by rw[List.append_assoc,List.cons_append]
  rw[eh]
  have x2:Ex h (h++L3.IO.dct kvs::(g++g2)):=.cons _ _ _
  have hat:=ok.at_
  have er:=List.getElem?_eq_getElem hat
  obtain⟨j,ev,gj⟩:=w.get er
  have av:=Jan ev
  generalize rs[ci.at_]=r at er gj
  have fin:∀{σ:ISt}(a b c),σ=[some (.ref D),some (.ref R),some (.ref h.length),a,b,c]->∃kvs_1 g_1 a b c,List.set (h++L3.IO.dct kvs::(g++g2)) h.length (L3.IO.dct (putD kvs (.inl (ci.at_:Int)) (.int ci.come)))=h++L3.IO.dct kvs_1::g_1/\σ=[some (.ref D),some (.ref R),some (.ref h.length),a,b,c]/\kvs_1.length<=n+1/\∀(a:Nat) v,valI kvs_1 (.inl (a:Int))=some v->∃i c,i<n+1/\cs[i]?=some c/\c.at_=a/\v=.int c.come:=by
   intro σ a b c hσ
   refine⟨_,_,_,_,_,Jne _ _ _,hσ,?_,λ a v e=>?_⟩
   ·unfold putD
    split
    ·rw[List.length_map];omega
    ·rw[List.length_append,List.length_singleton];omega
   ·rw[Jnj] at e
    split at e
    ·rename_i z
     cases e
     exact⟨n,ci,by omega,ec,by have:=Sum.inl.inj z;omega,rfl⟩
    ·obtain⟨i,c,h1,h2⟩:=td a v e
     exact⟨i,c,by omega,h2⟩
  simp! [Jz5 (Jq (h:=h)),Jw5,Jnp (Jq (h:=h)) (show kvs.length<sizeLine by omega)]
  cases el:valI kvs (.inl (ci.at_:Int)) with
  | none =>
   simp! [Option.isSome_none]
   exact fin _ _ _ rfl
  | some l =>
   obtain⟨i,c0,hi,e0,ea,rfl⟩:=td _ _ el
   have far:=L.far i n c0 ci hi e0 ec ea r (by rw[ea];exact er)
   simp! [Option.isSome_some]
   rw[Jz6 Jq el]
   have ed:eDot (pg (k+3)) "work" 1 (eVar 0) (Ja (eVar 5) aNil) [some (IV.ref D),some (IV.ref R),some (IV.ref h.length),some (IV.int (n:Int)),some (tupC ci),some (IV.int (ci.at_:Int))] (h++L3.IO.dct kvs::(g++g2))=.ok (.ref j) (h++L3.IO.dct kvs::(g++g2)):=by
    refine Jho ?_
    rw[Jnm (i:=D) (h1:=h++L3.IO.dct kvs::(g++g2)) rfl (x2.get hD) dlw (Jdz _)]
    simp! [Jj4 (x2.get hD) av]
   simp! [ed,Jx (x2.get gj),fl1,decide_eq_true_eq,decide_eq_false_iff_not]
   refine⟨λ z=>absurd z (by omega),λ z=>?_⟩
   rw[Jnp (Jq (h:=h)) (show kvs.length<sizeLine by omega)]
   exact fin _ _ _ rfl
 ·rintro _ _ ⟨kvs,g,a,b,c,rfl,rfl,_⟩
  simp! [Jdd]
  exact .cons _ _ _
theorem J2u {D R:Nat}{rs:List RH}{cs:List Cm}(hd:IsDu h D rs) (gR:h[R]?=some (.lst (cs.map tupC))) (L:Legal rs cs) (hl:cs.length<=14) :
  WR (Jfj (k+5) [.ref D,.ref R] h) λ v h'=>v=.non/\Ex h h':=by
 rw[Jr9]
 simp! [Je6,Jjn,Jno,gR,List.length_map,decide_eq_true_eq,decide_eq_false_iff_not]
 refine⟨λ z=>absurd z (by omega),λ _=>?_⟩
 refine WR.mono (J0m (k:=k) hd gR L (by omega)) ?_
 rintro _ h1 ⟨rfl,x1⟩
 simp! [Jjo,Jnn,isI]
 exact x1
theorem Jrl {c:Cm}:Jjl (k+1) [tupC c] h=.ok (.int (rdC c)) h:=by
 refine Jho ?_
 rw[Jxk]
 simp! [Jj0]
 rfl
theorem Jzc {D:Nat}{rs:List RH}{c:Cm}(hd:IsDu h D rs) (ha:c.at_<rs.length):Jea (k+2) [.ref D,tupC c] h=.ok (.int (duC rs c)) h:=by
 obtain⟨vs,gD,w⟩:=hd
 obtain⟨j,ej,gj⟩:=w.get (List.getElem?_eq_getElem ha)
 have av:atI vs (c.at_:Int)=some (.ref j):=Jan ej
 unfold duC
 rw[Jva ha]
 generalize rs[c.at_]=r at gj
 refine Jho ?_
 rw[Jvb]
 simp! [Jhh]
 rw[Jnm (i:=D) (h1:=h) rfl gD dlw (Jdz _)]
 simp! [Jj4 gD av,Jx gj,fl3]
end
section
variable (rs:List RH) (b:Int)
noncomputable def fuG:Int->List Cm->Option Int
 | _,[]=>none
 | s,c::r=>if b<=rdC c then(if duC rs c-b<s+c.len then some (duC rs c) else fuG (s+c.len) r) else fuG s r
noncomputable def inB (l:Int) (c:Cm):Bool:=decide (b<=rdC c)&&decide (duC rs c<=l)
noncomputable def Jkm (l:Int) (cs:List Cm):Int:=((cs.filter (inB rs b l)).map (·.len)).sum
end
section
variable {rs:List RH}{b l:Int}
theorem Jw (c:Cm) (cs:List Cm):Jkm rs b l (c::cs)=(if inB rs b l c=true then c.len else 0)+Jkm rs b l cs:=by
 unfold Jkm
 by_cases q:inB rs b l c=true
 ·rw[List.filter_cons_of_pos q,if_pos q,List.map_cons,List.sum_cons]
 ·rw[List.filter_cons_of_neg q,if_neg q,Int.zero_add]
theorem Jli {as bs:List Cm}(p:as.Perm bs):Jkm rs b l as=Jkm rs b l bs:=by
 induction p with
 | nil=>rfl
 | cons x _ ih=>rw[Jw,Jw,ih]
 | swap x y r=>rw[Jw,Jw,Jw,Jw];omega
 | trans _ _ i1 i2=>rw[i1,i2]
theorem Jrw:∀{cs:List Cm},(∀c∈cs,1<=c.len)->0<=Jkm rs b l cs
 | [],_=>Int.le_refl _
 | c::cs,q=>by
  have ih:=Jrw (cs:=cs) λ c hc=>q c (List.mem_cons_of_mem _ hc)
  have:=q c List.mem_cons_self
  rw[Jw]
  split<;>omega
theorem Jrx:∀{cs:List Cm},(∀c∈cs,inB rs b l c=false)->Jkm rs b l cs=0
 | [],_=>rfl
 | c::cs,q=>by
  rw[Jw,Jrx λ c hc=>q c (List.mem_cons_of_mem _ hc),if_neg (by rw[q c List.mem_cons_self];exact Bool.false_ne_true)]
  rfl
noncomputable abbrev Sd (rs:List RH) (cs:List Cm):Prop:=cs.Pairwise λ x y=>duC rs x<=duC rs y
theorem Jp3:∀{cs:List Cm}{s u:Int},Sd rs cs->(∀c∈cs,1<=c.len)->fuG rs b s cs=some u->(∃c∈cs,b<=rdC c/\duC rs c=u)/\u-b<s+Jkm rs b u cs
 | [],s,u,_,_,e=>by cases e
 | c::cs,s,u,sd,q,e=>by
  obtain⟨h1,h2⟩:=List.pairwise_cons.mp sd
  have q':∀c∈cs,1<=c.len:=λ c hc=>q c (List.mem_cons_of_mem _ hc)
  unfold fuG at e
  rw[Jw]
  by_cases cb:b<=rdC c
  ·rw[if_pos cb] at e
   split at e
   ·rename_i lt
    cases e
    have:=Jrw (rs:=rs) (b:=b) (l:=duC rs c) q'
    exact⟨⟨c,List.mem_cons_self,cb,rfl⟩,by rw[if_pos (by simp[inB,cb])];omega⟩
   ·obtain⟨⟨x,hx,x1,x2⟩,lt⟩:=Jp3 h2 q' e
    have:=h1 x hx
    refine⟨⟨x,List.mem_cons_of_mem _ hx,x1,x2⟩,?_⟩
    rw[if_pos (by simp[inB,cb];omega)]
    omega
  ·rw[if_neg cb] at e
   obtain⟨⟨x,hx,x1,x2⟩,lt⟩:=Jp3 h2 q' e
   refine⟨⟨x,List.mem_cons_of_mem _ hx,x1,x2⟩,?_⟩
   rw[if_neg (by simp[inB,cb])]
   omega
theorem Jp2:∀{cs:List Cm}{s:Int},Sd rs cs->fuG rs b s cs=none->(∃c∈cs,inB rs b l c=true)->s+Jkm rs b l cs<=l-b
 | [],s,_,_,⟨c,hc,_⟩=>by cases hc
 | c::cs,s,sd,e,⟨x,hx,xi⟩=>by
  obtain⟨h1,h2⟩:=List.pairwise_cons.mp sd
  unfold fuG at e
  rw[Jw]
  by_cases cb:b<=rdC c
  ·rw[if_pos cb] at e
   split at e
   ·cases e
   ·rename_i nlt
    by_cases dl:duC rs c<=l
    ·rw[if_pos (by simp[inB,cb,dl])]
     by_cases more:∃c∈cs,inB rs b l c=true
     ·have:=Jp2 h2 e more
      omega
     ·have:=Jrx (rs:=rs) (b:=b) (l:=l) (cs:=cs) λ c hc=>by
       cases q:inB rs b l c with
       | false=>rfl
       | true=>exact absurd ⟨c,hc,q⟩ more
      omega
    ·exfalso
     have xd:duC rs x<=l:=by simp only[inB,Bool.and_eq_true,decide_eq_true_eq] at xi;exact xi.2
     rcases List.mem_cons.mp hx with rfl|hx
     ·exact dl xd
     ·have:=h1 x hx
      omega
  ·rw[if_neg cb] at e
   rw[if_neg (by simp[inB,cb])]
   have more:∃c∈cs,inB rs b l c=true:=by
    rcases List.mem_cons.mp hx with rfl|hx
    ·exfalso
     simp only[inB,Bool.and_eq_true,decide_eq_true_eq] at xi
     exact cb xi.1
    ·exact⟨x,hx,xi⟩
   have:=Jp2 h2 e more
   omega
end
noncomputable def oV (o:Option Int):IV:=match o with
 | some x=>.int x
 | none=>.non
section
variable {k:Nat}{h:IH}
theorem J5b {σ:ISt}{N:ISt->IH->Prop}{R:IV->IH->Prop}(op:Operator) (i:Nat) (e:E1):WS (sAug op i e σ h) N R=WR (eVar i σ h) λ x h1=>WR (e σ h1) λ y h2=>WR (ipI op x y h2) λ z h3=>N (σ.set i (some z)) h3:=by
 unfold sAug
 rw[Jcz]
 congr 1
 funext x h1
 rw[Jcz]
 congr 1
 funext y h2
 rw[Jcz]
 rfl
theorem Jy2 (i j:Int){Q:IV->IH->Prop}:WR (ipI .Add (.int i) (.int j) h) Q=Q (.int (i+j)) h:=rfl
theorem Jyx {D B:Nat}{rs:List RH}{bs:List Cm}{b:Int}(hd:IsDu h D rs) (gB:h[B]?=some (.lst (bs.map tupC))) (ok:∀c∈bs,c.at_<rs.length) :
  WR (Ja9 (k+3) [.ref D,.ref B,.int b] h) λ v h'=>v=oV (fuG rs b 0 bs)/\h=h':=by
 generalize hF:fuG rs b 0 bs=F
 rw[Jmx]
 simp! [Jbj,Jes,Jap,gB]
 refine Jam (λ n σ h'=>h=h'/\∃s a,σ=[some (.ref D),some (.ref B),some (.int b),some (.int s),a]/\F=fuG rs b s (bs.drop n)) (λ _ _ _ q=>by obtain⟨rfl,_⟩:=q;exact gB) ?_ ?_ ⟨rfl,0,none,rfl,hF.symm⟩
 ·rintro n hn _ _ ⟨rfl,s,a,rfl,e⟩
  have hn':n<bs.length:=by simpa using hn
  rw[List.getElem_map]
  have ed:bs.drop n=bs[n]::bs.drop (n+1):=List.drop_eq_getElem_cons hn'
  rw[ed] at e
  unfold fuG at e
  have ca:=ok _ (List.getElem_mem hn')
  generalize bs[n]=c at e ca
  simp! [Jd1,Jrl,J5b,Jy2,Jzc (k:=k) hd ca,decide_eq_true_eq,decide_eq_false_iff_not]
  refine⟨λ z=>?_,λ z=>?_⟩
  ·rw[if_pos z] at e
   refine⟨λ y=>?_,λ y=>?_⟩
   ·rw[if_pos (by omega)] at e
    rw[e]
    rfl
   ·rw[if_neg (by omega)] at e
    exact⟨_,_,rfl,e⟩
  ·rw[if_neg (by omega)] at e
   exact⟨_,_,rfl,e⟩
 ·rintro _ _ ⟨rfl,s,a,rfl,e⟩
  rw[List.length_map,List.drop_of_length_le (Nat.le_refl _)] at e
  simp! [Jet]
  rw[e]
  rfl
end
noncomputable def cd:Cm:=⟨0,0,0,0⟩
section
variable {mk:IV->IH->Res IV}{kf:IV->Int}{h:IH}
theorem Jr1:∀(ys:List IV) (ks:List Int) (h':IH),Ex h h'->(∀y∈ys,∀h',Ex h h'->WR (mk y h') λ v h2=>v=.int (kf y)/\Ex h' h2)->WR (Jso mk ys ks h') λ v h2=>v=ks++ys.map kf/\Ex h' h2
 | [],ks,h',x,_=>⟨by simp,.refl _⟩
 | y::ys,ks,h',x,q=>by
  obtain⟨v,h2,e,rfl,x2⟩:=(q y List.mem_cons_self h' x).eq
  show WR ((mk y h').nx.bind _) _
  rw[e]
  exact WR.mono (Jr1 ys (ks++[kf y]) h2 (x.trans x2) λ y hy=>q y (List.mem_cons_of_mem _ hy)) λ v h3 ⟨a,b⟩=>⟨by rw[a];simp,x2.trans b⟩
theorem Jw2 {i:Nat}{ys:List IV}(hi:h[i]?=some (.lst ys)) (l64:ys.length<64) (hm:∀y∈ys,∀h',Ex h h'->WR (mk y h') λ v h2=>v=.int (kf y)/\Ex h' h2) :
  WR (Jlg mk i h) λ v h'=>∃h2,Ex h h2/\v=.ref h2.length/\h'=h2++[.lst ((ordK (ys.map kf) ys.length).map λ i=>ys.getD i .non)]:=by
 unfold Jlg
 rw[hi]
 dsimp only
 rw[if_pos l64]
 obtain⟨v,h2,e,rfl,x2⟩:=(Jr1 ys [] h (.refl _) hm).eq
 rw[e]
 exact⟨h2,x2,rfl,rfl⟩
theorem Jy3 {q:Str}{j i a:Nat}{js:List Nat}{m:E1}{σ:ISt}{Q:IV->IH->Prop}(hj:h[j]?=some (.tab q)) (hi:σ[i]?=some (some (.ref a))) :
  WR (Jk8 q j js (Ja (eVar i) aNil) m σ h) Q=WR (Jlg (λ v h'=>m (some v::js.map λ j=>(σ[j]?).join) h') a h) Q:=by
 have e:Ja (eVar i) aNil σ h=.ok [.ref a] h:=by
  unfold Ja eVar aNil
  rw[hi]
  rfl
 unfold Jk8
 rw[e]
 show WR (match h[j]? with|some (.tab q')=>_|_=>_) Q=_
 rw[hj]
 dsimp only
 rw[if_pos rfl]
theorem Jt0 {e:E1}{σ:ISt}{ns:List Int}(he:WR (e σ h) λ v h1=>∃i,v=.ref i/\h1[i]?=some (.lst (ns.map .int))/\Ex h h1) (l64:ns.length<64) :
  WR (Jgy (Ja e aNil) σ h) λ v h'=>∃h1,Ex h h1/\v=.ref h1.length/\h'=h1++[.lst ((Jc7 (ddN (Jbd ns) ns.length)).map .int)]:=by
 obtain⟨v,h1,q,i,rfl,gi,x1⟩:=he.eq
 unfold Jgy Ja aNil
 rw[q]
 show WR (match h1[i]? with|some (.lst ys)=>_|_=>_) _
 rw[gi]
 dsimp only
 rw[Jcu]
 dsimp only
 rw[if_pos l64]
 exact⟨h1,x1,rfl,rfl⟩
end
noncomputable def bsOf (rs:List RH) (cs:List Cm):List Cm:=(ordK (cs.map (duC rs)) cs.length).map λ i=>cs.getD i cd
noncomputable def zsOf (cs:List Cm):List Int:=Jc7 (ddN (Jbd (cs.map rdC)) cs.length)
theorem Jpv (rs:List RH) (cs:List Cm):(bsOf rs cs).Perm cs:=by
 unfold bsOf
 have e:(List.range cs.length).map (λ i=>cs.getD i cd)=cs:=by
  refine List.ext_getElem (by simp) λ i h1 h2=>?_
  simp[List.getD_eq_getElem?_getD,h2]
 rcases Nat.eq_zero_or_pos cs.length with z|z
 ·rw[List.eq_nil_of_length_eq_zero z]
  show(List.map _ (ordK _ 0)).Perm []
  rw[Jjf]
  exact .nil
 ·have:=(Jkg (cs.map (duC rs)) z).map λ i=>cs.getD i cd
  rwa [e] at this
theorem J2r (rs:List RH) (cs:List Cm):Sd rs (bsOf rs cs):=by
 unfold bsOf
 rw[Sd,List.pairwise_map]
 refine(Jx9 (cs.map (duC rs)) cs.length).imp_of_mem λ {i j} hi hj q=>?_
 have li:=Jm5 _ i hi
 have lj:=Jm5 _ j hj
 simpa [List.getD_eq_getElem?_getD,List.getElem?_eq_getElem li,List.getElem?_eq_getElem lj] using q
theorem J5c {cs:List Cm}{x:Int}:x∈zsOf cs↔∃c∈cs,x=rdC c:=by
 unfold zsOf Jc7
 rw[(List.mergeSort_perm _ _).mem_iff,Jup]
 constructor
 ·rintro⟨j,hj,rfl⟩
  exact⟨cs[j],List.getElem_mem hj,by simp[Jbd,List.getD_eq_getElem?_getD,hj]⟩
 ·rintro⟨c,hc,rfl⟩
  obtain⟨j,hj,rfl⟩:=List.mem_iff_getElem.mp hc
  exact⟨j,hj,by simp[Jbd,List.getD_eq_getElem?_getD,hj]⟩
noncomputable def tfG (rs:List RH) (cs:List Cm) (b:Int):Option (Int×Int):=(fuG rs b 0 (bsOf rs cs)).map λ u=>(b,u)
noncomputable def tfO (rs:List RH) (cs:List Cm):Option (Int×Int):=(zsOf cs).findSome? (tfG rs cs)
noncomputable def tfV (o:Option (Int×Int)):IV:=match o with
 | some (b,u)=>.tup [.int b,.int u]
 | none=>.non
noncomputable def dueV (rs:List RH) (v:IV):Int:=match v with
 | .tup [.int a,.int b,_,_]=>b+(rs.getD a.toNat rd).1.due
 | _=>0
noncomputable def rdV (v:IV):IV:=match v with
 | .tup [_,.int b,.int c,_]=>.int (b+c)
 | _=>.non
section
variable {k:Nat}{h:IH}
theorem Jzs {D R:Nat}{rs:List RH}{cs:List Cm}(h0:h[0]?=some (.tab "too_full")) (hd:IsDu h D rs) (gR:h[R]?=some (.lst (cs.map tupC))) (L:Legal rs cs) (hl:cs.length<=14) :
  WR (Jbq (k+6) [.ref D,.ref R] h) λ v h'=>v=tfV (tfO rs cs)/\Ex h h':=by
 have hb:=Jc
 generalize hF:tfO rs cs=F
 rw[Jp9]
 dsimp! [Jdm]
 refine WR.mono (J2u (k:=k) hd gR L hl) ?_
 rintro _ h1 ⟨rfl,x1⟩
 simp! [Jiq]
 rw[Jy3 (x1.get h0) rfl]
 refine WR.mono (Jw2 (kf:=dueV rs) (x1.get gR) (by rw[List.length_map];omega) ?_) ?_
 ·intro y hy h' x'
  obtain⟨c,hc,rfl⟩:=List.mem_map.mp hy
  simp only[List.map_cons,List.map_nil,List.getElem?_cons_succ,List.getElem?_cons_zero,Option.join_some]
  simp! [Je1,Jzc (k:=k+3) (hd.kp (x1.trans x').kp) (L.ok c hc).at_]
  exact⟨rfl,.refl _⟩
 rintro _ _ ⟨h2,x2,rfl,rfl⟩
 have ek:(cs.map tupC).map (dueV rs)=cs.map (duC rs):=by
  rw[List.map_map]
  rfl
 have eb:((ordK ((cs.map tupC).map (dueV rs)) (cs.map tupC).length).map λ i=>(cs.map tupC).getD i .non)=(bsOf rs cs).map tupC:=by
  rw[ek,List.length_map]
  unfold bsOf
  rw[List.map_map]
  refine List.map_congr_left λ i hi=>?_
  have:=Jm5 _ i hi
  simp[List.getD_eq_getElem?_getD,List.getElem?_eq_getElem this]
 rw[eb]
 have x3:=(x1.trans x2).trans (.one h2 (L3.IO.lst ((bsOf rs cs).map tupC)))
 have gB:(h2++[L3.IO.lst ((bsOf rs cs).map tupC)])[h2.length]?=some (.lst ((bsOf rs cs).map tupC)):=grown
 generalize h2++[L3.IO.lst ((bsOf rs cs).map tupC)]=h3 at x3 gB ⊢
 generalize h2.length=B at gB ⊢
 simp! [Jir]
 refine WR.mono (Jt0 (ns:=cs.map rdC) ?_ (by rw[List.length_map];omega)) ?_
 ·refine WR.mono (Jy (h:=h3) (xs:=cs.map tupC) (chk:=λ h'=>h'[R]?=some (.lst (cs.map tupC))) (f:=rdV) ?_ (by rw[List.length_map];omega) (λ h2 q=>q _ _ (x3.get gR)) ?_) ?_
  ·simp! [Jap,x3.get gR]
  ·intro v hv h4 q
   obtain⟨c,hc,rfl⟩:=List.mem_map.mp hv
   simp! [Je2,Jrl]
   exact⟨rfl,.refl _⟩
  ·rintro _ _ ⟨rfl,g,rfl⟩
   refine⟨_,rfl,?_,.cons _ _ _⟩
   rw[Jq,List.map_map,List.map_map]
   rfl
 rintro _ _ ⟨h4,x4,rfl,rfl⟩
 rw[List.length_map]
 have ez:Jc7 (ddN (Jbd (cs.map rdC)) cs.length)=zsOf cs:=rfl
 rw[ez]
 have x5:=(x3.trans x4).trans (.one h4 (L3.IO.lst ((zsOf cs).map IV.int)))
 have gB5:(h4++[L3.IO.lst ((zsOf cs).map IV.int)])[B]?=_:=grow (x4.get gB)
 have gZ:(h4++[L3.IO.lst ((zsOf cs).map IV.int)])[h4.length]?=some (.lst ((zsOf cs).map IV.int)):=grown
 generalize h4++[L3.IO.lst ((zsOf cs).map IV.int)]=h5 at x5 gB5 gZ ⊢
 generalize h4.length=Z at gZ ⊢
 have bok:∀c∈bsOf rs cs,c.at_<rs.length:=λ c hc=>(L.ok c ((Jpv rs cs).mem_iff.mp hc)).at_
 simp! [Jap,gZ]
 refine Jam (λ n σ h'=>h5=h'/\∃a b,σ=[some (.ref D),some (.ref R),some (.ref B),a,b]/\F=((zsOf cs).drop n).findSome? (tfG rs cs)) (λ _ _ _ q=>by obtain⟨rfl,_⟩:=q;exact gZ) ?_ ?_ ⟨rfl,none,none,rfl,hF.symm⟩
 ·rintro n hn _ _ ⟨rfl,a,b,rfl,e⟩
  have hn':n<(zsOf cs).length:=by simpa using hn
  rw[List.getElem_map]
  have ed:(zsOf cs).drop n=(zsOf cs)[n]::(zsOf cs).drop (n+1):=List.drop_eq_getElem_cons hn'
  rw[ed,List.findSome?_cons] at e
  generalize (zsOf cs)[n]=z at e
  simp! [Jg3]
  refine WR.mono (Jyx (k:=k+2) (b:=z) (hd.kp x5.kp) gB5 bok) ?_
  rintro _ _ ⟨rfl,rfl⟩
  cases ef:fuG rs z 0 (bsOf rs cs) with
  | none =>
   have eg:tfG rs cs z=none:=by unfold tfG;rw[ef];rfl
   rw[eg] at e
   simp! [oV,Jnn,isI]
   exact⟨_,_,rfl,e⟩
  | some u =>
   have eg:tfG rs cs z=some (z,u):=by unfold tfG;rw[ef];rfl
   rw[eg] at e
   simp! [oV,Jnn,isI,List.length_cons,List.length_nil]
   exact⟨by omega,by rw[e];rfl,x5⟩
 ·rintro _ _ ⟨rfl,a,b,rfl,e⟩
  rw[List.length_map,List.drop_of_length_le (Nat.le_refl _)] at e
  simp! [Jis]
  exact⟨by rw[e];rfl,x5⟩
end
theorem J19 {rs:List RH}{cs:List Cm}(e:tfO rs cs=none):∀c∈cs,fuG rs (rdC c) 0 (bsOf rs cs)=none:=λ c hc=>by
 unfold tfO at e
 rw[List.findSome?_eq_none_iff] at e
 have:=e _ (J5c.mpr ⟨c,hc,rfl⟩)
 unfold tfG at this
 cases q:fuG rs (rdC c) 0 (bsOf rs cs) with
 | none=>rfl
 | some u=>rw[q] at this;cases this
theorem J2a {rs:List RH}{cs:List Cm}{b u:Int}(e:tfO rs cs=some (b,u)):fuG rs b 0 (bsOf rs cs)=some u:=by
 unfold tfO at e
 obtain⟨l1,z,l2,_,q,_⟩:=List.findSome?_eq_some_iff.mp e
 unfold tfG at q
 obtain⟨u',h1,h2⟩:=Option.map_eq_some_iff.mp q
 cases h2
 exact h1
noncomputable def gI (v:IV):PyData:=match v with
 | .int x=>.int x
 | .tup xs=>.tuple (xs.map λ v=>match v with|.int x=>.int x|_=>.none)
 | _=>.none
theorem Jx2 (ns:List Int):PyData.canLayAll0 (ns.map PyData.int)=true:=by
 induction ns with
 | nil=>rfl
 | cons n ns ih=>rw[List.map_cons,PyData.canLayAll0,ih];rfl
noncomputable def Pl (v:IV):Prop:=(∃x,v=.int x)∨∃ns:List Int,v=.tup (ns.map .int)
noncomputable def Jmw (rs:List RH) (cs:List Cm) (b l:Int):Bool:=!(cs.filter (inB rs b l)).isEmpty&&decide (l-b<Jkm rs b l cs)
theorem Ju9 {rs:List RH}{cs:List Cm}{b u:Int}(L:Legal rs cs) (e:tfO rs cs=some (b,u)):Jmw rs cs b u=true:=by
 have p:=Jpv rs cs
 obtain⟨⟨c,hc,c1,c2⟩,lt⟩:=Jp3 (J2r rs cs) (λ c hc=>(L.ok c (p.mem_iff.mp hc)).n1) (J2a e)
 rw[Jli p] at lt
 have hin:c∈cs.filter (inB rs b u):=List.mem_filter.mpr ⟨p.mem_iff.mp hc,by simp[inB,c1,c2]⟩
 unfold Jmw
 rw[Bool.and_eq_true,decide_eq_true_eq,Bool.not_eq_true']
 refine⟨?_,by omega⟩
 cases q:cs.filter (inB rs b u) with
 | nil=>rw[q] at hin;cases hin
 | cons _ _=>rfl
theorem Ju7 {rs:List RH}{cs:List Cm}(e:tfO rs cs=none){c:Cm}(hc:c∈cs){l:Int}:Jmw rs cs (rdC c) l=false:=by
 have p:=Jpv rs cs
 unfold Jmw
 cases q:cs.filter (inB rs (rdC c) l) with
 | nil=>rfl
 | cons x r =>
  have hx:x∈cs.filter (inB rs (rdC c) l):=by rw[q];exact List.mem_cons_self
  obtain⟨h1,h2⟩:=List.mem_filter.mp hx
  have:=Jp2 (l:=l) (J2r rs cs) (J19 e c hc) ⟨x,p.mem_iff.mpr h1,h2⟩
  rw[Jli p] at this
  have n:¬l-rdC c<Jkm rs (rdC c) l cs:=by omega
  simp[n]
section
variable {k:Nat}{h:IH}
theorem Jzk (n:Nat):∀ns:List Int,(ns.map IV.int).mapM (toD h (n+1))=some (ns.map PyData.int)
 | []=>rfl
 | x::ns=>by
  rw[List.map_cons,List.mapM_cons,Jzk n ns]
  rfl
theorem J0n (ns:List Int):gI (.tup (ns.map .int))=.tuple (ns.map PyData.int):=by
 show PyData.tuple _=_
 rw[List.map_map]
 rfl
theorem d_pl {v:IV}(n:Nat) (q:Pl v):toD h (n+2) v=some (gI v)/\(gI v).canLay0=true:=by
 rcases q with⟨x,rfl⟩|⟨ns,rfl⟩
 ·exact⟨rfl,rfl⟩
 ·rw[J0n]
  refine⟨?_,by rw[PyData.canLay0];exact Jx2 ns⟩
  show((ns.map IV.int).mapM (toD h (n+1))).map PyData.tuple=_
  rw[Jzk]
  rfl
theorem J0h {n i:Nat}{xs:List IV}(hi:h[i]?=some (.lst xs)) (q:∀x∈xs,Pl x):toD h (n+3) (.ref i)=some (.list (xs.map gI)):=by
 rw[Jfh hi,Jqe (g:=gI) λ x hx=>(d_pl n (q x hx)).1]
 rfl
theorem Jvv {xs:List IV}(q:∀x∈xs,Pl x):PyData.canLayAll0 (xs.map gI)=true:=Jzj λ x hx=>(d_pl (h:=[]) 0 (q x hx)).2
theorem pl_cs (cs:List Cm):∀x∈cs.map tupC,Pl x:=λ x hx=>by
 obtain⟨c,_,rfl⟩:=List.mem_map.mp hx
 exact .inr ⟨[c.at_,c.come,c.late,c.len],rfl⟩
theorem J3y {i j:Nat}{xs:List IV}(hi:h[i]?=some (.lst xs)) (hj:h[j]?=some (.lst [])) (q:∀x∈xs,Pl x):cNe (.ref i) (.ref j) h=.ok (.bl (!xs.isEmpty)) h:=by
 have e2:toD h 6 (.ref j)=some (.list []):=by rw[Jfh hj];rfl
 have e3:Jfd (.ref i) (.ref j) h=some xs.isEmpty:=by
  unfold Jfd
  rw[J0h hi q,e2]
  dsimp only
  rw[if_pos ⟨by rw[PyData.canLay0];exact Jvv q,by rw[PyData.canLay0,PyData.canLayAll0]⟩,PyData.eqv]
  cases xs with
  | nil=>rw[List.map_nil,PyData.eqvAll];rfl
  | cons a as=>rw[List.map_cons,PyData.eqvAll];rfl;all_goals intros;simp_all
 unfold cNe
 have e4:Jhb (.ref i) (.ref j)=none:=rfl
 rw[e4]
 dsimp only
 rw[e3]
theorem J1b {i j:Nat}{xs:List IV}(hi:h[i]?=some (.lst xs)) (hj:h[j]?=some (.lst xs)) (q:∀x∈xs,Pl x):cNe (.ref i) (.ref j) h=.ok (.bl false) h :=
 J3x (J0h hi q) (J0h hj q) (by rw[PyData.canLay0];exact Jvv q)
theorem Ju8 {R S lo:Nat}{ys:List IV}{rs:List RH}{cs:List Cm}{b l:Int}(gR:h[R]?=some (.lst (cs.map tupC))) (hS:h[S]?=some (.lst ys)) (w:RowT h lo ys rs) (ok:∀c∈cs,c.at_<rs.length) (hl:cs.length<=14) :
  WR (Jbn (k+1) [.ref R,.ref S,.int b,.int l] h) λ v h'=>v=.bl (Jmw rs cs b l)/\Ex h h':=by
 have hb:=Jc
 rw[Jp6]
 simp! [Jdh,Jif,Jap,grow gR,List.length_nil,Nat.zero_le]
 refine Jam (λ n σ h'=>∃a b' c d,h'=h++[L3.IO.lst (((cs.take n).filter (inB rs b l)).map λ c=>IV.int c.len)]/\σ=[some (.ref R),some (.ref S),some (.int b),some (.int l),some (.ref h.length),a,b',c,d]) (λ _ _ _ q=>by obtain⟨_,_,_,_,rfl,_⟩:=q;exact grow gR) ?_ ?_ ⟨none,none,none,none,rfl,rfl⟩
 ·rintro n hn _ _ ⟨a,b',c,d,rfl,rfl⟩
  have hn':n<cs.length:=by simpa using hn
  rw[List.getElem_map,List.take_succ_eq_append_getElem hn',List.filter_append,List.map_append]
  have ca:=ok _ (List.getElem_mem hn')
  have lt:((cs.take n).filter (inB rs b l)).length<=n:=Nat.le_trans (List.length_filter_le _ _) (by rw[List.length_take];omega)
  generalize cs[n]=ci at ca
  generalize (cs.take n).filter (inB rs b l)=fs at lt
  obtain⟨q,ey,_⟩:=w.get (List.getElem?_eq_getElem ca)
  have ay:=Jan ey
  have ei:inB rs b l ci=(decide (b<=ci.come+ci.late)&&decide (ci.come+(rs[ci.at_]).1.due<=l)):=by
   unfold inB rdC duC
   rw[Jva ca]
  generalize rs[ci.at_]=r at ay ei
  simp! [Jr4,Jy5,Jy6,Jg1,List.length_cons,List.length_nil,Jbe,grow hS,ay,decide_eq_true_eq,decide_eq_false_iff_not]
  have app:∀{N:ISt->IH->Prop}{Rr:IV->IH->Prop}{σ:ISt},σ[4]?=some (some (.ref h.length))->σ[8]?=some (some (.int ci.len))->N σ (h++[L3.IO.lst (fs.map (λ c=>IV.int c.len)++[.int ci.len])])->WS (Jg9 (eDot (pg k) "append" 1 (eVar 4) (Ja (eVar 8) aNil)) σ (h++[L3.IO.lst (fs.map λ c=>IV.int c.len)])) N Rr:=by
   intro N Rr σ h4 h8 fin
   rw[Jfi,Jhw (i:=h.length) (h1:=h++[L3.IO.lst (fs.map λ c=>IV.int c.len)]) (by unfold eVar;rw[h4]) grown Jdn]
   have e8:eVar 8 σ (h++[L3.IO.lst (fs.map λ c=>IV.int c.len)])=.ok (.int ci.len) (h++[L3.IO.lst (fs.map λ c=>IV.int c.len)]):=by unfold eVar;rw[h8]
   simp! [e8,Jd7,grown,List.length_map,Jnd]
   exact⟨by omega,fin⟩
  refine⟨λ z1=>⟨λ z2=>?_,λ z2=>?_⟩,λ z1=>?_⟩
  ·have t:inB rs b l ci=true:=by rw[ei];simp[z1,z2]
   rw[List.filter_cons_of_pos t,List.filter_nil]
   have Z:=app (N:=λ σ h'=>∃a b' c d,h'=h++[L3.IO.lst (fs.map (λ c=>IV.int c.len)++[ci].map λ c=>IV.int c.len)]/\σ=[some (.ref R),some (.ref S),some (.int b),some (.int l),some (.ref h.length),a,b',c,d]) (Rr:=λ v h'=>v=.bl (Jmw rs cs b l)/\Ex h h') (σ:=[some (.ref R),some (.ref S),some (.int b),some (.int l),some (.ref h.length),some (.int (ci.at_:Int)),some (.int ci.come),some (.int ci.late),some (.int ci.len)]) rfl rfl ⟨_,_,_,_,rfl,rfl⟩
   simp(implicitDefEqProofs:=false) only[Jmh,Ji1,Jia,Jmi,Jt2,Jic,Jib,Jfi,Jmd,Jmf,Jh9,Jmg,Jme,Jcz,Jd,Ji8,J2i,Jp1,Jr7,Jlr,Jt1,Jlp,Jty,Jtt,Jh5,Jmb,Jh6,Jh7,Jcy,Jhu,Jem,Jmc,Jl1,Jhv,Jh2,Jtp,Jl7,Jlw,Jeo,Jep,Jtz,Jlu,Jlo,Jma,Jl4,Jl3,Jhx,Jl2,Jl8,Jht,Jtv,Jtu,Jts,Jtr,Jtq,Jtw,Jls,Jl5,Jlq,Jh8,Jl6,Jlt,Jtx,Jhy,Jlv,Jh3,Jh4,Jlx,Jlz,Jly,Jl9,Jen,Krz,Ksz,Kvz,Ktz,Kuz] at Z
   exact Z
  ·have t:¬inB rs b l ci=true:=by rw[ei];simp[z2]
   rw[List.filter_cons_of_neg t,List.filter_nil,List.map_nil,List.append_nil]
   exact⟨_,_,_,_,rfl,rfl⟩
  ·have t:¬inB rs b l ci=true:=by rw[ei];simp[show ¬b<=ci.come+ci.late by omega]
   rw[List.filter_cons_of_neg t,List.filter_nil,List.map_nil,List.append_nil]
   exact⟨_,_,_,_,rfl,rfl⟩
 ·rintro _ _ ⟨a,b',c,d,rfl,rfl⟩
  rw[List.length_map,List.take_of_length_le (Nat.le_refl _)]
  have em:(cs.filter (inB rs b l)).map (λ c=>IV.int c.len)=((cs.filter (inB rs b l)).map (·.len)).map IV.int:=by rw[List.map_map];rfl
  rw[em]
  have pl:∀x∈((cs.filter (inB rs b l)).map (·.len)).map IV.int,Pl x:=λ x hx=>by
   obtain⟨n,_,rfl⟩:=List.mem_map.mp hx
   exact .inl ⟨n,rfl⟩
  have es:(((cs.filter (inB rs b l)).map (·.len)).map IV.int).isEmpty=(cs.filter (inB rs b l)).isEmpty:=by cases cs.filter (inB rs b l)<;>rfl
  have eF:Jmw rs cs b l=(!(cs.filter (inB rs b l)).isEmpty&&decide (l-b<((cs.filter (inB rs b l)).map (·.len)).sum)):=rfl
  rw[eF]
  generalize (cs.filter (inB rs b l)).isEmpty=em at es
  generalize (cs.filter (inB rs b l)).map (·.len)=ls at pl es
  simp! [Jig,List.length_nil,Nat.zero_le]
  rw[J3y (grow grown) grown pl,es]
  have x2:Ex h (h++[L3.IO.lst (ls.map IV.int)]++[L3.IO.lst []]):=(Ex.one _ _).trans (.one _ _)
  have gL:(h++[L3.IO.lst (ls.map IV.int)]++[L3.IO.lst []])[h.length]?=some (.lst (ls.map IV.int)):=grow grown
  generalize h++[L3.IO.lst (ls.map IV.int)]++[L3.IO.lst []]=h2 at x2 gL ⊢
  cases em with
  | true =>
   simp! [true_and]
   exact⟨rfl,x2⟩
  | false =>
   simp! [Jw3,gL,Jcu]
   exact⟨by simp,x2⟩
theorem J2p {R S lo:Nat}{ys:List IV}{rs:List RH}{cs:List Cm}(gR:h[R]?=some (.lst (cs.map tupC))) (hS:h[S]?=some (.lst ys)) (w:RowT h lo ys rs) (ok:∀c∈cs,c.at_<rs.length) (hl:cs.length<=14) (no:∀c∈cs,∀l,Jmw rs cs (rdC c) l=false) :
  WR (Jfl (k+2) [.ref R,.ref S] h) λ v h'=>v=.bl false/\Ex h h':=by
 rw[Jsc]
 simp! [Je9,Jap,gR]
 refine Jam (λ n σ h'=>Ex h h'/\∃a b,σ=[some (.ref R),some (.ref S),a,b]) (λ _ _ _ q=>q.1.get gR) ?_ ?_ ⟨.refl _,none,none,rfl⟩
 ·rintro n hn _ h1 ⟨x1,a,b,rfl⟩
  have hn':n<cs.length:=by simpa using hn
  rw[List.getElem_map]
  have no':=no _ (List.getElem_mem hn')
  generalize cs[n]=c1 at no'
  simp! [Jiw,Jap,x1.get gR]
  refine Jam (λ n σ h'=>Ex h h'/\∃b,σ=[some (.ref R),some (.ref S),some (tupC c1),b]) (λ _ _ _ q=>q.1.get gR) ?_ ?_ ⟨x1,b,rfl⟩
  ·rintro m hm _ h2 ⟨x2,b,rfl⟩
   have hm':m<cs.length:=by simpa using hm
   rw[List.getElem_map]
   have ca:=ok _ (List.getElem_mem hm')
   generalize cs[m]=c2 at ca
   obtain⟨q,ey,_⟩:=w.get (List.getElem?_eq_getElem ca)
   have ay:=Jan ey
   generalize rs[c2.at_]=r at ay
   simp! [Jiv,Jbe,x2.get hS,ay]
   refine WR.mono (Ju8 (k:=k) (x2.get gR) (x2.get hS) (w.kp x2.kp) ok hl) ?_
   rintro _ h3 ⟨rfl,x3⟩
   have e0:=no' (c2.come+r.1.due)
   have e0:Jmw rs cs (c1.come+c1.late) (c2.come+r.1.due)=false:=e0
   rw[e0]
   simp! [true_and]
   exact⟨x2.trans x3,_,rfl⟩
  ·rintro _ h2 ⟨x2,b,rfl⟩
   exact⟨x2,_,_,rfl⟩
 ·rintro _ h1 ⟨x1,a,b,rfl⟩
  simp! [Jjs]
  exact x1
theorem compE {h h0:IH}{it:I1}{e:E1}{js:List Nat}{σ:ISt}{xs:List IV}{chk:IH->Prop}(D:IV->IV->IH->Prop) (hit:WR (it σ h0) λ J h1=>J.xs=xs/\J.chk=chk/\h1=h) (hl:xs.length<sizeLine)
  (mono:∀x y h2 h3,KpB h.length h2 h3->D x y h2->D x y h3) (hc:∀h2:IH,Kp h h2->chk h2)
  (he:∀x∈xs,∀h2:IH,Kp h h2->h.length<h2.length->WR (e (some x::js.map λ j=>(σ[j]?).join) h2) λ v h3=>Ex h2 h3/\D x v h3) :
  ∃v h3,J0 it 1 js (gNm 0) Jaa e σ h0=.ok v h3/\v=.ref h.length/\∃ys,h3[h.length]?=some (.lst ys)/\ys.length=xs.length/\Kp h h3/\∀(i:Nat) x y,xs[i]?=some x->ys[i]?=some y->D x y h3 :=
 (Jy1 D hit hl mono hc he).eq
noncomputable def DW (h1:IH) (x y:IV) (h':IH):Prop:=∀(r:RH) (q:Nat),x=tp6 r q->h1[q]?=some (.lst (r.2.map tupH))->∃w:Nat,y=IV.ref w/\w≠h1.length/\h'[w]?=some (wo r)
theorem Jyz {S lo:Nat}{ys:List IV}{rs:List RH}{unit:Int}{a0 a2 a3 a4 a5 a6:Option IV}(G:Gd unit rs) (gS:h[S]?=some (.lst ys)) (w:RowT h lo ys rs) :
  ∃h',J0 (iAny (eVar 1)) 1 [] (gNm 0) Jaa (Jdp (k+5)) [a0,some (.ref S),a2,a3,a4,a5,a6] h=.ok (.ref h.length) h'/\∃vs,h'[h.length]?=some (.lst vs)/\AllH h' vs rs/\Kp h h':=by
 have hb:=Jc
 have few:=G.few
 have wl:=w.len
 have X:=@compE h h (iAny (eVar 1)) (Jdp (k+5)) [] [a0,some (.ref S),a2,a3,a4,a5,a6] ys (λ h'=>h'[S]?=some (.lst ys)) (DW h)
  (by simp! [Jap,gS]) (by omega) (by
   intro x y h2 h3 kb dd r q e g
   obtain⟨w,e1,e2,e3⟩:=dd r q e g
   exact⟨w,e1,e2,kb _ _ e2 e3⟩) (λ h2 q=>q _ _ gS) (by
   intro x hx h2 k2 l2
   obtain⟨n,hn,rfl⟩:=List.mem_iff_getElem.mp hx
   have hn':n<rs.length:=by omega
   obtain⟨q,ey,_,gq⟩:=w.at_ n _ _ (List.getElem?_eq_getElem hn) (List.getElem?_eq_getElem hn')
   have f8:=G.f _ (List.getElem_mem hn')
   have u1:=G.u1
   rw[ey]
   generalize rs[n]=r at gq f8
   have f1:=f8.g1
   have gq2:=k2 _ _ gq
   have a5:atI (IV.str r.1.name::tp5 r q) 5=some (.ref q):=J2q
   simp! [Jdp,Jr2,gq2,a5]
   generalize hs':r.2.map tupH=hs
   refine WR.mono (J08 (k:=k) (hs:=hs) f8.nm (by omega) f8.l1 f8.t1 (λ h1=>Js0 f8.d1 f8.d2) λ h1 z=>hs'▸Jor (z _ _ (by rw[hs'];exact grown)) f8.ok) ?_
   rintro _ h3 ⟨rfl,g,rfl⟩
   refine⟨rfl,(Ex.one _ _).trans (.cons _ _ _),λ r' q' e' g'=>⟨_,rfl,by rw[List.length_append];omega,?_⟩⟩
   have e':tp6 r q=tp6 r' q':=e'
   simp only[tp6,tp5,IV.tup.injEq,List.cons.injEq,IV.str.injEq,IV.int.injEq,IV.ref.injEq,and_true] at e'
   obtain⟨e1,e2,e3,e4,e5,rfl⟩:=e'
   rw[gq] at g'
   have g':r.2.map tupH=r'.2.map tupH:=by simpa using g'
   rw[<- hs',g']
   unfold wo
   rw[<- e1,<-e2,<-e3,<-e4,<-e5]
   exact Jq)
 obtain⟨v,h3,ev,rfl,vs,gv,lv,k3,dv⟩:=X
 refine⟨h3,ev,vs,gv,⟨by omega,λ i v r a b=>?_⟩,k3⟩
 obtain⟨q,ey,gq⟩:=w.get b
 obtain⟨W,e1,_,e3⟩:=dv i _ _ ey a r q rfl gq
 exact⟨W,e1,e3⟩
end
section
variable {h:IH}
theorem ne_tt {b:Bool}:cNe (.bl b) (.bl b) h=.ok (.bl false) h:=by cases b<;>rfl
seal WS in
theorem J18 {k S R D H lo:Nat}{ns:List Int}{ys:List IV}{rs:List RH}{cs:List Cm}{v:IV}(gR:h[R]?=some (.lst (cs.map tupC))) (gS:h[S]?=some (.lst ys)) (w:RowT h lo ys rs) (L:Legal rs cs) (hl:cs.length<=14) (ev:v=tfV (tfO rs cs)) :
  WS (Jmq (k+2) [some (.rol (ns.map IV.int)),some (.ref S),some (.ref R),some (.ref D),some (.ref H),some v,none] h) (λ _ _=>False) λ v _=>v=.bl true:=by
 have ok:∀c∈cs,c.at_<rs.length:=λ c hc=>(L.ok c hc).at_
 subst ev
 cases eo:tfO rs cs with
 | none =>
  simp! [Jmq,tfV,Jwz,isI]
  refine WR.mono (J2p (k:=k) gR gS w ok hl λ c hc l=>Ju7 eo hc) ?_
  rintro _ h1 ⟨rfl,x1⟩
  simp! [true_and]
 | some bu =>
  obtain⟨b,u⟩:=bu
  have e2:((([IV.int b,IV.int u].length:Nat):Int))=2:=rfl
  simp! [Jmq,Jul,Jq2,tfV,Jwz,isI,e2,decide_true]
  refine Jam (λ n σ h'=>h=h'/\∃a,σ=[some (.rol (ns.map IV.int)),some (.ref S),some (.ref R),some (.ref D),some (.ref H),some (.tup [.int b,.int u]),a]) (λ _ _ _ _=>trivial) ?_ ?_ ⟨rfl,_,rfl⟩
  ·rintro n hn _ _ ⟨rfl,a,rfl⟩
   obtain⟨x,ex⟩:∃x:Int,[IV.int b,IV.int u][n]=.int x:=by
    match n,hn with
    | 0,_=>exact⟨b,rfl⟩
    | 1,_=>exact⟨u,rfl⟩
    | n+2,hn=>exact absurd hn (by simp)
   rw[ex]
   simp! [Jre]
   exact⟨_,rfl⟩
  ·rintro _ _ ⟨rfl,a,rfl⟩
   simp! [Jq3]
   refine WR.mono (Ju8 (k:=k+1) gR gS w ok hl) ?_
   rintro _ h1 ⟨rfl,x1⟩
   rw[Ju9 L eo]
seal WS in
theorem Jx1 (ns:List Int) (hl:ns.length<=63):∃h',Jpr 16 [.rol (ns.map IV.int)] [.tab "too_full"]=.ok (.bl true) h':=by
 suffices h:WR (Jpr 16 [.rol (ns.map IV.int)] [.tab "too_full"]) λ v _=>v=.bl true by
  obtain⟨v,h',e,rfl⟩:=h.eq
  exact⟨h',e⟩
 have hb:=Jc
 have h0:([.tab "too_full"]:IH)[0]?=some (.tab "too_full"):=rfl
 generalize ([.tab "too_full"]:IH)=h at h0 ⊢
 rw[J26]
 have c7:=λ (h:IH)=>Jmt (k:=14) (h:=h) ns 7 (by decide)
 generalize ns.getD (Int.toNat 7) 0=x7 at c7
 simp! [Jpt,c7,show(0:Int)<2 by decide]
 refine WR.mono (J13 (k:=11) ns (decide (x7%2=0))) ?_
 rintro _ h1 ⟨x1,S,lo,ys,rs,c,unit,rfl,_,gS,w,D,lr,no⟩
 simp! [Jue]
 have ec:cutI (ns.map IV.int) (some 8) (some 22)=((ns.drop 8).take 14).map IV.int:=by
  rw[show(some (8:Int))=some ((8:Nat):Int) from rfl,show(some (22:Int))=some ((22:Nat):Int) from rfl,J0g]
  rw[List.map_take,List.map_drop,List.drop_take]
 rw[ec]
 have x2:Ex h1 (h1++[L3.IO.lst (((ns.drop 8).take 14).map IV.int)]):=.one _ _
 refine WR.mono (J4j (k:=13) (x2.get gS) (w.kp x2.kp) D (by omega) grown (by rw[List.length_take];omega)) ?_
 rintro _ h3 ⟨R,cs,rfl,_,gR,L,lcs,x3⟩
 have lcs:cs.length<=14:=Nat.le_trans lcs (by rw[List.length_take];omega)
 have x23:=x2.trans x3
 have G:=D.gd (show rs.length<=7 by omega)
 simp! [Juf]
 have Y:=@Jyz 10 h3 S lo ys rs unit (some (.rol (ns.map IV.int))) (some (.ref R)) none none none none G (x23.get gS) (w.kp x23.kp)
 generalize J0 (iAny (eVar 1)) 1 [] (gNm 0) Jaa (Jdp (10+5)) [some (.rol (ns.map IV.int)),some (.ref S),some (.ref R),none,none,none,none] h3=rc at Y ⊢
 obtain⟨h4,ev,vs,gv,wA,k4⟩:=Y
 rw[ev,Ji8]
 clear ev
 refine WR.mono (duty8 (k:=12) gv wA G) ?_
 rintro _ h5 ⟨rfl,x5,d5⟩
 refine⟨rfl,?_⟩
 have x4:=J21 k4
 have x35:=x4.trans x5
 have x25:=x23.trans x35
 have gR5:=x35.get gR
 have gS5:=x25.get gS
 have w5:=w.kp x25.kp
 have z5:=(x1.trans x25).get h0
 generalize h4.length=DD at d5 ⊢
 simp! [Jug,Juh,Jr2,gR5]
 have x6:Ex h5 (h5++[L3.IO.lst (cs.map tupC)]):=.one _ _
 refine WR.mono (Jzs (k:=9) (x6.get z5) (d5.kp x6.kp) grown L lcs) ?_
 rintro _ h7 ⟨rfl,x7⟩
 have gH:h7[h5.length]?=some (.lst (cs.map tupC)):=x7.get grown
 have x57:=x6.trans x7
 dsimp! [Jui]
 rw[J1b gH (x57.get gR5) (pl_cs cs)]
 simp! [Juj]
 rw[Jhw (i:=h5.length) (h1:=h7) rfl gH Jxa]
 simp! [Jy0,gH]
 have k8:Kp h5 (h7.set h5.length (L3.IO.lst [])):=λ j o z=>by
  have:=Jcv z
  rw[List.getElem?_set_ne (by omega)]
  exact x57.get z
 generalize h7.set h5.length (L3.IO.lst [])=h8 at k8
 dsimp! [Juk]
 refine WR.mono (Jzs (k:=9) (k8 _ _ z5) (d5.kp k8) (k8 _ _ gR5) L lcs) ?_
 rintro _ h9 ⟨rfl,x9⟩
 obtain⟨bb,eb⟩:∃bb,isI (tfV (tfO rs cs)) .non=some bb:=by
  cases tfO rs cs with
  | none=>exact⟨_,rfl⟩
  | some p=>exact⟨_,rfl⟩
 simp! [Jwz,eb,ne_tt]
 have k9:Kp h5 h9:=λ j o z=>x9.get (k8 _ _ z)
 exact WS.mono (J18 (k:=13) (k9 _ _ gR5) (k9 _ _ gS5) (w5.kp k9) L lcs rfl) (λ _ _ z=>z.elim) λ _ _ z=>z
end
end LW
end
namespace LW
open PySem L2 L3 L4
section
variable {K:W.Frag}{h:Heap}{mg:Str->Option Value}{a:Addr}{oc kV dc pm cd ct:Value}{od an:Option Addr}{sl:Array (Option Value)}
theorem Jqs:FnB "is_whole" "is_whole" Jee:=⟨scOk.of (by decide +kernel),rfl,rfl,λ _ _ _ _ _ _=>len1 (λ _=>rfl)⟩
theorem Ji6:FnB "is_whole_from" "is_whole_from" J7:=⟨scOk.of (by decide +kernel),rfl,rfl,λ _ _ _ _ _ _=>len2 (λ _ _=>rfl)⟩
theorem Jph:FnB "rounds_up" "rounds_up" Jcs:=⟨scOk.of (by decide +kernel),rfl,rfl,λ _ _ _ _ _ _=>len2 (λ _ _=>rfl)⟩
theorem Jyf:FnB "ready" "ready" Jmv:=⟨scOk.of (by decide +kernel),rfl,rfl,λ _ _ _ _ _ _=>len1 (λ _=>rfl)⟩
theorem Jwf:FnB "due_at" "due_at" Jjc:=⟨scOk.of (by decide +kernel),rfl,rfl,λ _ _ _ _ _ _=>len2 (λ _ _=>rfl)⟩
theorem Jpb:FnB "is_coming" "is_coming" Jcm:=⟨scOk.of (by decide +kernel),rfl,rfl,λ _ _ _ _ _ _=>len2 (λ _ _=>rfl)⟩
theorem Jkz:FnB "first_wrong" "first_wrong" Jau:=⟨scOk.of (by decide +kernel),rfl,rfl,λ _ _ _ _ _ _=>len2 (λ _ _=>rfl)⟩
theorem Js8:FnB "checked" "checked" Jgr:=⟨scOk.of (by decide +kernel),rfl,rfl,λ _ _ _ _ _ _=>len2 (λ _ _=>rfl)⟩
theorem Jnb:FnB "full_until" "full_until" Jba:=⟨scOk.of (by decide +kernel),rfl,rfl,λ _ _ _ _ _ _=>len3 (λ _ _ _=>rfl)⟩
theorem Jqw:FnB "too_full" "too_full" Jei:=⟨scOk.of (by decide +kernel),rfl,rfl,λ _ _ _ _ _ _=>len2 (λ _ _=>rfl)⟩
theorem Jta:FnB "is_name" "is_name" Jgt:=⟨scOk.of (by decide +kernel),rfl,rfl,λ _ _ _ _ _ _=>len1 (λ _=>rfl)⟩
theorem Js9:FnB "is_hold" "is_hold" Jgs:=⟨scOk.of (by decide +kernel),rfl,rfl,λ _ _ _ _ _ _=>len2 (λ _ _=>rfl)⟩
theorem Jpe:FnB "lie_apart" "lie_apart" Jcp:=⟨scOk.of (by decide +kernel),rfl,rfl,λ _ _ _ _ _ _=>len2 (λ _ _=>rfl)⟩
theorem Jtd:FnB "lies_in" "lies_in" Jgw:=⟨scOk.of (by decide +kernel),rfl,rfl,λ _ _ _ _ _ _=>len2 (λ _ _=>rfl)⟩
theorem Jk0:FnB "go_together" "go_together" Jav:=⟨scOk.of (by decide +kernel),rfl,rfl,λ _ _ _ _ _ _=>len2 (λ _ _=>rfl)⟩
theorem Jha:FnB "all_go_together" "all_go_together" J4:=⟨scOk.of (by decide +kernel),rfl,rfl,λ _ _ _ _ _ _=>len1 (λ _=>rfl)⟩
theorem Jpf:FnB "own_holds" "own_holds" Jcq:=⟨scOk.of (by decide +kernel),rfl,rfl,λ _ _ _ _ _ _=>len2 (λ _ _=>rfl)⟩
theorem Jte:FnB "own_due" "own_due" Jgx:=⟨scOk.of (by decide +kernel),rfl,rfl,λ _ _ _ _ _ _=>len2 (λ _ _=>rfl)⟩
theorem Jpa:FnScope Jk.N Jk.ps (Jh Jk.st):=scOk.of (by decide +kernel)
theorem Jop {C:Addr}{T:Addr}{ox:Value}{oy:Option Addr}{nx:Nat}{sx:Array (Option Value)}{tk1:Tok}(ha:W.findIn K (.ref C) "__init__"=some (some (.ref a))) (hi:W.isFn K (.ref a)=true) (hl:K.lookup a=some ⟨oc,od,.func (W.fnOf "__init__" "Work.__init__" (Jae Jk.st) (Jz Jk.st) (Jh Jk.st) (.ref T) kV dc pm an cd ct),sl⟩) (hc:W.codeIn K cd "Work.__init__"=true) (hk:W.keepIn K (.ref a)=true) (hd:K.lookup T=some ⟨ox,oy,.seq #[.none,.int 0 tk1,.none] nx,sx⟩) (hm:W.makesIn K C=true) (hq:W.keepIn K (.ref C)=true):∃fa fd,Mk K C fa/\DefOk K "__init__" Jk fa fd :=
 ⟨a,_,⟨hm,ha,hi,hq⟩,⟨⟨_,⟨oc,od,kV,dc,pm,an,cd,ct,sl,rfl,hl,hc⟩,hk⟩,Jpa,(by intro j hj;rcases upto3 j (show j<=3 from hj) with rfl|rfl|rfl|rfl;exact⟨[.none,.int 0 tk1,.none],λ s us Y hl=>len4 (P:=λ us=>BindsTo s _ ⟨us,[]⟩ (Jk.ps.zip (us++[.none,.int 0 tk1,.none]))) (λ _ _ _ _=>.of_defaults rfl (Y T _ hd) rfl rfl rfl) us (show us.length=4 by rw[List.length_append] at hl;exact Nat.add_right_cancel (m:=3) hl),rfl,[V.non,V.int 0,V.non],.cons rfl (.cons ⟨_,rfl⟩ (.cons rfl (.nil))),λ _ _=>⟨_,_,rfl,rfl,⟨_,_,rfl,rfl,⟨_,_,rfl,rfl,rfl⟩⟩⟩⟩;exact⟨[.int 0 tk1,.none],λ s us Y hl=>len5 (P:=λ us=>BindsTo s _ ⟨us,[]⟩ (Jk.ps.zip (us++[.int 0 tk1,.none]))) (λ _ _ _ _ _=>.of_defaults rfl (Y T _ hd) rfl rfl rfl) us (show us.length=5 by rw[List.length_append] at hl;exact Nat.add_right_cancel (m:=2) hl),rfl,[V.int 0,V.non],.cons ⟨_,rfl⟩ (.cons rfl (.nil)),λ _ _=>⟨_,_,rfl,rfl,⟨_,_,rfl,rfl,rfl⟩⟩⟩;exact⟨[.none],λ s us Y hl=>len6 (P:=λ us=>BindsTo s _ ⟨us,[]⟩ (Jk.ps.zip (us++[.none]))) (λ _ _ _ _ _ _=>.of_defaults rfl (Y T _ hd) rfl rfl rfl) us (show us.length=6 by rw[List.length_append] at hl;exact Nat.add_right_cancel (m:=1) hl),rfl,[V.non],.cons rfl (.nil),λ _ _=>⟨_,_,rfl,rfl,rfl⟩⟩;exact⟨[],λ s us Y hl=>len7 (P:=λ us=>BindsTo s _ ⟨us,[]⟩ (Jk.ps.zip (us++[]))) (λ _ _ _ _ _ _ _=>.of_defaults rfl (Y T _ hd) rfl rfl rfl) us (show us.length=7 by rw[List.length_append] at hl;exact Nat.add_right_cancel (m:=0) hl),rfl,[],.nil,λ _ _=>rfl⟩)⟩⟩
theorem Jpg:FnB "own_works" "own_works" Jcr:=⟨scOk.of (by decide +kernel),rfl,rfl,λ _ _ _ _ _ _=>len1 (λ _=>rfl)⟩
theorem Jqr:FnB "crowd_of" "crowd_of" Jed:=⟨scOk.of (by decide +kernel),rfl,rfl,λ _ _ _ _ _ _=>len1 (λ _=>rfl)⟩
theorem Jo7:FnB "__init__" "Duty.__init__" Jcj:=⟨scOk.of (by decide +kernel),rfl,rfl,λ _ _ _ _ _ _=>len2 (λ _ _=>rfl)⟩
theorem Jo8:FnB "size" "Duty.size" Jck:=⟨scOk.of (by decide +kernel),rfl,rfl,λ _ _ _ _ _ _=>len1 (λ _=>rfl)⟩
theorem Jo9:FnB "work" "Duty.work" Jcl:=⟨scOk.of (by decide +kernel),rfl,rfl,λ _ _ _ _ _ _=>len2 (λ _ _=>rfl)⟩
theorem Jna:FnB "crowd" "Duty.crowd" Jdy:=⟨scOk.of (by decide +kernel),rfl,rfl,λ _ _ _ _ _ _=>len1 (λ _=>rfl)⟩
theorem Jk1:FnB "_law_cell_at" "_law_cell_at" Jaw:=⟨scOk.of (by decide +kernel),rfl,rfl,λ _ _ _ _ _ _=>len2 (λ _ _=>rfl)⟩
theorem Jnc:FnB "_law_stream" "_law_stream" Jbb:=⟨scOk.of (by decide +kernel),rfl,rfl,λ _ _ _ _ _ _=>len2 (λ _ _=>rfl)⟩
theorem Jqv:FnB "_law_word" "_law_word" Jeh:=⟨scOk.of (by decide +kernel),rfl,rfl,λ _ _ _ _ _ _=>len2 (λ _ _=>rfl)⟩
theorem Jpc:FnB "_law_holds" "_law_holds" Jcn:=⟨scOk.of (by decide +kernel),rfl,rfl,λ _ _ _ _ _ _=>len3 (λ _ _ _=>rfl)⟩
theorem Jpd:FnB "_law_plain" "_law_plain" Jco:=⟨scOk.of (by decide +kernel),rfl,rfl,λ _ _ _ _ _ _=>len3 (λ _ _ _=>rfl)⟩
theorem Jqu:FnB "_law_some" "_law_some" Jeg:=⟨scOk.of (by decide +kernel),rfl,rfl,λ _ _ _ _ _ _=>len2 (λ _ _=>rfl)⟩
theorem Jtc:FnB "_law_row" "_law_row" Jgv:=⟨scOk.of (by decide +kernel),rfl,rfl,λ _ _ _ _ _ _=>len2 (λ _ _=>rfl)⟩
theorem Jqt:FnB "_law_full" "_law_full" Jef:=⟨scOk.of (by decide +kernel),rfl,rfl,λ _ _ _ _ _ _=>len4 (λ _ _ _ _=>rfl)⟩
theorem Jtb:FnB "_law_any" "_law_any" Jgu:=⟨scOk.of (by decide +kernel),rfl,rfl,λ _ _ _ _ _ _=>len2 (λ _ _=>rfl)⟩
theorem J4v:FnScope Jj3.N Jj3.ps (Jh Jj3.st):=scOk.of (by decide +kernel)
theorem J3v (X:K.In h) (G:h.Ns mainGlobals mg) (ha:W.nsIn K mainGlobals "law"=some (some (.ref a))) (hl:K.lookup a=some ⟨oc,od,.func (W.fnOf "law" "law" (Jae Jj3.st) (Jz Jj3.st) (Jh Jj3.st) .none kV dc pm an cd ct),sl⟩) (hc:W.codeIn K cd "law"=true) (hk:W.keepIn K (.ref a)=true):∃fa fd,mg "law"=some (.ref fa)/\DefOk K "law" Jj3 fa fd/\∀(s:Shared) (v:Value),BindsTo s fd ⟨[v],[]⟩ [("_law_script",v)] :=
 ⟨a,_,W.mg_of X G ha,Jza (d:=Jj3) hl hc hk J4v rfl (len1 (λ _=>rfl)),λ s v=>.of_eq rfl⟩
theorem Jrf {C:Addr}(pg:W.plainGet K C Str.empty=true) (hd:W.hasDictIn K C=true) (po:W.plainOver K C=true) (sa:W.findIn K (.ref C) "__setattr__"=some (some (.builtin "object.__setattr__"))) (h1:W.findIn K (.ref C) "__class__"=some (some (.builtin "object.__class__"))) (h2:W.specialIn K (.builtin "object.__class__") "__get__"=some (some (.builtin "getset_descriptor.__get__"))) (h3:W.takesIn K (.builtin "object.__class__")=some true) (h4:W.mroIn K C (.type "object")=some true) (n0:W.findIn K (.ref C) "append"=some none) (n1:W.findIn K (.ref C) "clear"=some none) (n2:W.findIn K (.ref C) "due"=some none) (n3:W.findIn K (.ref C) "gap"=some none) (n4:W.findIn K (.ref C) "hold_tuples"=some none) (n5:W.findIn K (.ref C) "join"=some none) (n6:W.findIn K (.ref C) "late"=some none) (n7:W.findIn K (.ref C) "length"=some none) (n8:W.findIn K (.ref C) "name"=some none) (n9:W.findIn K (.ref C) "place"=some none) (n10:W.findIn K (.ref C) "works"=some none):ClsI K C/\All (λ f=>Jfn K C f) T.flds :=
 ⟨⟨⟨pg,hd,po,sa⟩,h1,h2,h3,h4⟩,.cons n0 (.cons n1 (.cons n2 (.cons n3 (.cons n4 (.cons n5 (.cons n6 (.cons n7 (.cons n8 (.cons n9 (.cons n10 (.nil)))))))))))⟩
theorem fin {prog:Program}{w:World}{fa:Addr}(X:K.In h) (G:h.Ns mainGlobals mg) (hfa:mg "law"=some (.ref fa)){C_Work:Addr}{C_Duty:Addr}{tk_MOST_COMINGS:Tok}{tk_AT:Tok}{tk_COME:Tok}{tk_LATE:Tok}{tk_LENGTH:Tok}{tk_MOST_LETTERS:Tok}{tk_MOST_HOLDS:Tok}{tk_THING:Tok}{tk_START:Tok}{tk_END:Tok}{tk_MOST_WORKS:Tok}{tk_MOST_CROWD:Tok}
  (aC_Work:W.nsIn K mainGlobals "Work"=some (some (.ref C_Work)))
  (aC_Duty:W.nsIn K mainGlobals "Duty"=some (some (.ref C_Duty)))
  (f_is_whole:∃fa fd,mg "is_whole"=some (.ref fa)/\DefOk K "is_whole" Jee fa fd)
  (f_is_whole_from:∃fa fd,mg "is_whole_from"=some (.ref fa)/\DefOk K "is_whole_from" J7 fa fd)
  (f_rounds_up:∃fa fd,mg "rounds_up"=some (.ref fa)/\DefOk K "rounds_up" Jcs fa fd)
  (f_ready:∃fa fd,mg "ready"=some (.ref fa)/\DefOk K "ready" Jmv fa fd)
  (f_due_at:∃fa fd,mg "due_at"=some (.ref fa)/\DefOk K "due_at" Jjc fa fd)
  (f_is_coming:∃fa fd,mg "is_coming"=some (.ref fa)/\DefOk K "is_coming" Jcm fa fd)
  (f_first_wrong:∃fa fd,mg "first_wrong"=some (.ref fa)/\DefOk K "first_wrong" Jau fa fd)
  (f_checked:∃fa fd,mg "checked"=some (.ref fa)/\DefOk K "checked" Jgr fa fd)
  (f_full_until:∃fa fd,mg "full_until"=some (.ref fa)/\DefOk K "full_until" Jba fa fd)
  (f_too_full:∃fa fd,mg "too_full"=some (.ref fa)/\DefOk K "too_full" Jei fa fd)
  (f_is_name:∃fa fd,mg "is_name"=some (.ref fa)/\DefOk K "is_name" Jgt fa fd)
  (f_is_hold:∃fa fd,mg "is_hold"=some (.ref fa)/\DefOk K "is_hold" Jgs fa fd)
  (f_lie_apart:∃fa fd,mg "lie_apart"=some (.ref fa)/\DefOk K "lie_apart" Jcp fa fd)
  (f_lies_in:∃fa fd,mg "lies_in"=some (.ref fa)/\DefOk K "lies_in" Jgw fa fd)
  (f_go_together:∃fa fd,mg "go_together"=some (.ref fa)/\DefOk K "go_together" Jav fa fd)
  (f_all_go_together:∃fa fd,mg "all_go_together"=some (.ref fa)/\DefOk K "all_go_together" J4 fa fd)
  (f_own_holds:∃fa fd,mg "own_holds"=some (.ref fa)/\DefOk K "own_holds" Jcq fa fd)
  (f_own_due:∃fa fd,mg "own_due"=some (.ref fa)/\DefOk K "own_due" Jgx fa fd)
  (f_own_works:∃fa fd,mg "own_works"=some (.ref fa)/\DefOk K "own_works" Jcr fa fd)
  (f_crowd_of:∃fa fd,mg "crowd_of"=some (.ref fa)/\DefOk K "crowd_of" Jed fa fd)
  (f_law_cell_at:∃fa fd,mg "_law_cell_at"=some (.ref fa)/\DefOk K "_law_cell_at" Jaw fa fd)
  (f_law_stream:∃fa fd,mg "_law_stream"=some (.ref fa)/\DefOk K "_law_stream" Jbb fa fd)
  (f_law_word:∃fa fd,mg "_law_word"=some (.ref fa)/\DefOk K "_law_word" Jeh fa fd)
  (f_law_holds:∃fa fd,mg "_law_holds"=some (.ref fa)/\DefOk K "_law_holds" Jcn fa fd)
  (f_law_plain:∃fa fd,mg "_law_plain"=some (.ref fa)/\DefOk K "_law_plain" Jco fa fd)
  (f_law_some:∃fa fd,mg "_law_some"=some (.ref fa)/\DefOk K "_law_some" Jeg fa fd)
  (f_law_row:∃fa fd,mg "_law_row"=some (.ref fa)/\DefOk K "_law_row" Jgv fa fd)
  (f_law_full:∃fa fd,mg "_law_full"=some (.ref fa)/\DefOk K "_law_full" Jef fa fd)
  (f_law_any:∃fa fd,mg "_law_any"=some (.ref fa)/\DefOk K "_law_any" Jgu fa fd)
  (f_law:∃fa fd,mg "law"=some (.ref fa)/\DefOk K "law" Jj3 fa fd/\∀(s:Shared) (v:Value),BindsTo s fd ⟨[v],[]⟩ [("_law_script",v)])
  (i_Work:∃fa fd,Mk K C_Work fa/\DefOk K "__init__" Jk fa fd)
  (c_Work:ClsI K C_Work/\All (λ f=>Jfn K C_Work f) T.flds)
  (i_Duty:∃fa fd,Mk K C_Duty fa/\DefOk K "__init__" Jcj fa fd)
  (m_Duty_size:∃fa fd,Meth K C_Duty "size" fa/\DefOk K "size" Jck fa fd)
  (m_Duty_work:∃fa fd,Meth K C_Duty "work" fa/\DefOk K "work" Jcl fa fd)
  (m_Duty_crowd:∃fa fd,Meth K C_Duty "crowd" fa/\DefOk K "crowd" Jdy fa fd)
  (c_Duty:ClsI K C_Duty/\All (λ f=>Jfn K C_Duty f) T.flds)
  (g_MOST_COMINGS:W.nsIn K mainGlobals "MOST_COMINGS"=some (some (.int 200 tk_MOST_COMINGS)))
  (g_AT:W.nsIn K mainGlobals "AT"=some (some (.int 0 tk_AT)))
  (g_COME:W.nsIn K mainGlobals "COME"=some (some (.int 1 tk_COME)))
  (g_LATE:W.nsIn K mainGlobals "LATE"=some (some (.int 2 tk_LATE)))
  (g_LENGTH:W.nsIn K mainGlobals "LENGTH"=some (some (.int 3 tk_LENGTH)))
  (g_MOST_LETTERS:W.nsIn K mainGlobals "MOST_LETTERS"=some (some (.int 8 tk_MOST_LETTERS)))
  (g_MOST_HOLDS:W.nsIn K mainGlobals "MOST_HOLDS"=some (some (.int 6 tk_MOST_HOLDS)))
  (g_THING:W.nsIn K mainGlobals "THING"=some (some (.int 0 tk_THING)))
  (g_START:W.nsIn K mainGlobals "START"=some (some (.int 1 tk_START)))
  (g_END:W.nsIn K mainGlobals "END"=some (some (.int 2 tk_END)))
  (g_MOST_WORKS:W.nsIn K mainGlobals "MOST_WORKS"=some (some (.int 12 tk_MOST_WORKS)))
  (g_MOST_CROWD:W.nsIn K mainGlobals "MOST_CROWD"=some (some (.int 80 tk_MOST_CROWD)))
  (k_Work_NoneType:W.kitOne K (.type "NoneType") (.ref C_Work)=some false)
  (k_Work_bool:W.kitOne K (.type "bool") (.ref C_Work)=some false)
  (k_Work_int:W.kitOne K (.type "int") (.ref C_Work)=some false)
  (k_Work_str:W.kitOne K (.type "str") (.ref C_Work)=some false)
  (k_Work_list:W.kitOne K (.type "list") (.ref C_Work)=some false)
  (k_Work_tuple:W.kitOne K (.type "tuple") (.ref C_Work)=some false)
  (k_Work_dict:W.kitOne K (.type "dict") (.ref C_Work)=some false)
  (k_Work_Work:W.kitOne K (.ref C_Work) (.ref C_Work)=some (memS "Work" ["Work"]))
  (k_Work_Duty:W.kitOne K (.ref C_Duty) (.ref C_Work)=some (memS "Duty" ["Work"]))
  (z_all:W.nsIn K mainGlobals "all"=some none)
  (z_bool:W.nsIn K mainGlobals "bool"=some none)
  (z_enumerate:W.nsIn K mainGlobals "enumerate"=some none)
  (z_int:W.nsIn K mainGlobals "int"=some none)
  (z_isinstance:W.nsIn K mainGlobals "isinstance"=some none)
  (z_len:W.nsIn K mainGlobals "len"=some none)
  (z_list:W.nsIn K mainGlobals "list"=some none)
  (z_max:W.nsIn K mainGlobals "max"=some none)
  (z_range:W.nsIn K mainGlobals "range"=some none)
  (z_set:W.nsIn K mainGlobals "set"=some none)
  (z_sorted:W.nsIn K mainGlobals "sorted"=some none)
  (z_str:W.nsIn K mainGlobals "str"=some none)
  (z_sum:W.nsIn K mainGlobals "sum"=some none)
  (z_tuple:W.nsIn K mainGlobals "tuple"=some none)
  : ∃fd:FuncData,(∀(s:Shared) (v:Value),BindsTo s fd ⟨[v],[]⟩ [("_law_script",v)])/\∀base:Heap,K.In base->base.Ns mainGlobals mg->Jjj mg base->FnOk prog w K mg base (CXI prog w) 64 fa fd ["_law_script"] (Jti K "_law_script" (Jpr 16)):=by
 obtain⟨fa',fd,hm,ok,hb⟩:=f_law
 have e:=hfa.symm.trans hm
 cases e
 have O:TabOk (ceOf [("Work",C_Work),("Duty",C_Duty)]) T K mg:=J44 _
  (.cons (f_is_whole) (.cons (f_is_whole_from) (.cons (f_rounds_up) (.cons (f_ready) (.cons (f_due_at) (.cons (f_is_coming) (.cons (f_first_wrong) (.cons (f_checked) (.cons (f_full_until) (.cons (f_too_full) (.cons (f_is_name) (.cons (f_is_hold) (.cons (f_lie_apart) (.cons (f_lies_in) (.cons (f_go_together) (.cons (f_all_go_together) (.cons (f_own_holds) (.cons (f_own_due) (.cons (f_own_works) (.cons (f_crowd_of) (.cons (f_law_cell_at) (.cons (f_law_stream) (.cons (f_law_word) (.cons (f_law_holds) (.cons (f_law_plain) (.cons (f_law_some) (.cons (f_law_row) (.cons (f_law_full) (.cons (f_law_any) (.cons (⟨_,_,hm,ok⟩) (.nil)))))))))))))))))))))))))))))))
  (.cons ((let ⟨fa,fd,p,q⟩:=i_Work;⟨C_Work,fa,fd,W.mg_of X G aC_Work,by kernel_rfl,p,q⟩)) (.cons ((let ⟨fa,fd,p,q⟩:=i_Duty;⟨C_Duty,fa,fd,W.mg_of X G aC_Duty,by kernel_rfl,p,q⟩)) (.nil)))
  (.cons (⟨C_Work,by kernel_rfl,.nil⟩) (.cons (⟨C_Duty,by kernel_rfl,.cons (m_Duty_size) (.cons (m_Duty_work) (.cons (m_Duty_crowd) (.nil)))⟩) (.nil)))
  (.cons (⟨_,.int 200,W.mg_of X G g_MOST_COMINGS,⟨tk_MOST_COMINGS,rfl⟩,λ _ _=>rfl⟩) (.cons (⟨_,.int 0,W.mg_of X G g_AT,⟨tk_AT,rfl⟩,λ _ _=>rfl⟩) (.cons (⟨_,.int 1,W.mg_of X G g_COME,⟨tk_COME,rfl⟩,λ _ _=>rfl⟩) (.cons (⟨_,.int 2,W.mg_of X G g_LATE,⟨tk_LATE,rfl⟩,λ _ _=>rfl⟩) (.cons (⟨_,.int 3,W.mg_of X G g_LENGTH,⟨tk_LENGTH,rfl⟩,λ _ _=>rfl⟩) (.cons (⟨_,.int 8,W.mg_of X G g_MOST_LETTERS,⟨tk_MOST_LETTERS,rfl⟩,λ _ _=>rfl⟩) (.cons (⟨_,.int 6,W.mg_of X G g_MOST_HOLDS,⟨tk_MOST_HOLDS,rfl⟩,λ _ _=>rfl⟩) (.cons (⟨_,.int 0,W.mg_of X G g_THING,⟨tk_THING,rfl⟩,λ _ _=>rfl⟩) (.cons (⟨_,.int 1,W.mg_of X G g_START,⟨tk_START,rfl⟩,λ _ _=>rfl⟩) (.cons (⟨_,.int 2,W.mg_of X G g_END,⟨tk_END,rfl⟩,λ _ _=>rfl⟩) (.cons (⟨_,.int 12,W.mg_of X G g_MOST_WORKS,⟨tk_MOST_WORKS,rfl⟩,λ _ _=>rfl⟩) (.cons (⟨_,.int 80,W.mg_of X G g_MOST_CROWD,⟨tk_MOST_CROWD,rfl⟩,λ _ _=>rfl⟩) (.nil)))))))))))))
  (.cons (c_Work) (.cons (c_Duty) (.nil)))
  (.cons (⟨C_Work,W.mg_of X G aC_Work,k_Work_NoneType,k_Work_bool,k_Work_int,k_Work_str,k_Work_list,k_Work_tuple,k_Work_dict,.cons (k_Work_Work) (.cons (k_Work_Duty) (.nil))⟩) (.nil))
  (.cons (W.mg_none_of X G z_all) (.cons (W.mg_none_of X G z_bool) (.cons (W.mg_none_of X G z_enumerate) (.cons (W.mg_none_of X G z_int) (.cons (W.mg_none_of X G z_isinstance) (.cons (W.mg_none_of X G z_len) (.cons (W.mg_none_of X G z_list) (.cons (W.mg_none_of X G z_max) (.cons (W.mg_none_of X G z_range) (.cons (W.mg_none_of X G z_set) (.cons (W.mg_none_of X G z_sorted) (.cons (W.mg_none_of X G z_str) (.cons (W.mg_none_of X G z_sum) (.cons (W.mg_none_of X G z_tuple) (.nil)))))))))))))))
 exact⟨fd,hb,λ base _ _ B=>J04 O (λ _=>B) 16 rfl ok⟩
end
end LW
open PySem L2
theorem LW.walk {l:W.OpenLaw}{q:Program}{loose:List Str}{XP:(Str->Option Value)->Heap->Prop}{YP:World->Heap->Prop}{d:DefRec}{K:Params->W.Frag}{ts:List Addr}(hn:l.most=some 63) (hdf:d.params.defaults=[])
  (hY:∀(w:World) (h:Heap),YP w h->(K w.params).In h/\∀p∈ts,h.get? p=some (W.tabObj #[])) (hc:∀w:World,L4.Jbh (K w.params) ["too_full"] ts=true)
  (F:∀(w:World) (mg:Str->Option Value) (fa:Addr) (h:Heap),(K w.params).In h->h.Ns mainGlobals mg->mg d.name=some (.ref fa) ->
   ∃fd:FuncData,(∀(s:Shared) (u:Value),BindsTo s fd ⟨[u],[]⟩ [("_law_script",u)])/\∀base:Heap,(K w.params).In base->base.Ns mainGlobals mg->L3.Jjj mg base->FnOk l.prog w (K w.params) mg base (L3.CXI l.prog w) 64 fa fd ["_law_script"] (L3.Jti (K w.params) "_law_script" (LW.Jpr 16))) :
  W.WalkO q loose XP YP l.row.toRowW d [] (λ f vs=>PySem.call f vs) :=
 L4.Jyy (n:=63) (k:=64) (x:="_law_script") (f:=LW.Jpr 16) (qs:=["too_full"]) (ts:=ts) hn (by decide) hdf ⟨rfl,by decide,by decide⟩ hY hc F λ ns hl=>LW.Jx1 ns hl
open PySem PySem.W PyProof.Rows
structure PySem.W.Fast:Prop where (tw2176143160832268222 tw4410190631602280924 tw10454169904953561383 tw14721240344678646161 tw16658106605337937093 tw1924626211968469780 tw3268740622789017520 tw3366882205072051741 tw11226058581494492408 tw4238870445339158313
tw3747566619069838177 tw18027767556878161924 tw17654819863631717597 tw12968790463693286551 tw15777875550434756185 tw12017985436412389115 tw13318433561033863141 tw7931935107170961224 tw7299699276823031452 tw16293045523014402645
tw8445964278021211745 tw2959268263736328860 tw12400125438029047297 tw11301981433095024700 tw5432627419835957872 tw3028597020403561871 tw12474931548810727424 tw2783842588869332496 tw3151821444224342659 tw12433549491703324156
tw2861465926009849187 tw1192712281447990344 tw16256626186211600751 tw10557226764637774299 tw7948571004375038535 tw11259251283585115041 tw7993026920369042724 tw3228490990645396753 tw8277465261834287100 tw6821371750476274638
tw3521386037951426302 tw1231024097704187917 tw3554139575995353169 tw7284217132803689609 tw4286150637166783483 tw14313193727739795972 tw10313494878872754213 tw7753313578078534458 tw17725161759539276306 tw592685397143278254
tw3808640993697242311 tw18370752420322223103 tw10797467319337975324 tw16338048912298555481 tw15921620395788192987 tw14583321006290737694 tw12527573595953049576 tw15905394859158764359 tw1412130543654688058 tw6947994974962198063
tw7224423106855126336 tw6991537724319862350 tw1749356002012537006 tw18249622717942070204 tw13925884321768170521 tw6614881558991971390 tw496801327094891358 tw12508262832952312138 tw10432716688056104302 tw9151977787115450611
tw8732797508440067227 tw10051616382441378293 tw12292034826270550257 tw17361581486464367688 tw8046747284752666920 tw13572283337272561423 tw11337797008846233084 tw308040820736442369 tw1505055615437467517 tw3726719596051965660
tw9979071468100326056 tw11522298284769491400 tw13060810848373387394 tw6163142238479803693 tw8351447982904515153 tw11770042249939535355 tw11624315336671791795 tw10747763116069789626 tw3137257605430238312 tw1529103337430500025
tw13895694613327710968 tw17636161302234174637 tw3738860742233778880 tw957836176566645101 tw7843557649410691320 tw10514424310839696795 tw4464980726354725852 tw12779893811191273269 tw15437266399257131856 tw9264143968126966849
tw8937648807822793018 tw13537705533424766046 tw12250884910925396692 tw7904046717746429361 tw7271414785903369224 tw18350824370450662734 tw4967145897261770 tw16061017143264952619 tw9601353354487607976 tw5428787101573744197
tw5088355756405619356 tw9506922705070228406 tw10939755713303995544 tw3000190346140402950 tw2202090569066190316 tw11234194317356280353 tw9609258058548416408 tw7804405832364126281 tw404695145917816352 tw17334011241829116333
tw10000413870688321628 tw12267417374100999737 tw4258831343949345617 tw9219261195559525559 tw5467180758546155312 tw2769797438624401702 tw2223301305107418846 tw18101396076996969943 tw16432486316837414231 tw9351167368895081589
tw11498489224786541422 tw14831300194607287632 tw18202046009614413704 tw3451681380819672479 tw7372762658591032267 tw9903251576065276113 tw5158319553005369649 tw2830064636757495949 tw6052248332752768337 tw11172451482852032495
tw9012045139805396904 tw1318010744494650377 tw7790919955108356016 tw13042616559114395686 tw11527774238767565403 tw5860278752771717994 tw5508922181793281213 tw16977728532767880722 tw3807657290400686682 tw13426292528351006777
tw11434568686585772960 tw7532607559911864591 tw13598066145031155182 tw2062074359898320401 tw17823635782218420232 tw9829014674662716392 tw10837832057318016825 tw1280341741714552296 tw3971489154589033527 tw1920238304771742481
tw2827020644780956898 tw5532047549643280884 tw14313383836675193142 tw15648705122298207225 tw2751677867616753095 tw3016739673900383214:True)
set_option maxRecDepth 100000 in
set_option maxHeartbeats 0 in
theorem PySem.Challenge.cw_dutyproof_k81_where_a_row_is_too_full_holds : PySem.Challenge.rw_dutyproof_k81_where_a_row_is_too_full.Holds := by
 w_on;o_law;k_head;(case hw=>w_witness2)
 k_fill
 refine LW.walk (l:=PySem.Challenge.rw_dutyproof_k81_where_a_row_is_too_full) rfl rfl (λ w h Y=>⟨W.km_in_of Y,W.km_tabs_of Y⟩) ?HC ?F
 case HC=>exact λ w=>by kernel_rfl
 case F =>
  intro w mg fa h KX G hmg
  refine' LW.fin KX G hmg ?Uqa ?Uqb ?Uqc ?Uqd ?Uqe ?Uqf ?Uqg ?Uqh ?Uqi ?Uqj ?Uqk ?Uql ?Uqm ?Uqn ?Uqo ?Uqp ?Uqq ?Uqr ?Uqs ?Uqt ?Uqu ?Uqv ?Uqw ?Uqx ?Uqy ?Uqz ?Uq0 ?Uq1 ?Uq2 ?Uq3 ?Uq4 ?Uq5 ?Uq6 ?Uq7 ?Uq8 ?Uq9 ?Uqaa ?Uqab ?Uqac ?Uqad ?Uqae ?Uqaf ?Uqag ?Uqah ?Uqai ?Uqaj ?Uqak ?Uqal ?Uqam ?Uqan ?Uqao ?Uqap ?Uqaq ?Uqar ?Uqas ?Uqat ?Uqau ?Uqav ?Uqaw ?Uqax ?Uqay ?Uqaz ?Uqa0 ?Uqa1 ?Uqa2 ?Uqa3 ?Uqa4 ?Uqa5 ?Uqa6 ?Uqa7 ?Uqa8 ?Uqa9 ?Uqba ?Uqbb
  (case Uqa=>k_is)
  (case Uqb=>k_is)
  (case Uqc=>exact L4.J8 KX G LW.Jqs (by k_is) (by k_is) (by k_is) (by k_is))
  (case Uqd=>exact L4.J8 KX G LW.Ji6 (by k_is) (by k_is) (by k_is) (by k_is))
  (case Uqe=>exact L4.J8 KX G LW.Jph (by k_is) (by k_is) (by k_is) (by k_is))
  (case Uqf=>exact L4.J8 KX G LW.Jyf (by k_is) (by k_is) (by k_is) (by k_is))
  (case Uqg=>exact L4.J8 KX G LW.Jwf (by k_is) (by k_is) (by k_is) (by k_is))
  (case Uqh=>exact L4.J8 KX G LW.Jpb (by k_is) (by k_is) (by k_is) (by k_is))
  (case Uqi=>exact L4.J8 KX G LW.Jkz (by k_is) (by k_is) (by k_is) (by k_is))
  (case Uqj=>exact L4.J8 KX G LW.Js8 (by k_is) (by k_is) (by k_is) (by k_is))
  (case Uqk=>exact L4.J8 KX G LW.Jnb (by k_is) (by k_is) (by k_is) (by k_is))
  (case Uql=>exact L4.J8 KX G LW.Jqw (by k_is) (by k_is) (by k_is) (by k_is))
  (case Uqm=>exact L4.J8 KX G LW.Jta (by k_is) (by k_is) (by k_is) (by k_is))
  (case Uqn=>exact L4.J8 KX G LW.Js9 (by k_is) (by k_is) (by k_is) (by k_is))
  (case Uqo=>exact L4.J8 KX G LW.Jpe (by k_is) (by k_is) (by k_is) (by k_is))
  (case Uqp=>exact L4.J8 KX G LW.Jtd (by k_is) (by k_is) (by k_is) (by k_is))
  (case Uqq=>exact L4.J8 KX G LW.Jk0 (by k_is) (by k_is) (by k_is) (by k_is))
  (case Uqr=>exact L4.J8 KX G LW.Jha (by k_is) (by k_is) (by k_is) (by k_is))
  (case Uqs=>exact L4.J8 KX G LW.Jpf (by k_is) (by k_is) (by k_is) (by k_is))
  (case Uqt=>exact L4.J8 KX G LW.Jte (by k_is) (by k_is) (by k_is) (by k_is))
  (case Uqu=>exact L4.J8 KX G LW.Jpg (by k_is) (by k_is) (by k_is) (by k_is))
  (case Uqv=>exact L4.J8 KX G LW.Jqr (by k_is) (by k_is) (by k_is) (by k_is))
  (case Uqw=>exact L4.J8 KX G LW.Jk1 (by k_is) (by k_is) (by k_is) (by k_is))
  (case Uqx=>exact L4.J8 KX G LW.Jnc (by k_is) (by k_is) (by k_is) (by k_is))
  (case Uqy=>exact L4.J8 KX G LW.Jqv (by k_is) (by k_is) (by k_is) (by k_is))
  (case Uqz=>exact L4.J8 KX G LW.Jpc (by k_is) (by k_is) (by k_is) (by k_is))
  (case Uq0=>exact L4.J8 KX G LW.Jpd (by k_is) (by k_is) (by k_is) (by k_is))
  (case Uq1=>exact L4.J8 KX G LW.Jqu (by k_is) (by k_is) (by k_is) (by k_is))
  (case Uq2=>exact L4.J8 KX G LW.Jtc (by k_is) (by k_is) (by k_is) (by k_is))
  (case Uq3=>exact L4.J8 KX G LW.Jqt (by k_is) (by k_is) (by k_is) (by k_is))
  (case Uq4=>exact L4.J8 KX G LW.Jtb (by k_is) (by k_is) (by k_is) (by k_is))
  (case Uq5=>(refine' LW.J3v KX G ?Uqbc ?Uqbd ?Uqbe ?Uqbf;(case Uqbc=>k_is);(case Uqbd=>k_is);(case Uqbe=>k_is);(case Uqbf=>k_is)))
  (case Uq6=>(refine' LW.Jop ?Uqbg ?Uqbh ?Uqbi ?Uqbj ?Uqbk ?Uqbl ?Uqbm ?Uqbn;(case Uqbg=>k_is);(case Uqbh=>k_is);(case Uqbi=>k_is);(case Uqbj=>k_is);(case Uqbk=>k_is);(case Uqbl=>k_is);(case Uqbm=>k_is);(case Uqbn=>k_is)))
  (case Uq7=>(refine' LW.Jrf ?Uqbo ?Uqbp ?Uqbq ?Uqbr ?Uqbs ?Uqbt ?Uqbu ?Uqbv ?Uqbw ?Uqbx ?Uqby ?Uqbz ?Uqb0 ?Uqb1 ?Uqb2 ?Uqb3 ?Uqb4 ?Uqb5 ?Uqb6;(case Uqbo=>k_is);(case Uqbp=>k_is);(case Uqbq=>k_is);(case Uqbr=>k_is);(case Uqbs=>k_is);(case Uqbt=>k_is);(case Uqbu=>k_is);(case Uqbv=>k_is);(case Uqbw=>k_is);(case Uqbx=>k_is);(case Uqby=>k_is);(case Uqbz=>k_is);(case Uqb0=>k_is);(case Uqb1=>k_is);(case Uqb2=>k_is);(case Uqb3=>k_is);(case Uqb4=>k_is);(case Uqb5=>k_is);(case Uqb6=>k_is)))
  (case Uq8=>exact L4.mk_in LW.Jo7 (by k_is) (by k_is) (by k_is) (by k_is) (by k_is) (by k_is) (by k_is))
  (case Uq9=>exact L4.J09 LW.Jo8 (by k_is) (by k_is) (by k_is) (by k_is) (by k_is))
  (case Uqaa=>exact L4.J09 LW.Jo9 (by k_is) (by k_is) (by k_is) (by k_is) (by k_is))
  (case Uqab=>exact L4.J09 LW.Jna (by k_is) (by k_is) (by k_is) (by k_is) (by k_is))
  (case Uqac=>(refine' LW.Jrf ?Uqb7 ?Uqb8 ?Uqb9 ?Uqca ?Uqcb ?Uqcc ?Uqcd ?Uqce ?Uqcf ?Uqcg ?Uqch ?Uqci ?Uqcj ?Uqck ?Uqcl ?Uqcm ?Uqcn ?Uqco ?Uqcp;(case Uqb7=>k_is);(case Uqb8=>k_is);(case Uqb9=>k_is);(case Uqca=>k_is);(case Uqcb=>k_is);(case Uqcc=>k_is);(case Uqcd=>k_is);(case Uqce=>k_is);(case Uqcf=>k_is);(case Uqcg=>k_is);(case Uqch=>k_is);(case Uqci=>k_is);(case Uqcj=>k_is);(case Uqck=>k_is);(case Uqcl=>k_is);(case Uqcm=>k_is);(case Uqcn=>k_is);(case Uqco=>k_is);(case Uqcp=>k_is)))
  (case Uqad=>k_is)
  (case Uqae=>k_is)
  (case Uqaf=>k_is)
  (case Uqag=>k_is)
  (case Uqah=>k_is)
  (case Uqai=>k_is)
  (case Uqaj=>k_is)
  (case Uqak=>k_is)
  (case Uqal=>k_is)
  (case Uqam=>k_is)
  (case Uqan=>k_is)
  (case Uqao=>k_is)
  (case Uqap=>kernel_rfl)
  (case Uqaq=>kernel_rfl)
  (case Uqar=>kernel_rfl)
  (case Uqas=>kernel_rfl)
  (case Uqat=>kernel_rfl)
  (case Uqau=>kernel_rfl)
  (case Uqav=>kernel_rfl)
  (case Uqaw=>kernel_rfl)
  (case Uqax=>kernel_rfl)
  (case Uqay=>k_is)
  (case Uqaz=>k_is)
  (case Uqa0=>k_is)
  (case Uqa1=>k_is)
  (case Uqa2=>k_is)
  (case Uqa3=>k_is)
  (case Uqa4=>k_is)
  (case Uqa5=>k_is)
  (case Uqa6=>k_is)
  (case Uqa7=>k_is)
  (case Uqa8=>k_is)
  (case Uqa9=>k_is)
  (case Uqba=>k_is)
  (case Uqbb=>k_is)
