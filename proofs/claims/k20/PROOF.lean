import PyProof.Rows.All
import Wide.All
import OpenK.AllK
import Wide.FinOn
import Lean
import PyProof.EqAt
import PyProof.EqKinds
import PyProof.TupleCall
import PyProof.ReprRoads
import PyProof.ReprBulk
import PyProof.Rows.RegStrFacts
import PyProof.StrBlockH
import PyProof.FitsBits
import KE.KTurns
import PyProof.NeKinds
import KE.KNest
import KE.KSortKey
import PyProof.ListRange
import PyProof.Rows.SortWalk
import KE.KListMore
import KE.KIntText
import PyProof.Rows.SumAny
import PySem.Challenge.RW_bestheads_k20_seen_worths
noncomputable section
abbrev FZ:=PySem.W.Frag
set_option exponentiation.threshold 6000
set_option Elab.async false
set_option linter.all false
set_option maxRecDepth 100000
set_option maxHeartbeats 4000000
section
namespace L2
open PySem PySem.Spec PyProof.Rows
abbrev Key:=Sum Int Str
def Li:Key->Value->Bool
 |.inl k,v=>Value.isInt k v
 |.inr x,v=>Value.isStrOf x v
def Vh(w:World):Key->Int
 |.inl k=>hashInt k
 |.inr x=>hashStr w x
theorem o7:∀{k:Key} {v:Value},Li k v=true->(∃i t,k=Sum.inl i/\v=Value.int i t)\/(∃x t,k=Sum.inr x/\v=Value.str x t)
 |.inl i,v,h=>by
  obtain⟨t,e⟩:=Value.isInt_shape (k:=i) (v:=v) h
  exact .inl ⟨i,t,rfl,e⟩
 |.inr x,v,h=>by
  obtain⟨t,e⟩:=Value.isStrOf_shape (x:=x) (v:=v) h
  exact .inr ⟨x,t,rfl,e⟩
theorem Vi(a b:Int):decide ((Sum.inl a:Key)=Sum.inl b)=(a == b):=by
 by_cases e:a=b
 ·subst e; simp
 ·have h:¬(Sum.inl a:Key)=Sum.inl b:=λq=>e (Sum.inl.inj q)
  rw[decide_eq_false h]
  exact(beq_eq_false_iff_ne.mpr e).symm
theorem Vj(a b:Str):decide ((Sum.inr a:Key)=Sum.inr b)=decide (a=b):=by
 by_cases e:a=b
 ·subst e; simp
 ·have h:¬(Sum.inr a:Key)=Sum.inr b:=λq=>e (Sum.inr.inj q)
  rw[decide_eq_false h,decide_eq_false e]
theorem Vk(a:Int)(b:Str):decide ((Sum.inl a:Key)=Sum.inr b)=false:=decide_eq_false (λq=>nomatch q)
theorem Vl(a:Str)(b:Int):decide ((Sum.inr a:Key)=Sum.inl b)=false:=decide_eq_false (λq=>nomatch q)
noncomputable def Ea(prog:Program)(w:World):PySem.KeyKind prog w Key where
 is:=Li
 hash:=Vh w
 inj:=λv a b ha hb=>by
  rcases o7 ha with⟨i,t,rfl,rfl⟩|⟨x,t,rfl,rfl⟩
  ·rcases o7 hb with⟨j,u,rfl,e⟩|⟨y,u,rfl,e⟩
   ·injection e with e1 _; rw[e1]
   ·exact nomatch e
  ·rcases o7 hb with⟨j,u,rfl,e⟩|⟨y,u,rfl,e⟩
   ·exact nomatch e
   ·injection e with e1 _; rw[e1]
 byValue:=λk v h=>by
  rcases o7 h with⟨i,t,rfl,rfl⟩|⟨x,t,rfl,rfl⟩ <;> rfl
 pyHash:=λhv h=>by
  rcases o7 hv with⟨i,t,rfl,rfl⟩|⟨x,t,rfl,rfl⟩
  ·exact wpAny_pyHash_int h
  ·exact wpAny_pyHash_str h
 eqBool:=λhu hv h=>by
  rcases o7 hu with⟨i,t,rfl,rfl⟩|⟨x,t,rfl,rfl⟩
  ·rcases o7 hv with⟨j,u,rfl,rfl⟩|⟨y,u,rfl,rfl⟩
   ·rw[Vi]at h; exact wpAny_eqBool_int h
   ·rw[Vk]at h; exact SeqAt.EqAt.int_str i t y u _ _ _ _ h
  ·rcases o7 hv with⟨j,u,rfl,rfl⟩|⟨y,u,rfl,rfl⟩
   ·rw[Vl]at h; exact SeqAt.EqAt.str_int x t j u _ _ _ _ h
   ·rw[Vj]at h; exact wpAny_eqBool_str h
 «strs» := λk x t v h=>by
  rcases o7 h with⟨i,u,rfl,e⟩|⟨y,u,rfl,e⟩
  ·exact nomatch e
  ·injection e with e1 _
   subst e1
   cases v <;> rfl
end L2
namespace L2
open PySem PySem.Spec PyProof.Rows
inductive V where
 |non|bl (b:Bool)|int (i:Int)|str (x:Str)|wC (b:Array UInt8)|flt (b:UInt64)|ref (a:Addr)|ty (n:String)
 deriving DecidableEq
noncomputable def RelV:V->Value->Prop
 |.non,u=>u=Value.none
 |.bl b,u=>u=Value.bool b
 |.int i,u=>∃t,u=Value.int i t
 |.str x,u=>∃t,u=Value.str x t
 |.wC b,u=>∃t,u=Value.bytes b t
 |.flt b,u=>∃t,u=Value.float b t
 |.ref a,u=>u=Value.ref a
 |.ty n,u=>u=Value.type n
abbrev Vals:List V->List Value->Prop:=Paired RelV
theorem Vals.length{xs:List V}{us:List Value}(r:Vals xs us):xs.length=us.length:=Paired.length r
theorem Vals.get:∀{xs:List V} {us:List Value} {i:Nat} {x:V},Vals xs us->xs[i]?=some x->∃u,us[i]?=some u/\RelV x u
 |_,_,_,_,.nil,e=>by simp at e
 |_,_,0,_,.cons r _,e=>by simp at e; subst e; exact⟨_,rfl,r⟩
 |_,_,i+1,x,.cons _ t,e=>by
  obtain⟨u,h1,h2⟩:=Vals.get (i:=i) (x:=x) t (by simpa using e)
  exact⟨u,by simpa using h1,h2⟩
theorem Vals.set{x:V}{u:Value}(r:RelV x u):∀{xs:List V} {us:List Value} (i:Nat),Vals xs us->Vals (xs.set i x) (us.set i u)
 |_,_,_,.nil=>.nil
 |_,_,0,.cons _ t=>.cons r t
 |_,_,i+1,.cons q t=>.cons q (Vals.set r i t)
theorem Vals.append:∀{xs ys:List V} {us ws:List Value},Vals xs us->Vals ys ws->Vals (xs++ys) (us++ws)
 |_,_,_,_,.nil,s=>s
 |_,_,_,_,.cons r t,s=>.cons r (Vals.append t s)
theorem Vals.take:∀{xs:List V} {us:List Value} (n:Nat),Vals xs us->Vals (xs.take n) (us.take n)
 |_,_,0,_=>.nil
 |_,_,_+1,.nil=>.nil
 |_,_,n+1,.cons r t=>.cons r (Vals.take n t)
theorem Vals.drop:∀{xs:List V} {us:List Value} (n:Nat),Vals xs us->Vals (xs.drop n) (us.drop n)
 |_,_,0,r=>r
 |_,_,_+1,.nil=>.nil
 |_,_,n+1,.cons _ t=>Vals.drop n t
def Lj:Option V->Option Value->Prop
 |some v,some u=>RelV v u
 |none,none=>True
 |_,_=>False
def KV{κ : Type}:List (κ × V)->List (κ × Value)->Prop:=Paired λ(p : κ × V) (q : κ × Value)=>p.1=q.1/\RelV p.2 q.2
def kV:Key->V
 |.inl i=>.int i
 |.inr x=>.str x
inductive HO where
 |lst (xs:List V)
 |tup (xs:List V)
 |dK (kvs:List (Key × V))|dT (kvs:List (List Key × V))
 |set (S:Int->Bool) (n:Nat)
 |ins (C dx:Addr) (fs:List (Str × V))
 |own (x:Addr)
 |xd (fs:List (Str × V))
 |met (f x:Addr)
 |rng (lo hi:Int)
 |dF (o:Obj) (u:HO)
 |cZ (ps:Array Value)
 |ext (φ : Heap->Prop)
abbrev Hp:=Addr->Option HO
def upd(H:Hp)(a:Addr)(o:HO):Hp:=λb=>if b=a then some o else H b
theorem cB{H:Hp}{a:Addr}{o:HO}:upd H a o a=some o:=by unfold upd; rw[if_pos rfl]
theorem aO{H:Hp}{a b:Addr}{o:HO}(h:b≠a):upd H a o b=H b:=by unfold upd; rw[if_neg h]
theorem gC{H:Hp}{a b:Addr}{o:HO}(h:H a=some o)(h':H b=none):a≠b:=by
 intro e; subst e; rw[h]at h'; cases h'
section
variable (P:Program)(w:World)
noncomputable def jV(H:Hp)(h:Heap)(a:Addr):HO->Prop
 |.lst xs=>xs.length<=sizeLine/\∃(its:List Value) (n:Nat),Vals xs its/\h.get? a=some {cls:=.type "list",data:=.seq its.toArray n }
 |.tup xs=>xs.length<=sizeLine/\∃its:List Value,Vals xs its/\IsTup h a its.toArray
 |.dK kvs=>kvs.length<=sizeLine/\(a == sysModules)=false/\∃vs,KV kvs vs/\h.DictOf (Ea P w) a vs
 |.dT kvs=>kvs.length<=sizeLine/\(a == sysModules)=false/\∃xs:List (List Key × Addr × Value),
   Paired (λ(p:List Key × V) (q:List Key × Addr × Value)=>p.1=q.1/\H q.2.1=some (.tup (p.1.map kV))/\RelV p.2 q.2.2) kvs xs /\
   ∃o es ep,h.get? a=some o/\o.ExactDict/\o.data=.dict es ep/\es.toList=xs.map (entryOfKey (tupleKind (Ea P w)))/\(xs.map (·.1)).Nodup
 |.set S n=>h.SetOf (intKind P w) a S n
 |.ins C dx fs=>H dx=some (.own a)/\fs.length<=1000/\dx≠a/\h.get? a=some (PySem.W.instObj C dx) /\
   ∃mA,h.Ns1 dx mA/\(∀f,Lj (fs.lookup f) (mA f))/\PySem.Within mA (fs.map (·.1))
 |.own _=>∃o,h.get? a=some o
 |.xd fs=>∃mA,h.Ns1 a mA/\∀f,Lj (fs.lookup f) (mA f)
 |.rng lo hi=>∃t u v,h.get? a=some {cls:=.type "range",data:=.fields #[.int lo t,.int hi u,.int 1 v] }
 |.dF o u=>h.get? a=some o/\jV H h a u
 |.cZ ps=>h.get? a=some {cls:=.none,data:=.fields ps }
 |.met f x=>h.get? a=some (PySem.W.methodObj (.ref f) (.ref x))
 |.ext φ=>φ h/\(∃o,h.get? a=some o)/\∀h1 h2:Heap,φ h1->(∀o,h1.get? a=some o->h2.get? a=some o) -> φ h2
def eH(H:Hp)(h:Heap):Prop:=∀a o,H a=some o->jV P w H h a o
end
section
variable {P:Program}{w:World}{H H':Hp}{h h':Heap}{a:Addr}{o:HO}
theorem jV.lt(x:jV P w H h a o):a<h.objs.size:=by
 cases o with
 |lst xs=>obtain⟨_,_,_,_,e⟩:=x; exact Heap.lt_size e
 |tup xs=>obtain⟨_,_,_,p⟩:=x; exact p.lt
 |dK kvs=>obtain⟨_,_,_,_,o,_,_,e,_⟩:=x; exact Heap.lt_size e
 |dT kvs=>obtain⟨_,_,_,_,o,_,_,e,_⟩:=x; exact Heap.lt_size e
 |set S n=>obtain⟨o,_,_,_,e,_⟩:=x; exact Heap.lt_size e
 |ins C dx fs=>obtain⟨_,_,_,e,_⟩:=x; exact Heap.lt_size e
 |own y=>obtain⟨_,e⟩:=x; exact Heap.lt_size e
 |xd fs=>obtain⟨_,⟨_,_,_,e,_⟩,_⟩:=x; exact Heap.lt_size e
 |rng lo hi=>obtain⟨_,_,_,e⟩:=x; exact Heap.lt_size e
 |dF ob u=>obtain⟨e,_⟩:=x; exact Heap.lt_size e
 |cZ ps=>exact Heap.lt_size (show h.get? a=some _ from x)
 |met f y=>exact Heap.lt_size (show h.get? a=some _ from x)
 |ext φ=>obtain⟨_,⟨_,e⟩,_⟩:=x; exact Heap.lt_size e
theorem Paired.Ln{α β : Type}{F G : α -> β -> Prop}:∀{l₁ : List α} {l₂ : List β},Paired F l₁ l₂ -> (∀a b,F a b->G a b)->Paired G l₁ l₂
 |_,_,.nil,_=>.nil
 |_,_,.cons r t,f=>.cons (f _ _ r) (Paired.Ln t f)
theorem jV.stay(x:jV P w H h a o)(k:∀b u,(b=a\/H b=some (.own a))->h.get? b=some u->h'.get? b=some u)
  (ho:∀b,H b=some (.own a)->H' b=some (.own a)) (ht:∀b xs,H b=some (.tup xs)->H' b=some (.tup xs)):jV P w H' h' a o:=by
 induction o with
 |lst xs=>obtain⟨z,its,n,r,e⟩:=x; exact⟨z,its,n,r,k _ _ (.inl rfl) e⟩
 |tup xs=>obtain⟨z,its,r,ob,e,c⟩:=x; exact⟨z,its,r,ob,k _ _ (.inl rfl) e,c⟩
 |dK kvs=>obtain⟨z,y,vs,r,ob,es,ep,e,c⟩:=x; exact⟨z,y,vs,r,ob,es,ep,k _ _ (.inl rfl) e,c⟩
 |dT kvs =>
  obtain⟨z,y,xs,r,ob,es,ep,e,c⟩:=x
  exact⟨z,y,xs,Paired.Ln r λp q z=>⟨z.1,ht _ _ z.2.1,z.2.2⟩,ob,es,ep,k _ _ (.inl rfl) e,c⟩
 |set S n=>obtain⟨ob,es,ep,t,e,c⟩:=x; exact⟨ob,es,ep,t,k _ _ (.inl rfl) e,c⟩
 |ins C dx fs =>
  obtain⟨d,z,ne,e,mA,⟨od,es,ep,e2,c⟩,r⟩:=x
  exact⟨ho _ d,z,ne,k _ _ (.inl rfl) e,mA,⟨od,es,ep,k _ _ (.inr d) e2,c⟩,r⟩
 |own y=>obtain⟨ob,e⟩:=x; exact⟨ob,k _ _ (.inl rfl) e⟩
 |xd fs=>obtain⟨mA,⟨od,es,ep,e,c⟩,r⟩:=x; exact⟨mA,⟨od,es,ep,k _ _ (.inl rfl) e,c⟩,r⟩
 |rng lo hi=>obtain⟨t,u,v,e⟩:=x; exact⟨t,u,v,k _ _ (.inl rfl) e⟩
 |dF ob u ih=>obtain⟨e,q⟩:=x; exact⟨k _ _ (.inl rfl) e,ih q⟩
 |cZ ps =>
  have e:h.get? a=some {cls:=.none,data:=.fields ps }:=x
  show h'.get? a=some {cls:=.none,data:=.fields ps }
  exact k a _ (.inl rfl) e
 |met f y =>
  have e:h.get? a=some (PySem.W.methodObj (.ref f) (.ref y)):=x
  show h'.get? a=some (PySem.W.methodObj (.ref f) (.ref y))
  exact k a _ (.inl rfl) e
 |ext φ=>obtain⟨p,⟨o,e⟩,st⟩:=x; exact⟨st _ _ p λo q=>k _ _ (.inl rfl) q,⟨o,k _ _ (.inl rfl) e⟩,st⟩
theorem eH.lt(x:eH P w H h)(e:H a=some o):a<h.objs.size:=(x a o e).lt
theorem eH.fresh(x:eH P w H h)(e:h.objs.size<=a):H a=none:=by
 cases q:H a with
 |none=>rfl
 |some u=>exact absurd (Nat.lt_of_lt_of_le (x.lt q) e) (Nat.lt_irrefl _)
theorem eH.kept(x:eH P w H h)(k:∀b u,h.get? b=some u->h'.get? b=some u):eH P w H h':=λa o e =>
 (x a o e).stay (λb u _ q=>k b u q) (λ_ q=>q) λ_ _ q=>q
theorem eH.laid(x:eH P w H h)(k:∀b u,h.get? b=some u->h'.get? b=some u)(hp:h.objs.size<=a)(new:jV P w (upd H a o) h' a o):eH P w (upd H a o) h':=λb u e=>by
 have hn:=x.fresh hp
 by_cases hb:b=a
 ·subst hb; rw[cB]at e; cases e; exact new
 ·rw[aO hb]at e
  exact(x b u e).stay (λc v _ q=>k c v q) (λc q=>by rw[aO (gC q hn)]; exact q) λc xs q=>by rw[aO (gC q hn)]; exact q
end
def Rd(H:Hp)(a:Addr)(u:HO):Prop:=H a=some u\/∃o,H a=some (.dF o u)
theorem Rd.ok{P:Program}{w:World}{H:Hp}{h:Heap}{a:Addr}{u:HO}(r:Rd H a u)(x:eH P w H h):jV P w H h a u:=by
 rcases r with r|⟨o,r⟩
 ·exact x a u r
 ·obtain⟨_,q⟩:=x a _ r
  exact q
def zu:Option HO->Prop
 |some (.lst _)=>True
 |some (.dK _)=>True
 |some (.dT _)=>True
 |some (.set _ _)=>True
 |some (.ins _ _ _)=>True
 |some (.ext _)=>True
 |_=>False
section
variable {P:Program}{w:World}{H:Hp}{h h':Heap}{x e:Addr}{o':HO}
theorem eH.write(ok:eH P w H h)(mu:zu (H x))(he:e=x\/H e=some (.own x))(k:∀b u,b≠e->h.get? b=some u->h'.get? b=some u)(heo:∃u,h'.get? e=some u)
  (new:jV P w (upd H x o') h' x o'):eH P w (upd H x o') h':=λb u q=>by
 have Lp:∀c y,H c=some (.own y)->c≠x:=λc y r z=>by subst z; rw[r]at mu; exact mu
 have Vm:∀c xs,H c=some (.tup xs)->c≠x:=λc xs r z=>by subst z; rw[r]at mu; exact mu
 by_cases hb:b=x
 ·subst hb; rw[cB]at q; cases q; exact new
 ·rw[aO hb]at q
  by_cases hbe:b=e
  ·have q':H b=some (.own x):=by
    rcases he with z|z
    ·exact absurd (hbe.trans z) hb
    ·rw[hbe]; exact z
   rw[q]at q'; cases q'
   obtain⟨v,hv⟩:=heo
   exact⟨v,by rw[hbe]; exact hv⟩
  ·refine(ok b u q).stay (λc v hc r=>k c v ?_ r) (λc r=>by rw[aO (Lp c b r)]; exact r) λc xs r=>by rw[aO (Vm c xs r)]; exact r
   rcases hc with rfl|hc
   ·exact hbe
   ·rintro rfl
    rcases he with z|z
    ·exact Lp c b hc z
    ·rw[hc]at z; cases z; exact hb rfl
end
structure Un(fs ex:List Addr)(H H':Hp)(h h':Heap):Prop where
 keep:∀b o,h.get? b=some o->H b=none->b∉fs->b∉ex->h'.get? b=some o
 slot:∀b o,h.get? b=some o->H b=none->b∈fs->b∉ex->∃sl,h'.get? b=some {o with slots:=sl }
 free:∀b o,h.get? b=some o->H b=none->b∉ex->H' b=none
 there:∀b o,h.get? b=some o->b∉ex->∃o',h'.get? b=some o'
 tups:∀b xs,H b=some (.tup xs)->H' b=some (.tup xs)
 lU:∀b o u,H b=some (.dF o u)->H' b=some (.dF o u)
 lV:∀b ps,H b=some (.cZ ps)->∃more,H' b=some (.cZ (ps++more))
section
variable {fs fs' ex ex':List Addr}{H H1 H2:Hp}{h h1 h2 h':Heap}{a x e:Addr}{o:HO}
theorem Un.any(u:Un fs ex H H1 h h1){b:Addr}{ob:Obj}(q:h.get? b=some ob)(n:H b=none)(hx:b∉ex):∃sl,h1.get? b=some {ob with slots:=sl }:=by
 by_cases hb:b∈fs
 ·exact u.slot b ob q n hb hx
 ·exact⟨ob.slots,u.keep b ob q n hb hx⟩
theorem Un.kept(k:∀b u,h.get? b=some u->h'.get? b=some u):Un fs ex H H h h' :=
 ⟨λb ob q _ _ _=>k b ob q,λb ob q _ _ _=>⟨ob.slots,k b ob q⟩,λ_ _ _ n _=>n,λb ob q _=>⟨ob,k b ob q⟩,λ_ _ q=>q,λ_ _ _ q=>q,λ_ ps q=>⟨#[],by rw[q]; simp⟩⟩
theorem Un.refl:Un fs ex H H h h:=Un.kept λ_ _ q=>q
theorem Un.laid(k:∀b u,h.get? b=some u->h'.get? b=some u)(hp:h.objs.size<=a)(hn:H a=none):Un fs ex H (upd H a o) h h' where
 keep:=λb u q _ _ _=>k b u q
 slot:=λb u q _ _ _=>⟨u.slots,k b u q⟩
 free:=λb u q n _=>by rw[aO (Nat.ne_of_lt (Nat.lt_of_lt_of_le (Heap.lt_size q) hp))]; exact n
 there:=λb u q _=>⟨u,k b u q⟩
 tups:=λb xs q=>by rw[aO (gC q hn)]; exact q
 lU:=λb u xs q=>by rw[aO (gC q hn)]; exact q
 lV:=λb ps q=>⟨#[],by rw[aO (gC q hn),q]; simp⟩
theorem Un.write(mu:zu (H x))(he:e=x\/H e=some (.own x))(k:∀b u,b≠e->h.get? b=some u->h'.get? b=some u)(heo:∃u,h'.get? e=some u):Un fs ex H (upd H x o) h h':=by
 have hx:∀b,H b=none->b≠x:=λb n z=>by subst z; rw[n]at mu; exact mu
 have hb:∀b,H b=none->b≠e:=λb n z=>by
  subst z
  rcases he with r|r
  ·exact hx b n r
  ·rw[n]at r; cases r
 have hm:∀b u,H b=some u->¬zu (some u)->b≠x:=λb u q nm z=>by subst z; rw[q]at mu; exact nm mu
 refine⟨λb u q n _ _=>k b u (hb b n) q,λb u q n _ _=>⟨u.slots,k b u (hb b n) q⟩,λb u q n _=>by rw[aO (hx b n)]; exact n,λb u q _=>?_,
  λb xs q=>by rw[aO (hm b _ q λz=>z)]; exact q,λb u xs q=>by rw[aO (hm b _ q λz=>z)]; exact q,λb ps q=>⟨#[],by rw[aO (hm b _ q λz=>z),q]; simp⟩⟩
 by_cases hbe:b=e
 ·subst hbe; exact heo
 ·exact⟨u,k b u hbe q⟩
end
def zx(h:Heap)(H:Hp):List Addr:=(List.range h.objs.size).filter λa=>(H a).isSome
def o8(h:Heap)(H:Hp):Heap:=PySem.W.hideAll h (zx h H)
theorem Vn(h:Heap)(H:Hp):(o8 h H).objs.size=h.objs.size:=PySem.W.hideAll_size _ _
theorem Vo{h:Heap}{H:Hp}{b:Addr}{o:Obj}(e:h.get? b=some o)(n:H b=none):(o8 h H).get? b=some o :=
 PySem.W.hideAll_get _ e λhm=>by
  have q:(H b).isSome=true:=(List.mem_filter.mp hm).2
  rw[n]at q; simp at q
theorem Vp{h:Heap}{H:Hp}{b:Addr}{o:Obj}(e:(o8 h H).get? b=some o):h.get? b=some o/\H b=none:=by
 have e':h.get? b=some o:=PySem.W.of_hideAll (zx h H) e
 refine⟨e',?_⟩
 cases q:H b with
 |none=>rfl
 |some x =>
  have hm:b∈zx h H:=List.mem_filter.mpr ⟨List.mem_range.mpr (Heap.lt_size e'),by simp[q]⟩
  have z:(o8 h H).get? b=none:=PySem.W.hideAll_none (zx h H) hm
  rw[z]at e; cases e
def Vq(g h:Heap)(L:Addr):List (Addr × Obj):=(List.range h.objs.size).filterMap λa=>if a=L\/(g.get? a).isSome=true then none else(h.get? a).map λo=>(a,o)
def rest(g h:Heap)(L d:Addr):List (Addr × Obj):=(Vq g h L).filter λp=>decide (p.1≠d)
end L2
namespace L2
open PySem PySem.Spec PyProof.Rows
structure Mod(K:FZ)(mg:Str->Option Value)(base:Heap):Prop where
 Eb:K.In base
 glob:base.Ns mainGlobals mg
 blt:∃mb,base.Ns builtinsNs mb/\∀x:Str,x ≠ "__name__" -> mb x=bootBuiltins x
 nolimit:base.NoLimit
structure Cx where
 prog:Program
 w:World
 K:FZ
 mg:Str->Option Value
 base:Heap
 A:Around
 N:List Str
 s₀ : Shared
 H₀ : Hp
 env:Env
 outer:List Env
 stack:List Env
 ex:List Addr
 fn:Str->Bool
 calm:Bool
 pn:List (Addr × Obj)
 xe:Value->Shared->Prop
def frs(l:List Env):List Addr:=l.filterMap (·.frame)
abbrev Cx.fs(X:Cx):List Addr:=frs X.outer
def Lr(sc:Scope)(x:Str):Prop:=sc.names.lookup x=some .local\/sc.names.lookup x=some .cell\/sc.names.lookup x=some .free
def Loc(sc:Scope)(x:Str):Prop:=sc.names.lookup x=some .local\/sc.names.lookup x=some .cell
def Look(env:Env)(h:Heap)(m:Str->Option Value)(x:Str)(u:Value):Prop :=
 (env.kindOf x=some .local/\m x=some u)\/((env.kindOf x=some .cell\/env.kindOf x=some .free)/\∃c,env.cells.lookup x=some c/\h.IsCell c (some u))
structure Cx.Ok(X:Cx):Prop where
 mod:Mod X.K X.mg X.base
 kind:X.env.scope.kind=.function
 glob:X.env.globals=mainGlobals
 blt:X.env.builtins=builtinsNs
 above:X.s₀.heap.objs.size<=X.env.locals
 inj:∀x y c,X.env.cells.lookup x=some c->X.env.cells.lookup y=some c->x=y
 has:∀x,(X.env.kindOf x=some .cell\/X.env.kindOf x=some .free)->∃c,X.env.cells.lookup x=some c
 cab:∀x c,X.fn x=true->X.env.cells.lookup x=some c->X.s₀.heap.objs.size<=c
 hd:X.calm=true->X.A.handled=none
 frames:X.A.frames=some X.stack
 stk:X.stack=X.outer\/(X.stack=X.env::X.outer/\X.env.frame=some X.env.locals)
 Ls:∀b∈X.ex,b≠X.env.locals/\∀x c,X.env.cells.lookup x=some c->c≠b
 bs:∀b o,X.base.get? b=some o->X.s₀.heap.get? b=some o/\X.H₀ b=none
 qD:X.base.objs.size<=X.s₀.heap.objs.size
 jz:∀b o,X.base.get? b=some o->b∉X.ex
 zy:∀b∈X.ex,b∉X.fs
 lu:X.s₀.heap.FunFrames X.base X.outer
 su:∀b∈X.fs,X.H₀ b=none
structure Inv(X:Cx)(pins:List (Addr × Obj))(σ : List (Option V))(H:Hp)(s:Shared):Prop where
 ok:X.Ok
 os:s.os=X.s₀.os
 bare:AllBare s.gens
 base:Un X.fs X.ex X.H₀ H X.s₀.heap s.heap
 loc:∃m,s.heap.Ns X.env.locals m/\∀(i:Nat) (x:Str) (v:V),X.N[i]?=some x -> σ[i]?=some (some v)->Lr X.env.scope x->∃u,RelV v u/\Look X.env s.heap m x u
 cell:∀x c,X.env.cells.lookup x=some c->∃v,s.heap.IsCell c v
 free:H X.env.locals=none
 lW:∀x c,X.env.cells.lookup x=some c->H c=none
 pin:∀p∈X.pn++pins,s.heap.get? p.1=some p.2/\H p.1=none/\p.1≠X.env.locals/\p.1∉X.fs/\∀v,p.2.data ≠ .cell v
 hok:eH X.prog X.w H s.heap
 len : σ.length=X.N.length
section
variable {X:Cx}{pins:List (Addr × Obj)}{σ : List (Option V)}{H H':Hp}{s:Shared}{h':Heap}
theorem Cx.Ok.uH(ok:X.Ok){b:Addr}{o:Obj}(e:X.base.get? b=some o):b∉X.fs:=λhb=>by
 have:=(ok.lu.mem hb).1
 rw[e]at this; cases this
theorem Inv.bs(I:Inv X pins σ H s):∀b o,X.base.get? b=some o->s.heap.get? b=some o/\H b=none:=λb o e =>
 ⟨I.base.keep b o (I.ok.bs b o e).1 (I.ok.bs b o e).2 (I.ok.uH e) (I.ok.jz b o e),I.base.free b o (I.ok.bs b o e).1 (I.ok.bs b o e).2 (I.ok.jz b o e)⟩
theorem Inv.bk(I:Inv X pins σ H s):∀b o,X.base.get? b=some o->s.heap.get? b=some o:=λb o e=>(I.bs b o e).1
theorem Inv.mod(I:Inv X pins σ H s):Mod X.K X.mg X.base:=I.ok.mod
theorem Inv.jK(I:Inv X pins σ H s):X.K.In s.heap:=I.ok.mod.Eb.keeps I.bk
theorem Inv.nolimit(I:Inv X pins σ H s):s.heap.NoLimit:=I.ok.mod.nolimit.keeps I.bk
theorem Inv.lt(I:Inv X pins σ H s):X.env.locals<s.heap.objs.size:=let⟨_,hn,_⟩:=I.loc; hn.lt
theorem Inv.sz(I:Inv X pins σ H s):X.s₀.heap.objs.size<=s.heap.objs.size:=Nat.le_trans I.ok.above (Nat.le_of_lt I.lt)
theorem Inv.Vr(I:Inv X pins σ H s){a:Addr}(h:s.heap.objs.size<=a):a∉X.fs:=λhb=>by
 obtain⟨_,o,ho,_⟩:=I.ok.lu.mem hb
 exact absurd (Nat.lt_of_lt_of_le (Heap.lt_size ho) (Nat.le_trans I.sz h)) (Nat.lt_irrefl _)
theorem Inv.sy(I:Inv X pins σ H s):∀x c,X.env.cells.lookup x=some c->c≠X.env.locals:=λx c e z=>by
 obtain⟨v,o,ho,hd⟩:=I.cell x c e
 obtain⟨m,⟨o',es,ep,ho',hd',_⟩,_⟩:=I.loc
 rw[z,ho']at ho; cases ho; rw[hd']at hd; cases hd
theorem Inv.lu(I:Inv X pins σ H s):s.heap.FunFrames X.base X.outer:=by
 have all:∀(l:List Env),(∀b∈frs l,b∈X.fs)->X.s₀.heap.FunFrames X.base l->s.heap.FunFrames X.base l:=by
  intro l
  induction l with
  |nil=>intro _ _; trivial
  |cons env r ih =>
   intro hs hl
   obtain⟨hk,⟨L,o,hf,hn,ho,hd⟩,hr⟩:=hl
   have hL:L∈X.fs:=hs L (by unfold frs; rw[List.filterMap_cons,hf]; exact List.mem_cons_self)
   obtain⟨sl,e⟩:=I.base.slot L o ho (I.ok.su L hL) hL λz=>I.ok.zy L z hL
   exact⟨hk,⟨L,_,hf,hn,e,hd⟩,ih (λb hb=>hs b (by unfold frs; rw[List.filterMap_cons,hf]; exact List.mem_cons_of_mem _ hb)) hr⟩
 exact all X.outer (λ_ hb=>hb) I.ok.lu
theorem Inv.stack(I:Inv X pins σ H s):s.heap.FunFrames X.base X.stack:=by
 rcases I.ok.stk with e|⟨e,hf⟩
 ·rw[e]; exact I.lu
 ·rw[e]
  obtain⟨m,hn,_⟩:=I.loc
  refine .cons (by rw[I.ok.kind]; decide) hf hn ?_ I.lu
  exact Heap.get?_none_of_le (Nat.le_trans I.ok.qD I.ok.above)
theorem Inv.wF(I:Inv X pins σ H s):∀b∈frs X.stack,b∈X.env.locals::X.fs:=λb hb=>by
 rcases I.ok.stk with e|⟨e,hf⟩
 ·rw[e]at hb; exact List.mem_cons_of_mem _ hb
 ·rw[e]at hb
  unfold frs at hb
  rw[List.filterMap_cons,hf]at hb
  exact hb
theorem Inv.zA(I:Inv X pins σ H s):∀b∈frs X.stack,H b=none:=λb hb=>by
 rcases List.mem_cons.mp (I.wF b hb)with e|hb
 ·rw[e]; exact I.free
 ·obtain⟨_,o,ho,_⟩:=I.ok.lu.mem hb
  exact I.base.free b o ho (I.ok.su b hb) λz=>I.ok.zy b z hb
theorem Inv.step{g':Array GenState}{t':Nat}{d':Drawn}{ch:List Addr}(I:Inv X pins σ H s)
  (hch:∀b∈ch,(b∈X.ex\/X.s₀.heap.objs.size<=b)/\b≠X.env.locals/\(∀x c,X.env.cells.lookup x=some c->c≠b)/\∀p∈X.pn++pins,p.1≠b)
  (keep:∀b o,b≠X.env.locals->b∉X.fs->b∉ch->s.heap.get? b=some o->H b=none->h'.get? b=some o)
  (slot:∀b o,b≠X.env.locals->b∈X.fs->b∉ch->s.heap.get? b=some o->H b=none->∃sl,h'.get? b=some {o with slots:=sl }) (free:∀b o,b∉ch->s.heap.get? b=some o->H b=none->H' b=none)
  (there:∀b o,b∉ch->s.heap.get? b=some o->∃o',h'.get? b=some o')
  (tups:∀b xs,H b=some (.tup xs)->H' b=some (.tup xs)) (lU:∀b o u,H b=some (.dF o u)->H' b=some (.dF o u)) (lV:∀b ps,H b=some (.cZ ps)->∃more,H' b=some (.cZ (ps++more)))
  (ns:∀m,s.heap.Ns X.env.locals m->h'.Ns X.env.locals m) (hok:eH X.prog X.w H' h') (hg:AllBare g') :
  Inv X pins σ H' {s with heap:=h',gens:=g',drawn:=d',toks:=t' }:=by
 have Lw:∀b o,X.s₀.heap.get? b=some o->b≠X.env.locals:=λb o e=>Nat.ne_of_lt (Nat.lt_of_lt_of_le (Heap.lt_size e) I.ok.above)
 have zB:∀b o,X.s₀.heap.get? b=some o->b∉X.ex->b∉ch:=λb o e hx hb=>by
  rcases(hch b hb).1 with z|z
  ·exact hx z
  ·exact absurd (Nat.lt_of_lt_of_le (Heap.lt_size e) z) (Nat.lt_irrefl _)
 have cellK:∀x c,X.env.cells.lookup x=some c->∀v,s.heap.IsCell c v->h'.IsCell c v:=λx c e v ⟨o,ho,hd⟩=>by
  have wG:c∉ch:=λz=>(hch c z).2.2.1 x c e rfl
  by_cases hc:c∈X.fs
  ·obtain⟨sl,q⟩:=slot c o (I.sy x c e) hc wG ho (I.lW x c e)
   exact⟨_,q,hd⟩
  ·exact⟨o,keep c o (I.sy x c e) hc wG ho (I.lW x c e),hd⟩
 refine⟨I.ok,I.os,hg,⟨λb o e n hb hx=>?_,λb o e n hb hx=>?_,λb o e n hx=>?_,λb o e hx=>?_,λb xs e=>tups b xs (I.base.tups b xs e),λb o xs e=>lU b o xs (I.base.lU b o xs e),λb ps e=>?_⟩,?_,λx c e=>?_,?_,λx c e=>?_,λp hp=>?_,hok,I.len⟩
 ·exact keep b o (Lw b o e) hb (zB b o e hx) (I.base.keep b o e n hb hx) (I.base.free b o e n hx)
 ·obtain⟨sl,e1⟩:=I.base.slot b o e n hb hx
  obtain⟨sl',e2⟩:=slot b _ (Lw b o e) hb (zB b o e hx) e1 (I.base.free b o e n hx)
  exact⟨sl',e2⟩
 ·obtain⟨o',e1⟩:=I.base.there b o e hx
  exact free b o' (zB b o e hx) e1 (I.base.free b o e n hx)
 ·obtain⟨o',e1⟩:=I.base.there b o e hx
  exact there b o' (zB b o e hx) e1
 ·obtain⟨m1,e1⟩:=I.base.lV b ps e
  obtain⟨m2,e2⟩:=lV b _ e1
  exact⟨m1++m2,by rw[e2,Array.append_assoc]⟩
 ·obtain⟨m,hn,hl⟩:=I.loc
  refine⟨m,ns m hn,λi x v e1 e2 e3=>?_⟩
  obtain⟨u,r,l⟩:=hl i x v e1 e2 e3
  refine⟨u,r,?_⟩
  rcases l with l|⟨k,c,e,z⟩
  ·exact .inl l
  ·exact .inr ⟨k,c,e,cellK x c e _ z⟩
 ·obtain⟨v,z⟩:=I.cell x c e
  exact⟨v,cellK x c e v z⟩
 ·obtain⟨m,⟨o,_,_,ho,_⟩,_⟩:=I.loc
  exact free _ o (λz=>(hch _ z).2.1 rfl) ho I.free
 ·obtain⟨v,o,ho,hd⟩:=I.cell x c e
  exact free c o (λz=>(hch c z).2.2.1 x c e rfl) ho (I.lW x c e)
 ·obtain⟨e,n,ne,nf,d⟩:=I.pin p hp
  have wG:p.1∉ch:=λz=>(hch p.1 z).2.2.2 p hp rfl
  exact⟨keep p.1 p.2 ne nf wG e n,free p.1 p.2 wG e n,ne,nf,d⟩
theorem Inv.un{t':Nat}(I:Inv X pins σ H s)(u:Un X.fs [] H H' s.heap h')(hok:eH X.prog X.w H' h'):Inv X pins σ H' {s with heap:=h',toks:=t' }:=by
 obtain⟨m,⟨o,es,ep,ho,r⟩,_⟩:=id I.loc
 obtain⟨sl,hL⟩:=u.any ho I.free (by simp)
 exact I.step (g':=s.gens) (d':=s.drawn) (ch:=[]) (λ_ z=>nomatch z) (λb o _ hb _ e n=>u.keep b o e n hb (by simp)) (λb o _ hb _ e n=>u.slot b o e n hb (by simp)) (λb o _ e n=>u.free b o e n (by simp)) (λb o _ e=>u.there b o e (by simp)) u.tups u.lU u.lV (λm' hm=>by
  obtain⟨o',es',ep',ho',r'⟩:=hm
  rw[ho]at ho'; cases ho'
  exact⟨_,es',ep',hL,r'⟩) hok I.bare
theorem Inv.call{g':Array GenState}{t':Nat}{d':Drawn}{ch:List Addr}(I:Inv X pins σ H s)(u:Un (frs X.stack) ch H H' s.heap h')(hok:eH X.prog X.w H' h')(hg:AllBare g')
  (hch:∀b∈ch,(b∈X.ex\/X.s₀.heap.objs.size<=b)/\b≠X.env.locals/\(∀x c,X.env.cells.lookup x=some c->c≠b)/\∀p∈X.pn++pins,p.1≠b) :
  Inv X pins σ H' {s with heap:=h',gens:=g',drawn:=d',toks:=t' }:=by
 obtain⟨m,⟨o,es,ep,ho,r⟩,_⟩:=id I.loc
 obtain⟨sl,hL⟩:=u.any ho I.free λz=>(hch _ z).2.1 rfl
 exact I.step (ch:=ch) hch (λb o hL hb hc e n=>u.keep b o e n (λz=>(List.mem_cons.mp (I.wF b z)).elim hL hb) hc) (λb o _ _ hc e n=>u.any e n hc) (λb o hc e n=>u.free b o e n hc) (λb o hc e=>u.there b o e hc) u.tups u.lU u.lV (λm' hm=>by
  obtain⟨o',es',ep',ho',r'⟩:=hm
  rw[ho]at ho'; cases ho'
  exact⟨_,es',ep',hL,r'⟩) hok hg
theorem Inv.turned{t':Nat}{it:Addr}(I:Inv X pins σ H s)(k:∀b o,b≠it->s.heap.get? b=some o->h'.get? b=some o)(hn:H it=none)(hL:it≠X.env.locals)
  (h1:it∈X.ex\/X.s₀.heap.objs.size<=it) (h2:∀x c,X.env.cells.lookup x=some c->c≠it) (h3:∀p∈X.pn++pins,p.1≠it):Inv X pins σ H {s with heap:=h',toks:=t' }:=by
 have Ly:∀b u,H b=some u->b≠it:=λb u e z=>by rw[z,hn]at e; cases e
 refine I.step (g':=s.gens) (d':=s.drawn) (ch:=[it]) (λb hb=>?_) (λb o _ _ hc e _=>k b o (λz=>hc (by simp[z])) e) (λb o _ _ hc e _=>⟨o.slots,k b o (λz=>hc (by simp[z])) e⟩) (λ_ _ _ _ n=>n)
  (λb o hc e=>⟨o,k b o (λz=>hc (by simp[z])) e⟩) (λ_ _ e=>e) (λ_ _ _ e=>e) (λb ps e=>⟨#[],by rw[e]; simp⟩) (λm hm=>?_) (λb u e=>?_) I.bare
 ·have e:b=it:=by simpa using hb
  subst e
  exact⟨h1,hL,h2,h3⟩
 ·obtain⟨o,es,ep,ho,r⟩:=hm
  exact⟨o,es,ep,k _ o (Ne.symm hL) ho,r⟩
 ·refine(I.hok b u e).stay (λc v hc q=>k c v ?_ q) (λ_ q=>q) λ_ _ q=>q
  rcases hc with z|z
  ·rw[z]; exact Ly b u e
  ·exact Ly c _ z
theorem Inv.tok(I:Inv X pins σ H s)(t:Nat):Inv X pins σ H {s with toks:=t }:=I.un (h':=s.heap) (t':=t) Un.refl I.hok
theorem Inv.kept{t':Nat}(I:Inv X pins σ H s)(k:∀b u,s.heap.get? b=some u->h'.get? b=some u):Inv X pins σ H {s with heap:=h',toks:=t' }:=I.un (Un.kept k) (I.hok.kept k)
theorem Inv.laid{a:Addr}{o:HO}{t':Nat}(I:Inv X pins σ H s)(k:∀b u,s.heap.get? b=some u->h'.get? b=some u)(hp:s.heap.objs.size<=a)(new:jV X.prog X.w (upd H a o) h' a o) :
  Inv X pins σ (upd H a o) {s with heap:=h',toks:=t' }:=I.un (Un.laid k hp (I.hok.fresh hp)) (I.hok.laid k hp new)
theorem Inv.write{x e:Addr}{o:HO}{t':Nat}(I:Inv X pins σ H s)(mu:zu (H x))(he:e=x\/H e=some (.own x))(k:∀b u,b≠e->s.heap.get? b=some u->h'.get? b=some u)(heo:∃u,h'.get? e=some u)
  (new:jV X.prog X.w (upd H x o) h' x o):Inv X pins σ (upd H x o) {s with heap:=h',toks:=t' }:=I.un (Un.write mu he k heo) (I.hok.write mu he k heo new)
theorem Inv.zE{nu:List (Addr × Obj)}(I:Inv X pins σ H s)(h:∀p∈nu,s.heap.get? p.1=some p.2/\H p.1=none/\p.1≠X.env.locals/\p.1∉X.fs/\∀v,p.2.data ≠ .cell v):Inv X nu σ H s :=
 ⟨I.ok,I.os,I.bare,I.base,I.loc,I.cell,I.free,I.lW,λp hp=>(List.mem_append.mp hp).elim (λz=>I.pin p (List.mem_append_left _ z)) (h p),I.hok,I.len⟩
theorem Lz{N:List Str}(hN:N.Nodup){i j:Nat}{x:Str}(a:N[i]?=some x)(b:N[j]?=some x):i=j:=by
 obtain⟨h1,e1⟩:=List.getElem?_eq_some_iff.mp a
 obtain⟨h2,e2⟩:=List.getElem?_eq_some_iff.mp b
 exact(List.getElem_inj hN).mp (e1.trans e2.symm)
theorem Ec{M:Model}{A:Around}{E:Value->Shared->Prop}{i:Nat}{x:Str}{v:V}{u:Value}{Q:Unit->Shared->Prop}(I:Inv X pins σ H s)(hN:X.N.Nodup)(hi:X.N[i]?=some x)(hx:Loc X.env.scope x)(r:RelV v u)
  (h:∀s',Inv X pins (σ.set i (some v)) H s'->(∃a,Heap.SameBut a s.heap s'.heap/\(a=X.env.locals\/X.env.cells.lookup x=some a))->Q () s') (hf:X.fn x=true\/X.env.scope.names.lookup x=some .local:=by first|exact .inl rfl|exact .inr rfl|assumption):wpAny M A (storeName X.env x u) Q E s:=by
 obtain⟨m,hn,hl⟩:=id I.loc
 have hcls:(X.env.scope.kind == .class || (X.env.scope.kind == .module&&X.env.locals != X.env.globals))=false:=by rw[I.ok.kind]; rfl
 have LC:i < σ.length:=by rw[I.len]; exact(List.getElem?_eq_some_iff.mp hi).1
 have sy:=I.sy
 have tracked:∀{a:Addr} {h':Heap},(∃o,s.heap.get? a=some o/\H a=none)->Heap.SameBut a s.heap h'->eH X.prog X.w H h':=λ{a h'} ha hs b ob e=>by
  obtain⟨_,_,hfree⟩:=ha
  refine(I.hok b ob e).stay (λc w' hc q=>(hs.2 c ?_).trans q) (λ_ q=>q) λ_ _ q=>q
  rintro rfl
  rcases hc with rfl|hc
  ·rw[hfree]at e; cases e
  ·rw[hfree]at hc; cases hc
 rcases hx with hk|hk
 ·refine wpAny_storeName_local hk hn (λh' hn' hs=>?_) hcls
  obtain⟨oL,_,_,hoL,_⟩:=id hn
  refine h _ ⟨I.ok,I.os,I.bare,⟨λb o e n hb hx=>?_,λb o e n hb hx=>?_,I.base.free,λb o e hx=>?_,I.base.tups,I.base.lU,I.base.lV⟩,⟨_,hn',λj y v' e1 e2 e3=>?_⟩,λy c e=>?_,I.free,I.lW,λp hp=>?_,tracked ⟨oL,hoL,I.free⟩ hs,by simpa using I.len⟩ ⟨_,hs,.inl rfl⟩
  ·exact(hs.2 b (Nat.ne_of_lt (Nat.lt_of_lt_of_le (Heap.lt_size e) I.ok.above))).trans (I.base.keep b o e n hb hx)
  ·obtain⟨sl,e1⟩:=I.base.slot b o e n hb hx
   exact⟨sl,(hs.2 b (Nat.ne_of_lt (Nat.lt_of_lt_of_le (Heap.lt_size e) I.ok.above))).trans e1⟩
  ·obtain⟨o',e1⟩:=I.base.there b o e hx
   exact⟨o',(hs.2 b (Nat.ne_of_lt (Nat.lt_of_lt_of_le (Heap.lt_size e) I.ok.above))).trans e1⟩
  ·by_cases hj:j=i
   ·subst hj
    rw[hi]at e1; cases e1
    rw[List.getElem?_set_self LC]at e2
    cases e2
    exact⟨u,r,.inl ⟨hk,by simp⟩⟩
   ·rw[List.getElem?_set_ne (Ne.symm hj)]at e2
    obtain⟨u',r',q⟩:=hl j y v' e1 e2 e3
    refine⟨u',r',?_⟩
    rcases q with⟨k,e⟩|⟨k,c,e,z⟩
    ·refine .inl ⟨k,?_⟩
     have:y≠x:=λe=>hj (Lz hN e1 (e▸hi))
     simp[this,e]
    ·exact .inr ⟨k,c,e,z.sameBut hs (sy y c e)⟩
  ·obtain⟨w',z⟩:=I.cell y c e
   exact⟨w',z.sameBut hs (sy y c e)⟩
  ·obtain⟨e,n,ne,nf,d⟩:=I.pin p hp
   exact⟨(hs.2 p.1 ne).trans e,n,ne,nf,d⟩
 ·have hfn:X.fn x=true:=by
   rcases hf with z|z
   ·exact z
   ·rw[z]at hk; cases hk
  obtain⟨c,hc⟩:=I.ok.has x (.inl hk)
  obtain⟨w',z⟩:=I.cell x c hc
  refine wpAny_storeName_cell I.ok.kind hk hc z (λh' hc' hs=>?_)
  obtain⟨oc,hoc,Vs⟩:=id z
  refine h {s with heap:=h' } ⟨I.ok,I.os,I.bare,⟨λb o e n hb hx=>?_,λb o e n hb hx=>?_,I.base.free,λb o e hx=>?_,I.base.tups,I.base.lU,I.base.lV⟩,⟨m,hn.sameBut hs (Ne.symm (sy x c hc)),λj y v' e1 e2 e3=>?_⟩,λy c' e=>?_,I.free,I.lW,λp hp=>?_,tracked ⟨oc,hoc,I.lW x c hc⟩ hs,by simpa using I.len⟩ ⟨c,hs,.inr hc⟩
  ·exact(hs.2 b (Nat.ne_of_lt (Nat.lt_of_lt_of_le (Heap.lt_size e) (I.ok.cab x c hfn hc)))).trans (I.base.keep b o e n hb hx)
  ·obtain⟨sl,e1⟩:=I.base.slot b o e n hb hx
   exact⟨sl,(hs.2 b (Nat.ne_of_lt (Nat.lt_of_lt_of_le (Heap.lt_size e) (I.ok.cab x c hfn hc)))).trans e1⟩
  ·obtain⟨o',e1⟩:=I.base.there b o e hx
   exact⟨o',(hs.2 b (Nat.ne_of_lt (Nat.lt_of_lt_of_le (Heap.lt_size e) (I.ok.cab x c hfn hc)))).trans e1⟩
  ·by_cases hj:j=i
   ·subst hj
    rw[hi]at e1; cases e1
    rw[List.getElem?_set_self LC]at e2
    cases e2
    exact⟨u,r,.inr ⟨.inl hk,c,hc,hc'⟩⟩
   ·rw[List.getElem?_set_ne (Ne.symm hj)]at e2
    obtain⟨u',r',q⟩:=hl j y v' e1 e2 e3
    refine⟨u',r',?_⟩
    rcases q with q|⟨k,c',e,z'⟩
    ·exact .inl q
    ·refine .inr ⟨k,c',e,z'.sameBut hs ?_⟩
     rintro rfl
     exact hj (Lz hN e1 (I.ok.inj _ _ _ e hc▸hi))
  ·by_cases hcc:c'=c
   ·subst hcc; exact⟨_,hc'⟩
   ·obtain⟨w2,z2⟩:=I.cell y c' e
    exact⟨w2,z2.sameBut hs hcc⟩
  ·obtain⟨e,n,ne,nf,d⟩:=I.pin p hp
   refine⟨(hs.2 p.1 ?_).trans e,n,ne,nf,d⟩
   intro q
   rw[q,hoc]at e
   have q':oc=p.2:=Option.some.inj e
   exact d w' (by rw[<-q']; exact Vs)
theorem zF{M:Model}{A:Around}{E:Value->Shared->Prop}{i:Nat}{x:Str}{v:V}{u:Value}{Q:Unit->Shared->Prop}(I:Inv X pins σ H s)(hN:X.N.Nodup)(hi:X.N[i]?=some x)(hx:Loc X.env.scope x)(r:RelV v u)
  (h:∀s',Inv X pins (σ.set i (some v)) H s'->Q () s') (hf:X.fn x=true\/X.env.scope.names.lookup x=some .local:=by first|exact .inl rfl|exact .inr rfl|assumption):wpAny M A (storeName X.env x u) Q E s :=
 Ec I hN hi hx r (λs' I' _=>h s' I') hf
theorem Inv.call'{s':Shared}{ch:List Addr}(I:Inv X pins σ H s)(ho:s'.os=s.os)(u:Un (frs X.stack) ch H H' s.heap s'.heap)(hok:eH X.prog X.w H' s'.heap)(hg:AllBare s'.gens)
  (hch:∀b∈ch,(b∈X.ex\/X.s₀.heap.objs.size<=b)/\b≠X.env.locals/\(∀x c,X.env.cells.lookup x=some c->c≠b)/\∀p∈X.pn++pins,p.1≠b):Inv X pins σ H' s':=by
 obtain⟨h',g',d',t',o'⟩:=s'
 have e:o'=s.os:=ho
 subst e
 exact I.call (g':=g') (t':=t') (d':=d') u hok hg hch
end
abbrev XK:=Value->Option Addr->Hp->Prop
abbrev St:=List (Option V)
abbrev VK:=V->Hp->Prop
abbrev TE:=St->Hp->VK->Prop
abbrev TT:=St->Hp->(Bool->Hp->Prop)->Prop
abbrev TA:=St->Hp->(List V->Hp->Prop)->Prop
structure Ends where
 nx:St->Hp->Prop
 rt:VK
 bk:St->Hp->Prop:=λ_ _=>False
 ct:St->Hp->Prop:=λ_ _=>False
abbrev TS:=Ends->St->Hp->Prop
def EP(X:Cx)(pins:List (Addr × Obj))(σ : St)(Q:VK)(u:Value)(s':Shared):Prop:=∃v H',Inv X pins σ H' s'/\RelV v u/\Q v H'
def TP(X:Cx)(pins:List (Addr × Obj))(σ : St)(Q:Bool->Hp->Prop)(b:Bool)(s':Shared):Prop:=∃H',Inv X pins σ H' s'/\Q b H'
def AP(X:Cx)(pins:List (Addr × Obj))(σ : St)(Q:List V->Hp->Prop)(us:List Value)(s':Shared):Prop:=∃vs H',Inv X pins σ H' s'/\Vals vs us/\Q vs H'
noncomputable def SP(X:Cx)(pins:List (Addr × Obj))(D:Ends)(f:Flow)(s':Shared):Prop :=
 match f with
 |.next=>∃σ' H',Inv X pins σ' H' s'/\D.nx σ' H'
 |.brk=>∃σ' H',Inv X pins σ' H' s'/\D.bk σ' H'
 |.cont=>∃σ' H',Inv X pins σ' H' s'/\D.ct σ' H'
 |.ret u=>∃v σ' H',Inv X pins σ' H' s'/\RelV v u/\D.rt v H'
structure PE(X:Cx)(e:Expr)(t:TE):Prop where
 run:∀(pins:List (Addr × Obj)) (s:Shared) (σ : St) (H:Hp) (Q:VK),Inv X pins σ H s->t σ H Q->wpAny (model X.prog X.w) X.A (eval e X.env) (EP X pins σ Q) X.xe s
instance {X:Cx}{e:Expr}{t:TE}:CoeFun (PE X e t) λ_=>∀(pins:List (Addr × Obj)) (s:Shared) (σ : St) (H:Hp) (Q:VK),Inv X pins σ H s->t σ H Q->wpAny (model X.prog X.w) X.A (eval e X.env) (EP X pins σ Q) X.xe s:=⟨PE.run⟩
structure PT(X:Cx)(e:Expr)(t:TT):Prop where
 run:∀(pins:List (Addr × Obj)) (s:Shared) (σ : St) (H:Hp) (Q:Bool->Hp->Prop),Inv X pins σ H s->t σ H Q->wpAny (model X.prog X.w) X.A (isTrue e X.env (eval e X.env)) (TP X pins σ Q) X.xe s
instance {X:Cx}{e:Expr}{t:TT}:CoeFun (PT X e t) λ_=>∀(pins:List (Addr × Obj)) (s:Shared) (σ : St) (H:Hp) (Q:Bool->Hp->Prop),Inv X pins σ H s->t σ H Q->wpAny (model X.prog X.w) X.A (isTrue e X.env (eval e X.env)) (TP X pins σ Q) X.xe s:=⟨PT.run⟩
structure PW(X:Cx)(e:Expr)(t:TT):Prop where
 run:∀(whole:Sem Value) (pins:List (Addr × Obj)) (s:Shared) (σ : St) (H:Hp) (Q:Bool->Hp->Prop),Inv X pins σ H s->t σ H Q->wpAny (model X.prog X.w) X.A (isTrue e X.env whole) (TP X pins σ Q) X.xe s
noncomputable instance {X:Cx}{e:Expr}{t:TT}:CoeFun (PW X e t) λ_=>∀(whole:Sem Value) (pins:List (Addr × Obj)) (s:Shared) (σ : St) (H:Hp) (Q:Bool->Hp->Prop),Inv X pins σ H s->t σ H Q->wpAny (model X.prog X.w) X.A (isTrue e X.env whole) (TP X pins σ Q) X.xe s:=⟨PW.run⟩
theorem PW.pt{X:Cx}{e:Expr}{t:TT}(h:PW X e t):PT X e t:=⟨h.run _⟩
structure PA(X:Cx)(es:List Expr)(t:TA):Prop where
 run:∀(pos:Pos) (pins:List (Addr × Obj)) (s:Shared) (σ : St) (H:Hp) (Q:List V->Hp->Prop),Inv X pins σ H s->t σ H Q->wpAny (model X.prog X.w) X.A (spliced (backTo pos (starEach es X.env))) (AP X pins σ Q) X.xe s
noncomputable instance {X:Cx}{es:List Expr}{t:TA}:CoeFun (PA X es t) λ_=>∀(pos:Pos) (pins:List (Addr × Obj)) (s:Shared) (σ : St) (H:Hp) (Q:List V->Hp->Prop),Inv X pins σ H s->t σ H Q->wpAny (model X.prog X.w) X.A (spliced (backTo pos (starEach es X.env))) (AP X pins σ Q) X.xe s:=⟨PA.run⟩
structure PS(X:Cx)(st:Stmt)(t:TS):Prop where
 run:∀(pins:List (Addr × Obj)) (s:Shared) (σ : St) (H:Hp) (D:Ends),Inv X pins σ H s->t D σ H->wpAny (model X.prog X.w) X.A (exec st X.env) (SP X pins D) X.xe s
instance {X:Cx}{st:Stmt}{t:TS}:CoeFun (PS X st t) λ_=>∀(pins:List (Addr × Obj)) (s:Shared) (σ : St) (H:Hp) (D:Ends),Inv X pins σ H s->t D σ H->wpAny (model X.prog X.w) X.A (exec st X.env) (SP X pins D) X.xe s:=⟨PS.run⟩
structure jc(X:Cx)(st:List Stmt)(t:TS):Prop where
 run:∀(pins:List (Addr × Obj)) (s:Shared) (σ : St) (H:Hp) (D:Ends),Inv X pins σ H s->t D σ H->wpAny (model X.prog X.w) X.A (execs st X.env) (SP X pins D) X.xe s
instance {X:Cx}{st:List Stmt}{t:TS}:CoeFun (jc X st t) λ_=>∀(pins:List (Addr × Obj)) (s:Shared) (σ : St) (H:Hp) (D:Ends),Inv X pins σ H s->t D σ H->wpAny (model X.prog X.w) X.A (execs st X.env) (SP X pins D) X.xe s:=⟨jc.run⟩
theorem bh{α : Type}{t:Sem α}{Q Q' : α -> Shared->Prop}{M:Model}{A:Around}{E:Value->Shared->Prop}{s:Shared}(h:wpAny M A t Q E s)(hQ:∀a s,Q a s->Q' a s):wpAny M A t Q' E s:=wpAny_mono h hQ λ_ _ x=>x
end L2
namespace L2
open PySem PySem.Spec PyProof.Rows
section
variable {X:Cx}
def fY(i:Nat):TE:=λσ H Q=>∃v,σ[i]?=some (some v)/\Q v H
def tC(v:V):TE:=λ_ H Q=>Q v H
theorem Ed{i:Nat}{x:Str}{pos:Pos}(hN:X.N[i]?=some x)(hv:Lr X.env.scope x)(hd:(x == ("__debug__" : Str))=false:=by decide) (hcd:(x == ("__classdict__" : Str))=false:=by decide):PE X (.Name x pos) (fY i):=by
 refine⟨λpins s σ H Q I h=>?_⟩
 obtain⟨v,e,h⟩:=h
 obtain⟨m,hn,hl⟩:=I.loc
 obtain⟨u,r,l⟩:=hl i x v hN e hv
 have fin:EP X pins σ Q u s:=⟨v,H,I,r,h⟩
 rcases l with⟨hk,hm⟩|⟨hk,c,hc,hcell⟩
 ·exact wpAny_Name (wpAny_loadName_local I.ok.kind hk hn hm fin) hd
 ·rcases hk with hk|hk
  ·exact wpAny_Name (wpAny_loadName_cell I.ok.kind hk hc hcell fin) hd
  ·exact wpAny_Name (wpAny_loadName_free I.ok.kind hk hc hcell fin hcd) hd
theorem aU{i j pos}:PE X (.Constant (.int i) j pos) (tC (.int i)):=⟨λ_ _ _ H _ I h=>wpAny_Constant_int ⟨.int i,H,I.tok _,⟨_,rfl⟩,h⟩⟩
theorem jL{b j pos}:PE X (.Constant (.bool b) j pos) (tC (.bl b)):=⟨λ_ _ _ H _ I h=>Constant_bool ⟨.bl b,H,I,rfl,h⟩⟩
theorem LK{j pos}:PE X (.Constant .none j pos) (tC .non):=⟨λ_ _ _ H _ I h=>Constant_none ⟨.non,H,I,rfl,h⟩⟩
theorem zG{x j pos}:PE X (.Constant (.str x) j pos) (tC (.str x)):=⟨λ_ _ _ H _ I h=>Calls.Constant_str ⟨.str x,H,I.tok _,⟨_,rfl⟩,h⟩⟩
def Gl(X:Cx)(x:Str):Prop:=X.env.kindOf x=some .globalImplicit
theorem Ef{E:Value->Shared->Prop}{pins:List (Addr × Obj)}{s:Shared}{σ : St}{H:Hp}{x:Str}{u:Value}{pos:Pos}{Q:Value->Shared->Prop}(I:Inv X pins σ H s)(hg:Gl X x)(hm:X.mg x=some u)(h:Q u s)
  (hd:(x == ("__debug__" : Str))=false:=by decide):wpAny (model X.prog X.w) X.A (eval (.Name x pos) X.env) Q E s :=
 Calls.Name_function_global I.ok.kind hg (Calls.loadGlobal_global (by rw[I.ok.glob]; exact I.mod.glob.keeps I.bk) hm h) hd
theorem qF{E:Value->Shared->Prop}{pins:List (Addr × Obj)}{s:Shared}{σ : St}{H:Hp}{x:Str}{u:Value}{pos:Pos}{Q:Value->Shared->Prop}(I:Inv X pins σ H s)(hg:Gl X x)(hm:X.mg x=none)(hv:bootBuiltins x=some u)(h:Q u s)
  (hn:x ≠ "__name__" := by decide) (hd:(x == ("__debug__" : Str))=false:=by decide):wpAny (model X.prog X.w) X.A (eval (.Name x pos) X.env) Q E s:=by
 obtain⟨mb,h1,h2⟩:=I.mod.blt
 exact Calls.Name_function_global I.ok.kind hg (Calls.loadGlobal_builtin (by rw[I.ok.glob]; exact I.mod.glob.keeps I.bk) hm (by rw[I.ok.blt]; exact h1.keeps I.bk) ((h2 x hn).trans hv) h) hd
theorem Vt{x:Str}{v:V}{u:Value}{pos:Pos}(hg:Gl X x)(hm:X.mg x=some u)(r:RelV v u)(hd:(x == ("__debug__" : Str))=false:=by decide):PE X (.Name x pos) (tC v) :=
 ⟨λ_ _ _ H _ I h=>Ef I hg hm ⟨v,H,I,r,h⟩ hd⟩
theorem Vu{x:Str}{v:V}{u:Value}{pos:Pos}(hg:Gl X x)(hm:X.mg x=none)(hv:bootBuiltins x=some u)(r:RelV v u)(hn:x ≠ "__name__" := by decide) (hd:(x == ("__debug__" : Str))=false:=by decide):PE X (.Name x pos) (tC v) :=
 ⟨λ_ _ _ H _ I h=>qF I hg hm hv ⟨v,H,I,r,h⟩ hn hd⟩
variable {a b:Expr}{ta tb:TE}{pos:Pos}
variable {tA fZ:TT}{rest:List Expr}
def LQ(t u:TT):TT:=λσ H Q=>t σ H λc H1=>if c=true then Q true H1 else u σ H1 Q
def LR(t:TT):TT:=λσ H Q=>t σ H λc H1=>Q (!c) H1
theorem lX(ha:PT X a tA):PW X (.BoolOp .Or [a] pos) tA:=by
 refine⟨λwh pins s σ H Q I h=>?_⟩
 refine isTrue_or (bh (ha pins s σ H Q I h) λc s1 e=>?_)
 cases c with
 |false=>exact isTrue_or_nil e
 |true=>exact e
theorem lA(ha:PT X a tA)(hb:PW X (.BoolOp .Or (b::rest) pos) fZ):PW X (.BoolOp .Or (a::b::rest) pos) (LQ tA fZ):=by
 refine⟨λwh pins s σ H Q I h=>?_⟩
 refine isTrue_or (bh (ha pins s σ H _ I h) λc s1 ⟨H1,I1,q1⟩=>?_)
 cases c with
 |true=>exact⟨H1,I1,q1⟩
 |false=>exact hb wh pins s1 σ H1 Q I1 q1
theorem gR(ha:PT X a tA):PT X (.UnaryOp .Not a pos) (LR tA):=by
 refine⟨λpins s σ H Q I h=>?_⟩
 exact isTrue_not (ha pins s σ H (λc H1=>Q (!c) H1) I h)
def Ma(ta tb:TE):TE:=λσ H Q=>ta σ H λx H1=>∃c,x=.bl c/\if c=true then tb σ H1 Q else Q (.bl false) H1
def Mf(ta tb:TE):TE:=λσ H Q=>ta σ H λx H1=>∃c,x=.bl c/\if c=true then Q (.bl true) H1 else tb σ H1 Q
def Mg(ta:TE):TE:=λσ H Q=>ta σ H λx H1=>∃c,x=.bl c/\Q (.bl (!c)) H1
theorem sE{op}{t:TE}(h:PE X a t):PE X (.BoolOp op [a] pos) t:=⟨λpins s σ H Q I hw=>BoolOp_one (h pins s σ H Q I hw)⟩
theorem uJ(ha:PE X a ta)(hb:PE X (.BoolOp .And (b::rest) pos) tb):PE X (.BoolOp .And (a::b::rest) pos) (Ma ta tb):=by
 refine⟨λpins s σ H Q I h=>?_⟩
 refine BoolOp_and (bh (ha pins s σ H _ I h) λv s1 ⟨x,H1,I1,r1,q1⟩=>?_)
 obtain⟨c,rfl,q1⟩:=q1
 cases r1
 refine wpAny_truthy_bool ?_
 cases c with
 |true=>exact hb pins s1 σ H1 Q I1 q1
 |false=>exact⟨.bl false,H1,I1,rfl,q1⟩
theorem Vv(ha:PE X a ta)(hb:PE X (.BoolOp .Or (b::rest) pos) tb):PE X (.BoolOp .Or (a::b::rest) pos) (Mf ta tb):=by
 refine⟨λpins s σ H Q I h=>?_⟩
 refine BoolOp_or (bh (ha pins s σ H _ I h) λv s1 ⟨x,H1,I1,r1,q1⟩=>?_)
 obtain⟨c,rfl,q1⟩:=q1
 cases r1
 refine wpAny_truthy_bool ?_
 cases c with
 |false=>exact hb pins s1 σ H1 Q I1 q1
 |true=>exact⟨.bl true,H1,I1,rfl,q1⟩
theorem Vw(ha:PE X a ta):PE X (.UnaryOp .Not a pos) (Mg ta):=by
 refine⟨λpins s σ H Q I h=>?_⟩
 refine UnaryOp_ (bh (ha pins s σ H _ I h) λv s1 ⟨x,H1,I1,r1,q1⟩=>?_)
 obtain⟨c,rfl,q1⟩:=q1
 cases r1
 exact not_of (wpAny_truthy_bool ⟨.bl (!c),H1,I1,rfl,q1⟩)
end
end L2
namespace L2
open PySem PySem.Spec PyProof.Rows
def bw(K:FZ)(H:Hp)(a:Addr)(xs:List V):Prop :=
 Rd H a (.lst xs) \/
  ∃(o:Obj) (its:Array Value) (n:Nat),K.lookup a=some o/\o.cls=.type "list" /\ o.dict=none/\o.data=.seq its n/\its.size<=sizeLine/\Vals xs its.toList
def c7(K:FZ)(H:Hp)(a:Addr)(xs:List V):Prop :=
 Rd H a (.tup xs) \/
  ∃(o:Obj) (its:Array Value) (n:Nat),K.lookup a=some o/\o.cls=.type "tuple" /\ o.data=.seq its n/\its.size<=sizeLine/\Vals xs its.toList
def Vx:Value->Option V
 |.none=>some .non
 |.bool b=>some (.bl b)
 |.int i _=>some (.int i)
 |.str x _=>some (.str x)
 |.bytes b _=>some (.wC b)
 |.float b _=>some (.flt b)
 |.ref a=>some (.ref a)
 |.type n=>some (.ty n)
 |_=>none
theorem RelV.abs{x:V}{u:Value}(r:RelV x u):Vx u=some x:=by
 cases x with
 |non=>cases r; rfl
 |bl _=>cases r; rfl
 |int _=>obtain⟨t,rfl⟩:=r; rfl
 |str _=>obtain⟨t,rfl⟩:=r; rfl
 |wC _=>obtain⟨t,rfl⟩:=r; rfl
 |flt _=>obtain⟨t,rfl⟩:=r; rfl
 |ref _=>cases r; rfl
 |ty _=>cases r; rfl
theorem RelV.inj{x y:V}{u:Value}(r:RelV x u)(q:RelV y u):x=y:=Option.some.inj (r.abs.symm.trans q.abs)
theorem Vals.inj:∀{xs ys:List V} {us:List Value},Vals xs us->Vals ys us->xs=ys
 |_,_,_,.nil,.nil=>rfl
 |_,_,_,.cons r t,.cons r' t'=>by rw[r.inj r',Vals.inj t t']
section
variable {X:Cx}{pins:List (Addr × Obj)}{σ : St}{H:Hp}{s:Shared}{a:Addr}{xs ys:List V}
theorem bw.of{K:FZ}(h:H a=some (.lst xs)):bw K H a xs:=.inl (.inl h)
theorem c7.of{K:FZ}(h:H a=some (.tup xs)):c7 K H a xs:=.inl (.inl h)
theorem Inv.list(I:Inv X pins σ H s)(h:bw X.K H a xs):∃its:List Value,Vals xs its/\PlainL s.heap a its.toArray/\xs.length<=sizeLine:=by
 rcases h with h|⟨o,its,n,hk,hc,hd,hs,hz,r⟩
 ·obtain⟨z,its,n,r,e⟩:=h.ok I.hok
  exact⟨its,r,⟨_,n,e,rfl,rfl,rfl⟩,z⟩
 ·refine⟨its.toList,r,⟨o,n,I.jK a o hk,hc,hd,by simpa using hs⟩,?_⟩
  have e:=r.length
  simp only[Array.length_toList]at e
  omega
theorem Inv.tuple(I:Inv X pins σ H s)(h:c7 X.K H a xs):∃its:List Value,Vals xs its/\IsTup s.heap a its.toArray/\xs.length<=sizeLine:=by
 rcases h with h|⟨o,its,n,hk,hc,hs,hz,r⟩
 ·obtain⟨z,its,r,p⟩:=h.ok I.hok
  exact⟨its,r,p,z⟩
 ·refine⟨its.toList,r,⟨o,I.jK a o hk,hc,n,by simpa using hs⟩,?_⟩
  have e:=r.length
  simp only[Array.length_toList]at e
  omega
theorem Inv.wH(I:Inv X pins σ H s)(h:bw X.K H a xs)(h':bw X.K H a ys):xs=ys:=by
 obtain⟨its,r,⟨o,n,e,_,_,d⟩,_⟩:=I.list h
 obtain⟨its',r',⟨o',n',e',_,_,d'⟩,_⟩:=I.list h'
 rw[e]at e'; cases e'
 rw[d]at d'
 injection d' with d1 _
 have:its=its':=by simpa using congrArg Array.toList d1
 subst this
 exact r.inj r'
theorem Inv.Mh(I:Inv X pins σ H s)(h:c7 X.K H a xs)(h':c7 X.K H a ys):xs=ys:=by
 obtain⟨its,r,⟨o,e,_,n,d⟩,_⟩:=I.tuple h
 obtain⟨its',r',⟨o',e',_,n',d'⟩,_⟩:=I.tuple h'
 rw[e]at e'; cases e'
 rw[d]at d'
 injection d' with d1 _
 have:its=its':=by simpa using congrArg Array.toList d1
 subst this
 exact r.inj r'
end
abbrev Cx.wish(X:Cx)(E:Value->Shared->Prop):Cx:={X with xe:=E }
abbrev Cx.jd(X:Cx):Cx:=X.wish λ_ _=>False
theorem Cx.Ok.wish{X:Cx}(ok:X.Ok)(E:Value->Shared->Prop):(X.wish E).Ok :=
 ⟨ok.mod,ok.kind,ok.glob,ok.blt,ok.above,ok.inj,ok.has,ok.cab,ok.hd,ok.frames,ok.stk,ok.Ls,ok.bs,ok.qD,ok.jz,ok.zy,ok.lu,ok.su⟩
theorem Cx.Ok.qG{X:Cx}{E:Value->Shared->Prop}(ok:(X.wish E).Ok):X.Ok :=
 ⟨ok.mod,ok.kind,ok.glob,ok.blt,ok.above,ok.inj,ok.has,ok.cab,ok.hd,ok.frames,ok.stk,ok.Ls,ok.bs,ok.qD,ok.jz,ok.zy,ok.lu,ok.su⟩
section
variable {X:Cx}{pins:List (Addr × Obj)}{σ : St}{H:Hp}{s:Shared}{E:Value->Shared->Prop}
theorem Inv.wish(I:Inv X pins σ H s)(E:Value->Shared->Prop):Inv (X.wish E) pins σ H s:=⟨I.ok.wish E,I.os,I.bare,I.base,I.loc,I.cell,I.free,I.lW,I.pin,I.hok,I.len⟩
theorem Inv.qG(I:Inv (X.wish E) pins σ H s):Inv X pins σ H s:=⟨I.ok.qG,I.os,I.bare,I.base,I.loc,I.cell,I.free,I.lW,I.pin,I.hok,I.len⟩
theorem SP.qG{D:Ends}{f:Flow}{s':Shared}(h:SP (X.wish E) pins D f s'):SP X pins D f s':=by
 cases f with
 |next=>obtain⟨σ',H',I,q⟩:=h; exact⟨σ',H',I.qG,q⟩
 |brk=>obtain⟨σ',H',I,q⟩:=h; exact⟨σ',H',I.qG,q⟩
 |cont=>obtain⟨σ',H',I,q⟩:=h; exact⟨σ',H',I.qG,q⟩
 |ret u=>obtain⟨v,σ',H',I,r,q⟩:=h; exact⟨v,σ',H',I.qG,r,q⟩
end
section
variable {X:Cx}{st:Stmt}{rest:List Stmt}{t u:TS}{e:Expr}{te:TE}{pos:Pos}
def Eh:TS:=λD σ H=>D.nx σ H
def je(t u:TS):TS:=λD σ H=>t {D with nx:=u D } σ H
theorem f9:jc X [] Eh:=⟨λ_ _ σ H _ I h=>wpAny_execs_nil ⟨σ,H,I,h⟩⟩
theorem aW(h1:PS X st t)(h2:jc X rest u):jc X (st::rest) (je t u):=by
 refine⟨λpins s σ H D I h=>?_⟩
 refine wpAny_execs_cons (bh (h1 pins s σ H {D with nx:=u D } I h) λf s1 q=>?_)
 cases f with
 |next =>
  obtain⟨σ',H',I',q⟩:=q
  exact h2 pins s1 σ' H' D I' q
 |ret v=>exact q
 |brk=>exact q
 |cont=>exact q
theorem bC(h1:PS X st t):jc X [st] t:=by
 refine⟨λpins s σ H D I h=>?_⟩
 refine wpAny_execs_cons (bh (h1 pins s σ H D I h) λf s1 q=>?_)
 cases f with
 |next=>exact wpAny_execs_nil q
 |ret v=>exact q
 |brk=>exact q
 |cont=>exact q
theorem Inv.quiet{pins:List (Addr × Obj)}{σ : St}{H:Hp}{s:Shared}(I:Inv X pins σ H s):interactive X.env=false:=by simp[interactive,I.ok.kind]
def o9(te:TE):TS:=λD σ H=>te σ H λ_ H1=>D.nx σ H1
theorem Vy(he:PE X e te)(hs:swapsWith e none pos.line X.env=pure false:=by rfl):PS X (.Expr e pos) (o9 te):=by
 refine⟨λpins s σ H D I h=>?_⟩
 exact wpAny_Expr_any (bh (he pins s σ H _ I h) λv s1 ⟨x,H1,I1,r1,q1⟩=>⟨σ,H1,I1,q1⟩) I.quiet hs
def sG(te:TE):TS:=λD σ H=>te σ H D.rt
theorem cA(he:PE X e te):PS X (.Return (some e) pos) (sG te):=by
 refine⟨λpins s σ H D I h=>?_⟩
 exact wpAny_Return_some (bh (he pins s σ H _ I h) λv s1 ⟨x,H1,I1,r1,q1⟩=>⟨x,σ,H1,I1,r1,q1⟩)
def Ei(c:TT)(t u:TS):TS:=λD σ H=>c σ H λb H1=>if b=true then t D σ H1 else u D σ H1
theorem gh{c:Expr}{a b:List Stmt}{tc:TT}(hc:PT X c tc)(ha:jc X a t)(hb:jc X b u):PS X (.If c a b pos) (Ei tc t u):=by
 refine⟨λpins s σ H D I h=>?_⟩
 refine wpAny_If (bh (hc pins s σ H _ I h) λd s1 ⟨H1,I1,q1⟩=>?_)
 cases d with
 |true=>exact ha pins s1 σ H1 D I1 q1
 |false=>exact hb pins s1 σ H1 D I1 q1
end
abbrev TG:=V->St->Hp->(St->Hp->Prop)->Prop
abbrev jW:=List V->St->Hp->(St->Hp->Prop)->Prop
noncomputable def PG(X:Cx)(target:Expr)(t:TG):Prop :=
 ∀(pins:List (Addr × Obj)) (s:Shared) (σ : St) (H:Hp) (v:V) (u:Value) (Q:St->Hp->Prop),Inv X pins σ H s->RelV v u->t v σ H Q ->
  wpAny (model X.prog X.w) X.A (assign target X.env u) (λ_ s'=>∃σ' H',Inv X pins σ' H' s'/\Q σ' H') X.xe s
noncomputable def zH(X:Cx)(ts:List Expr)(t:jW):Prop :=
 ∀(pins:List (Addr × Obj)) (s:Shared) (σ : St) (H:Hp) (vs:List V) (us:List Value) (Q:St->Hp->Prop),Inv X pins σ H s->Vals vs us->t vs σ H Q ->
  wpAny (model X.prog X.w) X.A (assignInOrder ((assignEach ts X.env).map (·.2)) us) (λ_ s'=>∃σ' H',Inv X pins σ' H' s'/\Q σ' H') X.xe s
abbrev Ej:=V->V->V->Hp->(Hp->Prop)->Prop
noncomputable def Mi(X:Cx)(t:Ej):Prop :=
 ∀(pins:List (Addr × Obj)) (s:Shared) (σ : St) (H:Hp) (o i v:V) (ov iv u:Value) (Q:Hp->Prop),Inv X pins σ H s->RelV o ov->RelV i iv->RelV v u->t o i v H Q ->
  wpAny (model X.prog X.w) X.A (setItem ov iv u) (λ_ s'=>∃H',Inv X pins σ H' s'/\Q H') X.xe s
section
variable {X:Cx}{pos:Pos}
def cU(i:Nat):TG:=λv σ H Q=>Q (σ.set i (some v)) H
theorem Mj{i:Nat}{x:Str}(hN:X.N.Nodup)(hi:X.N[i]?=some x)(hx:Loc X.env.scope x)(hf:X.fn x=true\/X.env.scope.names.lookup x=some .local:=by first|exact .inl rfl|exact .inr rfl|assumption):PG X (.Name x pos) (cU i):=by
 intro pins s σ H v u Q I r h
 exact wpAny_assign_Name (zF I hN hi hx r (λs' I'=>⟨_,H,I',h⟩) hf)
def uK:jW:=λvs σ H Q=>vs=[]/\Q σ H
def pq(t:TG)(u:jW):jW:=λvs σ H Q=>∃v r,vs=v::r/\t v σ H λσ' H'=>u r σ' H' Q
theorem jX:zH X [] uK:=by
 intro pins s σ H vs us Q I r h
 obtain⟨e,h⟩:=h
 subst e
 cases r
 exact assignInOrder_nil ⟨σ,H,I,h⟩
theorem fC{e:Expr}{es:List Expr}{t:TG}{u:jW}(h1:PG X e t)(h2:zH X es u)
  (hs:(assignEach (e::es) X.env).map (·.2)=assign e X.env::(assignEach es X.env).map (·.2):=by rfl):zH X (e::es) (pq t u):=by
 intro pins s σ H vs us Q I r h
 obtain⟨v,vr,e1,h⟩:=h
 subst e1
 cases r with
 |cons r rr =>
  rw[hs]
  refine assignInOrder_cons (bh (h1 pins s σ H _ _ _ I r h) λ_ s1 ⟨σ1,H1,I1,q1⟩=>?_)
  exact h2 pins s1 σ1 H1 _ _ Q I1 rr q1
def uL(K:FZ)(n:Nat)(t:jW):TG:=λv σ H Q=>∃a xs,v=.ref a/\c7 K H a xs/\xs.length=n/\t xs σ H Q
theorem jY{es:List Expr}{k:Nat}{t:jW}{n:Nat}(hc:X.calm=true)(h:zH X es t)
  (hn:(assignEach es X.env).length=n:=by rfl) (hst:(assignEach es X.env).findIdx? (·.1)=none:=by rfl):PG X (.Tuple es k pos) (uL X.K n t):=by
 intro pins s σ H v u Q I r hw
 obtain⟨a,xs,e1,hq,hl,hw⟩:=hw
 subst e1
 cases r
 obtain⟨its,rv,ht,hz⟩:=I.tuple hq
 refine assign_Tuple_tuple (I.ok.hd hc) ht (by simp[hn,<-hl,rv.length]) hst λh' hx=>?_
 have I1:Inv X pins σ H {s with heap:=h' }:=I.kept (t':=s.toks) λb o e=>hx b o (Nat.ne_of_lt (Heap.lt_size e)) e
 exact h pins _ σ H xs _ Q I1 (by simpa using rv) hw
def Ml(to ti:TE)(t:Ej):TG:=λv σ H Q=>to σ H λo H1=>ti σ H1 λi H2=>t o i v H2 λH3=>Q σ H3
theorem zJ{o i:Expr}{to ti:TE}{t:Ej}(ho:PE X o to)(hi:PE X i ti)(hs:Mi X t)
  (ha:∀v,assign (.Subscript o i pos) X.env v=(do
   let ov <-holding [v] (eval o X.env)
   let iv <-holding [v,ov] (eval i X.env)
   standAt pos
   holding [v,ov,iv] (setItem ov iv v)
   release [v,ov,iv] []):=by intro _; rfl):PG X (.Subscript o i pos) (Ml to ti t):=by
 intro pins s σ H v u Q I r h
 rw[ha]
 refine wpAny_bind (wpAny_holding (bh (ho pins s σ H _ I h) λov s1 ⟨x,H1,I1,r1,q1⟩=>?_))
 refine wpAny_bind (wpAny_holding (bh (hi pins s1 σ H1 _ I1 q1) λiv s2 ⟨y,H2,I2,r2,q2⟩=>?_))
 refine wpAny_bind (wpAny_standAt (wpAny_bind (wpAny_holding (bh (hs pins s2 σ H2 x y v ov iv u _ I2 r1 r2 r q2) λ_ s3 ⟨H3,I3,q3⟩=>?_))))
 exact wpAny_release ⟨σ,H3,I3,q3⟩
def jA(te:TE)(g:TG):TS:=λD σ H=>te σ H λx H1=>g x σ H1 D.nx
theorem qH{tg e:Expr}{te:TE}{g:TG}(he:PE X e te)(hg:PG X tg g)(hs:swapsWithSole [tg] e pos.line X.env=pure false:=by rfl)(hw:swappedStores [tg] e X.env=pure none:=by rfl)
  (h1:(assignEach [tg] X.env).map (·.2)=[assign tg X.env]:=by rfl):PS X (.Assign [tg] e pos) (jA te g):=by
 refine⟨λpins s σ H D I h=>?_⟩
 refine wpAny_Assign_stores (bh (he pins s σ H _ I h) λv s1 ⟨x,H1,I1,r1,q1⟩=>?_) hs hw
 rw[h1]
 exact bh (hg pins s1 σ H1 x v _ I1 r1 q1) λ_ s2 q=>q
theorem Mp{i:Nat}{x:Str}{e:Expr}{te:TE}{pos':Pos}(hN:X.N.Nodup)(hi:X.N[i]?=some x)(hx:Loc X.env.scope x)(he:PE X e te)(hs:swapsWith e (some (.Name x pos')) pos.line X.env=pure false:=by rfl)(hf:X.fn x=true\/X.env.scope.names.lookup x=some .local:=by first|exact .inl rfl|exact .inr rfl|assumption) :
  PS X (.Assign [.Name x pos'] e pos) (jA te (cU i)):=by
 refine⟨λpins s σ H D I h=>?_⟩
 refine wpAny_Assign_Name (bh (he pins s σ H _ I h) λv s1 ⟨y,H1,I1,r1,q1⟩=>?_) hs
 exact zF I1 hN hi hx r1 (λs2 I2=>⟨_,H1,I2,q1⟩) hf
def Mq(i j:Nat)(ta:TA):TS:=λD σ H=>ta σ H λvs H1=>∃v w,vs=[v,w]/\D.nx ((σ.set i (some v)).set j (some w)) H1
theorem Ek{i j:Nat}{x y:Str}{a b:Expr}{ta:TA}{px py pt:Pos}{kt k2 El}(hc:X.calm=true)(hN:X.N.Nodup)(hi:X.N[i]?=some x)(hj:X.N[j]?=some y)(hij:i≠j)
  (hx:X.env.scope.names.lookup x=some .local) (hy:X.env.scope.names.lookup y=some .local) (ha:PA X [a,b] ta)
  (hw:swappedStores [.Tuple [.Name x px,.Name y py] kt pt] (.Tuple [a,b] k2 El) X.env=pure (some [x,y]))
  (hs:swapsWithSole [.Tuple [.Name x px,.Name y py] kt pt] (.Tuple [a,b] k2 El) pos.line X.env=pure false:=by rfl) :
  PS X (.Assign [.Tuple [.Name x px,.Name y py] kt pt] (.Tuple [a,b] k2 El) pos) (Mq i j ta):=by
 refine⟨λpins s σ H D I h=>?_⟩
 rw[exec_Assign_arm]
 refine wpAny_bind (wpAny_standAt ?_)
 rw[hs]
 refine wpAny_bind (wpAny_pure ?_)
 rw[if_neg (by decide)]
 refine wpAny_bind (Tuple_ (bh (ha _ pins s σ H _ I h) λus s1 ⟨vs,H1,I1,r1,q1⟩=>?_))
 obtain⟨v,w,e1,q1⟩:=q1
 subst e1
 obtain⟨u1,u2,rfl,rv,pA⟩:∃u1 u2,us=[u1,u2]/\RelV v u1/\RelV w u2:=by
  cases r1 with
  |cons p q =>
   cases q with
   |cons p' q' =>
    cases q'
    exact⟨_,_,rfl,p,p'⟩
 refine wpAny_newObj_type ?_ (by show 2<=sizeLine; decide)
 have I2:Inv X pins σ H1 {s1 with heap:=s1.heap.push {cls:=.type "tuple",data:=.seq [u1,u2].toArray } }:=I1.kept (t':=s1.toks) λb o e=>Heap.get?_push_of_some _ e
 rw[hw]
 refine wpAny_bind (wpAny_pure ?_)
 show wpAny (model X.prog X.w) X.A (do rule "assign.swapped-stores"; let items <-unpackItems (.ref s1.heap.objs.size) 2 none; assignInOrder [λv=>bindName X.env y v,λv=>bindName X.env x v] items.reverse; pure Flow.next) _ _ _
 refine wpAny_bind (wpAny_rule (wpAny_bind (unpackItems_tuple (items:=#[u1,u2]) (I.ok.hd hc) (IsTup.new s1.heap _) λh' hx'=>?_)))
 have I3:=I2.kept (h':=h') (t':=s1.toks) λb o e=>hx' b o (Nat.ne_of_lt (Heap.lt_size e)) e
 show wpAny _ _ (assignInOrder [λv=>bindName X.env y v,λv=>bindName X.env x v] [u2,u1] >>= λ_=>pure Flow.next) _ _ _
 refine wpAny_bind (assignInOrder_cons (wpAny_bindName (zF I3 hN hj (.inl hy) pA (λs2 I4=>?_) (.inr hy))))
 refine assignInOrder_cons (wpAny_bindName (zF I4 hN hi (.inl hx) rv (λs3 I5=>assignInOrder_nil (wpAny_pure ?_)) (.inr hx)))
 rw[List.set_comm _ _ (Ne.symm hij)]at I5
 exact⟨_,H1,I5,q1⟩
end
section
variable {X:Cx}{pos:Pos}
def Mr(c:TT)(tb:TS):TS:=λD σ H=>∃W:Nat->St->Hp->Prop,(∃m,W m σ H)/\∀m σ H,W m σ H ->
 c σ H λb H1=>if b=true then ∃N:St->Hp->Prop,(∀σ' H',N σ' H'->∃m',m'<m/\W m' σ' H')/\tb {D with nx:=N,ct:=N,bk:=D.nx } σ H1 else D.nx σ H1
theorem Ms{c:Expr}{body:List Stmt}{tc:TT}{tb:TS}(hp:PassesOwn (model X.prog X.w) X.A X.env X.xe)(hc:PT X c tc)(hb:jc X body tb):PS X (.While c body [] pos) (Mr tc tb):=by
 refine⟨λpins s σ H D I h=>?_⟩
 obtain⟨W,⟨m0,w0⟩,turn⟩:=h
 refine wpAny_While (codeAny_whileLoop (λn s'=>∃σ' H',Inv X pins σ' H' s'/\W n σ' H') ?_ m0 ⟨σ,H,I,w0⟩)
 rintro n s1 ⟨σ1,H1,I1,w1⟩
 refine wpAny_passesOwn hp (bh (hc pins s1 σ1 H1 _ I1 (turn n σ1 H1 w1)) λb s2 ⟨H2,I2,q2⟩=>?_)
 cases b with
 |true =>
  obtain⟨N,hN,q2⟩:=q2
  rw[if_pos rfl]
  refine wpAny_passesOwn hp (bh (hb pins s2 σ1 H2 _ I2 q2) λf s3 q3=>?_)
  cases f with
  |next =>
   obtain⟨σ3,H3,I3,n3⟩:=q3
   obtain⟨m',hm,w3⟩:=hN σ3 H3 n3
   exact⟨m',hm,σ3,H3,I3,w3⟩
  |cont =>
   obtain⟨σ3,H3,I3,n3⟩:=q3
   obtain⟨m',hm,w3⟩:=hN σ3 H3 n3
   exact⟨m',hm,σ3,H3,I3,w3⟩
  |brk=>exact q3
  |ret v=>exact q3
 |false =>
  rw[if_neg Bool.false_ne_true]
  exact wpAny_execs_nil ⟨σ1,H2,I2,q2⟩
end
structure It where
 go:Nat->Hp->Prop
 lY:Nat->Hp->V->Hp->Prop
 stop:Nat->Hp->Prop
def dN(X:Cx)(pins:List (Addr × Obj))(H:Hp)(b:Addr):Prop :=
 H b=none/\b≠X.env.locals/\b∉X.fs/\(b∈X.ex\/X.s₀.heap.objs.size<=b)/\(∀x c,X.env.cells.lookup x=some c->c≠b)/\∀p∈X.pn++pins,p.1≠b
theorem Inv.nA{X:Cx}{pins:List (Addr × Obj)}{σ : St}{H H':Hp}{s:Shared}{b:Addr}(I:Inv X pins σ H s)(hb:s.heap.objs.size<=b)(hn:H' b=none):dN X pins H' b:=by
 refine⟨hn,Nat.ne_of_gt (Nat.lt_of_lt_of_le I.lt hb),I.Vr hb,.inr (Nat.le_trans I.sz hb),λx c e z=>?_,λp hp z=>?_⟩
 ·obtain⟨v,q⟩:=I.cell x c e
  exact absurd (Nat.lt_of_lt_of_le q.lt (by rw[z]; exact hb)) (Nat.lt_irrefl _)
 ·exact absurd (Nat.lt_of_lt_of_le (Heap.lt_size (I.pin p hp).1) (by rw[z]; exact hb)) (Nat.lt_irrefl _)
structure Turn(P:Program)(w:World)(K:FZ)(tg:Expr)(J:It)(fp:List Addr)(it:Addr)(tn:Nat->Heap->Prop):Prop where
 mem:it∈fp
 obj:∀i h,tn i h->∀b∈fp,∃o,h.get? b=some o/\∀v,o.data ≠ .cell v
 keep:∀i h h',tn i h->(∀b∈fp,∀o,h.get? b=some o->h'.get? b=some o)->tn i h'
 item:∀(X:Cx),X.prog=P->X.w=w->X.K=K->X.calm=true->∀(i:Nat) (pins:List (Addr × Obj)) (s:Shared) (σ : St) (H:Hp) (E:Value->Shared->Prop),Inv X pins σ H s->(∀b∈fp,dN X pins H b)->tn i s.heap->J.go i H ->
  wpAny (model P w) X.A (pyNext (.ref it)) (λr s1=>∃u,r=some u /\
   wpAny (model P w) X.A (letOwnedTupleGo tg (.ref it) u) (λ_ s2=>∃x H',Inv X pins σ H' s2/\RelV x u/\J.lY i H x H'/\tn (i+1) s2.heap/\∀b∈fp,H' b=none) E s1) E s
 done:∀(X:Cx),X.prog=P->X.w=w->X.K=K->X.calm=true->∀(i:Nat) (pins:List (Addr × Obj)) (s:Shared) (σ : St) (H:Hp) (E:Value->Shared->Prop),Inv X pins σ H s->(∀b∈fp,dN X pins H b)->tn i s.heap->J.stop i H ->
  wpAny (model P w) X.A (pyNext (.ref it)) (λr s1=>r=none/\Inv X pins σ H s1) E s
 self:∀(A:Around) (i:Nat) (s:Shared) (Q:Value->Shared->Prop) (E:Value->Shared->Prop),tn i s.heap->Q (.ref it) s->wpAny (model P w) A (pyIter (.ref it)) Q E s
abbrev TI:=St->Hp->(It->Hp->Prop)->Prop
noncomputable def PIE(X:Cx)(pins:List (Addr × Obj))(σ : St)(tg:Expr)(R:It->Hp->Prop)(itv:Value)(s2:Shared):Prop :=
 ∃(it:Addr) (fp:List Addr) (tn:Nat->Heap->Prop) (J:It) (H':Hp),itv=.ref it/\Inv X pins σ H' s2/\Turn X.prog X.w X.K tg J fp it tn/\tn 0 s2.heap/\(∀b∈fp,dN X pins H' b)/\R J H'
noncomputable def PI(X:Cx)(tg iter:Expr)(wi:TI):Prop :=
 ∀(pins:List (Addr × Obj)) (s:Shared) (σ : St) (H:Hp) (R:It->Hp->Prop),Inv X pins σ H s->wi σ H R ->
  wpAny (model X.prog X.w) X.A (eval iter X.env) (λv s1=>wpAny (model X.prog X.w) X.A (pyIter v) (PIE X pins σ tg R) X.xe s1) X.xe s
theorem Em{M:Model}{A:Around}{E:Value→Shared→Prop}{s:Shared}{tg:Expr}{it:Addr}{u:Value}{o:Obj}{n:String}{vs:Array Value}{Q:Unit→Shared→Prop}(ho:s.heap.get? it=some o)(hc:o.cls=.type n)(hd:o.data=.fields vs)
    (hn : ["enumerate", "zip", "dict_itemiterator", "dict_reverseitemiterator", "odict_iterator", "itertools.zip_longest", "itertools.pairwise"].contains n=false) (hQ:Q () s):wpAny M A (letOwnedTupleGo tg (.ref it) u) Q E s:=by
  unfold letOwnedTupleGo
  cases tg <;> first
    |exact wpAny_pure hQ
    | (cases u <;> first
        |exact wpAny_pure hQ
        | (refine wpAny_bind (wpAny_load ho ?_)
           rw[hc,hd]
           show wpAny M A (if(["enumerate", "zip", "dict_itemiterator", "dict_reverseitemiterator", "odict_iterator", "itertools.zip_longest", "itertools.pairwise"].contains n&&vs[0]? == some (rawInt _))=true then _ else _) Q E s
           rw[if_neg (by intro h; rw[hn,Bool.false_and]at h; cases h)]
           exact wpAny_pure hQ))
def pB(K:FZ)(a:Addr):It :=
 ⟨λi H=>∃xs x,bw K H a xs/\xs[i]?=some x,λi H x H'=>H'=H/\∀xs,bw K H a xs->xs[i]?=some x,λi H=>∃xs,bw K H a xs/\xs.length<=i⟩
def Eo(K:FZ)(a:Addr):It :=
 ⟨λi H=>∃xs x,c7 K H a xs/\xs[i]?=some x,λi H x H'=>H'=H/\∀xs,c7 K H a xs->xs[i]?=some x,λi H=>∃xs,c7 K H a xs/\xs.length<=i⟩
def zK(lo:Int)(n:Nat):It:=⟨λi _=>i<n,λi H x H'=>H'=H/\x=.int (lo+i),λi _=>n<=i⟩
theorem Vz{P:Program}{w:World}{K:FZ}{tg:Expr}(a it:Addr):Turn P w K tg (pB K a) [it] it (λi h=>h.IsListIter it a i) where
 mem:=by simp
 obj:=λi h st b hb=>by
  have e:b=it:=by simpa using hb
  subst e
  obtain⟨o,e,c,d⟩:=st
  exact⟨o,e,λv z=>by rw[d]at z; cases z⟩
 keep:=λi h h' st k=>st.at λo e=>k it (by simp) o e
 item:=by
  intro X hP hw hK hc i pins s σ H E I hf st hg
  subst hP hw hK
  obtain⟨xs,x,hq,hx⟩:=hg
  obtain⟨its,rv,p,hz⟩:=I.list hq
  obtain⟨u,hu,ru⟩:=rv.get hx
  obtain⟨f0,f1,f2,f3,f4,f5⟩:=hf it (by simp)
  refine wpAny_pyNext_list_item st p.isList (x:=u) (by simpa using hu) λh' st' sb=>?_
  have I1:Inv X pins σ H {s with heap:=h' }:=I.turned (t':=s.toks) (λb o hb e=>(sb.2 b hb).trans e) f0 f1 f3 f4 f5
  obtain⟨o,e,c,d⟩:=id st'
  exact⟨u,rfl,Em (s:={s with heap:=h' }) e c d (by decide) ⟨x,H,I1,ru,⟨rfl,λys hy=>by rw[I.wH hy hq]; exact hx⟩,st',λb hb=>(hf b hb).1⟩⟩
 done:=by
  intro X hP hw hK hc i pins s σ H E I hf st hg
  subst hP hw hK
  obtain⟨xs,hq,hx⟩:=hg
  obtain⟨its,rv,p,hz⟩:=I.list hq
  obtain⟨f0,f1,f2,f3,f4,f5⟩:=hf it (by simp)
  have hl:=rv.length
  exact wpAny_pyNext_list_end (I.ok.hd hc) st p.isList (by simp; omega) λh' eb=>⟨rfl,I.turned (t':=s.toks) (λb o hb e=>eb b o hb e) f0 f1 f3 f4 f5⟩
 self:=λ_ _ _ _ _ st h=>wpAny_pyIter_listiter st h
theorem VB{P:Program}{w:World}{K:FZ}{tg:Expr}(a it:Addr):Turn P w K tg (Eo K a) [it] it (λi h=>h.IsTupleIter it a i) where
 mem:=by simp
 obj:=λi h st b hb=>by
  have e:b=it:=by simpa using hb
  subst e
  obtain⟨o,e,c,d⟩:=st
  exact⟨o,e,λv z=>by rw[d]at z; cases z⟩
 keep:=λi h h' st k=>st.at λo e=>k it (by simp) o e
 item:=by
  intro X hP hw hK hc i pins s σ H E I hf st hg
  subst hP hw hK
  obtain⟨xs,x,hq,hx⟩:=hg
  obtain⟨its,rv,p,hz⟩:=I.tuple hq
  obtain⟨u,hu,ru⟩:=rv.get hx
  obtain⟨f0,f1,f2,f3,f4,f5⟩:=hf it (by simp)
  refine wpAny_pyNext_tuple_item st (show s.heap.IsTuple a its.toArray from p) (x:=u) (by simpa using hu) λh' st' sb=>?_
  have I1:Inv X pins σ H {s with heap:=h' }:=I.turned (t':=s.toks) (λb o hb e=>(sb.2 b hb).trans e) f0 f1 f3 f4 f5
  obtain⟨o,e,c,d⟩:=id st'
  exact⟨u,rfl,Em (s:={s with heap:=h' }) e c d (by decide) ⟨x,H,I1,ru,⟨rfl,λys hy=>by rw[I.Mh hy hq]; exact hx⟩,st',λb hb=>(hf b hb).1⟩⟩
 done:=by
  intro X hP hw hK hc i pins s σ H E I hf st hg
  subst hP hw hK
  obtain⟨xs,hq,hx⟩:=hg
  obtain⟨its,rv,p,hz⟩:=I.tuple hq
  obtain⟨f0,f1,f2,f3,f4,f5⟩:=hf it (by simp)
  have hl:=rv.length
  exact wpAny_pyNext_tuple_end (I.ok.hd hc) st (show s.heap.IsTuple a its.toArray from p) (by simp; omega) λh' eb=>⟨rfl,I.turned (t':=s.toks) (λb o hb e=>eb b o hb e) f0 f1 f3 f4 f5⟩
 self:=λ_ _ _ _ _ st h=>wpAny_pyIter_tupleiter st h
theorem VD{P:Program}{w:World}{K:FZ}{tg:Expr}(it:Addr)(lo:Int)(n:Nat):Turn P w K tg (zK lo n) [it] it (λi h=>IsRangeIter h it (lo+(i:Nat)*1) ((n:Int)-(i:Nat)) 1) where
 mem:=by simp
 obj:=λi h st b hb=>by
  have e:b=it:=by simpa using hb
  subst e
  exact⟨_,st,λv z=>by
   have z':Data.fields _=Data.cell v:=z
   cases z'⟩
 keep:=λi h h' st k=>k it (by simp) _ st
 item:=by
  intro X hP hw hK hc i pins s σ H E I hf st hg
  subst hP hw hK
  obtain⟨f0,f1,f2,f3,f4,f5⟩:=hf it (by simp)
  have W:=Walks.range (prog:=X.prog) (w:=X.w) (I.ok.hd hc) it lo 1 n
  refine W.item i s _ _ hg st λv h' tk hv st' kk=>?_
  obtain⟨t,rfl⟩:=hv
  have I1:Inv X pins σ H {s with heap:=h',toks:=tk }:=I.turned (λb o hb e=>kk b o (by simpa using hb) e) f0 f1 f3 f4 f5
  refine⟨_,rfl,Em (s:={s with heap:=h',toks:=tk }) (n := "range_iterator") st' rfl rfl (by decide) ⟨.int (lo+i),H,I1,⟨t,?_⟩,⟨rfl,rfl⟩,st',λb hb=>(hf b hb).1⟩⟩
  rw[Int.mul_one]
 done:=by
  intro X hP hw hK hc i pins s σ H E I hf st hg
  subst hP hw hK
  obtain⟨f0,f1,f2,f3,f4,f5⟩:=hf it (by simp)
  exact wpAny_pyNext_range_end (I.ok.hd hc) st (by have:n<=i:=hg; omega) λh' eb=>⟨rfl,I.turned (t':=s.toks) (λb o hb e=>eb b o hb e) f0 f1 f3 f4 f5⟩
 self:=λ_ _ _ _ _ st h=>wpAny_pyIter_rangeiter st h
end L2
namespace L2
open PySem PySem.Spec PyProof.Rows
section
variable {X:Cx}{tg:Expr}
def Mt(K:FZ)(tl:TE):TI:=λσ H R=>tl σ H λx H1=>∃a,x=.ref a/\(∃xs,bw K H1 a xs)/\R (pB K a) H1
def Mv(K:FZ)(tl:TE):TI:=λσ H R=>tl σ H λx H1=>∃a,x=.ref a/\(∃xs,c7 K H1 a xs)/\R (Eo K a) H1
theorem VF{l:Expr}{tl:TE}(hl:PE X l tl):PI X tg l (Mt X.K tl):=by
 intro pins s σ H R I h
 refine bh (hl pins s σ H _ I h) λv s1 ⟨x,H1,I1,r1,q1⟩=>?_
 obtain⟨a,e,⟨xs,hq⟩,q⟩:=q1
 subst e
 cases r1
 obtain⟨its,rv,p,hz⟩:=I1.list hq
 refine wpAny_pyIter_list p.isList ?_
 refine⟨s1.heap.objs.size,[s1.heap.objs.size],_,_,H1,rfl,I1.kept (t':=s1.toks) λb o e=>Heap.get?_push_of_some _ e,Vz a _,⟨_,Heap.get?_push_size _ rfl,rfl,rfl⟩,λb hb=>?_,q⟩
 have e:b=s1.heap.objs.size:=by simpa using hb
 subst e
 exact I1.nA (Nat.le_refl _) (I1.hok.fresh (Nat.le_refl _))
theorem VG{l:Expr}{tl:TE}(hl:PE X l tl):PI X tg l (Mv X.K tl):=by
 intro pins s σ H R I h
 refine bh (hl pins s σ H _ I h) λv s1 ⟨x,H1,I1,r1,q1⟩=>?_
 obtain⟨a,e,⟨xs,hq⟩,q⟩:=q1
 subst e
 cases r1
 obtain⟨its,rv,p,hz⟩:=I1.tuple hq
 refine wpAny_pyIter_tuple (show s1.heap.IsTuple a its.toArray from p) ?_
 refine⟨s1.heap.objs.size,[s1.heap.objs.size],_,_,H1,rfl,I1.kept (t':=s1.toks) λb o e=>Heap.get?_push_of_some _ e,VB a _,⟨_,Heap.get?_push_size _ rfl,rfl,rfl⟩,λb hb=>?_,q⟩
 have e:b=s1.heap.objs.size:=by simpa using hb
 subst e
 exact I1.nA (Nat.le_refl _) (I1.hok.fresh (Nat.le_refl _))
theorem VH{pins:List (Addr × Obj)}{σ : St}{H:Hp}{s:Shared}{R:It->Hp->Prop}{E:Value->Shared->Prop}{lo hi:Int}{t u v:Tok}{tk:Nat}(I:Inv X pins σ H s)(h1 : -(2 ^ 62)<=lo)(h2:lo<2 ^ 62)(h3 : -(2 ^ 62)<=hi)(h4:hi<2 ^ 62)
  (q:R (zK lo (hi-lo).toNat) H):wpAny (model X.prog X.w) X.A (pyIter (.ref s.heap.objs.size)) (PIE X pins σ tg R) E {s with heap:=s.heap.push {cls:=.type "range",data:=.fields #[.int lo t,.int hi u,.int 1 v] },toks:=tk }:=by
 refine wpAny_pyIter_range (IsRange.new ..) (small_one h1 h2 h3 h4) ?_
 have I1:Inv X pins σ H {s with heap:=s.heap.push {cls:=.type "range",data:=.fields #[.int lo t,.int hi u,.int 1 v] },toks:=tk }:=I.kept λb o e=>Heap.get?_push_of_some _ e
 refine⟨(s.heap.push {cls:=.type "range",data:=.fields #[.int lo t,.int hi u,.int 1 v] }).objs.size,[(s.heap.push {cls:=.type "range",data:=.fields #[.int lo t,.int hi u,.int 1 v] }).objs.size],_,_,H,rfl,
  I1.kept (t':=tk) λb o e=>Heap.get?_push_of_some _ e,VD _ lo (hi-lo).toNat,?_,λb hb=>?_,q⟩
 ·have e1:lo+((0:Nat):Int)*1=lo:=by simp
  have e2:(((hi-lo).toNat:Nat):Int)-((0:Nat):Int)=Builtin.Range.rangeSize lo hi 1:=by rw[rangeSize_one]; split <;> omega
  show IsRangeIter _ _ (lo+((0:Nat):Int)*1) ((((hi-lo).toNat:Nat):Int)-((0:Nat):Int)) 1
  rw[e1,e2]
  exact Heap.get?_push_size _ rfl
 ·have e:b=(s.heap.push {cls:=.type "range",data:=.fields #[.int lo t,.int hi u,.int 1 v] }).objs.size:=by simpa using hb
  subst e
  exact I1.nA (Nat.le_refl _) (I1.hok.fresh (Nat.le_refl _))
def Ep(ta:TA):TI:=λσ H R=>ta σ H λvs H1=>∃j:Int,vs=[.int j] /\ -(2 ^ 62)<=j/\j<2 ^ 62/\R (zK 0 j.toNat) H1
theorem VJ{a:Expr}{ta:TA}{p pos:Pos}(hg:Gl X "range") (hm:X.mg "range" = none) (ha:PA X [a] ta) (hs:starEach [a] X.env=[(false,eval a X.env)]:=by rfl):PI X tg (.Call (.Name "range" p) [a] [] pos) (Ep ta):=by
 intro pins s σ H R I h
 refine Call_ (qF I hg hm boot_range (PyProof.Rows.callWith_type1 (bh (ha pos pins s σ H _ I h) λus s1 ⟨vs,H1,I1,r1,q1⟩=>?_) hs rfl))
 obtain⟨j,e,q1,q2,q⟩:=q1
 subst e
 cases r1 with
 |cons r rr =>
  cases rr
  obtain⟨t,rfl⟩:=r
  exact call_range_1 (VH I1 (by omega) (by omega) q1 q2 (by simpa using q))
noncomputable def wI(wi:TI)(g:TG)(tb:TS):TS:=λD σ H=>wi σ H λJ H1=>∃W:Nat->Nat->St->Hp->Prop,(∃m,W 0 m σ H1)/\∀i m σ H,W i m σ H ->
 (J.stop i H/\D.nx σ H)\/(J.go i H/\∃N:St->Hp->Prop,(∀σ' H',N σ' H'->∃m',m'<m/\W (i+1) m' σ' H')/\∀x H',J.lY i H x H'->g x σ H' λσ2 H2=>tb {D with nx:=N,ct:=N,bk:=D.nx } σ2 H2)
def zL(fp:List Addr)(h:Heap):List (Addr × Obj):=fp.filterMap λb=>(h.get? b).map λo=>(b,o)
theorem qI{fp:List Addr}{h:Heap}{b:Addr}{o:Obj}(hb:b∈fp)(e:h.get? b=some o):(b,o)∈zL fp h:=List.mem_filterMap.mpr ⟨b,hb,by rw[e]; rfl⟩
theorem VL{fp:List Addr}{h:Heap}{p:Addr × Obj}(hp:p∈zL fp h):p.1∈fp/\h.get? p.1=some p.2:=by
 obtain⟨b,hb,e⟩:=List.mem_filterMap.mp hp
 cases q:h.get? b with
 |none=>rw[q]at e; cases e
 |some o =>
  rw[q]at e
  have e':(b,o)=p:=Option.some.inj e
  subst e'
  exact⟨hb,q⟩
theorem Inv.pinned{pins:List (Addr × Obj)}{σ : St}{H:Hp}{s:Shared}{fp:List Addr}(I:Inv X pins σ H s)(hf:∀b∈fp,dN X pins H b)(ho:∀b∈fp,∃o,s.heap.get? b=some o/\∀v,o.data ≠ .cell v):Inv X (pins++zL fp s.heap) σ H s :=
 I.zE λp hp=>(List.mem_append.mp hp).elim (λz=>I.pin p (List.mem_append_right _ z)) λz=>by
  obtain⟨hb,e⟩:=VL z
  obtain⟨f0,f1,f2,_⟩:=hf p.1 hb
  obtain⟨o,e',d⟩:=ho p.1 hb
  rw[e]at e'; cases e'
  exact⟨e,f0,f1,f2,d⟩
theorem Inv.uM{pins pl:List (Addr × Obj)}{σ : St}{H:Hp}{s:Shared}(I:Inv X (pins++pl) σ H s):Inv X pins σ H s:=I.zE λp hp=>I.pin p (List.mem_append_right _ (List.mem_append_left _ hp))
theorem iI{iter:Expr}{body:List Stmt}{wi:TI}{g:TG}{tb:TS}{pos:Pos}(hp:PassesOwn (model X.prog X.w) X.A X.env X.xe)(hc:X.calm=true)(hi:PI X tg iter wi)(hg:PG X tg g)(hb:jc X body tb)
  (hs:∀x,foldedSetIterable iter X.env x=pure x:=by intro _; rfl):PS X (.For tg iter body [] pos) (wI wi g tb):=by
 refine⟨λpins s σ H D I h=>?_⟩
 refine wpAny_For (bh (hi pins s σ H _ I h) λv s1 h1=>bh h1 λitv s2 h2=>?_) hs
 obtain⟨it,fp,tn,J,H2,e,I2,T,st2,f2,W,⟨m0,w0⟩,turn⟩:=h2
 subst e
 -- what stays true of the iterator's objects through the loop
 have stat:∀{H':Hp},(∀b∈fp,H' b=none)->∀b∈fp,dN X pins H' b:=λhn b hb=>⟨hn b hb,(f2 b hb).2⟩
 refine codeAny_forLoop_any (λn s'=>∃i σ' H',Inv X pins σ' H' s'/\tn i s'.heap/\(∀b∈fp,H' b=none)/\W i n σ' H') ?_ m0 ⟨0,σ,H2,I2,st2,λb hb=>(f2 b hb).1,w0⟩
 rintro n s3 ⟨i,σ3,H3,I3,st3,Mw,w3⟩
 rcases turn i n σ3 H3 w3 with⟨stop,qn⟩|⟨go,N,hN,step⟩
 ·refine wpAny_passesOwn hp (bh (T.done X rfl rfl rfl hc i pins s3 σ3 H3 X.xe I3 (stat Mw) st3 stop) λr s4 ⟨hr,I4⟩=>?_)
  subst hr
  exact wpAny_execs_nil ⟨σ3,H3,I4,qn⟩
 ·refine wpAny_passesOwn hp (bh (T.item X rfl rfl rfl hc i pins s3 σ3 H3 X.xe I3 (stat Mw) st3 go) λr s4 ⟨u,hr,h4⟩=>?_)
  subst hr
  refine wpAny_passesOwn hp (bh h4 λ_ s5 ⟨x,H5,I5,r5,y5,gD,sH⟩=>?_)
  have VN:=I5.pinned (stat sH) (T.obj _ _ gD)
  refine wpAny_passesOwn hp (bh (hg _ s5 σ3 H5 x u _ VN r5 (step x H5 y5)) λ_ s6 ⟨σ6,H6,I6,q6⟩=>?_)
  refine wpAny_passesOwn hp (bh (hb _ s6 σ6 H6 _ I6 q6) λf s7 q7=>?_)
  have again:∀{σ7:St} {H7:Hp},Inv X (pins++zL fp s5.heap) σ7 H7 s7->N σ7 H7->∃m,m<n/\∃i σ' H',Inv X pins σ' H' s7/\tn i s7.heap/\(∀b∈fp,H' b=none)/\W i m σ' H':=λ{σ7 H7} I7 n7=>by
   obtain⟨m',hm,w7⟩:=hN σ7 H7 n7
   refine⟨m',hm,i+1,σ7,H7,I7.uM,T.keep _ _ _ gD λb hb o e=>(I7.pin (b,o) (List.mem_append_right _ (List.mem_append_right _ (qI hb e)))).1,λb hb=>?_,w7⟩
   obtain⟨o,e,d⟩:=T.obj _ _ gD b hb
   exact(I7.pin (b,o) (List.mem_append_right _ (List.mem_append_right _ (qI hb e)))).2.1
  cases f with
  |next=>obtain⟨σ7,H7,I7,n7⟩:=q7; exact again I7 n7
  |cont=>obtain⟨σ7,H7,I7,n7⟩:=q7; exact again I7 n7
  |brk=>obtain⟨σ7,H7,I7,q7⟩:=q7; exact⟨σ7,H7,I7.uM,q7⟩
  |ret v=>obtain⟨x7,σ7,H7,I7,r7,q7⟩:=q7; exact⟨x7,σ7,H7,I7.uM,r7,q7⟩
end
theorem VP{K:FZ}{a:Addr}{xs:List V}{g:TG}{tb:TS}{D:Ends}{σ : St}{H:Hp}(Pv:Nat->St->Hp->Prop)(h0:Pv 0 σ H)(hl:∀i σ H,i<=xs.length->Pv i σ H->bw K H a xs)
  (hs:∀i x σ H,xs[i]?=some x->Pv i σ H->g x σ H λσ2 H2=>tb {D with nx:=Pv (i+1),ct:=Pv (i+1),bk:=D.nx } σ2 H2) (hd:∀σ H,Pv xs.length σ H->D.nx σ H) :
  ∃W:Nat->Nat->St->Hp->Prop,(∃m,W 0 m σ H)/\∀i m σ H,W i m σ H ->
   ((pB K a).stop i H/\D.nx σ H)\/((pB K a).go i H/\∃N:St->Hp->Prop,(∀σ' H',N σ' H'->∃m',m'<m/\W (i+1) m' σ' H')/\∀x H',(pB K a).lY i H x H'->g x σ H' λσ2 H2=>tb {D with nx:=N,ct:=N,bk:=D.nx } σ2 H2):=by
 refine⟨λi m σ H=>m=xs.length-i/\i<=xs.length/\Pv i σ H,⟨xs.length,by simp,Nat.zero_le _,h0⟩,?_⟩
 rintro i m σ H ⟨rfl,hi,p⟩
 have q:=hl i σ H hi p
 by_cases hlt:i<xs.length
 ·refine .inr ⟨⟨xs,xs[i],q,by simp[hlt]⟩,Pv (i+1),λσ' H' p'=>⟨xs.length-(i+1),by omega,rfl,hlt,p'⟩,λx H' y=>?_⟩
  obtain⟨e,y⟩:=y
  subst e
  exact hs i x σ _ (y xs q) p
 ·have e:i=xs.length:=by omega
  subst e
  exact .inl ⟨⟨xs,q,Nat.le_refl _⟩,hd σ H p⟩
end L2
namespace L2
open PySem PySem.Spec PyProof.Rows
abbrev R2:=V->V->Hp->VK->Prop
noncomputable def cH(X:Cx)(f:Value->Value->Sem Value)(r:R2):Prop :=
 ∀(pins:List (Addr × Obj)) (s:Shared) (σ : St) (H:Hp) (x y:V) (v u:Value) (Q:VK),Inv X pins σ H s->RelV x v->RelV y u->r x y H Q ->
  wpAny (model X.prog X.w) X.A (f v u) (EP X pins σ Q) X.xe s
def Er(X:Cx)(f:Value->Sem Value)(r:V->Hp->VK->Prop):Prop :=
 ∀(pins:List (Addr × Obj)) (s:Shared) (σ : St) (H:Hp) (x:V) (v:Value) (Q:VK),Inv X pins σ H s->RelV x v->r x H Q ->
  wpAny (model X.prog X.w) X.A (f v) (EP X pins σ Q) X.xe s
noncomputable def iJ(X:Cx)(f:Value)(r:List V->Hp->VK->Prop):Prop :=
 ∀(pins:List (Addr × Obj)) (s:Shared) (σ : St) (H:Hp) (xs:List V) (us:List Value) (Q:VK),Inv X pins σ H s->Vals xs us->r xs H Q ->
  wpAny (model X.prog X.w) X.A (call f us) (EP X pins σ Q) X.xe s
noncomputable def V0(X:Cx)(r:V->Hp->(Bool->Hp->Prop)->Prop):Prop :=
 ∀(pins:List (Addr × Obj)) (s:Shared) (σ : St) (H:Hp) (x:V) (v:Value) (Q:Bool->Hp->Prop),Inv X pins σ H s->RelV x v->r x H Q ->
  wpAny (model X.prog X.w) X.A (truthy v) (TP X pins σ Q) X.xe s
def eU(r:R2)(ta tb:TE):TE:=λσ H Q=>ta σ H λx H1=>tb σ H1 λy H2=>r x y H2 Q
def Mx(r:V->Hp->VK->Prop)(ta:TE):TE:=λσ H Q=>ta σ H λx H1=>r x H1 Q
def rI(C:Int->Int->Prop)(g:Int->Int->V):R2:=λx y H Q=>∃i j,x=.int i/\y=.int j/\C i j/\Q (g i j) H
def iw(g:Int->Int->V):R2:=λx y H Q=>∃i j,x=.int i/\y=.int j/\Q (g i j) H
def rU(g:Int->V):V->Hp->VK->Prop:=λx H Q=>∃i,x=.int i/\Q (g i) H
section
variable {X:Cx}{a b c:Expr}{ta tb tc:TE}{pos:Pos}
theorem Es(ha:PE X a ta)(hb:PE X b tb){pins:List (Addr × Obj)}{s:Shared}{σ : St}{H:Hp}{R:V->V->Hp->Prop}(I:Inv X pins σ H s)
  (h:ta σ H λx H1=>tb σ H1 λy H2=>R x y H2) {Q:Value->Shared->Prop} {f:Value->Value->Sem Value}
  (hf:∀v u s2 x y H2,Inv X pins σ H2 s2->RelV x v->RelV y u->R x y H2->wpAny (model X.prog X.w) X.A (f v u) Q X.xe s2) :
  wpAny (model X.prog X.w) X.A (eval a X.env) (λv s₁=>wpAny (model X.prog X.w) X.A (eval b X.env) (λu s₂=>wpAny (model X.prog X.w) X.A (f v u) Q X.xe s₂) X.xe s₁) X.xe s:=by
 refine bh (ha pins s σ H _ I h) λv s1 ⟨x,H1,I1,r1,q1⟩=>?_
 refine bh (hb pins s1 σ H1 _ I1 q1) λu s2 ⟨y,H2,I2,r2,q2⟩=>?_
 exact hf v u s2 x y H2 I2 r1 r2 q2
theorem bK{op:Operator}{r:R2}(ho:cH X (binaryOp op) r)(ha:PE X a ta)(hb:PE X b tb):PE X (.BinOp a op b pos) (eU r ta tb):=by
 refine⟨λpins s σ H Q I h=>?_⟩
 exact wpAny_BinOp (Es ha hb I h λv u s2 x y H2 I2 rx ry q=>ho pins s2 σ H2 x y v u Q I2 rx ry q)
theorem Mz{op:UnaryOp}{r:V->Hp->VK->Prop}(ho:Er X (unaryOp op) r)(ha:PE X a ta):PE X (.UnaryOp op a pos) (Mx r ta):=by
 refine⟨λpins s σ H Q I h=>?_⟩
 exact UnaryOp_ (bh (ha pins s σ H _ I h) λv s1 ⟨x,H1,I1,r1,q1⟩=>ho pins s1 σ H1 x v Q I1 r1 q1)
theorem zM{f:Value->Value->Sem Value}{C:Int->Int->Prop}{g:Int->Int->Int}
  (rule:∀(i j:Int) (t u:Tok) (s:Shared) (Q:Value->Shared->Prop) (E:Value->Shared->Prop),C i j->Q (.int (g i j) s.toks) {s with toks:=s.toks+1 }->wpAny (model X.prog X.w) X.A (f (.int i t) (.int j u)) Q E s) :
  cH X f (rI C λi j=>.int (g i j)):=by
 intro pins s σ H x y v u Q I rx ry h
 obtain⟨i,j,rfl,rfl,hc,q⟩:=h
 obtain⟨t,rfl⟩:=rx
 obtain⟨t',rfl⟩:=ry
 exact rule i j t t' s _ _ hc ⟨.int (g i j),H,I.tok _,⟨_,rfl⟩,q⟩
theorem MF{f:Value->Value->Sem Value}{g:Int->Int->Int}
  (rule:∀(i j:Int) (t u:Tok) (s:Shared) (Q:Value->Shared->Prop) (E:Value->Shared->Prop),Q (.int (g i j) s.toks) {s with toks:=s.toks+1 }->wpAny (model X.prog X.w) X.A (f (.int i t) (.int j u)) Q E s) :
  cH X f (iw λi j=>.int (g i j)):=by
 intro pins s σ H x y v u Q I rx ry h
 obtain⟨i,j,rfl,rfl,q⟩:=h
 obtain⟨t,rfl⟩:=rx
 obtain⟨t',rfl⟩:=ry
 exact rule i j t t' s _ _ ⟨.int (g i j),H,I.tok _,⟨_,rfl⟩,q⟩
theorem zN{f:Value->Value->Sem Value}{g:Int->Int->Bool}
  (rule:∀(i j:Int) (t u:Tok) (s:Shared) (Q:Value->Shared->Prop) (E:Value->Shared->Prop),Q (.bool (g i j)) s->wpAny (model X.prog X.w) X.A (f (.int i t) (.int j u)) Q E s) :
  cH X f (iw λi j=>.bl (g i j)):=by
 intro pins s σ H x y v u Q I rx ry h
 obtain⟨i,j,rfl,rfl,q⟩:=h
 obtain⟨t,rfl⟩:=rx
 obtain⟨t',rfl⟩:=ry
 exact rule i j t t' s _ _ ⟨.bl (g i j),H,I,rfl,q⟩
def Et(i j:Int):Prop:=0<=j/\j<=1000000/\i.natAbs<2 ^ 64
theorem MJ:cH X (binaryOp .Add) (iw λi j=>.int (i+j)):=MF λ_ _ _ _ _ _ _ q=>add_int q
theorem Eu:cH X (binaryOp .Sub) (iw λi j=>.int (i-j)):=MF λ_ _ _ _ _ _ _ q=>sub_int q
theorem jB:cH X (binaryOp .Mod) (rI (λ_ j=>j≠0) λi j=>.int (i.fmod j)):=zM λ_ _ _ _ _ _ _ hc q=>mod_int' hc q
theorem zO:cH X (binaryOp .Pow) (rI Et λi j=>.int (i ^ j.toNat)):=zM λ_ _ _ _ _ _ _ hc q=>pow_int_small hc.1 hc.2.1 hc.2.2 q
theorem V1{f:Value->Sem Value}{g:Int->Int}
  (rule:∀(i:Int) (t:Tok) (s:Shared) (Q:Value->Shared->Prop) (E:Value->Shared->Prop),Q (.int (g i) s.toks) {s with toks:=s.toks+1 }->wpAny (model X.prog X.w) X.A (f (.int i t)) Q E s) :
  Er X f (rU λi=>.int (g i)):=by
 intro pins s σ H x v Q I rx h
 obtain⟨i,rfl,q⟩:=h
 obtain⟨t,rfl⟩:=rx
 exact rule i t s _ _ ⟨.int (g i),H,I.tok _,⟨_,rfl⟩,q⟩
theorem MK:Er X (unaryOp .USub) (rU λi=>.int (-i)):=V1 λ_ _ _ _ _ q=>neg_int q
end
section
variable {X:Cx}{a b c:Expr}{ta tb tc:TE}{pos:Pos}
theorem V2:cH X (compareOp .Lt) (iw λi j=>.bl (decide (i<j))):=zN λ_ _ _ _ _ _ _ q=>lt_int q
theorem pC:cH X (compareOp .LtE) (iw λi j=>.bl (decide (i<=j))):=zN λ_ _ _ _ _ _ _ q=>le_int q
theorem Ew:cH X (compareOp .Gt) (iw λi j=>.bl (decide (j<i))):=zN λ_ _ _ _ _ _ _ q=>gt_int q
theorem MN:cH X (compareOp .GtE) (iw λi j=>.bl (decide (j<=i))):=zN λ_ _ _ _ _ _ _ q=>ge_int q
theorem cH.or{f:Value->Value->Sem Value}{r r':R2}(h:cH X f r)(h':cH X f r'):cH X f (λx y H Q=>r x y H Q\/r' x y H Q):=by
 intro pins s σ H x y v u Q I rx ry q
 rcases q with q|q
 ·exact h pins s σ H x y v u Q I rx ry q
 ·exact h' pins s σ H x y v u Q I rx ry q
theorem fP(b:Expr){op:CmpOp}(h:op ≠ .In:=by decide)(h2:op ≠ .NotIn:=by decide):behindInMarks op b=false:=by
 have e1:(op == CmpOp.In)=false:=by cases op <;> first|rfl|exact absurd rfl h
 have e2:(op == CmpOp.NotIn)=false:=by cases op <;> first|rfl|exact absurd rfl h2
 cases b <;> simp[behindInMarks,e1,e2]
theorem pF{op:CmpOp}{r:R2}(ho:cH X (compareOp op) r)(ha:PE X a ta)(hb:PE X b tb)(hm:behindInMarks op b=false):PE X (.Compare a [op] [b] pos) (eU r ta tb):=by
 refine⟨λpins s σ H Q I h=>?_⟩
 exact wpAny_Compare1 (Es ha hb I h λv u s2 x y H2 I2 rx ry q=>ho pins s2 σ H2 x y v u Q I2 rx ry q) hm
def Ey(t:TE):TT:=λσ H Q=>t σ H λx H'=>∃k,x=.bl k/\Q k H'
theorem gU{op:CmpOp}{r:R2}(ho:cH X (compareOp op) r)(ha:PE X a ta)(hb:PE X b tb)(hm:behindInMarks op b=false):PT X (.Compare a [op] [b] pos) (Ey (eU r ta tb)):=by
 refine⟨λpins s σ H Q I h=>?_⟩
 refine wpAny_isTrue_Compare1 (bh (ha pins s σ H _ I h) λv s1 ⟨x,H1,I1,r1,q1⟩=>bh (hb pins s1 σ H1 _ I1 q1) λu s2 ⟨y,H2,I2,r2,q2⟩ =>
  bh (ho pins s2 σ H2 x y v u _ I2 r1 r2 q2) λc s3 ⟨z,H3,I3,r3,k,e,q3⟩=>?_) hm
 subst e
 cases r3
 exact wpAny_truthy_bool ⟨H3,I3,q3⟩
def zQ(r r':R2)(ta tb tc:TE):TE:=λσ H Q=>ta σ H λx H1=>tb σ H1 λy H2=>r x y H2 λz H3=>∃k,z=.bl k /\
 (if k=true then tc σ H3 λw' H4=>r' y w' H4 Q else Q (.bl false) H3)
theorem Ez{op op':CmpOp}{r r':R2}(ho:cH X (compareOp op) r)(ho':cH X (compareOp op') r')(ha:PE X a ta)(hb:PE X b tb)(hc:PE X c tc)
  (hm:lastMarks [op,op'] [b,c]=false:=by with_unfolding_all rfl):PE X (.Compare a [op,op'] [b,c] pos) (zQ r r' ta tb tc):=by
 refine⟨λpins s σ H Q I h=>?_⟩
 refine Compare_chain (bh (ha pins s σ H _ I h) λv s1 ⟨x,H1,I1,r1,q1⟩=>chain_link (bh (hb pins s1 σ H1 _ I1 q1) λu s2 ⟨y,H2,I2,r2,q2⟩ =>
  bh (ho pins s2 σ H2 x y v u _ I2 r1 r2 q2) λd s3 ⟨z,H3,I3,r3,k,e,q3⟩=>?_)) hm
 subst e
 cases r3
 refine wpAny_truthy_bool ?_
 cases k with
 |false=>exact ite_ff ⟨.bl false,H3,I3,rfl,q3⟩
 |true=>exact ite_tt (chain_last (bh (hc pins s3 σ H3 _ I3 q3) λw' s4 ⟨z',H4,I4,r4,q4⟩=>ho' pins s4 σ H4 y z' u w' Q I4 r2 r4 q4))
theorem MP{op op':CmpOp}{r r':R2}(ho:cH X (compareOp op) r)(ho':cH X (compareOp op') r')(ha:PE X a ta)(hb:PE X b tb)(hc:PE X c tc)
  (hm:lastMarks [op,op'] [b,c]=false:=by with_unfolding_all rfl):PT X (.Compare a [op,op'] [b,c] pos) (Ey (zQ r r' ta tb tc)):=by
 refine⟨λpins s σ H Q I h=>?_⟩
 refine isTrue_chain (bh (ha pins s σ H _ I h) λv s1 ⟨x,H1,I1,r1,q1⟩=>test_link (bh (hb pins s1 σ H1 _ I1 q1) λu s2 ⟨y,H2,I2,r2,q2⟩ =>
  bh (ho pins s2 σ H2 x y v u _ I2 r1 r2 q2) λd s3 ⟨z,H3,I3,r3,k,e,q3⟩=>?_)) hm
 subst e
 cases r3
 refine wpAny_truthy_bool ?_
 cases k with
 |false =>
  obtain⟨k',e',q'⟩:=q3
  cases e'
  exact ite_ff ⟨H3,I3,q'⟩
 |true =>
  refine ite_tt (test_last (bh (hc pins s3 σ H3 _ I3 q3) λw' s4 ⟨z',H4,I4,r4,q4⟩=>bh (ho' pins s4 σ H4 y z' u w' _ I4 r2 r4 q4) λd' s5 ⟨z2,H5,I5,r5,k2,e2,q5⟩=>?_))
  subst e2
  cases r5
  exact wpAny_truthy_bool ⟨H5,I5,q5⟩
noncomputable def uN(K:FZ)(x:V)(H:Hp)(k:Bool):Prop :=
 match x with
 |.non=>k=false
 |.bl b=>k=b
 |.int i=>k=(i != 0)
 |.str y=>y.length<=sizeLine/\k=((y.length:Int) != 0)
 |.wC y=>y.size<=sizeLine/\k=((y.size:Int) != 0)
 |.ref p=>(∃xs,bw K H p xs/\k = !xs.isEmpty)\/(∃xs,c7 K H p xs/\k = !xs.isEmpty)\/∃kvs,H p=some (.dK kvs)/\k = !kvs.isEmpty
 |_=>False
theorem V3{κ : Type}{kvs:List (κ × V)}{vs:List (κ × Value)}(r:KV kvs vs):(!vs.isEmpty) = !kvs.isEmpty:=by
 cases r <;> rfl
theorem M4{xs:List V}{its:List Value}(r:Vals xs its):(!its.toArray.isEmpty) = !xs.isEmpty:=by
 cases r <;> simp
theorem sI:(sizeLine:Nat)<2 ^ 63:=by rw[sizeLine_eq]; decide
theorem V4:V0 X (λx H Q=>∃k,uN X.K x H k/\Q k H):=by
 intro pins s σ H x v Q I rx h
 obtain⟨k,e,q⟩:=h
 have hl:=sI
 have hs:sizeLine=16777216:=sizeLine_eq
 cases x with
 |non =>
  cases rx
  have e':k=false:=e
  subst e'
  exact truthy_none ⟨H,I,q⟩
 |bl b =>
  cases rx
  have e':k=b:=e
  subst e'
  exact wpAny_truthy_bool ⟨H,I,q⟩
 |int i =>
  obtain⟨t,rfl⟩:=rx
  have e':k=(i != 0):=e
  subst e'
  exact PySem.P.truthy_int ⟨H,I,q⟩
 |str y =>
  obtain⟨t,rfl⟩:=rx
  obtain⟨hy,e'⟩:y.length<=sizeLine/\k=((y.length:Int) != 0):=e
  subst e'
  exact PySem.P.truthy_str (by omega) ⟨H,I.tok _,q⟩
 |wC y =>
  obtain⟨t,rfl⟩:=rx
  obtain⟨hy,e'⟩:y.size<=sizeLine/\k=((y.size:Int) != 0):=e
  subst e'
  exact PySem.W.truthy_bytes (by omega) ⟨H,I.tok _,q⟩
 |ref p =>
  cases rx
  have e':(∃xs,bw X.K H p xs/\k = !xs.isEmpty)\/(∃xs,c7 X.K H p xs/\k = !xs.isEmpty)\/∃kvs,H p=some (.dK kvs)/\k = !kvs.isEmpty:=e
  rcases e' with⟨xs,hx,e'⟩|⟨xs,hx,e'⟩|⟨kvs,hx,e'⟩
  ·subst e'
   obtain⟨its,r,pl,hz⟩:=I.list hx
   have hlen:=r.length
   exact wpAny_truthy_list pl.isList (by simp only[List.size_toArray]; omega) ⟨H,I.tok _,by rw[M4 r]; exact q⟩
  ·subst e'
   obtain⟨its,r,pl,hz⟩:=I.tuple hx
   have hlen:=r.length
   exact truthy_tuple pl (by simp only[List.size_toArray]; omega) ⟨H,I.tok _,by rw[M4 r]; exact q⟩
  ·subst e'
   obtain⟨hz,hS,vs,r,m⟩:kvs.length<=sizeLine/\(p == sysModules)=false/\∃vs,KV kvs vs/\s.heap.DictOf (Ea X.prog X.w) p vs:=I.hok p _ hx
   have hlen:kvs.length=vs.length:=Paired.length r
   exact wpAny_truthy_dict hS m (by omega) ⟨H,I.tok _,by rw[V3 r]; exact q⟩
 |_=>exact(show False from e).elim
theorem jf(ha:PE X a ta)(he:∀whole,isTrue a X.env whole=(do let v <-whole; standAt a.pos; holding [v] (truthy v))) :
  PT X a (λσ H Q=>ta σ H λx H'=>∃k,uN X.K x H' k/\Q k H'):=by
 refine⟨λpins s σ H Q I h=>?_⟩
 exact isTrue_plain (bh (ha pins s σ H _ I h) λv s1 ⟨x,H1,I1,r1,q1⟩=>V4 pins s1 σ H1 x v Q I1 r1 q1) (he _)
theorem V5:cH X (binaryOp .Add) (λx y H Q=>∃i j,x=.str i/\y=.str j/\i.length+j.length<=sizeLine/\Q (.str (i++j)) H):=by
 intro pins s σ H x y v u Q I rx ry h
 obtain⟨i,j,rfl,rfl,hz,q⟩:=h
 obtain⟨t,rfl⟩:=rx
 obtain⟨t',rfl⟩:=ry
 exact add_str (λt' tk=>⟨.str (i++j),H,I.tok _,⟨_,rfl⟩,q⟩) hz
theorem vals1{x:V}{us:List Value}(r:Vals [x] us):∃u,us=[u]/\RelV x u:=by
 cases r with
 |cons r1 r2=>cases r2; exact⟨_,rfl,r1⟩
theorem vals2{x y:V}{us:List Value}(r:Vals [x,y] us):∃u w',us=[u,w']/\RelV x u/\RelV y w':=by
 cases r with
 |cons r1 r2 =>
  cases r2 with
  |cons r3 r4=>cases r4; exact⟨_,_,rfl,r1,r3⟩
theorem EY:iJ X (.builtin "abs") (λxs H Q=>∃i,xs=[.int i]/\Q (.int (if i<0 then -i else i)) H):=by
 intro pins s σ H xs us Q I r h
 obtain⟨i,rfl,q⟩:=h
 obtain⟨u,rfl,t,rfl⟩:=vals1 r
 exact call_abs_int λu tk=>⟨.int (if i<0 then -i else i),H,I.tok _,⟨_,rfl⟩,q⟩
theorem M5:iJ X (.type "int") (λxs H Q=>(∃i,xs=[.int i]/\Q (.int i) H)\/∃k,xs=[.bl k]/\Q (.int (if k then 1 else 0)) H):=by
 intro pins s σ H xs us Q I r h
 rcases h with⟨i,rfl,q⟩|⟨k,rfl,q⟩
 ·obtain⟨u,rfl,t,rfl⟩:=vals1 r
  exact call_int_int ⟨.int i,H,I,⟨_,rfl⟩,q⟩
 ·obtain⟨u,rfl,r1⟩:=vals1 r
  cases r1
  exact call_int_bool ⟨.int (if k then 1 else 0),H,I.tok _,⟨_,rfl⟩,q⟩
end
end L2
namespace L2
open PySem PySem.Spec PyProof.Rows
section
variable {prog:Program}{w:World}{A:Around}{E:Value->Shared->Prop}{s:Shared}{K:FZ}{x dx C f:Addr}{mA:Str->Option Value}{name:Str}{v:Value}
end
section
variable {P:Program}{w:World}{H H':Hp}{h h':Heap}{a C dx:Addr}{fs fs':List (Str × V)}
end
section
variable {X:Cx}{pins:List (Addr × Obj)}{σ : St}{H:Hp}{s:Shared}{a C dx:Addr}{fs:List (Str × V)}{f:Str}{v:V}{A:Around}{E:Value->Shared->Prop}
end
section
variable {X:Cx}{o e value:Expr}{f:Str}{pos pos' tpos:Pos}{ta tv:TE}
end
section
variable {X:Cx}{pins:List (Addr × Obj)}{σ : St}{H:Hp}{s:Shared}{A:Around}{E:Value->Shared->Prop}{Q:Value->Shared->Prop}{c:Value}{b:Bool}
end
end L2
namespace L2
open PySem PySem.Spec PyProof.Rows
structure eV(k:Nat)(A:Around):Prop where
 hd:A.handled=none
 dp:A.depth+3*k+5<recursionLimit
 un:A.units+16*k+200<cLine
 gd:A.guards=some []:=by rfl
theorem eV.mono{j k:Nat}{A:Around}(r:eV k A)(h:j<=k):eV j A:=⟨r.hd,by have:=r.dp; omega,by have:=r.un; omega,r.gd⟩
theorem eV.deeper{k:Nat}{A:Around}(r:eV (k+1) A)(env:Env):eV k (A.deeper env) :=
 ⟨r.hd,by have:=r.dp; show A.depth+1+3*k+5<_; omega,by have:=r.un; show A.units+3+16*k+200<_; omega,r.gd⟩
theorem eV.depth{k:Nat}{A:Around}(r:eV k A):A.depth<recursionLimit:=by have:=r.dp; omega
theorem eV.units{k:Nat}{A:Around}(r:eV k A):A.units+64<cLine:=by have:=r.un; omega
def lZ:TA:=λ_ H Q=>Q [] H
def jq(ta:TE)(tr:TA):TA:=λσ H Q=>ta σ H λx H1=>tr σ H1 λxs H2=>Q (x::xs) H2
section
variable {X:Cx}{e:Expr}{es:List Expr}{te:TE}{t:TA}{pos:Pos}
theorem aM:PA X [] lZ:=⟨λ_ _ _ _ H Q I h=>Calls.spliced_nil ⟨[],H,I,.nil,h⟩⟩
theorem jr(ha:PE X e te)(hr:PA X es t)(hs:starEach (e::es) X.env=(false,eval e X.env)::starEach es X.env:=by rfl):PA X (e::es) (jq te t):=by
 refine⟨λpos pins s σ H Q I h=>?_⟩
 rw[hs]
 show wpAny _ _ (spliced ((false,eval e X.env)::backTo pos (starEach es X.env))) _ _ s
 refine Calls.spliced_cons (bh (ha pins s σ H _ I h) λu s1 ⟨x,H1,I1,r1,q1⟩=>?_)
 exact bh (hr pos pins s1 σ H1 _ I1 q1) λus s2 ⟨xs,H2,I2,r2,q2⟩=>⟨x::xs,H2,I2,.cons r1 r2,q2⟩
def M6(t:TA):TE:=λσ H Q=>t σ H λxs H1=>xs.length<=sizeLine/\∀p,H1 p=none->Q (.ref p) (upd H1 p (.tup xs))
def zR(t:TA):TE:=λσ H Q=>t σ H λxs H1=>xs.length<=sizeLine/\∀p,H1 p=none->Q (.ref p) (upd H1 p (.lst xs))
theorem qJ{x1}(h:PA X es t):PE X (.Tuple es x1 pos) (M6 t):=by
 refine⟨λpins s σ H Q I hq=>?_⟩
 refine wpAny_Tuple_spliced (bh (h pos pins s σ H _ I hq) λus s1 ⟨xs,H1,I1,r,z,q⟩=>⟨by rw[<-r.length]; exact z,?_⟩)
 have hf:H1 s1.heap.objs.size=none:=I1.hok.fresh (Nat.le_refl _)
 refine⟨.ref s1.heap.objs.size,upd H1 s1.heap.objs.size (.tup xs),I1.laid (t':=s1.toks) (λb u e=>Heap.get?_push_of_some _ e) (Nat.le_refl _) ?_,rfl,q _ hf⟩
 exact⟨z,us,r,⟨_,Heap.get?_push_size _ rfl,rfl,_,rfl⟩⟩
theorem jZ(h:PA X es t):PE X (.List es pos) (zR t):=by
 refine⟨λpins s σ H Q I hq=>?_⟩
 refine wpAny_List_spliced (bh (h pos pins s σ H _ I hq) λus s1 ⟨xs,H1,I1,r,z,q⟩=>⟨by rw[<-r.length]; exact z,?_⟩)
 have hf:H1 s1.heap.objs.size=none:=I1.hok.fresh (Nat.le_refl _)
 refine⟨.ref s1.heap.objs.size,upd H1 s1.heap.objs.size (.lst xs),I1.laid (t':=s1.toks) (λb u e=>Heap.get?_push_of_some _ e) (Nat.le_refl _) ?_,rfl,q _ hf⟩
 exact⟨z,us,0,r,Heap.get?_push_size _ rfl⟩
end
abbrev Sp:=List V->Hp->VK->XK->Prop
abbrev jM:=List Env->Hp->Shared->XK->Value->Shared->Prop
structure zT(P:Program)(w:World)(K:FZ)(mg:Str->Option Value)(base:Heap)(A:Around)(outer:List Env)(s:Shared)(H:Hp):Prop where
 frames:A.frames=some outer
 mod:Mod K mg base
 bs:∀b o,base.get? b=some o->s.heap.get? b=some o/\H b=none
 qD:base.objs.size<=s.heap.objs.size
 lu:s.heap.FunFrames base outer
 su:∀b∈frs outer,H b=none
 hok:eH P w H s.heap
 bare:AllBare s.gens
def CE(outer:List Env)(P:Program)(w:World)(H:Hp)(s:Shared)(Q:VK)(u:Value)(s':Shared):Prop :=
 ∃v H',s'.os=s.os/\AllBare s'.gens/\Un (frs outer) [] H H' s.heap s'.heap/\eH P w H' s'.heap/\RelV v u/\Q v H'
def CR(CX:jM)(outer:List Env)(P:Program)(w:World)(H:Hp)(s:Shared)(Q:VK)(E:XK)(r:Result)(s':Shared):Prop :=
 match r with
 |.ok (.ret u)=>CE outer P w H s Q u s'
 |.ok _=>False
 |.error e=>CX outer H s E e s'
structure j4(P:Program)(w:World)(K:FZ)(mg:Str->Option Value)(base:Heap)(CX:jM)(k:Nat)(f:Addr)(fd:FuncData)(ps:List Str)(sp:Sp):Prop where
 len:∀vs H Q E,sp vs H Q E->vs.length=ps.length
 run:∀(A:Around) (outer:List Env) (s:Shared) (H:Hp) (args:Args) (us:List Value) (vs:List V) (Q:VK) (E:XK),eV k A->zT P w K mg base A outer s H->BindsTo s fd args (ps.zip us)->Vals vs us->sp vs H Q E ->
  codeAny (model P w) A (.call (.ref f) args) (CR CX outer P w H s Q E) s
theorem j4.mono{P:Program}{w:World}{K:FZ}{mg:Str->Option Value}{base:Heap}{CX:jM}{j k:Nat}{f:Addr}{fd:FuncData}{ps:List Str}{sp:Sp}(F:j4 P w K mg base CX j f fd ps sp)(h:j<=k) :
  j4 P w K mg base CX k f fd ps sp:=⟨F.len,λA outer s H args us vs Q E hr=>F.run A outer s H args us vs Q E (hr.mono h)⟩
theorem j4.imp{P:Program}{w:World}{K:FZ}{mg:Str->Option Value}{base:Heap}{CX:jM}{k:Nat}{f:Addr}{fd:FuncData}{ps:List Str}{sp M7:Sp}(F:j4 P w K mg base CX k f fd ps sp)
  (h:∀vs H Q E,M7 vs H Q E->sp vs H Q E):j4 P w K mg base CX k f fd ps M7 :=
 ⟨λvs H Q E q=>F.len vs H Q E (h _ _ _ _ q),λA outer s H args us vs Q E hr he hb hv hs=>F.run A outer s H args us vs Q E hr he hb hv (h _ _ _ _ hs)⟩
section
variable {X:Cx}{pins:List (Addr × Obj)}{σ : St}{H:Hp}{s s':Shared}
theorem Inv.env0(I:Inv X pins σ H s):zT X.prog X.w X.K X.mg X.base X.A X.stack s H :=
 ⟨I.ok.frames,I.ok.mod,I.bs,Nat.le_trans I.ok.qD I.sz,I.stack,I.zA,I.hok,I.bare⟩
theorem Inv.after{Q:VK}{u:Value}(I:Inv X pins σ H s)(h:CE X.stack X.prog X.w H s Q u s'):EP X pins σ Q u s':=by
 obtain⟨v,H',os,bare,un,hok,r,q⟩:=h
 obtain⟨hh,g,d,t,os'⟩:=s'
 obtain rfl:os'=s.os:=os
 exact⟨v,H',I.call (h':=hh) (g':=g) (d':=d) (t':=t) (ch:=[]) un hok bare (λb z=>absurd z (by simp)),r,q⟩
end
def nC(sp:Sp)(qK:List V)(E:XK)(t:TA):TE:=λσ H Q=>t σ H λvs H1=>sp (vs++qK) H1 Q E
def Binds(K:FZ)(fd:FuncData)(ps:List Str)(ds:List Value):Prop :=
 ∀(s:Shared) (us:List Value),K.In s.heap->(us++ds).length=ps.length->BindsTo s fd ⟨us,[]⟩ (ps.zip (us++ds))
theorem Binds.all{K:FZ}{fd:FuncData}{ps:List Str}(h:∀us:List Value,us.length=ps.length->bindArgs fd ⟨us,[]⟩=pure (ps.zip us)):Binds K fd ps []:=λs us _ hl=>by
 rw[List.append_nil]at hl ⊢
 exact .of_eq (h us hl)
def Passes(CX:jM)(X:Cx)(E:XK):Prop:=∀(pins:List (Addr × Obj)) (σ : St) (H:Hp) (s:Shared) (e:Value) (s':Shared),Inv X pins σ H s->CX X.stack H s E e s'->X.xe e s'
section
variable {X:Cx}{CX:jM}{k:Nat}{f C:Addr}{fd:FuncData}{ps:List Str}{sp:Sp}{qK:List V}{ds:List Value}{E:XK}{x m:Str}{p pos apos:Pos}{e o:Expr}{es:List Expr}{ta:TE}{t:TA}
theorem V6{pins:List (Addr × Obj)}{σ : St}{H:Hp}{s:Shared}{Q:VK}{us:List Value}{vs:List V}(F:j4 X.prog X.w X.K X.mg X.base CX k f fd ps sp)(hr:eV k X.A)(hb:Binds X.K fd ps ds)(hd:Vals qK ds)(hx:Passes CX X E)
  (I:Inv X pins σ H s) (r:Vals vs us) (h:sp (vs++qK) H Q E):wpAny (model X.prog X.w) X.A (call (.ref f) us) (EP X pins σ Q) X.xe s:=by
 have r2:Vals (vs++qK) (us++ds):=r.append hd
 have hl:(us++ds).length=ps.length:=by rw[<-r2.length]; exact F.len _ _ _ _ h
 refine wpAny_call (codeAny_mono (F.run X.A X.stack s H ⟨us,[]⟩ (us++ds) (vs++qK) Q E hr I.env0 (hb s us I.jK hl) r2 h) λr s' hq=>?_)
 cases r with
 |error e=>exact hx pins σ H s e s' I hq
 |ok fl =>
  cases fl with
  |ret u=>exact I.after hq
  |next=>exact False.elim hq
  |brk=>exact False.elim hq
  |cont=>exact False.elim hq
theorem V7(F:j4 X.prog X.w X.K X.mg X.base CX k f fd ps sp)(hr:eV k X.A)(hg:Gl X x)(hm:X.mg x=some (.ref f))(hk:PySem.W.keepIn X.K (.ref f)=true)(hb:Binds X.K fd ps ds)(hd:Vals qK ds)(hx:Passes CX X E)
  (ha:PA X (e::es) t) (hdb:(x == ("__debug__" : Str))=false:=by decide) (he:starEach (e::es) X.env=(false,eval e X.env)::starEach es X.env:=by rfl) (hpl:(backTo pos (starEach es X.env)).any (·.1)=false:=by rfl) :
  PE X (.Call (.Name x p) (e::es) [] pos) (nC sp qK E t):=by
 refine⟨λpins s σ H Q I h=>?_⟩
 refine wpAny_Call_Name_kw (Ef I hg hm ?_ hdb)
 refine PySem.W.callWith_K (h₀ := X.base) I.ok.mod.Eb hk (bh (ha pos pins s σ H _ I h) λus s1 ⟨vs,H1,I1,r,q⟩=>⟨I1.jK,?_⟩) he hpl
 exact V6 F hr hb hd hx I1 r q
end
section
variable {X:Cx}{CX:jM}{k:Nat}{f C:Addr}{fd:FuncData}{ps ks:List Str}{sp:Sp}{E:XK}{x m:Str}{p pos apos kpos:Pos}{e o:Expr}{es:List Expr}{kws:List Keyword}{te ta:TE}{t tk:TA}{nm:Option Str}
variable {g:List Value->List Value->List Value}{gV:List V->List V->List V}
end
structure pG(N P:List Str)(sc:Scope):Prop where
 kind:sc.kind=.function
 co:sc.isCoroutine=false
 gen:sc.isGenerator=false
 nd:N.Nodup
 pre:N.take P.length=P
 par:∀x∈P,sc.names.lookup x=some .local\/sc.names.lookup x=some .cell
 Fb:∀y∈sc.names,y.2 ≠ .free
theorem M8{kindOf:Str->Option NameKind}{x:Str}:∀{binds:List (Str × Value)} {m:Str->Option Value},(∀v,(x,v)∉binds)->bindL kindOf binds m x=m x
 | [],_,_=>rfl
 |(n,v)::r,m,h=>by
  unfold bindL
  rw[M8 λw hw=>h w (List.mem_cons_of_mem _ hw)]
  split
  ·have:x≠n:=by rintro rfl; exact h v List.mem_cons_self
   simp[this]
  ·rfl
theorem M9{kindOf:Str->Option NameKind}{x:Str}:∀{binds:List (Str × Value)} {m:Str->Option Value},(∀v,(x,v)∉binds)->bindC kindOf binds m x=m x
 | [],_,_=>rfl
 |(n,v)::r,m,h=>by
  unfold bindC
  rw[M9 λw hw=>h w (List.mem_cons_of_mem _ hw)]
  split
  ·rfl
  ·have:x≠n:=by rintro rfl; exact h v List.mem_cons_self
   simp[this]
theorem Nb{kindOf:Str->Option NameKind}{x:Str}{v:Value}:∀{P:List Str} {vs:List Value} {i:Nat} {m:Str->Option Value},P.Nodup->P[i]?=some x->vs[i]?=some v->kindOf x=some .local ->
  bindL kindOf (P.zip vs) m x=some v
 | [],_,_,_,_,h,_,_=>by simp at h
 |_::_,[],_,_,_,_,h,_=>by simp at h
 |p::P,w::vs,0,m,nd,h1,h2,hk=>by
  simp at h1 h2; subst h1; subst h2
  show bindL kindOf ((p,w)::P.zip vs) m p=_
  unfold bindL
  rw[M8 λv hv=>(List.nodup_cons.mp nd).1 (List.of_mem_zip hv).1,if_pos hk]
  simp
 |p::P,w::vs,i+1,m,nd,h1,h2,hk=>by
  show bindL kindOf ((p,w)::P.zip vs) m x=_
  unfold bindL
  exact Nb (i:=i) (List.nodup_cons.mp nd).2 (by simpa using h1) (by simpa using h2) hk
theorem Nf{kindOf:Str->Option NameKind}{x:Str}{v:Value}:∀{P:List Str} {vs:List Value} {i:Nat} {m:Str->Option Value},P.Nodup->P[i]?=some x->vs[i]?=some v->kindOf x≠some .local ->
  bindC kindOf (P.zip vs) m x=some v
 | [],_,_,_,_,h,_,_=>by simp at h
 |_::_,[],_,_,_,_,h,_=>by simp at h
 |p::P,w::vs,0,m,nd,h1,h2,hk=>by
  simp at h1 h2; subst h1; subst h2
  show bindC kindOf ((p,w)::P.zip vs) m p=_
  unfold bindC
  rw[M9 λv hv=>(List.nodup_cons.mp nd).1 (List.of_mem_zip hv).1,if_neg hk]
  simp
 |p::P,w::vs,i+1,m,nd,h1,h2,hk=>by
  show bindC kindOf ((p,w)::P.zip vs) m x=_
  unfold bindC
  exact Nf (i:=i) (List.nodup_cons.mp nd).2 (by simpa using h1) (by simpa using h2) hk
def start(N:List Str)(vs:List V):St:=vs.map some++List.replicate (N.length-vs.length) none
noncomputable def jC(CX:jM)(P:Program)(w:World)(K:FZ)(mg:Str->Option Value)(base:Heap)(N:List Str)(qual:Str)(scope:Scope)(f:Addr)(cd:Value)(A:Around)(outer:List Env)(s:Shared)(H:Hp)(E:XK):Cx where
 prog:=P
 w:=w
 K:=K
 mg:=mg
 base:=base
 A:=A.deeper (envOfC qual scope s.heap.objs.size f cd)
 N:=N
 s₀ := s
 H₀ := H
 env:=envOfC qual scope s.heap.objs.size f cd
 outer:=outer
 stack:=envOfC qual scope s.heap.objs.size f cd::outer
 ex:=[]
 calm:=true
 fn:=λ_=>true
 pn:=[]
 xe:=λe s'=>wpAny (model P w) (A.deeper (envOfC qual scope s.heap.objs.size f cd)) (leaving (envOfC qual scope s.heap.objs.size f cd) e) (λ_ s''=>CX outer H s E e s'') (λe' s''=>CX outer H s E e' s'') s'
theorem Ng{sc:Scope}{n:Nat}{x:Str}(h:sc.names.lookup x=some .cell):∃c,(cellsFrom n sc.names []).lookup x=some c:=by
 have q:=PySem.W.cellsFrom_some sc.names n [] (.inl h)
 exact Option.isSome_iff_exists.mp q
theorem V8{CX:jM}{P:Program}{w:World}{K:FZ}{mg:Str->Option Value}{base:Heap}{N ps:List Str}{qual:Str}{scope:Scope}{f:Addr}{cd:Value}{A:Around}{outer:List Env}{s s1:Shared}{H:Hp}{E:XK}{us:List Value}{vs:List V}
  (S:pG N ps scope) (hd:A.handled=none) (e0:zT P w K mg base A outer s H) (hl:vs.length=ps.length) (r:Vals vs us)
  (x:InCallC s s.heap.objs.size (bindL (envOfC qual scope s.heap.objs.size f cd).kindOf (ps.zip us) λ_=>none) (cellsFrom (s.heap.objs.size+1) scope.names []) (bindC (envOfC qual scope s.heap.objs.size f cd).kindOf (ps.zip us) λ_=>none) s1) :
  Inv (jC CX P w K mg base N qual scope f cd A outer s H E) [] (start N vs) H s1:=by
 have hpl:ps.length<=N.length:=by have:=congrArg List.length S.pre; rw[List.length_take]at this; omega
 obtain⟨h1,tk,rfl,hk⟩:=x.done
 have wJ:∀b:Addr,b∉(jC CX P w K mg base N qual scope f cd A outer s H E).ex:=λb z=>absurd (show b∈([]:List Addr)from z) (by simp)
 refine⟨⟨e0.mod,S.kind,rfl,rfl,Nat.le_refl _,λy z c h1 h2=>?_,λy hy=>?_,λy c _ h=>?_,λ_=>hd,Around.frames_deeper e0.frames,.inr ⟨rfl,rfl⟩,λb z=>absurd z (wJ b),e0.bs,e0.qD,λb _ _=>wJ b,λb z=>absurd z (wJ b),e0.lu,e0.su⟩,
  rfl,e0.bare,Un.kept hk,⟨_,x.toInCall.ns,λi y v h1 h2 h3=>?_⟩,λy c h=>⟨_,x.cell y c h⟩,e0.hok.fresh (Nat.le_refl _),λy c h=>?_,λp hp=>absurd (show p∈([]:List (Addr × Obj))from hp) (by simp),e0.hok.kept hk,?_⟩
 ·exact name_of_addr x.apart (PySem.mem_of_lookup h1) (PySem.mem_of_lookup h2)
 ·have hy:scope.names.lookup y=some .cell\/scope.names.lookup y=some .free:=hy
  rcases hy with hy|hy
  ·exact Ng hy
  ·exact absurd rfl (S.Fb _ (PySem.mem_of_lookup hy))
 ·exact Nat.le_of_lt (x.above y c (PySem.mem_of_lookup h))
 ·have hi:i<vs.length:=by
   unfold start at h2
   by_cases hi:i<vs.length
   ·exact hi
   ·rw[List.getElem?_append_right (by simpa using hi)]at h2
    rw[List.getElem?_replicate]at h2
    split at h2 <;> cases h2
  have ha:vs[i]?=some v:=by
   unfold start at h2
   rw[List.getElem?_append_left (by simpa using hi),List.getElem?_map]at h2
   cases e:vs[i]? with
   |none=>rw[e]at h2; cases h2
   |some a=>rw[e]at h2; cases h2; rfl
  obtain⟨u,hu,rv⟩:=r.get ha
  have hp:ps[i]?=some y:=by
   rw[<-S.pre,List.getElem?_take_of_lt (by omega)]; exact h1
  have Nh:ps.Nodup:=by rw[<-S.pre]; exact S.nd.sublist (List.take_sublist _ _)
  refine⟨u,rv,?_⟩
  rcases S.par y (List.mem_of_getElem? hp)with k|k
  ·exact .inl ⟨k,Nb Nh hp hu k⟩
  ·obtain⟨c,e⟩:=Ng (n:=s.heap.objs.size+1) k
   refine .inr ⟨.inl k,c,e,?_⟩
   have q:=x.cell y c e
   rw[Nf Nh hp hu (by show scope.names.lookup y≠_; rw[k]; decide)]at q
   exact q
 ·exact e0.hok.fresh (Nat.le_of_lt (x.above y c (PySem.mem_of_lookup h)))
 ·unfold start
  show _=N.length
  rw[List.length_append,List.length_map,List.length_replicate]
  omega
theorem Ni{CX:jM}{P:Program}{w:World}{K:FZ}{mg:Str->Option Value}{base:Heap}{k:Nat}{f:Addr}{name qual:Str}{params:Arguments}{body:List Stmt}{scope:Scope}{dV kV doc pm cdv ct oc:Value}{an od:Option Addr}
  {osl:Array (Option Value)} {N ps:List Str} {sp:Sp} (lk:K.lookup f=some ⟨oc,od,.func (PySem.W.fnOf name qual params body scope dV kV doc pm an cdv ct),osl⟩) (hcd:PySem.W.codeIn K cdv qual=true) (S:pG N ps scope)
  (len:∀vs H Q E,sp vs H Q E->vs.length=ps.length)
  (hbody:∀(A:Around) (outer:List Env) (s:Shared) (H:Hp) (vs:List V) (Q:VK) (E:XK),eV k (A.deeper (envOfC qual scope s.heap.objs.size f cdv))->sp vs H Q E ->
   ∃t,jc (jC CX P w K mg base N qual scope f cdv A outer s H E) body t/\t {nx:=λ_ H'=>Q .non H',rt:=Q } (start N vs) H) :
  j4 P w K mg base CX (k+1) f (PySem.W.fnOf name qual params body scope dV kV doc pm an cdv ct) ps sp:=by
 refine⟨len,λA outer s H args us vs Q E hr e0 hb r hsp=>?_⟩
 have hl:=len _ _ _ _ hsp
 have KX:K.In s.heap:=e0.mod.Eb.keeps λb o e=>(e0.bs b o e).1
 have lim:s.heap.NoLimit:=e0.mod.nolimit.keeps λb o e=>(e0.bs b o e).1
 have hkind:∀y∈ps.zip us,scope.names.lookup y.1=some .local\/(scope.names.lookup y.1=some .cell/\((cellsFrom (s.heap.objs.size+1) scope.names []).lookup y.1).isSome=true):=λ⟨n,v⟩ hy=>by
  rcases S.par n (List.of_mem_zip hy).1 with q|q
  ·exact .inl q
  ·exact .inr ⟨q,PySem.W.cellsFrom_some _ _ _ (.inl q)⟩
 refine codeAny_call_function hr.depth (KX _ _ lk) rfl S.co S.gen rfl (PySem.W.codeRec_of KX hcd) (hb _ _ _ _ ?_)
 refine wpAny_newFunctionEnv_cells S.kind hkind λenv he s1 x=>?_
 subst he
 refine⟨lim.keeps x.toInCall.keep,codeAny_func ?_⟩
 obtain⟨t,ht,hq⟩:=hbody A outer s H vs Q E (hr.deeper _) hsp
 have I:Inv (jC CX P w K mg base N qual scope f cdv A outer s H E) [] (start N vs) H s1:=V8 S hr.hd e0 hl r x
 refine wpAny_mono (ht [] s1 (start N vs) H _ I hq) (λfl s' hs=>?_) λe s' hs=>hs
 have fin:∀{σ':St} {H':Hp} {v:V} {u:Value},Inv (jC CX P w K mg base N qual scope f cdv A outer s H E) [] σ' H' s'->RelV v u->Q v H'->CE outer P w H s Q u s' :=
  λ{σ' H' v u} J rv q=>⟨v,H',J.os,J.bare,J.base,J.hok,rv,q⟩
 cases fl with
 |ret u =>
  obtain⟨v,σ',H',J,rv,q⟩:=hs
  exact fin J rv q
 |next =>
  obtain⟨σ',H',J,q⟩:=hs
  exact fin (v:=V.non) (u:=Value.none) J rfl q
 |brk =>
  obtain⟨_,_,_,q⟩:=hs
  exact False.elim q
 |cont =>
  obtain⟨_,_,_,q⟩:=hs
  exact False.elim q
end L2
namespace L2
open PySem PySem.Spec PyProof.Rows
section
variable {X:Cx}{x:Str}{p pos:Pos}{e:Expr}{es:List Expr}{t:TA}{id T:String}{r:List V->Hp->VK->Prop}
def jN(r:List V->Hp->VK->Prop)(t:TA):TE:=λσ H Q=>t σ H λvs H1=>r vs H1 Q
theorem Nj(hc:iJ X (.builtin id) r)(hg:Gl X x)(hm:X.mg x=none)(hv:bootBuiltins x=some (.builtin id))(ha:PA X (e::es) t)(hn:x ≠ "__name__" := by decide) (hdb:(x == ("__debug__" : Str))=false:=by decide)
  (he:starEach (e::es) X.env=(false,eval e X.env)::starEach es X.env:=by rfl) (hpl:(backTo pos (starEach es X.env)).any (·.1)=false:=by rfl):PE X (.Call (.Name x p) (e::es) [] pos) (jN r t):=by
 refine⟨λpins s σ H Q I h=>?_⟩
 refine wpAny_Call_Name_kw (qF I hg hm hv ?_ hn hdb)
 exact PyProof.Rows.callWith_builtin1 (bh (ha pos pins s σ H _ I h) λus s1 ⟨vs,H1,I1,r1,q1⟩=>hc pins s1 σ H1 vs us Q I1 r1 q1) he hpl
theorem V9(hc:iJ X (.type T) r)(hg:Gl X x)(hm:X.mg x=none)(hv:bootBuiltins x=some (.type T))(ha:PA X (e::es) t)(hn:x ≠ "__name__" := by decide) (hdb:(x == ("__debug__" : Str))=false:=by decide)
  (he:starEach (e::es) X.env=(false,eval e X.env)::starEach es X.env:=by rfl) (hpl:(backTo pos (starEach es X.env)).any (·.1)=false:=by rfl):PE X (.Call (.Name x p) (e::es) [] pos) (jN r t):=by
 refine⟨λpins s σ H Q I h=>?_⟩
 refine wpAny_Call_Name_kw (qF I hg hm hv ?_ hn hdb)
 exact PyProof.Rows.callWith_type1 (bh (ha pos pins s σ H _ I h) λus s1 ⟨vs,H1,I1,r1,q1⟩=>hc pins s1 σ H1 vs us Q I1 r1 q1) he hpl
end
end L2
namespace HT
open PySem PyProof.Rows
def lexLt:List Int->List Int->Bool
 | [],[]=>false
 | [],_::_=>true
 |_::_,[]=>false
 |x::xs,y::ys=>if x=y then lexLt xs ys else decide (x<y)
theorem Wa(x y:Int)(xs ys:List Int):lexLt (x::xs) (y::ys)=if x=y then lexLt xs ys else decide (x<y):=rfl
theorem Wb:lexLt [] []=false:=rfl
theorem Wc(y:Int)(ys:List Int):lexLt [] (y::ys)=true:=rfl
theorem Wd(x:Int)(xs:List Int):lexLt (x::xs) []=false:=rfl
theorem Wf(A:Around)(s:Shared)(a:Int)(t:Tok)(c:Int)(u:Tok):∃e,SeqAt.EqAt A s (.int a t) (.int c u) e/\(e=true↔a=c) :=
 ⟨(a == c),SeqAt.EqAt.int_int a t c u,by simp⟩
theorem Wg(A:Around)(s:Shared)(a:Int)(t:Tok)(c:Int)(u:Tok)(prog:Program)(w:World)(E:Value->Shared->Prop)(Q:Value->Shared->Prop)(h:Q (.bool (decide (a<c))) s) :
  wpAny (model prog w) A (richCompare .Lt (.int a t) (.int c u)) Q E s :=
 (PyProof.Rows.lt_int h:wpAny (model prog w) A (compareOp .Lt (.int a t) (.int c u)) Q E s)
section
open PySem.SeqAt
open PySem.AutoSeq1 (wpAny_loadPart')
open PySem.MeetsSeq PySem.MeetsSeq2 PySem.MeetsSeq3
theorem Wh(l b:Addr)(items items2:Array Value)(n n2:Nat)(dd dd2:Option Addr)(sl sl2:Array (Option Value))(ns ms:List Int)(hi:IntsAre items.toList ns)(hj:IntsAre items2.toList ms) :
  Meets (Builtin.«tuple.__lt__» ⟨[.ref l,.ref b],[]⟩)
   (λ_ R s=>s.heap.get? l=some {cls:=.type "tuple",dict:=dd,data:=.seq items n,slots:=sl }∧s.heap.get? b=some {cls:=.type "tuple",dict:=dd2,data:=.seq items2 n2,slots:=sl2 } ∧
    R (.ok (.ret (.bool (lexLt ns ms)))) s) :=
 .of_wp λprog w A R s h=>by
  obtain⟨hp,g,d,tk,os⟩:=s; obtain⟨hl,hb,h⟩:=h
  have f2:=AutoSeq1.sub_tuple_tuple
  have z1:items.size=ns.length:=by rw[<-hi.length]; simp
  have z2:items2.size=ms.length:=by rw[<-hj.length]; simp
  wp_walk using wpAny_loadPart' hl,wpAny_loadPart' hb,wpAny_forIn_list _ (λrest b s'=>b.1=none/\s'=⟨hp,g,d,tk,os⟩/\∃(vs ws:List Value) (ns' uO:List Int),rest=vs.zip ws /\
   IntsAre vs ns'/\IntsAre ws uO/\ns'.length+items2.size=uO.length+items.size/\R (.ok (.ret (.bool (lexLt ns' uO)))) ⟨hp,g,d,tk,os⟩) _
  case turn =>
   rintro⟨y,x⟩ rest b s' ⟨hb',rfl,vs,ws,ns',uO,hz,Fd,hwi,hlen,hR⟩
   cases Fd with
   |nil=>rw[List.zip_nil_left]at hz; cases hz
   |cons a t Wi =>
    cases hwi with
    |nil=>rw[List.zip_nil_right]at hz; cases hz
    |cons c u Wj =>
     rw[List.zip_cons_cons]at hz
     injection hz with hyx hrest
     injection hyx with hy hx
     subst hy hx
     rw[Wa]at hR
     simp only[List.length_cons]at hlen
     obtain⟨e,he,hiff⟩:=Wf A.in1 ⟨hp,g,d,tk,os⟩ a t c u
     refine wpAny_bind (he prog w _ _ ?_)
     cases e with
     |true =>
      rw[if_pos (hiff.mp rfl)]at hR
      wp_walk
      exact⟨rfl,rfl,_,_,_,_,hrest,Wi,Wj,by omega,hR⟩
     |false =>
      rw[if_neg (λq=>absurd (hiff.mpr q) Bool.false_ne_true)]at hR
      have Wk:=Wg A.in1 ⟨hp,g,d,tk,os⟩ a t c u prog w
      wp_walk using Wk
      exact⟨_,rfl,by simpa using hR⟩
  case fin =>
   rintro⟨b1,b2⟩ s' ⟨hb',rfl,vs,ws,ns',uO,hz,Fd,hwi,hlen,hR⟩
   simp only at hb'
   subst hb'
   have hv:lexLt ns' uO=decide (items.size<items2.size):=by
    cases Fd with
    |nil =>
     cases hwi with
     |nil =>
      simp only[List.length_nil]at hlen
      rw[Wb]
      exact(decide_eq_false (by omega)).symm
     |cons c u hw =>
      simp only[List.length_nil,List.length_cons]at hlen
      rw[Wc]
      exact(decide_eq_true (by omega)).symm
    |cons a t hv =>
     cases hwi with
     |nil =>
      simp only[List.length_nil,List.length_cons]at hlen
      rw[Wd]
      exact(decide_eq_false (by omega)).symm
     |cons c u hw =>
      rw[List.zip_cons_cons]at hz
      cases hz
   rw[hv]at hR
   wp_walk
   exact⟨_,rfl,by simpa[Builtin.Tuple.tupleCompareSizes]using hR⟩
  case h =>
   exact⟨rfl,rfl,items.toList,items2.toList,ns,ms,rfl,hi,hj,by omega,h⟩
end
section
variable {prog:Program}{w:World}{A:Around}{E:Value->Shared->Prop}{s:Shared}
theorem Wl{l b:Addr}{items items2:Array Value}{ns ms:List Int}{Q:Value->Shared->Prop}(hl:IsTup s.heap l items)(hb:IsTup s.heap b items2)(hi:IntsAre items.toList ns)(hj:IntsAre items2.toList ms)
  (hu:A.units<cLine) (h:Q (.bool (lexLt ns ms)) s):wpAny (model prog w) A (compareOp .Lt (.ref l) (.ref b)) Q E s:=by
 obtain⟨⟨cls,dd,data,sl⟩,ho,hc,n,hd⟩:=id hl
 obtain⟨⟨cls2,dd2,data2,sl2⟩,ho2,hc2,n2,hd2⟩:=id hb
 simp only at hc hd hc2 hd2
 subst hc hd hc2 hd2
 exact richCompare_meets_room (op:=.Lt) ⟨_,ho,rfl⟩ ⟨_,ho2,rfl⟩ PySem.F.slot_tuple_lt PySem.F.entry_tuple_lt (PySem.F.args_tuple_lt_2 _ _) (Wh l b items items2 n n2 dd dd2 sl sl2 ns ms hi hj)
  ⟨ho,ho2,show Value.bool (lexLt ns ms)≠Value.notImplemented/\Q (.bool (lexLt ns ms)) s from⟨(λx=>nomatch x),h⟩⟩ hu
theorem Wm{t b:Addr}{vs ws:List Value}{Q:Value->Shared->Prop}(ht:IsTup s.heap t vs.toArray)(hb:IsTup s.heap b ws.toArray)(hv:vs≠[])
  (h1:ws=[]->Q (.ref t) s) (h2:ws≠[]->Q (.ref s.heap.objs.size) {s with heap:=s.heap.push {cls:=.type "tuple",data:=.seq (vs++ws).toArray } })
  (hsz:vs.length+ws.length<=sizeLine):wpAny (model prog w) A (binaryOp .Add (.ref t) (.ref b)) Q E s:=by
 obtain⟨⟨cls,dd,data,sl⟩,ho,hc,n,hd⟩:=id ht
 obtain⟨⟨cls2,dd2,data2,sl2⟩,ho2,hc2,n2,hd2⟩:=id hb
 simp only at hc hd hc2 hd2
 subst hc hd hc2 hd2
 have e:vs.toArray++ws.toArray=(vs++ws).toArray:=by simp
 by_cases hw:ws=[]
 ·exact concat_meets ⟨_,ho,rfl⟩ ⟨_,ho2,rfl⟩ noFill_tuple_add seq_tuple_add PySem.F.slot_tuple_add PySem.F.entry_tuple_add (PySem.F.args_tuple_add_2 _ _)
   (tuple_addW1 t b vs.toArray ws.toArray n n2 dd dd2 sl sl2 (by simpa using hv) (by simp[hw])) ⟨ho,ho2,h1 hw⟩
 ·refine concat_meets ⟨_,ho,rfl⟩ ⟨_,ho2,rfl⟩ noFill_tuple_add seq_tuple_add PySem.F.slot_tuple_add PySem.F.entry_tuple_add (PySem.F.args_tuple_add_2 _ _)
   (tuple_addW2 t b vs.toArray ws.toArray n n2 dd dd2 sl sl2 (by simpa using hv) (by simpa using hw) (by rw[List.size_toArray,List.size_toArray]; exact hsz)) ⟨ho,ho2,?_⟩
  rw[e]
  exact h2 hw
def bQ(n d:Nat):Option Int->Nat
 |none=>d
 |some v=>if v<0 then(v+(n:Int)).toNat else min v.toNat n
theorem Wn(n d:Nat)(hd:d<=n)(o:Option Int):bQ n d o<=n:=by
 cases o with
 |none=>exact hd
 |some v =>
  show(if v<0 then(v+(n:Int)).toNat else min v.toNat n)<=n
  by_cases hv:v<0
  ·rw[if_pos hv]; omega
  ·rw[if_neg hv]; exact Nat.min_le_right _ _
theorem Nk(v:Int)(n d:Nat):(if v<0 then max (v+(n:Int)) 0 else min v (n:Int))=((bQ n d (some v):Nat):Int):=by
 show(if v<0 then max (v+(n:Int)) 0 else min v (n:Int))=(((if v<0 then(v+(n:Int)).toNat else min v.toNat n):Nat):Int)
 by_cases hv:v<0
 ·simp only[if_pos hv]; omega
 ·simp only[if_neg hv]; omega
theorem Wq(lo hi:Option Int)(n:Nat):Builtin.Slice.sliceAdjust lo hi 1 (n:Int)=(((bQ n 0 lo:Nat):Int),((bQ n n hi:Nat):Int)):=by
 have h1:¬((1:Int)<0):=by omega
 unfold Builtin.Slice.sliceAdjust
 simp only[h1,if_false]
 refine Prod.ext ?_ ?_
 ·cases lo with
  |none=>rfl
  |some v=>exact Nk v n 0
 ·cases hi with
  |none=>rfl
  |some v=>exact Nk v n n
theorem Wr(i j:Nat):Builtin.Slice.slicePlaces (i:Int) (j:Int) 1=j-i:=by
 unfold Builtin.Slice.slicePlaces
 have h1:(1:Int) > 0:=by omega
 simp only[h1,if_true,Int.ediv_one]
 split <;> omega
theorem Np{v:Value}{o:Option Int}{Q:Option Int->Shared->Prop}(p:IsPart v o)(h:Q o s):wpAny (model prog w) A (Builtin.Slice.slicePartIndex v) Q E s:=by
 cases p with
 |none=>exact slicePart_none h
 |int i t=>exact slicePart_int h
theorem Ws{sl:Addr}{vl vu:Value}{lo hi:Option Int}{n:Nat}{Q:Int × Int × Nat->Shared->Prop}(hs:s.heap.IsSliceOf sl vl vu .none)(pl:IsPart vl lo)(pu:IsPart vu hi)
  (h:Q (((bQ n 0 lo:Nat):Int),1,bQ n n hi-bQ n 0 lo) s):wpAny (model prog w) A (Builtin.Slice.sliceApplied (.ref sl) (pure (n:Int))) Q E s:=by
 obtain⟨os,hos,hcs,hds⟩:=id hs
 unfold Builtin.Slice.sliceApplied Builtin.Slice.sliceFields
 refine wpAny_bind (wpAny_bind (wpAny_field hos hds (x:=vl) rfl (wpAny_bind (wpAny_field hos hds (x:=vu) rfl (wpAny_bind (wpAny_field hos hds (x:=.none) rfl (wpAny_pure ?_)))))))
 refine wpAny_bind (slicePart_none ?_)
 show wpAny _ _ (if((1:Int) == 0)=true then _ else _) _ _ s
 rw[if_neg (by decide)]
 refine wpAny_bind (Np pl (wpAny_bind (Np pu (wpAny_bind (wpAny_pure ?_)))))
 show wpAny _ _ (match Builtin.Slice.sliceAdjust lo hi 1 (n:Int)with|(lo,hi)=>pure (lo,(1:Int),Builtin.Slice.slicePlaces lo hi 1)) _ _ s
 rw[Wq lo hi n]
 show wpAny _ _ (pure (((bQ n 0 lo:Nat):Int),(1:Int),Builtin.Slice.slicePlaces ((bQ n 0 lo:Nat):Int) ((bQ n n hi:Nat):Int) 1)) _ _ s
 rw[Wr]
 exact wpAny_pure h
theorem Wt(xs:Array Value)(i k:Nat):((List.range k).filterMap λ(m:Nat)=>xs[((i:Int)+(m:Int)*1).toNat]?).toArray=((xs.toList.drop i).take k).toArray:=by
 have e:(λ(m:Nat)=>xs[((i:Int)+(m:Int)*1).toNat]?)=λm=>xs[i+m]? := by
  funext m
  have:((i:Int)+(m:Int)*1).toNat=i+m:=by omega
  rw[this]
 rw[e]
 have:=pick_run xs i k
 rw[List.filterMap_map]at this
 have e2:((λx=>xs[x]?) ∘ λx=>i+x)=λm=>xs[i+m]? := rfl
 rw[e2]at this
 rw[this]
theorem Wu{t sl:Addr}{items:Array Value}{vl vu:Value}{lo hi:Option Int}{Q:Value->Shared->Prop}(ht:IsTup s.heap t items)(hs:s.heap.IsSliceOf sl vl vu .none)(pl:IsPart vl lo)(pu:IsPart vu hi)
  (hw:¬(bQ items.size 0 lo=0/\bQ items.size items.size hi=items.size))
  (h:Q (.ref s.heap.objs.size) {s with heap:=s.heap.push {cls:=.type "tuple",data:=.seq ((items.toList.drop (bQ items.size 0 lo)).take (bQ items.size items.size hi-bQ items.size 0 lo)).toArray } })
  (hsz:items.size<=sizeLine):wpAny (model prog w) A (getItem (.ref t) (.ref sl)) Q E s:=by
 have zU:sizeOk (.seq ((items.toList.drop (bQ items.size 0 lo)).take (bQ items.size items.size hi-bQ items.size 0 lo)).toArray):=by
  show((items.toList.drop (bQ items.size 0 lo)).take (bQ items.size items.size hi-bQ items.size 0 lo)).toArray.size<=sizeLine
  rw[List.size_toArray,List.length_take,List.length_drop,Array.length_toList]
  omega
 have hj:bQ items.size items.size hi<=items.size:=Wn _ _ (Nat.le_refl _) hi
 obtain⟨os,hos,hcs,hds⟩:=id hs
 have hTs:s.TypeIs (.ref sl) "slice" := ⟨os,hos,hcs⟩
 unfold getItem
 try with_reducible refine wpAny_holding ?_
 first|refine wpAny_bind (wpAny_pure ?_)|skip
 refine wpAny_bind (wpAny_sequenceKey ht.typeIs (by decide) ?_)
 refine wpAny_bind (wpAny_callSpecial?_slot (name:=Str.ofString "__getitem__") ht.typeIs PyProof.Rows.slot_tuple_getitem
  (wpAny_call_entry PyProof.Rows.slot_tuple_getitem ht.typeIs entry_tuple_getitem ?_ (args_tuple_getitem _ _)))
 show wpAny _ _ (Builtin.Tuple.tupleItemsOf (.ref t) >>= _) _ _ s
 refine wpAny_bind (tupleItemsOf_ ht ?_)
 refine wpAny_bind (wpAny_typeOf hTs ?_)
 rw[if_pos (by decide)]
 refine wpAny_bind (Ws hs pl pu ?_)
 have hno:¬((((bQ items.size 0 lo:Nat):Int) == 0&&(1:Int) == 1&&(bQ items.size items.size hi-bQ items.size 0 lo) == items.size)=true):=by
  intro q
  rw[Bool.and_eq_true,Bool.and_eq_true]at q
  have q1:((bQ items.size 0 lo:Nat):Int)=0:=eq_of_beq q.1.1
  have q2:bQ items.size items.size hi-bQ items.size 0 lo=items.size:=eq_of_beq q.2
  exact hw ⟨by omega,by omega⟩
 show wpAny _ _ (if(((bQ items.size 0 lo:Nat):Int) == 0&&(1:Int) == 1&&(bQ items.size items.size hi-bQ items.size 0 lo) == items.size)=true then _ else _) _ _ s
 rw[if_neg hno,Wt]
 first
  |exact wpAny_bind (m:=Builtin.Tuple.tupleExact _) (wpAny_newObj_type (wpAny_pure ⟨_,rfl,wpAny_pure h⟩) zU)
  |exact wpAny_bind (m:=Builtin.Tuple.tupleExact _) (wpAny_newObj_type (wpAny_bind (wpAny_pure (wpAny_pure ⟨_,rfl,wpAny_pure h⟩))) zU)
  |exact wpAny_bind (wpAny_bind (m:=Builtin.Tuple.tupleExact _) (wpAny_newObj_type (wpAny_pure (wpAny_pure ⟨_,rfl,wpAny_pure h⟩)) zU))
  |exact wpAny_bind (wpAny_bind (m:=Builtin.Tuple.tupleExact _) (wpAny_newObj_type (wpAny_pure ⟨_,rfl,wpAny_pure h⟩) zU))
end
end HT
namespace L2
open PySem PySem.Spec PyProof.Rows
abbrev TO:=St->Hp->(Option Int->Hp->Prop)->Prop
noncomputable def PO(X:Cx)(e:Option Expr)(t:TO):Prop :=
 ∀(pins:List (Addr × Obj)) (s:Shared) (σ : St) (H:Hp) (Q:Option Int->Hp->Prop),Inv X pins σ H s->t σ H Q ->
  wpAny (model X.prog X.w) X.A (evalPart e X.env) (λu s'=>∃o H',Inv X pins σ H' s'/\IsPart u o/\Q o H') X.xe s
def Nq:TO:=λ_ H Q=>Q none H
def Nr(t:TE):TO:=λσ H Q=>t σ H λx H1=>∃i,x=.int i/\Q (some i) H1
theorem intsAre_of{ns:List Int}:∀{us:List Value},Vals (ns.map V.int) us->IntsAre us ns:=by
 induction ns with
 |nil=>intro us r; rw[List.map_nil]at r; cases r; exact .nil
 |cons n ns ih =>
  intro us r
  rw[List.map_cons]at r
  cases r with
  |cons r1 r2 =>
   obtain⟨t,e⟩:=r1
   subst e
   exact .cons n t (ih r2)
section
variable {X:Cx}{e:Expr}{te:TE}{lo hi:Option Expr}{tl th:TO}{pos p2:Pos}
theorem uP:PO X none Nq:=by
 intro pins s σ H Q I h
 rw[evalPart_none]
 exact wpAny_pure ⟨none,H,I,.none,h⟩
theorem uQ(h:PE X e te):PO X (some e) (Nr te):=by
 intro pins s σ H Q I hw
 rw[evalPart_some]
 refine bh (h pins s σ H _ I hw) λu s1 ⟨x,H1,I1,r1,q1⟩=>?_
 obtain⟨i,rfl,q⟩:=q1
 obtain⟨t,rfl⟩:=r1
 exact⟨some i,H1,I1,.int i t,q⟩
noncomputable def mz(X:Cx)(r:V->Option Int->Option Int->Hp->VK->Prop):Prop :=
 ∀(pins:List (Addr × Obj)) (s:Shared) (σ : St) (H:Hp) (x:V) (v vl vu:Value) (lo hi:Option Int) (sl:Addr) (Q:VK),Inv X pins σ H s->RelV x v->s.heap.IsSliceOf sl vl vu .none->IsPart vl lo->IsPart vu hi->r x lo hi H Q ->
  ∃T id,typeLookup (.type T) "__getitem__" = pure (some (.builtin id))/\s.TypeIs v T/\wpAny (model X.prog X.w) X.A (getItem v (.ref sl)) (EP X pins σ Q) X.xe s
theorem mz.or{r r':V->Option Int->Option Int->Hp->VK->Prop}(h:mz X r)(h':mz X r'):mz X (λx lo hi H Q=>r x lo hi H Q\/r' x lo hi H Q):=by
 intro pins s σ H x v vl vu lo hi sl Q I rx hs pl pu q
 rcases q with q|q
 ·exact h pins s σ H x v vl vu lo hi sl Q I rx hs pl pu q
 ·exact h' pins s σ H x v vl vu lo hi sl Q I rx hs pl pu q
def Nt(r:V->Option Int->Option Int->Hp->VK->Prop)(te:TE)(tl th:TO):TE:=λσ H Q=>te σ H λx H1=>tl σ H1 λl H2=>th σ H2 λu H3=>r x l u H3 Q
theorem uR{r:V->Option Int->Option Int->Hp->VK->Prop}(hr:mz X r)(he:PE X e te)(hl:PO X lo tl)(hu:PO X hi th):PE X (.Subscript e (.Slice lo hi none p2) pos) (Nt r te tl th):=by
 refine⟨λpins s σ H Q I h=>?_⟩
 refine Subscript_ (bh (he pins s σ H _ I h) λv s1 ⟨x,H1,I1,r1,q1⟩=>?_)
 refine wpAny_Slice (bh (hl pins s1 σ H1 _ I1 q1) λvl s2 ⟨l,H2,I2,pl,q2⟩=>bh (hu pins s2 σ H2 _ I2 q2) λvu s3 ⟨u,H3,I3,pu,q3⟩=>?_)
 rw[evalPart_none]
 refine wpAny_pure ?_
 have I4:Inv X pins σ H3 {s3 with heap:=s3.heap.push {cls:=.type "slice",data:=.fields #[vl,vu,.none] } }:=I3.kept (t':=s3.toks) λb ob q=>Heap.get?_push_of_some _ q
 obtain⟨T,id,hT,ht,hg⟩:=hr pins {s3 with heap:=s3.heap.push {cls:=.type "slice",data:=.fields #[vl,vu,.none] } } σ H3 x v vl vu l u s3.heap.objs.size Q I4 r1 (Heap.IsSliceOf.new ..) pl pu q3
 show wpAny (model X.prog X.w) X.A (subscriptTail e (.Slice lo hi none p2) v (.ref s3.heap.objs.size)) (EP X pins σ Q) X.xe {s3 with heap:=s3.heap.push {cls:=.type "slice",data:=.fields #[vl,vu,.none] } }
 exact tail_any (ops:=[.ref s3.heap.objs.size,v]) ht hT hg (by with_unfolding_all rfl)
def qL(xs:List V)(lo hi:Option Int):List V:=(xs.drop (HT.bQ xs.length 0 lo)).take (HT.bQ xs.length xs.length hi-HT.bQ xs.length 0 lo)
theorem Nu(xs:List V)(lo hi:Option Int):(qL xs lo hi).length<=xs.length:=by
 unfold qL
 rw[List.length_take,List.length_drop]
 omega
def Nv(K:FZ):V->Option Int->Option Int->Hp->VK->Prop:=λx lo hi H Q=>∃a xs,x=.ref a/\c7 K H a xs /\
 ¬(HT.bQ xs.length 0 lo=0/\HT.bQ xs.length xs.length hi=xs.length)/\∀p,H p=none->Q (.ref p) (upd H p (.tup (qL xs lo hi)))
theorem Ww:mz X (Nv X.K):=by
 intro pins s σ H x v vl vu lo hi sl Q I rx hs pl pu h
 obtain⟨a,xs,rfl,hx,hw,q⟩:=h
 cases rx
 obtain⟨its,r,ht,hz⟩:=I.tuple hx
 have hlen:its.toArray.size=xs.length:=by rw[List.size_toArray]; exact r.length.symm
 refine⟨"tuple",_,PyProof.Rows.slot_tuple_getitem.lookup,ht.typeIs,?_⟩
 refine HT.Wu ht hs pl pu (by rw[hlen]; exact hw) ?_ (by rw[hlen]; exact hz)
 rw[hlen]
 refine⟨.ref s.heap.objs.size,_,I.laid (t':=s.toks) (o:=.tup (qL xs lo hi)) (λb ob q=>Heap.get?_push_of_some _ q) (Nat.le_refl _) ?_,rfl,q _ (I.hok.fresh (Nat.le_refl _))⟩
 exact⟨Nat.le_trans (Nu xs lo hi) hz,_,(r.drop (HT.bQ xs.length 0 lo)).take (HT.bQ xs.length xs.length hi-HT.bQ xs.length 0 lo),IsTup.new _ _⟩
def Nx(K:FZ):R2:=λx y H Q=>∃a b ns ms,x=.ref a/\y=.ref b/\c7 K H a (ns.map V.int)/\c7 K H b (ms.map V.int)/\Q (.bl (HT.lexLt ns ms)) H
theorem Wy(hu:X.A.units<cLine):cH X (compareOp .Lt) (Nx X.K):=by
 intro pins s σ H x y v u Q I rx ry h
 obtain⟨a,b,ns,ms,rfl,rfl,ha,hb,q⟩:=h
 cases rx
 cases ry
 obtain⟨its,r1,p1,_⟩:=I.tuple ha
 obtain⟨its2,r2,p2,_⟩:=I.tuple hb
 have i1:IntsAre its.toArray.toList ns:=intsAre_of r1
 have i2:IntsAre its2.toArray.toList ms:=intsAre_of r2
 exact HT.Wl p1 p2 i1 i2 hu ⟨.bl (HT.lexLt ns ms),H,I,rfl,q⟩
def Ny(K:FZ):R2:=λx y H Q=>∃a b xs ys,x=.ref a/\y=.ref b/\c7 K H a xs/\c7 K H b ys/\xs≠[]/\xs.length+ys.length<=sizeLine /\
 (ys=[]->Q (.ref a) H)/\(ys≠[]->∀p,H p=none->Q (.ref p) (upd H p (.tup (xs++ys))))
theorem Vals.Fe{xs:List V}{us:List Value}(r:Vals xs us):us=[]↔xs=[]:=by
 cases r with
 |nil=>simp
 |cons _ _=>simp
theorem Wz:cH X (binaryOp .Add) (Ny X.K):=by
 intro pins s σ H x y v u Q I rx ry h
 obtain⟨a,b,xs,ys,rfl,rfl,ha,hb,hx,hz,q1,q2⟩:=h
 cases rx
 cases ry
 obtain⟨its,r1,p1,_⟩:=I.tuple ha
 obtain⟨its2,r2,p2,_⟩:=I.tuple hb
 refine HT.Wm p1 p2 (λz=>hx (r1.Fe.mp z)) (λz=>⟨.ref a,H,I,rfl,q1 (r2.Fe.mp z)⟩) (λz=>?_) (by rw[<-r1.length,<-r2.length]; exact hz)
 refine⟨.ref s.heap.objs.size,_,I.laid (t':=s.toks) (o:=.tup (xs++ys)) (λb ob q=>Heap.get?_push_of_some _ q) (Nat.le_refl _) ?_,rfl,q2 (λw=>z (r2.Fe.mpr w)) _ (I.hok.fresh (Nat.le_refl _))⟩
 exact⟨by rw[List.length_append]; exact hz,_,r1.append r2,IsTup.new _ _⟩
end
end L2
namespace L2
open PySem PySem.Spec PyProof.Rows
def gM(n:Nat)(i:Int):Option Nat:=if 0<=i then(if i<n then some i.toNat else none)else if -(n:Int)<=i then some (i+n).toNat else none
def eX{α : Type}(xs:List α)(i:Int):Option α := (gM xs.length i).bind λj=>xs[j]?
theorem Nz{n:Nat}{i:Int}{j:Nat}(h:gM n i=some j):seqIndex? i n=some j/\j<n /\ -(n:Int)<=i/\i<n:=by
 unfold gM at h
 by_cases h0:0<=i
 ·rw[if_pos h0]at h
  by_cases h1:i<n
  ·rw[if_pos h1]at h
   have e:i.toNat=j:=Option.some.inj h
   exact⟨by rw[seqIndex_of h0 h1,e],by omega,by omega,h1⟩
  ·rw[if_neg h1]at h; cases h
 ·rw[if_neg h0]at h
  by_cases h1 : -(n:Int)<=i
  ·rw[if_pos h1]at h
   have e:(i+n).toNat=j:=Option.some.inj h
   exact⟨by rw[seqIndex_neg (by omega) h1,e],by omega,h1,by omega⟩
  ·rw[if_neg h1]at h; cases h
theorem Fi{α : Type}{xs:List α}{i:Int}{v : α}(h:eX xs i=some v):∃j,seqIndex? i xs.length=some j/\xs[j]?=some v/\j<xs.length /\ -(xs.length:Int)<=i/\i<xs.length:=by
 unfold eX at h
 cases e:gM xs.length i with
 |none=>rw[e]at h; cases h
 |some j =>
  rw[e]at h
  obtain⟨h1,h2,h3,h4⟩:=Nz e
  exact⟨j,h1,h,h2,h3,h4⟩
def NK(b:Expr):Prop:=∀o i,subscripted b false o i=operate [o,i] (getItem o i)
noncomputable def pH(X:Cx)(r:R2):Prop :=
 ∀(value slice:Expr) (pins:List (Addr × Obj)) (s:Shared) (σ : St) (H:Hp) (x y:V) (v u:Value) (Q:VK),Inv X pins σ H s->RelV x v->RelV y u->r x y H Q ->
  subscripted slice false v u=operate [v,u] (getItem v u)->wpAny (model X.prog X.w) X.A (subscriptTail value slice v u) (EP X pins σ Q) X.xe s
noncomputable def NP(X:Cx)(id:String)(r:V->List V->Hp->VK->Prop):Prop :=
 ∀(pins:List (Addr × Obj)) (s:Shared) (σ : St) (H:Hp) (x:V) (xs:List V) (v:Value) (us:List Value) (Q:VK),Inv X pins σ H s->RelV x v->Vals xs us->r x xs H Q ->
  wpAny (model X.prog X.w) X.A (call (.builtin id) (v::us)) (EP X pins σ Q) X.xe s
section
variable {X:Cx}{a b:Expr}{ta tb:TE}{pos:Pos}
theorem pH.or{r r':R2}(h:pH X r)(h':pH X r'):pH X (λx y H Q=>r x y H Q\/r' x y H Q):=by
 intro value slice pins s σ H x y v u Q I rx ry q hs
 rcases q with q|q
 ·exact h value slice pins s σ H x y v u Q I rx ry q hs
 ·exact h' value slice pins s σ H x y v u Q I rx ry q hs
theorem uT{r:R2}(hr:pH X r)(ha:PE X a ta)(hb:PE X b tb)(hs:NK b):PE X (.Subscript a b pos) (eU r ta tb):=by
 refine⟨λpins s σ H Q I h=>?_⟩
 exact Subscript_ (Es ha hb I h λv u s2 x y H2 I2 rx ry q=>hr a b pins s2 σ H2 x y v u Q I2 rx ry q (hs _ _))
def NQ(K:FZ):R2:=λx y H Q=>∃p xs i v,x=.ref p/\y=.int i/\bw K H p xs/\eX xs i=some v/\Q v H
def NT(K:FZ):R2:=λx y H Q=>∃p xs i v,x=.ref p/\y=.int i/\c7 K H p xs/\eX xs i=some v/\Q v H
def NZ:R2:=λx y H Q=>∃z i c,x=.str z/\y=.int i/\z.length<=sizeLine/\eX z.cps.toList i=some c/\Q (.str ⟨#[c]⟩) H
theorem WD:pH X (NQ X.K):=by
 intro value slice pins s σ H x y v u Q I rx ry h hs
 obtain⟨p,xs,i,z,rfl,rfl,hq,he,q⟩:=h
 cases rx
 obtain⟨t,rfl⟩:=ry
 obtain⟨its,r,pl,hz⟩:=I.list hq
 obtain⟨j,h1,h2,h3,h4,h5⟩:=Fi he
 obtain⟨w,ew,pA⟩:=r.get h2
 have hl:=r.length
 have hn:=sI
 have fin:EP X pins σ Q w s:=⟨z,H,I,pA,q⟩
 by_cases h0:0<=i
 ·have hj:i.toNat=j:=by
   rw[seqIndex_of h0 h5]at h1
   exact Option.some.inj h1
  exact item_listR pl.isList h0 (by omega) (by rw[hj]; simpa using ew) fin hs
 ·have hj:(i+(its.toArray.size:Int)).toNat=j:=by
   rw[seqIndex_neg (by omega) h4]at h1
   rw[List.size_toArray,<-hl]
   exact Option.some.inj h1
  exact subscriptTail_builtinR (x:=w) pl.isList.typeIs slot_list_getitem.lookup
   (wpAny_getItem_list_neg (Q:=λr s'=>r=w/\EP X pins σ Q r s') pl.isList (by omega) (by rw[List.size_toArray] <;> omega) (by omega) (by rw[hj]; simpa using ew) ⟨rfl,fin⟩) hs
theorem WK:pH X (NT X.K):=by
 intro value slice pins s σ H x y v u Q I rx ry h hs
 obtain⟨p,xs,i,z,rfl,rfl,hq,he,q⟩:=h
 cases rx
 obtain⟨t,rfl⟩:=ry
 obtain⟨its,r,pl,hz⟩:=I.tuple hq
 obtain⟨j,h1,h2,h3,h4,h5⟩:=Fi he
 obtain⟨w,ew,pA⟩:=r.get h2
 have hl:=r.length
 have hn:=sI
 have fin:EP X pins σ Q w s:=⟨z,H,I,pA,q⟩
 exact subscriptTail_builtinR (x:=w) pl.typeIs slot_tuple_getitem.lookup
  (getItem_tuple (j:=j) (Q:=λr s'=>r=w/\EP X pins σ Q r s') pl (by omega) (by omega) (by rw[List.size_toArray,<-hl]; exact h1) (by simpa using ew) ⟨rfl,fin⟩) hs
theorem WL:pH X NZ:=by
 intro value slice pins s σ H x y v u Q I rx ry h hs
 obtain⟨z,i,c,rfl,rfl,hz,he,q⟩:=h
 obtain⟨t,rfl⟩:=rx
 obtain⟨t',rfl⟩:=ry
 obtain⟨j,h1,h2,h3,h4,h5⟩:=Fi he
 have hl:z.cps.toList.length=z.length:=by simp[Str.length]
 rw[hl]at h1 h4 h5
 have hn:=sI
 exact tail_any (typeIs_str s z t) slot_str_getitem.lookup (getItem_str (c:=c) (by
  have e1:decide (i < -(2 ^ 63:Int))=false:=decide_eq_false (by omega)
  have e2:decide (i >= 2 ^ 63)=false:=decide_eq_false (by omega)
  rw[e1,e2,Bool.or_false]) (by rw[h1]; simpa using h2) ⟨.str ⟨#[c]⟩,H,I.tok _,⟨_,rfl⟩,q⟩) hs
def nG(K:FZ):R2:=λx y H Q=>NQ K x y H Q\/NT K x y H Q\/NZ x y H Q
theorem uU:pH X (nG X.K):=WD.or (WK.or WL)
theorem WM(its:List Value)(n j:Nat)(u:Value):Obj.mapSeq (·.setIfInBounds j u) {cls:=.type "list",data:=.seq its.toArray n }={cls:=.type "list",data:=.seq (its.set j u).toArray n }:=by
 simp[Obj.mapSeq]
theorem Inv.lst{pins:List (Addr × Obj)}{σ : St}{H:Hp}{s:Shared}{p:Addr}{xs:List V}(I:Inv X pins σ H s)(h:H p=some (.lst xs)) :
  ∃(its:List Value) (n:Nat),Vals xs its/\s.heap.get? p=some {cls:=.type "list",data:=.seq its.toArray n }/\xs.length<=sizeLine:=by
 obtain⟨z,its,n,r,e⟩:=I.hok p _ h
 exact⟨its,n,r,e,z⟩
theorem Inv.WQ{pins:List (Addr × Obj)}{σ : St}{H:Hp}{s:Shared}{p:Addr}{xs ys:List V}{its its':List Value}{n n':Nat}{f:Obj->Obj}(I:Inv X pins σ H s)(h:H p=some (.lst xs))
  (ho:s.heap.get? p=some {cls:=.type "list",data:=.seq its.toArray n }) (hf:f {cls:=.type "list",data:=.seq its.toArray n }={cls:=.type "list",data:=.seq its'.toArray n' }) (r:Vals ys its') (hz:ys.length<=sizeLine) (t:Nat) :
  Inv X pins σ (upd H p (.lst ys)) {s with heap:=s.heap.update p f,toks:=t }:=by
 have e:(s.heap.update p f).get? p=some {cls:=.type "list",data:=.seq its'.toArray n' }:=by
  rw[Heap.get?_update_self f ho (by rw[hf] <;> rfl),hf]
 refine I.write (x:=p) (e:=p) (by rw[h]; trivial) (.inl rfl) (λb u hb q=>(Heap.get?_update_other _ _ (Ne.symm hb)).trans q) ⟨_,e⟩ ?_
 exact⟨hz,its',n',r,e⟩
def N5:V->V->V->Hp->(Hp->Prop)->Prop:=λo i v H Q=>∃p xs k j,o=.ref p/\i=.int k/\H p=some (.lst xs)/\gM xs.length k=some j/\Q (upd H p (.lst (xs.set j v)))
theorem set_list:Mi X N5:=by
 intro pins s σ H o i v ov iv u Q I ro ri rv h
 obtain⟨p,xs,k,j,rfl,rfl,hp,hj,q⟩:=h
 cases ro
 obtain⟨t,rfl⟩:=ri
 obtain⟨its,n,r,ho,hz⟩:=I.lst hp
 obtain⟨h1,h2,h3,h4⟩:=Nz hj
 have hl:=r.length
 have hn:=sI
 have I':Inv X pins σ (upd H p (.lst (xs.set j v))) {s with heap:=s.heap.update p (Obj.mapSeq (·.setIfInBounds j u)) } :=
  I.WQ hp ho (WM its n j u) (r.set rv j) (by rw[List.length_set]; exact hz) s.toks
 by_cases h0:0<=k
 ·have hk:k.toNat=j:=by
   rw[seqIndex_of h0 h4]at h1
   exact Option.some.inj h1
  exact PySem.W.ki_setAt ho h0 (by omega) (by rw[List.size_toArray,<-hl]; exact h4) (by rw[hk]; exact⟨_,I',q⟩)
 ·have hk:(k+(its.toArray.size:Int)).toNat=j:=by
   rw[seqIndex_neg (by omega) h3]at h1
   rw[List.size_toArray,<-hl]
   exact Option.some.inj h1
  exact PySem.W.ki_setBack ho (by omega) (by rw[List.size_toArray,<-hl]; exact h3) (by omega) (by rw[hk]; exact⟨_,I',q⟩)
theorem WR(lo hi:Option Int)(n:Nat):(sliceBounds lo hi none n).1=((HT.bQ n 0 lo:Nat):Int)/\(sliceBounds lo hi none n).2.1=((HT.bQ n n hi:Nat):Int)/\(sliceBounds lo hi none n).2.2=1:=by
 refine⟨?_,?_,rfl⟩
 ·cases lo with
  |none=>simp[sliceBounds,HT.bQ]
  |some i =>
   simp only[sliceBounds,HT.bQ,Option.getD_none,show(1:Int) > 0 by decide,if_true]
   by_cases h:i<0
   ·simp only[h,if_true] <;> omega
   ·simp only[h,if_false] <;> omega
 ·cases hi with
  |none=>simp[sliceBounds,HT.bQ]
  |some i =>
   simp only[sliceBounds,HT.bQ,Option.getD_none,show(1:Int) > 0 by decide,if_true]
   by_cases h:i<0
   ·simp only[h,if_true] <;> omega
   ·simp only[h,if_false] <;> omega
theorem WT(its:List Value)(lo hi:Option Int):slicePick its.toArray lo hi none=((its.drop (HT.bQ its.length 0 lo)).take (HT.bQ its.length its.length hi-HT.bQ its.length 0 lo)).toArray:=by
 obtain⟨h1,h2,h3⟩:=WR lo hi its.toArray.size
 unfold slicePick
 rw[h1,h2,h3]
 simp only[sliceRange_one,pick_run,List.size_toArray] <;> rfl
def N6(K:FZ):V->Option Int->Option Int->Hp->VK->Prop:=λx lo hi H Q=>∃a xs,x=.ref a/\bw K H a xs/\∀p,H p=none->Q (.ref p) (upd H p (.lst (qL xs lo hi)))
theorem WW:mz X (N6 X.K):=by
 intro pins s σ H x v vl vu lo hi sl Q I rx hs pl pu h
 obtain⟨a,xs,rfl,hx,q⟩:=h
 cases rx
 obtain⟨its,r,ht,hz⟩:=I.list hx
 have hlen:=r.length
 refine⟨"list",_,slot_list_getitem.lookup,ht.isList.typeIs,?_⟩
 refine wpAny_getItem_list_slice ht.isList hs pl pu .none (by simp) ?_ (by rw[List.size_toArray] <;> omega)
 rw[WT,<-hlen]
 refine⟨.ref s.heap.objs.size,_,I.laid (t':=s.toks) (o:=.lst (qL xs lo hi)) (λb ob q=>Heap.get?_push_of_some _ q) (Nat.le_refl _) ?_,rfl,q _ (I.hok.fresh (Nat.le_refl _))⟩
 exact⟨Nat.le_trans (Nu xs lo hi) hz,_,0,(r.drop (HT.bQ xs.length 0 lo)).take (HT.bQ xs.length xs.length hi-HT.bQ xs.length 0 lo),Heap.get?_push_size _ rfl⟩
theorem WX:iJ X (.builtin "len") (λxs H Q=>∃p ys,xs=[.ref p]/\(bw X.K H p ys\/c7 X.K H p ys)/\Q (.int ys.length) H):=by
 intro pins s σ H xs us Q I r h
 obtain⟨p,ys,rfl,hq,q⟩:=h
 obtain⟨u,rfl,rx⟩:=vals1 r
 cases rx
 have hn:=sI
 rcases hq with hq|hq
 ·obtain⟨its,r',pl,hz⟩:=I.list hq
  have hlen:=r'.length
  exact Calls.call_len_list pl.isList (by simp only[List.size_toArray] <;> omega) ⟨.int ys.length,H,I.tok _,⟨s.toks+1,by rw[List.size_toArray,hlen]⟩,q⟩
 ·obtain⟨its,r',pl,hz⟩:=I.tuple hq
  have hlen:=r'.length
  exact len_tuple pl (by simp only[List.size_toArray] <;> omega) ⟨.int ys.length,H,I.tok _,⟨s.toks+1,by rw[List.size_toArray,hlen]⟩,q⟩
theorem WY:iJ X (.builtin "len") (λxs H Q=>∃z,xs=[.str z]/\z.length<=sizeLine/\Q (.int z.length) H):=by
 intro pins s σ H xs us Q I r h
 obtain⟨z,rfl,hz,q⟩:=h
 obtain⟨u,rfl,t,rfl⟩:=vals1 r
 have hn:=sI
 exact len_str (by omega) ⟨.int z.length,H,I.tok _,⟨_,rfl⟩,q⟩
theorem iJ.or{f:Value}{r r':List V->Hp->VK->Prop}(h:iJ X f r)(h':iJ X f r'):iJ X f (λxs H Q=>r xs H Q\/r' xs H Q):=by
 intro pins s σ H xs us Q I rs q
 rcases q with q|q
 ·exact h pins s σ H xs us Q I rs q
 ·exact h' pins s σ H xs us Q I rs q
theorem zV:iJ X (.type "list") (λxs H Q=>∃p ys,xs=[.ref p]/\(bw X.K H p ys\/c7 X.K H p ys)/\∀l,H l=none->Q (.ref l) (upd H l (.lst ys))):=by
 intro pins s σ H xs us Q I r h
 obtain⟨p,ys,rfl,hq,q⟩:=h
 obtain⟨u,rfl,rx⟩:=vals1 r
 cases rx
 have fin:∀(its:List Value),Vals ys its->ys.length<=sizeLine->∀(h':Heap) (c':Nat),(∀b o',s.heap.get? b=some o'->h'.get? b=some o') ->
   h'.get? s.heap.objs.size=some {cls:=.type "list",dict:=none,data:=.seq its.toArray c',slots:=#[] }->EP X pins σ Q (.ref s.heap.objs.size) {s with heap:=h' }:=λits r' hz h' c' kp e =>
  ⟨.ref s.heap.objs.size,_,I.laid (t':=s.toks) kp (Nat.le_refl _) (show jV X.prog X.w _ h' _ (.lst ys)from⟨hz,its,c',r',e⟩),rfl,q _ (I.hok.fresh (Nat.le_refl _))⟩
 rcases hq with hq|hq
 ·obtain⟨its,r',pl,hz⟩:=I.list hq
  have hlen:=r'.length
  obtain⟨o,ho,hc,n,hd⟩:=pl.isList
  exact call_list_seq p (.inl rfl) ho hc hd (λh' c' kp e=>fin its r' hz h' c' kp e) (by simp only[List.size_toArray] <;> omega)
 ·obtain⟨its,r',pl,hz⟩:=I.tuple hq
  have hlen:=r'.length
  obtain⟨o,ho,hc,n,hd⟩:=pl
  exact call_list_seq p (.inr rfl) ho hc hd (λh' c' kp e=>fin its r' hz h' c' kp e) (by simp only[List.size_toArray] <;> omega)
noncomputable def Fj(K:FZ)(T:String)(x:V)(H:Hp):Prop:=match x with
 |.str _=>T = "str"
 |.int _=>T = "int"
 | .ref p=>(T = "list" ∧ ∃xs,bw K H p xs)∨(T = "tuple" ∧ ∃o,K.lookup p=some o∧o.cls=.type "tuple" ∧ o.dict=none) ∨
   (T = "dict" ∧ ((∃kvs,H p=some (.dK kvs))∨∃kvs,H p=some (.dT kvs)))∨(T = "set" ∧ ∃S n,H p=some (.set S n))
 |_=>False
theorem N7{pins:List (Addr × Obj)}{σ : St}{H:Hp}{s:Shared}{T:String}{x:V}{v:Value}(I:Inv X pins σ H s)(r:RelV x v)(ty:Fj X.K T x H) :
  s.TypeIs v T/\∀a,v=.ref a->∃ob,s.heap.get? a=some ob/\ob.dict=none:=by
 cases x with
 |str z =>
  obtain⟨t,rfl⟩:=r
  cases(show T = "str" from ty)
  exact⟨typeIs_str s z t,λ_ e=>nomatch e⟩
 |int i =>
  obtain⟨t,rfl⟩:=r
  cases(show T = "int" from ty)
  exact⟨typeIs_int s i t,λ_ e=>nomatch e⟩
 |ref p =>
  cases r
  rcases ty with⟨rfl,xs,hq⟩|⟨rfl,o,hk,hc,hd⟩|⟨rfl,hk⟩|⟨rfl,S,n,hk⟩
  ·obtain⟨its,_,pl,_⟩:=I.list hq
   refine⟨pl.isList.typeIs,λa e=>?_⟩
   cases e
   obtain⟨o,n,e,c,hd,_⟩:=pl
   exact⟨o,e,hd⟩
  ·refine⟨⟨o,I.jK p o hk,hc⟩,λa e=>?_⟩
   cases e
   exact⟨o,I.jK _ o hk,hd⟩
  ·have z:∃o,s.heap.get? p=some o/\o.ExactDict:=by
    rcases hk with⟨kvs,hk⟩|⟨kvs,hk⟩
    ·obtain⟨_,_,_,_,o,_,_,e,ex,_⟩:=I.hok p _ hk
     exact⟨o,e,ex⟩
    ·obtain⟨_,_,_,_,o,_,_,e,ex,_⟩:=I.hok p _ hk
     exact⟨o,e,ex⟩
   obtain⟨o,e,ex⟩:=z
   refine⟨⟨o,e,ex.1⟩,λa e2=>?_⟩
   cases e2
   exact⟨o,e,ex.2.1⟩
  ·obtain⟨o,_,_,_,e,ex,_⟩:=I.hok p _ hk
   refine⟨⟨o,e,ex.1⟩,λa e2=>?_⟩
   cases e2
   exact⟨o,e,ex.2.1⟩
 |_=>exact False.elim ty
def zW(K:FZ)(T:String)(r:V->List V->Hp->VK->Prop)(to:TE):TE:=λσ H Q=>to σ H λx H1=>Fj K T x H1/\r x [] H1 Q
def wK(K:FZ)(T:String)(r:V->List V->Hp->VK->Prop)(to:TE)(t:TA):TE:=λσ H Q=>to σ H λx H1=>Fj K T x H1/\t σ H1 λxs H2=>r x xs H2 Q
variable {o e:Expr}{es:List Expr}{to:TE}{t:TA}{name:Str}{apos cpos:Pos}{T id:String}{r:V->List V->Hp->VK->Prop}
theorem N8(pa:PlainAttrs T)(slot:Slot T name id)(hty:typeOf (.builtin id)=pure (.type "method_descriptor")) (hm:NP X id r) (ho:PE X o to)
  (hbase:attributeBase o name X.env (eval o X.env)=eval o X.env:=by rfl) (hline:(apos.endLine == cpos.line)=true:=by rfl):PE X (.Call (.Attribute o name apos) [] [] cpos) (zW X.K T r to):=by
 refine⟨λpins s σ H Q I h=>?_⟩
 refine wpAny_Call_method0_late hbase hline (bh (ho pins s σ H _ I h) λv s1 ⟨x,H1,I1,r1,ty,q1⟩=>?_)
 obtain⟨h1,h2⟩:=N7 I1 r1 ty
 exact⟨T,id,pa,slot,hty,h1,h2,Calls.callWith_builtin rfl (PySem.evalArgs_none (hm pins s1 σ H1 x [] v [] Q I1 r1 .nil q1))⟩
theorem qN(pa:PlainAttrs T)(slot:Slot T name id)(hty:typeOf (.builtin id)=pure (.type "method_descriptor")) (hm:NP X id r) (ho:PE X o to) (ha:PA X (e::es) t)
  (hbase:attributeBase o name X.env (eval o X.env)=eval o X.env:=by rfl)
  (hfew:((backTo cpos (starEach (e::es) X.env)).all (λx=>!x.1)&&(backToKw cpos (keywordEach [] X.env)).all (λx=>x.1.isSome)
   && decide ((e::es).length+([]:List Keyword).length+(if([]:List Keyword).isEmpty then 0 else 1)<30))=true:=by rfl)
  (hline:(apos.endLine == cpos.line)=true:=by rfl) (hs:starEach (e::es) X.env=(false,eval e X.env)::starEach es X.env:=by rfl) (hplain:(backTo cpos (starEach es X.env)).any (·.1)=false:=by rfl) :
  PE X (.Call (.Attribute o name apos) (e::es) [] cpos) (wK X.K T r to t):=by
 refine⟨λpins s σ H Q I h=>?_⟩
 refine wpAny_Call_method_late hbase hfew hline rfl (bh (ho pins s σ H _ I h) λv s1 ⟨x,H1,I1,r1,ty,q1⟩=>?_)
 obtain⟨h1,h2⟩:=N7 I1 r1 ty
 refine⟨T,id,pa,slot,hty,h1,h2,?_⟩
 have hA:=ha cpos pins s1 σ H1 _ I1 q1
 rw[hs]at hA ⊢
 refine Calls.callWith_builtin (by show(false || (backTo cpos (starEach es X.env)).any (·.1))=false; rw[hplain] <;> rfl) (Calls.evalArgs_plain ?_)
 exact bh hA λus s2 ⟨vs,H2,I2,r2,q2⟩=>hm pins s2 σ H2 x vs v us Q I2 r1 r2 q2
end
end L2
namespace L2
open PySem PySem.Spec PyProof.Rows
noncomputable def zX(X:Cx)(id:String)(r:V->List V->Hp->VK->Prop):Prop :=
 ∀(pins:List (Addr × Obj)) (s:Shared) (σ : St) (H:Hp) (x:V) (xs:List V) (v:Value) (us:List Value) (Q:VK),Inv X pins σ H s->RelV x v->Vals xs us->r x xs H Q ->
  wpAny (model X.prog X.w) X.A (call (.builtin id) (v::us)) (EP X pins σ Q) X.xe s
theorem Vals.one:∀{x:V} {us:List Value},Vals [x] us->∃u,us=[u]/\RelV x u
 |_,_,.cons r .nil=>⟨_,rfl,r⟩
theorem Vals.zero:∀{us:List Value},Vals [] us->us=[]
 |_,.nil=>rfl
theorem Vals.reverse{xs:List V}{us:List Value}(h:Vals xs us):Vals xs.reverse us.reverse:=by
 induction h with
 |nil=>exact .nil
 |cons r t ih=>rw[List.reverse_cons,List.reverse_cons]; exact Vals.append ih (.cons r .nil)
theorem Vals.rep{xs:List V}{us:List Value}(h:Vals xs us):∀k:Nat,Vals (List.replicate k xs).flatten (List.replicate k us).flatten
 | 0=>.nil
 |k+1=>by
  rw[List.replicate_succ,List.replicate_succ,List.flatten_cons,List.flatten_cons]
  exact Vals.append h (Vals.rep h k)
theorem foldl_rep(its:List Value):∀(k:Nat) (acc:List Value),
  List.foldl (λx1 x2=>x1++x2) acc.toArray (List.replicate k its.toArray)=(acc++(List.replicate k its).flatten).toArray
 | 0,acc=>by simp
 |k+1,acc=>by
  have e:acc.toArray++its.toArray=(acc++its).toArray:=by simp
  have e2:(acc++its)++(List.replicate k its).flatten=acc++(List.replicate (k+1) its).flatten:=by
   rw[List.replicate_succ,List.flatten_cons,List.append_assoc]
  rw[<-e2,<-foldl_rep its k (acc++its),<-e,List.replicate_succ,List.foldl_cons]
section
variable {X:Cx}{pins:List (Addr × Obj)}{σ : St}{H:Hp}{s:Shared}{l b:Addr}{xs ys zs:List V}
theorem Inv.zY{its its':List Value}{n:Nat}{f:Array Value->Array Value}{t':Nat}(I:Inv X pins σ H s)(hH:H l=some (.lst xs))
  (e:s.heap.get? l=some {cls:=.type "list",data:=.seq its.toArray n }) (hf:f its.toArray=its'.toArray) (hv:Vals ys its') (hz:ys.length<=sizeLine) :
  Inv X pins σ (upd H l (.lst ys)) {s with heap:=s.heap.update l (Obj.mapSeq f),toks:=t' }:=by
 have q:=PySem.IsL.update e f
 rw[hf]at q
 refine I.write (x:=l) (e:=l) (by rw[hH]; exact trivial) (.inl rfl) (λb' u hb hu=>(Heap.get?_update_other s.heap (Obj.mapSeq f) (Ne.symm hb)).trans hu) ⟨_,q⟩ ?_
 exact⟨hz,its',_,hv,q⟩
theorem Inv.zZ{its:List Value}{t':Nat}(I:Inv X pins σ H s)(hv:Vals ys its)(hz:ys.length<=sizeLine) :
  Inv X pins σ (upd H s.heap.objs.size (.lst ys)) {s with heap:=s.heap.push {cls:=.type "list",data:=.seq its.toArray },toks:=t' } :=
 I.laid (λ_ _ q=>Heap.get?_push_of_some _ q) (Nat.le_refl _) ⟨hz,its,0,hv,Heap.get?_push_size _ rfl⟩
theorem Inv.fresh(I:Inv X pins σ H s):H s.heap.objs.size=none:=I.hok.fresh (Nat.le_refl _)
theorem Inv.Aa(I:Inv X pins σ H s)(hH:H l=some (.lst xs)):xs.length<=sizeLine/\∃(its:List Value) (n:Nat),Vals xs its/\xs.length=its.length/\s.heap.get? l=some {cls:=.type "list",data:=.seq its.toArray n }:=by
 obtain⟨z,its,n,r,e⟩:=I.hok l _ hH
 exact⟨z,its,n,r,r.length,e⟩
theorem W4{n:Nat}(h:n<=sizeLine):Builtin.List.listTooLong n=false:=by
 unfold Builtin.List.listTooLong
 exact decide_eq_false (by omega)
end
section
variable {X:Cx}
def Ab:V->List V->Hp->VK->Prop:=λx vs H Q=>∃l xs y,x=.ref l/\vs=[y]/\H l=some (.lst xs)/\xs.length<sizeLine/\Q .non (upd H l (.lst (xs++[y])))
theorem pI:zX X "list.append" Ab:=by
 intro pins s σ H x vs v us Q I rx rv h
 obtain⟨l,xs,y,rfl,rfl,hH,hz,q⟩:=h
 cases rx
 obtain⟨u,rfl,ru⟩:=rv.one
 obtain⟨z,its,n,r,hl,e⟩:=I.Aa hH
 refine call_meets F.slot_list_append ⟨_,e,rfl⟩ F.entry_list_append (F.args_list_append_2 _ _) (PySem.list_append l its.toArray n u (by rw[List.size_toArray]; omega)) ⟨e,?_⟩
 refine⟨.non,_,I.zY (its':=its++[u]) hH e (by simp) (r.append (.cons ru .nil)) ?_,rfl,q⟩
 rw[List.length_append,List.length_singleton]
 omega
def Fo:V->List V->Hp->VK->Prop:=λx vs H Q=>∃l xs,x=.ref l/\vs=[]/\H l=some (.lst xs)/\Q .non (upd H l (.lst xs.reverse))
theorem W6:zX X "list.reverse" Fo:=by
 intro pins s σ H x vs v us Q I rx rv h
 obtain⟨l,xs,rfl,rfl,hH,q⟩:=h
 cases rx
 have hus:=rv.zero
 subst hus
 obtain⟨z,its,n,r,hl,e⟩:=I.Aa hH
 refine call_meets F.slot_list_reverse ⟨_,e,rfl⟩ F.entry_list_reverse (F.args_list_reverse_1 _) (AutoSeq1.list_reverse_list_0 l its.toArray n (by rw[List.size_toArray]; omega)) ⟨e,?_⟩
 refine⟨.non,_,I.zY (its':=its.reverse) hH e (by simp) r.reverse ?_,rfl,q⟩
 rw[List.length_reverse]
 omega
def Oa:V->List V->Hp->VK->Prop:=λx vs H Q=>∃l xs,x=.ref l/\vs=[]/\H l=some (.lst xs)/\Q .non (upd H l (.lst []))
theorem W7:zX X "list.clear" Oa:=by
 intro pins s σ H x vs v us Q I rx rv h
 obtain⟨l,xs,rfl,rfl,hH,q⟩:=h
 cases rx
 have hus:=rv.zero
 subst hus
 obtain⟨z,its,n,r,hl,e⟩:=I.Aa hH
 refine call_meets F.slot_list_clear ⟨_,e,rfl⟩ F.entry_list_clear (F.args_list_clear_1 _) (AutoSeq1.list_clear_list_0 l its.toArray n (by rw[List.size_toArray]; omega)) ⟨e,?_⟩
 exact⟨.non,_,I.zY (its':=[]) (ys:=[]) hH e rfl .nil (Nat.zero_le _),rfl,q⟩
theorem len_rep{α : Type}(xs:List α)(k:Nat):(List.replicate k xs).flatten.length=k*xs.length:=by
 induction k with
 |zero=>simp
 |succ k ih=>rw[List.replicate_succ,List.flatten_cons,List.length_append,ih,Nat.succ_mul,Nat.add_comm]
end
section
variable {prog:Program}{w:World}{A:Around}{E:Value->Shared->Prop}{s:Shared}
end
section
variable {X:Cx}
end
end L2
namespace Ob
open PySem PySem.W PySem.Calls PyProof.Rows
theorem W8{P:Params}{h:Heap}:∀(ns:List Int) (vs:List Value),WellAll P h vs (ns.map WData.int)->IntsAre vs ns:=by
 intro ns
 induction ns with
 |nil =>
  intro vs w
  rw[List.map_nil]at w
  cases w
  exact .nil
 |cons n ns ih =>
  intro vs w
  rw[List.map_cons]at w
  cases w with
  |cons a b =>
   cases a
   exact .cons _ _ (ih _ b)
theorem W9{l:OpenLaw}{n:Nat}(hn:l.most=some n){P:Params}{h:Heap}{args:List WData}{vals:List Value}
  (hpre:l.row.toRowW.claim.pre args=true) (hwl:WellAll P h vals args) :
  ∃a vs ns,vals=[Value.ref a]/\args=[WData.list (ns.map WData.int)]/\h.get? a=some {cls:=.type "list",data:=.seq vs.toArray }/\IntsAre vs ns/\ns.length<=n:=by
 have hsh:WShape.hasAll [] args [.list .int]=true:=(pre_splitW hpre).1
 have hc:l.pre.holds [] {args:=args }=true:=(pre_splitW hpre).2
 obtain⟨d,r,rfl,h1,h2⟩:=hasAllW_cons hsh
 obtain rfl:=hasAllW_nil h2
 obtain⟨xs,rfl,h3⟩:=hasW_list h1
 obtain⟨ns,rfl⟩:=items_int h3
 have hlen:ns.length<=n:=by
  unfold OpenLaw.pre at hc
  have h4:(WTm.not (.lt (.lit (.int (n:Int))) (.len (.arg 0)))).holds [] {args:=[.list (ns.map .int)] }=true:=by
   have h4:=(holds_andW hc).1
   rw[hn]at h4
   exact h4
  have h5:=condW_of h4 (w_not (w_lt w_lit (w_len_list (w_arg rfl))))
  rw[List.length_map]at h5
  refine Nat.le_of_not_lt λq=>?_
  have q':(n:Int)<((ns.length:Nat):Int):=by omega
  first
   |(rw[decide_eq_true q']at h5; exact absurd h5 (by decide))
   |(simp at h5; omega)
 cases hwl with
 |cons w1 w2 =>
  cases w2
  cases w1 with
  |list ho hall=>exact⟨_,_,ns,rfl,rfl,ho,W8 ns _ hall,hlen⟩
theorem Xa(l:OpenLaw)(args:List WData):l.row.toRowW.claim.post args (.bool true) args=true :=
 postW_of (r:=l.row.toRowW) (X:=(true == true))
  (show WShape.has [] (.bool true) .bool=true by first|rfl|decide|simp[WShape.has,WShape.arms,WShape.armsAll])
  (show(WTm.eq .res (.lit (.bool true))).value [] {args:=args,res:=some (.bool true),after:=args }=some (.bool (true == true))from w_eq_bool (w_res rfl) w_lit) rfl
theorem Xb{l:OpenLaw}{n:Nat}{q:Program}{loose:List Str}{XP:(Str->Option Value)->Heap->Prop}{YP:World->Heap->Prop}{d:DefRec}
  (hn:l.most=some n) (hdf:d.params.defaults=[])
  (call:∀(w:World) (s₀ s₁ : Shared) (mg mb:Str->Option Value) (fa:Addr) (o:Obj) (pm cd doc:Value) (a:Addr) (vs:List Value) (ns:List Int),
   Ground q loose [] XP w s₀ mg mb s₁.heap->YP w s₁.heap ->
   s₁.heap.get? fa=some o->o.data=.func (docDef d.name d.params d.body d.scope pm cd doc)->s₁.heap.CodeRec cd d.name->mg d.name=some (.ref fa) ->
   s₁.heap.get? a=some {cls:=.type "list",data:=.seq vs.toArray }->IntsAre vs ns->ns.length<=n->s₁.gens = #[] ->
   codeAny (model l.prog w) callerA (.call (.ref fa) ⟨[.ref a],[]⟩) (λr s'=>r=.ok (.ret (.bool true))/\OldK s₁.heap s'.heap/\s'.os=s₁.os/\AllBare s'.gens) s₁) :
  WalkO q loose XP YP l.row.toRowW d [] (λf vs=>PySem.call f vs):=by
 intro w s₀ s₁ mg mb G Y fa o pm cd doc dV kV ho hd hcd hD hmg hg args vals as hpre hlay hrd hwl hlo
 obtain rfl:dV=.none:=Dflts.none hD hdf
 obtain rfl:kV=.none:=Dflts.noKw hD
 obtain⟨a,vs,ns,rfl,rfl,hobj,hints,hlen⟩:=W9 hn hpre hwl
 refine enter_call (codeAny_mono (call w s₀ s₁ mg mb fa o pm cd doc a vs ns G Y ho (fd_plain hd) hcd hmg hobj hints hlen hg) λr s' hq=>?_)
 obtain⟨rfl,h2,h3,h4⟩:=hq
 exact⟨.inl ⟨.bool true,.bool true,[],rfl,λ_=>rfl,.bool true,Xa l _,λ_=>⟨List.Pairwise.nil,λ_ hm=>(nomatch hm)⟩⟩,h2,h3,h4⟩
section
variable {prog:Program}{w:World}{A:Around}{E:Value->Shared->Prop}{s:Shared}{K:Frag}
end
end Ob
namespace L2
open PySem PySem.Spec PyProof.Rows
theorem Oc:∀{vs:List Value} {ns:List Int},IntsAre vs ns->Vals (ns.map V.int) vs
 |_,_,.nil=>.nil
 |_,_,.cons n t h=>.cons ⟨t,rfl⟩ (Oc h)
end L2
namespace L2
open PySem PySem.Spec PyProof.Rows
end L2
namespace L2
open PySem PySem.Spec PyProof.Rows
def mD(s:Stmt):Arguments:=match s with
 |.FunctionDef _ a _ _ _ _ _ _ _ _=>a
 |_=>{posonlyargs:=[],args:=[],vararg:=none,kwonlyargs:=[],kw_defaults:=[],kwarg:=none,defaults:=[] }
def jg(s:Stmt):List Stmt:=match s with
 |.FunctionDef _ _ b _ _ _ _ _ _ _=>b
 |_=>[]
def bx(s:Stmt):Scope:=match s with
 |.FunctionDef _ _ _ _ _ _ sc _ _ _=>sc
 |_=>{kind:=.function,names:=[],isGenerator:=false,isCoroutine:=false }
abbrev E0:XK:=λ_ _ _=>False
structure sJ(K:FZ)(x qual:Str)(st:Stmt)(f:Addr)(fd:FuncData):Prop where
 ex:∃(oc:Value) (od:Option Addr) (kV doc pm:Value) (an:Option Addr) (cdv ct:Value) (osl:Array (Option Value)),
  fd=PySem.W.fnOf x qual (mD st) (jg st) (bx st) .none kV doc pm an cdv ct/\K.lookup f=some ⟨oc,od,.func fd,osl⟩/\PySem.W.codeIn K cdv qual=true
 kp:PySem.W.keepIn K (.ref f)=true
section
variable {P:Program}{w:World}{K:FZ}{mg:Str->Option Value}{base:Heap}
theorem sJ.binds{x qual:Str}{st:Stmt}{f:Addr}{fd:FuncData}{ps:List Str}(F:sJ K x qual st f fd)
  (h:∀(kV doc pm:Value) (an:Option Addr) (cdv ct:Value) (us:List Value),us.length=ps.length->bindArgs (PySem.W.fnOf x qual (mD st) (jg st) (bx st) .none kV doc pm an cdv ct) ⟨us,[]⟩=pure (ps.zip us)):Binds K fd ps []:=by
 obtain⟨oc,od,kV,doc,pm,an,cdv,ct,osl,rfl,lk,hcd⟩:=F.ex
 exact .all (h kV doc pm an cdv ct)
theorem Od{x qual:Str}{st:Stmt}{f:Addr}{oc:Value}{od an:Option Addr}{osl:Array (Option Value)}{kV doc pm cdv ct:Value}(l:K.lookup f=some ⟨oc,od,.func (PySem.W.fnOf x qual (mD st) (jg st) (bx st) .none kV doc pm an cdv ct),osl⟩)
  (c:PySem.W.codeIn K cdv qual=true) (k:PySem.W.keepIn K (.ref f)=true):sJ K x qual st f (PySem.W.fnOf x qual (mD st) (jg st) (bx st) .none kV doc pm an cdv ct):=⟨⟨oc,od,kV,doc,pm,an,cdv,ct,osl,rfl,l,c⟩,k⟩
end
theorem Oe{n:Nat}(h:n<=1000):n<sizeLine:=Nat.lt_of_le_of_lt h (by decide)
section
variable {X:Cx}
end
def Same(H H':Hp):Prop:=∀b o,H b=some o->H' b=some o
theorem Same.refl(H:Hp):Same H H:=λ_ _ h=>h
theorem Same.trans{H H1 H2:Hp}(a:Same H H1)(b:Same H1 H2):Same H H2:=λc o h=>b c o (a c o h)
theorem Same.free{H H':Hp}(e:Same H H'){l:Addr}(h:H' l=Option.none):H l=Option.none:=by
 cases q:H l with
 |none=>rfl
 |some o =>
  rw[e l o q]at h
  cases h
theorem Same.seq{K:FZ}{H H':Hp}{a:Addr}{xs:List V}(e:Same H H')(h:bw K H a xs):bw K H' a xs:=by
 rcases h with(h|⟨o,h⟩)|h
 ·exact .inl (.inl (e _ _ h))
 ·exact .inl (.inr ⟨o,e _ _ h⟩)
 ·exact .inr h
end L2
end
section
namespace L2
open PySem PySem.Spec PyProof.Rows
section
variable {prog:Program}{w:World}{A:Around}{R:Result->Shared->Prop}{s:Shared}
theorem Xc{elt target iter:Expr}{scope:Scope}{pos:Pos}{it acc:Value}{env:Env}(I:Nat->Shared->Prop)
  (turn:∀n s,I n s->wpAny (model prog w) A (pyNext it) (λr s₁=>match r with
   |none=>R (.ok .next) s₁
   | some v=>wpAny (model prog w) A (letOwnedTupleGo target it v) (λ_ s₁'=>wpAny (model prog w) A (assign target env v) (λ_ s₂ => wpAny (model prog w) A (eval elt env) (λx s₃ =>
     wpAny (model prog w) A (call (.builtin "list.append") [acc,x]) (λ_ s₄=>∃m,m<n/\I m s₄) (λ_ _=>False) s₃) (λ_ _=>False) s₂) (λ_ _=>False) s₁') (λ_ _=>False) s₁) (λ_ _=>False) s)
  (n:Nat) (h:I n s) :
  codeAny (model prog w) A (.compLoop (.ListComp elt [⟨target,iter,[],0⟩] scope pos) 0 it acc env) R s:=by
 refine codeAny_loop rfl I (λn s hI=>?_) n h
 show wpAny _ _ ((compTurn (.ListComp elt [⟨target,iter,[],0⟩] scope pos) 0 it acc env).onRaise (λx=>do noteFrame x env; theTreesLotGoes x)) _ _ s
 refine wpAny_noted (wpAny_noRaise ?_)
 rw[compTurn_list1]
 refine wpAny_bind (wpAny_standAt (wpAny_bind (wpAny_mono (turn n s hI) (λr s₁ h₁=>?_) λ_ _ h'=>h')))
 cases r with
 |none=>exact wpAny_pure h₁
 |some v =>
  refine wpAny_bind (wpAny_mono h₁ (λ_ s₁' h₁'=>?_) λ_ _ h'=>h')
  exact wpAny_bind (wpAny_mono h₁' (λ_ s₂ h₂=>wpAny_bind (wpAny_bind (wpAny_mono h₂ (λx s₃ h₃=>wpAny_bind (wpAny_mono h₃
   (λ_ s₄ h₄=>wpAny_pure (wpAny_pure ⟨rfl,h₄⟩)) λ_ _ h'=>h')) λ_ _ h'=>h'))) λ_ _ h'=>h')
end
def dg(cells:List (Str × Addr)):List (Str × NameKind)->List (Str × Addr)->List (Str × Addr)
 | [],acc=>acc
 |(n,k)::r,acc=>if k=.free then(match cells.lookup n with|some a=>dg cells r ((n,a)::acc)|none=>dg cells r acc)else dg cells r acc
theorem qO{cells:List (Str × Addr)}{x:Str}{c:Addr}:∀{names:List (Str × NameKind)} {acc:List (Str × Addr)},(dg cells names acc).lookup x=some c->acc.lookup x=some c\/cells.lookup x=some c
 | [],acc,h=>.inl h
 |(n,k)::r,acc,h=>by
  unfold dg at h
  split at h
  ·split at h
   ·rename_i a ha
    rcases qO h with q|q
    ·by_cases e:x=n
     ·subst e
      rw[List.lookup_cons,beq_self_eq_true]at q
      cases q
      exact .inr ha
     ·rw[List.lookup_cons,beq_false_of_ne e]at q
      exact .inl q
    ·exact .inr q
   ·exact qO h
  ·exact qO h
theorem sO{cells:List (Str × Addr)}{x:Str}:∀{names:List (Str × NameKind)} {acc:List (Str × Addr)},((acc.lookup x).isSome=true\/((x,NameKind.free)∈names/\(cells.lookup x).isSome=true))->((dg cells names acc).lookup x).isSome=true
 | [],acc,h=>by
  rcases h with h|⟨h,_⟩
  ·exact h
  ·cases h
 |(n,k)::r,acc,h=>by
  have up:∀a,(acc.lookup x).isSome=true->(List.lookup x ((n,a)::acc)).isSome=true:=λa q=>by
   rw[List.lookup_cons]
   split
   ·rfl
   ·exact q
  unfold dg
  split
  ·rename_i hk
   split
   ·rename_i a ha
    refine sO ?_
    rcases h with h|⟨h,hc⟩
    ·exact .inl (up a h)
    ·rcases List.mem_cons.mp h with e|e
     ·cases e
      refine .inl ?_
      rw[List.lookup_cons,beq_self_eq_true]
      rfl
     ·exact .inr ⟨e,hc⟩
   ·rename_i hn
    refine sO ?_
    rcases h with h|⟨h,hc⟩
    ·exact .inl h
    ·rcases List.mem_cons.mp h with e|e
     ·cases e
      rw[hn]at hc; cases hc
     ·exact .inr ⟨e,hc⟩
  ·rename_i hk
   refine sO ?_
   rcases h with h|⟨h,hc⟩
   ·exact .inl h
   ·rcases List.mem_cons.mp h with e|e
    ·cases e; exact absurd rfl hk
    ·exact .inr ⟨e,hc⟩
theorem wL{scope:Scope}{env:Env}(h:∀y∈scope.names,y.2=.free->(env.cells.lookup y.1).isSome=true):closureFor scope env=pure (dg env.cells scope.names []):=by
 unfold closureFor
 suffices q:∀(names:List (Str × NameKind)) (acc:List (Str × Addr)),(∀y∈names,y.2=.free->(env.cells.lookup y.1).isSome=true) ->
   (forIn names acc λx r=>do
    match x with
    |(name,kind)=>if(kind == NameKind.free)=true then do let a <-cellOf env name; pure (ForInStep.yield ((name,a)::r))else pure (ForInStep.yield r):Sem _)=pure (dg env.cells names acc) by
  have z:=q scope.names [] h
  exact(congrArg (λm=>m >>= λcs=>pure cs) z)
 intro names
 induction names with
 |nil=>intro acc _; rfl
 |cons y r ih =>
  intro acc hy
  obtain⟨n,k⟩:=y
  rw[List.forIn_cons]
  unfold dg
  by_cases hk:k=.free
  ·subst hk
   rw[if_pos rfl]
   have q:=hy (n,.free) List.mem_cons_self rfl
   cases e:env.cells.lookup n with
   |none=>rw[e]at q; cases q
   |some a =>
    have ec:cellOf env n=pure a:=by unfold cellOf; rw[e]
    simp only[ec]
    exact ih _ λz hz=>hy z (List.mem_cons_of_mem _ hz)
  ·rw[if_neg hk]
   have hb:(k == NameKind.free)=false:=by simpa using hk
   simp only[hb]
   exact ih _ λz hz=>hy z (List.mem_cons_of_mem _ hz)
theorem Og{env:Env}:∀{names:List (Str × NameKind)} {x:Str},names.lookup x=some .free ->
  (names.map λ(n,k)=>if(k == NameKind.free&&env.scope.kind == .function&&env.kindOf n == some .cell)then(n,NameKind.cell)else(n,k)).lookup x=some .cell \/
  (names.map λ(n,k)=>if(k == NameKind.free&&env.scope.kind == .function&&env.kindOf n == some .cell)then(n,NameKind.cell)else(n,k)).lookup x=some .free
 | [],_,h=>by simp at h
 |(n,k)::r,x,h=>by
  have ih:=@Og env r x
  rw[List.map_cons]
  dsimp only
  cases hx:x == n with
  |true =>
   simp only[List.lookup_cons,hx]at h
   cases h
   by_cases hc:(NameKind.free == NameKind.free&&env.scope.kind == .function&&env.kindOf n == some .cell)=true
   ·rw[if_pos hc]; simp[List.lookup_cons,hx]
   ·rw[if_neg hc]; simp[List.lookup_cons,hx]
  |false =>
   simp only[List.lookup_cons,hx]at h
   by_cases hc:(k == NameKind.free&&env.scope.kind == .function&&env.kindOf n == some .cell)=true
   ·rw[if_pos hc]; simp only[List.lookup_cons,hx]; exact ih h
   ·rw[if_neg hc]; simp only[List.lookup_cons,hx]; exact ih h
theorem Oh{env:Env}:∀{names:List (Str × NameKind)} {x:Str},
  ((names.map λ(n,k)=>if(k == NameKind.free&&env.scope.kind == .function&&env.kindOf n == some .cell)then(n,NameKind.cell)else(n,k)).lookup x=some .cell \/
  (names.map λ(n,k)=>if(k == NameKind.free&&env.scope.kind == .function&&env.kindOf n == some .cell)then(n,NameKind.cell)else(n,k)).lookup x=some .free)->names.lookup x=some .cell\/names.lookup x=some .free
 | [],_,h=>by simp at h
 |(n,k)::r,x,h=>by
  have ih:=@Oh env r x
  rw[List.map_cons]at h
  dsimp only at h
  cases hx:x == n with
  |true =>
   by_cases hcc:(k == NameKind.free&&env.scope.kind == .function&&env.kindOf n == some .cell)=true
   ·have hk:k=.free:=by
     simp only[Bool.and_eq_true,beq_iff_eq]at hcc
     exact hcc.1.1
    subst hk
    exact .inr (by simp only[List.lookup_cons,hx])
   ·rw[if_neg hcc]at h
    simp only[List.lookup_cons,hx]at h ⊢
    exact h
  |false =>
   have q:=ih (by
    by_cases hcc:(k == NameKind.free&&env.scope.kind == .function&&env.kindOf n == some .cell)=true
    ·rw[if_pos hcc]at h; simp only[List.lookup_cons,hx]at h; exact h
    ·rw[if_neg hcc]at h; simp only[List.lookup_cons,hx]at h; exact h)
   simp only[List.lookup_cons,hx]
   exact q
theorem pJ:∀(names:List (Str × NameKind)) (n:Nat) (acc:List (Str × Addr)),cellsFrom n names acc=cellsFrom n names []++acc
 | [],_,_=>rfl
 |(x,k)::r,n,acc=>by
  unfold cellsFrom
  split
  ·rw[pJ r (n+1) ((x,n)::acc),pJ r (n+1) [(x,n)],List.append_assoc]
   rfl
  ·exact pJ r n acc
theorem Fp:∀(names:List (Str × NameKind)) (n:Nat) {x:Str} {c:Addr},(x,c)∈cellsFrom n names []->(x,NameKind.cell)∈names
 | [],_,_,_,h=>by cases h
 |(y,k)::r,n,x,c,h=>by
  unfold cellsFrom at h
  split at h
  ·rename_i hk
   have hk:k=.cell:=by simpa using hk
   rw[pJ]at h
   rcases List.mem_append.mp h with z|z
   ·exact List.mem_cons_of_mem _ (Fp r _ z)
   ·have z:=List.mem_singleton.mp z
    cases z
    rw[hk]
    exact List.mem_cons_self
  ·exact List.mem_cons_of_mem _ (Fp r _ h)
theorem uV(x:Str):∀(a b:List (Str × Addr)),(a++b).lookup x=(match a.lookup x with|some c=>some c|none=>b.lookup x)
 | [],_=>rfl
 |(y,c)::r,b=>by
  have ih:=uV x r b
  rw[List.cons_append,List.lookup_cons,List.lookup_cons]
  cases h:x == y with
  |true=>rfl
  |false=>exact ih
theorem Oi{M:Model}{A:Around}{E:Value->Shared->Prop}{s:Shared}{scope:Scope}{globals:Addr}{cl:List (Str × Addr)}{qual:Str}{env:Env}{Q:Env->Shared->Prop}
  (hQ:∀h',h'.Ns s.heap.objs.size (λ_=>none)->(∀b o,s.heap.get? b=some o->h'.get? b=some o)->CellsOk h' (s.heap.objs.size+1) (cellsFrom (s.heap.objs.size+1) scope.names []) ->
   Q {scope:=scope,locals:=s.heap.objs.size,globals:=globals,cells:=cellsFrom (s.heap.objs.size+1) scope.names cl,qual:=qual,func:=none,code:=env.code,frame:=env.frame,builtins:=env.builtins } {s with heap:=h',toks:=s.toks+([]:List (Str × Value)).length }) :
  wpAny M A (newFunctionEnv scope globals cl [] qual none .none (some env)) Q E s:=by
 simp only[newFunctionEnv,Option.isSome_some,if_true]
 refine wpAny_bind (wpAny_alloc ?_)
 refine wpAny_bind (wpAny_layCells _ (λname kind cells=>by cases hkc:kind == NameKind.cell <;> simp[hkc]) _ _ _ _ ?_)
 have ok:=cellsFrom_ok scope.names (s.heap.push {cls:=.type "dict",data:=.dict #[] }) (s.heap.objs.size+1) [] ⟨λ_ _ hm=>(nomatch hm),List.Pairwise.nil⟩ (by rw[Heap.size_push]; exact Nat.le_refl _)
 rw[Heap.size_push]at ok
 rw[show({s with heap:=s.heap.push {cls:=.type "dict",data:=.dict #[] } }:Shared).heap.objs.size=s.heap.objs.size+1 from Heap.size_push ..]
 rw[List.forIn_nil]
 exact wpAny_bind (wpAny_pure (wpAny_pure (hQ _ ((Heap.Ns.new s.heap (.type "dict")).keeps (pushCells_keeps _ _)) (λb o e=>pushCells_keeps _ _ b o (Heap.get?_push_of_some _ e)) ok)))
structure qP(sc:Scope)(No N:List Str)(src:List (Option Nat))(scope:Scope):Prop where
 kind:scope.kind=.function
 cells:∀y∈scope.names,y.2=.cell->scope.names.lookup y.1=some .cell
 names:∀y∈scope.names,y.2=.local->scope.names.lookup y.1=some .local
 free:∀y∈scope.names,y.2=.free->sc.names.lookup y.1=some .cell\/sc.names.lookup y.1=some .free
 len:src.length=N.length
 up:∀p∈N.zip src,∀j∈p.2,No[j]?=some p.1/\scope.names.lookup p.1=some .free
def dJ(src:List (Option Nat))(σ : St):St:=src.map λo=>o.bind λj=>(σ[j]?).join
noncomputable def eO(X:Cx)(N:List Str)(scope:Scope)(C:Addr)(s:Shared)(H:Hp)(ex:List Addr):Cx where
 prog:=X.prog
 w:=X.w
 K:=X.K
 mg:=X.mg
 base:=X.base
 A:=X.A
 N:=N
 s₀ := s
 H₀ := H
 env:=compEnvC scope (cellsFrom (C+1) scope.names (dg X.env.cells scope.names [])) C X.env
 outer:=X.stack
 stack:=X.stack
 ex:=ex
 fn:=λx=>scope.names.lookup x == some .cell
 calm:=X.calm
 pn:=[]
 xe:=λ_ _=>False
def Oj(Q:VK)(D:Addr)(H:Hp):Prop:=Q (.ref D) H
noncomputable def qQ(wi:TI)(g:TG)(src:List (Option Nat))(te:TE):TE:=λσ H Q=>wi σ H λJ H1=>∀D,H1 D=none ->
 ∃W:Nat->Nat->St->Hp->Prop,(∃m,W 0 m (dJ src σ) (upd H1 D (.lst [])))/\∀i m σ' H',W i m σ' H' ->
  (J.stop i H'/\Oj Q D H')\/(J.go i H'/\∀x dM,J.lY i H' x dM->g x σ' dM λσ2 H2=>te σ2 H2 λv H3=>∃xs,H3 D=some (.lst xs)/\xs.length<sizeLine/\∃m',m'<m/\W (i+1) m' σ2 (upd H3 D (.lst (xs++[v]))))
section
variable {X:Cx}{elt tg iter:Expr}{scope sc:Scope}{pos:Pos}{No N:List Str}{src:List (Option Nat)}{wi:TI}{g:TG}{te:TE}
theorem Ol{pins:List (Addr × Obj)}{σ : St}{H:Hp}{s:Shared}{h₁ : Heap}{fp:List Addr}{tk:Nat}(hsc:X.env.scope=sc)(iy:X.N=No)(S:qP sc No N src scope)(I:Inv X pins σ H s)
  (hf:∀b∈fp,dN X pins H b) (hlt:∀b∈fp,b<s.heap.objs.size)
  (hns:h₁.Ns s.heap.objs.size (λ_=>none)) (old:∀b o,s.heap.get? b=some o->h₁.get? b=some o) (ck:CellsOk h₁ (s.heap.objs.size+1) (cellsFrom (s.heap.objs.size+1) scope.names [])) :
  Inv (eO X N scope s.heap.objs.size s H fp) [] (dJ src σ) H {s with heap:=h₁,toks:=tk }:=by
 subst hsc
 subst iy
 have uW:∀x c,(cellsFrom (s.heap.objs.size+1) scope.names (dg X.env.cells scope.names [])).lookup x=some c->(cellsFrom (s.heap.objs.size+1) scope.names []).lookup x=some c\/X.env.cells.lookup x=some c:=λx c h=>by
  rw[pJ,uV]at h
  split at h
  ·rename_i e
   exact .inl (e.trans h)
  ·rcases qO h with q|q
   ·simp at q
   ·exact .inr q
 have big:∀x c,(cellsFrom (s.heap.objs.size+1) scope.names []).lookup x=some c->s.heap.objs.size+1<=c:=λx c h=>(ck.empty x c (PySem.mem_of_lookup h)).2
 have Om:∀x c,X.env.cells.lookup x=some c->c<s.heap.objs.size:=λx c e=>by
  obtain⟨v,q⟩:=I.cell x c e
  exact q.lt
 have afW:∀b∈frs X.stack,b<s.heap.objs.size:=λb hb=>by
  obtain⟨_,o,ho,_⟩:=I.stack.mem hb
  exact Heap.lt_size ho
 refine⟨⟨I.ok.mod,S.kind,I.ok.glob,I.ok.blt,Nat.le_refl _,λx y c h1 h2=>?_,λx hx=>?_,λx c hfn h=>?_,I.ok.hd,I.ok.frames,.inl rfl,λb hb=>⟨Nat.ne_of_lt (hlt b hb),λx c e=>?_⟩,
   I.bs,Nat.le_trans I.ok.qD I.sz,λb o e hb=>?_,λb hb hb'=>?_,I.stack,I.zA⟩,
  rfl,I.bare,Un.kept old,⟨_,hns,λi x v h1 h2 h3=>?_⟩,λx c e=>?_,I.hok.fresh (Nat.le_refl _),λx c e=>?_,λp hp=>absurd (show p∈([]:List (Addr × Obj))from hp) (by simp),I.hok.kept old,?_⟩
 ·rcases uW _ _ h1 with z1|z1
  ·rcases uW _ _ h2 with z2|z2
   ·exact name_of_addr ck.apart (PySem.mem_of_lookup z1) (PySem.mem_of_lookup z2)
   ·exact absurd (Nat.le_trans (big _ _ z1) (Nat.le_of_lt (Om _ _ z2))) (Nat.not_succ_le_self _)
  ·rcases uW _ _ h2 with z2|z2
   ·exact absurd (Nat.le_trans (big _ _ z2) (Nat.le_of_lt (Om _ _ z1))) (Nat.not_succ_le_self _)
   ·exact I.ok.inj x y c z1 z2
 ·-- every cell or free name has its cell
  rcases Oh hx with m|m
  ·exact Option.isSome_iff_exists.mp (PySem.W.cellsFrom_some _ _ _ (.inl m))
  ·have m:=PySem.mem_of_lookup m
   have q:=sO (cells:=X.env.cells) (acc:=[]) (.inr ⟨m,by
    obtain⟨c,e⟩:=I.ok.has x (S.free _ m rfl)
    rw[e]; rfl⟩)
   exact Option.isSome_iff_exists.mp (PySem.W.cellsFrom_some _ _ _ (.inr q))
 ·have hfn:scope.names.lookup x=some .cell:=by
   have z:(scope.names.lookup x == some .cell)=true:=hfn
   simpa using z
  obtain⟨c',e'⟩:=Option.isSome_iff_exists.mp (PySem.W.cellsFrom_some _ (s.heap.objs.size+1) [] (.inl hfn))
  have h:(cellsFrom (s.heap.objs.size+1) scope.names (dg X.env.cells scope.names [])).lookup x=some c:=h
  rw[pJ,uV,e']at h
  cases h
  exact Nat.le_of_succ_le (big _ _ e')
 ·rcases uW _ _ e with z|z
  ·exact λy=>absurd (Nat.le_trans (big _ _ z) (y▸Nat.le_of_lt (hlt b hb))) (Nat.not_succ_le_self _)
  ·exact(hf b hb).2.2.2.2.1 x c z
 ·obtain⟨f0,f1,f2,f3,f4,f5⟩:=hf b hb
  rcases f3 with z|z
  ·exact I.ok.jz b o e z
  ·have q:=Heap.lt_size (I.ok.bs b o e).1
   exact absurd q (Nat.not_lt.mpr z)
 ·obtain⟨f0,f1,f2,_⟩:=hf b hb
  rcases List.mem_cons.mp (I.wF b hb')with z|z
  ·exact f1 z
  ·exact f2 z
 ·have hi:i<src.length:=by
   unfold dJ at h2
   have:=(List.getElem?_eq_some_iff.mp h2).1
   simpa using this
  have h2':((src[i]).bind λj=>(σ[j]?).join)=some v:=by
   unfold dJ at h2
   rw[List.getElem?_map,List.getElem?_eq_getElem hi]at h2
   exact Option.some.inj h2
  cases es:src[i]with
  |none=>rw[es]at h2'; cases h2'
  |some j =>
   rw[es]at h2'
   have hj : σ[j]?=some (some v):=by
    have z:(σ[j]?).join=some v:=h2'
    cases q : σ[j]? with
    |none=>rw[q]at z; cases z
    |some o=>rw[q]at z; have z':o=some v:=z; rw[z']
   have hz:(x,some j)∈N.zip src:=by
    refine List.mem_of_getElem? (i:=i) ?_
    rw[List.getElem?_zip_eq_some]
    exact⟨h1,by rw[List.getElem?_eq_getElem hi,es]⟩
   obtain⟨u1,u2⟩:=S.up _ hz j rfl
   have m:(x,NameKind.free)∈scope.names:=PySem.mem_of_lookup u2
   have kx:=S.free _ m rfl
   obtain⟨m0,hn0,hl0⟩:=id I.loc
   obtain⟨u,r,lk⟩:=hl0 j x v u1 hj (kx.elim (λz=>.inr (.inl z)) λz=>.inr (.inr z))
   refine⟨u,r,?_⟩
   rcases lk with⟨k,_⟩|⟨_,c,e,ic⟩
   ·have k':X.env.scope.names.lookup x=some .local:=k
    rcases kx with z|z
    ·rw[z]at k'; cases k'
    ·rw[z]at k'; cases k'
   ·refine .inr ⟨Og u2,c,?_,?_⟩
    ·have q:=sO (cells:=X.env.cells) (acc:=[]) (.inr ⟨m,by rw[e]; rfl⟩)
     obtain⟨c',e'⟩:=Option.isSome_iff_exists.mp q
     have e2:X.env.cells.lookup x=some c':=by
      rcases qO e' with q|q
      ·simp at q
      ·exact q
     rw[e]at e2; cases e2
     show(cellsFrom (s.heap.objs.size+1) scope.names (dg X.env.cells scope.names [])).lookup x=some c
     rw[pJ,uV]
     split
     ·rename_i c2 z
      have y:=S.cells _ (Fp _ _ (PySem.mem_of_lookup z)) rfl
      rw[u2]at y; cases y
     ·exact e'
    ·obtain⟨o,ho,hd⟩:=ic
     exact⟨o,old _ _ ho,hd⟩
 ·rcases uW _ _ e with z|z
  ·exact⟨_,(ck.empty x c (PySem.mem_of_lookup z)).1⟩
  ·obtain⟨v,o,ho,hd⟩:=I.cell x c z
   exact⟨v,o,old _ _ ho,hd⟩
 ·rcases uW _ _ e with z|z
  ·exact I.hok.fresh (Nat.le_of_succ_le (big _ _ z))
  ·exact I.lW x c z
 ·unfold dJ
  rw[List.length_map]
  exact S.len
theorem Oo{pins:List (Addr × Obj)}{σ : St}{H:Hp}{s:Shared}{Q:VK}{RR:Value->Addr->Result->Shared->Prop}(hsc:X.env.scope=sc)(iy:X.N=No)(S:qP sc No N src scope)(hc:X.calm=true)
  (hi:PI X tg iter wi) (hg:∀C s H ex,PG (eO X N scope C s H ex) tg g) (he:∀C s H ex,PE (eO X N scope C s H ex) elt te) (I:Inv X pins σ H s) (h:qQ wi g src te σ H Q)
  (hRR:∀D C H' s' m,Inv X pins σ H' s'->H' C=none->C≠X.env.locals->X.s₀.heap.objs.size<=C->(∀x c,X.env.cells.lookup x=some c->c≠C)->(∀p∈X.pn++pins,p.1≠C)->s'.heap.Ns C m->Q (.ref D) H'->RR (.ref D) C (.ok .next) s') :
  wpAny (model X.prog X.w) X.A (eval iter X.env) (λx s₁=>wpAny (model X.prog X.w) X.A (pyIter x) (λit s₂=>wpAny (model X.prog X.w) X.A (newList []) (λacc s₃ =>
   wpAny (model X.prog X.w) X.A (newFunctionEnv scope X.env.globals (dg X.env.cells scope.names []) [] X.env.qual none .none (some X.env)) (λcenv s₄ =>
    codeAny (model X.prog X.w) X.A (.compStart (.ListComp elt [⟨tg,iter,[],0⟩] scope pos) 0 it acc {cenv with scope:=relabel scope X.env }) (RR acc cenv.locals) s₄) X.xe s₃) X.xe s₂) X.xe s₁) X.xe s:=by
 refine bh (hi pins s σ H _ I h) λv s1 h1=>bh h1 λitv s2 h2=>?_
 obtain⟨it,fp,tn,J,H2,e,I2,T,st2,f2,hW⟩:=h2
 subst e
 have Ft:H2 s2.heap.objs.size=none:=I2.hok.fresh (Nat.le_refl _)
 obtain⟨W,⟨m0,w0⟩,turn⟩:=hW s2.heap.objs.size Ft
 have wM:∀b∈fp,b<s2.heap.objs.size:=λb hb=>by
  obtain⟨o,e,_⟩:=T.obj 0 _ st2 b hb
  exact Heap.lt_size e
 refine wpAny_newObj_type ?_
 have I3:Inv X pins σ (upd H2 s2.heap.objs.size (.lst [])) {s2 with heap:=s2.heap.push {cls:=.type "list",dict:=none,data:=.seq ([]:List Value).toArray } }:=I2.zZ (t':=s2.toks) (ys:=[]) .nil (Nat.zero_le _)
 have f3:∀b∈fp,dN X pins (upd H2 s2.heap.objs.size (.lst [])) b:=λb hb=>by
  obtain⟨q,r⟩:=f2 b hb
  exact⟨by rw[aO (Nat.ne_of_lt (wM b hb))]; exact q,r⟩
 have st3:tn 0 (s2.heap.push {cls:=.type "list",dict:=none,data:=.seq ([]:List Value).toArray }):=T.keep _ _ _ st2 λb hb o e=>Heap.get?_push_of_some _ e
 have sS:∀b∈fp,b<(s2.heap.push {cls:=.type "list",dict:=none,data:=.seq ([]:List Value).toArray }).objs.size:=λb hb=>by
  rw[Heap.size_push]; exact Nat.lt_succ_of_lt (wM b hb)
 generalize hD:s2.heap.objs.size=D at *
 generalize hh3:s2.heap.push {cls:=.type "list",dict:=none,data:=.seq ([]:List Value).toArray }=h3 at *
 generalize Fv:upd H2 D (.lst [])=H3 at *
 refine Oi λh₁ hns old ck=>?_
 dsimp only at hns old ck ⊢
 have I4:Inv (eO X N scope h3.objs.size {s2 with heap:=h3 } H3 fp) [] (dJ src σ) H3 {s2 with heap:=h₁,toks:=s2.toks+([]:List (Str × Value)).length }:=Ol (s:={s2 with heap:=h3 }) hsc iy S I3 f3 sS hns old ck
 have wN:tn 0 h₁ := T.keep _ _ _ st3 λb hb o e=>old b o e
 have loop:codeAny (model X.prog X.w) X.A (.compLoop (.ListComp elt [⟨tg,iter,[],0⟩] scope pos) 0 (.ref it) (.ref D) (compEnvC scope (cellsFrom (h3.objs.size+1) scope.names (dg X.env.cells scope.names [])) h3.objs.size X.env)) (RR (.ref D) h3.objs.size) {s2 with heap:=h₁,toks:=s2.toks+([]:List (Str × Value)).length }:=by
  have stat:∀{H':Hp},(∀b∈fp,H' b=none)->∀b∈fp,dN (eO X N scope h3.objs.size {s2 with heap:=h3 } H3 fp) [] H' b:=λhn b hb=>by
   obtain⟨g0,g1,g2,g3,g4,g5⟩:=f3 b hb
   refine⟨hn b hb,Nat.ne_of_lt (sS b hb),λz=>?_,.inl hb,λx c e=>?_,λp hp=>absurd (show p∈([]:List (Addr × Obj))from hp) (by simp)⟩
   ·rcases List.mem_cons.mp (I3.wF b z)with z|z
    ·exact g1 z
    ·exact g2 z
   ·have e:(cellsFrom (h3.objs.size+1) scope.names (dg X.env.cells scope.names [])).lookup x=some c:=e
    rw[pJ,uV]at e
    split at e
    ·rename_i z
     cases e
     exact λy=>absurd (Nat.le_trans (ck.empty x c (PySem.mem_of_lookup z)).2 (y▸Nat.le_of_lt (sS b hb))) (Nat.not_succ_le_self _)
    ·rcases qO e with q|q
     ·simp at q
     ·exact g4 x c q
  refine Xc (λn s'=>∃i σ' H',Inv (eO X N scope h3.objs.size {s2 with heap:=h3 } H3 fp) [] σ' H' s'/\tn i s'.heap/\(∀b∈fp,H' b=none)/\W i n σ' H') ?_ m0 ⟨0,dJ src σ,H3,I4,wN,λb hb=>(f3 b hb).1,w0⟩
  rintro n s5 ⟨i,σ5,H5,I5,gD,sH,w5⟩
  rcases turn i n σ5 H5 w5 with⟨stop,qn⟩|⟨go,step⟩
  ·refine bh (T.done (eO X N scope h3.objs.size {s2 with heap:=h3 } H3 fp) rfl rfl rfl hc i [] s5 σ5 H5 (λ_ _=>False) I5 (stat sH) gD stop) λr s6 ⟨hr,I6⟩=>?_
   subst hr
   obtain⟨mC,hnC,_⟩:=id I6.loc
   have I7:Inv X pins σ H5 s6:=I3.call' (ch:=fp) I6.os I6.base I6.hok I6.bare λb hb=>by
    obtain⟨g0,g1,g2,g3,g4,g5⟩:=f3 b hb
    exact⟨g3,g1,g4,g5⟩
   refine hRR D h3.objs.size H5 s6 mC I7 I6.free (Nat.ne_of_gt I3.lt) I3.sz (λx c e z=>?_) (λp hp z=>?_) hnC qn
   ·obtain⟨v,q⟩:=I3.cell x c e
    exact absurd q.lt (by rw[z]; exact Nat.lt_irrefl _)
   ·exact absurd (Heap.lt_size (I3.pin p hp).1) (by rw[z]; exact Nat.lt_irrefl _)
  ·refine bh (T.item (eO X N scope h3.objs.size {s2 with heap:=h3 } H3 fp) rfl rfl rfl hc i [] s5 σ5 H5 (λ_ _=>False) I5 (stat sH) gD go) λr s6 ⟨u,hr,h6⟩=>?_
   subst hr
   refine bh h6 λ_ s7 ⟨x,H7,I7,r7,y7,pK,Fw⟩=>?_
   have Fx:=I7.pinned (stat Fw) (T.obj _ _ pK)
   refine bh (hg _ _ _ _ _ s7 σ5 H7 x u _ Fx r7 (step x H7 y7)) λ_ s8 ⟨σ8,H8,I8,q8⟩=>?_
   refine bh (he _ _ _ _ _ s8 σ8 H8 _ I8 q8) λyv s9 ⟨y,H9,I9,r9,q9⟩=>?_
   obtain⟨xs,e9,l9,m',hm,w9⟩:=q9
   refine bh (pI (X:=eO X N scope h3.objs.size {s2 with heap:=h3 } H3 fp) _ s9 σ8 H9 (.ref D) [y] (.ref D) [yv] (λ_ H'=>W (i+1) m' σ8 H') I9 rfl (.cons r9 .nil) ⟨D,xs,y,rfl,rfl,e9,l9,w9⟩) λ_ gW ⟨_,Fy,sU,_,Fz⟩=>?_
   refine⟨m',hm,i+1,σ8,Fy,sU.uM (pins:=[]),T.keep _ _ _ pK λb hb o e=>(sU.pin (b,o) (List.mem_append_right _ (List.mem_append_right _ (qI hb e)))).1,λb hb=>?_,Fz⟩
   obtain⟨o,e,d⟩:=T.obj _ _ pK b hb
   exact(sU.pin (b,o) (List.mem_append_right _ (List.mem_append_right _ (qI hb e)))).2.1
 exact codeAny_compStart_list loop (T.self _ _ _ _ _ wN loop)
theorem mF(hsc:X.env.scope=sc)(iy:X.N=No)(S:qP sc No N src scope)(hc:X.calm=true)
  (hi:PI X tg iter wi) (hg:∀C s H ex,PG (eO X N scope C s H ex) tg g) (he:∀C s H ex,PE (eO X N scope C s H ex) elt te)
  (hs:∀x,foldedSetIterable iter X.env x=pure x:=by intro _; rfl):PE X (.ListComp elt [⟨tg,iter,[],0⟩] scope pos) (qQ wi g src te):=by
 refine⟨λpins s σ H Q I h=>?_⟩
 rw[eval_ListComp]
 have hcl:closureFor scope X.env=pure (dg X.env.cells scope.names []):=wL λy hy e=>by
  have k:=S.free y hy e
  rw[<-hsc]at k
  obtain⟨c,q⟩:=I.ok.has y.1 k
  rw[q]; rfl
 refine wpAny_comprehension_free (use:=none) rfl hs hcl S.kind S.names (Oo (RR:=λacc C=>compPost (model X.prog X.w) X.A X.xe none (EP X pins σ Q) acc C) hsc iy S hc hi hg he I h ?_)
 intro D C H' s' m I' n1 n2 n3 n4 n5 hn q
 refine⟨m,hn,λh' hs'=>⟨.ref D,H',?_,rfl,q⟩⟩
 exact I'.turned (t':=s'.toks) (λb o hb e=>(hs'.2 b hb).trans e) n1 (Ne.symm (Ne.symm n2)) (.inr n3) n4 n5
theorem FJ{i:Nat}{y:Str}{py spos:Pos}(hN:X.N.Nodup)(FN:X.N[i]?=some y)(hy:Loc X.env.scope y)(hsc:X.env.scope=sc)(iy:X.N=No)(S:qP sc No N src scope)(hc:X.calm=true)
  (hi:PI X tg iter wi) (hg:∀C s H ex,PG (eO X N scope C s H ex) tg g) (he:∀C s H ex,PE (eO X N scope C s H ex) elt te)
  (hsw:swapsWith (.ListComp elt [⟨tg,iter,[],0⟩] scope pos) (some (.Name y py)) spos.line X.env=pure true:=by rfl) (hs:∀x,foldedSetIterable iter X.env x=pure x:=by intro _; rfl)
  (hf:X.fn y=true\/X.env.scope.names.lookup y=some .local:=by first|exact .inl rfl|exact .inr rfl|assumption) :
  PS X (.Assign [.Name y py] (.ListComp elt [⟨tg,iter,[],0⟩] scope pos) spos) (jA (qQ wi g src te) (cU i)):=by
 refine⟨λpins s σ H D I h=>?_⟩
 rw[exec_Assign_Name_used _ _ _ _ hsw]
 have hcl:closureFor scope X.env=pure (dg X.env.cells scope.names []):=wL λy hy e=>by
  have k:=S.free y hy e
  rw[<-hsc]at k
  obtain⟨c,q⟩:=I.ok.has y.1 k
  rw[q]; rfl
 refine wpAny_bind (wpAny_standAt (wpAny_bind ?_))
 show wpAny _ X.A (do let _ <-comprehension (.ListComp elt [⟨tg,iter,[],0⟩] scope pos) scope X.env _ (newList []) false (eval iter X.env) (some (assign (.Name y py) X.env))) _ _ s
 refine wpAny_bind (wpAny_mono (wpAny_comprehension_free (use:=some (assign (.Name y py) X.env)) (Q:=λ_ s'=>SP X pins D .next s') rfl hs hcl S.kind S.names
  (Oo (Q:=λv H'=>D.nx (σ.set i (some v)) H') (RR:=λacc C=>compPost (model X.prog X.w) X.A X.xe (some (assign (.Name y py) X.env)) (λ_ s'=>SP X pins D .next s') acc C) hsc iy S hc hi hg he I h ?_)) (λ_ s' hq=>wpAny_pure (wpAny_pure hq)) λ_ _ e=>e)
 intro Da C H' s' m I' n1 n2 n3 n4 n5 hn q
 show wpAny _ X.A (assign (.Name y py) X.env (.ref Da)) _ _ _
 refine wpAny_assign_Name (Ec I' hN FN hy (v:=.ref Da) rfl (λs2 I2 hsame=>?_) hf)
 obtain⟨a,hsb,ha⟩:=hsame
 have FQ:C≠a:=by
  rcases ha with z|z
  ·rw[z]; exact n2
  ·exact λe=>n4 y a z e.symm
 refine⟨m,hn.sameBut hsb FQ,λh' hs'=>⟨σ.set i (some (.ref Da)),H',?_,q⟩⟩
 exact I2.turned (t':=s2.toks) (λb o hb e=>(hs'.2 b hb).trans e) n1 n2 (.inr n3) n4 n5
end
section
variable {K:FZ}{g:TG}{te:TE}{Q:VK}
end
end L2
end
section
namespace L2
open PySem PySem.Spec PyProof.Rows
def FT(e C:Addr)(h:Heap):Prop:=∃o vs,h.get? e=some o/\o.cls=.ref C/\o.data=.fields vs
def wO(e C:Addr):HO:=.ext (FT e C)
def mG:List Str:=["NoBottom", "NoBook", "NoList", "NoRule", "NoCount", "NoLooks", "NoThings", "NotSure", "NoSlack", "NoThing", "NoWorth", "TooMany", "NoText", "NoLine"]
inductive Tr where
 |non|bl (b:Bool)|int (i:Int)|str (x:Str)|tup (ts:List Tr)|lst (ts:List Tr)|cW (c:Str)
mutual
inductive Rep(K:FZ)(H:Hp):V->Tr->Prop
 |non:Rep K H .non .non
 |bl (b:Bool):Rep K H (.bl b) (.bl b)
 |int (i:Int):Rep K H (.int i) (.int i)
 |str (x:Str):Rep K H (.str x) (.str x)
 |tup {a:Addr} {xs:List V} {ts:List Tr} (h:c7 K H a xs) (r:aL K H xs ts):Rep K H (.ref a) (.tup ts)
 |lst {a:Addr} {xs:List V} {ts:List Tr} (h:bw K H a xs) (r:aL K H xs ts):Rep K H (.ref a) (.lst ts)
 |cW {a C:Addr} {c:Str} (h:H a=some (wO a C)) (m:c∈mG) (n:PySem.W.nsIn K mainGlobals c=some (some (.ref C))):Rep K H (.ref a) (.cW c)
inductive aL(K:FZ)(H:Hp):List V->List Tr->Prop
 |nil:aL K H [] []
 |cons {x:V} {t:Tr} {xs:List V} {ts:List Tr} (h:Rep K H x t) (r:aL K H xs ts):aL K H (x::xs) (t::ts)
end
theorem Same.sV{K:FZ}{H H':Hp}{a:Addr}{xs:List V}(e:Same H H')(h:c7 K H a xs):c7 K H' a xs:=by
 rcases h with(h|⟨o,h⟩)|h
 ·exact .inl (.inl (e _ _ h))
 ·exact .inl (.inr ⟨o,e _ _ h⟩)
 ·exact .inr h
mutual
theorem Rep.mono{K:FZ}{H H':Hp}(e:Same H H'):∀{v:V} {t:Tr},Rep K H v t->Rep K H' v t
 |_,_,.non=>.non
 |_,_,.bl b=>.bl b
 |_,_,.int i=>.int i
 |_,_,.str x=>.str x
 |_,_,.tup h r=>.tup (e.sV h) (aL.mono e r)
 |_,_,.lst h r=>.lst (e.seq h) (aL.mono e r)
 |_,_,.cW h m n=>.cW (e _ _ h) m n
theorem aL.mono{K:FZ}{H H':Hp}(e:Same H H'):∀{v:List V} {t:List Tr},aL K H v t->aL K H' v t
 |_,_,.nil=>.nil
 |_,_,.cons h r=>.cons (Rep.mono e h) (aL.mono e r)
end
theorem aL.length{K:FZ}{H:Hp}:∀{v:List V} {t:List Tr},aL K H v t->v.length=t.length
 |_,_,.nil=>rfl
 |_,_,.cons _ r=>by rw[List.length_cons,List.length_cons,aL.length r]
theorem aL.get{K:FZ}{H:Hp}:∀{v:List V} {t:List Tr} {i:Nat} {x:V},aL K H v t->v[i]?=some x->∃u,t[i]?=some u/\Rep K H x u
 |_,_,_,_,.nil,e=>by simp at e
 |_,_,0,_,.cons h _,e=>by
  simp at e
  subst e
  exact⟨_,rfl,h⟩
 |_,_,i+1,x,.cons _ r,e=>by
  obtain⟨u,h1,h2⟩:=aL.get (i:=i) (x:=x) r (by simpa using e)
  exact⟨u,by simpa using h1,h2⟩
theorem aL.app{K:FZ}{H:Hp}:∀{v w:List V} {t u:List Tr},aL K H v t->aL K H w u->aL K H (v++w) (t++u)
 |_,_,_,_,.nil,s=>s
 |_,_,_,_,.cons h r,s=>.cons h (aL.app r s)
theorem aL.take{K:FZ}{H:Hp}:∀{v:List V} {t:List Tr} (n:Nat),aL K H v t->aL K H (v.take n) (t.take n)
 |_,_,0,_=>by rw[List.take_zero,List.take_zero]; exact .nil
 |_,_,n+1,.nil=>by simpa using aL.nil
 |_,_,n+1,.cons h r=>by
  rw[List.take_succ_cons,List.take_succ_cons]
  exact .cons h (aL.take n r)
theorem aL.drop{K:FZ}{H:Hp}:∀{v:List V} {t:List Tr} (n:Nat),aL K H v t->aL K H (v.drop n) (t.drop n)
 |_,_,0,r=>by rw[List.drop_zero,List.drop_zero]; exact r
 |_,_,n+1,.nil=>by simpa using aL.nil
 |_,_,n+1,.cons h r=>by
  rw[List.drop_succ_cons,List.drop_succ_cons]
  exact aL.drop n r
mutual
noncomputable def dep:Tr->Nat
 |.tup ts=>deps ts+1
 |.lst ts=>deps ts+1
 |.cW _=>100
 |_=>0
noncomputable def deps:List Tr->Nat
 | []=>0
 |t::r=>max (dep t) (deps r)
end
mutual
noncomputable def eqT:Tr->Tr->Bool
 |.non,.non=>true
 |.bl a,.bl b=>a == b
 |.bl a,.int b=>(if a then 1 else 0) == b
 |.int a,.bl b=>a == (if b then 1 else 0)
 |.int a,.int b=>a == b
 |.str a,.str b=>a == b
 |.tup a,.tup b=>mH a b
 |.lst a,.lst b=>mH a b
 |.cW a,.cW b=>a == b
 |_,_=>false
noncomputable def mH:List Tr->List Tr->Bool
 | [],[]=>true
 |a::x,b::y=>eqT a b&&mH x y
 |_,_=>false
end
mutual
theorem wQ:∀t:Tr,eqT t t=true
 |.non=>rfl
 |.bl b=>by unfold eqT; exact beq_self_eq_true b
 |.int i=>by unfold eqT; exact beq_self_eq_true i
 |.str x=>by unfold eqT; exact beq_self_eq_true x
 |.tup ts=>by unfold eqT; exact FW ts
 |.lst ts=>by unfold eqT; exact FW ts
 |.cW c=>by unfold eqT; exact beq_self_eq_true c
theorem FW:∀ts:List Tr,mH ts ts=true
 | []=>rfl
 |t::r=>by unfold mH; rw[wQ t,FW r]; rfl
end
theorem wU:∀{a b:List Tr},a.length≠b.length->mH a b=false
 | [],[],h=>absurd rfl h
 | [],_::_,_=>rfl
 |_::_,[],_=>rfl
 |x::a,y::b,h=>by
  unfold mH
  rw[wU (a:=a) (b:=b) (by simpa using h),Bool.and_false]
def pL(a b:List Tr)(j:Nat):Bool:=match a[j]?,b[j]? with
 |some x,some y=>eqT x y
 |_,_=>true
theorem wV:∀{a b:List Tr},a.length=b.length->(List.range a.length).all (pL a b)=mH a b
 | [],[],_=>rfl
 | [],_::_,h=>by cases h
 |_::_,[],h=>by cases h
 |x::a,y::b,h=>by
  have ih:=wV (a:=a) (b:=b) (by simpa using h)
  rw[List.length_cons,List.range_succ_eq_map,List.all_cons,List.all_map]
  unfold mH
  rw[<-ih]
  rfl
section
variable {X:Cx}{pins:List (Addr × Obj)}{σ : St}{H:Hp}{s:Shared}
theorem Inv.Xd(I:Inv X pins σ H s){a C:Addr}{its:Array Value}(h:H a=some (wO a C))(p:IsTup s.heap a its):False:=by
 obtain⟨o,_,e1,e2,_⟩:=(I.hok a _ h).1
 obtain⟨o',e1',e2',_⟩:=p
 rw[e1]at e1'
 cases e1'
 rw[e2]at e2'
 cases e2'
theorem Inv.Xe(I:Inv X pins σ H s){a C:Addr}{its:Array Value}(h:H a=some (wO a C))(p:PlainL s.heap a its):False:=by
 obtain⟨o,_,e1,e2,_⟩:=(I.hok a _ h).1
 obtain⟨o',_,e1',e2',_⟩:=p
 rw[e1]at e1'
 cases e1'
 rw[e2]at e2'
 cases e2'
mutual
theorem Rep.inj(I:Inv X pins σ H s):∀{v:V} {t u:Tr},dep t<=99->Rep X.K H v t->Rep X.K H v u->t=u
 |_,_,_,_,.non,.non=>rfl
 |_,_,_,_,.bl _,.bl _=>rfl
 |_,_,_,_,.int _,.int _=>rfl
 |_,_,_,_,.str _,.str _=>rfl
 |_,_,_,d,.tup h r,.tup h' r'=>by
  have e:=I.Mh h h'
  subst e
  rw[aL.inj I (by unfold dep at d; omega) r r']
 |_,_,_,d,.lst h r,.lst h' r'=>by
  have e:=I.wH h h'
  subst e
  rw[aL.inj I (by unfold dep at d; omega) r r']
 |_,_,_,_,.tup h r,.lst h' r'=>by
  obtain⟨_,_,p,_⟩:=I.tuple h
  obtain⟨_,_,p',_⟩:=I.list h'
  exact absurd rfl (SeqAt.ne_of_list_tuple p'.isList p)
 |_,_,_,_,.lst h r,.tup h' r'=>by
  obtain⟨_,_,p,_⟩:=I.tuple h'
  obtain⟨_,_,p',_⟩:=I.list h
  exact absurd rfl (SeqAt.ne_of_list_tuple p'.isList p)
 |_,_,_,d,.cW h _ n,_=>by unfold dep at d; omega
 |_,_,_,_,.tup h r,.cW h' _ _=>by
  obtain⟨_,_,p,_⟩:=I.tuple h
  exact(I.Xd h' p).elim
 |_,_,_,_,.lst h r,.cW h' _ _=>by
  obtain⟨_,_,p,_⟩:=I.list h
  exact(I.Xe h' p).elim
theorem aL.inj(I:Inv X pins σ H s):∀{v:List V} {t u:List Tr},deps t<=99->aL X.K H v t->aL X.K H v u->t=u
 |_,_,_,_,.nil,.nil=>rfl
 |_,_,_,d,.cons h r,.cons h' r'=>by
  unfold deps at d
  rw[Rep.inj I (by omega) h h',aL.inj I (by omega) r r']
end
theorem in1_units(A:Around):A.in1.units<=A.units+1:=by
 show A.units+1<=_
 omega
theorem Ac{xs:List V}{its:List Value}{j:Nat}(r:Vals xs its)(h:j<its.toArray.size):∃x,xs[j]?=some x/\RelV x its.toArray[j]:=by
 have h':j<its.length:=by simpa using h
 have hx:j<xs.length:=by rw[r.length]; exact h'
 obtain⟨u,h1,h2⟩:=r.get (List.getElem?_eq_getElem hx)
 refine⟨xs[j],List.getElem?_eq_getElem hx,?_⟩
 have e:u=its.toArray[j]:=by
  rw[List.getElem?_eq_getElem h']at h1
  have:=Option.some.inj h1
  simpa using this.symm
 rw[<-e]; exact h2
theorem Oq{a b:List Tr}{j:Nat}{x y:Tr}(h1:a[j]?=some x)(h2:b[j]?=some y):pL a b j=eqT x y:=by
 unfold pL
 rw[h1,h2]
theorem qR:∀{ts:List Tr} {j:Nat} {t:Tr},ts[j]?=some t->dep t<=deps ts
 | [],_,_,h=>by simp at h
 |x::r,0,t,h=>by
  simp at h
  subst h
  unfold deps
  exact Nat.le_max_left _ _
 |x::r,j+1,t,h=>by
  have:=qR (ts:=r) (j:=j) (t:=t) (by simpa using h)
  unfold deps
  exact Nat.le_trans this (Nat.le_max_right _ _)
theorem wX(I:Inv X pins σ H s)(A:Around)(t u:Tr)(x y:V)(xv yv:Value)(hu:A.units+0<cLine)(hd:dep t<=0)(du:dep u<=99)(rx:Rep X.K H x t)(ry:Rep X.K H y u)(vx:RelV x xv)(vy:RelV y yv) :
  SeqAt.RcAt A s xv yv (eqT t u)/\SeqAt.EqAt A s xv yv (eqT t u):=by
 have hu0:A.units<cLine:=by omega
 cases rx with
 |tup h r=>unfold dep at hd; omega
 |lst h r=>unfold dep at hd; omega
 |cW h m n=>unfold dep at hd; omega
 |non =>
  cases vx
  cases ry with
  |non=>cases vy; unfold eqT; exact⟨SeqAt.RcAt.none_none,.same _⟩
  |bl b2=>cases vy; unfold eqT; exact⟨SeqAt.RcAt.none_bool _,SeqAt.EqAt.none_bool _⟩
  |int i2=>obtain⟨_,rfl⟩:=vy; unfold eqT; exact⟨SeqAt.RcAt.none_int _ _,SeqAt.EqAt.none_int _ _⟩
  |str z2=>obtain⟨_,rfl⟩:=vy; unfold eqT; exact⟨SeqAt.RcAt.none_str _ _,SeqAt.EqAt.none_str _ _⟩
  |tup h r=>cases vy; obtain⟨_,_,p,_⟩:=I.tuple h; unfold eqT; exact⟨SeqAt.RcAt.none_tuple p hu0,SeqAt.EqAt.none_tuple p hu0⟩
  |lst h r=>cases vy; obtain⟨_,_,p,_⟩:=I.list h; unfold eqT; exact⟨SeqAt.RcAt.none_list p.isList hu0,SeqAt.EqAt.none_list p.isList hu0⟩
  |cW h m n=>unfold dep at du; omega
 |bl b =>
  cases vx
  cases ry with
  |non=>cases vy; unfold eqT; exact⟨SeqAt.RcAt.bool_none _,SeqAt.EqAt.bool_none _⟩
  |bl b2=>cases vy; unfold eqT; exact⟨SeqAt.RcAt.bool_bool _ _,SeqAt.EqAt.bool_bool _ _⟩
  |int i2=>obtain⟨_,rfl⟩:=vy; unfold eqT; exact⟨SeqAt.RcAt.bool_int _ _ _,SeqAt.EqAt.bool_int _ _ _⟩
  |str z2=>obtain⟨_,rfl⟩:=vy; unfold eqT; exact⟨SeqAt.RcAt.bool_str _ _ _,SeqAt.EqAt.bool_str _ _ _⟩
  |tup h r=>cases vy; obtain⟨_,_,p,_⟩:=I.tuple h; unfold eqT; exact⟨SeqAt.RcAt.bool_tuple _ p hu0,SeqAt.EqAt.bool_tuple _ p hu0⟩
  |lst h r=>cases vy; obtain⟨_,_,p,_⟩:=I.list h; unfold eqT; exact⟨SeqAt.RcAt.bool_list _ p.isList hu0,SeqAt.EqAt.bool_list _ p.isList hu0⟩
  |cW h m n=>unfold dep at du; omega
 |int i =>
  obtain⟨_,rfl⟩:=vx
  cases ry with
  |non=>cases vy; unfold eqT; exact⟨SeqAt.RcAt.int_none _ _,SeqAt.EqAt.int_none _ _⟩
  |bl b2=>cases vy; unfold eqT; exact⟨SeqAt.RcAt.int_bool _ _ _,SeqAt.EqAt.int_bool _ _ _⟩
  |int i2=>obtain⟨_,rfl⟩:=vy; unfold eqT; exact⟨SeqAt.RcAt.int_int _ _ _ _,SeqAt.EqAt.int_int _ _ _ _⟩
  |str z2=>obtain⟨_,rfl⟩:=vy; unfold eqT; exact⟨SeqAt.RcAt.int_str _ _ _ _,SeqAt.EqAt.int_str _ _ _ _⟩
  |tup h r=>cases vy; obtain⟨_,_,p,_⟩:=I.tuple h; unfold eqT; exact⟨SeqAt.RcAt.int_tuple _ _ p hu0,SeqAt.EqAt.int_tuple _ _ p hu0⟩
  |lst h r=>cases vy; obtain⟨_,_,p,_⟩:=I.list h; unfold eqT; exact⟨SeqAt.RcAt.int_list _ _ p.isList hu0,SeqAt.EqAt.int_list _ _ p.isList hu0⟩
  |cW h m n=>unfold dep at du; omega
 |str z =>
  obtain⟨_,rfl⟩:=vx
  cases ry with
  |non=>cases vy; unfold eqT; exact⟨SeqAt.RcAt.str_none _ _,SeqAt.EqAt.str_none _ _⟩
  |bl b2=>cases vy; unfold eqT; exact⟨SeqAt.RcAt.str_bool _ _ _,SeqAt.EqAt.str_bool _ _ _⟩
  |int i2=>obtain⟨_,rfl⟩:=vy; unfold eqT; exact⟨SeqAt.RcAt.str_int _ _ _ _,SeqAt.EqAt.str_int _ _ _ _⟩
  |str z2=>obtain⟨_,rfl⟩:=vy; unfold eqT; exact⟨SeqAt.RcAt.str_str _ _ _ _,SeqAt.EqAt.str_str _ _ _ _⟩
  |tup h r=>cases vy; obtain⟨_,_,p,_⟩:=I.tuple h; unfold eqT; exact⟨SeqAt.RcAt.str_tuple _ _ p hu0,SeqAt.EqAt.str_tuple _ _ p hu0⟩
  |lst h r=>cases vy; obtain⟨_,_,p,_⟩:=I.list h; unfold eqT; exact⟨SeqAt.RcAt.str_list _ _ p.isList hu0,SeqAt.EqAt.str_list _ _ p.isList hu0⟩
  |cW h m n=>unfold dep at du; omega
theorem Ad(I:Inv X pins σ H s):∀(n:Nat) (A:Around) (t u:Tr) (x y:V) (xv yv:Value),A.units+n<cLine->dep t<=n->dep t<=99->dep u<=99->Rep X.K H x t->Rep X.K H y u->RelV x xv->RelV y yv ->
  SeqAt.RcAt A s xv yv (eqT t u)/\SeqAt.EqAt A s xv yv (eqT t u):=by
 intro n
 induction n with
 |zero=>exact λA t u x y xv yv hu hd _ du rx ry vx vy=>wX I A t u x y xv yv hu hd du rx ry vx vy
 |succ n ih =>
  intro A t u x y xv yv hu hd uX du rx ry vx vy
  have hu0:A.units<cLine:=by omega
  have hu1:A.in1.units+n<cLine:=by
   have:=in1_units A
   omega
  have he:∀{xs ys:List V} {ts us:List Tr} {its its2:List Value},Vals xs its->Vals ys its2->aL X.K H xs ts->aL X.K H ys us->deps ts<=n->deps ts<=99->deps us<=99->∀j (h1:j<its.toArray.size) (h2:j<its2.toArray.size),SeqAt.EqAt A.in1 s its.toArray[j] its2.toArray[j] (pL ts us j):=by
   intro xs ys ts us its its2 r1 r2 q1 q2 hde Xf Ot j h1 h2
   obtain⟨a,ea,ra⟩:=Ac r1 h1
   obtain⟨b,eb,rb⟩:=Ac r2 h2
   obtain⟨ta,eta,qa⟩:=q1.get ea
   obtain⟨tb,wY,qb⟩:=q2.get eb
   rw[Oq eta wY]
   exact(ih A.in1 ta tb a b _ _ hu1 (Nat.le_trans (qR eta) hde) (Nat.le_trans (qR eta) Xf) (Nat.le_trans (qR wY) Ot) qa qb ra rb).2
  have dt:∀{ts:List Tr},dep (.tup ts)<=n+1->deps ts<=n:=λ{ts} h=>by unfold dep at h; omega
  have dl:∀{ts:List Tr},dep (.lst ts)<=n+1->deps ts<=n:=λ{ts} h=>by unfold dep at h; omega
  have nt:∀{ts:List Tr},dep (.tup ts)<=99->deps ts<=99:=λ{ts} h=>by unfold dep at h; omega
  have nl:∀{ts:List Tr},dep (.lst ts)<=99->deps ts<=99:=λ{ts} h=>by unfold dep at h; omega
  have refs:∀{a b:Addr} {t u:Tr} {k:Bool},dep t<=99->Rep X.K H (.ref a) t->Rep X.K H (.ref b) u->k=eqT t u->SeqAt.RcAt A s (.ref a) (.ref b) k->SeqAt.EqAt A s (.ref a) (.ref b) k:=λ{a b t u k} d9 r1 r2 ek h=>by
   by_cases e:a=b
   ·subst e
    have:=Rep.inj I d9 r1 r2
    subst this
    rw[ek,wQ]
    exact .same _
   ·exact .of_refs e h
  cases rx with
  | @tup a1 xs1 ts h r =>
   cases vx
   obtain⟨its,rv,p,_⟩:=I.tuple h
   cases ry with
   | @tup a2 xs2 us h' r' =>
    cases vy
    obtain⟨its2,jt,p2,_⟩:=I.tuple h'
    have R:=SeqAt.RcAt.tuples p p2 hu0 (he rv jt r r' (dt hd) (nt uX) (nt du))
    have el:its.toArray.size=ts.length:=by simpa using(rv.length.symm.trans r.length)
    have el2:its2.toArray.size=us.length:=by simpa using(jt.length.symm.trans r'.length)
    rw[el,el2]at R
    have eb:((List.range (min ts.length us.length)).all (pL ts us)&&ts.length == us.length)=eqT (.tup ts) (.tup us):=by
     unfold eqT
     by_cases e:ts.length=us.length
     ·rw[e,Nat.min_self,<-e,wV e,beq_self_eq_true,Bool.and_true]
     ·rw[beq_false_of_ne e,Bool.and_false,wU e]
    rw[eb]at R
    exact⟨R,refs uX (.tup h r) (.tup h' r') rfl R⟩
   |lst h' r' =>
    cases vy
    obtain⟨_,_,p2,_⟩:=I.list h'
    unfold eqT
    exact⟨SeqAt.RcAt.tuple_list p p2.isList hu0,.tuple_list p p2.isList hu0⟩
   |cW h' m n=>unfold dep at du; omega
   |non=>cases vy; unfold eqT; exact⟨SeqAt.RcAt.tuple_none p hu0,.tuple_none p hu0⟩
   |bl b=>cases vy; unfold eqT; exact⟨SeqAt.RcAt.tuple_bool _ p hu0,.tuple_bool _ p hu0⟩
   |int i=>obtain⟨_,rfl⟩:=vy; unfold eqT; exact⟨SeqAt.RcAt.tuple_int _ _ p hu0,.tuple_int _ _ p hu0⟩
   |str z=>obtain⟨_,rfl⟩:=vy; unfold eqT; exact⟨SeqAt.RcAt.tuple_str _ _ p hu0,.tuple_str _ _ p hu0⟩
  | @lst a1 xs1 ts h r =>
   cases vx
   obtain⟨its,rv,p,_⟩:=I.list h
   cases ry with
   | @lst a2 xs2 us h' r' =>
    cases vy
    obtain⟨its2,jt,p2,_⟩:=I.list h'
    have el:its.toArray.size=ts.length:=by simpa using(rv.length.symm.trans r.length)
    have el2:its2.toArray.size=us.length:=by simpa using(jt.length.symm.trans r'.length)
    by_cases e:ts.length=us.length
    ·have R:=SeqAt.RcAt.lists p.isList p2.isList (by rw[el,el2,e]) hu0 (he rv jt r r' (dl hd) (nl uX) (nl du))
     rw[el,wV e]at R
     have eb:mH ts us=eqT (.lst ts) (.lst us):=by unfold eqT; rfl
     rw[eb]at R
     exact⟨R,refs uX (.lst h r) (.lst h' r') rfl R⟩
    ·have R:SeqAt.RcAt A s _ _ false:=SeqAt.RcAt.lists_lengths p.isList p2.isList (by rw[el,el2]; simpa using e) hu0
     have eb:false=eqT (.lst ts) (.lst us):=by unfold eqT; rw[wU e]
     rw[eb]at R
     exact⟨R,refs uX (.lst h r) (.lst h' r') rfl R⟩
   |tup h' r' =>
    cases vy
    obtain⟨_,_,p2,_⟩:=I.tuple h'
    unfold eqT
    exact⟨SeqAt.RcAt.list_tuple p.isList p2 hu0,.list_tuple p.isList p2 hu0⟩
   |cW h' m n=>unfold dep at du; omega
   |non=>cases vy; unfold eqT; exact⟨SeqAt.RcAt.list_none p.isList hu0,.list_none p.isList hu0⟩
   |bl b=>cases vy; unfold eqT; exact⟨SeqAt.RcAt.list_bool _ p.isList hu0,.list_bool _ p.isList hu0⟩
   |int i=>obtain⟨_,rfl⟩:=vy; unfold eqT; exact⟨SeqAt.RcAt.list_int _ _ p.isList hu0,.list_int _ _ p.isList hu0⟩
   |str z=>obtain⟨_,rfl⟩:=vy; unfold eqT; exact⟨SeqAt.RcAt.list_str _ _ p.isList hu0,.list_str _ _ p.isList hu0⟩
  |cW h m n=>unfold dep at uX; omega
  |non=>exact wX I A _ _ _ _ _ _ (by omega) (by unfold dep; omega) du .non ry vx vy
  |bl b=>exact wX I A _ _ _ _ _ _ (by omega) (by unfold dep; omega) du (.bl b) ry vx vy
  |int i=>exact wX I A _ _ _ _ _ _ (by omega) (by unfold dep; omega) du (.int i) ry vx vy
  |str z=>exact wX I A _ _ _ _ _ _ (by omega) (by unfold dep; omega) du (.str z) ry vx vy
end
end L2
end
section
namespace L2
open PySem PySem.Spec PyProof.Rows
section
variable {X:Cx}{a b:Expr}{ta tb:TE}{pos:Pos}
def Ga(K:FZ):R2:=λx y H Q=>∃t u,Rep K H x t/\Rep K H y u/\dep t<=40/\dep u<=40/\Q (.bl (eqT t u)) H
theorem sW(hu:X.A.units+64<cLine):cH X (compareOp .Eq) (Ga X.K):=by
 intro pins s σ H x y v u Q I rx ry h
 obtain⟨t,t',q1,q2,hd,hd2,q⟩:=h
 exact(Ad I 40 X.A t t' x y v u (by omega) hd (by omega) (by omega) q1 q2 rx ry).1 _ _ _ _ ⟨.bl _,H,I,rfl,q⟩
def pN(t:Tr)(ts:List Tr):Bool:=ts.any λu=>eqT u t
def Gb(K:FZ):R2:=λx y H Q=>∃t ts p xs,Rep K H x t/\y=.ref p/\(bw K H p xs\/c7 K H p xs)/\aL K H xs ts/\deps ts<=40/\dep t<=40/\Q (.bl (pN t ts)) H
theorem Ae{xs:List V}{its:List Value}{ts:List Tr}{K:FZ}{H:Hp}(f:Tr->Bool)(e:Value->Bool)(r:Vals xs its)(q:aL K H xs ts)(h:∀x v t,x∈xs->RelV x v->Rep K H x t->t∈ts->e v=f t):its.any e=ts.any f:=by
 induction r generalizing ts with
 |nil=>cases q; rfl
 |cons r1 r2 ih =>
  cases q with
  |cons q1 q2 =>
   rw[List.any_cons,List.any_cons,h _ _ _ List.mem_cons_self r1 q1 List.mem_cons_self,ih q2 λx v t hx hr hq ht=>h x v t (List.mem_cons_of_mem _ hx) hr hq (List.mem_cons_of_mem _ ht)]
theorem uY:∀{ts:List Tr} {t:Tr},t∈ts->dep t<=deps ts:=λ{ts t} h=>by
 obtain⟨i,hi,e⟩:=List.mem_iff_getElem.mp h
 exact qR (j:=i) (by rw[List.getElem?_eq_getElem hi,e])
open Classical in
theorem Gd(hu:X.A.units+64<cLine):cH X (compareOp .In) (Gb X.K):=by
 intro pins s σ H x y v u Q I rx ry h
 obtain⟨t,ts,p,xs,q1,rfl,hq,qs,hd,hd2,q⟩:=h
 cases ry
 have hu1:X.A.in1.units+40<cLine:=by
  have:=in1_units X.A
  omega
 -- what == tells of an item,by the item itself
 let e:Value->Bool:=λw'=>if h:∃z tz,z∈xs/\RelV z w'/\Rep X.K H z tz/\tz∈ts then eqT (Classical.choose (Classical.choose_spec h)) t else false
 have ee:∀z w' tz,z∈xs->RelV z w'->Rep X.K H z tz->tz∈ts->e w'=eqT tz t:=λz w' tz h1 h2 h3 h4=>by
  have hx:∃z tz,z∈xs/\RelV z w'/\Rep X.K H z tz/\tz∈ts:=⟨z,tz,h1,h2,h3,h4⟩
  show(if h:_ then _ else _)=_
  rw[dif_pos hx]
  have sp:=Classical.choose_spec (Classical.choose_spec hx)
  have key:∀z z' t1 t2,RelV z w'->RelV z' w'->dep t1<=99->Rep X.K H z t1->Rep X.K H z' t2->t1=t2:=λz z' t1 t2 a1 a2 d9 a3 a4=>by
   obtain rfl:=RelV.inj a1 a2
   exact Rep.inj I d9 a3 a4
  rw[key _ _ _ _ sp.2.1 h2 (by have:=uY sp.2.2.2; omega) sp.2.2.1 h3]
 have mem:∀{its:List Value},Vals xs its->∀w'∈its,SeqAt.EqAt X.A.in1 s w' v (e w'):=by
  intro its r w' hw
  obtain⟨j,hj,ej⟩:=List.mem_iff_getElem.mp hw
  have hjx:j<xs.length:=by rw[r.length]; exact hj
  obtain⟨u',h1,h2⟩:=r.get (List.getElem?_eq_getElem hjx)
  rw[List.getElem?_eq_getElem hj,ej]at h1
  cases h1
  obtain⟨tz,h3,h4⟩:=qs.get (List.getElem?_eq_getElem hjx)
  have hm:=List.mem_of_getElem? h3
  rw[ee _ _ tz (List.getElem_mem hjx) h2 h4 hm]
  exact(Ad I 40 X.A.in1 tz t _ x _ v hu1 (Nat.le_trans (uY hm) hd) (by have:=uY hm; omega) (by omega) h4 q1 h2 rx).2
 rcases hq with hq|hq
 ·obtain⟨its,r,pl,hz⟩:=I.list hq
  refine SeqAt.in_listAt e pl.isList (λw hw=>mem r w (by simpa using hw)) ⟨.bl _,H,I,rfl,?_⟩
  rw[show its.toArray.any e=its.any e by simp,Ae (λz=>eqT z t) e r qs λz w' tz h1 h2 h3 h4=>ee z w' tz h1 h2 h3 h4]
  exact q
 ·obtain⟨its,r,pl,hz⟩:=I.tuple hq
  refine SeqAt.in_tupleAt e pl (λw hw=>mem r w (by simpa using hw)) ⟨.bl _,H,I,rfl,?_⟩
  rw[show its.toArray.any e=its.any e by simp,Ae (λz=>eqT z t) e r qs λz w' tz h1 h2 h3 h4=>ee z w' tz h1 h2 h3 h4]
  exact q
inductive Ty where|int|bool|str|tuple|list
def Ty.name:Ty->String
 |.int => "int" |.bool => "bool" |.str => "str" |.tuple => "tuple" |.list => "list"
def gF:Tr->Ty->Bool
 |.bl _,.bool=>true|.bl _,.int=>true|.int _,.int=>true|.str _,.str=>true|.tup _,.tuple=>true|.lst _,.list=>true
 |_,_=>false
def Af(K:FZ):List V->Hp->VK->Prop:=λxs H Q=>∃v t c,xs=[v,.ty (Ty.name c)]/\Rep K H v t/\Q (.bl (gF t c)) H
def Ah(K:FZ):Prop:=∀c∈mG,∀C,PySem.W.nsIn K mainGlobals c=some (some (.ref C))->(∀a,PySem.W.KitX K (.ref a) (.ref C) (FT a C))/\∀y:Ty,PySem.W.kitOne K (.ref C) (.type y.name)=some false
theorem Xg(hX:Ah X.K):iJ X (.builtin "isinstance") (Af X.K):=by
 intro pins s σ H xs us Q I r h
 obtain⟨v,t,c,rfl,q1,q⟩:=h
 obtain⟨u,w',rfl,ru,pA⟩:=vals2 r
 obtain rfl:w'=Value.type (Ty.name c):=pA
 have fin:∀tk,EP X pins σ Q (.bool (gF t c)) {s with toks:=tk }:=λtk=>⟨.bl _,H,I.tok tk,rfl,q⟩
 cases q1 with
 |non=>cases ru; cases c <;> exact PySem.W.kia_one PySem.W.kitx_none I.jK True.intro (by kernel_rfl) (λz=>nomatch z) fin
 |bl y=>cases ru; cases c <;> exact PySem.W.kia_one PySem.W.kitx_bool I.jK True.intro (by kernel_rfl) (λz=>nomatch z) fin
 |int i=>obtain⟨_,rfl⟩:=ru; cases c <;> exact PySem.W.kia_one PySem.W.kitx_int I.jK True.intro (by kernel_rfl) (λz=>nomatch z) fin
 |str y=>obtain⟨_,rfl⟩:=ru; cases c <;> exact PySem.W.kia_one PySem.W.kitx_str I.jK True.intro (by kernel_rfl) (λz=>nomatch z) fin
 |tup h r =>
  cases ru
  obtain⟨_,_,⟨o,h1,h2,_⟩,_⟩:=I.tuple h
  cases c <;> exact PySem.W.kia_one PySem.W.kitx_tuple I.jK ⟨o,h1,h2⟩ (by kernel_rfl) (λz=>nomatch z) fin
 |lst h r =>
  cases ru
  obtain⟨_,_,p,_⟩:=I.list h
  obtain⟨o,h1,h2,_⟩:=p.isList
  cases c <;> exact PySem.W.kia_one PySem.W.kitx_list I.jK ⟨o,h1,h2⟩ (by kernel_rfl) (λz=>nomatch z) fin
 |cW h m n =>
  cases ru
  obtain⟨z1,z2⟩:=hX _ m _ n
  exact PySem.W.kia_one (z1 _) I.jK (I.hok _ _ h).1 (z2 c) (λz=>nomatch z) fin
def Ge(K:FZ):List V->Hp->VK->Prop:=λxs H Q=>∃(p:Addr) (bs:List Bool),xs=[.ref p]/\bw K H p (bs.map V.bl)/\Q (.bl (bs.all id)) H
theorem uZ(hc:X.calm=true):iJ X (.builtin "all") (Ge X.K):=by
 intro pins s σ H xs us Q I r h
 obtain⟨p,bs,rfl,hq,q⟩:=h
 obtain⟨u,rfl,ru⟩:=vals1 r
 cases ru
 obtain⟨its,rv,pl,hz⟩:=I.list hq
 refine call_all_walk (wpAny_pyIter_list pl.isList ?_)
 obtain⟨ol,hol,hol'⟩:=id pl.isList
 have hlt:p<s.heap.objs.size:=Heap.lt_size hol
 have hlen:its.toArray.size=bs.length:=by simpa using rv.length.symm
 have at_:∀(i:Nat) (v:Value),its.toArray[i]?=some v->∃k,bs[i]?=some k/\v=Value.bool k:=λi v e=>by
  have e':its[i]?=some v:=by simpa using e
  have hi:i<its.length:=(List.getElem?_eq_some_iff.mp e').1
  have hb:i<(bs.map V.bl).length:=by rw[rv.length]; exact hi
  obtain⟨u',h1,h2⟩:=rv.get (List.getElem?_eq_getElem hb)
  rw[e']at h1
  cases h1
  have hb':i<bs.length:=by simpa using hb
  refine⟨bs[i],List.getElem?_eq_getElem hb',?_⟩
  rw[List.getElem_map]at h2
  exact h2
 refine⟨s.heap.objs.size,_,_,_,_,_,λi=>bs.getD i true,rfl,Walks.list (A:=X.A.in1) (I.ok.hd hc) s.heap.objs.size p (Nat.ne_of_lt hlt) its.toArray,⟨⟨_,Heap.get?_push_size _ rfl,rfl,rfl⟩,⟨ol,Heap.get?_push_of_some _ hol,hol'⟩⟩,?_,?_⟩
 ·intro i v s' Q' E' hP hQ'
  obtain⟨k,h1,rfl⟩:=at_ i v hP
  have:bs.getD i true=k:=by rw[List.getD_eq_getElem?_getD,h1]; rfl
  dsimp only at hQ'
  rw[this]at hQ'
  exact wpAny_truthy_bool hQ'
 ·intro h' tk hk
  have I1:Inv X pins σ H {s with heap:=h',toks:=tk }:=I.kept λb o e=>hk b o (by
   have:=Heap.lt_size e
   simp
   exact Nat.ne_of_lt this) (Heap.get?_push_of_some _ e)
  refine⟨.bl _,H,I1,rfl,?_⟩
  have eq:(List.range its.toArray.size).all (λi=>bs.getD i true)=bs.all id:=by
   rw[hlen]
   clear q hq rv at_ hlen hz
   induction bs with
   |nil=>rfl
   |cons b r ih =>
    rw[List.length_cons,List.range_succ_eq_map,List.all_cons,List.all_map,List.all_cons]
    exact congrArg (b && ·) ih
  rw[eq]
  exact q
end
end L2
end
section
namespace L2
open PySem PySem.Spec PyProof.Rows
def At(K:FZ)(mg:Str->Option Value)(x:Str)(st:Stmt):Prop:=∃f fd,sJ K x x st f fd/\mg x=some (.ref f)
section
variable {X:Cx}{k:Nat}{x:Str}{ps:List Str}{sp:Sp}{p q pos:Pos}{e:Expr}{es:List Expr}{te:TE}{t:TA}
theorem Xh(hX:Ah X.K)(c:Ty)(he:PE X e te)(h1:X.mg "isinstance" = none) (h2:X.mg x=none) (hb:bootBuiltins x=some (.type c.name):=by decide +kernel) (hg1:Gl X "isinstance" := by rfl) (hg2:Gl X x:=by rfl) (hn:x ≠ "__name__" := by decide) (hd:(x == ("__debug__" : Str))=false:=by decide)
  (hs:starEach (e::[.Name x q]) X.env=(false,eval e X.env)::starEach [.Name x q] X.env:=by rfl):PE X (.Call (.Name "isinstance" p) [e,.Name x q] [] pos) (jN (Af X.K) (jq te (jq (tC (.ty c.name)) lZ))) :=
 Nj (Xg hX) hg1 h1 PyProof.Rows.boot_isinstance (jr he (jr (Vu hg2 h2 hb rfl hn hd) aM) hs) (he:=hs)
end
end L2
end
section
namespace L2
open PySem PySem.Spec PyProof.Rows
def off(a:Addr)(H:Hp):Hp:=λb=>if b=a then none else H b
theorem off_ne{a b:Addr}{H:Hp}(h:b≠a):off a H b=H b:=if_neg h
theorem sX{a b:Addr}{H:Hp}{o:HO}(h:off a H b=some o):b≠a/\H b=some o:=by
 unfold off at h
 split at h
 ·cases h
 ·rename_i e; exact⟨e,h⟩
structure Pj(Pr:Hp->Hp)(H0:Hp):Prop where
 mono:∀{H H':Hp},Same H H'->Same (Pr H) (Pr H')
 sub:∀H,Same (Pr H) H
 new:∀{H:Hp} {r:Addr} {o:HO},Same H0 H->H r=none->Pr (upd H r o) r=some o
theorem Pj.id(H0:Hp):Pj (λH=>H) H0:=⟨λs=>s,λH=>Same.refl H,λ_ _=>cB⟩
theorem Pj.le{Pr:Hp->Hp}{H0 H1:Hp}(p:Pj Pr H0)(s:Same H0 H1):Pj Pr H1:=⟨p.mono,p.sub,λs' h=>p.new (s.trans s') h⟩
theorem d7{H:Hp}{p:Addr}(h:H p=none)(o:HO):Same H (upd H p o):=λb u q=>by rw[aO (gC q h)]; exact q
section
variable (K:FZ)(Pr:Hp->Hp)(σ : St)(H0:Hp)
end
section
variable {K:FZ}{Pr:Hp->Hp}{σ : St}{H0:Hp}{te tb:TE}{ta:TA}{T:Tr}{Ts Us:List Tr}
end
end L2
end
section
namespace L2
open PySem PySem.Spec PyProof.Rows
def notStar:Expr->Bool
 |.Starred _ _=>false
 |_=>true
theorem qT{e:Expr}{es:List Expr}{env:Env}(h:notStar e=true):starEach (e::es) env=(false,eval e env)::starEach es env:=by
 cases e <;> first|rfl|(unfold notStar at h; cases h)
def u0(K:FZ)(T:Tr):TE:=λ_ H Q=>∀v H',Same H H'->(∀Pr,Pj Pr H->Rep K (Pr H') v T)->Q v H'
def u6(K:FZ)(Ts:List Tr):TA:=λ_ H Q=>∀vs H',Same H H'->(∀Pr,Pj Pr H->aL K (Pr H') vs Ts)->Q vs H'
def Ai(K:FZ)(Ts:List Tr):TE:=λ_ H Q=>∀a xs H1,Same H H1->H1 a=none->(∀Pr,Pj Pr H->aL K (Pr H1) xs Ts)->xs.length=Ts.length->Q (.ref a) (upd H1 a (.lst xs))
theorem PE.imp{X:Cx}{e:Expr}{t u:TE}(h:PE X e t)(i:∀σ H Q,u σ H Q->t σ H Q):PE X e u:=⟨λpins s σ H Q I q=>h pins s σ H Q I (i σ H Q q)⟩
theorem PA.imp{X:Cx}{e:List Expr}{t u:TA}(h:PA X e t)(i:∀σ H Q,u σ H Q->t σ H Q):PA X e u:=⟨λpos pins s σ H Q I q=>h pos pins s σ H Q I (i σ H Q q)⟩
section
variable {X:Cx}{e:Expr}{es:List Expr}{T:Tr}{Ts:List Tr}{pos:Pos}{k:Nat}
end
end L2
end
section
namespace L2
open PySem PySem.Spec PyProof.Rows
mutual
noncomputable def pd:Tr->PyData
 |.non=>.none
 |.bl b=>.bool b
 |.int i=>.int i
 |.str x=>.str x
 |.tup ts=>.tuple (Gf ts)
 |.lst ts=>.list (Gf ts)
 |.cW _=>.none
noncomputable def Gf:List Tr->List PyData
 | []=>[]
 |t::r=>pd t::Gf r
end
section
variable {X:Cx}{pins:List (Addr × Obj)}{σ : St}{H:Hp}{s:Shared}
end
end L2
end
section
namespace L2
open PySem PySem.Spec PyProof.Rows
def Ou:V->Option Int->Option Int->Hp->VK->Prop:=λx lo hi H Q=>∃z,x=.str z/\z.length<=sizeLine/\Q (.str (Txt.slice z lo hi)) H
theorem Xi{X:Cx}:mz X Ou:=by
 intro pins s σ H x v vl vu lo hi sl Q I rx hs pl pu h
 obtain⟨z,rfl,hz,q⟩:=h
 obtain⟨t,rfl⟩:=rx
 obtain⟨o,h1,h2,h3⟩:=hs
 have fin:∀(t':Tok) (k:Nat),EP X pins σ Q (.str (Txt.slice z lo hi) t') {s with toks:=k }:=λt' k=>⟨.str _,H,I.tok k,⟨_,rfl⟩,q⟩
 have hl:=Nat.le_trans (Txt.slice_le z lo hi) hz
 refine⟨"str",_,F.slot_str_getitem.lookup,typeIs_str _ _ _,?_⟩
 cases pl with
 |none =>
  cases pu with
  |none=>exact wpAny_getItem_str_slice (l:=none) (u:=none) (st:=none) ⟨o,h1,h2,h3⟩ rfl (post_val_or_str ⟨hl,λt' k=>fin t' k⟩)
  |int j uj=>exact wpAny_getItem_str_slice (l:=none) (u:=some (j,uj)) (st:=none) ⟨o,h1,h2,h3⟩ rfl (post_val_or_str ⟨hl,λt' k=>fin t' k⟩)
 |int i ui =>
  cases pu with
  |none=>exact wpAny_getItem_str_slice (l:=some (i,ui)) (u:=none) (st:=none) ⟨o,h1,h2,h3⟩ rfl (post_val_or_str ⟨hl,λt' k=>fin t' k⟩)
  |int j uj=>exact wpAny_getItem_str_slice (l:=some (i,ui)) (u:=some (j,uj)) (st:=none) ⟨o,h1,h2,h3⟩ rfl (post_val_or_str ⟨hl,λt' k=>fin t' k⟩)
def nw(H H':Hp):Hp:=λb=>match H b with
 |none=>H' b
 |some _=>none
end L2
end
section
namespace L2
open PySem PySem.Spec PyProof.Rows
noncomputable def jh(P:Program)(w:World):jM:=λouter H s E e s'=>∃ea cls a0 H' B,e=.ref ea/\E cls none H'/\s'.os=s.os/\AllBare s'.gens/\Un (frs outer) [] H H' s.heap s'.heap/\eH P w H' B /\
 Heap.FlyingW B outer ea cls a0 s'.heap/\∀b o,s.heap.get? b=some o->b∉frs outer->∃o',B.get? b=some o'
theorem Xj{env:Env}{outer:List Env}{L b:Addr}(hf:env.frame=some L)(h:b∈frs (env::outer)):b=L\/b∈frs outer:=by
 unfold frs at h
 rw[List.filterMap_cons_some hf]at h
 exact List.mem_cons.mp h
theorem Xk{env:Env}{outer:List Env}{b:Addr}(h:b∈frs outer):b∈frs (env::outer):=by
 obtain⟨e,he,q⟩:=List.mem_filterMap.mp h
 exact List.mem_filterMap.mpr ⟨e,List.mem_cons_of_mem _ he,q⟩
theorem Xl{P:Program}{w:World}{H:Hp}{h:Heap}{l:List Addr}(x:eH P w H h)(fr:∀b∈l,H b=none):eH P w H (PySem.W.hideAll h l):=λa o e =>
 (x a o e).stay (λb u hb q=>PySem.W.hideAll_get _ q λhm=>by
  rcases hb with rfl|hb
  ·rw[fr _ hm]at e; cases e
  ·rw[fr _ hm]at hb; cases hb) (λ_ q=>q) λ_ _ q=>q
section
variable {P:Program}{w:World}{K:FZ}{mg:Str->Option Value}{base:Heap}{N:List Str}{qual:Str}{scope:Scope}{f:Addr}{cd:Value}{A:Around}{outer:List Env}{s:Shared}{H:Hp}{E:XK}{CX:jM}
theorem Un.left{pins:List (Addr × Obj)}{σ : St}{H1 H2:Hp}{s1:Shared}{h2 h3 B:Heap}(I:Inv (jC CX P w K mg base N qual scope f cd A outer s H E) pins σ H1 s1)
  (u:Un (frs (envOfC qual scope s.heap.objs.size f cd::outer)) [] H1 H2 s1.heap h2) (st:B.StaysIn h2) (kb:∀b o,s1.heap.get? b=some o->b∉frs (envOfC qual scope s.heap.objs.size f cd::outer)->∃o',B.get? b=some o')
  (fl:B.StaysIn h3) (sl:h2.UpToSlots h3):Un (frs outer) [] H H2 s.heap h3/\∀b o,s.heap.get? b=some o->b∉frs outer->∃o',B.get? b=some o':=by
 have ub:=I.base
 have hf:(envOfC qual scope s.heap.objs.size f cd).frame=some s.heap.objs.size:=by
  rcases I.ok.stk with z|z
  ·exact absurd (congrArg List.length z) (by show outer.length+1≠outer.length; omega)
  ·exact z.2
 have no:∀b o,s.heap.get? b=some o->b∉frs outer->b∉frs (envOfC qual scope s.heap.objs.size f cd::outer):=λb o e n z=>by
  rcases Xj hf z with rfl|z
  ·exact absurd (Heap.lt_size e) (Nat.lt_irrefl _)
  ·exact n z
 have nx:∀b:Addr,b∉([]:List Addr):=λb z=>nomatch z
 have inB:∀b o,s.heap.get? b=some o->b∉frs outer->∃o',B.get? b=some o':=λb o e n=>by
  obtain⟨o1,e1⟩:=ub.there b o e (nx b)
  exact kb b o1 e1 (no b o e n)
 have slots:∀b o,s.heap.get? b=some o->H b=none->b∈frs outer->∃sl,h3.get? b=some {o with slots:=sl }:=λb o e n z=>by
  obtain⟨sl1,e1⟩:=ub.slot b o e n z (nx b)
  obtain⟨sl2,e2⟩:=u.slot b _ e1 (ub.free b o e n (nx b)) (Xk z) (nx b)
  obtain⟨_,o',e',nf⟩:=I.ok.lu.mem z
  have e'':s.heap.get? b=some o':=e'
  rw[e]at e''
  cases e''
  obtain⟨Xm,e3⟩:=sl b _ e2 nf
  exact⟨Xm,e3⟩
 refine⟨⟨λb o e n z _=>?_,λb o e n z _=>slots b o e n z,λb o e n _=>?_,λb o e _=>?_,λb xs q=>u.tups b xs (ub.tups b xs q),λb o q z=>u.lU b o q (ub.lU b o q z),λb ps q=>?_⟩,inB⟩
 ·have e1:=ub.keep b o e n z (nx b)
  have e2:=u.keep b o e1 (ub.free b o e n (nx b)) (no b o e z) (nx b)
  obtain⟨o',e3⟩:=inB b o e z
  have e4:=st b o' e3
  rw[e2]at e4
  cases e4
  exact fl b o e3
 ·obtain⟨o1,e1⟩:=ub.there b o e (nx b)
  exact u.free b o1 e1 (ub.free b o e n (nx b)) (nx b)
 ·by_cases z:b∈frs outer
  ·obtain⟨sl,e1⟩:=slots b o e (I.ok.su b z) z
   exact⟨_,e1⟩
  ·obtain⟨o',e1⟩:=inB b o e z
   exact⟨o',fl b o' e1⟩
 ·obtain⟨m1,e1⟩:=ub.lV b ps q
  obtain⟨m2,e2⟩:=u.lV b _ e1
  exact⟨m1++m2,by rw[e2,Array.append_assoc]⟩
end
def Raises(X:Cx)(E:XK):Prop:=∀(pins:List (Addr × Obj)) (σ : St) (H:Hp) (s:Shared) (h':Heap) (e C:Addr) (us:List Value),Inv X pins σ H s->Heap.MadeExcOf s.heap h' e (.ref C) us->E (.ref C) none H->X.xe (.ref e) {s with heap:=h' }
theorem Gg{P:Program}{w:World}{K:FZ}{mg:Str->Option Value}{base:Heap}{N:List Str}{qual:Str}{scope:Scope}{f:Addr}{cd:Value}{A:Around}{outer:List Env}{s:Shared}{H:Hp}{E:XK} :
  Raises (jC (jh P w) P w K mg base N qual scope f cd A outer s H E) E:=by
 intro pins σ H1 s1 h' e C us I hx q
 have hs:=I.stack
 have hf:(envOfC qual scope s.heap.objs.size f cd).frame=some s.heap.objs.size:=by
  rcases I.ok.stk with z|z
  ·exact absurd (congrArg List.length z) (by show outer.length+1≠outer.length; omega)
  ·exact z.2
 have hin:∀env∈(envOfC qual scope s.heap.objs.size f cd::outer),∀a,env.frame=some a->a∈frs (envOfC qual scope s.heap.objs.size f cd::outer):=λenv he b hb=>List.mem_filterMap.mpr ⟨env,he,hb⟩
 have Ov:(PySem.W.hideAll s1.heap (frs (envOfC qual scope s.heap.objs.size f cd::outer))).StaysIn s1.heap:=λb o z=>PySem.W.of_hideAll _ z
 have stH:(PySem.W.hideAll s1.heap (frs (envOfC qual scope s.heap.objs.size f cd::outer))).StaysIn h':=λb o z=>hx.keeps b o (Ov b o z)
 refine wpAny_leaves_madeW (base:=PySem.W.hideAll s1.heap (frs (envOfC qual scope s.heap.objs.size f cd::outer))) (h:=s1.heap) I.ok.frames hf Ov (PySem.W.funFrames_hide hs hin) hx λh'' t fl _ _ sl=>?_
 obtain⟨un,ib⟩:=Un.left (B:=PySem.W.hideAll s1.heap (frs (envOfC qual scope s.heap.objs.size f cd::outer))) I (Un.kept (h':=h') hx.keeps) stH (λb o z n=>⟨o,PySem.W.hideAll_get _ z n⟩) fl.1 sl
 exact⟨e,.ref C,.ref t,H1,_,rfl,q,I.os,I.bare,un,Xl I.hok I.zA,fl,ib⟩
theorem dG{P:Program}{w:World}{K:FZ}{mg:Str->Option Value}{base:Heap}{N:List Str}{qual:Str}{scope:Scope}{f:Addr}{cd:Value}{A:Around}{outer:List Env}{s:Shared}{H:Hp}{E:XK} :
  Passes (jh P w) (jC (jh P w) P w K mg base N qual scope f cd A outer s H E) E:=by
 intro pins σ H1 s1 e s' I h
 obtain⟨ea,cls,a0,H2,B,rfl,q,os,bare,un,hok,fl,kb⟩:=h
 have hf:(envOfC qual scope s.heap.objs.size f cd).frame=some s.heap.objs.size:=by
  rcases I.ok.stk with z|z
  ·exact absurd (congrArg List.length z) (by show outer.length+1≠outer.length; omega)
  ·exact z.2
 refine wpAny_leaves_onW (base:=B) I.ok.frames hf fl λh'' Ow sl=>?_
 obtain⟨un',ib⟩:=Un.left (B:=B) I un fl.1 kb Ow.1 sl
 exact⟨ea,cls,a0,H2,B,rfl,q,os.trans I.os,bare,un',hok,Ow,ib⟩
def Ox(E:XK)(C:Addr)(te:TE):TS:=λ_ σ H=>te σ H λv H1=>[v].length=1/\E (.ref C) none H1
theorem Gh{X:Cx}{E:XK}{x:Str}{C:Addr}{B newId initId:String}{bm:List Value}{np cpos pos:Pos}{e:Expr}{te:TE}(R:Raises X E)(O:OwnCls x C bm newId X.mg X.base)(FB:ExcBaseFacts B newId initId bm)(hc:X.calm=true)(ha:PE X e te)
  (hg:Gl X x:=by rfl) (hd:(x == ("__debug__" : Str))=false:=by decide) (hs:starEach [e] X.env=[(false,eval e X.env)]:=by rfl) :
  PS X (.Raise (some (.Call (.Name x np) [e] [] cpos)) none pos) (Ox E C te):=by
 refine⟨λpins s σ H D I h=>?_⟩
 obtain⟨tl,N,nm,q,bs,hdct,sn,sub,ab,col,dd,k0,k1,k2,k3,k5,mN,hC,hN,hni,T⟩:=O.obj
 refine wpAny_Raise_call_subT (C:=C) (nm:=nm) (q:=q) (N:=N) (bs:=bs) (bm:=tl) (hdct:=hdct) (sn:=sn) (sub:=sub) (ab:=ab) (col:=col) (dd:=dd) (k0:=k0) (k1:=k1) (k2:=k2) (k3:=k3) (k5:=k5)
  FB (mN:=mN) (T.hasType FB.hasBase) (I.ok.hd hc) (by rw[hs]; rfl) hni (Ef I hg O.bound ⟨rfl,?_⟩ hd)
 have ga:PA X [e] (jq te lZ):=jr ha aM (by rw[hs]; rfl)
 have z:=ga cpos pins s σ H (λvs H1=>vs.length=1/\E (.ref C) none H1) I (by
  show te σ H λv H1=>_
  exact h)
 rw[hs]at z ⊢
 refine Calls.evalArgs_plain (wpAny_mono z (λus s₂ h₂=>?_) λ_ _ y=>y)
 obtain⟨vs,H2,I2,rv,hl,hE⟩:=h₂
 refine⟨rfl,?_,I2.bk _ _ hC,hN.keeps I2.bk,T.keeps I2.bk,λh' e' hm=>R pins σ H2 s₂ h' e' C us I2 hm hE⟩
 rw[<-rv.length,hl]
 decide
end L2
end
section
namespace L2
open PySem PySem.Spec PyProof.Rows
def XP(X:Cx)(pins:List (Addr × Obj))(EX:St->XK)(e:Value)(s':Shared):Prop:=∃σ H s,Inv X pins σ H s/\jh X.prog X.w X.stack H s (EX σ) e s'
abbrev TX:=Ends->(St->XK)->St->Hp->Prop
abbrev TEX:=(St->XK)->TE
section
variable {X:Cx}{k:Nat}{f:Addr}{fd:FuncData}{x:Str}{ps:List Str}{sp:Sp}{p pos:Pos}{e:Expr}{es:List Expr}{te:TEX}{t:TA}{st:Stmt}{rest:List Stmt}{a b:TX}
end
end L2
end
section
namespace L2
open PySem PySem.Spec PyProof.Rows
section
variable {X:Cx}{pins:List (Addr × Obj)}{σ : St}{H1 H2:Hp}{s0 s1:Shared}{B h6:Heap}{ea:Addr}{cls a0:Value}
end
end L2
end
section
namespace L2
open PySem PySem.Spec PyProof.Rows
section
variable {X:Cx}{pins:List (Addr × Obj)}{σ : St}{H:Hp}{s:Shared}{e:Value}
end
end L2
end
section
namespace L2
open PySem PySem.Spec PyProof.Rows PySem.W PySem.Builtin PySem.Builtin.ObjectAttr PySem.Builtin.Getset_descriptor
structure nH(K:Frag)(C:Addr):Prop where
 ga:findIn K (.ref C) "__getattribute__" = some (some (.builtin "BaseException.__getattribute__"))
 gn:findIn K (.ref C) "__getattr__" = some none
 cl:findIn K (.ref C) "__class__" = some (some (.builtin "object.__class__"))
 ob:mroIn K C (.type "object")=some true
 be:mroIn K C (.type "BaseException")=some true
 is:(clsIn K C).isSome=true
section
variable {prog:Program}{w:World}{A:Around}{E:Value->Shared->Prop}{h:Heap}{g:Array GenState}{d:Drawn}{t:Nat}{os:OsState}{a C:Addr}{o:Obj}{K:Frag}
theorem Xn{R:Result->Shared->Prop}(X:K.In h)(Z:nH K C)(hx:h.get? a=some o)(hc:o.cls=.ref C)(hq:R (.ok (.ret (.ref C))) ⟨h,g,d,t,os⟩) :
  codeAny (model prog w) A (.call (.builtin "getset_descriptor.__get__") ⟨[.builtin "object.__class__",.ref a,.ref C],[]⟩) R ⟨h,g,d,t,os⟩:=by
 have ty:Looks (model prog w) h (typeOf (.ref a)) (.ref C):=hc▸(Looks.ld hx).andThen .now
 have ms:=looks_mroIn (M:=model prog w) X Z.ob
 refine codeAny_call_builtin KF.slot_gs.plain KF.entry_gs (KF.slot_gs.check _ _ _ _ _ _ _ _ KF.type_class (KF.args_gs _ _ _) ?_)
 unfold Builtin.«getset_descriptor.__get__»
 unfold Builtin.Getset_descriptor.descrGet
 rw[dga_obj]
 refine wpAny_bind (wpAny_pure ?_)
 unfold Builtin.Getset_descriptor.descrGetter
 unfold Builtin.Getset_descriptor.descrCheckInstance
 unfold Builtin.Getset_descriptor.descrNameAndClass
 unfold isInstance
 simp only[KF.owner_class]
 repeat lk
 refine⟨Code.quiet_builtin _ (by decide +kernel),codeAny_builtin KF.entry_class ?_⟩
 unfold Builtin.«object.__class__»
 unfold shownTypeOf
 repeat lk
 all_goals first|exact hq|assumption
theorem Xo{tk:Tok}{Q:Fin->Shared->Prop}(X:K.In h)(Z:nH K C)(hx:h.get? a=some o)(hc:o.cls=.ref C)(hq:Q (.done (.ret (.ref C))) ⟨h,g,d,t,os⟩) :
  wpAny (model prog w) A (Builtin.«object.__getattribute__» ⟨[.ref a,.str "__class__" tk],[]⟩) Q E ⟨h,g,d,t,os⟩:=by
 have hT5:(⟨h,g,d,t,os⟩:Shared).TypeIs (.builtin "object.__class__") "getset_descriptor" := KF.type_class
 have f6:=F.slot_gs_get.lookup
 have f7:=F.slot_gs_set.lookup
 have lc:=λA (Q:Option Value->Shared->Prop) E (q:Q (some (.builtin "object.__class__")) ⟨h,g,d,t,os⟩)=>looks_findIn (M:=model prog w) X Z.cl A Q E ⟨h,g,d,t,os⟩ (λ_ _ z=>z) q
 repeat(any_goals (first|assumption|(with_reducible refine wpAny_loadPart_at hx ?_; rw[hc])|with_reducible refine lc _ _ _ ?_|wp_step))
 refine Xn X Z hx hc ?_
 repeat(any_goals (first|assumption|wp_step))
theorem Xp{nameV:Value}{Q:Unit->Shared->Prop}(X:K.In h)(Z:nH K C)(hx:h.get? a=some o)(hc:o.cls=.ref C)(hq:Q () ⟨h,g,d,t,os⟩) :
  wpAny (model prog w) A (checkBuiltinCall "BaseException.__getattribute__" ⟨[.ref a,nameV],[]⟩) Q E ⟨h,g,d,t,os⟩:=by
 have b1:builtinKind "BaseException.__getattribute__" = some .slot:=by decide +kernel
 have b2:splitId "BaseException.__getattribute__" = some ("BaseException", "__getattribute__"):=by decide +kernel
 have ha:=F.args_bexc_ga (.ref a) nameV
 have lc:=λA (Q:Bool->Shared->Prop) E (q:Q true ⟨h,g,d,t,os⟩)=>looks_mroIn (M:=model prog w) X Z.be A Q E ⟨h,g,d,t,os⟩ (λ_ _ z=>z) q
 simp only[checkBuiltinCall,b1,b2]
 refine wpAny_bind ?_
 unfold isInstance
 repeat(first|(with_reducible refine wpAny_loadPart_at hx ?_; rw[hc])|with_reducible refine lc _ _ _ ?_|wp_step)
 exact hq
theorem Xq{tk:Tok}{R:Result->Shared->Prop}(X:K.In h)(Z:nH K C)(hx:h.get? a=some o)(hc:o.cls=.ref C)(hq:R (.ok (.ret (.ref C))) ⟨h,g,d,t,os⟩) :
  codeAny (model prog w) A (.call (.builtin "BaseException.__getattribute__") ⟨[.ref a,.str "__class__" tk],[]⟩) R ⟨h,g,d,t,os⟩ :=
 codeAny_call_builtin PySem.F.attr_ValueError.ga.plain F.entry_bexc_ga (Xp X Z hx hc (Xo X Z hx hc hq))
theorem Xr{tk:Tok}{Q:Value->Shared->Prop}(X:K.In h)(Z:nH K C)(hx:h.get? a=some o)(hc:o.cls=.ref C)(hq:Q (.ref C) ⟨h,g,d,t,os⟩) :
  wpAny (model prog w) A (getAttrBy (.ref a) (.str "__class__" tk) false) Q E ⟨h,g,d,t,os⟩:=by
 have f3:=PySem.F.attr_ValueError.ga.bind (.ref a)
 have hx2:(Value.builtin "BaseException.__getattribute__" == Value.builtin "object.__getattribute__")=false:=by decide +kernel
 have hx1:(onTheHeap (Value.ref C)&&Value.builtin "BaseException.__getattribute__" == Value.builtin "object.__getattribute__")=false:=by rw[hx2]; rfl
 have l1:=λA (Q:Option Value->Shared->Prop) E (q:Q (some (.builtin "BaseException.__getattribute__")) ⟨h,g,d,t,os⟩)=>looks_findIn (M:=model prog w) X Z.ga A Q E ⟨h,g,d,t,os⟩ (λ_ _ z=>z) q
 have l2:=λA (Q:Option Value->Shared->Prop) E (q:Q none ⟨h,g,d,t,os⟩)=>looks_findIn (M:=model prog w) X Z.gn A Q E ⟨h,g,d,t,os⟩ (λ_ _ z=>z) q
 repeat(any_goals (first|assumption|(with_reducible refine wpAny_loadPart_at hx ?_; rw[hc])|with_reducible refine l1 _ _ _ ?_|with_reducible refine l2 _ _ _ ?_|wp_step))
 refine Xq X Z hx hc ?_
 repeat(any_goals (first|assumption|wp_step))
theorem Xu{Q:Option Value->Shared->Prop}(X:K.In h)(Z:nH K C)(hx:h.get? a=some o)(hc:o.cls=.ref C)(hq:Q (some (.ref C)) ⟨h,g,d,t+1,os⟩) :
  wpAny (model prog w) A (getAttr? (.ref a) "__class__") Q E ⟨h,g,d,t,os⟩:=by
 unfold getAttr? getAttrBy?
 repeat(any_goals (first|assumption|with_reducible apply Xr X Z hx hc|wp_step))
theorem Xv(Z:nH K C):KitX K (.ref a) (.ref C) (FT a C) where
 ty:=λ_ _ _ ⟨o,_,h1,h2,_⟩=>h2▸(Looks.ld h1).andThen .now
 it:=λ_ _ X _=>by
  obtain⟨cd,e⟩:=Option.isSome_iff_exists.mp Z.is
  unfold clsIn at e
  split at e
  ·rename_i ho
   intro A' Q' E' s' k q
   unfold isType loadHead
   exact wpAny_bind (wpAny_loadPart (k _ _ (X _ _ ho)) (wpAny_pure q))
  ·cases e
 ne:=λh tp dd its n sl X htp=>by
  obtain⟨cd,e⟩:=Option.isSome_iff_exists.mp Z.is
  refine Bool.eq_false_iff.mpr λq=>?_
  have q':C=tp:=Value.ref.inj (beq_iff_eq.mp q)
  subst q'
  unfold clsIn at e
  split at e
  ·rename_i ho
   have z:=(X _ _ ho).symm.trans htp
   cases z
  ·cases e
 ca:=λ{_ _ _ _ _ s} X p k=>by
  obtain⟨h,g,d,t,os⟩:=s
  obtain⟨o,_,h1,h2,_⟩:=p
  exact Xu X Z h1 h2 k
end
section
variable {X:Cx}
end
end L2
end
section
namespace L2
open PySem
theorem Xw(a b:Int):a=b*a.fdiv b+a.fmod b:=by
 have:=Int.mul_fdiv_add_fmod a b
 omega
theorem Oz(a b:Int)(h:b≠0):(a.fmod b).natAbs<b.natAbs:=by
 have h1:=Int.emod_nonneg a h
 have h2:=Int.emod_lt a h
 rw[Int.fmod_eq_emod]
 split
 ·omega
 ·rename_i hn
  have hb:¬0<=b:=λz=>hn (.inl z)
  have hd:¬b∣a:=λz=>hn (.inr z)
  have h3:a%b≠0:=λz=>hd (Int.dvd_of_emod_eq_zero z)
  omega
theorem OD(a b:Int):Int.gcd b (a.fmod b)=Int.gcd a b:=by
 have e:=Xw a b
 apply Nat.dvd_antisymm
 ·refine Int.dvd_gcd ?_ ?_
  ·have h1:(Int.gcd b (a.fmod b):Int)∣b:=Int.gcd_dvd_left ..
   have h2:(Int.gcd b (a.fmod b):Int)∣a.fmod b:=Int.gcd_dvd_right ..
   have h3:=Int.dvd_add (Int.dvd_mul_of_dvd_left (c:=a.fdiv b) h1) h2
   rw[<-e]at h3
   exact h3
  ·exact Int.gcd_dvd_left ..
 ·refine Int.dvd_gcd ?_ ?_
  ·exact Int.gcd_dvd_right ..
  ·have h1:(Int.gcd a b:Int)∣a:=Int.gcd_dvd_left ..
   have h2:(Int.gcd a b:Int)∣b:=Int.gcd_dvd_right ..
   have e2:a.fmod b=a-b*a.fdiv b:=by omega
   rw[e2]
   exact Int.dvd_sub h1 (Int.dvd_mul_of_dvd_left h2)
theorem Xx(a:Int):(if a<0 then -a else a)=((Int.gcd a 0:Nat):Int):=by
 rw[Int.gcd_zero_right]
 split <;> omega
theorem Gi{a b:Int}(hb:0<b):0<((Int.gcd a b:Nat):Int)/\((Int.gcd a b:Nat):Int)<=b/\1<=b / (Int.gcd a b:Nat)/\Int.gcd (a / (Int.gcd a b:Nat)) (b / (Int.gcd a b:Nat))=1/\(0<=a->0<=a / (Int.gcd a b:Nat)) /\
  a=(a / (Int.gcd a b:Nat))*(Int.gcd a b:Nat)/\b=(b / (Int.gcd a b:Nat))*(Int.gcd a b:Nat):=by
 have hg:0<Int.gcd a b:=Int.gcd_pos_of_ne_zero_right a (by omega)
 have hgi:0<((Int.gcd a b:Nat):Int):=by omega
 have d1:(Int.gcd a b:Int)∣a:=Int.gcd_dvd_left ..
 have d2:(Int.gcd a b:Int)∣b:=Int.gcd_dvd_right ..
 have e1:=Int.ediv_mul_cancel d1
 have e2:=Int.ediv_mul_cancel d2
 refine⟨hgi,Int.le_of_dvd hb d2,?_,Int.gcd_ediv_gcd_ediv_gcd hg,λh=>Int.ediv_nonneg h (by omega),e1.symm,e2.symm⟩
 have:0<b / (Int.gcd a b:Nat):=Int.ediv_pos_of_pos_of_dvd hb (by omega) d2
 omega
end L2
end
section
namespace L2
open PySem PySem.Spec PyProof.Rows
section
variable {X:Cx}
end
end L2
end
section
namespace L2
open PySem PySem.Spec PyProof.Rows PySem.W
theorem OJ{K:Frag}{h:Heap}{mg:Str->Option Value}{x:Str}{C:Addr}{bmB:List Value}{newId:String}(X:K.In h)(G:h.Ns mainGlobals mg)(e:nsIn K mainGlobals x=some (some (.ref C)))(q:excIn K C bmB newId=true):OwnCls x C bmB newId mg h:=by
 constructor
 ·exact mg_of X G e
 unfold excIn at q
 split at q
 case h_2=>cases q
 rename_i dd cd sl lk
 split at q
 case h_2=>cases q
 rename_i c0 bm y0 y1 y2 y3 nid y5 hm hl
 rw[Bool.and_eq_true,Bool.and_eq_true,Bool.and_eq_true,Bool.and_eq_true,Bool.and_eq_true]at q
 obtain⟨⟨⟨⟨⟨q1,q2⟩,q3⟩,q4⟩,q5⟩,q6⟩:=q
 have r1:=beq_iff_eq.mp q1
 have r2:=beq_iff_eq.mp q2
 have r6:=beq_iff_eq.mp q6
 have r3:cd.hasDel=false:=by simpa using q3
 subst r1 r2
 have hsl:sl = #[y0,y1,y2,y3,some (.builtin nid),y5]:=by
  cases sl with
  |mk l=>exact congrArg Array.mk hl
 subst hsl
 cases cd with
 |mk nm bs mro ns qn hd sn sub ab col del =>
  dsimp only at hm r3 q5 r6
  subst hm r3
  exact⟨bm,ns,nm,qn,bs,hd,sn,sub,ab,col,dd,y0,y1,y2,y3,y5,_,X _ _ lk,.of_isNs (isNs_of_in X q5),nsMap_none_of_in X q5 r6,tail_of_in X q4⟩
section
variable {P:Program}{w:World}{K:Frag}{mg:Str->Option Value}{base:Heap}
theorem sJ.Xy{x qual:Str}{st:Stmt}{f:Addr}{fd:FuncData}{N ps:List Str}{k:Nat}{sp:Sp}(F:sJ K x qual st f fd)(S:pG N ps (bx st))(len:∀vs H Q E,sp vs H Q E->vs.length=ps.length)
  (hbody:∀(cdv:Value) (A:Around) (outer:List Env) (s:Shared) (H:Hp) (vs:List V) (Q:VK) (E:XK),eV k (A.deeper (envOfC qual (bx st) s.heap.objs.size f cdv))->sp vs H Q E ->
   ∃t,jc (jC (jh P w) P w K mg base N qual (bx st) f cdv A outer s H E) (jg st) t/\t {nx:=λ_ H'=>Q .non H',rt:=Q } (start N vs) H):j4 P w K mg base (jh P w) (k+1) f fd ps sp:=by
 obtain⟨oc,od,kV,doc,pm,an,cdv,ct,osl,rfl,lk,hcd⟩:=F.ex
 exact Ni lk hcd S len λA outer s H vs Q E hr h=>hbody cdv A outer s H vs Q E hr h
def aV(P:Program)(w:World)(K:Frag)(mg:Str->Option Value)(base:Heap)(k:Nat)(x:Str)(ps:List Str)(sp:Sp):Prop :=
 ∃f fd,j4 P w K mg base (jh P w) k f fd ps sp/\Binds K fd ps []/\keepIn K (.ref f)=true/\mg x=some (.ref f)
theorem aV.mono{j k:Nat}{x:Str}{ps:List Str}{sp:Sp}(D:aV P w K mg base j x ps sp)(h:j<=k):aV P w K mg base k x ps sp:=by
 obtain⟨f,fd,h1,h2⟩:=D
 exact⟨f,fd,h1.mono h,h2⟩
theorem At.O1{k:Nat}{x:Str}{st:Stmt}{N ps:List Str}{sp:Sp}(a:At K mg x st)(S:pG N ps (bx st))
  (hb:∀(kV doc pm:Value) (an:Option Addr) (cdv ct:Value) (us:List Value),us.length=ps.length->bindArgs (fnOf x x (mD st) (jg st) (bx st) .none kV doc pm an cdv ct) ⟨us,[]⟩=pure (ps.zip us))
  (len:∀vs H Q E,sp vs H Q E->vs.length=ps.length)
  (hbody:∀(f:Addr) (cdv:Value) (A:Around) (outer:List Env) (s:Shared) (H:Hp) (vs:List V) (Q:VK) (E:XK),eV k (A.deeper (envOfC x (bx st) s.heap.objs.size f cdv))->sp vs H Q E ->
   ∃t,jc (jC (jh P w) P w K mg base N x (bx st) f cdv A outer s H E) (jg st) t/\t {nx:=λ_ H'=>Q .non H',rt:=Q } (start N vs) H):aV P w K mg base (k+1) x ps sp:=by
 obtain⟨f,fd,F,m⟩:=a
 exact⟨f,fd,F.Xy S len λcdv A outer s H vs Q E hr h=>hbody f cdv A outer s H vs Q E hr h,F.binds hb,F.kp,m⟩
end
section
variable {X:Cx}{k:Nat}{x:Str}{ps:List Str}{sp:Sp}{p pos:Pos}{e:Expr}{es:List Expr}{t:TA}
theorem Xz{P:Program}{w:World}:Passes (jh P w) X E0:=λ_ _ _ _ _ _ _ h=>by
 obtain⟨_,_,_,_,_,_,q,_⟩:=h
 exact q.elim
end
end L2
end
section
namespace L2
open PySem PySem.Spec PyProof.Rows
noncomputable def Gj(K:FZ)(l1 l2:Addr):It where
 go:=λi H=>∃xs ys x y,bw K H l1 xs/\bw K H l2 ys/\xs[i]?=some x/\ys[i]?=some y
 lY:=λi H v H'=>∃T x y,v=.ref T/\H T=none/\H'=upd H T (.tup [x,y])/\∀xs ys,bw K H l1 xs->bw K H l2 ys->xs[i]?=some x/\ys[i]?=some y
 stop:=λi H=>∃xs ys,bw K H l1 xs/\bw K H l2 ys/\i=min xs.length ys.length
def XC(l1 l2 z TI TO i1 i2:Addr)(i:Nat)(h:Heap):Prop:=IsZip h z TI TO .none/\IsPair h TI (.ref i1) (.ref i2)/\(∃a b,IsPair h TO a b)/\h.IsListIter i1 l1 i/\h.IsListIter i2 l2 i
section
variable {P:Program}{w:World}{K:FZ}
theorem Inv.O2{X:Cx}{pins:List (Addr × Obj)}{σ : St}{H:Hp}{s:Shared}{h':Heap}{tk:Nat}{fp:List Addr}{T:Addr}{xs:List V}{its:List Value}(I:Inv X pins σ H s)(hf:∀b∈fp,dN X pins H b)(k:∀b o,b∉fp->s.heap.get? b=some o->h'.get? b=some o)
  (th:∀b∈fp,∃o,h'.get? b=some o) (hT:s.heap.objs.size<=T) (ht:IsTup h' T its.toArray) (rv:Vals xs its) (hz:xs.length<=sizeLine):Inv X pins σ (upd H T (.tup xs)) {s with heap:=h',toks:=tk }:=by
 have fT:H T=none:=I.hok.fresh hT
 have neT:∀b o,s.heap.get? b=some o->b≠T:=λb o e z=>by rw[z]at e; exact absurd (Heap.lt_size e) (Nat.not_lt.mpr hT)
 have wZ:∀b o,H b=some o->b≠T:=λb o e z=>by rw[z,fT]at e; cases e
 refine I.step (g':=s.gens) (d':=s.drawn) (ch:=fp) (λb hb=>?_) (λb o _ _ hc e _=>k b o hc e) (λb o _ _ hc e _=>⟨o.slots,k b o hc e⟩) (λb o _ e n=>by rw[aO (neT b o e)]; exact n) (λb o hc e=>⟨o,k b o hc e⟩)
  (λb ys e=>by rw[aO (wZ b _ e)]; exact e) (λb o u e=>by rw[aO (wZ b _ e)]; exact e) (λb ps e=>⟨#[],by rw[aO (wZ b _ e)]; simpa using e⟩) (λm hm=>?_) (λb u e=>?_) I.bare
 ·obtain⟨f0,f1,f2,f3,f4,f5⟩:=hf b hb
  exact⟨f3,f1,f4,f5⟩
 ·obtain⟨o,es,ep,ho,r⟩:=hm
  exact⟨o,es,ep,k _ o (λz=>(hf _ z).2.1 rfl) ho,r⟩
 ·by_cases z:b=T
  ·subst z
   rw[cB]at e
   cases e
   exact⟨hz,its,rv,ht⟩
  ·rw[aO z]at e
   refine(I.hok b u e).stay (λc o hc q=>k c o (λzc=>?_) q) (λc q=>by rw[aO (wZ c _ q)]; exact q) λc ys q=>by rw[aO (wZ c _ q)]; exact q
   have:=(hf c zc).1
   rcases hc with rfl|hc
   ·rw[this]at e; cases e
   ·rw[this]at hc; cases hc
theorem Inv.O3{X:Cx}{pins:List (Addr × Obj)}{σ : St}{H:Hp}{s:Shared}{h':Heap}{tk:Nat}{fp:List Addr}(I:Inv X pins σ H s)(hf:∀b∈fp,dN X pins H b)(k:∀b o,b∉fp->s.heap.get? b=some o->h'.get? b=some o):Inv X pins σ H {s with heap:=h',toks:=tk }:=by
 refine I.step (g':=s.gens) (d':=s.drawn) (ch:=fp) (λb hb=>?_) (λb o _ _ hc e _=>k b o hc e) (λb o _ _ hc e _=>⟨o.slots,k b o hc e⟩) (λb o _ e n=>n) (λb o hc e=>⟨o,k b o hc e⟩)
  (λb ys e=>e) (λb o u e=>e) (λb ps e=>⟨#[],by simpa using e⟩) (λm hm=>?_) (λb u e=>?_) I.bare
 ·obtain⟨f0,f1,f2,f3,f4,f5⟩:=hf b hb
  exact⟨f3,f1,f4,f5⟩
 ·obtain⟨o,es,ep,ho,r⟩:=hm
  exact⟨o,es,ep,k _ o (λz=>(hf _ z).2.1 rfl) ho,r⟩
 ·refine(I.hok b u e).stay (λc o hc q=>k c o (λzc=>?_) q) (λc q=>q) λc ys q=>q
  have:=(hf c zc).1
  rcases hc with rfl|hc
  ·rw[this]at e; cases e
  ·rw[this]at hc; cases hc
theorem XD{elts:List Expr}{k:Nat}{pos:Pos}(l1 l2 z TI TO i1 i2:Addr)(D:ZipApart z TI TO i1 i2 l1 l2):Turn P w K (.Tuple elts k pos) (Gj K l1 l2) [z,TI,TO,i1,i2] z (XC l1 l2 z TI TO i1 i2) where
 mem:=by simp
 obj:=λi h st b hb=>by
  obtain⟨hz,hTI,⟨a,c,hTO⟩,⟨o1,e1,_,d1⟩,⟨o2,e2,_,d2⟩⟩:=st
  have hb':b=z\/b=TI\/b=TO\/b=i1\/b=i2:=by simpa using hb
  rcases hb' with rfl|rfl|rfl|rfl|rfl
  ·exact⟨_,hz,λv q=>nomatch q⟩
  ·exact⟨_,hTI,λv q=>nomatch q⟩
  ·exact⟨_,hTO,λv q=>nomatch q⟩
  ·exact⟨o1,e1,λv q=>by rw[d1]at q; cases q⟩
  ·exact⟨o2,e2,λv q=>by rw[d2]at q; cases q⟩
 keep:=λi h h' st kp=>by
  obtain⟨hz,hTI,⟨a,c,hTO⟩,h1,h2⟩:=st
  exact⟨kp z (by simp) _ hz,kp TI (by simp) _ hTI,⟨a,c,kp TO (by simp) _ hTO⟩,h1.at λo e=>kp i1 (by simp) o e,h2.at λo e=>kp i2 (by simp) o e⟩
 item:=by
  intro X hP hw hK hc i pins s σ H E I hf st hg
  subst hP hw hK
  obtain⟨xs,ys,x,y,q1,q2,hx,hy⟩:=hg
  obtain⟨jD,pO,p1,_⟩:=I.list q1
  obtain⟨its2,jt,p2,_⟩:=I.list q2
  obtain⟨u,hu,ru⟩:=pO.get hx
  obtain⟨v,hv,rv⟩:=jt.get hy
  have W:=WalksT.zip2 (prog:=X.prog) (w:=X.w) (A:=X.A) (I.ok.hd hc) z TI TO i1 i2 l1 l2 D jD.toArray its2.toArray
  have XF:i<jD.length:=(List.getElem?_eq_some_iff.mp hu).1
  have ju:i<its2.length:=(List.getElem?_eq_some_iff.mp hv).1
  refine W.item i s _ E (by simp; omega) ⟨st.1,st.2.1,st.2.2.1,st.2.2.2.1,st.2.2.2.2,p1.isList,p2.isList⟩ λT vals h' tk hp hT ht mid kk=>?_
  obtain⟨u',v',e1,e2,rfl⟩:=hp
  have eu:u'=u:=by
   have:jD[i]?=some u':=by simpa using e1
   rw[hu]at this; cases this; rfl
  have ev:v'=v:=by
   have:its2[i]?=some v':=by simpa using e2
   rw[hv]at this; cases this; rfl
  subst eu ev
  refine⟨.ref T,rfl,?_⟩
  refine W.go elts k pos i T _ _ E mid λh'' st' w6=>?_
  have nT:=W.apart i T _ mid
  have ob:=(λb hb=>(by
   obtain⟨hz,hTI,⟨a,c,hTO⟩,⟨o1,e1,_,d1⟩,⟨o2,e2,_,d2⟩⟩:=st
   have hb':b=z\/b=TI\/b=TO\/b=i1\/b=i2:=by simpa using hb
   rcases hb' with rfl|rfl|rfl|rfl|rfl
   ·exact Heap.lt_size hz
   ·exact Heap.lt_size hTI
   ·exact Heap.lt_size hTO
   ·exact Heap.lt_size e1
   ·exact Heap.lt_size e2:b<s.heap.objs.size):∀b∈[z,TI,TO,i1,i2],b<s.heap.objs.size)
  have Gm:T∉[z,TI,TO,i1,i2]:=λm=>absurd (ob T m) (Nat.not_lt.mpr hT)
  have sub:∀b,b∉[z,TI,TO,i1,i2]->b∉[z,TO,i1,i2]:=λb n m=>n (by simp at m ⊢; rcases m with rfl|rfl|rfl|rfl <;> simp)
  have Gn:IsTup h'' T #[u',v']:=by
   obtain⟨o,e,r⟩:=ht
   exact⟨o,w6 T o nT e,r⟩
  have th:∀b∈[z,TI,TO,i1,i2],∃o,h''.get? b=some o:=λb hb=>by
   obtain⟨hz,hTI,⟨a,c,hTO⟩,⟨o1,e1,_,d1⟩,⟨o2,e2,_,d2⟩,_⟩:=st'
   have hb':b=z\/b=TI\/b=TO\/b=i1\/b=i2:=by simpa using hb
   rcases hb' with rfl|rfl|rfl|rfl|rfl
   ·exact⟨_,hz⟩
   ·exact⟨_,hTI⟩
   ·exact⟨_,hTO⟩
   ·exact⟨_,e1⟩
   ·exact⟨_,e2⟩
  have I':Inv X pins σ (upd H T (.tup [x,y])) {s with heap:=h'',toks:=tk }:=I.O2 (its:=[u',v']) hf (λb o n e=>w6 b o (sub b n) (kk b o (sub b n) e)) th hT Gn (.cons ru (.cons rv .nil)) (by show 2<=sizeLine; decide)
  refine⟨.ref T,_,I',rfl,⟨T,x,y,rfl,I.hok.fresh hT,rfl,λxs' ys' a1 a2=>?_⟩,⟨st'.1,st'.2.1,st'.2.2.1,st'.2.2.2.1,st'.2.2.2.2.1⟩,λb hb=>?_⟩
  ·rw[I.wH a1 q1,I.wH a2 q2]
   exact⟨hx,hy⟩
  ·have nb:b≠T:=by
    intro e0
    rw[e0]at hb
    exact Gm hb
   rw[aO nb]
   exact(hf b hb).1
 done:=by
  intro X hP hw hK hc i pins s σ H E I hf st hg
  subst hP hw hK
  obtain⟨xs,ys,q1,q2,e⟩:=hg
  obtain⟨jD,pO,p1,_⟩:=I.list q1
  obtain⟨its2,jt,p2,_⟩:=I.list q2
  have W:=WalksT.zip2 (prog:=X.prog) (w:=X.w) (A:=X.A) (I.ok.hd hc) z TI TO i1 i2 l1 l2 D jD.toArray its2.toArray
  have ei:i=min jD.toArray.size its2.toArray.size:=by simp[e,pO.length,jt.length]
  subst ei
  have sub:∀b,b∉[z,TI,TO,i1,i2]->b∉[z,TO,i1,i2]:=λb n m=>n (by simp at m ⊢; rcases m with rfl|rfl|rfl|rfl <;> simp)
  exact W.done s _ E ⟨st.1,st.2.1,st.2.2.1,st.2.2.2.1,st.2.2.2.2,p1.isList,p2.isList⟩ λh' tk kk=>⟨rfl,I.O3 hf λb o n e=>kk b o (sub b n) e⟩
 self:=λA i s Q E st h=>wpAny_pyIter_zip st.1 h
end
section
variable {X:Cx}
def O4(K:FZ)(ta:TA):TI:=λσ H R=>ta σ H λvs H1=>∃l1 l2,vs=[.ref l1,.ref l2]/\(∃xs,bw K H1 l1 xs)/\(∃ys,bw K H1 l2 ys)/\R (Gj K l1 l2) H1
theorem XH{elts:List Expr}{k:Nat}{tpos:Pos}{a b:Expr}{ta:TA}{p pos:Pos}(hm:X.mg "zip" = none) (ha:PA X [a,b] ta) (hg:Gl X "zip" := by rfl) (hs:starEach [a,b] X.env=[(false,eval a X.env),(false,eval b X.env)]:=by rfl) (hs2:starEach [b] X.env=[(false,eval b X.env)]:=by rfl) :
  PI X (.Tuple elts k tpos) (.Call (.Name "zip" p) [a,b] [] pos) (O4 X.K ta):=by
 intro pins s σ H R I h
 refine Call_ (qF I hg hm (show bootBuiltins "zip" = some (.type "zip") by decide +kernel) (PyProof.Rows.callWith_type1 (bh (ha pos pins s σ H _ I h) λus s1 ⟨vs,H1,I1,r1,q1⟩=>?_) (by rw[hs,hs2]) (by rw[hs2]; rfl)))
 obtain⟨l1,l2,e,⟨xs,h1⟩,⟨ys,h2⟩,q⟩:=q1
 subst e
 cases r1 with
 |cons r rr =>
  cases rr with
  |cons r' rr =>
   cases rr
   cases r
   cases r'
   obtain⟨jD,pO,p1,_⟩:=I1.list h1
   obtain⟨its2,jt,p2,_⟩:=I1.list h2
   obtain⟨o1,e1,_⟩:=p1.isList
   obtain⟨o2,e2,_⟩:=p2.isList
   refine call_zip_2 p1.isList p2.isList λh' hz hTI hTO hi1 hi2 hsz hk=>?_
   refine wpAny_pyIter_zip hz ?_
   refine⟨_,[_,_,_,_,_],_,_,H1,rfl,I1.kept (t':=s1.toks) hk,XD l1 l2 _ _ _ _ _ (PySem.W.ktu_apart _ _ _ (Heap.lt_size e1) (Heap.lt_size e2)),⟨hz,hTI,⟨_,_,hTO⟩,hi1,hi2⟩,λc hc=>?_,q⟩
   have hc':c=s1.heap.objs.size+4\/c=s1.heap.objs.size+2\/c=s1.heap.objs.size+3\/c=s1.heap.objs.size\/c=s1.heap.objs.size+1:=by simpa using hc
   have hge:s1.heap.objs.size<=c:=by rcases hc' with rfl|rfl|rfl|rfl|rfl <;> omega
   exact I1.nA hge (I1.hok.fresh hge)
end
end L2
end
section
namespace L2
open PySem
def Gp(r:Rat):Tr:=.tup [.int r.num,.int (r.den:Int)]
end L2
end
section
namespace L2
open PySem PySem.Spec PyProof.Rows
section
variable {X:Cx}{e:Expr}{te:TE}{th:TO}{pos p2:Pos}
end
end L2
end
section
namespace L2
open PySem PySem.Spec PyProof.Rows
section
variable {X:Cx}
def Gq(K:FZ):R2:=λx y H Q=>∃t ts p xs,Rep K H x t/\y=.ref p/\(bw K H p xs\/c7 K H p xs)/\aL K H xs ts/\deps ts<=40/\dep t<=40/\Q (.bl (!pN t ts)) H
open Classical in
theorem O5(hu:X.A.units+64<cLine):cH X (compareOp .NotIn) (Gq X.K):=by
 intro pins s σ H x y v u Q I rx ry h
 obtain⟨t,ts,p,xs,q1,rfl,hq,qs,hd,hd2,q⟩:=h
 cases ry
 have hu1:X.A.in1.units+40<cLine:=by
  have:=in1_units X.A
  omega
 -- what == tells of an item,by the item itself
 let e:Value->Bool:=λw'=>if h:∃z tz,z∈xs/\RelV z w'/\Rep X.K H z tz/\tz∈ts then eqT (Classical.choose (Classical.choose_spec h)) t else false
 have ee:∀z w' tz,z∈xs->RelV z w'->Rep X.K H z tz->tz∈ts->e w'=eqT tz t:=λz w' tz h1 h2 h3 h4=>by
  have hx:∃z tz,z∈xs/\RelV z w'/\Rep X.K H z tz/\tz∈ts:=⟨z,tz,h1,h2,h3,h4⟩
  show(if h:_ then _ else _)=_
  rw[dif_pos hx]
  have sp:=Classical.choose_spec (Classical.choose_spec hx)
  have key:∀z z' t1 t2,RelV z w'->RelV z' w'->dep t1<=99->Rep X.K H z t1->Rep X.K H z' t2->t1=t2:=λz z' t1 t2 a1 a2 d9 a3 a4=>by
   obtain rfl:=RelV.inj a1 a2
   exact Rep.inj I d9 a3 a4
  rw[key _ _ _ _ sp.2.1 h2 (by have:=uY sp.2.2.2; omega) sp.2.2.1 h3]
 have mem:∀{its:List Value},Vals xs its->∀w'∈its,SeqAt.EqAt X.A.in1 s w' v (e w'):=by
  intro its r w' hw
  obtain⟨j,hj,ej⟩:=List.mem_iff_getElem.mp hw
  have hjx:j<xs.length:=by rw[r.length]; exact hj
  obtain⟨u',h1,h2⟩:=r.get (List.getElem?_eq_getElem hjx)
  rw[List.getElem?_eq_getElem hj,ej]at h1
  cases h1
  obtain⟨tz,h3,h4⟩:=qs.get (List.getElem?_eq_getElem hjx)
  have hm:=List.mem_of_getElem? h3
  rw[ee _ _ tz (List.getElem_mem hjx) h2 h4 hm]
  exact(Ad I 40 X.A.in1 tz t _ x _ v hu1 (Nat.le_trans (uY hm) hd) (by have:=uY hm; omega) (by omega) h4 q1 h2 rx).2
 rcases hq with hq|hq
 ·obtain⟨its,r,pl,hz⟩:=I.list hq
  refine SeqAt.notIn_listAt e pl.isList (λw hw=>mem r w (by simpa using hw)) ⟨.bl _,H,I,rfl,?_⟩
  rw[show its.toArray.any e=its.any e by simp,Ae (λz=>eqT z t) e r qs λz w' tz h1 h2 h3 h4=>ee z w' tz h1 h2 h3 h4]
  exact q
 ·obtain⟨its,r,pl,hz⟩:=I.tuple hq
  refine SeqAt.notIn_tupleAt e pl (λw hw=>mem r w (by simpa using hw)) ⟨.bl _,H,I,rfl,?_⟩
  rw[show its.toArray.any e=its.any e by simp,Ae (λz=>eqT z t) e r qs λz w' tz h1 h2 h3 h4=>ee z w' tz h1 h2 h3 h4]
  exact q
end
section
variable {X:Cx}{tg:Expr}
end
end L2
end
section
namespace L2
open PySem PySem.Spec PyProof.Rows
section
variable {X:Cx}
end
end L2
end
section
namespace L2
open PySem PySem.Spec PyProof.Rows
inductive Rs(α : Type) where
 |bad|ex (c:Str)|ok (a : α)
def Rs.bind{α β : Type}:Rs α -> (α -> Rs β)->Rs β
 |.bad,_=>.bad
 |.ex c,_=>.ex c
 |.ok a,f=>f a
instance:Monad Rs where
 pure:=.ok
 bind:=Rs.bind
def Rs.post{α : Type}(r:Rs α)(EX:Str->Prop)(P : α -> Prop):Prop:=match r with
 |.bad=>False
 |.ex c=>EX c
 |.ok a=>P a
theorem Rs.aN{α β : Type}{r:Rs α}{f : α -> Rs β}{EX:Str->Prop}{P : β -> Prop}(h:(r.bind f).post EX P):r.post EX λa=>(f a).post EX P:=by
 cases r <;> exact h
theorem Rs.aY{α : Type}{r:Rs α}{EX:Str->Prop}{P P' : α -> Prop}(h:r.post EX P)(i:∀a,P a->P' a):r.post EX P':=by
 cases r with
 |bad=>exact h
 |ex c=>exact h
 |ok a=>exact i a h
open Classical in
def aA(W:Addr->Prop)(H:Hp):Hp:=λb=>if W b then none else H b
theorem Aj{W:Addr->Prop}{H:Hp}{b:Addr}(h:W b):aA W H b=none:=if_pos h
theorem cC{W:Addr->Prop}{H:Hp}{b:Addr}(h:¬W b):aA W H b=H b:=if_neg h
theorem gj{W:Addr->Prop}{H:Hp}{b:Addr}{o:HO}(h:aA W H b=some o):¬W b/\H b=some o:=by
 by_cases w:W b
 ·rw[Aj w]at h; cases h
 ·rw[cC w]at h; exact⟨w,h⟩
theorem gO(W:Addr->Prop)(H:Hp):Same (aA W H) H:=λ_ _ h=>(gj h).2
theorem mJ{W W':Addr->Prop}{H H':Hp}(hw:∀b o,H b=some o->W' b->W b)(s:∀b o,¬W b->H b=some o->H' b=some o):Same (aA W H) (aA W' H'):=λb o h=>by
 obtain⟨n,e⟩:=gj h
 rw[cC λw=>n (hw b o e w)]
 exact s b o n e
theorem jO{W:Addr->Prop}{H:Hp}{a:Addr}{o:HO}(h:W a):aA W (upd H a o)=aA W H:=by
 funext b
 by_cases w:W b
 ·rw[Aj w,Aj w]
 ·rw[cC w,cC w]
  exact aO λe=>w (e▸h)
inductive Sl where
 |un|sh (t:Tr)|ow (ts:List Tr)|rf (ts:List Tr)|dp (ts:List Tr)
abbrev En:=List Sl
inductive Rv where
 |v (T:Tr) (fr:Bool)|s (i:Nat)
abbrev EF:=En->Rs (Rv × En)
structure Tx where
 K:FZ
 Z:Addr->Prop
 R:Addr->Prop
 H0:Hp
 B:Hp
 EX:Str->Prop
def Mu(ρ : En)(i:Nat):Prop:=∃ts,ρ[i]?=some (Sl.ow ts)\/ρ[i]?=some (Sl.rf ts)
def xg:Tr->Bool
 |.lst _=>true
 |_=>false
inductive DR(K:FZ)(G H:Hp):List V->List Tr->List Addr->Prop
 |nil:DR K G H [] [] []
 |cl {x:V} {u:Tr} {xs:List V} {ts:List Tr} {bs:List Addr} (n:xg u=false) (h:Rep K G x u) (r:DR K G H xs ts bs):DR K G H (x::xs) (u::ts) bs
 |rw {b:Addr} {ys:List V} {us:List Tr} {xs:List V} {ts:List Tr} {bs:List Addr} (h:H b=some (.lst ys)) (q:aL K G ys us) (r:DR K G H xs ts bs):DR K G H (.ref b::xs) (.lst us::ts) (b::bs)
def qU(t:Tx)(W:Addr->Prop)(H:Hp)(a:Addr)(xs:List V)(ts:List Tr)(fp:List Addr):Prop :=
 ∃bs,fp=a::bs/\fp.Nodup/\(∀b∈fp,W b/\t.H0 b=none)/\H a=some (.lst xs)/\DR t.K (aA W H) H xs ts bs
theorem DR.move{K:FZ}{G G' H H':Hp}(m:Same G G'):∀{xs:List V} {ts:List Tr} {bs:List Addr},DR K G H xs ts bs->(∀b o,b∈bs->H b=some o->H' b=some o)->DR K G' H' xs ts bs
 |_,_,_,.nil,_=>.nil
 |_,_,_,.cl n h r,k=>.cl n (h.mono m) (DR.move m r k)
 |_,_,_,.rw h q r,k=>.rw (k _ _ (List.mem_cons_self ..) h) (q.mono m) (DR.move m r λb o hb=>k b o (List.mem_cons_of_mem _ hb))
theorem qU.move{t t':Tx}{W W':Addr->Prop}{H H':Hp}{a:Addr}{xs:List V}{ts:List Tr}{fp:List Addr}(d:qU t W H a xs ts fp)(hK:t'.K=t.K)(h0:t'.H0=t.H0)(m:Same (aA W H) (aA W' H'))(w:∀b∈fp,W' b)(k:∀b o,b∈fp->H b=some o->H' b=some o):qU t' W' H' a xs ts fp:=by
 obtain⟨bs,e,nd,ww,ha,r⟩:=d
 refine⟨bs,e,nd,λb hb=>⟨w b hb,by rw[h0]; exact(ww b hb).2⟩,k a _ (by rw[e]; exact List.mem_cons_self ..) ha,?_⟩
 rw[hK]
 exact r.move m λb o hb=>k b o (by rw[e]; exact List.mem_cons_of_mem _ hb)
def Lt(H:Hp)(b:Addr):Prop:=(∃xs,H b=some (.lst xs))\/∃ps,H b=some (.cZ ps)
theorem Lt.ne{H:Hp}{b:Addr}(h:Lt H b):H b≠none:=by
 rcases h with⟨_,h⟩|⟨_,h⟩ <;> (rw[h]; intro z; cases z)
theorem Lt.grow{H H':Hp}{b:Addr}(h:Lt H b)(s:∀b o,H b=some o->H' b=some o):Lt H' b:=by
 rcases h with⟨_,h⟩|⟨_,h⟩
 ·exact .inl ⟨_,s _ _ h⟩
 ·exact .inr ⟨_,s _ _ h⟩
def iK:List Str:=["falling_places", "order_of_bounds"]
def Tb(K:FZ)(b:Addr):Prop:=∃x∈iK,∃c,PySem.W.tabIn K x=some (c,b)
def O6(o:Obj)(q:Str):Prop:=∃vs t,o.data=.fields vs/\vs[1]?=some (.str q t)
def Al(x:Str):Str:=x++(".<locals>." : Str)++("<lambda>" : Str)
def Am(H:Hp)(q:Str)(ps:Array Value):Prop:=TriplesOk ps.toList/\∀pos v,codeAmong pos ps.toList=some v->∃c o,v=.ref c/\H c=some (.dF o (.own 0))/\O6 o q
def d8(K:FZ)(H:Hp):Prop:=∀x∈iK,∀c b,PySem.W.tabIn K x=some (c,b)->∃ps,H b=some (.cZ ps)/\Am H (Al x) ps
theorem d8.cZ{K:FZ}{H:Hp}(h:d8 K H){b:Addr}(t:Tb K b):∃ps,H b=some (.cZ ps):=by
 obtain⟨x,hx,c,e⟩:=t
 obtain⟨ps,q,_⟩:=h x hx c b e
 exact⟨ps,q⟩
theorem d8.ne{K:FZ}{H:Hp}(h:d8 K H){a b:Addr}{xs:List V}(t:Tb K b)(e:H a=some (.lst xs)):b≠a:=λz=>by
 obtain⟨ps,q⟩:=h.cZ t
 rw[z,e]at q
 cases q
theorem d8.fr{K:FZ}{H H':Hp}(h:d8 K H)(s:∀b o,(∀xs,o ≠ .lst xs)->H b=some o->H' b=some o):d8 K H':=λx hx c b e=>by
 obtain⟨ps,q,t1,t2⟩:=h x hx c b e
 refine⟨ps,s _ _ (λ_ z=>by cases z) q,t1,λpos v k=>?_⟩
 obtain⟨c,o,e1,e2,e3⟩:=t2 pos v k
 exact⟨c,o,e1,s _ _ (λ_ z=>by cases z) e2,e3⟩
theorem d8.same{K:FZ}{H H':Hp}(h:d8 K H)(s:Same H H'):d8 K H':=h.fr λb o _=>s b o
theorem d8.upd{K:FZ}{H:Hp}(h:d8 K H){a:Addr}{xs:List V}{o:HO}(e:H a=some (.lst xs)):d8 K (L2.upd H a o):=h.fr λb u n q=>by
 rw[aO]
 ·exact q
 ·rintro rfl
  rw[e]at q
  cases q
  exact n _ rfl
structure iM(t:Tx)(W:Addr->Prop)(H:Hp):Prop where
 ok:d8 t.K H
 w:∀b,Tb t.K b->W b
 r:∀b,Tb t.K b->t.R b
 B:∀b,Tb t.K b->t.B b=none
theorem iM.same{t:Tx}{W:Addr->Prop}{H H':Hp}(f:iM t W H)(s:Same H H'):iM t W H':=⟨f.ok.same s,f.w,f.r,f.B⟩
theorem iM.fr{t:Tx}{W:Addr->Prop}{H H':Hp}(f:iM t W H)(s:∀b o,(∀xs,o ≠ .lst xs)->H b=some o->H' b=some o):iM t W H':=⟨f.ok.fr s,f.w,f.r,f.B⟩
theorem iM.O7{t:Tx}{W W':Addr->Prop}{H:Hp}(f:iM t W H)(h:∀b,W b->W' b):iM t W' H:=⟨f.ok,λb z=>h b (f.w b z),f.r,f.B⟩
theorem iM.cut{t:Tx}{W:Addr->Prop}{H:Hp}(f:iM t W H){D:Addr->Prop}(h:∀b,D b->∃xs,H b=some (.lst xs)):iM t (λb=>W b/\¬D b) H:=⟨f.ok,λb z=>⟨f.w b z,λd=>by
 obtain⟨xs,e⟩:=h b d
 exact f.ok.ne z e rfl⟩,f.r,f.B⟩
theorem iM.upd{t:Tx}{W:Addr->Prop}{H:Hp}(f:iM t W H){a:Addr}{xs:List V}{o:HO}(e:H a=some (.lst xs)):iM t W (L2.upd H a o):=⟨f.ok.upd e,f.w,f.r,f.B⟩
structure EOF(t:Tx)(W:Addr->Prop)(ρ : En)(σ : St)(H:Hp)(F:Nat->List Addr):Prop where
 len : ρ.length = σ.length
 zw:∀b,t.Z b->W b
 z0:∀b,t.Z b->t.H0 b≠none
 wl:∀b,W b->Lt H b
 f0:∀b o,t.H0 b=some o->¬t.R b->H b=some o
 n0:∀b,H b=none->t.H0 b=none
 sh:∀(i:Nat) (u:Tr),ρ[i]?=some (.sh u)->∃v,σ[i]?=some (some v)/\Rep t.K (aA W H) v u
 ow:∀(i:Nat) (ts:List Tr),ρ[i]?=some (Sl.ow ts)->∃a xs,σ[i]?=some (some (V.ref a))/\W a/\t.H0 a=none/\H a=some (.lst xs)/\aL t.K (aA W H) xs ts
 rf:∀(i:Nat) (ts:List Tr),ρ[i]?=some (Sl.rf ts)->∃a xs,σ[i]?=some (some (V.ref a))/\W a/\t.R a/\H a=some (.lst xs)/\aL t.K (aA W H) xs ts
 dis:∀(i j:Nat) (a:Addr),Mu ρ i->Mu ρ j -> σ[i]?=some (some (V.ref a)) -> σ[j]?=some (some (V.ref a))->i=j
 pn:∀b o,t.B b=some o->H b=some o
 pd:∀(i:Nat) (a:Addr),Mu ρ i -> σ[i]?=some (some (V.ref a))->t.B a=none
 dp:∀(i:Nat) (ts:List Tr),ρ[i]?=some (Sl.dp ts)->∃a xs,σ[i]?=some (some (V.ref a))/\qU t W H a xs ts (F i)
 dd:∀(i j:Nat) (ts us:List Tr),i≠j -> ρ[i]?=some (Sl.dp ts) -> ρ[j]?=some (Sl.dp us)->∀b∈F i,b∉F j
 dm:∀(i j:Nat) (ts:List Tr) (c:Addr),ρ[i]?=some (Sl.dp ts)->Mu ρ j -> σ[j]?=some (some (V.ref c))->c∉F i
 db:∀(i:Nat) (ts:List Tr),ρ[i]?=some (Sl.dp ts)->∀b∈F i,t.B b=none
 tab:iM t W H
def aJ(t:Tx)(W:Addr->Prop)(ρ : En)(σ : St)(H:Hp):Prop:=∃F,EOF t W ρ σ H F
def nJ(t:Tx)(W:Addr->Prop)(a:Addr)(ρ : En)(σ : St)(H:Hp):Prop:=∃F,EOF t (λb=>W b\/b=a) ρ σ H F/\∀(i:Nat) (ts:List Tr),ρ[i]?=some (Sl.dp ts)->a∉F i
theorem nJ.ok{t:Tx}{W:Addr->Prop}{a:Addr}{ρ : En}{σ : St}{H:Hp}(e:nJ t W a ρ σ H):aJ t (λb=>W b\/b=a) ρ σ H:=e.elim λF e=>⟨F,e.1⟩
section
variable {t:Tx}{W:Addr->Prop}{ρ : En}{σ : St}{H:Hp}
theorem aJ.len(e:aJ t W ρ σ H) : ρ.length = σ.length:=e.elim λ_ e=>e.len
theorem aJ.zw(e:aJ t W ρ σ H):∀b,t.Z b->W b:=e.elim λ_ e=>e.zw
theorem aJ.z0(e:aJ t W ρ σ H):∀b,t.Z b->t.H0 b≠none:=e.elim λ_ e=>e.z0
theorem aJ.wl(e:aJ t W ρ σ H):∀b,W b->Lt H b:=e.elim λ_ e=>e.wl
theorem aJ.tab(e:aJ t W ρ σ H):iM t W H:=e.elim λ_ e=>e.tab
theorem aJ.f0(e:aJ t W ρ σ H):∀b o,t.H0 b=some o->¬t.R b->H b=some o:=e.elim λ_ e=>e.f0
theorem aJ.n0(e:aJ t W ρ σ H):∀b,H b=none->t.H0 b=none:=e.elim λ_ e=>e.n0
theorem aJ.sh(e:aJ t W ρ σ H):∀(i:Nat) (u:Tr),ρ[i]?=some (.sh u)->∃v,σ[i]?=some (some v)/\Rep t.K (aA W H) v u:=e.elim λ_ e=>e.sh
theorem aJ.ow(e:aJ t W ρ σ H):∀(i:Nat) (ts:List Tr),ρ[i]?=some (Sl.ow ts)->∃a xs,σ[i]?=some (some (V.ref a))/\W a/\t.H0 a=none/\H a=some (.lst xs)/\aL t.K (aA W H) xs ts:=e.elim λ_ e=>e.ow
theorem aJ.rf(e:aJ t W ρ σ H):∀(i:Nat) (ts:List Tr),ρ[i]?=some (Sl.rf ts)->∃a xs,σ[i]?=some (some (V.ref a))/\W a/\t.R a/\H a=some (.lst xs)/\aL t.K (aA W H) xs ts:=e.elim λ_ e=>e.rf
theorem aJ.dis(e:aJ t W ρ σ H):∀(i j:Nat) (a:Addr),Mu ρ i->Mu ρ j -> σ[i]?=some (some (V.ref a)) -> σ[j]?=some (some (V.ref a))->i=j:=e.elim λ_ e=>e.dis
theorem aJ.pn(e:aJ t W ρ σ H):∀b o,t.B b=some o->H b=some o:=e.elim λ_ e=>e.pn
theorem aJ.pd(e:aJ t W ρ σ H):∀(i:Nat) (a:Addr),Mu ρ i -> σ[i]?=some (some (V.ref a))->t.B a=none:=e.elim λ_ e=>e.pd
end
structure bG(W:Addr->Prop)(H H':Hp):Prop where
 keep:∀b o,¬W b->H b=some o->H' b=some o
 dom:∀b,H' b=none->H b=none
theorem bG.refl(W:Addr->Prop)(H:Hp):bG W H H:=⟨λ_ _ _ h=>h,λ_ h=>h⟩
theorem bG.trans{W:Addr->Prop}{H H1 H2:Hp}(a:bG W H H1)(b:bG W H1 H2):bG W H H2:=⟨λc o n h=>b.keep c o n (a.keep c o n h),λc h=>a.dom c (b.dom c h)⟩
theorem bG.of{W:Addr->Prop}{H H':Hp}(s:Same H H'):bG W H H':=⟨λb o _ h=>s b o h,λ_ h=>s.free h⟩
theorem bG.off{W:Addr->Prop}{H H':Hp}(s:bG W H H'):Same (aA W H) (aA W H'):=mJ (λ_ _ _ h=>h) s.keep
theorem aJ.grow{t:Tx}{W:Addr->Prop}{ρ : En}{σ : St}{H H':Hp}(e:aJ t W ρ σ H)(s:Same H H'):aJ t W ρ σ H':=by
 have m:Same (aA W H) (aA W H'):=(bG.of s).off
 obtain⟨F,e⟩:=e
 refine⟨F,e.len,e.zw,e.z0,λb w=>?_,λb o h n=>s b o (e.f0 b o h n),λb h=>e.n0 b (s.free h),λi u h=>?_,λi ts h=>?_,λi ts h=>?_,e.dis,λb o h=>s b o (e.pn b o h),e.pd,λi ts h=>?_,e.dd,e.dm,e.db,e.tab.same s⟩
 ·exact(e.wl b w).grow s
 ·obtain⟨v,h1,h2⟩:=e.sh i u h
  exact⟨v,h1,h2.mono m⟩
 ·obtain⟨a,xs,h1,h2,h3,h4,h5⟩:=e.ow i ts h
  exact⟨a,xs,h1,h2,h3,s _ _ h4,h5.mono m⟩
 ·obtain⟨a,xs,h1,h2,h3,h4,h5⟩:=e.rf i ts h
  exact⟨a,xs,h1,h2,h3,s _ _ h4,h5.mono m⟩
 ·obtain⟨a,xs,h1,d⟩:=e.dp i ts h
  exact⟨a,xs,h1,d.move rfl rfl m (λb hb=>by obtain⟨_,_,_,ww,_⟩:=d; exact(ww b hb).1) λb o _ q=>s b o q⟩
def dH(K:FZ)(W:Addr->Prop)(σ : St)(H H':Hp)(v:V):Rv->Prop
 |.v T false=>Rep K (aA W H') v T
 |.v T true=>∃a xs ts,v=.ref a/\T=.lst ts/\H a=none/\H' a=some (.lst xs)/\aL K (off a (aA W H')) xs ts
 |.s i=>σ[i]?=some (some v)
theorem Ao(a:Addr)(H:Hp):Same (off a H) H:=λ_ _ h=>(sX h).2
theorem dH.step{K:FZ}{W:Addr->Prop}{σ : St}{H H' dM:Hp}{v:V}{r:Rv}(hw:∀b,W b->H b≠none)(h:dH K W σ H H' v r)(s:bG W H' dM):dH K W σ H dM v r:=by
 cases r with
 |s i=>exact h
 |v T fr =>
  cases fr with
  |false=>exact Rep.mono s.off h
  |true =>
   obtain⟨a,xs,ts,rfl,rfl,e1,e2,r⟩:=h
   refine⟨a,xs,ts,rfl,rfl,e1,s.keep a _ (λw=>hw a w e1) e2,r.mono λb o q=>?_⟩
   obtain⟨n,q⟩:=sX q
   rw[off_ne n]
   exact s.off b o q
theorem dH.back{K:FZ}{W:Addr->Prop}{σ : St}{G H H':Hp}{v:V}{r:Rv}(h:dH K W σ H H' v r)(d:∀b,H b=none->G b=none):dH K W σ G H' v r:=by
 cases r with
 |s i=>exact h
 |v T fr =>
  cases fr with
  |false=>exact h
  |true =>
   obtain⟨a,xs,ts,e0,e1,e2,r⟩:=h
   exact⟨a,xs,ts,e0,e1,d _ e2,r⟩
theorem dH.rep{K:FZ}{W:Addr->Prop}{σ : St}{H H':Hp}{v:V}{T:Tr}{fr:Bool}(hw:∀b,W b->H b≠none)(h:dH K W σ H H' v (.v T fr)):Rep K (aA W H') v T:=by
 cases fr with
 |false=>exact h
 |true =>
  obtain⟨a,xs,ts,rfl,rfl,e1,e2,r⟩:=h
  refine .lst (bw.of ?_) (r.mono (Ao _ _))
  rw[cC λw=>hw a w e1]
  exact e2
def Rp(K:FZ)(W:Addr->Prop)(H:Hp)(v:V)(T:Tr):Prop :=
 Rep K (aA W H) v T\/∃a xs ts,v=.ref a/\T=.lst ts/\H a=some (.lst xs)/\aL K (aA W H) xs ts
theorem Rp.rep{K:FZ}{W:Addr->Prop}{H:Hp}{v:V}{T:Tr}(h:Rp K W H v T):Rep K H v T:=by
 rcases h with h|⟨a,xs,ts,rfl,rfl,e,r⟩
 ·exact h.mono (gO _ _)
 ·exact .lst (bw.of e) (r.mono (gO _ _))
theorem Rp.lst{K:FZ}{W:Addr->Prop}{H:Hp}{v:V}{ts:List Tr}(h:Rp K W H v (.lst ts)):∃a xs,v=.ref a/\bw K H a xs/\aL K (aA W H) xs ts:=by
 rcases h with h|⟨a,xs,us,rfl,e0,e,r⟩
 ·cases h with
  |lst h r=>exact⟨_,_,rfl,(gO _ _).seq h,r⟩
 ·cases e0
  exact⟨a,xs,rfl,bw.of e,r⟩
theorem Rp.tup{K:FZ}{W:Addr->Prop}{H:Hp}{v:V}{ts:List Tr}(h:Rp K W H v (.tup ts)):∃a xs,v=.ref a/\c7 K H a xs/\aL K (aA W H) xs ts:=by
 rcases h with h|⟨a,xs,us,rfl,e0,e,r⟩
 ·cases h with
  |tup h r=>exact⟨_,_,rfl,(gO _ _).sV h,r⟩
 ·cases e0
theorem Rp.int{K:FZ}{W:Addr->Prop}{H:Hp}{v:V}{i:Int}(h:Rp K W H v (.int i)):v=.int i:=by
 cases h.rep; rfl
theorem Rp.bl{K:FZ}{W:Addr->Prop}{H:Hp}{v:V}{i:Bool}(h:Rp K W H v (.bl i)):v=.bl i:=by
 cases h.rep; rfl
theorem Rp.str{K:FZ}{W:Addr->Prop}{H:Hp}{v:V}{i:Str}(h:Rp K W H v (.str i)):v=.str i:=by
 cases h.rep; rfl
theorem Rp.non{K:FZ}{W:Addr->Prop}{H:Hp}{v:V}(h:Rp K W H v .non):v=.non:=by
 cases h.rep; rfl
def dr(ρ : En):Rv->Rs Tr
 |.v T _=>.ok T
 |.s i=>match ρ[i]? with
  |some (Sl.ow ts)=>.ok (.lst ts)
  |some (Sl.rf ts)=>.ok (.lst ts)
  |_=>.bad
theorem lB{t:Tx}{W:Addr->Prop}{ρ : En}{σ : St}{H H':Hp}{v:V}{r:Rv}{T:Tr}(e:aJ t W ρ σ H')(hw:∀b,W b->H b≠none)(h:dH t.K W σ H H' v r)(q:dr ρ r=.ok T):Rp t.K W H' v T:=by
 cases r with
 |v U fr =>
  cases q
  exact .inl (h.rep hw)
 |s i =>
  have h : σ[i]?=some (some v):=h
  dsimp only[dr]at q
  split at q
  ·rename_i ts e1
   cases q
   obtain⟨a,xs,h1,h2,h3,h4,h5⟩:=e.ow i ts e1
   rw[h]at h1
   cases h1
   exact .inr ⟨a,xs,ts,rfl,rfl,h4,h5⟩
  ·rename_i ts e1
   cases q
   obtain⟨a,xs,h1,h2,h3,h4,h5⟩:=e.rf i ts e1
   rw[h]at h1
   cases h1
   exact .inr ⟨a,xs,ts,rfl,rfl,h4,h5⟩
  ·cases q
theorem aJ.wn{t:Tx}{W:Addr->Prop}{ρ : En}{σ : St}{H:Hp}(e:aJ t W ρ σ H):∀b,W b->H b≠none:=λb w=>by
 exact(e.wl b w).ne
theorem aJ.hide{t:Tx}{W:Addr->Prop}{ρ : En}{σ : St}{H H':Hp}{a:Addr}{xs:List V}(e:aJ t W ρ σ H)(s:Same H H')(n:H a=none)(q:H' a=some (.lst xs)):nJ t W a ρ σ H':=by
 have m:Same (aA W H) (aA (λb=>W b\/b=a) H'):=λb o h=>by
  obtain⟨w,h⟩:=gj h
  rw[cC]
  ·exact s b o h
  ·rintro(z|rfl)
   ·exact w z
   ·rw[n]at h; cases h
 have na:∀b,W b->b≠a:=λb w z=>by subst z; exact e.wn b w n
 obtain⟨F,e⟩:=e
 refine⟨F,⟨e.len,λb z=>.inl (e.zw b z),e.z0,λb w=>?_,λb o h nr=>s b o (e.f0 b o h nr),λb h=>e.n0 b (s.free h),λi u h=>?_,λi ts h=>?_,λi ts h=>?_,e.dis,λb o h=>s b o (e.pn b o h),e.pd,λi ts h=>?_,e.dd,e.dm,e.db,(e.tab.same s).O7 λb w=>.inl w⟩,λi ts h z=>?_⟩
 ·rcases w with w|rfl
  ·exact(e.wl b w).grow s
  ·exact .inl ⟨xs,q⟩
 ·obtain⟨v,h1,h2⟩:=e.sh i u h
  exact⟨v,h1,h2.mono m⟩
 ·obtain⟨c,ys,h1,h2,h3,h4,h5⟩:=e.ow i ts h
  exact⟨c,ys,h1,.inl h2,h3,s _ _ h4,h5.mono m⟩
 ·obtain⟨c,ys,h1,h2,h3,h4,h5⟩:=e.rf i ts h
  exact⟨c,ys,h1,.inl h2,h3,s _ _ h4,h5.mono m⟩
 ·obtain⟨c,ys,h1,d⟩:=e.dp i ts h
  exact⟨c,ys,h1,d.move rfl rfl m (λb hb=>by obtain⟨_,_,_,ww,_⟩:=d; exact .inl (ww b hb).1) λb o _ q=>s b o q⟩
 ·obtain⟨c,ys,h1,bs,_,_,ww,_⟩:=e.dp i ts h
  exact na a (ww a z).1 rfl
def gY(t:Tx)(W:Addr->Prop)(ρ : En)(σ : St)(H H':Hp)(v:V)(r:Rv):Prop:=dH t.K W σ H H' v r/\∀T a,r=.v T true->v=.ref a->nJ t W a ρ σ H'
theorem gY.of{t:Tx}{W:Addr->Prop}{ρ : En}{σ σ':St}{H H':Hp}{v:V}{T:Tr}{fr:Bool}(e:aJ t W ρ σ H)(s:Same H H')(h:dH t.K W σ' H H' v (.v T fr)):gY t W ρ σ H H' v (.v T fr):=by
 refine⟨by cases fr <;> exact h,λU a z ev=>?_⟩
 cases z
 obtain⟨b,xs,ts,rfl,_,n,q,_⟩:=h
 cases ev
 exact e.hide s n q
theorem gY.low{t:Tx}{W:Addr->Prop}{ρ : En}{σ : St}{H H':Hp}{v:V}{T:Tr}(h:Rep t.K (aA W H') v T):gY t W ρ σ H H' v (.v T false):=⟨h,λ_ _ z=>by cases z⟩
theorem gY.back{t:Tx}{W:Addr->Prop}{ρ : En}{σ : St}{G H H':Hp}{v:V}{r:Rv}(h:gY t W ρ σ H H' v r)(d:∀b,H b=none->G b=none):gY t W ρ σ G H' v r:=⟨h.1.back d,h.2⟩
def SE(t:Tx)(te:TE)(f:EF):Prop:=∀W ρ σ H Q,aJ t W ρ σ H->(f ρ).post t.EX (λp=>∀v H',aJ t W p.2 σ H'->bG W H H'->gY t W p.2 σ H H' v p.1->Q v H')->te σ H Q
abbrev BF:=En->Rs (Bool × En)
def ST(t:Tx)(te:TT)(f:BF):Prop:=∀W ρ σ H Q,aJ t W ρ σ H->(f ρ).post t.EX (λp=>∀H',aJ t W p.2 σ H'->bG W H H'->Q p.1 H')->te σ H Q
abbrev AF:=En->Rs (List Rv × En)
inductive iz(K:FZ)(W:Addr->Prop)(σ : St)(H H':Hp):List V->List Rv->Prop
 |nil:iz K W σ H H' [] []
 |cons {v:V} {r:Rv} {vs:List V} {rs:List Rv} (h:dH K W σ H H' v r) (q:iz K W σ H H' vs rs):iz K W σ H H' (v::vs) (r::rs)
def SA(t:Tx)(te:TA)(f:AF):Prop:=∀W ρ σ H Q,aJ t W ρ σ H->(f ρ).post t.EX (λp=>∀vs H',aJ t W p.2 σ H'->bG W H H'->iz t.K W σ H H' vs p.1->Q vs H')->te σ H Q
section
variable {t:Tx}
def aj(i:Nat):EF:=λρ=>match ρ[i]? with
 |some (.sh T)=>.ok (.v T false,ρ)
 |some (.ow _)=>.ok (.s i,ρ)
 |some (.rf _)=>.ok (.s i,ρ)
 |_=>.bad
theorem aP(i:Nat):SE t (fY i) (aj i):=λW ρ σ H Q e h=>by
 unfold aj at h
 split at h
 ·rename_i T q
  obtain⟨v,h1,h2⟩:=e.sh i T q
  exact⟨v,h1,h v H e (bG.refl _ _) (.low h2)⟩
 ·rename_i ts q
  obtain⟨a,xs,h1,_⟩:=e.ow i ts q
  exact⟨_,h1,h _ H e (bG.refl _ _) ⟨h1,λ_ _ z=>by cases z⟩⟩
 ·rename_i ts q
  obtain⟨a,xs,h1,_⟩:=e.rf i ts q
  exact⟨_,h1,h _ H e (bG.refl _ _) ⟨h1,λ_ _ z=>by cases z⟩⟩
 ·exact h.elim
def eC(T:Tr):EF:=λρ=>.ok (.v T false,ρ)
theorem xq{v:V}{T:Tr}(h:∀H,Rep t.K H v T):SE t (tC v) (eC T):=λW ρ σ H Q e q=>q v H e (bG.refl _ _) (.low (h _))
theorem fD(i:Int):SE t (tC (.int i)) (eC (.int i)):=xq λ_=>.int i
theorem qW(i:Bool):SE t (tC (.bl i)) (eC (.bl i)):=xq λ_=>.bl i
theorem Gs(i:Str):SE t (tC (.str i)) (eC (.str i)):=xq λ_=>.str i
theorem XJ:SE t (tC .non) (eC .non):=xq λ_=>.non
abbrev G2:=Tr->Tr->Rs (Tr × Bool)
def fQ(K:FZ)(r:R2)(g:G2):Prop:=∀W x y a b H Q,(∀b,W b->Lt H b)->Rp K W H x a->Rp K W H y b ->
 (g a b).post (λ_=>False) (λp=>∀v H',Same H H'->dH K W [] H H' v (.v p.1 p.2)->Q v H')->r x y H Q
def aq(g:G2)(fa fb:EF):EF:=λρ=>(fa ρ).bind λp=>(fb p.2).bind λq=>(dr q.2 p.1).bind λa=>(dr q.2 q.1).bind λb=>(g a b).bind λz=>.ok (.v z.1 z.2,q.2)
theorem jz{α : Type}{r:Rs α}{EX:Str->Prop}{P : α -> Prop}(h:r.post EX P)(n:∀c,r ≠ .ex c):r.post (λ_=>False) P:=by
 cases r with
 |bad=>exact h
 |ex c=>exact(n c rfl).elim
 |ok a=>exact h
theorem lC(ρ : En)(r:Rv)(c:Str):dr ρ r ≠ .ex c:=by
 cases r with
 |v T fr=>intro z; cases z
 |s i =>
  dsimp only[dr]
  split <;> (intro z; cases z)
theorem jP{r:R2}{g:G2}{ta tb:TE}{fa fb:EF}(o:fQ t.K r g)(ng:∀a b c,g a b ≠ .ex c)(ha:SE t ta fa)(hb:SE t tb fb):SE t (eU r ta tb) (aq g fa fb):=λW ρ σ H Q e h=>by
 refine ha W ρ σ H _ e (Rs.aY (Rs.aN h) λp h x H1 e1 s1 v1=>?_)
 refine hb W p.2 σ H1 _ e1 (Rs.aY (Rs.aN h) λq h y H2 e2 s2 v2=>?_)
 have h:=Rs.aN h
 cases k1:dr q.2 p.1 with
 |bad=>rw[k1]at h; exact h.elim
 |ex c=>exact(lC _ _ _ k1).elim
 |ok a =>
  rw[k1]at h
  have h:((dr q.2 q.1).bind _).post _ _:=h
  have h:=Rs.aN h
  cases k2:dr q.2 q.1 with
  |bad=>rw[k2]at h; exact h.elim
  |ex c=>exact(lC _ _ _ k2).elim
  |ok b =>
   rw[k2]at h
   have h:((g a b).bind _).post _ _:=h
   have r1:=lB e2 e.wn (v1.1.step e.wn s2) k1
   have r2:=lB e2 e1.wn v2.1 k2
   refine o W x y a b H2 Q e2.wl r1 r2 (Rs.aY (jz (Rs.aN h) (ng a b)) λz h v H3 s3 v3=>?_)
   have st:bG W H H3:=(s1.trans s2).trans (bG.of s3)
   exact h v H3 (e2.grow s3) st ((gY.of e2 s3 v3).back λb q=>(s1.trans s2).dom b q)
inductive sY:V->Tr->Prop
 |non:sY .non .non
 |bl (b:Bool):sY (.bl b) (.bl b)
 |int (b:Int):sY (.int b) (.int b)
 |str (b:Str):sY (.str b) (.str b)
theorem sY.rep{K:FZ}{H:Hp}{v:V}{T:Tr}(h:sY v T):Rep K H v T:=by
 cases h <;> constructor
end
end L2
end
section
namespace L2
open PySem PySem.Spec PyProof.Rows
section
variable {X:Cx}
def Gu(K:FZ):R2:=λx y H Q=>∃t u,Rep K H x t/\Rep K H y u/\dep t<=40/\dep u<=40/\Q (.bl (!eqT t u)) H
theorem qX(hu:X.A.units+64<cLine):cH X (compareOp .NotEq) (Gu X.K):=by
 intro pins s σ H x y v u Q I vx vy h
 obtain⟨t,t',rx,ry,hd,du,q⟩:=h
 have hu0:X.A.units<cLine:=by omega
 have hu1:X.A.in1.units+40<cLine:=by
  have:=in1_units X.A
  omega
 have fin:SeqAt.RcNeAt X.A s v u (!eqT t t')->wpAny (model X.prog X.w) X.A (compareOp .NotEq v u) (EP X pins σ Q) X.xe s:=λh=>h _ _ _ _ ⟨.bl _,H,I,rfl,q⟩
 have items:∀{xs ys:List V} {ts us:List Tr} {its its2:List Value},Vals xs its->Vals ys its2->aL X.K H xs ts->aL X.K H ys us->deps ts<=40->deps us<=40->∀j (h1:j<its.toArray.size) (h2:j<its2.toArray.size),SeqAt.EqAt X.A.in1 s its.toArray[j] its2.toArray[j] (pL ts us j):=by
  intro xs ys ts us its its2 r1 r2 q1 q2 hde Ot j h1 h2
  obtain⟨a,ea,ra⟩:=Ac r1 h1
  obtain⟨b,eb,rb⟩:=Ac r2 h2
  obtain⟨ta,eta,qa⟩:=q1.get ea
  obtain⟨tb,wY,qb⟩:=q2.get eb
  rw[Oq eta wY]
  exact(Ad I 40 X.A.in1 ta tb a b _ _ hu1 (Nat.le_trans (qR eta) hde) (by have:=qR eta; omega) (by have:=qR wY; omega) qa qb ra rb).2
 cases rx with
 |cW h m n=>unfold dep at hd; omega
 |non =>
  cases vx
  cases ry with
  |non=>cases vy; unfold eqT at fin; exact fin .none_none
  |bl b2=>cases vy; unfold eqT at fin; exact fin (.none_bool _)
  |int i2=>obtain⟨_,rfl⟩:=vy; unfold eqT at fin; exact fin (.none_int _ _)
  |str z2=>obtain⟨_,rfl⟩:=vy; unfold eqT at fin; exact fin (.none_str _ _)
  |tup h r=>cases vy; obtain⟨_,_,p,_⟩:=I.tuple h; unfold eqT at fin; exact fin (.none_tuple p hu0)
  |lst h r=>cases vy; obtain⟨_,_,p,_⟩:=I.list h; unfold eqT at fin; exact fin (.none_list p.isList hu0)
  |cW h m n=>unfold dep at du; omega
 |bl b =>
  cases vx
  cases ry with
  |non=>cases vy; unfold eqT at fin; exact fin (.bool_none _)
  |bl b2=>cases vy; unfold eqT at fin; exact fin (.bool_bool _ _)
  |int i2=>obtain⟨_,rfl⟩:=vy; unfold eqT at fin; exact fin (.bool_int _ _ _)
  |str z2=>obtain⟨_,rfl⟩:=vy; unfold eqT at fin; exact fin (.bool_str _ _ _)
  |tup h r=>cases vy; obtain⟨_,_,p,_⟩:=I.tuple h; unfold eqT at fin; exact fin (.bool_tuple _ p hu0)
  |lst h r=>cases vy; obtain⟨_,_,p,_⟩:=I.list h; unfold eqT at fin; exact fin (.bool_list _ p.isList hu0)
  |cW h m n=>unfold dep at du; omega
 |int i =>
  obtain⟨_,rfl⟩:=vx
  cases ry with
  |non=>cases vy; unfold eqT at fin; exact fin (.int_none _ _)
  |bl b2=>cases vy; unfold eqT at fin; exact fin (.int_bool _ _ _)
  |int i2=>obtain⟨_,rfl⟩:=vy; unfold eqT at fin; exact fin (.int_int _ _ _ _)
  |str z2=>obtain⟨_,rfl⟩:=vy; unfold eqT at fin; exact fin (.int_str _ _ _ _)
  |tup h r=>cases vy; obtain⟨_,_,p,_⟩:=I.tuple h; unfold eqT at fin; exact fin (.int_tuple _ _ p hu0)
  |lst h r=>cases vy; obtain⟨_,_,p,_⟩:=I.list h; unfold eqT at fin; exact fin (.int_list _ _ p.isList hu0)
  |cW h m n=>unfold dep at du; omega
 |str z =>
  obtain⟨_,rfl⟩:=vx
  cases ry with
  |non=>cases vy; unfold eqT at fin; exact fin (.str_none _ _)
  |bl b2=>cases vy; unfold eqT at fin; exact fin (.str_bool _ _ _)
  |int i2=>obtain⟨_,rfl⟩:=vy; unfold eqT at fin; exact fin (.str_int _ _ _ _)
  |str z2=>obtain⟨_,rfl⟩:=vy; unfold eqT at fin; exact fin (.str_str _ _ _ _)
  |tup h r=>cases vy; obtain⟨_,_,p,_⟩:=I.tuple h; unfold eqT at fin; exact fin (.str_tuple _ _ p hu0)
  |lst h r=>cases vy; obtain⟨_,_,p,_⟩:=I.list h; unfold eqT at fin; exact fin (.str_list _ _ p.isList hu0)
  |cW h m n=>unfold dep at du; omega
 | @tup a1 xs1 ts h1 r1 =>
  cases vx
  obtain⟨its,rv,p,_⟩:=I.tuple h1
  have hd':deps ts<=40:=by unfold dep at hd; omega
  cases ry with
  |non=>cases vy; unfold eqT at fin; exact fin (.tuple_none p hu0)
  |bl b2=>cases vy; unfold eqT at fin; exact fin (.tuple_bool _ p hu0)
  |int i2=>obtain⟨_,rfl⟩:=vy; unfold eqT at fin; exact fin (.tuple_int _ _ p hu0)
  |str z2=>obtain⟨_,rfl⟩:=vy; unfold eqT at fin; exact fin (.tuple_str _ _ p hu0)
  |lst h r=>cases vy; obtain⟨_,_,p2,_⟩:=I.list h; unfold eqT at fin; exact fin (.tuple_list p p2.isList hu0)
  |cW h m n=>unfold dep at du; omega
  | @tup a2 xs2 us h2 r2 =>
   cases vy
   obtain⟨its2,jt,p2,_⟩:=I.tuple h2
   have R:=SeqAt.RcNeAt.tuples (A:=X.A) (e:=pL ts us) p p2 (by omega) λj k1 k2=>items rv jt r1 r2 hd' (by unfold dep at du; omega) j k1 k2
   have el:its.toArray.size=ts.length:=by simpa using(rv.length.symm.trans r1.length)
   have el2:its2.toArray.size=us.length:=by simpa using(jt.length.symm.trans r2.length)
   rw[el,el2]at R
   have eb:((List.range (min ts.length us.length)).all (pL ts us)&&ts.length == us.length)=eqT (.tup ts) (.tup us):=by
    unfold eqT
    by_cases e:ts.length=us.length
    ·rw[e,Nat.min_self,<-e,wV e,beq_self_eq_true,Bool.and_true]
    ·rw[beq_false_of_ne e,Bool.and_false,wU e]
   rw[eb]at R
   exact fin R
 | @lst a1 xs1 ts h1 r1 =>
  cases vx
  obtain⟨its,rv,p,_⟩:=I.list h1
  have hd':deps ts<=40:=by unfold dep at hd; omega
  cases ry with
  |non=>cases vy; unfold eqT at fin; exact fin (.list_none p.isList hu0)
  |bl b2=>cases vy; unfold eqT at fin; exact fin (.list_bool _ p.isList hu0)
  |int i2=>obtain⟨_,rfl⟩:=vy; unfold eqT at fin; exact fin (.list_int _ _ p.isList hu0)
  |str z2=>obtain⟨_,rfl⟩:=vy; unfold eqT at fin; exact fin (.list_str _ _ p.isList hu0)
  |cW h m n=>unfold dep at du; omega
  |tup h r=>cases vy; obtain⟨_,_,p2,_⟩:=I.tuple h; unfold eqT at fin; exact fin (.list_tuple p.isList p2 hu0)
  | @lst a2 xs2 us h2 r2 =>
   cases vy
   obtain⟨its2,jt,p2,_⟩:=I.list h2
   have el:its.toArray.size=ts.length:=by simpa using(rv.length.symm.trans r1.length)
   have el2:its2.toArray.size=us.length:=by simpa using(jt.length.symm.trans r2.length)
   by_cases e:ts.length=us.length
   ·have R:=SeqAt.RcNeAt.lists (A:=X.A) (e:=pL ts us) p.isList p2.isList (by omega) (by omega) λj k1 k2=>items rv jt r1 r2 hd' (by unfold dep at du; omega) j k1 k2
    rw[el]at R
    rw[wV e]at R
    unfold eqT at fin
    exact fin R
   ·have R:=SeqAt.RcNeAt.lists_lengths (A:=X.A) p.isList p2.isList (by rw[el,el2]; simpa using e) (by omega)
    unfold eqT at fin
    rw[wU e]at fin
    exact fin R
end
open Classical in
def eY(o:Obj):Obj:=if o.cls=.type "list" ∧ ¬(∃its n,o={cls:=.type "list",data:=.seq its n })then{cls:=.none,data:=.fields #[] }else o
def aB(K:FZ):FZ:=K.map λp=>(p.1,eY p.2)
theorem mK:∀(K:FZ) (a:Addr),(aB K).lookup a=(K.lookup a).map eY
 | [],a=>rfl
 |(c,q)::r,a=>by
  show((c,eY q)::aB r).lookup a=_
  rw[List.lookup_cons,List.lookup_cons]
  cases a == c with
  |true=>rfl
  |false=>exact mK r a
theorem XM{K:FZ}{a:Addr}{o:Obj}(h:(aB K).lookup a=some o)(c:o.cls=.type "tuple"):K.lookup a=some o:=by
 rw[mK]at h
 cases e:K.lookup a with
 |none=>rw[e]at h; cases h
 |some q =>
  rw[e]at h
  have h:eY q=o:=Option.some.inj h
  unfold eY at h
  split at h
  ·subst h; cases c
  ·rw[h]
theorem XQ{K:FZ}{a:Addr}{o:Obj}(h:(aB K).lookup a=some o)(c:o.cls=.type "list"):K.lookup a=some o∧∃its n,o={cls:=.type "list",data:=.seq its n }:=by
 rw[mK]at h
 cases e:K.lookup a with
 |none=>rw[e]at h; cases h
 |some q =>
  rw[e]at h
  have h:eY q=o:=Option.some.inj h
  unfold eY at h
  split at h
  ·subst h; cases c
  ·rename_i n
   subst h
   refine⟨rfl,?_⟩
   by_cases z:∃its n,q={cls:=.type "list",data:=.seq its n }
   ·exact z
   ·exact(n ⟨c,z⟩).elim
theorem c7.toK{K:FZ}{H:Hp}{a:Addr}{xs:List V}(h:c7 (aB K) H a xs):c7 K H a xs:=by
 rcases h with h|⟨o,its,n,e,c,r⟩
 ·exact .inl h
 ·exact .inr ⟨o,its,n,XM e c,c,r⟩
def lD(K:FZ)(H:Hp)(a:Addr)(xs:List V):Prop:=Rd H a (.lst xs)\/∃(its:Array Value) (n:Nat),K.lookup a=some {cls:=.type "list",data:=.seq its n }/\its.size<=sizeLine/\Vals xs its.toList
theorem bw.xr{K:FZ}{H:Hp}{a:Addr}{xs:List V}(h:bw (aB K) H a xs):lD K H a xs:=by
 rcases h with h|⟨o,its,n,e,c,_,d,r⟩
 ·exact .inl h
 ·obtain⟨e2,its',n',rfl⟩:=XQ e c
  have d:Data.seq its' n'=.seq its n:=d
  injection d with d1 d2
  subst d1 d2
  exact .inr ⟨its',n',e2,r⟩
theorem lD.toK{K:FZ}{H:Hp}{a:Addr}{xs:List V}(h:lD K H a xs):bw K H a xs:=by
 rcases h with h|⟨its,n,e,r⟩
 ·exact .inl h
 ·exact .inr ⟨_,its,n,e,rfl,rfl,rfl,r⟩
theorem lD.toN{K:FZ}{H:Hp}{a:Addr}{xs:List V}(h:lD K H a xs):bw (aB K) H a xs:=by
 rcases h with h|⟨its,n,e,r⟩
 ·exact .inl h
 ·refine .inr ⟨{cls:=.type "list",data:=.seq its n },its,n,?_,rfl,rfl,rfl,r⟩
  rw[mK,e]
  show some (eY _)=_
  unfold eY
  rw[if_neg λz=>z.2 ⟨its,n,rfl⟩]
theorem bw.toK{K:FZ}{H:Hp}{a:Addr}{xs:List V}(h:bw (aB K) H a xs):bw K H a xs:=h.xr.toK
theorem XR{K:FZ}{N:Addr}{c:Str}{v:Value}(h:PySem.W.nsIn (aB K) N c=some (some v)):PySem.W.nsIn K N c=some (some v):=by
 unfold PySem.W.nsIn at h ⊢
 rw[mK]at h
 cases e:K.lookup N with
 |none=>rw[e]at h; cases h
 |some q =>
  rw[e]at h
  by_cases z:q.cls=.type "list" ∧ ¬(∃its n,q={cls:=.type "list",data:=.seq its n })
  ·have:eY q={cls:=.none,data:=.fields #[] }:=by unfold eY; rw[if_pos z]
   rw[show(some q).map eY=some (eY q)from rfl,this]at h
   cases h
  ·have:eY q=q:=by unfold eY; rw[if_neg z]
   rw[show(some q).map eY=some (eY q)from rfl,this]at h
   exact h
mutual
theorem Rep.toK{K:FZ}{H:Hp}:∀{v:V} {t:Tr},Rep (aB K) H v t->Rep K H v t
 |_,_,.non=>.non
 |_,_,.bl b=>.bl b
 |_,_,.int i=>.int i
 |_,_,.str x=>.str x
 |_,_,.tup h r=>.tup h.toK (aL.toK r)
 |_,_,.lst h r=>.lst h.toK (aL.toK r)
 |_,_,.cW h m n=>.cW h m (XR n)
theorem aL.toK{K:FZ}{H:Hp}:∀{v:List V} {t:List Tr},aL (aB K) H v t->aL K H v t
 |_,_,.nil=>.nil
 |_,_,.cons h r=>.cons (Rep.toK h) (aL.toK r)
end
section
variable {X:Cx}
theorem Inv.Gv{pins:List (Addr × Obj)}{σ : St}{H:Hp}{s:Shared}{l:Addr}{xs:List V}(I:Inv X pins σ H s)(hH:lD X.K H l xs):xs.length<=sizeLine/\∃(its:List Value) (n:Nat),Vals xs its/\xs.length=its.length/\s.heap.get? l=some {cls:=.type "list",data:=.seq its.toArray n }:=by
 rcases hH with hH|⟨its,n,e,z,r⟩
 ·obtain⟨z,its,n,r,e⟩:=hH.ok I.hok
  exact⟨z,its,n,r,r.length,e⟩
 ·have l':xs.length=its.size:=r.length.trans Array.length_toList
  exact⟨by rw[l']; exact z,its.toList,n,r,r.length,I.jK _ _ e⟩
def O8(K:FZ):R2:=λx y H Q=>∃l b xs zs,x=.ref l/\y=.ref b/\lD K H l xs/\lD K H b zs/\xs.length+zs.length<=sizeLine/\∀p,H p=none->Q (.ref p) (upd H p (.lst (xs++zs)))
theorem XS:cH X (binaryOp .Add) (O8 X.K):=by
 intro pins s σ H x y v u Q I rx ry h
 obtain⟨l,b,xs,zs,rfl,rfl,hH,hB,hz,q⟩:=h
 cases rx
 cases ry
 obtain⟨z,its,n,r,hl,e⟩:=I.Gv hH
 obtain⟨z2,its2,n2,r2,hl2,e2⟩:=I.Gv hB
 refine PySem.P.add_list e e2 ?_ (by rw[List.size_toArray,List.size_toArray]; omega)
 have ea:its.toArray++its2.toArray=(its++its2).toArray:=by simp
 rw[ea]
 exact⟨.ref _,_,I.zZ (t':=s.toks) (r.append r2) (by rw[List.length_append]; omega),rfl,q _ I.fresh⟩
end
end L2
end
section
namespace L2
open PySem PySem.Spec PyProof.Rows
def O9(K:FZ):R2:=λx y H Q=>∃l k xs,x=.ref l/\y=.int k/\lD K H l xs /\ -(2 ^ 63)<=k/\k<2 ^ 63/\xs.length*k.toNat<=sizeLine/\∀p,H p=none->Q (.ref p) (upd H p (.lst (List.replicate k.toNat xs).flatten))
theorem X3{X:Cx}:cH X (binaryOp .Mult) (O9 X.K):=by
 intro pins s σ H x y v u Q I rx ry h
 obtain⟨l,k,xs,rfl,rfl,hH,h1,h2,hz,q⟩:=h
 cases rx
 obtain⟨t,rfl⟩:=ry
 obtain⟨z,its,n,r,hl,e⟩:=I.Gv hH
 have hlen:its.toArray.size*k.toNat<=sizeLine:=by rw[List.size_toArray,<-hl]; exact hz
 have hcap:¬its.toArray.size*k.toNat > (2 ^ 63-1) / 8:=by
  have:(sizeLine:Nat)<=(2 ^ 63-1) / 8:=by decide
  omega
 have hfit:¬(!Builtin.List.listFitsIndex k)=true:=by
  rw[fitsIndex_both h1 h2]
  exact Bool.false_ne_true
 have X4:¬Builtin.List.listTooLong (its.toArray.size*k.toNat)=true:=by
  rw[W4 hlen]
  exact Bool.false_ne_true
 have hnew:List.foldl (λx1 x2=>x1++x2) #[] (List.replicate (if its.toArray.isEmpty=true then 0 else k.toNat) its.toArray)=(List.replicate k.toNat its).flatten.toArray:=by
  have f0:∀m:Nat,List.foldl (λx1 x2=>x1++x2) #[] (List.replicate m its.toArray)=(List.replicate m its).flatten.toArray:=λm=>by
   have:=foldl_rep its m []
   rw[List.nil_append]at this
   exact this
  rw[f0]
  cases its with
  |nil=>simp
  |cons a r'=>rw[if_neg (by simp)]
 refine wpAny_binaryOp_repeat_ref (T := "list") (U := "int") (by decide) ⟨_,e,rfl⟩ (λs'=>typeIs_int s' k t) noFill_list_mul F.fills_int_mul F.slot_int_rmul repeat_list F.slot_int_index.lookup
  (call_meets F.slot_int_rmul (typeIs_int s k t) F.entry_int_rmul (F.args_int_rmul_2 _ _) (int___rmul___int_list k t l its.toArray n)
   ⟨e,rfl,⟨_,e,rfl⟩,call_meets F.slot_list_mul ⟨_,e,rfl⟩ F.entry_list_mul (F.args_list_mul_2 _ _) (AutoListH.list___mul___list_int_3 l its.toArray n k t hfit hcap X4) ⟨e,?_⟩⟩)
 rw[hnew]
 exact⟨.ref _,_,I.zZ (t':=s.toks) (r.rep k.toNat) (by rw[len_rep,Nat.mul_comm]; exact hz),rfl,q _ I.fresh⟩
end L2
end
section
namespace L2
open PySem PySem.Spec PyProof.Rows
section
variable {K:FZ}{W:Addr->Prop}{σ : St}{H:Hp}{p:Addr}{xs:List V}{ts:List Tr}
theorem Aq{o:HO}(hp:H p=none):Same (aA W H) (off p (aA W (upd H p o))):=λb u q=>by
 obtain⟨n,e⟩:=gj q
 have ne:b≠p:=gC e hp
 rw[off_ne ne,cC n,aO ne]
 exact e
theorem dH.new(hp:H p=none)(r:aL K (aA W H) xs ts):dH K W σ H (upd H p (.lst xs)) (.ref p) (.v (.lst ts) true) :=
 ⟨p,xs,ts,rfl,rfl,hp,cB,r.mono (Aq hp)⟩
theorem dH.newT(hw:∀b,W b->Lt H b)(hp:H p=none)(r:aL K (aA W H) xs ts):dH K W σ H (upd H p (.tup xs)) (.ref p) (.v (.tup ts) false):=by
 have nw:¬W p:=λw=>by
  exact(hw p w).ne hp
 refine .tup (c7.of ?_) (r.mono λb u q=>(sX (Aq (o:=.tup xs) hp b u q)).2)
 rw[cC nw]
 exact cB
theorem dH.fV{H':Hp}{v:V}{T:Tr}(h:sY v T):dH K W σ H H' v (.v T false):=h.rep
theorem aL.mL{H:Hp}:∀{v:List V} {t:List Tr} {i:Nat} {u:Tr},aL K H v t->t[i]?=some u->∃x,v[i]?=some x/\Rep K H x u
 |_,_,_,_,.nil,e=>by simp at e
 |_,_,0,_,.cons h _,e=>by
  simp at e
  subst e
  exact⟨_,rfl,h⟩
 |_,_,i+1,x,.cons _ r,e=>by
  obtain⟨u,h1,h2⟩:=aL.mL (i:=i) (u:=x) r (by simpa using e)
  exact⟨u,by simpa using h1,h2⟩
theorem aL.eX(r:aL K H xs ts){i:Int}{t:Tr}(h:eX ts i=some t):∃x,L2.eX xs i=some x/\Rep K H x t:=by
 unfold L2.eX at h ⊢
 rw[r.length]
 cases e:gM ts.length i with
 |none=>rw[e]at h; cases h
 |some j =>
  rw[e]at h
  exact r.mL h
theorem Rp.X5{v:V}(h:Rp K W H v (.tup ts)):Rep K (aA W H) v (.tup ts):=by
 rcases h with h|⟨a,xs,us,rfl,e0,e,r⟩
 ·exact h
 ·cases e0
theorem big{n:Nat}(h:n<=100000):n<=sizeLine:=Nat.le_trans h (by decide)
end
section
variable {K:FZ}
def gI(p:Int->Int->Int):G2
 |.int i,.int j=>.ok (.int (p i j),false)
 |_,_=>.bad
theorem X6{p:Int->Int->Int}:fQ K (iw λi j=>.int (p i j)) (gI p):=λW x y a b H Q hw rx ry h=>by
 cases a <;> try exact h.elim
 cases b <;> try exact h.elim
 rw[rx.int,ry.int]
 exact⟨_,_,rfl,rfl,h _ H (Same.refl _) (.fV (.int _))⟩
def eZ(c:Int->Int->Bool)(p:Int->Int->Int):G2
 |.int i,.int j=>if c i j=true then .ok (.int (p i j),false)else .bad
 |_,_=>.bad
theorem Gw{C:Int->Int->Prop}{c:Int->Int->Bool}{p:Int->Int->Int}(hc:∀i j,c i j=true->C i j):fQ K (rI C λi j=>.int (p i j)) (eZ c p):=λW x y a b H Q hw rx ry h=>by
 cases a <;> try exact h.elim
 cases b <;> try exact h.elim
 rw[rx.int,ry.int]
 dsimp only[eZ]at h
 split at h
 ·rename_i e
  exact⟨_,_,rfl,rfl,hc _ _ e,h _ H (Same.refl _) (.fV (.int _))⟩
 ·exact h.elim
def gB(p:Int->Int->Bool):G2
 |.int i,.int j=>.ok (.bl (p i j),false)
 |_,_=>.bad
theorem Gx{p:Int->Int->Bool}:fQ K (iw λi j=>.bl (p i j)) (gB p):=λW x y a b H Q hw rx ry h=>by
 cases a <;> try exact h.elim
 cases b <;> try exact h.elim
 rw[rx.int,ry.int]
 exact⟨_,_,rfl,rfl,h _ H (Same.refl _) (.fV (.bl _))⟩
def dw:G2:=λt u=>if dep t<=40/\dep u<=40 then .ok (.bl (eqT t u),false)else .bad
theorem X7:fQ (aB K) (Ga K) dw:=λW x y a b H Q hw rx ry h=>by
 unfold dw at h
 split at h
 ·rename_i e
  exact⟨a,b,rx.rep.toK,ry.rep.toK,e.1,e.2,h _ H (Same.refl _) (.fV (.bl _))⟩
 ·exact h.elim
def fG:G2:=λt u=>if dep t<=40/\dep u<=40 then .ok (.bl (!eqT t u),false)else .bad
theorem X8:fQ (aB K) (Gu K) fG:=λW x y a b H Q hw rx ry h=>by
 unfold fG at h
 split at h
 ·rename_i e
  exact⟨a,b,rx.rep.toK,ry.rep.toK,e.1,e.2,h _ H (Same.refl _) (.fV (.bl _))⟩
 ·exact h.elim
def fK(f:Bool->Bool):G2:=λt u=>match u with
 |.lst us=>if deps us<=40/\dep t<=40 then .ok (.bl (f (pN t us)),false)else .bad
 |.tup us=>if deps us<=40/\dep t<=40 then .ok (.bl (f (pN t us)),false)else .bad
 |_=>.bad
theorem Yb:fQ (aB K) (Gb K) (fK id):=λW x y a b H Q hw rx ry h=>by
 cases b <;> try exact h.elim
 ·rename_i us
  dsimp only[fK]at h
  split at h
  ·rename_i e
   obtain⟨p,xs,rfl,q,r⟩:=ry.tup
   exact⟨a,us,p,xs,rx.rep.toK,rfl,.inr q.toK,(r.mono (gO _ _)).toK,e.1,e.2,h _ H (Same.refl _) (.fV (.bl _))⟩
  ·exact h.elim
 ·rename_i us
  dsimp only[fK]at h
  split at h
  ·rename_i e
   obtain⟨p,xs,rfl,q,r⟩:=ry.lst
   exact⟨a,us,p,xs,rx.rep.toK,rfl,.inl q.toK,(r.mono (gO _ _)).toK,e.1,e.2,h _ H (Same.refl _) (.fV (.bl _))⟩
  ·exact h.elim
theorem Yc:fQ (aB K) (Gq K) (fK not):=λW x y a b H Q hw rx ry h=>by
 cases b <;> try exact h.elim
 ·rename_i us
  dsimp only[fK]at h
  split at h
  ·rename_i e
   obtain⟨p,xs,rfl,q,r⟩:=ry.tup
   exact⟨a,us,p,xs,rx.rep.toK,rfl,.inr q.toK,(r.mono (gO _ _)).toK,e.1,e.2,h _ H (Same.refl _) (.fV (.bl _))⟩
  ·exact h.elim
 ·rename_i us
  dsimp only[fK]at h
  split at h
  ·rename_i e
   obtain⟨p,xs,rfl,q,r⟩:=ry.lst
   exact⟨a,us,p,xs,rx.rep.toK,rfl,.inl q.toK,(r.mono (gO _ _)).toK,e.1,e.2,h _ H (Same.refl _) (.fV (.bl _))⟩
  ·exact h.elim
def Gy(K:FZ):R2:=λx y H Q=>(iw λi j=>.int (i+j)) x y H Q\/O8 K x y H Q\/(∃i j,x=.str i/\y=.str j/\i.length+j.length<=sizeLine/\Q (.str (i++j)) H)\/Ny K x y H Q
theorem ji{X:Cx}:cH X (binaryOp .Add) (Gy X.K):=cH.or MJ (cH.or XS (cH.or V5 Wz))
noncomputable def bR:G2
 |.int i,.int j=>.ok (.int (i+j),false)
 |.lst a,.lst b=>if a.length+b.length<=100000 then .ok (.lst (a++b),true)else .bad
 |.str a,.str b=>if a.length+b.length<=100000 then .ok (.str (a++b),false)else .bad
 |.tup a,.tup b=>if 0<a.length/\a.length+b.length<=100000 then .ok (.tup (a++b),false)else .bad
 |_,_=>.bad
theorem Yd:fQ (aB K) (Gy K) bR:=λW x y a b H Q hw rx ry h=>by
 cases a <;> cases b <;> try exact h.elim
 ·rw[rx.int,ry.int]
  exact .inl ⟨_,_,rfl,rfl,h _ H (Same.refl _) (.fV (.int _))⟩
 ·rename_i i j
  rw[rx.str,ry.str]
  dsimp only[bR]at h
  split at h
  ·rename_i e
   exact .inr (.inr (.inl ⟨i,j,rfl,rfl,big e,h _ H (Same.refl _) (.fV (.str _))⟩))
  ·exact h.elim
 ·rename_i us ws
  dsimp only[bR]at h
  split at h
  ·rename_i e
   have rt:=rx.X5
   obtain⟨p,xs,rfl,q,r⟩:=rx.tup
   obtain⟨p',ys,rfl,q',r'⟩:=ry.tup
   have l1:=r.length
   have l2:=r'.length
   refine .inr (.inr (.inr ⟨p,p',xs,ys,rfl,rfl,q.toK,q'.toK,?_,by rw[l1,l2]; exact big e.2,λz=>h _ H (Same.refl _) ?_,λ_ z hz=>h _ _ (d7 hz _) (.newT hw hz (r.app r'))⟩))
   ·rintro rfl
    have e1:=e.1
    rw[<-l1]at e1
    cases e1
   ·subst z
    cases r'
    rw[List.append_nil]
    exact rt
  ·exact h.elim
 ·rename_i us ws
  dsimp only[bR]at h
  split at h
  ·rename_i e
   obtain⟨p,xs,rfl,q,r⟩:=rx.lst
   obtain⟨p',ys,rfl,q',r'⟩:=ry.lst
   refine .inr (.inl ⟨p,p',xs,ys,rfl,rfl,q.xr,q'.xr,by rw[r.length,r'.length]; exact big e,λz hz=>h _ _ (d7 hz _) (.new hz (r.app r'))⟩)
  ·exact h.elim
end
end L2
end
section
namespace L2
open PySem PySem.Spec PyProof.Rows
def fit(i:Int):Bool:=decide (i.natAbs.log2<1048575)
theorem Pa{i:Int}(h:fit i=true):Builtin.Int.intBits i<=2 ^ 20:=by
 have h:=of_decide_eq_true h
 unfold Builtin.Int.intBits
 have e:(2:Nat) ^ 20=1048576:=by decide
 split
 ·decide
 ·omega
def tiny(i:Int):Bool:=decide (-18446744073709551616<i)&&decide (i<18446744073709551616)
def iB(i j:Int):Bool:=(fit i&&fit j) || tiny i || tiny j
def Ar(i j:Int):Prop:=iB i j=true
theorem Ar.ok{i j:Int}(h:Ar i j):IntMulOk i j:=by
 unfold Ar iB at h
 rw[Bool.or_eq_true,Bool.or_eq_true,Bool.and_eq_true]at h
 have e:(2:Int) ^ 64=18446744073709551616:=by decide
 have tn:∀{k:Int},tiny k=true -> -(2 ^ 64)<k/\k<2 ^ 64:=λ{k} h=>by
  unfold tiny at h
  rw[Bool.and_eq_true]at h
  have h1:=of_decide_eq_true h.1
  have h2:=of_decide_eq_true h.2
  omega
 rcases h with(⟨h1,h2⟩|h)|h
 ·exact .of_bits (Pa h1) (Pa h2)
 ·exact .of_left (intBits_le_64 (tn h).1 (tn h).2)
 ·exact .of_right (intBits_le_64 (tn h).1 (tn h).2)
def Gz(K:FZ):R2:=λx y H Q=>(rI Ar λi j=>.int (i*j)) x y H Q\/O9 K x y H Q
theorem lE{X:Cx}:cH X (binaryOp .Mult) (Gz X.K):=cH.or (zM λ_ _ _ _ _ _ _ hc q=>mul_int q hc.ok) X3
def cX:G2
 |.int i,.int j=>if iB i j=true then .ok (.int (i*j),false)else .bad
 |.lst a,.int k=>if(-1000<=k/\k<=1000)/\a.length<=100 then .ok (.lst (List.replicate k.toNat a).flatten,true)else .bad
 |_,_=>.bad
def jE(_ j:Int):Bool:=decide (j≠0)&&decide (j.natAbs.log2<9000)
def Av(i j:Int):Prop:=jE i j=true
theorem mO{X:Cx}:cH X (binaryOp .FloorDiv) (rI Av λi j=>.int (i.fdiv j)):=zM λi j _ _ _ _ _ hc q=>by
 unfold Av jE at hc
 rw[Bool.and_eq_true]at hc
 exact floordiv_int (of_decide_eq_true hc.1) q (.inl (PyProof.noPylong_of_log2 (of_decide_eq_true hc.2)))
def cJ:G2:=eZ jE Int.fdiv
def bZ:G2:=eZ (λ_ j=>decide (j≠0)) Int.fmod
def Pb(i j:Int):Bool:=decide (0<=j)&&decide (j<=1000)&&tiny i
def jQ:G2:=eZ Pb λi j=>i ^ j.toNat
def mQ:G2:=gI λi j=>i-j
section
variable {K:FZ}
theorem aL.rep{H:Hp}{xs:List V}{ts:List Tr}(r:aL K H xs ts):∀n,aL K H (List.replicate n xs).flatten (List.replicate n ts).flatten
 | 0=>.nil
 |n+1=>by
  rw[List.replicate_succ,List.replicate_succ,List.flatten_cons,List.flatten_cons]
  exact r.app (aL.rep r n)
theorem Ye:fQ (aB K) (Gz K) cX:=λW x y a b H Q hw rx ry h=>by
 cases a <;> cases b <;> try exact h.elim
 ·rw[rx.int,ry.int]
  dsimp only[cX]at h
  split at h
  ·rename_i e
   exact .inl ⟨_,_,rfl,rfl,e,h _ H (Same.refl _) (.fV (.int _))⟩
  ·exact h.elim
 ·rename_i us k
  rw[ry.int]
  dsimp only[cX]at h
  split at h
  ·rename_i e
   obtain⟨p,xs,rfl,q,r⟩:=rx.lst
   by_cases k0:0<=k
   ·refine .inr ⟨p,k,xs,rfl,rfl,q.xr,by omega,by omega,?_,λz hz=>h _ _ (d7 hz _) (.new hz (r.rep _))⟩
    rw[r.length]
    refine Nat.le_trans (Nat.mul_le_mul e.2 (show k.toNat<=1000 by omega)) (by decide)
   ·have e0:k.toNat=0:=by omega
    by_cases k1 : -(2 ^ 63)<=k
    ·refine .inr ⟨p,k,xs,rfl,rfl,q.xr,k1,by omega,?_,λz hz=>h _ _ (d7 hz _) (.new hz (r.rep _))⟩
     rw[e0,Nat.mul_zero]
     exact Nat.zero_le _
    ·omega
  ·exact h.elim
theorem Yg:fQ K (rI Av λi j=>.int (i.fdiv j)) cJ:=Gw λ_ _ h=>h
theorem Yh:fQ K (rI (λ_ j=>j≠0) λi j=>.int (i.fmod j)) bZ:=Gw λ_ _ h=>of_decide_eq_true h
theorem Yi:fQ K (rI Et λi j=>.int (i ^ j.toNat)) jQ:=Gw λi j h=>by
 unfold Pb tiny at h
 rw[Bool.and_eq_true,Bool.and_eq_true,Bool.and_eq_true]at h
 have h1:=of_decide_eq_true h.1.1
 have h2:=of_decide_eq_true h.1.2
 have h3:=of_decide_eq_true h.2.1
 have h4:=of_decide_eq_true h.2.2
 have e:(2:Nat) ^ 64=18446744073709551616:=by decide
 exact⟨h1,by omega,by omega⟩
theorem Yj:fQ K (iw λi j=>.int (i-j)) mQ:=X6
def jw:G2:=gB λi j=>decide (j<i)
def dO:G2:=gB λi j=>decide (i<=j)
def j5:G2:=gB λi j=>decide (j<=i)
theorem Yk:fQ K (iw λi j=>.bl (decide (j<i))) jw:=Gx
theorem GC:fQ K (iw λi j=>.bl (decide (i<=j))) dO:=Gx
theorem Yl:fQ K (iw λi j=>.bl (decide (j<=i))) j5:=Gx
def intsOf:List Tr->Option (List Int)
 | []=>some []
 |.int i::r=>(intsOf r).map (i :: ·)
 |_::_=>none
theorem ints_of{H:Hp}:∀{ts:List Tr} {ns:List Int} {xs:List V},intsOf ts=some ns->aL K H xs ts->xs=ns.map V.int
 | [],ns,xs,h,r=>by cases h; cases r; rfl
 |.int i::q,ns,xs,h,r=>by
  unfold intsOf at h
  cases e:intsOf q with
  |none=>rw[e]at h; cases h
  |some ms =>
   rw[e]at h
   cases h
   cases r with
   |cons h1 r1 =>
    cases h1
    rw[ints_of e r1]
    rfl
 |.non::q,ns,xs,h,r=>by cases h
 |.bl _::q,ns,xs,h,r=>by cases h
 |.str _::q,ns,xs,h,r=>by cases h
 |.tup _::q,ns,xs,h,r=>by cases h
 |.lst _::q,ns,xs,h,r=>by cases h
def GD(K:FZ):R2:=λx y H Q=>(iw λi j=>.bl (decide (i<j))) x y H Q\/Nx K x y H Q
theorem xu{X:Cx}(hu:X.A.units+64<cLine):cH X (compareOp .Lt) (GD X.K):=cH.or V2 (Wy (by omega))
def gk:G2
 |.int i,.int j=>.ok (.bl (decide (i<j)),false)
 |.tup a,.tup b=>match intsOf a,intsOf b with
  |some ns,some ms=>.ok (.bl (HT.lexLt ns ms),false)
  |_,_=>.bad
 |_,_=>.bad
theorem Pg:fQ (aB K) (GD K) gk:=λW x y a b H Q hw rx ry h=>by
 cases a <;> cases b <;> try exact h.elim
 ·rw[rx.int,ry.int]
  exact .inl ⟨_,_,rfl,rfl,h _ H (Same.refl _) (.fV (.bl _))⟩
 ·rename_i us ws
  dsimp only[gk]at h
  split at h
  ·rename_i ns ms e1 e2
   obtain⟨p,xs,rfl,q,r⟩:=rx.tup
   obtain⟨p',ys,rfl,q',r'⟩:=ry.tup
   have z1:=ints_of e1 r
   have z2:=ints_of e2 r'
   subst z1 z2
   exact .inr ⟨p,p',ns,ms,rfl,rfl,q.toK,q'.toK,h _ H (Same.refl _) (.fV (.bl _))⟩
  ·exact h.elim
noncomputable def aK:G2
 |.lst ts,.int i=>match eX ts i with
  |some t=>.ok (t,false)
  |none=>.bad
 |.tup ts,.int i=>match eX ts i with
  |some t=>.ok (t,false)
  |none=>.bad
 | .str z,.int i=>if z.length<=100000 then (match eX z.cps.toList i with
  |some c=>.ok (.str ⟨#[c]⟩,false)
  |none=>.bad)else .bad
 |_,_=>.bad
theorem Ph:fQ (aB K) (nG K) aK:=λW x y a b H Q hw rx ry h=>by
 cases a <;> cases b <;> try exact h.elim
 ·rename_i z i
  rw[rx.str,ry.int]
  dsimp only[aK]at h
  split at h
  ·rename_i e
   split at h
   ·rename_i c ec
    exact .inr (.inr ⟨z,i,c,rfl,rfl,big e,ec,h _ H (Same.refl _) (.fV (.str _))⟩)
   ·exact h.elim
  ·exact h.elim
 ·rename_i ts i
  rw[ry.int]
  dsimp only[aK]at h
  split at h
  ·rename_i t et
   obtain⟨p,xs,rfl,q,r⟩:=rx.tup
   obtain⟨v,ev,rv⟩:=r.eX et
   exact .inr (.inl ⟨p,xs,i,v,rfl,rfl,q.toK,ev,h _ H (Same.refl _) rv⟩)
  ·exact h.elim
 ·rename_i ts i
  rw[ry.int]
  dsimp only[aK]at h
  split at h
  ·rename_i t et
   obtain⟨p,xs,rfl,q,r⟩:=rx.lst
   obtain⟨v,ev,rv⟩:=r.eX et
   exact .inl ⟨p,xs,i,v,rfl,rfl,q.toK,ev,h _ H (Same.refl _) rv⟩
  ·exact h.elim
end
end L2
end
section
namespace L2
open PySem PySem.Spec PyProof.Rows
section
variable {K:FZ}{W:Addr->Prop}{σ : St}
theorem iz.step{H H' dM:Hp}(hw:∀b,W b->H b≠none)(s:bG W H' dM):∀{vs:List V} {rs:List Rv},iz K W σ H H' vs rs->iz K W σ H dM vs rs
 |_,_,.nil=>.nil
 |_,_,.cons h q=>.cons (h.step hw s) (iz.step hw s q)
theorem iz.back{G H H':Hp}(d:∀b,H b=none->G b=none):∀{vs:List V} {rs:List Rv},iz K W σ H H' vs rs->iz K W σ G H' vs rs
 |_,_,.nil=>.nil
 |_,_,.cons h q=>.cons (h.back d) (iz.back d q)
inductive qY(K:FZ)(W:Addr->Prop)(H:Hp):List V->List Tr->Prop
 |nil:qY K W H [] []
 |cons {v:V} {t:Tr} {vs:List V} {ts:List Tr} (h:Rp K W H v t) (q:qY K W H vs ts):qY K W H (v::vs) (t::ts)
def drs(ρ : En):List Rv->Rs (List Tr)
 | []=>.ok []
 |r::rs=>(dr ρ r).bind λt=>(drs ρ rs).bind λts=>.ok (t::ts)
theorem u9(ρ : En):∀(rs:List Rv) (c:Str),drs ρ rs ≠ .ex c
 | [],c=>by intro z; cases z
 |r::rs,c=>by
  unfold drs
  cases e:dr ρ r with
  |bad=>intro z; cases z
  |ex d=>exact(lC _ _ _ e).elim
  |ok t =>
   show(drs ρ rs).bind _≠_
   cases e2:drs ρ rs with
   |bad=>intro z; cases z
   |ex d=>exact(u9 ρ rs d e2).elim
   |ok ts=>intro z; cases z
theorem gG{α β : Type}{r:Rs α}{f : α -> Rs β}{b : β}(h:r.bind f=.ok b):∃a,r=.ok a/\f a=.ok b:=by
 cases r with
 |bad=>cases h
 |ex c=>cases h
 |ok a=>exact⟨a,rfl,h⟩
theorem Aw{t:Tx}{ρ : En}{H H':Hp}(e:aJ t W ρ σ H')(hw:∀b,W b->H b≠none):∀{vs:List V} {rs:List Rv} {ts:List Tr},iz t.K W σ H H' vs rs->drs ρ rs=.ok ts->qY t.K W H' vs ts
 |_,_,_,.nil,q=>by cases q; exact .nil
 |_,_,_,.cons h r,q=>by
  unfold drs at q
  obtain⟨a,q1,q⟩:=gG q
  obtain⟨as,q2,q⟩:=gG q
  cases q
  exact .cons (lB e hw h q1) (Aw e hw r q2)
def cls:List Rv->Rs (List Tr)
 | []=>.ok []
 |.v t _::rs=>(cls rs).bind λts=>.ok (t::ts)
 |.s _::_=>.bad
theorem xG:∀(rs:List Rv) (c:Str),cls rs ≠ .ex c
 | [],c=>by intro z; cases z
 |.v t fr::rs,c=>by
  unfold cls
  cases e2:cls rs with
  |bad=>intro z; cases z
  |ex d=>exact(xG rs d e2).elim
  |ok ts=>intro z; cases z
 |.s i::rs,c=>by intro z; cases z
theorem xH{H H':Hp}(hw:∀b,W b->H b≠none):∀{vs:List V} {rs:List Rv} {ts:List Tr},iz K W σ H H' vs rs->cls rs=.ok ts->aL K (aA W H') vs ts
 |_,_,_,.nil,q=>by cases q; exact .nil
 |_,.v t fr::_,_,.cons h r,q=>by
  unfold cls at q
  obtain⟨as,q2,q⟩:=gG q
  cases q
  exact .cons (h.rep hw) (xH hw r q2)
 |_,.s i::_,_,.cons h r,q=>by cases q
end
section
variable {t:Tx}
def au:AF:=λρ=>.ok ([],ρ)
def ak(f:EF)(g:AF):AF:=λρ=>(f ρ).bind λp=>(g p.2).bind λq=>.ok (p.1::q.1,q.2)
theorem bU:SA t lZ au:=λW ρ σ H Q e h=>h [] H e (bG.refl _ _) .nil
theorem bD{te:TE}{ta:TA}{f:EF}{g:AF}(h1:SE t te f)(h2:SA t ta g):SA t (jq te ta) (ak f g):=λW ρ σ H Q e h=>by
 refine h1 W ρ σ H _ e (Rs.aY (Rs.aN h) λp h v H1 e1 s1 v1=>?_)
 refine h2 W p.2 σ H1 _ e1 (Rs.aY (Rs.aN h) λq h vs H2 e2 s2 v2=>?_)
 exact h (v::vs) H2 e2 (s1.trans s2) (.cons (v1.1.step e.wn s2) (iz.back s1.dom v2))
def gH(g:AF):EF:=λρ=>(g ρ).bind λp=>(cls p.1).bind λts=>if ts.length<=1000 then .ok (.v (.lst ts) true,p.2)else .bad
def jx(g:AF):EF:=λρ=>(g ρ).bind λp=>(cls p.1).bind λts=>if ts.length<=1000 then .ok (.v (.tup ts) false,p.2)else .bad
theorem cV{α : Type}{r:Rs α}{EX:Str->Prop}{P : α -> Prop}(h:r.post EX P)(n:∀c,r ≠ .ex c):∃a,r=.ok a/\P a:=by
 cases r with
 |bad=>exact h.elim
 |ex c=>exact(n c rfl).elim
 |ok a=>exact⟨a,rfl,h⟩
theorem GJ{ta:TA}{g:AF}(h1:SA t ta g):SE t (zR ta) (gH g):=λW ρ σ H Q e h=>by
 refine h1 W ρ σ H _ e (Rs.aY (Rs.aN h) λp h vs H1 e1 s1 v1=>?_)
 obtain⟨ts,q,h⟩:=cV (Rs.aN h) (xG _)
 have r:=xH e.wn v1 q
 split at h
 ·rename_i hl
  refine⟨by rw[r.length]; exact Nat.le_trans hl (by decide),λz hz=>h _ _ (e1.grow (d7 hz _)) (s1.trans (bG.of (d7 hz _))) ?_⟩
  exact(gY.of (σ' := σ) e1 (d7 hz _) (dH.new hz r)).back s1.dom
 ·exact h.elim
theorem GK{ta:TA}{g:AF}(h1:SA t ta g):SE t (M6 ta) (jx g):=λW ρ σ H Q e h=>by
 refine h1 W ρ σ H _ e (Rs.aY (Rs.aN h) λp h vs H1 e1 s1 v1=>?_)
 obtain⟨ts,q,h⟩:=cV (Rs.aN h) (xG _)
 have r:=xH e.wn v1 q
 split at h
 ·rename_i hl
  refine⟨by rw[r.length]; exact Nat.le_trans hl (by decide),λz hz=>h _ _ (e1.grow (d7 hz _)) (s1.trans (bG.of (d7 hz _))) ?_⟩
  exact .low ((dH.newT (σ := σ) (W:=W) e1.wl hz r))
 ·exact h.elim
abbrev G1:=Tr->Rs (Tr × Bool)
def pP(K:FZ)(r:V->Hp->VK->Prop)(g:G1):Prop:=∀W x a H Q,(∀b,W b->Lt H b)->Rp K W H x a->(g a).post (λ_=>False) (λp=>∀v H',Same H H'->dH K W [] H H' v (.v p.1 p.2)->Q v H')->r x H Q
def Ym(g:G1)(fa:EF):EF:=λρ=>(fa ρ).bind λp=>(dr p.2 p.1).bind λa=>(g a).bind λz=>.ok (.v z.1 z.2,p.2)
def xJ:G1
 |.int i=>.ok (.int (-i),false)
 |_=>.bad
theorem Yn{K:FZ}:pP K (rU λi=>.int (-i)) xJ:=λW x a H Q hw rx h=>by
 cases a <;> try exact h.elim
 rw[rx.int]
 exact⟨_,rfl,h _ H (Same.refl _) (.fV (.int _))⟩
def cj:Tr->Rs Bool
 |.bl b=>.ok b
 |_=>.bad
theorem Pk(a:Tr)(c:Str):cj a ≠ .ex c:=by cases a <;> (intro z; cases z)
def cu(fa:EF):BF:=λρ=>(fa ρ).bind λp=>(dr p.2 p.1).bind λa=>(cj a).bind λb=>.ok (b,p.2)
theorem Pn{K:FZ}{W:Addr->Prop}{H:Hp}{v:V}{a:Tr}{b:Bool}(h:Rp K W H v a)(q:cj a=.ok b):v=.bl b:=by
 cases a <;> cases q
 exact h.bl
theorem mR{ta:TE}{fa:EF}(ha:SE t ta fa):ST t (Ey ta) (cu fa):=λW ρ σ H Q e h=>by
 refine ha W ρ σ H _ e (Rs.aY (Rs.aN h) λp h x H1 e1 s1 v1=>?_)
 obtain⟨a,k1,h⟩:=cV (Rs.aN h) (lC _ _)
 obtain⟨b,k2,h⟩:=cV (Rs.aN h) (Pk _)
 exact⟨b,Pn (lB e1 e.wn v1.1 k1) k2,h H1 e1 s1⟩
def fB:Tr->Rs Bool
 |.non=>.ok false
 |.bl b=>.ok b
 |.int i=>.ok (i != 0)
 |.lst ts=>.ok (!ts.isEmpty)
 |.tup ts=>.ok (!ts.isEmpty)
 |.str x=>if x.length<=100000 then .ok ((x.length:Int) != 0)else .bad
 |.cW _=>.bad
theorem Yo(a:Tr)(c:Str):fB a ≠ .ex c:=by
 cases a <;> try(intro z; cases z; done)
 dsimp only[fB]
 split <;> (intro z; cases z)
theorem Pq{α β : Type}{a:List α}{b:List β}(h:a.length=b.length):a.isEmpty=b.isEmpty:=by
 cases a <;> cases b <;> first|rfl|cases h
theorem Yp{K:FZ}{W:Addr->Prop}{H:Hp}{v:V}{a:Tr}{b:Bool}(h:Rp (aB K) W H v a)(q:fB a=.ok b):uN K v H b:=by
 cases a with
 |non=>cases q; rw[h.non]; rfl
 |bl i=>cases q; rw[h.bl]; rfl
 |int i=>cases q; rw[h.int]; rfl
 |str i =>
  dsimp only[fB]at q
  split at q
  ·rename_i e
   cases q
   rw[h.str]
   exact⟨big e,rfl⟩
  ·cases q
 |tup ts =>
  cases q
  obtain⟨p,xs,rfl,q,r⟩:=h.tup
  exact .inr (.inl ⟨xs,q.toK,by rw[Pq r.length]⟩)
 |lst ts =>
  cases q
  obtain⟨p,xs,rfl,q,r⟩:=h.lst
  exact .inl ⟨xs,q.toK,by rw[Pq r.length]⟩
 |cW c=>cases q
def dY(fa:EF):BF:=λρ=>(fa ρ).bind λp=>(dr p.2 p.1).bind λa=>(fB a).bind λb=>.ok (b,p.2)
def Yq(K:FZ)(ta:TE):TT:=λσ H Q=>ta σ H λx H'=>∃k,uN K x H' k/\Q k H'
theorem mU{K:FZ}(hK:t.K=aB K){ta:TE}{fa:EF}(ha:SE t ta fa):ST t (Yq K ta) (dY fa):=λW ρ σ H Q e h=>by
 refine ha W ρ σ H _ e (Rs.aY (Rs.aN h) λp h x H1 e1 s1 v1=>?_)
 obtain⟨a,k1,h⟩:=cV (Rs.aN h) (lC _ _)
 obtain⟨b,k2,h⟩:=cV (Rs.aN h) (Yo _)
 have r:=lB e1 e.wn v1.1 k1
 rw[hK]at r
 exact⟨b,Yp r k2,h H1 e1 s1⟩
def Yr(f g:BF):BF:=λρ=>(f ρ).bind λp=>if p.1=true then g p.2 else .ok (false,p.2)
def iC(f g:BF):BF:=λρ=>(f ρ).bind λp=>if p.1=true then .ok (true,p.2)else g p.2
def dR(f:BF):BF:=λρ=>(f ρ).bind λp=>.ok (!p.1,p.2)
theorem sZ{ta tb:TT}{f g:BF}(ha:ST t ta f)(hb:ST t tb g):ST t (LQ ta tb) (iC f g):=λW ρ σ H Q e h=>by
 refine ha W ρ σ H _ e (Rs.aY (Rs.aN h) λp h H1 e1 s1=>?_)
 split at h
 ·rename_i c
  exact if_pos c▸h H1 e1 s1
 ·rename_i c
  refine if_neg c▸hb W p.2 σ H1 _ e1 (Rs.aY h λq h H2 e2 s2=>h H2 e2 (s1.trans s2))
theorem lF{ta:TT}{f:BF}(ha:ST t ta f):ST t (LR ta) (dR f):=λW ρ σ H Q e h =>
 ha W ρ σ H _ e (Rs.aY (Rs.aN h) λp h H1 e1 s1=>h H1 e1 s1)
def eB(b:Bool):Rv:=.v (.bl b) false
def qZ(f g:EF):EF:=λρ=>(cu f ρ).bind λp=>if p.1=true then g p.2 else .ok (eB false,p.2)
def Ax(f g:EF):EF:=λρ=>(cu f ρ).bind λp=>if p.1=true then .ok (eB true,p.2)else g p.2
def GP(f:EF):EF:=λρ=>(cu f ρ).bind λp=>.ok (eB (!p.1),p.2)
theorem Ys{ta tb:TE}{f g:EF}(ha:SE t ta f)(hb:SE t tb g):SE t (Ma ta tb) (qZ f g):=λW ρ σ H Q e h=>by
 refine mR ha W ρ σ H _ e (Rs.aY (Rs.aN h) λp h H1 e1 s1=>?_)
 split at h
 ·rename_i c
  refine if_pos c▸hb W p.2 σ H1 _ e1 (Rs.aY h λq h v H2 e2 s2 v2=>h v H2 e2 (s1.trans s2) (v2.back s1.dom))
 ·rename_i c
  exact if_neg c▸h _ H1 e1 s1 (.low (.bl false))
theorem Yt{ta tb:TE}{f g:EF}(ha:SE t ta f)(hb:SE t tb g):SE t (Mf ta tb) (Ax f g):=λW ρ σ H Q e h=>by
 refine mR ha W ρ σ H _ e (Rs.aY (Rs.aN h) λp h H1 e1 s1=>?_)
 split at h
 ·rename_i c
  exact if_pos c▸h _ H1 e1 s1 (.low (.bl true))
 ·rename_i c
  refine if_neg c▸hb W p.2 σ H1 _ e1 (Rs.aY h λq h v H2 e2 s2 v2=>h v H2 e2 (s1.trans s2) (v2.back s1.dom))
theorem Yu{ta:TE}{f:EF}(ha:SE t ta f):SE t (Mg ta) (GP f):=λW ρ σ H Q e h =>
 mR ha W ρ σ H _ e (Rs.aY (Rs.aN h) λp h H1 e1 s1=>h _ H1 e1 s1 (.low (.bl _)))
def Yv(c:BF)(f g:EF):EF:=λρ=>(c ρ).bind λp=>if p.1=true then f p.2 else g p.2
end
end L2
end
section
namespace L2
open PySem PySem.Spec PyProof.Rows
section
variable {t:Tx}
noncomputable def rm(g g':G2)(fa fb fc:EF):EF:=λρ=>(fa ρ).bind λp=>(fb p.2).bind λq=>(dr q.2 p.1).bind λa=>(dr q.2 q.1).bind λb=>(g a b).bind λz=>(cj z.1).bind λk =>
 if k=true then(fc q.2).bind λs=>(dr s.2 q.1).bind λb=>(dr s.2 s.1).bind λc=>(g' b c).bind λz=>.ok (.v z.1 z.2,s.2)else .ok (eB false,q.2)
theorem Yw{r r':R2}{g g':G2}{ta tb tc:TE}{fa fb fc:EF}(o:fQ t.K r g)(o':fQ t.K r' g')(ng:∀a b c,g a b ≠ .ex c)(Yx:∀a b c,g' a b ≠ .ex c)(ha:SE t ta fa)(hb:SE t tb fb)(hc:SE t tc fc):SE t (zQ r r' ta tb tc) (rm g g' fa fb fc):=λW ρ σ H Q e h=>by
 refine ha W ρ σ H _ e (Rs.aY (Rs.aN h) λp h x H1 e1 s1 v1=>?_)
 refine hb W p.2 σ H1 _ e1 (Rs.aY (Rs.aN h) λq h y H2 e2 s2 v2=>?_)
 obtain⟨a,k1,h⟩:=cV (Rs.aN h) (lC _ _)
 obtain⟨b,k2,h⟩:=cV (Rs.aN h) (lC _ _)
 refine o W x y a b H2 _ e2.wl (lB e2 e.wn (v1.1.step e.wn s2) k1) (lB e2 e1.wn v2.1 k2) (Rs.aY (jz (Rs.aN h) (ng a b)) λz h v H3 s3 v3=>?_)
 obtain⟨k,k3,h⟩:=cV (Rs.aN h) (Pk _)
 have e3:=e2.grow s3
 have b3:v=.bl k:=Pn (.inl (dH.rep (σ:=[]) e2.wn v3)) k3
 refine⟨k,b3,?_⟩
 split at h
 ·rename_i c
  rw[if_pos c]
  refine hc W q.2 σ H3 _ e3 (Rs.aY (Rs.aN h) λu h w H4 e4 s4 v4=>?_)
  obtain⟨b',k4,h⟩:=cV (Rs.aN h) (lC _ _)
  obtain⟨c',k5,h⟩:=cV (Rs.aN h) (lC _ _)
  refine o' W y w b' c' H4 _ e4.wl (lB e4 e1.wn ((v2.1.step e1.wn (bG.of s3)).step e1.wn s4) k4) (lB e4 e3.wn v4.1 k5) (Rs.aY (jz (Rs.aN h) (Yx b' c')) λz h v H5 s5 v5=>?_)
  have st:bG W H H4:=(s1.trans (s2.trans (bG.of s3))).trans s4
  exact h v H5 (e4.grow s5) (st.trans (bG.of s5)) ((gY.of e4 s5 v5).back st.dom)
 ·rename_i c
  rw[if_neg c]
  exact h _ H3 e3 ((s1.trans s2).trans (bG.of s3)) (.low (.bl false))
abbrev OF:=En->Rs (Option Int × En)
def SO(t:Tx)(te:TO)(f:OF):Prop:=∀W ρ σ H Q,aJ t W ρ σ H->(f ρ).post t.EX (λp=>∀H',aJ t W p.2 σ H'->bG W H H'->Q p.1 H')->te σ H Q
def jj:OF:=λρ=>.ok (none,ρ)
theorem Ay:SO t Nq jj:=λW ρ σ H Q e h=>h H e (bG.refl _ _)
def jF:Tr->Rs Int
 |.int i=>.ok i
 |_=>.bad
theorem Yy(a:Tr)(c:Str):jF a ≠ .ex c:=by cases a <;> (intro z; cases z)
theorem Yz{K:FZ}{W:Addr->Prop}{H:Hp}{v:V}{a:Tr}{b:Int}(h:Rp K W H v a)(q:jF a=.ok b):v=.int b:=by
 cases a <;> cases q
 exact h.int
def jk(fa:EF):OF:=λρ=>(fa ρ).bind λp=>(dr p.2 p.1).bind λa=>(jF a).bind λb=>.ok (some b,p.2)
theorem Az{ta:TE}{fa:EF}(ha:SE t ta fa):SO t (Nr ta) (jk fa):=λW ρ σ H Q e h=>by
 refine ha W ρ σ H _ e (Rs.aY (Rs.aN h) λp h x H1 e1 s1 v1=>?_)
 obtain⟨a,k1,h⟩:=cV (Rs.aN h) (lC _ _)
 obtain⟨b,k2,h⟩:=cV (Rs.aN h) (Yy _)
 exact⟨b,Yz (lB e1 e.wn v1.1 k1) k2,h H1 e1 s1⟩
def cut{α : Type}(xs:List α)(lo hi:Option Int):List α := (xs.drop (HT.bQ xs.length 0 lo)).take (HT.bQ xs.length xs.length hi-HT.bQ xs.length 0 lo)
theorem aL.cut{K:FZ}{H:Hp}{xs:List V}{ts:List Tr}(r:aL K H xs ts)(lo hi:Option Int):aL K H (qL xs lo hi) (L2.cut ts lo hi):=by
 unfold qL L2.cut
 rw[r.length]
 exact(r.drop _).take _
def Pu(K:FZ):V->Option Int->Option Int->Hp->VK->Prop:=λx lo hi H Q=>N6 K x lo hi H Q\/Nv K x lo hi H Q\/Ou x lo hi H Q
theorem vd{X:Cx}:mz X (Pu X.K):=mz.or WW (mz.or Ww Xi)
noncomputable def pQ(lo hi:Option Int):G1
 |.lst ts=>.ok (.lst (cut ts lo hi),true)
 |.tup ts=>if ¬(HT.bQ ts.length 0 lo=0/\HT.bQ ts.length ts.length hi=ts.length)then .ok (.tup (cut ts lo hi),false)else .bad
 |.str z=>if z.length<=100000 then .ok (.str (Txt.slice z lo hi),false)else .bad
 |_=>.bad
theorem YB(lo hi:Option Int)(a:Tr)(c:Str):pQ lo hi a ≠ .ex c:=by
 cases a <;> dsimp only[pQ] <;> (try split) <;> (intro z; cases z)
def iQ(fa:EF)(fl fh:OF):EF:=λρ=>(fa ρ).bind λp=>(fl p.2).bind λl=>(fh l.2).bind λh=>(dr h.2 p.1).bind λa=>(pQ l.1 h.1 a).bind λz=>.ok (.v z.1 z.2,h.2)
theorem Ba{K:FZ}(hK:t.K=aB K){ta:TE}{tl th:TO}{fa:EF}{fl fh:OF}(ha:SE t ta fa)(hl:SO t tl fl)(hh:SO t th fh):SE t (Nt (Pu K) ta tl th) (iQ fa fl fh):=λW ρ σ H Q e h=>by
 refine ha W ρ σ H _ e (Rs.aY (Rs.aN h) λp h x H1 e1 s1 v1=>?_)
 refine hl W p.2 σ H1 _ e1 (Rs.aY (Rs.aN h) λl h H2 e2 s2=>?_)
 refine hh W l.2 σ H2 _ e2 (Rs.aY (Rs.aN h) λu h H3 e3 s3=>?_)
 obtain⟨a,k1,h⟩:=cV (Rs.aN h) (lC _ _)
 obtain⟨z,k2,h⟩:=cV (Rs.aN h) (YB _ _ _)
 have st:bG W H H3:=s1.trans (s2.trans s3)
 have rx:=lB e3 e.wn (v1.1.step e.wn (s2.trans s3)) k1
 rw[hK]at rx
 cases a with
 |cW c=>cases k2
 |lst ts =>
  cases k2
  obtain⟨b,xs,rfl,q,r⟩:=rx.lst
  refine .inl ⟨b,xs,rfl,q.toK,λy hy=>h _ _ (e3.grow (d7 hy _)) (st.trans (bG.of (d7 hy _))) ?_⟩
  rw[<-hK]at r
  exact(gY.of (σ' := σ) e3 (d7 hy _) (dH.new hy (r.cut _ _))).back st.dom
 |tup ts =>
  dsimp only[pQ]at k2
  split at k2
  ·rename_i c
   cases k2
   obtain⟨b,xs,rfl,q,r⟩:=rx.tup
   refine .inr (.inl ⟨b,xs,rfl,q.toK,by rw[r.length]; exact c,λy hy=>h _ _ (e3.grow (d7 hy _)) (st.trans (bG.of (d7 hy _))) ?_⟩)
   rw[<-hK]at r
   exact .low (dH.newT (σ := σ) (W:=W) e3.wl hy (r.cut _ _))
  ·cases k2
 |str i =>
  dsimp only[pQ]at k2
  split at k2
  ·rename_i c
   cases k2
   rw[rx.str]
   exact .inr (.inr ⟨i,rfl,big c,h _ H3 e3 st (.low (.str _))⟩)
  ·cases k2
 |non=>cases k2
 |bl i=>cases k2
 |int i=>cases k2
abbrev GN:=List Tr->Rs (Tr × Bool)
def Px(K:FZ)(r:List V->Hp->VK->Prop)(g:GN):Prop:=∀W xs as H Q,(∀b,W b->Lt H b)->qY K W H xs as->(g as).post (λ_=>False) (λp=>∀v H',Same H H'->dH K W [] H H' v (.v p.1 p.2)->Q v H')->r xs H Q
def aR(g:GN)(fa:AF):EF:=λρ=>(fa ρ).bind λp=>(drs p.2 p.1).bind λas=>(g as).bind λz=>.ok (.v z.1 z.2,p.2)
theorem vf{r:List V->Hp->VK->Prop}{g:GN}{ta:TA}{fa:AF}(o:Px t.K r g)(ng:∀as c,g as ≠ .ex c)(ha:SA t ta fa):SE t (jN r ta) (aR g fa):=λW ρ σ H Q e h=>by
 refine ha W ρ σ H _ e (Rs.aY (Rs.aN h) λp h xs H1 e1 s1 v1=>?_)
 obtain⟨as,k1,h⟩:=cV (Rs.aN h) (u9 _ _)
 refine o W xs as H1 Q e1.wl (Aw e1 e.wn v1 k1) (Rs.aY (jz (Rs.aN h) (ng as)) λz h v H2 s2 v2=>?_)
 exact h v H2 (e1.grow s2) (s1.trans (bG.of s2)) ((gY.of e1 s2 v2).back s1.dom)
def g1(g:G1):GN
 | [a]=>g a
 |_=>.bad
theorem vg{g:G1}(h:∀a c,g a ≠ .ex c)(as:List Tr)(c:Str):g1 g as ≠ .ex c:=by
 match as with
 | []=>intro z; cases z
 | [a]=>exact h a c
 |_::_::_=>intro z; cases z
theorem vh{K:FZ}{r:List V->Hp->VK->Prop}{g:G1}(h:pP K (λx=>r [x]) g):Px K r (g1 g):=λW xs as H Q hw rs q=>by
 cases rs with
 |nil=>exact q.elim
 |cons h1 r1 =>
  cases r1 with
  |nil=>exact h W _ _ H Q hw h1 q
  |cons _ _=>exact q.elim
def g2(g:G2):GN
 | [a,b]=>g a b
 |_=>.bad
end
section
variable {K:FZ}
def GQ(K:FZ):List V->Hp->VK->Prop:=λxs H Q=>(∃p ys,xs=[.ref p]/\(bw K H p ys\/c7 K H p ys)/\Q (.int ys.length) H)\/(∃z,xs=[.str z]/\z.length<=sizeLine/\Q (.int z.length) H)
theorem gq{X:Cx}:iJ X (.builtin "len") (GQ X.K):=iJ.or WX WY
def bB:G1
 |.lst ts=>.ok (.int ts.length,false)
 |.tup ts=>.ok (.int ts.length,false)
 |.str z=>if z.length<=100000 then .ok (.int z.length,false)else .bad
 |_=>.bad
theorem YC:pP (aB K) (λx=>GQ K [x]) bB:=λW x a H Q hw rx h=>by
 cases a <;> try exact h.elim
 ·rename_i z
  dsimp only[bB]at h
  split at h
  ·rename_i e
   rw[rx.str]
   exact .inr ⟨z,rfl,big e,h _ H (Same.refl _) (.fV (.int _))⟩
  ·exact h.elim
 ·obtain⟨p,xs,rfl,q,r⟩:=rx.tup
  refine .inl ⟨p,xs,rfl,.inr q.toK,?_⟩
  rw[r.length]
  exact h _ H (Same.refl _) (.fV (.int _))
 ·obtain⟨p,xs,rfl,q,r⟩:=rx.lst
  refine .inl ⟨p,xs,rfl,.inl q.toK,?_⟩
  rw[r.length]
  exact h _ H (Same.refl _) (.fV (.int _))
def jR:G1
 |.int i=>.ok (.int (if i<0 then -i else i),false)
 |_=>.bad
theorem YD:pP K (λx H Q=>∃i,[x]=[V.int i]/\Q (.int (if i<0 then -i else i)) H) jR:=λW x a H Q hw rx h=>by
 cases a <;> try exact h.elim
 rw[rx.int]
 exact⟨_,rfl,h _ H (Same.refl _) (.fV (.int _))⟩
def pR:G1
 |.int i=>.ok (.int i,false)
 |.bl b=>.ok (.int (if b then 1 else 0),false)
 |_=>.bad
theorem YF:pP K (λx H Q=>(∃i,[x]=[V.int i]/\Q (.int i) H)\/∃k,[x]=[V.bl k]/\Q (.int (if k then 1 else 0)) H) pR:=λW x a H Q hw rx h=>by
 cases a <;> try exact h.elim
 ·rw[rx.bl]
  exact .inr ⟨_,rfl,h _ H (Same.refl _) (.fV (.int _))⟩
 ·rw[rx.int]
  exact .inl ⟨_,rfl,h _ H (Same.refl _) (.fV (.int _))⟩
def iR:G1
 |.lst ts=>.ok (.lst ts,true)
 |.tup ts=>.ok (.lst ts,true)
 |_=>.bad
theorem YG:pP (aB K) (λx H Q=>∃p ys,[x]=[V.ref p]/\(bw K H p ys\/c7 K H p ys)/\∀l,H l=none->Q (.ref l) (upd H l (.lst ys))) iR:=λW x a H Q hw rx h=>by
 cases a <;> try exact h.elim
 ·obtain⟨p,xs,rfl,q,r⟩:=rx.tup
  exact⟨p,xs,rfl,.inr q.toK,λz hz=>h _ _ (d7 hz _) (.new hz r)⟩
 ·obtain⟨p,xs,rfl,q,r⟩:=rx.lst
  exact⟨p,xs,rfl,.inl q.toK,λz hz=>h _ _ (d7 hz _) (.new hz r)⟩
def GR:G1
 |.lst ts=>.ok (.tup ts,false)
 |.tup ts=>.ok (.tup ts,false)
 |_=>.bad
def GX:G2
 |.int i,.int j=>.ok (.int (if j<i then j else i),false)
 |_,_=>.bad
def GZ:G2
 |.int i,.int j=>.ok (.int (if j > i then j else i),false)
 |_,_=>.bad
def tB:List Tr->Option (List Bool)
 | []=>some []
 |.bl i::r=>(tB r).map (i :: ·)
 |_::_=>none
theorem Py{H:Hp}:∀{ts:List Tr} {ns:List Bool} {xs:List V},tB ts=some ns->aL K H xs ts->xs=ns.map V.bl
 | [],ns,xs,h,r=>by cases h; cases r; rfl
 |.bl i::q,ns,xs,h,r=>by
  unfold tB at h
  cases e:tB q with
  |none=>rw[e]at h; cases h
  |some ms =>
   rw[e]at h
   cases h
   cases r with
   |cons h1 r1 =>
    cases h1
    rw[Py e r1]
    rfl
 |.non::q,ns,xs,h,r=>by cases h
 |.int _::q,ns,xs,h,r=>by cases h
 |.str _::q,ns,xs,h,r=>by cases h
 |.tup _::q,ns,xs,h,r=>by cases h
 |.lst _::q,ns,xs,h,r=>by cases h
def eE:G1
 |.lst ts=>match tB ts with
  |some bs=>.ok (.bl (bs.all id),false)
  |none=>.bad
 |_=>.bad
theorem YH:pP (aB K) (λx=>Ge K [x]) eE:=λW x a H Q hw rx h=>by
 cases a <;> try exact h.elim
 dsimp only[eE]at h
 split at h
 ·rename_i bs e
  obtain⟨p,xs,rfl,q,r⟩:=rx.lst
  have z:=Py e r
  subst z
  exact⟨p,bs,rfl,q.toK,h _ H (Same.refl _) (.fV (.bl _))⟩
 ·exact h.elim
def gJ(c:Ty)(fa:EF):EF:=λρ=>(fa ρ).bind λp=>(dr p.2 p.1).bind λa=>.ok (eB (gF a c),p.2)
theorem tD{t:Tx}(hK:t.K=aB K)(c:Ty){ta:TE}{fa:EF}(ha:SE t ta fa):SE t (jN (Af K) (jq ta (jq (tC (.ty c.name)) lZ))) (gJ c fa):=λW ρ σ H Q e h=>by
 refine ha W ρ σ H _ e (Rs.aY (Rs.aN h) λp h x H1 e1 s1 v1=>?_)
 obtain⟨a,k1,h⟩:=cV (Rs.aN h) (lC _ _)
 have r:=lB e1 e.wn v1.1 k1
 rw[hK]at r
 exact⟨x,a,c,rfl,r.rep.toK,h _ H1 e1 s1 (.low (.bl _))⟩
end
end L2
end
section
namespace L2
open PySem PySem.Spec PyProof.Rows
inductive Fl where
 |nx|rt (T:Tr) (fr:Bool)|bk|ct
abbrev SF:=En->Rs (Fl × En)
def fW(W:Addr->Prop)(H:Hp)(W':Addr->Prop)(H':Hp):Prop:=∀b o,¬W b->H b=some o->¬W' b/\H' b=some o
theorem fW.refl(W:Addr->Prop)(H:Hp):fW W H W H:=λ_ _ n h=>⟨n,h⟩
theorem fW.trans{W W1 W2:Addr->Prop}{H H1 H2:Hp}(a:fW W H W1 H1)(b:fW W1 H1 W2 H2):fW W H W2 H2:=λc o n h=>by
 obtain⟨n1,h1⟩:=a c o n h
 exact b c o n1 h1
theorem bG.nxt{W:Addr->Prop}{H H':Hp}(s:bG W H H'):fW W H W H':=λb o n h=>⟨n,s.keep b o n h⟩
theorem fW.same{W W':Addr->Prop}{H H':Hp}(a:fW W H W' H'):Same (aA W H) (aA W' H'):=λb o h=>by
 obtain⟨n,h⟩:=gj h
 obtain⟨n',h'⟩:=a b o n h
 rw[cC n']
 exact h'
def VR(t:Tx)(H':Hp)(v:V)(T:Tr):Bool->Prop
 |false=>Rep t.K (aA t.Z H') v T
 |true=>∃a xs ts,v=.ref a/\T=.lst ts/\t.H0 a=none/\H' a=some (.lst xs)/\aL t.K (off a (aA t.Z H')) xs ts
noncomputable def lG(t:Tx)(W:Addr->Prop)(H:Hp)(D:Ends)(p:Fl × En):Prop:=match p.1 with
 |.nx=>∀W' σ' H',aJ t W' p.2 σ' H'->fW W H W' H'->D.nx σ' H'
 |.rt T fr=>∀v W' σ' H',aJ t W' p.2 σ' H'->VR t H' v T fr->D.rt v H'
 |.bk=>∀W' σ' H',aJ t W' p.2 σ' H'->fW W H W' H'->D.bk σ' H'
 |.ct=>∀W' σ' H',aJ t W' p.2 σ' H'->fW W H W' H'->D.ct σ' H'
def SS(t:Tx)(ts:TS)(f:SF):Prop:=∀W ρ σ H D,aJ t W ρ σ H->(f ρ).post t.EX (lG t W H D)->ts D σ H
theorem lG.back{t:Tx}{W W':Addr->Prop}{H H':Hp}{D:Ends}{p:Fl × En}(h:lG t W H D p)(n:fW W H W' H'):lG t W' H' D p:=by
 obtain⟨fl,ρ⟩:=p
 cases fl with
 |nx=>exact λW2 σ2 H2 e m=>h W2 σ2 H2 e (n.trans m)
 |rt T fr=>exact h
 |bk=>exact λW2 σ2 H2 e m=>h W2 σ2 H2 e (n.trans m)
 |ct=>exact λW2 σ2 H2 e m=>h W2 σ2 H2 e (n.trans m)
section
variable {t:Tx}
def cL:SF:=λρ=>.ok (.nx,ρ)
theorem nQ:SS t Eh cL:=λW ρ σ H D e h=>h W σ H e (fW.refl _ _)
def aG(f g:SF):SF:=λρ=>(f ρ).bind λp=>match p.1 with
 |.nx=>g p.2
 |fl=>.ok (fl,p.2)
theorem fL{ta tb:TS}{f g:SF}(h1:SS t ta f)(h2:SS t tb g):SS t (je ta tb) (aG f g):=λW ρ σ H D e h=>by
 refine h1 W ρ σ H _ e (Rs.aY (Rs.aN h) λp h=>?_)
 obtain⟨fl,ρ1⟩:=p
 cases fl with
 |nx=>exact λW1 σ1 H1 e1 n1=>h2 W1 ρ1 σ1 H1 D e1 (Rs.aY h λq h=>h.back n1)
 |rt T fr=>exact h
 |bk=>exact h
 |ct=>exact h
theorem get_set{α : Type}{l:List α}{i j:Nat}{a b : α}(h:(l.set i a)[j]?=some b):(j=i/\b=a/\i<l.length)\/(j≠i/\l[j]?=some b):=by
 by_cases e:i=j
 ·subst e
  rw[List.getElem?_set_self']at h
  cases q:l[i]? with
  |none=>rw[q]at h; cases h
  |some c =>
   rw[q]at h
   cases h
   exact .inl ⟨rfl,rfl,(List.getElem?_eq_some_iff.mp q).1⟩
 ·rw[List.getElem?_set_ne e]at h
  exact .inr ⟨Ne.symm e,h⟩
theorem tE{α : Type}{l:List α}{i:Nat}{a : α}(h:i<l.length):(l.set i a)[i]?=some a:=by
 rw[List.getElem?_set_self' ,List.getElem?_eq_getElem h]
 rfl
theorem aJ.Bb{W:Addr->Prop}{ρ : En}{σ : St}{H:Hp}{i:Nat}{v:V}{T:Tr}(e:aJ t W ρ σ H)(r:Rep t.K (aA W H) v T):aJ t W (ρ.set i (.sh T)) (σ.set i (some v)) H:=by
 have mu:∀j,Mu (ρ.set i (.sh T)) j->j≠i/\Mu ρ j:=λj h=>by
  obtain⟨ts,h|h⟩:=h <;> rcases get_set h with⟨rfl,z,_⟩|⟨ne,h⟩
  ·cases z
  ·exact⟨ne,ts,.inl h⟩
  ·cases z
  ·exact⟨ne,ts,.inr h⟩
 have dz:∀j us,(ρ.set i (.sh T))[j]?=some (.dp us)->j≠i/\ρ[j]?=some (.dp us):=λj us h=>by
  rcases get_set h with⟨rfl,z,_⟩|⟨ne,h⟩
  ·cases z
  ·exact⟨ne,h⟩
 obtain⟨F,e⟩:=e
 refine⟨F,by rw[List.length_set,List.length_set]; exact e.len,e.zw,e.z0,e.wl,e.f0,e.n0,λj u h=>?_,λj ts h=>?_,λj ts h=>?_,λj k a h1 h2 q1 q2=>?_,e.pn,λj a m q=>e.pd j a (mu j m).2 (by rw[List.getElem?_set_ne (Ne.symm (mu j m).1)]at q; exact q),
  λj us h=>?_,λj k us ws n h1 h2=>e.dd j k us ws n (dz j us h1).2 (dz k ws h2).2,λj k us c h1 m q=>e.dm j k us c (dz j us h1).2 (mu k m).2 (by rw[List.getElem?_set_ne (Ne.symm (mu k m).1)]at q; exact q),λj us h=>e.db j us (dz j us h).2,e.tab⟩
 ·rcases get_set h with⟨rfl,z,l⟩|⟨ne,h⟩
  ·cases z
   exact⟨v,tE (by rw[<-e.len]; exact l),r⟩
  ·obtain⟨w,h1,h2⟩:=e.sh j u h
   exact⟨w,by rw[List.getElem?_set_ne (Ne.symm ne)]; exact h1,h2⟩
 ·rcases get_set h with⟨rfl,z,l⟩|⟨ne,h⟩
  ·cases z
  ·obtain⟨a,xs,h1,h2⟩:=e.ow j ts h
   exact⟨a,xs,by rw[List.getElem?_set_ne (Ne.symm ne)]; exact h1,h2⟩
 ·rcases get_set h with⟨rfl,z,l⟩|⟨ne,h⟩
  ·cases z
  ·obtain⟨a,xs,h1,h2⟩:=e.rf j ts h
   exact⟨a,xs,by rw[List.getElem?_set_ne (Ne.symm ne)]; exact h1,h2⟩
 ·obtain⟨n1,m1⟩:=mu j h1
  obtain⟨n2,m2⟩:=mu k h2
  rw[List.getElem?_set_ne (Ne.symm n1)]at q1
  rw[List.getElem?_set_ne (Ne.symm n2)]at q2
  exact e.dis j k a m1 m2 q1 q2
 ·obtain⟨ne,h⟩:=dz j us h
  obtain⟨c,ys,h1,d⟩:=e.dp j us h
  exact⟨c,ys,by rw[List.getElem?_set_ne (Ne.symm ne)]; exact h1,d⟩
theorem aJ.addr{W:Addr->Prop}{ρ : En}{σ : St}{H:Hp}{i:Nat}{a:Addr}(e:aJ t W ρ σ H)(m:Mu ρ i)(q : σ[i]?=some (some (.ref a))):W a:=by
 obtain⟨ts,h|h⟩:=m
 ·obtain⟨b,xs,h1,h2,_⟩:=e.ow i ts h
  rw[q]at h1
  cases h1
  exact h2
 ·obtain⟨b,xs,h1,h2,_⟩:=e.rf i ts h
  rw[q]at h1
  cases h1
  exact h2
theorem aJ.YJ{W:Addr->Prop}{ρ : En}{σ : St}{H:Hp}{i:Nat}{a:Addr}{xs:List V}{ts:List Tr}(e0:aJ t W ρ σ H)(nw:¬W a)(e:nJ t W a ρ σ H)(h0:t.H0 a=none)(hB:t.B a=none)(ha:H a=some (.lst xs))(r:aL t.K (off a (aA W H)) xs ts) :
  aJ t (λb=>W b\/b=a) (ρ.set i (.ow ts)) (σ.set i (some (.ref a))) H:=by
 have mu:∀j,Mu (ρ.set i (.ow ts)) j->j=i\/(j≠i/\Mu ρ j):=λj h=>by
  obtain⟨ts,h|h⟩:=h <;> rcases get_set h with⟨rfl,z,_⟩|⟨ne,h⟩
  ·exact .inl rfl
  ·exact .inr ⟨ne,ts,.inl h⟩
  ·exact .inl rfl
  ·exact .inr ⟨ne,ts,.inr h⟩
 have m:Same (off a (aA W H)) (aA (λb=>W b\/b=a) H):=λb o q=>by
  obtain⟨ne,q⟩:=sX q
  obtain⟨n,q⟩:=gj q
  rw[cC]
  ·exact q
  ·rintro(z|z)
   ·exact n z
   ·exact ne z
 have dz:∀j us,(ρ.set i (.ow ts))[j]?=some (.dp us)->j≠i/\ρ[j]?=some (.dp us):=λj us h=>by
  rcases get_set h with⟨rfl,z,_⟩|⟨ne,h⟩
  ·cases z
  ·exact⟨ne,h⟩
 obtain⟨F,e,na⟩:=e
 refine⟨F,by rw[List.length_set,List.length_set]; exact e.len,e.zw,e.z0,e.wl,e.f0,e.n0,λj u h=>?_,λj us h=>?_,λj us h=>?_,λj k c h1 h2 q1 q2=>?_,e.pn,λj c m q=>?_,
  λj us h=>?_,λj k us ws n h1 h2=>e.dd j k us ws n (dz j us h1).2 (dz k ws h2).2,λj k us c h1 m q=>?_,λj us h=>e.db j us (dz j us h).2,e.tab⟩
 ·rcases get_set h with⟨rfl,z,l⟩|⟨ne,h⟩
  ·cases z
  ·obtain⟨w,h1,h2⟩:=e.sh j u h
   exact⟨w,by rw[List.getElem?_set_ne (Ne.symm ne)]; exact h1,h2⟩
 ·rcases get_set h with⟨rfl,z,l⟩|⟨ne,h⟩
  ·cases z
   exact⟨a,xs,tE (by rw[<-e.len]; exact l),.inr rfl,h0,ha,r.mono m⟩
  ·obtain⟨c,ys,h1,h2⟩:=e.ow j us h
   exact⟨c,ys,by rw[List.getElem?_set_ne (Ne.symm ne)]; exact h1,h2⟩
 ·rcases get_set h with⟨rfl,z,l⟩|⟨ne,h⟩
  ·cases z
  ·obtain⟨c,ys,h1,h2⟩:=e.rf j us h
   exact⟨c,ys,by rw[List.getElem?_set_ne (Ne.symm ne)]; exact h1,h2⟩
 ·have old:∀j,j≠i->Mu ρ j->(σ.set i (some (.ref a)))[j]? ≠ some (some (.ref a)):=λj ne m q=>by
   rw[List.getElem?_set_ne (Ne.symm ne)]at q
   exact nw (e0.addr m q)
  have self:∀c,(σ.set i (some (V.ref a)))[i]?=some (some (.ref c))->c=a:=λc q=>by
   rcases get_set q with⟨_,z,_⟩|⟨ne,_⟩
   ·cases z; rfl
   ·exact absurd rfl ne
  rcases mu j h1 with rfl|⟨n1,m1⟩ <;> rcases mu k h2 with rfl|⟨n2,m2⟩
  ·rfl
  ·have:=self c q1
   subst this
   exact(old k n2 m2 q2).elim
  ·have:=self c q2
   subst this
   exact(old j n1 m1 q1).elim
  ·rw[List.getElem?_set_ne (Ne.symm n1)]at q1
   rw[List.getElem?_set_ne (Ne.symm n2)]at q2
   exact e.dis j k c m1 m2 q1 q2
 ·rcases mu j m with rfl|⟨n1,m1⟩
  ·rcases get_set q with⟨_,z,_⟩|⟨ne,_⟩
   ·cases z; exact hB
   ·exact absurd rfl ne
  ·rw[List.getElem?_set_ne (Ne.symm n1)]at q
   exact e.pd j c m1 q
 ·obtain⟨ne,h⟩:=dz j us h
  obtain⟨c,ys,h1,d⟩:=e.dp j us h
  exact⟨c,ys,by rw[List.getElem?_set_ne (Ne.symm ne)]; exact h1,d⟩
 ·obtain⟨nj,hj⟩:=dz j us h1
  rcases mu k m with rfl|⟨n2,m2⟩
  ·rcases get_set q with⟨_,z,_⟩|⟨nk,_⟩
   ·cases z
    exact na j us hj
   ·exact absurd rfl nk
  ·rw[List.getElem?_set_ne (Ne.symm n2)]at q
   exact e.dm j k us c hj m2 q
theorem aJ.xK{W:Addr->Prop}{ρ : En}{σ : St}{H:Hp}{a:Addr}(e:aJ t W ρ σ H)(n:H a=none):t.B a=none:=by
 cases q:t.B a with
 |none=>rfl
 |some o=>rw[e.pn a o q]at n; cases n
abbrev GF:=Tr->En->Rs En
def SG(t:Tx)(g:TG)(f:GF)(js:List Nat):Prop:=∀W ρ σ H v T Q,aJ t W ρ σ H->Rep t.K (aA W H) v T->(f T ρ).post (λ_=>False) (λρ'=>∀σ',aJ t W ρ' σ' H->(∀k,k∉js -> σ'[k]?=σ[k]?)->Q σ' H)->g v σ H Q
def gN(i:Nat):GF:=λT ρ=>.ok (ρ.set i (.sh T))
theorem cQ(i:Nat):SG t (cU i) (gN i) [i]:=λW ρ σ H v T Q e r h=>h _ (e.Bb r) λk n=>List.getElem?_set_ne (λz=>n (by rw[z]; exact List.mem_singleton.mpr rfl))
abbrev mV:=List Tr->En->Rs En
def Bc(t:Tx)(g:jW)(f:mV)(js:List Nat):Prop:=∀W ρ σ H vs Ts Q,aJ t W ρ σ H->aL t.K (aA W H) vs Ts->(f Ts ρ).post (λ_=>False) (λρ'=>∀σ',aJ t W ρ' σ' H->(∀k,k∉js -> σ'[k]?=σ[k]?)->Q σ' H)->g vs σ H Q
def dI:mV:=λTs ρ=>match Ts with
 | []=>.ok ρ
 |_=>.bad
def bL(f:GF)(g:mV):mV:=λTs ρ=>match Ts with
 |T::r=>(f T ρ).bind λρ'=>g r ρ'
 | []=>.bad
theorem rz:Bc t uK dI []:=λW ρ σ H vs Ts Q e r h=>by
 cases r with
 |nil=>exact⟨rfl,h σ e λ_ _=>rfl⟩
 |cons _ _=>exact h.elim
theorem jy{g:TG}{u:jW}{f:GF}{fs:mV}{js ks:List Nat}(h1:SG t g f js)(h2:Bc t u fs ks):Bc t (pq g u) (bL f fs) (js++ks):=λW ρ σ H vs Ts Q e r h=>by
 cases r with
 |nil=>exact h.elim
 | @cons x T xs Ts r1 r2 =>
  refine⟨x,xs,rfl,h1 W ρ σ H x T _ e r1 (Rs.aY (Rs.aN h) λρ' h σ' e' n1=>?_)⟩
  refine h2 W ρ' σ' H xs Ts _ e' r2 (Rs.aY h λρ2 h σ2 e2 n2=>h σ2 e2 λk n=>?_)
  rw[List.mem_append,not_or]at n
  rw[n2 k n.2,n1 k n.1]
def gT(n:Nat)(f:mV):GF:=λT ρ=>match T with
 |.tup Ts=>if Ts.length=n then f Ts ρ else .bad
 |_=>.bad
theorem rD{K:FZ}(hK:t.K=aB K){n:Nat}{u:jW}{fs:mV}{js:List Nat}(h2:Bc t u fs js):SG t (uL K n u) (gT n fs) js:=λW ρ σ H v T Q e r h=>by
 cases T <;> try exact h.elim
 rename_i Ts
 dsimp only[gT]at h
 split at h
 ·rename_i c
  cases r with
  | @tup a xs _ q r =>
   have q':=(gO W H).sV q
   rw[hK]at q'
   exact⟨a,xs,rfl,q'.toK,by rw[r.length]; exact c,h2 W ρ σ H xs Ts Q e r h⟩
 ·exact h.elim
def bf(f:EF)(g:GF):SF:=λρ=>(f ρ).bind λp=>match p.1 with
 |.v T _=>(g T p.2).bind λρ'=>.ok (.nx,ρ')
 |.s _=>.bad
theorem lH{te:TE}{g:TG}{f:EF}{gf:GF}{js:List Nat}(h1:SE t te f)(h2:SG t g gf js)(ng:∀T ρ c,gf T ρ ≠ .ex c):SS t (jA te g) (bf f gf):=λW ρ σ H D e h=>by
 refine h1 W ρ σ H _ e (Rs.aY (Rs.aN h) λp h v H1 e1 s1 v1=>?_)
 obtain⟨r,ρ1⟩:=p
 cases r with
 |s i=>exact h.elim
 |v T fr=>exact h2 W ρ1 σ H1 v T _ e1 (v1.1.rep e.wn) (Rs.aY (jz (Rs.aN h) (ng T ρ1)) λρ' h σ' e' _=>h W σ' H1 e' s1.nxt)
def gZ(i:Nat)(f:EF):SF:=λρ=>(f ρ).bind λp=>match p.1 with
 |.v (.lst ts) true=>.ok (.nx,p.2.set i (.ow ts))
 |_=>.bad
theorem Pz{te:TE}{f:EF}(i:Nat)(h1:SE t te f):SS t (jA te (cU i)) (gZ i f):=λW ρ σ H D e h=>by
 refine h1 W ρ σ H _ e (Rs.aY (Rs.aN h) λp h v H1 e1 s1 v1=>?_)
 obtain⟨r,ρ1⟩:=p
 dsimp only at h
 split at h
 ·rename_i ts
  obtain⟨⟨a,xs,us,rfl,z,n,q,rr⟩,he⟩:=v1
  cases z
  have nw:¬W a:=λw=>e.wn a w n
  refine h _ _ H1 (e1.YJ nw (he _ a rfl rfl) (e.n0 a n) (e.xK n) q rr) λb o nb hb=>⟨?_,s1.keep b o nb hb⟩
  rintro(z|rfl)
  ·exact nb z
  ·rw[n]at hb; cases hb
 ·exact h.elim
def fJ(f:EF):SF:=λρ=>(f ρ).bind λp=>.ok (.nx,p.2)
theorem Bd{te:TE}{f:EF}(h1:SE t te f):SS t (o9 te) (fJ f):=λW ρ σ H D e h =>
 h1 W ρ σ H _ e (Rs.aY (Rs.aN h) λp h v H1 e1 s1 v1=>h W σ H1 e1 s1.nxt)
def bJ(f:EF):SF:=λρ=>(f ρ).bind λp=>match p.1 with
 |.v T fr=>.ok (.rt T fr,p.2)
 |.s i=>match p.2[i]? with
  |some (.ow ts)=>.ok (.rt (.lst ts) true,p.2)
  |_=>.bad
theorem G8{W:Addr->Prop}{ρ : En}{σ : St}{H:Hp}(e:aJ t W ρ σ H):Same (aA W H) (aA t.Z H):=mJ (λb _ _ z=>e.zw b z) λ_ _ _ h=>h
theorem j6{te:TE}{f:EF}(h1:SE t te f):SS t (sG te) (bJ f):=λW ρ σ H D e h=>by
 refine h1 W ρ σ H _ e (Rs.aY (Rs.aN h) λp h v H1 e1 s1 v1=>?_)
 obtain⟨r,ρ1⟩:=p
 cases r with
 |v T fr =>
  refine h v W σ H1 e1 ?_
  cases fr with
  |false=>exact Rep.mono (G8 e1) v1.1
  |true =>
   obtain⟨a,xs,us,rfl,z,n,q,rr⟩:=v1.1
   refine⟨a,xs,us,rfl,z,e.n0 a n,q,rr.mono λb o q=>?_⟩
   obtain⟨ne,q⟩:=sX q
   rw[off_ne ne]
   exact G8 e1 b o q
 |s i =>
  dsimp only at h
  split at h
  ·rename_i ts q
   obtain⟨a,xs,h1,h2,h3,h4,h5⟩:=e1.ow i ts q
   have ev : σ[i]?=some (some v):=v1.1
   rw[ev]at h1
   cases h1
   refine h _ W σ H1 e1 ⟨a,xs,ts,rfl,rfl,h3,h4,h5.mono λb o q=>?_⟩
   have ne:b≠a:=λz=>by subst z; rw[Aj h2]at q; cases q
   rw[off_ne ne]
   exact G8 e1 b o q
  ·exact h.elim
def cM(c:BF)(f g:SF):SF:=λρ=>(c ρ).bind λp=>if p.1=true then f p.2 else g p.2
theorem nU{tc:TT}{ta tb:TS}{c:BF}{f g:SF}(hc:ST t tc c)(ha:SS t ta f)(hb:SS t tb g):SS t (Ei tc ta tb) (cM c f g):=λW ρ σ H D e h=>by
 refine hc W ρ σ H _ e (Rs.aY (Rs.aN h) λp h H1 e1 s1=>?_)
 split at h
 ·rename_i d
  refine if_pos d▸ha W p.2 σ H1 D e1 (Rs.aY h λq h=>h.back s1.nxt)
 ·rename_i d
  refine if_neg d▸hb W p.2 σ H1 D e1 (Rs.aY h λq h=>h.back s1.nxt)
def dF(i:Nat)(ρ : En):En:=match ρ[i]? with
 |some (.ow ts)=>ρ.set i (.sh (.lst ts))
 |_=>ρ
end
end L2
end
section
namespace L2
open PySem PySem.Spec PyProof.Rows
section
variable {t:Tx}
theorem aJ.dF{W:Addr->Prop}{ρ : En}{σ : St}{H:Hp}(e:aJ t W ρ σ H)(i:Nat):∃W',aJ t W' (L2.dF i ρ) σ H/\fW W H W' H:=by
 unfold L2.dF
 split
 ·rename_i ts q
  obtain⟨a,xs,h1,h2,h3,h4,h5⟩:=e.ow i ts q
  have m:Same (aA W H) (aA (λb=>W b/\b≠a) H):=mJ (λ_ _ _ z=>z.1) λ_ _ _ h=>h
  have mi:Mu ρ i:=⟨ts,.inl q⟩
  have mu:∀j,Mu (ρ.set i (.sh (.lst ts))) j->j≠i/\Mu ρ j:=λj h=>by
   obtain⟨us,h|h⟩:=h <;> rcases get_set h with⟨rfl,z,_⟩|⟨ne,h⟩
   ·cases z
   ·exact⟨ne,us,.inl h⟩
   ·cases z
   ·exact⟨ne,us,.inr h⟩
  have PB:∀j c,j≠i->Mu ρ j -> σ[j]?=some (some (.ref c))->c≠a:=λj c ne mj qj z=>by
   subst z
   exact ne (e.dis j i c mj mi qj h1)
  have dz:∀(j:Nat) (us:List Tr),(ρ.set i (.sh (.lst ts)))[j]?=some (Sl.dp us) -> ρ[j]?=some (Sl.dp us):=λj us h=>by
   rcases get_set h with⟨rfl,z,_⟩|⟨ne,h⟩
   ·cases z
   ·exact h
  obtain⟨F,e⟩:=e
  refine⟨λb=>W b/\b≠a,⟨F,by rw[List.length_set]; exact e.len,λb z=>⟨e.zw b z,λy=>?_⟩,e.z0,λb w=>e.wl b w.1,e.f0,e.n0,λj u h=>?_,λj us h=>?_,λj us h=>?_,λj k c m1 m2 q1 q2=>e.dis j k c (mu j m1).2 (mu k m2).2 q1 q2,e.pn,λj c m q=>e.pd j c (mu j m).2 q,λj us h=>?_,λj k us ws n h1 h2=>e.dd j k us ws n (dz j us h1) (dz k ws h2),λj k us c h1 m q=>e.dm j k us c (dz j us h1) (mu k m).2 q,λj us h=>e.db j us (dz j us h),e.tab.cut (D:=λb=>b=a) (λb z=>⟨xs,by rw[z]; exact h4⟩)⟩,λb o n h=>⟨λz=>n z.1,h⟩⟩
  ·subst y
   exact e.z0 b z h3
  ·rcases get_set h with⟨rfl,z,l⟩|⟨ne,h⟩
   ·cases z
    refine⟨.ref a,h1,.lst (bw.of ?_) (h5.mono m)⟩
    rw[cC λz=>z.2 rfl]
    exact h4
   ·obtain⟨w,q1,q2⟩:=e.sh j u h
    exact⟨w,q1,q2.mono m⟩
  ·rcases get_set h with⟨rfl,z,l⟩|⟨ne,h⟩
   ·cases z
   ·obtain⟨c,ys,q1,q2,q3,q4,q5⟩:=e.ow j us h
    exact⟨c,ys,q1,⟨q2,PB j c ne ⟨us,.inl h⟩ q1⟩,q3,q4,q5.mono m⟩
  ·rcases get_set h with⟨rfl,z,l⟩|⟨ne,h⟩
   ·cases z
   ·obtain⟨c,ys,q1,q2,q3,q4,q5⟩:=e.rf j us h
    exact⟨c,ys,q1,⟨q2,PB j c ne ⟨us,.inr h⟩ q1⟩,q3,q4,q5.mono m⟩
  ·obtain⟨c,ys,q1,d⟩:=e.dp j us (dz j us h)
   exact⟨c,ys,q1,d.move rfl rfl m (λb hb=>⟨by obtain⟨_,_,_,ww,_⟩:=d; exact(ww b hb).1,λz=>by subst z; exact e.dm j i us b (dz j us h) mi h1 hb⟩) λ_ _ _ q=>q⟩
 ·exact⟨W,e,fW.refl _ _⟩
def lJ(i:Nat)(f:SF):SF:=λρ=>f (dF i ρ)
theorem YK{ts:TS}{f:SF}(i:Nat)(h:SS t ts f):SS t ts (lJ i f):=λW ρ σ H D e q=>by
 obtain⟨W',e',n⟩:=e.dF i
 exact h W' _ σ H D e' (Rs.aY q λp q=>q.back n)
def pU(c:BF)(b:SF):Nat->SF
 | 0=>λ_=>.bad
 | n + 1=>λρ => (c ρ).bind λp=>if p.1=true then (b p.2).bind λq=>(match q.1 with
  |.nx=>pU c b n q.2
  |.ct=>pU c b n q.2
  |.bk=>.ok (.nx,q.2)
  |.rt T fr=>.ok (.rt T fr,q.2))else .ok (.nx,p.2)
def nY(fu:En->Nat)(c:BF)(b:SF):SF:=λρ=>pU c b (fu ρ) ρ
theorem YL{tc:TT}{tb:TS}{c:BF}{b:SF}(fu:En->Nat)(hc:ST t tc c)(hb:SS t tb b):SS t (Mr tc tb) (nY fu c b):=λW ρ σ H D e h=>by
 refine⟨λm σ' H'=>∃ρ' W',aJ t W' ρ' σ' H'/\(pU c b m ρ').post t.EX (lG t W' H' D),⟨fu ρ,ρ,W,e,h⟩,?_⟩
 rintro m σ1 H1 ⟨ρ1,W1,e1,h1⟩
 cases m with
 |zero=>exact h1.elim
 |succ n =>
  refine hc W1 ρ1 σ1 H1 _ e1 (Rs.aY (Rs.aN h1) λp h H2 e2 s2=>?_)
  split at h
  ·rename_i d
   rw[if_pos d]
   refine⟨λσ' H'=>∃ρ' W',aJ t W' ρ' σ' H'/\(pU c b n ρ').post t.EX (lG t W' H' D),λσ' H' q=>⟨n,Nat.lt_succ_self n,q⟩,?_⟩
   refine hb W1 p.2 σ1 H2 _ e2 (Rs.aY (Rs.aN h) λq h=>?_)
   obtain⟨fl,ρ3⟩:=q
   cases fl with
   |nx=>exact λW3 σ3 H3 e3 n3=>⟨ρ3,W3,e3,Rs.aY h λr h=>h.back (s2.nxt.trans n3)⟩
   |ct=>exact λW3 σ3 H3 e3 n3=>⟨ρ3,W3,e3,Rs.aY h λr h=>h.back (s2.nxt.trans n3)⟩
   |bk=>exact λW3 σ3 H3 e3 n3=>h W3 σ3 H3 e3 (s2.nxt.trans n3)
   |rt T fr=>exact h
  ·rename_i d
   rw[if_neg d]
   exact h W1 σ1 H2 e2 s2.nxt
def tG(K:FZ)(W:Addr->Prop)(H:Hp)(J:It)(us:List Tr):Prop:=∀W' H',Same (aA W H) (aA W' H')->(∀b,W' b->Lt H' b)->∀i,(i=us.length->J.stop i H')/\∀u,us[i]?=some u->J.go i H'/\∀x dM,J.lY i H' x dM->Same H' dM/\Rep K (aA W' dM) x u
abbrev IF:=En->Rs (List Tr × En)
def SI(t:Tx)(wi:TI)(f:IF):Prop:=∀W ρ σ H R,aJ t W ρ σ H->(f ρ).post t.EX (λp=>∀J H',aJ t W p.2 σ H'->bG W H H'->tG t.K W H' J p.1->R J H')->wi σ H R
def cR(g:GF)(b:SF):List Tr->SF
 | []=>λρ=>.ok (.nx,ρ)
 | u :: us=>λρ => (g u ρ).bind λρ1=>(b ρ1).bind λq=>(match q.1 with
  |.nx=>cR g b us q.2
  |.ct=>cR g b us q.2
  |.bk=>.ok (.nx,q.2)
  |.rt T fr=>.ok (.rt T fr,q.2))
def bY(fi:IF)(g:GF)(b:SF):SF:=λρ=>(fi ρ).bind λp=>cR g b p.1 p.2
theorem nZ{wi:TI}{g:TG}{tb:TS}{fi:IF}{gf:GF}{b:SF}{js:List Nat}(hi:SI t wi fi)(hg:SG t g gf js)(ng:∀T ρ c,gf T ρ ≠ .ex c)(hb:SS t tb b):SS t (wI wi g tb) (bY fi gf b):=λW ρ σ H D e h=>by
 refine hi W ρ σ H _ e (Rs.aY (Rs.aN h) λp h J H1 e1 s1 it=>?_)
 obtain⟨us,ρ1⟩:=p
 dsimp only at h it e1
 refine⟨λi m σ' H'=>m=us.length-i/\i<=us.length/\∃ρ' W',aJ t W' ρ' σ' H'/\fW W H1 W' H'/\(cR gf b (us.drop i) ρ').post t.EX (lG t W' H' D),⟨us.length,by simp,Nat.zero_le _,ρ1,W,e1,fW.refl _ _,by rw[List.drop_zero]; exact Rs.aY h λr h=>h.back s1.nxt⟩,?_⟩
 rintro i m σ2 H2 ⟨rfl,hi,ρ2,W2,e2,n2,h2⟩
 have q:=it W2 H2 n2.same e2.wl i
 by_cases hlt:i<us.length
 ·rw[List.drop_eq_getElem_cons hlt]at h2
  obtain⟨go,y⟩:=q.2 us[i] (by simp[hlt])
  refine .inr ⟨go,λσ' H'=>∃ρ' W',aJ t W' ρ' σ' H'/\fW W H1 W' H'/\(cR gf b (us.drop (i+1)) ρ').post t.EX (lG t W' H' D),λσ' H' z=>⟨us.length-(i+1),by omega,rfl,hlt,z⟩,λx H3 yl=>?_⟩
  obtain⟨s3,r3⟩:=y x H3 yl
  have e3:=e2.grow s3
  have n3:fW W H1 W2 H3:=n2.trans (bG.of s3).nxt
  refine hg W2 ρ2 σ2 H3 x us[i] _ e3 r3 (Rs.aY (jz (Rs.aN h2) (ng _ _)) λρ4 h σ4 e4 _=>?_)
  refine hb W2 ρ4 σ4 H3 _ e4 (Rs.aY (Rs.aN h) λr h=>?_)
  obtain⟨fl,ρ5⟩:=r
  cases fl with
  |nx=>exact λW5 σ5 H5 e5 n5=>⟨ρ5,W5,e5,n3.trans n5,Rs.aY h λr h=>h.back ((bG.of s3).nxt.trans n5)⟩
  |ct=>exact λW5 σ5 H5 e5 n5=>⟨ρ5,W5,e5,n3.trans n5,Rs.aY h λr h=>h.back ((bG.of s3).nxt.trans n5)⟩
  |bk=>exact λW5 σ5 H5 e5 n5=>h W5 σ5 H5 e5 ((bG.of s3).nxt.trans n5)
  |rt T fr=>exact h
 ·have z:i=us.length:=by omega
  subst z
  rw[List.drop_length]at h2
  exact .inl ⟨q.1 rfl,h2 W2 σ2 H2 e2 (fW.refl _ _)⟩
def vm(K:FZ)(tl:TE):TI:=λσ H R=>Mt K tl σ H R\/Mv K tl σ H R
theorem gw{X:Cx}{tg l:Expr}{tl:TE}(hl:PE X l tl):PI X tg l (vm X.K tl):=λpins s σ H R I h=>by
 rcases h with h|h
 ·exact VF hl pins s σ H R I h
 ·exact VG hl pins s σ H R I h
def g8:Rv->Rs (List Tr × Bool)
 |.v (.lst ts) _=>.ok (ts,true)
 |.v (.tup ts) _=>.ok (ts,false)
 |_=>.bad
def bM(f:EF):IF:=λρ=>(f ρ).bind λp=>(g8 p.1).bind λz=>.ok (z.1,p.2)
theorem YM{K:FZ}{W:Addr->Prop}{H:Hp}{a:Addr}{xs:List V}{us:List Tr}(q:bw (aB K) (aA W H) a xs)(r:aL (aB K) (aA W H) xs us):tG (aB K) W H (pB K a) us:=λW' H' m hw i=>by
 have q':bw K H' a xs:=((gO W' H').seq (m.seq q)).toK
 refine⟨λz=>⟨xs,q',by rw[r.length]; omega⟩,λu hu=>?_⟩
 obtain⟨x,hx,rx⟩:=r.mL hu
 refine⟨⟨xs,x,q',hx⟩,λy dM yl=>?_⟩
 obtain⟨rfl,z⟩:=yl
 have:=z xs q'
 rw[hx]at this
 cases this
 exact⟨Same.refl _,rx.mono m⟩
theorem YQ{K:FZ}{W:Addr->Prop}{H:Hp}{a:Addr}{xs:List V}{us:List Tr}(q:c7 (aB K) (aA W H) a xs)(r:aL (aB K) (aA W H) xs us):tG (aB K) W H (Eo K a) us:=λW' H' m hw i=>by
 have q':c7 K H' a xs:=((gO W' H').sV (m.sV q)).toK
 refine⟨λz=>⟨xs,q',by rw[r.length]; omega⟩,λu hu=>?_⟩
 obtain⟨x,hx,rx⟩:=r.mL hu
 refine⟨⟨xs,x,q',hx⟩,λy dM yl=>?_⟩
 obtain⟨rfl,z⟩:=yl
 have:=z xs q'
 rw[hx]at this
 cases this
 exact⟨Same.refl _,rx.mono m⟩
theorem jT{K:FZ}(hK:t.K=aB K){tl:TE}{f:EF}(h1:SE t tl f):SI t (vm K tl) (bM f):=λW ρ σ H R e h=>by
 have h:=Rs.aN h
 have key:∀b:Bool,(f ρ).post t.EX (λp=>∃us,g8 p.1=.ok (us,b)/\∀J H',aJ t W p.2 σ H'->bG W H H'->tG t.K W H' J us->R J H')->vm K tl σ H R:=λb h=>by
  cases b with
  |true =>
   refine .inl (h1 W ρ σ H _ e (Rs.aY h λp h v H1 e1 s1 v1=>?_))
   obtain⟨us,q,h⟩:=h
   obtain⟨r,ρ1⟩:=p
   cases r with
   |s i=>cases q
   |v T fr =>
    cases T <;> cases q
    have rr:=v1.1.rep e.wn
    cases rr with
    | @lst a xs _ q r =>
     refine⟨a,rfl,⟨xs,?_⟩,h _ H1 e1 s1 ?_⟩
     ·rw[hK]at q
      exact((gO _ _).seq q).toK
     ·rw[hK]at q r ⊢
      exact YM q r
  |false =>
   refine .inr (h1 W ρ σ H _ e (Rs.aY h λp h v H1 e1 s1 v1=>?_))
   obtain⟨us,q,h⟩:=h
   obtain⟨r,ρ1⟩:=p
   cases r with
   |s i=>cases q
   |v T fr =>
    cases T <;> cases q
    have rr:=v1.1.rep e.wn
    cases rr with
    | @tup a xs _ q r =>
     refine⟨a,rfl,⟨xs,?_⟩,h _ H1 e1 s1 ?_⟩
     ·rw[hK]at q
      exact((gO _ _).sV q).toK
     ·rw[hK]at q r ⊢
      exact YQ q r
 cases k:f ρ with
 |bad=>rw[k]at h; exact h.elim
 |ex c =>
  refine key true ?_
  rw[k]at h ⊢
  exact h
 |ok p =>
  rw[k]at h
  have h:((g8 p.1).bind _).post _ _:=h
  cases k2:g8 p.1 with
  |bad=>rw[k2]at h; exact h.elim
  |ex c =>
   exfalso
   revert k2
   unfold g8
   split <;> (intro z; cases z)
  |ok z =>
   rw[k2]at h
   refine key z.2 ?_
   rw[k]
   exact⟨z.1,k2,h⟩
def upTo(lo:Int):Nat->List Tr
 | 0=>[]
 |n+1=>.int lo::upTo (lo+1) n
theorem YS(lo:Int):∀n,(upTo lo n).length=n:=λn=>by
 induction n generalizing lo with
 |zero=>rfl
 |succ n ih=>rw[upTo,List.length_cons,ih]
theorem YT{lo:Int}{n i:Nat}{u:Tr}(h:(upTo lo n)[i]?=some u):i<n/\u=.int (lo+i):=by
 induction n generalizing lo i with
 |zero=>simp[upTo]at h
 |succ n ih =>
  rw[upTo]at h
  cases i with
  |zero =>
   simp at h
   subst h
   exact⟨Nat.zero_lt_succ _,by simp⟩
  |succ i =>
   obtain⟨h1,h2⟩:=ih (lo:=lo+1) (i:=i) (by simpa using h)
   refine⟨Nat.succ_lt_succ h1,h2.trans ?_⟩
   congr 1
   omega
theorem YW{K:FZ}{W:Addr->Prop}{H:Hp}(lo:Int)(n:Nat):tG K W H (zK lo n) (upTo lo n):=λW' H' m hw i=>by
 refine⟨λz=>?_,λu hu=>?_⟩
 ·rw[YS]at z
  exact Nat.le_of_eq z.symm
 ·obtain⟨h1,rfl⟩:=YT hu
  refine⟨h1,λx dM yl=>?_⟩
  obtain⟨rfl,rfl⟩:=yl
  exact⟨Same.refl _,.int _⟩
def okR(i:Int):Bool:=decide (-1000000<=i)&&decide (i<=1000000)
def dh(fa:AF):IF:=λρ=>(fa ρ).bind λp=>(drs p.2 p.1).bind λas=>match as with
 | [.int j]=>if okR j=true then .ok (upTo 0 j.toNat,p.2)else .bad
 |_=>.bad
theorem G9{ta:TA}{fa:AF}(ha:SA t ta fa):SI t (Ep ta) (dh fa):=λW ρ σ H R e h=>by
 refine ha W ρ σ H _ e (Rs.aY (Rs.aN h) λp h vs H1 e1 s1 v1=>?_)
 obtain⟨as,k1,h⟩:=cV (Rs.aN h) (u9 _ _)
 have r:=Aw e1 e.wn v1 k1
 split at h
 ·rename_i j
  split at h
  ·rename_i c
   unfold okR at c
   rw[Bool.and_eq_true]at c
   have c1:=of_decide_eq_true c.1
   have c2:=of_decide_eq_true c.2
   cases r with
   |cons h1 r1 =>
    cases r1
    rw[h1.int]
    exact⟨j,rfl,by omega,by omega,h _ H1 e1 s1 (YW 0 _)⟩
  ·exact h.elim
 ·exact h.elim
def YX(fa:AF):IF:=λρ=>(fa ρ).bind λp=>(drs p.2 p.1).bind λas=>match as with
 | [.int i,.int j]=>if okR i=true/\okR j=true then .ok (upTo i (j-i).toNat,p.2)else .bad
 |_=>.bad
def con(ρ : En)(i:Nat):Rs (List Tr):=match ρ[i]? with
 |some (.ow ts)=>.ok ts
 |some (.rf ts)=>.ok ts
 |_=>.bad
theorem Hf(ρ : En)(i:Nat)(c:Str):con ρ i ≠ .ex c:=by
 unfold con
 split <;> (intro z; cases z)
def cN(i:Nat)(us:List Tr)(ρ : En):En:=match ρ[i]? with
 |some (.ow _)=>ρ.set i (.ow us)
 |some (.rf _)=>ρ.set i (.rf us)
 |_=>ρ
theorem aJ.con{W:Addr->Prop}{ρ : En}{σ : St}{H:Hp}{i:Nat}{ts:List Tr}(e:aJ t W ρ σ H)(q:con ρ i=.ok ts):Mu ρ i/\∃a xs,σ[i]?=some (some (.ref a))/\W a/\H a=some (.lst xs)/\aL t.K (aA W H) xs ts/\(∀o,t.H0 a=some o->t.R a):=by
 unfold L2.con at q
 split at q
 ·rename_i us h
  cases q
  obtain⟨a,xs,h1,h2,h3,h4,h5⟩:=e.ow i ts h
  exact⟨⟨ts,.inl h⟩,a,xs,h1,h2,h4,h5,λo z=>by rw[h3]at z; cases z⟩
 ·rename_i us h
  cases q
  obtain⟨a,xs,h1,h2,h3,h4,h5⟩:=e.rf i ts h
  exact⟨⟨ts,.inr h⟩,a,xs,h1,h2,h4,h5,λo z=>h3⟩
 ·cases q
theorem oh{ρ : En}{i j:Nat}{us:List Tr}(h:Mu (cN i us ρ) j):Mu ρ j:=by
 unfold cN at h
 split at h
 ·rename_i ws q
  obtain⟨ts,h|h⟩:=h <;> rcases get_set h with⟨rfl,z,_⟩|⟨ne,h⟩
  ·exact⟨_,.inl q⟩
  ·exact⟨_,.inl h⟩
  ·exact⟨_,.inl q⟩
  ·exact⟨_,.inr h⟩
 ·rename_i ws q
  obtain⟨ts,h|h⟩:=h <;> rcases get_set h with⟨rfl,z,_⟩|⟨ne,h⟩
  ·exact⟨_,.inr q⟩
  ·exact⟨_,.inl h⟩
  ·exact⟨_,.inr q⟩
  ·exact⟨_,.inr h⟩
 ·exact h
theorem Hg{ρ : En}{i:Nat}{us:List Tr}:(cN i us ρ).length = ρ.length:=by
 unfold cN
 split
 ·rw[List.length_set]
 ·rw[List.length_set]
 ·rfl
theorem oA{ρ : En}{i j:Nat}{us:List Tr}{s:Sl}(h:(cN i us ρ)[j]?=some s):(j≠i/\ρ[j]?=some s)\/(j=i/\((∃ts,ρ[i]?=some (.ow ts)/\s=.ow us)\/(∃ts,ρ[i]?=some (.rf ts)/\s=.rf us)\/(¬Mu ρ i/\ρ[i]?=some s))):=by
 unfold cN at h
 split at h
 ·rename_i ws q
  rcases get_set h with⟨rfl,z,_⟩|⟨ne,h⟩
  ·exact .inr ⟨rfl,.inl ⟨ws,q,z⟩⟩
  ·exact .inl ⟨ne,h⟩
 ·rename_i ws q
  rcases get_set h with⟨rfl,z,_⟩|⟨ne,h⟩
  ·exact .inr ⟨rfl,.inr (.inl ⟨ws,q,z⟩)⟩
  ·exact .inl ⟨ne,h⟩
 ·rename_i n1 n2
  by_cases e:j=i
  ·subst e
   refine .inr ⟨rfl,.inr (.inr ⟨?_,h⟩)⟩
   rintro⟨ts,z|z⟩
   ·exact n1 ts z
   ·exact n2 ts z
  ·exact .inl ⟨e,h⟩
theorem tH{ρ : En}{i j:Nat}{us ws:List Tr}(h:(cN i us ρ)[j]?=some (.dp ws)) : ρ[j]?=some (.dp ws):=by
 rcases oA h with⟨_,h⟩|⟨rfl,⟨_,_,z⟩|⟨_,_,z⟩|⟨_,h⟩⟩
 ·exact h
 ·cases z
 ·cases z
 ·exact h
theorem DR.lst{K:FZ}{G H:Hp}:∀{xs:List V} {ts:List Tr} {bs:List Addr},DR K G H xs ts bs->∀b∈bs,∃ys,H b=some (.lst ys)
 |_,_,_,.nil,_,h=>by cases h
 |_,_,_,.cl _ _ r,b,h=>DR.lst r b h
 |_,_,_,.rw q _ r,b,h=>by
  rcases List.mem_cons.mp h with rfl|h
  ·exact⟨_,q⟩
  ·exact DR.lst r b h
theorem qU.lst{t:Tx}{W:Addr->Prop}{H:Hp}{a:Addr}{xs:List V}{ts:List Tr}{fp:List Addr}(d:qU t W H a xs ts fp):∀b∈fp,∃ys,H b=some (.lst ys):=λb hb=>by
 obtain⟨bs,e,_,_,ha,r⟩:=d
 rw[e]at hb
 rcases List.mem_cons.mp hb with rfl|hb
 ·exact⟨_,ha⟩
 ·exact r.lst b hb
theorem qU.nt{t:Tx}{K:FZ}{W:Addr->Prop}{H:Hp}{a:Addr}{xs:List V}{ts:List Tr}{fp:List Addr}(d:qU t W H a xs ts fp)(tb:d8 K H){b:Addr}(z:Tb K b)(hb:b∈fp):False:=by
 obtain⟨ys,e⟩:=d.lst b hb
 exact tb.ne z e rfl
theorem aJ.Bg{W:Addr->Prop}{ρ : En}{σ : St}{H:Hp}{i:Nat}{a:Addr}(e:aJ t W ρ σ H)(m:Mu ρ i)(q : σ[i]?=some (some (.ref a))):∃xs,H a=some (.lst xs):=by
 obtain⟨ts,h|h⟩:=m
 ·obtain⟨b,xs,h1,_,_,h4,_⟩:=e.ow i ts h
  rw[q]at h1
  cases h1
  exact⟨xs,h4⟩
 ·obtain⟨b,xs,h1,_,_,h4,_⟩:=e.rf i ts h
  rw[q]at h1
  cases h1
  exact⟨xs,h4⟩
theorem EOF.move{W W':Addr->Prop}{ρ : En}{σ : St}{H H':Hp}{i:Nat}{a:Addr}{xs:List V}{us:List Tr}{F:Nat->List Addr}(e:EOF t W ρ σ H F)(mi:Mu ρ i)(hi : σ[i]?=some (some (.ref a)))(m:Same (aA W H) (aA W' H'))(sub:∀b,W b->W' b)(wl:∀b,W' b->Lt H' b)
  (tb:d8 t.K H') (fr:∀b o,H b=some o->b≠a->¬Tb t.K b->H' b=some o) (dom:∀b,H' b=none->H b=none) (h0:∀o,t.H0 a=some o->t.R a) (ha:H' a=some (.lst xs)) (r:aL t.K (aA W' H') xs us):EOF t W' (cN i us ρ) σ H' F:=by
 have ne:∀j c,j≠i->Mu ρ j -> σ[j]?=some (some (.ref c))->c≠a:=λj c n mj q z=>by
  subst z
  exact n (e.dis j i c mj mi q hi)
 have nt:∀{c:Addr} {ys:List V},H c=some (.lst ys)->¬Tb t.K c:=λq z=>e.tab.ok.ne z q rfl
 refine⟨by rw[Hg]; exact e.len,λb z=>sub b (e.zw b z),e.z0,wl,λb o h n=>?_,λb h=>e.n0 b (dom b h),λj u h=>?_,λj ts h=>?_,λj ts h=>?_,λj k c h1 h2=>e.dis j k c (oh h1) (oh h2),λb o h=>fr b o (e.pn b o h) (λz=>by subst z; rw[e.pd i b mi hi]at h; cases h) (λz=>by rw[e.tab.B b z]at h; cases h),λj c m q=>e.pd j c (oh m) q,λj ws h=>?_,λj k ws zs n h1 h2=>e.dd j k ws zs n (tH h1) (tH h2),λj k ws c h1 m q=>e.dm j k ws c (tH h1) (oh m) q,λj ws h=>e.db j ws (tH h),⟨tb,λb z=>sub b (e.tab.w b z),e.tab.r,e.tab.B⟩⟩
 ·refine fr b o (e.f0 b o h n) (λz=>?_) λz=>n (e.tab.r b z)
  subst z
  exact n (h0 o h)
 ·rcases oA h with⟨n,h⟩|⟨rfl,⟨ts,q,z⟩|⟨ts,q,z⟩|⟨nm,h⟩⟩
  ·obtain⟨w,h1,h2⟩:=e.sh j u h
   exact⟨w,h1,h2.mono m⟩
  ·cases z
  ·cases z
  ·exact(nm mi).elim
 ·rcases oA h with⟨n,h⟩|⟨rfl,⟨ts',q,z⟩|⟨ts',q,z⟩|⟨nm,h⟩⟩
  ·obtain⟨c,ys,h1,h2,h3,h4,h5⟩:=e.ow j ts h
   exact⟨c,ys,h1,sub c h2,h3,fr c _ h4 (ne j c n ⟨ts,.inl h⟩ h1) (nt h4),h5.mono m⟩
  ·cases z
   obtain⟨c,ys,h1,h2,h3,h4,h5⟩:=e.ow j ts' q
   rw[hi]at h1
   cases h1
   exact⟨a,xs,hi,sub a h2,h3,ha,r⟩
  ·cases z
  ·exact(nm mi).elim
 ·rcases oA h with⟨n,h⟩|⟨rfl,⟨ts',q,z⟩|⟨ts',q,z⟩|⟨nm,h⟩⟩
  ·obtain⟨c,ys,h1,h2,h3,h4,h5⟩:=e.rf j ts h
   exact⟨c,ys,h1,sub c h2,h3,fr c _ h4 (ne j c n ⟨ts,.inr h⟩ h1) (nt h4),h5.mono m⟩
  ·cases z
  ·cases z
   obtain⟨c,ys,h1,h2,h3,h4,h5⟩:=e.rf j ts' q
   rw[hi]at h1
   cases h1
   exact⟨a,xs,hi,sub a h2,h3,ha,r⟩
  ·exact(nm mi).elim
 ·obtain⟨c,ys,h1,d⟩:=e.dp j ws (tH h)
  exact⟨c,ys,h1,d.move rfl rfl m (λb hb=>sub b (by obtain⟨_,_,_,ww,_⟩:=d; exact(ww b hb).1)) λb o hb q=>fr b o q (λz=>by subst z; exact e.dm j i ws b (tH h) mi hi hb) λz=>d.nt e.tab.ok z hb⟩
theorem aJ.move{W W':Addr->Prop}{ρ : En}{σ : St}{H H':Hp}{i:Nat}{a:Addr}{xs:List V}{us:List Tr}(e:aJ t W ρ σ H)(mi:Mu ρ i)(hi : σ[i]?=some (some (.ref a)))(m:Same (aA W H) (aA W' H'))(sub:∀b,W b->W' b)(wl:∀b,W' b->Lt H' b)
  (tb:d8 t.K H') (fr:∀b o,H b=some o->b≠a->¬Tb t.K b->H' b=some o) (dom:∀b,H' b=none->H b=none) (h0:∀o,t.H0 a=some o->t.R a) (ha:H' a=some (.lst xs)) (r:aL t.K (aA W' H') xs us):aJ t W' (cN i us ρ) σ H':=by
 obtain⟨F,e⟩:=e
 exact⟨F,e.move mi hi m sub wl tb fr dom h0 ha r⟩
theorem aJ.put{W:Addr->Prop}{ρ : En}{σ : St}{H:Hp}{i:Nat}{a:Addr}{xs:List V}{us:List Tr}(e:aJ t W ρ σ H)(mi:Mu ρ i)(hi : σ[i]?=some (some (.ref a)))(h0:∀o,t.H0 a=some o->t.R a)(r:aL t.K (aA W H) xs us):aJ t W (cN i us ρ) σ (upd H a (.lst xs))/\bG W H (upd H a (.lst xs)):=by
 have w:=e.addr mi hi
 obtain⟨zs,hz⟩:=e.Bg mi hi
 refine⟨e.move mi hi (by rw[jO w]; exact Same.refl _) (λ_ h=>h) (λb z=>?_) (e.tab.ok.upd hz) (λb o h n _=>by rw[aO n]; exact h) (λb h=>?_) h0 cB (by rw[jO w]; exact r),⟨λb o n h=>?_,λb h=>?_⟩⟩
 ·by_cases q:b=a
  ·subst q; exact .inl ⟨xs,cB⟩
  ·unfold Lt; rw[aO q]; exact e.wl b z
 ·by_cases q:b=a
  ·subst q; rw[cB]at h; cases h
  ·rw[aO q]at h; exact h
 ·rw[aO (λz=>n (by rw[z]; exact w))]; exact h
 ·by_cases q:b=a
  ·subst q; rw[cB]at h; cases h
  ·rw[aO q]at h; exact h
abbrev GM:=List Tr->List Tr->Rs (List Tr × Tr)
noncomputable def Hh(r:V->List V->Hp->VK->Prop)(m:GM):Prop:=∀(K:FZ) (G:Hp) a xs ts vs as H Q ts' T,H a=some (.lst xs)->aL K G xs ts->aL K G vs as->m ts as=.ok (ts',T)->(∀xs' v,aL K G xs' ts'->Rep K G v T->Q v (upd H a (.lst xs')))->r (.ref a) vs H Q
def iU(i:Nat)(m:GM)(fa:AF):EF:=λρ=>(con ρ i).bind λ_=>(fa ρ).bind λp=>(cls p.1).bind λas=>(con p.2 i).bind λts=>(m ts as).bind λz=>.ok (.v z.2 false,cN i z.1 p.2)
theorem PJ{K:FZ}{r:V->List V->Hp->VK->Prop}{m:GM}{ta:TA}{fa:AF}(i:Nat)(hm:Hh r m)(ng:∀ts as c,m ts as ≠ .ex c)(ha:SA t ta fa):SE t (wK K "list" r (fY i) ta) (iU i m fa):=λW ρ σ H Q e h=>by
 obtain⟨us,k0,h⟩:=cV (Rs.aN h) (Hf _ _)
 obtain⟨_,a,xs,hi,_,hx,_⟩:=e.con k0
 refine⟨_,hi,.inl ⟨rfl,xs,bw.of hx⟩,?_⟩
 refine ha W ρ σ H _ e (Rs.aY (Rs.aN h) λp h vs H1 e1 s1 v1=>?_)
 obtain⟨as,k1,h⟩:=cV (Rs.aN h) (xG _)
 obtain⟨ts,k2,h⟩:=cV (Rs.aN h) (Hf _ _)
 obtain⟨⟨ts',T⟩,k3,h⟩:=cV (Rs.aN h) (ng _ _)
 obtain⟨mi,a',ys,hi',w,hy,ry,h0⟩:=e1.con k2
 rw[hi]at hi'
 cases hi'
 refine hm t.K (aA W H1) a ys ts vs as H1 Q ts' T hy ry (xH e.wn v1 k1) k3 λxs' v r' rv=>?_
 obtain⟨e2,s2⟩:=e1.put mi hi h0 r'
 refine h v _ e2 (s1.trans s2) (.low ?_)
 rw[jO w]
 exact rv
def YZ(i:Nat)(m:GM):EF:=λρ=>(con ρ i).bind λts=>(m ts []).bind λz=>.ok (.v z.2 false,cN i z.1 ρ)
def fX:GM:=λts as=>match as with
 | [T]=>if ts.length<=100000 then .ok (ts++[T],.non)else .bad
 |_=>.bad
theorem Y0:Hh Ab fX:=λK G a xs ts vs as H Q ts' T hx r ra q h=>by
 unfold fX at q
 split at q
 ·rename_i U
  split at q
  ·rename_i c
   cases q
   cases ra with
   |cons h1 r1 =>
    cases r1
    exact⟨a,xs,_,rfl,rfl,hx,Nat.lt_of_le_of_lt (by rw[r.length]; exact c) (by decide),h _ _ (r.app (.cons h1 .nil)) .non⟩
  ·cases q
 ·cases q
theorem Y4(ts as:List Tr)(c:Str):fX ts as ≠ .ex c:=by
 unfold fX
 split <;> (try split) <;> (intro z; cases z)
theorem aL.set{K:FZ}{H:Hp}{v:V}{T:Tr}(h:Rep K H v T):∀{xs:List V} {ts:List Tr} (j:Nat),aL K H xs ts->aL K H (xs.set j v) (ts.set j T)
 |_,_,_,.nil=>.nil
 |_,_,0,.cons _ r=>.cons h r
 |_,_,j+1,.cons h1 r=>.cons h1 (aL.set h j r)
noncomputable def Y5(i:Nat)(fk fe:EF):SF:=λρ=>(fe ρ).bind λp=>(cls [p.1]).bind λTs=>(con p.2 i).bind λ_=>(fk p.2).bind λq=>(dr q.2 q.1).bind λkT=>(jF kT).bind λk=>(con q.2 i).bind λts=>match Ts,gM ts.length k with
 | [T],some j=>.ok (.nx,cN i (ts.set j T) q.2)
 |_,_=>.bad
def Y6(i:Nat)(p:Int->Int->Int)(f:EF):SF:=λρ=>match ρ[i]? with
 |some (.sh (.int x))=>(f ρ).bind λq=>(dr q.2 q.1).bind λyT=>(jF yT).bind λy=>.ok (.nx,q.2.set i (.sh (.int (p x y))))
 |_=>.bad
def tK(i j:Nat)(fa:AF):SF:=λρ=>(fa ρ).bind λp=>(cls p.1).bind λTs=>match Ts with
 | [T,U]=>.ok (.nx,(p.2.set i (.sh T)).set j (.sh U))
 |_=>.bad
theorem PK{ta:TA}{fa:AF}(i j:Nat)(ha:SA t ta fa):SS t (Mq i j ta) (tK i j fa):=λW ρ σ H D e h=>by
 refine ha W ρ σ H _ e (Rs.aY (Rs.aN h) λp h vs H1 e1 s1 v1=>?_)
 obtain⟨Ts,k1,h⟩:=cV (Rs.aN h) (xG _)
 have r:=xH e.wn v1 k1
 split at h
 ·cases r with
  |cons h1 r1 =>
   cases r1 with
   |cons h2 r2 =>
    cases r2
    exact⟨_,_,rfl,h W _ H1 ((e1.Bb h1).Bb h2) s1.nxt⟩
 ·exact h.elim
def xM(c:Str)(f:EF):SF:=λρ=>(f ρ).bind λ_=>.ex c
def F0(t:Tx)(H':Hp):Prop:=(∀b o,t.H0 b=some o->¬t.R b->H' b=some o)/\d8 t.K H'
theorem Hi{E:XK}{C:Addr}{te:TE}{f:EF}{c:Str}(hx:∀H',F0 t H'->t.EX c->E (.ref C) none H')(he:SE t te f):SS t (Ox E C te) (xM c f):=λW ρ σ H D e h =>
 he W ρ σ H _ e (Rs.aY (Rs.aN h) λp h v H1 e1 s1 v1=>⟨rfl,hx H1 ⟨e1.f0,e1.tab.ok⟩ h⟩)
end
end L2
end
section
namespace L2
open PySem PySem.Spec PyProof.Rows
mutual
noncomputable def vo:Tr->Bool
 |.tup ts=>oE ts
 |.lst _=>false
 |_=>true
noncomputable def oE:List Tr->Bool
 | []=>true
 |t::r=>vo t&&oE r
end
def Bh(G G':Hp):Prop:=(∀b xs,(G b=some (.tup xs)->G' b=some (.tup xs))/\∀o,G b=some (.dF o (.tup xs))->G' b=some (.dF o (.tup xs)))/\∀b C,G b=some (wO b C)->G' b=some (wO b C)
mutual
theorem Rep.flat{K:FZ}{G G':Hp}(m:Bh G G'):∀{v:V} {T:Tr},Rep K G v T->vo T=true->Rep K G' v T
 |_,_,.non,_=>.non
 |_,_,.bl b,_=>.bl b
 |_,_,.int i,_=>.int i
 |_,_,.str x,_=>.str x
 |_,_,.tup h r,n=>by
  refine .tup ?_ (aL.flat m r (by unfold vo at n; exact n))
  rcases h with(h|⟨o,h⟩)|h
  ·exact .inl (.inl ((m.1 _ _).1 h))
  ·exact .inl (.inr ⟨o,(m.1 _ _).2 o h⟩)
  ·exact .inr h
 |_,_,.lst h r,n=>by unfold vo at n; cases n
 |_,_,.cW h k n,_=>.cW (m.2 _ _ h) k n
theorem aL.flat{K:FZ}{G G':Hp}(m:Bh G G'):∀{v:List V} {T:List Tr},aL K G v T->oE T=true->aL K G' v T
 |_,_,.nil,_=>.nil
 |_,_,.cons h r,n=>by
  unfold oE at n
  rw[Bool.and_eq_true]at n
  exact .cons (Rep.flat m h n.1) (aL.flat m r n.2)
end
theorem Y7{W W':Addr->Prop}{H:Hp}(wl:∀b,W' b->Lt H b):Bh (aA W H) (aA W' H):=by
 have key:∀b o,aA W H b=some o->(∀ys,o ≠ .lst ys)->(∀ys,o ≠ .cZ ys)->aA W' H b=some o:=λb o h n n'=>by
  obtain⟨_,h⟩:=gj h
  rw[cC]
  ·exact h
  ·intro w
   rcases wl b w with⟨ys,e⟩|⟨ys,e⟩ <;> (rw[h]at e; cases e)
   ·exact n ys rfl
   ·exact n' ys rfl
 exact⟨λb xs=>⟨λh=>key _ _ h (λys z=>by cases z) (λys z=>by cases z),λo h=>key _ _ h (λys z=>by cases z) (λys z=>by cases z)⟩,λb C h=>key _ _ h (λys z=>by cases z) (λys z=>by cases z)⟩
theorem Y8{a:Addr}{W:Addr->Prop}{H:Hp}{xs:List V}(wl:∀b,W b->Lt H b)(ha:H a=some (.lst xs))(G:Hp)(hG:∀b o,G b=some o->H b=some o):Bh G (off a (aA W H)):=by
 have key:∀b o,G b=some o->(∀ys,o ≠ .lst ys)->(∀ys,o ≠ .cZ ys)->off a (aA W H) b=some o:=λb o h n n'=>by
  have h:=hG b o h
  rw[off_ne,cC]
  ·exact h
  ·intro w
   rcases wl b w with⟨ys,e⟩|⟨ys,e⟩ <;> (rw[h]at e; cases e)
   ·exact n ys rfl
   ·exact n' ys rfl
  ·rintro rfl
   rw[h]at ha
   cases ha
   exact n _ rfl
 exact⟨λb xs=>⟨λh=>key _ _ h (λys z=>by cases z) (λys z=>by cases z),λo h=>key _ _ h (λys z=>by cases z) (λys z=>by cases z)⟩,λb C h=>key _ _ h (λys z=>by cases z) (λys z=>by cases z)⟩
def xO(K:FZ)(Z:Addr->Prop)(H H':Hp)(v:V)(T:Tr):Bool->Prop
 |false=>Rep K (aA Z H') v T
 |true=>∃a xs ts,v=.ref a/\T=.lst ts/\H a=none/\H' a=some (.lst xs)/\aL K (off a (aA Z H')) xs ts
def ig(K:FZ)(H H':Hp):Prop:=(∀b o,H b=some o->¬Tb K b->H' b=some o)/\d8 K H'
theorem ig.dom{K:FZ}{H H':Hp}(s:ig K H H'):∀b,H' b=none->H b=none:=λb h=>by
 cases q:H b with
 |none=>rfl
 |some o =>
  by_cases z:Tb K b
  ·obtain⟨ps,e⟩:=s.2.cZ z
   rw[h]at e
   cases e
  ·rw[s.1 b o q z]at h
   cases h
def Bj(G G':Hp):Prop:=∀b o,(∀ps,o ≠ .cZ ps)->G b=some o->G' b=some o
theorem Rd.mW{G G':Hp}(m:Bj G G'){a:Addr}{u:HO}(n:∀ps,u ≠ .cZ ps)(h:Rd G a u):Rd G' a u:=by
 rcases h with h|⟨o,h⟩
 ·exact .inl (m _ _ n h)
 ·exact .inr ⟨o,m _ _ (λ_ z=>by cases z) h⟩
mutual
theorem Rep.mW{K:FZ}{G G':Hp}(m:Bj G G'):∀{v:V} {T:Tr},Rep K G v T->Rep K G' v T
 |_,_,.non=>.non
 |_,_,.bl b=>.bl b
 |_,_,.int i=>.int i
 |_,_,.str x=>.str x
 |_,_,.tup h r=>by
  refine .tup ?_ (aL.mW m r)
  rcases h with h|h
  ·exact .inl (Rd.mW m (λ_ z=>by cases z) h)
  ·exact .inr h
 |_,_,.lst h r=>by
  refine .lst ?_ (aL.mW m r)
  rcases h with h|h
  ·exact .inl (Rd.mW m (λ_ z=>by cases z) h)
  ·exact .inr h
 |_,_,.cW h k n=>.cW (m _ _ (λ_ z=>by cases z) h) k n
theorem aL.mW{K:FZ}{G G':Hp}(m:Bj G G'):∀{v:List V} {T:List Tr},aL K G v T->aL K G' v T
 |_,_,.nil=>.nil
 |_,_,.cons h r=>.cons (Rep.mW m h) (aL.mW m r)
end
theorem Hj{K:FZ}{Z:Addr->Prop}{H:Hp}(tb:d8 K H):Bj (aA Z H) (aA (λb=>Z b\/Tb K b) H):=λb o n h=>by
 obtain⟨nz,h⟩:=gj h
 rw[cC]
 ·exact h
 ·rintro(z|z)
  ·exact nz z
  ·obtain⟨ps,e⟩:=tb.cZ z
   rw[h]at e
   cases e
   exact n _ rfl
theorem aJ.Hl{t:Tx}{W:Addr->Prop}{ρ : En}{σ : St}{H H':Hp}(e:aJ t W ρ σ H)(s:ig t.K H H'):aJ t W ρ σ H'/\bG W H H':=by
 have st:bG W H H':=⟨λb o n q=>s.1 b o q λz=>n (e.tab.w b z),s.dom⟩
 refine⟨?_,st⟩
 have m:=st.off
 obtain⟨F,e⟩:=e
 have ls:∀{a:Addr} {xs:List V},H a=some (.lst xs)->H' a=some (.lst xs):=λq=>s.1 _ _ q λz=>e.tab.ok.ne z q rfl
 refine⟨F,e.len,e.zw,e.z0,λb w=>?_,λb o h n=>s.1 b o (e.f0 b o h n) λz=>n (e.tab.r b z),λb h=>e.n0 b (s.dom b h),λi u h=>?_,λi ts h=>?_,λi ts h=>?_,e.dis,λb o h=>s.1 b o (e.pn b o h) λz=>(by rw[e.tab.B b z]at h; cases h),e.pd,λi ts h=>?_,e.dd,e.dm,e.db,⟨s.2,e.tab.w,e.tab.r,e.tab.B⟩⟩
 ·rcases e.wl b w with⟨xs,q⟩|⟨ps,q⟩
  ·exact .inl ⟨xs,ls q⟩
  ·by_cases z:Tb t.K b
   ·exact .inr (s.2.cZ z)
   ·exact .inr ⟨ps,s.1 b _ q z⟩
 ·obtain⟨v,h1,h2⟩:=e.sh i u h
  exact⟨v,h1,h2.mono m⟩
 ·obtain⟨a,xs,h1,h2,h3,h4,h5⟩:=e.ow i ts h
  exact⟨a,xs,h1,h2,h3,ls h4,h5.mono m⟩
 ·obtain⟨a,xs,h1,h2,h3,h4,h5⟩:=e.rf i ts h
  exact⟨a,xs,h1,h2,h3,ls h4,h5.mono m⟩
 ·obtain⟨a,xs,h1,d⟩:=e.dp i ts h
  exact⟨a,xs,h1,d.move rfl rfl m (λb hb=>by obtain⟨_,_,_,ww,_⟩:=d; exact(ww b hb).1) λb o hb q=>s.1 b o q λz=>d.nt e.tab.ok z hb⟩
theorem aJ.Y9{t:Tx}{W:Addr->Prop}{ρ : En}{σ : St}{H H':Hp}{a:Addr}{xs:List V}(e:aJ t W ρ σ H)(s:ig t.K H H')(n:H a=none)(q:H' a=some (.lst xs)):nJ t W a ρ σ H':=by
 have na:∀b,W b->b≠a:=λb w z=>by subst z; exact e.wn b w n
 obtain⟨e',st⟩:=e.Hl s
 have m:Same (aA W H') (aA (λb=>W b\/b=a) H')->True:=λ_=>trivial
 have mm:∀{v:V} {T:Tr},Rep t.K (aA W H) v T->Rep t.K (aA (λb=>W b\/b=a) H') v T:=λr=>r.mono λb o h=>by
  obtain⟨w,h⟩:=gj h
  rw[cC]
  ·exact st.keep b o w h
  ·rintro(z|rfl)
   ·exact w z
   ·rw[n]at h; cases h
 have Ho:Same (aA W H) (aA (λb=>W b\/b=a) H'):=λb o h=>by
  obtain⟨w,h⟩:=gj h
  rw[cC]
  ·exact st.keep b o w h
  ·rintro(z|rfl)
   ·exact w z
   ·rw[n]at h; cases h
 obtain⟨F,e⟩:=e
 have ls:∀{a:Addr} {xs:List V},H a=some (.lst xs)->H' a=some (.lst xs):=λq=>s.1 _ _ q λz=>e.tab.ok.ne z q rfl
 refine⟨F,⟨e.len,λb z=>.inl (e.zw b z),e.z0,λb w=>?_,e'.f0,e'.n0,λi u h=>?_,λi ts h=>?_,λi ts h=>?_,e.dis,e'.pn,e.pd,λi ts h=>?_,e.dd,e.dm,e.db,e'.tab.O7 λb w=>.inl w⟩,λi ts h z=>?_⟩
 ·rcases w with w|rfl
  ·exact e'.wl b w
  ·exact .inl ⟨xs,q⟩
 ·obtain⟨v,h1,h2⟩:=e.sh i u h
  exact⟨v,h1,mm h2⟩
 ·obtain⟨c,ys,h1,h2,h3,h4,h5⟩:=e.ow i ts h
  exact⟨c,ys,h1,.inl h2,h3,ls h4,h5.mono Ho⟩
 ·obtain⟨c,ys,h1,h2,h3,h4,h5⟩:=e.rf i ts h
  exact⟨c,ys,h1,.inl h2,h3,ls h4,h5.mono Ho⟩
 ·obtain⟨c,ys,h1,d⟩:=e.dp i ts h
  exact⟨c,ys,h1,d.move rfl rfl Ho (λb hb=>by obtain⟨_,_,_,ww,_⟩:=d; exact .inl (ww b hb).1) λb o hb q=>s.1 b o q λz=>d.nt e.tab.ok z hb⟩
 ·obtain⟨c,ys,h1,bs,_,_,ww,_⟩:=e.dp i ts h
  exact na a (ww a z).1 rfl
abbrev FP:=List Tr->Rs (Tr × Bool)
noncomputable def bA(K:FZ)(cl:Str->Addr)(n:Nat)(F:FP):Sp:=λvs H Q E=>∃Z ts,vs.length=n/\aL (aB K) (aA Z H) vs ts/\(∀b,Z b->Lt H b)/\d8 (aB K) H /\
 (F ts).post (λc=>∀H',ig (aB K) H H'->E (.ref (cl c)) none H') (λp=>∀v H',ig (aB K) H H'->xO (aB K) Z H H' v p.1 p.2->Q v H')
def bO(nl:Nat)(ts:List Tr):En:=ts.map Sl.sh++List.replicate (nl-ts.length) Sl.un
def bF(nl:Nat)(b:SF):FP:=λts=>(b (bO nl ts)).bind λq=>match q.1 with
 |.rt T fr=>.ok (T,fr)
 |.nx=>.ok (.non,false)
 |_=>.bad
theorem jG{nl:Nat}{ts:List Tr}{i:Nat}{s:Sl}(h:(bO nl ts)[i]?=some s):(∃u,ts[i]?=some u/\s=.sh u)\/s=.un:=by
 unfold bO at h
 by_cases l:i<ts.length
 ·rw[List.getElem?_append_left (by simpa using l),List.getElem?_map]at h
  rw[List.getElem?_eq_getElem l]at h ⊢
  cases h
  exact .inl ⟨_,rfl,rfl⟩
 ·rw[List.getElem?_append_right (by simpa using Nat.le_of_not_lt l)]at h
  rw[List.getElem?_replicate]at h
  split at h
  ·cases h; exact .inr rfl
  ·cases h
theorem Hq{N:List Str}{vs:List V}{i:Nat}{v:V}(h:vs[i]?=some v):(start N vs)[i]?=some (some v):=by
 unfold start
 have l:i<vs.length:=(List.getElem?_eq_some_iff.mp h).1
 rw[List.getElem?_append_left (by simpa using l),List.getElem?_map,h]
 rfl
section
variable {P:Program}{w:World}{K:FZ}{mg:Str->Option Value}{base:Heap}
theorem At.eG{k:Nat}{x:Str}{st:Stmt}{N ps:List Str}{cl:Str->Addr}{b:SF}(a:At K mg x st)(S:pG N ps (bx st))(hn:ps.length<=N.length)
  (hb:∀(kV doc pm:Value) (an:Option Addr) (cdv ct:Value) (us:List Value),us.length=ps.length->bindArgs (PySem.W.fnOf x x (mD st) (jg st) (bx st) .none kV doc pm an cdv ct) ⟨us,[]⟩=pure (ps.zip us))
  (hbody:∀(f:Addr) (cdv:Value) (A:Around) (outer:List Env) (s:Shared) (H:Hp) (E:XK),eV k (A.deeper (envOfC x (bx st) s.heap.objs.size f cdv)) ->
   ∃ts,jc (jC (jh P w) P w K mg base N x (bx st) f cdv A outer s H E) (jg st) ts/\∀t:Tx,t.K=aB K->(∀c H',F0 t H'->t.EX c->E (.ref (cl c)) none H')->SS t ts b) :
  aV P w K mg base (k+1) x ps (bA K cl ps.length (bF N.length b)):=by
 refine a.O1 S hb (λvs H Q E h=>?_) (λf cdv A outer s H vs Q E hr h=>?_)
 ·obtain⟨_,_,h,_⟩:=h; exact h
 obtain⟨Z,as,hl,r,zl,tb,h⟩:=h
 obtain⟨ts,h1,h2⟩:=hbody f cdv A outer s H E hr
 refine⟨ts,h1,?_⟩
 have sm:∀(b:Addr) (W:Addr->Prop) ρ σ H',aJ ⟨aB K,Z,Tb (aB K),H,λ_=>none,λc=>∀H',ig (aB K) H H'->E (.ref (cl c)) none H'⟩ W ρ σ H'->ig (aB K) H H':=λ_ W ρ σ H' e=>⟨λb o q n=>e.f0 b o q n,e.tab.ok⟩
 have r:=r.mW (Hj tb)
 refine h2 ⟨aB K,Z,Tb (aB K),H,λ_=>none,λc=>∀H',ig (aB K) H H'->E (.ref (cl c)) none H'⟩ rfl (λc H' f0 q=>q H' ⟨λb o z n=>f0.1 b o z n,f0.2⟩) (λb=>Z b\/Tb (aB K) b) (bO N.length as) (start N vs) H _ ?_ (Rs.aY (Rs.aN h) λq h=>?_)
 ·have la:=r.length
  have iD:∀(i:Nat) (us:List Tr),(bO N.length as)[i]?=some (.dp us)->False:=λi us q=>by
   rcases jG q with⟨u',q1,z⟩|z <;> cases z
  refine⟨λ_=>[],?_,λ_ z=>.inl z,λb z=>?_,λb z=>z.elim (zl b) (λz=>.inr (tb.cZ z)),λb o q _=>q,λb q=>q,λi u q=>?_,λi us q=>?_,λi us q=>?_,λi j c m1 m2=>?_,λb o z=>(by cases z),λ_ _ _ _=>rfl,λi us q=>(iD i us q).elim,λi _ us _ _ q=>(iD i us q).elim,λi _ us _ q=>(iD i us q).elim,λi us q=>(iD i us q).elim,⟨tb,λ_ z=>.inr z,λ_ z=>z,λ_ _=>rfl⟩⟩
  ·unfold bO start
   simp only[List.length_append,List.length_map,List.length_replicate]
   omega
  ·exact(zl b z).ne
  ·rcases jG q with⟨u',q1,z⟩|z
   ·cases z
    obtain⟨v,e1,e2⟩:=r.mL q1
    exact⟨v,Hq e1,e2⟩
   ·cases z
  ·rcases jG q with⟨u',q1,z⟩|z <;> cases z
  ·rcases jG q with⟨u',q1,z⟩|z <;> cases z
  ·obtain⟨us,q|q⟩:=m1 <;> rcases jG q with⟨u',q1,z⟩|z <;> cases z
 ·obtain⟨fl,ρ'⟩:=q
  cases fl with
  |nx=>exact λW' σ' H' e n=>h .non H' (sm 0 W' ρ' σ' H' e) .non
  |rt T fr =>
   refine λv W' σ' H' e n=>h v H' (sm 0 W' ρ' σ' H' e) ?_
   cases fr <;> exact n
  |bk=>exact h.elim
  |ct=>exact h.elim
end
section
variable {X:Cx}{k:Nat}{x:Str}{ps:List Str}{sp:Sp}{p pos:Pos}{e:Expr}{es:List Expr}{ta:TA}{E:XK}
theorem Za(D:aV X.prog X.w X.K X.mg X.base k x ps sp)(hr:eV k X.A)(hx:Passes (jh X.prog X.w) X E)(ha:PA X (e::es) ta)(hg:Gl X x:=by rfl)(hdb:(x == ("__debug__" : Str))=false:=by decide)
  (he:starEach (e::es) X.env=(false,eval e X.env)::starEach es X.env:=by rfl) (hpl:(backTo pos (starEach es X.env)).any (·.1)=false:=by rfl):PE X (.Call (.Name x p) (e::es) [] pos) (nC sp [] E ta):=by
 obtain⟨f,fd,h1,h2,h3,h4⟩:=D
 exact V7 h1 hr hg h4 h3 h2 .nil hx ha hdb he hpl
end
section
variable {t:Tx}{K:FZ}
def aZ:Rv->Bool
 |.s _=>true
 |_=>false
def mX(z:Tr × Bool):Bool:=vo z.1 || (z.2&&(match z.1 with
 |.lst us=>oE us
 |_=>false))
theorem xO.Zb{W W0:Addr->Prop}{ρ : En}{σ : St}{H H':Hp}{v:V}{z:Tr × Bool}{Z:Addr->Prop}(wn:∀b,W b->H b≠none)(wl:∀b,W b->Lt H' b)(zs:(∀b,W b->Z b)\/mX z=true)(h:xO t.K Z H H' v z.1 z.2)
  (ex:z.2=true->∀a xs,H a=none->H' a=some (.lst xs)->nJ t W a ρ σ H'):gY t W ρ σ H H' v (.v z.1 z.2):=by
 obtain⟨T,fr⟩:=z
 cases fr with
 |false =>
  refine .low ?_
  rcases zs with zs|zs
  ·exact Rep.mono (mJ (λb _ _ z=>zs b z) λ_ _ _ h=>h) h
  ·unfold mX at zs
   simp only[Bool.false_and,Bool.or_false]at zs
   exact Rep.flat (Y7 wl) h zs
 |true =>
  obtain⟨a,xs,ts,rfl,e1,n,q,r⟩:=h
  have e1:T=.lst ts:=e1
  subst e1
  refine⟨⟨a,xs,ts,rfl,rfl,n,q,?_⟩,λU b z eb=>?_⟩
  ·rcases zs with zs|zs
   ·refine r.mono λb o q=>?_
    obtain⟨ne,q⟩:=sX q
    rw[off_ne ne]
    exact mJ (λb _ _ z=>zs b z) (λ_ _ _ h=>h) b o q
   ·unfold mX at zs
    have zs:oE ts=true:=by
     rw[Bool.or_eq_true]at zs
     rcases zs with zs|zs
     ·unfold vo at zs; cases zs
     ·exact zs
    exact r.flat (Y8 wl q _ λb o h=>gO _ _ b o (Ao _ _ b o h)) zs
  ·cases eb
   exact ex rfl a xs n q
theorem iz.length{W:Addr->Prop}{σ : St}{H H':Hp}:∀{vs:List V} {rs:List Rv},iz K W σ H H' vs rs->vs.length=rs.length
 |_,_,.nil=>rfl
 |_,_,.cons _ r=>by rw[List.length_cons,List.length_cons,iz.length r]
theorem post_eq{α : Type}{r:Rs α}{a : α}{EX:Str->Prop}{P : α -> Prop}(h:r=.ok a)(q:P a):r.post EX P:=by
 rw[h]
 exact q
def aX(F:FP)(fa:AF):EF:=λρ=>(fa ρ).bind λp=>(drs p.2 p.1).bind λas=>(F as).bind λz=>if p.1.any aZ=true/\mX z=false then .bad else .ok (.v z.1 z.2,p.2)
theorem Bl{W:Addr->Prop}{σ : St}{ρ : En}{H H':Hp}(wn:∀b,W b->H b≠none):∀{vs:List V} {rs:List Rv} {as:List Tr},iz t.K W σ H H' vs rs->drs ρ rs=.ok as->rs.any aZ=false->aL t.K (aA W H') vs as
 |_,_,_,.nil,q,_=>by cases q; exact .nil
 |_,.v T fr::_,_,.cons h r,q,n=>by
  unfold drs at q
  obtain⟨a,q1,q⟩:=gG q
  obtain⟨as,q2,q⟩:=gG q
  cases q
  cases q1
  exact .cons (h.rep wn) (Bl wn r q2 (by simpa[List.any_cons,aZ]using n))
 |_,.s i::_,_,.cons h r,q,n=>by simp[aZ]at n
theorem qY.reps{W:Addr->Prop}{H:Hp}:∀{vs:List V} {as:List Tr},qY K W H vs as->aL K (aA (λ_=>False) H) vs as
 |_,_,.nil=>.nil
 |_,_,.cons h r=>.cons (h.rep.mono λb o q=>by rw[cC id]; exact q) (qY.reps r)
theorem PL(hK:t.K=aB K){cl:Str->Addr}{n:Nat}{F:FP}{E:XK}{ta:TA}{fa:AF}(hx:∀c H',F0 t H'->t.EX c->E (.ref (cl c)) none H')(hn:∀ρ p,fa ρ=.ok p->p.1.length=n)(ha:SA t ta fa):SE t (nC (bA K cl n F) [] E ta) (aX F fa):=λW ρ σ H Q e h=>by
 have h:=Rs.aN h
 cases ek:fa ρ with
 |bad=>rw[ek]at h; exact h.elim
 |ex c=>exact ha W ρ σ H _ e (by rw[ek]at h ⊢; exact h)
 |ok p =>
 have hl:=hn ρ p ek
 rw[ek]at h
 refine ha W ρ σ H _ e (post_eq ek ?_)
 intro vs H1 e1 s1 v1
 have h:((drs p.2 p.1).bind _).post _ _:=h
 obtain⟨as,k1,h⟩:=cV (Rs.aN h) (u9 _ _)
 have r:=Aw e1 e.wn v1 k1
 have lv:vs.length=n:=v1.length.trans hl
 have fin:∀Z:Addr->Prop,(∀b,Z b->W b)->(∀z,F as=.ok z->¬(p.1.any aZ=true/\mX z=false)->(∀b,W b->Z b)\/mX z=true)->aL (aB K) (aA Z H1) vs as->bA K cl n F (vs++[]) H1 Q E:=λZ zw zs rr=>by
  rw[List.append_nil]
  refine⟨Z,as,lv,rr,λb z=>e1.wl b (zw b z),by rw[<-hK]; exact e1.tab.ok,?_⟩
  have h:=Rs.aN h
  cases ef:F as with
  |bad=>rw[ef]at h; exact h.elim
  |ex c =>
   rw[ef]at h
   exact λH' sm=>hx c H' ⟨λb o q nr=>sm.1 b o (e1.f0 b o q nr) λz=>nr (e1.tab.r b (by rw[hK]; exact z)),by rw[hK]; exact sm.2⟩ h
  |ok z =>
   rw[ef]at h
   have h:(if p.1.any aZ=true/\mX z=false then Rs.bad else .ok (.v z.1 z.2,p.2):Rs (Rv × En)).post _ _:=h
   split at h
   ·exact h.elim
   ·rename_i c
    intro v H' sm vr
    rw[<-hK]at vr sm
    obtain⟨eg,sg⟩:=e1.Hl sm
    refine h v H' eg (s1.trans sg) (gY.back (H:=H1) ?_ s1.dom)
    exact xO.Zb (W0:=W) e1.wn eg.wl (zs z ef c) vr λ_ a xs na qa=>e1.Y9 sm na qa
 by_cases an:p.1.any aZ=true
 ·refine fin (λ_=>False) (λ_ z=>z.elim) (λz ez c=>.inr ?_) ?_
  ·cases fz:mX z with
   |true=>rfl
   |false=>exact(c ⟨an,fz⟩).elim
  ·rw[<-hK]
   exact r.reps
 ·refine fin W (λ_ z=>z) (λz ez c=>.inl λ_ z=>z) ?_
  rw[<-hK]
  exact Bl e.wn v1 k1 (by simpa using an)
end
end L2
end
section
namespace L2
open PySem PySem.Spec PyProof.Rows
abbrev FR:=List Tr->Rs ((Tr × Bool) × List Tr)
def bW{α : Type}:Rs α -> Rs α
 |.bad=>.bad
 |.ex _=>.bad
 |.ok a=>.ok a
theorem xP{α : Type}{r:Rs α}{EX:Str->Prop}{P : α -> Prop}(h:(bW r).post EX P):r.post (λ_=>False) P:=by
 cases r <;> exact h
theorem Hr{α : Type}(r:Rs α)(c:Str):bW r ≠ .ex c:=by
 cases r <;> (intro z; cases z)
theorem Zc{α β : Type}{r:Rs α}{f : α -> Rs β}(h1:∀c,r ≠ .ex c)(h2:∀a c,f a ≠ .ex c)(c:Str):r.bind f ≠ .ex c:=by
 cases r with
 |bad=>intro z; cases z
 |ex d=>exact(h1 d rfl).elim
 |ok a=>exact h2 a c
section
variable {P:Program}{w:World}{K:FZ}{mg:Str->Option Value}{base:Heap}
end
section
variable {t:Tx}{K:FZ}
def others(r i:Nat)(rs:List Rv):Bool:=(rs.eraseIdx r).all λx=>match x with
 |.s j=>j != i
 |_=>true
noncomputable def Zd(r:Nat)(F:FR)(fa:AF):EF:=λρ=>(fa ρ).bind λp=>match p.1[r]? with
 |some (.s i)=>if others r i p.1=true then((con p.2 i).bind λ_=>(drs p.2 p.1).bind λas=>(F as).bind λz=>if((p.1.eraseIdx r).any aZ=true/\mX z.1=false)\/(((p.1.eraseIdx r).any aZ=true\/z.1.2=true)/\oE z.2=false)then .bad else .ok (.v z.1.1 z.1.2,cN i z.2 p.2))else .bad
 |_=>.bad
end
end L2
end
section
namespace L2
open PySem PySem.Spec PyProof.Rows
section
variable {prog:Program}{w:World}{A:Around}{R:Result->Shared->Prop}{s:Shared}
theorem Ze{elt target iter c:Expr}{scope:Scope}{pos:Pos}{it acc:Value}{env:Env}(I:Nat->Shared->Prop)
  (turn:∀n s,I n s->wpAny (model prog w) A (pyNext it) (λr s₁=>match r with
   |none=>R (.ok .next) s₁
   | some v=>wpAny (model prog w) A (letOwnedTupleGo target it v) (λ_ s₁'=>wpAny (model prog w) A (assign target env v) (λ_ s₂ => wpAny (model prog w) A (isTrue c env (eval c env)) (λb s₂'=>if b=true then wpAny (model prog w) A (eval elt env) (λx s₃ =>
     wpAny (model prog w) A (call (.builtin "list.append") [acc,x]) (λ_ s₄=>∃m,m<n/\I m s₄) (λ_ _=>False) s₃) (λ_ _=>False) s₂' else ∃m,m<n/\I m s₂') (λ_ _=>False) s₂) (λ_ _=>False) s₁') (λ_ _=>False) s₁) (λ_ _=>False) s)
  (n:Nat) (h:I n s) :
  codeAny (model prog w) A (.compLoop (.ListComp elt [⟨target,iter,[c],0⟩] scope pos) 0 it acc env) R s:=by
 refine codeAny_loop rfl I (λn s hI=>?_) n h
 show wpAny _ _ ((compTurn (.ListComp elt [⟨target,iter,[c],0⟩] scope pos) 0 it acc env).onRaise (λx=>do noteFrame x env; theTreesLotGoes x)) _ _ s
 refine wpAny_noted (wpAny_noRaise ?_)
 rw[compTurn_list]
 refine wpAny_bind (wpAny_standAt (wpAny_bind (wpAny_mono (turn n s hI) (λr s₁ h₁=>?_) λ_ _ h'=>h')))
 cases r with
 |none=>exact wpAny_pure h₁
 |some v =>
  refine wpAny_bind (wpAny_mono h₁ (λ_ s₁' h₁'=>?_) λ_ _ h'=>h')
  refine wpAny_bind (wpAny_mono h₁' (λ_ s₂ h₂=>wpAny_bind (wpAny_tests_one (wpAny_mono h₂ (λok s₃ h₃=>?_) λ_ _ h'=>h'))) λ_ _ h'=>h')
  cases ok with
  |false=>exact wpAny_pure ⟨rfl,h₃⟩
  |true =>
   exact wpAny_bind (wpAny_bind (wpAny_mono h₃ (λx s₄ h₄=>wpAny_bind (wpAny_mono h₄ (λ_ s₅ h₅=>wpAny_pure (wpAny_pure ⟨rfl,h₅⟩)) λ_ _ h'=>h')) λ_ _ h'=>h'))
end
noncomputable def pW(wi:TI)(g:TG)(src:List (Option Nat))(tc:TT)(te:TE):TE:=λσ H Q=>wi σ H λJ H1=>∀D,H1 D=none ->
 ∃W:Nat->Nat->St->Hp->Prop,(∃m,W 0 m (dJ src σ) (upd H1 D (.lst [])))/\∀i m σ' H',W i m σ' H' ->
  (J.stop i H'/\Oj Q D H')\/(J.go i H'/\∀x dM,J.lY i H' x dM->g x σ' dM λσ2 H2=>tc σ2 H2 λb PN=>if b=true then te σ2 PN λv H3=>∃xs,H3 D=some (.lst xs)/\xs.length<sizeLine/\∃m',m'<m/\W (i+1) m' σ2 (upd H3 D (.lst (xs++[v])))else ∃m',m'<m/\W (i+1) m' σ2 PN)
section
variable {X:Cx}{elt tg iter pX:Expr}{scope sc:Scope}{pos:Pos}{No N:List Str}{src:List (Option Nat)}{wi:TI}{g:TG}{te:TE}{tc:TT}
theorem PX{pins:List (Addr × Obj)}{σ : St}{H:Hp}{s:Shared}{Q:VK}{RR:Value->Addr->Result->Shared->Prop}(hsc:X.env.scope=sc)(iy:X.N=No)(S:qP sc No N src scope)(hc:X.calm=true)
  (hi:PI X tg iter wi) (hg:∀C s H ex,PG (eO X N scope C s H ex) tg g) (hq:∀C s H ex,PT (eO X N scope C s H ex) pX tc) (he:∀C s H ex,PE (eO X N scope C s H ex) elt te) (I:Inv X pins σ H s) (h:pW wi g src tc te σ H Q)
  (hRR:∀D C H' s' m,Inv X pins σ H' s'->H' C=none->C≠X.env.locals->X.s₀.heap.objs.size<=C->(∀x c,X.env.cells.lookup x=some c->c≠C)->(∀p∈X.pn++pins,p.1≠C)->s'.heap.Ns C m->Q (.ref D) H'->RR (.ref D) C (.ok .next) s') :
  wpAny (model X.prog X.w) X.A (eval iter X.env) (λx s₁=>wpAny (model X.prog X.w) X.A (pyIter x) (λit s₂=>wpAny (model X.prog X.w) X.A (newList []) (λacc s₃ =>
   wpAny (model X.prog X.w) X.A (newFunctionEnv scope X.env.globals (dg X.env.cells scope.names []) [] X.env.qual none .none (some X.env)) (λcenv s₄ =>
    codeAny (model X.prog X.w) X.A (.compStart (.ListComp elt [⟨tg,iter,[pX],0⟩] scope pos) 0 it acc {cenv with scope:=relabel scope X.env }) (RR acc cenv.locals) s₄) X.xe s₃) X.xe s₂) X.xe s₁) X.xe s:=by
 refine bh (hi pins s σ H _ I h) λv s1 h1=>bh h1 λitv s2 h2=>?_
 obtain⟨it,fp,tn,J,H2,e,I2,T,st2,f2,hW⟩:=h2
 subst e
 have Ft:H2 s2.heap.objs.size=none:=I2.hok.fresh (Nat.le_refl _)
 obtain⟨W,⟨m0,w0⟩,turn⟩:=hW s2.heap.objs.size Ft
 have wM:∀b∈fp,b<s2.heap.objs.size:=λb hb=>by
  obtain⟨o,e,_⟩:=T.obj 0 _ st2 b hb
  exact Heap.lt_size e
 refine wpAny_newObj_type ?_
 have I3:Inv X pins σ (upd H2 s2.heap.objs.size (.lst [])) {s2 with heap:=s2.heap.push {cls:=.type "list",dict:=none,data:=.seq ([]:List Value).toArray } }:=I2.zZ (t':=s2.toks) (ys:=[]) .nil (Nat.zero_le _)
 have f3:∀b∈fp,dN X pins (upd H2 s2.heap.objs.size (.lst [])) b:=λb hb=>by
  obtain⟨q,r⟩:=f2 b hb
  exact⟨by rw[aO (Nat.ne_of_lt (wM b hb))]; exact q,r⟩
 have st3:tn 0 (s2.heap.push {cls:=.type "list",dict:=none,data:=.seq ([]:List Value).toArray }):=T.keep _ _ _ st2 λb hb o e=>Heap.get?_push_of_some _ e
 have sS:∀b∈fp,b<(s2.heap.push {cls:=.type "list",dict:=none,data:=.seq ([]:List Value).toArray }).objs.size:=λb hb=>by
  rw[Heap.size_push]; exact Nat.lt_succ_of_lt (wM b hb)
 generalize hD:s2.heap.objs.size=D at *
 generalize hh3:s2.heap.push {cls:=.type "list",dict:=none,data:=.seq ([]:List Value).toArray }=h3 at *
 generalize Fv:upd H2 D (.lst [])=H3 at *
 refine Oi λh₁ hns old ck=>?_
 dsimp only at hns old ck ⊢
 have I4:Inv (eO X N scope h3.objs.size {s2 with heap:=h3 } H3 fp) [] (dJ src σ) H3 {s2 with heap:=h₁,toks:=s2.toks+([]:List (Str × Value)).length }:=Ol (s:={s2 with heap:=h3 }) hsc iy S I3 f3 sS hns old ck
 have wN:tn 0 h₁ := T.keep _ _ _ st3 λb hb o e=>old b o e
 have loop:codeAny (model X.prog X.w) X.A (.compLoop (.ListComp elt [⟨tg,iter,[pX],0⟩] scope pos) 0 (.ref it) (.ref D) (compEnvC scope (cellsFrom (h3.objs.size+1) scope.names (dg X.env.cells scope.names [])) h3.objs.size X.env)) (RR (.ref D) h3.objs.size) {s2 with heap:=h₁,toks:=s2.toks+([]:List (Str × Value)).length }:=by
  have stat:∀{H':Hp},(∀b∈fp,H' b=none)->∀b∈fp,dN (eO X N scope h3.objs.size {s2 with heap:=h3 } H3 fp) [] H' b:=λhn b hb=>by
   obtain⟨g0,g1,g2,g3,g4,g5⟩:=f3 b hb
   refine⟨hn b hb,Nat.ne_of_lt (sS b hb),λz=>?_,.inl hb,λx c e=>?_,λp hp=>absurd (show p∈([]:List (Addr × Obj))from hp) (by simp)⟩
   ·rcases List.mem_cons.mp (I3.wF b z)with z|z
    ·exact g1 z
    ·exact g2 z
   ·have e:(cellsFrom (h3.objs.size+1) scope.names (dg X.env.cells scope.names [])).lookup x=some c:=e
    rw[pJ,uV]at e
    split at e
    ·rename_i z
     cases e
     exact λy=>absurd (Nat.le_trans (ck.empty x c (PySem.mem_of_lookup z)).2 (y▸Nat.le_of_lt (sS b hb))) (Nat.not_succ_le_self _)
    ·rcases qO e with q|q
     ·simp at q
     ·exact g4 x c q
  refine Ze (λn s'=>∃i σ' H',Inv (eO X N scope h3.objs.size {s2 with heap:=h3 } H3 fp) [] σ' H' s'/\tn i s'.heap/\(∀b∈fp,H' b=none)/\W i n σ' H') ?_ m0 ⟨0,dJ src σ,H3,I4,wN,λb hb=>(f3 b hb).1,w0⟩
  rintro n s5 ⟨i,σ5,H5,I5,gD,sH,w5⟩
  rcases turn i n σ5 H5 w5 with⟨stop,qn⟩|⟨go,step⟩
  ·refine bh (T.done (eO X N scope h3.objs.size {s2 with heap:=h3 } H3 fp) rfl rfl rfl hc i [] s5 σ5 H5 (λ_ _=>False) I5 (stat sH) gD stop) λr s6 ⟨hr,I6⟩=>?_
   subst hr
   obtain⟨mC,hnC,_⟩:=id I6.loc
   have I7:Inv X pins σ H5 s6:=I3.call' (ch:=fp) I6.os I6.base I6.hok I6.bare λb hb=>by
    obtain⟨g0,g1,g2,g3,g4,g5⟩:=f3 b hb
    exact⟨g3,g1,g4,g5⟩
   refine hRR D h3.objs.size H5 s6 mC I7 I6.free (Nat.ne_of_gt I3.lt) I3.sz (λx c e z=>?_) (λp hp z=>?_) hnC qn
   ·obtain⟨v,q⟩:=I3.cell x c e
    exact absurd q.lt (by rw[z]; exact Nat.lt_irrefl _)
   ·exact absurd (Heap.lt_size (I3.pin p hp).1) (by rw[z]; exact Nat.lt_irrefl _)
  ·refine bh (T.item (eO X N scope h3.objs.size {s2 with heap:=h3 } H3 fp) rfl rfl rfl hc i [] s5 σ5 H5 (λ_ _=>False) I5 (stat sH) gD go) λr s6 ⟨u,hr,h6⟩=>?_
   subst hr
   refine bh h6 λ_ s7 ⟨x,H7,I7,r7,y7,pK,Fw⟩=>?_
   have Fx:=I7.pinned (stat Fw) (T.obj _ _ pK)
   refine bh (hg _ _ _ _ _ s7 σ5 H7 x u _ Fx r7 (step x H7 y7)) λ_ s8 ⟨σ8,H8,I8,q8⟩=>?_
   refine bh (hq _ _ _ _ _ s8 σ8 H8 _ I8 q8) λbb Zf ⟨P0,Bm,Bo⟩=>?_
   cases bb with
   |false =>
    rw[if_neg (by decide)]at Bo ⊢
    obtain⟨m',hm,w9⟩:=Bo
    refine⟨m',hm,i+1,σ8,P0,Bm.uM (pins:=[]),T.keep _ _ _ pK λb hb o e=>(Bm.pin (b,o) (List.mem_append_right _ (List.mem_append_right _ (qI hb e)))).1,λb hb=>?_,w9⟩
    obtain⟨o,e,d⟩:=T.obj _ _ pK b hb
    exact(Bm.pin (b,o) (List.mem_append_right _ (List.mem_append_right _ (qI hb e)))).2.1
   |true =>
   rw[if_pos rfl]at Bo ⊢
   refine bh (he _ _ _ _ _ Zf σ8 P0 _ Bm Bo) λyv s9 ⟨y,H9,I9,r9,q9⟩=>?_
   obtain⟨xs,e9,l9,m',hm,w9⟩:=q9
   refine bh (pI (X:=eO X N scope h3.objs.size {s2 with heap:=h3 } H3 fp) _ s9 σ8 H9 (.ref D) [y] (.ref D) [yv] (λ_ H'=>W (i+1) m' σ8 H') I9 rfl (.cons r9 .nil) ⟨D,xs,y,rfl,rfl,e9,l9,w9⟩) λ_ gW ⟨_,Fy,sU,_,Fz⟩=>?_
   refine⟨m',hm,i+1,σ8,Fy,sU.uM (pins:=[]),T.keep _ _ _ pK λb hb o e=>(sU.pin (b,o) (List.mem_append_right _ (List.mem_append_right _ (qI hb e)))).1,λb hb=>?_,Fz⟩
   obtain⟨o,e,d⟩:=T.obj _ _ pK b hb
   exact(sU.pin (b,o) (List.mem_append_right _ (List.mem_append_right _ (qI hb e)))).2.1
 exact codeAny_compStart_list loop (T.self _ _ _ _ _ wN loop)
theorem Qa(hsc:X.env.scope=sc)(iy:X.N=No)(S:qP sc No N src scope)(hc:X.calm=true)
  (hi:PI X tg iter wi) (hg:∀C s H ex,PG (eO X N scope C s H ex) tg g) (hq:∀C s H ex,PT (eO X N scope C s H ex) pX tc) (he:∀C s H ex,PE (eO X N scope C s H ex) elt te)
  (hs:∀x,foldedSetIterable iter X.env x=pure x:=by intro _; rfl):PE X (.ListComp elt [⟨tg,iter,[pX],0⟩] scope pos) (pW wi g src tc te):=by
 refine⟨λpins s σ H Q I h=>?_⟩
 rw[eval_ListComp]
 have hcl:closureFor scope X.env=pure (dg X.env.cells scope.names []):=wL λy hy e=>by
  have k:=S.free y hy e
  rw[<-hsc]at k
  obtain⟨c,q⟩:=I.ok.has y.1 k
  rw[q]; rfl
 refine wpAny_comprehension_free (use:=none) rfl hs hcl S.kind S.names (PX (RR:=λacc C=>compPost (model X.prog X.w) X.A X.xe none (EP X pins σ Q) acc C) hsc iy S hc hi hg hq he I h ?_)
 intro D C H' s' m I' n1 n2 n3 n4 n5 hn q
 refine⟨m,hn,λh' hs'=>⟨.ref D,H',?_,rfl,q⟩⟩
 exact I'.turned (t':=s'.toks) (λb o hb e=>(hs'.2 b hb).trans e) n1 (Ne.symm (Ne.symm n2)) (.inr n3) n4 n5
theorem Zg{i:Nat}{y:Str}{py spos:Pos}(hN:X.N.Nodup)(FN:X.N[i]?=some y)(hy:Loc X.env.scope y)(hsc:X.env.scope=sc)(iy:X.N=No)(S:qP sc No N src scope)(hc:X.calm=true)
  (hi:PI X tg iter wi) (hg:∀C s H ex,PG (eO X N scope C s H ex) tg g) (hq:∀C s H ex,PT (eO X N scope C s H ex) pX tc) (he:∀C s H ex,PE (eO X N scope C s H ex) elt te)
  (hsw:swapsWith (.ListComp elt [⟨tg,iter,[pX],0⟩] scope pos) (some (.Name y py)) spos.line X.env=pure true:=by rfl) (hs:∀x,foldedSetIterable iter X.env x=pure x:=by intro _; rfl)
  (hf:X.fn y=true\/X.env.scope.names.lookup y=some .local:=by first|exact .inl rfl|exact .inr rfl|assumption) :
  PS X (.Assign [.Name y py] (.ListComp elt [⟨tg,iter,[pX],0⟩] scope pos) spos) (jA (pW wi g src tc te) (cU i)):=by
 refine⟨λpins s σ H D I h=>?_⟩
 rw[exec_Assign_Name_used _ _ _ _ hsw]
 have hcl:closureFor scope X.env=pure (dg X.env.cells scope.names []):=wL λy hy e=>by
  have k:=S.free y hy e
  rw[<-hsc]at k
  obtain⟨c,q⟩:=I.ok.has y.1 k
  rw[q]; rfl
 refine wpAny_bind (wpAny_standAt (wpAny_bind ?_))
 show wpAny _ X.A (do let _ <-comprehension (.ListComp elt [⟨tg,iter,[pX],0⟩] scope pos) scope X.env _ (newList []) false (eval iter X.env) (some (assign (.Name y py) X.env))) _ _ s
 refine wpAny_bind (wpAny_mono (wpAny_comprehension_free (use:=some (assign (.Name y py) X.env)) (Q:=λ_ s'=>SP X pins D .next s') rfl hs hcl S.kind S.names
  (PX (Q:=λv H'=>D.nx (σ.set i (some v)) H') (RR:=λacc C=>compPost (model X.prog X.w) X.A X.xe (some (assign (.Name y py) X.env)) (λ_ s'=>SP X pins D .next s') acc C) hsc iy S hc hi hg hq he I h ?_)) (λ_ s' hq=>wpAny_pure (wpAny_pure hq)) λ_ _ e=>e)
 intro Da C H' s' m I' n1 n2 n3 n4 n5 hn q
 show wpAny _ X.A (assign (.Name y py) X.env (.ref Da)) _ _ _
 refine wpAny_assign_Name (Ec I' hN FN hy (v:=.ref Da) rfl (λs2 I2 hsame=>?_) hf)
 obtain⟨a,hsb,ha⟩:=hsame
 have FQ:C≠a:=by
  rcases ha with z|z
  ·rw[z]; exact n2
  ·exact λe=>n4 y a z e.symm
 refine⟨m,hn.sameBut hsb FQ,λh' hs'=>⟨σ.set i (some (.ref Da)),H',?_,q⟩⟩
 exact I2.turned (t':=s2.toks) (λb o hb e=>(hs'.2 b hb).trans e) n1 n2 (.inr n3) n4 n5
end
end L2
end
section
namespace L2
open PySem PySem.Spec PyProof.Rows
def iV:Sl->Sl
 |.dp _=>.un
 |s=>s
def dU(src:List (Option Nat))(ρ : En):En:=src.map λo=>match o with
 |some j=>iV ((ρ[j]?).getD .un)
 |none=>.un
def bT:List (Option Nat)->En->En->En
 |some j::src,.ow ts::ρi,ρ=>bT src ρi (cN j ts ρ)
 |some j::src,.rf ts::ρi,ρ=>bT src ρi (cN j ts ρ)
 |_::src,_::ρi,ρ=>bT src ρi ρ
 |_,_,ρ=>ρ
def j7:Option Sl->Bool
 |some (.ow _)=>true
 |some (.rf _)=>true
 |_=>false
def dW:List (Option Nat)->En->En->Bool
 |some j::src,s::ρi,ρ=>(!j7 ρ[j]? || j7 (some s))&&dW src ρi ρ
 |none::src,_::ρi,ρ=>dW src ρi ρ
 | [],_,_=>true
 |_,[],_=>false
theorem Qc{ρ : En}{i:Nat}:j7 ρ[i]?=true↔Mu ρ i:=by
 constructor
 ·intro h
  unfold j7 at h
  split at h <;> rename_i q
  ·exact⟨_,.inl q⟩
  ·exact⟨_,.inr q⟩
  ·cases h
 ·rintro⟨ts,h|h⟩ <;> rw[h] <;> rfl
theorem Bp:∀{src:List (Option Nat)} {ρi ρ : En} {k j:Nat},dW src ρi ρ = true->src[k]?=some (some j)->Mu ρ j->Mu ρi k
 | [],_,_,_,_,_,h,_=>by simp at h
 |some j'::src,s::ρi,ρ,k,j,h,hk,m=>by
  unfold dW at h
  rw[Bool.and_eq_true]at h
  cases k with
  |zero =>
   simp at hk
   subst hk
   have h1:=h.1
   rw[Qc.mpr m]at h1
   have h1:j7 (some s)=true:=by simpa using h1
   cases s with
   |un=>cases h1
   |sh _=>cases h1
   |dp _=>cases h1
   |ow ts=>exact⟨ts,.inl rfl⟩
   |rf ts=>exact⟨ts,.inr rfl⟩
  |succ k =>
   obtain⟨ts,q⟩:=Bp (k:=k) h.2 (by simpa using hk) m
   exact⟨ts,by simpa using q⟩
 |none::src,s::ρi,ρ,k,j,h,hk,m=>by
  unfold dW at h
  cases k with
  |zero=>simp at hk
  |succ k =>
   obtain⟨ts,q⟩:=Bp (k:=k) h (by simpa using hk) m
   exact⟨ts,by simpa using q⟩
 |some j'::src,[],ρ,k,j,h,hk,m=>by unfold dW at h; cases h
 |none::src,[],ρ,k,j,h,hk,m=>by unfold dW at h; cases h
def Inj(src:List (Option Nat)):Prop:=∀(k k' j:Nat),src[k]?=some (some j)->src[k']?=some (some j)->k=k'
theorem mY{src:List (Option Nat)}(h:(src.filterMap id).Nodup):Inj src:=by
 induction src with
 |nil=>intro k k' j h1; simp at h1
 |cons o src ih =>
  have tail:Inj src:=by
   cases o with
   |none=>exact ih (by simpa using h)
   |some j=>exact ih (by simpa using(List.nodup_cons.mp (by simpa using h)).2)
  intro k k' j h1 h2
  have no:∀{m:Nat},o=some j->src[m]?=some (some j)->False:=λ{m} e q=>by
   subst e
   have n:=(List.nodup_cons.mp (show(j::src.filterMap id).Nodup by simpa using h)).1
   exact n (List.mem_filterMap.mpr ⟨some j,List.mem_of_getElem? q,rfl⟩)
  cases k with
  |zero =>
   have e1:o=some j:=by simpa using h1
   cases k' with
   |zero=>rfl
   |succ k'=>exact(no e1 (by simpa using h2)).elim
  |succ k =>
   cases k' with
   |zero=>exact(no (by simpa using h2) (by simpa using h1)).elim
   |succ k'=>rw[tail k k' j (by simpa using h1) (by simpa using h2)]
theorem Qd{ρ : En}{i j:Nat}{ts:List Tr}(h:j≠i):(cN i ts ρ)[j]?=ρ[j]? := by
 unfold cN
 split
 ·exact List.getElem?_set_ne (Ne.symm h)
 ·exact List.getElem?_set_ne (Ne.symm h)
 ·rfl
theorem Zh{ρ ρ':En}{i:Nat}{ts:List Tr}(h : ρ[i]?=ρ'[i]?):(cN i ts ρ)[i]?=(cN i ts ρ')[i]? := by
 unfold cN
 rw[h]
 cases q : ρ'[i]? with
 |none=>dsimp only; rw[h,q]
 |some s =>
  have l':i < ρ'.length:=(List.getElem?_eq_some_iff.mp q).1
  have l:i < ρ.length:=(List.getElem?_eq_some_iff.mp (h.trans q)).1
  cases s with
  |un=>dsimp only; rw[h,q]
  |sh _=>dsimp only; rw[h,q]
  |dp _=>dsimp only; rw[h,q]
  |ow _=>dsimp only; rw[tE l,tE l']
  |rf _=>dsimp only; rw[tE l,tE l']
theorem rE:∀(src:List (Option Nat)) (ρi ρ : En),(bT src ρi ρ).length = ρ.length
 | [],ρi,ρ=>by unfold bT; rfl
 |o::src,[],ρ=>by cases o <;> (unfold bT; rfl)
 |none::src,s::ρi,ρ=>by unfold bT; exact rE src ρi ρ
 |some j::src,.un::ρi,ρ=>by unfold bT; exact rE src ρi ρ
 |some j::src,.sh _::ρi,ρ=>by unfold bT; exact rE src ρi ρ
 |some j::src,.dp _::ρi,ρ=>by unfold bT; exact rE src ρi ρ
 |some j::src,.ow ts::ρi,ρ=>by unfold bT; rw[rE src ρi,Hg]
 |some j::src,.rf ts::ρi,ρ=>by unfold bT; rw[rE src ρi,Hg]
theorem lK:∀{src:List (Option Nat)} {ρi ρ : En} {j:Nat} {s:Sl},Inj src->(bT src ρi ρ)[j]?=some s ->
  (∃(k:Nat) (ts:List Tr),src[k]?=some (some j)/\(ρi[k]?=some (.ow ts)\/ρi[k]?=some (.rf ts))/\(cN j ts ρ)[j]?=some s)\/((∀k:Nat,src[k]?=some (some j)->¬Mu ρi k)/\ρ[j]?=some s)
 | [],ρi,ρ,j,s,_,h=>by
  unfold bT at h
  exact .inr ⟨λk q=>by simp at q,h⟩
 |o::src,[],ρ,j,s,_,h=>by
  have h : ρ[j]?=some s:=by cases o <;> (unfold bT at h; exact h)
  refine .inr ⟨λk _ m=>?_,h⟩
  obtain⟨_,q|q⟩:=m <;> simp at q
 |o::src,x::ρi,ρ,j,s,I,h=>by
  have It:Inj src:=λk k' j h1 h2=>by
   have:=I (k+1) (k'+1) j (by simpa using h1) (by simpa using h2)
   omega
  have keep:(o=none\/j7 (some x)=false)->(bT src ρi ρ)[j]?=some s->(∃(k:Nat) (ts:List Tr),(o::src)[k]?=some (some j)/\((x::ρi)[k]?=some (.ow ts)\/(x::ρi)[k]?=some (.rf ts))/\(cN j ts ρ)[j]?=some s)\/((∀k:Nat,(o::src)[k]?=some (some j)->¬Mu (x::ρi) k)/\ρ[j]?=some s):=λc h=>by
   rcases lK It h with⟨k,ts,q1,q2,q3⟩|⟨n,q⟩
   ·exact .inl ⟨k+1,ts,by simpa using q1,by simpa using q2,q3⟩
   ·refine .inr ⟨λk qk m=>?_,q⟩
    cases k with
    |zero =>
     rcases c with c|c
     ·subst c; simp at qk
     ·rw[<-Qc]at m
      have m:j7 (some x)=true:=m
      rw[c]at m
      cases m
    |succ k =>
     obtain⟨ts,m⟩:=m
     exact n k (by simpa using qk) ⟨ts,by simpa using m⟩
  have put:∀(i:Nat) (ts:List Tr),o=some i->(x=.ow ts\/x=.rf ts)->(bT src ρi (cN i ts ρ))[j]?=some s->(∃(k:Nat) (ts:List Tr),(o::src)[k]?=some (some j)/\((x::ρi)[k]?=some (.ow ts)\/(x::ρi)[k]?=some (.rf ts))/\(cN j ts ρ)[j]?=some s)\/((∀k:Nat,(o::src)[k]?=some (some j)->¬Mu (x::ρi) k)/\ρ[j]?=some s):=λi ts eo ex h=>by
   rcases lK It h with⟨k,us,q1,q2,q3⟩|⟨n,q⟩
   ·have ne:j≠i:=λz=>by
     subst z
     have:=I 0 (k+1) j (by simpa using eo) (by simpa using q1)
     omega
    refine .inl ⟨k+1,us,by simpa using q1,by simpa using q2,?_⟩
    rw[<-Zh (Qd ne)]
    exact q3
   ·by_cases e:j=i
    ·subst e
     refine .inl ⟨0,ts,by simpa using eo,?_,q⟩
     rcases ex with rfl|rfl
     ·exact .inl rfl
     ·exact .inr rfl
    ·rw[Qd e]at q
     refine .inr ⟨λk qk m=>?_,q⟩
     cases k with
     |zero =>
      rw[eo]at qk
      simp at qk
      exact e qk.symm
     |succ k =>
      obtain⟨ts,m⟩:=m
      exact n k (by simpa using qk) ⟨ts,by simpa using m⟩
  cases o with
  |none=>unfold bT at h; exact keep (.inl rfl) h
  |some i =>
   cases x with
   |un=>unfold bT at h; exact keep (.inr rfl) h
   |sh _=>unfold bT at h; exact keep (.inr rfl) h
   |dp _=>unfold bT at h; exact keep (.inr rfl) h
   |ow ts=>unfold bT at h; exact put i ts rfl (.inl rfl) h
   |rf ts=>unfold bT at h; exact put i ts rfl (.inr rfl) h
theorem xQ{src:List (Option Nat)}{ρ : En}{k:Nat}{s:Sl}(h:(dU src ρ)[k]?=some s)(n:s ≠ .un):∃j,src[k]?=some (some j)/\ρ[j]?=some s:=by
 unfold dU at h
 rw[List.getElem?_map]at h
 cases q:src[k]? with
 |none=>rw[q]at h; cases h
 |some o =>
  rw[q]at h
  cases o with
  |none=>cases h; exact(n rfl).elim
  |some j =>
   refine⟨j,rfl,?_⟩
   have h:iV ((ρ[j]?).getD .un)=s:=Option.some.inj h
   cases z : ρ[j]? with
   |none=>rw[z]at h; exact(n h.symm).elim
   |some s' =>
    rw[z]at h
    have h:iV s'=s:=h
    cases s' <;> first|exact congrArg some h|exact(n h.symm).elim
theorem Bq{src:List (Option Nat)}{ρ : En}{k:Nat}{ts:List Tr}(h:(dU src ρ)[k]?=some (.dp ts)):False:=by
 unfold dU at h
 rw[List.getElem?_map]at h
 cases q:src[k]? with
 |none=>rw[q]at h; cases h
 |some o =>
  rw[q]at h
  cases o with
  |none=>cases h
  |some j =>
   have h:iV ((ρ[j]?).getD .un)=.dp ts:=Option.some.inj h
   cases z:(ρ[j]?).getD Sl.un <;> rw[z]at h <;> cases h
theorem j8{src:List (Option Nat)}{ρi ρ : En}{j:Nat}{ts:List Tr}(I:Inj src)(h:(bT src ρi ρ)[j]?=some (.dp ts)) : ρ[j]?=some (.dp ts):=by
 rcases lK I h with⟨k,us,_,_,q⟩|⟨_,q⟩
 ·exact tH q
 ·exact q
theorem Hs{src:List (Option Nat)}{σ : St}{k j:Nat}(h:src[k]?=some (some j)):(dJ src σ)[k]?=some ((σ[j]?).join):=by
 unfold dJ
 rw[List.getElem?_map,h]
 rfl
end L2
end
section
namespace L2
open PySem PySem.Spec PyProof.Rows
def OU(src:List (Option Nat))(ρ : En)(σ : St)(F:Nat->List Addr)(b:Addr):Prop:=(∃j:Nat,Mu ρ j/\σ[j]?=some (some (.ref b))/\∀k:Nat,src[k]? ≠ some (some j))\/∃(j:Nat) (ts:List Tr),ρ[j]?=some (.dp ts)/\b∈F j
open Classical in
def fZ(t:Tx)(src:List (Option Nat))(ρ : En)(σ : St)(F:Nat->List Addr)(H1:Hp)(D:Addr)(xs:List V):Tx:=⟨t.K,t.Z,t.R,t.H0,λb=>if b=D then some (.lst xs)else if OU src ρ σ F b then H1 b else t.B b,λ_=>False⟩
section
variable {t:Tx}{src:List (Option Nat)}{ρ1:En}{σ : St}{F:Nat->List Addr}{H1:Hp}{D:Addr}{W:Addr->Prop}
theorem oF{xs:List V}:(fZ t src ρ1 σ F H1 D xs).B D=some (.lst xs):=if_pos rfl
theorem rF{xs:List V}{b:Addr}(h1:b≠D)(h2:¬OU src ρ1 σ F b):(fZ t src ρ1 σ F H1 D xs).B b=t.B b:=by
 unfold fZ
 dsimp only
 rw[if_neg h1,if_neg h2]
theorem rG{xs:List V}{b:Addr}(h1:b≠D)(h2:OU src ρ1 σ F b):(fZ t src ρ1 σ F H1 D xs).B b=H1 b:=by
 unfold fZ
 dsimp only
 rw[if_neg h1,if_pos h2]
theorem Ht{k:Nat}(h:Mu (dU src ρ1) k):∃j,src[k]?=some (some j)/\Mu ρ1 j:=by
 obtain⟨ts,q|q⟩:=h
 ·obtain⟨j,h1,h2⟩:=xQ q (by intro z; cases z)
  exact⟨j,h1,ts,.inl h2⟩
 ·obtain⟨j,h1,h2⟩:=xQ q (by intro z; cases z)
  exact⟨j,h1,ts,.inr h2⟩
theorem Hu{k j:Nat}{v:V}(h:src[k]?=some (some j))(q:(dJ src σ)[k]?=some (some v)) : σ[j]?=some (some v):=by
 rw[Hs h]at q
 have q:=Option.some.inj q
 cases z : σ[j]? with
 |none=>rw[z]at q; cases q
 |some o =>
  rw[z]at q
  have q:o=some v:=q
  rw[q]
theorem xR{k j:Nat}{v:V}(h:src[k]?=some (some j))(q : σ[j]?=some (some v)):(dJ src σ)[k]?=some (some v):=by
 rw[Hs h,q]
 rfl
theorem OU.tab{b:Addr}(dB:EOF t W ρ1 σ H1 F)(z:Tb t.K b):¬OU src ρ1 σ F b:=by
 rintro(⟨j,m,q,_⟩|⟨j,ts,d',y⟩)
 ·obtain⟨xs,h⟩:=aJ.Bg ⟨F,dB⟩ m q
  exact dB.tab.ok.ne z h rfl
 ·obtain⟨a,xs,_,d⟩:=dB.dp j ts d'
  exact d.nt dB.tab.ok z y
theorem Zi{xs:List V}{b:Addr}(dB:EOF t W ρ1 σ H1 F)(hD:H1 D=none)(z:Tb t.K b):(fZ t src ρ1 σ F H1 D xs).B b=none:=by
 have nD:b≠D:=λy=>by
  obtain⟨ps,h⟩:=dB.tab.ok.cZ z
  rw[y,hD]at h
  cases h
 rw[rF nD (OU.tab dB z)]
 exact dB.tab.B b z
theorem EOF.enter(I:Inj src)(dB:EOF t W ρ1 σ H1 F)(hD:H1 D=none):aJ (fZ t src ρ1 σ F H1 D []) (λb=>W b\/b=D) (dU src ρ1) (dJ src σ) (upd H1 D (.lst [])):=by
 have e1:aJ t W ρ1 σ H1:=⟨F,dB⟩
 have e2:=(e1.hide (d7 hD (.lst [])) hD cB).ok
 have tf:=e2.tab
 refine⟨λ_=>[],?_,e2.zw,e2.z0,e2.wl,e2.f0,e2.n0,λk u h=>?_,λk ts h=>?_,λk ts h=>?_,λk k' a m1 m2 q1 q2=>?_,λb o h=>?_,λk a m q=>?_,λk ts h=>(Bq h).elim,λk _ ts _ _ h=>(Bq h).elim,λk _ ts _ h=>(Bq h).elim,λk ts h=>(Bq h).elim,⟨tf.ok,tf.w,tf.r,λb z=>Zi dB hD z⟩⟩
 ·unfold dU dJ
  rw[List.length_map,List.length_map]
 ·obtain⟨j,h1,h2⟩:=xQ h (by intro z; cases z)
  obtain⟨v,q1,q2⟩:=e2.sh j u h2
  exact⟨v,xR h1 q1,q2⟩
 ·obtain⟨j,h1,h2⟩:=xQ h (by intro z; cases z)
  obtain⟨a,xs,q1,q2⟩:=e2.ow j ts h2
  exact⟨a,xs,xR h1 q1,q2⟩
 ·obtain⟨j,h1,h2⟩:=xQ h (by intro z; cases z)
  obtain⟨a,xs,q1,q2⟩:=e2.rf j ts h2
  exact⟨a,xs,xR h1 q1,q2⟩
 ·obtain⟨j,h1,n1⟩:=Ht m1
  obtain⟨j',h2,n2⟩:=Ht m2
  have:=e2.dis j j' a n1 n2 (Hu h1 q1) (Hu h2 q2)
  subst this
  exact I k k' j h1 h2
 ·by_cases h1:b=D
  ·subst h1
   rw[oF]at h
   rw[cB]
   exact h
  ·by_cases h2:OU src ρ1 σ F b
   ·rw[rG h1 h2]at h
    rw[aO h1]
    exact h
   ·rw[rF h1 h2]at h
    exact e2.pn b o h
 ·obtain⟨j,h1,n1⟩:=Ht m
  have q:=Hu h1 q
  have wa:=e1.addr n1 q
  have nD:a≠D:=λz=>by subst z; exact e1.wn a wa hD
  have nO:¬OU src ρ1 σ F a:=by
   rintro(⟨j',m',q',u'⟩|⟨j',ts,d',z⟩)
   ·have:=e1.dis j j' a n1 m' q q'
    subst this
    exact u' k h1
   ·exact dB.dm j' j ts a d' n1 q z
  rw[rF nD nO]
  exact e1.pd j a n1 q
theorem aJ.Qe{xs ys:List V}{ρ : En}{τ : St}{H:Hp}{W':Addr->Prop}(e:aJ (fZ t src ρ1 σ F H1 D xs) W' ρ τ H)(w:W' D)(h0:t.H0 D=none):aJ (fZ t src ρ1 σ F H1 D ys) W' ρ τ (upd H D (.lst ys)):=by
 have ne:∀i a,Mu ρ i -> τ[i]?=some (some (.ref a))->a≠D:=λi a m q z=>by
  subst z
  have:=e.pd i a m q
  rw[oF]at this
  cases this
 obtain⟨F',e⟩:=e
 have xT:∀i ts,ρ[i]?=some (Sl.dp ts)->∀b∈F' i,b≠D:=λi ts h b hb z=>by
  subst z
  have:=e.db i ts h b hb
  rw[oF]at this
  cases this
 refine⟨F',e.len,e.zw,e.z0,λb z=>?_,λb o h n=>?_,λb h=>?_,λi u h=>?_,λi ts h=>?_,λi ts h=>?_,e.dis,λb o h=>?_,λi a m q=>?_,λi ts h=>?_,e.dd,e.dm,λi ts h b hb=>?_,⟨e.tab.ok.upd (e.pn D _ oF),e.tab.w,e.tab.r,λb z=>?_⟩⟩
 ·by_cases q:b=D
  ·subst q; exact .inl ⟨ys,cB⟩
  ·unfold Lt; rw[aO q]; exact e.wl b z
 ·rw[aO]
  ·exact e.f0 b o h n
  ·rintro rfl
   have h:t.H0 b=some o:=h
   rw[h0]at h
   cases h
 ·by_cases q:b=D
  ·subst q; exact h0
  ·rw[aO q]at h; exact e.n0 b h
 ·rw[jO w]
  exact e.sh i u h
 ·obtain⟨a,zs,q1,q2,q3,q4,q5⟩:=e.ow i ts h
  rw[jO w]
  exact⟨a,zs,q1,q2,q3,by rw[aO (ne i a ⟨ts,.inl h⟩ q1)]; exact q4,q5⟩
 ·obtain⟨a,zs,q1,q2,q3,q4,q5⟩:=e.rf i ts h
  rw[jO w]
  exact⟨a,zs,q1,q2,q3,by rw[aO (ne i a ⟨ts,.inr h⟩ q1)]; exact q4,q5⟩
 ·by_cases h1:b=D
  ·subst h1
   rw[oF]at h
   rw[cB]
   exact h
  ·rw[aO h1]
   refine e.pn b o ?_
   by_cases h2:OU src ρ1 σ F b
   ·rw[rG h1 h2]at h ⊢; exact h
   ·rw[rF h1 h2]at h ⊢; exact h
 ·have nD:=ne i a m q
  have z:=e.pd i a m q
  by_cases h2:OU src ρ1 σ F a
  ·rw[rG nD h2]at z ⊢; exact z
  ·rw[rF nD h2]at z ⊢; exact z
 ·obtain⟨a,zs,q1,d⟩:=e.dp i ts h
  exact⟨a,zs,q1,d.move rfl rfl (by rw[jO w]; exact Same.refl _) (λb hb=>by obtain⟨_,_,_,ww,_⟩:=d; exact(ww b hb).1) λb o hb q=>by rw[aO (xT i ts h b hb)]; exact q⟩
 ·have nD:=xT i ts h b hb
  have z:=e.db i ts h b hb
  by_cases h2:OU src ρ1 σ F b
  ·rw[rG nD h2]at z ⊢; exact z
  ·rw[rF nD h2]at z ⊢; exact z
 ·have y:=e.tab.B b z
  have nD:b≠D:=λq=>by
   subst q
   rw[oF]at y
   cases y
  by_cases h2:OU src ρ1 σ F b
  ·rw[rG nD h2]at y ⊢; exact y
  ·rw[rF nD h2]at y ⊢; exact y
theorem EOF.leave{xs:List V}{ρ : En}{τ : St}{H:Hp}{Wx:Addr->Prop}{js:List Nat}(I:Inj src)(dB:EOF t W ρ1 σ H1 F)(hD:H1 D=none)(e:aJ (fZ t src ρ1 σ F H1 D xs) (λb=>W b\/b=D) ρ τ H)(nx:∀b o,¬W b->H1 b=some o->H b=some o)
  (hj:∀k j:Nat,src[k]?=some (some j)->k∉js) (ag:∀k,k∉js -> τ[k]?=(dJ src σ)[k]?) (so:dW src ρ ρ1=true) (w1:∀b,W b->Wx b) (w2:∀b,Wx b->W b\/b=D):EOF t Wx (bT src ρ ρ1) σ H F:=by
 have e1:aJ t W ρ1 σ H1:=⟨F,dB⟩
 have m1:Same (aA W H1) (aA Wx H):=λb o h=>by
  obtain⟨n,h⟩:=gj h
  rw[cC]
  ·exact nx b o n h
  ·intro z
   rcases w2 b z with z|rfl
   ·exact n z
   ·rw[hD]at h; cases h
 have m2:Same (aA (λb=>W b\/b=D) H) (aA Wx H):=mJ (λb _ _ z=>w2 b z) λ_ _ _ h=>h
 have pY:∀j,Mu (bT src ρ ρ1) j->Mu ρ1 j:=λj m=>by
  obtain⟨ts,m|m⟩:=m <;> rcases lK I m with⟨k,us,q1,q2,q3⟩|⟨n,q⟩
  ·exact oh ⟨ts,.inl q3⟩
  ·exact⟨ts,.inl q⟩
  ·exact oh ⟨ts,.inr q3⟩
  ·exact⟨ts,.inr q⟩
 have inner:∀(k j:Nat) (ts:List Tr) (a:Addr),src[k]?=some (some j)->(ρ[k]?=some (.ow ts)\/ρ[k]?=some (.rf ts)) -> σ[j]?=some (some (.ref a))->∃ys,H a=some (.lst ys)/\aL t.K (aA Wx H) ys ts:=λk j ts a q1 q2 q3=>by
  have z:=ag k (hj k j q1)
  rw[xR q1 q3]at z
  rcases q2 with q2|q2
  ·obtain⟨c,ys,h1,h2,h3,h4,h5⟩:=e.ow k ts q2
   rw[z]at h1
   cases h1
   exact⟨ys,h4,h5.mono m2⟩
  ·obtain⟨c,ys,h1,h2,h3,h4,h5⟩:=e.rf k ts q2
   rw[z]at h1
   cases h1
   exact⟨ys,h4,h5.mono m2⟩
 have outer:∀(j:Nat) (a:Addr) (ys:List V),Mu ρ1 j->(∀k,src[k]?=some (some j)->¬Mu ρ k) -> σ[j]?=some (some (.ref a))->H1 a=some (.lst ys)->H a=some (.lst ys):=λj a ys m n q h=>by
  have wa:=e1.addr m q
  have nD:a≠D:=λz=>by subst z; exact e1.wn a wa hD
  refine e.pn a _ ?_
  rw[rG nD (.inl ⟨j,m,q,λk z=>n k z (Bp so z m)⟩)]
  exact h
 refine⟨by rw[rE]; exact e1.len,λb z=>w1 b (e1.zw b z),e1.z0,λb z=>e.wl b (w2 b z),e.f0,e.n0,λj u h=>?_,λj ts h=>?_,λj ts h=>?_,λj k a n1 n2=>e1.dis j k a (pY j n1) (pY k n2),λb o h=>?_,λj a m=>e1.pd j a (pY j m),λj ts h=>?_,λj k ts us n h1 h2=>dB.dd j k ts us n (j8 I h1) (j8 I h2),λj k ts c h1 m q=>dB.dm j k ts c (j8 I h1) (pY k m) q,λj ts h=>dB.db j ts (j8 I h),⟨e.tab.ok,λb z=>w1 b (e1.tab.w b z),e1.tab.r,e1.tab.B⟩⟩
 ·have h' : ρ1[j]?=some (.sh u):=by
   rcases lK I h with⟨k,us,q1,q2,q3⟩|⟨n,q⟩
   ·rcases oA q3 with⟨ne,_⟩|⟨_,⟨_,_,z⟩|⟨_,_,z⟩|⟨_,q⟩⟩
    ·exact(ne rfl).elim
    ·cases z
    ·cases z
    ·exact q
   ·exact q
  obtain⟨v,q1,q2⟩:=e1.sh j u h'
  exact⟨v,q1,q2.mono m1⟩
 ·rcases lK I h with⟨k,us,q1,q2,q3⟩|⟨n,q⟩
  ·rcases oA q3 with⟨ne,_⟩|⟨_,⟨ts0,q0,z⟩|⟨_,_,z⟩|⟨nm,q⟩⟩
   ·exact(ne rfl).elim
   ·cases z
    obtain⟨a,ys,h1,h2,h3,h4,h5⟩:=e1.ow j ts0 q0
    obtain⟨zs,k1,k2⟩:=inner k j ts a q1 q2 h1
    exact⟨a,zs,h1,w1 a h2,h3,k1,k2⟩
   ·cases z
   ·exact(nm ⟨ts,.inl q⟩).elim
  ·obtain⟨a,ys,h1,h2,h3,h4,h5⟩:=e1.ow j ts q
   exact⟨a,ys,h1,w1 a h2,h3,outer j a ys ⟨ts,.inl q⟩ n h1 h4,h5.mono m1⟩
 ·rcases lK I h with⟨k,us,q1,q2,q3⟩|⟨n,q⟩
  ·rcases oA q3 with⟨ne,_⟩|⟨_,⟨_,_,z⟩|⟨ts0,q0,z⟩|⟨nm,q⟩⟩
   ·exact(ne rfl).elim
   ·cases z
   ·cases z
    obtain⟨a,ys,h1,h2,h3,h4,h5⟩:=e1.rf j ts0 q0
    obtain⟨zs,k1,k2⟩:=inner k j ts a q1 q2 h1
    exact⟨a,zs,h1,w1 a h2,h3,k1,k2⟩
   ·exact(nm ⟨ts,.inr q⟩).elim
  ·obtain⟨a,ys,h1,h2,h3,h4,h5⟩:=e1.rf j ts q
   exact⟨a,ys,h1,w1 a h2,h3,outer j a ys ⟨ts,.inr q⟩ n h1 h4,h5.mono m1⟩
 ·have nD:b≠D:=λz=>by
   subst z
   rw[e1.xK hD]at h
   cases h
  have nO:¬OU src ρ1 σ F b:=by
   rintro(⟨j,m,q,_⟩|⟨j,ts,d',z⟩)
   ·rw[e1.pd j b m q]at h
    cases h
   ·rw[dB.db j ts d' b z]at h
    cases h
  refine e.pn b o ?_
  rw[rF nD nO]
  exact h
 ·have hd:=j8 I h
  obtain⟨a,ys,q1,d⟩:=dB.dp j ts hd
  have ww:∀b∈F j,W b:=λb hb=>by obtain⟨_,_,_,ww,_⟩:=d; exact(ww b hb).1
  refine⟨a,ys,q1,d.move rfl rfl m1 (λb hb=>w1 b (ww b hb)) λb o hb q=>?_⟩
  have nD:b≠D:=λz=>by subst z; exact e1.wn b (ww b hb) hD
  refine e.pn b o ?_
  rw[rG nD (.inr ⟨j,ts,hd,hb⟩)]
  exact q
end
def lM:Rv->Rs Tr
 |.v T _=>.ok T
 |.s _=>.bad
theorem Hv(r:Rv)(c:Str):lM r ≠ .ex c:=by cases r <;> (intro z; cases z)
def fO(g:GF)(c:BF)(f:EF):List Tr->En->Rs (List Tr × En)
 | [],ρ=>.ok ([],ρ)
 |u::us,ρ=>(g u ρ).bind λρ1=>(c ρ1).bind λb=>if b.1=true then(f b.2).bind λp=>(lM p.1).bind λT=>(fO g c f us p.2).bind λz=>.ok (T::z.1,z.2)else fO g c f us b.2
def cD(src:List (Option Nat))(fi:IF)(g:GF)(c:BF)(f:EF):EF:=λρ=>(fi ρ).bind λp=>if p.1.length<=100000 then(bW (fO g c f p.1 (dU src p.2))).bind λz=>if dW src z.2 p.2=true then .ok (.v (.lst z.1) true,bT src z.2 p.2)else .bad else .bad
theorem Hw{t:Tx}{wi:TI}{g:TG}{src:List (Option Nat)}{tc:TT}{te:TE}{fi:IF}{gf:GF}{c:BF}{f:EF}{js:List Nat}(hi:SI t wi fi)(I:Inj src)(hj:∀k j:Nat,src[k]?=some (some j)->k∉js)(ng:∀T ρ c,gf T ρ ≠ .ex c)
  (hg:∀t':Tx,t'.K=t.K->(∀c,¬t'.EX c)->SG t' g gf js) (hc:∀t':Tx,t'.K=t.K->(∀c,¬t'.EX c)->ST t' tc c) (he:∀t':Tx,t'.K=t.K->(∀c,¬t'.EX c)->SE t' te f):SE t (pW wi g src tc te) (cD src fi gf c f):=λW ρ σ H Q e h=>by
 refine hi W ρ σ H _ e (Rs.aY (Rs.aN h) λp h J H1 e1 s1 it=>?_)
 obtain⟨us,ρ1⟩:=p
 dsimp only at h it e1
 split at h
 case isFalse=>exact h.elim
 rename_i hlen
 intro D hD
 have h:=xP (Rs.aN h)
 obtain⟨F,dB⟩:=id e1
 have wD:∀b,W b->b≠D:=λb w z=>by subst z; exact e1.wn b w hD
 have rH:t.H0 D=none:=e1.n0 D hD
 refine⟨λi m τ H'=>m=us.length-i/\i<=us.length/\∃ρ' xs acc,aJ (fZ t src ρ1 σ F H1 D xs) (λb=>W b\/b=D) ρ' τ H'/\aL t.K (aA (λb=>W b\/b=D) H') xs acc/\xs.length<=i/\(∀b o,¬W b->H1 b=some o->H' b=some o)/\(∀k,k∉js -> τ[k]?=(dJ src σ)[k]?) /\
   (fO gf c f (us.drop i) ρ').post (λ_=>False) (λz=>(if dW src z.2 ρ1=true then .ok (.v (.lst (acc++z.1)) true,bT src z.2 ρ1)else .bad:Rs (Rv × En)).post t.EX (λp=>∀v H',aJ t W p.2 σ H'->bG W H H'->gY t W p.2 σ H H' v p.1->Q v H')),?_,?_⟩
 ·refine⟨us.length,by simp,Nat.zero_le _,dU src ρ1,[],[],dB.enter I hD,.nil,Nat.le_refl _,λb o _ q=>?_,λ_ _=>rfl,?_⟩
  ·rw[aO (gC q hD)]; exact q
  ·rw[List.drop_zero]; exact h
 ·rintro i m τ H2 ⟨rfl,hi,ρ2,xs,acc,e2,r2,l2,n2,a2,h2⟩
  have sm:Same (aA W H1) (aA (λb=>W b\/b=D) H2):=λb o q=>by
   obtain⟨nw,q⟩:=gj q
   rw[cC]
   ·exact n2 b o nw q
   ·rintro(z|rfl)
    ·exact nw z
    ·rw[hD]at q; cases q
  have q:=it _ H2 sm e2.wl i
  by_cases hlt:i<us.length
  ·rw[List.drop_eq_getElem_cons hlt]at h2
   obtain⟨go,y⟩:=q.2 us[i] (by simp[hlt])
   refine .inr ⟨go,λx H3 yl=>?_⟩
   obtain⟨s3,r3⟩:=y x H3 yl
   have e3:=e2.grow s3
   refine hg (fZ t src ρ1 σ F H1 D xs) rfl (λ_=>id) _ ρ2 τ H3 x us[i] _ e3 r3 (Rs.aY (jz (Rs.aN h2) (ng _ _)) λρ4 h σ4 e4 a4=>?_)
   refine hc (fZ t src ρ1 σ F H1 D xs) rfl (λ_=>id) _ ρ4 σ4 H3 _ e4 (Rs.aY (Rs.aN h) λb h H5 e5 s5=>?_)
   have gD:bG (λb=>W b\/b=D) H2 H5:=(bG.of s3).trans s5
   have n5:∀b o,¬W b->H1 b=some o->H5 b=some o:=λb o nw qb=>by
    have nD:b≠D:=gC qb hD
    refine gD.keep b o ?_ (n2 b o nw qb)
    rintro(z|z)
    ·exact nw z
    ·exact nD z
   have a5:∀k,k∉js -> σ4[k]?=(dJ src σ)[k]? := λk nk=>(a4 k nk).trans (a2 k nk)
   split at h
   ·rename_i cb
    rw[if_pos cb]
    refine he (fZ t src ρ1 σ F H1 D xs) rfl (λ_=>id) _ b.2 σ4 H5 _ e5 (Rs.aY (Rs.aN h) λp h v H6 e6 s6 v6=>?_)
    obtain⟨T,kT,h⟩:=cV (Rs.aN h) (Hv _)
    have rv:Rep t.K (aA (λb=>W b\/b=D) H6) v T:=by
     obtain⟨r,ρ7⟩:=p
     cases r with
     |s i=>cases kT
     |v U fr =>
      cases kT
      exact dH.rep (K:=t.K) e5.wn v6.1
    refine⟨xs,e6.pn D _ oF,Nat.lt_of_le_of_lt (show xs.length<=100000 by omega) (by decide),us.length-(i+1),by omega,rfl,hlt,p.2,xs++[v],acc++[T],e6.Qe (.inr rfl) rH,?_,by rw[List.length_append]; simp; omega,λb o nw q=>?_,a5,?_⟩
    ·rw[jO (.inr rfl)]
     exact(r2.mono (gD.trans s6).off).app (.cons rv .nil)
    ·have nD:b≠D:=gC q hD
     rw[aO nD]
     refine s6.keep b o ?_ (n5 b o nw q)
     rintro(z|z)
     ·exact nw z
     ·exact nD z
    ·refine Rs.aY (Rs.aN h) λz h=>?_
     rw[List.append_assoc]
     exact h
   ·rename_i cb
    rw[if_neg cb]
    exact⟨us.length-(i+1),by omega,rfl,hlt,b.2,xs,acc,e5,r2.mono gD.off,by omega,n5,a5,h⟩
  ·have z:i=us.length:=by omega
   subst z
   rw[List.drop_length]at h2
   have h2:(if dW src ρ2 ρ1=true then .ok (.v (.lst (acc++[])) true,bT src ρ2 ρ1)else .bad:Rs (Rv × En)).post t.EX _:=h2
   refine .inl ⟨q.1 rfl,?_⟩
   split at h2
   ·rename_i so
    rw[List.append_nil]at h2
    have hxs:H2 D=some (.lst xs):=e2.pn D _ oF
    have eW:aJ t W (bT src ρ2 ρ1) σ H2:=⟨F,dB.leave (Wx:=W) I hD e2 n2 hj a2 so (λ_ w=>w) λ_ w=>.inl w⟩
    have eD:nJ t W D (bT src ρ2 ρ1) σ H2:=⟨F,dB.leave (Wx:=λb=>W b\/b=D) I hD e2 n2 hj a2 so (λ_ w=>.inl w) λ_ w=>w,λi ts hi z=>by
     obtain⟨c,ys,_,bs,_,_,ww,_⟩:=dB.dp i ts (j8 I hi)
     exact wD D (ww D z).1 rfl⟩
    have st:bG W H1 H2:=⟨n2,λb q=>by
     cases z:H1 b with
     |none=>rfl
     |some o =>
      by_cases w:W b
      ·exact((e2.wl b (.inl w)).ne q).elim
      ·rw[n2 b o w z]at q
       cases q⟩
    refine h2 (.ref D) H2 eW (s1.trans st) ⟨⟨D,xs,acc,rfl,rfl,s1.dom D hD,hxs,r2.mono λb o q=>?_⟩,λU a _ ea=>?_⟩
    ·obtain⟨nb,q⟩:=gj q
     rw[off_ne λz=>nb (.inr z),cC λz=>nb (.inl z)]
     exact q
    ·cases ea
     exact eD
   ·exact h2.elim
def cF:BF:=λρ=>.ok (true,ρ)
theorem Qf{wi:TI}{g:TG}{src:List (Option Nat)}{te:TE}:qQ wi g src te=pW wi g src (λ_ H Q=>Q true H) te:=by
 funext σ H Q
 simp only[qQ,pW,if_true]
theorem xU{t:Tx}{wi:TI}{g:TG}{src:List (Option Nat)}{te:TE}{fi:IF}{gf:GF}{f:EF}{js:List Nat}(hi:SI t wi fi)(I:Inj src)(hj:∀k j:Nat,src[k]?=some (some j)->k∉js)(ng:∀T ρ c,gf T ρ ≠ .ex c)
  (hg:∀t':Tx,t'.K=t.K->(∀c,¬t'.EX c)->SG t' g gf js) (he:∀t':Tx,t'.K=t.K->(∀c,¬t'.EX c)->SE t' te f):SE t (qQ wi g src te) (cD src fi gf cF f):=by
 rw[Qf]
 exact Hw hi I hj ng hg (λt' _ _ W ρ σ H Q e h=>h H e (bG.refl _ _)) he
end L2
end
section
namespace L2
open PySem PySem.Spec PyProof.Rows
theorem PS.jd{X:Cx}{st:Stmt}{t:TS}(h:PS X.jd st t):PS X st t:=⟨λpins s σ H D I hw =>
 wpAny_mono (h pins s σ H D (I.wish _) hw) (λ_ _ q=>q.qG) λ_ _ z=>False.elim z⟩
theorem aJ.ex{t:Tx}{EX:Str->Prop}{W:Addr->Prop}{ρ : En}{σ : St}{H:Hp}(e:aJ t W ρ σ H):aJ {t with EX:=EX } W ρ σ H:=e.elim λF e=>⟨F,e.len,e.zw,e.z0,e.wl,e.f0,e.n0,e.sh,e.ow,e.rf,e.dis,e.pn,e.pd,e.dp,e.dd,e.dm,e.db,⟨e.tab.ok,e.tab.w,e.tab.r,e.tab.B⟩⟩
theorem aJ.Br{t:Tx}{EX:Str->Prop}{W:Addr->Prop}{ρ : En}{σ : St}{H:Hp}(e:aJ {t with EX:=EX } W ρ σ H):aJ t W ρ σ H:=e.elim λF e=>⟨F,e.len,e.zw,e.z0,e.wl,e.f0,e.n0,e.sh,e.ow,e.rf,e.dis,e.pn,e.pd,e.dp,e.dd,e.dm,e.db,⟨e.tab.ok,e.tab.w,e.tab.r,e.tab.B⟩⟩
def bN(f:SF):SF:=λρ=>bW (f ρ)
theorem rJ{t:Tx}{ts:TS}{f:SF}(h:∀t':Tx,t'.K=t.K->(∀c,¬t'.EX c)->SS t' ts f):SS t ts (bN f):=λW ρ σ H D e q=>by
 refine h {t with EX:=λ_=>False } rfl (λ_=>id) W ρ σ H D e.ex (Rs.aY (xP q) λp q=>?_)
 obtain⟨fl,ρ'⟩:=p
 cases fl with
 |nx=>exact λW' σ' H' e' n=>q W' σ' H' e'.Br n
 |rt T fr =>
  refine λv W' σ' H' e' n=>q v W' σ' H' e'.Br ?_
  cases fr <;> exact n
 |bk=>exact λW' σ' H' e' n=>q W' σ' H' e'.Br n
 |ct=>exact λW' σ' H' e' n=>q W' σ' H' e'.Br n
theorem Zj{p:Int->Int->Int}(a b:Tr)(c:Str):gI p a b ≠ .ex c:=by
 cases a <;> cases b <;> (intro z; cases z)
theorem Hy{q:Int->Int->Bool}{p:Int->Int->Int}(a b:Tr)(c:Str):eZ q p a b ≠ .ex c:=by
 cases a <;> cases b <;> first|(intro z; cases z; done)|(dsimp only[eZ]; split <;> (intro z; cases z))
theorem Hz{p:Int->Int->Bool}(a b:Tr)(c:Str):gB p a b ≠ .ex c:=by
 cases a <;> cases b <;> (intro z; cases z)
theorem Zk(a b:Tr)(c:Str):dw a b ≠ .ex c:=by unfold dw; split <;> (intro z; cases z)
theorem Zm(a b:Tr)(c:Str):fG a b ≠ .ex c:=by unfold fG; split <;> (intro z; cases z)
theorem Qg{f:Bool->Bool}(a b:Tr)(c:Str):fK f a b ≠ .ex c:=by
 cases b <;> first|(intro z; cases z; done)|(dsimp only[fK]; split <;> (intro z; cases z))
theorem Zn(a b:Tr)(c:Str):bR a b ≠ .ex c:=by
 cases a <;> cases b <;> first|(intro z; cases z; done)|(dsimp only[bR]; split <;> (intro z; cases z))
theorem Zo(a b:Tr)(c:Str):cX a b ≠ .ex c:=by
 cases a <;> cases b <;> first|(intro z; cases z; done)|(dsimp only[cX]; split <;> (intro z; cases z))
theorem Zq(a b:Tr)(c:Str):cJ a b ≠ .ex c:=Hy a b c
theorem Zr(a b:Tr)(c:Str):bZ a b ≠ .ex c:=Hy a b c
theorem Zt(a b:Tr)(c:Str):jQ a b ≠ .ex c:=Hy a b c
theorem Zu(a b:Tr)(c:Str):mQ a b ≠ .ex c:=Zj a b c
theorem Zv(a b:Tr)(c:Str):jw a b ≠ .ex c:=Hz a b c
theorem HB(a b:Tr)(c:Str):dO a b ≠ .ex c:=Hz a b c
theorem Zw(a b:Tr)(c:Str):j5 a b ≠ .ex c:=Hz a b c
theorem Qh(a b:Tr)(c:Str):gk a b ≠ .ex c:=by
 cases a <;> cases b <;> first|(intro z; cases z; done)|(dsimp only[gk]; split <;> (intro z; cases z))
theorem Zx(a b:Tr)(c:Str):aK a b ≠ .ex c:=by
 cases a <;> cases b <;> first|(intro z; cases z; done)|(dsimp only[aK]; split <;> first|(intro z; cases z; done)|(split <;> (intro z; cases z)))
theorem Zy(a:Tr)(c:Str):bB a ≠ .ex c:=by
 cases a <;> first|(intro z; cases z; done)|(dsimp only[bB]; split <;> (intro z; cases z))
theorem Zz(a:Tr)(c:Str):jR a ≠ .ex c:=by cases a <;> (intro z; cases z)
theorem ZC(a:Tr)(c:Str):pR a ≠ .ex c:=by cases a <;> (intro z; cases z)
theorem ZD(a:Tr)(c:Str):iR a ≠ .ex c:=by cases a <;> (intro z; cases z)
theorem ZF(a:Tr)(c:Str):eE a ≠ .ex c:=by
 cases a <;> first|(intro z; cases z; done)|(dsimp only[eE]; split <;> (intro z; cases z))
theorem cY{i:Nat}(T:Tr)(ρ : En)(c:Str):gN i T ρ ≠ .ex c:=by intro z; cases z
theorem rK(Ts:List Tr)(ρ : En)(c:Str):dI Ts ρ ≠ .ex c:=by cases Ts <;> (intro z; cases z)
theorem jH{f:GF}{g:mV}(h1:∀T ρ c,f T ρ ≠ .ex c)(h2:∀T ρ c,g T ρ ≠ .ex c)(Ts:List Tr)(ρ : En)(c:Str):bL f g Ts ρ ≠ .ex c:=by
 cases Ts with
 |nil=>intro z; cases z
 |cons T r=>exact Zc (h1 T ρ) (λρ'=>h2 r ρ') c
theorem rM{n:Nat}{f:mV}(h:∀T ρ c,f T ρ ≠ .ex c)(T:Tr)(ρ : En)(c:Str):gT n f T ρ ≠ .ex c:=by
 cases T <;> first|(intro z; cases z; done)|(dsimp only[gT]; split <;> first|exact h _ _ _|(intro z; cases z))
def xV(f:AF)(n:Nat):Prop:=∀ρ p,f ρ=.ok p->p.1.length=n
theorem gK:xV au 0:=λρ p h=>by cases h; rfl
theorem cO{f:EF}{g:AF}{n:Nat}(h:xV g n):xV (ak f g) (n+1):=λρ p q=>by
 unfold ak at q
 obtain⟨a,q1,q⟩:=gG q
 obtain⟨b,q2,q⟩:=gG q
 cases q
 rw[List.length_cons,h _ _ q2]
def Gk(K:FZ)(mg:Str->Option Value)(x:Str)(v:V)(T:Tr):Prop:=∃u,mg x=some u/\RelV v u/\∀H,Rep (aB K) H v T
theorem ZG{X:Cx}{x:Str}{v:V}{T:Tr}{pos:Pos}(h:Gk X.K X.mg x v T)(hg:Gl X x:=by rfl)(hd:(x == ("__debug__" : Str))=false:=by decide):PE X (.Name x pos) (tC v):=by
 obtain⟨u,h1,h2,_⟩:=h
 exact Vt hg h1 h2 hd
theorem Qi{t:Tx}{K:FZ}{mg:Str->Option Value}{x:Str}{v:V}{T:Tr}(hK:t.K=aB K)(h:Gk K mg x v T):SE t (tC v) (eC T):=by
 obtain⟨u,_,_,h⟩:=h
 exact xq λH=>by rw[hK]; exact h H
end L2
end
section
namespace L2
open PySem PySem.Spec PyProof.Rows
section
variable {t:Tx}{K:FZ}{ta tb tc:TE}{fa fb fc:EF}
theorem Qj(hK:t.K=aB K)(ha:SE t ta fa)(hb:SE t tb fb):SE t (eU (Gy K) ta tb) (aq bR fa fb):=jP (by rw[hK]; exact Yd) Zn ha hb
theorem ZJ(hK:t.K=aB K)(ha:SE t ta fa)(hb:SE t tb fb):SE t (eU (iw λi j=>.int (i-j)) ta tb) (aq mQ fa fb):=jP (by rw[hK]; exact Yj) Zu ha hb
theorem HD(hK:t.K=aB K)(ha:SE t ta fa)(hb:SE t tb fb):SE t (eU (Gz K) ta tb) (aq cX fa fb):=jP (by rw[hK]; exact Ye (K:=K)) Zo ha hb
theorem ZK(hK:t.K=aB K)(ha:SE t ta fa)(hb:SE t tb fb):SE t (eU (rI Av λi j=>.int (i.fdiv j)) ta tb) (aq cJ fa fb):=jP (by rw[hK]; exact Yg) Zq ha hb
theorem ZL(hK:t.K=aB K)(ha:SE t ta fa)(hb:SE t tb fb):SE t (eU (rI (λ_ j=>j≠0) λi j=>.int (i.fmod j)) ta tb) (aq bZ fa fb):=jP (by rw[hK]; exact Yh) Zr ha hb
theorem ZM(hK:t.K=aB K)(ha:SE t ta fa)(hb:SE t tb fb):SE t (eU (rI Et λi j=>.int (i ^ j.toNat)) ta tb) (aq jQ fa fb):=jP (by rw[hK]; exact Yi) Zt ha hb
theorem x_eq(hK:t.K=aB K)(ha:SE t ta fa)(hb:SE t tb fb):SE t (eU (Ga K) ta tb) (aq dw fa fb):=jP (by rw[hK]; exact X7) Zk ha hb
theorem xW(hK:t.K=aB K)(ha:SE t ta fa)(hb:SE t tb fb):SE t (eU (Gu K) ta tb) (aq fG fa fb):=jP (by rw[hK]; exact X8) Zm ha hb
theorem Qk(hK:t.K=aB K)(ha:SE t ta fa)(hb:SE t tb fb):SE t (eU (Gb K) ta tb) (aq (fK id) fa fb):=jP (by rw[hK]; exact Yb) Qg ha hb
theorem Ql(hK:t.K=aB K)(ha:SE t ta fa)(hb:SE t tb fb):SE t (eU (Gq K) ta tb) (aq (fK not) fa fb):=jP (by rw[hK]; exact Yc) Qg ha hb
theorem x_lt(hK:t.K=aB K)(ha:SE t ta fa)(hb:SE t tb fb):SE t (eU (GD K) ta tb) (aq gk fa fb):=jP (by rw[hK]; exact Pg) Qh ha hb
theorem Qm(hK:t.K=aB K)(ha:SE t ta fa)(hb:SE t tb fb):SE t (eU (iw λi j=>.bl (decide (j<i))) ta tb) (aq jw fa fb):=jP (by rw[hK]; exact Yk) Zv ha hb
theorem x_ge(hK:t.K=aB K)(ha:SE t ta fa)(hb:SE t tb fb):SE t (eU (iw λi j=>.bl (decide (j<=i))) ta tb) (aq j5 fa fb):=jP (by rw[hK]; exact Yl) Zw ha hb
theorem dX(hK:t.K=aB K)(ha:SE t ta fa)(hb:SE t tb fb):SE t (eU (nG K) ta tb) (aq aK fa fb):=jP (by rw[hK]; exact Ph) Zx ha hb
theorem Qn(hK:t.K=aB K){r r':R2}{g g':G2}(o:fQ (aB K) r g)(o':fQ (aB K) r' g')(n:∀a b c,g a b ≠ .ex c)(n':∀a b c,g' a b ≠ .ex c)(ha:SE t ta fa)(hb:SE t tb fb)(hc:SE t tc fc):SE t (zQ r r' ta tb tc) (rm g g' fa fb fc):=Yw (by rw[hK]; exact o) (by rw[hK]; exact o') n n' ha hb hc
variable {tl:TA}{fl:AF}
theorem x_len(hK:t.K=aB K)(ha:SA t tl fl):SE t (jN (GQ K) tl) (aR (g1 bB) fl):=vf (by rw[hK]; exact vh YC) (vg Zy) ha
theorem ZP(hK:t.K=aB K)(ha:SA t tl fl):SE t (jN (λxs H Q=>∃i,xs=[.int i]/\Q (.int (if i<0 then -i else i)) H) tl) (aR (g1 jR) fl):=vf (by rw[hK]; exact vh YD) (vg Zz) ha
theorem Qo(hK:t.K=aB K)(ha:SA t tl fl):SE t (jN (λxs H Q=>(∃i,xs=[.int i]/\Q (.int i) H)\/∃k,xs=[.bl k]/\Q (.int (if k then 1 else 0)) H) tl) (aR (g1 pR) fl):=vf (by rw[hK]; exact vh YF) (vg ZC) ha
theorem Bu(hK:t.K=aB K)(ha:SA t tl fl):SE t (jN (λxs H Q=>∃p ys,xs=[.ref p]/\(bw K H p ys\/c7 K H p ys)/\∀l,H l=none->Q (.ref l) (upd H l (.lst ys))) tl) (aR (g1 iR) fl):=vf (by rw[hK]; exact vh YG) (vg ZD) ha
theorem HF(hK:t.K=aB K)(ha:SA t tl fl):SE t (jN (Ge K) tl) (aR (g1 eE) fl):=vf (by rw[hK]; exact vh YH) (vg ZF) ha
theorem j9(hK:t.K=aB K){cl:Str->Addr}{n:Nat}{F:FP}{E:XK}(hx:∀c H',F0 t H'->t.EX c->E (.ref (cl c)) none H')(hn:xV fl n)(ha:SA t tl fl):SE t (nC (bA K cl n F) [] E tl) (aX F fl):=PL hK hx hn ha
theorem tL(hK:t.K=aB K){cl:Str->Addr}{n:Nat}{F:FP}{E:XK}(hx:∀c,¬t.EX c)(hn:xV fl n)(ha:SA t tl fl):SE t (nC (bA K cl n F) [] E tl) (aX F fl):=PL hK (λc H' _ q=>(hx c q).elim) hn ha
theorem ZQ{te:TE}{f:EF}(i:Nat)(h:SE t te f):SE t (wK K "list" Ab (fY i) (jq te lZ)) (iU i fX (ak f au)):=PJ i Y0 Y4 (bD h bU)
end
end L2
end
section
namespace L2
open PySem PySem.Spec PyProof.Rows
def pZ(i:Nat)(ρ : En):Nat:=match ρ[i]? with
 |some (.sh (.int n))=>n.natAbs+1
 |_=>0
theorem oG{src:List (Option Nat)}{js:List Nat}(h:js.all (λk=>(src[k]?).join.isNone)=true):∀k j:Nat,src[k]?=some (some j)->k∉js:=λk j q m=>by
 have:=List.all_eq_true.mp h k m
 rw[q]at this
 cases this
abbrev Bv:List Value:=[.type "ValueError",.type "Exception",.type "BaseException",.type "object"]
def Qp:G1
 |.lst ts=>.ok (.lst ts.reverse,true)
 |_=>.bad
theorem aL.rev{K:FZ}{H:Hp}:∀{xs:List V} {ts:List Tr},aL K H xs ts->aL K H xs.reverse ts.reverse
 |_,_,.nil=>.nil
 |_,_,.cons h r=>by
  rw[List.reverse_cons,List.reverse_cons]
  exact(aL.rev r).app (.cons h .nil)
def ZR(fa:EF):EF:=λρ=>(fa ρ).bind λp=>(dr p.2 p.1).bind λa=>(Qp a).bind λz=>.ok (.v z.1 z.2,p.2)
end L2
end
section
namespace L2
open PySem PySem.Spec PyProof.Rows
def tO(i:Int):TE:=λ_ H Q=>Q (.int i) H
def kI:Const->Option Int
 |.int i=>some i
 |_=>none
def bI(o:Operator)(i j:Int):Option Int:=match o with
 |.Sub=>some (i-j)
 |.Add=>some (i+j)
 |.Pow=>if 0<=j/\j<=100/\i.natAbs<=1000 then some (i ^ j.toNat)else none
 |_=>none
def uI(o:UnaryOp)(i:Int):Option Int:=match o with
 |.USub=>some (-i)
 |_=>none
def cI:Expr->Option Int
 |.Constant c _ _=>kI c
 |.UnaryOp o e _=>(cI e).bind (uI o)
 |.BinOp a o b _=>(cI a).bind λi=>(cI b).bind λj=>bI o i j
 |_=>none
theorem ZS{X:Cx}{c:Const}{k:Nat}{p:Pos}{i:Int}(h:kI c=some i):PE X (.Constant c k p) (tO i):=by
 cases c <;> first|(cases h; exact aU)|cases h
theorem ZV{X:Cx}{o:UnaryOp}{e:Expr}{p:Pos}{i k:Int}(h:uI o i=some k)(he:PE X e (tO i)):PE X (.UnaryOp o e p) (tO k):=by
 cases o <;> first|(cases h; exact(Mz MK he).imp λσ H Q q=>⟨i,rfl,q⟩)|cases h
theorem ZW{X:Cx}{o:Operator}{a b:Expr}{p:Pos}{i j k:Int}(h:bI o i j=some k)(ha:PE X a (tO i))(hb:PE X b (tO j)):PE X (.BinOp a o b p) (tO k):=by
 cases o <;> try cases h
 ·exact(bK MJ ha hb).imp λσ H Q q=>⟨i,j,rfl,rfl,q⟩
 ·exact(bK Eu ha hb).imp λσ H Q q=>⟨i,j,rfl,rfl,q⟩
 ·dsimp only[bI]at h
  split at h
  ·rename_i c
   cases h
   have z:(2:Nat) ^ 64=18446744073709551616:=by decide
   exact(bK zO ha hb).imp λσ H Q q=>⟨i,j,rfl,rfl,⟨c.1,by omega,by omega⟩,q⟩
  ·cases h
theorem Bw{X:Cx}(e:Expr)(k:Int)(h:cI e=some k):PE X e (tO k):=by
 cases e with
 |Constant c _ _=>exact ZS h
 |UnaryOp o a _ =>
  have h:(cI a).bind (uI o)=some k:=h
  cases e1:cI a with
  |none=>rw[e1]at h; cases h
  |some i=>rw[e1]at h; exact ZV h (Bw a i e1)
 |BinOp a o b _ =>
  have h:((cI a).bind λi=>(cI b).bind λj=>bI o i j)=some k:=h
  cases e1:cI a with
  |none=>rw[e1]at h; cases h
  |some i =>
   cases e2:cI b with
   |none=>rw[e1,e2]at h; cases h
   |some j=>rw[e1,e2]at h; exact ZW h (Bw a i e1) (Bw b j e2)
 |_=>cases h
def kT:Const->Option Tr
 |.none=>some .non
 |.bool b=>some (.bl b)
 |.str x=>some (.str x)
 |.int i=>some (.int i)
 |_=>none
mutual
noncomputable def cT:Expr->Option Tr
 |.Constant c _ _=>kT c
 |.Tuple es _ _=>(kh es).map .tup
 |.List es _=>(kh es).map .lst
 |.UnaryOp o a p=>(cI (.UnaryOp o a p)).map .int
 |.BinOp a o b p=>(cI (.BinOp a o b p)).map .int
 |_=>none
noncomputable def kh:List Expr->Option (List Tr)
 | []=>some []
 |e::r=>match cT e,kh r with
  |some T,some Ts=>if Ts.length<1000 then some (T::Ts)else none
  |_,_=>none
end
theorem HJ:∀{es:List Expr} {Ts:List Tr},kh es=some Ts->Ts.length<=1000
 | [],Ts,h=>by
  unfold kh at h
  cases h
  decide
 |e::r,Ts,h=>by
  unfold kh at h
  split at h
  ·split at h
   ·cases h
    rename_i h1
    rw[List.length_cons]
    omega
   ·cases h
  ·cases h
section
variable {X:Cx}{e:Expr}{es:List Expr}{T:Tr}{Ts:List Tr}{pos:Pos}{k:Nat}{G:FZ}
theorem ZX:PA X [] (u6 G []):=aM.imp λσ H Q q=>q [] H (Same.refl _) λ_ _=>.nil
theorem Z0(h:PE X e (u0 G T))(r:PA X es (u6 G Ts))(hs:starEach (e::es) X.env=(false,eval e X.env)::starEach es X.env):PA X (e::es) (u6 G (T::Ts)) :=
 (jr h r hs).imp λσ H Q q v H1 s1 rv vs H2 s2 rs=>q (v::vs) H2 (s1.trans s2) λPr p=>.cons ((rv Pr p).mono (p.mono s2)) (rs Pr (p.le s1))
theorem Z1(h:PA X es (u6 G Ts))(hl:Ts.length<=1000):PE X (.Tuple es k pos) (u0 G (.tup Ts)) :=
 (qJ h).imp λσ H Q q vs H1 s1 rs=>by
  by_cases hv:vs.length<=sizeLine
  ·exact⟨hv,λa ha=>q (.ref a) _ (s1.trans (d7 ha _)) λPr p=>.tup (c7.of ((p.le s1).new (Same.refl _) ha)) ((rs Pr p).mono (p.mono (d7 ha _)))⟩
  ·exact absurd (Nat.le_of_lt (Oe (by rw[(rs _ (Pj.id H)).length]; exact hl))) hv
theorem Qq(h:PA X es (u6 G Ts))(hl:Ts.length<=1000):PE X (.List es pos) (Ai G Ts) :=
 (jZ h).imp λσ H Q q vs H1 s1 rs=>by
  have e:=(rs _ (Pj.id H)).length
  exact⟨Nat.le_of_lt (Oe (by rw[e]; exact hl)),λa ha=>q a vs H1 s1 ha rs e⟩
theorem Z2(h:PE X e (Ai G Ts)):PE X e (u0 G (.lst Ts)) :=
 h.imp λσ H Q q a xs H1 s1 ha rs _=>q (.ref a) _ (s1.trans (d7 ha _)) λPr p=>.lst (bw.of ((p.le s1).new (Same.refl _) ha)) ((rs Pr p).mono (p.mono (d7 ha _)))
theorem Qs(h:(cI e).map Tr.int=some T):PE X e (u0 G T):=by
 cases e1:cI e with
 |none=>rw[e1]at h; cases h
 |some i =>
  rw[e1]at h; cases h
  exact(Bw e i e1).imp λσ H Q q=>q _ H (Same.refl _) λ_ _=>.int i
end
theorem Z4{e:Expr}{es:List Expr}{env:Env}{T:Tr}(h:cT e=some T):starEach (e::es) env=(false,eval e env)::starEach es env:=by
 cases e <;> first|rfl|(unfold cT at h; cases h)
theorem Z5{X:Cx}{G:FZ}{c:Const}{k:Nat}{p:Pos}{T:Tr}(h:kT c=some T):PE X (.Constant c k p) (u0 G T):=by
 cases c <;> try cases h
 ·exact LK.imp λσ H Q q=>q _ H (Same.refl _) λ_ _=>.non
 ·exact jL.imp λσ H Q q=>q _ H (Same.refl _) λ_ _=>.bl _
 ·exact aU.imp λσ H Q q=>q _ H (Same.refl _) λ_ _=>.int _
 ·exact zG.imp λσ H Q q=>q _ H (Same.refl _) λ_ _=>.str _
mutual
theorem Z6{X:Cx}{G:FZ}(e:Expr)(T:Tr)(h:cT e=some T):PE X e (u0 G T):=by
 cases e with
 |Constant c _ _=>exact Z5 (by unfold cT at h; exact h)
 |Tuple es _ _ =>
  unfold cT at h
  cases e:kh es with
  |none=>rw[e]at h; cases h
  |some Ts =>
   rw[e]at h
   cases h
   exact Z1 (Bx es Ts e) (HJ e)
 |List es _ =>
  unfold cT at h
  cases e:kh es with
  |none=>rw[e]at h; cases h
  |some Ts =>
   rw[e]at h
   cases h
   exact Z2 (Qq (Bx es Ts e) (HJ e))
 |UnaryOp o a p=>exact Qs (by unfold cT at h; exact h)
 |BinOp a o b p=>exact Qs (by unfold cT at h; exact h)
 |_=>unfold cT at h; cases h
theorem Bx{X:Cx}{G:FZ}:∀(es:List Expr) (Ts:List Tr),kh es=some Ts->PA X es (u6 G Ts)
 | [],Ts,h=>by
  unfold kh at h; cases h
  exact ZX
 |e::r,Ts,h=>by
  unfold kh at h
  cases e1:cT e with
  |none=>rw[e1]at h; cases h
  |some T =>
   cases e2:kh r with
   |none=>rw[e1,e2]at h; cases h
   |some Us =>
    rw[e1,e2]at h
    dsimp only at h
    split at h
    ·cases h
     exact Z0 (Z6 e T e1) (Bx r Us e2) (Z4 e1)
    ·cases h
end
theorem HN{X:Cx}{G:FZ}{es:List Expr}{pos:Pos}{Ts:List Tr}(h:kh es=some Ts):PE X (.List es pos) (Ai G Ts):=Qq (Bx es Ts h) (HJ h)
end L2
end
section
namespace L2
open PySem PySem.Spec PyProof.Rows
theorem Pj.aA{W:Addr->Prop}{H:Hp}(hw:∀b,W b->H b≠none):Pj (L2.aA W) H where
 mono:=λs=>(bG.of s).off
 sub:=λH=>gO W H
 new:=λ{H' r o} s h=>by
  rw[cC λw=>hw r w (s.free h)]
  exact cB
def rN(Ts:List Tr):EF:=λρ=>.ok (.v (.lst Ts) true,ρ)
theorem HS{t:Tx}{K:FZ}(hK:t.K=aB K){Ts:List Tr}:SE t (Ai (aB K) Ts) (rN Ts):=λW ρ σ H Q e h=>λa xs H1 s ha r _=>by
 rw[<-hK]at r
 have e1:=e.grow s
 exact h _ _ (e1.grow (d7 ha _)) ((bG.of s).trans (bG.of (d7 ha _))) ((gY.of (σ' := σ) e1 (d7 ha _) (dH.new ha (r _ (Pj.aA e.wn)))).back λb q=>s.free q)
end L2
end
section
namespace L2
open PySem PySem.Spec PyProof.Rows
def xX:Expr->Bool
 |.ListComp .. => false
 |.SetComp .. => false
 |.DictComp .. => false
 |_=>true
theorem HW{e:Expr}{t:Option Expr}{l:Nat}{env:Env}(h:xX e=true):swapsWith e t l env=pure false:=by
 cases e <;> first|rfl|(unfold xX at h; cases h)
section
variable {X:Cx}{x:Str}{e:Expr}{es:List Expr}{te:TE}{ta:TA}{pos pos' p:Pos}{k:Nat}{ps:List Str}{sp:Sp}{E:XK}
theorem ao(i:Nat)(hN:X.N[i]?=some x:=by kernel_rfl)(hv:X.env.scope.names.lookup x=some .local:=by kernel_rfl)(hd:(x == ("__debug__" : Str))=false:=by kernel_rfl) (hc:(x == ("__classdict__" : Str))=false:=by kernel_rfl):PE X (.Name x pos) (fY i):=Ed hN (.inl hv) hd hc
theorem iW(i:Nat)(hN:X.N[i]?=some x:=by kernel_rfl)(hv:X.env.scope.names.lookup x=some .cell:=by kernel_rfl)(hd:(x == ("__debug__" : Str))=false:=by kernel_rfl) (hc:(x == ("__classdict__" : Str))=false:=by kernel_rfl):PE X (.Name x pos) (fY i):=Ed hN (.inr (.inl hv)) hd hc
theorem Z7(i:Nat)(hN:X.N[i]?=some x:=by kernel_rfl)(hv:X.env.scope.names.lookup x=some .free:=by kernel_rfl)(hd:(x == ("__debug__" : Str))=false:=by kernel_rfl) (hc:(x == ("__classdict__" : Str))=false:=by kernel_rfl):PE X (.Name x pos) (fY i):=Ed hN (.inr (.inr hv)) hd hc
theorem cG(i:Nat)(hN:X.N.Nodup)(he:PE X e te)(hi:X.N[i]?=some x:=by kernel_rfl)(hx:X.env.scope.names.lookup x=some .local:=by kernel_rfl)(h:xX e=true:=by kernel_rfl):PS X (.Assign [.Name x pos'] e pos) (jA te (cU i)):=Mp hN hi (.inl hx) he (HW h) (.inr hx)
theorem HX(i:Nat)(hN:X.N.Nodup)(hf:X.fn x=true)(he:PE X e te)(hi:X.N[i]?=some x:=by kernel_rfl)(hx:X.env.scope.names.lookup x=some .cell:=by kernel_rfl)(h:xX e=true:=by kernel_rfl):PS X (.Assign [.Name x pos'] e pos) (jA te (cU i)):=Mp hN hi (.inr hx) he (HW h) (.inl hf)
theorem Qt{K:FZ}(ha:PE X e te)(hK:X.K=K)(he:∀whole,isTrue e X.env whole=(do let v <-whole; standAt e.pos; holding [v] (truthy v))):PT X e (λσ H Q=>te σ H λx H'=>∃k,uN K x H' k/\Q k H'):=hK▸jf ha he
theorem psE(he:PE X e te)(h:xX e=true:=by kernel_rfl):PS X (.Expr e pos) (o9 te):=Vy he (HW h)
theorem cg(i:Nat)(hN:X.N.Nodup)(hi:X.N[i]?=some x:=by kernel_rfl)(hx:X.env.scope.names.lookup x=some .local:=by kernel_rfl):PG X (.Name x pos) (cU i):=Mj hN hi (.inl hx) (.inr hx)
theorem Qu(i:Nat)(hN:X.N.Nodup)(hf:X.fn x=true)(hi:X.N[i]?=some x:=by kernel_rfl)(hx:X.env.scope.names.lookup x=some .cell:=by kernel_rfl):PG X (.Name x pos) (cU i):=Mj hN hi (.inr hx) (.inl hf)
theorem Qv(D:aV X.prog X.w X.K X.mg X.base k x ps sp)(hr:eV k X.A)(hx:Passes (jh X.prog X.w) X E)(ha:PA X (e::es) ta)(hg:X.env.kindOf x=some .globalImplicit:=by kernel_rfl)(hdb:(x == ("__debug__" : Str))=false:=by kernel_rfl)
  (he:notStar e=true:=by kernel_rfl) (hpl:(backTo pos (starEach es X.env)).any (·.1)=false:=by kernel_rfl):PE X (.Call (.Name x p) (e::es) [] pos) (nC sp [] E ta):=Za D hr hx ha hg hdb (qT he) hpl
theorem dD{r:List V->Hp->VK->Prop}{id:String}(hc:iJ X (.builtin id) r)(hm:X.mg x=none)(ha:PA X (e::es) ta)(hv:bootBuiltins x=some (.builtin id):=by decide +kernel)(hg:X.env.kindOf x=some .globalImplicit:=by kernel_rfl)(hn:x ≠ "__name__" := by decide +kernel) (hdb:(x == ("__debug__" : Str))=false:=by kernel_rfl)
  (he:notStar e=true:=by kernel_rfl) (hpl:(backTo pos (starEach es X.env)).any (·.1)=false:=by kernel_rfl):PE X (.Call (.Name x p) (e::es) [] pos) (jN r ta):=Nj hc hg hm hv ha hn hdb (qT he) hpl
theorem vp{r:List V->Hp->VK->Prop}{T:String}(hc:iJ X (.type T) r)(hm:X.mg x=none)(ha:PA X (e::es) ta)(hv:bootBuiltins x=some (.type T):=by decide +kernel)(hg:X.env.kindOf x=some .globalImplicit:=by kernel_rfl)(hn:x ≠ "__name__" := by decide +kernel) (hdb:(x == ("__debug__" : Str))=false:=by kernel_rfl)
  (he:notStar e=true:=by kernel_rfl) (hpl:(backTo pos (starEach es X.env)).any (·.1)=false:=by kernel_rfl):PE X (.Call (.Name x p) (e::es) [] pos) (jN r ta):=V9 hc hg hm hv ha hn hdb (qT he) hpl
theorem kj(hX:Ah X.K)(c:Ty){q:Pos}(he:PE X e te)(h1:X.mg "isinstance" = none) (h2:X.mg x=none) (hb:bootBuiltins x=some (.type c.name):=by decide +kernel) (hg1:X.env.kindOf "isinstance" = some .globalImplicit:=by kernel_rfl) (hg2:X.env.kindOf x=some .globalImplicit:=by kernel_rfl) (hn:x ≠ "__name__" := by decide +kernel) (hd:(x == ("__debug__" : Str))=false:=by kernel_rfl)
  (hs:notStar e=true:=by kernel_rfl):PE X (.Call (.Name "isinstance" p) [e,.Name x q] [] pos) (jN (Af X.K) (jq te (jq (tC (.ty c.name)) lZ))):=Xh hX c he h1 h2 hb hg1 hg2 hn hd (qT hs)
theorem aC{t:TA}(ha:PE X e te)(hr:PA X es t)(h:notStar e=true:=by kernel_rfl):PA X (e::es) (jq te t):=jr ha hr (qT h)
theorem Qw{v:V}{T:Tr}(h:Gk X.K X.mg x v T)(hg:X.env.kindOf x=some .globalImplicit:=by kernel_rfl)(hd:(x == ("__debug__" : Str))=false:=by kernel_rfl):PE X (.Name x pos) (tC v):=ZG h hg hd
theorem p7{a tg:Expr}(hm:X.mg "range" = none) (ha:PA X [a] ta) (hg:X.env.kindOf "range" = some .globalImplicit:=by kernel_rfl) (hs:notStar a=true:=by kernel_rfl):PI X tg (.Call (.Name "range" p) [a] [] pos) (Ep ta):=VJ hg hm ha (qT hs)
end
end L2
end
section
namespace L2
open PySem PySem.Spec PyProof.Rows
section
variable {t:Tx}{W:Addr->Prop}{ρ : En}{σ : St}{H:Hp}
theorem DR.len{K:FZ}{G H:Hp}:∀{xs:List V} {ts:List Tr} {bs:List Addr},DR K G H xs ts bs->xs.length=ts.length
 |_,_,_,.nil=>rfl
 |_,_,_,.cl _ _ r=>by rw[List.length_cons,List.length_cons,r.len]
 |_,_,_,.rw _ _ r=>by rw[List.length_cons,List.length_cons,r.len]
theorem DR.reps{K:FZ}{G G' H:Hp}(m:Same G G'):∀{xs:List V} {ts:List Tr} {bs:List Addr},DR K G H xs ts bs->(∀b ys,b∈bs->H b=some (.lst ys)->G' b=some (.lst ys))->aL K G' xs ts
 |_,_,_,.nil,_=>.nil
 |_,_,_,.cl _ h r,k=>.cons (h.mono m) (DR.reps m r k)
 |_,_,_,.rw h q r,k=>.cons (.lst (bw.of (k _ _ (List.mem_cons_self ..) h)) (q.mono m)) (DR.reps m r λb ys hb=>k b ys (List.mem_cons_of_mem _ hb))
theorem DR.row{K:FZ}{G H:Hp}:∀{xs:List V} {ts:List Tr} {bs:List Addr} {k:Nat} {us:List Tr},DR K G H xs ts bs->ts[k]?=some (.lst us)->bs.Nodup->∃b ys,xs[k]?=some (.ref b)/\b∈bs/\H b=some (.lst ys)/\aL K G ys us /\
  ∀(ys':List V) (us':List Tr),aL K G ys' us'->DR K G (upd H b (.lst ys')) xs (ts.set k (.lst us')) bs
 |_,_,_,_,_,.nil,h,_=>by simp at h
 |_,_,_,0,_,.cl n h r,e,nd=>by
  simp at e
  subst e
  cases n
 |_,_,_,0,us,.rw (b:=b) (ys:=ys) (us:=vs) (xs:=xs) (ts:=ts) (bs:=bs) h q r,e,nd=>by
  have e:Tr.lst vs=.lst us:=by simpa using e
  cases e
  refine⟨b,ys,rfl,List.mem_cons_self ..,h,q,λys' us' r'=>?_⟩
  refine .rw cB r' (r.move (Same.refl _) λc o hc z=>?_)
  rw[aO (show c≠b from λy=>(List.nodup_cons.mp nd).1 (by rw[<-y]; exact hc))]
  exact z
 |_,_,_,k+1,us,.cl n h r,e,nd=>by
  obtain⟨b,ys,h1,h2,h3,h4,h5⟩:=DR.row (k:=k) r (by simpa using e) nd
  exact⟨b,ys,by simpa using h1,h2,h3,h4,λys' us' r'=>.cl n h (h5 ys' us' r')⟩
 |_,_,_,k+1,us,.rw (b:=c) h q r,e,nd=>by
  obtain⟨b,ys,h1,h2,h3,h4,h5⟩:=DR.row (k:=k) r (by simpa using e) (List.nodup_cons.mp nd).2
  refine⟨b,ys,by simpa using h1,List.mem_cons_of_mem _ h2,h3,h4,λys' us' r'=>.rw ?_ q (h5 ys' us' r')⟩
  rw[aO λy=>(List.nodup_cons.mp nd).1 (by rw[y]; exact h2)]
  exact h
def gP(ρ : En)(i:Nat):Rs (List Tr):=match ρ[i]? with
 |some (.dp ts)=>.ok ts
 |_=>.bad
theorem HY(ρ : En)(i:Nat)(c:Str):gP ρ i ≠ .ex c:=by
 unfold gP
 split <;> (intro z; cases z)
theorem Ia{i:Nat}{ts:List Tr}(h:gP ρ i=.ok ts) : ρ[i]?=some (.dp ts):=by
 unfold gP at h
 split at h
 ·rename_i q; cases h; exact q
 ·cases h
theorem aJ.putD{i k:Nat}{ts us:List Tr}(e:aJ t W ρ σ H)(hi : ρ[i]?=some (.dp ts))(hk:ts[k]?=some (.lst us)):∃a xs b ys,σ[i]?=some (some (.ref a))/\H a=some (.lst xs)/\xs.length=ts.length/\xs[k]?=some (.ref b)/\H b=some (.lst ys)/\aL t.K (aA W H) ys us /\
  ∀ys' us',aL t.K (aA W H) ys' us'->aJ t W (ρ.set i (.dp (ts.set k (.lst us')))) σ (upd H b (.lst ys'))/\bG W H (upd H b (.lst ys'))/\aA W (upd H b (.lst ys'))=aA W H:=by
 obtain⟨F,e⟩:=e
 obtain⟨a,xs,h1,d⟩:=e.dp i ts hi
 have d':=d
 obtain⟨bs,ef,nd,ww,ha,r⟩:=d
 rw[ef]at nd
 have nd':=List.nodup_cons.mp nd
 obtain⟨b,ys,k1,k2,k3,k4,k5⟩:=r.row hk nd'.2
 have hb:b∈F i:=by rw[ef]; exact List.mem_cons_of_mem _ k2
 have wb:=(ww b hb).1
 have nab:a≠b:=λz=>nd'.1 (z▸k2)
 have lt:i < ρ.length:=(List.getElem?_eq_some_iff.mp hi).1
 refine⟨a,xs,b,ys,h1,ha,r.len,k1,k3,k4,λys' us' r'=>?_⟩
 have o:aA W (upd H b (.lst ys'))=aA W H:=jO wb
 have iu:∀(j:Nat) (s:Sl),(ρ.set i (.dp (ts.set k (.lst us'))))[j]?=some s->(j=i/\s=.dp (ts.set k (.lst us')))\/(j≠i/\ρ[j]?=some s):=λj s h=>by
  rcases get_set h with⟨z1,z2,_⟩|z
  ·exact .inl ⟨z1,z2⟩
  ·exact .inr z
 have mu:∀j,Mu (ρ.set i (.dp (ts.set k (.lst us')))) j->j≠i/\Mu ρ j:=λj m=>by
  obtain⟨zs,q|q⟩:=m <;> rcases iu _ _ q with⟨_,z⟩|⟨n,q⟩
  ·cases z
  ·exact⟨n,zs,.inl q⟩
  ·cases z
  ·exact⟨n,zs,.inr q⟩
 have ne:∀j c,Mu ρ j -> σ[j]?=some (some (V.ref c))->c≠b:=λj c m q z=>by
  subst z
  exact e.dm i j ts c hi m q hb
 have dz:∀(j:Nat) (zs:List Tr),(ρ.set i (.dp (ts.set k (.lst us'))))[j]?=some (Sl.dp zs)->∃zs',ρ[j]?=some (Sl.dp zs'):=λj zs h=>by
  rcases iu _ _ h with⟨rfl,_⟩|⟨_,h⟩
  ·exact⟨ts,hi⟩
  ·exact⟨zs,h⟩
 refine⟨⟨F,by rw[List.length_set]; exact e.len,e.zw,e.z0,λc w=>?_,λc q h n=>?_,λc h=>?_,λj u h=>?_,λj zs h=>?_,λj zs h=>?_,λj l c m1 m2=>e.dis j l c (mu j m1).2 (mu l m2).2,λc q h=>?_,λj c m=>e.pd j c (mu j m).2,λj zs h=>?_,λj l zs vs n q1 q2=>?_,λj l zs c q1 m q=>?_,λj zs h=>?_,e.tab.upd k3⟩,⟨λc q n h=>?_,λc h=>?_⟩,o⟩
 ·by_cases z:c=b
  ·subst z; exact .inl ⟨ys',cB⟩
  ·unfold Lt; rw[aO z]; exact e.wl c w
 ·rw[aO]
  ·exact e.f0 c q h n
  ·rintro rfl
   rw[(ww c hb).2]at h
   cases h
 ·by_cases z:c=b
  ·subst z; exact(ww c hb).2
  ·rw[aO z]at h; exact e.n0 c h
 ·rw[o]
  rcases iu _ _ h with⟨_,z⟩|⟨_,h⟩
  ·cases z
  ·exact e.sh j u h
 ·rw[o]
  rcases iu _ _ h with⟨_,z⟩|⟨_,h⟩
  ·cases z
  ·obtain⟨c,vs,q1,q2,q3,q4,q5⟩:=e.ow j zs h
   exact⟨c,vs,q1,q2,q3,by rw[aO (ne j c ⟨zs,.inl h⟩ q1)]; exact q4,q5⟩
 ·rw[o]
  rcases iu _ _ h with⟨_,z⟩|⟨_,h⟩
  ·cases z
  ·obtain⟨c,vs,q1,q2,q3,q4,q5⟩:=e.rf j zs h
   exact⟨c,vs,q1,q2,q3,by rw[aO (ne j c ⟨zs,.inr h⟩ q1)]; exact q4,q5⟩
 ·rw[aO]
  ·exact e.pn c q h
  ·rintro rfl
   rw[e.db i ts hi c hb]at h
   cases h
 ·rcases iu _ _ h with⟨rfl,z⟩|⟨nj,h⟩
  ·cases z
   refine⟨a,xs,h1,bs,ef,by rw[ef]; exact nd,ww,by rw[aO nab]; exact ha,?_⟩
   rw[o]
   exact k5 ys' us' r'
  ·obtain⟨c,vs,q1,dj⟩:=e.dp j zs h
   refine⟨c,vs,q1,dj.move rfl rfl (by rw[o]; exact Same.refl _) (λx hx=>by obtain⟨_,_,_,w2,_⟩:=dj; exact(w2 x hx).1) λx q hx z=>?_⟩
   rw[aO (show x≠b from λy=>e.dd i j ts zs (Ne.symm nj) hi h b hb (by rw[<-y]; exact hx))]
   exact z
 ·obtain⟨_,z1⟩:=dz j zs q1
  obtain⟨_,z2⟩:=dz l vs q2
  exact e.dd j l _ _ n z1 z2
 ·obtain⟨_,z1⟩:=dz j zs q1
  exact e.dm j l _ c z1 (mu l m).2 q
 ·obtain⟨_,z1⟩:=dz j zs h
  exact e.db j _ z1
 ·rw[aO λz=>n (by rw[z]; exact wb)]; exact h
 ·by_cases z:c=b
  ·subst z; rw[cB]at h; cases h
  ·rw[aO z]at h; exact h
end
end L2
end
section
namespace L2
open PySem PySem.Spec PyProof.Rows
abbrev QF:=En->Rs Tr
def SQ(t:Tx)(te:TE)(f:QF):Prop:=∀W ρ σ H Q,aJ t W ρ σ H->(f ρ).post (λ_=>False) (λT=>∀v,Rep t.K (aA W H) v T->Q v H)->te σ H Q
section
variable {t:Tx}{K:FZ}
def kE(i:Nat):QF:=λρ=>match ρ[i]? with
 |some (.sh T)=>.ok T
 |_=>.bad
theorem rO(i:Nat):SQ t (fY i) (kE i):=λW ρ σ H Q e h=>by
 unfold kE at h
 split at h
 ·rename_i T q
  obtain⟨v,h1,h2⟩:=e.sh i T q
  exact⟨v,h1,h v h2⟩
 ·exact h.elim
def qC(T:Tr):QF:=λ_=>.ok T
def iG(ts:List Tr)(k:Tr):Rs (Nat × Tr):=match k with
 | .int i=>(match gM ts.length i with
  | some j=>(match ts[j]? with
   |some u=>.ok (j,u)
   |none=>.bad)
  |none=>.bad)
 |_=>.bad
theorem Qx{ts:List Tr}{k:Tr}{j:Nat}{u:Tr}(h:iG ts k=.ok (j,u)):∃i,k=.int i/\gM ts.length i=some j/\ts[j]?=some u:=by
 unfold iG at h
 split at h
 ·rename_i i
  split at h
  ·rename_i j' e
   split at h
   ·rename_i u' e2
    cases h
    exact⟨i,rfl,e,e2⟩
   ·cases h
  ·cases h
 ·cases h
theorem Qy(ts:List Tr)(k:Tr)(c:Str):iG ts k ≠ .ex c:=by
 unfold iG
 split <;> (try split) <;> (try split) <;> (intro z; cases z)
theorem Z8(hK:t.K=aB K){W:Addr->Prop}{ρ : En}{σ : St}{H:Hp}{i j:Nat}{ts us:List Tr}{tk:TE}{fk:QF}{kT:Tr}{Q:VK}(e:aJ t W ρ σ H)(hi : ρ[i]?=some (.dp ts))(hk:SQ t tk fk)(h1:fk ρ=.ok kT)(h2:iG ts kT=.ok (j,.lst us))
  (q:∀a xs b ys,σ[i]?=some (some (.ref a))->H a=some (.lst xs)->xs[j]?=some (.ref b)->H b=some (.lst ys)->aL t.K (aA W H) ys us->(∀ys' us',aL t.K (aA W H) ys' us'->aJ t W (ρ.set i (.dp (ts.set j (.lst us')))) σ (upd H b (.lst ys'))/\bG W H (upd H b (.lst ys'))/\aA W (upd H b (.lst ys'))=aA W H)->Q (.ref b) H):eU (nG K) (fY i) tk σ H Q:=by
 obtain⟨k,rfl,h3,h4⟩:=Qx h2
 obtain⟨a,xs,b,ys,k1,k2,k3,k4,k5,k6,k7⟩:=e.putD hi h4
 refine⟨_,k1,hk W ρ σ H _ e ?_⟩
 rw[h1]
 intro v rv
 cases rv
 refine .inl ⟨a,xs,k,.ref b,rfl,rfl,bw.of k2,?_,q a xs b ys k1 k2 k4 k5 k6 k7⟩
 unfold eX
 rw[k3,h3]
 exact k4
def Z9(i:Nat)(fk fj:QF):QF:=λρ=>(gP ρ i).bind λts=>(fk ρ).bind λk=>(iG ts k).bind λz=>match z.2 with
 |.lst us=>(fj ρ).bind λj=>(iG us j).bind λy=>.ok y.2
 |_=>.bad
def aac(i:Nat)(fk:QF)(m:GM)(fa:QF):SF:=λρ=>(gP ρ i).bind λts=>(bW (fk ρ)).bind λk=>(iG ts k).bind λz=>match z.2 with
 |.lst us=>(bW (fa ρ)).bind λT=>(m us [T]).bind λy=>.ok (.nx,ρ.set i (.dp (ts.set z.1 (.lst y.1))))
 |_=>.bad
noncomputable def tQ(i:Nat)(fk fj:QF)(fe:EF):SF:=λρ=>(fe ρ).bind λp=>(lM p.1).bind λT=>(gP p.2 i).bind λts=>(bW (fk p.2)).bind λk=>(iG ts k).bind λz=>match z.2 with
 |.lst us=>(bW (fj p.2)).bind λj=>(iG us j).bind λy=>.ok (.nx,p.2.set i (.dp (ts.set z.1 (.lst (us.set y.1 T)))))
 |_=>.bad
theorem BJ(hK:t.K=aB K)(i:Nat){te tk tj:TE}{fk fj:QF}{fe:EF}(he:SE t te fe)(hk:SQ t tk fk)(hj:SQ t tj fj):SS t (jA te (Ml (eU (nG K) (fY i) tk) tj N5)) (tQ i fk fj fe):=λW ρ σ H D e h=>by
 refine he W ρ σ H _ e (Rs.aY (Rs.aN h) λp h v H1 e1 s1 v1=>?_)
 obtain⟨T,kT,h⟩:=cV (Rs.aN h) (Hv _)
 have rv:Rep t.K (aA W H1) v T:=by
  obtain⟨r,ρ1⟩:=p
  cases r with
  |s i=>cases kT
  |v U fr=>cases kT; exact v1.1.rep e.wn
 obtain⟨ts,k0,h⟩:=cV (Rs.aN h) (HY _ _)
 obtain⟨k,g1,h⟩:=cV (Rs.aN h) (Hr _)
 obtain⟨⟨m,u⟩,k2,h⟩:=cV (Rs.aN h) (Qy _ _)
 cases u <;> try exact h.elim
 rename_i us
 obtain⟨j,g2,h⟩:=cV (Rs.aN h) (Hr _)
 obtain⟨⟨m',u'⟩,k3,hf⟩:=cV (Rs.aN h) (Qy _ _)
 obtain⟨z,rfl,h5,h6⟩:=Qx k3
 have un:∀{α : Type} {x:Rs α} {a : α},bW x=.ok a->x=.ok a:=λ{α x a} z=>by cases x <;> first|exact z|cases z
 have g1:=un g1
 have g2:=un g2
 show eU (nG K) (fY i) tk σ H1 λo H1=>_
 refine Z8 hK e1 (Ia k0) hk g1 k2 λa xs b ys q1 q2 q3 q4 q5 q6=>?_
 refine hj W p.2 σ H1 _ e1 ?_
 rw[g2]
 intro w pA
 cases pA
 obtain⟨e3,s3,_⟩:=q6 _ _ (q5.set rv m')
 exact⟨b,ys,z,m',rfl,rfl,q4,by rw[q5.length]; exact h5,hf W σ _ e3 (s1.trans s3).nxt⟩
def oH(i:Nat)(ρ : En):En:=match ρ[i]? with
 |some (.dp ts)=>ρ.set i (.ow ts)
 |_=>ρ
theorem aJ.oH{W:Addr->Prop}{ρ : En}{σ : St}{H:Hp}(e:aJ t W ρ σ H)(i:Nat):∃W',aJ t W' (L2.oH i ρ) σ H/\fW W H W' H:=by
 unfold L2.oH
 split
 ·rename_i ts q
  obtain⟨F,e⟩:=e
  obtain⟨a,xs,h1,bs,ef,nd,ww,ha,r⟩:=e.dp i ts q
  have nd':=nd
  rw[ef]at nd'
  have nab:=(List.nodup_cons.mp nd').1
  have m:Same (aA W H) (aA (λb=>W b/\b∉bs) H):=mJ (λ_ _ _ z=>z.1) λ_ _ _ h=>h
  have inF:∀b∈bs,b∈F i:=λb hb=>by rw[ef]; exact List.mem_cons_of_mem _ hb
  have aF:a∈F i:=by rw[ef]; exact List.mem_cons_self ..
  have lt:i < ρ.length:=(List.getElem?_eq_some_iff.mp q).1
  have mu:∀j,Mu (ρ.set i (.ow ts)) j->j=i\/(j≠i/\Mu ρ j):=λj h=>by
   obtain⟨us,h|h⟩:=h <;> rcases get_set h with⟨rfl,z,_⟩|⟨ne,h⟩
   ·exact .inl rfl
   ·exact .inr ⟨ne,us,.inl h⟩
   ·exact .inl rfl
   ·exact .inr ⟨ne,us,.inr h⟩
  have dz:∀(j:Nat) (us:List Tr),(ρ.set i (.ow ts))[j]?=some (Sl.dp us)->j≠i/\ρ[j]?=some (Sl.dp us):=λj us h=>by
   rcases get_set h with⟨rfl,z,_⟩|⟨ne,h⟩
   ·cases z
   ·exact⟨ne,h⟩
  have Qz:∀j c,Mu ρ j -> σ[j]?=some (some (V.ref c))->c∉bs:=λj c mj qj z=>e.dm i j ts c q mj qj (inF c z)
  refine⟨λb=>W b/\b∉bs,⟨F,by rw[List.length_set]; exact e.len,λb z=>⟨e.zw b z,λhb=>e.z0 b z (ww b (inF b hb)).2⟩,e.z0,λb w=>e.wl b w.1,e.f0,e.n0,λj u h=>?_,λj us h=>?_,λj us h=>?_,λj k c m1 m2 q1 q2=>?_,e.pn,λj c m1 q1=>?_,λj us h=>?_,λj k us vs n g1 g2=>e.dd j k us vs n (dz j us g1).2 (dz k vs g2).2,λj k us c g1 m1 q1=>?_,λj us h=>e.db j us (dz j us h).2,e.tab.cut (D:=λb=>b∈bs) (λb hb=>r.lst b hb)⟩,λb o n h=>⟨λz=>n z.1,h⟩⟩
  ·rcases get_set h with⟨rfl,z,l⟩|⟨ne,h⟩
   ·cases z
   ·obtain⟨w,g1,g2⟩:=e.sh j u h
    exact⟨w,g1,g2.mono m⟩
  ·rcases get_set h with⟨rfl,z,l⟩|⟨ne,h⟩
   ·cases z
    refine⟨a,xs,h1,⟨(ww a aF).1,nab⟩,(ww a aF).2,ha,r.reps m λb ys hb hy=>?_⟩
    rw[cC λz=>z.2 hb]
    exact hy
   ·obtain⟨c,ys,g1,g2,g3,g4,g5⟩:=e.ow j us h
    exact⟨c,ys,g1,⟨g2,Qz j c ⟨us,.inl h⟩ g1⟩,g3,g4,g5.mono m⟩
  ·rcases get_set h with⟨rfl,z,l⟩|⟨ne,h⟩
   ·cases z
   ·obtain⟨c,ys,g1,g2,g3,g4,g5⟩:=e.rf j us h
    exact⟨c,ys,g1,⟨g2,Qz j c ⟨us,.inr h⟩ g1⟩,g3,g4,g5.mono m⟩
  ·have self:∀c,σ[i]?=some (some (V.ref c))->c=a:=λc z=>by rw[h1]at z; cases z; rfl
   rcases mu j m1 with y1|⟨n1,v1⟩ <;> rcases mu k m2 with y2|⟨n2,v2⟩
   ·rw[y1,y2]
   ·rw[y1]at q1
    have:=self c q1
    subst this
    exact(e.dm i k ts c q v2 q2 aF).elim
   ·rw[y2]at q2
    have:=self c q2
    subst this
    exact(e.dm i j ts c q v1 q1 aF).elim
   ·exact e.dis j k c v1 v2 q1 q2
  ·rcases mu j m1 with y1|⟨n1,v1⟩
   ·rw[y1,h1]at q1
    cases q1
    exact e.db i ts q a aF
   ·exact e.pd j c v1 q1
  ·obtain⟨nj,h⟩:=dz j us h
   obtain⟨c,ys,g1,d⟩:=e.dp j us h
   refine⟨c,ys,g1,d.move rfl rfl m (λb hb=>⟨by obtain⟨_,_,_,w2,_⟩:=d; exact(w2 b hb).1,λz=>e.dd j i us ts nj h q b hb (inF b z)⟩) λ_ _ _ z=>z⟩
  ·obtain⟨nj,g2⟩:=dz j us g1
   rcases mu k m1 with y1|⟨n1,v1⟩
   ·rw[y1,h1]at q1
    cases q1
    exact λz=>e.dd i j ts us (Ne.symm nj) q g2 a aF z
   ·exact e.dm j k us c g2 v1 q1
 ·exact⟨W,e,fW.refl _ _⟩
def BK(i:Nat)(f:SF):SF:=λρ=>f (oH i ρ)
theorem aad{ts:TS}{f:SF}(i:Nat)(h:SS t ts f):SS t ts (BK i f):=λW ρ σ H D e q=>by
 obtain⟨W',e',n⟩:=e.oH i
 exact h W' _ σ H D e' (Rs.aY q λp q=>q.back n)
end
end L2
end
section
namespace L2
open PySem PySem.Spec PyProof.Rows
open Classical in
def tP(t:Tx)(src:List (Option Nat))(ρ : En)(σ : St)(F:Nat->List Addr)(H1 P:Hp):Tx:=⟨t.K,t.Z,t.R,t.H0,λb=>if P b=none then(if OU src ρ σ F b then H1 b else t.B b)else P b,λ_=>False⟩
section
variable {t:Tx}{src:List (Option Nat)}{ρ1:En}{σ : St}{F:Nat->List Addr}{H1 P:Hp}{D:Addr}{W:Addr->Prop}
theorem kJ{b:Addr}{o:HO}(h:P b=some o):(tP t src ρ1 σ F H1 P).B b=some o:=by
 unfold tP
 dsimp only
 rw[if_neg (by rw[h]; intro z; cases z),h]
theorem xY{b:Addr}(h1:P b=none)(h2:¬OU src ρ1 σ F b):(tP t src ρ1 σ F H1 P).B b=t.B b:=by
 unfold tP
 dsimp only
 rw[if_pos h1,if_neg h2]
theorem vq{b:Addr}(h1:P b=none)(h2:OU src ρ1 σ F b):(tP t src ρ1 σ F H1 P).B b=H1 b:=by
 unfold tP
 dsimp only
 rw[if_pos h1,if_pos h2]
theorem aae:tP t src ρ1 σ F H1 (upd (λ_=>none) D (.lst []))=fZ t src ρ1 σ F H1 D []:=by
 unfold tP fZ
 congr 1
 funext b
 by_cases e:b=D
 ·subst e
  rw[cB,if_neg (by intro z; cases z),if_pos rfl]
 ·rw[aO e,if_pos rfl,if_neg e]
theorem EOF.aaf{P:Hp}{ρ : En}{τ : St}{H:Hp}{js:List Nat}(I:Inj src)(dB:EOF t W ρ1 σ H1 F)(hP:∀b,P b≠none->H1 b=none)(e:aJ (tP t src ρ1 σ F H1 P) (λb=>W b\/P b≠none) ρ τ H)(nx:∀b o,¬W b->H1 b=some o->H b=some o)
  (hj:∀k j:Nat,src[k]?=some (some j)->k∉js) (ag:∀k,k∉js -> τ[k]?=(dJ src σ)[k]?) (so:dW src ρ ρ1=true):EOF t (λb=>W b\/P b≠none) (bT src ρ ρ1) σ H F:=by
 have w1:∀b,W b->W b\/P b≠none:=λ_ w=>.inl w
 have e1:aJ t W ρ1 σ H1:=⟨F,dB⟩
 have m1:Same (aA W H1) (aA (λb=>W b\/P b≠none) H):=λb o h=>by
  obtain⟨n,h⟩:=gj h
  rw[cC]
  ·exact nx b o n h
  ·rintro(z|z)
   ·exact n z
   ·rw[hP b z]at h; cases h
 have m2:Same (aA (λb=>W b\/P b≠none) H) (aA (λb=>W b\/P b≠none) H):=Same.refl _
 have nP:∀b,H1 b≠none->P b=none:=λb n=>by
  cases z:P b with
  |none=>rfl
  |some o=>exact(n (hP b (by rw[z]; intro y; cases y))).elim
 have pY:∀j,Mu (bT src ρ ρ1) j->Mu ρ1 j:=λj m=>by
  obtain⟨ts,m|m⟩:=m <;> rcases lK I m with⟨k,us,q1,q2,q3⟩|⟨n,q⟩
  ·exact oh ⟨ts,.inl q3⟩
  ·exact⟨ts,.inl q⟩
  ·exact oh ⟨ts,.inr q3⟩
  ·exact⟨ts,.inr q⟩
 have inner:∀(k j:Nat) (ts:List Tr) (a:Addr),src[k]?=some (some j)->(ρ[k]?=some (.ow ts)\/ρ[k]?=some (.rf ts)) -> σ[j]?=some (some (.ref a))->∃ys,H a=some (.lst ys)/\aL t.K (aA (λb=>W b\/P b≠none) H) ys ts:=λk j ts a q1 q2 q3=>by
  have z:=ag k (hj k j q1)
  rw[xR q1 q3]at z
  rcases q2 with q2|q2
  ·obtain⟨c,ys,h1,h2,h3,h4,h5⟩:=e.ow k ts q2
   rw[z]at h1
   cases h1
   exact⟨ys,h4,h5.mono m2⟩
  ·obtain⟨c,ys,h1,h2,h3,h4,h5⟩:=e.rf k ts q2
   rw[z]at h1
   cases h1
   exact⟨ys,h4,h5.mono m2⟩
 have outer:∀(j:Nat) (a:Addr) (ys:List V),Mu ρ1 j->(∀k,src[k]?=some (some j)->¬Mu ρ k) -> σ[j]?=some (some (.ref a))->H1 a=some (.lst ys)->H a=some (.lst ys):=λj a ys m n q h=>by
  have wa:=e1.addr m q
  have nD:P a=none:=nP a (e1.wn a wa)
  refine e.pn a _ ?_
  rw[vq nD (.inl ⟨j,m,q,λk z=>n k z (Bp so z m)⟩)]
  exact h
 refine⟨by rw[rE]; exact e1.len,λb z=>w1 b (e1.zw b z),e1.z0,e.wl,e.f0,e.n0,λj u h=>?_,λj ts h=>?_,λj ts h=>?_,λj k a n1 n2=>e1.dis j k a (pY j n1) (pY k n2),λb o h=>?_,λj a m=>e1.pd j a (pY j m),λj ts h=>?_,λj k ts us n h1 h2=>dB.dd j k ts us n (j8 I h1) (j8 I h2),λj k ts c h1 m q=>dB.dm j k ts c (j8 I h1) (pY k m) q,λj ts h=>dB.db j ts (j8 I h),⟨e.tab.ok,λb z=>w1 b (e1.tab.w b z),e1.tab.r,e1.tab.B⟩⟩
 ·have h' : ρ1[j]?=some (.sh u):=by
   rcases lK I h with⟨k,us,q1,q2,q3⟩|⟨n,q⟩
   ·rcases oA q3 with⟨ne,_⟩|⟨_,⟨_,_,z⟩|⟨_,_,z⟩|⟨_,q⟩⟩
    ·exact(ne rfl).elim
    ·cases z
    ·cases z
    ·exact q
   ·exact q
  obtain⟨v,q1,q2⟩:=e1.sh j u h'
  exact⟨v,q1,q2.mono m1⟩
 ·rcases lK I h with⟨k,us,q1,q2,q3⟩|⟨n,q⟩
  ·rcases oA q3 with⟨ne,_⟩|⟨_,⟨ts0,q0,z⟩|⟨_,_,z⟩|⟨nm,q⟩⟩
   ·exact(ne rfl).elim
   ·cases z
    obtain⟨a,ys,h1,h2,h3,h4,h5⟩:=e1.ow j ts0 q0
    obtain⟨zs,k1,k2⟩:=inner k j ts a q1 q2 h1
    exact⟨a,zs,h1,w1 a h2,h3,k1,k2⟩
   ·cases z
   ·exact(nm ⟨ts,.inl q⟩).elim
  ·obtain⟨a,ys,h1,h2,h3,h4,h5⟩:=e1.ow j ts q
   exact⟨a,ys,h1,w1 a h2,h3,outer j a ys ⟨ts,.inl q⟩ n h1 h4,h5.mono m1⟩
 ·rcases lK I h with⟨k,us,q1,q2,q3⟩|⟨n,q⟩
  ·rcases oA q3 with⟨ne,_⟩|⟨_,⟨_,_,z⟩|⟨ts0,q0,z⟩|⟨nm,q⟩⟩
   ·exact(ne rfl).elim
   ·cases z
   ·cases z
    obtain⟨a,ys,h1,h2,h3,h4,h5⟩:=e1.rf j ts0 q0
    obtain⟨zs,k1,k2⟩:=inner k j ts a q1 q2 h1
    exact⟨a,zs,h1,w1 a h2,h3,k1,k2⟩
   ·exact(nm ⟨ts,.inr q⟩).elim
  ·obtain⟨a,ys,h1,h2,h3,h4,h5⟩:=e1.rf j ts q
   exact⟨a,ys,h1,w1 a h2,h3,outer j a ys ⟨ts,.inr q⟩ n h1 h4,h5.mono m1⟩
 ·have nD:P b=none:=nP b λz=>by
   rw[e1.xK z]at h
   cases h
  have nO:¬OU src ρ1 σ F b:=by
   rintro(⟨j,m,q,_⟩|⟨j,ts,d',z⟩)
   ·rw[e1.pd j b m q]at h
    cases h
   ·rw[dB.db j ts d' b z]at h
    cases h
  refine e.pn b o ?_
  rw[xY nD nO]
  exact h
 ·have hd:=j8 I h
  obtain⟨a,ys,q1,d⟩:=dB.dp j ts hd
  have ww:∀b∈F j,W b:=λb hb=>by obtain⟨_,_,_,ww,_⟩:=d; exact(ww b hb).1
  refine⟨a,ys,q1,d.move rfl rfl m1 (λb hb=>w1 b (ww b hb)) λb o hb q=>?_⟩
  have nD:P b=none:=nP b (e1.wn b (ww b hb))
  refine e.pn b o ?_
  rw[vq nD (.inr ⟨j,ts,hd,hb⟩)]
  exact q
theorem aJ.aag{ρ : En}{τ : St}{H:Hp}{W':Addr->Prop}{a:Addr}{ys zs:List V}(e0:aJ (tP t src ρ1 σ F H1 P) W' ρ τ H)(na:¬W' a)(e:nJ (tP t src ρ1 σ F H1 P) W' a ρ τ H)(wD:W' D)(pD:∃o:List V,P D=some (.lst o))(rH:t.H0 D=none)(QB:t.H0 a=none)(ha:H a=some (.lst ys)) :
  aJ (tP t src ρ1 σ F H1 (upd (upd P a (.lst ys)) D (.lst zs))) (λb=>W' b\/b=a) ρ τ (upd H D (.lst zs)):=by
 obtain⟨oD,pD⟩:=pD
 have aD:a≠D:=λz=>na (by rw[z]; exact wD)
 have wa:∀i c,Mu ρ i -> τ[i]?=some (some (V.ref c))->c≠a:=λi c m q z=>na (by rw[<-z]; exact e0.addr m q)
 obtain⟨F2,e,nF⟩:=e
 have Ib:∀i c,Mu ρ i -> τ[i]?=some (some (V.ref c))->c≠D:=λi c m q z=>by
  subst z
  have:=e.pd i c m q
  rw[kJ pD]at this
  cases this
 have xT:∀i ts,ρ[i]?=some (Sl.dp ts)->∀b∈F2 i,b≠D:=λi ts h b hb z=>by
  subst z
  have:=e.db i ts h b hb
  rw[kJ pD]at this
  cases this
 have Bn:∀c,c≠D->c≠a->(tP t src ρ1 σ F H1 P).B c=none->(tP t src ρ1 σ F H1 (upd (upd P a (.lst ys)) D (.lst zs))).B c=none:=λc h1 h2 z=>by
  have pc:(upd (upd P a (.lst ys)) D (.lst zs)) c=P c:=by rw[aO h1,aO h2]
  cases q:P c with
  |some o=>rw[kJ q]at z; cases z
  |none =>
   by_cases ou:OU src ρ1 σ F c
   ·rw[vq q ou]at z
    rw[vq (pc.trans q) ou]
    exact z
   ·rw[xY q ou]at z
    rw[xY (pc.trans q) ou]
    exact z
 have w:W' D\/D=a:=.inl wD
 refine⟨F2,e.len,e.zw,e.z0,λb z=>?_,λb o h n=>?_,λb h=>?_,λi u h=>?_,λi ts h=>?_,λi ts h=>?_,e.dis,λb o h=>?_,λi c m q=>Bn c (Ib i c m q) (wa i c m q) (e.pd i c m q),λi ts h=>?_,e.dd,e.dm,λi ts h b hb=>Bn b (xT i ts h b hb) (λz=>nF i ts h (by rw[<-z]; exact hb)) (e.db i ts h b hb),⟨?_,e.tab.w,e.tab.r,λb z=>Bn b (λy=>?_) (λy=>?_) (e.tab.B b z)⟩⟩
 ·by_cases q:b=D
  ·subst q; exact .inl ⟨zs,cB⟩
  ·unfold Lt; rw[aO q]; exact e.wl b z
 ·rw[aO]
  ·exact e.f0 b o h n
  ·rintro rfl
   have h:t.H0 b=some o:=h
   rw[rH]at h
   cases h
 ·by_cases q:b=D
  ·subst q; exact rH
  ·rw[aO q]at h; exact e.n0 b h
 ·rw[jO w]
  exact e.sh i u h
 ·obtain⟨c,vs,q1,q2,q3,q4,q5⟩:=e.ow i ts h
  rw[jO w]
  exact⟨c,vs,q1,q2,q3,by rw[aO (Ib i c ⟨ts,.inl h⟩ q1)]; exact q4,q5⟩
 ·obtain⟨c,vs,q1,q2,q3,q4,q5⟩:=e.rf i ts h
  rw[jO w]
  exact⟨c,vs,q1,q2,q3,by rw[aO (Ib i c ⟨ts,.inr h⟩ q1)]; exact q4,q5⟩
 ·by_cases h1:b=D
  ·subst h1
   rw[kJ cB]at h
   rw[cB]
   exact h
  ·rw[aO h1]
   by_cases h2:b=a
   ·subst h2
    rw[kJ (by rw[aO h1]; exact cB)]at h
    rw[ha]
    exact h
   ·refine e.pn b o ?_
    have pc:(upd (upd P a (.lst ys)) D (.lst zs)) b=P b:=by rw[aO h1,aO h2]
    cases q:P b with
    |some o'=>rw[kJ (pc.trans q)]at h; rw[kJ q]; exact h
    |none =>
     by_cases ou:OU src ρ1 σ F b
     ·rw[vq (pc.trans q) ou]at h; rw[vq q ou]; exact h
     ·rw[xY (pc.trans q) ou]at h; rw[xY q ou]; exact h
 ·obtain⟨c,vs,q1,d⟩:=e.dp i ts h
  exact⟨c,vs,q1,d.move rfl rfl (by rw[jO w]; exact Same.refl _) (λb hb=>by obtain⟨_,_,_,ww,_⟩:=d; exact(ww b hb).1) λb o hb q=>by rw[aO (xT i ts h b hb)]; exact q⟩
 ·exact e.tab.ok.upd (e.pn D _ (kJ pD))
 ·subst y
  have y:=e.tab.B b z
  rw[kJ pD]at y
  cases y
 ·subst y
  exact e.tab.ok.ne z ha rfl
theorem EOF.QC{ρ : En}{H:Hp}{i:Nat}{xs:List V}{ts:List Tr}{bs:List Addr}(e:EOF t W ρ σ H F)(nd:(D::bs).Nodup)(ww:∀b∈D::bs,W b/\t.H0 b=none)(hB:∀b∈D::bs,t.B b=none)(hF:∀(j:Nat) (us:List Tr),ρ[j]?=some (Sl.dp us)->∀b∈D::bs,b∉F j)
  (hM:∀(j:Nat) (c:Addr),Mu ρ j -> σ[j]?=some (some (V.ref c))->c∉D::bs) (ha:H D=some (.lst xs)) (r:DR t.K (aA W H) H xs ts bs):aJ t W (ρ.set i (.dp ts)) (σ.set i (some (.ref D))) H:=by
 have iu:∀(j:Nat) (s:Sl),(ρ.set i (.dp ts))[j]?=some s->(j=i/\s=.dp ts/\i < ρ.length)\/(j≠i/\ρ[j]?=some s):=λj s h=>get_set h
 have mu:∀j,Mu (ρ.set i (.dp ts)) j->j≠i/\Mu ρ j:=λj m=>by
  obtain⟨zs,q|q⟩:=m <;> rcases iu _ _ q with⟨_,z,_⟩|⟨n,q⟩
  ·cases z
  ·exact⟨n,zs,.inl q⟩
  ·cases z
  ·exact⟨n,zs,.inr q⟩
 have keep:∀(j:Nat),j≠i->(σ.set i (some (V.ref D)))[j]?=σ[j]? := λj n=>List.getElem?_set_ne (Ne.symm n)
 refine⟨λj=>if j=i then D::bs else F j,by rw[List.length_set,List.length_set]; exact e.len,e.zw,e.z0,e.wl,e.f0,e.n0,λj u h=>?_,λj zs h=>?_,λj zs h=>?_,λj k c m1 m2 q1 q2=>?_,e.pn,λj c m q=>?_,λj zs h=>?_,λj k zs vs n q1 q2=>?_,λj k zs c q1 m q=>?_,λj zs h=>?_,e.tab⟩
 ·rcases iu _ _ h with⟨_,z,_⟩|⟨n,h⟩
  ·cases z
  ·rw[keep j n]; exact e.sh j u h
 ·rcases iu _ _ h with⟨_,z,_⟩|⟨n,h⟩
  ·cases z
  ·rw[keep j n]; exact e.ow j zs h
 ·rcases iu _ _ h with⟨_,z,_⟩|⟨n,h⟩
  ·cases z
  ·rw[keep j n]; exact e.rf j zs h
 ·obtain⟨n1,v1⟩:=mu j m1
  obtain⟨n2,v2⟩:=mu k m2
  rw[keep j n1]at q1
  rw[keep k n2]at q2
  exact e.dis j k c v1 v2 q1 q2
 ·obtain⟨n1,v1⟩:=mu j m
  rw[keep j n1]at q
  exact e.pd j c v1 q
 ·rcases iu _ _ h with⟨y,z,l⟩|⟨n,h⟩
  ·cases z
   subst y
   refine⟨D,xs,tE (by rw[<-e.len]; exact l),?_⟩
   rw[if_pos rfl]
   exact⟨bs,rfl,nd,ww,ha,r⟩
  ·rw[keep j n,if_neg n]
   exact e.dp j zs h
 ·rcases iu _ _ q1 with⟨y1,_,_⟩|⟨n1,q1⟩ <;> rcases iu _ _ q2 with⟨y2,_,_⟩|⟨n2,q2⟩
  ·exact(n (y1.trans y2.symm)).elim
  ·rw[if_pos y1,if_neg n2]
   exact λb hb=>hF k vs q2 b hb
  ·rw[if_neg n1,if_pos y2]
   exact λb hb z=>hF j zs q1 b z hb
  ·rw[if_neg n1,if_neg n2]
   exact e.dd j k zs vs n q1 q2
 ·obtain⟨n2,v2⟩:=mu k m
  rw[keep k n2]at q
  rcases iu _ _ q1 with⟨y1,_,_⟩|⟨n1,q1⟩
  ·rw[if_pos y1]
   exact hM k c v2 q
  ·rw[if_neg n1]
   exact e.dm j k zs c q1 v2 q
 ·rcases iu _ _ h with⟨y1,_,_⟩|⟨n1,q1⟩
  ·rw[if_pos y1]
   exact hB
  ·rw[if_neg n1]
   exact e.db j zs q1
theorem DR.app{K:FZ}{G H:Hp}:∀{xs ys:List V} {ts us:List Tr} {bs cs:List Addr},DR K G H xs ts bs->DR K G H ys us cs->DR K G H (xs++ys) (ts++us) (bs++cs)
 |_,_,_,_,_,_,.nil,s=>s
 |_,_,_,_,_,_,.cl n h r,s=>.cl n h (DR.app r s)
 |_,_,_,_,_,_,.rw h q r,s=>.rw h q (DR.app r s)
end
end L2
end
section
namespace L2
open PySem PySem.Spec PyProof.Rows
def tU:Rv->Rs Tr
 |.v (.lst us) true=>.ok (.lst us)
 |_=>.bad
theorem aah(r:Rv)(c:Str):tU r ≠ .ex c:=by
 unfold tU
 split <;> (intro z; cases z)
def tV(g:GF)(c:BF)(f:EF):List Tr->En->Rs (List Tr × En)
 | [],ρ=>.ok ([],ρ)
 |u::us,ρ=>(g u ρ).bind λρ1=>(c ρ1).bind λb=>if b.1=true then(f b.2).bind λp=>(tU p.1).bind λT=>(tV g c f us p.2).bind λz=>.ok (T::z.1,z.2)else tV g c f us b.2
def oJ(i:Nat)(src:List (Option Nat))(fi:IF)(g:GF)(c:BF)(f:EF):SF:=λρ=>(fi ρ).bind λp=>if p.1.length<=100000 then(bW (tV g c f p.1 (dU src p.2))).bind λz=>if dW src z.2 p.2=true then .ok (.nx,(bT src z.2 p.2).set i (.dp z.1))else .bad else .bad
theorem aai{t:Tx}{wi:TI}{g:TG}{src:List (Option Nat)}{tc:TT}{te:TE}{fi:IF}{gf:GF}{c:BF}{f:EF}{js:List Nat}(n:Nat)(hi:SI t wi fi)(I:Inj src)(hj:∀k j:Nat,src[k]?=some (some j)->k∉js)(ng:∀T ρ c,gf T ρ ≠ .ex c)
  (hg:∀t':Tx,t'.K=t.K->(∀c,¬t'.EX c)->SG t' g gf js) (hc:∀t':Tx,t'.K=t.K->(∀c,¬t'.EX c)->ST t' tc c) (he:∀t':Tx,t'.K=t.K->(∀c,¬t'.EX c)->SE t' te f):SS t (jA (pW wi g src tc te) (cU n)) (oJ n src fi gf c f):=λW ρ σ H E e h=>by
 refine hi W ρ σ H _ e (Rs.aY (Rs.aN h) λp h J H1 e1 s1 it=>?_)
 obtain⟨us,ρ1⟩:=p
 dsimp only at h it e1
 split at h
 case isFalse=>exact h.elim
 rename_i hlen
 intro D hD
 have h:=xP (Rs.aN h)
 obtain⟨F,dB⟩:=id e1
 have rH:t.H0 D=none:=e1.n0 D hD
 refine⟨λi m τ H'=>m=us.length-i/\i<=us.length/\∃ρ' xs acc bs P,aJ (tP t src ρ1 σ F H1 P) (λb=>W b\/P b≠none) ρ' τ H'/\P D=some (.lst xs)/\(∀b,P b≠none↔b∈D::bs)/\(D::bs).Nodup/\DR t.K (aA (λb=>W b\/P b≠none) H') H' xs acc bs/\(∀b∈D::bs,H1 b=none)/\xs.length<=i/\(∀b o,¬W b->H1 b=some o->H' b=some o)/\(∀k,k∉js -> τ[k]?=(dJ src σ)[k]?) /\
   (tV gf c f (us.drop i) ρ').post (λ_=>False) (λz=>(if dW src z.2 ρ1=true then .ok (.nx,(bT src z.2 ρ1).set n (.dp (acc++z.1)))else .bad:Rs (Fl × En)).post t.EX (lG t W H E)),?_,?_⟩
 ·have hs:(λb=>W b\/(upd (λ_=>none) D (HO.lst []):Hp) b≠none)=λb=>W b\/b=D:=by
   funext b
   by_cases z:b=D
   ·subst z; rw[cB]; simp
   ·rw[aO z]; simp[z]
  refine⟨us.length,by simp,Nat.zero_le _,dU src ρ1,[],[],[],upd (λ_=>none) D (.lst []),?_,cB,λb=>?_,List.nodup_cons.mpr ⟨by simp,List.nodup_nil⟩,.nil,λb hb=>?_,Nat.le_refl _,λb o _ q=>?_,λ_ _=>rfl,?_⟩
  ·rw[aae,hs]
   exact dB.enter I hD
  ·by_cases z:b=D
   ·subst z; rw[cB]; simp
   ·rw[aO z]; simp[z]
  ·have:b=D:=by simpa using hb
   rw[this]
   exact hD
  ·rw[aO (gC q hD)]; exact q
  ·rw[List.drop_zero]; exact h
 ·rintro i m τ H2 ⟨rfl,hi,ρ2,xs,acc,bs,P,e2,pD,pb,nd,r2,new,l2,n2,a2,h2⟩
  have wD:W D\/P D≠none:=.inr (by rw[pD]; intro z; cases z)
  have sm:Same (aA W H1) (aA (λb=>W b\/P b≠none) H2):=λb o q=>by
   obtain⟨nw,q⟩:=gj q
   rw[cC]
   ·exact n2 b o nw q
   ·rintro(z|z)
    ·exact nw z
    ·rw[new b ((pb b).mp z)]at q; cases q
  have q:=it _ H2 sm e2.wl i
  by_cases hlt:i<us.length
  ·rw[List.drop_eq_getElem_cons hlt]at h2
   obtain⟨go,y⟩:=q.2 us[i] (by simp[hlt])
   refine .inr ⟨go,λx H3 yl=>?_⟩
   obtain⟨s3,r3⟩:=y x H3 yl
   have e3:=e2.grow s3
   refine hg (tP t src ρ1 σ F H1 P) rfl (λ_=>id) _ ρ2 τ H3 x us[i] _ e3 r3 (Rs.aY (jz (Rs.aN h2) (ng _ _)) λρ4 h σ4 e4 a4=>?_)
   refine hc (tP t src ρ1 σ F H1 P) rfl (λ_=>id) _ ρ4 σ4 H3 _ e4 (Rs.aY (Rs.aN h) λb h H5 e5 s5=>?_)
   have gD:bG (λb=>W b\/P b≠none) H2 H5:=(bG.of s3).trans s5
   have n5:∀b o,¬W b->H1 b=some o->H5 b=some o:=λb o nw qb=>by
    refine gD.keep b o ?_ (n2 b o nw qb)
    rintro(z|z)
    ·exact nw z
    ·rw[new b ((pb b).mp z)]at qb; cases qb
   have a5:∀k,k∉js -> σ4[k]?=(dJ src σ)[k]? := λk nk=>(a4 k nk).trans (a2 k nk)
   have pin:∀{Hx:Hp} {ρx:En} {τx:St},aJ (tP t src ρ1 σ F H1 P) (λb=>W b\/P b≠none) ρx τx Hx->∀b o,b∈bs->H2 b=some o->Hx b=some o:=λ{Hx ρx τx} ex b o hb z=>by
    have pe:P b≠none:=(pb b).mpr (List.mem_cons_of_mem _ hb)
    cases zP:P b with
    |none=>exact(pe zP).elim
    |some o' =>
     have z1:=e2.pn b o' (kJ zP)
     rw[z1]at z
     rw[<-z]
     exact ex.pn b o' (kJ zP)
   split at h
   ·rename_i cb
    rw[if_pos cb]
    refine he (tP t src ρ1 σ F H1 P) rfl (λ_=>id) _ b.2 σ4 H5 _ e5 (Rs.aY (Rs.aN h) λp h v H6 e6 s6 v6=>?_)
    obtain⟨T,kT,h⟩:=cV (Rs.aN h) (aah _)
    obtain⟨r,ρ7⟩:=p
    have sh:∃vs,r=.v (.lst vs) true/\T=.lst vs:=by
     cases r with
     |s i=>cases kT
     |v U fr =>
      cases U <;> cases fr <;> first|(cases kT; exact⟨_,rfl,rfl⟩)|cases kT
    obtain⟨vs,rfl,rfl⟩:=sh
    obtain⟨⟨a,ys,vs',rfl,ev,na,qa,ra⟩,eh⟩:=v6
    cases ev
    have eh:=eh _ a rfl rfl
    have BL:¬(W a\/P a≠none):=λz=>e5.wn a z na
    have Ie:H2 a=none:=gD.dom a na
    have QD:H1 a=none:=by
     cases z:H1 a with
     |none=>rfl
     |some o=>rw[n2 a o (λw=>BL (.inl w)) z]at Ie; cases Ie
    have aD:a≠D:=λz=>BL (by rw[z]; exact wD)
    have abs:a∉D::bs:=λz=>BL (.inr ((pb a).mpr z))
    have QB:t.H0 a=none:=e1.n0 a QD
    have eN:=e6.aag (zs:=xs++[.ref a]) (D:=D) BL eh wD ⟨_,pD⟩ rH QB qa
    have ws:(λb=>(W b\/P b≠none)\/b=a)=λb=>W b\/(upd (upd P a (HO.lst ys)) D (HO.lst (xs++[.ref a])):Hp) b≠none:=by
     funext b
     by_cases z1:b=D
     ·subst z1; rw[cB]; simp[wD]
     ·rw[aO z1]
      by_cases z2:b=a
      ·subst z2; rw[cB]; simp
      ·rw[aO z2]; simp[z2]
    rw[ws]at eN
    have mv:Same (aA (λb=>W b\/P b≠none) H2) (aA (λb=>W b\/(upd (upd P a (HO.lst ys)) D (HO.lst (xs++[.ref a])):Hp) b≠none) (upd H6 D (.lst (xs++[.ref a])))):=λb o z=>by
     obtain⟨nb,z⟩:=gj z
     have b1:b≠D:=λy=>nb (by rw[y]; exact wD)
     have b2:b≠a:=gC z Ie
     rw[cC]
     ·rw[aO b1]
      exact s6.keep b o nb (gD.keep b o nb z)
     ·rw[aO b1,aO b2]
      exact nb
    refine⟨xs,e6.pn D _ (kJ pD),Nat.lt_of_le_of_lt (show xs.length<=100000 by omega) (by decide),us.length-(i+1),by omega,rfl,hlt,ρ7,xs++[.ref a],acc++[.lst vs],bs++[a],_,eN,cB,λb=>?_,?_,?_,λb hb=>?_,by rw[List.length_append]; simp; omega,λb o nw q=>?_,a5,?_⟩
    ·by_cases z1:b=D
     ·subst z1; rw[cB]; simp
     ·rw[aO z1]
      by_cases z2:b=a
      ·subst z2; rw[cB]; simp
      ·rw[aO z2,pb b]; simp[z1,z2]
    ·rw[<-List.cons_append]
     exact List.nodup_append.mpr ⟨nd,by simp,λx hx y hy z=>by
      have:y=a:=by simpa using hy
      subst this
      subst z
      exact abs hx⟩
    ·refine DR.app (r2.move mv λb o hb z=>?_) (.rw (by rw[aO aD]; exact qa) (ra.mono λb o z=>?_) .nil)
     ·have b1:b≠D:=λy=>by
       subst y
       exact(List.nodup_cons.mp nd).1 hb
      rw[aO b1]
      exact pin e6 b o hb z
     ·obtain⟨b2,z⟩:=sX z
      obtain⟨nb,z⟩:=gj z
      have b1:b≠D:=λy=>nb (by rw[y]; exact wD)
      rw[cC]
      ·rw[aO b1]; exact z
      ·rw[aO b1,aO b2]; exact nb
    ·rw[<-List.cons_append,List.mem_append]at hb
     rcases hb with hb|hb
     ·exact new b hb
     ·have:b=a:=by simpa using hb
      rw[this]; exact QD
    ·have nD:b≠D:=gC q hD
     rw[aO nD]
     refine s6.keep b o ?_ (n5 b o nw q)
     rintro(z|z)
     ·exact nw z
     ·rw[new b ((pb b).mp z)]at q; cases q
    ·refine Rs.aY (Rs.aN h) λz h=>?_
     rw[List.append_assoc]
     exact h
   ·rename_i cb
    rw[if_neg cb]
    exact⟨us.length-(i+1),by omega,rfl,hlt,b.2,xs,acc,bs,P,e5,pD,pb,nd,r2.move gD.off (pin e5),new,by omega,n5,a5,h⟩
  ·have z:i=us.length:=by omega
   subst z
   rw[List.drop_length]at h2
   have h2:(if dW src ρ2 ρ1=true then .ok (.nx,(bT src ρ2 ρ1).set n (.dp (acc++[])))else .bad:Rs (Fl × En)).post t.EX _:=h2
   refine .inl ⟨q.1 rfl,?_⟩
   split at h2
   ·rename_i so
    rw[List.append_nil]at h2
    have eW:=dB.aaf I (λb z=>new b ((pb b).mp z)) e2 n2 hj a2 so
    have mu1:∀j,Mu (bT src ρ2 ρ1) j->Mu ρ1 j:=λj m=>by
     obtain⟨ts,m|m⟩:=m <;> rcases lK I m with⟨k,us,q1,q2,q3⟩|⟨n,q⟩
     ·exact oh ⟨ts,.inl q3⟩
     ·exact⟨ts,.inl q⟩
     ·exact oh ⟨ts,.inr q3⟩
     ·exact⟨ts,.inr q⟩
    refine h2 _ _ H2 (eW.QC (bs:=bs) nd (λb hb=>⟨.inr ((pb b).mpr hb),e1.n0 b (new b hb)⟩) (λb hb=>e1.xK (new b hb)) (λj us hj b hb z=>?_) (λj c m q z=>?_) (e2.pn D _ (kJ pD)) r2) λb o nb hb=>?_
    ·obtain⟨c,ys,_,cs,_,_,ww,_⟩:=dB.dp j us (j8 I hj)
     exact e1.wn b (ww b z).1 (new b hb)
    ·exact e1.wn c (e1.addr (mu1 j m) q) (new c z)
    ·have hb1:=s1.keep b o nb hb
     refine⟨?_,n2 b o nb hb1⟩
     rintro(z|z)
     ·exact nb z
     ·rw[new b ((pb b).mp z)]at hb1; cases hb1
   ·exact h2.elim
theorem Ig{t:Tx}{wi:TI}{g:TG}{src:List (Option Nat)}{te:TE}{fi:IF}{gf:GF}{f:EF}{js:List Nat}(n:Nat)(hi:SI t wi fi)(I:Inj src)(hj:∀k j:Nat,src[k]?=some (some j)->k∉js)(ng:∀T ρ c,gf T ρ ≠ .ex c)
  (hg:∀t':Tx,t'.K=t.K->(∀c,¬t'.EX c)->SG t' g gf js) (he:∀t':Tx,t'.K=t.K->(∀c,¬t'.EX c)->SE t' te f):SS t (jA (qQ wi g src te) (cU n)) (oJ n src fi gf cF f):=by
 rw[Qf]
 exact aai n hi I hj ng hg (λt' _ _ W ρ σ H Q e h=>h H e (bG.refl _ _)) he
end L2
end
section
namespace L2
open PySem PySem.Spec PyProof.Rows
variable {t:Tx}
def rP(us vs:List Tr):List Tr:=(us.zip vs).map λp=>.tup [p.1,p.2]
theorem aaj{K:FZ}{W:Addr->Prop}{H:Hp}{a b:Addr}{xs ys:List V}{us vs:List Tr}(q1:bw (aB K) (aA W H) a xs)(r1:aL (aB K) (aA W H) xs us)(q2:bw (aB K) (aA W H) b ys)(r2:aL (aB K) (aA W H) ys vs):tG (aB K) W H (Gj K a b) (rP us vs):=λW' H' m hw i=>by
 have tW:bw K H' a xs:=((gO W' H').seq (m.seq q1)).toK
 have Ih:bw K H' b ys:=((gO W' H').seq (m.seq q2)).toK
 refine⟨λz=>⟨xs,ys,tW,Ih,by rw[r1.length,r2.length,z]; simp[rP]⟩,λu hu=>?_⟩
 unfold rP at hu
 rw[List.getElem?_map]at hu
 obtain⟨p,hp,rfl⟩:=Option.map_eq_some_iff.mp hu
 obtain⟨h1,h2⟩:=List.getElem?_zip_eq_some.mp hp
 obtain⟨x,hx,rx⟩:=r1.mL h1
 obtain⟨y,hy,ry⟩:=r2.mL h2
 refine⟨⟨xs,ys,x,y,tW,Ih,hx,hy⟩,λv dM yl=>?_⟩
 obtain⟨T,x',y',rfl,fT,rfl,z⟩:=yl
 obtain⟨z1,z2⟩:=z xs ys tW Ih
 rw[hx]at z1
 rw[hy]at z2
 cases z1
 cases z2
 have nW:¬W' T:=λw=>(hw T w).ne fT
 have sm:Same H' (upd H' T (.tup [x,y])):=d7 fT _
 have so:Same (aA W' H') (aA W' (upd H' T (.tup [x,y]))):=λb u q=>(Aq (o:=.tup [x,y]) fT b u q |> λz=>(Ao _ _ b u z))
 refine⟨sm,.tup (xs:=[x,y]) (.inl (.inl ?_)) (.cons ((rx.mono m).mono so) (.cons ((ry.mono m).mono so) .nil))⟩
 unfold aA
 rw[if_neg nW,cB]
def vA(fa:AF):IF:=λρ=>(fa ρ).bind λp=>match p.1 with
 | [.v (.lst us) _,.v (.lst vs) _]=>.ok (rP us vs,p.2)
 |_=>.bad
theorem aak{K:FZ}(hK:t.K=aB K){ta:TA}{fa:AF}(ha:SA t ta fa):SI t (O4 K ta) (vA fa):=λW ρ σ H R e h=>by
 refine ha W ρ σ H _ e (Rs.aY (Rs.aN h) λp h vs H1 e1 s1 v1=>?_)
 split at h
 ·rename_i us _ ws _ ep
  rw[ep]at v1
  cases v1 with
  |cons h1 r1 =>
   cases r1 with
   |cons h2 r2 =>
    cases r2
    have h1:=h1.rep e.wn
    have h2:=h2.rep e.wn
    rw[hK]at h1 h2
    cases h1 with
    |lst q1 p1 =>
     cases h2 with
     |lst q2 p2 =>
      refine⟨_,_,rfl,⟨_,((gO _ _).seq q1).toK⟩,⟨_,((gO _ _).seq q2).toK⟩,h _ H1 e1 s1 ?_⟩
      rw[hK]
      exact aaj q1 p1 q2 p2
 ·exact h.elim
end L2
end
section
namespace L2
open PySem PySem.Spec PyProof.Rows
section
variable {K:FZ}
end
end L2
end
section
namespace L2
open PySem PySem.Spec PyProof.Rows
section
variable {kf:Value->Int × Int}
def q1(kf:Value->Int × Int)(xs:Array Keyed)(i:Nat):Int:=match xs[i]? with|some p=>(kf p.1).1|none=>0
def q2(kf:Value->Int × Int)(xs:Array Keyed)(i:Nat):Int:=match xs[i]? with|some p=>(kf p.1).2|none=>0
def qr(xs:Array Keyed)(i:Nat):Int:=match xs[i]? with|some p=>numOf p.2|none=>0
def Kl(kf:Value->Int × Int)(xs:Array Keyed)(i j:Nat):Prop:=q1 kf xs i<q1 kf xs j\/(q1 kf xs i=q1 kf xs j/\q2 kf xs i<q2 kf xs j)
instance {kf:Value->Int × Int}{xs:Array Keyed}{i j:Nat}:Decidable (Kl kf xs i j):=by unfold Kl; infer_instance
def Ke(kf:Value->Int × Int)(xs:Array Keyed)(i j:Nat):Prop:=q1 kf xs i=q1 kf xs j/\q2 kf xs i=q2 kf xs j
def Lq(kf:Value->Int × Int)(xs:Array Keyed)(i j:Nat):Prop:=Kl kf xs i j\/(Ke kf xs i j/\qr xs i<qr xs j)
def iY(kf:Value->Int × Int)(xs:Array Keyed)(m:Nat):Prop:=∀i j,i<j->j<m->Lq kf xs i j
def rQ(kf:Value->Int × Int)(xs:Array Keyed)(m:Nat):Prop:=∀i j,i<j->j<m->Lq kf xs j i
def oK(kf:Value->Int × Int)(xs:Array Keyed)(m q:Nat):Prop:=(∀i j,i<j->j<m->i<q->Lq kf xs j i/\(q<=j->Kl kf xs j i))/\∀i j,q<=i->i<j->j<m->Ke kf xs i j/\qr xs i<qr xs j
def Pre(N:Nat)(xs:Array Keyed)(m:Nat):Prop:=(∀k:Nat,k<m->qr xs k<m)/\∀k:Nat,m<=k->k<N->qr xs k=k
theorem p8{xs ys:Array Keyed}{i j:Nat}(h:xs[i]?=ys[j]?):qr xs i=qr ys j:=by unfold qr; rw[h]
theorem BP{xs ys:Array Keyed}{i j:Nat}(h:xs[i]?=ys[j]?):q1 kf xs i=q1 kf ys j:=by unfold q1; rw[h]
theorem BR{xs ys:Array Keyed}{i j:Nat}(h:xs[i]?=ys[j]?):q2 kf xs i=q2 kf ys j:=by unfold q2; rw[h]
theorem jJ{xs:Array Keyed}{i j:Nat}(hj:j<=xs.size)(k:Nat):(i<=k/\k<j/\(mirror xs i j ((j-i) / 2))[k]?=xs[i+j-1-k]?)\/(¬(i<=k/\k<j)/\(mirror xs i j ((j-i) / 2))[k]?=xs[k]?):=by
 have e:=getElem?_mirror_all (i:=i) hj k
 by_cases h:i<=k/\k<j
 ·rw[if_pos h]at e; exact .inl ⟨h.1,h.2,e⟩
 ·rw[if_neg h]at e; exact .inr ⟨h,e⟩
theorem qd{xs ys:Array Keyed}{i j i' j':Nat}(h1:xs[i]?=ys[i']?)(h2:xs[j]?=ys[j']?):Lq kf xs i j↔Lq kf ys i' j':=by
 unfold Lq Kl Ke; rw[p8 h1,p8 h2,BP h1,BP h2,BR h1,BR h2]
theorem BW{xs ys:Array Keyed}{i j i' j':Nat}(h1:xs[i]?=ys[i']?)(h2:xs[j]?=ys[j']?):Kl kf xs i j↔Kl kf ys i' j':=by
 unfold Kl; rw[BP h1,BP h2,BR h1,BR h2]
theorem Kl.tr{xs:Array Keyed}{i j k:Nat}(a:Kl kf xs i j)(b:Kl kf xs j k):Kl kf xs i k:=by
 unfold Kl at *
 generalize q1 kf xs i=a1,q2 kf xs i=a2,q1 kf xs j=b1,q2 kf xs j=b2,q1 kf xs k=c1,q2 kf xs k=c2 at *
 omega
theorem Kl.no{xs:Array Keyed}{i j:Nat}(a:¬Kl kf xs i j)(b:¬Kl kf xs j i):Ke kf xs i j:=by
 unfold Kl at *
 unfold Ke
 generalize q1 kf xs i=a1,q2 kf xs i=a2,q1 kf xs j=b1,q2 kf xs j=b2 at *
 omega
theorem Ke.s{xs:Array Keyed}{i j:Nat}(a:Ke kf xs i j):Ke kf xs j i:=⟨a.1.symm,a.2.symm⟩
theorem Ke.t{xs:Array Keyed}{i j k:Nat}(a:Ke kf xs i j)(b:Ke kf xs j k):Ke kf xs i k:=⟨a.1.trans b.1,a.2.trans b.2⟩
theorem Ke.l{xs:Array Keyed}{i j k:Nat}(a:Ke kf xs i j)(b:Kl kf xs j k):Kl kf xs i k:=by
 unfold Kl at *
 rw[a.1,a.2]
 exact b
theorem Ke.r{xs:Array Keyed}{i j k:Nat}(a:Kl kf xs i j)(b:Ke kf xs j k):Kl kf xs i k:=by
 unfold Kl at *
 rw[<-b.1,<-b.2]
 exact a
theorem Kl.tq{xs:Array Keyed}{i j k:Nat}(a:Kl kf xs i j)(b:Lq kf xs j k):Kl kf xs i k:=b.elim a.tr λz=>Ke.r a z.1
theorem Kl.qt{xs:Array Keyed}{i j k:Nat}(a:Lq kf xs i j)(b:Kl kf xs j k):Kl kf xs i k:=a.elim (λz=>z.tr b) λz=>z.1.l b
theorem Lq.mk{xs:Array Keyed}{i j:Nat}(a:¬Kl kf xs j i)(b:qr xs i<qr xs j):Lq kf xs i j:=by
 by_cases h:Kl kf xs i j
 ·exact .inl h
 ·exact .inr ⟨Kl.no h a,b⟩
theorem Pre.jJ{N:Nat}{xs:Array Keyed}{m i j:Nat}(h:Pre N xs m)(hj:j<=xs.size)(hm:j<=m):Pre N (mirror xs i j ((j-i) / 2)) m:=by
 refine⟨λk hk=>?_,λk hk hN=>?_⟩
 ·rcases L2.jJ hj k with⟨a,b,e⟩|⟨n,e⟩
  ·rw[p8 e]; exact h.1 _ (by omega)
  ·rw[p8 e]; exact h.1 _ hk
 ·rcases L2.jJ hj k with⟨a,b,e⟩|⟨n,e⟩
  ·omega
  ·rw[p8 e]; exact h.2 _ hk hN
theorem rQ.turn{xs:Array Keyed}{m:Nat}(h:rQ kf xs m)(hm:m<=xs.size):iY kf (mirror xs 0 m ((m-0) / 2)) m:=λi j hij hj=>by
 rcases jJ (i:=0) hm i with⟨_,_,e1⟩|⟨n,_⟩
 ·rcases jJ (i:=0) hm j with⟨_,_,e2⟩|⟨n,_⟩
  ·rw[qd e1 e2]; exact h _ _ (by omega) (by omega)
  ·omega
 ·omega
theorem oK.turn{xs:Array Keyed}{m q:Nat}(h:oK kf xs m q)(hm:m<=xs.size)(hq:q<m):rQ kf (mirror xs q m ((m-q) / 2)) m:=λi j hij hj=>by
 rcases jJ (i:=q) hm i with⟨a,b,e1⟩|⟨n,e1⟩ <;> rcases jJ (i:=q) hm j with⟨a',b',e2⟩|⟨n',e2⟩
 ·rw[qd e2 e1]
  have z:=h.2 (q+m-1-j) (q+m-1-i) (by omega) (by omega) (by omega)
  exact .inr z
 ·omega
 ·rw[qd e2 e1]
  exact(h.1 i (q+m-1-j) (by omega) (by omega) (by omega)).1
 ·rw[qd e2 e1]
  exact(h.1 i j hij hj (by omega)).1
theorem oK.one{xs:Array Keyed}{m q:Nat}(h:oK kf xs m q)(hq:m<=q+1):rQ kf xs m:=λi j hij hj=>(h.1 i j hij hj (by omega)).1
end
section
variable {prog:Program}{w:World}{A:Around}{E:Value->Shared->Prop}{s:Shared}{N:Nat}{kd:SortKind}{kf:Value->Int × Int}
structure SB(a₀ : Array Keyed)(kd:SortKind)(st:SortSt):Prop where
 pm:(arrOf st).Perm a₀
 kn:kindOf st=kd
 fl:failedOf st=none
 pd:pendingOf st = #[]
theorem SB.sz{a₀ : Array Keyed}{st:SortSt}(h:SB a₀ kd st):(arrOf st).size=a₀.size:=h.pm.size_eq
theorem SB.put{a₀ : Array Keyed}{st:SortSt}(h:SB a₀ kd st){xs:Array Keyed}(p:xs.Perm (arrOf st)):SB a₀ kd (setArr st xs):=⟨p.trans h.pm,h.kn,h.fl,h.pd⟩
noncomputable def Asks(prog:Program)(w:World)(A:Around)(E:Value->Shared->Prop)(s:Shared)(a₀ : Array Keyed)(kd:SortKind)(kf:Value->Int × Int):Prop :=
 ∀(st:SortSt) (i j:Nat) (Q:Option Bool->SortSt->Prop),SB a₀ kd st->i<a₀.size->j<a₀.size->Q (some (decide (Kl kf (arrOf st) i j))) st->wpS (model prog w) A E s (ltAt' i j) Q st
variable {a₀ : Array Keyed}(ask:Asks prog w A E s a₀ kd kf)
include ask
theorem QG{st:SortSt}{a n:Nat}{Q:AscSt->SortSt->Prop}(hn:n<=a₀.size)(ha:1<=a)(han:a<=n)(B:SB a₀ kd st)(p:Pre a₀.size (arrOf st) a)(h0:iY kf (arrOf st) a)
  (h:∀m,a<=m->m<=n->iY kf (arrOf st) m->Pre a₀.size (arrOf st) m->(m=n\/(m<n/\Kl kf (arrOf st) m (m-1)))->Q (none,m) st):wpS (model prog w) A E s (ascLoop a n) Q st:=by
 unfold ascLoop
 have up:∀x,a<=x->x<=n->Pre a₀.size (arrOf st) x:=λx h1 h2=>⟨λk hk=>by
  by_cases z:k<a
  ·have:=p.1 k z; omega
  ·rw[p.2 k (by omega) (by omega)]; omega,λk h3 h4=>p.2 k (by omega) h4⟩
 refine wpS_forRange (I:=λx c t=>t=st/\c=(none,x)/\x<=n/\iY kf (arrOf st) x) ?_ ?_ ⟨rfl,rfl,han,h0⟩
 ·rintro x c t h1 h2 ⟨rfl,rfl,_,hs⟩
  refine wpS_bind (ask _ _ _ _ B (by omega) (by omega) ?_)
  by_cases l:Kl kf (arrOf t) x (x-1)
  ·rw[decide_eq_true l]
   exact wpS_pure (h x h1 (by omega) hs (up x h1 (by omega)) (.inr ⟨h2,l⟩))
  ·rw[decide_eq_false l]
   refine wpS_pure ⟨rfl,rfl,h2,λi j hij hj=>?_⟩
   by_cases z:j<x
   ·exact hs i j hij z
   ·have ej:j=x:=by omega
    subst ej
    have r1:=(up j h1 (by omega)).1 i hij
    have r2:=(up j h1 (by omega)).2 j (Nat.le_refl _) (by omega)
    by_cases z:i=j-1
    ·subst z
     exact Lq.mk l (by rw[r2]; exact r1)
    ·have y:=hs i (j-1) (by omega) (by omega)
     exact Lq.mk (λz=>l (z.tq y)) (by rw[r2]; exact r1)
 ·rintro c t ⟨rfl,rfl,_,hs⟩
  rw[show max a n=n by omega]at hs ⊢
  exact h n han (Nat.le_refl _) hs (up n han (Nat.le_refl _)) (.inl rfl)
theorem QH{st:SortSt}{m n:Nat}{Q:Option Nat->SortSt->Prop}(hn:n<=a₀.size)(h1:1<=m)(hm:m<=n)(B:SB a₀ kd st)(p:Pre a₀.size (arrOf st) m)(d:rQ kf (arrOf st) m)
  (h:∀m t,SB a₀ kd t->1<=m->m<=n->iY kf (arrOf t) m->Pre a₀.size (arrOf t) m->Q (some m) t):wpS (model prog w) A E s (tail3 m n) Q st:=by
 unfold tail3
 have z:m<=(arrOf st).size:=by rw[B.sz]; omega
 refine wpS_bind (wpS_reverse ?_)
 have B':SB a₀ kd (setArr st (mirror (arrOf st) 0 m ((m-0) / 2))):=B.put (mirror_perm _ _ _ _)
 exact wpS_bind (QG ask hn h1 hm B' (p.jJ z (Nat.le_refl _)) (d.turn z) λk k1 k2 k3 k4 _=>wpS_pure (h k _ B' (by omega) k2 k3 k4))
theorem aal{st:SortSt}{m n:Nat}{Q:DescSt->SortSt->Prop}(hn:n<=a₀.size)(h1:1<=m)(hm:m<=n)(B:SB a₀ kd st)(p:Pre a₀.size (arrOf st) m)(d:oK kf (arrOf st) m (m-1))
  (h:∀x e t,SB a₀ kd t->m<=x->x<=n->e+1<=x->oK kf (arrOf t) x (x-(e+1))->Pre a₀.size (arrOf t) x->Q (none,x,e) t):wpS (model prog w) A E s (descLoop m n) Q st:=by
 unfold descLoop
 refine wpS_forRange (I:=λx c t=>∃e,c=(none,x,e)/\SB a₀ kd t/\x<=n/\e+1<=x/\oK kf (arrOf t) x (x-(e+1))/\Pre a₀.size (arrOf t) x) ?_ ?_ ⟨0,rfl,B,hm,by omega,d,p⟩
 ·rintro x c t k1 k2 ⟨e,rfl,B',_,ke,d',p'⟩
  dsimp only
  have z:x<=(arrOf t).size:=by rw[B'.sz]; omega
  have pu:∀ys:Array Keyed,Pre a₀.size ys x->Pre a₀.size ys (x+1):=λys q=>⟨λk hk=>by
   by_cases y:k<x
   ·have:=q.1 k y; omega
   ·rw[q.2 k (by omega) (by omega)]; omega,λk h3 h4=>q.2 k (by omega) h4⟩
  refine wpS_bind (ask _ _ _ _ B' (by omega) (by omega) ?_)
  by_cases l:Kl kf (arrOf t) x (x-1)
  ·rw[decide_eq_true l]
   have next:∀ys:Array Keyed,rQ kf ys x->(∀i,i<x->Kl kf ys x i)->oK kf ys (x+1) x:=λys y1 y2=>⟨λi j hij hj hi=>by
    by_cases y:j<x
    ·exact⟨y1 i j hij y,λz=>by omega⟩
    ·have:j=x:=by omega
     subst this
     exact⟨.inl (y2 i hi),λ_=>y2 i hi⟩,λi j h1 h2 h3=>by omega⟩
   have low:∀i,i<x->Kl kf (arrOf t) x i:=λi hi=>by
    by_cases y:i=x-1
    ·rw[y]; exact l
    ·by_cases y2:i<x-(e+1)
     ·exact l.tq (d'.1 i (x-1) (by omega) (by omega) y2).1
     ·exact Ke.r l (d'.2 i (x-1) (by omega) (by omega) (by omega)).1.s
   show wpS _ _ _ _ (if e > 0 then _ else _) _ _
   by_cases g:e > 0
   ·rw[if_pos g]
    refine wpS_bind (wpS_reverse (wpS_pure ⟨0,rfl,B'.put (mirror_perm _ _ _ _),k2,by omega,?_,pu _ (p'.jJ z (Nat.le_refl _))⟩))
    rw[show x+1-(0+1)=x by omega]
    refine next _ (d'.turn z (by omega)) λi hi=>?_
    rcases jJ (i:=x-(e+1)) z x with⟨_,b,_⟩|⟨_,e1⟩
    ·omega
    ·rcases jJ (i:=x-(e+1)) z i with⟨_,_,e2⟩|⟨_,e2⟩
     ·rw[BW e1 e2]; exact low _ (by omega)
     ·rw[BW e1 e2]; exact low _ hi
   ·rw[if_neg g]
    refine wpS_pure ⟨0,rfl,B',k2,by omega,?_,pu _ p'⟩
    rw[show x+1-(0+1)=x by omega]
    exact next _ (d'.one (by omega)) low
  ·rw[decide_eq_false l]
   show wpS _ _ _ _ (ltAt' (x-1) x >>= _) _ _
   refine wpS_bind (ask _ _ _ _ B' (by omega) (by omega) ?_)
   by_cases g:Kl kf (arrOf t) (x-1) x
   ·rw[decide_eq_true g]
    exact wpS_pure (h x e t B' k1 (by omega) ke d' p')
   ·rw[decide_eq_false g]
    have eq:Ke kf (arrOf t) (x-1) x:=Kl.no g l
    refine wpS_pure ⟨e+1,rfl,B',k2,by omega,?_,pu _ p'⟩
    rw[show x+1-(e+1+1)=x-(e+1) by omega]
    refine⟨λi j hij hj hi=>?_,λi j hi hij hj=>?_⟩
    ·by_cases y:j<x
     ·exact d'.1 i j hij y hi
     ·have:j=x:=by omega
      subst this
      have y:=(d'.1 i (j-1) (by omega) (by omega) hi).2 (by omega)
      have y':Kl kf (arrOf t) j i:=eq.s.l y
      exact⟨.inl y',λ_=>y'⟩
    ·by_cases y:j<x
     ·exact d'.2 i j hi hij y
     ·have:j=x:=by omega
      subst this
      have r1:=p'.1 i hij
      have r2:=p'.2 j (Nat.le_refl _) (by omega)
      refine⟨?_,by omega⟩
      by_cases y:i=j-1
      ·rw[y]; exact eq
      ·exact(d'.2 i (j-1) hi (by omega) (by omega)).1.t eq
 ·rintro c t ⟨e,rfl,B',_,ke,d',p'⟩
  rw[show max m n=n by omega]at ke d' p' ⊢
  exact h n e t B' hm (Nat.le_refl _) ke d' p'
theorem QJ{st:SortSt}{m n:Nat}{Q:Option Nat->SortSt->Prop}(hn:n<=a₀.size)(hm:m+1<=n)(B:SB a₀ kd st)(p:Pre a₀.size (arrOf st) (m+1))(d:oK kf (arrOf st) (m+1) m)
  (h:∀m t,SB a₀ kd t->1<=m->m<=n->iY kf (arrOf t) m->Pre a₀.size (arrOf t) m->Q (some m) t):wpS (model prog w) A E s (descPart m n) Q st:=by
 unfold descPart
 refine wpS_bind (wpS_lift (wpAny_rule ⟨rfl,?_⟩))
 refine wpS_bind (aal ask hn (by omega) hm B p (by rw[show m+1-1=m by omega]; exact d) λx e t B' k1 k2 ke d' p'=>?_)
 have z:x<=(arrOf t).size:=by rw[B'.sz]; omega
 show wpS _ _ _ _ (if e > 0 then(reverseSlice' (x-(e+1)) x >>= λ_=>tail3 x n)else tail3 x n) _ _
 by_cases g:e > 0
 ·rw[if_pos g]
  exact wpS_bind (wpS_reverse (QH ask hn (by omega) k2 (B'.put (mirror_perm _ _ _ _)) (p'.jJ z (Nat.le_refl _)) (d'.turn z (by omega)) h))
 ·rw[if_neg g]
  exact QH ask hn (by omega) k2 B' p' (d'.one (by omega)) h
theorem aam{st:SortSt}{n:Nat}{Q:Option Nat->SortSt->Prop}(hn:n<=a₀.size)(h1:1<=n)(B:SB a₀ kd st)(p:Pre a₀.size (arrOf st) 0)
  (h:∀m t,SB a₀ kd t->1<=m->m<=n->iY kf (arrOf t) m->Pre a₀.size (arrOf t) m->Q (some m) t):wpS (model prog w) A E s (countRun' 0 n) Q st:=by
 rw[countRun0_eq]
 have p1:Pre a₀.size (arrOf st) 1:=⟨λk hk=>by rw[p.2 k (by omega) (by omega)]; omega,λk h3 h4=>p.2 k (by omega) h4⟩
 refine wpS_bind (QG ask hn (Nat.le_refl 1) h1 B p1 (λi j _ _=>by omega) λm m1 m2 hs hp ho=>?_)
 show wpS _ _ _ _ (if(m == n)=true then _ else _) _ _
 by_cases e:m=n
 ·rw[if_pos (by simpa using e)]
  exact wpS_pure (h m st B m1 m2 hs hp)
 ·rw[if_neg (by simpa using e)]
  obtain⟨ml,l⟩:=ho.resolve_left e
  have pn:∀ys:Array Keyed,Pre a₀.size ys m->Pre a₀.size ys (m+1):=λys q=>⟨λk hk=>by
   by_cases y:k<m
   ·have:=q.1 k y; omega
   ·rw[q.2 k (by omega) (by omega)]; omega,λk h3 h4=>q.2 k (by omega) h4⟩
  by_cases g:m > 1
  ·rw[if_pos g]
   refine wpS_bind (ask _ _ _ _ B (by omega) (by omega) ?_)
   by_cases r:Kl kf (arrOf st) 0 (m-1)
   ·rw[decide_eq_true r]
    exact wpS_pure (h m st B m1 m2 hs hp)
   ·rw[decide_eq_false r]
    have z:m<=(arrOf st).size:=by rw[B.sz]; omega
    have all:∀i j,i<j->j<m->Ke kf (arrOf st) i j/\qr (arrOf st) i<qr (arrOf st) j:=λi j hij hj=>by
     have a1:=hs i j hij hj
     have a2:i=0\/Lq kf (arrOf st) 0 i:=by
      by_cases y:i=0
      ·exact .inl y
      ·exact .inr (hs 0 i (by omega) (by omega))
     have a3:j=m-1\/Lq kf (arrOf st) j (m-1):=by
      by_cases y:j=m-1
      ·exact .inl y
      ·exact .inr (hs j (m-1) (by omega) (by omega))
     rcases a1 with k1|k1
     ·have k2:Kl kf (arrOf st) 0 j:=by
       rcases a2 with y|y
       ·rw[y]at k1; exact k1
       ·exact Kl.qt y k1
      refine absurd ?_ r
      rcases a3 with y|y
      ·rw[y]at k2; exact k2
      ·exact k2.tq y
     ·exact k1
    have ds:oK kf (arrOf st) m 0:=⟨λi j _ _ hi=>by omega,λi j _ hij hj=>all i j hij hj⟩
    show wpS _ _ _ _ (reverseSlice' 0 m >>= λ_=>descPart m n) _ _
    refine wpS_bind (wpS_reverse (QJ ask hn (by omega) (B.put (mirror_perm _ _ _ _)) (pn _ (hp.jJ z (Nat.le_refl _))) ?_ h))
    have dd:=ds.turn z (by omega)
    have low:∀i,i<m->Kl kf (arrOf st) m i:=λi hi=>by
     by_cases y:i=m-1
     ·rw[y]; exact l
     ·exact Ke.r l (all i (m-1) (by omega) (by omega)).1.s
    have QK:∀i,i<m->Kl kf (mirror (arrOf st) 0 m ((m-0) / 2)) m i:=λi hi=>by
     rcases jJ (i:=0) z m with⟨_,b,_⟩|⟨_,e1⟩
     ·omega
     ·rcases jJ (i:=0) z i with⟨_,_,e2⟩|⟨_,e2⟩
      ·rw[BW e1 e2]; exact low _ (by omega)
      ·rw[BW e1 e2]; exact low _ hi
    refine⟨λi j hij hj hi=>?_,λi j _ _ _=>by omega⟩
    by_cases y:j<m
    ·exact⟨dd i j hij y,λz=>by omega⟩
    ·have:j=m:=by omega
     subst this
     exact⟨.inl (QK i hi),λ_=>QK i hi⟩
  ·rw[if_neg g]
   have e1:m=1:=by omega
   subst e1
   refine QJ ask hn (by omega) B (pn _ hp) ⟨λi j hij hj hi=>?_,λi j _ _ _=>by omega⟩ h
   have i0:i=0:=by omega
   have j1:j=1:=by omega
   subst i0 j1
   exact⟨.inl l,λ_=>l⟩
theorem aan{st:SortSt}{n ok:Nat}{Q:Bool->SortSt->Prop}(hn:n<=a₀.size)(h1:1<=ok)(hok:ok<=n)(B:SB a₀ kd st)(p:Pre a₀.size (arrOf st) ok)(d:iY kf (arrOf st) ok)
  (h:∀t,SB a₀ kd t->iY kf (arrOf t) n->Q true t):wpS (model prog w) A E s (binarySort' 0 n ok) Q st:=by
 rw[binarySort'_eq]
 simp only[Nat.zero_add]
 refine wpS_bind (wpS_mono (wpS_forRange (I:=λk c t=>c=(none,())/\SB a₀ kd t/\k<=n/\iY kf (arrOf t) k/\Pre a₀.size (arrOf t) k) (Q:=λc t=>c=(none,())/\SB a₀ kd t/\iY kf (arrOf t) n) ?_ ?_ ?_) ?_)
 ·rintro k c t k1 k2 ⟨rfl,B',_,d',p'⟩
  have hk:k<a₀.size:=by omega
  have rk:=p'.2 k (Nat.le_refl _) hk
  refine wpS_bind (wpS_mono (wpS_forRange (I:=λx c u=>u=t/\∃l r,c=(none,l,r)/\l<=r/\r<=k/\r-l<=k-x/\(∀i,i<l->¬Kl kf (arrOf t) k i)/\∀i,r<=i->i<k->Kl kf (arrOf t) k i)
   (Q:=λc u=>u=t/\∃l r,c=(none,l,r)/\l<=k/\(∀i,i<l->¬Kl kf (arrOf t) k i)/\∀i,l<=i->i<k->Kl kf (arrOf t) k i) ?_ ?_ ?_) ?_)
  ·rintro x c u _ hx ⟨rfl,l,r,rfl,g1,g2,g3,lo,hi⟩
   dsimp only
   by_cases g:l >= r
   ·rw[if_pos g]
    have:l=r:=by omega
    subst this
    exact wpS_pure ⟨rfl,l,l,rfl,g2,lo,hi⟩
   ·rw[if_neg g]
    refine wpS_bind (ask _ _ _ _ B' hk (by omega) ?_)
    by_cases le:Kl kf (arrOf u) k ((l+r) / 2)
    ·rw[decide_eq_true le]
     refine wpS_pure ⟨rfl,l,(l+r) / 2,rfl,by omega,by omega,by omega,lo,λi h1 h2=>?_⟩
     by_cases y:i=(l+r) / 2
     ·rw[y]; exact le
     ·exact le.tq (d' ((l+r) / 2) i (by omega) h2)
    ·rw[decide_eq_false le]
     refine wpS_pure ⟨rfl,(l+r) / 2+1,r,rfl,by omega,by omega,by omega,λi h1=>?_,hi⟩
     by_cases y:i=(l+r) / 2
     ·rw[y]; exact le
     ·exact λz=>le (z.tq (d' i ((l+r) / 2) (by omega) (by omega)))
  ·rintro c u ⟨rfl,l,r,rfl,g1,g2,g3,lo,hi⟩
   have:l=r:=by omega
   subst this
   exact⟨rfl,l,l,rfl,g2,lo,hi⟩
  ·exact⟨rfl,0,k,rfl,by omega,by omega,by omega,λi hi=>by omega,λi g1 g2=>by omega⟩
  ·rintro c u ⟨rfl,l,r,rfl,lk,lo,hi⟩
   show wpS _ _ _ _ (moveDown' k l >>= λ_=>pure (ForInStep.yield (none,()))) _ _
   rw[moveDown'_eq]
   refine wpS_bind (wpS_modify (wpS_pure ⟨rfl,B'.put (bubble_perm _ _ _),k2,?_,?_⟩))
   all_goals
    have ks:k<(arrOf u).size:=by rw[B'.sz]; exact hk
    have bb:=getElem?_bubble ks (k-l) (by omega)
    rw[show k-(k-l)=l by omega]at bb
    have b1:(bubble (arrOf u) k (k-l))[l]?=(arrOf u)[k]? := by rw[bb,if_pos rfl]
    have b2:∀i,l<i->i<=k->(bubble (arrOf u) k (k-l))[i]?=(arrOf u)[i-1]? := λi g1 g2=>by rw[bb,if_neg (by omega),if_pos ⟨g1,g2⟩]
    have b3:∀i,i<l->(bubble (arrOf u) k (k-l))[i]?=(arrOf u)[i]? := λi g1=>by rw[bb,if_neg (by omega),if_neg (by omega)]
    have b4:∀i,k<i->(bubble (arrOf u) k (k-l))[i]?=(arrOf u)[i]? := λi g1=>by rw[bb,if_neg (by omega),if_neg (by omega)]
   ·intro i j hij hj
    show Lq kf (bubble (arrOf u) k (k-l)) i j
    rcases Nat.lt_trichotomy i l with y|y|y <;> rcases Nat.lt_trichotomy j l with y'|y'|y'
    ·rw[qd (b3 i y) (b3 j y')]; exact d' i j hij (by omega)
    ·subst y'
     rw[qd (b3 i y) b1]
     exact Lq.mk (lo i y) (by rw[rk]; exact p'.1 i (by omega))
    ·rw[qd (b3 i y) (b2 j y' (by omega))]; exact d' i (j-1) (by omega) (by omega)
    ·omega
    ·omega
    ·subst y
     rw[qd b1 (b2 j y' (by omega))]
     exact .inl (hi _ (by omega) (by omega))
    ·omega
    ·omega
    ·rw[qd (b2 i y (by omega)) (b2 j y' (by omega))]; exact d' _ _ (by omega) (by omega)
   ·refine⟨λi hi'=>?_,λi g1 g2=>?_⟩
    ·show qr (bubble (arrOf u) k (k-l)) i<_
     rcases Nat.lt_trichotomy i l with y|y|y
     ·rw[p8 (b3 i y)]; have:=p'.1 i (by omega); omega
     ·subst y; rw[p8 b1,rk]; omega
     ·rw[p8 (b2 i y (by omega))]; have:=p'.1 (i-1) (by omega); omega
    ·show qr (bubble (arrOf u) k (k-l)) i=_
     rw[p8 (b4 i (by omega))]
     exact p'.2 i (by omega) g2
 ·rintro c t ⟨rfl,B',kn,d',p'⟩
  refine⟨rfl,B',?_⟩
  rwa[show max (max ok 1) n=n by omega]at d'
 ·rw[show max ok 1=ok by omega]
  exact⟨rfl,B,hok,d,p⟩
 ·rintro c t ⟨rfl,B',d'⟩
  exact wpS_pure (h t B' d')
theorem aao{st:SortSt}{Q:Unit->SortSt->Prop}(B:SB a₀ kd st)(h2:2<=a₀.size)(h64:a₀.size<64)(p:Pre a₀.size (arrOf st) 0)
  (h:∀t,(arrOf t).Perm a₀ -> failedOf t=none->iY kf (arrOf t) a₀.size->Q () t):wpS (model prog w) A E s sortRuns' Q st:=by
 rw[sortRuns'_eq]
 refine wpS_bind (wpS_get ?_)
 have mr:minRun' (arrOf st).size (arrOf st).size 0=a₀.size:=by
  rw[B.sz]
  obtain⟨f,hf⟩:∃f,a₀.size=f+1:=⟨a₀.size-1,by omega⟩
  have:minRun' (f+1) (f+1) 0=f+1:=by rw[minRun'_succ,if_pos (by omega)]
  rw[hf]; exact this
 dsimp only
 rw[mr,B.sz]
 have fin:∀t,SB a₀ kd t->iY kf (arrOf t) a₀.size->(arrOf (setPending t ((pendingOf t).push (0,a₀.size,0)))).Perm a₀/\failedOf (setPending t ((pendingOf t).push (0,a₀.size,0)))=none/\pendingOf (setPending t ((pendingOf t).push (0,a₀.size,0))) = #[(0,a₀.size,0)]/\iY kf (arrOf (setPending t ((pendingOf t).push (0,a₀.size,0)))) a₀.size :=
  λt B' d'=>⟨B'.pm,B'.fl,by show(pendingOf t).push _=_; rw[B'.pd]; rfl,d'⟩
 refine wpS_bind (wpS_mono (wpS_forRange (I:=λx c t=>(x=0/\c=(none,0)/\SB a₀ kd t/\Pre a₀.size (arrOf t) 0)\/(1<=x/\c=(none,a₀.size)/\(arrOf t).Perm a₀/\failedOf t=none/\pendingOf t = #[(0,a₀.size,0)]/\iY kf (arrOf t) a₀.size))
  (Q:=λc t=>c=(none,a₀.size)/\(arrOf t).Perm a₀/\failedOf t=none/\pendingOf t = #[(0,a₀.size,0)]/\iY kf (arrOf t) a₀.size) ?_ ?_ (.inl ⟨rfl,rfl,B,p⟩)) ?_)
 ·rintro x c t _ hx (⟨rfl,rfl,B',p'⟩|⟨hx1,rfl,D⟩)
  ·show wpS _ _ _ _ (if 0 >= a₀.size then _ else _) _ _
   rw[if_neg (by omega)]
   simp only[Nat.sub_zero,Nat.min_self,Nat.zero_add]
   refine wpS_bind (aam ask (Nat.le_refl _) (by omega) B' p' λm u B2 m1 m2 d2 p2=>?_)
   show wpS _ _ _ _ (if m<a₀.size then _ else _) _ _
   by_cases g:m<a₀.size
   ·rw[if_pos g]
    refine wpS_bind (wpS_lift (wpAny_rule ⟨rfl,?_⟩))
    refine wpS_bind (aan ask (Nat.le_refl _) m1 m2 B2 p2 d2 λv B3 d3=>?_)
    simp only[Bool.not_true,Bool.false_eq_true,if_false]
    refine wpS_bind (wpS_get ?_)
    rw[show(pendingOf v).back? = none by rw[B3.pd]; rfl]
    exact wpS_bind (wpS_modify (wpS_pure (.inr ⟨by omega,rfl,fin v B3 d3⟩)))
   ·rw[if_neg g]
    have e:m=a₀.size:=by omega
    subst e
    refine wpS_bind (wpS_get ?_)
    rw[show(pendingOf u).back? = none by rw[B2.pd]; rfl]
    exact wpS_bind (wpS_modify (wpS_pure (.inr ⟨by omega,rfl,fin u B2 d2⟩)))
  ·show wpS _ _ _ _ (if a₀.size >= a₀.size then _ else _) _ _
   rw[if_pos (Nat.le_refl _)]
   exact wpS_pure ⟨rfl,D⟩
 ·rintro c t (⟨hx,_,_⟩|⟨_,hc,D⟩)
  ·omega
  ·exact⟨hc,D⟩
 ·rintro c t ⟨rfl,D⟩
  refine wpS_bind (wpS_mono (wpS_forRange (I:=λ_ c u=>u=t/\c=(none,())) (Q:=λc u=>u=t/\c=(none,())) ?_ (λ_ _ z=>z) ⟨rfl,rfl⟩) ?_)
  ·rintro x c u _ _ ⟨rfl,rfl⟩
   refine wpS_bind (wpS_get ?_)
   rw[if_pos (by rw[D.2.2.1]; exact Nat.le_refl 1)]
   exact wpS_pure ⟨rfl,rfl⟩
  ·rintro c u ⟨rfl,rfl⟩
   exact wpS_pure (h _ D.1 D.2.1 D.2.2.2)
end
end L2
end
section
namespace L2
open PySem PySem.Spec PyProof.Rows PySem.W
section
variable {X:Cx}{pins:List (Addr × Obj)}{σ : St}{H:Hp}{s:Shared}
theorem Inv.track{a:Addr}{xs:List V}{its:List Value}{n:Nat}(I:Inv X pins σ H s)(f:dN X pins H a)(e:s.heap.get? a=some {cls:=.type "list",data:=.seq its.toArray n }) (r:Vals xs its) (hz:xs.length<=sizeLine):Inv X pins σ (upd H a (.lst xs)) s:=by
 obtain⟨f0,f1,f2,f3,f4,f5⟩:=f
 have ok:eH X.prog X.w (upd H a (.lst xs)) s.heap:=λb u q=>by
  by_cases hb:b=a
  ·subst hb; rw[cB]at q; cases q; exact⟨hz,its,n,r,e⟩
  ·rw[aO hb]at q
   exact(I.hok b u q).stay (λc v _ z=>z) (λc z=>by rw[aO (gC z f0)]; exact z) λc ys z=>by rw[aO (gC z f0)]; exact z
 exact I.step (h':=s.heap) (g':=s.gens) (t':=s.toks) (d':=s.drawn) (ch:=[a]) (λb hb=>by
   have:b=a:=by simpa using hb
   subst this
   exact⟨f3,f1,f4,f5⟩) (λb o _ _ _ q _=>q) (λb o _ _ _ q _=>⟨o.slots,q⟩) (λb o hb _ q=>by rw[aO (by simpa using hb)]; exact q) (λb o _ q=>⟨o,q⟩)
  (λb ys q=>by rw[aO (gC q f0)]; exact q) (λb o u q=>by rw[aO (gC q f0)]; exact q) (λb ps q=>⟨#[],by rw[aO (gC q f0),q]; simp⟩) (λm q=>q) ok I.bare
theorem Inv.sub{nu:List (Addr × Obj)}(I:Inv X pins σ H s)(h:∀p∈nu,p∈pins):Inv X nu σ H s:=I.zE λp hp=>I.pin p (List.mem_append_right _ (h p hp))
theorem Inv.tX{a:Addr}{o:Obj}(I:Inv X pins σ H s)(f:dN X pins H a)(e:s.heap.get? a=some o)(d:∀v,o.data ≠ .cell v):Inv X ((a,o)::pins) σ H s:=I.zE λp hp=>by
 rcases List.mem_cons.mp hp with rfl|hp
 ·exact⟨e,f.1,f.2.1,f.2.2.1,d⟩
 ·exact I.pin p (List.mem_append_right _ hp)
theorem dN.tX{a b:Addr}{o:Obj}(f:dN X pins H b)(n:a≠b):dN X ((a,o)::pins) H b:=⟨f.1,f.2.1,f.2.2.1,f.2.2.2.1,f.2.2.2.2.1,λp hp=>by
 rcases List.mem_append.mp hp with hp|hp
 ·exact f.2.2.2.2.2 p (List.mem_append_left _ hp)
 ·rcases List.mem_cons.mp hp with rfl|hp
  ·exact n
  ·exact f.2.2.2.2.2 p (List.mem_append_right _ hp)⟩
theorem Inv.wr{a:Addr}{g:Array Value->Array Value}{t':Nat}(I:Inv X pins σ H s)(f:dN X pins H a):Inv X pins σ H {s with heap:=s.heap.update a (Obj.mapSeq g),toks:=t' }:=by
 obtain⟨f0,f1,f2,f3,f4,f5⟩:=f
 exact I.turned (it:=a) (λb o hb e=>((Heap.SameBut.update s.heap a _).2 b hb).trans e) f0 f1 f3 f4 f5
end
def qe(n:Nat)(kz:Nat->Int × Int)(ys:List Nat):Prop:=ys.Perm (List.range n)/\ys.Pairwise λi j=>((kz i).1<(kz j).1\/((kz i).1=(kz j).1/\(kz i).2<(kz j).2))\/(((kz i).1=(kz j).1/\(kz i).2=(kz j).2)/\i<j)
structure tY(X:Cx)(Kv:Hp->Value->Int × Int->Prop)(kd:SortKind):Prop where
 kind:∀(H:Hp) (keys:Array Value) (kz:Nat->Int × Int),2<=keys.size->(∀i v,keys[i]?=some v->Kv H v (kz i))->∀{pins σ s Q E},Inv X pins σ H s->Q kd s->wpAny (model X.prog X.w) X.A.in1.in1 (keyKind' keys) Q E s
 ask:∀{pins σ H s} {E:Value->Shared->Prop} (a₀ : Array Keyed) (kf:Value->Int × Int),Inv X pins σ H s->(∀p,p∈a₀.toList->Kv H p.1 (kf p.1))->Asks X.prog X.w X.A.in1.in1 E s a₀ kd kf
section
variable {X:Cx}
theorem QL:tY X (λ_ v k=>∃t,v=.int k.1 t/\k.2=0) oneType' where
 kind:=λH keys kz h2 hk pins σ s Q E I q=>by
  have hi:IntsAre keys.toList (keys.toList.map numOf):=by
   refine intsAre_map _ λv hv=>?_
   obtain⟨i,hi,e⟩:=List.getElem_of_mem hv
   obtain⟨t,z,_⟩:=hk i v (by rw[<-e]; simp[Array.getElem?_eq_getElem (show i<keys.size by simpa using hi)])
   exact⟨_,t,z⟩
  rw[ksk_kind hi h2]
  exact wpAny_pure q
 ask:=λa₀ kf I h st i j Q B hi hj q=>by
  have h0:IntKeys a₀ := λp hp=>by
   obtain⟨t,z,_⟩:=h p hp
   exact⟨_,t,z⟩
  have B':SBase a₀ st:=⟨B.pm,B.kn,B.fl,B.pd⟩
  have at_:∀i,i<a₀.size->q1 kf (arrOf st) i=K (arrOf st) i/\q2 kf (arrOf st) i=0:=λi hi=>by
   obtain⟨t,p,e⟩:=B'.at h0 hi
   have hi':i<(arrOf st).size:=by rw[B.sz]; exact hi
   have hm:(arrOf st)[i]∈a₀.toList:=(Array.perm_iff_toList_perm.mp B.pm).mem_iff.mp (by simp)
   obtain⟨t',z,z2⟩:=h _ hm
   have e':(arrOf st)[i]?=some (arrOf st)[i]:=getElem?_pos _ i hi'
   have e2:(arrOf st)[i]=(Value.int (K (arrOf st) i) t,p):=by rw[e']at e; exact Option.some.inj e
   rw[e2]at z z2
   unfold q1 q2
   rw[e]
   refine⟨?_,z2⟩
   have z:Value.int (K (arrOf st) i) t=Value.int (kf (Value.int (K (arrOf st) i) t)).1 t':=z
   injection z with z
   exact z.symm
  refine wpS_ltK B' h0 hi hj ?_
  have:decide (Kl kf (arrOf st) i j)=decide (K (arrOf st) i<K (arrOf st) j):=by
   rw[decide_eq_decide]
   unfold Kl
   rw[(at_ i hi).1,(at_ j hj).1,(at_ i hi).2,(at_ j hj).2]
   omega
  rw[this]at q
  exact q
end
section
variable {X:Cx}{pins:List (Addr × Obj)}{σ : St}{H:Hp}{s:Shared}{Kv:Hp->Value->Int × Int->Prop}{kd:SortKind}{a kS:Addr}{n:Nat}{kz:Nat->Int × Int}{vs:List Value}
theorem QM{e1:Nat}{keys:Array Value}{e:Nat}{st:SortSt}{P:PySem.Fin->Shared->Prop}{E:Value->Shared->Prop}(I:Inv X pins σ H s)(fk:dN X pins H kS)(fa:dN X pins H a)(ne:kS≠a)(hk:s.heap.get? kS=some (seqObj "list" keys e)) (ha:s.heap.get? a=some (seqObj "list" #[] e1)) (hks:keys.size<=64) (hst:(arrOf st).size<=64) (fl:failedOf st=none)
  (h:∀s' c,Inv X pins σ H s'->s'.heap.get? a=some (seqObj "list" ((arrOf st).map (·.2)) c)->P (.done (.ret .none)) s'):wpAny (model X.prog X.w) X.A.in1.in1 (ksk_tail a false e1 (.ref kS) st) P E s:=by
 unfold ksk_tail
 refine wpAny_bind (listUpdate_at hk rfl ?_ (by rw[sizeLine_eq]; omega) (Nat.zero_le _))
 refine wpAny_bind (wpAny_letGo ?_)
 have I1:=I.wr (g:=λ_=>#[]) (t':=s.toks) fk
 have ha1:(s.heap.update kS (Obj.mapSeq λ_=>(#[]:Array Value))).get? a=some (seqObj "list" #[] e1):=((Heap.SameBut.update s.heap kS _).2 a (Ne.symm ne)).trans ha
 refine wpAny_bind (seqEpoch_at ha1 rfl ?_)
 refine wpAny_bind (listUpdate_at ha1 rfl ?_ (Nat.zero_le _) (by simp only[Bool.false_eq_true,if_false,Array.size_map]; rw[sizeLine_eq]; omega))
 rw[fl]
 simp only[bne_self_eq_false,Bool.false_eq_true,if_false]
 exact wpAny_pure (h _ _ (I1.wr (t':=s.toks) fa) (get?_update_seq ha1 _))
theorem aap{e1:Nat}{keys:Array Value}{e:Nat}{P:PySem.Fin->Shared->Prop}{E:Value->Shared->Prop}(T:tY X Kv kd)(I:Inv X pins σ H s)(fk:dN X pins H kS)(fa:dN X pins H a)(ne:kS≠a)(hk:s.heap.get? kS=some (seqObj "list" keys e)) (ha:s.heap.get? a=some (seqObj "list" #[] e1))
  (hv:∀(i:Nat) (v:Value),vs[i]?=some v->∃t,v=Value.int i t) (hl:vs.length=n) (hkn:keys.size=n) (h64:n<64) (hK:∀i v,keys[i]?=some v->Kv H v (kz i)) (inj:∀v k k',Kv H v k->Kv H v k'->k=k')
  (h:∀s' c out,Inv X pins σ H s'->s'.heap.get? a=some (seqObj "list" out c)->(∃ys,qe n kz ys/\Vals (ys.map λi:Nat=>V.int i) out.toList)->P (.done (.ret .none)) s'):wpAny (model X.prog X.w) X.A.in1.in1 (ksk_end a false vs.toArray e1 (.ref kS) keys) P E s:=by
 have vB:(keys.zip vs.toArray).size=n:=by rw[Array.size_zip,hkn,List.size_toArray,hl,Nat.min_self]
 have xZ:∀i,i<n->∃v t,(keys.zip vs.toArray)[i]?=some (v,.int i t)/\Kv H v (kz i):=λi hi=>by
  obtain⟨t,e2⟩:=hv i vs[i] (by simp[hl,hi])
  have e1:keys[i]?=some keys[i]:=getElem?_pos _ _ (by omega)
  refine⟨keys[i],t,?_,hK i _ e1⟩
  rw[<-Array.getElem?_toList,ksk_zip,List.getElem?_zip_eq_some]
  refine⟨by simp[Array.getElem?_toList,e1],?_⟩
  show vs[i]?=some (Value.int i t)
  rw[List.getElem?_eq_getElem (by omega),e2]
 -- what the sorted array says
 have fin:∀(kf:Value->Int × Int) (xs:Array Keyed),(∀(i:Nat) v t,(keys.zip vs.toArray)[i]?=some (v,Value.int i t)->kf v=kz i)->xs.Perm (keys.zip vs.toArray)->iY kf xs n->∃ys,qe n kz ys/\Vals (ys.map λi:Nat=>V.int i) (xs.map (·.2)).toList:=λkf xs hkf hp hs=>by
  have hpl:=Array.perm_iff_toList_perm.mp hp
  have mem:∀p∈xs.toList,∃i t,i<n/\p.2=.int (i:Nat) t/\kf p.1=kz i:=λp hp'=>by
   obtain⟨i,hi,e⟩:=List.getElem_of_mem (hpl.mem_iff.mp hp')
   have hi':i<n:=by rw[Array.length_toList,vB]at hi; exact hi
   obtain⟨v,t,e1,_⟩:=xZ i hi'
   have e2:(keys.zip vs.toArray)[i]?=some p:=by rw[<-Array.getElem?_toList,List.getElem?_eq_getElem hi,e]
   rw[e1]at e2
   cases e2
   exact⟨i,t,hi',rfl,hkf i v t e1⟩
  refine⟨xs.toList.map λp=>(numOf p.2).toNat,⟨?_,?_⟩,?_⟩
  ·have h1:=hpl.map λp:Keyed=>(numOf p.2).toNat
   refine h1.trans (List.Perm.of_eq ?_)
   refine List.ext_getElem? λi=>?_
   by_cases hi:i<n
   ·obtain⟨v,t,e1,_⟩:=xZ i hi
    rw[List.getElem?_map,Array.getElem?_toList,e1,List.getElem?_range hi]
    simp[numOf]
   ·rw[List.getElem?_eq_none (by simp[vB]; omega),List.getElem?_eq_none (by simp; omega)]
  ·rw[List.pairwise_map,List.pairwise_iff_getElem]
   intro i j hi hj hij
   have sz:xs.size=n:=by rw[hp.size_eq,vB]
   have hi':i<xs.size:=by simpa using hi
   have hj':j<xs.size:=by simpa using hj
   have z:=hs i j hij (by omega)
   obtain⟨a1,t1,_,b1,c1⟩:=mem _ (List.getElem_mem hi)
   obtain⟨a2,t2,_,b2,c2⟩:=mem _ (List.getElem_mem hj)
   have x1:xs[i]?=some xs.toList[i]:=by rw[<-Array.getElem?_toList,List.getElem?_eq_getElem hi]
   have x2:xs[j]?=some xs.toList[j]:=by rw[<-Array.getElem?_toList,List.getElem?_eq_getElem hj]
   unfold Lq Kl Ke q1 q2 qr at z
   rw[x1,x2]at z
   dsimp only at z
   rw[b1,b2,c1,c2]at z
   rw[b1,b2]
   simp only[numOf,Int.toNat_natCast]at z ⊢
   omega
  ·rw[Array.toList_map,List.map_map]
   have go:∀l:List Keyed,(∀p∈l,∃i t,i<n/\p.2=.int (i:Nat) t/\kf p.1=kz i)->Vals (l.map ((λi:Nat=>V.int i) ∘ λp:Keyed=>(numOf p.2).toNat)) (l.map (·.2)):=λl=>by
    induction l with
    |nil=>intro _; exact .nil
    |cons p r ih =>
     intro hm
     refine .cons ?_ (ih λq hq=>hm q (List.mem_cons_of_mem _ hq))
     obtain⟨i,t,_,e,_⟩:=hm p (List.mem_cons_self ..)
     exact⟨t,by simp[e,numOf]⟩
   exact go _ mem
 -- a function of the keys
 obtain⟨kf,hkf⟩:∃kf:Value->Int × Int,∀v k,Kv H v k->kf v=k:=by
  classical
  refine⟨λv=>if q:∃k,Kv H v k then q.choose else(0,0),λv k hk=>?_⟩
  have q:∃k,Kv H v k:=⟨k,hk⟩
  dsimp only
  rw[dif_pos q]
  exact inj v _ _ q.choose_spec hk
 have QT:∀(i:Nat) v t,(keys.zip vs.toArray)[i]?=some (v,Value.int i t)->kf v=kz i:=λi v t e=>by
  have hi:i<n:=by
   have:=(Array.getElem?_eq_some_iff.mp e).1
   omega
  obtain⟨v',t',e1,q⟩:=xZ i hi
  rw[e1]at e
  cases e
  exact hkf _ _ q
 unfold ksk_end
 simp only[Bool.false_eq_true,if_false]
 rw[List.size_toArray,hl]
 by_cases h2:n<2
 ·rw[if_pos h2,if_pos h2]
  refine wpAny_bind (wpAny_pure ?_)
  rw[StateT.run_pure]
  refine wpAny_bind (wpAny_pure ?_)
  refine QM (st:=SortSt.mk' general' (keys.zip vs.toArray) #[] 7 none) I fk fa ne hk ha (by omega) (by show(keys.zip vs.toArray).size<=64; omega) rfl λs' c I' e'=>h s' c _ I' e' (fin kf _ QT (Array.Perm.refl _) λi j hij hj=>by omega)
 ·rw[if_neg h2,if_neg h2]
  refine wpAny_bind (T.kind H keys kz (by omega) hK I ?_)
  have ask:=T.ask (E:=E) (s:=s) (keys.zip vs.toArray) kf I (λp hp=>by
   obtain⟨i,hi,e⟩:=List.getElem_of_mem hp
   have hi':i<n:=by rw[Array.length_toList,vB]at hi; exact hi
   obtain⟨v,t,e1,q⟩:=xZ i hi'
   have e2:(keys.zip vs.toArray)[i]?=some p:=by rw[<-Array.getElem?_toList,List.getElem?_eq_getElem hi,e]
   rw[e1]at e2
   cases e2
   rw[hkf _ _ q]
   exact q)
  have B:SB (keys.zip vs.toArray) kd (SortSt.mk' kd (keys.zip vs.toArray) #[] 7 none):=⟨Array.Perm.refl _,rfl,rfl,rfl⟩
  have p0:Pre (keys.zip vs.toArray).size (arrOf (SortSt.mk' kd (keys.zip vs.toArray) #[] 7 none)) 0:=⟨λk hk=>by omega,λk _ hk=>by
   obtain⟨v,t,e1,_⟩:=xZ k (by omega)
   show qr (keys.zip vs.toArray) k=k
   unfold qr
   rw[e1]
   rfl⟩
  refine wpAny_bind (wpAny_mono (aao (Q:=λ_ t=>(arrOf t).Perm (keys.zip vs.toArray)/\failedOf t=none/\iY kf (arrOf t) (keys.zip vs.toArray).size) ask B (by omega) (by omega) p0 λt a1 a2 a3=>⟨a1,a2,a3⟩) ?_ λ_ _ z=>z)
  rintro⟨⟨⟩,t⟩ s' ⟨rfl,hp,hf,hs⟩
  rw[vB]at hs
  exact QM I fk fa ne hk ha (by omega) (by rw[hp.size_eq,vB]; omega) hf λs' c I' e'=>h s' c _ I' e' (fin kf _ QT hp hs)
end
end L2
end
section
namespace L2
open PySem PySem.Spec PyProof.Rows PySem.W
section
variable {X:Cx}{pins:List (Addr × Obj)}{σ : St}{H:Hp}{s:Shared}{Kv:Hp->Value->Int × Int->Prop}{kd:SortKind}{n:Nat}{kz:Nat->Int × Int}{vs:List Value}{f:Value}
theorem dN.up{H':Hp}{b:Addr}(h:dN X pins H b)(e:H' b=none):dN X pins H' b:=⟨e,h.2⟩
noncomputable def Ii(X:Cx)(pins:List (Addr × Obj))(σ : St)(H:Hp)(Kv:Hp->Value->Int × Int->Prop)(n:Nat)(kz:Nat->Int × Int)(f:Value):Prop :=
 ∀(nu:List (Addr × Obj)) (i:Nat) (t:Tok) (s':Shared) (H':Hp),i<n->(∀p∈pins,p∈nu)->Same H H'->Inv X nu σ H' s' ->
  wpAny (model X.prog X.w) X.A.in1.in1 (call f [.int i t]) (λv s''=>∃dM,Same H' dM/\Kv dM v (kz i)/\Inv X nu σ dM s'') (λ_ _=>False) s'
theorem aaq{a kS:Addr}{e1:Nat}{P:PySem.Fin->Shared->Prop}{E:Value->Shared->Prop}(T:tY X Kv kd)(mono:∀{H H':Hp} {v k},Same H H'->Kv H v k->Kv H' v k)(inj:∀(H:Hp) v k k',Kv H v k->Kv H v k'->k=k')
  (I:Inv X pins σ H s) (fk:dN X pins H kS) (fa:dN X pins H a) (ne:kS≠a) (hk:s.heap.get? kS=some (seqObj "list" #[] 0)) (ha:s.heap.get? a=some (seqObj "list" #[] e1))
  (hv:∀(i:Nat) (v:Value),vs[i]?=some v->∃t,v=Value.int i t) (hl:vs.length=n) (h64:n<64) (key:Ii X pins σ H Kv n kz f)
  (h:∀s' c out H',Same H H'->H' a=none->Inv X pins σ H' s'->s'.heap.get? a=some (seqObj "list" out c)->(∃ys,qe n kz ys/\Vals (ys.map λi:Nat=>V.int i) out.toList)->P (.done (.ret .none)) s') :
  wpAny (model X.prog X.w) X.A.in1.in1 (ksk_rest a f false vs.toArray e1 (.ref kS)) P E s:=by
 unfold ksk_rest
 refine wpAny_bind (wpAny_rule ?_)
 rw[<-Array.forIn_toList]
 simp only[List.toList_toArray]
 refine wpAny_bind (ksk_fold (λi s'=>∃H' kA e,Same H H'∧H' kS=none∧H' a=none∧Inv X pins σ H' s'∧s'.heap.get? kS=some (seqObj "list" kA e)∧s'.heap.get? a=some (seqObj "list" #[] e1)∧kA.size=i∧∀(j:Nat) v,kA[j]?=some v→Kv H' v (kz j)) vs 0 s
  ⟨H,#[],0,Same.refl _,fk.1,fa.1,I,hk,ha,rfl,λj v z=>by simp at z⟩ ?_ ?_)
 ·rintro j x s' hx ⟨H',kA,e,sm,nk,na,I',hk',ha',sz,hK⟩
  rw[Nat.zero_add]at sz ⊢
  have hj:j<vs.length:=(List.getElem?_eq_some_iff.mp hx).1
  obtain⟨t,rfl⟩:=hv j x hx
  have fk':=fk.up nk
  have fa':=fa.up na
  have I2:Inv X ((kS,seqObj "list" kA e)::(a,seqObj "list" #[] e1)::pins) σ H' s':=(I'.tX fa' ha' (λv z=>by cases z)).tX (fk'.tX (Ne.symm ne)) hk' (λv z=>by cases z)
  refine wpAny_bind (wpAny_attempt (wpAny_mono (key _ j t s' H' (by omega) (λp hp=>List.mem_cons_of_mem _ (List.mem_cons_of_mem _ hp)) sm I2) (λv s'' he=>?_) λ_ _ z=>z.elim))
  obtain⟨dM,QV,kv,I3⟩:=he
  have p1:=I3.pin (kS,seqObj "list" kA e) (List.mem_append_right _ (List.mem_cons_self ..))
  have p2:=I3.pin (a,seqObj "list" #[] e1) (List.mem_append_right _ (List.mem_cons_of_mem _ (List.mem_cons_self ..)))
  have I4:Inv X pins σ dM s'':=I3.sub λp hp=>List.mem_cons_of_mem _ (List.mem_cons_of_mem _ hp)
  show wpAny _ _ (Builtin.List.listUpdate (.ref kS) (·.push v) >>= λ_=>pure (ForInStep.yield PUnit.unit)) _ _ _
  refine wpAny_bind (listUpdate_at p1.1 rfl ?_ (by rw[sizeLine_eq]; omega) (Nat.le_trans (Nat.le_of_eq (Array.size_push ..)) (by rw[sizeLine_eq]; omega)))
  refine wpAny_pure ⟨rfl,dM,kA.push v,_,sm.trans QV,p1.2.1,p2.2.1,I4.wr (t':=s''.toks) (fk.up p1.2.1),get?_update_seq p1.1 _,((Heap.SameBut.update s''.heap kS _).2 a (Ne.symm ne)).trans p2.1,by rw[Array.size_push,sz],λi u q=>?_⟩
  rw[Array.getElem?_push]at q
  split at q
  ·rename_i z
   cases q
   rw[z,sz]
   exact kv
  ·exact mono QV (hK i u q)
 ·rintro s' ⟨H',kA,e,sm,nk,na,I',hk',ha',sz,hK⟩
  refine wpAny_bind (listItems_at hk' rfl ?_)
  exact aap T I' (fk.up nk) (fa.up na) ne hk' ha' hv hl (by omega) h64 hK (inj H') λs'' c out Ij e'' q=>h s'' c out H' sm na Ij e'' q
theorem aar{a:Addr}{c0:Nat}{P:PySem.Fin->Shared->Prop}{E:Value->Shared->Prop}(T:tY X Kv kd)(mono:∀{H H':Hp} {v k},Same H H'->Kv H v k->Kv H' v k)(inj:∀(H:Hp) v k k',Kv H v k->Kv H v k'->k=k')
  (I:Inv X pins σ H s) (fa:dN X pins H a) (ha:s.heap.get? a=some (seqObj "list" vs.toArray c0))
  (hv:∀(i:Nat) (v:Value),vs[i]?=some v->∃t,v=Value.int i t) (hl:vs.length=n) (h64:n<64) (key:Ii X pins σ H Kv n kz f)
  (h:∀s' c out H',Same H H'->H' a=none->Inv X pins σ H' s'->s'.heap.get? a=some (seqObj "list" out c)->(∃ys,qe n kz ys/\Vals (ys.map λi:Nat=>V.int i) out.toList)->P (.done (.ret .none)) s') :
  wpAny (model X.prog X.w) X.A.in1.in1 (ksk_tree a f false) P E s:=by
 unfold ksk_tree
 refine wpAny_bind (listItems_at ha rfl ?_)
 refine wpAny_bind (listUpdate_at ha rfl ?_ (by rw[List.size_toArray,sizeLine_eq]; omega) (Nat.zero_le _))
 have I1:=I.wr (g:=λ_=>#[]) (t':=s.toks) fa
 obtain⟨e1,ha1⟩:∃e1,(s.heap.update a (Obj.mapSeq λ_=>(#[]:Array Value))).get? a=some (seqObj "list" #[] e1):=⟨_,get?_update_seq ha _⟩
 refine wpAny_bind (seqEpoch_at ha1 rfl ?_)
 refine wpAny_bind (wpAny_newTuple ?_ (by show vs.toArray.toList.length<=_; rw[List.toList_toArray,sizeLine_eq]; omega))
 refine wpAny_bind (wpAny_newList ?_ (Nat.zero_le _))
 have I2:Inv X pins σ H {s with heap:=(s.heap.update a (Obj.mapSeq λ_=>(#[]:Array Value))).push {cls:=.type "tuple",data:=.seq vs.toArray.toList.toArray } }:=I1.kept (t':=s.toks) λb o e=>Heap.get?_push_of_some _ e
 have I3:Inv X pins σ H {s with heap:=((s.heap.update a (Obj.mapSeq λ_=>(#[]:Array Value))).push {cls:=.type "tuple",data:=.seq vs.toArray.toList.toArray }).push {cls:=.type "list",data:=.seq ([]:List Value).toArray } }:=I2.kept (t':=s.toks) λb o e=>Heap.get?_push_of_some _ e
 have lt:a<((s.heap.update a (Obj.mapSeq λ_=>(#[]:Array Value))).push {cls:=.type "tuple",data:=.seq vs.toArray.toList.toArray }).objs.size:=by
  rw[size_push',Heap.size_update]
  exact Nat.lt_succ_of_lt (Heap.lt_size ha)
 refine wpAny_holding ?_
 exact aaq T mono inj I3 (I2.nA (Nat.le_refl _) (I2.hok.fresh (Nat.le_refl _))) fa (Nat.ne_of_gt lt) (Heap.get?_push_size _ rfl) (Heap.get?_push_of_some _ (Heap.get?_push_of_some _ ha1)) hv hl h64 key h
theorem aas{A:Around}{r:Addr}{n:Nat}{t u v:Tok}{Q:List Value->Shared->Prop}{E:Value->Shared->Prop}{P:Program}{w:World}(hh:A.handled=none)(hr:IsRange s.heap r 0 n 1 t u v)(hn:n<=1000)
  (h:∀h' tk (vs:List Value),(∀b o,s.heap.get? b=some o->h'.get? b=some o)->vs.length=n->(∀(i:Nat) (v:Value),vs[i]?=some v->∃t,v=Value.int i t)->Q vs {s with heap:=h',toks:=tk }) :
  wpAny (model P w) A (collect (.ref r)) Q E s:=by
 unfold collect
 refine wpAny_bind (wpAny_runValue (codeAny_builtin F.entry_proto_collect ?_))
 rw[Around.under_plainId F.plain_proto_collect _]
 show wpAny _ A.in1 (newList [] >>= λl=>again (.builtin "list.__iadd__" ⟨[l,.ref r],[]⟩)) _ _ s
 refine wpAny_bind (wpAny_newList ?_ (Nat.zero_le _))
 refine wpAny_pure ⟨plainId_quiet F.plain_list_iadd _,codeAny_builtin F.entry_list_iadd ?_⟩
 rw[Around.under_plainId F.plain_list_iadd _]
 have sz1:Builtin.Range.rangeSize 0 (n:Int) 1=n:=by rw[rangeSize_one]; split <;> omega
 have keep:∀b o,s.heap.get? b=some o->(s.heap.push {cls:=.type "list",data:=.seq ([]:List Value).toArray }).get? b=some o:=λb o e=>Heap.get?_push_of_some _ e
 show wpAny _ A.in1 (Builtin.List.listExtendWith (.ref s.heap.objs.size) (.ref r) (.ref s.heap.objs.size)) _ _ {s with heap:=s.heap.push {cls:=.type "list",data:=.seq ([]:List Value).toArray } }
 refine wpAny_extend_range (A:=A) (R:=λr s'=>match r with
  | Except.ok (Flow.ret v)=>wpAny (model P w) A (match v with
   |Value.ref a=>do
    let __do_lift <-load a
    match __do_lift.data with
     |Data.seq xs epoch=>pure xs.toList
     |x=>unsupported "internal:collect"
   |x=>unsupported "internal:collect") Q E s'
  |Except.ok a=>False
  |Except.error e=>E e s') (s:={s with heap:=s.heap.push {cls:=.type "list",data:=.seq ([]:List Value).toArray } }) hh (keep _ _ hr) (small_one (by omega) (by omega) (by omega) (by omega)) sz1 (by omega) s.heap.objs.size (.ref s.heap.objs.size) 0 (Heap.get?_push_size _ rfl) λh' tk acc c hk hS hi=>?_
 show wpAny _ A (load s.heap.objs.size >>= _) _ _ _
 refine wpAny_bind (wpAny_load hS ?_)
 refine wpAny_pure (h h' tk acc.toList (λb o e=>hk b o (Nat.ne_of_lt (Heap.lt_size e)) (keep b o e)) (by rw[Array.length_toList]; exact hi.1) λi v e=>?_)
 rw[Array.getElem?_toList]at e
 obtain⟨t,z⟩:=hi.2 i v e
 exact⟨t,by rw[z]; simp⟩
theorem aat{r:Addr}{t u v:Tok}{q:Addr}{Q:Value->Shared->Prop}{E:Value->Shared->Prop}(T:tY X Kv kd)(mono:∀{H H':Hp} {v k},Same H H'->Kv H v k->Kv H' v k)(inj:∀(H:Hp) v k k',Kv H v k->Kv H v k'->k=k')
  (I:Inv X pins σ H s) (hh:X.A.handled=none) (hr:IsRange s.heap r 0 n 1 t u v) (h64:n<64) (key:Ii X pins σ H Kv n kz (.ref q))
  (h:∀s' D ys H',Same H H'->H' D=none->Inv X pins σ (upd H' D (.lst (ys.map λi:Nat=>V.int i))) s'->qe n kz ys->Q (.ref D) s') :
  wpAny (model X.prog X.w) X.A (call (.builtin "sorted") [.ref r] [(Str.ofString "key",.ref q)]) Q E s:=by
 refine call_function_entry_kw kind_sorted plain_sorted entry_sorted (ksk_s1 _ _) ?_
 unfold Builtin.«sorted»
 refine wpAny_bind (m:=checkCount "sorted" 1 1 _) (wpAny_pure ?_)
 refine wpAny_bind (aas (A:=X.A.in1) hh hr (by omega) λh1 tk vs keep hl hv=>?_)
 have I1:Inv X pins σ H {s with heap:=h1,toks:=tk }:=I.kept keep
 refine wpAny_bind (wpAny_newList ?_ (by rw[sizeLine_eq]; omega))
 have I2:Inv X pins σ H {s with heap:=h1.push {cls:=.type "list",data:=.seq vs.toArray },toks:=tk }:=I1.kept (t':=tk) λb o e=>Heap.get?_push_of_some _ e
 have ha:(h1.push {cls:=.type "list",data:=.seq vs.toArray }).get? h1.objs.size=some (seqObj "list" vs.toArray 0):=Heap.get?_push_size _ rfl
 refine wpAny_bind (wpAny_holding (wpAny_call_entry_kw slot_list_sort ⟨_,ha,rfl⟩ entry_list_sort ?_ (ksk_l1 _ _)))
 show wpAny (model X.prog X.w) X.A.in1.in1 (Builtin.«list.sort» ⟨[.ref h1.objs.size],[(Str.ofString "key",.ref q)]⟩) _ _ _
 rw[ksk_t1]
 have fa:dN X pins H h1.objs.size:=I1.nA (Nat.le_refl _) (I1.hok.fresh (Nat.le_refl _))
 refine aar T mono inj I2 fa ha hv hl h64 key λs' c out H' sm na I' e' ⟨ys,hs,hv'⟩=>⟨_,rfl,?_⟩
 refine wpAny_pure ⟨_,rfl,h s' _ ys H' sm na (I'.track (its:=out.toList) (n:=c) (fa.up na) e' hv' ?_) hs⟩
 have:=hs.1.length_eq
 rw[List.length_map,this,List.length_range,sizeLine_eq]
 omega
end
end L2
end
section
namespace L2
open PySem PySem.Spec PyProof.Rows PySem.W
noncomputable def Ik(X:Cx)(A:Around)(N:List Str)(qual:Str)(scope:Scope)(f:Addr)(cd:Value)(s:Shared)(H:Hp):Cx where
 prog:=X.prog
 w:=X.w
 K:=X.K
 mg:=X.mg
 base:=X.base
 A:=A.deeper (envX qual scope s.heap.objs.size f cd (dg X.env.cells scope.names []))
 N:=N
 s₀ := s
 H₀ := H
 env:=envX qual scope s.heap.objs.size f cd (dg X.env.cells scope.names [])
 outer:=X.stack
 stack:=envX qual scope s.heap.objs.size f cd (dg X.env.cells scope.names [])::X.stack
 ex:=[]
 fn:=λ_=>false
 calm:=true
 pn:=[]
 xe:=λ_ _=>False
structure BX(sc:Scope)(No:List Str)(x:Str)(Ns:List Str)(src:List (Option Nat))(scope:Scope):Prop where
 c:qP sc No (x::Ns) (none::src) scope
 QW:∀y∈scope.names,y.2 ≠ .cell
 par:scope.names.lookup x=some .local
 co:scope.isCoroutine=false
 gen:scope.isGenerator=false
section
variable {X:Cx}{pins:List (Addr × Obj)}{σ : St}{H:Hp}{s:Shared}{sc scope:Scope}{No Ns:List Str}{src:List (Option Nat)}{x qual:Str}
theorem aau{A:Around}{f:Addr}{cd:Value}{h₁ : Heap}{tk:Nat}{v:V}{u:Value}(hsc:X.env.scope=sc)(iy:X.N=No)(S:BX sc No x Ns src scope)(hfr:A.frames=some X.stack)(hhd:A.handled=none)(I:Inv X pins σ H s)(rv:RelV v u)
  (hns:h₁.Ns s.heap.objs.size (λy=>([(x,u)]:List (Str × Value)).reverse.lookup y)) (old:∀b o,s.heap.get? b=some o->h₁.get? b=some o) :
  Inv (Ik X A (x::Ns) qual scope f cd s H) [] (some v::dJ src σ) H {s with heap:=h₁,toks:=tk }:=by
 subst hsc
 subst iy
 have yc:∀x c,(dg X.env.cells scope.names []).lookup x=some c->X.env.cells.lookup x=some c:=λx c h=>by
  rcases qO h with q|q
  ·simp at q
  ·exact q
 refine⟨⟨I.ok.mod,S.c.kind,rfl,rfl,Nat.le_refl _,λx y c h1 h2=>I.ok.inj x y c (yc _ _ h1) (yc _ _ h2),λy hy=>?_,λx c h=>(Bool.false_ne_true h).elim,λ_=>hhd,Around.frames_deeper hfr,.inr ⟨rfl,rfl⟩,λb hb=>absurd (show b∈([]:List Addr)from hb) (by simp),
   I.bs,Nat.le_trans I.ok.qD I.sz,λb o e=>by intro hb; exact absurd (show b∈([]:List Addr)from hb) (by simp),λb hb=>absurd (show b∈([]:List Addr)from hb) (by simp),I.stack,I.zA⟩,
  rfl,I.bare,Un.kept old,⟨_,hns,λi y w' h1 h2 h3=>?_⟩,λy c e=>?_,I.hok.fresh (Nat.le_refl _),λy c e=>I.lW y c (yc y c e),λp hp=>absurd (show p∈([]:List (Addr × Obj))from hp) (by simp),I.hok.kept old,?_⟩
 ·have hy:scope.names.lookup y=some .cell\/scope.names.lookup y=some .free:=hy
  have m:(y,NameKind.free)∈scope.names:=by
   rcases hy with z|z
   ·exact absurd rfl (S.QW _ (PySem.mem_of_lookup z))
   ·exact PySem.mem_of_lookup z
  have q:=sO (cells:=X.env.cells) (acc:=[]) (.inr ⟨m,by
   obtain⟨c,e⟩:=I.ok.has y (S.c.free _ m rfl)
   rw[e]; rfl⟩)
  exact Option.isSome_iff_exists.mp q
 ·cases i with
  |zero =>
   have h1:some x=some y:=h1
   cases h1
   have h2:some (some v)=some (some w'):=h2
   cases h2
   exact⟨u,rv,.inl ⟨S.par,by show([(x,u)]:List (Str × Value)).reverse.lookup x=some u; simp⟩⟩
  |succ i =>
   have h1:Ns[i]?=some y:=h1
   have h2:(dJ src σ)[i]?=some (some w'):=h2
   have hi:i<src.length:=by
    unfold dJ at h2
    have:=(List.getElem?_eq_some_iff.mp h2).1
    simpa using this
   have h2':((src[i]).bind λj=>(σ[j]?).join)=some w':=by
    unfold dJ at h2
    rw[List.getElem?_map,List.getElem?_eq_getElem hi]at h2
    exact Option.some.inj h2
   cases es:src[i]with
   |none=>rw[es]at h2'; cases h2'
   |some j =>
    rw[es]at h2'
    have hj : σ[j]?=some (some w'):=by
     have z:(σ[j]?).join=some w':=h2'
     cases q : σ[j]? with
     |none=>rw[q]at z; cases z
     |some o=>rw[q]at z; have z':o=some w':=z; rw[z']
    have hz:(y,some j)∈(x::Ns).zip (none::src):=by
     refine List.mem_of_getElem? (i:=i+1) ?_
     rw[List.getElem?_zip_eq_some]
     exact⟨by simpa using h1,by simp[List.getElem?_eq_getElem hi,es]⟩
    obtain⟨u1,u2⟩:=S.c.up _ hz j rfl
    have m:(y,NameKind.free)∈scope.names:=PySem.mem_of_lookup u2
    have kx:=S.c.free _ m rfl
    obtain⟨m0,hn0,hl0⟩:=id I.loc
    obtain⟨u',r,lk⟩:=hl0 j y w' u1 hj (kx.elim (λz=>.inr (.inl z)) λz=>.inr (.inr z))
    refine⟨u',r,?_⟩
    rcases lk with⟨k,_⟩|⟨_,c,e,ic⟩
    ·have k':X.env.scope.names.lookup y=some .local:=k
     rcases kx with z|z <;> (rw[z]at k'; cases k')
    ·refine .inr ⟨.inr u2,c,?_,?_⟩
     ·have q:=sO (cells:=X.env.cells) (acc:=[]) (.inr ⟨m,by rw[e]; rfl⟩)
      obtain⟨c',e'⟩:=Option.isSome_iff_exists.mp q
      have e2:=yc y c' e'
      rw[e]at e2; cases e2
      exact e'
     ·obtain⟨o,ho,hd⟩:=ic
      exact⟨o,old _ _ ho,hd⟩
 ·obtain⟨v,o,ho,hd⟩:=I.cell y c (yc y c e)
  exact⟨v,o,old _ _ ho,hd⟩
 ·have:=S.c.len
  show _=(x::Ns).length
  rw[List.length_cons]at this ⊢
  rw[List.length_cons]
  unfold dJ
  rw[List.length_map]
  exact this
theorem aav{A:Around}{f c':Addr}{params:Arguments}{body:Expr}{pm ctv:Value}{v:V}{u:Value}{te:TE}{Q:VK}{E:Value->Shared->Prop}(hsc:X.env.scope=sc)(iy:X.N=No)(S:BX sc No x Ns src scope)(hfr:A.frames=some X.stack)(hhd:A.handled=none)(hroom:A.depth<recursionLimit)
  (I:Inv X pins σ H s) (ho:s.heap.get? f=some (kla_obj "<lambda>" qual params body scope (dg X.env.cells scope.names []) pm c' ctv)) (hcd:s.heap.CodeRec (.ref c') qual) (rv:RelV v u)
  (hbind:bindArgs (kla_fn "<lambda>" qual params body scope (dg X.env.cells scope.names []) pm (.ref c') ctv) ⟨[u],[]⟩=pure [(x,u)])
  (he:∀s H,PE (Ik X A (x::Ns) qual scope f (.ref c') s H) body te) (hq:te (some v::dJ src σ) H Q):wpAny (model X.prog X.w) A (call (.ref f) [u]) (EP X pins σ Q) E s:=by
 refine wpAny_call (kla_callFunE hroom ho rfl S.co S.gen rfl hcd ?_)
 rw[hbind]
 refine wpAny_pure (wpAny_newFunctionEnv S.QW (λy hy=>?_) (λh₁ hns hsb=>⟨I.nolimit.fresh _ hsb,?_⟩) S.c.kind)
 ·have:y=(x,u):=by simpa using hy
  subst this
  exact S.par
 have old:∀b o,s.heap.get? b=some o->h₁.get? b=some o:=λb o e=>hsb.extBut b o (Nat.ne_of_lt (Heap.lt_size e)) (Heap.get?_push_of_some _ e)
 have J:=aau (A:=A) (f:=f) (cd:=.ref c') (qual:=qual) (tk:=s.toks+[(x,u)].length) hsc iy S hfr hhd I rv hns old
 show codeAny _ _ (.expr body (envX qual scope s.heap.objs.size f (.ref c') (dg X.env.cells scope.names []))) _ _
 refine kla_codeExpr (wpAny_mono (he s H [] _ _ H Q J hq) (λw' s' hw=>?_) λ_ _ z=>z.elim)
 obtain⟨v',H',J',r',q'⟩:=hw
 exact⟨v',H',I.call' (ch:=[]) J'.os J'.base J'.hok J'.bare (λb hb=>absurd hb (by simp)),r',q'⟩
end
end L2
end
section
namespace L2
open PySem PySem.Spec PyProof.Rows PySem.W
def qg(mg:Str→Option Value)(base:Heap):Prop:=∃bm ob,mg "__builtins__" = some (.ref bm)∧bm≠builtinsNs∧bm≠mainGlobals∧base.get? bm=some ob∧ob.cls=.type "module" ∧ ob.dict=some builtinsNs∧ob.data=.plain
theorem QX{a b:Int}{t u:Tok}{c:Value}:∀{l:List Value},TriplesOk l->TriplesOk (l++[.int a t,.int b u,c])
 | [],_=>trivial
 |.int _ _ :: .int _ _::_::r,h=>QX (l:=r) h
theorem QZ{a b:Int}{t u:Tok}{c v:Value}{pos:Pos}:∀{l:List Value},TriplesOk l->codeAmong pos (l++[.int a t,.int b u,c])=some v->codeAmong pos l=some v\/v=c
 | [],_,h=>by
  have h:(if _ then some c else none)=some v:=h
  split at h
  ·cases h; exact .inr rfl
  ·cases h
 |.int x _ :: .int y _::z::r,o,h=>by
  have h:(if(x == pos.line&&y == pos.col)=true then some z else codeAmong pos (r++[.int a t,.int b u,c]))=some v:=h
  show(if(x == pos.line&&y == pos.col)=true then some z else codeAmong pos r)=some v\/_
  split at h
  ·rename_i q
   rw[if_pos q]
   exact .inl h
  ·rename_i q
   rw[if_neg q]
   exact QZ (l:=r) o h
section
variable {X:Cx}{pins:List (Addr × Obj)}{σ : St}{H:Hp}{s:Shared}{sc scope:Scope}{No Ns:List Str}{src:List (Option Nat)}{x:Str}
structure BZ(P:Addr)(q:Str)(H H':Hp):Prop where
 kp:∀b o,H b=some o->b≠P->H' b=some o
 tb:∃ps,H' P=some (.cZ ps)/\Am H' q ps
theorem aaw{A:Around}{c P:Addr}{ps:Array Value}{params:Arguments}{body:Expr}{pos:Pos}{Q:Value->Shared->Prop}{E:Value->Shared->Prop}(hsc:X.env.scope=sc)(S:BX sc No x Ns src scope)(hcode:X.env.code=.ref c)(C:CodeHd X.base c P)(B:qg X.mg X.base)
  (hdef:defaultsOf params X.env=([],[])) (I:Inv X pins σ H s) (hP:H P=some (.cZ ps)) (ok:Am H (X.env.qual++("<lambda>" : Str)) ps)
  (h:∀f c' ctv pm H' s' oc,BZ P (X.env.qual++("<lambda>" : Str)) H H'→Inv X ((f,kla_obj "<lambda>" (X.env.qual++("<lambda>" : Str)) params body scope (dg X.env.cells scope.names []) pm c' ctv)::pins) σ H' s'→H' c'=some (.dF oc (.own 0))→O6 oc (X.env.qual++("<lambda>" : Str))→Q (.ref f) s') :
  wpAny (model X.prog X.w) A (eval (.Lambda params body scope pos) X.env) Q E s:=by
 have hcl:closureFor scope X.env=pure (dg X.env.cells scope.names []):=wL λy hy e=>by
  have k:=S.c.free y hy e
  rw[<-hsc]at k
  obtain⟨c,q⟩:=I.ok.has y.1 k
  rw[q]; rfl
 have oP:s.heap.get? P=some (tabObj ps):=I.hok P _ hP
 have nP:mainGlobals≠P:=λz=>by
  obtain⟨o,es,ep,e,hd,_⟩:=I.ok.mod.glob
  have:=(I.bs _ _ e).2
  rw[z,hP]at this
  cases this
 have hg:s.heap.Ns mainGlobals X.mg:=let⟨o,es,ep,e,r⟩:=I.ok.mod.glob; ⟨o,es,ep,I.bk _ _ e,r⟩
 have hB:s.heap.BuiltinsAt X.mg P:=by
  obtain⟨bm,ob,b1,b2,b3,b4,b5,b6,b7⟩:=B
  refine⟨bm,ob,b1,b2,b3,λz=>?_,I.bk _ _ b4,b5,b6,b7⟩
  have:=(I.bs _ _ b4).2
  rw[z,hP]at this
  cases this
 have C':CodeHd s.heap c P:=C.keeps I.bk
 refine kla_eval hdef ?_
 cases hf:codeAmong pos ps.toList with
 |some cv =>
  obtain⟨c',oc,rfl,e1,e2⟩:=ok.2 pos cv hf
  refine kla_makeFunctionHit (mg:=X.mg) hcl I.ok.glob hg hcode C' oP ok.1 hf hB λctv h' tk keep hsz=>?_
  have I1:Inv X pins σ H {s with heap:=h',toks:=tk }:=I.kept keep
  have I2:Inv X pins σ H {s with heap:=h'.push (kla_obj "<lambda>" (X.env.qual++("<lambda>" : Str)) params body scope (dg X.env.cells scope.names []) ((X.mg "__name__").getD .none) c' ctv),toks:=tk }:=I1.kept (t':=tk) λb o e=>Heap.get?_push_of_some _ e
  refine h _ c' ctv _ H _ oc ⟨λ_ _ q _=>q,ps,hP,ok⟩ (I2.tX (I1.nA (Nat.le_refl _) (I1.hok.fresh (Nat.le_refl _))) (Heap.get?_push_size _ rfl) (λv z=>by cases z)) e1 e2
 |none =>
  refine kla_makeFunction (mg:=X.mg) hcl I.ok.glob hg hcode C' oP ok.1 hf nP hB λc' ctv h' tk ext hge hlt hrec htb=>?_
  obtain⟨c2,oc,vs,t,e2,hoc,hd,hv⟩:=hrec
  cases e2
  have nc:H c'=none:=I.hok.fresh hge
  have cP:c'≠P:=λz=>by rw[z,hP]at nc; cases nc
  have ne:∀b u,H b=some u->b≠c':=λb u q=>gC q nc
  have up:∀b u,H b=some u->b≠P->(upd (upd H P (.cZ (ps ++ #[rawInt pos.line,rawInt pos.col,.ref c']))) c' (.dF oc (.own 0))) b=some u:=λb u q z=>by rw[aO (ne b u q),aO z]; exact q
  have Il:(upd (upd H P (.cZ (ps ++ #[rawInt pos.line,rawInt pos.col,.ref c']))) c' (.dF oc (.own 0))) P=some (.cZ (ps ++ #[rawInt pos.line,rawInt pos.col,.ref c'])):=by rw[aO (Ne.symm cP)]; exact cB
  have keep:∀b o,b≠P->s.heap.get? b=some o->h'.get? b=some o:=λb o z e=>ext b o z e
  have hok:eH X.prog X.w (upd (upd H P (.cZ (ps ++ #[rawInt pos.line,rawInt pos.col,.ref c']))) c' (.dF oc (.own 0))) h':=λb u q=>by
   by_cases z1:b=c'
   ·subst z1
    rw[cB]at q
    cases q
    exact⟨hoc,oc,hoc⟩
   ·by_cases z2:b=P
    ·subst z2
     rw[Il]at q
     cases q
     exact htb
    ·rw[aO z1,aO z2]at q
     refine(I.hok b u q).stay (λd v hd' e=>keep d v ?_ e) (λd z=>up d _ z ?_) λd ys z=>up d _ z ?_
     ·rcases hd' with rfl|hd'
      ·exact z2
      ·rintro rfl
       rw[hP]at hd'
       cases hd'
     ·rintro rfl
      rw[hP]at z
      cases z
     ·rintro rfl
      rw[hP]at z
      cases z
  have uH:∀b,H b=none->b≠P:=λb n z=>by rw[z,hP]at n; cases n
  have I1:Inv X pins σ (upd (upd H P (.cZ (ps ++ #[rawInt pos.line,rawInt pos.col,.ref c']))) c' (.dF oc (.own 0))) {s with heap:=h',toks:=tk } :=
   I.step (h':=h') (g':=s.gens) (d':=s.drawn) (t':=tk) (ch:=[]) (λ_ z=>nomatch z) (λb o _ _ _ e n=>keep b o (uH b n) e) (λb o _ _ _ e n=>⟨o.slots,keep b o (uH b n) e⟩)
    (λb o _ e n=>by
     rw[aO (λz=>by rw[z]at e; exact absurd (Heap.lt_size e) (Nat.not_lt.mpr hge)),aO (uH b n)]; exact n)
    (λb o _ e=>by
     by_cases z:b=P
     ·subst z; exact⟨_,htb⟩
     ·exact⟨o,keep b o z e⟩)
    (λb ys q=>up b _ q (by rintro rfl; rw[hP]at q; cases q)) (λb o u q=>up b _ q (by rintro rfl; rw[hP]at q; cases q))
    (λb qs q=>by
     by_cases z:b=P
     ·subst z
      rw[hP]at q
      cases q
      exact⟨_,Il⟩
     ·exact⟨#[],by rw[up b _ q z]; simp⟩)
    (λm q=>q.extBut ext (uH _ I.free)) hok I.bare
  have I2:=I1.kept (t':=tk) (h':=h'.push (kla_obj "<lambda>" (X.env.qual++("<lambda>" : Str)) params body scope (dg X.env.cells scope.names []) ((X.mg "__name__").getD .none) c' ctv)) λb o e=>Heap.get?_push_of_some _ e
  refine h _ c' ctv _ _ _ oc ⟨up,_,Il,?_,λpos' v q=>?_⟩ (I2.tX (I1.nA (Nat.le_refl _) (I1.hok.fresh (Nat.le_refl _))) (Heap.get?_push_size _ rfl) (λv z=>by cases z)) cB ⟨vs,t,hd,hv⟩
  ·have:(ps ++ #[rawInt pos.line,rawInt pos.col,.ref c']).toList=ps.toList++[rawInt pos.line,rawInt pos.col,.ref c']:=by simp
   rw[this]
   exact QX ok.1
  ·have:(ps ++ #[rawInt pos.line,rawInt pos.col,.ref c']).toList=ps.toList++[rawInt pos.line,rawInt pos.col,.ref c']:=by simp
   rw[this]at q
   rcases QZ ok.1 q with q|q
   ·obtain⟨d,o,z1,z2,z3⟩:=ok.2 pos' v q
    exact⟨d,o,z1,up d _ z2 (by rintro rfl; rw[hP]at z2; cases z2),z3⟩
   ·exact⟨c',oc,q,cB,vs,t,hd,hv⟩
end
end L2
end
section
namespace L2
open PySem PySem.Spec PyProof.Rows PySem.W
abbrev KW:=Hp->V->Int × Int->Prop
def yd:KW:=λ_ v k=>v=.int k.1/\k.2=0
noncomputable def Im(Kw:KW)(P:Addr)(q:Str)(src:List (Option Nat))(ta:TA)(te:TE):TE:=λσ H Q=>ta σ H λvs H1=>∃(n:Nat) (kz:Nat->Int × Int),vs=[.int n]/\n<64/\(∃ps,H1 P=some (.cZ ps)/\Am H1 q ps)/\∀H2,BZ P q H1 H2 ->
 (∀(i:Nat),i<n->∀H3,Same H2 H3->te (some (.int i)::dJ src σ) H3 λv H4=>Kw H4 v (kz i)/\Same H3 H4)/\∀D (ys:List Nat) H3,Same H2 H3->H3 D=none->qe n kz ys->Q (.ref D) (upd H3 D (.lst (ys.map λi:Nat=>V.int i)))
section
variable {X:Cx}{sc scope:Scope}{No Ns:List Str}{src:List (Option Nat)}{x:Str}{Kw:KW}{kd:SortKind}
theorem aax{k:Nat}{c P:Addr}{e:Expr}{params:Arguments}{body:Expr}{p p2 pos pos2 aay kp:Pos}{ta:TA}{te:TE}(T:tY X (λH u k=>∃v,RelV v u/\Kw H v k) kd)(mono:∀{H H':Hp} {v k},Same H H'->Kw H v k->Kw H' v k)(inj:∀(H:Hp) u k k',(∃v,RelV v u/\Kw H v k)->(∃v,RelV v u/\Kw H v k')->k=k')
  (hr:eV k X.A) (h1:X.mg "sorted" = none) (h2:X.mg "range" = none) (hsc:X.env.scope=sc) (iy:X.N=No) (S:BX sc No x Ns src scope) (hcode:X.env.code=.ref c) (C:CodeHd X.base c P) (B:qg X.mg X.base) (hdef:defaultsOf params X.env=([],[]))
  (ha:PA X [e] ta) (hbind:∀(pm cd ctv u:Value),bindArgs (kla_fn "<lambda>" (X.env.qual++("<lambda>" : Str)) params body scope (dg X.env.cells scope.names []) pm cd ctv) ⟨[u],[]⟩=pure [(x,u)])
  (he:∀A f cd s H,PE (Ik X A (x::Ns) (X.env.qual++("<lambda>" : Str)) scope f cd s H) body te)
  (hg:X.env.kindOf "sorted" = some .globalImplicit:=by kernel_rfl) (hg2:X.env.kindOf "range" = some .globalImplicit:=by kernel_rfl) (hs:notStar e=true:=by kernel_rfl) :
  PE X (.Call (.Name "sorted" p) [.Call (.Name "range" p2) [e] [] pos2] [⟨some (Str.ofString "key"),.Lambda params body scope aay,kp⟩] pos) (Im Kw P (X.env.qual++("<lambda>" : Str)) src ta te):=by
 refine⟨λpins s σ H Q I h=>?_⟩
 refine wpAny_Call_Name_kw (qF I hg h1 (by decide +kernel:bootBuiltins "sorted" = some (.builtin "sorted")) ?_ (by decide +kernel) (by kernel_rfl))
 refine callWith_kw (Calls.spliced_cons (wpAny_Call_Name_kw (qF I hg2 h2 boot_range (PyProof.Rows.callWith_type1 (bh (ha pos2 pins s σ H _ I h) λus s1 ⟨vs,H1,I1,r1,q1⟩=>?_) (qT hs) rfl) (by decide +kernel) (by kernel_rfl))))
 obtain⟨n,kz,rfl,h64,⟨ps,hP,ok⟩,hq⟩:=q1
 obtain⟨u1,rfl,t1,rfl⟩:=vals1 r1
 refine call_range_1 ?_
 have rfp:dN X pins H1 s1.heap.objs.size:=I1.nA (Nat.le_refl _) (I1.hok.fresh (Nat.le_refl _))
 have I2:Inv X pins σ H1 {s1 with heap:=s1.heap.push {cls:=.type "range",data:=.fields #[.int 0 s1.toks,.int n t1,.int 1 (s1.toks+1)] },toks:=s1.toks+1+1 }:=I1.kept λb o e=>Heap.get?_push_of_some _ e
 have I3:=I2.tX rfp (Heap.get?_push_size _ rfl) (λv z=>by cases z)
 refine Calls.spliced_nil ?_
 refine kws_cons (aaw hsc S hcode C B hdef I3 hP ok λf c' ctv pm H2 s2 oc lh I4 e1 e2=>?_)
 refine kws_nil ?_
 have pr:=I4.pin _ (List.mem_append_right _ (List.mem_cons_of_mem _ (List.mem_cons_self ..)))
 obtain⟨key,fin⟩:=hq H2 lh
 show wpAny _ _ (call (.builtin "sorted") [.ref s1.heap.objs.size] [(Str.ofString "key",.ref f)]) _ _ _
 refine aat T (λ{H H' u k} sm ⟨v,a1,a2⟩=>⟨v,a1,mono sm a2⟩) inj I4 hr.hd pr.1 h64 (λnu i t s' H' hi sub sm I'=>?_) λs' D ys H3 sm nD I' hs'=>⟨.ref D,_,I'.sub λp hp=>List.mem_cons_of_mem _ (List.mem_cons_of_mem _ hp),rfl,fin D ys H3 sm nD hs'⟩
 have pf:=I'.pin _ (List.mem_append_right _ (sub _ (List.mem_cons_self ..)))
 have hcd:s'.heap.CodeRec (.ref c') (X.env.qual++("<lambda>" : Str)):=by
  obtain⟨vs,t,a1,a2⟩:=e2
  exact⟨c',oc,vs,t,rfl,(I'.hok c' _ (sm _ _ e1)).1,a1,a2⟩
 refine bh (aav (A:=X.A.in1.in1) (v:=.int i) (te:=te) (Q:=λv H4=>Kw H4 v (kz i)/\Same H' H4) hsc iy S I.ok.frames hr.hd hr.depth I' pf.1 hcd ⟨t,rfl⟩ (hbind _ _ _ _) (λs H=>he _ _ _ _ _) (key i hi H' sm)) λu s'' ⟨v,H4,Ij,rv,q1,q2⟩=>⟨H4,q2,⟨v,rv,q1⟩,Ij⟩
theorem aaz:tY X (λH u k=>∃v,RelV v u/\yd H v k) oneType' where
 kind:=λH keys kz h2 hk pins σ s Q E I q=>QL.kind H keys kz h2 (λi v e=>by
  obtain⟨w,r,rfl,z⟩:=hk i v e
  obtain⟨t,rfl⟩:=r
  exact⟨t,rfl,z⟩) I q
 ask:=λa₀ kf I h=>QL.ask a₀ kf I λp hp=>by
  obtain⟨w,r,z1,z⟩:=h p hp
  subst z1
  obtain⟨t,r⟩:=r
  exact⟨t,r,z⟩
theorem aaA(H:Hp)(u:Value)(k k':Int × Int)(h:∃v,RelV v u/\yd H v k)(h':∃v,RelV v u/\yd H v k'):k=k':=by
 obtain⟨v,r,rfl,z⟩:=h
 obtain⟨v',r',rfl,z'⟩:=h'
 obtain⟨t,rfl⟩:=r
 obtain⟨t',r'⟩:=r'
 injection r' with r' _
 exact Prod.ext r' (z.trans z'.symm)
end
end L2
end
section
namespace L2
open PySem PySem.Spec PyProof.Rows PySem.W
def oM(kz:Nat->Int × Int)(i j:Nat):Prop:=((kz i).1<(kz j).1\/((kz i).1=(kz j).1/\(kz i).2<(kz j).2))\/(((kz i).1=(kz j).1/\(kz i).2=(kz j).2)/\i<j)
instance {kz:Nat->Int × Int}{i j:Nat}:Decidable (oM kz i j):=by unfold oM; infer_instance
def qm(kz:Nat->Int × Int)(i:Nat):List Nat->List Nat
 | []=>[i]
 |j::r=>if oM kz i j then i::j::r else j::qm kz i r
def yg(n:Nat)(kz:Nat->Int × Int):List Nat:=(List.range n).foldr (qm kz) []
theorem Io(kz:Nat->Int × Int)(i:Nat):∀l,(qm kz i l).Perm (i::l)
 | []=>.refl _
 |j::r=>by
  unfold qm
  split
  ·exact .refl _
  ·exact((Io kz i r).cons j).trans (.swap i j r)
theorem Q0(kz:Nat->Int × Int)(i:Nat):∀l,(∀j∈l,i≠j)->l.Pairwise (oM kz)->(qm kz i l).Pairwise (oM kz)
 | [],_,_=>by simp[qm]
 |j::r,hn,hp=>by
  have hp':=List.pairwise_cons.mp hp
  unfold qm
  split
  ·rename_i b
   refine List.pairwise_cons.mpr ⟨λk hk=>?_,hp⟩
   rcases List.mem_cons.mp hk with rfl|hk
   ·exact b
   ·have:=hp'.1 k hk
    unfold oM at b this ⊢
    omega
  ·rename_i b
   refine List.pairwise_cons.mpr ⟨λk hk=>?_,Q0 kz i r (λk hk=>hn k (List.mem_cons_of_mem _ hk)) hp'.2⟩
   rcases List.mem_cons.mp ((Io kz i r).mem_iff.mp hk)with rfl|hk
   ·have:=hn j (List.mem_cons_self ..)
    unfold oM at b ⊢
    omega
   ·exact hp'.1 k hk
theorem Q5(kz:Nat->Int × Int):∀l:List Nat,l.Nodup->(l.foldr (qm kz) []).Perm l/\(l.foldr (qm kz) []).Pairwise (oM kz)
 | [],_=>⟨.refl _,.nil⟩
 |i::r,nd=>by
  have nd':=List.nodup_cons.mp nd
  obtain⟨h1,h2⟩:=Q5 kz r nd'.2
  exact⟨(Io kz i _).trans (h1.cons i),Q0 kz i _ (λj hj z=>nd'.1 (by rw[z]; exact h1.mem_iff.mp hj)) h2⟩
theorem Q6(n:Nat)(kz:Nat->Int × Int):qe n kz (yg n kz):=Q5 kz _ List.nodup_range
theorem Q7{R:Nat->Nat->Prop}(as:∀a b,R a b->¬R b a):∀{l m:List Nat},l.Perm m->l.Pairwise R->m.Pairwise R->l=m
 | [],m,p,_,_=>by rw[List.nil_perm.mp p]
 |a::l,[],p,_,_=>by simpa using p.length_eq
 |a::l,b::m,p,h1,h2=>by
  have h1':=List.pairwise_cons.mp h1
  have h2':=List.pairwise_cons.mp h2
  have e:a=b:=by
   rcases List.mem_cons.mp (p.mem_iff.mp (List.mem_cons_self ..))with z|z
   ·exact z
   ·rcases List.mem_cons.mp (p.mem_iff.mpr (List.mem_cons_self (a:=b)))with y|y
    ·exact y.symm
    ·exact(as _ _ (h1'.1 b y) (h2'.1 a z)).elim
  subst e
  rw[Q7 as p.cons_inv h1'.2 h2'.2]
theorem qe.eq{n:Nat}{kz:Nat->Int × Int}{ys:List Nat}(h:qe n kz ys):ys=yg n kz:=by
 have g:=Q6 n kz
 refine Q7 (R:=oM kz) (λa b h1 h2=>?_) (h.1.trans g.1.symm) h.2 g.2
 unfold oM at h1 h2
 omega
abbrev RF:=List (Option Tr)->Rs Tr
noncomputable def QS(K:FZ)(te:TE)(f:RF):Prop:=∀(W:Addr->Prop) (σ : St) (H:Hp) (Q:VK) (ts:List (Option Tr)) (T:Tr),(∀b,W b->Lt H b)->(∀(i:Nat) U,ts[i]?=some (some U)->∃v,σ[i]?=some (some v)/\Rp K W H v U)->f ts=.ok T ->
 (∀v H',Same H H'->Rp K W H' v T->Q v H')->te σ H Q
theorem Rp.up{K:FZ}{W:Addr->Prop}{H H':Hp}{v:V}{T:Tr}(h:Rp K W H v T)(s:Same H H'):Rp K W H' v T:=by
 have m:Same (aA W H) (aA W H'):=(bG.of s).off
 rcases h with h|⟨a,xs,ts,e1,e2,e,r⟩
 ·exact .inl (h.mono m)
 ·exact .inr ⟨a,xs,ts,e1,e2,s _ _ e,r.mono m⟩
section
variable {K:FZ}{ta tb:TE}{fa fb:RF}
def qp(i:Nat):RF:=λts=>match ts[i]? with
 |some (some U)=>.ok U
 |_=>.bad
theorem Q8(i:Nat):QS K (fY i) (qp i):=λW σ H Q ts T hw h e q=>by
 unfold qp at e
 split at e
 ·rename_i U z
  cases e
  obtain⟨v,h1,h2⟩:=h i _ z
  exact⟨v,h1,q v H (Same.refl _) h2⟩
 ·cases e
def vC(g:G2)(fa fb:RF):RF:=λts=>(fa ts).bind λa=>(fb ts).bind λb=>(g a b).bind λz=>.ok z.1
theorem aaB{r:R2}{g:G2}(o:fQ K r g)(ha:QS K ta fa)(hb:QS K tb fb):QS K (eU r ta tb) (vC g fa fb):=λW σ H Q ts T hw h e q=>by
 unfold vC at e
 obtain⟨a,e1,e⟩:=gG e
 obtain⟨b,e2,e⟩:=gG e
 obtain⟨z,e3,e⟩:=gG e
 cases e
 refine ha W σ H _ ts a hw h e1 λx H1 s1 r1=>?_
 refine hb W σ H1 _ ts b (λb w=>(hw b w).grow s1) (λi U z=>let⟨v,h1,h2⟩:=h i U z; ⟨v,h1,h2.up s1⟩) e2 λy H2 s2 r2=>?_
 refine o W x y a b H2 Q (λb w=>(hw b w).grow (s1.trans s2)) (r1.up s2) r2 ?_
 rw[e3]
 intro v H3 s3 v3
 refine q v H3 ((s1.trans s2).trans s3) (.inl ?_)
 exact dH.rep (λb w=>((hw b w).grow (s1.trans s2)).ne) v3
def vD(g:G1)(fa:RF):RF:=λts=>(fa ts).bind λa=>(g a).bind λz=>.ok z.1
theorem aaC{r:V->Hp->VK->Prop}{g:G1}(o:pP K r g)(ha:QS K ta fa):QS K (Mx r ta) (vD g fa):=λW σ H Q ts T hw h e q=>by
 unfold vD at e
 obtain⟨a,e1,e⟩:=gG e
 obtain⟨z,e3,e⟩:=gG e
 cases e
 refine ha W σ H _ ts a hw h e1 λx H1 s1 r1=>?_
 refine o W x a H1 Q (λb w=>(hw b w).grow s1) r1 ?_
 rw[e3]
 intro v H3 s3 v3
 refine q v H3 (s1.trans s3) (.inl ?_)
 exact dH.rep (λb w=>((hw b w).grow s1).ne) v3
end
def vG(ρ : En)(j:Nat):Option Tr:=match ρ[j]? with
 |some (.sh T)=>some T
 |some (.ow ts)=>some (.lst ts)
 |some (.rf ts)=>some (.lst ts)
 |_=>none
def yh(src:List (Option Nat))(ρ : En):List (Option Tr):=src.map λo=>o.bind (vG ρ)
def yj:Tr->Option (Int × Int)
 |.int i=>some (i,0)
 |_=>none
def tZ(kt:Tr->Option (Int × Int))(fb:RF)(ts:List (Option Tr)):List Nat->Rs (List (Int × Int))
 | []=>.ok []
 |i::r=>(fb (some (Tr.int i)::ts)).bind λT=>match kt T with
  |some k=>(tZ kt fb ts r).bind λks=>.ok (k::ks)
  |none=>.bad
theorem Q9{kt:Tr->Option (Int × Int)}{fb:RF}{ts:List (Option Tr)}:∀{l:List Nat} {ks:List (Int × Int)},tZ kt fb ts l=.ok ks->ks.length=l.length/\∀(j i:Nat),l[j]?=some i->∃T k,fb (some (Tr.int i)::ts)=.ok T/\kt T=some k/\ks[j]?=some k
 | [],ks,h=>by cases h; exact⟨rfl,λj i z=>by simp at z⟩
 |a::l,ks,h=>by
  unfold tZ at h
  obtain⟨T,e1,h⟩:=gG h
  split at h
  ·rename_i k e2
   obtain⟨ks',e3,h⟩:=gG h
   cases h
   obtain⟨h1,h2⟩:=Q9 e3
   refine⟨by simp[h1],λj i z=>?_⟩
   cases j with
   |zero=>simp at z; subst z; exact⟨T,k,e1,e2,by simp⟩
   |succ j=>simpa using h2 j i (by simpa using z)
  ·cases h
noncomputable def Ca(kt:Tr->Option (Int × Int))(src:List (Option Nat))(fa:AF)(fb:RF):EF:=λρ=>(fa ρ).bind λp=>match p.1 with
 | [.v (.int n) _]=>if 0<=n/\n<64 then(bW (tZ kt fb (yh src p.2) (List.range n.toNat))).bind λks=>.ok (.v (.lst ((yg n.toNat λi=>ks.getD i (0,0)).map λi:Nat=>Tr.int i)) true,p.2)else .bad
 |_=>.bad
theorem Ra{K:FZ}{H:Hp}:∀l:List Nat,aL K H (l.map λi:Nat=>V.int i) (l.map λi:Nat=>Tr.int i)
 | []=>.nil
 |n::l=>.cons (.int n) (Ra l)
theorem aaD{t:Tx}{W:Addr->Prop}{ρ : En}{σ : St}{H:Hp}{j:Nat}{U:Tr}(e:aJ t W ρ σ H)(h:vG ρ j=some U):∃v,σ[j]?=some (some v)/\Rp t.K W H v U:=by
 unfold vG at h
 split at h
 ·rename_i T q
  cases h
  obtain⟨v,h1,h2⟩:=e.sh j _ q
  exact⟨v,h1,.inl h2⟩
 ·rename_i ts q
  cases h
  obtain⟨a,xs,h1,_,_,h4,h5⟩:=e.ow j _ q
  exact⟨_,h1,.inr ⟨a,xs,ts,rfl,rfl,h4,h5⟩⟩
 ·rename_i ts q
  cases h
  obtain⟨a,xs,h1,_,_,h4,h5⟩:=e.rf j _ q
  exact⟨_,h1,.inr ⟨a,xs,ts,rfl,rfl,h4,h5⟩⟩
 ·cases h
theorem BZ.smt{K:FZ}{P c:Addr}{x:Str}{H H':Hp}(tb:d8 K H)(hx:x∈iK)(ht:tabIn K x=some (c,P))(hu:∀x'∈iK,∀c',tabIn K x'=some (c',P)->x'=x)(l:BZ P (Al x) H H'):ig K H H':=by
 refine⟨λb o q n=>l.kp b o q λz=>n ?_,λx' hx' c' b e=>?_⟩
 ·subst z
  exact⟨x,hx,c,ht⟩
 ·by_cases z:b=P
  ·subst z
   have:=hu x' hx' c' e
   subst this
   exact l.tb
  ·obtain⟨ps,q,t1,t2⟩:=tb x' hx' c' b e
   refine⟨ps,l.kp _ _ q z,t1,λpos v k=>?_⟩
   obtain⟨d,o,e1,e2,e3⟩:=t2 pos v k
   refine⟨d,o,e1,l.kp _ _ e2 ?_,e3⟩
   rintro rfl
   obtain⟨qs,y,_⟩:=tb x hx c d ht
   rw[y]at e2
   cases e2
theorem aaE{t:Tx}{Kw:KW}{kt:Tr->Option (Int × Int)}{c P:Addr}{x:Str}{src:List (Option Nat)}{ta:TA}{fa:AF}{te:TE}{fb:RF}(hx:x∈iK)(ht:tabIn t.K x=some (c,P))(hu:∀x'∈iK,∀c',tabIn t.K x'=some (c',P)->x'=x)
  (hkt:∀(W:Addr->Prop) (H:Hp) v T k,Rp t.K W H v T->kt T=some k->Kw H v k) (ha:SA t ta fa) (hb:QS t.K te fb):SE t (Im Kw P (Al x) src ta te) (Ca kt src fa fb):=λW ρ σ H Q e h=>by
 refine ha W ρ σ H _ e (Rs.aY (Rs.aN h) λp h vs H1 e1 s1 v1=>?_)
 obtain⟨rs,ρ1⟩:=p
 dsimp only at h e1 v1
 split at h
 case h_2=>exact h.elim
 rename_i n fr
 split at h
 case isFalse=>exact h.elim
 rename_i hn
 have ev:vs=[.int n]:=by
  cases v1 with
  |cons h1 r1 =>
   cases r1
   cases fr with
   |false =>
    have h1:Rep _ _ _ (Tr.int n):=h1
    cases h1
    rfl
   |true =>
    obtain⟨_,_,_,_,z,_⟩:=h1
    cases z
 obtain⟨ks,k1,h⟩:=cV (Rs.aN h) (Hr _)
 have un:∀{α : Type} {x:Rs α} {a : α},bW x=.ok a->x=.ok a:=λ{α x a} z=>by cases x <;> first|exact z|cases z
 obtain⟨kl,kg⟩:=Q9 (un k1)
 have nn:((n.toNat:Nat):Int)=n:=by omega
 refine⟨n.toNat,λi=>ks.getD i (0,0),by rw[ev,nn],by omega,e1.tab.ok x hx c P ht,λH2 lh=>?_⟩
 obtain⟨e2,s2⟩:=e1.Hl (lh.smt e1.tab.ok hx ht hu)
 refine⟨λi hi H3 s3=>?_,λD ys H3 s3 nD hs=>?_⟩
 ·obtain⟨T,k,f1,f2,f3⟩:=kg i i (List.getElem?_range hi)
  have e3:=e2.grow s3
  refine hb W _ H3 _ _ T e3.wl (λj U z=>?_) f1 λv H4 s4 r4=>⟨hkt W H4 v T _ r4 ?_,s4⟩
  ·cases j with
   |zero=>simp at z; subst z; exact⟨.int i,by simp,.inl (.int i)⟩
   |succ j =>
    have z:(yh src ρ1)[j]?=some (some U):=z
    unfold yh at z
    rw[List.getElem?_map]at z
    cases eq:src[j]? with
    |none=>rw[eq]at z; cases z
    |some o =>
     rw[eq]at z
     have z:o.bind (vG ρ1)=some U:=Option.some.inj z
     cases o with
     |none=>cases z
     |some l =>
      obtain⟨v,h1,h2⟩:=aaD e3 (show vG ρ1 l=some U from z)
      refine⟨v,?_,h2⟩
      show(dJ src σ)[j]?=some (some v)
      rw[Hs eq,h1]
      rfl
  ·rw[f2]
   show some k=some (ks.getD i (0,0))
   rw[List.getD_eq_getElem?_getD,f3]
   rfl
 ·have e3:=e2.grow s3
  have hs':=hs.eq
  have st:bG W H1 H3:=s2.trans (bG.of s3)
  refine h (.ref D) _ (e3.grow (d7 nD _)) ((s1.trans st).trans (bG.of (d7 nD _))) (gY.back (H:=H3) (gY.of (σ' := σ) e3 (d7 nD _) (dH.new nD ?_)) λb q=>(s1.trans st).dom b q)
  rw[hs']
  exact Ra _
theorem aaF(K:FZ)(W:Addr->Prop)(H:Hp)(v:V)(T:Tr)(k:Int × Int)(r:Rp K W H v T)(e:yj T=some k):yd H v k:=by
 unfold yj at e
 split at e
 ·cases e
  exact⟨r.int,rfl⟩
 ·cases e
end L2
end
section
namespace L2
open PySem PySem.Spec PyProof.Rows PySem.W
def uc(K:FZ)(mg:Str->Option Value)(x:Str)(st:Stmt)(c:Addr):Prop:=∃f fd,sJ K x x st f fd/\mg x=some (.ref f)/\fd.code=.ref c
section
variable {P:Program}{w:World}{K:FZ}{mg:Str->Option Value}{base:Heap}
theorem uc.aaG{c:Addr}{k:Nat}{x:Str}{st:Stmt}{N ps:List Str}{sp:Sp}(a:uc K mg x st c)(S:pG N ps (bx st))
  (hb:∀(kV doc pm:Value) (an:Option Addr) (cdv ct:Value) (us:List Value),us.length=ps.length->bindArgs (fnOf x x (mD st) (jg st) (bx st) .none kV doc pm an cdv ct) ⟨us,[]⟩=pure (ps.zip us))
  (len:∀vs H Q E,sp vs H Q E->vs.length=ps.length)
  (hbody:∀(f:Addr) (A:Around) (outer:List Env) (s:Shared) (H:Hp) (vs:List V) (Q:VK) (E:XK),eV k (A.deeper (envOfC x (bx st) s.heap.objs.size f (.ref c)))->sp vs H Q E ->
   ∃t,jc (jC (jh P w) P w K mg base N x (bx st) f (.ref c) A outer s H E) (jg st) t/\t {nx:=λ_ H'=>Q .non H',rt:=Q } (start N vs) H):aV P w K mg base (k+1) x ps sp:=by
 obtain⟨f,fd,F,m,hc⟩:=a
 refine⟨f,fd,?_,F.binds hb,F.kp,m⟩
 obtain⟨oc,od,kV,doc,pm,an,cdv,ct,osl,rfl,lk,hcd⟩:=F.ex
 have hc:cdv=.ref c:=hc
 subst hc
 exact Ni lk hcd S len λA outer s H vs Q E hr h=>hbody f A outer s H vs Q E hr h
theorem uc.aaH{c:Addr}{k:Nat}{x:Str}{st:Stmt}{N ps:List Str}{cl:Str->Addr}{b:SF}(a:uc K mg x st c)(S:pG N ps (bx st))(hn:ps.length<=N.length)
  (hb:∀(kV doc pm:Value) (an:Option Addr) (cdv ct:Value) (us:List Value),us.length=ps.length->bindArgs (PySem.W.fnOf x x (mD st) (jg st) (bx st) .none kV doc pm an cdv ct) ⟨us,[]⟩=pure (ps.zip us))
  (hbody:∀(f:Addr) (A:Around) (outer:List Env) (s:Shared) (H:Hp) (E:XK),eV k (A.deeper (envOfC x (bx st) s.heap.objs.size f (.ref c))) ->
   ∃ts,jc (jC (jh P w) P w K mg base N x (bx st) f (.ref c) A outer s H E) (jg st) ts/\∀t:Tx,t.K=aB K->(∀c H',F0 t H'->t.EX c->E (.ref (cl c)) none H')->SS t ts b) :
  aV P w K mg base (k+1) x ps (bA K cl ps.length (bF N.length b)):=by
 refine a.aaG S hb (λvs H Q E h=>?_) (λf A outer s H vs Q E hr h=>?_)
 ·obtain⟨_,_,h,_⟩:=h; exact h
 obtain⟨Z,as,hl,r,zl,tb,h⟩:=h
 obtain⟨ts,h1,h2⟩:=hbody f A outer s H E hr
 refine⟨ts,h1,?_⟩
 have sm:∀(b:Addr) (W:Addr->Prop) ρ σ H',aJ ⟨aB K,Z,Tb (aB K),H,λ_=>none,λc=>∀H',ig (aB K) H H'->E (.ref (cl c)) none H'⟩ W ρ σ H'->ig (aB K) H H':=λ_ W ρ σ H' e=>⟨λb o q n=>e.f0 b o q n,e.tab.ok⟩
 have r:=r.mW (Hj tb)
 refine h2 ⟨aB K,Z,Tb (aB K),H,λ_=>none,λc=>∀H',ig (aB K) H H'->E (.ref (cl c)) none H'⟩ rfl (λc H' f0 q=>q H' ⟨λb o z n=>f0.1 b o z n,f0.2⟩) (λb=>Z b\/Tb (aB K) b) (bO N.length as) (start N vs) H _ ?_ (Rs.aY (Rs.aN h) λq h=>?_)
 ·have la:=r.length
  have iD:∀(i:Nat) (us:List Tr),(bO N.length as)[i]?=some (.dp us)->False:=λi us q=>by
   rcases jG q with⟨u',q1,z⟩|z <;> cases z
  refine⟨λ_=>[],?_,λ_ z=>.inl z,λb z=>?_,λb z=>z.elim (zl b) (λz=>.inr (tb.cZ z)),λb o q _=>q,λb q=>q,λi u q=>?_,λi us q=>?_,λi us q=>?_,λi j c m1 m2=>?_,λb o z=>(by cases z),λ_ _ _ _=>rfl,λi us q=>(iD i us q).elim,λi _ us _ _ q=>(iD i us q).elim,λi _ us _ q=>(iD i us q).elim,λi us q=>(iD i us q).elim,⟨tb,λ_ z=>.inr z,λ_ z=>z,λ_ _=>rfl⟩⟩
  ·unfold bO start
   simp only[List.length_append,List.length_map,List.length_replicate]
   omega
  ·exact(zl b z).ne
  ·rcases jG q with⟨u',q1,z⟩|z
   ·cases z
    obtain⟨v,e1,e2⟩:=r.mL q1
    exact⟨v,Hq e1,e2⟩
   ·cases z
  ·rcases jG q with⟨u',q1,z⟩|z <;> cases z
  ·rcases jG q with⟨u',q1,z⟩|z <;> cases z
  ·obtain⟨us,q|q⟩:=m1 <;> rcases jG q with⟨u',q1,z⟩|z <;> cases z
 ·obtain⟨fl,ρ'⟩:=q
  cases fl with
  |nx=>exact λW' σ' H' e n=>h .non H' (sm 0 W' ρ' σ' H' e) .non
  |rt T fr =>
   refine λv W' σ' H' e n=>h v H' (sm 0 W' ρ' σ' H' e) ?_
   cases fr <;> exact n
  |bk=>exact h.elim
  |ct=>exact h.elim
end
noncomputable def yp(K:FZ)(x:Str):Option (Addr × Addr):=match K.lookup mainGlobals with
 |some o=>if o.cls == .type "list" then none else(match nsIn K mainGlobals x with
  | some (some (.ref f))=>(match K.lookup f with
   |some o=>if o.cls == .type "list" then none else(match o.data with
    | .func fd=>(match fd.code with
     | .ref c=>(match K.lookup c with
      |some o=>if o.cls == .type "list" then none else tabIn K x
      |_=>none)
     |_=>none)
    |_=>none)
   |_=>none)
  |_=>none)
 |_=>none
theorem Ip{o:Obj}(h:(o.cls == .type "list")=false):eY o=o:=by
 unfold eY
 rw[if_neg]
 rintro⟨z,_⟩
 rw[z]at h
 exact absurd h (by decide +kernel)
theorem aaI{K:FZ}{x:Str}{o:Obj}(h:K.lookup mainGlobals=some o)(n:(o.cls == .type "list")=false):nsIn (aB K) mainGlobals x=nsIn K mainGlobals x:=by
 have e:(aB K).lookup mainGlobals=K.lookup mainGlobals:=by
  rw[mK,h]
  show some (eY o)=some o
  rw[Ip n]
 unfold nsIn
 rw[e]
theorem Rb{K:FZ}{x:Str}{z:Addr × Addr}(h:yp K x=some z):tabIn K x=some z/\tabIn (aB K) x=some z:=by
 unfold yp at h
 split at h
 ·rename_i o1 h1
  split at h
  ·cases h
  ·rename_i n1
   split at h
   ·rename_i f hf
    split at h
    ·rename_i o2 h2
     split at h
     ·cases h
     ·rename_i n2
      split at h
      ·rename_i fd hd
       split at h
       ·rename_i c hc
        split at h
        ·rename_i o3 h3
         split at h
         ·cases h
         ·rename_i n3
          refine⟨h,?_⟩
          rw[<-h]
          unfold tabIn
          rw[aaI h1 (by simpa using n1),hf]
          dsimp only
          rw[mK,h2]
          dsimp only[Option.map]
          rw[Ip (by simpa using n2)]
          obtain⟨a1,a2,a3,a4⟩:=o2
          dsimp only at hd
          subst hd
          dsimp only
          rw[hc]
          dsimp only
          rw[mK,h3]
          dsimp only[Option.map]
          rw[Ip (by simpa using n3)]
        ·cases h
       ·cases h
      ·cases h
    ·cases h
   ·cases h
 ·cases h
theorem Ir{o:Obj}{d:Data}(h:(eY o).data=d)(n:d ≠ .fields #[]):eY o=o:=by
 unfold eY at h ⊢
 split at h
 ·exact(n h.symm).elim
 ·rename_i q
  rw[if_neg q]
theorem Rf{K:FZ}{x:Str}{z:Addr × Addr}(h:tabIn (aB K) x=some z):tabIn K x=some z:=by
 unfold tabIn at h
 split at h
 ·rename_i f hf
  have g1:nsIn K mainGlobals x=some (some (.ref f)):=by
   unfold nsIn at hf
   rw[mK]at hf
   cases e:K.lookup mainGlobals with
   |none=>rw[e]at hf; cases hf
   |some o =>
    rw[e]at hf
    unfold nsIn
    rw[e]
    have q:eY o=o:=by
     dsimp only[Option.map]at hf
     split at hf
     ·rename_i a b es ep c eq
      have eq:eY o=⟨a,b,.dict es ep,c⟩:=Option.some.inj eq
      exact Ir (d:=.dict es ep) (by rw[eq]) (by intro z; cases z)
     ·cases hf
    dsimp only[Option.map]at hf
    rw[q]at hf
    exact hf
  split at h
  ·rename_i a b fd osl hfo
   have g2:K.lookup f=some ⟨a,b,.func fd,osl⟩:=by
    rw[mK]at hfo
    cases e:K.lookup f with
    |none=>rw[e]at hfo; cases hfo
    |some o =>
     rw[e]at hfo
     have eq:eY o=⟨a,b,.func fd,osl⟩:=Option.some.inj hfo
     rw[Ir (d:=.func fd) (by rw[eq]) (by intro z; cases z)]at eq
     rw[eq]
   split at h
   ·rename_i c hc
    split at h
    ·rename_i a' b' vs Rg hco
     split at h
     ·rename_i Pp hv
      cases h
      have g3:K.lookup c=some ⟨a',b',.fields vs,Rg⟩:=by
       rw[mK]at hco
       cases e:K.lookup c with
       |none=>rw[e]at hco; cases hco
       |some o =>
        rw[e]at hco
        have eq:eY o=⟨a',b',.fields vs,Rg⟩:=Option.some.inj hco
        rw[Ir (d:=.fields vs) (by rw[eq]) (by intro z; injection z with z; subst z; simp at hv)]at eq
        rw[eq]
      unfold tabIn
      rw[g1]
      dsimp only
      rw[g2]
      dsimp only
      rw[hc]
      dsimp only
      rw[g3]
      dsimp only
      rw[hv]
     ·cases h
    ·cases h
   ·cases h
  ·cases h
 ·cases h
structure Cd(K:FZ)(mg:Str->Option Value)(base:Heap)(x:Str)(c P:Addr):Prop where
 nm:x∈iK
 hd:CodeHd base c P
 bm:qg mg base
 tab:tabIn (aB K) x=some (c,P)
 un:∀x'∈iK,∀c',tabIn (aB K) x'=some (c',P)->x'=x
theorem aaJ{t:Tx}{K:FZ}{mg:Str->Option Value}{base:Heap}{x:Str}{c P:Addr}{src:List (Option Nat)}{ta:TA}{fa:AF}{te:TE}{fb:RF}(L:Cd K mg base x c P)(hK:t.K=aB K)(ha:SA t ta fa)(hb:QS (aB K) te fb):SE t (Im yd P (Al x) src ta te) (Ca yj src fa fb) :=
 aaE (c:=c) L.nm (by rw[hK]; exact L.tab) (by rw[hK]; exact L.un) (aaF _) ha (by rw[hK]; exact hb)
theorem aaK{K:FZ}{x:Str}{f c P:Addr}{o1:Obj}{oc:Value}{od:Option Addr}{fd:FuncData}{sl:Array (Option Value)}{cc:Value}{cd:Option Addr}{vs:Array Value}{cs:Array (Option Value)}(a:nsIn K mainGlobals x=some (some (.ref f)))(l1:K.lookup mainGlobals=some o1)(n1:(o1.cls == .type "list")=false)
  (l2:K.lookup f=some ⟨oc,od,.func fd,sl⟩) (n2:(oc == .type "list")=false) (hc:fd.code=.ref c) (l3:K.lookup c=some ⟨cc,cd,.fields vs,cs⟩) (n3:(cc == .type "list")=false) (hv:vs[11]?=some (.ref P)):yp K x=some (c,P):=by
 unfold yp
 rw[l1]
 dsimp only
 rw[if_neg (by rw[n1]; exact Bool.false_ne_true),a]
 dsimp only
 rw[l2]
 dsimp only
 rw[if_neg (by rw[n2]; exact Bool.false_ne_true),hc]
 dsimp only
 rw[l3]
 dsimp only
 rw[if_neg (by rw[n3]; exact Bool.false_ne_true)]
 unfold tabIn
 rw[a]
 dsimp only
 rw[l2]
 dsimp only
 rw[hc]
 dsimp only
 rw[l3]
 dsimp only
 rw[hv]
theorem Rh{K:FZ}{x:Str}(a:nsIn K mainGlobals x=some none):tabIn K x=none:=by
 unfold tabIn
 rw[a]
theorem aaL{K:FZ}{mg:Str->Option Value}{base:Heap}{x:Str}{c P:Addr}(nm:x∈iK)(hc:∀x∈iK,∀c b,tabIn K x=some (c,b)->CodeHd base c b)(bm:qg mg base)(q:yp K x=some (c,P))(ho:∀x'∈iK,x'=x\/∀c',tabIn K x'≠some (c',P)):Cd K mg base x c P :=
 ⟨nm,hc x nm c P (Rb q).1,bm,(Rb q).2,λx' hx' c' e=>(ho x' hx').elim id λz=>(z c' (Rf e)).elim⟩
end L2
end
section
namespace L2
open PySem PySem.Spec PyProof.Rows PySem.W
section
variable {X:Cx}
end
def rR:List Tr->Option (List Int)
 | []=>some []
 |.int i::r=>(rR r).map (i :: ·)
 |_::_=>none
theorem Ri:∀{ts:List Tr} {ns:List Int},rR ts=some ns->ts=ns.map Tr.int
 | [],_,h=>by cases h; rfl
 |.int i::r,ns,h=>by
  unfold rR at h
  cases e:rR r with
  |none=>rw[e]at h; cases h
  |some m=>rw[e]at h; cases h; rw[Ri e]; rfl
 |.non::_,_,h=>by cases h
 |.bl _::_,_,h=>by cases h
 |.str _::_,_,h=>by cases h
 |.tup _::_,_,h=>by cases h
 |.lst _::_,_,h=>by cases h
theorem Rj{K:FZ}{H:Hp}:∀{ns:List Int} {vs:List V},aL K H vs (ns.map Tr.int)->vs=ns.map V.int
 | [],_,h=>by cases h; rfl
 |n::ns,_,h=>by
  cases h with
  |cons h1 h2 =>
   cases h1
   rw[Rj h2]
   rfl
def eLR(fa:AF):EF:=λρ=>(fa ρ).bind λp=>match p.1 with
 | [.v (.int n) _]=>if 0<=n/\n<=1000 then .ok (.v (.lst ((List.range n.toNat).map λi:Nat=>Tr.int i)) true,p.2)else .bad
 |_=>.bad
end L2
end
section
namespace L2
open PySem PySem.Spec PyProof.Rows
section
variable {t:Tx}{K:FZ}
def aaM(F:FR)(fa:EF):EF:=λρ=>(fa ρ).bind λp=>match p.1 with
 |.v (.lst us) true=>(F [.lst us]).bind λz=>.ok (.v z.1.1 z.1.2,p.2)
 |_=>.bad
end
end L2
end
section
namespace L2
open PySem PySem.Spec PyProof.Rows
section
variable {X:Cx}
def Iu:V->List V->Hp->VK->Prop:=λx vs H Q=>∃(l:Addr) (xs:List V) (k:Nat) (y:V),x=.ref l/\vs=[.int (k:Int),y]/\H l=some (.lst xs)/\k<=xs.length/\xs.length<=100000/\Q .non (upd H l (.lst (xs.take k++y::xs.drop k)))
theorem aaN:zX X "list.insert" Iu:=by
 intro pins s σ H x vs v us Q I rx rv h
 obtain⟨l,xs,k,y,rfl,rfl,hH,hk,hz,q⟩:=h
 cases rx
 cases rv with
 |cons r1 rv =>
 cases rv with
 |cons ru rv =>
 cases rv
 obtain⟨t,rfl⟩:=r1
 rename_i u
 obtain⟨z,its,n,r,hl,e⟩:=I.Aa hH
 have big:100000+1<=sizeLine:=Nat.le_of_lt (show 100001<sizeLine from by unfold sizeLine; omega)
 have hs1:its.toArray.size<=sizeLine:=by rw[List.size_toArray]; omega
 have hk':(if(k:Int)<0 then((k:Int)+(its.toArray.size:Int)).toNat else min (k:Int).toNat its.toArray.size)=k:=by
  rw[if_neg (by omega),Int.toNat_natCast,List.size_toArray]
  omega
 have h1 : -(2 ^ 63)<=(k:Int):=by omega
 have h2:(k:Int)<2 ^ 63:=by omega
 have hfit:¬(!Builtin.List.listFitsIndex (k:Int))=true:=by rw[fitsIndex_both h1 h2]; exact Bool.false_ne_true
 have hlen:(xs.take k++y::xs.drop k).length<=sizeLine:=by
  rw[List.length_append,List.length_cons,List.length_take,List.length_drop]
  omega
 clear h1 h2 big
 generalize (k:Int)=i at *
 refine call_meets F.slot_list_insert ⟨_,e,rfl⟩ F.entry_list_insert (F.args_list_insert_3 _ _ _)
  (AutoSeq1.list_insert_list_int_val_1 l its.toArray n i t u hfit hs1) ⟨e,?_⟩
 refine⟨.non,_,I.zY (its':=its.take k++u::its.drop k) hH e ?_ (Vals.append (r.take _) (.cons ru (r.drop _))) hlen,rfl,q⟩
 show(its.toArray.extract 0 (if i<0 then(i+(its.toArray.size:Int)).toNat else min i.toNat its.toArray.size)).push u++its.toArray.extract (if i<0 then(i+(its.toArray.size:Int)).toNat else min i.toNat its.toArray.size)=_
 rw[hk']
 exact PySem.W.kl_ins_eq its k u
end
def rT:GM:=λts as=>match as with
 | [.int i,T]=>if 0<=i/\i.toNat<=ts.length/\ts.length<=100000 then .ok (ts.take i.toNat++T::ts.drop i.toNat,.non)else .bad
 |_=>.bad
theorem aaO:Hh Iu rT:=λK G a xs ts vs as H Q ts' T hx r ra q h=>by
 unfold rT at q
 split at q
 ·rename_i i U
  split at q
  ·rename_i c
   cases q
   cases ra with
   |cons h1 r1 =>
    cases r1 with
    |cons h2 r2 =>
     cases r2
     cases h1
     obtain⟨k,rfl⟩:∃k:Nat,(k:Int)=i:=⟨i.toNat,by omega⟩
     rw[Int.toNat_natCast]at c h
     exact⟨a,xs,k,_,rfl,rfl,hx,by rw[r.length]; exact c.2.1,by rw[r.length]; exact c.2.2,h _ _ ((r.take k).app (.cons h2 (r.drop k))) .non⟩
  ·cases q
 ·cases q
theorem aaP(ts as:List Tr)(c:Str):rT ts as ≠ .ex c:=by
 unfold rT
 split <;> (try split) <;> (intro z; cases z)
theorem aaQ{t:Tx}{K:FZ}{te Rk:TE}{f f2:EF}(i:Nat)(h:SE t te f)(h2:SE t Rk f2):SE t (wK K "list" Iu (fY i) (jq te (jq Rk lZ))) (iU i rT (ak f (ak f2 au))):=PJ i aaO aaP (bD h (bD h2 bU))
end L2
end
section
namespace L2
open PySem PySem.Spec PyProof.Rows
noncomputable def Ite(K:FZ)(l:Addr):It where
 go:=λi H=>∃xs x,bw K H l xs/\xs[i]?=some x
 lY:=λi H v H'=>∃(T:Addr) (x:V),v=.ref T/\H T=none/\H'=upd H T (.tup [.int (i:Int),x])/\∀xs,bw K H l xs->xs[i]?=some x
 stop:=λi H=>∃xs,bw K H l xs/\i=xs.length
def aaR(l e it:Addr)(i:Nat)(h:Heap):Prop:=(∃old,IsEnum h e it i old)/\h.IsListIter it l i
section
variable {P:Program}{w:World}{K:FZ}
theorem aaS{elts:List Expr}{k:Nat}{pos:Pos}(l e it:Addr)(hei:e≠it)(hle:l≠e)(hli:l≠it):Turn P w K (.Tuple elts k pos) (Ite K l) [e,it] e (aaR l e it) where
 mem:=by simp
 obj:=λi h st b hb=>by
  obtain⟨⟨old,he⟩,⟨o1,e1,_,d1⟩⟩:=st
  have hb':b=e\/b=it:=by simpa using hb
  rcases hb' with rfl|rfl
  ·exact⟨_,he,λv q=>nomatch q⟩
  ·exact⟨o1,e1,λv q=>by rw[d1]at q; cases q⟩
 keep:=λi h h' st kp=>by
  obtain⟨⟨old,he⟩,h1⟩:=st
  exact⟨⟨old,kp e (by simp) _ he⟩,h1.at λo q=>kp it (by simp) o q⟩
 item:=by
  intro X hP hw hK hc i pins s σ H E I hf st hg
  subst hP hw hK
  obtain⟨xs,x,q1,hx⟩:=hg
  obtain⟨jD,pO,p1,_⟩:=I.list q1
  obtain⟨u,hu,ru⟩:=pO.get hx
  have W:=WalksT.enumerate (prog:=X.prog) (w:=X.w) (A:=X.A) (I.ok.hd hc) e it l hei hle hli jD.toArray
  have XF:i<jD.length:=(List.getElem?_eq_some_iff.mp hu).1
  refine W.item i s _ E (by simp; omega) ⟨st.1,st.2,p1.isList⟩ λT vals h' tk hp hT ht mid kk=>?_
  obtain⟨t0,u',e1,rfl⟩:=hp
  have eu:u'=u:=by
   have:jD[i]?=some u':=by simpa using e1
   rw[hu]at this; cases this; rfl
  subst eu
  refine⟨.ref T,rfl,?_⟩
  refine W.go elts k pos i T _ _ E mid λh'' st' w6=>?_
  have nT:=W.apart i T _ mid
  have ob:∀b∈[e,it],b<s.heap.objs.size:=λb hb=>by
   obtain⟨⟨old,he⟩,⟨o1,e1,_,d1⟩⟩:=st
   have hb':b=e\/b=it:=by simpa using hb
   rcases hb' with rfl|rfl
   ·exact Heap.lt_size he
   ·exact Heap.lt_size e1
  have Gm:T∉[e,it]:=λm=>absurd (ob T m) (Nat.not_lt.mpr hT)
  have Gn:IsTup h'' T #[.int i t0,u']:=by
   obtain⟨o,e',r⟩:=ht
   exact⟨o,w6 T o nT e',r⟩
  have th:∀b∈[e,it],∃o,h''.get? b=some o:=λb hb=>by
   obtain⟨⟨old,he⟩,⟨o1,e1,_,d1⟩,_⟩:=st'
   have hb':b=e\/b=it:=by simpa using hb
   rcases hb' with rfl|rfl
   ·exact⟨_,he⟩
   ·exact⟨_,e1⟩
  have I':Inv X pins σ (upd H T (.tup [.int (i:Int),x])) {s with heap:=h'',toks:=tk }:=I.O2 (its:=[.int i t0,u']) hf (λb o n e=>w6 b o n (kk b o n e)) th hT Gn (.cons ⟨_,rfl⟩ (.cons ru .nil)) (by show 2<=sizeLine; decide)
  refine⟨.ref T,_,I',rfl,⟨T,x,rfl,I.hok.fresh hT,rfl,λxs' a1=>?_⟩,⟨st'.1,st'.2.1⟩,λb hb=>?_⟩
  ·rw[I.wH a1 q1]
   exact hx
  ·have nb:b≠T:=by
    intro e0
    rw[e0]at hb
    exact Gm hb
   rw[aO nb]
   exact(hf b hb).1
 done:=by
  intro X hP hw hK hc i pins s σ H E I hf st hg
  subst hP hw hK
  obtain⟨xs,q1,e1⟩:=hg
  obtain⟨jD,pO,p1,_⟩:=I.list q1
  have W:=WalksT.enumerate (prog:=X.prog) (w:=X.w) (A:=X.A) (I.ok.hd hc) e it l hei hle hli jD.toArray
  have ei:i=jD.toArray.size:=by simp[e1,pO.length]
  subst ei
  exact W.done s _ E ⟨st.1,st.2,p1.isList⟩ λh' tk kk=>⟨rfl,I.O3 hf λb o n e=>kk b o n e⟩
 self:=λA i s Q E st h=>by
  obtain⟨⟨old,he⟩,_⟩:=st
  exact wpAny_pyIter_enum he h
end
section
variable {X:Cx}
def Rm(K:FZ)(ta:TA):TI:=λσ H R=>ta σ H λvs H1=>∃l,vs=[.ref l]/\(∃xs,bw K H1 l xs)/\R (Ite K l) H1
theorem Rn{elts:List Expr}{k:Nat}{tpos:Pos}{a:Expr}{ta:TA}{p pos:Pos}(hm:X.mg "enumerate" = none) (ha:PA X [a] ta) (hg:X.env.kindOf "enumerate" = some .globalImplicit:=by kernel_rfl) (hs:notStar a=true:=by kernel_rfl) :
  PI X (.Tuple elts k tpos) (.Call (.Name "enumerate" p) [a] [] pos) (Rm X.K ta):=by
 intro pins s σ H R I h
 refine Call_ (qF I hg hm (show bootBuiltins "enumerate" = some (.type "enumerate") by decide +kernel) (PyProof.Rows.callWith_type1 (bh (ha pos pins s σ H _ I h) λus s1 ⟨vs,H1,I1,r1,q1⟩=>?_) (qT hs) rfl) (by decide +kernel) (by kernel_rfl))
 obtain⟨l,e,⟨xs,h1⟩,q⟩:=q1
 subst e
 cases r1 with
 |cons r rr =>
  cases rr
  cases r
  obtain⟨jD,pO,p1,_⟩:=I1.list h1
  obtain⟨o1,e1,_⟩:=p1.isList
  have lt:=Heap.lt_size e1
  refine call_enumerate_list p1.isList λh' he hit hsz hk=>?_
  refine wpAny_pyIter_enum he ?_
  refine⟨_,[_,_],_,_,H1,rfl,I1.kept (t':=s1.toks) hk,aaS l _ _ (Nat.succ_ne_self _) (Nat.ne_of_lt (Nat.lt_succ_of_lt lt)) (Nat.ne_of_lt lt),⟨⟨_,he⟩,hit⟩,λc hc=>?_,q⟩
  have hc':c=s1.heap.objs.size+1\/c=s1.heap.objs.size:=by simpa using hc
  have hge:s1.heap.objs.size<=c:=by rcases hc' with rfl|rfl <;> omega
  exact I1.nA hge (I1.hok.fresh hge)
end
section
variable {t:Tx}
def vH(us:List Tr):List Tr:=us.zipIdx.map λp=>.tup [.int (p.2:Nat),p.1]
theorem aaT{K:FZ}{W:Addr->Prop}{H:Hp}{a:Addr}{xs:List V}{us:List Tr}(q1:bw (aB K) (aA W H) a xs)(r1:aL (aB K) (aA W H) xs us):tG (aB K) W H (Ite K a) (vH us):=λW' H' m hw i=>by
 have tW:bw K H' a xs:=((gO W' H').seq (m.seq q1)).toK
 refine⟨λz=>⟨xs,tW,by rw[r1.length,z]; simp[vH]⟩,λu hu=>?_⟩
 unfold vH at hu
 rw[List.getElem?_map]at hu
 obtain⟨p,hp,rfl⟩:=Option.map_eq_some_iff.mp hu
 rw[List.getElem?_zipIdx]at hp
 obtain⟨y,hy,rfl⟩:=Option.map_eq_some_iff.mp hp
 obtain⟨x,hx,rx⟩:=r1.mL hy
 refine⟨⟨xs,x,tW,hx⟩,λv dM yl=>?_⟩
 obtain⟨T,x',rfl,fT,rfl,z⟩:=yl
 have z1:=z xs tW
 rw[hx]at z1
 cases z1
 have nW:¬W' T:=λw=>(hw T w).ne fT
 have sm:Same H' (upd H' T (.tup [.int (i:Int),x])):=d7 fT _
 have so:Same (aA W' H') (aA W' (upd H' T (.tup [.int (i:Int),x]))):=λb u q=>(Aq (o:=.tup [.int (i:Int),x]) fT b u q |> λz=>(Ao _ _ b u z))
 refine⟨sm,?_⟩
 show Rep _ _ (.ref T) (.tup [.int ((0+i:Nat):Int),y])
 rw[Nat.zero_add]
 refine .tup (xs:=[.int (i:Int),x]) (.inl (.inl ?_)) (.cons (.int _) (.cons ((rx.mono m).mono so) .nil))
 unfold aA
 rw[if_neg nW,cB]
def yq(fa:AF):IF:=λρ=>(fa ρ).bind λp=>match p.1 with
 | [.v (.lst us) _]=>.ok (vH us,p.2)
 |_=>.bad
theorem Ro{K:FZ}(hK:t.K=aB K){ta:TA}{fa:AF}(ha:SA t ta fa):SI t (Rm K ta) (yq fa):=λW ρ σ H R e h=>by
 refine ha W ρ σ H _ e (Rs.aY (Rs.aN h) λp h vs H1 e1 s1 v1=>?_)
 split at h
 ·rename_i us _ ep
  rw[ep]at v1
  cases v1 with
  |cons h1 r1 =>
   cases r1
   have h1:=h1.rep e.wn
   rw[hK]at h1
   cases h1 with
   |lst q1 p1 =>
    refine⟨_,rfl,⟨_,((gO _ _).seq q1).toK⟩,h _ H1 e1 s1 ?_⟩
    rw[hK]
    exact aaT q1 p1
 ·exact h.elim
end
theorem Rq:∀{ns:List Int} {vs:List Value},Vals (ns.map V.int) vs->∃ps:List (Int × Tok),vs=ps.map (λp=>.int p.1 p.2)/\ps.map (·.1)=ns
 | [],_,h=>by cases h; exact⟨[],rfl,rfl⟩
 |n::ns,_,h=>by
  cases h with
  |cons h1 h2 =>
   obtain⟨t,rfl⟩:=h1
   obtain⟨ps,rfl,rfl⟩:=Rq h2
   exact⟨(n,t)::ps,rfl,rfl⟩
section
variable {X:Cx}
end
section
variable {K:FZ}
end
end L2
end
section
namespace L2
open PySem PySem.Spec PyProof.Rows
def vI(src:List (Option Nat))(n:Nat)(g:GF)(c:BF)(f:EF):EF:=λρ=>(con ρ n).bind λus=>if us.length<=100000 then(bW (fO g c f us (dU src ρ))).bind λz=>if dW src z.2 ρ = true then .ok (.v (.lst z.1) true,bT src z.2 ρ)else .bad else .bad
theorem aaU{t:Tx}{K:FZ}(hK:t.K=aB K){g:TG}{src:List (Option Nat)}{tc:TT}{te:TE}{gf:GF}{c:BF}{f:EF}{js:List Nat}(n:Nat)(hn:∀k:Nat,src[k]? ≠ some (some n))(I:Inj src)(hj:∀k j:Nat,src[k]?=some (some j)->k∉js)(ng:∀T ρ c,gf T ρ ≠ .ex c)
  (hg:∀t':Tx,t'.K=t.K->(∀c,¬t'.EX c)->SG t' g gf js) (hc:∀t':Tx,t'.K=t.K->(∀c,¬t'.EX c)->ST t' tc c) (he:∀t':Tx,t'.K=t.K->(∀c,¬t'.EX c)->SE t' te f):SE t (pW (vm K (fY n)) g src tc te) (vI src n gf c f):=λW ρ σ H Q e h=>by
 obtain⟨us,kc,h⟩:=cV (Rs.aN h) (Hf _ _)
 obtain⟨mu,a,ys,hσ,wa,ha,ra,_⟩:=e.con kc
 refine .inl ⟨.ref a,hσ,a,rfl,⟨ys,bw.of ha⟩,?_⟩
 split at h
 case isFalse=>exact h.elim
 rename_i hlen
 intro D hD
 have h:=xP (Rs.aN h)
 obtain⟨F,eF⟩:=id e
 have wD:∀b,W b->b≠D:=λb w z=>by subst z; exact e.wn b w hD
 have rH:t.H0 D=none:=e.n0 D hD
 refine⟨λi m τ H'=>m=us.length-i/\i<=us.length/\∃ρ' xs acc,aJ (fZ t src ρ σ F H D xs) (λb=>W b\/b=D) ρ' τ H'/\aL t.K (aA (λb=>W b\/b=D) H') xs acc/\xs.length<=i/\(∀b o,¬W b->H b=some o->H' b=some o)/\(∀k,k∉js -> τ[k]?=(dJ src σ)[k]?) /\
   (fO gf c f (us.drop i) ρ').post (λ_=>False) (λz=>(if dW src z.2 ρ = true then .ok (.v (.lst (acc++z.1)) true,bT src z.2 ρ)else .bad:Rs (Rv × En)).post t.EX (λp=>∀v H',aJ t W p.2 σ H'->bG W H H'->gY t W p.2 σ H H' v p.1->Q v H')),?_,?_⟩
 ·refine⟨us.length,by simp,Nat.zero_le _,dU src ρ,[],[],eF.enter I hD,.nil,Nat.le_refl _,λb o _ q=>?_,λ_ _=>rfl,?_⟩
  ·rw[aO (gC q hD)]; exact q
  ·rw[List.drop_zero]; exact h
 ·rintro i m τ H2 ⟨rfl,hi,ρ2,xs,acc,e2,r2,l2,n2,a2,h2⟩
  have sm:Same (aA W H) (aA (λb=>W b\/b=D) H2):=λb o q=>by
   obtain⟨nw,q⟩:=gj q
   rw[cC]
   ·exact n2 b o nw q
   ·rintro(z|rfl)
    ·exact nw z
    ·rw[hD]at q; cases q
  have nD0:a≠D:=wD a wa
  have yr:H2 a=some (.lst ys):=e2.pn a _ ((rG nD0 (.inl ⟨n,mu,hσ,hn⟩)).trans ha)
  have q':bw K H2 a ys:=bw.of yr
  have q:(i=us.length->(pB K a).stop i H2)/\∀u,us[i]?=some u->(pB K a).go i H2/\∀x dM,(pB K a).lY i H2 x dM->Same H2 dM/\Rep t.K (aA (λb=>W b\/b=D) dM) x u:=by
   refine⟨λz=>⟨ys,q',by rw[ra.length]; omega⟩,λu hu=>?_⟩
   obtain⟨x,hx,rx⟩:=ra.mL hu
   refine⟨⟨ys,x,q',hx⟩,λy dM yl=>?_⟩
   obtain⟨rfl,z⟩:=yl
   have:=z ys q'
   rw[hx]at this
   cases this
   exact⟨Same.refl _,rx.mono sm⟩
  by_cases hlt:i<us.length
  ·rw[List.drop_eq_getElem_cons hlt]at h2
   obtain⟨go,y⟩:=q.2 us[i] (by simp[hlt])
   refine .inr ⟨go,λx H3 yl=>?_⟩
   obtain⟨s3,r3⟩:=y x H3 yl
   have e3:=e2.grow s3
   refine hg (fZ t src ρ σ F H D xs) rfl (λ_=>id) _ ρ2 τ H3 x us[i] _ e3 r3 (Rs.aY (jz (Rs.aN h2) (ng _ _)) λρ4 h σ4 e4 a4=>?_)
   refine hc (fZ t src ρ σ F H D xs) rfl (λ_=>id) _ ρ4 σ4 H3 _ e4 (Rs.aY (Rs.aN h) λb h H5 e5 s5=>?_)
   have gD:bG (λb=>W b\/b=D) H2 H5:=(bG.of s3).trans s5
   have n5:∀b o,¬W b->H b=some o->H5 b=some o:=λb o nw qb=>by
    have nD:b≠D:=gC qb hD
    refine gD.keep b o ?_ (n2 b o nw qb)
    rintro(z|z)
    ·exact nw z
    ·exact nD z
   have a5:∀k,k∉js -> σ4[k]?=(dJ src σ)[k]? := λk nk=>(a4 k nk).trans (a2 k nk)
   split at h
   ·rename_i cb
    rw[if_pos cb]
    refine he (fZ t src ρ σ F H D xs) rfl (λ_=>id) _ b.2 σ4 H5 _ e5 (Rs.aY (Rs.aN h) λp h v H6 e6 s6 v6=>?_)
    obtain⟨T,kT,h⟩:=cV (Rs.aN h) (Hv _)
    have rv:Rep t.K (aA (λb=>W b\/b=D) H6) v T:=by
     obtain⟨r,ρ7⟩:=p
     cases r with
     |s i=>cases kT
     |v U fr =>
      cases kT
      exact dH.rep (K:=t.K) e5.wn v6.1
    refine⟨xs,e6.pn D _ oF,Nat.lt_of_le_of_lt (show xs.length<=100000 by omega) (by decide),us.length-(i+1),by omega,rfl,hlt,p.2,xs++[v],acc++[T],e6.Qe (.inr rfl) rH,?_,by rw[List.length_append]; simp; omega,λb o nw q=>?_,a5,?_⟩
    ·rw[jO (.inr rfl)]
     exact(r2.mono (gD.trans s6).off).app (.cons rv .nil)
    ·have nD:b≠D:=gC q hD
     rw[aO nD]
     refine s6.keep b o ?_ (n5 b o nw q)
     rintro(z|z)
     ·exact nw z
     ·exact nD z
    ·refine Rs.aY (Rs.aN h) λz h=>?_
     rw[List.append_assoc]
     exact h
   ·rename_i cb
    rw[if_neg cb]
    exact⟨us.length-(i+1),by omega,rfl,hlt,b.2,xs,acc,e5,r2.mono gD.off,by omega,n5,a5,h⟩
  ·have z:i=us.length:=by omega
   subst z
   rw[List.drop_length]at h2
   have h2:(if dW src ρ2 ρ = true then .ok (.v (.lst (acc++[])) true,bT src ρ2 ρ)else .bad:Rs (Rv × En)).post t.EX _:=h2
   refine .inl ⟨q.1 rfl,?_⟩
   split at h2
   ·rename_i so
    rw[List.append_nil]at h2
    have hxs:H2 D=some (.lst xs):=e2.pn D _ oF
    have eW:aJ t W (bT src ρ2 ρ) σ H2:=⟨F,eF.leave (Wx:=W) I hD e2 n2 hj a2 so (λ_ w=>w) λ_ w=>.inl w⟩
    have eD:nJ t W D (bT src ρ2 ρ) σ H2:=⟨F,eF.leave (Wx:=λb=>W b\/b=D) I hD e2 n2 hj a2 so (λ_ w=>.inl w) λ_ w=>w,λi ts hi z=>by
     obtain⟨c,ys,_,bs,_,_,ww,_⟩:=eF.dp i ts (j8 I hi)
     exact wD D (ww D z).1 rfl⟩
    have st:bG W H H2:=⟨n2,λb q=>by
     cases z:H b with
     |none=>rfl
     |some o =>
      by_cases w:W b
      ·exact((e2.wl b (.inl w)).ne q).elim
      ·rw[n2 b o w z]at q
       cases q⟩
    refine h2 (.ref D) H2 eW st ⟨⟨D,xs,acc,rfl,rfl,hD,hxs,r2.mono λb o q=>?_⟩,λU a _ ea=>?_⟩
    ·obtain⟨nb,q⟩:=gj q
     rw[off_ne λz=>nb (.inr z),cC λz=>nb (.inl z)]
     exact q
    ·cases ea
     exact eD
   ·exact h2.elim
theorem aaV{src:List (Option Nat)}{n:Nat}(h:src.all (λo=>o != some n)=true):∀k:Nat,src[k]? ≠ some (some n):=λk e=>by
 have:=List.all_eq_true.mp h _ (List.mem_of_getElem? e)
 simp at this
end L2
end
section
namespace L2
open PySem PySem.Spec PyProof.Rows PySem.W
def Ce:List Str := "HeadError" :: mG
def isub(c d:Str):Bool:=c == d || d == ("HeadError" : Str)
def Rr:List Ty:=[.int,.bool,.str,.tuple,.list]
def Cg(K:Frag)(cs:List Str)(p:Str->Addr->Bool):Bool:=cs.all λc=>match nsIn K mainGlobals c with
 |some (some (.ref C))=>p c C
 |_=>true
theorem Iv{K:Frag}{cs:List Str}{p:Str->Addr->Bool}(h:Cg K cs p=true){c:Str}(m:c∈cs){C:Addr}(n:nsIn K mainGlobals c=some (some (.ref C))):p c C=true:=by
 have:=List.all_eq_true.mp h c m
 rw[n]at this
 exact this
noncomputable def Iw(K:Frag)(C:Addr):Bool:=findIn K (.ref C) "__getattribute__" == some (some (.builtin "BaseException.__getattribute__"))&&findIn K (.ref C) "__getattr__" == some none&&findIn K (.ref C) "__class__" == some (some (.builtin "object.__class__"))&&mroIn K C (.type "object") == some true&&mroIn K C (.type "BaseException") == some true&&(clsIn K C).isSome
theorem aaW{K:Frag}{C:Addr}(h:Iw K C=true):nH K C:=by
 unfold Iw at h
 simp only[Bool.and_eq_true]at h
 obtain⟨⟨⟨⟨⟨h1,h2⟩,h3⟩,h4⟩,h5⟩,h6⟩:=h
 exact⟨beq_iff_eq.mp h1,beq_iff_eq.mp h2,beq_iff_eq.mp h3,beq_iff_eq.mp h4,beq_iff_eq.mp h5,h6⟩
noncomputable def Rt(K:Frag):Bool :=
 Cg K mG (λ_ C=>Iw K C&&Rr.all (λy=>kitOne K (.ref C) (.type y.name) == some false)&&kitOne K (.ref C) (.type "ValueError") == some true) &&
 Cg K Ce (λd D=>kitOne K (.type "NoneType") (.ref D) == some false&&Cg K mG (λc C=>kitOne K (.ref C) (.ref D) == some (isub c d)&&(!(d == ("HeadError" : Str)) || exmOne K (.ref C) (.ref D) == some true))) &&
 kitOne K (.type "NoneType") (.type "ValueError") == some false&&(match K.lookup mainGlobals with
  |some o=>o.cls != .type "list"
  |none=>true)
structure kO(K:Frag):Prop where
 o:Ah K
 n:∀d∈Ce,∀D,nsIn K mainGlobals d=some (some (.ref D))->kitOne K (.type "NoneType") (.ref D)=some false
 k:∀d∈Ce,∀D,nsIn K mainGlobals d=some (some (.ref D))->∀c∈mG,∀C,nsIn K mainGlobals c=some (some (.ref C))->kitOne K (.ref C) (.ref D)=some (isub c d)
 v:∀c∈mG,∀C,nsIn K mainGlobals c=some (some (.ref C))->kitOne K (.ref C) (.type "ValueError")=some true
 vn:kitOne K (.type "NoneType") (.type "ValueError")=some false
 h:∀D,nsIn K mainGlobals "HeadError" = some (some (.ref D))->∀c∈mG,∀C,nsIn K mainGlobals c=some (some (.ref C))->exmOne K (.ref C) (.ref D)=some true
 x:∀c∈mG,∀C,nsIn K mainGlobals c=some (some (.ref C))->nH K C
 mc:∀o,K.lookup mainGlobals=some o->o.cls ≠ .type "list"
theorem kO.of{K:Frag}(h:Rt K=true):kO K:=by
 unfold Rt at h
 simp only[Bool.and_eq_true]at h
 obtain⟨⟨⟨h1,h2⟩,h3⟩,h4⟩:=h
 have a1:∀c∈mG,∀C,nsIn K mainGlobals c=some (some (.ref C))->nH K C/\(∀y:Ty,kitOne K (.ref C) (.type y.name)=some false)/\kitOne K (.ref C) (.type "ValueError")=some true:=λc m C n=>by
  have:=Iv h1 m n
  simp only[Bool.and_eq_true]at this
  obtain⟨⟨x1,x2⟩,x3⟩:=this
  refine⟨aaW x1,λy=>?_,beq_iff_eq.mp x3⟩
  have:=List.all_eq_true.mp x2 y (by cases y <;> simp[Rr])
  exact beq_iff_eq.mp this
 have a2:∀d∈Ce,∀D,nsIn K mainGlobals d=some (some (.ref D))→kitOne K (.type "NoneType") (.ref D)=some false∧∀c∈mG,∀C,nsIn K mainGlobals c=some (some (.ref C))→kitOne K (.ref C) (.ref D)=some (isub c d)∧(d = "HeadError" → exmOne K (.ref C) (.ref D)=some true):=λd m D n=>by
  have:=Iv h2 m n
  rw[Bool.and_eq_true]at this
  refine⟨beq_iff_eq.mp this.1,λc mc C nc=>?_⟩
  have:=Iv this.2 mc nc
  rw[Bool.and_eq_true]at this
  refine⟨beq_iff_eq.mp this.1,λe=>?_⟩
  have z:=this.2
  rw[Bool.or_eq_true]at z
  rcases z with z|z
  ·rw[e]at z; cases z
  ·exact beq_iff_eq.mp z
 refine⟨λc m C n=>⟨λa=>Xv (a1 c m C n).1,(a1 c m C n).2.1⟩,λd m D n=>(a2 d m D n).1,λd m D n c mc C nc=>((a2 d m D n).2 c mc C nc).1,λc m C n=>(a1 c m C n).2.2,beq_iff_eq.mp h3,λD n c mc C nc=>((a2 "HeadError" (List.mem_cons_self ..) D n).2 c mc C nc).2 rfl,λc m C n=>(a1 c m C n).1,λo e=>?_⟩
 rw[e]at h4
 simpa using h4
section
variable {X:Cx}
variable {e:Expr}{te:TE}{x:Str}{p q pos:Pos}
end
section
variable {t:Tx}{K:Frag}
def Pr{α : Type}(f:En->Rs (α × En)):Prop:=∀ρ,(∀p,f ρ=.ok p->p.2 = ρ)/\∀c,f ρ ≠ .ex c
end
section
variable {X:Cx}{e:Expr}{te:TEX}{pos:Pos}
end
end L2
end
section
namespace BH
open PySem L2
def Rw:SF:=(aG (bN (nY (pZ 1) (cu (aq fG (aj 1) (eC (.int 0)))) (tK 0 1 (ak (aj 1) (ak (aq bZ (aj 0) (aj 1)) au))))) (bJ (aR (g1 jR) (ak (aj 0) au))))
def ud:FP:=bF 2 Rw
def Rx:SF:=(bJ (qZ (gJ .int (aj 0)) (GP (gJ .bool (aj 0)))))
def qu:FP:=bF 1 Rx
noncomputable def Iz:SF:=(aG (cM (iC (dR (dY (gJ .tuple (aj 0)))) (cu (aq fG (aR (g1 bB) (ak (aj 0) au)) (eC (.int 2))))) (bJ (eC (.bl false))) cL) (aG (bf (aj 0) (gT 2 (bL (gN 1) (bL (gN 2) dI)))) (aG (cM (iC (dR (dY (aX qu (ak (aj 1) au)))) (dR (dY (aX qu (ak (aj 2) au))))) (bJ (eC (.bl false))) cL) (bJ (qZ (aq j5 (aj 2) (eC (.int 1))) (aq dw (aX ud (ak (aj 1) (ak (aj 2) au))) (eC (.int 1))))))))
def yt:FP:=bF 3 Iz
def IK:SF:=(bJ (qZ (aX yt (ak (aj 0) au)) (rm dO dO (eC (.int 0)) (aq aK (aj 0) (eC (.int 0))) (aq aK (aj 0) (eC (.int 1))))))
def qw:FP:=bF 1 IK
def IV:SF:=(aG (cM (iC (dR (dY (gJ .list (aj 0)))) (dR (cu (rm dO dO (eC (.int 1)) (aR (g1 bB) (ak (aj 0) au)) (aj 1))))) (bJ (eC (.bl false))) cL) (bJ (aR (g1 eE) (ak (cD [none] (bM (aj 0)) (gN 0) cF (aX qw (ak (aj 0) au))) au))))
def uf:FP:=bF 2 IV
noncomputable def Ry:SF:=(aG (cM (iC (dR (dY (gJ .list (aj 0)))) (dR (cu (rm dO dO (eC (.int 1)) (aR (g1 bB) (ak (aj 0) au)) (eC (.int 4)))))) (bJ (eC (.bl false))) cL) (aG (cM (dR (dY (aR (g1 eE) (ak (cD [none] (bM (aj 0)) (gN 0) cF (aX uf (ak (aj 0) (ak (eC (.int 12)) au)))) au)))) (bJ (eC (.bl false))) cL) (bJ (aR (g1 eE) (ak (cD [none,some 0] (bM (aj 0)) (gN 0) cF (aq dw (aR (g1 bB) (ak (aj 0) au)) (aR (g1 bB) (ak (aq aK (aj 1) (eC (.int 0))) au)))) au)))))
def yu:FP:=bF 1 Ry
def Rz:SF:=(aG (bf (eC (.int 1)) (gN 1)) (aG (bN (bY (bM (aj 0)) (gT 2 (bL (gN 2) (bL (gN 3) dI))) (bf (aq cJ (aq cX (aj 1) (aj 3)) (aX ud (ak (aj 1) (ak (aj 3) au)))) (gN 1)))) (bJ (aj 1))))
def yw:FP:=bF 4 Rz
def RB:SF:=(aG (bf (aX yw (ak (aj 0) au)) (gN 1)) (bJ (cD [none,none,some 1] (bM (aj 0)) (gT 2 (bL (gN 0) (bL (gN 1) dI))) cF (aq cX (aj 0) (aq cJ (aj 2) (aj 1))))))
def Ci:FP:=bF 2 RB
def RD:SF:=(aG (bf (aX Ci (ak (aj 0) au)) (gN 1)) (bJ (Ca yj [some 1] (ak (aR (g1 bB) (ak (aj 1) au)) au) (vD xJ (vC aK (qp 1) (qp 0))))))
def oN:FP:=bF 2 RD
def IW:SF:=(bJ (qZ (aX qu (ak (aj 0) au)) (rm dO gk (eC (.int 0)) (aj 0) (aj 1))))
def ug:FP:=bF 2 IW
def RG:SF:=(cM (dR (dY (aX yu (ak (aj 0) au)))) (xM "NoBook" (eC (.str "this is no book"))) cL)
def mZ:FP:=bF 1 RG
def RJ:SF:=(cM (dR (dY (aX ug (ak (aj 1) (ak (aR (g1 bB) (ak (aj 0) au)) au))))) (xM "NoList" (eC (.str "the book has no list of this number"))) cL)
def Ja:FP:=bF 2 RJ
def RK:SF:=(aG (fJ (aX mZ (ak (aj 0) au))) (aG (fJ (aX Ja (ak (aj 0) (ak (aj 1) au)))) (bJ (aX oN (ak (aq aK (aj 0) (aj 1)) au)))))
def Jb:FP:=bF 2 RK
def Jc:SF:=(bJ (qZ (aX qu (ak (aj 0) au)) (rm dO dO (eC (.int 0)) (aj 0) (aj 1))))
def uh:FP:=bF 2 Jc
def RL:SF:=(bJ (aR (g1 eE) (ak (cD [none,none] (vA (ak (aj 0) (ak (iQ (aj 0) (jk (eC (.int 1))) jj) au))) (gT 2 (bL (gN 0) (bL (gN 1) dI))) cF (aq gk (aj 0) (aj 1))) au)))
def yx:FP:=bF 1 RL
def RM:SF:=(bJ (cD [none] (bM (aj 0)) (gN 0) cF (aX oN (ak (aj 0) au))))
def oO:FP:=bF 1 RM
def RN:SF:=(aG (cM (iC (dR (dY (gJ .list (aj 0)))) (cu (aq fG (aR (g1 bB) (ak (aj 0) au)) (aj 1)))) (bJ (eC (.bl false))) cL) (bJ (aR (g1 eE) (ak (cD [none,some 2] (bM (aj 0)) (gN 0) cF (aX uh (ak (aj 0) (ak (aj 1) au)))) au))))
def Cj:FP:=bF 3 RN
noncomputable def Jd:SF:=(aG (cM (iC (dR (dY (gJ .tuple (aj 0)))) (cu (aq fG (aR (g1 bB) (ak (aj 0) au)) (eC (.int 2))))) (bJ (eC (.bl false))) cL) (bJ (qZ (aX ug (ak (aq aK (aj 0) (eC (.int 0))) (ak (aj 1) au))) (aX ug (ak (aq aK (aj 0) (eC (.int 1))) (ak (aj 2) au))))))
def um:FP:=bF 3 Jd
def RP:SF:=(aG (cM (iC (dR (dY (gJ .list (aj 0)))) (dR (dY (aR (g1 eE) (ak (cD [none,some 1,some 2] (bM (aj 0)) (gN 0) cF (aX um (ak (aj 0) (ak (aj 1) (ak (aj 2) au))))) au))))) (bJ (eC (.bl false))) cL) (bJ (aX yx (ak (aj 0) au))))
def Ck:FP:=bF 3 RP
noncomputable def RQ:SF:=(aG (tK 2 3 (ak (aR (g1 bB) (ak (aj 0) au)) (ak (aR (g1 bB) (ak (aq aK (aj 0) (eC (.int 0))) au)) au))) (aG (cM (iC (dR (dY (gJ .tuple (aj 1)))) (cu (aq fG (aR (g1 bB) (ak (aj 1) au)) (eC (.int 2))))) (xM "NoLooks" (eC (.str "looks are a tuple of depths and what is asked"))) cL) (cM (iC (dR (dY (aX Cj (ak (aq aK (aj 1) (eC (.int 0))) (ak (aj 2) (ak (aj 3) au)))))) (dR (dY (aX Ck (ak (aq aK (aj 1) (eC (.int 1))) (ak (aj 2) (ak (aj 3) au))))))) (xM "NoLooks" (eC (.str "these are no looks of the book"))) cL)))
def oR:FP:=bF 4 RQ
noncomputable def RV:SF:=(aG (bf (aj 1) (gT 2 (bL (gN 2) (bL (gN 3) dI)))) (aG (oJ 4 [none] (bM (aj 0)) (gN 0) cF (aq cX (rN [.non]) (aR (g1 bB) (ak (aj 0) au)))) (aG (bN (bY (yq (ak (aX oO (ak (aj 0) au)) au)) (gT 2 (bL (gN 5) (bL (gN 6) dI))) (bY (bM (iQ (aj 6) jj (jk (aq aK (aj 2) (aj 5))))) (gN 7) (tQ 4 (kE 5) (kE 7) (aq aK (aq aK (aj 0) (aj 5)) (aj 7)))))) (aG (bN (bY (bM (aj 3)) (gT 2 (bL (gN 5) (bL (gN 7) dI))) (tQ 4 (kE 5) (kE 7) (aq aK (aq aK (aj 0) (aj 5)) (aj 7))))) (BK 4 (bJ (aj 4)))))))
def vJ:FP:=bF 8 RV
def Je:SF:=(aG (fJ (aX mZ (ak (aj 0) au))) (aG (fJ (aX oR (ak (aj 0) (ak (aj 1) au)))) (bJ (aX vJ (ak (aj 0) (ak (aj 1) au))))))
def vK:FP:=bF 2 Je
end BH
end
section
namespace L2
open PySem PySem.Spec PyProof.Rows
section
variable {X:Cx}{k j:Nat}{x:Str}{ps:List Str}{sp:Sp}{p pos:Pos}{a b e:Expr}{es:List Expr}{ta tb:TE}{tl:TA}{E:XK}
theorem bV(ha:PE X a ta)(hb:PE X b tb)(hs:NK b:=by exact λ_ _=>rfl):PE X (.Subscript a b pos) (eU (nG X.K) ta tb):=uT uU ha hb hs
theorem pc1(D:aV X.prog X.w X.K X.mg X.base j x ps sp)(hr:eV k X.A)(hx:Passes (jh X.prog X.w) X E)(ha:PA X (e::es) tl)(hk:j<=k:=by decide)(hg:X.env.kindOf x=some .globalImplicit:=by kernel_rfl)(hdb:(x == ("__debug__" : Str))=false:=by kernel_rfl)
  (he:notStar e=true:=by kernel_rfl) (hpl:(backTo pos (starEach es X.env)).any (·.1)=false:=by kernel_rfl):PE X (.Call (.Name x p) (e::es) [] pos) (nC sp [] E tl):=Qv (D.mono hk) hr hx ha hg hdb he hpl
theorem jl(D:aV X.prog X.w X.K X.mg X.base j x ps sp)(hr:eV k X.A)(ha:PA X (e::es) tl)(hk:j<=k:=by decide)(hg:X.env.kindOf x=some .globalImplicit:=by kernel_rfl)(hdb:(x == ("__debug__" : Str))=false:=by kernel_rfl)
  (he:notStar e=true:=by kernel_rfl) (hpl:(backTo pos (starEach es X.env)).any (·.1)=false:=by kernel_rfl):PE X (.Call (.Name x p) (e::es) [] pos) (nC sp [] E0 tl):=Qv (D.mono hk) hr Xz ha hg hdb he hpl
end
theorem fS(N P:List Str)(sc:Scope)(kind:sc.kind=.function:=by rfl)(co:sc.isCoroutine=false:=by rfl)(gen:sc.isGenerator=false:=by rfl)(nd:N.Nodup:=by decide +kernel)(pre:N.take P.length=P:=by rfl)(par:∀x∈P,sc.names.lookup x=some .local\/sc.names.lookup x=some .cell:=by decide +kernel)(Fb:∀y∈sc.names,y.2 ≠ .free:=by decide +kernel):pG N P sc:=⟨kind,co,gen,nd,pre,par,Fb⟩
section
variable {t:Tx}{K:FZ}
theorem aaX(hK:t.K=aB K){ta:TE}{fa:EF}(ha:SE t ta fa):L2.ST t (λσ H Q=>ta σ H λx H'=>∃k,uN K x H' k/\Q k H') (dY fa):=mU hK ha
theorem aaY(hK:t.K=aB K){ts:TS}{f:SF}(h:∀t':Tx,t'.K=aB K->(∀c,¬t'.EX c)->SS t' ts f):SS t ts (bN f):=rJ λt' h' k=>h t' (h'.trans hK) k
theorem aaZ(hK:t.K=aB K){wi:TI}{g:TG}{src:List (Option Nat)}{te:TE}{fi:IF}{gf:GF}{f:EF}{js:List Nat}(hi:SI t wi fi)(ng:∀T ρ c,gf T ρ ≠ .ex c)(hg:∀t':Tx,t'.K=aB K->(∀c,¬t'.EX c)->SG t' g gf js)(he:∀t':Tx,t'.K=aB K->(∀c,¬t'.EX c)->SE t' te f)(hj:∀k j:Nat,src[k]?=some (some j)->k∉js)(I:(src.filterMap id).Nodup):SE t (qQ wi g src te) (cD src fi gf cF f) :=
 xU hi (mY I) hj ng (λt' h k=>hg t' (h.trans hK) k) (λt' h k=>he t' (h.trans hK) k)
theorem aa0(hK:t.K=aB K){wi:TI}{g:TG}{src:List (Option Nat)}{tc:TT}{te:TE}{fi:IF}{gf:GF}{c:BF}{f:EF}{js:List Nat}(hi:SI t wi fi)(ng:∀T ρ c,gf T ρ ≠ .ex c)(hg:∀t':Tx,t'.K=aB K->(∀c,¬t'.EX c)->SG t' g gf js)(hc:∀t':Tx,t'.K=aB K->(∀c,¬t'.EX c)->ST t' tc c)(he:∀t':Tx,t'.K=aB K->(∀c,¬t'.EX c)->SE t' te f)(hj:∀k j:Nat,src[k]?=some (some j)->k∉js)(I:(src.filterMap id).Nodup):SE t (pW wi g src tc te) (cD src fi gf c f) :=
 Hw hi (mY I) hj ng (λt' h k=>hg t' (h.trans hK) k) (λt' h k=>hc t' (h.trans hK) k) (λt' h k=>he t' (h.trans hK) k)
end
end L2
end
section
namespace L2
open PySem PySem.Spec PyProof.Rows PySem.Builtin PySem.Builtin.Str
section
variable {X:Cx}
end
section
variable {t:Tx}{K:FZ}{ta tb:TE}{fa fb:EF}
end
end L2
end
section
namespace L2
open PySem PySem.Spec PyProof.Rows
section
variable {X:Cx}
end
section
variable {t:Tx}{K:FZ}{ta tb:TE}{fa fb:EF}
end
end L2
end
section
namespace L2
open PySem PySem.Spec PyProof.Rows
section
variable {X:Cx}{t:Tx}{K:FZ}{tl:TA}{fl:AF}
end
end L2
end
section
namespace L2
open PySem PySem.Spec PyProof.Rows
section
variable {X:Cx}{t:Tx}{K:FZ}{ta tb:TE}{fa fb:EF}
end
end L2
end
section
namespace L2
open PySem PySem.Spec PyProof.Rows
section
variable {X:Cx}{tg:Expr}
end
section
variable {t:Tx}{K:FZ}
end
end L2
end
section
namespace L2
open PySem PySem.Spec PyProof.Rows PySem.W
section
variable {X:Cx}
end
def sV(a:Int)(n:Nat):List Tr:=(List.range' 0 n).map λi:Nat=>Tr.int (a+i)
end L2
end
section
namespace L2
open PySem PySem.Spec PyProof.Rows
section
variable {t:Tx}{W W':Addr->Prop}{ρ ρ':En}{σ : St}{H H':Hp}{F:Nat->List Addr}
theorem EOF.weak(e:EOF t W ρ σ H F)(hs:∀(i:Nat) (s:Sl),ρ'[i]?=some s->s=.un\/ρ[i]?=some s)(hl : ρ'.length = ρ.length)(m:Same (aA W H) (aA W' H'))(sub:∀b,W b->W' b)(wl:∀b,W' b->Lt H' b)(tb:d8 t.K H')
  (f0:∀b o,t.H0 b=some o->¬t.R b->H' b=some o) (dom:∀b,H' b=none->t.H0 b=none) (pn:∀b o,t.B b=some o->H' b=some o)
  (km:∀(i:Nat) (a:Addr) (o:HO),Mu ρ' i -> σ[i]?=some (some (.ref a))->H a=some o->H' a=some o) (kd:∀(i:Nat) (ts:List Tr) (b:Addr) (o:HO),ρ'[i]?=some (.dp ts)->b∈F i->H b=some o->H' b=some o):EOF t W' ρ' σ H' F:=by
 have mu:∀j,Mu ρ' j->Mu ρ j:=λj h=>by
  obtain⟨ts,h|h⟩:=h <;> rcases hs j _ h with z|h
  ·cases z
  ·exact⟨ts,.inl h⟩
  ·cases z
  ·exact⟨ts,.inr h⟩
 have dz:∀(j:Nat) (us:List Tr),ρ'[j]?=some (Sl.dp us) -> ρ[j]?=some (Sl.dp us):=λj us h=>by
  rcases hs j _ h with z|h
  ·cases z
  ·exact h
 refine⟨by rw[hl]; exact e.len,λb z=>sub b (e.zw b z),e.z0,wl,f0,dom,λj u h=>?_,λj ts h=>?_,λj ts h=>?_,λj k a h1 h2 q1 q2=>e.dis j k a (mu j h1) (mu k h2) q1 q2,pn,λj a m q=>e.pd j a (mu j m) q,λj us h=>?_,λj k us ws n h1 h2=>e.dd j k us ws n (dz j us h1) (dz k ws h2),λj k us c h1 m q=>e.dm j k us c (dz j us h1) (mu k m) q,λj us h=>e.db j us (dz j us h),⟨tb,λb z=>sub b (e.tab.w b z),e.tab.r,e.tab.B⟩⟩
 ·rcases hs j _ h with z|h
  ·cases z
  ·obtain⟨w,h1,h2⟩:=e.sh j u h
   exact⟨w,h1,h2.mono m⟩
 ·rcases hs j _ h with z|q
  ·cases z
  ·obtain⟨a,xs,h1,h2,h3,h4,h5⟩:=e.ow j ts q
   exact⟨a,xs,h1,sub a h2,h3,km j a _ ⟨ts,.inl h⟩ h1 h4,h5.mono m⟩
 ·rcases hs j _ h with z|q
  ·cases z
  ·obtain⟨a,xs,h1,h2,h3,h4,h5⟩:=e.rf j ts q
   exact⟨a,xs,h1,sub a h2,h3,km j a _ ⟨ts,.inr h⟩ h1 h4,h5.mono m⟩
 ·obtain⟨c,ys,h1,d⟩:=e.dp j us (dz j us h)
  exact⟨c,ys,h1,d.move rfl rfl m (λb hb=>sub b (by obtain⟨_,_,_,ww,_⟩:=d; exact(ww b hb).1)) λb o hb q=>kd j us b o h hb q⟩
def Cm:Sl->Sl
 |.sh T=>.sh T
 |.ow ts=>.sh (.lst ts)
 |.dp ts=>.sh (.lst ts)
 |_=>.un
def vw(ρ : En):En := ρ.map Cm
def yC(ρ : En)(σ : St)(F:Nat->List Addr)(b:Addr):Prop:=(∃(i:Nat) (ts:List Tr),ρ[i]?=some (Sl.ow ts)/\σ[i]?=some (some (.ref b)))\/∃(i:Nat) (ts:List Tr),ρ[i]?=some (Sl.dp ts)/\b∈F i
def qx(ρ : En)(σ : St)(b:Addr):Prop:=∃(i:Nat) (ts:List Tr),ρ[i]?=some (Sl.rf ts)/\σ[i]?=some (some (.ref b))
open Classical in
def vL(t:Tx)(ρ : En)(σ : St)(H:Hp):Tx:={t with B:=λb=>if qx ρ σ b then H b else t.B b,EX:=λ_=>False }
theorem RW{b:Addr}(h:qx ρ σ b):(vL t ρ σ H).B b=H b:=if_pos h
theorem Jf{b:Addr}(h:¬qx ρ σ b):(vL t ρ σ H).B b=t.B b:=if_neg h
def Wv(W:Addr->Prop)(ρ : En)(σ : St)(F:Nat->List Addr)(b:Addr):Prop:=W b/\¬yC ρ σ F b
theorem RX{i:Nat}{s:Sl}(h:(vw ρ)[i]?=some s):∃r,ρ[i]?=some r/\Cm r=s:=by
 unfold vw at h
 rw[List.getElem?_map]at h
 cases q : ρ[i]? with
 |none=>rw[q]at h; cases h
 |some r=>rw[q]at h; exact⟨r,rfl,Option.some.inj h⟩
theorem Cp{i:Nat}{s:Sl}(h:(vw ρ)[i]?=some s):(∃T,s=.sh T)\/s=.un:=by
 obtain⟨r,_,rfl⟩:=RX h
 cases r
 ·exact .inr rfl
 ·exact .inl ⟨_,rfl⟩
 ·exact .inl ⟨_,rfl⟩
 ·exact .inr rfl
 ·exact .inl ⟨_,rfl⟩
theorem RZ{i:Nat}(h:Mu (vw ρ) i):False:=by
 obtain⟨ts,h|h⟩:=h <;> rcases Cp h with⟨T,z⟩|z <;> cases z
theorem yC.lst(e:EOF t W ρ σ H F){b:Addr}(h:yC ρ σ F b):(∃xs,H b=some (.lst xs))/\t.H0 b=none:=by
 rcases h with⟨i,ts,h1,h2⟩|⟨i,ts,h1,h2⟩
 ·obtain⟨a,xs,q1,_,q3,q4,_⟩:=e.ow i ts h1
  rw[h2]at q1
  cases q1
  exact⟨⟨xs,q4⟩,q3⟩
 ·obtain⟨a,xs,q1,bs,ef,nd,ww,ha,r⟩:=e.dp i ts h1
  refine⟨?_,(ww b h2).2⟩
  rw[ef]at h2
  rcases List.mem_cons.mp h2 with rfl|h2
  ·exact⟨xs,ha⟩
  ·exact r.lst b h2
theorem qx.lst(e:EOF t W ρ σ H F){b:Addr}(h:qx ρ σ b):(∃xs,H b=some (.lst xs))/\t.B b=none:=by
 obtain⟨i,ts,h1,h2⟩:=h
 obtain⟨a,xs,q1,_,q3,q4,_⟩:=e.rf i ts h1
 rw[h2]at q1
 cases q1
 exact⟨⟨xs,q4⟩,e.pd i b ⟨ts,.inr h1⟩ h2⟩
theorem EOF.view(e:EOF t W ρ σ H F):aJ (vL t ρ σ H) (Wv W ρ σ F) (vw ρ) σ H:=by
 have m:Same (aA W H) (aA (Wv W ρ σ F) H):=mJ (λ_ _ _ z=>z.1) λ_ _ _ h=>h
 have iD:∀(i:Nat) (us:List Tr),(vw ρ)[i]?=some (.dp us)->False:=λi us q=>by
  rcases Cp q with⟨_,z⟩|z <;> cases z
 refine⟨F,by unfold vw; rw[List.length_map]; exact e.len,λb z=>⟨e.zw b z,λo=>e.z0 b z (o.lst e).2⟩,e.z0,λb w=>e.wl b w.1,e.f0,e.n0,λi u h=>?_,λi us h=>?_,λi us h=>?_,λi j a m1=>(RZ m1).elim,λb o h=>?_,λi a m1=>(RZ m1).elim,λi us h=>(iD i us h).elim,λi j us vs n h=>(iD i us h).elim,λi j us c h=>(iD i us h).elim,λi us h=>(iD i us h).elim,⟨e.tab.ok,λb z=>⟨e.tab.w b z,λo=>?_⟩,e.tab.r,λb z=>?_⟩⟩
 ·obtain⟨r,h1,h2⟩:=RX h
  cases r with
  |un=>cases h2
  |rf ts=>cases h2
  |sh T =>
   cases h2
   obtain⟨v,q1,q2⟩:=e.sh i _ h1
   exact⟨v,q1,q2.mono m⟩
  |ow ts =>
   cases h2
   obtain⟨a,xs,q1,q2,q3,q4,q5⟩:=e.ow i ts h1
   refine⟨.ref a,q1,.lst (bw.of ?_) (q5.mono m)⟩
   rw[cC λz=>z.2 (.inl ⟨i,ts,h1,q1⟩)]
   exact q4
  |dp ts =>
   cases h2
   obtain⟨a,xs,q1,bs,ef,nd,ww,ha,r⟩:=e.dp i ts h1
   refine⟨.ref a,q1,.lst (bw.of ?_) (r.reps m λb ys hb hy=>?_)⟩
   ·rw[cC λz=>z.2 (.inr ⟨i,ts,h1,by rw[ef]; exact List.mem_cons_self ..⟩)]
    exact ha
   ·rw[cC λz=>z.2 (.inr ⟨i,ts,h1,by rw[ef]; exact List.mem_cons_of_mem _ hb⟩)]
    exact hy
 ·rcases Cp h with⟨_,z⟩|z <;> cases z
 ·rcases Cp h with⟨_,z⟩|z <;> cases z
 ·by_cases q:qx ρ σ b
  ·rw[RW q]at h; exact h
  ·rw[Jf q]at h; exact e.pn b o h
 ·obtain⟨xs,q⟩:=(o.lst e).1
  exact e.tab.ok.ne z q rfl
 ·by_cases q:qx ρ σ b
  ·obtain⟨xs,q'⟩:=(q.lst e).1
   exact(e.tab.ok.ne z q' rfl).elim
  ·rw[Jf q]; exact e.tab.B b z
theorem EOF.Jg{D:Addr->Prop}(e:EOF t W ρ σ H F)(e':aJ (vL t ρ σ H) (Wv W ρ σ F) ρ' σ H')(s:bG (Wv W ρ σ F) H H')(hD:∀b,D b->H b=none/\∃xs,H' b=some (.lst xs)):EOF t (λb=>W b\/D b) ρ σ H' F:=by
 have own:∀b o,yC ρ σ F b->H b=some o->H' b=some o:=λb o h q=>s.keep b o (λz=>z.2 h) q
 have rf:∀b o,qx ρ σ b->H b=some o->H' b=some o:=λb o h q=>e'.pn b o (by rw[RW h]; exact q)
 refine e.weak (λ_ _ h=>.inr h) rfl (λb o h=>?_) (λb w=>.inl w) (λb w=>?_) e'.tab.ok (λb o h n=>e'.f0 b o h n) (λb h=>e'.n0 b h) (λb o h=>?_) (λi a o mi hi h=>?_) (λi ts b o hi hb h=>own b o (.inr ⟨i,ts,hi,hb⟩) h)
 ·obtain⟨n,h⟩:=gj h
  rw[cC]
  ·exact s.keep b o (λz=>n z.1) h
  ·rintro(z|z)
   ·exact n z
   ·rw[(hD b z).1]at h; cases h
 ·rcases w with w|w
  ·by_cases o:yC ρ σ F b
   ·obtain⟨xs,q⟩:=(o.lst e).1
    exact .inl ⟨xs,own b _ o q⟩
   ·exact e'.wl b ⟨w,o⟩
  ·exact .inl (hD b w).2
 ·by_cases q:qx ρ σ b
  ·rw[(q.lst e).2]at h; cases h
  ·exact e'.pn b o (by rw[Jf q]; exact h)
 ·obtain⟨ts,q|q⟩:=mi
  ·exact own a o (.inl ⟨i,ts,q,hi⟩) h
  ·exact rf a o ⟨i,ts,q,hi⟩ h
theorem bG.Jg(s:bG (Wv W ρ σ F) H H'):bG W H H':=⟨λb o n h=>s.keep b o (λz=>n z.1) h,s.dom⟩
theorem orF(W:Addr->Prop):(λb=>W b\/False)=W:=funext λb=>by simp
theorem EOF.aa1(e:EOF t W ρ σ H F)(e':aJ (vL t ρ σ H) (Wv W ρ σ F) ρ' σ H')(s:bG (Wv W ρ σ F) H H'):EOF t W ρ σ H' F:=by
 have:=e.Jg (D:=λ_=>False) e' s λ_ z=>z.elim
 rw[orF]at this
 exact this
def m6(c:BF):BF:=λρ=>(bW (c (vw ρ))).bind λp=>.ok (p.1,ρ)
theorem aa2{α : Type}{x:Rs α}{EX EX':Str->Prop}{P : α -> Prop}(h:(bW x).post EX P):x.post EX' P:=by
 cases x with
 |bad=>exact h
 |ex c=>exact h.elim
 |ok a=>exact h
theorem R3{tc:TT}{c:BF}(h:∀t':Tx,t'.K=t.K->(∀c,¬t'.EX c)->ST t' tc c):ST t tc (m6 c):=λW ρ σ H Q e q=>by
 obtain⟨F,e⟩:=e
 have q:=Rs.aN q
 refine h (vL t ρ σ H) rfl (λ_ z=>z) _ _ σ H _ e.view (aa2 (Rs.aY q λp q H' e' s=>?_))
 exact q H' ⟨F,e.aa1 e' s⟩ s.Jg
end
end L2
end
section
namespace L2
open PySem PySem.Spec PyProof.Rows
abbrev FD:=List Tr->Rs (List Tr)
def R4(K:FZ)(Z:Addr->Prop)(H H':Hp)(v:V)(ts:List Tr):Prop:=∃a xs bs,v=.ref a/\(a::bs).Nodup/\(∀b∈a::bs,H b=none/\∃ys,H' b=some (.lst ys))/\H' a=some (.lst xs)/\DR K (aA (λb=>Z b\/b∈a::bs) H') H' xs ts bs
noncomputable def m7(K:FZ)(cl:Str->Addr)(n:Nat)(F:FD):Sp:=λvs H Q E=>∃Z ts,vs.length=n/\aL (aB K) (aA Z H) vs ts/\(∀b,Z b->Lt H b)/\d8 (aB K) H /\
 (F ts).post (λc=>∀H',ig (aB K) H H'->E (.ref (cl c)) none H') (λp=>∀v H',ig (aB K) H H'->R4 (aB K) Z H H' v p->Q v H')
abbrev DF:=En->Rs (List Tr)
def SD(t:Tx)(ts:TS)(f:DF):Prop:=∀W ρ σ H D,aJ t W ρ σ H->(f ρ).post t.EX (λus=>∀v W' ρ' σ' H',aJ t W' ρ' σ' H'->R4 t.K t.Z t.H0 H' v us->D.rt v H')->ts D σ H
section
variable {t:Tx}
theorem R5(i:Nat):SD t (sG (fY i)) (λρ=>gP ρ i):=λW ρ σ H D e h=>by
 obtain⟨ts,k,h⟩:=cV h (HY _ _)
 have e0:=e
 obtain⟨F,e⟩:=e
 obtain⟨a,xs,q1,bs,ef,nd,ww,ha,r⟩:=e.dp i ts (Ia k)
 rw[ef]at nd ww
 refine⟨.ref a,q1,h _ W ρ σ H e0 ⟨a,xs,bs,rfl,nd,λb hb=>⟨(ww b hb).2,?_⟩,ha,r.move (mJ (λb _ _ z=>?_) λ_ _ _ h=>h) λ_ _ _ h=>h⟩⟩
 ·rcases List.mem_cons.mp hb with rfl|hb
  ·exact⟨xs,ha⟩
  ·exact r.lst b hb
 ·rcases z with z|z
  ·exact e.zw b z
  ·exact(ww b z).1
def jU(f:SF)(g:DF):DF:=λρ=>(f ρ).bind λp=>match p.1 with
 |.nx=>g p.2
 |_=>.bad
theorem uo{ta tb:TS}{f:SF}{g:DF}(h1:SS t ta f)(h2:SD t tb g):SD t (je ta tb) (jU f g):=λW ρ σ H D e h=>by
 refine h1 W ρ σ H _ e (Rs.aY (Rs.aN h) λp h=>?_)
 obtain⟨fl,ρ1⟩:=p
 cases fl with
 |nx=>exact λW1 σ1 H1 e1 n1=>h2 W1 ρ1 σ1 H1 D e1 h
 |rt T fr=>exact h.elim
 |bk=>exact h.elim
 |ct=>exact h.elim
end
def vM(nl:Nat)(b:DF):FD:=λts=>b (bO nl ts)
section
variable {P:Program}{w:World}{K:FZ}{mg:Str->Option Value}{base:Heap}
theorem At.Jh{k:Nat}{x:Str}{st:Stmt}{N ps:List Str}{cl:Str->Addr}{b:DF}(a:At K mg x st)(S:pG N ps (bx st))(hn:ps.length<=N.length)
  (hb:∀(kV doc pm:Value) (an:Option Addr) (cdv ct:Value) (us:List Value),us.length=ps.length->bindArgs (PySem.W.fnOf x x (mD st) (jg st) (bx st) .none kV doc pm an cdv ct) ⟨us,[]⟩=pure (ps.zip us))
  (hbody:∀(f:Addr) (cdv:Value) (A:Around) (outer:List Env) (s:Shared) (H:Hp) (E:XK),eV k (A.deeper (envOfC x (bx st) s.heap.objs.size f cdv)) ->
   ∃ts,jc (jC (jh P w) P w K mg base N x (bx st) f cdv A outer s H E) (jg st) ts/\∀t:Tx,t.K=aB K->(∀c H',F0 t H'->t.EX c->E (.ref (cl c)) none H')->SD t ts b) :
  aV P w K mg base (k+1) x ps (m7 K cl ps.length (vM N.length b)):=by
 refine a.O1 S hb (λvs H Q E h=>?_) (λf cdv A outer s H vs Q E hr h=>?_)
 ·obtain⟨_,_,h,_⟩:=h; exact h
 obtain⟨Z,as,hl,r,zl,tb,h⟩:=h
 obtain⟨ts,h1,h2⟩:=hbody f cdv A outer s H E hr
 refine⟨ts,h1,?_⟩
 have sm:∀(W:Addr->Prop) ρ σ H',aJ ⟨aB K,Z,Tb (aB K),H,λ_=>none,λc=>∀H',ig (aB K) H H'->E (.ref (cl c)) none H'⟩ W ρ σ H'->ig (aB K) H H':=λW ρ σ H' e=>⟨λb o q n=>e.f0 b o q n,e.tab.ok⟩
 have r:=r.mW (Hj tb)
 refine h2 ⟨aB K,Z,Tb (aB K),H,λ_=>none,λc=>∀H',ig (aB K) H H'->E (.ref (cl c)) none H'⟩ rfl (λc H' f0 q=>q H' ⟨λb o z n=>f0.1 b o z n,f0.2⟩) (λb=>Z b\/Tb (aB K) b) (bO N.length as) (start N vs) H _ ?_ (Rs.aY h λq h=>?_)
 ·have la:=r.length
  have iD:∀(i:Nat) (us:List Tr),(bO N.length as)[i]?=some (.dp us)->False:=λi us q=>by
   rcases jG q with⟨u',q1,z⟩|z <;> cases z
  refine⟨λ_=>[],?_,λ_ z=>.inl z,λb z=>?_,λb z=>z.elim (zl b) (λz=>.inr (tb.cZ z)),λb o q _=>q,λb q=>q,λi u q=>?_,λi us q=>?_,λi us q=>?_,λi j c m1 m2=>?_,λb o z=>(by cases z),λ_ _ _ _=>rfl,λi us q=>(iD i us q).elim,λi _ us _ _ q=>(iD i us q).elim,λi _ us _ q=>(iD i us q).elim,λi us q=>(iD i us q).elim,⟨tb,λ_ z=>.inr z,λ_ z=>z,λ_ _=>rfl⟩⟩
  ·unfold bO start
   simp only[List.length_append,List.length_map,List.length_replicate]
   omega
  ·exact(zl b z).ne
  ·rcases jG q with⟨u',q1,z⟩|z
   ·cases z
    obtain⟨v,e1,e2⟩:=r.mL q1
    exact⟨v,Hq e1,e2⟩
   ·cases z
  ·rcases jG q with⟨u',q1,z⟩|z <;> cases z
  ·rcases jG q with⟨u',q1,z⟩|z <;> cases z
  ·obtain⟨us,q|q⟩:=m1 <;> rcases jG q with⟨u',q1,z⟩|z <;> cases z
 ·exact λv W' ρ' σ' H' e n=>h v H' (sm W' ρ' σ' H' e) n
end
section
variable {t:Tx}{K:FZ}
theorem EOF.R6{W D:Addr->Prop}{ρ : En}{σ : St}{H H':Hp}{F:Nat->List Addr}(e:EOF t W ρ σ H F)(s:ig t.K H H')(hD:∀b,D b->H b=none/\∃xs,H' b=some (.lst xs)):EOF t (λb=>W b\/D b) ρ σ H' F:=by
 have ls:∀{a:Addr} {xs:List V},H a=some (.lst xs)->H' a=some (.lst xs):=λq=>s.1 _ _ q λz=>e.tab.ok.ne z q rfl
 refine e.weak (λ_ _ h=>.inr h) rfl (λb o h=>?_) (λb w=>.inl w) (λb w=>?_) s.2 (λb o h n=>s.1 b o (e.f0 b o h n) λz=>n (e.tab.r b z)) (λb h=>e.n0 b (s.dom b h)) (λb o h=>s.1 b o (e.pn b o h) λz=>(by rw[e.tab.B b z]at h; cases h)) (λi a o mi hi h=>?_) (λi ts b o hi hb h=>?_)
 ·obtain⟨n,h⟩:=gj h
  rw[cC]
  ·exact s.1 b o h λz=>n (e.tab.w b z)
  ·rintro(z|z)
   ·exact n z
   ·rw[(hD b z).1]at h; cases h
 ·rcases w with w|w
  ·rcases e.wl b w with⟨xs,q⟩|⟨ps,q⟩
   ·exact .inl ⟨xs,ls q⟩
   ·by_cases z:Tb t.K b
    ·exact .inr (s.2.cZ z)
    ·exact .inr ⟨ps,s.1 b _ q z⟩
  ·exact .inl (hD b w).2
 ·obtain⟨xs,q⟩:=aJ.Bg ⟨F,e⟩ mi hi
  rw[q]at h
  cases h
  exact ls q
 ·obtain⟨c,ys,h1,d⟩:=e.dp i ts hi
  exact s.1 b o h λz=>d.nt e.tab.ok z hb
theorem EOF.take{W D:Addr->Prop}{ρ : En}{σ : St}{H H':Hp}{F:Nat->List Addr}{i:Nat}{a:Addr}{xs:List V}{ts:List Tr}{bs:List Addr}(e:EOF t W ρ σ H F)(e':EOF t (λb=>W b\/D b) ρ σ H' F)(hD:∀b∈a::bs,D b/\H b=none)(nd:(a::bs).Nodup)(ha:H' a=some (.lst xs))(r:DR t.K (aA (λb=>W b\/D b) H') H' xs ts bs):aJ t (λb=>W b\/D b) (ρ.set i (.dp ts)) (σ.set i (some (.ref a))) H':=by
 have e0:aJ t W ρ σ H:=⟨F,e⟩
 refine e'.QC nd (λb hb=>⟨.inr (hD b hb).1,e.n0 b (hD b hb).2⟩) (λb hb=>e0.xK (hD b hb).2) (λj us hj b hb z=>?_) (λj c mj hj hc=>?_) ha r
 ·obtain⟨c,ys,h1,bs',ef,_,ww,_,_⟩:=e.dp j us hj
  exact e0.wn b (ww b z).1 (hD b hb).2
 ·obtain⟨ys,q⟩:=e0.Bg mj hj
  rw[(hD c hc).2]at q
  cases q
def vN(i:Nat)(F:FD)(fa:AF):SF:=λρ=>(fa ρ).bind λp=>if p.1.any aZ=true then .bad else(drs p.2 p.1).bind λas=>(F as).bind λts=>.ok (.nx,p.2.set i (.dp ts))
theorem R7(hK:t.K=aB K){cl:Str->Addr}{n:Nat}{F:FD}{E:XK}{ta:TA}{fa:AF}(i:Nat)(hx:∀c H',F0 t H'->t.EX c->E (.ref (cl c)) none H')(hn:∀ρ p,fa ρ=.ok p->p.1.length=n)(ha:SA t ta fa):SS t (jA (nC (m7 K cl n F) [] E ta) (cU i)) (vN i F fa):=λW ρ σ H D e h=>by
 have h:=Rs.aN h
 cases ek:fa ρ with
 |bad=>rw[ek]at h; exact h.elim
 |ex c=>exact ha W ρ σ H _ e (by rw[ek]at h ⊢; exact h)
 |ok p =>
 have hl:=hn ρ p ek
 rw[ek]at h
 refine ha W ρ σ H _ e (post_eq ek ?_)
 intro vs H1 e1 s1 v1
 have h:(if p.1.any aZ=true then Rs.bad else((drs p.2 p.1).bind λas=>(F as).bind λts=>.ok (.nx,p.2.set i (.dp ts))):Rs (Fl × En)).post _ _:=h
 split at h
 ·exact h.elim
 rename_i an
 obtain⟨as,k1,h⟩:=cV (Rs.aN h) (u9 _ _)
 have rr:aL (aB K) (aA W H1) vs as:=by
  rw[<-hK]
  exact Bl e.wn v1 k1 (by simpa using an)
 show m7 K cl n F (vs++[]) H1 _ E
 rw[List.append_nil]
 refine⟨W,as,v1.length.trans hl,rr,e1.wl,by rw[<-hK]; exact e1.tab.ok,?_⟩
 have h:=Rs.aN h
 cases ef:F as with
 |bad=>rw[ef]at h; exact h.elim
 |ex c =>
  rw[ef]at h
  exact λH' sm=>hx c H' ⟨λb o q nr=>sm.1 b o (e1.f0 b o q nr) λz=>nr (e1.tab.r b (by rw[hK]; exact z)),by rw[hK]; exact sm.2⟩ h
 |ok ts =>
  rw[ef]at h
  have h:lG t W H D (.nx,p.2.set i (.dp ts)):=h
  intro v H' sm vr
  rw[<-hK]at vr sm
  obtain⟨a,xs,bs,rfl,nd,nw,hq,r⟩:=vr
  obtain⟨G,e1⟩:=e1
  have e2:=e1.R6 (D:=λb=>b∈a::bs) sm nw
  refine h (λb=>W b\/b∈a::bs) _ H' (e1.take e2 (λb hb=>⟨hb,(nw b hb).1⟩) nd hq r) λb o n q=>?_
  have q1:=s1.keep b o n q
  refine⟨λz=>z.elim n λz=>?_,sm.1 b o q1 λz=>n (e1.tab.w b z)⟩
  rw[(nw b z).1]at q1
  cases q1
end
end L2
end
section
namespace L2
open PySem PySem.Spec PyProof.Rows
section
variable {t:Tx}{K:FZ}{W:Addr->Prop}{ρ : En}{σ : St}{H:Hp}{F:Nat->List Addr}
end
end L2
end
section
namespace L2
open PySem PySem.Spec PyProof.Rows
section
variable {t:Tx}{K:FZ}
def uq(i:Nat):SF:=λρ=>(gP ρ i).bind λts=>match ts with
 |.lst us::_=>if us.length<=1000/\ts.length<=1000 then .ok (.nx,ρ.set i .un)else .bad
 |_=>.bad
end
end L2
end
section
namespace L2
open PySem PySem.Spec PyProof.Rows
section
variable {X:Cx}
def Ji(K:FZ):List V->Hp->VK->Prop:=λxs H Q=>∃(p:Addr) (ns:List Int),xs=[.ref p]/\bw K H p (ns.map V.int)/\Q (.int ns.sum) H
theorem R8(hc:X.calm=true):iJ X (.builtin "sum") (Ji X.K):=by
 intro pins s σ H xs us Q I r h
 obtain⟨p,ns,rfl,hq,q⟩:=h
 obtain⟨u,rfl,rx⟩:=vals1 r
 cases rx
 obtain⟨its,r',pl,hz⟩:=I.list hq
 obtain⟨ps,rfl,rfl⟩:=Rq r'
 have hl:s.heap.IsList p (intItems ps.toArray):=by
  have:intItems ps.toArray=(ps.map λp=>Value.int p.1 p.2).toArray:=by unfold intItems; simp
  rw[this]; exact pl.isList
 refine sum_intListG (I.ok.hd hc) hl λg tk t' k=>⟨.int (List.sum (ps.map λp=>p.1)),H,I.kept k,?_,q⟩
 rw[preSum_eq,List.take_of_length_le (by simp)]
 exact⟨_,rfl⟩
end
def kW:G1
 |.lst ts=>match rR ts with
  |some ns=>.ok (.int ns.sum,false)
  |none=>.bad
 |_=>.bad
section
variable {K:FZ}
theorem aa3:pP (aB K) (λx=>Ji K [x]) kW:=λW x a H Q hw rx h=>by
 cases a <;> try exact h.elim
 dsimp only[kW]at h
 split at h
 ·rename_i ns e
  rw[Ri e]at rx
  obtain⟨p,xs,rfl,q,r⟩:=rx.lst
  have z:=Rj r
  subst z
  exact⟨p,ns,rfl,q.toK,h _ H (Same.refl _) (.fV (.int _))⟩
 ·exact h.elim
theorem aa4(a:Tr)(c:Str):kW a ≠ .ex c:=by
 cases a <;> first|(intro z; cases z; done)|(dsimp only[kW]; split <;> (intro z; cases z))
end
theorem R9{t:Tx}{K:FZ}{tl:TA}{fl:AF}(hK:t.K=aB K)(ha:SA t tl fl):SE t (jN (Ji K) tl) (aR (g1 kW) fl):=vf (by rw[hK]; exact vh aa3) (vg aa4) ha
end L2
end
section
namespace L2
open PySem PySem.Spec PyProof.Rows
def Ag(J:List Nat)(σ σ':St):Prop:=∀i,i∉J -> σ'[i]?=σ[i]?
def Ends.gd(D:Ends)(J:List Nat)(σ : St):Ends where
 nx:=λσ' H'=>Ag J σ σ'->D.nx σ' H'
 rt:=D.rt
 bk:=λσ' H'=>Ag J σ σ'->D.bk σ' H'
 ct:=λσ' H'=>Ag J σ σ'->D.ct σ' H'
def Fm(J:List Nat)(ts:TS):Prop:=∀D σ H,ts (D.gd J σ) σ H=ts D σ H
def Fg(J:List Nat)(g:TG):Prop:=∀x σ H Q,g x σ H (λσ' H'=>Ag J σ σ'->Q σ' H')=g x σ H Q
def Cq(J:List Nat)(g:jW):Prop:=∀x σ H Q,g x σ H (λσ' H'=>Ag J σ σ'->Q σ' H')=g x σ H Q
section
variable {J:List Nat}{σ σ' Cr:St}
theorem Ag.refl(J:List Nat)(σ : St):Ag J σ σ := λ_ _=>rfl
theorem Ag.trans(h:Ag J σ σ')(h':Ag J σ' Cr):Ag J σ Cr:=λi n=>(h' i n).trans (h i n)
theorem Ag.left(h:Ag J σ σ'):Ag J σ Cr=Ag J σ' Cr:=propext ⟨λa i n=>(a i n).trans (h i n).symm,λa=>h.trans a⟩
theorem Ag.name{i:Nat}(h:i∈J)(v:Option V):Ag J σ (σ.set i v):=λj n=>List.getElem?_set_ne (λz:i=j=>n (z▸h))
theorem imp_eq{a p q:Prop}(h:a->p=q):(a->p)=(a->q):=propext ⟨λx y=>h y▸x y,λx y=>(h y).symm▸x y⟩
theorem imp_self{a p:Prop}(h:a):(a->p)=p:=propext ⟨λx=>x h,λx _=>x⟩
theorem Ends.aa5{D:Ends}(h:Ag J σ σ'):D.gd J σ = D.gd J σ':=by
 unfold Ends.gd
 congr 1
 all_goals
  funext τ H
  rw[h.left]
theorem aa6:Fm J Eh:=λD σ H=>imp_self (Ag.refl J σ)
theorem aa7(te:TE):Fm J (sG te):=λD σ H=>rfl
theorem aa8(te:TE):Fm J (o9 te):=λD σ H=>by
 show te σ H _=te σ H _
 congr 1
 funext x H1
 exact imp_self (Ag.refl J σ)
theorem aa9(te:TE){g:TG}(h:Fg J g):Fm J (jA te g):=λD σ H=>by
 show te σ H _=te σ H _
 congr 1
 funext x H1
 exact h x σ H1 D.nx
theorem abb(c:TT){t u:TS}(h1:Fm J t)(h2:Fm J u):Fm J (Ei c t u):=λD σ H=>by
 show c σ H _=c σ H _
 congr 1
 funext b H1
 rw[h1,h2]
theorem abd{t u:TS}(h1:Fm J t)(h2:Fm J u):Fm J (je t u):=λD σ H=>by
 show t {D.gd J σ with nx:=u (D.gd J σ) } σ H=t {D with nx:=u D } σ H
 rw[<-h1 {D.gd J σ with nx:=u (D.gd J σ) },<-h1 {D with nx:=u D }]
 congr 1
 unfold Ends.gd
 dsimp only
 congr 1
 ·funext τ H1
  refine imp_eq λa=>?_
  have:=h2 D τ H1
  rw[<-Ends.aa5 a]at this
  exact this
 ·funext τ H1
  exact imp_eq λa=>imp_self a
 ·funext τ H1
  exact imp_eq λa=>imp_self a
theorem abe{i:Nat}(h:i∈J):Fg J (cU i):=λx σ H Q=>imp_self (Ag.name h _)
theorem abf:Cq J uK:=λx σ H Q=>by
 show(_/\(Ag J σ σ -> Q σ H))=(_/\_)
 rw[imp_self (Ag.refl J σ)]
theorem abg{g:TG}{u:jW}(h1:Fg J g)(h2:Cq J u):Cq J (pq g u):=λx σ H Q=>by
 show(∃v r,_/\g v σ H λτ H'=>u r τ H' λσ' H'=>Ag J σ σ'->Q σ' H')=∃v r,_/\g v σ H λτ H'=>u r τ H' Q
 congr 1
 funext v
 congr 1
 funext r
 congr 1
 rw[<-h1 v σ H λτ H'=>u r τ H' λσ' H'=>Ag J σ σ'->Q σ' H',<-h1 v σ H λτ H'=>u r τ H' Q]
 congr 1
 funext τ H'
 refine imp_eq λa=>?_
 rw[<-h2 r τ H' Q]
 congr 1
 funext τ' H2
 rw[a.left]
theorem abh(K:FZ)(n:Nat){u:jW}(h:Cq J u):Fg J (uL K n u):=λx σ H Q=>by
 show(∃a xs,_/\_/\_/\u xs σ H _)=∃a xs,_/\_/\_/\u xs σ H _
 congr 1
 funext a
 congr 1
 funext xs
 rw[h]
theorem Sd{g:TG}{tb:TS}(hg:Fg J g)(hb:Fm J tb){I:It}{D D':Ends}{H1:Hp}(hn:∀τ H,Ag J σ τ -> D.nx τ H->D'.nx τ H)(he:∀τ,Ag J σ τ -> ∀τ' H,Ag J τ τ'->D.nx τ' H=D'.nx τ' H)(hr:D.rt=D'.rt)
  (h:∃W:Nat->Nat->St->Hp->Prop,(∃m,W 0 m σ H1)/\∀i m σ H,W i m σ H->(I.stop i H/\D.nx σ H)\/(I.go i H/\∃N:St->Hp->Prop,(∀σ' H',N σ' H'->∃m',m'<m/\W (i+1) m' σ' H')/\∀x H',I.lY i H x H'->g x σ H' λσ2 H2=>tb {D with nx:=N,ct:=N,bk:=D.nx } σ2 H2)) :
  ∃W:Nat->Nat->St->Hp->Prop,(∃m,W 0 m σ H1)/\∀i m σ H,W i m σ H->(I.stop i H/\D'.nx σ H)\/(I.go i H/\∃N:St->Hp->Prop,(∀σ' H',N σ' H'->∃m',m'<m/\W (i+1) m' σ' H')/\∀x H',I.lY i H x H'->g x σ H' λσ2 H2=>tb {D' with nx:=N,ct:=N,bk:=D'.nx } σ2 H2):=by
 obtain⟨W,⟨m,h0⟩,h⟩:=h
 refine⟨λi m τ H=>W i m τ H/\Ag J σ τ,⟨m,h0,Ag.refl J σ⟩,λi m τ H w=>?_⟩
 rcases h i m τ H w.1 with⟨s,d⟩|⟨go,N,hN,hy⟩
 ·exact .inl ⟨s,hn τ H w.2 d⟩
 ·refine .inr ⟨go,λσ' H'=>N σ' H'/\Ag J σ σ',λσ' H' n=>?_,λx H' y=>?_⟩
  ·obtain⟨m',lt,w'⟩:=hN σ' H' n.1
   exact⟨m',lt,w',n.2⟩
  ·have z:=hy x H' y
   rw[<-hg]at z ⊢
   have e:(λσ2 H2=>Ag J τ σ2->tb {D with nx:=N,ct:=N,bk:=D.nx } σ2 H2)=λσ2 H2=>Ag J τ σ2->tb {D' with nx:=λσ' H'=>N σ' H'/\Ag J σ σ',ct:=λσ' H'=>N σ' H'/\Ag J σ σ',bk:=D'.nx } σ2 H2:=by
    funext σ2 H2
    refine imp_eq λa=>?_
    have a2:=w.2.trans a
    rw[<-hb,<-hb {D' with nx:=λσ' H'=>N σ' H'/\Ag J σ σ',ct:=λσ' H'=>N σ' H'/\Ag J σ σ',bk:=D'.nx }]
    congr 1
    unfold Ends.gd
    dsimp only
    have en:(λσ' H'=>Ag J σ2 σ'->N σ' H')=λσ' H'=>Ag J σ2 σ'->(N σ' H'/\Ag J σ σ'):=by
     funext σ' H'
     exact imp_eq λb=>propext ⟨λn=>⟨n,a2.trans b⟩,λn=>n.1⟩
    rw[en,hr]
    congr 1
    funext σ' H'
    exact imp_eq λb=>he σ2 a2 σ' H' b
   rw[e]at z
   exact z
theorem abj(wi:TI){g:TG}{tb:TS}(hg:Fg J g)(hb:Fm J tb):Fm J (wI wi g tb):=λD σ H=>by
 show wi σ H _=wi σ H _
 congr 1
 funext I H1
 exact propext ⟨Sd hg hb (λτ H a d=>d a) (λτ a τ' H b=>imp_self (a.trans b)) rfl,Sd hg hb (λτ H a d _=>d) (λτ a τ' H b=>(imp_self (a.trans b)).symm) rfl⟩
end
end L2
end
section
namespace L2
open PySem PySem.Spec PyProof.Rows
def vO:Tr->Tr
 |.lst us=>.lst us.reverse
 |u=>u
def jm(rs:List (Addr × List V))(H:Hp):Hp:=rs.foldl (λH p=>upd H p.1 (.lst p.2.reverse)) H
theorem yD:∀{rs:List (Addr × List V)} {H:Hp} {b:Addr},b∉rs.map Prod.fst->jm rs H b=H b
 | [],_,_,_=>rfl
 |p::rs,H,b,n=>by
  have n':b≠p.1/\b∉rs.map Prod.fst:=by simpa only[List.map_cons,List.mem_cons,not_or]using n
  show jm rs (upd H p.1 (.lst p.2.reverse)) b=_
  rw[yD n'.2,aO n'.1]
theorem Jj:∀{rs:List (Addr × List V)} {H:Hp} {p:Addr × List V},(rs.map Prod.fst).Nodup->p∈rs->jm rs H p.1=some (.lst p.2.reverse)
 | [],_,_,_,m=>by cases m
 |q::rs,H,p,nd,m=>by
  rw[List.map_cons,List.nodup_cons]at nd
  show jm rs (upd H q.1 (.lst q.2.reverse)) p.1=_
  rcases List.mem_cons.mp m with rfl|m
  ·rw[yD nd.1,cB]
  ·exact Jj nd.2 m
theorem DR.flip{K:FZ}{G H:Hp}:∀{xs:List V} {ts:List Tr} {bs:List Addr},DR K G H xs ts bs->ts.all xg=true ->
  ∃rs:List (Addr × List V),xs=rs.map (λp=>V.ref p.1)/\bs=rs.map Prod.fst/\(∀p∈rs,H p.1=some (.lst p.2))/\∀G',Same G G'->(∀p∈rs,G' p.1=some (.lst p.2.reverse))->aL K G' xs (ts.map vO)
 |_,_,_,.nil,_=>⟨[],rfl,rfl,(λp m=>by cases m),λ_ _ _=>.nil⟩
 |_,_,_,.cl n _ _,a=>by rw[List.all_cons,n]at a; cases a
 |_,_,_,@DR.rw _ _ _ b ys us xs ts bs h q r,a=>by
  obtain⟨rs,e1,e2,e3,e4⟩:=DR.flip r (by rw[List.all_cons]at a; exact(Bool.and_eq_true_iff.mp a).2)
  refine⟨(b,ys)::rs,by rw[e1]; rfl,by rw[e2]; rfl,λp m=>?_,λG' m k=>?_⟩
  ·rcases List.mem_cons.mp m with rfl|m
   ·exact h
   ·exact e3 p m
  ·exact .cons (.lst (bw.of (k (b,ys) (List.mem_cons_self ..))) (q.rev.mono m)) (e4 G' m λp z=>k p (List.mem_cons_of_mem _ z))
section
variable {t:Tx}{K:FZ}
structure Bs(t:Tx)(W:Addr->Prop)(H:Hp):Prop where
 zw:∀b,t.Z b->W b
 z0:∀b,t.Z b->t.H0 b≠none
 wl:∀b,W b->Lt H b
 f0:∀b o,t.H0 b=some o->¬t.R b->H b=some o
 n0:∀b,H b=none->t.H0 b=none
 pn:∀b o,t.B b=some o->H b=some o
 tab:iM t W H
theorem Bs.Jk{W:Addr->Prop}{ρ : En}{σ : St}{H:Hp}(b:Bs t W H)(len : ρ.length = σ.length)(hs:∀(i:Nat) (s:Sl),ρ[i]?=some s->s=.un\/∃u v,s=.sh u/\σ[i]?=some (some v)/\Rep t.K (aA W H) v u):aJ t W ρ σ H:=by
 have no:∀(i:Nat) (s:Sl),(∀u,s ≠ .sh u)->s ≠ .un -> ρ[i]?=some s->False:=λi s n1 n2 q=>by
  rcases hs i s q with z|⟨u,v,z,_⟩
  ·exact n2 z
  ·exact n1 u z
 have mu:∀i,Mu ρ i->False:=λi m=>by
  obtain⟨ts,q|q⟩:=m
  ·exact no i (.ow ts) (by intro u z; cases z) (by intro z; cases z) q
  ·exact no i (.rf ts) (by intro u z; cases z) (by intro z; cases z) q
 have dp:∀(i:Nat) (ts:List Tr),ρ[i]?=some (Sl.dp ts)->False:=λi ts q=>no i (.dp ts) (by intro u z; cases z) (by intro z; cases z) q
 refine⟨λ_=>[],len,b.zw,b.z0,b.wl,b.f0,b.n0,λi u q=>?_,λi ts q=>(mu i ⟨ts,.inl q⟩).elim,λi ts q=>(mu i ⟨ts,.inr q⟩).elim,λi j a m=>(mu i m).elim,b.pn,λi a m=>(mu i m).elim,λi ts q=>(dp i ts q).elim,λi j ts us n q=>(dp i ts q).elim,λi j ts c q=>(dp i ts q).elim,λi ts q=>(dp i ts q).elim,b.tab⟩
 rcases hs i _ q with z|⟨u',v,z,r⟩
 ·cases z
 ·cases z
  exact⟨v,r⟩
def shO(J:List Nat)(i:Nat):Sl->Sl
 |.sh T=>if i∈J then .un else .sh T
 |_=>.un
def iZ(J:List Nat)(ρ : En):En := ρ.mapIdx (shO J)
theorem Jl(J:List Nat)(ρ : En):(iZ J ρ).length = ρ.length:=List.length_mapIdx ..
theorem Jm{J:List Nat}{ρ : En}{i:Nat}{s:Sl}(h:(iZ J ρ)[i]?=some s):s=.un\/(i∉J/\∃T,ρ[i]?=some (.sh T)/\s=.sh T):=by
 unfold iZ at h
 rw[List.getElem?_mapIdx]at h
 obtain⟨o,h1,rfl⟩:=Option.map_eq_some_iff.mp h
 cases o with
 |sh T =>
  show(if i∈J then Sl.un else .sh T)=.un\/_
  by_cases m:i∈J
  ·exact .inl (if_pos m)
  ·exact .inr ⟨m,T,h1,if_neg m⟩
 |un=>exact .inl rfl
 |ow ts=>exact .inl rfl
 |rf ts=>exact .inl rfl
 |dp ts=>exact .inl rfl
noncomputable def Jo(h r:Nat)(J:List Nat)(ρ : En)(ts:List Tr)(u:Tr)(m:Fl × En):Rs (Fl × En):=match m.1 with
 |.nx=>if r < ρ.length/\m.2.length = ρ.length then .ok (.nx,(iZ J ρ).set h (.sh (.lst [.lst (ts.map vO),u])))else .bad
 |.rt T b=>.ok (.rt T b,m.2)
 |_=>.bad
def vP(h r:Nat)(J:List Nat)(fm:SF)(ts:List Tr)(q:Rv × En):Rs (Fl × En):=match q.1 with
 |.v u _=>if ts.all xg=true/\h<q.2.length then(fm ((iZ [] q.2).set h (.sh (.lst [.lst ts,u])))).bind (Jo h r J q.2 ts u)else .bad
 |_=>.bad
def yE(h r:Nat)(J:List Nat)(F:FD)(fa:AF)(fu:EF)(fm:SF):SF:=λρ=>(fa ρ).bind λp=>if p.1.any aZ=true then .bad else(drs p.2 p.1).bind λas=>(F as).bind λts=>(bW (fu (iZ [] p.2))).bind (vP h r J fm ts)
theorem abk{a b p:Addr}{y:V}{rs:List (Addr × List V)}{h r:Nat}{σ : St}{H:Hp}{D:Ends}(hv : σ[h]?=some (some (.ref p)))(hp:H p=some (.lst [.ref a,y]))(ha:H a=some (.lst (rs.map λq=>V.ref q.1)))(hr:∀q∈rs,H q.1=some (.lst q.2))(nd:(a::rs.map Prod.fst).Nodup)(lr:r < σ.length)
  (fin:∀σ',σ'.length = σ.length->(∀j,j≠r -> σ'[j]?=σ[j]?)->D.nx σ' (jm rs H)):wI (vm K (eU (nG K) (fY h) (tC (.int 0)))) (cU r) (o9 (zW K "list" Fo (fY r))) D σ H:=by
 rw[List.nodup_cons]at nd
 refine .inl ⟨_,hv,.inl ⟨p,_,0,.ref a,rfl,rfl,bw.of hp,by simp[eX,gM],a,rfl,⟨_,bw.of ha⟩,?_⟩⟩
 have tk:∀(i:Nat) (b:Addr),b∉rs.map Prod.fst->jm (rs.take i) H b=H b:=λi b n=>yD λz=>n (by
  rw[List.map_take]at z
  exact List.mem_of_mem_take z)
 refine VP (xs:=rs.map λq=>V.ref q.1) (λi τ G=>G=jm (rs.take i) H/\τ.length = σ.length/\∀j,j≠r -> τ[j]?=σ[j]?) ⟨rfl,rfl,λ_ _=>rfl⟩ (λi τ G _ z=>?_) (λi x τ G hx z=>?_) (λτ G z=>?_)
 ·rw[z.1]
  exact bw.of ((tk i a nd.1).trans ha)
 ·obtain⟨rfl,z2,z3⟩:=z
  rw[List.getElem?_map]at hx
  obtain⟨q,hq,rfl⟩:=Option.map_eq_some_iff.mp hx
  have lt:i<rs.length:=(List.getElem?_eq_some_iff.mp hq).1
  have mq:q∈rs:=List.mem_of_getElem? hq
  have hb:jm (rs.take i) H q.1=some (.lst q.2):=by
   rw[<-hr q mq]
   refine yD λz=>?_
   have e:rs=rs.take i++q::rs.drop (i+1):=by
    rw[List.getElem?_eq_getElem lt]at hq
    cases hq
    rw[List.getElem_cons_drop,List.take_append_drop]
   have Sg:=nd.2
   rw[e,List.map_append,List.map_cons]at Sg
   have:=(List.nodup_append.mp Sg).2.2 _ z _ (List.mem_cons_self ..)
   exact this rfl
  show o9 _ _ (τ.set r (some (.ref q.1))) (jm (rs.take i) H)
  refine⟨.ref q.1,List.getElem?_set_self (by rw[z2]; exact lr),.inl ⟨rfl,_,bw.of hb⟩,q.1,q.2,rfl,rfl,hb,?_,?_,λj n=>?_⟩
  ·rw[List.take_add_one,hq]
   unfold jm
   rw[List.foldl_append]
   rfl
  ·rw[List.length_set,z2]
  ·rw[List.getElem?_set_ne (Ne.symm n),z3 j n]
 ·obtain⟨rfl,z2,z3⟩:=z
  have:=fin τ z2 z3
  rw[List.length_map,List.take_length]
  exact this
end
end L2
end
section
namespace L2
open PySem PySem.Spec PyProof.Rows
section
variable {t:Tx}{K:FZ}
open Classical in
def Cu(t:Tx)(R:Addr->Prop)(H:Hp):Tx:={t with B:=λb=>if R b then H b else t.B b,EX:=λ_=>False }
theorem Sh{R:Addr->Prop}{H:Hp}{b:Addr}(h:R b):(Cu t R H).B b=H b:=if_pos h
theorem Jp{R:Addr->Prop}{H:Hp}{b:Addr}(h:¬R b):(Cu t R H).B b=t.B b:=if_neg h
theorem abl(hK:t.K=aB K){cl:Str->Addr}{n:Nat}{F:FD}{E:XK}{ta:TA}{fa:AF}{tu:TE}{fu:EF}{tM tR:TS}{fm fr:SF}(h r:Nat)(J:List Nat)(hr:r∈J)(hh:h∉J)(hx:∀c H',F0 t H'->t.EX c->E (.ref (cl c)) none H')(hn:∀ρ p,fa ρ=.ok p->p.1.length=n)(ha:SA t ta fa)
  (hu:∀t':Tx,t'.K=t.K->(∀c,¬t'.EX c)->SE t' tu fu) (hM:SS t tM fm) (hF:Fm J tM) (hR:SS t tR fr) :
  SS t (je (jA (zR (jq (nC (m7 K cl n F) [] E ta) (jq tu lZ))) (cU h)) (je tM (je (wI (vm K (eU (nG K) (fY h) (tC (.int 0)))) (cU r) (o9 (zW K "list" Fo (fY r)))) tR))) (aG (yE h r J F fa fu fm) fr):=λW ρ σ H D e hp=>by
 have hp:=Rs.aN hp
 unfold yE at hp
 have hp:=Rs.aN hp
 cases ek:fa ρ with
 |bad=>rw[ek]at hp; exact hp.elim
 |ex c=>exact ha W ρ σ H _ e (by rw[ek]at hp ⊢; exact hp)
 |ok p =>
 have hl:=hn ρ p ek
 rw[ek]at hp
 refine ha W ρ σ H _ e (post_eq ek ?_)
 intro vs H1 e1 s1 v1
 have hp:((if p.1.any aZ=true then Rs.bad else((drs p.2 p.1).bind λas=>(F as).bind λts=>(bW (fu (iZ [] p.2))).bind (vP h r J fm ts))):Rs (Fl × En)).post _ _:=hp
 split at hp
 ·exact hp.elim
 rename_i an
 obtain⟨as,k1,hp⟩:=cV (Rs.aN hp) (u9 _ _)
 have rr:aL (aB K) (aA W H1) vs as:=by
  rw[<-hK]
  exact Bl e.wn v1 k1 (by simpa using an)
 show m7 K cl n F (vs++[]) H1 _ E
 rw[List.append_nil]
 refine⟨W,as,v1.length.trans hl,rr,e1.wl,by rw[<-hK]; exact e1.tab.ok,?_⟩
 have hp:=Rs.aN hp
 cases ef:F as with
 |bad=>rw[ef]at hp; exact hp.elim
 |ex c =>
  rw[ef]at hp
  exact λH' sm=>hx c H' ⟨λb o q nr=>sm.1 b o (e1.f0 b o q nr) λz=>nr (e1.tab.r b (by rw[hK]; exact z)),by rw[hK]; exact sm.2⟩ hp
 |ok ts =>
 rw[ef]at hp
 have hp:((bW (fu (iZ [] p.2))).bind (vP h r J fm ts)).post _ _:=hp
 intro v H' sm vr
 rw[<-hK]at vr sm
 obtain⟨a,xs,bs,rfl,nd,nw,hq,dr⟩:=vr
 have wn1:=e1.wn
 obtain⟨G,e1⟩:=e1
 have e2:=e1.R6 (D:=λb=>b∈a::bs) sm nw
 have nR:∀b o,H1 b=some o->b∉a::bs:=λb o q m=>by rw[(nw b m).1]at q; cases q
 have nW:∀b,b∈a::bs->¬W b:=λb m w=>wn1 b w (nw b m).1
 have e2':aJ (Cu t (λb=>b∈a::bs) H') (λb=>W b\/b∈a::bs) (iZ [] p.2) σ H':=by
  refine Bs.Jk ⟨e2.zw,e2.z0,e2.wl,e2.f0,e2.n0,λb o q=>?_,⟨e2.tab.ok,e2.tab.w,e2.tab.r,λb z=>?_⟩⟩ (by rw[Jl]; exact e2.len) λi s q=>?_
  ·by_cases m:b∈a::bs
   ·rw[Sh m]at q; exact q
   ·rw[Jp m]at q; exact e2.pn b o q
  ·rw[Jp λm=>nW b m (e1.tab.w b z)]
   exact e2.tab.B b z
  ·rcases Jm q with z|⟨_,T,q,z⟩
   ·exact .inl z
   ·obtain⟨v,q1,q2⟩:=e2.sh i T q
    exact .inr ⟨T,v,z,q1,q2⟩
 refine hu (Cu t (λb=>b∈a::bs) H') rfl (λc z=>z) (λb=>W b\/b∈a::bs) (iZ [] p.2) σ H' _ e2' (Rs.aY (xP (Rs.aN hp)) λq hp y H2 e3 s3 v3=>?_)
 obtain⟨rv,ρ3⟩:=q
 cases rv with
 |s i=>exact hp.elim
 |v u b0 =>
 have hp:((if ts.all xg=true/\h < ρ3.length then(fm ((iZ [] ρ3).set h (.sh (.lst [.lst ts,u])))).bind (Jo h r J ρ3 ts u)else .bad):Rs (Fl × En)).post _ _:=hp
 split at hp
 case isFalse=>exact hp.elim
 rename_i hc
 obtain⟨al,lh⟩:=hc
 have ru:Rep t.K (aA (λb=>W b\/b∈a::bs) H2) y u:=dH.rep e2'.wn v3.1
 have wn3:=e3.wn
 obtain⟨G3,e3⟩:=e3
 have l3 : ρ3.length = σ.length:=e3.len
 refine⟨by rw[sizeLine_eq]; show 2<=_; decide,λw hw=>?_⟩
 have kp:∀b∈a::bs,H2 b=H' b:=λb m=>by
  obtain⟨ys,q⟩:=(nw b m).2
  rw[q]
  exact e3.pn b _ (by rw[Sh m]; exact q)
 have wR:w∉a::bs:=λm=>by
  obtain⟨ys,q⟩:=(nw w m).2
  rw[kp w m,q]at hw
  cases hw
 have wW:¬W w:=λm=>wn3 w (.inl m) hw
 have up:∀b o,H2 b=some o->upd H2 w (.lst [.ref a,y]) b=some o:=λb o q=>by
  rw[aO λz=>by rw[z,hw]at q; cases q]
  exact q
 generalize Fv:upd H2 w (.lst [.ref a,y])=H3 at up
 have Jq:H3 w=some (.lst [.ref a,y]):=by rw[<-Fv,cB]
 have n3:∀b,H3 b=none->H2 b=none:=λb q=>by
  cases z:H2 b with
  |none=>rfl
  |some o=>rw[up b o z]at q; cases q
 have sm3:Same (aA (λb=>W b\/b∈a::bs) H2) (aA W H3):=mJ (λb o _ w=>.inl w) λb o _ q=>up b o q
 have smG:Same (aA (λb=>W b\/b∈a::bs) H') (aA W H3):=mJ (λb o _ w=>.inl w) λb o n q=>up b o (s3.keep b o n q)
 have Jr:∀b∈a::bs,∀o,H' b=some o->H3 b=some o:=λb m o q=>up b o ((kp b m).trans q)
 have bs3:Bs t W H3:=⟨e1.zw,e1.z0,λb w=>(e3.wl b (.inl w)).grow up,λb o q nr=>up b o (e3.f0 b o q nr),λb q=>e3.n0 b (n3 b q),λb o q=>up b o (e3.pn b o (by
  rw[Jp (nR b o (e1.pn b o q))]
  exact q)),⟨e3.tab.ok.same up,e1.tab.w,e1.tab.r,e1.tab.B⟩⟩
 have eo:aJ t W ((iZ [] ρ3).set h (.sh (.lst [.lst ts,u]))) (σ.set h (some (.ref w))) H3:=by
  refine(bs3.Jk (ρ := iZ [] ρ3) (σ := σ) (by rw[Jl]; exact l3) λi s q=>?_).Bb ?_
  ·rcases Jm q with z|⟨_,T,q,z⟩
   ·exact .inl z
   ·obtain⟨v,q1,q2⟩:=e3.sh i T q
    exact .inr ⟨T,v,z,q1,q2.mono sm3⟩
  ·refine .lst (bw.of ((cC wW).trans Jq)) (.cons (.lst (bw.of ((cC (nW a (List.mem_cons_self ..))).trans (Jr a (List.mem_cons_self ..) _ hq))) ?_) (.cons (ru.mono sm3) .nil))
   exact dr.reps smG λb ys m q=>(cC (nW b (List.mem_cons_of_mem _ m))).trans (Jr b (List.mem_cons_of_mem _ m) _ q)
 show tM {D with nx:=je _ tR D } (σ.set h (some (.ref w))) H3
 rw[<-hF]
 refine hM W _ _ H3 _ eo (Rs.aY (Rs.aN hp) λm hp=>?_)
 obtain⟨fl,ρ1⟩:=m
 cases fl with
 |rt T b=>exact hp
 |bk=>exact hp.elim
 |ct=>exact hp.elim
 |nx =>
 have hp:((if r < ρ3.length/\ρ1.length = ρ3.length then Rs.ok (Fl.nx,(iZ J ρ3).set h (.sh (.lst [.lst (ts.map vO),u])))else .bad):Rs (Fl × En)).post _ _:=hp
 split at hp
 case isFalse=>exact hp.elim
 rename_i hc
 obtain⟨lr,l1⟩:=hc
 have hp:(fr ((iZ J ρ3).set h (.sh (.lst [.lst (ts.map vO),u])))).post t.EX (lG t W H D):=hp
 intro W1 σ1 H4 e4 n4 ag
 obtain⟨F4,e4⟩:=e4
 have l4 : ρ1.length = σ1.length:=e4.len
 obtain⟨rs,rfl,rfl,rh,rb⟩:=dr.flip al
 have hv : σ1[h]?=some (some (.ref w)):=(ag h hh).trans (List.getElem?_set_self (by rw[<-l3]; exact lh))
 have Js:∀b∈a::rs.map Prod.fst,∀o,H' b=some o->¬W1 b/\H4 b=some o:=λb m o q=>n4 b o (nW b m) (Jr b m o q)
 have inR:∀q∈rs,q.1∈a::rs.map Prod.fst:=λq m=>List.mem_cons_of_mem _ (List.mem_map.mpr ⟨q,m,rfl⟩)
 have r4:∀q∈rs,¬W1 q.1/\H4 q.1=some (.lst q.2):=λq m=>Js q.1 (inR q m) _ (rh q m)
 have nrs:∀b,b∉a::rs.map Prod.fst->b∉rs.map Prod.fst:=λb n m=>n (List.mem_cons_of_mem _ m)
 have hnr:h≠r:=λz=>hh (z▸hr)
 refine abk (a:=a) (b:=a) (p:=w) (y:=y) (rs:=rs) hv (n4 w _ wW Jq).2 (Js a (List.mem_cons_self ..) _ hq).2 (λq m=>(r4 q m).2) nd (by rw[<-l4,l1]; exact lr) λσ2 l2 k2=>?_
 have m5:∀b o,b∉rs.map Prod.fst->H4 b=some o->jm rs H4 b=some o:=λb o n q=>(yD n).trans q
 have Jt:∀b,b∈rs.map Prod.fst->∃ys,H4 b=some (.lst ys)/\jm rs H4 b=some (.lst ys.reverse)/\¬W1 b:=λb m=>by
  obtain⟨q,mq,rfl⟩:=List.mem_map.mp m
  exact⟨q.2,(r4 q mq).2,Jj (List.nodup_cons.mp nd).2 mq,(r4 q mq).1⟩
 have old:∀b o,¬W b->b∉a::rs.map Prod.fst->H3 b=some o->¬W1 b/\jm rs H4 b=some o:=λb o n m q=>by
  obtain⟨z1,z2⟩:=n4 b o n q
  exact⟨z1,m5 b o (nrs b m) z2⟩
 have Ju:Same (aA (λb=>W b\/b∈a::rs.map Prod.fst) H2) (aA W1 (jm rs H4)):=λb o q=>by
  obtain⟨z1,z2⟩:=gj q
  obtain⟨y1,y2⟩:=old b o (λz=>z1 (.inl z)) (λz=>z1 (.inr z)) (up b o z2)
  rw[cC y1]
  exact y2
 have smC:Same (aA (λb=>W b\/b∈a::rs.map Prod.fst) H') (aA W1 (jm rs H4)):=λb o q=>by
  obtain⟨z1,z2⟩:=gj q
  exact Ju b o ((cC z1).trans (s3.keep b o z1 z2))
 have na:a∉rs.map Prod.fst:=(List.nodup_cons.mp nd).1
 have bs5:Bs t W1 (jm rs H4):=by
  refine⟨e4.zw,e4.z0,λb w=>?_,λb o q nr=>m5 b o (λm=>?_) (e4.f0 b o q nr),λb q=>e4.n0 b ?_,λb o q=>m5 b o (λm=>?_) (e4.pn b o q),e4.tab.fr λb o no q=>m5 b o (λm=>?_) q⟩
  ·have nb:b∉rs.map Prod.fst:=λm=>(Jt b m).choose_spec.2.2 w
   rcases e4.wl b w with⟨ys,q⟩|⟨ps,q⟩
   ·exact .inl ⟨ys,m5 b _ nb q⟩
   ·exact .inr ⟨ps,m5 b _ nb q⟩
  ·have:=e1.n0 b (nw b (List.mem_cons_of_mem _ m)).1
   rw[this]at q
   cases q
  ·cases z:H4 b with
   |none=>rfl
   |some o =>
    by_cases m:b∈rs.map Prod.fst
    ·obtain⟨ys,_,z2,_⟩:=Jt b m
     rw[z2]at q
     cases q
    ·rw[m5 b o m z]at q
     cases q
  ·exact nR b o (e1.pn b o q) (List.mem_cons_of_mem _ m)
  ·obtain⟨ys,z,_⟩:=Jt b m
   rw[z]at q
   cases q
   exact no ys rfl
 have e5:aJ t W1 ((iZ J ρ3).set h (.sh (.lst [.lst (ts.map vO),u]))) σ2 (jm rs H4):=by
  refine bs5.Jk (by rw[List.length_set,Jl,l2,<-l4,l1]) λi s q=>?_
  rcases get_set q with⟨rfl,rfl,_⟩|⟨ni,q⟩
  ·refine .inr ⟨_,.ref w,rfl,(k2 _ hnr).trans hv,.lst (a:=w) (xs:=[.ref a,y]) (bw.of ?_) (.cons (.lst (a:=a) (bw.of ?_) (rb _ smC λq m=>?_)) (.cons (ru.mono Ju) .nil))⟩
   ·obtain⟨y1,y2⟩:=old w _ wW wR Jq
    rw[cC y1]
    exact y2
   ·obtain⟨y1,y2⟩:=Js a (List.mem_cons_self ..) _ hq
    rw[cC y1]
    exact m5 a _ na y2
   ·rw[cC (r4 q m).1]
    exact Jj (List.nodup_cons.mp nd).2 m
  ·rcases Jm q with z|⟨nj,T,q,z⟩
   ·exact .inl z
   ·obtain⟨v,q1,q2⟩:=e3.sh i T q
    refine .inr ⟨T,v,z,?_,q2.mono Ju⟩
    rw[k2 i λz=>nj (z▸hr),ag i nj,List.getElem?_set_ne (Ne.symm ni)]
    exact q1
 refine hR W1 _ σ2 _ D e5 (Rs.aY hp λq hq=>hq.back λb o n q=>?_)
 have q1:=s1.keep b o n q
 have nb:=nR b o q1
 exact old b o n nb (up b o (s3.keep b o (λz=>z.elim n nb) (sm.1 b o q1 λz=>n (e1.tab.w b z))))
end
end L2
end
section
namespace L2
open PySem PySem.Spec PyProof.Rows
section
variable {t:Tx}{K:FZ}
def ur(n:Nat)(f:SF):DF:=λρ=>if n < ρ.length then jU f (λρ=>gP ρ n) ρ else .bad
theorem Sq{te:TE}{f:SF}(n:Nat)(h:SS t (jA te (cU n)) f):SD t (sG te) (ur n f):=λW ρ σ H D e q=>by
 unfold ur at q
 split at q
 case isFalse=>exact q.elim
 rename_i l
 have ln : ρ.length = σ.length:=e.elim λ_ e=>e.len
 have z:=(uo h (R5 n)) W ρ σ H D e q
 have e:(λx H1=>sG (fY n) D (σ.set n (some x)) H1)=D.rt:=by
  funext x H1
  have g:(σ.set n (some x))[n]?=some (some x):=List.getElem?_set_self (by rw[<-ln]; exact l)
  refine propext ⟨λ⟨v,k,d⟩=>?_,λd=>⟨x,g,d⟩⟩
  rw[g]at k
  cases k
  exact d
 have z:te σ H (λx H1=>sG (fY n) D (σ.set n (some x)) H1):=z
 rw[e]at z
 exact z
theorem abm{W:Addr->Prop}{ρ : En}{σ : St}{H H4:Hp}{F:Nat->List Addr}{i:Nat}{ts:List Tr}{a b:Addr}{xs ys:List V}(e:EOF t W ρ σ H F)(hi : ρ[i]?=some (.dp ts))(na:a∈F i)(nb:b∈F i)(ww:∀b∈F i,W b/\t.H0 b=none)(ha:H a=some (.lst xs))(hb:H b=some (.lst ys))
  (k4:∀c o,c≠a->c≠b->H c=some o->H4 c=some o) (ka:∃l,H4 a=some (.lst l)) (kb:∃l,H4 b=some (.lst l)):EOF t W (ρ.set i .un) σ H4 F:=by
 have n4:∀c,H4 c=none->H c=none:=λc w=>by
  cases z:H c with
  |none=>rfl
  |some o =>
   by_cases z1:c=a
   ·obtain⟨l,k⟩:=ka; rw[z1,k]at w; cases w
   ·by_cases z2:c=b
    ·obtain⟨l,k⟩:=kb; rw[z2,k]at w; cases w
    ·rw[k4 c o z1 z2 z]at w; cases w
 have st:bG W H H4:=⟨λc o n w=>k4 c o (λz=>n (z▸(ww a na).1)) (λz=>n (z▸(ww b nb).1)) w,n4⟩
 have iu:∀(j:Nat) (s:Sl),(ρ.set i .un)[j]?=some s->(j=i/\s=.un)\/(j≠i/\ρ[j]?=some s):=λj s h=>by
  rcases get_set h with⟨z1,z2,_⟩|z
  ·exact .inl ⟨z1,z2⟩
  ·exact .inr z
 refine e.weak (λj s w=>?_) (List.length_set ..) st.off (λ_ w=>w) (λc w=>?_) (e.tab.ok.fr λc o n w=>?_) (λc o w n=>?_) (λc w=>e.n0 c (n4 c w)) (λc o w=>?_) (λj c o m w k=>?_) (λj us' c o w m k=>?_)
 ·rcases iu j s w with⟨_,z⟩|⟨_,z⟩
  ·exact .inl z
  ·exact .inr z
 ·by_cases z1:c=a
  ·exact .inl (z1▸ka)
  ·by_cases z2:c=b
   ·exact .inl (z2▸kb)
   ·rcases e.wl c w with⟨l,k⟩|⟨l,k⟩
    ·exact .inl ⟨l,k4 c _ z1 z2 k⟩
    ·exact .inr ⟨l,k4 c _ z1 z2 k⟩
 ·refine k4 c o (λz=>?_) (λz=>?_) w
  ·rw[z,ha]at w; cases w; exact n _ rfl
  ·rw[z,hb]at w; cases w; exact n _ rfl
 ·refine k4 c o (λz=>?_) (λz=>?_) (e.f0 c o w n)
  ·rw[z,(ww a na).2]at w; cases w
  ·rw[z,(ww b nb).2]at w; cases w
 ·refine k4 c o (λz=>?_) (λz=>?_) (e.pn c o w)
  ·rw[z,e.db i _ hi a na]at w; cases w
  ·rw[z,e.db i _ hi b nb]at w; cases w
 ·have mu:Mu ρ j:=by
   obtain⟨zs,q|q⟩:=m <;> rcases iu _ _ q with⟨_,z⟩|⟨n,q⟩
   ·cases z
   ·exact⟨zs,.inl q⟩
   ·cases z
   ·exact⟨zs,.inr q⟩
  have nc:=e.dm i j _ c hi mu w
  exact k4 c o (λz=>nc (z▸na)) (λz=>nc (z▸nb)) k
 ·rcases iu _ _ w with⟨_,z⟩|⟨n,w⟩
  ·cases z
  ·have dj:=e.dd j i _ _ n w hi c m
   exact k4 c o (λz=>dj (z▸na)) (λz=>dj (z▸nb)) k
theorem abn(hK:t.K=aB K)(i:Nat):SS t (je (o9 (zW K "list" Oa (eU (nG K) (fY i) (tC (.int 0))))) (o9 (wK K "list" Ab (fY i) (jq (zR lZ) lZ)))) (uq i):=λW ρ σ H D e h=>by
 have h:=h
 unfold uq at h
 cases q:gP ρ i with
 |bad=>rw[q]at h; exact h.elim
 |ex c'=>exact absurd q (HY _ _ _)
 |ok ts =>
  rw[q]at h
  have h:(match ts with
   |.lst us::_=>if us.length<=1000/\ts.length<=1000 then Rs.ok (Fl.nx,ρ.set i .un)else .bad
   |_=>.bad).post t.EX (lG t W H D):=h
  split at h
  case h_2=>exact h.elim
  rename_i us ts'
  split at h
  case isFalse=>exact h.elim
  rename_i hl
  have h:∀W' σ' H',aJ t W' (ρ.set i .un) σ' H'->fW W H W' H'->D.nx σ' H':=h
  have hi:=Ia q
  obtain⟨F,e⟩:=e
  obtain⟨a,xs,q1,bs,ef,nd,ww,ha,dr⟩:=e.dp i _ hi
  cases dr with
  |cl n _ _=>cases n
  | @rw b ys _ xs' _ bs' hb qy dr' =>
   have na:a∈F i:=by rw[ef]; exact List.mem_cons_self ..
   have nb:b∈F i:=by rw[ef]; exact List.mem_cons_of_mem _ (List.mem_cons_self ..)
   have nab:a≠b:=λz=>by
    rw[ef,z]at nd
    exact(List.nodup_cons.mp nd).1 (List.mem_cons_self ..)
   have lx:xs'.length+1<=1000:=by
    have:=dr'.len
    have:=hl.2
    rw[List.length_cons]at this
    omega
   have z2:(V.ref b::xs').length<sizeLine:=by rw[sizeLine_eq,List.length_cons]; omega
   refine⟨_,q1,.inl ⟨a,_,0,.ref b,rfl,rfl,bw.of ha,by simp[eX,gM],.inl ⟨rfl,ys,bw.of hb⟩,b,ys,rfl,rfl,hb,?_⟩⟩
   have yr:upd H b (.lst []) a=some (.lst (.ref b::xs')):=by rw[aO nab]; exact ha
   refine⟨_,q1,.inl ⟨rfl,_,bw.of yr⟩,by rw[sizeLine_eq]; decide,λp hp=>?_⟩
   have npa:p≠a:=λz=>by rw[z,yr]at hp; cases hp
   have Ss:p≠b:=λz=>by rw[z,cB]at hp; cases hp
   have h0p:H p=none:=by rw[aO Ss]at hp; exact hp
   refine⟨a,_,.ref p,rfl,rfl,by rw[aO (Ne.symm npa)]; exact yr,z2,?_⟩
   generalize Jv:upd (upd (upd H b (.lst [])) p (.lst [])) a (.lst (.ref b::xs'++[.ref p]))=H4
   have k4:∀c o,c≠a->c≠b->H c=some o->H4 c=some o:=λc o n1 n2 w=>by
    have n3:c≠p:=λz=>by rw[z,h0p]at w; cases w
    rw[<-Jv,aO n1,aO n3,aO n2]
    exact w
   have ka:∃l,H4 a=some (.lst l):=⟨_,by rw[<-Jv,cB]⟩
   have kb:∃l,H4 b=some (.lst l):=⟨_,by rw[<-Jv,aO (Ne.symm nab),aO (Ne.symm Ss),cB]⟩
   exact h W σ H4 ⟨F,abm e hi na nb ww ha hb k4 ka kb⟩ λc o n w=>⟨n,k4 c o (λz=>n (z▸(ww a na).1)) (λz=>n (z▸(ww b nb).1)) w⟩
end
end L2
namespace L2
section
variable {t:Tx}{a b c d e:TS}{f:SF}
theorem abo(h:SS t (je a (je (je b (je c d)) e)) f):SS t (je a (je b (je c (je d e)))) f:=h
end
end L2
end
section
namespace K20
open PySem L2 BH
def top(i:Nat):Stmt:=PySem.Challenge.pw_bestheads_k20_seen_worths.main.body.getD i (.Pass ⟨0,0,0,0⟩)
abbrev Jw:Stmt:=top 5
abbrev Jx:Stmt:=top 6
abbrev Jy:Stmt:=top 7
abbrev Jz:Stmt:=top 8
abbrev Cv:Stmt:=top 9
abbrev Cw:Stmt:=top 10
abbrev JB:Stmt:=top 14
abbrev Cy:Stmt:=top 15
abbrev yF:Stmt:=top 16
abbrev JC:Stmt:=top 17
abbrev JD:Stmt:=top 18
abbrev Cz:Stmt:=top 19
abbrev JF:Stmt:=top 20
abbrev CG:Stmt:=top 21
abbrev CJ:Stmt:=top 23
abbrev JG:Stmt:=top 24
abbrev CK:Stmt:=top 25
abbrev JH:Stmt:=top 26
abbrev CN:Stmt:=top 27
abbrev CP:Stmt:=top 27
abbrev JK:Stmt:=top 28
abbrev JL:Stmt:=top 28
abbrev CQ:Stmt:=top 29
abbrev JM:Stmt:=top 31
abbrev JN:Stmt:=top 32
abbrev JQ:Stmt:=top 33
abbrev JR:Stmt:=top 34
abbrev CT:Stmt:=top 35
abbrev CV:Stmt:=top 36
abbrev CW:Stmt:=top 37
abbrev CZ:Stmt:=top 37
abbrev JT:Stmt:=top 38
abbrev yG:Stmt:=top 39
structure Nm(mg:Str->Option Value):Prop where
 JV:mg "abs" = none
 vQ:mg "all" = none
 Sv:mg "bool" = none
 Sw:mg "enumerate" = none
 JW:mg "int" = none
 kY:mg "isinstance" = none
 gA:mg "len" = none
 oU:mg "list" = none
 oV:mg "range" = none
 abp:mg "sorted" = none
 Sx:mg "sum" = none
 Dc:mg "tuple" = none
 abq:mg "zip" = none
noncomputable def Sy:DF:=(jU (bf (aj 1) (gT 2 (bL (gN 2) (bL (gN 3) dI)))) (jU (oJ 4 [none] (bM (aj 0)) (gN 0) cF (aq cX (rN [.non]) (aR (g1 bB) (ak (aj 0) au)))) (jU (bN (bY (yq (ak (aX oO (ak (aj 0) au)) au)) (gT 2 (bL (gN 5) (bL (gN 6) dI))) (bY (bM (iQ (aj 6) jj (jk (aq aK (aj 2) (aj 5))))) (gN 7) (tQ 4 (kE 5) (kE 7) (aq aK (aq aK (aj 0) (aj 5)) (aj 7)))))) (jU (bN (bY (bM (aj 3)) (gT 2 (bL (gN 5) (bL (gN 7) dI))) (tQ 4 (kE 5) (kE 7) (aq aK (aq aK (aj 0) (aj 5)) (aj 7))))) (λρ=>gP ρ 4)))))
def yH:FD:=vM 8 Sy
def SJ:DF:=(jU (fJ (aX mZ (ak (aj 0) au))) (jU (fJ (aX oR (ak (aj 0) (ak (aj 1) au)))) (ur 0 (vN 0 yH (ak (aj 0) (ak (aj 1) au))))))
def uw:FD:=vM 2 SJ
noncomputable def SM:SF:=(aG (fJ (aX mZ (ak (aj 0) au))) (aG (fJ (aX oR (ak (aj 0) (ak (aj 1) au)))) (aG (bf (aj 1) (gT 2 (bL (gN 2) (bL (gN 3) dI)))) (aG (bf (aX oO (ak (aj 0) au)) (gN 4)) (aG (bf (cD [none,none,some 4,some 2] (bM (aj 3)) (gT 2 (bL (gN 0) (bL (gN 1) dI))) (cu (aq (fK not) (aj 1) (iQ (aq aK (aj 2) (aj 0)) jj (jk (aq aK (aj 3) (aj 0)))))) (aj 1)) (gN 5)) (bJ (jx (ak (aR (g1 kW) (ak (aj 2) au)) (ak (aR (g1 bB) (ak (aj 5) au)) au)))))))))
def vR:FP:=bF 6 SM
noncomputable def JX:SF:=(aG (bf (eC (.int 0)) (gN 2)) (aG (cM (cu (aq gk (aj 1) (aR (g1 bB) (ak (aj 0) au)))) (bf (aq aK (aj 0) (aj 1)) (gN 2)) cL) (aG (cM (cu (aq j5 (aj 2) (aq jQ (eC (.int 10)) (eC (.int 18))))) (bJ (aq bZ (aq mQ (aj 2) (aq jQ (eC (.int 10)) (eC (.int 18)))) (aq jQ (eC (.int 10)) (eC (.int 60))))) cL) (aG (bf (aq bZ (aq bR (aq bR (aq cX (aj 2) (eC (.int 48271))) (aq cX (aj 1) (eC (.int 69621)))) (eC (.int 11))) (eC (.int 2147483629))) (gN 3)) (aG (bf (aq bZ (aq cX (aj 3) (aj 3)) (eC (.int 2147483587))) (gN 3)) (bJ (aq bR (aq cX (aj 3) (eC (.int 2147483563))) (aq bZ (aq cX (aj 3) (aj 3)) (eC (.int 2147483563))))))))))
def jo:FP:=bF 4 JX
noncomputable def JZ:SF:=(aG (bf (aR (g1 jR) (ak (aj 0) au)) (gN 2)) (aG (bf (aR (g1 jR) (ak (aj 1) au)) (gN 3)) (aG (bN (nY (pZ 3) (cu (aq jw (aj 3) (eC (.int 0)))) (tK 2 3 (ak (aj 3) (ak (aq bZ (aj 2) (aj 3)) au))))) (aG (cM (cu (aq gk (aj 1) (eC (.int 0)))) (bf (aq mQ (eC (.int 0)) (aj 2)) (gN 2)) cL) (bJ (jx (ak (aq cJ (aj 0) (aj 2)) (ak (aq cJ (aj 1) (aj 2)) au))))))))
def vU:FP:=bF 4 JZ
def J0:SF:=(bJ (aq gk (aq cX (aq aK (aj 0) (eC (.int 0))) (aq aK (aj 1) (eC (.int 1)))) (aq cX (aq aK (aj 1) (eC (.int 0))) (aq aK (aj 0) (eC (.int 1))))))
def vV:FP:=bF 2 J0
noncomputable def J1:SF:=(aG (bf (aX jo (ak (aj 0) (ak (aj 1) au))) (gN 4)) (aG (bf (aq bR (eC (.int 1)) (aq bZ (aj 4) (aj 3))) (gN 5)) (aG (bf (aq bR (eC (.int 1)) (aq bZ (aq cJ (aj 4) (aj 3)) (aj 2))) (gN 6)) (aG (bf (aq aK (rN [.int 2,.int 3,.int 4,.int 6,.int 10,.int 24,.int 97,.int 999999999999]) (aq bZ (aq cJ (aj 4) (eC (.int 1000))) (eC (.int 8)))) (gN 7)) (aG (gZ 8 (gH au)) (aG (bN (bY (dh (ak (aj 6) au)) (gN 9) (aG (bf (aX jo (ak (aj 0) (ak (aq bR (aq bR (aj 1) (eC (.int 1))) (aj 9)) au))) (gN 10)) (aG (gZ 11 (gH au)) (aG (bY (dh (ak (aj 5) au)) (gN 12) (aG (cM (cu (aq jw (aj 7) (eC (.int 100)))) (bf (aX jo (ak (aj 0) (ak (aq bZ (aq bR (aq bR (aq bR (aj 1) (eC (.int 1))) (aj 9)) (aq cX (eC (.int 5)) (aj 12))) (eC (.int 63))) au))) (gN 10)) cL) (aG (fJ (iU 11 fX (ak (aX vU (ak (aq bZ (aj 10) (aq bR (aj 7) (eC (.int 1)))) (ak (aj 7) au))) au))) (bf (aq cJ (aj 10) (aq bR (aj 7) (eC (.int 1)))) (gN 10))))) (lJ 11 (fJ (iU 8 fX (ak (aj 11) au))))))))) (bJ (aj 8))))))))
def ux:FP:=bF 13 J1
noncomputable def abr:SF:=(aG (gZ 1 (gH au)) (aG (bN (bY (dh (ak (aR (g1 bB) (ak (aj 0) au)) au)) (gN 2) (aG (bf (aR (g1 bB) (ak (vI [none,some 0,some 2] 1 (gN 0) (dR (dY (aX vV (ak (aq aK (aj 1) (aj 0)) (ak (aq aK (aj 1) (aj 2)) au))))) (aj 0)) au)) (gN 3)) (fJ (iU 1 rT (ak (aj 3) (ak (aj 2) au))))))) (bJ (aj 1))))
def m8:FP:=bF 4 abr
noncomputable def J2:SF:=(aG (bf (aX jo (ak (aj 0) (ak (aj 1) au))) (gN 3)) (aG (bf (aR (g1 bB) (ak (aq aK (aj 2) (eC (.int 0))) au)) (gN 4)) (aG (gZ 5 (gH au)) (aG (bN (bY (dh (ak (aR (g1 bB) (ak (aj 2) au)) au)) (gN 6) (aG (fJ (iU 5 fX (ak (aq bZ (aj 3) (aq bR (aj 4) (eC (.int 1)))) au))) (bf (aq cJ (aj 3) (aq bR (aj 4) (eC (.int 1)))) (gN 3))))) (aG (cM (cu (aq dw (aq bZ (aj 3) (eC (.int 4))) (eC (.int 0)))) (lJ 5 (gZ 5 (cD [none] (bM (aj 5)) (gN 0) cF (aq cJ (aj 0) (eC (.int 2)))))) cL) (aG (gZ 7 (gH au)) (aG (bf (aX jo (ak (aj 0) (ak (aq bR (aj 1) (eC (.int 1))) au))) (gN 8)) (aG (bN (bY (dh (ak (aR (g1 bB) (ak (aj 2) au)) au)) (gN 6) (aG (cM (cu (aq dw (aj 6) (eC (.int 2)))) (bf (aX jo (ak (aj 0) (ak (aq bR (aj 1) (eC (.int 50))) au))) (gN 8)) cL) (bY (dh (ak (aj 4) au)) (gN 9) (aG (cM (cu (aq dw (aq bZ (aj 8) (eC (.int 5))) (eC (.int 1)))) (fJ (iU 7 fX (ak (jx (ak (aj 6) (ak (aj 9) au))) au))) cL) (bf (aq cJ (aj 8) (eC (.int 5))) (gN 8))))))) (aG (cM (cu (aq dw (aq bZ (aq cJ (aj 3) (eC (.int 4))) (eC (.int 3))) (eC (.int 0)))) (gZ 7 (gH au)) cL) (lJ 7 (lJ 5 (bJ (jx (ak (aj 5) (ak (aj 7) au)))))))))))))))
def uy:FP:=bF 10 J2
def abt:SF:=(bJ (cD [none] (bM (aj 0)) (gN 0) cF (aR (g1 iR) (ak (aj 0) au))))
def yI:FP:=bF 1 abt
def abu:DF:=(ur 0 (oJ 0 [none] (bM (aj 0)) (gN 0) cF (aR (g1 iR) (ak (aj 0) au))))
def vW:FD:=vM 1 abu
noncomputable def J3:SF:=(aG (gZ 2 (gH au)) (aG (bN (bY (dh (ak (aR (g1 bB) (ak (aj 0) au)) au)) (gN 3) (aG (bf (iQ (aX m8 (ak (aq aK (aj 0) (aj 3)) au)) jj (jk (aq aK (aq aK (aj 1) (eC (.int 0))) (aj 3)))) (gN 4)) (aG (gZ 5 (gH au)) (aG (bY (dh (ak (aR (g1 bB) (ak (aq aK (aj 0) (aj 3)) au)) au)) (gN 6) (aG (bf (Ax (aq (fK id) (aj 6) (aj 4)) (aq (fK id) (jx (ak (aj 3) (ak (aj 6) au))) (aq aK (aj 1) (eC (.int 1))))) (gN 7)) (fJ (iU 5 fX (ak (aq aK (gH (ak (eC .non) (ak (aq aK (aq aK (aj 0) (aj 3)) (aj 6)) au))) (aR (g1 pR) (ak (aj 7) au))) au))))) (lJ 5 (fJ (iU 2 fX (ak (aj 5) au))))))))) (bJ (aj 2))))
def rW:FP:=bF 8 J3
noncomputable def SN:SF:=(aG (bf (aX ux (ak (aj 0) (ak (eC (.int 0)) (ak (eC (.int 4)) (ak (eC (.int 12)) au))))) (gN 1)) (aG (bf (aX uy (ak (aj 0) (ak (eC (.int 5)) (ak (aj 1) au)))) (gN 2)) (aG (bf (aX rW (ak (aj 1) (ak (aj 2) au))) (gN 3)) (aG (yE 4 12 [5,6,7,8,9,10,11,12] vW (ak (aj 1) au) (jx (ak (aR (g1 iR) (ak (aq aK (aj 2) (eC (.int 0))) au)) (ak (aR (g1 iR) (ak (aq aK (aj 2) (eC (.int 1))) au)) au))) (aG (bf (eC (.int 0)) (gN 5)) (aG (bN (bY (bM (aq aK (aj 2) (eC (.int 1)))) (gT 2 (bL (gN 6) (bL (gN 7) dI))) (aG (bf (iQ (aX m8 (ak (aq aK (aj 1) (aj 6)) au)) jj (jk (aq aK (aq aK (aj 2) (eC (.int 0))) (aj 6)))) (gN 8)) (bf (aq bR (aj 5) (aR (g1 pR) (ak (aq (fK not) (aj 7) (aj 8)) au))) (gN 5))))) (bN (bY (dh (ak (eC (.int 2)) au)) (gN 9) (aG (vN 10 uw (ak (aq aK (aj 4) (eC (.int 0))) (ak (aq aK (aj 4) (eC (.int 1))) au))) (aG (bf (aX vR (ak (aq aK (aj 4) (eC (.int 0))) (ak (aq aK (aj 4) (eC (.int 1))) au))) (gN 11)) (aG (cM (m6 (iC (dR (dY (gJ .list (aj 10)))) (iC (cu (aq fG (aj 10) (aj 3))) (cu (aq fG (aj 4) (gH (ak (aj 1) (ak (aj 2) au)))))))) (bJ (eC (.bl false))) cL) (aG (cM (iC (dR (dY (gJ .tuple (aj 11)))) (cu (aq fG (aj 11) (jx (ak (aR (g1 kW) (ak (aq aK (aj 2) (eC (.int 0))) au)) (ak (aj 5) au)))))) (bJ (eC (.bl false))) cL) (aG (cM (cu (aq (fK id) (eC (.bl true)) (cD [none] (bM (aj 11)) (gN 0) cF (gJ .bool (aj 0))))) (bJ (eC (.bl false))) cL) (aG (cM (m6 (cu (aq jw (aR (g1 bB) (ak (cD [none] (bM (aj 10)) (gN 0) (dR (dY (gJ .list (aj 0)))) (aj 0)) au)) (eC (.int 0))))) (bJ (eC (.bl false))) cL) (uq 10)))))))))))) (bJ (aq dw (aX vK (ak (aq aK (aj 4) (eC (.int 0))) (ak (aq aK (aj 4) (eC (.int 1))) au))) (aX rW (ak (aX yI (ak (aq aK (aj 4) (eC (.int 0))) au)) (ak (aj 2) au)))))))))
def vX:FP:=bF 13 SN
end K20
end
section
namespace K20
open PySem L2 BH
local macro_rules | `(tactic| walk_at "1")=>`(tactic| exact λ_ _ _ _ _ _ us hl=>match us,hl with | [_],_=>by kernel_rfl)
local macro_rules | `(tactic| walk_at "2")=>`(tactic| exact λ_ _ _ _ _ _ us hl=>match us,hl with | [_,_],_=>by kernel_rfl)
local macro_rules | `(tactic| walk_at "3")=>`(tactic| exact λ_ _ _ _ _ _ us hl=>match us,hl with | [_,_,_],_=>by kernel_rfl)
local macro_rules | `(tactic| walk_at "4")=>`(tactic| exact λ_ _ _ _ _ _ us hl=>match us,hl with | [_,_,_,_],_=>by kernel_rfl)
local macro_rules | `(tactic| walk_at "s")=>`(tactic| first|(refine rD (by assumption) ?_; exact jy (cQ _) (jy (cQ _) rz)))
local macro_rules | `(tactic| walk_at "s")=>`(tactic| with_reducible first|exact aP _|refine bD ?_ ?_|exact bU|refine cO ?_|exact gK|exact fD _|refine fL ?_ ?_|exact cQ _|exact cY|refine dX (by assumption) ?_ ?_|refine j6 ?_|refine lH (js:=?_) ?_ ?_ ?_|refine tL (by assumption) (by assumption) ?_ ?_|refine j9 (by assumption) (by assumption) ?_ ?_|refine rM ?_|refine jH ?_ ?_|exact rK|exact HB|exact Qh|exact GC|exact Pg|refine Ys ?_ ?_|exact qW _|exact HS (by assumption)|refine aaZ (js:=?_) (by assumption) ?_ ?_ (λ_ _ _=>?_) (λ_ _ _=>?_) ?_ (by decide)|refine aa0 (js:=?_) (by assumption) ?_ ?_ (λ_ _ _=>?_) (λ_ _ _=>?_) (λ_ _ _=>?_) ?_ (by decide)|refine tD (by assumption) _ ?_|refine GJ ?_|exact XJ|refine Yu ?_|refine Yt ?_ ?_|refine Ba (by assumption) ?_ ?_ ?_|refine GK ?_|refine G9 ?_|refine jT (by assumption) ?_|refine aak (by assumption) ?_|exact Ay|refine Az ?_|exact oG (by decide)|refine Bd ?_|refine nZ (js:=?_) ?_ ?_ ?_ ?_|refine YK _ ?_|refine nU ?_ ?_ ?_|exact nQ|refine aaY (by assumption) (λ_ _ _=>?_)|refine Pz _ ?_|refine PK _ _ ?_|refine YL _ ?_ ?_|refine lF ?_|refine sZ ?_ ?_|refine mR ?_|refine aaX (by assumption) ?_|refine ZP (by assumption) ?_|refine Qj (by assumption) ?_ ?_|refine HF (by assumption) ?_|refine ZQ _ ?_|refine Qn (by assumption) ?_ ?_ ?_ ?_ ?_ ?_ ?_|refine ZK (by assumption) ?_ ?_|refine x_eq (by assumption) ?_ ?_|refine x_ge (by assumption) ?_ ?_|refine Qm (by assumption) ?_ ?_|refine Qk (by assumption) ?_ ?_|refine Qo (by assumption) ?_|refine x_len (by assumption) ?_|refine x_lt (by assumption) ?_ ?_|refine ZL (by assumption) ?_ ?_|refine HD (by assumption) ?_ ?_|refine xW (by assumption) ?_ ?_|refine Ql (by assumption) ?_ ?_|refine ZM (by assumption) ?_ ?_|refine ZJ (by assumption) ?_ ?_|refine R9 (by assumption) ?_)
local macro_rules | `(tactic| walk_at "t")=>`(tactic| ((try dsimp only[jC]); repeat' walk_at "s"))
section
variable {P:Program}{w:World}{K:FZ}{mg:Str->Option Value}{base:Heap}{cl:Str->Addr}
theorem abv(a:At K mg "_law_below" JQ) (M:Nm mg):aV P w K mg base 1 "_law_below" (["_law_one", "_law_other"]:List Str) (bA K cl 2 vV):=by
 have S:=fS (["_law_one", "_law_other"]:List Str) (["_law_one", "_law_other"]:List Str) (bx JQ)
 exact a.eG S (cl:=cl) (by decide) (by walk_at "2") (λf cdv A outer s H E hr=>⟨_,(bC (cA (pF (xu hr.units) (bK lE (bV (ao 0) aU) (bV (ao 1) aU)) (bK lE (bV (ao 1) aU) (bV (ao 0) aU)) (fP _)))),λt hK hx=>by delta J0; walk_at "t"⟩)
theorem abw(a:At K mg "_law_book" JR) (M:Nm mg) (uz:aV P w K mg base 1 "_law_cell" (["_law_script", "_law_k"]:List Str) (bA K cl 2 jo)) (abx:aV P w K mg base 1 "_law_frac" (["_law_top", "_law_bottom"]:List Str) (bA K cl 2 vU)):aV P w K mg base 2 "_law_book" (["_law_script", "_law_at", "_law_lists", "_law_most"]:List Str) (bA K cl 4 ux):=by
 have S:=fS (["_law_script", "_law_at", "_law_lists", "_law_most", "_law_number", "_law_many", "_law_wide", "_law_bottom", "_law_book_here", "_law_k", "_law_other", "_law_row", "_law_thing"]:List Str) (["_law_script", "_law_at", "_law_lists", "_law_most"]:List Str) (bx JR)
 exact a.eG S (cl:=cl) (by decide) (by walk_at "4") (λf cdv A outer s H E hr=>⟨_,(aW (cG 4 S.nd (pc1 (E:=E) uz hr dG (aC (ao 0) (aC (ao 1) aM)))) (aW (cG 5 S.nd (bK ji aU (bK jB (ao 4) (ao 3)))) (aW (cG 6 S.nd (bK ji aU (bK jB (bK mO (ao 4) (ao 3)) (ao 2)))) (aW (cG 7 S.nd (bV (HN (G:=aB K) (Ts:=[.int 2,.int 3,.int 4,.int 6,.int 10,.int 24,.int 97,.int 999999999999]) (by kernel_rfl)) (bK jB (bK mO (ao 4) aU) aU))) (aW (cG 8 S.nd (jZ aM)) (aW (PS.jd (iI PassesOwn.never rfl (p7 M.oV (aC (ao 6) aM)) (cg 9 S.nd) (aW (cG 10 S.nd (jl uz hr (aC (ao 0) (aC (bK ji (bK ji (ao 1) aU) (ao 9)) aM)))) (aW (cG 11 S.nd (jZ aM)) (aW (iI PassesOwn.never rfl (p7 M.oV (aC (ao 5) aM)) (cg 12 S.nd) (aW (gh (gU Ew (ao 7) aU (fP _)) (bC (cG 10 S.nd (jl uz hr (aC (ao 0) (aC (bK jB (bK ji (bK ji (bK ji (ao 1) aU) (ao 9)) (bK lE aU (ao 12))) aU) aM))))) f9) (aW (psE (qN PySem.F.plainAttrs_list PySem.F.slot_list_append PySem.F.type_list_append pI (ao 11) (jr (jl abx hr (aC (bK jB (ao 10) (bK ji (ao 7) aU)) (aC (ao 7) aM))) aM))) (bC (cG 10 S.nd (bK mO (ao 10) (bK ji (ao 7) aU))))))) (bC (psE (qN PySem.F.plainAttrs_list PySem.F.slot_list_append PySem.F.type_list_append pI (ao 8) (jr (ao 11) aM))))))))) (bC (cA (ao 8))))))))),λt hK hx=>by delta J1; walk_at "t"⟩)
theorem aby(a:At K mg "_law_cell" JM) (M:Nm mg):aV P w K mg base 1 "_law_cell" (["_law_script", "_law_k"]:List Str) (bA K cl 2 jo):=by
 have S:=fS (["_law_script", "_law_k", "_law_cell_here", "_law_number"]:List Str) (["_law_script", "_law_k"]:List Str) (bx JM)
 exact a.eG S (cl:=cl) (by decide) (by walk_at "2") (λf cdv A outer s H E hr=>⟨_,(aW (cG 2 S.nd aU) (aW (gh (gU (xu hr.units) (ao 1) (dD gq M.gA (aC (ao 0) aM)) (fP _)) (bC (cG 2 S.nd (bV (ao 0) (ao 1)))) f9) (aW (gh (gU MN (ao 2) (bK zO aU aU) (fP _)) (bC (cA (bK jB (bK Eu (ao 2) (bK zO aU aU)) (bK zO aU aU)))) f9) (aW (cG 3 S.nd (bK jB (bK ji (bK ji (bK lE (ao 2) aU) (bK lE (ao 1) aU)) aU) aU)) (aW (cG 3 S.nd (bK jB (bK lE (ao 3) (ao 3)) aU)) (bC (cA (bK ji (bK lE (ao 3) aU) (bK jB (bK lE (ao 3) (ao 3)) aU))))))))),λt hK hx=>by delta JX; walk_at "t"⟩)
theorem abz(a:At K mg "_law_copied" CW) (M:Nm mg):aV P w K mg base 1 "_law_copied" (["_law_book_here"]:List Str) (bA K cl 1 yI):=by
 have S:=fS (["_law_book_here"]:List Str) (["_law_book_here"]:List Str) (bx CW)
 exact a.eG S (cl:=cl) (by decide) (by walk_at "1") (λf cdv A outer s H E hr=>⟨_,(bC (cA (mF (sc:=bx CW) (No:=(["_law_book_here"]:List Str)) (N:=(["_law_row"]:List Str)) (src:=[none]) (g:=(cU 0)) rfl rfl ⟨by rfl,by decide +kernel,by decide +kernel,by decide +kernel,by rfl,by decide +kernel⟩ rfl (gw (ao 0)) (λC s H ex=>(cg 0 (show List.Nodup (["_law_row"]:List Str) by decide +kernel))) (λC s H ex=>(vp zV M.oU (aC (ao 0) aM)))))),λt hK hx=>(j6 (xU (jT hK (aP 0)) (mY (by decide)) (oG (js:=[0]) (by decide)) cY (λt1 h1 k1=>(cQ 0)) (λt1 h1 k1=>(Bu (h1.trans hK) (bD (aP 0) bU)))))⟩)
theorem abA(a:At K mg "_law_copied" CZ) (M:Nm mg):aV P w K mg base 1 "_law_copied" (["_law_book_here"]:List Str) (m7 K cl 1 vW):=by
 have S:=fS (["_law_book_here"]:List Str) (["_law_book_here"]:List Str) (bx CZ)
 exact a.Jh S (cl:=cl) (by decide) (by walk_at "1") (λf cdv A outer s H E hr=>⟨_,(bC (cA (mF (sc:=bx CZ) (No:=(["_law_book_here"]:List Str)) (N:=(["_law_row"]:List Str)) (src:=[none]) (g:=(cU 0)) rfl rfl ⟨by rfl,by decide +kernel,by decide +kernel,by decide +kernel,by rfl,by decide +kernel⟩ rfl (gw (ao 0)) (λC s H ex=>(cg 0 (show List.Nodup (["_law_row"]:List Str) by decide +kernel))) (λC s H ex=>(vp zV M.oU (aC (ao 0) aM)))))),λt hK hx=>(Sq 0 (Ig 0 (jT hK (aP 0)) (mY (by decide)) (oG (js:=[0]) (by decide)) cY (λt1 h1 k1=>(cQ 0)) (λt1 h1 k1=>(Bu (h1.trans hK) (bD (aP 0) bU)))))⟩)
theorem abB(a:At K mg "_law_frac" JN) (M:Nm mg):aV P w K mg base 1 "_law_frac" (["_law_top", "_law_bottom"]:List Str) (bA K cl 2 vU):=by
 have S:=fS (["_law_top", "_law_bottom", "_law_one", "_law_other"]:List Str) (["_law_top", "_law_bottom"]:List Str) (bx JN)
 exact a.eG S (cl:=cl) (by decide) (by walk_at "2") (λf cdv A outer s H E hr=>⟨_,(aW (cG 2 S.nd (dD EY M.JV (aC (ao 0) aM))) (aW (cG 3 S.nd (dD EY M.JV (aC (ao 1) aM))) (aW (PS.jd (Ms PassesOwn.never (gU Ew (ao 3) aU (fP _)) (bC (Ek (i:=2) (j:=3) rfl S.nd rfl rfl (by decide) rfl rfl (aC (ao 3) (aC (bK jB (ao 2) (ao 3)) aM)) rfl)))) (aW (gh (gU (xu hr.units) (ao 1) aU (fP _)) (bC (cG 2 S.nd (bK Eu aU (ao 2)))) f9) (bC (cA (qJ (aC (bK mO (ao 0) (ao 2)) (aC (bK mO (ao 1) (ao 2)) aM))))))))),λt hK hx=>by delta JZ; walk_at "t"⟩)
theorem abC(a:At K mg "_law_looks" CV) (M:Nm mg) (uz:aV P w K mg base 1 "_law_cell" (["_law_script", "_law_k"]:List Str) (bA K cl 2 jo)):aV P w K mg base 2 "_law_looks" (["_law_script", "_law_at", "_law_book_here"]:List Str) (bA K cl 3 uy):=by
 have S:=fS (["_law_script", "_law_at", "_law_book_here", "_law_number", "_law_many", "_law_depths", "_law_k", "_law_asked", "_law_other", "_law_thing"]:List Str) (["_law_script", "_law_at", "_law_book_here"]:List Str) (bx CV)
 exact a.eG S (cl:=cl) (by decide) (by walk_at "3") (λf cdv A outer s H E hr=>⟨_,(aW (cG 3 S.nd (pc1 (E:=E) uz hr dG (aC (ao 0) (aC (ao 1) aM)))) (aW (cG 4 S.nd (dD gq M.gA (aC (bV (ao 2) aU) aM))) (aW (cG 5 S.nd (jZ aM)) (aW (PS.jd (iI PassesOwn.never rfl (p7 M.oV (aC (dD gq M.gA (aC (ao 2) aM)) aM)) (cg 6 S.nd) (aW (psE (qN PySem.F.plainAttrs_list PySem.F.slot_list_append PySem.F.type_list_append pI (ao 5) (jr (bK jB (ao 3) (bK ji (ao 4) aU)) aM))) (bC (cG 3 S.nd (bK mO (ao 3) (bK ji (ao 4) aU))))))) (aW (gh (gU (sW hr.units) (bK jB (ao 3) aU) aU (fP _)) (bC (FJ (i:=5) (sc:=bx CV) (No:=(["_law_script", "_law_at", "_law_book_here", "_law_number", "_law_many", "_law_depths", "_law_k", "_law_asked", "_law_other", "_law_thing"]:List Str)) (N:=(["_law_depth"]:List Str)) (src:=[none]) (g:=(cU 0)) S.nd rfl (Or.inl rfl) rfl rfl ⟨by rfl,by decide +kernel,by decide +kernel,by decide +kernel,by rfl,by decide +kernel⟩ rfl (gw (ao 5)) (λC s H ex=>(cg 0 (show List.Nodup (["_law_depth"]:List Str) by decide +kernel))) (λC s H ex=>(bK mO (ao 0) aU)))) f9) (aW (cG 7 S.nd (jZ aM)) (aW (cG 8 S.nd (pc1 (E:=E) uz hr dG (aC (ao 0) (aC (bK ji (ao 1) aU) aM)))) (aW (PS.jd (iI PassesOwn.never rfl (p7 M.oV (aC (dD gq M.gA (aC (ao 2) aM)) aM)) (cg 6 S.nd) (aW (gh (gU (sW hr.units) (ao 6) aU (fP _)) (bC (cG 8 S.nd (jl uz hr (aC (ao 0) (aC (bK ji (ao 1) aU) aM))))) f9) (bC (iI PassesOwn.never rfl (p7 M.oV (aC (ao 4) aM)) (cg 9 S.nd) (aW (gh (gU (sW hr.units) (bK jB (ao 8) aU) aU (fP _)) (bC (psE (qN PySem.F.plainAttrs_list PySem.F.slot_list_append PySem.F.type_list_append pI (ao 7) (jr (qJ (aC (ao 6) (aC (ao 9) aM))) aM)))) f9) (bC (cG 8 S.nd (bK mO (ao 8) aU))))))))) (aW (gh (gU (sW hr.units) (bK jB (bK mO (ao 3) aU) aU) aU (fP _)) (bC (cG 7 S.nd (jZ aM))) f9) (bC (cA (qJ (aC (ao 5) (aC (ao 7) aM)))))))))))))),λt hK hx=>by delta J2; walk_at "t"⟩)
theorem abD(a:At K mg "_law_order" CT) (M:Nm mg) (abE:aV P w K mg base 1 "_law_below" (["_law_one", "_law_other"]:List Str) (bA K cl 2 vV)):aV P w K mg base 2 "_law_order" (["_law_worths"]:List Str) (bA K cl 1 m8):=by
 have S:=fS (["_law_worths", "_law_found", "_law_thing", "_law_place"]:List Str) (["_law_worths"]:List Str) (bx CT)
 exact a.eG S (cl:=cl) (by decide) (by walk_at "1") (λf cdv A outer s H E hr=>⟨_,(aW (cG 1 S.nd (jZ aM)) (aW (PS.jd (iI PassesOwn.never rfl (p7 M.oV (aC (dD gq M.gA (aC (iW 0) aM)) aM)) (Qu 2 S.nd rfl) (aW (cG 3 S.nd (dD gq M.gA (aC (Qa (sc:=bx CT) (No:=(["_law_worths", "_law_found", "_law_thing", "_law_place"]:List Str)) (N:=(["_law_one", "_law_worths", "_law_thing"]:List Str)) (src:=[none,some 0,some 2]) (g:=(cU 0)) rfl rfl ⟨by rfl,by decide +kernel,by decide +kernel,by decide +kernel,by rfl,by decide +kernel⟩ rfl (gw (ao 1)) (λC s H ex=>(cg 0 (show List.Nodup (["_law_one", "_law_worths", "_law_thing"]:List Str) by decide +kernel))) (λC s H ex=>(gR (Qt (K:=K) (jl abE hr (aC (uT uU (iW 1) (ao 0) (λ_ _=>rfl)) (aC (uT uU (iW 1) (iW 2) (λ_ _=>rfl)) aM))) rfl (by intro _; rfl)))) (λC s H ex=>(ao 0))) aM))) (bC (psE (qN PySem.F.plainAttrs_list PySem.F.slot_list_insert PySem.F.type_list_insert aaN (ao 1) (jr (ao 3) (jr (iW 2) aM)))))))) (bC (cA (ao 1))))),λt hK hx=>(fL (Pz 1 (GJ bU)) (fL (rJ (λt1 h1 k1=>(nZ (G9 (bD (x_len (h1.trans hK) (bD (aP 0) bU)) bU)) (cQ 2) cY (fL (lH (x_len (h1.trans hK) (bD (aaU (h1.trans hK) 1 (aaV (by decide)) (mY (by decide)) (oG (js:=[0]) (by decide)) cY (λt2 h2 k2=>(cQ 0)) (λt2 h2 k2=>(lF (mU (h2.trans (h1.trans hK)) (tL (h2.trans (h1.trans hK)) k2 (cO (cO gK)) (bD (dX (h2.trans (h1.trans hK)) (aP 1) (aP 0)) (bD (dX (h2.trans (h1.trans hK)) (aP 1) (aP 2)) bU)))))) (λt2 h2 k2=>(aP 0))) bU)) (cQ 3) cY) (Bd (aaQ 1 (aP 3) (aP 2))))))) (j6 (aP 1))))⟩)
theorem abF(a:At K mg "_law_seen" JT) (M:Nm mg) (J4:aV P w K mg base 2 "_law_order" (["_law_worths"]:List Str) (bA K cl 1 m8)):aV P w K mg base 3 "_law_seen" (["_law_book_here", "_law_looks_here"]:List Str) (bA K cl 2 rW):=by
 have S:=fS (["_law_book_here", "_law_looks_here", "_law_found", "_law_k", "_law_lines", "_law_row", "_law_thing", "_law_seen_here"]:List Str) (["_law_book_here", "_law_looks_here"]:List Str) (bx JT)
 exact a.eG S (cl:=cl) (by decide) (by walk_at "2") (λf cdv A outer s H E hr=>⟨_,(aW (cG 2 S.nd (jZ aM)) (aW (PS.jd (iI PassesOwn.never rfl (p7 M.oV (aC (dD gq M.gA (aC (ao 0) aM)) aM)) (cg 3 S.nd) (aW (cG 4 S.nd (uR vd (jl J4 hr (aC (bV (ao 0) (ao 3)) aM)) uP (uQ (bV (bV (ao 1) aU) (ao 3))))) (aW (cG 5 S.nd (jZ aM)) (aW (iI PassesOwn.never rfl (p7 M.oV (aC (dD gq M.gA (aC (bV (ao 0) (ao 3)) aM)) aM)) (cg 6 S.nd) (aW (cG 7 S.nd (Vv (pF (Gd hr.units) (ao 6) (ao 4) (by with_unfolding_all rfl)) (sE (pF (Gd hr.units) (qJ (aC (ao 3) (aC (ao 6) aM))) (bV (ao 1) aU) (by with_unfolding_all rfl))))) (bC (psE (qN PySem.F.plainAttrs_list PySem.F.slot_list_append PySem.F.type_list_append pI (ao 5) (jr (bV (jZ (aC LK (aC (bV (bV (ao 0) (ao 3)) (ao 6)) aM))) (vp M5 M.JW (aC (ao 7) aM))) aM)))))) (bC (psE (qN PySem.F.plainAttrs_list PySem.F.slot_list_append PySem.F.type_list_append pI (ao 2) (jr (ao 5) aM))))))))) (bC (cA (ao 2))))),λt hK hx=>by delta J3; walk_at "t"⟩)
theorem abG(a:At K mg "are_asked" CK) (M:Nm mg) (XT:kO K) (abH:aV P w K mg base 1 "are_rising" (["parts"]:List Str) (bA K cl 1 yx)) (abI:aV P w K mg base 3 "is_ask" (["thing", "lists", "many"]:List Str) (bA K cl 3 um)):aV P w K mg base 4 "are_asked" (["thing", "lists", "many"]:List Str) (bA K cl 3 Ck):=by
 have S:=fS (["thing", "lists", "many"]:List Str) (["thing", "lists", "many"]:List Str) (bx CK)
 exact a.eG S (cl:=cl) (by decide) (by walk_at "3") (λf cdv A outer s H E hr=>⟨_,(aW (gh (PW.pt (lA (gR (jf (kj XT.o .list (ao 0) M.kY M.oU) (by intro _; rfl))) (lX (gR (jf (dD (uZ rfl) M.vQ (aC (mF (sc:=bx CK) (No:=(["thing", "lists", "many"]:List Str)) (N:=(["part", "lists", "many"]:List Str)) (src:=[none,some 1,some 2]) (g:=(cU 0)) rfl rfl ⟨by rfl,by decide +kernel,by decide +kernel,by decide +kernel,by rfl,by decide +kernel⟩ rfl (gw (ao 0)) (λC s H ex=>(cg 0 (show List.Nodup (["part", "lists", "many"]:List Str) by decide +kernel))) (λC s H ex=>(jl abI hr (aC (ao 0) (aC (iW 1) (aC (iW 2) aM)))))) aM)) (by intro _; rfl)))))) (bC (cA jL)) f9) (bC (cA (pc1 (E:=E) abH hr dG (aC (ao 0) aM))))),λt hK hx=>by delta RP; walk_at "t"⟩)
theorem abJ(a:At K mg "are_depths" CJ) (M:Nm mg) (XT:kO K) (abK:aV P w K mg base 2 "is_count" (["thing", "many"]:List Str) (bA K cl 2 uh)):aV P w K mg base 3 "are_depths" (["thing", "lists", "many"]:List Str) (bA K cl 3 Cj):=by
 have S:=fS (["thing", "lists", "many"]:List Str) (["thing", "lists", "many"]:List Str) (bx CJ)
 exact a.eG S (cl:=cl) (by decide) (by walk_at "3") (λf cdv A outer s H E hr=>⟨_,(aW (gh (PW.pt (lA (gR (jf (kj XT.o .list (ao 0) M.kY M.oU) (by intro _; rfl))) (lX (gU (qX hr.units) (dD gq M.gA (aC (ao 0) aM)) (ao 1) (fP _))))) (bC (cA jL)) f9) (bC (cA (dD (uZ rfl) M.vQ (aC (mF (sc:=bx CJ) (No:=(["thing", "lists", "many"]:List Str)) (N:=(["part", "many"]:List Str)) (src:=[none,some 2]) (g:=(cU 0)) rfl rfl ⟨by rfl,by decide +kernel,by decide +kernel,by decide +kernel,by rfl,by decide +kernel⟩ rfl (gw (ao 0)) (λC s H ex=>(cg 0 (show List.Nodup (["part", "many"]:List Str) by decide +kernel))) (λC s H ex=>(jl abK hr (aC (ao 0) (aC (iW 1) aM))))) aM))))),λt hK hx=>by delta RN; walk_at "t"⟩)
theorem abL(a:At K mg "are_rising" Cz) (M:Nm mg):aV P w K mg base 1 "are_rising" (["parts"]:List Str) (bA K cl 1 yx):=by
 have S:=fS (["parts"]:List Str) (["parts"]:List Str) (bx Cz)
 exact a.eG S (cl:=cl) (by decide) (by walk_at "1") (λf cdv A outer s H E hr=>⟨_,(bC (cA (dD (uZ rfl) M.vQ (aC (mF (sc:=bx Cz) (No:=(["parts"]:List Str)) (N:=(["one", "other"]:List Str)) (src:=[none,none]) (g:=(uL K 2 (pq (cU 0) (pq (cU 1) uK)))) rfl rfl ⟨by rfl,by decide +kernel,by decide +kernel,by decide +kernel,by rfl,by decide +kernel⟩ rfl (XH M.abq (aC (ao 0) (aC (uR vd (ao 0) (uQ aU) uP) aM))) (λC s H ex=>(jY rfl (fC (cg 0 (show List.Nodup (["one", "other"]:List Str) by decide +kernel)) (fC (cg 1 (show List.Nodup (["one", "other"]:List Str) by decide +kernel)) jX)))) (λC s H ex=>(pF (xu hr.units) (ao 0) (ao 1) (fP _)))) aM)))),λt hK hx=>by delta RL; walk_at "t"⟩)
theorem abM(a:At K mg "are_worths" Cy) (M:Nm mg) (XT:kO K) (abN:aV P w K mg base 3 "is_worth" (["thing"]:List Str) (bA K cl 1 qw)):aV P w K mg base 4 "are_worths" (["thing", "most"]:List Str) (bA K cl 2 uf):=by
 have S:=fS (["thing", "most"]:List Str) (["thing", "most"]:List Str) (bx Cy)
 exact a.eG S (cl:=cl) (by decide) (by walk_at "2") (λf cdv A outer s H E hr=>⟨_,(aW (gh (PW.pt (lA (gR (jf (kj XT.o .list (ao 0) M.kY M.oU) (by intro _; rfl))) (lX (gR (MP pC pC aU (dD gq M.gA (aC (ao 0) aM)) (ao 1)))))) (bC (cA jL)) f9) (bC (cA (dD (uZ rfl) M.vQ (aC (mF (sc:=bx Cy) (No:=(["thing", "most"]:List Str)) (N:=(["part"]:List Str)) (src:=[none]) (g:=(cU 0)) rfl rfl ⟨by rfl,by decide +kernel,by decide +kernel,by decide +kernel,by rfl,by decide +kernel⟩ rfl (gw (ao 0)) (λC s H ex=>(cg 0 (show List.Nodup (["part"]:List Str) by decide +kernel))) (λC s H ex=>(jl abN hr (aC (ao 0) aM)))) aM))))),λt hK hx=>by delta IV; walk_at "t"⟩)
theorem abO(a:At K mg "common_bottom" Jz) (M:Nm mg) (J5:aV P w K mg base 1 "common_divisor" (["one", "other"]:List Str) (bA K cl 2 ud)):aV P w K mg base 2 "common_bottom" (["fractions"]:List Str) (bA K cl 1 yw):=by
 have S:=fS (["fractions", "bottom", "top", "own"]:List Str) (["fractions"]:List Str) (bx Jz)
 exact a.eG S (cl:=cl) (by decide) (by walk_at "1") (λf cdv A outer s H E hr=>⟨_,(aW (cG 1 S.nd aU) (aW (PS.jd (iI PassesOwn.never rfl (gw (ao 0)) (jY rfl (fC (cg 2 S.nd) (fC (cg 3 S.nd) jX))) (bC (cG 1 S.nd (bK mO (bK lE (ao 1) (ao 3)) (jl J5 hr (aC (ao 1) (aC (ao 3) aM)))))))) (bC (cA (ao 1))))),λt hK hx=>by delta Rz; walk_at "t"⟩)
theorem abP(a:At K mg "common_divisor" Jx) (M:Nm mg):aV P w K mg base 1 "common_divisor" (["one", "other"]:List Str) (bA K cl 2 ud):=by
 have S:=fS (["one", "other"]:List Str) (["one", "other"]:List Str) (bx Jx)
 exact a.eG S (cl:=cl) (by decide) (by walk_at "2") (λf cdv A outer s H E hr=>⟨_,(aW (PS.jd (Ms PassesOwn.never (gU (qX hr.units) (ao 1) aU (fP _)) (bC (Ek (i:=0) (j:=1) rfl S.nd rfl rfl (by decide) rfl rfl (aC (ao 1) (aC (bK jB (ao 0) (ao 1)) aM)) rfl)))) (bC (cA (dD EY M.JV (aC (ao 0) aM))))),λt hK hx=>by delta Rw; walk_at "t"⟩)
theorem abQ(a:At K mg "count_of" CQ) (M:Nm mg) (yJ:aV P w K mg base 6 "need_book" (["book"]:List Str) (bA K cl 1 mZ)) (yK:aV P w K mg base 5 "need_looks" (["book", "looks"]:List Str) (bA K cl 2 oR)) (yL:aV P w K mg base 5 "read_orders" (["book"]:List Str) (bA K cl 1 oO)):aV P w K mg base 7 "count_of" (["book", "looks"]:List Str) (bA K cl 2 vR):=by
 have S:=fS (["book", "looks", "depths", "asked", "orders", "unread"]:List Str) (["book", "looks"]:List Str) (bx CQ)
 exact a.eG S (cl:=cl) (by decide) (by walk_at "2") (λf cdv A outer s H E hr=>⟨_,(aW (psE (pc1 (E:=E) yJ hr dG (aC (ao 0) aM))) (aW (psE (pc1 (E:=E) yK hr dG (aC (ao 0) (aC (ao 1) aM)))) (aW (qH (ao 1) (jY rfl (fC (Qu 2 S.nd rfl) (fC (cg 3 S.nd) jX)))) (aW (HX 4 S.nd rfl (pc1 (E:=E) yL hr dG (aC (ao 0) aM))) (aW (Zg (i:=5) (sc:=bx CQ) (No:=(["book", "looks", "depths", "asked", "orders", "unread"]:List Str)) (N:=(["place", "thing", "orders", "depths"]:List Str)) (src:=[none,none,some 4,some 2]) (g:=(uL K 2 (pq (cU 0) (pq (cU 1) uK)))) S.nd rfl (Or.inl rfl) rfl rfl ⟨by rfl,by decide +kernel,by decide +kernel,by decide +kernel,by rfl,by decide +kernel⟩ rfl (gw (ao 3)) (λC s H ex=>(jY rfl (fC (cg 0 (show List.Nodup (["place", "thing", "orders", "depths"]:List Str) by decide +kernel)) (fC (cg 1 (show List.Nodup (["place", "thing", "orders", "depths"]:List Str) by decide +kernel)) jX)))) (λC s H ex=>(gU (O5 hr.units) (ao 1) (uR vd (uT uU (iW 2) (ao 0) (λ_ _=>rfl)) uP (uQ (uT uU (iW 3) (ao 0) (λ_ _=>rfl)))) (by with_unfolding_all rfl))) (λC s H ex=>(ao 1))) (bC (cA (qJ (aC (dD (R8 rfl) M.Sx (aC (iW 2) aM)) (aC (dD gq M.gA (aC (ao 5) aM)) aM)))))))))),λt hK hx=>by delta SM; walk_at "t"⟩)
theorem abR{c_ P_:Addr}(a:uc K mg "falling_places" Cw c_) (L:Cd K mg base "falling_places" c_ P_) (M:Nm mg) (abS:aV P w K mg base 3 "tops_on_one_bottom" (["fractions"]:List Str) (bA K cl 1 Ci)):aV P w K mg base 4 "falling_places" (["fractions"]:List Str) (bA K cl 1 oN):=by
 have S:=fS (["fractions", "tops"]:List Str) (["fractions"]:List Str) (bx Cw)
 exact a.aaH S (cl:=cl) (by decide) (by walk_at "1") (λf A outer s H E hr=>⟨_,(aW (HX 1 S.nd rfl (pc1 (E:=E) abS hr dG (aC (ao 0) aM))) (bC (cA (aax (sc:=bx Cw) (No:=(["fractions", "tops"]:List Str)) (x := "place") (Ns:=(["tops"]:List Str)) (src:=[some 1]) aaz (λ_ h=>h) aaA hr M.abp M.oV rfl rfl ⟨⟨by rfl,by decide +kernel,by decide +kernel,by decide +kernel,by rfl,by decide +kernel⟩,by decide +kernel,by rfl,by rfl,by rfl⟩ rfl L.hd L.bm rfl (aC (dD gq M.gA (aC (iW 1) aM)) aM) (λ_ _ _ _=>by kernel_rfl) (λA f cd s H=>(Mz MK (bV (Z7 1) (ao 0)))))))),λt hK hx=>(fL (lH (j9 hK hx (cO gK) (bD (aP 0) bU)) (cQ 1) cY) (j6 (aaJ L hK (bD (x_len hK (bD (aP 1) bU)) bU) (aaC Yn (aaB Ph (Q8 1) (Q8 0))))))⟩)
theorem abT(a:At K mg "is_ask" JG) (M:Nm mg) (XT:kO K) (SX:aV P w K mg base 2 "is_place" (["thing", "many"]:List Str) (bA K cl 2 ug)):aV P w K mg base 3 "is_ask" (["thing", "lists", "many"]:List Str) (bA K cl 3 um):=by
 have S:=fS (["thing", "lists", "many"]:List Str) (["thing", "lists", "many"]:List Str) (bx JG)
 exact a.eG S (cl:=cl) (by decide) (by walk_at "3") (λf cdv A outer s H E hr=>⟨_,(aW (gh (PW.pt (lA (gR (jf (kj XT.o .tuple (ao 0) M.kY M.Dc) (by intro _; rfl))) (lX (gU (qX hr.units) (dD gq M.gA (aC (ao 0) aM)) aU (fP _))))) (bC (cA jL)) f9) (bC (cA (uJ (pc1 (E:=E) SX hr dG (aC (bV (ao 0) aU) (aC (ao 1) aM))) (sE (pc1 (E:=E) SX hr dG (aC (bV (ao 0) aU) (aC (ao 2) aM)))))))),λt hK hx=>by delta Jd; walk_at "t"⟩)
theorem abU(a:At K mg "is_book" yF) (M:Nm mg) {J6:V} (Dd:Gk K mg "MOST_LISTS" J6 (.int 4)) {J7:V} (Df:Gk K mg "MOST_THINGS" J7 (.int 12)) (XT:kO K) (abV:aV P w K mg base 4 "are_worths" (["thing", "most"]:List Str) (bA K cl 2 uf)):aV P w K mg base 5 "is_book" (["thing"]:List Str) (bA K cl 1 yu):=by
 have S:=fS (["thing"]:List Str) (["thing"]:List Str) (bx yF)
 exact a.eG S (cl:=cl) (by decide) (by walk_at "1") (λf cdv A outer s H E hr=>⟨_,(aW (gh (PW.pt (lA (gR (jf (kj XT.o .list (iW 0) M.kY M.oU) (by intro _; rfl))) (lX (gR (MP pC pC aU (dD gq M.gA (aC (iW 0) aM)) (Qw Dd)))))) (bC (cA jL)) f9) (aW (gh (gR (jf (dD (uZ rfl) M.vQ (aC (mF (sc:=bx yF) (No:=(["thing"]:List Str)) (N:=(["row"]:List Str)) (src:=[none]) (g:=(cU 0)) rfl rfl ⟨by rfl,by decide +kernel,by decide +kernel,by decide +kernel,by rfl,by decide +kernel⟩ rfl (gw (iW 0)) (λC s H ex=>(cg 0 (show List.Nodup (["row"]:List Str) by decide +kernel))) (λC s H ex=>(jl abV hr (aC (ao 0) (aC (Qw Df) aM))))) aM)) (by intro _; rfl))) (bC (cA jL)) f9) (bC (cA (dD (uZ rfl) M.vQ (aC (mF (sc:=bx yF) (No:=(["thing"]:List Str)) (N:=(["row", "thing"]:List Str)) (src:=[none,some 0]) (g:=(cU 0)) rfl rfl ⟨by rfl,by decide +kernel,by decide +kernel,by decide +kernel,by rfl,by decide +kernel⟩ rfl (gw (iW 0)) (λC s H ex=>(cg 0 (show List.Nodup (["row", "thing"]:List Str) by decide +kernel))) (λC s H ex=>(pF (sW hr.units) (dD gq M.gA (aC (ao 0) aM)) (dD gq M.gA (aC (uT uU (iW 1) aU (λ_ _=>rfl)) aM)) (fP _)))) aM)))))),λt hK hx=>(fL (nU (sZ (lF (mU hK (tD hK .list (aP 0)))) (lF (mR (Qn hK GC GC HB HB (fD _) (x_len hK (bD (aP 0) bU)) (Qi hK Dd))))) (j6 (qW _)) nQ) (fL (nU (lF (mU hK (HF hK (bD (xU (jT hK (aP 0)) (mY (by decide)) (oG (js:=[0]) (by decide)) cY (λt1 h1 k1=>(cQ 0)) (λt1 h1 k1=>(tL (h1.trans hK) k1 (cO (cO gK)) (bD (aP 0) (bD (Qi (h1.trans hK) Df) bU))))) bU)))) (j6 (qW _)) nQ) (j6 (HF hK (bD (xU (jT hK (aP 0)) (mY (by decide)) (oG (js:=[0]) (by decide)) cY (λt2 h2 k2=>(cQ 0)) (λt2 h2 k2=>(x_eq (h2.trans hK) (x_len (h2.trans hK) (bD (aP 0) bU)) (x_len (h2.trans hK) (bD (dX (h2.trans hK) (aP 1) (fD _)) bU))))) bU)))))⟩)
theorem abW(a:At K mg "is_count" JD) (M:Nm mg) (vY:aV P w K mg base 1 "is_whole" (["thing"]:List Str) (bA K cl 1 qu)):aV P w K mg base 2 "is_count" (["thing", "many"]:List Str) (bA K cl 2 uh):=by
 have S:=fS (["thing", "many"]:List Str) (["thing", "many"]:List Str) (bx JD)
 exact a.eG S (cl:=cl) (by decide) (by walk_at "2") (λf cdv A outer s H E hr=>⟨_,(bC (cA (uJ (pc1 (E:=E) vY hr dG (aC (ao 0) aM)) (sE (Ez pC pC aU (ao 0) (ao 1)))))),λt hK hx=>by delta Jc; walk_at "t"⟩)
theorem abX(a:At K mg "is_fraction" Jy) (M:Nm mg) (XT:kO K) (vY:aV P w K mg base 1 "is_whole" (["thing"]:List Str) (bA K cl 1 qu)) (J5:aV P w K mg base 1 "common_divisor" (["one", "other"]:List Str) (bA K cl 2 ud)):aV P w K mg base 2 "is_fraction" (["thing"]:List Str) (bA K cl 1 yt):=by
 have S:=fS (["thing", "top", "bottom"]:List Str) (["thing"]:List Str) (bx Jy)
 exact a.eG S (cl:=cl) (by decide) (by walk_at "1") (λf cdv A outer s H E hr=>⟨_,(aW (gh (PW.pt (lA (gR (jf (kj XT.o .tuple (ao 0) M.kY M.Dc) (by intro _; rfl))) (lX (gU (qX hr.units) (dD gq M.gA (aC (ao 0) aM)) aU (fP _))))) (bC (cA jL)) f9) (aW (qH (ao 0) (jY rfl (fC (cg 1 S.nd) (fC (cg 2 S.nd) jX)))) (aW (gh (PW.pt (lA (gR (jf (pc1 (E:=E) vY hr dG (aC (ao 1) aM)) (by intro _; rfl))) (lX (gR (jf (pc1 (E:=E) vY hr dG (aC (ao 2) aM)) (by intro _; rfl)))))) (bC (cA jL)) f9) (bC (cA (uJ (pF MN (ao 2) aU (fP _)) (sE (pF (sW hr.units) (pc1 (E:=E) J5 hr dG (aC (ao 1) (aC (ao 2) aM))) aU (fP _))))))))),λt hK hx=>by delta Iz; walk_at "t"⟩)
theorem abY(a:At K mg "is_place" JC) (M:Nm mg) (vY:aV P w K mg base 1 "is_whole" (["thing"]:List Str) (bA K cl 1 qu)):aV P w K mg base 2 "is_place" (["thing", "many"]:List Str) (bA K cl 2 ug):=by
 have S:=fS (["thing", "many"]:List Str) (["thing", "many"]:List Str) (bx JC)
 exact a.eG S (cl:=cl) (by decide) (by walk_at "2") (λf cdv A outer s H E hr=>⟨_,(bC (cA (uJ (pc1 (E:=E) vY hr dG (aC (ao 0) aM)) (sE (Ez pC (xu hr.units) aU (ao 0) (ao 1)))))),λt hK hx=>by delta IW; walk_at "t"⟩)
theorem abZ(a:At K mg "is_whole" Jw) (M:Nm mg) (XT:kO K):aV P w K mg base 1 "is_whole" (["thing"]:List Str) (bA K cl 1 qu):=by
 have S:=fS (["thing"]:List Str) (["thing"]:List Str) (bx Jw)
 exact a.eG S (cl:=cl) (by decide) (by walk_at "1") (λf cdv A outer s H E hr=>⟨_,(bC (cA (uJ (kj XT.o .int (ao 0) M.kY M.JW) (sE (Vw (kj XT.o .bool (ao 0) M.kY M.Sv)))))),λt hK hx=>by delta Rx; walk_at "t"⟩)
theorem ab0(a:At K mg "is_worth" JB) (M:Nm mg) (ab1:aV P w K mg base 2 "is_fraction" (["thing"]:List Str) (bA K cl 1 yt)):aV P w K mg base 3 "is_worth" (["thing"]:List Str) (bA K cl 1 qw):=by
 have S:=fS (["thing"]:List Str) (["thing"]:List Str) (bx JB)
 exact a.eG S (cl:=cl) (by decide) (by walk_at "1") (λf cdv A outer s H E hr=>⟨_,(bC (cA (uJ (pc1 (E:=E) ab1 hr dG (aC (ao 0) aM)) (sE (Ez pC pC aU (bV (ao 0) aU) (bV (ao 0) aU)))))),λt hK hx=>by delta IK; walk_at "t"⟩)
theorem ab2(a:At K mg "law" yG) (M:Nm mg) (XT:kO K) (ab3:aV P w K mg base 2 "_law_book" (["_law_script", "_law_at", "_law_lists", "_law_most"]:List Str) (bA K cl 4 ux)) (ab4:aV P w K mg base 2 "_law_looks" (["_law_script", "_law_at", "_law_book_here"]:List Str) (bA K cl 3 uy)) (S5:aV P w K mg base 3 "_law_seen" (["_law_book_here", "_law_looks_here"]:List Str) (bA K cl 2 rW)) (ab5:aV P w K mg base 1 "_law_copied" (["_law_book_here"]:List Str) (bA K cl 1 yI)) (ab6:aV P w K mg base 7 "seen_worths" (["book", "looks"]:List Str) (bA K cl 2 vK)) (ab7:aV P w K mg base 7 "count_of" (["book", "looks"]:List Str) (bA K cl 2 vR)) (J4:aV P w K mg base 2 "_law_order" (["_law_worths"]:List Str) (bA K cl 1 m8)) (ab8:aV P w K mg base 1 "_law_copied" (["_law_book_here"]:List Str) (m7 K cl 1 vW)) (ab9:aV P w K mg base 7 "seen_worths" (["book", "looks"]:List Str) (m7 K cl 2 uw)):aV P w K mg base 8 "law" (["_law_script"]:List Str) (bA K cl 1 vX):=by
 have S:=fS (["_law_script", "_law_book_here", "_law_looks_here", "_law_due", "_law_handed", "_law_unread", "_law_k", "_law_thing", "_law_lines", "_law_turn", "_law_found", "_law_told", "_law_row"]:List Str) (["_law_script"]:List Str) (bx yG)
 exact a.eG S (cl:=cl) (by decide) (by walk_at "1") (λf cdv A outer s H E hr=>⟨_,(aW (cG 1 S.nd (pc1 (E:=E) ab3 hr dG (aC (ao 0) (aC aU (aC aU (aC aU aM)))))) (aW (cG 2 S.nd (pc1 (E:=E) ab4 hr dG (aC (ao 0) (aC aU (aC (ao 1) aM))))) (aW (cG 3 S.nd (pc1 (E:=E) S5 hr dG (aC (ao 1) (aC (ao 2) aM)))) (aW (cG 4 S.nd (jZ (jr (pc1 (E:=E) ab8 hr dG (aC (ao 1) aM)) (jr (qJ (aC (vp zV M.oU (aC (bV (ao 2) aU) aM)) (aC (vp zV M.oU (aC (bV (ao 2) aU) aM)) aM))) aM)))) (aW (cG 5 S.nd aU) (aW (PS.jd (iI PassesOwn.never rfl (gw (bV (ao 2) aU)) (jY rfl (fC (cg 6 S.nd) (fC (cg 7 S.nd) jX))) (aW (cG 8 S.nd (uR vd (jl J4 hr (aC (bV (ao 1) (ao 6)) aM)) uP (uQ (bV (bV (ao 2) aU) (ao 6))))) (bC (cG 5 S.nd (bK ji (ao 5) (vp M5 M.JW (aC (pF (O5 hr.units) (ao 7) (ao 8) (by with_unfolding_all rfl)) aM)))))))) (aW (PS.jd (iI PassesOwn.never rfl (p7 M.oV (aC aU aM)) (cg 9 S.nd) (aW (cG 10 S.nd (jl ab9 hr (aC (bV (ao 4) aU) (aC (bV (ao 4) aU) aM)))) (aW (cG 11 S.nd (jl ab7 hr (aC (bV (ao 4) aU) (aC (bV (ao 4) aU) aM)))) (aW (gh (PW.pt (lA (gR (jf (kj XT.o .list (ao 10) M.kY M.oU) (by intro _; rfl))) (lA (gU (qX hr.units) (ao 10) (ao 3) (fP _)) (lX (gU (qX hr.units) (ao 4) (jZ (aC (ao 1) (aC (ao 2) aM))) (fP _)))))) (bC (cA jL)) f9) (aW (gh (PW.pt (lA (gR (jf (kj XT.o .tuple (ao 11) M.kY M.Dc) (by intro _; rfl))) (lX (gU (qX hr.units) (ao 11) (qJ (aC (dD (R8 rfl) M.Sx (aC (bV (ao 2) aU) aM)) (aC (ao 5) aM))) (fP _))))) (bC (cA jL)) f9) (aW (gh (gU (Gd hr.units) jL (mF (sc:=bx yG) (No:=(["_law_script", "_law_book_here", "_law_looks_here", "_law_due", "_law_handed", "_law_unread", "_law_k", "_law_thing", "_law_lines", "_law_turn", "_law_found", "_law_told", "_law_row"]:List Str)) (N:=(["_law_one"]:List Str)) (src:=[none]) (g:=(cU 0)) rfl rfl ⟨by rfl,by decide +kernel,by decide +kernel,by decide +kernel,by rfl,by decide +kernel⟩ rfl (gw (ao 11)) (λC s H ex=>(cg 0 (show List.Nodup (["_law_one"]:List Str) by decide +kernel))) (λC s H ex=>(kj XT.o .bool (ao 0) M.kY M.Sv))) (by with_unfolding_all rfl)) (bC (cA jL)) f9) (aW (gh (gU Ew (dD gq M.gA (aC (Qa (sc:=bx yG) (No:=(["_law_script", "_law_book_here", "_law_looks_here", "_law_due", "_law_handed", "_law_unread", "_law_k", "_law_thing", "_law_lines", "_law_turn", "_law_found", "_law_told", "_law_row"]:List Str)) (N:=(["_law_row"]:List Str)) (src:=[none]) (g:=(cU 0)) rfl rfl ⟨by rfl,by decide +kernel,by decide +kernel,by decide +kernel,by rfl,by decide +kernel⟩ rfl (gw (ao 10)) (λC s H ex=>(cg 0 (show List.Nodup (["_law_row"]:List Str) by decide +kernel))) (λC s H ex=>(gR (Qt (K:=K) (kj XT.o .list (ao 0) M.kY M.oU) rfl (by intro _; rfl)))) (λC s H ex=>(ao 0))) aM)) aU (fP _)) (bC (cA jL)) f9) (aW (psE (N8 PySem.F.plainAttrs_list PySem.F.slot_list_clear PySem.F.type_list_clear W7 (bV (ao 10) aU))) (bC (psE (qN PySem.F.plainAttrs_list PySem.F.slot_list_append PySem.F.type_list_append pI (ao 10) (jr (jZ aM) aM))))))))))))) (aW (PS.jd (iI PassesOwn.never rfl (gw (bV (ao 4) aU)) (cg 12 S.nd) (bC (psE (N8 PySem.F.plainAttrs_list PySem.F.slot_list_reverse PySem.F.type_list_reverse W6 (ao 12)))))) (bC (cA (pF (sW hr.units) (pc1 (E:=E) ab6 hr dG (aC (bV (ao 4) aU) (aC (bV (ao 4) aU) aM))) (pc1 (E:=E) S5 hr dG (aC (pc1 (E:=E) ab5 hr dG (aC (bV (ao 4) aU) aM)) (aC (ao 2) aM))) (fP _)))))))))))),λt hK hx=>(fL (lH (j9 hK hx (cO (cO (cO (cO gK)))) (bD (aP 0) (bD (fD _) (bD (fD _) (bD (fD _) bU))))) (cQ 1) cY) (fL (lH (j9 hK hx (cO (cO (cO gK))) (bD (aP 0) (bD (fD _) (bD (aP 1) bU)))) (cQ 2) cY) (fL (lH (j9 hK hx (cO (cO gK)) (bD (aP 1) (bD (aP 2) bU))) (cQ 3) cY) (abo (abl (cl:=cl) hK 4 12 [5,6,7,8,9,10,11,12] (by decide) (by decide) hx (cO gK) (bD (aP 1) bU) (λt1 h1 k1=>(GK (bD (Bu (h1.trans hK) (bD (dX (h1.trans hK) (aP 2) (fD _)) bU)) (bD (Bu (h1.trans hK) (bD (dX (h1.trans hK) (aP 2) (fD _)) bU)) bU)))) (fL (lH (fD _) (cQ 5) cY) (fL (rJ (λt2 h2 k2=>(nZ (jT (h2.trans hK) (dX (h2.trans hK) (aP 2) (fD _))) (rD (h2.trans hK) (jy (cQ 6) (jy (cQ 7) rz))) (rM (jH cY (jH cY rK))) (fL (lH (Ba (h2.trans hK) (tL (h2.trans hK) k2 (cO gK) (bD (dX (h2.trans hK) (aP 1) (aP 6)) bU)) Ay (Az (dX (h2.trans hK) (dX (h2.trans hK) (aP 2) (fD _)) (aP 6)))) (cQ 8) cY) (lH (Qj (h2.trans hK) (aP 5) (Qo (h2.trans hK) (bD (Ql (h2.trans hK) (aP 7) (aP 8)) bU))) (cQ 5) cY))))) (rJ (λt3 h3 k3=>(nZ (G9 (bD (fD _) bU)) (cQ 9) cY (fL (R7 (cl:=cl) (h3.trans hK) 10 (λc _ _ z=>(k3 c z).elim) (cO (cO gK)) (bD (dX (h3.trans hK) (aP 4) (fD _)) (bD (dX (h3.trans hK) (aP 4) (fD _)) bU))) (fL (lH (tL (h3.trans hK) k3 (cO (cO gK)) (bD (dX (h3.trans hK) (aP 4) (fD _)) (bD (dX (h3.trans hK) (aP 4) (fD _)) bU))) (cQ 11) cY) (fL (nU (R3 (λt4 h4 k4=>(sZ (lF (mU (h4.trans (h3.trans hK)) (tD (h4.trans (h3.trans hK)) .list (aP 10)))) (sZ (mR (xW (h4.trans (h3.trans hK)) (aP 10) (aP 3))) (mR (xW (h4.trans (h3.trans hK)) (aP 4) (GJ (bD (aP 1) (bD (aP 2) bU))))))))) (j6 (qW _)) nQ) (fL (nU (sZ (lF (mU (h3.trans hK) (tD (h3.trans hK) .tuple (aP 11)))) (mR (xW (h3.trans hK) (aP 11) (GK (bD (R9 (h3.trans hK) (bD (dX (h3.trans hK) (aP 2) (fD _)) bU)) (bD (aP 5) bU)))))) (j6 (qW _)) nQ) (fL (nU (mR (Qk (h3.trans hK) (qW _) (xU (jT (h3.trans hK) (aP 11)) (mY (by decide)) (oG (js:=[0]) (by decide)) cY (λt5 h5 k5=>(cQ 0)) (λt5 h5 k5=>(tD (h5.trans (h3.trans hK)) .bool (aP 0)))))) (j6 (qW _)) nQ) (fL (nU (R3 (λt6 h6 k6=>(mR (Qm (h6.trans (h3.trans hK)) (x_len (h6.trans (h3.trans hK)) (bD (Hw (jT (h6.trans (h3.trans hK)) (aP 10)) (mY (by decide)) (oG (js:=[0]) (by decide)) cY (λt7 h7 k7=>(cQ 0)) (λt7 h7 k7=>(lF (mU (h7.trans (h6.trans (h3.trans hK))) (tD (h7.trans (h6.trans (h3.trans hK))) .list (aP 0))))) (λt7 h7 k7=>(aP 0))) bU)) (fD _))))) (j6 (qW _)) nQ) (abn (h3.trans hK) 10)))))))))))) (by repeat first|exact L2.aa7 _|exact L2.aa6|exact L2.abf|exact L2.abe (by decide)|refine L2.abd ?_ ?_|refine L2.aa9 _ ?_|exact L2.aa8 _|refine L2.abb _ ?_ ?_|refine L2.abj _ ?_ ?_|refine L2.abh _ _ ?_|refine L2.abg ?_ ?_) (j6 (x_eq hK (j9 hK hx (cO (cO gK)) (bD (dX hK (aP 4) (fD _)) (bD (dX hK (aP 4) (fD _)) bU))) (j9 hK hx (cO (cO gK)) (bD (j9 hK hx (cO gK) (bD (dX hK (aP 4) (fD _)) bU)) (bD (aP 2) bU))))))))))⟩)
theorem acd(a:At K mg "need_book" JF) (M:Nm mg) (Dg:PyProof.Rows.OwnCls "NoBook" (cl "NoBook") Bv "ValueError.__new__" mg base) (ace:aV P w K mg base 5 "is_book" (["thing"]:List Str) (bA K cl 1 yu)):aV P w K mg base 6 "need_book" (["book"]:List Str) (bA K cl 1 mZ):=by
 have S:=fS (["book"]:List Str) (["book"]:List Str) (bx JF)
 exact a.eG S (cl:=cl) (by decide) (by walk_at "1") (λf cdv A outer s H E hr=>⟨_,(bC (gh (gR (jf (pc1 (E:=E) ace hr dG (aC (ao 0) aM)) (by intro _; rfl))) (bC (Gh Gg Dg PySem.F.excBase_ValueError rfl zG)) f9)),λt hK hx=>(nU (lF (mU hK (j9 hK hx (cO gK) (bD (aP 0) bU)))) (Hi (λH'=>hx "NoBook" H') (Gs _)) nQ)⟩)
theorem acf(a:At K mg "need_looks" JH) (M:Nm mg) (yM:PyProof.Rows.OwnCls "NoLooks" (cl "NoLooks") Bv "ValueError.__new__" mg base) (XT:kO K) (acg:aV P w K mg base 3 "are_depths" (["thing", "lists", "many"]:List Str) (bA K cl 3 Cj)) (ach:aV P w K mg base 4 "are_asked" (["thing", "lists", "many"]:List Str) (bA K cl 3 Ck)):aV P w K mg base 5 "need_looks" (["book", "looks"]:List Str) (bA K cl 2 oR):=by
 have S:=fS (["book", "looks", "lists", "many"]:List Str) (["book", "looks"]:List Str) (bx JH)
 exact a.eG S (cl:=cl) (by decide) (by walk_at "2") (λf cdv A outer s H E hr=>⟨_,(aW (Ek (i:=2) (j:=3) rfl S.nd rfl rfl (by decide) rfl rfl (aC (dD gq M.gA (aC (ao 0) aM)) (aC (dD gq M.gA (aC (bV (ao 0) aU) aM)) aM)) rfl) (aW (gh (PW.pt (lA (gR (jf (kj XT.o .tuple (ao 1) M.kY M.Dc) (by intro _; rfl))) (lX (gU (qX hr.units) (dD gq M.gA (aC (ao 1) aM)) aU (fP _))))) (bC (Gh Gg yM PySem.F.excBase_ValueError rfl zG)) f9) (bC (gh (PW.pt (lA (gR (jf (pc1 (E:=E) acg hr dG (aC (bV (ao 1) aU) (aC (ao 2) (aC (ao 3) aM)))) (by intro _; rfl))) (lX (gR (jf (pc1 (E:=E) ach hr dG (aC (bV (ao 1) aU) (aC (ao 2) (aC (ao 3) aM)))) (by intro _; rfl)))))) (bC (Gh Gg yM PySem.F.excBase_ValueError rfl zG)) f9)))),λt hK hx=>(fL (PK 2 3 (bD (x_len hK (bD (aP 0) bU)) (bD (x_len hK (bD (dX hK (aP 0) (fD _)) bU)) bU))) (fL (nU (sZ (lF (mU hK (tD hK .tuple (aP 1)))) (mR (xW hK (x_len hK (bD (aP 1) bU)) (fD _)))) (Hi (λH'=>hx "NoLooks" H') (Gs _)) nQ) (nU (sZ (lF (mU hK (j9 hK hx (cO (cO (cO gK))) (bD (dX hK (aP 1) (fD _)) (bD (aP 2) (bD (aP 3) bU)))))) (lF (mU hK (j9 hK hx (cO (cO (cO gK))) (bD (dX hK (aP 1) (fD _)) (bD (aP 2) (bD (aP 3) bU))))))) (Hi (λH'=>hx "NoLooks" H') (Gs _)) nQ)))⟩)
theorem aci(a:At K mg "read_orders" CG) (M:Nm mg) (acj:aV P w K mg base 4 "falling_places" (["fractions"]:List Str) (bA K cl 1 oN)):aV P w K mg base 5 "read_orders" (["book"]:List Str) (bA K cl 1 oO):=by
 have S:=fS (["book"]:List Str) (["book"]:List Str) (bx CG)
 exact a.eG S (cl:=cl) (by decide) (by walk_at "1") (λf cdv A outer s H E hr=>⟨_,(bC (cA (mF (sc:=bx CG) (No:=(["book"]:List Str)) (N:=(["row"]:List Str)) (src:=[none]) (g:=(cU 0)) rfl rfl ⟨by rfl,by decide +kernel,by decide +kernel,by decide +kernel,by rfl,by decide +kernel⟩ rfl (gw (ao 0)) (λC s H ex=>(cg 0 (show List.Nodup (["row"]:List Str) by decide +kernel))) (λC s H ex=>(jl acj hr (aC (ao 0) aM)))))),λt hK hx=>by delta RM; walk_at "t"⟩)
theorem acn(a:At K mg "seen_by" CN) (M:Nm mg) (yL:aV P w K mg base 5 "read_orders" (["book"]:List Str) (bA K cl 1 oO)):aV P w K mg base 6 "seen_by" (["book", "looks"]:List Str) (bA K cl 2 vJ):=by
 have S:=fS (["book", "looks", "depths", "asked", "seen", "place", "order", "thing"]:List Str) (["book", "looks"]:List Str) (bx CN)
 exact a.eG S (cl:=cl) (by decide) (by walk_at "2") (λf cdv A outer s H E hr=>⟨_,(aW (qH (ao 1) (jY rfl (fC (cg 2 S.nd) (fC (cg 3 S.nd) jX)))) (aW (FJ (i:=4) (sc:=bx CN) (No:=(["book", "looks", "depths", "asked", "seen", "place", "order", "thing"]:List Str)) (N:=(["row"]:List Str)) (src:=[none]) (g:=(cU 0)) S.nd rfl (Or.inl rfl) rfl rfl ⟨by rfl,by decide +kernel,by decide +kernel,by decide +kernel,by rfl,by decide +kernel⟩ rfl (gw (ao 0)) (λC s H ex=>(cg 0 (show List.Nodup (["row"]:List Str) by decide +kernel))) (λC s H ex=>(bK lE (HN (G:=aB K) (Ts:=[.non]) (by kernel_rfl)) (dD gq M.gA (aC (ao 0) aM))))) (aW (PS.jd (iI PassesOwn.never rfl (Rn M.Sw (aC (jl yL hr (aC (ao 0) aM)) aM)) (jY rfl (fC (cg 5 S.nd) (fC (cg 6 S.nd) jX))) (bC (iI PassesOwn.never rfl (gw (uR vd (ao 6) uP (uQ (bV (ao 2) (ao 5))))) (cg 7 S.nd) (bC (qH (bV (bV (ao 0) (ao 5)) (ao 7)) (zJ (bV (ao 4) (ao 5)) (ao 7) set_list))))))) (aW (PS.jd (iI PassesOwn.never rfl (gw (ao 3)) (jY rfl (fC (cg 5 S.nd) (fC (cg 7 S.nd) jX))) (bC (qH (bV (bV (ao 0) (ao 5)) (ao 7)) (zJ (bV (ao 4) (ao 5)) (ao 7) set_list))))) (bC (cA (ao 4))))))),λt hK hx=>(fL (lH (aP 1) (rD hK (jy (cQ 2) (jy (cQ 3) rz))) (rM (jH cY (jH cY rK)))) (fL (Ig 4 (jT hK (aP 0)) (mY (by decide)) (oG (js:=[0]) (by decide)) cY (λt1 h1 k1=>(cQ 0)) (λt1 h1 k1=>(HD (h1.trans hK) (HS (h1.trans hK)) (x_len (h1.trans hK) (bD (aP 0) bU))))) (fL (rJ (λt2 h2 k2=>(nZ (Ro (h2.trans hK) (bD (tL (h2.trans hK) k2 (cO gK) (bD (aP 0) bU)) bU)) (rD (h2.trans hK) (jy (cQ 5) (jy (cQ 6) rz))) (rM (jH cY (jH cY rK))) (nZ (jT (h2.trans hK) (Ba (h2.trans hK) (aP 6) Ay (Az (dX (h2.trans hK) (aP 2) (aP 5))))) (cQ 7) cY (BJ (h2.trans hK) 4 (dX (h2.trans hK) (dX (h2.trans hK) (aP 0) (aP 5)) (aP 7)) (rO 5) (rO 7)))))) (fL (rJ (λt3 h3 k3=>(nZ (jT (h3.trans hK) (aP 3)) (rD (h3.trans hK) (jy (cQ 5) (jy (cQ 7) rz))) (rM (jH cY (jH cY rK))) (BJ (h3.trans hK) 4 (dX (h3.trans hK) (dX (h3.trans hK) (aP 0) (aP 5)) (aP 7)) (rO 5) (rO 7))))) (aad 4 (j6 (aP 4)))))))⟩)
theorem aco(a:At K mg "seen_by" CP) (M:Nm mg) (yL:aV P w K mg base 5 "read_orders" (["book"]:List Str) (bA K cl 1 oO)):aV P w K mg base 6 "seen_by" (["book", "looks"]:List Str) (m7 K cl 2 yH):=by
 have S:=fS (["book", "looks", "depths", "asked", "seen", "place", "order", "thing"]:List Str) (["book", "looks"]:List Str) (bx CP)
 exact a.Jh S (cl:=cl) (by decide) (by walk_at "2") (λf cdv A outer s H E hr=>⟨_,(aW (qH (ao 1) (jY rfl (fC (cg 2 S.nd) (fC (cg 3 S.nd) jX)))) (aW (FJ (i:=4) (sc:=bx CP) (No:=(["book", "looks", "depths", "asked", "seen", "place", "order", "thing"]:List Str)) (N:=(["row"]:List Str)) (src:=[none]) (g:=(cU 0)) S.nd rfl (Or.inl rfl) rfl rfl ⟨by rfl,by decide +kernel,by decide +kernel,by decide +kernel,by rfl,by decide +kernel⟩ rfl (gw (ao 0)) (λC s H ex=>(cg 0 (show List.Nodup (["row"]:List Str) by decide +kernel))) (λC s H ex=>(bK lE (HN (G:=aB K) (Ts:=[.non]) (by kernel_rfl)) (dD gq M.gA (aC (ao 0) aM))))) (aW (PS.jd (iI PassesOwn.never rfl (Rn M.Sw (aC (jl yL hr (aC (ao 0) aM)) aM)) (jY rfl (fC (cg 5 S.nd) (fC (cg 6 S.nd) jX))) (bC (iI PassesOwn.never rfl (gw (uR vd (ao 6) uP (uQ (bV (ao 2) (ao 5))))) (cg 7 S.nd) (bC (qH (bV (bV (ao 0) (ao 5)) (ao 7)) (zJ (bV (ao 4) (ao 5)) (ao 7) set_list))))))) (aW (PS.jd (iI PassesOwn.never rfl (gw (ao 3)) (jY rfl (fC (cg 5 S.nd) (fC (cg 7 S.nd) jX))) (bC (qH (bV (bV (ao 0) (ao 5)) (ao 7)) (zJ (bV (ao 4) (ao 5)) (ao 7) set_list))))) (bC (cA (ao 4))))))),λt hK hx=>(uo (lH (aP 1) (rD hK (jy (cQ 2) (jy (cQ 3) rz))) (rM (jH cY (jH cY rK)))) (uo (Ig 4 (jT hK (aP 0)) (mY (by decide)) (oG (js:=[0]) (by decide)) cY (λt1 h1 k1=>(cQ 0)) (λt1 h1 k1=>(HD (h1.trans hK) (HS (h1.trans hK)) (x_len (h1.trans hK) (bD (aP 0) bU))))) (uo (rJ (λt2 h2 k2=>(nZ (Ro (h2.trans hK) (bD (tL (h2.trans hK) k2 (cO gK) (bD (aP 0) bU)) bU)) (rD (h2.trans hK) (jy (cQ 5) (jy (cQ 6) rz))) (rM (jH cY (jH cY rK))) (nZ (jT (h2.trans hK) (Ba (h2.trans hK) (aP 6) Ay (Az (dX (h2.trans hK) (aP 2) (aP 5))))) (cQ 7) cY (BJ (h2.trans hK) 4 (dX (h2.trans hK) (dX (h2.trans hK) (aP 0) (aP 5)) (aP 7)) (rO 5) (rO 7)))))) (uo (rJ (λt3 h3 k3=>(nZ (jT (h3.trans hK) (aP 3)) (rD (h3.trans hK) (jy (cQ 5) (jy (cQ 7) rz))) (rM (jH cY (jH cY rK))) (BJ (h3.trans hK) 4 (dX (h3.trans hK) (dX (h3.trans hK) (aP 0) (aP 5)) (aP 7)) (rO 5) (rO 7))))) (R5 4)))))⟩)
theorem acp(a:At K mg "seen_worths" JK) (M:Nm mg) (yJ:aV P w K mg base 6 "need_book" (["book"]:List Str) (bA K cl 1 mZ)) (yK:aV P w K mg base 5 "need_looks" (["book", "looks"]:List Str) (bA K cl 2 oR)) (S6:aV P w K mg base 6 "seen_by" (["book", "looks"]:List Str) (bA K cl 2 vJ)):aV P w K mg base 7 "seen_worths" (["book", "looks"]:List Str) (bA K cl 2 vK):=by
 have S:=fS (["book", "looks"]:List Str) (["book", "looks"]:List Str) (bx JK)
 exact a.eG S (cl:=cl) (by decide) (by walk_at "2") (λf cdv A outer s H E hr=>⟨_,(aW (psE (pc1 (E:=E) yJ hr dG (aC (ao 0) aM))) (aW (psE (pc1 (E:=E) yK hr dG (aC (ao 0) (aC (ao 1) aM)))) (bC (cA (pc1 (E:=E) S6 hr dG (aC (ao 0) (aC (ao 1) aM))))))),λt hK hx=>by delta Je; walk_at "t"⟩)
theorem acq(a:At K mg "seen_worths" JL) (M:Nm mg) (yJ:aV P w K mg base 6 "need_book" (["book"]:List Str) (bA K cl 1 mZ)) (yK:aV P w K mg base 5 "need_looks" (["book", "looks"]:List Str) (bA K cl 2 oR)) (S6:aV P w K mg base 6 "seen_by" (["book", "looks"]:List Str) (bA K cl 2 vJ)) (acr:aV P w K mg base 6 "seen_by" (["book", "looks"]:List Str) (m7 K cl 2 yH)):aV P w K mg base 7 "seen_worths" (["book", "looks"]:List Str) (m7 K cl 2 uw):=by
 have S:=fS (["book", "looks"]:List Str) (["book", "looks"]:List Str) (bx JL)
 exact a.Jh S (cl:=cl) (by decide) (by walk_at "2") (λf cdv A outer s H E hr=>⟨_,(aW (psE (pc1 (E:=E) yJ hr dG (aC (ao 0) aM))) (aW (psE (pc1 (E:=E) yK hr dG (aC (ao 0) (aC (ao 1) aM)))) (bC (cA (pc1 (E:=E) acr hr dG (aC (ao 0) (aC (ao 1) aM))))))),λt hK hx=>(uo (Bd (j9 hK hx (cO gK) (bD (aP 0) bU))) (uo (Bd (j9 hK hx (cO (cO gK)) (bD (aP 0) (bD (aP 1) bU)))) (Sq 0 (R7 (cl:=cl) hK 0 hx (cO (cO gK)) (bD (aP 0) (bD (aP 1) bU))))))⟩)
theorem acs(a:At K mg "tops_on_one_bottom" Cv) (M:Nm mg) (acu:aV P w K mg base 2 "common_bottom" (["fractions"]:List Str) (bA K cl 1 yw)):aV P w K mg base 3 "tops_on_one_bottom" (["fractions"]:List Str) (bA K cl 1 Ci):=by
 have S:=fS (["fractions", "bottom"]:List Str) (["fractions"]:List Str) (bx Cv)
 exact a.eG S (cl:=cl) (by decide) (by walk_at "1") (λf cdv A outer s H E hr=>⟨_,(aW (HX 1 S.nd rfl (pc1 (E:=E) acu hr dG (aC (ao 0) aM))) (bC (cA (mF (sc:=bx Cv) (No:=(["fractions", "bottom"]:List Str)) (N:=(["top", "own", "bottom"]:List Str)) (src:=[none,none,some 1]) (g:=(uL K 2 (pq (cU 0) (pq (cU 1) uK)))) rfl rfl ⟨by rfl,by decide +kernel,by decide +kernel,by decide +kernel,by rfl,by decide +kernel⟩ rfl (gw (ao 0)) (λC s H ex=>(jY rfl (fC (cg 0 (show List.Nodup (["top", "own", "bottom"]:List Str) by decide +kernel)) (fC (cg 1 (show List.Nodup (["top", "own", "bottom"]:List Str) by decide +kernel)) jX)))) (λC s H ex=>(bK lE (ao 0) (bK mO (iW 2) (ao 1)))))))),λt hK hx=>by delta RB; walk_at "t"⟩)
end
end K20
end
section
namespace L2
open PySem
@[simp] theorem Rs.gG{α β : Type}(a : α)(f : α -> Rs β):(Rs.ok a).bind f=f a:=rfl
@[simp] theorem Rs.afX{α β : Type}(f : α -> Rs β):(Rs.bad:Rs α).bind f=.bad:=rfl
@[simp] theorem Rs.afY{α β : Type}(c:Str)(f : α -> Rs β):(Rs.ex c:Rs α).bind f=.ex c:=rfl
inductive Tg{α β : Type}(f : α -> Rs β):Type
 |mk
def bd{α β : Type}(r:Rs α)(f : α -> Rs β)(_:Tg f):Rs β := r.bind f
@[simp] theorem rY{α β : Type}(f : α -> Rs β)(a : α)(u:Tg f):bd (.ok a) f u=f a:=rfl
@[simp] theorem afZ{α β : Type}(f : α -> Rs β)(u:Tg f):bd .bad f u=.bad:=rfl
@[simp] theorem af0{α β : Type}(f : α -> Rs β)(c:Str)(u:Tg f):bd (.ex c) f u=.ex c:=rfl
@[simp] theorem af2(f g:SF)(ρ : En):aG f g ρ = ((bd (f ρ) (λp=>match p.1 with
 |.nx=>g p.2
 |fl=>.ok (fl,p.2)) .mk)):=rfl
@[simp] theorem af3(c:BF)(f g:SF)(ρ : En):cM c f g ρ = ((bd (c ρ) (λp=>if p.1=true then f p.2 else g p.2) .mk)):=rfl
@[simp] theorem af4(f:EF)(ρ : En):bJ f ρ = ((bd (f ρ) (λp=>match p.1 with
 |.v T fr=>.ok (.rt T fr,p.2)
 |.s i=>match p.2[i]? with
  |some (.ow ts)=>.ok (.rt (.lst ts) true,p.2)
  |_=>.bad) .mk)):=rfl
@[simp] theorem af5(f:EF)(g:GF)(ρ : En):bf f g ρ = ((bd (f ρ) (λp=>match p.1 with
 |.v T _=>(bd (g T p.2) (λρ'=>.ok (.nx,ρ')) .mk)
 |.s _=>.bad) .mk)):=rfl
@[simp] theorem af6(i:Nat)(f:EF)(ρ : En):gZ i f ρ = ((bd (f ρ) (λp=>match p.1 with
 |.v (.lst ts) true=>.ok (.nx,p.2.set i (.ow ts))
 |_=>.bad) .mk)):=rfl
@[simp] theorem af7  (ρ : En):cL  ρ = (.ok (.nx,ρ)):=rfl
@[simp] theorem af8(f:SF)(ρ : En):bN f ρ = (bW (f ρ)):=rfl
@[simp] theorem af9(i j:Nat)(fa:AF)(ρ : En):tK i j fa ρ = ((bd (fa ρ) (λp=>(bd (cls p.1) (λTs=>match Ts with
 | [T,U]=>.ok (.nx,(p.2.set i (.sh T)).set j (.sh U))
 |_=>.bad) .mk)) .mk)):=rfl
@[simp] theorem aga(i:Nat)(fk fe:EF)(ρ : En):Y5 i fk fe ρ = ((bd (fe ρ) (λp=>(bd (cls [p.1]) (λTs=>(bd (con p.2 i) (λ_=>(bd (fk p.2) (λq=>(bd (dr q.2 q.1) (λkT=>(bd (jF kT) (λk=>(bd (con q.2 i) (λts=>match Ts,gM ts.length k with
 | [T],some j=>.ok (.nx,cN i (ts.set j T) q.2)
 |_,_=>.bad) .mk)) .mk)) .mk)) .mk)) .mk)) .mk)) .mk)):=rfl
@[simp] theorem agb(f:EF)(ρ : En):fJ f ρ = ((bd (f ρ) (λp=>.ok (.nx,p.2)) .mk)):=rfl
@[simp] theorem agc(fi:IF)(g:GF)(b:SF)(ρ : En):bY fi g b ρ = ((bd (fi ρ) (λp=>cR g b p.1 p.2) .mk)):=rfl
@[simp] theorem agd(i:Nat)(f:SF)(ρ : En):lJ i f ρ = (f (dF i ρ)):=rfl
@[simp] theorem agf(i:Nat)(f:SF)(ρ : En):BK i f ρ = (f (oH i ρ)):=rfl
@[simp] theorem agg(i:Nat)(p:Int->Int->Int)(f:EF)(ρ : En):Y6 i p f ρ = (match ρ[i]? with
 |some (.sh (.int x))=>(bd (f ρ) (λq=>(bd (dr q.2 q.1) (λyT=>(bd (jF yT) (λy=>.ok (.nx,q.2.set i (.sh (.int (p x y))))) .mk)) .mk)) .mk)
 |_=>.bad):=rfl
@[simp] theorem agh(i:Nat)(fk:QF)(m:GM)(fa:QF)(ρ : En):aac i fk m fa ρ = ((bd (gP ρ i) (λts=>(bd (bW (fk ρ)) (λk=>(bd (iG ts k) (λz=>match z.2 with
 |.lst us=>(bd (bW (fa ρ)) (λT=>(bd (m us [T]) (λy=>.ok (.nx,ρ.set i (.dp (ts.set z.1 (.lst y.1))))) .mk)) .mk)
 |_=>.bad) .mk)) .mk)) .mk)):=rfl
@[simp] theorem agi(i:Nat)(fk fj:QF)(fe:EF)(ρ : En):tQ i fk fj fe ρ = ((bd (fe ρ) (λp=>(bd (lM p.1) (λT=>(bd (gP p.2 i) (λts=>(bd (bW (fk p.2)) (λk=>(bd (iG ts k) (λz=>match z.2 with
 |.lst us=>(bd (bW (fj p.2)) (λj=>(bd (iG us j) (λy=>.ok (.nx,p.2.set i (.dp (ts.set z.1 (.lst (us.set y.1 T)))))) .mk)) .mk)
 |_=>.bad) .mk)) .mk)) .mk)) .mk)) .mk)):=rfl
@[simp] theorem acv(i:Nat)(src:List (Option Nat))(fi:IF)(g:GF)(c:BF)(f:EF)(ρ : En):oJ i src fi g c f ρ = ((bd (fi ρ) (λp=>if p.1.length<=100000 then(bd (bW (tV g c f p.1 (dU src p.2))) (λz=>if dW src z.2 p.2=true then .ok (.nx,(bT src z.2 p.2).set i (.dp z.1))else .bad) .mk)else .bad) .mk)):=rfl
@[simp] theorem agj(i:Nat)(ρ : En):kE i ρ = (match ρ[i]? with
 |some (.sh T)=>.ok T
 |_=>.bad):=rfl
@[simp] theorem agk(T:Tr)(ρ : En):qC T ρ=.ok T:=rfl
@[simp] theorem agl(i:Nat)(fk fj:QF)(ρ : En):Z9 i fk fj ρ = ((bd (gP ρ i) (λts=>(bd (fk ρ) (λk=>(bd (iG ts k) (λz=>match z.2 with
 |.lst us=>(bd (fj ρ) (λj=>(bd (iG us j) (λy=>.ok y.2) .mk)) .mk)
 |_=>.bad) .mk)) .mk)) .mk)):=rfl
@[simp] theorem agm(i:Nat)(ρ : En):aj i ρ = (match ρ[i]? with
 |some (.sh T)=>.ok (.v T false,ρ)
 |some (.ow _)=>.ok (.s i,ρ)
 |some (.rf _)=>.ok (.s i,ρ)
 |_=>.bad):=rfl
@[simp] theorem agn(T:Tr)(ρ : En):eC T ρ = (.ok (.v T false,ρ)):=rfl
@[simp] theorem ago(Ts:List Tr)(ρ : En):rN Ts ρ=.ok (.v (.lst Ts) true,ρ):=rfl
@[simp] theorem agp(g:G2)(fa fb:EF)(ρ : En):aq g fa fb ρ = ((bd (fa ρ) (λp=>(bd (fb p.2) (λq=>(bd (dr q.2 p.1) (λa=>(bd (dr q.2 q.1) (λb=>(bd (g a b) (λz=>.ok (.v z.1 z.2,q.2)) .mk)) .mk)) .mk)) .mk)) .mk)):=rfl
@[simp] theorem agq(g:G1)(fa:EF)(ρ : En):Ym g fa ρ = ((bd (fa ρ) (λp=>(bd (dr p.2 p.1) (λa=>(bd (g a) (λz=>.ok (.v z.1 z.2,p.2)) .mk)) .mk)) .mk)):=rfl
@[simp] theorem agr(g:GN)(fa:AF)(ρ : En):aR g fa ρ = ((bd (fa ρ) (λp=>(bd (drs p.2 p.1) (λas=>(bd (g as) (λz=>.ok (.v z.1 z.2,p.2)) .mk)) .mk)) .mk)):=rfl
@[simp] theorem ags(F:FP)(fa:AF)(ρ : En):aX F fa ρ = ((bd (fa ρ) (λp=>(bd (drs p.2 p.1) (λas=>(bd (F as) (λz=>if p.1.any aZ=true/\mX z=false then .bad else .ok (.v z.1 z.2,p.2)) .mk)) .mk)) .mk)):=rfl
@[simp] theorem agt(r:Nat)(F:FR)(fa:AF)(ρ : En):Zd r F fa ρ = ((bd (fa ρ) (λp=>match p.1[r]? with
 |some (.s i)=>if others r i p.1=true then((bd (con p.2 i) (λ_=>(bd (drs p.2 p.1) (λas=>(bd (F as) (λz=>if((p.1.eraseIdx r).any aZ=true/\mX z.1=false)\/(((p.1.eraseIdx r).any aZ=true\/z.1.2=true)/\oE z.2=false)then .bad else .ok (.v z.1.1 z.1.2,cN i z.2 p.2)) .mk)) .mk)) .mk))else .bad
 |_=>.bad) .mk)):=rfl
@[simp] theorem agu(a:Int):oE [.int a]=true:=rfl
@[simp] theorem agv(a b:Int):oE [.int a,.int b]=true:=rfl
@[simp] theorem agw(g:AF)(ρ : En):gH g ρ = ((bd (g ρ) (λp=>(bd (cls p.1) (λts=>if ts.length<=1000 then .ok (.v (.lst ts) true,p.2)else .bad) .mk)) .mk)):=rfl
@[simp] theorem agx(g:AF)(ρ : En):jx g ρ = ((bd (g ρ) (λp=>(bd (cls p.1) (λts=>if ts.length<=1000 then .ok (.v (.tup ts) false,p.2)else .bad) .mk)) .mk)):=rfl
@[simp] theorem agy(f g:EF)(ρ : En):qZ f g ρ = ((bd (cu f ρ) (λp=>if p.1=true then g p.2 else .ok (eB false,p.2)) .mk)):=rfl
@[simp] theorem agz(f g:EF)(ρ : En):Ax f g ρ = ((bd (cu f ρ) (λp=>if p.1=true then .ok (eB true,p.2)else g p.2) .mk)):=rfl
@[simp] theorem agA(f:EF)(ρ : En):GP f ρ = ((bd (cu f ρ) (λp=>.ok (eB (!p.1),p.2)) .mk)):=rfl
@[simp] theorem agB(c:BF)(f g:EF)(ρ : En):Yv c f g ρ = ((bd (c ρ) (λp=>if p.1=true then f p.2 else g p.2) .mk)):=rfl
@[simp] theorem agC(c:Ty)(fa:EF)(ρ : En):gJ c fa ρ = ((bd (fa ρ) (λp=>(bd (dr p.2 p.1) (λa=>.ok (eB (gF a c),p.2)) .mk)) .mk)):=rfl
@[simp] theorem agD(g g':G2)(fa fb fc:EF)(ρ : En):rm g g' fa fb fc ρ = ((bd (fa ρ) (λp=>(bd (fb p.2) (λq=>(bd (dr q.2 p.1) (λa=>(bd (dr q.2 q.1) (λb=>(bd (g a b) (λz=>(bd (cj z.1) (λk=>if k=true then(bd (fc q.2) (λs=>(bd (dr s.2 q.1) (λb=>(bd (dr s.2 s.1) (λc=>(bd (g' b c) (λz=>.ok (.v z.1 z.2,s.2)) .mk)) .mk)) .mk)) .mk)else .ok (eB false,q.2)) .mk)) .mk)) .mk)) .mk)) .mk)) .mk)):=rfl
@[simp] theorem agE(fa:EF)(fl fh:OF)(ρ : En):iQ fa fl fh ρ = ((bd (fa ρ) (λp=>(bd (fl p.2) (λl=>(bd (fh l.2) (λh=>(bd (dr h.2 p.1) (λa=>(bd (pQ l.1 h.1 a) (λz=>.ok (.v z.1 z.2,h.2)) .mk)) .mk)) .mk)) .mk)) .mk)):=rfl
@[simp] theorem J8(src:List (Option Nat))(fi:IF)(g:GF)(c:BF)(f:EF)(ρ : En):cD src fi g c f ρ = ((bd (fi ρ) (λp=>if p.1.length<=100000 then(bd (bW (fO g c f p.1 (dU src p.2))) (λz=>if dW src z.2 p.2=true then .ok (.v (.lst z.1) true,bT src z.2 p.2)else .bad) .mk)else .bad) .mk)):=rfl
@[simp] theorem agF(i:Nat)(m:GM)(fa:AF)(ρ : En):iU i m fa ρ = ((bd (con ρ i) (λ_=>(bd (fa ρ) (λp=>(bd (cls p.1) (λas=>(bd (con p.2 i) (λts=>(bd (m ts as) (λz=>.ok (.v z.2 false,cN i z.1 p.2)) .mk)) .mk)) .mk)) .mk)) .mk)):=rfl
@[simp] theorem agG(i:Nat)(m:GM)(ρ : En):YZ i m ρ = ((bd (con ρ i) (λts=>(bd (m ts []) (λz=>.ok (.v z.2 false,cN i z.1 ρ)) .mk)) .mk)):=rfl
@[simp] theorem agH(fa:EF)(ρ : En):cu fa ρ = ((bd (fa ρ) (λp=>(bd (dr p.2 p.1) (λa=>(bd (cj a) (λb=>.ok (b,p.2)) .mk)) .mk)) .mk)):=rfl
@[simp] theorem agI(fa:EF)(ρ : En):dY fa ρ = ((bd (fa ρ) (λp=>(bd (dr p.2 p.1) (λa=>(bd (fB a) (λb=>.ok (b,p.2)) .mk)) .mk)) .mk)):=rfl
@[simp] theorem agJ(f g:BF)(ρ : En):Yr f g ρ = ((bd (f ρ) (λp=>if p.1=true then g p.2 else .ok (false,p.2)) .mk)):=rfl
@[simp] theorem agK(f g:BF)(ρ : En):iC f g ρ = ((bd (f ρ) (λp=>if p.1=true then .ok (true,p.2)else g p.2) .mk)):=rfl
@[simp] theorem agL(f:BF)(ρ : En):dR f ρ = ((bd (f ρ) (λp=>.ok (!p.1,p.2)) .mk)):=rfl
@[simp] theorem acw  (ρ : En):cF  ρ = (.ok (true,ρ)):=rfl
@[simp] theorem agM  (ρ : En):au  ρ = (.ok ([],ρ)):=rfl
@[simp] theorem agN(f:EF)(g:AF)(ρ : En):ak f g ρ = ((bd (f ρ) (λp=>(bd (g p.2) (λq=>.ok (p.1::q.1,q.2)) .mk)) .mk)):=rfl
@[simp] theorem agO(f:EF)(ρ : En):bM f ρ = ((bd (f ρ) (λp=>(bd (g8 p.1) (λz=>.ok (z.1,p.2)) .mk)) .mk)):=rfl
@[simp] theorem agP(fa:AF)(ρ : En):dh fa ρ = ((bd (fa ρ) (λp=>(bd (drs p.2 p.1) (λas=>match as with
 | [.int j]=>if okR j=true then .ok (upTo 0 j.toNat,p.2)else .bad
 |_=>.bad) .mk)) .mk)):=rfl
@[simp] theorem agQ(fa:AF)(ρ : En):YX fa ρ = ((bd (fa ρ) (λp=>(bd (drs p.2 p.1) (λas=>match as with
 | [.int i,.int j]=>if okR i=true/\okR j=true then .ok (upTo i (j-i).toNat,p.2)else .bad
 |_=>.bad) .mk)) .mk)):=rfl
@[simp] theorem agR(fa:AF)(ρ : En):vA fa ρ = ((bd (fa ρ) (λp=>match p.1 with
 | [.v (.lst us) _,.v (.lst vs) _]=>.ok (rP us vs,p.2)
 |_=>.bad) .mk)):=rfl
@[simp] theorem agS  (ρ : En):jj  ρ = (.ok (none,ρ)):=rfl
@[simp] theorem agT(fa:EF)(ρ : En):jk fa ρ = ((bd (fa ρ) (λp=>(bd (dr p.2 p.1) (λa=>(bd (jF a) (λb=>.ok (some b,p.2)) .mk)) .mk)) .mk)):=rfl
@[simp] theorem agU(i:Nat)(T:Tr)(ρ : En):gN i T ρ = (.ok (ρ.set i (.sh T))):=rfl
@[simp] theorem agV(n:Nat)(f:mV)(T:Tr)(ρ : En):gT n f T ρ = (match T with
 |.tup Ts=>if Ts.length=n then f Ts ρ else .bad
 |_=>.bad):=rfl
@[simp] theorem agW  (Ts:List Tr)(ρ : En):dI  Ts ρ = (match Ts with
 | []=>.ok ρ
 |_=>.bad):=rfl
@[simp] theorem agX(f:GF)(g:mV)(Ts:List Tr)(ρ : En):bL f g Ts ρ = (match Ts with
 |T::r=>(bd (f T ρ) (λρ'=>g r ρ') .mk)
 | []=>.bad):=rfl
@[simp] theorem agY(a:Tr):bO 1 [a]=[.sh a]:=rfl
end L2
end
section
namespace BH
open PySem L2
theorem oW(i:Int):dep (.int i)=0:=rfl
theorem J9(i:Bool):dep (.bl i)=0:=rfl
theorem Ka(i:Str):dep (.str i)=0:=rfl
theorem Kc:dep .non=0:=rfl
theorem vZ(ts:List Tr):dep (.tup ts)=deps ts+1:=by simp only[dep]
theorem m9(ts:List Tr):dep (.lst ts)=deps ts+1:=by simp only[dep]
theorem rZ:deps []=0:=rfl
theorem lN(t:Tr)(ts:List Tr):deps (t::ts)=max (dep t) (deps ts):=by simp only[deps]
theorem v7(i j:Int):eqT (.int i) (.int j)=(i == j):=by simp only[eqT]
theorem Kd(i j:Bool):eqT (.bl i) (.bl j)=(i == j):=by simp only[eqT]
theorem Kf(i j:Str):eqT (.str i) (.str j)=(i == j):=by simp only[eqT]
def isW:Tr->Bool
 |.int _=>true
 |_=>false
theorem Kg(T:Tr):qu [T]=.ok (.bl (isW T),false):=by cases T <;> rfl
def wc:BF:=cu (aq fG (aj 1) (eC (.int 0)))
def wb:SF:=tK 0 1 (ak (aj 1) (ak (aq bZ (aj 0) (aj 1)) au))
theorem acy(a b:Int):wc [.sh (.int a),.sh (.int b)]=.ok (!(b == 0),[.sh (.int a),.sh (.int b)]):=rfl
theorem acz(a b:Int)(h:b≠0):wb [.sh (.int a),.sh (.int b)]=.ok (.nx,[.sh (.int b),.sh (.int (a.fmod b))]):=by
 unfold wb; simp -dsimp[dr,cls,eZ,bZ,h]
theorem S7:∀(n:Nat) (a b:Int),b.natAbs<n->∃g:Int,pU wc wb n [.sh (.int a),.sh (.int b)]=.ok (.nx,[.sh (.int g),.sh (.int 0)])/\(if g<0 then -g else g)=((Int.gcd a b:Nat):Int)
 | 0,a,b,h=>by omega
 |n+1,a,b,h=>by
  unfold pU
  rw[acy]
  by_cases z:b=0
  ·subst z
   exact⟨a,rfl,Xx a⟩
  ·obtain⟨g,h1,h2⟩:=S7 n b (a.fmod b) (by have:=Oz a b z; omega)
   refine⟨g,?_,by rw[h2,OD]⟩
   have e:(!(b == 0))=true:=by simp[z]
   simp only[Rs.bind,e,if_true]
   rw[acz a b z]
   exact h1
def S8:SF:=(aG (bN (nY (pZ 1) wc wb)) (bJ (aR (g1 jR) (ak (aj 0) au))))
theorem acA(a b:Int):bF 2 S8 [.int a,.int b]=.ok (.int (Int.gcd a b:Nat),false):=by
 obtain⟨g,h1,h2⟩:=S7 (b.natAbs+1) a b (by omega)
 have h0:bO 2 [.int a,.int b]=[.sh (.int a),.sh (.int b)]:=rfl
 have h3:bN (nY (pZ 1) wc wb) [.sh (.int a),.sh (.int b)]=.ok (.nx,[.sh (.int g),.sh (.int 0)]):=by
  unfold bN nY
  rw[show pZ 1 [.sh (.int a),.sh (.int b)]=b.natAbs+1 from rfl,h1]
  rfl
 rw[<-h2]
 unfold bF S8 aG
 rw[h0,h3]
 rfl
theorem S9(a b:Int):ud [.int a,.int b]=.ok (.int (Int.gcd a b:Nat),false):=acA a b
def Dh:Tr->Tr->Bool
 |.int p,.int q=>decide (1<=q)&&(Int.gcd p q == 1)
 |_,_=>false
def qz:Tr->Bool
 |.tup [a,b]=>Dh a b
 |_=>false
theorem acB(n:Nat):((n:Int) == 1)=(n == 1):=by
 rw[Bool.eq_iff_iff]; simp; omega
theorem v8(T:Tr):yt [T]=.ok (.bl (qz T),false):=by
 unfold yt Iz bF
 cases T with
 |tup ts =>
  match ts with
  | []=>rfl
  | [_]=>rfl
  | [a,b] =>
   cases a <;> cases b <;> try rfl
   rename_i p q
   simp -dsimp[eB,cj,fB,dr,drs,g1,gB,dw,fG,j5,bB,aZ,oW,v7,gF,bO,Kg,isW,S9,qz,Dh,acB]
   by_cases h:1<=q <;> simp[h]
  |a::b::c::r =>
   have:((r.length:Int)+1+1+1 == 2)=false:=by simp; omega
   simp -dsimp[eB,cj,fB,dr,drs,g1,fG,j5,bB,oW,v7,gF,bO,qz,this]
 |_=>rfl
def Kh:Tr->Tr->Bool
 |.int p,.int q=>decide (0<=p)&&decide (p<=q)&&decide (1<=q)&&(Int.gcd p q == 1)
 |_,_=>false
def kZ:Tr->Bool
 |.tup [a,b]=>Kh a b
 |_=>false
theorem acC(T:Tr):qw [T]=.ok (.bl (kZ T),false):=by
 unfold qw IK bF
 cases T with
 |tup ts =>
  match ts with
  | []=>simp -dsimp[eB,cj,dr,drs,dO,aZ,bO,v8,qz,kZ]
  | [_]=>simp -dsimp[eB,cj,dr,drs,dO,aZ,bO,v8,qz,kZ]
  | [a,b] =>
   by_cases w:isW a=true/\isW b=true
   case neg =>
    have w1:Dh a b=false:=by cases a <;> cases b <;> first|rfl|exact absurd ⟨rfl,rfl⟩ w
    have w2:Kh a b=false:=by cases a <;> cases b <;> first|rfl|exact absurd ⟨rfl,rfl⟩ w
    simp -dsimp[eB,cj,dr,drs,dO,aZ,bO,v8,qz,kZ,w1,w2]
   cases a <;> try cases w.1
   cases b <;> try cases w.2
   rename_i p q
   simp -dsimp[eB,cj,dr,drs,gB,dO,aK,aZ,eX,gM,bO,v8,qz,kZ,Dh,Kh]
   by_cases h:1<=q <;> by_cases h2:p.gcd q=1 <;> by_cases h3:0<=p <;> simp[h,h2,h3]
  |a::b::c::r=>simp -dsimp[eB,cj,dr,drs,dO,aZ,bO,v8,qz,kZ]
 |_=>simp -dsimp[eB,cj,dr,drs,dO,aZ,bO,v8,qz,kZ]
end BH
end
section
namespace BH
open PySem L2
theorem comp_map{f:EF}{h:Tr->Tr}{τ : En}:∀(us:List Tr) (s:Sl),(∀u∈us,∃fr,f (.sh u::τ)=.ok (.v (h u) fr,.sh u::τ))->∃s',fO (gN 0) cF f us (s::τ)=.ok (us.map h,s'::τ)
 | [],s,_=>⟨s,rfl⟩
 |u::us,s,q=>by
  obtain⟨fr,e⟩:=q u (by simp)
  obtain⟨s',e'⟩:=comp_map us (.sh u) λv hv=>q v (by simp[hv])
  refine⟨s',?_⟩
  unfold fO
  simp[e,lM,e']
theorem Di{p:Tr->Bool}:∀us:List Tr,tB (us.map λu=>.bl (p u))=some (us.map p)
 | []=>rfl
 |u::us=>by simp[tB,Di us]
theorem Tc{F:FP}{p:Tr->Bool}{us:List Tr}{ρ : En}{i:IF}{fe:EF}(hl:us.length<=100000)(hi:i ρ=.ok (us,ρ))(hf:∀u∈us,∃fr,fe [.sh u]=.ok (.v (.bl (p u)) fr,[.sh u])):aR (g1 eE) (ak (cD [none] i (gN 0) cF fe) au) ρ=.ok (.v (.bl (us.all p)) false,ρ):=by
 obtain⟨s',e⟩:=comp_map (h:=λu=>.bl (p u)) us .un hf
 simp -dsimp[bW,dr,drs,g1,eE,dU,bT,dW,iV,hi,hl,e,Di]
theorem acD{p:Tr->Bool}{us:List Tr}{ρ : En}{i:IF}{fe:EF}{j:Nat}{T:Tr}(hl:us.length<=100000)(hi:i ρ=.ok (us,ρ))(hj : ρ[j]?=some (.sh T))(hf:∀u∈us,∃fr,fe [.sh u,.sh T]=.ok (.v (.bl (p u)) fr,[.sh u,.sh T])):aR (g1 eE) (ak (cD [none,some j] i (gN 0) cF fe) au) ρ=.ok (.v (.bl (us.all p)) false,ρ):=by
 obtain⟨s',e⟩:=comp_map (h:=λu=>.bl (p u)) us .un hf
 simp -dsimp[bW,dr,drs,g1,eE,dU,bT,dW,j7,iV,hi,hl,hj,e,Di]
def lO(m:Int):Tr->Bool
 |.lst ts=>decide (1<=(ts.length:Int))&&decide ((ts.length:Int)<=m)&&ts.all kZ
 |_=>false
theorem acE(T:Tr)(m:Int)(hm:m<=1000):uf [T,.int m]=.ok (.bl (lO m T),false):=by
 unfold uf IV bF
 cases T with
 |lst ts =>
  by_cases h1:1<=(ts.length:Int)
  ·by_cases h2:(ts.length:Int)<=m
   ·have e:=Tc (F:=qw) (p:=kZ) (us:=ts) (ρ:=[.sh (.lst ts),.sh (.int m)]) (i:=bM (aj 0)) (fe:=aX qw (ak (aj 0) au)) (by omega) rfl (λu _=>⟨false,by simp -dsimp[dr,drs,aZ,acC]⟩)
    generalize aR (g1 eE) (ak (cD [none] (bM (aj 0)) (gN 0) cF (aX qw (ak (aj 0) au))) au)=G at e ⊢
    simp -dsimp[eB,cj,fB,dr,drs,g1,gB,dO,bB,gF,bO,h1,h2,e,lO]
   ·simp -dsimp[eB,cj,fB,dr,drs,g1,gB,dO,bB,gF,bO,h1,h2,lO]
  ·simp -dsimp[eB,cj,fB,dr,drs,g1,gB,dO,bB,gF,bO,h1,lO]
 |_=>simp -dsimp[eB,fB,dr,dO,gF,bO,lO]
def lQ:Tr->Int
 |.lst ts=>ts.length
 |_=>-1
def lg:Tr->Bool
 |.lst rs=>decide (1<=(rs.length:Int))&&decide ((rs.length:Int)<=4)&&rs.all (lO 12)&&rs.all λr=>lQ r == lQ (rs.headD .non)
 |_=>false
theorem Td{m:Int}{T:Tr}(h:lO m T=true):∃ts,T=.lst ts:=by
 cases T <;> first|exact⟨_,rfl⟩|cases h
theorem acF(T:Tr):yu [T]=.ok (.bl (lg T),false):=by
 unfold yu Ry bF
 cases T with
 |lst ts =>
  by_cases h1:1<=(ts.length:Int)
  ·by_cases h2:(ts.length:Int)<=4
   ·have e:=Tc (F:=qw) (p:=lO 12) (us:=ts) (ρ:=[.sh (.lst ts)]) (i:=bM (aj 0)) (fe:=(aX uf (ak (aj 0) (ak (eC (.int 12)) au)))) (by omega) rfl (λu _=>⟨false,by simp -dsimp[dr,drs,aZ,acE]⟩)
    generalize aR (g1 eE) (ak (cD [none] (bM (aj 0)) (gN 0) cF (aX uf (ak (aj 0) (ak (eC (.int 12)) au)))) au)=G at e ⊢
    cases h3:ts.all (lO 12)with
    |false=>rw[h3]at e; simp -dsimp[eB,cj,fB,dr,drs,g1,gB,dO,bB,gF,bO,h1,h2,e,lg,h3]
    |true =>
     have h4:=List.all_eq_true.mp h3
     obtain⟨r0,rs,rfl⟩:∃r0 rs,ts=r0::rs:=by cases ts with
      |nil=>simp at h1
      |cons a b=>exact⟨a,b,rfl⟩
     obtain⟨l0,rfl⟩:=Td (h4 r0 (by simp))
     have e2:=acD (p:=λr=>lQ r == (l0.length:Int)) (us:=.lst l0::rs) (ρ:=[.sh (.lst (.lst l0::rs))]) (j:=0) (T:=.lst (.lst l0::rs)) (i:=bM (aj 0)) (fe:=(aq dw (aR (g1 bB) (ak (aj 0) au)) (aR (g1 bB) (ak (aq aK (aj 1) (eC (.int 0))) au)))) (by omega) rfl rfl (λu hu=>⟨false,by
      obtain⟨l,rfl⟩:=Td (h4 u hu)
      have:(0:Int)<(rs.length:Int)+1:=by omega
      simp -dsimp[dr,drs,g1,dw,aK,bB,oW,v7,eX,gM,lQ,this]⟩)
     generalize aR (g1 eE) (ak (cD [none,some 0] (bM (aj 0)) (gN 0) cF (aq dw (aR (g1 bB) (ak (aj 0) au)) (aR (g1 bB) (ak (aq aK (aj 1) (eC (.int 0))) au)))) au)=G2 at e2 ⊢
     rw[h3]at e
     have e3:lg (.lst (.lst l0::rs))=(Tr.lst l0::rs).all (λr=>lQ r == (l0.length:Int)):=by
      show(decide (1<=((Tr.lst l0::rs).length:Int))&&decide (((Tr.lst l0::rs).length:Int)<=4)&&(Tr.lst l0::rs).all (lO 12)&&(Tr.lst l0::rs).all λr=>lQ r == lQ (.lst l0))=_
      rw[h3,decide_eq_true h1,decide_eq_true h2]
      rfl
     rw[e3]
     generalize (Tr.lst l0::rs).all (λr=>lQ r == (l0.length:Int))=bb at e2
     have h1':(1:Int)<=(rs.length:Int)+1:=by omega
     have h2':(rs.length:Int)+1<=4:=by simp only[List.length_cons]at h2; omega
     simp -dsimp[eB,cj,fB,dr,drs,g1,gB,dO,bB,gF,bO,h1',h2',e,e2]
   ·simp -dsimp[eB,cj,fB,dr,drs,g1,gB,dO,bB,gF,bO,h1,h2,lg]
  ·simp -dsimp[eB,cj,fB,dr,drs,g1,gB,dO,bB,gF,bO,h1,lg]
 |_=>simp -dsimp[eB,fB,dr,dO,gF,bO,lg]
end BH
end
section
namespace L2
open PySem
@[simp] theorem agZ(fa:AF)(ρ : En):eLR fa ρ = bd (fa ρ) (λp=>match p.1 with
 | [.v (.int n) _]=>if 0<=n/\n<=1000 then .ok (.v (.lst ((List.range n.toNat).map λi:Nat=>Tr.int i)) true,p.2)else .bad
 |_=>.bad) .mk:=rfl
@[simp] theorem ag0(F:FR)(fa:EF)(ρ : En):aaM F fa ρ = bd (fa ρ) (λp=>match p.1 with
 |.v (.lst us) true=>bd (F [.lst us]) (λz=>.ok (.v z.1.1 z.1.2,p.2)) .mk
 |_=>.bad) .mk:=rfl
@[simp] theorem ag1(kt:Tr->Option (Int × Int))(src:List (Option Nat))(fa:AF)(fb:RF)(ρ : En):Ca kt src fa fb ρ = bd (fa ρ) (λp=>match p.1 with
 | [.v (.int n) _]=>if 0<=n/\n<64 then bd (bW (tZ kt fb (yh src p.2) (List.range n.toNat))) (λks=>.ok (.v (.lst ((yg n.toNat λi=>ks.getD i (0,0)).map λi:Nat=>Tr.int i)) true,p.2)) .mk else .bad
 |_=>.bad) .mk:=rfl
end L2
namespace BH
open PySem L2
def fT(x:Int × Int):Tr:=.tup [.int x.1,.int x.2]
theorem Te{k:Int}{M:Nat}(h:k.natAbs<2 ^ M)(hM:M<=8000):k.natAbs.log2<9000:=by
 by_cases z:k.natAbs=0
 ·rw[z]; decide
 ·have:=(Nat.log2_lt (n:=k.natAbs) (k:=M) z).mpr h
  omega
theorem Tf{k:Int}{M:Nat}(h:k.natAbs<2 ^ M)(hM:M<=8000):fit k=true:=by
 have:=Te h hM
 unfold fit
 rw[decide_eq_true_eq]
 omega
theorem v9{i j:Int}{M N:Nat}(h1:i.natAbs<2 ^ M)(hM:M<=8000)(h2:j.natAbs<2 ^ N)(hN:N<=8000):iB i j=true:=by
 unfold iB
 rw[Tf h1 hM,Tf h2 hN]
 rfl
theorem oX{i j:Int}{M:Nat}(h0:j≠0)(h:j.natAbs<2 ^ M)(hM:M<=8000):jE i j=true:=by
 unfold jE
 rw[Bool.and_eq_true,decide_eq_true_eq,decide_eq_true_eq]
 exact⟨h0,Te h hM⟩
theorem acG{B q:Int}(hB:1<=B)(hq:1<=q):let B':=(B*q).fdiv ((Int.gcd B q:Nat):Int); 1<=B'/\B∣B'/\q∣B'/\B'<=B*q:=by
 have g0:0<Int.gcd B q:=Int.gcd_pos_of_ne_zero_left _ (by omega)
 obtain⟨b,hb⟩:=Int.gcd_dvd_left (a:=B) (b:=q)
 obtain⟨o,ho⟩:=Int.gcd_dvd_right (a:=B) (b:=q)
 generalize hg:((Int.gcd B q:Nat):Int)=g at hb ho
 have g1:0<g:=by omega
 have b1:0<b:=by
  rcases Int.lt_or_le 0 b with z|z
  ·exact z
  ·have:=Int.mul_nonpos_of_nonneg_of_nonpos (a:=g) (b:=b) (by omega) z; omega
 have o1:0<o:=by
  rcases Int.lt_or_le 0 o with z|z
  ·exact z
  ·have:=Int.mul_nonpos_of_nonneg_of_nonpos (a:=g) (b:=o) (by omega) z; omega
 have e:(B*q).fdiv g=B*o:=by
  rw[Int.fdiv_eq_ediv_of_nonneg _ (by omega)]
  have:B*q=g*(B*o):=by rw[ho]; ac_rfl
  rw[this]
  exact Int.mul_ediv_cancel_left _ (by omega)
 dsimp only
 rw[e]
 refine⟨?_,⟨o,rfl⟩,⟨b,?_⟩,?_⟩
 ·have:=Int.mul_pos (a:=B) (b:=o) (by omega) o1; omega
 ·conv=>lhs; rw[hb]
  conv=>rhs; rw[ho]
  ac_rfl
 ·refine Int.mul_le_mul_of_nonneg_left ?_ (by omega)
  rw[ho]
  have:=Int.mul_le_mul_of_nonneg_right (a:=1) (b:=g) (c:=o) (by omega) (by omega)
  omega
def uD:SF:=(bf (aq cJ (aq cX (aj 1) (aj 3)) (aX ud (ak (aj 1) (ak (aj 3) au)))) (gN 1))
theorem acH(s0:Sl)(B p q:Int){M N:Nat}(hB:1<=B)(hq:1<=q)(hB2:B<2 ^ M)(hM:M<=8000)(hq2:q<2 ^ N)(hN:N<=8000):uD [s0,.sh (.int B),.sh (.int p),.sh (.int q)]=.ok (.nx,[s0,.sh (.int ((B*q).fdiv ((Int.gcd B q:Nat):Int))),.sh (.int p),.sh (.int q)]):=by
 have g0:0<Int.gcd B q:=Int.gcd_pos_of_ne_zero_left _ (by omega)
 have gl:Int.gcd B q<=q.natAbs:=Nat.le_of_dvd (by omega) (Int.gcd_dvd_natAbs_right ..)
 have eM:((2 ^ M:Nat):Int)=2 ^ M:=by push_cast; rfl
 have eN:((2 ^ N:Nat):Int)=2 ^ N:=by push_cast; rfl
 have c1:iB B q=true:=v9 (M:=M) (N:=N) (by omega) hM (by omega) hN
 have c2:∀i,jE i ((Int.gcd B q:Nat):Int)=true:=λi=>oX (M:=N) (by omega) (by omega) hN
 unfold uD
 simp -dsimp[dr,drs,eZ,cX,cJ,aZ,S9,c1,c2]
def Fr(N:Nat)(l:List (Int × Int)):Prop:=∀x∈l,1<=x.2/\x.2<2 ^ N
theorem Ti{N:Nat}(s0:Sl):∀(l:List (Int × Int)) (B:Int) (M:Nat) (s2 s3:Sl),Fr N l->1<=B->B<2 ^ M->M+N*l.length<=8000->N<=8000->∃B' t2 t3,cR (gT 2 (bL (gN 2) (bL (gN 3) dI))) uD (l.map fT) [s0,.sh (.int B),s2,s3]=.ok (.nx,[s0,.sh (.int B'),t2,t3])/\1<=B'/\B'<2 ^ (M+N*l.length)/\B∣B'/\∀x∈l,x.2∣B'
 | [],B,M,s2,s3,_,h1,h2,_,_=>⟨B,s2,s3,rfl,h1,by simpa using h2,Int.dvd_refl _,by simp⟩
 |x::l,B,M,s2,s3,h,h1,h2,h3,h4=>by
  obtain⟨a1,a2⟩:=h x (by simp)
  obtain⟨b1,b2,b3,b4⟩:=acG h1 a1
  have e:=acH s0 B x.1 x.2 h1 a1 h2 (by omega) a2 h4
  generalize (B*x.2).fdiv ((Int.gcd B x.2:Nat):Int)=B1 at b1 b2 b3 b4 e
  have lt:B1<2 ^ (M+N):=by
   have p1:(0:Int)<2 ^ N:=Int.pow_pos (by omega)
   have q1:B*x.2<=B*2 ^ N:=Int.mul_le_mul_of_nonneg_left (by omega) (by omega)
   have q2:B*2 ^ N<2 ^ M*2 ^ N:=Int.mul_lt_mul_of_pos_right h2 p1
   rw[Int.pow_add]
   omega
  rw[List.length_cons]at h3
  have hm:M+N+N*l.length=M+N*(l.length+1):=by rw[Nat.mul_succ]; omega
  obtain⟨B',t2,t3,e',c1,c2,c3,c4⟩:=Ti s0 l B1 (M+N) (.sh (.int x.1)) (.sh (.int x.2)) (λy hy=>h y (by simp[hy])) b1 lt (by omega) h4
  refine⟨B',t2,t3,?_,c1,by rw[List.length_cons,<-hm]; exact c2,Int.dvd_trans b2 c3,λy hy=>?_⟩
  ·show cR _ uD (fT x::l.map fT) _=_
   unfold cR
   rw[show(gT 2 (bL (gN 2) (bL (gN 3) dI))) (fT x) [s0,.sh (.int B),s2,s3]=.ok [s0,.sh (.int B),.sh (.int x.1),.sh (.int x.2)]from rfl]
   simp only[Rs.gG]
   rw[e]
   exact e'
  ·rcases List.mem_cons.mp hy with rfl|hy
   ·exact Int.dvd_trans b3 c3
   ·exact c4 y hy
theorem acI{N:Nat}(l:List (Int × Int))(h:Fr N l)(hl:1+N*l.length<=8000)(hN:N<=8000):∃B,yw [.lst (l.map fT)]=.ok (.int B,false)/\1<=B/\B<2 ^ (1+N*l.length)/\∀x∈l,x.2∣B:=by
 obtain⟨B,t2,t3,e,h1,h2,_,h3⟩:=Ti (.sh (.lst (l.map fT))) l 1 1 .un .un h (by omega) (by omega) hl hN
 refine⟨B,?_,h1,h2,h3⟩
 show bF 4 (aG (bf (eC (.int 1)) (gN 1)) (aG (bN (bY (bM (aj 0)) (gT 2 (bL (gN 2) (bL (gN 3) dI))) uD)) (bJ (aj 1)))) [.lst (l.map fT)]=_
 have e1:bN (bY (bM (aj 0)) (gT 2 (bL (gN 2) (bL (gN 3) dI))) uD) [.sh (.lst (l.map fT)),.sh (.int 1),.un,.un]=.ok (.nx,[.sh (.lst (l.map fT)),.sh (.int B),t2,t3]):=by
  unfold bN bY
  show bW (cR _ uD (l.map fT) _)=_
  rw[e]
  rfl
 generalize bN _=G at e1 ⊢
 generalize Tr.lst (l.map fT)=T at e1 ⊢
 unfold bF
 simp -dsimp[bO,e1]
def yN:EF:=(aq cX (aj 0) (aq cJ (aj 2) (aj 1)))
theorem Tj{B:Int}{M N:Nat}(hB:1<=B)(hB2:B<2 ^ M)(hM:M<=8000)(hN:N<=8000):∀(l:List (Int × Int)) (s0 s1:Sl),Fr N l->(∀x∈l,x.1.natAbs<2 ^ N)->∃t0 t1,fO (gT 2 (bL (gN 0) (bL (gN 1) dI))) cF yN (l.map fT) [s0,s1,.sh (.int B)]=.ok (l.map λx=>.int (x.1*(B / x.2)),[t0,t1,.sh (.int B)])
 | [],s0,s1,_,_=>⟨s0,s1,rfl⟩
 |x::l,s0,s1,h,h'=>by
  obtain⟨a1,a2⟩:=h x (by simp)
  have a3:=h' x (by simp)
  obtain⟨t0,t1,e⟩:=Tj hB hB2 hM hN l (.sh (.int x.1)) (.sh (.int x.2)) (λy hy=>h y (by simp[hy])) (λy hy=>h' y (by simp[hy]))
  refine⟨t0,t1,?_⟩
  have eM:((2 ^ M:Nat):Int)=2 ^ M:=by push_cast; rfl
  have eN:((2 ^ N:Nat):Int)=2 ^ N:=by push_cast; rfl
  have d0:=Int.ediv_nonneg (a:=B) (b:=x.2) (by omega) (by omega)
  have d1:=Int.ediv_le_self (a:=B) x.2 (by omega)
  have c1:jE B x.2=true:=oX (M:=N) (by omega) (by omega) hN
  have c2:iB x.1 (B / x.2)=true:=v9 (M:=N) (N:=M) a3 hN (by omega) hM
  have e1:yN [.sh (.int x.1),.sh (.int x.2),.sh (.int B)]=.ok (.v (.int (x.1*(B / x.2))) false,[.sh (.int x.1),.sh (.int x.2),.sh (.int B)]):=by
   unfold yN
   have fe:B.fdiv x.2=B / x.2:=Int.fdiv_eq_ediv_of_nonneg _ (by omega)
   simp -dsimp[dr,eZ,cX,cJ,c1,fe,c2]
  show fO _ cF yN (fT x::l.map fT) _=_
  unfold fO
  rw[show(gT 2 (bL (gN 0) (bL (gN 1) dI))) (fT x) [s0,s1,.sh (.int B)]=.ok [.sh (.int x.1),.sh (.int x.2),.sh (.int B)]from rfl]
  simp only[Rs.gG,acw,if_true]
  rw[e1]
  simp only[Rs.gG,lM]
  rw[e]
  rfl
def Frs(N:Nat)(l:List (Int × Int)):Prop:=∀x∈l,1<=x.2/\x.2<2 ^ N/\x.1.natAbs<2 ^ N
theorem Frs.fr{N:Nat}{l:List (Int × Int)}(h:Frs N l):Fr N l:=λx hx=>⟨(h x hx).1,(h x hx).2.1⟩
theorem acJ{N:Nat}(l:List (Int × Int))(h:Frs N l)(hl:1+N*l.length<=8000)(hN:N<=8000)(hl2:l.length<=1000):∃B,Ci [.lst (l.map fT)]=.ok (.lst (l.map λx=>.int (x.1*(B / x.2))),true)/\1<=B/\∀x∈l,x.2∣B:=by
 obtain⟨B,e,h1,h2,h3⟩:=acI l h.fr hl hN
 obtain⟨t0,t1,e2⟩:=Tj h1 h2 hl hN l .un .un h.fr λx hx=>(h x hx).2.2
 refine⟨B,?_,h1,h3⟩
 show bF 2 (aG (bf (aX yw (ak (aj 0) au)) (gN 1)) (bJ (cD [none,none,some 1] (bM (aj 0)) (gT 2 (bL (gN 0) (bL (gN 1) dI))) cF yN))) [.lst (l.map fT)]=_
 unfold bF
 simp -dsimp[bW,dr,drs,g8,aZ,dU,bT,dW,j7,iV,bO,e,e2,show l.length<=100000 by omega]
def Km(l:List (Int × Int))(i j:Nat):Prop:=(l.getD j (0,1)).1*(l.getD i (0,1)).2<(l.getD i (0,1)).1*(l.getD j (0,1)).2\/((l.getD j (0,1)).1*(l.getD i (0,1)).2=(l.getD i (0,1)).1*(l.getD j (0,1)).2/\i<j)
def Fall(l:List (Int × Int))(ys:List Nat):Prop:=ys.Perm (List.range l.length)/\ys.Pairwise (Km l)
theorem Tn(ts:List Int):∀(is:List Nat),(∀i∈is,i<ts.length)->tZ yj (vD xJ (vC aK (qp 1) (qp 0))) [some (.lst (ts.map Tr.int))] is=.ok (is.map λi=>(-(ts.getD i 0),0))
 | [],_=>rfl
 |i::is,h=>by
  have hi:=h i (by simp)
  have e:(vD xJ (vC aK (qp 1) (qp 0))) [some (Tr.int i),some (.lst (ts.map Tr.int))]=.ok (.int (-(ts.getD i 0))):=by
   unfold vD vC qp
   have a:eX (ts.map Tr.int) (i:Int)=some (.int (ts.getD i 0)):=by
    unfold eX gM
    simp[hi]
   simp[aK,a,xJ]
  unfold tZ
  rw[e,Tn ts is λj hj=>h j (by simp[hj])]
  rfl
theorem top_lt{B p q r s:Int}(hB:1<=B)(hq:1<=q)(hs:1<=s)(dq:q∣B)(ds:s∣B):(p*(B / q)<r*(B / s)↔p*s<r*q)/\(p*(B / q)=r*(B / s)↔p*s=r*q):=by
 obtain⟨a,ha⟩:=dq
 obtain⟨b,hb⟩:=ds
 have e1:B / q=a:=by rw[ha]; exact Int.mul_ediv_cancel_left _ (by omega)
 have e2:B / s=b:=by rw[hb]; exact Int.mul_ediv_cancel_left _ (by omega)
 rw[e1,e2]
 have x1:(p*a)*(q*s)=(p*s)*B:=by rw[ha]; ac_rfl
 have x2:(r*b)*(q*s)=(r*q)*B:=by rw[hb]; ac_rfl
 have qs:0<q*s:=Int.mul_pos (by omega) (by omega)
 constructor
 ·constructor
  ·intro h
   have:=Int.mul_lt_mul_of_pos_right h qs
   rw[x1,x2]at this
   exact Int.lt_of_mul_lt_mul_right this (by omega)
  ·intro h
   have:=Int.mul_lt_mul_of_pos_right h (show 0<B by omega)
   rw[<-x1,<-x2]at this
   exact Int.lt_of_mul_lt_mul_right this (by omega)
 ·constructor
  ·intro h
   rw[h,x2]at x1
   exact(Int.eq_of_mul_eq_mul_right (by omega) x1).symm
  ·intro h
   rw[h,<-x2]at x1
   exact Int.eq_of_mul_eq_mul_right (by omega) x1
theorem Tp{N:Nat}(l:List (Int × Int))(h:Frs N l)(hl:1+N*l.length<=8000)(hN:N<=8000)(h64:l.length<64):∃ys,oN [.lst (l.map fT)]=.ok (.lst (ys.map λi:Nat=>Tr.int i),true)/\Fall l ys:=by
 obtain⟨B,e,h1,h3⟩:=acJ l h hl hN (by omega)
 have ek:=Tn (l.map λx=>x.1*(B / x.2)) (List.range l.length) λi hi=>by simpa using hi
 refine⟨yg l.length λi=>((List.range l.length).map λi=>(-((l.map λx=>x.1*(B / x.2)).getD i 0),(0:Int))).getD i (0,0),?_,?_⟩
 ·unfold oN RD bF
  have z1:(l.map λx=>Tr.int (x.1*(B / x.2)))=(l.map λx=>x.1*(B / x.2)).map Tr.int:=by rw[List.map_map]; rfl
  rw[z1]at e
  generalize hts:(l.map λx=>x.1*(B / x.2))=ts at e ek ⊢
  have tl:ts.length=l.length:=by rw[<-hts,List.length_map]
  generalize Tr.lst (l.map fT)=T at e ⊢
  have q1:(l.length:Int)<64:=by omega
  simp -dsimp[bW,dr,drs,g1,bB,aZ,bO,e,tl,q1,yh,vG,ek]
 ·have hs:=Q6 l.length λi=>((List.range l.length).map λi=>(-((l.map λx=>x.1*(B / x.2)).getD i 0),(0:Int))).getD i (0,0)
  refine⟨hs.1,?_⟩
  refine hs.2.imp_of_mem λ{i j} hi hj hb=>?_
  have hi':i<l.length:=by simpa using hs.1.mem_iff.mp hi
  have hj':j<l.length:=by simpa using hs.1.mem_iff.mp hj
  have k:∀i,i<l.length->((List.range l.length).map λi=>(-((l.map λx=>x.1*(B / x.2)).getD i 0),(0:Int))).getD i (0,0)=(-(l[i]!.1*(B / l[i]!.2)),0):=λi hi=>by
   rw[List.getD_eq_getElem?_getD,List.getElem?_map,List.getElem?_range hi]
   simp[hi]
  simp only[k i hi',k j hj']at hb
  have g:∀i,i<l.length->l.getD i (0,1)=l[i]! /\ l[i]! ∈ l:=λi hi=>by
   refine⟨by simp[hi],by simp[hi]⟩
  obtain⟨g1,m1⟩:=g i hi'
  obtain⟨g2,m2⟩:=g j hj'
  unfold Km
  rw[g1,g2]
  have t:=top_lt (p:=l[j]!.1) (r:=l[i]!.1) h1 (h _ m2).1 (h _ m1).1 (h3 _ m2) (h3 _ m1)
  rw[<-t.1,<-t.2]
  omega
theorem Ko{T:Tr}(h:lg T=true):mZ [T]=.ok (.non,false):=by
 unfold mZ RG bF
 simp -dsimp[fB,dr,drs,aZ,bO,acF,h]
theorem Kp(k n:Int):ug [.int k,.int n]=.ok (.bl (decide (0<=k)&&decide (k<n)),false):=by
 unfold ug IW bF
 by_cases h:0<=k <;> simp -dsimp[eB,cj,dr,drs,gB,gk,dO,aZ,bO,Kg,isW,h]
theorem acK{rows:List Tr}{k:Nat}(h:k<rows.length):Ja [.lst rows,.int k]=.ok (.non,false):=by
 unfold Ja RJ bF
 have h1:(k:Int)<rows.length:=by omega
 simp -dsimp[fB,dr,drs,g1,bB,aZ,bO,Kp,h1]
theorem Kq{xs:List Tr}{i:Nat}{T:Tr}(h:xs[i]?=some T):aK (.lst xs) (.int i)=.ok (T,false):=by
 obtain⟨hi,e⟩:=List.getElem?_eq_some_iff.mp h
 show(match eX xs i with
  |some t=>Rs.ok (t,false)
  |none=>.bad)=_
 have:eX xs (i:Int)=some T:=by
  unfold eX gM
  simp[hi,e]
 rw[this]
theorem oY{xs:List Tr}{i:Nat}{T:Tr}(h:xs[i]?=some T):aK (.lst xs) (.int i)=.ok (T,false):=Kq h
theorem acL{N:Nat}{rows:List Tr}{k:Nat}{l:List (Int × Int)}(hb:lg (.lst rows)=true)(hk:rows[k]?=some (.lst (l.map fT)))(h:Frs N l)(hl:1+N*l.length<=8000)(hN:N<=8000)(h64:l.length<64):∃ys,Jb [.lst rows,.int k]=.ok (.lst (ys.map λi:Nat=>Tr.int i),true)/\Fall l ys:=by
 obtain⟨ys,e,hf⟩:=Tp l h hl hN h64
 refine⟨ys,?_,hf⟩
 have hk':k<rows.length:=(List.getElem?_eq_some_iff.mp hk).1
 have e1:=Kq hk
 have e2:=acK hk'
 have e3:=Ko hb
 generalize Tr.lst rows=R at e1 e2 e3
 generalize Tr.lst (l.map fT)=T at e e1
 unfold Jb RK bF
 simp -dsimp[bO,drs,dr,aZ,e1,e2,e3,e]
end BH
namespace BH
open PySem L2
def Wo(x:Int × Int):Prop:=0<=x.1/\x.1<=x.2/\1<=x.2/\x.2<=1000000000000/\Int.gcd x.1 x.2=1
instance (x:Int × Int):Decidable (Wo x):=by unfold Wo; infer_instance
def bH(l:List (Int × Int)):Tr:=.lst (l.map fT)
def aH(ls:List (List (Int × Int))):Tr:=.lst (ls.map bH)
def Kr(c:Nat)(ls:List (List (Int × Int))):Prop:=∀l∈ls,l.length=c/\∀x∈l,Wo x
def Bk(c:Nat)(ls:List (List (Int × Int))):Prop:=1<=ls.length/\ls.length<=4/\1<=c/\c<=12/\Kr c ls
theorem Wo.kZ{x:Int × Int}(h:Wo x):kZ (fT x)=true:=by
 obtain⟨h1,h2,h3,h4,h5⟩:=h
 show(decide (0<=x.1)&&decide (x.1<=x.2)&&decide (1<=x.2)&&(Int.gcd x.1 x.2 == 1))=true
 simp[h1,h2,h3,h5]
theorem Wo.frs{l:List (Int × Int)}(h:∀x∈l,Wo x):Frs 40 l:=λx hx=>by
 obtain⟨h1,h2,h3,h4,h5⟩:=h x hx
 exact⟨h3,by omega,by omega⟩
theorem acM{l:List (Int × Int)}(h:∀x∈l,Wo x)(h1:1<=l.length)(h2:l.length<=12):lO 12 (bH l)=true:=by
 show(decide (1<=((l.map fT).length:Int))&&decide (((l.map fT).length:Int)<=12)&&(l.map fT).all kZ)=true
 rw[List.length_map,decide_eq_true (by omega),decide_eq_true (by omega)]
 simp only[Bool.true_and,List.all_eq_true]
 intro t ht
 obtain⟨x,hx,rfl⟩:=List.mem_map.mp ht
 exact(h x hx).kZ
theorem Bk.lg{c:Nat}{ls:List (List (Int × Int))}(h:Bk c ls):lg (aH ls)=true:=by
 obtain⟨h1,h2,h3,h4,h5⟩:=h
 show(decide (1<=((ls.map bH).length:Int))&&decide (((ls.map bH).length:Int)<=4)&&(ls.map bH).all (lO 12)&&(ls.map bH).all λr=>lQ r == lQ ((ls.map bH).headD .non))=true
 rw[List.length_map,decide_eq_true (by omega),decide_eq_true (by omega)]
 simp only[Bool.true_and,Bool.and_eq_true,List.all_eq_true]
 refine⟨λt ht=>?_,λt ht=>?_⟩
 ·obtain⟨l,hl,rfl⟩:=List.mem_map.mp ht
  exact acM (h5 l hl).2 (by have:=(h5 l hl).1; omega) (by have:=(h5 l hl).1; omega)
 ·obtain⟨l,hl,rfl⟩:=List.mem_map.mp ht
  cases ls with
  |nil=>simp at hl
  |cons l0 r =>
   show(lQ (bH l) == lQ (bH l0))=true
   show(((l.map fT).length:Int) == ((l0.map fT).length:Int))=true
   rw[List.length_map,List.length_map,(h5 l hl).1,(h5 l0 (by simp)).1]
   simp
theorem order_eq{c:Nat}{ls:List (List (Int × Int))}(h:Bk c ls){k:Nat}{l:List (Int × Int)}(hk:ls[k]?=some l):∃ys,Jb [aH ls,.int k]=.ok (.lst (ys.map λi:Nat=>Tr.int i),true)/\Fall l ys:=by
 have hl:=h.2.2.2.2 l (List.mem_of_getElem? hk)
 have:=h.2.2.2.1
 exact acL (N:=40) h.lg (by rw[List.getElem?_map,hk]; rfl) (Wo.frs hl.2) (by rw[hl.1]; omega) (by omega) (by rw[hl.1]; omega)
end BH
end
section
namespace L2
open PySem
@[simp] theorem ag2(fa:EF)(ρ : En):ZR fa ρ = bd (fa ρ) (λp=>bd (dr p.2 p.1) (λa=>bd (Qp a) (λz=>.ok (.v z.1 z.2,p.2)) .mk) .mk) .mk:=rfl
end L2
namespace BH
open PySem L2
theorem acN{α : Type}(xs:List α)(k:Nat):L2.cut xs (some (k:Int)) none=xs.drop k:=by
 unfold L2.cut HT.bQ
 by_cases h:(k:Int)<0
 ·omega
 ·simp only[h,if_false,Int.toNat_natCast]
  by_cases z:k<=xs.length
  ·rw[Nat.min_eq_left z]
   exact List.take_of_length_le (by simp)
  ·rw[Nat.min_eq_right (by omega),List.drop_eq_nil_of_le (by omega),List.drop_eq_nil_of_le (by omega)]
   simp
theorem Ks{α : Type}(xs:List α)(k:Nat):L2.cut xs none (some (k:Int))=xs.take k:=by
 unfold L2.cut HT.bQ
 by_cases h:(k:Int)<0
 ·omega
 ·simp only[h,if_false,Int.toNat_natCast,Nat.sub_zero,List.drop_zero]
  by_cases z:k<=xs.length
  ·rw[Nat.min_eq_left z]
  ·rw[Nat.min_eq_right (by omega),List.take_of_length_le (by omega),List.take_of_length_le (by omega)]
def nT(ys:List Nat):Tr:=.lst (ys.map λi:Nat=>Tr.int i)
theorem yO{n:Nat}:∀{ts:List Tr},(∀t∈ts,dep t<=n)->deps ts<=n
 | [],_=>by rw[rZ]; omega
 |t::ts,h=>by
  rw[lN]
  have h1:=h t (by simp)
  have h2:=yO (ts:=ts) λu hu=>h u (by simp[hu])
  omega
theorem Tq(x:Int × Int):dep (fT x)=1:=by unfold fT; rw[vZ,lN,lN,oW,oW,rZ]; rfl
theorem acO(l:List (Int × Int)):dep (bH l)<=2:=by
 unfold bH
 rw[m9]
 have:=yO (n:=1) (ts:=l.map fT) λt ht=>by
  obtain⟨x,_,rfl⟩:=List.mem_map.mp ht
  rw[Tq]; omega
 omega
theorem acP(ls:List (List (Int × Int))):dep (aH ls)<=3:=by
 unfold aH
 rw[m9]
 have:=yO (n:=2) (ts:=ls.map bH) λt ht=>by
  obtain⟨x,_,rfl⟩:=List.mem_map.mp ht
  exact acO x
 omega
theorem Ku{T:Tr}(h:dep T<=40):fG T T=.ok (.bl false,false):=by
 unfold fG
 rw[if_pos ⟨h,h⟩,wQ]
 rfl
theorem acQ{T:Tr}(h:dep T<=40):dw T T=.ok (.bl true,false):=by
 unfold dw
 rw[if_pos ⟨h,h⟩,wQ]
theorem Tt:∀ys:List Nat,rR (ys.map λi:Nat=>Tr.int i)=some (ys.map λi:Nat=>(i:Int))
 | []=>rfl
 |n::r=>by simp[rR,Tt r]
end BH
end
section
namespace BH
open PySem L2
theorem oZ{i:Nat}{b:SF}{u:Tr}{us:List Tr}{ρ ρ1:En}{r:Rs (Fl × En)}(h:b (ρ.set i (.sh u))=.ok (.nx,ρ1))(h':cR (gN i) b us ρ1=r):cR (gN i) b (u::us) ρ = r:=by
 unfold cR
 show(b (ρ.set i (.sh u))).bind _=_
 rw[h]
 exact h'
theorem acR{l:List (Int × Int)}{i:Nat}(h:i<l.length):aK (bH l) (.int i)=.ok (fT (l.getD i (0,1)),false):=Kq (by simp[h])
theorem Tv{α : Type}{r h : α -> Tr}{f:EF}{τ : En}:∀(xs:List α) (s:Sl),(∀x∈xs,∃fr,f (.sh (r x)::τ)=.ok (.v (h x) fr,.sh (r x)::τ))->∃s',fO (gN 0) cF f (xs.map r) (s::τ)=.ok (xs.map h,s'::τ)
 | [],s,_=>⟨s,rfl⟩
 |x::xs,s,q=>by
  obtain⟨fr,e⟩:=q x (by simp)
  obtain⟨s',e'⟩:=Tv xs (.sh (r x)) λv hv=>q v (by simp[hv])
  refine⟨s',?_⟩
  rw[List.map_cons]
  unfold fO
  simp[e,lM,e']
theorem Ky{α : Type}{r : α -> Tr}{c:BF}{p : α -> Bool}{τ : En}:∀(xs:List α) (s:Sl),(∀x∈xs,c (.sh (r x)::τ)=.ok (p x,.sh (r x)::τ))->∃s',fO (gN 0) c (aj 0) (xs.map r) (s::τ)=.ok ((xs.filter p).map r,s'::τ)
 | [],s,_=>⟨s,rfl⟩
 |x::xs,s,q=>by
  have e:=q x (by simp)
  obtain⟨s',e'⟩:=Ky xs (.sh (r x)) λv hv=>q v (by simp[hv])
  refine⟨s',?_⟩
  rw[List.map_cons]
  unfold fO
  cases h:p x with
  |false=>rw[h]at e; simp[e,e',h]
  |true=>rw[h]at e; simp[e,e',h,lM]
theorem yP{α : Type}{r h : α -> Tr}{xs:List α}{ρ τ : En}{rest:List (Option Nat)}{i:IF}{fe:EF}(hl:xs.length<=100000)(hi:i ρ=.ok (xs.map r,ρ))(hτ : dU rest ρ = τ)(hs:∀s',dW (none::rest) (s'::τ) ρ = true)(hd:∀s',bT (none::rest) (s'::τ) ρ = ρ)
  (hf:∀x∈xs,∃fr,fe (.sh (r x)::τ)=.ok (.v (h x) fr,.sh (r x)::τ)):cD (none::rest) i (gN 0) cF fe ρ=.ok (.v (.lst (xs.map h)) true,ρ):=by
 obtain⟨s',e⟩:=Tv xs .un hf
 have hu:dU (none::rest) ρ=.un::τ := by rw[<-hτ]; rfl
 have hl':(xs.map r).length<=100000:=by rw[List.length_map]; exact hl
 rw[J8,hi]
 simp only[rY]
 rw[if_pos hl',hu,e]
 simp only[bW,rY]
 rw[if_pos (hs s'),hd s']
theorem acS{α : Type}{r : α -> Tr}{p : α -> Bool}{xs:List α}{ρ τ : En}{rest:List (Option Nat)}{i:IF}{c:BF}(hl:xs.length<=100000)(hi:i ρ=.ok (xs.map r,ρ))(hτ : dU rest ρ = τ)(hs:∀s',dW (none::rest) (s'::τ) ρ = true)(hd:∀s',bT (none::rest) (s'::τ) ρ = ρ)
  (hf:∀x∈xs,c (.sh (r x)::τ)=.ok (p x,.sh (r x)::τ)):cD (none::rest) i (gN 0) c (aj 0) ρ=.ok (.v (.lst ((xs.filter p).map r)) true,ρ):=by
 obtain⟨s',e⟩:=Ky xs .un hf
 have hu:dU (none::rest) ρ=.un::τ := by rw[<-hτ]; rfl
 have hl':(xs.map r).length<=100000:=by rw[List.length_map]; exact hl
 rw[J8,hi]
 simp only[rY]
 rw[if_pos hl',hu,e]
 simp only[bW,rY]
 rw[if_pos (hs s'),hd s']
def ju(x y:Int × Int):Bool:=decide (x.1*y.2<y.1*x.2)
theorem acT(i j:Int):bR (.int i) (.int j)=.ok (.int (i+j),false):=rfl
theorem nq(n k:Int)(h:0<k):0<=n.fmod k/\n.fmod k<k:=⟨Int.fmod_nonneg_of_pos n h,Int.fmod_lt_of_pos n h⟩
theorem Tw{i:Int}(h : -1000000000000000000<i/\i<1000000000000000000):tiny i=true:=by
 unfold tiny
 rw[Bool.and_eq_true]
 exact⟨decide_eq_true (by omega),decide_eq_true (by omega)⟩
theorem acU{i j:Int}(h : -1000000000000000000<i/\i<1000000000000000000):iB i j=true:=by unfold iB; rw[Tw h]; simp
theorem Kz{i j:Int}(h : -1000000000000000000<j/\j<1000000000000000000):iB i j=true:=by unfold iB; rw[Tw h]; simp
theorem Tz:∀(n m:Nat),L2.upTo (m:Int) n=(List.range' m n).map λi:Nat=>Tr.int i
 | 0,_=>rfl
 |n+1,m=>by
  unfold L2.upTo
  rw[show((m:Int)+1)=((m+1:Nat):Int) by omega,Tz n (m+1),List.range'_succ]
  rfl
theorem uE(n:Nat):L2.upTo 0 n=(List.range n).map λi:Nat=>Tr.int i:=by
 rw[List.range_eq_range']
 exact Tz n 0
end BH
end
section
namespace BH
open PySem L2
def red(a b:Int):Int × Int:=(a / ((Int.gcd a b:Nat):Int),b / ((Int.gcd a b:Nat):Int))
def Fq(M:Nat)(x:Int × Int):Prop:=0<=x.1/\x.1<2 ^ M/\1<=x.2/\x.2<2 ^ M/\Int.gcd x.1 x.2=1
theorem KC(M:Nat):((2 ^ M:Nat):Int)=2 ^ M:=by push_cast; rfl
theorem ag3{a b:Int}{M:Nat}(ha:0<=a)(ha2:a<2 ^ M)(hb:1<=b)(hb2:b<2 ^ M):Fq M (red a b):=by
 obtain⟨g1,g2,g3,g4,g5,g6,g7⟩:=Gi (a:=a) (b:=b) (by omega)
 have d1:=Int.ediv_le_self (a:=a) ((Int.gcd a b:Nat):Int) ha
 have d2:=Int.ediv_le_self (a:=b) ((Int.gcd a b:Nat):Int) (by omega)
 exact⟨g5 ha,by unfold red; dsimp only; omega,g3,by unfold red; dsimp only; omega,g4⟩
def le2(x y:Int × Int):Prop:=x.1*y.2<=y.1*x.2
def sumF(x y:Int × Int):Int × Int:=red (x.1*y.2+y.1*x.2) (x.2*y.2)
def TF(x y:Int × Int):Int × Int:=red (x.1*y.1) (x.2*y.2)
end BH
end
section
namespace BH
open PySem L2
def shF(ps:List ((Int × Int) × (Int × Int)))(t:Int × Int):Int × Int:=ps.foldl (λt p=>sumF t (TF p.1 p.2)) t
def prF(xs:List (Int × Int))(t:Int × Int):Int × Int:=xs.foldl TF t
theorem Wo.fq{x:Int × Int}(h:Wo x):Fq 45 x:=by
 obtain⟨h1,h2,h3,h4,h5⟩:=h
 exact⟨h1,by omega,h3,by omega,h5⟩
def rQ(xs zs:List (Int × Int)):Prop:=zs.Perm xs/\zs.Pairwise λa b=>le2 b a
def LT(xs:List (Int × Int)):Prop:=∀x∈xs,1<=x.2/\Int.gcd x.1 x.2=1
def ov(t x:Int × Int):Bool:=ju t x
end BH
end
section
namespace BH
open PySem L2
inductive Ru where
 |sh (ws:List (Int × Int))|mid (k:Nat)|least|greatest|product
def plc(n:Nat):Ru->Nat
 |.mid k=>k
 |.least=>n
 |.greatest=>1
 |_=>0
def Wv(r:Ru)(xs:List (Int × Int))(v:Int × Int):Prop:=match r with
 |.sh ws=>v=shF (ws.zip xs) (0,1)
 |.product=>v=prF xs (1,1)
 |r=>∃zs,rQ xs zs/\zs[plc xs.length r-1]?=some v
end BH
end
section
namespace K20
open PySem L2 BH
noncomputable def wg:SF:=(aG (cM (cu (aq j5 (aj 2) (aq jQ (eC (.int 10)) (eC (.int 18))))) (bJ (aq bZ (aq mQ (aj 2) (aq jQ (eC (.int 10)) (eC (.int 18)))) (aq jQ (eC (.int 10)) (eC (.int 60))))) cL) (aG (bf (aq bZ (aq bR (aq bR (aq cX (aj 2) (eC (.int 48271))) (aq cX (aj 1) (eC (.int 69621)))) (eC (.int 11))) (eC (.int 2147483629))) (gN 3)) (aG (bf (aq bZ (aq cX (aj 3) (aj 3)) (eC (.int 2147483587))) (gN 3)) (bJ (aq bR (aq cX (aj 3) (eC (.int 2147483563))) (aq bZ (aq cX (aj 3) (aj 3)) (eC (.int 2147483563))))))))
theorem acV:JX=aG (bf (eC (.int 0)) (gN 2)) (aG (cM (cu (aq gk (aj 1) (aR (g1 bB) (ak (aj 0) au)))) (bf (aq aK (aj 0) (aj 1)) (gN 2)) cL) wg):=rfl
theorem TJ:jQ (.int 10) (.int 18)=.ok (.int 1000000000000000000,false):=by kernel_rfl
theorem p60:jQ (.int 10) (.int 60)=.ok (.int 1000000000000000000000000000000000000000000000000000000000000,false):=by kernel_rfl
theorem TQ(s0:Sl)(k:Nat)(cell:Int):∃(x:Int) (ρ : En),wg [s0,.sh (.int k),.sh (.int cell),.un]=.ok (.rt (.int x) false,ρ)/\0<=x/\x<2 ^ 200:=by
 by_cases h:1000000000000000000<=cell
 ·have r:=nq (cell-1000000000000000000) 1000000000000000000000000000000000000000000000000000000000000 (by omega)
  have m60:bZ (.int (cell-1000000000000000000)) (.int 1000000000000000000000000000000000000000000000000000000000000)=.ok (.int ((cell-1000000000000000000).fmod 1000000000000000000000000000000000000000000000000000000000000),false):=by
   show(if decide ((1000000000000000000000000000000000000000000000000000000000000:Int)≠0)=true then Rs.ok (Tr.int ((cell-1000000000000000000).fmod 1000000000000000000000000000000000000000000000000000000000000),false)else .bad)=_
   rw[if_pos (by decide)]
  refine⟨(cell-1000000000000000000).fmod 1000000000000000000000000000000000000000000000000000000000000,[s0,.sh (.int k),.sh (.int cell),.un],?_,r.1,by omega⟩
  unfold wg
  simp -dsimp[dr,TJ,j5,gB,h,cj,p60,mQ,gI,m60]
 ·have c1:iB cell 48271=true:=Kz (by omega)
  have c2:iB k 69621=true:=Kz (by omega)
  have rA:=nq (cell*48271+k*69621+11) 2147483629 (by omega)
  generalize hA:(cell*48271+k*69621+11).fmod 2147483629=A at rA
  have rB:=nq (A*A) 2147483587 (by omega)
  have c3:iB A A=true:=v9 (M:=31) (N:=31) (by omega) (by omega) (by omega) (by omega)
  generalize hB:(A*A).fmod 2147483587=B at rB
  have c4:iB B B=true:=v9 (M:=31) (N:=31) (by omega) (by omega) (by omega) (by omega)
  have c5:iB B 2147483563=true:=Kz (by omega)
  have rC:=nq (B*B) 2147483563 (by omega)
  generalize hC:(B*B).fmod 2147483563=C at rC
  refine⟨B*2147483563+C,[s0,.sh (.int k),.sh (.int cell),.sh (.int B)],?_,by omega,by omega⟩
  unfold wg
  simp -dsimp[dr,TJ,j5,gB,h,cj,cX,eZ,c1,c2,c3,c4,c5,bR,gI,bZ,hA,hB,hC]
theorem cell_eq(ns:List Int)(k:Nat):∃x:Int,jo [.lst (ns.map .int),.int k]=.ok (.int x,false)/\0<=x/\x<2 ^ 200:=by
 unfold jo
 rw[acV]
 have el:bB (.lst (ns.map .int))=.ok (.int (ns.length:Int),false):=by
  show Rs.ok (Tr.int ((ns.map Tr.int).length:Int),false)=_
  rw[List.length_map]
 by_cases h:k<ns.length
 ·have e:=oY (xs:=ns.map .int) (i:=k) (T:=.int ns[k]) (by simp[h])
  obtain⟨x,ρ,e1,r⟩:=TQ (.sh (.lst (ns.map .int))) k ns[k]
  refine⟨x,?_,r⟩
  unfold bF
  generalize wg=G at e1 ⊢
  generalize ns[k]=cell at e e1
  have q:(k:Int)<ns.length:=by omega
  generalize Tr.lst (ns.map .int)=T at *
  simp -dsimp[bO,dr,drs,g1,el,gk,gB,q,cj,e,e1]
 ·obtain⟨x,ρ,e1,r⟩:=TQ (.sh (.lst (ns.map .int))) k 0
  refine⟨x,?_,r⟩
  unfold bF
  generalize wg=G at e1 ⊢
  have q:¬(k:Int)<ns.length:=by omega
  generalize Tr.lst (ns.map .int)=T at *
  simp -dsimp[bO,dr,drs,g1,el,gk,gB,q,cj,e1]
end K20
end
section
namespace K20
open PySem L2 BH
def fc:BF:=cu (aq jw (aj 3) (eC (.int 0)))
def fb:SF:=tK 2 3 (ak (aj 3) (ak (aq bZ (aj 2) (aj 3)) au))
theorem acW(s0 s1:Sl)(a b:Int):fc [s0,s1,.sh (.int a),.sh (.int b)]=.ok (decide (b > 0),[s0,s1,.sh (.int a),.sh (.int b)]):=rfl
theorem acX(s0 s1:Sl)(a b:Int)(h:b≠0):fb [s0,s1,.sh (.int a),.sh (.int b)]=.ok (.nx,[s0,s1,.sh (.int b),.sh (.int (a.fmod b))]):=by
 unfold fb; simp -dsimp[dr,cls,eZ,bZ,h]
theorem TV(s0 s1:Sl):∀(n:Nat) (a b:Int),0<=a->0<=b->b.natAbs<n->pU fc fb n [s0,s1,.sh (.int a),.sh (.int b)]=.ok (.nx,[s0,s1,.sh (.int ((Int.gcd a b:Nat):Int)),.sh (.int 0)])
 | 0,a,b,_,_,h=>by omega
 |n+1,a,b,ha,hb,h=>by
  unfold pU
  rw[acW]
  by_cases z:b=0
  ·subst z
   have:((Int.gcd a 0:Nat):Int)=a:=by rw[Int.gcd_zero_right]; omega
   rw[this]
   rfl
  ·have p:0<b:=by omega
   have r:=nq a b p
   have ih:=TV s0 s1 n b (a.fmod b) hb r.1 (by have:=Oz a b z; omega)
   have e:decide (b > 0)=true:=by simpa using p
   simp only[Rs.bind,e,if_true]
   rw[acX s0 s1 a b z]
   rw[OD]at ih
   exact ih
def Gp:SF:=(aG (cM (cu (aq gk (aj 1) (eC (.int 0)))) (bf (aq mQ (eC (.int 0)) (aj 2)) (gN 2)) cL) (bJ (jx (ak (aq cJ (aj 0) (aj 2)) (ak (aq cJ (aj 1) (aj 2)) au)))))
theorem acY:JZ=(aG (bf (aR (g1 jR) (ak (aj 0) au)) (gN 2)) (aG (bf (aR (g1 jR) (ak (aj 1) au)) (gN 3)) (aG (bN (nY (pZ 3) fc fb)) Gp))):=rfl
theorem acZ{a b:Int}{M:Nat}(ha:0<=a)(hb:1<=b)(hb2:b<2 ^ M)(hM:M<=8000):vU [.int a,.int b]=.ok (fT (red a b),false):=by
 obtain⟨g1,g2,_⟩:=Gi (a:=a) (b:=b) (by omega)
 have e1:a.fdiv (Int.gcd a b:Nat)=a / (Int.gcd a b:Nat):=Int.fdiv_eq_ediv_of_nonneg _ (by omega)
 have e2:b.fdiv (Int.gcd a b:Nat)=b / (Int.gcd a b:Nat):=Int.fdiv_eq_ediv_of_nonneg _ (by omega)
 have np:=KC M
 have a1:jR (.int a)=.ok (.int a,false):=by
  show Rs.ok (Tr.int (if a<0 then -a else a),false)=_
  rw[if_neg (by omega)]
 have a2:jR (.int b)=.ok (.int b,false):=by
  show Rs.ok (Tr.int (if b<0 then -b else b),false)=_
  rw[if_neg (by omega)]
 have w:bN (nY (pZ 3) fc fb) [.sh (.int a),.sh (.int b),.sh (.int a),.sh (.int b)]=.ok (.nx,[.sh (.int a),.sh (.int b),.sh (.int ((Int.gcd a b:Nat):Int)),.sh (.int 0)]):=by
  unfold bN nY
  rw[show pZ 3 [.sh (.int a),.sh (.int b),.sh (.int a),.sh (.int b)]=b.natAbs+1 from rfl,TV _ _ _ a b ha (by omega) (by omega)]
  rfl
 unfold vU
 rw[acY]
 unfold bF Gp fT red
 generalize hg:((Int.gcd a b:Nat):Int)=g at *
 have h3:¬b<0:=by omega
 have c1:∀n,jE n g=true:=λn=>oX (M:=M) (by omega) (by omega) hM
 generalize bN (nY (pZ 3) fc fb)=G at w ⊢
 simp -dsimp[bO,dr,drs,cls,a1,a2,L2.g1,w,gk,gB,h3,cj,cJ,eZ,c1,e1,e2]
theorem ac0{x y:Int × Int}{M N:Nat}(hx:Fq M x)(hy:Fq N y)(hM:M+N<=8000):vV [fT x,fT y]=.ok (.bl (ju x y),false):=by
 obtain⟨x1,x2,x3,x4,_⟩:=hx
 obtain⟨y1,y2,y3,y4,_⟩:=hy
 have nM:=KC M
 have nN:=KC N
 have c1:iB x.1 y.2=true:=v9 (M:=M) (N:=N) (by omega) (by omega) (by omega) (by omega)
 have c2:iB y.1 x.2=true:=v9 (M:=N) (N:=M) (by omega) (by omega) (by omega) (by omega)
 unfold vV J0 bF fT
 simp -dsimp[bW,dF,oH,cN,con,gP,eB,cj,fB,dr,drs,cls,lM,tU,g1,g2,gI,eZ,gB,dw,fG,fK,bR,cX,cJ,bZ,jQ,mQ,gk,jw,dO,j5,aK,bB,jR,iR,GR,GX,GZ,eE,g8,okR,jF,aZ,others,dU,bT,dW,j7,iV,oW,J9,Ka,Kc,vZ,m9,rZ,lN,v7,Kd,Kf,gF,eX,gM,bO,c1,c2,ju]
end K20
end
section
namespace K20
open PySem L2 BH
@[simp] theorem ac1(src:List (Option Nat))(n:Nat)(g:GF)(c:BF)(f:EF)(ρ : En):vI src n g c f ρ = bd (con ρ n) (λus=>if us.length<=100000 then bd (bW (fO g c f us (dU src ρ))) (λz=>if dW src z.2 ρ = true then .ok (.v (.lst z.1) true,bT src z.2 ρ)else .bad) .mk else .bad) .mk:=rfl
theorem ac2{α : Type}{r : α -> Tr}{p : α -> Bool}{xs:List α}{ρ τ : En}{rest:List (Option Nat)}{n:Nat}{c:BF}(hl:xs.length<=100000)(hi:con ρ n=.ok (xs.map r))(hτ : dU rest ρ = τ)(hs:∀s',dW (none::rest) (s'::τ) ρ = true)(hd:∀s',bT (none::rest) (s'::τ) ρ = ρ)
  (hf:∀x∈xs,c (.sh (r x)::τ)=.ok (p x,.sh (r x)::τ)):vI (none::rest) n (gN 0) c (aj 0) ρ=.ok (.v (.lst ((xs.filter p).map r)) true,ρ):=by
 obtain⟨s',e⟩:=Ky xs .un hf
 have hu:dU (none::rest) ρ=.un::τ := by rw[<-hτ]; rfl
 have hl':(xs.map r).length<=100000:=by rw[List.length_map]; exact hl
 rw[ac1,hi]
 simp only[rY]
 rw[if_pos hl',hu,e]
 simp only[bW,rY]
 rw[if_pos (hs s'),hd s']
theorem pref{α : Type}{p : α -> Bool}:∀zs:List α,zs.Pairwise (λa b=>p b=true->p a=true)->(∀a∈zs.take (zs.filter p).length,p a=true)/\∀b∈zs.drop (zs.filter p).length,p b=false
 | [],_=>⟨λ_ h=>by simp at h,λ_ h=>by simp at h⟩
 |a::l,h=>by
  obtain⟨h1,h2⟩:=List.pairwise_cons.mp h
  obtain⟨i1,i2⟩:=pref l h2
  cases e:p a with
  |true =>
   rw[List.filter_cons_of_pos e,List.length_cons,List.take_succ_cons,List.drop_succ_cons]
   refine⟨λb hb=>?_,i2⟩
   rcases List.mem_cons.mp hb with rfl|hb
   ·exact e
   ·exact i1 b hb
  |false =>
   have hf:∀b∈l,p b=false:=λb hb=>by
    cases z:p b with
    |false=>rfl
    |true=>rw[h1 b hb z]at e; cases e
   have:(a::l).filter p=[]:=by
    rw[List.filter_eq_nil_iff]
    intro b hb
    rcases List.mem_cons.mp hb with rfl|hb
    ·rw[e]; simp
    ·rw[hf b hb]; simp
   rw[this]
   refine⟨λb hb=>by simp at hb,λb hb=>?_⟩
   rcases List.mem_cons.mp hb with rfl|hb
   ·exact e
   ·exact hf b hb
def iT(i:Nat):Tr:=.int (i:Nat)
def vT(V:Nat->Int × Int)(c:Nat):Tr:=.lst ((List.range c).map λi=>fT (V i))
theorem TY{V:Nat->Int × Int}{c i:Nat}(h:i<c):aK (vT V c) (iT i)=.ok (fT (V i),false):=oY (by simp[h])
def Bf(V:Nat->Int × Int)(i j:Nat):Prop:=(V j).1*(V i).2<(V i).1*(V j).2\/((V j).1*(V i).2=(V i).1*(V j).2/\i<j)
def KD:BF:=(dR (dY (aX vV (ak (aq aK (aj 1) (aj 0)) (ak (aq aK (aj 1) (aj 2)) au)))))
def T3:SF:=(bf (aR (g1 bB) (ak (vI [none,some 0,some 2] 1 (gN 0) KD (aj 0)) au)) (gN 3))
def yQ:SF:=(aG T3 (fJ (iU 1 rT (ak (aj 3) (ak (aj 2) au)))))
theorem ac3{V:Nat->Int × Int}{c:Nat}(hV:∀i,i<c->Fq 400 (V i))(hc:c<=12){n:Nat}(hn:n<c){zs:List Nat}(hp:zs.Perm (List.range n))(hs:zs.Pairwise (Bf V))(s3:Sl):∃(zs':List Nat) (t3:Sl),yQ [.sh (vT V c),.ow (zs.map iT),.sh (iT n),s3]=.ok (.nx,[.sh (vT V c),.ow (zs'.map iT),.sh (iT n),t3])/\zs'.Perm (List.range (n+1))/\zs'.Pairwise (Bf V):=by
 have hz:∀z∈zs,z<n:=λz m=>by simpa using hp.mem_iff.mp m
 have hl:zs.length=n:=by simpa using hp.length_eq
 have ec:=ac2 (r:=iT) (p:=λz=>!ju (V z) (V n)) (xs:=zs) (ρ:=[.sh (vT V c),.ow (zs.map iT),.sh (iT n),s3]) (rest:=[some 0,some 2]) (n:=1) (c:=KD) (by omega) rfl rfl (λs'=>rfl) (λs'=>rfl) (λz m=>by
  have zc:z<c:=by have:=hz z m; omega
  have e:=ac0 (hV z zc) (hV n hn) (by omega)
  have e0:=TY (V:=V) hn
  have e1:=TY (V:=V) zc
  unfold KD
  dsimp only[dU,List.map]
  generalize fT (V n)=Y,fT (V z)=X,vT V c=W,iT n=N,iT z=Z,ju (V z) (V n)=B at *
  simp -dsimp[iV,drs,dr,aZ,e,e0,e1,fB])
 obtain⟨p1,p2⟩:=pref (p:=λz=>!ju (V z) (V n)) zs (hs.imp_of_mem λ{a b} ma mb hab pb=>by
  obtain⟨_,_,a3,_⟩:=hV a (by have:=hz a ma; omega)
  obtain⟨_,_,b3,_⟩:=hV b (by have:=hz b mb; omega)
  obtain⟨_,_,n3,_⟩:=hV n hn
  have hab:(V b).1*(V a).2<=(V a).1*(V b).2:=by
   rcases hab with h|h <;> omega
  unfold ju at *
  simp only[Bool.not_eq_true',decide_eq_false_iff_not,Int.not_lt]at pb ⊢
  refine Int.le_of_mul_le_mul_right (show(V n).1*(V a).2*(V b).2<=(V a).1*(V n).2*(V b).2 from ?_) (show 0<(V b).2 by omega)
  have x1:=Int.mul_le_mul_of_nonneg_right pb (show 0<=(V a).2 by omega)
  have x2:=Int.mul_le_mul_of_nonneg_right hab (show 0<=(V n).2 by omega)
  calc (V n).1*(V a).2*(V b).2=(V n).1*(V b).2*(V a).2:=by ac_rfl
   _<=(V b).1*(V n).2*(V a).2:=x1
   _=(V b).1*(V a).2*(V n).2:=by ac_rfl
   _<=(V a).1*(V b).2*(V n).2:=x2
   _=(V a).1*(V n).2*(V b).2:=by ac_rfl)
 have ql:(zs.filter λz=>!ju (V z) (V n)).length<=zs.length:=List.length_filter_le ..
 have el:bB (.lst ((zs.filter λz=>!ju (V z) (V n)).map iT))=.ok (.int ((zs.filter λz=>!ju (V z) (V n)).length:Int),false):=by
  show Rs.ok (Tr.int (((zs.filter λz=>!ju (V z) (V n)).map iT).length:Int),false)=_
  rw[List.length_map]
 generalize hq:(zs.filter λz=>!ju (V z) (V n)).length=q at *
 refine⟨zs.take q++n::zs.drop q,.sh (.int (q:Nat)),?_,?_,?_⟩
 ·have em:rT (zs.map iT) [.int (q:Nat),iT n]=.ok ((zs.take q++n::zs.drop q).map iT,.non):=by
   show(if 0<=(q:Int)/\(q:Int).toNat<=(zs.map iT).length/\(zs.map iT).length<=100000 then Rs.ok ((zs.map iT).take (q:Int).toNat++iT n::(zs.map iT).drop (q:Int).toNat,Tr.non)else .bad)=_
   rw[List.length_map,Int.toNat_natCast,if_pos (by omega),List.map_append,List.map_cons,List.map_take,List.map_drop]
  generalize (zs.take q++n::zs.drop q).map iT=R at *
  unfold yQ T3
  generalize vI _ _ _ _ _=G at ec ⊢
  generalize vT V c=X,iT n=N,zs.map iT=L,Tr.lst ((zs.filter λz=>!ju (V z) (V n)).map iT)=FL at *
  simp -dsimp[con,drs,dr,cls,g1,ec,el,em,cN]
 ·have:(zs.take q++n::zs.drop q).Perm (n::(zs.take q++zs.drop q)):=List.perm_middle
  rw[List.take_append_drop]at this
  rw[List.range_succ]
  exact this.trans ((hp.cons n).trans (List.perm_append_comm (l₁:=[n])))
 ·have hs':(zs.take q++zs.drop q).Pairwise (Bf V):=by rw[List.take_append_drop]; exact hs
  obtain⟨a1,a2,a3⟩:=List.pairwise_append.mp hs'
  refine List.pairwise_append.mpr ⟨a1,List.pairwise_cons.mpr ⟨λb mb=>?_,a2⟩,λa ma b mb=>?_⟩
  ·have:=p2 b mb
   unfold ju at this
   simp only[Bool.not_eq_false',decide_eq_true_eq]at this
   exact .inl this
  rcases List.mem_cons.mp mb with rfl|mb
  ·have h1:=p1 a ma
   have h2:=hz a (List.mem_of_mem_take ma)
   unfold ju at h1
   simp only[Bool.not_eq_true',decide_eq_false_iff_not,Int.not_lt]at h1
   unfold Bf
   omega
  ·exact a3 a ma b mb
theorem T4{V:Nat->Int × Int}{c:Nat}(hV:∀i,i<c->Fq 400 (V i))(hc:c<=12):∀(k n:Nat) (zs:List Nat) (s2 s3:Sl),n+k=c->zs.Perm (List.range n)->zs.Pairwise (Bf V)->∃(zs':List Nat) (t2 t3:Sl),cR (gN 2) yQ ((List.range' n k).map iT) [.sh (vT V c),.ow (zs.map iT),s2,s3]=.ok (.nx,[.sh (vT V c),.ow (zs'.map iT),t2,t3])/\zs'.Perm (List.range c)/\zs'.Pairwise (Bf V)
 | 0,n,zs,s2,s3,h,hp,hs=>by
  have:n=c:=by omega
  subst this
  exact⟨zs,s2,s3,rfl,hp,hs⟩
 |k+1,n,zs,s2,s3,h,hp,hs=>by
  obtain⟨zs1,r3,e,p1,p2⟩:=ac3 hV hc (n:=n) (by omega) hp hs s3
  obtain⟨zs',t2,t3,e',q1,q2⟩:=T4 hV hc k (n+1) zs1 (.sh (iT n)) r3 (by omega) p1 p2
  refine⟨zs',t2,t3,?_,q1,q2⟩
  rw[List.range'_succ,List.map_cons]
  unfold cR
  rw[show(gN 2) (iT n) [.sh (vT V c),.ow (zs.map iT),s2,s3]=.ok [.sh (vT V c),.ow (zs.map iT),.sh (iT n),s3]from rfl]
  simp only[Rs.gG]
  rw[e]
  exact e'
theorem ac4{V:Nat->Int × Int}{c:Nat}(hV:∀i,i<c->Fq 400 (V i))(hc:c<=12):∃zs:List Nat,m8 [vT V c]=.ok (.lst (zs.map iT),true)/\zs.Perm (List.range c)/\zs.Pairwise (Bf V):=by
 obtain⟨zs,t2,t3,e,p1,p2⟩:=T4 hV hc c 0 [] .un .un (by omega) (by simp) .nil
 refine⟨zs,?_,p1,p2⟩
 have e2:bN (bY (dh (ak (aR (g1 bB) (ak (aj 0) au)) au)) (gN 2) yQ) [.sh (vT V c),.ow [],.un,.un]=.ok (.nx,[.sh (vT V c),.ow (zs.map iT),t2,t3]):=by
  have el:bB (vT V c)=.ok (.int (c:Nat),false):=by
   show Rs.ok (Tr.int (((List.range c).map λi=>fT (V i)).length:Int),false)=_
   rw[List.length_map,List.length_range]
  have ef:dh (ak (aR (g1 bB) (ak (aj 0) au)) au) [.sh (vT V c),.ow [],.un,.un]=.ok ((List.range' 0 c).map iT,[.sh (vT V c),.ow [],.un,.un]):=by
   generalize vT V c=W at *
   rw[<-List.range_eq_range']
   have ok:okR (c:Int)=true:=by
    unfold okR
    simp
    omega
   simp -dsimp[drs,dr,aZ,g1,el,ok]
   exact uE c
  generalize dh _=G at ef ⊢
  unfold bN bY
  simp -dsimp[ef]
  rw[show([]:List Tr)=([]:List Nat).map iT from rfl,e]
  rfl
 show bF 4 (aG (gZ 1 (gH au)) (aG (bN (bY (dh (ak (aR (g1 bB) (ak (aj 0) au)) au)) (gN 2) yQ)) (bJ (aj 1)))) [vT V c]=_
 generalize bN _=G at e2 ⊢
 generalize vT V c=W,zs.map iT=L at *
 unfold bF
 simp -dsimp[bO,cls,e2]
theorem ac5(l:List (Int × Int)):vT (λi=>l.getD i (0,1)) l.length=.lst (l.map fT):=by
 unfold vT
 congr 1
 refine List.ext_getElem (by simp) λi h1 h2=>?_
 have:i<l.length:=by simpa using h1
 simp[this]
theorem order_eq{l:List (Int × Int)}(h:∀x∈l,Fq 400 x)(hc:l.length<=12):∃zs:List Nat,m8 [.lst (l.map fT)]=.ok (.lst (zs.map iT),true)/\Fall l zs:=by
 obtain⟨zs,e,p1,p2⟩:=ac4 (V:=λi=>l.getD i (0,1)) (c:=l.length) (λi hi=>h _ (by simp[hi])) hc
 rw[ac5]at e
 exact⟨zs,e,p1,p2⟩
end K20
end
section
namespace K20
open PySem L2 BH
theorem ac6{z b:Int}(h0:0<=z)(h1:z<=b)(h2:1<=b)(h3:b<=1000000000000):Wo (red z b):=by
 obtain⟨g1,g2,g3,g4,g5,g6,g7⟩:=Gi (a:=z) (b:=b) (by omega)
 have d2:=Int.ediv_le_self (a:=b) ((Int.gcd z b:Nat):Int) (by omega)
 have d3:=Int.ediv_le_ediv g1 h1
 exact⟨g5 h0,d3,g3,by show b / ((Int.gcd z b:Nat):Int)<=_; omega,g4⟩
def Dj:SF:=(cM (cu (aq jw (aj 7) (eC (.int 100)))) (bf (aX jo (ak (aj 0) (ak (aq bZ (aq bR (aq bR (aq bR (aj 1) (eC (.int 1))) (aj 9)) (aq cX (eC (.int 5)) (aj 12))) (eC (.int 63))) au))) (gN 10)) cL)
def KH:SF:=(aG (fJ (iU 11 fX (ak (aX vU (ak (aq bZ (aj 10) (aq bR (aj 7) (eC (.int 1)))) (ak (aj 7) au))) au))) (bf (aq cJ (aj 10) (aq bR (aj 7) (eC (.int 1)))) (gN 10)))
section
variable (ns:List Int)(a:Nat)(s2 s3 s4 s5 s6:Sl){b:Int}(B:List Tr)(k:Nat)
theorem ac7(o:Int)(R:List Tr)(j:Nat):∃o',Dj [.sh (.lst (ns.map .int)),.sh (.int a),s2,s3,s4,s5,s6,.sh (.int b),.ow B,.sh (.int k),.sh (.int o),.ow R,.sh (.int j)]=.ok (.nx,[.sh (.lst (ns.map .int)),.sh (.int a),s2,s3,s4,s5,s6,.sh (.int b),.ow B,.sh (.int k),.sh (.int o'),.ow R,.sh (.int j)]):=by
 by_cases h:b > 100
 ·obtain⟨r1,r2⟩:=nq ((a:Int)+1+k+5*j) 63 (by omega)
  obtain⟨x,e,_⟩:=cell_eq ns (((a:Int)+1+k+5*j).fmod 63).toNat
  rw[Int.toNat_of_nonneg r1]at e
  refine⟨x,?_⟩
  have c1:iB 5 j=true:=acU (by omega)
  unfold Dj
  generalize Tr.lst (ns.map .int)=T at *
  generalize hy:((a:Int)+1+k+5*j).fmod 63=y at *
  simp -dsimp[dr,drs,aZ,jw,gB,cj,h,bR,gI,cX,eZ,c1,bZ,hy,e]
 ·refine⟨o,?_⟩
  unfold Dj
  have h':¬(100<b):=h
  generalize Tr.lst (ns.map .int)=T at *
  simp -dsimp[dr,jw,gB,cj,h',h]
theorem ac8(hb:1<=b)(hb2:b<=1000000000000)(o:Int)(l:List (Int × Int))(hl:l.length<=1000)(s12:Sl):∃(x:Int × Int) (o':Int),Wo x/\KH [.sh (.lst (ns.map .int)),.sh (.int a),s2,s3,s4,s5,s6,.sh (.int b),.ow B,.sh (.int k),.sh (.int o),.ow (l.map fT),s12]=.ok (.nx,[.sh (.lst (ns.map .int)),.sh (.int a),s2,s3,s4,s5,s6,.sh (.int b),.ow B,.sh (.int k),.sh (.int o'),.ow ((l++[x]).map fT),s12]):=by
 have r:=nq o (b+1) (by omega)
 have h0:b+1≠0:=by omega
 have e:=acZ (a:=o.fmod (b+1)) (b:=b) (M:=40) r.1 hb (by omega) (by omega)
 have c1:jE o (b+1)=true:=oX (M:=50) h0 (by omega) (by omega)
 refine⟨red (o.fmod (b+1)) b,o.fdiv (b+1),ac6 r.1 (by omega) hb hb2,?_⟩
 rw[List.map_append,List.map_cons,List.map_nil]
 unfold KH
 generalize Tr.lst (ns.map .int)=T at *
 generalize hy:o.fmod (b+1)=y at *
 generalize fT (red y b)=X at *
 have hL:(l.map fT).length<=100000:=by rw[List.length_map]; omega
 generalize l.map fT=L at *
 generalize hz:o.fdiv (b+1)=z at *
 simp -dsimp[dr,drs,aZ,cls,con,cN,fX,bR,gI,eZ,bZ,cJ,h0,c1,hy,hz,e,hL]
def Dk:SF:=(aG Dj KH)
theorem T5(hb:1<=b)(hb2:b<=1000000000000):∀(m j:Nat) (o:Int) (l:List (Int × Int)) (s12:Sl),l.length+m<=1000->(∀x∈l,Wo x)->∃(l':List (Int × Int)) (o':Int) (iH:Sl),l'.length=l.length+m/\(∀x∈l',Wo x) /\
  cR (gN 12) Dk ((List.range' j m).map iT) [.sh (.lst (ns.map .int)),.sh (.int a),s2,s3,s4,s5,s6,.sh (.int b),.ow B,.sh (.int k),.sh (.int o),.ow (l.map fT),s12]=.ok (.nx,[.sh (.lst (ns.map .int)),.sh (.int a),s2,s3,s4,s5,s6,.sh (.int b),.ow B,.sh (.int k),.sh (.int o'),.ow (l'.map fT),iH])
 | 0,j,o,l,s12,_,h=>⟨l,o,s12,rfl,h,rfl⟩
 |m+1,j,o,l,s12,hm,h=>by
  obtain⟨o1,e1⟩:=ac7 ns a s2 s3 s4 s5 s6 (b:=b) B k o (l.map fT) j
  obtain⟨x,o2,hx,e2⟩:=ac8 ns a s2 s3 s4 s5 s6 B k hb hb2 o1 l (by omega) (.sh (.int j))
  obtain⟨l',o',iH,h1,h2,e3⟩:=T5 hb hb2 m (j+1) o2 (l++[x]) (.sh (.int j)) (by rw[List.length_append,List.length_singleton]; omega) (λy hy=>by
   rcases List.mem_append.mp hy with hy|hy
   ·exact h y hy
   ·rw[List.mem_singleton.mp hy]; exact hx)
  refine⟨l',o',iH,by rw[h1,List.length_append,List.length_singleton]; omega,h2,?_⟩
  rw[List.range'_succ,List.map_cons]
  refine oZ ?_ e3
  show Dk [.sh (.lst (ns.map .int)),.sh (.int a),s2,s3,s4,s5,s6,.sh (.int b),.ow B,.sh (.int k),.sh (.int o),.ow (l.map fT),.sh (.int j)]=_
  unfold Dk aG
  rw[e1]
  exact e2
end
end K20
end
section
namespace K20
open PySem L2 BH
def Dl:SF:=(bY (dh (ak (aj 5) au)) (gN 12) Dk)
def wj:SF:=(aG (bf (aX jo (ak (aj 0) (ak (aq bR (aq bR (aj 1) (eC (.int 1))) (aj 9)) au))) (gN 10)) (aG (gZ 11 (gH au)) (aG Dl (lJ 11 (fJ (iU 8 fX (ak (aj 11) au)))))))
theorem ac9:J1=(aG (bf (aX jo (ak (aj 0) (ak (aj 1) au))) (gN 4)) (aG (bf (aq bR (eC (.int 1)) (aq bZ (aj 4) (aj 3))) (gN 5)) (aG (bf (aq bR (eC (.int 1)) (aq bZ (aq cJ (aj 4) (aj 3)) (aj 2))) (gN 6)) (aG (bf (aq aK (rN [.int 2,.int 3,.int 4,.int 6,.int 10,.int 24,.int 97,.int 999999999999]) (aq bZ (aq cJ (aj 4) (eC (.int 1000))) (eC (.int 8)))) (gN 7)) (aG (gZ 8 (gH au)) (aG (bN (bY (dh (ak (aj 6) au)) (gN 9) wj)) (bJ (aj 8)))))))):=rfl
section
variable (ns:List Int)(a:Nat)(s2 s3 s4 s6:Sl){b:Int}{m:Nat}
theorem wk{n:Nat}(h:n<=1000):okR (n:Int)=true:=by
 unfold okR
 simp
 omega
theorem ada(hb:1<=b)(hb2:b<=1000000000000)(hm:m<=12)(B:List Tr)(k:Nat)(o:Int)(s12:Sl):∃(l:List (Int × Int)) (o':Int) (iH:Sl),l.length=m/\(∀x∈l,Wo x)/\Dl [.sh (.lst (ns.map .int)),.sh (.int a),s2,s3,s4,.sh (.int m),s6,.sh (.int b),.ow B,.sh (.int k),.sh (.int o),.ow [],s12]=.ok (.nx,[.sh (.lst (ns.map .int)),.sh (.int a),s2,s3,s4,.sh (.int m),s6,.sh (.int b),.ow B,.sh (.int k),.sh (.int o'),.ow (l.map fT),iH]):=by
 obtain⟨l,o',iH,h1,h2,e⟩:=T5 ns a s2 s3 s4 (.sh (.int m)) s6 B k hb hb2 m 0 o [] s12 (by simp; omega) (λx hx=>by cases hx)
 refine⟨l,o',iH,by simpa using h1,h2,?_⟩
 have ef:dh (ak (aj 5) au) [.sh (.lst (ns.map .int)),.sh (.int a),s2,s3,s4,.sh (.int m),s6,.sh (.int b),.ow B,.sh (.int k),.sh (.int o),.ow [],s12]=.ok ((List.range' 0 m).map iT,[.sh (.lst (ns.map .int)),.sh (.int a),s2,s3,s4,.sh (.int m),s6,.sh (.int b),.ow B,.sh (.int k),.sh (.int o),.ow [],s12]):=by
  generalize Tr.lst (ns.map .int)=T at *
  rw[<-List.range_eq_range']
  have ok:=wk (n:=m) (by omega)
  simp -dsimp[drs,dr,aZ,ok]
  exact uE m
 unfold Dl
 generalize dh _=G at ef ⊢
 unfold bY
 simp only[ef]
 exact e
theorem adb(hb:1<=b)(hb2:b<=1000000000000)(hm:m<=12)(rows:List (List (Int × Int)))(hr:rows.length<=1000)(k:Nat)(gW gQ s12:Sl):∃(l:List (Int × Int)) (t10 t11 iH:Sl),l.length=m/\(∀x∈l,Wo x)/\wj [.sh (.lst (ns.map .int)),.sh (.int a),s2,s3,s4,.sh (.int m),s6,.sh (.int b),.ow (rows.map bH),.sh (.int k),gW,gQ,s12]=.ok (.nx,[.sh (.lst (ns.map .int)),.sh (.int a),s2,s3,s4,.sh (.int m),s6,.sh (.int b),.ow ((rows++[l]).map bH),.sh (.int k),t10,t11,iH]):=by
 obtain⟨x,e,_⟩:=cell_eq ns (a+1+k)
 have ec:(((a+1+k:Nat)):Int)=(a:Int)+1+k:=by omega
 rw[ec]at e
 obtain⟨l,o',iH,h1,h2,e2⟩:=ada ns a s2 s3 s4 s6 hb hb2 hm (rows.map bH) k x s12
 refine⟨l,.sh (.int o'),.sh (bH l),iH,h1,h2,?_⟩
 have hL:(rows.map bH).length<=100000:=by rw[List.length_map]; omega
 rw[List.map_append,List.map_cons,List.map_nil]
 have eR:Tr.lst (l.map fT)=bH l:=rfl
 unfold wj
 generalize rows.map bH=L,Tr.lst (ns.map .int)=T,Dl=G at *
 have ef:dF 11 [.sh T,.sh (.int a),s2,s3,s4,.sh (.int m),s6,.sh (.int b),.ow L,.sh (.int k),.sh (.int o'),.ow (l.map fT),iH]=[.sh T,.sh (.int a),s2,s3,s4,.sh (.int m),s6,.sh (.int b),.ow L,.sh (.int k),.sh (.int o'),.sh (.lst (l.map fT)),iH]:=rfl
 rw[eR]at ef
 generalize bH l=X at *
 simp -dsimp[dr,drs,aZ,cls,con,cN,fX,bR,gI,e,e2,ef,hL]
theorem T6(hb:1<=b)(hb2:b<=1000000000000)(hm:m<=12):∀(w k:Nat) (rows:List (List (Int × Int))) (s9 gW gQ s12:Sl),rows.length+w<=1000->Kr m rows->∃(yR:List (List (Int × Int))) (t9 t10 t11 iH:Sl),yR.length=rows.length+w/\Kr m yR /\
  cR (gN 9) wj ((List.range' k w).map iT) [.sh (.lst (ns.map .int)),.sh (.int a),s2,s3,s4,.sh (.int m),s6,.sh (.int b),.ow (rows.map bH),s9,gW,gQ,s12]=.ok (.nx,[.sh (.lst (ns.map .int)),.sh (.int a),s2,s3,s4,.sh (.int m),s6,.sh (.int b),.ow (yR.map bH),t9,t10,t11,iH])
 | 0,k,rows,s9,gW,gQ,s12,_,h=>⟨rows,s9,gW,gQ,s12,rfl,h,rfl⟩
 |w+1,k,rows,s9,gW,gQ,s12,hw,h=>by
  obtain⟨l,r10,r11,r12,h1,h2,e1⟩:=adb ns a s2 s3 s4 s6 hb hb2 hm rows (by omega) k gW gQ s12
  obtain⟨yR,t9,t10,t11,iH,g1,g2,e2⟩:=T6 hb hb2 hm w (k+1) (rows++[l]) (.sh (.int k)) r10 r11 r12 (by rw[List.length_append,List.length_singleton]; omega) (λx hx=>by
   rcases List.mem_append.mp hx with hx|hx
   ·exact h x hx
   ·rw[List.mem_singleton.mp hx]; exact⟨h1,h2⟩)
  refine⟨yR,t9,t10,t11,iH,by rw[g1,List.length_append,List.length_singleton]; omega,g2,?_⟩
  rw[List.range'_succ,List.map_cons]
  exact oZ e1 e2
theorem ade(i:Nat)(h:i<8):∃b:Int,([.int 2,.int 3,.int 4,.int 6,.int 10,.int 24,.int 97,.int 999999999999]:List Tr)[i]?=some (.int b)/\1<=b/\b<=1000000000000:=by
 have:i=0\/i=1\/i=2\/i=3\/i=4\/i=5\/i=6\/i=7:=by omega
 rcases this with rfl|rfl|rfl|rfl|rfl|rfl|rfl|rfl <;> exact⟨_,rfl,by omega,by omega⟩
theorem adf:∃(m:Nat) (rows:List (List (Int × Int))),Bk m rows/\ux [.lst (ns.map .int),.int (a:Nat),.int 4,.int 12]=.ok (aH rows,true):=by
 obtain⟨x,e,x0,x1⟩:=cell_eq ns a
 have r1:=nq x 12 (by omega)
 have r2:=nq (x.fdiv 12) 4 (by omega)
 have r3:=nq (x.fdiv 1000) 8 (by omega)
 obtain⟨b,eb,b1,b2⟩:=ade ((x.fdiv 1000).fmod 8).toNat (by omega)
 have eb':=oY eb
 rw[Int.toNat_of_nonneg r3.1]at eb'
 have c1:jE x 12=true:=oX (M:=10) (by omega) (by omega) (by omega)
 have c2:jE x 1000=true:=oX (M:=20) (by omega) (by omega) (by omega)
 obtain⟨m,hm⟩:∃m:Nat,1+x.fmod 12=(m:Int):=⟨(1+x.fmod 12).toNat,by omega⟩
 obtain⟨w,hw⟩:∃w:Nat,1+(x.fdiv 12).fmod 4=(w:Int):=⟨(1+(x.fdiv 12).fmod 4).toNat,by omega⟩
 obtain⟨rows,t9,t10,t11,iH,g1,g2,e2⟩:=T6 ns a (.sh (.int 4)) (.sh (.int 12)) (.sh (.int x)) (.sh (.int w)) b1 b2 (m:=m) (by omega) w 0 [] .un .un .un .un (by simp; omega) (λl hl=>by cases hl)
 have g1:rows.length=w:=by simpa using g1
 refine⟨m,rows,⟨by omega,by omega,by omega,by omega,g2⟩,?_⟩
 have e3:bN (bY (dh (ak (aj 6) au)) (gN 9) wj) [.sh (.lst (ns.map .int)),.sh (.int a),.sh (.int 4),.sh (.int 12),.sh (.int x),.sh (.int m),.sh (.int w),.sh (.int b),.ow [],.un,.un,.un,.un]=.ok (.nx,[.sh (.lst (ns.map .int)),.sh (.int a),.sh (.int 4),.sh (.int 12),.sh (.int x),.sh (.int m),.sh (.int w),.sh (.int b),.ow (rows.map bH),t9,t10,t11,iH]):=by
  have ef:dh (ak (aj 6) au) [.sh (.lst (ns.map .int)),.sh (.int a),.sh (.int 4),.sh (.int 12),.sh (.int x),.sh (.int m),.sh (.int w),.sh (.int b),.ow [],.un,.un,.un,.un]=.ok ((List.range' 0 w).map iT,[.sh (.lst (ns.map .int)),.sh (.int a),.sh (.int 4),.sh (.int 12),.sh (.int x),.sh (.int m),.sh (.int w),.sh (.int b),.ow [],.un,.un,.un,.un]):=by
   generalize Tr.lst (ns.map .int)=T at *
   rw[<-List.range_eq_range']
   have ok:=wk (n:=w) (by omega)
   simp -dsimp[drs,dr,aZ,ok]
   exact uE w
  generalize dh _=G at ef ⊢
  unfold bN bY
  simp only[ef]
  show bW (cR (gN 9) wj ((List.range' 0 w).map iT) _)=_
  rw[show([]:List Tr)=([]:List (List (Int × Int))).map bH from rfl,e2]
  rfl
 unfold ux
 rw[ac9]
 unfold bF aH
 generalize Tr.lst (ns.map .int)=T,rows.map bH=R at *
 generalize hx1:x.fmod 12=x1 at *
 generalize hx2:x.fdiv 12=x2 at *
 generalize hx3:x2.fmod 4=x3 at *
 generalize hx4:x.fdiv 1000=x4 at *
 generalize hx5:x4.fmod 8=x5 at *
 generalize bN _=G at e3 ⊢
 simp -dsimp[bO,dr,drs,aZ,cls,con,e,bR,gI,bZ,eZ,cJ,c1,c2,hx1,hx2,hx3,hx4,hx5,hm,hw,eb',e3]
end
end K20
end
section
namespace K20
open PySem L2 BH
def pT(p:Nat × Nat):Tr:=.tup [iT p.1,iT p.2]
def Lx(p q:Nat × Nat):Prop:=p.1<q.1\/(p.1=q.1/\p.2<q.2)
def yS:SF:=(aG (fJ (iU 5 fX (ak (aq bZ (aj 3) (aq bR (aj 4) (eC (.int 1)))) au))) (bf (aq cJ (aj 3) (aq bR (aj 4) (eC (.int 1)))) (gN 3)))
section
variable (S A Bt:Tr){m:Nat}
theorem adg(hm:m<=12)(x:Int)(ds:List Nat)(hd:ds.length<=1000)(s6 s7 s8 s9:Sl):∃(d:Nat) (x':Int),d<=m/\yS [.sh S,.sh A,.sh Bt,.sh (.int x),.sh (.int m),.ow (ds.map iT),s6,s7,s8,s9]=.ok (.nx,[.sh S,.sh A,.sh Bt,.sh (.int x'),.sh (.int m),.ow ((ds++[d]).map iT),s6,s7,s8,s9]):=by
 have r:=nq x ((m:Int)+1) (by omega)
 have h0:(m:Int)+1≠0:=by omega
 have c1:jE x ((m:Int)+1)=true:=oX (M:=20) h0 (by omega) (by omega)
 obtain⟨d,hd'⟩:∃d:Nat,x.fmod ((m:Int)+1)=(d:Int):=⟨(x.fmod ((m:Int)+1)).toNat,by omega⟩
 refine⟨d,x.fdiv ((m:Int)+1),by omega,?_⟩
 have hL:(ds.map iT).length<=100000:=by rw[List.length_map]; omega
 rw[List.map_append,List.map_cons,List.map_nil]
 have ei:iT d=.int (d:Nat):=rfl
 rw[ei]
 unfold yS
 generalize ds.map iT=L at *
 generalize hz:x.fdiv ((m:Int)+1)=z at *
 simp -dsimp[dr,drs,aZ,cls,con,cN,fX,bR,gI,eZ,bZ,cJ,h0,c1,hd',hz,hL]
theorem T7(hm:m<=12):∀(w j:Nat) (x:Int) (ds:List Nat) (s6 s7 s8 s9:Sl),ds.length+w<=1000->(∀d∈ds,d<=m)->∃(ds':List Nat) (x':Int) (t6:Sl),ds'.length=ds.length+w/\(∀d∈ds',d<=m) /\
  cR (gN 6) yS ((List.range' j w).map iT) [.sh S,.sh A,.sh Bt,.sh (.int x),.sh (.int m),.ow (ds.map iT),s6,s7,s8,s9]=.ok (.nx,[.sh S,.sh A,.sh Bt,.sh (.int x'),.sh (.int m),.ow (ds'.map iT),t6,s7,s8,s9])
 | 0,j,x,ds,s6,s7,s8,s9,_,h=>⟨ds,x,s6,rfl,h,rfl⟩
 |w+1,j,x,ds,s6,s7,s8,s9,hw,h=>by
  obtain⟨d,x1,h1,e1⟩:=adg S A Bt hm x ds (by omega) (.sh (iT j)) s7 s8 s9
  obtain⟨ds',x',t6,g1,g2,e2⟩:=T7 hm w (j+1) x1 (ds++[d]) (.sh (iT j)) s7 s8 s9 (by rw[List.length_append,List.length_singleton]; omega) (λy hy=>by
   rcases List.mem_append.mp hy with hy|hy
   ·exact h y hy
   ·rw[List.mem_singleton.mp hy]; exact h1)
  refine⟨ds',x',t6,by rw[g1,List.length_append,List.length_singleton]; omega,g2,?_⟩
  rw[List.range'_succ,List.map_cons]
  exact oZ e1 e2
def yU:SF:=(aG (cM (cu (aq dw (aq bZ (aj 8) (eC (.int 5))) (eC (.int 1)))) (fJ (iU 7 fX (ak (jx (ak (aj 6) (ak (aj 9) au))) au))) cL) (bf (aq cJ (aj 8) (eC (.int 5))) (gN 8)))
theorem adh(s3 s4 s5:Sl)(k j:Nat)(o:Int)(as:List (Nat × Nat))(hl:as.length<=1000):∃(o':Int) (r:List (Nat × Nat)),(r=[]\/r=[(k,j)])/\yU [.sh S,.sh A,.sh Bt,s3,s4,s5,.sh (iT k),.ow (as.map pT),.sh (.int o),.sh (iT j)]=.ok (.nx,[.sh S,.sh A,.sh Bt,s3,s4,s5,.sh (iT k),.ow ((as++r).map pT),.sh (.int o'),.sh (iT j)]):=by
 have c1:jE o 5=true:=oX (M:=20) (by omega) (by omega) (by omega)
 have hL:(as.map pT).length<=100000:=by rw[List.length_map]; omega
 by_cases h:o.fmod 5=1
 ·refine⟨o.fdiv 5,[(k,j)],.inr rfl,?_⟩
  rw[List.map_append,List.map_cons,List.map_nil]
  have ep:pT (k,j)=.tup [iT k,iT j]:=rfl
  rw[ep]
  unfold yU
  generalize iT j=Y,iT k=X,as.map pT=L at *
  generalize hz:o.fdiv 5=z at *
  simp -dsimp[dr,drs,aZ,cls,con,cN,fX,eZ,bZ,cJ,c1,h,hz,hL,dw,cj,eqT,dep]
 ·refine⟨o.fdiv 5,[],.inl rfl,?_⟩
  rw[List.append_nil]
  unfold yU
  generalize iT j=Y,iT k=X,as.map pT=L at *
  generalize hz:o.fdiv 5=z at *
  generalize hy:o.fmod 5=y at *
  simp -dsimp[dr,drs,aZ,cls,con,cN,fX,eZ,bZ,cJ,c1,h,hy,hz,hL,dw,cj,eqT,dep]
end
end K20
end
section
namespace K20
open PySem L2 BH
def Ak(m k j:Nat)(as:List (Nat × Nat)):Prop:=as.Pairwise Lx/\(∀p∈as,Lx p (k,j)/\p.2<m)/\as.length<=m*k+j
theorem Ak.step{m k j:Nat}{as r:List (Nat × Nat)}(h:Ak m k j as)(hj:j<m)(hr:r=[]\/r=[(k,j)]):Ak m k (j+1) (as++r):=by
 obtain⟨h1,h2,h3⟩:=h
 have lx:∀p,Lx p (k,j)->Lx p (k,j+1):=λp q=>by
  unfold Lx at *
  rcases q with q|q
  ·exact .inl q
  ·exact .inr ⟨q.1,by have:=q.2; dsimp only at this ⊢; omega⟩
 rcases hr with rfl|rfl
 ·rw[List.append_nil]
  exact⟨h1,λp m=>⟨lx p (h2 p m).1,(h2 p m).2⟩,by omega⟩
 ·refine⟨List.pairwise_append.mpr ⟨h1,List.pairwise_singleton _ _,λp mp q mq=>?_⟩,λp mp=>?_,by rw[List.length_append,List.length_singleton]; omega⟩
  ·rw[List.mem_singleton.mp mq]
   exact(h2 p mp).1
  ·rcases List.mem_append.mp mp with mp|mp
   ·exact⟨lx p (h2 p mp).1,(h2 p mp).2⟩
   ·rw[List.mem_singleton.mp mp]
    exact⟨.inr ⟨rfl,Nat.lt_succ_self j⟩,hj⟩
theorem Ak.next{m k:Nat}{as:List (Nat × Nat)}(h:Ak m k m as):Ak m (k+1) 0 as:=by
 obtain⟨h1,h2,h3⟩:=h
 refine⟨h1,λp m=>⟨.inl ?_,(h2 p m).2⟩,by rw[Nat.mul_succ]; omega⟩
 rcases(h2 p m).1 with q|q
 ·dsimp only at q ⊢; omega
 ·have:=q.1; dsimp only at this ⊢; omega
section
variable (S A Bt:Tr){m:Nat}
theorem T8(hm:m<=12)(s3 s4 s5:Sl)(k:Nat)(hk:k<=4):∀(w j:Nat) (o:Int) (as:List (Nat × Nat)) (s9:Sl),j+w=m->Ak m k j as->∃(as':List (Nat × Nat)) (o':Int) (t9:Sl),Ak m k m as' /\
  cR (gN 9) yU ((List.range' j w).map iT) [.sh S,.sh A,.sh Bt,s3,s4,s5,.sh (iT k),.ow (as.map pT),.sh (.int o),s9]=.ok (.nx,[.sh S,.sh A,.sh Bt,s3,s4,s5,.sh (iT k),.ow (as'.map pT),.sh (.int o'),t9])
 | 0,j,o,as,s9,h,ha=>by
  have:j=m:=by omega
  subst this
  exact⟨as,o,s9,ha,rfl⟩
 |w+1,j,o,as,s9,h,ha=>by
  have mk:m*k<=12*4:=Nat.mul_le_mul hm hk
  obtain⟨o1,r,hr,e1⟩:=adh S A Bt s3 s4 s5 k j o as (by have:=ha.2.2; omega)
  obtain⟨as',o',t9,g,e2⟩:=T8 hm s3 s4 s5 k hk w (j+1) o1 (as++r) (.sh (iT j)) (by omega) (ha.step (by omega) hr)
  refine⟨as',o',t9,g,?_⟩
  rw[List.range'_succ,List.map_cons]
  exact oZ e1 e2
end
def KJ:SF:=(cM (cu (aq dw (aj 6) (eC (.int 2)))) (bf (aX jo (ak (aj 0) (ak (aq bR (aj 1) (eC (.int 50))) au))) (gN 8)) cL)
def KN:SF:=(bY (dh (ak (aj 4) au)) (gN 9) yU)
def yV:SF:=(aG KJ KN)
section
variable (ns:List Int)(a:Nat)(Bt:Tr){m:Nat}
theorem adi(s3 s4 s5 s7 s9:Sl)(k:Nat)(o:Int):∃o',KJ [.sh (.lst (ns.map .int)),.sh (.int a),.sh Bt,s3,s4,s5,.sh (iT k),s7,.sh (.int o),s9]=.ok (.nx,[.sh (.lst (ns.map .int)),.sh (.int a),.sh Bt,s3,s4,s5,.sh (iT k),s7,.sh (.int o'),s9]):=by
 obtain⟨x,e,_⟩:=cell_eq ns (a+50)
 have ec:((a+50:Nat):Int)=(a:Int)+50:=by omega
 rw[ec]at e
 unfold KJ iT
 generalize Tr.lst (ns.map .int)=T at *
 by_cases h:k=2
 ·refine⟨x,?_⟩
  subst h
  simp -dsimp[dr,drs,aZ,bR,gI,e,dw,cj,eqT,dep]
 ·refine⟨o,?_⟩
  have h':¬(k:Int)=2:=by omega
  generalize (k:Int)=K at *
  simp -dsimp[dr,drs,aZ,h',dw,cj,eqT,dep]
theorem adk(hm:m<=12)(s3 s5:Sl)(k:Nat)(hk:k<=4)(o:Int)(as:List (Nat × Nat))(s9:Sl)(ha:Ak m k 0 as):∃(as':List (Nat × Nat)) (o':Int) (t9:Sl),Ak m (k+1) 0 as'/\KN [.sh (.lst (ns.map .int)),.sh (.int a),.sh Bt,s3,.sh (.int m),s5,.sh (iT k),.ow (as.map pT),.sh (.int o),s9]=.ok (.nx,[.sh (.lst (ns.map .int)),.sh (.int a),.sh Bt,s3,.sh (.int m),s5,.sh (iT k),.ow (as'.map pT),.sh (.int o'),t9]):=by
 generalize hT:Tr.lst (ns.map .int)=T
 obtain⟨as',o',t9,g,e⟩:=T8 T (.int a) Bt hm s3 (.sh (.int m)) s5 k hk m 0 o as s9 (by omega) ha
 refine⟨as',o',t9,g.next,?_⟩
 have ef:dh (ak (aj 4) au) [.sh T,.sh (.int a),.sh Bt,s3,.sh (.int m),s5,.sh (iT k),.ow (as.map pT),.sh (.int o),s9]=.ok ((List.range' 0 m).map iT,[.sh T,.sh (.int a),.sh Bt,s3,.sh (.int m),s5,.sh (iT k),.ow (as.map pT),.sh (.int o),s9]):=by
  rw[<-List.range_eq_range']
  have ok:=wk (n:=m) (by omega)
  generalize iT k=X,as.map pT=L at *
  simp -dsimp[drs,dr,aZ,ok]
  exact uE m
 unfold KN
 generalize dh _=G at ef ⊢
 unfold bY
 simp only[ef]
 exact e
theorem T9(hm:m<=12)(s3 s5:Sl):∀(w k:Nat) (o:Int) (as:List (Nat × Nat)) (s6 s9:Sl),k+w<=4->Ak m k 0 as->∃(as':List (Nat × Nat)) (o':Int) (t6 t9:Sl),Ak m (k+w) 0 as' /\
  cR (gN 6) yV ((List.range' k w).map iT) [.sh (.lst (ns.map .int)),.sh (.int a),.sh Bt,s3,.sh (.int m),s5,s6,.ow (as.map pT),.sh (.int o),s9]=.ok (.nx,[.sh (.lst (ns.map .int)),.sh (.int a),.sh Bt,s3,.sh (.int m),s5,t6,.ow (as'.map pT),.sh (.int o'),t9])
 | 0,k,o,as,s6,s9,_,ha=>⟨as,o,s6,s9,ha,rfl⟩
 |w+1,k,o,as,s6,s9,hw,ha=>by
  obtain⟨o1,e1⟩:=adi ns a Bt s3 (.sh (.int m)) s5 (.ow (as.map pT)) s9 k o
  obtain⟨as1,o2,r9,g1,e2⟩:=adk ns a Bt hm s3 s5 k (by omega) o1 as s9 ha
  obtain⟨as',o',t6,t9,g2,e3⟩:=T9 hm s3 s5 w (k+1) o2 as1 (.sh (iT k)) r9 (by omega) g1
  refine⟨as',o',t6,t9,by rw[show k+(w+1)=k+1+w by omega]; exact g2,?_⟩
  rw[List.range'_succ,List.map_cons]
  refine oZ ?_ e3
  show yV [.sh (.lst (ns.map .int)),.sh (.int a),.sh Bt,s3,.sh (.int m),s5,.sh (iT k),.ow (as.map pT),.sh (.int o),s9]=_
  unfold yV aG
  rw[e1]
  exact e2
end
end K20
end
section
namespace K20
open PySem L2 BH
def aQ(ds:List Nat)(as:List (Nat × Nat)):Tr:=.tup [.lst (ds.map iT),.lst (as.map pT)]
def yW:SF:=(cM (cu (aq dw (aq bZ (aj 3) (eC (.int 4))) (eC (.int 0)))) (lJ 5 (gZ 5 (cD [none] (bM (aj 5)) (gN 0) cF (aq cJ (aj 0) (eC (.int 2)))))) cL)
def yX:SF:=(cM (cu (aq dw (aq bZ (aq cJ (aj 3) (eC (.int 4))) (eC (.int 3))) (eC (.int 0)))) (gZ 7 (gH au)) cL)
def Dm:SF:=(bY (dh (ak (aR (g1 bB) (ak (aj 2) au)) au)) (gN 6) yS)
def Dn:SF:=(bY (dh (ak (aR (g1 bB) (ak (aj 2) au)) au)) (gN 6) yV)
theorem adl:J2=(aG (bf (aX jo (ak (aj 0) (ak (aj 1) au))) (gN 3)) (aG (bf (aR (g1 bB) (ak (aq aK (aj 2) (eC (.int 0))) au)) (gN 4)) (aG (gZ 5 (gH au)) (aG (bN Dm) (aG yW (aG (gZ 7 (gH au)) (aG (bf (aX jo (ak (aj 0) (ak (aq bR (aj 1) (eC (.int 1))) au))) (gN 8)) (aG (bN Dn) (aG yX (lJ 7 (lJ 5 (bJ (jx (ak (aj 5) (ak (aj 7) au))))))))))))))):=rfl
section
variable (S A Bt:Tr){m:Nat}
theorem adn(x:Int)(ds:List Nat)(hd:ds.length<=1000)(h:∀d∈ds,d<=m)(s4 s6 s7 s8 s9:Sl):∃ds':List Nat,ds'.length=ds.length/\(∀d∈ds',d<=m)/\yW [.sh S,.sh A,.sh Bt,.sh (.int x),s4,.ow (ds.map iT),s6,s7,s8,s9]=.ok (.nx,[.sh S,.sh A,.sh Bt,.sh (.int x),s4,.ow (ds'.map iT),s6,s7,s8,s9]):=by
 by_cases hx:x.fmod 4=0
 ·refine⟨ds.map (· / 2),by rw[List.length_map],λd hd=>?_,?_⟩
  ·obtain⟨e,he,rfl⟩:=List.mem_map.mp hd
   have:=h e he
   omega
  ·have em:=yP (r:=iT) (h:=λd=>iT (d / 2)) (xs:=ds) (ρ:=[.sh S,.sh A,.sh Bt,.sh (.int x),s4,.sh (.lst (ds.map iT)),s6,s7,s8,s9]) (τ:=[]) (rest:=[]) (i:=bM (aj 5)) (fe:=aq cJ (aj 0) (eC (.int 2))) (by omega) (by
     generalize ds.map iT=L at *
     simp -dsimp[dr,g8]) rfl (λs'=>rfl) (λs'=>rfl) (λd md=>⟨false,by
     have c1:jE (d:Int) 2=true:=oX (M:=20) (by omega) (by omega) (by omega)
     have e2:(d:Int).fdiv 2=((d / 2:Nat):Int):=by
      rw[Int.fdiv_eq_ediv_of_nonneg _ (by omega)]
      omega
     unfold iT
     simp -dsimp[dr,cJ,eZ,c1,e2]⟩)
   have ef:dF 5 [.sh S,.sh A,.sh Bt,.sh (.int x),s4,.ow (ds.map iT),s6,s7,s8,s9]=[.sh S,.sh A,.sh Bt,.sh (.int x),s4,.sh (.lst (ds.map iT)),s6,s7,s8,s9]:=rfl
   have el:(ds.map λd=>iT (d / 2))=(ds.map (· / 2)).map iT:=by rw[List.map_map]; rfl
   rw[el]at em
   unfold yW
   generalize cD _ _ _ _ _=G at em ⊢
   generalize ds.map iT=L,(ds.map (· / 2)).map iT=R at *
   simp -dsimp[dr,drs,aZ,bZ,eZ,hx,dw,cj,eqT,dep,ef,em]
 ·refine⟨ds,rfl,h,?_⟩
  unfold yW
  generalize hy:x.fmod 4=y at *
  generalize ds.map iT=L at *
  simp -dsimp[dr,drs,aZ,bZ,eZ,hy,hx,dw,cj,eqT,dep]
theorem ado(x:Int)(as:List (Nat × Nat))(s4 s5 s6 s8 s9:Sl):∃as':List (Nat × Nat),(as'=as\/as'=[])/\yX [.sh S,.sh A,.sh Bt,.sh (.int x),s4,s5,s6,.ow (as.map pT),s8,s9]=.ok (.nx,[.sh S,.sh A,.sh Bt,.sh (.int x),s4,s5,s6,.ow (as'.map pT),s8,s9]):=by
 have c1:jE x 4=true:=oX (M:=20) (by omega) (by omega) (by omega)
 generalize hz:x.fdiv 4=z
 generalize hy:z.fmod 3=y
 by_cases h:y=0
 ·refine⟨[],.inr rfl,?_⟩
  rw[List.map_nil]
  unfold yX
  generalize as.map pT=L at *
  simp -dsimp[dr,drs,aZ,cls,bZ,cJ,eZ,c1,hz,hy,h,dw,cj,eqT,dep]
 ·refine⟨as,.inl rfl,?_⟩
  unfold yX
  generalize as.map pT=L at *
  simp -dsimp[dr,drs,aZ,cls,bZ,cJ,eZ,c1,hz,hy,h,dw,cj,eqT,dep]
end
end K20
end
section
namespace K20
open PySem L2 BH
def Lk(n m:Nat)(ds:List Nat)(as:List (Nat × Nat)):Prop:=ds.length=n/\(∀d∈ds,d<=m)/\as.Pairwise Lx/\as.length<=48/\∀p∈as,p.1<n/\p.2<m
theorem Ak.lk{n m:Nat}{ds:List Nat}{as:List (Nat × Nat)}(h1:ds.length=n)(h2:∀d∈ds,d<=m)(hn:n<=4)(hm:m<=12)(h:Ak m n 0 as):Lk n m ds as:=by
 have mk:m*n<=12*4:=Nat.mul_le_mul hm hn
 refine⟨h1,h2,h.1,by have:=h.2.2; omega,λp mp=>⟨?_,(h.2.1 p mp).2⟩⟩
 rcases(h.2.1 p mp).1 with q|q
 ·exact q
 ·have:=q.2; dsimp only at this; omega
section
variable (ns:List Int)(a:Nat)
theorem KQ(rows:List (List (Int × Int))):bB (aH rows)=.ok (.int (rows.length:Nat),false):=by
 show Rs.ok (Tr.int ((rows.map bH).length:Int),false)=_
 rw[List.length_map]
theorem yZ{rows:List (List (Int × Int))}{k:Nat}{l:List (Int × Int)}(h:rows[k]?=some l):aK (aH rows) (.int (k:Nat))=.ok (bH l,false):=oY (by rw[List.getElem?_map,h]; rfl)
theorem Dp(l:List (Int × Int)):bB (bH l)=.ok (.int (l.length:Nat),false):=by
 show Rs.ok (Tr.int ((l.map fT).length:Int),false)=_
 rw[List.length_map]
theorem Ua{Bt:Tr}{n:Nat}(hn:n<=1000)(el:bB Bt=.ok (.int (n:Nat),false))(s0 s1:Sl)(r:En):dh (ak (aR (g1 bB) (ak (aj 2) au)) au) (s0::s1 :: .sh Bt::r)=.ok ((List.range' 0 n).map iT,s0::s1 :: .sh Bt::r):=by
 rw[<-List.range_eq_range']
 have ok:=wk (n:=n) hn
 simp -dsimp[drs,dr,aZ,g1,el,ok]
 exact uE n
theorem adp{m:Nat}{rows:List (List (Int × Int))}(hB:Bk m rows):∃(ds:List Nat) (as:List (Nat × Nat)),Lk rows.length m ds as/\uy [.lst (ns.map .int),.int (a:Nat),aH rows]=.ok (aQ ds as,false):=by
 obtain⟨b1,b2,b3,b4,b5⟩:=hB
 obtain⟨x,e,_⟩:=cell_eq ns a
 obtain⟨y,ey,_⟩:=cell_eq ns (a+1)
 have ec:((a+1:Nat):Int)=(a:Int)+1:=by omega
 rw[ec]at ey
 have el:=KQ rows
 obtain⟨l,hl⟩:∃l,rows[0]?=some l:=⟨rows[0],List.getElem?_eq_getElem b1⟩
 have e0:aK (aH rows) (.int 0)=.ok (bH l,false):=yZ hl
 have ll:l.length=m:=(b5 l (List.mem_of_getElem? hl)).1
 have za:=Dp l
 rw[ll]at za
 obtain⟨Dq,x1,t6,d1,d2,ed⟩:=T7 (.lst (ns.map .int)) (.int a) (aH rows) b4 rows.length 0 x [] .un .un .un .un (by simp; omega) (λd hd=>by cases hd)
 have d1:Dq.length=rows.length:=by simpa using d1
 obtain⟨ds,f1,f2,eh⟩:=adn (.lst (ns.map .int)) (.int a) (aH rows) x1 Dq (by omega) d2 (.sh (.int m)) t6 .un .un .un
 obtain⟨as0,o,r6,t9,ha,ea⟩:=T9 ns a (aH rows) b4 (.sh (.int x1)) (.ow (ds.map iT)) rows.length 0 y [] t6 .un (by omega) ⟨.nil,(λp hp=>by cases hp),by simp⟩
 rw[Nat.zero_add]at ha
 obtain⟨as,has,en⟩:=ado (.lst (ns.map .int)) (.int a) (aH rows) x1 as0 (.sh (.int m)) (.ow (ds.map iT)) r6 (.sh (.int o)) t9
 have ha':Ak m rows.length 0 as:=by
  rcases has with rfl|rfl
  ·exact ha
  ·exact⟨.nil,(λp hp=>by cases hp),by simp⟩
 refine⟨ds,as,ha'.lk (f1.trans d1) f2 b2 b4,?_⟩
 have ed':bN Dm [.sh (.lst (ns.map .int)),.sh (.int a),.sh (aH rows),.sh (.int x),.sh (.int m),.ow [],.un,.un,.un,.un]=.ok (.nx,[.sh (.lst (ns.map .int)),.sh (.int a),.sh (aH rows),.sh (.int x1),.sh (.int m),.ow (Dq.map iT),t6,.un,.un,.un]):=by
  unfold Dm bN bY
  rw[Ua (by omega) el]
  show bW (cR (gN 6) yS ((List.range' 0 rows.length).map iT) _)=_
  rw[show([]:List Tr)=([]:List Nat).map iT from rfl,ed]
  rfl
 have ea':bN Dn [.sh (.lst (ns.map .int)),.sh (.int a),.sh (aH rows),.sh (.int x1),.sh (.int m),.ow (ds.map iT),t6,.ow [],.sh (.int y),.un]=.ok (.nx,[.sh (.lst (ns.map .int)),.sh (.int a),.sh (aH rows),.sh (.int x1),.sh (.int m),.ow (ds.map iT),r6,.ow (as0.map pT),.sh (.int o),t9]):=by
  unfold Dn bN bY
  rw[Ua (by omega) el]
  show bW (cR (gN 6) yV ((List.range' 0 rows.length).map iT) _)=_
  rw[show([]:List Tr)=([]:List (Nat × Nat)).map pT from rfl,ea]
  rfl
 unfold uy
 rw[adl]
 unfold bF aQ
 generalize as0.map pT=L4,as.map pT=L3,Dq.map iT=L2,ds.map iT=L1,bH l=RT,aH rows=BT,Tr.lst (ns.map .int)=T,yX=G4,yW=G3,bN Dn=G2,bN Dm=G1 at *
 have z5:dF 7 [.sh T,.sh (.int a),.sh BT,.sh (.int x1),.sh (.int m),.ow L1,r6,.ow L3,.sh (.int o),t9]=[.sh T,.sh (.int a),.sh BT,.sh (.int x1),.sh (.int m),.ow L1,r6,.sh (.lst L3),.sh (.int o),t9]:=rfl
 have z6:dF 5 [.sh T,.sh (.int a),.sh BT,.sh (.int x1),.sh (.int m),.ow L1,r6,.sh (.lst L3),.sh (.int o),t9]=[.sh T,.sh (.int a),.sh BT,.sh (.int x1),.sh (.int m),.sh (.lst L1),r6,.sh (.lst L3),.sh (.int o),t9]:=rfl
 simp -dsimp[bO,dr,drs,aZ,cls,g1,e,ey,el,e0,za,bR,gI,ed',eh,ea',en,z5,z6]
end
end K20
end
section
namespace K20
open PySem L2 BH
theorem adq{l:List (Int × Int)}{ys zs:List Nat}(h:Fall l ys)(h':Fall l zs):ys=zs:=by
 refine List.Perm.eq_of_pairwise (λa b _ _ p q=>?_) h.2 h'.2 (h.1.trans h'.1.symm)
 unfold Km at p q
 omega
theorem Wo.fq{x:Int × Int}(h:Wo x):Fq 400 x:=by
 obtain⟨h1,h2,h3,h4,h5⟩:=h
 exact⟨h1,by omega,h3,by omega,h5⟩
theorem orders{l:List (Int × Int)}(h:∀x∈l,Wo x)(hc:l.length<=12):∃zs:List Nat,Fall l zs/\m8 [bH l]=.ok (.lst (zs.map iT),true)/\oN [bH l]=.ok (.lst (zs.map iT),true):=by
 obtain⟨zs,e1,f1⟩:=order_eq (λx hx=>Wo.fq (h x hx)) hc
 obtain⟨ys,e2,f2⟩:=Tp l (Wo.frs h) (by omega) (by omega) (by omega)
 have e:=adq f2 f1
 subst e
 exact⟨ys,f1,e1,e2⟩
open Classical in
def ord(l:List (Int × Int)):List Nat:=if h:(∀x∈l,Wo x)/\l.length<=12 then(orders h.1 h.2).choose else []
theorem Dr{l:List (Int × Int)}(h:∀x∈l,Wo x)(hc:l.length<=12):Fall l (ord l)/\m8 [bH l]=.ok (.lst ((ord l).map iT),true)/\oN [bH l]=.ok (.lst ((ord l).map iT),true):=by
 unfold ord
 rw[dif_pos ⟨h,hc⟩]
 exact(orders h hc).choose_spec
theorem Ub{m:Nat}{rows:List (List (Int × Int))}(hB:Bk m rows):oO [aH rows]=.ok (.lst (rows.map λl=>.lst ((ord l).map iT)),true):=by
 obtain⟨b1,b2,b3,b4,b5⟩:=hB
 have em:=yP (r:=bH) (h:=λl=>Tr.lst ((ord l).map iT)) (xs:=rows) (ρ:=[.sh (aH rows)]) (τ:=[]) (rest:=[]) (i:=bM (aj 0)) (fe:=aX oN (ak (aj 0) au)) (by omega) (by
   unfold aH
   generalize rows.map bH=L at *
   simp -dsimp[dr,g8]) rfl (λs'=>rfl) (λs'=>rfl) (λl ml=>⟨true,by
   have e:=(Dr (b5 l ml).2 (by have:=(b5 l ml).1; omega)).2.2
   generalize Tr.lst ((ord l).map iT)=O,bH l=R at *
   simp -dsimp[iV,dr,drs,aZ,e]⟩)
 show bF 1 (bJ (cD [none] (bM (aj 0)) (gN 0) cF (aX oN (ak (aj 0) au)))) [aH rows]=_
 unfold bF
 generalize cD _ _ _ _ _=G at em ⊢
 generalize aH rows=B at *
 simp -dsimp[bO,em]
end K20
end
section
namespace K20
open PySem L2 BH
theorem all_true{α : Type}(xs:List α):eE (.lst (xs.map λ_=>Tr.bl true))=.ok (.bl true,false):=by
 have e:=Di (p:=λ_:Tr=>true) (xs.map λ_=>Tr.non)
 have e2:(xs.map λ_=>Tr.non).map (λ_=>Tr.bl true)=xs.map λ_=>Tr.bl true:=by rw[List.map_map]; rfl
 rw[e2]at e
 unfold eE
 simp -dsimp[e]
theorem count_eq{d m:Nat}(h:d<=m):uh [iT d,.int (m:Nat)]=.ok (.bl true,false):=by
 have e:=Kg (iT d)
 have h1:(0:Int)<=d:=by omega
 have h2:(d:Int)<=m:=by omega
 unfold uh Jc bF iT at *
 simp -dsimp[eB,cj,dr,drs,gB,gk,dO,aZ,bO,isW,e,h1,h2]
theorem adt{n m:Nat}{ds:List Nat}(h1:ds.length=n)(hd:∀d∈ds,d<=m)(hn:n<=1000):Cj [.lst (ds.map iT),.int (n:Nat),.int (m:Nat)]=.ok (.bl true,false):=by
 have em:=yP (r:=iT) (h:=λ_=>Tr.bl true) (xs:=ds) (ρ:=[.sh (.lst (ds.map iT)),.sh (.int (n:Nat)),.sh (.int (m:Nat))]) (τ:=[.sh (.int (m:Nat))]) (rest:=[some 2]) (i:=bM (aj 0)) (fe:=aX uh (ak (aj 0) (ak (aj 1) au))) (by omega) (by
   generalize ds.map iT=L at *
   simp -dsimp[dr,g8]) rfl (λs'=>rfl) (λs'=>rfl) (λd md=>⟨false,by
   have e:=count_eq (hd d md)
   generalize iT d=X at *
   simp -dsimp[iV,dr,drs,aZ,e]⟩)
 have ea:=all_true ds
 have hL:(ds.map iT).length=n:=by rw[List.length_map,h1]
 show bF 3 (aG (cM (iC (dR (dY (gJ .list (aj 0)))) (cu (aq fG (aR (g1 bB) (ak (aj 0) au)) (aj 1)))) (bJ (eC (.bl false))) cL) (bJ (aR (g1 eE) (ak (cD [none,some 2] (bM (aj 0)) (gN 0) cF (aX uh (ak (aj 0) (ak (aj 1) au)))) au)))) _=_
 unfold bF
 generalize cD _ _ _ _ _=G at em ⊢
 generalize (ds.map λ_=>Tr.bl true)=R,ds.map iT=L at *
 simp -dsimp[bW,dF,oH,cN,con,gP,eB,cj,fB,dr,drs,cls,lM,tU,g1,g2,gI,eZ,gB,dw,fG,fK,bR,cX,cJ,bZ,jQ,mQ,gk,jw,dO,j5,aK,bB,jR,iR,GR,GX,GZ,eE,g8,okR,jF,aZ,others,dU,bT,dW,j7,iV,oW,J9,Ka,Kc,vZ,m9,rZ,lN,v7,Kd,Kf,gF,eX,gM,bO,em,hL]
 unfold eE at ea
 simp -dsimp[ea]
end K20
end
section
namespace K20
open PySem L2 BH
theorem adu{p q:Nat × Nat}(h:Lx p q):gk (pT p) (pT q)=.ok (.bl true,false):=by
 show Rs.ok (Tr.bl (HT.lexLt [((p.1:Nat):Int),((p.2:Nat):Int)] [((q.1:Nat):Int),((q.2:Nat):Int)]),false)=_
 have:HT.lexLt [((p.1:Nat):Int),((p.2:Nat):Int)] [((q.1:Nat):Int),((q.2:Nat):Int)]=true:=by
  unfold Lx at h
  unfold HT.lexLt
  rcases h with h|⟨h,h'⟩
  ·have:(p.1:Int)<q.1:=by omega
   have n:¬(p.1:Int)=q.1:=by omega
   simp[this,n]
  ·rw[h]
   have:(p.2:Int)<q.2:=by omega
   have n:¬(p.2:Int)=q.2:=by omega
   simp[HT.lexLt,this,n]
 rw[this]
def KR:GF:=(gT 2 (bL (gN 0) (bL (gN 1) dI)))
theorem Uc:∀(zs:List ((Nat × Nat) × (Nat × Nat))) (s0 s1:Sl),(∀z∈zs,Lx z.1 z.2)->∃t0 t1,fO KR cF (aq gk (aj 0) (aj 1)) (zs.map λz=>Tr.tup [pT z.1,pT z.2]) [s0,s1]=.ok (zs.map λ_=>Tr.bl true,[t0,t1])
 | [],s0,s1,_=>⟨s0,s1,rfl⟩
 |z::zs,s0,s1,h=>by
  obtain⟨t0,t1,e⟩:=Uc zs (.sh (pT z.1)) (.sh (pT z.2)) λy hy=>h y (List.mem_cons_of_mem _ hy)
  have e1:=adu (h z (List.mem_cons_self ..))
  refine⟨t0,t1,?_⟩
  rw[List.map_cons,List.map_cons]
  unfold fO
  have eg:KR (.tup [pT z.1,pT z.2]) [s0,s1]=.ok [.sh (pT z.1),.sh (pT z.2)]:=rfl
  rw[eg]
  generalize pT z.2=Y,pT z.1=X at *
  simp -dsimp[dr,e1,e]
  rfl
theorem adv{p:Nat × Nat}{n m:Nat}(h1:p.1<n)(h2:p.2<m):um [pT p,.int (n:Nat),.int (m:Nat)]=.ok (.bl true,false):=by
 have e1:=Kp p.1 n
 have e2:=Kp p.2 m
 have a1:(decide ((0:Int)<=p.1)&&decide ((p.1:Int)<n))=true:=by simp; omega
 have a2:(decide ((0:Int)<=p.2)&&decide ((p.2:Int)<m))=true:=by simp; omega
 rw[a1]at e1
 rw[a2]at e2
 unfold um Jd bF pT iT
 simp -dsimp[bW,dF,oH,cN,con,gP,eB,cj,fB,dr,drs,cls,lM,tU,g1,g2,gI,eZ,gB,dw,fG,fK,bR,cX,cJ,bZ,jQ,mQ,gk,jw,dO,j5,aK,bB,jR,iR,GR,GX,GZ,eE,g8,okR,jF,aZ,others,dU,bT,dW,j7,iV,oW,J9,Ka,Kc,vZ,m9,rZ,lN,v7,Kd,Kf,gF,eX,gM,bO,e1,e2]
end K20
end
section
namespace K20
open PySem L2 BH
theorem Ud:∀{as:List (Nat × Nat)},as.Pairwise Lx->∀z∈as.zip (as.drop 1),Lx z.1 z.2
 | [],_,z,hz=>by cases hz
 | [a],_,z,hz=>by cases hz
 |a::b::as,h,z,hz=>by
  rw[List.drop_one,List.tail_cons,List.zip_cons_cons]at hz
  rcases List.mem_cons.mp hz with rfl|hz
  ·exact(List.pairwise_cons.mp h).1 b (List.mem_cons_self ..)
  ·exact Ud (as:=b::as) (List.pairwise_cons.mp h).2 z (by rw[List.drop_one,List.tail_cons]; exact hz)
theorem adw{as:List (Nat × Nat)}(h:as.Pairwise Lx)(hl:as.length<=48):yx [.lst (as.map pT)]=.ok (.bl true,false):=by
 obtain⟨t0,t1,e⟩:=Uc (as.zip (as.drop 1)) .un .un (Ud h)
 have ea:=all_true (as.zip (as.drop 1))
 have el:((as.zip (as.drop 1)).map λz=>Tr.tup [pT z.1,pT z.2]).length<=100000:=by
  rw[List.length_map,List.length_zip]
  omega
 have ez:rP (as.map pT) ((as.map pT).drop 1)=(as.zip (as.drop 1)).map λz=>Tr.tup [pT z.1,pT z.2]:=by
  unfold rP
  rw[<-List.map_drop,List.zip_map,List.map_map]
  rfl
 have es:iQ (aj 0) (jk (eC (.int 1))) jj [.sh (.lst (as.map pT))]=.ok (.v (.lst ((as.map pT).drop 1)) true,[.sh (.lst (as.map pT))]):=by
  have ec:=acN (as.map pT) 1
  generalize as.map pT=L at *
  show Rs.ok (Rv.v (.lst (cut L (some ((1:Nat):Int)) none)) true,[Sl.sh (.lst L)])=_
  rw[ec]
 show bF 1 (bJ (aR (g1 eE) (ak (cD [none,none] (vA (ak (aj 0) (ak (iQ (aj 0) (jk (eC (.int 1))) jj) au))) KR cF (aq gk (aj 0) (aj 1))) au))) [.lst (as.map pT)]=_
 have ef:vA (ak (aj 0) (ak (iQ (aj 0) (jk (eC (.int 1))) jj) au)) [.sh (.lst (as.map pT))]=.ok (rP (as.map pT) ((as.map pT).drop 1),[.sh (.lst (as.map pT))]):=by
  show((ak (aj 0) (ak (iQ (aj 0) (jk (eC (.int 1))) jj) au) [.sh (.lst (as.map pT))]).bind _)=_
  generalize iQ _ _ _=G at es ⊢
  generalize as.map pT=L,(as.map pT).drop 1=L2 at *
  simp -dsimp[dr,es]
 rw[ez]at ef
 unfold bF
 generalize vA _=Z at ef ⊢
 generalize as.map pT=L,((as.zip (as.drop 1)).map λ_=>Tr.bl true)=Q,((as.zip (as.drop 1)).map λz=>Tr.tup [pT z.1,pT z.2])=R at *
 unfold eE at ea
 simp -dsimp[bW,dr,drs,aZ,cls,g1,dU,bT,dW,j7,iV,bO,ef,el,e,eE,ea]
theorem adx{n m:Nat}{as:List (Nat × Nat)}(h:as.Pairwise Lx)(hl:as.length<=48)(hp:∀p∈as,p.1<n/\p.2<m):Ck [.lst (as.map pT),.int (n:Nat),.int (m:Nat)]=.ok (.bl true,false):=by
 have em:=yP (r:=pT) (h:=λ_=>Tr.bl true) (xs:=as) (ρ:=[.sh (.lst (as.map pT)),.sh (.int (n:Nat)),.sh (.int (m:Nat))]) (τ:=[.sh (.int (n:Nat)),.sh (.int (m:Nat))]) (rest:=[some 1,some 2]) (i:=bM (aj 0)) (fe:=aX um (ak (aj 0) (ak (aj 1) (ak (aj 2) au)))) (by omega) (by
   generalize as.map pT=L at *
   simp -dsimp[dr,g8]) rfl (λs'=>rfl) (λs'=>rfl) (λp mp=>⟨false,by
   have e:=adv (hp p mp).1 (hp p mp).2
   generalize pT p=X at *
   simp -dsimp[iV,dr,drs,aZ,e]⟩)
 have ea:=all_true as
 have er:=adw h hl
 show bF 3 (aG (cM (iC (dR (dY (gJ .list (aj 0)))) (dR (dY (aR (g1 eE) (ak (cD [none,some 1,some 2] (bM (aj 0)) (gN 0) cF (aX um (ak (aj 0) (ak (aj 1) (ak (aj 2) au))))) au))))) (bJ (eC (.bl false))) cL) (bJ (aX yx (ak (aj 0) au)))) _=_
 unfold bF
 generalize cD _ _ _ _ _=G at em ⊢
 generalize (as.map λ_=>Tr.bl true)=R,as.map pT=L at *
 simp -dsimp[bO,eB,dr,drs,aZ,gF,fB,g1,em,ea,er]
theorem Ue{m:Nat}{rows:List (List (Int × Int))}{ds:List Nat}{as:List (Nat × Nat)}(hB:Bk m rows)(hL:Lk rows.length m ds as):oR [aH rows,aQ ds as]=.ok (.non,false):=by
 obtain⟨b1,b2,b3,b4,b5⟩:=hB
 obtain⟨l1,l2,l3,l4,l5⟩:=hL
 have e1:=adt l1 l2 (by omega)
 have e2:=adx l3 l4 l5
 have el:=KQ rows
 obtain⟨l,hl⟩:∃l,rows[0]?=some l:=⟨rows[0],List.getElem?_eq_getElem b1⟩
 have e0:aK (aH rows) (.int 0)=.ok (bH l,false):=yZ hl
 have ll:l.length=m:=(b5 l (List.mem_of_getElem? hl)).1
 have za:=Dp l
 rw[ll]at za
 have i0:aK (aQ ds as) (.int 0)=.ok (.lst (ds.map iT),false):=rfl
 have i1:aK (aQ ds as) (.int 1)=.ok (.lst (as.map pT),false):=rfl
 have lt:bB (aQ ds as)=.ok (.int 2,false):=rfl
 have ty:gF (aQ ds as) .tuple=true:=rfl
 unfold oR RQ bF
 generalize Tr.lst (as.map pT)=AS,Tr.lst (ds.map iT)=D,bH l=RT,aH rows=BT,aQ ds as=LT at *
 simp -dsimp[bO,eB,dr,drs,aZ,cls,ty,fB,g1,el,e0,za,i0,i1,lt,e1,e2,fG,dw,eqT,dep,cj]
end K20
end
section
namespace K20
open PySem L2 BH
theorem KY(a b:Nat):eqT (iT a) (iT b)=decide (a=b):=by
 unfold iT eqT
 by_cases h:a=b
 ·subst h; simp
 ·have:¬(a:Int)=b:=by omega
  simp[h,this]
theorem ady(p q:Nat × Nat):eqT (pT p) (pT q)=decide (p=q):=by
 unfold pT
 rw[show eqT (.tup [iT p.1,iT p.2]) (.tup [iT q.1,iT q.2])=(eqT (iT p.1) (iT q.1)&&(eqT (iT p.2) (iT q.2)&&true)) by simp only[eqT,mH],KY,KY]
 obtain⟨a,b⟩:=p
 obtain⟨c,d⟩:=q
 by_cases h:a=c <;> by_cases h':b=d <;> simp[h,h']
theorem KZ:∀zs:List Nat,deps (zs.map iT)=0
 | []=>rfl
 |z::zs=>by
  rw[List.map_cons]
  unfold deps
  rw[KZ zs]
  rfl
theorem Ug(p:Nat × Nat):dep (pT p)=1:=rfl
theorem K1:∀zs:List (Nat × Nat),deps (zs.map pT)<=1
 | []=>Nat.zero_le _
 |z::zs=>by
  rw[List.map_cons]
  unfold deps
  rw[Ug]
  have:=K1 zs
  omega
theorem Uh{α : Type} [DecidableEq α](t : α):∀zs:List α,(zs.any λz=>decide (z=t))=decide (t∈zs)
 | []=>rfl
 |z::zs=>by
  rw[List.any_cons,Uh t zs]
  by_cases h:z=t
  ·subst h; simp
  ·have:t≠z:=λe=>h e.symm
   simp[h,this]
theorem K3(f:Bool->Bool)(t:Nat)(zs:List Nat):fK f (iT t) (.lst (zs.map iT))=.ok (.bl (f (decide (t∈zs))),false):=by
 show(if deps (zs.map iT)<=40/\dep (iT t)<=40 then Rs.ok (Tr.bl (f (pN (iT t) (zs.map iT))),false)else .bad)=_
 rw[if_pos ⟨by rw[KZ]; omega,by show 0<=40; omega⟩]
 unfold pN
 rw[List.any_map,<-Uh]
 simp only[Function.comp_def,KY]
theorem adz(f:Bool->Bool)(t:Nat × Nat)(zs:List (Nat × Nat)):fK f (pT t) (.lst (zs.map pT))=.ok (.bl (f (decide (t∈zs))),false):=by
 show(if deps (zs.map pT)<=40/\dep (pT t)<=40 then Rs.ok (Tr.bl (f (pN (pT t) (zs.map pT))),false)else .bad)=_
 rw[if_pos ⟨by have:=K1 zs; omega,by rw[Ug]; omega⟩]
 have e:pN (pT t) (zs.map pT)=decide (t∈zs):=by
  unfold pN
  rw[List.any_map,Bool.eq_iff_iff,List.any_eq_true,decide_eq_true_eq]
  refine⟨λ⟨z,hz,e⟩=>?_,λh=>⟨t,h,wQ _⟩⟩
  have e:eqT (pT z) (pT t)=true:=e
  rw[ady,decide_eq_true_eq]at e
  exact e▸hz
 rw[e]
def sn(l:List (Int × Int))(d:Nat)(as:List (Nat × Nat))(k t:Nat):Bool:=decide (t∈(ord l).take d) || decide ((k,t)∈as)
def lq(b:Bool)(x:Int × Int):Tr:=if b=true then fT x else .non
end K20
end
section
namespace K20
open PySem L2 BH
def K4:SF:=(bf (Ax (aq (fK id) (aj 6) (aj 4)) (aq (fK id) (jx (ak (aj 3) (ak (aj 6) au))) (aq aK (aj 1) (eC (.int 1))))) (gN 7))
def K5:SF:=(fJ (iU 5 fX (ak (aq aK (gH (ak (eC .non) (ak (aq aK (aq aK (aj 0) (aj 3)) (aj 6)) au))) (aR (g1 pR) (ak (aj 7) au))) au)))
def Ds:SF:=(aG K4 K5)
section
variable (Bt:Tr)(s2:Sl)(ds:List Nat)(as:List (Nat × Nat))(k:Nat)(zs:List Nat)
theorem adA(R:List Tr)(t:Nat)(s7:Sl):K4 [.sh Bt,.sh (aQ ds as),s2,.sh (iT k),.sh (.lst (zs.map iT)),.ow R,.sh (iT t),s7]=.ok (.nx,[.sh Bt,.sh (aQ ds as),s2,.sh (iT k),.sh (.lst (zs.map iT)),.ow R,.sh (iT t),.sh (.bl (decide (t∈zs) || decide ((k,t)∈as)))]):=by
 have e1:=K3 id t zs
 have e2:=adz id (k,t) as
 have i1:aK (aQ ds as) (.int 1)=.ok (.lst (as.map pT),false):=rfl
 have ep:pT (k,t)=.tup [iT k,iT t]:=rfl
 rw[ep]at e2
 unfold K4
 generalize decide (t∈zs)=B1,decide ((k,t)∈as)=B2,iT t=Y,iT k=X,Tr.lst (as.map pT)=P,Tr.lst (zs.map iT)=Z,aQ ds as=LT at *
 cases B1 <;> simp -dsimp[eB,dr,drs,aZ,cls,cj,e1,e2,i1]
theorem adB{l:List (Int × Int)}{x:Int × Int}{t:Nat}(hB:aK Bt (iT k)=.ok (bH l,false))(hx:aK (bH l) (iT t)=.ok (fT x,false))(s1 s4:Sl)(R:List Tr)(hR:R.length<=1000)(b:Bool):K5 [.sh Bt,s1,s2,.sh (iT k),s4,.ow R,.sh (iT t),.sh (.bl b)]=.ok (.nx,[.sh Bt,s1,s2,.sh (iT k),s4,.ow (R++[lq b x]),.sh (iT t),.sh (.bl b)]):=by
 have hR':R.length<=100000:=by omega
 unfold K5 lq
 generalize iT t=Y,iT k=X,fT x=F,bH l=RT at *
 have g0:aK (.lst [.non,F]) (.int 0)=.ok (.non,false):=rfl
 have g1':aK (.lst [.non,F]) (.int 1)=.ok (F,false):=rfl
 cases b <;> simp -dsimp[dr,drs,aZ,cls,con,cN,fX,g1,pR,hB,hx,g0,g1',hR']
end
end K20
end
section
namespace K20
open PySem L2 BH
def lR(l:List (Int × Int))(d:Nat)(as:List (Nat × Nat))(k:Nat):List Tr:=(List.range l.length).map λt=>lq (sn l d as k t) (l.getD t (0,1))
def dZ(rows:List (List (Int × Int)))(ds:List Nat)(as:List (Nat × Nat)):List Tr:=(List.range rows.length).map λk=>.lst (lR (rows.getD k []) (ds.getD k 0) as k)
section
variable (Bt:Tr)(s2:Sl)(ds:List Nat)(as:List (Nat × Nat))(k:Nat){l:List (Int × Int)}{d:Nat}
theorem Ui(hB:aK Bt (iT k)=.ok (bH l,false))(hl:l.length<=12):∀(w t:Nat) (s6 s7:Sl),t+w=l.length->∃t6 t7,cR (gN 6) Ds ((List.range' t w).map iT) [.sh Bt,.sh (aQ ds as),s2,.sh (iT k),.sh (.lst (((ord l).take d).map iT)),.ow ((List.range t).map λt=>lq (sn l d as k t) (l.getD t (0,1))),s6,s7] =
  .ok (.nx,[.sh Bt,.sh (aQ ds as),s2,.sh (iT k),.sh (.lst (((ord l).take d).map iT)),.ow (lR l d as k),t6,t7])
 | 0,t,s6,s7,h=>by
  have:t=l.length:=by omega
  subst this
  exact⟨s6,s7,rfl⟩
 |w+1,t,s6,s7,h=>by
  have lt:t<l.length:=by omega
  have e1:=adA Bt s2 ds as k ((ord l).take d) ((List.range t).map λt=>lq (sn l d as k t) (l.getD t (0,1))) t s7
  have hx:aK (bH l) (iT t)=.ok (fT (l.getD t (0,1)),false):=oY (by simp[lt])
  have e2:=adB Bt s2 k hB hx (.sh (aQ ds as)) (.sh (.lst (((ord l).take d).map iT))) ((List.range t).map λt=>lq (sn l d as k t) (l.getD t (0,1))) (by simp; omega) (sn l d as k t)
  obtain⟨t6,t7,e3⟩:=Ui hB hl w (t+1) (.sh (iT t)) (.sh (.bl (sn l d as k t))) (by omega)
  refine⟨t6,t7,?_⟩
  rw[List.range'_succ,List.map_cons]
  rw[List.range_succ,List.map_append,List.map_cons,List.map_nil]at e3
  refine oZ ?_ e3
  show Ds [.sh Bt,.sh (aQ ds as),s2,.sh (iT k),.sh (.lst (((ord l).take d).map iT)),.ow ((List.range t).map λt=>lq (sn l d as k t) (l.getD t (0,1))),.sh (iT t),s7]=_
  unfold Ds aG
  rw[e1]
  exact e2
end
end K20
end
section
namespace K20
open PySem L2 BH
def Dt:EF:=(iQ (aX m8 (ak (aq aK (aj 0) (aj 3)) au)) jj (jk (aq aK (aq aK (aj 1) (eC (.int 0))) (aj 3))))
def Du:SF:=(bY (dh (ak (aR (g1 bB) (ak (aq aK (aj 0) (aj 3)) au)) au)) (gN 6) Ds)
def uF:SF:=(aG (bf Dt (gN 4)) (aG (gZ 5 (gH au)) (aG Du (lJ 5 (fJ (iU 2 fX (ak (aj 5) au)))))))
theorem seen_def:J3=(aG (gZ 2 (gH au)) (aG (bN (bY (dh (ak (aR (g1 bB) (ak (aj 0) au)) au)) (gN 3) uF)) (bJ (aj 2)))):=rfl
section
variable {m:Nat}{rows:List (List (Int × Int))}{ds:List Nat}{as:List (Nat × Nat)}{k:Nat}{l:List (Int × Int)}{d:Nat}
theorem adC(hw:∀x∈l,Wo x)(hl:l.length<=12)(hB:aK (aH rows) (iT k)=.ok (bH l,false))(hd:ds[k]?=some d)(s2 s4 s5 s6 s7:Sl):Dt [.sh (aH rows),.sh (aQ ds as),s2,.sh (iT k),s4,s5,s6,s7]=.ok (.v (.lst (((ord l).take d).map iT)) true,[.sh (aH rows),.sh (aQ ds as),s2,.sh (iT k),s4,s5,s6,s7]):=by
 have eo:=(Dr hw hl).2.1
 have i0:aK (aQ ds as) (.int 0)=.ok (.lst (ds.map iT),false):=rfl
 have id:aK (.lst (ds.map iT)) (iT k)=.ok (.int (d:Nat),false):=oY (by rw[List.getElem?_map,hd]; rfl)
 have ec:pQ none (some (d:Int)) (.lst ((ord l).map iT))=.ok (.lst (((ord l).take d).map iT),true):=by
  show Rs.ok (Tr.lst (cut ((ord l).map iT) none (some (d:Int))),true)=_
  rw[Ks,<-List.map_take]
 unfold Dt
 generalize Tr.lst (((ord l).take d).map iT)=P,Tr.lst ((ord l).map iT)=O,Tr.lst (ds.map iT)=D,iT k=X,bH l=RT,aQ ds as=LT,aH rows=BT at *
 simp -dsimp[iV,dr,drs,aZ,jF,hB,eo,i0,id,ec]
theorem adD(hB:aK (aH rows) (iT k)=.ok (bH l,false))(hl:l.length<=12)(s2 s6 s7:Sl):∃t6 t7,Du [.sh (aH rows),.sh (aQ ds as),s2,.sh (iT k),.sh (.lst (((ord l).take d).map iT)),.ow [],s6,s7]=.ok (.nx,[.sh (aH rows),.sh (aQ ds as),s2,.sh (iT k),.sh (.lst (((ord l).take d).map iT)),.ow (lR l d as k),t6,t7]):=by
 obtain⟨t6,t7,e⟩:=Ui (aH rows) s2 ds as k (d:=d) hB hl l.length 0 s6 s7 (by omega)
 refine⟨t6,t7,?_⟩
 have el:=Dp l
 have ef:dh (ak (aR (g1 bB) (ak (aq aK (aj 0) (aj 3)) au)) au) [.sh (aH rows),.sh (aQ ds as),s2,.sh (iT k),.sh (.lst (((ord l).take d).map iT)),.ow [],s6,s7]=.ok ((List.range' 0 l.length).map iT,[.sh (aH rows),.sh (aQ ds as),s2,.sh (iT k),.sh (.lst (((ord l).take d).map iT)),.ow [],s6,s7]):=by
  rw[<-List.range_eq_range']
  have ok:=wk (n:=l.length) (by omega)
  generalize Tr.lst (((ord l).take d).map iT)=P,iT k=X,bH l=RT,aQ ds as=LT,aH rows=BT at *
  simp -dsimp[drs,dr,aZ,g1,hB,el,ok]
  exact uE _
 unfold Du
 generalize dh _=G at ef ⊢
 unfold bY
 simp only[ef]
 exact e
end
end K20
end
section
namespace K20
open PySem L2 BH
section
variable {m:Nat}{rows:List (List (Int × Int))}{ds:List Nat}{as:List (Nat × Nat)}
theorem adE{k d:Nat}{l:List (Int × Int)}(hw:∀x∈l,Wo x)(hl:l.length<=12)(hB:aK (aH rows) (iT k)=.ok (bH l,false))(hd:ds[k]?=some d)(F:List Tr)(hF:F.length<=1000)(s4 s5 s6 s7:Sl):∃t4 t5 t6 t7,uF [.sh (aH rows),.sh (aQ ds as),.ow F,.sh (iT k),s4,s5,s6,s7]=.ok (.nx,[.sh (aH rows),.sh (aQ ds as),.ow (F++[.lst (lR l d as k)]),.sh (iT k),t4,t5,t6,t7]):=by
 have e1:=adC (as:=as) hw hl hB hd (.ow F) s4 s5 s6 s7
 obtain⟨t6,t7,e2⟩:=adD (ds:=ds) (as:=as) (d:=d) hB hl (.ow F) s6 s7
 refine⟨.sh (.lst (((ord l).take d).map iT)),.sh (.lst (lR l d as k)),t6,t7,?_⟩
 have hF':F.length<=100000:=by omega
 unfold uF
 generalize lR l d as k=R,(((ord l).take d).map iT)=P,iT k=X,bH l=RT,aQ ds as=LT,aH rows=BT,Du=G2,Dt=G1 at *
 have z:dF 5 [.sh BT,.sh LT,.ow F,.sh X,.sh (.lst P),.ow R,t6,t7]=[.sh BT,.sh LT,.ow F,.sh X,.sh (.lst P),.sh (.lst R),t6,t7]:=rfl
 simp -dsimp[dr,drs,aZ,cls,con,cN,fX,e1,e2,z,hF']
theorem Uj(hB:Bk m rows)(hL:ds.length=rows.length):∀(w k:Nat) (s3 s4 s5 s6 s7:Sl),k+w=rows.length->∃t3 t4 t5 t6 t7,cR (gN 3) uF ((List.range' k w).map iT) [.sh (aH rows),.sh (aQ ds as),.ow ((List.range k).map λk=>.lst (lR (rows.getD k []) (ds.getD k 0) as k)),s3,s4,s5,s6,s7]=.ok (.nx,[.sh (aH rows),.sh (aQ ds as),.ow (dZ rows ds as),t3,t4,t5,t6,t7])
 | 0,k,s3,s4,s5,s6,s7,h=>by
  have:k=rows.length:=by omega
  subst this
  exact⟨s3,s4,s5,s6,s7,rfl⟩
 |w+1,k,s3,s4,s5,s6,s7,h=>by
  have lt:k<rows.length:=by omega
  have ld:k<ds.length:=by omega
  obtain⟨b1,b2,b3,b4,b5⟩:=id hB
  have hk:rows[k]?=some (rows.getD k []):=by simp[lt]
  have hd:ds[k]?=some (ds.getD k 0):=by simp[ld]
  have hm:=b5 (rows.getD k []) (List.mem_of_getElem? hk)
  obtain⟨r4,r5,r6,r7,e1⟩:=adE (as:=as) hm.2 (by rw[hm.1]; exact b4) (yZ hk) hd ((List.range k).map λk=>.lst (lR (rows.getD k []) (ds.getD k 0) as k)) (by simp; omega) s4 s5 s6 s7
  obtain⟨t3,t4,t5,t6,t7,e2⟩:=Uj hB hL w (k+1) (.sh (iT k)) r4 r5 r6 r7 (by omega)
  refine⟨t3,t4,t5,t6,t7,?_⟩
  rw[List.range'_succ,List.map_cons]
  rw[List.range_succ,List.map_append,List.map_cons,List.map_nil]at e2
  exact oZ e1 e2
theorem Uk(hB:Bk m rows)(hL:ds.length=rows.length):rW [aH rows,aQ ds as]=.ok (.lst (dZ rows ds as),true):=by
 obtain⟨t3,t4,t5,t6,t7,e⟩:=Uj (as:=as) hB hL rows.length 0 .un .un .un .un .un (by omega)
 have el:=KQ rows
 have b2:=hB.2.1
 have ef:dh (ak (aR (g1 bB) (ak (aj 0) au)) au) [.sh (aH rows),.sh (aQ ds as),.ow [],.un,.un,.un,.un,.un]=.ok ((List.range' 0 rows.length).map iT,[.sh (aH rows),.sh (aQ ds as),.ow [],.un,.un,.un,.un,.un]):=by
  rw[<-List.range_eq_range']
  have ok:=wk (n:=rows.length) (by omega)
  generalize aQ ds as=LT,aH rows=BT at *
  simp -dsimp[drs,dr,aZ,g1,el,ok]
  exact uE _
 have e2:bN (bY (dh (ak (aR (g1 bB) (ak (aj 0) au)) au)) (gN 3) uF) [.sh (aH rows),.sh (aQ ds as),.ow [],.un,.un,.un,.un,.un]=.ok (.nx,[.sh (aH rows),.sh (aQ ds as),.ow (dZ rows ds as),t3,t4,t5,t6,t7]):=by
  generalize dh _=G at ef ⊢
  unfold bN bY
  simp only[ef]
  show bW (cR (gN 3) uF ((List.range' 0 rows.length).map iT) _)=_
  have e':cR (gN 3) uF ((List.range' 0 rows.length).map iT) [.sh (aH rows),.sh (aQ ds as),.ow [],.un,.un,.un,.un,.un]=_:=e
  rw[e']
  rfl
 unfold rW
 rw[seen_def]
 unfold bF
 generalize bN _=G at e2 ⊢
 generalize aQ ds as=LT,aH rows=BT,dZ rows ds as=R at *
 simp -dsimp[bO,cls,e2]
end
end K20
end
section
namespace K20
open PySem L2 BH
theorem adF{rows:List (List (Int × Int))}(hl:rows.length<=1000):yI [aH rows]=.ok (aH rows,true):=by
 have em:=yP (r:=bH) (h:=bH) (xs:=rows) (ρ:=[.sh (aH rows)]) (τ:=[]) (rest:=[]) (i:=bM (aj 0)) (fe:=aR (g1 iR) (ak (aj 0) au)) (by omega) (by
   unfold aH
   generalize rows.map bH=L at *
   simp -dsimp[dr,g8]) rfl (λs'=>rfl) (λs'=>rfl) (λl ml=>⟨true,by
   have e:iR (bH l)=.ok (bH l,true):=rfl
   generalize bH l=R at *
   simp -dsimp[iV,dr,drs,aZ,g1,e]⟩)
 show bF 1 (bJ (cD [none] (bM (aj 0)) (gN 0) cF (aR (g1 iR) (ak (aj 0) au)))) [aH rows]=_
 unfold bF
 generalize cD _ _ _ _ _=G at em ⊢
 have eb:Tr.lst (rows.map bH)=aH rows:=rfl
 rw[eb]at em
 generalize aH rows=B at *
 simp -dsimp[bO,em]
end K20
end
section
namespace K20
open PySem L2 BH
def gr(l:List (Int × Int))(s:Nat->Bool):List Tr:=(List.range l.length).map λt=>lq (s t) (l.getD t (0,1))
def gs(rows:List (List (Int × Int)))(s:Nat->Nat->Bool):List Tr:=(List.range rows.length).map λk=>.lst (gr (rows.getD k []) (s k))
theorem adG{l:List (Int × Int)}{s:Nat->Bool}{t:Nat}:(gr l s).set t (fT (l.getD t (0,1)))=gr l λt'=>s t' || decide (t'=t):=by
 refine List.ext_getElem? λi=>?_
 unfold gr
 rw[List.getElem?_set,List.getElem?_map,List.getElem?_map]
 by_cases h:t=i
 ·subst h
  by_cases z:t<l.length <;> simp[z,lq]
 ·have h':¬i=t:=λe=>h e.symm
  by_cases z:i<l.length <;> simp[h,h',z]
theorem adH{rows:List (List (Int × Int))}{s:Nat->Nat->Bool}{k t:Nat}:(gs rows s).set k (.lst ((gr (rows.getD k []) (s k)).set t (fT ((rows.getD k []).getD t (0,1)))))=gs rows λk' t'=>s k' t' || (decide (k'=k)&&decide (t'=t)):=by
 rw[adG]
 refine List.ext_getElem? λi=>?_
 unfold gs
 rw[List.getElem?_set,List.getElem?_map,List.getElem?_map]
 by_cases h:k=i
 ·subst h
  by_cases z:k<rows.length <;> simp[z]
 ·have h':¬i=k:=λe=>h e.symm
  by_cases z:i<rows.length <;> simp[h,h',z]
theorem Ul{ts:List Tr}{k:Nat}{u:Tr}(h:ts[k]?=some u):iG ts (iT k)=.ok (k,u):=by
 have lt:=(List.getElem?_eq_some_iff.mp h).1
 have e:gM ts.length (k:Int)=some k:=by
  unfold gM
  rw[if_pos (by omega),if_pos (by omega)]
  rfl
 unfold iG iT
 simp only[e,h]
def wu:SF:=(tQ 4 (kE 5) (kE 7) (aq aK (aq aK (aj 0) (aj 5)) (aj 7)))
section
variable {m:Nat}{rows:List (List (Int × Int))}{ds:List Nat}{as:List (Nat × Nat)}
theorem Um{k t:Nat}{s:Nat->Nat->Bool}(hk:k<rows.length)(ht:t<(rows.getD k []).length)(s1 s2 s3 s6:Sl):wu [.sh (aH rows),s1,s2,s3,.dp (gs rows s),.sh (iT k),s6,.sh (iT t)]=.ok (.nx,[.sh (aH rows),s1,s2,s3,.dp (gs rows λk' t'=>s k' t' || (decide (k'=k)&&decide (t'=t))),.sh (iT k),s6,.sh (iT t)]):=by
 have i1:aK (aH rows) (iT k)=.ok (bH (rows.getD k []),false):=yZ (by simp[hk])
 have i2:aK (bH (rows.getD k [])) (iT t)=.ok (fT ((rows.getD k []).getD t (0,1)),false):=acR ht
 have i3:iG (gs rows s) (iT k)=.ok (k,.lst (gr (rows.getD k []) (s k))):=Ul (by unfold gs; simp[hk])
 have i4:iG (gr (rows.getD k []) (s k)) (iT t)=.ok (t,lq (s k t) ((rows.getD k []).getD t (0,1))):=Ul (by
  unfold gr
  generalize rows.getD k []=l at *
  simp[ht])
 have e:=adH (rows:=rows) (s:=s) (k:=k) (t:=t)
 unfold wu
 generalize iT t=Y,iT k=X,lq _ _=F',fT _=F,bH (rows.getD k [])=R,gs rows _=G1,gs rows s=G0,gr (rows.getD k []) (s k)=G,aH rows=BT at *
 simp -dsimp[dr,drs,aZ,gP,bW,lM,i1,i2,i3,i4,e]
theorem Uo{k:Nat}(hk:k<rows.length)(s1 s2 s3 s6:Sl):∀(zs:List Nat) (s:Nat->Nat->Bool) (s7:Sl),(∀t∈zs,t<(rows.getD k []).length)->∃t7,cR (gN 7) wu (zs.map iT) [.sh (aH rows),s1,s2,s3,.dp (gs rows s),.sh (iT k),s6,s7]=.ok (.nx,[.sh (aH rows),s1,s2,s3,.dp (gs rows λk' t'=>s k' t' || (decide (k'=k)&&decide (t'∈zs))),.sh (iT k),s6,t7])
 | [],s,s7,h=>⟨s7,by
  have e:(λk' t'=>s k' t' || (decide (k'=k)&&decide (t'∈([]:List Nat))))=s:=by
   funext k' t'
   simp
  rw[e]
  rfl⟩
 |z::zs,s,s7,h=>by
  obtain⟨t7,e⟩:=Uo hk s1 s2 s3 s6 zs (λk' t'=>s k' t' || (decide (k'=k)&&decide (t'=z))) (.sh (iT z)) λt mt=>h t (List.mem_cons_of_mem _ mt)
  refine⟨t7,?_⟩
  have e':(λk' t'=>(s k' t' || (decide (k'=k)&&decide (t'=z))) || (decide (k'=k)&&decide (t'∈zs)))=λk' t'=>s k' t' || (decide (k'=k)&&decide (t'∈z::zs)):=by
   funext k' t'
   by_cases h1:k'=k <;> by_cases h2:t'=z <;> simp[h1,h2]
  rw[e']at e
  rw[List.map_cons]
  exact oZ (Um hk (h z (List.mem_cons_self ..)) s1 s2 s3 s6) e
end
end K20
end
section
namespace K20
open PySem L2 BH
theorem K6{g:GF}{b:SF}{u:Tr}{us:List Tr}{ρ ρ0 ρ1:En}{r:Rs (Fl × En)}(hg:g u ρ=.ok ρ0)(h:b ρ0=.ok (.nx,ρ1))(h':cR g b us ρ1=r):cR g b (u::us) ρ = r:=by
 unfold cR
 rw[hg]
 show(b ρ0).bind _=_
 rw[h]
 exact h'
theorem Uq{α : Type}{r : α -> Tr}{h : α -> List Tr}{f:EF}{τ : En}:∀(xs:List α) (s:Sl),(∀x∈xs,f (.sh (r x)::τ)=.ok (.v (.lst (h x)) true,.sh (r x)::τ))->∃s',tV (gN 0) cF f (xs.map r) (s::τ)=.ok (xs.map λx=>.lst (h x),s'::τ)
 | [],s,_=>⟨s,rfl⟩
 |x::xs,s,q=>by
  have e:=q x (by simp)
  obtain⟨s',e'⟩:=Uq xs (.sh (r x)) λv hv=>q v (by simp[hv])
  refine⟨s',?_⟩
  rw[List.map_cons]
  unfold tV
  simp[e,tU,e']
theorem Ur{α : Type}{r : α -> Tr}{h : α -> List Tr}{xs:List α}{ρ : En}{n:Nat}{i:IF}{fe:EF}(hl:xs.length<=100000)(hi:i ρ=.ok (xs.map r,ρ))
  (hf:∀x∈xs,fe [.sh (r x)]=.ok (.v (.lst (h x)) true,[.sh (r x)])):oJ n [none] i (gN 0) cF fe ρ=.ok (.nx,ρ.set n (.dp (xs.map λx=>.lst (h x)))):=by
 obtain⟨s',e⟩:=Uq (τ:=[]) xs .un hf
 have hl':(xs.map r).length<=100000:=by rw[List.length_map]; exact hl
 rw[acv,hi]
 simp only[rY]
 rw[if_pos hl']
 have hu:dU [none] ρ=[.un]:=rfl
 rw[hu,e]
 rfl
theorem adI{α : Type}(g : α -> Tr)(d : α)(rows:List α):vH (rows.map g)=(List.range' 0 rows.length).map λk=>.tup [iT k,g (rows.getD k d)]:=by
 rw[<-List.range_eq_range']
 refine List.ext_getElem? λi=>?_
 unfold vH
 by_cases z:i<rows.length
 ·simp[z,iT]
 ·simp[z]
def Dv:SF:=(bY (bM (iQ (aj 6) jj (jk (aq aK (aj 2) (aj 5))))) (gN 7) wu)
def Ut:GF:=(gT 2 (bL (gN 5) (bL (gN 6) dI)))
def Uu:GF:=(gT 2 (bL (gN 5) (bL (gN 7) dI)))
section
variable {m:Nat}{rows:List (List (Int × Int))}{ds:List Nat}{as:List (Nat × Nat)}
theorem adJ{k d:Nat}{l:List (Int × Int)}(hB:Bk m rows)(hk:rows[k]?=some l)(hd:ds[k]?=some d)(s:Nat->Nat->Bool)(s1 s3 s7:Sl):∃t7,Dv [.sh (aH rows),s1,.sh (.lst (ds.map iT)),s3,.dp (gs rows s),.sh (iT k),.sh (.lst ((ord l).map iT)),s7]=.ok (.nx,[.sh (aH rows),s1,.sh (.lst (ds.map iT)),s3,.dp (gs rows λk' t'=>s k' t' || (decide (k'=k)&&decide (t'∈(ord l).take d))),.sh (iT k),.sh (.lst ((ord l).map iT)),t7]):=by
 obtain⟨b1,b2,b3,b4,b5⟩:=hB
 have lt:=(List.getElem?_eq_some_iff.mp hk).1
 have hl:rows.getD k []=l:=by simp[hk]
 have hm:=b5 l (List.mem_of_getElem? hk)
 obtain⟨t7,e⟩:=Uo (rows:=rows) lt s1 (.sh (.lst (ds.map iT))) s3 (.sh (.lst ((ord l).map iT))) ((ord l).take d) s s7 (λt ht=>by
  rw[hl]
  exact List.mem_range.mp ((Dr hm.2 (by rw[hm.1]; exact b4)).1.1.mem_iff.mp (List.mem_of_mem_take ht)))
 refine⟨t7,?_⟩
 have id:aK (.lst (ds.map iT)) (iT k)=.ok (.int (d:Nat),false):=oY (by rw[List.getElem?_map,hd]; rfl)
 have ec:pQ none (some (d:Int)) (.lst ((ord l).map iT))=.ok (.lst (((ord l).take d).map iT),true):=by
  show Rs.ok (Tr.lst (cut ((ord l).map iT) none (some (d:Int))),true)=_
  rw[Ks,<-List.map_take]
 have ef:bM (iQ (aj 6) jj (jk (aq aK (aj 2) (aj 5)))) [.sh (aH rows),s1,.sh (.lst (ds.map iT)),s3,.dp (gs rows s),.sh (iT k),.sh (.lst ((ord l).map iT)),s7]=.ok (((ord l).take d).map iT,[.sh (aH rows),s1,.sh (.lst (ds.map iT)),s3,.dp (gs rows s),.sh (iT k),.sh (.lst ((ord l).map iT)),s7]):=by
  generalize ((ord l).take d).map iT=P,Tr.lst ((ord l).map iT)=O,Tr.lst (ds.map iT)=D,iT k=X,aH rows=BT at *
  simp -dsimp[dr,drs,aZ,jF,g8,id,ec]
 unfold Dv
 generalize bM _=G at ef ⊢
 unfold bY
 simp only[ef]
 exact e
theorem Uv(hB:Bk m rows)(hL:ds.length=rows.length)(s1 s3:Sl):∀(w k:Nat) (s5 s6 s7:Sl),k+w=rows.length->∃t5 t6 t7,cR Ut Dv ((List.range' k w).map λk=>.tup [iT k,.lst ((ord (rows.getD k [])).map iT)]) [.sh (aH rows),s1,.sh (.lst (ds.map iT)),s3,.dp (gs rows λk' t'=>decide (k'<k)&&decide (t'∈(ord (rows.getD k' [])).take (ds.getD k' 0))),s5,s6,s7]=.ok (.nx,[.sh (aH rows),s1,.sh (.lst (ds.map iT)),s3,.dp (gs rows λk' t'=>decide (k'<rows.length)&&decide (t'∈(ord (rows.getD k' [])).take (ds.getD k' 0))),t5,t6,t7])
 | 0,k,s5,s6,s7,h=>by
  have:k=rows.length:=by omega
  subst this
  exact⟨s5,s6,s7,rfl⟩
 |w+1,k,s5,s6,s7,h=>by
  have lt:k<rows.length:=by omega
  have ld:k<ds.length:=by omega
  have hk:rows[k]?=some (rows.getD k []):=by simp[lt]
  have hd:ds[k]?=some (ds.getD k 0):=by simp[ld]
  obtain⟨r7,e1⟩:=adJ hB hk hd (λk' t'=>decide (k'<k)&&decide (t'∈(ord (rows.getD k' [])).take (ds.getD k' 0))) s1 s3 s7
  have es:(λk' t'=>(decide (k'<k)&&decide (t'∈(ord (rows.getD k' [])).take (ds.getD k' 0))) || (decide (k'=k)&&decide (t'∈(ord (rows.getD k [])).take (ds.getD k 0))))=λk' t'=>decide (k'<k+1)&&decide (t'∈(ord (rows.getD k' [])).take (ds.getD k' 0)):=by
   funext k' t'
   by_cases h1:k'=k
   ·subst h1; simp
   ·by_cases h2:k'<k
    ·have h3:k'<k+1:=by omega
     simp[h1,h2,h3]
    ·have h3:¬k'<k+1:=by omega
     simp[h1,h2,h3]
  rw[es]at e1
  obtain⟨t5,t6,t7,e2⟩:=Uv hB hL s1 s3 w (k+1) (.sh (iT k)) (.sh (.lst ((ord (rows.getD k [])).map iT))) r7 (by omega)
  refine⟨t5,t6,t7,?_⟩
  rw[List.range'_succ,List.map_cons]
  exact K6 rfl e1 e2
theorem Uw(s1 s2 s3 s6:Sl):∀(as:List (Nat × Nat)) (s:Nat->Nat->Bool) (s5 s7:Sl),(∀p∈as,p.1<rows.length/\p.2<(rows.getD p.1 []).length)->∃t5 t7,cR Uu wu (as.map pT) [.sh (aH rows),s1,s2,s3,.dp (gs rows s),s5,s6,s7]=.ok (.nx,[.sh (aH rows),s1,s2,s3,.dp (gs rows λk' t'=>s k' t' || decide ((k',t')∈as)),t5,s6,t7])
 | [],s,s5,s7,h=>⟨s5,s7,by
  have e:(λk' t'=>s k' t' || decide ((k',t')∈([]:List (Nat × Nat))))=s:=by
   funext k' t'
   simp
  rw[e]
  rfl⟩
 |p::as,s,s5,s7,h=>by
  obtain⟨t5,t7,e⟩:=Uw s1 s2 s3 s6 as (λk' t'=>s k' t' || (decide (k'=p.1)&&decide (t'=p.2))) (.sh (iT p.1)) (.sh (iT p.2)) λq mq=>h q (List.mem_cons_of_mem _ mq)
  refine⟨t5,t7,?_⟩
  obtain⟨a,b⟩:=p
  have e':(λk' t'=>(s k' t' || (decide (k'=a)&&decide (t'=b))) || decide ((k',t')∈as))=λk' t'=>s k' t' || decide ((k',t')∈(a,b)::as):=by
   funext k' t'
   by_cases h1:k'=a <;> by_cases h2:t'=b <;> simp[h1,h2]
  rw[e']at e
  rw[List.map_cons]
  have hp:=h (a,b) (List.mem_cons_self ..)
  exact K6 rfl (Um hp.1 hp.2 s1 s2 s3 s6) e
end
end K20
end
section
namespace K20
open PySem L2 BH
def zf:SF:=(oJ 4 [none] (bM (aj 0)) (gN 0) cF (aq cX (rN [.non]) (aR (g1 bB) (ak (aj 0) au))))
def Dw:IF:=(yq (ak (aX oO (ak (aj 0) au)) au))
def zj:SF:=(bY Dw Ut Dv)
def zm:SF:=(bY (bM (aj 3)) Uu wu)
section
variable {m:Nat}{rows:List (List (Int × Int))}{ds:List Nat}{as:List (Nat × Nat)}
theorem adK(hB:Bk m rows)(s1 s2 s3 s4 s5 s6 s7:Sl):zf [.sh (aH rows),s1,s2,s3,s4,s5,s6,s7]=.ok (.nx,[.sh (aH rows),s1,s2,s3,.dp (gs rows λ_ _=>false),s5,s6,s7]):=by
 obtain⟨b1,b2,b3,b4,b5⟩:=hB
 have e:=Ur (r:=bH) (h:=λl=>List.replicate l.length Tr.non) (xs:=rows) (ρ:=[.sh (aH rows),s1,s2,s3,s4,s5,s6,s7]) (n:=4) (i:=bM (aj 0)) (fe:=aq cX (rN [.non]) (aR (g1 bB) (ak (aj 0) au))) (by omega) (by
   unfold aH
   generalize rows.map bH=L at *
   simp -dsimp[dr,g8]) (λl ml=>by
   have hl:=(b5 l ml).1
   have e1:=Dp l
   have e2:cX (.lst [.non]) (.int (l.length:Nat))=.ok (.lst (List.replicate l.length Tr.non),true):=by
    unfold cX
    have h1:(0:Int)<=l.length:=by omega
    simp[h1]
    omega
   generalize List.replicate l.length Tr.non=O,bH l=R at *
   simp -dsimp[dr,drs,aZ,g1,e1,e2])
 unfold zf
 rw[e]
 have eg:(rows.map λl=>Tr.lst (List.replicate l.length Tr.non))=gs rows λ_ _=>false:=by
  refine List.ext_getElem? λi=>?_
  unfold gs gr lq
  by_cases z:i<rows.length
  ·simp[z]
   refine List.ext_getElem? λj=>?_
   by_cases y:j<rows[i].length <;> simp[y]
  ·simp[z]
 rw[eg]
 rfl
end
end K20
end
section
namespace K20
open PySem L2 BH
section
variable {m:Nat}{rows:List (List (Int × Int))}{ds:List Nat}{as:List (Nat × Nat)}
theorem adL(hB:Bk m rows)(hL:ds.length=rows.length)(s1 s3 s5 s6 s7:Sl):∃t5 t6 t7,bN zj [.sh (aH rows),s1,.sh (.lst (ds.map iT)),s3,.dp (gs rows λ_ _=>false),s5,s6,s7]=.ok (.nx,[.sh (aH rows),s1,.sh (.lst (ds.map iT)),s3,.dp (gs rows λk' t'=>decide (k'<rows.length)&&decide (t'∈(ord (rows.getD k' [])).take (ds.getD k' 0))),t5,t6,t7]):=by
 obtain⟨t5,t6,t7,e⟩:=Uv hB hL s1 s3 rows.length 0 s5 s6 s7 (by omega)
 refine⟨t5,t6,t7,?_⟩
 have e0:(λ(k' t':Nat)=>decide (k'<0)&&decide (t'∈(ord (rows.getD k' [])).take (ds.getD k' 0)))=λ_ _=>false:=by
  funext k' t'
  simp
 rw[e0]at e
 have er:=Ub hB
 have em:=adI (λl=>Tr.lst ((ord l).map iT)) [] rows
 have ef:Dw [.sh (aH rows),s1,.sh (.lst (ds.map iT)),s3,.dp (gs rows λ_ _=>false),s5,s6,s7]=.ok ((List.range' 0 rows.length).map λk=>.tup [iT k,.lst ((ord (rows.getD k [])).map iT)],[.sh (aH rows),s1,.sh (.lst (ds.map iT)),s3,.dp (gs rows λ_ _=>false),s5,s6,s7]):=by
  rw[<-em]
  unfold Dw yq
  generalize (rows.map λl=>Tr.lst ((ord l).map iT))=O,Tr.lst (ds.map iT)=D,aH rows=BT at *
  simp -dsimp[dr,drs,aZ,er]
 unfold zj
 generalize Dw=G at ef ⊢
 unfold bN bY
 simp only[ef]
 show bW (cR _ _ _ _)=_
 rw[e]
 rfl
theorem adM(hr:∀p∈as,p.1<rows.length/\p.2<(rows.getD p.1 []).length)(s:Nat->Nat->Bool)(s1 s2 s5 s6 s7:Sl):∃t5 t7,bN zm [.sh (aH rows),s1,s2,.sh (.lst (as.map pT)),.dp (gs rows s),s5,s6,s7]=.ok (.nx,[.sh (aH rows),s1,s2,.sh (.lst (as.map pT)),.dp (gs rows λk' t'=>s k' t' || decide ((k',t')∈as)),t5,s6,t7]):=by
 obtain⟨t5,t7,e⟩:=Uw s1 s2 (.sh (.lst (as.map pT))) s6 as s s5 s7 hr
 refine⟨t5,t7,?_⟩
 have ef:bM (aj 3) [.sh (aH rows),s1,s2,.sh (.lst (as.map pT)),.dp (gs rows s),s5,s6,s7]=.ok (as.map pT,[.sh (aH rows),s1,s2,.sh (.lst (as.map pT)),.dp (gs rows s),s5,s6,s7]):=rfl
 unfold zm
 generalize bM _=G at ef ⊢
 unfold bN bY
 simp only[ef]
 show bW (cR _ _ _ _)=_
 rw[e]
 rfl
theorem adN:(gs rows λk' t'=>(decide (k'<rows.length)&&decide (t'∈(ord (rows.getD k' [])).take (ds.getD k' 0))) || decide ((k',t')∈as))=dZ rows ds as:=by
 refine List.map_congr_left λk hk=>?_
 have hk:=List.mem_range.mp hk
 show Tr.lst (gr _ _)=Tr.lst (gr _ _)
 congr 2
 funext t
 unfold sn
 simp[hk]
theorem Lk.ok(hB:Bk m rows)(hL:Lk rows.length m ds as):∀p∈as,p.1<rows.length/\p.2<(rows.getD p.1 []).length:=λp mp=>by
 have h:=hL.2.2.2.2 p mp
 refine⟨h.1,?_⟩
 have hk:rows[p.1]?=some (rows.getD p.1 []):=by simp[h.1]
 rw[(hB.2.2.2.2 _ (List.mem_of_getElem? hk)).1]
 exact h.2
theorem adO:RV=(aG (bf (aj 1) (gT 2 (bL (gN 2) (bL (gN 3) dI)))) (aG zf (aG (bN zj) (aG (bN zm) (BK 4 (bJ (aj 4))))))):=rfl
theorem adP:Sy=(jU (bf (aj 1) (gT 2 (bL (gN 2) (bL (gN 3) dI)))) (jU zf (jU (bN zj) (jU (bN zm) (λρ=>gP ρ 4))))):=rfl
theorem adQ(hB:Bk m rows)(hL:Lk rows.length m ds as):vJ [aH rows,aQ ds as]=.ok (.lst (dZ rows ds as),true)/\yH [aH rows,aQ ds as]=.ok (dZ rows ds as):=by
 have e1:=adK hB (.sh (aQ ds as)) (.sh (.lst (ds.map iT))) (.sh (.lst (as.map pT))) .un .un .un .un
 obtain⟨t5,t6,t7,e2⟩:=adL hB hL.1 (.sh (aQ ds as)) (.sh (.lst (as.map pT))) .un .un .un
 obtain⟨u5,u7,e3⟩:=adM (Lk.ok hB hL) (λk' t'=>decide (k'<rows.length)&&decide (t'∈(ord (rows.getD k' [])).take (ds.getD k' 0))) (.sh (aQ ds as)) (.sh (.lst (ds.map iT))) t5 t6 t7
 rw[adN]at e3
 have e0:bf (aj 1) (gT 2 (bL (gN 2) (bL (gN 3) dI))) [.sh (aH rows),.sh (aQ ds as),.un,.un,.un,.un,.un,.un]=.ok (.nx,[.sh (aH rows),.sh (aQ ds as),.sh (.lst (ds.map iT)),.sh (.lst (as.map pT)),.un,.un,.un,.un]):=rfl
 unfold vJ yH
 rw[adO,adP]
 unfold bF vM
 generalize gs rows _=R2,gs rows _=R1,dZ rows ds as=R,Tr.lst (as.map pT)=A,Tr.lst (ds.map iT)=D,aQ ds as=LT,aH rows=BT,bN zm=G3,bN zj=G2,zf=G1,bf _ _=G0 at *
 constructor
 ·simp -dsimp[bO,e0,e1,e2,e3,oH]
 ·simp only[jU,bO,List.map_cons,List.map_nil,List.length_cons,List.length_nil,List.cons_append,List.nil_append]
  show(G0 [.sh BT,.sh LT,.un,.un,.un,.un,.un,.un]).bind _=_
  simp only[e0,e1,e2,e3,Rs.gG]
  rfl
theorem Ux(hB:Bk m rows)(hL:Lk rows.length m ds as):vK [aH rows,aQ ds as]=.ok (.lst (dZ rows ds as),true)/\uw [aH rows,aQ ds as]=.ok (dZ rows ds as):=by
 obtain⟨e1,e2⟩:=adQ hB hL
 have e3:=Ue hB hL
 have e4:=Ko hB.lg
 unfold vK uw Je SJ bF vM ur
 generalize dZ rows ds as=R,aQ ds as=LT,aH rows=BT at *
 constructor
 ·simp -dsimp[bO,dr,drs,aZ,e1,e3,e4]
 ·simp -dsimp[bO,dr,drs,aZ,jU,vN,gP,e2,e3,e4]
end
end K20
end
section
namespace K20
open PySem L2 BH
def nr(rows:List (List (Int × Int)))(ds:List Nat)(p:Nat × Nat):Bool := !decide (p.2∈(ord (rows.getD p.1 [])).take (ds.getD p.1 0))
theorem adR{g:GF}{c:BF}{f:EF}{u T:Tr}{fr:Bool}{us zs:List Tr}{ρ ρ0 ρ':En}{b:Bool}(hg:g u ρ=.ok ρ0)(hc:c ρ0=.ok (b,ρ0))(hf:f ρ0=.ok (.v T fr,ρ0))(h:fO g c f us ρ0=.ok (zs,ρ')):fO g c f (u::us) ρ=.ok (if b=true then T::zs else zs,ρ'):=by
 unfold fO
 rw[hg]
 show(c ρ0).bind _=_
 rw[hc]
 cases b
 ·exact h
 ·show(f ρ0).bind _=_
  rw[hf]
  show(fO g c f us ρ0).bind _=_
  rw[h]
  rfl
def zp:GF:=(gT 2 (bL (gN 0) (bL (gN 1) dI)))
def wz:BF:=(cu (aq (fK not) (aj 1) (iQ (aq aK (aj 2) (aj 0)) jj (jk (aq aK (aj 3) (aj 0))))))
section
variable {m:Nat}{rows:List (List (Int × Int))}{ds:List Nat}{as:List (Nat × Nat)}
theorem Uy{k d:Nat}{l:List (Int × Int)}:pQ none (some (d:Int)) (.lst ((ord l).map iT))=.ok (.lst (((ord l).take d).map iT),true):=by
 show Rs.ok (Tr.lst (cut ((ord l).map iT) none (some (d:Int))),true)=_
 rw[Ks,<-List.map_take]
theorem adS(p:Nat × Nat)(h1:p.1<rows.length)(h2:p.1<ds.length):wz [.sh (iT p.1),.sh (iT p.2),.sh (.lst (rows.map λl=>.lst ((ord l).map iT))),.sh (.lst (ds.map iT))]=.ok (nr rows ds p,[.sh (iT p.1),.sh (iT p.2),.sh (.lst (rows.map λl=>.lst ((ord l).map iT))),.sh (.lst (ds.map iT))]):=by
 have i1:aK (.lst (rows.map λl=>.lst ((ord l).map iT))) (iT p.1)=.ok (.lst ((ord (rows.getD p.1 [])).map iT),false):=oY (by simp[h1])
 have i2:aK (.lst (ds.map iT)) (iT p.1)=.ok (.int (ds.getD p.1 0:Nat),false):=oY (by simp[h2,iT])
 have ec:=Uy (k:=0) (d:=ds.getD p.1 0) (l:=rows.getD p.1 [])
 have ei:=K3 not p.2 ((ord (rows.getD p.1 [])).take (ds.getD p.1 0))
 unfold wz nr
 generalize ((ds.getD p.1 0:Nat):Int)=dd,decide (p.2∈(ord (rows.getD p.1 [])).take (ds.getD p.1 0))=z,iT p.2=Y,iT p.1=X,Tr.lst (((ord (rows.getD p.1 [])).take (ds.getD p.1 0)).map iT)=Q,Tr.lst ((ord (rows.getD p.1 [])).map iT)=P,Tr.lst (ds.map iT)=D,Tr.lst (rows.map λl=>.lst ((ord l).map iT))=O at *
 simp -dsimp[dr,drs,aZ,jF,cj,i1,i2,ec,ei]
theorem Uz(hl:ds.length=rows.length):∀(as:List (Nat × Nat)) (s0 s1:Sl),(∀p∈as,p.1<rows.length)->∃t0 t1,fO zp wz (aj 1) (as.map pT) [s0,s1,.sh (.lst (rows.map λl=>.lst ((ord l).map iT))),.sh (.lst (ds.map iT))]=.ok ((as.filter (nr rows ds)).map λp=>iT p.2,[t0,t1,.sh (.lst (rows.map λl=>.lst ((ord l).map iT))),.sh (.lst (ds.map iT))])
 | [],s0,s1,_=>⟨s0,s1,rfl⟩
 |p::as,s0,s1,h=>by
  obtain⟨t0,t1,e⟩:=Uz hl as (.sh (iT p.1)) (.sh (iT p.2)) λq mq=>h q (List.mem_cons_of_mem _ mq)
  refine⟨t0,t1,?_⟩
  have hp:=h p (List.mem_cons_self ..)
  rw[List.map_cons]
  have z:=adR (g:=zp) (u:=pT p) (ρ:=[s0,s1,.sh (.lst (rows.map λl=>.lst ((ord l).map iT))),.sh (.lst (ds.map iT))]) rfl (adS p hp (by omega)) (f:=aj 1) (T:=iT p.2) (fr:=false) rfl e
  rw[z]
  cases hb:nr rows ds p <;> simp[hb]
theorem UG(ds:List Nat):kW (.lst (ds.map iT))=.ok (.int (ds.map λd:Nat=>(d:Int)).sum,false):=by
 have e:rR (ds.map iT)=some (ds.map λd:Nat=>(d:Int)):=Tt ds
 unfold kW
 simp only[e]
theorem adT(hB:Bk m rows)(hL:Lk rows.length m ds as):vR [aH rows,aQ ds as]=.ok (.tup [.int (ds.map λd:Nat=>(d:Int)).sum,.int ((as.filter (nr rows ds)).length:Nat)],false):=by
 have e3:=Ue hB hL
 have e4:=Ko hB.lg
 have er:=Ub hB
 have es:=UG ds
 obtain⟨t0,t1,e⟩:=Uz (rows:=rows) hL.1 as .un .un λp mp=>(hL.2.2.2.2 p mp).1
 have ha:=hL.2.2.2.1
 have ec:cD [none,none,some 4,some 2] (bM (aj 3)) zp wz (aj 1) [.sh (aH rows),.sh (aQ ds as),.sh (.lst (ds.map iT)),.sh (.lst (as.map pT)),.sh (.lst (rows.map λl=>.lst ((ord l).map iT))),.un]=.ok (.v (.lst ((as.filter (nr rows ds)).map λp=>iT p.2)) true,[.sh (aH rows),.sh (aQ ds as),.sh (.lst (ds.map iT)),.sh (.lst (as.map pT)),.sh (.lst (rows.map λl=>.lst ((ord l).map iT))),.un]):=by
  have hl:(as.map pT).length<=100000:=by rw[List.length_map]; omega
  rw[J8]
  show bd (Rs.ok (as.map pT,_)) _ _=_
  rw[rY]
  rw[if_pos hl]
  show bd (bW (fO zp wz (aj 1) (as.map pT) [.un,.un,.sh (.lst (rows.map λl=>.lst ((ord l).map iT))),.sh (.lst (ds.map iT))])) _ _=_
  rw[e]
  rfl
 have el:bB (.lst ((as.filter (nr rows ds)).map λp=>iT p.2))=.ok (.int ((as.filter (nr rows ds)).length:Nat),false):=by
  show Rs.ok (Tr.int (((as.filter (nr rows ds)).map λp=>iT p.2).length:Int),false)=_
  rw[List.length_map]
 have e0:bf (aj 1) (gT 2 (bL (gN 2) (bL (gN 3) dI))) [.sh (aH rows),.sh (aQ ds as),.un,.un,.un,.un]=.ok (.nx,[.sh (aH rows),.sh (aQ ds as),.sh (.lst (ds.map iT)),.sh (.lst (as.map pT)),.un,.un]):=rfl
 show bF 6 (aG (fJ (aX mZ (ak (aj 0) au))) (aG (fJ (aX oR (ak (aj 0) (ak (aj 1) au)))) (aG (bf (aj 1) (gT 2 (bL (gN 2) (bL (gN 3) dI)))) (aG (bf (aX oO (ak (aj 0) au)) (gN 4)) (aG (bf (cD [none,none,some 4,some 2] (bM (aj 3)) zp wz (aj 1)) (gN 5)) (bJ (jx (ak (aR (g1 kW) (ak (aj 2) au)) (ak (aR (g1 bB) (ak (aj 5) au)) au))))))))) _=_
 unfold bF
 generalize (((as.filter (nr rows ds)).length:Nat):Int)=N2,(ds.map λd:Nat=>(d:Int)).sum=N1,Tr.lst ((as.filter (nr rows ds)).map λp=>iT p.2)=U,Tr.lst (rows.map λl=>.lst ((ord l).map iT))=O,Tr.lst (as.map pT)=A,Tr.lst (ds.map iT)=D,aQ ds as=LT,aH rows=BT,bf (aj 1) _=G0,cD _ _ _ _ _=G at *
 simp -dsimp[bO,dr,drs,aZ,cls,g1,e0,e3,e4,er,ec,es,el]
end
end K20
end
section
namespace K20
open PySem L2 BH
def UJ:EF:=(iQ (aX m8 (ak (aq aK (aj 1) (aj 6)) au)) jj (jk (aq aK (aq aK (aj 2) (eC (.int 0))) (aj 6))))
def wA:SF:=(aG (bf UJ (gN 8)) (bf (aq bR (aj 5) (aR (g1 pR) (ak (aq (fK not) (aj 7) (aj 8)) au))) (gN 5)))
def Dy:GF:=(gT 2 (bL (gN 6) (bL (gN 7) dI)))
section
variable {m:Nat}{rows:List (List (Int × Int))}{ds:List Nat}{as:List (Nat × Nat)}
theorem adU{p:Nat × Nat}{l:List (Int × Int)}{d:Nat}(hw:∀x∈l,Wo x)(hl:l.length<=12)(hB:aK (aH rows) (iT p.1)=.ok (bH l,false))(hd:ds[p.1]?=some d)(n:Nat)(s0 s3 s4 s8:Sl)(r:En):wA (s0 :: .sh (aH rows) :: .sh (aQ ds as)::s3::s4 :: .sh (iT n) :: .sh (iT p.1) :: .sh (iT p.2)::s8::r)=.ok (.nx,s0 :: .sh (aH rows) :: .sh (aQ ds as)::s3::s4 :: .sh (iT (if decide (p.2∈(ord l).take d)=true then n else n+1)) :: .sh (iT p.1) :: .sh (iT p.2) :: .sh (.lst (((ord l).take d).map iT))::r):=by
 have eo:=(Dr hw hl).2.1
 have i0:aK (aQ ds as) (.int 0)=.ok (.lst (ds.map iT),false):=rfl
 have id:aK (.lst (ds.map iT)) (iT p.1)=.ok (.int (d:Nat),false):=oY (by rw[List.getElem?_map,hd]; rfl)
 have ec:=Uy (k:=0) (d:=d) (l:=l)
 have ei:=K3 not p.2 ((ord l).take d)
 have a0:bR (iT n) (.int 0)=.ok (iT n,false):=by
  unfold iT
  rw[acT,Int.add_zero]
 have a1:bR (iT n) (.int 1)=.ok (iT (n+1),false):=rfl
 unfold wA UJ
 rw[apply_ite iT]
 generalize iT n=N,iT p.2=Y,iT p.1=X,decide (p.2∈(ord l).take d)=z,Tr.lst (((ord l).take d).map iT)=P,Tr.lst ((ord l).map iT)=O,Tr.lst (ds.map iT)=D,bH l=RT,aQ ds as=LT,aH rows=BT,iT (n+1)=N1 at *
 cases z <;> simp -dsimp[iV,dr,drs,aZ,jF,g1,pR,hB,eo,i0,id,ec,ei,a0,a1]
theorem UL(hB:Bk m rows)(hL:ds.length=rows.length):∀(as':List (Nat × Nat)) (n:Nat) (s0 s3 s4 s6 s7 s8:Sl) (r:En),(∀p∈as',p.1<rows.length)->∃t6 t7 t8,cR Dy wA (as'.map pT) (s0 :: .sh (aH rows) :: .sh (aQ ds as)::s3::s4 :: .sh (iT n)::s6::s7::s8::r)=.ok (.nx,s0 :: .sh (aH rows) :: .sh (aQ ds as)::s3::s4 :: .sh (iT (n+(as'.filter (nr rows ds)).length))::t6::t7::t8::r)
 | [],n,s0,s3,s4,s6,s7,s8,r,_=>⟨s6,s7,s8,rfl⟩
 |p::as',n,s0,s3,s4,s6,s7,s8,r,h=>by
  have hp:=h p (List.mem_cons_self ..)
  have hk:rows[p.1]?=some (rows.getD p.1 []):=by simp[hp]
  have hd:ds[p.1]?=some (ds.getD p.1 0):=by
   have:p.1<ds.length:=by omega
   simp[this]
  have hm:=hB.2.2.2.2 _ (List.mem_of_getElem? hk)
  have b4:=hB.2.2.2.1
  have e1:=adU (as:=as) hm.2 (by rw[hm.1]; exact b4) (yZ hk) hd n s0 s3 s4 s8 r
  obtain⟨t6,t7,t8,e2⟩:=UL hB hL as' (if decide (p.2∈(ord (rows.getD p.1 [])).take (ds.getD p.1 0))=true then n else n+1) s0 s3 s4 (.sh (iT p.1)) (.sh (iT p.2)) (.sh (.lst (((ord (rows.getD p.1 [])).take (ds.getD p.1 0)).map iT))) r λq mq=>h q (List.mem_cons_of_mem _ mq)
  refine⟨t6,t7,t8,?_⟩
  have en:(if decide (p.2∈(ord (rows.getD p.1 [])).take (ds.getD p.1 0))=true then n else n+1)+(as'.filter (nr rows ds)).length=n+((p::as').filter (nr rows ds)).length:=by
   cases hb:nr rows ds p
   ·rw[List.filter_cons_of_neg (by rw[hb]; exact Bool.false_ne_true)]
    unfold nr at hb
    rw[Bool.not_eq_false']at hb
    rw[if_pos hb]
   ·rw[List.filter_cons_of_pos hb]
    unfold nr at hb
    rw[Bool.not_eq_true']at hb
    rw[if_neg (by rw[hb]; exact Bool.false_ne_true),List.length_cons]
    omega
  rw[en]at e2
  rw[List.map_cons]
  exact K6 rfl e1 e2
theorem adV(hB:Bk m rows)(hL:Lk rows.length m ds as)(s0 s3 s4 s6 s7 s8:Sl)(r:En):∃t6 t7 t8,bN (bY (bM (aq aK (aj 2) (eC (.int 1)))) Dy wA) (s0 :: .sh (aH rows) :: .sh (aQ ds as)::s3::s4 :: .sh (.int 0)::s6::s7::s8::r)=.ok (.nx,s0 :: .sh (aH rows) :: .sh (aQ ds as)::s3::s4 :: .sh (.int ((as.filter (nr rows ds)).length:Nat))::t6::t7::t8::r):=by
 obtain⟨t6,t7,t8,e⟩:=UL (as:=as) hB hL.1 as 0 s0 s3 s4 s6 s7 s8 r λp mp=>(hL.2.2.2.2 p mp).1
 refine⟨t6,t7,t8,?_⟩
 rw[Nat.zero_add]at e
 have i1:aK (aQ ds as) (.int 1)=.ok (.lst (as.map pT),false):=rfl
 have ef:bM (aq aK (aj 2) (eC (.int 1))) (s0 :: .sh (aH rows) :: .sh (aQ ds as)::s3::s4 :: .sh (.int 0)::s6::s7::s8::r)=.ok (as.map pT,s0 :: .sh (aH rows) :: .sh (aQ ds as)::s3::s4 :: .sh (.int 0)::s6::s7::s8::r):=by
  generalize as.map pT=A,aH rows=BT,aQ ds as=LT at *
  simp -dsimp[dr,drs,aZ,g8,i1]
 generalize bM _=G at ef ⊢
 unfold bN bY
 simp only[ef]
 show bW (cR _ _ _ _)=_
 have e:cR Dy wA (as.map pT) (s0 :: .sh (aH rows) :: .sh (aQ ds as)::s3::s4 :: .sh (.int 0)::s6::s7::s8::r)=_:=e
 rw[e]
 rfl
end
end K20
end
section
namespace K20
open PySem L2 BH
def wB:AF:=(ak (aq aK (aj 4) (eC (.int 0))) (ak (aq aK (aj 4) (eC (.int 1))) au))
def Dz:SF:=(vN 10 uw wB)
def DG:SF:=(bf (aX vR wB) (gN 11))
def DK:BF:=(iC (dR (dY (gJ .list (aj 10)))) (iC (cu (aq fG (aj 10) (aj 3))) (cu (aq fG (aj 4) (gH (ak (aj 1) (ak (aj 2) au)))))))
def DN:BF:=(iC (dR (dY (gJ .tuple (aj 11)))) (cu (aq fG (aj 11) (jx (ak (aR (g1 kW) (ak (aq aK (aj 2) (eC (.int 0))) au)) (ak (aj 5) au))))))
def K7:EF:=(aq (fK id) (eC (.bl true)) (cD [none] (bM (aj 11)) (gN 0) cF (gJ .bool (aj 0))))
def DP:EF:=(cD [none] (bM (aj 10)) (gN 0) (dR (dY (gJ .list (aj 0)))) (aj 0))
noncomputable def DQ:SF:=(aG Dz (aG DG (aG (cM (m6 DK) (bJ (eC (.bl false))) cL) (aG (cM DN (bJ (eC (.bl false))) cL) (aG (cM (cu K7) (bJ (eC (.bl false))) cL) (aG (cM (m6 (cu (aq jw (aR (g1 bB) (ak DP au)) (eC (.int 0))))) (bJ (eC (.bl false))) cL) (uq 10)))))))
section
variable {S B L:Tr}{N1 N2:Int}{x:List Tr}{xs:List (List Tr)}
theorem adW(hb:dep B<=10)(hl:dep L<=10)(hx:deps ((x::xs).map Tr.lst)<=10)(s0 s5 s6 s7 s8 s9 gQ s12:Sl):m6 DK [s0,.sh B,.sh L,.sh (.lst ((x::xs).map Tr.lst)),.sh (.lst [B,L]),s5,s6,s7,s8,s9,.dp ((x::xs).map Tr.lst),gQ,s12]=.ok (false,[s0,.sh B,.sh L,.sh (.lst ((x::xs).map Tr.lst)),.sh (.lst [B,L]),s5,s6,s7,s8,s9,.dp ((x::xs).map Tr.lst),gQ,s12]):=by
 have e1:=Ku (T:=.lst ((x::xs).map Tr.lst)) (by rw[m9]; omega)
 have e2:=Ku (T:=.lst [B,L]) (by rw[m9,lN,lN,rZ]; omega)
 have iT:gF (.lst ((x::xs).map Tr.lst)) .list=true:=rfl
 unfold m6 DK
 generalize (x::xs).map Tr.lst=R at *
 simp -dsimp[vw,Cm,bW,dr,drs,aZ,cls,eB,cj,fB,e1,e2,iT]
theorem adX{ds:List Tr}(hs:kW (.lst ds)=.ok (.int N1,false))(hL:aK L (.int 0)=.ok (.lst ds,false))(s0 s1 s3 s4 s6 s7 s8 s9 gW s12:Sl):DN [s0,s1,.sh L,s3,s4,.sh (.int N2),s6,s7,s8,s9,gW,.sh (.tup [.int N1,.int N2]),s12]=.ok (false,[s0,s1,.sh L,s3,s4,.sh (.int N2),s6,s7,s8,s9,gW,.sh (.tup [.int N1,.int N2]),s12]):=by
 have e1:=Ku (T:=.tup [.int N1,.int N2]) (by rw[vZ,lN,lN,rZ,oW,oW]; omega)
 have iT:gF (.tup [.int N1,.int N2]) .tuple=true:=rfl
 unfold DN
 simp -dsimp[dr,drs,aZ,cls,eB,cj,fB,g1,hL,hs,e1,iT]
theorem adY(s0 s1 s2 s3 s4 s5 s6 s7 s8 s9 gW s12:Sl):K7 [s0,s1,s2,s3,s4,s5,s6,s7,s8,s9,gW,.sh (.tup [.int N1,.int N2]),s12]=.ok (.v (.bl false) false,[s0,s1,s2,s3,s4,s5,s6,s7,s8,s9,gW,.sh (.tup [.int N1,.int N2]),s12]):=rfl
theorem adZ(hx:((x::xs).map Tr.lst).length<=1000)(s0 s1 s2 s3 s4 s5 s6 s7 s8 s9 gQ s12:Sl):m6 (cu (aq jw (aR (g1 bB) (ak DP au)) (eC (.int 0)))) [s0,s1,s2,s3,s4,s5,s6,s7,s8,s9,.dp ((x::xs).map Tr.lst),gQ,s12]=.ok (false,[s0,s1,s2,s3,s4,s5,s6,s7,s8,s9,.dp ((x::xs).map Tr.lst),gQ,s12]):=by
 have e:=acS (r:=Tr.lst) (p:=λ_=>false) (xs:=x::xs) (ρ := vw [s0,s1,s2,s3,s4,s5,s6,s7,s8,s9,.dp ((x::xs).map Tr.lst),gQ,s12]) (τ:=[]) (rest:=[]) (i:=bM (aj 10)) (c:=(dR (dY (gJ .list (aj 0))))) (by rw[List.length_map]at hx; omega) (by
   generalize (x::xs).map Tr.lst=R at *
   simp -dsimp[vw,Cm,dr,g8]) rfl (λs'=>rfl) (λs'=>rfl) (λl ml=>rfl)
 unfold m6
 rw[show(x::xs).filter (λ_=>false)=[]from List.filter_eq_nil_iff.mpr λ_ _=>Bool.false_ne_true]at e
 have e:DP _=_:=e
 generalize vw _ = ρ',(x::xs).map Tr.lst=R,DP=G at *
 have h0:jw (.int 0) (.int 0)=.ok (.bl false,false):=rfl
 simp -dsimp[bW,dr,drs,aZ,cj,g1,bB,e,h0]
theorem ad0{ds:List Tr}(h1:uw [B,L]=.ok ((x::xs).map Tr.lst))(h2:vR [B,L]=.ok (.tup [.int N1,.int N2],false))(hb:dep B<=10)(hl:dep L<=10)(hx:deps ((x::xs).map Tr.lst)<=10)(hn:((x::xs).map Tr.lst).length<=1000)(hm:x.length<=1000)(hs:kW (.lst ds)=.ok (.int N1,false))(hL:aK L (.int 0)=.ok (.lst ds,false))(s0 s6 s7 s8 s9 gW gQ s12:Sl) :
  DQ [s0,.sh B,.sh L,.sh (.lst ((x::xs).map Tr.lst)),.sh (.lst [B,L]),.sh (.int N2),s6,s7,s8,s9,gW,gQ,s12]=.ok (.nx,[s0,.sh B,.sh L,.sh (.lst ((x::xs).map Tr.lst)),.sh (.lst [B,L]),.sh (.int N2),s6,s7,s8,s9,.un,.sh (.tup [.int N1,.int N2]),s12]):=by
 have i0:aK (.lst [B,L]) (.int 0)=.ok (B,false):=rfl
 have i1:aK (.lst [B,L]) (.int 1)=.ok (L,false):=rfl
 have e1:Dz [s0,.sh B,.sh L,.sh (.lst ((x::xs).map Tr.lst)),.sh (.lst [B,L]),.sh (.int N2),s6,s7,s8,s9,gW,gQ,s12]=.ok (.nx,[s0,.sh B,.sh L,.sh (.lst ((x::xs).map Tr.lst)),.sh (.lst [B,L]),.sh (.int N2),s6,s7,s8,s9,.dp ((x::xs).map Tr.lst),gQ,s12]):=by
  unfold Dz wB vN
  generalize (x::xs).map Tr.lst=R at *
  simp -dsimp[dr,drs,aZ,i0,i1,h1]
 have e2:DG [s0,.sh B,.sh L,.sh (.lst ((x::xs).map Tr.lst)),.sh (.lst [B,L]),.sh (.int N2),s6,s7,s8,s9,.dp ((x::xs).map Tr.lst),gQ,s12]=.ok (.nx,[s0,.sh B,.sh L,.sh (.lst ((x::xs).map Tr.lst)),.sh (.lst [B,L]),.sh (.int N2),s6,s7,s8,s9,.dp ((x::xs).map Tr.lst),.sh (.tup [.int N1,.int N2]),s12]):=by
  unfold DG wB
  generalize (x::xs).map Tr.lst=R at *
  simp -dsimp[dr,drs,aZ,i0,i1,h2]
 have e3:=adW hb hl hx s0 (.sh (.int N2)) s6 s7 s8 s9 (.sh (.tup [.int N1,.int N2])) s12
 have e4:=adX (N2:=N2) hs hL s0 (.sh B) (.sh (.lst ((x::xs).map Tr.lst))) (.sh (.lst [B,L])) s6 s7 s8 s9 (.dp ((x::xs).map Tr.lst)) s12
 have e5:=adY (N1:=N1) (N2:=N2) s0 (.sh B) (.sh L) (.sh (.lst ((x::xs).map Tr.lst))) (.sh (.lst [B,L])) (.sh (.int N2)) s6 s7 s8 s9 (.dp ((x::xs).map Tr.lst)) s12
 have e6:=adZ hn s0 (.sh B) (.sh L) (.sh (.lst ((x::xs).map Tr.lst))) (.sh (.lst [B,L])) (.sh (.int N2)) s6 s7 s8 s9 (.sh (.tup [.int N1,.int N2])) s12
 have e7:uq 10 [s0,.sh B,.sh L,.sh (.lst ((x::xs).map Tr.lst)),.sh (.lst [B,L]),.sh (.int N2),s6,s7,s8,s9,.dp ((x::xs).map Tr.lst),.sh (.tup [.int N1,.int N2]),s12]=.ok (.nx,[s0,.sh B,.sh L,.sh (.lst ((x::xs).map Tr.lst)),.sh (.lst [B,L]),.sh (.int N2),s6,s7,s8,s9,.un,.sh (.tup [.int N1,.int N2]),s12]):=by
  unfold uq
  show(if x.length<=1000/\((x::xs).map Tr.lst).length<=1000 then _ else _)=_
  rw[if_pos ⟨hm,hn⟩]
  rfl
 unfold DQ
 generalize (x::xs).map Tr.lst=R,uq 10=G7,m6 _=G6,K7=G5,DN=G4,m6 DK=G3,DG=G2,Dz=G1 at *
 simp -dsimp[dr,cj,e1,e2,e3,e4,e5,e6,e7]
end
end K20
end
section
namespace K20
open PySem L2 BH
section
variable {m:Nat}{rows:List (List (Int × Int))}{ds:List Nat}{as:List (Nat × Nat)}
theorem UW(hB:Bk m rows):∃(x:List Tr) (xs:List (List Tr)),dZ rows ds as=(x::xs).map Tr.lst/\x.length<=1000/\((x::xs).map Tr.lst).length<=1000/\deps ((x::xs).map Tr.lst)<=10:=by
 obtain⟨b1,b2,b3,b4,b5⟩:=hB
 have e:dZ rows ds as=((List.range rows.length).map λk=>lR (rows.getD k []) (ds.getD k 0) as k).map Tr.lst:=by
  unfold dZ
  rw[List.map_map]
  rfl
 have dd:deps (dZ rows ds as)<=10:=yO λt ht=>by
  unfold dZ at ht
  obtain⟨k,_,rfl⟩:=List.mem_map.mp ht
  rw[m9]
  have:=yO (n:=1) (ts:=lR (rows.getD k []) (ds.getD k 0) as k) λt ht=>by
   unfold lR at ht
   obtain⟨k,_,rfl⟩:=List.mem_map.mp ht
   unfold lq
   split
   ·rw[Tq]; omega
   ·exact Nat.zero_le _
  omega
 have ln:(dZ rows ds as).length<=1000:=by unfold dZ; simp; omega
 cases n:rows.length with
 |zero=>omega
 |succ w =>
  have er:(List.range rows.length)=0::List.range' 1 w:=by rw[n,List.range_eq_range',List.range'_succ]
  rw[er,List.map_cons]at e
  refine⟨_,_,e,?_,e▸ln,e▸dd⟩
  have h0:rows[0]?=some (rows.getD 0 []):=by
   have:0<rows.length:=by omega
   simp[this]
  have:=(b5 _ (List.mem_of_getElem? h0)).1
  unfold lR
  rw[List.length_map,List.length_range]
  omega
theorem ad1(hl:rows.length<=1000):vW [aH rows]=.ok (rows.map bH):=by
 have e:=Ur (r:=bH) (h:=λl=>l.map fT) (xs:=rows) (ρ:=[.sh (aH rows)]) (n:=0) (i:=bM (aj 0)) (fe:=aR (g1 iR) (ak (aj 0) au)) (by omega) (by
   unfold aH
   generalize rows.map bH=L at *
   simp -dsimp[dr,g8]) (λl ml=>rfl)
 show ur 0 (oJ 0 [none] (bM (aj 0)) (gN 0) cF (aR (g1 iR) (ak (aj 0) au))) [.sh (aH rows)]=_
 unfold ur
 rw[if_pos (by show 0<1; omega)]
 show(oJ 0 [none] (bM (aj 0)) (gN 0) cF (aR (g1 iR) (ak (aj 0) au)) [.sh (aH rows)]).bind _=_
 rw[e]
 rfl
theorem ad2:(rows.map bH).map vO=(rows.map List.reverse).map bH:=by
 rw[List.map_map,List.map_map]
 refine List.map_congr_left λl _=>?_
 show Tr.lst (l.map fT).reverse=Tr.lst (l.reverse.map fT)
 rw[List.map_reverse]
theorem Bk.rev(hB:Bk m rows):Bk m (rows.map List.reverse):=by
 obtain⟨b1,b2,b3,b4,b5⟩:=hB
 refine⟨by rw[List.length_map]; exact b1,by rw[List.length_map]; exact b2,b3,b4,λl ml=>?_⟩
 obtain⟨l',ml',rfl⟩:=List.mem_map.mp ml
 have:=b5 l' ml'
 exact⟨by rw[List.length_reverse]; exact this.1,λx mx=>this.2 x (List.mem_reverse.mp mx)⟩
theorem ad3:dep (aQ ds as)<=10:=by
 unfold aQ
 rw[vZ,lN,lN,rZ,m9,m9,KZ]
 have:=K1 as
 omega
end
def K8:SF:=(bN (bY (bM (aq aK (aj 2) (eC (.int 1)))) Dy wA))
def K9:SF:=(bN (bY (dh (ak (eC (.int 2)) au)) (gN 9) DQ))
def fM:SF:=(aG (bf (eC (.int 0)) (gN 5)) (aG K8 K9))
def fU:EF:=(jx (ak (aR (g1 iR) (ak (aq aK (aj 2) (eC (.int 0))) au)) (ak (aR (g1 iR) (ak (aq aK (aj 2) (eC (.int 1))) au)) au)))
def fH:SF:=(yE 4 12 [5,6,7,8,9,10,11,12] vW (ak (aj 1) au) fU fM)
theorem ad4:SN=(aG (bf (aX ux (ak (aj 0) (ak (eC (.int 0)) (ak (eC (.int 4)) (ak (eC (.int 12)) au))))) (gN 1)) (aG (bf (aX uy (ak (aj 0) (ak (eC (.int 5)) (ak (aj 1) au)))) (gN 2)) (aG (bf (aX rW (ak (aj 1) (ak (aj 2) au))) (gN 3)) (aG fH (bJ (aq dw (aX vK wB) (aX rW (ak (aX yI (ak (aq aK (aj 4) (eC (.int 0))) au)) (ak (aj 2) au))))))))):=rfl
section
variable {m:Nat}{rows:List (List (Int × Int))}{ds:List Nat}{as:List (Nat × Nat)}
theorem ad5(hB:Bk m rows)(hL:Lk rows.length m ds as)(s0:Sl):∃n6 n7 n8 n9 U0,∃(N:Tr),fM [s0,.sh (aH rows),.sh (aQ ds as),.sh (.lst (dZ rows ds as)),.sh (.lst [aH rows,aQ ds as]),.un,.un,.un,.un,.un,.un,.un,.un]=.ok (.nx,[s0,.sh (aH rows),.sh (aQ ds as),.sh (.lst (dZ rows ds as)),.sh (.lst [aH rows,aQ ds as]),.sh N,n6,n7,n8,n9,.un,U0,.un]):=by
 obtain⟨x,xs,ex,h1,h2,h3⟩:=UW (ds:=ds) (as:=as) hB
 have es:=(Ux hB hL).2
 have ec:=adT hB hL
 obtain⟨t6,t7,t8,e1⟩:=adV hB hL s0 (.sh (.lst (dZ rows ds as))) (.sh (.lst [aH rows,aQ ds as])) .un .un .un [.un,.un,.un,.un]
 rw[ex]at es e1 ⊢
 have hb:=acP rows
 have tb:=λs9 gW gQ=>ad0 es ec (by omega) ad3 h3 h2 h1 (UG ds) (rfl:aK (aQ ds as) (.int 0)=.ok (.lst (ds.map iT),false)) s0 t6 t7 t8 s9 gW gQ .un
 refine⟨t6,t7,t8,.sh (.int 1),.sh (.tup [.int (ds.map λd:Nat=>(d:Int)).sum,.int ((as.filter (nr rows ds)).length:Nat)]),.int ((as.filter (nr rows ds)).length:Nat),?_⟩
 have e1:K8 _=_:=e1
 have e2:K9 [s0,.sh (aH rows),.sh (aQ ds as),.sh (.lst ((x::xs).map Tr.lst)),.sh (.lst [aH rows,aQ ds as]),.sh (.int ((as.filter (nr rows ds)).length:Nat)),t6,t7,t8,.un,.un,.un,.un]=.ok (.nx,[s0,.sh (aH rows),.sh (aQ ds as),.sh (.lst ((x::xs).map Tr.lst)),.sh (.lst [aH rows,aQ ds as]),.sh (.int ((as.filter (nr rows ds)).length:Nat)),t6,t7,t8,.sh (.int 1),.un,.sh (.tup [.int (ds.map λd:Nat=>(d:Int)).sum,.int ((as.filter (nr rows ds)).length:Nat)]),.un]):=by
  show bW (cR (gN 9) DQ [.int 0,.int 1] _)=_
  rw[oZ (tb (.sh (.int 0)) .un .un) (oZ (tb (.sh (.int 1)) .un (.sh (.tup [.int (ds.map λd:Nat=>(d:Int)).sum,.int ((as.filter (nr rows ds)).length:Nat)]))) rfl)]
  rfl
 unfold fM
 generalize aQ ds as=LT,aH rows=BT,(x::xs).map Tr.lst=R,K9=G2,K8=G1 at *
 simp -dsimp[e1,e2]
theorem ad6(hB:Bk m rows)(hL:Lk rows.length m ds as)(S:Tr):fH [.sh S,.sh (aH rows),.sh (aQ ds as),.sh (.lst (dZ rows ds as)),.un,.un,.un,.un,.un,.un,.un,.un,.un]=.ok (.nx,[.sh S,.sh (aH rows),.sh (aQ ds as),.sh (.lst (dZ rows ds as)),.sh (.lst [aH (rows.map List.reverse),aQ ds as]),.un,.un,.un,.un,.un,.un,.un,.un]):=by
 obtain⟨n6,n7,n8,n9,U0,N,e⟩:=ad5 hB hL (.sh S)
 have ec:=ad1 (rows:=rows) (by have:=hB.2.1; omega)
 have eu:fU [.sh S,.sh (aH rows),.sh (aQ ds as),.sh (.lst (dZ rows ds as)),.un,.un,.un,.un,.un,.un,.un,.un,.un]=.ok (.v (aQ ds as) false,[.sh S,.sh (aH rows),.sh (aQ ds as),.sh (.lst (dZ rows ds as)),.un,.un,.un,.un,.un,.un,.un,.un,.un]):=rfl
 have al:(rows.map bH).all xg=true:=by
  rw[List.all_map]
  exact List.all_eq_true.mpr λl _=>rfl
 have er:=ad2 (rows:=rows)
 have U3:iZ [] [.sh S,.sh (aH rows),.sh (aQ ds as),.sh (.lst (dZ rows ds as)),.un,.un,.un,.un,.un,.un,.un,.un,.un]=[.sh S,.sh (aH rows),.sh (aQ ds as),.sh (.lst (dZ rows ds as)),.un,.un,.un,.un,.un,.un,.un,.un,.un]:=rfl
 unfold fH yE
 show((vW [aH rows]).bind λts=>(bW (fU (iZ [] [.sh S,.sh (aH rows),.sh (aQ ds as),.sh (.lst (dZ rows ds as)),.un,.un,.un,.un,.un,.un,.un,.un,.un]))).bind (vP 4 12 [5,6,7,8,9,10,11,12] fM ts))=_
 rw[ec,Rs.gG,U3,eu]
 show vP 4 12 [5,6,7,8,9,10,11,12] fM (rows.map bH) (.v (aQ ds as) false,_)=_
 unfold vP
 dsimp only
 rw[if_pos ⟨al,by show 4<13; omega⟩,U3]
 show(fM [.sh S,.sh (aH rows),.sh (aQ ds as),.sh (.lst (dZ rows ds as)),.sh (.lst [aH rows,aQ ds as]),.un,.un,.un,.un,.un,.un,.un,.un]).bind _=_
 rw[e,Rs.gG]
 unfold Jo
 dsimp only
 rw[if_pos ⟨by show 12<13; omega,rfl⟩,er]
 rfl
end
theorem ad7(ns:List Int):vX [.lst (ns.map .int)]=.ok (.bl true,false):=by
 obtain⟨m,rows,hB,e1⟩:=adf ns 0
 obtain⟨ds,as,hL,e2⟩:=adp ns 5 hB
 have e1:ux [.lst (ns.map .int),.int 0,.int 4,.int 12]=.ok (aH rows,true):=e1
 have e2:uy [.lst (ns.map .int),.int 5,aH rows]=.ok (aQ ds as,false):=e2
 have e3:=Uk (as:=as) hB hL.1
 have e4:=ad6 hB hL (.lst (ns.map .int))
 have hB':=Bk.rev hB
 have hL':Lk (rows.map List.reverse).length m ds as:=by rw[List.length_map]; exact hL
 have e5:=(Ux hB' hL').1
 have e6:=adF (rows:=rows.map List.reverse) (by have:=hB'.2.1; omega)
 have e7:=Uk (as:=as) hB' hL'.1
 obtain⟨x,xs,ex,h1,h2,h3⟩:=UW (ds:=ds) (as:=as) hB'
 rw[ex]at e5 e7
 have e8:=acQ (T:=.lst ((x::xs).map Tr.lst)) (by rw[m9]; omega)
 unfold vX
 rw[ad4]
 unfold bF wB
 have i0:aK (.lst [aH (rows.map List.reverse),aQ ds as]) (.int 0)=.ok (aH (rows.map List.reverse),false):=rfl
 have i1:aK (.lst [aH (rows.map List.reverse),aQ ds as]) (.int 1)=.ok (aQ ds as,false):=rfl
 generalize aQ ds as=LT,aH rows=BT,aH (rows.map List.reverse)=B1,dZ rows ds as=R0,(x::xs).map Tr.lst=R,fH=G at *
 generalize Tr.lst (ns.map .int)=S,Tr.lst [B1,LT]=H at *
 simp -dsimp[bO,dr,drs,aZ,e1,e2,e3,e4,e5,e6,e7,e8,i0,i1]
end K20
end
section
namespace L2
open PySem PySem.Spec PyProof.Rows PySem.W
theorem ad8{P:Program}{w:World}{K:FZ}{mg mb:Str->Option Value}{CX:jM}{k:Nat}{fa a:Addr}{x:Str}{sp:Sp}{s₁ : Shared}{vs:List Value}{ns:List Int}
  (KX:K.In s₁.heap) (hns:s₁.heap.Ns mainGlobals mg) (hb:s₁.heap.Ns builtinsNs mb) (hbb:∀x:Str,x ≠ "__name__" -> mb x=bootBuiltins x) (hlim:s₁.heap.NoLimit) (hg:s₁.gens = #[])
  (ha:s₁.heap.get? a=some {cls:=.type "list",data:=.seq vs.toArray }) (hi:IntsAre vs ns) (hl:ns.length<=sizeLine) (hr:eV k callerA)
  (hT:∀x∈iK,∀c b,tabIn K x=some (c,b)->CodeHd s₁.heap c b/\s₁.heap.get? b=some (tabObj #[])) (uG:noTabs K=true) (hB:qg mg s₁.heap)
  (F:∀base:Heap,K.In base->base.Ns mainGlobals mg->(∀x∈iK,∀c b,tabIn K x=some (c,b)->CodeHd base c b)->qg mg base->∃fd:FuncData,(∀(s:Shared) (u:Value),K.In s.heap->BindsTo s fd ⟨[u],[]⟩ [(x,u)])/\j4 P w K mg base CX k fa fd [x] sp)
  (hsp:∀H:Hp,d8 (aB K) H->lD K H a (ns.map V.int)->sp [.ref a] H (λv _=>v=.bl true) λ_ _ _=>False)
  (La:∀H e s',CX [] H s₁ (λ_ _ _=>False) e s'->False) :
  codeAny (model P w) callerA (.call (.ref fa) ⟨[.ref a],[]⟩) (λr s'=>r=.ok (.ret (.bool true))/\OldK s₁.heap s'.heap/\s'.os=s₁.os/\AllBare s'.gens) s₁ := by
 have rv:=Oc hi
 have lenV:=hi.length
 -- from an abstract heap in which nothing but the script may be tracked
 have hT':∀b,Tb (aB K) b->∃c,CodeHd s₁.heap c b/\s₁.heap.get? b=some (tabObj #[]):=λb ⟨x,hx,c,e⟩=>⟨c,hT x hx c b (Rf e)⟩
 have core:∀H:Hp,(∀b,H b=none\/(∃o xs,H b=some (.dF o (.lst xs)))\/(H b=some (.cZ #[])/\Tb (aB K) b))->d8 (aB K) H->lD K H a (ns.map V.int)->eH P w H s₁.heap->(∀b,H b≠none->b=a\/Tb (aB K) b)->(H a≠none->K.lookup a=none) ->
   codeAny (model P w) callerA (.call (.ref fa) ⟨[.ref a],[]⟩) (λr s'=>r=.ok (.ret (.bool true))/\OldK s₁.heap s'.heap/\s'.os=s₁.os/\AllBare s'.gens) s₁ := by
  intro H hO hTb hS hok hA hK
  have DW:∀{b:Addr} {o:Obj},s₁.heap.get? b=some o->H b=none->(o8 s₁.heap H).get? b=some o:=λe n=>Vo e n
  have wJ:∀{b:Addr} {o:Obj} {es:Array DictEntry} {ep:Nat},s₁.heap.get? b=some o->o.data=.dict es ep->H b=none:=λ{b o es ep} e d=>by
   cases q:H b with
   |none=>rfl
   |some u =>
    rcases hA b (by rw[q]; simp)with e'|e'
    ·subst e'
     rw[ha]at e; cases e
     have d':Data.seq vs.toArray _=Data.dict es ep:=d
     cases d'
    ·obtain⟨c,_,z⟩:=hT' b e'
     rw[z]at e; cases e
     cases d
  have DX:∀{b:Addr} {m:Str->Option Value},s₁.heap.Ns b m->(o8 s₁.heap H).Ns b m:=λ{b m} ⟨o,es,ep,e,d,r⟩=>⟨o,es,ep,DW e (wJ e d),d,r⟩
  have U4:K.In (o8 s₁.heap H):=λb o e=>DW (KX b o e) (by
   cases q:H b with
   |none=>rfl
   |some u =>
    rcases hA b (by rw[q]; simp)with e'|e'
    ·subst e'
     rw[hK (by rw[q]; simp)]at e; cases e
    ·obtain⟨c,_,z⟩:=hT' b e'
     have z2:=KX b o e
     rw[z]at z2
     cases z2
     have h2:=List.all_eq_true.mp uG (b,_) (mem_of_lookupK e)
     exact absurd (show false=true from h2) Bool.false_ne_true)
  have hM:Mod K mg (o8 s₁.heap H):=⟨U4,DX hns,⟨mb,DX hb,hbb⟩,let⟨mc,h1,h2⟩:=hlim; ⟨mc,DX h1,h2⟩⟩
  have e0:zT P w K mg (o8 s₁.heap H) callerA [] s₁ H:=⟨rfl,hM,λb o e=>Vp e,Nat.le_of_eq (Vn _ _),trivial,λb hb=>absurd (show b∈([]:List Addr)from hb) (by simp),hok,.of_eq hg⟩
  have free:∀{b:Addr} {o:Obj},s₁.heap.get? b=some o->o.cls ≠ .none->(∀its n,o.data ≠ .seq its n)->H b=none:=λ{b o} e n1 n2=>by
   cases q:H b with
   |none=>rfl
   |some u =>
    rcases hA b (by rw[q]; simp)with e'|e'
    ·subst e'
     rw[ha]at e; cases e
     exact(n2 _ _ rfl).elim
    ·obtain⟨c,_,z⟩:=hT' b e'
     rw[z]at e; cases e
     exact(n1 rfl).elim
  obtain⟨fd,hbind,F1⟩:=F _ U4 (DX hns) (λx hx c b e=>by
   obtain⟨o,vs',file,tf,flags,tg,inF,text,tt,e1,r1,r2,r3⟩:=(hT x hx c b e).1
   exact⟨o,vs',file,tf,flags,tg,inF,text,tt,DW e1 (free e1 (by rw[r1]; intro z; cases z) (λ_ _ z=>by rw[r2]at z; cases z)),r1,r2,r3⟩) (by
   obtain⟨bm,ob,b1,b2,b3,b4,b5,b6,b7⟩:=hB
   exact⟨bm,ob,b1,b2,b3,DW b4 (free b4 (by rw[b5]; intro z; cases z) (λ_ _ z=>by rw[b7]at z; cases z)),b5,b6,b7⟩)
  refine codeAny_mono (F1.run callerA [] s₁ H ⟨[.ref a],[]⟩ [.ref a] [.ref a] _ _ hr e0 (hbind s₁ (.ref a) KX) (.cons rfl .nil) (hsp H hTb hS)) λr s' h=>?_
  cases r with
  |error e=>exact(La H e s' h).elim
  |ok fl =>
   cases fl with
   |next=>exact False.elim h
   |brk=>exact False.elim h
   |cont=>exact False.elim h
   |ret u =>
    obtain⟨v,H',os,bare,un,hok',r',q⟩:=h
    have q':v=.bl true:=q
    subst q'
    obtain rfl:u=Value.bool true:=r'
    refine⟨rfl,⟨λb o e=>?_,λb o e=>un.there b o e (by simp)⟩,os,bare⟩
    cases q:H b with
    |none=>exact .inl (un.keep b o e q (by intro z; exact absurd (show b∈([]:List Addr)from z) (by simp)) (by simp))
    |some u =>
     rcases hO b with z|⟨ob,xs,z⟩|⟨z,zt⟩
     ·rw[q]at z; cases z
     ·have z2:=un.lU b ob _ z
      obtain⟨e1,_⟩:=hok b _ z
      obtain⟨e2,_⟩:=hok' b _ z2
      rw[e]at e1; cases e1
      exact .inl e2
     ·obtain⟨more,z2⟩:=un.lV b _ z
      have e1:s₁.heap.get? b=some (tabObj #[]):=hok b _ z
      have e2:s'.heap.get? b=some (tabObj (#[]++more)):=hok' b _ z2
      rw[e]at e1; cases e1
      obtain⟨c,hc,_⟩:=hT' b zt
      exact .inr (.inl ⟨(hc.tab e).isCodeTable,rfl,#[],more,rfl,e2⟩)
 classical
 have U5:∀H:Hp,(∀b,Tb (aB K) b->H b=some (.cZ #[]))->d8 (aB K) H:=λH h x hx c b e=>⟨#[],h b ⟨x,hx,c,e⟩,trivial,λpos v z=>by cases z⟩
 have U6:¬Tb (aB K) a:=λz=>by
  obtain⟨c,_,e⟩:=hT' a z
  rw[ha]at e
  cases e
 cases hk:K.lookup a with
 |some o =>
  have e:=KX a o hk
  rw[ha]at e
  cases e
  refine core (λb=>if Tb (aB K) b then some (.cZ #[])else none) (λb=>?_) (U5 _ λb z=>if_pos z) (.inr ⟨vs.toArray,_,hk,by rw[List.size_toArray,lenV]; exact hl,by simpa using rv⟩) (λb u z=>?_) (λb z=>?_) λz=>?_
  ·by_cases q:Tb (aB K) b
   ·exact .inr (.inr ⟨if_pos q,q⟩)
   ·exact .inl (if_neg q)
  ·by_cases q:Tb (aB K) b
   ·have z':=(if_pos q).symm.trans z
    cases z'
    obtain⟨c,_,e⟩:=hT' b q
    exact e
   ·have z':=(if_neg q).symm.trans z
    cases z'
  ·by_cases q:Tb (aB K) b
   ·exact .inr q
   ·exact absurd (if_neg q) z
  ·exact absurd (if_neg U6) z
 |none =>
  refine core (λb=>if b=a then some (.dF {cls:=.type "list",data:=.seq vs.toArray } (.lst (ns.map V.int)))else if Tb (aB K) b then some (.cZ #[])else none) (λb=>?_) (U5 _ λb z=>by
   have nb:¬b=a:=λq=>U6 (by rw[<-q]; exact z)
   exact(if_neg nb).trans (if_pos z)) (.inl (.inr ⟨{cls:=.type "list",data:=.seq vs.toArray },if_pos rfl⟩)) (λb u z=>?_) (λb z=>?_) λ_=>hk
  ·by_cases hb:b=a
   ·exact .inr (.inl ⟨_,_,if_pos hb⟩)
   ·by_cases q:Tb (aB K) b
    ·exact .inr (.inr ⟨(if_neg hb).trans (if_pos q),q⟩)
    ·exact .inl ((if_neg hb).trans (if_neg q))
  ·by_cases hb:b=a
   ·have z':=(if_pos hb).symm.trans z
    cases z'
    subst hb
    exact⟨ha,by rw[List.length_map]; exact hl,vs,_,rv,ha⟩
   ·have z':=(if_neg hb).symm.trans z
    by_cases q:Tb (aB K) b
    ·have z':=(if_pos q).symm.trans z'
     cases z'
     obtain⟨c,_,e⟩:=hT' b q
     exact e
    ·have z':=(if_neg q).symm.trans z'
     cases z'
  ·by_cases hb:b=a
   ·exact .inl hb
   ·by_cases q:Tb (aB K) b
    ·exact .inr q
    ·exact absurd ((if_neg hb).trans (if_neg q)) z
theorem ad9{l:PySem.W.OpenLaw}{n k:Nat}{q:Program}{loose:List Str}{XP:(Str->Option Value)->Heap->Prop}{YP:World->Heap->Prop}{d:DefRec}{K:Params->FZ}{CX:World->jM}{sp:World->Sp}{x:Str}
  (hn:l.most=some n) (hn2:n<=sizeLine) (hdf:d.params.defaults=[]) (hr:eV k callerA)
  (zq:∀x∈iK,((recsOf q).find? (λe=>e.name == x)).isSome=true\/∀w:World,nsIn (K w.params) mainGlobals x=some none) (uG:∀w:World,noTabs (K w.params)=true)
  (hY:∀(w:World) (h:Heap),YP w h->(K w.params).In h)
  (F:∀(w:World) (mg:Str->Option Value) (fa:Addr) (h:Heap),(K w.params).In h->h.Ns mainGlobals mg->mg d.name=some (.ref fa) ->
   ∀base:Heap,(K w.params).In base->base.Ns mainGlobals mg->(∀x∈iK,∀c b,tabIn (K w.params) x=some (c,b)->CodeHd base c b)->qg mg base->∃fd:FuncData,(∀(s:Shared) (u:Value),(K w.params).In s.heap->BindsTo s fd ⟨[u],[]⟩ [(x,u)])/\j4 l.prog w (K w.params) mg base (CX w) k fa fd [x] (sp w))
  (hsp:∀(w:World) (H:Hp) (a:Addr) (ns:List Int),ns.length<=n->d8 (aB (K w.params)) H->lD (K w.params) H a (ns.map V.int)->sp w [.ref a] H (λv _=>v=.bl true) λ_ _ _=>False)
  (La:∀(w:World) (H:Hp) (s:Shared) (e:Value) (s':Shared),CX w [] H s (λ_ _ _=>False) e s'->False) :
  PySem.W.WalkO q loose XP YP l.row.toRowW d [] (λf vs=>PySem.call f vs):=by
 refine Ob.Xb hn hdf λw s₀ s₁ mg mb fa o pm cd doc a vs ns G Y ho hd hcd hmg hobj hints hlen hg=>?_
 have KX:=hY w _ Y
 have hT:∀x∈iK,∀c b,tabIn (K w.params) x=some (c,b)->CodeHd s₁.heap c b/\s₁.heap.get? b=some (tabObj #[]):=λx hx c b e=>by
  rcases zq x hx with z|z
  ·obtain⟨d,z⟩:=Option.isSome_iff_exists.mp z
   exact tab_of G.T KX z e
  ·rw[Rh (z w)]at e; cases e
 have hB:qg mg s₁.heap:=by
  obtain⟨bm,ob,b1,b2,b3,b4,b5,b6⟩:=G.T.bmain
  refine⟨bm,ob,b1,b2,λz=>?_,b3,b4,b5,b6⟩
  obtain⟨o,es,ep,e,hd,_⟩:=G.T.g
  rw[z,e]at b3; cases b3
  rw[hd]at b6; cases b6
 exact ad8 KX G.T.g G.T.b G.T.builtins G.T.nolimit hg hobj hints (Nat.le_trans hlen hn2) hr hT (uG w) hB (F w mg fa _ KX G.T.g hmg) (λH hO hS=>hsp w H a ns hlen hO hS) λH e s'=>La w H s₁ e s'
end L2
end
section
namespace K20
open PySem L2 BH PySem.W
section
variable {K:Frag}{mg:Str->Option Value}{h:Heap}
theorem aea{x:Str}{st:Stmt}(X:K.In h)(G:h.Ns mainGlobals mg){f:Addr}{od an:Option Addr}{sl:Array (Option Value)}{oc kV dc pm cd ct:Value}
  (a:nsIn K mainGlobals x=some (some (.ref f))) (l:K.lookup f=some ⟨oc,od,.func (fnOf x x (mD st) (jg st) (bx st) .none kV dc pm an cd ct),sl⟩) (c:codeIn K cd x=true) (k:keepIn K (.ref f)=true):At K mg x st :=
 ⟨f,_,Od (st:=st) l c k,mg_of X G a⟩
theorem aeb{x:Str}{st:Stmt}(X:K.In h)(G:h.Ns mainGlobals mg){f c:Addr}{od an:Option Addr}{sl:Array (Option Value)}{oc kV dc pm ct:Value}
  (a:nsIn K mainGlobals x=some (some (.ref f))) (l:K.lookup f=some ⟨oc,od,.func (fnOf x x (mD st) (jg st) (bx st) .none kV dc pm an (.ref c) ct),sl⟩) (cc:codeIn K (.ref c) x=true) (k:keepIn K (.ref f)=true):uc K mg x st c :=
 ⟨f,_,Od (st:=st) l cc k,mg_of X G a,rfl⟩
theorem U7{x:Str}{i:Int}{tk:Tok}(X:K.In h)(G:h.Ns mainGlobals mg)(a:nsIn K mainGlobals x=some (some (.int i tk))):Gk K mg x (.int i) (.int i):=⟨.int i tk,mg_of X G a,by first|exact rfl|exact⟨_,rfl⟩,λ_=>.int i⟩
theorem aec(H:Hp):aA (λ_=>False) H=H:=by
 funext b
 exact cC (λz=>z)
theorem U8{K:Frag}{H:Hp}:∀ns:List Int,aL K H (ns.map V.int) (ns.map Tr.int)
 | []=>.nil
 |n::ns=>.cons (.int n) (U8 ns)
def DY(K:Frag)(n:Nat)(F:FP):Sp:=λvs H Q E=>∃Z ts,vs.length=n/\aL (aB K) (aA Z H) vs ts/\(∀b,Z b->Lt H b)/\d8 (aB K) H/\∃p,F ts=.ok p/\∀v H',ig (aB K) H H'->xO (aB K) Z H H' v p.1 p.2->Q v H'
theorem aed{K:Frag}{cl:Str->Addr}{n:Nat}{F:FP}(vs:List V)(H:Hp)(Q:VK)(E:XK)(h:DY K n F vs H Q E):bA K cl n F vs H Q E:=by
 obtain⟨Z,ts,h1,h2,h3,h4,p,h5,h6⟩:=h
 refine⟨Z,ts,h1,h2,h3,h4,?_⟩
 rw[h5]
 exact h6
theorem aee(X:K.In h)(G:h.Ns mainGlobals mg)(z0:nsIn K mainGlobals "abs" = some none) (z1:nsIn K mainGlobals "all" = some none) (z2:nsIn K mainGlobals "bool" = some none) (z3:nsIn K mainGlobals "enumerate" = some none) (z4:nsIn K mainGlobals "int" = some none) (z5:nsIn K mainGlobals "isinstance" = some none) (z6:nsIn K mainGlobals "len" = some none) (z7:nsIn K mainGlobals "list" = some none) (z8:nsIn K mainGlobals "range" = some none) (z9:nsIn K mainGlobals "sorted" = some none) (U9:nsIn K mainGlobals "sum" = some none) (Va:nsIn K mainGlobals "tuple" = some none) (Vb:nsIn K mainGlobals "zip" = some none):Nm mg :=
 ⟨mg_none_of X G z0,mg_none_of X G z1,mg_none_of X G z2,mg_none_of X G z3,mg_none_of X G z4,mg_none_of X G z5,mg_none_of X G z6,mg_none_of X G z7,mg_none_of X G z8,mg_none_of X G z9,mg_none_of X G U9,mg_none_of X G Va,mg_none_of X G Vb⟩
end
section
variable {P:Program}{w:World}{K:Frag}{mg:Str->Option Value}{base:Heap}
theorem aef(M:Nm mg){Lb:Addr}(Dg:PyProof.Rows.OwnCls "NoBook" Lb Bv "ValueError.__new__" mg base) {Ld:Addr} (yM:PyProof.Rows.OwnCls "NoLooks" Ld Bv "ValueError.__new__" mg base) (XT:kO K) (aeg:At K mg "is_whole" Jw) (aeh:At K mg "common_divisor" Jx) (aei:At K mg "is_fraction" Jy) (aej:At K mg "common_bottom" Jz) (aek:At K mg "tops_on_one_bottom" Cv) {Vc ael:Addr} (aem:uc K mg "falling_places" Cw Vc) (aen:Cd K mg base "falling_places" Vc ael) (aeo:At K mg "is_worth" JB) (aep:At K mg "are_worths" Cy) (aer:At K mg "is_book" yF) (aes:At K mg "is_place" JC) (aeu:At K mg "is_count" JD) (aev:At K mg "are_rising" Cz) (aew:At K mg "need_book" JF) (aex:At K mg "read_orders" CG) (aey:At K mg "are_depths" CJ) (aez:At K mg "is_ask" JG) (aeA:At K mg "are_asked" CK) (aeB:At K mg "need_looks" JH) (aeC:At K mg "seen_by" CN) (aeD:At K mg "seen_by" CP) (aeE:At K mg "seen_worths" JK) (aeF:At K mg "seen_worths" JL) (aeG:At K mg "count_of" CQ) (aeH:At K mg "_law_cell" JM) (aeI:At K mg "_law_frac" JN) (aeJ:At K mg "_law_below" JQ) (aeK:At K mg "_law_book" JR) (aeL:At K mg "_law_order" CT) (aeM:At K mg "_law_looks" CV) (aeN:At K mg "_law_copied" CW) (aeO:At K mg "_law_copied" CZ) (aeP:At K mg "_law_seen" JT) (aeQ:At K mg "law" yG) {J6:V} (Dd:Gk K mg "MOST_LISTS" J6 (.int 4)) {J7:V} (Df:Gk K mg "MOST_THINGS" J7 (.int 12)):aV P w K mg base 8 "law" (["_law_script"]:List Str) (DY K 1 vX):=by
 obtain⟨cl,aeR,aeS⟩:∃cl:Str→Addr,cl "NoBook" = Lb∧cl "NoLooks" = Ld:=⟨λx=>if x=("NoBook" : Str)then Lb else if x=("NoLooks" : Str)then Ld else 0,if_pos rfl,(if_neg (by decide +kernel)).trans (if_pos rfl)⟩
 rw[<-aeR]at Dg
 rw[<-aeS]at yM
 have Le:=abZ (P:=P) (w:=w) (base:=base) (cl:=cl) aeg M XT
 have Vd:=abP (P:=P) (w:=w) (base:=base) (cl:=cl) aeh M
 have aeT:=abX (P:=P) (w:=w) (base:=base) (cl:=cl) aei M XT Le Vd
 have aeU:=abO (P:=P) (w:=w) (base:=base) (cl:=cl) aej M Vd
 have aeV:=acs (P:=P) (w:=w) (base:=base) (cl:=cl) aek M aeU
 have aeW:=abR (P:=P) (w:=w) (base:=base) (cl:=cl) aem aen M aeV
 have aeX:=ab0 (P:=P) (w:=w) (base:=base) (cl:=cl) aeo M aeT
 have aeY:=abM (P:=P) (w:=w) (base:=base) (cl:=cl) aep M XT aeX
 have aeZ:=abU (P:=P) (w:=w) (base:=base) (cl:=cl) aer M Dd Df XT aeY
 have ae0:=abY (P:=P) (w:=w) (base:=base) (cl:=cl) aes M Le
 have ae1:=abW (P:=P) (w:=w) (base:=base) (cl:=cl) aeu M Le
 have ae2:=abL (P:=P) (w:=w) (base:=base) (cl:=cl) aev M
 have Lf:=acd (P:=P) (w:=w) (base:=base) (cl:=cl) aew M Dg aeZ
 have Lg:=aci (P:=P) (w:=w) (base:=base) (cl:=cl) aex M aeW
 have ae3:=abJ (P:=P) (w:=w) (base:=base) (cl:=cl) aey M XT ae1
 have ae4:=abT (P:=P) (w:=w) (base:=base) (cl:=cl) aez M XT ae0
 have ae5:=abG (P:=P) (w:=w) (base:=base) (cl:=cl) aeA M XT ae2 ae4
 have Lh:=acf (P:=P) (w:=w) (base:=base) (cl:=cl) aeB M yM XT ae3 ae5
 have Ve:=acn (P:=P) (w:=w) (base:=base) (cl:=cl) aeC M Lg
 have ae6:=aco (P:=P) (w:=w) (base:=base) (cl:=cl) aeD M Lg
 have ae7:=acp (P:=P) (w:=w) (base:=base) (cl:=cl) aeE M Lf Lh Ve
 have ae8:=acq (P:=P) (w:=w) (base:=base) (cl:=cl) aeF M Lf Lh Ve ae6
 have ae9:=abQ (P:=P) (w:=w) (base:=base) (cl:=cl) aeG M Lf Lh Lg
 have Vf:=aby (P:=P) (w:=w) (base:=base) (cl:=cl) aeH M
 have afa:=abB (P:=P) (w:=w) (base:=base) (cl:=cl) aeI M
 have afb:=abv (P:=P) (w:=w) (base:=base) (cl:=cl) aeJ M
 have afc:=abw (P:=P) (w:=w) (base:=base) (cl:=cl) aeK M Vf afa
 have Vg:=abD (P:=P) (w:=w) (base:=base) (cl:=cl) aeL M afb
 have afd:=abC (P:=P) (w:=w) (base:=base) (cl:=cl) aeM M Vf
 have afe:=abz (P:=P) (w:=w) (base:=base) (cl:=cl) aeN M
 have afg:=abA (P:=P) (w:=w) (base:=base) (cl:=cl) aeO M
 have afh:=abF (P:=P) (w:=w) (base:=base) (cl:=cl) aeP M Vg
 have afi:=ab2 (P:=P) (w:=w) (base:=base) (cl:=cl) aeQ M XT afc afd afh afe ae7 ae9 Vg afg ae8
 obtain⟨f,fd,h1,h2⟩:=afi
 exact⟨f,fd,h1.imp aed,h2⟩
end
theorem walk{l:OpenLaw}{q:Program}{loose:List Str}{XP:(Str->Option Value)->Heap->Prop}{YP:World->Heap->Prop}{d:DefRec}{K:Params->Frag}(hn:l.most=some 63)(hdf:d.params.defaults=[])(hd:d.name = "law")
  (zq:∀x∈iK,((PyProof.Rows.recsOf q).find? (λe=>e.name == x)).isSome=true\/∀w:World,nsIn (K w.params) mainGlobals x=some none) (uG:∀w:World,noTabs (K w.params)=true)
  (hY:∀(w:World) (h:Heap),YP w h->(K w.params).In h)
  (F:∀(w:World) (mg:Str->Option Value) (h:Heap),(K w.params).In h->h.Ns mainGlobals mg->∀base:Heap,(K w.params).In base->base.Ns mainGlobals mg->(∀x∈iK,∀c b,tabIn (K w.params) x=some (c,b)->CodeHd base c b)->qg mg base->aV l.prog w (K w.params) mg base 8 "law" (["_law_script"]:List Str) (DY (K w.params) 1 vX)) :
  WalkO q loose XP YP l.row.toRowW d [] (λf vs=>PySem.call f vs) :=
 L2.ad9 (n:=63) (k:=8) (x := "_law_script") (CX:=λw=>jh l.prog w) (sp:=λw=>DY (K w.params) 1 vX) hn (by decide) hdf ⟨rfl,by decide,by decide,rfl⟩ zq uG hY
  (λw mg fa h KX G hm base kb gb hc bm=>by
   obtain⟨f,fd,h1,h2,_,h4⟩:=F w mg h KX G base kb gb hc bm
   rw[hd]at hm
   cases h4.symm.trans hm
   exact⟨fd,λs u ks=>h2 s [u] ks rfl,h1⟩)
  (λw H a ns hl hTb hS=>⟨λ_=>False,[.lst (ns.map .int)],rfl,.cons (.lst ((aec H).symm▸hS.toN) (U8 ns)) .nil,λb z=>z.elim,hTb,_,ad7 ns,λv H' _ r=>by
   cases r
   rfl⟩)
  λw H s e s' h=>by
   obtain⟨_,_,_,_,_,_,z,_⟩:=h
   exact z
end K20
end
section
namespace PySem.W.Fast
end PySem.W.Fast
namespace PySem.W.Fast
end PySem.W.Fast
namespace PySem.W.Fast
theorem tw10001375464185334669:True:=⟨⟩
theorem tw10332501529160373671:True:=⟨⟩
theorem tw10649220264187052037:True:=⟨⟩
theorem tw10857044945725061364:True:=⟨⟩
theorem tw11146579963394258497:True:=⟨⟩
theorem tw11378470700776158982:True:=⟨⟩
theorem tw11547334802954932612:True:=⟨⟩
theorem tw11944363403132519150:True:=⟨⟩
theorem tw11957048758247766619:True:=⟨⟩
theorem tw11987450969838624064:True:=⟨⟩
theorem tw12121506335945120748:True:=⟨⟩
theorem tw12135231775140942525:True:=⟨⟩
theorem tw12468829994035850586:True:=⟨⟩
theorem tw12645797848828965022:True:=⟨⟩
theorem tw13028132365316275004:True:=⟨⟩
theorem tw13312199676716243622:True:=⟨⟩
theorem tw13506545894458823665:True:=⟨⟩
theorem tw13513588767624209775:True:=⟨⟩
theorem tw13616143227357372116:True:=⟨⟩
theorem tw13635058906472067578:True:=⟨⟩
theorem tw1410063739449914646:True:=⟨⟩
theorem tw14251900157927746949:True:=⟨⟩
theorem tw14287583728592756206:True:=⟨⟩
theorem tw14418201750014897268:True:=⟨⟩
theorem tw14468980337907257972:True:=⟨⟩
theorem tw14503342799671359501:True:=⟨⟩
theorem tw15138096822765680031:True:=⟨⟩
theorem tw15271707149459604989:True:=⟨⟩
theorem tw15582784197299010888:True:=⟨⟩
theorem tw15756625236199297543:True:=⟨⟩
theorem tw15779346267900819831:True:=⟨⟩
theorem tw15817661460333867775:True:=⟨⟩
theorem tw16214905484212686050:True:=⟨⟩
theorem tw16243262648274541515:True:=⟨⟩
theorem tw16639696920238356720:True:=⟨⟩
theorem tw16795848454969232611:True:=⟨⟩
theorem tw16854679692803351592:True:=⟨⟩
theorem tw17361390866406233230:True:=⟨⟩
theorem tw18415204050107871669:True:=⟨⟩
theorem tw2125178661282888866:True:=⟨⟩
theorem tw2198157231895499450:True:=⟨⟩
theorem tw221217301520848627:True:=⟨⟩
theorem tw2258106731529393260:True:=⟨⟩
theorem tw2490748263164673628:True:=⟨⟩
theorem tw2769148399572285676:True:=⟨⟩
theorem tw2853071085433731306:True:=⟨⟩
theorem tw3547643632423721401:True:=⟨⟩
theorem tw3746196336417424657:True:=⟨⟩
theorem tw3789437604840830230:True:=⟨⟩
theorem tw4362204752022477058:True:=⟨⟩
theorem tw4374612531380269188:True:=⟨⟩
theorem tw4500168712208309300:True:=⟨⟩
theorem tw473989160624694944:True:=⟨⟩
theorem tw5777009884578130873:True:=⟨⟩
theorem tw5834700847880510545:True:=⟨⟩
theorem tw5933372950352296386:True:=⟨⟩
theorem tw6181735121707529170:True:=⟨⟩
theorem tw6639957948109268601:True:=⟨⟩
theorem tw6739945118610398328:True:=⟨⟩
theorem tw6812287529246894122:True:=⟨⟩
theorem tw7114807852554429653:True:=⟨⟩
theorem tw7288251892352785403:True:=⟨⟩
theorem tw7439245016856387634:True:=⟨⟩
theorem tw7802420000584127182:True:=⟨⟩
theorem tw8028735546995771159:True:=⟨⟩
theorem tw8952407686227707347:True:=⟨⟩
theorem tw8975169220193856317:True:=⟨⟩
theorem tw8982440055422344240:True:=⟨⟩
theorem tw9029636414237208456:True:=⟨⟩
theorem tw9067256937297697635:True:=⟨⟩
theorem tw9150818118739892856:True:=⟨⟩
theorem tw9297297951372858113:True:=⟨⟩
theorem tw9304000234354827734:True:=⟨⟩
theorem tw9404553202948491449:True:=⟨⟩
theorem tw9512132370264650554:True:=⟨⟩
theorem tw9518708071755405518:True:=⟨⟩
theorem tw9647474006310259774:True:=⟨⟩
theorem tw9921785422124053432:True:=⟨⟩
end PySem.W.Fast
open PySem PySem.W PyProof.Rows
set_option maxRecDepth 100000 in
set_option maxHeartbeats 0 in
theorem PySem.Challenge.cw_bestheads_k20_seen_worths_holds : PySem.Challenge.rw_bestheads_k20_seen_worths.Holds := by
 w_on; o_law; k_head; (case hw=>w_witness2)
 k_fill
 refine K20.walk (l:=PySem.Challenge.rw_bestheads_k20_seen_worths) rfl rfl rfl ?zq ?uG (λw h Y=>by first|exact PySem.W.km_in_of Y|exact PySem.W.kIn_of Y) ?F
 case zq =>
  intro x hx
  rcases(List.mem_cons.mp hx)with rfl|hx
  ·exact .inl (by kernel_rfl)
  ·rw[List.mem_singleton.mp hx]
   exact .inr λw=>by k_is
 case uG=>intro w; kernel_rfl
 case F =>
  intro w mg h KX G base kb gb hcd hbm
  refine' K20.aef ?qM ?afj ?afk ?qXT ?qd1 ?qd2 ?qd3 ?qd4 ?qd5 ?qd6 ?qe6 ?qd7 ?qd8 ?qd9 ?afl ?afm ?afn ?afo ?afp ?afq ?afr ?afs ?aft ?afu ?afv ?afw ?afx ?afy ?afz ?afA ?afB ?afC ?afD ?afE ?afF ?afG ?afH ?afI ?afJ ?afK
  case qM =>
   refine' K20.aee KX G ?z0 ?z1 ?z2 ?z3 ?z4 ?z5 ?z6 ?z7 ?z8 ?z9 ?U9 ?Va ?Vb
   all_goals k_is
  case qd1|qd2|qd3|qd4|qd5|qd7|qd8|qd9|afl|afm|afn|afo|afp|afq|afr|afs|aft|afu|afv|afw|afx|afy|afz|afA|afB|afC|afD|afE|afF|afG|afH|afI=>exact K20.aea KX G (by k_is) (by k_is) (by k_is) (by k_is)
  case qd6 =>
   refine' K20.aeb KX G ?qa6 ?ql6 ?qc6 ?qk6
   (case qa6=>k_is); (case ql6=>k_is); (case qc6=>k_is); (case qk6=>k_is)
  case qe6 =>
   refine' L2.aaL (by decide) hcd hbm (L2.aaK ?ra6 ?rb6 ?afL ?rc6 ?afM ?afN ?rd6 ?afO ?afP) ?re6
   (case ra6=>k_is); (case rb6=>k_is); (case rc6=>k_is); (case afN=>exact rfl); (case rd6=>k_is); (case afL=>kernel_rfl); (case afM=>kernel_rfl); (case afO=>kernel_rfl); (case afP=>exact rfl)
   case re6 =>
    intro x' hx'
    rcases(List.mem_cons.mp hx')with rfl|hx'
    ·exact .inl rfl
    ·rw[List.mem_singleton.mp hx']
     exact .inr λc' z=>(by have y:=(L2.Rh (by k_is)).symm.trans z; cases y)
  case afJ =>
   refine' K20.U7 KX G ?afQ
   (case afQ=>k_is)
  case afK =>
   refine' K20.U7 KX G ?afR
   (case afR=>k_is)
  case qXT=>exact L2.kO.of (by kernel_rfl)
  case afj =>
   refine' L2.OJ kb gb ?afS ?afT
   (case afS=>k_is); (case afT=>k_exc)
  case afk =>
   refine' L2.OJ kb gb ?afU ?afV
   (case afU=>k_is); (case afV=>k_exc)
#print axioms PySem.Challenge.cw_bestheads_k20_seen_worths_holds
end
end
