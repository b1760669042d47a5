import PyProof.Rows.All
import Wide.All
import OpenK.AllK
import Wide.FinOn
import Lean
import PyProof.EqAt
import PyProof.EqKinds
import PyProof.TupleCall
import PyProof.ReprRoads
import PyProof.ReprBulk
import PyProof.Rows.RegStrFacts
import PyProof.StrBlockH
import PyProof.FitsBits
import KE.KTurns
import PyProof.NeKinds
import KE.KNest
import KE.KSortKey
import PyProof.ListRange
import PyProof.Rows.SortWalk
import KE.KListMore
import PyProof.SetRoads
import PyProof.TupleKey
import PyProof.IsRules
import PyProof.SetNew
import PyProof.CollectWalk
import PyProof.ForAny
import PyProof.Rows.SortShell
import KE.KSortTup
import KE.KIntText
import PyProof.Rows.SumAny
import PySem.Challenge.RW_bestheads_k98_whole_weights_and_few
noncomputable section
abbrev FZ:=PySem.W.Frag
set_option exponentiation.threshold 6000
set_option Elab.async false
set_option linter.all false
set_option maxRecDepth 100000
set_option maxHeartbeats 4000000
section
namespace L2
open PySem PySem.Spec PyProof.Rows
abbrev Key:=Sum Int Str
def Od:Key->Value->Bool
 |.inl k,v=>Value.isInt k v
 |.inr x,v=>Value.isStrOf x v
def YB(w:World):Key->Int
 |.inl k=>hashInt k
 |.inr x=>hashStr w x
theorem pU:∀{k:Key} {v:Value},Od k v=true->(∃i t,k=Sum.inl i/\v=Value.int i t)\/(∃x t,k=Sum.inr x/\v=Value.str x t)
 |.inl i,v,h=>by
  obtain⟨t,e⟩:=Value.isInt_shape (k:=i) (v:=v) h
  exact .inl ⟨i,t,rfl,e⟩
 |.inr x,v,h=>by
  obtain⟨t,e⟩:=Value.isStrOf_shape (x:=x) (v:=v) h
  exact .inr ⟨x,t,rfl,e⟩
theorem YC(a b:Int):decide ((Sum.inl a:Key)=Sum.inl b)=(a == b):=by
 by_cases e:a=b
 ·subst e; simp
 ·have h:¬(Sum.inl a:Key)=Sum.inl b:=λq=>e (Sum.inl.inj q)
  rw[decide_eq_false h]
  exact(beq_eq_false_iff_ne.mpr e).symm
theorem YD(a b:Str):decide ((Sum.inr a:Key)=Sum.inr b)=decide (a=b):=by
 by_cases e:a=b
 ·subst e; simp
 ·have h:¬(Sum.inr a:Key)=Sum.inr b:=λq=>e (Sum.inr.inj q)
  rw[decide_eq_false h,decide_eq_false e]
theorem YF(a:Int)(b:Str):decide ((Sum.inl a:Key)=Sum.inr b)=false:=decide_eq_false (λq=>nomatch q)
theorem YG(a:Str)(b:Int):decide ((Sum.inr a:Key)=Sum.inl b)=false:=decide_eq_false (λq=>nomatch q)
noncomputable def Gx(prog:Program)(w:World):PySem.KeyKind prog w Key where
 is:=Od
 hash:=YB w
 inj:=λv a b ha hb=>by
  rcases pU ha with⟨i,t,rfl,rfl⟩|⟨x,t,rfl,rfl⟩
  ·rcases pU hb with⟨j,u,rfl,e⟩|⟨y,u,rfl,e⟩
   ·injection e with e1 _; rw[e1]
   ·exact nomatch e
  ·rcases pU hb with⟨j,u,rfl,e⟩|⟨y,u,rfl,e⟩
   ·exact nomatch e
   ·injection e with e1 _; rw[e1]
 byValue:=λk v h=>by
  rcases pU h with⟨i,t,rfl,rfl⟩|⟨x,t,rfl,rfl⟩ <;> rfl
 pyHash:=λhv h=>by
  rcases pU hv with⟨i,t,rfl,rfl⟩|⟨x,t,rfl,rfl⟩
  ·exact wpAny_pyHash_int h
  ·exact wpAny_pyHash_str h
 eqBool:=λhu hv h=>by
  rcases pU hu with⟨i,t,rfl,rfl⟩|⟨x,t,rfl,rfl⟩
  ·rcases pU hv with⟨j,u,rfl,rfl⟩|⟨y,u,rfl,rfl⟩
   ·rw[YC]at h; exact wpAny_eqBool_int h
   ·rw[YF]at h; exact SeqAt.EqAt.int_str i t y u _ _ _ _ h
  ·rcases pU hv with⟨j,u,rfl,rfl⟩|⟨y,u,rfl,rfl⟩
   ·rw[YG]at h; exact SeqAt.EqAt.str_int x t j u _ _ _ _ h
   ·rw[YD]at h; exact wpAny_eqBool_str h
 «strs» := λk x t v h=>by
  rcases pU h with⟨i,u,rfl,e⟩|⟨y,u,rfl,e⟩
  ·exact nomatch e
  ·injection e with e1 _
   subst e1
   cases v <;> rfl
inductive V where
 |non|bl (b:Bool)|int (i:Int)|str (x:Str)|yh (b:Array UInt8)|flt (b:UInt64)|ref (a:Addr)|ty (n:String)
 deriving DecidableEq
noncomputable def RelV:V->Value->Prop
 |.non,u=>u=Value.none
 |.bl b,u=>u=Value.bool b
 |.int i,u=>∃t,u=Value.int i t
 |.str x,u=>∃t,u=Value.str x t
 |.yh b,u=>∃t,u=Value.bytes b t
 |.flt b,u=>∃t,u=Value.float b t
 |.ref a,u=>u=Value.ref a
 |.ty n,u=>u=Value.type n
abbrev Vals:List V->List Value->Prop:=Paired RelV
theorem Vals.length{xs:List V}{us:List Value}(r:Vals xs us):xs.length=us.length:=Paired.length r
theorem Vals.get:∀{xs:List V} {us:List Value} {i:Nat} {x:V},Vals xs us->xs[i]?=some x->∃u,us[i]?=some u/\RelV x u
 |_,_,_,_,.nil,e=>by simp at e
 |_,_,0,_,.cons r _,e=>by simp at e; subst e; exact⟨_,rfl,r⟩
 |_,_,i+1,x,.cons _ t,e=>by
  obtain⟨u,h1,h2⟩:=Vals.get (i:=i) (x:=x) t (by simpa using e)
  exact⟨u,by simpa using h1,h2⟩
theorem Vals.append:∀{xs ys:List V} {us ws:List Value},Vals xs us->Vals ys ws->Vals (xs++ys) (us++ws)
 |_,_,_,_,.nil,s=>s
 |_,_,_,_,.cons r t,s=>.cons r (Vals.append t s)
theorem Vals.take:∀{xs:List V} {us:List Value} (n:Nat),Vals xs us->Vals (xs.take n) (us.take n)
 |_,_,0,_=>.nil
 |_,_,_+1,.nil=>.nil
 |_,_,n+1,.cons r t=>.cons r (Vals.take n t)
theorem Vals.drop:∀{xs:List V} {us:List Value} (n:Nat),Vals xs us->Vals (xs.drop n) (us.drop n)
 |_,_,0,r=>r
 |_,_,_+1,.nil=>.nil
 |_,_,n+1,.cons _ t=>Vals.drop n t
def Gy:Option V->Option Value->Prop
 |some v,some u=>RelV v u
 |none,none=>True
 |_,_=>False
def KV{κ : Type}:List (κ × V)->List (κ × Value)->Prop:=Paired λ(p : κ × V) (q : κ × Value)=>p.1=q.1/\RelV p.2 q.2
def kV:Key->V
 |.inl i=>.int i
 |.inr x=>.str x
inductive HO where
 |lst (xs:List V)
 |tup (xs:List V)
 |dK (kvs:List (Key × V))|dT (kvs:List (List Key × V))
 |set (S:Int->Bool) (n:Nat)
 |ins (C dx:Addr) (fs:List (Str × V))
 |own (x:Addr)
 |xd (fs:List (Str × V))
 |met (f x:Addr)
 |rng (lo hi:Int)
 |fJ (o:Obj) (u:HO)
 |cY (ps:Array Value)
 |ext (φ : Heap->Prop)
abbrev Hp:=Addr->Option HO
def upd(H:Hp)(a:Addr)(o:HO):Hp:=λb=>if b=a then some o else H b
theorem eX{H:Hp}{a:Addr}{o:HO}:upd H a o a=some o:=by unfold upd; rw[if_pos rfl]
theorem bJ{H:Hp}{a b:Addr}{o:HO}(h:b≠a):upd H a o b=H b:=by unfold upd; rw[if_neg h]
theorem ji{H:Hp}{a b:Addr}{o:HO}(h:H a=some o)(h':H b=none):a≠b:=by
 intro e; subst e; rw[h]at h'; cases h'
section
variable (P:Program)(w:World)
noncomputable def jA(H:Hp)(h:Heap)(a:Addr):HO->Prop
 |.lst xs=>xs.length<=sizeLine/\∃(its:List Value) (n:Nat),Vals xs its/\h.get? a=some {cls:=.type "list",data:=.seq its.toArray n }
 |.tup xs=>xs.length<=sizeLine/\∃its:List Value,Vals xs its/\IsTup h a its.toArray
 |.dK kvs=>kvs.length<=sizeLine/\(a == sysModules)=false/\∃vs,KV kvs vs/\h.DictOf (Gx P w) a vs
 |.dT kvs=>kvs.length<=sizeLine/\(a == sysModules)=false/\∃xs:List (List Key × Addr × Value),
   Paired (λ(p:List Key × V) (q:List Key × Addr × Value)=>p.1=q.1/\H q.2.1=some (.tup (p.1.map kV))/\RelV p.2 q.2.2) kvs xs /\
   ∃o es ep,h.get? a=some o/\o.ExactDict/\o.data=.dict es ep/\es.toList=xs.map (entryOfKey (tupleKind (Gx P w)))/\(xs.map (·.1)).Nodup
 |.set S n=>h.SetOf (intKind P w) a S n
 |.ins C dx fs=>H dx=some (.own a)/\fs.length<=1000/\dx≠a/\h.get? a=some (PySem.W.instObj C dx) /\
   ∃mA,h.Ns1 dx mA/\(∀f,Gy (fs.lookup f) (mA f))/\PySem.Within mA (fs.map (·.1))
 |.own _=>∃o,h.get? a=some o
 |.xd fs=>∃mA,h.Ns1 a mA/\∀f,Gy (fs.lookup f) (mA f)
 |.rng lo hi=>∃t u v,h.get? a=some {cls:=.type "range",data:=.fields #[.int lo t,.int hi u,.int 1 v] }
 |.fJ o u=>h.get? a=some o/\jA H h a u
 |.cY ps=>h.get? a=some {cls:=.none,data:=.fields ps }
 |.met f x=>h.get? a=some (PySem.W.methodObj (.ref f) (.ref x))
 |.ext φ=>φ h/\(∃o,h.get? a=some o)/\∀h1 h2:Heap,φ h1->(∀o,h1.get? a=some o->h2.get? a=some o) -> φ h2
def eY(H:Hp)(h:Heap):Prop:=∀a o,H a=some o->jA P w H h a o
end
section
variable {P:Program}{w:World}{H H':Hp}{h h':Heap}{a:Addr}{o:HO}
theorem jA.lt(x:jA P w H h a o):a<h.objs.size:=by
 cases o with
 |lst xs=>obtain⟨_,_,_,_,e⟩:=x; exact Heap.lt_size e
 |tup xs=>obtain⟨_,_,_,p⟩:=x; exact p.lt
 |dK kvs=>obtain⟨_,_,_,_,o,_,_,e,_⟩:=x; exact Heap.lt_size e
 |dT kvs=>obtain⟨_,_,_,_,o,_,_,e,_⟩:=x; exact Heap.lt_size e
 |set S n=>obtain⟨o,_,_,_,e,_⟩:=x; exact Heap.lt_size e
 |ins C dx fs=>obtain⟨_,_,_,e,_⟩:=x; exact Heap.lt_size e
 |own y=>obtain⟨_,e⟩:=x; exact Heap.lt_size e
 |xd fs=>obtain⟨_,⟨_,_,_,e,_⟩,_⟩:=x; exact Heap.lt_size e
 |rng lo hi=>obtain⟨_,_,_,e⟩:=x; exact Heap.lt_size e
 |fJ ob u=>obtain⟨e,_⟩:=x; exact Heap.lt_size e
 |cY ps=>exact Heap.lt_size (show h.get? a=some _ from x)
 |met f y=>exact Heap.lt_size (show h.get? a=some _ from x)
 |ext φ=>obtain⟨_,⟨_,e⟩,_⟩:=x; exact Heap.lt_size e
theorem Paired.Oe{α β : Type}{F G : α -> β -> Prop}:∀{l₁ : List α} {l₂ : List β},Paired F l₁ l₂ -> (∀a b,F a b->G a b)->Paired G l₁ l₂
 |_,_,.nil,_=>.nil
 |_,_,.cons r t,f=>.cons (f _ _ r) (Paired.Oe t f)
theorem jA.stay(x:jA P w H h a o)(k:∀b u,(b=a\/H b=some (.own a))->h.get? b=some u->h'.get? b=some u)
  (ho:∀b,H b=some (.own a)->H' b=some (.own a)) (ht:∀b xs,H b=some (.tup xs)->H' b=some (.tup xs)):jA P w H' h' a o:=by
 induction o with
 |lst xs=>obtain⟨z,its,n,r,e⟩:=x; exact⟨z,its,n,r,k _ _ (.inl rfl) e⟩
 |tup xs=>obtain⟨z,its,r,ob,e,c⟩:=x; exact⟨z,its,r,ob,k _ _ (.inl rfl) e,c⟩
 |dK kvs=>obtain⟨z,y,vs,r,ob,es,ep,e,c⟩:=x; exact⟨z,y,vs,r,ob,es,ep,k _ _ (.inl rfl) e,c⟩
 |dT kvs =>
  obtain⟨z,y,xs,r,ob,es,ep,e,c⟩:=x
  exact⟨z,y,xs,Paired.Oe r λp q z=>⟨z.1,ht _ _ z.2.1,z.2.2⟩,ob,es,ep,k _ _ (.inl rfl) e,c⟩
 |set S n=>obtain⟨ob,es,ep,t,e,c⟩:=x; exact⟨ob,es,ep,t,k _ _ (.inl rfl) e,c⟩
 |ins C dx fs =>
  obtain⟨d,z,ne,e,mA,⟨od,es,ep,e2,c⟩,r⟩:=x
  exact⟨ho _ d,z,ne,k _ _ (.inl rfl) e,mA,⟨od,es,ep,k _ _ (.inr d) e2,c⟩,r⟩
 |own y=>obtain⟨ob,e⟩:=x; exact⟨ob,k _ _ (.inl rfl) e⟩
 |xd fs=>obtain⟨mA,⟨od,es,ep,e,c⟩,r⟩:=x; exact⟨mA,⟨od,es,ep,k _ _ (.inl rfl) e,c⟩,r⟩
 |rng lo hi=>obtain⟨t,u,v,e⟩:=x; exact⟨t,u,v,k _ _ (.inl rfl) e⟩
 |fJ ob u ih=>obtain⟨e,q⟩:=x; exact⟨k _ _ (.inl rfl) e,ih q⟩
 |cY ps =>
  have e:h.get? a=some {cls:=.none,data:=.fields ps }:=x
  show h'.get? a=some {cls:=.none,data:=.fields ps }
  exact k a _ (.inl rfl) e
 |met f y =>
  have e:h.get? a=some (PySem.W.methodObj (.ref f) (.ref y)):=x
  show h'.get? a=some (PySem.W.methodObj (.ref f) (.ref y))
  exact k a _ (.inl rfl) e
 |ext φ=>obtain⟨p,⟨o,e⟩,st⟩:=x; exact⟨st _ _ p λo q=>k _ _ (.inl rfl) q,⟨o,k _ _ (.inl rfl) e⟩,st⟩
theorem eY.lt(x:eY P w H h)(e:H a=some o):a<h.objs.size:=(x a o e).lt
theorem eY.fresh(x:eY P w H h)(e:h.objs.size<=a):H a=none:=by
 cases q:H a with
 |none=>rfl
 |some u=>exact absurd (Nat.lt_of_lt_of_le (x.lt q) e) (Nat.lt_irrefl _)
theorem eY.kept(x:eY P w H h)(k:∀b u,h.get? b=some u->h'.get? b=some u):eY P w H h':=λa o e =>
 (x a o e).stay (λb u _ q=>k b u q) (λ_ q=>q) λ_ _ q=>q
theorem eY.laid(x:eY P w H h)(k:∀b u,h.get? b=some u->h'.get? b=some u)(hp:h.objs.size<=a)(new:jA P w (upd H a o) h' a o):eY P w (upd H a o) h':=λb u e=>by
 have hn:=x.fresh hp
 by_cases hb:b=a
 ·subst hb; rw[eX]at e; cases e; exact new
 ·rw[bJ hb]at e
  exact(x b u e).stay (λc v _ q=>k c v q) (λc q=>by rw[bJ (ji q hn)]; exact q) λc xs q=>by rw[bJ (ji q hn)]; exact q
end
def Rd(H:Hp)(a:Addr)(u:HO):Prop:=H a=some u\/∃o,H a=some (.fJ o u)
theorem Rd.ok{P:Program}{w:World}{H:Hp}{h:Heap}{a:Addr}{u:HO}(r:Rd H a u)(x:eY P w H h):jA P w H h a u:=by
 rcases r with r|⟨o,r⟩
 ·exact x a u r
 ·obtain⟨_,q⟩:=x a _ r
  exact q
def yj:Option HO->Prop
 |some (.lst _)=>True
 |some (.dK _)=>True
 |some (.dT _)=>True
 |some (.set _ _)=>True
 |some (.ins _ _ _)=>True
 |some (.ext _)=>True
 |_=>False
section
variable {P:Program}{w:World}{H:Hp}{h h':Heap}{x e:Addr}{o':HO}
theorem eY.write(ok:eY P w H h)(mu:yj (H x))(he:e=x\/H e=some (.own x))(k:∀b u,b≠e->h.get? b=some u->h'.get? b=some u)(heo:∃u,h'.get? e=some u)
  (new:jA P w (upd H x o') h' x o'):eY P w (upd H x o') h':=λb u q=>by
 have Og:∀c y,H c=some (.own y)->c≠x:=λc y r z=>by subst z; rw[r]at mu; exact mu
 have YH:∀c xs,H c=some (.tup xs)->c≠x:=λc xs r z=>by subst z; rw[r]at mu; exact mu
 by_cases hb:b=x
 ·subst hb; rw[eX]at q; cases q; exact new
 ·rw[bJ hb]at q
  by_cases hbe:b=e
  ·have q':H b=some (.own x):=by
    rcases he with z|z
    ·exact absurd (hbe.trans z) hb
    ·rw[hbe]; exact z
   rw[q]at q'; cases q'
   obtain⟨v,hv⟩:=heo
   exact⟨v,by rw[hbe]; exact hv⟩
  ·refine(ok b u q).stay (λc v hc r=>k c v ?_ r) (λc r=>by rw[bJ (Og c b r)]; exact r) λc xs r=>by rw[bJ (YH c xs r)]; exact r
   rcases hc with rfl|hc
   ·exact hbe
   ·rintro rfl
    rcases he with z|z
    ·exact Og c b hc z
    ·rw[hc]at z; cases z; exact hb rfl
end
structure Un(fs ex:List Addr)(H H':Hp)(h h':Heap):Prop where
 keep:∀b o,h.get? b=some o->H b=none->b∉fs->b∉ex->h'.get? b=some o
 slot:∀b o,h.get? b=some o->H b=none->b∈fs->b∉ex->∃sl,h'.get? b=some {o with slots:=sl }
 free:∀b o,h.get? b=some o->H b=none->b∉ex->H' b=none
 there:∀b o,h.get? b=some o->b∉ex->∃o',h'.get? b=some o'
 tups:∀b xs,H b=some (.tup xs)->H' b=some (.tup xs)
 mY:∀b o u,H b=some (.fJ o u)->H' b=some (.fJ o u)
 mZ:∀b ps,H b=some (.cY ps)->∃more,H' b=some (.cY (ps++more))
section
variable {fs fs' ex ex':List Addr}{H H1 H2:Hp}{h h1 h2 h':Heap}{a x e:Addr}{o:HO}
theorem Un.any(u:Un fs ex H H1 h h1){b:Addr}{ob:Obj}(q:h.get? b=some ob)(n:H b=none)(hx:b∉ex):∃sl,h1.get? b=some {ob with slots:=sl }:=by
 by_cases hb:b∈fs
 ·exact u.slot b ob q n hb hx
 ·exact⟨ob.slots,u.keep b ob q n hb hx⟩
theorem Un.kept(k:∀b u,h.get? b=some u->h'.get? b=some u):Un fs ex H H h h' :=
 ⟨λb ob q _ _ _=>k b ob q,λb ob q _ _ _=>⟨ob.slots,k b ob q⟩,λ_ _ _ n _=>n,λb ob q _=>⟨ob,k b ob q⟩,λ_ _ q=>q,λ_ _ _ q=>q,λ_ ps q=>⟨#[],by rw[q]; simp⟩⟩
theorem Un.refl:Un fs ex H H h h:=Un.kept λ_ _ q=>q
theorem Un.laid(k:∀b u,h.get? b=some u->h'.get? b=some u)(hp:h.objs.size<=a)(hn:H a=none):Un fs ex H (upd H a o) h h' where
 keep:=λb u q _ _ _=>k b u q
 slot:=λb u q _ _ _=>⟨u.slots,k b u q⟩
 free:=λb u q n _=>by rw[bJ (Nat.ne_of_lt (Nat.lt_of_lt_of_le (Heap.lt_size q) hp))]; exact n
 there:=λb u q _=>⟨u,k b u q⟩
 tups:=λb xs q=>by rw[bJ (ji q hn)]; exact q
 mY:=λb u xs q=>by rw[bJ (ji q hn)]; exact q
 mZ:=λb ps q=>⟨#[],by rw[bJ (ji q hn),q]; simp⟩
theorem Un.write(mu:yj (H x))(he:e=x\/H e=some (.own x))(k:∀b u,b≠e->h.get? b=some u->h'.get? b=some u)(heo:∃u,h'.get? e=some u):Un fs ex H (upd H x o) h h':=by
 have hx:∀b,H b=none->b≠x:=λb n z=>by subst z; rw[n]at mu; exact mu
 have hb:∀b,H b=none->b≠e:=λb n z=>by
  subst z
  rcases he with r|r
  ·exact hx b n r
  ·rw[n]at r; cases r
 have hm:∀b u,H b=some u->¬yj (some u)->b≠x:=λb u q nm z=>by subst z; rw[q]at mu; exact nm mu
 refine⟨λb u q n _ _=>k b u (hb b n) q,λb u q n _ _=>⟨u.slots,k b u (hb b n) q⟩,λb u q n _=>by rw[bJ (hx b n)]; exact n,λb u q _=>?_,
  λb xs q=>by rw[bJ (hm b _ q λz=>z)]; exact q,λb u xs q=>by rw[bJ (hm b _ q λz=>z)]; exact q,λb ps q=>⟨#[],by rw[bJ (hm b _ q λz=>z),q]; simp⟩⟩
 by_cases hbe:b=e
 ·subst hbe; exact heo
 ·exact⟨u,k b u hbe q⟩
end
def Aw(h:Heap)(H:Hp):List Addr:=(List.range h.objs.size).filter λa=>(H a).isSome
def pW(h:Heap)(H:Hp):Heap:=PySem.W.hideAll h (Aw h H)
theorem YJ(h:Heap)(H:Hp):(pW h H).objs.size=h.objs.size:=PySem.W.hideAll_size _ _
theorem YK{h:Heap}{H:Hp}{b:Addr}{o:Obj}(e:h.get? b=some o)(n:H b=none):(pW h H).get? b=some o :=
 PySem.W.hideAll_get _ e λhm=>by
  have q:(H b).isSome=true:=(List.mem_filter.mp hm).2
  rw[n]at q; simp at q
theorem YL{h:Heap}{H:Hp}{b:Addr}{o:Obj}(e:(pW h H).get? b=some o):h.get? b=some o/\H b=none:=by
 have e':h.get? b=some o:=PySem.W.of_hideAll (Aw h H) e
 refine⟨e',?_⟩
 cases q:H b with
 |none=>rfl
 |some x =>
  have hm:b∈Aw h H:=List.mem_filter.mpr ⟨List.mem_range.mpr (Heap.lt_size e'),by simp[q]⟩
  have z:(pW h H).get? b=none:=PySem.W.hideAll_none (Aw h H) hm
  rw[z]at e; cases e
def YM(g h:Heap)(L:Addr):List (Addr × Obj):=(List.range h.objs.size).filterMap λa=>if a=L\/(g.get? a).isSome=true then none else(h.get? a).map λo=>(a,o)
def rest(g h:Heap)(L d:Addr):List (Addr × Obj):=(YM g h L).filter λp=>decide (p.1≠d)
structure Mod(K:FZ)(mg:Str->Option Value)(base:Heap):Prop where
 Gz:K.In base
 glob:base.Ns mainGlobals mg
 blt:∃mb,base.Ns builtinsNs mb/\∀x:Str,x ≠ "__name__" -> mb x=bootBuiltins x
 nolimit:base.NoLimit
structure Cx where
 prog:Program
 w:World
 K:FZ
 mg:Str->Option Value
 base:Heap
 A:Around
 N:List Str
 s₀ : Shared
 H₀ : Hp
 env:Env
 outer:List Env
 stack:List Env
 ex:List Addr
 fn:Str->Bool
 calm:Bool
 pn:List (Addr × Obj)
 xe:Value->Shared->Prop
def frs(l:List Env):List Addr:=l.filterMap (·.frame)
abbrev Cx.fs(X:Cx):List Addr:=frs X.outer
def Oh(sc:Scope)(x:Str):Prop:=sc.names.lookup x=some .local\/sc.names.lookup x=some .cell\/sc.names.lookup x=some .free
def Loc(sc:Scope)(x:Str):Prop:=sc.names.lookup x=some .local\/sc.names.lookup x=some .cell
def Look(env:Env)(h:Heap)(m:Str->Option Value)(x:Str)(u:Value):Prop :=
 (env.kindOf x=some .local/\m x=some u)\/((env.kindOf x=some .cell\/env.kindOf x=some .free)/\∃c,env.cells.lookup x=some c/\h.IsCell c (some u))
structure Cx.Ok(X:Cx):Prop where
 mod:Mod X.K X.mg X.base
 kind:X.env.scope.kind=.function
 glob:X.env.globals=mainGlobals
 blt:X.env.builtins=builtinsNs
 above:X.s₀.heap.objs.size<=X.env.locals
 inj:∀x y c,X.env.cells.lookup x=some c->X.env.cells.lookup y=some c->x=y
 has:∀x,(X.env.kindOf x=some .cell\/X.env.kindOf x=some .free)->∃c,X.env.cells.lookup x=some c
 cab:∀x c,X.fn x=true->X.env.cells.lookup x=some c->X.s₀.heap.objs.size<=c
 hd:X.calm=true->X.A.handled=none
 frames:X.A.frames=some X.stack
 stk:X.stack=X.outer\/(X.stack=X.env::X.outer/\X.env.frame=some X.env.locals)
 Oi:∀b∈X.ex,b≠X.env.locals/\∀x c,X.env.cells.lookup x=some c->c≠b
 bs:∀b o,X.base.get? b=some o->X.s₀.heap.get? b=some o/\X.H₀ b=none
 qW:X.base.objs.size<=X.s₀.heap.objs.size
 jB:∀b o,X.base.get? b=some o->b∉X.ex
 Ax:∀b∈X.ex,b∉X.fs
 lN:X.s₀.heap.FunFrames X.base X.outer
 tX:∀b∈X.fs,X.H₀ b=none
structure Inv(X:Cx)(pins:List (Addr × Obj))(σ : List (Option V))(H:Hp)(s:Shared):Prop where
 ok:X.Ok
 os:s.os=X.s₀.os
 bare:AllBare s.gens
 base:Un X.fs X.ex X.H₀ H X.s₀.heap s.heap
 loc:∃m,s.heap.Ns X.env.locals m/\∀(i:Nat) (x:Str) (v:V),X.N[i]?=some x -> σ[i]?=some (some v)->Oh X.env.scope x->∃u,RelV v u/\Look X.env s.heap m x u
 cell:∀x c,X.env.cells.lookup x=some c->∃v,s.heap.IsCell c v
 free:H X.env.locals=none
 m5:∀x c,X.env.cells.lookup x=some c->H c=none
 pin:∀p∈X.pn++pins,s.heap.get? p.1=some p.2/\H p.1=none/\p.1≠X.env.locals/\p.1∉X.fs/\∀v,p.2.data ≠ .cell v
 hok:eY X.prog X.w H s.heap
 len : σ.length=X.N.length
section
variable {X:Cx}{pins:List (Addr × Obj)}{σ : List (Option V)}{H H':Hp}{s:Shared}{h':Heap}
theorem Cx.Ok.wg(ok:X.Ok){b:Addr}{o:Obj}(e:X.base.get? b=some o):b∉X.fs:=λhb=>by
 have:=(ok.lN.mem hb).1
 rw[e]at this; cases this
theorem Inv.bs(I:Inv X pins σ H s):∀b o,X.base.get? b=some o->s.heap.get? b=some o/\H b=none:=λb o e =>
 ⟨I.base.keep b o (I.ok.bs b o e).1 (I.ok.bs b o e).2 (I.ok.wg e) (I.ok.jB b o e),I.base.free b o (I.ok.bs b o e).1 (I.ok.bs b o e).2 (I.ok.jB b o e)⟩
theorem Inv.bk(I:Inv X pins σ H s):∀b o,X.base.get? b=some o->s.heap.get? b=some o:=λb o e=>(I.bs b o e).1
theorem Inv.mod(I:Inv X pins σ H s):Mod X.K X.mg X.base:=I.ok.mod
theorem Inv.jQ(I:Inv X pins σ H s):X.K.In s.heap:=I.ok.mod.Gz.keeps I.bk
theorem Inv.nolimit(I:Inv X pins σ H s):s.heap.NoLimit:=I.ok.mod.nolimit.keeps I.bk
theorem Inv.lt(I:Inv X pins σ H s):X.env.locals<s.heap.objs.size:=let⟨_,hn,_⟩:=I.loc; hn.lt
theorem Inv.sz(I:Inv X pins σ H s):X.s₀.heap.objs.size<=s.heap.objs.size:=Nat.le_trans I.ok.above (Nat.le_of_lt I.lt)
theorem Inv.YQ(I:Inv X pins σ H s){a:Addr}(h:s.heap.objs.size<=a):a∉X.fs:=λhb=>by
 obtain⟨_,o,ho,_⟩:=I.ok.lN.mem hb
 exact absurd (Nat.lt_of_lt_of_le (Heap.lt_size ho) (Nat.le_trans I.sz h)) (Nat.lt_irrefl _)
theorem Inv.tY(I:Inv X pins σ H s):∀x c,X.env.cells.lookup x=some c->c≠X.env.locals:=λx c e z=>by
 obtain⟨v,o,ho,hd⟩:=I.cell x c e
 obtain⟨m,⟨o',es,ep,ho',hd',_⟩,_⟩:=I.loc
 rw[z,ho']at ho; cases ho; rw[hd']at hd; cases hd
theorem Inv.lN(I:Inv X pins σ H s):s.heap.FunFrames X.base X.outer:=by
 have all:∀(l:List Env),(∀b∈frs l,b∈X.fs)->X.s₀.heap.FunFrames X.base l->s.heap.FunFrames X.base l:=by
  intro l
  induction l with
  |nil=>intro _ _; trivial
  |cons env r ih =>
   intro hs hl
   obtain⟨hk,⟨L,o,hf,hn,ho,hd⟩,hr⟩:=hl
   have hL:L∈X.fs:=hs L (by unfold frs; rw[List.filterMap_cons,hf]; exact List.mem_cons_self)
   obtain⟨sl,e⟩:=I.base.slot L o ho (I.ok.tX L hL) hL λz=>I.ok.Ax L z hL
   exact⟨hk,⟨L,_,hf,hn,e,hd⟩,ih (λb hb=>hs b (by unfold frs; rw[List.filterMap_cons,hf]; exact List.mem_cons_of_mem _ hb)) hr⟩
 exact all X.outer (λ_ hb=>hb) I.ok.lN
theorem Inv.stack(I:Inv X pins σ H s):s.heap.FunFrames X.base X.stack:=by
 rcases I.ok.stk with e|⟨e,hf⟩
 ·rw[e]; exact I.lN
 ·rw[e]
  obtain⟨m,hn,_⟩:=I.loc
  refine .cons (by rw[I.ok.kind]; decide) hf hn ?_ I.lN
  exact Heap.get?_none_of_le (Nat.le_trans I.ok.qW I.ok.above)
theorem Inv.Ay(I:Inv X pins σ H s):∀b∈frs X.stack,b∈X.env.locals::X.fs:=λb hb=>by
 rcases I.ok.stk with e|⟨e,hf⟩
 ·rw[e]at hb; exact List.mem_cons_of_mem _ hb
 ·rw[e]at hb
  unfold frs at hb
  rw[List.filterMap_cons,hf]at hb
  exact hb
theorem Inv.Az(I:Inv X pins σ H s):∀b∈frs X.stack,H b=none:=λb hb=>by
 rcases List.mem_cons.mp (I.Ay b hb)with e|hb
 ·rw[e]; exact I.free
 ·obtain⟨_,o,ho,_⟩:=I.ok.lN.mem hb
  exact I.base.free b o ho (I.ok.tX b hb) λz=>I.ok.Ax b z hb
theorem Inv.step{g':Array GenState}{t':Nat}{d':Drawn}{ch:List Addr}(I:Inv X pins σ H s)
  (hch:∀b∈ch,(b∈X.ex\/X.s₀.heap.objs.size<=b)/\b≠X.env.locals/\(∀x c,X.env.cells.lookup x=some c->c≠b)/\∀p∈X.pn++pins,p.1≠b)
  (keep:∀b o,b≠X.env.locals->b∉X.fs->b∉ch->s.heap.get? b=some o->H b=none->h'.get? b=some o)
  (slot:∀b o,b≠X.env.locals->b∈X.fs->b∉ch->s.heap.get? b=some o->H b=none->∃sl,h'.get? b=some {o with slots:=sl }) (free:∀b o,b∉ch->s.heap.get? b=some o->H b=none->H' b=none)
  (there:∀b o,b∉ch->s.heap.get? b=some o->∃o',h'.get? b=some o')
  (tups:∀b xs,H b=some (.tup xs)->H' b=some (.tup xs)) (mY:∀b o u,H b=some (.fJ o u)->H' b=some (.fJ o u)) (mZ:∀b ps,H b=some (.cY ps)->∃more,H' b=some (.cY (ps++more)))
  (ns:∀m,s.heap.Ns X.env.locals m->h'.Ns X.env.locals m) (hok:eY X.prog X.w H' h') (hg:AllBare g') :
  Inv X pins σ H' {s with heap:=h',gens:=g',drawn:=d',toks:=t' }:=by
 have Oj:∀b o,X.s₀.heap.get? b=some o->b≠X.env.locals:=λb o e=>Nat.ne_of_lt (Nat.lt_of_lt_of_le (Heap.lt_size e) I.ok.above)
 have Ba:∀b o,X.s₀.heap.get? b=some o->b∉X.ex->b∉ch:=λb o e hx hb=>by
  rcases(hch b hb).1 with z|z
  ·exact hx z
  ·exact absurd (Nat.lt_of_lt_of_le (Heap.lt_size e) z) (Nat.lt_irrefl _)
 have cellK:∀x c,X.env.cells.lookup x=some c->∀v,s.heap.IsCell c v->h'.IsCell c v:=λx c e v ⟨o,ho,hd⟩=>by
  have yp:c∉ch:=λz=>(hch c z).2.2.1 x c e rfl
  by_cases hc:c∈X.fs
  ·obtain⟨sl,q⟩:=slot c o (I.tY x c e) hc yp ho (I.m5 x c e)
   exact⟨_,q,hd⟩
  ·exact⟨o,keep c o (I.tY x c e) hc yp ho (I.m5 x c e),hd⟩
 refine⟨I.ok,I.os,hg,⟨λb o e n hb hx=>?_,λb o e n hb hx=>?_,λb o e n hx=>?_,λb o e hx=>?_,λb xs e=>tups b xs (I.base.tups b xs e),λb o xs e=>mY b o xs (I.base.mY b o xs e),λb ps e=>?_⟩,?_,λx c e=>?_,?_,λx c e=>?_,λp hp=>?_,hok,I.len⟩
 ·exact keep b o (Oj b o e) hb (Ba b o e hx) (I.base.keep b o e n hb hx) (I.base.free b o e n hx)
 ·obtain⟨sl,e1⟩:=I.base.slot b o e n hb hx
  obtain⟨sl',e2⟩:=slot b _ (Oj b o e) hb (Ba b o e hx) e1 (I.base.free b o e n hx)
  exact⟨sl',e2⟩
 ·obtain⟨o',e1⟩:=I.base.there b o e hx
  exact free b o' (Ba b o e hx) e1 (I.base.free b o e n hx)
 ·obtain⟨o',e1⟩:=I.base.there b o e hx
  exact there b o' (Ba b o e hx) e1
 ·obtain⟨m1,e1⟩:=I.base.mZ b ps e
  obtain⟨m2,e2⟩:=mZ b _ e1
  exact⟨m1++m2,by rw[e2,Array.append_assoc]⟩
 ·obtain⟨m,hn,hl⟩:=I.loc
  refine⟨m,ns m hn,λi x v e1 e2 e3=>?_⟩
  obtain⟨u,r,l⟩:=hl i x v e1 e2 e3
  refine⟨u,r,?_⟩
  rcases l with l|⟨k,c,e,z⟩
  ·exact .inl l
  ·exact .inr ⟨k,c,e,cellK x c e _ z⟩
 ·obtain⟨v,z⟩:=I.cell x c e
  exact⟨v,cellK x c e v z⟩
 ·obtain⟨m,⟨o,_,_,ho,_⟩,_⟩:=I.loc
  exact free _ o (λz=>(hch _ z).2.1 rfl) ho I.free
 ·obtain⟨v,o,ho,hd⟩:=I.cell x c e
  exact free c o (λz=>(hch c z).2.2.1 x c e rfl) ho (I.m5 x c e)
 ·obtain⟨e,n,ne,nf,d⟩:=I.pin p hp
  have yp:p.1∉ch:=λz=>(hch p.1 z).2.2.2 p hp rfl
  exact⟨keep p.1 p.2 ne nf yp e n,free p.1 p.2 yp e n,ne,nf,d⟩
theorem Inv.un{t':Nat}(I:Inv X pins σ H s)(u:Un X.fs [] H H' s.heap h')(hok:eY X.prog X.w H' h'):Inv X pins σ H' {s with heap:=h',toks:=t' }:=by
 obtain⟨m,⟨o,es,ep,ho,r⟩,_⟩:=id I.loc
 obtain⟨sl,hL⟩:=u.any ho I.free (by simp)
 exact I.step (g':=s.gens) (d':=s.drawn) (ch:=[]) (λ_ z=>nomatch z) (λb o _ hb _ e n=>u.keep b o e n hb (by simp)) (λb o _ hb _ e n=>u.slot b o e n hb (by simp)) (λb o _ e n=>u.free b o e n (by simp)) (λb o _ e=>u.there b o e (by simp)) u.tups u.mY u.mZ (λm' hm=>by
  obtain⟨o',es',ep',ho',r'⟩:=hm
  rw[ho]at ho'; cases ho'
  exact⟨_,es',ep',hL,r'⟩) hok I.bare
theorem Inv.call{g':Array GenState}{t':Nat}{d':Drawn}{ch:List Addr}(I:Inv X pins σ H s)(u:Un (frs X.stack) ch H H' s.heap h')(hok:eY X.prog X.w H' h')(hg:AllBare g')
  (hch:∀b∈ch,(b∈X.ex\/X.s₀.heap.objs.size<=b)/\b≠X.env.locals/\(∀x c,X.env.cells.lookup x=some c->c≠b)/\∀p∈X.pn++pins,p.1≠b) :
  Inv X pins σ H' {s with heap:=h',gens:=g',drawn:=d',toks:=t' }:=by
 obtain⟨m,⟨o,es,ep,ho,r⟩,_⟩:=id I.loc
 obtain⟨sl,hL⟩:=u.any ho I.free λz=>(hch _ z).2.1 rfl
 exact I.step (ch:=ch) hch (λb o hL hb hc e n=>u.keep b o e n (λz=>(List.mem_cons.mp (I.Ay b z)).elim hL hb) hc) (λb o _ _ hc e n=>u.any e n hc) (λb o hc e n=>u.free b o e n hc) (λb o hc e=>u.there b o e hc) u.tups u.mY u.mZ (λm' hm=>by
  obtain⟨o',es',ep',ho',r'⟩:=hm
  rw[ho]at ho'; cases ho'
  exact⟨_,es',ep',hL,r'⟩) hok hg
theorem Inv.turned{t':Nat}{it:Addr}(I:Inv X pins σ H s)(k:∀b o,b≠it->s.heap.get? b=some o->h'.get? b=some o)(hn:H it=none)(hL:it≠X.env.locals)
  (h1:it∈X.ex\/X.s₀.heap.objs.size<=it) (h2:∀x c,X.env.cells.lookup x=some c->c≠it) (h3:∀p∈X.pn++pins,p.1≠it):Inv X pins σ H {s with heap:=h',toks:=t' }:=by
 have Ol:∀b u,H b=some u->b≠it:=λb u e z=>by rw[z,hn]at e; cases e
 refine I.step (g':=s.gens) (d':=s.drawn) (ch:=[it]) (λb hb=>?_) (λb o _ _ hc e _=>k b o (λz=>hc (by simp[z])) e) (λb o _ _ hc e _=>⟨o.slots,k b o (λz=>hc (by simp[z])) e⟩) (λ_ _ _ _ n=>n)
  (λb o hc e=>⟨o,k b o (λz=>hc (by simp[z])) e⟩) (λ_ _ e=>e) (λ_ _ _ e=>e) (λb ps e=>⟨#[],by rw[e]; simp⟩) (λm hm=>?_) (λb u e=>?_) I.bare
 ·have e:b=it:=by simpa using hb
  subst e
  exact⟨h1,hL,h2,h3⟩
 ·obtain⟨o,es,ep,ho,r⟩:=hm
  exact⟨o,es,ep,k _ o (Ne.symm hL) ho,r⟩
 ·refine(I.hok b u e).stay (λc v hc q=>k c v ?_ q) (λ_ q=>q) λ_ _ q=>q
  rcases hc with z|z
  ·rw[z]; exact Ol b u e
  ·exact Ol c _ z
theorem Inv.tok(I:Inv X pins σ H s)(t:Nat):Inv X pins σ H {s with toks:=t }:=I.un (h':=s.heap) (t':=t) Un.refl I.hok
theorem Inv.kept{t':Nat}(I:Inv X pins σ H s)(k:∀b u,s.heap.get? b=some u->h'.get? b=some u):Inv X pins σ H {s with heap:=h',toks:=t' }:=I.un (Un.kept k) (I.hok.kept k)
theorem Inv.laid{a:Addr}{o:HO}{t':Nat}(I:Inv X pins σ H s)(k:∀b u,s.heap.get? b=some u->h'.get? b=some u)(hp:s.heap.objs.size<=a)(new:jA X.prog X.w (upd H a o) h' a o) :
  Inv X pins σ (upd H a o) {s with heap:=h',toks:=t' }:=I.un (Un.laid k hp (I.hok.fresh hp)) (I.hok.laid k hp new)
theorem Inv.write{x e:Addr}{o:HO}{t':Nat}(I:Inv X pins σ H s)(mu:yj (H x))(he:e=x\/H e=some (.own x))(k:∀b u,b≠e->s.heap.get? b=some u->h'.get? b=some u)(heo:∃u,h'.get? e=some u)
  (new:jA X.prog X.w (upd H x o) h' x o):Inv X pins σ (upd H x o) {s with heap:=h',toks:=t' }:=I.un (Un.write mu he k heo) (I.hok.write mu he k heo new)
theorem Inv.Bb{oA:List (Addr × Obj)}(I:Inv X pins σ H s)(h:∀p∈oA,s.heap.get? p.1=some p.2/\H p.1=none/\p.1≠X.env.locals/\p.1∉X.fs/\∀v,p.2.data ≠ .cell v):Inv X oA σ H s :=
 ⟨I.ok,I.os,I.bare,I.base,I.loc,I.cell,I.free,I.m5,λp hp=>(List.mem_append.mp hp).elim (λz=>I.pin p (List.mem_append_left _ z)) (h p),I.hok,I.len⟩
theorem Om{N:List Str}(hN:N.Nodup){i j:Nat}{x:Str}(a:N[i]?=some x)(b:N[j]?=some x):i=j:=by
 obtain⟨h1,e1⟩:=List.getElem?_eq_some_iff.mp a
 obtain⟨h2,e2⟩:=List.getElem?_eq_some_iff.mp b
 exact(List.getElem_inj hN).mp (e1.trans e2.symm)
theorem Oo{M:Model}{A:Around}{E:Value->Shared->Prop}{i:Nat}{x:Str}{v:V}{u:Value}{Q:Unit->Shared->Prop}(I:Inv X pins σ H s)(hN:X.N.Nodup)(hi:X.N[i]?=some x)(hx:Loc X.env.scope x)(r:RelV v u)
  (h:∀s',Inv X pins (σ.set i (some v)) H s'->(∃a,Heap.SameBut a s.heap s'.heap/\(a=X.env.locals\/X.env.cells.lookup x=some a))->Q () s') (hf:X.fn x=true\/X.env.scope.names.lookup x=some .local:=by first|exact .inl rfl|exact .inr rfl|assumption):wpAny M A (storeName X.env x u) Q E s:=by
 obtain⟨m,hn,hl⟩:=id I.loc
 have hcls:(X.env.scope.kind == .class || (X.env.scope.kind == .module&&X.env.locals != X.env.globals))=false:=by rw[I.ok.kind]; rfl
 have Oq:i < σ.length:=by rw[I.len]; exact(List.getElem?_eq_some_iff.mp hi).1
 have tY:=I.tY
 have tracked:∀{a:Addr} {h':Heap},(∃o,s.heap.get? a=some o/\H a=none)->Heap.SameBut a s.heap h'->eY X.prog X.w H h':=λ{a h'} ha hs b ob e=>by
  obtain⟨_,_,hfree⟩:=ha
  refine(I.hok b ob e).stay (λc w' hc q=>(hs.2 c ?_).trans q) (λ_ q=>q) λ_ _ q=>q
  rintro rfl
  rcases hc with rfl|hc
  ·rw[hfree]at e; cases e
  ·rw[hfree]at hc; cases hc
 rcases hx with hk|hk
 ·refine wpAny_storeName_local hk hn (λh' hn' hs=>?_) hcls
  obtain⟨oL,_,_,hoL,_⟩:=id hn
  refine h _ ⟨I.ok,I.os,I.bare,⟨λb o e n hb hx=>?_,λb o e n hb hx=>?_,I.base.free,λb o e hx=>?_,I.base.tups,I.base.mY,I.base.mZ⟩,⟨_,hn',λj y v' e1 e2 e3=>?_⟩,λy c e=>?_,I.free,I.m5,λp hp=>?_,tracked ⟨oL,hoL,I.free⟩ hs,by simpa using I.len⟩ ⟨_,hs,.inl rfl⟩
  ·exact(hs.2 b (Nat.ne_of_lt (Nat.lt_of_lt_of_le (Heap.lt_size e) I.ok.above))).trans (I.base.keep b o e n hb hx)
  ·obtain⟨sl,e1⟩:=I.base.slot b o e n hb hx
   exact⟨sl,(hs.2 b (Nat.ne_of_lt (Nat.lt_of_lt_of_le (Heap.lt_size e) I.ok.above))).trans e1⟩
  ·obtain⟨o',e1⟩:=I.base.there b o e hx
   exact⟨o',(hs.2 b (Nat.ne_of_lt (Nat.lt_of_lt_of_le (Heap.lt_size e) I.ok.above))).trans e1⟩
  ·by_cases hj:j=i
   ·subst hj
    rw[hi]at e1; cases e1
    rw[List.getElem?_set_self Oq]at e2
    cases e2
    exact⟨u,r,.inl ⟨hk,by simp⟩⟩
   ·rw[List.getElem?_set_ne (Ne.symm hj)]at e2
    obtain⟨u',r',q⟩:=hl j y v' e1 e2 e3
    refine⟨u',r',?_⟩
    rcases q with⟨k,e⟩|⟨k,c,e,z⟩
    ·refine .inl ⟨k,?_⟩
     have:y≠x:=λe=>hj (Om hN e1 (e▸hi))
     simp[this,e]
    ·exact .inr ⟨k,c,e,z.sameBut hs (tY y c e)⟩
  ·obtain⟨w',z⟩:=I.cell y c e
   exact⟨w',z.sameBut hs (tY y c e)⟩
  ·obtain⟨e,n,ne,nf,d⟩:=I.pin p hp
   exact⟨(hs.2 p.1 ne).trans e,n,ne,nf,d⟩
 ·have hfn:X.fn x=true:=by
   rcases hf with z|z
   ·exact z
   ·rw[z]at hk; cases hk
  obtain⟨c,hc⟩:=I.ok.has x (.inl hk)
  obtain⟨w',z⟩:=I.cell x c hc
  refine wpAny_storeName_cell I.ok.kind hk hc z (λh' hc' hs=>?_)
  obtain⟨oc,hoc,YS⟩:=id z
  refine h {s with heap:=h' } ⟨I.ok,I.os,I.bare,⟨λb o e n hb hx=>?_,λb o e n hb hx=>?_,I.base.free,λb o e hx=>?_,I.base.tups,I.base.mY,I.base.mZ⟩,⟨m,hn.sameBut hs (Ne.symm (tY x c hc)),λj y v' e1 e2 e3=>?_⟩,λy c' e=>?_,I.free,I.m5,λp hp=>?_,tracked ⟨oc,hoc,I.m5 x c hc⟩ hs,by simpa using I.len⟩ ⟨c,hs,.inr hc⟩
  ·exact(hs.2 b (Nat.ne_of_lt (Nat.lt_of_lt_of_le (Heap.lt_size e) (I.ok.cab x c hfn hc)))).trans (I.base.keep b o e n hb hx)
  ·obtain⟨sl,e1⟩:=I.base.slot b o e n hb hx
   exact⟨sl,(hs.2 b (Nat.ne_of_lt (Nat.lt_of_lt_of_le (Heap.lt_size e) (I.ok.cab x c hfn hc)))).trans e1⟩
  ·obtain⟨o',e1⟩:=I.base.there b o e hx
   exact⟨o',(hs.2 b (Nat.ne_of_lt (Nat.lt_of_lt_of_le (Heap.lt_size e) (I.ok.cab x c hfn hc)))).trans e1⟩
  ·by_cases hj:j=i
   ·subst hj
    rw[hi]at e1; cases e1
    rw[List.getElem?_set_self Oq]at e2
    cases e2
    exact⟨u,r,.inr ⟨.inl hk,c,hc,hc'⟩⟩
   ·rw[List.getElem?_set_ne (Ne.symm hj)]at e2
    obtain⟨u',r',q⟩:=hl j y v' e1 e2 e3
    refine⟨u',r',?_⟩
    rcases q with q|⟨k,c',e,z'⟩
    ·exact .inl q
    ·refine .inr ⟨k,c',e,z'.sameBut hs ?_⟩
     rintro rfl
     exact hj (Om hN e1 (I.ok.inj _ _ _ e hc▸hi))
  ·by_cases hcc:c'=c
   ·subst hcc; exact⟨_,hc'⟩
   ·obtain⟨w2,z2⟩:=I.cell y c' e
    exact⟨w2,z2.sameBut hs hcc⟩
  ·obtain⟨e,n,ne,nf,d⟩:=I.pin p hp
   refine⟨(hs.2 p.1 ?_).trans e,n,ne,nf,d⟩
   intro q
   rw[q,hoc]at e
   have q':oc=p.2:=Option.some.inj e
   exact d w' (by rw[<-q']; exact YS)
theorem Bc{M:Model}{A:Around}{E:Value->Shared->Prop}{i:Nat}{x:Str}{v:V}{u:Value}{Q:Unit->Shared->Prop}(I:Inv X pins σ H s)(hN:X.N.Nodup)(hi:X.N[i]?=some x)(hx:Loc X.env.scope x)(r:RelV v u)
  (h:∀s',Inv X pins (σ.set i (some v)) H s'->Q () s') (hf:X.fn x=true\/X.env.scope.names.lookup x=some .local:=by first|exact .inl rfl|exact .inr rfl|assumption):wpAny M A (storeName X.env x u) Q E s :=
 Oo I hN hi hx r (λs' I' _=>h s' I') hf
theorem Inv.call'{s':Shared}{ch:List Addr}(I:Inv X pins σ H s)(ho:s'.os=s.os)(u:Un (frs X.stack) ch H H' s.heap s'.heap)(hok:eY X.prog X.w H' s'.heap)(hg:AllBare s'.gens)
  (hch:∀b∈ch,(b∈X.ex\/X.s₀.heap.objs.size<=b)/\b≠X.env.locals/\(∀x c,X.env.cells.lookup x=some c->c≠b)/\∀p∈X.pn++pins,p.1≠b):Inv X pins σ H' s':=by
 obtain⟨h',g',d',t',o'⟩:=s'
 have e:o'=s.os:=ho
 subst e
 exact I.call (g':=g') (t':=t') (d':=d') u hok hg hch
end
abbrev XK:=Value->Option Addr->Hp->Prop
abbrev St:=List (Option V)
abbrev VK:=V->Hp->Prop
abbrev TE:=St->Hp->VK->Prop
abbrev TT:=St->Hp->(Bool->Hp->Prop)->Prop
abbrev TA:=St->Hp->(List V->Hp->Prop)->Prop
structure Ends where
 nx:St->Hp->Prop
 rt:VK
 bk:St->Hp->Prop:=λ_ _=>False
 ct:St->Hp->Prop:=λ_ _=>False
abbrev TS:=Ends->St->Hp->Prop
def EP(X:Cx)(pins:List (Addr × Obj))(σ : St)(Q:VK)(u:Value)(s':Shared):Prop:=∃v H',Inv X pins σ H' s'/\RelV v u/\Q v H'
def TP(X:Cx)(pins:List (Addr × Obj))(σ : St)(Q:Bool->Hp->Prop)(b:Bool)(s':Shared):Prop:=∃H',Inv X pins σ H' s'/\Q b H'
def AP(X:Cx)(pins:List (Addr × Obj))(σ : St)(Q:List V->Hp->Prop)(us:List Value)(s':Shared):Prop:=∃vs H',Inv X pins σ H' s'/\Vals vs us/\Q vs H'
noncomputable def SP(X:Cx)(pins:List (Addr × Obj))(D:Ends)(f:Flow)(s':Shared):Prop :=
 match f with
 |.next=>∃σ' H',Inv X pins σ' H' s'/\D.nx σ' H'
 |.brk=>∃σ' H',Inv X pins σ' H' s'/\D.bk σ' H'
 |.cont=>∃σ' H',Inv X pins σ' H' s'/\D.ct σ' H'
 |.ret u=>∃v σ' H',Inv X pins σ' H' s'/\RelV v u/\D.rt v H'
structure PE(X:Cx)(e:Expr)(t:TE):Prop where
 run:∀(pins:List (Addr × Obj)) (s:Shared) (σ : St) (H:Hp) (Q:VK),Inv X pins σ H s->t σ H Q->wpAny (model X.prog X.w) X.A (eval e X.env) (EP X pins σ Q) X.xe s
instance {X:Cx}{e:Expr}{t:TE}:CoeFun (PE X e t) λ_=>∀(pins:List (Addr × Obj)) (s:Shared) (σ : St) (H:Hp) (Q:VK),Inv X pins σ H s->t σ H Q->wpAny (model X.prog X.w) X.A (eval e X.env) (EP X pins σ Q) X.xe s:=⟨PE.run⟩
structure PT(X:Cx)(e:Expr)(t:TT):Prop where
 run:∀(pins:List (Addr × Obj)) (s:Shared) (σ : St) (H:Hp) (Q:Bool->Hp->Prop),Inv X pins σ H s->t σ H Q->wpAny (model X.prog X.w) X.A (isTrue e X.env (eval e X.env)) (TP X pins σ Q) X.xe s
instance {X:Cx}{e:Expr}{t:TT}:CoeFun (PT X e t) λ_=>∀(pins:List (Addr × Obj)) (s:Shared) (σ : St) (H:Hp) (Q:Bool->Hp->Prop),Inv X pins σ H s->t σ H Q->wpAny (model X.prog X.w) X.A (isTrue e X.env (eval e X.env)) (TP X pins σ Q) X.xe s:=⟨PT.run⟩
structure PW(X:Cx)(e:Expr)(t:TT):Prop where
 run:∀(whole:Sem Value) (pins:List (Addr × Obj)) (s:Shared) (σ : St) (H:Hp) (Q:Bool->Hp->Prop),Inv X pins σ H s->t σ H Q->wpAny (model X.prog X.w) X.A (isTrue e X.env whole) (TP X pins σ Q) X.xe s
noncomputable instance {X:Cx}{e:Expr}{t:TT}:CoeFun (PW X e t) λ_=>∀(whole:Sem Value) (pins:List (Addr × Obj)) (s:Shared) (σ : St) (H:Hp) (Q:Bool->Hp->Prop),Inv X pins σ H s->t σ H Q->wpAny (model X.prog X.w) X.A (isTrue e X.env whole) (TP X pins σ Q) X.xe s:=⟨PW.run⟩
theorem PW.pt{X:Cx}{e:Expr}{t:TT}(h:PW X e t):PT X e t:=⟨h.run _⟩
structure PA(X:Cx)(es:List Expr)(t:TA):Prop where
 run:∀(pos:Pos) (pins:List (Addr × Obj)) (s:Shared) (σ : St) (H:Hp) (Q:List V->Hp->Prop),Inv X pins σ H s->t σ H Q->wpAny (model X.prog X.w) X.A (spliced (backTo pos (starEach es X.env))) (AP X pins σ Q) X.xe s
noncomputable instance {X:Cx}{es:List Expr}{t:TA}:CoeFun (PA X es t) λ_=>∀(pos:Pos) (pins:List (Addr × Obj)) (s:Shared) (σ : St) (H:Hp) (Q:List V->Hp->Prop),Inv X pins σ H s->t σ H Q->wpAny (model X.prog X.w) X.A (spliced (backTo pos (starEach es X.env))) (AP X pins σ Q) X.xe s:=⟨PA.run⟩
structure PS(X:Cx)(st:Stmt)(t:TS):Prop where
 run:∀(pins:List (Addr × Obj)) (s:Shared) (σ : St) (H:Hp) (D:Ends),Inv X pins σ H s->t D σ H->wpAny (model X.prog X.w) X.A (exec st X.env) (SP X pins D) X.xe s
instance {X:Cx}{st:Stmt}{t:TS}:CoeFun (PS X st t) λ_=>∀(pins:List (Addr × Obj)) (s:Shared) (σ : St) (H:Hp) (D:Ends),Inv X pins σ H s->t D σ H->wpAny (model X.prog X.w) X.A (exec st X.env) (SP X pins D) X.xe s:=⟨PS.run⟩
structure jj(X:Cx)(st:List Stmt)(t:TS):Prop where
 run:∀(pins:List (Addr × Obj)) (s:Shared) (σ : St) (H:Hp) (D:Ends),Inv X pins σ H s->t D σ H->wpAny (model X.prog X.w) X.A (execs st X.env) (SP X pins D) X.xe s
instance {X:Cx}{st:List Stmt}{t:TS}:CoeFun (jj X st t) λ_=>∀(pins:List (Addr × Obj)) (s:Shared) (σ : St) (H:Hp) (D:Ends),Inv X pins σ H s->t D σ H->wpAny (model X.prog X.w) X.A (execs st X.env) (SP X pins D) X.xe s:=⟨jj.run⟩
theorem bD{α : Type}{t:Sem α}{Q Q' : α -> Shared->Prop}{M:Model}{A:Around}{E:Value->Shared->Prop}{s:Shared}(h:wpAny M A t Q E s)(hQ:∀a s,Q a s->Q' a s):wpAny M A t Q' E s:=wpAny_mono h hQ λ_ _ x=>x
section
variable {X:Cx}
def kj(i:Nat):TE:=λσ H Q=>∃v,σ[i]?=some (some v)/\Q v H
def tC(v:V):TE:=λ_ H Q=>Q v H
theorem GC{i:Nat}{x:Str}{pos:Pos}(hN:X.N[i]?=some x)(hv:Oh X.env.scope x)(hd:(x == ("__debug__" : Str))=false:=by decide) (hcd:(x == ("__classdict__" : Str))=false:=by decide):PE X (.Name x pos) (kj i):=by
 refine⟨λpins s σ H Q I h=>?_⟩
 obtain⟨v,e,h⟩:=h
 obtain⟨m,hn,hl⟩:=I.loc
 obtain⟨u,r,l⟩:=hl i x v hN e hv
 have fin:EP X pins σ Q u s:=⟨v,H,I,r,h⟩
 rcases l with⟨hk,hm⟩|⟨hk,c,hc,hcell⟩
 ·exact wpAny_Name (wpAny_loadName_local I.ok.kind hk hn hm fin) hd
 ·rcases hk with hk|hk
  ·exact wpAny_Name (wpAny_loadName_cell I.ok.kind hk hc hcell fin) hd
  ·exact wpAny_Name (wpAny_loadName_free I.ok.kind hk hc hcell fin hcd) hd
theorem aK{i j pos}:PE X (.Constant (.int i) j pos) (tC (.int i)):=⟨λ_ _ _ H _ I h=>wpAny_Constant_int ⟨.int i,H,I.tok _,⟨_,rfl⟩,h⟩⟩
theorem jk{b j pos}:PE X (.Constant (.bool b) j pos) (tC (.bl b)):=⟨λ_ _ _ H _ I h=>Constant_bool ⟨.bl b,H,I,rfl,h⟩⟩
theorem GD{j pos}:PE X (.Constant .none j pos) (tC .non):=⟨λ_ _ _ H _ I h=>Constant_none ⟨.non,H,I,rfl,h⟩⟩
theorem jC{x j pos}:PE X (.Constant (.str x) j pos) (tC (.str x)):=⟨λ_ _ _ H _ I h=>Calls.Constant_str ⟨.str x,H,I.tok _,⟨_,rfl⟩,h⟩⟩
def Gl(X:Cx)(x:Str):Prop:=X.env.kindOf x=some .globalImplicit
theorem GJ{E:Value->Shared->Prop}{pins:List (Addr × Obj)}{s:Shared}{σ : St}{H:Hp}{x:Str}{u:Value}{pos:Pos}{Q:Value->Shared->Prop}(I:Inv X pins σ H s)(hg:Gl X x)(hm:X.mg x=some u)(h:Q u s)
  (hd:(x == ("__debug__" : Str))=false:=by decide):wpAny (model X.prog X.w) X.A (eval (.Name x pos) X.env) Q E s :=
 Calls.Name_function_global I.ok.kind hg (Calls.loadGlobal_global (by rw[I.ok.glob]; exact I.mod.glob.keeps I.bk) hm h) hd
theorem tZ{E:Value->Shared->Prop}{pins:List (Addr × Obj)}{s:Shared}{σ : St}{H:Hp}{x:Str}{u:Value}{pos:Pos}{Q:Value->Shared->Prop}(I:Inv X pins σ H s)(hg:Gl X x)(hm:X.mg x=none)(hv:bootBuiltins x=some u)(h:Q u s)
  (hn:x ≠ "__name__" := by decide) (hd:(x == ("__debug__" : Str))=false:=by decide):wpAny (model X.prog X.w) X.A (eval (.Name x pos) X.env) Q E s:=by
 obtain⟨mb,h1,h2⟩:=I.mod.blt
 exact Calls.Name_function_global I.ok.kind hg (Calls.loadGlobal_builtin (by rw[I.ok.glob]; exact I.mod.glob.keeps I.bk) hm (by rw[I.ok.blt]; exact h1.keeps I.bk) ((h2 x hn).trans hv) h) hd
theorem YT{x:Str}{v:V}{u:Value}{pos:Pos}(hg:Gl X x)(hm:X.mg x=some u)(r:RelV v u)(hd:(x == ("__debug__" : Str))=false:=by decide):PE X (.Name x pos) (tC v) :=
 ⟨λ_ _ _ H _ I h=>GJ I hg hm ⟨v,H,I,r,h⟩ hd⟩
theorem YW{x:Str}{v:V}{u:Value}{pos:Pos}(hg:Gl X x)(hm:X.mg x=none)(hv:bootBuiltins x=some u)(r:RelV v u)(hn:x ≠ "__name__" := by decide) (hd:(x == ("__debug__" : Str))=false:=by decide):PE X (.Name x pos) (tC v) :=
 ⟨λ_ _ _ H _ I h=>tZ I hg hm hv ⟨v,H,I,r,h⟩ hn hd⟩
variable {a b:Expr}{ta tb:TE}{pos:Pos}
variable {tA ig:TT}{rest:List Expr}
def Ot(t u:TT):TT:=λσ H Q=>t σ H λc H1=>if c=true then u σ H1 Q else Q false H1
def Ou(t u:TT):TT:=λσ H Q=>t σ H λc H1=>if c=true then Q true H1 else u σ H1 Q
def Ov(t:TT):TT:=λσ H Q=>t σ H λc H1=>Q (!c) H1
theorem yq(ha:PT X a tA):PW X (.BoolOp .And [a] pos) tA:=by
 refine⟨λwh pins s σ H Q I h=>?_⟩
 refine isTrue_and (bD (ha pins s σ H Q I h) λc s1 e=>?_)
 cases c with
 |true=>exact isTrue_and_nil e
 |false=>exact e
theorem uc(ha:PT X a tA):PW X (.BoolOp .Or [a] pos) tA:=by
 refine⟨λwh pins s σ H Q I h=>?_⟩
 refine isTrue_or (bD (ha pins s σ H Q I h) λc s1 e=>?_)
 cases c with
 |false=>exact isTrue_or_nil e
 |true=>exact e
theorem ud(ha:PT X a tA)(hb:PW X (.BoolOp .And (b::rest) pos) ig):PW X (.BoolOp .And (a::b::rest) pos) (Ot tA ig):=by
 refine⟨λwh pins s σ H Q I h=>?_⟩
 refine isTrue_and (bD (ha pins s σ H _ I h) λc s1 ⟨H1,I1,q1⟩=>?_)
 cases c with
 |true=>exact hb wh pins s1 σ H1 Q I1 q1
 |false=>exact⟨H1,I1,q1⟩
theorem uf(ha:PT X a tA)(hb:PW X (.BoolOp .Or (b::rest) pos) ig):PW X (.BoolOp .Or (a::b::rest) pos) (Ou tA ig):=by
 refine⟨λwh pins s σ H Q I h=>?_⟩
 refine isTrue_or (bD (ha pins s σ H _ I h) λc s1 ⟨H1,I1,q1⟩=>?_)
 cases c with
 |true=>exact⟨H1,I1,q1⟩
 |false=>exact hb wh pins s1 σ H1 Q I1 q1
theorem iY(ha:PT X a tA):PT X (.UnaryOp .Not a pos) (Ov tA):=by
 refine⟨λpins s σ H Q I h=>?_⟩
 exact isTrue_not (ha pins s σ H (λc H1=>Q (!c) H1) I h)
def Ow(ta tb:TE):TE:=λσ H Q=>ta σ H λx H1=>∃c,x=.bl c/\if c=true then tb σ H1 Q else Q (.bl false) H1
def Ox(ta:TE):TE:=λσ H Q=>ta σ H λx H1=>∃c,x=.bl c/\Q (.bl (!c)) H1
theorem wj{op}{t:TE}(h:PE X a t):PE X (.BoolOp op [a] pos) t:=⟨λpins s σ H Q I hw=>BoolOp_one (h pins s σ H Q I hw)⟩
theorem ug(ha:PE X a ta)(hb:PE X (.BoolOp .And (b::rest) pos) tb):PE X (.BoolOp .And (a::b::rest) pos) (Ow ta tb):=by
 refine⟨λpins s σ H Q I h=>?_⟩
 refine BoolOp_and (bD (ha pins s σ H _ I h) λv s1 ⟨x,H1,I1,r1,q1⟩=>?_)
 obtain⟨c,rfl,q1⟩:=q1
 cases r1
 refine wpAny_truthy_bool ?_
 cases c with
 |true=>exact hb pins s1 σ H1 Q I1 q1
 |false=>exact⟨.bl false,H1,I1,rfl,q1⟩
theorem YX(ha:PE X a ta):PE X (.UnaryOp .Not a pos) (Ox ta):=by
 refine⟨λpins s σ H Q I h=>?_⟩
 refine UnaryOp_ (bD (ha pins s σ H _ I h) λv s1 ⟨x,H1,I1,r1,q1⟩=>?_)
 obtain⟨c,rfl,q1⟩:=q1
 cases r1
 exact not_of (wpAny_truthy_bool ⟨.bl (!c),H1,I1,rfl,q1⟩)
def Oz(t:TT)(ta tb:TE):TE:=λσ H Q=>t σ H λc H1=>if c=true then ta σ H1 Q else tb σ H1 Q
theorem YZ{c:Expr}(hc:PT X c tA)(ha:PE X a ta)(hb:PE X b tb):PE X (.IfExp c a b pos) (Oz tA ta tb):=by
 refine⟨λpins s σ H Q I h=>?_⟩
 refine wpAny_IfExp (bD (hc pins s σ H _ I h) λd s1 ⟨H1,I1,q1⟩=>?_)
 cases d with
 |true=>exact ha pins s1 σ H1 Q I1 q1
 |false=>exact hb pins s1 σ H1 Q I1 q1
end
def bZ(K:FZ)(H:Hp)(a:Addr)(xs:List V):Prop :=
 Rd H a (.lst xs) \/
  ∃(o:Obj) (its:Array Value) (n:Nat),K.lookup a=some o/\o.cls=.type "list" /\ o.dict=none/\o.data=.seq its n/\its.size<=sizeLine/\Vals xs its.toList
def cV(K:FZ)(H:Hp)(a:Addr)(xs:List V):Prop :=
 Rd H a (.tup xs) \/
  ∃(o:Obj) (its:Array Value) (n:Nat),K.lookup a=some o/\o.cls=.type "tuple" /\ o.data=.seq its n/\its.size<=sizeLine/\Vals xs its.toList
def Y0:Value->Option V
 |.none=>some .non
 |.bool b=>some (.bl b)
 |.int i _=>some (.int i)
 |.str x _=>some (.str x)
 |.bytes b _=>some (.yh b)
 |.float b _=>some (.flt b)
 |.ref a=>some (.ref a)
 |.type n=>some (.ty n)
 |_=>none
theorem RelV.abs{x:V}{u:Value}(r:RelV x u):Y0 u=some x:=by
 cases x with
 |non=>cases r; rfl
 |bl _=>cases r; rfl
 |int _=>obtain⟨t,rfl⟩:=r; rfl
 |str _=>obtain⟨t,rfl⟩:=r; rfl
 |yh _=>obtain⟨t,rfl⟩:=r; rfl
 |flt _=>obtain⟨t,rfl⟩:=r; rfl
 |ref _=>cases r; rfl
 |ty _=>cases r; rfl
theorem RelV.inj{x y:V}{u:Value}(r:RelV x u)(q:RelV y u):x=y:=Option.some.inj (r.abs.symm.trans q.abs)
theorem Vals.inj:∀{xs ys:List V} {us:List Value},Vals xs us->Vals ys us->xs=ys
 |_,_,_,.nil,.nil=>rfl
 |_,_,_,.cons r t,.cons r' t'=>by rw[r.inj r',Vals.inj t t']
section
variable {X:Cx}{pins:List (Addr × Obj)}{σ : St}{H:Hp}{s:Shared}{a:Addr}{xs ys:List V}
theorem bZ.of{K:FZ}(h:H a=some (.lst xs)):bZ K H a xs:=.inl (.inl h)
theorem cV.of{K:FZ}(h:H a=some (.tup xs)):cV K H a xs:=.inl (.inl h)
theorem Inv.list(I:Inv X pins σ H s)(h:bZ X.K H a xs):∃its:List Value,Vals xs its/\PlainL s.heap a its.toArray/\xs.length<=sizeLine:=by
 rcases h with h|⟨o,its,n,hk,hc,hd,hs,hz,r⟩
 ·obtain⟨z,its,n,r,e⟩:=h.ok I.hok
  exact⟨its,r,⟨_,n,e,rfl,rfl,rfl⟩,z⟩
 ·refine⟨its.toList,r,⟨o,n,I.jQ a o hk,hc,hd,by simpa using hs⟩,?_⟩
  have e:=r.length
  simp only[Array.length_toList]at e
  omega
theorem Inv.tuple(I:Inv X pins σ H s)(h:cV X.K H a xs):∃its:List Value,Vals xs its/\IsTup s.heap a its.toArray/\xs.length<=sizeLine:=by
 rcases h with h|⟨o,its,n,hk,hc,hs,hz,r⟩
 ·obtain⟨z,its,r,p⟩:=h.ok I.hok
  exact⟨its,r,p,z⟩
 ·refine⟨its.toList,r,⟨o,I.jQ a o hk,hc,n,by simpa using hs⟩,?_⟩
  have e:=r.length
  simp only[Array.length_toList]at e
  omega
theorem Inv.Bd(I:Inv X pins σ H s)(h:bZ X.K H a xs)(h':bZ X.K H a ys):xs=ys:=by
 obtain⟨its,r,⟨o,n,e,_,_,d⟩,_⟩:=I.list h
 obtain⟨its',r',⟨o',n',e',_,_,d'⟩,_⟩:=I.list h'
 rw[e]at e'; cases e'
 rw[d]at d'
 injection d' with d1 _
 have:its=its':=by simpa using congrArg Array.toList d1
 subst this
 exact r.inj r'
theorem Inv.OD(I:Inv X pins σ H s)(h:cV X.K H a xs)(h':cV X.K H a ys):xs=ys:=by
 obtain⟨its,r,⟨o,e,_,n,d⟩,_⟩:=I.tuple h
 obtain⟨its',r',⟨o',e',_,n',d'⟩,_⟩:=I.tuple h'
 rw[e]at e'; cases e'
 rw[d]at d'
 injection d' with d1 _
 have:its=its':=by simpa using congrArg Array.toList d1
 subst this
 exact r.inj r'
end
abbrev Cx.wish(X:Cx)(E:Value->Shared->Prop):Cx:={X with xe:=E }
abbrev Cx.kE(X:Cx):Cx:=X.wish λ_ _=>False
theorem Cx.Ok.wish{X:Cx}(ok:X.Ok)(E:Value->Shared->Prop):(X.wish E).Ok :=
 ⟨ok.mod,ok.kind,ok.glob,ok.blt,ok.above,ok.inj,ok.has,ok.cab,ok.hd,ok.frames,ok.stk,ok.Oi,ok.bs,ok.qW,ok.jB,ok.Ax,ok.lN,ok.tX⟩
theorem Cx.Ok.qX{X:Cx}{E:Value->Shared->Prop}(ok:(X.wish E).Ok):X.Ok :=
 ⟨ok.mod,ok.kind,ok.glob,ok.blt,ok.above,ok.inj,ok.has,ok.cab,ok.hd,ok.frames,ok.stk,ok.Oi,ok.bs,ok.qW,ok.jB,ok.Ax,ok.lN,ok.tX⟩
section
variable {X:Cx}{pins:List (Addr × Obj)}{σ : St}{H:Hp}{s:Shared}{E:Value->Shared->Prop}
theorem Inv.wish(I:Inv X pins σ H s)(E:Value->Shared->Prop):Inv (X.wish E) pins σ H s:=⟨I.ok.wish E,I.os,I.bare,I.base,I.loc,I.cell,I.free,I.m5,I.pin,I.hok,I.len⟩
theorem Inv.qX(I:Inv (X.wish E) pins σ H s):Inv X pins σ H s:=⟨I.ok.qX,I.os,I.bare,I.base,I.loc,I.cell,I.free,I.m5,I.pin,I.hok,I.len⟩
theorem SP.qX{D:Ends}{f:Flow}{s':Shared}(h:SP (X.wish E) pins D f s'):SP X pins D f s':=by
 cases f with
 |next=>obtain⟨σ',H',I,q⟩:=h; exact⟨σ',H',I.qX,q⟩
 |brk=>obtain⟨σ',H',I,q⟩:=h; exact⟨σ',H',I.qX,q⟩
 |cont=>obtain⟨σ',H',I,q⟩:=h; exact⟨σ',H',I.qX,q⟩
 |ret u=>obtain⟨v,σ',H',I,r,q⟩:=h; exact⟨v,σ',H',I.qX,r,q⟩
end
section
variable {X:Cx}{st:Stmt}{rest:List Stmt}{t u:TS}{e:Expr}{te:TE}{pos:Pos}
def Bf:TS:=λD σ H=>D.nx σ H
def oE(t u:TS):TS:=λD σ H=>t {D with nx:=u D } σ H
theorem dY:jj X [] Bf:=⟨λ_ _ σ H _ I h=>wpAny_execs_nil ⟨σ,H,I,h⟩⟩
theorem aW(h1:PS X st t)(h2:jj X rest u):jj X (st::rest) (oE t u):=by
 refine⟨λpins s σ H D I h=>?_⟩
 refine wpAny_execs_cons (bD (h1 pins s σ H {D with nx:=u D } I h) λf s1 q=>?_)
 cases f with
 |next =>
  obtain⟨σ',H',I',q⟩:=q
  exact h2 pins s1 σ' H' D I' q
 |ret v=>exact q
 |brk=>exact q
 |cont=>exact q
theorem aU(h1:PS X st t):jj X [st] t:=by
 refine⟨λpins s σ H D I h=>?_⟩
 refine wpAny_execs_cons (bD (h1 pins s σ H D I h) λf s1 q=>?_)
 cases f with
 |next=>exact wpAny_execs_nil q
 |ret v=>exact q
 |brk=>exact q
 |cont=>exact q
theorem Inv.quiet{pins:List (Addr × Obj)}{σ : St}{H:Hp}{s:Shared}(I:Inv X pins σ H s):interactive X.env=false:=by simp[interactive,I.ok.kind]
def yr(te:TE):TS:=λD σ H=>te σ H λ_ H1=>D.nx σ H1
theorem Y4(he:PE X e te)(hs:swapsWith e none pos.line X.env=pure false:=by rfl):PS X (.Expr e pos) (yr te):=by
 refine⟨λpins s σ H D I h=>?_⟩
 exact wpAny_Expr_any (bD (he pins s σ H _ I h) λv s1 ⟨x,H1,I1,r1,q1⟩=>⟨σ,H1,I1,q1⟩) I.quiet hs
def GK(te:TE):TS:=λD σ H=>te σ H D.rt
theorem bO(he:PE X e te):PS X (.Return (some e) pos) (GK te):=by
 refine⟨λpins s σ H D I h=>?_⟩
 exact wpAny_Return_some (bD (he pins s σ H _ I h) λv s1 ⟨x,H1,I1,r1,q1⟩=>⟨x,σ,H1,I1,r1,q1⟩)
def Bg(c:TT)(t u:TS):TS:=λD σ H=>c σ H λb H1=>if b=true then t D σ H1 else u D σ H1
theorem dZ{c:Expr}{a b:List Stmt}{tc:TT}(hc:PT X c tc)(ha:jj X a t)(hb:jj X b u):PS X (.If c a b pos) (Bg tc t u):=by
 refine⟨λpins s σ H D I h=>?_⟩
 refine wpAny_If (bD (hc pins s σ H _ I h) λd s1 ⟨H1,I1,q1⟩=>?_)
 cases d with
 |true=>exact ha pins s1 σ H1 D I1 q1
 |false=>exact hb pins s1 σ H1 D I1 q1
end
abbrev TG:=V->St->Hp->(St->Hp->Prop)->Prop
abbrev kJ:=List V->St->Hp->(St->Hp->Prop)->Prop
noncomputable def PG(X:Cx)(target:Expr)(t:TG):Prop :=
 ∀(pins:List (Addr × Obj)) (s:Shared) (σ : St) (H:Hp) (v:V) (u:Value) (Q:St->Hp->Prop),Inv X pins σ H s->RelV v u->t v σ H Q ->
  wpAny (model X.prog X.w) X.A (assign target X.env u) (λ_ s'=>∃σ' H',Inv X pins σ' H' s'/\Q σ' H') X.xe s
noncomputable def Bh(X:Cx)(ts:List Expr)(t:kJ):Prop :=
 ∀(pins:List (Addr × Obj)) (s:Shared) (σ : St) (H:Hp) (vs:List V) (us:List Value) (Q:St->Hp->Prop),Inv X pins σ H s->Vals vs us->t vs σ H Q ->
  wpAny (model X.prog X.w) X.A (assignInOrder ((assignEach ts X.env).map (·.2)) us) (λ_ s'=>∃σ' H',Inv X pins σ' H' s'/\Q σ' H') X.xe s
section
variable {X:Cx}{pos:Pos}
def dU(i:Nat):TG:=λv σ H Q=>Q (σ.set i (some v)) H
theorem Y5{i:Nat}{x:Str}(hN:X.N.Nodup)(hi:X.N[i]?=some x)(hx:Loc X.env.scope x)(hf:X.fn x=true\/X.env.scope.names.lookup x=some .local:=by first|exact .inl rfl|exact .inr rfl|assumption):PG X (.Name x pos) (dU i):=by
 intro pins s σ H v u Q I r h
 exact wpAny_assign_Name (Bc I hN hi hx r (λs' I'=>⟨_,H,I',h⟩) hf)
def qY:kJ:=λvs σ H Q=>vs=[]/\Q σ H
def jR(t:TG)(u:kJ):kJ:=λvs σ H Q=>∃v r,vs=v::r/\t v σ H λσ' H'=>u r σ' H' Q
theorem lO:Bh X [] qY:=by
 intro pins s σ H vs us Q I r h
 obtain⟨e,h⟩:=h
 subst e
 cases r
 exact assignInOrder_nil ⟨σ,H,I,h⟩
theorem fK{e:Expr}{es:List Expr}{t:TG}{u:kJ}(h1:PG X e t)(h2:Bh X es u)
  (hs:(assignEach (e::es) X.env).map (·.2)=assign e X.env::(assignEach es X.env).map (·.2):=by rfl):Bh X (e::es) (jR t u):=by
 intro pins s σ H vs us Q I r h
 obtain⟨v,vr,e1,h⟩:=h
 subst e1
 cases r with
 |cons r rr =>
  rw[hs]
  refine assignInOrder_cons (bD (h1 pins s σ H _ _ _ I r h) λ_ s1 ⟨σ1,H1,I1,q1⟩=>?_)
  exact h2 pins s1 σ1 H1 _ _ Q I1 rr q1
def qZ(K:FZ)(n:Nat)(t:kJ):TG:=λv σ H Q=>∃a xs,v=.ref a/\cV K H a xs/\xs.length=n/\t xs σ H Q
theorem lQ{es:List Expr}{k:Nat}{t:kJ}{n:Nat}(hc:X.calm=true)(h:Bh X es t)
  (hn:(assignEach es X.env).length=n:=by rfl) (hst:(assignEach es X.env).findIdx? (·.1)=none:=by rfl):PG X (.Tuple es k pos) (qZ X.K n t):=by
 intro pins s σ H v u Q I r hw
 obtain⟨a,xs,e1,hq,hl,hw⟩:=hw
 subst e1
 cases r
 obtain⟨its,rv,ht,hz⟩:=I.tuple hq
 refine assign_Tuple_tuple (I.ok.hd hc) ht (by simp[hn,<-hl,rv.length]) hst λh' hx=>?_
 have I1:Inv X pins σ H {s with heap:=h' }:=I.kept (t':=s.toks) λb o e=>hx b o (Nat.ne_of_lt (Heap.lt_size e)) e
 exact h pins _ σ H xs _ Q I1 (by simpa using rv) hw
def lR(te:TE)(g:TG):TS:=λD σ H=>te σ H λx H1=>g x σ H1 D.nx
theorem GP{tg e:Expr}{te:TE}{g:TG}(he:PE X e te)(hg:PG X tg g)(hs:swapsWithSole [tg] e pos.line X.env=pure false:=by rfl)(hw:swappedStores [tg] e X.env=pure none:=by rfl)
  (h1:(assignEach [tg] X.env).map (·.2)=[assign tg X.env]:=by rfl):PS X (.Assign [tg] e pos) (lR te g):=by
 refine⟨λpins s σ H D I h=>?_⟩
 refine wpAny_Assign_stores (bD (he pins s σ H _ I h) λv s1 ⟨x,H1,I1,r1,q1⟩=>?_) hs hw
 rw[h1]
 exact bD (hg pins s1 σ H1 x v _ I1 r1 q1) λ_ s2 q=>q
theorem OJ{i:Nat}{x:Str}{e:Expr}{te:TE}{pos':Pos}(hN:X.N.Nodup)(hi:X.N[i]?=some x)(hx:Loc X.env.scope x)(he:PE X e te)(hs:swapsWith e (some (.Name x pos')) pos.line X.env=pure false:=by rfl)(hf:X.fn x=true\/X.env.scope.names.lookup x=some .local:=by first|exact .inl rfl|exact .inr rfl|assumption) :
  PS X (.Assign [.Name x pos'] e pos) (lR te (dU i)):=by
 refine⟨λpins s σ H D I h=>?_⟩
 refine wpAny_Assign_Name (bD (he pins s σ H _ I h) λv s1 ⟨y,H1,I1,r1,q1⟩=>?_) hs
 exact Bc I1 hN hi hx r1 (λs2 I2=>⟨_,H1,I2,q1⟩) hf
def O1(i j:Nat)(ta:TA):TS:=λD σ H=>ta σ H λvs H1=>∃v w,vs=[v,w]/\D.nx ((σ.set i (some v)).set j (some w)) H1
theorem O2{i j:Nat}{x y:Str}{a b:Expr}{ta:TA}{px py pt:Pos}{kt k2 GQ}(hc:X.calm=true)(hN:X.N.Nodup)(hi:X.N[i]?=some x)(hj:X.N[j]?=some y)(hij:i≠j)
  (hx:X.env.scope.names.lookup x=some .local) (hy:X.env.scope.names.lookup y=some .local) (ha:PA X [a,b] ta)
  (hw:swappedStores [.Tuple [.Name x px,.Name y py] kt pt] (.Tuple [a,b] k2 GQ) X.env=pure (some [x,y]))
  (hs:swapsWithSole [.Tuple [.Name x px,.Name y py] kt pt] (.Tuple [a,b] k2 GQ) pos.line X.env=pure false:=by rfl) :
  PS X (.Assign [.Tuple [.Name x px,.Name y py] kt pt] (.Tuple [a,b] k2 GQ) pos) (O1 i j ta):=by
 refine⟨λpins s σ H D I h=>?_⟩
 rw[exec_Assign_arm]
 refine wpAny_bind (wpAny_standAt ?_)
 rw[hs]
 refine wpAny_bind (wpAny_pure ?_)
 rw[if_neg (by decide)]
 refine wpAny_bind (Tuple_ (bD (ha _ pins s σ H _ I h) λus s1 ⟨vs,H1,I1,r1,q1⟩=>?_))
 obtain⟨v,w,e1,q1⟩:=q1
 subst e1
 obtain⟨u1,u2,rfl,rv,uh⟩:∃u1 u2,us=[u1,u2]/\RelV v u1/\RelV w u2:=by
  cases r1 with
  |cons p q =>
   cases q with
   |cons p' q' =>
    cases q'
    exact⟨_,_,rfl,p,p'⟩
 refine wpAny_newObj_type ?_ (by show 2<=sizeLine; decide)
 have I2:Inv X pins σ H1 {s1 with heap:=s1.heap.push {cls:=.type "tuple",data:=.seq [u1,u2].toArray } }:=I1.kept (t':=s1.toks) λb o e=>Heap.get?_push_of_some _ e
 rw[hw]
 refine wpAny_bind (wpAny_pure ?_)
 show wpAny (model X.prog X.w) X.A (do rule "assign.swapped-stores"; let items <-unpackItems (.ref s1.heap.objs.size) 2 none; assignInOrder [λv=>bindName X.env y v,λv=>bindName X.env x v] items.reverse; pure Flow.next) _ _ _
 refine wpAny_bind (wpAny_rule (wpAny_bind (unpackItems_tuple (items:=#[u1,u2]) (I.ok.hd hc) (IsTup.new s1.heap _) λh' hx'=>?_)))
 have I3:=I2.kept (h':=h') (t':=s1.toks) λb o e=>hx' b o (Nat.ne_of_lt (Heap.lt_size e)) e
 show wpAny _ _ (assignInOrder [λv=>bindName X.env y v,λv=>bindName X.env x v] [u2,u1] >>= λ_=>pure Flow.next) _ _ _
 refine wpAny_bind (assignInOrder_cons (wpAny_bindName (Bc I3 hN hj (.inl hy) uh (λs2 I4=>?_) (.inr hy))))
 refine assignInOrder_cons (wpAny_bindName (Bc I4 hN hi (.inl hx) rv (λs3 I5=>assignInOrder_nil (wpAny_pure ?_)) (.inr hx)))
 rw[List.set_comm _ _ (Ne.symm hij)]at I5
 exact⟨_,H1,I5,q1⟩
end
section
variable {X:Cx}{pos:Pos}
def O3(c:TT)(tb:TS):TS:=λD σ H=>∃W:Nat->St->Hp->Prop,(∃m,W m σ H)/\∀m σ H,W m σ H ->
 c σ H λb H1=>if b=true then ∃N:St->Hp->Prop,(∀σ' H',N σ' H'->∃m',m'<m/\W m' σ' H')/\tb {D with nx:=N,ct:=N,bk:=D.nx } σ H1 else D.nx σ H1
theorem O4{c:Expr}{body:List Stmt}{tc:TT}{tb:TS}(hp:PassesOwn (model X.prog X.w) X.A X.env X.xe)(hc:PT X c tc)(hb:jj X body tb):PS X (.While c body [] pos) (O3 tc tb):=by
 refine⟨λpins s σ H D I h=>?_⟩
 obtain⟨W,⟨m0,w0⟩,turn⟩:=h
 refine wpAny_While (codeAny_whileLoop (λn s'=>∃σ' H',Inv X pins σ' H' s'/\W n σ' H') ?_ m0 ⟨σ,H,I,w0⟩)
 rintro n s1 ⟨σ1,H1,I1,w1⟩
 refine wpAny_passesOwn hp (bD (hc pins s1 σ1 H1 _ I1 (turn n σ1 H1 w1)) λb s2 ⟨H2,I2,q2⟩=>?_)
 cases b with
 |true =>
  obtain⟨N,hN,q2⟩:=q2
  rw[if_pos rfl]
  refine wpAny_passesOwn hp (bD (hb pins s2 σ1 H2 _ I2 q2) λf s3 q3=>?_)
  cases f with
  |next =>
   obtain⟨σ3,H3,I3,n3⟩:=q3
   obtain⟨m',hm,w3⟩:=hN σ3 H3 n3
   exact⟨m',hm,σ3,H3,I3,w3⟩
  |cont =>
   obtain⟨σ3,H3,I3,n3⟩:=q3
   obtain⟨m',hm,w3⟩:=hN σ3 H3 n3
   exact⟨m',hm,σ3,H3,I3,w3⟩
  |brk=>exact q3
  |ret v=>exact q3
 |false =>
  rw[if_neg Bool.false_ne_true]
  exact wpAny_execs_nil ⟨σ1,H2,I2,q2⟩
end
structure It where
 go:Nat->Hp->Prop
 rm:Nat->Hp->V->Hp->Prop
 stop:Nat->Hp->Prop
def d7(X:Cx)(pins:List (Addr × Obj))(H:Hp)(b:Addr):Prop :=
 H b=none/\b≠X.env.locals/\b∉X.fs/\(b∈X.ex\/X.s₀.heap.objs.size<=b)/\(∀x c,X.env.cells.lookup x=some c->c≠b)/\∀p∈X.pn++pins,p.1≠b
theorem Inv.oF{X:Cx}{pins:List (Addr × Obj)}{σ : St}{H H':Hp}{s:Shared}{b:Addr}(I:Inv X pins σ H s)(hb:s.heap.objs.size<=b)(hn:H' b=none):d7 X pins H' b:=by
 refine⟨hn,Nat.ne_of_gt (Nat.lt_of_lt_of_le I.lt hb),I.YQ hb,.inr (Nat.le_trans I.sz hb),λx c e z=>?_,λp hp z=>?_⟩
 ·obtain⟨v,q⟩:=I.cell x c e
  exact absurd (Nat.lt_of_lt_of_le q.lt (by rw[z]; exact hb)) (Nat.lt_irrefl _)
 ·exact absurd (Nat.lt_of_lt_of_le (Heap.lt_size (I.pin p hp).1) (by rw[z]; exact hb)) (Nat.lt_irrefl _)
structure Turn(P:Program)(w:World)(K:FZ)(tg:Expr)(J:It)(fp:List Addr)(it:Addr)(tn:Nat->Heap->Prop):Prop where
 mem:it∈fp
 obj:∀i h,tn i h->∀b∈fp,∃o,h.get? b=some o/\∀v,o.data ≠ .cell v
 keep:∀i h h',tn i h->(∀b∈fp,∀o,h.get? b=some o->h'.get? b=some o)->tn i h'
 item:∀(X:Cx),X.prog=P->X.w=w->X.K=K->X.calm=true->∀(i:Nat) (pins:List (Addr × Obj)) (s:Shared) (σ : St) (H:Hp) (E:Value->Shared->Prop),Inv X pins σ H s->(∀b∈fp,d7 X pins H b)->tn i s.heap->J.go i H ->
  wpAny (model P w) X.A (pyNext (.ref it)) (λr s1=>∃u,r=some u /\
   wpAny (model P w) X.A (letOwnedTupleGo tg (.ref it) u) (λ_ s2=>∃x H',Inv X pins σ H' s2/\RelV x u/\J.rm i H x H'/\tn (i+1) s2.heap/\∀b∈fp,H' b=none) E s1) E s
 done:∀(X:Cx),X.prog=P->X.w=w->X.K=K->X.calm=true->∀(i:Nat) (pins:List (Addr × Obj)) (s:Shared) (σ : St) (H:Hp) (E:Value->Shared->Prop),Inv X pins σ H s->(∀b∈fp,d7 X pins H b)->tn i s.heap->J.stop i H ->
  wpAny (model P w) X.A (pyNext (.ref it)) (λr s1=>r=none/\Inv X pins σ H s1) E s
 self:∀(A:Around) (i:Nat) (s:Shared) (Q:Value->Shared->Prop) (E:Value->Shared->Prop),tn i s.heap->Q (.ref it) s->wpAny (model P w) A (pyIter (.ref it)) Q E s
abbrev TI:=St->Hp->(It->Hp->Prop)->Prop
noncomputable def PIE(X:Cx)(pins:List (Addr × Obj))(σ : St)(tg:Expr)(R:It->Hp->Prop)(itv:Value)(s2:Shared):Prop :=
 ∃(it:Addr) (fp:List Addr) (tn:Nat->Heap->Prop) (J:It) (H':Hp),itv=.ref it/\Inv X pins σ H' s2/\Turn X.prog X.w X.K tg J fp it tn/\tn 0 s2.heap/\(∀b∈fp,d7 X pins H' b)/\R J H'
noncomputable def PI(X:Cx)(tg iter:Expr)(wi:TI):Prop :=
 ∀(pins:List (Addr × Obj)) (s:Shared) (σ : St) (H:Hp) (R:It->Hp->Prop),Inv X pins σ H s->wi σ H R ->
  wpAny (model X.prog X.w) X.A (eval iter X.env) (λv s1=>wpAny (model X.prog X.w) X.A (pyIter v) (PIE X pins σ tg R) X.xe s1) X.xe s
theorem GR{M:Model}{A:Around}{E:Value→Shared→Prop}{s:Shared}{tg:Expr}{it:Addr}{u:Value}{o:Obj}{n:String}{vs:Array Value}{Q:Unit→Shared→Prop}(ho:s.heap.get? it=some o)(hc:o.cls=.type n)(hd:o.data=.fields vs)
    (hn : ["enumerate", "zip", "dict_itemiterator", "dict_reverseitemiterator", "odict_iterator", "itertools.zip_longest", "itertools.pairwise"].contains n=false) (hQ:Q () s):wpAny M A (letOwnedTupleGo tg (.ref it) u) Q E s:=by
  unfold letOwnedTupleGo
  cases tg <;> first
    |exact wpAny_pure hQ
    | (cases u <;> first
        |exact wpAny_pure hQ
        | (refine wpAny_bind (wpAny_load ho ?_)
           rw[hc,hd]
           show wpAny M A (if(["enumerate", "zip", "dict_itemiterator", "dict_reverseitemiterator", "odict_iterator", "itertools.zip_longest", "itertools.pairwise"].contains n&&vs[0]? == some (rawInt _))=true then _ else _) Q E s
           rw[if_neg (by intro h; rw[hn,Bool.false_and]at h; cases h)]
           exact wpAny_pure hQ))
def GZ(K:FZ)(a:Addr):It :=
 ⟨λi H=>∃xs x,bZ K H a xs/\xs[i]?=some x,λi H x H'=>H'=H/\∀xs,bZ K H a xs->xs[i]?=some x,λi H=>∃xs,bZ K H a xs/\xs.length<=i⟩
def G3(K:FZ)(a:Addr):It :=
 ⟨λi H=>∃xs x,cV K H a xs/\xs[i]?=some x,λi H x H'=>H'=H/\∀xs,cV K H a xs->xs[i]?=some x,λi H=>∃xs,cV K H a xs/\xs.length<=i⟩
def kO(lo:Int)(n:Nat):It:=⟨λi _=>i<n,λi H x H'=>H'=H/\x=.int (lo+i),λi _=>n<=i⟩
theorem Y6{P:Program}{w:World}{K:FZ}{tg:Expr}(a it:Addr):Turn P w K tg (GZ K a) [it] it (λi h=>h.IsListIter it a i) where
 mem:=by simp
 obj:=λi h st b hb=>by
  have e:b=it:=by simpa using hb
  subst e
  obtain⟨o,e,c,d⟩:=st
  exact⟨o,e,λv z=>by rw[d]at z; cases z⟩
 keep:=λi h h' st k=>st.at λo e=>k it (by simp) o e
 item:=by
  intro X hP hw hK hc i pins s σ H E I hf st hg
  subst hP hw hK
  obtain⟨xs,x,hq,hx⟩:=hg
  obtain⟨its,rv,p,hz⟩:=I.list hq
  obtain⟨u,hu,ru⟩:=rv.get hx
  obtain⟨f0,f1,f2,f3,f4,f5⟩:=hf it (by simp)
  refine wpAny_pyNext_list_item st p.isList (x:=u) (by simpa using hu) λh' st' sb=>?_
  have I1:Inv X pins σ H {s with heap:=h' }:=I.turned (t':=s.toks) (λb o hb e=>(sb.2 b hb).trans e) f0 f1 f3 f4 f5
  obtain⟨o,e,c,d⟩:=id st'
  exact⟨u,rfl,GR (s:={s with heap:=h' }) e c d (by decide) ⟨x,H,I1,ru,⟨rfl,λys hy=>by rw[I.Bd hy hq]; exact hx⟩,st',λb hb=>(hf b hb).1⟩⟩
 done:=by
  intro X hP hw hK hc i pins s σ H E I hf st hg
  subst hP hw hK
  obtain⟨xs,hq,hx⟩:=hg
  obtain⟨its,rv,p,hz⟩:=I.list hq
  obtain⟨f0,f1,f2,f3,f4,f5⟩:=hf it (by simp)
  have hl:=rv.length
  exact wpAny_pyNext_list_end (I.ok.hd hc) st p.isList (by simp; omega) λh' eb=>⟨rfl,I.turned (t':=s.toks) (λb o hb e=>eb b o hb e) f0 f1 f3 f4 f5⟩
 self:=λ_ _ _ _ _ st h=>wpAny_pyIter_listiter st h
theorem Y7{P:Program}{w:World}{K:FZ}{tg:Expr}(a it:Addr):Turn P w K tg (G3 K a) [it] it (λi h=>h.IsTupleIter it a i) where
 mem:=by simp
 obj:=λi h st b hb=>by
  have e:b=it:=by simpa using hb
  subst e
  obtain⟨o,e,c,d⟩:=st
  exact⟨o,e,λv z=>by rw[d]at z; cases z⟩
 keep:=λi h h' st k=>st.at λo e=>k it (by simp) o e
 item:=by
  intro X hP hw hK hc i pins s σ H E I hf st hg
  subst hP hw hK
  obtain⟨xs,x,hq,hx⟩:=hg
  obtain⟨its,rv,p,hz⟩:=I.tuple hq
  obtain⟨u,hu,ru⟩:=rv.get hx
  obtain⟨f0,f1,f2,f3,f4,f5⟩:=hf it (by simp)
  refine wpAny_pyNext_tuple_item st (show s.heap.IsTuple a its.toArray from p) (x:=u) (by simpa using hu) λh' st' sb=>?_
  have I1:Inv X pins σ H {s with heap:=h' }:=I.turned (t':=s.toks) (λb o hb e=>(sb.2 b hb).trans e) f0 f1 f3 f4 f5
  obtain⟨o,e,c,d⟩:=id st'
  exact⟨u,rfl,GR (s:={s with heap:=h' }) e c d (by decide) ⟨x,H,I1,ru,⟨rfl,λys hy=>by rw[I.OD hy hq]; exact hx⟩,st',λb hb=>(hf b hb).1⟩⟩
 done:=by
  intro X hP hw hK hc i pins s σ H E I hf st hg
  subst hP hw hK
  obtain⟨xs,hq,hx⟩:=hg
  obtain⟨its,rv,p,hz⟩:=I.tuple hq
  obtain⟨f0,f1,f2,f3,f4,f5⟩:=hf it (by simp)
  have hl:=rv.length
  exact wpAny_pyNext_tuple_end (I.ok.hd hc) st (show s.heap.IsTuple a its.toArray from p) (by simp; omega) λh' eb=>⟨rfl,I.turned (t':=s.toks) (λb o hb e=>eb b o hb e) f0 f1 f3 f4 f5⟩
 self:=λ_ _ _ _ _ st h=>wpAny_pyIter_tupleiter st h
theorem Y8{P:Program}{w:World}{K:FZ}{tg:Expr}(it:Addr)(lo:Int)(n:Nat):Turn P w K tg (kO lo n) [it] it (λi h=>IsRangeIter h it (lo+(i:Nat)*1) ((n:Int)-(i:Nat)) 1) where
 mem:=by simp
 obj:=λi h st b hb=>by
  have e:b=it:=by simpa using hb
  subst e
  exact⟨_,st,λv z=>by
   have z':Data.fields _=Data.cell v:=z
   cases z'⟩
 keep:=λi h h' st k=>k it (by simp) _ st
 item:=by
  intro X hP hw hK hc i pins s σ H E I hf st hg
  subst hP hw hK
  obtain⟨f0,f1,f2,f3,f4,f5⟩:=hf it (by simp)
  have W:=Walks.range (prog:=X.prog) (w:=X.w) (I.ok.hd hc) it lo 1 n
  refine W.item i s _ _ hg st λv h' tk hv st' kk=>?_
  obtain⟨t,rfl⟩:=hv
  have I1:Inv X pins σ H {s with heap:=h',toks:=tk }:=I.turned (λb o hb e=>kk b o (by simpa using hb) e) f0 f1 f3 f4 f5
  refine⟨_,rfl,GR (s:={s with heap:=h',toks:=tk }) (n := "range_iterator") st' rfl rfl (by decide) ⟨.int (lo+i),H,I1,⟨t,?_⟩,⟨rfl,rfl⟩,st',λb hb=>(hf b hb).1⟩⟩
  rw[Int.mul_one]
 done:=by
  intro X hP hw hK hc i pins s σ H E I hf st hg
  subst hP hw hK
  obtain⟨f0,f1,f2,f3,f4,f5⟩:=hf it (by simp)
  exact wpAny_pyNext_range_end (I.ok.hd hc) st (by have:n<=i:=hg; omega) λh' eb=>⟨rfl,I.turned (t':=s.toks) (λb o hb e=>eb b o hb e) f0 f1 f3 f4 f5⟩
 self:=λ_ _ _ _ _ st h=>wpAny_pyIter_rangeiter st h
section
variable {X:Cx}{tg:Expr}
def O5(K:FZ)(tl:TE):TI:=λσ H R=>tl σ H λx H1=>∃a,x=.ref a/\(∃xs,bZ K H1 a xs)/\R (GZ K a) H1
def O6(K:FZ)(tl:TE):TI:=λσ H R=>tl σ H λx H1=>∃a,x=.ref a/\(∃xs,cV K H1 a xs)/\R (G3 K a) H1
theorem Y9{l:Expr}{tl:TE}(hl:PE X l tl):PI X tg l (O5 X.K tl):=by
 intro pins s σ H R I h
 refine bD (hl pins s σ H _ I h) λv s1 ⟨x,H1,I1,r1,q1⟩=>?_
 obtain⟨a,e,⟨xs,hq⟩,q⟩:=q1
 subst e
 cases r1
 obtain⟨its,rv,p,hz⟩:=I1.list hq
 refine wpAny_pyIter_list p.isList ?_
 refine⟨s1.heap.objs.size,[s1.heap.objs.size],_,_,H1,rfl,I1.kept (t':=s1.toks) λb o e=>Heap.get?_push_of_some _ e,Y6 a _,⟨_,Heap.get?_push_size _ rfl,rfl,rfl⟩,λb hb=>?_,q⟩
 have e:b=s1.heap.objs.size:=by simpa using hb
 subst e
 exact I1.oF (Nat.le_refl _) (I1.hok.fresh (Nat.le_refl _))
theorem Za{l:Expr}{tl:TE}(hl:PE X l tl):PI X tg l (O6 X.K tl):=by
 intro pins s σ H R I h
 refine bD (hl pins s σ H _ I h) λv s1 ⟨x,H1,I1,r1,q1⟩=>?_
 obtain⟨a,e,⟨xs,hq⟩,q⟩:=q1
 subst e
 cases r1
 obtain⟨its,rv,p,hz⟩:=I1.tuple hq
 refine wpAny_pyIter_tuple (show s1.heap.IsTuple a its.toArray from p) ?_
 refine⟨s1.heap.objs.size,[s1.heap.objs.size],_,_,H1,rfl,I1.kept (t':=s1.toks) λb o e=>Heap.get?_push_of_some _ e,Y7 a _,⟨_,Heap.get?_push_size _ rfl,rfl,rfl⟩,λb hb=>?_,q⟩
 have e:b=s1.heap.objs.size:=by simpa using hb
 subst e
 exact I1.oF (Nat.le_refl _) (I1.hok.fresh (Nat.le_refl _))
theorem Zb{pins:List (Addr × Obj)}{σ : St}{H:Hp}{s:Shared}{R:It->Hp->Prop}{E:Value->Shared->Prop}{lo hi:Int}{t u v:Tok}{tk:Nat}(I:Inv X pins σ H s)(h1 : -(2 ^ 62)<=lo)(h2:lo<2 ^ 62)(h3 : -(2 ^ 62)<=hi)(h4:hi<2 ^ 62)
  (q:R (kO lo (hi-lo).toNat) H):wpAny (model X.prog X.w) X.A (pyIter (.ref s.heap.objs.size)) (PIE X pins σ tg R) E {s with heap:=s.heap.push {cls:=.type "range",data:=.fields #[.int lo t,.int hi u,.int 1 v] },toks:=tk }:=by
 refine wpAny_pyIter_range (IsRange.new ..) (small_one h1 h2 h3 h4) ?_
 have I1:Inv X pins σ H {s with heap:=s.heap.push {cls:=.type "range",data:=.fields #[.int lo t,.int hi u,.int 1 v] },toks:=tk }:=I.kept λb o e=>Heap.get?_push_of_some _ e
 refine⟨(s.heap.push {cls:=.type "range",data:=.fields #[.int lo t,.int hi u,.int 1 v] }).objs.size,[(s.heap.push {cls:=.type "range",data:=.fields #[.int lo t,.int hi u,.int 1 v] }).objs.size],_,_,H,rfl,
  I1.kept (t':=tk) λb o e=>Heap.get?_push_of_some _ e,Y8 _ lo (hi-lo).toNat,?_,λb hb=>?_,q⟩
 ·have e1:lo+((0:Nat):Int)*1=lo:=by simp
  have e2:(((hi-lo).toNat:Nat):Int)-((0:Nat):Int)=Builtin.Range.rangeSize lo hi 1:=by rw[rangeSize_one]; split <;> omega
  show IsRangeIter _ _ (lo+((0:Nat):Int)*1) ((((hi-lo).toNat:Nat):Int)-((0:Nat):Int)) 1
  rw[e1,e2]
  exact Heap.get?_push_size _ rfl
 ·have e:b=(s.heap.push {cls:=.type "range",data:=.fields #[.int lo t,.int hi u,.int 1 v] }).objs.size:=by simpa using hb
  subst e
  exact I1.oF (Nat.le_refl _) (I1.hok.fresh (Nat.le_refl _))
def G4(ta:TA):TI:=λσ H R=>ta σ H λvs H1=>∃j:Int,vs=[.int j] /\ -(2 ^ 62)<=j/\j<2 ^ 62/\R (kO 0 j.toNat) H1
theorem Zc{a:Expr}{ta:TA}{p pos:Pos}(hg:Gl X "range") (hm:X.mg "range" = none) (ha:PA X [a] ta) (hs:starEach [a] X.env=[(false,eval a X.env)]:=by rfl):PI X tg (.Call (.Name "range" p) [a] [] pos) (G4 ta):=by
 intro pins s σ H R I h
 refine Call_ (tZ I hg hm boot_range (PyProof.Rows.callWith_type1 (bD (ha pos pins s σ H _ I h) λus s1 ⟨vs,H1,I1,r1,q1⟩=>?_) hs rfl))
 obtain⟨j,e,q1,q2,q⟩:=q1
 subst e
 cases r1 with
 |cons r rr =>
  cases rr
  obtain⟨t,rfl⟩:=r
  exact call_range_1 (Zb I1 (by omega) (by omega) q1 q2 (by simpa using q))
noncomputable def Bj(wi:TI)(g:TG)(tb:TS):TS:=λD σ H=>wi σ H λJ H1=>∃W:Nat->Nat->St->Hp->Prop,(∃m,W 0 m σ H1)/\∀i m σ H,W i m σ H ->
 (J.stop i H/\D.nx σ H)\/(J.go i H/\∃N:St->Hp->Prop,(∀σ' H',N σ' H'->∃m',m'<m/\W (i+1) m' σ' H')/\∀x H',J.rm i H x H'->g x σ H' λσ2 H2=>tb {D with nx:=N,ct:=N,bk:=D.nx } σ2 H2)
def Bl(fp:List Addr)(h:Heap):List (Addr × Obj):=fp.filterMap λb=>(h.get? b).map λo=>(b,o)
theorem Bm{fp:List Addr}{h:Heap}{b:Addr}{o:Obj}(hb:b∈fp)(e:h.get? b=some o):(b,o)∈Bl fp h:=List.mem_filterMap.mpr ⟨b,hb,by rw[e]; rfl⟩
theorem Zd{fp:List Addr}{h:Heap}{p:Addr × Obj}(hp:p∈Bl fp h):p.1∈fp/\h.get? p.1=some p.2:=by
 obtain⟨b,hb,e⟩:=List.mem_filterMap.mp hp
 cases q:h.get? b with
 |none=>rw[q]at e; cases e
 |some o =>
  rw[q]at e
  have e':(b,o)=p:=Option.some.inj e
  subst e'
  exact⟨hb,q⟩
theorem Inv.pinned{pins:List (Addr × Obj)}{σ : St}{H:Hp}{s:Shared}{fp:List Addr}(I:Inv X pins σ H s)(hf:∀b∈fp,d7 X pins H b)(ho:∀b∈fp,∃o,s.heap.get? b=some o/\∀v,o.data ≠ .cell v):Inv X (pins++Bl fp s.heap) σ H s :=
 I.Bb λp hp=>(List.mem_append.mp hp).elim (λz=>I.pin p (List.mem_append_right _ z)) λz=>by
  obtain⟨hb,e⟩:=Zd z
  obtain⟨f0,f1,f2,_⟩:=hf p.1 hb
  obtain⟨o,e',d⟩:=ho p.1 hb
  rw[e]at e'; cases e'
  exact⟨e,f0,f1,f2,d⟩
theorem Inv.Bo{pins pl:List (Addr × Obj)}{σ : St}{H:Hp}{s:Shared}(I:Inv X (pins++pl) σ H s):Inv X pins σ H s:=I.Bb λp hp=>I.pin p (List.mem_append_right _ (List.mem_append_left _ hp))
theorem jD{iter:Expr}{body:List Stmt}{wi:TI}{g:TG}{tb:TS}{pos:Pos}(hp:PassesOwn (model X.prog X.w) X.A X.env X.xe)(hc:X.calm=true)(hi:PI X tg iter wi)(hg:PG X tg g)(hb:jj X body tb)
  (hs:∀x,foldedSetIterable iter X.env x=pure x:=by intro _; rfl):PS X (.For tg iter body [] pos) (Bj wi g tb):=by
 refine⟨λpins s σ H D I h=>?_⟩
 refine wpAny_For (bD (hi pins s σ H _ I h) λv s1 h1=>bD h1 λitv s2 h2=>?_) hs
 obtain⟨it,fp,tn,J,H2,e,I2,T,st2,f2,W,⟨m0,w0⟩,turn⟩:=h2
 subst e
 -- what stays true of the iterator's objects through the loop
 have stat:∀{H':Hp},(∀b∈fp,H' b=none)->∀b∈fp,d7 X pins H' b:=λhn b hb=>⟨hn b hb,(f2 b hb).2⟩
 refine codeAny_forLoop_any (λn s'=>∃i σ' H',Inv X pins σ' H' s'/\tn i s'.heap/\(∀b∈fp,H' b=none)/\W i n σ' H') ?_ m0 ⟨0,σ,H2,I2,st2,λb hb=>(f2 b hb).1,w0⟩
 rintro n s3 ⟨i,σ3,H3,I3,st3,O7,w3⟩
 rcases turn i n σ3 H3 w3 with⟨stop,qn⟩|⟨go,N,hN,step⟩
 ·refine wpAny_passesOwn hp (bD (T.done X rfl rfl rfl hc i pins s3 σ3 H3 X.xe I3 (stat O7) st3 stop) λr s4 ⟨hr,I4⟩=>?_)
  subst hr
  exact wpAny_execs_nil ⟨σ3,H3,I4,qn⟩
 ·refine wpAny_passesOwn hp (bD (T.item X rfl rfl rfl hc i pins s3 σ3 H3 X.xe I3 (stat O7) st3 go) λr s4 ⟨u,hr,h4⟩=>?_)
  subst hr
  refine wpAny_passesOwn hp (bD h4 λ_ s5 ⟨x,H5,I5,r5,y5,oG,Bp⟩=>?_)
  have Ze:=I5.pinned (stat Bp) (T.obj _ _ oG)
  refine wpAny_passesOwn hp (bD (hg _ s5 σ3 H5 x u _ Ze r5 (step x H5 y5)) λ_ s6 ⟨σ6,H6,I6,q6⟩=>?_)
  refine wpAny_passesOwn hp (bD (hb _ s6 σ6 H6 _ I6 q6) λf s7 q7=>?_)
  have again:∀{σ7:St} {H7:Hp},Inv X (pins++Bl fp s5.heap) σ7 H7 s7->N σ7 H7->∃m,m<n/\∃i σ' H',Inv X pins σ' H' s7/\tn i s7.heap/\(∀b∈fp,H' b=none)/\W i m σ' H':=λ{σ7 H7} I7 n7=>by
   obtain⟨m',hm,w7⟩:=hN σ7 H7 n7
   refine⟨m',hm,i+1,σ7,H7,I7.Bo,T.keep _ _ _ oG λb hb o e=>(I7.pin (b,o) (List.mem_append_right _ (List.mem_append_right _ (Bm hb e)))).1,λb hb=>?_,w7⟩
   obtain⟨o,e,d⟩:=T.obj _ _ oG b hb
   exact(I7.pin (b,o) (List.mem_append_right _ (List.mem_append_right _ (Bm hb e)))).2.1
  cases f with
  |next=>obtain⟨σ7,H7,I7,n7⟩:=q7; exact again I7 n7
  |cont=>obtain⟨σ7,H7,I7,n7⟩:=q7; exact again I7 n7
  |brk=>obtain⟨σ7,H7,I7,q7⟩:=q7; exact⟨σ7,H7,I7.Bo,q7⟩
  |ret v=>obtain⟨x7,σ7,H7,I7,r7,q7⟩:=q7; exact⟨x7,σ7,H7,I7.Bo,r7,q7⟩
end
abbrev R2:=V->V->Hp->VK->Prop
noncomputable def cN(X:Cx)(f:Value->Value->Sem Value)(r:R2):Prop :=
 ∀(pins:List (Addr × Obj)) (s:Shared) (σ : St) (H:Hp) (x y:V) (v u:Value) (Q:VK),Inv X pins σ H s->RelV x v->RelV y u->r x y H Q ->
  wpAny (model X.prog X.w) X.A (f v u) (EP X pins σ Q) X.xe s
def G5(X:Cx)(f:Value->Sem Value)(r:V->Hp->VK->Prop):Prop :=
 ∀(pins:List (Addr × Obj)) (s:Shared) (σ : St) (H:Hp) (x:V) (v:Value) (Q:VK),Inv X pins σ H s->RelV x v->r x H Q ->
  wpAny (model X.prog X.w) X.A (f v) (EP X pins σ Q) X.xe s
noncomputable def iH(X:Cx)(f:Value)(r:List V->Hp->VK->Prop):Prop :=
 ∀(pins:List (Addr × Obj)) (s:Shared) (σ : St) (H:Hp) (xs:List V) (us:List Value) (Q:VK),Inv X pins σ H s->Vals xs us->r xs H Q ->
  wpAny (model X.prog X.w) X.A (call f us) (EP X pins σ Q) X.xe s
noncomputable def Zf(X:Cx)(r:V->Hp->(Bool->Hp->Prop)->Prop):Prop :=
 ∀(pins:List (Addr × Obj)) (s:Shared) (σ : St) (H:Hp) (x:V) (v:Value) (Q:Bool->Hp->Prop),Inv X pins σ H s->RelV x v->r x H Q ->
  wpAny (model X.prog X.w) X.A (truthy v) (TP X pins σ Q) X.xe s
def gD(r:R2)(ta tb:TE):TE:=λσ H Q=>ta σ H λx H1=>tb σ H1 λy H2=>r x y H2 Q
def yt(r:V->Hp->VK->Prop)(ta:TE):TE:=λσ H Q=>ta σ H λx H1=>r x H1 Q
def rI(C:Int->Int->Prop)(g:Int->Int->V):R2:=λx y H Q=>∃i j,x=.int i/\y=.int j/\C i j/\Q (g i j) H
def iu(g:Int->Int->V):R2:=λx y H Q=>∃i j,x=.int i/\y=.int j/\Q (g i j) H
def rU(g:Int->V):V->Hp->VK->Prop:=λx H Q=>∃i,x=.int i/\Q (g i) H
section
variable {X:Cx}{a b c:Expr}{ta tb tc:TE}{pos:Pos}
theorem G6(ha:PE X a ta)(hb:PE X b tb){pins:List (Addr × Obj)}{s:Shared}{σ : St}{H:Hp}{R:V->V->Hp->Prop}(I:Inv X pins σ H s)
  (h:ta σ H λx H1=>tb σ H1 λy H2=>R x y H2) {Q:Value->Shared->Prop} {f:Value->Value->Sem Value}
  (hf:∀v u s2 x y H2,Inv X pins σ H2 s2->RelV x v->RelV y u->R x y H2->wpAny (model X.prog X.w) X.A (f v u) Q X.xe s2) :
  wpAny (model X.prog X.w) X.A (eval a X.env) (λv s₁=>wpAny (model X.prog X.w) X.A (eval b X.env) (λu s₂=>wpAny (model X.prog X.w) X.A (f v u) Q X.xe s₂) X.xe s₁) X.xe s:=by
 refine bD (ha pins s σ H _ I h) λv s1 ⟨x,H1,I1,r1,q1⟩=>?_
 refine bD (hb pins s1 σ H1 _ I1 q1) λu s2 ⟨y,H2,I2,r2,q2⟩=>?_
 exact hf v u s2 x y H2 I2 r1 r2 q2
theorem aZ{op:Operator}{r:R2}(ho:cN X (binaryOp op) r)(ha:PE X a ta)(hb:PE X b tb):PE X (.BinOp a op b pos) (gD r ta tb):=by
 refine⟨λpins s σ H Q I h=>?_⟩
 exact wpAny_BinOp (G6 ha hb I h λv u s2 x y H2 I2 rx ry q=>ho pins s2 σ H2 x y v u Q I2 rx ry q)
theorem um{op:UnaryOp}{r:V->Hp->VK->Prop}(ho:G5 X (unaryOp op) r)(ha:PE X a ta):PE X (.UnaryOp op a pos) (yt r ta):=by
 refine⟨λpins s σ H Q I h=>?_⟩
 exact UnaryOp_ (bD (ha pins s σ H _ I h) λv s1 ⟨x,H1,I1,r1,q1⟩=>ho pins s1 σ H1 x v Q I1 r1 q1)
theorem Br{f:Value->Value->Sem Value}{C:Int->Int->Prop}{g:Int->Int->Int}
  (rule:∀(i j:Int) (t u:Tok) (s:Shared) (Q:Value->Shared->Prop) (E:Value->Shared->Prop),C i j->Q (.int (g i j) s.toks) {s with toks:=s.toks+1 }->wpAny (model X.prog X.w) X.A (f (.int i t) (.int j u)) Q E s) :
  cN X f (rI C λi j=>.int (g i j)):=by
 intro pins s σ H x y v u Q I rx ry h
 obtain⟨i,j,rfl,rfl,hc,q⟩:=h
 obtain⟨t,rfl⟩:=rx
 obtain⟨t',rfl⟩:=ry
 exact rule i j t t' s _ _ hc ⟨.int (g i j),H,I.tok _,⟨_,rfl⟩,q⟩
theorem O8{f:Value->Value->Sem Value}{g:Int->Int->Int}
  (rule:∀(i j:Int) (t u:Tok) (s:Shared) (Q:Value->Shared->Prop) (E:Value->Shared->Prop),Q (.int (g i j) s.toks) {s with toks:=s.toks+1 }->wpAny (model X.prog X.w) X.A (f (.int i t) (.int j u)) Q E s) :
  cN X f (iu λi j=>.int (g i j)):=by
 intro pins s σ H x y v u Q I rx ry h
 obtain⟨i,j,rfl,rfl,q⟩:=h
 obtain⟨t,rfl⟩:=rx
 obtain⟨t',rfl⟩:=ry
 exact rule i j t t' s _ _ ⟨.int (g i j),H,I.tok _,⟨_,rfl⟩,q⟩
theorem Bs{f:Value->Value->Sem Value}{g:Int->Int->Bool}
  (rule:∀(i j:Int) (t u:Tok) (s:Shared) (Q:Value->Shared->Prop) (E:Value->Shared->Prop),Q (.bool (g i j)) s->wpAny (model X.prog X.w) X.A (f (.int i t) (.int j u)) Q E s) :
  cN X f (iu λi j=>.bl (g i j)):=by
 intro pins s σ H x y v u Q I rx ry h
 obtain⟨i,j,rfl,rfl,q⟩:=h
 obtain⟨t,rfl⟩:=rx
 obtain⟨t',rfl⟩:=ry
 exact rule i j t t' s _ _ ⟨.bl (g i j),H,I,rfl,q⟩
def G7(i j:Int):Prop:=0<=j/\j<=1000000/\i.natAbs<2 ^ 64
theorem O9:cN X (binaryOp .Add) (iu λi j=>.int (i+j)):=O8 λ_ _ _ _ _ _ _ q=>add_int q
theorem rz:cN X (binaryOp .Sub) (iu λi j=>.int (i-j)):=O8 λ_ _ _ _ _ _ _ q=>sub_int q
theorem lU:cN X (binaryOp .Mod) (rI (λ_ j=>j≠0) λi j=>.int (i.fmod j)):=Br λ_ _ _ _ _ _ _ hc q=>mod_int' hc q
theorem Bu:cN X (binaryOp .Pow) (rI G7 λi j=>.int (i ^ j.toNat)):=Br λ_ _ _ _ _ _ _ hc q=>pow_int_small hc.1 hc.2.1 hc.2.2 q
theorem Zg{f:Value->Sem Value}{g:Int->Int}
  (rule:∀(i:Int) (t:Tok) (s:Shared) (Q:Value->Shared->Prop) (E:Value->Shared->Prop),Q (.int (g i) s.toks) {s with toks:=s.toks+1 }->wpAny (model X.prog X.w) X.A (f (.int i t)) Q E s) :
  G5 X f (rU λi=>.int (g i)):=by
 intro pins s σ H x v Q I rx h
 obtain⟨i,rfl,q⟩:=h
 obtain⟨t,rfl⟩:=rx
 exact rule i t s _ _ ⟨.int (g i),H,I.tok _,⟨_,rfl⟩,q⟩
theorem uo:G5 X (unaryOp .USub) (rU λi=>.int (-i)):=Zg λ_ _ _ _ _ q=>neg_int q
end
section
variable {X:Cx}{a b c:Expr}{ta tb tc:TE}{pos:Pos}
theorem Zh{pins:List (Addr × Obj)}{σ : St}{H:Hp}{s:Shared}{Q:VK}{k k':Bool}(I:Inv X pins σ H s)(q:Q (.bl k) H)(e:k=k'):EP X pins σ Q (.bool k') s:=by
 subst e
 exact⟨.bl k,H,I,rfl,q⟩
theorem Zi:cN X (compareOp .Lt) (iu λi j=>.bl (decide (i<j))):=Bs λ_ _ _ _ _ _ _ q=>lt_int q
theorem oH:cN X (compareOp .LtE) (iu λi j=>.bl (decide (i<=j))):=Bs λ_ _ _ _ _ _ _ q=>le_int q
theorem Pa:cN X (compareOp .Gt) (iu λi j=>.bl (decide (j<i))):=Bs λ_ _ _ _ _ _ _ q=>gt_int q
theorem G8:cN X (compareOp .GtE) (iu λi j=>.bl (decide (j<=i))):=Bs λ_ _ _ _ _ _ _ q=>ge_int q
theorem Zj:cN X (compareOp .IsNot) (λx y H Q=>y=.non/\Q (.bl (!decide (x=.non))) H):=by
 intro pins s σ H x y v u Q I rx ry h
 obtain⟨rfl,q⟩:=h
 cases ry
 refine isnot_none_gen (Zh I q ?_)
 cases x <;> first
  |(cases rx; rfl)
  |(obtain⟨t,rfl⟩:=rx; rfl)
theorem cN.or{f:Value->Value->Sem Value}{r r':R2}(h:cN X f r)(h':cN X f r'):cN X f (λx y H Q=>r x y H Q\/r' x y H Q):=by
 intro pins s σ H x y v u Q I rx ry q
 rcases q with q|q
 ·exact h pins s σ H x y v u Q I rx ry q
 ·exact h' pins s σ H x y v u Q I rx ry q
theorem eG(b:Expr){op:CmpOp}(h:op ≠ .In:=by decide)(h2:op ≠ .NotIn:=by decide):behindInMarks op b=false:=by
 have e1:(op == CmpOp.In)=false:=by cases op <;> first|rfl|exact absurd rfl h
 have e2:(op == CmpOp.NotIn)=false:=by cases op <;> first|rfl|exact absurd rfl h2
 cases b <;> simp[behindInMarks,e1,e2]
theorem rD{op:CmpOp}{r:R2}(ho:cN X (compareOp op) r)(ha:PE X a ta)(hb:PE X b tb)(hm:behindInMarks op b=false):PE X (.Compare a [op] [b] pos) (gD r ta tb):=by
 refine⟨λpins s σ H Q I h=>?_⟩
 exact wpAny_Compare1 (G6 ha hb I h λv u s2 x y H2 I2 rx ry q=>ho pins s2 σ H2 x y v u Q I2 rx ry q) hm
def G9(t:TE):TT:=λσ H Q=>t σ H λx H'=>∃k,x=.bl k/\Q k H'
theorem fX{op:CmpOp}{r:R2}(ho:cN X (compareOp op) r)(ha:PE X a ta)(hb:PE X b tb)(hm:behindInMarks op b=false):PT X (.Compare a [op] [b] pos) (G9 (gD r ta tb)):=by
 refine⟨λpins s σ H Q I h=>?_⟩
 refine wpAny_isTrue_Compare1 (bD (ha pins s σ H _ I h) λv s1 ⟨x,H1,I1,r1,q1⟩=>bD (hb pins s1 σ H1 _ I1 q1) λu s2 ⟨y,H2,I2,r2,q2⟩ =>
  bD (ho pins s2 σ H2 x y v u _ I2 r1 r2 q2) λc s3 ⟨z,H3,I3,r3,k,e,q3⟩=>?_) hm
 subst e
 cases r3
 exact wpAny_truthy_bool ⟨H3,I3,q3⟩
def Bv(r r':R2)(ta tb tc:TE):TE:=λσ H Q=>ta σ H λx H1=>tb σ H1 λy H2=>r x y H2 λz H3=>∃k,z=.bl k /\
 (if k=true then tc σ H3 λw' H4=>r' y w' H4 Q else Q (.bl false) H3)
theorem Hf{op op':CmpOp}{r r':R2}(ho:cN X (compareOp op) r)(ho':cN X (compareOp op') r')(ha:PE X a ta)(hb:PE X b tb)(hc:PE X c tc)
  (hm:lastMarks [op,op'] [b,c]=false:=by with_unfolding_all rfl):PE X (.Compare a [op,op'] [b,c] pos) (Bv r r' ta tb tc):=by
 refine⟨λpins s σ H Q I h=>?_⟩
 refine Compare_chain (bD (ha pins s σ H _ I h) λv s1 ⟨x,H1,I1,r1,q1⟩=>chain_link (bD (hb pins s1 σ H1 _ I1 q1) λu s2 ⟨y,H2,I2,r2,q2⟩ =>
  bD (ho pins s2 σ H2 x y v u _ I2 r1 r2 q2) λd s3 ⟨z,H3,I3,r3,k,e,q3⟩=>?_)) hm
 subst e
 cases r3
 refine wpAny_truthy_bool ?_
 cases k with
 |false=>exact ite_ff ⟨.bl false,H3,I3,rfl,q3⟩
 |true=>exact ite_tt (chain_last (bD (hc pins s3 σ H3 _ I3 q3) λw' s4 ⟨z',H4,I4,r4,q4⟩=>ho' pins s4 σ H4 y z' u w' Q I4 r2 r4 q4))
theorem Pb{op op':CmpOp}{r r':R2}(ho:cN X (compareOp op) r)(ho':cN X (compareOp op') r')(ha:PE X a ta)(hb:PE X b tb)(hc:PE X c tc)
  (hm:lastMarks [op,op'] [b,c]=false:=by with_unfolding_all rfl):PT X (.Compare a [op,op'] [b,c] pos) (G9 (Bv r r' ta tb tc)):=by
 refine⟨λpins s σ H Q I h=>?_⟩
 refine isTrue_chain (bD (ha pins s σ H _ I h) λv s1 ⟨x,H1,I1,r1,q1⟩=>test_link (bD (hb pins s1 σ H1 _ I1 q1) λu s2 ⟨y,H2,I2,r2,q2⟩ =>
  bD (ho pins s2 σ H2 x y v u _ I2 r1 r2 q2) λd s3 ⟨z,H3,I3,r3,k,e,q3⟩=>?_)) hm
 subst e
 cases r3
 refine wpAny_truthy_bool ?_
 cases k with
 |false =>
  obtain⟨k',e',q'⟩:=q3
  cases e'
  exact ite_ff ⟨H3,I3,q'⟩
 |true =>
  refine ite_tt (test_last (bD (hc pins s3 σ H3 _ I3 q3) λw' s4 ⟨z',H4,I4,r4,q4⟩=>bD (ho' pins s4 σ H4 y z' u w' _ I4 r2 r4 q4) λd' s5 ⟨z2,H5,I5,r5,k2,e2,q5⟩=>?_))
  subst e2
  cases r5
  exact wpAny_truthy_bool ⟨H5,I5,q5⟩
noncomputable def yu(K:FZ)(x:V)(H:Hp)(k:Bool):Prop :=
 match x with
 |.non=>k=false
 |.bl b=>k=b
 |.int i=>k=(i != 0)
 |.str y=>y.length<=sizeLine/\k=((y.length:Int) != 0)
 |.yh y=>y.size<=sizeLine/\k=((y.size:Int) != 0)
 |.ref p=>(∃xs,bZ K H p xs/\k = !xs.isEmpty)\/(∃xs,cV K H p xs/\k = !xs.isEmpty)\/∃kvs,H p=some (.dK kvs)/\k = !kvs.isEmpty
 |_=>False
theorem Zk{κ : Type}{kvs:List (κ × V)}{vs:List (κ × Value)}(r:KV kvs vs):(!vs.isEmpty) = !kvs.isEmpty:=by
 cases r <;> rfl
theorem Pg{xs:List V}{its:List Value}(r:Vals xs its):(!its.toArray.isEmpty) = !xs.isEmpty:=by
 cases r <;> simp
theorem wu:(sizeLine:Nat)<2 ^ 63:=by rw[sizeLine_eq]; decide
theorem Zm:Zf X (λx H Q=>∃k,yu X.K x H k/\Q k H):=by
 intro pins s σ H x v Q I rx h
 obtain⟨k,e,q⟩:=h
 have hl:=wu
 have hs:sizeLine=16777216:=sizeLine_eq
 cases x with
 |non =>
  cases rx
  have e':k=false:=e
  subst e'
  exact truthy_none ⟨H,I,q⟩
 |bl b =>
  cases rx
  have e':k=b:=e
  subst e'
  exact wpAny_truthy_bool ⟨H,I,q⟩
 |int i =>
  obtain⟨t,rfl⟩:=rx
  have e':k=(i != 0):=e
  subst e'
  exact PySem.P.truthy_int ⟨H,I,q⟩
 |str y =>
  obtain⟨t,rfl⟩:=rx
  obtain⟨hy,e'⟩:y.length<=sizeLine/\k=((y.length:Int) != 0):=e
  subst e'
  exact PySem.P.truthy_str (by omega) ⟨H,I.tok _,q⟩
 |yh y =>
  obtain⟨t,rfl⟩:=rx
  obtain⟨hy,e'⟩:y.size<=sizeLine/\k=((y.size:Int) != 0):=e
  subst e'
  exact PySem.W.truthy_bytes (by omega) ⟨H,I.tok _,q⟩
 |ref p =>
  cases rx
  have e':(∃xs,bZ X.K H p xs/\k = !xs.isEmpty)\/(∃xs,cV X.K H p xs/\k = !xs.isEmpty)\/∃kvs,H p=some (.dK kvs)/\k = !kvs.isEmpty:=e
  rcases e' with⟨xs,hx,e'⟩|⟨xs,hx,e'⟩|⟨kvs,hx,e'⟩
  ·subst e'
   obtain⟨its,r,pl,hz⟩:=I.list hx
   have hlen:=r.length
   exact wpAny_truthy_list pl.isList (by simp only[List.size_toArray]; omega) ⟨H,I.tok _,by rw[Pg r]; exact q⟩
  ·subst e'
   obtain⟨its,r,pl,hz⟩:=I.tuple hx
   have hlen:=r.length
   exact truthy_tuple pl (by simp only[List.size_toArray]; omega) ⟨H,I.tok _,by rw[Pg r]; exact q⟩
  ·subst e'
   obtain⟨hz,hS,vs,r,m⟩:kvs.length<=sizeLine/\(p == sysModules)=false/\∃vs,KV kvs vs/\s.heap.DictOf (Gx X.prog X.w) p vs:=I.hok p _ hx
   have hlen:kvs.length=vs.length:=Paired.length r
   exact wpAny_truthy_dict hS m (by omega) ⟨H,I.tok _,by rw[Zk r]; exact q⟩
 |_=>exact(show False from e).elim
theorem gH(ha:PE X a ta)(he:∀whole,isTrue a X.env whole=(do let v <-whole; standAt a.pos; holding [v] (truthy v))) :
  PT X a (λσ H Q=>ta σ H λx H'=>∃k,yu X.K x H' k/\Q k H'):=by
 refine⟨λpins s σ H Q I h=>?_⟩
 exact isTrue_plain (bD (ha pins s σ H _ I h) λv s1 ⟨x,H1,I1,r1,q1⟩=>Zm pins s1 σ H1 x v Q I1 r1 q1) (he _)
theorem Zn:cN X (binaryOp .Add) (λx y H Q=>∃i j,x=.str i/\y=.str j/\i.length+j.length<=sizeLine/\Q (.str (i++j)) H):=by
 intro pins s σ H x y v u Q I rx ry h
 obtain⟨i,j,rfl,rfl,hz,q⟩:=h
 obtain⟨t,rfl⟩:=rx
 obtain⟨t',rfl⟩:=ry
 exact add_str (λt' tk=>⟨.str (i++j),H,I.tok _,⟨_,rfl⟩,q⟩) hz
theorem vals1{x:V}{us:List Value}(r:Vals [x] us):∃u,us=[u]/\RelV x u:=by
 cases r with
 |cons r1 r2=>cases r2; exact⟨_,rfl,r1⟩
theorem vals2{x y:V}{us:List Value}(r:Vals [x,y] us):∃u w',us=[u,w']/\RelV x u/\RelV y w':=by
 cases r with
 |cons r1 r2 =>
  cases r2 with
  |cons r3 r4=>cases r4; exact⟨_,_,rfl,r1,r3⟩
theorem Hg:iH X (.builtin "abs") (λxs H Q=>∃i,xs=[.int i]/\Q (.int (if i<0 then -i else i)) H):=by
 intro pins s σ H xs us Q I r h
 obtain⟨i,rfl,q⟩:=h
 obtain⟨u,rfl,t,rfl⟩:=vals1 r
 exact call_abs_int λu tk=>⟨.int (if i<0 then -i else i),H,I.tok _,⟨_,rfl⟩,q⟩
end
structure Zo(h:Heap)(x dx C:Addr)(mA:Str->Option Value):Prop where
 obj:h.get? x=some (PySem.W.instObj C dx)
 ns:h.Ns1 dx mA
 ne:dx≠x
section
variable {P:Program}{w:World}{H H':Hp}{h h':Heap}{a C dx:Addr}{fs fs':List (Str × V)}
theorem Hh(hok:eY P w H h)(e:H a=some (.ins C dx fs)):∃mA,Zo h a dx C mA/\(∀f,Gy (fs.lookup f) (mA f))/\PySem.Within mA (fs.map (·.1))/\fs.length<=1000/\H dx=some (.own a):=by
 obtain⟨d,z,ne,ob,mA,n,r,q⟩:=(show jA P w H h a (.ins C dx fs)from hok a _ e)
 exact⟨mA,⟨ob,n,ne⟩,r,q,z,d⟩
end
structure fL(k:Nat)(A:Around):Prop where
 hd:A.handled=none
 dp:A.depth+3*k+5<recursionLimit
 un:A.units+16*k+200<cLine
 gd:A.guards=some []:=by rfl
theorem fL.mono{j k:Nat}{A:Around}(r:fL k A)(h:j<=k):fL j A:=⟨r.hd,by have:=r.dp; omega,by have:=r.un; omega,r.gd⟩
theorem fL.deeper{k:Nat}{A:Around}(r:fL (k+1) A)(env:Env):fL k (A.deeper env) :=
 ⟨r.hd,by have:=r.dp; show A.depth+1+3*k+5<_; omega,by have:=r.un; show A.units+3+16*k+200<_; omega,r.gd⟩
theorem fL.depth{k:Nat}{A:Around}(r:fL k A):A.depth<recursionLimit:=by have:=r.dp; omega
theorem fL.units{k:Nat}{A:Around}(r:fL k A):A.units+64<cLine:=by have:=r.un; omega
def kW:TA:=λ_ H Q=>Q [] H
def kY(ta:TE)(tr:TA):TA:=λσ H Q=>ta σ H λx H1=>tr σ H1 λxs H2=>Q (x::xs) H2
section
variable {X:Cx}{e:Expr}{es:List Expr}{te:TE}{t:TA}{pos:Pos}
theorem aB:PA X [] kW:=⟨λ_ _ _ _ H Q I h=>Calls.spliced_nil ⟨[],H,I,.nil,h⟩⟩
theorem oJ(ha:PE X e te)(hr:PA X es t)(hs:starEach (e::es) X.env=(false,eval e X.env)::starEach es X.env:=by rfl):PA X (e::es) (kY te t):=by
 refine⟨λpos pins s σ H Q I h=>?_⟩
 rw[hs]
 show wpAny _ _ (spliced ((false,eval e X.env)::backTo pos (starEach es X.env))) _ _ s
 refine Calls.spliced_cons (bD (ha pins s σ H _ I h) λu s1 ⟨x,H1,I1,r1,q1⟩=>?_)
 exact bD (hr pos pins s1 σ H1 _ I1 q1) λus s2 ⟨xs,H2,I2,r2,q2⟩=>⟨x::xs,H2,I2,.cons r1 r2,q2⟩
def Ph(t:TA):TE:=λσ H Q=>t σ H λxs H1=>xs.length<=sizeLine/\∀p,H1 p=none->Q (.ref p) (upd H1 p (.tup xs))
def Pk(t:TA):TE:=λσ H Q=>t σ H λxs H1=>xs.length<=sizeLine/\∀p,H1 p=none->Q (.ref p) (upd H1 p (.lst xs))
theorem oK{x1}(h:PA X es t):PE X (.Tuple es x1 pos) (Ph t):=by
 refine⟨λpins s σ H Q I hq=>?_⟩
 refine wpAny_Tuple_spliced (bD (h pos pins s σ H _ I hq) λus s1 ⟨xs,H1,I1,r,z,q⟩=>⟨by rw[<-r.length]; exact z,?_⟩)
 have hf:H1 s1.heap.objs.size=none:=I1.hok.fresh (Nat.le_refl _)
 refine⟨.ref s1.heap.objs.size,upd H1 s1.heap.objs.size (.tup xs),I1.laid (t':=s1.toks) (λb u e=>Heap.get?_push_of_some _ e) (Nat.le_refl _) ?_,rfl,q _ hf⟩
 exact⟨z,us,r,⟨_,Heap.get?_push_size _ rfl,rfl,_,rfl⟩⟩
theorem oM(h:PA X es t):PE X (.List es pos) (Pk t):=by
 refine⟨λpins s σ H Q I hq=>?_⟩
 refine wpAny_List_spliced (bD (h pos pins s σ H _ I hq) λus s1 ⟨xs,H1,I1,r,z,q⟩=>⟨by rw[<-r.length]; exact z,?_⟩)
 have hf:H1 s1.heap.objs.size=none:=I1.hok.fresh (Nat.le_refl _)
 refine⟨.ref s1.heap.objs.size,upd H1 s1.heap.objs.size (.lst xs),I1.laid (t':=s1.toks) (λb u e=>Heap.get?_push_of_some _ e) (Nat.le_refl _) ?_,rfl,q _ hf⟩
 exact⟨z,us,0,r,Heap.get?_push_size _ rfl⟩
end
abbrev Sp:=List V->Hp->VK->XK->Prop
abbrev jT:=List Env->Hp->Shared->XK->Value->Shared->Prop
structure Bw(P:Program)(w:World)(K:FZ)(mg:Str->Option Value)(base:Heap)(A:Around)(outer:List Env)(s:Shared)(H:Hp):Prop where
 frames:A.frames=some outer
 mod:Mod K mg base
 bs:∀b o,base.get? b=some o->s.heap.get? b=some o/\H b=none
 qW:base.objs.size<=s.heap.objs.size
 lN:s.heap.FunFrames base outer
 tX:∀b∈frs outer,H b=none
 hok:eY P w H s.heap
 bare:AllBare s.gens
def CE(outer:List Env)(P:Program)(w:World)(H:Hp)(s:Shared)(Q:VK)(u:Value)(s':Shared):Prop :=
 ∃v H',s'.os=s.os/\AllBare s'.gens/\Un (frs outer) [] H H' s.heap s'.heap/\eY P w H' s'.heap/\RelV v u/\Q v H'
def CR(CX:jT)(outer:List Env)(P:Program)(w:World)(H:Hp)(s:Shared)(Q:VK)(E:XK)(r:Result)(s':Shared):Prop :=
 match r with
 |.ok (.ret u)=>CE outer P w H s Q u s'
 |.ok _=>False
 |.error e=>CX outer H s E e s'
structure kZ(P:Program)(w:World)(K:FZ)(mg:Str->Option Value)(base:Heap)(CX:jT)(k:Nat)(f:Addr)(fd:FuncData)(ps:List Str)(sp:Sp):Prop where
 len:∀vs H Q E,sp vs H Q E->vs.length=ps.length
 run:∀(A:Around) (outer:List Env) (s:Shared) (H:Hp) (args:Args) (us:List Value) (vs:List V) (Q:VK) (E:XK),fL k A->Bw P w K mg base A outer s H->BindsTo s fd args (ps.zip us)->Vals vs us->sp vs H Q E ->
  codeAny (model P w) A (.call (.ref f) args) (CR CX outer P w H s Q E) s
theorem kZ.mono{P:Program}{w:World}{K:FZ}{mg:Str->Option Value}{base:Heap}{CX:jT}{j k:Nat}{f:Addr}{fd:FuncData}{ps:List Str}{sp:Sp}(F:kZ P w K mg base CX j f fd ps sp)(h:j<=k) :
  kZ P w K mg base CX k f fd ps sp:=⟨F.len,λA outer s H args us vs Q E hr=>F.run A outer s H args us vs Q E (hr.mono h)⟩
theorem kZ.imp{P:Program}{w:World}{K:FZ}{mg:Str->Option Value}{base:Heap}{CX:jT}{k:Nat}{f:Addr}{fd:FuncData}{ps:List Str}{sp Pn:Sp}(F:kZ P w K mg base CX k f fd ps sp)
  (h:∀vs H Q E,Pn vs H Q E->sp vs H Q E):kZ P w K mg base CX k f fd ps Pn :=
 ⟨λvs H Q E q=>F.len vs H Q E (h _ _ _ _ q),λA outer s H args us vs Q E hr he hb hv hs=>F.run A outer s H args us vs Q E hr he hb hv (h _ _ _ _ hs)⟩
section
variable {X:Cx}{pins:List (Addr × Obj)}{σ : St}{H:Hp}{s s':Shared}
theorem Inv.env0(I:Inv X pins σ H s):Bw X.prog X.w X.K X.mg X.base X.A X.stack s H :=
 ⟨I.ok.frames,I.ok.mod,I.bs,Nat.le_trans I.ok.qW I.sz,I.stack,I.Az,I.hok,I.bare⟩
theorem Inv.after{Q:VK}{u:Value}(I:Inv X pins σ H s)(h:CE X.stack X.prog X.w H s Q u s'):EP X pins σ Q u s':=by
 obtain⟨v,H',os,bare,un,hok,r,q⟩:=h
 obtain⟨hh,g,d,t,os'⟩:=s'
 obtain rfl:os'=s.os:=os
 exact⟨v,H',I.call (h':=hh) (g':=g) (d':=d) (t':=t) (ch:=[]) un hok bare (λb z=>absurd z (by simp)),r,q⟩
end
def rE(sp:Sp)(rF:List V)(E:XK)(t:TA):TE:=λσ H Q=>t σ H λvs H1=>sp (vs++rF) H1 Q E
def Binds(K:FZ)(fd:FuncData)(ps:List Str)(ds:List Value):Prop :=
 ∀(s:Shared) (us:List Value),K.In s.heap->(us++ds).length=ps.length->BindsTo s fd ⟨us,[]⟩ (ps.zip (us++ds))
theorem Binds.all{K:FZ}{fd:FuncData}{ps:List Str}(h:∀us:List Value,us.length=ps.length->bindArgs fd ⟨us,[]⟩=pure (ps.zip us)):Binds K fd ps []:=λs us _ hl=>by
 rw[List.append_nil]at hl ⊢
 exact .of_eq (h us hl)
def Passes(CX:jT)(X:Cx)(E:XK):Prop:=∀(pins:List (Addr × Obj)) (σ : St) (H:Hp) (s:Shared) (e:Value) (s':Shared),Inv X pins σ H s->CX X.stack H s E e s'->X.xe e s'
section
variable {X:Cx}{CX:jT}{k:Nat}{f C:Addr}{fd:FuncData}{ps:List Str}{sp:Sp}{rF:List V}{ds:List Value}{E:XK}{x m:Str}{p pos apos:Pos}{e o:Expr}{es:List Expr}{ta:TE}{t:TA}
theorem Zq{pins:List (Addr × Obj)}{σ : St}{H:Hp}{s:Shared}{Q:VK}{us:List Value}{vs:List V}(F:kZ X.prog X.w X.K X.mg X.base CX k f fd ps sp)(hr:fL k X.A)(hb:Binds X.K fd ps ds)(hd:Vals rF ds)(hx:Passes CX X E)
  (I:Inv X pins σ H s) (r:Vals vs us) (h:sp (vs++rF) H Q E):wpAny (model X.prog X.w) X.A (call (.ref f) us) (EP X pins σ Q) X.xe s:=by
 have r2:Vals (vs++rF) (us++ds):=r.append hd
 have hl:(us++ds).length=ps.length:=by rw[<-r2.length]; exact F.len _ _ _ _ h
 refine wpAny_call (codeAny_mono (F.run X.A X.stack s H ⟨us,[]⟩ (us++ds) (vs++rF) Q E hr I.env0 (hb s us I.jQ hl) r2 h) λr s' hq=>?_)
 cases r with
 |error e=>exact hx pins σ H s e s' I hq
 |ok fl =>
  cases fl with
  |ret u=>exact I.after hq
  |next=>exact False.elim hq
  |brk=>exact False.elim hq
  |cont=>exact False.elim hq
theorem Zr(F:kZ X.prog X.w X.K X.mg X.base CX k f fd ps sp)(hr:fL k X.A)(hg:Gl X x)(hm:X.mg x=some (.ref f))(hk:PySem.W.keepIn X.K (.ref f)=true)(hb:Binds X.K fd ps ds)(hd:Vals rF ds)(hx:Passes CX X E)
  (ha:PA X (e::es) t) (hdb:(x == ("__debug__" : Str))=false:=by decide) (he:starEach (e::es) X.env=(false,eval e X.env)::starEach es X.env:=by rfl) (hpl:(backTo pos (starEach es X.env)).any (·.1)=false:=by rfl) :
  PE X (.Call (.Name x p) (e::es) [] pos) (rE sp rF E t):=by
 refine⟨λpins s σ H Q I h=>?_⟩
 refine wpAny_Call_Name_kw (GJ I hg hm ?_ hdb)
 refine PySem.W.callWith_K (h₀ := X.base) I.ok.mod.Gz hk (bD (ha pos pins s σ H _ I h) λus s1 ⟨vs,H1,I1,r,q⟩=>⟨I1.jQ,?_⟩) he hpl
 exact Zq F hr hb hd hx I1 r q
end
structure rG(N P:List Str)(sc:Scope):Prop where
 kind:sc.kind=.function
 co:sc.isCoroutine=false
 gen:sc.isGenerator=false
 nd:N.Nodup
 pre:N.take P.length=P
 par:∀x∈P,sc.names.lookup x=some .local\/sc.names.lookup x=some .cell
 Hi:∀y∈sc.names,y.2 ≠ .free
theorem Pq{kindOf:Str->Option NameKind}{x:Str}:∀{binds:List (Str × Value)} {m:Str->Option Value},(∀v,(x,v)∉binds)->bindL kindOf binds m x=m x
 | [],_,_=>rfl
 |(n,v)::r,m,h=>by
  unfold bindL
  rw[Pq λw hw=>h w (List.mem_cons_of_mem _ hw)]
  split
  ·have:x≠n:=by rintro rfl; exact h v List.mem_cons_self
   simp[this]
  ·rfl
theorem Pu{kindOf:Str->Option NameKind}{x:Str}:∀{binds:List (Str × Value)} {m:Str->Option Value},(∀v,(x,v)∉binds)->bindC kindOf binds m x=m x
 | [],_,_=>rfl
 |(n,v)::r,m,h=>by
  unfold bindC
  rw[Pu λw hw=>h w (List.mem_cons_of_mem _ hw)]
  split
  ·rfl
  ·have:x≠n:=by rintro rfl; exact h v List.mem_cons_self
   simp[this]
theorem Px{kindOf:Str->Option NameKind}{x:Str}{v:Value}:∀{P:List Str} {vs:List Value} {i:Nat} {m:Str->Option Value},P.Nodup->P[i]?=some x->vs[i]?=some v->kindOf x=some .local ->
  bindL kindOf (P.zip vs) m x=some v
 | [],_,_,_,_,h,_,_=>by simp at h
 |_::_,[],_,_,_,_,h,_=>by simp at h
 |p::P,w::vs,0,m,nd,h1,h2,hk=>by
  simp at h1 h2; subst h1; subst h2
  show bindL kindOf ((p,w)::P.zip vs) m p=_
  unfold bindL
  rw[Pq λv hv=>(List.nodup_cons.mp nd).1 (List.of_mem_zip hv).1,if_pos hk]
  simp
 |p::P,w::vs,i+1,m,nd,h1,h2,hk=>by
  show bindL kindOf ((p,w)::P.zip vs) m x=_
  unfold bindL
  exact Px (i:=i) (List.nodup_cons.mp nd).2 (by simpa using h1) (by simpa using h2) hk
theorem Py{kindOf:Str->Option NameKind}{x:Str}{v:Value}:∀{P:List Str} {vs:List Value} {i:Nat} {m:Str->Option Value},P.Nodup->P[i]?=some x->vs[i]?=some v->kindOf x≠some .local ->
  bindC kindOf (P.zip vs) m x=some v
 | [],_,_,_,_,h,_,_=>by simp at h
 |_::_,[],_,_,_,_,h,_=>by simp at h
 |p::P,w::vs,0,m,nd,h1,h2,hk=>by
  simp at h1 h2; subst h1; subst h2
  show bindC kindOf ((p,w)::P.zip vs) m p=_
  unfold bindC
  rw[Pu λv hv=>(List.nodup_cons.mp nd).1 (List.of_mem_zip hv).1,if_neg hk]
  simp
 |p::P,w::vs,i+1,m,nd,h1,h2,hk=>by
  show bindC kindOf ((p,w)::P.zip vs) m x=_
  unfold bindC
  exact Py (i:=i) (List.nodup_cons.mp nd).2 (by simpa using h1) (by simpa using h2) hk
def start(N:List Str)(vs:List V):St:=vs.map some++List.replicate (N.length-vs.length) none
noncomputable def jU(CX:jT)(P:Program)(w:World)(K:FZ)(mg:Str->Option Value)(base:Heap)(N:List Str)(qual:Str)(scope:Scope)(f:Addr)(cd:Value)(A:Around)(outer:List Env)(s:Shared)(H:Hp)(E:XK):Cx where
 prog:=P
 w:=w
 K:=K
 mg:=mg
 base:=base
 A:=A.deeper (envOfC qual scope s.heap.objs.size f cd)
 N:=N
 s₀ := s
 H₀ := H
 env:=envOfC qual scope s.heap.objs.size f cd
 outer:=outer
 stack:=envOfC qual scope s.heap.objs.size f cd::outer
 ex:=[]
 calm:=true
 fn:=λ_=>true
 pn:=[]
 xe:=λe s'=>wpAny (model P w) (A.deeper (envOfC qual scope s.heap.objs.size f cd)) (leaving (envOfC qual scope s.heap.objs.size f cd) e) (λ_ s''=>CX outer H s E e s'') (λe' s''=>CX outer H s E e' s'') s'
theorem Pz{sc:Scope}{n:Nat}{x:Str}(h:sc.names.lookup x=some .cell):∃c,(cellsFrom n sc.names []).lookup x=some c:=by
 have q:=PySem.W.cellsFrom_some sc.names n [] (.inl h)
 exact Option.isSome_iff_exists.mp q
theorem Zt{CX:jT}{P:Program}{w:World}{K:FZ}{mg:Str->Option Value}{base:Heap}{N ps:List Str}{qual:Str}{scope:Scope}{f:Addr}{cd:Value}{A:Around}{outer:List Env}{s s1:Shared}{H:Hp}{E:XK}{us:List Value}{vs:List V}
  (S:rG N ps scope) (hd:A.handled=none) (e0:Bw P w K mg base A outer s H) (hl:vs.length=ps.length) (r:Vals vs us)
  (x:InCallC s s.heap.objs.size (bindL (envOfC qual scope s.heap.objs.size f cd).kindOf (ps.zip us) λ_=>none) (cellsFrom (s.heap.objs.size+1) scope.names []) (bindC (envOfC qual scope s.heap.objs.size f cd).kindOf (ps.zip us) λ_=>none) s1) :
  Inv (jU CX P w K mg base N qual scope f cd A outer s H E) [] (start N vs) H s1:=by
 have hpl:ps.length<=N.length:=by have:=congrArg List.length S.pre; rw[List.length_take]at this; omega
 obtain⟨h1,tk,rfl,hk⟩:=x.done
 have yw:∀b:Addr,b∉(jU CX P w K mg base N qual scope f cd A outer s H E).ex:=λb z=>absurd (show b∈([]:List Addr)from z) (by simp)
 refine⟨⟨e0.mod,S.kind,rfl,rfl,Nat.le_refl _,λy z c h1 h2=>?_,λy hy=>?_,λy c _ h=>?_,λ_=>hd,Around.frames_deeper e0.frames,.inr ⟨rfl,rfl⟩,λb z=>absurd z (yw b),e0.bs,e0.qW,λb _ _=>yw b,λb z=>absurd z (yw b),e0.lN,e0.tX⟩,
  rfl,e0.bare,Un.kept hk,⟨_,x.toInCall.ns,λi y v h1 h2 h3=>?_⟩,λy c h=>⟨_,x.cell y c h⟩,e0.hok.fresh (Nat.le_refl _),λy c h=>?_,λp hp=>absurd (show p∈([]:List (Addr × Obj))from hp) (by simp),e0.hok.kept hk,?_⟩
 ·exact name_of_addr x.apart (PySem.mem_of_lookup h1) (PySem.mem_of_lookup h2)
 ·have hy:scope.names.lookup y=some .cell\/scope.names.lookup y=some .free:=hy
  rcases hy with hy|hy
  ·exact Pz hy
  ·exact absurd rfl (S.Hi _ (PySem.mem_of_lookup hy))
 ·exact Nat.le_of_lt (x.above y c (PySem.mem_of_lookup h))
 ·have hi:i<vs.length:=by
   unfold start at h2
   by_cases hi:i<vs.length
   ·exact hi
   ·rw[List.getElem?_append_right (by simpa using hi)]at h2
    rw[List.getElem?_replicate]at h2
    split at h2 <;> cases h2
  have ha:vs[i]?=some v:=by
   unfold start at h2
   rw[List.getElem?_append_left (by simpa using hi),List.getElem?_map]at h2
   cases e:vs[i]? with
   |none=>rw[e]at h2; cases h2
   |some a=>rw[e]at h2; cases h2; rfl
  obtain⟨u,hu,rv⟩:=r.get ha
  have hp:ps[i]?=some y:=by
   rw[<-S.pre,List.getElem?_take_of_lt (by omega)]; exact h1
  have PB:ps.Nodup:=by rw[<-S.pre]; exact S.nd.sublist (List.take_sublist _ _)
  refine⟨u,rv,?_⟩
  rcases S.par y (List.mem_of_getElem? hp)with k|k
  ·exact .inl ⟨k,Px PB hp hu k⟩
  ·obtain⟨c,e⟩:=Pz (n:=s.heap.objs.size+1) k
   refine .inr ⟨.inl k,c,e,?_⟩
   have q:=x.cell y c e
   rw[Py PB hp hu (by show scope.names.lookup y≠_; rw[k]; decide)]at q
   exact q
 ·exact e0.hok.fresh (Nat.le_of_lt (x.above y c (PySem.mem_of_lookup h)))
 ·unfold start
  show _=N.length
  rw[List.length_append,List.length_map,List.length_replicate]
  omega
theorem PJ{CX:jT}{P:Program}{w:World}{K:FZ}{mg:Str->Option Value}{base:Heap}{k:Nat}{f:Addr}{name qual:Str}{params:Arguments}{body:List Stmt}{scope:Scope}{dV kV doc pm cdv ct oc:Value}{an od:Option Addr}
  {osl:Array (Option Value)} {N ps:List Str} {sp:Sp} (lk:K.lookup f=some ⟨oc,od,.func (PySem.W.fnOf name qual params body scope dV kV doc pm an cdv ct),osl⟩) (hcd:PySem.W.codeIn K cdv qual=true) (S:rG N ps scope)
  (len:∀vs H Q E,sp vs H Q E->vs.length=ps.length)
  (hbody:∀(A:Around) (outer:List Env) (s:Shared) (H:Hp) (vs:List V) (Q:VK) (E:XK),fL k (A.deeper (envOfC qual scope s.heap.objs.size f cdv))->sp vs H Q E ->
   ∃t,jj (jU CX P w K mg base N qual scope f cdv A outer s H E) body t/\t {nx:=λ_ H'=>Q .non H',rt:=Q } (start N vs) H) :
  kZ P w K mg base CX (k+1) f (PySem.W.fnOf name qual params body scope dV kV doc pm an cdv ct) ps sp:=by
 refine⟨len,λA outer s H args us vs Q E hr e0 hb r hsp=>?_⟩
 have hl:=len _ _ _ _ hsp
 have KX:K.In s.heap:=e0.mod.Gz.keeps λb o e=>(e0.bs b o e).1
 have lim:s.heap.NoLimit:=e0.mod.nolimit.keeps λb o e=>(e0.bs b o e).1
 have hkind:∀y∈ps.zip us,scope.names.lookup y.1=some .local\/(scope.names.lookup y.1=some .cell/\((cellsFrom (s.heap.objs.size+1) scope.names []).lookup y.1).isSome=true):=λ⟨n,v⟩ hy=>by
  rcases S.par n (List.of_mem_zip hy).1 with q|q
  ·exact .inl q
  ·exact .inr ⟨q,PySem.W.cellsFrom_some _ _ _ (.inl q)⟩
 refine codeAny_call_function hr.depth (KX _ _ lk) rfl S.co S.gen rfl (PySem.W.codeRec_of KX hcd) (hb _ _ _ _ ?_)
 refine wpAny_newFunctionEnv_cells S.kind hkind λenv he s1 x=>?_
 subst he
 refine⟨lim.keeps x.toInCall.keep,codeAny_func ?_⟩
 obtain⟨t,ht,hq⟩:=hbody A outer s H vs Q E (hr.deeper _) hsp
 have I:Inv (jU CX P w K mg base N qual scope f cdv A outer s H E) [] (start N vs) H s1:=Zt S hr.hd e0 hl r x
 refine wpAny_mono (ht [] s1 (start N vs) H _ I hq) (λfl s' hs=>?_) λe s' hs=>hs
 have fin:∀{σ':St} {H':Hp} {v:V} {u:Value},Inv (jU CX P w K mg base N qual scope f cdv A outer s H E) [] σ' H' s'->RelV v u->Q v H'->CE outer P w H s Q u s' :=
  λ{σ' H' v u} J rv q=>⟨v,H',J.os,J.bare,J.base,J.hok,rv,q⟩
 cases fl with
 |ret u =>
  obtain⟨v,σ',H',J,rv,q⟩:=hs
  exact fin J rv q
 |next =>
  obtain⟨σ',H',J,q⟩:=hs
  exact fin (v:=V.non) (u:=Value.none) J rfl q
 |brk =>
  obtain⟨_,_,_,q⟩:=hs
  exact False.elim q
 |cont =>
  obtain⟨_,_,_,q⟩:=hs
  exact False.elim q
section
variable {X:Cx}{x:Str}{p pos:Pos}{e:Expr}{es:List Expr}{t:TA}{id T:String}{r:List V->Hp->VK->Prop}
def jm(r:List V->Hp->VK->Prop)(t:TA):TE:=λσ H Q=>t σ H λvs H1=>r vs H1 Q
theorem PK(hc:iH X (.builtin id) r)(hg:Gl X x)(hm:X.mg x=none)(hv:bootBuiltins x=some (.builtin id))(ha:PA X (e::es) t)(hn:x ≠ "__name__" := by decide) (hdb:(x == ("__debug__" : Str))=false:=by decide)
  (he:starEach (e::es) X.env=(false,eval e X.env)::starEach es X.env:=by rfl) (hpl:(backTo pos (starEach es X.env)).any (·.1)=false:=by rfl):PE X (.Call (.Name x p) (e::es) [] pos) (jm r t):=by
 refine⟨λpins s σ H Q I h=>?_⟩
 refine wpAny_Call_Name_kw (tZ I hg hm hv ?_ hn hdb)
 exact PyProof.Rows.callWith_builtin1 (bD (ha pos pins s σ H _ I h) λus s1 ⟨vs,H1,I1,r1,q1⟩=>hc pins s1 σ H1 vs us Q I1 r1 q1) he hpl
theorem Zu(hc:iH X (.type T) r)(hg:Gl X x)(hm:X.mg x=none)(hv:bootBuiltins x=some (.type T))(hn:x ≠ "__name__" := by decide) (hdb:(x == ("__debug__" : Str))=false:=by decide) :
  PE X (.Call (.Name x p) [] [] pos) (jm r kW):=by
 refine⟨λpins s σ H Q I h=>?_⟩
 refine wpAny_Call_Name_kw (tZ I hg hm hv ?_ hn hdb)
 exact PyProof.Rows.callWith_type0 (hc pins s σ H [] [] Q I .nil h)
end
end L2
namespace HT
open PySem PyProof.Rows
def lexLt:List Int->List Int->Bool
 | [],[]=>false
 | [],_::_=>true
 |_::_,[]=>false
 |x::xs,y::ys=>if x=y then lexLt xs ys else decide (x<y)
theorem Zv(x y:Int)(xs ys:List Int):lexLt (x::xs) (y::ys)=if x=y then lexLt xs ys else decide (x<y):=rfl
theorem Zw:lexLt [] []=false:=rfl
theorem Zx(y:Int)(ys:List Int):lexLt [] (y::ys)=true:=rfl
theorem Zy(x:Int)(xs:List Int):lexLt (x::xs) []=false:=rfl
theorem Zz(A:Around)(s:Shared)(a:Int)(t:Tok)(c:Int)(u:Tok):∃e,SeqAt.EqAt A s (.int a t) (.int c u) e/\(e=true↔a=c) :=
 ⟨(a == c),SeqAt.EqAt.int_int a t c u,by simp⟩
theorem ZC(A:Around)(s:Shared)(a:Int)(t:Tok)(c:Int)(u:Tok)(prog:Program)(w:World)(E:Value->Shared->Prop)(Q:Value->Shared->Prop)(h:Q (.bool (decide (a<c))) s) :
  wpAny (model prog w) A (richCompare .Lt (.int a t) (.int c u)) Q E s :=
 (PyProof.Rows.lt_int h:wpAny (model prog w) A (compareOp .Lt (.int a t) (.int c u)) Q E s)
section
open PySem.SeqAt
open PySem.AutoSeq1 (wpAny_loadPart')
open PySem.MeetsSeq PySem.MeetsSeq2 PySem.MeetsSeq3
theorem ZD(l b:Addr)(items items2:Array Value)(n n2:Nat)(dd dd2:Option Addr)(sl sl2:Array (Option Value))(ns ms:List Int)(hi:IntsAre items.toList ns)(hj:IntsAre items2.toList ms) :
  Meets (Builtin.«tuple.__lt__» ⟨[.ref l,.ref b],[]⟩)
   (λ_ R s=>s.heap.get? l=some {cls:=.type "tuple",dict:=dd,data:=.seq items n,slots:=sl }∧s.heap.get? b=some {cls:=.type "tuple",dict:=dd2,data:=.seq items2 n2,slots:=sl2 } ∧
    R (.ok (.ret (.bool (lexLt ns ms)))) s) :=
 .of_wp λprog w A R s h=>by
  obtain⟨hp,g,d,tk,os⟩:=s; obtain⟨hl,hb,h⟩:=h
  have f2:=AutoSeq1.sub_tuple_tuple
  have z1:items.size=ns.length:=by rw[<-hi.length]; simp
  have z2:items2.size=ms.length:=by rw[<-hj.length]; simp
  wp_walk using wpAny_loadPart' hl,wpAny_loadPart' hb,wpAny_forIn_list _ (λrest b s'=>b.1=none/\s'=⟨hp,g,d,tk,os⟩/\∃(vs ws:List Value) (ns' wz:List Int),rest=vs.zip ws /\
   IntsAre vs ns'/\IntsAre ws wz/\ns'.length+items2.size=wz.length+items.size/\R (.ok (.ret (.bool (lexLt ns' wz)))) ⟨hp,g,d,tk,os⟩) _
  case turn =>
   rintro⟨y,x⟩ rest b s' ⟨hb',rfl,vs,ws,ns',wz,hz,Hj,hwi,hlen,hR⟩
   cases Hj with
   |nil=>rw[List.zip_nil_left]at hz; cases hz
   |cons a t ZG =>
    cases hwi with
    |nil=>rw[List.zip_nil_right]at hz; cases hz
    |cons c u ZJ =>
     rw[List.zip_cons_cons]at hz
     injection hz with hyx hrest
     injection hyx with hy hx
     subst hy hx
     rw[Zv]at hR
     simp only[List.length_cons]at hlen
     obtain⟨e,he,hiff⟩:=Zz A.in1 ⟨hp,g,d,tk,os⟩ a t c u
     refine wpAny_bind (he prog w _ _ ?_)
     cases e with
     |true =>
      rw[if_pos (hiff.mp rfl)]at hR
      wp_walk
      exact⟨rfl,rfl,_,_,_,_,hrest,ZG,ZJ,by omega,hR⟩
     |false =>
      rw[if_neg (λq=>absurd (hiff.mpr q) Bool.false_ne_true)]at hR
      have ZK:=ZC A.in1 ⟨hp,g,d,tk,os⟩ a t c u prog w
      wp_walk using ZK
      exact⟨_,rfl,by simpa using hR⟩
  case fin =>
   rintro⟨b1,b2⟩ s' ⟨hb',rfl,vs,ws,ns',wz,hz,Hj,hwi,hlen,hR⟩
   simp only at hb'
   subst hb'
   have hv:lexLt ns' wz=decide (items.size<items2.size):=by
    cases Hj with
    |nil =>
     cases hwi with
     |nil =>
      simp only[List.length_nil]at hlen
      rw[Zw]
      exact(decide_eq_false (by omega)).symm
     |cons c u hw =>
      simp only[List.length_nil,List.length_cons]at hlen
      rw[Zx]
      exact(decide_eq_true (by omega)).symm
    |cons a t hv =>
     cases hwi with
     |nil =>
      simp only[List.length_nil,List.length_cons]at hlen
      rw[Zy]
      exact(decide_eq_false (by omega)).symm
     |cons c u hw =>
      rw[List.zip_cons_cons]at hz
      cases hz
   rw[hv]at hR
   wp_walk
   exact⟨_,rfl,by simpa[Builtin.Tuple.tupleCompareSizes]using hR⟩
  case h =>
   exact⟨rfl,rfl,items.toList,items2.toList,ns,ms,rfl,hi,hj,by omega,h⟩
end
section
variable {prog:Program}{w:World}{A:Around}{E:Value->Shared->Prop}{s:Shared}
theorem ZL{l b:Addr}{items items2:Array Value}{ns ms:List Int}{Q:Value->Shared->Prop}(hl:IsTup s.heap l items)(hb:IsTup s.heap b items2)(hi:IntsAre items.toList ns)(hj:IntsAre items2.toList ms)
  (hu:A.units<cLine) (h:Q (.bool (lexLt ns ms)) s):wpAny (model prog w) A (compareOp .Lt (.ref l) (.ref b)) Q E s:=by
 obtain⟨⟨cls,dd,data,sl⟩,ho,hc,n,hd⟩:=id hl
 obtain⟨⟨cls2,dd2,data2,sl2⟩,ho2,hc2,n2,hd2⟩:=id hb
 simp only at hc hd hc2 hd2
 subst hc hd hc2 hd2
 exact richCompare_meets_room (op:=.Lt) ⟨_,ho,rfl⟩ ⟨_,ho2,rfl⟩ PySem.F.slot_tuple_lt PySem.F.entry_tuple_lt (PySem.F.args_tuple_lt_2 _ _) (ZD l b items items2 n n2 dd dd2 sl sl2 ns ms hi hj)
  ⟨ho,ho2,show Value.bool (lexLt ns ms)≠Value.notImplemented/\Q (.bool (lexLt ns ms)) s from⟨(λx=>nomatch x),h⟩⟩ hu
theorem ZM{t b:Addr}{vs ws:List Value}{Q:Value->Shared->Prop}(ht:IsTup s.heap t vs.toArray)(hb:IsTup s.heap b ws.toArray)(hv:vs≠[])
  (h1:ws=[]->Q (.ref t) s) (h2:ws≠[]->Q (.ref s.heap.objs.size) {s with heap:=s.heap.push {cls:=.type "tuple",data:=.seq (vs++ws).toArray } })
  (hsz:vs.length+ws.length<=sizeLine):wpAny (model prog w) A (binaryOp .Add (.ref t) (.ref b)) Q E s:=by
 obtain⟨⟨cls,dd,data,sl⟩,ho,hc,n,hd⟩:=id ht
 obtain⟨⟨cls2,dd2,data2,sl2⟩,ho2,hc2,n2,hd2⟩:=id hb
 simp only at hc hd hc2 hd2
 subst hc hd hc2 hd2
 have e:vs.toArray++ws.toArray=(vs++ws).toArray:=by simp
 by_cases hw:ws=[]
 ·exact concat_meets ⟨_,ho,rfl⟩ ⟨_,ho2,rfl⟩ noFill_tuple_add seq_tuple_add PySem.F.slot_tuple_add PySem.F.entry_tuple_add (PySem.F.args_tuple_add_2 _ _)
   (tuple_addW1 t b vs.toArray ws.toArray n n2 dd dd2 sl sl2 (by simpa using hv) (by simp[hw])) ⟨ho,ho2,h1 hw⟩
 ·refine concat_meets ⟨_,ho,rfl⟩ ⟨_,ho2,rfl⟩ noFill_tuple_add seq_tuple_add PySem.F.slot_tuple_add PySem.F.entry_tuple_add (PySem.F.args_tuple_add_2 _ _)
   (tuple_addW2 t b vs.toArray ws.toArray n n2 dd dd2 sl sl2 (by simpa using hv) (by simpa using hw) (by rw[List.size_toArray,List.size_toArray]; exact hsz)) ⟨ho,ho2,?_⟩
  rw[e]
  exact h2 hw
def bQ(n d:Nat):Option Int->Nat
 |none=>d
 |some v=>if v<0 then(v+(n:Int)).toNat else min v.toNat n
theorem ZP(n d:Nat)(hd:d<=n)(o:Option Int):bQ n d o<=n:=by
 cases o with
 |none=>exact hd
 |some v =>
  show(if v<0 then(v+(n:Int)).toNat else min v.toNat n)<=n
  by_cases hv:v<0
  ·rw[if_pos hv]; omega
  ·rw[if_neg hv]; exact Nat.min_le_right _ _
theorem PL(v:Int)(n d:Nat):(if v<0 then max (v+(n:Int)) 0 else min v (n:Int))=((bQ n d (some v):Nat):Int):=by
 show(if v<0 then max (v+(n:Int)) 0 else min v (n:Int))=(((if v<0 then(v+(n:Int)).toNat else min v.toNat n):Nat):Int)
 by_cases hv:v<0
 ·simp only[if_pos hv]; omega
 ·simp only[if_neg hv]; omega
theorem ZQ(lo hi:Option Int)(n:Nat):Builtin.Slice.sliceAdjust lo hi 1 (n:Int)=(((bQ n 0 lo:Nat):Int),((bQ n n hi:Nat):Int)):=by
 have h1:¬((1:Int)<0):=by omega
 unfold Builtin.Slice.sliceAdjust
 simp only[h1,if_false]
 refine Prod.ext ?_ ?_
 ·cases lo with
  |none=>rfl
  |some v=>exact PL v n 0
 ·cases hi with
  |none=>rfl
  |some v=>exact PL v n n
theorem ZR(i j:Nat):Builtin.Slice.slicePlaces (i:Int) (j:Int) 1=j-i:=by
 unfold Builtin.Slice.slicePlaces
 have h1:(1:Int) > 0:=by omega
 simp only[h1,if_true,Int.ediv_one]
 split <;> omega
theorem PN{v:Value}{o:Option Int}{Q:Option Int->Shared->Prop}(p:IsPart v o)(h:Q o s):wpAny (model prog w) A (Builtin.Slice.slicePartIndex v) Q E s:=by
 cases p with
 |none=>exact slicePart_none h
 |int i t=>exact slicePart_int h
theorem ZS{sl:Addr}{vl vu:Value}{lo hi:Option Int}{n:Nat}{Q:Int × Int × Nat->Shared->Prop}(hs:s.heap.IsSliceOf sl vl vu .none)(pl:IsPart vl lo)(pu:IsPart vu hi)
  (h:Q (((bQ n 0 lo:Nat):Int),1,bQ n n hi-bQ n 0 lo) s):wpAny (model prog w) A (Builtin.Slice.sliceApplied (.ref sl) (pure (n:Int))) Q E s:=by
 obtain⟨os,hos,hcs,hds⟩:=id hs
 unfold Builtin.Slice.sliceApplied Builtin.Slice.sliceFields
 refine wpAny_bind (wpAny_bind (wpAny_field hos hds (x:=vl) rfl (wpAny_bind (wpAny_field hos hds (x:=vu) rfl (wpAny_bind (wpAny_field hos hds (x:=.none) rfl (wpAny_pure ?_)))))))
 refine wpAny_bind (slicePart_none ?_)
 show wpAny _ _ (if((1:Int) == 0)=true then _ else _) _ _ s
 rw[if_neg (by decide)]
 refine wpAny_bind (PN pl (wpAny_bind (PN pu (wpAny_bind (wpAny_pure ?_)))))
 show wpAny _ _ (match Builtin.Slice.sliceAdjust lo hi 1 (n:Int)with|(lo,hi)=>pure (lo,(1:Int),Builtin.Slice.slicePlaces lo hi 1)) _ _ s
 rw[ZQ lo hi n]
 show wpAny _ _ (pure (((bQ n 0 lo:Nat):Int),(1:Int),Builtin.Slice.slicePlaces ((bQ n 0 lo:Nat):Int) ((bQ n n hi:Nat):Int) 1)) _ _ s
 rw[ZR]
 exact wpAny_pure h
theorem ZV(xs:Array Value)(i k:Nat):((List.range k).filterMap λ(m:Nat)=>xs[((i:Int)+(m:Int)*1).toNat]?).toArray=((xs.toList.drop i).take k).toArray:=by
 have e:(λ(m:Nat)=>xs[((i:Int)+(m:Int)*1).toNat]?)=λm=>xs[i+m]? := by
  funext m
  have:((i:Int)+(m:Int)*1).toNat=i+m:=by omega
  rw[this]
 rw[e]
 have:=pick_run xs i k
 rw[List.filterMap_map]at this
 have e2:((λx=>xs[x]?) ∘ λx=>i+x)=λm=>xs[i+m]? := rfl
 rw[e2]at this
 rw[this]
theorem ZW{t sl:Addr}{items:Array Value}{vl vu:Value}{lo hi:Option Int}{Q:Value->Shared->Prop}(ht:IsTup s.heap t items)(hs:s.heap.IsSliceOf sl vl vu .none)(pl:IsPart vl lo)(pu:IsPart vu hi)
  (hw:¬(bQ items.size 0 lo=0/\bQ items.size items.size hi=items.size))
  (h:Q (.ref s.heap.objs.size) {s with heap:=s.heap.push {cls:=.type "tuple",data:=.seq ((items.toList.drop (bQ items.size 0 lo)).take (bQ items.size items.size hi-bQ items.size 0 lo)).toArray } })
  (hsz:items.size<=sizeLine):wpAny (model prog w) A (getItem (.ref t) (.ref sl)) Q E s:=by
 have Bx:sizeOk (.seq ((items.toList.drop (bQ items.size 0 lo)).take (bQ items.size items.size hi-bQ items.size 0 lo)).toArray):=by
  show((items.toList.drop (bQ items.size 0 lo)).take (bQ items.size items.size hi-bQ items.size 0 lo)).toArray.size<=sizeLine
  rw[List.size_toArray,List.length_take,List.length_drop,Array.length_toList]
  omega
 have hj:bQ items.size items.size hi<=items.size:=ZP _ _ (Nat.le_refl _) hi
 obtain⟨os,hos,hcs,hds⟩:=id hs
 have hTs:s.TypeIs (.ref sl) "slice" := ⟨os,hos,hcs⟩
 unfold getItem
 try with_reducible refine wpAny_holding ?_
 first|refine wpAny_bind (wpAny_pure ?_)|skip
 refine wpAny_bind (wpAny_sequenceKey ht.typeIs (by decide) ?_)
 refine wpAny_bind (wpAny_callSpecial?_slot (name:=Str.ofString "__getitem__") ht.typeIs PyProof.Rows.slot_tuple_getitem
  (wpAny_call_entry PyProof.Rows.slot_tuple_getitem ht.typeIs entry_tuple_getitem ?_ (args_tuple_getitem _ _)))
 show wpAny _ _ (Builtin.Tuple.tupleItemsOf (.ref t) >>= _) _ _ s
 refine wpAny_bind (tupleItemsOf_ ht ?_)
 refine wpAny_bind (wpAny_typeOf hTs ?_)
 rw[if_pos (by decide)]
 refine wpAny_bind (ZS hs pl pu ?_)
 have hno:¬((((bQ items.size 0 lo:Nat):Int) == 0&&(1:Int) == 1&&(bQ items.size items.size hi-bQ items.size 0 lo) == items.size)=true):=by
  intro q
  rw[Bool.and_eq_true,Bool.and_eq_true]at q
  have q1:((bQ items.size 0 lo:Nat):Int)=0:=eq_of_beq q.1.1
  have q2:bQ items.size items.size hi-bQ items.size 0 lo=items.size:=eq_of_beq q.2
  exact hw ⟨by omega,by omega⟩
 show wpAny _ _ (if(((bQ items.size 0 lo:Nat):Int) == 0&&(1:Int) == 1&&(bQ items.size items.size hi-bQ items.size 0 lo) == items.size)=true then _ else _) _ _ s
 rw[if_neg hno,ZV]
 first
  |exact wpAny_bind (m:=Builtin.Tuple.tupleExact _) (wpAny_newObj_type (wpAny_pure ⟨_,rfl,wpAny_pure h⟩) Bx)
  |exact wpAny_bind (m:=Builtin.Tuple.tupleExact _) (wpAny_newObj_type (wpAny_bind (wpAny_pure (wpAny_pure ⟨_,rfl,wpAny_pure h⟩))) Bx)
  |exact wpAny_bind (wpAny_bind (m:=Builtin.Tuple.tupleExact _) (wpAny_newObj_type (wpAny_pure (wpAny_pure ⟨_,rfl,wpAny_pure h⟩)) Bx))
  |exact wpAny_bind (wpAny_bind (m:=Builtin.Tuple.tupleExact _) (wpAny_newObj_type (wpAny_pure ⟨_,rfl,wpAny_pure h⟩) Bx))
end
end HT
namespace L2
open PySem PySem.Spec PyProof.Rows
abbrev TO:=St->Hp->(Option Int->Hp->Prop)->Prop
noncomputable def PO(X:Cx)(e:Option Expr)(t:TO):Prop :=
 ∀(pins:List (Addr × Obj)) (s:Shared) (σ : St) (H:Hp) (Q:Option Int->Hp->Prop),Inv X pins σ H s->t σ H Q ->
  wpAny (model X.prog X.w) X.A (evalPart e X.env) (λu s'=>∃o H',Inv X pins σ H' s'/\IsPart u o/\Q o H') X.xe s
def PX:TO:=λ_ H Q=>Q none H
def Hl(t:TE):TO:=λσ H Q=>t σ H λx H1=>∃i,x=.int i/\Q (some i) H1
theorem intsAre_of{ns:List Int}:∀{us:List Value},Vals (ns.map V.int) us->IntsAre us ns:=by
 induction ns with
 |nil=>intro us r; rw[List.map_nil]at r; cases r; exact .nil
 |cons n ns ih =>
  intro us r
  rw[List.map_cons]at r
  cases r with
  |cons r1 r2 =>
   obtain⟨t,e⟩:=r1
   subst e
   exact .cons n t (ih r2)
section
variable {X:Cx}{e:Expr}{te:TE}{lo hi:Option Expr}{tl th:TO}{pos p2:Pos}
theorem P0:PO X none PX:=by
 intro pins s σ H Q I h
 rw[evalPart_none]
 exact wpAny_pure ⟨none,H,I,.none,h⟩
theorem yx(h:PE X e te):PO X (some e) (Hl te):=by
 intro pins s σ H Q I hw
 rw[evalPart_some]
 refine bD (h pins s σ H _ I hw) λu s1 ⟨x,H1,I1,r1,q1⟩=>?_
 obtain⟨i,rfl,q⟩:=q1
 obtain⟨t,rfl⟩:=r1
 exact⟨some i,H1,I1,.int i t,q⟩
noncomputable def m6(X:Cx)(r:V->Option Int->Option Int->Hp->VK->Prop):Prop :=
 ∀(pins:List (Addr × Obj)) (s:Shared) (σ : St) (H:Hp) (x:V) (v vl vu:Value) (lo hi:Option Int) (sl:Addr) (Q:VK),Inv X pins σ H s->RelV x v->s.heap.IsSliceOf sl vl vu .none->IsPart vl lo->IsPart vu hi->r x lo hi H Q ->
  ∃T id,typeLookup (.type T) "__getitem__" = pure (some (.builtin id))/\s.TypeIs v T/\wpAny (model X.prog X.w) X.A (getItem v (.ref sl)) (EP X pins σ Q) X.xe s
theorem m6.or{r r':V->Option Int->Option Int->Hp->VK->Prop}(h:m6 X r)(h':m6 X r'):m6 X (λx lo hi H Q=>r x lo hi H Q\/r' x lo hi H Q):=by
 intro pins s σ H x v vl vu lo hi sl Q I rx hs pl pu q
 rcases q with q|q
 ·exact h pins s σ H x v vl vu lo hi sl Q I rx hs pl pu q
 ·exact h' pins s σ H x v vl vu lo hi sl Q I rx hs pl pu q
def Qa(r:V->Option Int->Option Int->Hp->VK->Prop)(te:TE)(tl th:TO):TE:=λσ H Q=>te σ H λx H1=>tl σ H1 λl H2=>th σ H2 λu H3=>r x l u H3 Q
theorem Qc{r:V->Option Int->Option Int->Hp->VK->Prop}(hr:m6 X r)(he:PE X e te)(hl:PO X lo tl)(hu:PO X hi th):PE X (.Subscript e (.Slice lo hi none p2) pos) (Qa r te tl th):=by
 refine⟨λpins s σ H Q I h=>?_⟩
 refine Subscript_ (bD (he pins s σ H _ I h) λv s1 ⟨x,H1,I1,r1,q1⟩=>?_)
 refine wpAny_Slice (bD (hl pins s1 σ H1 _ I1 q1) λvl s2 ⟨l,H2,I2,pl,q2⟩=>bD (hu pins s2 σ H2 _ I2 q2) λvu s3 ⟨u,H3,I3,pu,q3⟩=>?_)
 rw[evalPart_none]
 refine wpAny_pure ?_
 have I4:Inv X pins σ H3 {s3 with heap:=s3.heap.push {cls:=.type "slice",data:=.fields #[vl,vu,.none] } }:=I3.kept (t':=s3.toks) λb ob q=>Heap.get?_push_of_some _ q
 obtain⟨T,id,hT,ht,hg⟩:=hr pins {s3 with heap:=s3.heap.push {cls:=.type "slice",data:=.fields #[vl,vu,.none] } } σ H3 x v vl vu l u s3.heap.objs.size Q I4 r1 (Heap.IsSliceOf.new ..) pl pu q3
 show wpAny (model X.prog X.w) X.A (subscriptTail e (.Slice lo hi none p2) v (.ref s3.heap.objs.size)) (EP X pins σ Q) X.xe {s3 with heap:=s3.heap.push {cls:=.type "slice",data:=.fields #[vl,vu,.none] } }
 exact tail_any (ops:=[.ref s3.heap.objs.size,v]) ht hT hg (by with_unfolding_all rfl)
def rH(xs:List V)(lo hi:Option Int):List V:=(xs.drop (HT.bQ xs.length 0 lo)).take (HT.bQ xs.length xs.length hi-HT.bQ xs.length 0 lo)
theorem Qd(xs:List V)(lo hi:Option Int):(rH xs lo hi).length<=xs.length:=by
 unfold rH
 rw[List.length_take,List.length_drop]
 omega
def Qe(K:FZ):V->Option Int->Option Int->Hp->VK->Prop:=λx lo hi H Q=>∃a xs,x=.ref a/\cV K H a xs /\
 ¬(HT.bQ xs.length 0 lo=0/\HT.bQ xs.length xs.length hi=xs.length)/\∀p,H p=none->Q (.ref p) (upd H p (.tup (rH xs lo hi)))
theorem ZX:m6 X (Qe X.K):=by
 intro pins s σ H x v vl vu lo hi sl Q I rx hs pl pu h
 obtain⟨a,xs,rfl,hx,hw,q⟩:=h
 cases rx
 obtain⟨its,r,ht,hz⟩:=I.tuple hx
 have hlen:its.toArray.size=xs.length:=by rw[List.size_toArray]; exact r.length.symm
 refine⟨"tuple",_,PyProof.Rows.slot_tuple_getitem.lookup,ht.typeIs,?_⟩
 refine HT.ZW ht hs pl pu (by rw[hlen]; exact hw) ?_ (by rw[hlen]; exact hz)
 rw[hlen]
 refine⟨.ref s.heap.objs.size,_,I.laid (t':=s.toks) (o:=.tup (rH xs lo hi)) (λb ob q=>Heap.get?_push_of_some _ q) (Nat.le_refl _) ?_,rfl,q _ (I.hok.fresh (Nat.le_refl _))⟩
 exact⟨Nat.le_trans (Qd xs lo hi) hz,_,(r.drop (HT.bQ xs.length 0 lo)).take (HT.bQ xs.length xs.length hi-HT.bQ xs.length 0 lo),IsTup.new _ _⟩
def Qf(K:FZ):R2:=λx y H Q=>∃a b ns ms,x=.ref a/\y=.ref b/\cV K H a (ns.map V.int)/\cV K H b (ms.map V.int)/\Q (.bl (HT.lexLt ns ms)) H
theorem Z0(hu:X.A.units<cLine):cN X (compareOp .Lt) (Qf X.K):=by
 intro pins s σ H x y v u Q I rx ry h
 obtain⟨a,b,ns,ms,rfl,rfl,ha,hb,q⟩:=h
 cases rx
 cases ry
 obtain⟨its,r1,p1,_⟩:=I.tuple ha
 obtain⟨its2,r2,p2,_⟩:=I.tuple hb
 have i1:IntsAre its.toArray.toList ns:=intsAre_of r1
 have i2:IntsAre its2.toArray.toList ms:=intsAre_of r2
 exact HT.ZL p1 p2 i1 i2 hu ⟨.bl (HT.lexLt ns ms),H,I,rfl,q⟩
def Qg(K:FZ):R2:=λx y H Q=>∃a b xs ys,x=.ref a/\y=.ref b/\cV K H a xs/\cV K H b ys/\xs≠[]/\xs.length+ys.length<=sizeLine /\
 (ys=[]->Q (.ref a) H)/\(ys≠[]->∀p,H p=none->Q (.ref p) (upd H p (.tup (xs++ys))))
theorem Vals.Ho{xs:List V}{us:List Value}(r:Vals xs us):us=[]↔xs=[]:=by
 cases r with
 |nil=>simp
 |cons _ _=>simp
theorem Z1:cN X (binaryOp .Add) (Qg X.K):=by
 intro pins s σ H x y v u Q I rx ry h
 obtain⟨a,b,xs,ys,rfl,rfl,ha,hb,hx,hz,q1,q2⟩:=h
 cases rx
 cases ry
 obtain⟨its,r1,p1,_⟩:=I.tuple ha
 obtain⟨its2,r2,p2,_⟩:=I.tuple hb
 refine HT.ZM p1 p2 (λz=>hx (r1.Ho.mp z)) (λz=>⟨.ref a,H,I,rfl,q1 (r2.Ho.mp z)⟩) (λz=>?_) (by rw[<-r1.length,<-r2.length]; exact hz)
 refine⟨.ref s.heap.objs.size,_,I.laid (t':=s.toks) (o:=.tup (xs++ys)) (λb ob q=>Heap.get?_push_of_some _ q) (Nat.le_refl _) ?_,rfl,q2 (λw=>z (r2.Ho.mpr w)) _ (I.hok.fresh (Nat.le_refl _))⟩
 exact⟨by rw[List.length_append]; exact hz,_,r1.append r2,IsTup.new _ _⟩
end
def gh(n:Nat)(i:Int):Option Nat:=if 0<=i then(if i<n then some i.toNat else none)else if -(n:Int)<=i then some (i+n).toNat else none
def dI{α : Type}(xs:List α)(i:Int):Option α := (gh xs.length i).bind λj=>xs[j]?
theorem Z2{n:Nat}{i:Int}{j:Nat}(h:gh n i=some j):seqIndex? i n=some j/\j<n /\ -(n:Int)<=i/\i<n:=by
 unfold gh at h
 by_cases h0:0<=i
 ·rw[if_pos h0]at h
  by_cases h1:i<n
  ·rw[if_pos h1]at h
   have e:i.toNat=j:=Option.some.inj h
   exact⟨by rw[seqIndex_of h0 h1,e],by omega,by omega,h1⟩
  ·rw[if_neg h1]at h; cases h
 ·rw[if_neg h0]at h
  by_cases h1 : -(n:Int)<=i
  ·rw[if_pos h1]at h
   have e:(i+n).toNat=j:=Option.some.inj h
   exact⟨by rw[seqIndex_neg (by omega) h1,e],by omega,h1,by omega⟩
  ·rw[if_neg h1]at h; cases h
theorem Hq{α : Type}{xs:List α}{i:Int}{v : α}(h:dI xs i=some v):∃j,seqIndex? i xs.length=some j/\xs[j]?=some v/\j<xs.length /\ -(xs.length:Int)<=i/\i<xs.length:=by
 unfold dI at h
 cases e:gh xs.length i with
 |none=>rw[e]at h; cases h
 |some j =>
  rw[e]at h
  obtain⟨h1,h2,h3,h4⟩:=Z2 e
  exact⟨j,h1,h,h2,h3,h4⟩
def Qh(b:Expr):Prop:=∀o i,subscripted b false o i=operate [o,i] (getItem o i)
noncomputable def pX(X:Cx)(r:R2):Prop :=
 ∀(value slice:Expr) (pins:List (Addr × Obj)) (s:Shared) (σ : St) (H:Hp) (x y:V) (v u:Value) (Q:VK),Inv X pins σ H s->RelV x v->RelV y u->r x y H Q ->
  subscripted slice false v u=operate [v,u] (getItem v u)->wpAny (model X.prog X.w) X.A (subscriptTail value slice v u) (EP X pins σ Q) X.xe s
noncomputable def Qi(X:Cx)(id:String)(r:V->List V->Hp->VK->Prop):Prop :=
 ∀(pins:List (Addr × Obj)) (s:Shared) (σ : St) (H:Hp) (x:V) (xs:List V) (v:Value) (us:List Value) (Q:VK),Inv X pins σ H s->RelV x v->Vals xs us->r x xs H Q ->
  wpAny (model X.prog X.w) X.A (call (.builtin id) (v::us)) (EP X pins σ Q) X.xe s
section
variable {X:Cx}{a b:Expr}{ta tb:TE}{pos:Pos}
theorem pX.or{r r':R2}(h:pX X r)(h':pX X r'):pX X (λx y H Q=>r x y H Q\/r' x y H Q):=by
 intro value slice pins s σ H x y v u Q I rx ry q hs
 rcases q with q|q
 ·exact h value slice pins s σ H x y v u Q I rx ry q hs
 ·exact h' value slice pins s σ H x y v u Q I rx ry q hs
theorem wA{r:R2}(hr:pX X r)(ha:PE X a ta)(hb:PE X b tb)(hs:Qh b):PE X (.Subscript a b pos) (gD r ta tb):=by
 refine⟨λpins s σ H Q I h=>?_⟩
 exact Subscript_ (G6 ha hb I h λv u s2 x y H2 I2 rx ry q=>hr a b pins s2 σ H2 x y v u Q I2 rx ry q (hs _ _))
def Qj(K:FZ):R2:=λx y H Q=>∃p xs i v,x=.ref p/\y=.int i/\bZ K H p xs/\dI xs i=some v/\Q v H
def Qk(K:FZ):R2:=λx y H Q=>∃p xs i v,x=.ref p/\y=.int i/\cV K H p xs/\dI xs i=some v/\Q v H
def Ql:R2:=λx y H Q=>∃z i c,x=.str z/\y=.int i/\z.length<=sizeLine/\dI z.cps.toList i=some c/\Q (.str ⟨#[c]⟩) H
theorem Z4:pX X (Qj X.K):=by
 intro value slice pins s σ H x y v u Q I rx ry h hs
 obtain⟨p,xs,i,z,rfl,rfl,hq,he,q⟩:=h
 cases rx
 obtain⟨t,rfl⟩:=ry
 obtain⟨its,r,pl,hz⟩:=I.list hq
 obtain⟨j,h1,h2,h3,h4,h5⟩:=Hq he
 obtain⟨w,ew,uh⟩:=r.get h2
 have hl:=r.length
 have hn:=wu
 have fin:EP X pins σ Q w s:=⟨z,H,I,uh,q⟩
 by_cases h0:0<=i
 ·have hj:i.toNat=j:=by
   rw[seqIndex_of h0 h5]at h1
   exact Option.some.inj h1
  exact item_listR pl.isList h0 (by omega) (by rw[hj]; simpa using ew) fin hs
 ·have hj:(i+(its.toArray.size:Int)).toNat=j:=by
   rw[seqIndex_neg (by omega) h4]at h1
   rw[List.size_toArray,<-hl]
   exact Option.some.inj h1
  exact subscriptTail_builtinR (x:=w) pl.isList.typeIs slot_list_getitem.lookup
   (wpAny_getItem_list_neg (Q:=λr s'=>r=w/\EP X pins σ Q r s') pl.isList (by omega) (by rw[List.size_toArray] <;> omega) (by omega) (by rw[hj]; simpa using ew) ⟨rfl,fin⟩) hs
theorem Z5:pX X (Qk X.K):=by
 intro value slice pins s σ H x y v u Q I rx ry h hs
 obtain⟨p,xs,i,z,rfl,rfl,hq,he,q⟩:=h
 cases rx
 obtain⟨t,rfl⟩:=ry
 obtain⟨its,r,pl,hz⟩:=I.tuple hq
 obtain⟨j,h1,h2,h3,h4,h5⟩:=Hq he
 obtain⟨w,ew,uh⟩:=r.get h2
 have hl:=r.length
 have hn:=wu
 have fin:EP X pins σ Q w s:=⟨z,H,I,uh,q⟩
 exact subscriptTail_builtinR (x:=w) pl.typeIs slot_tuple_getitem.lookup
  (getItem_tuple (j:=j) (Q:=λr s'=>r=w/\EP X pins σ Q r s') pl (by omega) (by omega) (by rw[List.size_toArray,<-hl]; exact h1) (by simpa using ew) ⟨rfl,fin⟩) hs
theorem Z6:pX X Ql:=by
 intro value slice pins s σ H x y v u Q I rx ry h hs
 obtain⟨z,i,c,rfl,rfl,hz,he,q⟩:=h
 obtain⟨t,rfl⟩:=rx
 obtain⟨t',rfl⟩:=ry
 obtain⟨j,h1,h2,h3,h4,h5⟩:=Hq he
 have hl:z.cps.toList.length=z.length:=by simp[Str.length]
 rw[hl]at h1 h4 h5
 have hn:=wu
 exact tail_any (typeIs_str s z t) slot_str_getitem.lookup (getItem_str (c:=c) (by
  have e1:decide (i < -(2 ^ 63:Int))=false:=decide_eq_false (by omega)
  have e2:decide (i >= 2 ^ 63)=false:=decide_eq_false (by omega)
  rw[e1,e2,Bool.or_false]) (by rw[h1]; simpa using h2) ⟨.str ⟨#[c]⟩,H,I.tok _,⟨_,rfl⟩,q⟩) hs
def BJ(K:FZ):R2:=λx y H Q=>Qj K x y H Q\/Qk K x y H Q\/Ql x y H Q
theorem wB:pX X (BJ X.K):=Z4.or (Z5.or Z6)
theorem Z7(lo hi:Option Int)(n:Nat):(sliceBounds lo hi none n).1=((HT.bQ n 0 lo:Nat):Int)/\(sliceBounds lo hi none n).2.1=((HT.bQ n n hi:Nat):Int)/\(sliceBounds lo hi none n).2.2=1:=by
 refine⟨?_,?_,rfl⟩
 ·cases lo with
  |none=>simp[sliceBounds,HT.bQ]
  |some i =>
   simp only[sliceBounds,HT.bQ,Option.getD_none,show(1:Int) > 0 by decide,if_true]
   by_cases h:i<0
   ·simp only[h,if_true] <;> omega
   ·simp only[h,if_false] <;> omega
 ·cases hi with
  |none=>simp[sliceBounds,HT.bQ]
  |some i =>
   simp only[sliceBounds,HT.bQ,Option.getD_none,show(1:Int) > 0 by decide,if_true]
   by_cases h:i<0
   ·simp only[h,if_true] <;> omega
   ·simp only[h,if_false] <;> omega
theorem Z8(its:List Value)(lo hi:Option Int):slicePick its.toArray lo hi none=((its.drop (HT.bQ its.length 0 lo)).take (HT.bQ its.length its.length hi-HT.bQ its.length 0 lo)).toArray:=by
 obtain⟨h1,h2,h3⟩:=Z7 lo hi its.toArray.size
 unfold slicePick
 rw[h1,h2,h3]
 simp only[sliceRange_one,pick_run,List.size_toArray] <;> rfl
def Qm(K:FZ):V->Option Int->Option Int->Hp->VK->Prop:=λx lo hi H Q=>∃a xs,x=.ref a/\bZ K H a xs/\∀p,H p=none->Q (.ref p) (upd H p (.lst (rH xs lo hi)))
theorem Z9:m6 X (Qm X.K):=by
 intro pins s σ H x v vl vu lo hi sl Q I rx hs pl pu h
 obtain⟨a,xs,rfl,hx,q⟩:=h
 cases rx
 obtain⟨its,r,ht,hz⟩:=I.list hx
 have hlen:=r.length
 refine⟨"list",_,slot_list_getitem.lookup,ht.isList.typeIs,?_⟩
 refine wpAny_getItem_list_slice ht.isList hs pl pu .none (by simp) ?_ (by rw[List.size_toArray] <;> omega)
 rw[Z8,<-hlen]
 refine⟨.ref s.heap.objs.size,_,I.laid (t':=s.toks) (o:=.lst (rH xs lo hi)) (λb ob q=>Heap.get?_push_of_some _ q) (Nat.le_refl _) ?_,rfl,q _ (I.hok.fresh (Nat.le_refl _))⟩
 exact⟨Nat.le_trans (Qd xs lo hi) hz,_,0,(r.drop (HT.bQ xs.length 0 lo)).take (HT.bQ xs.length xs.length hi-HT.bQ xs.length 0 lo),Heap.get?_push_size _ rfl⟩
theorem aac:iH X (.builtin "len") (λxs H Q=>∃p ys,xs=[.ref p]/\(bZ X.K H p ys\/cV X.K H p ys)/\Q (.int ys.length) H):=by
 intro pins s σ H xs us Q I r h
 obtain⟨p,ys,rfl,hq,q⟩:=h
 obtain⟨u,rfl,rx⟩:=vals1 r
 cases rx
 have hn:=wu
 rcases hq with hq|hq
 ·obtain⟨its,r',pl,hz⟩:=I.list hq
  have hlen:=r'.length
  exact Calls.call_len_list pl.isList (by simp only[List.size_toArray] <;> omega) ⟨.int ys.length,H,I.tok _,⟨s.toks+1,by rw[List.size_toArray,hlen]⟩,q⟩
 ·obtain⟨its,r',pl,hz⟩:=I.tuple hq
  have hlen:=r'.length
  exact len_tuple pl (by simp only[List.size_toArray] <;> omega) ⟨.int ys.length,H,I.tok _,⟨s.toks+1,by rw[List.size_toArray,hlen]⟩,q⟩
theorem aad:iH X (.builtin "len") (λxs H Q=>∃z,xs=[.str z]/\z.length<=sizeLine/\Q (.int z.length) H):=by
 intro pins s σ H xs us Q I r h
 obtain⟨z,rfl,hz,q⟩:=h
 obtain⟨u,rfl,t,rfl⟩:=vals1 r
 have hn:=wu
 exact len_str (by omega) ⟨.int z.length,H,I.tok _,⟨_,rfl⟩,q⟩
theorem iH.or{f:Value}{r r':List V->Hp->VK->Prop}(h:iH X f r)(h':iH X f r'):iH X f (λxs H Q=>r xs H Q\/r' xs H Q):=by
 intro pins s σ H xs us Q I rs q
 rcases q with q|q
 ·exact h pins s σ H xs us Q I rs q
 ·exact h' pins s σ H xs us Q I rs q
noncomputable def Hr(K:FZ)(T:String)(x:V)(H:Hp):Prop:=match x with
 |.str _=>T = "str"
 |.int _=>T = "int"
 | .ref p=>(T = "list" ∧ ∃xs,bZ K H p xs)∨(T = "tuple" ∧ ∃o,K.lookup p=some o∧o.cls=.type "tuple" ∧ o.dict=none) ∨
   (T = "dict" ∧ ((∃kvs,H p=some (.dK kvs))∨∃kvs,H p=some (.dT kvs)))∨(T = "set" ∧ ∃S n,H p=some (.set S n))
 |_=>False
theorem Qn{pins:List (Addr × Obj)}{σ : St}{H:Hp}{s:Shared}{T:String}{x:V}{v:Value}(I:Inv X pins σ H s)(r:RelV x v)(ty:Hr X.K T x H) :
  s.TypeIs v T/\∀a,v=.ref a->∃ob,s.heap.get? a=some ob/\ob.dict=none:=by
 cases x with
 |str z =>
  obtain⟨t,rfl⟩:=r
  cases(show T = "str" from ty)
  exact⟨typeIs_str s z t,λ_ e=>nomatch e⟩
 |int i =>
  obtain⟨t,rfl⟩:=r
  cases(show T = "int" from ty)
  exact⟨typeIs_int s i t,λ_ e=>nomatch e⟩
 |ref p =>
  cases r
  rcases ty with⟨rfl,xs,hq⟩|⟨rfl,o,hk,hc,hd⟩|⟨rfl,hk⟩|⟨rfl,S,n,hk⟩
  ·obtain⟨its,_,pl,_⟩:=I.list hq
   refine⟨pl.isList.typeIs,λa e=>?_⟩
   cases e
   obtain⟨o,n,e,c,hd,_⟩:=pl
   exact⟨o,e,hd⟩
  ·refine⟨⟨o,I.jQ p o hk,hc⟩,λa e=>?_⟩
   cases e
   exact⟨o,I.jQ _ o hk,hd⟩
  ·have z:∃o,s.heap.get? p=some o/\o.ExactDict:=by
    rcases hk with⟨kvs,hk⟩|⟨kvs,hk⟩
    ·obtain⟨_,_,_,_,o,_,_,e,ex,_⟩:=I.hok p _ hk
     exact⟨o,e,ex⟩
    ·obtain⟨_,_,_,_,o,_,_,e,ex,_⟩:=I.hok p _ hk
     exact⟨o,e,ex⟩
   obtain⟨o,e,ex⟩:=z
   refine⟨⟨o,e,ex.1⟩,λa e2=>?_⟩
   cases e2
   exact⟨o,e,ex.2.1⟩
  ·obtain⟨o,_,_,_,e,ex,_⟩:=I.hok p _ hk
   refine⟨⟨o,e,ex.1⟩,λa e2=>?_⟩
   cases e2
   exact⟨o,e,ex.2.1⟩
 |_=>exact False.elim ty
def Hs(K:FZ)(T:String)(r:V->List V->Hp->VK->Prop)(to:TE):TE:=λσ H Q=>to σ H λx H1=>Hr K T x H1/\r x [] H1 Q
def Ht(K:FZ)(T:String)(r:V->List V->Hp->VK->Prop)(to:TE)(t:TA):TE:=λσ H Q=>to σ H λx H1=>Hr K T x H1/\t σ H1 λxs H2=>r x xs H2 Q
variable {o e:Expr}{es:List Expr}{to:TE}{t:TA}{name:Str}{apos cpos:Pos}{T id:String}{r:V->List V->Hp->VK->Prop}
theorem aae(pa:PlainAttrs T)(slot:Slot T name id)(hty:typeOf (.builtin id)=pure (.type "method_descriptor")) (hm:Qi X id r) (ho:PE X o to)
  (hbase:attributeBase o name X.env (eval o X.env)=eval o X.env:=by rfl) (hline:(apos.endLine == cpos.line)=true:=by rfl):PE X (.Call (.Attribute o name apos) [] [] cpos) (Hs X.K T r to):=by
 refine⟨λpins s σ H Q I h=>?_⟩
 refine wpAny_Call_method0_late hbase hline (bD (ho pins s σ H _ I h) λv s1 ⟨x,H1,I1,r1,ty,q1⟩=>?_)
 obtain⟨h1,h2⟩:=Qn I1 r1 ty
 exact⟨T,id,pa,slot,hty,h1,h2,Calls.callWith_builtin rfl (PySem.evalArgs_none (hm pins s1 σ H1 x [] v [] Q I1 r1 .nil q1))⟩
theorem BK(pa:PlainAttrs T)(slot:Slot T name id)(hty:typeOf (.builtin id)=pure (.type "method_descriptor")) (hm:Qi X id r) (ho:PE X o to) (ha:PA X (e::es) t)
  (hbase:attributeBase o name X.env (eval o X.env)=eval o X.env:=by rfl)
  (hfew:((backTo cpos (starEach (e::es) X.env)).all (λx=>!x.1)&&(backToKw cpos (keywordEach [] X.env)).all (λx=>x.1.isSome)
   && decide ((e::es).length+([]:List Keyword).length+(if([]:List Keyword).isEmpty then 0 else 1)<30))=true:=by rfl)
  (hline:(apos.endLine == cpos.line)=true:=by rfl) (hs:starEach (e::es) X.env=(false,eval e X.env)::starEach es X.env:=by rfl) (hplain:(backTo cpos (starEach es X.env)).any (·.1)=false:=by rfl) :
  PE X (.Call (.Attribute o name apos) (e::es) [] cpos) (Ht X.K T r to t):=by
 refine⟨λpins s σ H Q I h=>?_⟩
 refine wpAny_Call_method_late hbase hfew hline rfl (bD (ho pins s σ H _ I h) λv s1 ⟨x,H1,I1,r1,ty,q1⟩=>?_)
 obtain⟨h1,h2⟩:=Qn I1 r1 ty
 refine⟨T,id,pa,slot,hty,h1,h2,?_⟩
 have hA:=ha cpos pins s1 σ H1 _ I1 q1
 rw[hs]at hA ⊢
 refine Calls.callWith_builtin (by show(false || (backTo cpos (starEach es X.env)).any (·.1))=false; rw[hplain] <;> rfl) (Calls.evalArgs_plain ?_)
 exact bD hA λus s2 ⟨vs,H2,I2,r2,q2⟩=>hm pins s2 σ H2 x vs v us Q I2 r1 r2 q2
end
noncomputable def Hu(X:Cx)(id:String)(r:V->List V->Hp->VK->Prop):Prop :=
 ∀(pins:List (Addr × Obj)) (s:Shared) (σ : St) (H:Hp) (x:V) (xs:List V) (v:Value) (us:List Value) (Q:VK),Inv X pins σ H s->RelV x v->Vals xs us->r x xs H Q ->
  wpAny (model X.prog X.w) X.A (call (.builtin id) (v::us)) (EP X pins σ Q) X.xe s
theorem Vals.one:∀{x:V} {us:List Value},Vals [x] us->∃u,us=[u]/\RelV x u
 |_,_,.cons r .nil=>⟨_,rfl,r⟩
theorem Vals.zero:∀{us:List Value},Vals [] us->us=[]
 |_,.nil=>rfl
theorem Vals.dropLast{xs:List V}{us:List Value}(h:Vals xs us):Vals xs.dropLast us.dropLast:=by
 induction h with
 |nil=>exact .nil
 |cons r t ih =>
  cases t with
  |nil=>exact .nil
  |cons q t'=>exact .cons r ih
theorem Vals.rep{xs:List V}{us:List Value}(h:Vals xs us):∀k:Nat,Vals (List.replicate k xs).flatten (List.replicate k us).flatten
 | 0=>.nil
 |k+1=>by
  rw[List.replicate_succ,List.replicate_succ,List.flatten_cons,List.flatten_cons]
  exact Vals.append h (Vals.rep h k)
theorem aaf{α : Type}(l:List α):l.eraseIdx (l.length-1)=l.dropLast:=by
 induction l with
 |nil=>rfl
 |cons a r ih =>
  cases r with
  |nil=>rfl
  |cons b r =>
   have e:(a::b::r).length-1=((b::r).length-1)+1:=by
    have h1:(a::b::r).length=r.length+2:=rfl
    have h2:(b::r).length=r.length+1:=rfl
    omega
   rw[e,List.eraseIdx_cons_succ,ih]
   all_goals rfl
theorem foldl_rep(its:List Value):∀(k:Nat) (acc:List Value),
  List.foldl (λx1 x2=>x1++x2) acc.toArray (List.replicate k its.toArray)=(acc++(List.replicate k its).flatten).toArray
 | 0,acc=>by simp
 |k+1,acc=>by
  have e:acc.toArray++its.toArray=(acc++its).toArray:=by simp
  have e2:(acc++its)++(List.replicate k its).flatten=acc++(List.replicate (k+1) its).flatten:=by
   rw[List.replicate_succ,List.flatten_cons,List.append_assoc]
  rw[<-e2,<-foldl_rep its k (acc++its),<-e,List.replicate_succ,List.foldl_cons]
section
variable {X:Cx}{pins:List (Addr × Obj)}{σ : St}{H:Hp}{s:Shared}{l b:Addr}{xs ys zs:List V}
theorem Inv.Qo{its its':List Value}{n:Nat}{f:Array Value->Array Value}{t':Nat}(I:Inv X pins σ H s)(hH:H l=some (.lst xs))
  (e:s.heap.get? l=some {cls:=.type "list",data:=.seq its.toArray n }) (hf:f its.toArray=its'.toArray) (hv:Vals ys its') (hz:ys.length<=sizeLine) :
  Inv X pins σ (upd H l (.lst ys)) {s with heap:=s.heap.update l (Obj.mapSeq f),toks:=t' }:=by
 have q:=PySem.IsL.update e f
 rw[hf]at q
 refine I.write (x:=l) (e:=l) (by rw[hH]; exact trivial) (.inl rfl) (λb' u hb hu=>(Heap.get?_update_other s.heap (Obj.mapSeq f) (Ne.symm hb)).trans hu) ⟨_,q⟩ ?_
 exact⟨hz,its',_,hv,q⟩
theorem Inv.Hv{its:List Value}{t':Nat}(I:Inv X pins σ H s)(hv:Vals ys its)(hz:ys.length<=sizeLine) :
  Inv X pins σ (upd H s.heap.objs.size (.lst ys)) {s with heap:=s.heap.push {cls:=.type "list",data:=.seq its.toArray },toks:=t' } :=
 I.laid (λ_ _ q=>Heap.get?_push_of_some _ q) (Nat.le_refl _) ⟨hz,its,0,hv,Heap.get?_push_size _ rfl⟩
theorem Inv.fresh(I:Inv X pins σ H s):H s.heap.objs.size=none:=I.hok.fresh (Nat.le_refl _)
theorem Inv.Qp(I:Inv X pins σ H s)(hH:H l=some (.lst xs)):xs.length<=sizeLine/\∃(its:List Value) (n:Nat),Vals xs its/\xs.length=its.length/\s.heap.get? l=some {cls:=.type "list",data:=.seq its.toArray n }:=by
 obtain⟨z,its,n,r,e⟩:=I.hok l _ hH
 exact⟨z,its,n,r,r.length,e⟩
theorem aag{n:Nat}(h:n<=sizeLine):Builtin.List.listTooLong n=false:=by
 unfold Builtin.List.listTooLong
 exact decide_eq_false (by omega)
end
section
variable {X:Cx}
def Hw:V->List V->Hp->VK->Prop:=λx vs H Q=>∃l xs y,x=.ref l/\vs=[y]/\H l=some (.lst xs)/\xs.length<sizeLine/\Q .non (upd H l (.lst (xs++[y])))
theorem yC:Hu X "list.append" Hw:=by
 intro pins s σ H x vs v us Q I rx rv h
 obtain⟨l,xs,y,rfl,rfl,hH,hz,q⟩:=h
 cases rx
 obtain⟨u,rfl,ru⟩:=rv.one
 obtain⟨z,its,n,r,hl,e⟩:=I.Qp hH
 refine call_meets F.slot_list_append ⟨_,e,rfl⟩ F.entry_list_append (F.args_list_append_2 _ _) (PySem.list_append l its.toArray n u (by rw[List.size_toArray]; omega)) ⟨e,?_⟩
 refine⟨.non,_,I.Qo (its':=its++[u]) hH e (by simp) (r.append (.cons ru .nil)) ?_,rfl,q⟩
 rw[List.length_append,List.length_singleton]
 omega
def Hx:V->List V->Hp->VK->Prop:=λx vs H Q=>∃l xs y,x=.ref l/\vs=[]/\H l=some (.lst xs)/\xs[xs.length-1]?=some y/\Q y (upd H l (.lst xs.dropLast))
theorem aah:Hu X "list.pop" Hx:=by
 intro pins s σ H x vs v us Q I rx rv h
 obtain⟨l,xs,y,rfl,rfl,hH,hy,q⟩:=h
 cases rx
 have hus:=rv.zero
 subst hus
 obtain⟨z,its,n,r,hl,e⟩:=I.Qp hH
 obtain⟨u,hu,ru⟩:=r.get hy
 have hy':its.toArray[its.toArray.size-1]?=some u:=by
  show its.toArray[its.length-1]?=some u
  rw[<-Array.getElem?_toList,<-hl]
  exact hu
 refine call_meets F.slot_list_pop ⟨_,e,rfl⟩ F.entry_list_pop (F.args_list_pop_1 _) (MeetsSeq.list_pop_last l its.toArray n u hy' (by rw[List.size_toArray]; omega)) ⟨e,?_⟩
 refine⟨y,_,I.Qo (its':=its.dropLast) hH e ?_ r.dropLast ?_,ru,q⟩
 ·show its.toArray.eraseIdxIfInBounds (its.toArray.size-1)=its.dropLast.toArray
  rw[List.size_toArray,List.eraseIdxIfInBounds_toArray,aaf]
 ·rw[List.length_dropLast]
  omega
theorem len_rep{α : Type}(xs:List α)(k:Nat):(List.replicate k xs).flatten.length=k*xs.length:=by
 induction k with
 |zero=>simp
 |succ k ih=>rw[List.replicate_succ,List.flatten_cons,List.length_append,ih,Nat.succ_mul,Nat.add_comm]
end
end L2
namespace Qq
open PySem PySem.W PySem.Calls PyProof.Rows
theorem aai{P:Params}{h:Heap}:∀(ns:List Int) (vs:List Value),WellAll P h vs (ns.map WData.int)->IntsAre vs ns:=by
 intro ns
 induction ns with
 |nil =>
  intro vs w
  rw[List.map_nil]at w
  cases w
  exact .nil
 |cons n ns ih =>
  intro vs w
  rw[List.map_cons]at w
  cases w with
  |cons a b =>
   cases a
   exact .cons _ _ (ih _ b)
theorem aaj{l:OpenLaw}{n:Nat}(hn:l.most=some n){P:Params}{h:Heap}{args:List WData}{vals:List Value}
  (hpre:l.row.toRowW.claim.pre args=true) (hwl:WellAll P h vals args) :
  ∃a vs ns,vals=[Value.ref a]/\args=[WData.list (ns.map WData.int)]/\h.get? a=some {cls:=.type "list",data:=.seq vs.toArray }/\IntsAre vs ns/\ns.length<=n:=by
 have hsh:WShape.hasAll [] args [.list .int]=true:=(pre_splitW hpre).1
 have hc:l.pre.holds [] {args:=args }=true:=(pre_splitW hpre).2
 obtain⟨d,r,rfl,h1,h2⟩:=hasAllW_cons hsh
 obtain rfl:=hasAllW_nil h2
 obtain⟨xs,rfl,h3⟩:=hasW_list h1
 obtain⟨ns,rfl⟩:=items_int h3
 have hlen:ns.length<=n:=by
  unfold OpenLaw.pre at hc
  have h4:(WTm.not (.lt (.lit (.int (n:Int))) (.len (.arg 0)))).holds [] {args:=[.list (ns.map .int)] }=true:=by
   have h4:=(holds_andW hc).1
   rw[hn]at h4
   exact h4
  have h5:=condW_of h4 (w_not (w_lt w_lit (w_len_list (w_arg rfl))))
  rw[List.length_map]at h5
  refine Nat.le_of_not_lt λq=>?_
  have q':(n:Int)<((ns.length:Nat):Int):=by omega
  first
   |(rw[decide_eq_true q']at h5; exact absurd h5 (by decide))
   |(simp at h5; omega)
 cases hwl with
 |cons w1 w2 =>
  cases w2
  cases w1 with
  |list ho hall=>exact⟨_,_,ns,rfl,rfl,ho,aai ns _ hall,hlen⟩
theorem aak(l:OpenLaw)(args:List WData):l.row.toRowW.claim.post args (.bool true) args=true :=
 postW_of (r:=l.row.toRowW) (X:=(true == true))
  (show WShape.has [] (.bool true) .bool=true by first|rfl|decide|simp[WShape.has,WShape.arms,WShape.armsAll])
  (show(WTm.eq .res (.lit (.bool true))).value [] {args:=args,res:=some (.bool true),after:=args }=some (.bool (true == true))from w_eq_bool (w_res rfl) w_lit) rfl
theorem aal{l:OpenLaw}{n:Nat}{q:Program}{loose:List Str}{XP:(Str->Option Value)->Heap->Prop}{YP:World->Heap->Prop}{d:DefRec}
  (hn:l.most=some n) (hdf:d.params.defaults=[])
  (call:∀(w:World) (s₀ s₁ : Shared) (mg mb:Str->Option Value) (fa:Addr) (o:Obj) (pm cd doc:Value) (a:Addr) (vs:List Value) (ns:List Int),
   Ground q loose [] XP w s₀ mg mb s₁.heap->YP w s₁.heap ->
   s₁.heap.get? fa=some o->o.data=.func (docDef d.name d.params d.body d.scope pm cd doc)->s₁.heap.CodeRec cd d.name->mg d.name=some (.ref fa) ->
   s₁.heap.get? a=some {cls:=.type "list",data:=.seq vs.toArray }->IntsAre vs ns->ns.length<=n->s₁.gens = #[] ->
   codeAny (model l.prog w) callerA (.call (.ref fa) ⟨[.ref a],[]⟩) (λr s'=>r=.ok (.ret (.bool true))/\OldK s₁.heap s'.heap/\s'.os=s₁.os/\AllBare s'.gens) s₁) :
  WalkO q loose XP YP l.row.toRowW d [] (λf vs=>PySem.call f vs):=by
 intro w s₀ s₁ mg mb G Y fa o pm cd doc dV kV ho hd hcd hD hmg hg args vals as hpre hlay hrd hwl hlo
 obtain rfl:dV=.none:=Dflts.none hD hdf
 obtain rfl:kV=.none:=Dflts.noKw hD
 obtain⟨a,vs,ns,rfl,rfl,hobj,hints,hlen⟩:=aaj hn hpre hwl
 refine enter_call (codeAny_mono (call w s₀ s₁ mg mb fa o pm cd doc a vs ns G Y ho (fd_plain hd) hcd hmg hobj hints hlen hg) λr s' hq=>?_)
 obtain⟨rfl,h2,h3,h4⟩:=hq
 exact⟨.inl ⟨.bool true,.bool true,[],rfl,λ_=>rfl,.bool true,aak l _,λ_=>⟨List.Pairwise.nil,λ_ hm=>(nomatch hm)⟩⟩,h2,h3,h4⟩
end Qq
namespace L2
open PySem PySem.Spec PyProof.Rows
theorem Hy:∀{vs:List Value} {ns:List Int},IntsAre vs ns->Vals (ns.map V.int) vs
 |_,_,.nil=>.nil
 |_,_,.cons n t h=>.cons ⟨t,rfl⟩ (Hy h)
def oN(s:Stmt):Arguments:=match s with
 |.FunctionDef _ a _ _ _ _ _ _ _ _=>a
 |_=>{posonlyargs:=[],args:=[],vararg:=none,kwonlyargs:=[],kw_defaults:=[],kwarg:=none,defaults:=[] }
def jE(s:Stmt):List Stmt:=match s with
 |.FunctionDef _ _ b _ _ _ _ _ _ _=>b
 |_=>[]
def bx(s:Stmt):Scope:=match s with
 |.FunctionDef _ _ _ _ _ _ sc _ _ _=>sc
 |_=>{kind:=.function,names:=[],isGenerator:=false,isCoroutine:=false }
abbrev E0:XK:=λ_ _ _=>False
structure uq(K:FZ)(x qual:Str)(st:Stmt)(f:Addr)(fd:FuncData):Prop where
 ex:∃(oc:Value) (od:Option Addr) (kV doc pm:Value) (an:Option Addr) (cdv ct:Value) (osl:Array (Option Value)),
  fd=PySem.W.fnOf x qual (oN st) (jE st) (bx st) .none kV doc pm an cdv ct/\K.lookup f=some ⟨oc,od,.func fd,osl⟩/\PySem.W.codeIn K cdv qual=true
 kp:PySem.W.keepIn K (.ref f)=true
section
variable {P:Program}{w:World}{K:FZ}{mg:Str->Option Value}{base:Heap}
theorem uq.binds{x qual:Str}{st:Stmt}{f:Addr}{fd:FuncData}{ps:List Str}(F:uq K x qual st f fd)
  (h:∀(kV doc pm:Value) (an:Option Addr) (cdv ct:Value) (us:List Value),us.length=ps.length->bindArgs (PySem.W.fnOf x qual (oN st) (jE st) (bx st) .none kV doc pm an cdv ct) ⟨us,[]⟩=pure (ps.zip us)):Binds K fd ps []:=by
 obtain⟨oc,od,kV,doc,pm,an,cdv,ct,osl,rfl,lk,hcd⟩:=F.ex
 exact .all (h kV doc pm an cdv ct)
theorem Qs{x qual:Str}{st:Stmt}{f:Addr}{oc:Value}{od an:Option Addr}{osl:Array (Option Value)}{kV doc pm cdv ct:Value}(l:K.lookup f=some ⟨oc,od,.func (PySem.W.fnOf x qual (oN st) (jE st) (bx st) .none kV doc pm an cdv ct),osl⟩)
  (c:PySem.W.codeIn K cdv qual=true) (k:PySem.W.keepIn K (.ref f)=true):uq K x qual st f (PySem.W.fnOf x qual (oN st) (jE st) (bx st) .none kV doc pm an cdv ct):=⟨⟨oc,od,kV,doc,pm,an,cdv,ct,osl,rfl,l,c⟩,k⟩
end
theorem aam{A:Around}{k:Nat}(hr:fL k A):A.units+1<cLine:=Nat.lt_of_le_of_lt (Nat.add_le_add_left (by decide:1<=64) _) hr.units
theorem Hz{n:Nat}(h:n<=1000):n<sizeLine:=Nat.lt_of_le_of_lt h (by decide)
def Same(H H':Hp):Prop:=∀b o,H b=some o->H' b=some o
theorem Same.refl(H:Hp):Same H H:=λ_ _ h=>h
theorem Same.trans{H H1 H2:Hp}(a:Same H H1)(b:Same H1 H2):Same H H2:=λc o h=>b c o (a c o h)
theorem Same.free{H H':Hp}(e:Same H H'){l:Addr}(h:H' l=Option.none):H l=Option.none:=by
 cases q:H l with
 |none=>rfl
 |some o =>
  rw[e l o q]at h
  cases h
theorem Same.seq{K:FZ}{H H':Hp}{a:Addr}{xs:List V}(e:Same H H')(h:bZ K H a xs):bZ K H' a xs:=by
 rcases h with(h|⟨o,h⟩)|h
 ·exact .inl (.inl (e _ _ h))
 ·exact .inl (.inr ⟨o,e _ _ h⟩)
 ·exact .inr h
section
variable {prog:Program}{w:World}{A:Around}{R:Result->Shared->Prop}{s:Shared}
theorem aan{elt target iter:Expr}{scope:Scope}{pos:Pos}{it acc:Value}{env:Env}(I:Nat->Shared->Prop)
  (turn:∀n s,I n s->wpAny (model prog w) A (pyNext it) (λr s₁=>match r with
   |none=>R (.ok .next) s₁
   | some v=>wpAny (model prog w) A (letOwnedTupleGo target it v) (λ_ s₁'=>wpAny (model prog w) A (assign target env v) (λ_ s₂ => wpAny (model prog w) A (eval elt env) (λx s₃ =>
     wpAny (model prog w) A (call (.builtin "list.append") [acc,x]) (λ_ s₄=>∃m,m<n/\I m s₄) (λ_ _=>False) s₃) (λ_ _=>False) s₂) (λ_ _=>False) s₁') (λ_ _=>False) s₁) (λ_ _=>False) s)
  (n:Nat) (h:I n s) :
  codeAny (model prog w) A (.compLoop (.ListComp elt [⟨target,iter,[],0⟩] scope pos) 0 it acc env) R s:=by
 refine codeAny_loop rfl I (λn s hI=>?_) n h
 show wpAny _ _ ((compTurn (.ListComp elt [⟨target,iter,[],0⟩] scope pos) 0 it acc env).onRaise (λx=>do noteFrame x env; theTreesLotGoes x)) _ _ s
 refine wpAny_noted (wpAny_noRaise ?_)
 rw[compTurn_list1]
 refine wpAny_bind (wpAny_standAt (wpAny_bind (wpAny_mono (turn n s hI) (λr s₁ h₁=>?_) λ_ _ h'=>h')))
 cases r with
 |none=>exact wpAny_pure h₁
 |some v =>
  refine wpAny_bind (wpAny_mono h₁ (λ_ s₁' h₁'=>?_) λ_ _ h'=>h')
  exact wpAny_bind (wpAny_mono h₁' (λ_ s₂ h₂=>wpAny_bind (wpAny_bind (wpAny_mono h₂ (λx s₃ h₃=>wpAny_bind (wpAny_mono h₃
   (λ_ s₄ h₄=>wpAny_pure (wpAny_pure ⟨rfl,h₄⟩)) λ_ _ h'=>h')) λ_ _ h'=>h'))) λ_ _ h'=>h')
end
def d8(cells:List (Str × Addr)):List (Str × NameKind)->List (Str × Addr)->List (Str × Addr)
 | [],acc=>acc
 |(n,k)::r,acc=>if k=.free then(match cells.lookup n with|some a=>d8 cells r ((n,a)::acc)|none=>d8 cells r acc)else d8 cells r acc
theorem ur{cells:List (Str × Addr)}{x:Str}{c:Addr}:∀{names:List (Str × NameKind)} {acc:List (Str × Addr)},(d8 cells names acc).lookup x=some c->acc.lookup x=some c\/cells.lookup x=some c
 | [],acc,h=>.inl h
 |(n,k)::r,acc,h=>by
  unfold d8 at h
  split at h
  ·split at h
   ·rename_i a ha
    rcases ur h with q|q
    ·by_cases e:x=n
     ·subst e
      rw[List.lookup_cons,beq_self_eq_true]at q
      cases q
      exact .inr ha
     ·rw[List.lookup_cons,beq_false_of_ne e]at q
      exact .inl q
    ·exact .inr q
   ·exact ur h
  ·exact ur h
theorem uw{cells:List (Str × Addr)}{x:Str}:∀{names:List (Str × NameKind)} {acc:List (Str × Addr)},((acc.lookup x).isSome=true\/((x,NameKind.free)∈names/\(cells.lookup x).isSome=true))->((d8 cells names acc).lookup x).isSome=true
 | [],acc,h=>by
  rcases h with h|⟨h,_⟩
  ·exact h
  ·cases h
 |(n,k)::r,acc,h=>by
  have up:∀a,(acc.lookup x).isSome=true->(List.lookup x ((n,a)::acc)).isSome=true:=λa q=>by
   rw[List.lookup_cons]
   split
   ·rfl
   ·exact q
  unfold d8
  split
  ·rename_i hk
   split
   ·rename_i a ha
    refine uw ?_
    rcases h with h|⟨h,hc⟩
    ·exact .inl (up a h)
    ·rcases List.mem_cons.mp h with e|e
     ·cases e
      refine .inl ?_
      rw[List.lookup_cons,beq_self_eq_true]
      rfl
     ·exact .inr ⟨e,hc⟩
   ·rename_i hn
    refine uw ?_
    rcases h with h|⟨h,hc⟩
    ·exact .inl h
    ·rcases List.mem_cons.mp h with e|e
     ·cases e
      rw[hn]at hc; cases hc
     ·exact .inr ⟨e,hc⟩
  ·rename_i hk
   refine uw ?_
   rcases h with h|⟨h,hc⟩
   ·exact .inl h
   ·rcases List.mem_cons.mp h with e|e
    ·cases e; exact absurd rfl hk
    ·exact .inr ⟨e,hc⟩
theorem HB{scope:Scope}{env:Env}(h:∀y∈scope.names,y.2=.free->(env.cells.lookup y.1).isSome=true):closureFor scope env=pure (d8 env.cells scope.names []):=by
 unfold closureFor
 suffices q:∀(names:List (Str × NameKind)) (acc:List (Str × Addr)),(∀y∈names,y.2=.free->(env.cells.lookup y.1).isSome=true) ->
   (forIn names acc λx r=>do
    match x with
    |(name,kind)=>if(kind == NameKind.free)=true then do let a <-cellOf env name; pure (ForInStep.yield ((name,a)::r))else pure (ForInStep.yield r):Sem _)=pure (d8 env.cells names acc) by
  have z:=q scope.names [] h
  exact(congrArg (λm=>m >>= λcs=>pure cs) z)
 intro names
 induction names with
 |nil=>intro acc _; rfl
 |cons y r ih =>
  intro acc hy
  obtain⟨n,k⟩:=y
  rw[List.forIn_cons]
  unfold d8
  by_cases hk:k=.free
  ·subst hk
   rw[if_pos rfl]
   have q:=hy (n,.free) List.mem_cons_self rfl
   cases e:env.cells.lookup n with
   |none=>rw[e]at q; cases q
   |some a =>
    have ec:cellOf env n=pure a:=by unfold cellOf; rw[e]
    simp only[ec]
    exact ih _ λz hz=>hy z (List.mem_cons_of_mem _ hz)
  ·rw[if_neg hk]
   have hb:(k == NameKind.free)=false:=by simpa using hk
   simp only[hb]
   exact ih _ λz hz=>hy z (List.mem_cons_of_mem _ hz)
theorem Qt{env:Env}:∀{names:List (Str × NameKind)} {x:Str},names.lookup x=some .free ->
  (names.map λ(n,k)=>if(k == NameKind.free&&env.scope.kind == .function&&env.kindOf n == some .cell)then(n,NameKind.cell)else(n,k)).lookup x=some .cell \/
  (names.map λ(n,k)=>if(k == NameKind.free&&env.scope.kind == .function&&env.kindOf n == some .cell)then(n,NameKind.cell)else(n,k)).lookup x=some .free
 | [],_,h=>by simp at h
 |(n,k)::r,x,h=>by
  have ih:=@Qt env r x
  rw[List.map_cons]
  dsimp only
  cases hx:x == n with
  |true =>
   simp only[List.lookup_cons,hx]at h
   cases h
   by_cases hc:(NameKind.free == NameKind.free&&env.scope.kind == .function&&env.kindOf n == some .cell)=true
   ·rw[if_pos hc]; simp[List.lookup_cons,hx]
   ·rw[if_neg hc]; simp[List.lookup_cons,hx]
  |false =>
   simp only[List.lookup_cons,hx]at h
   by_cases hc:(k == NameKind.free&&env.scope.kind == .function&&env.kindOf n == some .cell)=true
   ·rw[if_pos hc]; simp only[List.lookup_cons,hx]; exact ih h
   ·rw[if_neg hc]; simp only[List.lookup_cons,hx]; exact ih h
theorem Qu{env:Env}:∀{names:List (Str × NameKind)} {x:Str},
  ((names.map λ(n,k)=>if(k == NameKind.free&&env.scope.kind == .function&&env.kindOf n == some .cell)then(n,NameKind.cell)else(n,k)).lookup x=some .cell \/
  (names.map λ(n,k)=>if(k == NameKind.free&&env.scope.kind == .function&&env.kindOf n == some .cell)then(n,NameKind.cell)else(n,k)).lookup x=some .free)->names.lookup x=some .cell\/names.lookup x=some .free
 | [],_,h=>by simp at h
 |(n,k)::r,x,h=>by
  have ih:=@Qu env r x
  rw[List.map_cons]at h
  dsimp only at h
  cases hx:x == n with
  |true =>
   by_cases hcc:(k == NameKind.free&&env.scope.kind == .function&&env.kindOf n == some .cell)=true
   ·have hk:k=.free:=by
     simp only[Bool.and_eq_true,beq_iff_eq]at hcc
     exact hcc.1.1
    subst hk
    exact .inr (by simp only[List.lookup_cons,hx])
   ·rw[if_neg hcc]at h
    simp only[List.lookup_cons,hx]at h ⊢
    exact h
  |false =>
   have q:=ih (by
    by_cases hcc:(k == NameKind.free&&env.scope.kind == .function&&env.kindOf n == some .cell)=true
    ·rw[if_pos hcc]at h; simp only[List.lookup_cons,hx]at h; exact h
    ·rw[if_neg hcc]at h; simp only[List.lookup_cons,hx]at h; exact h)
   simp only[List.lookup_cons,hx]
   exact q
theorem rJ:∀(names:List (Str × NameKind)) (n:Nat) (acc:List (Str × Addr)),cellsFrom n names acc=cellsFrom n names []++acc
 | [],_,_=>rfl
 |(x,k)::r,n,acc=>by
  unfold cellsFrom
  split
  ·rw[rJ r (n+1) ((x,n)::acc),rJ r (n+1) [(x,n)],List.append_assoc]
   rfl
  ·exact rJ r n acc
theorem HD:∀(names:List (Str × NameKind)) (n:Nat) {x:Str} {c:Addr},(x,c)∈cellsFrom n names []->(x,NameKind.cell)∈names
 | [],_,_,_,h=>by cases h
 |(y,k)::r,n,x,c,h=>by
  unfold cellsFrom at h
  split at h
  ·rename_i hk
   have hk:k=.cell:=by simpa using hk
   rw[rJ]at h
   rcases List.mem_append.mp h with z|z
   ·exact List.mem_cons_of_mem _ (HD r _ z)
   ·have z:=List.mem_singleton.mp z
    cases z
    rw[hk]
    exact List.mem_cons_self
  ·exact List.mem_cons_of_mem _ (HD r _ h)
theorem yD(x:Str):∀(a b:List (Str × Addr)),(a++b).lookup x=(match a.lookup x with|some c=>some c|none=>b.lookup x)
 | [],_=>rfl
 |(y,c)::r,b=>by
  have ih:=yD x r b
  rw[List.cons_append,List.lookup_cons,List.lookup_cons]
  cases h:x == y with
  |true=>rfl
  |false=>exact ih
theorem aao{M:Model}{A:Around}{E:Value->Shared->Prop}{s:Shared}{scope:Scope}{globals:Addr}{cl:List (Str × Addr)}{qual:Str}{env:Env}{Q:Env->Shared->Prop}
  (hQ:∀h',h'.Ns s.heap.objs.size (λ_=>none)->(∀b o,s.heap.get? b=some o->h'.get? b=some o)->CellsOk h' (s.heap.objs.size+1) (cellsFrom (s.heap.objs.size+1) scope.names []) ->
   Q {scope:=scope,locals:=s.heap.objs.size,globals:=globals,cells:=cellsFrom (s.heap.objs.size+1) scope.names cl,qual:=qual,func:=none,code:=env.code,frame:=env.frame,builtins:=env.builtins } {s with heap:=h',toks:=s.toks+([]:List (Str × Value)).length }) :
  wpAny M A (newFunctionEnv scope globals cl [] qual none .none (some env)) Q E s:=by
 simp only[newFunctionEnv,Option.isSome_some,if_true]
 refine wpAny_bind (wpAny_alloc ?_)
 refine wpAny_bind (wpAny_layCells _ (λname kind cells=>by cases hkc:kind == NameKind.cell <;> simp[hkc]) _ _ _ _ ?_)
 have ok:=cellsFrom_ok scope.names (s.heap.push {cls:=.type "dict",data:=.dict #[] }) (s.heap.objs.size+1) [] ⟨λ_ _ hm=>(nomatch hm),List.Pairwise.nil⟩ (by rw[Heap.size_push]; exact Nat.le_refl _)
 rw[Heap.size_push]at ok
 rw[show({s with heap:=s.heap.push {cls:=.type "dict",data:=.dict #[] } }:Shared).heap.objs.size=s.heap.objs.size+1 from Heap.size_push ..]
 rw[List.forIn_nil]
 exact wpAny_bind (wpAny_pure (wpAny_pure (hQ _ ((Heap.Ns.new s.heap (.type "dict")).keeps (pushCells_keeps _ _)) (λb o e=>pushCells_keeps _ _ b o (Heap.get?_push_of_some _ e)) ok)))
structure yE(sc:Scope)(No N:List Str)(src:List (Option Nat))(scope:Scope):Prop where
 kind:scope.kind=.function
 cells:∀y∈scope.names,y.2=.cell->scope.names.lookup y.1=some .cell
 names:∀y∈scope.names,y.2=.local->scope.names.lookup y.1=some .local
 free:∀y∈scope.names,y.2=.free->sc.names.lookup y.1=some .cell\/sc.names.lookup y.1=some .free
 len:src.length=N.length
 up:∀p∈N.zip src,∀j∈p.2,No[j]?=some p.1/\scope.names.lookup p.1=some .free
def fY(src:List (Option Nat))(σ : St):St:=src.map λo=>o.bind λj=>(σ[j]?).join
noncomputable def lg(X:Cx)(N:List Str)(scope:Scope)(C:Addr)(s:Shared)(H:Hp)(ex:List Addr):Cx where
 prog:=X.prog
 w:=X.w
 K:=X.K
 mg:=X.mg
 base:=X.base
 A:=X.A
 N:=N
 s₀ := s
 H₀ := H
 env:=compEnvC scope (cellsFrom (C+1) scope.names (d8 X.env.cells scope.names [])) C X.env
 outer:=X.stack
 stack:=X.stack
 ex:=ex
 fn:=λx=>scope.names.lookup x == some .cell
 calm:=X.calm
 pn:=[]
 xe:=λ_ _=>False
def Qv(Q:VK)(D:Addr)(H:Hp):Prop:=Q (.ref D) H
noncomputable def ux(wi:TI)(g:TG)(src:List (Option Nat))(te:TE):TE:=λσ H Q=>wi σ H λJ H1=>∀D,H1 D=none ->
 ∃W:Nat->Nat->St->Hp->Prop,(∃m,W 0 m (fY src σ) (upd H1 D (.lst [])))/\∀i m σ' H',W i m σ' H' ->
  (J.stop i H'/\Qv Q D H')\/(J.go i H'/\∀x dg,J.rm i H' x dg->g x σ' dg λσ2 H2=>te σ2 H2 λv H3=>∃xs,H3 D=some (.lst xs)/\xs.length<sizeLine/\∃m',m'<m/\W (i+1) m' σ2 (upd H3 D (.lst (xs++[v]))))
section
variable {X:Cx}{elt tg iter:Expr}{scope sc:Scope}{pos:Pos}{No N:List Str}{src:List (Option Nat)}{wi:TI}{g:TG}{te:TE}
theorem aap{pins:List (Addr × Obj)}{σ : St}{H:Hp}{s:Shared}{h₁ : Heap}{fp:List Addr}{tk:Nat}(hsc:X.env.scope=sc)(lq:X.N=No)(S:yE sc No N src scope)(I:Inv X pins σ H s)
  (hf:∀b∈fp,d7 X pins H b) (hlt:∀b∈fp,b<s.heap.objs.size)
  (hns:h₁.Ns s.heap.objs.size (λ_=>none)) (old:∀b o,s.heap.get? b=some o->h₁.get? b=some o) (ck:CellsOk h₁ (s.heap.objs.size+1) (cellsFrom (s.heap.objs.size+1) scope.names [])) :
  Inv (lg X N scope s.heap.objs.size s H fp) [] (fY src σ) H {s with heap:=h₁,toks:=tk }:=by
 subst hsc
 subst lq
 have wC:∀x c,(cellsFrom (s.heap.objs.size+1) scope.names (d8 X.env.cells scope.names [])).lookup x=some c->(cellsFrom (s.heap.objs.size+1) scope.names []).lookup x=some c\/X.env.cells.lookup x=some c:=λx c h=>by
  rw[rJ,yD]at h
  split at h
  ·rename_i e
   exact .inl (e.trans h)
  ·rcases ur h with q|q
   ·simp at q
   ·exact .inr q
 have big:∀x c,(cellsFrom (s.heap.objs.size+1) scope.names []).lookup x=some c->s.heap.objs.size+1<=c:=λx c h=>(ck.empty x c (PySem.mem_of_lookup h)).2
 have Qw:∀x c,X.env.cells.lookup x=some c->c<s.heap.objs.size:=λx c e=>by
  obtain⟨v,q⟩:=I.cell x c e
  exact q.lt
 have akS:∀b∈frs X.stack,b<s.heap.objs.size:=λb hb=>by
  obtain⟨_,o,ho,_⟩:=I.stack.mem hb
  exact Heap.lt_size ho
 refine⟨⟨I.ok.mod,S.kind,I.ok.glob,I.ok.blt,Nat.le_refl _,λx y c h1 h2=>?_,λx hx=>?_,λx c hfn h=>?_,I.ok.hd,I.ok.frames,.inl rfl,λb hb=>⟨Nat.ne_of_lt (hlt b hb),λx c e=>?_⟩,
   I.bs,Nat.le_trans I.ok.qW I.sz,λb o e hb=>?_,λb hb hb'=>?_,I.stack,I.Az⟩,
  rfl,I.bare,Un.kept old,⟨_,hns,λi x v h1 h2 h3=>?_⟩,λx c e=>?_,I.hok.fresh (Nat.le_refl _),λx c e=>?_,λp hp=>absurd (show p∈([]:List (Addr × Obj))from hp) (by simp),I.hok.kept old,?_⟩
 ·rcases wC _ _ h1 with z1|z1
  ·rcases wC _ _ h2 with z2|z2
   ·exact name_of_addr ck.apart (PySem.mem_of_lookup z1) (PySem.mem_of_lookup z2)
   ·exact absurd (Nat.le_trans (big _ _ z1) (Nat.le_of_lt (Qw _ _ z2))) (Nat.not_succ_le_self _)
  ·rcases wC _ _ h2 with z2|z2
   ·exact absurd (Nat.le_trans (big _ _ z2) (Nat.le_of_lt (Qw _ _ z1))) (Nat.not_succ_le_self _)
   ·exact I.ok.inj x y c z1 z2
 ·-- every cell or free name has its cell
  rcases Qu hx with m|m
  ·exact Option.isSome_iff_exists.mp (PySem.W.cellsFrom_some _ _ _ (.inl m))
  ·have m:=PySem.mem_of_lookup m
   have q:=uw (cells:=X.env.cells) (acc:=[]) (.inr ⟨m,by
    obtain⟨c,e⟩:=I.ok.has x (S.free _ m rfl)
    rw[e]; rfl⟩)
   exact Option.isSome_iff_exists.mp (PySem.W.cellsFrom_some _ _ _ (.inr q))
 ·have hfn:scope.names.lookup x=some .cell:=by
   have z:(scope.names.lookup x == some .cell)=true:=hfn
   simpa using z
  obtain⟨c',e'⟩:=Option.isSome_iff_exists.mp (PySem.W.cellsFrom_some _ (s.heap.objs.size+1) [] (.inl hfn))
  have h:(cellsFrom (s.heap.objs.size+1) scope.names (d8 X.env.cells scope.names [])).lookup x=some c:=h
  rw[rJ,yD,e']at h
  cases h
  exact Nat.le_of_succ_le (big _ _ e')
 ·rcases wC _ _ e with z|z
  ·exact λy=>absurd (Nat.le_trans (big _ _ z) (y▸Nat.le_of_lt (hlt b hb))) (Nat.not_succ_le_self _)
  ·exact(hf b hb).2.2.2.2.1 x c z
 ·obtain⟨f0,f1,f2,f3,f4,f5⟩:=hf b hb
  rcases f3 with z|z
  ·exact I.ok.jB b o e z
  ·have q:=Heap.lt_size (I.ok.bs b o e).1
   exact absurd q (Nat.not_lt.mpr z)
 ·obtain⟨f0,f1,f2,_⟩:=hf b hb
  rcases List.mem_cons.mp (I.Ay b hb')with z|z
  ·exact f1 z
  ·exact f2 z
 ·have hi:i<src.length:=by
   unfold fY at h2
   have:=(List.getElem?_eq_some_iff.mp h2).1
   simpa using this
  have h2':((src[i]).bind λj=>(σ[j]?).join)=some v:=by
   unfold fY at h2
   rw[List.getElem?_map,List.getElem?_eq_getElem hi]at h2
   exact Option.some.inj h2
  cases es:src[i]with
  |none=>rw[es]at h2'; cases h2'
  |some j =>
   rw[es]at h2'
   have hj : σ[j]?=some (some v):=by
    have z:(σ[j]?).join=some v:=h2'
    cases q : σ[j]? with
    |none=>rw[q]at z; cases z
    |some o=>rw[q]at z; have z':o=some v:=z; rw[z']
   have hz:(x,some j)∈N.zip src:=by
    refine List.mem_of_getElem? (i:=i) ?_
    rw[List.getElem?_zip_eq_some]
    exact⟨h1,by rw[List.getElem?_eq_getElem hi,es]⟩
   obtain⟨u1,u2⟩:=S.up _ hz j rfl
   have m:(x,NameKind.free)∈scope.names:=PySem.mem_of_lookup u2
   have kx:=S.free _ m rfl
   obtain⟨m0,hn0,hl0⟩:=id I.loc
   obtain⟨u,r,lk⟩:=hl0 j x v u1 hj (kx.elim (λz=>.inr (.inl z)) λz=>.inr (.inr z))
   refine⟨u,r,?_⟩
   rcases lk with⟨k,_⟩|⟨_,c,e,ic⟩
   ·have k':X.env.scope.names.lookup x=some .local:=k
    rcases kx with z|z
    ·rw[z]at k'; cases k'
    ·rw[z]at k'; cases k'
   ·refine .inr ⟨Qt u2,c,?_,?_⟩
    ·have q:=uw (cells:=X.env.cells) (acc:=[]) (.inr ⟨m,by rw[e]; rfl⟩)
     obtain⟨c',e'⟩:=Option.isSome_iff_exists.mp q
     have e2:X.env.cells.lookup x=some c':=by
      rcases ur e' with q|q
      ·simp at q
      ·exact q
     rw[e]at e2; cases e2
     show(cellsFrom (s.heap.objs.size+1) scope.names (d8 X.env.cells scope.names [])).lookup x=some c
     rw[rJ,yD]
     split
     ·rename_i c2 z
      have y:=S.cells _ (HD _ _ (PySem.mem_of_lookup z)) rfl
      rw[u2]at y; cases y
     ·exact e'
    ·obtain⟨o,ho,hd⟩:=ic
     exact⟨o,old _ _ ho,hd⟩
 ·rcases wC _ _ e with z|z
  ·exact⟨_,(ck.empty x c (PySem.mem_of_lookup z)).1⟩
  ·obtain⟨v,o,ho,hd⟩:=I.cell x c z
   exact⟨v,o,old _ _ ho,hd⟩
 ·rcases wC _ _ e with z|z
  ·exact I.hok.fresh (Nat.le_of_succ_le (big _ _ z))
  ·exact I.m5 x c z
 ·unfold fY
  rw[List.length_map]
  exact S.len
theorem Qx{pins:List (Addr × Obj)}{σ : St}{H:Hp}{s:Shared}{Q:VK}{RR:Value->Addr->Result->Shared->Prop}(hsc:X.env.scope=sc)(lq:X.N=No)(S:yE sc No N src scope)(hc:X.calm=true)
  (hi:PI X tg iter wi) (hg:∀C s H ex,PG (lg X N scope C s H ex) tg g) (he:∀C s H ex,PE (lg X N scope C s H ex) elt te) (I:Inv X pins σ H s) (h:ux wi g src te σ H Q)
  (hRR:∀D C H' s' m,Inv X pins σ H' s'->H' C=none->C≠X.env.locals->X.s₀.heap.objs.size<=C->(∀x c,X.env.cells.lookup x=some c->c≠C)->(∀p∈X.pn++pins,p.1≠C)->s'.heap.Ns C m->Q (.ref D) H'->RR (.ref D) C (.ok .next) s') :
  wpAny (model X.prog X.w) X.A (eval iter X.env) (λx s₁=>wpAny (model X.prog X.w) X.A (pyIter x) (λit s₂=>wpAny (model X.prog X.w) X.A (newList []) (λacc s₃ =>
   wpAny (model X.prog X.w) X.A (newFunctionEnv scope X.env.globals (d8 X.env.cells scope.names []) [] X.env.qual none .none (some X.env)) (λcenv s₄ =>
    codeAny (model X.prog X.w) X.A (.compStart (.ListComp elt [⟨tg,iter,[],0⟩] scope pos) 0 it acc {cenv with scope:=relabel scope X.env }) (RR acc cenv.locals) s₄) X.xe s₃) X.xe s₂) X.xe s₁) X.xe s:=by
 refine bD (hi pins s σ H _ I h) λv s1 h1=>bD h1 λitv s2 h2=>?_
 obtain⟨it,fp,tn,J,H2,e,I2,T,st2,f2,hW⟩:=h2
 subst e
 have hD0:H2 s2.heap.objs.size=none:=I2.hok.fresh (Nat.le_refl _)
 obtain⟨W,⟨m0,w0⟩,turn⟩:=hW s2.heap.objs.size hD0
 have Qy:∀b∈fp,b<s2.heap.objs.size:=λb hb=>by
  obtain⟨o,e,_⟩:=T.obj 0 _ st2 b hb
  exact Heap.lt_size e
 refine wpAny_newObj_type ?_
 have I3:Inv X pins σ (upd H2 s2.heap.objs.size (.lst [])) {s2 with heap:=s2.heap.push {cls:=.type "list",dict:=none,data:=.seq ([]:List Value).toArray } }:=I2.Hv (t':=s2.toks) (ys:=[]) .nil (Nat.zero_le _)
 have f3:∀b∈fp,d7 X pins (upd H2 s2.heap.objs.size (.lst [])) b:=λb hb=>by
  obtain⟨q,r⟩:=f2 b hb
  exact⟨by rw[bJ (Nat.ne_of_lt (Qy b hb))]; exact q,r⟩
 have st3:tn 0 (s2.heap.push {cls:=.type "list",dict:=none,data:=.seq ([]:List Value).toArray }):=T.keep _ _ _ st2 λb hb o e=>Heap.get?_push_of_some _ e
 have HF:∀b∈fp,b<(s2.heap.push {cls:=.type "list",dict:=none,data:=.seq ([]:List Value).toArray }).objs.size:=λb hb=>by
  rw[Heap.size_push]; exact Nat.lt_succ_of_lt (Qy b hb)
 generalize hD:s2.heap.objs.size=D at *
 generalize hh3:s2.heap.push {cls:=.type "list",dict:=none,data:=.seq ([]:List Value).toArray }=h3 at *
 generalize hH3:upd H2 D (.lst [])=H3 at *
 refine aao λh₁ hns old ck=>?_
 dsimp only at hns old ck ⊢
 have I4:Inv (lg X N scope h3.objs.size {s2 with heap:=h3 } H3 fp) [] (fY src σ) H3 {s2 with heap:=h₁,toks:=s2.toks+([]:List (Str × Value)).length }:=aap (s:={s2 with heap:=h3 }) hsc lq S I3 f3 HF hns old ck
 have Qz:tn 0 h₁ := T.keep _ _ _ st3 λb hb o e=>old b o e
 have loop:codeAny (model X.prog X.w) X.A (.compLoop (.ListComp elt [⟨tg,iter,[],0⟩] scope pos) 0 (.ref it) (.ref D) (compEnvC scope (cellsFrom (h3.objs.size+1) scope.names (d8 X.env.cells scope.names [])) h3.objs.size X.env)) (RR (.ref D) h3.objs.size) {s2 with heap:=h₁,toks:=s2.toks+([]:List (Str × Value)).length }:=by
  have stat:∀{H':Hp},(∀b∈fp,H' b=none)->∀b∈fp,d7 (lg X N scope h3.objs.size {s2 with heap:=h3 } H3 fp) [] H' b:=λhn b hb=>by
   obtain⟨g0,g1,g2,g3,g4,g5⟩:=f3 b hb
   refine⟨hn b hb,Nat.ne_of_lt (HF b hb),λz=>?_,.inl hb,λx c e=>?_,λp hp=>absurd (show p∈([]:List (Addr × Obj))from hp) (by simp)⟩
   ·rcases List.mem_cons.mp (I3.Ay b z)with z|z
    ·exact g1 z
    ·exact g2 z
   ·have e:(cellsFrom (h3.objs.size+1) scope.names (d8 X.env.cells scope.names [])).lookup x=some c:=e
    rw[rJ,yD]at e
    split at e
    ·rename_i z
     cases e
     exact λy=>absurd (Nat.le_trans (ck.empty x c (PySem.mem_of_lookup z)).2 (y▸Nat.le_of_lt (HF b hb))) (Nat.not_succ_le_self _)
    ·rcases ur e with q|q
     ·simp at q
     ·exact g4 x c q
  refine aan (λn s'=>∃i σ' H',Inv (lg X N scope h3.objs.size {s2 with heap:=h3 } H3 fp) [] σ' H' s'/\tn i s'.heap/\(∀b∈fp,H' b=none)/\W i n σ' H') ?_ m0 ⟨0,fY src σ,H3,I4,Qz,λb hb=>(f3 b hb).1,w0⟩
  rintro n s5 ⟨i,σ5,H5,I5,oG,Bp,w5⟩
  rcases turn i n σ5 H5 w5 with⟨stop,qn⟩|⟨go,step⟩
  ·refine bD (T.done (lg X N scope h3.objs.size {s2 with heap:=h3 } H3 fp) rfl rfl rfl hc i [] s5 σ5 H5 (λ_ _=>False) I5 (stat Bp) oG stop) λr s6 ⟨hr,I6⟩=>?_
   subst hr
   obtain⟨mC,hnC,_⟩:=id I6.loc
   have I7:Inv X pins σ H5 s6:=I3.call' (ch:=fp) I6.os I6.base I6.hok I6.bare λb hb=>by
    obtain⟨g0,g1,g2,g3,g4,g5⟩:=f3 b hb
    exact⟨g3,g1,g4,g5⟩
   refine hRR D h3.objs.size H5 s6 mC I7 I6.free (Nat.ne_of_gt I3.lt) I3.sz (λx c e z=>?_) (λp hp z=>?_) hnC qn
   ·obtain⟨v,q⟩:=I3.cell x c e
    exact absurd q.lt (by rw[z]; exact Nat.lt_irrefl _)
   ·exact absurd (Heap.lt_size (I3.pin p hp).1) (by rw[z]; exact Nat.lt_irrefl _)
  ·refine bD (T.item (lg X N scope h3.objs.size {s2 with heap:=h3 } H3 fp) rfl rfl rfl hc i [] s5 σ5 H5 (λ_ _=>False) I5 (stat Bp) oG go) λr s6 ⟨u,hr,h6⟩=>?_
   subst hr
   refine bD h6 λ_ s7 ⟨x,H7,I7,r7,y7,HJ,fr7⟩=>?_
   have I7':=I7.pinned (stat fr7) (T.obj _ _ HJ)
   refine bD (hg _ _ _ _ _ s7 σ5 H7 x u _ I7' r7 (step x H7 y7)) λ_ s8 ⟨σ8,H8,I8,q8⟩=>?_
   refine bD (he _ _ _ _ _ s8 σ8 H8 _ I8 q8) λyv s9 ⟨y,H9,I9,r9,q9⟩=>?_
   obtain⟨xs,e9,l9,m',hm,w9⟩:=q9
   refine bD (yC (X:=lg X N scope h3.objs.size {s2 with heap:=h3 } H3 fp) _ s9 σ8 H9 (.ref D) [y] (.ref D) [yv] (λ_ H'=>W (i+1) m' σ8 H') I9 rfl (.cons r9 .nil) ⟨D,xs,y,rfl,rfl,e9,l9,w9⟩) λ_ rK ⟨_,H10,HN,_,q10⟩=>?_
   refine⟨m',hm,i+1,σ8,H10,HN.Bo (pins:=[]),T.keep _ _ _ HJ λb hb o e=>(HN.pin (b,o) (List.mem_append_right _ (List.mem_append_right _ (Bm hb e)))).1,λb hb=>?_,q10⟩
   obtain⟨o,e,d⟩:=T.obj _ _ HJ b hb
   exact(HN.pin (b,o) (List.mem_append_right _ (List.mem_append_right _ (Bm hb e)))).2.1
 exact codeAny_compStart_list loop (T.self _ _ _ _ _ Qz loop)
theorem m7(hsc:X.env.scope=sc)(lq:X.N=No)(S:yE sc No N src scope)(hc:X.calm=true)
  (hi:PI X tg iter wi) (hg:∀C s H ex,PG (lg X N scope C s H ex) tg g) (he:∀C s H ex,PE (lg X N scope C s H ex) elt te)
  (hs:∀x,foldedSetIterable iter X.env x=pure x:=by intro _; rfl):PE X (.ListComp elt [⟨tg,iter,[],0⟩] scope pos) (ux wi g src te):=by
 refine⟨λpins s σ H Q I h=>?_⟩
 rw[eval_ListComp]
 have hcl:closureFor scope X.env=pure (d8 X.env.cells scope.names []):=HB λy hy e=>by
  have k:=S.free y hy e
  rw[<-hsc]at k
  obtain⟨c,q⟩:=I.ok.has y.1 k
  rw[q]; rfl
 refine wpAny_comprehension_free (use:=none) rfl hs hcl S.kind S.names (Qx (RR:=λacc C=>compPost (model X.prog X.w) X.A X.xe none (EP X pins σ Q) acc C) hsc lq S hc hi hg he I h ?_)
 intro D C H' s' m I' n1 n2 n3 n4 n5 hn q
 refine⟨m,hn,λh' hs'=>⟨.ref D,H',?_,rfl,q⟩⟩
 exact I'.turned (t':=s'.toks) (λb o hb e=>(hs'.2 b hb).trans e) n1 (Ne.symm (Ne.symm n2)) (.inr n3) n4 n5
theorem QB{i:Nat}{y:Str}{py spos:Pos}(hN:X.N.Nodup)(hyi:X.N[i]?=some y)(hy:Loc X.env.scope y)(hsc:X.env.scope=sc)(lq:X.N=No)(S:yE sc No N src scope)(hc:X.calm=true)
  (hi:PI X tg iter wi) (hg:∀C s H ex,PG (lg X N scope C s H ex) tg g) (he:∀C s H ex,PE (lg X N scope C s H ex) elt te)
  (hsw:swapsWith (.ListComp elt [⟨tg,iter,[],0⟩] scope pos) (some (.Name y py)) spos.line X.env=pure true:=by rfl) (hs:∀x,foldedSetIterable iter X.env x=pure x:=by intro _; rfl)
  (hf:X.fn y=true\/X.env.scope.names.lookup y=some .local:=by first|exact .inl rfl|exact .inr rfl|assumption) :
  PS X (.Assign [.Name y py] (.ListComp elt [⟨tg,iter,[],0⟩] scope pos) spos) (lR (ux wi g src te) (dU i)):=by
 refine⟨λpins s σ H D I h=>?_⟩
 rw[exec_Assign_Name_used _ _ _ _ hsw]
 have hcl:closureFor scope X.env=pure (d8 X.env.cells scope.names []):=HB λy hy e=>by
  have k:=S.free y hy e
  rw[<-hsc]at k
  obtain⟨c,q⟩:=I.ok.has y.1 k
  rw[q]; rfl
 refine wpAny_bind (wpAny_standAt (wpAny_bind ?_))
 show wpAny _ X.A (do let _ <-comprehension (.ListComp elt [⟨tg,iter,[],0⟩] scope pos) scope X.env _ (newList []) false (eval iter X.env) (some (assign (.Name y py) X.env))) _ _ s
 refine wpAny_bind (wpAny_mono (wpAny_comprehension_free (use:=some (assign (.Name y py) X.env)) (Q:=λ_ s'=>SP X pins D .next s') rfl hs hcl S.kind S.names
  (Qx (Q:=λv H'=>D.nx (σ.set i (some v)) H') (RR:=λacc C=>compPost (model X.prog X.w) X.A X.xe (some (assign (.Name y py) X.env)) (λ_ s'=>SP X pins D .next s') acc C) hsc lq S hc hi hg he I h ?_)) (λ_ s' hq=>wpAny_pure (wpAny_pure hq)) λ_ _ e=>e)
 intro Da C H' s' m I' n1 n2 n3 n4 n5 hn q
 show wpAny _ X.A (assign (.Name y py) X.env (.ref Da)) _ _ _
 refine wpAny_assign_Name (Oo I' hN hyi hy (v:=.ref Da) rfl (λs2 I2 hsame=>?_) hf)
 obtain⟨a,hsb,ha⟩:=hsame
 have hCa:C≠a:=by
  rcases ha with z|z
  ·rw[z]; exact n2
  ·exact λe=>n4 y a z e.symm
 refine⟨m,hn.sameBut hsb hCa,λh' hs'=>⟨σ.set i (some (.ref Da)),H',?_,q⟩⟩
 exact I2.turned (t':=s2.toks) (λb o hb e=>(hs'.2 b hb).trans e) n1 n2 (.inr n3) n4 n5
end
def BL(e C:Addr)(h:Heap):Prop:=∃o vs,h.get? e=some o/\o.cls=.ref C/\o.data=.fields vs
def iI(e C:Addr):HO:=.ext (BL e C)
def m8:List Str:=["NoBottom", "NoBook", "NoList", "NoRule", "NoCount", "NoLooks", "NoThings", "NotSure", "NoSlack", "NoThing", "NoWorth", "TooMany", "NoText", "NoLine"]
inductive Tr where
 |non|bl (b:Bool)|int (i:Int)|str (x:Str)|tup (ts:List Tr)|lst (ts:List Tr)|cO (c:Str)
mutual
inductive Rep(K:FZ)(H:Hp):V->Tr->Prop
 |non:Rep K H .non .non
 |bl (b:Bool):Rep K H (.bl b) (.bl b)
 |int (i:Int):Rep K H (.int i) (.int i)
 |str (x:Str):Rep K H (.str x) (.str x)
 |tup {a:Addr} {xs:List V} {ts:List Tr} (h:cV K H a xs) (r:aF K H xs ts):Rep K H (.ref a) (.tup ts)
 |lst {a:Addr} {xs:List V} {ts:List Tr} (h:bZ K H a xs) (r:aF K H xs ts):Rep K H (.ref a) (.lst ts)
 |cO {a C:Addr} {c:Str} (h:H a=some (iI a C)) (m:c∈m8) (n:PySem.W.nsIn K mainGlobals c=some (some (.ref C))):Rep K H (.ref a) (.cO c)
inductive aF(K:FZ)(H:Hp):List V->List Tr->Prop
 |nil:aF K H [] []
 |cons {x:V} {t:Tr} {xs:List V} {ts:List Tr} (h:Rep K H x t) (r:aF K H xs ts):aF K H (x::xs) (t::ts)
end
theorem Same.uy{K:FZ}{H H':Hp}{a:Addr}{xs:List V}(e:Same H H')(h:cV K H a xs):cV K H' a xs:=by
 rcases h with(h|⟨o,h⟩)|h
 ·exact .inl (.inl (e _ _ h))
 ·exact .inl (.inr ⟨o,e _ _ h⟩)
 ·exact .inr h
mutual
theorem Rep.mono{K:FZ}{H H':Hp}(e:Same H H'):∀{v:V} {t:Tr},Rep K H v t->Rep K H' v t
 |_,_,.non=>.non
 |_,_,.bl b=>.bl b
 |_,_,.int i=>.int i
 |_,_,.str x=>.str x
 |_,_,.tup h r=>.tup (e.uy h) (aF.mono e r)
 |_,_,.lst h r=>.lst (e.seq h) (aF.mono e r)
 |_,_,.cO h m n=>.cO (e _ _ h) m n
theorem aF.mono{K:FZ}{H H':Hp}(e:Same H H'):∀{v:List V} {t:List Tr},aF K H v t->aF K H' v t
 |_,_,.nil=>.nil
 |_,_,.cons h r=>.cons (Rep.mono e h) (aF.mono e r)
end
theorem aF.length{K:FZ}{H:Hp}:∀{v:List V} {t:List Tr},aF K H v t->v.length=t.length
 |_,_,.nil=>rfl
 |_,_,.cons _ r=>by rw[List.length_cons,List.length_cons,aF.length r]
theorem aF.get{K:FZ}{H:Hp}:∀{v:List V} {t:List Tr} {i:Nat} {x:V},aF K H v t->v[i]?=some x->∃u,t[i]?=some u/\Rep K H x u
 |_,_,_,_,.nil,e=>by simp at e
 |_,_,0,_,.cons h _,e=>by
  simp at e
  subst e
  exact⟨_,rfl,h⟩
 |_,_,i+1,x,.cons _ r,e=>by
  obtain⟨u,h1,h2⟩:=aF.get (i:=i) (x:=x) r (by simpa using e)
  exact⟨u,by simpa using h1,h2⟩
theorem aF.app{K:FZ}{H:Hp}:∀{v w:List V} {t u:List Tr},aF K H v t->aF K H w u->aF K H (v++w) (t++u)
 |_,_,_,_,.nil,s=>s
 |_,_,_,_,.cons h r,s=>.cons h (aF.app r s)
theorem aF.take{K:FZ}{H:Hp}:∀{v:List V} {t:List Tr} (n:Nat),aF K H v t->aF K H (v.take n) (t.take n)
 |_,_,0,_=>by rw[List.take_zero,List.take_zero]; exact .nil
 |_,_,n+1,.nil=>by simpa using aF.nil
 |_,_,n+1,.cons h r=>by
  rw[List.take_succ_cons,List.take_succ_cons]
  exact .cons h (aF.take n r)
theorem aF.drop{K:FZ}{H:Hp}:∀{v:List V} {t:List Tr} (n:Nat),aF K H v t->aF K H (v.drop n) (t.drop n)
 |_,_,0,r=>by rw[List.drop_zero,List.drop_zero]; exact r
 |_,_,n+1,.nil=>by simpa using aF.nil
 |_,_,n+1,.cons h r=>by
  rw[List.drop_succ_cons,List.drop_succ_cons]
  exact aF.drop n r
mutual
noncomputable def dep:Tr->Nat
 |.tup ts=>deps ts+1
 |.lst ts=>deps ts+1
 |.cO _=>100
 |_=>0
noncomputable def deps:List Tr->Nat
 | []=>0
 |t::r=>max (dep t) (deps r)
end
mutual
noncomputable def eqT:Tr->Tr->Bool
 |.non,.non=>true
 |.bl a,.bl b=>a == b
 |.bl a,.int b=>(if a then 1 else 0) == b
 |.int a,.bl b=>a == (if b then 1 else 0)
 |.int a,.int b=>a == b
 |.str a,.str b=>a == b
 |.tup a,.tup b=>jo a b
 |.lst a,.lst b=>jo a b
 |.cO a,.cO b=>a == b
 |_,_=>false
noncomputable def jo:List Tr->List Tr->Bool
 | [],[]=>true
 |a::x,b::y=>eqT a b&&jo x y
 |_,_=>false
end
mutual
theorem BP:∀t:Tr,eqT t t=true
 |.non=>rfl
 |.bl b=>by unfold eqT; exact beq_self_eq_true b
 |.int i=>by unfold eqT; exact beq_self_eq_true i
 |.str x=>by unfold eqT; exact beq_self_eq_true x
 |.tup ts=>by unfold eqT; exact HW ts
 |.lst ts=>by unfold eqT; exact HW ts
 |.cO c=>by unfold eqT; exact beq_self_eq_true c
theorem HW:∀ts:List Tr,jo ts ts=true
 | []=>rfl
 |t::r=>by unfold jo; rw[BP t,HW r]; rfl
end
theorem yF:∀{a b:List Tr},a.length≠b.length->jo a b=false
 | [],[],h=>absurd rfl h
 | [],_::_,_=>rfl
 |_::_,[],_=>rfl
 |x::a,y::b,h=>by
  unfold jo
  rw[yF (a:=a) (b:=b) (by simpa using h),Bool.and_false]
def pY(a b:List Tr)(j:Nat):Bool:=match a[j]?,b[j]? with
 |some x,some y=>eqT x y
 |_,_=>true
theorem yG:∀{a b:List Tr},a.length=b.length->(List.range a.length).all (pY a b)=jo a b
 | [],[],_=>rfl
 | [],_::_,h=>by cases h
 |_::_,[],h=>by cases h
 |x::a,y::b,h=>by
  have ih:=yG (a:=a) (b:=b) (by simpa using h)
  rw[List.length_cons,List.range_succ_eq_map,List.all_cons,List.all_map]
  unfold jo
  rw[<-ih]
  rfl
section
variable {X:Cx}{pins:List (Addr × Obj)}{σ : St}{H:Hp}{s:Shared}
theorem Inv.aaq(I:Inv X pins σ H s){a C:Addr}{its:Array Value}(h:H a=some (iI a C))(p:IsTup s.heap a its):False:=by
 obtain⟨o,_,e1,e2,_⟩:=(I.hok a _ h).1
 obtain⟨o',e1',e2',_⟩:=p
 rw[e1]at e1'
 cases e1'
 rw[e2]at e2'
 cases e2'
theorem Inv.aar(I:Inv X pins σ H s){a C:Addr}{its:Array Value}(h:H a=some (iI a C))(p:PlainL s.heap a its):False:=by
 obtain⟨o,_,e1,e2,_⟩:=(I.hok a _ h).1
 obtain⟨o',_,e1',e2',_⟩:=p
 rw[e1]at e1'
 cases e1'
 rw[e2]at e2'
 cases e2'
mutual
theorem Rep.inj(I:Inv X pins σ H s):∀{v:V} {t u:Tr},dep t<=99->Rep X.K H v t->Rep X.K H v u->t=u
 |_,_,_,_,.non,.non=>rfl
 |_,_,_,_,.bl _,.bl _=>rfl
 |_,_,_,_,.int _,.int _=>rfl
 |_,_,_,_,.str _,.str _=>rfl
 |_,_,_,d,.tup h r,.tup h' r'=>by
  have e:=I.OD h h'
  subst e
  rw[aF.inj I (by unfold dep at d; omega) r r']
 |_,_,_,d,.lst h r,.lst h' r'=>by
  have e:=I.Bd h h'
  subst e
  rw[aF.inj I (by unfold dep at d; omega) r r']
 |_,_,_,_,.tup h r,.lst h' r'=>by
  obtain⟨_,_,p,_⟩:=I.tuple h
  obtain⟨_,_,p',_⟩:=I.list h'
  exact absurd rfl (SeqAt.ne_of_list_tuple p'.isList p)
 |_,_,_,_,.lst h r,.tup h' r'=>by
  obtain⟨_,_,p,_⟩:=I.tuple h'
  obtain⟨_,_,p',_⟩:=I.list h
  exact absurd rfl (SeqAt.ne_of_list_tuple p'.isList p)
 |_,_,_,d,.cO h _ n,_=>by unfold dep at d; omega
 |_,_,_,_,.tup h r,.cO h' _ _=>by
  obtain⟨_,_,p,_⟩:=I.tuple h
  exact(I.aaq h' p).elim
 |_,_,_,_,.lst h r,.cO h' _ _=>by
  obtain⟨_,_,p,_⟩:=I.list h
  exact(I.aar h' p).elim
theorem aF.inj(I:Inv X pins σ H s):∀{v:List V} {t u:List Tr},deps t<=99->aF X.K H v t->aF X.K H v u->t=u
 |_,_,_,_,.nil,.nil=>rfl
 |_,_,_,d,.cons h r,.cons h' r'=>by
  unfold deps at d
  rw[Rep.inj I (by omega) h h',aF.inj I (by omega) r r']
end
theorem in1_units(A:Around):A.in1.units<=A.units+1:=by
 show A.units+1<=_
 omega
theorem BR{xs:List V}{its:List Value}{j:Nat}(r:Vals xs its)(h:j<its.toArray.size):∃x,xs[j]?=some x/\RelV x its.toArray[j]:=by
 have h':j<its.length:=by simpa using h
 have hx:j<xs.length:=by rw[r.length]; exact h'
 obtain⟨u,h1,h2⟩:=r.get (List.getElem?_eq_getElem hx)
 refine⟨xs[j],List.getElem?_eq_getElem hx,?_⟩
 have e:u=its.toArray[j]:=by
  rw[List.getElem?_eq_getElem h']at h1
  have:=Option.some.inj h1
  simpa using this.symm
 rw[<-e]; exact h2
theorem QC{a b:List Tr}{j:Nat}{x y:Tr}(h1:a[j]?=some x)(h2:b[j]?=some y):pY a b j=eqT x y:=by
 unfold pY
 rw[h1,h2]
theorem rM:∀{ts:List Tr} {j:Nat} {t:Tr},ts[j]?=some t->dep t<=deps ts
 | [],_,_,h=>by simp at h
 |x::r,0,t,h=>by
  simp at h
  subst h
  unfold deps
  exact Nat.le_max_left _ _
 |x::r,j+1,t,h=>by
  have:=rM (ts:=r) (j:=j) (t:=t) (by simpa using h)
  unfold deps
  exact Nat.le_trans this (Nat.le_max_right _ _)
theorem yH(I:Inv X pins σ H s)(A:Around)(t u:Tr)(x y:V)(xv yv:Value)(hu:A.units+0<cLine)(hd:dep t<=0)(du:dep u<=99)(rx:Rep X.K H x t)(ry:Rep X.K H y u)(vx:RelV x xv)(vy:RelV y yv) :
  SeqAt.RcAt A s xv yv (eqT t u)/\SeqAt.EqAt A s xv yv (eqT t u):=by
 have hu0:A.units<cLine:=by omega
 cases rx with
 |tup h r=>unfold dep at hd; omega
 |lst h r=>unfold dep at hd; omega
 |cO h m n=>unfold dep at hd; omega
 |non =>
  cases vx
  cases ry with
  |non=>cases vy; unfold eqT; exact⟨SeqAt.RcAt.none_none,.same _⟩
  |bl b2=>cases vy; unfold eqT; exact⟨SeqAt.RcAt.none_bool _,SeqAt.EqAt.none_bool _⟩
  |int i2=>obtain⟨_,rfl⟩:=vy; unfold eqT; exact⟨SeqAt.RcAt.none_int _ _,SeqAt.EqAt.none_int _ _⟩
  |str z2=>obtain⟨_,rfl⟩:=vy; unfold eqT; exact⟨SeqAt.RcAt.none_str _ _,SeqAt.EqAt.none_str _ _⟩
  |tup h r=>cases vy; obtain⟨_,_,p,_⟩:=I.tuple h; unfold eqT; exact⟨SeqAt.RcAt.none_tuple p hu0,SeqAt.EqAt.none_tuple p hu0⟩
  |lst h r=>cases vy; obtain⟨_,_,p,_⟩:=I.list h; unfold eqT; exact⟨SeqAt.RcAt.none_list p.isList hu0,SeqAt.EqAt.none_list p.isList hu0⟩
  |cO h m n=>unfold dep at du; omega
 |bl b =>
  cases vx
  cases ry with
  |non=>cases vy; unfold eqT; exact⟨SeqAt.RcAt.bool_none _,SeqAt.EqAt.bool_none _⟩
  |bl b2=>cases vy; unfold eqT; exact⟨SeqAt.RcAt.bool_bool _ _,SeqAt.EqAt.bool_bool _ _⟩
  |int i2=>obtain⟨_,rfl⟩:=vy; unfold eqT; exact⟨SeqAt.RcAt.bool_int _ _ _,SeqAt.EqAt.bool_int _ _ _⟩
  |str z2=>obtain⟨_,rfl⟩:=vy; unfold eqT; exact⟨SeqAt.RcAt.bool_str _ _ _,SeqAt.EqAt.bool_str _ _ _⟩
  |tup h r=>cases vy; obtain⟨_,_,p,_⟩:=I.tuple h; unfold eqT; exact⟨SeqAt.RcAt.bool_tuple _ p hu0,SeqAt.EqAt.bool_tuple _ p hu0⟩
  |lst h r=>cases vy; obtain⟨_,_,p,_⟩:=I.list h; unfold eqT; exact⟨SeqAt.RcAt.bool_list _ p.isList hu0,SeqAt.EqAt.bool_list _ p.isList hu0⟩
  |cO h m n=>unfold dep at du; omega
 |int i =>
  obtain⟨_,rfl⟩:=vx
  cases ry with
  |non=>cases vy; unfold eqT; exact⟨SeqAt.RcAt.int_none _ _,SeqAt.EqAt.int_none _ _⟩
  |bl b2=>cases vy; unfold eqT; exact⟨SeqAt.RcAt.int_bool _ _ _,SeqAt.EqAt.int_bool _ _ _⟩
  |int i2=>obtain⟨_,rfl⟩:=vy; unfold eqT; exact⟨SeqAt.RcAt.int_int _ _ _ _,SeqAt.EqAt.int_int _ _ _ _⟩
  |str z2=>obtain⟨_,rfl⟩:=vy; unfold eqT; exact⟨SeqAt.RcAt.int_str _ _ _ _,SeqAt.EqAt.int_str _ _ _ _⟩
  |tup h r=>cases vy; obtain⟨_,_,p,_⟩:=I.tuple h; unfold eqT; exact⟨SeqAt.RcAt.int_tuple _ _ p hu0,SeqAt.EqAt.int_tuple _ _ p hu0⟩
  |lst h r=>cases vy; obtain⟨_,_,p,_⟩:=I.list h; unfold eqT; exact⟨SeqAt.RcAt.int_list _ _ p.isList hu0,SeqAt.EqAt.int_list _ _ p.isList hu0⟩
  |cO h m n=>unfold dep at du; omega
 |str z =>
  obtain⟨_,rfl⟩:=vx
  cases ry with
  |non=>cases vy; unfold eqT; exact⟨SeqAt.RcAt.str_none _ _,SeqAt.EqAt.str_none _ _⟩
  |bl b2=>cases vy; unfold eqT; exact⟨SeqAt.RcAt.str_bool _ _ _,SeqAt.EqAt.str_bool _ _ _⟩
  |int i2=>obtain⟨_,rfl⟩:=vy; unfold eqT; exact⟨SeqAt.RcAt.str_int _ _ _ _,SeqAt.EqAt.str_int _ _ _ _⟩
  |str z2=>obtain⟨_,rfl⟩:=vy; unfold eqT; exact⟨SeqAt.RcAt.str_str _ _ _ _,SeqAt.EqAt.str_str _ _ _ _⟩
  |tup h r=>cases vy; obtain⟨_,_,p,_⟩:=I.tuple h; unfold eqT; exact⟨SeqAt.RcAt.str_tuple _ _ p hu0,SeqAt.EqAt.str_tuple _ _ p hu0⟩
  |lst h r=>cases vy; obtain⟨_,_,p,_⟩:=I.list h; unfold eqT; exact⟨SeqAt.RcAt.str_list _ _ p.isList hu0,SeqAt.EqAt.str_list _ _ p.isList hu0⟩
  |cO h m n=>unfold dep at du; omega
theorem BW(I:Inv X pins σ H s):∀(n:Nat) (A:Around) (t u:Tr) (x y:V) (xv yv:Value),A.units+n<cLine->dep t<=n->dep t<=99->dep u<=99->Rep X.K H x t->Rep X.K H y u->RelV x xv->RelV y yv ->
  SeqAt.RcAt A s xv yv (eqT t u)/\SeqAt.EqAt A s xv yv (eqT t u):=by
 intro n
 induction n with
 |zero=>exact λA t u x y xv yv hu hd _ du rx ry vx vy=>yH I A t u x y xv yv hu hd du rx ry vx vy
 |succ n ih =>
  intro A t u x y xv yv hu hd wF du rx ry vx vy
  have hu0:A.units<cLine:=by omega
  have hu1:A.in1.units+n<cLine:=by
   have:=in1_units A
   omega
  have he:∀{xs ys:List V} {ts us:List Tr} {its its2:List Value},Vals xs its->Vals ys its2->aF X.K H xs ts->aF X.K H ys us->deps ts<=n->deps ts<=99->deps us<=99->∀j (h1:j<its.toArray.size) (h2:j<its2.toArray.size),SeqAt.EqAt A.in1 s its.toArray[j] its2.toArray[j] (pY ts us j):=by
   intro xs ys ts us its its2 r1 r2 q1 q2 hde hd9 QD j h1 h2
   obtain⟨a,ea,ra⟩:=BR r1 h1
   obtain⟨b,eb,rb⟩:=BR r2 h2
   obtain⟨ta,eta,qa⟩:=q1.get ea
   obtain⟨tb,yI,qb⟩:=q2.get eb
   rw[QC eta yI]
   exact(ih A.in1 ta tb a b _ _ hu1 (Nat.le_trans (rM eta) hde) (Nat.le_trans (rM eta) hd9) (Nat.le_trans (rM yI) QD) qa qb ra rb).2
  have dt:∀{ts:List Tr},dep (.tup ts)<=n+1->deps ts<=n:=λ{ts} h=>by unfold dep at h; omega
  have dl:∀{ts:List Tr},dep (.lst ts)<=n+1->deps ts<=n:=λ{ts} h=>by unfold dep at h; omega
  have nt:∀{ts:List Tr},dep (.tup ts)<=99->deps ts<=99:=λ{ts} h=>by unfold dep at h; omega
  have nl:∀{ts:List Tr},dep (.lst ts)<=99->deps ts<=99:=λ{ts} h=>by unfold dep at h; omega
  have refs:∀{a b:Addr} {t u:Tr} {k:Bool},dep t<=99->Rep X.K H (.ref a) t->Rep X.K H (.ref b) u->k=eqT t u->SeqAt.RcAt A s (.ref a) (.ref b) k->SeqAt.EqAt A s (.ref a) (.ref b) k:=λ{a b t u k} d9 r1 r2 ek h=>by
   by_cases e:a=b
   ·subst e
    have:=Rep.inj I d9 r1 r2
    subst this
    rw[ek,BP]
    exact .same _
   ·exact .of_refs e h
  cases rx with
  | @tup a1 xs1 ts h r =>
   cases vx
   obtain⟨its,rv,p,_⟩:=I.tuple h
   cases ry with
   | @tup a2 xs2 us h' r' =>
    cases vy
    obtain⟨its2,jq,p2,_⟩:=I.tuple h'
    have R:=SeqAt.RcAt.tuples p p2 hu0 (he rv jq r r' (dt hd) (nt wF) (nt du))
    have el:its.toArray.size=ts.length:=by simpa using(rv.length.symm.trans r.length)
    have el2:its2.toArray.size=us.length:=by simpa using(jq.length.symm.trans r'.length)
    rw[el,el2]at R
    have eb:((List.range (min ts.length us.length)).all (pY ts us)&&ts.length == us.length)=eqT (.tup ts) (.tup us):=by
     unfold eqT
     by_cases e:ts.length=us.length
     ·rw[e,Nat.min_self,<-e,yG e,beq_self_eq_true,Bool.and_true]
     ·rw[beq_false_of_ne e,Bool.and_false,yF e]
    rw[eb]at R
    exact⟨R,refs wF (.tup h r) (.tup h' r') rfl R⟩
   |lst h' r' =>
    cases vy
    obtain⟨_,_,p2,_⟩:=I.list h'
    unfold eqT
    exact⟨SeqAt.RcAt.tuple_list p p2.isList hu0,.tuple_list p p2.isList hu0⟩
   |cO h' m n=>unfold dep at du; omega
   |non=>cases vy; unfold eqT; exact⟨SeqAt.RcAt.tuple_none p hu0,.tuple_none p hu0⟩
   |bl b=>cases vy; unfold eqT; exact⟨SeqAt.RcAt.tuple_bool _ p hu0,.tuple_bool _ p hu0⟩
   |int i=>obtain⟨_,rfl⟩:=vy; unfold eqT; exact⟨SeqAt.RcAt.tuple_int _ _ p hu0,.tuple_int _ _ p hu0⟩
   |str z=>obtain⟨_,rfl⟩:=vy; unfold eqT; exact⟨SeqAt.RcAt.tuple_str _ _ p hu0,.tuple_str _ _ p hu0⟩
  | @lst a1 xs1 ts h r =>
   cases vx
   obtain⟨its,rv,p,_⟩:=I.list h
   cases ry with
   | @lst a2 xs2 us h' r' =>
    cases vy
    obtain⟨its2,jq,p2,_⟩:=I.list h'
    have el:its.toArray.size=ts.length:=by simpa using(rv.length.symm.trans r.length)
    have el2:its2.toArray.size=us.length:=by simpa using(jq.length.symm.trans r'.length)
    by_cases e:ts.length=us.length
    ·have R:=SeqAt.RcAt.lists p.isList p2.isList (by rw[el,el2,e]) hu0 (he rv jq r r' (dl hd) (nl wF) (nl du))
     rw[el,yG e]at R
     have eb:jo ts us=eqT (.lst ts) (.lst us):=by unfold eqT; rfl
     rw[eb]at R
     exact⟨R,refs wF (.lst h r) (.lst h' r') rfl R⟩
    ·have R:SeqAt.RcAt A s _ _ false:=SeqAt.RcAt.lists_lengths p.isList p2.isList (by rw[el,el2]; simpa using e) hu0
     have eb:false=eqT (.lst ts) (.lst us):=by unfold eqT; rw[yF e]
     rw[eb]at R
     exact⟨R,refs wF (.lst h r) (.lst h' r') rfl R⟩
   |tup h' r' =>
    cases vy
    obtain⟨_,_,p2,_⟩:=I.tuple h'
    unfold eqT
    exact⟨SeqAt.RcAt.list_tuple p.isList p2 hu0,.list_tuple p.isList p2 hu0⟩
   |cO h' m n=>unfold dep at du; omega
   |non=>cases vy; unfold eqT; exact⟨SeqAt.RcAt.list_none p.isList hu0,.list_none p.isList hu0⟩
   |bl b=>cases vy; unfold eqT; exact⟨SeqAt.RcAt.list_bool _ p.isList hu0,.list_bool _ p.isList hu0⟩
   |int i=>obtain⟨_,rfl⟩:=vy; unfold eqT; exact⟨SeqAt.RcAt.list_int _ _ p.isList hu0,.list_int _ _ p.isList hu0⟩
   |str z=>obtain⟨_,rfl⟩:=vy; unfold eqT; exact⟨SeqAt.RcAt.list_str _ _ p.isList hu0,.list_str _ _ p.isList hu0⟩
  |cO h m n=>unfold dep at wF; omega
  |non=>exact yH I A _ _ _ _ _ _ (by omega) (by unfold dep; omega) du .non ry vx vy
  |bl b=>exact yH I A _ _ _ _ _ _ (by omega) (by unfold dep; omega) du (.bl b) ry vx vy
  |int i=>exact yH I A _ _ _ _ _ _ (by omega) (by unfold dep; omega) du (.int i) ry vx vy
  |str z=>exact yH I A _ _ _ _ _ _ (by omega) (by unfold dep; omega) du (.str z) ry vx vy
end
section
variable {X:Cx}{a b:Expr}{ta tb:TE}{pos:Pos}
def HX(K:FZ):R2:=λx y H Q=>∃t u,Rep K H x t/\Rep K H y u/\dep t<=40/\dep u<=40/\Q (.bl (eqT t u)) H
theorem m9(hu:X.A.units+64<cLine):cN X (compareOp .Eq) (HX X.K):=by
 intro pins s σ H x y v u Q I rx ry h
 obtain⟨t,t',q1,q2,hd,hd2,q⟩:=h
 exact(BW I 40 X.A t t' x y v u (by omega) hd (by omega) (by omega) q1 q2 rx ry).1 _ _ _ _ ⟨.bl _,H,I,rfl,q⟩
def pZ(t:Tr)(ts:List Tr):Bool:=ts.any λu=>eqT u t
def HY(K:FZ):R2:=λx y H Q=>∃t ts p xs,Rep K H x t/\y=.ref p/\(bZ K H p xs\/cV K H p xs)/\aF K H xs ts/\deps ts<=40/\dep t<=40/\Q (.bl (pZ t ts)) H
theorem BX{xs:List V}{its:List Value}{ts:List Tr}{K:FZ}{H:Hp}(f:Tr->Bool)(e:Value->Bool)(r:Vals xs its)(q:aF K H xs ts)(h:∀x v t,x∈xs->RelV x v->Rep K H x t->t∈ts->e v=f t):its.any e=ts.any f:=by
 induction r generalizing ts with
 |nil=>cases q; rfl
 |cons r1 r2 ih =>
  cases q with
  |cons q1 q2 =>
   rw[List.any_cons,List.any_cons,h _ _ _ List.mem_cons_self r1 q1 List.mem_cons_self,ih q2 λx v t hx hr hq ht=>h x v t (List.mem_cons_of_mem _ hx) hr hq (List.mem_cons_of_mem _ ht)]
theorem wG:∀{ts:List Tr} {t:Tr},t∈ts->dep t<=deps ts:=λ{ts t} h=>by
 obtain⟨i,hi,e⟩:=List.mem_iff_getElem.mp h
 exact rM (j:=i) (by rw[List.getElem?_eq_getElem hi,e])
open Classical in
theorem QG(hu:X.A.units+64<cLine):cN X (compareOp .In) (HY X.K):=by
 intro pins s σ H x y v u Q I rx ry h
 obtain⟨t,ts,p,xs,q1,rfl,hq,qs,hd,hd2,q⟩:=h
 cases ry
 have hu1:X.A.in1.units+40<cLine:=by
  have:=in1_units X.A
  omega
 -- what == tells of an item,by the item itself
 let e:Value->Bool:=λw'=>if h:∃z tz,z∈xs/\RelV z w'/\Rep X.K H z tz/\tz∈ts then eqT (Classical.choose (Classical.choose_spec h)) t else false
 have ee:∀z w' tz,z∈xs->RelV z w'->Rep X.K H z tz->tz∈ts->e w'=eqT tz t:=λz w' tz h1 h2 h3 h4=>by
  have hx:∃z tz,z∈xs/\RelV z w'/\Rep X.K H z tz/\tz∈ts:=⟨z,tz,h1,h2,h3,h4⟩
  show(if h:_ then _ else _)=_
  rw[dif_pos hx]
  have sp:=Classical.choose_spec (Classical.choose_spec hx)
  have key:∀z z' t1 t2,RelV z w'->RelV z' w'->dep t1<=99->Rep X.K H z t1->Rep X.K H z' t2->t1=t2:=λz z' t1 t2 a1 a2 d9 a3 a4=>by
   obtain rfl:=RelV.inj a1 a2
   exact Rep.inj I d9 a3 a4
  rw[key _ _ _ _ sp.2.1 h2 (by have:=wG sp.2.2.2; omega) sp.2.2.1 h3]
 have mem:∀{its:List Value},Vals xs its->∀w'∈its,SeqAt.EqAt X.A.in1 s w' v (e w'):=by
  intro its r w' hw
  obtain⟨j,hj,ej⟩:=List.mem_iff_getElem.mp hw
  have hjx:j<xs.length:=by rw[r.length]; exact hj
  obtain⟨u',h1,h2⟩:=r.get (List.getElem?_eq_getElem hjx)
  rw[List.getElem?_eq_getElem hj,ej]at h1
  cases h1
  obtain⟨tz,h3,h4⟩:=qs.get (List.getElem?_eq_getElem hjx)
  have hm:=List.mem_of_getElem? h3
  rw[ee _ _ tz (List.getElem_mem hjx) h2 h4 hm]
  exact(BW I 40 X.A.in1 tz t _ x _ v hu1 (Nat.le_trans (wG hm) hd) (by have:=wG hm; omega) (by omega) h4 q1 h2 rx).2
 rcases hq with hq|hq
 ·obtain⟨its,r,pl,hz⟩:=I.list hq
  refine SeqAt.in_listAt e pl.isList (λw hw=>mem r w (by simpa using hw)) ⟨.bl _,H,I,rfl,?_⟩
  rw[show its.toArray.any e=its.any e by simp,BX (λz=>eqT z t) e r qs λz w' tz h1 h2 h3 h4=>ee z w' tz h1 h2 h3 h4]
  exact q
 ·obtain⟨its,r,pl,hz⟩:=I.tuple hq
  refine SeqAt.in_tupleAt e pl (λw hw=>mem r w (by simpa using hw)) ⟨.bl _,H,I,rfl,?_⟩
  rw[show its.toArray.any e=its.any e by simp,BX (λz=>eqT z t) e r qs λz w' tz h1 h2 h3 h4=>ee z w' tz h1 h2 h3 h4]
  exact q
inductive Ty where|int|bool|str|tuple|list
def Ty.name:Ty->String
 |.int => "int" |.bool => "bool" |.str => "str" |.tuple => "tuple" |.list => "list"
def iZ:Tr->Ty->Bool
 |.bl _,.bool=>true|.bl _,.int=>true|.int _,.int=>true|.str _,.str=>true|.tup _,.tuple=>true|.lst _,.list=>true
 |_,_=>false
def BZ(K:FZ):List V->Hp->VK->Prop:=λxs H Q=>∃v t c,xs=[v,.ty (Ty.name c)]/\Rep K H v t/\Q (.bl (iZ t c)) H
def Ca(K:FZ):Prop:=∀c∈m8,∀C,PySem.W.nsIn K mainGlobals c=some (some (.ref C))->(∀a,PySem.W.KitX K (.ref a) (.ref C) (BL a C))/\∀y:Ty,PySem.W.kitOne K (.ref C) (.type y.name)=some false
theorem aas(hX:Ca X.K):iH X (.builtin "isinstance") (BZ X.K):=by
 intro pins s σ H xs us Q I r h
 obtain⟨v,t,c,rfl,q1,q⟩:=h
 obtain⟨u,w',rfl,ru,uh⟩:=vals2 r
 obtain rfl:w'=Value.type (Ty.name c):=uh
 have fin:∀tk,EP X pins σ Q (.bool (iZ t c)) {s with toks:=tk }:=λtk=>⟨.bl _,H,I.tok tk,rfl,q⟩
 cases q1 with
 |non=>cases ru; cases c <;> exact PySem.W.kia_one PySem.W.kitx_none I.jQ True.intro (by kernel_rfl) (λz=>nomatch z) fin
 |bl y=>cases ru; cases c <;> exact PySem.W.kia_one PySem.W.kitx_bool I.jQ True.intro (by kernel_rfl) (λz=>nomatch z) fin
 |int i=>obtain⟨_,rfl⟩:=ru; cases c <;> exact PySem.W.kia_one PySem.W.kitx_int I.jQ True.intro (by kernel_rfl) (λz=>nomatch z) fin
 |str y=>obtain⟨_,rfl⟩:=ru; cases c <;> exact PySem.W.kia_one PySem.W.kitx_str I.jQ True.intro (by kernel_rfl) (λz=>nomatch z) fin
 |tup h r =>
  cases ru
  obtain⟨_,_,⟨o,h1,h2,_⟩,_⟩:=I.tuple h
  cases c <;> exact PySem.W.kia_one PySem.W.kitx_tuple I.jQ ⟨o,h1,h2⟩ (by kernel_rfl) (λz=>nomatch z) fin
 |lst h r =>
  cases ru
  obtain⟨_,_,p,_⟩:=I.list h
  obtain⟨o,h1,h2,_⟩:=p.isList
  cases c <;> exact PySem.W.kia_one PySem.W.kitx_list I.jQ ⟨o,h1,h2⟩ (by kernel_rfl) (λz=>nomatch z) fin
 |cO h m n =>
  cases ru
  obtain⟨z1,z2⟩:=hX _ m _ n
  exact PySem.W.kia_one (z1 _) I.jQ (I.hok _ _ h).1 (z2 c) (λz=>nomatch z) fin
def Ia(K:FZ):List V->Hp->VK->Prop:=λxs H Q=>∃(p:Addr) (bs:List Bool),xs=[.ref p]/\bZ K H p (bs.map V.bl)/\Q (.bl (bs.all id)) H
theorem Cd(hc:X.calm=true):iH X (.builtin "all") (Ia X.K):=by
 intro pins s σ H xs us Q I r h
 obtain⟨p,bs,rfl,hq,q⟩:=h
 obtain⟨u,rfl,ru⟩:=vals1 r
 cases ru
 obtain⟨its,rv,pl,hz⟩:=I.list hq
 refine call_all_walk (wpAny_pyIter_list pl.isList ?_)
 obtain⟨ol,hol,hol'⟩:=id pl.isList
 have hlt:p<s.heap.objs.size:=Heap.lt_size hol
 have hlen:its.toArray.size=bs.length:=by simpa using rv.length.symm
 have at_:∀(i:Nat) (v:Value),its.toArray[i]?=some v->∃k,bs[i]?=some k/\v=Value.bool k:=λi v e=>by
  have e':its[i]?=some v:=by simpa using e
  have hi:i<its.length:=(List.getElem?_eq_some_iff.mp e').1
  have hb:i<(bs.map V.bl).length:=by rw[rv.length]; exact hi
  obtain⟨u',h1,h2⟩:=rv.get (List.getElem?_eq_getElem hb)
  rw[e']at h1
  cases h1
  have hb':i<bs.length:=by simpa using hb
  refine⟨bs[i],List.getElem?_eq_getElem hb',?_⟩
  rw[List.getElem_map]at h2
  exact h2
 refine⟨s.heap.objs.size,_,_,_,_,_,λi=>bs.getD i true,rfl,Walks.list (A:=X.A.in1) (I.ok.hd hc) s.heap.objs.size p (Nat.ne_of_lt hlt) its.toArray,⟨⟨_,Heap.get?_push_size _ rfl,rfl,rfl⟩,⟨ol,Heap.get?_push_of_some _ hol,hol'⟩⟩,?_,?_⟩
 ·intro i v s' Q' E' hP hQ'
  obtain⟨k,h1,rfl⟩:=at_ i v hP
  have:bs.getD i true=k:=by rw[List.getD_eq_getElem?_getD,h1]; rfl
  dsimp only at hQ'
  rw[this]at hQ'
  exact wpAny_truthy_bool hQ'
 ·intro h' tk hk
  have I1:Inv X pins σ H {s with heap:=h',toks:=tk }:=I.kept λb o e=>hk b o (by
   have:=Heap.lt_size e
   simp
   exact Nat.ne_of_lt this) (Heap.get?_push_of_some _ e)
  refine⟨.bl _,H,I1,rfl,?_⟩
  have eq:(List.range its.toArray.size).all (λi=>bs.getD i true)=bs.all id:=by
   rw[hlen]
   clear q hq rv at_ hlen hz
   induction bs with
   |nil=>rfl
   |cons b r ih =>
    rw[List.length_cons,List.range_succ_eq_map,List.all_cons,List.all_map,List.all_cons]
    exact congrArg (b && ·) ih
  rw[eq]
  exact q
end
def At(K:FZ)(mg:Str->Option Value)(x:Str)(st:Stmt):Prop:=∃f fd,uq K x x st f fd/\mg x=some (.ref f)
section
variable {X:Cx}{k:Nat}{x:Str}{ps:List Str}{sp:Sp}{p q pos:Pos}{e:Expr}{es:List Expr}{te:TE}{t:TA}
theorem aat(hX:Ca X.K)(c:Ty)(he:PE X e te)(h1:X.mg "isinstance" = none) (h2:X.mg x=none) (hb:bootBuiltins x=some (.type c.name):=by decide +kernel) (hg1:Gl X "isinstance" := by rfl) (hg2:Gl X x:=by rfl) (hn:x ≠ "__name__" := by decide) (hd:(x == ("__debug__" : Str))=false:=by decide)
  (hs:starEach (e::[.Name x q]) X.env=(false,eval e X.env)::starEach [.Name x q] X.env:=by rfl):PE X (.Call (.Name "isinstance" p) [e,.Name x q] [] pos) (jm (BZ X.K) (kY te (kY (tC (.ty c.name)) kW))) :=
 PK (aas hX) hg1 h1 PyProof.Rows.boot_isinstance (oJ he (oJ (YW hg2 h2 hb rfl hn hd) aB) hs) (he:=hs)
end
def off(a:Addr)(H:Hp):Hp:=λb=>if b=a then none else H b
theorem off_ne{a b:Addr}{H:Hp}(h:b≠a):off a H b=H b:=if_neg h
theorem wH{a b:Addr}{H:Hp}{o:HO}(h:off a H b=some o):b≠a/\H b=some o:=by
 unfold off at h
 split at h
 ·cases h
 ·rename_i e; exact⟨e,h⟩
structure Pj(Pr:Hp->Hp)(H0:Hp):Prop where
 mono:∀{H H':Hp},Same H H'->Same (Pr H) (Pr H')
 sub:∀H,Same (Pr H) H
 new:∀{H:Hp} {r:Addr} {o:HO},Same H0 H->H r=none->Pr (upd H r o) r=some o
theorem Pj.id(H0:Hp):Pj (λH=>H) H0:=⟨λs=>s,λH=>Same.refl H,λ_ _=>eX⟩
theorem Pj.le{Pr:Hp->Hp}{H0 H1:Hp}(p:Pj Pr H0)(s:Same H0 H1):Pj Pr H1:=⟨p.mono,p.sub,λs' h=>p.new (s.trans s') h⟩
theorem dW{H:Hp}{p:Addr}(h:H p=none)(o:HO):Same H (upd H p o):=λb u q=>by rw[bJ (ji q h)]; exact q
def notStar:Expr->Bool
 |.Starred _ _=>false
 |_=>true
theorem wI{e:Expr}{es:List Expr}{env:Env}(h:notStar e=true):starEach (e::es) env=(false,eval e env)::starEach es env:=by
 cases e <;> first|rfl|(unfold notStar at h; cases h)
def rN(K:FZ)(T:Tr):TE:=λ_ H Q=>∀v H',Same H H'->(∀Pr,Pj Pr H->Rep K (Pr H') v T)->Q v H'
def wJ(K:FZ)(Ts:List Tr):TA:=λ_ H Q=>∀vs H',Same H H'->(∀Pr,Pj Pr H->aF K (Pr H') vs Ts)->Q vs H'
def Ce(K:FZ)(Ts:List Tr):TE:=λ_ H Q=>∀a xs H1,Same H H1->H1 a=none->(∀Pr,Pj Pr H->aF K (Pr H1) xs Ts)->xs.length=Ts.length->Q (.ref a) (upd H1 a (.lst xs))
theorem PE.imp{X:Cx}{e:Expr}{t u:TE}(h:PE X e t)(i:∀σ H Q,u σ H Q->t σ H Q):PE X e u:=⟨λpins s σ H Q I q=>h pins s σ H Q I (i σ H Q q)⟩
theorem PA.imp{X:Cx}{e:List Expr}{t u:TA}(h:PA X e t)(i:∀σ H Q,u σ H Q->t σ H Q):PA X e u:=⟨λpos pins s σ H Q I q=>h pos pins s σ H Q I (i σ H Q q)⟩
mutual
noncomputable def pd:Tr->PyData
 |.non=>.none
 |.bl b=>.bool b
 |.int i=>.int i
 |.str x=>.str x
 |.tup ts=>.tuple (Ib ts)
 |.lst ts=>.list (Ib ts)
 |.cO _=>.none
noncomputable def Ib:List Tr->List PyData
 | []=>[]
 |t::r=>pd t::Ib r
end
def QH:V->Option Int->Option Int->Hp->VK->Prop:=λx lo hi H Q=>∃z,x=.str z/\z.length<=sizeLine/\Q (.str (Txt.slice z lo hi)) H
theorem aau{X:Cx}:m6 X QH:=by
 intro pins s σ H x v vl vu lo hi sl Q I rx hs pl pu h
 obtain⟨z,rfl,hz,q⟩:=h
 obtain⟨t,rfl⟩:=rx
 obtain⟨o,h1,h2,h3⟩:=hs
 have fin:∀(t':Tok) (k:Nat),EP X pins σ Q (.str (Txt.slice z lo hi) t') {s with toks:=k }:=λt' k=>⟨.str _,H,I.tok k,⟨_,rfl⟩,q⟩
 have hl:=Nat.le_trans (Txt.slice_le z lo hi) hz
 refine⟨"str",_,F.slot_str_getitem.lookup,typeIs_str _ _ _,?_⟩
 cases pl with
 |none =>
  cases pu with
  |none=>exact wpAny_getItem_str_slice (l:=none) (u:=none) (st:=none) ⟨o,h1,h2,h3⟩ rfl (post_val_or_str ⟨hl,λt' k=>fin t' k⟩)
  |int j uj=>exact wpAny_getItem_str_slice (l:=none) (u:=some (j,uj)) (st:=none) ⟨o,h1,h2,h3⟩ rfl (post_val_or_str ⟨hl,λt' k=>fin t' k⟩)
 |int i ui =>
  cases pu with
  |none=>exact wpAny_getItem_str_slice (l:=some (i,ui)) (u:=none) (st:=none) ⟨o,h1,h2,h3⟩ rfl (post_val_or_str ⟨hl,λt' k=>fin t' k⟩)
  |int j uj=>exact wpAny_getItem_str_slice (l:=some (i,ui)) (u:=some (j,uj)) (st:=none) ⟨o,h1,h2,h3⟩ rfl (post_val_or_str ⟨hl,λt' k=>fin t' k⟩)
def nw(H H':Hp):Hp:=λb=>match H b with
 |none=>H' b
 |some _=>none
noncomputable def jr(P:Program)(w:World):jT:=λouter H s E e s'=>∃ea cls a0 H' B,e=.ref ea/\E cls none H'/\s'.os=s.os/\AllBare s'.gens/\Un (frs outer) [] H H' s.heap s'.heap/\eY P w H' B /\
 Heap.FlyingW B outer ea cls a0 s'.heap/\∀b o,s.heap.get? b=some o->b∉frs outer->∃o',B.get? b=some o'
theorem aav{env:Env}{outer:List Env}{L b:Addr}(hf:env.frame=some L)(h:b∈frs (env::outer)):b=L\/b∈frs outer:=by
 unfold frs at h
 rw[List.filterMap_cons_some hf]at h
 exact List.mem_cons.mp h
theorem aaw{env:Env}{outer:List Env}{b:Addr}(h:b∈frs outer):b∈frs (env::outer):=by
 obtain⟨e,he,q⟩:=List.mem_filterMap.mp h
 exact List.mem_filterMap.mpr ⟨e,List.mem_cons_of_mem _ he,q⟩
theorem aax{P:Program}{w:World}{H:Hp}{h:Heap}{l:List Addr}(x:eY P w H h)(fr:∀b∈l,H b=none):eY P w H (PySem.W.hideAll h l):=λa o e =>
 (x a o e).stay (λb u hb q=>PySem.W.hideAll_get _ q λhm=>by
  rcases hb with rfl|hb
  ·rw[fr _ hm]at e; cases e
  ·rw[fr _ hm]at hb; cases hb) (λ_ q=>q) λ_ _ q=>q
section
variable {P:Program}{w:World}{K:FZ}{mg:Str->Option Value}{base:Heap}{N:List Str}{qual:Str}{scope:Scope}{f:Addr}{cd:Value}{A:Around}{outer:List Env}{s:Shared}{H:Hp}{E:XK}{CX:jT}
theorem Un.left{pins:List (Addr × Obj)}{σ : St}{H1 H2:Hp}{s1:Shared}{h2 h3 B:Heap}(I:Inv (jU CX P w K mg base N qual scope f cd A outer s H E) pins σ H1 s1)
  (u:Un (frs (envOfC qual scope s.heap.objs.size f cd::outer)) [] H1 H2 s1.heap h2) (st:B.StaysIn h2) (kb:∀b o,s1.heap.get? b=some o->b∉frs (envOfC qual scope s.heap.objs.size f cd::outer)->∃o',B.get? b=some o')
  (fl:B.StaysIn h3) (sl:h2.UpToSlots h3):Un (frs outer) [] H H2 s.heap h3/\∀b o,s.heap.get? b=some o->b∉frs outer->∃o',B.get? b=some o':=by
 have ub:=I.base
 have hf:(envOfC qual scope s.heap.objs.size f cd).frame=some s.heap.objs.size:=by
  rcases I.ok.stk with z|z
  ·exact absurd (congrArg List.length z) (by show outer.length+1≠outer.length; omega)
  ·exact z.2
 have no:∀b o,s.heap.get? b=some o->b∉frs outer->b∉frs (envOfC qual scope s.heap.objs.size f cd::outer):=λb o e n z=>by
  rcases aav hf z with rfl|z
  ·exact absurd (Heap.lt_size e) (Nat.lt_irrefl _)
  ·exact n z
 have nx:∀b:Addr,b∉([]:List Addr):=λb z=>nomatch z
 have inB:∀b o,s.heap.get? b=some o->b∉frs outer->∃o',B.get? b=some o':=λb o e n=>by
  obtain⟨o1,e1⟩:=ub.there b o e (nx b)
  exact kb b o1 e1 (no b o e n)
 have slots:∀b o,s.heap.get? b=some o->H b=none->b∈frs outer->∃sl,h3.get? b=some {o with slots:=sl }:=λb o e n z=>by
  obtain⟨QJ,e1⟩:=ub.slot b o e n z (nx b)
  obtain⟨sl2,e2⟩:=u.slot b _ e1 (ub.free b o e n (nx b)) (aaw z) (nx b)
  obtain⟨_,o',e',nf⟩:=I.ok.lN.mem z
  have e'':s.heap.get? b=some o':=e'
  rw[e]at e''
  cases e''
  obtain⟨Ie,e3⟩:=sl b _ e2 nf
  exact⟨Ie,e3⟩
 refine⟨⟨λb o e n z _=>?_,λb o e n z _=>slots b o e n z,λb o e n _=>?_,λb o e _=>?_,λb xs q=>u.tups b xs (ub.tups b xs q),λb o q z=>u.mY b o q (ub.mY b o q z),λb ps q=>?_⟩,inB⟩
 ·have e1:=ub.keep b o e n z (nx b)
  have e2:=u.keep b o e1 (ub.free b o e n (nx b)) (no b o e z) (nx b)
  obtain⟨o',e3⟩:=inB b o e z
  have e4:=st b o' e3
  rw[e2]at e4
  cases e4
  exact fl b o e3
 ·obtain⟨o1,e1⟩:=ub.there b o e (nx b)
  exact u.free b o1 e1 (ub.free b o e n (nx b)) (nx b)
 ·by_cases z:b∈frs outer
  ·obtain⟨sl,e1⟩:=slots b o e (I.ok.tX b z) z
   exact⟨_,e1⟩
  ·obtain⟨o',e1⟩:=inB b o e z
   exact⟨o',fl b o' e1⟩
 ·obtain⟨m1,e1⟩:=ub.mZ b ps q
  obtain⟨m2,e2⟩:=u.mZ b _ e1
  exact⟨m1++m2,by rw[e2,Array.append_assoc]⟩
end
def Raises(X:Cx)(E:XK):Prop:=∀(pins:List (Addr × Obj)) (σ : St) (H:Hp) (s:Shared) (h':Heap) (e C:Addr) (us:List Value),Inv X pins σ H s->Heap.MadeExcOf s.heap h' e (.ref C) us->E (.ref C) none H->X.xe (.ref e) {s with heap:=h' }
theorem yJ{P:Program}{w:World}{K:FZ}{mg:Str->Option Value}{base:Heap}{N:List Str}{qual:Str}{scope:Scope}{f:Addr}{cd:Value}{A:Around}{outer:List Env}{s:Shared}{H:Hp}{E:XK} :
  Raises (jU (jr P w) P w K mg base N qual scope f cd A outer s H E) E:=by
 intro pins σ H1 s1 h' e C us I hx q
 have hs:=I.stack
 have hf:(envOfC qual scope s.heap.objs.size f cd).frame=some s.heap.objs.size:=by
  rcases I.ok.stk with z|z
  ·exact absurd (congrArg List.length z) (by show outer.length+1≠outer.length; omega)
  ·exact z.2
 have hin:∀env∈(envOfC qual scope s.heap.objs.size f cd::outer),∀a,env.frame=some a->a∈frs (envOfC qual scope s.heap.objs.size f cd::outer):=λenv he b hb=>List.mem_filterMap.mpr ⟨env,he,hb⟩
 have QK:(PySem.W.hideAll s1.heap (frs (envOfC qual scope s.heap.objs.size f cd::outer))).StaysIn s1.heap:=λb o z=>PySem.W.of_hideAll _ z
 have stH:(PySem.W.hideAll s1.heap (frs (envOfC qual scope s.heap.objs.size f cd::outer))).StaysIn h':=λb o z=>hx.keeps b o (QK b o z)
 refine wpAny_leaves_madeW (base:=PySem.W.hideAll s1.heap (frs (envOfC qual scope s.heap.objs.size f cd::outer))) (h:=s1.heap) I.ok.frames hf QK (PySem.W.funFrames_hide hs hin) hx λh'' t fl _ _ sl=>?_
 obtain⟨un,ib⟩:=Un.left (B:=PySem.W.hideAll s1.heap (frs (envOfC qual scope s.heap.objs.size f cd::outer))) I (Un.kept (h':=h') hx.keeps) stH (λb o z n=>⟨o,PySem.W.hideAll_get _ z n⟩) fl.1 sl
 exact⟨e,.ref C,.ref t,H1,_,rfl,q,I.os,I.bare,un,aax I.hok I.Az,fl,ib⟩
theorem cL{P:Program}{w:World}{K:FZ}{mg:Str->Option Value}{base:Heap}{N:List Str}{qual:Str}{scope:Scope}{f:Addr}{cd:Value}{A:Around}{outer:List Env}{s:Shared}{H:Hp}{E:XK} :
  Passes (jr P w) (jU (jr P w) P w K mg base N qual scope f cd A outer s H E) E:=by
 intro pins σ H1 s1 e s' I h
 obtain⟨ea,cls,a0,H2,B,rfl,q,os,bare,un,hok,fl,kb⟩:=h
 have hf:(envOfC qual scope s.heap.objs.size f cd).frame=some s.heap.objs.size:=by
  rcases I.ok.stk with z|z
  ·exact absurd (congrArg List.length z) (by show outer.length+1≠outer.length; omega)
  ·exact z.2
 refine wpAny_leaves_onW (base:=B) I.ok.frames hf fl λh'' QL sl=>?_
 obtain⟨un',ib⟩:=Un.left (B:=B) I un fl.1 kb QL.1 sl
 exact⟨ea,cls,a0,H2,B,rfl,q,os.trans I.os,bare,un',hok,QL,ib⟩
def QM(E:XK)(C:Addr)(te:TE):TS:=λ_ σ H=>te σ H λv H1=>[v].length=1/\E (.ref C) none H1
theorem yK{X:Cx}{E:XK}{x:Str}{C:Addr}{B newId initId:String}{bm:List Value}{np cpos pos:Pos}{e:Expr}{te:TE}(R:Raises X E)(O:OwnCls x C bm newId X.mg X.base)(FB:ExcBaseFacts B newId initId bm)(hc:X.calm=true)(ha:PE X e te)
  (hg:Gl X x:=by rfl) (hd:(x == ("__debug__" : Str))=false:=by decide) (hs:starEach [e] X.env=[(false,eval e X.env)]:=by rfl) :
  PS X (.Raise (some (.Call (.Name x np) [e] [] cpos)) none pos) (QM E C te):=by
 refine⟨λpins s σ H D I h=>?_⟩
 obtain⟨tl,N,nm,q,bs,hdct,sn,sub,ab,col,dd,k0,k1,k2,k3,k5,mN,hC,hN,hni,T⟩:=O.obj
 refine wpAny_Raise_call_subT (C:=C) (nm:=nm) (q:=q) (N:=N) (bs:=bs) (bm:=tl) (hdct:=hdct) (sn:=sn) (sub:=sub) (ab:=ab) (col:=col) (dd:=dd) (k0:=k0) (k1:=k1) (k2:=k2) (k3:=k3) (k5:=k5)
  FB (mN:=mN) (T.hasType FB.hasBase) (I.ok.hd hc) (by rw[hs]; rfl) hni (GJ I hg O.bound ⟨rfl,?_⟩ hd)
 have ga:PA X [e] (kY te kW):=oJ ha aB (by rw[hs]; rfl)
 have z:=ga cpos pins s σ H (λvs H1=>vs.length=1/\E (.ref C) none H1) I (by
  show te σ H λv H1=>_
  exact h)
 rw[hs]at z ⊢
 refine Calls.evalArgs_plain (wpAny_mono z (λus s₂ h₂=>?_) λ_ _ y=>y)
 obtain⟨vs,H2,I2,rv,hl,hE⟩:=h₂
 refine⟨rfl,?_,I2.bk _ _ hC,hN.keeps I2.bk,T.keeps I2.bk,λh' e' hm=>R pins σ H2 s₂ h' e' C us I2 hm hE⟩
 rw[<-rv.length,hl]
 decide
def XP(X:Cx)(pins:List (Addr × Obj))(EX:St->XK)(e:Value)(s':Shared):Prop:=∃σ H s,Inv X pins σ H s/\jr X.prog X.w X.stack H s (EX σ) e s'
abbrev TX:=Ends->(St->XK)->St->Hp->Prop
abbrev TEX:=(St->XK)->TE
end L2
end
section
namespace L2
open PySem PySem.Spec PyProof.Rows PySem.W PySem.Builtin PySem.Builtin.ObjectAttr PySem.Builtin.Getset_descriptor
structure oO(K:Frag)(C:Addr):Prop where
 ga:findIn K (.ref C) "__getattribute__" = some (some (.builtin "BaseException.__getattribute__"))
 gn:findIn K (.ref C) "__getattr__" = some none
 cl:findIn K (.ref C) "__class__" = some (some (.builtin "object.__class__"))
 ob:mroIn K C (.type "object")=some true
 be:mroIn K C (.type "BaseException")=some true
 is:(clsIn K C).isSome=true
section
variable {prog:Program}{w:World}{A:Around}{E:Value->Shared->Prop}{h:Heap}{g:Array GenState}{d:Drawn}{t:Nat}{os:OsState}{a C:Addr}{o:Obj}{K:Frag}
theorem aay{R:Result->Shared->Prop}(X:K.In h)(Z:oO K C)(hx:h.get? a=some o)(hc:o.cls=.ref C)(hq:R (.ok (.ret (.ref C))) ⟨h,g,d,t,os⟩) :
  codeAny (model prog w) A (.call (.builtin "getset_descriptor.__get__") ⟨[.builtin "object.__class__",.ref a,.ref C],[]⟩) R ⟨h,g,d,t,os⟩:=by
 have ty:Looks (model prog w) h (typeOf (.ref a)) (.ref C):=hc▸(Looks.ld hx).andThen .now
 have ms:=looks_mroIn (M:=model prog w) X Z.ob
 refine codeAny_call_builtin KF.slot_gs.plain KF.entry_gs (KF.slot_gs.check _ _ _ _ _ _ _ _ KF.type_class (KF.args_gs _ _ _) ?_)
 unfold Builtin.«getset_descriptor.__get__»
 unfold Builtin.Getset_descriptor.descrGet
 rw[dga_obj]
 refine wpAny_bind (wpAny_pure ?_)
 unfold Builtin.Getset_descriptor.descrGetter
 unfold Builtin.Getset_descriptor.descrCheckInstance
 unfold Builtin.Getset_descriptor.descrNameAndClass
 unfold isInstance
 simp only[KF.owner_class]
 repeat lk
 refine⟨Code.quiet_builtin _ (by decide +kernel),codeAny_builtin KF.entry_class ?_⟩
 unfold Builtin.«object.__class__»
 unfold shownTypeOf
 repeat lk
 all_goals first|exact hq|assumption
theorem aaz{tk:Tok}{Q:Fin->Shared->Prop}(X:K.In h)(Z:oO K C)(hx:h.get? a=some o)(hc:o.cls=.ref C)(hq:Q (.done (.ret (.ref C))) ⟨h,g,d,t,os⟩) :
  wpAny (model prog w) A (Builtin.«object.__getattribute__» ⟨[.ref a,.str "__class__" tk],[]⟩) Q E ⟨h,g,d,t,os⟩:=by
 have hT5:(⟨h,g,d,t,os⟩:Shared).TypeIs (.builtin "object.__class__") "getset_descriptor" := KF.type_class
 have f6:=F.slot_gs_get.lookup
 have f7:=F.slot_gs_set.lookup
 have lc:=λA (Q:Option Value->Shared->Prop) E (q:Q (some (.builtin "object.__class__")) ⟨h,g,d,t,os⟩)=>looks_findIn (M:=model prog w) X Z.cl A Q E ⟨h,g,d,t,os⟩ (λ_ _ z=>z) q
 repeat(any_goals (first|assumption|(with_reducible refine wpAny_loadPart_at hx ?_; rw[hc])|with_reducible refine lc _ _ _ ?_|wp_step))
 refine aay X Z hx hc ?_
 repeat(any_goals (first|assumption|wp_step))
theorem aaA{nameV:Value}{Q:Unit->Shared->Prop}(X:K.In h)(Z:oO K C)(hx:h.get? a=some o)(hc:o.cls=.ref C)(hq:Q () ⟨h,g,d,t,os⟩) :
  wpAny (model prog w) A (checkBuiltinCall "BaseException.__getattribute__" ⟨[.ref a,nameV],[]⟩) Q E ⟨h,g,d,t,os⟩:=by
 have b1:builtinKind "BaseException.__getattribute__" = some .slot:=by decide +kernel
 have b2:splitId "BaseException.__getattribute__" = some ("BaseException", "__getattribute__"):=by decide +kernel
 have ha:=F.args_bexc_ga (.ref a) nameV
 have lc:=λA (Q:Bool->Shared->Prop) E (q:Q true ⟨h,g,d,t,os⟩)=>looks_mroIn (M:=model prog w) X Z.be A Q E ⟨h,g,d,t,os⟩ (λ_ _ z=>z) q
 simp only[checkBuiltinCall,b1,b2]
 refine wpAny_bind ?_
 unfold isInstance
 repeat(first|(with_reducible refine wpAny_loadPart_at hx ?_; rw[hc])|with_reducible refine lc _ _ _ ?_|wp_step)
 exact hq
theorem aaB{tk:Tok}{R:Result->Shared->Prop}(X:K.In h)(Z:oO K C)(hx:h.get? a=some o)(hc:o.cls=.ref C)(hq:R (.ok (.ret (.ref C))) ⟨h,g,d,t,os⟩) :
  codeAny (model prog w) A (.call (.builtin "BaseException.__getattribute__") ⟨[.ref a,.str "__class__" tk],[]⟩) R ⟨h,g,d,t,os⟩ :=
 codeAny_call_builtin PySem.F.attr_ValueError.ga.plain F.entry_bexc_ga (aaA X Z hx hc (aaz X Z hx hc hq))
theorem aaC{tk:Tok}{Q:Value->Shared->Prop}(X:K.In h)(Z:oO K C)(hx:h.get? a=some o)(hc:o.cls=.ref C)(hq:Q (.ref C) ⟨h,g,d,t,os⟩) :
  wpAny (model prog w) A (getAttrBy (.ref a) (.str "__class__" tk) false) Q E ⟨h,g,d,t,os⟩:=by
 have f3:=PySem.F.attr_ValueError.ga.bind (.ref a)
 have hx2:(Value.builtin "BaseException.__getattribute__" == Value.builtin "object.__getattribute__")=false:=by decide +kernel
 have hx1:(onTheHeap (Value.ref C)&&Value.builtin "BaseException.__getattribute__" == Value.builtin "object.__getattribute__")=false:=by rw[hx2]; rfl
 have l1:=λA (Q:Option Value->Shared->Prop) E (q:Q (some (.builtin "BaseException.__getattribute__")) ⟨h,g,d,t,os⟩)=>looks_findIn (M:=model prog w) X Z.ga A Q E ⟨h,g,d,t,os⟩ (λ_ _ z=>z) q
 have l2:=λA (Q:Option Value->Shared->Prop) E (q:Q none ⟨h,g,d,t,os⟩)=>looks_findIn (M:=model prog w) X Z.gn A Q E ⟨h,g,d,t,os⟩ (λ_ _ z=>z) q
 repeat(any_goals (first|assumption|(with_reducible refine wpAny_loadPart_at hx ?_; rw[hc])|with_reducible refine l1 _ _ _ ?_|with_reducible refine l2 _ _ _ ?_|wp_step))
 refine aaB X Z hx hc ?_
 repeat(any_goals (first|assumption|wp_step))
theorem aaD{Q:Option Value->Shared->Prop}(X:K.In h)(Z:oO K C)(hx:h.get? a=some o)(hc:o.cls=.ref C)(hq:Q (some (.ref C)) ⟨h,g,d,t+1,os⟩) :
  wpAny (model prog w) A (getAttr? (.ref a) "__class__") Q E ⟨h,g,d,t,os⟩:=by
 unfold getAttr? getAttrBy?
 repeat(any_goals (first|assumption|with_reducible apply aaC X Z hx hc|wp_step))
theorem aaE(Z:oO K C):KitX K (.ref a) (.ref C) (BL a C) where
 ty:=λ_ _ _ ⟨o,_,h1,h2,_⟩=>h2▸(Looks.ld h1).andThen .now
 it:=λ_ _ X _=>by
  obtain⟨cd,e⟩:=Option.isSome_iff_exists.mp Z.is
  unfold clsIn at e
  split at e
  ·rename_i ho
   intro A' Q' E' s' k q
   unfold isType loadHead
   exact wpAny_bind (wpAny_loadPart (k _ _ (X _ _ ho)) (wpAny_pure q))
  ·cases e
 ne:=λh tp dd its n sl X htp=>by
  obtain⟨cd,e⟩:=Option.isSome_iff_exists.mp Z.is
  refine Bool.eq_false_iff.mpr λq=>?_
  have q':C=tp:=Value.ref.inj (beq_iff_eq.mp q)
  subst q'
  unfold clsIn at e
  split at e
  ·rename_i ho
   have z:=(X _ _ ho).symm.trans htp
   cases z
  ·cases e
 ca:=λ{_ _ _ _ _ s} X p k=>by
  obtain⟨h,g,d,t,os⟩:=s
  obtain⟨o,_,h1,h2,_⟩:=p
  exact aaD X Z h1 h2 k
end
open PySem
theorem aaF(a b:Int):a=b*a.fdiv b+a.fmod b:=by
 have:=Int.mul_fdiv_add_fmod a b
 omega
theorem QT(a b:Int)(h:b≠0):(a.fmod b).natAbs<b.natAbs:=by
 have h1:=Int.emod_nonneg a h
 have h2:=Int.emod_lt a h
 rw[Int.fmod_eq_emod]
 split
 ·omega
 ·rename_i hn
  have hb:¬0<=b:=λz=>hn (.inl z)
  have hd:¬b∣a:=λz=>hn (.inr z)
  have h3:a%b≠0:=λz=>hd (Int.dvd_of_emod_eq_zero z)
  omega
theorem QV(a b:Int):Int.gcd b (a.fmod b)=Int.gcd a b:=by
 have e:=aaF a b
 apply Nat.dvd_antisymm
 ·refine Int.dvd_gcd ?_ ?_
  ·have h1:(Int.gcd b (a.fmod b):Int)∣b:=Int.gcd_dvd_left ..
   have h2:(Int.gcd b (a.fmod b):Int)∣a.fmod b:=Int.gcd_dvd_right ..
   have h3:=Int.dvd_add (Int.dvd_mul_of_dvd_left (c:=a.fdiv b) h1) h2
   rw[<-e]at h3
   exact h3
  ·exact Int.gcd_dvd_left ..
 ·refine Int.dvd_gcd ?_ ?_
  ·exact Int.gcd_dvd_right ..
  ·have h1:(Int.gcd a b:Int)∣a:=Int.gcd_dvd_left ..
   have h2:(Int.gcd a b:Int)∣b:=Int.gcd_dvd_right ..
   have e2:a.fmod b=a-b*a.fdiv b:=by omega
   rw[e2]
   exact Int.dvd_sub h1 (Int.dvd_mul_of_dvd_left h2)
theorem aaG(a:Int):(if a<0 then -a else a)=((Int.gcd a 0:Nat):Int):=by
 rw[Int.gcd_zero_right]
 split <;> omega
theorem wK{a b:Int}(hb:0<b):0<((Int.gcd a b:Nat):Int)/\((Int.gcd a b:Nat):Int)<=b/\1<=b / (Int.gcd a b:Nat)/\Int.gcd (a / (Int.gcd a b:Nat)) (b / (Int.gcd a b:Nat))=1/\(0<=a->0<=a / (Int.gcd a b:Nat)) /\
  a=(a / (Int.gcd a b:Nat))*(Int.gcd a b:Nat)/\b=(b / (Int.gcd a b:Nat))*(Int.gcd a b:Nat):=by
 have hg:0<Int.gcd a b:=Int.gcd_pos_of_ne_zero_right a (by omega)
 have hgi:0<((Int.gcd a b:Nat):Int):=by omega
 have d1:(Int.gcd a b:Int)∣a:=Int.gcd_dvd_left ..
 have d2:(Int.gcd a b:Int)∣b:=Int.gcd_dvd_right ..
 have e1:=Int.ediv_mul_cancel d1
 have e2:=Int.ediv_mul_cancel d2
 refine⟨hgi,Int.le_of_dvd hb d2,?_,Int.gcd_ediv_gcd_ediv_gcd hg,λh=>Int.ediv_nonneg h (by omega),e1.symm,e2.symm⟩
 have:0<b / (Int.gcd a b:Nat):=Int.ediv_pos_of_pos_of_dvd hb (by omega) d2
 omega
open PySem.Spec PyProof.Rows
theorem aaH{p q p' q':Int}(h1:1<=q)(h2:1<=q')(g1:Int.gcd p q=1)(g2:Int.gcd p' q'=1)(e:p*q'=p'*q):p=p'/\q=q':=by
 have en:p.natAbs*q'.natAbs=p'.natAbs*q.natAbs:=by rw[<-Int.natAbs_mul,<-Int.natAbs_mul,e]
 have c1:Nat.Coprime q.natAbs p.natAbs:=by rw[Nat.coprime_comm]; exact g1
 have c2:Nat.Coprime q'.natAbs p'.natAbs:=by rw[Nat.coprime_comm]; exact g2
 have d1:q.natAbs∣q'.natAbs:=c1.dvd_of_dvd_mul_left ⟨p'.natAbs,by rw[en,Nat.mul_comm]⟩
 have d2:q'.natAbs∣q.natAbs:=c2.dvd_of_dvd_mul_left ⟨p.natAbs,by rw[<-en,Nat.mul_comm]⟩
 have ea:=Nat.dvd_antisymm d1 d2
 have eq:q=q':=by omega
 refine⟨?_,eq⟩
 rw[<-eq]at e
 exact Int.eq_of_mul_eq_mul_right (by omega) e
open PySem.W
theorem yL{K:Frag}{h:Heap}{mg:Str->Option Value}{x:Str}{C:Addr}{bmB:List Value}{newId:String}(X:K.In h)(G:h.Ns mainGlobals mg)(e:nsIn K mainGlobals x=some (some (.ref C)))(q:excIn K C bmB newId=true):OwnCls x C bmB newId mg h:=by
 constructor
 ·exact mg_of X G e
 unfold excIn at q
 split at q
 case h_2=>cases q
 rename_i dd cd sl lk
 split at q
 case h_2=>cases q
 rename_i c0 bm y0 y1 y2 y3 nid y5 hm hl
 rw[Bool.and_eq_true,Bool.and_eq_true,Bool.and_eq_true,Bool.and_eq_true,Bool.and_eq_true]at q
 obtain⟨⟨⟨⟨⟨q1,q2⟩,q3⟩,q4⟩,q5⟩,q6⟩:=q
 have r1:=beq_iff_eq.mp q1
 have r2:=beq_iff_eq.mp q2
 have r6:=beq_iff_eq.mp q6
 have r3:cd.hasDel=false:=by simpa using q3
 subst r1 r2
 have hsl:sl = #[y0,y1,y2,y3,some (.builtin nid),y5]:=by
  cases sl with
  |mk l=>exact congrArg Array.mk hl
 subst hsl
 cases cd with
 |mk nm bs mro ns qn hd sn sub ab col del =>
  dsimp only at hm r3 q5 r6
  subst hm r3
  exact⟨bm,ns,nm,qn,bs,hd,sn,sub,ab,col,dd,y0,y1,y2,y3,y5,_,X _ _ lk,.of_isNs (isNs_of_in X q5),nsMap_none_of_in X q5 r6,tail_of_in X q4⟩
section
variable {P:Program}{w:World}{K:Frag}{mg:Str->Option Value}{base:Heap}
theorem uq.okX{x qual:Str}{st:Stmt}{f:Addr}{fd:FuncData}{N ps:List Str}{k:Nat}{sp:Sp}(F:uq K x qual st f fd)(S:rG N ps (bx st))(len:∀vs H Q E,sp vs H Q E->vs.length=ps.length)
  (hbody:∀(cdv:Value) (A:Around) (outer:List Env) (s:Shared) (H:Hp) (vs:List V) (Q:VK) (E:XK),fL k (A.deeper (envOfC qual (bx st) s.heap.objs.size f cdv))->sp vs H Q E ->
   ∃t,jj (jU (jr P w) P w K mg base N qual (bx st) f cdv A outer s H E) (jE st) t/\t {nx:=λ_ H'=>Q .non H',rt:=Q } (start N vs) H):kZ P w K mg base (jr P w) (k+1) f fd ps sp:=by
 obtain⟨oc,od,kV,doc,pm,an,cdv,ct,osl,rfl,lk,hcd⟩:=F.ex
 exact PJ lk hcd S len λA outer s H vs Q E hr h=>hbody cdv A outer s H vs Q E hr h
def aM(P:Program)(w:World)(K:Frag)(mg:Str->Option Value)(base:Heap)(k:Nat)(x:Str)(ps:List Str)(sp:Sp):Prop :=
 ∃f fd,kZ P w K mg base (jr P w) k f fd ps sp/\Binds K fd ps []/\keepIn K (.ref f)=true/\mg x=some (.ref f)
theorem aM.mono{j k:Nat}{x:Str}{ps:List Str}{sp:Sp}(D:aM P w K mg base j x ps sp)(h:j<=k):aM P w K mg base k x ps sp:=by
 obtain⟨f,fd,h1,h2⟩:=D
 exact⟨f,fd,h1.mono h,h2⟩
theorem At.dfx{k:Nat}{x:Str}{st:Stmt}{N ps:List Str}{sp:Sp}(a:At K mg x st)(S:rG N ps (bx st))
  (hb:∀(kV doc pm:Value) (an:Option Addr) (cdv ct:Value) (us:List Value),us.length=ps.length->bindArgs (fnOf x x (oN st) (jE st) (bx st) .none kV doc pm an cdv ct) ⟨us,[]⟩=pure (ps.zip us))
  (len:∀vs H Q E,sp vs H Q E->vs.length=ps.length)
  (hbody:∀(f:Addr) (cdv:Value) (A:Around) (outer:List Env) (s:Shared) (H:Hp) (vs:List V) (Q:VK) (E:XK),fL k (A.deeper (envOfC x (bx st) s.heap.objs.size f cdv))->sp vs H Q E ->
   ∃t,jj (jU (jr P w) P w K mg base N x (bx st) f cdv A outer s H E) (jE st) t/\t {nx:=λ_ H'=>Q .non H',rt:=Q } (start N vs) H):aM P w K mg base (k+1) x ps sp:=by
 obtain⟨f,fd,F,m⟩:=a
 exact⟨f,fd,F.okX S len λcdv A outer s H vs Q E hr h=>hbody f cdv A outer s H vs Q E hr h,F.binds hb,F.kp,m⟩
end
section
variable {X:Cx}{k:Nat}{x:Str}{ps:List Str}{sp:Sp}{p pos:Pos}{e:Expr}{es:List Expr}{t:TA}
theorem aaI{P:Program}{w:World}:Passes (jr P w) X E0:=λ_ _ _ _ _ _ _ h=>by
 obtain⟨_,_,_,_,_,_,q,_⟩:=h
 exact q.elim
end
end L2
end
section
namespace L2
open PySem PySem.Spec PyProof.Rows
noncomputable def Ig(K:FZ)(l1 l2:Addr):It where
 go:=λi H=>∃xs ys x y,bZ K H l1 xs/\bZ K H l2 ys/\xs[i]?=some x/\ys[i]?=some y
 rm:=λi H v H'=>∃T x y,v=.ref T/\H T=none/\H'=upd H T (.tup [x,y])/\∀xs ys,bZ K H l1 xs->bZ K H l2 ys->xs[i]?=some x/\ys[i]?=some y
 stop:=λi H=>∃xs ys,bZ K H l1 xs/\bZ K H l2 ys/\i=min xs.length ys.length
def aaJ(l1 l2 z TI TO i1 i2:Addr)(i:Nat)(h:Heap):Prop:=IsZip h z TI TO .none/\IsPair h TI (.ref i1) (.ref i2)/\(∃a b,IsPair h TO a b)/\h.IsListIter i1 l1 i/\h.IsListIter i2 l2 i
section
variable {P:Program}{w:World}{K:FZ}
theorem Inv.aaK{X:Cx}{pins:List (Addr × Obj)}{σ : St}{H:Hp}{s:Shared}{h':Heap}{tk:Nat}{fp:List Addr}{T:Addr}{xs:List V}{its:List Value}(I:Inv X pins σ H s)(hf:∀b∈fp,d7 X pins H b)(k:∀b o,b∉fp->s.heap.get? b=some o->h'.get? b=some o)
  (th:∀b∈fp,∃o,h'.get? b=some o) (hT:s.heap.objs.size<=T) (ht:IsTup h' T its.toArray) (rv:Vals xs its) (hz:xs.length<=sizeLine):Inv X pins σ (upd H T (.tup xs)) {s with heap:=h',toks:=tk }:=by
 have fT:H T=none:=I.hok.fresh hT
 have neT:∀b o,s.heap.get? b=some o->b≠T:=λb o e z=>by rw[z]at e; exact absurd (Heap.lt_size e) (Nat.not_lt.mpr hT)
 have yM:∀b o,H b=some o->b≠T:=λb o e z=>by rw[z,fT]at e; cases e
 refine I.step (g':=s.gens) (d':=s.drawn) (ch:=fp) (λb hb=>?_) (λb o _ _ hc e _=>k b o hc e) (λb o _ _ hc e _=>⟨o.slots,k b o hc e⟩) (λb o _ e n=>by rw[bJ (neT b o e)]; exact n) (λb o hc e=>⟨o,k b o hc e⟩)
  (λb ys e=>by rw[bJ (yM b _ e)]; exact e) (λb o u e=>by rw[bJ (yM b _ e)]; exact e) (λb ps e=>⟨#[],by rw[bJ (yM b _ e)]; simpa using e⟩) (λm hm=>?_) (λb u e=>?_) I.bare
 ·obtain⟨f0,f1,f2,f3,f4,f5⟩:=hf b hb
  exact⟨f3,f1,f4,f5⟩
 ·obtain⟨o,es,ep,ho,r⟩:=hm
  exact⟨o,es,ep,k _ o (λz=>(hf _ z).2.1 rfl) ho,r⟩
 ·by_cases z:b=T
  ·subst z
   rw[eX]at e
   cases e
   exact⟨hz,its,rv,ht⟩
  ·rw[bJ z]at e
   refine(I.hok b u e).stay (λc o hc q=>k c o (λzc=>?_) q) (λc q=>by rw[bJ (yM c _ q)]; exact q) λc ys q=>by rw[bJ (yM c _ q)]; exact q
   have:=(hf c zc).1
   rcases hc with rfl|hc
   ·rw[this]at e; cases e
   ·rw[this]at hc; cases hc
theorem Inv.aaL{X:Cx}{pins:List (Addr × Obj)}{σ : St}{H:Hp}{s:Shared}{h':Heap}{tk:Nat}{fp:List Addr}(I:Inv X pins σ H s)(hf:∀b∈fp,d7 X pins H b)(k:∀b o,b∉fp->s.heap.get? b=some o->h'.get? b=some o):Inv X pins σ H {s with heap:=h',toks:=tk }:=by
 refine I.step (g':=s.gens) (d':=s.drawn) (ch:=fp) (λb hb=>?_) (λb o _ _ hc e _=>k b o hc e) (λb o _ _ hc e _=>⟨o.slots,k b o hc e⟩) (λb o _ e n=>n) (λb o hc e=>⟨o,k b o hc e⟩)
  (λb ys e=>e) (λb o u e=>e) (λb ps e=>⟨#[],by simpa using e⟩) (λm hm=>?_) (λb u e=>?_) I.bare
 ·obtain⟨f0,f1,f2,f3,f4,f5⟩:=hf b hb
  exact⟨f3,f1,f4,f5⟩
 ·obtain⟨o,es,ep,ho,r⟩:=hm
  exact⟨o,es,ep,k _ o (λz=>(hf _ z).2.1 rfl) ho,r⟩
 ·refine(I.hok b u e).stay (λc o hc q=>k c o (λzc=>?_) q) (λc q=>q) λc ys q=>q
  have:=(hf c zc).1
  rcases hc with rfl|hc
  ·rw[this]at e; cases e
  ·rw[this]at hc; cases hc
theorem aaM{elts:List Expr}{k:Nat}{pos:Pos}(l1 l2 z TI TO i1 i2:Addr)(D:ZipApart z TI TO i1 i2 l1 l2):Turn P w K (.Tuple elts k pos) (Ig K l1 l2) [z,TI,TO,i1,i2] z (aaJ l1 l2 z TI TO i1 i2) where
 mem:=by simp
 obj:=λi h st b hb=>by
  obtain⟨hz,hTI,⟨a,c,hTO⟩,⟨o1,e1,_,d1⟩,⟨o2,e2,_,d2⟩⟩:=st
  have hb':b=z\/b=TI\/b=TO\/b=i1\/b=i2:=by simpa using hb
  rcases hb' with rfl|rfl|rfl|rfl|rfl
  ·exact⟨_,hz,λv q=>nomatch q⟩
  ·exact⟨_,hTI,λv q=>nomatch q⟩
  ·exact⟨_,hTO,λv q=>nomatch q⟩
  ·exact⟨o1,e1,λv q=>by rw[d1]at q; cases q⟩
  ·exact⟨o2,e2,λv q=>by rw[d2]at q; cases q⟩
 keep:=λi h h' st kp=>by
  obtain⟨hz,hTI,⟨a,c,hTO⟩,h1,h2⟩:=st
  exact⟨kp z (by simp) _ hz,kp TI (by simp) _ hTI,⟨a,c,kp TO (by simp) _ hTO⟩,h1.at λo e=>kp i1 (by simp) o e,h2.at λo e=>kp i2 (by simp) o e⟩
 item:=by
  intro X hP hw hK hc i pins s σ H E I hf st hg
  subst hP hw hK
  obtain⟨xs,ys,x,y,q1,q2,hx,hy⟩:=hg
  obtain⟨uz,Cg,p1,_⟩:=I.list q1
  obtain⟨its2,jq,p2,_⟩:=I.list q2
  obtain⟨u,hu,ru⟩:=Cg.get hx
  obtain⟨v,hv,rv⟩:=jq.get hy
  have W:=WalksT.zip2 (prog:=X.prog) (w:=X.w) (A:=X.A) (I.ok.hd hc) z TI TO i1 i2 l1 l2 D uz.toArray its2.toArray
  have lt1:i<uz.length:=(List.getElem?_eq_some_iff.mp hu).1
  have jV:i<its2.length:=(List.getElem?_eq_some_iff.mp hv).1
  refine W.item i s _ E (by simp; omega) ⟨st.1,st.2.1,st.2.2.1,st.2.2.2.1,st.2.2.2.2,p1.isList,p2.isList⟩ λT vals h' tk hp hT ht mid kk=>?_
  obtain⟨u',v',e1,e2,rfl⟩:=hp
  have eu:u'=u:=by
   have:uz[i]?=some u':=by simpa using e1
   rw[hu]at this; cases this; rfl
  have ev:v'=v:=by
   have:its2[i]?=some v':=by simpa using e2
   rw[hv]at this; cases this; rfl
  subst eu ev
  refine⟨.ref T,rfl,?_⟩
  refine W.go elts k pos i T _ _ E mid λh'' st' QW=>?_
  have nT:=W.apart i T _ mid
  have ob:=(λb hb=>(by
   obtain⟨hz,hTI,⟨a,c,hTO⟩,⟨o1,e1,_,d1⟩,⟨o2,e2,_,d2⟩⟩:=st
   have hb':b=z\/b=TI\/b=TO\/b=i1\/b=i2:=by simpa using hb
   rcases hb' with rfl|rfl|rfl|rfl|rfl
   ·exact Heap.lt_size hz
   ·exact Heap.lt_size hTI
   ·exact Heap.lt_size hTO
   ·exact Heap.lt_size e1
   ·exact Heap.lt_size e2:b<s.heap.objs.size):∀b∈[z,TI,TO,i1,i2],b<s.heap.objs.size)
  have nTf:T∉[z,TI,TO,i1,i2]:=λm=>absurd (ob T m) (Nat.not_lt.mpr hT)
  have sub:∀b,b∉[z,TI,TO,i1,i2]->b∉[z,TO,i1,i2]:=λb n m=>n (by simp at m ⊢; rcases m with rfl|rfl|rfl|rfl <;> simp)
  have aaN:IsTup h'' T #[u',v']:=by
   obtain⟨o,e,r⟩:=ht
   exact⟨o,QW T o nT e,r⟩
  have th:∀b∈[z,TI,TO,i1,i2],∃o,h''.get? b=some o:=λb hb=>by
   obtain⟨hz,hTI,⟨a,c,hTO⟩,⟨o1,e1,_,d1⟩,⟨o2,e2,_,d2⟩,_⟩:=st'
   have hb':b=z\/b=TI\/b=TO\/b=i1\/b=i2:=by simpa using hb
   rcases hb' with rfl|rfl|rfl|rfl|rfl
   ·exact⟨_,hz⟩
   ·exact⟨_,hTI⟩
   ·exact⟨_,hTO⟩
   ·exact⟨_,e1⟩
   ·exact⟨_,e2⟩
  have I':Inv X pins σ (upd H T (.tup [x,y])) {s with heap:=h'',toks:=tk }:=I.aaK (its:=[u',v']) hf (λb o n e=>QW b o (sub b n) (kk b o (sub b n) e)) th hT aaN (.cons ru (.cons rv .nil)) (by show 2<=sizeLine; decide)
  refine⟨.ref T,_,I',rfl,⟨T,x,y,rfl,I.hok.fresh hT,rfl,λxs' ys' a1 a2=>?_⟩,⟨st'.1,st'.2.1,st'.2.2.1,st'.2.2.2.1,st'.2.2.2.2.1⟩,λb hb=>?_⟩
  ·rw[I.Bd a1 q1,I.Bd a2 q2]
   exact⟨hx,hy⟩
  ·have nb:b≠T:=by
    intro e0
    rw[e0]at hb
    exact nTf hb
   rw[bJ nb]
   exact(hf b hb).1
 done:=by
  intro X hP hw hK hc i pins s σ H E I hf st hg
  subst hP hw hK
  obtain⟨xs,ys,q1,q2,e⟩:=hg
  obtain⟨uz,Cg,p1,_⟩:=I.list q1
  obtain⟨its2,jq,p2,_⟩:=I.list q2
  have W:=WalksT.zip2 (prog:=X.prog) (w:=X.w) (A:=X.A) (I.ok.hd hc) z TI TO i1 i2 l1 l2 D uz.toArray its2.toArray
  have ei:i=min uz.toArray.size its2.toArray.size:=by simp[e,Cg.length,jq.length]
  subst ei
  have sub:∀b,b∉[z,TI,TO,i1,i2]->b∉[z,TO,i1,i2]:=λb n m=>n (by simp at m ⊢; rcases m with rfl|rfl|rfl|rfl <;> simp)
  exact W.done s _ E ⟨st.1,st.2.1,st.2.2.1,st.2.2.2.1,st.2.2.2.2,p1.isList,p2.isList⟩ λh' tk kk=>⟨rfl,I.aaL hf λb o n e=>kk b o (sub b n) e⟩
 self:=λA i s Q E st h=>wpAny_pyIter_zip st.1 h
end
section
variable {X:Cx}
def QX(K:FZ)(ta:TA):TI:=λσ H R=>ta σ H λvs H1=>∃l1 l2,vs=[.ref l1,.ref l2]/\(∃xs,bZ K H1 l1 xs)/\(∃ys,bZ K H1 l2 ys)/\R (Ig K l1 l2) H1
theorem QZ{elts:List Expr}{k:Nat}{tpos:Pos}{a b:Expr}{ta:TA}{p pos:Pos}(hm:X.mg "zip" = none) (ha:PA X [a,b] ta) (hg:Gl X "zip" := by rfl) (hs:starEach [a,b] X.env=[(false,eval a X.env),(false,eval b X.env)]:=by rfl) (hs2:starEach [b] X.env=[(false,eval b X.env)]:=by rfl) :
  PI X (.Tuple elts k tpos) (.Call (.Name "zip" p) [a,b] [] pos) (QX X.K ta):=by
 intro pins s σ H R I h
 refine Call_ (tZ I hg hm (show bootBuiltins "zip" = some (.type "zip") by decide +kernel) (PyProof.Rows.callWith_type1 (bD (ha pos pins s σ H _ I h) λus s1 ⟨vs,H1,I1,r1,q1⟩=>?_) (by rw[hs,hs2]) (by rw[hs2]; rfl)))
 obtain⟨l1,l2,e,⟨xs,h1⟩,⟨ys,h2⟩,q⟩:=q1
 subst e
 cases r1 with
 |cons r rr =>
  cases rr with
  |cons r' rr =>
   cases rr
   cases r
   cases r'
   obtain⟨uz,Cg,p1,_⟩:=I1.list h1
   obtain⟨its2,jq,p2,_⟩:=I1.list h2
   obtain⟨o1,e1,_⟩:=p1.isList
   obtain⟨o2,e2,_⟩:=p2.isList
   refine call_zip_2 p1.isList p2.isList λh' hz hTI hTO hi1 hi2 hsz hk=>?_
   refine wpAny_pyIter_zip hz ?_
   refine⟨_,[_,_,_,_,_],_,_,H1,rfl,I1.kept (t':=s1.toks) hk,aaM l1 l2 _ _ _ _ _ (PySem.W.ktu_apart _ _ _ (Heap.lt_size e1) (Heap.lt_size e2)),⟨hz,hTI,⟨_,_,hTO⟩,hi1,hi2⟩,λc hc=>?_,q⟩
   have hc':c=s1.heap.objs.size+4\/c=s1.heap.objs.size+2\/c=s1.heap.objs.size+3\/c=s1.heap.objs.size\/c=s1.heap.objs.size+1:=by simpa using hc
   have hge:s1.heap.objs.size<=c:=by rcases hc' with rfl|rfl|rfl|rfl|rfl <;> omega
   exact I1.oF hge (I1.hok.fresh hge)
end
end L2
end
section
namespace L2
open PySem
def Ih(r:Rat):Tr:=.tup [.int r.num,.int (r.den:Int)]
theorem den_pos(r:Rat):1<=(r.den:Int):=by have:=r.den_pos; omega
open PySem.Spec PyProof.Rows
section
variable {X:Cx}{e:Expr}{te:TE}{th:TO}{pos p2:Pos}
def Q0(K:FZ)(te:TE)(th:TO):TE:=λσ H Q=>te σ H λx H1=>th σ H1 λo H2=>o=some (-1)/\∃a xs,x=.ref a/\bZ K H2 a xs/\∀p,H2 p=none->Q (.ref p) (upd H2 p (.lst xs.reverse))
theorem Q5:∀{xs:List V} {us:List Value},Vals xs us->Vals xs.reverse us.reverse
 |_,_,.nil=>.nil
 |_,_,.cons r t=>by
  rw[List.reverse_cons,List.reverse_cons]
  exact(Q5 t).append (.cons r .nil)
theorem Ii{st:Option Expr}{ops:Value->Value->List Value}(he:PE X e te)(hs:PO X st th)(hb:∀v u,subscripted (.Slice none none st p2) false v u=operate (ops v u) (getItem v u):=by intro _ _; rfl):PE X (.Subscript e (.Slice none none st p2) pos) (Q0 X.K te th):=by
 refine⟨λpins s σ H Q I h=>?_⟩
 refine Subscript_ (bD (he pins s σ H _ I h) λv s1 ⟨x,H1,I1,r1,q1⟩=>?_)
 refine wpAny_Slice ?_
 rw[evalPart_none]
 refine wpAny_pure ?_
 refine wpAny_pure ?_
 refine bD (hs pins s1 σ H1 _ I1 q1) λvk s3 ⟨o,H3,I3,pk,q3⟩=>?_
 obtain⟨rfl,a,xs,rfl,hx,q⟩:=q3
 cases r1
 have I4:Inv X pins σ H3 {s3 with heap:=s3.heap.push {cls:=.type "slice",data:=.fields #[.none,.none,vk] } }:=I3.kept (t':=s3.toks) λb ob q=>Heap.get?_push_of_some _ q
 obtain⟨its,r,ht,hz⟩:=I4.list hx
 have hlen:=r.length
 show wpAny (model X.prog X.w) X.A (subscriptTail e (.Slice none none st p2) (.ref a) (.ref s3.heap.objs.size)) (EP X pins σ Q) X.xe {s3 with heap:=s3.heap.push {cls:=.type "slice",data:=.fields #[.none,.none,vk] } }
 refine tail_any (T := "list") ht.isList.typeIs PySem.F.slot_list_getitem.lookup ?_ (hb _ _)
 refine wpAny_getItem_list_slice ht.isList (Heap.IsSliceOf.new ..) .none .none pk (by simp) ?_ (by rw[List.size_toArray] <;> omega)
 rw[PySem.W.krv_pick]
 refine⟨.ref _,_,I4.laid (t':=s3.toks) (o:=.lst xs.reverse) (λb ob q=>Heap.get?_push_of_some _ q) (Nat.le_refl _) ?_,rfl,q _ (I4.hok.fresh (Nat.le_refl _))⟩
 exact⟨by rw[List.length_reverse]; exact hz,_,0,Q5 r,Heap.get?_push_size _ rfl⟩
end
section
variable {X:Cx}
def Ij(K:FZ):R2:=λx y H Q=>∃t ts p xs,Rep K H x t/\y=.ref p/\(bZ K H p xs\/cV K H p xs)/\aF K H xs ts/\deps ts<=40/\dep t<=40/\Q (.bl (!pZ t ts)) H
open Classical in
theorem aaO(hu:X.A.units+64<cLine):cN X (compareOp .NotIn) (Ij X.K):=by
 intro pins s σ H x y v u Q I rx ry h
 obtain⟨t,ts,p,xs,q1,rfl,hq,qs,hd,hd2,q⟩:=h
 cases ry
 have hu1:X.A.in1.units+40<cLine:=by
  have:=in1_units X.A
  omega
 -- what == tells of an item,by the item itself
 let e:Value->Bool:=λw'=>if h:∃z tz,z∈xs/\RelV z w'/\Rep X.K H z tz/\tz∈ts then eqT (Classical.choose (Classical.choose_spec h)) t else false
 have ee:∀z w' tz,z∈xs->RelV z w'->Rep X.K H z tz->tz∈ts->e w'=eqT tz t:=λz w' tz h1 h2 h3 h4=>by
  have hx:∃z tz,z∈xs/\RelV z w'/\Rep X.K H z tz/\tz∈ts:=⟨z,tz,h1,h2,h3,h4⟩
  show(if h:_ then _ else _)=_
  rw[dif_pos hx]
  have sp:=Classical.choose_spec (Classical.choose_spec hx)
  have key:∀z z' t1 t2,RelV z w'->RelV z' w'->dep t1<=99->Rep X.K H z t1->Rep X.K H z' t2->t1=t2:=λz z' t1 t2 a1 a2 d9 a3 a4=>by
   obtain rfl:=RelV.inj a1 a2
   exact Rep.inj I d9 a3 a4
  rw[key _ _ _ _ sp.2.1 h2 (by have:=wG sp.2.2.2; omega) sp.2.2.1 h3]
 have mem:∀{its:List Value},Vals xs its->∀w'∈its,SeqAt.EqAt X.A.in1 s w' v (e w'):=by
  intro its r w' hw
  obtain⟨j,hj,ej⟩:=List.mem_iff_getElem.mp hw
  have hjx:j<xs.length:=by rw[r.length]; exact hj
  obtain⟨u',h1,h2⟩:=r.get (List.getElem?_eq_getElem hjx)
  rw[List.getElem?_eq_getElem hj,ej]at h1
  cases h1
  obtain⟨tz,h3,h4⟩:=qs.get (List.getElem?_eq_getElem hjx)
  have hm:=List.mem_of_getElem? h3
  rw[ee _ _ tz (List.getElem_mem hjx) h2 h4 hm]
  exact(BW I 40 X.A.in1 tz t _ x _ v hu1 (Nat.le_trans (wG hm) hd) (by have:=wG hm; omega) (by omega) h4 q1 h2 rx).2
 rcases hq with hq|hq
 ·obtain⟨its,r,pl,hz⟩:=I.list hq
  refine SeqAt.notIn_listAt e pl.isList (λw hw=>mem r w (by simpa using hw)) ⟨.bl _,H,I,rfl,?_⟩
  rw[show its.toArray.any e=its.any e by simp,BX (λz=>eqT z t) e r qs λz w' tz h1 h2 h3 h4=>ee z w' tz h1 h2 h3 h4]
  exact q
 ·obtain⟨its,r,pl,hz⟩:=I.tuple hq
  refine SeqAt.notIn_tupleAt e pl (λw hw=>mem r w (by simpa using hw)) ⟨.bl _,H,I,rfl,?_⟩
  rw[show its.toArray.any e=its.any e by simp,BX (λz=>eqT z t) e r qs λz w' tz h1 h2 h3 h4=>ee z w' tz h1 h2 h3 h4]
  exact q
end
inductive Rs(α : Type) where
 |bad|ex (c:Str)|ok (a : α)
def Rs.bind{α β : Type}:Rs α -> (α -> Rs β)->Rs β
 |.bad,_=>.bad
 |.ex c,_=>.ex c
 |.ok a,f=>f a
instance:Monad Rs where
 pure:=.ok
 bind:=Rs.bind
def Rs.post{α : Type}(r:Rs α)(EX:Str->Prop)(P : α -> Prop):Prop:=match r with
 |.bad=>False
 |.ex c=>EX c
 |.ok a=>P a
theorem Rs.aR{α β : Type}{r:Rs α}{f : α -> Rs β}{EX:Str->Prop}{P : β -> Prop}(h:(r.bind f).post EX P):r.post EX λa=>(f a).post EX P:=by
 cases r <;> exact h
theorem Rs.aY{α : Type}{r:Rs α}{EX:Str->Prop}{P P' : α -> Prop}(h:r.post EX P)(i:∀a,P a->P' a):r.post EX P':=by
 cases r with
 |bad=>exact h
 |ex c=>exact h
 |ok a=>exact i a h
open Classical in
def aN(W:Addr->Prop)(H:Hp):Hp:=λb=>if W b then none else H b
theorem Ci{W:Addr->Prop}{H:Hp}{b:Addr}(h:W b):aN W H b=none:=if_pos h
theorem gj{W:Addr->Prop}{H:Hp}{b:Addr}(h:¬W b):aN W H b=H b:=if_neg h
theorem jW{W:Addr->Prop}{H:Hp}{b:Addr}{o:HO}(h:aN W H b=some o):¬W b/\H b=some o:=by
 by_cases w:W b
 ·rw[Ci w]at h; cases h
 ·rw[gj w]at h; exact⟨w,h⟩
theorem iw(W:Addr->Prop)(H:Hp):Same (aN W H) H:=λ_ _ h=>(jW h).2
theorem wL{W W':Addr->Prop}{H H':Hp}(hw:∀b o,H b=some o->W' b->W b)(s:∀b o,¬W b->H b=some o->H' b=some o):Same (aN W H) (aN W' H'):=λb o h=>by
 obtain⟨n,e⟩:=jW h
 rw[gj λw=>n (hw b o e w)]
 exact s b o n e
theorem oR{W:Addr->Prop}{H:Hp}{a:Addr}{o:HO}(h:W a):aN W (upd H a o)=aN W H:=by
 funext b
 by_cases w:W b
 ·rw[Ci w,Ci w]
 ·rw[gj w,gj w]
  exact bJ λe=>w (e▸h)
inductive Sl where
 |un|sh (t:Tr)|ow (ts:List Tr)|rf (ts:List Tr)|dp (ts:List Tr)
abbrev En:=List Sl
inductive Rv where
 |v (T:Tr) (fr:Bool)|s (i:Nat)
abbrev EF:=En->Rs (Rv × En)
structure Tx where
 K:FZ
 Z:Addr->Prop
 R:Addr->Prop
 H0:Hp
 B:Hp
 EX:Str->Prop
def Mu(ρ : En)(i:Nat):Prop:=∃ts,ρ[i]?=some (Sl.ow ts)\/ρ[i]?=some (Sl.rf ts)
def aaP:Tr->Bool
 |.lst _=>true
 |_=>false
inductive DR(K:FZ)(G H:Hp):List V->List Tr->List Addr->Prop
 |nil:DR K G H [] [] []
 |cl {x:V} {u:Tr} {xs:List V} {ts:List Tr} {bs:List Addr} (n:aaP u=false) (h:Rep K G x u) (r:DR K G H xs ts bs):DR K G H (x::xs) (u::ts) bs
 |rw {b:Addr} {ys:List V} {us:List Tr} {xs:List V} {ts:List Tr} {bs:List Addr} (h:H b=some (.lst ys)) (q:aF K G ys us) (r:DR K G H xs ts bs):DR K G H (.ref b::xs) (.lst us::ts) (b::bs)
def rO(t:Tx)(W:Addr->Prop)(H:Hp)(a:Addr)(xs:List V)(ts:List Tr)(fp:List Addr):Prop :=
 ∃bs,fp=a::bs/\fp.Nodup/\(∀b∈fp,W b/\t.H0 b=none)/\H a=some (.lst xs)/\DR t.K (aN W H) H xs ts bs
theorem DR.move{K:FZ}{G G' H H':Hp}(m:Same G G'):∀{xs:List V} {ts:List Tr} {bs:List Addr},DR K G H xs ts bs->(∀b o,b∈bs->H b=some o->H' b=some o)->DR K G' H' xs ts bs
 |_,_,_,.nil,_=>.nil
 |_,_,_,.cl n h r,k=>.cl n (h.mono m) (DR.move m r k)
 |_,_,_,.rw h q r,k=>.rw (k _ _ (List.mem_cons_self ..) h) (q.mono m) (DR.move m r λb o hb=>k b o (List.mem_cons_of_mem _ hb))
theorem rO.move{t t':Tx}{W W':Addr->Prop}{H H':Hp}{a:Addr}{xs:List V}{ts:List Tr}{fp:List Addr}(d:rO t W H a xs ts fp)(hK:t'.K=t.K)(h0:t'.H0=t.H0)(m:Same (aN W H) (aN W' H'))(w:∀b∈fp,W' b)(k:∀b o,b∈fp->H b=some o->H' b=some o):rO t' W' H' a xs ts fp:=by
 obtain⟨bs,e,nd,ww,ha,r⟩:=d
 refine⟨bs,e,nd,λb hb=>⟨w b hb,by rw[h0]; exact(ww b hb).2⟩,k a _ (by rw[e]; exact List.mem_cons_self ..) ha,?_⟩
 rw[hK]
 exact r.move m λb o hb=>k b o (by rw[e]; exact List.mem_cons_of_mem _ hb)
def Lt(H:Hp)(b:Addr):Prop:=(∃xs,H b=some (.lst xs))\/(∃ps,H b=some (.cY ps))\/∃φ,H b=some (.ext φ)/\∀C,HO.ext φ≠iI b C
theorem Lt.ne{H:Hp}{b:Addr}(h:Lt H b):H b≠none:=by
 rcases h with⟨_,h⟩|⟨_,h⟩|⟨_,h,_⟩ <;> (rw[h]; intro z; cases z)
theorem Lt.grow{H H':Hp}{b:Addr}(h:Lt H b)(s:∀b o,H b=some o->H' b=some o):Lt H' b:=by
 rcases h with⟨_,h⟩|⟨_,h⟩|⟨_,h,q⟩
 ·exact .inl ⟨_,s _ _ h⟩
 ·exact .inr (.inl ⟨_,s _ _ h⟩)
 ·exact .inr (.inr ⟨_,s _ _ h,q⟩)
def iJ:List Str:=["falling_places", "order_of_bounds"]
def Tb(K:FZ)(b:Addr):Prop:=∃x∈iJ,∃c,PySem.W.tabIn K x=some (c,b)
def Q6(o:Obj)(q:Str):Prop:=∃vs t,o.data=.fields vs/\vs[1]?=some (.str q t)
def Cj(x:Str):Str:=x++(".<locals>." : Str)++("<lambda>" : Str)
def Ck(H:Hp)(q:Str)(ps:Array Value):Prop:=TriplesOk ps.toList/\∀pos v,codeAmong pos ps.toList=some v->∃c o,v=.ref c/\H c=some (.fJ o (.own 0))/\Q6 o q
def fG(K:FZ)(H:Hp):Prop:=∀x∈iJ,∀c b,PySem.W.tabIn K x=some (c,b)->∃ps,H b=some (.cY ps)/\Ck H (Cj x) ps
theorem fG.cY{K:FZ}{H:Hp}(h:fG K H){b:Addr}(t:Tb K b):∃ps,H b=some (.cY ps):=by
 obtain⟨x,hx,c,e⟩:=t
 obtain⟨ps,q,_⟩:=h x hx c b e
 exact⟨ps,q⟩
theorem fG.ne{K:FZ}{H:Hp}(h:fG K H){a b:Addr}{xs:List V}(t:Tb K b)(e:H a=some (.lst xs)):b≠a:=λz=>by
 obtain⟨ps,q⟩:=h.cY t
 rw[z,e]at q
 cases q
theorem fG.fr{K:FZ}{H H':Hp}(h:fG K H)(s:∀b o,(∀xs,o ≠ .lst xs)->H b=some o->H' b=some o):fG K H':=λx hx c b e=>by
 obtain⟨ps,q,t1,t2⟩:=h x hx c b e
 refine⟨ps,s _ _ (λ_ z=>by cases z) q,t1,λpos v k=>?_⟩
 obtain⟨c,o,e1,e2,e3⟩:=t2 pos v k
 exact⟨c,o,e1,s _ _ (λ_ z=>by cases z) e2,e3⟩
theorem fG.same{K:FZ}{H H':Hp}(h:fG K H)(s:Same H H'):fG K H':=h.fr λb o _=>s b o
theorem fG.upd{K:FZ}{H:Hp}(h:fG K H){a:Addr}{xs:List V}{o:HO}(e:H a=some (.lst xs)):fG K (L2.upd H a o):=h.fr λb u n q=>by
 rw[bJ]
 ·exact q
 ·rintro rfl
  rw[e]at q
  cases q
  exact n _ rfl
structure ni(t:Tx)(W:Addr->Prop)(H:Hp):Prop where
 ok:fG t.K H
 w:∀b,Tb t.K b->W b
 r:∀b,Tb t.K b->t.R b
 B:∀b,Tb t.K b->t.B b=none
theorem ni.same{t:Tx}{W:Addr->Prop}{H H':Hp}(f:ni t W H)(s:Same H H'):ni t W H':=⟨f.ok.same s,f.w,f.r,f.B⟩
theorem ni.Ik{t:Tx}{W W':Addr->Prop}{H:Hp}(f:ni t W H)(h:∀b,W b->W' b):ni t W' H:=⟨f.ok,λb z=>h b (f.w b z),f.r,f.B⟩
theorem ni.cut{t:Tx}{W:Addr->Prop}{H:Hp}(f:ni t W H){D:Addr->Prop}(h:∀b,D b->∃xs,H b=some (.lst xs)):ni t (λb=>W b/\¬D b) H:=⟨f.ok,λb z=>⟨f.w b z,λd=>by
 obtain⟨xs,e⟩:=h b d
 exact f.ok.ne z e rfl⟩,f.r,f.B⟩
structure EOF(t:Tx)(W:Addr->Prop)(ρ : En)(σ : St)(H:Hp)(F:Nat->List Addr):Prop where
 len : ρ.length = σ.length
 zw:∀b,t.Z b->W b
 z0:∀b,t.Z b->t.H0 b≠none
 wl:∀b,W b->Lt H b
 f0:∀b o,t.H0 b=some o->¬t.R b->H b=some o
 n0:∀b,H b=none->t.H0 b=none
 sh:∀(i:Nat) (u:Tr),ρ[i]?=some (.sh u)->∃v,σ[i]?=some (some v)/\Rep t.K (aN W H) v u
 ow:∀(i:Nat) (ts:List Tr),ρ[i]?=some (Sl.ow ts)->∃a xs,σ[i]?=some (some (V.ref a))/\W a/\t.H0 a=none/\H a=some (.lst xs)/\aF t.K (aN W H) xs ts
 rf:∀(i:Nat) (ts:List Tr),ρ[i]?=some (Sl.rf ts)->∃a xs,σ[i]?=some (some (V.ref a))/\W a/\t.R a/\H a=some (.lst xs)/\aF t.K (aN W H) xs ts
 dis:∀(i j:Nat) (a:Addr),Mu ρ i->Mu ρ j -> σ[i]?=some (some (V.ref a)) -> σ[j]?=some (some (V.ref a))->i=j
 pn:∀b o,t.B b=some o->H b=some o
 pd:∀(i:Nat) (a:Addr),Mu ρ i -> σ[i]?=some (some (V.ref a))->t.B a=none
 dp:∀(i:Nat) (ts:List Tr),ρ[i]?=some (Sl.dp ts)->∃a xs,σ[i]?=some (some (V.ref a))/\rO t W H a xs ts (F i)
 dd:∀(i j:Nat) (ts us:List Tr),i≠j -> ρ[i]?=some (Sl.dp ts) -> ρ[j]?=some (Sl.dp us)->∀b∈F i,b∉F j
 dm:∀(i j:Nat) (ts:List Tr) (c:Addr),ρ[i]?=some (Sl.dp ts)->Mu ρ j -> σ[j]?=some (some (V.ref c))->c∉F i
 db:∀(i:Nat) (ts:List Tr),ρ[i]?=some (Sl.dp ts)->∀b∈F i,t.B b=none
 tab:ni t W H
def aH(t:Tx)(W:Addr->Prop)(ρ : En)(σ : St)(H:Hp):Prop:=∃F,EOF t W ρ σ H F
def rP(t:Tx)(W:Addr->Prop)(a:Addr)(ρ : En)(σ : St)(H:Hp):Prop:=∃F,EOF t (λb=>W b\/b=a) ρ σ H F/\∀(i:Nat) (ts:List Tr),ρ[i]?=some (Sl.dp ts)->a∉F i
theorem rP.ok{t:Tx}{W:Addr->Prop}{a:Addr}{ρ : En}{σ : St}{H:Hp}(e:rP t W a ρ σ H):aH t (λb=>W b\/b=a) ρ σ H:=e.elim λF e=>⟨F,e.1⟩
section
variable {t:Tx}{W:Addr->Prop}{ρ : En}{σ : St}{H:Hp}
theorem aH.len(e:aH t W ρ σ H) : ρ.length = σ.length:=e.elim λ_ e=>e.len
theorem aH.zw(e:aH t W ρ σ H):∀b,t.Z b->W b:=e.elim λ_ e=>e.zw
theorem aH.z0(e:aH t W ρ σ H):∀b,t.Z b->t.H0 b≠none:=e.elim λ_ e=>e.z0
theorem aH.wl(e:aH t W ρ σ H):∀b,W b->Lt H b:=e.elim λ_ e=>e.wl
theorem aH.tab(e:aH t W ρ σ H):ni t W H:=e.elim λ_ e=>e.tab
theorem aH.f0(e:aH t W ρ σ H):∀b o,t.H0 b=some o->¬t.R b->H b=some o:=e.elim λ_ e=>e.f0
theorem aH.n0(e:aH t W ρ σ H):∀b,H b=none->t.H0 b=none:=e.elim λ_ e=>e.n0
theorem aH.sh(e:aH t W ρ σ H):∀(i:Nat) (u:Tr),ρ[i]?=some (.sh u)->∃v,σ[i]?=some (some v)/\Rep t.K (aN W H) v u:=e.elim λ_ e=>e.sh
theorem aH.ow(e:aH t W ρ σ H):∀(i:Nat) (ts:List Tr),ρ[i]?=some (Sl.ow ts)->∃a xs,σ[i]?=some (some (V.ref a))/\W a/\t.H0 a=none/\H a=some (.lst xs)/\aF t.K (aN W H) xs ts:=e.elim λ_ e=>e.ow
theorem aH.rf(e:aH t W ρ σ H):∀(i:Nat) (ts:List Tr),ρ[i]?=some (Sl.rf ts)->∃a xs,σ[i]?=some (some (V.ref a))/\W a/\t.R a/\H a=some (.lst xs)/\aF t.K (aN W H) xs ts:=e.elim λ_ e=>e.rf
theorem aH.dis(e:aH t W ρ σ H):∀(i j:Nat) (a:Addr),Mu ρ i->Mu ρ j -> σ[i]?=some (some (V.ref a)) -> σ[j]?=some (some (V.ref a))->i=j:=e.elim λ_ e=>e.dis
theorem aH.pn(e:aH t W ρ σ H):∀b o,t.B b=some o->H b=some o:=e.elim λ_ e=>e.pn
theorem aH.pd(e:aH t W ρ σ H):∀(i:Nat) (a:Addr),Mu ρ i -> σ[i]?=some (some (V.ref a))->t.B a=none:=e.elim λ_ e=>e.pd
end
structure bL(W:Addr->Prop)(H H':Hp):Prop where
 keep:∀b o,¬W b->H b=some o->H' b=some o
 dom:∀b,H' b=none->H b=none
theorem bL.refl(W:Addr->Prop)(H:Hp):bL W H H:=⟨λ_ _ _ h=>h,λ_ h=>h⟩
theorem bL.trans{W:Addr->Prop}{H H1 H2:Hp}(a:bL W H H1)(b:bL W H1 H2):bL W H H2:=⟨λc o n h=>b.keep c o n (a.keep c o n h),λc h=>a.dom c (b.dom c h)⟩
theorem bL.of{W:Addr->Prop}{H H':Hp}(s:Same H H'):bL W H H':=⟨λb o _ h=>s b o h,λ_ h=>s.free h⟩
theorem bL.off{W:Addr->Prop}{H H':Hp}(s:bL W H H'):Same (aN W H) (aN W H'):=wL (λ_ _ _ h=>h) s.keep
theorem aH.grow{t:Tx}{W:Addr->Prop}{ρ : En}{σ : St}{H H':Hp}(e:aH t W ρ σ H)(s:Same H H'):aH t W ρ σ H':=by
 have m:Same (aN W H) (aN W H'):=(bL.of s).off
 obtain⟨F,e⟩:=e
 refine⟨F,e.len,e.zw,e.z0,λb w=>?_,λb o h n=>s b o (e.f0 b o h n),λb h=>e.n0 b (s.free h),λi u h=>?_,λi ts h=>?_,λi ts h=>?_,e.dis,λb o h=>s b o (e.pn b o h),e.pd,λi ts h=>?_,e.dd,e.dm,e.db,e.tab.same s⟩
 ·exact(e.wl b w).grow s
 ·obtain⟨v,h1,h2⟩:=e.sh i u h
  exact⟨v,h1,h2.mono m⟩
 ·obtain⟨a,xs,h1,h2,h3,h4,h5⟩:=e.ow i ts h
  exact⟨a,xs,h1,h2,h3,s _ _ h4,h5.mono m⟩
 ·obtain⟨a,xs,h1,h2,h3,h4,h5⟩:=e.rf i ts h
  exact⟨a,xs,h1,h2,h3,s _ _ h4,h5.mono m⟩
 ·obtain⟨a,xs,h1,d⟩:=e.dp i ts h
  exact⟨a,xs,h1,d.move rfl rfl m (λb hb=>by obtain⟨_,_,_,ww,_⟩:=d; exact(ww b hb).1) λb o _ q=>s b o q⟩
def dJ(K:FZ)(W:Addr->Prop)(σ : St)(H H':Hp)(v:V):Rv->Prop
 |.v T false=>Rep K (aN W H') v T
 |.v T true=>∃a xs ts,v=.ref a/\T=.lst ts/\H a=none/\H' a=some (.lst xs)/\aF K (off a (aN W H')) xs ts
 |.s i=>σ[i]?=some (some v)
theorem Il(a:Addr)(H:Hp):Same (off a H) H:=λ_ _ h=>(wH h).2
theorem dJ.step{K:FZ}{W:Addr->Prop}{σ : St}{H H' dg:Hp}{v:V}{r:Rv}(hw:∀b,W b->H b≠none)(h:dJ K W σ H H' v r)(s:bL W H' dg):dJ K W σ H dg v r:=by
 cases r with
 |s i=>exact h
 |v T fr =>
  cases fr with
  |false=>exact Rep.mono s.off h
  |true =>
   obtain⟨a,xs,ts,rfl,rfl,e1,e2,r⟩:=h
   refine⟨a,xs,ts,rfl,rfl,e1,s.keep a _ (λw=>hw a w e1) e2,r.mono λb o q=>?_⟩
   obtain⟨n,q⟩:=wH q
   rw[off_ne n]
   exact s.off b o q
theorem dJ.back{K:FZ}{W:Addr->Prop}{σ : St}{G H H':Hp}{v:V}{r:Rv}(h:dJ K W σ H H' v r)(d:∀b,H b=none->G b=none):dJ K W σ G H' v r:=by
 cases r with
 |s i=>exact h
 |v T fr =>
  cases fr with
  |false=>exact h
  |true =>
   obtain⟨a,xs,ts,e0,e1,e2,r⟩:=h
   exact⟨a,xs,ts,e0,e1,d _ e2,r⟩
theorem dJ.rep{K:FZ}{W:Addr->Prop}{σ : St}{H H':Hp}{v:V}{T:Tr}{fr:Bool}(hw:∀b,W b->H b≠none)(h:dJ K W σ H H' v (.v T fr)):Rep K (aN W H') v T:=by
 cases fr with
 |false=>exact h
 |true =>
  obtain⟨a,xs,ts,rfl,rfl,e1,e2,r⟩:=h
  refine .lst (bZ.of ?_) (r.mono (Il _ _))
  rw[gj λw=>hw a w e1]
  exact e2
def Rp(K:FZ)(W:Addr->Prop)(H:Hp)(v:V)(T:Tr):Prop :=
 Rep K (aN W H) v T\/∃a xs ts,v=.ref a/\T=.lst ts/\H a=some (.lst xs)/\aF K (aN W H) xs ts
theorem Rp.rep{K:FZ}{W:Addr->Prop}{H:Hp}{v:V}{T:Tr}(h:Rp K W H v T):Rep K H v T:=by
 rcases h with h|⟨a,xs,ts,rfl,rfl,e,r⟩
 ·exact h.mono (iw _ _)
 ·exact .lst (bZ.of e) (r.mono (iw _ _))
theorem Rp.lst{K:FZ}{W:Addr->Prop}{H:Hp}{v:V}{ts:List Tr}(h:Rp K W H v (.lst ts)):∃a xs,v=.ref a/\bZ K H a xs/\aF K (aN W H) xs ts:=by
 rcases h with h|⟨a,xs,us,rfl,e0,e,r⟩
 ·cases h with
  |lst h r=>exact⟨_,_,rfl,(iw _ _).seq h,r⟩
 ·cases e0
  exact⟨a,xs,rfl,bZ.of e,r⟩
theorem Rp.tup{K:FZ}{W:Addr->Prop}{H:Hp}{v:V}{ts:List Tr}(h:Rp K W H v (.tup ts)):∃a xs,v=.ref a/\cV K H a xs/\aF K (aN W H) xs ts:=by
 rcases h with h|⟨a,xs,us,rfl,e0,e,r⟩
 ·cases h with
  |tup h r=>exact⟨_,_,rfl,(iw _ _).uy h,r⟩
 ·cases e0
theorem Rp.int{K:FZ}{W:Addr->Prop}{H:Hp}{v:V}{i:Int}(h:Rp K W H v (.int i)):v=.int i:=by
 cases h.rep; rfl
theorem Rp.bl{K:FZ}{W:Addr->Prop}{H:Hp}{v:V}{i:Bool}(h:Rp K W H v (.bl i)):v=.bl i:=by
 cases h.rep; rfl
theorem Rp.str{K:FZ}{W:Addr->Prop}{H:Hp}{v:V}{i:Str}(h:Rp K W H v (.str i)):v=.str i:=by
 cases h.rep; rfl
theorem Rp.non{K:FZ}{W:Addr->Prop}{H:Hp}{v:V}(h:Rp K W H v .non):v=.non:=by
 cases h.rep; rfl
def dr(ρ : En):Rv->Rs Tr
 |.v T _=>.ok T
 |.s i=>match ρ[i]? with
  |some (Sl.ow ts)=>.ok (.lst ts)
  |some (Sl.rf ts)=>.ok (.lst ts)
  |_=>.bad
theorem jX{t:Tx}{W:Addr->Prop}{ρ : En}{σ : St}{H H':Hp}{v:V}{r:Rv}{T:Tr}(e:aH t W ρ σ H')(hw:∀b,W b->H b≠none)(h:dJ t.K W σ H H' v r)(q:dr ρ r=.ok T):Rp t.K W H' v T:=by
 cases r with
 |v U fr =>
  cases q
  exact .inl (h.rep hw)
 |s i =>
  have h : σ[i]?=some (some v):=h
  dsimp only[dr]at q
  split at q
  ·rename_i ts e1
   cases q
   obtain⟨a,xs,h1,h2,h3,h4,h5⟩:=e.ow i ts e1
   rw[h]at h1
   cases h1
   exact .inr ⟨a,xs,ts,rfl,rfl,h4,h5⟩
  ·rename_i ts e1
   cases q
   obtain⟨a,xs,h1,h2,h3,h4,h5⟩:=e.rf i ts e1
   rw[h]at h1
   cases h1
   exact .inr ⟨a,xs,ts,rfl,rfl,h4,h5⟩
  ·cases q
theorem aH.wn{t:Tx}{W:Addr->Prop}{ρ : En}{σ : St}{H:Hp}(e:aH t W ρ σ H):∀b,W b->H b≠none:=λb w=>by
 exact(e.wl b w).ne
theorem aH.hide{t:Tx}{W:Addr->Prop}{ρ : En}{σ : St}{H H':Hp}{a:Addr}{xs:List V}(e:aH t W ρ σ H)(s:Same H H')(n:H a=none)(q:H' a=some (.lst xs)):rP t W a ρ σ H':=by
 have m:Same (aN W H) (aN (λb=>W b\/b=a) H'):=λb o h=>by
  obtain⟨w,h⟩:=jW h
  rw[gj]
  ·exact s b o h
  ·rintro(z|rfl)
   ·exact w z
   ·rw[n]at h; cases h
 have na:∀b,W b->b≠a:=λb w z=>by subst z; exact e.wn b w n
 obtain⟨F,e⟩:=e
 refine⟨F,⟨e.len,λb z=>.inl (e.zw b z),e.z0,λb w=>?_,λb o h nr=>s b o (e.f0 b o h nr),λb h=>e.n0 b (s.free h),λi u h=>?_,λi ts h=>?_,λi ts h=>?_,e.dis,λb o h=>s b o (e.pn b o h),e.pd,λi ts h=>?_,e.dd,e.dm,e.db,(e.tab.same s).Ik λb w=>.inl w⟩,λi ts h z=>?_⟩
 ·rcases w with w|rfl
  ·exact(e.wl b w).grow s
  ·exact .inl ⟨xs,q⟩
 ·obtain⟨v,h1,h2⟩:=e.sh i u h
  exact⟨v,h1,h2.mono m⟩
 ·obtain⟨c,ys,h1,h2,h3,h4,h5⟩:=e.ow i ts h
  exact⟨c,ys,h1,.inl h2,h3,s _ _ h4,h5.mono m⟩
 ·obtain⟨c,ys,h1,h2,h3,h4,h5⟩:=e.rf i ts h
  exact⟨c,ys,h1,.inl h2,h3,s _ _ h4,h5.mono m⟩
 ·obtain⟨c,ys,h1,d⟩:=e.dp i ts h
  exact⟨c,ys,h1,d.move rfl rfl m (λb hb=>by obtain⟨_,_,_,ww,_⟩:=d; exact .inl (ww b hb).1) λb o _ q=>s b o q⟩
 ·obtain⟨c,ys,h1,bs,_,_,ww,_⟩:=e.dp i ts h
  exact na a (ww a z).1 rfl
def gJ(t:Tx)(W:Addr->Prop)(ρ : En)(σ : St)(H H':Hp)(v:V)(r:Rv):Prop:=dJ t.K W σ H H' v r/\∀T a,r=.v T true->v=.ref a->rP t W a ρ σ H'
theorem gJ.of{t:Tx}{W:Addr->Prop}{ρ : En}{σ σ':St}{H H':Hp}{v:V}{T:Tr}{fr:Bool}(e:aH t W ρ σ H)(s:Same H H')(h:dJ t.K W σ' H H' v (.v T fr)):gJ t W ρ σ H H' v (.v T fr):=by
 refine⟨by cases fr <;> exact h,λU a z ev=>?_⟩
 cases z
 obtain⟨b,xs,ts,rfl,_,n,q,_⟩:=h
 cases ev
 exact e.hide s n q
theorem gJ.low{t:Tx}{W:Addr->Prop}{ρ : En}{σ : St}{H H':Hp}{v:V}{T:Tr}(h:Rep t.K (aN W H') v T):gJ t W ρ σ H H' v (.v T false):=⟨h,λ_ _ z=>by cases z⟩
theorem gJ.back{t:Tx}{W:Addr->Prop}{ρ : En}{σ : St}{G H H':Hp}{v:V}{r:Rv}(h:gJ t W ρ σ H H' v r)(d:∀b,H b=none->G b=none):gJ t W ρ σ G H' v r:=⟨h.1.back d,h.2⟩
def SE(t:Tx)(te:TE)(f:EF):Prop:=∀W ρ σ H Q,aH t W ρ σ H->(f ρ).post t.EX (λp=>∀v H',aH t W p.2 σ H'->bL W H H'->gJ t W p.2 σ H H' v p.1->Q v H')->te σ H Q
abbrev BF:=En->Rs (Bool × En)
def ST(t:Tx)(te:TT)(f:BF):Prop:=∀W ρ σ H Q,aH t W ρ σ H->(f ρ).post t.EX (λp=>∀H',aH t W p.2 σ H'->bL W H H'->Q p.1 H')->te σ H Q
abbrev AF:=En->Rs (List Rv × En)
inductive iy(K:FZ)(W:Addr->Prop)(σ : St)(H H':Hp):List V->List Rv->Prop
 |nil:iy K W σ H H' [] []
 |cons {v:V} {r:Rv} {vs:List V} {rs:List Rv} (h:dJ K W σ H H' v r) (q:iy K W σ H H' vs rs):iy K W σ H H' (v::vs) (r::rs)
def SA(t:Tx)(te:TA)(f:AF):Prop:=∀W ρ σ H Q,aH t W ρ σ H->(f ρ).post t.EX (λp=>∀vs H',aH t W p.2 σ H'->bL W H H'->iy t.K W σ H H' vs p.1->Q vs H')->te σ H Q
section
variable {t:Tx}
def aj(i:Nat):EF:=λρ=>match ρ[i]? with
 |some (.sh T)=>.ok (.v T false,ρ)
 |some (.ow _)=>.ok (.s i,ρ)
 |some (.rf _)=>.ok (.s i,ρ)
 |_=>.bad
theorem aP(i:Nat):SE t (kj i) (aj i):=λW ρ σ H Q e h=>by
 unfold aj at h
 split at h
 ·rename_i T q
  obtain⟨v,h1,h2⟩:=e.sh i T q
  exact⟨v,h1,h v H e (bL.refl _ _) (.low h2)⟩
 ·rename_i ts q
  obtain⟨a,xs,h1,_⟩:=e.ow i ts q
  exact⟨_,h1,h _ H e (bL.refl _ _) ⟨h1,λ_ _ z=>by cases z⟩⟩
 ·rename_i ts q
  obtain⟨a,xs,h1,_⟩:=e.rf i ts q
  exact⟨_,h1,h _ H e (bL.refl _ _) ⟨h1,λ_ _ z=>by cases z⟩⟩
 ·exact h.elim
def eC(T:Tr):EF:=λρ=>.ok (.v T false,ρ)
theorem yN{v:V}{T:Tr}(h:∀H,Rep t.K H v T):SE t (tC v) (eC T):=λW ρ σ H Q e q=>q v H e (bL.refl _ _) (.low (h _))
theorem fZ(i:Int):SE t (tC (.int i)) (eC (.int i)):=yN λ_=>.int i
theorem p7(i:Bool):SE t (tC (.bl i)) (eC (.bl i)):=yN λ_=>.bl i
theorem p8(i:Str):SE t (tC (.str i)) (eC (.str i)):=yN λ_=>.str i
theorem Q7:SE t (tC .non) (eC .non):=yN λ_=>.non
abbrev G2:=Tr->Tr->Rs (Tr × Bool)
def f9(K:FZ)(r:R2)(g:G2):Prop:=∀W x y a b H Q,(∀b,W b->Lt H b)->Rp K W H x a->Rp K W H y b ->
 (g a b).post (λ_=>False) (λp=>∀v H',Same H H'->dJ K W [] H H' v (.v p.1 p.2)->Q v H')->r x y H Q
def aq(g:G2)(fa fb:EF):EF:=λρ=>(fa ρ).bind λp=>(fb p.2).bind λq=>(dr q.2 p.1).bind λa=>(dr q.2 q.1).bind λb=>(g a b).bind λz=>.ok (.v z.1 z.2,q.2)
theorem jB{α : Type}{r:Rs α}{EX:Str->Prop}{P : α -> Prop}(h:r.post EX P)(n:∀c,r ≠ .ex c):r.post (λ_=>False) P:=by
 cases r with
 |bad=>exact h
 |ex c=>exact(n c rfl).elim
 |ok a=>exact h
theorem jY(ρ : En)(r:Rv)(c:Str):dr ρ r ≠ .ex c:=by
 cases r with
 |v T fr=>intro z; cases z
 |s i =>
  dsimp only[dr]
  split <;> (intro z; cases z)
theorem jF{r:R2}{g:G2}{ta tb:TE}{fa fb:EF}(o:f9 t.K r g)(ng:∀a b c,g a b ≠ .ex c)(ha:SE t ta fa)(hb:SE t tb fb):SE t (gD r ta tb) (aq g fa fb):=λW ρ σ H Q e h=>by
 refine ha W ρ σ H _ e (Rs.aY (Rs.aR h) λp h x H1 e1 s1 v1=>?_)
 refine hb W p.2 σ H1 _ e1 (Rs.aY (Rs.aR h) λq h y H2 e2 s2 v2=>?_)
 have h:=Rs.aR h
 cases k1:dr q.2 p.1 with
 |bad=>rw[k1]at h; exact h.elim
 |ex c=>exact(jY _ _ _ k1).elim
 |ok a =>
  rw[k1]at h
  have h:((dr q.2 q.1).bind _).post _ _:=h
  have h:=Rs.aR h
  cases k2:dr q.2 q.1 with
  |bad=>rw[k2]at h; exact h.elim
  |ex c=>exact(jY _ _ _ k2).elim
  |ok b =>
   rw[k2]at h
   have h:((g a b).bind _).post _ _:=h
   have r1:=jX e2 e.wn (v1.1.step e.wn s2) k1
   have r2:=jX e2 e1.wn v2.1 k2
   refine o W x y a b H2 Q e2.wl r1 r2 (Rs.aY (jB (Rs.aR h) (ng a b)) λz h v H3 s3 v3=>?_)
   have st:bL W H H3:=(s1.trans s2).trans (bL.of s3)
   exact h v H3 (e2.grow s3) st ((gJ.of e2 s3 v3).back λb q=>(s1.trans s2).dom b q)
inductive uD:V->Tr->Prop
 |non:uD .non .non
 |bl (b:Bool):uD (.bl b) (.bl b)
 |int (b:Int):uD (.int b) (.int b)
 |str (b:Str):uD (.str b) (.str b)
theorem uD.rep{K:FZ}{H:Hp}{v:V}{T:Tr}(h:uD v T):Rep K H v T:=by
 cases h <;> constructor
end
section
variable {X:Cx}
def Im(K:FZ):R2:=λx y H Q=>∃t u,Rep K H x t/\Rep K H y u/\dep t<=40/\dep u<=40/\Q (.bl (!eqT t u)) H
theorem rQ(hu:X.A.units+64<cLine):cN X (compareOp .NotEq) (Im X.K):=by
 intro pins s σ H x y v u Q I vx vy h
 obtain⟨t,t',rx,ry,hd,du,q⟩:=h
 have hu0:X.A.units<cLine:=by omega
 have hu1:X.A.in1.units+40<cLine:=by
  have:=in1_units X.A
  omega
 have fin:SeqAt.RcNeAt X.A s v u (!eqT t t')->wpAny (model X.prog X.w) X.A (compareOp .NotEq v u) (EP X pins σ Q) X.xe s:=λh=>h _ _ _ _ ⟨.bl _,H,I,rfl,q⟩
 have items:∀{xs ys:List V} {ts us:List Tr} {its its2:List Value},Vals xs its->Vals ys its2->aF X.K H xs ts->aF X.K H ys us->deps ts<=40->deps us<=40->∀j (h1:j<its.toArray.size) (h2:j<its2.toArray.size),SeqAt.EqAt X.A.in1 s its.toArray[j] its2.toArray[j] (pY ts us j):=by
  intro xs ys ts us its its2 r1 r2 q1 q2 hde QD j h1 h2
  obtain⟨a,ea,ra⟩:=BR r1 h1
  obtain⟨b,eb,rb⟩:=BR r2 h2
  obtain⟨ta,eta,qa⟩:=q1.get ea
  obtain⟨tb,yI,qb⟩:=q2.get eb
  rw[QC eta yI]
  exact(BW I 40 X.A.in1 ta tb a b _ _ hu1 (Nat.le_trans (rM eta) hde) (by have:=rM eta; omega) (by have:=rM yI; omega) qa qb ra rb).2
 cases rx with
 |cO h m n=>unfold dep at hd; omega
 |non =>
  cases vx
  cases ry with
  |non=>cases vy; unfold eqT at fin; exact fin .none_none
  |bl b2=>cases vy; unfold eqT at fin; exact fin (.none_bool _)
  |int i2=>obtain⟨_,rfl⟩:=vy; unfold eqT at fin; exact fin (.none_int _ _)
  |str z2=>obtain⟨_,rfl⟩:=vy; unfold eqT at fin; exact fin (.none_str _ _)
  |tup h r=>cases vy; obtain⟨_,_,p,_⟩:=I.tuple h; unfold eqT at fin; exact fin (.none_tuple p hu0)
  |lst h r=>cases vy; obtain⟨_,_,p,_⟩:=I.list h; unfold eqT at fin; exact fin (.none_list p.isList hu0)
  |cO h m n=>unfold dep at du; omega
 |bl b =>
  cases vx
  cases ry with
  |non=>cases vy; unfold eqT at fin; exact fin (.bool_none _)
  |bl b2=>cases vy; unfold eqT at fin; exact fin (.bool_bool _ _)
  |int i2=>obtain⟨_,rfl⟩:=vy; unfold eqT at fin; exact fin (.bool_int _ _ _)
  |str z2=>obtain⟨_,rfl⟩:=vy; unfold eqT at fin; exact fin (.bool_str _ _ _)
  |tup h r=>cases vy; obtain⟨_,_,p,_⟩:=I.tuple h; unfold eqT at fin; exact fin (.bool_tuple _ p hu0)
  |lst h r=>cases vy; obtain⟨_,_,p,_⟩:=I.list h; unfold eqT at fin; exact fin (.bool_list _ p.isList hu0)
  |cO h m n=>unfold dep at du; omega
 |int i =>
  obtain⟨_,rfl⟩:=vx
  cases ry with
  |non=>cases vy; unfold eqT at fin; exact fin (.int_none _ _)
  |bl b2=>cases vy; unfold eqT at fin; exact fin (.int_bool _ _ _)
  |int i2=>obtain⟨_,rfl⟩:=vy; unfold eqT at fin; exact fin (.int_int _ _ _ _)
  |str z2=>obtain⟨_,rfl⟩:=vy; unfold eqT at fin; exact fin (.int_str _ _ _ _)
  |tup h r=>cases vy; obtain⟨_,_,p,_⟩:=I.tuple h; unfold eqT at fin; exact fin (.int_tuple _ _ p hu0)
  |lst h r=>cases vy; obtain⟨_,_,p,_⟩:=I.list h; unfold eqT at fin; exact fin (.int_list _ _ p.isList hu0)
  |cO h m n=>unfold dep at du; omega
 |str z =>
  obtain⟨_,rfl⟩:=vx
  cases ry with
  |non=>cases vy; unfold eqT at fin; exact fin (.str_none _ _)
  |bl b2=>cases vy; unfold eqT at fin; exact fin (.str_bool _ _ _)
  |int i2=>obtain⟨_,rfl⟩:=vy; unfold eqT at fin; exact fin (.str_int _ _ _ _)
  |str z2=>obtain⟨_,rfl⟩:=vy; unfold eqT at fin; exact fin (.str_str _ _ _ _)
  |tup h r=>cases vy; obtain⟨_,_,p,_⟩:=I.tuple h; unfold eqT at fin; exact fin (.str_tuple _ _ p hu0)
  |lst h r=>cases vy; obtain⟨_,_,p,_⟩:=I.list h; unfold eqT at fin; exact fin (.str_list _ _ p.isList hu0)
  |cO h m n=>unfold dep at du; omega
 | @tup a1 xs1 ts h1 r1 =>
  cases vx
  obtain⟨its,rv,p,_⟩:=I.tuple h1
  have hd':deps ts<=40:=by unfold dep at hd; omega
  cases ry with
  |non=>cases vy; unfold eqT at fin; exact fin (.tuple_none p hu0)
  |bl b2=>cases vy; unfold eqT at fin; exact fin (.tuple_bool _ p hu0)
  |int i2=>obtain⟨_,rfl⟩:=vy; unfold eqT at fin; exact fin (.tuple_int _ _ p hu0)
  |str z2=>obtain⟨_,rfl⟩:=vy; unfold eqT at fin; exact fin (.tuple_str _ _ p hu0)
  |lst h r=>cases vy; obtain⟨_,_,p2,_⟩:=I.list h; unfold eqT at fin; exact fin (.tuple_list p p2.isList hu0)
  |cO h m n=>unfold dep at du; omega
  | @tup a2 xs2 us h2 r2 =>
   cases vy
   obtain⟨its2,jq,p2,_⟩:=I.tuple h2
   have R:=SeqAt.RcNeAt.tuples (A:=X.A) (e:=pY ts us) p p2 (by omega) λj k1 k2=>items rv jq r1 r2 hd' (by unfold dep at du; omega) j k1 k2
   have el:its.toArray.size=ts.length:=by simpa using(rv.length.symm.trans r1.length)
   have el2:its2.toArray.size=us.length:=by simpa using(jq.length.symm.trans r2.length)
   rw[el,el2]at R
   have eb:((List.range (min ts.length us.length)).all (pY ts us)&&ts.length == us.length)=eqT (.tup ts) (.tup us):=by
    unfold eqT
    by_cases e:ts.length=us.length
    ·rw[e,Nat.min_self,<-e,yG e,beq_self_eq_true,Bool.and_true]
    ·rw[beq_false_of_ne e,Bool.and_false,yF e]
   rw[eb]at R
   exact fin R
 | @lst a1 xs1 ts h1 r1 =>
  cases vx
  obtain⟨its,rv,p,_⟩:=I.list h1
  have hd':deps ts<=40:=by unfold dep at hd; omega
  cases ry with
  |non=>cases vy; unfold eqT at fin; exact fin (.list_none p.isList hu0)
  |bl b2=>cases vy; unfold eqT at fin; exact fin (.list_bool _ p.isList hu0)
  |int i2=>obtain⟨_,rfl⟩:=vy; unfold eqT at fin; exact fin (.list_int _ _ p.isList hu0)
  |str z2=>obtain⟨_,rfl⟩:=vy; unfold eqT at fin; exact fin (.list_str _ _ p.isList hu0)
  |cO h m n=>unfold dep at du; omega
  |tup h r=>cases vy; obtain⟨_,_,p2,_⟩:=I.tuple h; unfold eqT at fin; exact fin (.list_tuple p.isList p2 hu0)
  | @lst a2 xs2 us h2 r2 =>
   cases vy
   obtain⟨its2,jq,p2,_⟩:=I.list h2
   have el:its.toArray.size=ts.length:=by simpa using(rv.length.symm.trans r1.length)
   have el2:its2.toArray.size=us.length:=by simpa using(jq.length.symm.trans r2.length)
   by_cases e:ts.length=us.length
   ·have R:=SeqAt.RcNeAt.lists (A:=X.A) (e:=pY ts us) p.isList p2.isList (by omega) (by omega) λj k1 k2=>items rv jq r1 r2 hd' (by unfold dep at du; omega) j k1 k2
    rw[el]at R
    rw[yG e]at R
    unfold eqT at fin
    exact fin R
   ·have R:=SeqAt.RcNeAt.lists_lengths (A:=X.A) p.isList p2.isList (by rw[el,el2]; simpa using e) (by omega)
    unfold eqT at fin
    rw[yF e]at fin
    exact fin R
end
open Classical in
def fB(o:Obj):Obj:=if o.cls=.type "list" ∧ ¬(∃its n,o={cls:=.type "list",data:=.seq its n })then{cls:=.none,data:=.fields #[] }else o
def aD(K:FZ):FZ:=K.map λp=>(p.1,fB p.2)
theorem lV:∀(K:FZ) (a:Addr),(aD K).lookup a=(K.lookup a).map fB
 | [],a=>rfl
 |(c,q)::r,a=>by
  show((c,fB q)::aD r).lookup a=_
  rw[List.lookup_cons,List.lookup_cons]
  cases a == c with
  |true=>rfl
  |false=>exact lV r a
theorem aaQ{K:FZ}{a:Addr}{o:Obj}(h:(aD K).lookup a=some o)(c:o.cls=.type "tuple"):K.lookup a=some o:=by
 rw[lV]at h
 cases e:K.lookup a with
 |none=>rw[e]at h; cases h
 |some q =>
  rw[e]at h
  have h:fB q=o:=Option.some.inj h
  unfold fB at h
  split at h
  ·subst h; cases c
  ·rw[h]
theorem aaR{K:FZ}{a:Addr}{o:Obj}(h:(aD K).lookup a=some o)(c:o.cls=.type "list"):K.lookup a=some o∧∃its n,o={cls:=.type "list",data:=.seq its n }:=by
 rw[lV]at h
 cases e:K.lookup a with
 |none=>rw[e]at h; cases h
 |some q =>
  rw[e]at h
  have h:fB q=o:=Option.some.inj h
  unfold fB at h
  split at h
  ·subst h; cases c
  ·rename_i n
   subst h
   refine⟨rfl,?_⟩
   by_cases z:∃its n,q={cls:=.type "list",data:=.seq its n }
   ·exact z
   ·exact(n ⟨c,z⟩).elim
theorem Q8{K:FZ}{a:Addr}{o:Obj}(h:K.lookup a=some o)(c:o.cls=.type "tuple"):(aD K).lookup a=some o:=by
 rw[lV,h]
 show some (fB o)=some o
 unfold fB
 rw[if_neg (by rintro⟨z,_⟩; rw[c]at z; injection z with z; exact absurd z (by decide))]
theorem cV.toK{K:FZ}{H:Hp}{a:Addr}{xs:List V}(h:cV (aD K) H a xs):cV K H a xs:=by
 rcases h with h|⟨o,its,n,e,c,r⟩
 ·exact .inl h
 ·exact .inr ⟨o,its,n,aaQ e c,c,r⟩
theorem cV.ofK{K:FZ}{H:Hp}{a:Addr}{xs:List V}(h:cV K H a xs):cV (aD K) H a xs:=by
 rcases h with h|⟨o,its,n,e,c,r⟩
 ·exact .inl h
 ·exact .inr ⟨o,its,n,Q8 e c,c,r⟩
def lW(K:FZ)(H:Hp)(a:Addr)(xs:List V):Prop:=Rd H a (.lst xs)\/∃(its:Array Value) (n:Nat),K.lookup a=some {cls:=.type "list",data:=.seq its n }/\its.size<=sizeLine/\Vals xs its.toList
theorem bZ.yO{K:FZ}{H:Hp}{a:Addr}{xs:List V}(h:bZ (aD K) H a xs):lW K H a xs:=by
 rcases h with h|⟨o,its,n,e,c,_,d,r⟩
 ·exact .inl h
 ·obtain⟨e2,its',n',rfl⟩:=aaR e c
  have d:Data.seq its' n'=.seq its n:=d
  injection d with d1 d2
  subst d1 d2
  exact .inr ⟨its',n',e2,r⟩
theorem lW.toK{K:FZ}{H:Hp}{a:Addr}{xs:List V}(h:lW K H a xs):bZ K H a xs:=by
 rcases h with h|⟨its,n,e,r⟩
 ·exact .inl h
 ·exact .inr ⟨_,its,n,e,rfl,rfl,rfl,r⟩
theorem lW.toN{K:FZ}{H:Hp}{a:Addr}{xs:List V}(h:lW K H a xs):bZ (aD K) H a xs:=by
 rcases h with h|⟨its,n,e,r⟩
 ·exact .inl h
 ·refine .inr ⟨{cls:=.type "list",data:=.seq its n },its,n,?_,rfl,rfl,rfl,r⟩
  rw[lV,e]
  show some (fB _)=_
  unfold fB
  rw[if_neg λz=>z.2 ⟨its,n,rfl⟩]
theorem bZ.toK{K:FZ}{H:Hp}{a:Addr}{xs:List V}(h:bZ (aD K) H a xs):bZ K H a xs:=h.yO.toK
theorem aaS{K:FZ}{N:Addr}{c:Str}{v:Value}(h:PySem.W.nsIn (aD K) N c=some (some v)):PySem.W.nsIn K N c=some (some v):=by
 unfold PySem.W.nsIn at h ⊢
 rw[lV]at h
 cases e:K.lookup N with
 |none=>rw[e]at h; cases h
 |some q =>
  rw[e]at h
  by_cases z:q.cls=.type "list" ∧ ¬(∃its n,q={cls:=.type "list",data:=.seq its n })
  ·have:fB q={cls:=.none,data:=.fields #[] }:=by unfold fB; rw[if_pos z]
   rw[show(some q).map fB=some (fB q)from rfl,this]at h
   cases h
  ·have:fB q=q:=by unfold fB; rw[if_neg z]
   rw[show(some q).map fB=some (fB q)from rfl,this]at h
   exact h
mutual
theorem Rep.toK{K:FZ}{H:Hp}:∀{v:V} {t:Tr},Rep (aD K) H v t->Rep K H v t
 |_,_,.non=>.non
 |_,_,.bl b=>.bl b
 |_,_,.int i=>.int i
 |_,_,.str x=>.str x
 |_,_,.tup h r=>.tup h.toK (aF.toK r)
 |_,_,.lst h r=>.lst h.toK (aF.toK r)
 |_,_,.cO h m n=>.cO h m (aaS n)
theorem aF.toK{K:FZ}{H:Hp}:∀{v:List V} {t:List Tr},aF (aD K) H v t->aF K H v t
 |_,_,.nil=>.nil
 |_,_,.cons h r=>.cons (Rep.toK h) (aF.toK r)
end
section
variable {X:Cx}
theorem Inv.Io{pins:List (Addr × Obj)}{σ : St}{H:Hp}{s:Shared}{l:Addr}{xs:List V}(I:Inv X pins σ H s)(hH:lW X.K H l xs):xs.length<=sizeLine/\∃(its:List Value) (n:Nat),Vals xs its/\xs.length=its.length/\s.heap.get? l=some {cls:=.type "list",data:=.seq its.toArray n }:=by
 rcases hH with hH|⟨its,n,e,z,r⟩
 ·obtain⟨z,its,n,r,e⟩:=hH.ok I.hok
  exact⟨z,its,n,r,r.length,e⟩
 ·have l':xs.length=its.size:=r.length.trans Array.length_toList
  exact⟨by rw[l']; exact z,its.toList,n,r,r.length,I.jQ _ _ e⟩
def Q9(K:FZ):R2:=λx y H Q=>∃l b xs zs,x=.ref l/\y=.ref b/\lW K H l xs/\lW K H b zs/\xs.length+zs.length<=sizeLine/\∀p,H p=none->Q (.ref p) (upd H p (.lst (xs++zs)))
theorem aaT:cN X (binaryOp .Add) (Q9 X.K):=by
 intro pins s σ H x y v u Q I rx ry h
 obtain⟨l,b,xs,zs,rfl,rfl,hH,hB,hz,q⟩:=h
 cases rx
 cases ry
 obtain⟨z,its,n,r,hl,e⟩:=I.Io hH
 obtain⟨z2,its2,n2,r2,hl2,e2⟩:=I.Io hB
 refine PySem.P.add_list e e2 ?_ (by rw[List.size_toArray,List.size_toArray]; omega)
 have ea:its.toArray++its2.toArray=(its++its2).toArray:=by simp
 rw[ea]
 exact⟨.ref _,_,I.Hv (t':=s.toks) (r.append r2) (by rw[List.length_append]; omega),rfl,q _ I.fresh⟩
end
def Ra(K:FZ):R2:=λx y H Q=>∃l k xs,x=.ref l/\y=.int k/\lW K H l xs /\ -(2 ^ 63)<=k/\k<2 ^ 63/\xs.length*k.toNat<=sizeLine/\∀p,H p=none->Q (.ref p) (upd H p (.lst (List.replicate k.toNat xs).flatten))
theorem aaU{X:Cx}:cN X (binaryOp .Mult) (Ra X.K):=by
 intro pins s σ H x y v u Q I rx ry h
 obtain⟨l,k,xs,rfl,rfl,hH,h1,h2,hz,q⟩:=h
 cases rx
 obtain⟨t,rfl⟩:=ry
 obtain⟨z,its,n,r,hl,e⟩:=I.Io hH
 have hlen:its.toArray.size*k.toNat<=sizeLine:=by rw[List.size_toArray,<-hl]; exact hz
 have hcap:¬its.toArray.size*k.toNat > (2 ^ 63-1) / 8:=by
  have:(sizeLine:Nat)<=(2 ^ 63-1) / 8:=by decide
  omega
 have hfit:¬(!Builtin.List.listFitsIndex k)=true:=by
  rw[fitsIndex_both h1 h2]
  exact Bool.false_ne_true
 have aaV:¬Builtin.List.listTooLong (its.toArray.size*k.toNat)=true:=by
  rw[aag hlen]
  exact Bool.false_ne_true
 have hnew:List.foldl (λx1 x2=>x1++x2) #[] (List.replicate (if its.toArray.isEmpty=true then 0 else k.toNat) its.toArray)=(List.replicate k.toNat its).flatten.toArray:=by
  have f0:∀m:Nat,List.foldl (λx1 x2=>x1++x2) #[] (List.replicate m its.toArray)=(List.replicate m its).flatten.toArray:=λm=>by
   have:=foldl_rep its m []
   rw[List.nil_append]at this
   exact this
  rw[f0]
  cases its with
  |nil=>simp
  |cons a r'=>rw[if_neg (by simp)]
 refine wpAny_binaryOp_repeat_ref (T := "list") (U := "int") (by decide) ⟨_,e,rfl⟩ (λs'=>typeIs_int s' k t) noFill_list_mul F.fills_int_mul F.slot_int_rmul repeat_list F.slot_int_index.lookup
  (call_meets F.slot_int_rmul (typeIs_int s k t) F.entry_int_rmul (F.args_int_rmul_2 _ _) (int___rmul___int_list k t l its.toArray n)
   ⟨e,rfl,⟨_,e,rfl⟩,call_meets F.slot_list_mul ⟨_,e,rfl⟩ F.entry_list_mul (F.args_list_mul_2 _ _) (AutoListH.list___mul___list_int_3 l its.toArray n k t hfit hcap aaV) ⟨e,?_⟩⟩)
 rw[hnew]
 exact⟨.ref _,_,I.Hv (t':=s.toks) (r.rep k.toNat) (by rw[len_rep,Nat.mul_comm]; exact hz),rfl,q _ I.fresh⟩
section
variable {K:FZ}{W:Addr->Prop}{σ : St}{H:Hp}{p:Addr}{xs:List V}{ts:List Tr}
theorem Ip{o:HO}(hp:H p=none):Same (aN W H) (off p (aN W (upd H p o))):=λb u q=>by
 obtain⟨n,e⟩:=jW q
 have ne:b≠p:=ji e hp
 rw[off_ne ne,gj n,bJ ne]
 exact e
theorem dJ.new(hp:H p=none)(r:aF K (aN W H) xs ts):dJ K W σ H (upd H p (.lst xs)) (.ref p) (.v (.lst ts) true) :=
 ⟨p,xs,ts,rfl,rfl,hp,eX,r.mono (Ip hp)⟩
theorem dJ.newT(hw:∀b,W b->Lt H b)(hp:H p=none)(r:aF K (aN W H) xs ts):dJ K W σ H (upd H p (.tup xs)) (.ref p) (.v (.tup ts) false):=by
 have nw:¬W p:=λw=>by
  exact(hw p w).ne hp
 refine .tup (cV.of ?_) (r.mono λb u q=>(wH (Ip (o:=.tup xs) hp b u q)).2)
 rw[gj nw]
 exact eX
theorem dJ.gF{H':Hp}{v:V}{T:Tr}(h:uD v T):dJ K W σ H H' v (.v T false):=h.rep
theorem aF.rR{H:Hp}:∀{v:List V} {t:List Tr} {i:Nat} {u:Tr},aF K H v t->t[i]?=some u->∃x,v[i]?=some x/\Rep K H x u
 |_,_,_,_,.nil,e=>by simp at e
 |_,_,0,_,.cons h _,e=>by
  simp at e
  subst e
  exact⟨_,rfl,h⟩
 |_,_,i+1,x,.cons _ r,e=>by
  obtain⟨u,h1,h2⟩:=aF.rR (i:=i) (u:=x) r (by simpa using e)
  exact⟨u,by simpa using h1,h2⟩
theorem aF.dI(r:aF K H xs ts){i:Int}{t:Tr}(h:dI ts i=some t):∃x,L2.dI xs i=some x/\Rep K H x t:=by
 unfold L2.dI at h ⊢
 rw[r.length]
 cases e:gh ts.length i with
 |none=>rw[e]at h; cases h
 |some j =>
  rw[e]at h
  exact r.rR h
theorem Rp.aaW{v:V}(h:Rp K W H v (.tup ts)):Rep K (aN W H) v (.tup ts):=by
 rcases h with h|⟨a,xs,us,rfl,e0,e,r⟩
 ·exact h
 ·cases e0
theorem big{n:Nat}(h:n<=100000):n<=sizeLine:=Nat.le_trans h (by decide)
end
section
variable {K:FZ}
def gI(p:Int->Int->Int):G2
 |.int i,.int j=>.ok (.int (p i j),false)
 |_,_=>.bad
theorem aaX{p:Int->Int->Int}:f9 K (iu λi j=>.int (p i j)) (gI p):=λW x y a b H Q hw rx ry h=>by
 cases a <;> try exact h.elim
 cases b <;> try exact h.elim
 rw[rx.int,ry.int]
 exact⟨_,_,rfl,rfl,h _ H (Same.refl _) (.gF (.int _))⟩
def gK(c:Int->Int->Bool)(p:Int->Int->Int):G2
 |.int i,.int j=>if c i j=true then .ok (.int (p i j),false)else .bad
 |_,_=>.bad
theorem Ir{C:Int->Int->Prop}{c:Int->Int->Bool}{p:Int->Int->Int}(hc:∀i j,c i j=true->C i j):f9 K (rI C λi j=>.int (p i j)) (gK c p):=λW x y a b H Q hw rx ry h=>by
 cases a <;> try exact h.elim
 cases b <;> try exact h.elim
 rw[rx.int,ry.int]
 dsimp only[gK]at h
 split at h
 ·rename_i e
  exact⟨_,_,rfl,rfl,hc _ _ e,h _ H (Same.refl _) (.gF (.int _))⟩
 ·exact h.elim
def gB(p:Int->Int->Bool):G2
 |.int i,.int j=>.ok (.bl (p i j),false)
 |_,_=>.bad
theorem Iu{p:Int->Int->Bool}:f9 K (iu λi j=>.bl (p i j)) (gB p):=λW x y a b H Q hw rx ry h=>by
 cases a <;> try exact h.elim
 cases b <;> try exact h.elim
 rw[rx.int,ry.int]
 exact⟨_,_,rfl,rfl,h _ H (Same.refl _) (.gF (.bl _))⟩
def dX:G2:=λt u=>if dep t<=40/\dep u<=40 then .ok (.bl (eqT t u),false)else .bad
theorem aaY:f9 (aD K) (HX K) dX:=λW x y a b H Q hw rx ry h=>by
 unfold dX at h
 split at h
 ·rename_i e
  exact⟨a,b,rx.rep.toK,ry.rep.toK,e.1,e.2,h _ H (Same.refl _) (.gF (.bl _))⟩
 ·exact h.elim
def fC:G2:=λt u=>if dep t<=40/\dep u<=40 then .ok (.bl (!eqT t u),false)else .bad
theorem aaZ:f9 (aD K) (Im K) fC:=λW x y a b H Q hw rx ry h=>by
 unfold fC at h
 split at h
 ·rename_i e
  exact⟨a,b,rx.rep.toK,ry.rep.toK,e.1,e.2,h _ H (Same.refl _) (.gF (.bl _))⟩
 ·exact h.elim
def iK(f:Bool->Bool):G2:=λt u=>match u with
 |.lst us=>if deps us<=40/\dep t<=40 then .ok (.bl (f (pZ t us)),false)else .bad
 |.tup us=>if deps us<=40/\dep t<=40 then .ok (.bl (f (pZ t us)),false)else .bad
 |_=>.bad
theorem aa0:f9 (aD K) (HY K) (iK id):=λW x y a b H Q hw rx ry h=>by
 cases b <;> try exact h.elim
 ·rename_i us
  dsimp only[iK]at h
  split at h
  ·rename_i e
   obtain⟨p,xs,rfl,q,r⟩:=ry.tup
   exact⟨a,us,p,xs,rx.rep.toK,rfl,.inr q.toK,(r.mono (iw _ _)).toK,e.1,e.2,h _ H (Same.refl _) (.gF (.bl _))⟩
  ·exact h.elim
 ·rename_i us
  dsimp only[iK]at h
  split at h
  ·rename_i e
   obtain⟨p,xs,rfl,q,r⟩:=ry.lst
   exact⟨a,us,p,xs,rx.rep.toK,rfl,.inl q.toK,(r.mono (iw _ _)).toK,e.1,e.2,h _ H (Same.refl _) (.gF (.bl _))⟩
  ·exact h.elim
theorem aa1:f9 (aD K) (Ij K) (iK not):=λW x y a b H Q hw rx ry h=>by
 cases b <;> try exact h.elim
 ·rename_i us
  dsimp only[iK]at h
  split at h
  ·rename_i e
   obtain⟨p,xs,rfl,q,r⟩:=ry.tup
   exact⟨a,us,p,xs,rx.rep.toK,rfl,.inr q.toK,(r.mono (iw _ _)).toK,e.1,e.2,h _ H (Same.refl _) (.gF (.bl _))⟩
  ·exact h.elim
 ·rename_i us
  dsimp only[iK]at h
  split at h
  ·rename_i e
   obtain⟨p,xs,rfl,q,r⟩:=ry.lst
   exact⟨a,us,p,xs,rx.rep.toK,rfl,.inl q.toK,(r.mono (iw _ _)).toK,e.1,e.2,h _ H (Same.refl _) (.gF (.bl _))⟩
  ·exact h.elim
def Rb:Tr->Bool
 |.non=>true
 |_=>false
def yP(f:Bool->Bool):G2:=λt u=>match u with
 |.non=>.ok (.bl (f (Rb t)),false)
 |_=>.bad
theorem aa2{H:Hp}{x:V}{t:Tr}(h:Rep K H x t):decide (x=.non)=Rb t:=by
 cases h <;> rfl
theorem aa3:f9 K (λx y H Q=>y=.non/\Q (.bl (!decide (x=.non))) H) (yP not):=λW x y a b H Q hw rx ry h=>by
 cases b <;> try exact h.elim
 rw[ry.non,aa2 rx.rep]
 exact⟨rfl,h _ H (Same.refl _) (.gF (.bl _))⟩
def Iv(K:FZ):R2:=λx y H Q=>(iu λi j=>.int (i+j)) x y H Q\/Q9 K x y H Q\/(∃i j,x=.str i/\y=.str j/\i.length+j.length<=sizeLine/\Q (.str (i++j)) H)\/Qg K x y H Q
theorem iz{X:Cx}:cN X (binaryOp .Add) (Iv X.K):=cN.or O9 (cN.or aaT (cN.or Zn Z1))
noncomputable def bW:G2
 |.int i,.int j=>.ok (.int (i+j),false)
 |.lst a,.lst b=>if a.length+b.length<=100000 then .ok (.lst (a++b),true)else .bad
 |.str a,.str b=>if a.length+b.length<=100000 then .ok (.str (a++b),false)else .bad
 |.tup a,.tup b=>if 0<a.length/\a.length+b.length<=100000 then .ok (.tup (a++b),false)else .bad
 |_,_=>.bad
theorem aa4:f9 (aD K) (Iv K) bW:=λW x y a b H Q hw rx ry h=>by
 cases a <;> cases b <;> try exact h.elim
 ·rw[rx.int,ry.int]
  exact .inl ⟨_,_,rfl,rfl,h _ H (Same.refl _) (.gF (.int _))⟩
 ·rename_i i j
  rw[rx.str,ry.str]
  dsimp only[bW]at h
  split at h
  ·rename_i e
   exact .inr (.inr (.inl ⟨i,j,rfl,rfl,big e,h _ H (Same.refl _) (.gF (.str _))⟩))
  ·exact h.elim
 ·rename_i us ws
  dsimp only[bW]at h
  split at h
  ·rename_i e
   have rt:=rx.aaW
   obtain⟨p,xs,rfl,q,r⟩:=rx.tup
   obtain⟨p',ys,rfl,q',r'⟩:=ry.tup
   have l1:=r.length
   have l2:=r'.length
   refine .inr (.inr (.inr ⟨p,p',xs,ys,rfl,rfl,q.toK,q'.toK,?_,by rw[l1,l2]; exact big e.2,λz=>h _ H (Same.refl _) ?_,λ_ z hz=>h _ _ (dW hz _) (.newT hw hz (r.app r'))⟩))
   ·rintro rfl
    have e1:=e.1
    rw[<-l1]at e1
    cases e1
   ·subst z
    cases r'
    rw[List.append_nil]
    exact rt
  ·exact h.elim
 ·rename_i us ws
  dsimp only[bW]at h
  split at h
  ·rename_i e
   obtain⟨p,xs,rfl,q,r⟩:=rx.lst
   obtain⟨p',ys,rfl,q',r'⟩:=ry.lst
   refine .inr (.inl ⟨p,p',xs,ys,rfl,rfl,q.yO,q'.yO,by rw[r.length,r'.length]; exact big e,λz hz=>h _ _ (dW hz _) (.new hz (r.app r'))⟩)
  ·exact h.elim
end
def fit(i:Int):Bool:=decide (i.natAbs.log2<1048575)
theorem Rf{i:Int}(h:fit i=true):Builtin.Int.intBits i<=2 ^ 20:=by
 have h:=of_decide_eq_true h
 unfold Builtin.Int.intBits
 have e:(2:Nat) ^ 20=1048576:=by decide
 split
 ·decide
 ·omega
def tiny(i:Int):Bool:=decide (-18446744073709551616<i)&&decide (i<18446744073709551616)
def gR(i j:Int):Bool:=(fit i&&fit j) || tiny i || tiny j
def Cm(i j:Int):Prop:=gR i j=true
theorem Cm.ok{i j:Int}(h:Cm i j):IntMulOk i j:=by
 unfold Cm gR at h
 rw[Bool.or_eq_true,Bool.or_eq_true,Bool.and_eq_true]at h
 have e:(2:Int) ^ 64=18446744073709551616:=by decide
 have tn:∀{k:Int},tiny k=true -> -(2 ^ 64)<k/\k<2 ^ 64:=λ{k} h=>by
  unfold tiny at h
  rw[Bool.and_eq_true]at h
  have h1:=of_decide_eq_true h.1
  have h2:=of_decide_eq_true h.2
  omega
 rcases h with(⟨h1,h2⟩|h)|h
 ·exact .of_bits (Rf h1) (Rf h2)
 ·exact .of_left (intBits_le_64 (tn h).1 (tn h).2)
 ·exact .of_right (intBits_le_64 (tn h).1 (tn h).2)
def Iw(K:FZ):R2:=λx y H Q=>(rI Cm λi j=>.int (i*j)) x y H Q\/Ra K x y H Q
theorem eH{X:Cx}:cN X (binaryOp .Mult) (Iw X.K):=cN.or (Br λ_ _ _ _ _ _ _ hc q=>mul_int q hc.ok) aaU
def bR:G2
 |.int i,.int j=>if gR i j=true then .ok (.int (i*j),false)else .bad
 |.lst a,.int k=>if(-1000<=k/\k<=1000)/\a.length<=100 then .ok (.lst (List.replicate k.toNat a).flatten,true)else .bad
 |_,_=>.bad
def lu(_ j:Int):Bool:=decide (j≠0)&&decide (j.natAbs.log2<9000)
def Cp(i j:Int):Prop:=lu i j=true
theorem qd{X:Cx}:cN X (binaryOp .FloorDiv) (rI Cp λi j=>.int (i.fdiv j)):=Br λi j _ _ _ _ _ hc q=>by
 unfold Cp lu at hc
 rw[Bool.and_eq_true]at hc
 exact floordiv_int (of_decide_eq_true hc.1) q (.inl (PyProof.noPylong_of_log2 (of_decide_eq_true hc.2)))
def eO:G2:=gK lu Int.fdiv
def dh:G2:=gK (λ_ j=>decide (j≠0)) Int.fmod
def Rg(i j:Int):Bool:=decide (0<=j)&&decide (j<=1000)&&tiny i
def lX:G2:=gK Rg λi j=>i ^ j.toNat
def iM:G2:=gI λi j=>i-j
section
variable {K:FZ}
theorem aF.rep{H:Hp}{xs:List V}{ts:List Tr}(r:aF K H xs ts):∀n,aF K H (List.replicate n xs).flatten (List.replicate n ts).flatten
 | 0=>.nil
 |n+1=>by
  rw[List.replicate_succ,List.replicate_succ,List.flatten_cons,List.flatten_cons]
  exact r.app (aF.rep r n)
theorem aa5:f9 (aD K) (Iw K) bR:=λW x y a b H Q hw rx ry h=>by
 cases a <;> cases b <;> try exact h.elim
 ·rw[rx.int,ry.int]
  dsimp only[bR]at h
  split at h
  ·rename_i e
   exact .inl ⟨_,_,rfl,rfl,e,h _ H (Same.refl _) (.gF (.int _))⟩
  ·exact h.elim
 ·rename_i us k
  rw[ry.int]
  dsimp only[bR]at h
  split at h
  ·rename_i e
   obtain⟨p,xs,rfl,q,r⟩:=rx.lst
   by_cases k0:0<=k
   ·refine .inr ⟨p,k,xs,rfl,rfl,q.yO,by omega,by omega,?_,λz hz=>h _ _ (dW hz _) (.new hz (r.rep _))⟩
    rw[r.length]
    refine Nat.le_trans (Nat.mul_le_mul e.2 (show k.toNat<=1000 by omega)) (by decide)
   ·have e0:k.toNat=0:=by omega
    by_cases k1 : -(2 ^ 63)<=k
    ·refine .inr ⟨p,k,xs,rfl,rfl,q.yO,k1,by omega,?_,λz hz=>h _ _ (dW hz _) (.new hz (r.rep _))⟩
     rw[e0,Nat.mul_zero]
     exact Nat.zero_le _
    ·omega
  ·exact h.elim
theorem aa6:f9 K (rI Cp λi j=>.int (i.fdiv j)) eO:=Ir λ_ _ h=>h
theorem aa7:f9 K (rI (λ_ j=>j≠0) λi j=>.int (i.fmod j)) dh:=Ir λ_ _ h=>of_decide_eq_true h
theorem aa8:f9 K (rI G7 λi j=>.int (i ^ j.toNat)) lX:=Ir λi j h=>by
 unfold Rg tiny at h
 rw[Bool.and_eq_true,Bool.and_eq_true,Bool.and_eq_true]at h
 have h1:=of_decide_eq_true h.1.1
 have h2:=of_decide_eq_true h.1.2
 have h3:=of_decide_eq_true h.2.1
 have h4:=of_decide_eq_true h.2.2
 have e:(2:Nat) ^ 64=18446744073709551616:=by decide
 exact⟨h1,by omega,by omega⟩
theorem aa9:f9 K (iu λi j=>.int (i-j)) iM:=aaX
def oU:G2:=gB λi j=>decide (j<i)
def fD:G2:=gB λi j=>decide (i<=j)
def jZ:G2:=gB λi j=>decide (j<=i)
theorem abb:f9 K (iu λi j=>.bl (decide (j<i))) oU:=Iu
theorem Iz:f9 K (iu λi j=>.bl (decide (i<=j))) fD:=Iu
theorem abd:f9 K (iu λi j=>.bl (decide (j<=i))) jZ:=Iu
def intsOf:List Tr->Option (List Int)
 | []=>some []
 |.int i::r=>(intsOf r).map (i :: ·)
 |_::_=>none
theorem ints_of{H:Hp}:∀{ts:List Tr} {ns:List Int} {xs:List V},intsOf ts=some ns->aF K H xs ts->xs=ns.map V.int
 | [],ns,xs,h,r=>by cases h; cases r; rfl
 |.int i::q,ns,xs,h,r=>by
  unfold intsOf at h
  cases e:intsOf q with
  |none=>rw[e]at h; cases h
  |some ms =>
   rw[e]at h
   cases h
   cases r with
   |cons h1 r1 =>
    cases h1
    rw[ints_of e r1]
    rfl
 |.non::q,ns,xs,h,r=>by cases h
 |.bl _::q,ns,xs,h,r=>by cases h
 |.str _::q,ns,xs,h,r=>by cases h
 |.tup _::q,ns,xs,h,r=>by cases h
 |.lst _::q,ns,xs,h,r=>by cases h
def IV(K:FZ):R2:=λx y H Q=>(iu λi j=>.bl (decide (i<j))) x y H Q\/Qf K x y H Q
theorem yQ{X:Cx}(hu:X.A.units+64<cLine):cN X (compareOp .Lt) (IV X.K):=cN.or Zi (Z0 (by omega))
def gU:G2
 |.int i,.int j=>.ok (.bl (decide (i<j)),false)
 |.tup a,.tup b=>match intsOf a,intsOf b with
  |some ns,some ms=>.ok (.bl (HT.lexLt ns ms),false)
  |_,_=>.bad
 |_,_=>.bad
theorem abe:f9 (aD K) (IV K) gU:=λW x y a b H Q hw rx ry h=>by
 cases a <;> cases b <;> try exact h.elim
 ·rw[rx.int,ry.int]
  exact .inl ⟨_,_,rfl,rfl,h _ H (Same.refl _) (.gF (.bl _))⟩
 ·rename_i us ws
  dsimp only[gU]at h
  split at h
  ·rename_i ns ms e1 e2
   obtain⟨p,xs,rfl,q,r⟩:=rx.tup
   obtain⟨p',ys,rfl,q',r'⟩:=ry.tup
   have z1:=ints_of e1 r
   have z2:=ints_of e2 r'
   subst z1 z2
   exact .inr ⟨p,p',ns,ms,rfl,rfl,q.toK,q'.toK,h _ H (Same.refl _) (.gF (.bl _))⟩
  ·exact h.elim
noncomputable def aC:G2
 |.lst ts,.int i=>match dI ts i with
  |some t=>.ok (t,false)
  |none=>.bad
 |.tup ts,.int i=>match dI ts i with
  |some t=>.ok (t,false)
  |none=>.bad
 | .str z,.int i=>if z.length<=100000 then (match dI z.cps.toList i with
  |some c=>.ok (.str ⟨#[c]⟩,false)
  |none=>.bad)else .bad
 |_,_=>.bad
theorem Rh:f9 (aD K) (BJ K) aC:=λW x y a b H Q hw rx ry h=>by
 cases a <;> cases b <;> try exact h.elim
 ·rename_i z i
  rw[rx.str,ry.int]
  dsimp only[aC]at h
  split at h
  ·rename_i e
   split at h
   ·rename_i c ec
    exact .inr (.inr ⟨z,i,c,rfl,rfl,big e,ec,h _ H (Same.refl _) (.gF (.str _))⟩)
   ·exact h.elim
  ·exact h.elim
 ·rename_i ts i
  rw[ry.int]
  dsimp only[aC]at h
  split at h
  ·rename_i t et
   obtain⟨p,xs,rfl,q,r⟩:=rx.tup
   obtain⟨v,ev,rv⟩:=r.dI et
   exact .inr (.inl ⟨p,xs,i,v,rfl,rfl,q.toK,ev,h _ H (Same.refl _) rv⟩)
  ·exact h.elim
 ·rename_i ts i
  rw[ry.int]
  dsimp only[aC]at h
  split at h
  ·rename_i t et
   obtain⟨p,xs,rfl,q,r⟩:=rx.lst
   obtain⟨v,ev,rv⟩:=r.dI et
   exact .inl ⟨p,xs,i,v,rfl,rfl,q.toK,ev,h _ H (Same.refl _) rv⟩
  ·exact h.elim
end
section
variable {K:FZ}{W:Addr->Prop}{σ : St}
theorem iy.step{H H' dg:Hp}(hw:∀b,W b->H b≠none)(s:bL W H' dg):∀{vs:List V} {rs:List Rv},iy K W σ H H' vs rs->iy K W σ H dg vs rs
 |_,_,.nil=>.nil
 |_,_,.cons h q=>.cons (h.step hw s) (iy.step hw s q)
theorem iy.back{G H H':Hp}(d:∀b,H b=none->G b=none):∀{vs:List V} {rs:List Rv},iy K W σ H H' vs rs->iy K W σ G H' vs rs
 |_,_,.nil=>.nil
 |_,_,.cons h q=>.cons (h.back d) (iy.back d q)
inductive rT(K:FZ)(W:Addr->Prop)(H:Hp):List V->List Tr->Prop
 |nil:rT K W H [] []
 |cons {v:V} {t:Tr} {vs:List V} {ts:List Tr} (h:Rp K W H v t) (q:rT K W H vs ts):rT K W H (v::vs) (t::ts)
def drs(ρ : En):List Rv->Rs (List Tr)
 | []=>.ok []
 |r::rs=>(dr ρ r).bind λt=>(drs ρ rs).bind λts=>.ok (t::ts)
theorem Cq(ρ : En):∀(rs:List Rv) (c:Str),drs ρ rs ≠ .ex c
 | [],c=>by intro z; cases z
 |r::rs,c=>by
  unfold drs
  cases e:dr ρ r with
  |bad=>intro z; cases z
  |ex d=>exact(jY _ _ _ e).elim
  |ok t =>
   show(drs ρ rs).bind _≠_
   cases e2:drs ρ rs with
   |bad=>intro z; cases z
   |ex d=>exact(Cq ρ rs d e2).elim
   |ok ts=>intro z; cases z
theorem iQ{α β : Type}{r:Rs α}{f : α -> Rs β}{b : β}(h:r.bind f=.ok b):∃a,r=.ok a/\f a=.ok b:=by
 cases r with
 |bad=>cases h
 |ex c=>cases h
 |ok a=>exact⟨a,rfl,h⟩
theorem Cr{t:Tx}{ρ : En}{H H':Hp}(e:aH t W ρ σ H')(hw:∀b,W b->H b≠none):∀{vs:List V} {rs:List Rv} {ts:List Tr},iy t.K W σ H H' vs rs->drs ρ rs=.ok ts->rT t.K W H' vs ts
 |_,_,_,.nil,q=>by cases q; exact .nil
 |_,_,_,.cons h r,q=>by
  unfold drs at q
  obtain⟨a,q1,q⟩:=iQ q
  obtain⟨as,q2,q⟩:=iQ q
  cases q
  exact .cons (jX e hw h q1) (Cr e hw r q2)
def cls:List Rv->Rs (List Tr)
 | []=>.ok []
 |.v t _::rs=>(cls rs).bind λts=>.ok (t::ts)
 |.s _::_=>.bad
theorem yR:∀(rs:List Rv) (c:Str),cls rs ≠ .ex c
 | [],c=>by intro z; cases z
 |.v t fr::rs,c=>by
  unfold cls
  cases e2:cls rs with
  |bad=>intro z; cases z
  |ex d=>exact(yR rs d e2).elim
  |ok ts=>intro z; cases z
 |.s i::rs,c=>by intro z; cases z
theorem yS{H H':Hp}(hw:∀b,W b->H b≠none):∀{vs:List V} {rs:List Rv} {ts:List Tr},iy K W σ H H' vs rs->cls rs=.ok ts->aF K (aN W H') vs ts
 |_,_,_,.nil,q=>by cases q; exact .nil
 |_,.v t fr::_,_,.cons h r,q=>by
  unfold cls at q
  obtain⟨as,q2,q⟩:=iQ q
  cases q
  exact .cons (h.rep hw) (yS hw r q2)
 |_,.s i::_,_,.cons h r,q=>by cases q
end
section
variable {t:Tx}
def au:AF:=λρ=>.ok ([],ρ)
def ak(f:EF)(g:AF):AF:=λρ=>(f ρ).bind λp=>(g p.2).bind λq=>.ok (p.1::q.1,q.2)
theorem bG:SA t kW au:=λW ρ σ H Q e h=>h [] H e (bL.refl _ _) .nil
theorem aL{te:TE}{ta:TA}{f:EF}{g:AF}(h1:SE t te f)(h2:SA t ta g):SA t (kY te ta) (ak f g):=λW ρ σ H Q e h=>by
 refine h1 W ρ σ H _ e (Rs.aY (Rs.aR h) λp h v H1 e1 s1 v1=>?_)
 refine h2 W p.2 σ H1 _ e1 (Rs.aY (Rs.aR h) λq h vs H2 e2 s2 v2=>?_)
 exact h (v::vs) H2 e2 (s1.trans s2) (.cons (v1.1.step e.wn s2) (iy.back s1.dom v2))
def iB(g:AF):EF:=λρ=>(g ρ).bind λp=>(cls p.1).bind λts=>if ts.length<=1000 then .ok (.v (.lst ts) true,p.2)else .bad
def gk(g:AF):EF:=λρ=>(g ρ).bind λp=>(cls p.1).bind λts=>if ts.length<=1000 then .ok (.v (.tup ts) false,p.2)else .bad
theorem eE{α : Type}{r:Rs α}{EX:Str->Prop}{P : α -> Prop}(h:r.post EX P)(n:∀c,r ≠ .ex c):∃a,r=.ok a/\P a:=by
 cases r with
 |bad=>exact h.elim
 |ex c=>exact(n c rfl).elim
 |ok a=>exact⟨a,rfl,h⟩
theorem uE{ta:TA}{g:AF}(h1:SA t ta g):SE t (Pk ta) (iB g):=λW ρ σ H Q e h=>by
 refine h1 W ρ σ H _ e (Rs.aY (Rs.aR h) λp h vs H1 e1 s1 v1=>?_)
 obtain⟨ts,q,h⟩:=eE (Rs.aR h) (yR _)
 have r:=yS e.wn v1 q
 split at h
 ·rename_i hl
  refine⟨by rw[r.length]; exact Nat.le_trans hl (by decide),λz hz=>h _ _ (e1.grow (dW hz _)) (s1.trans (bL.of (dW hz _))) ?_⟩
  exact(gJ.of (σ' := σ) e1 (dW hz _) (dJ.new hz r)).back s1.dom
 ·exact h.elim
theorem rW{ta:TA}{g:AF}(h1:SA t ta g):SE t (Ph ta) (gk g):=λW ρ σ H Q e h=>by
 refine h1 W ρ σ H _ e (Rs.aY (Rs.aR h) λp h vs H1 e1 s1 v1=>?_)
 obtain⟨ts,q,h⟩:=eE (Rs.aR h) (yR _)
 have r:=yS e.wn v1 q
 split at h
 ·rename_i hl
  refine⟨by rw[r.length]; exact Nat.le_trans hl (by decide),λz hz=>h _ _ (e1.grow (dW hz _)) (s1.trans (bL.of (dW hz _))) ?_⟩
  exact .low ((dJ.newT (σ := σ) (W:=W) e1.wl hz r))
 ·exact h.elim
abbrev G1:=Tr->Rs (Tr × Bool)
def rY(K:FZ)(r:V->Hp->VK->Prop)(g:G1):Prop:=∀W x a H Q,(∀b,W b->Lt H b)->Rp K W H x a->(g a).post (λ_=>False) (λp=>∀v H',Same H H'->dJ K W [] H H' v (.v p.1 p.2)->Q v H')->r x H Q
def wM(g:G1)(fa:EF):EF:=λρ=>(fa ρ).bind λp=>(dr p.2 p.1).bind λa=>(g a).bind λz=>.ok (.v z.1 z.2,p.2)
theorem abf{r:V->Hp->VK->Prop}{g:G1}{ta:TE}{fa:EF}(o:rY t.K r g)(ng:∀a c,g a ≠ .ex c)(ha:SE t ta fa):SE t (yt r ta) (wM g fa):=λW ρ σ H Q e h=>by
 refine ha W ρ σ H _ e (Rs.aY (Rs.aR h) λp h x H1 e1 s1 v1=>?_)
 obtain⟨a,k1,h⟩:=eE (Rs.aR h) (jY _ _)
 refine o W x a H1 Q e1.wl (jX e1 e.wn v1.1 k1) (Rs.aY (jB (Rs.aR h) (ng a)) λz h v H2 s2 v2=>?_)
 exact h v H2 (e1.grow s2) (s1.trans (bL.of s2)) ((gJ.of e1 s2 v2).back s1.dom)
def nu:G1
 |.int i=>.ok (.int (-i),false)
 |_=>.bad
theorem Ri{K:FZ}:rY K (rU λi=>.int (-i)) nu:=λW x a H Q hw rx h=>by
 cases a <;> try exact h.elim
 rw[rx.int]
 exact⟨_,rfl,h _ H (Same.refl _) (.gF (.int _))⟩
def dM:Tr->Rs Bool
 |.bl b=>.ok b
 |_=>.bad
theorem Rj(a:Tr)(c:Str):dM a ≠ .ex c:=by cases a <;> (intro z; cases z)
def cg(fa:EF):BF:=λρ=>(fa ρ).bind λp=>(dr p.2 p.1).bind λa=>(dM a).bind λb=>.ok (b,p.2)
theorem Rk{K:FZ}{W:Addr->Prop}{H:Hp}{v:V}{a:Tr}{b:Bool}(h:Rp K W H v a)(q:dM a=.ok b):v=.bl b:=by
 cases a <;> cases q
 exact h.bl
theorem lA{ta:TE}{fa:EF}(ha:SE t ta fa):ST t (G9 ta) (cg fa):=λW ρ σ H Q e h=>by
 refine ha W ρ σ H _ e (Rs.aY (Rs.aR h) λp h x H1 e1 s1 v1=>?_)
 obtain⟨a,k1,h⟩:=eE (Rs.aR h) (jY _ _)
 obtain⟨b,k2,h⟩:=eE (Rs.aR h) (Rj _)
 exact⟨b,Rk (jX e1 e.wn v1.1 k1) k2,h H1 e1 s1⟩
def gM:Tr->Rs Bool
 |.non=>.ok false
 |.bl b=>.ok b
 |.int i=>.ok (i != 0)
 |.lst ts=>.ok (!ts.isEmpty)
 |.tup ts=>.ok (!ts.isEmpty)
 |.str x=>if x.length<=100000 then .ok ((x.length:Int) != 0)else .bad
 |.cO _=>.bad
theorem abg(a:Tr)(c:Str):gM a ≠ .ex c:=by
 cases a <;> try(intro z; cases z; done)
 dsimp only[gM]
 split <;> (intro z; cases z)
theorem Rm{α β : Type}{a:List α}{b:List β}(h:a.length=b.length):a.isEmpty=b.isEmpty:=by
 cases a <;> cases b <;> first|rfl|cases h
theorem abh{K:FZ}{W:Addr->Prop}{H:Hp}{v:V}{a:Tr}{b:Bool}(h:Rp (aD K) W H v a)(q:gM a=.ok b):yu K v H b:=by
 cases a with
 |non=>cases q; rw[h.non]; rfl
 |bl i=>cases q; rw[h.bl]; rfl
 |int i=>cases q; rw[h.int]; rfl
 |str i =>
  dsimp only[gM]at q
  split at q
  ·rename_i e
   cases q
   rw[h.str]
   exact⟨big e,rfl⟩
  ·cases q
 |tup ts =>
  cases q
  obtain⟨p,xs,rfl,q,r⟩:=h.tup
  exact .inr (.inl ⟨xs,q.toK,by rw[Rm r.length]⟩)
 |lst ts =>
  cases q
  obtain⟨p,xs,rfl,q,r⟩:=h.lst
  exact .inl ⟨xs,q.toK,by rw[Rm r.length]⟩
 |cO c=>cases q
def cZ(fa:EF):BF:=λρ=>(fa ρ).bind λp=>(dr p.2 p.1).bind λa=>(gM a).bind λb=>.ok (b,p.2)
def abj(K:FZ)(ta:TE):TT:=λσ H Q=>ta σ H λx H'=>∃k,yu K x H' k/\Q k H'
theorem jG{K:FZ}(hK:t.K=aD K){ta:TE}{fa:EF}(ha:SE t ta fa):ST t (abj K ta) (cZ fa):=λW ρ σ H Q e h=>by
 refine ha W ρ σ H _ e (Rs.aY (Rs.aR h) λp h x H1 e1 s1 v1=>?_)
 obtain⟨a,k1,h⟩:=eE (Rs.aR h) (jY _ _)
 obtain⟨b,k2,h⟩:=eE (Rs.aR h) (abg _)
 have r:=jX e1 e.wn v1.1 k1
 rw[hK]at r
 exact⟨b,abh r k2,h H1 e1 s1⟩
def iR(f g:BF):BF:=λρ=>(f ρ).bind λp=>if p.1=true then g p.2 else .ok (false,p.2)
def lB(f g:BF):BF:=λρ=>(f ρ).bind λp=>if p.1=true then .ok (true,p.2)else g p.2
def fP(f:BF):BF:=λρ=>(f ρ).bind λp=>.ok (!p.1,p.2)
theorem uF{ta tb:TT}{f g:BF}(ha:ST t ta f)(hb:ST t tb g):ST t (Ot ta tb) (iR f g):=λW ρ σ H Q e h=>by
 refine ha W ρ σ H _ e (Rs.aY (Rs.aR h) λp h H1 e1 s1=>?_)
 split at h
 ·rename_i c
  refine if_pos c▸hb W p.2 σ H1 _ e1 (Rs.aY h λq h H2 e2 s2=>h H2 e2 (s1.trans s2))
 ·rename_i c
  exact if_neg c▸h H1 e1 s1
theorem Cu{ta tb:TT}{f g:BF}(ha:ST t ta f)(hb:ST t tb g):ST t (Ou ta tb) (lB f g):=λW ρ σ H Q e h=>by
 refine ha W ρ σ H _ e (Rs.aY (Rs.aR h) λp h H1 e1 s1=>?_)
 split at h
 ·rename_i c
  exact if_pos c▸h H1 e1 s1
 ·rename_i c
  refine if_neg c▸hb W p.2 σ H1 _ e1 (Rs.aY h λq h H2 e2 s2=>h H2 e2 (s1.trans s2))
theorem nA{ta:TT}{f:BF}(ha:ST t ta f):ST t (Ov ta) (fP f):=λW ρ σ H Q e h =>
 ha W ρ σ H _ e (Rs.aY (Rs.aR h) λp h H1 e1 s1=>h H1 e1 s1)
def eB(b:Bool):Rv:=.v (.bl b) false
def oV(f g:EF):EF:=λρ=>(cg f ρ).bind λp=>if p.1=true then g p.2 else .ok (eB false,p.2)
def eOr(f g:EF):EF:=λρ=>(cg f ρ).bind λp=>if p.1=true then .ok (eB true,p.2)else g p.2
def IW(f:EF):EF:=λρ=>(cg f ρ).bind λp=>.ok (eB (!p.1),p.2)
theorem abk{ta tb:TE}{f g:EF}(ha:SE t ta f)(hb:SE t tb g):SE t (Ow ta tb) (oV f g):=λW ρ σ H Q e h=>by
 refine lA ha W ρ σ H _ e (Rs.aY (Rs.aR h) λp h H1 e1 s1=>?_)
 split at h
 ·rename_i c
  refine if_pos c▸hb W p.2 σ H1 _ e1 (Rs.aY h λq h v H2 e2 s2 v2=>h v H2 e2 (s1.trans s2) (v2.back s1.dom))
 ·rename_i c
  exact if_neg c▸h _ H1 e1 s1 (.low (.bl false))
theorem abl{ta:TE}{f:EF}(ha:SE t ta f):SE t (Ox ta) (IW f):=λW ρ σ H Q e h =>
 lA ha W ρ σ H _ e (Rs.aY (Rs.aR h) λp h H1 e1 s1=>h _ H1 e1 s1 (.low (.bl _)))
def wN(c:BF)(f g:EF):EF:=λρ=>(c ρ).bind λp=>if p.1=true then f p.2 else g p.2
theorem abm{tc:TT}{ta tb:TE}{c:BF}{f g:EF}(hc:ST t tc c)(ha:SE t ta f)(hb:SE t tb g):SE t (Oz tc ta tb) (wN c f g):=λW ρ σ H Q e h=>by
 refine hc W ρ σ H _ e (Rs.aY (Rs.aR h) λp h H1 e1 s1=>?_)
 split at h
 ·rename_i d
  refine if_pos d▸ha W p.2 σ H1 _ e1 (Rs.aY h λq h v H2 e2 s2 v2=>h v H2 e2 (s1.trans s2) (v2.back s1.dom))
 ·rename_i d
  refine if_neg d▸hb W p.2 σ H1 _ e1 (Rs.aY h λq h v H2 e2 s2 v2=>h v H2 e2 (s1.trans s2) (v2.back s1.dom))
end
section
variable {t:Tx}
noncomputable def rZ(g g':G2)(fa fb fc:EF):EF:=λρ=>(fa ρ).bind λp=>(fb p.2).bind λq=>(dr q.2 p.1).bind λa=>(dr q.2 q.1).bind λb=>(g a b).bind λz=>(dM z.1).bind λk =>
 if k=true then(fc q.2).bind λs=>(dr s.2 q.1).bind λb=>(dr s.2 s.1).bind λc=>(g' b c).bind λz=>.ok (.v z.1 z.2,s.2)else .ok (eB false,q.2)
theorem abn{r r':R2}{g g':G2}{ta tb tc:TE}{fa fb fc:EF}(o:f9 t.K r g)(o':f9 t.K r' g')(ng:∀a b c,g a b ≠ .ex c)(ng':∀a b c,g' a b ≠ .ex c)(ha:SE t ta fa)(hb:SE t tb fb)(hc:SE t tc fc):SE t (Bv r r' ta tb tc) (rZ g g' fa fb fc):=λW ρ σ H Q e h=>by
 refine ha W ρ σ H _ e (Rs.aY (Rs.aR h) λp h x H1 e1 s1 v1=>?_)
 refine hb W p.2 σ H1 _ e1 (Rs.aY (Rs.aR h) λq h y H2 e2 s2 v2=>?_)
 obtain⟨a,k1,h⟩:=eE (Rs.aR h) (jY _ _)
 obtain⟨b,k2,h⟩:=eE (Rs.aR h) (jY _ _)
 refine o W x y a b H2 _ e2.wl (jX e2 e.wn (v1.1.step e.wn s2) k1) (jX e2 e1.wn v2.1 k2) (Rs.aY (jB (Rs.aR h) (ng a b)) λz h v H3 s3 v3=>?_)
 obtain⟨k,k3,h⟩:=eE (Rs.aR h) (Rj _)
 have e3:=e2.grow s3
 have b3:v=.bl k:=Rk (.inl (dJ.rep (σ:=[]) e2.wn v3)) k3
 refine⟨k,b3,?_⟩
 split at h
 ·rename_i c
  rw[if_pos c]
  refine hc W q.2 σ H3 _ e3 (Rs.aY (Rs.aR h) λu h w H4 e4 s4 v4=>?_)
  obtain⟨b',k4,h⟩:=eE (Rs.aR h) (jY _ _)
  obtain⟨c',k5,h⟩:=eE (Rs.aR h) (jY _ _)
  refine o' W y w b' c' H4 _ e4.wl (jX e4 e1.wn ((v2.1.step e1.wn (bL.of s3)).step e1.wn s4) k4) (jX e4 e3.wn v4.1 k5) (Rs.aY (jB (Rs.aR h) (ng' b' c')) λz h v H5 s5 v5=>?_)
  have st:bL W H H4:=(s1.trans (s2.trans (bL.of s3))).trans s4
  exact h v H5 (e4.grow s5) (st.trans (bL.of s5)) ((gJ.of e4 s5 v5).back st.dom)
 ·rename_i c
  rw[if_neg c]
  exact h _ H3 e3 ((s1.trans s2).trans (bL.of s3)) (.low (.bl false))
abbrev OF:=En->Rs (Option Int × En)
def SO(t:Tx)(te:TO)(f:OF):Prop:=∀W ρ σ H Q,aH t W ρ σ H->(f ρ).post t.EX (λp=>∀H',aH t W p.2 σ H'->bL W H H'->Q p.1 H')->te σ H Q
def uG:OF:=λρ=>.ok (none,ρ)
theorem Rn:SO t PX uG:=λW ρ σ H Q e h=>h H e (bL.refl _ _)
def qe:Tr->Rs Int
 |.int i=>.ok i
 |_=>.bad
theorem abo(a:Tr)(c:Str):qe a ≠ .ex c:=by cases a <;> (intro z; cases z)
theorem abp{K:FZ}{W:Addr->Prop}{H:Hp}{v:V}{a:Tr}{b:Int}(h:Rp K W H v a)(q:qe a=.ok b):v=.int b:=by
 cases a <;> cases q
 exact h.int
def uH(fa:EF):OF:=λρ=>(fa ρ).bind λp=>(dr p.2 p.1).bind λa=>(qe a).bind λb=>.ok (some b,p.2)
theorem Ro{ta:TE}{fa:EF}(ha:SE t ta fa):SO t (Hl ta) (uH fa):=λW ρ σ H Q e h=>by
 refine ha W ρ σ H _ e (Rs.aY (Rs.aR h) λp h x H1 e1 s1 v1=>?_)
 obtain⟨a,k1,h⟩:=eE (Rs.aR h) (jY _ _)
 obtain⟨b,k2,h⟩:=eE (Rs.aR h) (abo _)
 exact⟨b,abp (jX e1 e.wn v1.1 k1) k2,h H1 e1 s1⟩
def cut{α : Type}(xs:List α)(lo hi:Option Int):List α := (xs.drop (HT.bQ xs.length 0 lo)).take (HT.bQ xs.length xs.length hi-HT.bQ xs.length 0 lo)
theorem aF.cut{K:FZ}{H:Hp}{xs:List V}{ts:List Tr}(r:aF K H xs ts)(lo hi:Option Int):aF K H (rH xs lo hi) (L2.cut ts lo hi):=by
 unfold rH L2.cut
 rw[r.length]
 exact(r.drop _).take _
def Rq(K:FZ):V->Option Int->Option Int->Hp->VK->Prop:=λx lo hi H Q=>Qm K x lo hi H Q\/Qe K x lo hi H Q\/QH x lo hi H Q
theorem Rr{X:Cx}:m6 X (Rq X.K):=m6.or Z9 (m6.or ZX aau)
noncomputable def su(lo hi:Option Int):G1
 |.lst ts=>.ok (.lst (cut ts lo hi),true)
 |.tup ts=>if ¬(HT.bQ ts.length 0 lo=0/\HT.bQ ts.length ts.length hi=ts.length)then .ok (.tup (cut ts lo hi),false)else .bad
 |.str z=>if z.length<=100000 then .ok (.str (Txt.slice z lo hi),false)else .bad
 |_=>.bad
theorem abq(lo hi:Option Int)(a:Tr)(c:Str):su lo hi a ≠ .ex c:=by
 cases a <;> dsimp only[su] <;> (try split) <;> (intro z; cases z)
def uJ(fa:EF)(fl fh:OF):EF:=λρ=>(fa ρ).bind λp=>(fl p.2).bind λl=>(fh l.2).bind λh=>(dr h.2 p.1).bind λa=>(su l.1 h.1 a).bind λz=>.ok (.v z.1 z.2,h.2)
theorem Rt{K:FZ}(hK:t.K=aD K){ta:TE}{tl th:TO}{fa:EF}{fl fh:OF}(ha:SE t ta fa)(hl:SO t tl fl)(hh:SO t th fh):SE t (Qa (Rq K) ta tl th) (uJ fa fl fh):=λW ρ σ H Q e h=>by
 refine ha W ρ σ H _ e (Rs.aY (Rs.aR h) λp h x H1 e1 s1 v1=>?_)
 refine hl W p.2 σ H1 _ e1 (Rs.aY (Rs.aR h) λl h H2 e2 s2=>?_)
 refine hh W l.2 σ H2 _ e2 (Rs.aY (Rs.aR h) λu h H3 e3 s3=>?_)
 obtain⟨a,k1,h⟩:=eE (Rs.aR h) (jY _ _)
 obtain⟨z,k2,h⟩:=eE (Rs.aR h) (abq _ _ _)
 have st:bL W H H3:=s1.trans (s2.trans s3)
 have rx:=jX e3 e.wn (v1.1.step e.wn (s2.trans s3)) k1
 rw[hK]at rx
 cases a with
 |cO c=>cases k2
 |lst ts =>
  cases k2
  obtain⟨b,xs,rfl,q,r⟩:=rx.lst
  refine .inl ⟨b,xs,rfl,q.toK,λy hy=>h _ _ (e3.grow (dW hy _)) (st.trans (bL.of (dW hy _))) ?_⟩
  rw[<-hK]at r
  exact(gJ.of (σ' := σ) e3 (dW hy _) (dJ.new hy (r.cut _ _))).back st.dom
 |tup ts =>
  dsimp only[su]at k2
  split at k2
  ·rename_i c
   cases k2
   obtain⟨b,xs,rfl,q,r⟩:=rx.tup
   refine .inr (.inl ⟨b,xs,rfl,q.toK,by rw[r.length]; exact c,λy hy=>h _ _ (e3.grow (dW hy _)) (st.trans (bL.of (dW hy _))) ?_⟩)
   rw[<-hK]at r
   exact .low (dJ.newT (σ := σ) (W:=W) e3.wl hy (r.cut _ _))
  ·cases k2
 |str i =>
  dsimp only[su]at k2
  split at k2
  ·rename_i c
   cases k2
   rw[rx.str]
   exact .inr (.inr ⟨i,rfl,big c,h _ H3 e3 st (.low (.str _))⟩)
  ·cases k2
 |non=>cases k2
 |bl i=>cases k2
 |int i=>cases k2
abbrev GN:=List Tr->Rs (Tr × Bool)
def Ru(K:FZ)(r:List V->Hp->VK->Prop)(g:GN):Prop:=∀W xs as H Q,(∀b,W b->Lt H b)->rT K W H xs as->(g as).post (λ_=>False) (λp=>∀v H',Same H H'->dJ K W [] H H' v (.v p.1 p.2)->Q v H')->r xs H Q
def bK(g:GN)(fa:AF):EF:=λρ=>(fa ρ).bind λp=>(drs p.2 p.1).bind λas=>(g as).bind λz=>.ok (.v z.1 z.2,p.2)
theorem Cv{r:List V->Hp->VK->Prop}{g:GN}{ta:TA}{fa:AF}(o:Ru t.K r g)(ng:∀as c,g as ≠ .ex c)(ha:SA t ta fa):SE t (jm r ta) (bK g fa):=λW ρ σ H Q e h=>by
 refine ha W ρ σ H _ e (Rs.aY (Rs.aR h) λp h xs H1 e1 s1 v1=>?_)
 obtain⟨as,k1,h⟩:=eE (Rs.aR h) (Cq _ _)
 refine o W xs as H1 Q e1.wl (Cr e1 e.wn v1 k1) (Rs.aY (jB (Rs.aR h) (ng as)) λz h v H2 s2 v2=>?_)
 exact h v H2 (e1.grow s2) (s1.trans (bL.of s2)) ((gJ.of e1 s2 v2).back s1.dom)
def g1(g:G1):GN
 | [a]=>g a
 |_=>.bad
theorem Cw{g:G1}(h:∀a c,g a ≠ .ex c)(as:List Tr)(c:Str):g1 g as ≠ .ex c:=by
 match as with
 | []=>intro z; cases z
 | [a]=>exact h a c
 |_::_::_=>intro z; cases z
theorem Cy{K:FZ}{r:List V->Hp->VK->Prop}{g:G1}(h:rY K (λx=>r [x]) g):Ru K r (g1 g):=λW xs as H Q hw rs q=>by
 cases rs with
 |nil=>exact q.elim
 |cons h1 r1 =>
  cases r1 with
  |nil=>exact h W _ _ H Q hw h1 q
  |cons _ _=>exact q.elim
def g2(g:G2):GN
 | [a,b]=>g a b
 |_=>.bad
end
section
variable {K:FZ}
def Ja(K:FZ):List V->Hp->VK->Prop:=λxs H Q=>(∃p ys,xs=[.ref p]/\(bZ K H p ys\/cV K H p ys)/\Q (.int ys.length) H)\/(∃z,xs=[.str z]/\z.length<=sizeLine/\Q (.int z.length) H)
theorem gO{X:Cx}:iH X (.builtin "len") (Ja X.K):=iH.or aac aad
def bM:G1
 |.lst ts=>.ok (.int ts.length,false)
 |.tup ts=>.ok (.int ts.length,false)
 |.str z=>if z.length<=100000 then .ok (.int z.length,false)else .bad
 |_=>.bad
theorem abr:rY (aD K) (λx=>Ja K [x]) bM:=λW x a H Q hw rx h=>by
 cases a <;> try exact h.elim
 ·rename_i z
  dsimp only[bM]at h
  split at h
  ·rename_i e
   rw[rx.str]
   exact .inr ⟨z,rfl,big e,h _ H (Same.refl _) (.gF (.int _))⟩
  ·exact h.elim
 ·obtain⟨p,xs,rfl,q,r⟩:=rx.tup
  refine .inl ⟨p,xs,rfl,.inr q.toK,?_⟩
  rw[r.length]
  exact h _ H (Same.refl _) (.gF (.int _))
 ·obtain⟨p,xs,rfl,q,r⟩:=rx.lst
  refine .inl ⟨p,xs,rfl,.inl q.toK,?_⟩
  rw[r.length]
  exact h _ H (Same.refl _) (.gF (.int _))
def lY:G1
 |.int i=>.ok (.int (if i<0 then -i else i),false)
 |_=>.bad
theorem abt:rY K (λx H Q=>∃i,[x]=[V.int i]/\Q (.int (if i<0 then -i else i)) H) lY:=λW x a H Q hw rx h=>by
 cases a <;> try exact h.elim
 rw[rx.int]
 exact⟨_,rfl,h _ H (Same.refl _) (.gF (.int _))⟩
def abu:G1
 |.lst ts=>.ok (.lst ts,true)
 |.tup ts=>.ok (.lst ts,true)
 |_=>.bad
def abv:G1
 |.lst ts=>.ok (.tup ts,false)
 |.tup ts=>.ok (.tup ts,false)
 |_=>.bad
def abw:G2
 |.int i,.int j=>.ok (.int (if j<i then j else i),false)
 |_,_=>.bad
def abx:G2
 |.int i,.int j=>.ok (.int (if j > i then j else i),false)
 |_,_=>.bad
def qg:List Tr->Option (List Bool)
 | []=>some []
 |.bl i::r=>(qg r).map (i :: ·)
 |_::_=>none
theorem Rw{H:Hp}:∀{ts:List Tr} {ns:List Bool} {xs:List V},qg ts=some ns->aF K H xs ts->xs=ns.map V.bl
 | [],ns,xs,h,r=>by cases h; cases r; rfl
 |.bl i::q,ns,xs,h,r=>by
  unfold qg at h
  cases e:qg q with
  |none=>rw[e]at h; cases h
  |some ms =>
   rw[e]at h
   cases h
   cases r with
   |cons h1 r1 =>
    cases h1
    rw[Rw e r1]
    rfl
 |.non::q,ns,xs,h,r=>by cases h
 |.int _::q,ns,xs,h,r=>by cases h
 |.str _::q,ns,xs,h,r=>by cases h
 |.tup _::q,ns,xs,h,r=>by cases h
 |.lst _::q,ns,xs,h,r=>by cases h
def gG:G1
 |.lst ts=>match qg ts with
  |some bs=>.ok (.bl (bs.all id),false)
  |none=>.bad
 |_=>.bad
theorem aby:rY (aD K) (λx=>Ia K [x]) gG:=λW x a H Q hw rx h=>by
 cases a <;> try exact h.elim
 dsimp only[gG]at h
 split at h
 ·rename_i bs e
  obtain⟨p,xs,rfl,q,r⟩:=rx.lst
  have z:=Rw e r
  subst z
  exact⟨p,bs,rfl,q.toK,h _ H (Same.refl _) (.gF (.bl _))⟩
 ·exact h.elim
def lC(c:Ty)(fa:EF):EF:=λρ=>(fa ρ).bind λp=>(dr p.2 p.1).bind λa=>.ok (eB (iZ a c),p.2)
theorem Rx{t:Tx}(hK:t.K=aD K)(c:Ty){ta:TE}{fa:EF}(ha:SE t ta fa):SE t (jm (BZ K) (kY ta (kY (tC (.ty c.name)) kW))) (lC c fa):=λW ρ σ H Q e h=>by
 refine ha W ρ σ H _ e (Rs.aY (Rs.aR h) λp h x H1 e1 s1 v1=>?_)
 obtain⟨a,k1,h⟩:=eE (Rs.aR h) (jY _ _)
 have r:=jX e1 e.wn v1.1 k1
 rw[hK]at r
 exact⟨x,a,c,rfl,r.rep.toK,h _ H1 e1 s1 (.low (.bl _))⟩
end
inductive Fl where
 |nx|rt (T:Tr) (fr:Bool)|bk|ct
abbrev SF:=En->Rs (Fl × En)
def dF(W:Addr->Prop)(H:Hp)(W':Addr->Prop)(H':Hp):Prop:=∀b o,¬W b->H b=some o->¬W' b/\H' b=some o
theorem dF.refl(W:Addr->Prop)(H:Hp):dF W H W H:=λ_ _ n h=>⟨n,h⟩
theorem dF.trans{W W1 W2:Addr->Prop}{H H1 H2:Hp}(a:dF W H W1 H1)(b:dF W1 H1 W2 H2):dF W H W2 H2:=λc o n h=>by
 obtain⟨n1,h1⟩:=a c o n h
 exact b c o n1 h1
theorem bL.nxt{W:Addr->Prop}{H H':Hp}(s:bL W H H'):dF W H W H':=λb o n h=>⟨n,s.keep b o n h⟩
theorem dF.same{W W':Addr->Prop}{H H':Hp}(a:dF W H W' H'):Same (aN W H) (aN W' H'):=λb o h=>by
 obtain⟨n,h⟩:=jW h
 obtain⟨n',h'⟩:=a b o n h
 rw[gj n']
 exact h'
def VR(t:Tx)(H':Hp)(v:V)(T:Tr):Bool->Prop
 |false=>Rep t.K (aN t.Z H') v T
 |true=>∃a xs ts,v=.ref a/\T=.lst ts/\t.H0 a=none/\H' a=some (.lst xs)/\aF t.K (off a (aN t.Z H')) xs ts
noncomputable def sy(t:Tx)(W:Addr->Prop)(H:Hp)(D:Ends)(p:Fl × En):Prop:=match p.1 with
 |.nx=>∀W' σ' H',aH t W' p.2 σ' H'->dF W H W' H'->D.nx σ' H'
 |.rt T fr=>∀v W' σ' H',aH t W' p.2 σ' H'->VR t H' v T fr->D.rt v H'
 |.bk=>∀W' σ' H',aH t W' p.2 σ' H'->dF W H W' H'->D.bk σ' H'
 |.ct=>∀W' σ' H',aH t W' p.2 σ' H'->dF W H W' H'->D.ct σ' H'
def SS(t:Tx)(ts:TS)(f:SF):Prop:=∀W ρ σ H D,aH t W ρ σ H->(f ρ).post t.EX (sy t W H D)->ts D σ H
theorem sy.back{t:Tx}{W W':Addr->Prop}{H H':Hp}{D:Ends}{p:Fl × En}(h:sy t W H D p)(n:dF W H W' H'):sy t W' H' D p:=by
 obtain⟨fl,ρ⟩:=p
 cases fl with
 |nx=>exact λW2 σ2 H2 e m=>h W2 σ2 H2 e (n.trans m)
 |rt T fr=>exact h
 |bk=>exact λW2 σ2 H2 e m=>h W2 σ2 H2 e (n.trans m)
 |ct=>exact λW2 σ2 H2 e m=>h W2 σ2 H2 e (n.trans m)
section
variable {t:Tx}
def cB:SF:=λρ=>.ok (.nx,ρ)
theorem jH:SS t Bf cB:=λW ρ σ H D e h=>h W σ H e (dF.refl _ _)
def aJ(f g:SF):SF:=λρ=>(f ρ).bind λp=>match p.1 with
 |.nx=>g p.2
 |fl=>.ok (fl,p.2)
theorem dw{ta tb:TS}{f g:SF}(h1:SS t ta f)(h2:SS t tb g):SS t (oE ta tb) (aJ f g):=λW ρ σ H D e h=>by
 refine h1 W ρ σ H _ e (Rs.aY (Rs.aR h) λp h=>?_)
 obtain⟨fl,ρ1⟩:=p
 cases fl with
 |nx=>exact λW1 σ1 H1 e1 n1=>h2 W1 ρ1 σ1 H1 D e1 (Rs.aY h λq h=>h.back n1)
 |rt T fr=>exact h
 |bk=>exact h
 |ct=>exact h
theorem get_set{α : Type}{l:List α}{i j:Nat}{a b : α}(h:(l.set i a)[j]?=some b):(j=i/\b=a/\i<l.length)\/(j≠i/\l[j]?=some b):=by
 by_cases e:i=j
 ·subst e
  rw[List.getElem?_set_self']at h
  cases q:l[i]? with
  |none=>rw[q]at h; cases h
  |some c =>
   rw[q]at h
   cases h
   exact .inl ⟨rfl,rfl,(List.getElem?_eq_some_iff.mp q).1⟩
 ·rw[List.getElem?_set_ne e]at h
  exact .inr ⟨Ne.symm e,h⟩
theorem uK{α : Type}{l:List α}{i:Nat}{a : α}(h:i<l.length):(l.set i a)[i]?=some a:=by
 rw[List.getElem?_set_self' ,List.getElem?_eq_getElem h]
 rfl
theorem aH.Jb{W:Addr->Prop}{ρ : En}{σ : St}{H:Hp}{i:Nat}{v:V}{T:Tr}(e:aH t W ρ σ H)(r:Rep t.K (aN W H) v T):aH t W (ρ.set i (.sh T)) (σ.set i (some v)) H:=by
 have mu:∀j,Mu (ρ.set i (.sh T)) j->j≠i/\Mu ρ j:=λj h=>by
  obtain⟨ts,h|h⟩:=h <;> rcases get_set h with⟨rfl,z,_⟩|⟨ne,h⟩
  ·cases z
  ·exact⟨ne,ts,.inl h⟩
  ·cases z
  ·exact⟨ne,ts,.inr h⟩
 have gC:∀j us,(ρ.set i (.sh T))[j]?=some (.dp us)->j≠i/\ρ[j]?=some (.dp us):=λj us h=>by
  rcases get_set h with⟨rfl,z,_⟩|⟨ne,h⟩
  ·cases z
  ·exact⟨ne,h⟩
 obtain⟨F,e⟩:=e
 refine⟨F,by rw[List.length_set,List.length_set]; exact e.len,e.zw,e.z0,e.wl,e.f0,e.n0,λj u h=>?_,λj ts h=>?_,λj ts h=>?_,λj k a h1 h2 q1 q2=>?_,e.pn,λj a m q=>e.pd j a (mu j m).2 (by rw[List.getElem?_set_ne (Ne.symm (mu j m).1)]at q; exact q),
  λj us h=>?_,λj k us ws n h1 h2=>e.dd j k us ws n (gC j us h1).2 (gC k ws h2).2,λj k us c h1 m q=>e.dm j k us c (gC j us h1).2 (mu k m).2 (by rw[List.getElem?_set_ne (Ne.symm (mu k m).1)]at q; exact q),λj us h=>e.db j us (gC j us h).2,e.tab⟩
 ·rcases get_set h with⟨rfl,z,l⟩|⟨ne,h⟩
  ·cases z
   exact⟨v,uK (by rw[<-e.len]; exact l),r⟩
  ·obtain⟨w,h1,h2⟩:=e.sh j u h
   exact⟨w,by rw[List.getElem?_set_ne (Ne.symm ne)]; exact h1,h2⟩
 ·rcases get_set h with⟨rfl,z,l⟩|⟨ne,h⟩
  ·cases z
  ·obtain⟨a,xs,h1,h2⟩:=e.ow j ts h
   exact⟨a,xs,by rw[List.getElem?_set_ne (Ne.symm ne)]; exact h1,h2⟩
 ·rcases get_set h with⟨rfl,z,l⟩|⟨ne,h⟩
  ·cases z
  ·obtain⟨a,xs,h1,h2⟩:=e.rf j ts h
   exact⟨a,xs,by rw[List.getElem?_set_ne (Ne.symm ne)]; exact h1,h2⟩
 ·obtain⟨n1,m1⟩:=mu j h1
  obtain⟨n2,m2⟩:=mu k h2
  rw[List.getElem?_set_ne (Ne.symm n1)]at q1
  rw[List.getElem?_set_ne (Ne.symm n2)]at q2
  exact e.dis j k a m1 m2 q1 q2
 ·obtain⟨ne,h⟩:=gC j us h
  obtain⟨c,ys,h1,d⟩:=e.dp j us h
  exact⟨c,ys,by rw[List.getElem?_set_ne (Ne.symm ne)]; exact h1,d⟩
theorem aH.addr{W:Addr->Prop}{ρ : En}{σ : St}{H:Hp}{i:Nat}{a:Addr}(e:aH t W ρ σ H)(m:Mu ρ i)(q : σ[i]?=some (some (.ref a))):W a:=by
 obtain⟨ts,h|h⟩:=m
 ·obtain⟨b,xs,h1,h2,_⟩:=e.ow i ts h
  rw[q]at h1
  cases h1
  exact h2
 ·obtain⟨b,xs,h1,h2,_⟩:=e.rf i ts h
  rw[q]at h1
  cases h1
  exact h2
theorem aH.Ry{W:Addr->Prop}{ρ : En}{σ : St}{H:Hp}{i:Nat}{a:Addr}{xs:List V}{ts:List Tr}(e0:aH t W ρ σ H)(nw:¬W a)(e:rP t W a ρ σ H)(h0:t.H0 a=none)(hB:t.B a=none)(ha:H a=some (.lst xs))(r:aF t.K (off a (aN W H)) xs ts) :
  aH t (λb=>W b\/b=a) (ρ.set i (.ow ts)) (σ.set i (some (.ref a))) H:=by
 have mu:∀j,Mu (ρ.set i (.ow ts)) j->j=i\/(j≠i/\Mu ρ j):=λj h=>by
  obtain⟨ts,h|h⟩:=h <;> rcases get_set h with⟨rfl,z,_⟩|⟨ne,h⟩
  ·exact .inl rfl
  ·exact .inr ⟨ne,ts,.inl h⟩
  ·exact .inl rfl
  ·exact .inr ⟨ne,ts,.inr h⟩
 have m:Same (off a (aN W H)) (aN (λb=>W b\/b=a) H):=λb o q=>by
  obtain⟨ne,q⟩:=wH q
  obtain⟨n,q⟩:=jW q
  rw[gj]
  ·exact q
  ·rintro(z|z)
   ·exact n z
   ·exact ne z
 have gC:∀j us,(ρ.set i (.ow ts))[j]?=some (.dp us)->j≠i/\ρ[j]?=some (.dp us):=λj us h=>by
  rcases get_set h with⟨rfl,z,_⟩|⟨ne,h⟩
  ·cases z
  ·exact⟨ne,h⟩
 obtain⟨F,e,na⟩:=e
 refine⟨F,by rw[List.length_set,List.length_set]; exact e.len,e.zw,e.z0,e.wl,e.f0,e.n0,λj u h=>?_,λj us h=>?_,λj us h=>?_,λj k c h1 h2 q1 q2=>?_,e.pn,λj c m q=>?_,
  λj us h=>?_,λj k us ws n h1 h2=>e.dd j k us ws n (gC j us h1).2 (gC k ws h2).2,λj k us c h1 m q=>?_,λj us h=>e.db j us (gC j us h).2,e.tab⟩
 ·rcases get_set h with⟨rfl,z,l⟩|⟨ne,h⟩
  ·cases z
  ·obtain⟨w,h1,h2⟩:=e.sh j u h
   exact⟨w,by rw[List.getElem?_set_ne (Ne.symm ne)]; exact h1,h2⟩
 ·rcases get_set h with⟨rfl,z,l⟩|⟨ne,h⟩
  ·cases z
   exact⟨a,xs,uK (by rw[<-e.len]; exact l),.inr rfl,h0,ha,r.mono m⟩
  ·obtain⟨c,ys,h1,h2⟩:=e.ow j us h
   exact⟨c,ys,by rw[List.getElem?_set_ne (Ne.symm ne)]; exact h1,h2⟩
 ·rcases get_set h with⟨rfl,z,l⟩|⟨ne,h⟩
  ·cases z
  ·obtain⟨c,ys,h1,h2⟩:=e.rf j us h
   exact⟨c,ys,by rw[List.getElem?_set_ne (Ne.symm ne)]; exact h1,h2⟩
 ·have old:∀j,j≠i->Mu ρ j->(σ.set i (some (.ref a)))[j]? ≠ some (some (.ref a)):=λj ne m q=>by
   rw[List.getElem?_set_ne (Ne.symm ne)]at q
   exact nw (e0.addr m q)
  have self:∀c,(σ.set i (some (V.ref a)))[i]?=some (some (.ref c))->c=a:=λc q=>by
   rcases get_set q with⟨_,z,_⟩|⟨ne,_⟩
   ·cases z; rfl
   ·exact absurd rfl ne
  rcases mu j h1 with rfl|⟨n1,m1⟩ <;> rcases mu k h2 with rfl|⟨n2,m2⟩
  ·rfl
  ·have:=self c q1
   subst this
   exact(old k n2 m2 q2).elim
  ·have:=self c q2
   subst this
   exact(old j n1 m1 q1).elim
  ·rw[List.getElem?_set_ne (Ne.symm n1)]at q1
   rw[List.getElem?_set_ne (Ne.symm n2)]at q2
   exact e.dis j k c m1 m2 q1 q2
 ·rcases mu j m with rfl|⟨n1,m1⟩
  ·rcases get_set q with⟨_,z,_⟩|⟨ne,_⟩
   ·cases z; exact hB
   ·exact absurd rfl ne
  ·rw[List.getElem?_set_ne (Ne.symm n1)]at q
   exact e.pd j c m1 q
 ·obtain⟨ne,h⟩:=gC j us h
  obtain⟨c,ys,h1,d⟩:=e.dp j us h
  exact⟨c,ys,by rw[List.getElem?_set_ne (Ne.symm ne)]; exact h1,d⟩
 ·obtain⟨nj,hj⟩:=gC j us h1
  rcases mu k m with rfl|⟨n2,m2⟩
  ·rcases get_set q with⟨_,z,_⟩|⟨nk,_⟩
   ·cases z
    exact na j us hj
   ·exact absurd rfl nk
  ·rw[List.getElem?_set_ne (Ne.symm n2)]at q
   exact e.dm j k us c hj m2 q
theorem aH.Cz{W:Addr->Prop}{ρ : En}{σ : St}{H:Hp}{a:Addr}(e:aH t W ρ σ H)(n:H a=none):t.B a=none:=by
 cases q:t.B a with
 |none=>rfl
 |some o=>rw[e.pn a o q]at n; cases n
abbrev GF:=Tr->En->Rs En
def SG(t:Tx)(g:TG)(f:GF)(js:List Nat):Prop:=∀W ρ σ H v T Q,aH t W ρ σ H->Rep t.K (aN W H) v T->(f T ρ).post (λ_=>False) (λρ'=>∀σ',aH t W ρ' σ' H->(∀k,k∉js -> σ'[k]?=σ[k]?)->Q σ' H)->g v σ H Q
def gN(i:Nat):GF:=λT ρ=>.ok (ρ.set i (.sh T))
theorem cF(i:Nat):SG t (dU i) (gN i) [i]:=λW ρ σ H v T Q e r h=>h _ (e.Jb r) λk n=>List.getElem?_set_ne (λz=>n (by rw[z]; exact List.mem_singleton.mpr rfl))
abbrev nC:=List Tr->En->Rs En
def CG(t:Tx)(g:kJ)(f:nC)(js:List Nat):Prop:=∀W ρ σ H vs Ts Q,aH t W ρ σ H->aF t.K (aN W H) vs Ts->(f Ts ρ).post (λ_=>False) (λρ'=>∀σ',aH t W ρ' σ' H->(∀k,k∉js -> σ'[k]?=σ[k]?)->Q σ' H)->g vs σ H Q
def dz:nC:=λTs ρ=>match Ts with
 | []=>.ok ρ
 |_=>.bad
def bA(f:GF)(g:nC):nC:=λTs ρ=>match Ts with
 |T::r=>(f T ρ).bind λρ'=>g r ρ'
 | []=>.bad
theorem uL:CG t qY dz []:=λW ρ σ H vs Ts Q e r h=>by
 cases r with
 |nil=>exact⟨rfl,h σ e λ_ _=>rfl⟩
 |cons _ _=>exact h.elim
theorem jd{g:TG}{u:kJ}{f:GF}{fs:nC}{js ks:List Nat}(h1:SG t g f js)(h2:CG t u fs ks):CG t (jR g u) (bA f fs) (js++ks):=λW ρ σ H vs Ts Q e r h=>by
 cases r with
 |nil=>exact h.elim
 | @cons x T xs Ts r1 r2 =>
  refine⟨x,xs,rfl,h1 W ρ σ H x T _ e r1 (Rs.aY (Rs.aR h) λρ' h σ' e' n1=>?_)⟩
  refine h2 W ρ' σ' H xs Ts _ e' r2 (Rs.aY h λρ2 h σ2 e2 n2=>h σ2 e2 λk n=>?_)
  rw[List.mem_append,not_or]at n
  rw[n2 k n.2,n1 k n.1]
def gT(n:Nat)(f:nC):GF:=λT ρ=>match T with
 |.tup Ts=>if Ts.length=n then f Ts ρ else .bad
 |_=>.bad
theorem uM{K:FZ}(hK:t.K=aD K){n:Nat}{u:kJ}{fs:nC}{js:List Nat}(h2:CG t u fs js):SG t (qZ K n u) (gT n fs) js:=λW ρ σ H v T Q e r h=>by
 cases T <;> try exact h.elim
 rename_i Ts
 dsimp only[gT]at h
 split at h
 ·rename_i c
  cases r with
  | @tup a xs _ q r =>
   have q':=(iw W H).uy q
   rw[hK]at q'
   exact⟨a,xs,rfl,q'.toK,by rw[r.length]; exact c,h2 W ρ σ H xs Ts Q e r h⟩
 ·exact h.elim
def aV(f:EF)(g:GF):SF:=λρ=>(f ρ).bind λp=>match p.1 with
 |.v T _=>(g T p.2).bind λρ'=>.ok (.nx,ρ')
 |.s _=>.bad
theorem gP{te:TE}{g:TG}{f:EF}{gf:GF}{js:List Nat}(h1:SE t te f)(h2:SG t g gf js)(ng:∀T ρ c,gf T ρ ≠ .ex c):SS t (lR te g) (aV f gf):=λW ρ σ H D e h=>by
 refine h1 W ρ σ H _ e (Rs.aY (Rs.aR h) λp h v H1 e1 s1 v1=>?_)
 obtain⟨r,ρ1⟩:=p
 cases r with
 |s i=>exact h.elim
 |v T fr=>exact h2 W ρ1 σ H1 v T _ e1 (v1.1.rep e.wn) (Rs.aY (jB (Rs.aR h) (ng T ρ1)) λρ' h σ' e' _=>h W σ' H1 e' s1.nxt)
def sE(i:Nat)(f:EF):SF:=λρ=>(f ρ).bind λp=>match p.1 with
 |.v (.lst ts) true=>.ok (.nx,p.2.set i (.ow ts))
 |_=>.bad
theorem Rz{te:TE}{f:EF}(i:Nat)(h1:SE t te f):SS t (lR te (dU i)) (sE i f):=λW ρ σ H D e h=>by
 refine h1 W ρ σ H _ e (Rs.aY (Rs.aR h) λp h v H1 e1 s1 v1=>?_)
 obtain⟨r,ρ1⟩:=p
 dsimp only at h
 split at h
 ·rename_i ts
  obtain⟨⟨a,xs,us,rfl,z,n,q,rr⟩,he⟩:=v1
  cases z
  have nw:¬W a:=λw=>e.wn a w n
  refine h _ _ H1 (e1.Ry nw (he _ a rfl rfl) (e.n0 a n) (e.Cz n) q rr) λb o nb hb=>⟨?_,s1.keep b o nb hb⟩
  rintro(z|rfl)
  ·exact nb z
  ·rw[n]at hb; cases hb
 ·exact h.elim
def je(f:EF):SF:=λρ=>(f ρ).bind λp=>.ok (.nx,p.2)
theorem yU{te:TE}{f:EF}(h1:SE t te f):SS t (yr te) (je f):=λW ρ σ H D e h =>
 h1 W ρ σ H _ e (Rs.aY (Rs.aR h) λp h v H1 e1 s1 v1=>h W σ H1 e1 s1.nxt)
def bB(f:EF):SF:=λρ=>(f ρ).bind λp=>match p.1 with
 |.v T fr=>.ok (.rt T fr,p.2)
 |.s i=>match p.2[i]? with
  |some (.ow ts)=>.ok (.rt (.lst ts) true,p.2)
  |_=>.bad
theorem Jc{W:Addr->Prop}{ρ : En}{σ : St}{H:Hp}(e:aH t W ρ σ H):Same (aN W H) (aN t.Z H):=wL (λb _ _ z=>e.zw b z) λ_ _ _ h=>h
theorem j4{te:TE}{f:EF}(h1:SE t te f):SS t (GK te) (bB f):=λW ρ σ H D e h=>by
 refine h1 W ρ σ H _ e (Rs.aY (Rs.aR h) λp h v H1 e1 s1 v1=>?_)
 obtain⟨r,ρ1⟩:=p
 cases r with
 |v T fr =>
  refine h v W σ H1 e1 ?_
  cases fr with
  |false=>exact Rep.mono (Jc e1) v1.1
  |true =>
   obtain⟨a,xs,us,rfl,z,n,q,rr⟩:=v1.1
   refine⟨a,xs,us,rfl,z,e.n0 a n,q,rr.mono λb o q=>?_⟩
   obtain⟨ne,q⟩:=wH q
   rw[off_ne ne]
   exact Jc e1 b o q
 |s i =>
  dsimp only at h
  split at h
  ·rename_i ts q
   obtain⟨a,xs,h1,h2,h3,h4,h5⟩:=e1.ow i ts q
   have ev : σ[i]?=some (some v):=v1.1
   rw[ev]at h1
   cases h1
   refine h _ W σ H1 e1 ⟨a,xs,ts,rfl,rfl,h3,h4,h5.mono λb o q=>?_⟩
   have ne:b≠a:=λz=>by subst z; rw[Ci h2]at q; cases q
   rw[off_ne ne]
   exact Jc e1 b o q
  ·exact h.elim
def cA(c:BF)(f g:SF):SF:=λρ=>(c ρ).bind λp=>if p.1=true then f p.2 else g p.2
theorem jJ{tc:TT}{ta tb:TS}{c:BF}{f g:SF}(hc:ST t tc c)(ha:SS t ta f)(hb:SS t tb g):SS t (Bg tc ta tb) (cA c f g):=λW ρ σ H D e h=>by
 refine hc W ρ σ H _ e (Rs.aY (Rs.aR h) λp h H1 e1 s1=>?_)
 split at h
 ·rename_i d
  refine if_pos d▸ha W p.2 σ H1 D e1 (Rs.aY h λq h=>h.back s1.nxt)
 ·rename_i d
  refine if_neg d▸hb W p.2 σ H1 D e1 (Rs.aY h λq h=>h.back s1.nxt)
def fJ(i:Nat)(ρ : En):En:=match ρ[i]? with
 |some (.ow ts)=>ρ.set i (.sh (.lst ts))
 |_=>ρ
end
section
variable {t:Tx}
theorem aH.fJ{W:Addr->Prop}{ρ : En}{σ : St}{H:Hp}(e:aH t W ρ σ H)(i:Nat):∃W',aH t W' (L2.fJ i ρ) σ H/\dF W H W' H:=by
 unfold L2.fJ
 split
 ·rename_i ts q
  obtain⟨a,xs,h1,h2,h3,h4,h5⟩:=e.ow i ts q
  have m:Same (aN W H) (aN (λb=>W b/\b≠a) H):=wL (λ_ _ _ z=>z.1) λ_ _ _ h=>h
  have mi:Mu ρ i:=⟨ts,.inl q⟩
  have mu:∀j,Mu (ρ.set i (.sh (.lst ts))) j->j≠i/\Mu ρ j:=λj h=>by
   obtain⟨us,h|h⟩:=h <;> rcases get_set h with⟨rfl,z,_⟩|⟨ne,h⟩
   ·cases z
   ·exact⟨ne,us,.inl h⟩
   ·cases z
   ·exact⟨ne,us,.inr h⟩
  have RB:∀j c,j≠i->Mu ρ j -> σ[j]?=some (some (.ref c))->c≠a:=λj c ne mj qj z=>by
   subst z
   exact ne (e.dis j i c mj mi qj h1)
  have gC:∀(j:Nat) (us:List Tr),(ρ.set i (.sh (.lst ts)))[j]?=some (Sl.dp us) -> ρ[j]?=some (Sl.dp us):=λj us h=>by
   rcases get_set h with⟨rfl,z,_⟩|⟨ne,h⟩
   ·cases z
   ·exact h
  obtain⟨F,e⟩:=e
  refine⟨λb=>W b/\b≠a,⟨F,by rw[List.length_set]; exact e.len,λb z=>⟨e.zw b z,λy=>?_⟩,e.z0,λb w=>e.wl b w.1,e.f0,e.n0,λj u h=>?_,λj us h=>?_,λj us h=>?_,λj k c m1 m2 q1 q2=>e.dis j k c (mu j m1).2 (mu k m2).2 q1 q2,e.pn,λj c m q=>e.pd j c (mu j m).2 q,λj us h=>?_,λj k us ws n h1 h2=>e.dd j k us ws n (gC j us h1) (gC k ws h2),λj k us c h1 m q=>e.dm j k us c (gC j us h1) (mu k m).2 q,λj us h=>e.db j us (gC j us h),e.tab.cut (D:=λb=>b=a) (λb z=>⟨xs,by rw[z]; exact h4⟩)⟩,λb o n h=>⟨λz=>n z.1,h⟩⟩
  ·subst y
   exact e.z0 b z h3
  ·rcases get_set h with⟨rfl,z,l⟩|⟨ne,h⟩
   ·cases z
    refine⟨.ref a,h1,.lst (bZ.of ?_) (h5.mono m)⟩
    rw[gj λz=>z.2 rfl]
    exact h4
   ·obtain⟨w,q1,q2⟩:=e.sh j u h
    exact⟨w,q1,q2.mono m⟩
  ·rcases get_set h with⟨rfl,z,l⟩|⟨ne,h⟩
   ·cases z
   ·obtain⟨c,ys,q1,q2,q3,q4,q5⟩:=e.ow j us h
    exact⟨c,ys,q1,⟨q2,RB j c ne ⟨us,.inl h⟩ q1⟩,q3,q4,q5.mono m⟩
  ·rcases get_set h with⟨rfl,z,l⟩|⟨ne,h⟩
   ·cases z
   ·obtain⟨c,ys,q1,q2,q3,q4,q5⟩:=e.rf j us h
    exact⟨c,ys,q1,⟨q2,RB j c ne ⟨us,.inr h⟩ q1⟩,q3,q4,q5.mono m⟩
  ·obtain⟨c,ys,q1,d⟩:=e.dp j us (gC j us h)
   exact⟨c,ys,q1,d.move rfl rfl m (λb hb=>⟨by obtain⟨_,_,_,ww,_⟩:=d; exact(ww b hb).1,λz=>by subst z; exact e.dm j i us b (gC j us h) mi h1 hb⟩) λ_ _ _ q=>q⟩
 ·exact⟨W,e,dF.refl _ _⟩
def CJ(i:Nat)(f:SF):SF:=λρ=>f (fJ i ρ)
theorem abz{ts:TS}{f:SF}(i:Nat)(h:SS t ts f):SS t ts (CJ i f):=λW ρ σ H D e q=>by
 obtain⟨W',e',n⟩:=e.fJ i
 exact h W' _ σ H D e' (Rs.aY q λp q=>q.back n)
def ql(c:BF)(b:SF):Nat->SF
 | 0=>λ_=>.bad
 | n + 1=>λρ => (c ρ).bind λp=>if p.1=true then (b p.2).bind λq=>(match q.1 with
  |.nx=>ql c b n q.2
  |.ct=>ql c b n q.2
  |.bk=>.ok (.nx,q.2)
  |.rt T fr=>.ok (.rt T fr,q.2))else .ok (.nx,p.2)
def oW(fu:En->Nat)(c:BF)(b:SF):SF:=λρ=>ql c b (fu ρ) ρ
theorem abA{tc:TT}{tb:TS}{c:BF}{b:SF}(fu:En->Nat)(hc:ST t tc c)(hb:SS t tb b):SS t (O3 tc tb) (oW fu c b):=λW ρ σ H D e h=>by
 refine⟨λm σ' H'=>∃ρ' W',aH t W' ρ' σ' H'/\(ql c b m ρ').post t.EX (sy t W' H' D),⟨fu ρ,ρ,W,e,h⟩,?_⟩
 rintro m σ1 H1 ⟨ρ1,W1,e1,h1⟩
 cases m with
 |zero=>exact h1.elim
 |succ n =>
  refine hc W1 ρ1 σ1 H1 _ e1 (Rs.aY (Rs.aR h1) λp h H2 e2 s2=>?_)
  split at h
  ·rename_i d
   rw[if_pos d]
   refine⟨λσ' H'=>∃ρ' W',aH t W' ρ' σ' H'/\(ql c b n ρ').post t.EX (sy t W' H' D),λσ' H' q=>⟨n,Nat.lt_succ_self n,q⟩,?_⟩
   refine hb W1 p.2 σ1 H2 _ e2 (Rs.aY (Rs.aR h) λq h=>?_)
   obtain⟨fl,ρ3⟩:=q
   cases fl with
   |nx=>exact λW3 σ3 H3 e3 n3=>⟨ρ3,W3,e3,Rs.aY h λr h=>h.back (s2.nxt.trans n3)⟩
   |ct=>exact λW3 σ3 H3 e3 n3=>⟨ρ3,W3,e3,Rs.aY h λr h=>h.back (s2.nxt.trans n3)⟩
   |bk=>exact λW3 σ3 H3 e3 n3=>h W3 σ3 H3 e3 (s2.nxt.trans n3)
   |rt T fr=>exact h
  ·rename_i d
   rw[if_neg d]
   exact h W1 σ1 H2 e2 s2.nxt
def wO(K:FZ)(W:Addr->Prop)(H:Hp)(J:It)(us:List Tr):Prop:=∀W' H',Same (aN W H) (aN W' H')->(∀b,W' b->Lt H' b)->∀i,(i=us.length->J.stop i H')/\∀u,us[i]?=some u->J.go i H'/\∀x dg,J.rm i H' x dg->Same H' dg/\Rep K (aN W' dg) x u
abbrev IF:=En->Rs (List Tr × En)
def SI(t:Tx)(wi:TI)(f:IF):Prop:=∀W ρ σ H R,aH t W ρ σ H->(f ρ).post t.EX (λp=>∀J H',aH t W p.2 σ H'->bL W H H'->wO t.K W H' J p.1->R J H')->wi σ H R
def fM(g:GF)(b:SF):List Tr->SF
 | []=>λρ=>.ok (.nx,ρ)
 | u :: us=>λρ => (g u ρ).bind λρ1=>(b ρ1).bind λq=>(match q.1 with
  |.nx=>fM g b us q.2
  |.ct=>fM g b us q.2
  |.bk=>.ok (.nx,q.2)
  |.rt T fr=>.ok (.rt T fr,q.2))
def fQ(fi:IF)(g:GF)(b:SF):SF:=λρ=>(fi ρ).bind λp=>fM g b p.1 p.2
theorem wQ{wi:TI}{g:TG}{tb:TS}{fi:IF}{gf:GF}{b:SF}{js:List Nat}(hi:SI t wi fi)(hg:SG t g gf js)(ng:∀T ρ c,gf T ρ ≠ .ex c)(hb:SS t tb b):SS t (Bj wi g tb) (fQ fi gf b):=λW ρ σ H D e h=>by
 refine hi W ρ σ H _ e (Rs.aY (Rs.aR h) λp h J H1 e1 s1 it=>?_)
 obtain⟨us,ρ1⟩:=p
 dsimp only at h it e1
 refine⟨λi m σ' H'=>m=us.length-i/\i<=us.length/\∃ρ' W',aH t W' ρ' σ' H'/\dF W H1 W' H'/\(fM gf b (us.drop i) ρ').post t.EX (sy t W' H' D),⟨us.length,by simp,Nat.zero_le _,ρ1,W,e1,dF.refl _ _,by rw[List.drop_zero]; exact Rs.aY h λr h=>h.back s1.nxt⟩,?_⟩
 rintro i m σ2 H2 ⟨rfl,hi,ρ2,W2,e2,n2,h2⟩
 have q:=it W2 H2 n2.same e2.wl i
 by_cases hlt:i<us.length
 ·rw[List.drop_eq_getElem_cons hlt]at h2
  obtain⟨go,y⟩:=q.2 us[i] (by simp[hlt])
  refine .inr ⟨go,λσ' H'=>∃ρ' W',aH t W' ρ' σ' H'/\dF W H1 W' H'/\(fM gf b (us.drop (i+1)) ρ').post t.EX (sy t W' H' D),λσ' H' z=>⟨us.length-(i+1),by omega,rfl,hlt,z⟩,λx H3 yl=>?_⟩
  obtain⟨s3,r3⟩:=y x H3 yl
  have e3:=e2.grow s3
  have n3:dF W H1 W2 H3:=n2.trans (bL.of s3).nxt
  refine hg W2 ρ2 σ2 H3 x us[i] _ e3 r3 (Rs.aY (jB (Rs.aR h2) (ng _ _)) λρ4 h σ4 e4 _=>?_)
  refine hb W2 ρ4 σ4 H3 _ e4 (Rs.aY (Rs.aR h) λr h=>?_)
  obtain⟨fl,ρ5⟩:=r
  cases fl with
  |nx=>exact λW5 σ5 H5 e5 n5=>⟨ρ5,W5,e5,n3.trans n5,Rs.aY h λr h=>h.back ((bL.of s3).nxt.trans n5)⟩
  |ct=>exact λW5 σ5 H5 e5 n5=>⟨ρ5,W5,e5,n3.trans n5,Rs.aY h λr h=>h.back ((bL.of s3).nxt.trans n5)⟩
  |bk=>exact λW5 σ5 H5 e5 n5=>h W5 σ5 H5 e5 ((bL.of s3).nxt.trans n5)
  |rt T fr=>exact h
 ·have z:i=us.length:=by omega
  subst z
  rw[List.drop_length]at h2
  exact .inl ⟨q.1 rfl,h2 W2 σ2 H2 e2 (dF.refl _ _)⟩
def Jd(K:FZ)(tl:TE):TI:=λσ H R=>O5 K tl σ H R\/O6 K tl σ H R
theorem jt{X:Cx}{tg l:Expr}{tl:TE}(hl:PE X l tl):PI X tg l (Jd X.K tl):=λpins s σ H R I h=>by
 rcases h with h|h
 ·exact Y9 hl pins s σ H R I h
 ·exact Za hl pins s σ H R I h
def sG:Rv->Rs (List Tr × Bool)
 |.v (.lst ts) _=>.ok (ts,true)
 |.v (.tup ts) _=>.ok (ts,false)
 |_=>.bad
def cW(f:EF):IF:=λρ=>(f ρ).bind λp=>(sG p.1).bind λz=>.ok (z.1,p.2)
theorem abB{K:FZ}{W:Addr->Prop}{H:Hp}{a:Addr}{xs:List V}{us:List Tr}(q:bZ (aD K) (aN W H) a xs)(r:aF (aD K) (aN W H) xs us):wO (aD K) W H (GZ K a) us:=λW' H' m hw i=>by
 have q':bZ K H' a xs:=((iw W' H').seq (m.seq q)).toK
 refine⟨λz=>⟨xs,q',by rw[r.length]; omega⟩,λu hu=>?_⟩
 obtain⟨x,hx,rx⟩:=r.rR hu
 refine⟨⟨xs,x,q',hx⟩,λy dg yl=>?_⟩
 obtain⟨rfl,z⟩:=yl
 have:=z xs q'
 rw[hx]at this
 cases this
 exact⟨Same.refl _,rx.mono m⟩
theorem abC{K:FZ}{W:Addr->Prop}{H:Hp}{a:Addr}{xs:List V}{us:List Tr}(q:cV (aD K) (aN W H) a xs)(r:aF (aD K) (aN W H) xs us):wO (aD K) W H (G3 K a) us:=λW' H' m hw i=>by
 have q':cV K H' a xs:=((iw W' H').uy (m.uy q)).toK
 refine⟨λz=>⟨xs,q',by rw[r.length]; omega⟩,λu hu=>?_⟩
 obtain⟨x,hx,rx⟩:=r.rR hu
 refine⟨⟨xs,x,q',hx⟩,λy dg yl=>?_⟩
 obtain⟨rfl,z⟩:=yl
 have:=z xs q'
 rw[hx]at this
 cases this
 exact⟨Same.refl _,rx.mono m⟩
theorem sH{K:FZ}(hK:t.K=aD K){tl:TE}{f:EF}(h1:SE t tl f):SI t (Jd K tl) (cW f):=λW ρ σ H R e h=>by
 have h:=Rs.aR h
 have key:∀b:Bool,(f ρ).post t.EX (λp=>∃us,sG p.1=.ok (us,b)/\∀J H',aH t W p.2 σ H'->bL W H H'->wO t.K W H' J us->R J H')->Jd K tl σ H R:=λb h=>by
  cases b with
  |true =>
   refine .inl (h1 W ρ σ H _ e (Rs.aY h λp h v H1 e1 s1 v1=>?_))
   obtain⟨us,q,h⟩:=h
   obtain⟨r,ρ1⟩:=p
   cases r with
   |s i=>cases q
   |v T fr =>
    cases T <;> cases q
    have rr:=v1.1.rep e.wn
    cases rr with
    | @lst a xs _ q r =>
     refine⟨a,rfl,⟨xs,?_⟩,h _ H1 e1 s1 ?_⟩
     ·rw[hK]at q
      exact((iw _ _).seq q).toK
     ·rw[hK]at q r ⊢
      exact abB q r
  |false =>
   refine .inr (h1 W ρ σ H _ e (Rs.aY h λp h v H1 e1 s1 v1=>?_))
   obtain⟨us,q,h⟩:=h
   obtain⟨r,ρ1⟩:=p
   cases r with
   |s i=>cases q
   |v T fr =>
    cases T <;> cases q
    have rr:=v1.1.rep e.wn
    cases rr with
    | @tup a xs _ q r =>
     refine⟨a,rfl,⟨xs,?_⟩,h _ H1 e1 s1 ?_⟩
     ·rw[hK]at q
      exact((iw _ _).uy q).toK
     ·rw[hK]at q r ⊢
      exact abC q r
 cases k:f ρ with
 |bad=>rw[k]at h; exact h.elim
 |ex c =>
  refine key true ?_
  rw[k]at h ⊢
  exact h
 |ok p =>
  rw[k]at h
  have h:((sG p.1).bind _).post _ _:=h
  cases k2:sG p.1 with
  |bad=>rw[k2]at h; exact h.elim
  |ex c =>
   exfalso
   revert k2
   unfold sG
   split <;> (intro z; cases z)
  |ok z =>
   rw[k2]at h
   refine key z.2 ?_
   rw[k]
   exact⟨z.1,k2,h⟩
def upTo(lo:Int):Nat->List Tr
 | 0=>[]
 |n+1=>.int lo::upTo (lo+1) n
theorem abD(lo:Int):∀n,(upTo lo n).length=n:=λn=>by
 induction n generalizing lo with
 |zero=>rfl
 |succ n ih=>rw[upTo,List.length_cons,ih]
theorem abE{lo:Int}{n i:Nat}{u:Tr}(h:(upTo lo n)[i]?=some u):i<n/\u=.int (lo+i):=by
 induction n generalizing lo i with
 |zero=>simp[upTo]at h
 |succ n ih =>
  rw[upTo]at h
  cases i with
  |zero =>
   simp at h
   subst h
   exact⟨Nat.zero_lt_succ _,by simp⟩
  |succ i =>
   obtain⟨h1,h2⟩:=ih (lo:=lo+1) (i:=i) (by simpa using h)
   refine⟨Nat.succ_lt_succ h1,h2.trans ?_⟩
   congr 1
   omega
theorem abF{K:FZ}{W:Addr->Prop}{H:Hp}(lo:Int)(n:Nat):wO K W H (kO lo n) (upTo lo n):=λW' H' m hw i=>by
 refine⟨λz=>?_,λu hu=>?_⟩
 ·rw[abD]at z
  exact Nat.le_of_eq z.symm
 ·obtain⟨h1,rfl⟩:=abE hu
  refine⟨h1,λx dg yl=>?_⟩
  obtain⟨rfl,rfl⟩:=yl
  exact⟨Same.refl _,.int _⟩
def okR(i:Int):Bool:=decide (-1000000<=i)&&decide (i<=1000000)
def fH(fa:AF):IF:=λρ=>(fa ρ).bind λp=>(drs p.2 p.1).bind λas=>match as with
 | [.int j]=>if okR j=true then .ok (upTo 0 j.toNat,p.2)else .bad
 |_=>.bad
theorem wR{ta:TA}{fa:AF}(ha:SA t ta fa):SI t (G4 ta) (fH fa):=λW ρ σ H R e h=>by
 refine ha W ρ σ H _ e (Rs.aY (Rs.aR h) λp h vs H1 e1 s1 v1=>?_)
 obtain⟨as,k1,h⟩:=eE (Rs.aR h) (Cq _ _)
 have r:=Cr e1 e.wn v1 k1
 split at h
 ·rename_i j
  split at h
  ·rename_i c
   unfold okR at c
   rw[Bool.and_eq_true]at c
   have c1:=of_decide_eq_true c.1
   have c2:=of_decide_eq_true c.2
   cases r with
   |cons h1 r1 =>
    cases r1
    rw[h1.int]
    exact⟨j,rfl,by omega,by omega,h _ H1 e1 s1 (abF 0 _)⟩
  ·exact h.elim
 ·exact h.elim
def abG(fa:AF):IF:=λρ=>(fa ρ).bind λp=>(drs p.2 p.1).bind λas=>match as with
 | [.int i,.int j]=>if okR i=true/\okR j=true then .ok (upTo i (j-i).toNat,p.2)else .bad
 |_=>.bad
def con(ρ : En)(i:Nat):Rs (List Tr):=match ρ[i]? with
 |some (.ow ts)=>.ok ts
 |some (.rf ts)=>.ok ts
 |_=>.bad
theorem Je(ρ : En)(i:Nat)(c:Str):con ρ i ≠ .ex c:=by
 unfold con
 split <;> (intro z; cases z)
def dN(i:Nat)(us:List Tr)(ρ : En):En:=match ρ[i]? with
 |some (.ow _)=>ρ.set i (.ow us)
 |some (.rf _)=>ρ.set i (.rf us)
 |_=>ρ
theorem aH.con{W:Addr->Prop}{ρ : En}{σ : St}{H:Hp}{i:Nat}{ts:List Tr}(e:aH t W ρ σ H)(q:con ρ i=.ok ts):Mu ρ i/\∃a xs,σ[i]?=some (some (.ref a))/\W a/\H a=some (.lst xs)/\aF t.K (aN W H) xs ts/\(∀o,t.H0 a=some o->t.R a):=by
 unfold L2.con at q
 split at q
 ·rename_i us h
  cases q
  obtain⟨a,xs,h1,h2,h3,h4,h5⟩:=e.ow i ts h
  exact⟨⟨ts,.inl h⟩,a,xs,h1,h2,h4,h5,λo z=>by rw[h3]at z; cases z⟩
 ·rename_i us h
  cases q
  obtain⟨a,xs,h1,h2,h3,h4,h5⟩:=e.rf i ts h
  exact⟨⟨ts,.inr h⟩,a,xs,h1,h2,h4,h5,λo z=>h3⟩
 ·cases q
theorem wU{ρ : En}{i j:Nat}{us:List Tr}(h:Mu (dN i us ρ) j):Mu ρ j:=by
 unfold dN at h
 split at h
 ·rename_i ws q
  obtain⟨ts,h|h⟩:=h <;> rcases get_set h with⟨rfl,z,_⟩|⟨ne,h⟩
  ·exact⟨_,.inl q⟩
  ·exact⟨_,.inl h⟩
  ·exact⟨_,.inl q⟩
  ·exact⟨_,.inr h⟩
 ·rename_i ws q
  obtain⟨ts,h|h⟩:=h <;> rcases get_set h with⟨rfl,z,_⟩|⟨ne,h⟩
  ·exact⟨_,.inr q⟩
  ·exact⟨_,.inl h⟩
  ·exact⟨_,.inr q⟩
  ·exact⟨_,.inr h⟩
 ·exact h
theorem Jf{ρ : En}{i:Nat}{us:List Tr}:(dN i us ρ).length = ρ.length:=by
 unfold dN
 split
 ·rw[List.length_set]
 ·rw[List.length_set]
 ·rfl
theorem uN{ρ : En}{i j:Nat}{us:List Tr}{s:Sl}(h:(dN i us ρ)[j]?=some s):(j≠i/\ρ[j]?=some s)\/(j=i/\((∃ts,ρ[i]?=some (.ow ts)/\s=.ow us)\/(∃ts,ρ[i]?=some (.rf ts)/\s=.rf us)\/(¬Mu ρ i/\ρ[i]?=some s))):=by
 unfold dN at h
 split at h
 ·rename_i ws q
  rcases get_set h with⟨rfl,z,_⟩|⟨ne,h⟩
  ·exact .inr ⟨rfl,.inl ⟨ws,q,z⟩⟩
  ·exact .inl ⟨ne,h⟩
 ·rename_i ws q
  rcases get_set h with⟨rfl,z,_⟩|⟨ne,h⟩
  ·exact .inr ⟨rfl,.inr (.inl ⟨ws,q,z⟩)⟩
  ·exact .inl ⟨ne,h⟩
 ·rename_i n1 n2
  by_cases e:j=i
  ·subst e
   refine .inr ⟨rfl,.inr (.inr ⟨?_,h⟩)⟩
   rintro⟨ts,z|z⟩
   ·exact n1 ts z
   ·exact n2 ts z
  ·exact .inl ⟨e,h⟩
theorem uO{ρ : En}{i j:Nat}{us ws:List Tr}(h:(dN i us ρ)[j]?=some (.dp ws)) : ρ[j]?=some (.dp ws):=by
 rcases uN h with⟨_,h⟩|⟨rfl,⟨_,_,z⟩|⟨_,_,z⟩|⟨_,h⟩⟩
 ·exact h
 ·cases z
 ·cases z
 ·exact h
theorem DR.lst{K:FZ}{G H:Hp}:∀{xs:List V} {ts:List Tr} {bs:List Addr},DR K G H xs ts bs->∀b∈bs,∃ys,H b=some (.lst ys)
 |_,_,_,.nil,_,h=>by cases h
 |_,_,_,.cl _ _ r,b,h=>DR.lst r b h
 |_,_,_,.rw q _ r,b,h=>by
  rcases List.mem_cons.mp h with rfl|h
  ·exact⟨_,q⟩
  ·exact DR.lst r b h
theorem rO.lst{t:Tx}{W:Addr->Prop}{H:Hp}{a:Addr}{xs:List V}{ts:List Tr}{fp:List Addr}(d:rO t W H a xs ts fp):∀b∈fp,∃ys,H b=some (.lst ys):=λb hb=>by
 obtain⟨bs,e,_,_,ha,r⟩:=d
 rw[e]at hb
 rcases List.mem_cons.mp hb with rfl|hb
 ·exact⟨_,ha⟩
 ·exact r.lst b hb
theorem rO.nt{t:Tx}{K:FZ}{W:Addr->Prop}{H:Hp}{a:Addr}{xs:List V}{ts:List Tr}{fp:List Addr}(d:rO t W H a xs ts fp)(tb:fG K H){b:Addr}(z:Tb K b)(hb:b∈fp):False:=by
 obtain⟨ys,e⟩:=d.lst b hb
 exact tb.ne z e rfl
theorem aH.RD{W:Addr->Prop}{ρ : En}{σ : St}{H:Hp}{i:Nat}{a:Addr}(e:aH t W ρ σ H)(m:Mu ρ i)(q : σ[i]?=some (some (.ref a))):∃xs,H a=some (.lst xs):=by
 obtain⟨ts,h|h⟩:=m
 ·obtain⟨b,xs,h1,_,_,h4,_⟩:=e.ow i ts h
  rw[q]at h1
  cases h1
  exact⟨xs,h4⟩
 ·obtain⟨b,xs,h1,_,_,h4,_⟩:=e.rf i ts h
  rw[q]at h1
  cases h1
  exact⟨xs,h4⟩
theorem EOF.move{W W':Addr->Prop}{ρ : En}{σ : St}{H H':Hp}{i:Nat}{a:Addr}{xs:List V}{us:List Tr}{F:Nat->List Addr}(e:EOF t W ρ σ H F)(mi:Mu ρ i)(hi : σ[i]?=some (some (.ref a)))(m:Same (aN W H) (aN W' H'))(sub:∀b,W b->W' b)(wl:∀b,W' b->Lt H' b)
  (tb:fG t.K H') (fr:∀b o,H b=some o->b≠a->¬Tb t.K b->H' b=some o) (dom:∀b,H' b=none->H b=none) (h0:∀o,t.H0 a=some o->t.R a) (ha:H' a=some (.lst xs)) (r:aF t.K (aN W' H') xs us):EOF t W' (dN i us ρ) σ H' F:=by
 have ne:∀j c,j≠i->Mu ρ j -> σ[j]?=some (some (.ref c))->c≠a:=λj c n mj q z=>by
  subst z
  exact n (e.dis j i c mj mi q hi)
 have nt:∀{c:Addr} {ys:List V},H c=some (.lst ys)->¬Tb t.K c:=λq z=>e.tab.ok.ne z q rfl
 refine⟨by rw[Jf]; exact e.len,λb z=>sub b (e.zw b z),e.z0,wl,λb o h n=>?_,λb h=>e.n0 b (dom b h),λj u h=>?_,λj ts h=>?_,λj ts h=>?_,λj k c h1 h2=>e.dis j k c (wU h1) (wU h2),λb o h=>fr b o (e.pn b o h) (λz=>by subst z; rw[e.pd i b mi hi]at h; cases h) (λz=>by rw[e.tab.B b z]at h; cases h),λj c m q=>e.pd j c (wU m) q,λj ws h=>?_,λj k ws zs n h1 h2=>e.dd j k ws zs n (uO h1) (uO h2),λj k ws c h1 m q=>e.dm j k ws c (uO h1) (wU m) q,λj ws h=>e.db j ws (uO h),⟨tb,λb z=>sub b (e.tab.w b z),e.tab.r,e.tab.B⟩⟩
 ·refine fr b o (e.f0 b o h n) (λz=>?_) λz=>n (e.tab.r b z)
  subst z
  exact n (h0 o h)
 ·rcases uN h with⟨n,h⟩|⟨rfl,⟨ts,q,z⟩|⟨ts,q,z⟩|⟨nm,h⟩⟩
  ·obtain⟨w,h1,h2⟩:=e.sh j u h
   exact⟨w,h1,h2.mono m⟩
  ·cases z
  ·cases z
  ·exact(nm mi).elim
 ·rcases uN h with⟨n,h⟩|⟨rfl,⟨ts',q,z⟩|⟨ts',q,z⟩|⟨nm,h⟩⟩
  ·obtain⟨c,ys,h1,h2,h3,h4,h5⟩:=e.ow j ts h
   exact⟨c,ys,h1,sub c h2,h3,fr c _ h4 (ne j c n ⟨ts,.inl h⟩ h1) (nt h4),h5.mono m⟩
  ·cases z
   obtain⟨c,ys,h1,h2,h3,h4,h5⟩:=e.ow j ts' q
   rw[hi]at h1
   cases h1
   exact⟨a,xs,hi,sub a h2,h3,ha,r⟩
  ·cases z
  ·exact(nm mi).elim
 ·rcases uN h with⟨n,h⟩|⟨rfl,⟨ts',q,z⟩|⟨ts',q,z⟩|⟨nm,h⟩⟩
  ·obtain⟨c,ys,h1,h2,h3,h4,h5⟩:=e.rf j ts h
   exact⟨c,ys,h1,sub c h2,h3,fr c _ h4 (ne j c n ⟨ts,.inr h⟩ h1) (nt h4),h5.mono m⟩
  ·cases z
  ·cases z
   obtain⟨c,ys,h1,h2,h3,h4,h5⟩:=e.rf j ts' q
   rw[hi]at h1
   cases h1
   exact⟨a,xs,hi,sub a h2,h3,ha,r⟩
  ·exact(nm mi).elim
 ·obtain⟨c,ys,h1,d⟩:=e.dp j ws (uO h)
  exact⟨c,ys,h1,d.move rfl rfl m (λb hb=>sub b (by obtain⟨_,_,_,ww,_⟩:=d; exact(ww b hb).1)) λb o hb q=>fr b o q (λz=>by subst z; exact e.dm j i ws b (uO h) mi hi hb) λz=>d.nt e.tab.ok z hb⟩
theorem aH.move{W W':Addr->Prop}{ρ : En}{σ : St}{H H':Hp}{i:Nat}{a:Addr}{xs:List V}{us:List Tr}(e:aH t W ρ σ H)(mi:Mu ρ i)(hi : σ[i]?=some (some (.ref a)))(m:Same (aN W H) (aN W' H'))(sub:∀b,W b->W' b)(wl:∀b,W' b->Lt H' b)
  (tb:fG t.K H') (fr:∀b o,H b=some o->b≠a->¬Tb t.K b->H' b=some o) (dom:∀b,H' b=none->H b=none) (h0:∀o,t.H0 a=some o->t.R a) (ha:H' a=some (.lst xs)) (r:aF t.K (aN W' H') xs us):aH t W' (dN i us ρ) σ H':=by
 obtain⟨F,e⟩:=e
 exact⟨F,e.move mi hi m sub wl tb fr dom h0 ha r⟩
theorem aH.put{W:Addr->Prop}{ρ : En}{σ : St}{H:Hp}{i:Nat}{a:Addr}{xs:List V}{us:List Tr}(e:aH t W ρ σ H)(mi:Mu ρ i)(hi : σ[i]?=some (some (.ref a)))(h0:∀o,t.H0 a=some o->t.R a)(r:aF t.K (aN W H) xs us):aH t W (dN i us ρ) σ (upd H a (.lst xs))/\bL W H (upd H a (.lst xs)):=by
 have w:=e.addr mi hi
 obtain⟨zs,hz⟩:=e.RD mi hi
 refine⟨e.move mi hi (by rw[oR w]; exact Same.refl _) (λ_ h=>h) (λb z=>?_) (e.tab.ok.upd hz) (λb o h n _=>by rw[bJ n]; exact h) (λb h=>?_) h0 eX (by rw[oR w]; exact r),⟨λb o n h=>?_,λb h=>?_⟩⟩
 ·by_cases q:b=a
  ·subst q; exact .inl ⟨xs,eX⟩
  ·unfold Lt; rw[bJ q]; exact e.wl b z
 ·by_cases q:b=a
  ·subst q; rw[eX]at h; cases h
  ·rw[bJ q]at h; exact h
 ·rw[bJ (λz=>n (by rw[z]; exact w))]; exact h
 ·by_cases q:b=a
  ·subst q; rw[eX]at h; cases h
  ·rw[bJ q]at h; exact h
abbrev GM:=List Tr->List Tr->Rs (List Tr × Tr)
noncomputable def CK(r:V->List V->Hp->VK->Prop)(m:GM):Prop:=∀(K:FZ) (G:Hp) a xs ts vs as H Q ts' T,H a=some (.lst xs)->aF K G xs ts->aF K G vs as->m ts as=.ok (ts',T)->(∀xs' v,aF K G xs' ts'->Rep K G v T->Q v (upd H a (.lst xs')))->r (.ref a) vs H Q
def lZ(i:Nat)(m:GM)(fa:AF):EF:=λρ=>(con ρ i).bind λ_=>(fa ρ).bind λp=>(cls p.1).bind λas=>(con p.2 i).bind λts=>(m ts as).bind λz=>.ok (.v z.2 false,dN i z.1 p.2)
theorem abH{K:FZ}{r:V->List V->Hp->VK->Prop}{m:GM}{ta:TA}{fa:AF}(i:Nat)(hm:CK r m)(ng:∀ts as c,m ts as ≠ .ex c)(ha:SA t ta fa):SE t (Ht K "list" r (kj i) ta) (lZ i m fa):=λW ρ σ H Q e h=>by
 obtain⟨us,k0,h⟩:=eE (Rs.aR h) (Je _ _)
 obtain⟨_,a,xs,hi,_,hx,_⟩:=e.con k0
 refine⟨_,hi,.inl ⟨rfl,xs,bZ.of hx⟩,?_⟩
 refine ha W ρ σ H _ e (Rs.aY (Rs.aR h) λp h vs H1 e1 s1 v1=>?_)
 obtain⟨as,k1,h⟩:=eE (Rs.aR h) (yR _)
 obtain⟨ts,k2,h⟩:=eE (Rs.aR h) (Je _ _)
 obtain⟨⟨ts',T⟩,k3,h⟩:=eE (Rs.aR h) (ng _ _)
 obtain⟨mi,a',ys,hi',w,hy,ry,h0⟩:=e1.con k2
 rw[hi]at hi'
 cases hi'
 refine hm t.K (aN W H1) a ys ts vs as H1 Q ts' T hy ry (yS e.wn v1 k1) k3 λxs' v r' rv=>?_
 obtain⟨e2,s2⟩:=e1.put mi hi h0 r'
 refine h v _ e2 (s1.trans s2) (.low ?_)
 rw[oR w]
 exact rv
def uP(i:Nat)(m:GM):EF:=λρ=>(con ρ i).bind λts=>(m ts []).bind λz=>.ok (.v z.2 false,dN i z.1 ρ)
theorem abI{K:FZ}{r:V->List V->Hp->VK->Prop}{m:GM}(i:Nat)(hm:CK r m)(ng:∀ts as c,m ts as ≠ .ex c):SE t (Hs K "list" r (kj i)) (uP i m):=λW ρ σ H Q e h=>by
 obtain⟨ts,k0,h⟩:=eE (Rs.aR h) (Je _ _)
 obtain⟨mi,a,xs,hi,w,hx,rx,h0⟩:=e.con k0
 obtain⟨⟨ts',T⟩,k3,h⟩:=eE (Rs.aR h) (ng _ _)
 refine⟨_,hi,.inl ⟨rfl,xs,bZ.of hx⟩,?_⟩
 refine hm t.K (aN W H) a xs ts [] [] H Q ts' T hx rx .nil k3 λxs' v r' rv=>?_
 obtain⟨e2,s2⟩:=e.put mi hi h0 r'
 refine h v _ e2 s2 (.low ?_)
 rw[oR w]
 exact rv
def jf:GM:=λts as=>match as with
 | [T]=>if ts.length<=100000 then .ok (ts++[T],.non)else .bad
 |_=>.bad
theorem abJ:CK Hw jf:=λK G a xs ts vs as H Q ts' T hx r ra q h=>by
 unfold jf at q
 split at q
 ·rename_i U
  split at q
  ·rename_i c
   cases q
   cases ra with
   |cons h1 r1 =>
    cases r1
    exact⟨a,xs,_,rfl,rfl,hx,Nat.lt_of_le_of_lt (by rw[r.length]; exact c) (by decide),h _ _ (r.app (.cons h1 .nil)) .non⟩
  ·cases q
 ·cases q
theorem abK(ts as:List Tr)(c:Str):jf ts as ≠ .ex c:=by
 unfold jf
 split <;> (try split) <;> (intro z; cases z)
noncomputable def abL(i:Nat)(fk fe:EF):SF:=λρ=>(fe ρ).bind λp=>(cls [p.1]).bind λTs=>(con p.2 i).bind λ_=>(fk p.2).bind λq=>(dr q.2 q.1).bind λkT=>(qe kT).bind λk=>(con q.2 i).bind λts=>match Ts,gh ts.length k with
 | [T],some j=>.ok (.nx,dN i (ts.set j T) q.2)
 |_,_=>.bad
def abM(i:Nat)(p:Int->Int->Int)(f:EF):SF:=λρ=>match ρ[i]? with
 |some (.sh (.int x))=>(f ρ).bind λq=>(dr q.2 q.1).bind λyT=>(qe yT).bind λy=>.ok (.nx,q.2.set i (.sh (.int (p x y))))
 |_=>.bad
def wV(i j:Nat)(fa:AF):SF:=λρ=>(fa ρ).bind λp=>(cls p.1).bind λTs=>match Ts with
 | [T,U]=>.ok (.nx,(p.2.set i (.sh T)).set j (.sh U))
 |_=>.bad
theorem abN{ta:TA}{fa:AF}(i j:Nat)(ha:SA t ta fa):SS t (O1 i j ta) (wV i j fa):=λW ρ σ H D e h=>by
 refine ha W ρ σ H _ e (Rs.aY (Rs.aR h) λp h vs H1 e1 s1 v1=>?_)
 obtain⟨Ts,k1,h⟩:=eE (Rs.aR h) (yR _)
 have r:=yS e.wn v1 k1
 split at h
 ·cases r with
  |cons h1 r1 =>
   cases r1 with
   |cons h2 r2 =>
    cases r2
    exact⟨_,_,rfl,h W _ H1 ((e1.Jb h1).Jb h2) s1.nxt⟩
 ·exact h.elim
def uQ(c:Str)(f:EF):SF:=λρ=>(f ρ).bind λ_=>.ex c
def F0(t:Tx)(H':Hp):Prop:=(∀b o,t.H0 b=some o->¬t.R b->H' b=some o)/\fG t.K H'
theorem yV{E:XK}{C:Addr}{te:TE}{f:EF}{c:Str}(hx:∀H',F0 t H'->t.EX c->E (.ref C) none H')(he:SE t te f):SS t (QM E C te) (uQ c f):=λW ρ σ H D e h =>
 he W ρ σ H _ e (Rs.aY (Rs.aR h) λp h v H1 e1 s1 v1=>⟨rfl,hx H1 ⟨e1.f0,e1.tab.ok⟩ h⟩)
end
mutual
noncomputable def uR:Tr->Bool
 |.tup ts=>lD ts
 |.lst _=>false
 |_=>true
noncomputable def lD:List Tr->Bool
 | []=>true
 |t::r=>uR t&&lD r
end
def CN(G G':Hp):Prop:=(∀b xs,(G b=some (.tup xs)->G' b=some (.tup xs))/\∀o,G b=some (.fJ o (.tup xs))->G' b=some (.fJ o (.tup xs)))/\∀b C,G b=some (iI b C)->G' b=some (iI b C)
mutual
theorem Rep.flat{K:FZ}{G G':Hp}(m:CN G G'):∀{v:V} {T:Tr},Rep K G v T->uR T=true->Rep K G' v T
 |_,_,.non,_=>.non
 |_,_,.bl b,_=>.bl b
 |_,_,.int i,_=>.int i
 |_,_,.str x,_=>.str x
 |_,_,.tup h r,n=>by
  refine .tup ?_ (aF.flat m r (by unfold uR at n; exact n))
  rcases h with(h|⟨o,h⟩)|h
  ·exact .inl (.inl ((m.1 _ _).1 h))
  ·exact .inl (.inr ⟨o,(m.1 _ _).2 o h⟩)
  ·exact .inr h
 |_,_,.lst h r,n=>by unfold uR at n; cases n
 |_,_,.cO h k n,_=>.cO (m.2 _ _ h) k n
theorem aF.flat{K:FZ}{G G':Hp}(m:CN G G'):∀{v:List V} {T:List Tr},aF K G v T->lD T=true->aF K G' v T
 |_,_,.nil,_=>.nil
 |_,_,.cons h r,n=>by
  unfold lD at n
  rw[Bool.and_eq_true]at n
  exact .cons (Rep.flat m h n.1) (aF.flat m r n.2)
end
theorem abO{W W':Addr->Prop}{H:Hp}(wl:∀b,W' b->Lt H b):CN (aN W H) (aN W' H):=by
 have key:∀b o,aN W H b=some o->(∀ys,o ≠ .lst ys)->(∀ys,o ≠ .cY ys)->(∀φ,o=.ext φ -> ¬∀C,HO.ext φ≠iI b C)->aN W' H b=some o:=λb o h n n' n2=>by
  obtain⟨_,h⟩:=jW h
  rw[gj]
  ·exact h
  ·intro w
   rcases wl b w with⟨ys,e⟩|⟨ys,e⟩|⟨ys,e,nq⟩ <;> (rw[h]at e; cases e)
   ·exact n ys rfl
   ·exact n' ys rfl
   ·exact n2 ys rfl nq
 exact⟨λb xs=>⟨λh=>key _ _ h (λys z=>by cases z) (λys z=>by cases z) (λys z=>by cases z),λo h=>key _ _ h (λys z=>by cases z) (λys z=>by cases z) (λys z=>by cases z)⟩,λb C h=>key _ _ h (λys z=>by cases z) (λys z=>by cases z) (λφ z q=>q C z.symm)⟩
theorem abP{a:Addr}{W:Addr->Prop}{H:Hp}{xs:List V}(wl:∀b,W b->Lt H b)(ha:H a=some (.lst xs))(G:Hp)(hG:∀b o,G b=some o->H b=some o):CN G (off a (aN W H)):=by
 have key:∀b o,G b=some o->(∀ys,o ≠ .lst ys)->(∀ys,o ≠ .cY ys)->(∀φ,o=.ext φ -> ¬∀C,HO.ext φ≠iI b C)->off a (aN W H) b=some o:=λb o h n n' n2=>by
  have h:=hG b o h
  rw[off_ne,gj]
  ·exact h
  ·intro w
   rcases wl b w with⟨ys,e⟩|⟨ys,e⟩|⟨ys,e,nq⟩ <;> (rw[h]at e; cases e)
   ·exact n ys rfl
   ·exact n' ys rfl
   ·exact n2 ys rfl nq
  ·rintro rfl
   rw[h]at ha
   cases ha
   exact n _ rfl
 exact⟨λb xs=>⟨λh=>key _ _ h (λys z=>by cases z) (λys z=>by cases z) (λys z=>by cases z),λo h=>key _ _ h (λys z=>by cases z) (λys z=>by cases z) (λys z=>by cases z)⟩,λb C h=>key _ _ h (λys z=>by cases z) (λys z=>by cases z) (λφ z q=>q C z.symm)⟩
def yW(K:FZ)(Z:Addr->Prop)(H H':Hp)(v:V)(T:Tr):Bool->Prop
 |false=>Rep K (aN Z H') v T
 |true=>∃a xs ts,v=.ref a/\T=.lst ts/\H a=none/\H' a=some (.lst xs)/\aF K (off a (aN Z H')) xs ts
def j5(K:FZ)(H H':Hp):Prop:=(∀b o,H b=some o->¬Tb K b->H' b=some o)/\fG K H'
theorem j5.dom{K:FZ}{H H':Hp}(s:j5 K H H'):∀b,H' b=none->H b=none:=λb h=>by
 cases q:H b with
 |none=>rfl
 |some o =>
  by_cases z:Tb K b
  ·obtain⟨ps,e⟩:=s.2.cY z
   rw[h]at e
   cases e
  ·rw[s.1 b o q z]at h
   cases h
def CP(G G':Hp):Prop:=∀b o,(∀ps,o ≠ .cY ps)->G b=some o->G' b=some o
theorem Rd.oX{G G':Hp}(m:CP G G'){a:Addr}{u:HO}(n:∀ps,u ≠ .cY ps)(h:Rd G a u):Rd G' a u:=by
 rcases h with h|⟨o,h⟩
 ·exact .inl (m _ _ n h)
 ·exact .inr ⟨o,m _ _ (λ_ z=>by cases z) h⟩
mutual
theorem Rep.oX{K:FZ}{G G':Hp}(m:CP G G'):∀{v:V} {T:Tr},Rep K G v T->Rep K G' v T
 |_,_,.non=>.non
 |_,_,.bl b=>.bl b
 |_,_,.int i=>.int i
 |_,_,.str x=>.str x
 |_,_,.tup h r=>by
  refine .tup ?_ (aF.oX m r)
  rcases h with h|h
  ·exact .inl (Rd.oX m (λ_ z=>by cases z) h)
  ·exact .inr h
 |_,_,.lst h r=>by
  refine .lst ?_ (aF.oX m r)
  rcases h with h|h
  ·exact .inl (Rd.oX m (λ_ z=>by cases z) h)
  ·exact .inr h
 |_,_,.cO h k n=>.cO (m _ _ (λ_ z=>by cases z) h) k n
theorem aF.oX{K:FZ}{G G':Hp}(m:CP G G'):∀{v:List V} {T:List Tr},aF K G v T->aF K G' v T
 |_,_,.nil=>.nil
 |_,_,.cons h r=>.cons (Rep.oX m h) (aF.oX m r)
end
theorem RG{K:FZ}{Z:Addr->Prop}{H:Hp}(tb:fG K H):CP (aN Z H) (aN (λb=>Z b\/Tb K b) H):=λb o n h=>by
 obtain⟨nz,h⟩:=jW h
 rw[gj]
 ·exact h
 ·rintro(z|z)
  ·exact nz z
  ·obtain⟨ps,e⟩:=tb.cY z
   rw[h]at e
   cases e
   exact n _ rfl
theorem aH.Jg{t:Tx}{W:Addr->Prop}{ρ : En}{σ : St}{H H':Hp}(e:aH t W ρ σ H)(s:j5 t.K H H'):aH t W ρ σ H'/\bL W H H':=by
 have st:bL W H H':=⟨λb o n q=>s.1 b o q λz=>n (e.tab.w b z),s.dom⟩
 refine⟨?_,st⟩
 have m:=st.off
 obtain⟨F,e⟩:=e
 have ls:∀{a:Addr} {xs:List V},H a=some (.lst xs)->H' a=some (.lst xs):=λq=>s.1 _ _ q λz=>e.tab.ok.ne z q rfl
 refine⟨F,e.len,e.zw,e.z0,λb w=>?_,λb o h n=>s.1 b o (e.f0 b o h n) λz=>n (e.tab.r b z),λb h=>e.n0 b (s.dom b h),λi u h=>?_,λi ts h=>?_,λi ts h=>?_,e.dis,λb o h=>s.1 b o (e.pn b o h) λz=>(by rw[e.tab.B b z]at h; cases h),e.pd,λi ts h=>?_,e.dd,e.dm,e.db,⟨s.2,e.tab.w,e.tab.r,e.tab.B⟩⟩
 ·rcases e.wl b w with⟨xs,q⟩|⟨ps,q⟩|⟨ps,q,nq⟩
  ·exact .inl ⟨xs,ls q⟩
  ·by_cases z:Tb t.K b
   ·exact .inr (.inl (s.2.cY z))
   ·exact .inr (.inl ⟨ps,s.1 b _ q z⟩)
  ·by_cases z:Tb t.K b
   ·exact .inr (.inl (s.2.cY z))
   ·exact .inr (.inr ⟨ps,s.1 b _ q z,nq⟩)
 ·obtain⟨v,h1,h2⟩:=e.sh i u h
  exact⟨v,h1,h2.mono m⟩
 ·obtain⟨a,xs,h1,h2,h3,h4,h5⟩:=e.ow i ts h
  exact⟨a,xs,h1,h2,h3,ls h4,h5.mono m⟩
 ·obtain⟨a,xs,h1,h2,h3,h4,h5⟩:=e.rf i ts h
  exact⟨a,xs,h1,h2,h3,ls h4,h5.mono m⟩
 ·obtain⟨a,xs,h1,d⟩:=e.dp i ts h
  exact⟨a,xs,h1,d.move rfl rfl m (λb hb=>by obtain⟨_,_,_,ww,_⟩:=d; exact(ww b hb).1) λb o hb q=>s.1 b o q λz=>d.nt e.tab.ok z hb⟩
theorem aH.abQ{t:Tx}{W:Addr->Prop}{ρ : En}{σ : St}{H H':Hp}{a:Addr}{xs:List V}(e:aH t W ρ σ H)(s:j5 t.K H H')(n:H a=none)(q:H' a=some (.lst xs)):rP t W a ρ σ H':=by
 have na:∀b,W b->b≠a:=λb w z=>by subst z; exact e.wn b w n
 obtain⟨e',st⟩:=e.Jg s
 have m:Same (aN W H') (aN (λb=>W b\/b=a) H')->True:=λ_=>trivial
 have mm:∀{v:V} {T:Tr},Rep t.K (aN W H) v T->Rep t.K (aN (λb=>W b\/b=a) H') v T:=λr=>r.mono λb o h=>by
  obtain⟨w,h⟩:=jW h
  rw[gj]
  ·exact st.keep b o w h
  ·rintro(z|rfl)
   ·exact w z
   ·rw[n]at h; cases h
 have Jh:Same (aN W H) (aN (λb=>W b\/b=a) H'):=λb o h=>by
  obtain⟨w,h⟩:=jW h
  rw[gj]
  ·exact st.keep b o w h
  ·rintro(z|rfl)
   ·exact w z
   ·rw[n]at h; cases h
 obtain⟨F,e⟩:=e
 have ls:∀{a:Addr} {xs:List V},H a=some (.lst xs)->H' a=some (.lst xs):=λq=>s.1 _ _ q λz=>e.tab.ok.ne z q rfl
 refine⟨F,⟨e.len,λb z=>.inl (e.zw b z),e.z0,λb w=>?_,e'.f0,e'.n0,λi u h=>?_,λi ts h=>?_,λi ts h=>?_,e.dis,e'.pn,e.pd,λi ts h=>?_,e.dd,e.dm,e.db,e'.tab.Ik λb w=>.inl w⟩,λi ts h z=>?_⟩
 ·rcases w with w|rfl
  ·exact e'.wl b w
  ·exact .inl ⟨xs,q⟩
 ·obtain⟨v,h1,h2⟩:=e.sh i u h
  exact⟨v,h1,mm h2⟩
 ·obtain⟨c,ys,h1,h2,h3,h4,h5⟩:=e.ow i ts h
  exact⟨c,ys,h1,.inl h2,h3,ls h4,h5.mono Jh⟩
 ·obtain⟨c,ys,h1,h2,h3,h4,h5⟩:=e.rf i ts h
  exact⟨c,ys,h1,.inl h2,h3,ls h4,h5.mono Jh⟩
 ·obtain⟨c,ys,h1,d⟩:=e.dp i ts h
  exact⟨c,ys,h1,d.move rfl rfl Jh (λb hb=>by obtain⟨_,_,_,ww,_⟩:=d; exact .inl (ww b hb).1) λb o hb q=>s.1 b o q λz=>d.nt e.tab.ok z hb⟩
 ·obtain⟨c,ys,h1,bs,_,_,ww,_⟩:=e.dp i ts h
  exact na a (ww a z).1 rfl
abbrev FP:=List Tr->Rs (Tr × Bool)
noncomputable def aQ(K:FZ)(cl:Str->Addr)(n:Nat)(F:FP):Sp:=λvs H Q E=>∃Z ts,vs.length=n/\aF (aD K) (aN Z H) vs ts/\(∀b,Z b->Lt H b)/\fG (aD K) H /\
 (F ts).post (λc=>∀H',j5 (aD K) H H'->E (.ref (cl c)) none H') (λp=>∀v H',j5 (aD K) H H'->yW (aD K) Z H H' v p.1 p.2->Q v H')
def cu(nl:Nat)(ts:List Tr):En:=ts.map Sl.sh++List.replicate (nl-ts.length) Sl.un
def bC(nl:Nat)(b:SF):FP:=λts=>(b (cu nl ts)).bind λq=>match q.1 with
 |.rt T fr=>.ok (T,fr)
 |.nx=>.ok (.non,false)
 |_=>.bad
theorem oY{nl:Nat}{ts:List Tr}{i:Nat}{s:Sl}(h:(cu nl ts)[i]?=some s):(∃u,ts[i]?=some u/\s=.sh u)\/s=.un:=by
 unfold cu at h
 by_cases l:i<ts.length
 ·rw[List.getElem?_append_left (by simpa using l),List.getElem?_map]at h
  rw[List.getElem?_eq_getElem l]at h ⊢
  cases h
  exact .inl ⟨_,rfl,rfl⟩
 ·rw[List.getElem?_append_right (by simpa using Nat.le_of_not_lt l)]at h
  rw[List.getElem?_replicate]at h
  split at h
  ·cases h; exact .inr rfl
  ·cases h
theorem RJ{N:List Str}{vs:List V}{i:Nat}{v:V}(h:vs[i]?=some v):(start N vs)[i]?=some (some v):=by
 unfold start
 have l:i<vs.length:=(List.getElem?_eq_some_iff.mp h).1
 rw[List.getElem?_append_left (by simpa using l),List.getElem?_map,h]
 rfl
section
variable {P:Program}{w:World}{K:FZ}{mg:Str->Option Value}{base:Heap}
theorem At.cQ{k:Nat}{x:Str}{st:Stmt}{N ps:List Str}{cl:Str->Addr}{b:SF}(a:At K mg x st)(S:rG N ps (bx st))(hn:ps.length<=N.length)
  (hb:∀(kV doc pm:Value) (an:Option Addr) (cdv ct:Value) (us:List Value),us.length=ps.length->bindArgs (PySem.W.fnOf x x (oN st) (jE st) (bx st) .none kV doc pm an cdv ct) ⟨us,[]⟩=pure (ps.zip us))
  (hbody:∀(f:Addr) (cdv:Value) (A:Around) (outer:List Env) (s:Shared) (H:Hp) (E:XK),fL k (A.deeper (envOfC x (bx st) s.heap.objs.size f cdv)) ->
   ∃ts,jj (jU (jr P w) P w K mg base N x (bx st) f cdv A outer s H E) (jE st) ts/\∀t:Tx,t.K=aD K->(∀c H',F0 t H'->t.EX c->E (.ref (cl c)) none H')->SS t ts b) :
  aM P w K mg base (k+1) x ps (aQ K cl ps.length (bC N.length b)):=by
 refine a.dfx S hb (λvs H Q E h=>?_) (λf cdv A outer s H vs Q E hr h=>?_)
 ·obtain⟨_,_,h,_⟩:=h; exact h
 obtain⟨Z,as,hl,r,zl,tb,h⟩:=h
 obtain⟨ts,h1,h2⟩:=hbody f cdv A outer s H E hr
 refine⟨ts,h1,?_⟩
 have sm:∀(b:Addr) (W:Addr->Prop) ρ σ H',aH ⟨aD K,Z,Tb (aD K),H,λ_=>none,λc=>∀H',j5 (aD K) H H'->E (.ref (cl c)) none H'⟩ W ρ σ H'->j5 (aD K) H H':=λ_ W ρ σ H' e=>⟨λb o q n=>e.f0 b o q n,e.tab.ok⟩
 have r:=r.oX (RG tb)
 refine h2 ⟨aD K,Z,Tb (aD K),H,λ_=>none,λc=>∀H',j5 (aD K) H H'->E (.ref (cl c)) none H'⟩ rfl (λc H' f0 q=>q H' ⟨λb o z n=>f0.1 b o z n,f0.2⟩) (λb=>Z b\/Tb (aD K) b) (cu N.length as) (start N vs) H _ ?_ (Rs.aY (Rs.aR h) λq h=>?_)
 ·have la:=r.length
  have qm:∀(i:Nat) (us:List Tr),(cu N.length as)[i]?=some (.dp us)->False:=λi us q=>by
   rcases oY q with⟨u',q1,z⟩|z <;> cases z
  refine⟨λ_=>[],?_,λ_ z=>.inl z,λb z=>?_,λb z=>z.elim (zl b) (λz=>.inr (.inl (tb.cY z))),λb o q _=>q,λb q=>q,λi u q=>?_,λi us q=>?_,λi us q=>?_,λi j c m1 m2=>?_,λb o z=>(by cases z),λ_ _ _ _=>rfl,λi us q=>(qm i us q).elim,λi _ us _ _ q=>(qm i us q).elim,λi _ us _ q=>(qm i us q).elim,λi us q=>(qm i us q).elim,⟨tb,λ_ z=>.inr z,λ_ z=>z,λ_ _=>rfl⟩⟩
  ·unfold cu start
   simp only[List.length_append,List.length_map,List.length_replicate]
   omega
  ·exact(zl b z).ne
  ·rcases oY q with⟨u',q1,z⟩|z
   ·cases z
    obtain⟨v,e1,e2⟩:=r.rR q1
    exact⟨v,RJ e1,e2⟩
   ·cases z
  ·rcases oY q with⟨u',q1,z⟩|z <;> cases z
  ·rcases oY q with⟨u',q1,z⟩|z <;> cases z
  ·obtain⟨us,q|q⟩:=m1 <;> rcases oY q with⟨u',q1,z⟩|z <;> cases z
 ·obtain⟨fl,ρ'⟩:=q
  cases fl with
  |nx=>exact λW' σ' H' e n=>h .non H' (sm 0 W' ρ' σ' H' e) .non
  |rt T fr =>
   refine λv W' σ' H' e n=>h v H' (sm 0 W' ρ' σ' H' e) ?_
   cases fr <;> exact n
  |bk=>exact h.elim
  |ct=>exact h.elim
end
section
variable {X:Cx}{k:Nat}{x:Str}{ps:List Str}{sp:Sp}{p pos:Pos}{e:Expr}{es:List Expr}{ta:TA}{E:XK}
theorem abR(D:aM X.prog X.w X.K X.mg X.base k x ps sp)(hr:fL k X.A)(hx:Passes (jr X.prog X.w) X E)(ha:PA X (e::es) ta)(hg:Gl X x:=by rfl)(hdb:(x == ("__debug__" : Str))=false:=by decide)
  (he:starEach (e::es) X.env=(false,eval e X.env)::starEach es X.env:=by rfl) (hpl:(backTo pos (starEach es X.env)).any (·.1)=false:=by rfl):PE X (.Call (.Name x p) (e::es) [] pos) (rE sp [] E ta):=by
 obtain⟨f,fd,h1,h2,h3,h4⟩:=D
 exact Zr h1 hr hg h4 h3 h2 .nil hx ha hdb he hpl
end
section
variable {t:Tx}{K:FZ}
def cR:Rv->Bool
 |.s _=>true
 |_=>false
def j6(z:Tr × Bool):Bool:=uR z.1 || (z.2&&(match z.1 with
 |.lst us=>lD us
 |_=>false))
theorem yW.voe{W W0:Addr->Prop}{ρ : En}{σ : St}{H H':Hp}{v:V}{z:Tr × Bool}{Z:Addr->Prop}(wn:∀b,W b->H b≠none)(wl:∀b,W b->Lt H' b)(zs:(∀b,W b->Z b)\/j6 z=true)(h:yW t.K Z H H' v z.1 z.2)
  (ex:z.2=true->∀a xs,H a=none->H' a=some (.lst xs)->rP t W a ρ σ H'):gJ t W ρ σ H H' v (.v z.1 z.2):=by
 obtain⟨T,fr⟩:=z
 cases fr with
 |false =>
  refine .low ?_
  rcases zs with zs|zs
  ·exact Rep.mono (wL (λb _ _ z=>zs b z) λ_ _ _ h=>h) h
  ·unfold j6 at zs
   simp only[Bool.false_and,Bool.or_false]at zs
   exact Rep.flat (abO wl) h zs
 |true =>
  obtain⟨a,xs,ts,rfl,e1,n,q,r⟩:=h
  have e1:T=.lst ts:=e1
  subst e1
  refine⟨⟨a,xs,ts,rfl,rfl,n,q,?_⟩,λU b z eb=>?_⟩
  ·rcases zs with zs|zs
   ·refine r.mono λb o q=>?_
    obtain⟨ne,q⟩:=wH q
    rw[off_ne ne]
    exact wL (λb _ _ z=>zs b z) (λ_ _ _ h=>h) b o q
   ·unfold j6 at zs
    have zs:lD ts=true:=by
     rw[Bool.or_eq_true]at zs
     rcases zs with zs|zs
     ·unfold uR at zs; cases zs
     ·exact zs
    exact r.flat (abP wl q _ λb o h=>iw _ _ b o (Il _ _ b o h)) zs
  ·cases eb
   exact ex rfl a xs n q
theorem iy.length{W:Addr->Prop}{σ : St}{H H':Hp}:∀{vs:List V} {rs:List Rv},iy K W σ H H' vs rs->vs.length=rs.length
 |_,_,.nil=>rfl
 |_,_,.cons _ r=>by rw[List.length_cons,List.length_cons,iy.length r]
theorem post_eq{α : Type}{r:Rs α}{a : α}{EX:Str->Prop}{P : α -> Prop}(h:r=.ok a)(q:P a):r.post EX P:=by
 rw[h]
 exact q
def aG(F:FP)(fa:AF):EF:=λρ=>(fa ρ).bind λp=>(drs p.2 p.1).bind λas=>(F as).bind λz=>if p.1.any cR=true/\j6 z=false then .bad else .ok (.v z.1 z.2,p.2)
theorem RK{W:Addr->Prop}{σ : St}{ρ : En}{H H':Hp}(wn:∀b,W b->H b≠none):∀{vs:List V} {rs:List Rv} {as:List Tr},iy t.K W σ H H' vs rs->drs ρ rs=.ok as->rs.any cR=false->aF t.K (aN W H') vs as
 |_,_,_,.nil,q,_=>by cases q; exact .nil
 |_,.v T fr::_,_,.cons h r,q,n=>by
  unfold drs at q
  obtain⟨a,q1,q⟩:=iQ q
  obtain⟨as,q2,q⟩:=iQ q
  cases q
  cases q1
  exact .cons (h.rep wn) (RK wn r q2 (by simpa[List.any_cons,cR]using n))
 |_,.s i::_,_,.cons h r,q,n=>by simp[cR]at n
theorem rT.reps{W:Addr->Prop}{H:Hp}:∀{vs:List V} {as:List Tr},rT K W H vs as->aF K (aN (λ_=>False) H) vs as
 |_,_,.nil=>.nil
 |_,_,.cons h r=>.cons (h.rep.mono λb o q=>by rw[gj id]; exact q) (rT.reps r)
theorem RL(hK:t.K=aD K){cl:Str->Addr}{n:Nat}{F:FP}{E:XK}{ta:TA}{fa:AF}(hx:∀c H',F0 t H'->t.EX c->E (.ref (cl c)) none H')(hn:∀ρ p,fa ρ=.ok p->p.1.length=n)(ha:SA t ta fa):SE t (rE (aQ K cl n F) [] E ta) (aG F fa):=λW ρ σ H Q e h=>by
 have h:=Rs.aR h
 cases ek:fa ρ with
 |bad=>rw[ek]at h; exact h.elim
 |ex c=>exact ha W ρ σ H _ e (by rw[ek]at h ⊢; exact h)
 |ok p =>
 have hl:=hn ρ p ek
 rw[ek]at h
 refine ha W ρ σ H _ e (post_eq ek ?_)
 intro vs H1 e1 s1 v1
 have h:((drs p.2 p.1).bind _).post _ _:=h
 obtain⟨as,k1,h⟩:=eE (Rs.aR h) (Cq _ _)
 have r:=Cr e1 e.wn v1 k1
 have lv:vs.length=n:=v1.length.trans hl
 have fin:∀Z:Addr->Prop,(∀b,Z b->W b)->(∀z,F as=.ok z->¬(p.1.any cR=true/\j6 z=false)->(∀b,W b->Z b)\/j6 z=true)->aF (aD K) (aN Z H1) vs as->aQ K cl n F (vs++[]) H1 Q E:=λZ zw zs rr=>by
  rw[List.append_nil]
  refine⟨Z,as,lv,rr,λb z=>e1.wl b (zw b z),by rw[<-hK]; exact e1.tab.ok,?_⟩
  have h:=Rs.aR h
  cases ef:F as with
  |bad=>rw[ef]at h; exact h.elim
  |ex c =>
   rw[ef]at h
   exact λH' sm=>hx c H' ⟨λb o q nr=>sm.1 b o (e1.f0 b o q nr) λz=>nr (e1.tab.r b (by rw[hK]; exact z)),by rw[hK]; exact sm.2⟩ h
  |ok z =>
   rw[ef]at h
   have h:(if p.1.any cR=true/\j6 z=false then Rs.bad else .ok (.v z.1 z.2,p.2):Rs (Rv × En)).post _ _:=h
   split at h
   ·exact h.elim
   ·rename_i c
    intro v H' sm vr
    rw[<-hK]at vr sm
    obtain⟨eg,sg⟩:=e1.Jg sm
    refine h v H' eg (s1.trans sg) (gJ.back (H:=H1) ?_ s1.dom)
    exact yW.voe (W0:=W) e1.wn eg.wl (zs z ef c) vr λ_ a xs na qa=>e1.abQ sm na qa
 by_cases an:p.1.any cR=true
 ·refine fin (λ_=>False) (λ_ z=>z.elim) (λz ez c=>.inr ?_) ?_
  ·cases fz:j6 z with
   |true=>rfl
   |false=>exact(c ⟨an,fz⟩).elim
  ·rw[<-hK]
   exact r.reps
 ·refine fin W (λ_ z=>z) (λz ez c=>.inl λ_ z=>z) ?_
  rw[<-hK]
  exact RK e.wn v1 k1 (by simpa using an)
end
abbrev FR:=List Tr->Rs ((Tr × Bool) × List Tr)
def dO{α : Type}:Rs α -> Rs α
 |.bad=>.bad
 |.ex _=>.bad
 |.ok a=>.ok a
theorem wW{α : Type}{r:Rs α}{EX:Str->Prop}{P : α -> Prop}(h:(dO r).post EX P):r.post (λ_=>False) P:=by
 cases r <;> exact h
theorem abS{α : Type}(r:Rs α)(c:Str):dO r ≠ .ex c:=by
 cases r <;> (intro z; cases z)
theorem abT{α β : Type}{r:Rs α}{f : α -> Rs β}(h1:∀c,r ≠ .ex c)(h2:∀a c,f a ≠ .ex c)(c:Str):r.bind f ≠ .ex c:=by
 cases r with
 |bad=>intro z; cases z
 |ex d=>exact(h1 d rfl).elim
 |ok a=>exact h2 a c
section
variable {t:Tx}{K:FZ}
def others(r i:Nat)(rs:List Rv):Bool:=(rs.eraseIdx r).all λx=>match x with
 |.s j=>j != i
 |_=>true
noncomputable def abU(r:Nat)(F:FR)(fa:AF):EF:=λρ=>(fa ρ).bind λp=>match p.1[r]? with
 |some (.s i)=>if others r i p.1=true then((con p.2 i).bind λ_=>(drs p.2 p.1).bind λas=>(F as).bind λz=>if((p.1.eraseIdx r).any cR=true/\j6 z.1=false)\/(((p.1.eraseIdx r).any cR=true\/z.1.2=true)/\lD z.2=false)then .bad else .ok (.v z.1.1 z.1.2,dN i z.2 p.2))else .bad
 |_=>.bad
end
noncomputable def Ji(wi:TI)(g:TG)(src:List (Option Nat))(tc:TT)(te:TE):TE:=λσ H Q=>wi σ H λJ H1=>∀D,H1 D=none ->
 ∃W:Nat->Nat->St->Hp->Prop,(∃m,W 0 m (fY src σ) (upd H1 D (.lst [])))/\∀i m σ' H',W i m σ' H' ->
  (J.stop i H'/\Qv Q D H')\/(J.go i H'/\∀x dg,J.rm i H' x dg->g x σ' dg λσ2 H2=>tc σ2 H2 λb RM=>if b=true then te σ2 RM λv H3=>∃xs,H3 D=some (.lst xs)/\xs.length<sizeLine/\∃m',m'<m/\W (i+1) m' σ2 (upd H3 D (.lst (xs++[v])))else ∃m',m'<m/\W (i+1) m' σ2 RM)
def sJ:Sl->Sl
 |.dp _=>.un
 |s=>s
def gW(src:List (Option Nat))(ρ : En):En:=src.map λo=>match o with
 |some j=>sJ ((ρ[j]?).getD .un)
 |none=>.un
def cU:List (Option Nat)->En->En->En
 |some j::src,.ow ts::ρi,ρ=>cU src ρi (dN j ts ρ)
 |some j::src,.rf ts::ρi,ρ=>cU src ρi (dN j ts ρ)
 |_::src,_::ρi,ρ=>cU src ρi ρ
 |_,_,ρ=>ρ
def oZ:Option Sl->Bool
 |some (.ow _)=>true
 |some (.rf _)=>true
 |_=>false
def gY:List (Option Nat)->En->En->Bool
 |some j::src,s::ρi,ρ=>(!oZ ρ[j]? || oZ (some s))&&gY src ρi ρ
 |none::src,_::ρi,ρ=>gY src ρi ρ
 | [],_,_=>true
 |_,[],_=>false
theorem RN{ρ : En}{i:Nat}:oZ ρ[i]?=true↔Mu ρ i:=by
 constructor
 ·intro h
  unfold oZ at h
  split at h <;> rename_i q
  ·exact⟨_,.inl q⟩
  ·exact⟨_,.inr q⟩
  ·cases h
 ·rintro⟨ts,h|h⟩ <;> rw[h] <;> rfl
theorem Jj:∀{src:List (Option Nat)} {ρi ρ : En} {k j:Nat},gY src ρi ρ = true->src[k]?=some (some j)->Mu ρ j->Mu ρi k
 | [],_,_,_,_,_,h,_=>by simp at h
 |some j'::src,s::ρi,ρ,k,j,h,hk,m=>by
  unfold gY at h
  rw[Bool.and_eq_true]at h
  cases k with
  |zero =>
   simp at hk
   subst hk
   have h1:=h.1
   rw[RN.mpr m]at h1
   have h1:oZ (some s)=true:=by simpa using h1
   cases s with
   |un=>cases h1
   |sh _=>cases h1
   |dp _=>cases h1
   |ow ts=>exact⟨ts,.inl rfl⟩
   |rf ts=>exact⟨ts,.inr rfl⟩
  |succ k =>
   obtain⟨ts,q⟩:=Jj (k:=k) h.2 (by simpa using hk) m
   exact⟨ts,by simpa using q⟩
 |none::src,s::ρi,ρ,k,j,h,hk,m=>by
  unfold gY at h
  cases k with
  |zero=>simp at hk
  |succ k =>
   obtain⟨ts,q⟩:=Jj (k:=k) h (by simpa using hk) m
   exact⟨ts,by simpa using q⟩
 |some j'::src,[],ρ,k,j,h,hk,m=>by unfold gY at h; cases h
 |none::src,[],ρ,k,j,h,hk,m=>by unfold gY at h; cases h
def Inj(src:List (Option Nat)):Prop:=∀(k k' j:Nat),src[k]?=some (some j)->src[k']?=some (some j)->k=k'
theorem uT{src:List (Option Nat)}(h:(src.filterMap id).Nodup):Inj src:=by
 induction src with
 |nil=>intro k k' j h1; simp at h1
 |cons o src ih =>
  have tail:Inj src:=by
   cases o with
   |none=>exact ih (by simpa using h)
   |some j=>exact ih (by simpa using(List.nodup_cons.mp (by simpa using h)).2)
  intro k k' j h1 h2
  have no:∀{m:Nat},o=some j->src[m]?=some (some j)->False:=λ{m} e q=>by
   subst e
   have n:=(List.nodup_cons.mp (show(j::src.filterMap id).Nodup by simpa using h)).1
   exact n (List.mem_filterMap.mpr ⟨some j,List.mem_of_getElem? q,rfl⟩)
  cases k with
  |zero =>
   have e1:o=some j:=by simpa using h1
   cases k' with
   |zero=>rfl
   |succ k'=>exact(no e1 (by simpa using h2)).elim
  |succ k =>
   cases k' with
   |zero=>exact(no (by simpa using h2) (by simpa using h1)).elim
   |succ k'=>rw[tail k k' j (by simpa using h1) (by simpa using h2)]
theorem RP{ρ : En}{i j:Nat}{ts:List Tr}(h:j≠i):(dN i ts ρ)[j]?=ρ[j]? := by
 unfold dN
 split
 ·exact List.getElem?_set_ne (Ne.symm h)
 ·exact List.getElem?_set_ne (Ne.symm h)
 ·rfl
theorem abV{ρ ρ':En}{i:Nat}{ts:List Tr}(h : ρ[i]?=ρ'[i]?):(dN i ts ρ)[i]?=(dN i ts ρ')[i]? := by
 unfold dN
 rw[h]
 cases q : ρ'[i]? with
 |none=>dsimp only; rw[h,q]
 |some s =>
  have l':i < ρ'.length:=(List.getElem?_eq_some_iff.mp q).1
  have l:i < ρ.length:=(List.getElem?_eq_some_iff.mp (h.trans q)).1
  cases s with
  |un=>dsimp only; rw[h,q]
  |sh _=>dsimp only; rw[h,q]
  |dp _=>dsimp only; rw[h,q]
  |ow _=>dsimp only; rw[uK l,uK l']
  |rf _=>dsimp only; rw[uK l,uK l']
theorem uU:∀(src:List (Option Nat)) (ρi ρ : En),(cU src ρi ρ).length = ρ.length
 | [],ρi,ρ=>by unfold cU; rfl
 |o::src,[],ρ=>by cases o <;> (unfold cU; rfl)
 |none::src,s::ρi,ρ=>by unfold cU; exact uU src ρi ρ
 |some j::src,.un::ρi,ρ=>by unfold cU; exact uU src ρi ρ
 |some j::src,.sh _::ρi,ρ=>by unfold cU; exact uU src ρi ρ
 |some j::src,.dp _::ρi,ρ=>by unfold cU; exact uU src ρi ρ
 |some j::src,.ow ts::ρi,ρ=>by unfold cU; rw[uU src ρi,Jf]
 |some j::src,.rf ts::ρi,ρ=>by unfold cU; rw[uU src ρi,Jf]
theorem uV:∀{src:List (Option Nat)} {ρi ρ : En} {j:Nat} {s:Sl},Inj src->(cU src ρi ρ)[j]?=some s ->
  (∃(k:Nat) (ts:List Tr),src[k]?=some (some j)/\(ρi[k]?=some (.ow ts)\/ρi[k]?=some (.rf ts))/\(dN j ts ρ)[j]?=some s)\/((∀k:Nat,src[k]?=some (some j)->¬Mu ρi k)/\ρ[j]?=some s)
 | [],ρi,ρ,j,s,_,h=>by
  unfold cU at h
  exact .inr ⟨λk q=>by simp at q,h⟩
 |o::src,[],ρ,j,s,_,h=>by
  have h : ρ[j]?=some s:=by cases o <;> (unfold cU at h; exact h)
  refine .inr ⟨λk _ m=>?_,h⟩
  obtain⟨_,q|q⟩:=m <;> simp at q
 |o::src,x::ρi,ρ,j,s,I,h=>by
  have It:Inj src:=λk k' j h1 h2=>by
   have:=I (k+1) (k'+1) j (by simpa using h1) (by simpa using h2)
   omega
  have keep:(o=none\/oZ (some x)=false)->(cU src ρi ρ)[j]?=some s->(∃(k:Nat) (ts:List Tr),(o::src)[k]?=some (some j)/\((x::ρi)[k]?=some (.ow ts)\/(x::ρi)[k]?=some (.rf ts))/\(dN j ts ρ)[j]?=some s)\/((∀k:Nat,(o::src)[k]?=some (some j)->¬Mu (x::ρi) k)/\ρ[j]?=some s):=λc h=>by
   rcases uV It h with⟨k,ts,q1,q2,q3⟩|⟨n,q⟩
   ·exact .inl ⟨k+1,ts,by simpa using q1,by simpa using q2,q3⟩
   ·refine .inr ⟨λk qk m=>?_,q⟩
    cases k with
    |zero =>
     rcases c with c|c
     ·subst c; simp at qk
     ·rw[<-RN]at m
      have m:oZ (some x)=true:=m
      rw[c]at m
      cases m
    |succ k =>
     obtain⟨ts,m⟩:=m
     exact n k (by simpa using qk) ⟨ts,by simpa using m⟩
  have put:∀(i:Nat) (ts:List Tr),o=some i->(x=.ow ts\/x=.rf ts)->(cU src ρi (dN i ts ρ))[j]?=some s->(∃(k:Nat) (ts:List Tr),(o::src)[k]?=some (some j)/\((x::ρi)[k]?=some (.ow ts)\/(x::ρi)[k]?=some (.rf ts))/\(dN j ts ρ)[j]?=some s)\/((∀k:Nat,(o::src)[k]?=some (some j)->¬Mu (x::ρi) k)/\ρ[j]?=some s):=λi ts eo ex h=>by
   rcases uV It h with⟨k,us,q1,q2,q3⟩|⟨n,q⟩
   ·have ne:j≠i:=λz=>by
     subst z
     have:=I 0 (k+1) j (by simpa using eo) (by simpa using q1)
     omega
    refine .inl ⟨k+1,us,by simpa using q1,by simpa using q2,?_⟩
    rw[<-abV (RP ne)]
    exact q3
   ·by_cases e:j=i
    ·subst e
     refine .inl ⟨0,ts,by simpa using eo,?_,q⟩
     rcases ex with rfl|rfl
     ·exact .inl rfl
     ·exact .inr rfl
    ·rw[RP e]at q
     refine .inr ⟨λk qk m=>?_,q⟩
     cases k with
     |zero =>
      rw[eo]at qk
      simp at qk
      exact e qk.symm
     |succ k =>
      obtain⟨ts,m⟩:=m
      exact n k (by simpa using qk) ⟨ts,by simpa using m⟩
  cases o with
  |none=>unfold cU at h; exact keep (.inl rfl) h
  |some i =>
   cases x with
   |un=>unfold cU at h; exact keep (.inr rfl) h
   |sh _=>unfold cU at h; exact keep (.inr rfl) h
   |dp _=>unfold cU at h; exact keep (.inr rfl) h
   |ow ts=>unfold cU at h; exact put i ts rfl (.inl rfl) h
   |rf ts=>unfold cU at h; exact put i ts rfl (.inr rfl) h
theorem yX{src:List (Option Nat)}{ρ : En}{k:Nat}{s:Sl}(h:(gW src ρ)[k]?=some s)(n:s ≠ .un):∃j,src[k]?=some (some j)/\ρ[j]?=some s:=by
 unfold gW at h
 rw[List.getElem?_map]at h
 cases q:src[k]? with
 |none=>rw[q]at h; cases h
 |some o =>
  rw[q]at h
  cases o with
  |none=>cases h; exact(n rfl).elim
  |some j =>
   refine⟨j,rfl,?_⟩
   have h:sJ ((ρ[j]?).getD .un)=s:=Option.some.inj h
   cases z : ρ[j]? with
   |none=>rw[z]at h; exact(n h.symm).elim
   |some s' =>
    rw[z]at h
    have h:sJ s'=s:=h
    cases s' <;> first|exact congrArg some h|exact(n h.symm).elim
theorem CQ{src:List (Option Nat)}{ρ : En}{k:Nat}{ts:List Tr}(h:(gW src ρ)[k]?=some (.dp ts)):False:=by
 unfold gW at h
 rw[List.getElem?_map]at h
 cases q:src[k]? with
 |none=>rw[q]at h; cases h
 |some o =>
  rw[q]at h
  cases o with
  |none=>cases h
  |some j =>
   have h:sJ ((ρ[j]?).getD .un)=.dp ts:=Option.some.inj h
   cases z:(ρ[j]?).getD Sl.un <;> rw[z]at h <;> cases h
theorem wX{src:List (Option Nat)}{ρi ρ : En}{j:Nat}{ts:List Tr}(I:Inj src)(h:(cU src ρi ρ)[j]?=some (.dp ts)) : ρ[j]?=some (.dp ts):=by
 rcases uV I h with⟨k,us,_,_,q⟩|⟨_,q⟩
 ·exact uO q
 ·exact q
theorem Jk{src:List (Option Nat)}{σ : St}{k j:Nat}(h:src[k]?=some (some j)):(fY src σ)[k]?=some ((σ[j]?).join):=by
 unfold fY
 rw[List.getElem?_map,h]
 rfl
def OU(src:List (Option Nat))(ρ : En)(σ : St)(F:Nat->List Addr)(b:Addr):Prop:=(∃j:Nat,Mu ρ j/\σ[j]?=some (some (.ref b))/\∀k:Nat,src[k]? ≠ some (some j))\/∃(j:Nat) (ts:List Tr),ρ[j]?=some (.dp ts)/\b∈F j
open Classical in
def ig(t:Tx)(src:List (Option Nat))(ρ : En)(σ : St)(F:Nat->List Addr)(H1:Hp)(D:Addr)(xs:List V):Tx:=⟨t.K,t.Z,t.R,t.H0,λb=>if b=D then some (.lst xs)else if OU src ρ σ F b then H1 b else t.B b,λ_=>False⟩
section
variable {t:Tx}{src:List (Option Nat)}{ρ1:En}{σ : St}{F:Nat->List Addr}{H1:Hp}{D:Addr}{W:Addr->Prop}
theorem sO{xs:List V}:(ig t src ρ1 σ F H1 D xs).B D=some (.lst xs):=if_pos rfl
theorem sS{xs:List V}{b:Addr}(h1:b≠D)(h2:¬OU src ρ1 σ F b):(ig t src ρ1 σ F H1 D xs).B b=t.B b:=by
 unfold ig
 dsimp only
 rw[if_neg h1,if_neg h2]
theorem uW{xs:List V}{b:Addr}(h1:b≠D)(h2:OU src ρ1 σ F b):(ig t src ρ1 σ F H1 D xs).B b=H1 b:=by
 unfold ig
 dsimp only
 rw[if_neg h1,if_pos h2]
theorem Jl{k:Nat}(h:Mu (gW src ρ1) k):∃j,src[k]?=some (some j)/\Mu ρ1 j:=by
 obtain⟨ts,q|q⟩:=h
 ·obtain⟨j,h1,h2⟩:=yX q (by intro z; cases z)
  exact⟨j,h1,ts,.inl h2⟩
 ·obtain⟨j,h1,h2⟩:=yX q (by intro z; cases z)
  exact⟨j,h1,ts,.inr h2⟩
theorem Jm{k j:Nat}{v:V}(h:src[k]?=some (some j))(q:(fY src σ)[k]?=some (some v)) : σ[j]?=some (some v):=by
 rw[Jk h]at q
 have q:=Option.some.inj q
 cases z : σ[j]? with
 |none=>rw[z]at q; cases q
 |some o =>
  rw[z]at q
  have q:o=some v:=q
  rw[q]
theorem CT{k j:Nat}{v:V}(h:src[k]?=some (some j))(q : σ[j]?=some (some v)):(fY src σ)[k]?=some (some v):=by
 rw[Jk h,q]
 rfl
theorem OU.tab{b:Addr}(gq:EOF t W ρ1 σ H1 F)(z:Tb t.K b):¬OU src ρ1 σ F b:=by
 rintro(⟨j,m,q,_⟩|⟨j,ts,d',y⟩)
 ·obtain⟨xs,h⟩:=aH.RD ⟨F,gq⟩ m q
  exact gq.tab.ok.ne z h rfl
 ·obtain⟨a,xs,_,d⟩:=gq.dp j ts d'
  exact d.nt gq.tab.ok z y
theorem abW{xs:List V}{b:Addr}(gq:EOF t W ρ1 σ H1 F)(hD:H1 D=none)(z:Tb t.K b):(ig t src ρ1 σ F H1 D xs).B b=none:=by
 have nD:b≠D:=λy=>by
  obtain⟨ps,h⟩:=gq.tab.ok.cY z
  rw[y,hD]at h
  cases h
 rw[sS nD (OU.tab gq z)]
 exact gq.tab.B b z
theorem EOF.enter(I:Inj src)(gq:EOF t W ρ1 σ H1 F)(hD:H1 D=none):aH (ig t src ρ1 σ F H1 D []) (λb=>W b\/b=D) (gW src ρ1) (fY src σ) (upd H1 D (.lst [])):=by
 have e1:aH t W ρ1 σ H1:=⟨F,gq⟩
 have e2:=(e1.hide (dW hD (.lst [])) hD eX).ok
 have tf:=e2.tab
 refine⟨λ_=>[],?_,e2.zw,e2.z0,e2.wl,e2.f0,e2.n0,λk u h=>?_,λk ts h=>?_,λk ts h=>?_,λk k' a m1 m2 q1 q2=>?_,λb o h=>?_,λk a m q=>?_,λk ts h=>(CQ h).elim,λk _ ts _ _ h=>(CQ h).elim,λk _ ts _ h=>(CQ h).elim,λk ts h=>(CQ h).elim,⟨tf.ok,tf.w,tf.r,λb z=>abW gq hD z⟩⟩
 ·unfold gW fY
  rw[List.length_map,List.length_map]
 ·obtain⟨j,h1,h2⟩:=yX h (by intro z; cases z)
  obtain⟨v,q1,q2⟩:=e2.sh j u h2
  exact⟨v,CT h1 q1,q2⟩
 ·obtain⟨j,h1,h2⟩:=yX h (by intro z; cases z)
  obtain⟨a,xs,q1,q2⟩:=e2.ow j ts h2
  exact⟨a,xs,CT h1 q1,q2⟩
 ·obtain⟨j,h1,h2⟩:=yX h (by intro z; cases z)
  obtain⟨a,xs,q1,q2⟩:=e2.rf j ts h2
  exact⟨a,xs,CT h1 q1,q2⟩
 ·obtain⟨j,h1,n1⟩:=Jl m1
  obtain⟨j',h2,n2⟩:=Jl m2
  have:=e2.dis j j' a n1 n2 (Jm h1 q1) (Jm h2 q2)
  subst this
  exact I k k' j h1 h2
 ·by_cases h1:b=D
  ·subst h1
   rw[sO]at h
   rw[eX]
   exact h
  ·by_cases h2:OU src ρ1 σ F b
   ·rw[uW h1 h2]at h
    rw[bJ h1]
    exact h
   ·rw[sS h1 h2]at h
    exact e2.pn b o h
 ·obtain⟨j,h1,n1⟩:=Jl m
  have q:=Jm h1 q
  have wa:=e1.addr n1 q
  have nD:a≠D:=λz=>by subst z; exact e1.wn a wa hD
  have nO:¬OU src ρ1 σ F a:=by
   rintro(⟨j',m',q',u'⟩|⟨j',ts,d',z⟩)
   ·have:=e1.dis j j' a n1 m' q q'
    subst this
    exact u' k h1
   ·exact gq.dm j' j ts a d' n1 q z
  rw[sS nD nO]
  exact e1.pd j a n1 q
theorem aH.abX{xs ys:List V}{ρ : En}{τ : St}{H:Hp}{W':Addr->Prop}(e:aH (ig t src ρ1 σ F H1 D xs) W' ρ τ H)(w:W' D)(h0:t.H0 D=none):aH (ig t src ρ1 σ F H1 D ys) W' ρ τ (upd H D (.lst ys)):=by
 have ne:∀i a,Mu ρ i -> τ[i]?=some (some (.ref a))->a≠D:=λi a m q z=>by
  subst z
  have:=e.pd i a m q
  rw[sO]at this
  cases this
 obtain⟨F',e⟩:=e
 have RQ:∀i ts,ρ[i]?=some (Sl.dp ts)->∀b∈F' i,b≠D:=λi ts h b hb z=>by
  subst z
  have:=e.db i ts h b hb
  rw[sO]at this
  cases this
 refine⟨F',e.len,e.zw,e.z0,λb z=>?_,λb o h n=>?_,λb h=>?_,λi u h=>?_,λi ts h=>?_,λi ts h=>?_,e.dis,λb o h=>?_,λi a m q=>?_,λi ts h=>?_,e.dd,e.dm,λi ts h b hb=>?_,⟨e.tab.ok.upd (e.pn D _ sO),e.tab.w,e.tab.r,λb z=>?_⟩⟩
 ·by_cases q:b=D
  ·subst q; exact .inl ⟨ys,eX⟩
  ·unfold Lt; rw[bJ q]; exact e.wl b z
 ·rw[bJ]
  ·exact e.f0 b o h n
  ·rintro rfl
   have h:t.H0 b=some o:=h
   rw[h0]at h
   cases h
 ·by_cases q:b=D
  ·subst q; exact h0
  ·rw[bJ q]at h; exact e.n0 b h
 ·rw[oR w]
  exact e.sh i u h
 ·obtain⟨a,zs,q1,q2,q3,q4,q5⟩:=e.ow i ts h
  rw[oR w]
  exact⟨a,zs,q1,q2,q3,by rw[bJ (ne i a ⟨ts,.inl h⟩ q1)]; exact q4,q5⟩
 ·obtain⟨a,zs,q1,q2,q3,q4,q5⟩:=e.rf i ts h
  rw[oR w]
  exact⟨a,zs,q1,q2,q3,by rw[bJ (ne i a ⟨ts,.inr h⟩ q1)]; exact q4,q5⟩
 ·by_cases h1:b=D
  ·subst h1
   rw[sO]at h
   rw[eX]
   exact h
  ·rw[bJ h1]
   refine e.pn b o ?_
   by_cases h2:OU src ρ1 σ F b
   ·rw[uW h1 h2]at h ⊢; exact h
   ·rw[sS h1 h2]at h ⊢; exact h
 ·have nD:=ne i a m q
  have z:=e.pd i a m q
  by_cases h2:OU src ρ1 σ F a
  ·rw[uW nD h2]at z ⊢; exact z
  ·rw[sS nD h2]at z ⊢; exact z
 ·obtain⟨a,zs,q1,d⟩:=e.dp i ts h
  exact⟨a,zs,q1,d.move rfl rfl (by rw[oR w]; exact Same.refl _) (λb hb=>by obtain⟨_,_,_,ww,_⟩:=d; exact(ww b hb).1) λb o hb q=>by rw[bJ (RQ i ts h b hb)]; exact q⟩
 ·have nD:=RQ i ts h b hb
  have z:=e.db i ts h b hb
  by_cases h2:OU src ρ1 σ F b
  ·rw[uW nD h2]at z ⊢; exact z
  ·rw[sS nD h2]at z ⊢; exact z
 ·have y:=e.tab.B b z
  have nD:b≠D:=λq=>by
   subst q
   rw[sO]at y
   cases y
  by_cases h2:OU src ρ1 σ F b
  ·rw[uW nD h2]at y ⊢; exact y
  ·rw[sS nD h2]at y ⊢; exact y
theorem EOF.leave{xs:List V}{ρ : En}{τ : St}{H:Hp}{Wx:Addr->Prop}{js:List Nat}(I:Inj src)(gq:EOF t W ρ1 σ H1 F)(hD:H1 D=none)(e:aH (ig t src ρ1 σ F H1 D xs) (λb=>W b\/b=D) ρ τ H)(nx:∀b o,¬W b->H1 b=some o->H b=some o)
  (hj:∀k j:Nat,src[k]?=some (some j)->k∉js) (ag:∀k,k∉js -> τ[k]?=(fY src σ)[k]?) (so:gY src ρ ρ1=true) (w1:∀b,W b->Wx b) (w2:∀b,Wx b->W b\/b=D):EOF t Wx (cU src ρ ρ1) σ H F:=by
 have e1:aH t W ρ1 σ H1:=⟨F,gq⟩
 have m1:Same (aN W H1) (aN Wx H):=λb o h=>by
  obtain⟨n,h⟩:=jW h
  rw[gj]
  ·exact nx b o n h
  ·intro z
   rcases w2 b z with z|rfl
   ·exact n z
   ·rw[hD]at h; cases h
 have m2:Same (aN (λb=>W b\/b=D) H) (aN Wx H):=wL (λb _ _ z=>w2 b z) λ_ _ _ h=>h
 have CV:∀j,Mu (cU src ρ ρ1) j->Mu ρ1 j:=λj m=>by
  obtain⟨ts,m|m⟩:=m <;> rcases uV I m with⟨k,us,q1,q2,q3⟩|⟨n,q⟩
  ·exact wU ⟨ts,.inl q3⟩
  ·exact⟨ts,.inl q⟩
  ·exact wU ⟨ts,.inr q3⟩
  ·exact⟨ts,.inr q⟩
 have inner:∀(k j:Nat) (ts:List Tr) (a:Addr),src[k]?=some (some j)->(ρ[k]?=some (.ow ts)\/ρ[k]?=some (.rf ts)) -> σ[j]?=some (some (.ref a))->∃ys,H a=some (.lst ys)/\aF t.K (aN Wx H) ys ts:=λk j ts a q1 q2 q3=>by
  have z:=ag k (hj k j q1)
  rw[CT q1 q3]at z
  rcases q2 with q2|q2
  ·obtain⟨c,ys,h1,h2,h3,h4,h5⟩:=e.ow k ts q2
   rw[z]at h1
   cases h1
   exact⟨ys,h4,h5.mono m2⟩
  ·obtain⟨c,ys,h1,h2,h3,h4,h5⟩:=e.rf k ts q2
   rw[z]at h1
   cases h1
   exact⟨ys,h4,h5.mono m2⟩
 have outer:∀(j:Nat) (a:Addr) (ys:List V),Mu ρ1 j->(∀k,src[k]?=some (some j)->¬Mu ρ k) -> σ[j]?=some (some (.ref a))->H1 a=some (.lst ys)->H a=some (.lst ys):=λj a ys m n q h=>by
  have wa:=e1.addr m q
  have nD:a≠D:=λz=>by subst z; exact e1.wn a wa hD
  refine e.pn a _ ?_
  rw[uW nD (.inl ⟨j,m,q,λk z=>n k z (Jj so z m)⟩)]
  exact h
 refine⟨by rw[uU]; exact e1.len,λb z=>w1 b (e1.zw b z),e1.z0,λb z=>e.wl b (w2 b z),e.f0,e.n0,λj u h=>?_,λj ts h=>?_,λj ts h=>?_,λj k a n1 n2=>e1.dis j k a (CV j n1) (CV k n2),λb o h=>?_,λj a m=>e1.pd j a (CV j m),λj ts h=>?_,λj k ts us n h1 h2=>gq.dd j k ts us n (wX I h1) (wX I h2),λj k ts c h1 m q=>gq.dm j k ts c (wX I h1) (CV k m) q,λj ts h=>gq.db j ts (wX I h),⟨e.tab.ok,λb z=>w1 b (e1.tab.w b z),e1.tab.r,e1.tab.B⟩⟩
 ·have h' : ρ1[j]?=some (.sh u):=by
   rcases uV I h with⟨k,us,q1,q2,q3⟩|⟨n,q⟩
   ·rcases uN q3 with⟨ne,_⟩|⟨_,⟨_,_,z⟩|⟨_,_,z⟩|⟨_,q⟩⟩
    ·exact(ne rfl).elim
    ·cases z
    ·cases z
    ·exact q
   ·exact q
  obtain⟨v,q1,q2⟩:=e1.sh j u h'
  exact⟨v,q1,q2.mono m1⟩
 ·rcases uV I h with⟨k,us,q1,q2,q3⟩|⟨n,q⟩
  ·rcases uN q3 with⟨ne,_⟩|⟨_,⟨ts0,q0,z⟩|⟨_,_,z⟩|⟨nm,q⟩⟩
   ·exact(ne rfl).elim
   ·cases z
    obtain⟨a,ys,h1,h2,h3,h4,h5⟩:=e1.ow j ts0 q0
    obtain⟨zs,k1,k2⟩:=inner k j ts a q1 q2 h1
    exact⟨a,zs,h1,w1 a h2,h3,k1,k2⟩
   ·cases z
   ·exact(nm ⟨ts,.inl q⟩).elim
  ·obtain⟨a,ys,h1,h2,h3,h4,h5⟩:=e1.ow j ts q
   exact⟨a,ys,h1,w1 a h2,h3,outer j a ys ⟨ts,.inl q⟩ n h1 h4,h5.mono m1⟩
 ·rcases uV I h with⟨k,us,q1,q2,q3⟩|⟨n,q⟩
  ·rcases uN q3 with⟨ne,_⟩|⟨_,⟨_,_,z⟩|⟨ts0,q0,z⟩|⟨nm,q⟩⟩
   ·exact(ne rfl).elim
   ·cases z
   ·cases z
    obtain⟨a,ys,h1,h2,h3,h4,h5⟩:=e1.rf j ts0 q0
    obtain⟨zs,k1,k2⟩:=inner k j ts a q1 q2 h1
    exact⟨a,zs,h1,w1 a h2,h3,k1,k2⟩
   ·exact(nm ⟨ts,.inr q⟩).elim
  ·obtain⟨a,ys,h1,h2,h3,h4,h5⟩:=e1.rf j ts q
   exact⟨a,ys,h1,w1 a h2,h3,outer j a ys ⟨ts,.inr q⟩ n h1 h4,h5.mono m1⟩
 ·have nD:b≠D:=λz=>by
   subst z
   rw[e1.Cz hD]at h
   cases h
  have nO:¬OU src ρ1 σ F b:=by
   rintro(⟨j,m,q,_⟩|⟨j,ts,d',z⟩)
   ·rw[e1.pd j b m q]at h
    cases h
   ·rw[gq.db j ts d' b z]at h
    cases h
  refine e.pn b o ?_
  rw[sS nD nO]
  exact h
 ·have hd:=wX I h
  obtain⟨a,ys,q1,d⟩:=gq.dp j ts hd
  have ww:∀b∈F j,W b:=λb hb=>by obtain⟨_,_,_,ww,_⟩:=d; exact(ww b hb).1
  refine⟨a,ys,q1,d.move rfl rfl m1 (λb hb=>w1 b (ww b hb)) λb o hb q=>?_⟩
  have nD:b≠D:=λz=>by subst z; exact e1.wn b (ww b hb) hD
  refine e.pn b o ?_
  rw[uW nD (.inr ⟨j,ts,hd,hb⟩)]
  exact q
end
def qu:Rv->Rs Tr
 |.v T _=>.ok T
 |.s _=>.bad
theorem abY(r:Rv)(c:Str):qu r ≠ .ex c:=by cases r <;> (intro z; cases z)
def iU(g:GF)(c:BF)(f:EF):List Tr->En->Rs (List Tr × En)
 | [],ρ=>.ok ([],ρ)
 |u::us,ρ=>(g u ρ).bind λρ1=>(c ρ1).bind λb=>if b.1=true then(f b.2).bind λp=>(qu p.1).bind λT=>(iU g c f us p.2).bind λz=>.ok (T::z.1,z.2)else iU g c f us b.2
def dR(src:List (Option Nat))(fi:IF)(g:GF)(c:BF)(f:EF):EF:=λρ=>(fi ρ).bind λp=>if p.1.length<=100000 then(dO (iU g c f p.1 (gW src p.2))).bind λz=>if gY src z.2 p.2=true then .ok (.v (.lst z.1) true,cU src z.2 p.2)else .bad else .bad
theorem abZ{t:Tx}{wi:TI}{g:TG}{src:List (Option Nat)}{tc:TT}{te:TE}{fi:IF}{gf:GF}{c:BF}{f:EF}{js:List Nat}(hi:SI t wi fi)(I:Inj src)(hj:∀k j:Nat,src[k]?=some (some j)->k∉js)(ng:∀T ρ c,gf T ρ ≠ .ex c)
  (hg:∀t':Tx,t'.K=t.K->(∀c,¬t'.EX c)->SG t' g gf js) (hc:∀t':Tx,t'.K=t.K->(∀c,¬t'.EX c)->ST t' tc c) (he:∀t':Tx,t'.K=t.K->(∀c,¬t'.EX c)->SE t' te f):SE t (Ji wi g src tc te) (dR src fi gf c f):=λW ρ σ H Q e h=>by
 refine hi W ρ σ H _ e (Rs.aY (Rs.aR h) λp h J H1 e1 s1 it=>?_)
 obtain⟨us,ρ1⟩:=p
 dsimp only at h it e1
 split at h
 case isFalse=>exact h.elim
 rename_i hlen
 intro D hD
 have h:=wW (Rs.aR h)
 obtain⟨F,gq⟩:=id e1
 have wD:∀b,W b->b≠D:=λb w z=>by subst z; exact e1.wn b w hD
 have h0D:t.H0 D=none:=e1.n0 D hD
 refine⟨λi m τ H'=>m=us.length-i/\i<=us.length/\∃ρ' xs acc,aH (ig t src ρ1 σ F H1 D xs) (λb=>W b\/b=D) ρ' τ H'/\aF t.K (aN (λb=>W b\/b=D) H') xs acc/\xs.length<=i/\(∀b o,¬W b->H1 b=some o->H' b=some o)/\(∀k,k∉js -> τ[k]?=(fY src σ)[k]?) /\
   (iU gf c f (us.drop i) ρ').post (λ_=>False) (λz=>(if gY src z.2 ρ1=true then .ok (.v (.lst (acc++z.1)) true,cU src z.2 ρ1)else .bad:Rs (Rv × En)).post t.EX (λp=>∀v H',aH t W p.2 σ H'->bL W H H'->gJ t W p.2 σ H H' v p.1->Q v H')),?_,?_⟩
 ·refine⟨us.length,by simp,Nat.zero_le _,gW src ρ1,[],[],gq.enter I hD,.nil,Nat.le_refl _,λb o _ q=>?_,λ_ _=>rfl,?_⟩
  ·rw[bJ (ji q hD)]; exact q
  ·rw[List.drop_zero]; exact h
 ·rintro i m τ H2 ⟨rfl,hi,ρ2,xs,acc,e2,r2,l2,n2,a2,h2⟩
  have sm:Same (aN W H1) (aN (λb=>W b\/b=D) H2):=λb o q=>by
   obtain⟨nw,q⟩:=jW q
   rw[gj]
   ·exact n2 b o nw q
   ·rintro(z|rfl)
    ·exact nw z
    ·rw[hD]at q; cases q
  have q:=it _ H2 sm e2.wl i
  by_cases hlt:i<us.length
  ·rw[List.drop_eq_getElem_cons hlt]at h2
   obtain⟨go,y⟩:=q.2 us[i] (by simp[hlt])
   refine .inr ⟨go,λx H3 yl=>?_⟩
   obtain⟨s3,r3⟩:=y x H3 yl
   have e3:=e2.grow s3
   refine hg (ig t src ρ1 σ F H1 D xs) rfl (λ_=>id) _ ρ2 τ H3 x us[i] _ e3 r3 (Rs.aY (jB (Rs.aR h2) (ng _ _)) λρ4 h σ4 e4 a4=>?_)
   refine hc (ig t src ρ1 σ F H1 D xs) rfl (λ_=>id) _ ρ4 σ4 H3 _ e4 (Rs.aY (Rs.aR h) λb h H5 e5 s5=>?_)
   have oG:bL (λb=>W b\/b=D) H2 H5:=(bL.of s3).trans s5
   have n5:∀b o,¬W b->H1 b=some o->H5 b=some o:=λb o nw qb=>by
    have nD:b≠D:=ji qb hD
    refine oG.keep b o ?_ (n2 b o nw qb)
    rintro(z|z)
    ·exact nw z
    ·exact nD z
   have a5:∀k,k∉js -> σ4[k]?=(fY src σ)[k]? := λk nk=>(a4 k nk).trans (a2 k nk)
   split at h
   ·rename_i cb
    rw[if_pos cb]
    refine he (ig t src ρ1 σ F H1 D xs) rfl (λ_=>id) _ b.2 σ4 H5 _ e5 (Rs.aY (Rs.aR h) λp h v H6 e6 s6 v6=>?_)
    obtain⟨T,kT,h⟩:=eE (Rs.aR h) (abY _)
    have rv:Rep t.K (aN (λb=>W b\/b=D) H6) v T:=by
     obtain⟨r,ρ7⟩:=p
     cases r with
     |s i=>cases kT
     |v U fr =>
      cases kT
      exact dJ.rep (K:=t.K) e5.wn v6.1
    refine⟨xs,e6.pn D _ sO,Nat.lt_of_le_of_lt (show xs.length<=100000 by omega) (by decide),us.length-(i+1),by omega,rfl,hlt,p.2,xs++[v],acc++[T],e6.abX (.inr rfl) h0D,?_,by rw[List.length_append]; simp; omega,λb o nw q=>?_,a5,?_⟩
    ·rw[oR (.inr rfl)]
     exact(r2.mono (oG.trans s6).off).app (.cons rv .nil)
    ·have nD:b≠D:=ji q hD
     rw[bJ nD]
     refine s6.keep b o ?_ (n5 b o nw q)
     rintro(z|z)
     ·exact nw z
     ·exact nD z
    ·refine Rs.aY (Rs.aR h) λz h=>?_
     rw[List.append_assoc]
     exact h
   ·rename_i cb
    rw[if_neg cb]
    exact⟨us.length-(i+1),by omega,rfl,hlt,b.2,xs,acc,e5,r2.mono oG.off,by omega,n5,a5,h⟩
  ·have z:i=us.length:=by omega
   subst z
   rw[List.drop_length]at h2
   have h2:(if gY src ρ2 ρ1=true then .ok (.v (.lst (acc++[])) true,cU src ρ2 ρ1)else .bad:Rs (Rv × En)).post t.EX _:=h2
   refine .inl ⟨q.1 rfl,?_⟩
   split at h2
   ·rename_i so
    rw[List.append_nil]at h2
    have hxs:H2 D=some (.lst xs):=e2.pn D _ sO
    have eW:aH t W (cU src ρ2 ρ1) σ H2:=⟨F,gq.leave (Wx:=W) I hD e2 n2 hj a2 so (λ_ w=>w) λ_ w=>.inl w⟩
    have eD:rP t W D (cU src ρ2 ρ1) σ H2:=⟨F,gq.leave (Wx:=λb=>W b\/b=D) I hD e2 n2 hj a2 so (λ_ w=>.inl w) λ_ w=>w,λi ts hi z=>by
     obtain⟨c,ys,_,bs,_,_,ww,_⟩:=gq.dp i ts (wX I hi)
     exact wD D (ww D z).1 rfl⟩
    have st:bL W H1 H2:=⟨n2,λb q=>by
     cases z:H1 b with
     |none=>rfl
     |some o =>
      by_cases w:W b
      ·exact((e2.wl b (.inl w)).ne q).elim
      ·rw[n2 b o w z]at q
       cases q⟩
    refine h2 (.ref D) H2 eW (s1.trans st) ⟨⟨D,xs,acc,rfl,rfl,s1.dom D hD,hxs,r2.mono λb o q=>?_⟩,λU a _ ea=>?_⟩
    ·obtain⟨nb,q⟩:=jW q
     rw[off_ne λz=>nb (.inr z),gj λz=>nb (.inl z)]
     exact q
    ·cases ea
     exact eD
   ·exact h2.elim
def c7:BF:=λρ=>.ok (true,ρ)
theorem ab0{wi:TI}{g:TG}{src:List (Option Nat)}{te:TE}:ux wi g src te=Ji wi g src (λ_ H Q=>Q true H) te:=by
 funext σ H Q
 simp only[ux,Ji,if_true]
theorem uX{t:Tx}{wi:TI}{g:TG}{src:List (Option Nat)}{te:TE}{fi:IF}{gf:GF}{f:EF}{js:List Nat}(hi:SI t wi fi)(I:Inj src)(hj:∀k j:Nat,src[k]?=some (some j)->k∉js)(ng:∀T ρ c,gf T ρ ≠ .ex c)
  (hg:∀t':Tx,t'.K=t.K->(∀c,¬t'.EX c)->SG t' g gf js) (he:∀t':Tx,t'.K=t.K->(∀c,¬t'.EX c)->SE t' te f):SE t (ux wi g src te) (dR src fi gf c7 f):=by
 rw[ab0]
 exact abZ hi I hj ng hg (λt' _ _ W ρ σ H Q e h=>h H e (bL.refl _ _)) he
theorem PS.kE{X:Cx}{st:Stmt}{t:TS}(h:PS X.kE st t):PS X st t:=⟨λpins s σ H D I hw =>
 wpAny_mono (h pins s σ H D (I.wish _) hw) (λ_ _ q=>q.qX) λ_ _ z=>False.elim z⟩
theorem aH.ex{t:Tx}{EX:Str->Prop}{W:Addr->Prop}{ρ : En}{σ : St}{H:Hp}(e:aH t W ρ σ H):aH {t with EX:=EX } W ρ σ H:=e.elim λF e=>⟨F,e.len,e.zw,e.z0,e.wl,e.f0,e.n0,e.sh,e.ow,e.rf,e.dis,e.pn,e.pd,e.dp,e.dd,e.dm,e.db,⟨e.tab.ok,e.tab.w,e.tab.r,e.tab.B⟩⟩
theorem aH.sU{t:Tx}{EX:Str->Prop}{W:Addr->Prop}{ρ : En}{σ : St}{H:Hp}(e:aH {t with EX:=EX } W ρ σ H):aH t W ρ σ H:=e.elim λF e=>⟨F,e.len,e.zw,e.z0,e.wl,e.f0,e.n0,e.sh,e.ow,e.rf,e.dis,e.pn,e.pd,e.dp,e.dd,e.dm,e.db,⟨e.tab.ok,e.tab.w,e.tab.r,e.tab.B⟩⟩
def fO(f:SF):SF:=λρ=>dO (f ρ)
theorem Jo{t:Tx}{ts:TS}{f:SF}(h:∀t':Tx,t'.K=t.K->(∀c,¬t'.EX c)->SS t' ts f):SS t ts (fO f):=λW ρ σ H D e q=>by
 refine h {t with EX:=λ_=>False } rfl (λ_=>id) W ρ σ H D e.ex (Rs.aY (wW q) λp q=>?_)
 obtain⟨fl,ρ'⟩:=p
 cases fl with
 |nx=>exact λW' σ' H' e' n=>q W' σ' H' e'.sU n
 |rt T fr =>
  refine λv W' σ' H' e' n=>q v W' σ' H' e'.sU ?_
  cases fr <;> exact n
 |bk=>exact λW' σ' H' e' n=>q W' σ' H' e'.sU n
 |ct=>exact λW' σ' H' e' n=>q W' σ' H' e'.sU n
theorem ab1{p:Int->Int->Int}(a b:Tr)(c:Str):gI p a b ≠ .ex c:=by
 cases a <;> cases b <;> (intro z; cases z)
theorem Jp{q:Int->Int->Bool}{p:Int->Int->Int}(a b:Tr)(c:Str):gK q p a b ≠ .ex c:=by
 cases a <;> cases b <;> first|(intro z; cases z; done)|(dsimp only[gK]; split <;> (intro z; cases z))
theorem Jq{p:Int->Int->Bool}(a b:Tr)(c:Str):gB p a b ≠ .ex c:=by
 cases a <;> cases b <;> (intro z; cases z)
theorem ab2(a b:Tr)(c:Str):dX a b ≠ .ex c:=by unfold dX; split <;> (intro z; cases z)
theorem ab3(a b:Tr)(c:Str):fC a b ≠ .ex c:=by unfold fC; split <;> (intro z; cases z)
theorem RT{f:Bool->Bool}(a b:Tr)(c:Str):iK f a b ≠ .ex c:=by
 cases b <;> first|(intro z; cases z; done)|(dsimp only[iK]; split <;> (intro z; cases z))
theorem ab4{f:Bool->Bool}(a b:Tr)(c:Str):yP f a b ≠ .ex c:=by
 cases b <;> (intro z; cases z)
theorem ab5(a b:Tr)(c:Str):bW a b ≠ .ex c:=by
 cases a <;> cases b <;> first|(intro z; cases z; done)|(dsimp only[bW]; split <;> (intro z; cases z))
theorem ab6(a b:Tr)(c:Str):bR a b ≠ .ex c:=by
 cases a <;> cases b <;> first|(intro z; cases z; done)|(dsimp only[bR]; split <;> (intro z; cases z))
theorem ab7(a b:Tr)(c:Str):eO a b ≠ .ex c:=Jp a b c
theorem ab8(a b:Tr)(c:Str):dh a b ≠ .ex c:=Jp a b c
theorem ab9(a b:Tr)(c:Str):lX a b ≠ .ex c:=Jp a b c
theorem acd(a b:Tr)(c:Str):iM a b ≠ .ex c:=ab1 a b c
theorem ace(a b:Tr)(c:Str):oU a b ≠ .ex c:=Jq a b c
theorem Jr(a b:Tr)(c:Str):fD a b ≠ .ex c:=Jq a b c
theorem acf(a b:Tr)(c:Str):jZ a b ≠ .ex c:=Jq a b c
theorem acg(a b:Tr)(c:Str):gU a b ≠ .ex c:=by
 cases a <;> cases b <;> first|(intro z; cases z; done)|(dsimp only[gU]; split <;> (intro z; cases z))
theorem ach(a b:Tr)(c:Str):aC a b ≠ .ex c:=by
 cases a <;> cases b <;> first|(intro z; cases z; done)|(dsimp only[aC]; split <;> first|(intro z; cases z; done)|(split <;> (intro z; cases z)))
theorem aci(a:Tr)(c:Str):nu a ≠ .ex c:=by cases a <;> (intro z; cases z)
theorem acj(a:Tr)(c:Str):bM a ≠ .ex c:=by
 cases a <;> first|(intro z; cases z; done)|(dsimp only[bM]; split <;> (intro z; cases z))
theorem acn(a:Tr)(c:Str):lY a ≠ .ex c:=by cases a <;> (intro z; cases z)
theorem aco(a:Tr)(c:Str):gG a ≠ .ex c:=by
 cases a <;> first|(intro z; cases z; done)|(dsimp only[gG]; split <;> (intro z; cases z))
theorem cJ{i:Nat}(T:Tr)(ρ : En)(c:Str):gN i T ρ ≠ .ex c:=by intro z; cases z
theorem uY(Ts:List Tr)(ρ : En)(c:Str):dz Ts ρ ≠ .ex c:=by cases Ts <;> (intro z; cases z)
theorem ju{f:GF}{g:nC}(h1:∀T ρ c,f T ρ ≠ .ex c)(h2:∀T ρ c,g T ρ ≠ .ex c)(Ts:List Tr)(ρ : En)(c:Str):bA f g Ts ρ ≠ .ex c:=by
 cases Ts with
 |nil=>intro z; cases z
 |cons T r=>exact abT (h1 T ρ) (λρ'=>h2 r ρ') c
theorem uZ{n:Nat}{f:nC}(h:∀T ρ c,f T ρ ≠ .ex c)(T:Tr)(ρ : En)(c:Str):gT n f T ρ ≠ .ex c:=by
 cases T <;> first|(intro z; cases z; done)|(dsimp only[gT]; split <;> first|exact h _ _ _|(intro z; cases z))
def yZ(f:AF)(n:Nat):Prop:=∀ρ p,f ρ=.ok p->p.1.length=n
theorem dB:yZ au 0:=λρ p h=>by cases h; rfl
theorem bF{f:EF}{g:AF}{n:Nat}(h:yZ g n):yZ (ak f g) (n+1):=λρ p q=>by
 unfold ak at q
 obtain⟨a,q1,q⟩:=iQ q
 obtain⟨b,q2,q⟩:=iQ q
 cases q
 rw[List.length_cons,h _ _ q2]
def Gk(K:FZ)(mg:Str->Option Value)(x:Str)(v:V)(T:Tr):Prop:=∃u,mg x=some u/\RelV v u/\∀H,Rep (aD K) H v T
theorem acp{X:Cx}{x:Str}{v:V}{T:Tr}{pos:Pos}(h:Gk X.K X.mg x v T)(hg:Gl X x:=by rfl)(hd:(x == ("__debug__" : Str))=false:=by decide):PE X (.Name x pos) (tC v):=by
 obtain⟨u,h1,h2,_⟩:=h
 exact YT hg h1 h2 hd
theorem qw{t:Tx}{K:FZ}{mg:Str->Option Value}{x:Str}{v:V}{T:Tr}(hK:t.K=aD K)(h:Gk K mg x v T):SE t (tC v) (eC T):=by
 obtain⟨u,_,_,h⟩:=h
 exact yN λH=>by rw[hK]; exact h H
section
variable {t:Tx}{K:FZ}{ta tb tc:TE}{fa fb fc:EF}
theorem u0(hK:t.K=aD K)(ha:SE t ta fa)(hb:SE t tb fb):SE t (gD (Iv K) ta tb) (aq bW fa fb):=jF (by rw[hK]; exact aa4) ab5 ha hb
theorem Jt(hK:t.K=aD K)(ha:SE t ta fa)(hb:SE t tb fb):SE t (gD (iu λi j=>.int (i-j)) ta tb) (aq iM fa fb):=jF (by rw[hK]; exact aa9) acd ha hb
theorem acq(hK:t.K=aD K)(ha:SE t ta fa)(hb:SE t tb fb):SE t (gD (Iw K) ta tb) (aq bR fa fb):=jF (by rw[hK]; exact aa5 (K:=K)) ab6 ha hb
theorem CW(hK:t.K=aD K)(ha:SE t ta fa)(hb:SE t tb fb):SE t (gD (rI Cp λi j=>.int (i.fdiv j)) ta tb) (aq eO fa fb):=jF (by rw[hK]; exact aa6) ab7 ha hb
theorem Ju(hK:t.K=aD K)(ha:SE t ta fa)(hb:SE t tb fb):SE t (gD (rI (λ_ j=>j≠0) λi j=>.int (i.fmod j)) ta tb) (aq dh fa fb):=jF (by rw[hK]; exact aa7) ab8 ha hb
theorem acr(hK:t.K=aD K)(ha:SE t ta fa)(hb:SE t tb fb):SE t (gD (rI G7 λi j=>.int (i ^ j.toNat)) ta tb) (aq lX fa fb):=jF (by rw[hK]; exact aa8) ab9 ha hb
theorem x_eq(hK:t.K=aD K)(ha:SE t ta fa)(hb:SE t tb fb):SE t (gD (HX K) ta tb) (aq dX fa fb):=jF (by rw[hK]; exact aaY) ab2 ha hb
theorem za(hK:t.K=aD K)(ha:SE t ta fa)(hb:SE t tb fb):SE t (gD (Im K) ta tb) (aq fC fa fb):=jF (by rw[hK]; exact aaZ) ab3 ha hb
theorem RV(hK:t.K=aD K)(ha:SE t ta fa)(hb:SE t tb fb):SE t (gD (HY K) ta tb) (aq (iK id) fa fb):=jF (by rw[hK]; exact aa0) RT ha hb
theorem acs(hK:t.K=aD K)(ha:SE t ta fa)(hb:SE t tb fb):SE t (gD (Ij K) ta tb) (aq (iK not) fa fb):=jF (by rw[hK]; exact aa1) RT ha hb
theorem acu(hK:t.K=aD K)(ha:SE t ta fa)(hb:SE t tb fb):SE t (gD (λx y H Q=>y=.non/\Q (.bl (!decide (x=.non))) H) ta tb) (aq (yP not) fa fb):=jF (by rw[hK]; exact aa3) ab4 ha hb
theorem x_lt(hK:t.K=aD K)(ha:SE t ta fa)(hb:SE t tb fb):SE t (gD (IV K) ta tb) (aq gU fa fb):=jF (by rw[hK]; exact abe) acg ha hb
theorem acv(hK:t.K=aD K)(ha:SE t ta fa)(hb:SE t tb fb):SE t (gD (iu λi j=>.bl (decide (j<i))) ta tb) (aq oU fa fb):=jF (by rw[hK]; exact abb) ace ha hb
theorem x_ge(hK:t.K=aD K)(ha:SE t ta fa)(hb:SE t tb fb):SE t (gD (iu λi j=>.bl (decide (j<=i))) ta tb) (aq jZ fa fb):=jF (by rw[hK]; exact abd) acf ha hb
theorem mD(hK:t.K=aD K)(ha:SE t ta fa)(hb:SE t tb fb):SE t (gD (BJ K) ta tb) (aq aC fa fb):=jF (by rw[hK]; exact Rh) ach ha hb
theorem RW(hK:t.K=aD K){r r':R2}{g g':G2}(o:f9 (aD K) r g)(o':f9 (aD K) r' g')(n:∀a b c,g a b ≠ .ex c)(n':∀a b c,g' a b ≠ .ex c)(ha:SE t ta fa)(hb:SE t tb fb)(hc:SE t tc fc):SE t (Bv r r' ta tb tc) (rZ g g' fa fb fc):=abn (by rw[hK]; exact o) (by rw[hK]; exact o') n n' ha hb hc
theorem RX(ha:SE t ta fa):SE t (yt (rU λi=>.int (-i)) ta) (wM nu fa):=abf Ri aci ha
variable {tl:TA}{fl:AF}
theorem x_len(hK:t.K=aD K)(ha:SA t tl fl):SE t (jm (Ja K) tl) (bK (g1 bM) fl):=Cv (by rw[hK]; exact Cy abr) (Cw acj) ha
theorem acw(hK:t.K=aD K)(ha:SA t tl fl):SE t (jm (λxs H Q=>∃i,xs=[.int i]/\Q (.int (if i<0 then -i else i)) H) tl) (bK (g1 lY) fl):=Cv (by rw[hK]; exact Cy abt) (Cw acn) ha
theorem Jv(hK:t.K=aD K)(ha:SA t tl fl):SE t (jm (Ia K) tl) (bK (g1 gG) fl):=Cv (by rw[hK]; exact Cy aby) (Cw aco) ha
theorem mF(hK:t.K=aD K){cl:Str->Addr}{n:Nat}{F:FP}{E:XK}(hx:∀c H',F0 t H'->t.EX c->E (.ref (cl c)) none H')(hn:yZ fl n)(ha:SA t tl fl):SE t (rE (aQ K cl n F) [] E tl) (aG F fl):=RL hK hx hn ha
theorem gw(hK:t.K=aD K){cl:Str->Addr}{n:Nat}{F:FP}{E:XK}(hx:∀c,¬t.EX c)(hn:yZ fl n)(ha:SA t tl fl):SE t (rE (aQ K cl n F) [] E tl) (aG F fl):=RL hK (λc H' _ q=>(hx c q).elim) hn ha
theorem RZ{te:TE}{f:EF}(i:Nat)(h:SE t te f):SE t (Ht K "list" Hw (kj i) (kY te kW)) (lZ i jf (ak f au)):=abH i abJ abK (aL h bG)
end
def qx(i:Nat)(ρ : En):Nat:=match ρ[i]? with
 |some (.sh (.int n))=>n.natAbs+1
 |_=>0
theorem vd{src:List (Option Nat)}{js:List Nat}(h:js.all (λk=>(src[k]?).join.isNone)=true):∀k j:Nat,src[k]?=some (some j)->k∉js:=λk j q m=>by
 have:=List.all_eq_true.mp h k m
 rw[q]at this
 cases this
abbrev o7:List Value:=[.type "ValueError",.type "Exception",.type "BaseException",.type "object"]
def zf:G1
 |.lst ts=>.ok (.lst ts.reverse,true)
 |_=>.bad
theorem aF.rev{K:FZ}{H:Hp}:∀{xs:List V} {ts:List Tr},aF K H xs ts->aF K H xs.reverse ts.reverse
 |_,_,.nil=>.nil
 |_,_,.cons h r=>by
  rw[List.reverse_cons,List.reverse_cons]
  exact(aF.rev r).app (.cons h .nil)
theorem acy(a:Tr)(c:Str):zf a ≠ .ex c:=by cases a <;> (intro z; cases z)
def vf(fa:EF):EF:=λρ=>(fa ρ).bind λp=>(dr p.2 p.1).bind λa=>(zf a).bind λz=>.ok (.v z.1 z.2,p.2)
theorem Jw{t:Tx}{K:FZ}(hK:t.K=aD K){ta:TE}{fa:EF}(ha:SE t ta fa):SE t (Q0 K ta (Hl (yt (rU λi=>.int (-i)) (tC (.int 1))))) (vf fa):=λW ρ σ H Q e h=>by
 refine ha W ρ σ H _ e (Rs.aY (Rs.aR h) λp h x H1 e1 s1 v1=>?_)
 obtain⟨a,k1,h⟩:=eE (Rs.aR h) (jY _ _)
 obtain⟨z,k2,h⟩:=eE (Rs.aR h) (acy _)
 have rx:=jX e1 e.wn v1.1 k1
 cases a <;> try cases k2
 rename_i ts
 have R0:=rx
 rw[hK]at R0
 obtain⟨b,xs,rfl,q,r⟩:=R0.lst
 refine⟨1,rfl,-1,rfl,rfl,b,xs,rfl,q.toK,λy hy=>h _ _ (e1.grow (dW hy _)) (s1.trans (bL.of (dW hy _))) ?_⟩
 rw[<-hK]at r
 exact(gJ.of (σ' := σ) e1 (dW hy _) (dJ.new hy r.rev)).back s1.dom
def vg(i:Int):TE:=λ_ H Q=>Q (.int i) H
def kI:Const->Option Int
 |.int i=>some i
 |_=>none
def bI(o:Operator)(i j:Int):Option Int:=match o with
 |.Sub=>some (i-j)
 |.Add=>some (i+j)
 |.Pow=>if 0<=j/\j<=100/\i.natAbs<=1000 then some (i ^ j.toNat)else none
 |_=>none
def uI(o:UnaryOp)(i:Int):Option Int:=match o with
 |.USub=>some (-i)
 |_=>none
def cI:Expr->Option Int
 |.Constant c _ _=>kI c
 |.UnaryOp o e _=>(cI e).bind (uI o)
 |.BinOp a o b _=>(cI a).bind λi=>(cI b).bind λj=>bI o i j
 |_=>none
theorem acz{X:Cx}{c:Const}{k:Nat}{p:Pos}{i:Int}(h:kI c=some i):PE X (.Constant c k p) (vg i):=by
 cases c <;> first|(cases h; exact aK)|cases h
theorem acA{X:Cx}{o:UnaryOp}{e:Expr}{p:Pos}{i k:Int}(h:uI o i=some k)(he:PE X e (vg i)):PE X (.UnaryOp o e p) (vg k):=by
 cases o <;> first|(cases h; exact(um uo he).imp λσ H Q q=>⟨i,rfl,q⟩)|cases h
theorem acB{X:Cx}{o:Operator}{a b:Expr}{p:Pos}{i j k:Int}(h:bI o i j=some k)(ha:PE X a (vg i))(hb:PE X b (vg j)):PE X (.BinOp a o b p) (vg k):=by
 cases o <;> try cases h
 ·exact(aZ O9 ha hb).imp λσ H Q q=>⟨i,j,rfl,rfl,q⟩
 ·exact(aZ rz ha hb).imp λσ H Q q=>⟨i,j,rfl,rfl,q⟩
 ·dsimp only[bI]at h
  split at h
  ·rename_i c
   cases h
   have z:(2:Nat) ^ 64=18446744073709551616:=by decide
   exact(aZ Bu ha hb).imp λσ H Q q=>⟨i,j,rfl,rfl,⟨c.1,by omega,by omega⟩,q⟩
  ·cases h
theorem CZ{X:Cx}(e:Expr)(k:Int)(h:cI e=some k):PE X e (vg k):=by
 cases e with
 |Constant c _ _=>exact acz h
 |UnaryOp o a _ =>
  have h:(cI a).bind (uI o)=some k:=h
  cases e1:cI a with
  |none=>rw[e1]at h; cases h
  |some i=>rw[e1]at h; exact acA h (CZ a i e1)
 |BinOp a o b _ =>
  have h:((cI a).bind λi=>(cI b).bind λj=>bI o i j)=some k:=h
  cases e1:cI a with
  |none=>rw[e1]at h; cases h
  |some i =>
   cases e2:cI b with
   |none=>rw[e1,e2]at h; cases h
   |some j=>rw[e1,e2]at h; exact acB h (CZ a i e1) (CZ b j e2)
 |_=>cases h
def kT:Const->Option Tr
 |.none=>some .non
 |.bool b=>some (.bl b)
 |.str x=>some (.str x)
 |.int i=>some (.int i)
 |_=>none
mutual
noncomputable def cT:Expr->Option Tr
 |.Constant c _ _=>kT c
 |.Tuple es _ _=>(j7 es).map .tup
 |.List es _=>(j7 es).map .lst
 |.UnaryOp o a p=>(cI (.UnaryOp o a p)).map .int
 |.BinOp a o b p=>(cI (.BinOp a o b p)).map .int
 |_=>none
noncomputable def j7:List Expr->Option (List Tr)
 | []=>some []
 |e::r=>match cT e,j7 r with
  |some T,some Ts=>if Ts.length<1000 then some (T::Ts)else none
  |_,_=>none
end
theorem Dc:∀{es:List Expr} {Ts:List Tr},j7 es=some Ts->Ts.length<=1000
 | [],Ts,h=>by
  unfold j7 at h
  cases h
  decide
 |e::r,Ts,h=>by
  unfold j7 at h
  split at h
  ·split at h
   ·cases h
    rename_i h1
    rw[List.length_cons]
    omega
   ·cases h
  ·cases h
section
variable {X:Cx}{e:Expr}{es:List Expr}{T:Tr}{Ts:List Tr}{pos:Pos}{k:Nat}{G:FZ}
theorem acC:PA X [] (wJ G []):=aB.imp λσ H Q q=>q [] H (Same.refl _) λ_ _=>.nil
theorem acD(h:PE X e (rN G T))(r:PA X es (wJ G Ts))(hs:starEach (e::es) X.env=(false,eval e X.env)::starEach es X.env):PA X (e::es) (wJ G (T::Ts)) :=
 (oJ h r hs).imp λσ H Q q v H1 s1 rv vs H2 s2 rs=>q (v::vs) H2 (s1.trans s2) λPr p=>.cons ((rv Pr p).mono (p.mono s2)) (rs Pr (p.le s1))
theorem R3(h:PA X es (wJ G Ts))(hl:Ts.length<=1000):PE X (.Tuple es k pos) (rN G (.tup Ts)) :=
 (oK h).imp λσ H Q q vs H1 s1 rs=>by
  by_cases hv:vs.length<=sizeLine
  ·exact⟨hv,λa ha=>q (.ref a) _ (s1.trans (dW ha _)) λPr p=>.tup (cV.of ((p.le s1).new (Same.refl _) ha)) ((rs Pr p).mono (p.mono (dW ha _)))⟩
  ·exact absurd (Nat.le_of_lt (Hz (by rw[(rs _ (Pj.id H)).length]; exact hl))) hv
theorem R4(h:PA X es (wJ G Ts))(hl:Ts.length<=1000):PE X (.List es pos) (Ce G Ts) :=
 (oM h).imp λσ H Q q vs H1 s1 rs=>by
  have e:=(rs _ (Pj.id H)).length
  exact⟨Nat.le_of_lt (Hz (by rw[e]; exact hl)),λa ha=>q a vs H1 s1 ha rs e⟩
theorem acE(h:PE X e (Ce G Ts)):PE X e (rN G (.lst Ts)) :=
 h.imp λσ H Q q a xs H1 s1 ha rs _=>q (.ref a) _ (s1.trans (dW ha _)) λPr p=>.lst (bZ.of ((p.le s1).new (Same.refl _) ha)) ((rs Pr p).mono (p.mono (dW ha _)))
theorem R5(h:(cI e).map Tr.int=some T):PE X e (rN G T):=by
 cases e1:cI e with
 |none=>rw[e1]at h; cases h
 |some i =>
  rw[e1]at h; cases h
  exact(CZ e i e1).imp λσ H Q q=>q _ H (Same.refl _) λ_ _=>.int i
end
theorem acF{e:Expr}{es:List Expr}{env:Env}{T:Tr}(h:cT e=some T):starEach (e::es) env=(false,eval e env)::starEach es env:=by
 cases e <;> first|rfl|(unfold cT at h; cases h)
theorem acG{X:Cx}{G:FZ}{c:Const}{k:Nat}{p:Pos}{T:Tr}(h:kT c=some T):PE X (.Constant c k p) (rN G T):=by
 cases c <;> try cases h
 ·exact GD.imp λσ H Q q=>q _ H (Same.refl _) λ_ _=>.non
 ·exact jk.imp λσ H Q q=>q _ H (Same.refl _) λ_ _=>.bl _
 ·exact aK.imp λσ H Q q=>q _ H (Same.refl _) λ_ _=>.int _
 ·exact jC.imp λσ H Q q=>q _ H (Same.refl _) λ_ _=>.str _
mutual
theorem acH{X:Cx}{G:FZ}(e:Expr)(T:Tr)(h:cT e=some T):PE X e (rN G T):=by
 cases e with
 |Constant c _ _=>exact acG (by unfold cT at h; exact h)
 |Tuple es _ _ =>
  unfold cT at h
  cases e:j7 es with
  |none=>rw[e]at h; cases h
  |some Ts =>
   rw[e]at h
   cases h
   exact R3 (zj es Ts e) (Dc e)
 |List es _ =>
  unfold cT at h
  cases e:j7 es with
  |none=>rw[e]at h; cases h
  |some Ts =>
   rw[e]at h
   cases h
   exact acE (R4 (zj es Ts e) (Dc e))
 |UnaryOp o a p=>exact R5 (by unfold cT at h; exact h)
 |BinOp a o b p=>exact R5 (by unfold cT at h; exact h)
 |_=>unfold cT at h; cases h
theorem zj{X:Cx}{G:FZ}:∀(es:List Expr) (Ts:List Tr),j7 es=some Ts->PA X es (wJ G Ts)
 | [],Ts,h=>by
  unfold j7 at h; cases h
  exact acC
 |e::r,Ts,h=>by
  unfold j7 at h
  cases e1:cT e with
  |none=>rw[e1]at h; cases h
  |some T =>
   cases e2:j7 r with
   |none=>rw[e1,e2]at h; cases h
   |some Us =>
    rw[e1,e2]at h
    dsimp only at h
    split at h
    ·cases h
     exact acD (acH e T e1) (zj r Us e2) (acF e1)
    ·cases h
end
theorem acI{X:Cx}{G:FZ}{es:List Expr}{pos:Pos}{Ts:List Tr}(h:j7 es=some Ts):PE X (.List es pos) (Ce G Ts):=R4 (zj es Ts h) (Dc h)
theorem wY{X:Cx}{G:FZ}{es:List Expr}{k:Nat}{pos:Pos}{Ts:List Tr}(h:j7 es=some Ts):PE X (.Tuple es k pos) (rN G (.tup Ts)):=R3 (zj es Ts h) (Dc h)
theorem Pj.aN{W:Addr->Prop}{H:Hp}(hw:∀b,W b->H b≠none):Pj (L2.aN W) H where
 mono:=λs=>(bL.of s).off
 sub:=λH=>iw W H
 new:=λ{H' r o} s h=>by
  rw[gj λw=>hw r w (s.free h)]
  exact eX
def Dd(Ts:List Tr):EF:=λρ=>.ok (.v (.lst Ts) true,ρ)
theorem Df{t:Tx}{K:FZ}(hK:t.K=aD K){T:Tr}:SE t (rN (aD K) T) (eC T):=λW ρ σ H Q e h=>λv H' s r=>by
 rw[<-hK]at r
 exact h v H' (e.grow s) (bL.of s) (.low (r _ (Pj.aN e.wn)))
theorem acJ{t:Tx}{K:FZ}(hK:t.K=aD K){Ts:List Tr}:SE t (Ce (aD K) Ts) (Dd Ts):=λW ρ σ H Q e h=>λa xs H1 s ha r _=>by
 rw[<-hK]at r
 have e1:=e.grow s
 exact h _ _ (e1.grow (dW ha _)) ((bL.of s).trans (bL.of (dW ha _))) ((gJ.of (σ' := σ) e1 (dW ha _) (dJ.new ha (r _ (Pj.aN e.wn)))).back λb q=>s.free q)
def zm:Expr->Bool
 |.ListComp .. => false
 |.SetComp .. => false
 |.DictComp .. => false
 |_=>true
theorem Jx{e:Expr}{t:Option Expr}{l:Nat}{env:Env}(h:zm e=true):swapsWith e t l env=pure false:=by
 cases e <;> first|rfl|(unfold zm at h; cases h)
section
variable {X:Cx}{x:Str}{e:Expr}{es:List Expr}{te:TE}{ta:TA}{pos pos' p:Pos}{k:Nat}{ps:List Str}{sp:Sp}{E:XK}
theorem ao(i:Nat)(hN:X.N[i]?=some x:=by kernel_rfl)(hv:X.env.scope.names.lookup x=some .local:=by kernel_rfl)(hd:(x == ("__debug__" : Str))=false:=by kernel_rfl) (hc:(x == ("__classdict__" : Str))=false:=by kernel_rfl):PE X (.Name x pos) (kj i):=GC hN (.inl hv) hd hc
theorem jK(i:Nat)(hN:X.N[i]?=some x:=by kernel_rfl)(hv:X.env.scope.names.lookup x=some .cell:=by kernel_rfl)(hd:(x == ("__debug__" : Str))=false:=by kernel_rfl) (hc:(x == ("__classdict__" : Str))=false:=by kernel_rfl):PE X (.Name x pos) (kj i):=GC hN (.inr (.inl hv)) hd hc
theorem pvF(i:Nat)(hN:X.N[i]?=some x:=by kernel_rfl)(hv:X.env.scope.names.lookup x=some .free:=by kernel_rfl)(hd:(x == ("__debug__" : Str))=false:=by kernel_rfl) (hc:(x == ("__classdict__" : Str))=false:=by kernel_rfl):PE X (.Name x pos) (kj i):=GC hN (.inr (.inr hv)) hd hc
theorem cG(i:Nat)(hN:X.N.Nodup)(he:PE X e te)(hi:X.N[i]?=some x:=by kernel_rfl)(hx:X.env.scope.names.lookup x=some .local:=by kernel_rfl)(h:zm e=true:=by kernel_rfl):PS X (.Assign [.Name x pos'] e pos) (lR te (dU i)):=OJ hN hi (.inl hx) he (Jx h) (.inr hx)
theorem Dg(i:Nat)(hN:X.N.Nodup)(hf:X.fn x=true)(he:PE X e te)(hi:X.N[i]?=some x:=by kernel_rfl)(hx:X.env.scope.names.lookup x=some .cell:=by kernel_rfl)(h:zm e=true:=by kernel_rfl):PS X (.Assign [.Name x pos'] e pos) (lR te (dU i)):=OJ hN hi (.inr hx) he (Jx h) (.inl hf)
theorem psE(he:PE X e te)(h:zm e=true:=by kernel_rfl):PS X (.Expr e pos) (yr te):=Y4 he (Jx h)
theorem cC(i:Nat)(hN:X.N.Nodup)(hi:X.N[i]?=some x:=by kernel_rfl)(hx:X.env.scope.names.lookup x=some .local:=by kernel_rfl):PG X (.Name x pos) (dU i):=Y5 hN hi (.inl hx) (.inr hx)
theorem R6(D:aM X.prog X.w X.K X.mg X.base k x ps sp)(hr:fL k X.A)(hx:Passes (jr X.prog X.w) X E)(ha:PA X (e::es) ta)(hg:X.env.kindOf x=some .globalImplicit:=by kernel_rfl)(hdb:(x == ("__debug__" : Str))=false:=by kernel_rfl)
  (he:notStar e=true:=by kernel_rfl) (hpl:(backTo pos (starEach es X.env)).any (·.1)=false:=by kernel_rfl):PE X (.Call (.Name x p) (e::es) [] pos) (rE sp [] E ta):=abR D hr hx ha hg hdb (wI he) hpl
theorem eF{r:List V->Hp->VK->Prop}{id:String}(hc:iH X (.builtin id) r)(hm:X.mg x=none)(ha:PA X (e::es) ta)(hv:bootBuiltins x=some (.builtin id):=by decide +kernel)(hg:X.env.kindOf x=some .globalImplicit:=by kernel_rfl)(hn:x ≠ "__name__" := by decide +kernel) (hdb:(x == ("__debug__" : Str))=false:=by kernel_rfl)
  (he:notStar e=true:=by kernel_rfl) (hpl:(backTo pos (starEach es X.env)).any (·.1)=false:=by kernel_rfl):PE X (.Call (.Name x p) (e::es) [] pos) (jm r ta):=PK hc hg hm hv ha hn hdb (wI he) hpl
theorem vh(hX:Ca X.K)(c:Ty){q:Pos}(he:PE X e te)(h1:X.mg "isinstance" = none) (h2:X.mg x=none) (hb:bootBuiltins x=some (.type c.name):=by decide +kernel) (hg1:X.env.kindOf "isinstance" = some .globalImplicit:=by kernel_rfl) (hg2:X.env.kindOf x=some .globalImplicit:=by kernel_rfl) (hn:x ≠ "__name__" := by decide +kernel) (hd:(x == ("__debug__" : Str))=false:=by kernel_rfl)
  (hs:notStar e=true:=by kernel_rfl):PE X (.Call (.Name "isinstance" p) [e,.Name x q] [] pos) (jm (BZ X.K) (kY te (kY (tC (.ty c.name)) kW))):=aat hX c he h1 h2 hb hg1 hg2 hn hd (wI hs)
theorem aA{t:TA}(ha:PE X e te)(hr:PA X es t)(h:notStar e=true:=by kernel_rfl):PA X (e::es) (kY te t):=oJ ha hr (wI h)
theorem o8{v:V}{T:Tr}(h:Gk X.K X.mg x v T)(hg:X.env.kindOf x=some .globalImplicit:=by kernel_rfl)(hd:(x == ("__debug__" : Str))=false:=by kernel_rfl):PE X (.Name x pos) (tC v):=acp h hg hd
theorem o9{a tg:Expr}(hm:X.mg "range" = none) (ha:PA X [a] ta) (hg:X.env.kindOf "range" = some .globalImplicit:=by kernel_rfl) (hs:notStar a=true:=by kernel_rfl):PI X tg (.Call (.Name "range" p) [a] [] pos) (G4 ta):=Zc hg hm ha (wI hs)
end
section
variable {t:Tx}{W:Addr->Prop}{ρ : En}{σ : St}{H:Hp}
def vm(ρ : En)(i:Nat):Rs (List Tr):=match ρ[i]? with
 |some (.dp ts)=>.ok ts
 |_=>.bad
end
abbrev QF:=En->Rs Tr
section
variable {t:Tx}{K:FZ}
def acK(i:Nat):QF:=λρ=>match ρ[i]? with
 |some (.sh T)=>.ok T
 |_=>.bad
def qC(T:Tr):QF:=λ_=>.ok T
def pA(ts:List Tr)(k:Tr):Rs (Nat × Tr):=match k with
 | .int i=>(match gh ts.length i with
  | some j=>(match ts[j]? with
   |some u=>.ok (j,u)
   |none=>.bad)
  |none=>.bad)
 |_=>.bad
def acL(i:Nat)(fk fj:QF):QF:=λρ=>(vm ρ i).bind λts=>(fk ρ).bind λk=>(pA ts k).bind λz=>match z.2 with
 |.lst us=>(fj ρ).bind λj=>(pA us j).bind λy=>.ok y.2
 |_=>.bad
def acM(i:Nat)(fk:QF)(m:GM)(fa:QF):SF:=λρ=>(vm ρ i).bind λts=>(dO (fk ρ)).bind λk=>(pA ts k).bind λz=>match z.2 with
 |.lst us=>(dO (fa ρ)).bind λT=>(m us [T]).bind λy=>.ok (.nx,ρ.set i (.dp (ts.set z.1 (.lst y.1))))
 |_=>.bad
noncomputable def acN(i:Nat)(fk fj:QF)(fe:EF):SF:=λρ=>(fe ρ).bind λp=>(qu p.1).bind λT=>(vm p.2 i).bind λts=>(dO (fk p.2)).bind λk=>(pA ts k).bind λz=>match z.2 with
 |.lst us=>(dO (fj p.2)).bind λj=>(pA us j).bind λy=>.ok (.nx,p.2.set i (.dp (ts.set z.1 (.lst (us.set y.1 T)))))
 |_=>.bad
def Jy(i:Nat)(ρ : En):En:=match ρ[i]? with
 |some (.dp ts)=>ρ.set i (.ow ts)
 |_=>ρ
def acO(i:Nat)(f:SF):SF:=λρ=>f (Jy i ρ)
end
def R7:Rv->Rs Tr
 |.v (.lst us) true=>.ok (.lst us)
 |_=>.bad
def Dh(g:GF)(c:BF)(f:EF):List Tr->En->Rs (List Tr × En)
 | [],ρ=>.ok ([],ρ)
 |u::us,ρ=>(g u ρ).bind λρ1=>(c ρ1).bind λb=>if b.1=true then(f b.2).bind λp=>(R7 p.1).bind λT=>(Dh g c f us p.2).bind λz=>.ok (T::z.1,z.2)else Dh g c f us b.2
def acP(i:Nat)(src:List (Option Nat))(fi:IF)(g:GF)(c:BF)(f:EF):SF:=λρ=>(fi ρ).bind λp=>if p.1.length<=100000 then(dO (Dh g c f p.1 (gW src p.2))).bind λz=>if gY src z.2 p.2=true then .ok (.nx,(cU src z.2 p.2).set i (.dp z.1))else .bad else .bad
variable {t:Tx}
def sV(us vs:List Tr):List Tr:=(us.zip vs).map λp=>.tup [p.1,p.2]
theorem acQ{K:FZ}{W:Addr->Prop}{H:Hp}{a b:Addr}{xs ys:List V}{us vs:List Tr}(q1:bZ (aD K) (aN W H) a xs)(r1:aF (aD K) (aN W H) xs us)(q2:bZ (aD K) (aN W H) b ys)(r2:aF (aD K) (aN W H) ys vs):wO (aD K) W H (Ig K a b) (sV us vs):=λW' H' m hw i=>by
 have Jz:bZ K H' a xs:=((iw W' H').seq (m.seq q1)).toK
 have JB:bZ K H' b ys:=((iw W' H').seq (m.seq q2)).toK
 refine⟨λz=>⟨xs,ys,Jz,JB,by rw[r1.length,r2.length,z]; simp[sV]⟩,λu hu=>?_⟩
 unfold sV at hu
 rw[List.getElem?_map]at hu
 obtain⟨p,hp,rfl⟩:=Option.map_eq_some_iff.mp hu
 obtain⟨h1,h2⟩:=List.getElem?_zip_eq_some.mp hp
 obtain⟨x,hx,rx⟩:=r1.rR h1
 obtain⟨y,hy,ry⟩:=r2.rR h2
 refine⟨⟨xs,ys,x,y,Jz,JB,hx,hy⟩,λv dg yl=>?_⟩
 obtain⟨T,x',y',rfl,fT,rfl,z⟩:=yl
 obtain⟨z1,z2⟩:=z xs ys Jz JB
 rw[hx]at z1
 rw[hy]at z2
 cases z1
 cases z2
 have nW:¬W' T:=λw=>(hw T w).ne fT
 have sm:Same H' (upd H' T (.tup [x,y])):=dW fT _
 have so:Same (aN W' H') (aN W' (upd H' T (.tup [x,y]))):=λb u q=>(Ip (o:=.tup [x,y]) fT b u q |> λz=>(Il _ _ b u z))
 refine⟨sm,.tup (xs:=[x,y]) (.inl (.inl ?_)) (.cons ((rx.mono m).mono so) (.cons ((ry.mono m).mono so) .nil))⟩
 unfold aN
 rw[if_neg nW,eX]
def zp(fa:AF):IF:=λρ=>(fa ρ).bind λp=>match p.1 with
 | [.v (.lst us) _,.v (.lst vs) _]=>.ok (sV us vs,p.2)
 |_=>.bad
theorem R8{K:FZ}(hK:t.K=aD K){ta:TA}{fa:AF}(ha:SA t ta fa):SI t (QX K ta) (zp fa):=λW ρ σ H R e h=>by
 refine ha W ρ σ H _ e (Rs.aY (Rs.aR h) λp h vs H1 e1 s1 v1=>?_)
 split at h
 ·rename_i us _ ws _ ep
  rw[ep]at v1
  cases v1 with
  |cons h1 r1 =>
   cases r1 with
   |cons h2 r2 =>
    cases r2
    have h1:=h1.rep e.wn
    have h2:=h2.rep e.wn
    rw[hK]at h1 h2
    cases h1 with
    |lst q1 p1 =>
     cases h2 with
     |lst q2 p2 =>
      refine⟨_,_,rfl,⟨_,((iw _ _).seq q1).toK⟩,⟨_,((iw _ _).seq q2).toK⟩,h _ H1 e1 s1 ?_⟩
      rw[hK]
      exact acQ q1 p1 q2 p2
 ·exact h.elim
end L2
end
section
namespace L2
open PySem PySem.Spec PyProof.Rows
class NF where
 f:Value->Int
section
variable [NF]{kf:Value->Int × Int}
def q1(kf:Value->Int × Int)(xs:Array Keyed)(i:Nat):Int:=match xs[i]? with|some p=>(kf p.1).1|none=>0
def q2(kf:Value->Int × Int)(xs:Array Keyed)(i:Nat):Int:=match xs[i]? with|some p=>(kf p.1).2|none=>0
def qr(xs:Array Keyed)(i:Nat):Int:=match xs[i]? with|some p=>NF.f p.2|none=>0
def Kl(kf:Value->Int × Int)(xs:Array Keyed)(i j:Nat):Prop:=q1 kf xs i<q1 kf xs j\/(q1 kf xs i=q1 kf xs j/\q2 kf xs i<q2 kf xs j)
instance {kf:Value->Int × Int}{xs:Array Keyed}{i j:Nat}:Decidable (Kl kf xs i j):=by unfold Kl; infer_instance
def Ke(kf:Value->Int × Int)(xs:Array Keyed)(i j:Nat):Prop:=q1 kf xs i=q1 kf xs j/\q2 kf xs i=q2 kf xs j
def Lq(kf:Value->Int × Int)(xs:Array Keyed)(i j:Nat):Prop:=Kl kf xs i j\/(Ke kf xs i j/\qr xs i<qr xs j)
def iC(kf:Value->Int × Int)(xs:Array Keyed)(m:Nat):Prop:=∀i j,i<j->j<m->Lq kf xs i j
def sY(kf:Value->Int × Int)(xs:Array Keyed)(m:Nat):Prop:=∀i j,i<j->j<m->Lq kf xs j i
def pB(kf:Value->Int × Int)(xs:Array Keyed)(m q:Nat):Prop:=(∀i j,i<j->j<m->i<q->Lq kf xs j i/\(q<=j->Kl kf xs j i))/\∀i j,q<=i->i<j->j<m->Ke kf xs i j/\qr xs i<qr xs j
def Pre(N:Nat)(xs:Array Keyed)(m:Nat):Prop:=(∀k:Nat,k<m->qr xs k<m)/\∀k:Nat,m<=k->k<N->qr xs k=k
theorem qy{xs ys:Array Keyed}{i j:Nat}(h:xs[i]?=ys[j]?):qr xs i=qr ys j:=by unfold qr; rw[h]
theorem Di{xs ys:Array Keyed}{i j:Nat}(h:xs[i]?=ys[j]?):q1 kf xs i=q1 kf ys j:=by unfold q1; rw[h]
theorem Dj{xs ys:Array Keyed}{i j:Nat}(h:xs[i]?=ys[j]?):q2 kf xs i=q2 kf ys j:=by unfold q2; rw[h]
theorem jL{xs:Array Keyed}{i j:Nat}(hj:j<=xs.size)(k:Nat):(i<=k/\k<j/\(mirror xs i j ((j-i) / 2))[k]?=xs[i+j-1-k]?)\/(¬(i<=k/\k<j)/\(mirror xs i j ((j-i) / 2))[k]?=xs[k]?):=by
 have e:=getElem?_mirror_all (i:=i) hj k
 by_cases h:i<=k/\k<j
 ·rw[if_pos h]at e; exact .inl ⟨h.1,h.2,e⟩
 ·rw[if_neg h]at e; exact .inr ⟨h,e⟩
theorem qz{xs ys:Array Keyed}{i j i' j':Nat}(h1:xs[i]?=ys[i']?)(h2:xs[j]?=ys[j']?):Lq kf xs i j↔Lq kf ys i' j':=by
 unfold Lq Kl Ke; rw[qy h1,qy h2,Di h1,Di h2,Dj h1,Dj h2]
theorem Dk{xs ys:Array Keyed}{i j i' j':Nat}(h1:xs[i]?=ys[i']?)(h2:xs[j]?=ys[j']?):Kl kf xs i j↔Kl kf ys i' j':=by
 unfold Kl; rw[Di h1,Di h2,Dj h1,Dj h2]
theorem Kl.tr{xs:Array Keyed}{i j k:Nat}(a:Kl kf xs i j)(b:Kl kf xs j k):Kl kf xs i k:=by
 unfold Kl at *
 generalize q1 kf xs i=a1,q2 kf xs i=a2,q1 kf xs j=b1,q2 kf xs j=b2,q1 kf xs k=c1,q2 kf xs k=c2 at *
 omega
theorem Kl.no{xs:Array Keyed}{i j:Nat}(a:¬Kl kf xs i j)(b:¬Kl kf xs j i):Ke kf xs i j:=by
 unfold Kl at *
 unfold Ke
 generalize q1 kf xs i=a1,q2 kf xs i=a2,q1 kf xs j=b1,q2 kf xs j=b2 at *
 omega
theorem Ke.s{xs:Array Keyed}{i j:Nat}(a:Ke kf xs i j):Ke kf xs j i:=⟨a.1.symm,a.2.symm⟩
theorem Ke.t{xs:Array Keyed}{i j k:Nat}(a:Ke kf xs i j)(b:Ke kf xs j k):Ke kf xs i k:=⟨a.1.trans b.1,a.2.trans b.2⟩
theorem Ke.l{xs:Array Keyed}{i j k:Nat}(a:Ke kf xs i j)(b:Kl kf xs j k):Kl kf xs i k:=by
 unfold Kl at *
 rw[a.1,a.2]
 exact b
theorem Ke.r{xs:Array Keyed}{i j k:Nat}(a:Kl kf xs i j)(b:Ke kf xs j k):Kl kf xs i k:=by
 unfold Kl at *
 rw[<-b.1,<-b.2]
 exact a
theorem Kl.tq{xs:Array Keyed}{i j k:Nat}(a:Kl kf xs i j)(b:Lq kf xs j k):Kl kf xs i k:=b.elim a.tr λz=>Ke.r a z.1
theorem Kl.qt{xs:Array Keyed}{i j k:Nat}(a:Lq kf xs i j)(b:Kl kf xs j k):Kl kf xs i k:=a.elim (λz=>z.tr b) λz=>z.1.l b
theorem Lq.mk{xs:Array Keyed}{i j:Nat}(a:¬Kl kf xs j i)(b:qr xs i<qr xs j):Lq kf xs i j:=by
 by_cases h:Kl kf xs i j
 ·exact .inl h
 ·exact .inr ⟨Kl.no h a,b⟩
theorem Pre.jL{N:Nat}{xs:Array Keyed}{m i j:Nat}(h:Pre N xs m)(hj:j<=xs.size)(hm:j<=m):Pre N (mirror xs i j ((j-i) / 2)) m:=by
 refine⟨λk hk=>?_,λk hk hN=>?_⟩
 ·rcases L2.jL hj k with⟨a,b,e⟩|⟨n,e⟩
  ·rw[qy e]; exact h.1 _ (by omega)
  ·rw[qy e]; exact h.1 _ hk
 ·rcases L2.jL hj k with⟨a,b,e⟩|⟨n,e⟩
  ·omega
  ·rw[qy e]; exact h.2 _ hk hN
theorem sY.turn{xs:Array Keyed}{m:Nat}(h:sY kf xs m)(hm:m<=xs.size):iC kf (mirror xs 0 m ((m-0) / 2)) m:=λi j hij hj=>by
 rcases jL (i:=0) hm i with⟨_,_,e1⟩|⟨n,_⟩
 ·rcases jL (i:=0) hm j with⟨_,_,e2⟩|⟨n,_⟩
  ·rw[qz e1 e2]; exact h _ _ (by omega) (by omega)
  ·omega
 ·omega
theorem pB.turn{xs:Array Keyed}{m q:Nat}(h:pB kf xs m q)(hm:m<=xs.size)(hq:q<m):sY kf (mirror xs q m ((m-q) / 2)) m:=λi j hij hj=>by
 rcases jL (i:=q) hm i with⟨a,b,e1⟩|⟨n,e1⟩ <;> rcases jL (i:=q) hm j with⟨a',b',e2⟩|⟨n',e2⟩
 ·rw[qz e2 e1]
  have z:=h.2 (q+m-1-j) (q+m-1-i) (by omega) (by omega) (by omega)
  exact .inr z
 ·omega
 ·rw[qz e2 e1]
  exact(h.1 i (q+m-1-j) (by omega) (by omega) (by omega)).1
 ·rw[qz e2 e1]
  exact(h.1 i j hij hj (by omega)).1
theorem pB.one{xs:Array Keyed}{m q:Nat}(h:pB kf xs m q)(hq:m<=q+1):sY kf xs m:=λi j hij hj=>(h.1 i j hij hj (by omega)).1
end
section
variable [NF]{prog:Program}{w:World}{A:Around}{E:Value->Shared->Prop}{s:Shared}{N:Nat}{kd:SortKind}{kf:Value->Int × Int}
structure SB(a₀ : Array Keyed)(kd:SortKind)(st:SortSt):Prop where
 pm:(arrOf st).Perm a₀
 kn:kindOf st=kd
 fl:failedOf st=none
 pd:pendingOf st = #[]
theorem SB.sz{a₀ : Array Keyed}{st:SortSt}(h:SB a₀ kd st):(arrOf st).size=a₀.size:=h.pm.size_eq
theorem SB.put{a₀ : Array Keyed}{st:SortSt}(h:SB a₀ kd st){xs:Array Keyed}(p:xs.Perm (arrOf st)):SB a₀ kd (setArr st xs):=⟨p.trans h.pm,h.kn,h.fl,h.pd⟩
noncomputable def Asks(prog:Program)(w:World)(A:Around)(E:Value->Shared->Prop)(s:Shared)(a₀ : Array Keyed)(kd:SortKind)(kf:Value->Int × Int):Prop :=
 ∀(st:SortSt) (i j:Nat) (Q:Option Bool->SortSt->Prop),SB a₀ kd st->i<a₀.size->j<a₀.size->Q (some (decide (Kl kf (arrOf st) i j))) st->wpS (model prog w) A E s (ltAt' i j) Q st
variable {a₀ : Array Keyed}(ask:Asks prog w A E s a₀ kd kf)
include ask
theorem R9{st:SortSt}{a n:Nat}{Q:AscSt->SortSt->Prop}(hn:n<=a₀.size)(ha:1<=a)(han:a<=n)(B:SB a₀ kd st)(p:Pre a₀.size (arrOf st) a)(h0:iC kf (arrOf st) a)
  (h:∀m,a<=m->m<=n->iC kf (arrOf st) m->Pre a₀.size (arrOf st) m->(m=n\/(m<n/\Kl kf (arrOf st) m (m-1)))->Q (none,m) st):wpS (model prog w) A E s (ascLoop a n) Q st:=by
 unfold ascLoop
 have up:∀x,a<=x->x<=n->Pre a₀.size (arrOf st) x:=λx h1 h2=>⟨λk hk=>by
  by_cases z:k<a
  ·have:=p.1 k z; omega
  ·rw[p.2 k (by omega) (by omega)]; omega,λk h3 h4=>p.2 k (by omega) h4⟩
 refine wpS_forRange (I:=λx c t=>t=st/\c=(none,x)/\x<=n/\iC kf (arrOf st) x) ?_ ?_ ⟨rfl,rfl,han,h0⟩
 ·rintro x c t h1 h2 ⟨rfl,rfl,_,hs⟩
  refine wpS_bind (ask _ _ _ _ B (by omega) (by omega) ?_)
  by_cases l:Kl kf (arrOf t) x (x-1)
  ·rw[decide_eq_true l]
   exact wpS_pure (h x h1 (by omega) hs (up x h1 (by omega)) (.inr ⟨h2,l⟩))
  ·rw[decide_eq_false l]
   refine wpS_pure ⟨rfl,rfl,h2,λi j hij hj=>?_⟩
   by_cases z:j<x
   ·exact hs i j hij z
   ·have ej:j=x:=by omega
    subst ej
    have r1:=(up j h1 (by omega)).1 i hij
    have r2:=(up j h1 (by omega)).2 j (Nat.le_refl _) (by omega)
    by_cases z:i=j-1
    ·subst z
     exact Lq.mk l (by rw[r2]; exact r1)
    ·have y:=hs i (j-1) (by omega) (by omega)
     exact Lq.mk (λz=>l (z.tq y)) (by rw[r2]; exact r1)
 ·rintro c t ⟨rfl,rfl,_,hs⟩
  rw[show max a n=n by omega]at hs ⊢
  exact h n han (Nat.le_refl _) hs (up n han (Nat.le_refl _)) (.inl rfl)
theorem Sd{st:SortSt}{m n:Nat}{Q:Option Nat->SortSt->Prop}(hn:n<=a₀.size)(h1:1<=m)(hm:m<=n)(B:SB a₀ kd st)(p:Pre a₀.size (arrOf st) m)(d:sY kf (arrOf st) m)
  (h:∀m t,SB a₀ kd t->1<=m->m<=n->iC kf (arrOf t) m->Pre a₀.size (arrOf t) m->Q (some m) t):wpS (model prog w) A E s (tail3 m n) Q st:=by
 unfold tail3
 have z:m<=(arrOf st).size:=by rw[B.sz]; omega
 refine wpS_bind (wpS_reverse ?_)
 have B':SB a₀ kd (setArr st (mirror (arrOf st) 0 m ((m-0) / 2))):=B.put (mirror_perm _ _ _ _)
 exact wpS_bind (R9 ask hn h1 hm B' (p.jL z (Nat.le_refl _)) (d.turn z) λk k1 k2 k3 k4 _=>wpS_pure (h k _ B' (by omega) k2 k3 k4))
theorem acR{st:SortSt}{m n:Nat}{Q:DescSt->SortSt->Prop}(hn:n<=a₀.size)(h1:1<=m)(hm:m<=n)(B:SB a₀ kd st)(p:Pre a₀.size (arrOf st) m)(d:pB kf (arrOf st) m (m-1))
  (h:∀x e t,SB a₀ kd t->m<=x->x<=n->e+1<=x->pB kf (arrOf t) x (x-(e+1))->Pre a₀.size (arrOf t) x->Q (none,x,e) t):wpS (model prog w) A E s (descLoop m n) Q st:=by
 unfold descLoop
 refine wpS_forRange (I:=λx c t=>∃e,c=(none,x,e)/\SB a₀ kd t/\x<=n/\e+1<=x/\pB kf (arrOf t) x (x-(e+1))/\Pre a₀.size (arrOf t) x) ?_ ?_ ⟨0,rfl,B,hm,by omega,d,p⟩
 ·rintro x c t k1 k2 ⟨e,rfl,B',_,ke,d',p'⟩
  dsimp only
  have z:x<=(arrOf t).size:=by rw[B'.sz]; omega
  have pu:∀ys:Array Keyed,Pre a₀.size ys x->Pre a₀.size ys (x+1):=λys q=>⟨λk hk=>by
   by_cases y:k<x
   ·have:=q.1 k y; omega
   ·rw[q.2 k (by omega) (by omega)]; omega,λk h3 h4=>q.2 k (by omega) h4⟩
  refine wpS_bind (ask _ _ _ _ B' (by omega) (by omega) ?_)
  by_cases l:Kl kf (arrOf t) x (x-1)
  ·rw[decide_eq_true l]
   have next:∀ys:Array Keyed,sY kf ys x->(∀i,i<x->Kl kf ys x i)->pB kf ys (x+1) x:=λys y1 y2=>⟨λi j hij hj hi=>by
    by_cases y:j<x
    ·exact⟨y1 i j hij y,λz=>by omega⟩
    ·have:j=x:=by omega
     subst this
     exact⟨.inl (y2 i hi),λ_=>y2 i hi⟩,λi j h1 h2 h3=>by omega⟩
   have low:∀i,i<x->Kl kf (arrOf t) x i:=λi hi=>by
    by_cases y:i=x-1
    ·rw[y]; exact l
    ·by_cases y2:i<x-(e+1)
     ·exact l.tq (d'.1 i (x-1) (by omega) (by omega) y2).1
     ·exact Ke.r l (d'.2 i (x-1) (by omega) (by omega) (by omega)).1.s
   show wpS _ _ _ _ (if e > 0 then _ else _) _ _
   by_cases g:e > 0
   ·rw[if_pos g]
    refine wpS_bind (wpS_reverse (wpS_pure ⟨0,rfl,B'.put (mirror_perm _ _ _ _),k2,by omega,?_,pu _ (p'.jL z (Nat.le_refl _))⟩))
    rw[show x+1-(0+1)=x by omega]
    refine next _ (d'.turn z (by omega)) λi hi=>?_
    rcases jL (i:=x-(e+1)) z x with⟨_,b,_⟩|⟨_,e1⟩
    ·omega
    ·rcases jL (i:=x-(e+1)) z i with⟨_,_,e2⟩|⟨_,e2⟩
     ·rw[Dk e1 e2]; exact low _ (by omega)
     ·rw[Dk e1 e2]; exact low _ hi
   ·rw[if_neg g]
    refine wpS_pure ⟨0,rfl,B',k2,by omega,?_,pu _ p'⟩
    rw[show x+1-(0+1)=x by omega]
    exact next _ (d'.one (by omega)) low
  ·rw[decide_eq_false l]
   show wpS _ _ _ _ (ltAt' (x-1) x >>= _) _ _
   refine wpS_bind (ask _ _ _ _ B' (by omega) (by omega) ?_)
   by_cases g:Kl kf (arrOf t) (x-1) x
   ·rw[decide_eq_true g]
    exact wpS_pure (h x e t B' k1 (by omega) ke d' p')
   ·rw[decide_eq_false g]
    have eq:Ke kf (arrOf t) (x-1) x:=Kl.no g l
    refine wpS_pure ⟨e+1,rfl,B',k2,by omega,?_,pu _ p'⟩
    rw[show x+1-(e+1+1)=x-(e+1) by omega]
    refine⟨λi j hij hj hi=>?_,λi j hi hij hj=>?_⟩
    ·by_cases y:j<x
     ·exact d'.1 i j hij y hi
     ·have:j=x:=by omega
      subst this
      have y:=(d'.1 i (j-1) (by omega) (by omega) hi).2 (by omega)
      have y':Kl kf (arrOf t) j i:=eq.s.l y
      exact⟨.inl y',λ_=>y'⟩
    ·by_cases y:j<x
     ·exact d'.2 i j hi hij y
     ·have:j=x:=by omega
      subst this
      have r1:=p'.1 i hij
      have r2:=p'.2 j (Nat.le_refl _) (by omega)
      refine⟨?_,by omega⟩
      by_cases y:i=j-1
      ·rw[y]; exact eq
      ·exact(d'.2 i (j-1) hi (by omega) (by omega)).1.t eq
 ·rintro c t ⟨e,rfl,B',_,ke,d',p'⟩
  rw[show max m n=n by omega]at ke d' p' ⊢
  exact h n e t B' hm (Nat.le_refl _) ke d' p'
theorem Sg{st:SortSt}{m n:Nat}{Q:Option Nat->SortSt->Prop}(hn:n<=a₀.size)(hm:m+1<=n)(B:SB a₀ kd st)(p:Pre a₀.size (arrOf st) (m+1))(d:pB kf (arrOf st) (m+1) m)
  (h:∀m t,SB a₀ kd t->1<=m->m<=n->iC kf (arrOf t) m->Pre a₀.size (arrOf t) m->Q (some m) t):wpS (model prog w) A E s (descPart m n) Q st:=by
 unfold descPart
 refine wpS_bind (wpS_lift (wpAny_rule ⟨rfl,?_⟩))
 refine wpS_bind (acR ask hn (by omega) hm B p (by rw[show m+1-1=m by omega]; exact d) λx e t B' k1 k2 ke d' p'=>?_)
 have z:x<=(arrOf t).size:=by rw[B'.sz]; omega
 show wpS _ _ _ _ (if e > 0 then(reverseSlice' (x-(e+1)) x >>= λ_=>tail3 x n)else tail3 x n) _ _
 by_cases g:e > 0
 ·rw[if_pos g]
  exact wpS_bind (wpS_reverse (Sd ask hn (by omega) k2 (B'.put (mirror_perm _ _ _ _)) (p'.jL z (Nat.le_refl _)) (d'.turn z (by omega)) h))
 ·rw[if_neg g]
  exact Sd ask hn (by omega) k2 B' p' (d'.one (by omega)) h
theorem acS{st:SortSt}{n:Nat}{Q:Option Nat->SortSt->Prop}(hn:n<=a₀.size)(h1:1<=n)(B:SB a₀ kd st)(p:Pre a₀.size (arrOf st) 0)
  (h:∀m t,SB a₀ kd t->1<=m->m<=n->iC kf (arrOf t) m->Pre a₀.size (arrOf t) m->Q (some m) t):wpS (model prog w) A E s (countRun' 0 n) Q st:=by
 rw[countRun0_eq]
 have p1:Pre a₀.size (arrOf st) 1:=⟨λk hk=>by rw[p.2 k (by omega) (by omega)]; omega,λk h3 h4=>p.2 k (by omega) h4⟩
 refine wpS_bind (R9 ask hn (Nat.le_refl 1) h1 B p1 (λi j _ _=>by omega) λm m1 m2 hs hp ho=>?_)
 show wpS _ _ _ _ (if(m == n)=true then _ else _) _ _
 by_cases e:m=n
 ·rw[if_pos (by simpa using e)]
  exact wpS_pure (h m st B m1 m2 hs hp)
 ·rw[if_neg (by simpa using e)]
  obtain⟨ml,l⟩:=ho.resolve_left e
  have pn:∀ys:Array Keyed,Pre a₀.size ys m->Pre a₀.size ys (m+1):=λys q=>⟨λk hk=>by
   by_cases y:k<m
   ·have:=q.1 k y; omega
   ·rw[q.2 k (by omega) (by omega)]; omega,λk h3 h4=>q.2 k (by omega) h4⟩
  by_cases g:m > 1
  ·rw[if_pos g]
   refine wpS_bind (ask _ _ _ _ B (by omega) (by omega) ?_)
   by_cases r:Kl kf (arrOf st) 0 (m-1)
   ·rw[decide_eq_true r]
    exact wpS_pure (h m st B m1 m2 hs hp)
   ·rw[decide_eq_false r]
    have z:m<=(arrOf st).size:=by rw[B.sz]; omega
    have all:∀i j,i<j->j<m->Ke kf (arrOf st) i j/\qr (arrOf st) i<qr (arrOf st) j:=λi j hij hj=>by
     have a1:=hs i j hij hj
     have a2:i=0\/Lq kf (arrOf st) 0 i:=by
      by_cases y:i=0
      ·exact .inl y
      ·exact .inr (hs 0 i (by omega) (by omega))
     have a3:j=m-1\/Lq kf (arrOf st) j (m-1):=by
      by_cases y:j=m-1
      ·exact .inl y
      ·exact .inr (hs j (m-1) (by omega) (by omega))
     rcases a1 with k1|k1
     ·have k2:Kl kf (arrOf st) 0 j:=by
       rcases a2 with y|y
       ·rw[y]at k1; exact k1
       ·exact Kl.qt y k1
      refine absurd ?_ r
      rcases a3 with y|y
      ·rw[y]at k2; exact k2
      ·exact k2.tq y
     ·exact k1
    have ds:pB kf (arrOf st) m 0:=⟨λi j _ _ hi=>by omega,λi j _ hij hj=>all i j hij hj⟩
    show wpS _ _ _ _ (reverseSlice' 0 m >>= λ_=>descPart m n) _ _
    refine wpS_bind (wpS_reverse (Sg ask hn (by omega) (B.put (mirror_perm _ _ _ _)) (pn _ (hp.jL z (Nat.le_refl _))) ?_ h))
    have dd:=ds.turn z (by omega)
    have low:∀i,i<m->Kl kf (arrOf st) m i:=λi hi=>by
     by_cases y:i=m-1
     ·rw[y]; exact l
     ·exact Ke.r l (all i (m-1) (by omega) (by omega)).1.s
    have Sh:∀i,i<m->Kl kf (mirror (arrOf st) 0 m ((m-0) / 2)) m i:=λi hi=>by
     rcases jL (i:=0) z m with⟨_,b,_⟩|⟨_,e1⟩
     ·omega
     ·rcases jL (i:=0) z i with⟨_,_,e2⟩|⟨_,e2⟩
      ·rw[Dk e1 e2]; exact low _ (by omega)
      ·rw[Dk e1 e2]; exact low _ hi
    refine⟨λi j hij hj hi=>?_,λi j _ _ _=>by omega⟩
    by_cases y:j<m
    ·exact⟨dd i j hij y,λz=>by omega⟩
    ·have:j=m:=by omega
     subst this
     exact⟨.inl (Sh i hi),λ_=>Sh i hi⟩
  ·rw[if_neg g]
   have e1:m=1:=by omega
   subst e1
   refine Sg ask hn (by omega) B (pn _ hp) ⟨λi j hij hj hi=>?_,λi j _ _ _=>by omega⟩ h
   have i0:i=0:=by omega
   have j1:j=1:=by omega
   subst i0 j1
   exact⟨.inl l,λ_=>l⟩
theorem acT{st:SortSt}{n ok:Nat}{Q:Bool->SortSt->Prop}(hn:n<=a₀.size)(h1:1<=ok)(hok:ok<=n)(B:SB a₀ kd st)(p:Pre a₀.size (arrOf st) ok)(d:iC kf (arrOf st) ok)
  (h:∀t,SB a₀ kd t->iC kf (arrOf t) n->Q true t):wpS (model prog w) A E s (binarySort' 0 n ok) Q st:=by
 rw[binarySort'_eq]
 simp only[Nat.zero_add]
 refine wpS_bind (wpS_mono (wpS_forRange (I:=λk c t=>c=(none,())/\SB a₀ kd t/\k<=n/\iC kf (arrOf t) k/\Pre a₀.size (arrOf t) k) (Q:=λc t=>c=(none,())/\SB a₀ kd t/\iC kf (arrOf t) n) ?_ ?_ ?_) ?_)
 ·rintro k c t k1 k2 ⟨rfl,B',_,d',p'⟩
  have hk:k<a₀.size:=by omega
  have rk:=p'.2 k (Nat.le_refl _) hk
  refine wpS_bind (wpS_mono (wpS_forRange (I:=λx c u=>u=t/\∃l r,c=(none,l,r)/\l<=r/\r<=k/\r-l<=k-x/\(∀i,i<l->¬Kl kf (arrOf t) k i)/\∀i,r<=i->i<k->Kl kf (arrOf t) k i)
   (Q:=λc u=>u=t/\∃l r,c=(none,l,r)/\l<=k/\(∀i,i<l->¬Kl kf (arrOf t) k i)/\∀i,l<=i->i<k->Kl kf (arrOf t) k i) ?_ ?_ ?_) ?_)
  ·rintro x c u _ hx ⟨rfl,l,r,rfl,g1,g2,g3,lo,hi⟩
   dsimp only
   by_cases g:l >= r
   ·rw[if_pos g]
    have:l=r:=by omega
    subst this
    exact wpS_pure ⟨rfl,l,l,rfl,g2,lo,hi⟩
   ·rw[if_neg g]
    refine wpS_bind (ask _ _ _ _ B' hk (by omega) ?_)
    by_cases le:Kl kf (arrOf u) k ((l+r) / 2)
    ·rw[decide_eq_true le]
     refine wpS_pure ⟨rfl,l,(l+r) / 2,rfl,by omega,by omega,by omega,lo,λi h1 h2=>?_⟩
     by_cases y:i=(l+r) / 2
     ·rw[y]; exact le
     ·exact le.tq (d' ((l+r) / 2) i (by omega) h2)
    ·rw[decide_eq_false le]
     refine wpS_pure ⟨rfl,(l+r) / 2+1,r,rfl,by omega,by omega,by omega,λi h1=>?_,hi⟩
     by_cases y:i=(l+r) / 2
     ·rw[y]; exact le
     ·exact λz=>le (z.tq (d' i ((l+r) / 2) (by omega) (by omega)))
  ·rintro c u ⟨rfl,l,r,rfl,g1,g2,g3,lo,hi⟩
   have:l=r:=by omega
   subst this
   exact⟨rfl,l,l,rfl,g2,lo,hi⟩
  ·exact⟨rfl,0,k,rfl,by omega,by omega,by omega,λi hi=>by omega,λi g1 g2=>by omega⟩
  ·rintro c u ⟨rfl,l,r,rfl,lk,lo,hi⟩
   show wpS _ _ _ _ (moveDown' k l >>= λ_=>pure (ForInStep.yield (none,()))) _ _
   rw[moveDown'_eq]
   refine wpS_bind (wpS_modify (wpS_pure ⟨rfl,B'.put (bubble_perm _ _ _),k2,?_,?_⟩))
   all_goals
    have ks:k<(arrOf u).size:=by rw[B'.sz]; exact hk
    have bb:=getElem?_bubble ks (k-l) (by omega)
    rw[show k-(k-l)=l by omega]at bb
    have b1:(bubble (arrOf u) k (k-l))[l]?=(arrOf u)[k]? := by rw[bb,if_pos rfl]
    have b2:∀i,l<i->i<=k->(bubble (arrOf u) k (k-l))[i]?=(arrOf u)[i-1]? := λi g1 g2=>by rw[bb,if_neg (by omega),if_pos ⟨g1,g2⟩]
    have b3:∀i,i<l->(bubble (arrOf u) k (k-l))[i]?=(arrOf u)[i]? := λi g1=>by rw[bb,if_neg (by omega),if_neg (by omega)]
    have b4:∀i,k<i->(bubble (arrOf u) k (k-l))[i]?=(arrOf u)[i]? := λi g1=>by rw[bb,if_neg (by omega),if_neg (by omega)]
   ·intro i j hij hj
    show Lq kf (bubble (arrOf u) k (k-l)) i j
    rcases Nat.lt_trichotomy i l with y|y|y <;> rcases Nat.lt_trichotomy j l with y'|y'|y'
    ·rw[qz (b3 i y) (b3 j y')]; exact d' i j hij (by omega)
    ·subst y'
     rw[qz (b3 i y) b1]
     exact Lq.mk (lo i y) (by rw[rk]; exact p'.1 i (by omega))
    ·rw[qz (b3 i y) (b2 j y' (by omega))]; exact d' i (j-1) (by omega) (by omega)
    ·omega
    ·omega
    ·subst y
     rw[qz b1 (b2 j y' (by omega))]
     exact .inl (hi _ (by omega) (by omega))
    ·omega
    ·omega
    ·rw[qz (b2 i y (by omega)) (b2 j y' (by omega))]; exact d' _ _ (by omega) (by omega)
   ·refine⟨λi hi'=>?_,λi g1 g2=>?_⟩
    ·show qr (bubble (arrOf u) k (k-l)) i<_
     rcases Nat.lt_trichotomy i l with y|y|y
     ·rw[qy (b3 i y)]; have:=p'.1 i (by omega); omega
     ·subst y; rw[qy b1,rk]; omega
     ·rw[qy (b2 i y (by omega))]; have:=p'.1 (i-1) (by omega); omega
    ·show qr (bubble (arrOf u) k (k-l)) i=_
     rw[qy (b4 i (by omega))]
     exact p'.2 i (by omega) g2
 ·rintro c t ⟨rfl,B',kn,d',p'⟩
  refine⟨rfl,B',?_⟩
  rwa[show max (max ok 1) n=n by omega]at d'
 ·rw[show max ok 1=ok by omega]
  exact⟨rfl,B,hok,d,p⟩
 ·rintro c t ⟨rfl,B',d'⟩
  exact wpS_pure (h t B' d')
theorem Sq{st:SortSt}{Q:Unit->SortSt->Prop}(B:SB a₀ kd st)(h2:2<=a₀.size)(h64:a₀.size<64)(p:Pre a₀.size (arrOf st) 0)
  (h:∀t,(arrOf t).Perm a₀ -> failedOf t=none->iC kf (arrOf t) a₀.size->Q () t):wpS (model prog w) A E s sortRuns' Q st:=by
 rw[sortRuns'_eq]
 refine wpS_bind (wpS_get ?_)
 have mr:minRun' (arrOf st).size (arrOf st).size 0=a₀.size:=by
  rw[B.sz]
  obtain⟨f,hf⟩:∃f,a₀.size=f+1:=⟨a₀.size-1,by omega⟩
  have:minRun' (f+1) (f+1) 0=f+1:=by rw[minRun'_succ,if_pos (by omega)]
  rw[hf]; exact this
 dsimp only
 rw[mr,B.sz]
 have fin:∀t,SB a₀ kd t->iC kf (arrOf t) a₀.size->(arrOf (setPending t ((pendingOf t).push (0,a₀.size,0)))).Perm a₀/\failedOf (setPending t ((pendingOf t).push (0,a₀.size,0)))=none/\pendingOf (setPending t ((pendingOf t).push (0,a₀.size,0))) = #[(0,a₀.size,0)]/\iC kf (arrOf (setPending t ((pendingOf t).push (0,a₀.size,0)))) a₀.size :=
  λt B' d'=>⟨B'.pm,B'.fl,by show(pendingOf t).push _=_; rw[B'.pd]; rfl,d'⟩
 refine wpS_bind (wpS_mono (wpS_forRange (I:=λx c t=>(x=0/\c=(none,0)/\SB a₀ kd t/\Pre a₀.size (arrOf t) 0)\/(1<=x/\c=(none,a₀.size)/\(arrOf t).Perm a₀/\failedOf t=none/\pendingOf t = #[(0,a₀.size,0)]/\iC kf (arrOf t) a₀.size))
  (Q:=λc t=>c=(none,a₀.size)/\(arrOf t).Perm a₀/\failedOf t=none/\pendingOf t = #[(0,a₀.size,0)]/\iC kf (arrOf t) a₀.size) ?_ ?_ (.inl ⟨rfl,rfl,B,p⟩)) ?_)
 ·rintro x c t _ hx (⟨rfl,rfl,B',p'⟩|⟨hx1,rfl,D⟩)
  ·show wpS _ _ _ _ (if 0 >= a₀.size then _ else _) _ _
   rw[if_neg (by omega)]
   simp only[Nat.sub_zero,Nat.min_self,Nat.zero_add]
   refine wpS_bind (acS ask (Nat.le_refl _) (by omega) B' p' λm u B2 m1 m2 d2 p2=>?_)
   show wpS _ _ _ _ (if m<a₀.size then _ else _) _ _
   by_cases g:m<a₀.size
   ·rw[if_pos g]
    refine wpS_bind (wpS_lift (wpAny_rule ⟨rfl,?_⟩))
    refine wpS_bind (acT ask (Nat.le_refl _) m1 m2 B2 p2 d2 λv B3 d3=>?_)
    simp only[Bool.not_true,Bool.false_eq_true,if_false]
    refine wpS_bind (wpS_get ?_)
    rw[show(pendingOf v).back? = none by rw[B3.pd]; rfl]
    exact wpS_bind (wpS_modify (wpS_pure (.inr ⟨by omega,rfl,fin v B3 d3⟩)))
   ·rw[if_neg g]
    have e:m=a₀.size:=by omega
    subst e
    refine wpS_bind (wpS_get ?_)
    rw[show(pendingOf u).back? = none by rw[B2.pd]; rfl]
    exact wpS_bind (wpS_modify (wpS_pure (.inr ⟨by omega,rfl,fin u B2 d2⟩)))
  ·show wpS _ _ _ _ (if a₀.size >= a₀.size then _ else _) _ _
   rw[if_pos (Nat.le_refl _)]
   exact wpS_pure ⟨rfl,D⟩
 ·rintro c t (⟨hx,_,_⟩|⟨_,hc,D⟩)
  ·omega
  ·exact⟨hc,D⟩
 ·rintro c t ⟨rfl,D⟩
  refine wpS_bind (wpS_mono (wpS_forRange (I:=λ_ c u=>u=t/\c=(none,())) (Q:=λc u=>u=t/\c=(none,())) ?_ (λ_ _ z=>z) ⟨rfl,rfl⟩) ?_)
  ·rintro x c u _ _ ⟨rfl,rfl⟩
   refine wpS_bind (wpS_get ?_)
   rw[if_pos (by rw[D.2.2.1]; exact Nat.le_refl 1)]
   exact wpS_pure ⟨rfl,rfl⟩
  ·rintro c u ⟨rfl,rfl⟩
   exact wpS_pure (h _ D.1 D.2.1 D.2.2.2)
end
open PySem.W
section
variable {X:Cx}{pins:List (Addr × Obj)}{σ : St}{H:Hp}{s:Shared}
theorem Inv.track{a:Addr}{xs:List V}{its:List Value}{n:Nat}(I:Inv X pins σ H s)(f:d7 X pins H a)(e:s.heap.get? a=some {cls:=.type "list",data:=.seq its.toArray n }) (r:Vals xs its) (hz:xs.length<=sizeLine):Inv X pins σ (upd H a (.lst xs)) s:=by
 obtain⟨f0,f1,f2,f3,f4,f5⟩:=f
 have ok:eY X.prog X.w (upd H a (.lst xs)) s.heap:=λb u q=>by
  by_cases hb:b=a
  ·subst hb; rw[eX]at q; cases q; exact⟨hz,its,n,r,e⟩
  ·rw[bJ hb]at q
   exact(I.hok b u q).stay (λc v _ z=>z) (λc z=>by rw[bJ (ji z f0)]; exact z) λc ys z=>by rw[bJ (ji z f0)]; exact z
 exact I.step (h':=s.heap) (g':=s.gens) (t':=s.toks) (d':=s.drawn) (ch:=[a]) (λb hb=>by
   have:b=a:=by simpa using hb
   subst this
   exact⟨f3,f1,f4,f5⟩) (λb o _ _ _ q _=>q) (λb o _ _ _ q _=>⟨o.slots,q⟩) (λb o hb _ q=>by rw[bJ (by simpa using hb)]; exact q) (λb o _ q=>⟨o,q⟩)
  (λb ys q=>by rw[bJ (ji q f0)]; exact q) (λb o u q=>by rw[bJ (ji q f0)]; exact q) (λb ps q=>⟨#[],by rw[bJ (ji q f0),q]; simp⟩) (λm q=>q) ok I.bare
theorem Inv.sub{oA:List (Addr × Obj)}(I:Inv X pins σ H s)(h:∀p∈oA,p∈pins):Inv X oA σ H s:=I.Bb λp hp=>I.pin p (List.mem_append_right _ (h p hp))
theorem Inv.vp{a:Addr}{o:Obj}(I:Inv X pins σ H s)(f:d7 X pins H a)(e:s.heap.get? a=some o)(d:∀v,o.data ≠ .cell v):Inv X ((a,o)::pins) σ H s:=I.Bb λp hp=>by
 rcases List.mem_cons.mp hp with rfl|hp
 ·exact⟨e,f.1,f.2.1,f.2.2.1,d⟩
 ·exact I.pin p (List.mem_append_right _ hp)
theorem d7.vp{a b:Addr}{o:Obj}(f:d7 X pins H b)(n:a≠b):d7 X ((a,o)::pins) H b:=⟨f.1,f.2.1,f.2.2.1,f.2.2.2.1,f.2.2.2.2.1,λp hp=>by
 rcases List.mem_append.mp hp with hp|hp
 ·exact f.2.2.2.2.2 p (List.mem_append_left _ hp)
 ·rcases List.mem_cons.mp hp with rfl|hp
  ·exact n
  ·exact f.2.2.2.2.2 p (List.mem_append_right _ hp)⟩
theorem Inv.wr{a:Addr}{g:Array Value->Array Value}{t':Nat}(I:Inv X pins σ H s)(f:d7 X pins H a):Inv X pins σ H {s with heap:=s.heap.update a (Obj.mapSeq g),toks:=t' }:=by
 obtain⟨f0,f1,f2,f3,f4,f5⟩:=f
 exact I.turned (it:=a) (λb o hb e=>((Heap.SameBut.update s.heap a _).2 b hb).trans e) f0 f1 f3 f4 f5
end
instance nfI:NF:=⟨numOf⟩
def qD(n:Nat)(kz:Nat->Int × Int)(ys:List Nat):Prop:=ys.Perm (List.range n)/\ys.Pairwise λi j=>((kz i).1<(kz j).1\/((kz i).1=(kz j).1/\(kz i).2<(kz j).2))\/(((kz i).1=(kz j).1/\(kz i).2=(kz j).2)/\i<j)
structure sZ(X:Cx)(Kv:Hp->Value->Int × Int->Prop)(kd:SortKind):Prop where
 kind:∀(H:Hp) (keys:Array Value) (kz:Nat->Int × Int),2<=keys.size->(∀i v,keys[i]?=some v->Kv H v (kz i))->∀{pins σ s Q E},Inv X pins σ H s->Q kd s->wpAny (model X.prog X.w) X.A.in1.in1 (keyKind' keys) Q E s
 ask:∀{pins σ H s} {E:Value->Shared->Prop} (a₀ : Array Keyed) (kf:Value->Int × Int),Inv X pins σ H s->(∀p,p∈a₀.toList->Kv H p.1 (kf p.1))->Asks X.prog X.w X.A.in1.in1 E s a₀ kd kf
section
variable {X:Cx}
theorem Ss:sZ X (λ_ v k=>∃t,v=.int k.1 t/\k.2=0) oneType' where
 kind:=λH keys kz h2 hk pins σ s Q E I q=>by
  have hi:IntsAre keys.toList (keys.toList.map numOf):=by
   refine intsAre_map _ λv hv=>?_
   obtain⟨i,hi,e⟩:=List.getElem_of_mem hv
   obtain⟨t,z,_⟩:=hk i v (by rw[<-e]; simp[Array.getElem?_eq_getElem (show i<keys.size by simpa using hi)])
   exact⟨_,t,z⟩
  rw[ksk_kind hi h2]
  exact wpAny_pure q
 ask:=λa₀ kf I h st i j Q B hi hj q=>by
  have h0:IntKeys a₀ := λp hp=>by
   obtain⟨t,z,_⟩:=h p hp
   exact⟨_,t,z⟩
  have B':SBase a₀ st:=⟨B.pm,B.kn,B.fl,B.pd⟩
  have at_:∀i,i<a₀.size->q1 kf (arrOf st) i=K (arrOf st) i/\q2 kf (arrOf st) i=0:=λi hi=>by
   obtain⟨t,p,e⟩:=B'.at h0 hi
   have hi':i<(arrOf st).size:=by rw[B.sz]; exact hi
   have hm:(arrOf st)[i]∈a₀.toList:=(Array.perm_iff_toList_perm.mp B.pm).mem_iff.mp (by simp)
   obtain⟨t',z,z2⟩:=h _ hm
   have e':(arrOf st)[i]?=some (arrOf st)[i]:=getElem?_pos _ i hi'
   have e2:(arrOf st)[i]=(Value.int (K (arrOf st) i) t,p):=by rw[e']at e; exact Option.some.inj e
   rw[e2]at z z2
   unfold q1 q2
   rw[e]
   refine⟨?_,z2⟩
   have z:Value.int (K (arrOf st) i) t=Value.int (kf (Value.int (K (arrOf st) i) t)).1 t':=z
   injection z with z
   exact z.symm
  refine wpS_ltK B' h0 hi hj ?_
  have:decide (Kl kf (arrOf st) i j)=decide (K (arrOf st) i<K (arrOf st) j):=by
   rw[decide_eq_decide]
   unfold Kl
   rw[(at_ i hi).1,(at_ j hj).1,(at_ i hi).2,(at_ j hj).2]
   omega
  rw[this]at q
  exact q
end
section
variable {X:Cx}{pins:List (Addr × Obj)}{σ : St}{H:Hp}{s:Shared}{Kv:Hp->Value->Int × Int->Prop}{kd:SortKind}{a kS:Addr}{n:Nat}{kz:Nat->Int × Int}{vs:List Value}
theorem Sv{e1:Nat}{keys:Array Value}{e:Nat}{st:SortSt}{P:PySem.Fin->Shared->Prop}{E:Value->Shared->Prop}(I:Inv X pins σ H s)(fk:d7 X pins H kS)(fa:d7 X pins H a)(ne:kS≠a)(hk:s.heap.get? kS=some (seqObj "list" keys e)) (ha:s.heap.get? a=some (seqObj "list" #[] e1)) (hks:keys.size<=64) (hst:(arrOf st).size<=64) (fl:failedOf st=none)
  (h:∀s' c,Inv X pins σ H s'->s'.heap.get? a=some (seqObj "list" ((arrOf st).map (·.2)) c)->P (.done (.ret .none)) s'):wpAny (model X.prog X.w) X.A.in1.in1 (ksk_tail a false e1 (.ref kS) st) P E s:=by
 unfold ksk_tail
 refine wpAny_bind (listUpdate_at hk rfl ?_ (by rw[sizeLine_eq]; omega) (Nat.zero_le _))
 refine wpAny_bind (wpAny_letGo ?_)
 have I1:=I.wr (g:=λ_=>#[]) (t':=s.toks) fk
 have ha1:(s.heap.update kS (Obj.mapSeq λ_=>(#[]:Array Value))).get? a=some (seqObj "list" #[] e1):=((Heap.SameBut.update s.heap kS _).2 a (Ne.symm ne)).trans ha
 refine wpAny_bind (seqEpoch_at ha1 rfl ?_)
 refine wpAny_bind (listUpdate_at ha1 rfl ?_ (Nat.zero_le _) (by simp only[Bool.false_eq_true,if_false,Array.size_map]; rw[sizeLine_eq]; omega))
 rw[fl]
 simp only[bne_self_eq_false,Bool.false_eq_true,if_false]
 exact wpAny_pure (h _ _ (I1.wr (t':=s.toks) fa) (get?_update_seq ha1 _))
theorem acU{e1:Nat}{keys:Array Value}{e:Nat}{P:PySem.Fin->Shared->Prop}{E:Value->Shared->Prop}(T:sZ X Kv kd)(I:Inv X pins σ H s)(fk:d7 X pins H kS)(fa:d7 X pins H a)(ne:kS≠a)(hk:s.heap.get? kS=some (seqObj "list" keys e)) (ha:s.heap.get? a=some (seqObj "list" #[] e1))
  (hv:∀(i:Nat) (v:Value),vs[i]?=some v->∃t,v=Value.int i t) (hl:vs.length=n) (hkn:keys.size=n) (h64:n<64) (hK:∀i v,keys[i]?=some v->Kv H v (kz i)) (inj:∀v k k',Kv H v k->Kv H v k'->k=k')
  (h:∀s' c out,Inv X pins σ H s'->s'.heap.get? a=some (seqObj "list" out c)->(∃ys,qD n kz ys/\Vals (ys.map λi:Nat=>V.int i) out.toList)->P (.done (.ret .none)) s'):wpAny (model X.prog X.w) X.A.in1.in1 (ksk_end a false vs.toArray e1 (.ref kS) keys) P E s:=by
 have nF:(keys.zip vs.toArray).size=n:=by rw[Array.size_zip,hkn,List.size_toArray,hl,Nat.min_self]
 have zq:∀i,i<n->∃v t,(keys.zip vs.toArray)[i]?=some (v,.int i t)/\Kv H v (kz i):=λi hi=>by
  obtain⟨t,e2⟩:=hv i vs[i] (by simp[hl,hi])
  have e1:keys[i]?=some keys[i]:=getElem?_pos _ _ (by omega)
  refine⟨keys[i],t,?_,hK i _ e1⟩
  rw[<-Array.getElem?_toList,ksk_zip,List.getElem?_zip_eq_some]
  refine⟨by simp[Array.getElem?_toList,e1],?_⟩
  show vs[i]?=some (Value.int i t)
  rw[List.getElem?_eq_getElem (by omega),e2]
 -- what the sorted array says
 have fin:∀(kf:Value->Int × Int) (xs:Array Keyed),(∀(i:Nat) v t,(keys.zip vs.toArray)[i]?=some (v,Value.int i t)->kf v=kz i)->xs.Perm (keys.zip vs.toArray)->iC kf xs n->∃ys,qD n kz ys/\Vals (ys.map λi:Nat=>V.int i) (xs.map (·.2)).toList:=λkf xs hkf hp hs=>by
  have hpl:=Array.perm_iff_toList_perm.mp hp
  have mem:∀p∈xs.toList,∃i t,i<n/\p.2=.int (i:Nat) t/\kf p.1=kz i:=λp hp'=>by
   obtain⟨i,hi,e⟩:=List.getElem_of_mem (hpl.mem_iff.mp hp')
   have hi':i<n:=by rw[Array.length_toList,nF]at hi; exact hi
   obtain⟨v,t,e1,_⟩:=zq i hi'
   have e2:(keys.zip vs.toArray)[i]?=some p:=by rw[<-Array.getElem?_toList,List.getElem?_eq_getElem hi,e]
   rw[e1]at e2
   cases e2
   exact⟨i,t,hi',rfl,hkf i v t e1⟩
  refine⟨xs.toList.map λp=>(numOf p.2).toNat,⟨?_,?_⟩,?_⟩
  ·have h1:=hpl.map λp:Keyed=>(numOf p.2).toNat
   refine h1.trans (List.Perm.of_eq ?_)
   refine List.ext_getElem? λi=>?_
   by_cases hi:i<n
   ·obtain⟨v,t,e1,_⟩:=zq i hi
    rw[List.getElem?_map,Array.getElem?_toList,e1,List.getElem?_range hi]
    simp[numOf]
   ·rw[List.getElem?_eq_none (by simp[nF]; omega),List.getElem?_eq_none (by simp; omega)]
  ·rw[List.pairwise_map,List.pairwise_iff_getElem]
   intro i j hi hj hij
   have sz:xs.size=n:=by rw[hp.size_eq,nF]
   have hi':i<xs.size:=by simpa using hi
   have hj':j<xs.size:=by simpa using hj
   have z:=hs i j hij (by omega)
   obtain⟨a1,t1,_,b1,c1⟩:=mem _ (List.getElem_mem hi)
   obtain⟨a2,t2,_,b2,c2⟩:=mem _ (List.getElem_mem hj)
   have x1:xs[i]?=some xs.toList[i]:=by rw[<-Array.getElem?_toList,List.getElem?_eq_getElem hi]
   have x2:xs[j]?=some xs.toList[j]:=by rw[<-Array.getElem?_toList,List.getElem?_eq_getElem hj]
   unfold Lq Kl Ke q1 q2 qr at z
   rw[x1,x2]at z
   dsimp only at z
   rw[b1,b2,c1,c2]at z
   rw[b1,b2]
   simp only[NF.f,nfI,numOf,Int.toNat_natCast]at z ⊢
   omega
  ·rw[Array.toList_map,List.map_map]
   have go:∀l:List Keyed,(∀p∈l,∃i t,i<n/\p.2=.int (i:Nat) t/\kf p.1=kz i)->Vals (l.map ((λi:Nat=>V.int i) ∘ λp:Keyed=>(numOf p.2).toNat)) (l.map (·.2)):=λl=>by
    induction l with
    |nil=>intro _; exact .nil
    |cons p r ih =>
     intro hm
     refine .cons ?_ (ih λq hq=>hm q (List.mem_cons_of_mem _ hq))
     obtain⟨i,t,_,e,_⟩:=hm p (List.mem_cons_self ..)
     exact⟨t,by simp[e,numOf]⟩
   exact go _ mem
 -- a function of the keys
 obtain⟨kf,hkf⟩:∃kf:Value->Int × Int,∀v k,Kv H v k->kf v=k:=by
  classical
  refine⟨λv=>if q:∃k,Kv H v k then q.choose else(0,0),λv k hk=>?_⟩
  have q:∃k,Kv H v k:=⟨k,hk⟩
  dsimp only
  rw[dif_pos q]
  exact inj v _ _ q.choose_spec hk
 have Sw:∀(i:Nat) v t,(keys.zip vs.toArray)[i]?=some (v,Value.int i t)->kf v=kz i:=λi v t e=>by
  have hi:i<n:=by
   have:=(Array.getElem?_eq_some_iff.mp e).1
   omega
  obtain⟨v',t',e1,q⟩:=zq i hi
  rw[e1]at e
  cases e
  exact hkf _ _ q
 unfold ksk_end
 simp only[Bool.false_eq_true,if_false]
 rw[List.size_toArray,hl]
 by_cases h2:n<2
 ·rw[if_pos h2,if_pos h2]
  refine wpAny_bind (wpAny_pure ?_)
  rw[StateT.run_pure]
  refine wpAny_bind (wpAny_pure ?_)
  refine Sv (st:=SortSt.mk' general' (keys.zip vs.toArray) #[] 7 none) I fk fa ne hk ha (by omega) (by show(keys.zip vs.toArray).size<=64; omega) rfl λs' c I' e'=>h s' c _ I' e' (fin kf _ Sw (Array.Perm.refl _) λi j hij hj=>by omega)
 ·rw[if_neg h2,if_neg h2]
  refine wpAny_bind (T.kind H keys kz (by omega) hK I ?_)
  have ask:=T.ask (E:=E) (s:=s) (keys.zip vs.toArray) kf I (λp hp=>by
   obtain⟨i,hi,e⟩:=List.getElem_of_mem hp
   have hi':i<n:=by rw[Array.length_toList,nF]at hi; exact hi
   obtain⟨v,t,e1,q⟩:=zq i hi'
   have e2:(keys.zip vs.toArray)[i]?=some p:=by rw[<-Array.getElem?_toList,List.getElem?_eq_getElem hi,e]
   rw[e1]at e2
   cases e2
   rw[hkf _ _ q]
   exact q)
  have B:SB (keys.zip vs.toArray) kd (SortSt.mk' kd (keys.zip vs.toArray) #[] 7 none):=⟨Array.Perm.refl _,rfl,rfl,rfl⟩
  have p0:Pre (keys.zip vs.toArray).size (arrOf (SortSt.mk' kd (keys.zip vs.toArray) #[] 7 none)) 0:=⟨λk hk=>by omega,λk _ hk=>by
   obtain⟨v,t,e1,_⟩:=zq k (by omega)
   show qr (keys.zip vs.toArray) k=k
   unfold qr
   rw[e1]
   rfl⟩
  refine wpAny_bind (wpAny_mono (Sq (Q:=λ_ t=>(arrOf t).Perm (keys.zip vs.toArray)/\failedOf t=none/\iC kf (arrOf t) (keys.zip vs.toArray).size) ask B (by omega) (by omega) p0 λt a1 a2 a3=>⟨a1,a2,a3⟩) ?_ λ_ _ z=>z)
  rintro⟨⟨⟩,t⟩ s' ⟨rfl,hp,hf,hs⟩
  rw[nF]at hs
  exact Sv I fk fa ne hk ha (by omega) (by rw[hp.size_eq,nF]; omega) hf λs' c I' e'=>h s' c _ I' e' (fin kf _ Sw hp hs)
end
section
variable {X:Cx}{pins:List (Addr × Obj)}{σ : St}{H:Hp}{s:Shared}{Kv:Hp->Value->Int × Int->Prop}{kd:SortKind}{n:Nat}{kz:Nat->Int × Int}{vs:List Value}{f:Value}
theorem d7.up{H':Hp}{b:Addr}(h:d7 X pins H b)(e:H' b=none):d7 X pins H' b:=⟨e,h.2⟩
noncomputable def JC(X:Cx)(pins:List (Addr × Obj))(σ : St)(H:Hp)(Kv:Hp->Value->Int × Int->Prop)(n:Nat)(kz:Nat->Int × Int)(f:Value):Prop :=
 ∀(oA:List (Addr × Obj)) (i:Nat) (t:Tok) (s':Shared) (H':Hp),i<n->(∀p∈pins,p∈oA)->Same H H'->Inv X oA σ H' s' ->
  wpAny (model X.prog X.w) X.A.in1.in1 (call f [.int i t]) (λv s''=>∃dg,Same H' dg/\Kv dg v (kz i)/\Inv X oA σ dg s'') (λ_ _=>False) s'
theorem acV{a kS:Addr}{e1:Nat}{P:PySem.Fin->Shared->Prop}{E:Value->Shared->Prop}(T:sZ X Kv kd)(mono:∀{H H':Hp} {v k},Same H H'->Kv H v k->Kv H' v k)(inj:∀{pins:List (Addr × Obj)} {σ : St} {H:Hp} {s:Shared},Inv X pins σ H s->∀v k k',Kv H v k->Kv H v k'->k=k')
  (I:Inv X pins σ H s) (fk:d7 X pins H kS) (fa:d7 X pins H a) (ne:kS≠a) (hk:s.heap.get? kS=some (seqObj "list" #[] 0)) (ha:s.heap.get? a=some (seqObj "list" #[] e1))
  (hv:∀(i:Nat) (v:Value),vs[i]?=some v->∃t,v=Value.int i t) (hl:vs.length=n) (h64:n<64) (key:JC X pins σ H Kv n kz f)
  (h:∀s' c out H',Same H H'->H' a=none->Inv X pins σ H' s'->s'.heap.get? a=some (seqObj "list" out c)->(∃ys,qD n kz ys/\Vals (ys.map λi:Nat=>V.int i) out.toList)->P (.done (.ret .none)) s') :
  wpAny (model X.prog X.w) X.A.in1.in1 (ksk_rest a f false vs.toArray e1 (.ref kS)) P E s:=by
 unfold ksk_rest
 refine wpAny_bind (wpAny_rule ?_)
 rw[<-Array.forIn_toList]
 simp only[List.toList_toArray]
 refine wpAny_bind (ksk_fold (λi s'=>∃H' kA e,Same H H'∧H' kS=none∧H' a=none∧Inv X pins σ H' s'∧s'.heap.get? kS=some (seqObj "list" kA e)∧s'.heap.get? a=some (seqObj "list" #[] e1)∧kA.size=i∧∀(j:Nat) v,kA[j]?=some v→Kv H' v (kz j)) vs 0 s
  ⟨H,#[],0,Same.refl _,fk.1,fa.1,I,hk,ha,rfl,λj v z=>by simp at z⟩ ?_ ?_)
 ·rintro j x s' hx ⟨H',kA,e,sm,nk,na,I',hk',ha',sz,hK⟩
  rw[Nat.zero_add]at sz ⊢
  have hj:j<vs.length:=(List.getElem?_eq_some_iff.mp hx).1
  obtain⟨t,rfl⟩:=hv j x hx
  have fk':=fk.up nk
  have fa':=fa.up na
  have I2:Inv X ((kS,seqObj "list" kA e)::(a,seqObj "list" #[] e1)::pins) σ H' s':=(I'.vp fa' ha' (λv z=>by cases z)).vp (fk'.vp (Ne.symm ne)) hk' (λv z=>by cases z)
  refine wpAny_bind (wpAny_attempt (wpAny_mono (key _ j t s' H' (by omega) (λp hp=>List.mem_cons_of_mem _ (List.mem_cons_of_mem _ hp)) sm I2) (λv s'' he=>?_) λ_ _ z=>z.elim))
  obtain⟨dg,Sx,kv,I3⟩:=he
  have p1:=I3.pin (kS,seqObj "list" kA e) (List.mem_append_right _ (List.mem_cons_self ..))
  have p2:=I3.pin (a,seqObj "list" #[] e1) (List.mem_append_right _ (List.mem_cons_of_mem _ (List.mem_cons_self ..)))
  have I4:Inv X pins σ dg s'':=I3.sub λp hp=>List.mem_cons_of_mem _ (List.mem_cons_of_mem _ hp)
  show wpAny _ _ (Builtin.List.listUpdate (.ref kS) (·.push v) >>= λ_=>pure (ForInStep.yield PUnit.unit)) _ _ _
  refine wpAny_bind (listUpdate_at p1.1 rfl ?_ (by rw[sizeLine_eq]; omega) (Nat.le_trans (Nat.le_of_eq (Array.size_push ..)) (by rw[sizeLine_eq]; omega)))
  refine wpAny_pure ⟨rfl,dg,kA.push v,_,sm.trans Sx,p1.2.1,p2.2.1,I4.wr (t':=s''.toks) (fk.up p1.2.1),get?_update_seq p1.1 _,((Heap.SameBut.update s''.heap kS _).2 a (Ne.symm ne)).trans p2.1,by rw[Array.size_push,sz],λi u q=>?_⟩
  rw[Array.getElem?_push]at q
  split at q
  ·rename_i z
   cases q
   rw[z,sz]
   exact kv
  ·exact mono Sx (hK i u q)
 ·rintro s' ⟨H',kA,e,sm,nk,na,I',hk',ha',sz,hK⟩
  refine wpAny_bind (listItems_at hk' rfl ?_)
  exact acU T I' (fk.up nk) (fa.up na) ne hk' ha' hv hl (by omega) h64 hK (inj I') λs'' c out JD e'' q=>h s'' c out H' sm na JD e'' q
theorem acW{a:Addr}{c0:Nat}{P:PySem.Fin->Shared->Prop}{E:Value->Shared->Prop}(T:sZ X Kv kd)(mono:∀{H H':Hp} {v k},Same H H'->Kv H v k->Kv H' v k)(inj:∀{pins:List (Addr × Obj)} {σ : St} {H:Hp} {s:Shared},Inv X pins σ H s->∀v k k',Kv H v k->Kv H v k'->k=k')
  (I:Inv X pins σ H s) (fa:d7 X pins H a) (ha:s.heap.get? a=some (seqObj "list" vs.toArray c0))
  (hv:∀(i:Nat) (v:Value),vs[i]?=some v->∃t,v=Value.int i t) (hl:vs.length=n) (h64:n<64) (key:JC X pins σ H Kv n kz f)
  (h:∀s' c out H',Same H H'->H' a=none->Inv X pins σ H' s'->s'.heap.get? a=some (seqObj "list" out c)->(∃ys,qD n kz ys/\Vals (ys.map λi:Nat=>V.int i) out.toList)->P (.done (.ret .none)) s') :
  wpAny (model X.prog X.w) X.A.in1.in1 (ksk_tree a f false) P E s:=by
 unfold ksk_tree
 refine wpAny_bind (listItems_at ha rfl ?_)
 refine wpAny_bind (listUpdate_at ha rfl ?_ (by rw[List.size_toArray,sizeLine_eq]; omega) (Nat.zero_le _))
 have I1:=I.wr (g:=λ_=>#[]) (t':=s.toks) fa
 obtain⟨e1,ha1⟩:∃e1,(s.heap.update a (Obj.mapSeq λ_=>(#[]:Array Value))).get? a=some (seqObj "list" #[] e1):=⟨_,get?_update_seq ha _⟩
 refine wpAny_bind (seqEpoch_at ha1 rfl ?_)
 refine wpAny_bind (wpAny_newTuple ?_ (by show vs.toArray.toList.length<=_; rw[List.toList_toArray,sizeLine_eq]; omega))
 refine wpAny_bind (wpAny_newList ?_ (Nat.zero_le _))
 have I2:Inv X pins σ H {s with heap:=(s.heap.update a (Obj.mapSeq λ_=>(#[]:Array Value))).push {cls:=.type "tuple",data:=.seq vs.toArray.toList.toArray } }:=I1.kept (t':=s.toks) λb o e=>Heap.get?_push_of_some _ e
 have I3:Inv X pins σ H {s with heap:=((s.heap.update a (Obj.mapSeq λ_=>(#[]:Array Value))).push {cls:=.type "tuple",data:=.seq vs.toArray.toList.toArray }).push {cls:=.type "list",data:=.seq ([]:List Value).toArray } }:=I2.kept (t':=s.toks) λb o e=>Heap.get?_push_of_some _ e
 have lt:a<((s.heap.update a (Obj.mapSeq λ_=>(#[]:Array Value))).push {cls:=.type "tuple",data:=.seq vs.toArray.toList.toArray }).objs.size:=by
  rw[size_push',Heap.size_update]
  exact Nat.lt_succ_of_lt (Heap.lt_size ha)
 refine wpAny_holding ?_
 exact acV T mono inj I3 (I2.oF (Nat.le_refl _) (I2.hok.fresh (Nat.le_refl _))) fa (Nat.ne_of_gt lt) (Heap.get?_push_size _ rfl) (Heap.get?_push_of_some _ (Heap.get?_push_of_some _ ha1)) hv hl h64 key h
theorem acX{A:Around}{r:Addr}{n:Nat}{t u v:Tok}{Q:List Value->Shared->Prop}{E:Value->Shared->Prop}{P:Program}{w:World}(hh:A.handled=none)(hr:IsRange s.heap r 0 n 1 t u v)(hn:n<=1000)
  (h:∀h' tk (vs:List Value),(∀b o,s.heap.get? b=some o->h'.get? b=some o)->vs.length=n->(∀(i:Nat) (v:Value),vs[i]?=some v->∃t,v=Value.int i t)->Q vs {s with heap:=h',toks:=tk }) :
  wpAny (model P w) A (collect (.ref r)) Q E s:=by
 unfold collect
 refine wpAny_bind (wpAny_runValue (codeAny_builtin F.entry_proto_collect ?_))
 rw[Around.under_plainId F.plain_proto_collect _]
 show wpAny _ A.in1 (newList [] >>= λl=>again (.builtin "list.__iadd__" ⟨[l,.ref r],[]⟩)) _ _ s
 refine wpAny_bind (wpAny_newList ?_ (Nat.zero_le _))
 refine wpAny_pure ⟨plainId_quiet F.plain_list_iadd _,codeAny_builtin F.entry_list_iadd ?_⟩
 rw[Around.under_plainId F.plain_list_iadd _]
 have Dl:Builtin.Range.rangeSize 0 (n:Int) 1=n:=by rw[rangeSize_one]; split <;> omega
 have keep:∀b o,s.heap.get? b=some o->(s.heap.push {cls:=.type "list",data:=.seq ([]:List Value).toArray }).get? b=some o:=λb o e=>Heap.get?_push_of_some _ e
 show wpAny _ A.in1 (Builtin.List.listExtendWith (.ref s.heap.objs.size) (.ref r) (.ref s.heap.objs.size)) _ _ {s with heap:=s.heap.push {cls:=.type "list",data:=.seq ([]:List Value).toArray } }
 refine wpAny_extend_range (A:=A) (R:=λr s'=>match r with
  | Except.ok (Flow.ret v)=>wpAny (model P w) A (match v with
   |Value.ref a=>do
    let __do_lift <-load a
    match __do_lift.data with
     |Data.seq xs epoch=>pure xs.toList
     |x=>unsupported "internal:collect"
   |x=>unsupported "internal:collect") Q E s'
  |Except.ok a=>False
  |Except.error e=>E e s') (s:={s with heap:=s.heap.push {cls:=.type "list",data:=.seq ([]:List Value).toArray } }) hh (keep _ _ hr) (small_one (by omega) (by omega) (by omega) (by omega)) Dl (by omega) s.heap.objs.size (.ref s.heap.objs.size) 0 (Heap.get?_push_size _ rfl) λh' tk acc c hk hS hi=>?_
 show wpAny _ A (load s.heap.objs.size >>= _) _ _ _
 refine wpAny_bind (wpAny_load hS ?_)
 refine wpAny_pure (h h' tk acc.toList (λb o e=>hk b o (Nat.ne_of_lt (Heap.lt_size e)) (keep b o e)) (by rw[Array.length_toList]; exact hi.1) λi v e=>?_)
 rw[Array.getElem?_toList]at e
 obtain⟨t,z⟩:=hi.2 i v e
 exact⟨t,by rw[z]; simp⟩
theorem acY{r:Addr}{t u v:Tok}{q:Addr}{Q:Value->Shared->Prop}{E:Value->Shared->Prop}(T:sZ X Kv kd)(mono:∀{H H':Hp} {v k},Same H H'->Kv H v k->Kv H' v k)(inj:∀{pins:List (Addr × Obj)} {σ : St} {H:Hp} {s:Shared},Inv X pins σ H s->∀v k k',Kv H v k->Kv H v k'->k=k')
  (I:Inv X pins σ H s) (hh:X.A.handled=none) (hr:IsRange s.heap r 0 n 1 t u v) (h64:n<64) (key:JC X pins σ H Kv n kz (.ref q))
  (h:∀s' D ys H',Same H H'->H' D=none->Inv X pins σ (upd H' D (.lst (ys.map λi:Nat=>V.int i))) s'->qD n kz ys->Q (.ref D) s') :
  wpAny (model X.prog X.w) X.A (call (.builtin "sorted") [.ref r] [(Str.ofString "key",.ref q)]) Q E s:=by
 refine call_function_entry_kw kind_sorted plain_sorted entry_sorted (ksk_s1 _ _) ?_
 unfold Builtin.«sorted»
 refine wpAny_bind (m:=checkCount "sorted" 1 1 _) (wpAny_pure ?_)
 refine wpAny_bind (acX (A:=X.A.in1) hh hr (by omega) λh1 tk vs keep hl hv=>?_)
 have I1:Inv X pins σ H {s with heap:=h1,toks:=tk }:=I.kept keep
 refine wpAny_bind (wpAny_newList ?_ (by rw[sizeLine_eq]; omega))
 have I2:Inv X pins σ H {s with heap:=h1.push {cls:=.type "list",data:=.seq vs.toArray },toks:=tk }:=I1.kept (t':=tk) λb o e=>Heap.get?_push_of_some _ e
 have ha:(h1.push {cls:=.type "list",data:=.seq vs.toArray }).get? h1.objs.size=some (seqObj "list" vs.toArray 0):=Heap.get?_push_size _ rfl
 refine wpAny_bind (wpAny_holding (wpAny_call_entry_kw slot_list_sort ⟨_,ha,rfl⟩ entry_list_sort ?_ (ksk_l1 _ _)))
 show wpAny (model X.prog X.w) X.A.in1.in1 (Builtin.«list.sort» ⟨[.ref h1.objs.size],[(Str.ofString "key",.ref q)]⟩) _ _ _
 rw[ksk_t1]
 have fa:d7 X pins H h1.objs.size:=I1.oF (Nat.le_refl _) (I1.hok.fresh (Nat.le_refl _))
 refine acW T mono inj I2 fa ha hv hl h64 key λs' c out H' sm na I' e' ⟨ys,hs,hv'⟩=>⟨_,rfl,?_⟩
 refine wpAny_pure ⟨_,rfl,h s' _ ys H' sm na (I'.track (its:=out.toList) (n:=c) (fa.up na) e' hv' ?_) hs⟩
 have:=hs.1.length_eq
 rw[List.length_map,this,List.length_range,sizeLine_eq]
 omega
end
noncomputable def JF(X:Cx)(A:Around)(N:List Str)(qual:Str)(scope:Scope)(f:Addr)(cd:Value)(s:Shared)(H:Hp):Cx where
 prog:=X.prog
 w:=X.w
 K:=X.K
 mg:=X.mg
 base:=X.base
 A:=A.deeper (envX qual scope s.heap.objs.size f cd (d8 X.env.cells scope.names []))
 N:=N
 s₀ := s
 H₀ := H
 env:=envX qual scope s.heap.objs.size f cd (d8 X.env.cells scope.names [])
 outer:=X.stack
 stack:=envX qual scope s.heap.objs.size f cd (d8 X.env.cells scope.names [])::X.stack
 ex:=[]
 fn:=λ_=>false
 calm:=true
 pn:=[]
 xe:=λ_ _=>False
structure Dm(sc:Scope)(No:List Str)(x:Str)(Ns:List Str)(src:List (Option Nat))(scope:Scope):Prop where
 c:yE sc No (x::Ns) (none::src) scope
 Sy:∀y∈scope.names,y.2 ≠ .cell
 par:scope.names.lookup x=some .local
 co:scope.isCoroutine=false
 gen:scope.isGenerator=false
section
variable {X:Cx}{pins:List (Addr × Obj)}{σ : St}{H:Hp}{s:Shared}{sc scope:Scope}{No Ns:List Str}{src:List (Option Nat)}{x qual:Str}
theorem acZ{A:Around}{f:Addr}{cd:Value}{h₁ : Heap}{tk:Nat}{v:V}{u:Value}(hsc:X.env.scope=sc)(lq:X.N=No)(S:Dm sc No x Ns src scope)(hfr:A.frames=some X.stack)(hhd:A.handled=none)(I:Inv X pins σ H s)(rv:RelV v u)
  (hns:h₁.Ns s.heap.objs.size (λy=>([(x,u)]:List (Str × Value)).reverse.lookup y)) (old:∀b o,s.heap.get? b=some o->h₁.get? b=some o) :
  Inv (JF X A (x::Ns) qual scope f cd s H) [] (some v::fY src σ) H {s with heap:=h₁,toks:=tk }:=by
 subst hsc
 subst lq
 have zu:∀x c,(d8 X.env.cells scope.names []).lookup x=some c->X.env.cells.lookup x=some c:=λx c h=>by
  rcases ur h with q|q
  ·simp at q
  ·exact q
 refine⟨⟨I.ok.mod,S.c.kind,rfl,rfl,Nat.le_refl _,λx y c h1 h2=>I.ok.inj x y c (zu _ _ h1) (zu _ _ h2),λy hy=>?_,λx c h=>(Bool.false_ne_true h).elim,λ_=>hhd,Around.frames_deeper hfr,.inr ⟨rfl,rfl⟩,λb hb=>absurd (show b∈([]:List Addr)from hb) (by simp),
   I.bs,Nat.le_trans I.ok.qW I.sz,λb o e=>by intro hb; exact absurd (show b∈([]:List Addr)from hb) (by simp),λb hb=>absurd (show b∈([]:List Addr)from hb) (by simp),I.stack,I.Az⟩,
  rfl,I.bare,Un.kept old,⟨_,hns,λi y w' h1 h2 h3=>?_⟩,λy c e=>?_,I.hok.fresh (Nat.le_refl _),λy c e=>I.m5 y c (zu y c e),λp hp=>absurd (show p∈([]:List (Addr × Obj))from hp) (by simp),I.hok.kept old,?_⟩
 ·have hy:scope.names.lookup y=some .cell\/scope.names.lookup y=some .free:=hy
  have m:(y,NameKind.free)∈scope.names:=by
   rcases hy with z|z
   ·exact absurd rfl (S.Sy _ (PySem.mem_of_lookup z))
   ·exact PySem.mem_of_lookup z
  have q:=uw (cells:=X.env.cells) (acc:=[]) (.inr ⟨m,by
   obtain⟨c,e⟩:=I.ok.has y (S.c.free _ m rfl)
   rw[e]; rfl⟩)
  exact Option.isSome_iff_exists.mp q
 ·cases i with
  |zero =>
   have h1:some x=some y:=h1
   cases h1
   have h2:some (some v)=some (some w'):=h2
   cases h2
   exact⟨u,rv,.inl ⟨S.par,by show([(x,u)]:List (Str × Value)).reverse.lookup x=some u; simp⟩⟩
  |succ i =>
   have h1:Ns[i]?=some y:=h1
   have h2:(fY src σ)[i]?=some (some w'):=h2
   have hi:i<src.length:=by
    unfold fY at h2
    have:=(List.getElem?_eq_some_iff.mp h2).1
    simpa using this
   have h2':((src[i]).bind λj=>(σ[j]?).join)=some w':=by
    unfold fY at h2
    rw[List.getElem?_map,List.getElem?_eq_getElem hi]at h2
    exact Option.some.inj h2
   cases es:src[i]with
   |none=>rw[es]at h2'; cases h2'
   |some j =>
    rw[es]at h2'
    have hj : σ[j]?=some (some w'):=by
     have z:(σ[j]?).join=some w':=h2'
     cases q : σ[j]? with
     |none=>rw[q]at z; cases z
     |some o=>rw[q]at z; have z':o=some w':=z; rw[z']
    have hz:(y,some j)∈(x::Ns).zip (none::src):=by
     refine List.mem_of_getElem? (i:=i+1) ?_
     rw[List.getElem?_zip_eq_some]
     exact⟨by simpa using h1,by simp[List.getElem?_eq_getElem hi,es]⟩
    obtain⟨u1,u2⟩:=S.c.up _ hz j rfl
    have m:(y,NameKind.free)∈scope.names:=PySem.mem_of_lookup u2
    have kx:=S.c.free _ m rfl
    obtain⟨m0,hn0,hl0⟩:=id I.loc
    obtain⟨u',r,lk⟩:=hl0 j y w' u1 hj (kx.elim (λz=>.inr (.inl z)) λz=>.inr (.inr z))
    refine⟨u',r,?_⟩
    rcases lk with⟨k,_⟩|⟨_,c,e,ic⟩
    ·have k':X.env.scope.names.lookup y=some .local:=k
     rcases kx with z|z <;> (rw[z]at k'; cases k')
    ·refine .inr ⟨.inr u2,c,?_,?_⟩
     ·have q:=uw (cells:=X.env.cells) (acc:=[]) (.inr ⟨m,by rw[e]; rfl⟩)
      obtain⟨c',e'⟩:=Option.isSome_iff_exists.mp q
      have e2:=zu y c' e'
      rw[e]at e2; cases e2
      exact e'
     ·obtain⟨o,ho,hd⟩:=ic
      exact⟨o,old _ _ ho,hd⟩
 ·obtain⟨v,o,ho,hd⟩:=I.cell y c (zu y c e)
  exact⟨v,o,old _ _ ho,hd⟩
 ·have:=S.c.len
  show _=(x::Ns).length
  rw[List.length_cons]at this ⊢
  rw[List.length_cons]
  unfold fY
  rw[List.length_map]
  exact this
theorem ac0{A:Around}{f c':Addr}{params:Arguments}{body:Expr}{pm ctv:Value}{v:V}{u:Value}{te:TE}{Q:VK}{E:Value->Shared->Prop}(hsc:X.env.scope=sc)(lq:X.N=No)(S:Dm sc No x Ns src scope)(hfr:A.frames=some X.stack)(hhd:A.handled=none)(hroom:A.depth<recursionLimit)
  (I:Inv X pins σ H s) (ho:s.heap.get? f=some (kla_obj "<lambda>" qual params body scope (d8 X.env.cells scope.names []) pm c' ctv)) (hcd:s.heap.CodeRec (.ref c') qual) (rv:RelV v u)
  (hbind:bindArgs (kla_fn "<lambda>" qual params body scope (d8 X.env.cells scope.names []) pm (.ref c') ctv) ⟨[u],[]⟩=pure [(x,u)])
  (he:∀s H,PE (JF X A (x::Ns) qual scope f (.ref c') s H) body te) (hq:te (some v::fY src σ) H Q):wpAny (model X.prog X.w) A (call (.ref f) [u]) (EP X pins σ Q) E s:=by
 refine wpAny_call (kla_callFunE hroom ho rfl S.co S.gen rfl hcd ?_)
 rw[hbind]
 refine wpAny_pure (wpAny_newFunctionEnv S.Sy (λy hy=>?_) (λh₁ hns hsb=>⟨I.nolimit.fresh _ hsb,?_⟩) S.c.kind)
 ·have:y=(x,u):=by simpa using hy
  subst this
  exact S.par
 have old:∀b o,s.heap.get? b=some o->h₁.get? b=some o:=λb o e=>hsb.extBut b o (Nat.ne_of_lt (Heap.lt_size e)) (Heap.get?_push_of_some _ e)
 have J:=acZ (A:=A) (f:=f) (cd:=.ref c') (qual:=qual) (tk:=s.toks+[(x,u)].length) hsc lq S hfr hhd I rv hns old
 show codeAny _ _ (.expr body (envX qual scope s.heap.objs.size f (.ref c') (d8 X.env.cells scope.names []))) _ _
 refine kla_codeExpr (wpAny_mono (he s H [] _ _ H Q J hq) (λw' s' hw=>?_) λ_ _ z=>z.elim)
 obtain⟨v',H',J',r',q'⟩:=hw
 exact⟨v',H',I.call' (ch:=[]) J'.os J'.base J'.hok J'.bare (λb hb=>absurd hb (by simp)),r',q'⟩
end
def qF(mg:Str→Option Value)(base:Heap):Prop:=∃bm ob,mg "__builtins__" = some (.ref bm)∧bm≠builtinsNs∧bm≠mainGlobals∧base.get? bm=some ob∧ob.cls=.type "module" ∧ ob.dict=some builtinsNs∧ob.data=.plain
theorem SJ{a b:Int}{t u:Tok}{c:Value}:∀{l:List Value},TriplesOk l->TriplesOk (l++[.int a t,.int b u,c])
 | [],_=>trivial
 |.int _ _ :: .int _ _::_::r,h=>SJ (l:=r) h
theorem SM{a b:Int}{t u:Tok}{c v:Value}{pos:Pos}:∀{l:List Value},TriplesOk l->codeAmong pos (l++[.int a t,.int b u,c])=some v->codeAmong pos l=some v\/v=c
 | [],_,h=>by
  have h:(if _ then some c else none)=some v:=h
  split at h
  ·cases h; exact .inr rfl
  ·cases h
 |.int x _ :: .int y _::z::r,o,h=>by
  have h:(if(x == pos.line&&y == pos.col)=true then some z else codeAmong pos (r++[.int a t,.int b u,c]))=some v:=h
  show(if(x == pos.line&&y == pos.col)=true then some z else codeAmong pos r)=some v\/_
  split at h
  ·rename_i q
   rw[if_pos q]
   exact .inl h
  ·rename_i q
   rw[if_neg q]
   exact SM (l:=r) o h
section
variable {X:Cx}{pins:List (Addr × Obj)}{σ : St}{H:Hp}{s:Shared}{sc scope:Scope}{No Ns:List Str}{src:List (Option Nat)}{x:Str}
structure Dn(P:Addr)(q:Str)(H H':Hp):Prop where
 kp:∀b o,H b=some o->b≠P->H' b=some o
 tb:∃ps,H' P=some (.cY ps)/\Ck H' q ps
theorem ac1{A:Around}{c P:Addr}{ps:Array Value}{params:Arguments}{body:Expr}{pos:Pos}{Q:Value->Shared->Prop}{E:Value->Shared->Prop}(hsc:X.env.scope=sc)(S:Dm sc No x Ns src scope)(hcode:X.env.code=.ref c)(C:CodeHd X.base c P)(B:qF X.mg X.base)
  (hdef:defaultsOf params X.env=([],[])) (I:Inv X pins σ H s) (hP:H P=some (.cY ps)) (ok:Ck H (X.env.qual++("<lambda>" : Str)) ps)
  (h:∀f c' ctv pm H' s' oc,Dn P (X.env.qual++("<lambda>" : Str)) H H'→Inv X ((f,kla_obj "<lambda>" (X.env.qual++("<lambda>" : Str)) params body scope (d8 X.env.cells scope.names []) pm c' ctv)::pins) σ H' s'→H' c'=some (.fJ oc (.own 0))→Q6 oc (X.env.qual++("<lambda>" : Str))→Q (.ref f) s') :
  wpAny (model X.prog X.w) A (eval (.Lambda params body scope pos) X.env) Q E s:=by
 have hcl:closureFor scope X.env=pure (d8 X.env.cells scope.names []):=HB λy hy e=>by
  have k:=S.c.free y hy e
  rw[<-hsc]at k
  obtain⟨c,q⟩:=I.ok.has y.1 k
  rw[q]; rfl
 have oP:s.heap.get? P=some (tabObj ps):=I.hok P _ hP
 have nP:mainGlobals≠P:=λz=>by
  obtain⟨o,es,ep,e,hd,_⟩:=I.ok.mod.glob
  have:=(I.bs _ _ e).2
  rw[z,hP]at this
  cases this
 have hg:s.heap.Ns mainGlobals X.mg:=let⟨o,es,ep,e,r⟩:=I.ok.mod.glob; ⟨o,es,ep,I.bk _ _ e,r⟩
 have hB:s.heap.BuiltinsAt X.mg P:=by
  obtain⟨bm,ob,b1,b2,b3,b4,b5,b6,b7⟩:=B
  refine⟨bm,ob,b1,b2,b3,λz=>?_,I.bk _ _ b4,b5,b6,b7⟩
  have:=(I.bs _ _ b4).2
  rw[z,hP]at this
  cases this
 have C':CodeHd s.heap c P:=C.keeps I.bk
 refine kla_eval hdef ?_
 cases hf:codeAmong pos ps.toList with
 |some cv =>
  obtain⟨c',oc,rfl,e1,e2⟩:=ok.2 pos cv hf
  refine kla_makeFunctionHit (mg:=X.mg) hcl I.ok.glob hg hcode C' oP ok.1 hf hB λctv h' tk keep hsz=>?_
  have I1:Inv X pins σ H {s with heap:=h',toks:=tk }:=I.kept keep
  have I2:Inv X pins σ H {s with heap:=h'.push (kla_obj "<lambda>" (X.env.qual++("<lambda>" : Str)) params body scope (d8 X.env.cells scope.names []) ((X.mg "__name__").getD .none) c' ctv),toks:=tk }:=I1.kept (t':=tk) λb o e=>Heap.get?_push_of_some _ e
  refine h _ c' ctv _ H _ oc ⟨λ_ _ q _=>q,ps,hP,ok⟩ (I2.vp (I1.oF (Nat.le_refl _) (I1.hok.fresh (Nat.le_refl _))) (Heap.get?_push_size _ rfl) (λv z=>by cases z)) e1 e2
 |none =>
  refine kla_makeFunction (mg:=X.mg) hcl I.ok.glob hg hcode C' oP ok.1 hf nP hB λc' ctv h' tk ext hge hlt hrec htb=>?_
  obtain⟨c2,oc,vs,t,e2,hoc,hd,hv⟩:=hrec
  cases e2
  have nc:H c'=none:=I.hok.fresh hge
  have cP:c'≠P:=λz=>by rw[z,hP]at nc; cases nc
  have ne:∀b u,H b=some u->b≠c':=λb u q=>ji q nc
  have up:∀b u,H b=some u->b≠P->(upd (upd H P (.cY (ps ++ #[rawInt pos.line,rawInt pos.col,.ref c']))) c' (.fJ oc (.own 0))) b=some u:=λb u q z=>by rw[bJ (ne b u q),bJ z]; exact q
  have JG:(upd (upd H P (.cY (ps ++ #[rawInt pos.line,rawInt pos.col,.ref c']))) c' (.fJ oc (.own 0))) P=some (.cY (ps ++ #[rawInt pos.line,rawInt pos.col,.ref c'])):=by rw[bJ (Ne.symm cP)]; exact eX
  have keep:∀b o,b≠P->s.heap.get? b=some o->h'.get? b=some o:=λb o z e=>ext b o z e
  have hok:eY X.prog X.w (upd (upd H P (.cY (ps ++ #[rawInt pos.line,rawInt pos.col,.ref c']))) c' (.fJ oc (.own 0))) h':=λb u q=>by
   by_cases z1:b=c'
   ·subst z1
    rw[eX]at q
    cases q
    exact⟨hoc,oc,hoc⟩
   ·by_cases z2:b=P
    ·subst z2
     rw[JG]at q
     cases q
     exact htb
    ·rw[bJ z1,bJ z2]at q
     refine(I.hok b u q).stay (λd v hd' e=>keep d v ?_ e) (λd z=>up d _ z ?_) λd ys z=>up d _ z ?_
     ·rcases hd' with rfl|hd'
      ·exact z2
      ·rintro rfl
       rw[hP]at hd'
       cases hd'
     ·rintro rfl
      rw[hP]at z
      cases z
     ·rintro rfl
      rw[hP]at z
      cases z
  have wg:∀b,H b=none->b≠P:=λb n z=>by rw[z,hP]at n; cases n
  have I1:Inv X pins σ (upd (upd H P (.cY (ps ++ #[rawInt pos.line,rawInt pos.col,.ref c']))) c' (.fJ oc (.own 0))) {s with heap:=h',toks:=tk } :=
   I.step (h':=h') (g':=s.gens) (d':=s.drawn) (t':=tk) (ch:=[]) (λ_ z=>nomatch z) (λb o _ _ _ e n=>keep b o (wg b n) e) (λb o _ _ _ e n=>⟨o.slots,keep b o (wg b n) e⟩)
    (λb o _ e n=>by
     rw[bJ (λz=>by rw[z]at e; exact absurd (Heap.lt_size e) (Nat.not_lt.mpr hge)),bJ (wg b n)]; exact n)
    (λb o _ e=>by
     by_cases z:b=P
     ·subst z; exact⟨_,htb⟩
     ·exact⟨o,keep b o z e⟩)
    (λb ys q=>up b _ q (by rintro rfl; rw[hP]at q; cases q)) (λb o u q=>up b _ q (by rintro rfl; rw[hP]at q; cases q))
    (λb qs q=>by
     by_cases z:b=P
     ·subst z
      rw[hP]at q
      cases q
      exact⟨_,JG⟩
     ·exact⟨#[],by rw[up b _ q z]; simp⟩)
    (λm q=>q.extBut ext (wg _ I.free)) hok I.bare
  have I2:=I1.kept (t':=tk) (h':=h'.push (kla_obj "<lambda>" (X.env.qual++("<lambda>" : Str)) params body scope (d8 X.env.cells scope.names []) ((X.mg "__name__").getD .none) c' ctv)) λb o e=>Heap.get?_push_of_some _ e
  refine h _ c' ctv _ _ _ oc ⟨up,_,JG,?_,λpos' v q=>?_⟩ (I2.vp (I1.oF (Nat.le_refl _) (I1.hok.fresh (Nat.le_refl _))) (Heap.get?_push_size _ rfl) (λv z=>by cases z)) eX ⟨vs,t,hd,hv⟩
  ·have:(ps ++ #[rawInt pos.line,rawInt pos.col,.ref c']).toList=ps.toList++[rawInt pos.line,rawInt pos.col,.ref c']:=by simp
   rw[this]
   exact SJ ok.1
  ·have:(ps ++ #[rawInt pos.line,rawInt pos.col,.ref c']).toList=ps.toList++[rawInt pos.line,rawInt pos.col,.ref c']:=by simp
   rw[this]at q
   rcases SM ok.1 q with q|q
   ·obtain⟨d,o,z1,z2,z3⟩:=ok.2 pos' v q
    exact⟨d,o,z1,up d _ z2 (by rintro rfl; rw[hP]at z2; cases z2),z3⟩
   ·exact⟨c',oc,q,eX,vs,t,hd,hv⟩
end
abbrev KW:=Hp->V->Int × Int->Prop
def zx:KW:=λ_ v k=>v=.int k.1/\k.2=0
noncomputable def JH(Kw:KW)(P:Addr)(q:Str)(src:List (Option Nat))(ta:TA)(te:TE):TE:=λσ H Q=>ta σ H λvs H1=>∃(n:Nat) (kz:Nat->Int × Int),vs=[.int n]/\n<64/\(∃ps,H1 P=some (.cY ps)/\Ck H1 q ps)/\∀H2,Dn P q H1 H2 ->
 (∀(i:Nat),i<n->∀H3,Same H2 H3->te (some (.int i)::fY src σ) H3 λv H4=>Kw H4 v (kz i)/\Same H3 H4)/\∀D (ys:List Nat) H3,Same H2 H3->H3 D=none->qD n kz ys->Q (.ref D) (upd H3 D (.lst (ys.map λi:Nat=>V.int i)))
section
variable {X:Cx}{sc scope:Scope}{No Ns:List Str}{src:List (Option Nat)}{x:Str}{Kw:KW}{kd:SortKind}
theorem ac2{k:Nat}{c P:Addr}{e:Expr}{params:Arguments}{body:Expr}{p p2 pos pos2 ac3 kp:Pos}{ta:TA}{te:TE}(T:sZ X (λH u k=>∃v,RelV v u/\Kw H v k) kd)(mono:∀{H H':Hp} {v k},Same H H'->Kw H v k->Kw H' v k)(inj:∀{pins:List (Addr × Obj)} {σ : St} {H:Hp} {s:Shared},Inv X pins σ H s->∀u k k',(∃v,RelV v u/\Kw H v k)->(∃v,RelV v u/\Kw H v k')->k=k')
  (hr:fL k X.A) (h1:X.mg "sorted" = none) (h2:X.mg "range" = none) (hsc:X.env.scope=sc) (lq:X.N=No) (S:Dm sc No x Ns src scope) (hcode:X.env.code=.ref c) (C:CodeHd X.base c P) (B:qF X.mg X.base) (hdef:defaultsOf params X.env=([],[]))
  (ha:PA X [e] ta) (hbind:∀(pm cd ctv u:Value),bindArgs (kla_fn "<lambda>" (X.env.qual++("<lambda>" : Str)) params body scope (d8 X.env.cells scope.names []) pm cd ctv) ⟨[u],[]⟩=pure [(x,u)])
  (he:∀A f cd s H,PE (JF X A (x::Ns) (X.env.qual++("<lambda>" : Str)) scope f cd s H) body te)
  (hg:X.env.kindOf "sorted" = some .globalImplicit:=by kernel_rfl) (hg2:X.env.kindOf "range" = some .globalImplicit:=by kernel_rfl) (hs:notStar e=true:=by kernel_rfl) :
  PE X (.Call (.Name "sorted" p) [.Call (.Name "range" p2) [e] [] pos2] [⟨some (Str.ofString "key"),.Lambda params body scope ac3,kp⟩] pos) (JH Kw P (X.env.qual++("<lambda>" : Str)) src ta te):=by
 refine⟨λpins s σ H Q I h=>?_⟩
 refine wpAny_Call_Name_kw (tZ I hg h1 (by decide +kernel:bootBuiltins "sorted" = some (.builtin "sorted")) ?_ (by decide +kernel) (by kernel_rfl))
 refine callWith_kw (Calls.spliced_cons (wpAny_Call_Name_kw (tZ I hg2 h2 boot_range (PyProof.Rows.callWith_type1 (bD (ha pos2 pins s σ H _ I h) λus s1 ⟨vs,H1,I1,r1,q1⟩=>?_) (wI hs) rfl) (by decide +kernel) (by kernel_rfl))))
 obtain⟨n,kz,rfl,h64,⟨ps,hP,ok⟩,hq⟩:=q1
 obtain⟨u1,rfl,t1,rfl⟩:=vals1 r1
 refine call_range_1 ?_
 have rfp:d7 X pins H1 s1.heap.objs.size:=I1.oF (Nat.le_refl _) (I1.hok.fresh (Nat.le_refl _))
 have I2:Inv X pins σ H1 {s1 with heap:=s1.heap.push {cls:=.type "range",data:=.fields #[.int 0 s1.toks,.int n t1,.int 1 (s1.toks+1)] },toks:=s1.toks+1+1 }:=I1.kept λb o e=>Heap.get?_push_of_some _ e
 have I3:=I2.vp rfp (Heap.get?_push_size _ rfl) (λv z=>by cases z)
 refine Calls.spliced_nil ?_
 refine kws_cons (ac1 hsc S hcode C B hdef I3 hP ok λf c' ctv pm H2 s2 oc lh I4 e1 e2=>?_)
 refine kws_nil ?_
 have pr:=I4.pin _ (List.mem_append_right _ (List.mem_cons_of_mem _ (List.mem_cons_self ..)))
 obtain⟨key,fin⟩:=hq H2 lh
 show wpAny _ _ (call (.builtin "sorted") [.ref s1.heap.objs.size] [(Str.ofString "key",.ref f)]) _ _ _
 refine acY T (λ{H H' u k} sm ⟨v,a1,a2⟩=>⟨v,a1,mono sm a2⟩) inj I4 hr.hd pr.1 h64 (λoA i t s' H' hi sub sm I'=>?_) λs' D ys H3 sm nD I' hs'=>⟨.ref D,_,I'.sub λp hp=>List.mem_cons_of_mem _ (List.mem_cons_of_mem _ hp),rfl,fin D ys H3 sm nD hs'⟩
 have pf:=I'.pin _ (List.mem_append_right _ (sub _ (List.mem_cons_self ..)))
 have hcd:s'.heap.CodeRec (.ref c') (X.env.qual++("<lambda>" : Str)):=by
  obtain⟨vs,t,a1,a2⟩:=e2
  exact⟨c',oc,vs,t,rfl,(I'.hok c' _ (sm _ _ e1)).1,a1,a2⟩
 refine bD (ac0 (A:=X.A.in1.in1) (v:=.int i) (te:=te) (Q:=λv H4=>Kw H4 v (kz i)/\Same H' H4) hsc lq S I.ok.frames hr.hd hr.depth I' pf.1 hcd ⟨t,rfl⟩ (hbind _ _ _ _) (λs H=>he _ _ _ _ _) (key i hi H' sm)) λu s'' ⟨v,H4,JD,rv,q1,q2⟩=>⟨H4,q2,⟨v,rv,q1⟩,JD⟩
theorem ac4:sZ X (λH u k=>∃v,RelV v u/\zx H v k) oneType' where
 kind:=λH keys kz h2 hk pins σ s Q E I q=>Ss.kind H keys kz h2 (λi v e=>by
  obtain⟨w,r,rfl,z⟩:=hk i v e
  obtain⟨t,rfl⟩:=r
  exact⟨t,rfl,z⟩) I q
 ask:=λa₀ kf I h=>Ss.ask a₀ kf I λp hp=>by
  obtain⟨w,r,z1,z⟩:=h p hp
  subst z1
  obtain⟨t,r⟩:=r
  exact⟨t,r,z⟩
theorem ac5{pins:List (Addr × Obj)}{σ : St}{H:Hp}{s:Shared}(_:Inv X pins σ H s)(u:Value)(k k':Int × Int)(h:∃v,RelV v u/\zx H v k)(h':∃v,RelV v u/\zx H v k'):k=k':=by
 obtain⟨v,r,rfl,z⟩:=h
 obtain⟨v',r',rfl,z'⟩:=h'
 obtain⟨t,rfl⟩:=r
 obtain⟨t',r'⟩:=r'
 injection r' with r' _
 exact Prod.ext r' (z.trans z'.symm)
end
def pC(kz:Nat->Int × Int)(i j:Nat):Prop:=((kz i).1<(kz j).1\/((kz i).1=(kz j).1/\(kz i).2<(kz j).2))\/(((kz i).1=(kz j).1/\(kz i).2=(kz j).2)/\i<j)
instance {kz:Nat->Int × Int}{i j:Nat}:Decidable (pC kz i j):=by unfold pC; infer_instance
def qG(kz:Nat->Int × Int)(i:Nat):List Nat->List Nat
 | []=>[i]
 |j::r=>if pC kz i j then i::j::r else j::qG kz i r
def zy(n:Nat)(kz:Nat->Int × Int):List Nat:=(List.range n).foldr (qG kz) []
theorem JK(kz:Nat->Int × Int)(i:Nat):∀l,(qG kz i l).Perm (i::l)
 | []=>.refl _
 |j::r=>by
  unfold qG
  split
  ·exact .refl _
  ·exact((JK kz i r).cons j).trans (.swap i j r)
theorem SN(kz:Nat->Int × Int)(i:Nat):∀l,(∀j∈l,i≠j)->l.Pairwise (pC kz)->(qG kz i l).Pairwise (pC kz)
 | [],_,_=>by simp[qG]
 |j::r,hn,hp=>by
  have hp':=List.pairwise_cons.mp hp
  unfold qG
  split
  ·rename_i b
   refine List.pairwise_cons.mpr ⟨λk hk=>?_,hp⟩
   rcases List.mem_cons.mp hk with rfl|hk
   ·exact b
   ·have:=hp'.1 k hk
    unfold pC at b this ⊢
    omega
  ·rename_i b
   refine List.pairwise_cons.mpr ⟨λk hk=>?_,SN kz i r (λk hk=>hn k (List.mem_cons_of_mem _ hk)) hp'.2⟩
   rcases List.mem_cons.mp ((JK kz i r).mem_iff.mp hk)with rfl|hk
   ·have:=hn j (List.mem_cons_self ..)
    unfold pC at b ⊢
    omega
   ·exact hp'.1 k hk
theorem SQ(kz:Nat->Int × Int):∀l:List Nat,l.Nodup->(l.foldr (qG kz) []).Perm l/\(l.foldr (qG kz) []).Pairwise (pC kz)
 | [],_=>⟨.refl _,.nil⟩
 |i::r,nd=>by
  have nd':=List.nodup_cons.mp nd
  obtain⟨h1,h2⟩:=SQ kz r nd'.2
  exact⟨(JK kz i _).trans (h1.cons i),SN kz i _ (λj hj z=>nd'.1 (by rw[z]; exact h1.mem_iff.mp hj)) h2⟩
theorem SX(n:Nat)(kz:Nat->Int × Int):qD n kz (zy n kz):=SQ kz _ List.nodup_range
theorem S5{R:Nat->Nat->Prop}(as:∀a b,R a b->¬R b a):∀{l m:List Nat},l.Perm m->l.Pairwise R->m.Pairwise R->l=m
 | [],m,p,_,_=>by rw[List.nil_perm.mp p]
 |a::l,[],p,_,_=>by simpa using p.length_eq
 |a::l,b::m,p,h1,h2=>by
  have h1':=List.pairwise_cons.mp h1
  have h2':=List.pairwise_cons.mp h2
  have e:a=b:=by
   rcases List.mem_cons.mp (p.mem_iff.mp (List.mem_cons_self ..))with z|z
   ·exact z
   ·rcases List.mem_cons.mp (p.mem_iff.mpr (List.mem_cons_self (a:=b)))with y|y
    ·exact y.symm
    ·exact(as _ _ (h1'.1 b y) (h2'.1 a z)).elim
  subst e
  rw[S5 as p.cons_inv h1'.2 h2'.2]
theorem qD.eq{n:Nat}{kz:Nat->Int × Int}{ys:List Nat}(h:qD n kz ys):ys=zy n kz:=by
 have g:=SX n kz
 refine S5 (R:=pC kz) (λa b h1 h2=>?_) (h.1.trans g.1.symm) h.2 g.2
 unfold pC at h1 h2
 omega
abbrev RF:=List (Option Tr)->Rs Tr
noncomputable def QS(K:FZ)(te:TE)(f:RF):Prop:=∀(W:Addr->Prop) (σ : St) (H:Hp) (Q:VK) (ts:List (Option Tr)) (T:Tr),(∀b,W b->Lt H b)->(∀(i:Nat) U,ts[i]?=some (some U)->∃v,σ[i]?=some (some v)/\Rp K W H v U)->f ts=.ok T ->
 (∀v H',Same H H'->Rp K W H' v T->Q v H')->te σ H Q
theorem Rp.up{K:FZ}{W:Addr->Prop}{H H':Hp}{v:V}{T:Tr}(h:Rp K W H v T)(s:Same H H'):Rp K W H' v T:=by
 have m:Same (aN W H) (aN W H'):=(bL.of s).off
 rcases h with h|⟨a,xs,ts,e1,e2,e,r⟩
 ·exact .inl (h.mono m)
 ·exact .inr ⟨a,xs,ts,e1,e2,s _ _ e,r.mono m⟩
section
variable {K:FZ}{ta tb:TE}{fa fb:RF}
def qH(i:Nat):RF:=λts=>match ts[i]? with
 |some (some U)=>.ok U
 |_=>.bad
theorem S6(i:Nat):QS K (kj i) (qH i):=λW σ H Q ts T hw h e q=>by
 unfold qH at e
 split at e
 ·rename_i U z
  cases e
  obtain⟨v,h1,h2⟩:=h i _ z
  exact⟨v,h1,q v H (Same.refl _) h2⟩
 ·cases e
def wZ(g:G2)(fa fb:RF):RF:=λts=>(fa ts).bind λa=>(fb ts).bind λb=>(g a b).bind λz=>.ok z.1
theorem ac6{r:R2}{g:G2}(o:f9 K r g)(ha:QS K ta fa)(hb:QS K tb fb):QS K (gD r ta tb) (wZ g fa fb):=λW σ H Q ts T hw h e q=>by
 unfold wZ at e
 obtain⟨a,e1,e⟩:=iQ e
 obtain⟨b,e2,e⟩:=iQ e
 obtain⟨z,e3,e⟩:=iQ e
 cases e
 refine ha W σ H _ ts a hw h e1 λx H1 s1 r1=>?_
 refine hb W σ H1 _ ts b (λb w=>(hw b w).grow s1) (λi U z=>let⟨v,h1,h2⟩:=h i U z; ⟨v,h1,h2.up s1⟩) e2 λy H2 s2 r2=>?_
 refine o W x y a b H2 Q (λb w=>(hw b w).grow (s1.trans s2)) (r1.up s2) r2 ?_
 rw[e3]
 intro v H3 s3 v3
 refine q v H3 ((s1.trans s2).trans s3) (.inl ?_)
 exact dJ.rep (λb w=>((hw b w).grow (s1.trans s2)).ne) v3
def w6(g:G1)(fa:RF):RF:=λts=>(fa ts).bind λa=>(g a).bind λz=>.ok z.1
theorem ac7{r:V->Hp->VK->Prop}{g:G1}(o:rY K r g)(ha:QS K ta fa):QS K (yt r ta) (w6 g fa):=λW σ H Q ts T hw h e q=>by
 unfold w6 at e
 obtain⟨a,e1,e⟩:=iQ e
 obtain⟨z,e3,e⟩:=iQ e
 cases e
 refine ha W σ H _ ts a hw h e1 λx H1 s1 r1=>?_
 refine o W x a H1 Q (λb w=>(hw b w).grow s1) r1 ?_
 rw[e3]
 intro v H3 s3 v3
 refine q v H3 (s1.trans s3) (.inl ?_)
 exact dJ.rep (λb w=>((hw b w).grow s1).ne) v3
end
def xg(ρ : En)(j:Nat):Option Tr:=match ρ[j]? with
 |some (.sh T)=>some T
 |some (.ow ts)=>some (.lst ts)
 |some (.rf ts)=>some (.lst ts)
 |_=>none
def zA(src:List (Option Nat))(ρ : En):List (Option Tr):=src.map λo=>o.bind (xg ρ)
def zB:Tr->Option (Int × Int)
 |.int i=>some (i,0)
 |_=>none
def vq(kt:Tr->Option (Int × Int))(fb:RF)(ts:List (Option Tr)):List Nat->Rs (List (Int × Int))
 | []=>.ok []
 |i::r=>(fb (some (Tr.int i)::ts)).bind λT=>match kt T with
  |some k=>(vq kt fb ts r).bind λks=>.ok (k::ks)
  |none=>.bad
theorem S7{kt:Tr->Option (Int × Int)}{fb:RF}{ts:List (Option Tr)}:∀{l:List Nat} {ks:List (Int × Int)},vq kt fb ts l=.ok ks->ks.length=l.length/\∀(j i:Nat),l[j]?=some i->∃T k,fb (some (Tr.int i)::ts)=.ok T/\kt T=some k/\ks[j]?=some k
 | [],ks,h=>by cases h; exact⟨rfl,λj i z=>by simp at z⟩
 |a::l,ks,h=>by
  unfold vq at h
  obtain⟨T,e1,h⟩:=iQ h
  split at h
  ·rename_i k e2
   obtain⟨ks',e3,h⟩:=iQ h
   cases h
   obtain⟨h1,h2⟩:=S7 e3
   refine⟨by simp[h1],λj i z=>?_⟩
   cases j with
   |zero=>simp at z; subst z; exact⟨T,k,e1,e2,by simp⟩
   |succ j=>simpa using h2 j i (by simpa using z)
  ·cases h
noncomputable def Dp(kt:Tr->Option (Int × Int))(src:List (Option Nat))(fa:AF)(fb:RF):EF:=λρ=>(fa ρ).bind λp=>match p.1 with
 | [.v (.int n) _]=>if 0<=n/\n<64 then(dO (vq kt fb (zA src p.2) (List.range n.toNat))).bind λks=>.ok (.v (.lst ((zy n.toNat λi=>ks.getD i (0,0)).map λi:Nat=>Tr.int i)) true,p.2)else .bad
 |_=>.bad
theorem S8{K:FZ}{H:Hp}:∀l:List Nat,aF K H (l.map λi:Nat=>V.int i) (l.map λi:Nat=>Tr.int i)
 | []=>.nil
 |n::l=>.cons (.int n) (S8 l)
theorem ac8{t:Tx}{W:Addr->Prop}{ρ : En}{σ : St}{H:Hp}{j:Nat}{U:Tr}(e:aH t W ρ σ H)(h:xg ρ j=some U):∃v,σ[j]?=some (some v)/\Rp t.K W H v U:=by
 unfold xg at h
 split at h
 ·rename_i T q
  cases h
  obtain⟨v,h1,h2⟩:=e.sh j _ q
  exact⟨v,h1,.inl h2⟩
 ·rename_i ts q
  cases h
  obtain⟨a,xs,h1,_,_,h4,h5⟩:=e.ow j _ q
  exact⟨_,h1,.inr ⟨a,xs,ts,rfl,rfl,h4,h5⟩⟩
 ·rename_i ts q
  cases h
  obtain⟨a,xs,h1,_,_,h4,h5⟩:=e.rf j _ q
  exact⟨_,h1,.inr ⟨a,xs,ts,rfl,rfl,h4,h5⟩⟩
 ·cases h
theorem Dn.smt{K:FZ}{P c:Addr}{x:Str}{H H':Hp}(tb:fG K H)(hx:x∈iJ)(ht:tabIn K x=some (c,P))(hu:∀x'∈iJ,∀c',tabIn K x'=some (c',P)->x'=x)(l:Dn P (Cj x) H H'):j5 K H H':=by
 refine⟨λb o q n=>l.kp b o q λz=>n ?_,λx' hx' c' b e=>?_⟩
 ·subst z
  exact⟨x,hx,c,ht⟩
 ·by_cases z:b=P
  ·subst z
   have:=hu x' hx' c' e
   subst this
   exact l.tb
  ·obtain⟨ps,q,t1,t2⟩:=tb x' hx' c' b e
   refine⟨ps,l.kp _ _ q z,t1,λpos v k=>?_⟩
   obtain⟨d,o,e1,e2,e3⟩:=t2 pos v k
   refine⟨d,o,e1,l.kp _ _ e2 ?_,e3⟩
   rintro rfl
   obtain⟨qs,y,_⟩:=tb x hx c d ht
   rw[y]at e2
   cases e2
theorem ac9{t:Tx}{Kw:KW}{kt:Tr->Option (Int × Int)}{c P:Addr}{x:Str}{src:List (Option Nat)}{ta:TA}{fa:AF}{te:TE}{fb:RF}(hx:x∈iJ)(ht:tabIn t.K x=some (c,P))(hu:∀x'∈iJ,∀c',tabIn t.K x'=some (c',P)->x'=x)
  (hkt:∀(W:Addr->Prop) (H:Hp) v T k,Rp t.K W H v T->kt T=some k->Kw H v k) (ha:SA t ta fa) (hb:QS t.K te fb):SE t (JH Kw P (Cj x) src ta te) (Dp kt src fa fb):=λW ρ σ H Q e h=>by
 refine ha W ρ σ H _ e (Rs.aY (Rs.aR h) λp h vs H1 e1 s1 v1=>?_)
 obtain⟨rs,ρ1⟩:=p
 dsimp only at h e1 v1
 split at h
 case h_2=>exact h.elim
 rename_i n fr
 split at h
 case isFalse=>exact h.elim
 rename_i hn
 have ev:vs=[.int n]:=by
  cases v1 with
  |cons h1 r1 =>
   cases r1
   cases fr with
   |false =>
    have h1:Rep _ _ _ (Tr.int n):=h1
    cases h1
    rfl
   |true =>
    obtain⟨_,_,_,_,z,_⟩:=h1
    cases z
 obtain⟨ks,k1,h⟩:=eE (Rs.aR h) (abS _)
 have un:∀{α : Type} {x:Rs α} {a : α},dO x=.ok a->x=.ok a:=λ{α x a} z=>by cases x <;> first|exact z|cases z
 obtain⟨kl,kg⟩:=S7 (un k1)
 have nn:((n.toNat:Nat):Int)=n:=by omega
 refine⟨n.toNat,λi=>ks.getD i (0,0),by rw[ev,nn],by omega,e1.tab.ok x hx c P ht,λH2 lh=>?_⟩
 obtain⟨e2,s2⟩:=e1.Jg (lh.smt e1.tab.ok hx ht hu)
 refine⟨λi hi H3 s3=>?_,λD ys H3 s3 nD hs=>?_⟩
 ·obtain⟨T,k,f1,f2,f3⟩:=kg i i (List.getElem?_range hi)
  have e3:=e2.grow s3
  refine hb W _ H3 _ _ T e3.wl (λj U z=>?_) f1 λv H4 s4 r4=>⟨hkt W H4 v T _ r4 ?_,s4⟩
  ·cases j with
   |zero=>simp at z; subst z; exact⟨.int i,by simp,.inl (.int i)⟩
   |succ j =>
    have z:(zA src ρ1)[j]?=some (some U):=z
    unfold zA at z
    rw[List.getElem?_map]at z
    cases eq:src[j]? with
    |none=>rw[eq]at z; cases z
    |some o =>
     rw[eq]at z
     have z:o.bind (xg ρ1)=some U:=Option.some.inj z
     cases o with
     |none=>cases z
     |some l =>
      obtain⟨v,h1,h2⟩:=ac8 e3 (show xg ρ1 l=some U from z)
      refine⟨v,?_,h2⟩
      show(fY src σ)[j]?=some (some v)
      rw[Jk eq,h1]
      rfl
  ·rw[f2]
   show some k=some (ks.getD i (0,0))
   rw[List.getD_eq_getElem?_getD,f3]
   rfl
 ·have e3:=e2.grow s3
  have hs':=hs.eq
  have st:bL W H1 H3:=s2.trans (bL.of s3)
  refine h (.ref D) _ (e3.grow (dW nD _)) ((s1.trans st).trans (bL.of (dW nD _))) (gJ.back (H:=H3) (gJ.of (σ' := σ) e3 (dW nD _) (dJ.new nD ?_)) λb q=>(s1.trans st).dom b q)
  rw[hs']
  exact S8 _
theorem ada(K:FZ)(W:Addr->Prop)(H:Hp)(v:V)(T:Tr)(k:Int × Int)(r:Rp K W H v T)(e:zB T=some k):zx H v k:=by
 unfold zB at e
 split at e
 ·cases e
  exact⟨r.int,rfl⟩
 ·cases e
def vA(K:FZ)(mg:Str->Option Value)(x:Str)(st:Stmt)(c:Addr):Prop:=∃f fd,uq K x x st f fd/\mg x=some (.ref f)/\fd.code=.ref c
section
variable {P:Program}{w:World}{K:FZ}{mg:Str->Option Value}{base:Heap}
theorem vA.adb{c:Addr}{k:Nat}{x:Str}{st:Stmt}{N ps:List Str}{sp:Sp}(a:vA K mg x st c)(S:rG N ps (bx st))
  (hb:∀(kV doc pm:Value) (an:Option Addr) (cdv ct:Value) (us:List Value),us.length=ps.length->bindArgs (fnOf x x (oN st) (jE st) (bx st) .none kV doc pm an cdv ct) ⟨us,[]⟩=pure (ps.zip us))
  (len:∀vs H Q E,sp vs H Q E->vs.length=ps.length)
  (hbody:∀(f:Addr) (A:Around) (outer:List Env) (s:Shared) (H:Hp) (vs:List V) (Q:VK) (E:XK),fL k (A.deeper (envOfC x (bx st) s.heap.objs.size f (.ref c)))->sp vs H Q E ->
   ∃t,jj (jU (jr P w) P w K mg base N x (bx st) f (.ref c) A outer s H E) (jE st) t/\t {nx:=λ_ H'=>Q .non H',rt:=Q } (start N vs) H):aM P w K mg base (k+1) x ps sp:=by
 obtain⟨f,fd,F,m,hc⟩:=a
 refine⟨f,fd,?_,F.binds hb,F.kp,m⟩
 obtain⟨oc,od,kV,doc,pm,an,cdv,ct,osl,rfl,lk,hcd⟩:=F.ex
 have hc:cdv=.ref c:=hc
 subst hc
 exact PJ lk hcd S len λA outer s H vs Q E hr h=>hbody f A outer s H vs Q E hr h
theorem vA.ade{c:Addr}{k:Nat}{x:Str}{st:Stmt}{N ps:List Str}{cl:Str->Addr}{b:SF}(a:vA K mg x st c)(S:rG N ps (bx st))(hn:ps.length<=N.length)
  (hb:∀(kV doc pm:Value) (an:Option Addr) (cdv ct:Value) (us:List Value),us.length=ps.length->bindArgs (PySem.W.fnOf x x (oN st) (jE st) (bx st) .none kV doc pm an cdv ct) ⟨us,[]⟩=pure (ps.zip us))
  (hbody:∀(f:Addr) (A:Around) (outer:List Env) (s:Shared) (H:Hp) (E:XK),fL k (A.deeper (envOfC x (bx st) s.heap.objs.size f (.ref c))) ->
   ∃ts,jj (jU (jr P w) P w K mg base N x (bx st) f (.ref c) A outer s H E) (jE st) ts/\∀t:Tx,t.K=aD K->(∀c H',F0 t H'->t.EX c->E (.ref (cl c)) none H')->SS t ts b) :
  aM P w K mg base (k+1) x ps (aQ K cl ps.length (bC N.length b)):=by
 refine a.adb S hb (λvs H Q E h=>?_) (λf A outer s H vs Q E hr h=>?_)
 ·obtain⟨_,_,h,_⟩:=h; exact h
 obtain⟨Z,as,hl,r,zl,tb,h⟩:=h
 obtain⟨ts,h1,h2⟩:=hbody f A outer s H E hr
 refine⟨ts,h1,?_⟩
 have sm:∀(b:Addr) (W:Addr->Prop) ρ σ H',aH ⟨aD K,Z,Tb (aD K),H,λ_=>none,λc=>∀H',j5 (aD K) H H'->E (.ref (cl c)) none H'⟩ W ρ σ H'->j5 (aD K) H H':=λ_ W ρ σ H' e=>⟨λb o q n=>e.f0 b o q n,e.tab.ok⟩
 have r:=r.oX (RG tb)
 refine h2 ⟨aD K,Z,Tb (aD K),H,λ_=>none,λc=>∀H',j5 (aD K) H H'->E (.ref (cl c)) none H'⟩ rfl (λc H' f0 q=>q H' ⟨λb o z n=>f0.1 b o z n,f0.2⟩) (λb=>Z b\/Tb (aD K) b) (cu N.length as) (start N vs) H _ ?_ (Rs.aY (Rs.aR h) λq h=>?_)
 ·have la:=r.length
  have qm:∀(i:Nat) (us:List Tr),(cu N.length as)[i]?=some (.dp us)->False:=λi us q=>by
   rcases oY q with⟨u',q1,z⟩|z <;> cases z
  refine⟨λ_=>[],?_,λ_ z=>.inl z,λb z=>?_,λb z=>z.elim (zl b) (λz=>.inr (.inl (tb.cY z))),λb o q _=>q,λb q=>q,λi u q=>?_,λi us q=>?_,λi us q=>?_,λi j c m1 m2=>?_,λb o z=>(by cases z),λ_ _ _ _=>rfl,λi us q=>(qm i us q).elim,λi _ us _ _ q=>(qm i us q).elim,λi _ us _ q=>(qm i us q).elim,λi us q=>(qm i us q).elim,⟨tb,λ_ z=>.inr z,λ_ z=>z,λ_ _=>rfl⟩⟩
  ·unfold cu start
   simp only[List.length_append,List.length_map,List.length_replicate]
   omega
  ·exact(zl b z).ne
  ·rcases oY q with⟨u',q1,z⟩|z
   ·cases z
    obtain⟨v,e1,e2⟩:=r.rR q1
    exact⟨v,RJ e1,e2⟩
   ·cases z
  ·rcases oY q with⟨u',q1,z⟩|z <;> cases z
  ·rcases oY q with⟨u',q1,z⟩|z <;> cases z
  ·obtain⟨us,q|q⟩:=m1 <;> rcases oY q with⟨u',q1,z⟩|z <;> cases z
 ·obtain⟨fl,ρ'⟩:=q
  cases fl with
  |nx=>exact λW' σ' H' e n=>h .non H' (sm 0 W' ρ' σ' H' e) .non
  |rt T fr =>
   refine λv W' σ' H' e n=>h v H' (sm 0 W' ρ' σ' H' e) ?_
   cases fr <;> exact n
  |bk=>exact h.elim
  |ct=>exact h.elim
end
noncomputable def zE(K:FZ)(x:Str):Option (Addr × Addr):=match K.lookup mainGlobals with
 |some o=>if o.cls == .type "list" then none else(match nsIn K mainGlobals x with
  | some (some (.ref f))=>(match K.lookup f with
   |some o=>if o.cls == .type "list" then none else(match o.data with
    | .func fd=>(match fd.code with
     | .ref c=>(match K.lookup c with
      |some o=>if o.cls == .type "list" then none else tabIn K x
      |_=>none)
     |_=>none)
    |_=>none)
   |_=>none)
  |_=>none)
 |_=>none
theorem JL{o:Obj}(h:(o.cls == .type "list")=false):fB o=o:=by
 unfold fB
 rw[if_neg]
 rintro⟨z,_⟩
 rw[z]at h
 exact absurd h (by decide +kernel)
theorem adf{K:FZ}{x:Str}{o:Obj}(h:K.lookup mainGlobals=some o)(n:(o.cls == .type "list")=false):nsIn (aD K) mainGlobals x=nsIn K mainGlobals x:=by
 have e:(aD K).lookup mainGlobals=K.lookup mainGlobals:=by
  rw[lV,h]
  show some (fB o)=some o
  rw[JL n]
 unfold nsIn
 rw[e]
theorem S9{K:FZ}{x:Str}{z:Addr × Addr}(h:zE K x=some z):tabIn K x=some z/\tabIn (aD K) x=some z:=by
 unfold zE at h
 split at h
 ·rename_i o1 h1
  split at h
  ·cases h
  ·rename_i n1
   split at h
   ·rename_i f hf
    split at h
    ·rename_i o2 h2
     split at h
     ·cases h
     ·rename_i n2
      split at h
      ·rename_i fd hd
       split at h
       ·rename_i c hc
        split at h
        ·rename_i o3 h3
         split at h
         ·cases h
         ·rename_i n3
          refine⟨h,?_⟩
          rw[<-h]
          unfold tabIn
          rw[adf h1 (by simpa using n1),hf]
          dsimp only
          rw[lV,h2]
          dsimp only[Option.map]
          rw[JL (by simpa using n2)]
          obtain⟨a1,a2,a3,a4⟩:=o2
          dsimp only at hd
          subst hd
          dsimp only
          rw[hc]
          dsimp only
          rw[lV,h3]
          dsimp only[Option.map]
          rw[JL (by simpa using n3)]
        ·cases h
       ·cases h
      ·cases h
    ·cases h
   ·cases h
 ·cases h
theorem JM{o:Obj}{d:Data}(h:(fB o).data=d)(n:d ≠ .fields #[]):fB o=o:=by
 unfold fB at h ⊢
 split at h
 ·exact(n h.symm).elim
 ·rename_i q
  rw[if_neg q]
theorem Tc{K:FZ}{x:Str}{z:Addr × Addr}(h:tabIn (aD K) x=some z):tabIn K x=some z:=by
 unfold tabIn at h
 split at h
 ·rename_i f hf
  have g1:nsIn K mainGlobals x=some (some (.ref f)):=by
   unfold nsIn at hf
   rw[lV]at hf
   cases e:K.lookup mainGlobals with
   |none=>rw[e]at hf; cases hf
   |some o =>
    rw[e]at hf
    unfold nsIn
    rw[e]
    have q:fB o=o:=by
     dsimp only[Option.map]at hf
     split at hf
     ·rename_i a b es ep c eq
      have eq:fB o=⟨a,b,.dict es ep,c⟩:=Option.some.inj eq
      exact JM (d:=.dict es ep) (by rw[eq]) (by intro z; cases z)
     ·cases hf
    dsimp only[Option.map]at hf
    rw[q]at hf
    exact hf
  split at h
  ·rename_i a b fd osl hfo
   have g2:K.lookup f=some ⟨a,b,.func fd,osl⟩:=by
    rw[lV]at hfo
    cases e:K.lookup f with
    |none=>rw[e]at hfo; cases hfo
    |some o =>
     rw[e]at hfo
     have eq:fB o=⟨a,b,.func fd,osl⟩:=Option.some.inj hfo
     rw[JM (d:=.func fd) (by rw[eq]) (by intro z; cases z)]at eq
     rw[eq]
   split at h
   ·rename_i c hc
    split at h
    ·rename_i a' b' vs Td hco
     split at h
     ·rename_i Pp hv
      cases h
      have g3:K.lookup c=some ⟨a',b',.fields vs,Td⟩:=by
       rw[lV]at hco
       cases e:K.lookup c with
       |none=>rw[e]at hco; cases hco
       |some o =>
        rw[e]at hco
        have eq:fB o=⟨a',b',.fields vs,Td⟩:=Option.some.inj hco
        rw[JM (d:=.fields vs) (by rw[eq]) (by intro z; injection z with z; subst z; simp at hv)]at eq
        rw[eq]
      unfold tabIn
      rw[g1]
      dsimp only
      rw[g2]
      dsimp only
      rw[hc]
      dsimp only
      rw[g3]
      dsimp only
      rw[hv]
     ·cases h
    ·cases h
   ·cases h
  ·cases h
 ·cases h
structure Dq(K:FZ)(mg:Str->Option Value)(base:Heap)(x:Str)(c P:Addr):Prop where
 nm:x∈iJ
 hd:CodeHd base c P
 bm:qF mg base
 tab:tabIn (aD K) x=some (c,P)
 un:∀x'∈iJ,∀c',tabIn (aD K) x'=some (c',P)->x'=x
theorem adg{t:Tx}{K:FZ}{mg:Str->Option Value}{base:Heap}{x:Str}{c P:Addr}{src:List (Option Nat)}{ta:TA}{fa:AF}{te:TE}{fb:RF}(L:Dq K mg base x c P)(hK:t.K=aD K)(ha:SA t ta fa)(hb:QS (aD K) te fb):SE t (JH zx P (Cj x) src ta te) (Dp zB src fa fb) :=
 ac9 (c:=c) L.nm (by rw[hK]; exact L.tab) (by rw[hK]; exact L.un) (ada _) ha (by rw[hK]; exact hb)
theorem adh{K:FZ}{x:Str}{f c P:Addr}{o1:Obj}{oc:Value}{od:Option Addr}{fd:FuncData}{sl:Array (Option Value)}{cc:Value}{cd:Option Addr}{vs:Array Value}{cs:Array (Option Value)}(a:nsIn K mainGlobals x=some (some (.ref f)))(l1:K.lookup mainGlobals=some o1)(n1:(o1.cls == .type "list")=false)
  (l2:K.lookup f=some ⟨oc,od,.func fd,sl⟩) (n2:(oc == .type "list")=false) (hc:fd.code=.ref c) (l3:K.lookup c=some ⟨cc,cd,.fields vs,cs⟩) (n3:(cc == .type "list")=false) (hv:vs[11]?=some (.ref P)):zE K x=some (c,P):=by
 unfold zE
 rw[l1]
 dsimp only
 rw[if_neg (by rw[n1]; exact Bool.false_ne_true),a]
 dsimp only
 rw[l2]
 dsimp only
 rw[if_neg (by rw[n2]; exact Bool.false_ne_true),hc]
 dsimp only
 rw[l3]
 dsimp only
 rw[if_neg (by rw[n3]; exact Bool.false_ne_true)]
 unfold tabIn
 rw[a]
 dsimp only
 rw[l2]
 dsimp only
 rw[hc]
 dsimp only
 rw[l3]
 dsimp only
 rw[hv]
theorem Te{K:FZ}{x:Str}(a:nsIn K mainGlobals x=some none):tabIn K x=none:=by
 unfold tabIn
 rw[a]
theorem adi{K:FZ}{mg:Str->Option Value}{base:Heap}{x:Str}{c P:Addr}(nm:x∈iJ)(hc:∀x∈iJ,∀c b,tabIn K x=some (c,b)->CodeHd base c b)(bm:qF mg base)(q:zE K x=some (c,P))(ho:∀x'∈iJ,x'=x\/∀c',tabIn K x'≠some (c',P)):Dq K mg base x c P :=
 ⟨nm,hc x nm c P (S9 q).1,bm,(S9 q).2,λx' hx' c' e=>(ho x' hx').elim id λz=>(z c' (Tc e)).elim⟩
def insI(i:Int):List Int->List Int
 | []=>[i]
 |j::r=>if i<=j then i::j::r else j::insI i r
def pD(l:List Int):List Int:=l.foldr insI []
theorem insI_perm(i:Int):∀l,(insI i l).Perm (i::l)
 | []=>.refl _
 |j::r=>by
  unfold insI
  split
  ·exact .refl _
  ·exact((insI_perm i r).cons j).trans (.swap i j r)
theorem Tf(i:Int):∀l,l.Pairwise (· <= ·)->(insI i l).Pairwise (· <= ·)
 | [],_=>by simp[insI]
 |j::r,hp=>by
  have hp':=List.pairwise_cons.mp hp
  unfold insI
  split
  ·rename_i b
   refine List.pairwise_cons.mpr ⟨λk hk=>?_,hp⟩
   rcases List.mem_cons.mp hk with rfl|hk
   ·exact b
   ·have:=hp'.1 k hk; omega
  ·rename_i b
   refine List.pairwise_cons.mpr ⟨λk hk=>?_,Tf i r hp'.2⟩
   rcases List.mem_cons.mp ((insI_perm i r).mem_iff.mp hk)with rfl|hk
   ·omega
   ·exact hp'.1 k hk
theorem tu:∀l:List Int,(pD l).Perm l/\(pD l).Pairwise (· <= ·)
 | []=>⟨.refl _,.nil⟩
 |i::r=>by
  obtain⟨h1,h2⟩:=tu r
  exact⟨(insI_perm i _).trans (h1.cons i),Tf i _ h2⟩
theorem Ti:∀{l m:List Int},l.Perm m->l.Pairwise (· <= ·)->m.Pairwise (· <= ·)->l=m
 | [],m,p,_,_=>by rw[List.nil_perm.mp p]
 |a::l,[],p,_,_=>by simpa using p.length_eq
 |a::l,b::m,p,h1,h2=>by
  have h1':=List.pairwise_cons.mp h1
  have h2':=List.pairwise_cons.mp h2
  have e:a=b:=by
   rcases List.mem_cons.mp (p.mem_iff.mp (List.mem_cons_self ..))with z|z
   ·exact z
   ·rcases List.mem_cons.mp (p.mem_iff.mpr (List.mem_cons_self (a:=b)))with y|y
    ·exact y.symm
    ·have a1:=h1'.1 b y
     have a2:=h2'.1 a z
     omega
  subst e
  rw[Ti p.cons_inv h1'.2 h2'.2]
theorem Tj{l m:List Int}(p:m.Perm l)(h:m.Pairwise (· <= ·)):m=pD l:=Ti (p.trans (tu l).1.symm) h (tu l).2
theorem Tn:∀{ns:List Int} {vs:List Value},Vals (ns.map V.int) vs->IntsAre vs ns
 | [],_,h=>by cases h; exact .nil
 |n::ns,_,h=>by
  cases h with
  |cons h1 h2 =>
   obtain⟨t,rfl⟩:=h1
   exact .cons n t (Tn h2)
section
variable {X:Cx}
def JN(K:FZ):List V->Hp->VK->Prop:=λxs H Q=>∃p ns,xs=[.ref p]/\bZ K H p (ns.map V.int)/\ns.length<64/\∀l,H l=none->Q (.ref l) (upd H l (.lst ((pD ns).map V.int)))
theorem Tp:iH X (.builtin "sorted") (JN X.K):=by
 intro pins s σ H xs us Q I r h
 obtain⟨p,ns,rfl,hq,h64,q⟩:=h
 obtain⟨u,rfl,rx⟩:=vals1 r
 cases rx
 obtain⟨its,r',pl,hz⟩:=I.list hq
 have hl:=r'.length
 rw[List.length_map]at hl
 refine sorted_ints pl.isList (Tn r') (by omega) λout ns' a1 a2 a3=>?_
 obtain⟨e,he⟩:=sortedAll_at s.heap its out
 have e2:=Tj a2 a3
 subst e2
 have len:=a2.length_eq
 refine⟨.ref (s.heap.objs.size+1),_,I.laid (t':=s.toks) (λb o z=>sortedAll_old z) (Nat.le_succ _) (show jA X.prog X.w _ _ _ (.lst ((pD ns).map V.int))from⟨by rw[List.length_map,sizeLine_eq]; omega,out.toList,e,Hy a1,by rw[Array.toArray_toList]; exact he⟩),rfl,q _ (I.hok.fresh (Nat.le_succ _))⟩
end
def tB:List Tr->Option (List Int)
 | []=>some []
 |.int i::r=>(tB r).map (i :: ·)
 |_::_=>none
theorem Tq:∀{ts:List Tr} {ns:List Int},tB ts=some ns->ts=ns.map Tr.int
 | [],_,h=>by cases h; rfl
 |.int i::r,ns,h=>by
  unfold tB at h
  cases e:tB r with
  |none=>rw[e]at h; cases h
  |some m=>rw[e]at h; cases h; rw[Tq e]; rfl
 |.non::_,_,h=>by cases h
 |.bl _::_,_,h=>by cases h
 |.str _::_,_,h=>by cases h
 |.tup _::_,_,h=>by cases h
 |.lst _::_,_,h=>by cases h
theorem Tt{K:FZ}{H:Hp}:∀{ns:List Int} {vs:List V},aF K H vs (ns.map Tr.int)->vs=ns.map V.int
 | [],_,h=>by cases h; rfl
 |n::ns,_,h=>by
  cases h with
  |cons h1 h2 =>
   cases h1
   rw[Tt h2]
   rfl
theorem Tv{K:FZ}{H:Hp}:∀ns:List Int,aF K H (ns.map V.int) (ns.map Tr.int)
 | []=>.nil
 |n::ns=>.cons (.int n) (Tv ns)
def mG:G1
 |.lst ts=>match tB ts with
  |some ns=>if ns.length<64 then .ok (.lst ((pD ns).map Tr.int),true)else .bad
  |none=>.bad
 |_=>.bad
theorem adk(a:Tr)(c:Str):mG a ≠ .ex c:=by
 unfold mG
 split
 ·split
  ·split <;> (intro z; cases z)
  ·intro z; cases z
 ·intro z; cases z
theorem adl{K:FZ}:rY (aD K) (λx=>JN K [x]) mG:=λW x a H Q hw rx h=>by
 unfold mG at h
 split at h
 ·rename_i ts
  split at h
  ·rename_i ns e
   split at h
   ·rename_i hl
    rw[Tq e]at rx
    obtain⟨p,xs,rfl,q,r⟩:=rx.lst
    have e2:=Tt r
    subst e2
    refine⟨p,ns,rfl,q.toK,hl,λl nl=>h _ _ (dW nl _) (dJ.new nl (Tv _))⟩
   ·exact h.elim
  ·exact h.elim
 ·exact h.elim
theorem Tw{t:Tx}{K:FZ}{tl:TA}{fl:AF}(hK:t.K=aD K)(ha:SA t tl fl):SE t (jm (JN K) tl) (bK (g1 mG) fl):=Cv (by rw[hK]; exact Cy adl) (Cw adk) ha
def eLR(fa:AF):EF:=λρ=>(fa ρ).bind λp=>match p.1 with
 | [.v (.int n) _]=>if 0<=n/\n<=1000 then .ok (.v (.lst ((List.range n.toNat).map λi:Nat=>Tr.int i)) true,p.2)else .bad
 |_=>.bad
end L2
end
section
namespace L2
open PySem PySem.Spec PyProof.Rows
section
variable {t:Tx}{K:FZ}
def adn(F:FR)(fa:EF):EF:=λρ=>(fa ρ).bind λp=>match p.1 with
 |.v (.lst us) true=>(F [.lst us]).bind λz=>.ok (.v z.1.1 z.1.2,p.2)
 |_=>.bad
end
open PySem.W
def Dr:List Str := "HeadError" :: m8
def isub(c d:Str):Bool:=c == d || d == ("HeadError" : Str)
def Tz:List Ty:=[.int,.bool,.str,.tuple,.list]
def Ds(K:Frag)(cs:List Str)(p:Str->Addr->Bool):Bool:=cs.all λc=>match nsIn K mainGlobals c with
 |some (some (.ref C))=>p c C
 |_=>true
theorem JQ{K:Frag}{cs:List Str}{p:Str->Addr->Bool}(h:Ds K cs p=true){c:Str}(m:c∈cs){C:Addr}(n:nsIn K mainGlobals c=some (some (.ref C))):p c C=true:=by
 have:=List.all_eq_true.mp h c m
 rw[n]at this
 exact this
noncomputable def JR(K:Frag)(C:Addr):Bool:=findIn K (.ref C) "__getattribute__" == some (some (.builtin "BaseException.__getattribute__"))&&findIn K (.ref C) "__getattr__" == some none&&findIn K (.ref C) "__class__" == some (some (.builtin "object.__class__"))&&mroIn K C (.type "object") == some true&&mroIn K C (.type "BaseException") == some true&&(clsIn K C).isSome
theorem ado{K:Frag}{C:Addr}(h:JR K C=true):oO K C:=by
 unfold JR at h
 simp only[Bool.and_eq_true]at h
 obtain⟨⟨⟨⟨⟨h1,h2⟩,h3⟩,h4⟩,h5⟩,h6⟩:=h
 exact⟨beq_iff_eq.mp h1,beq_iff_eq.mp h2,beq_iff_eq.mp h3,beq_iff_eq.mp h4,beq_iff_eq.mp h5,h6⟩
noncomputable def TF(K:Frag):Bool :=
 Ds K m8 (λ_ C=>JR K C&&Tz.all (λy=>kitOne K (.ref C) (.type y.name) == some false)&&kitOne K (.ref C) (.type "ValueError") == some true) &&
 Ds K Dr (λd D=>kitOne K (.type "NoneType") (.ref D) == some false&&Ds K m8 (λc C=>kitOne K (.ref C) (.ref D) == some (isub c d)&&(!(d == ("HeadError" : Str)) || exmOne K (.ref C) (.ref D) == some true))) &&
 kitOne K (.type "NoneType") (.type "ValueError") == some false&&(match K.lookup mainGlobals with
  |some o=>o.cls != .type "list"
  |none=>true)
structure pF(K:Frag):Prop where
 o:Ca K
 n:∀d∈Dr,∀D,nsIn K mainGlobals d=some (some (.ref D))->kitOne K (.type "NoneType") (.ref D)=some false
 k:∀d∈Dr,∀D,nsIn K mainGlobals d=some (some (.ref D))->∀c∈m8,∀C,nsIn K mainGlobals c=some (some (.ref C))->kitOne K (.ref C) (.ref D)=some (isub c d)
 v:∀c∈m8,∀C,nsIn K mainGlobals c=some (some (.ref C))->kitOne K (.ref C) (.type "ValueError")=some true
 vn:kitOne K (.type "NoneType") (.type "ValueError")=some false
 h:∀D,nsIn K mainGlobals "HeadError" = some (some (.ref D))->∀c∈m8,∀C,nsIn K mainGlobals c=some (some (.ref C))->exmOne K (.ref C) (.ref D)=some true
 x:∀c∈m8,∀C,nsIn K mainGlobals c=some (some (.ref C))->oO K C
 mc:∀o,K.lookup mainGlobals=some o->o.cls ≠ .type "list"
theorem pF.of{K:Frag}(h:TF K=true):pF K:=by
 unfold TF at h
 simp only[Bool.and_eq_true]at h
 obtain⟨⟨⟨h1,h2⟩,h3⟩,h4⟩:=h
 have a1:∀c∈m8,∀C,nsIn K mainGlobals c=some (some (.ref C))->oO K C/\(∀y:Ty,kitOne K (.ref C) (.type y.name)=some false)/\kitOne K (.ref C) (.type "ValueError")=some true:=λc m C n=>by
  have:=JQ h1 m n
  simp only[Bool.and_eq_true]at this
  obtain⟨⟨x1,x2⟩,x3⟩:=this
  refine⟨ado x1,λy=>?_,beq_iff_eq.mp x3⟩
  have:=List.all_eq_true.mp x2 y (by cases y <;> simp[Tz])
  exact beq_iff_eq.mp this
 have a2:∀d∈Dr,∀D,nsIn K mainGlobals d=some (some (.ref D))→kitOne K (.type "NoneType") (.ref D)=some false∧∀c∈m8,∀C,nsIn K mainGlobals c=some (some (.ref C))→kitOne K (.ref C) (.ref D)=some (isub c d)∧(d = "HeadError" → exmOne K (.ref C) (.ref D)=some true):=λd m D n=>by
  have:=JQ h2 m n
  rw[Bool.and_eq_true]at this
  refine⟨beq_iff_eq.mp this.1,λc mc C nc=>?_⟩
  have:=JQ this.2 mc nc
  rw[Bool.and_eq_true]at this
  refine⟨beq_iff_eq.mp this.1,λe=>?_⟩
  have z:=this.2
  rw[Bool.or_eq_true]at z
  rcases z with z|z
  ·rw[e]at z; cases z
  ·exact beq_iff_eq.mp z
 refine⟨λc m C n=>⟨λa=>aaE (a1 c m C n).1,(a1 c m C n).2.1⟩,λd m D n=>(a2 d m D n).1,λd m D n c mc C nc=>((a2 d m D n).2 c mc C nc).1,λc m C n=>(a1 c m C n).2.2,beq_iff_eq.mp h3,λD n c mc C nc=>((a2 "HeadError" (List.mem_cons_self ..) D n).2 c mc C nc).2 rfl,λc m C n=>(a1 c m C n).1,λo e=>?_⟩
 rw[e]at h4
 simpa using h4
def TJ:Tr->Str->Option Bool
 |.cO c,d=>some (isub c d)
 |.non,_=>some false
 |_,_=>none
def TQ:Tr->Option Bool
 |.cO _=>some true
 |.non=>some false
 |_=>none
section
variable {t:Tx}{K:Frag}
def adp(d:Str)(fa:EF):EF:=λρ=>(fa ρ).bind λp=>(dr p.2 p.1).bind λa=>match TJ a d with
 |some b=>.ok (eB b,p.2)
 |none=>.bad
def adq(fa:EF):EF:=λρ=>(fa ρ).bind λp=>(dr p.2 p.1).bind λa=>match TQ a with
 |some b=>.ok (eB b,p.2)
 |none=>.bad
def Pr{α : Type}(f:En->Rs (α × En)):Prop:=∀ρ,(∀p,f ρ=.ok p->p.2 = ρ)/\∀c,f ρ ≠ .ex c
end
end L2
end
section
namespace BH
open PySem L2
abbrev TV:SF:=(aJ (fO (oW (qx 1) (cg (aq fC (aj 1) (eC (.int 0)))) (wV 0 1 (ak (aj 1) (ak (aq dh (aj 0) (aj 1)) au))))) (bB (bK (g1 lY) (ak (aj 0) au))))
def qI:FP:=bC 2 TV
noncomputable abbrev JT:SF:=(aJ (cA (cg (aq dX (aj 1) (eC (.int 0)))) (uQ "NoBottom" (eC (.str "a fraction has no bottom of 0"))) cB) (aJ (aV (aG qI (ak (aj 0) (ak (aj 1) au))) (gN 2)) (aJ (cA (cg (aq gU (aj 1) (eC (.int 0)))) (aV (wM nu (aj 2)) (gN 2)) cB) (bB (gk (ak (aq eO (aj 0) (aj 2)) (ak (aq eO (aj 1) (aj 2)) au)))))))
def lE:FP:=bC 3 JT
noncomputable abbrev JV:SF:=(bB (aG lE (ak (aq bW (aq bR (aq aC (aj 0) (eC (.int 0))) (aq aC (aj 1) (eC (.int 1)))) (aq bR (aq aC (aj 1) (eC (.int 0))) (aq aC (aj 0) (eC (.int 1))))) (ak (aq bR (aq aC (aj 0) (eC (.int 1))) (aq aC (aj 1) (eC (.int 1)))) au))))
def pG:FP:=bC 2 JV
noncomputable abbrev JW:SF:=(bB (aG lE (ak (aq iM (aq bR (aq aC (aj 0) (eC (.int 0))) (aq aC (aj 1) (eC (.int 1)))) (aq bR (aq aC (aj 1) (eC (.int 0))) (aq aC (aj 0) (eC (.int 1))))) (ak (aq bR (aq aC (aj 0) (eC (.int 1))) (aq aC (aj 1) (eC (.int 1)))) au))))
def qJ:FP:=bC 2 JW
abbrev JX:SF:=(bB (aG lE (ak (aq bR (aq aC (aj 0) (eC (.int 0))) (aq aC (aj 1) (eC (.int 0)))) (ak (aq bR (aq aC (aj 0) (eC (.int 1))) (aq aC (aj 1) (eC (.int 1)))) au))))
def pH:FP:=bC 2 JX
abbrev JZ:SF:=(bB (aG lE (ak (aq bR (aq aC (aj 0) (eC (.int 0))) (aq aC (aj 1) (eC (.int 1)))) (ak (aq bR (aq aC (aj 0) (eC (.int 1))) (aq aC (aj 1) (eC (.int 0)))) au))))
def xq:FP:=bC 2 JZ
abbrev Dt:SF:=(bB (aq gU (aq bR (aq aC (aj 0) (eC (.int 0))) (aq aC (aj 1) (eC (.int 1)))) (aq bR (aq aC (aj 1) (eC (.int 0))) (aq aC (aj 0) (eC (.int 1))))))
def nG:FP:=bC 2 Dt
abbrev TY:SF:=(bB (oV (lC .int (aj 0)) (IW (lC .bool (aj 0)))))
def qK:FP:=bC 1 TY
noncomputable abbrev J0:SF:=(aJ (cA (lB (fP (cZ (lC .tuple (aj 0)))) (cg (aq fC (bK (g1 bM) (ak (aj 0) au)) (eC (.int 2))))) (bB (eC (.bl false))) cB) (aJ (aV (aj 0) (gT 2 (bA (gN 1) (bA (gN 2) dz)))) (aJ (cA (lB (fP (cZ (aG qK (ak (aj 1) au)))) (fP (cZ (aG qK (ak (aj 2) au))))) (bB (eC (.bl false))) cB) (bB (oV (aq jZ (aj 2) (eC (.int 1))) (aq dX (aG qI (ak (aj 1) (ak (aj 2) au))) (eC (.int 1))))))))
def tD:FP:=bC 3 J0
abbrev J1:SF:=(bB (oV (aG tD (ak (aj 0) au)) (rZ fD fD (eC (.int 0)) (aq aC (aj 0) (eC (.int 0))) (aq aC (aj 0) (eC (.int 1))))))
def qL:FP:=bC 1 J1
abbrev J2:SF:=(aJ (cA (lB (fP (cZ (lC .list (aj 0)))) (fP (cg (rZ fD fD (eC (.int 1)) (bK (g1 bM) (ak (aj 0) au)) (aj 1))))) (bB (eC (.bl false))) cB) (bB (bK (g1 gG) (ak (dR [none] (cW (aj 0)) (gN 0) c7 (aG qL (ak (aj 0) au))) au))))
def vB:FP:=bC 2 J2
noncomputable abbrev T3:SF:=(aJ (cA (lB (fP (cZ (lC .list (aj 0)))) (fP (cg (rZ fD fD (eC (.int 1)) (bK (g1 bM) (ak (aj 0) au)) (eC (.int 4)))))) (bB (eC (.bl false))) cB) (aJ (cA (fP (cZ (bK (g1 gG) (ak (dR [none] (cW (aj 0)) (gN 0) c7 (aG vB (ak (aj 0) (ak (eC (.int 12)) au)))) au)))) (bB (eC (.bl false))) cB) (bB (bK (g1 gG) (ak (dR [none,some 0] (cW (aj 0)) (gN 0) c7 (aq dX (bK (g1 bM) (ak (aj 0) au)) (bK (g1 bM) (ak (aq aC (aj 1) (eC (.int 0))) au)))) au)))))
def zF:FP:=bC 1 T3
abbrev T4:SF:=(aJ (aV (eC (.int 1)) (gN 1)) (aJ (fO (fQ (cW (aj 0)) (gT 2 (bA (gN 2) (bA (gN 3) dz))) (aV (aq eO (aq bR (aj 1) (aj 3)) (aG qI (ak (aj 1) (ak (aj 3) au)))) (gN 1)))) (bB (aj 1))))
def zG:FP:=bC 4 T4
abbrev T5:SF:=(aJ (aV (aG zG (ak (aj 0) au)) (gN 1)) (bB (dR [none,none,some 1] (cW (aj 0)) (gT 2 (bA (gN 0) (bA (gN 1) dz))) c7 (aq bR (aj 0) (aq eO (aj 2) (aj 1))))))
def Du:FP:=bC 2 T5
abbrev T6:SF:=(aJ (aV (aG Du (ak (aj 0) au)) (gN 1)) (bB (Dp zB [some 1] (ak (bK (g1 bM) (ak (aj 1) au)) au) (w6 nu (wZ aC (qH 1) (qH 0))))))
def lF:FP:=bC 2 T6
abbrev T7:SF:=(cA (fP (cZ (aG zF (ak (aj 0) au)))) (uQ "NoBook" (eC (.str "this is no book"))) cB)
def vC:FP:=bC 1 T7
noncomputable abbrev T8:SF:=(aJ (cA (lB (fP (cZ (lC .list (aj 0)))) (cg (aq fC (bK (g1 bM) (ak (aj 0) au)) (aj 1)))) (bB (eC (.bl false))) cB) (bB (bK (g1 gG) (ak (dR [none] (cW (aj 0)) (gN 0) c7 (oV (aG tD (ak (aj 0) au)) (aq jZ (aq aC (aj 0) (eC (.int 0))) (eC (.int 0))))) au))))
def Dv:FP:=bC 2 T8
noncomputable abbrev T9:SF:=(aJ (cA (fP (cZ (lC .tuple (aj 0)))) (bB (eC (.bl false))) cB) (aJ (cA (cg (aq fC (bK (g1 bM) (ak (aj 0) au)) (eC (.int 2)))) (bB (aq (iK id) (aj 0) (eC (.tup [(.tup [(.str "least")]),(.tup [(.str "greatest")]),(.tup [(.str "product")])])))) cB) (aJ (aV (aj 0) (gT 2 (bA (gN 2) (bA (gN 3) dz)))) (aJ (cA (cg (aq dX (aj 2) (eC (.str "shares")))) (bB (aG Dv (ak (aj 3) (ak (aj 1) au)))) cB) (bB (oV (aq dX (aj 2) (eC (.str "middle"))) (oV (aG qK (ak (aj 3) au)) (rZ fD fD (eC (.int 1)) (aj 3) (aj 1)))))))))
def vD:FP:=bC 4 T9
abbrev Ua:SF:=(aJ (aV (eC (.tup [.int 0,.int 1])) (gN 2)) (aJ (fO (fQ (zp (ak (aj 0) (ak (aj 1) au))) (gT 2 (bA (gN 3) (bA (gN 4) dz))) (aV (aG pG (ak (aj 2) (ak (aG pH (ak (aj 3) (ak (aj 4) au))) au))) (gN 2)))) (bB (aj 2))))
def Dw:FP:=bC 5 Ua
abbrev Ub:SF:=(aJ (aV (eC (.tup [.int 1,.int 1])) (gN 1)) (aJ (fO (fQ (cW (aj 0)) (gN 2) (aV (aG pH (ak (aj 1) (ak (aj 2) au))) (gN 1)))) (bB (aj 1))))
def J3:FP:=bC 3 Ub
abbrev Uc:SF:=(aJ (cA (cg (aq dX (aq aC (aj 0) (eC (.int 0))) (eC (.str "greatest")))) (bB (eC (.int 1))) cB) (aJ (cA (cg (aq dX (aq aC (aj 0) (eC (.int 0))) (eC (.str "least")))) (bB (aj 1)) cB) (bB (aq aC (aj 0) (eC (.int 1))))))
def J4:FP:=bC 2 Uc
noncomputable abbrev Ud:SF:=(aJ (cA (cg (aq dX (aq aC (aj 0) (eC (.int 0))) (eC (.str "shares")))) (bB (aG Dw (ak (aq aC (aj 0) (eC (.int 1))) (ak (aj 1) au)))) cB) (aJ (cA (cg (aq dX (aq aC (aj 0) (eC (.int 0))) (eC (.str "product")))) (bB (aG J3 (ak (aj 1) au))) cB) (bB (aq aC (aj 1) (aq aC (aG lF (ak (aj 1) au)) (aq iM (aG J4 (ak (aj 0) (ak (bK (g1 bM) (ak (aj 1) au)) au))) (eC (.int 1))))))))
def zH:FP:=bC 2 Ud
abbrev adt:SF:=(aJ (je (aG vC (ak (aj 0) au))) (cA (fP (cZ (aG vD (ak (aj 1) (ak (bK (g1 bM) (ak (aj 0) au)) au))))) (uQ "NoRule" (eC (.str "this is no rule for the book's lists"))) cB))
def J5:FP:=bC 2 adt
abbrev Ue:SF:=(bB (dR [none,some 1] (cW (aj 0)) (gN 0) c7 (aq aC (aj 0) (aj 1))))
def zJ:FP:=bC 2 Ue
abbrev Ug:SF:=(bB (dR [none,some 1,some 0] (fH (ak (bK (g1 bM) (ak (aq aC (aj 0) (eC (.int 0))) au)) au)) (gN 0) c7 (aG zH (ak (aj 1) (ak (aG zJ (ak (aj 2) (ak (aj 0) au))) au)))))
def xr:FP:=bC 2 Ug
abbrev J6:SF:=(bB (oV (aG qK (ak (aj 0) au)) (rZ fD fD (eC (.int 0)) (aj 0) (aj 1))))
def zK:FP:=bC 2 J6
abbrev adu:SF:=(cA (fP (cZ (aG zK (ak (aj 1) (ak (bK (g1 bM) (ak (aq aC (aj 0) (eC (.int 0))) au)) au))))) (uQ "NoCount" (eC (.str "this is no count of the book's things"))) cB)
def xu:FP:=bC 2 adu
abbrev Uh:SF:=(aJ (je (aG J5 (ak (aj 0) (ak (aj 1) au)))) (je (aG xu (ak (aj 0) (ak (aj 2) au)))))
def Dy:FP:=bC 3 Uh
noncomputable abbrev Ui:SF:=(aJ (je (aG Dy (ak (aj 0) (ak (aj 1) (ak (aj 2) au))))) (aJ (aV (aG xr (ak (aj 0) (ak (aj 1) au))) (gN 3)) (bB (dR [none,some 3] (cW (uJ (aG lF (ak (aj 3) au)) uG (uH (aj 2)))) (gN 0) c7 (gk (ak (aj 0) (ak (aq aC (aj 1) (aj 0)) au)))))))
def mH:FP:=bC 4 Ui
abbrev Uj:SF:=(bB (bK (g1 mG) (ak (dR [none,none] (cW (aG mH (ak (aj 0) (ak (aj 1) (ak (aj 2) au))))) (gT 2 (bA (gN 0) (bA (gN 1) dz))) c7 (aj 0)) au)))
def xG:FP:=bC 3 Uj
noncomputable abbrev Uk:SF:=(aJ (aV (aG qJ (ak (aq aC (aq aC (aj 0) (eC (.int 0))) (aj 1)) (ak (aq aC (aq aC (aj 0) (eC (.int 0))) (aj 2)) au))) (gN 3)) (aJ (aV (aG qJ (ak (aq aC (aq aC (aj 0) (eC (.int 1))) (aj 2)) (ak (aq aC (aq aC (aj 0) (eC (.int 1))) (aj 1)) au))) (gN 4)) (aJ (aV (aG pG (ak (aj 3) (ak (aj 4) au))) (gN 5)) (bB (wN (cg (aq dX (aj 5) (eC (.tup [(.int 0),(.int 1)])))) (eC .non) (aG xq (ak (aj 4) (ak (aj 5) au))))))))
def xH:FP:=bC 6 Uk
end BH
end
section
namespace HS
open PySem PySem.SetTable
noncomputable def nH(M:Nat)(p:Probe):Probe :=
 if p.more > 0 then{p with j:=p.j+1,more:=p.more-1 }else
 {p with j:=(leap M p.i p.perturb).1,more:=runEnd M (leap M p.i p.perturb).1-(leap M p.i p.perturb).1,i:=(leap M p.i p.perturb).1,perturb:=(leap M p.i p.perturb).2 }
def st0(M:Nat)(h:Int):Probe:={j:=bits h%(M+1),more:=runEnd M (bits h%(M+1))-bits h%(M+1),i:=bits h%(M+1),perturb:=bits h,dummy:=none }
def P(M:Nat)(h:Int):Nat->Probe
 | 0=>st0 M h
 |k+1=>nH M (P M h k)
theorem Ul(M:Nat)(h:Int):∀k,(P M h k).dummy=none
 | 0=>rfl
 |k+1=>by
  show(nH M (P M h k)).dummy=none
  unfold nH
  split <;> exact Ul M h k
def lp(M:Nat)(h:Int):Nat->Nat × Nat
 | 0=>(bits h%(M+1),bits h)
 |l+1=>leap M (lp M h l).1 (lp M h l).2
def rs(M i p:Nat):Probe:={j:=i,more:=runEnd M i-i,i:=i,perturb:=p,dummy:=none }
theorem adw(M i:Nat):runEnd M i-i<=9:=by
 unfold runEnd
 split <;> omega
theorem J7{M h l k:Nat}{hh:Int}(e:P M hh k=rs M (lp M hh l).1 (lp M hh l).2):∀m,m<=runEnd M (lp M hh l).1-(lp M hh l).1->P M hh (k+m)={j:=(lp M hh l).1+m,more:=runEnd M (lp M hh l).1-(lp M hh l).1-m,i:=(lp M hh l).1,perturb:=(lp M hh l).2,dummy:=none }
 | 0,_=>e
 |m+1,hm=>by
  have q:=J7 (h:=h) e m (by omega)
  show nH M (P M hh (k+m))=_
  rw[q]
  unfold nH
  rw[if_pos (show runEnd M (lp M hh l).1-(lp M hh l).1-m > 0 by omega)]
  rfl
theorem Um{M l k:Nat}{h:Int}(e:P M h k=rs M (lp M h l).1 (lp M h l).2):P M h (k+(runEnd M (lp M h l).1-(lp M h l).1)+1)=rs M (lp M h (l+1)).1 (lp M h (l+1)).2:=by
 have q:=J7 (h:=0) e _ (Nat.le_refl _)
 show nH M (P M h (k+_))=_
 rw[q]
 unfold nH
 rw[if_neg (by show ¬(_-_ > 0); omega)]
 rfl
theorem Uo(M:Nat)(h:Int):∀l,∃k,k<=10*l/\P M h k=rs M (lp M h l).1 (lp M h l).2
 | 0=>⟨0,by omega,rfl⟩
 |l+1=>by
  obtain⟨k,hk,e⟩:=Uo M h l
  have:=adw M (lp M h l).1
  exact⟨_,by omega,Um e⟩
theorem Uq(M:Nat)(h:Int):∀l,(lp M h l).2=bits h / 32 ^ l
 | 0=>by show bits h=_; rw[Nat.pow_zero,Nat.div_one]
 |l+1=>by
  show(lp M h l).2 / 32=_
  rw[Uq M h l,Nat.div_div_eq_div_mul,Nat.pow_succ]
theorem adx(M:Nat)(h:Int)(l:Nat)(hl:13<=l):(lp M h l).2=0:=by
 rw[Uq]
 refine Nat.div_eq_of_lt (Nat.lt_of_lt_of_le (show bits h<2 ^ 64 from ?_) (Nat.le_trans (show 2 ^ 64<=32 ^ 13 by decide) (Nat.pow_le_pow_right (by decide) hl)))
 unfold bits
 have:=Int.emod_lt_of_pos h (show(0:Int)<2 ^ 64 by decide)
 omega
def it(M:Nat):Nat->Nat->Nat
 | 0,s=>s
 |k+1,s=>(it M k s*5+1)%(M+1)
theorem Ur(M:Nat)(h:Int):∀k,(lp M h (13+k)).1=it M k (lp M h 13).1
 | 0=>rfl
 |k+1=>by
  show(leap M (lp M h (13+k)).1 (lp M h (13+k)).2).1=_
  rw[adx M h (13+k) (by omega),Ur M h k]
  show(it M k (lp M h 13).1*5+1+0 / 32)%(M+1)=(it M k (lp M h 13).1*5+1)%(M+1)
  rw[Nat.zero_div,Nat.add_zero]
def pI(M:Nat):Prop:=M=7\/M=31\/M=127
def J8(M:Nat):Nat->Nat->List Nat
 | 0,_=>[]
 |n+1,s=>s::J8 M n ((s*5+1)%(M+1))
def Dz(M s:Nat):Bool:=(List.range (M+1)).all λj=>(J8 M (M+1) s).contains j
theorem Ut{M j:Nat}:∀(n s:Nat),j∈J8 M n s->∃k,k<n/\it M k s=j
 | 0,s,h=>by cases h
 |n+1,s,h=>by
  rcases List.mem_cons.mp h with rfl|h
  ·exact⟨0,by omega,rfl⟩
  ·obtain⟨k,hk,e⟩:=Ut n _ h
   refine⟨k+1,by omega,?_⟩
   rw[<-e]
   clear e hk h
   induction k with
   |zero=>rfl
   |succ k ih=>show(it M (k+1) s*5+1)%(M+1)=(it M k _*5+1)%(M+1); rw[ih]
theorem DG(M:Nat)(b s:Nat):∀a,it M (a+b) s=it M a (it M b s)
 | 0=>by rw[Nat.zero_add]; rfl
 |a+1=>by
  rw[show a+1+b=(a+b)+1 by omega]
  show(it M (a+b) s*5+1)%(M+1)=(it M a (it M b s)*5+1)%(M+1)
  rw[DG M b s a]
theorem ady:Dz 7 0=true/\it 7 8 0=0:=by decide +kernel
theorem adz:Dz 31 0=true/\it 31 32 0=0:=by decide +kernel
theorem adA:Dz 127 0=true/\it 127 128 0=0:=by decide +kernel
theorem cov{M:Nat}(hM:pI M){s j:Nat}(hs:s<=M)(hj:j<=M):∃k,k<=M/\it M k s=j:=by
 have q:Dz M 0=true/\it M (M+1) 0=0:=by
  rcases hM with rfl|rfl|rfl
  ·exact ady
  ·exact adz
  ·exact adA
 have z:∀j,j<=M->∃k,k<=M/\it M k 0=j:=λj hj=>by
  have z:=List.all_eq_true.mp q.1 j (List.mem_range.mpr (by omega))
  obtain⟨k,hk,e⟩:=Ut _ _ (List.contains_iff_mem.mp z)
  exact⟨k,by omega,e⟩
 obtain⟨a,ha,rfl⟩:=z s hs
 obtain⟨b,hb,rfl⟩:=z j hj
 rcases Nat.lt_or_ge b a with c|c
 ·refine⟨b+(M+1)-a,by omega,?_⟩
  rw[<-DG,show b+(M+1)-a+a=b+(M+1) by omega,DG,q.2]
 ·exact⟨b-a,by omega,by rw[<-DG,show b-a+a=b by omega]⟩
theorem adB(M:Nat)(h:Int):∀l,(lp M h l).1<=M
 | 0=>by have:=Nat.mod_lt (bits h) (show 0<M+1 by omega); show bits h%(M+1)<=M; omega
 |l+1=>by
  have:=Nat.mod_lt ((lp M h l).1*5+1+(lp M h l).2 / 32) (show 0<M+1 by omega)
  show((lp M h l).1*5+1+(lp M h l).2 / 32)%(M+1)<=M
  omega
theorem visit{M:Nat}(hM:pI M)(h:Int){j:Nat}(hj:j<=M):∃l,l<=M+13/\(lp M h l).1=j:=by
 obtain⟨k,hk,e⟩:=cov hM (adB M h 13) hj
 exact⟨13+k,by omega,(Ur M h k).trans e⟩
theorem adC{M:Nat}(hM:pI M)(h:Int){j:Nat}(hj:j<=M):∃k,k<=10*(M+13)/\(P M h k).j=j:=by
 obtain⟨l,hl,e⟩:=visit hM h hj
 obtain⟨k,hk,q⟩:=Uo M h l
 exact⟨k,by omega,by rw[q]; exact e⟩
def mJ(xs:Array Nat):Prop:=∀(i k v w:Nat),i<k->xs[i]?=some v->xs[k]?=some w->v<w
theorem J9{xs:Array Nat}{j:Nat}(hr:mJ xs):∀(fuel lo hi:Nat),hi<=xs.size->hi-lo<=fuel->lo<=hi->(∀i v,i<lo->xs[i]?=some v->v<j)->(∀i v,hi<=i->xs[i]?=some v->j<=v) ->
  below.go xs j fuel lo hi<=xs.size/\(∀i v,i<below.go xs j fuel lo hi->xs[i]?=some v->v<j)/\∀i v,below.go xs j fuel lo hi<=i->xs[i]?=some v->j<=v
 | 0,lo,hi,h1,h2,h3,a,b=>by
  unfold below.go
  obtain rfl:lo=hi:=by omega
  exact⟨h1,a,b⟩
 |fuel+1,lo,hi,h1,h2,h3,a,b=>by
  unfold below.go
  by_cases c:lo<hi
  ·rw[if_pos c]
   have hm:(lo+hi) / 2<xs.size:=by omega
   have e:xs[(lo+hi) / 2]?=some (xs.getD ((lo+hi) / 2) j):=by simp[Array.getD,hm]
   dsimp only
   generalize xs.getD ((lo+hi) / 2) j=w at e ⊢
   by_cases d:w<j
   ·rw[if_pos d]
    refine J9 hr fuel _ _ h1 (by omega) (by omega) (λi v hq e'=>?_) b
    rcases Nat.lt_or_ge i ((lo+hi) / 2)with q|q
    ·have:=hr i _ v w q e' e; omega
    ·obtain rfl:i=(lo+hi) / 2:=by omega
     rw[e]at e'; cases e'; exact d
   ·rw[if_neg d]
    refine J9 hr fuel _ _ (by omega) (by omega) (by omega) a λi v hq e'=>?_
    rcases Nat.lt_or_ge ((lo+hi) / 2) i with q|q
    ·have:=hr _ i w v q e e'; omega
    ·obtain rfl:i=(lo+hi) / 2:=by omega
     rw[e]at e'; cases e'; omega
  ·rw[if_neg c]
   obtain rfl:lo=hi:=by omega
   exact⟨h1,a,b⟩
theorem vG{xs:Array Nat}(hr:mJ xs)(j:Nat):below xs j<=xs.size/\(∀i v,i<below xs j->xs[i]?=some v->v<j)/\∀i v,below xs j<=i->xs[i]?=some v->j<=v :=
 J9 hr _ _ _ (Nat.le_refl _) (by omega) (Nat.zero_le _) (λi v h=>by omega) λi v h e=>by
  rw[Array.getElem?_eq_none h]at e; cases e
theorem below_at{xs:Array Nat}(hr:mJ xs){i j:Nat}(e:xs[i]?=some j):below xs j=i:=by
 obtain⟨h1,h2,h3⟩:=vG hr j
 have hi:i<xs.size:=by
  rcases Nat.lt_or_ge i xs.size with q|q
  ·exact q
  ·rw[Array.getElem?_eq_none q]at e; cases e
 rcases Nat.lt_trichotomy (below xs j) i with c|c|c
 ·have q:xs[below xs j]?=some xs[below xs j]:=Array.getElem?_eq_getElem (by omega)
  have:=h3 _ _ (Nat.le_refl _) q
  have:=hr _ _ _ _ c q e
  omega
 ·exact c
 ·have:=h2 _ _ c e; omega
section
variable {t:SetTable}
theorem DK(hr:mJ t.place){i j:Nat}(e:t.place[i]?=some j):t.slot j=.live i:=by
 unfold SetTable.slot
 dsimp only
 rw[below_at hr e,e,if_pos (beq_self_eq_true _)]
theorem Uu(hd:t.dummies = #[]){j:Nat}(hn:∀i:Nat,t.place[i]? ≠ some j):t.slot j=.empty:=by
 unfold SetTable.slot
 dsimp only
 have h0:¬((t.place[below t.place j]? == some j)=true):=λq=>hn _ (eq_of_beq q)
 have h1:SetTable.has t.dummies j=false:=by rw[hd]; rfl
 rw[if_neg h0,h1]
 rfl
theorem adD(hd:t.dummies = #[])(hr:mJ t.place)(j:Nat):(∃i:Nat,t.slot j=.live i/\t.place[i]?=some j)\/(t.slot j=.empty/\∀i:Nat,t.place[i]? ≠ some j):=by
 by_cases h:∃i:Nat,t.place[i]?=some j
 ·obtain⟨i,e⟩:=h; exact .inl ⟨i,DK hr e,e⟩
 ·exact .inr ⟨Uu hd λi e=>h ⟨i,e⟩,λi e=>h ⟨i,e⟩⟩
theorem Uv{hashAt:Nat->Int}{h:Int}{K:Nat}(hK:t.slot (P t.mask h K).j=.empty)(hl:∀k,k<K->∃i,t.slot (P t.mask h k).j=.live i):∀(fuel k0:Nat),k0<=K->K-k0<fuel ->
  ∃k,k0<=k/\k<=K/\(∀k',k0<=k'->k'<k->∀i,t.slot (P t.mask h k').j=.live i->hashAt i≠h) /\
   ((k=K/\probe.go t hashAt h fuel (P t.mask h k0)=some (.empty (P t.mask h K).j none))\/(k<K/\∃i,t.slot (P t.mask h k).j=.live i/\hashAt i=h/\probe.go t hashAt h fuel (P t.mask h k0)=some (.candidate (P t.mask h k).j i (P t.mask h (k+1)))))
 | 0,k0,h0,hf=>by omega
 |fuel+1,k0,h0,hf=>by
  by_cases c:k0=K
  ·subst c
   refine⟨k0,Nat.le_refl _,Nat.le_refl _,λk' a b=>by omega,.inl ⟨rfl,?_⟩⟩
   unfold probe.go
   rw[hK,Ul]
  ·obtain⟨i,e⟩:=hl k0 (by omega)
   by_cases d:hashAt i=h
   ·refine⟨k0,Nat.le_refl _,h0,λk' a b=>by omega,.inr ⟨by omega,i,e,d,?_⟩⟩
    unfold probe.go
    rw[e]
    dsimp only
    rw[if_pos (by rw[d]; exact beq_self_eq_true _)]
    rfl
   ·obtain⟨k,a1,a2,a3,a4⟩:=Uv hK hl fuel (k0+1) (by omega) (by omega)
    have st:probe.go t hashAt h (fuel+1) (P t.mask h k0)=probe.go t hashAt h fuel (P t.mask h (k0+1)):=by
     conv=>lhs; unfold probe.go
     rw[e]
     dsimp only
     rw[if_neg (by rw[beq_iff_eq]; exact d)]
     rfl
    rw[st]
    refine⟨k,by omega,a2,λk' b1 b2 i' e'=>?_,a4⟩
    by_cases q:k'=k0
    ·subst q
     rw[e]at e'
     cases e'
     exact d
    ·exact a3 k' (by omega) b2 i' e'
theorem least{p:Nat->Prop}:∀n,p n->∃k,k<=n/\p k/\∀k',k'<k->¬p k'
 |n,h=>by
  by_cases c:∃m,m<n/\p m
  ·obtain⟨m,hm,q⟩:=c
   obtain⟨k,a,b⟩:=least m q
   exact⟨k,by omega,b⟩
  ·exact⟨n,Nat.le_refl _,h,λk' a b=>c ⟨k',a,b⟩⟩
theorem hole{M:Nat}{xs:Array Nat}(h:xs.size<=M):∃j,j<=M/\∀i:Nat,xs[i]? ≠ some j:=by
 refine Classical.byContradiction λn=>?_
 have s:List.range (M+1) ⊆ xs.toList:=λj mj=>by
  refine Classical.byContradiction λq=>n ⟨j,by have:=List.mem_range.mp mj; omega,λi e=>q ?_⟩
  exact Array.mem_toList_iff.mpr (Array.mem_of_getElem? e)
 have:=List.nodup_range.length_le_of_subset s
 rw[List.length_range,Array.length_toList]at this
 omega
theorem adE(hM:pI t.mask)(hd:t.dummies = #[])(hr:mJ t.place)(hs:t.place.size<=t.mask)(h:Int):∃K,K<=10*(t.mask+13)/\t.slot (P t.mask h K).j=.empty/\(∀i:Nat,t.place[i]? ≠ some (P t.mask h K).j)/\∀k,k<K->∃i:Nat,t.slot (P t.mask h k).j=.live i/\t.place[i]?=some (P t.mask h k).j:=by
 obtain⟨j,hj,hn⟩:=hole hs
 obtain⟨k,hk,e⟩:=adC hM h hj
 obtain⟨K,a,b,c⟩:=least (p:=λk=>t.slot (P t.mask h k).j=.empty) k (by rw[e]; exact Uu hd hn)
 refine⟨K,by omega,b,λi q=>?_,λk' hk'=>?_⟩
 ·rw[DK hr q]at b; cases b
 ·rcases adD hd hr (P t.mask h k').j with q|q
  ·exact q
  ·exact absurd q.1 (c k' hk')
end
theorem Ka{α : Type}(xs:Array α)(p:Nat)(x : α):(insertAt xs p x).toList=xs.toList.take p++x::xs.toList.drop p:=by
 unfold insertAt
 simp
 exact List.take_of_length_le (by simp)
theorem Kc{α : Type}(xs:Array α)(p:Nat)(x : α)(h:p<=xs.size):(insertAt xs p x).size=xs.size+1:=by
 rw[<-Array.length_toList,Ka]
 simp
 omega
theorem Hh{α : Type}{l:List α}{p:Nat}(x : α)(hp:p<=l.length)(i:Nat):(l.take p++x::l.drop p)[i]?=if i<p then l[i]? else if i=p then some x else l[i-1]? := by
 have lt:(l.take p).length=p:=by rw[List.length_take]; omega
 rcases Nat.lt_trichotomy i p with c|c|c
 ·rw[if_pos c,List.getElem?_append_left (by omega),List.getElem?_take,if_pos c]
 ·subst c
  rw[if_neg (by omega),if_pos rfl,List.getElem?_append_right (by omega),lt,Nat.sub_self]
  rfl
 ·rw[if_neg (by omega),if_neg (by omega),List.getElem?_append_right (by omega),lt,show i-p=(i-p-1)+1 by omega,List.getElem?_cons_succ,List.getElem?_drop]
  congr 1
  omega
theorem DN{α : Type}(xs:Array α)(p:Nat)(x : α)(hp:p<=xs.size)(i:Nat):(insertAt xs p x)[i]?=if i<p then xs[i]? else if i=p then some x else xs[i-1]? := by
 rw[<-Array.getElem?_toList,Ka,Hh x (by rw[Array.length_toList]; exact hp)]
 simp only[Array.getElem?_toList]
structure jw(t:SetTable)(es:Array (Int × Value)):Prop where
 m:pI t.mask
 d:t.dummies = #[]
 r:mJ t.place
 sz:t.place.size=es.size
 fl:es.size*5<t.mask*3
 w:∀(i:Nat) (e:Int × Value),es[i]?=some e->∃k,t.place[i]?=some (P t.mask e.1 k).j/\∀k',k'<k->∃i':Nat,t.place[i']?=some (P t.mask e.1 k').j
theorem jw.le{t:SetTable}{es:Array (Int × Value)}(h:jw t es):t.place.size<=t.mask:=by
 have:=h.fl
 rw[h.sz]
 omega
section
variable {t:SetTable}{es:Array (Int × Value)}
theorem adF(hr:mJ t.place){j:Nat}(hn:∀i:Nat,t.place[i]? ≠ some j):mJ (insertAt t.place (below t.place j) j):=by
 obtain⟨h1,h2,h3⟩:=vG hr j
 have h3':∀i v,below t.place j<=i->t.place[i]?=some v->j<v:=λi v a b=>by
  have:=h3 i v a b
  rcases Nat.lt_or_ge j v with q|q
  ·exact q
  ·obtain rfl:v=j:=by omega
   exact absurd b (hn i)
 intro i k v w hik e1 e2
 rw[DN _ _ _ h1]at e1 e2
 split at e1
 ·rename_i c1
  split at e2
  ·exact hr i k v w hik e1 e2
  ·split at e2
   ·cases e2; exact h2 i v c1 e1
   ·have a:=h2 i v c1 e1
    have b:=h3' (k-1) w (by omega) e2
    omega
 ·split at e1
  ·cases e1
   rw[if_neg (by omega),if_neg (by omega)]at e2
   exact h3' (k-1) w (by omega) e2
  ·rw[if_neg (by omega),if_neg (by omega)]at e2
   exact hr (i-1) (k-1) v w (by omega) e1 e2
theorem Uw(hr:mJ t.place)(j v:Nat):(∃i:Nat,(insertAt t.place (below t.place j) j)[i]?=some v)↔v=j\/∃i:Nat,t.place[i]?=some v:=by
 have h1:=(vG hr j).1
 have q:∀(xs:Array Nat),(∃i:Nat,xs[i]?=some v)↔v∈xs.toList:=λxs=>by
  rw[List.mem_iff_getElem?]
  simp only[Array.getElem?_toList]
 rw[q,q,Ka,List.mem_append,List.mem_cons]
 have:v∈t.place.toList↔v∈t.place.toList.take (below t.place j)\/v∈t.place.toList.drop (below t.place j):=by rw[<-List.mem_append,List.take_append_drop]
 rw[this]
 constructor
 ·rintro(h|h|h)
  ·exact .inr (.inl h)
  ·exact .inl h
  ·exact .inr (.inr h)
 ·rintro(h|h|h)
  ·exact .inr (.inl h)
  ·exact .inl h
  ·exact .inr (.inr h)
theorem adG(ht:jw t es){h:Int}{x:Value}{K:Nat}(hn:∀i:Nat,t.place[i]? ≠ some (P t.mask h K).j)(hl:∀k,k<K->∃i:Nat,t.place[i]?=some (P t.mask h k).j):∀(i:Nat) (e:Int × Value),(insertAt es (below t.place (P t.mask h K).j) (h,x))[i]?=some e->∃k,(insertAt t.place (below t.place (P t.mask h K).j) (P t.mask h K).j)[i]?=some (P t.mask e.1 k).j/\∀k',k'<k->∃i':Nat,(insertAt t.place (below t.place (P t.mask h K).j) (P t.mask h K).j)[i']?=some (P t.mask e.1 k').j:=by
 intro i e he
 have h1:=(vG ht.r (P t.mask h K).j).1
 have h1':below t.place (P t.mask h K).j<=es.size:=by rw[<-ht.sz]; exact h1
 rw[DN _ _ _ h1']at he
 have old:∀i,es[i]?=some e->∃k,t.place[i]?=some (P t.mask e.1 k).j/\∀k',k'<k->∃i':Nat,(insertAt t.place (below t.place (P t.mask h K).j) (P t.mask h K).j)[i']?=some (P t.mask e.1 k').j:=λi q=>by
  obtain⟨k,a,b⟩:=ht.w i e q
  exact⟨k,a,λk' hk=>(Uw ht.r _ _).mpr (.inr (b k' hk))⟩
 rw[DN _ _ _ h1]
 split at he
 ·rename_i c
  rw[if_pos c]
  exact old i he
 ·rename_i c
  rw[if_neg c]
  split at he
  ·rename_i d
   cases he
   rw[if_pos d]
   exact⟨K,rfl,λk' hk=>(Uw ht.r _ _).mpr (.inr (hl k' hk))⟩
  ·rename_i d
   rw[if_neg d]
   exact old (i-1) he
end
def Fr(owner:Array (Option Nat))(j:Nat):Prop:=(owner.getD j (some 0)).isNone=true
theorem Ux{M:Nat}{h:Int}{owner:Array (Option Nat)}:∀(fuel l k:Nat),P M h k=rs M (lp M h l).1 (lp M h l).2->(∀k',k'<k->¬Fr owner (P M h k').j)->(∃l',l<=l'/\l'<l+fuel/\Fr owner (lp M h l').1) ->
  ∃K,layClean.free M owner fuel (lp M h l).1 (lp M h l).2=some (P M h K).j/\Fr owner (P M h K).j/\∀k',k'<K->¬Fr owner (P M h k').j
 | 0,l,k,_,_,⟨l',a,b,_⟩=>by omega
 |fuel+1,l,k,e,hk,⟨l',a,b,c⟩=>by
  unfold layClean.free
  have ri:=J7 (h:=0) e
  cases hf:(List.range (runEnd M (lp M h l).1+1-(lp M h l).1)).find? λk=>(owner.getD ((lp M h l).1+k) (some 0)).isNone with
  |some m =>
   obtain⟨h1,h2⟩:=List.find?_range_eq_some.mp hf
   have hm:m<=runEnd M (lp M h l).1-(lp M h l).1:=by
    have:=List.mem_range.mp h2.1
    omega
   refine⟨k+m,?_,?_,λk' hk'=>?_⟩
   ·show some ((lp M h l).1+m)=_
    rw[ri m hm]
   ·rw[ri m hm]
    exact h1
   ·rcases Nat.lt_or_ge k' k with q|q
    ·exact hk k' q
    ·have z:=h2.2 (k'-k) (by omega)
     have z2:=ri (k'-k) (by omega)
     rw[show k+(k'-k)=k' by omega]at z2
     rw[z2]
     intro w
     have w:(owner.getD ((lp M h l).1+(k'-k)) (some 0)).isNone=true:=w
     rw[w]at z
     cases z
  |none =>
   have hn:=List.find?_eq_none.mp hf
   have nf:∀m,m<=runEnd M (lp M h l).1-(lp M h l).1->¬Fr owner ((lp M h l).1+m):=λm hm=>by
    refine hn m (List.mem_range.mpr ?_)
    have:(lp M h l).1<=runEnd M (lp M h l).1:=by unfold runEnd; split <;> omega
    omega
   have hl:l'≠l:=by
    rintro rfl
    exact nf 0 (by omega) c
   have:=Ux (owner:=owner) fuel (l+1) _ (Um e) (λk' hk'=>by
    rcases Nat.lt_or_ge k' k with q|q
    ·exact hk k' q
    ·have z2:=ri (k'-k) (by omega)
     rw[show k+(k'-k)=k' by omega]at z2
     rw[z2]
     exact nf (k'-k) (by omega)) ⟨l',by omega,by omega,c⟩
   exact this
theorem adH(M:Nat)(h:Int):∀k,(P M h k).j+(P M h k).more<=M/\(P M h k).i<=M:=by
 have q:∀i,i<=M->i+(runEnd M i-i)<=M:=λi hi=>by
  unfold runEnd
  split <;> omega
 intro k
 induction k with
 |zero =>
  have:=Nat.mod_lt (bits h) (show 0<M+1 by omega)
  exact⟨q (bits h%(M+1)) (by omega),by show bits h%(M+1)<=M; omega⟩
 |succ k ih =>
  show(nH M (P M h k)).j+(nH M (P M h k)).more<=M/\(nH M (P M h k)).i<=M
  unfold nH
  by_cases c:(P M h k).more > 0
  ·rw[if_pos c]
   exact⟨by show(P M h k).j+1+((P M h k).more-1)<=M; omega,ih.2⟩
  ·rw[if_neg c]
   have:(leap M (P M h k).i (P M h k).perturb).1<=M:=by
    have:=Nat.mod_lt ((P M h k).i*5+1+(P M h k).perturb / 32) (show 0<M+1 by omega)
    show((P M h k).i*5+1+(P M h k).perturb / 32)%(M+1)<=M
    omega
   exact⟨q _ this,this⟩
structure Own(M:Nat)(owner:Array (Option Nat))(Js:List Nat):Prop where
 sz:owner.size=M+1
 at':∀j i:Nat,owner[j]?=some (some i)↔Js[i]?=some j
 le:∀j∈Js,j<=M
theorem Own.fr{M:Nat}{owner:Array (Option Nat)}{Js:List Nat}(o:Own M owner Js)(j:Nat):Fr owner j↔j<=M/\j∉Js:=by
 unfold Fr
 rcases Nat.lt_or_ge j owner.size with c|c
 ·have e:owner.getD j (some 0)=owner[j]:=by simp[Array.getD,c]
  rw[e]
  have hs:=o.sz
  cases hv:owner[j]with
  |none =>
   refine⟨λ_=>⟨by omega,λq=>?_⟩,λ_=>rfl⟩
   obtain⟨i,hi⟩:=List.mem_iff_getElem?.mp q
   have:=(o.at' j i).mpr hi
   rw[Array.getElem?_eq_getElem c,hv]at this
   cases this
  |some i =>
   refine⟨λq=>(by cases q),λq=>absurd ?_ q.2⟩
   exact List.mem_iff_getElem?.mpr ⟨i,(o.at' j i).mp (by rw[Array.getElem?_eq_getElem c,hv])⟩
 ·have e:owner.getD j (some 0)=some 0:=by simp[Array.getD,Nat.not_lt.mpr c]
  rw[e]
  have hs:=o.sz
  exact⟨λq=>(by cases q),λq=>(by omega)⟩
theorem Own.add{M j:Nat}{owner:Array (Option Nat)}{Js:List Nat}(o:Own M owner Js)(hj:j<=M)(hn:j∉Js):Own M (owner.setIfInBounds j (some Js.length)) (Js++[j]):=by
 refine⟨by rw[Array.size_setIfInBounds]; exact o.sz,λj' i=>?_,λj' h=>?_⟩
 ·have hs:=o.sz
  by_cases c:j'=j
  ·subst c
   rw[Array.getElem?_setIfInBounds_self_of_lt (by omega)]
   constructor
   ·intro q
    cases q
    rw[List.getElem?_append_right (Nat.le_refl _),Nat.sub_self]
    rfl
   ·intro q
    rcases Nat.lt_trichotomy i Js.length with d|d|d
    ·rw[List.getElem?_append_left d]at q
     exact absurd (List.mem_of_getElem? q) hn
    ·rw[d]
    ·rw[List.getElem?_eq_none (by rw[List.length_append,List.length_singleton]; omega)]at q; cases q
  ·rw[Array.getElem?_setIfInBounds_ne (λq=>c q.symm),o.at']
   rcases Nat.lt_or_ge i Js.length with d|d
   ·rw[List.getElem?_append_left d]
   ·rw[List.getElem?_eq_none d,List.getElem?_append_right d]
    constructor
    ·intro q; cases q
    ·intro q
     rcases Nat.eq_zero_or_pos (i-Js.length)with z|z
     ·rw[z]at q; cases q; exact absurd rfl c
     ·rw[List.getElem?_eq_none (by rw[List.length_singleton]; omega)]at q; cases q
 ·rcases List.mem_append.mp h with h|h
  ·exact o.le j' h
  ·rw[List.mem_singleton.mp h]; exact hj
def Way(M:Nat)(Js:List Nat)(j:Nat)(h:Int):Prop:=∃K,j=(P M h K).j/\∀k,k<K->(P M h k).j∈Js
theorem Own.free{M:Nat}(hM:pI M){owner:Array (Option Nat)}{Js:List Nat}(o:Own M owner Js)(hl:Js.length<=M)(h:Int):∃j,layClean.free M owner (turns M) (bits h%(M+1)) (bits h)=some j/\j<=M/\j∉Js/\Way M Js j h:=by
 obtain⟨j,hj,nj⟩:∃j,j<=M/\j∉Js:=by
  refine Classical.byContradiction λn=>?_
  have s:List.range (M+1) ⊆ Js:=λj mj=>Classical.byContradiction λq=>n ⟨j,by have:=List.mem_range.mp mj; omega,q⟩
  have:=List.nodup_range.length_le_of_subset s
  rw[List.length_range]at this
  omega
 obtain⟨l,hl',e⟩:=visit hM h hj
 obtain⟨K,e1,e2,e3⟩:=Ux (M:=M) (h:=h) (owner:=owner) (turns M) 0 0 rfl (λk' a=>by omega) ⟨l,by omega,by unfold turns; omega,by rw[e]; exact(o.fr j).mpr ⟨hj,nj⟩⟩
 obtain⟨f1,f2⟩:=(o.fr _).mp e2
 have le:∀k,(P M h k).j<=M:=λk=>by have:=(adH M h k).1; omega
 exact⟨_,e1,f1,f2,K,rfl,λk hk=>Classical.byContradiction λq=>e3 k hk ((o.fr _).mpr ⟨le k,q⟩)⟩
theorem Own.new(M:Nat):Own M (Array.replicate (M+1) none) []:=by
 refine⟨by rw[Array.size_replicate],λj i=>?_,λj h=>(by cases h)⟩
 rw[List.getElem?_nil]
 refine⟨λq=>?_,λq=>(by cases q)⟩
 rw[Array.getElem?_replicate]at q
 split at q <;> cases q
theorem Way.mono{M j:Nat}{Js pJ:List Nat}{h:Int}(w:Way M Js j h)(s:∀x∈Js,x∈pJ):Way M pJ j h:=by
 obtain⟨K,a,b⟩:=w
 exact⟨K,a,λk hk=>s _ (b k hk)⟩
abbrev Kd(M:Nat):Option (Array (Option Nat) × Nat)->Int->Option (Array (Option Nat) × Nat):=λacc h=>do
  let(owner,k) <-acc
  let j <-layClean.free M owner (turns M) (bits h%(M+1)) (bits h)
  pure (owner.setIfInBounds j (some k),k+1)
theorem Uy{M:Nat}(hM:pI M):∀(hs hs0:List Int) (owner:Array (Option Nat)) (Js:List Nat),Own M owner Js->Js.length=hs0.length->hs0.length+hs.length<=M->(∀(i:Nat) (h:Int),hs0[i]?=some h->∃j,Js[i]?=some j/\Way M Js j h) ->
  ∃DP pJ,hs.foldl (Kd M) (some (owner,Js.length))=some (DP,pJ.length)/\Own M DP pJ/\pJ.length=hs0.length+hs.length/\∀(i:Nat) (h:Int),(hs0++hs)[i]?=some h->∃j,pJ[i]?=some j/\Way M pJ j h
 | [],hs0,owner,Js,o,hl,_,hw=>⟨owner,Js,rfl,o,by simpa using hl,by simpa using hw⟩
 |h::hs,hs0,owner,Js,o,hl,hm,hw=>by
  rw[List.length_cons]at hm
  obtain⟨j,e,j1,j2,wy⟩:=o.free hM (by omega) h
  have o':=o.add j1 j2
  have sub:∀x∈Js,x∈Js++[j]:=λx hx=>List.mem_append.mpr (.inl hx)
  obtain⟨DP,pJ,e2,o2,l2,w2⟩:=Uy hM hs (hs0++[h]) _ _ o' (by rw[List.length_append,List.length_append,List.length_singleton,List.length_singleton,hl]) (by rw[List.length_append,List.length_singleton]; omega) (λi h' q=>by
   rcases Nat.lt_or_ge i hs0.length with c|c
   ·rw[List.getElem?_append_left c]at q
    obtain⟨j',a,b⟩:=hw i h' q
    exact⟨j',by rw[List.getElem?_append_left (by omega)]; exact a,b.mono sub⟩
   ·rw[List.getElem?_append_right c]at q
    rcases Nat.eq_zero_or_pos (i-hs0.length)with z|z
    ·rw[z]at q
     cases q
     exact⟨j,by rw[List.getElem?_append_right (by omega),show i-Js.length=0 by omega]; rfl,wy.mono sub⟩
    ·rw[List.getElem?_eq_none (by rw[List.length_singleton]; omega)]at q; cases q)
  refine⟨DP,pJ,?_,o2,by rw[l2,List.length_append,List.length_singleton,List.length_cons]; omega,by simpa using w2⟩
  rw[List.foldl_cons]
  have s1:Kd M (some (owner,Js.length)) h=some (owner.setIfInBounds j (some Js.length),(Js++[j]).length):=by
   show(layClean.free M owner (turns M) (bits h%(M+1)) (bits h)).bind _=_
   rw[e,List.length_append,List.length_singleton]
   rfl
  rw[s1]
  exact e2
theorem adI{M:Nat}(hM:pI M){hs:Array Int}(hl:hs.size<=M):∃owner Js,layClean M hs=some owner/\Own M owner Js/\Js.length=hs.size/\∀(i:Nat) (h:Int),hs[i]?=some h->∃j,Js[i]?=some j/\Way M Js j h:=by
 obtain⟨owner,Js,e,o,l,w⟩:=Uy hM hs.toList [] _ [] (Own.new M) rfl (by simpa using hl) (λi h q=>(by cases q))
 refine⟨owner,Js,?_,o,by simpa using l,λi h q=>w i h (by simpa using q)⟩
 unfold layClean
 rw[<-Array.foldl_toList]
 show(hs.toList.foldl (Kd M) (some (Array.replicate (M+1) none,0))).map (·.1)=_
 rw[show(0:Nat)=([]:List Nat).length from rfl,e]
 rfl
def iD(M:Nat)(owner:Array (Option Nat)):List (Nat × Nat):=(List.range (M+1)).filterMap λj=>(owner.getD j none).map (j,·)
theorem xJ{M:Nat}{owner:Array (Option Nat)}{Js:List Nat}(o:Own M owner Js)(j i:Nat):(j,i)∈iD M owner↔Js[i]?=some j:=by
 unfold iD
 rw[List.mem_filterMap,<-o.at']
 constructor
 ·rintro⟨a,ha,e⟩
  cases hv:owner.getD a none with
  |none=>rw[hv]at e; cases e
  |some k =>
   rw[hv]at e
   cases e
   rcases Nat.lt_or_ge j owner.size with c|c
   ·have:owner.getD j none=owner[j]:=by simp[Array.getD,c]
    rw[Array.getElem?_eq_getElem c,<-this,hv]
   ·have:owner.getD j none=none:=by simp[Array.getD,Nat.not_lt.mpr c]
    rw[this]at hv; cases hv
 ·intro e
  have c:j<owner.size:=by
   rcases Nat.lt_or_ge j owner.size with c|c
   ·exact c
   ·rw[Array.getElem?_eq_none c]at e; cases e
  have hs:=o.sz
  refine⟨j,List.mem_range.mpr (by omega),?_⟩
  have:owner.getD j none=owner[j]:=by simp[Array.getD,c]
  rw[Array.getElem?_eq_getElem c]at e
  rw[this,Option.some.inj e]
  rfl
theorem Uz{M:Nat}{owner:Array (Option Nat)}:(iD M owner).Pairwise λa b=>a.1<b.1:=by
 unfold iD
 rw[List.pairwise_filterMap]
 refine List.pairwise_lt_range.imp λ{a b} lt x hx y hy=>?_
 cases ha:owner.getD a none with
 |none=>rw[ha]at hx; cases hx
 |some k =>
  cases hb:owner.getD b none with
  |none=>rw[hb]at hy; cases hy
  |some k' =>
   rw[ha]at hx
   rw[hb]at hy
   cases hx
   cases hy
   exact lt
theorem adJ{M:Nat}{owner:Array (Option Nat)}{Js:List Nat}(o:Own M owner Js):((iD M owner).map (·.2)).Perm (List.range Js.length):=by
 have nd:((iD M owner).map (·.2)).Nodup:=by
  unfold List.Nodup
  rw[List.pairwise_map]
  refine(Uz (owner:=owner)).imp_of_mem λ{a b} ma mb lt e=>?_
  have h1:=(xJ o a.1 a.2).mp ma
  have h2:=(xJ o b.1 b.2).mp mb
  rw[e,h2]at h1
  have:=Option.some.inj h1
  omega
 refine(List.perm_ext_iff_of_nodup nd List.nodup_range).mpr λi=>?_
 rw[List.mem_map,List.mem_range]
 constructor
 ·rintro⟨⟨j,i'⟩,m,rfl⟩
  have:=(xJ o j i').mp m
  rcases Nat.lt_or_ge i' Js.length with c|c
  ·exact c
  ·rw[List.getElem?_eq_none c]at this; cases this
 ·intro h
  exact⟨(Js[i],i),(xJ o _ _).mpr (List.getElem?_eq_getElem h),rfl⟩
theorem Kf{α β : Type}{f : α -> Option β}:∀{l:List α},(∀x∈l,(f x).isSome=true)->(l.filterMap f).length=l.length/\∀i:Nat,(l.filterMap f)[i]?=l[i]?.bind f
 | [],_=>⟨rfl,λi=>rfl⟩
 |x::l,h=>by
  obtain⟨y,e⟩:=Option.isSome_iff_exists.mp (h x (List.mem_cons_self ..))
  obtain⟨h1,h2⟩:=Kf (l:=l) λz hz=>h z (List.mem_cons_of_mem _ hz)
  rw[List.filterMap_cons_some e]
  refine⟨by rw[List.length_cons,List.length_cons,h1],λi=>?_⟩
  cases i with
  |zero=>exact e.symm
  |succ i=>rw[List.getElem?_cons_succ,List.getElem?_cons_succ]; exact h2 i
theorem adK{α : Type}(es:Array α):(List.range es.size).filterMap (λi=>es[i]?)=es.toList:=by
 have q:=Kf (f:=λi:Nat=>es[i]?) (l:=List.range es.size) λi hi=>by
  have:=List.mem_range.mp hi
  rw[Array.getElem?_eq_getElem this]
  rfl
 refine List.ext_getElem? λi=>?_
 rw[q.2 i]
 rcases Nat.lt_or_ge i es.size with c|c
 ·rw[List.getElem?_range c,Array.getElem?_toList]
  rfl
 ·rw[List.getElem?_eq_none (by rw[List.length_range]; exact c),Array.getElem?_toList,Array.getElem?_eq_none c]
  rfl
theorem adL{t:SetTable}{es:Array (Int × Value)}{M wanted:Nat}(hM:pI M)(hw:sizeAbove wanted-1=M)(hn:es.size*5<M*3):∃t' order,t.relaid (es.map (·.1)) wanted=some (t',order)/\(order.filterMap (es[·]?)).size=es.size/\jw t' (order.filterMap (es[·]?))/\t'.led=t.led/\t'.plain=t.plain/\(order.filterMap (es[·]?)).toList.Perm es.toList:=by
 obtain⟨owner,Js,e1,o,l,w⟩:=adI hM (hs:=es.map (·.1)) (by rw[Array.size_map]; omega)
 rw[Array.size_map]at l
 have pm:=adJ o
 rw[l]at pm
 have some':∀x∈(iD M owner).map (·.2),(es[x]?).isSome=true:=λx hx=>by
  have:=List.mem_range.mp (pm.mem_iff.mp hx)
  rw[Array.getElem?_eq_getElem this]
  rfl
 obtain⟨f1,f2⟩:=Kf (f:=λi:Nat=>es[i]?) some'
 have lr:(iD M owner).length=es.size:=by
  have:=pm.length_eq
  rwa[List.length_map,List.length_range]at this
 have tl:((((iD M owner).map (·.2)).toArray).filterMap (es[·]?)).toList=((iD M owner).map (·.2)).filterMap (es[·]?):=by
  rw[Array.toList_filterMap]
 refine⟨{mask:=M,place:=((iD M owner).map (·.1)).toArray,dummies:=#[],finger:=t.finger,led:=t.led,moves:=t.movedTo M,plain:=t.plain },((iD M owner).map (·.2)).toArray,?_,?_,?_,rfl,rfl,?_⟩
 ·unfold relaid laid
  rw[hw,e1]
  rfl
 ·rw[<-Array.length_toList,tl,f1,List.length_map,lr]
 ·refine⟨hM,rfl,λi k v w' lt a b=>?_,?_,?_,λi e he=>?_⟩
  ·have a:((iD M owner).map (·.1))[i]?=some v:=by simpa using a
   have b:((iD M owner).map (·.1))[k]?=some w':=by simpa using b
   have pw:((iD M owner).map (·.1)).Pairwise (· < ·):=by rw[List.pairwise_map]; exact Uz
   obtain⟨h1,rfl⟩:=List.getElem?_eq_some_iff.mp a
   obtain⟨h2,rfl⟩:=List.getElem?_eq_some_iff.mp b
   exact List.pairwise_iff_getElem.mp pw i k h1 h2 lt
  ·rw[<-Array.length_toList (xs:=Array.filterMap _ _),tl,f1,List.length_map]
   show((iD M owner).map (·.1)).toArray.size=_
   rw[List.size_toArray,List.length_map]
  ·rw[<-Array.length_toList,tl,f1,List.length_map,lr]
   exact hn
  ·rw[<-Array.getElem?_toList,tl,f2 i,List.getElem?_map]at he
   cases hv:(iD M owner)[i]? with
   |none=>rw[hv]at he; cases he
   |some z =>
    rw[hv]at he
    obtain⟨j,x⟩:=z
    have he:es[x]?=some e:=he
    have mj:=(xJ o j x).mp (List.mem_of_getElem? hv)
    obtain⟨j',a,K,b,c⟩:=w x e.1 (by rw[Array.getElem?_map,he]; rfl)
    rw[mj]at a
    cases a
    refine⟨K,?_,λk' hk=>?_⟩
    ·show((iD M owner).map (·.1)).toArray[i]?=_
     rw[List.getElem?_toArray,List.getElem?_map,hv,<-b]
     rfl
    ·obtain⟨x',hx'⟩:=List.mem_iff_getElem?.mp (c k' hk)
     obtain⟨i',hi'⟩:=List.mem_iff_getElem?.mp ((xJ o _ x').mpr hx')
     refine⟨i',?_⟩
     show((iD M owner).map (·.1)).toArray[i']?=_
     rw[List.getElem?_toArray,List.getElem?_map,hi']
     rfl
 ·rw[tl,<-adK es]
  exact pm.filterMap _
variable {prog:Program}{w:World}{A:Around}{E:Value->Shared->Prop}{s:Shared}
abbrev IK(prog:Program)(w:World):=intKind prog w
def DQ(prog:Program)(w:World)(h:Heap)(es:Array (Int × Value))(ks:List (List Int)):Prop :=
 ks.length=es.size/\∀(i:Nat) (k:List Int),ks[i]?=some k->∃p,es[i]?=some (tupleKeyHash (IK prog w) k,.ref p)/\IsTupleKey (IK prog w) h k p
theorem jw.fits{t:SetTable}{es:Array (Int × Value)}(h:jw t es):t.fits es.size=true:=by
 have:=h.le
 unfold SetTable.fits fill
 rw[h.d,h.sz,Bool.and_eq_true]
 exact⟨beq_self_eq_true _,decide_eq_true (by have:=h.sz; simp; omega)⟩
theorem adM(n:Nat){k:Int}{v:Value}(h:(IK prog w).is k v=true):ofAClassStatement n v=pure false:=by
 obtain⟨t,rfl⟩:=Value.isInt_shape (k:=k) (v:=v) h
 cases n <;> rfl
theorem items_int{ks:List Int}{vs:List Value}(h:ItemsAre (IK prog w) ks vs):∀v∈vs,∃k,(IK prog w).is k v=true:=by
 induction h with
 |nil=>intro v hv; cases hv
 |cons h1 _ ih =>
  intro v hv
  rcases List.mem_cons.mp hv with rfl|hv
  ·exact⟨_,h1⟩
  ·exact ih v hv
theorem UG{ks:List Int}{p:Addr}{Q:Bool->Shared->Prop}(hk:IsTupleKey (IK prog w) s.heap ks p)(h:Q false s):wpAny (model prog w) A (ofAClassStatement 8 (.ref p)) Q E s:=by
 have hT:=hk.typeIs
 obtain⟨o,items,n,ho,hc,hd,hi⟩:=hk
 unfold ofAClassStatement
 refine wpAny_bind (wpAny_typeOf hT ?_)
 dsimp only
 rw[if_pos (show("tuple" == "tuple")=true from rfl)]
 refine wpAny_bind (wpAny_pure ?_)
 simp only[Bool.not_true,Bool.false_eq_true,if_false]
 refine wpAny_bind (wpAny_seqItems ho hd ?_)
 refine wpAny_bind ?_
 rw[<-Array.forIn_toList]
 refine wpAny_forIn_list _ (λrest r s'=>r.1=none/\s'=s/\∀v∈rest,∃k,(IK prog w).is k v=true) _ ?_ ?_ _ _ ⟨rfl,rfl,items_int hi⟩
 ·rintro v rest r s' ⟨hr,rfl,hall⟩
  obtain⟨k,hk⟩:=hall v List.mem_cons_self
  rw[adM _ hk]
  refine wpAny_bind (wpAny_pure ?_)
  simp only[Bool.false_eq_true,if_false]
  exact wpAny_pure ⟨rfl,rfl,λu hu'=>hall u (List.mem_cons_of_mem _ hu')⟩
 ·rintro⟨r1,r2⟩ s' ⟨hr,rfl,_⟩
  simp only at hr
  subst hr
  exact wpAny_pure h
theorem adN{kx:List Int}{px:Addr}{Q:Bool->Shared->Prop}(hx:IsTupleKey (IK prog w) s.heap kx px):∀{l:List Value},(∀v∈l,∃k p,v=.ref p/\IsTupleKey (IK prog w) s.heap k p)->Q false s->wpAny (model prog w) A (searchCouldBeSeen (.ref px) l) Q E s:=by
 intro l hl h
 unfold searchCouldBeSeen
 refine wpAny_bind ?_
 refine wpAny_forIn_list _ (λrest r s'=>r.1=none/\s'=s/\∀v∈rest,∃k p,v=.ref p/\IsTupleKey (IK prog w) s.heap k p) _ ?_ ?_ _ _ ⟨rfl,rfl,hl⟩
 ·rintro v rest r s' ⟨hr,rfl,hall⟩
  obtain⟨k,p,rfl,hp⟩:=hall v List.mem_cons_self
  dsimp only
  split
  ·exact wpAny_pure ⟨rfl,rfl,λu hu'=>hall u (List.mem_cons_of_mem _ hu')⟩
  ·refine wpAny_bind (wpAny_eqIsQuiet_tuple hx ?_)
   simp only[Bool.not_true,Bool.false_eq_true,if_false]
   refine wpAny_bind (wpAny_eqIsQuiet_tuple hp ?_)
   simp only[Bool.not_true,Bool.false_eq_true,if_false]
   refine wpAny_bind (UG hx ?_)
   simp only[Bool.false_eq_true,if_false]
   refine wpAny_bind (UG hp ?_)
   simp only[Bool.false_eq_true,if_false]
   exact wpAny_pure ⟨rfl,rfl,λu hu'=>hall u (List.mem_cons_of_mem _ hu')⟩
 ·rintro⟨r1,r2⟩ s' ⟨hr,rfl,_⟩
  simp only at hr
  subst hr
  exact wpAny_pure h
theorem adO{kx:List Int}{p:Addr}{Q:Bool->Shared->Prop}(hk:IsTupleKey (IK prog w) s.heap kx p)(h:Q true s):wpAny (model prog w) A (hashByValue 8 (.ref p)) Q E s:=by
 have hT:=hk.typeIs
 obtain⟨o,items,n,ho,hc,hd,hi⟩:=hk
 unfold hashByValue
 refine wpAny_bind (wpAny_specialOf hT F.slot_tuple_hash.lookup ?_)
 dsimp only
 refine wpAny_bind (wpAny_seqItems ho hd ?_)
 refine wpAny_bind ?_
 dsimp only[Option.getD]
 rw[<-Array.forIn_toList]
 refine wpAny_forIn_list _ (λrest r s'=>r.1=none/\s'=s/\∀v∈rest,∃k,(IK prog w).is k v=true) _ ?_ ?_ _ _ ⟨rfl,rfl,items_int hi⟩
 ·rintro v rest r s' ⟨hr,rfl,hall⟩
  obtain⟨k,hk⟩:=hall v List.mem_cons_self
  obtain⟨t,rfl⟩:=Value.isInt_shape (k:=k) (v:=v) hk
  unfold hashByValue
  refine wpAny_bind (wpAny_pure ?_)
  simp only[Bool.not_true,Bool.false_eq_true,if_false]
  exact wpAny_pure ⟨rfl,rfl,λu hu'=>hall u (List.mem_cons_of_mem _ hu')⟩
 ·rintro⟨r1,r2⟩ s' ⟨hr,rfl,_⟩
  simp only at hr
  subst hr
  exact wpAny_pure h
end HS
end
section
namespace HS
open PySem PySem.SetTable
variable {prog:Program}{w:World}{A:Around}{E:Value->Shared->Prop}{s:Shared}
section
variable {t:SetTable}{es:Array (Int × Value)}{ks:List (List Int)}{kx:List Int}{px a:Addr}{o:Obj}{ep K:Nat}
theorem DQ.entry{h:Heap}(he:DQ prog w h es ks){i:Nat}{e:Int × Value}(q:es[i]?=some e):∃k p,ks[i]?=some k/\e=(tupleKeyHash (IK prog w) k,.ref p)/\IsTupleKey (IK prog w) h k p:=by
 have hi:i<es.size:=by
  rcases Nat.lt_or_ge i es.size with c|c
  ·exact c
  ·rw[Array.getElem?_eq_none c]at q; cases q
 have hi':i<ks.length:=by rw[he.1]; exact hi
 have hk:ks[i]?=some ks[i]:=List.getElem?_eq_getElem hi'
 obtain⟨p,e1,e2⟩:=he.2 i _ hk
 rw[q]at e1
 exact⟨_,p,hk,Option.some.inj e1,e2⟩
theorem UJ(hu:A.units<cLine)(ht:jw t es)(he:DQ prog w s.heap es ks)(ho:s.heap.get? a=some o)(hd:o.data=.set es ep t)(hx:IsTupleKey (IK prog w) s.heap kx px)
  (Kg:K<=10*(t.mask+13)) (vH:t.slot (P t.mask (tupleKeyHash (IK prog w) kx) K).j=.empty) (xK:∀k,k<K->∃i:Nat,t.slot (P t.mask (tupleKeyHash (IK prog w) kx) k).j=.live i/\t.place[i]?=some (P t.mask (tupleKeyHash (IK prog w) kx) k).j)
  {Q:SetFound->Shared->Prop} (q1:kx∈ks->Q (.there none) s) (q2:kx∉ks->Q (.free (P t.mask (tupleKeyHash (IK prog w) kx) K).j false) s) :
  ∀(fuel k0:Nat) (stand:Option Probe),k0<=K->K-k0<fuel->stand.getD (t.probeStart (tupleKeyHash (IK prog w) kx))=P t.mask (tupleKeyHash (IK prog w) kx) k0 ->
   (∀k' i:Nat,k'<k0->t.slot (P t.mask (tupleKeyHash (IK prog w) kx) k').j=.live i->ks[i]? ≠ some kx)->wpAny (model prog w) A (setSearchFrom a (.ref px) (tupleKeyHash (IK prog w) kx) true fuel stand) Q E s
 | 0,k0,stand,_,h,_,_=>by omega
 |fuel+1,k0,stand,h0,hf,hst,hno=>by
  unfold setSearchFrom
  refine wpAny_bind (wpAny_setState_of ho hd ht.fits ?_)
  dsimp only
  have hg:t.gaveWay=false:=by
   unfold SetTable.gaveWay
   rcases ht.m with h|h|h <;> (rw[h]; rfl)
  rw[hg]
  simp only[Bool.false_eq_true,if_false]
  obtain⟨k,a1,a2,a3,a4⟩:=Uv (t:=t) (hashAt:=λi=>(es[i]?.map (·.1)).getD 0) vH (λk hk=>(xK k hk).imp λ_ z=>z.1) (10*turns t.mask) k0 h0 (by unfold turns; omega)
  rw[hst]
  have hash:∀(i:Nat) (k:List Int),ks[i]?=some k->((es[i]?.map (·.1)).getD 0)=tupleKeyHash (IK prog w) k:=λi k q=>by
   obtain⟨p,e,_⟩:=he.2 i k q
   rw[e]
   rfl
  generalize hp:t.probe _ (tupleKeyHash (IK prog w) kx) (P t.mask (tupleKeyHash (IK prog w) kx) k0)=met
  rcases a4 with⟨rfl,e⟩|⟨lt,i,sl,hh,e⟩
  ·have:=hp.symm.trans e
   subst this
   dsimp only
   refine wpAny_pure (q2 λm=>?_)
   obtain⟨i,hi⟩:=List.mem_iff_getElem?.mp m
   obtain⟨p,ei,_⟩:=he.2 i kx hi
   obtain⟨k2,b1,b2⟩:=ht.w i _ ei
   have l2:=DK ht.r b1
   have c:k2<k:=by
    rcases Nat.lt_trichotomy k2 k with c|c|c
    ·exact c
    ·subst c; rw[vH]at l2; cases l2
    ·obtain⟨i',b3⟩:=b2 k c
     rw[DK ht.r b3]at vH
     cases vH
   rcases Nat.lt_or_ge k2 k0 with d|d
   ·exact hno k2 i d l2 hi
   ·exact a3 k2 d c i l2 (hash i kx hi)
  ·have:=hp.symm.trans e
   subst this
   dsimp only
   have pl:t.place[i]?=some (P t.mask (tupleKeyHash (IK prog w) kx) k).j:=by
    obtain⟨i',z1,z2⟩:=xK k lt
    rw[sl]at z1
    cases z1
    exact z2
   have hi:i<es.size:=by
    rw[<-ht.sz]
    rcases Nat.lt_or_ge i t.place.size with c|c
    ·exact c
    ·rw[Array.getElem?_eq_none c]at pl; cases pl
   obtain⟨ki,pi,e1,e2,e3⟩:=he.entry (Array.getElem?_eq_getElem hi)
   have e4:es[i]?=some (tupleKeyHash (IK prog w) ki,.ref pi):=by rw[Array.getElem?_eq_getElem hi,e2]
   have rest:wpAny (model prog w) A (do
     let some (_,y):=es[i]? | unsupported "internal:set-entry"
     let equal <-holding [y] (eqBool y (.ref px))
     let(es',_,t') <-setState a
     if true&&equal then return SetFound.there none
     let some same:=t'.sameMemory t.moves t.mask|unsupported "set.changed-during-lookup:is-the-new-block-at-the-old-address"
     let still <-match(if same then t'.slot (P t.mask (tupleKeyHash (IK prog w) kx) k).j else .empty)with
      |.live i'=>match es'[i']? with
       |some (_,y')=>do pure (if <-isSame y' y then some i' else none)
       |none=>pure none
      |_=>pure none
     match still with
     |none=>rule "set.search.anew"; setSearchFrom a (.ref px) (tupleKeyHash (IK prog w) kx) true fuel none
     |some i'=>if equal then return .there (some i')else setSearchFrom a (.ref px) (tupleKeyHash (IK prog w) kx) true fuel (some (P t.mask (tupleKeyHash (IK prog w) kx) (k+1)))) Q E s:=by
    rw[e4]
    dsimp only
    refine wpAny_bind (wpAny_holding (wpAny_eqBool_tuple hu e3 hx ?_))
    refine wpAny_bind (wpAny_setState_of ho hd ht.fits ?_)
    dsimp only
    by_cases c:ki=kx
    ·subst c
     rw[decide_eq_true rfl]
     simp only[Bool.and_self,if_true]
     exact wpAny_pure (q1 (List.mem_of_getElem? e1))
    ·rw[decide_eq_false c]
     simp only[Bool.and_false,Bool.false_eq_true,if_false]
     have sm:t.sameMemory t.moves t.mask=some true:=by
      unfold sameMemory
      rw[if_pos (beq_self_eq_true _)]
     rw[sm]
     dsimp only
     rw[if_pos rfl,sl]
     dsimp only
     rw[e4]
     dsimp only
     refine wpAny_bind (wpAny_isSame_ref_self ?_)
     refine wpAny_bind (wpAny_pure ?_)
     rw[if_pos rfl]
     dsimp only
     refine UJ hu ht he ho hd hx Kg vH xK q1 q2 fuel (k+1) _ lt (by omega) rfl λk' i' hk' sl' ek=>?_
     rcases Nat.lt_trichotomy k' k with d|d|d
     ·rcases Nat.lt_or_ge k' k0 with d2|d2
      ·exact hno k' i' d2 sl' ek
      ·exact a3 k' d2 d i' sl' (hash i' kx ek)
     ·subst d
      rw[sl]at sl'
      cases sl'
      rw[e1]at ek
      exact c (Option.some.inj ek)
     ·omega
   cases hl:t.led
   ·rw[if_pos (show(!false)=true from rfl)]
    refine wpAny_bind (adN hx (λv hv=>?_) ?_)
    ·obtain⟨e,he',rfl⟩:=List.mem_map.mp hv
     have me:=(Array.mem_filter.mp (Array.mem_toList_iff.mp he')).1
     obtain⟨i',hi'⟩:=Array.mem_iff_getElem?.mp me
     obtain⟨k',p',_,z,z3⟩:=he.entry hi'
     exact⟨k',p',by rw[z],z3⟩
    ·rw[if_neg Bool.false_ne_true]
     exact rest
   ·rw[if_neg (show ¬((!true)=true)from λq=>Bool.false_ne_true q)]
    exact rest
end
end HS
end
section
namespace HS
open PySem PySem.SetTable
variable {prog:Program}{w:World}{A:Around}{E:Value->Shared->Prop}{s:Shared}
noncomputable def mK(prog:Program)(w:World)(h:Heap)(es:Array (Int × Value))(qs:List (Addr × List Int)):Prop :=
 qs.length=es.size/\∀(i:Nat) (z:Addr × List Int),qs[i]?=some z->es[i]?=some (tupleKeyHash (IK prog w) z.2,.ref z.1)/\IsTupleKey (IK prog w) h z.2 z.1
theorem mK.els{h:Heap}{es:Array (Int × Value)}{qs:List (Addr × List Int)}(he:mK prog w h es qs):DQ prog w h es (qs.map (·.2)):=by
 refine⟨by rw[List.length_map]; exact he.1,λi k q=>?_⟩
 rw[List.getElem?_map]at q
 cases hq:qs[i]? with
 |none=>rw[hq]at q; cases q
 |some z =>
  rw[hq]at q
  cases q
  exact⟨z.1,he.2 i z hq⟩
def SetT(prog:Program)(w:World)(h:Heap)(a:Addr)(ks:List (Addr × List Int)):Prop :=
 ∃o es ep t,h.get? a=some o/\o.ExactSet/\o.data=.set es ep t/\jw t es/\t.plain=true/\t.led = !(w.params.followText "set-order")/\mK prog w h es ks
theorem tup_ne{h:Heap}{a p:Addr}{k:List Int}{o:Obj}{es ep t}(ho:h.get? a=some o)(hd:o.data=.set es ep t)(x:IsTupleKey (IK prog w) h k p):p≠a:=by
 rintro rfl
 obtain⟨o',items,n,ho',hc,hd',hi⟩:=x
 rw[ho]at ho'
 cases ho'
 rw[hd]at hd'
 cases hd'
theorem adP{h h':Heap}{a p:Addr}{k:List Int}{o:Obj}{es ep t}(ho:h.get? a=some o)(hd:o.data=.set es ep t)(sb:Heap.SameBut a h h')(x:IsTupleKey (IK prog w) h k p):IsTupleKey (IK prog w) h' k p:=by
 have ne:=tup_ne ho hd x
 obtain⟨o',items,n,ho',hc,hd',hi⟩:=x
 exact⟨o',items,n,(sb.2 p ne).trans ho',hc,hd',hi⟩
theorem mK.keep{h h':Heap}{a:Addr}{o:Obj}{es es' ep t}{ks:List (Addr × List Int)}(ho:h.get? a=some o)(hd:o.data=.set es' ep t)(sb:Heap.SameBut a h h')(he:mK prog w h es ks):mK prog w h' es ks :=
 ⟨he.1,λi z q=>⟨(he.2 i z q).1,adP ho hd sb (he.2 i z q).2⟩⟩
theorem UL{h:Heap}{a:Addr}{o:Obj}{es:Array (Int × Value)}{ep:Nat}{t:SetTable}(es':Array (Int × Value))(t':SetTable)(ho:h.get? a=some o)(hd:o.data=.set es ep t):(h.update a (Obj.putSet es' t')).get? a=some {o with data:=.set es' (ep+1) t' }:=by
 have:=Heap.get?_update_self (Obj.putSet es' t') ho (by rw[putSet_of es' t' hd]; rfl)
 rwa[putSet_of es' t' hd]at this
theorem mK.ins{h:Heap}{es:Array (Int × Value)}{ks:List (Addr × List Int)}{k:List Int}{px:Addr}{p:Nat}(he:mK prog w h es ks)(hp:p<=es.size)(hx:IsTupleKey (IK prog w) h k px):mK prog w h (insertAt es p (tupleKeyHash (IK prog w) k,.ref px)) (ks.take p++(px,k)::ks.drop p):=by
 have hl:=he.1
 refine⟨?_,λi z q=>?_⟩
 ·rw[Kc _ _ _ hp]
  simp
  omega
 ·rw[Hh (px,k) (by omega)]at q
  rw[DN _ _ _ hp]
  split at q
  ·rename_i c; rw[if_pos c]; exact he.2 i z q
  ·rename_i c
   rw[if_neg c]
   split at q
   ·rename_i d
    cases q
    rw[if_pos d]
    exact⟨rfl,hx⟩
   ·rename_i d
    rw[if_neg d]
    exact he.2 (i-1) z q
theorem mK.perm{h:Heap}{es es':Array (Int × Value)}{ks:List (Addr × List Int)}(he:mK prog w h es ks)(hp:es'.toList.Perm es.toList):∃ks',mK prog w h es' ks'/\ks'.Perm ks:=by
 have g:∀(l l':List (Int × Value)) (ks:List (Addr × List Int)),l.Perm l'->(ks.length=l.length/\∀(i:Nat) (z:Addr × List Int),ks[i]?=some z->l[i]?=some (tupleKeyHash (IK prog w) z.2,.ref z.1)/\IsTupleKey (IK prog w) h z.2 z.1)->∃ks':List (Addr × List Int),(ks'.length=l'.length/\∀(i:Nat) (z:Addr × List Int),ks'[i]?=some z->l'[i]?=some (tupleKeyHash (IK prog w) z.2,.ref z.1)/\IsTupleKey (IK prog w) h z.2 z.1)/\ks'.Perm ks:=by
  intro l l' ks p
  induction p generalizing ks with
  |nil=>exact λz=>⟨ks,z,.refl _⟩
  |cons x p ih =>
   rintro⟨z1,z2⟩
   cases ks with
   |nil=>cases z1
   |cons k ks =>
    obtain⟨ks',⟨w1,w2⟩,w3⟩:=ih ks ⟨Nat.succ.inj z1,λi k' q=>z2 (i+1) k' q⟩
    refine⟨k::ks',⟨congrArg (· + 1) w1,λi k' q=>?_⟩,w3.cons k⟩
    cases i with
    |zero=>exact z2 0 k' q
    |succ i=>exact w2 i k' q
  |swap x y l =>
   rintro⟨z1,z2⟩
   match ks,z1 with
   |k1::k2::ks,z1 =>
    refine⟨k2::k1::ks,⟨z1,λi k' q=>?_⟩,.swap ..⟩
    match i with
    | 0=>exact z2 1 k' q
    | 1=>exact z2 0 k' q
    |i+2=>exact z2 (i+2) k' q
  |trans p1 p2 ih1 ih2 =>
   intro z
   obtain⟨k1,z1,q1⟩:=ih1 ks z
   obtain⟨k2,z2,q2⟩:=ih2 k1 z1
   exact⟨k2,z2,q2.trans q1⟩
 obtain⟨ks',⟨a,b⟩,c⟩:=g es.toList es'.toList ks hp.symm ⟨by rw[he.1,Array.length_toList],λi z q=>by rw[Array.getElem?_toList]; exact he.2 i z q⟩
 exact⟨ks',⟨by rw[a,Array.length_toList],λi z q=>by rw[<-Array.getElem?_toList]; exact b i z q⟩,c⟩
theorem adQ{a px:Addr}{k:List Int}{ks:List (Addr × List Int)}{Q:Bool->Shared->Prop}(hu:A.units<cLine)(hS:SetT prog w s.heap a ks)(hx:IsTupleKey (IK prog w) s.heap k px)(hn:ks.length<70)
  (h:∀h' ks',Heap.SameBut a s.heap h'->SetT prog w h' a ks'->(if k∈ks.map (·.2)then ks'=ks else ks'.Perm ((px,k)::ks))->∀b,Q b {s with heap:=h' }):wpAny (model prog w) A (setAddHashed a (.ref px) (tupleKeyHash (IK prog w) k)) Q E s:=by
 obtain⟨o,es,ep,t,ho,hex,hd,ht,hp,Kh,he⟩:=hS
 obtain⟨K,Kg,vH,UW,xK⟩:=adE ht.m ht.d ht.r ht.le (tupleKeyHash (IK prog w) k)
 have hln:=he.1
 unfold setAddHashed setAddHashedIn
 refine wpAny_holding (wpAny_bind (wpAny_setState_of ho hd ht.fits ?_))
 dsimp only
 have bs:byScan (.ref px) es=false:=rfl
 rw[bs]
 simp only[Bool.false_eq_true,if_false]
 refine wpAny_bind ?_
 unfold setSearch
 refine UJ hu ht he.els ho hd hx Kg vH xK (λm=>?_) (λm=>?_) 100000 0 none (Nat.zero_le _) (by
  have:t.mask<=127:=by rcases ht.m with z|z|z <;> omega
  omega) rfl λk' i hk'=>by omega
 ·dsimp only
  refine wpAny_pure ?_
  have e:s={s with heap:=s.heap }:=by cases s; rfl
  rw[e]
  exact h s.heap ks (Heap.SameBut.refl a s.heap) ⟨o,es,ep,t,ho,hex,hd,ht,hp,Kh,he⟩ (by rw[if_pos m]) _
 ·dsimp only
  refine wpAny_bind (wpAny_setState_of ho hd ht.fits ?_)
  dsimp only
  have pe:t.put (P t.mask (tupleKeyHash (IK prog w) k) K).j=({t with place:=insertAt t.place (below t.place (P t.mask (tupleKeyHash (IK prog w) k) K).j) (P t.mask (tupleKeyHash (IK prog w) k) K).j,dummies:=#[] },below t.place (P t.mask (tupleKeyHash (IK prog w) k) K).j):=by
   unfold SetTable.put
   dsimp only
   have:SetTable.has t.dummies (P t.mask (tupleKeyHash (IK prog w) k) K).j=false:=by rw[ht.d]; rfl
   rw[this,ht.d]
   rfl
  have w1:=adG (x:=.ref px) ht UW λk' hk'=>(xK k' hk').imp λ_ z=>z.2
  have r1:=adF ht.r UW
  have b1:=(vG ht.r (P t.mask (tupleKeyHash (IK prog w) k) K).j).1
  have b2:below t.place (P t.mask (tupleKeyHash (IK prog w) k) K).j<=es.size:=by rw[<-ht.sz]; exact b1
  have s1:=Kc es _ (tupleKeyHash (IK prog w) k,Value.ref px) b2
  have s2:=Kc t.place _ (P t.mask (tupleKeyHash (IK prog w) k) K).j b1
  have el:=he.ins b2 hx
  have pk:(ks.take (below t.place (P t.mask (tupleKeyHash (IK prog w) k) K).j)++(px,k)::ks.drop (below t.place (P t.mask (tupleKeyHash (IK prog w) k) K).j)).Perm ((px,k)::ks):=by
   have:(ks.take (below t.place (P t.mask (tupleKeyHash (IK prog w) k) K).j)++(px,k)::ks.drop (below t.place (P t.mask (tupleKeyHash (IK prog w) k) K).j)).Perm ((px,k)::(ks.take _++ks.drop _)):=List.perm_middle
   rwa[List.take_append_drop]at this
  rw[pe]
  dsimp only
  generalize below t.place (P t.mask (tupleKeyHash (IK prog w) k) K).j=p at *
  generalize hes:insertAt es p (tupleKeyHash (IK prog w) k,Value.ref px)=es1 at *
  generalize hpl:insertAt t.place p (P t.mask (tupleKeyHash (IK prog w) k) K).j=nJ at *
  generalize ks.take p++(px,k)::ks.drop p=ks1 at *
  rw[if_pos hp]
  refine wpAny_bind (adO hx ?_)
  rw[if_pos rfl]
  have adR:({t with place:=nJ,dummies:=#[] }:SetTable).tooFull=decide ((es.size+1)*5 >= t.mask*3):=by
   unfold SetTable.tooFull SetTable.fill
   show decide ((nJ.size+0)*5 >= t.mask*3)=_
   rw[s2,ht.sz,Nat.add_zero]
  rw[adR]
  have hz:es1.size<=sizeLine:=by rw[s1,sizeLine_eq]; omega
  refine wpAny_bind (wpAny_storeSet_of ho hd ?_ hz)
  have sb:=Heap.SameBut.update s.heap a (Obj.putSet es1 {t with place:=nJ,dummies:=#[] })
  have ho1:=UL es1 {t with place:=nJ,dummies:=#[] } ho hd
  have el1:=el.keep ho hd sb
  have np:¬(k∈ks.map (·.2)):=m
  by_cases c:(es.size+1)*5 >= t.mask*3
  ·rw[decide_eq_true c]
   simp only[Bool.not_false,Bool.and_self,if_true]
   have adS:∃M,pI M/\sizeAbove (grown (es.size+1))-1=M/\es1.size*5<M*3:=by
    have fl:=ht.fl
    rcases ht.m with z|z|z
    ·refine⟨31,.inr (.inl rfl),?_,by rw[s1]; omega⟩
     obtain e:es.size=4:=by omega
     rw[e]
     decide
    ·refine⟨127,.inr (.inr rfl),?_,by rw[s1]; omega⟩
     obtain e:es.size=18:=by omega
     rw[e]
     decide
    ·omega
   obtain⟨M,hM,hw,hfl⟩:=adS
   obtain⟨t2,order,e1,e2,e3,e4,e5,e6⟩:=adL (t:={t with place:=nJ,dummies:=#[] }) (es:=es1) hM hw hfl
   refine wpAny_bind ?_
   unfold setRelay
   have ft:({t with place:=nJ,dummies:=#[] }:SetTable).fits es1.size=true:=by
    unfold SetTable.fits SetTable.fill
    show((nJ.size == es1.size)&&decide (nJ.size+0<=t.mask))=true
    rw[s2,s1,ht.sz,Bool.and_eq_true]
    have fl:=ht.fl
    exact⟨beq_self_eq_true _,decide_eq_true (by omega)⟩
   refine wpAny_bind (wpAny_setState_of ho1 rfl ft ?_)
   dsimp only
   have hsl:¬(sizeAbove (grown (es.size+1)) > sizeLine):=by
    rw[sizeLine_eq]
    rcases hM with z|z|z <;> omega
   rw[if_neg hsl]
   refine wpAny_bind ?_
   show wpAny _ _ (do
    let some (t,order):=(({t with place:=nJ,dummies:=#[] }:SetTable).relaid (es1.map (·.1)) (grown (es.size+1)))|unsupported "internal:set-table-without-room"
    let es':=order.filterMap (es1[·]?)
    if es'.size != es1.size then unsupported "internal:set-table-lost-an-element"
    pure (es',t)) _ _ _
   rw[e1]
   dsimp only
   rw[e2,if_neg (by simp)]
   refine wpAny_pure ?_
   dsimp only
   have hz2:(order.filterMap (es1[·]?)).size<=sizeLine:=by rw[e2]; exact hz
   refine wpAny_storeSet_of ho1 rfl ?_ hz2
   refine wpAny_pure ?_
   have DW:=Heap.SameBut.update (s.heap.update a (Obj.putSet es1 {t with place:=nJ,dummies:=#[] })) a (Obj.putSet (order.filterMap (es1[·]?)) t2)
   obtain⟨ks2,el2,Km⟩:=(el1.keep ho1 rfl DW).perm e6
   refine h _ ks2 (sb.trans DW) ⟨_,_,_,t2,UL _ t2 ho1 rfl,hex,rfl,e3,e5.trans hp,e4.trans Kh,el2⟩ ?_ _
   rw[if_neg np]
   exact Km.trans pk
  ·rw[decide_eq_false c]
   simp only[Bool.not_false,Bool.and_false,Bool.false_eq_true,if_false]
   refine wpAny_pure (h _ ks1 sb ⟨_,_,_,_,ho1,hex,rfl,⟨ht.m,rfl,r1,by show nJ.size=es1.size; rw[s1,s2,ht.sz],by rw[s1]; exact Nat.not_le.mp c,w1⟩,hp,Kh,el1⟩ ?_ _)
   rw[if_neg np]
   exact pk
end HS
end
section
namespace HS
open PySem PySem.SetTable
variable {prog:Program}{w:World}{A:Around}{E:Value->Shared->Prop}{s:Shared}
theorem SetT.typeIs{a:Addr}{ks:List (Addr × List Int)}(h:SetT prog w s.heap a ks):s.TypeIs (.ref a) "set" := by
 obtain⟨o,_,_,_,ho,hex,_⟩:=h
 exact⟨o,ho,hex.1⟩
theorem adT{a px:Addr}{k:List Int}{ks:List (Addr × List Int)}{Q:Value->Shared->Prop}(hu:A.in1.units<cLine)(hS:SetT prog w s.heap a ks)(hx:IsTupleKey (IK prog w) s.heap k px)(hn:ks.length<70)
  (h:∀h' ks' tk,Heap.SameBut a s.heap h'->SetT prog w h' a ks'->(if k∈ks.map (·.2)then ks'=ks else ks'.Perm ((px,k)::ks))->Q .none {s with heap:=h',toks:=tk }) :
  wpAny (model prog w) A (call (.builtin "set.add") [.ref a,.ref px]) Q E s:=by
 refine wpAny_call_entry F.slot_set_add hS.typeIs F.entry_set_add ?_ (F.args_set_add_2 _ _)
 unfold Builtin.«set.add» Builtin.Frozenset.oneOther Builtin.Frozenset.addrOf setAdd
 simp only[bind_assoc,List.isEmpty_nil]
 refine wpAny_bind (wpAny_pure (wpAny_bind (wpAny_pure (wpAny_bind (wpAny_holding ?_)))))
 refine wpAny_bind (wpAny_pyHash_tuple hu hx ?_)
 refine adQ (s:={s with toks:=_ }) hu hS hx hn λh' ks' a1 a2 a3 b=>?_
 show wpAny _ _ (ret Value.none) _ _ _
 exact wpAny_pure ⟨_,rfl,h h' ks' _ a1 a2 a3⟩
theorem U0{h:Heap}:SetT prog w (h.push {cls:=.type "set",dict:=none,data:=.set #[] 0 (.fresh 0 0 (!(w.params.followText "set-order"))) }) h.objs.size [] :=
 ⟨_,#[],0,.fresh 0 0 _,Heap.get?_push_size _ rfl,⟨rfl,rfl,rfl⟩,rfl,⟨.inl rfl,rfl,λi k v w _ a=>(by cases a),rfl,by show 0*5<7*3; omega,λi e q=>(by cases q)⟩,rfl,rfl,rfl,λi k q=>(by cases q)⟩
end HS
end
section
namespace HS
open PySem PySem.SetTable
variable {prog:Program}{w:World}{A:Around}{E:Value->Shared->Prop}{s:Shared}
theorem U3{α : Type}:∀{l:List α} {i:Nat} {x : α},l[i]?=some x->(x::l.eraseIdx i).Perm l
 | [],i,x,h=>(by cases h)
 |y::l,0,x,h=>by cases h; exact .refl _
 |y::l,i+1,x,h=>by
  rw[List.eraseIdx_cons_succ]
  exact(List.Perm.swap y x _).trans ((U3 (l:=l) h).cons y)
theorem U4{α : Type}(next:Nat->Nat):∀(fuel k:Nat) (left:List α) (out:Array α),left.length<=fuel->(pickOrder.go next fuel k left out).toList.Perm (out.toList++left)
 | 0,k,left,out,h=>by
  obtain rfl:left=[]:=List.eq_nil_of_length_eq_zero (by omega)
  unfold pickOrder.go
  rw[List.append_nil]
 |fuel+1,k,left,out,h=>by
  unfold pickOrder.go
  cases hv:left[next k%left.length]? with
  |none =>
   dsimp only
   have:left=[]:=by
    cases left with
    |nil=>rfl
    |cons x l=>rw[List.getElem?_eq_getElem (Nat.mod_lt _ (by simp))]at hv; cases hv
   rw[this,List.append_nil]
  |some x =>
   dsimp only
   obtain⟨hl,e⟩:=List.getElem?_eq_some_iff.mp hv
   have q:=U4 next fuel (k+1) (left.eraseIdx (next k%left.length)) (out.push x) (by rw[List.length_eraseIdx,if_pos hl]; omega)
   refine q.trans ?_
   rw[Array.toList_push,List.append_assoc]
   refine List.Perm.append_left _ ?_
   exact U3 hv
theorem adU{α : Type}(next:Nat->Nat)(xs:Array α):(pickOrder next xs).toList.Perm xs.toList:=by
 have:=U4 next xs.size 0 xs.toList #[] (by rw[Array.length_toList]; exact Nat.le_refl _)
 exact this
def iG(w:World)(a:Addr)(ep:Nat)(es:Array (Int × Value)):Array (Int × Value):=if w.params.followText "set-order" = true then pickOrder (w.params.setOrder a ep) es else es
theorem DX(w:World)(a:Addr)(ep:Nat)(es:Array (Int × Value)):(iG w a ep es).toList.Perm es.toList:=by
 unfold iG
 split
 ·exact adU _ _
 ·exact .refl _
theorem byText{Q:Bool->Shared->Prop}(h:Q (w.params.followText "set-order") s):wpAny (model prog w) A setsByText Q E s:=by
 unfold setsByText
 exact wpAny_bind (wpAny_askSetting (wpAny_pure h))
section
variable {a:Addr}{o:Obj}{es:Array (Int × Value)}{ep:Nat}{t:SetTable}
theorem adV{Q:Array (Int × Value)->Shared->Prop}(ho:s.heap.get? a=some o)(hd:o.data=.set es ep t)(ht:jw t es)(hp:t.plain=true)(hl:t.led = !(w.params.followText "set-order")) (h:Q (iG w a ep es) s):wpAny (model prog w) A (setWalk a) Q E s:=by
 unfold setWalk
 refine wpAny_bind (wpAny_setState_of ho hd ht.fits ?_)
 dsimp only
 refine wpAny_bind (byText ?_)
 unfold iG at h
 cases hb:w.params.followText "set-order"
 ·rw[hb]at h hl
  rw[if_neg Bool.false_ne_true]at h ⊢
  show wpAny _ _ (if(!t.plain&&decide (es.size > 1))=true then _ else _) _ _ _
  rw[hp,if_neg (by simp)]
  show wpAny _ _ ((if(!t.led&&decide (es.size > 1))=true then _ else pure ()) >>= λ_=>pure es) _ _ _
  rw[hl,if_neg (by simp)]
  exact wpAny_bind (wpAny_pure (wpAny_pure h))
 ·rw[hb]at h
  rw[if_pos rfl]at h ⊢
  exact wpAny_bind (wpAny_askSetting (wpAny_pure h))
theorem adW(xs:Array Nat)(hr:mJ xs):below xs 0=0:=by
 obtain⟨h1,h2,_⟩:=vG hr 0
 rcases Nat.eq_zero_or_pos (below xs 0)with c|c
 ·exact c
 ·have:=h2 0 _ c (Array.getElem?_eq_getElem (by omega))
  omega
theorem adX{xs:Array Nat}(hr:mJ xs){i v:Nat}(e:xs[i]?=some v):below xs (v+1)=i+1:=by
 obtain⟨h1,h2,h3⟩:=vG hr (v+1)
 have hi:i<xs.size:=by
  rcases Nat.lt_or_ge i xs.size with q|q
  ·exact q
  ·rw[Array.getElem?_eq_none q]at e; cases e
 rcases Nat.lt_trichotomy (below xs (v+1)) (i+1)with c|c|c
 ·have:=h3 i v (by omega) e
  omega
 ·exact c
 ·have q:xs[i+1]?=some xs[i+1]:=Array.getElem?_eq_getElem (by omega)
  have a:=h2 (i+1) _ c q
  have b:=hr i (i+1) v _ (by omega) e q
  omega
def Std(w:World)(t:SetTable)(slot i:Nat):Prop:=w.params.followText "set-order" = true\/below t.place slot=i
theorem U5{slot i:Nat}{Q:Option (Value × Nat)->Shared->Prop}(ho:s.heap.get? a=some o)(hd:o.data=.set es ep t)(ht:jw t es)(hp:t.plain=true)(hl:t.led = !(w.params.followText "set-order")) (hs:Std w t slot i)
  (h1:∀e zL,(iG w a ep es)[i]?=some e->Std w t zL (i+1)->Q (some (e.2,zL)) s) (h2:(iG w a ep es)[i]?=none->Q none s):wpAny (model prog w) A (setNext a slot i ep) Q E s:=by
 unfold setNext
 refine wpAny_bind (wpAny_setState_of ho hd ht.fits ?_)
 dsimp only
 refine wpAny_bind (byText ?_)
 cases hb:w.params.followText "set-order"
 ·rw[if_neg Bool.false_ne_true]
  have or:iG w a ep es=es:=by unfold iG; rw[hb]; rfl
  rw[or]at h1 h2
  have hs':below t.place slot=i:=hs.resolve_left (by rw[hb]; exact Bool.false_ne_true)
  show wpAny _ _ (if(!t.plain&&decide (es.size > 1))=true then _ else _) _ _ _
  rw[hp,if_neg (by simp)]
  show wpAny _ _ ((if(!t.led && !es.isEmpty)=true then _ else pure ()) >>= λ_=>pure (match es[below t.place slot]?,t.place[below t.place slot]? with|some (_,x),some j=>some (x,j+1)|_,_=>none)) _ _ _
  rw[hl,hb,if_neg (by simp),hs']
  refine wpAny_bind (wpAny_pure (wpAny_pure ?_))
  rcases Nat.lt_or_ge i es.size with c|c
  ·have e1:es[i]?=some es[i]:=Array.getElem?_eq_getElem c
   have c':i<t.place.size:=by rw[ht.sz]; exact c
   have e2:t.place[i]?=some t.place[i]:=Array.getElem?_eq_getElem c'
   rw[e1,e2]
   exact h1 _ _ e1 (.inr (adX ht.r e2))
  ·have e1:es[i]?=none:=Array.getElem?_eq_none c
   rw[e1]
   exact h2 e1
 ·rw[if_pos rfl,if_neg (by simp)]
  refine wpAny_bind (adV ho hd ht hp hl (wpAny_pure ?_))
  cases hv:(iG w a ep es)[i]? with
  |none=>exact h2 hv
  |some e=>exact h1 e slot hv (.inl hb)
end
end HS
end
section
namespace HS
open PySem PySem.SetTable
theorem Ko:typeLookup (.type "set_iterator") "__next__" = pure (some (.builtin "set_iterator.__next__")):=by
 rw[typeLookup_type,builtinLookup_eq_fast]
 kernel_rfl
theorem U6:isSubtype (.type "set_iterator") (.type "set_iterator")=pure true:=by
 rw[isSubtype_type]
 kernel_rfl
theorem DY:Slot "set_iterator" "__next__" "set_iterator.__next__" :=
 Slot.of (n := "__next__") Ko (owner := "set_iterator") (by decide +kernel) (by decide +kernel) (by decide +kernel) (Or.inl (by decide +kernel)) U6
theorem U7:entryFor table "set_iterator.__next__" = some Builtin.«set_iterator.__next__» := entryFor_of_tree (by kernel_rfl)
theorem adY:typeLookup (.type "set_iterator") "__iter__" = pure (some (.builtin "set_iterator.__iter__")):=by
 rw[typeLookup_type,builtinLookup_eq_fast]
 kernel_rfl
theorem U8:Slot "set_iterator" "__iter__" "set_iterator.__iter__" :=
 Slot.of (n := "__iter__") adY (owner := "set_iterator") (by decide +kernel) (by decide +kernel) (by decide +kernel) (Or.inl (by decide +kernel)) U6
theorem adZ:entryFor table "set_iterator.__iter__" = some Builtin.«dict_keyiterator.__iter__» :=
 entryFor_alias (by kernel_rfl) (id' := "dict_keyiterator.__iter__") rfl (by decide +kernel) (by kernel_rfl)
theorem ad0(x:Value):argsOk "set_iterator.__iter__" ⟨[x],[]⟩:=by
 have e:Manifest.signature? "set_iterator.__iter__" = _:=signature?_of (n := "__reti__".toList) (o := "rotareti_tes".toList) (by kernel_rfl) (rows:=(Manifest.owners.lookup "set_iterator").get (by decide +kernel)) (by kernel_rfl)
 unfold argsOk
 rw[e]
 kernel_rfl
theorem ad1:entryFor table "set.__iter__" = some Builtin.«frozenset.__iter__» :=
 entryFor_alias (by kernel_rfl) (id' := "frozenset.__iter__") rfl (by decide +kernel) (by kernel_rfl)
theorem U9(x:Value):argsOk "set_iterator.__next__" ⟨[x],[]⟩:=by
 have e:Manifest.signature? "set_iterator.__next__" = _:=signature?_of (n := "__txen__".toList) (o := "rotareti_tes".toList) (by kernel_rfl) (rows:=(Manifest.owners.lookup "set_iterator").get (by decide +kernel)) (by kernel_rfl)
 unfold argsOk
 rw[e]
 kernel_rfl
section
variable {prog:Program}{w:World}{A:Around}{E:Value->Shared->Prop}{s:Shared}{a it:Addr}{o:Obj}{es:Array (Int × Value)}{ep:Nat}{t:SetTable}
noncomputable def kO(w:World)(t:SetTable)(a it:Addr)(n ep:Nat)(h:Heap)(i:Nat):Prop:=∃(slot:Nat) (u1 u2 u3 u4:Tok),h.get? it=some {cls:=.type "set_iterator",dict:=none,data:=.fields #[.int slot u1,.int i u2,.ref a,.int n u3,.int ep u4],slots:=#[] }/\Std w t slot i
theorem kO.typeIs{n i:Nat}(h:kO w t a it n ep s.heap i):s.TypeIs (.ref it) "set_iterator" := by
 obtain⟨_,_,_,_,_,e,_⟩:=h
 exact⟨_,e,rfl⟩
theorem ad2{i:Nat}{e:Int × Value}{Q:Option Value->Shared->Prop}(ho:s.heap.get? a=some o)(hd:o.data=.set es ep t)(ht:jw t es)(hp:t.plain=true)(hl:t.led = !(w.params.followText "set-order")) (hi:kO w t a it es.size ep s.heap i) (he:(iG w a ep es)[i]?=some e)
  (h:∀h',kO w t a it es.size ep h' (i+1)->Heap.SameBut it s.heap h'->Q (some e.2) {s with heap:=h' }):wpAny (model prog w) A (pyNext (.ref it)) Q E s:=by
 have hT:=hi.typeIs
 obtain⟨slot,u1,u2,u3,u4,hit,st⟩:=hi
 unfold pyNext
 refine wpAny_bind (wpAny_attempt (wpAny_callSpecial?_slot (name:=Str.ofString "__next__") hT DY (wpAny_call_entry DY hT U7 ?_ (U9 _))))
 show wpAny _ _ (fieldsOf (.ref it) >>= _) _ _ s
 refine wpAny_bind (wpAny_fieldsOf hit rfl ?_)
 dsimp only
 refine wpAny_bind (wpAny_setEntries_of ho hd ht.fits ?_)
 rw[if_neg (by simp),Int.toNat_natCast,Int.toNat_natCast,Int.toNat_natCast]
 refine wpAny_bind (U5 ho hd ht hp hl st (λe' zL q st'=>?_) λq=>?_)
 ·rw[he]at q
  cases q
  dsimp only
  refine wpAny_bind (wpAny_setField_rec hit (show 0<5 by omega) λh1 e1 Kp=>?_)
  refine wpAny_bind (wpAny_setField_rec (s:={s with heap:=h1 }) e1 (show 1<5 by omega) λh2 e2 DW=>?_)
  exact wpAny_pure ⟨_,rfl,wpAny_pure (h h2 ⟨zL,_,_,_,_,e2,st'⟩ (Kp.trans DW))⟩
 ·rw[he]at q
  cases q
end
section
variable {prog:Program}{w:World}{A:Around}{E:Value->Shared->Prop}{s:Shared}{a it:Addr}{o:Obj}{es:Array (Int × Value)}{ep:Nat}{t:SetTable}
theorem ad3:isSubtype (.type "StopIteration") (.type "StopIteration")=pure true:=by
 rw[isSubtype_type]
 kernel_rfl
theorem ad4{i:Nat}{Q:Option Value->Shared->Prop}(hh:A.handled=none)(ho:s.heap.get? a=some o)(hd:o.data=.set es ep t)(ht:jw t es)(hp:t.plain=true)(hl:t.led = !(w.params.followText "set-order")) (hi:kO w t a it es.size ep s.heap i) (he:(iG w a ep es)[i]?=none)
  (h:∀h',Heap.ExtBut it s.heap h'->Q none {s with heap:=h' }):wpAny (model prog w) A (pyNext (.ref it)) Q E s:=by
 have hT:=hi.typeIs
 obtain⟨slot,u1,u2,u3,u4,hit,st⟩:=hi
 unfold pyNext
 refine wpAny_bind (wpAny_attempt (wpAny_callSpecial?_slot (name:=Str.ofString "__next__") hT DY (wpAny_call_entry DY hT U7 ?_ (U9 _))))
 show wpAny _ _ (fieldsOf (.ref it) >>= _) _ _ s
 refine wpAny_bind (wpAny_fieldsOf hit rfl ?_)
 dsimp only
 refine wpAny_bind (wpAny_setEntries_of ho hd ht.fits ?_)
 rw[if_neg (by simp),Int.toNat_natCast,Int.toNat_natCast,Int.toNat_natCast]
 refine wpAny_bind (U5 ho hd ht hp hl st (λe' zL q st'=>?_) λq=>?_)
 ·rw[he]at q
  cases q
 ·dsimp only
  refine wpAny_bind (wpAny_setField_rec hit (show 2<5 by omega) λh1 e1 Kp=>?_)
  unfold newExc newTuple
  refine wpAny_bind (wpAny_bind (wpAny_newObj_type ?_))
  refine wpAny_bind (m:=firstArgMember _ _) ?_
  refine wpAny_of_eq (a:=Value.none) rfl ?_
  refine wpAny_newObj_type ?_
  unfold raiseNew
  have hh':A.in1.handled=none:=hh
  refine wpAny_bind (wpAny_handled ?_)
  rw[hh']
  refine wpAny_bind (wpAny_pure ?_)
  refine wpAny_throw (wpAny_bind (wpAny_isInstance (b:=true) (T := "StopIteration") ⟨_,Heap.get?_push_size _ rfl,rfl⟩ ad3 ?_))
  refine wpAny_pure (h _ ?_)
  exact(Kp.extBut.push _).push _
theorem ad5(hh:A.handled=none)(ne:a≠it)(hd:o.data=.set es ep t)(ht:jw t es)(hp:t.plain=true)(hl:t.led = !(w.params.followText "set-order")) :
  WalksS prog w A it [a,it] [it] (λx y=>x=y) es.size (λi v=>∃e,(iG w a ep es)[i]?=some e/\v=e.2) (λi s=>s.heap.get? a=some o/\kO w t a it es.size ep s.heap i) where
 sub:=λb hb=>List.mem_cons_of_mem _ hb
 grefl:=λ_=>rfl
 gtrans:=λ_ _ _ x y=>x.trans y
 frame:=λi s h' tk st _ k=>by
  obtain⟨e1,slot,u1,u2,u3,u4,e2,st⟩:=st
  exact⟨k a (List.mem_cons_self ..) _ e1,slot,u1,u2,u3,u4,k it (by simp) _ e2,st⟩
 item:=λi s Q E hi st hQ=>by
  have sz:(iG w a ep es).size=es.size:=by
   have:=(DX w a ep es).length_eq
   rwa[Array.length_toList,Array.length_toList]at this
  have he:(iG w a ep es)[i]?=some (iG w a ep es)[i]:=Array.getElem?_eq_getElem (by omega)
  refine ad2 st.1 hd ht hp hl st.2 he λh' a1 a2=>hQ _ _ ⟨_,he,rfl⟩ ⟨(a2.2 a ne).trans st.1,a1⟩ ⟨λb o nb e=>?_,rfl,rfl,rfl,Nat.le_refl _⟩
  exact(a2.2 b λq=>nb (by rw[q]; exact List.mem_cons_self ..)).trans e
 done:=λs Q E st hQ=>by
  have sz:(iG w a ep es).size=es.size:=by
   have:=(DX w a ep es).length_eq
   rwa[Array.length_toList,Array.length_toList]at this
  refine ad4 hh st.1 hd ht hp hl st.2 (Array.getElem?_eq_none (by omega)) λh' x=>hQ _ ⟨λb o nb e=>?_,rfl,rfl,rfl,Nat.le_refl _⟩
  exact x b o (λq=>nb (by rw[q]; exact List.mem_cons_self ..)) e
 self:=λi s Q E st h=>wpAny_pyIter_slot st.2.typeIs U8 (wpAny_call_entry U8 st.2.typeIs adZ (wpAny_pure ⟨_,rfl, "set_iterator",_,st.2.typeIs,Ko,h⟩) (ad0 _))
end
section
variable {prog:Program}{w:World}{A:Around}{E:Value->Shared->Prop}{s:Shared}{a:Addr}{o:Obj}{es:Array (Int × Value)}{ep:Nat}{t:SetTable}
theorem ad6{Q:Value->Shared->Prop}(ho:s.heap.get? a=some o)(hex:o.ExactSet)(hd:o.data=.set es ep t)(ht:jw t es)(hp:t.plain=true)
  (h:∀h',(∀b o,s.heap.get? b=some o->h'.get? b=some o)->kO w t a s.heap.objs.size es.size ep h' 0->Q (.ref s.heap.objs.size) {s with heap:=h' }):wpAny (model prog w) A (pyIter (.ref a)) Q E s:=by
 have hT:s.TypeIs (.ref a) "set" := ⟨o,ho,hex.1⟩
 refine wpAny_pyIter_slot hT F.slot_set_iter (wpAny_call_entry F.slot_set_iter hT ad1 ?_ (F.args_set_iter_1 _))
 unfold Builtin.«frozenset.__iter__» Builtin.Frozenset.slot0 slotArgs Builtin.Frozenset.addrOf Builtin.Frozenset.sizeOf
 simp only[bind_assoc,List.isEmpty_nil,List.length_nil,bne_self_eq_false,↓reduceIte,Bool.not_true,Bool.false_eq_true]
 refine wpAny_bind (wpAny_pure (wpAny_bind (wpAny_pure (wpAny_bind (wpAny_setEntries_of ho hd ht.fits (wpAny_bind (wpAny_pure ?_)))))))
 unfold setDrawn
 refine wpAny_bind (wpAny_bind (wpAny_setState_of ho hd ht.fits ?_))
 dsimp only
 refine wpAny_bind (byText (wpAny_pure ?_))
 show wpAny _ _ (if(!(w.params.followText "set-order")&&(!t.plain&&decide (es.size > 1)))=true then _ else _) _ _ _
 rw[hp,if_neg (by simp)]
 refine wpAny_bind (wpAny_pure (wpAny_bind (wpAny_setEpoch_of ho hd ht.fits (wpAny_bind ?_))))
 unfold newFields
 refine wpAny_newObj_type (wpAny_pure ⟨_,rfl, "set_iterator",_,⟨_,Heap.get?_push_size _ rfl,rfl⟩,Ko,h _ (λb o e=>Heap.get?_push_of_some _ e) ⟨0,_,_,_,_,Heap.get?_push_size _ rfl,.inr (adW _ ht.r)⟩⟩)
theorem ad7{Q:Bool->Shared->Prop}(hT:s.TypeIs (.ref a) "set") (h:Q false s):wpAny (model prog w) A (Builtin.List.listLengthHint (.ref a)) Q E s:=by
 unfold Builtin.List.listLengthHint
 refine wpAny_bind (wpAny_specialOf hT F.slot_set_len.lookup ?_)
 dsimp only
 rw[show splitId "set.__len__" = some ("set", "__len__") by decide +kernel]
 dsimp only
 refine wpAny_bind (wpAny_isInstance hT sub_set_self ?_)
 rw[if_neg (by decide),if_pos (by decide +kernel)]
 exact wpAny_bind (wpAny_typeOf hT (wpAny_pure h))
theorem ad8{Q:List Value->Shared->Prop}(hh:A.handled=none)(ho:s.heap.get? a=some o)(hex:o.ExactSet)(hd:o.data=.set es ep t)(ht:jw t es)(hp:t.plain=true)(hl:t.led = !(w.params.followText "set-order")) (hz:es.size<=100)
  (h:∀s' vs,Moved [] (λx y=>x=y) s s'->vs=(iG w a ep es).toList.map (·.2)->Q vs s'):wpAny (model prog w) A (collect (.ref a)) Q E s:=by
 have ha:a<s.heap.objs.size:=Heap.lt_size ho
 have hT:s.TypeIs (.ref a) "set" := ⟨o,ho,hex.1⟩
 unfold collect
 refine wpAny_bind (wpAny_runValue (codeAny_builtin F.entry_proto_collect ?_))
 rw[Around.under_plainId F.plain_proto_collect _]
 show wpAny _ A.in1 (newList [] >>= λl=>again _) _ _ s
 refine wpAny_bind (wpAny_newObj_type (wpAny_pure ⟨plainId_quiet F.plain_list_iadd _,codeAny_builtin F.entry_list_iadd ?_⟩))
 rw[Around.under_plainId F.plain_list_iadd _]
 show wpAny _ A.in1 (Builtin.List.listExtendWith (.ref s.heap.objs.size) (.ref a) _) _ _ _
 unfold Builtin.List.listExtendWith
 have ho1:=Heap.get?_push_of_some {cls:=.type "list",data:=.seq ([]:List Value).toArray } ho
 refine wpAny_bind (wpAny_typeOf (T := "set") ⟨o,ho1,hex.1⟩ ?_)
 have h1:Builtin.List.listSameRef (.ref s.heap.objs.size) (.ref a)=false:=by
  show(s.heap.objs.size == a)=false
  rw[beq_eq_false_iff_ne]
  exact Nat.ne_of_gt ha
 rw[if_neg (by rw[h1]; decide)]
 refine wpAny_bind (ad6 (s:={s with heap:=s.heap.push _ }) ho1 hex hd ht hp λh2 k2 i2=>?_)
 have Dl:(s.heap.push {cls:=.type "list",data:=.seq ([]:List Value).toArray }).objs.size=s.heap.objs.size+1:=Heap.size_push ..
 have i2:kO w t a (s.heap.objs.size+1) es.size ep h2 0:=Dl▸i2
 show wpAny _ _ (holding [.ref (s.heap.push {cls:=.type "list",data:=.seq ([]:List Value).toArray }).objs.size] _ >>= _) _ _ _
 rw[Dl]
 have hS:h2.get? s.heap.objs.size=some {cls:=.type "list",data:=.seq ([]:List Value).toArray }:=k2 _ _ (Heap.get?_push_size _ rfl)
 refine wpAny_bind (wpAny_holding (ad7 (s:={s with heap:=h2 }) ⟨o,k2 _ _ ho1,hex.1⟩ ?_))
 rw[if_pos (by decide +kernel)]
 refine wpAny_bind (wpAny_rule (wpAny_bind ?_))
 unfold Builtin.List.listTouch
 refine wpAny_bind (PyProof.Rows.listUpdate_at hS rfl ?_)
 have hS1:=Heap.get?_update_self (Obj.mapSeq (·.push Value.none)) hS rfl
 refine PyProof.Rows.listUpdate_at (s:={s with heap:=h2.update s.heap.objs.size (Obj.mapSeq (·.push Value.none)) }) hS1 rfl ?_
 have hS2:=Heap.get?_update_self (Obj.mapSeq (·.pop)) hS1 rfl
 have k3:∀b o,b≠s.heap.objs.size->h2.get? b=some o->((h2.update s.heap.objs.size (Obj.mapSeq (·.push Value.none))).update s.heap.objs.size (Obj.mapSeq (·.pop))).get? b=some o:=λb o nb e=>(Heap.get?_update_other _ _ nb.symm).trans ((Heap.get?_update_other _ _ nb.symm).trans e)
 generalize (h2.update s.heap.objs.size (Obj.mapSeq (·.push Value.none))).update s.heap.objs.size (Obj.mapSeq (·.pop))=h3 at hS2 k3 ⊢
 have wk:=ad5 (prog:=prog) (A:=A.in1) (a:=a) (it:=s.heap.objs.size+1) hh (Nat.ne_of_lt (Nat.lt_succ_of_lt ha)) hd ht hp hl
 obtain⟨slot,u1,u2,u3,u4,q1,q2⟩:=i2
 refine wpAny_pure ⟨plainId_quiet F.plain_extend_loop _,codeAny_extend_loopS wk (by rw[sizeLine_eq]; omega) s.heap.objs.size (λm=>?_) _ _ 0 _ #[] _ rfl (Nat.zero_le _) ⟨k3 _ _ (Nat.ne_of_lt ha) (k2 _ _ ho1),slot,u1,u2,u3,u4,k3 _ _ (Nat.succ_ne_self _) q1,q2⟩ hS2 (ItemsOf.nil _) λs' acc c' mv hS' ia=>?_⟩
 ·rcases List.mem_cons.mp m with m|m
  ·exact Nat.ne_of_gt ha m
  ·exact Nat.succ_ne_self _ (List.mem_singleton.mp m).symm
 ·refine wpAny_bind (wpAny_load hS' (wpAny_pure (h s' _ ⟨λb o' _ e=>?_,mv.gens,mv.drawn,mv.os,mv.toks⟩ ?_)))
  ·have lt:=Heap.lt_size e
   refine mv.heap b o' (λm=>?_) (k3 b o' (Nat.ne_of_lt lt) (k2 b o' (Heap.get?_push_of_some _ e)))
   rcases List.mem_cons.mp m with m|m
   ·exact Nat.ne_of_lt lt m
   ·exact Nat.ne_of_lt (Nat.lt_succ_of_lt lt) (List.mem_singleton.mp m)
  ·refine List.ext_getElem? λi=>?_
   have sz:(iG w a ep es).size=es.size:=by
    have:=(DX w a ep es).length_eq
    rwa[Array.length_toList,Array.length_toList]at this
   rw[List.getElem?_map,Array.getElem?_toList,Array.getElem?_toList]
   rcases Nat.lt_or_ge i es.size with c|c
   ·have c1:i<acc.size:=by rw[ia.1]; exact c
    have e1:acc[i]?=some acc[i]:=Array.getElem?_eq_getElem c1
    obtain⟨e,q,z⟩:=ia.2 i _ e1
    rw[e1,q,z]
    rfl
   ·rw[Array.getElem?_eq_none (by rw[ia.1]; exact c),Array.getElem?_eq_none (by rw[sz]; exact c)]
    rfl
end
end HS
end
section
namespace L2
open PySem PySem.Spec PyProof.Rows PySem.W
def gZ(K:FZ):KW:=λH v k=>∃a,v=.ref a/\cV K H a [.int k.1,.int k.2]
section
variable {X:Cx}{pins:List (Addr × Obj)}{σ : St}{H:Hp}{s:Shared}
theorem zM{u:Value}{k:Int × Int}(I:Inv X pins σ H s)(h:∃v,RelV v u/\gZ X.K H v k):∃a o n t1 t2,u=.ref a/\s.heap.get? a=some o/\o.cls=.type "tuple" /\ o.data=.seq #[.int k.1 t1,.int k.2 t2] n:=by
 obtain⟨v,r,a,rfl,q⟩:=h
 cases r
 obtain⟨its,r,⟨o,e,c,n,d⟩,_⟩:=I.tuple q
 cases r with
 |cons r1 r =>
  cases r with
  |cons r2 r =>
   cases r
   obtain⟨t1,rfl⟩:=r1
   obtain⟨t2,rfl⟩:=r2
   exact⟨a,o,n,t1,t2,rfl,e,c,d⟩
theorem ad9(I:Inv X pins σ H s)(u:Value)(k k':Int × Int)(h:∃v,RelV v u/\gZ X.K H v k)(h':∃v,RelV v u/\gZ X.K H v k'):k=k':=by
 obtain⟨a,o,n,t1,t2,rfl,e,_,d⟩:=zM I h
 obtain⟨a',o',n',t1',t2',z,e',_,d'⟩:=zM I h'
 cases z
 rw[e]at e'
 cases e'
 rw[d]at d'
 injection d' with d' _
 have d':=congrArg Array.toList d'
 injection d' with x1 x2
 injection x2 with x2 _
 injection x1 with x1 _
 injection x2 with x2 _
 exact Prod.ext x1 x2
theorem aea{prog:Program}{w:World}{A:Around}{E:Value->Shared->Prop}{s:Shared}{st:SortSt}{i j x y n n':Nat}{ox oy:Obj}{k k':Int × Int}{t1 t2 u1 u2:Tok}{p q:Value}{Q:Option Bool->SortSt->Prop}(hk:kindOf st=tuples' true)
  (hi:(arrOf st)[i]?=some (.ref x,p)) (hj:(arrOf st)[j]?=some (.ref y,q)) (hx:s.heap.get? x=some ox) (dx:ox.data=.seq #[.int k.1 t1,.int k.2 t2] n) (hy:s.heap.get? y=some oy) (dy:oy.data=.seq #[.int k'.1 u1,.int k'.2 u2] n')
  (h:Q (some (decide (k.1<k'.1\/(k.1=k'.1/\k.2<k'.2)))) st):wpS (model prog w) A E s (ltAt' i j) Q st:=by
 rw[ltAt'_eq]
 refine wpS_bind (wpS_get ?_)
 show wpS _ _ _ _ (do let x <-elem' (arrOf st) i; let y <-elem' (arrOf st) j; lt' x y) Q st
 rw[elem'_eq,elem'_eq,hi,hj]
 refine wpS_bind (wpS_pure (wpS_bind (wpS_pure ?_)))
 rw[lt'_eq]
 refine wpS_bind (wpS_get ?_)
 rw[hk]
 refine wpS_bind (wpS_lift (wpAny_attempt (kat_lt hx dx hy dy (kat_cons (wpAny_eqBool_int ?_)))))
 by_cases e1:k.1=k'.1
 ·rw[show(k.1 == k'.1)=true by simp[e1]]
  refine kat_yes (kat_cons (wpAny_eqBool_int ?_))
  by_cases e2:k.2=k'.2
  ·rw[show(k.2 == k'.2)=true by simp[e2]]
   refine kat_yes (kat_nil ⟨rfl,wpS_pure ?_⟩)
   rw[decide_eq_false (by omega)]at h
   exact h
  ·rw[show(k.2 == k'.2)=false by simp[e2]]
   refine kat_no (kat_one _ _ (wpAny_lt_int ⟨rfl,wpS_pure ?_⟩))
   have:decide (k.1<k'.1\/(k.1=k'.1/\k.2<k'.2))=decide (k.2<k'.2):=by
    rw[decide_eq_decide]; omega
   rw[this]at h
   exact h
 ·rw[show(k.1 == k'.1)=false by simp[e1]]
  refine kat_no (oneLt_int ⟨rfl,wpS_pure ?_⟩)
  have:decide (k.1<k'.1\/(k.1=k'.1/\k.2<k'.2))=decide (k.1<k'.1):=by
   rw[decide_eq_decide]; omega
  rw[this]at h
  exact h
theorem Va:sZ X (λH u k=>∃v,RelV v u/\gZ X.K H v k) (tuples' true) where
 kind:=λH keys kz h2 hk pins σ s Q E I q=>by
  have t:∀vs:List Value,(∀v∈vs,∃k:Int × Int,∃w,RelV w v/\gZ X.K H w k)->∃fs,KatTups s.heap vs fs/\fs.length=vs.length/\∀v∈fs,∃i t,v=Value.int i t:=λvs=>by
   induction vs with
   |nil=>exact λ_=>⟨[],.nil,rfl,λv m=>by cases m⟩
   |cons v vs ih =>
    intro h
    obtain⟨fs,a1,a2,a3⟩:=ih λu mu=>h u (List.mem_cons_of_mem _ mu)
    obtain⟨k,hv⟩:=h v (List.mem_cons_self ..)
    obtain⟨a,o,n,t1,t2,rfl,e,c,d⟩:=zM I hv
    refine⟨.int k.1 t1::fs,KatTups.cons e c d rfl a1,by rw[List.length_cons,a2,List.length_cons],λu mu=>?_⟩
    rcases List.mem_cons.mp mu with rfl|mu
    ·exact⟨_,_,rfl⟩
    ·exact a3 u mu
  obtain⟨fs,a1,a2,a3⟩:=t keys.toList λv hv=>by
   obtain⟨i,hi,e⟩:=List.getElem_of_mem hv
   exact⟨kz i,hk i v (by rw[<-e]; simp[Array.getElem?_eq_getElem (show i<keys.size by simpa using hi)])⟩
  have:=kat_kind (M:=model X.prog X.w) (A:=X.A.in1.in1) (E:=E) (vs:=keys.toList) (fs:=fs) (T:=.type "int") (Q:=Q) a1 (by rw[a2]; simp; omega) (λv hv=>by
   obtain⟨i,t,rfl⟩:=a3 v hv
   exact Looks.now) (by decide) q
  simpa using this
 ask:=λ{pins σ H s E} a₀ kf I h st i j Q B hi hj q=>by
  have at_:∀i,i<a₀.size->∃(x:Nat) (p:Value) (o:Obj) (n:Nat) (t1 t2:Tok),(arrOf st)[i]?=some (Value.ref x,p)/\s.heap.get? x=some o/\o.data=.seq #[.int (q1 kf (arrOf st) i) t1,.int (q2 kf (arrOf st) i) t2] n:=λi hi=>by
   have hi':i<(arrOf st).size:=by rw[B.sz]; exact hi
   have hm:(arrOf st)[i]∈a₀.toList:=(Array.perm_iff_toList_perm.mp B.pm).mem_iff.mp (by simp)
   obtain⟨x,o,n,t1,t2,e,e2,_,d⟩:=zM I (h _ hm)
   have e':(arrOf st)[i]?=some (arrOf st)[i]:=getElem?_pos _ i hi'
   refine⟨x,(arrOf st)[i].2,o,n,t1,t2,?_,e2,?_⟩
   ·rw[e',<-e]
   ·unfold q1 q2
    rw[e']
    exact d
  obtain⟨x,p,o,n,t1,t2,e1,e2,e3⟩:=at_ i hi
  obtain⟨y,p',o',n',u1,u2,f1,f2,f3⟩:=at_ j hj
  exact aea (k:=(q1 kf (arrOf st) i,q2 kf (arrOf st) i)) (k':=(q1 kf (arrOf st) j,q2 kf (arrOf st) j)) B.kn e1 f1 e2 e3 f2 f3 q
end
def zN:Tr->Option (Int × Int)
 |.tup [.int a,.int b]=>some (a,b)
 |_=>none
theorem aeb(K:FZ)(W:Addr->Prop)(H:Hp)(v:V)(T:Tr)(k:Int × Int)(r:Rp (aD K) W H v T)(e:zN T=some k):gZ K H v k:=by
 unfold zN at e
 split at e
 ·cases e
  obtain⟨p,xs,rfl,q,r⟩:=r.tup
  cases r with
  |cons r1 r =>
   cases r with
   |cons r2 r =>
    cases r
    rw[Rp.int (W:=W) (H:=H) (.inl r1),Rp.int (W:=W) (H:=H) (.inl r2)]at q
    exact⟨p,rfl,q.toK⟩
 ·cases e
section
variable {X:Cx}{pins:List (Addr × Obj)}{σ : St}{H:Hp}{s:Shared}
def jg(y z:Int × Int):Prop:=y.1<z.1\/(y.1=z.1/\y.2<z.2)
abbrev Kq(X:Cx):Hp->Value->Int × Int->Prop:=λH u k=>∃v,RelV v u/\gZ X.K H v k
theorem aec{a:Addr}{c0:Nat}{rs:List (Addr × (Int × Int))}{P:PySem.Fin->Shared->Prop}{E:Value->Shared->Prop}(I:Inv X pins σ H s)(fa:d7 X pins H a)(ha:s.heap.get? a=some (seqObj "list" (rs.map λr=>Value.ref r.1).toArray c0))
  (ht:∀r∈rs,gZ X.K H (.ref r.1) r.2) (nd:(rs.map (·.2)).Nodup) (h64:rs.length<64)
  (h:∀s' c (rs':List (Addr × (Int × Int))),Inv X pins σ H s'->s'.heap.get? a=some (seqObj "list" (rs'.map λr=>Value.ref r.1).toArray c)->rs'.Perm rs->rs'.Pairwise (λy z=>jg y.2 z.2)->P (.done (.ret .none)) s') :
  wpAny (model X.prog X.w) X.A.in1.in1 (Builtin.«list.sort» ⟨[.ref a],[]⟩) P E s:=by
 rw[list_sort_plain]
 refine wpAny_bind (listItems_at ha rfl (wpAny_bind (listUpdate_at ha rfl ?_ (by rw[List.size_toArray,List.length_map,sizeLine_eq]; omega) (Nat.zero_le _))))
 have I1:=I.wr (g:=λ_=>#[]) (t':=s.toks) fa
 obtain⟨e1,ha1⟩:∃e1,(s.heap.update a (Obj.mapSeq λ_=>(#[]:Array Value))).get? a=some (seqObj "list" #[] e1):=⟨_,get?_update_seq ha _⟩
 refine wpAny_bind (seqEpoch_at ha1 rfl (wpAny_bind (wpAny_newTuple ?_ (by rw[List.toList_toArray,List.length_map,sizeLine_eq]; omega))))
 refine wpAny_bind (wpAny_newList ?_ (Nat.zero_le _))
 have I2:=I1.kept (h':=(s.heap.update a (Obj.mapSeq λ_=>(#[]:Array Value))).push {cls:=.type "tuple",data:=.seq (rs.map λr=>Value.ref r.1).toArray.toList.toArray }) (t':=s.toks) λb o e=>Heap.get?_push_of_some _ e
 have I3:=I2.kept (h':=((s.heap.update a (Obj.mapSeq λ_=>(#[]:Array Value))).push {cls:=.type "tuple",data:=.seq (rs.map λr=>Value.ref r.1).toArray.toList.toArray }).push {cls:=.type "list",data:=.seq ([]:List Value).toArray }) (t':=s.toks) λb o e=>Heap.get?_push_of_some _ e
 have ha3:=Heap.get?_push_of_some {cls:=.type "list",data:=.seq ([]:List Value).toArray } (Heap.get?_push_of_some {cls:=.type "tuple",data:=.seq (rs.map λr=>Value.ref r.1).toArray.toList.toArray } ha1)
 refine wpAny_holding ?_
 have put:∀{st:SortSt} {s4:Shared} {rs':List (Addr × (Int × Int))},Inv X pins σ H s4->s4.heap.get? a=some (seqObj "list" #[] e1)->(arrOf st).map (·.2)=(rs'.map λr=>Value.ref r.1).toArray->rs'.Perm rs->rs'.Pairwise (λy z=>jg y.2 z.2)->((arrOf st).map (·.2)).size<=sizeLine+1/\P (.done (.ret .none)) {s4 with heap:=s4.heap.update a (Obj.mapSeq λ_=>(arrOf st).map (·.2)) }:=λ{st s4 rs'} I4 h4 ar pm pw=>by
  refine⟨by rw[ar,List.size_toArray,List.length_map,pm.length_eq,sizeLine_eq]; omega,?_⟩
  have e:=get?_update_seq h4 λ_=>(arrOf st).map (·.2)
  obtain⟨c,e'⟩:∃c,(s4.heap.update a (Obj.mapSeq λ_=>(arrOf st).map (·.2))).get? a=some (seqObj "list" (rs'.map λr=>Value.ref r.1).toArray c):=⟨_,by
   rw[<-ar]
   exact e⟩
  exact h _ _ rs' (I4.wr (t':=s4.toks) fa) e' pm pw
 have len:((rs.map λr=>Value.ref r.1).toArray).size=rs.length:=by rw[List.size_toArray,List.length_map]
 have at_:∀(i:Nat) (r:Addr × (Int × Int)),rs[i]?=some r->((rs.map λr=>Value.ref r.1).toArray.zip (rs.map λr=>Value.ref r.1).toArray)[i]?=some (.ref r.1,.ref r.1):=λi r q=>by
  rw[<-Array.getElem?_toList,ksk_zip,List.getElem?_zip_eq_some,List.toList_toArray,List.getElem?_map,q]
  exact⟨rfl,rfl⟩
 dsimp only
 rw[len]
 by_cases h2:rs.length<2
 ·rw[if_pos h2,if_pos h2]
  refine wpAny_bind (wpAny_pure ?_)
  rw[StateT.run_pure]
  refine wpAny_bind (wpAny_pure ?_)
  have ar:(arrOf (SortSt.mk' general' ((rs.map λr=>Value.ref r.1).toArray.zip (rs.map λr=>Value.ref r.1).toArray) #[] 7 none)).map (·.2)=(rs.map λr=>Value.ref r.1).toArray:=by
   show((rs.map λr=>Value.ref r.1).toArray.zip (rs.map λr=>Value.ref r.1).toArray).map (·.2)=_
   refine Array.ext_getElem? λi=>?_
   rw[Array.getElem?_map,show(rs.map λr=>Value.ref r.1).toArray[i]?=(rs.map λr=>Value.ref r.1)[i]? by simp,List.getElem?_map]
   cases hq:rs[i]? with
   |none =>
    rw[Array.getElem?_eq_none (by rw[Array.size_zip,len,Nat.min_self]; exact List.getElem?_eq_none_iff.mp hq)]
    rfl
   |some r=>rw[at_ i r hq]; rfl
  have pw:rs.Pairwise (λy z=>jg y.2 z.2):=by
   match rs,h2 with
   | [],_=>exact .nil
   | [r],_=>exact List.pairwise_singleton ..
  obtain⟨p1,p2⟩:=put I3 ha3 ar (.refl _) pw
  refine wpAny_bind (seqEpoch_at ha3 rfl (wpAny_bind (listUpdate_at ha3 rfl ?_ (Nat.zero_le _) p1)))
  rw[show failedOf (SortSt.mk' general' ((rs.map λr=>Value.ref r.1).toArray.zip (rs.map λr=>Value.ref r.1).toArray) #[] 7 none)=none from rfl]
  simp only[bne_self_eq_false,Bool.false_eq_true,if_false]
  exact wpAny_pure p2
 ·rw[if_neg h2,if_neg h2]
  have hK:∀(i:Nat) (v:Value),(rs.map λr=>Value.ref r.1).toArray[i]?=some v->Kq X H v ((rs.getD i (0,(0,0))).2):=λi v q=>by
   rw[List.getElem?_toArray,List.getElem?_map]at q
   cases hq:rs[i]? with
   |none=>rw[hq]at q; cases q
   |some r =>
    rw[hq]at q
    cases q
    refine⟨.ref r.1,rfl,?_⟩
    rw[List.getD_eq_getElem?_getD,hq]
    exact ht r (List.mem_of_getElem? hq)
  refine wpAny_bind (Va.kind H _ (λi=>(rs.getD i (0,(0,0))).2) (by rw[len]; omega) hK I3 ?_)
  -- the keys,and the places,by a function each
  obtain⟨kf,hkf⟩:∃kf:Value->Int × Int,∀r∈rs,kf (.ref r.1)=r.2:=by
   classical
   refine⟨λv=>if q:∃k,Kq X H v k then q.choose else(0,0),λr hr=>?_⟩
   have q:∃k,Kq X H (.ref r.1) k:=⟨r.2,.ref r.1,rfl,ht r hr⟩
   dsimp only
   rw[dif_pos q]
   exact ad9 I3 _ _ _ q.choose_spec ⟨.ref r.1,rfl,ht r hr⟩
  have nda:(rs.map (·.1)).Nodup:=by
   unfold List.Nodup
   rw[List.pairwise_map]
   have nd':=nd
   unfold List.Nodup at nd'
   rw[List.pairwise_map]at nd'
   refine nd'.imp_of_mem λ{y z} my mz ne e=>ne ?_
   rw[<-hkf y my,<-hkf z mz,e]
  letI:NF:=⟨λv=>match v with|.ref p=>((rs.map (·.1)).idxOf p:Nat)|_=>0⟩
  have nf:∀(i:Nat) (r:Addr × (Int × Int)),rs[i]?=some r->NF.f (Value.ref r.1)=(i:Int):=λi r q=>by
   show(((rs.map (·.1)).idxOf r.1:Nat):Int)=i
   obtain⟨hi,e⟩:=List.getElem?_eq_some_iff.mp q
   have hi':i<(rs.map (·.1)).length:=by rw[List.length_map]; exact hi
   have:(rs.map (·.1))[i]=r.1:=by rw[List.getElem_map,e]
   rw[<-this,nda.idxOf_getElem i hi']
  have nF:((rs.map λr=>Value.ref r.1).toArray.zip (rs.map λr=>Value.ref r.1).toArray).size=rs.length:=by rw[Array.size_zip,len,Nat.min_self]
  have mem:∀p∈((rs.map λr=>Value.ref r.1).toArray.zip (rs.map λr=>Value.ref r.1).toArray).toList,∃r∈rs,p=(.ref r.1,.ref r.1):=λp hp=>by
   obtain⟨i,hi,e⟩:=List.getElem_of_mem hp
   have hi':i<rs.length:=by rw[Array.length_toList,nF]at hi; exact hi
   have e1:=at_ i rs[i] (List.getElem?_eq_getElem hi')
   rw[<-Array.getElem?_toList,List.getElem?_eq_getElem hi,e]at e1
   exact⟨rs[i],List.getElem_mem hi',Option.some.inj e1⟩
  generalize hA:(rs.map λr=>Value.ref r.1).toArray.zip (rs.map λr=>Value.ref r.1).toArray=a₀ at *
  have ask:=Va.ask (X:=X) (E:=E) a₀ kf I3 (λp hp=>by
   obtain⟨r,hr,rfl⟩:=mem p hp
   refine⟨.ref r.1,rfl,?_⟩
   rw[hkf r hr]
   exact ht r hr)
  have B:SB a₀ (tuples' true) (SortSt.mk' (tuples' true) a₀ #[] 7 none):=⟨Array.Perm.refl _,rfl,rfl,rfl⟩
  have p0:Pre a₀.size (arrOf (SortSt.mk' (tuples' true) a₀ #[] 7 none)) 0:=⟨λk hk=>by omega,λk _ hk=>by
   have hk':k<rs.length:=by omega
   show qr a₀ k=k
   unfold qr
   rw[at_ k rs[k] (List.getElem?_eq_getElem hk')]
   exact nf k rs[k] (List.getElem?_eq_getElem hk')⟩
  refine wpAny_bind (wpAny_mono (Sq (Q:=λ_ t=>(arrOf t).Perm a₀/\failedOf t=none/\iC kf (arrOf t) a₀.size) ask B (by omega) (by omega) p0 λt a1 a2 a3=>⟨a1,a2,a3⟩) ?_ λ_ _ z=>z)
  rintro⟨⟨⟩,t⟩ s' ⟨rfl,hp,hf,hs⟩
  have hpl:=Array.perm_iff_toList_perm.mp hp
  have Kr:∀p∈(arrOf t).toList,∃r∈rs,p=(.ref r.1,.ref r.1):=λp m=>mem p (hpl.mem_iff.mp m)
  have tsz:(arrOf t).size=rs.length:=hp.size_eq.trans nF
  -- the things as pairs
  have gg:∃g:Keyed->Addr × (Int × Int),∀r∈rs,g (.ref r.1,.ref r.1)=r:=⟨λp=>(match p.2 with|.ref x=>x|_=>0,kf p.2),λr hr=>by
   show(r.1,kf (.ref r.1))=r
   rw[hkf r hr]⟩
  obtain⟨g,hg⟩:=gg
  have e0:a₀.toList.map g=rs:=by
   refine List.ext_getElem? λi=>?_
   rw[List.getElem?_map,Array.getElem?_toList]
   cases hq:rs[i]? with
   |none=>rw[Array.getElem?_eq_none (by rw[nF]; exact List.getElem?_eq_none_iff.mp hq)]; rfl
   |some r=>rw[at_ i r hq]; exact congrArg some (hg r (List.mem_of_getElem? hq))
  have pm:((arrOf t).toList.map g).Perm rs:=e0▸hpl.map g
  have ar:(arrOf t).map (·.2)=(((arrOf t).toList.map g).map λr=>Value.ref r.1).toArray:=by
   refine Array.ext_getElem? λi=>?_
   rw[Array.getElem?_map,show(((arrOf t).toList.map g).map λr=>Value.ref r.1).toArray[i]?=(((arrOf t).toList.map g).map λr=>Value.ref r.1)[i]? from List.getElem?_toArray ..,List.getElem?_map,List.getElem?_map,Array.getElem?_toList]
   cases hq:(arrOf t)[i]? with
   |none=>rfl
   |some p =>
    obtain⟨r,hr,rfl⟩:=Kr p (Array.mem_toList_iff.mpr (Array.mem_of_getElem? hq))
    show some (Value.ref r.1)=some (Value.ref (g (.ref r.1,.ref r.1)).1)
    rw[hg r hr]
  have pw:((arrOf t).toList.map g).Pairwise (λy z=>jg y.2 z.2):=by
   have Vb:((arrOf t).toList.map g).Pairwise λy z=>y.2≠z.2:=by
    have:=(pm.map (·.2)).nodup_iff.mpr nd
    unfold List.Nodup at this
    rwa[List.pairwise_map]at this
   rw[List.pairwise_iff_getElem]at Vb ⊢
   intro i j hi hj lt
   have ne:=Vb i j hi hj lt
   rw[List.length_map,Array.length_toList]at hi hj
   have z:=hs i j lt (by rw[nF,<-tsz]; exact hj)
   have x1:(arrOf t)[i]?=some (arrOf t)[i]:=Array.getElem?_eq_getElem hi
   have x2:(arrOf t)[j]?=some (arrOf t)[j]:=Array.getElem?_eq_getElem hj
   obtain⟨r1,m1,y1⟩:=Kr _ (Array.mem_toList_iff.mpr (Array.getElem_mem hi))
   obtain⟨r2,m2,y2⟩:=Kr _ (Array.mem_toList_iff.mpr (Array.getElem_mem hj))
   rw[List.getElem_map,List.getElem_map,Array.getElem_toList,Array.getElem_toList,y1,y2,hg r1 m1,hg r2 m2]at ne ⊢
   unfold Lq Kl Ke q1 q2 at z
   rw[x1,x2,y1,y2]at z
   dsimp only at z
   rw[hkf r1 m1,hkf r2 m2]at z
   rcases z with z|z
   ·exact z
   ·exact absurd (Prod.ext z.1.1 z.1.2) ne
  obtain⟨p1,p2⟩:=put I3 ha3 ar pm pw
  refine wpAny_bind (seqEpoch_at ha3 rfl (wpAny_bind (listUpdate_at ha3 rfl ?_ (Nat.zero_le _) p1)))
  rw[hf]
  simp only[bne_self_eq_false,Bool.false_eq_true,if_false]
  exact wpAny_pure p2
abbrev tq(r:Addr × (Int × Int)):Addr × List Int:=(r.1,[r.2.1,r.2.2])
def qt(z:Addr × List Int):Addr × (Int × Int):=(z.1,(z.2.getD 0 0,z.2.getD 1 0))
theorem Vc{rs:List (Addr × (Int × Int))}{qs:List (Addr × List Int)}(p:qs.Perm (rs.map tq)):∃rs':List (Addr × (Int × Int)),qs=rs'.map tq/\rs'.Perm rs:=by
 refine⟨qs.map qt,?_,?_⟩
 ·rw[List.map_map]
  refine(List.map_id qs).symm.trans (List.map_congr_left λz hz=>?_)
  obtain⟨r,_,rfl⟩:=List.mem_map.mp (p.mem_iff.mp hz)
  rfl
 ·have:=p.map qt
  rw[List.map_map]at this
  rwa[show qt ∘ tq=id from rfl,List.map_id]at this
theorem aed{a:Addr}{rs:List (Addr × (Int × Int))}{Q:Value->Shared->Prop}{E:Value->Shared->Prop}(I:Inv X pins σ H s)(hh:X.A.handled=none)(hS:HS.SetT X.prog X.w s.heap a (rs.map tq))(ht:∀r∈rs,gZ X.K H (.ref r.1) r.2)(nd:(rs.map (·.2)).Nodup)(h64:rs.length<64)
  (h:∀s' D (rs':List (Addr × (Int × Int))),H D=none->Inv X pins σ (upd H D (.lst (rs'.map λr=>V.ref r.1))) s'->rs'.Perm rs->rs'.Pairwise (λy z=>jg y.2 z.2)->Q (.ref D) s') :
  wpAny (model X.prog X.w) X.A (call (.builtin "sorted") [.ref a]) Q E s:=by
 obtain⟨o,es,ep,t,ho,hex,hd,tok,hp,hl,he⟩:=hS
 have hn:=he.1
 rw[List.length_map]at hn
 refine Calls.call_function_entry kind_sorted plain_sorted entry_sorted (args_sorted1 _) ?_
 unfold Builtin.«sorted»
 refine wpAny_bind (m:=checkCount "sorted" 1 1 _) (wpAny_pure ?_)
 have hh1:X.A.in1.handled=none:=hh
 refine wpAny_bind (HS.ad8 (A:=X.A.in1) hh1 ho hex hd tok hp hl (by omega) λs1 vs mv ev=>?_)
 obtain⟨qs,eq,pq⟩:=he.perm (HS.DX X.w a ep es)
 obtain⟨zO,rfl,p1⟩:=Vc pq
 have es1:s1={s with heap:=s1.heap,toks:=s1.toks }:=by
  obtain⟨h1,g1,d1,k1,o1⟩:=s1
  have:=mv.gens; have:=mv.drawn; have:=mv.os
  simp_all
 have vsE:vs=zO.map λr=>Value.ref r.1:=by
  rw[ev]
  refine List.ext_getElem? λi=>?_
  rw[List.getElem?_map,List.getElem?_map]
  cases hq:zO[i]? with
  |none =>
   have:(HS.iG X.w a ep es).size<=i:=by
    have:=eq.1
    rw[List.length_map]at this
    rw[<-this]
    exact List.getElem?_eq_none_iff.mp hq
   rw[Array.getElem?_toList,Array.getElem?_eq_none this]
   rfl
  |some r =>
   have:=(eq.2 i (tq r) (by rw[List.getElem?_map,hq]; rfl)).1
   rw[Array.getElem?_toList,this]
   rfl
 have I1:Inv X pins σ H s1:=by
  rw[es1]
  exact I.kept λb o e=>mv.heap b o (λm=>by cases m) e
 have l1:=p1.length_eq
 rw[vsE]
 refine wpAny_bind (wpAny_newList ?_ (by rw[List.length_map,sizeLine_eq]; omega))
 have I2:=I1.kept (h':=s1.heap.push {cls:=.type "list",data:=.seq (zO.map λr=>Value.ref r.1).toArray }) (t':=s1.toks) λb o e=>Heap.get?_push_of_some _ e
 have ha:(s1.heap.push {cls:=.type "list",data:=.seq (zO.map λr=>Value.ref r.1).toArray }).get? s1.heap.objs.size=some (seqObj "list" (zO.map λr=>Value.ref r.1).toArray 0):=Heap.get?_push_size _ rfl
 refine wpAny_bind (wpAny_holding (wpAny_call_entry slot_list_sort ⟨_,ha,rfl⟩ entry_list_sort ?_ (args_list_sort _)))
 have fr:=I1.hok.fresh (Nat.le_refl _)
 have fa:d7 X pins H s1.heap.objs.size:=I1.oF (Nat.le_refl _) fr
 refine aec I2 fa ha (λr hr=>ht r (p1.mem_iff.mp hr)) ((p1.map (·.2)).nodup_iff.mpr nd) (by omega) λs' c rs' I' e' pm pw=>⟨_,rfl,?_⟩
 have vl:∀l:List (Addr × (Int × Int)),Vals (l.map λr=>V.ref r.1) (l.map λr=>Value.ref r.1):=λl=>by
  induction l with
  |nil=>exact .nil
  |cons r l ih=>exact .cons rfl ih
 refine wpAny_pure ⟨_,rfl,h s' _ rs' fr (I'.track (its:=rs'.map λr=>Value.ref r.1) (n:=c) fa e' (vl rs') ?_) (pm.trans p1) pw⟩
 rw[List.length_map,pm.length_eq,l1,sizeLine_eq]
 omega
end
end L2
end
section
namespace L2
open PySem PySem.Spec PyProof.Rows
open PySem.W
noncomputable def pK(prog:Program)(w:World)(h:Heap)(a:Addr)(qs:List (Addr × List Int)):Prop :=
 ∃o es ep t,h.get? a=some o/\o.ExactSet/\o.data=.set es ep t/\HS.jw t es/\t.plain=true/\t.led = !(w.params.followText "set-order")/\qs.length=es.size/\∀(i:Nat) (z:Addr × List Int),qs[i]?=some z->es[i]?=some (tupleKeyHash (HS.IK prog w) z.2,.ref z.1)
def dj(prog:Program)(w:World)(a:Addr)(rs:List (Addr × (Int × Int))):HO:=.ext λh=>pK prog w h a (rs.map tq)
section
variable {X:Cx}{pins:List (Addr × Obj)}{σ : St}{H:Hp}{s:Shared}
theorem pK.toT{prog:Program}{w:World}{h:Heap}{a:Addr}{qs:List (Addr × List Int)}(b:pK prog w h a qs)(k:∀z∈qs,IsTupleKey (HS.IK prog w) h z.2 z.1):HS.SetT prog w h a qs:=by
 obtain⟨o,es,ep,t,b1,b2,b3,b4,b5,b6,b7,b8⟩:=b
 exact⟨o,es,ep,t,b1,b2,b3,b4,b5,b6,b7,λi z q=>⟨b8 i z q,k z (List.mem_of_getElem? q)⟩⟩
theorem SetT.toB{prog:Program}{w:World}{h:Heap}{a:Addr}{qs:List (Addr × List Int)}(b:HS.SetT prog w h a qs):pK prog w h a qs:=by
 obtain⟨o,es,ep,t,b1,b2,b3,b4,b5,b6,b7,b8⟩:=b
 exact⟨o,es,ep,t,b1,b2,b3,b4,b5,b6,b7,λi z q=>(b8 i z q).1⟩
theorem pK.obj{H':Hp}{prog:Program}{w:World}{h:Heap}{a:Addr}{rs:List (Addr × (Int × Int))}(b:pK prog w h a (rs.map tq)):jA prog w H' h a (dj prog w a rs):=by
 refine⟨b,?_,λh1 h2 b k=>?_⟩
 ·obtain⟨o,_,_,_,e,_⟩:=b
  exact⟨o,e⟩
 ·obtain⟨o,es,ep,t,b1,r⟩:=b
  exact⟨o,es,ep,t,k o b1,r⟩
theorem Vd{p:Addr}{k:Int × Int}(I:Inv X pins σ H s)(h:gZ X.K H (.ref p) k):IsTupleKey (HS.IK X.prog X.w) s.heap [k.1,k.2] p:=by
 obtain⟨a,o,n,t1,t2,e0,e,c,d⟩:=zM I ⟨.ref p,rfl,h⟩
 cases e0
 exact⟨o,_,n,e,c,d,.cons (intKind_is _ _ _ _) (.cons (intKind_is _ _ _ _) .nil)⟩
theorem Ve{a:Addr}{rs:List (Addr × (Int × Int))}(I:Inv X pins σ H s)(hS:H a=some (dj X.prog X.w a rs))(ht:∀r∈rs,gZ X.K H (.ref r.1) r.2):HS.SetT X.prog X.w s.heap a (rs.map tq):=by
 have b:pK X.prog X.w s.heap a (rs.map tq):=(I.hok a _ hS).1
 refine b.toT λz hz=>?_
 obtain⟨r,hr,rfl⟩:=List.mem_map.mp hz
 exact Vd I (ht r hr)
theorem Vf{prog:Program}{w:World}{h:Heap}{a:Addr}{rs:List (Addr × (Int × Int))}(b:pK prog w h a (rs.map tq))(C:Addr):dj prog w a rs≠iI a C:=λe=>by
 unfold dj iI at e
 injection e with e
 have x:BL a C h:=(congrFun e h)▸b
 obtain⟨o,_,_,_,e1,e2,_⟩:=b
 obtain⟨o',_,f1,f2,_⟩:=x
 rw[e1]at f1
 cases f1
 rw[e2.1]at f2
 cases f2
noncomputable def Ks(X:Cx):List V->Hp->VK->Prop:=λxs H Q=>∃a rs,xs=[.ref a]/\H a=some (dj X.prog X.w a rs)/\(∀r∈rs,gZ X.K H (.ref r.1) r.2)/\(rs.map (·.2)).Nodup/\rs.length<64 /\
 ∀D (rs':List (Addr × (Int × Int))),H D=none->rs'.Perm rs->rs'.Pairwise (λy z=>jg y.2 z.2)->Q (.ref D) (upd H D (.lst (rs'.map λr=>V.ref r.1)))
theorem aee(hh:X.A.handled=none):iH X (.builtin "sorted") (Ks X):=λpins s σ H xs us Q I r h=>by
 obtain⟨a,rs,rfl,hS,ht,nd,n64,q⟩:=h
 obtain⟨u,rfl,ru⟩:=Vals.one r
 cases ru
 exact aed I hh (Ve I hS ht) ht nd n64 λs' D rs' fr I' pm pw=>⟨.ref D,_,I',rfl,q D rs' fr pm pw⟩
noncomputable def Vg(X:Cx):V->List V->Hp->VK->Prop:=λx xs H Q=>∃a rs p k,x=.ref a/\xs=[.ref p]/\H a=some (dj X.prog X.w a rs)/\(∀r∈rs,gZ X.K H (.ref r.1) r.2)/\gZ X.K H (.ref p) k/\rs.length<70 /\
 ∀rs':List (Addr × (Int × Int)),(if k∈rs.map (·.2)then rs'=rs else rs'.Perm ((p,k)::rs))->(∀C,dj X.prog X.w a rs'≠iI a C)->Q .non (upd H a (dj X.prog X.w a rs'))
theorem aef(hu:X.A.in1.units<cLine):Hu X "set.add" (Vg X):=λpins s σ H x xs v us Q I rx r h=>by
 obtain⟨a,rs,p,k,rfl,rfl,hS,ht,hk,hn,q⟩:=h
 cases rx
 obtain⟨u,rfl,ru⟩:=Vals.one r
 cases ru
 refine HS.adT hu (Ve I hS ht) (Vd I hk) (by rw[List.length_map]; exact hn) λh' qs' tk sb T' c=>?_
 have hm : [k.1,k.2]∈(rs.map tq).map (·.2)↔k∈rs.map (·.2):=by
  rw[List.map_map]
  simp only[List.mem_map,Function.comp]
  refine⟨λ⟨r,hr,e⟩=>⟨r,hr,?_⟩,λ⟨r,hr,e⟩=>⟨r,hr,by rw[e]⟩⟩
  injection e with e1 e2
  injection e2 with e2 _
  exact Prod.ext e1 e2
 obtain⟨rs',e1,e2⟩:∃rs':List (Addr × (Int × Int)),qs'=rs'.map tq/\(if k∈rs.map (·.2)then rs'=rs else rs'.Perm ((p,k)::rs)):=by
  by_cases z:k∈rs.map (·.2)
  ·rw[if_pos (hm.mpr z)]at c
   exact⟨rs,c,by rw[if_pos z]⟩
  ·rw[if_neg λw=>z (hm.mp w)]at c
   obtain⟨rs',a1,a2⟩:=Vc (rs:=(p,k)::rs) c
   exact⟨rs',a1,by rw[if_neg z]; exact a2⟩
 subst e1
 have B:=SetT.toB T'
 have hmu:yj (H a):=by rw[hS]; trivial
 refine⟨.non,_,I.write (x:=a) (e:=a) hmu (.inl rfl) (λb u nb e=>(sb.2 b nb).trans e) ?_ B.obj,rfl,q rs' e2 (Vf B)⟩
 obtain⟨o,_,_,_,e,_⟩:=B
 exact⟨o,e⟩
end
end L2
end
section
namespace HS
open PySem PySem.SetTable
variable {prog:Program}{w:World}{A:Around}{E:Value->Shared->Prop}{s:Shared}
abbrev xM(w:World):Obj:={cls:=.type "set",dict:=none,data:=.set #[] 0 (.fresh 0 0 (!(w.params.followText "set-order"))) }
theorem aeg{Q₁ : Value->Shared->Prop}(h:Q₁ (.ref s.heap.objs.size) {s with heap:=s.heap.push (xM w) }):codeAny (model prog w) A (.call (.builtin "set.__new__") ⟨[.type "set"],[]⟩) (wants Q₁ E) s:=by
 refine codeAny_of_tree (show wpAny _ A.in1 (checkBuiltinCall "set.__new__" ⟨[.type "set"],[]⟩ >>= λ_=>again _) _ _ s from wpAny_bind (wpAny_of_eq F.newCall_set_0 (wpAny_pure ⟨plainId_quiet F.plain_set_new _,codeAny_builtin F.entry_set_new ?_⟩)))
 rw[Around.under_plainId F.plain_set_new _]
 unfold Builtin.«set.__new__»; unfold Builtin.Frozenset.newClass newSet
 have hsub:=sub_set_self
 obtain⟨hp,g,d,tk,os⟩:=s
 dsimp only
 wp_walk
 exact wpAny_askSetting (wpAny_pure (wpAny_newObj_type (wpAny_pure h)))
theorem aeh{Q:Value->Shared->Prop}(h:Q (.ref s.heap.objs.size) {s with heap:=s.heap.push (xM w) }):wpAny (model prog w) A (call (.type "set") []) Q E s:=by
 have cs:=F.called_set
 obtain⟨c,tl,hmro⟩:=cs.mro
 have hmade:=cs.made
 have hsub:=cs.sub
 have h1:=cs.notType
 have h2:=cs.canCreate
 have hct:=F.typeCall_set_0
 refine wpAny_call (codeAny_of_tree (show wpAny _ _ (callAny (.type "set") _) _ _ _ from wpAny_pure ⟨Code.quiet_builtin _ (by decide +kernel),codeAny_builtin F.entry_type_call ?_⟩))
 rw[Around.under_plain (weight_type_call_type "set" [] []) rfl]
 repeat any_goals (first|assumption|wp_step)
 refine codeAny_mono (aeg (E:=E) (Q₁ := λb s₁=>b=.ref s.heap.objs.size/\s₁ = {s with heap:=s.heap.push (xM w) }) ⟨rfl,rfl⟩) λr s₁ hr=>?_
 rcases r with e|fl
 ·exact hr
 ·cases fl
  case ret b =>
   obtain⟨rfl,rfl⟩:=hr
   have hT:Shared.TypeIs {s with heap:=s.heap.push (xM w) } (.ref s.heap.objs.size) "set" := ⟨_,Heap.get?_push_size _ rfl,rfl⟩
   have hS:(s.heap.push (xM w)).get? s.heap.objs.size=some (xM w):=Heap.get?_push_size _ rfl
   have hli:=cs.init.lookup
   have hbi:=cs.init.bind (.ref s.heap.objs.size)
   repeat any_goals (first|assumption|wp_step)
   refine codeAny_mono (codeAny_call_builtin (R:=wants (λr s₂=>r=.none/\Q (.ref s.heap.objs.size) s₂) E) cs.init.plain F.entry_set_init (check_set_init hT ?_)) λr₂ s₂ hr₂=>?_
   ·unfold Builtin.«set.__init__»; unfold noKeywords
    wp_walk
    exact⟨rfl,h⟩
   ·rcases r₂ with e|fl₂
    ·exact hr₂
    ·cases fl₂
     case ret r =>
      obtain⟨rfl,hq⟩:=hr₂
      repeat any_goals (first|assumption|wp_step)
     all_goals exact hr₂.elim
  all_goals exact hr.elim
end HS
end
section
namespace L2
open PySem PySem.Spec PyProof.Rows PySem.W
section
variable {X:Cx}
def Ku(X:Cx):List V->Hp->VK->Prop:=λxs H Q=>xs=[]/\∀a,H a=none->(∀C,dj X.prog X.w a []≠iI a C)->Q (.ref a) (upd H a (dj X.prog X.w a []))
theorem aei:iH X (.type "set") (Ku X):=λpins s σ H xs us Q I r h=>by
 obtain⟨rfl,q⟩:=h
 cases r
 have fr:=I.hok.fresh (Nat.le_refl _)
 refine HS.aeh ⟨.ref s.heap.objs.size,_,I.laid (t':=s.toks) (λb u e=>Heap.get?_push_of_some _ e) (Nat.le_refl _) (pK.obj (rs:=[]) (SetT.toB HS.U0)),rfl,q _ fr (Vf (rs:=[]) (SetT.toB HS.U0))⟩
def Vh(X:Cx)(to:TE)(t:TA):TE:=λσ H Q=>to σ H λx H1=>(∃a rs,x=.ref a/\H1 a=some (dj X.prog X.w a rs))/\t σ H1 λxs H2=>Vg X x xs H2 Q
theorem aej{o e:Expr}{es:List Expr}{to:TE}{t:TA}{apos cpos:Pos}(hu:X.A.in1.units<cLine)(ho:PE X o to)(ha:PA X (e::es) t)
  (hbase:attributeBase o "add" X.env (eval o X.env)=eval o X.env:=by rfl)
  (hfew:((backTo cpos (starEach (e::es) X.env)).all (λx=>!x.1)&&(backToKw cpos (keywordEach [] X.env)).all (λx=>x.1.isSome)&&decide ((e::es).length+([]:List Keyword).length+(if([]:List Keyword).isEmpty then 0 else 1)<30))=true:=by rfl)
  (hline:(apos.endLine == cpos.line)=true:=by rfl) (hs:starEach (e::es) X.env=(false,eval e X.env)::starEach es X.env:=by rfl) (hplain:(backTo cpos (starEach es X.env)).any (·.1)=false:=by rfl) :
  PE X (.Call (.Attribute o "add" apos) (e::es) [] cpos) (Vh X to t):=by
 refine⟨λpins s σ H Q I h=>wpAny_Call_method_late hbase hfew hline rfl (bD (ho pins s σ H _ I h) λv s1 ⟨x,H1,I1,r1,⟨a,rs,ex,hS⟩,q1⟩=>?_)⟩
 subst ex
 cases r1
 obtain⟨oo,_,_,_,e1,e2,_⟩:pK X.prog X.w s1.heap a (rs.map tq):=(I1.hok a _ hS).1
 refine⟨"set", "set.add",F.plainAttrs_set,F.slot_set_add,F.type_set_add,⟨oo,e1,e2.1⟩,λb z=>by cases z; exact⟨oo,e1,e2.2.1⟩,?_⟩
 have hA:=ha cpos pins s1 σ H1 _ I1 q1
 rw[hs]at hA ⊢
 refine Calls.callWith_builtin (by show(false || (backTo cpos (starEach es X.env)).any (·.1))=false; rw[hplain]; rfl) (Calls.evalArgs_plain (bD hA λus s2 ⟨vs,H2,I2,r2,q2⟩=>aef hu pins s2 σ H2 (.ref a) vs (.ref a) us Q I2 rfl r2 q2))
end
end L2
end
section
namespace L2
open PySem PySem.Spec PyProof.Rows
section
variable {X:Cx}{k j:Nat}{x:Str}{ps:List Str}{sp:Sp}{p pos:Pos}{a b e:Expr}{es:List Expr}{ta tb:TE}{tl:TA}{E:XK}
theorem bh(ha:PE X a ta)(hb:PE X b tb)(hs:Qh b:=by exact λ_ _=>rfl):PE X (.Subscript a b pos) (gD (BJ X.K) ta tb):=wA wB ha hb hs
theorem pc1(D:aM X.prog X.w X.K X.mg X.base j x ps sp)(hr:fL k X.A)(hx:Passes (jr X.prog X.w) X E)(ha:PA X (e::es) tl)(hk:j<=k:=by decide)(hg:X.env.kindOf x=some .globalImplicit:=by kernel_rfl)(hdb:(x == ("__debug__" : Str))=false:=by kernel_rfl)
  (he:notStar e=true:=by kernel_rfl) (hpl:(backTo pos (starEach es X.env)).any (·.1)=false:=by kernel_rfl):PE X (.Call (.Name x p) (e::es) [] pos) (rE sp [] E tl):=R6 (D.mono hk) hr hx ha hg hdb he hpl
theorem cX(D:aM X.prog X.w X.K X.mg X.base j x ps sp)(hr:fL k X.A)(ha:PA X (e::es) tl)(hk:j<=k:=by decide)(hg:X.env.kindOf x=some .globalImplicit:=by kernel_rfl)(hdb:(x == ("__debug__" : Str))=false:=by kernel_rfl)
  (he:notStar e=true:=by kernel_rfl) (hpl:(backTo pos (starEach es X.env)).any (·.1)=false:=by kernel_rfl):PE X (.Call (.Name x p) (e::es) [] pos) (rE sp [] E0 tl):=R6 (D.mono hk) hr aaI ha hg hdb he hpl
end
theorem fS(N P:List Str)(sc:Scope)(kind:sc.kind=.function:=by rfl)(co:sc.isCoroutine=false:=by rfl)(gen:sc.isGenerator=false:=by rfl)(nd:N.Nodup:=by decide +kernel)(pre:N.take P.length=P:=by rfl)(par:∀x∈P,sc.names.lookup x=some .local\/sc.names.lookup x=some .cell:=by decide +kernel)(Hi:∀y∈sc.names,y.2 ≠ .free:=by decide +kernel):rG N P sc:=⟨kind,co,gen,nd,pre,par,Hi⟩
section
variable {t:Tx}{K:FZ}
theorem aek(hK:t.K=aD K){ta:TE}{fa:EF}(ha:SE t ta fa):L2.ST t (λσ H Q=>ta σ H λx H'=>∃k,yu K x H' k/\Q k H') (cZ fa):=jG hK ha
theorem ael(hK:t.K=aD K){ts:TS}{f:SF}(h:∀t':Tx,t'.K=aD K->(∀c,¬t'.EX c)->SS t' ts f):SS t ts (fO f):=Jo λt' h' k=>h t' (h'.trans hK) k
theorem aem(hK:t.K=aD K){wi:TI}{g:TG}{src:List (Option Nat)}{te:TE}{fi:IF}{gf:GF}{f:EF}{js:List Nat}(hi:SI t wi fi)(ng:∀T ρ c,gf T ρ ≠ .ex c)(hg:∀t':Tx,t'.K=aD K->(∀c,¬t'.EX c)->SG t' g gf js)(he:∀t':Tx,t'.K=aD K->(∀c,¬t'.EX c)->SE t' te f)(hj:∀k j:Nat,src[k]?=some (some j)->k∉js)(I:(src.filterMap id).Nodup):SE t (ux wi g src te) (dR src fi gf c7 f) :=
 uX hi (uT I) hj ng (λt' h k=>hg t' (h.trans hK) k) (λt' h k=>he t' (h.trans hK) k)
end
section
variable {α : Type}{P:List α -> Prop}{us:List α}
theorem ar1(h:us.length=1)(k:∀a,P [a]):P us:=by
 obtain⟨a,rfl⟩:=List.length_eq_one_iff.mp h
 exact k a
theorem ar2(h:us.length=2)(k:∀a b,P [a,b]):P us:=by
 cases us with
 |nil=>cases h
 |cons a us=>exact ar1 (P:=λl=>P (a::l)) (Nat.succ.inj h) (k a)
theorem Vi(h:us.length=3)(k:∀a b c,P [a,b,c]):P us:=by
 cases us with
 |nil=>cases h
 |cons a us=>exact ar2 (P:=λl=>P (a::l)) (Nat.succ.inj h) (k a)
theorem ar4(h:us.length=4)(k:∀a b c d,P [a,b,c,d]):P us:=by
 cases us with
 |nil=>cases h
 |cons a us=>exact Vi (P:=λl=>P (a::l)) (Nat.succ.inj h) (k a)
theorem au1(k:∀a,P [a]):∀us:List α,us.length=1->P us:=λ_ h=>ar1 h k
theorem au2(k:∀a b,P [a,b]):∀us:List α,us.length=2->P us:=λ_ h=>ar2 h k
theorem au3(k:∀a b c,P [a,b,c]):∀us:List α,us.length=3->P us:=λ_ h=>Vi h k
theorem au4(k:∀a b c d,P [a,b,c,d]):∀us:List α,us.length=4->P us:=λ_ h=>ar4 h k
end
open PySem.Builtin PySem.Builtin.Str
end L2
end
section
namespace L2
open PySem PySem.Spec PyProof.Rows
open PySem.W
def uy(a:Int)(n:Nat):List Tr:=(List.range' 0 n).map λi:Nat=>Tr.int (a+i)
end L2
end
section
namespace L2
open PySem PySem.Spec PyProof.Rows
section
variable {t:Tx}{W W':Addr->Prop}{ρ ρ':En}{σ : St}{H H':Hp}{F:Nat->List Addr}
def Vj:Sl->Sl
 |.sh T=>.sh T
 |.ow ts=>.sh (.lst ts)
 |.dp ts=>.sh (.lst ts)
 |_=>.un
def vw(ρ : En):En := ρ.map Vj
theorem Ky{i:Nat}{s:Sl}(h:(vw ρ)[i]?=some s):∃r,ρ[i]?=some r/\Vj r=s:=by
 unfold vw at h
 rw[List.getElem?_map]at h
 cases q : ρ[i]? with
 |none=>rw[q]at h; cases h
 |some r=>rw[q]at h; exact⟨r,rfl,Option.some.inj h⟩
end
def Ag(J:List Nat)(σ σ':St):Prop:=∀i,i∉J -> σ'[i]?=σ[i]?
def Ends.gd(D:Ends)(J:List Nat)(σ : St):Ends where
 nx:=λσ' H'=>Ag J σ σ'->D.nx σ' H'
 rt:=D.rt
 bk:=λσ' H'=>Ag J σ σ'->D.bk σ' H'
 ct:=λσ' H'=>Ag J σ σ'->D.ct σ' H'
def Fm(J:List Nat)(ts:TS):Prop:=∀D σ H,ts (D.gd J σ) σ H=ts D σ H
def Fg(J:List Nat)(g:TG):Prop:=∀x σ H Q,g x σ H (λσ' H'=>Ag J σ σ'->Q σ' H')=g x σ H Q
def Ea(J:List Nat)(g:kJ):Prop:=∀x σ H Q,g x σ H (λσ' H'=>Ag J σ σ'->Q σ' H')=g x σ H Q
section
variable {J:List Nat}{σ σ' mL:St}
theorem Ag.refl(J:List Nat)(σ : St):Ag J σ σ := λ_ _=>rfl
theorem Ag.trans(h:Ag J σ σ')(h':Ag J σ' mL):Ag J σ mL:=λi n=>(h' i n).trans (h i n)
theorem Ag.left(h:Ag J σ σ'):Ag J σ mL=Ag J σ' mL:=propext ⟨λa i n=>(a i n).trans (h i n).symm,λa=>h.trans a⟩
theorem Ag.name{i:Nat}(h:i∈J)(v:Option V):Ag J σ (σ.set i v):=λj n=>List.getElem?_set_ne (λz:i=j=>n (z▸h))
theorem imp_eq{a p q:Prop}(h:a->p=q):(a->p)=(a->q):=propext ⟨λx y=>h y▸x y,λx y=>(h y).symm▸x y⟩
theorem imp_self{a p:Prop}(h:a):(a->p)=p:=propext ⟨λx=>x h,λx _=>x⟩
theorem Ends.aen{D:Ends}(h:Ag J σ σ'):D.gd J σ = D.gd J σ':=by
 unfold Ends.gd
 congr 1
 all_goals
  funext τ H
  rw[h.left]
theorem aeo:Fm J Bf:=λD σ H=>imp_self (Ag.refl J σ)
theorem aep(te:TE):Fm J (GK te):=λD σ H=>rfl
theorem aer(te:TE):Fm J (yr te):=λD σ H=>by
 show te σ H _=te σ H _
 congr 1
 funext x H1
 exact imp_self (Ag.refl J σ)
theorem aes(te:TE){g:TG}(h:Fg J g):Fm J (lR te g):=λD σ H=>by
 show te σ H _=te σ H _
 congr 1
 funext x H1
 exact h x σ H1 D.nx
theorem aeu(c:TT){t u:TS}(h1:Fm J t)(h2:Fm J u):Fm J (Bg c t u):=λD σ H=>by
 show c σ H _=c σ H _
 congr 1
 funext b H1
 rw[h1,h2]
theorem aev{t u:TS}(h1:Fm J t)(h2:Fm J u):Fm J (oE t u):=λD σ H=>by
 show t {D.gd J σ with nx:=u (D.gd J σ) } σ H=t {D with nx:=u D } σ H
 rw[<-h1 {D.gd J σ with nx:=u (D.gd J σ) },<-h1 {D with nx:=u D }]
 congr 1
 unfold Ends.gd
 dsimp only
 congr 1
 ·funext τ H1
  refine imp_eq λa=>?_
  have:=h2 D τ H1
  rw[<-Ends.aen a]at this
  exact this
 ·funext τ H1
  exact imp_eq λa=>imp_self a
 ·funext τ H1
  exact imp_eq λa=>imp_self a
theorem aew{i:Nat}(h:i∈J):Fg J (dU i):=λx σ H Q=>imp_self (Ag.name h _)
theorem aex:Ea J qY:=λx σ H Q=>by
 show(_/\(Ag J σ σ -> Q σ H))=(_/\_)
 rw[imp_self (Ag.refl J σ)]
theorem aey{g:TG}{u:kJ}(h1:Fg J g)(h2:Ea J u):Ea J (jR g u):=λx σ H Q=>by
 show(∃v r,_/\g v σ H λτ H'=>u r τ H' λσ' H'=>Ag J σ σ'->Q σ' H')=∃v r,_/\g v σ H λτ H'=>u r τ H' Q
 congr 1
 funext v
 congr 1
 funext r
 congr 1
 rw[<-h1 v σ H λτ H'=>u r τ H' λσ' H'=>Ag J σ σ'->Q σ' H',<-h1 v σ H λτ H'=>u r τ H' Q]
 congr 1
 funext τ H'
 refine imp_eq λa=>?_
 rw[<-h2 r τ H' Q]
 congr 1
 funext τ' H2
 rw[a.left]
theorem aez(K:FZ)(n:Nat){u:kJ}(h:Ea J u):Fg J (qZ K n u):=λx σ H Q=>by
 show(∃a xs,_/\_/\_/\u xs σ H _)=∃a xs,_/\_/\_/\u xs σ H _
 congr 1
 funext a
 congr 1
 funext xs
 rw[h]
theorem Vk{g:TG}{tb:TS}(hg:Fg J g)(hb:Fm J tb){I:It}{D D':Ends}{H1:Hp}(hn:∀τ H,Ag J σ τ -> D.nx τ H->D'.nx τ H)(he:∀τ,Ag J σ τ -> ∀τ' H,Ag J τ τ'->D.nx τ' H=D'.nx τ' H)(hr:D.rt=D'.rt)
  (h:∃W:Nat->Nat->St->Hp->Prop,(∃m,W 0 m σ H1)/\∀i m σ H,W i m σ H->(I.stop i H/\D.nx σ H)\/(I.go i H/\∃N:St->Hp->Prop,(∀σ' H',N σ' H'->∃m',m'<m/\W (i+1) m' σ' H')/\∀x H',I.rm i H x H'->g x σ H' λσ2 H2=>tb {D with nx:=N,ct:=N,bk:=D.nx } σ2 H2)) :
  ∃W:Nat->Nat->St->Hp->Prop,(∃m,W 0 m σ H1)/\∀i m σ H,W i m σ H->(I.stop i H/\D'.nx σ H)\/(I.go i H/\∃N:St->Hp->Prop,(∀σ' H',N σ' H'->∃m',m'<m/\W (i+1) m' σ' H')/\∀x H',I.rm i H x H'->g x σ H' λσ2 H2=>tb {D' with nx:=N,ct:=N,bk:=D'.nx } σ2 H2):=by
 obtain⟨W,⟨m,h0⟩,h⟩:=h
 refine⟨λi m τ H=>W i m τ H/\Ag J σ τ,⟨m,h0,Ag.refl J σ⟩,λi m τ H w=>?_⟩
 rcases h i m τ H w.1 with⟨s,d⟩|⟨go,N,hN,hy⟩
 ·exact .inl ⟨s,hn τ H w.2 d⟩
 ·refine .inr ⟨go,λσ' H'=>N σ' H'/\Ag J σ σ',λσ' H' n=>?_,λx H' y=>?_⟩
  ·obtain⟨m',lt,w'⟩:=hN σ' H' n.1
   exact⟨m',lt,w',n.2⟩
  ·have z:=hy x H' y
   rw[<-hg]at z ⊢
   have e:(λσ2 H2=>Ag J τ σ2->tb {D with nx:=N,ct:=N,bk:=D.nx } σ2 H2)=λσ2 H2=>Ag J τ σ2->tb {D' with nx:=λσ' H'=>N σ' H'/\Ag J σ σ',ct:=λσ' H'=>N σ' H'/\Ag J σ σ',bk:=D'.nx } σ2 H2:=by
    funext σ2 H2
    refine imp_eq λa=>?_
    have a2:=w.2.trans a
    rw[<-hb,<-hb {D' with nx:=λσ' H'=>N σ' H'/\Ag J σ σ',ct:=λσ' H'=>N σ' H'/\Ag J σ σ',bk:=D'.nx }]
    congr 1
    unfold Ends.gd
    dsimp only
    have en:(λσ' H'=>Ag J σ2 σ'->N σ' H')=λσ' H'=>Ag J σ2 σ'->(N σ' H'/\Ag J σ σ'):=by
     funext σ' H'
     exact imp_eq λb=>propext ⟨λn=>⟨n,a2.trans b⟩,λn=>n.1⟩
    rw[en,hr]
    congr 1
    funext σ' H'
    exact imp_eq λb=>he σ2 a2 σ' H' b
   rw[e]at z
   exact z
theorem aeA(wi:TI){g:TG}{tb:TS}(hg:Fg J g)(hb:Fm J tb):Fm J (Bj wi g tb):=λD σ H=>by
 show wi σ H _=wi σ H _
 congr 1
 funext I H1
 exact propext ⟨Vk hg hb (λτ H a d=>d a) (λτ a τ' H b=>imp_self (a.trans b)) rfl,Vk hg hb (λτ H a d _=>d) (λτ a τ' H b=>(imp_self (a.trans b)).symm) rfl⟩
end
end L2
namespace L2
open PySem PySem.Spec PyProof.Rows
def tE(a:Addr)(G G':Hp):Prop:=∀b o,G b=some o->(b=a->∃φ,o=.ext φ/\∀C,HO.ext φ≠iI a C)/\(b≠a->G' b=some o)
theorem tE.get{a b:Addr}{G G':Hp}{o:HO}(m:tE a G G')(h:G b=some o)(n:∀φ,o=.ext φ -> b=a->∃C,HO.ext φ = iI a C):G' b=some o:=by
 refine(m b o h).2 λz=>?_
 obtain⟨φ,e,q⟩:=(m b o h).1 z
 obtain⟨C,x⟩:=n φ e z
 exact q C x
theorem tE.rd{a b:Addr}{G G':Hp}{o:HO}(m:tE a G G')(h:Rd G b o)(n:∀φ,o ≠ .ext φ):Rd G' b o:=by
 rcases h with h|⟨x,h⟩
 ·exact .inl (m.get h λφ z=>absurd z (n φ))
 ·exact .inr ⟨x,m.get h λφ z=>by cases z⟩
mutual
theorem Rep.skip{K:FZ}{a:Addr}{G G':Hp}(m:tE a G G'):∀{v:V} {T:Tr},Rep K G v T->Rep K G' v T
 |_,_,.non=>.non
 |_,_,.bl b=>.bl b
 |_,_,.int i=>.int i
 |_,_,.str x=>.str x
 |_,_,.tup h r=>.tup (h.imp (λh=>m.rd h λ_ z=>by cases z) id) (aF.skip m r)
 |_,_,.lst h r=>.lst (h.imp (λh=>m.rd h λ_ z=>by cases z) id) (aF.skip m r)
 |_,_,.cO h k n=>.cO (m.get h λφ z e=>by subst e; exact⟨_,z.symm⟩) k n
theorem aF.skip{K:FZ}{a:Addr}{G G':Hp}(m:tE a G G'):∀{v:List V} {T:List Tr},aF K G v T->aF K G' v T
 |_,_,.nil=>.nil
 |_,_,.cons h r=>.cons (Rep.skip m h) (aF.skip m r)
end
theorem DR.skip{K:FZ}{a:Addr}{G G' H:Hp}(m:tE a G G'):∀{xs:List V} {ts:List Tr} {bs:List Addr},DR K G H xs ts bs->DR K G' H xs ts bs
 |_,_,_,.nil=>.nil
 |_,_,_,.cl n h r=>.cl n (h.skip m) (DR.skip m r)
 |_,_,_,.rw h q r=>.rw h (q.skip m) (DR.skip m r)
section
variable {t:Tx}{W:Addr->Prop}{ρ : En}{σ : St}{H:Hp}{a:Addr}{φ : Heap->Prop}
theorem aeB(h:H a=some (.ext φ))(n:∀C,HO.ext φ≠iI a C):tE a (aN W H) (aN (λb=>W b\/b=a) H):=λb o q=>by
 obtain⟨w,q⟩:=jW q
 refine⟨λz=>?_,λz=>?_⟩
 ·subst z
  rw[h]at q
  cases q
  exact⟨φ,rfl,n⟩
 ·rw[gj λx=>x.elim w z]
  exact q
theorem aH.widen(e:aH t W ρ σ H)(h:H a=some (.ext φ))(n:∀C,HO.ext φ≠iI a C):aH t (λb=>W b\/b=a) ρ σ H:=by
 have m:=aeB (W:=W) h n
 obtain⟨F,e⟩:=e
 refine⟨F,e.len,λb z=>.inl (e.zw b z),e.z0,λb w=>?_,e.f0,e.n0,λi u q=>?_,λi ts q=>?_,λi ts q=>?_,e.dis,e.pn,e.pd,λi ts q=>?_,e.dd,e.dm,e.db,e.tab.Ik λb w=>.inl w⟩
 ·rcases w with w|rfl
  ·exact e.wl b w
  ·exact .inr (.inr ⟨φ,h,n⟩)
 ·obtain⟨v,h1,h2⟩:=e.sh i u q
  exact⟨v,h1,h2.skip m⟩
 ·obtain⟨c,xs,h1,h2,h3,h4,h5⟩:=e.ow i ts q
  exact⟨c,xs,h1,.inl h2,h3,h4,h5.skip m⟩
 ·obtain⟨c,xs,h1,h2,h3,h4,h5⟩:=e.rf i ts q
  exact⟨c,xs,h1,.inl h2,h3,h4,h5.skip m⟩
 ·obtain⟨c,xs,h1,bs,d1,d2,d3,d4,d5⟩:=e.dp i ts q
  exact⟨c,xs,h1,bs,d1,d2,λb hb=>⟨.inl (d3 b hb).1,(d3 b hb).2⟩,d4,d5.skip m⟩
theorem aH.Eb{o:HO}(e:aH t W ρ σ H)(h:H a=some o)(n:∀xs,o ≠ .lst xs)(nt:∀ps,o ≠ .cY ps):aH {t with B:=upd t.B a o } W ρ σ H:=by
 obtain⟨F,e⟩:=e
 have na:∀{c:Addr} {xs:List V},H c=some (.lst xs)->c≠a:=λq z=>by
  subst z
  rw[h]at q
  cases q
  exact n _ rfl
 have mu:∀i c,Mu ρ i -> σ[i]?=some (some (V.ref c))->c≠a:=λi c m q=>by
  obtain⟨ts,m|m⟩:=m
  ·obtain⟨c',xs,h1,_,_,h4,_⟩:=e.ow i ts m
   rw[q]at h1
   cases h1
   exact na h4
  ·obtain⟨c',xs,h1,_,_,h4,_⟩:=e.rf i ts m
   rw[q]at h1
   cases h1
   exact na h4
 have rows:∀{K:FZ} {G:Hp} {xs:List V} {ts:List Tr} {bs:List Addr},DR K G H xs ts bs->∀b∈bs,b≠a:=λ{K G xs ts bs} d=>by
  induction d with
  |nil=>intro b hb; cases hb
  |cl _ _ _ ih=>exact ih
  |rw h _ _ ih =>
   intro b hb
   rcases List.mem_cons.mp hb with rfl|hb
   ·exact na h
   ·exact ih b hb
 have fpn:∀(i:Nat) (ts:List Tr),ρ[i]?=some (Sl.dp ts)->∀b∈F i,b≠a:=λi ts q b hb=>by
  obtain⟨c,xs,h1,bs,d1,d2,d3,d4,d5⟩:=e.dp i ts q
  rw[d1]at hb
  rcases List.mem_cons.mp hb with rfl|hb
  ·exact na d4
  ·exact rows d5 b hb
 refine⟨F,e.len,e.zw,e.z0,e.wl,e.f0,e.n0,e.sh,e.ow,e.rf,e.dis,λb o' q=>?_,λi c m q=>?_,e.dp,e.dd,e.dm,λi ts q b hb=>?_,⟨e.tab.ok,e.tab.w,e.tab.r,λb z=>?_⟩⟩
 ·have q:upd t.B a o b=some o':=q
  by_cases z:b=a
  ·subst z
   rw[eX]at q
   cases q
   exact h
  ·rw[bJ z]at q
   exact e.pn b o' q
 ·show upd t.B a o c=none
  rw[bJ (mu i c m q)]
  exact e.pd i c m q
 ·show upd t.B a o b=none
  rw[bJ (fpn i ts q b hb)]
  exact e.db i ts q b hb
 ·show upd t.B a o b=none
  rw[bJ]
  ·exact e.tab.B b z
  ·rintro rfl
   obtain⟨ps,x⟩:=e.tab.ok.cY z
   rw[h]at x
   cases x
   exact nt _ rfl
theorem aH.Ec{o:HO}(e:aH {t with B:=upd t.B a o } W ρ σ H)(hB:t.B a=none):aH t W ρ σ H/\H a=some o:=by
 obtain⟨F,e⟩:=e
 have ne:∀{b:Addr},upd t.B a o b=none->t.B b=none:=λ{b} q=>by
  by_cases z:b=a
  ·subst z; exact hB
  ·rwa[bJ z]at q
 refine⟨⟨F,e.len,e.zw,e.z0,e.wl,e.f0,e.n0,e.sh,e.ow,e.rf,e.dis,λb o' q=>?_,λi c m q=>ne (e.pd i c m q),e.dp,e.dd,e.dm,λi ts q b hb=>ne (e.db i ts q b hb),⟨e.tab.ok,e.tab.w,e.tab.r,λb z=>ne (e.tab.B b z)⟩⟩,e.pn a o ?_⟩
 ·have z:b≠a:=λz=>by rw[z,hB]at q; cases q
  refine e.pn b o' ?_
  show upd t.B a o b=some o'
  rw[bJ z]
  exact q
 ·show upd t.B a o a=some o
  exact eX ..
end
structure qN(P:Program)(w:World)(K:FZ)(a:Addr)(j:Nat)(zs:List (Int × Int))(W:Addr->Prop)(σ : St)(H:Hp):Prop where
 sl : σ[j]?=some (some (.ref a))
 wa:W a
 nd:zs.Nodup
 ex:∃rs:List (Addr × (Int × Int)),H a=some (dj P w a rs)/\(∀C,dj P w a rs≠iI a C)/\(∀r∈rs,gZ K H (.ref r.1) r.2)/\(rs.map (·.2)).Perm zs
abbrev ZF:=En->List (Int × Int)->Rs (En × List (Int × Int))
noncomputable def SZ(t:Tx)(P:Program)(w:World)(K:FZ)(j:Nat)(ts:TS)(f:ZF):Prop:=∀W ρ zs σ H D a,aH t W ρ σ H->qN P w K a j zs W σ H->t.B a=none/\t.H0 a=none->(f ρ zs).post t.EX (λp=>∀W' σ' H',aH t W' p.1 σ' H'->qN P w K a j p.2 W' σ' H'->dF W H W' H'->D.nx σ' H')->ts D σ H
section
variable {t:Tx}{P:Program}{w:World}{K:FZ}{j:Nat}{W W':Addr->Prop}{ρ : En}{σ σ':St}{H H':Hp}{a:Addr}{zs:List (Int × Int)}
theorem Ed{v:V}{k:Int × Int}(wl:∀b,W b->Lt H b)(n:dF W H W' H')(h:gZ K H v k):gZ K H' v k:=by
 obtain⟨p,e,q⟩:=h
 refine⟨p,e,q.imp (λq=>?_) id⟩
 rcases q with q|⟨o,q⟩
 ·exact .inl (n p _ (λw=>by rcases wl p w with⟨_,z⟩|⟨_,z⟩|⟨_,z,_⟩ <;> (rw[q]at z; cases z)) q).2
 ·exact .inr ⟨o,(n p _ (λw=>by rcases wl p w with⟨_,z⟩|⟨_,z⟩|⟨_,z,_⟩ <;> (rw[q]at z; cases z)) q).2⟩
theorem qN.step{rs:List (Addr × (Int × Int))}(wl:∀b,W b->Lt H b)(s:qN P w K a j zs W σ H)(hs : σ'[j]?=σ[j]?)(n:dF W H W' H')(wa:W' a)(h0:H a=some (dj P w a rs))(h:H' a=some (dj P w a rs)):qN P w K a j zs W' σ' H':=by
 obtain⟨sl,_,nd,rs',e1,e2,e3,e4⟩:=s
 have e1':=e1
 rw[h0]at e1
 have er:dj P w a rs=dj P w a rs':=Option.some.inj e1
 exact⟨hs.trans sl,wa,nd,rs',by rw[<-er]; exact h,e2,λr hr=>Ed wl n (e3 r hr),e4⟩
def xO(f:SF):ZF:=λρ zs=>(dO (f ρ)).bind λp=>match p.1 with
 |.nx=>.ok (p.2,zs)
 |_=>.bad
theorem aeC{J:List Nat}{ts:TS}{f:SF}(fm:Fm J ts)(hj:j∉J)(h:∀t':Tx,t'.K=t.K->(∀c,¬t'.EX c)->SS t' ts f):SZ t P w K j ts (xO f):=λW ρ zs σ H D a e s hB q=>by
 obtain⟨rs,e1,e2,_⟩:=s.ex
 rw[<-fm D σ H]
 have ep:aH {t with B:=upd t.B a (dj P w a rs),EX:=λ_=>False } W ρ σ H:=(e.Eb e1 (λ_ z=>by cases z) (λ_ z=>by cases z)).ex
 refine h {t with B:=upd t.B a (dj P w a rs),EX:=λ_=>False } rfl (λ_=>id) W ρ σ H _ ep ?_
 have q:=wW (Rs.aR q)
 refine Rs.aY q λp q=>?_
 obtain⟨fl,ρ'⟩:=p
 cases fl with
 |nx =>
  intro W' σ' H' e' n ag
  have e':aH {t with B:=upd t.B a (dj P w a rs) } W' ρ' σ' H':=e'.sU (t:={t with B:=upd t.B a (dj P w a rs) })
  obtain⟨e',ha⟩:=e'.Ec hB.1
  have e'':=e'.widen ha e2
  have n':dF W H (λb=>W' b\/b=a) H':=λb o nb hb=>by
   obtain⟨m1,m2⟩:=n b o nb hb
   exact⟨λz=>z.elim m1 λz=>nb (z▸s.wa),m2⟩
  exact q _ σ' H' e'' (s.step e.wl (ag j hj) n' (.inr rfl) e1 ha) n'
 |rt T fr=>exact q.elim
 |bk=>exact q.elim
 |ct=>exact q.elim
def Ef(f g:ZF):ZF:=λρ zs=>(f ρ zs).bind λp=>g p.1 p.2
theorem aeD{ta tb:TS}{f g:ZF}(h1:SZ t P w K j ta f)(h2:SZ t P w K j tb g):SZ t P w K j (oE ta tb) (Ef f g):=λW ρ zs σ H D a e s hB q=>by
 refine h1 W ρ zs σ H _ a e s hB (Rs.aY (Rs.aR q) λp q W1 σ1 H1 e1 s1 n1=>?_)
 exact h2 W1 p.1 p.2 σ1 H1 D a e1 s1 hB (Rs.aY q λr q W2 σ2 H2 e2 s2 n2=>q W2 σ2 H2 e2 s2 (n1.trans n2))
def tH(c:BF)(f:ZF):ZF:=λρ zs=>(dO (c ρ)).bind λp=>if p.1=true then f p.2 zs else .ok (p.2,zs)
theorem aeE{tc:TT}{ta:TS}{c:BF}{f:ZF}(hc:∀t':Tx,t'.K=t.K->(∀c,¬t'.EX c)->ST t' tc c)(h1:SZ t P w K j ta f):SZ t P w K j (Bg tc ta Bf) (tH c f):=λW ρ zs σ H D a e s hB q=>by
 obtain⟨rs,e1,e2,_⟩:=s.ex
 have ep:aH {t with B:=upd t.B a (dj P w a rs),EX:=λ_=>False } W ρ σ H:=(e.Eb e1 (λ_ z=>by cases z) (λ_ z=>by cases z)).ex
 refine hc {t with B:=upd t.B a (dj P w a rs),EX:=λ_=>False } rfl (λ_=>id) W ρ σ H _ ep (Rs.aY (wW (Rs.aR q)) λp q H' e' st=>?_)
 have e':aH {t with B:=upd t.B a (dj P w a rs) } W p.2 σ H':=e'.sU (t:={t with B:=upd t.B a (dj P w a rs) })
 obtain⟨e',ha⟩:=e'.Ec hB.1
 have s':=s.step e.wl rfl st.nxt s.wa e1 ha
 by_cases z:p.1=true
 ·rw[if_pos z]at q ⊢
  exact h1 W p.2 zs σ H' D a e' s' hB (Rs.aY q λr q W2 σ2 H2 e2 s2 n2=>q W2 σ2 H2 e2 s2 (st.nxt.trans n2))
 ·rw[if_neg z]at q ⊢
  exact q W σ H' e' s' st.nxt
end
def qO(g:GF)(b:ZF):List Tr->ZF
 | [],ρ,zs=>.ok (ρ,zs)
 |u::us,ρ,zs=>(g u ρ).bind λρ1=>(b ρ1 zs).bind λp=>qO g b us p.1 p.2
def tK(fi:IF)(g:GF)(b:ZF):ZF:=λρ zs=>(dO (fi ρ)).bind λp=>qO g b p.1 p.2 zs
section
variable {t:Tx}{P:Program}{w:World}{K:FZ}{j:Nat}
theorem Vl{wi:TI}{g:TG}{tb:TS}{fi:IF}{gf:GF}{b:ZF}{js:List Nat}(hi:∀t':Tx,t'.K=t.K->(∀c,¬t'.EX c)->SI t' wi fi)(hg:SG t g gf js)(hj:j∉js)(ng:∀T ρ c,gf T ρ ≠ .ex c)(hb:SZ t P w K j tb b):SZ t P w K j (Bj wi g tb) (tK fi gf b):=λW ρ zs σ H D a e s hB q=>by
 obtain⟨rs,e1,e2,_⟩:=s.ex
 have ep:aH {t with B:=upd t.B a (dj P w a rs),EX:=λ_=>False } W ρ σ H:=(e.Eb e1 (λ_ z=>by cases z) (λ_ z=>by cases z)).ex
 refine hi {t with B:=upd t.B a (dj P w a rs),EX:=λ_=>False } rfl (λ_=>id) W ρ σ H _ ep (Rs.aY (wW (Rs.aR q)) λp q J H1 e' st it=>?_)
 have e':aH {t with B:=upd t.B a (dj P w a rs) } W p.2 σ H1:=e'.sU (t:={t with B:=upd t.B a (dj P w a rs) })
 obtain⟨e',ha⟩:=e'.Ec hB.1
 have s':=s.step e.wl rfl st.nxt s.wa e1 ha
 obtain⟨us,ρ1⟩:=p
 dsimp only at q it e'
 refine⟨λi m σ' H'=>m=us.length-i/\i<=us.length/\∃ρ' zs' W',aH t W' ρ' σ' H'/\qN P w K a j zs' W' σ' H'/\dF W H1 W' H'/\(qO gf b (us.drop i) ρ' zs').post t.EX (λp=>∀vI mL dg,aH t vI p.1 mL dg->qN P w K a j p.2 vI mL dg->dF W' H' vI dg->D.nx mL dg),⟨us.length,by simp,Nat.zero_le _,ρ1,zs,W,e',s',dF.refl _ _,by
  rw[List.drop_zero]
  exact Rs.aY q λp q W2 σ2 H2 x1 x2 x3=>q W2 σ2 H2 x1 x2 (st.nxt.trans x3)⟩,?_⟩
 rintro i m σ2 H2 ⟨rfl,hi,ρ2,zs2,W2,y1,y2,n2,h2⟩
 have q:=it W2 H2 n2.same y1.wl i
 by_cases hlt:i<us.length
 ·rw[List.drop_eq_getElem_cons hlt]at h2
  obtain⟨go,y⟩:=q.2 us[i] (by simp[hlt])
  refine .inr ⟨go,λσ' H'=>∃ρ' zs' W',aH t W' ρ' σ' H'/\qN P w K a j zs' W' σ' H'/\dF W H1 W' H'/\(qO gf b (us.drop (i+1)) ρ' zs').post t.EX (λp=>∀vI mL dg,aH t vI p.1 mL dg->qN P w K a j p.2 vI mL dg->dF W' H' vI dg->D.nx mL dg),λσ' H' z=>⟨us.length-(i+1),by omega,rfl,hlt,z⟩,λx H3 yl=>?_⟩
  obtain⟨s3,r3⟩:=y x H3 yl
  have y3:=y1.grow s3
  have n3:dF W H1 W2 H3:=n2.trans (bL.of s3).nxt
  refine hg W2 ρ2 σ2 H3 x us[i] _ y3 r3 (Rs.aY (jB (Rs.aR h2) (ng _ _)) λρ4 h σ4 e4 ag=>?_)
  obtain⟨rs2,f1,f2,_⟩:=y2.ex
  have s4:=y2.step y1.wl (ag j hj) (bL.of s3).nxt y2.wa f1 (s3 _ _ f1)
  refine hb W2 ρ4 zs2 σ4 H3 _ a e4 s4 hB (Rs.aY (Rs.aR h) λr h W5 σ5 H5 e5 s5 n5=>?_)
  exact⟨r.1,r.2,W5,e5,s5,n3.trans n5,Rs.aY h λp h W6 σ6 H6 e6 s6 n6=>h W6 σ6 H6 e6 s6 (((bL.of s3).nxt.trans n5).trans n6)⟩
 ·have z:i=us.length:=by omega
  subst z
  rw[List.drop_length]at h2
  exact .inl ⟨q.1 rfl,h2 W2 σ2 H2 y1 y2 (dF.refl _ _)⟩
end
section
variable {t:Tx}{W:Addr->Prop}{ρ : En}{σ : St}{H:Hp}{a:Addr}{φ φ':Heap->Prop}
theorem aH.aeF(e:aH t W ρ σ H)(wa:W a)(h:H a=some (.ext φ))(h0:t.H0 a=none)(hB:t.B a=none)(n:∀C,HO.ext φ'≠iI a C):aH t W ρ σ (upd H a (.ext φ')):=by
 obtain⟨F,e⟩:=e
 have lst:∀{c:Addr} {xs:List V},H c=some (.lst xs)->upd H a (.ext φ') c=some (.lst xs):=λ{c xs} q=>by
  rw[bJ]
  ·exact q
  ·rintro rfl; rw[h]at q; cases q
 have off:=oR (H:=H) (o:=.ext φ') wa
 have keep:∀{c:Addr} {o:HO},(∀ψ,o ≠ .ext ψ)->H c=some o->upd H a (.ext φ') c=some o:=λ{c o} m q=>by
  rw[bJ]
  ·exact q
  ·rintro rfl; rw[h]at q; cases q; exact m _ rfl
 have tb:fG t.K (upd H a (.ext φ')):=λx hx c b q=>by
  obtain⟨ps,r,t1,t2⟩:=e.tab.ok x hx c b q
  refine⟨ps,keep (λ_ z=>by cases z) r,t1,λpos v k=>?_⟩
  obtain⟨c',o,z1,z2,z3⟩:=t2 pos v k
  exact⟨c',o,z1,keep (λ_ z=>by cases z) z2,z3⟩
 refine⟨F,e.len,e.zw,e.z0,λb w=>?_,λb o q r=>?_,λb q=>?_,λi u q=>?_,λi ts q=>?_,λi ts q=>?_,e.dis,λb o q=>?_,e.pd,λi ts q=>?_,e.dd,e.dm,e.db,⟨tb,e.tab.w,e.tab.r,e.tab.B⟩⟩
 ·by_cases z:b=a
  ·subst z
   exact .inr (.inr ⟨φ',eX ..,n⟩)
  ·unfold Lt
   rw[bJ z]
   exact e.wl b w
 ·rw[bJ]
  ·exact e.f0 b o q r
  ·rintro rfl; rw[h0]at q; cases q
 ·by_cases z:b=a
  ·subst z; exact h0
  ·rw[bJ z]at q
   exact e.n0 b q
 ·rw[off]; exact e.sh i u q
 ·obtain⟨c,xs,h1,h2,h3,h4,h5⟩:=e.ow i ts q
  exact⟨c,xs,h1,h2,h3,lst h4,by rw[off]; exact h5⟩
 ·obtain⟨c,xs,h1,h2,h3,h4,h5⟩:=e.rf i ts q
  exact⟨c,xs,h1,h2,h3,lst h4,by rw[off]; exact h5⟩
 ·rw[bJ]
  ·exact e.pn b o q
  ·rintro rfl; rw[hB]at q; cases q
 ·obtain⟨c,xs,h1,bs,d1,d2,d3,d4,d5⟩:=e.dp i ts q
  refine⟨c,xs,h1,bs,d1,d2,d3,lst d4,?_⟩
  rw[off]
  have go:∀{G:Hp} {xs:List V} {ts:List Tr} {bs:List Addr},DR t.K G H xs ts bs->DR t.K G (upd H a (.ext φ')) xs ts bs:=λ{G xs ts bs} d=>by
   induction d with
   |nil=>exact .nil
   |cl m r _ ih=>exact .cl m r ih
   |rw r m _ ih=>exact .rw (lst r) m ih
  exact go d5
end
section
variable {t:Tx}{j:Nat}{X:Cx}
def vJ(z:Int × Int)(zs:List (Int × Int)):List (Int × Int):=if z∈zs then zs else zs++[z]
def zP(fa:AF):ZF:=λρ zs=>(dO (fa ρ)).bind λp=>match p.1 with
 | [.v T _]=>(match zN T with
  |some z=>if zs.length<63 then .ok (p.2,vJ z zs)else .bad
  |none=>.bad)
 |_=>.bad
theorem aeG{ta:TA}{fa:AF}(hK:t.K=aD X.K)(ha:∀t':Tx,t'.K=t.K->(∀c,¬t'.EX c)->SA t' ta fa):SZ t X.prog X.w X.K j (yr (Vh X (kj j) ta)) (zP fa):=λW ρ zs σ H D a e s hB q=>by
 obtain⟨rs,e1,e2,e3,e4⟩:=s.ex
 refine⟨.ref a,s.sl,⟨a,rs,rfl,e1⟩,?_⟩
 have ep:aH {t with B:=upd t.B a (dj X.prog X.w a rs),EX:=λ_=>False } W ρ σ H:=(e.Eb e1 (λ_ z=>by cases z) (λ_ z=>by cases z)).ex
 refine ha {t with B:=upd t.B a (dj X.prog X.w a rs),EX:=λ_=>False } rfl (λ_=>id) W ρ σ H _ ep (Rs.aY (wW (Rs.aR q)) λp q vs H' e' st vo=>?_)
 have e':aH {t with B:=upd t.B a (dj X.prog X.w a rs) } W p.2 σ H':=e'.sU (t:={t with B:=upd t.B a (dj X.prog X.w a rs) })
 obtain⟨eu,hA⟩:=e'.Ec hB.1
 obtain⟨rvs,ρ'⟩:=p
 dsimp only at q vo eu
 split at q
 ·rename_i T fr _
  split at q
  ·rename_i z hz
   split at q
   ·rename_i hl
    cases vo with
    |cons v1 vr =>
     cases vr
     rename_i v
     have rp:Rep t.K (aN W H') v T:=v1.rep e.wn
     have kz:gZ X.K H' v z:=aeb X.K W H' v T z (.inl (by rw[<-hK]; exact rp)) hz
     obtain⟨p',rfl,_⟩:=id kz
     have hn:=e4.length_eq
     rw[List.length_map]at hn
     refine⟨a,rs,p',z,rfl,rfl,hA,λr hr=>Ed e.wl st.nxt (e3 r hr),kz,by omega,λrs' c ne=>?_⟩
     have nx:dF W H' W (upd H' a (dj X.prog X.w a rs')):=λb o nb hb=>⟨nb,by rw[bJ λx=>nb (by rw[x]; exact s.wa)]; exact hb⟩
     have mz:z∈rs.map (·.2)↔z∈zs:=e4.mem_iff
     have pk:(rs'.map (·.2)).Perm (vJ z zs)/\(vJ z zs).Nodup/\∀r∈rs',r∈rs\/r=(p',z):=by
      unfold vJ
      by_cases x:z∈zs
      ·rw[if_pos (mz.mpr x)]at c
       rw[if_pos x,c]
       exact⟨e4,s.nd,λr hr=>.inl hr⟩
      ·rw[if_neg λy=>x (mz.mp y)]at c
       rw[if_neg x]
       have c2:(rs'.map (·.2)).Perm (z::rs.map (·.2)):=c.map (λr:_ × (Int × Int)=>r.2)
       refine⟨c2.trans ((List.Perm.cons z e4).trans (List.perm_append_comm (l₁:=[z]))),?_,λr hr=>?_⟩
       ·rw[List.nodup_append]
        exact⟨s.nd,by simp,λy hy y' hy'=>by rw[List.mem_singleton.mp hy']; exact λq=>x (q▸hy)⟩
       ·rcases List.mem_cons.mp (c.mem_iff.mp hr)with r1|r1
        ·exact .inr r1
        ·exact .inl r1
     refine q W σ _ (eu.aeF s.wa hA hB.2 hB.1 ne) ⟨s.sl,s.wa,pk.2.1,rs',eX ..,ne,λr hr=>?_,pk.1⟩ (st.nxt.trans nx)
     refine Ed eu.wl nx ?_
     rcases pk.2.2 r hr with r1|r1
     ·exact Ed e.wl st.nxt (e3 r r1)
     ·rw[r1]; exact kz
   ·exact q.elim
  ·exact q.elim
 ·exact q.elim
end
def vK(z:Int × Int):List (Int × Int)->List (Int × Int)
 | []=>[z]
 |y::r=>if z.1<y.1\/(z.1=y.1/\z.2<y.2)then z::y::r else y::vK z r
def nM(zs:List (Int × Int)):List (Int × Int):=zs.foldr vK []
theorem Kz(z:Int × Int):∀l,(vK z l).Perm (z::l)
 | []=>.refl _
 |y::r=>by
  unfold vK
  split
  ·exact .refl _
  ·exact((Kz z r).cons y).trans (.swap ..)
theorem Eh:∀zs,(nM zs).Perm zs
 | []=>.refl _
 |z::r=>(Kz z (nM r)).trans ((Eh r).cons z)
theorem aeH{x y z:Int × Int}(a:jg x y)(b:jg y z):jg x z:=by
 unfold jg at *
 omega
theorem Vm(z:Int × Int):∀l:List (Int × Int),z∉l->l.Pairwise jg->(vK z l).Pairwise jg
 | [],_,_=>by unfold vK; exact List.pairwise_singleton ..
 |y::r,m,p=>by
  rw[List.pairwise_cons]at p
  unfold vK
  split
  ·rename_i h
   refine List.pairwise_cons.mpr ⟨λc hc=>?_,List.pairwise_cons.mpr p⟩
   rcases List.mem_cons.mp hc with rfl|hc
   ·exact h
   ·exact aeH h (p.1 c hc)
  ·rename_i h
   refine List.pairwise_cons.mpr ⟨λc hc=>?_,Vm z r (λq=>m (List.mem_cons_of_mem _ q)) p.2⟩
   rcases List.mem_cons.mp ((Kz z r).mem_iff.mp hc)with rfl|hc
   ·have ne:c≠y:=λq=>m (q▸List.mem_cons_self ..)
    obtain⟨c1,c2⟩:=c
    obtain⟨y1,y2⟩:=y
    have ne:¬(c1=y1/\c2=y2):=λq=>ne (by rw[q.1,q.2])
    unfold jg
    dsimp only at h ⊢
    omega
   ·exact p.1 c hc
theorem Vn:∀zs:List (Int × Int),zs.Nodup->(nM zs).Pairwise jg
 | [],_=>.nil
 |z::r,nd=>by
  rw[List.nodup_cons]at nd
  exact Vm z (nM r) (λq=>nd.1 ((Eh r).mem_iff.mp q)) (Vn r nd.2)
theorem Vo:∀{l m:List (Int × Int)},l.Pairwise jg->m.Pairwise jg->l.Perm m->l=m
 | [],m,_,_,p=>p.nil_eq
 |x::l,[],_,_,p=>by have:=p.length_eq; simp at this
 |x::l,y::m,a,b,p=>by
  rw[List.pairwise_cons]at a b
  have e:x=y:=by
   rcases List.mem_cons.mp (p.mem_iff.mp (List.mem_cons_self ..))with q|q
   ·exact q
   ·rcases List.mem_cons.mp (p.mem_iff.mpr (List.mem_cons_self ..))with q'|q'
    ·exact q'.symm
    ·have h1:=b.1 x q
     have h2:=a.1 y q'
     unfold jg at h1 h2
     omega
  subst e
  rw[Vo a.2 b.2 (p.cons_inv)]
section
variable {t:Tx}{W:Addr->Prop}{ρ : En}{σ : St}{H:Hp}{i:Nat}{v:V}
theorem aH.aeI(e:aH t W ρ σ H):aH t W (ρ.set i .un) (σ.set i (some v)) H:=by
 have mu:∀j,Mu (ρ.set i .un) j->j≠i/\Mu ρ j:=λj h=>by
  obtain⟨ts,h|h⟩:=h <;> rcases get_set h with⟨rfl,z,_⟩|⟨ne,h⟩
  ·cases z
  ·exact⟨ne,ts,.inl h⟩
  ·cases z
  ·exact⟨ne,ts,.inr h⟩
 have oth:∀(j:Nat) (u:Sl),u ≠ .un->(ρ.set i .un)[j]?=some u->(σ.set i (some v))[j]?=σ[j]? /\ ρ[j]?=some u:=λj u n h=>by
  rcases get_set h with⟨rfl,z,_⟩|⟨ne,h⟩
  ·exact(n z).elim
  ·exact⟨List.getElem?_set_ne (Ne.symm ne),h⟩
 have gC:∀(j:Nat) (us:List Tr),(ρ.set i .un)[j]?=some (Sl.dp us) -> ρ[j]?=some (Sl.dp us):=λj us h=>(oth j _ (λz=>by cases z) h).2
 have adr:∀j,Mu (ρ.set i .un) j->(σ.set i (some v))[j]?=σ[j]? := λj m=>List.getElem?_set_ne (Ne.symm (mu j m).1)
 obtain⟨F,e⟩:=e
 refine⟨F,by rw[List.length_set,List.length_set]; exact e.len,e.zw,e.z0,e.wl,e.f0,e.n0,λj u h=>?_,λj ts h=>?_,λj ts h=>?_,λj k a h1 h2 q1 q2=>?_,e.pn,λj a m q=>e.pd j a (mu j m).2 (by rw[adr j m]at q; exact q),
  λj us h=>?_,λj k us ws n h1 h2=>e.dd j k us ws n (gC j us h1) (gC k ws h2),λj k us c h1 m q=>e.dm j k us c (gC j us h1) (mu k m).2 (by rw[adr k m]at q; exact q),λj us h=>e.db j us (gC j us h),e.tab⟩
 ·obtain⟨q,h⟩:=oth j _ (λz=>by cases z) h
  rw[q]; exact e.sh j u h
 ·obtain⟨q,h⟩:=oth j _ (λz=>by cases z) h
  rw[q]; exact e.ow j ts h
 ·obtain⟨q,h⟩:=oth j _ (λz=>by cases z) h
  rw[q]; exact e.rf j ts h
 ·rw[adr j h1]at q1
  rw[adr k h2]at q2
  exact e.dis j k a (mu j h1).2 (mu k h2).2 q1 q2
 ·obtain⟨q,h⟩:=oth j _ (λz=>by cases z) h
  rw[q]; exact e.dp j us h
theorem aeJ{K:FZ}{D:Addr}{o:HO}{k:Int × Int}(wl:∀b,W b->Lt H b)(fr:H D=none)(h:gZ K H v k):Rep (aD K) (off D (aN W (upd H D o))) v (.tup [.int k.1,.int k.2]):=by
 obtain⟨p,rfl,q⟩:=h
 have go:∀u,H p=some u->(∀xs,u ≠ .lst xs)->(¬Lt H p)->off D (aN W (upd H D o)) p=some u:=λu e _ nl=>by
  have np:p≠D:=λz=>by rw[z,fr]at e; cases e
  rw[off_ne np,gj λw=>nl (wl p w),bJ np]
  exact e
 have q':cV K (off D (aN W (upd H D o))) p [.int k.1,.int k.2]:=q.imp (λq=>by
  rcases q with q|⟨u,q⟩
  ·exact .inl (go _ q (λ_ z=>by cases z) λw=>by rcases w with⟨_,z⟩|⟨_,z⟩|⟨_,z,_⟩ <;> (rw[q]at z; cases z))
  ·exact .inr ⟨u,go _ q (λ_ z=>by cases z) λw=>by rcases w with⟨_,z⟩|⟨_,z⟩|⟨_,z,_⟩ <;> (rw[q]at z; cases z)⟩) id
 exact .tup q'.ofK (.cons (.int _) (.cons (.int _) .nil))
theorem Vp{K:FZ}{D:Addr}{o:HO}(wl:∀b,W b->Lt H b)(fr:H D=none):∀rs:List (Addr × (Int × Int)),(∀r∈rs,gZ K H (.ref r.1) r.2)->aF (aD K) (off D (aN W (upd H D o))) (rs.map λr=>V.ref r.1) ((rs.map (·.2)).map λk=>Tr.tup [.int k.1,.int k.2])
 | [],_=>.nil
 |r::l,h=>.cons (aeJ wl fr (h r (List.mem_cons_self ..))) (Vp wl fr l λr hr=>h r (List.mem_cons_of_mem _ hr))
end
section
variable {t:Tx}{j k:Nat}{X:Cx}
def Vq(X:Cx)(j k:Nat)(tb:TS):TS:=oE (lR (jm (Ku X) kW) (dU j)) (oE tb (lR (jm (Ks X) (kY (kj j) kW)) (dU k)))
def vL(j k:Nat)(f:ZF):SF:=λρ=>if j < ρ.length then(f (ρ.set j .un) []).bind λp=>if p.2.length<64 then .ok (.nx,p.1.set k (.ow ((nM p.2).map λz=>.tup [.int z.1,.int z.2])))else .bad else .bad
theorem aeK{tb:TS}{f:ZF}(hK:t.K=aD X.K)(hb:SZ t X.prog X.w X.K j tb f):SS t (Vq X j k tb) (vL j k f):=λW ρ σ H D e q=>by
 unfold vL at q
 split at q
 ·rename_i hj
  refine⟨rfl,λa n ne=>?_⟩
  have sm:=dW n (dj X.prog X.w a [])
  have e2:=((e.grow sm).aeI (i:=j) (v:=.ref a)).widen eX ne
  have nx:dF W H (λb=>W b\/b=a) (upd H a (dj X.prog X.w a [])):=λb o nb hb=>⟨λz=>z.elim nb λz=>(by rw[z,n]at hb; cases hb),sm b o hb⟩
  refine hb _ (ρ.set j .un) [] (σ.set j (some (.ref a))) _ _ a e2 ⟨uK (by rw[<-e.len]; exact hj),.inr rfl,.nil,[],eX,ne,λ_ h=>(by cases h),.refl _⟩ ⟨e.Cz n,e.n0 a n⟩ (Rs.aY (Rs.aR q) λp q W1 σ1 H1 e1 s1 n1=>?_)
  split at q
  ·rename_i h64
   obtain⟨rs,r1,r2,r3,r4⟩:=s1.ex
   refine⟨.ref a,s1.sl,a,rs,rfl,r1,r3,r4.nodup_iff.mpr s1.nd,by have:=r4.length_eq; rw[List.length_map]at this; omega,λD' rs' fr pm pw=>?_⟩
   have KC:=dW fr (.lst (rs'.map λr=>V.ref r.1))
   have nw:¬W1 D':=λw=>e1.wn D' w fr
   have Km:(rs'.map (·.2)).Perm p.2:=(pm.map (λr:Addr × (Int × Int)=>r.2)).trans r4
   have es:rs'.map (·.2)=nM p.2:=Vo (List.pairwise_map.mpr pw) (Vn _ s1.nd) (Km.trans (Eh _).symm)
   have rp:=Vp (o:=.lst (rs'.map λr=>V.ref r.1)) e1.wl fr rs' λr hr=>r3 r (pm.mem_iff.mp hr)
   rw[es,<-hK]at rp
   refine q _ _ _ ((e1.grow KC).Ry nw (e1.hide KC fr eX) (e1.n0 D' fr) (e1.Cz fr) eX rp) ((nx.trans n1).trans λb o nb hb=>⟨λz=>z.elim nb λz=>(by rw[z,fr]at hb; cases hb),KC b o hb⟩)
  ·exact q.elim
 ·exact q.elim
theorem aeL{tb tr:TS}{f:ZF}{g:SF}(hK:t.K=aD X.K)(hb:SZ t X.prog X.w X.K j tb f)(hr:SS t tr g):SS t (oE (lR (jm (Ku X) kW) (dU j)) (oE tb (oE (lR (jm (Ks X) (kY (kj j) kW)) (dU k)) tr))) (aJ (vL j k f) g) :=
 show SS t (oE (Vq X j k tb) tr) (aJ (vL j k f) g)from dw (aeK (k:=k) hK hb) hr
end
section
variable {X:Cx}{x:Str}{p pos:Pos}
theorem aeM{r:List V->Hp->VK->Prop}{T:String}(hc:iH X (.type T) r)(hm:X.mg x=none)(hv:bootBuiltins x=some (.type T):=by decide +kernel)(hg:X.env.kindOf x=some .globalImplicit:=by kernel_rfl)(hn:x ≠ "__name__" := by decide +kernel) (hdb:(x == ("__debug__" : Str))=false:=by kernel_rfl) :
  PE X (.Call (.Name x p) [] [] pos) (jm r kW):=Zu hc hg hm hv hn hdb
end
open PySem.SeqAt
end L2
end
section
namespace L2
open PySem PySem.Spec PyProof.Rows
def qP:GM:=λts as=>match as with
 | []=>(match ts[ts.length - 1]? with
  |some T=>.ok (ts.dropLast,T)
  |none=>.bad)
 |_=>.bad
theorem aF.last{K:FZ}{G:Hp}:∀{xs:List V} {ts:List Tr} (i:Nat) {T:Tr},aF K G xs ts->ts[i]?=some T->∃v,xs[i]?=some v/\Rep K G v T
 |_,_,0,_,.cons h _,q=>by cases q; exact⟨_,rfl,h⟩
 |_,_,i+1,_,.cons _ r,q=>aF.last i r q
theorem aF.init{K:FZ}{G:Hp}:∀{xs:List V} {ts:List Tr},aF K G xs ts->aF K G xs.dropLast ts.dropLast
 |_,_,.nil=>.nil
 |_,_,.cons _ .nil=>.nil
 |_,_,.cons h (.cons h' r)=>.cons h (aF.init (.cons h' r))
theorem aF.ln{K:FZ}{G:Hp}:∀{xs:List V} {ts:List Tr},aF K G xs ts->xs.length=ts.length
 |_,_,.nil=>rfl
 |_,_,.cons _ r=>congrArg (· + 1) (aF.ln r)
theorem aeN:CK Hx qP:=λK G a xs ts vs as H Q ts' T hx r ra q h=>by
 unfold qP at q
 split at q
 ·split at q
  ·rename_i T' hT
   cases q
   cases ra
   obtain⟨v,e,rv⟩:=aF.last _ r hT
   exact⟨a,xs,v,rfl,rfl,hx,by rw[aF.ln r]; exact e,h _ v (aF.init r) rv⟩
  ·cases q
 ·cases q
theorem aeO(ts as:List Tr)(c:Str):qP ts as ≠ .ex c:=by
 unfold qP
 split
 ·split <;> (intro z; cases z)
 ·intro z; cases z
theorem aeP{t:Tx}{K:FZ}(i:Nat):SE t (Hs K "list" Hx (kj i)) (uP i qP):=abI i aeN aeO
end L2
end
section
namespace BH
open PySem L2
noncomputable abbrev aeQ:SF:=(aJ (vL 1 5 (tK (fH (ak (bK (g1 bM) (ak (aq aC (aj 0) (eC (.int 0))) au)) au)) (gN 2) (tK (fH (ak (aj 2) au)) (gN 3) (Ef (xO (aV (aG xH (ak (aj 0) (ak (aj 2) (ak (aj 3) au)))) (gN 4))) (tH (iR (cg (aq (yP not) (aj 4) (eC .non))) (iR (cZ (aG nG (ak (eC (.tup [(.int 0),(.int 1)])) (ak (aj 4) au)))) (cZ (aG nG (ak (aj 4) (ak (eC (.tup [(.int 1),(.int 1)])) au)))))) (zP (ak (aj 4) au))))))) (bB (vf (dR [none,some 5] (cW (aG lF (ak (aj 5) au))) (gN 0) c7 (aq aC (aj 1) (aj 0))))))
def tL:FP:=bC 6 aeQ
noncomputable abbrev aeR:SF:=(aJ (je (aG vC (ak (aj 0) au))) (aJ (je (aG xu (ak (aj 0) (ak (aj 1) au)))) (aJ (cA (cg (aq fC (bK (g1 bM) (ak (aj 0) au)) (eC (.int 2)))) (uQ "TooMany" (eC (.str "stretches are told for a book of two lists"))) cB) (aJ (aV (aq bW (aq bW (iB (ak (eC (.tup [(.int 0),(.int 1)])) au)) (aG tL (ak (aj 0) au))) (iB (ak (eC (.tup [(.int 1),(.int 1)])) au))) (gN 2)) (aJ (sE 3 (iB au)) (aJ (fO (fQ (zp (ak (aj 2) (ak (uJ (aj 2) (uH (eC (.int 1))) uG) au))) (gT 2 (bA (gN 4) (bA (gN 5) dz))) (aJ (aV (aG pH (ak (eC (.tup [(.int 1),(.int 2)])) (ak (aG pG (ak (aj 4) (ak (aj 5) au))) au))) (gN 6)) (aJ (aV (aG xG (ak (aj 0) (ak (gk (ak (eC (.str "shares")) (ak (iB (ak (aj 6) (ak (aG qJ (ak (eC (.tup [(.int 1),(.int 1)])) (ak (aj 6) au))) au))) au))) (ak (aj 1) au)))) (gN 7)) (aJ (cA (iR (cZ (aj 3)) (cg (aq dX (aq aC (aq aC (aj 3) (wM nu (eC (.int 1)))) (eC (.int 2))) (aj 7)))) (aV (aq aC (uP 3 qP) (eC (.int 0))) (gN 4)) cB) (je (lZ 3 jf (ak (gk (ak (aj 4) (ak (aj 5) (ak (aj 7) au)))) au)))))))) (bB (aj 3))))))))
def vM:FP:=bC 8 aeR
end BH
end
section
namespace L2
open PySem PySem.Spec PyProof.Rows
abbrev Vr(h:Heap)(T:Addr)(a b c:Value):Prop:=h.get? T=some {cls:=.type "tuple",data:=.seq #[a,b,c] }
def Vs(m1 m2 m3 y I O j1 j2 j3:Addr)(i:Nat)(h:Heap):Prop:=IsZip h y I O .none/\Vr h I (.ref j1) (.ref j2) (.ref j3)/\(∃a b c,Vr h O a b c)/\h.IsListIter j1 m1 i/\h.IsListIter j2 m2 i/\h.IsListIter j3 m3 i
section
variable {P:Program}{w:World}{K:FZ}
theorem Vs.at{m1 m2 m3 y I O j1 j2 j3:Addr}{i:Nat}{h:Heap}(st:Vs m1 m2 m3 y I O j1 j2 j3 i h):∀b∈[y,I,O,j1,j2,j3],∃o,h.get? b=some o/\∀v,o.data ≠ .cell v:=λb hb=>by
 obtain⟨hy,hI,⟨a,b',c,hO⟩,⟨o1,e1,_,d1⟩,⟨o2,e2,_,d2⟩,⟨o3,e3,_,d3⟩⟩:=st
 simp only[List.mem_cons,List.not_mem_nil,or_false]at hb
 rcases hb with rfl|rfl|rfl|rfl|rfl|rfl
 ·exact⟨_,hy,λv q=>nomatch q⟩
 ·exact⟨_,hI,λv q=>nomatch q⟩
 ·exact⟨_,hO,λv q=>nomatch q⟩
 ·exact⟨o1,e1,λv q=>by rw[d1]at q; cases q⟩
 ·exact⟨o2,e2,λv q=>by rw[d2]at q; cases q⟩
 ·exact⟨o3,e3,λv q=>by rw[d3]at q; cases q⟩
end
theorem n5(n m:Nat)(h:m<n):m∉[n+5,n+4,n,n+1,n+2]:=by
 simp only[List.mem_cons,List.not_mem_nil,or_false,not_or]
 omega
theorem n6(n d:Nat)(h:d∈[n+5,n+3,n+4,n,n+1,n+2]):n<=d:=by
 simp only[List.mem_cons,List.not_mem_nil,or_false]at h
 omega
variable {t:Tx}
end L2
end
section
namespace L2
open PySem PySem.Spec PyProof.Rows PySem.W
end L2
end
section
namespace L2
open PySem PySem.Spec PyProof.Rows
end L2
end
section
namespace K98
open PySem L2 BH
def top(i:Nat):Stmt:=PySem.Challenge.pw_bestheads_k98_whole_weights_and_few.main.body.getD i (.Pass ⟨0,0,0,0⟩)
abbrev KD:Stmt:=top 8
abbrev KH:Stmt:=top 9
abbrev KJ:Stmt:=top 10
abbrev KN:Stmt:=top 11
abbrev KQ:Stmt:=top 12
abbrev KR:Stmt:=top 13
abbrev KY:Stmt:=top 14
abbrev KZ:Stmt:=top 15
abbrev K1:Stmt:=top 16
abbrev K3:Stmt:=top 17
abbrev Ei:Stmt:=top 18
abbrev Ej:Stmt:=top 19
abbrev K4:Stmt:=top 23
abbrev Ek:Stmt:=top 24
abbrev zQ:Stmt:=top 25
abbrev K5:Stmt:=top 26
abbrev K6:Stmt:=top 27
abbrev El:Stmt:=top 30
abbrev K7:Stmt:=top 31
abbrev K8:Stmt:=top 32
abbrev K9:Stmt:=top 33
abbrev La:Stmt:=top 34
abbrev Lb:Stmt:=top 35
abbrev Ld:Stmt:=top 36
abbrev Le:Stmt:=top 38
abbrev Lf:Stmt:=top 39
abbrev Em:Stmt:=top 40
abbrev Eo:Stmt:=top 41
abbrev Ep:Stmt:=top 42
abbrev Er:Stmt:=top 43
abbrev Lg:Stmt:=top 48
abbrev Es:Stmt:=top 49
abbrev Lh:Stmt:=top 50
abbrev Li:Stmt:=top 52
abbrev Lj:Stmt:=top 53
abbrev Lk:Stmt:=top 54
abbrev Ln:Stmt:=top 55
abbrev Lp:Stmt:=top 56
abbrev Lr:Stmt:=top 57
abbrev Ls:Stmt:=top 58
abbrev Lw:Stmt:=top 59
abbrev xP:Stmt:=top 60
structure Nm(mg:Str->Option Value):Prop where
 Lx:mg "abs" = none
 Et:mg "all" = none
 aeS:mg "bool" = none
 aeT:mg "int" = none
 vN:mg "isinstance" = none
 gQ:mg "len" = none
 Ly:mg "list" = none
 nQ:mg "range" = none
 aeU:mg "set" = none
 Eu:mg "sorted" = none
 Vt:mg "tuple" = none
 Vu:mg "zip" = none
noncomputable abbrev Lz:SF:=(aJ (aV (eC (.int 0)) (gN 2)) (aJ (cA (cg (aq gU (aj 1) (bK (g1 bM) (ak (aj 0) au)))) (aV (aq aC (aj 0) (aj 1)) (gN 2)) cB) (aJ (cA (cg (aq jZ (aj 2) (aq lX (eC (.int 10)) (eC (.int 18))))) (bB (aq dh (aq iM (aj 2) (aq lX (eC (.int 10)) (eC (.int 18)))) (aq lX (eC (.int 10)) (eC (.int 60))))) cB) (aJ (aV (aq dh (aq bW (aq bW (aq bR (aj 2) (eC (.int 48271))) (aq bR (aj 1) (eC (.int 69621)))) (eC (.int 11))) (eC (.int 2147483629))) (gN 3)) (aJ (aV (aq dh (aq bR (aj 3) (aj 3)) (eC (.int 2147483587))) (gN 3)) (bB (aq bW (aq bR (aj 3) (eC (.int 2147483563))) (aq dh (aq bR (aj 3) (aj 3)) (eC (.int 2147483563))))))))))
def j8:FP:=bC 4 Lz
noncomputable abbrev LC:SF:=(aJ (aV (bK (g1 lY) (ak (aj 0) au)) (gN 2)) (aJ (aV (bK (g1 lY) (ak (aj 1) au)) (gN 3)) (aJ (fO (oW (qx 3) (cg (aq oU (aj 3) (eC (.int 0)))) (wV 2 3 (ak (aj 3) (ak (aq dh (aj 2) (aj 3)) au))))) (aJ (cA (cg (aq gU (aj 1) (eC (.int 0)))) (aV (aq iM (eC (.int 0)) (aj 2)) (gN 2)) cB) (bB (gk (ak (aq eO (aj 0) (aj 2)) (ak (aq eO (aj 1) (aj 2)) au))))))))
def jx:FP:=bC 4 LC
noncomputable abbrev LK:SF:=(bB (aG jx (ak (aq bW (aq bR (aq aC (aj 0) (eC (.int 0))) (aq aC (aj 1) (eC (.int 1)))) (aq bR (aq aC (aj 1) (eC (.int 0))) (aq aC (aj 0) (eC (.int 1))))) (ak (aq bR (aq aC (aj 0) (eC (.int 1))) (aq aC (aj 1) (eC (.int 1)))) au))))
def vO:FP:=bC 2 LK
abbrev LQ:SF:=(bB (aG jx (ak (aq bR (aq aC (aj 0) (eC (.int 0))) (aq aC (aj 1) (eC (.int 0)))) (ak (aq bR (aq aC (aj 0) (eC (.int 1))) (aq aC (aj 1) (eC (.int 1)))) au))))
def pL:FP:=bC 2 LQ
noncomputable abbrev LR:SF:=(bB (aG jx (ak (aq iM (aq bR (aq aC (aj 0) (eC (.int 0))) (aq aC (aj 1) (eC (.int 1)))) (aq bR (aq aC (aj 1) (eC (.int 0))) (aq aC (aj 0) (eC (.int 1))))) (ak (aq bR (aq aC (aj 0) (eC (.int 1))) (aq aC (aj 1) (eC (.int 1)))) au))))
def iV:FP:=bC 2 LR
abbrev Vv:SF:=(bB (aq gU (aq bR (aq aC (aj 0) (eC (.int 0))) (aq aC (aj 1) (eC (.int 1)))) (aq bR (aq aC (aj 1) (eC (.int 0))) (aq aC (aj 0) (eC (.int 1))))))
def mO:FP:=bC 2 Vv
noncomputable abbrev Ma:SF:=(aJ (aV (aG j8 (ak (aj 0) (ak (aj 1) au))) (gN 4)) (aJ (aV (aq bW (eC (.int 1)) (aq dh (aj 4) (aj 3))) (gN 5)) (aJ (aV (aj 2) (gN 6)) (aJ (aV (aq aC (Dd [.int 2,.int 3,.int 4,.int 6,.int 10,.int 24,.int 97,.int 999999999999]) (aq dh (aq eO (aj 4) (eC (.int 1000))) (eC (.int 8)))) (gN 7)) (aJ (sE 8 (iB au)) (aJ (fO (fQ (fH (ak (aj 6) au)) (gN 9) (aJ (aV (aG j8 (ak (aj 0) (ak (aq bW (aq bW (aj 1) (eC (.int 1))) (aj 9)) au))) (gN 10)) (aJ (sE 11 (iB au)) (aJ (fQ (fH (ak (aj 5) au)) (gN 12) (aJ (cA (cg (aq oU (aj 7) (eC (.int 100)))) (aV (aG j8 (ak (aj 0) (ak (aq dh (aq bW (aq bW (aq bW (aj 1) (eC (.int 1))) (aj 9)) (aq bR (eC (.int 5)) (aj 12))) (eC (.int 63))) au))) (gN 10)) cB) (aJ (je (lZ 11 jf (ak (aG jx (ak (aq dh (aj 10) (aq bW (aj 7) (eC (.int 1)))) (ak (aj 7) au))) au))) (aV (aq eO (aj 10) (aq bW (aj 7) (eC (.int 1)))) (gN 10))))) (CJ 11 (je (lZ 8 jf (ak (aj 11) au))))))))) (bB (aj 8))))))))
def xQ:FP:=bC 13 Ma
noncomputable abbrev Vw:SF:=(aJ (aV (aG iV (ak (eC (.tup [.int 1,.int 1])) (ak (aj 1) au))) (gN 3)) (aJ (sE 4 (iB au)) (aJ (fO (fQ (fH (ak (bK (g1 bM) (ak (aq aC (aj 0) (eC (.int 0))) au)) au)) (gN 5) (je (lZ 4 jf (ak (aG vO (ak (aG pL (ak (aj 1) (ak (aq aC (aq aC (aj 0) (eC (.int 0))) (aj 5)) au))) (ak (aG pL (ak (aj 3) (ak (aq aC (aq aC (aj 0) (eC (.int 1))) (aj 5)) au))) au))) au))))) (aJ (fO (fQ (cW (aj 2)) (gN 5) (fQ (fH (ak (bK (g1 bM) (ak (aj 4) au)) au)) (gN 6) (cA (iR (cg (aq (iK not) (aj 6) (aj 2))) (cZ (aG mO (ak (aq aC (aj 4) (aj 5)) (ak (aq aC (aj 4) (aj 6)) au))))) (bB (eC (.bl false))) cB)))) (bB (eC (.bl true)))))))
def jM:FP:=bC 7 Vw
noncomputable abbrev aeV:SF:=(aJ (aV (aG xQ (ak (aj 0) (ak (eC (.int 0)) (ak (eC (.int 2)) (ak (eC (.int 8)) au))))) (gN 1)) (aJ (fO (fQ (fH (ak (aq bW (bK (g1 bM) (ak (aq aC (aj 1) (eC (.int 0))) au)) (eC (.int 1))) au)) (gN 2) (aJ (aV (aG vM (ak (aj 1) (ak (aj 2) au))) (gN 3)) (aJ (aV (aG vM (ak (vf (aj 1)) (ak (aj 2) au))) (gN 4)) (aJ (aV (dR [none,none,none] (cW (aj 4)) (gT 3 (bA (gN 0) (bA (gN 1) (bA (gN 2) dz)))) c7 (gk (ak (aG iV (ak (eC (.tup [.int 1,.int 1])) (ak (aj 1) au))) (ak (aG iV (ak (eC (.tup [.int 1,.int 1])) (ak (aj 0) au))) (ak (aj 2) au))))) (gN 5)) (aJ (cA (cg (aq fC (vf (aj 5)) (aj 3))) (bB (eC (.bl false))) cB) (aJ (fQ (fH (ak (eC (.int 4)) au)) (gN 6) (aJ (aV (aG j8 (ak (aj 0) (ak (aq bW (eC (.int 7)) (aj 6)) au))) (gN 7)) (aJ (aV (aq bW (eC (.int 1)) (aq dh (aj 7) (eC (.int 40)))) (gN 8)) (aJ (aV (aG jx (ak (aq dh (aq eO (aj 7) (eC (.int 40))) (aq bW (aj 8) (eC (.int 1)))) (ak (aj 8) au))) (gN 9)) (aJ (aV (gk (ak (eC (.str "shares")) (ak (iB (ak (aj 9) (ak (aG iV (ak (eC (.tup [.int 1,.int 1])) (ak (aj 9) au))) au))) au))) (gN 10)) (aJ (aV (bK (g1 mG) (ak (dR [none,none] (cW (aG mH (ak (aj 1) (ak (aj 10) (ak (aj 2) au))))) (gT 2 (bA (gN 0) (bA (gN 1) dz))) c7 (aj 0)) au)) (gN 11)) (fQ (cW (aj 3)) (gT 3 (bA (gN 12) (bA (gN 13) (bA (gN 14) dz)))) (aJ (cA (iR (cZ (aG mO (ak (aj 12) (ak (aj 9) au)))) (iR (cZ (aG mO (ak (aj 9) (ak (aj 13) au)))) (cg (aq fC (aj 14) (aj 11))))) (bB (eC (.bl false))) cB) (cA (iR (cg (aq (iK id) (aj 9) (gk (ak (aj 12) (ak (aj 13) au))))) (fP (cZ (aG jM (ak (aj 1) (ak (aj 9) (ak (aj 14) au))))))) (bB (eC (.bl false))) cB))))))))) (fQ (fH (ak (bK (g1 bM) (ak (aj 3) au)) au)) (gN 6) (aJ (aV (aq aC (aj 3) (aj 6)) (gT 3 (bA (gN 12) (bA (gN 13) (bA (gN 14) dz))))) (aJ (cA (lB (fP (cZ (aG jM (ak (aj 1) (ak (aj 12) (ak (aj 14) au)))))) (fP (cZ (aG jM (ak (aj 1) (ak (aj 13) (ak (aj 14) au))))))) (bB (eC (.bl false))) cB) (aJ (aV (aq aC (aq aC (aj 4) (aq iM (aq iM (bK (g1 bM) (ak (aj 4) au)) (eC (.int 1))) (aj 6))) (eC (.int 1))) (gN 15)) (aJ (aV (dR [none,none] (cW (aG mH (ak (aj 1) (ak (gk (ak (eC (.str "shares")) (ak (iB (ak (aj 12) (ak (aj 15) au))) au))) (ak (aj 2) au))))) (gT 2 (bA (gN 0) (bA (gN 1) dz))) c7 (aj 0)) (gN 16)) (cA (lB (cg (aq fC (bK (g1 bM) (ak (aj 16) au)) (aj 2))) (fP (cZ (aG jM (ak (aj 1) (ak (aj 12) (ak (aj 16) au))))))) (bB (eC (.bl false))) cB))))))))))))) (bB (eC (.bl true)))))
def zR:FP:=bC 17 aeV
local macro_rules | `(tactic| walk_at "1")=>`(tactic| exact λ_ _ _ _ _ _=>L2.au1 λ_=>by kernel_rfl)
local macro_rules | `(tactic| walk_at "2")=>`(tactic| exact λ_ _ _ _ _ _=>L2.au2 λ_ _=>by kernel_rfl)
local macro_rules | `(tactic| walk_at "3")=>`(tactic| exact λ_ _ _ _ _ _=>L2.au3 λ_ _ _=>by kernel_rfl)
local macro_rules | `(tactic| walk_at "4")=>`(tactic| exact λ_ _ _ _ _ _=>L2.au4 λ_ _ _ _=>by kernel_rfl)
local macro_rules | `(tactic| walk_at "s")=>`(tactic| first|(refine uM (by assumption) ?_; exact jd (cF _) (jd (cF _) uL)))
local macro_rules | `(tactic| walk_at "s")=>`(tactic| with_reducible first|exact aP _|refine aL ?_ ?_|exact bG|refine bF ?_|exact dB|exact fZ _|refine dw ?_ ?_|exact cF _|exact cJ|refine mD (by assumption) ?_ ?_|refine j4 ?_|refine gP (js:=?_) ?_ ?_ ?_|refine gw (by assumption) (by assumption) ?_ ?_|refine mF (by assumption) (by assumption) ?_ ?_|refine uZ ?_|refine ju ?_ ?_|exact uY|exact Jr|exact Iz|refine abk ?_ ?_|exact p7 _|exact acJ (by assumption)|exact Df (by assumption)|refine aem (js:=?_) (by assumption) ?_ ?_ (λ_ _ _=>?_) (λ_ _ _=>?_) ?_ (by decide)|exact qw (by assumption) (by assumption)|refine abm ?_ ?_ ?_|refine Rx (by assumption) _ ?_|refine uE ?_|exact Q7|refine abl ?_|refine Rt (by assumption) ?_ ?_ ?_|exact p8 _|refine rW ?_|refine wR ?_|refine sH (by assumption) ?_|refine R8 (by assumption) ?_|exact Rn|refine Ro ?_|exact vd (by decide)|refine yU ?_|refine wQ (js:=?_) ?_ ?_ ?_ ?_|refine abz _ ?_|refine jJ ?_ ?_ ?_|exact jH|refine ael (by assumption) (λ_ _ _=>?_)|refine Rz _ ?_|refine abN _ _ ?_|refine abA _ ?_ ?_|refine uF ?_ ?_|refine nA ?_|refine Cu ?_ ?_|refine lA ?_|refine aek (by assumption) ?_|refine acw (by assumption) ?_|refine u0 (by assumption) ?_ ?_|refine Jv (by assumption) ?_|refine RZ _ ?_|refine RW (by assumption) ?_ ?_ ?_ ?_ ?_ ?_ ?_|refine CW (by assumption) ?_ ?_|refine x_eq (by assumption) ?_ ?_|refine x_ge (by assumption) ?_ ?_|refine acv (by assumption) ?_ ?_|refine RV (by assumption) ?_ ?_|refine x_len (by assumption) ?_|refine x_lt (by assumption) ?_ ?_|refine Ju (by assumption) ?_ ?_|refine acq (by assumption) ?_ ?_|refine za (by assumption) ?_ ?_|refine acs (by assumption) ?_ ?_|refine acr (by assumption) ?_ ?_|refine Tw (by assumption) ?_|refine Jt (by assumption) ?_ ?_)
local macro_rules | `(tactic| walk_at "t")=>`(tactic| ((try dsimp only[jU]); repeat' walk_at "s"))
section
variable {P:Program}{w:World}{K:FZ}{mg:Str->Option Value}{base:Heap}{cl:Str->Addr}
theorem aeW(a:At K mg "_law_add" Lk) (M:Nm mg) (qQ:aM P w K mg base 1 "_law_frac" (["_law_top", "_law_bottom"]:List Str) (aQ K cl 2 jx)):aM P w K mg base 2 "_law_add" (["_law_one", "_law_other"]:List Str) (aQ K cl 2 vO):=by
 have S:=fS (["_law_one", "_law_other"]:List Str) (["_law_one", "_law_other"]:List Str) (bx Lk)
 exact a.cQ S (cl:=cl) (by decide) (by walk_at "2") (λf cdv A outer s H E hr=>⟨_,(aU (bO (pc1 (E:=E) qQ hr cL (aA (aZ iz (aZ eH (bh (ao 0) aK) (bh (ao 1) aK)) (aZ eH (bh (ao 1) aK) (bh (ao 0) aK))) (aA (aZ eH (bh (ao 0) aK) (bh (ao 1) aK)) aB))))),λt hK hx=>by delta LK; walk_at "t"⟩)
theorem aeX(a:At K mg "_law_below" Lr) (M:Nm mg):aM P w K mg base 1 "_law_below" (["_law_one", "_law_other"]:List Str) (aQ K cl 2 mO):=by
 have S:=fS (["_law_one", "_law_other"]:List Str) (["_law_one", "_law_other"]:List Str) (bx Lr)
 exact a.cQ S (cl:=cl) (by decide) (by walk_at "2") (λf cdv A outer s H E hr=>⟨_,(aU (bO (rD (yQ hr.units) (aZ eH (bh (ao 0) aK) (bh (ao 1) aK)) (aZ eH (bh (ao 1) aK) (bh (ao 0) aK)) (eG _)))),λt hK hx=>by delta Vv; walk_at "t"⟩)
theorem aeY(a:At K mg "_law_best" Lw) (M:Nm mg) (zT:aM P w K mg base 2 "_law_sub" (["_law_one", "_law_other"]:List Str) (aQ K cl 2 iV)) (aeZ:aM P w K mg base 2 "_law_add" (["_law_one", "_law_other"]:List Str) (aQ K cl 2 vO)) (Vx:aM P w K mg base 2 "_law_mul" (["_law_one", "_law_other"]:List Str) (aQ K cl 2 pL)) (Ew:aM P w K mg base 1 "_law_below" (["_law_one", "_law_other"]:List Str) (aQ K cl 2 mO)):aM P w K mg base 3 "_law_best" (["_law_book_here", "_law_weight", "_law_things"]:List Str) (aQ K cl 3 jM):=by
 have S:=fS (["_law_book_here", "_law_weight", "_law_things", "_law_rest", "_law_worths", "_law_thing", "_law_other"]:List Str) (["_law_book_here", "_law_weight", "_law_things"]:List Str) (bx Lw)
 exact a.cQ S (cl:=cl) (by decide) (by walk_at "3") (λf cdv A outer s H E hr=>⟨_,(aW (cG 3 S.nd (pc1 (E:=E) zT hr cL (aA (wY (G:=aD K) (Ts:=[.int 1,.int 1]) (by kernel_rfl)) (aA (ao 1) aB)))) (aW (cG 4 S.nd (oM aB)) (aW (PS.kE (jD PassesOwn.never rfl (o9 M.nQ (aA (eF gO M.gQ (aA (bh (ao 0) aK) aB)) aB)) (cC 5 S.nd) (aU (psE (BK PySem.F.plainAttrs_list PySem.F.slot_list_append PySem.F.type_list_append yC (ao 4) (oJ (cX aeZ hr (aA (cX Vx hr (aA (ao 1) (aA (bh (bh (ao 0) aK) (ao 5)) aB))) (aA (cX Vx hr (aA (ao 3) (aA (bh (bh (ao 0) aK) (ao 5)) aB))) aB))) aB)))))) (aW (PS.kE (jD PassesOwn.never rfl (jt (ao 2)) (cC 5 S.nd) (aU (jD PassesOwn.never rfl (o9 M.nQ (aA (eF gO M.gQ (aA (ao 4) aB)) aB)) (cC 6 S.nd) (aU (dZ (PW.pt (ud (fX (aaO hr.units) (ao 6) (ao 2) (by with_unfolding_all rfl)) (yq (gH (cX Ew hr (aA (bh (ao 4) (ao 5)) (aA (bh (ao 4) (ao 6)) aB))) (by intro _; rfl))))) (aU (bO jk)) dY)))))) (aU (bO jk)))))),λt hK hx=>by delta Vw; walk_at "t"⟩)
theorem ae0(a:At K mg "_law_book" Ls) (M:Nm mg) (zU:aM P w K mg base 1 "_law_cell" (["_law_script", "_law_k"]:List Str) (aQ K cl 2 j8)) (qQ:aM P w K mg base 1 "_law_frac" (["_law_top", "_law_bottom"]:List Str) (aQ K cl 2 jx)):aM P w K mg base 2 "_law_book" (["_law_script", "_law_at", "_law_lists", "_law_most"]:List Str) (aQ K cl 4 xQ):=by
 have S:=fS (["_law_script", "_law_at", "_law_lists", "_law_most", "_law_number", "_law_many", "_law_wide", "_law_bottom", "_law_book_here", "_law_k", "_law_other", "_law_row", "_law_thing"]:List Str) (["_law_script", "_law_at", "_law_lists", "_law_most"]:List Str) (bx Ls)
 exact a.cQ S (cl:=cl) (by decide) (by walk_at "4") (λf cdv A outer s H E hr=>⟨_,(aW (cG 4 S.nd (pc1 (E:=E) zU hr cL (aA (ao 0) (aA (ao 1) aB)))) (aW (cG 5 S.nd (aZ iz aK (aZ lU (ao 4) (ao 3)))) (aW (cG 6 S.nd (ao 2)) (aW (cG 7 S.nd (bh (acI (G:=aD K) (Ts:=[.int 2,.int 3,.int 4,.int 6,.int 10,.int 24,.int 97,.int 999999999999]) (by kernel_rfl)) (aZ lU (aZ qd (ao 4) aK) aK))) (aW (cG 8 S.nd (oM aB)) (aW (PS.kE (jD PassesOwn.never rfl (o9 M.nQ (aA (ao 6) aB)) (cC 9 S.nd) (aW (cG 10 S.nd (cX zU hr (aA (ao 0) (aA (aZ iz (aZ iz (ao 1) aK) (ao 9)) aB)))) (aW (cG 11 S.nd (oM aB)) (aW (jD PassesOwn.never rfl (o9 M.nQ (aA (ao 5) aB)) (cC 12 S.nd) (aW (dZ (fX Pa (ao 7) aK (eG _)) (aU (cG 10 S.nd (cX zU hr (aA (ao 0) (aA (aZ lU (aZ iz (aZ iz (aZ iz (ao 1) aK) (ao 9)) (aZ eH aK (ao 12))) aK) aB))))) dY) (aW (psE (BK PySem.F.plainAttrs_list PySem.F.slot_list_append PySem.F.type_list_append yC (ao 11) (oJ (cX qQ hr (aA (aZ lU (ao 10) (aZ iz (ao 7) aK)) (aA (ao 7) aB))) aB))) (aU (cG 10 S.nd (aZ qd (ao 10) (aZ iz (ao 7) aK))))))) (aU (psE (BK PySem.F.plainAttrs_list PySem.F.slot_list_append PySem.F.type_list_append yC (ao 8) (oJ (ao 11) aB))))))))) (aU (bO (ao 8))))))))),λt hK hx=>by delta Ma; walk_at "t"⟩)
theorem ae1(a:At K mg "_law_cell" Li) (M:Nm mg):aM P w K mg base 1 "_law_cell" (["_law_script", "_law_k"]:List Str) (aQ K cl 2 j8):=by
 have S:=fS (["_law_script", "_law_k", "_law_cell_here", "_law_number"]:List Str) (["_law_script", "_law_k"]:List Str) (bx Li)
 exact a.cQ S (cl:=cl) (by decide) (by walk_at "2") (λf cdv A outer s H E hr=>⟨_,(aW (cG 2 S.nd aK) (aW (dZ (fX (yQ hr.units) (ao 1) (eF gO M.gQ (aA (ao 0) aB)) (eG _)) (aU (cG 2 S.nd (bh (ao 0) (ao 1)))) dY) (aW (dZ (fX G8 (ao 2) (aZ Bu aK aK) (eG _)) (aU (bO (aZ lU (aZ rz (ao 2) (aZ Bu aK aK)) (aZ Bu aK aK)))) dY) (aW (cG 3 S.nd (aZ lU (aZ iz (aZ iz (aZ eH (ao 2) aK) (aZ eH (ao 1) aK)) aK) aK)) (aW (cG 3 S.nd (aZ lU (aZ eH (ao 3) (ao 3)) aK)) (aU (bO (aZ iz (aZ eH (ao 3) aK) (aZ lU (aZ eH (ao 3) (ao 3)) aK))))))))),λt hK hx=>by delta Lz; walk_at "t"⟩)
theorem ae2(a:At K mg "_law_frac" Lj) (M:Nm mg):aM P w K mg base 1 "_law_frac" (["_law_top", "_law_bottom"]:List Str) (aQ K cl 2 jx):=by
 have S:=fS (["_law_top", "_law_bottom", "_law_one", "_law_other"]:List Str) (["_law_top", "_law_bottom"]:List Str) (bx Lj)
 exact a.cQ S (cl:=cl) (by decide) (by walk_at "2") (λf cdv A outer s H E hr=>⟨_,(aW (cG 2 S.nd (eF Hg M.Lx (aA (ao 0) aB))) (aW (cG 3 S.nd (eF Hg M.Lx (aA (ao 1) aB))) (aW (PS.kE (O4 PassesOwn.never (fX Pa (ao 3) aK (eG _)) (aU (O2 (i:=2) (j:=3) rfl S.nd rfl rfl (by decide) rfl rfl (aA (ao 3) (aA (aZ lU (ao 2) (ao 3)) aB)) rfl)))) (aW (dZ (fX (yQ hr.units) (ao 1) aK (eG _)) (aU (cG 2 S.nd (aZ rz aK (ao 2)))) dY) (aU (bO (oK (aA (aZ qd (ao 0) (ao 2)) (aA (aZ qd (ao 1) (ao 2)) aB))))))))),λt hK hx=>by delta LC; walk_at "t"⟩)
theorem ae3(a:At K mg "_law_mul" Ln) (M:Nm mg) (qQ:aM P w K mg base 1 "_law_frac" (["_law_top", "_law_bottom"]:List Str) (aQ K cl 2 jx)):aM P w K mg base 2 "_law_mul" (["_law_one", "_law_other"]:List Str) (aQ K cl 2 pL):=by
 have S:=fS (["_law_one", "_law_other"]:List Str) (["_law_one", "_law_other"]:List Str) (bx Ln)
 exact a.cQ S (cl:=cl) (by decide) (by walk_at "2") (λf cdv A outer s H E hr=>⟨_,(aU (bO (pc1 (E:=E) qQ hr cL (aA (aZ eH (bh (ao 0) aK) (bh (ao 1) aK)) (aA (aZ eH (bh (ao 0) aK) (bh (ao 1) aK)) aB))))),λt hK hx=>by delta LQ; walk_at "t"⟩)
theorem ae4(a:At K mg "_law_sub" Lp) (M:Nm mg) (qQ:aM P w K mg base 1 "_law_frac" (["_law_top", "_law_bottom"]:List Str) (aQ K cl 2 jx)):aM P w K mg base 2 "_law_sub" (["_law_one", "_law_other"]:List Str) (aQ K cl 2 iV):=by
 have S:=fS (["_law_one", "_law_other"]:List Str) (["_law_one", "_law_other"]:List Str) (bx Lp)
 exact a.cQ S (cl:=cl) (by decide) (by walk_at "2") (λf cdv A outer s H E hr=>⟨_,(aU (bO (pc1 (E:=E) qQ hr cL (aA (aZ rz (aZ eH (bh (ao 0) aK) (bh (ao 1) aK)) (aZ eH (bh (ao 1) aK) (bh (ao 0) aK))) (aA (aZ eH (bh (ao 0) aK) (bh (ao 1) aK)) aB))))),λt hK hx=>by delta LR; walk_at "t"⟩)
theorem ae5(a:At K mg "are_weights" El) (M:Nm mg) (XT:pF K) (Mf:aM P w K mg base 2 "is_fraction" (["thing"]:List Str) (aQ K cl 1 tD)):aM P w K mg base 3 "are_weights" (["thing", "many"]:List Str) (aQ K cl 2 Dv):=by
 have S:=fS (["thing", "many"]:List Str) (["thing", "many"]:List Str) (bx El)
 exact a.cQ S (cl:=cl) (by decide) (by walk_at "2") (λf cdv A outer s H E hr=>⟨_,(aW (dZ (PW.pt (uf (iY (gH (vh XT.o .list (ao 0) M.vN M.Ly) (by intro _; rfl))) (uc (fX (rQ hr.units) (eF gO M.gQ (aA (ao 0) aB)) (ao 1) (eG _))))) (aU (bO jk)) dY) (aU (bO (eF (Cd rfl) M.Et (aA (m7 (sc:=bx El) (No:=(["thing", "many"]:List Str)) (N:=(["part"]:List Str)) (src:=[none]) (g:=(dU 0)) rfl rfl ⟨by rfl,by decide +kernel,by decide +kernel,by decide +kernel,by rfl,by decide +kernel⟩ rfl (jt (ao 0)) (λC s H ex=>(cC 0 (show List.Nodup (["part"]:List Str) by decide +kernel))) (λC s H ex=>(ug (cX Mf hr (aA (ao 0) aB)) (wj (rD G8 (wA wB (ao 0) aK (λ_ _=>rfl)) aK (eG _)))))) aB))))),λt hK hx=>by delta T8; walk_at "t"⟩)
theorem ae6(a:At K mg "are_worths" Ek) (M:Nm mg) (XT:pF K) (ae7:aM P w K mg base 3 "is_worth" (["thing"]:List Str) (aQ K cl 1 qL)):aM P w K mg base 4 "are_worths" (["thing", "most"]:List Str) (aQ K cl 2 vB):=by
 have S:=fS (["thing", "most"]:List Str) (["thing", "most"]:List Str) (bx Ek)
 exact a.cQ S (cl:=cl) (by decide) (by walk_at "2") (λf cdv A outer s H E hr=>⟨_,(aW (dZ (PW.pt (uf (iY (gH (vh XT.o .list (ao 0) M.vN M.Ly) (by intro _; rfl))) (uc (iY (Pb oH oH aK (eF gO M.gQ (aA (ao 0) aB)) (ao 1)))))) (aU (bO jk)) dY) (aU (bO (eF (Cd rfl) M.Et (aA (m7 (sc:=bx Ek) (No:=(["thing", "most"]:List Str)) (N:=(["part"]:List Str)) (src:=[none]) (g:=(dU 0)) rfl rfl ⟨by rfl,by decide +kernel,by decide +kernel,by decide +kernel,by rfl,by decide +kernel⟩ rfl (jt (ao 0)) (λC s H ex=>(cC 0 (show List.Nodup (["part"]:List Str) by decide +kernel))) (λC s H ex=>(cX ae7 hr (aA (ao 0) aB)))) aB))))),λt hK hx=>by delta J2; walk_at "t"⟩)
theorem ae8(a:At K mg "best_few" Ep) (M:Nm mg) (ae9:aM P w K mg base 8 "need_book_rule_and_count" (["book", "rule", "count"]:List Str) (aQ K cl 3 Dy)) (afa:aM P w K mg base 6 "worths_by" (["book", "rule"]:List Str) (aQ K cl 2 xr)) (zV:aM P w K mg base 4 "falling_places" (["fractions"]:List Str) (aQ K cl 1 lF)):aM P w K mg base 9 "best_few" (["book", "rule", "count"]:List Str) (aQ K cl 3 mH):=by
 have S:=fS (["book", "rule", "count", "worths"]:List Str) (["book", "rule", "count"]:List Str) (bx Ep)
 exact a.cQ S (cl:=cl) (by decide) (by walk_at "3") (λf cdv A outer s H E hr=>⟨_,(aW (psE (pc1 (E:=E) ae9 hr cL (aA (ao 0) (aA (ao 1) (aA (ao 2) aB))))) (aW (Dg 3 S.nd rfl (pc1 (E:=E) afa hr cL (aA (ao 0) (aA (ao 1) aB)))) (aU (bO (m7 (sc:=bx Ep) (No:=(["book", "rule", "count", "worths"]:List Str)) (N:=(["thing", "worths"]:List Str)) (src:=[none,some 3]) (g:=(dU 0)) rfl rfl ⟨by rfl,by decide +kernel,by decide +kernel,by decide +kernel,by rfl,by decide +kernel⟩ rfl (jt (Qc Rr (pc1 (E:=E) zV hr cL (aA (jK 3) aB)) P0 (yx (ao 2)))) (λC s H ex=>(cC 0 (show List.Nodup (["thing", "worths"]:List Str) by decide +kernel))) (λC s H ex=>(oK (aA (ao 0) (aA (wA wB (jK 1) (ao 0) (λ_ _=>rfl)) aB))))))))),λt hK hx=>by delta Ui; walk_at "t"⟩)
theorem afb(a:At K mg "best_things" Er) (M:Nm mg) (Ey:aM P w K mg base 9 "best_few" (["book", "rule", "count"]:List Str) (aQ K cl 3 mH)):aM P w K mg base 10 "best_things" (["book", "rule", "count"]:List Str) (aQ K cl 3 xG):=by
 have S:=fS (["book", "rule", "count"]:List Str) (["book", "rule", "count"]:List Str) (bx Er)
 exact a.cQ S (cl:=cl) (by decide) (by walk_at "3") (λf cdv A outer s H E hr=>⟨_,(aU (bO (eF Tp M.Eu (aA (m7 (sc:=bx Er) (No:=(["book", "rule", "count"]:List Str)) (N:=(["thing", "worth"]:List Str)) (src:=[none,none]) (g:=(qZ K 2 (jR (dU 0) (jR (dU 1) qY)))) rfl rfl ⟨by rfl,by decide +kernel,by decide +kernel,by decide +kernel,by rfl,by decide +kernel⟩ rfl (jt (pc1 (E:=E) Ey hr cL (aA (ao 0) (aA (ao 1) (aA (ao 2) aB))))) (λC s H ex=>(lQ rfl (fK (cC 0 (show List.Nodup (["thing", "worth"]:List Str) by decide +kernel)) (fK (cC 1 (show List.Nodup (["thing", "worth"]:List Str) by decide +kernel)) lO)))) (λC s H ex=>(ao 0))) aB)))),λt hK hx=>by delta Uj; walk_at "t"⟩)
theorem afc(a:At K mg "common_bottom" K3) (M:Nm mg) (zW:aM P w K mg base 1 "common_divisor" (["one", "other"]:List Str) (aQ K cl 2 qI)):aM P w K mg base 2 "common_bottom" (["fractions"]:List Str) (aQ K cl 1 zG):=by
 have S:=fS (["fractions", "bottom", "top", "own"]:List Str) (["fractions"]:List Str) (bx K3)
 exact a.cQ S (cl:=cl) (by decide) (by walk_at "1") (λf cdv A outer s H E hr=>⟨_,(aW (cG 1 S.nd aK) (aW (PS.kE (jD PassesOwn.never rfl (jt (ao 0)) (lQ rfl (fK (cC 2 S.nd) (fK (cC 3 S.nd) lO))) (aU (cG 1 S.nd (aZ qd (aZ eH (ao 1) (ao 3)) (cX zW hr (aA (ao 1) (aA (ao 3) aB)))))))) (aU (bO (ao 1))))),λt hK hx=>by delta T4; walk_at "t"⟩)
theorem afd(a:At K mg "common_divisor" KH) (M:Nm mg):aM P w K mg base 1 "common_divisor" (["one", "other"]:List Str) (aQ K cl 2 qI):=by
 have S:=fS (["one", "other"]:List Str) (["one", "other"]:List Str) (bx KH)
 exact a.cQ S (cl:=cl) (by decide) (by walk_at "2") (λf cdv A outer s H E hr=>⟨_,(aW (PS.kE (O4 PassesOwn.never (fX (rQ hr.units) (ao 1) aK (eG _)) (aU (O2 (i:=0) (j:=1) rfl S.nd rfl rfl (by decide) rfl rfl (aA (ao 1) (aA (aZ lU (ao 0) (ao 1)) aB)) rfl)))) (aU (bO (eF Hg M.Lx (aA (ao 0) aB))))),λt hK hx=>by delta TV; walk_at "t"⟩)
theorem afe{c_ P_:Addr}(a:vA K mg "falling_places" Ej c_) (L:Dq K mg base "falling_places" c_ P_) (M:Nm mg) (afg:aM P w K mg base 3 "tops_on_one_bottom" (["fractions"]:List Str) (aQ K cl 1 Du)):aM P w K mg base 4 "falling_places" (["fractions"]:List Str) (aQ K cl 1 lF):=by
 have S:=fS (["fractions", "tops"]:List Str) (["fractions"]:List Str) (bx Ej)
 exact a.ade S (cl:=cl) (by decide) (by walk_at "1") (λf A outer s H E hr=>⟨_,(aW (Dg 1 S.nd rfl (pc1 (E:=E) afg hr cL (aA (ao 0) aB))) (aU (bO (ac2 (sc:=bx Ej) (No:=(["fractions", "tops"]:List Str)) (x := "place") (Ns:=(["tops"]:List Str)) (src:=[some 1]) ac4 (λ_ h=>h) ac5 hr M.Eu M.nQ rfl rfl ⟨⟨by rfl,by decide +kernel,by decide +kernel,by decide +kernel,by rfl,by decide +kernel⟩,by decide +kernel,by rfl,by rfl,by rfl⟩ rfl L.hd L.bm rfl (aA (eF gO M.gQ (aA (jK 1) aB)) aB) (λ_ _ _ _=>by kernel_rfl) (λA f cd s H=>(um uo (bh (pvF 1) (ao 0)))))))),λt hK hx=>(dw (gP (mF hK hx (bF dB) (aL (aP 0) bG)) (cF 1) cJ) (j4 (adg L hK (aL (x_len hK (aL (aP 1) bG)) bG) (ac7 Ri (ac6 Rh (S6 1) (S6 0))))))⟩)
theorem afh(a:At K mg "frac_below" KZ) (M:Nm mg):aM P w K mg base 1 "frac_below" (["one", "other"]:List Str) (aQ K cl 2 nG):=by
 have S:=fS (["one", "other"]:List Str) (["one", "other"]:List Str) (bx KZ)
 exact a.cQ S (cl:=cl) (by decide) (by walk_at "2") (λf cdv A outer s H E hr=>⟨_,(aU (bO (rD (yQ hr.units) (aZ eH (bh (ao 0) aK) (bh (ao 1) aK)) (aZ eH (bh (ao 1) aK) (bh (ao 0) aK)) (eG _)))),λt hK hx=>by delta Dt; walk_at "t"⟩)
theorem afi(a:At K mg "frac_by" KY) (M:Nm mg) (vP:aM P w K mg base 2 "fraction_of" (["top", "bottom"]:List Str) (aQ K cl 2 lE)):aM P w K mg base 3 "frac_by" (["one", "other"]:List Str) (aQ K cl 2 xq):=by
 have S:=fS (["one", "other"]:List Str) (["one", "other"]:List Str) (bx KY)
 exact a.cQ S (cl:=cl) (by decide) (by walk_at "2") (λf cdv A outer s H E hr=>⟨_,(aU (bO (pc1 (E:=E) vP hr cL (aA (aZ eH (bh (ao 0) aK) (bh (ao 1) aK)) (aA (aZ eH (bh (ao 0) aK) (bh (ao 1) aK)) aB))))),λt hK hx=>by delta JZ; walk_at "t"⟩)
theorem afj(a:At K mg "frac_less" KQ) (M:Nm mg) (vP:aM P w K mg base 2 "fraction_of" (["top", "bottom"]:List Str) (aQ K cl 2 lE)):aM P w K mg base 3 "frac_less" (["one", "other"]:List Str) (aQ K cl 2 qJ):=by
 have S:=fS (["one", "other"]:List Str) (["one", "other"]:List Str) (bx KQ)
 exact a.cQ S (cl:=cl) (by decide) (by walk_at "2") (λf cdv A outer s H E hr=>⟨_,(aU (bO (pc1 (E:=E) vP hr cL (aA (aZ rz (aZ eH (bh (ao 0) aK) (bh (ao 1) aK)) (aZ eH (bh (ao 1) aK) (bh (ao 0) aK))) (aA (aZ eH (bh (ao 0) aK) (bh (ao 1) aK)) aB))))),λt hK hx=>by delta JW; walk_at "t"⟩)
theorem afk(a:At K mg "frac_sum" KN) (M:Nm mg) (vP:aM P w K mg base 2 "fraction_of" (["top", "bottom"]:List Str) (aQ K cl 2 lE)):aM P w K mg base 3 "frac_sum" (["one", "other"]:List Str) (aQ K cl 2 pG):=by
 have S:=fS (["one", "other"]:List Str) (["one", "other"]:List Str) (bx KN)
 exact a.cQ S (cl:=cl) (by decide) (by walk_at "2") (λf cdv A outer s H E hr=>⟨_,(aU (bO (pc1 (E:=E) vP hr cL (aA (aZ iz (aZ eH (bh (ao 0) aK) (bh (ao 1) aK)) (aZ eH (bh (ao 1) aK) (bh (ao 0) aK))) (aA (aZ eH (bh (ao 0) aK) (bh (ao 1) aK)) aB))))),λt hK hx=>by delta JV; walk_at "t"⟩)
theorem afl(a:At K mg "frac_times" KR) (M:Nm mg) (vP:aM P w K mg base 2 "fraction_of" (["top", "bottom"]:List Str) (aQ K cl 2 lE)):aM P w K mg base 3 "frac_times" (["one", "other"]:List Str) (aQ K cl 2 pH):=by
 have S:=fS (["one", "other"]:List Str) (["one", "other"]:List Str) (bx KR)
 exact a.cQ S (cl:=cl) (by decide) (by walk_at "2") (λf cdv A outer s H E hr=>⟨_,(aU (bO (pc1 (E:=E) vP hr cL (aA (aZ eH (bh (ao 0) aK) (bh (ao 1) aK)) (aA (aZ eH (bh (ao 0) aK) (bh (ao 1) aK)) aB))))),λt hK hx=>by delta JX; walk_at "t"⟩)
theorem afm(a:At K mg "fraction_of" KJ) (M:Nm mg) (Ez:PyProof.Rows.OwnCls "NoBottom" (cl "NoBottom") o7 "ValueError.__new__" mg base) (zW:aM P w K mg base 1 "common_divisor" (["one", "other"]:List Str) (aQ K cl 2 qI)):aM P w K mg base 2 "fraction_of" (["top", "bottom"]:List Str) (aQ K cl 2 lE):=by
 have S:=fS (["top", "bottom", "divisor"]:List Str) (["top", "bottom"]:List Str) (bx KJ)
 exact a.cQ S (cl:=cl) (by decide) (by walk_at "2") (λf cdv A outer s H E hr=>⟨_,(aW (dZ (fX (m9 hr.units) (ao 1) aK (eG _)) (aU (yK yJ Ez PySem.F.excBase_ValueError rfl jC)) dY) (aW (cG 2 S.nd (pc1 (E:=E) zW hr cL (aA (ao 0) (aA (ao 1) aB)))) (aW (dZ (fX (yQ hr.units) (ao 1) aK (eG _)) (aU (cG 2 S.nd (um uo (ao 2)))) dY) (aU (bO (oK (aA (aZ qd (ao 0) (ao 2)) (aA (aZ qd (ao 1) (ao 2)) aB)))))))),λt hK hx=>(dw (jJ (lA (x_eq hK (aP 1) (fZ _))) (yV (λH'=>hx "NoBottom" H') (p8 _)) jH) (dw (gP (mF hK hx (bF (bF dB)) (aL (aP 0) (aL (aP 1) bG))) (cF 2) cJ) (dw (jJ (lA (x_lt hK (aP 1) (fZ _))) (gP (RX (aP 2)) (cF 2) cJ) jH) (j4 (rW (aL (CW hK (aP 0) (aP 2)) (aL (CW hK (aP 1) (aP 2)) bG)))))))⟩)
theorem afn(a:At K mg "is_book" zQ) (M:Nm mg) {Mg:V} (EY:Gk K mg "MOST_LISTS" Mg (.int 4)) {Mh:V} (Fb:Gk K mg "MOST_THINGS" Mh (.int 12)) (XT:pF K) (afo:aM P w K mg base 4 "are_worths" (["thing", "most"]:List Str) (aQ K cl 2 vB)):aM P w K mg base 5 "is_book" (["thing"]:List Str) (aQ K cl 1 zF):=by
 have S:=fS (["thing"]:List Str) (["thing"]:List Str) (bx zQ)
 exact a.cQ S (cl:=cl) (by decide) (by walk_at "1") (λf cdv A outer s H E hr=>⟨_,(aW (dZ (PW.pt (uf (iY (gH (vh XT.o .list (jK 0) M.vN M.Ly) (by intro _; rfl))) (uc (iY (Pb oH oH aK (eF gO M.gQ (aA (jK 0) aB)) (o8 EY)))))) (aU (bO jk)) dY) (aW (dZ (iY (gH (eF (Cd rfl) M.Et (aA (m7 (sc:=bx zQ) (No:=(["thing"]:List Str)) (N:=(["row"]:List Str)) (src:=[none]) (g:=(dU 0)) rfl rfl ⟨by rfl,by decide +kernel,by decide +kernel,by decide +kernel,by rfl,by decide +kernel⟩ rfl (jt (jK 0)) (λC s H ex=>(cC 0 (show List.Nodup (["row"]:List Str) by decide +kernel))) (λC s H ex=>(cX afo hr (aA (ao 0) (aA (o8 Fb) aB))))) aB)) (by intro _; rfl))) (aU (bO jk)) dY) (aU (bO (eF (Cd rfl) M.Et (aA (m7 (sc:=bx zQ) (No:=(["thing"]:List Str)) (N:=(["row", "thing"]:List Str)) (src:=[none,some 0]) (g:=(dU 0)) rfl rfl ⟨by rfl,by decide +kernel,by decide +kernel,by decide +kernel,by rfl,by decide +kernel⟩ rfl (jt (jK 0)) (λC s H ex=>(cC 0 (show List.Nodup (["row", "thing"]:List Str) by decide +kernel))) (λC s H ex=>(rD (m9 hr.units) (eF gO M.gQ (aA (ao 0) aB)) (eF gO M.gQ (aA (wA wB (jK 1) aK (λ_ _=>rfl)) aB)) (eG _)))) aB)))))),λt hK hx=>(dw (jJ (Cu (nA (jG hK (Rx hK .list (aP 0)))) (nA (lA (RW hK Iz Iz Jr Jr (fZ _) (x_len hK (aL (aP 0) bG)) (qw hK EY))))) (j4 (p7 _)) jH) (dw (jJ (nA (jG hK (Jv hK (aL (uX (sH hK (aP 0)) (uT (by decide)) (vd (js:=[0]) (by decide)) cJ (λt1 h1 k1=>(cF 0)) (λt1 h1 k1=>(gw (h1.trans hK) k1 (bF (bF dB)) (aL (aP 0) (aL (qw (h1.trans hK) Fb) bG))))) bG)))) (j4 (p7 _)) jH) (j4 (Jv hK (aL (uX (sH hK (aP 0)) (uT (by decide)) (vd (js:=[0]) (by decide)) cJ (λt2 h2 k2=>(cF 0)) (λt2 h2 k2=>(x_eq (h2.trans hK) (x_len (h2.trans hK) (aL (aP 0) bG)) (x_len (h2.trans hK) (aL (mD (h2.trans hK) (aP 1) (fZ _)) bG))))) bG)))))⟩)
theorem afp(a:At K mg "is_count" K5) (M:Nm mg) (xR:aM P w K mg base 1 "is_whole" (["thing"]:List Str) (aQ K cl 1 qK)):aM P w K mg base 2 "is_count" (["thing", "many"]:List Str) (aQ K cl 2 zK):=by
 have S:=fS (["thing", "many"]:List Str) (["thing", "many"]:List Str) (bx K5)
 exact a.cQ S (cl:=cl) (by decide) (by walk_at "2") (λf cdv A outer s H E hr=>⟨_,(aU (bO (ug (pc1 (E:=E) xR hr cL (aA (ao 0) aB)) (wj (Hf oH oH aK (ao 0) (ao 1)))))),λt hK hx=>by delta J6; walk_at "t"⟩)
theorem afq(a:At K mg "is_fraction" K1) (M:Nm mg) (XT:pF K) (xR:aM P w K mg base 1 "is_whole" (["thing"]:List Str) (aQ K cl 1 qK)) (zW:aM P w K mg base 1 "common_divisor" (["one", "other"]:List Str) (aQ K cl 2 qI)):aM P w K mg base 2 "is_fraction" (["thing"]:List Str) (aQ K cl 1 tD):=by
 have S:=fS (["thing", "top", "bottom"]:List Str) (["thing"]:List Str) (bx K1)
 exact a.cQ S (cl:=cl) (by decide) (by walk_at "1") (λf cdv A outer s H E hr=>⟨_,(aW (dZ (PW.pt (uf (iY (gH (vh XT.o .tuple (ao 0) M.vN M.Vt) (by intro _; rfl))) (uc (fX (rQ hr.units) (eF gO M.gQ (aA (ao 0) aB)) aK (eG _))))) (aU (bO jk)) dY) (aW (GP (ao 0) (lQ rfl (fK (cC 1 S.nd) (fK (cC 2 S.nd) lO)))) (aW (dZ (PW.pt (uf (iY (gH (pc1 (E:=E) xR hr cL (aA (ao 1) aB)) (by intro _; rfl))) (uc (iY (gH (pc1 (E:=E) xR hr cL (aA (ao 2) aB)) (by intro _; rfl)))))) (aU (bO jk)) dY) (aU (bO (ug (rD G8 (ao 2) aK (eG _)) (wj (rD (m9 hr.units) (pc1 (E:=E) zW hr cL (aA (ao 1) (aA (ao 2) aB))) aK (eG _))))))))),λt hK hx=>by delta J0; walk_at "t"⟩)
theorem afr(a:At K mg "is_rule" K7) (M:Nm mg) {Mi:V} (Mj:Gk K mg "BARE_RULES" Mi (.tup [(.tup [(.str "least")]),(.tup [(.str "greatest")]),(.tup [(.str "product")])])) (XT:pF K) (afs:aM P w K mg base 3 "are_weights" (["thing", "many"]:List Str) (aQ K cl 2 Dv)) (xR:aM P w K mg base 1 "is_whole" (["thing"]:List Str) (aQ K cl 1 qK)):aM P w K mg base 4 "is_rule" (["thing", "many"]:List Str) (aQ K cl 2 vD):=by
 have S:=fS (["thing", "many", "word", "rest"]:List Str) (["thing", "many"]:List Str) (bx K7)
 exact a.cQ S (cl:=cl) (by decide) (by walk_at "2") (λf cdv A outer s H E hr=>⟨_,(aW (dZ (iY (gH (vh XT.o .tuple (ao 0) M.vN M.Vt) (by intro _; rfl))) (aU (bO jk)) dY) (aW (dZ (fX (rQ hr.units) (eF gO M.gQ (aA (ao 0) aB)) aK (eG _)) (aU (bO (rD (QG hr.units) (ao 0) (o8 Mj) (by with_unfolding_all rfl)))) dY) (aW (GP (ao 0) (lQ rfl (fK (cC 2 S.nd) (fK (cC 3 S.nd) lO)))) (aW (dZ (fX (m9 hr.units) (ao 2) jC (eG _)) (aU (bO (pc1 (E:=E) afs hr cL (aA (ao 3) (aA (ao 1) aB))))) dY) (aU (bO (ug (rD (m9 hr.units) (ao 2) jC (eG _)) (ug (pc1 (E:=E) xR hr cL (aA (ao 3) aB)) (wj (Hf oH oH aK (ao 3) (ao 1))))))))))),λt hK hx=>by delta T9; walk_at "t"⟩)
theorem aft(a:At K mg "is_whole" KD) (M:Nm mg) (XT:pF K):aM P w K mg base 1 "is_whole" (["thing"]:List Str) (aQ K cl 1 qK):=by
 have S:=fS (["thing"]:List Str) (["thing"]:List Str) (bx KD)
 exact a.cQ S (cl:=cl) (by decide) (by walk_at "1") (λf cdv A outer s H E hr=>⟨_,(aU (bO (ug (vh XT.o .int (ao 0) M.vN M.aeT) (wj (YX (vh XT.o .bool (ao 0) M.vN M.aeS)))))),λt hK hx=>by delta TY; walk_at "t"⟩)
theorem afu(a:At K mg "is_worth" K4) (M:Nm mg) (Mf:aM P w K mg base 2 "is_fraction" (["thing"]:List Str) (aQ K cl 1 tD)):aM P w K mg base 3 "is_worth" (["thing"]:List Str) (aQ K cl 1 qL):=by
 have S:=fS (["thing"]:List Str) (["thing"]:List Str) (bx K4)
 exact a.cQ S (cl:=cl) (by decide) (by walk_at "1") (λf cdv A outer s H E hr=>⟨_,(aU (bO (ug (pc1 (E:=E) Mf hr cL (aA (ao 0) aB)) (wj (Hf oH oH aK (bh (ao 0) aK) (bh (ao 0) aK)))))),λt hK hx=>by delta J1; walk_at "t"⟩)
theorem afv(a:At K mg "law" xP) (M:Nm mg) (afw:aM P w K mg base 2 "_law_book" (["_law_script", "_law_at", "_law_lists", "_law_most"]:List Str) (aQ K cl 4 xQ)) (Vy:aM P w K mg base 11 "weight_stretches" (["book", "count"]:List Str) (aQ K cl 2 vM)) (zU:aM P w K mg base 1 "_law_cell" (["_law_script", "_law_k"]:List Str) (aQ K cl 2 j8)) (qQ:aM P w K mg base 1 "_law_frac" (["_law_top", "_law_bottom"]:List Str) (aQ K cl 2 jx)) (zT:aM P w K mg base 2 "_law_sub" (["_law_one", "_law_other"]:List Str) (aQ K cl 2 iV)) (Ew:aM P w K mg base 1 "_law_below" (["_law_one", "_law_other"]:List Str) (aQ K cl 2 mO)) (Fd:aM P w K mg base 3 "_law_best" (["_law_book_here", "_law_weight", "_law_things"]:List Str) (aQ K cl 3 jM)) (Ey:aM P w K mg base 9 "best_few" (["book", "rule", "count"]:List Str) (aQ K cl 3 mH)):aM P w K mg base 12 "law" (["_law_script"]:List Str) (aQ K cl 1 zR):=by
 have S:=fS (["_law_script", "_law_book_here", "_law_count", "_law_found", "_law_back", "_law_turned", "_law_k", "_law_number", "_law_bottom", "_law_weight", "_law_rule", "_law_due", "_law_low", "_law_high", "_law_things", "_law_rest", "_law_few"]:List Str) (["_law_script"]:List Str) (bx xP)
 exact a.cQ S (cl:=cl) (by decide) (by walk_at "1") (λf cdv A outer s H E hr=>⟨_,(aW (cG 1 S.nd (pc1 (E:=E) afw hr cL (aA (ao 0) (aA aK (aA aK (aA aK aB)))))) (aW (PS.kE (jD PassesOwn.never rfl (o9 M.nQ (aA (aZ iz (eF gO M.gQ (aA (bh (ao 1) aK) aB)) aK) aB)) (cC 2 S.nd) (aW (cG 3 S.nd (cX Vy hr (aA (ao 1) (aA (ao 2) aB)))) (aW (cG 4 S.nd (cX Vy hr (aA (Ii (ao 1) (yx (um uo aK))) (aA (ao 2) aB)))) (aW (QB (i:=5) (sc:=bx xP) (No:=(["_law_script", "_law_book_here", "_law_count", "_law_found", "_law_back", "_law_turned", "_law_k", "_law_number", "_law_bottom", "_law_weight", "_law_rule", "_law_due", "_law_low", "_law_high", "_law_things", "_law_rest", "_law_few"]:List Str)) (N:=(["_law_low", "_law_high", "_law_things"]:List Str)) (src:=[none,none,none]) (g:=(qZ K 3 (jR (dU 0) (jR (dU 1) (jR (dU 2) qY))))) S.nd rfl (Or.inl rfl) rfl rfl ⟨by rfl,by decide +kernel,by decide +kernel,by decide +kernel,by rfl,by decide +kernel⟩ rfl (jt (ao 4)) (λC s H ex=>(lQ rfl (fK (cC 0 (show List.Nodup (["_law_low", "_law_high", "_law_things"]:List Str) by decide +kernel)) (fK (cC 1 (show List.Nodup (["_law_low", "_law_high", "_law_things"]:List Str) by decide +kernel)) (fK (cC 2 (show List.Nodup (["_law_low", "_law_high", "_law_things"]:List Str) by decide +kernel)) lO))))) (λC s H ex=>(oK (aA (cX zT hr (aA (wY (G:=aD K) (Ts:=[.int 1,.int 1]) (by kernel_rfl)) (aA (ao 1) aB))) (aA (cX zT hr (aA (wY (G:=aD K) (Ts:=[.int 1,.int 1]) (by kernel_rfl)) (aA (ao 0) aB))) (aA (ao 2) aB)))))) (aW (dZ (fX (rQ hr.units) (Ii (ao 5) (yx (um uo aK))) (ao 3) (eG _)) (aU (bO jk)) dY) (aW (jD PassesOwn.never rfl (o9 M.nQ (aA aK aB)) (cC 6 S.nd) (aW (cG 7 S.nd (cX zU hr (aA (ao 0) (aA (aZ iz aK (ao 6)) aB)))) (aW (cG 8 S.nd (aZ iz aK (aZ lU (ao 7) aK))) (aW (cG 9 S.nd (cX qQ hr (aA (aZ lU (aZ qd (ao 7) aK) (aZ iz (ao 8) aK)) (aA (ao 8) aB)))) (aW (cG 10 S.nd (oK (aA jC (aA (oM (aA (ao 9) (aA (cX zT hr (aA (wY (G:=aD K) (Ts:=[.int 1,.int 1]) (by kernel_rfl)) (aA (ao 9) aB))) aB))) aB)))) (aW (cG 11 S.nd (eF Tp M.Eu (aA (m7 (sc:=bx xP) (No:=(["_law_script", "_law_book_here", "_law_count", "_law_found", "_law_back", "_law_turned", "_law_k", "_law_number", "_law_bottom", "_law_weight", "_law_rule", "_law_due", "_law_low", "_law_high", "_law_things", "_law_rest", "_law_few"]:List Str)) (N:=(["_law_thing", "_law_worth"]:List Str)) (src:=[none,none]) (g:=(qZ K 2 (jR (dU 0) (jR (dU 1) qY)))) rfl rfl ⟨by rfl,by decide +kernel,by decide +kernel,by decide +kernel,by rfl,by decide +kernel⟩ rfl (jt (cX Ey hr (aA (ao 1) (aA (ao 10) (aA (ao 2) aB))))) (λC s H ex=>(lQ rfl (fK (cC 0 (show List.Nodup (["_law_thing", "_law_worth"]:List Str) by decide +kernel)) (fK (cC 1 (show List.Nodup (["_law_thing", "_law_worth"]:List Str) by decide +kernel)) lO)))) (λC s H ex=>(ao 0))) aB))) (aU (jD PassesOwn.never rfl (jt (ao 3)) (lQ rfl (fK (cC 12 S.nd) (fK (cC 13 S.nd) (fK (cC 14 S.nd) lO)))) (aW (dZ (PW.pt (ud (gH (cX Ew hr (aA (ao 12) (aA (ao 9) aB))) (by intro _; rfl)) (ud (gH (cX Ew hr (aA (ao 9) (aA (ao 13) aB))) (by intro _; rfl)) (yq (fX (rQ hr.units) (ao 14) (ao 11) (eG _)))))) (aU (bO jk)) dY) (aU (dZ (PW.pt (ud (fX (QG hr.units) (ao 9) (oK (aA (ao 12) (aA (ao 13) aB))) (by with_unfolding_all rfl)) (yq (iY (gH (cX Fd hr (aA (ao 1) (aA (ao 9) (aA (ao 14) aB)))) (by intro _; rfl)))))) (aU (bO jk)) dY))))))))))) (aU (jD PassesOwn.never rfl (o9 M.nQ (aA (eF gO M.gQ (aA (ao 3) aB)) aB)) (cC 6 S.nd) (aW (GP (bh (ao 3) (ao 6)) (lQ rfl (fK (cC 12 S.nd) (fK (cC 13 S.nd) (fK (cC 14 S.nd) lO))))) (aW (dZ (PW.pt (uf (iY (gH (cX Fd hr (aA (ao 1) (aA (ao 12) (aA (ao 14) aB)))) (by intro _; rfl))) (uc (iY (gH (cX Fd hr (aA (ao 1) (aA (ao 13) (aA (ao 14) aB)))) (by intro _; rfl)))))) (aU (bO jk)) dY) (aW (cG 15 S.nd (bh (bh (ao 4) (aZ rz (aZ rz (eF gO M.gQ (aA (ao 4) aB)) aK) (ao 6))) aK)) (aW (QB (i:=16) (sc:=bx xP) (No:=(["_law_script", "_law_book_here", "_law_count", "_law_found", "_law_back", "_law_turned", "_law_k", "_law_number", "_law_bottom", "_law_weight", "_law_rule", "_law_due", "_law_low", "_law_high", "_law_things", "_law_rest", "_law_few"]:List Str)) (N:=(["_law_thing", "_law_worth"]:List Str)) (src:=[none,none]) (g:=(qZ K 2 (jR (dU 0) (jR (dU 1) qY)))) S.nd rfl (Or.inl rfl) rfl rfl ⟨by rfl,by decide +kernel,by decide +kernel,by decide +kernel,by rfl,by decide +kernel⟩ rfl (jt (cX Ey hr (aA (ao 1) (aA (oK (aA jC (aA (oM (aA (ao 12) (aA (ao 15) aB))) aB))) (aA (ao 2) aB))))) (λC s H ex=>(lQ rfl (fK (cC 0 (show List.Nodup (["_law_thing", "_law_worth"]:List Str) by decide +kernel)) (fK (cC 1 (show List.Nodup (["_law_thing", "_law_worth"]:List Str) by decide +kernel)) lO)))) (λC s H ex=>(ao 0))) (aU (dZ (PW.pt (uf (fX (rQ hr.units) (eF gO M.gQ (aA (ao 16) aB)) (ao 2) (eG _)) (uc (iY (gH (cX Fd hr (aA (ao 1) (aA (ao 12) (aA (ao 16) aB)))) (by intro _; rfl)))))) (aU (bO jk)) dY))))))))))))))) (aU (bO jk)))),λt hK hx=>(dw (gP (mF hK hx (bF (bF (bF (bF dB)))) (aL (aP 0) (aL (fZ _) (aL (fZ _) (aL (fZ _) bG))))) (cF 1) cJ) (dw (Jo (λt1 h1 k1=>(wQ (wR (aL (u0 (h1.trans hK) (x_len (h1.trans hK) (aL (mD (h1.trans hK) (aP 1) (fZ _)) bG)) (fZ _)) bG)) (cF 2) cJ (dw (gP (gw (h1.trans hK) k1 (bF (bF dB)) (aL (aP 1) (aL (aP 2) bG))) (cF 3) cJ) (dw (gP (gw (h1.trans hK) k1 (bF (bF dB)) (aL (Jw (h1.trans hK) (aP 1)) (aL (aP 2) bG))) (cF 4) cJ) (dw (gP (uX (sH (h1.trans hK) (aP 4)) (uT (by decide)) (vd (js:=[0,1,2]) (by decide)) (uZ (ju cJ (ju cJ (ju cJ uY)))) (λt2 h2 k2=>(uM (h2.trans (h1.trans hK)) (jd (cF 0) (jd (cF 1) (jd (cF 2) uL))))) (λt2 h2 k2=>(rW (aL (gw (h2.trans (h1.trans hK)) k2 (bF (bF dB)) (aL (Df (h2.trans (h1.trans hK))) (aL (aP 1) bG))) (aL (gw (h2.trans (h1.trans hK)) k2 (bF (bF dB)) (aL (Df (h2.trans (h1.trans hK))) (aL (aP 0) bG))) (aL (aP 2) bG)))))) (cF 5) cJ) (dw (jJ (lA (za (h1.trans hK) (Jw (h1.trans hK) (aP 5)) (aP 3))) (j4 (p7 _)) jH) (dw (wQ (wR (aL (fZ _) bG)) (cF 6) cJ (dw (gP (gw (h1.trans hK) k1 (bF (bF dB)) (aL (aP 0) (aL (u0 (h1.trans hK) (fZ _) (aP 6)) bG))) (cF 7) cJ) (dw (gP (u0 (h1.trans hK) (fZ _) (Ju (h1.trans hK) (aP 7) (fZ _))) (cF 8) cJ) (dw (gP (gw (h1.trans hK) k1 (bF (bF dB)) (aL (Ju (h1.trans hK) (CW (h1.trans hK) (aP 7) (fZ _)) (u0 (h1.trans hK) (aP 8) (fZ _))) (aL (aP 8) bG))) (cF 9) cJ) (dw (gP (rW (aL (p8 _) (aL (uE (aL (aP 9) (aL (gw (h1.trans hK) k1 (bF (bF dB)) (aL (Df (h1.trans hK)) (aL (aP 9) bG))) bG))) bG))) (cF 10) cJ) (dw (gP (Tw (h1.trans hK) (aL (uX (sH (h1.trans hK) (gw (h1.trans hK) k1 (bF (bF (bF dB))) (aL (aP 1) (aL (aP 10) (aL (aP 2) bG))))) (uT (by decide)) (vd (js:=[0,1]) (by decide)) (uZ (ju cJ (ju cJ uY))) (λt3 h3 k3=>(uM (h3.trans (h1.trans hK)) (jd (cF 0) (jd (cF 1) uL)))) (λt3 h3 k3=>(aP 0))) bG)) (cF 11) cJ) (wQ (sH (h1.trans hK) (aP 3)) (uM (h1.trans hK) (jd (cF 12) (jd (cF 13) (jd (cF 14) uL)))) (uZ (ju cJ (ju cJ (ju cJ uY)))) (dw (jJ (uF (jG (h1.trans hK) (gw (h1.trans hK) k1 (bF (bF dB)) (aL (aP 12) (aL (aP 9) bG)))) (uF (jG (h1.trans hK) (gw (h1.trans hK) k1 (bF (bF dB)) (aL (aP 9) (aL (aP 13) bG)))) (lA (za (h1.trans hK) (aP 14) (aP 11))))) (j4 (p7 _)) jH) (jJ (uF (lA (RV (h1.trans hK) (aP 9) (rW (aL (aP 12) (aL (aP 13) bG))))) (nA (jG (h1.trans hK) (gw (h1.trans hK) k1 (bF (bF (bF dB))) (aL (aP 1) (aL (aP 9) (aL (aP 14) bG))))))) (j4 (p7 _)) jH))))))))) (wQ (wR (aL (x_len (h1.trans hK) (aL (aP 3) bG)) bG)) (cF 6) cJ (dw (gP (mD (h1.trans hK) (aP 3) (aP 6)) (uM (h1.trans hK) (jd (cF 12) (jd (cF 13) (jd (cF 14) uL)))) (uZ (ju cJ (ju cJ (ju cJ uY))))) (dw (jJ (Cu (nA (jG (h1.trans hK) (gw (h1.trans hK) k1 (bF (bF (bF dB))) (aL (aP 1) (aL (aP 12) (aL (aP 14) bG)))))) (nA (jG (h1.trans hK) (gw (h1.trans hK) k1 (bF (bF (bF dB))) (aL (aP 1) (aL (aP 13) (aL (aP 14) bG))))))) (j4 (p7 _)) jH) (dw (gP (mD (h1.trans hK) (mD (h1.trans hK) (aP 4) (Jt (h1.trans hK) (Jt (h1.trans hK) (x_len (h1.trans hK) (aL (aP 4) bG)) (fZ _)) (aP 6))) (fZ _)) (cF 15) cJ) (dw (gP (uX (sH (h1.trans hK) (gw (h1.trans hK) k1 (bF (bF (bF dB))) (aL (aP 1) (aL (rW (aL (p8 _) (aL (uE (aL (aP 12) (aL (aP 15) bG))) bG))) (aL (aP 2) bG))))) (uT (by decide)) (vd (js:=[0,1]) (by decide)) (uZ (ju cJ (ju cJ uY))) (λt4 h4 k4=>(uM (h4.trans (h1.trans hK)) (jd (cF 0) (jd (cF 1) uL)))) (λt4 h4 k4=>(aP 0))) (cF 16) cJ) (jJ (Cu (lA (za (h1.trans hK) (x_len (h1.trans hK) (aL (aP 16) bG)) (aP 2))) (nA (jG (h1.trans hK) (gw (h1.trans hK) k1 (bF (bF (bF dB))) (aL (aP 1) (aL (aP 12) (aL (aP 16) bG))))))) (j4 (p7 _)) jH)))))))))))))) (j4 (p7 _))))⟩)
theorem afx(a:At K mg "meeting_weight" Lg) (M:Nm mg) {vQ:V} (nR:Gk K mg "START" vQ (.tup [(.int 0),(.int 1)])) (Fe:aM P w K mg base 3 "frac_less" (["one", "other"]:List Str) (aQ K cl 2 qJ)) (zX:aM P w K mg base 3 "frac_sum" (["one", "other"]:List Str) (aQ K cl 2 pG)) (afy:aM P w K mg base 3 "frac_by" (["one", "other"]:List Str) (aQ K cl 2 xq)):aM P w K mg base 4 "meeting_weight" (["book", "one", "other"]:List Str) (aQ K cl 3 xH):=by
 have S:=fS (["book", "one", "other", "first", "second", "total"]:List Str) (["book", "one", "other"]:List Str) (bx Lg)
 exact a.cQ S (cl:=cl) (by decide) (by walk_at "3") (λf cdv A outer s H E hr=>⟨_,(aW (cG 3 S.nd (pc1 (E:=E) Fe hr cL (aA (bh (bh (ao 0) aK) (ao 1)) (aA (bh (bh (ao 0) aK) (ao 2)) aB)))) (aW (cG 4 S.nd (pc1 (E:=E) Fe hr cL (aA (bh (bh (ao 0) aK) (ao 2)) (aA (bh (bh (ao 0) aK) (ao 1)) aB)))) (aW (cG 5 S.nd (pc1 (E:=E) zX hr cL (aA (ao 3) (aA (ao 4) aB)))) (aU (bO (YZ (fX (m9 hr.units) (ao 5) (o8 nR) (eG _)) GD (pc1 (E:=E) afy hr cL (aA (ao 4) (aA (ao 5) aB))))))))),λt hK hx=>by delta Uk; walk_at "t"⟩)
theorem afz(a:At K mg "meeting_weights" Es) (M:Nm mg) {zY:V} (pN:Gk K mg "END" zY (.tup [(.int 1),(.int 1)])) {vQ:V} (nR:Gk K mg "START" vQ (.tup [(.int 0),(.int 1)])) (afA:aM P w K mg base 4 "meeting_weight" (["book", "one", "other"]:List Str) (aQ K cl 3 xH)) (Vz:aM P w K mg base 1 "frac_below" (["one", "other"]:List Str) (aQ K cl 2 nG)) (zV:aM P w K mg base 4 "falling_places" (["fractions"]:List Str) (aQ K cl 1 lF)):aM P w K mg base 5 "meeting_weights" (["book"]:List Str) (aQ K cl 1 tL):=by
 have S:=fS (["book", "found", "one", "other", "weight", "weights"]:List Str) (["book"]:List Str) (bx Es)
 exact a.cQ S (cl:=cl) (by decide) (by walk_at "1") (λf cdv A outer s H E hr=>⟨_,(aW (cG 1 S.nd (aeM aei M.aeU)) (aW (PS.kE (jD PassesOwn.never rfl (o9 M.nQ (aA (eF gO M.gQ (aA (bh (ao 0) aK) aB)) aB)) (cC 2 S.nd) (aU (jD PassesOwn.never rfl (o9 M.nQ (aA (ao 2) aB)) (cC 3 S.nd) (aW (cG 4 S.nd (cX afA hr (aA (ao 0) (aA (ao 2) (aA (ao 3) aB))))) (aU (dZ (PW.pt (ud (fX Zj (ao 4) GD (eG _)) (ud (gH (cX Vz hr (aA (o8 nR) (aA (ao 4) aB))) (by intro _; rfl)) (yq (gH (cX Vz hr (aA (ao 4) (aA (o8 pN) aB))) (by intro _; rfl)))))) (aU (psE (aej (aam hr) (ao 1) (aA (ao 4) aB)))) dY))))))) (aW (Dg 5 S.nd rfl (eF (aee hr.hd) M.Eu (oJ (ao 1) aB))) (aU (bO (Ii (m7 (sc:=bx Es) (No:=(["book", "found", "one", "other", "weight", "weights"]:List Str)) (N:=(["place", "weights"]:List Str)) (src:=[none,some 5]) (g:=(dU 0)) rfl rfl ⟨by rfl,by decide +kernel,by decide +kernel,by decide +kernel,by rfl,by decide +kernel⟩ rfl (jt (pc1 (E:=E) zV hr cL (aA (jK 5) aB))) (λC s H ex=>(cC 0 (show List.Nodup (["place", "weights"]:List Str) by decide +kernel))) (λC s H ex=>(wA wB (jK 1) (ao 0) (λ_ _=>rfl)))) (yx (um uo aK)))))))),λt hK hx=>(aeL (j:=1) (k:=5) hK (Vl (λt1 h1 k1=>(wR (aL (x_len (h1.trans hK) (aL (mD (h1.trans hK) (aP 0) (fZ _)) bG)) bG))) (cF 2) (by decide) cJ (Vl (λt2 h2 k2=>(wR (aL (aP 2) bG))) (cF 3) (by decide) cJ (aeD (aeC (J:=[4]) (by repeat first|exact L2.aep _|exact L2.aeo|exact L2.aex|exact L2.aew (by decide)|refine L2.aev ?_ ?_|refine L2.aes _ ?_|exact L2.aer _|refine L2.aeu _ ?_ ?_|refine L2.aeA _ ?_ ?_|refine L2.aez _ _ ?_|refine L2.aey ?_ ?_) (by decide) (λt3 h3 k3=>(gP (gw (h3.trans hK) k3 (bF (bF (bF dB))) (aL (aP 0) (aL (aP 2) (aL (aP 3) bG)))) (cF 4) cJ))) (aeE (λt4 h4 k4=>(uF (lA (acu (h4.trans hK) (aP 4) Q7)) (uF (jG (h4.trans hK) (gw (h4.trans hK) k4 (bF (bF dB)) (aL (qw (h4.trans hK) nR) (aL (aP 4) bG)))) (jG (h4.trans hK) (gw (h4.trans hK) k4 (bF (bF dB)) (aL (aP 4) (aL (qw (h4.trans hK) pN) bG))))))) (aeG hK (λt5 h5 k5=>(aL (aP 4) bG))))))) (j4 (Jw hK (uX (sH hK (mF hK hx (bF dB) (aL (aP 5) bG))) (uT (by decide)) (vd (js:=[0]) (by decide)) cJ (λt6 h6 k6=>(cF 0)) (λt6 h6 k6=>(mD (h6.trans hK) (aP 1) (aP 0)))))))⟩)
theorem afB(a:At K mg "need_book" K6) (M:Nm mg) (Fi:PyProof.Rows.OwnCls "NoBook" (cl "NoBook") o7 "ValueError.__new__" mg base) (afC:aM P w K mg base 5 "is_book" (["thing"]:List Str) (aQ K cl 1 zF)):aM P w K mg base 6 "need_book" (["book"]:List Str) (aQ K cl 1 vC):=by
 have S:=fS (["book"]:List Str) (["book"]:List Str) (bx K6)
 exact a.cQ S (cl:=cl) (by decide) (by walk_at "1") (λf cdv A outer s H E hr=>⟨_,(aU (dZ (iY (gH (pc1 (E:=E) afC hr cL (aA (ao 0) aB)) (by intro _; rfl))) (aU (yK yJ Fi PySem.F.excBase_ValueError rfl jC)) dY)),λt hK hx=>(jJ (nA (jG hK (mF hK hx (bF dB) (aL (aP 0) bG)))) (yV (λH'=>hx "NoBook" H') (p8 _)) jH)⟩)
theorem afD(a:At K mg "need_book_and_rule" Ld) (M:Nm mg) (Fj:PyProof.Rows.OwnCls "NoRule" (cl "NoRule") o7 "ValueError.__new__" mg base) (Ml:aM P w K mg base 6 "need_book" (["book"]:List Str) (aQ K cl 1 vC)) (afE:aM P w K mg base 4 "is_rule" (["thing", "many"]:List Str) (aQ K cl 2 vD)):aM P w K mg base 7 "need_book_and_rule" (["book", "rule"]:List Str) (aQ K cl 2 J5):=by
 have S:=fS (["book", "rule"]:List Str) (["book", "rule"]:List Str) (bx Ld)
 exact a.cQ S (cl:=cl) (by decide) (by walk_at "2") (λf cdv A outer s H E hr=>⟨_,(aW (psE (pc1 (E:=E) Ml hr cL (aA (ao 0) aB))) (aU (dZ (iY (gH (pc1 (E:=E) afE hr cL (aA (ao 1) (aA (eF gO M.gQ (aA (ao 0) aB)) aB))) (by intro _; rfl))) (aU (yK yJ Fj PySem.F.excBase_ValueError rfl jC)) dY))),λt hK hx=>(dw (yU (mF hK hx (bF dB) (aL (aP 0) bG))) (jJ (nA (jG hK (mF hK hx (bF (bF dB)) (aL (aP 1) (aL (x_len hK (aL (aP 0) bG)) bG))))) (yV (λH'=>hx "NoRule" H') (p8 _)) jH))⟩)
theorem afF(a:At K mg "need_book_rule_and_count" Lf) (M:Nm mg) (afG:aM P w K mg base 7 "need_book_and_rule" (["book", "rule"]:List Str) (aQ K cl 2 J5)) (Mp:aM P w K mg base 3 "need_count" (["book", "count"]:List Str) (aQ K cl 2 xu)):aM P w K mg base 8 "need_book_rule_and_count" (["book", "rule", "count"]:List Str) (aQ K cl 3 Dy):=by
 have S:=fS (["book", "rule", "count"]:List Str) (["book", "rule", "count"]:List Str) (bx Lf)
 exact a.cQ S (cl:=cl) (by decide) (by walk_at "3") (λf cdv A outer s H E hr=>⟨_,(aW (psE (pc1 (E:=E) afG hr cL (aA (ao 0) (aA (ao 1) aB)))) (aU (psE (pc1 (E:=E) Mp hr cL (aA (ao 0) (aA (ao 2) aB)))))),λt hK hx=>by delta Uh; walk_at "t"⟩)
theorem afH(a:At K mg "need_count" Le) (M:Nm mg) (Fo:PyProof.Rows.OwnCls "NoCount" (cl "NoCount") o7 "ValueError.__new__" mg base) (afI:aM P w K mg base 2 "is_count" (["thing", "many"]:List Str) (aQ K cl 2 zK)):aM P w K mg base 3 "need_count" (["book", "count"]:List Str) (aQ K cl 2 xu):=by
 have S:=fS (["book", "count"]:List Str) (["book", "count"]:List Str) (bx Le)
 exact a.cQ S (cl:=cl) (by decide) (by walk_at "2") (λf cdv A outer s H E hr=>⟨_,(aU (dZ (iY (gH (pc1 (E:=E) afI hr cL (aA (ao 1) (aA (eF gO M.gQ (aA (bh (ao 0) aK) aB)) aB))) (by intro _; rfl))) (aU (yK yJ Fo PySem.F.excBase_ValueError rfl jC)) dY)),λt hK hx=>(jJ (nA (jG hK (mF hK hx (bF (bF dB)) (aL (aP 1) (aL (x_len hK (aL (mD hK (aP 0) (fZ _)) bG)) bG))))) (yV (λH'=>hx "NoCount" H') (p8 _)) jH)⟩)
theorem afJ(a:At K mg "place_of" La) (M:Nm mg):aM P w K mg base 1 "place_of" (["rule", "many"]:List Str) (aQ K cl 2 J4):=by
 have S:=fS (["rule", "many"]:List Str) (["rule", "many"]:List Str) (bx La)
 exact a.cQ S (cl:=cl) (by decide) (by walk_at "2") (λf cdv A outer s H E hr=>⟨_,(aW (dZ (fX (m9 hr.units) (bh (ao 0) aK) jC (eG _)) (aU (bO aK)) dY) (aW (dZ (fX (m9 hr.units) (bh (ao 0) aK) jC (eG _)) (aU (bO (ao 1))) dY) (aU (bO (bh (ao 0) aK))))),λt hK hx=>by delta Uc; walk_at "t"⟩)
theorem afK(a:At K mg "product_worth" K9) (M:Nm mg) (zZ:aM P w K mg base 3 "frac_times" (["one", "other"]:List Str) (aQ K cl 2 pH)):aM P w K mg base 4 "product_worth" (["worths"]:List Str) (aQ K cl 1 J3):=by
 have S:=fS (["worths", "product", "worth"]:List Str) (["worths"]:List Str) (bx K9)
 exact a.cQ S (cl:=cl) (by decide) (by walk_at "1") (λf cdv A outer s H E hr=>⟨_,(aW (cG 1 S.nd (wY (G:=aD K) (Ts:=[.int 1,.int 1]) (by kernel_rfl))) (aW (PS.kE (jD PassesOwn.never rfl (jt (ao 0)) (cC 2 S.nd) (aU (cG 1 S.nd (cX zZ hr (aA (ao 1) (aA (ao 2) aB))))))) (aU (bO (ao 1))))),λt hK hx=>by delta Ub; walk_at "t"⟩)
theorem afL(a:At K mg "shares_worth" K8) (M:Nm mg) (zX:aM P w K mg base 3 "frac_sum" (["one", "other"]:List Str) (aQ K cl 2 pG)) (zZ:aM P w K mg base 3 "frac_times" (["one", "other"]:List Str) (aQ K cl 2 pH)):aM P w K mg base 4 "shares_worth" (["weights", "worths"]:List Str) (aQ K cl 2 Dw):=by
 have S:=fS (["weights", "worths", "total", "weight", "worth"]:List Str) (["weights", "worths"]:List Str) (bx K8)
 exact a.cQ S (cl:=cl) (by decide) (by walk_at "2") (λf cdv A outer s H E hr=>⟨_,(aW (cG 2 S.nd (wY (G:=aD K) (Ts:=[.int 0,.int 1]) (by kernel_rfl))) (aW (PS.kE (jD PassesOwn.never rfl (QZ M.Vu (aA (ao 0) (aA (ao 1) aB))) (lQ rfl (fK (cC 3 S.nd) (fK (cC 4 S.nd) lO))) (aU (cG 2 S.nd (cX zX hr (aA (ao 2) (aA (cX zZ hr (aA (ao 3) (aA (ao 4) aB))) aB))))))) (aU (bO (ao 2))))),λt hK hx=>by delta Ua; walk_at "t"⟩)
theorem afM(a:At K mg "tops_on_one_bottom" Ei) (M:Nm mg) (afN:aM P w K mg base 2 "common_bottom" (["fractions"]:List Str) (aQ K cl 1 zG)):aM P w K mg base 3 "tops_on_one_bottom" (["fractions"]:List Str) (aQ K cl 1 Du):=by
 have S:=fS (["fractions", "bottom"]:List Str) (["fractions"]:List Str) (bx Ei)
 exact a.cQ S (cl:=cl) (by decide) (by walk_at "1") (λf cdv A outer s H E hr=>⟨_,(aW (Dg 1 S.nd rfl (pc1 (E:=E) afN hr cL (aA (ao 0) aB))) (aU (bO (m7 (sc:=bx Ei) (No:=(["fractions", "bottom"]:List Str)) (N:=(["top", "own", "bottom"]:List Str)) (src:=[none,none,some 1]) (g:=(qZ K 2 (jR (dU 0) (jR (dU 1) qY)))) rfl rfl ⟨by rfl,by decide +kernel,by decide +kernel,by decide +kernel,by rfl,by decide +kernel⟩ rfl (jt (ao 0)) (λC s H ex=>(lQ rfl (fK (cC 0 (show List.Nodup (["top", "own", "bottom"]:List Str) by decide +kernel)) (fK (cC 1 (show List.Nodup (["top", "own", "bottom"]:List Str) by decide +kernel)) lO)))) (λC s H ex=>(aZ eH (ao 0) (aZ qd (jK 2) (ao 1)))))))),λt hK hx=>by delta T5; walk_at "t"⟩)
theorem afO(a:At K mg "weight_stretches" Lh) (M:Nm mg) {zY:V} (pN:Gk K mg "END" zY (.tup [(.int 1),(.int 1)])) {Mq:V} (Fp:Gk K mg "HALF" Mq (.tup [(.int 1),(.int 2)])) {vQ:V} (nR:Gk K mg "START" vQ (.tup [(.int 0),(.int 1)])) (Ft:PyProof.Rows.OwnCls "TooMany" (cl "TooMany") o7 "ValueError.__new__" mg base) (Ml:aM P w K mg base 6 "need_book" (["book"]:List Str) (aQ K cl 1 vC)) (Mp:aM P w K mg base 3 "need_count" (["book", "count"]:List Str) (aQ K cl 2 xu)) (zZ:aM P w K mg base 3 "frac_times" (["one", "other"]:List Str) (aQ K cl 2 pH)) (afP:aM P w K mg base 10 "best_things" (["book", "rule", "count"]:List Str) (aQ K cl 3 xG)) (afQ:aM P w K mg base 5 "meeting_weights" (["book"]:List Str) (aQ K cl 1 tL)) (zX:aM P w K mg base 3 "frac_sum" (["one", "other"]:List Str) (aQ K cl 2 pG)) (Fe:aM P w K mg base 3 "frac_less" (["one", "other"]:List Str) (aQ K cl 2 qJ)):aM P w K mg base 11 "weight_stretches" (["book", "count"]:List Str) (aQ K cl 2 vM):=by
 have S:=fS (["book", "count", "edges", "stretches", "start", "end", "weight", "things"]:List Str) (["book", "count"]:List Str) (bx Lh)
 exact a.cQ S (cl:=cl) (by decide) (by walk_at "2") (λf cdv A outer s H E hr=>⟨_,(aW (psE (pc1 (E:=E) Ml hr cL (aA (ao 0) aB))) (aW (psE (pc1 (E:=E) Mp hr cL (aA (ao 0) (aA (ao 1) aB)))) (aW (dZ (fX (rQ hr.units) (eF gO M.gQ (aA (ao 0) aB)) aK (eG _)) (aU (yK yJ Ft PySem.F.excBase_ValueError rfl jC)) dY) (aW (cG 2 S.nd (aZ iz (aZ iz (oM (aA (o8 nR) aB)) (pc1 (E:=E) afQ hr cL (aA (ao 0) aB))) (oM (aA (o8 pN) aB)))) (aW (cG 3 S.nd (oM aB)) (aW (PS.kE (jD PassesOwn.never rfl (QZ M.Vu (aA (ao 2) (aA (Qc Rr (ao 2) (yx aK) P0) aB))) (lQ rfl (fK (cC 4 S.nd) (fK (cC 5 S.nd) lO))) (aW (cG 6 S.nd (cX zZ hr (aA (o8 Fp) (aA (cX zX hr (aA (ao 4) (aA (ao 5) aB))) aB)))) (aW (cG 7 S.nd (cX afP hr (aA (ao 0) (aA (oK (aA jC (aA (oM (aA (ao 6) (aA (cX Fe hr (aA (o8 pN) (aA (ao 6) aB))) aB))) aB))) (aA (ao 1) aB))))) (aW (dZ (PW.pt (ud (gH (ao 3) (by intro _; rfl)) (yq (fX (m9 hr.units) (bh (bh (ao 3) (um uo aK)) aK) (ao 7) (eG _))))) (aU (cG 4 S.nd (bh (aae PySem.F.plainAttrs_list PySem.F.slot_list_pop PySem.F.type_list_pop aah (ao 3)) aK))) dY) (aU (psE (BK PySem.F.plainAttrs_list PySem.F.slot_list_append PySem.F.type_list_append yC (ao 3) (oJ (oK (aA (ao 4) (aA (ao 5) (aA (ao 7) aB)))) aB))))))))) (aU (bO (ao 3))))))))),λt hK hx=>(dw (yU (mF hK hx (bF dB) (aL (aP 0) bG))) (dw (yU (mF hK hx (bF (bF dB)) (aL (aP 0) (aL (aP 1) bG)))) (dw (jJ (lA (za hK (x_len hK (aL (aP 0) bG)) (fZ _))) (yV (λH'=>hx "TooMany" H') (p8 _)) jH) (dw (gP (u0 hK (u0 hK (uE (aL (qw hK nR) bG)) (mF hK hx (bF dB) (aL (aP 0) bG))) (uE (aL (qw hK pN) bG))) (cF 2) cJ) (dw (Rz 3 (uE bG)) (dw (Jo (λt1 h1 k1=>(wQ (R8 (h1.trans hK) (aL (aP 2) (aL (Rt (h1.trans hK) (aP 2) (Ro (fZ _)) Rn) bG))) (uM (h1.trans hK) (jd (cF 4) (jd (cF 5) uL))) (uZ (ju cJ (ju cJ uY))) (dw (gP (gw (h1.trans hK) k1 (bF (bF dB)) (aL (qw (h1.trans hK) Fp) (aL (gw (h1.trans hK) k1 (bF (bF dB)) (aL (aP 4) (aL (aP 5) bG))) bG))) (cF 6) cJ) (dw (gP (gw (h1.trans hK) k1 (bF (bF (bF dB))) (aL (aP 0) (aL (rW (aL (p8 _) (aL (uE (aL (aP 6) (aL (gw (h1.trans hK) k1 (bF (bF dB)) (aL (qw (h1.trans hK) pN) (aL (aP 6) bG))) bG))) bG))) (aL (aP 1) bG)))) (cF 7) cJ) (dw (jJ (uF (jG (h1.trans hK) (aP 3)) (lA (x_eq (h1.trans hK) (mD (h1.trans hK) (mD (h1.trans hK) (aP 3) (RX (fZ _))) (fZ _)) (aP 7)))) (gP (mD (h1.trans hK) (aeP 3) (fZ _)) (cF 4) cJ) jH) (yU (RZ 3 (rW (aL (aP 4) (aL (aP 5) (aL (aP 7) bG)))))))))))) (j4 (aP 3))))))))⟩)
theorem afR(a:At K mg "worth_by" Lb) (M:Nm mg) (afS:aM P w K mg base 4 "shares_worth" (["weights", "worths"]:List Str) (aQ K cl 2 Dw)) (afT:aM P w K mg base 4 "product_worth" (["worths"]:List Str) (aQ K cl 1 J3)) (zV:aM P w K mg base 4 "falling_places" (["fractions"]:List Str) (aQ K cl 1 lF)) (afU:aM P w K mg base 1 "place_of" (["rule", "many"]:List Str) (aQ K cl 2 J4)):aM P w K mg base 5 "worth_by" (["rule", "worths"]:List Str) (aQ K cl 2 zH):=by
 have S:=fS (["rule", "worths"]:List Str) (["rule", "worths"]:List Str) (bx Lb)
 exact a.cQ S (cl:=cl) (by decide) (by walk_at "2") (λf cdv A outer s H E hr=>⟨_,(aW (dZ (fX (m9 hr.units) (bh (ao 0) aK) jC (eG _)) (aU (bO (pc1 (E:=E) afS hr cL (aA (bh (ao 0) aK) (aA (ao 1) aB))))) dY) (aW (dZ (fX (m9 hr.units) (bh (ao 0) aK) jC (eG _)) (aU (bO (pc1 (E:=E) afT hr cL (aA (ao 1) aB)))) dY) (aU (bO (bh (ao 1) (bh (pc1 (E:=E) zV hr cL (aA (ao 1) aB)) (aZ rz (pc1 (E:=E) afU hr cL (aA (ao 0) (aA (eF gO M.gQ (aA (ao 1) aB)) aB))) aK))))))),λt hK hx=>by delta Ud; walk_at "t"⟩)
theorem afV(a:At K mg "worths_by" Eo) (M:Nm mg) (afW:aM P w K mg base 5 "worth_by" (["rule", "worths"]:List Str) (aQ K cl 2 zH)) (afX:aM P w K mg base 1 "worths_of" (["book", "thing"]:List Str) (aQ K cl 2 zJ)):aM P w K mg base 6 "worths_by" (["book", "rule"]:List Str) (aQ K cl 2 xr):=by
 have S:=fS (["book", "rule"]:List Str) (["book", "rule"]:List Str) (bx Eo)
 exact a.cQ S (cl:=cl) (by decide) (by walk_at "2") (λf cdv A outer s H E hr=>⟨_,(aU (bO (m7 (sc:=bx Eo) (No:=(["book", "rule"]:List Str)) (N:=(["thing", "rule", "book"]:List Str)) (src:=[none,some 1,some 0]) (g:=(dU 0)) rfl rfl ⟨by rfl,by decide +kernel,by decide +kernel,by decide +kernel,by rfl,by decide +kernel⟩ rfl (o9 M.nQ (aA (eF gO M.gQ (aA (bh (jK 0) aK) aB)) aB)) (λC s H ex=>(cC 0 (show List.Nodup (["thing", "rule", "book"]:List Str) by decide +kernel))) (λC s H ex=>(cX afW hr (aA (jK 1) (aA (cX afX hr (aA (jK 2) (aA (ao 0) aB))) aB))))))),λt hK hx=>by delta Ug; walk_at "t"⟩)
theorem afY(a:At K mg "worths_of" Em) (M:Nm mg):aM P w K mg base 1 "worths_of" (["book", "thing"]:List Str) (aQ K cl 2 zJ):=by
 have S:=fS (["book", "thing"]:List Str) (["book", "thing"]:List Str) (bx Em)
 exact a.cQ S (cl:=cl) (by decide) (by walk_at "2") (λf cdv A outer s H E hr=>⟨_,(aU (bO (m7 (sc:=bx Em) (No:=(["book", "thing"]:List Str)) (N:=(["row", "thing"]:List Str)) (src:=[none,some 1]) (g:=(dU 0)) rfl rfl ⟨by rfl,by decide +kernel,by decide +kernel,by decide +kernel,by rfl,by decide +kernel⟩ rfl (jt (ao 0)) (λC s H ex=>(cC 0 (show List.Nodup (["row", "thing"]:List Str) by decide +kernel))) (λC s H ex=>(wA wB (ao 0) (jK 1) (λ_ _=>rfl)))))),λt hK hx=>by delta Ue; walk_at "t"⟩)
end
end K98
end
section
namespace L2
open PySem
@[simp] theorem Rs.iQ{α β : Type}(a : α)(f : α -> Rs β):(Rs.ok a).bind f=f a:=rfl
@[simp] theorem Rs.akT{α β : Type}(f : α -> Rs β):(Rs.bad:Rs α).bind f=.bad:=rfl
@[simp] theorem Rs.akU{α β : Type}(c:Str)(f : α -> Rs β):(Rs.ex c:Rs α).bind f=.ex c:=rfl
inductive Tg{α β : Type}(f : α -> Rs β):Type
 |mk
def bd{α β : Type}(r:Rs α)(f : α -> Rs β)(_:Tg f):Rs β := r.bind f
@[simp] theorem Fv{α β : Type}(f : α -> Rs β)(a : α)(u:Tg f):bd (.ok a) f u=f a:=rfl
@[simp] theorem akV{α β : Type}(f : α -> Rs β)(u:Tg f):bd .bad f u=.bad:=rfl
@[simp] theorem akW{α β : Type}(f : α -> Rs β)(c:Str)(u:Tg f):bd (.ex c) f u=.ex c:=rfl
@[simp] theorem akX(f g:SF)(ρ : En):aJ f g ρ = ((bd (f ρ) (λp=>match p.1 with
 |.nx=>g p.2
 |fl=>.ok (fl,p.2)) .mk)):=rfl
@[simp] theorem akY(c:BF)(f g:SF)(ρ : En):cA c f g ρ = ((bd (c ρ) (λp=>if p.1=true then f p.2 else g p.2) .mk)):=rfl
@[simp] theorem akZ(f:EF)(ρ : En):bB f ρ = ((bd (f ρ) (λp=>match p.1 with
 |.v T fr=>.ok (.rt T fr,p.2)
 |.s i=>match p.2[i]? with
  |some (.ow ts)=>.ok (.rt (.lst ts) true,p.2)
  |_=>.bad) .mk)):=rfl
@[simp] theorem ak0(f:EF)(g:GF)(ρ : En):aV f g ρ = ((bd (f ρ) (λp=>match p.1 with
 |.v T _=>(bd (g T p.2) (λρ'=>.ok (.nx,ρ')) .mk)
 |.s _=>.bad) .mk)):=rfl
@[simp] theorem ak1(i:Nat)(f:EF)(ρ : En):sE i f ρ = ((bd (f ρ) (λp=>match p.1 with
 |.v (.lst ts) true=>.ok (.nx,p.2.set i (.ow ts))
 |_=>.bad) .mk)):=rfl
@[simp] theorem ak2  (ρ : En):cB  ρ = (.ok (.nx,ρ)):=rfl
@[simp] theorem ak3(f:SF)(ρ : En):fO f ρ = (dO (f ρ)):=rfl
@[simp] theorem ak4(i j:Nat)(fa:AF)(ρ : En):wV i j fa ρ = ((bd (fa ρ) (λp=>(bd (cls p.1) (λTs=>match Ts with
 | [T,U]=>.ok (.nx,(p.2.set i (.sh T)).set j (.sh U))
 |_=>.bad) .mk)) .mk)):=rfl
@[simp] theorem ak5(i:Nat)(fk fe:EF)(ρ : En):abL i fk fe ρ = ((bd (fe ρ) (λp=>(bd (cls [p.1]) (λTs=>(bd (con p.2 i) (λ_=>(bd (fk p.2) (λq=>(bd (dr q.2 q.1) (λkT=>(bd (qe kT) (λk=>(bd (con q.2 i) (λts=>match Ts,gh ts.length k with
 | [T],some j=>.ok (.nx,dN i (ts.set j T) q.2)
 |_,_=>.bad) .mk)) .mk)) .mk)) .mk)) .mk)) .mk)) .mk)):=rfl
@[simp] theorem ak6(f:EF)(ρ : En):je f ρ = ((bd (f ρ) (λp=>.ok (.nx,p.2)) .mk)):=rfl
@[simp] theorem ak7(fi:IF)(g:GF)(b:SF)(ρ : En):fQ fi g b ρ = ((bd (fi ρ) (λp=>fM g b p.1 p.2) .mk)):=rfl
@[simp] theorem ak8(i:Nat)(f:SF)(ρ : En):CJ i f ρ = (f (fJ i ρ)):=rfl
@[simp] theorem ak9(i:Nat)(f:SF)(ρ : En):acO i f ρ = (f (Jy i ρ)):=rfl
@[simp] theorem ala(i:Nat)(p:Int->Int->Int)(f:EF)(ρ : En):abM i p f ρ = (match ρ[i]? with
 |some (.sh (.int x))=>(bd (f ρ) (λq=>(bd (dr q.2 q.1) (λyT=>(bd (qe yT) (λy=>.ok (.nx,q.2.set i (.sh (.int (p x y))))) .mk)) .mk)) .mk)
 |_=>.bad):=rfl
@[simp] theorem alb(i:Nat)(fk:QF)(m:GM)(fa:QF)(ρ : En):acM i fk m fa ρ = ((bd (vm ρ i) (λts=>(bd (dO (fk ρ)) (λk=>(bd (pA ts k) (λz=>match z.2 with
 |.lst us=>(bd (dO (fa ρ)) (λT=>(bd (m us [T]) (λy=>.ok (.nx,ρ.set i (.dp (ts.set z.1 (.lst y.1))))) .mk)) .mk)
 |_=>.bad) .mk)) .mk)) .mk)):=rfl
@[simp] theorem alc(i:Nat)(fk fj:QF)(fe:EF)(ρ : En):acN i fk fj fe ρ = ((bd (fe ρ) (λp=>(bd (qu p.1) (λT=>(bd (vm p.2 i) (λts=>(bd (dO (fk p.2)) (λk=>(bd (pA ts k) (λz=>match z.2 with
 |.lst us=>(bd (dO (fj p.2)) (λj=>(bd (pA us j) (λy=>.ok (.nx,p.2.set i (.dp (ts.set z.1 (.lst (us.set y.1 T)))))) .mk)) .mk)
 |_=>.bad) .mk)) .mk)) .mk)) .mk)) .mk)):=rfl
@[simp] theorem ald(i:Nat)(src:List (Option Nat))(fi:IF)(g:GF)(c:BF)(f:EF)(ρ : En):acP i src fi g c f ρ = ((bd (fi ρ) (λp=>if p.1.length<=100000 then(bd (dO (Dh g c f p.1 (gW src p.2))) (λz=>if gY src z.2 p.2=true then .ok (.nx,(cU src z.2 p.2).set i (.dp z.1))else .bad) .mk)else .bad) .mk)):=rfl
@[simp] theorem ale(i:Nat)(ρ : En):acK i ρ = (match ρ[i]? with
 |some (.sh T)=>.ok T
 |_=>.bad):=rfl
@[simp] theorem alf(T:Tr)(ρ : En):qC T ρ=.ok T:=rfl
@[simp] theorem alg(i:Nat)(fk fj:QF)(ρ : En):acL i fk fj ρ = ((bd (vm ρ i) (λts=>(bd (fk ρ) (λk=>(bd (pA ts k) (λz=>match z.2 with
 |.lst us=>(bd (fj ρ) (λj=>(bd (pA us j) (λy=>.ok y.2) .mk)) .mk)
 |_=>.bad) .mk)) .mk)) .mk)):=rfl
@[simp] theorem alh(i:Nat)(ρ : En):aj i ρ = (match ρ[i]? with
 |some (.sh T)=>.ok (.v T false,ρ)
 |some (.ow _)=>.ok (.s i,ρ)
 |some (.rf _)=>.ok (.s i,ρ)
 |_=>.bad):=rfl
@[simp] theorem ali(T:Tr)(ρ : En):eC T ρ = (.ok (.v T false,ρ)):=rfl
@[simp] theorem alj(Ts:List Tr)(ρ : En):Dd Ts ρ=.ok (.v (.lst Ts) true,ρ):=rfl
@[simp] theorem alk(g:G2)(fa fb:EF)(ρ : En):aq g fa fb ρ = ((bd (fa ρ) (λp=>(bd (fb p.2) (λq=>(bd (dr q.2 p.1) (λa=>(bd (dr q.2 q.1) (λb=>(bd (g a b) (λz=>.ok (.v z.1 z.2,q.2)) .mk)) .mk)) .mk)) .mk)) .mk)):=rfl
@[simp] theorem alm(g:G1)(fa:EF)(ρ : En):wM g fa ρ = ((bd (fa ρ) (λp=>(bd (dr p.2 p.1) (λa=>(bd (g a) (λz=>.ok (.v z.1 z.2,p.2)) .mk)) .mk)) .mk)):=rfl
@[simp] theorem aln(g:GN)(fa:AF)(ρ : En):bK g fa ρ = ((bd (fa ρ) (λp=>(bd (drs p.2 p.1) (λas=>(bd (g as) (λz=>.ok (.v z.1 z.2,p.2)) .mk)) .mk)) .mk)):=rfl
@[simp] theorem alo(F:FP)(fa:AF)(ρ : En):aG F fa ρ = ((bd (fa ρ) (λp=>(bd (drs p.2 p.1) (λas=>(bd (F as) (λz=>if p.1.any cR=true/\j6 z=false then .bad else .ok (.v z.1 z.2,p.2)) .mk)) .mk)) .mk)):=rfl
@[simp] theorem alp(r:Nat)(F:FR)(fa:AF)(ρ : En):abU r F fa ρ = ((bd (fa ρ) (λp=>match p.1[r]? with
 |some (.s i)=>if others r i p.1=true then((bd (con p.2 i) (λ_=>(bd (drs p.2 p.1) (λas=>(bd (F as) (λz=>if((p.1.eraseIdx r).any cR=true/\j6 z.1=false)\/(((p.1.eraseIdx r).any cR=true\/z.1.2=true)/\lD z.2=false)then .bad else .ok (.v z.1.1 z.1.2,dN i z.2 p.2)) .mk)) .mk)) .mk))else .bad
 |_=>.bad) .mk)):=rfl
@[simp] theorem alq(a:Int):lD [.int a]=true:=rfl
@[simp] theorem alr(a b:Int):lD [.int a,.int b]=true:=rfl
@[simp] theorem als(g:AF)(ρ : En):iB g ρ = ((bd (g ρ) (λp=>(bd (cls p.1) (λts=>if ts.length<=1000 then .ok (.v (.lst ts) true,p.2)else .bad) .mk)) .mk)):=rfl
@[simp] theorem alu(g:AF)(ρ : En):gk g ρ = ((bd (g ρ) (λp=>(bd (cls p.1) (λts=>if ts.length<=1000 then .ok (.v (.tup ts) false,p.2)else .bad) .mk)) .mk)):=rfl
@[simp] theorem alv(f g:EF)(ρ : En):oV f g ρ = ((bd (cg f ρ) (λp=>if p.1=true then g p.2 else .ok (eB false,p.2)) .mk)):=rfl
@[simp] theorem alw(f g:EF)(ρ : En):eOr f g ρ = ((bd (cg f ρ) (λp=>if p.1=true then .ok (eB true,p.2)else g p.2) .mk)):=rfl
@[simp] theorem alx(f:EF)(ρ : En):IW f ρ = ((bd (cg f ρ) (λp=>.ok (eB (!p.1),p.2)) .mk)):=rfl
@[simp] theorem aly(c:BF)(f g:EF)(ρ : En):wN c f g ρ = ((bd (c ρ) (λp=>if p.1=true then f p.2 else g p.2) .mk)):=rfl
@[simp] theorem alz(c:Ty)(fa:EF)(ρ : En):lC c fa ρ = ((bd (fa ρ) (λp=>(bd (dr p.2 p.1) (λa=>.ok (eB (iZ a c),p.2)) .mk)) .mk)):=rfl
@[simp] theorem alA(g g':G2)(fa fb fc:EF)(ρ : En):rZ g g' fa fb fc ρ = ((bd (fa ρ) (λp=>(bd (fb p.2) (λq=>(bd (dr q.2 p.1) (λa=>(bd (dr q.2 q.1) (λb=>(bd (g a b) (λz=>(bd (dM z.1) (λk=>if k=true then(bd (fc q.2) (λs=>(bd (dr s.2 q.1) (λb=>(bd (dr s.2 s.1) (λc=>(bd (g' b c) (λz=>.ok (.v z.1 z.2,s.2)) .mk)) .mk)) .mk)) .mk)else .ok (eB false,q.2)) .mk)) .mk)) .mk)) .mk)) .mk)) .mk)):=rfl
@[simp] theorem alB(fa:EF)(fl fh:OF)(ρ : En):uJ fa fl fh ρ = ((bd (fa ρ) (λp=>(bd (fl p.2) (λl=>(bd (fh l.2) (λh=>(bd (dr h.2 p.1) (λa=>(bd (su l.1 h.1 a) (λz=>.ok (.v z.1 z.2,h.2)) .mk)) .mk)) .mk)) .mk)) .mk)):=rfl
@[simp] theorem Fw(src:List (Option Nat))(fi:IF)(g:GF)(c:BF)(f:EF)(ρ : En):dR src fi g c f ρ = ((bd (fi ρ) (λp=>if p.1.length<=100000 then(bd (dO (iU g c f p.1 (gW src p.2))) (λz=>if gY src z.2 p.2=true then .ok (.v (.lst z.1) true,cU src z.2 p.2)else .bad) .mk)else .bad) .mk)):=rfl
@[simp] theorem alC(i:Nat)(m:GM)(fa:AF)(ρ : En):lZ i m fa ρ = ((bd (con ρ i) (λ_=>(bd (fa ρ) (λp=>(bd (cls p.1) (λas=>(bd (con p.2 i) (λts=>(bd (m ts as) (λz=>.ok (.v z.2 false,dN i z.1 p.2)) .mk)) .mk)) .mk)) .mk)) .mk)):=rfl
@[simp] theorem alD(i:Nat)(m:GM)(ρ : En):uP i m ρ = ((bd (con ρ i) (λts=>(bd (m ts []) (λz=>.ok (.v z.2 false,dN i z.1 ρ)) .mk)) .mk)):=rfl
@[simp] theorem alE(fa:EF)(ρ : En):cg fa ρ = ((bd (fa ρ) (λp=>(bd (dr p.2 p.1) (λa=>(bd (dM a) (λb=>.ok (b,p.2)) .mk)) .mk)) .mk)):=rfl
@[simp] theorem alF(fa:EF)(ρ : En):cZ fa ρ = ((bd (fa ρ) (λp=>(bd (dr p.2 p.1) (λa=>(bd (gM a) (λb=>.ok (b,p.2)) .mk)) .mk)) .mk)):=rfl
@[simp] theorem alG(f g:BF)(ρ : En):iR f g ρ = ((bd (f ρ) (λp=>if p.1=true then g p.2 else .ok (false,p.2)) .mk)):=rfl
@[simp] theorem alH(f g:BF)(ρ : En):lB f g ρ = ((bd (f ρ) (λp=>if p.1=true then .ok (true,p.2)else g p.2) .mk)):=rfl
@[simp] theorem alI(f:BF)(ρ : En):fP f ρ = ((bd (f ρ) (λp=>.ok (!p.1,p.2)) .mk)):=rfl
@[simp] theorem afZ  (ρ : En):c7  ρ = (.ok (true,ρ)):=rfl
@[simp] theorem alJ  (ρ : En):au  ρ = (.ok ([],ρ)):=rfl
@[simp] theorem alK(f:EF)(g:AF)(ρ : En):ak f g ρ = ((bd (f ρ) (λp=>(bd (g p.2) (λq=>.ok (p.1::q.1,q.2)) .mk)) .mk)):=rfl
@[simp] theorem alL(f:EF)(ρ : En):cW f ρ = ((bd (f ρ) (λp=>(bd (sG p.1) (λz=>.ok (z.1,p.2)) .mk)) .mk)):=rfl
@[simp] theorem alM(fa:AF)(ρ : En):fH fa ρ = ((bd (fa ρ) (λp=>(bd (drs p.2 p.1) (λas=>match as with
 | [.int j]=>if okR j=true then .ok (upTo 0 j.toNat,p.2)else .bad
 |_=>.bad) .mk)) .mk)):=rfl
@[simp] theorem alN(fa:AF)(ρ : En):abG fa ρ = ((bd (fa ρ) (λp=>(bd (drs p.2 p.1) (λas=>match as with
 | [.int i,.int j]=>if okR i=true/\okR j=true then .ok (upTo i (j-i).toNat,p.2)else .bad
 |_=>.bad) .mk)) .mk)):=rfl
@[simp] theorem alO(fa:AF)(ρ : En):zp fa ρ = ((bd (fa ρ) (λp=>match p.1 with
 | [.v (.lst us) _,.v (.lst vs) _]=>.ok (sV us vs,p.2)
 |_=>.bad) .mk)):=rfl
@[simp] theorem alP  (ρ : En):uG  ρ = (.ok (none,ρ)):=rfl
@[simp] theorem alQ(fa:EF)(ρ : En):uH fa ρ = ((bd (fa ρ) (λp=>(bd (dr p.2 p.1) (λa=>(bd (qe a) (λb=>.ok (some b,p.2)) .mk)) .mk)) .mk)):=rfl
@[simp] theorem alR(i:Nat)(T:Tr)(ρ : En):gN i T ρ = (.ok (ρ.set i (.sh T))):=rfl
@[simp] theorem alS(n:Nat)(f:nC)(T:Tr)(ρ : En):gT n f T ρ = (match T with
 |.tup Ts=>if Ts.length=n then f Ts ρ else .bad
 |_=>.bad):=rfl
@[simp] theorem alT  (Ts:List Tr)(ρ : En):dz  Ts ρ = (match Ts with
 | []=>.ok ρ
 |_=>.bad):=rfl
@[simp] theorem alU(f:GF)(g:nC)(Ts:List Tr)(ρ : En):bA f g Ts ρ = (match Ts with
 |T::r=>(bd (f T ρ) (λρ'=>g r ρ') .mk)
 | []=>.bad):=rfl
@[simp] theorem alV(a:Tr):cu 1 [a]=[.sh a]:=rfl
end L2
end
section
namespace BH
open PySem L2
theorem jN(i:Int):dep (.int i)=0:=rfl
theorem af0(i:Bool):dep (.bl i)=0:=rfl
theorem VB(i:Str):dep (.str i)=0:=rfl
theorem af2:dep .non=0:=rfl
theorem Mr(ts:List Tr):dep (.tup ts)=deps ts+1:=by simp only[dep]
theorem Fx(ts:List Tr):dep (.lst ts)=deps ts+1:=by simp only[dep]
theorem Aa:deps []=0:=rfl
theorem nU(t:Tr)(ts:List Tr):deps (t::ts)=max (dep t) (deps ts):=by simp only[deps]
theorem pO(i j:Int):eqT (.int i) (.int j)=(i == j):=by simp only[eqT]
theorem af3(i j:Bool):eqT (.bl i) (.bl j)=(i == j):=by simp only[eqT]
theorem af4(i j:Str):eqT (.str i) (.str j)=(i == j):=by simp only[eqT]
def isW:Tr->Bool
 |.int _=>true
 |_=>false
theorem VD(T:Tr):qK [T]=.ok (.bl (isW T),false):=by cases T <;> rfl
def wc:BF:=cg (aq fC (aj 1) (eC (.int 0)))
def wb:SF:=wV 0 1 (ak (aj 1) (ak (aq dh (aj 0) (aj 1)) au))
theorem af5(a b:Int):wc [.sh (.int a),.sh (.int b)]=.ok (!(b == 0),[.sh (.int a),.sh (.int b)]):=rfl
theorem af6(a b:Int)(h:b≠0):wb [.sh (.int a),.sh (.int b)]=.ok (.nx,[.sh (.int b),.sh (.int (a.fmod b))]):=by
 unfold wb; simp -dsimp[dr,cls,gK,dh,h]
theorem VF:∀(n:Nat) (a b:Int),b.natAbs<n->∃g:Int,ql wc wb n [.sh (.int a),.sh (.int b)]=.ok (.nx,[.sh (.int g),.sh (.int 0)])/\(if g<0 then -g else g)=((Int.gcd a b:Nat):Int)
 | 0,a,b,h=>by omega
 |n+1,a,b,h=>by
  unfold ql
  rw[af5]
  by_cases z:b=0
  ·subst z
   exact⟨a,rfl,aaG a⟩
  ·obtain⟨g,h1,h2⟩:=VF n b (a.fmod b) (by have:=QT a b z; omega)
   refine⟨g,?_,by rw[h2,QV]⟩
   have e:(!(b == 0))=true:=by simp[z]
   simp only[Rs.bind,e,if_true]
   rw[af6 a b z]
   exact h1
def VG:SF:=(aJ (fO (oW (qx 1) wc wb)) (bB (bK (g1 lY) (ak (aj 0) au))))
theorem af7(a b:Int):bC 2 VG [.int a,.int b]=.ok (.int (Int.gcd a b:Nat),false):=by
 obtain⟨g,h1,h2⟩:=VF (b.natAbs+1) a b (by omega)
 have h0:cu 2 [.int a,.int b]=[.sh (.int a),.sh (.int b)]:=rfl
 have h3:fO (oW (qx 1) wc wb) [.sh (.int a),.sh (.int b)]=.ok (.nx,[.sh (.int g),.sh (.int 0)]):=by
  unfold fO oW
  rw[show qx 1 [.sh (.int a),.sh (.int b)]=b.natAbs+1 from rfl,h1]
  rfl
 rw[<-h2]
 unfold bC VG aJ
 rw[h0,h3]
 rfl
theorem Fy(a b:Int):qI [.int a,.int b]=.ok (.int (Int.gcd a b:Nat),false):=af7 a b
def Fz:Tr->Tr->Bool
 |.int p,.int q=>decide (1<=q)&&(Int.gcd p q == 1)
 |_,_=>false
def mQ:Tr->Bool
 |.tup [a,b]=>Fz a b
 |_=>false
theorem af8(n:Nat):((n:Int) == 1)=(n == 1):=by
 rw[Bool.eq_iff_iff]; simp; omega
theorem vR(T:Tr):tD [T]=.ok (.bl (mQ T),false):=by
 unfold tD J0 bC
 cases T with
 |tup ts =>
  match ts with
  | []=>rfl
  | [_]=>rfl
  | [a,b] =>
   cases a <;> cases b <;> try rfl
   rename_i p q
   simp -dsimp[eB,dM,gM,dr,drs,g1,gB,dX,fC,jZ,bM,cR,jN,pO,iZ,cu,VD,isW,Fy,mQ,Fz,af8]
   by_cases h:1<=q <;> simp[h]
  |a::b::c::r =>
   have:((r.length:Int)+1+1+1 == 2)=false:=by simp; omega
   simp -dsimp[eB,dM,gM,dr,drs,g1,fC,jZ,bM,jN,pO,iZ,cu,mQ,this]
 |_=>rfl
def Ms:Tr->Tr->Bool
 |.int p,.int q=>decide (0<=p)&&decide (p<=q)&&decide (1<=q)&&(Int.gcd p q == 1)
 |_,_=>false
def lG:Tr->Bool
 |.tup [a,b]=>Ms a b
 |_=>false
theorem af9(T:Tr):qL [T]=.ok (.bl (lG T),false):=by
 unfold qL J1 bC
 cases T with
 |tup ts =>
  match ts with
  | []=>simp -dsimp[eB,dM,dr,drs,fD,cR,cu,vR,mQ,lG]
  | [_]=>simp -dsimp[eB,dM,dr,drs,fD,cR,cu,vR,mQ,lG]
  | [a,b] =>
   by_cases w:isW a=true/\isW b=true
   case neg =>
    have w1:Fz a b=false:=by cases a <;> cases b <;> first|rfl|exact absurd ⟨rfl,rfl⟩ w
    have w2:Ms a b=false:=by cases a <;> cases b <;> first|rfl|exact absurd ⟨rfl,rfl⟩ w
    simp -dsimp[eB,dM,dr,drs,fD,cR,cu,vR,mQ,lG,w1,w2]
   cases a <;> try cases w.1
   cases b <;> try cases w.2
   rename_i p q
   simp -dsimp[eB,dM,dr,drs,gB,fD,aC,cR,dI,gh,cu,vR,mQ,lG,Fz,Ms]
   by_cases h:1<=q <;> by_cases h2:p.gcd q=1 <;> by_cases h3:0<=p <;> simp[h,h2,h3]
  |a::b::c::r=>simp -dsimp[eB,dM,dr,drs,fD,cR,cu,vR,mQ,lG]
 |_=>simp -dsimp[eB,dM,dr,drs,fD,cR,cu,vR,mQ,lG]
theorem comp_map{f:EF}{h:Tr->Tr}{τ : En}:∀(us:List Tr) (s:Sl),(∀u∈us,∃fr,f (.sh u::τ)=.ok (.v (h u) fr,.sh u::τ))->∃s',iU (gN 0) c7 f us (s::τ)=.ok (us.map h,s'::τ)
 | [],s,_=>⟨s,rfl⟩
 |u::us,s,q=>by
  obtain⟨fr,e⟩:=q u (by simp)
  obtain⟨s',e'⟩:=comp_map us (.sh u) λv hv=>q v (by simp[hv])
  refine⟨s',?_⟩
  unfold iU
  simp[e,qu,e']
theorem Mv{p:Tr->Bool}:∀us:List Tr,qg (us.map λu=>.bl (p u))=some (us.map p)
 | []=>rfl
 |u::us=>by simp[qg,Mv us]
theorem VH{F:FP}{p:Tr->Bool}{us:List Tr}{ρ : En}{i:IF}{fe:EF}(hl:us.length<=100000)(hi:i ρ=.ok (us,ρ))(hf:∀u∈us,∃fr,fe [.sh u]=.ok (.v (.bl (p u)) fr,[.sh u])):bK (g1 gG) (ak (dR [none] i (gN 0) c7 fe) au) ρ=.ok (.v (.bl (us.all p)) false,ρ):=by
 obtain⟨s',e⟩:=comp_map (h:=λu=>.bl (p u)) us .un hf
 simp -dsimp[dO,dr,drs,g1,gG,gW,cU,gY,sJ,hi,hl,e,Mv]
theorem aga{p:Tr->Bool}{us:List Tr}{ρ : En}{i:IF}{fe:EF}{j:Nat}{T:Tr}(hl:us.length<=100000)(hi:i ρ=.ok (us,ρ))(hj : ρ[j]?=some (.sh T))(hf:∀u∈us,∃fr,fe [.sh u,.sh T]=.ok (.v (.bl (p u)) fr,[.sh u,.sh T])):bK (g1 gG) (ak (dR [none,some j] i (gN 0) c7 fe) au) ρ=.ok (.v (.bl (us.all p)) false,ρ):=by
 obtain⟨s',e⟩:=comp_map (h:=λu=>.bl (p u)) us .un hf
 simp -dsimp[dO,dr,drs,g1,gG,gW,cU,gY,oZ,sJ,hi,hl,hj,e,Mv]
def mR(m:Int):Tr->Bool
 |.lst ts=>decide (1<=(ts.length:Int))&&decide ((ts.length:Int)<=m)&&ts.all lG
 |_=>false
theorem agb(T:Tr)(m:Int)(hm:m<=1000):vB [T,.int m]=.ok (.bl (mR m T),false):=by
 unfold vB J2 bC
 cases T with
 |lst ts =>
  by_cases h1:1<=(ts.length:Int)
  ·by_cases h2:(ts.length:Int)<=m
   ·have e:=VH (F:=qL) (p:=lG) (us:=ts) (ρ:=[.sh (.lst ts),.sh (.int m)]) (i:=cW (aj 0)) (fe:=aG qL (ak (aj 0) au)) (by omega) rfl (λu _=>⟨false,by simp -dsimp[dr,drs,cR,af9]⟩)
    generalize bK (g1 gG) (ak (dR [none] (cW (aj 0)) (gN 0) c7 (aG qL (ak (aj 0) au))) au)=G at e ⊢
    simp -dsimp[eB,dM,gM,dr,drs,g1,gB,fD,bM,iZ,cu,h1,h2,e,mR]
   ·simp -dsimp[eB,dM,gM,dr,drs,g1,gB,fD,bM,iZ,cu,h1,h2,mR]
  ·simp -dsimp[eB,dM,gM,dr,drs,g1,gB,fD,bM,iZ,cu,h1,mR]
 |_=>simp -dsimp[eB,gM,dr,fD,iZ,cu,mR]
def mU:Tr->Int
 |.lst ts=>ts.length
 |_=>-1
def nY:Tr->Bool
 |.lst rs=>decide (1<=(rs.length:Int))&&decide ((rs.length:Int)<=4)&&rs.all (mR 12)&&rs.all λr=>mU r == mU (rs.headD .non)
 |_=>false
theorem VJ{m:Int}{T:Tr}(h:mR m T=true):∃ts,T=.lst ts:=by
 cases T <;> first|exact⟨_,rfl⟩|cases h
theorem agc(T:Tr):zF [T]=.ok (.bl (nY T),false):=by
 unfold zF T3 bC
 cases T with
 |lst ts =>
  by_cases h1:1<=(ts.length:Int)
  ·by_cases h2:(ts.length:Int)<=4
   ·have e:=VH (F:=qL) (p:=mR 12) (us:=ts) (ρ:=[.sh (.lst ts)]) (i:=cW (aj 0)) (fe:=(aG vB (ak (aj 0) (ak (eC (.int 12)) au)))) (by omega) rfl (λu _=>⟨false,by simp -dsimp[dr,drs,cR,agb]⟩)
    generalize bK (g1 gG) (ak (dR [none] (cW (aj 0)) (gN 0) c7 (aG vB (ak (aj 0) (ak (eC (.int 12)) au)))) au)=G at e ⊢
    cases h3:ts.all (mR 12)with
    |false=>rw[h3]at e; simp -dsimp[eB,dM,gM,dr,drs,g1,gB,fD,bM,iZ,cu,h1,h2,e,nY,h3]
    |true =>
     have h4:=List.all_eq_true.mp h3
     obtain⟨r0,rs,rfl⟩:∃r0 rs,ts=r0::rs:=by cases ts with
      |nil=>simp at h1
      |cons a b=>exact⟨a,b,rfl⟩
     obtain⟨l0,rfl⟩:=VJ (h4 r0 (by simp))
     have e2:=aga (p:=λr=>mU r == (l0.length:Int)) (us:=.lst l0::rs) (ρ:=[.sh (.lst (.lst l0::rs))]) (j:=0) (T:=.lst (.lst l0::rs)) (i:=cW (aj 0)) (fe:=(aq dX (bK (g1 bM) (ak (aj 0) au)) (bK (g1 bM) (ak (aq aC (aj 1) (eC (.int 0))) au)))) (by omega) rfl rfl (λu hu=>⟨false,by
      obtain⟨l,rfl⟩:=VJ (h4 u hu)
      have:(0:Int)<(rs.length:Int)+1:=by omega
      simp -dsimp[dr,drs,g1,dX,aC,bM,jN,pO,dI,gh,mU,this]⟩)
     generalize bK (g1 gG) (ak (dR [none,some 0] (cW (aj 0)) (gN 0) c7 (aq dX (bK (g1 bM) (ak (aj 0) au)) (bK (g1 bM) (ak (aq aC (aj 1) (eC (.int 0))) au)))) au)=G2 at e2 ⊢
     rw[h3]at e
     have e3:nY (.lst (.lst l0::rs))=(Tr.lst l0::rs).all (λr=>mU r == (l0.length:Int)):=by
      show(decide (1<=((Tr.lst l0::rs).length:Int))&&decide (((Tr.lst l0::rs).length:Int)<=4)&&(Tr.lst l0::rs).all (mR 12)&&(Tr.lst l0::rs).all λr=>mU r == mU (.lst l0))=_
      rw[h3,decide_eq_true h1,decide_eq_true h2]
      rfl
     rw[e3]
     generalize (Tr.lst l0::rs).all (λr=>mU r == (l0.length:Int))=bb at e2
     have h1':(1:Int)<=(rs.length:Int)+1:=by omega
     have h2':(rs.length:Int)+1<=4:=by simp only[List.length_cons]at h2; omega
     simp -dsimp[eB,dM,gM,dr,drs,g1,gB,fD,bM,iZ,cu,h1',h2',e,e2]
   ·simp -dsimp[eB,dM,gM,dr,drs,g1,gB,fD,bM,iZ,cu,h1,h2,nY]
  ·simp -dsimp[eB,dM,gM,dr,drs,g1,gB,fD,bM,iZ,cu,h1,nY]
 |_=>simp -dsimp[eB,gM,dr,fD,iZ,cu,nY]
end BH
end
section
namespace L2
open PySem
@[simp] theorem alW(fa:AF)(ρ : En):eLR fa ρ = bd (fa ρ) (λp=>match p.1 with
 | [.v (.int n) _]=>if 0<=n/\n<=1000 then .ok (.v (.lst ((List.range n.toNat).map λi:Nat=>Tr.int i)) true,p.2)else .bad
 |_=>.bad) .mk:=rfl
@[simp] theorem alX(F:FR)(fa:EF)(ρ : En):adn F fa ρ = bd (fa ρ) (λp=>match p.1 with
 |.v (.lst us) true=>bd (F [.lst us]) (λz=>.ok (.v z.1.1 z.1.2,p.2)) .mk
 |_=>.bad) .mk:=rfl
@[simp] theorem alY(kt:Tr->Option (Int × Int))(src:List (Option Nat))(fa:AF)(fb:RF)(ρ : En):Dp kt src fa fb ρ = bd (fa ρ) (λp=>match p.1 with
 | [.v (.int n) _]=>if 0<=n/\n<64 then bd (dO (vq kt fb (zA src p.2) (List.range n.toNat))) (λks=>.ok (.v (.lst ((zy n.toNat λi=>ks.getD i (0,0)).map λi:Nat=>Tr.int i)) true,p.2)) .mk else .bad
 |_=>.bad) .mk:=rfl
end L2
namespace BH
open PySem L2
def fT(x:Int × Int):Tr:=.tup [.int x.1,.int x.2]
theorem VL{k:Int}{M:Nat}(h:k.natAbs<2 ^ M)(hM:M<=8900):k.natAbs.log2<9000:=by
 by_cases z:k.natAbs=0
 ·rw[z]; decide
 ·have:=(Nat.log2_lt (n:=k.natAbs) (k:=M) z).mpr h
  omega
theorem VN{k:Int}{M:Nat}(h:k.natAbs<2 ^ M)(hM:M<=8900):fit k=true:=by
 have:=VL h hM
 unfold fit
 rw[decide_eq_true_eq]
 omega
theorem vU{i j:Int}{M N:Nat}(h1:i.natAbs<2 ^ M)(hM:M<=8900)(h2:j.natAbs<2 ^ N)(hN:N<=8900):gR i j=true:=by
 unfold gR
 rw[VN h1 hM,VN h2 hN]
 rfl
theorem tM{i j:Int}{M:Nat}(h0:j≠0)(h:j.natAbs<2 ^ M)(hM:M<=8900):lu i j=true:=by
 unfold lu
 rw[Bool.and_eq_true,decide_eq_true_eq,decide_eq_true_eq]
 exact⟨h0,VL h hM⟩
theorem agd{B q:Int}(hB:1<=B)(hq:1<=q):let B':=(B*q).fdiv ((Int.gcd B q:Nat):Int); 1<=B'/\B∣B'/\q∣B'/\B'<=B*q:=by
 have g0:0<Int.gcd B q:=Int.gcd_pos_of_ne_zero_left _ (by omega)
 obtain⟨b,hb⟩:=Int.gcd_dvd_left (a:=B) (b:=q)
 obtain⟨o,ho⟩:=Int.gcd_dvd_right (a:=B) (b:=q)
 generalize hg:((Int.gcd B q:Nat):Int)=g at hb ho
 have g1:0<g:=by omega
 have b1:0<b:=by
  rcases Int.lt_or_le 0 b with z|z
  ·exact z
  ·have:=Int.mul_nonpos_of_nonneg_of_nonpos (a:=g) (b:=b) (by omega) z; omega
 have o1:0<o:=by
  rcases Int.lt_or_le 0 o with z|z
  ·exact z
  ·have:=Int.mul_nonpos_of_nonneg_of_nonpos (a:=g) (b:=o) (by omega) z; omega
 have e:(B*q).fdiv g=B*o:=by
  rw[Int.fdiv_eq_ediv_of_nonneg _ (by omega)]
  have:B*q=g*(B*o):=by rw[ho]; ac_rfl
  rw[this]
  exact Int.mul_ediv_cancel_left _ (by omega)
 dsimp only
 rw[e]
 refine⟨?_,⟨o,rfl⟩,⟨b,?_⟩,?_⟩
 ·have:=Int.mul_pos (a:=B) (b:=o) (by omega) o1; omega
 ·conv=>lhs; rw[hb]
  conv=>rhs; rw[ho]
  ac_rfl
 ·refine Int.mul_le_mul_of_nonneg_left ?_ (by omega)
  rw[ho]
  have:=Int.mul_le_mul_of_nonneg_right (a:=1) (b:=g) (c:=o) (by omega) (by omega)
  omega
theorem agf{B q D:Int}(hB:1<=B)(hq:1<=q)(d1:B∣D)(d2:q∣D):(B*q).fdiv ((Int.gcd B q:Nat):Int)∣D:=by
 have g0:0<Int.gcd B q:=Int.gcd_pos_of_ne_zero_left _ (by omega)
 rw[Int.fdiv_eq_ediv_of_nonneg _ (by omega)]
 have e:B*q / ((Int.gcd B q:Nat):Int)=((Int.lcm B q:Nat):Int):=by
  refine Int.ediv_eq_of_eq_mul_left (by omega) ?_
  have:=Int.gcd_mul_lcm B q
  have p:((B*q).natAbs:Int)=B*q:=Int.natAbs_of_nonneg (Int.mul_nonneg (by omega) (by omega))
  rw[<-p,Int.natAbs_mul,<-this,Nat.mul_comm]
  push_cast
  rfl
 rw[e]
 rw[<-Int.dvd_natAbs]at d1 d2 ⊢
 exact Int.natCast_dvd_natCast.mpr (Int.lcm_dvd d1 d2)
def vV:SF:=(aV (aq eO (aq bR (aj 1) (aj 3)) (aG qI (ak (aj 1) (ak (aj 3) au)))) (gN 1))
theorem agg(s0:Sl)(B p q:Int){M N:Nat}(hB:1<=B)(hq:1<=q)(hB2:B<2 ^ M)(hM:M<=8900)(hq2:q<2 ^ N)(hN:N<=8900):vV [s0,.sh (.int B),.sh (.int p),.sh (.int q)]=.ok (.nx,[s0,.sh (.int ((B*q).fdiv ((Int.gcd B q:Nat):Int))),.sh (.int p),.sh (.int q)]):=by
 have g0:0<Int.gcd B q:=Int.gcd_pos_of_ne_zero_left _ (by omega)
 have gl:Int.gcd B q<=q.natAbs:=Nat.le_of_dvd (by omega) (Int.gcd_dvd_natAbs_right ..)
 have eM:((2 ^ M:Nat):Int)=2 ^ M:=by push_cast; rfl
 have eN:((2 ^ N:Nat):Int)=2 ^ N:=by push_cast; rfl
 have c1:gR B q=true:=vU (M:=M) (N:=N) (by omega) hM (by omega) hN
 have c2:∀i,lu i ((Int.gcd B q:Nat):Int)=true:=λi=>tM (M:=N) (by omega) (by omega) hN
 unfold vV
 simp -dsimp[dr,drs,gK,bR,eO,cR,Fy,c1,c2]
def Fr(N:Nat)(l:List (Int × Int)):Prop:=∀x∈l,1<=x.2/\x.2<2 ^ N
theorem VP{N:Nat}(s0:Sl):∀(l:List (Int × Int)) (B:Int) (M:Nat) (s2 s3:Sl),Fr N l->1<=B->B<2 ^ M->M+N*l.length<=8900->N<=8900->∃B' t2 t3,fM (gT 2 (bA (gN 2) (bA (gN 3) dz))) vV (l.map fT) [s0,.sh (.int B),s2,s3]=.ok (.nx,[s0,.sh (.int B'),t2,t3])/\1<=B'/\B'<2 ^ (M+N*l.length)/\B∣B'/\(∀x∈l,x.2∣B')/\∀D,B∣D->(∀x∈l,x.2∣D)->B'∣D
 | [],B,M,s2,s3,_,h1,h2,_,_=>⟨B,s2,s3,rfl,h1,by simpa using h2,Int.dvd_refl _,by simp,λ_ h _=>h⟩
 |x::l,B,M,s2,s3,h,h1,h2,h3,h4=>by
  obtain⟨a1,a2⟩:=h x (by simp)
  obtain⟨b1,b2,b3,b4⟩:=agd h1 a1
  have e:=agg s0 B x.1 x.2 h1 a1 h2 (by omega) a2 h4
  have ls:∀D,B∣D->x.2∣D->(B*x.2).fdiv ((Int.gcd B x.2:Nat):Int)∣D:=λD d1 d2=>agf h1 a1 d1 d2
  generalize (B*x.2).fdiv ((Int.gcd B x.2:Nat):Int)=B1 at b1 b2 b3 b4 e ls
  have lt:B1<2 ^ (M+N):=by
   have p1:(0:Int)<2 ^ N:=Int.pow_pos (by omega)
   have q1:B*x.2<=B*2 ^ N:=Int.mul_le_mul_of_nonneg_left (by omega) (by omega)
   have q2:B*2 ^ N<2 ^ M*2 ^ N:=Int.mul_lt_mul_of_pos_right h2 p1
   rw[Int.pow_add]
   omega
  rw[List.length_cons]at h3
  have hm:M+N+N*l.length=M+N*(l.length+1):=by rw[Nat.mul_succ]; omega
  obtain⟨B',t2,t3,e',c1,c2,c3,c4,c5⟩:=VP s0 l B1 (M+N) (.sh (.int x.1)) (.sh (.int x.2)) (λy hy=>h y (by simp[hy])) b1 lt (by omega) h4
  refine⟨B',t2,t3,?_,c1,by rw[List.length_cons,<-hm]; exact c2,Int.dvd_trans b2 c3,λy hy=>?_,λD d1 d2=>c5 D (ls D d1 (d2 x (by simp))) λy hy=>d2 y (by simp[hy])⟩
  ·show fM _ vV (fT x::l.map fT) _=_
   unfold fM
   rw[show(gT 2 (bA (gN 2) (bA (gN 3) dz))) (fT x) [s0,.sh (.int B),s2,s3]=.ok [s0,.sh (.int B),.sh (.int x.1),.sh (.int x.2)]from rfl]
   simp only[Rs.iQ]
   rw[e]
   exact e'
  ·rcases List.mem_cons.mp hy with rfl|hy
   ·exact Int.dvd_trans b3 c3
   ·exact c4 y hy
theorem agh{N:Nat}(l:List (Int × Int))(h:Fr N l)(hl:1+N*l.length<=8900)(hN:N<=8900):∃B,zG [.lst (l.map fT)]=.ok (.int B,false)/\1<=B/\B<2 ^ (1+N*l.length)/\(∀x∈l,x.2∣B)/\∀D,(∀x∈l,x.2∣D)->B∣D:=by
 obtain⟨B,t2,t3,e,h1,h2,_,h3,h4⟩:=VP (.sh (.lst (l.map fT))) l 1 1 .un .un h (by omega) (by omega) hl hN
 refine⟨B,?_,h1,h2,h3,λD d=>h4 D (Int.one_dvd _) d⟩
 show bC 4 (aJ (aV (eC (.int 1)) (gN 1)) (aJ (fO (fQ (cW (aj 0)) (gT 2 (bA (gN 2) (bA (gN 3) dz))) vV)) (bB (aj 1)))) [.lst (l.map fT)]=_
 have e1:fO (fQ (cW (aj 0)) (gT 2 (bA (gN 2) (bA (gN 3) dz))) vV) [.sh (.lst (l.map fT)),.sh (.int 1),.un,.un]=.ok (.nx,[.sh (.lst (l.map fT)),.sh (.int B),t2,t3]):=by
  unfold fO fQ
  show dO (fM _ vV (l.map fT) _)=_
  rw[e]
  rfl
 generalize fO _=G at e1 ⊢
 generalize Tr.lst (l.map fT)=T at e1 ⊢
 unfold bC
 simp -dsimp[cu,e1]
def Ab:EF:=(aq bR (aj 0) (aq eO (aj 2) (aj 1)))
theorem V0{B:Int}{M N:Nat}(hB:1<=B)(hB2:B<2 ^ M)(hM:M<=8900)(hN:N<=8900):∀(l:List (Int × Int)) (s0 s1:Sl),Fr N l->(∀x∈l,x.1.natAbs<2 ^ N)->∃t0 t1,iU (gT 2 (bA (gN 0) (bA (gN 1) dz))) c7 Ab (l.map fT) [s0,s1,.sh (.int B)]=.ok (l.map λx=>.int (x.1*(B / x.2)),[t0,t1,.sh (.int B)])
 | [],s0,s1,_,_=>⟨s0,s1,rfl⟩
 |x::l,s0,s1,h,h'=>by
  obtain⟨a1,a2⟩:=h x (by simp)
  have a3:=h' x (by simp)
  obtain⟨t0,t1,e⟩:=V0 hB hB2 hM hN l (.sh (.int x.1)) (.sh (.int x.2)) (λy hy=>h y (by simp[hy])) (λy hy=>h' y (by simp[hy]))
  refine⟨t0,t1,?_⟩
  have eM:((2 ^ M:Nat):Int)=2 ^ M:=by push_cast; rfl
  have eN:((2 ^ N:Nat):Int)=2 ^ N:=by push_cast; rfl
  have d0:=Int.ediv_nonneg (a:=B) (b:=x.2) (by omega) (by omega)
  have d1:=Int.ediv_le_self (a:=B) x.2 (by omega)
  have c1:lu B x.2=true:=tM (M:=N) (by omega) (by omega) hN
  have c2:gR x.1 (B / x.2)=true:=vU (M:=N) (N:=M) a3 hN (by omega) hM
  have e1:Ab [.sh (.int x.1),.sh (.int x.2),.sh (.int B)]=.ok (.v (.int (x.1*(B / x.2))) false,[.sh (.int x.1),.sh (.int x.2),.sh (.int B)]):=by
   unfold Ab
   have fe:B.fdiv x.2=B / x.2:=Int.fdiv_eq_ediv_of_nonneg _ (by omega)
   simp -dsimp[dr,gK,bR,eO,c1,fe,c2]
  show iU _ c7 Ab (fT x::l.map fT) _=_
  unfold iU
  rw[show(gT 2 (bA (gN 0) (bA (gN 1) dz))) (fT x) [s0,s1,.sh (.int B)]=.ok [.sh (.int x.1),.sh (.int x.2),.sh (.int B)]from rfl]
  simp only[Rs.iQ,afZ,if_true]
  rw[e1]
  simp only[Rs.iQ,qu]
  rw[e]
  rfl
def Frs(N:Nat)(l:List (Int × Int)):Prop:=∀x∈l,1<=x.2/\x.2<2 ^ N/\x.1.natAbs<2 ^ N
theorem Frs.fr{N:Nat}{l:List (Int × Int)}(h:Frs N l):Fr N l:=λx hx=>⟨(h x hx).1,(h x hx).2.1⟩
theorem agi{N:Nat}(l:List (Int × Int))(h:Frs N l)(hl:1+N*l.length<=8900)(hN:N<=8900)(hl2:l.length<=1000):∃B,Du [.lst (l.map fT)]=.ok (.lst (l.map λx=>.int (x.1*(B / x.2))),true)/\1<=B/\∀x∈l,x.2∣B:=by
 obtain⟨B,e,h1,h2,h3,_⟩:=agh l h.fr hl hN
 obtain⟨t0,t1,e2⟩:=V0 h1 h2 hl hN l .un .un h.fr λx hx=>(h x hx).2.2
 refine⟨B,?_,h1,h3⟩
 show bC 2 (aJ (aV (aG zG (ak (aj 0) au)) (gN 1)) (bB (dR [none,none,some 1] (cW (aj 0)) (gT 2 (bA (gN 0) (bA (gN 1) dz))) c7 Ab))) [.lst (l.map fT)]=_
 unfold bC
 simp -dsimp[dO,dr,drs,sG,cR,gW,cU,gY,oZ,sJ,cu,e,e2,show l.length<=100000 by omega]
def xT(l:List (Int × Int))(i j:Nat):Prop:=(l.getD j (0,1)).1*(l.getD i (0,1)).2<(l.getD i (0,1)).1*(l.getD j (0,1)).2\/((l.getD j (0,1)).1*(l.getD i (0,1)).2=(l.getD i (0,1)).1*(l.getD j (0,1)).2/\i<j)
def Fall(l:List (Int × Int))(ys:List Nat):Prop:=ys.Perm (List.range l.length)/\ys.Pairwise (xT l)
theorem V1(ts:List Int):∀(is:List Nat),(∀i∈is,i<ts.length)->vq zB (w6 nu (wZ aC (qH 1) (qH 0))) [some (.lst (ts.map Tr.int))] is=.ok (is.map λi=>(-(ts.getD i 0),0))
 | [],_=>rfl
 |i::is,h=>by
  have hi:=h i (by simp)
  have e:(w6 nu (wZ aC (qH 1) (qH 0))) [some (Tr.int i),some (.lst (ts.map Tr.int))]=.ok (.int (-(ts.getD i 0))):=by
   unfold w6 wZ qH
   have a:dI (ts.map Tr.int) (i:Int)=some (.int (ts.getD i 0)):=by
    unfold dI gh
    simp[hi]
   simp[aC,a,nu]
  unfold vq
  rw[e,V1 ts is λj hj=>h j (by simp[hj])]
  rfl
theorem top_lt{B p q r s:Int}(hB:1<=B)(hq:1<=q)(hs:1<=s)(dq:q∣B)(ds:s∣B):(p*(B / q)<r*(B / s)↔p*s<r*q)/\(p*(B / q)=r*(B / s)↔p*s=r*q):=by
 obtain⟨a,ha⟩:=dq
 obtain⟨b,hb⟩:=ds
 have e1:B / q=a:=by rw[ha]; exact Int.mul_ediv_cancel_left _ (by omega)
 have e2:B / s=b:=by rw[hb]; exact Int.mul_ediv_cancel_left _ (by omega)
 rw[e1,e2]
 have x1:(p*a)*(q*s)=(p*s)*B:=by rw[ha]; ac_rfl
 have x2:(r*b)*(q*s)=(r*q)*B:=by rw[hb]; ac_rfl
 have qs:0<q*s:=Int.mul_pos (by omega) (by omega)
 constructor
 ·constructor
  ·intro h
   have:=Int.mul_lt_mul_of_pos_right h qs
   rw[x1,x2]at this
   exact Int.lt_of_mul_lt_mul_right this (by omega)
  ·intro h
   have:=Int.mul_lt_mul_of_pos_right h (show 0<B by omega)
   rw[<-x1,<-x2]at this
   exact Int.lt_of_mul_lt_mul_right this (by omega)
 ·constructor
  ·intro h
   rw[h,x2]at x1
   exact(Int.eq_of_mul_eq_mul_right (by omega) x1).symm
  ·intro h
   rw[h,<-x2]at x1
   exact Int.eq_of_mul_eq_mul_right (by omega) x1
theorem agj{N:Nat}(l:List (Int × Int))(h:Frs N l)(hl:1+N*l.length<=8900)(hN:N<=8900)(h64:l.length<64):∃ys,lF [.lst (l.map fT)]=.ok (.lst (ys.map λi:Nat=>Tr.int i),true)/\Fall l ys:=by
 obtain⟨B,e,h1,h3⟩:=agi l h hl hN (by omega)
 have ek:=V1 (l.map λx=>x.1*(B / x.2)) (List.range l.length) λi hi=>by simpa using hi
 refine⟨zy l.length λi=>((List.range l.length).map λi=>(-((l.map λx=>x.1*(B / x.2)).getD i 0),(0:Int))).getD i (0,0),?_,?_⟩
 ·unfold lF T6 bC
  have z1:(l.map λx=>Tr.int (x.1*(B / x.2)))=(l.map λx=>x.1*(B / x.2)).map Tr.int:=by rw[List.map_map]; rfl
  rw[z1]at e
  generalize hts:(l.map λx=>x.1*(B / x.2))=ts at e ek ⊢
  have tl:ts.length=l.length:=by rw[<-hts,List.length_map]
  generalize Tr.lst (l.map fT)=T at e ⊢
  have q1:(l.length:Int)<64:=by omega
  simp -dsimp[dO,dr,drs,g1,bM,cR,cu,e,tl,q1,zA,xg,ek]
 ·have hs:=SX l.length λi=>((List.range l.length).map λi=>(-((l.map λx=>x.1*(B / x.2)).getD i 0),(0:Int))).getD i (0,0)
  refine⟨hs.1,?_⟩
  refine hs.2.imp_of_mem λ{i j} hi hj hb=>?_
  have hi':i<l.length:=by simpa using hs.1.mem_iff.mp hi
  have hj':j<l.length:=by simpa using hs.1.mem_iff.mp hj
  have k:∀i,i<l.length->((List.range l.length).map λi=>(-((l.map λx=>x.1*(B / x.2)).getD i 0),(0:Int))).getD i (0,0)=(-(l[i]!.1*(B / l[i]!.2)),0):=λi hi=>by
   rw[List.getD_eq_getElem?_getD,List.getElem?_map,List.getElem?_range hi]
   simp[hi]
  simp only[k i hi',k j hj']at hb
  have g:∀i,i<l.length->l.getD i (0,1)=l[i]! /\ l[i]! ∈ l:=λi hi=>by
   refine⟨by simp[hi],by simp[hi]⟩
  obtain⟨g1,m1⟩:=g i hi'
  obtain⟨g2,m2⟩:=g j hj'
  unfold xT
  rw[g1,g2]
  have t:=top_lt (p:=l[j]!.1) (r:=l[i]!.1) h1 (h _ m2).1 (h _ m1).1 (h3 _ m2) (h3 _ m1)
  rw[<-t.1,<-t.2]
  omega
theorem V2{T:Tr}(h:nY T=true):vC [T]=.ok (.non,false):=by
 unfold vC T7 bC
 simp -dsimp[gM,dr,drs,cR,cu,agc,h]
theorem tO{xs:List Tr}{i:Nat}{T:Tr}(h:xs[i]?=some T):aC (.lst xs) (.int i)=.ok (T,false):=by
 obtain⟨hi,e⟩:=List.getElem?_eq_some_iff.mp h
 show(match dI xs i with
  |some t=>Rs.ok (t,false)
  |none=>.bad)=_
 have:dI xs (i:Int)=some T:=by
  unfold dI gh
  simp[hi,e]
 rw[this]
theorem V3{xs:List Tr}{i:Nat}{T:Tr}(h:xs[i]?=some T):aC (.lst xs) (.int i)=.ok (T,false):=tO h
def Wo(x:Int × Int):Prop:=0<=x.1/\x.1<=x.2/\1<=x.2/\x.2<=1000000000000/\Int.gcd x.1 x.2=1
instance (x:Int × Int):Decidable (Wo x):=by unfold Wo; infer_instance
def bH(l:List (Int × Int)):Tr:=.lst (l.map fT)
def Mw(ls:List (List (Int × Int))):Tr:=.lst (ls.map bH)
def Mx(c:Nat)(ls:List (List (Int × Int))):Prop:=∀l∈ls,l.length=c/\∀x∈l,Wo x
def Bk(c:Nat)(ls:List (List (Int × Int))):Prop:=1<=ls.length/\ls.length<=4/\1<=c/\c<=12/\Mx c ls
theorem Wo.lG{x:Int × Int}(h:Wo x):lG (fT x)=true:=by
 obtain⟨h1,h2,h3,h4,h5⟩:=h
 show(decide (0<=x.1)&&decide (x.1<=x.2)&&decide (1<=x.2)&&(Int.gcd x.1 x.2 == 1))=true
 simp[h1,h2,h3,h5]
theorem agk{l:List (Int × Int)}(h:∀x∈l,Wo x)(h1:1<=l.length)(h2:l.length<=12):mR 12 (bH l)=true:=by
 show(decide (1<=((l.map fT).length:Int))&&decide (((l.map fT).length:Int)<=12)&&(l.map fT).all lG)=true
 rw[List.length_map,decide_eq_true (by omega),decide_eq_true (by omega)]
 simp only[Bool.true_and,List.all_eq_true]
 intro t ht
 obtain⟨x,hx,rfl⟩:=List.mem_map.mp ht
 exact(h x hx).lG
theorem Bk.nY{c:Nat}{ls:List (List (Int × Int))}(h:Bk c ls):nY (Mw ls)=true:=by
 obtain⟨h1,h2,h3,h4,h5⟩:=h
 show(decide (1<=((ls.map bH).length:Int))&&decide (((ls.map bH).length:Int)<=4)&&(ls.map bH).all (mR 12)&&(ls.map bH).all λr=>mU r == mU ((ls.map bH).headD .non))=true
 rw[List.length_map,decide_eq_true (by omega),decide_eq_true (by omega)]
 simp only[Bool.true_and,Bool.and_eq_true,List.all_eq_true]
 refine⟨λt ht=>?_,λt ht=>?_⟩
 ·obtain⟨l,hl,rfl⟩:=List.mem_map.mp ht
  exact agk (h5 l hl).2 (by have:=(h5 l hl).1; omega) (by have:=(h5 l hl).1; omega)
 ·obtain⟨l,hl,rfl⟩:=List.mem_map.mp ht
  cases ls with
  |nil=>simp at hl
  |cons l0 r =>
   show(mU (bH l) == mU (bH l0))=true
   show(((l.map fT).length:Int) == ((l0.map fT).length:Int))=true
   rw[List.length_map,List.length_map,(h5 l hl).1,(h5 l0 (by simp)).1]
   simp
end BH
end
section
namespace L2
open PySem
@[simp] theorem alZ(fa:EF)(ρ : En):vf fa ρ = bd (fa ρ) (λp=>bd (dr p.2 p.1) (λa=>bd (zf a) (λz=>.ok (.v z.1 z.2,p.2)) .mk) .mk) .mk:=rfl
end L2
namespace BH
open PySem L2
theorem agl{α : Type}(xs:List α)(k:Nat):L2.cut xs (some (k:Int)) none=xs.drop k:=by
 unfold L2.cut HT.bQ
 by_cases h:(k:Int)<0
 ·omega
 ·simp only[h,if_false,Int.toNat_natCast]
  by_cases z:k<=xs.length
  ·rw[Nat.min_eq_left z]
   exact List.take_of_length_le (by simp)
  ·rw[Nat.min_eq_right (by omega),List.drop_eq_nil_of_le (by omega),List.drop_eq_nil_of_le (by omega)]
   simp
theorem agm{α : Type}(xs:List α)(k:Nat):L2.cut xs none (some (k:Int))=xs.take k:=by
 unfold L2.cut HT.bQ
 by_cases h:(k:Int)<0
 ·omega
 ·simp only[h,if_false,Int.toNat_natCast,Nat.sub_zero,List.drop_zero]
  by_cases z:k<=xs.length
  ·rw[Nat.min_eq_left z]
  ·rw[Nat.min_eq_right (by omega),List.take_of_length_le (by omega),List.take_of_length_le (by omega)]
def nT(ys:List Nat):Tr:=.lst (ys.map λi:Nat=>Tr.int i)
theorem V4:∀ys:List Nat,deps (ys.map λi:Nat=>Tr.int i)=0
 | []=>rfl
 |y::ys=>by rw[List.map_cons,nU,jN,V4 ys]; rfl
theorem V5{n:Nat}:∀{ts:List Tr},(∀t∈ts,dep t<=n)->deps ts<=n
 | [],_=>by rw[Aa]; omega
 |t::ts,h=>by
  rw[nU]
  have h1:=h t (by simp)
  have h2:=V5 (ts:=ts) λu hu=>h u (by simp[hu])
  omega
theorem Ac(x:Int × Int):dep (fT x)=1:=by unfold fT; rw[Mr,nU,nU,jN,jN,Aa]; rfl
theorem xU{T:Tr}(h:dep T<=40):fC T T=.ok (.bl false,false):=by
 unfold fC
 rw[if_pos ⟨h,h⟩,BP]
 rfl
theorem agn{T:Tr}(h:dep T<=40):dX T T=.ok (.bl true,false):=by
 unfold dX
 rw[if_pos ⟨h,h⟩,BP]
theorem V6:∀ys:List Nat,tB (ys.map λi:Nat=>Tr.int i)=some (ys.map λi:Nat=>(i:Int))
 | []=>rfl
 |n::r=>by simp[tB,V6 r]
theorem ago(ys:List Nat):lD (ys.map λi:Nat=>Tr.int i)=true:=by
 induction ys with
 |nil=>rfl
 |cons y ys ih=>simp[lD,uR,ih]
theorem V7{i:Nat}{b:SF}{u:Tr}{us:List Tr}{ρ ρ1:En}{r:Rs (Fl × En)}(h:b (ρ.set i (.sh u))=.ok (.nx,ρ1))(h':fM (gN i) b us ρ1=r):fM (gN i) b (u::us) ρ = r:=by
 unfold fM
 show(b (ρ.set i (.sh u))).bind _=_
 rw[h]
 exact h'
theorem V8{l:List (Int × Int)}{i:Nat}(h:i<l.length):aC (bH l) (.int i)=.ok (fT (l.getD i (0,1)),false):=tO (by simp[h])
theorem V9{α : Type}{r h : α -> Tr}{f:EF}{τ : En}:∀(xs:List α) (s:Sl),(∀x∈xs,∃fr,f (.sh (r x)::τ)=.ok (.v (h x) fr,.sh (r x)::τ))->∃s',iU (gN 0) c7 f (xs.map r) (s::τ)=.ok (xs.map h,s'::τ)
 | [],s,_=>⟨s,rfl⟩
 |x::xs,s,q=>by
  obtain⟨fr,e⟩:=q x (by simp)
  obtain⟨s',e'⟩:=V9 xs (.sh (r x)) λv hv=>q v (by simp[hv])
  refine⟨s',?_⟩
  rw[List.map_cons]
  unfold iU
  simp[e,qu,e']
theorem Wa{α : Type}{p : α -> Bool}:∀xs:List α,qg (xs.map λx=>.bl (p x))=some (xs.map p)
 | []=>rfl
 |x::xs=>by simp[qg,Wa xs]
theorem Ad{α : Type}{r h : α -> Tr}{xs:List α}{ρ τ : En}{rest:List (Option Nat)}{i:IF}{fe:EF}(hl:xs.length<=100000)(hi:i ρ=.ok (xs.map r,ρ))(hτ : gW rest ρ = τ)(hs:∀s',gY (none::rest) (s'::τ) ρ = true)(hd:∀s',cU (none::rest) (s'::τ) ρ = ρ)
  (hf:∀x∈xs,∃fr,fe (.sh (r x)::τ)=.ok (.v (h x) fr,.sh (r x)::τ)):dR (none::rest) i (gN 0) c7 fe ρ=.ok (.v (.lst (xs.map h)) true,ρ):=by
 obtain⟨s',e⟩:=V9 xs .un hf
 have hu:gW (none::rest) ρ=.un::τ := by rw[<-hτ]; rfl
 have hl':(xs.map r).length<=100000:=by rw[List.length_map]; exact hl
 rw[Fw,hi]
 simp only[Fv]
 rw[if_pos hl',hu,e]
 simp only[dO,Fv]
 rw[if_pos (hs s'),hd s']
def jV(x y:Int × Int):Bool:=decide (x.1*y.2<y.1*x.2)
theorem agp{x y:Int × Int}(hx:Wo x)(hy:Wo y):nG [fT x,fT y]=.ok (.bl (jV x y),false):=by
 obtain⟨a1,a2,a3,a4,_⟩:=hx
 obtain⟨b1,b2,b3,b4,_⟩:=hy
 have c1:gR x.1 y.2=true:=vU (M:=40) (N:=40) (by omega) (by omega) (by omega) (by omega)
 have c2:gR y.1 x.2=true:=vU (M:=40) (N:=40) (by omega) (by omega) (by omega) (by omega)
 unfold nG Dt bC fT
 simp -dsimp[dr,bR,gU,aC,dI,gh,cu,c1,c2,jV]
def at2(l:List (Int × Int))(i:Nat):Int × Int:=l.getD i (0,1)
def bt(ls:List (List (Int × Int)))(i j:Nat):Bool := !(ls.any λl=>jV (at2 l i) (at2 l j))&&ls.any λl=>jV (at2 l j) (at2 l i)
theorem below_at{l:List (Int × Int)}{c i j:Nat}(h:l.length=c/\∀x∈l,Wo x)(hi:i<c)(hj:j<c):nG [fT (at2 l i),fT (at2 l j)]=.ok (.bl (jV (at2 l i) (at2 l j)),false) :=
 agp (h.2 _ (by unfold at2; simp[h.1,hi])) (h.2 _ (by unfold at2; simp[h.1,hj]))
theorem nZ(n k:Int)(h:0<k):0<=n.fmod k/\n.fmod k<k:=⟨Int.fmod_nonneg_of_pos n h,Int.fmod_lt_of_pos n h⟩
theorem Wb{i:Int}(h : -1000000000000000000<i/\i<1000000000000000000):tiny i=true:=by
 unfold tiny
 rw[Bool.and_eq_true]
 exact⟨decide_eq_true (by omega),decide_eq_true (by omega)⟩
theorem agq{i j:Int}(h : -1000000000000000000<i/\i<1000000000000000000):gR i j=true:=by unfold gR; rw[Wb h]; simp
theorem Mz{i j:Int}(h : -1000000000000000000<j/\j<1000000000000000000):gR i j=true:=by unfold gR; rw[Wb h]; simp
theorem Wc:∀(n m:Nat),L2.upTo (m:Int) n=(List.range' m n).map λi:Nat=>Tr.int i
 | 0,_=>rfl
 |n+1,m=>by
  unfold L2.upTo
  rw[show((m:Int)+1)=((m+1:Nat):Int) by omega,Wc n (m+1),List.range'_succ]
  rfl
theorem MF(n:Nat):L2.upTo 0 n=(List.range n).map λi:Nat=>Tr.int i:=by
 rw[List.range_eq_range']
 exact Wc n 0
def red(a b:Int):Int × Int:=(a / ((Int.gcd a b:Nat):Int),b / ((Int.gcd a b:Nat):Int))
def Fq(M:Nat)(x:Int × Int):Prop:=0<=x.1/\x.1<2 ^ M/\1<=x.2/\x.2<2 ^ M/\Int.gcd x.1 x.2=1
theorem vW(M:Nat):((2 ^ M:Nat):Int)=2 ^ M:=by push_cast; rfl
theorem Wd{a b:Int}(hb:1<=b):a*(red a b).2=(red a b).1*b/\1<=(red a b).2/\Int.gcd (red a b).1 (red a b).2=1:=by
 obtain⟨g1,g2,g3,g4,g5,g6,g7⟩:=wK (a:=a) (b:=b) (by omega)
 refine⟨?_,g3,g4⟩
 show a*(b / ((Int.gcd a b:Nat):Int))=(a / ((Int.gcd a b:Nat):Int))*b
 generalize ((Int.gcd a b:Nat):Int)=g at *
 generalize b / g=q,a / g=p at *
 rw[g6,g7]
 ac_rfl
def le2(x y:Int × Int):Prop:=x.1*y.2<=y.1*x.2
theorem agr{x y:Int × Int}:jV x y=false↔le2 y x:=by
 unfold jV le2
 rw[decide_eq_false_iff_not,Int.not_lt]
theorem ags{x y:Int × Int}(hx:1<=x.2)(hy:1<=y.2)(gx:Int.gcd x.1 x.2=1)(gy:Int.gcd y.1 y.2=1)(h1:le2 x y)(h2:le2 y x):x=y:=by
 unfold le2 at *
 have:=aaH hx hy gx gy (Int.le_antisymm h1 h2)
 exact Prod.ext this.1 this.2
theorem agt{a b:Int}{M:Nat}(hb:1<=b)(hb2:b<2 ^ M)(hM:M<=8900):lE [.int a,.int b]=.ok (fT (red a b),false):=by
 obtain⟨g1,g2,_⟩:=wK (a:=a) (b:=b) (by omega)
 have e1:a.fdiv (Int.gcd a b:Nat)=a / (Int.gcd a b:Nat):=Int.fdiv_eq_ediv_of_nonneg _ (by omega)
 have e2:b.fdiv (Int.gcd a b:Nat)=b / (Int.gcd a b:Nat):=Int.fdiv_eq_ediv_of_nonneg _ (by omega)
 have hs:=Fy a b
 have np:=vW M
 unfold lE JT bC fT red
 generalize hg:((Int.gcd a b:Nat):Int)=g at *
 have h3:¬b<0:=by omega
 have h4:(b == 0)=false:=by simp; omega
 have c1:∀n,lu n g=true:=λn=>tM (M:=M) (by omega) (by omega) hM
 simp -dsimp[dM,dr,drs,cls,gK,dX,eO,gU,cR,jN,pO,cu,hs,h3,h4,c1,e1,e2]
theorem agu(ws xs:List (Int × Int)):sV (ws.map fT) (xs.map fT)=(ws.zip xs).map λp=>Tr.tup [fT p.1,fT p.2]:=by
 unfold sV
 rw[List.zip_map,List.map_map]
 rfl
def sY(xs zs:List (Int × Int)):Prop:=zs.Perm xs/\zs.Pairwise λa b=>le2 b a
theorem Wf(xs:List (Int × Int)):(List.range xs.length).map (λi=>xs.getD i (0,1))=xs:=by
 apply List.ext_getElem
 ·simp
 ·intro i h1 h2
  simp[List.getD_eq_getElem?_getD,h2]
theorem Fall.dsc{xs:List (Int × Int)}{ys:List Nat}(h:Fall xs ys):sY xs (ys.map λi=>xs.getD i (0,1)):=by
 refine⟨?_,?_⟩
 ·have:=h.1.map λi=>xs.getD i (0,1)
  rw[Wf]at this
  exact this
 ·rw[List.pairwise_map]
  refine h.2.imp λ{i j} hb=>?_
  unfold xT at hb
  unfold le2
  omega
theorem sEq(a:Str):dX (.str a) (.str a)=.ok (.bl true,false):=agn (T:=.str a) (by rw[VB]; omega)
theorem agv{α : Type}{r : α -> Tr}{xs:List α}{ρ τ : En}{rest:List (Option Nat)}{i:IF}{fe:EF}(hl:xs.length<=100000)(hi:i ρ=.ok (xs.map r,ρ))(hτ : gW rest ρ = τ)(hs:∀s',gY (none::rest) (s'::τ) ρ = true)(hd:∀s',cU (none::rest) (s'::τ) ρ = ρ)
  (hf:∀x∈xs,∃fr,fe (.sh (r x)::τ)=.ok (.v (.bl true) fr,.sh (r x)::τ)):bK (g1 gG) (ak (dR (none::rest) i (gN 0) c7 fe) au) ρ=.ok (.v (.bl true) false,ρ):=by
 have e:=Ad (h:=λx=>.bl ((λ_ : α=>true) x)) hl hi hτ hs hd hf
 have eg:gG (.lst (xs.map λx=>.bl ((λ_ : α=>true) x)))=.ok (.bl true,false):=by
  unfold gG
  simp only[Wa]
  rw[show(xs.map λ_=>true).all id=true by simp]
 generalize dR _ _ _ _ _=G at e ⊢
 generalize Tr.lst (xs.map λx=>.bl ((λ_ : α=>true) x))=T at e eg
 simp[e,eg,drs,dr,g1]
theorem Fq.mQ{M:Nat}{x:Int × Int}(h:Fq M x):mQ (fT x)=true:=by
 show(decide (1<=x.2)&&(Int.gcd x.1 x.2 == 1))=true
 simp[h.2.2.1,h.2.2.2.2]
def MJ:EF:=(oV (aG tD (ak (aj 0) au)) (aq jZ (aq aC (aj 0) (eC (.int 0))) (eC (.int 0))))
theorem agw{M:Nat}{ws:List (Int × Int)}(hw:∀w∈ws,Fq M w)(hl:ws.length<=12):Dv [bH ws,.int ws.length]=.ok (.bl true,false):=by
 have e1:=agv (r:=fT) (xs:=ws) (ρ:=[.sh (bH ws),.sh (.int ws.length)]) (rest:=[]) (i:=cW (aj 0)) (fe:=MJ) (by omega) rfl rfl (λs'=>rfl) (λs'=>rfl) (λw hw'=>⟨false,by
  have h:=hw w hw'
  have e:=vR (fT w)
  rw[h.mQ]at e
  have h0:=h.1
  unfold MJ
  dsimp only[gW,List.map]
  have g0:aC (fT w) (.int 0)=.ok (.int w.1,false):=rfl
  generalize fT w=T at *
  simp -dsimp[drs,dr,cR,e,dM,g0,jZ,gB,h0]⟩)
 have el:bM (bH ws)=.ok (.int (ws.length:Int),false):=by
  show Rs.ok (Tr.int ((ws.map fT).length:Int),false)=_
  rw[List.length_map]
 have ei:lC .list (aj 0) [.sh (bH ws),.sh (.int ws.length)]=.ok (.v (.bl true) false,[.sh (bH ws),.sh (.int ws.length)]):=by
  simp[bH,iZ,dr,eB]
 have en:=xU (T:=.int (ws.length:Int)) (by rw[jN]; omega)
 show bC 2 (aJ (cA (lB (fP (cZ (lC .list (aj 0)))) (cg (aq fC (bK (g1 bM) (ak (aj 0) au)) (aj 1)))) (bB (eC (.bl false))) cB) (bB (bK (g1 gG) (ak (dR [none] (cW (aj 0)) (gN 0) c7 MJ) au)))) [bH ws,.int ws.length]=_
 generalize bK (g1 gG) _=G at e1 ⊢
 generalize lC _ _=G2 at ei ⊢
 generalize (ws.length:Int)=N,bH ws=T at *
 unfold bC
 simp -dsimp[cu,e1,ei,dr,drs,g1,el,en,dM,gM]
def iT(i:Nat):Tr:=.int (i:Nat)
theorem agx{n:Nat}(h:n<=1000):okR (n:Int)=true:=by
 unfold okR
 simp
 omega
section
variable {od:List (Int × Int)->List Nat}
def sn(od:List (Int × Int)->List Nat)(l:List (Int × Int))(d:Nat)(as:List (Nat × Nat))(k t:Nat):Bool:=decide (t∈(od l).take d) || decide ((k,t)∈as)
end
def Wg(rows:List (List (Int × Int)))(k t:Nat):Int × Int:=(rows.getD k []).getD t (0,1)
def lo(rows:List (List (Int × Int)))(s:Nat->Nat->Bool)(t:Nat):List (Int × Int):=(List.range rows.length).map λk=>if s k t=true then Wg rows k t else(0,1)
def hi(rows:List (List (Int × Int)))(s:Nat->Nat->Bool)(Wh:List (Int × Int))(t:Nat):List (Int × Int):=(List.range rows.length).map λk=>if s k t=true then Wg rows k t else Wh.getD k (0,1)
end BH
end
section
namespace L2
open PySem
section
variable {α β : Type}
theorem bk{r:Rs α}{f : α -> Rs β}{a : α}{s:Rs β}(h:r=.ok a)(k:f a=s):r.bind f=s:=by subst h; exact k
end
section
variable {ρ ρ1 ρ2 ρ3:En}{f g:SF}{fa fb:EF}{aa:AF}{T U:Tr}{b b':Bool}{r:Rs (Fl × En)}{i:Nat}{ps:List Rv}{as ts:List Tr}{z:Tr × Bool}{F:FP}{c d:BF}{x y:Rv}
theorem bY(h:f ρ=.ok (.nx,ρ1))(k:g ρ1=r):aJ f g ρ = r:=bk h k
theorem fU(h:fa ρ=.ok (.v T b,ρ1)):aV fa (gN i) ρ=.ok (.nx,ρ1.set i (.sh T)):=bk h rfl
theorem agy{g:GF}(h:fa ρ=.ok (.v T b,ρ1))(k:g T ρ1=.ok ρ2):aV fa g ρ=.ok (.nx,ρ2):=bk h (bk k rfl)
theorem tQ(h:fa ρ=.ok (x,ρ1)):je fa ρ=.ok (.nx,ρ1):=bk h rfl
theorem n8(h:fa ρ=.ok (.v T b,ρ1)):bB fa ρ=.ok (.rt T b,ρ1):=bk h rfl
theorem MK(h:c ρ=.ok (true,ρ1))(k:f ρ1=r):cA c f g ρ = r:=bk h ((if_pos rfl).trans k)
theorem lH(h:c ρ=.ok (false,ρ1))(k:g ρ1=r):cA c f g ρ = r:=bk h ((if_neg Bool.false_ne_true).trans k)
theorem pP{fi:IF}{gf:GF}{us:List Tr}(h:fi ρ=.ok (us,ρ1))(k:fM gf f us ρ1=r):fQ fi gf f ρ = r:=bk h k
theorem xV{q:Fl × En}(h:f ρ=.ok q):fO f ρ=.ok q:=by unfold fO; rw[h]; rfl
theorem lJ{n:Nat}(h:f (cu n as)=.ok (.rt T b,ρ1)):bC n f as=.ok (T,b):=bk h rfl
theorem MN{n:Nat}(h:f (cu n as)=.ok (.nx,ρ1)):bC n f as=.ok (.non,false):=bk h rfl
theorem bT(h:fa ρ=.ok (x,ρ1))(k:aa ρ1=.ok (ps,ρ2)):ak fa aa ρ=.ok (x::ps,ρ2):=bk h (bk k rfl)
theorem bV(h:aa ρ=.ok (ps,ρ1))(k:drs ρ1 ps=.ok as)(n:ps.any cR=false)(e:F as=.ok z):aG F aa ρ=.ok (.v z.1 z.2,ρ1):=bk h (bk k (bk e (if_neg λq=>by rw[n]at q; exact Bool.false_ne_true q.1)))
theorem j9{G:GN}(h:aa ρ=.ok (ps,ρ1))(k:drs ρ1 ps=.ok as)(e:G as=.ok z):bK G aa ρ=.ok (.v z.1 z.2,ρ1):=bk h (bk k (bk e rfl))
theorem bU{G:G2}(h:fa ρ=.ok (x,ρ1))(k:fb ρ1=.ok (y,ρ2))(u:dr ρ2 x=.ok T)(v:dr ρ2 y=.ok U)(e:G T U=.ok z):aq G fa fb ρ=.ok (.v z.1 z.2,ρ2):=bk h (bk k (bk u (bk v (bk e rfl))))
theorem jO(h:fa ρ=.ok (x,ρ1))(k:dr ρ1 x=.ok T)(e:gM T=.ok b):cZ fa ρ=.ok (b,ρ1):=bk h (bk k (bk e rfl))
theorem Wi(h:f ρ=.ok (.rt T b,ρ1)):aJ f g ρ=.ok (.rt T b,ρ1):=bk h rfl
theorem Wj(h:aa ρ=.ok (ps,ρ1))(k:cls ps=.ok ts)(l:ts.length<=1000):iB aa ρ=.ok (.v (.lst ts) true,ρ1):=bk h (bk k (if_pos l))
theorem FJ(h:aa ρ=.ok (ps,ρ1))(k:cls ps=.ok ts)(l:ts.length<=1000):gk aa ρ=.ok (.v (.tup ts) false,ρ1):=bk h (bk k (if_pos l))
theorem jy(h:fa ρ=.ok (x,ρ1))(k:dr ρ1 x=.ok (.bl b)):cg fa ρ=.ok (b,ρ1):=bk h (bk k rfl)
theorem xW(h:c ρ=.ok (b,ρ1)):fP c ρ=.ok (!b,ρ1):=bk h rfl
theorem Wk{q:Rs (Bool × En)}(h:c ρ=.ok (false,ρ1))(k:d ρ1=q):lB c d ρ = q:=bk h ((if_neg Bool.false_ne_true).trans k)
theorem vX{q:Rs (Bool × En)}(h:c ρ=.ok (true,ρ1))(k:d ρ1=q):iR c d ρ = q:=bk h ((if_pos rfl).trans k)
theorem Wl(h:fa ρ=.ok (.v T b,ρ1))(n:con ρ i=.ok as)(k:con ρ1 i=.ok ts)(l:ts.length<=100000):lZ i jf (ak fa au) ρ=.ok (.v .non false,dN i (ts++[T]) ρ1):=bk n (bk (bT h rfl) (bk rfl (bk k (bk (by unfold jf; exact if_pos l) rfl))))
end
end L2
end
section
namespace BH
open PySem L2
theorem agz{l:List (Int × Int)}{ys zs:List Nat}(h:Fall l ys)(h':Fall l zs):ys=zs:=by
 refine List.Perm.eq_of_pairwise (λa b _ _ p q=>?_) h.2 h'.2 (h.1.trans h'.1.symm)
 unfold xT at p q
 omega
open Classical in
def gA(l:List (Int × Int)):List Nat:=if h:∃zs:List Nat,Fall l zs then h.choose else []
theorem agA{l:List (Int × Int)}{zs:List Nat}(h:Fall l zs):gA l=zs:=by
 have h':∃zs:List Nat,Fall l zs:=⟨zs,h⟩
 unfold gA
 rw[dif_pos h']
 exact agz h'.choose_spec h
theorem Wm{N:Nat}{l:List (Int × Int)}(h:Frs N l)(hl:1+N*l.length<=8900)(hN:N<=8900)(h64:l.length<64):Fall l (gA l)/\lF [bH l]=.ok (.lst ((gA l).map iT),true):=by
 obtain⟨ys,e,f⟩:=agj l h hl hN h64
 rw[agA f]
 exact⟨f,e⟩
def val(x:Int × Int):Rat:=(x.1:Rat) / (x.2:Rat)
theorem ipos{b:Int}(h:1<=b):(0:Rat)<(b:Rat):=by
 have:(0:Int)<b:=by omega
 exact_mod_cast this
theorem val_mul{x:Int × Int}(h:1<=x.2):val x*(x.2:Rat)=(x.1:Rat):=by
 have:=ipos h
 unfold val
 exact Rat.div_mul_cancel (by grind)
theorem FN{x y:Int × Int}(hx:1<=x.2)(hy:1<=y.2):le2 x y↔val x<=val y:=by
 have px:=ipos hx
 have py:=ipos hy
 have ex:=val_mul hx
 have ey:=val_mul hy
 unfold le2
 rw[<-Rat.intCast_le_intCast,Rat.intCast_mul,Rat.intCast_mul,<-ex,<-ey]
 have p:(0:Rat)<(x.2:Rat)*(y.2:Rat):=Rat.mul_pos px py
 constructor
 ·intro h
  refine Rat.le_of_mul_le_mul_right (c:=(x.2:Rat)*(y.2:Rat)) ?_ p
  grind
 ·intro h
  have:=Rat.mul_le_mul_of_nonneg_right h (Rat.le_of_lt p)
  grind
theorem agB{x y:Int × Int}(hx:1<=x.2)(hy:1<=y.2):jV x y=true↔val x<val y:=by
 have a:=@agr x y
 rw[FN hy hx]at a
 cases h:jV x y with
 |true =>
  rw[h]at a
  simp only[Bool.true_eq_false,false_iff]at a
  simp only[true_iff]
  grind
 |false =>
  rw[h]at a
  simp only[true_iff]at a
  simp only[Bool.false_eq_true,false_iff]
  grind
theorem agC{a b:Int}(h:1<=b):val (red a b)=(a:Rat) / (b:Rat):=by
 obtain⟨e,p,_⟩:=Wd (a:=a) h
 have q:=val_mul p
 have pb:=ipos h
 have pp:=ipos p
 have e':(a:Rat)*((red a b).2:Rat)=((red a b).1:Rat)*(b:Rat):=by exact_mod_cast e
 have z:val (red a b)*(b:Rat)=(a:Rat):=by
  have:val (red a b)*(b:Rat)*((red a b).2:Rat)=(a:Rat)*((red a b).2:Rat):=by grind
  have c0:((red a b).2:Rat)≠0:=by grind
  rw[<-Rat.mul_div_cancel (a:=val (red a b)*(b:Rat)) c0,this,Rat.mul_div_cancel c0]
 rw[<-z]
 exact(Rat.mul_div_cancel (by grind)).symm
def qp(q:Rat):Int × Int:=(q.num,(q.den:Int))
def qT(q:Rat):Tr:=fT (qp q)
def Bq(M:Nat)(q:Rat):Prop:=q.num.natAbs<2 ^ M/\q.den<2 ^ M
theorem oh(q:Rat):1<=(qp q).2:=by have:=q.den_pos; show(1:Int)<=(q.den:Int); omega
theorem vY(q:Rat):val (qp q)=q:=by
 show(q.num:Rat) / ((q.den:Int):Rat)=q
 rw[<-Rat.divInt_eq_div]
 exact Rat.num_divInt_den q
theorem Wn{x:Int × Int}(h:1<=x.2)(g:Int.gcd x.1 x.2=1):x=qp (val x):=by
 have e:=vY (val x)
 refine ags h (oh _) g (by have:=(val x).reduced; exact this) ?_ ?_
 ·rw[FN h (oh _),e]; exact Rat.le_refl
 ·rw[FN (oh _) h,e]; exact Rat.le_refl
theorem FQ{a b:Int}(h:1<=b):red a b=qp ((a:Rat) / (b:Rat)):=by
 obtain⟨_,p,g⟩:=Wd (a:=a) h
 rw[Wn p g,agC h]
theorem Ae{p q:Rat}(h:qp p=qp q):p=q:=by rw[<-vY p,h,vY]
theorem Bq.up{M N:Nat}{q:Rat}(h:Bq M q)(l:M<=N):Bq N q :=
 ⟨Nat.lt_of_lt_of_le h.1 (Nat.pow_le_pow_right (by omega) l),Nat.lt_of_lt_of_le h.2 (Nat.pow_le_pow_right (by omega) l)⟩
theorem Bq.div{a b:Int}{M:Nat}(ha:a.natAbs<2 ^ M)(hb:b.natAbs<2 ^ M)(h0:b≠0):Bq M ((a:Rat) / (b:Rat)):=by
 have key:∀{a b:Int},a.natAbs<2 ^ M->b.natAbs<2 ^ M->1<=b->Bq M ((a:Rat) / (b:Rat)):=λ{a b} ha hb h1=>by
  have e:=FQ (a:=a) h1
  obtain⟨g1,g2,g3,g4,g5,g6,g7⟩:=wK (a:=a) (b:=b) (by omega)
  have e1:a / ((Int.gcd a b:Nat):Int)=((a:Rat) / (b:Rat)).num:=congrArg Prod.fst e
  have e2:b / ((Int.gcd a b:Nat):Int)=(((a:Rat) / (b:Rat)).den:Int):=congrArg Prod.snd e
  have d1:=Int.natAbs_ediv_le_natAbs a ((Int.gcd a b:Nat):Int)
  have d2:=Int.natAbs_ediv_le_natAbs b ((Int.gcd a b:Nat):Int)
  rw[e1]at d1
  rw[e2]at d2
  exact⟨by omega,by omega⟩
 rcases Int.lt_or_le b 0 with z|z
 ·have k:=key (a := -a) (b := -b) (by omega) (by omega) (by omega)
  rw[Rat.intCast_neg,Rat.intCast_neg]at k
  rwa[show -(a:Rat) / -(b:Rat)=(a:Rat) / (b:Rat) by grind]at k
 ·exact key ha hb (by omega)
theorem jh{a b:Int}{M N:Nat}(ha:a.natAbs<2 ^ M)(hb:b.natAbs<2 ^ N):(a*b).natAbs<2 ^ (M+N):=by
 rw[Int.natAbs_mul,Nat.pow_add]
 exact Nat.mul_lt_mul'' ha hb
theorem rd(q:Rat):q=(q.num:Rat) / ((q.den:Int):Rat):=(vY q).symm
theorem tR(q:Rat):((q.den:Int):Rat)≠0:=by
 have:=ipos (oh q)
 have:(0:Rat)<((q.den:Int):Rat):=this
 grind
section
variable {p q:Rat}{M N:Nat}
theorem dpos(p q:Rat):1<=(p.den:Int)*(q.den:Int):=by
 have:=p.den_pos; have:=q.den_pos
 have:=Int.mul_pos (a:=(p.den:Int)) (b:=(q.den:Int)) (by omega) (by omega)
 omega
theorem cj(h:Bq M q):((q.den:Int)).natAbs<2 ^ M:=by have:=h.2; omega
theorem MP(p q:Rat):((p.num*q.num:Int):Rat) / (((p.den:Int)*(q.den:Int):Int):Rat)=p*q:=by
 rw[Rat.intCast_mul,Rat.intCast_mul]
 conv=>rhs; rw[rd p,rd q]
 have:=tR p; have:=tR q
 grind
theorem M4(p q:Rat):((p.num*(q.den:Int)+q.num*(p.den:Int):Int):Rat) / (((p.den:Int)*(q.den:Int):Int):Rat)=p+q:=by
 rw[Rat.intCast_add,Rat.intCast_mul,Rat.intCast_mul,Rat.intCast_mul]
 conv=>rhs; rw[rd p,rd q]
 have:=tR p; have:=tR q
 grind
theorem M5(p q:Rat):((p.num*(q.den:Int)-q.num*(p.den:Int):Int):Rat) / (((p.den:Int)*(q.den:Int):Int):Rat)=p-q:=by
 rw[Rat.intCast_sub,Rat.intCast_mul,Rat.intCast_mul,Rat.intCast_mul]
 conv=>rhs; rw[rd p,rd q]
 have:=tR p; have:=tR q
 grind
theorem n0(h:q≠0):q.num≠0:=λz=>h (Rat.num_eq_zero.mp z)
theorem Wq(p:Rat)(h:q≠0):((p.num*(q.den:Int):Int):Rat) / (((p.den:Int)*q.num:Int):Rat)=p / q:=by
 rw[Rat.intCast_mul,Rat.intCast_mul]
 conv=>rhs; rw[rd p,rd q]
 have:=tR p; have:=tR q
 have:(q.num:Rat)≠0:=λz=>n0 h (by exact_mod_cast z)
 grind
theorem Bq.mul(hp:Bq M p)(hq:Bq N q):Bq (M+N) (p*q):=by
 rw[<-MP]
 exact Bq.div (jh hp.1 hq.1) (jh (cj hp) (cj hq)) (by have:=dpos p q; omega)
theorem Bq.add(hp:Bq M p)(hq:Bq N q):Bq (M+N+1) (p+q):=by
 rw[<-M4]
 have a:=jh hp.1 (cj hq)
 have b:=jh hq.1 (cj hp)
 have c:=jh (cj hp) (cj hq)
 rw[Nat.add_comm N M]at b
 exact Bq.div (by rw[Nat.pow_succ]; omega) (by rw[Nat.pow_succ]; omega) (by have:=dpos p q; omega)
theorem Bq.sub(hp:Bq M p)(hq:Bq N q):Bq (M+N+1) (p-q):=by
 rw[<-M5]
 have a:=jh hp.1 (cj hq)
 have b:=jh hq.1 (cj hp)
 have c:=jh (cj hp) (cj hq)
 rw[Nat.add_comm N M]at b
 exact Bq.div (by rw[Nat.pow_succ]; omega) (by rw[Nat.pow_succ]; omega) (by have:=dpos p q; omega)
theorem Bq.by(hp:Bq M p)(hq:Bq N q)(h:q≠0):Bq (M+N) (p / q):=by
 rw[<-Wq p h]
 have:=p.den_pos
 exact Bq.div (jh hp.1 (cj hq)) (jh (cj hp) hq.1) (Int.mul_ne_zero (by omega) (n0 h))
theorem Wr{a g k:Int}(h : -a=k*g)(g0:g≠0):a.fdiv (-g)=k:=by
 rw[show a = -g*k by rw[Int.neg_mul,Int.mul_comm]; omega]
 exact Int.mul_fdiv_cancel_left _ (by omega)
theorem FT{a b:Int}(hb:b≠0)(hb2:b.natAbs<2 ^ M)(hM:M<=8900):lE [.int a,.int b]=.ok (qT ((a:Rat) / (b:Rat)),false):=by
 rcases Int.lt_or_le b 0 with z|z
 ·have e:=FQ (a := -a) (b := -b) (by omega)
  rw[Rat.intCast_neg,Rat.intCast_neg,show -(a:Rat) / -(b:Rat)=(a:Rat) / (b:Rat) by grind]at e
  unfold qT
  rw[<-e]
  obtain⟨g1,g2,_,_,_,g6,g7⟩:=wK (a := -a) (b := -b) (by omega)
  have hs:=Fy a b
  have eg:Int.gcd a b=Int.gcd (-a) (-b):=by rw[Int.neg_gcd,Int.gcd_neg]
  rw[eg]at hs
  unfold lE JT bC fT red
  generalize hg:((Int.gcd (-a) (-b):Nat):Int)=g at *
  have f1:a.fdiv (-g) = -a / g:=Wr g6 (by omega)
  have f2:b.fdiv (-g) = -b / g:=Wr g7 (by omega)
  have h4:(b == 0)=false:=by simp; omega
  have c1:∀n,lu n (-g)=true:=λn=>tM (M:=M) (by omega) (by omega) hM
  simp -dsimp[dM,dr,drs,cls,gK,dX,eO,gU,nu,cR,jN,pO,cu,hs,z,h4,c1,f1,f2]
 ·have e:=agt (a:=a) (b:=b) (M:=M) (by omega) (by have:=vW M; omega) hM
  rw[FQ (by omega)]at e
  exact e
end
section
variable {p q:Rat}{M N:Nat}
theorem cM{i j:Int}(h1:i.natAbs<2 ^ M)(h2:j.natAbs<2 ^ N)(h:M+N<=8900):gR i j=true:=vU h1 (by omega) h2 (by omega)
theorem fsum(hp:Bq M p)(hq:Bq N q)(h:M+N<=8900):pG [qT p,qT q]=.ok (qT (p+q),false):=by
 have e:=FT (a:=p.num*(q.den:Int)+q.num*(p.den:Int)) (b:=(p.den:Int)*(q.den:Int)) (M:=M+N) (by have:=dpos p q; omega) (jh (cj hp) (cj hq)) h
 rw[M4]at e
 have c1:=cM hp.1 (cj hq) h
 have c2:=cM hq.1 (cj hp) (by omega)
 have c3:=cM (cj hp) (cj hq) h
 generalize qT (p+q)=R at *
 unfold pG JV bC qT qp fT
 simp -dsimp[dr,drs,bW,bR,aC,cR,dI,gh,cu,c1,c2,c3,e]
theorem M6(hp:Bq M p)(hq:Bq N q)(h:M+N<=8900):qJ [qT p,qT q]=.ok (qT (p-q),false):=by
 have e:=FT (a:=p.num*(q.den:Int)-q.num*(p.den:Int)) (b:=(p.den:Int)*(q.den:Int)) (M:=M+N) (by have:=dpos p q; omega) (jh (cj hp) (cj hq)) h
 rw[M5]at e
 have c1:=cM hp.1 (cj hq) h
 have c2:=cM hq.1 (cj hp) (by omega)
 have c3:=cM (cj hp) (cj hq) h
 generalize qT (p-q)=R at *
 unfold qJ JW bC qT qp fT
 simp -dsimp[dr,drs,iM,gI,bR,aC,cR,dI,gh,cu,c1,c2,c3,e]
theorem M7(hp:Bq M p)(hq:Bq N q)(h:M+N<=8900):pH [qT p,qT q]=.ok (qT (p*q),false):=by
 have e:=FT (a:=p.num*q.num) (b:=(p.den:Int)*(q.den:Int)) (M:=M+N) (by have:=dpos p q; omega) (jh (cj hp) (cj hq)) h
 rw[MP]at e
 have c1:=cM hp.1 hq.1 h
 have c3:=cM (cj hp) (cj hq) h
 generalize qT (p*q)=R at *
 unfold pH JX bC qT qp fT
 simp -dsimp[dr,drs,bR,aC,cR,dI,gh,cu,c1,c3,e]
theorem fby(hp:Bq M p)(hq:Bq N q)(h0:q≠0)(h:M+N<=8900):xq [qT p,qT q]=.ok (qT (p / q),false):=by
 have e:=FT (a:=p.num*(q.den:Int)) (b:=(p.den:Int)*q.num) (M:=M+N) (Int.mul_ne_zero (by have:=p.den_pos; omega) (n0 h0)) (jh (cj hp) hq.1) h
 rw[Wq p h0]at e
 have c1:=cM hp.1 (cj hq) h
 have c3:=cM (cj hp) hq.1 h
 generalize qT (p / q)=R at *
 unfold xq JZ bC qT qp fT
 simp -dsimp[dr,drs,bR,aC,cR,dI,gh,cu,c1,c3,e]
theorem FW(p q:Rat):jV (qp p) (qp q)=decide (p<q):=by
 have:=agB (oh p) (oh q)
 rw[vY,vY]at this
 rw[Bool.eq_iff_iff,decide_eq_true_eq]
 exact this
theorem M8(hp:Bq M p)(hq:Bq N q)(h:M+N<=8900):nG [qT p,qT q]=.ok (.bl (decide (p<q)),false):=by
 have c1:=cM hp.1 (cj hq) h
 have c2:=cM hq.1 (cj hp) (by omega)
 rw[<-FW]
 unfold nG Dt bC qT qp fT
 simp -dsimp[dr,bR,gU,aC,dI,gh,cu,c1,c2,jV]
theorem Ws(p q:Rat):(p.num=q.num/\(p.den:Int)=(q.den:Int))↔p=q:=⟨λh=>Ae (Prod.ext h.1 h.2),λh=>by rw[h]; exact⟨rfl,rfl⟩⟩
theorem qEq(p q:Rat):dX (qT p) (qT q)=.ok (.bl (decide (p=q)),false):=by
 have d:=Ac (qp p)
 have d':=Ac (qp q)
 have e:eqT (qT p) (qT q)=decide (p=q):=by
  unfold qT fT
  simp only[eqT,jo,pO]
  rw[Bool.eq_iff_iff,decide_eq_true_eq,<-Ws]
  simp[qp]
 unfold dX
 unfold qT at *
 rw[e]
 simp[d,d']
end
end BH
end
section
namespace L2
open PySem
section
variable {ρ ρ1:En}{fa fb:EF}{c d:BF}{q:Rs (Rv × En)}{b:Bool}
theorem eiT(h:c ρ=.ok (true,ρ1))(k:fa ρ1=q):wN c fa fb ρ = q:=bk h ((if_pos rfl).trans k)
theorem eiF(h:c ρ=.ok (false,ρ1))(k:fb ρ1=q):wN c fa fb ρ = q:=bk h ((if_neg Bool.false_ne_true).trans k)
theorem xX(h:c ρ=.ok (false,ρ1)):iR c d ρ=.ok (false,ρ1):=bk h (if_neg Bool.false_ne_true)
end
end L2
namespace BH
open PySem L2
def bf(A:Nat->Rat)(c:Nat):List (Int × Int):=(List.range c).map λi=>qp (A i)
def aO(A B:Nat->Rat)(c:Nat):Tr:=Mw [bf A c,bf B c]
def B40(A B:Nat->Rat)(c:Nat):Prop:=∀i,i<c->Bq 40 (A i)/\Bq 40 (B i)
def kh(A B:Nat->Rat)(i j:Nat):Option Rat:=if A i-A j+(B j-B i)=0 then none else some ((B j-B i) / (A i-A j+(B j-B i)))
def oT:Option Rat->Tr
 |none=>.non
 |some q=>qT q
theorem xY(A:Nat->Rat)(c:Nat):(bf A c).length=c:=by unfold bf; rw[List.length_map,List.length_range]
theorem vZ(A:Nat->Rat){c i:Nat}(h:i<c):aC (bH (bf A c)) (.int i)=.ok (qT (A i),false):=by
 refine tO ?_
 unfold bf
 rw[List.map_map,List.getElem?_map,List.getElem?_range h]
 rfl
theorem v7(A B:Nat->Rat)(c:Nat):aC (aO A B c) (.int 0)=.ok (bH (bf A c),false):=tO (i:=0) rfl
theorem Wt(A B:Nat->Rat)(c:Nat):aC (aO A B c) (.int 1)=.ok (bH (bf B c),false):=tO (i:=1) rfl
section
variable {A B:Nat->Rat}{c i j:Nat}
theorem M9(h:B40 A B c)(hi:i<c)(hj:j<c){q:Rat}(e:kh A B i j=some q):Bq 244 q:=by
 unfold kh at e
 split at e
 ·cases e
 ·rename_i n
  cases e
  have f:=(h i hi).1.sub (h j hj).1
  have s:=(h j hj).2.sub (h i hi).2
  exact s.by (f.add s) n
theorem agD(h:B40 A B c)(hi:i<c)(hj:j<c):xH [aO A B c,.int i,.int j]=.ok (oT (kh A B i j),false):=by
 have f:=(h i hi).1.sub (h j hj).1
 have s:=(h j hj).2.sub (h i hi).2
 have t:=f.add s
 have e1:=M6 (h i hi).1 (h j hj).1 (by omega)
 have e2:=M6 (h j hj).2 (h i hi).2 (by omega)
 have e3:=fsum f s (by omega)
 have e4:=qEq (A i-A j+(B j-B i)) 0
 have i0:=v7 A B c
 have i1:=Wt A B c
 have a1:=vZ A hi
 have a2:=vZ A hj
 have b1:=vZ B hi
 have b2:=vZ B hj
 have key:∀V,wN (cg (aq dX (aj 5) (eC (.tup [(.int 0),(.int 1)])))) (eC .non) (aG xq (ak (aj 4) (ak (aj 5) au))) [.sh (aO A B c),.sh (.int i),.sh (.int j),.sh (qT (A i-A j)),.sh (qT (B j-B i)),.sh (qT (A i-A j+(B j-B i)))]=.ok (.v V false,[.sh (aO A B c),.sh (.int i),.sh (.int j),.sh (qT (A i-A j)),.sh (qT (B j-B i)),.sh (qT (A i-A j+(B j-B i)))])->xH [aO A B c,.int i,.int j]=.ok (V,false):=λV k =>
  lJ (bY (fU (bV (bT (bU (bU rfl rfl rfl rfl i0) rfl rfl rfl a1) (bT (bU (bU rfl rfl rfl rfl i0) rfl rfl rfl a2) rfl)) rfl rfl e1)) (bY (fU (bV (bT (bU (bU rfl rfl rfl rfl i1) rfl rfl rfl b2) (bT (bU (bU rfl rfl rfl rfl i1) rfl rfl rfl b1) rfl)) rfl rfl e2)) (bY (fU (bV (bT rfl (bT rfl rfl)) rfl rfl e3)) (n8 k))))
 refine key _ ?_
 unfold kh
 by_cases z:A i-A j+(B j-B i)=0
 ·rw[if_pos z]
  rw[decide_eq_true z]at e4
  exact eiT (jy (bU rfl rfl rfl rfl e4) rfl) rfl
 ·rw[if_neg z]
  rw[decide_eq_false z]at e4
  exact eiF (jy (bU rfl rfl rfl rfl e4) rfl) (bV (bT rfl (bT rfl rfl)) rfl rfl (fby s t z (by omega)))
end
end BH
end
section
namespace L2
open PySem
section
variable {ρ ρ1 ρ2:En}{zs zs1 zs2:List (Int × Int)}{f g:ZF}{sf:SF}{c:BF}{r:Rs (En × List (Int × Int))}
theorem zs_(h:f ρ zs=.ok (ρ1,zs1))(k:g ρ1 zs1=r):Ef f g ρ zs=r:=bk h k
theorem zl_(h:sf ρ=.ok (.nx,ρ1)):xO sf ρ zs=.ok (ρ1,zs):=by unfold xO; rw[h]; rfl
theorem zT_(h:c ρ=.ok (true,ρ1))(k:f ρ1 zs=r):tH c f ρ zs=r:=by unfold tH; rw[h]; exact k
theorem Wu(h:c ρ=.ok (false,ρ1)):tH c f ρ zs=.ok (ρ1,zs):=by unfold tH; rw[h]; rfl
theorem Wv{fi:IF}{gf:GF}{us:List Tr}(h:fi ρ=.ok (us,ρ1))(k:qO gf f us ρ1 zs=r):tK fi gf f ρ zs=r:=by unfold tK; rw[h]; exact k
theorem za_{fa:AF}{T:Tr}{b:Bool}{z:Int × Int}(h:fa ρ=.ok ([.v T b],ρ1))(k:zN T=some z)(l:zs.length<63):zP fa ρ zs=.ok (ρ1,vJ z zs):=by
 unfold zP
 rw[h]
 show(match zN T with|some z=>_|none=>_)=_
 rw[k]
 exact if_pos l
theorem Ww{i:Nat}{u:Tr}{us:List Tr}(h:f (ρ.set i (.sh u)) zs=.ok (ρ1,zs1))(k:qO (gN i) f us ρ1 zs1=r):qO (gN i) f (u::us) ρ zs=r:=by
 show(Rs.ok (ρ.set i (.sh u))).bind _=r
 exact bk rfl (bk h k)
end
end L2
namespace BH
open PySem L2
def tU(q:Rat)(qs:List Rat):List Rat:=if q∈qs then qs else qs++[q]
def stp(A B:Nat->Rat)(i:Nat)(qs:List Rat)(j:Nat):List Rat:=match kh A B i j with
 |some q=>if 0<q/\q<1 then tU q qs else qs
 |none=>qs
theorem agE(q:Rat)(qs:List Rat):vJ (qp q) (qs.map qp)=(tU q qs).map qp:=by
 unfold vJ tU
 have:qp q∈qs.map qp↔q∈qs:=⟨λh=>by obtain⟨p,m,e⟩:=List.mem_map.mp h; exact Ae e▸m,λh=>List.mem_map_of_mem h⟩
 by_cases z:q∈qs
 ·rw[if_pos z,if_pos (this.mpr z)]
 ·rw[if_neg z,if_neg λh=>z (this.mp h),List.map_append]; rfl
abbrev Wy:SF:=aV (aG xH (ak (aj 0) (ak (aj 2) (ak (aj 3) au)))) (gN 4)
abbrev Nb:BF:=iR (cg (aq (yP not) (aj 4) (eC .non))) (iR (cZ (aG nG (ak (eC (.tup [(.int 0),(.int 1)])) (ak (aj 4) au)))) (cZ (aG nG (ak (aj 4) (ak (eC (.tup [(.int 1),(.int 1)])) au)))))
abbrev Ga:ZF:=Ef (xO Wy) (tH Nb (zP (ak (aj 4) au)))
section
variable {A B:Nat->Rat}{c i j:Nat}
theorem Nf:Bq 1 0:=⟨by decide,by decide⟩
theorem lK:Bq 1 1:=⟨by decide,by decide⟩
theorem agF(h:B40 A B c)(hi:i<c)(hj:j<c){qs:List Rat}(hl:qs.length<63)(s4 s5:Sl):∃t4,Ga [.sh (aO A B c),.un,.sh (.int i),.sh (.int j),s4,s5] (qs.map qp)=.ok ([.sh (aO A B c),.un,.sh (.int i),.sh (.int j),t4,s5],(stp A B i qs j).map qp):=by
 have e:=agD h hi hj
 have a:xO Wy [.sh (aO A B c),.un,.sh (.int i),.sh (.int j),s4,s5] (qs.map qp)=.ok ([.sh (aO A B c),.un,.sh (.int i),.sh (.int j),.sh (oT (kh A B i j)),s5],qs.map qp):=zl_ (fU (b:=false) (ρ1:=[.sh (aO A B c),.un,.sh (.int i),.sh (.int j),s4,s5]) (bV rfl rfl rfl e))
 refine⟨.sh (oT (kh A B i j)),zs_ a ?_⟩
 unfold stp
 have hq:=λq=>M9 (q:=q) h hi hj
 clear e a
 match hm:kh A B i j with
 |none=>exact Wu (xX (jy (bU rfl rfl rfl rfl rfl) rfl))
 |some q =>
  have b:=hq q hm
  have e1:=M8 Nf b (by omega)
  have e2:=M8 b lK (by omega)
  show tH Nb _ [.sh (aO A B c),.un,.sh (.int i),.sh (.int j),.sh (qT q),s5] _=_
  have n:Nb [.sh (aO A B c),.un,.sh (.int i),.sh (.int j),.sh (qT q),s5]=.ok (decide (0<q)&&decide (q<1),[.sh (aO A B c),.un,.sh (.int i),.sh (.int j),.sh (qT q),s5]):=by
   refine vX (jy (bU rfl rfl rfl rfl rfl) rfl) ?_
   cases d:decide (0<q)with
   |false=>rw[d]at e1; exact xX (jO (bV rfl rfl rfl e1) rfl rfl)
   |true=>rw[d]at e1; exact vX (jO (bV rfl rfl rfl e1) rfl rfl) (jO (bV rfl rfl rfl e2) rfl rfl)
  by_cases z:0<q/\q<1
  ·rw[decide_eq_true z.1,decide_eq_true z.2]at n
   have k:=za_ (zs:=qs.map qp) (fa:=ak (aj 4) au) (ρ:=[.sh (aO A B c),.un,.sh (.int i),.sh (.int j),.sh (qT q),s5]) (z:=qp q) rfl rfl (by rw[List.length_map]; exact hl)
   rw[agE]at k
   dsimp only
   rw[if_pos z]
   exact zT_ n k
  ·have:(decide (0<q)&&decide (q<1))=false:=by
    rw[Bool.eq_false_iff]
    simpa using z
   rw[this]at n
   dsimp only
   rw[if_neg z]
   exact Wu n
theorem Wz(qs:List Rat):(stp A B i qs j).length<=qs.length+1:=by
 unfold stp tU
 split
 ·split
  ·split
   ·omega
   ·rw[List.length_append]; exact Nat.le_refl _
  ·omega
 ·omega
theorem WD(h:B40 A B c)(hi:i<c)(s5:Sl):∀(js:List Nat) (qs:List Rat) (s3 s4:Sl),(∀j∈js,j<c)->qs.length+js.length<=63->∃t3 t4,qO (gN 3) Ga (js.map λj:Nat=>Tr.int j) [.sh (aO A B c),.un,.sh (.int i),s3,s4,s5] (qs.map qp)=.ok ([.sh (aO A B c),.un,.sh (.int i),t3,t4,s5],(js.foldl (stp A B i) qs).map qp)
 | [],qs,s3,s4,_,_=>⟨s3,s4,rfl⟩
 |j::js,qs,s3,s4,hj,hl=>by
  rw[List.length_cons]at hl
  obtain⟨t4,e⟩:=agF h hi (hj j (by simp)) (qs:=qs) (by omega) s4 s5
  have:=Wz (A:=A) (B:=B) (i:=i) (j:=j) qs
  obtain⟨u3,u4,e'⟩:=WD h hi s5 js (stp A B i qs j) (.sh (.int j)) t4 (λk m=>hj k (by simp[m])) (by omega)
  exact⟨u3,u4,Ww e e'⟩
def inn(A B:Nat->Rat)(qs:List Rat)(i:Nat):List Rat:=(List.range i).foldl (stp A B i) qs
theorem agG(js:List Nat):∀qs,(js.foldl (stp A B i) qs).length<=qs.length+js.length:=by
 induction js with
 |nil=>intro qs; exact Nat.le_refl _
 |cons j js ih =>
  intro qs
  have:=ih (stp A B i qs j)
  have:=Wz (A:=A) (B:=B) (i:=i) (j:=j) qs
  rw[List.foldl_cons,List.length_cons]
  omega
theorem WK(qs:List Rat):(inn A B qs i).length<=qs.length+i:=by
 have:=agG (A:=A) (B:=B) (i:=i) (List.range i) qs
 rw[List.length_range]at this
 exact this
theorem agH{k:Nat}{n:Nat}{ρ : En}(hn:n<=1000000)(h : ρ[k]?=some (.sh (.int (n:Int)))):fH (ak (aj k) au) ρ=.ok ((List.range n).map λi:Nat=>Tr.int i,ρ):=by
 have q1:(-1000000:Int)<=n:=by omega
 have q2:(n:Int)<=1000000:=by omega
 rw[<-MF]
 simp -dsimp[drs,dr,okR,q1,q2,h]
theorem WL(h:B40 A B c)(hc:c<=1000000)(s5:Sl):∀(is:List Nat) (qs:List Rat) (s2 s3 s4:Sl),(∀i∈is,i<c)->qs.length+is.sum<=63->∃t2 t3 t4,qO (gN 2) (tK (fH (ak (aj 2) au)) (gN 3) Ga) (is.map λj:Nat=>Tr.int j) [.sh (aO A B c),.un,s2,s3,s4,s5] (qs.map qp)=.ok ([.sh (aO A B c),.un,t2,t3,t4,s5],(is.foldl (inn A B) qs).map qp)
 | [],qs,s2,s3,s4,_,_=>⟨s2,s3,s4,rfl⟩
 |i::is,qs,s2,s3,s4,hj,hl=>by
  rw[List.sum_cons]at hl
  have hi:=hj i (by simp)
  obtain⟨t3,t4,e⟩:=WD h hi s5 (List.range i) qs s3 s4 (λk m=>by rw[List.mem_range]at m; omega) (by rw[List.length_range]; omega)
  have:=WK (A:=A) (B:=B) (i:=i) qs
  obtain⟨u2,u3,u4,e'⟩:=WL h hc s5 is (inn A B qs i) (.sh (.int i)) t3 t4 (λk m=>hj k (by simp[m])) (by omega)
  exact⟨u2,u3,u4,Ww (Wv (agH (k:=2) (n:=i) (by omega) rfl) e) e'⟩
end
end BH
end
section
namespace L2
open PySem
section
variable {ρ ρ1:En}{aa:AF}{F:FP}{ps:List Rv}{as:List Tr}{z:Tr × Bool}
theorem agI(h:aa ρ=.ok (ps,ρ1))(k:drs ρ1 ps=.ok as)(n:j6 z=true)(e:F as=.ok z):aG F aa ρ=.ok (.v z.1 z.2,ρ1):=bk h (bk k (bk e (if_neg λq=>by rw[n]at q; cases q.2)))
end
end L2
namespace BH
open PySem L2
section
variable {A B:Nat->Rat}{c i j:Nat}
theorem agJ{p q:Rat}{qs:List Rat}:p∈tU q qs↔p∈qs\/p=q:=by
 unfold tU
 split
 ·rename_i m
  exact⟨.inl,λh=>h.elim id λe=>e▸m⟩
 ·rw[List.mem_append,List.mem_singleton]
theorem agK{q:Rat}{qs:List Rat}(h:qs.Nodup):(tU q qs).Nodup:=by
 unfold tU
 split
 ·exact h
 ·rename_i m
  rw[List.nodup_append]
  exact⟨h,by simp,λa ha b hb e=>by rw[List.mem_singleton]at hb; subst hb; subst e; exact m ha⟩
def Mt(A B:Nat->Rat)(i j:Nat)(q:Rat):Prop:=kh A B i j=some q/\0<q/\q<1
theorem agL{p:Rat}{qs:List Rat}:p∈stp A B i qs j↔p∈qs\/Mt A B i j p:=by
 unfold stp Mt
 match kh A B i j with
 |none=>exact⟨.inl,λh=>h.elim id λe=>by cases e.1⟩
 |some q =>
  dsimp only
  split
  ·rename_i z
   rw[agJ]
   exact or_congr Iff.rfl ⟨λe=>by subst e; exact⟨rfl,z⟩,λe=>(Option.some.inj e.1).symm⟩
  ·rename_i z
   exact⟨.inl,λh=>h.elim id λe=>by cases e.1; exact(z e.2).elim⟩
theorem agM{qs:List Rat}(h:qs.Nodup):(stp A B i qs j).Nodup:=by
 unfold stp
 split
 ·split
  ·exact agK h
  ·exact h
 ·exact h
theorem agN(js:List Nat):∀{p:Rat} {qs:List Rat},p∈js.foldl (stp A B i) qs↔p∈qs\/∃j∈js,Mt A B i j p:=by
 induction js with
 |nil=>intro p qs; simp
 |cons j js ih =>
  intro p qs
  rw[List.foldl_cons,ih,agL]
  simp only[List.mem_cons,exists_eq_or_imp,or_assoc]
theorem agO(js:List Nat):∀{qs:List Rat},qs.Nodup->(js.foldl (stp A B i) qs).Nodup:=by
 induction js with
 |nil=>intro qs h; exact h
 |cons j js ih=>intro qs h; exact ih (agM h)
theorem agP(is:List Nat):∀{p:Rat} {qs:List Rat},p∈is.foldl (inn A B) qs↔p∈qs\/∃i∈is,∃j∈List.range i,Mt A B i j p:=by
 induction is with
 |nil=>intro p qs; simp
 |cons i is ih =>
  intro p qs
  rw[List.foldl_cons,ih]
  unfold inn
  rw[agN]
  simp only[List.mem_cons,exists_eq_or_imp,or_assoc]
theorem agQ(is:List Nat):∀{qs:List Rat},qs.Nodup->(is.foldl (inn A B) qs).Nodup:=by
 induction is with
 |nil=>intro qs h; exact h
 |cons i is ih=>intro qs h; exact ih (agO _ h)
theorem agR(is:List Nat):∀(qs:List Rat),(is.foldl (inn A B) qs).length<=qs.length+is.sum:=by
 induction is with
 |nil=>intro qs; exact Nat.le_refl _
 |cons i is ih =>
  intro qs
  have:=ih (inn A B qs i)
  have:=WK (A:=A) (B:=B) (i:=i) qs
  rw[List.foldl_cons,List.sum_cons]
  omega
theorem WM:∀{c:Nat},c<=8->(List.range c).sum<=28:=by decide
theorem agS{l:List (Int × Int)}{ys:List Nat}(nd:l.Nodup)(hq:∀x∈l,x=qp (val x))(h:Fall l ys):∃es:List Rat,(ys.map λi=>l.getD i (0,1)).reverse=es.map qp/\es.Pairwise (· < ·)/\(∀q,q∈es↔qp q∈l)/\es.length=l.length:=by
 obtain⟨p,s⟩:=h.dsc
 generalize ys.map (λi=>l.getD i (0,1))=zs at p s ⊢
 have pr:zs.reverse.Perm l:=(List.reverse_perm zs).trans p
 have hz:∀x∈zs.reverse,x=qp (val x):=λx m=>hq x (pr.mem_iff.mp m)
 have em:zs.reverse=(zs.reverse.map val).map qp:=by
  rw[List.map_map]
  conv=>lhs; rw[<-List.map_id zs.reverse]
  exact List.map_congr_left hz
 refine⟨zs.reverse.map val,em,?_,λq=>?_,by rw[List.length_map]; exact pr.length_eq⟩
 ·have s':zs.reverse.Pairwise λa b=>le2 a b:=List.pairwise_reverse.mpr s
  have n':zs.reverse.Nodup:=pr.nodup_iff.mpr nd
  rw[List.pairwise_map]
  refine(List.Pairwise.and s' n').imp_of_mem λ{a b} ma mb hab=>?_
  have ea:=hz a ma
  have eb:=hz b mb
  have l1:1<=a.2:=by rw[ea]; exact oh _
  have l2:1<=b.2:=by rw[eb]; exact oh _
  have:=(FN l1 l2).mp hab.1
  have ne:val a≠val b:=λz=>hab.2 (by rw[ea,eb,z])
  grind
 ·rw[<-pr.mem_iff]
  constructor
  ·intro m
   rw[em]
   exact List.mem_map_of_mem m
  ·intro m
   rw[em]at m
   obtain⟨p,m,e⟩:=List.mem_map.mp m
   exact Ae e▸m
theorem tV{fa:EF}{n:Nat}{ρ : En}{b:Bool}(hn:n<=1000000)(h:fa ρ=.ok (.v (.int (n:Int)) b,ρ)):fH (ak fa au) ρ=.ok ((List.range n).map λi:Nat=>Tr.int i,ρ):=by
 have q1:(-1000000:Int)<=n:=by omega
 have q2:(n:Int)<=1000000:=by omega
 rw[<-MF]
 simp -dsimp[drs,dr,okR,q1,q2,h]
theorem Af(A:Nat->Rat)(c:Nat):bM (bH (bf A c))=.ok (.int (c:Int),false):=by
 have:=xY A c
 show Rs.ok (Tr.int (((bf A c).map fT).length:Int),false)=_
 rw[List.length_map,this]
theorem agT(ys:List Nat):j6 (.lst (ys.map iT),true)=true:=by
 have:=ago ys
 unfold j6
 show(_ || (true&&lD (ys.map iT)))=true
 rw[show ys.map iT=ys.map λi:Nat=>Tr.int i from rfl,this]
 simp
theorem WQ(h:B40 A B c)(c1:1<=c)(hc:c<=8):∃es:List Rat,tL [aO A B c]=.ok (bH (es.map qp),true)/\es.Pairwise (· < ·)/\(∀q,q∈es↔∃i,i<c/\∃j,j<i/\Mt A B i j q)/\es.length<=28:=by
 obtain⟨t2,t3,t4,e⟩:=WL h (by omega) .un (List.range c) [] .un .un .un (λi m=>List.mem_range.mp m) (by have:=WM hc; simp only[List.length_nil]; omega)
 have mem:=λq=>agP (A:=A) (B:=B) (List.range c) (p:=q) (qs:=[])
 have nd:=agQ (A:=A) (B:=B) (List.range c) (qs:=[]) List.nodup_nil
 have ln:=agR (A:=A) (B:=B) (List.range c) []
 have s28:=WM hc
 generalize (List.range c).foldl (inn A B) []=fs at *
 have hb:∀q∈fs,Bq 244 q:=λq m=>by
  rcases(mem q).mp m with z|⟨i,mi,j,mj,k⟩
  ·cases z
  ·rw[List.mem_range]at mi mj
   exact M9 h mi (by omega) k.1
 have pm:=Eh (fs.map qp)
 have hx:∀x∈nM (fs.map qp),x=qp (val x)/\val x∈fs:=λx m=>by
  obtain⟨q,mq,rfl⟩:=List.mem_map.mp (pm.mem_iff.mp m)
  rw[vY]
  exact⟨rfl,mq⟩
 have nl:(nM (fs.map qp)).Nodup:=pm.nodup_iff.mpr (by unfold List.Nodup; rw[List.pairwise_map]; exact nd.imp λh e=>h (Ae e))
 have ll:(nM (fs.map qp)).length<=28:=by have:=pm.length_eq; rw[List.length_map]at this; simp only[List.length_nil]at ln; omega
 have mm:∀q,qp q∈nM (fs.map qp)↔q∈fs:=λq=>by
  rw[pm.mem_iff]
  exact⟨λm=>by obtain⟨p,m,e⟩:=List.mem_map.mp m; exact Ae e▸m,λm=>List.mem_map_of_mem m⟩
 generalize hL:nM (fs.map qp)=l at *
 have fr:Frs 244 l:=λx m=>by
  obtain⟨e,mv⟩:=hx x m
  have b:=hb _ mv
  rw[e]
  exact⟨oh _,by have:=cj b; have:=vW 244; show((val x).den:Int)<2 ^ 244; omega,b.1⟩
 obtain⟨fl,ef⟩:=Wm fr (by have:244*l.length<=244*28:=Nat.mul_le_mul_left _ ll; omega) (by omega) (by omega)
 obtain⟨es,e1,e2,e3,e4⟩:=agS nl (λx m=>(hx x m).1) fl
 refine⟨es,?_,e2,λq=>?_,by omega⟩
 ·have g0:bK (g1 bM) (ak (aq aC (aj 0) (eC (.int 0))) au) [.sh (aO A B c),.un,.un,.un,.un,.un]=.ok (.v (.int (c:Int)) false,[.sh (aO A B c),.un,.un,.un,.un,.un]):=j9 (z:=(.int (c:Int),false)) (bT (bU rfl rfl rfl rfl (v7 A B c)) rfl) rfl (Af A c)
  have eS:vL 1 5 (tK (fH (ak (bK (g1 bM) (ak (aq aC (aj 0) (eC (.int 0))) au)) au)) (gN 2) (tK (fH (ak (aj 2) au)) (gN 3) Ga)) [.sh (aO A B c),.un,.un,.un,.un,.un]=.ok (.nx,[.sh (aO A B c),.un,t2,t3,t4,.ow (l.map fT)]):=by
   have:=Wv (tV (by omega) g0) e
   unfold vL
   refine(if_pos (show 1<6 by omega)).trans ?_
   refine bk this ((if_pos ?_).trans ?_)
   ·rw[List.length_map]; simp only[List.length_nil]at ln; omega
   ·rw[hL]; rfl
  have eI:cW (aG lF (ak (aj 5) au)) [.sh (aO A B c),.un,t2,t3,t4,.ow (l.map fT)]=.ok ((gA l).map iT,[.sh (aO A B c),.un,t2,t3,t4,.ow (l.map fT)]):=bk (agI rfl rfl (agT _) ef) rfl
  have hlt:∀i∈gA l,i<l.length:=λi m=>List.mem_range.mp (fl.1.mem_iff.mp m)
  have eC:=Ad (r:=iT) (h:=λi=>fT (l.getD i (0,1))) (xs:=gA l) (τ:=[.ow (l.map fT)]) (rest:=[some 5]) (fe:=aq aC (aj 1) (aj 0)) (by have:=fl.1.length_eq; rw[List.length_range]at this; omega) eI rfl (λs'=>rfl) (λs'=>rfl) (λi m=>⟨false,bU rfl rfl rfl rfl (V8 (hlt i m))⟩)
  have eR:zf (.lst ((gA l).map λi=>fT (l.getD i (0,1))))=.ok (bH (es.map qp),true):=by
   show Rs.ok (Tr.lst ((gA l).map λi=>fT (l.getD i (0,1))).reverse,true)=_
   unfold bH
   rw[<-e1,List.map_reverse,List.map_map]
   rfl
  exact lJ (bY eS (n8 (bk eC (bk rfl (bk eR rfl)))))
 ·rw[e3,mm,mem]
  simp only[List.not_mem_nil,false_or,List.mem_range]
end
end BH
end
section
namespace L2
open PySem
@[simp] theorem al0(d:Str)(fa:EF)(ρ : En):adp d fa ρ = bd (fa ρ) (λp=>bd (dr p.2 p.1) (λa=>match TJ a d with
 |some b=>.ok (eB b,p.2)
 |none=>.bad) .mk) .mk:=rfl
@[simp] theorem al1(fa:EF)(ρ : En):adq fa ρ = bd (fa ρ) (λp=>bd (dr p.2 p.1) (λa=>match TQ a with
 |some b=>.ok (eB b,p.2)
 |none=>.bad) .mk) .mk:=rfl
@[simp] theorem al2(c:Str)(f:EF)(ρ : En):uQ c f ρ = bd (f ρ) (λ_=>.ex c) .mk:=rfl
end L2
namespace BH
open PySem L2
theorem WR(t:Nat):∀ys:List Nat,pZ (.int t) (ys.map λi:Nat=>Tr.int i)=ys.any (· == t)
 | []=>rfl
 |y::ys=>by
  have:=WR t ys
  unfold pZ at *
  rw[List.map_cons,List.any_cons,this,List.any_cons,pO]
  congr 1
  rw[Bool.eq_iff_iff]
  simp
  omega
theorem agU(t:Nat)(ys:List Nat):iK not (.int t) (nT ys)=.ok (.bl (!(ys.any (· == t))),false):=by
 show(if deps (ys.map λi:Nat=>Tr.int i)<=40/\dep (.int t)<=40 then Rs.ok (Tr.bl (!(pZ (.int t) (ys.map λi:Nat=>Tr.int i))),false)else .bad)=_
 rw[V4,jN,if_pos (by omega),WR]
theorem agV(L:List Tr)(k:Nat):su none (some (k:Int)) (.lst L)=.ok (.lst (L.take k),true):=by
 show Rs.ok (Tr.lst (L2.cut L none (some (k:Int))),true)=_
 rw[agm]
theorem agW(L:List Tr)(k:Nat):su (some (k:Int)) none (.lst L)=.ok (.lst (L.drop k),true):=by
 show Rs.ok (Tr.lst (L2.cut L (some (k:Int)) none),true)=_
 rw[agl]
theorem WT{A B:List Tr}(h:A.length+B.length<=100000):bW (.lst A) (.lst B)=.ok (.lst (A++B),true):=by
 show(if A.length+B.length<=100000 then Rs.ok (Tr.lst (A++B),true)else .bad)=_
 rw[if_pos h]
end BH
end
section
namespace L2
open PySem
theorem pQ{g:GF}{b:SF}{u:Tr}{us:List Tr}{ρ ρ1 ρ2:En}{r:Rs (Fl × En)}(hg:g u ρ=.ok ρ1)(h:b ρ1=.ok (.nx,ρ2))(k:fM g b us ρ2=r):fM g b (u::us) ρ = r:=by
 unfold fM
 rw[hg]
 show(b ρ1).bind _=r
 rw[h]
 exact k
end L2
namespace BH
open PySem L2
def jz(w v:Rat):Tr:=.tup [.str "shares",bH [qp w,qp v]]
section
variable {A B V:Nat->Rat}{c i k M:Nat}{w v a b:Rat}
theorem WW(h:Bq M w)(h0:0<=w):Fq M (qp w):=by
 have n:=vW M
 have d:=cj h
 have b:=h.1
 have p:0<=w.num:=Rat.num_nonneg.mpr h0
 exact⟨p,by show w.num<2 ^ M; omega,oh w,by show(w.den:Int)<2 ^ M; omega,w.reduced⟩
theorem WX(hw:Bq M w)(hv:Bq M v)(w0:0<=w)(v0:0<=v):vD [jz w v,.int 2]=.ok (.bl true,false):=by
 have e:=agw (M:=M) (ws:=[qp w,qp v]) (λx m=>by
  rcases List.mem_cons.mp m with rfl|m
  ·exact WW hw w0
  ·rw[List.mem_singleton]at m; subst m; exact WW hv v0) (by show 2<=12; omega)
 have g:fC (.int 2) (.int 2)=.ok (.bl false,false):=xU (by rw[jN]; omega)
 have t:cg (aq fC (bK (g1 bM) (ak (aj 0) au)) (eC (.int 2))) [.sh (jz w v),.sh (.int 2),.un,.un]=.ok (false,[.sh (jz w v),.sh (.int 2),.un,.un]):=jy (bU (z:=(.bl false,false)) (j9 (z:=(.int 2,false)) rfl rfl rfl) rfl rfl rfl g) rfl
 have a:aV (aj 0) (gT 2 (bA (gN 2) (bA (gN 3) dz))) [.sh (jz w v),.sh (.int 2),.un,.un]=.ok (.nx,[.sh (jz w v),.sh (.int 2),.sh (.str "shares"),.sh (bH [qp w,qp v])]):=rfl
 have t0:fP (cZ (lC .tuple (aj 0))) [.sh (jz w v),.sh (.int 2),.un,.un]=.ok (false,[.sh (jz w v),.sh (.int 2),.un,.un]):=rfl
 exact lJ (bY (lH t0 rfl) (bY (lH t rfl) (bY a (Wi (MK (jy (bU rfl rfl rfl rfl (sEq "shares")) rfl) (n8 (bV rfl rfl rfl e)))))))
theorem agX(hw:Bq M w)(hv:Bq M v)(ha:Bq 40 a)(hb:Bq 40 b)(hM:M+M<=8000):Dw [bH [qp w,qp v],bH [qp a,qp b]]=.ok (qT (w*a+v*b),false):=by
 have m1:=hw.mul ha
 have m2:=hv.mul hb
 have e1:=M7 hw ha (by omega)
 have e2:=fsum Nf m1 (by omega)
 have e3:=M7 hv hb (by omega)
 have e4:=fsum m1 m2 (by omega)
 rw[Rat.zero_add]at e2
 exact lJ (bY rfl (bY (xV (pP rfl (pQ rfl (fU (bV (bT rfl (bT (bV rfl rfl rfl e1) rfl)) rfl rfl e2)) (pQ rfl (fU (bV (bT rfl (bT (bV rfl rfl rfl e3) rfl)) rfl rfl e4)) rfl)))) (n8 rfl)))
theorem agY(hw:Bq M w)(hv:Bq M v)(ha:Bq 40 a)(hb:Bq 40 b)(hM:M+M<=8000):zH [jz w v,bH [qp a,qp b]]=.ok (qT (w*a+v*b),false) :=
 lJ (Wi (MK (jy (bU (bU rfl rfl rfl rfl rfl) rfl rfl rfl (sEq "shares")) rfl) (n8 (bV (bT (bU rfl rfl rfl rfl rfl) (bT rfl rfl)) rfl rfl (agX hw hv ha hb hM)))))
theorem agZ(hi:i<c):zJ [aO A B c,.int i]=.ok (bH [qp (A i),qp (B i)],true):=by
 have e:=Ad (r:=bH) (h:=λl=>fT (l.getD i (0,1))) (xs:=[bf A c,bf B c]) (ρ:=[.sh (aO A B c),.sh (.int i)]) (rest:=[some 1]) (i:=cW (aj 0)) (fe:=aq aC (aj 0) (aj 1)) (by show 2<=100000; omega) rfl rfl (λs'=>rfl) (λs'=>rfl) (λl m=>⟨false,bU rfl rfl rfl rfl (V8 (by
  rcases List.mem_cons.mp m with rfl|m
  ·rw[xY]; exact hi
  ·rw[List.mem_singleton]at m; subst m; rw[xY]; exact hi))⟩)
 have g:∀X:Nat->Rat,(bf X c).getD i (0,1)=qp (X i):=λX=>by unfold bf; simp[hi]
 rw[show [bf A c,bf B c].map (λl=>fT (l.getD i (0,1)))=[fT (qp (A i)),fT (qp (B i))] by rw[<-g A,<-g B]; rfl]at e
 exact lJ (n8 e)
def mV(A B:Nat->Rat)(w v:Rat)(i:Nat):Rat:=w*A i+v*B i
theorem WY(h:B40 A B c)(hc:c<=12)(hw:Bq M w)(hv:Bq M v)(hM:M+M<=8000):xr [aO A B c,jz w v]=.ok (bH (bf (mV A B w v) c),true):=by
 have g0:bK (g1 bM) (ak (aq aC (aj 0) (eC (.int 0))) au) [.sh (aO A B c),.sh (jz w v)]=.ok (.v (.int (c:Int)) false,[.sh (aO A B c),.sh (jz w v)]):=j9 (z:=(.int (c:Int),false)) (bT (bU rfl rfl rfl rfl (v7 A B c)) rfl) rfl (Af A c)
 have e:=Ad (r:=λi:Nat=>Tr.int i) (h:=λi=>qT (mV A B w v i)) (xs:=List.range c) (τ:=[.sh (jz w v),.sh (aO A B c)]) (rest:=[some 1,some 0]) (fe:=aG zH (ak (aj 1) (ak (aG zJ (ak (aj 2) (ak (aj 0) au))) au))) (by rw[List.length_range]; omega) (tV (by omega) g0) rfl (λs'=>rfl) (λs'=>rfl) (λi m=>by
  have hi:=List.mem_range.mp m
  exact⟨false,bV (z:=(qT (mV A B w v i),false)) (bT rfl (bT (bV rfl rfl rfl (agZ hi)) rfl)) rfl rfl (agY hw hv (h i hi).1 (h i hi).2 hM)⟩)
 have:Tr.lst ((List.range c).map λi=>qT (mV A B w v i))=bH (bf (mV A B w v) c):=by
  unfold bH bf
  rw[List.map_map]
  rfl
 rw[this]at e
 exact lJ (n8 e)
theorem ag0(hk:k<=c):zK [.int k,.int c]=.ok (.bl true,false):=by
 have q:(k:Int)<=c:=by omega
 unfold zK J6 bC
 simp -dsimp[dO,fJ,Jy,dN,con,vm,eB,dM,gM,dr,drs,cls,qu,R7,g1,g2,gI,gK,gB,dX,fC,iK,bW,bR,eO,dh,lX,iM,gU,oU,fD,jZ,aC,bM,lY,abu,abv,abw,abx,gG,sG,okR,qe,cR,others,gW,cU,gY,oZ,sJ,jN,af0,VB,af2,Mr,Fx,Aa,nU,pO,af3,af4,iZ,dI,gh,cu,VD,isW,fD,q]
theorem W4(hk:k<=c):xu [aO A B c,.int k]=.ok (.non,false) :=
 MN (lH (xW (jO (bV (bT rfl (bT (j9 (bT (bU rfl rfl rfl rfl (v7 A B c)) rfl) rfl (Af A c)) rfl)) rfl rfl (ag0 hk)) rfl rfl)) rfl)
def Ah(V:Nat->Rat)(i:Nat):Tr:=.tup [.int (i:Nat),qT (V i)]
theorem ag1(hb:Bk c [bf A c,bf B c])(hk:k<=c){R:Tr}(hR:vD [R,.int 2]=.ok (.bl true,false)):Dy [aO A B c,R,.int k]=.ok (.non,false) :=
 MN (bY (tQ (bV rfl rfl rfl (MN (bY (tQ (bV rfl rfl rfl (V2 hb.nY))) (lH (xW (jO (bV (bT rfl (bT (j9 rfl rfl rfl) rfl)) rfl rfl hR) rfl rfl)) rfl))))) (tQ (bV rfl rfl rfl (W4 hk))))
theorem W7(hV:∀i,i<c->Bq M (V i))(hc:c<64)(hM:1+M*c<=8900)(h1:1<=c):Fall (bf V c) (gA (bf V c))/\lF [bH (bf V c)]=.ok (.lst ((gA (bf V c)).map iT),true):=by
 have l:=xY V c
 refine Wm (N:=M) (λx m=>?_) (by rw[l]; exact hM) (by have:M*1<=M*c:=Nat.mul_le_mul_left _ h1; omega) (by rw[l]; exact hc)
 unfold bf at m
 obtain⟨i,mi,rfl⟩:=List.mem_map.mp m
 have b:=hV i (List.mem_range.mp mi)
 exact⟨oh _,by have:=cj b; have:=vW M; show((V i).den:Int)<2 ^ M; omega,b.1⟩
theorem W8(hb:Bk c [bf A c,bf B c])(hk:k<=c){R:Tr}(hR:vD [R,.int 2]=.ok (.bl true,false))(hw:xr [aO A B c,R]=.ok (bH (bf V c),true))(hV:∀i,i<c->Bq M (V i))(hM:1+M*c<=8900):mH [aO A B c,R,.int k]=.ok (.lst (((gA (bf V c)).take k).map (Ah V)),true):=by
 obtain⟨_,_,h3,h4,_⟩:=id hb
 obtain⟨fl,ef⟩:=W7 hV (by omega) hM h3
 have hlt:∀i∈gA (bf V c),i<c:=λi m=>by have:=List.mem_range.mp (fl.1.mem_iff.mp m); rwa[xY]at this
 have es:=agV ((gA (bf V c)).map iT) k
 rw[<-List.map_take]at es
 have ei:cW (uJ (aG lF (ak (aj 3) au)) uG (uH (aj 2))) [.sh (aO A B c),.sh R,.sh (.int k),.sh (bH (bf V c))]=.ok (((gA (bf V c)).take k).map iT,[.sh (aO A B c),.sh R,.sh (.int k),.sh (bH (bf V c))]):=bk (bk (bV rfl rfl rfl ef) (bk rfl (bk rfl (bk rfl (bk es rfl))))) rfl
 have em:=Ad (r:=iT) (h:=Ah V) (xs:=(gA (bf V c)).take k) (τ:=[.sh (bH (bf V c))]) (rest:=[some 3]) (fe:=gk (ak (aj 0) (ak (aq aC (aj 1) (aj 0)) au))) (by rw[List.length_take]; omega) ei rfl (λs'=>rfl) (λs'=>rfl) (λi m=>⟨false,FJ (bT rfl (bT (bU rfl rfl rfl rfl (vZ V (hlt i (List.mem_of_mem_take m)))) rfl)) rfl (by show 2<=1000; omega)⟩)
 exact lJ (bY (tQ (bV rfl rfl rfl (ag1 hb hk hR))) (bY (fU (bV rfl rfl rfl hw)) (n8 em)))
def tW(V:Nat->Rat)(c k:Nat):List Int:=pD (((gA (bf V c)).take k).map λi:Nat=>(i:Int))
theorem Ng{r s:Nat->Tr}{τ : En}:∀(xs:List Nat) (s0 s1:Sl),∃t0 t1,iU (gT 2 (bA (gN 0) (bA (gN 1) dz))) c7 (aj 0) (xs.map λx=>Tr.tup [r x,s x]) (s0::s1::τ)=.ok (xs.map r,t0::t1::τ)
 | [],s0,s1=>⟨s0,s1,rfl⟩
 |x::xs,s0,s1=>by
  obtain⟨t0,t1,e⟩:=Ng (r:=r) (s:=s) (τ := τ) xs (.sh (r x)) (.sh (s x))
  refine⟨t0,t1,?_⟩
  rw[List.map_cons]
  unfold iU
  simp[e,qu]
theorem W9(zs:List Nat):tB (zs.map iT)=some (zs.map λi:Nat=>(i:Int)):=V6 zs
theorem ag2(hb:Bk c [bf A c,bf B c])(hk:k<=c){R:Tr}(hR:vD [R,.int 2]=.ok (.bl true,false))(hw:xr [aO A B c,R]=.ok (bH (bf V c),true))(hV:∀i,i<c->Bq M (V i))(hM:1+M*c<=8900):xG [aO A B c,R,.int k]=.ok (.lst ((tW V c k).map Tr.int),true):=by
 obtain⟨_,_,h3,h4,_⟩:=id hb
 have e:=W8 hb hk hR hw hV hM
 have ei:cW (aG mH (ak (aj 0) (ak (aj 1) (ak (aj 2) au)))) [.sh (aO A B c),.sh R,.sh (.int k)]=.ok (((gA (bf V c)).take k).map (Ah V),[.sh (aO A B c),.sh R,.sh (.int k)]):=bk (bV rfl rfl rfl e) rfl
 obtain⟨t0,t1,ec⟩:=Ng (r:=iT) (s:=λi=>qT (V i)) (τ:=[]) ((gA (bf V c)).take k) .un .un
 have ll:((gA (bf V c)).take k).length<64:=by rw[List.length_take]; omega
 have em:dR [none,none] (cW (aG mH (ak (aj 0) (ak (aj 1) (ak (aj 2) au))))) (gT 2 (bA (gN 0) (bA (gN 1) dz))) c7 (aj 0) [.sh (aO A B c),.sh R,.sh (.int k)]=.ok (.v (.lst (((gA (bf V c)).take k).map iT)) true,[.sh (aO A B c),.sh R,.sh (.int k)]):=by
  rw[Fw,ei]
  simp only[Fv]
  rw[if_pos (by rw[List.length_map]; omega)]
  show bd (dO (iU _ _ _ (((gA (bf V c)).take k).map λx=>Tr.tup [iT x,qT (V x)]) [.un,.un])) _ _=_
  rw[ec]
  rfl
 have eg:mG (.lst (((gA (bf V c)).take k).map iT))=.ok (.lst ((tW V c k).map Tr.int),true):=by
  unfold mG
  simp only[W9]
  rw[if_pos (by rw[List.length_map]; exact ll)]
  rfl
 exact lJ (n8 (j9 (z:=(.lst ((tW V c k).map Tr.int),true)) (bT em rfl) rfl eg))
end
abbrev bN:=Rat × Rat × List Int
def iL(zs:List Int):Tr:=.lst (zs.map Tr.int)
def aX(x:bN):Tr:=.tup [qT x.1,qT x.2.1,iL x.2.2]
def jP(ss:List bN)(s e:Rat)(zs:List Int):List bN:=match ss.getLast? with
 |some x=>if x.2.2=zs then ss.dropLast++[(x.1,e,zs)]else ss++[(s,e,zs)]
 |none=>[(s,e,zs)]
def hf:Rat:=⟨1,2,by decide,by decide⟩
theorem ag3:hf+hf=1:=by
 have:hf=((1:Int):Rat) / ((2:Int):Rat):=rd hf
 rw[this]
 grind
theorem Ai:hf=1 / 2:=by have:=ag3; grind
def mid(A B:Nat->Rat)(c k:Nat)(s e:Rat):List Int:=tW (mV A B (hf*(s+e)) (1-hf*(s+e))) c k
def qR(A B:Nat->Rat)(c k:Nat)(ps:List (Rat × Rat)):List bN:=ps.foldl (λss p=>jP ss p.1 p.2 (mid A B c k p.1 p.2)) []
theorem ag4{xs:List Tr}{T:Tr}(h:xs[xs.length-1]?=some T):aC (.lst xs) (.int (-1))=.ok (T,false):=by
 obtain⟨hi,e⟩:=List.getElem?_eq_some_iff.mp h
 have z:gh xs.length (-1)=some (xs.length-1):=by
  unfold gh
  rw[if_neg (by omega),if_pos (by omega)]
  congr 1
  omega
 show(match dI xs (-1)with
  |some t=>Rs.ok (t,false)
  |none=>.bad)=_
 unfold dI
 rw[z]
 dsimp only[Option.bind]
 rw[h]
theorem Xa:∀xs ys:List Int,jo (xs.map Tr.int) (ys.map Tr.int)=decide (xs=ys)
 | [],[]=>rfl
 | [],y::ys=>by simp[jo]
 |x::xs,[]=>by simp[jo]
 |x::xs,y::ys=>by
  simp only[List.map_cons,jo,pO,Xa xs ys]
  rw[Bool.eq_iff_iff]
  simp
theorem Nh:∀ys:List Int,deps (ys.map Tr.int)=0
 | []=>rfl
 |y::ys=>by rw[List.map_cons,nU,Nh ys,jN]; rfl
theorem ag5(xs ys:List Int):dX (iL xs) (iL ys)=.ok (.bl (decide (xs=ys)),false):=by
 have d:∀xs,dep (iL xs)=1:=λxs=>by unfold iL; rw[Fx,Nh]
 have e:eqT (iL xs) (iL ys)=decide (xs=ys):=by unfold iL; simp only[eqT]; exact Xa xs ys
 unfold dX
 rw[e,d,d]
 simp
abbrev sW:EF:=aG pH (ak (eC (.tup [(.int 1),(.int 2)])) (ak (aG pG (ak (aj 4) (ak (aj 5) au))) au))
abbrev Xb:EF:=aG xG (ak (aj 0) (ak (gk (ak (eC (.str "shares")) (ak (iB (ak (aj 6) (ak (aG qJ (ak (eC (.tup [(.int 1),(.int 1)])) (ak (aj 6) au))) au))) au))) (ak (aj 1) au)))
abbrev sC:BF:=iR (cZ (aj 3)) (cg (aq dX (aq aC (aq aC (aj 3) (wM nu (eC (.int 1)))) (eC (.int 2))) (aj 7)))
abbrev sI:SF:=cA sC (aV (aq aC (uP 3 qP) (eC (.int 0))) (gN 4)) cB
abbrev Xc:SF:=je (lZ 3 jf (ak (gk (ak (aj 4) (ak (aj 5) (ak (aj 7) au)))) au))
abbrev sB:SF:=aJ (aV sW (gN 6)) (aJ (aV Xb (gN 7)) (aJ sI Xc))
section
variable {A B:Nat->Rat}{c k:Nat}{s e:Rat}
theorem Ni:Bq 2 hf:=⟨by decide,by decide⟩
theorem Xd(hs:Bq 244 s)(he:Bq 244 e):Bq 493 (hf*(s+e))/\Bq 493 (1-hf*(s+e)):=by
 have m:=Ni.mul (hs.add he)
 exact⟨m.up (by omega),(lK.sub m).up (by omega)⟩
theorem Aj(h:B40 A B c){w v:Rat}(hw:Bq 493 w)(hv:Bq 493 v):∀i,i<c->Bq 1067 (mV A B w v i):=λi hi=>(hw.mul (h i hi).1).add (hv.mul (h i hi).2)
theorem ag6(hb:Bk c [bf A c,bf B c])(h:B40 A B c)(hc:c<=8)(hk:k<=c){w v:Rat}(hw:Bq 493 w)(hv:Bq 493 v)(w0:0<=w)(v0:0<=v):xG [aO A B c,jz w v,.int k]=.ok (iL (tW (mV A B w v) c k),true) :=
 ag2 hb hk (WX hw hv w0 v0) (WY h (by omega) hw hv (by omega)) (Aj h hw hv) (by have:1067*c<=1067*8:=Nat.mul_le_mul_left _ hc; omega)
theorem ag7(hb:Bk c [bf A c,bf B c])(h:B40 A B c)(hc:c<=8)(hk:k<=c)(hs:Bq 244 s)(he:Bq 244 e)(s0:0<=s)(s1:s<=1)(e0:0<=e)(e1:e<=1){ss:List bN}(hl:ss.length<=1000)(x2 x6 x7:Sl):∃t4 t6 t7,sB [.sh (aO A B c),.sh (.int k),x2,.ow (ss.map aX),.sh (qT s),.sh (qT e),x6,x7]=.ok (.nx,[.sh (aO A B c),.sh (.int k),x2,.ow ((jP ss s e (mid A B c k s e)).map aX),t4,.sh (qT e),t6,t7]):=by
 obtain⟨m1,m2⟩:=Xd hs he
 have w0:0<=hf*(s+e):=by rw[Ai]; grind
 have v0:0<=1-hf*(s+e):=by rw[Ai]; grind
 have f1:=fsum hs he (by omega)
 have f2:=M7 Ni (hs.add he) (by omega)
 have f3:=M6 lK (Ni.mul (hs.add he)) (by omega)
 have f4:=ag6 hb h hc hk m1 m2 w0 v0
 unfold mid
 generalize hf*(s+e)=w at *
 generalize tW (mV A B w (1-w)) c k=zs at *
 have a1:aV sW (gN 6) [.sh (aO A B c),.sh (.int k),x2,.ow (ss.map aX),.sh (qT s),.sh (qT e),x6,x7]=.ok (.nx,[.sh (aO A B c),.sh (.int k),x2,.ow (ss.map aX),.sh (qT s),.sh (qT e),.sh (qT w),x7]):=fU (b:=false) (ρ1:=[.sh (aO A B c),.sh (.int k),x2,.ow (ss.map aX),.sh (qT s),.sh (qT e),x6,x7]) (bV (z:=(qT w,false)) (bT rfl (bT (bV rfl rfl rfl f1) rfl)) rfl rfl f2)
 have a2:aV Xb (gN 7) [.sh (aO A B c),.sh (.int k),x2,.ow (ss.map aX),.sh (qT s),.sh (qT e),.sh (qT w),x7]=.ok (.nx,[.sh (aO A B c),.sh (.int k),x2,.ow (ss.map aX),.sh (qT s),.sh (qT e),.sh (qT w),.sh (iL zs)]):=fU (b:=true) (ρ1:=[.sh (aO A B c),.sh (.int k),x2,.ow (ss.map aX),.sh (qT s),.sh (qT e),.sh (qT w),x7]) (bV (z:=(iL zs,true)) (bT rfl (bT (FJ (bT rfl (bT (Wj (bT rfl (bT (bV rfl rfl rfl f3) rfl)) rfl (by show 2<=1000; omega)) rfl)) rfl (by show 2<=1000; omega)) (bT rfl rfl))) rfl rfl f4)
 have a4:∀(ys:List bN) (t:Rat),ys.length<=1000->Xc [.sh (aO A B c),.sh (.int k),x2,.ow (ys.map aX),.sh (qT t),.sh (qT e),.sh (qT w),.sh (iL zs)]=.ok (.nx,[.sh (aO A B c),.sh (.int k),x2,.ow ((ys++[(t,e,zs)]).map aX),.sh (qT t),.sh (qT e),.sh (qT w),.sh (iL zs)]):=λys t hy=>by
  rw[List.map_append]
  have tp:gk (ak (aj 4) (ak (aj 5) (ak (aj 7) au))) [.sh (aO A B c),.sh (.int k),x2,.ow (ys.map aX),.sh (qT t),.sh (qT e),.sh (qT w),.sh (iL zs)]=.ok (.v (aX (t,e,zs)) false,[.sh (aO A B c),.sh (.int k),x2,.ow (ys.map aX),.sh (qT t),.sh (qT e),.sh (qT w),.sh (iL zs)]):=rfl
  exact tQ (Wl (as:=ys.map aX) (ts:=ys.map aX) tp rfl rfl (by rw[List.length_map]; omega))
 unfold jP
 match hg:ss.getLast? with
 |none =>
  have e:ss=[]:=List.getLast?_eq_none_iff.mp hg
  subst e
  have c1:sC [.sh (aO A B c),.sh (.int k),x2,.ow (([]:List bN).map aX),.sh (qT s),.sh (qT e),.sh (qT w),.sh (iL zs)]=.ok (false,[.sh (aO A B c),.sh (.int k),x2,.ow (([]:List bN).map aX),.sh (qT s),.sh (qT e),.sh (qT w),.sh (iL zs)]):=rfl
  exact⟨.sh (qT s),.sh (qT w),.sh (iL zs),bY a1 (bY a2 (bY (lH c1 rfl) (a4 [] s (by show 0<=1000; omega))))⟩
 |some x =>
  have ne:ss≠[]:=λz=>by rw[z]at hg; cases hg
  have em:(ss.map aX).isEmpty=false:=by rw[List.isEmpty_map]; cases ss with|nil=>exact(ne rfl).elim|cons _ _=>rfl
  have gl:(ss.map aX)[(ss.map aX).length-1]?=some (aX x):=by
   rw[List.length_map,List.getElem?_map,<-List.getLast?_eq_getElem?,hg]
   rfl
  have i1:=ag4 gl
  have i2:aC (aX x) (.int 2)=.ok (iL x.2.2,false):=rfl
  have c1:sC [.sh (aO A B c),.sh (.int k),x2,.ow (ss.map aX),.sh (qT s),.sh (qT e),.sh (qT w),.sh (iL zs)]=.ok (decide (x.2.2=zs),[.sh (aO A B c),.sh (.int k),x2,.ow (ss.map aX),.sh (qT s),.sh (qT e),.sh (qT w),.sh (iL zs)]):=by
   refine vX (jO (T:=.lst (ss.map aX)) rfl rfl (by show Rs.ok (!(ss.map aX).isEmpty)=_; rw[em]; rfl)) ?_
   exact jy (bU (z:=(.bl (decide (x.2.2=zs)),false)) (bU (z:=(iL x.2.2,false)) (bU (z:=(aX x,false)) rfl rfl rfl rfl i1) rfl rfl rfl i2) rfl rfl rfl (ag5 _ _)) rfl
  dsimp only
  by_cases z:x.2.2=zs
  ·rw[if_pos z]
   rw[decide_eq_true z]at c1
   have pp:uP 3 qP [.sh (aO A B c),.sh (.int k),x2,.ow (ss.map aX),.sh (qT s),.sh (qT e),.sh (qT w),.sh (iL zs)]=.ok (.v (aX x) false,[.sh (aO A B c),.sh (.int k),x2,.ow (ss.dropLast.map aX),.sh (qT s),.sh (qT e),.sh (qT w),.sh (iL zs)]):=by
    refine bk rfl (bk (a:=((ss.map aX).dropLast,aX x)) ?_ ?_)
    ·show(match(ss.map aX)[(ss.map aX).length-1]? with|some T=>Rs.ok ((ss.map aX).dropLast,T)|none=>.bad)=_
     rw[gl]
    ·rw[List.map_dropLast]
     rfl
   have a3:aV (aq aC (uP 3 qP) (eC (.int 0))) (gN 4) [.sh (aO A B c),.sh (.int k),x2,.ow (ss.map aX),.sh (qT s),.sh (qT e),.sh (qT w),.sh (iL zs)]=.ok (.nx,[.sh (aO A B c),.sh (.int k),x2,.ow (ss.dropLast.map aX),.sh (qT x.1),.sh (qT e),.sh (qT w),.sh (iL zs)]):=fU (b:=false) (ρ1:=[.sh (aO A B c),.sh (.int k),x2,.ow (ss.dropLast.map aX),.sh (qT s),.sh (qT e),.sh (qT w),.sh (iL zs)]) (bU (z:=(qT x.1,false)) pp rfl rfl rfl rfl)
   exact⟨.sh (qT x.1),.sh (qT w),.sh (iL zs),bY a1 (bY a2 (bY (MK c1 a3) (a4 ss.dropLast x.1 (by rw[List.length_dropLast]; omega))))⟩
  ·rw[if_neg z]
   rw[decide_eq_false z]at c1
   exact⟨.sh (qT s),.sh (qT w),.sh (iL zs),bY a1 (bY a2 (bY (lH c1 rfl) (a4 ss s hl)))⟩
theorem Xe(ss:List bN)(s e:Rat)(zs:List Int):(jP ss s e zs).length<=ss.length+1:=by
 unfold jP
 split
 ·split
  ·rw[List.length_append,List.length_dropLast,List.length_singleton]; omega
  ·rw[List.length_append,List.length_singleton]; omega
 ·rw[List.length_singleton]; omega
def Eg(s:Rat):Prop:=Bq 244 s/\0<=s/\s<=1
theorem Xf(hb:Bk c [bf A c,bf B c])(h:B40 A B c)(hc:c<=8)(hk:k<=c)(x2:Sl):∀(ps:List (Rat × Rat)) (ss:List bN) (x4 x5 x6 x7:Sl),(∀p∈ps,Eg p.1/\Eg p.2)->ss.length+ps.length<=1000->∃t4 t5 t6 t7,fM (gT 2 (bA (gN 4) (bA (gN 5) dz))) sB (ps.map λp=>Tr.tup [qT p.1,qT p.2]) [.sh (aO A B c),.sh (.int k),x2,.ow (ss.map aX),x4,x5,x6,x7]=.ok (.nx,[.sh (aO A B c),.sh (.int k),x2,.ow ((ps.foldl (λss p=>jP ss p.1 p.2 (mid A B c k p.1 p.2)) ss).map aX),t4,t5,t6,t7])
 | [],ss,x4,x5,x6,x7,_,_=>⟨x4,x5,x6,x7,rfl⟩
 |p::ps,ss,x4,x5,x6,x7,hp,hl=>by
  rw[List.length_cons]at hl
  obtain⟨⟨p1,p2,p3⟩,q1,q2,q3⟩:=hp p (by simp)
  obtain⟨t4,t6,t7,e⟩:=ag7 hb h hc hk p1 q1 p2 p3 q2 q3 (ss:=ss) (by omega) x2 x6 x7
  have:=Xe ss p.1 p.2 (mid A B c k p.1 p.2)
  obtain⟨u4,u5,u6,u7,e'⟩:=Xf hb h hc hk x2 ps (jP ss p.1 p.2 (mid A B c k p.1 p.2)) t4 (.sh (qT p.2)) t6 t7 (λq m=>hp q (by simp[m])) (by omega)
  exact⟨u4,u5,u6,u7,pQ rfl e e'⟩
end
end BH
end
section
namespace L2
open PySem
end L2
namespace BH
open PySem L2
section
variable {A B:Nat->Rat}{c k:Nat}
def cD(es:List Rat):List Rat:=0::(es++[1])
theorem ag8(es:List Rat):bH ((cD es).map qp)=.lst (qT 0::((es.map qp).map fT++[qT 1])):=by
 unfold bH cD
 simp[qT]
theorem eg0:Eg 0:=⟨Nf.up (by omega),by decide,by decide⟩
theorem eg1:Eg 1:=⟨lK.up (by omega),by decide,by decide⟩
theorem Gb{es:List Rat}(h:∀q∈es,Eg q):∀q∈cD es,Eg q:=λq m=>by
 unfold cD at m
 rcases List.mem_cons.mp m with rfl|m
 ·exact eg0
 ·rcases List.mem_append.mp m with m|m
  ·exact h q m
  ·rw[List.mem_singleton]at m; subst m; exact eg1
theorem Gd(h:B40 A B c){es:List Rat}(he:∀q,q∈es↔∃i,i<c/\∃j,j<i/\Mt A B i j q):∀q∈es,Eg q:=λq m=>by
 obtain⟨i,hi,j,hj,e,q0,q1⟩:=(he q).mp m
 exact⟨M9 h hi (by omega) e,Rat.le_of_lt q0,Rat.le_of_lt q1⟩
theorem Xg(hb:Bk c [bf A c,bf B c])(h:B40 A B c)(hc:c<=8)(hk:k<=c){es:List Rat}(em:tL [aO A B c]=.ok (bH (es.map qp),true))(hg:∀q∈es,Eg q)(hl:es.length<=28):vM [aO A B c,.int k]=.ok (.lst ((qR A B c k ((cD es).zip ((cD es).drop 1))).map aX),true):=by
 have le:(cD es).length=es.length+2:=by unfold cD; simp
 have ll:((cD es).zip ((cD es).drop 1)).length<=100:=by rw[List.length_zip]; omega
 obtain⟨t4,t5,t6,t7,e⟩:=Xf hb h hc hk (.sh (bH ((cD es).map qp))) ((cD es).zip ((cD es).drop 1)) [] .un .un .un .un (λp m=>⟨Gb hg _ (List.of_mem_zip m).1,Gb hg _ (List.mem_of_mem_drop (List.of_mem_zip m).2)⟩) (by simp only[List.length_nil]; omega)
 have eA:aq bW (aq bW (iB (ak (eC (.tup [(.int 0),(.int 1)])) au)) (aG tL (ak (aj 0) au))) (iB (ak (eC (.tup [(.int 1),(.int 1)])) au)) [.sh (aO A B c),.sh (.int k),.un,.un,.un,.un,.un,.un]=.ok (.v (bH ((cD es).map qp)) true,[.sh (aO A B c),.sh (.int k),.un,.un,.un,.un,.un,.un]):=by
  have g1:bW (.lst [qT 0]) (bH (es.map qp))=.ok (.lst (qT 0::(es.map qp).map fT),true):=WT (A:=[qT 0]) (B:=(es.map qp).map fT) (by simp; omega)
  have g2:bW (.lst (qT 0::(es.map qp).map fT)) (.lst [qT 1])=.ok (bH ((cD es).map qp),true):=by
   rw[ag8]
   exact WT (A:=qT 0::(es.map qp).map fT) (B:=[qT 1]) (by simp; omega)
  exact bU (z:=(bH ((cD es).map qp),true)) (bU (z:=(.lst (qT 0::(es.map qp).map fT),true)) (T:=.lst [qT 0]) (U:=bH (es.map qp)) rfl (bV rfl rfl rfl em) rfl rfl g1) (U:=.lst [qT 1]) rfl rfl rfl g2
 have eZ:zp (ak (aj 2) (ak (uJ (aj 2) (uH (eC (.int 1))) uG) au)) [.sh (aO A B c),.sh (.int k),.sh (bH ((cD es).map qp)),.ow [],.un,.un,.un,.un]=.ok (((cD es).zip ((cD es).drop 1)).map λp=>Tr.tup [qT p.1,qT p.2],[.sh (aO A B c),.sh (.int k),.sh (bH ((cD es).map qp)),.ow [],.un,.un,.un,.un]):=by
  have s1:uJ (aj 2) (uH (eC (.int 1))) uG [.sh (aO A B c),.sh (.int k),.sh (bH ((cD es).map qp)),.ow [],.un,.un,.un,.un]=.ok (.v (.lst ((((cD es).map qp).map fT).drop 1)) true,[.sh (aO A B c),.sh (.int k),.sh (bH ((cD es).map qp)),.ow [],.un,.un,.un,.un]):=bk rfl (bk rfl (bk rfl (bk rfl (bk (agW (((cD es).map qp).map fT) 1) rfl))))
  have z1:sV (((cD es).map qp).map fT) ((((cD es).map qp).map fT).drop 1)=((cD es).zip ((cD es).drop 1)).map λp=>Tr.tup [qT p.1,qT p.2]:=by
   rw[<-List.map_drop,<-List.map_drop,agu,List.zip_map,List.map_map]
   rfl
  refine bk (bT rfl (bT s1 rfl)) ?_
  exact congrArg (λz=>Rs.ok (z,_)) z1
 have gn:fC (.int 2) (.int 2)=.ok (.bl false,false):=xU (by rw[jN]; omega)
 have tw:cg (aq fC (bK (g1 bM) (ak (aj 0) au)) (eC (.int 2))) [.sh (aO A B c),.sh (.int k),.un,.un,.un,.un,.un,.un]=.ok (false,[.sh (aO A B c),.sh (.int k),.un,.un,.un,.un,.un,.un]):=jy (bU (z:=(.bl false,false)) (j9 (z:=(.int 2,false)) rfl rfl rfl) rfl rfl rfl gn) rfl
 exact lJ (bY (tQ (bV rfl rfl rfl (V2 hb.nY))) (bY (tQ (bV rfl rfl rfl (W4 hk))) (bY (lH tw rfl) (bY (fU eA) (bY rfl (bY (xV (pP eZ e)) rfl))))))
end
section
variable {A B V:Nat->Rat}{c k i j:Nat}{Z Z':List Nat}
def Bt(V:Nat->Rat)(i j:Nat):Prop:=V j<V i\/(V j=V i/\i<j)
theorem Bt.ag9(h:Bt V i j):¬Bt V j i:=by unfold Bt at *; grind
structure Best(V:Nat->Rat)(c k:Nat)(Z:List Nat):Prop where
 nd:Z.Nodup
 len:Z.length=k
 lt:∀i∈Z,i<c
 bt:∀i∈Z,∀j,j<c->j∉Z->Bt V i j
theorem aha{T G:List Nat}(hT:T.Nodup)(hG:G.Nodup)(hl:G.length<=T.length){t:Nat}(tG:t∈G)(tT:t∉T):∃x∈T,x∉G:=by
 refine Classical.byContradiction λn=>?_
 have s:T ⊆ G.erase t:=λx mx=>(List.Nodup.mem_erase_iff hG).mpr ⟨λq=>tT (q▸mx),Classical.byContradiction λq=>n ⟨x,mx,q⟩⟩
 have:=hT.length_le_of_subset s
 rw[List.length_erase_of_mem tG]at this
 have:=List.length_pos_of_mem tG
 omega
theorem Best.sub(a:Best V c k Z)(b:Best V c k Z'):∀i∈Z,i∈Z':=λi m=>Classical.byContradiction λn=>by
 obtain⟨j,mj,nj⟩:=aha b.nd a.nd (by rw[a.len,b.len]; exact Nat.le_refl _) m n
 exact(a.bt i m j (b.lt j mj) nj).ag9 (b.bt j mj i (a.lt i m) n)
theorem Best.uniq(a:Best V c k Z)(b:Best V c k Z'):Z.Perm Z':=(List.perm_ext_iff_of_nodup a.nd b.nd).mpr λi=>⟨a.sub b i,b.sub a i⟩
theorem Best.perm(a:Best V c k Z)(p:Z.Perm Z'):Best V c k Z':=⟨p.nodup_iff.mp a.nd,by rw[<-p.length_eq]; exact a.len,λi m=>a.lt i (p.mem_iff.mpr m),λi m j hj n=>a.bt i (p.mem_iff.mpr m) j hj λq=>n (p.mem_iff.mp q)⟩
def iW(Z:List Nat):List Int:=pD (Z.map λi:Nat=>(i:Int))
theorem Xh(p:Z.Perm Z'):iW Z=iW Z':=Tj ((tu _).1.trans (p.map _)) (tu _).2
theorem ahb(h:iW Z=iW Z'):Z.Perm Z':=by
 have p:(Z.map λi:Nat=>(i:Int)).Perm (Z'.map λi:Nat=>(i:Int)):=(tu _).1.symm.trans ((show pD _=pD _ from h)▸(tu _).1)
 have:=p.map Int.toNat
 rw[List.map_map,List.map_map]at this
 have e:(Int.toNat ∘ λi:Nat=>(i:Int))=id:=by funext i; exact Int.toNat_natCast i
 rw[e,List.map_id,List.map_id]at this
 exact this
theorem ahc(Z:List Nat):∃Y:List Nat,Y.Perm Z/\iW Z=Y.map λi:Nat=>(i:Int):=by
 have p:(iW Z).Perm (Z.map λi:Nat=>(i:Int)):=(tu _).1
 refine⟨(iW Z).map Int.toNat,?_,?_⟩
 ·have:=p.map Int.toNat
  rw[List.map_map]at this
  have e:(Int.toNat ∘ λi:Nat=>(i:Int))=id:=by funext i; exact Int.toNat_natCast i
  rwa[e,List.map_id]at this
 ·rw[List.map_map]
  conv=>lhs; rw[<-List.map_id (iW Z)]
  refine List.map_congr_left λx m=>?_
  obtain⟨i,_,rfl⟩:=List.mem_map.mp (p.mem_iff.mp m)
  exact(congrArg _ (Int.toNat_natCast i)).symm
theorem Xi(hi:i<c):(bf V c).getD i (0,1)=qp (V i):=by unfold bf; simp[hi]
theorem ahd(hi:i<c)(hj:j<c)(h:xT (bf V c) i j):Bt V i j:=by
 unfold xT at h
 rw[Xi hi,Xi hj]at h
 have l:=FW (V j) (V i)
 unfold jV at l
 rcases h with h|⟨h,q⟩
 ·rw[decide_eq_true h]at l
  exact .inl (of_decide_eq_true l.symm)
 ·have l':=FW (V i) (V j)
  unfold jV at l'
  rw[decide_eq_false (by omega)]at l l'
  have:=of_decide_eq_false l.symm
  have:=of_decide_eq_false l'.symm
  exact .inr ⟨by grind,q⟩
theorem Xj{ys:List Nat}(fl:Fall (bf V c) ys)(hk:k<=c):Best V c k (ys.take k):=by
 have p:=fl.1
 rw[xY]at p
 have nd:ys.Nodup:=p.nodup_iff.mpr List.nodup_range
 have lt:∀i∈ys,i<c:=λi m=>List.mem_range.mp (p.mem_iff.mp m)
 have ln:ys.length=c:=by have:=p.length_eq; rwa[List.length_range]at this
 refine⟨nd.sublist (List.take_sublist ..),by rw[List.length_take]; omega,λi m=>lt i (List.mem_of_mem_take m),λi m j hj n=>?_⟩
 have hi:=lt i (List.mem_of_mem_take m)
 have mj:j∈ys:=p.mem_iff.mpr (List.mem_range.mpr hj)
 rw[<-List.take_append_drop k ys]at mj
 have md:j∈ys.drop k:=(List.mem_append.mp mj).resolve_left n
 have pw:=fl.2
 rw[<-List.take_append_drop k ys,List.pairwise_append]at pw
 exact ahd hi hj (pw.2.2 i m j md)
def vw(A B:Nat->Rat)(w:Rat):Nat->Rat:=mV A B w (1-w)
theorem qU(w:Rat):vw A B w i-vw A B w j=(B i-B j)+w*((A i-A j)-(B i-B j)):=by unfold vw mV; grind
theorem Xk{κ x y:Rat}(hx:0<x)(hy:0<y)(h:0 < κ*x):0 < κ*y:=by
 refine Rat.mul_pos (Classical.byContradiction λn=>?_) hy
 have:=Rat.mul_nonneg (show 0 <= -κ by grind) (Rat.le_of_lt hx)
 grind
def Ak(A B:Nat->Rat)(c:Nat)(s e:Rat):Prop:=∀i,i<c->∀j,j<i->∀q,Mt A B i j q->¬(s<q/\q<e)
theorem ahe{s e:Rat}(h:Ak A B c s e)(hs:0<=s)(he:e<=1)(hi:i<c)(hj:j<c)(ne:i≠j)(kn:(A i-A j)-(B i-B j)≠0):∃r,B i-B j = -(r*((A i-A j)-(B i-B j)))/\¬(s<r/\r<e):=by
 have key:∀{i j:Nat},i<c->j<i->(A i-A j)-(B i-B j)≠0->∃r,B i-B j = -(r*((A i-A j)-(B i-B j)))/\¬(s<r/\r<e):=λ{i j} hi hj kn=>by
  have t:A i-A j+(B j-B i)=(A i-A j)-(B i-B j):=by grind
  refine⟨(B j-B i) / (A i-A j+(B j-B i)),?_,λq=>?_⟩
  ·rw[<-t,Rat.div_mul_cancel (by rw[t]; exact kn)]
   grind
  ·refine h i hi j hj _ ⟨?_,by grind,by grind⟩ q
   unfold kh
   rw[if_neg (by rw[t]; exact kn)]
 rcases Nat.lt_or_gt_of_ne ne with l|l
 ·obtain⟨r,e1,e2⟩:=key hj l (by grind)
  exact⟨r,by grind,e2⟩
 ·exact key hi l kn
theorem sgn{s e w w':Rat}(h:Ak A B c s e)(hs:0<=s)(he:e<=1)(hi:i<c)(hj:j<c)(w1:s<w)(w2:w<e)(v1:s<w')(v2:w'<e)(p:vw A B w j<vw A B w i):vw A B w' j<vw A B w' i:=by
 have d:=qU (A:=A) (B:=B) (i:=i) (j:=j) w
 have d':=qU (A:=A) (B:=B) (i:=i) (j:=j) w'
 have ne:i≠j:=λq=>by subst q; grind
 by_cases kn:(A i-A j)-(B i-B j)=0
 ·rw[kn]at d d'
  grind
 ·obtain⟨r,e1,e2⟩:=ahe h hs he hi hj ne kn
  generalize (A i-A j)-(B i-B j) = κ at *
  have q:0 < κ*(w-r):=by grind
  have:0 < κ*(w'-r):=by
   by_cases z:r<=s
   ·exact Xk (show 0<w-r by grind) (by grind) q
   ·have z:e<=r:=by grind
    have:=Xk (κ := -κ) (x:=r-w) (y:=r-w') (by grind) (by grind) (by grind)
    grind
  grind
theorem ahf{s e w w':Rat}(h:Ak A B c s e)(hs:0<=s)(he:e<=1)(w1:s<w)(w2:w<e)(v1:s<w')(v2:w'<e)(b:Best (vw A B w) c k Z):Best (vw A B w') c k Z:=by
 refine⟨b.nd,b.len,b.lt,λi m j hj n=>?_⟩
 have hi:=b.lt i m
 rcases b.bt i m j hj n with q|⟨q,l⟩
 ·exact .inl (sgn h hs he hi hj w1 w2 v1 v2 q)
 ·refine .inr ⟨?_,l⟩
  have a1:=λz=>sgn h hs he hi hj v1 v2 w1 w2 z
  have a2:=λz=>sgn h hs he hj hi v1 v2 w1 w2 z
  have:¬vw A B w' j<vw A B w' i:=λz=>by have:=a1 z; grind
  have:¬vw A B w' i<vw A B w' j:=λz=>by have:=a2 z; grind
  grind
theorem ahg{s m e:Rat}(sm:s<m)(me:m<e)(a:∀w,s<w->w<m->Best (vw A B w) c k Z)(b:∀w,m<w->w<e->Best (vw A B w) c k Z):Best (vw A B m) c k Z:=by
 obtain⟨t,t0,t1,t2⟩:∃t:Rat,0<t/\s<m-t/\m+t<e:=by
  by_cases z:m-s<=e-m
  ·exact⟨(m-s) / 2,by grind,by grind,by grind⟩
  ·exact⟨(e-m) / 2,by grind,by grind,by grind⟩
 have x:=a (m-t) t1 (by grind)
 have y:=b (m+t) (by grind) t2
 refine⟨x.nd,x.len,x.lt,λi mi j hj n=>?_⟩
 have p:=x.bt i mi j hj n
 have q:=y.bt i mi j hj n
 have d1:=qU (A:=A) (B:=B) (i:=i) (j:=j) (m-t)
 have d2:=qU (A:=A) (B:=B) (i:=i) (j:=j) (m+t)
 have d3:=qU (A:=A) (B:=B) (i:=i) (j:=j) m
 unfold Bt at *
 grind
theorem Xl{g κ s e:Rat}(se:s<e)(h:∀w,s<w->w<e->0<=g+w*κ):0<=g+s*κ := by
 refine Classical.byContradiction λn=>?_
 have m:=h ((s+e) / 2) (by grind) (by grind)
 have n':0 < -(g+s*κ):=by grind
 have k0:0<(e-s)*κ := by grind
 have q:=Rat.mul_pos n' k0
 have xy:0<2*(-(g+s*κ)+(e-s)*κ):=by grind
 have c1 : -(g+s*κ) / (2*(-(g+s*κ)+(e-s)*κ))*(2*(-(g+s*κ)+(e-s)*κ)) = -(g+s*κ):=Rat.div_mul_cancel (by grind)
 generalize hθ : -(g+s*κ) / (2*(-(g+s*κ)+(e-s)*κ)) = θ at c1
 have t0:0 < θ := Classical.byContradiction λz=>by
  have:=Rat.mul_nonneg (show 0 <= -θ by grind) (Rat.le_of_lt xy)
  grind
 have t1 : θ < 1:=by
  refine Classical.byContradiction λz=>?_
  have:=Rat.mul_le_mul_of_nonneg_right (show 1 <= θ by grind) (Rat.le_of_lt xy)
  grind
 have es:0<e-s:=by grind
 have p1:=Rat.mul_pos t0 es
 have p2:=Rat.mul_pos (show 0<1-θ by grind) es
 have w:=h (s+θ*(e-s)) (by grind) (by grind)
 have q2:=Rat.mul_pos t0 n'
 grind
end
def sX(ss:List bN)(x:bN):List bN:=jP ss x.1 x.2.1 x.2.2
def pR(l:List bN):List bN:=l.foldl sX []
section
variable {A B:Nat->Rat}{c k:Nat}
def seg(A B:Nat->Rat)(c k:Nat)(p:Rat × Rat):bN:=(p.1,p.2,mid A B c k p.1 p.2)
theorem Ge(ps:List (Rat × Rat)):qR A B c k ps=pR (ps.map (seg A B c k)):=by
 unfold pR
 rw[List.foldl_map]
 rfl
def Pp(A B:Nat->Rat)(c k:Nat)(x:bN):Prop:=x.1<x.2.1/\∃Z,x.2.2=iW Z/\∀w,x.1<w->w<x.2.1->Best (vw A B w) c k Z
def lM(A B:Nat->Rat)(c k:Nat):Rat->List bN->Rat->Prop
 |a,[],b=>a=b
 |a,x::r,b=>x.1=a/\Pp A B c k x/\lM A B c k x.2.1 r b
theorem Gf:∀(l m:List bN) (a b:Rat),lM A B c k a (l++m) b↔∃t,lM A B c k a l t/\lM A B c k t m b
 | [],m,a,b=>⟨λh=>⟨a,rfl,h⟩,λ⟨t,e,h⟩=>by subst e; exact h⟩
 |x::l,m,a,b=>by
  show(x.1=a/\Pp A B c k x/\lM A B c k x.2.1 (l++m) b)↔∃t,(x.1=a/\Pp A B c k x/\lM A B c k x.2.1 l t)/\lM A B c k t m b
  rw[Gf l m]
  exact⟨λ⟨p,q,t,r,s⟩=>⟨t,⟨p,q,r⟩,s⟩,λ⟨t,⟨p,q,r⟩,s⟩=>⟨p,q,t,r,s⟩⟩
theorem Xm:∀(l:List bN) (a b:Rat),lM A B c k a l b->∀x∈l,Pp A B c k x
 |y::l,a,b,h,x,m=>by
  rcases List.mem_cons.mp m with rfl|m
  ·exact h.2.1
  ·exact Xm l _ b h.2.2 x m
theorem ahh{s m e:Rat}{zs:List Int}(a:Pp A B c k (s,m,zs))(b:Pp A B c k (m,e,zs)):Pp A B c k (s,e,zs):=by
 obtain⟨l1,Z,e1,h1⟩:=a
 obtain⟨l2,Z',e2,h2⟩:=b
 dsimp only at *
 have p:Z'.Perm Z:=ahb (e2.symm.trans e1)
 have h2':=λw x y=>(h2 w x y).perm p
 refine⟨by dsimp only; grind,Z,e1,λw w1 w2=>?_⟩
 by_cases z:w<m
 ·exact h1 w w1 z
 ·by_cases z':w=m
  ·rw[z']; exact ahg l1 l2 h1 h2'
  ·exact h2' w (by grind) w2
theorem ahi{α : Type}{ss:List α}{x : α}(h:ss.getLast? = some x):ss=ss.dropLast++[x]:=by
 have ne:ss≠[]:=λz=>by rw[z]at h; cases h
 rw[List.getLast?_eq_some_getLast ne]at h
 rw[<-Option.some.inj h]
 exact(List.dropLast_concat_getLast ne).symm
theorem ahj{a b e:Rat}{ss:List bN}{zs:List Int}(h:lM A B c k a ss b)(p:Pp A B c k (b,e,zs)):lM A B c k a (jP ss b e zs) e:=by
 unfold jP
 match hg:ss.getLast? with
 |none =>
  have:=List.getLast?_eq_none_iff.mp hg
  subst this
  exact⟨show b=a from h.symm,p,rfl⟩
 |some x =>
  have d:=ahi hg
  dsimp only
  split
  ·rename_i z
   rw[d]at h
   obtain⟨t,h1,h2,h3,h4⟩:=(Gf _ _ _ _).mp h
   have h4:x.2.1=b:=h4
   refine(Gf _ _ _ _).mpr ⟨t,h1,h2,?_,rfl⟩
   obtain⟨x1,x2,x3⟩:=x
   dsimp only at *
   subst z h4
   exact ahh h3 p
  ·exact(Gf _ _ _ _).mpr ⟨b,h,rfl,p,rfl⟩
theorem Xn(h:B40 A B c)(c1:1<=c)(hc:c<=8){w:Rat}(hw:Bq 493 w)(hv:Bq 493 (1-w)):Fall (bf (vw A B w) c) (gA (bf (vw A B w) c)):=(W7 (Aj h hw hv) (by omega) (by have:1067*c<=1067*8:=Nat.mul_le_mul_left _ hc; omega) c1).1
theorem ahk(h:B40 A B c)(c1:1<=c)(hc:c<=8)(hk:k<=c){s e:Rat}(hs:Eg s)(he:Eg e)(se:s<e)(n:Ak A B c s e):Pp A B c k (seg A B c k (s,e)):=by
 obtain⟨m1,m2⟩:=Xd hs.1 he.1
 have b:=Xj (Xn h c1 hc m1 m2) hk
 refine⟨se,_,rfl,λw w1 w2=>ahf n hs.2.1 he.2.2 ?_ ?_ w1 w2 b⟩
 ·show s<_; rw[Ai]; grind
 ·show _<e; rw[Ai]; grind
def Nj:Rat->List Rat->Rat
 |a,[]=>a
 |_,b::r=>Nj b r
theorem Xo:∀(a:Rat) (l:List Rat) (b:Rat),Nj a (l++[b])=b
 |_,[],_=>rfl
 |_,x::l,b=>Xo x l b
theorem Xp(h:B40 A B c)(c1:1<=c)(hc:c<=8)(hk:k<=c){es:List Rat}(me:∀q,q∈es↔∃i,i<c/\∃j,j<i/\Mt A B i j q):∀(E:List Rat) (a:Rat) (ss:List bN),(a::E).Pairwise (· < ·)->(∀q∈es,q<=a\/q∈E)->(∀q∈a::E,Eg q)->lM A B c k 0 ss a->lM A B c k 0 (((a::E).zip E).foldl (λss p=>jP ss p.1 p.2 (mid A B c k p.1 p.2)) ss) (Nj a E)
 | [],a,ss,_,_,_,hc=>hc
 |b::E,a,ss,pw,hq,hg,ch=>by
  have pw':=List.pairwise_cons.mp pw
  have ab:=pw'.1 b (by simp)
  have n:Ak A B c a b:=λi hi j hj q m z=>by
   rcases hq q ((me q).mpr ⟨i,hi,j,hj,m⟩)with l|l
   ·grind
   ·rcases List.mem_cons.mp l with rfl|l
    ·grind
    ·have:=(List.pairwise_cons.mp pw'.2).1 q l
     grind
  have p:=ahk h c1 hc hk (hg a (by simp)) (hg b (by simp)) ab n
  exact Xp h c1 hc hk me E b _ pw'.2 (λq m=>by
   rcases hq q m with l|l
   ·exact .inl (by grind)
   ·rcases List.mem_cons.mp l with rfl|l
    ·exact .inl Rat.le_refl
    ·exact .inr l) (λq m=>hg q (by simp[List.mem_cons.mp m])) (ahj ch p)
theorem ahl(h:B40 A B c)(c1:1<=c)(hc:c<=8)(hk:k<=c){es:List Rat}(pw:es.Pairwise (· < ·))(me:∀q,q∈es↔∃i,i<c/\∃j,j<i/\Mt A B i j q):lM A B c k 0 (qR A B c k ((cD es).zip ((cD es).drop 1))) 1:=by
 have hg:=Gb (Gd h me)
 have Xq:∀q∈es,0<q/\q<1:=λq m=>by obtain⟨i,_,j,_,z⟩:=(me q).mp m; exact z.2
 have:=Xp h c1 hc hk me (es++[1]) 0 [] (by
  rw[List.pairwise_cons,List.pairwise_append]
  refine⟨λq m=>?_,pw,by simp,λa ma b mb=>?_⟩
  ·rcases List.mem_append.mp m with m|m
   ·exact(Xq q m).1
   ·rw[List.mem_singleton]at m; rw[m]; decide
  ·rw[List.mem_singleton]at mb; rw[mb]; exact(Xq a ma).2) (λq m=>.inr (List.mem_append_left _ m)) hg rfl
 rw[Xo]at this
 exact this
end
def dD(x:bN):bN:=(1-x.2.1,1-x.1,x.2.2)
def ou(x:bN)(ss:List bN):List bN:=match ss with
 |y::r=>if y.2.2=x.2.2 then(x.1,y.2.1,y.2.2)::r else x::y::r
 | []=>[x]
theorem ahm(x:bN):dD (dD x)=x:=by
 obtain⟨a,b,z⟩:=x
 show((1-(1-a):Rat),(1-(1-b):Rat),z)=(a,b,z)
 rw[show(1-(1-a):Rat)=a by grind,show(1-(1-b):Rat)=b by grind]
theorem Al(y z:bN)(r:List bN)(x:bN):sX (y::z::r) x=y::sX (z::r) x:=by
 unfold sX jP
 rw[List.getLast?_cons_cons]
 match h:(z::r).getLast? with
 |none=>rw[List.getLast?_eq_none_iff]at h; cases h
 |some w =>
  dsimp only
  split
  ·rfl
  ·rfl
theorem Gg(y x:bN):sX [y] x=if y.2.2=x.2.2 then [(y.1,x.2.1,x.2.2)]else [y,x]:=by
 unfold sX jP
 show(if y.2.2=x.2.2 then _ else _)=_
 rfl
theorem ahn(x y:bN):∀ss:List bN,sX (ou x ss) y=ou x (sX ss y)
 | []=>by
  show sX [x] y=ou x [y]
  rw[Gg]
  unfold ou
  dsimp only
  by_cases z:x.2.2=y.2.2
  ·rw[if_pos z,if_pos z.symm]
  ·rw[if_neg z,if_neg (Ne.symm z)]
 | [z]=>by
  rw[Gg]
  unfold ou
  dsimp only
  by_cases p:z.2.2=x.2.2
  ·rw[if_pos p,Gg]
   dsimp only
   by_cases q:z.2.2=y.2.2
   ·rw[if_pos q,if_pos q]
    dsimp only
    rw[if_pos (q.symm.trans p)]
   ·rw[if_neg q,if_neg q]
    dsimp only
    rw[if_pos p]
  ·rw[if_neg p,Al,Gg]
   by_cases q:z.2.2=y.2.2
   ·rw[if_pos q]
    dsimp only
    rw[if_neg λe=>p (q.trans e)]
   ·rw[if_neg q]
    dsimp only
    rw[if_neg p]
 |z::u::r=>by
  rw[Al]
  unfold ou
  dsimp only
  by_cases p:z.2.2=x.2.2
  ·rw[if_pos p,if_pos p,Al]
  ·rw[if_neg p,if_neg p,Al,Al]
theorem aho(l:List bN)(x:bN):pR (l++[x])=sX (pR l) x:=by unfold pR; rw[List.foldl_append]; rfl
theorem fold_cons(x:bN):∀(l ss:List bN),l.foldl sX (ou x ss)=ou x (l.foldl sX ss)
 | [],_=>rfl
 |y::l,ss=>by rw[List.foldl_cons,List.foldl_cons,ahn,fold_cons x l]
theorem ahp(x:bN)(l:List bN):pR (x::l)=ou x (pR l):=by
 unfold pR
 rw[List.foldl_cons]
 exact fold_cons x l []
theorem ahq(x:bN):∀ss:List bN,sX (ss.map dD).reverse (dD x)=((ou x ss).map dD).reverse
 | []=>rfl
 |y::r=>by
  rw[List.map_cons,List.reverse_cons]
  unfold sX jP
  rw[List.getLast?_concat]
  dsimp only
  rw[List.dropLast_concat]
  unfold ou
  dsimp only
  show(if y.2.2=x.2.2 then _ else _)=_
  by_cases z:y.2.2=x.2.2
  ·rw[if_pos z,if_pos z,List.map_cons,List.reverse_cons]
   show(r.map dD).reverse++[((1-y.2.1:Rat),(1-x.1:Rat),x.2.2)]=_++[((1-y.2.1:Rat),(1-x.1:Rat),y.2.2)]
   rw[z]
  ·rw[if_neg z,if_neg z,List.map_cons,List.map_cons,List.reverse_cons,List.reverse_cons]
theorem Xr:∀l:List bN,pR (l.map dD).reverse=((pR l).map dD).reverse
 | []=>rfl
 |x::l=>by rw[List.map_cons,List.reverse_cons,aho,Xr l,ahq,ahp]
section
variable {A B:Nat->Rat}{c k:Nat}
theorem ahr(w:Rat):vw B A (1-w)=vw A B w:=by
 funext i
 unfold vw mV
 grind
theorem ahs(s e:Rat):seg B A c k (1-e,1-s)=dD (seg A B c k (s,e)):=by
 have m:mid B A c k (1-e) (1-s)=mid A B c k s e:=by
  show tW (vw B A (hf*((1-e)+(1-s)))) c k=tW (vw A B (hf*(s+e))) c k
  rw[show hf*((1-e)+(1-s))=1-hf*(s+e) by rw[Ai]; grind,ahr]
 show((1-e:Rat),(1-s:Rat),mid B A c k (1-e) (1-s))=(1-e,1-s,mid A B c k s e)
 rw[m]
theorem aht(i j:Nat)(q:Rat)(h:kh A B i j=some q):kh B A i j=some (1-q):=by
 unfold kh at *
 split at h
 ·cases h
 ·rename_i n
  rw[if_neg (by grind)]
  have e:=Option.some.inj h
  congr 1
  rw[<-e]
  have t:B i-B j+(A j-A i) = -(A i-A j+(B j-B i)):=by grind
  have u:A j-A i = -((A i-A j+(B j-B i))-(B j-B i)):=by grind
  rw[t,u]
  generalize A i-A j+(B j-B i)=x at *
  grind
theorem Xu{i j:Nat}{q:Rat}(h:Mt A B i j q):Mt B A i j (1-q):=⟨aht i j q h.1,by have:=h.2; grind,by have:=h.2; grind⟩
theorem ahu:∀{l m:List Rat},l.Pairwise (· < ·)->m.Pairwise (· < ·)->(∀q,q∈l↔q∈m)->l=m:=λ{l m} a b h =>
 List.Perm.eq_of_pairwise (le:=λx y:Rat=>x<y) (λx y _ _ p q=>by grind) a b ((List.perm_ext_iff_of_nodup (a.imp λh e=>by grind) (b.imp λh e=>by grind)).mpr h)
theorem ahv{es fs:List Rat}(p1:es.Pairwise (· < ·))(p2:fs.Pairwise (· < ·))(m1:∀q,q∈es↔∃i,i<c/\∃j,j<i/\Mt A B i j q)(m2:∀q,q∈fs↔∃i,i<c/\∃j,j<i/\Mt B A i j q):fs=(es.map λq=>1-q).reverse:=by
 refine ahu p2 ?_ λq=>?_
 ·rw[List.pairwise_reverse,List.pairwise_map]
  exact p1.imp λh=>by grind
 ·rw[List.mem_reverse,List.mem_map,m2]
  constructor
  ·rintro⟨i,hi,j,hj,m⟩
   exact⟨1-q,(m1 _).mpr ⟨i,hi,j,hj,Xu m⟩,by grind⟩
  ·rintro⟨p,mp,rfl⟩
   obtain⟨i,hi,j,hj,m⟩:=(m1 p).mp mp
   exact⟨i,hi,j,hj,Xu m⟩
theorem ahw(es:List Rat):cD (es.map λq=>1-q).reverse=((cD es).map λq=>1-q).reverse:=by
 unfold cD
 simp
 exact⟨by grind,by grind⟩
theorem Xv{α : Type}:∀l:List α,l.reverse.zip (l.reverse.drop 1)=((l.zip (l.drop 1)).map λp=>(p.2,p.1)).reverse
 | []=>rfl
 | [_]=>rfl
 |a::b::r=>by
  have ih:=Xv (b::r)
  rw[List.reverse_cons (a:=a) (as:=b::r)]
  show((b::r).reverse++[a]).zip (((b::r).reverse++[a]).drop 1)=(((a,b)::(b::r).zip r).map λp=>(p.2,p.1)).reverse
  have e:(((a,b)::(b::r).zip r).map λp=>(p.2,p.1)).reverse=(b::r).reverse.zip ((b::r).reverse.drop 1)++[(b,a)]:=by
   rw[ih]
   exact List.reverse_cons
  rw[e]
  have ln:1<=(b::r).reverse.length:=by rw[List.length_reverse,List.length_cons]; omega
  have lb:(b::r).reverse.getLast? = some b:=by rw[List.getLast?_reverse]; rfl
  generalize (b::r).reverse=m at *
  clear ih e
  match m,ln with
  |x::m,_ =>
   show((x::m)++[a]).zip (m++[a])=(x::m).zip m++[(b,a)]
   clear ln
   induction m generalizing x with
   |nil=>cases lb; rfl
   |cons y m ih =>
    rw[List.getLast?_cons_cons]at lb
    show(x,y)::((y::m)++[a]).zip (m++[a])=(x,y)::((y::m).zip m++[(b,a)])
    rw[ih y (by rw[List.length_cons]; omega) lb]
theorem ahx{es fs:List Rat}(p1:es.Pairwise (· < ·))(p2:fs.Pairwise (· < ·))(m1:∀q,q∈es↔∃i,i<c/\∃j,j<i/\Mt A B i j q)(m2:∀q,q∈fs↔∃i,i<c/\∃j,j<i/\Mt B A i j q):qR B A c k ((cD fs).zip ((cD fs).drop 1))=((qR A B c k ((cD es).zip ((cD es).drop 1))).map dD).reverse:=by
 rw[Ge,Ge,ahv p1 p2 m1 m2,ahw,Xv,<-Xr]
 congr 1
 rw[<-List.map_drop,List.zip_map,List.map_reverse,List.map_map,List.map_map,List.map_map]
 congr 1
 refine List.map_congr_left λp _=>?_
 exact ahs p.1 p.2
end
end BH
end
section
namespace K98
open PySem L2 BH
noncomputable def xZ:SF:=(aJ (cA (cg (aq jZ (aj 2) (aq lX (eC (.int 10)) (eC (.int 18))))) (bB (aq dh (aq iM (aj 2) (aq lX (eC (.int 10)) (eC (.int 18)))) (aq lX (eC (.int 10)) (eC (.int 60))))) cB) (aJ (aV (aq dh (aq bW (aq bW (aq bR (aj 2) (eC (.int 48271))) (aq bR (aj 1) (eC (.int 69621)))) (eC (.int 11))) (eC (.int 2147483629))) (gN 3)) (aJ (aV (aq dh (aq bR (aj 3) (aj 3)) (eC (.int 2147483587))) (gN 3)) (bB (aq bW (aq bR (aj 3) (eC (.int 2147483563))) (aq dh (aq bR (aj 3) (aj 3)) (eC (.int 2147483563))))))))
theorem ahy:Lz=aJ (aV (eC (.int 0)) (gN 2)) (aJ (cA (cg (aq gU (aj 1) (bK (g1 bM) (ak (aj 0) au)))) (aV (aq aC (aj 0) (aj 1)) (gN 2)) cB) xZ):=rfl
theorem Xw:lX (.int 10) (.int 18)=.ok (.int 1000000000000000000,false):=by kernel_rfl
theorem p60:lX (.int 10) (.int 60)=.ok (.int 1000000000000000000000000000000000000000000000000000000000000,false):=by kernel_rfl
theorem Xx(s0:Sl)(k:Nat)(cell:Int):∃(x:Int) (ρ : En),xZ [s0,.sh (.int k),.sh (.int cell),.un]=.ok (.rt (.int x) false,ρ)/\0<=x/\x<2 ^ 200:=by
 by_cases h:1000000000000000000<=cell
 ·have r:=nZ (cell-1000000000000000000) 1000000000000000000000000000000000000000000000000000000000000 (by omega)
  have m60:dh (.int (cell-1000000000000000000)) (.int 1000000000000000000000000000000000000000000000000000000000000)=.ok (.int ((cell-1000000000000000000).fmod 1000000000000000000000000000000000000000000000000000000000000),false):=by
   show(if decide ((1000000000000000000000000000000000000000000000000000000000000:Int)≠0)=true then Rs.ok (Tr.int ((cell-1000000000000000000).fmod 1000000000000000000000000000000000000000000000000000000000000),false)else .bad)=_
   rw[if_pos (by decide)]
  refine⟨(cell-1000000000000000000).fmod 1000000000000000000000000000000000000000000000000000000000000,[s0,.sh (.int k),.sh (.int cell),.un],?_,r.1,by omega⟩
  unfold xZ
  simp -dsimp[dr,Xw,jZ,gB,h,dM,p60,iM,gI,m60]
 ·have c1:gR cell 48271=true:=Mz (by omega)
  have c2:gR k 69621=true:=Mz (by omega)
  have rA:=nZ (cell*48271+k*69621+11) 2147483629 (by omega)
  generalize hA:(cell*48271+k*69621+11).fmod 2147483629=A at rA
  have rB:=nZ (A*A) 2147483587 (by omega)
  have c3:gR A A=true:=vU (M:=31) (N:=31) (by omega) (by omega) (by omega) (by omega)
  generalize hB:(A*A).fmod 2147483587=B at rB
  have c4:gR B B=true:=vU (M:=31) (N:=31) (by omega) (by omega) (by omega) (by omega)
  have c5:gR B 2147483563=true:=Mz (by omega)
  have rC:=nZ (B*B) 2147483563 (by omega)
  generalize hC:(B*B).fmod 2147483563=C at rC
  refine⟨B*2147483563+C,[s0,.sh (.int k),.sh (.int cell),.sh (.int B)],?_,by omega,by omega⟩
  unfold xZ
  simp -dsimp[dr,Xw,jZ,gB,h,dM,bR,gK,c1,c2,c3,c4,c5,bW,gI,dh,hA,hB,hC]
theorem cell_eq(ns:List Int)(k:Nat):∃x:Int,j8 [.lst (ns.map .int),.int k]=.ok (.int x,false)/\0<=x/\x<2 ^ 200:=by
 unfold j8
 rw[ahy]
 have el:bM (.lst (ns.map .int))=.ok (.int (ns.length:Int),false):=by
  show Rs.ok (Tr.int ((ns.map Tr.int).length:Int),false)=_
  rw[List.length_map]
 by_cases h:k<ns.length
 ·have e:=V3 (xs:=ns.map .int) (i:=k) (T:=.int ns[k]) (by simp[h])
  obtain⟨x,ρ,e1,r⟩:=Xx (.sh (.lst (ns.map .int))) k ns[k]
  refine⟨x,?_,r⟩
  unfold bC
  generalize xZ=G at e1 ⊢
  generalize ns[k]=cell at e e1
  have q:(k:Int)<ns.length:=by omega
  generalize Tr.lst (ns.map .int)=T at *
  simp -dsimp[cu,dr,drs,g1,el,gU,gB,q,dM,e,e1]
 ·obtain⟨x,ρ,e1,r⟩:=Xx (.sh (.lst (ns.map .int))) k 0
  refine⟨x,?_,r⟩
  unfold bC
  generalize xZ=G at e1 ⊢
  have q:¬(k:Int)<ns.length:=by omega
  generalize Tr.lst (ns.map .int)=T at *
  simp -dsimp[cu,dr,drs,g1,el,gU,gB,q,dM,e1]
def fc:BF:=cg (aq oU (aj 3) (eC (.int 0)))
def fb:SF:=wV 2 3 (ak (aj 3) (ak (aq dh (aj 2) (aj 3)) au))
theorem ahz(s0 s1:Sl)(a b:Int):fc [s0,s1,.sh (.int a),.sh (.int b)]=.ok (decide (b > 0),[s0,s1,.sh (.int a),.sh (.int b)]):=rfl
theorem ahA(s0 s1:Sl)(a b:Int)(h:b≠0):fb [s0,s1,.sh (.int a),.sh (.int b)]=.ok (.nx,[s0,s1,.sh (.int b),.sh (.int (a.fmod b))]):=by
 unfold fb; simp -dsimp[dr,cls,gK,dh,h]
theorem Xy(s0 s1:Sl):∀(n:Nat) (a b:Int),0<=a->0<=b->b.natAbs<n->ql fc fb n [s0,s1,.sh (.int a),.sh (.int b)]=.ok (.nx,[s0,s1,.sh (.int ((Int.gcd a b:Nat):Int)),.sh (.int 0)])
 | 0,a,b,_,_,h=>by omega
 |n+1,a,b,ha,hb,h=>by
  unfold ql
  rw[ahz]
  by_cases z:b=0
  ·subst z
   have:((Int.gcd a 0:Nat):Int)=a:=by rw[Int.gcd_zero_right]; omega
   rw[this]
   rfl
  ·have p:0<b:=by omega
   have r:=nZ a b p
   have ih:=Xy s0 s1 n b (a.fmod b) hb r.1 (by have:=QT a b z; omega)
   have e:decide (b > 0)=true:=by simpa using p
   simp only[Rs.bind,e,if_true]
   rw[ahA s0 s1 a b z]
   rw[QV]at ih
   exact ih
def Ih:SF:=(aJ (cA (cg (aq gU (aj 1) (eC (.int 0)))) (aV (aq iM (eC (.int 0)) (aj 2)) (gN 2)) cB) (bB (gk (ak (aq eO (aj 0) (aj 2)) (ak (aq eO (aj 1) (aj 2)) au)))))
theorem ahB:LC=(aJ (aV (bK (g1 lY) (ak (aj 0) au)) (gN 2)) (aJ (aV (bK (g1 lY) (ak (aj 1) au)) (gN 3)) (aJ (fO (oW (qx 3) fc fb)) Ih))):=rfl
theorem Xz{a b:Int}{M:Nat}(ha:0<=a)(hb:1<=b)(hb2:b<2 ^ M)(hM:M<=8900):jx [.int a,.int b]=.ok (fT (red a b),false):=by
 obtain⟨g1,g2,_⟩:=wK (a:=a) (b:=b) (by omega)
 have e1:a.fdiv (Int.gcd a b:Nat)=a / (Int.gcd a b:Nat):=Int.fdiv_eq_ediv_of_nonneg _ (by omega)
 have e2:b.fdiv (Int.gcd a b:Nat)=b / (Int.gcd a b:Nat):=Int.fdiv_eq_ediv_of_nonneg _ (by omega)
 have np:=vW M
 have a1:lY (.int a)=.ok (.int a,false):=by
  show Rs.ok (Tr.int (if a<0 then -a else a),false)=_
  rw[if_neg (by omega)]
 have a2:lY (.int b)=.ok (.int b,false):=by
  show Rs.ok (Tr.int (if b<0 then -b else b),false)=_
  rw[if_neg (by omega)]
 have w:fO (oW (qx 3) fc fb) [.sh (.int a),.sh (.int b),.sh (.int a),.sh (.int b)]=.ok (.nx,[.sh (.int a),.sh (.int b),.sh (.int ((Int.gcd a b:Nat):Int)),.sh (.int 0)]):=by
  unfold fO oW
  rw[show qx 3 [.sh (.int a),.sh (.int b),.sh (.int a),.sh (.int b)]=b.natAbs+1 from rfl,Xy _ _ _ a b ha (by omega) (by omega)]
  rfl
 unfold jx
 rw[ahB]
 unfold bC Ih fT red
 generalize hg:((Int.gcd a b:Nat):Int)=g at *
 have h3:¬b<0:=by omega
 have c1:∀n,lu n g=true:=λn=>tM (M:=M) (by omega) (by omega) hM
 generalize fO (oW (qx 3) fc fb)=G at w ⊢
 simp -dsimp[cu,dr,drs,cls,a1,a2,L2.g1,w,gU,gB,h3,dM,eO,gK,c1,e1,e2]
theorem ahC{z b:Int}(h0:0<=z)(h1:z<=b)(h2:1<=b)(h3:b<=1000000000000):Wo (red z b):=by
 obtain⟨g1,g2,g3,g4,g5,g6,g7⟩:=wK (a:=z) (b:=b) (by omega)
 have d2:=Int.ediv_le_self (a:=b) ((Int.gcd z b:Nat):Int) (by omega)
 have d3:=Int.ediv_le_ediv g1 h1
 exact⟨g5 h0,d3,g3,by show b / ((Int.gcd z b:Nat):Int)<=_; omega,g4⟩
def Gh:SF:=(cA (cg (aq oU (aj 7) (eC (.int 100)))) (aV (aG j8 (ak (aj 0) (ak (aq dh (aq bW (aq bW (aq bW (aj 1) (eC (.int 1))) (aj 9)) (aq bR (eC (.int 5)) (aj 12))) (eC (.int 63))) au))) (gN 10)) cB)
def Nk:SF:=(aJ (je (lZ 11 jf (ak (aG jx (ak (aq dh (aj 10) (aq bW (aj 7) (eC (.int 1)))) (ak (aj 7) au))) au))) (aV (aq eO (aj 10) (aq bW (aj 7) (eC (.int 1)))) (gN 10)))
section
variable (ns:List Int)(a:Nat)(s2 s3 s4 s5 s6:Sl){b:Int}(B:List Tr)(k:Nat)
theorem ahD(o:Int)(R:List Tr)(j:Nat):∃o',Gh [.sh (.lst (ns.map .int)),.sh (.int a),s2,s3,s4,s5,s6,.sh (.int b),.ow B,.sh (.int k),.sh (.int o),.ow R,.sh (.int j)]=.ok (.nx,[.sh (.lst (ns.map .int)),.sh (.int a),s2,s3,s4,s5,s6,.sh (.int b),.ow B,.sh (.int k),.sh (.int o'),.ow R,.sh (.int j)]):=by
 by_cases h:b > 100
 ·obtain⟨r1,r2⟩:=nZ ((a:Int)+1+k+5*j) 63 (by omega)
  obtain⟨x,e,_⟩:=cell_eq ns (((a:Int)+1+k+5*j).fmod 63).toNat
  rw[Int.toNat_of_nonneg r1]at e
  refine⟨x,?_⟩
  have c1:gR 5 j=true:=agq (by omega)
  unfold Gh
  generalize Tr.lst (ns.map .int)=T at *
  generalize hy:((a:Int)+1+k+5*j).fmod 63=y at *
  simp -dsimp[dr,drs,cR,oU,gB,dM,h,bW,gI,bR,gK,c1,dh,hy,e]
 ·refine⟨o,?_⟩
  unfold Gh
  have h':¬(100<b):=h
  generalize Tr.lst (ns.map .int)=T at *
  simp -dsimp[dr,oU,gB,dM,h',h]
theorem ahE(hb:1<=b)(hb2:b<=1000000000000)(o:Int)(l:List (Int × Int))(hl:l.length<=1000)(s12:Sl):∃(x:Int × Int) (o':Int),Wo x/\Nk [.sh (.lst (ns.map .int)),.sh (.int a),s2,s3,s4,s5,s6,.sh (.int b),.ow B,.sh (.int k),.sh (.int o),.ow (l.map fT),s12]=.ok (.nx,[.sh (.lst (ns.map .int)),.sh (.int a),s2,s3,s4,s5,s6,.sh (.int b),.ow B,.sh (.int k),.sh (.int o'),.ow ((l++[x]).map fT),s12]):=by
 have r:=nZ o (b+1) (by omega)
 have h0:b+1≠0:=by omega
 have e:=Xz (a:=o.fmod (b+1)) (b:=b) (M:=40) r.1 hb (by omega) (by omega)
 have c1:lu o (b+1)=true:=tM (M:=50) h0 (by omega) (by omega)
 refine⟨red (o.fmod (b+1)) b,o.fdiv (b+1),ahC r.1 (by omega) hb hb2,?_⟩
 rw[List.map_append,List.map_cons,List.map_nil]
 unfold Nk
 generalize Tr.lst (ns.map .int)=T at *
 generalize hy:o.fmod (b+1)=y at *
 generalize fT (red y b)=X at *
 have hL:(l.map fT).length<=100000:=by rw[List.length_map]; omega
 generalize l.map fT=L at *
 generalize hz:o.fdiv (b+1)=z at *
 simp -dsimp[dr,drs,cR,cls,con,dN,jf,bW,gI,gK,dh,eO,h0,c1,hy,hz,e,hL]
def Gi:SF:=(aJ Gh Nk)
theorem XC(hb:1<=b)(hb2:b<=1000000000000):∀(m j:Nat) (o:Int) (l:List (Int × Int)) (s12:Sl),l.length+m<=1000->(∀x∈l,Wo x)->∃(l':List (Int × Int)) (o':Int) (cH:Sl),l'.length=l.length+m/\(∀x∈l',Wo x) /\
  fM (gN 12) Gi ((List.range' j m).map iT) [.sh (.lst (ns.map .int)),.sh (.int a),s2,s3,s4,s5,s6,.sh (.int b),.ow B,.sh (.int k),.sh (.int o),.ow (l.map fT),s12]=.ok (.nx,[.sh (.lst (ns.map .int)),.sh (.int a),s2,s3,s4,s5,s6,.sh (.int b),.ow B,.sh (.int k),.sh (.int o'),.ow (l'.map fT),cH])
 | 0,j,o,l,s12,_,h=>⟨l,o,s12,rfl,h,rfl⟩
 |m+1,j,o,l,s12,hm,h=>by
  obtain⟨o1,e1⟩:=ahD ns a s2 s3 s4 s5 s6 (b:=b) B k o (l.map fT) j
  obtain⟨x,o2,hx,e2⟩:=ahE ns a s2 s3 s4 s5 s6 B k hb hb2 o1 l (by omega) (.sh (.int j))
  obtain⟨l',o',cH,h1,h2,e3⟩:=XC hb hb2 m (j+1) o2 (l++[x]) (.sh (.int j)) (by rw[List.length_append,List.length_singleton]; omega) (λy hy=>by
   rcases List.mem_append.mp hy with hy|hy
   ·exact h y hy
   ·rw[List.mem_singleton.mp hy]; exact hx)
  refine⟨l',o',cH,by rw[h1,List.length_append,List.length_singleton]; omega,h2,?_⟩
  rw[List.range'_succ,List.map_cons]
  refine V7 ?_ e3
  show Gi [.sh (.lst (ns.map .int)),.sh (.int a),s2,s3,s4,s5,s6,.sh (.int b),.ow B,.sh (.int k),.sh (.int o),.ow (l.map fT),.sh (.int j)]=_
  unfold Gi aJ
  rw[e1]
  exact e2
end
def Gj:SF:=(fQ (fH (ak (aj 5) au)) (gN 12) Gi)
def Am:SF:=(aJ (aV (aG j8 (ak (aj 0) (ak (aq bW (aq bW (aj 1) (eC (.int 1))) (aj 9)) au))) (gN 10)) (aJ (sE 11 (iB au)) (aJ Gj (CJ 11 (je (lZ 8 jf (ak (aj 11) au)))))))
theorem ahF:Ma=(aJ (aV (aG j8 (ak (aj 0) (ak (aj 1) au))) (gN 4)) (aJ (aV (aq bW (eC (.int 1)) (aq dh (aj 4) (aj 3))) (gN 5)) (aJ (aV (aj 2) (gN 6)) (aJ (aV (aq aC (Dd [.int 2,.int 3,.int 4,.int 6,.int 10,.int 24,.int 97,.int 999999999999]) (aq dh (aq eO (aj 4) (eC (.int 1000))) (eC (.int 8)))) (gN 7)) (aJ (sE 8 (iB au)) (aJ (fO (fQ (fH (ak (aj 6) au)) (gN 9) Am)) (bB (aj 8)))))))):=rfl
section
variable (ns:List Int)(a:Nat)(s2 s3 s4 s6:Sl){b:Int}{m:Nat}
theorem ahG(hb:1<=b)(hb2:b<=1000000000000)(hm:m<=12)(B:List Tr)(k:Nat)(o:Int)(s12:Sl):∃(l:List (Int × Int)) (o':Int) (cH:Sl),l.length=m/\(∀x∈l,Wo x)/\Gj [.sh (.lst (ns.map .int)),.sh (.int a),s2,s3,s4,.sh (.int m),s6,.sh (.int b),.ow B,.sh (.int k),.sh (.int o),.ow [],s12]=.ok (.nx,[.sh (.lst (ns.map .int)),.sh (.int a),s2,s3,s4,.sh (.int m),s6,.sh (.int b),.ow B,.sh (.int k),.sh (.int o'),.ow (l.map fT),cH]):=by
 obtain⟨l,o',cH,h1,h2,e⟩:=XC ns a s2 s3 s4 (.sh (.int m)) s6 B k hb hb2 m 0 o [] s12 (by simp; omega) (λx hx=>by cases hx)
 refine⟨l,o',cH,by simpa using h1,h2,?_⟩
 have ef:fH (ak (aj 5) au) [.sh (.lst (ns.map .int)),.sh (.int a),s2,s3,s4,.sh (.int m),s6,.sh (.int b),.ow B,.sh (.int k),.sh (.int o),.ow [],s12]=.ok ((List.range' 0 m).map iT,[.sh (.lst (ns.map .int)),.sh (.int a),s2,s3,s4,.sh (.int m),s6,.sh (.int b),.ow B,.sh (.int k),.sh (.int o),.ow [],s12]):=by
  generalize Tr.lst (ns.map .int)=T at *
  rw[<-List.range_eq_range']
  have ok:=agx (n:=m) (by omega)
  simp -dsimp[drs,dr,cR,ok]
  exact MF m
 unfold Gj
 generalize fH _=G at ef ⊢
 unfold fQ
 simp only[ef]
 exact e
theorem ahH(hb:1<=b)(hb2:b<=1000000000000)(hm:m<=12)(rows:List (List (Int × Int)))(hr:rows.length<=1000)(k:Nat)(rK v8 s12:Sl):∃(l:List (Int × Int)) (t10 t11 cH:Sl),l.length=m/\(∀x∈l,Wo x)/\Am [.sh (.lst (ns.map .int)),.sh (.int a),s2,s3,s4,.sh (.int m),s6,.sh (.int b),.ow (rows.map bH),.sh (.int k),rK,v8,s12]=.ok (.nx,[.sh (.lst (ns.map .int)),.sh (.int a),s2,s3,s4,.sh (.int m),s6,.sh (.int b),.ow ((rows++[l]).map bH),.sh (.int k),t10,t11,cH]):=by
 obtain⟨x,e,_⟩:=cell_eq ns (a+1+k)
 have ec:(((a+1+k:Nat)):Int)=(a:Int)+1+k:=by omega
 rw[ec]at e
 obtain⟨l,o',cH,h1,h2,e2⟩:=ahG ns a s2 s3 s4 s6 hb hb2 hm (rows.map bH) k x s12
 refine⟨l,.sh (.int o'),.sh (bH l),cH,h1,h2,?_⟩
 have hL:(rows.map bH).length<=100000:=by rw[List.length_map]; omega
 rw[List.map_append,List.map_cons,List.map_nil]
 have eR:Tr.lst (l.map fT)=bH l:=rfl
 unfold Am
 generalize rows.map bH=L,Tr.lst (ns.map .int)=T,Gj=G at *
 have ef:fJ 11 [.sh T,.sh (.int a),s2,s3,s4,.sh (.int m),s6,.sh (.int b),.ow L,.sh (.int k),.sh (.int o'),.ow (l.map fT),cH]=[.sh T,.sh (.int a),s2,s3,s4,.sh (.int m),s6,.sh (.int b),.ow L,.sh (.int k),.sh (.int o'),.sh (.lst (l.map fT)),cH]:=rfl
 rw[eR]at ef
 generalize bH l=X at *
 simp -dsimp[dr,drs,cR,cls,con,dN,jf,bW,gI,e,e2,ef,hL]
theorem XD(hb:1<=b)(hb2:b<=1000000000000)(hm:m<=12):∀(w k:Nat) (rows:List (List (Int × Int))) (s9 rK v8 s12:Sl),rows.length+w<=1000->Mx m rows->∃(Ao:List (List (Int × Int))) (t9 t10 t11 cH:Sl),Ao.length=rows.length+w/\Mx m Ao /\
  fM (gN 9) Am ((List.range' k w).map iT) [.sh (.lst (ns.map .int)),.sh (.int a),s2,s3,s4,.sh (.int m),s6,.sh (.int b),.ow (rows.map bH),s9,rK,v8,s12]=.ok (.nx,[.sh (.lst (ns.map .int)),.sh (.int a),s2,s3,s4,.sh (.int m),s6,.sh (.int b),.ow (Ao.map bH),t9,t10,t11,cH])
 | 0,k,rows,s9,rK,v8,s12,_,h=>⟨rows,s9,rK,v8,s12,rfl,h,rfl⟩
 |w+1,k,rows,s9,rK,v8,s12,hw,h=>by
  obtain⟨l,r10,r11,r12,h1,h2,e1⟩:=ahH ns a s2 s3 s4 s6 hb hb2 hm rows (by omega) k rK v8 s12
  obtain⟨Ao,t9,t10,t11,cH,g1,g2,e2⟩:=XD hb hb2 hm w (k+1) (rows++[l]) (.sh (.int k)) r10 r11 r12 (by rw[List.length_append,List.length_singleton]; omega) (λx hx=>by
   rcases List.mem_append.mp hx with hx|hx
   ·exact h x hx
   ·rw[List.mem_singleton.mp hx]; exact⟨h1,h2⟩)
  refine⟨Ao,t9,t10,t11,cH,by rw[g1,List.length_append,List.length_singleton]; omega,g2,?_⟩
  rw[List.range'_succ,List.map_cons]
  exact V7 e1 e2
theorem ahI(i:Nat)(h:i<8):∃b:Int,([.int 2,.int 3,.int 4,.int 6,.int 10,.int 24,.int 97,.int 999999999999]:List Tr)[i]?=some (.int b)/\1<=b/\b<=1000000000000:=by
 have:i=0\/i=1\/i=2\/i=3\/i=4\/i=5\/i=6\/i=7:=by omega
 rcases this with rfl|rfl|rfl|rfl|rfl|rfl|rfl|rfl <;> exact⟨_,rfl,by omega,by omega⟩
theorem ahJ:∃(m:Nat) (rows:List (List (Int × Int))),Bk m rows/\m<=8/\rows.length=2/\xQ [.lst (ns.map .int),.int (a:Nat),.int 2,.int 8]=.ok (Mw rows,true):=by
 obtain⟨x,e,x0,x1⟩:=cell_eq ns a
 have r1:=nZ x 8 (by omega)
 have r3:=nZ (x.fdiv 1000) 8 (by omega)
 obtain⟨b,eb,b1,b2⟩:=ahI ((x.fdiv 1000).fmod 8).toNat (by omega)
 have eb':=V3 eb
 rw[Int.toNat_of_nonneg r3.1]at eb'
 obtain⟨m,hm⟩:∃m:Nat,1+x.fmod 8=(m:Int):=⟨(1+x.fmod 8).toNat,by omega⟩
 have d2:eO (.int x) (.int 1000)=.ok (.int (x.fdiv 1000),false):=by
  have:lu x 1000=true:=tM (M:=20) (by omega) (by omega) (by omega)
  simp[eO,gK,this]
 have gm:bW (.int 1) (.int (x.fmod 8))=.ok (.int (m:Int),false):=by
  show Rs.ok (Tr.int (1+x.fmod 8),false)=_
  rw[hm]
 obtain⟨rows,t9,t10,t11,cH,g1,g2,e2⟩:=XD ns a (.sh (.int 2)) (.sh (.int 8)) (.sh (.int x)) (.sh (.int 2)) b1 b2 (m:=m) (by omega) 2 0 [] .un .un .un .un (by simp) (λl hl=>by cases hl)
 have g1:rows.length=2:=by simpa using g1
 refine⟨m,rows,⟨by omega,by omega,by omega,by omega,g2⟩,by omega,g1,?_⟩
 have ef:fH (ak (aj 6) au) [.sh (.lst (ns.map .int)),.sh (.int a),.sh (.int 2),.sh (.int 8),.sh (.int x),.sh (.int m),.sh (.int 2),.sh (.int b),.ow [],.un,.un,.un,.un]=.ok ((List.range' 0 2).map iT,[.sh (.lst (ns.map .int)),.sh (.int a),.sh (.int 2),.sh (.int 8),.sh (.int x),.sh (.int m),.sh (.int 2),.sh (.int b),.ow [],.un,.un,.un,.un]):=by
  rw[<-List.range_eq_range']
  exact tV (n:=2) (b:=false) (by omega) rfl
 have e3:=xV (pP (f:=Am) (gf:=gN 9) ef e2)
 unfold xQ
 rw[ahF]
 exact lJ (bY (fU (bV rfl rfl rfl e)) (bY (fU (bU (z:=(.int (m:Int),false)) (U:=.int (x.fmod 8)) rfl rfl rfl rfl gm)) (bY rfl (bY (fU (bU (z:=(.int b,false)) (U:=.int ((x.fdiv 1000).fmod 8)) rfl (bU (z:=(.int ((x.fdiv 1000).fmod 8),false)) (bU (z:=(.int (x.fdiv 1000),false)) rfl rfl rfl rfl d2) rfl rfl rfl rfl) rfl rfl eb')) (bY rfl (bY e3 rfl))))))
end
section
variable {p q:Rat}{M N:Nat}
theorem Gm{a b:Int}(ha:0<=a)(hb:1<=b)(hb2:b.natAbs<2 ^ M)(hM:M<=8900):jx [.int a,.int b]=.ok (qT ((a:Rat) / (b:Rat)),false):=by
 have e:=Xz ha hb (M:=M) (by have:=vW M; omega) hM
 rw[FQ hb]at e
 exact e
theorem nn(h:0<=p):0<=p.num:=Rat.num_nonneg.mpr h
theorem dd(p:Rat):(0:Int)<=(p.den:Int):=by omega
theorem ahK(hp:Bq M p)(hq:Bq N q)(p0:0<=p)(q0:0<=q)(h:M+N<=8900):vO [qT p,qT q]=.ok (qT (p+q),false):=by
 have e:=Gm (a:=p.num*(q.den:Int)+q.num*(p.den:Int)) (b:=(p.den:Int)*(q.den:Int)) (M:=M+N) (Int.add_nonneg (Int.mul_nonneg (nn p0) (dd q)) (Int.mul_nonneg (nn q0) (dd p))) (dpos p q) (jh (cj hp) (cj hq)) h
 rw[M4]at e
 have c1:=cM hp.1 (cj hq) h
 have c2:=cM hq.1 (cj hp) (by omega)
 have c3:=cM (cj hp) (cj hq) h
 generalize qT (p+q)=R at *
 unfold vO LK bC qT qp fT
 simp -dsimp[dr,drs,bW,bR,aC,cR,dI,gh,cu,c1,c2,c3,e]
theorem Gn(hp:Bq M p)(hq:Bq N q)(l:q<=p)(h:M+N<=8900):iV [qT p,qT q]=.ok (qT (p-q),false):=by
 have z:=FW p q
 rw[decide_eq_false (p:=p<q) (by grind)]at z
 have z:=of_decide_eq_false z
 have z:¬(p.num*(q.den:Int)<q.num*(p.den:Int)):=z
 have e:=Gm (a:=p.num*(q.den:Int)-q.num*(p.den:Int)) (b:=(p.den:Int)*(q.den:Int)) (M:=M+N) (by omega) (dpos p q) (jh (cj hp) (cj hq)) h
 rw[M5]at e
 have c1:=cM hp.1 (cj hq) h
 have c2:=cM hq.1 (cj hp) (by omega)
 have c3:=cM (cj hp) (cj hq) h
 generalize qT (p-q)=R at *
 unfold iV LR bC qT qp fT
 simp -dsimp[dr,drs,iM,gI,bR,aC,cR,dI,gh,cu,c1,c2,c3,e]
theorem XF(hp:Bq M p)(hq:Bq N q)(p0:0<=p)(q0:0<=q)(h:M+N<=8900):pL [qT p,qT q]=.ok (qT (p*q),false):=by
 have e:=Gm (a:=p.num*q.num) (b:=(p.den:Int)*(q.den:Int)) (M:=M+N) (Int.mul_nonneg (nn p0) (nn q0)) (dpos p q) (jh (cj hp) (cj hq)) h
 rw[MP]at e
 have c1:=cM hp.1 hq.1 h
 have c3:=cM (cj hp) (cj hq) h
 generalize qT (p*q)=R at *
 unfold pL LQ bC qT qp fT
 simp -dsimp[dr,drs,bR,aC,cR,dI,gh,cu,c1,c3,e]
theorem Np(hp:Bq M p)(hq:Bq N q)(h:M+N<=8900):mO [qT p,qT q]=.ok (.bl (decide (p<q)),false):=M8 hp hq h
end
section
variable {A B:Nat->Rat}{c:Nat}{w:Rat}{Z:List Nat}
def Nn(A B:Nat->Rat)(c:Nat):Prop:=∀i,i<c->0<=A i/\0<=B i
abbrev XH:SF:=je (lZ 4 jf (ak (aG vO (ak (aG pL (ak (aj 1) (ak (aq aC (aq aC (aj 0) (eC (.int 0))) (aj 5)) au))) (ak (aG pL (ak (aj 3) (ak (aq aC (aq aC (aj 0) (eC (.int 1))) (aj 5)) au))) au))) au))
abbrev XJ:BF:=iR (cg (aq (iK not) (aj 6) (aj 2))) (cZ (aG mO (ak (aq aC (aj 4) (aj 5)) (ak (aq aC (aj 4) (aj 6)) au))))
abbrev Nq:SF:=cA XJ (bB (eC (.bl false))) cB
abbrev lbO:SF:=fQ (fH (ak (bK (g1 bM) (ak (aj 4) au)) au)) (gN 6) Nq
theorem XM(h:B40 A B c)(hn:Nn A B c)(hw:Bq 493 w)(hv:Bq 493 (1-w))(w0:0<=w)(w1:w<=1)(x2 x6:Sl):∀(is:List Nat) (ts:List Tr) (x5:Sl),(∀i∈is,i<c)->ts.length+is.length<=1000->∃t5,fM (gN 5) XH (is.map λi:Nat=>Tr.int i) [.sh (aO A B c),.sh (qT w),x2,.sh (qT (1-w)),.ow ts,x5,x6]=.ok (.nx,[.sh (aO A B c),.sh (qT w),x2,.sh (qT (1-w)),.ow (ts++is.map λi=>qT (vw A B w i)),t5,x6])
 | [],ts,x5,_,_=>⟨x5,by show Rs.ok _=Rs.ok (Fl.nx,[_,_,_,_,Sl.ow (ts++[]),_,_]); rw[List.append_nil]⟩
 |i::is,ts,x5,hi,hl=>by
  rw[List.length_cons]at hl
  have ic:=hi i (by simp)
  obtain⟨a0,b0⟩:=hn i ic
  have f1:=XF hw (h i ic).1 w0 a0 (by omega)
  have f2:=XF hv (h i ic).2 (by grind) b0 (by omega)
  have f3:=ahK (hw.mul (h i ic).1) (hv.mul (h i ic).2) (Rat.mul_nonneg w0 a0) (Rat.mul_nonneg (by grind) b0) (by omega)
  have b1:XH [.sh (aO A B c),.sh (qT w),x2,.sh (qT (1-w)),.ow ts,.sh (.int i),x6]=.ok (.nx,[.sh (aO A B c),.sh (qT w),x2,.sh (qT (1-w)),.ow (ts++[qT (vw A B w i)]),.sh (.int i),x6]):=by
   have r1:aG vO (ak (aG pL (ak (aj 1) (ak (aq aC (aq aC (aj 0) (eC (.int 0))) (aj 5)) au))) (ak (aG pL (ak (aj 3) (ak (aq aC (aq aC (aj 0) (eC (.int 1))) (aj 5)) au))) au)) [.sh (aO A B c),.sh (qT w),x2,.sh (qT (1-w)),.ow ts,.sh (.int i),x6]=.ok (.v (qT (vw A B w i)) false,[.sh (aO A B c),.sh (qT w),x2,.sh (qT (1-w)),.ow ts,.sh (.int i),x6]) :=
    bV (z:=(qT (vw A B w i),false)) (bT (bV (z:=(qT (w*A i),false)) (bT rfl (bT (bU (z:=(qT (A i),false)) (bU (z:=(bH (bf A c),false)) rfl rfl rfl rfl (v7 A B c)) rfl rfl rfl (vZ A ic)) rfl)) rfl rfl f1) (bT (bV (z:=(qT ((1-w)*B i),false)) (bT rfl (bT (bU (z:=(qT (B i),false)) (bU (z:=(bH (bf B c),false)) rfl rfl rfl rfl (Wt A B c)) rfl rfl rfl (vZ B ic)) rfl)) rfl rfl f2) rfl)) rfl rfl f3
   exact tQ (Wl (as:=ts) (ts:=ts) r1 rfl rfl (by omega))
  obtain⟨t5,e⟩:=XM h hn hw hv w0 w1 x2 x6 is (ts++[qT (vw A B w i)]) (.sh (.int i)) (λj m=>hi j (by simp[m])) (by rw[List.length_append,List.length_singleton]; omega)
  refine⟨t5,?_⟩
  rw[List.append_assoc]at e
  exact pQ rfl b1 e
theorem Ky(A B:Nat->Rat)(w:Rat){i:Nat}(h:i<c):aC (.lst ((List.range c).map λi=>qT (vw A B w i))) (.int i)=.ok (qT (vw A B w i),false):=tO (by rw[List.getElem?_map,List.getElem?_range h]; rfl)
theorem ahL(h:B40 A B c)(hw:Bq 493 w)(hv:Bq 493 (1-w)){i j:Nat}(hi:i<c)(hj:j<c)(hz:j∉Z->¬vw A B w i<vw A B w j)(x0 x1 x3:Sl):Nq [x0,x1,.sh (.lst (Z.map iT)),x3,.ow ((List.range c).map λi=>qT (vw A B w i)),.sh (.int i),.sh (.int j)]=.ok (.nx,[x0,x1,.sh (.lst (Z.map iT)),x3,.ow ((List.range c).map λi=>qT (vw A B w i)),.sh (.int i),.sh (.int j)]):=by
 have n:=agU j Z
 have b:=Np (Aj h hw hv i hi) (Aj h hw hv j hj) (by omega)
 have g1:=Ky A B w hi
 have g2:=Ky A B w hj
 have cc:XJ [x0,x1,.sh (.lst (Z.map iT)),x3,.ow ((List.range c).map λi=>qT (vw A B w i)),.sh (.int i),.sh (.int j)]=.ok (false,[x0,x1,.sh (.lst (Z.map iT)),x3,.ow ((List.range c).map λi=>qT (vw A B w i)),.sh (.int i),.sh (.int j)]):=by
  by_cases m:j∈Z
  ·have:Z.any (· == j)=true:=List.any_eq_true.mpr ⟨j,m,by simp⟩
   rw[this]at n
   exact xX (jy (bU (z:=(.bl false,false)) rfl rfl rfl rfl n) rfl)
  ·have:Z.any (· == j)=false:=by rw[List.any_eq_false]; intro x mx q; rw[beq_iff_eq]at q; subst q; exact m mx
   rw[this]at n
   have b':mO [qT (vw A B w i),qT (vw A B w j)]=.ok (.bl false,false):=by
    have e:mO [qT (vw A B w i),qT (vw A B w j)]=.ok (.bl (decide (vw A B w i<vw A B w j)),false):=b
    rw[decide_eq_false (hz m)]at e
    exact e
   exact vX (jy (bU (z:=(.bl true,false)) rfl rfl rfl rfl n) rfl) (jO (bV (z:=(.bl false,false)) (bT (bU (z:=(qT (vw A B w i),false)) rfl rfl rfl rfl g1) (bT (bU (z:=(qT (vw A B w j),false)) rfl rfl rfl rfl g2) rfl)) rfl rfl b') rfl rfl)
 exact lH cc rfl
theorem XQ(h:B40 A B c)(hw:Bq 493 w)(hv:Bq 493 (1-w)){i:Nat}(hi:i<c)(hz:∀j,j<c->j∉Z->¬vw A B w i<vw A B w j)(x0 x1 x3:Sl):∀(js:List Nat) (x6:Sl),(∀j∈js,j<c)->∃t6,fM (gN 6) Nq (js.map λi:Nat=>Tr.int i) [x0,x1,.sh (.lst (Z.map iT)),x3,.ow ((List.range c).map λi=>qT (vw A B w i)),.sh (.int i),x6]=.ok (.nx,[x0,x1,.sh (.lst (Z.map iT)),x3,.ow ((List.range c).map λi=>qT (vw A B w i)),.sh (.int i),t6])
 | [],x6,_=>⟨x6,rfl⟩
 |j::js,x6,hj=>by
  have jc:=hj j (by simp)
  obtain⟨t6,e⟩:=XQ h hw hv hi hz x0 x1 x3 js (.sh (.int j)) λk m=>hj k (by simp[m])
  exact⟨t6,pQ rfl (ahL h hw hv hi jc (hz j jc) x0 x1 x3) e⟩
theorem XR(h:B40 A B c)(hw:Bq 493 w)(hv:Bq 493 (1-w))(hc:c<=1000)(x0 x1 x3:Sl):∀(is:List Nat) (x5 x6:Sl),(∀i∈is,i<c/\∀j,j<c->j∉Z->¬vw A B w i<vw A B w j)->∃t5 t6,fM (gN 5) lbO (is.map iT) [x0,x1,.sh (.lst (Z.map iT)),x3,.ow ((List.range c).map λi=>qT (vw A B w i)),x5,x6]=.ok (.nx,[x0,x1,.sh (.lst (Z.map iT)),x3,.ow ((List.range c).map λi=>qT (vw A B w i)),t5,t6])
 | [],x5,x6,_=>⟨x5,x6,rfl⟩
 |i::is,x5,x6,hi=>by
  obtain⟨ic,hz⟩:=hi i (by simp)
  have gl:bM (.lst ((List.range c).map λi=>qT (vw A B w i)))=.ok (.int (c:Int),false):=by
   show Rs.ok (Tr.int (((List.range c).map λi=>qT (vw A B w i)).length:Int),false)=_
   rw[List.length_map,List.length_range]
  obtain⟨t6,e⟩:=XQ h hw hv ic hz x0 x1 x3 (List.range c) x6 λj m=>List.mem_range.mp m
  obtain⟨u5,u6,e'⟩:=XR h hw hv hc x0 x1 x3 is (.sh (.int i)) t6 λj m=>hi j (by simp[m])
  have r:fH (ak (bK (g1 bM) (ak (aj 4) au)) au) [x0,x1,.sh (.lst (Z.map iT)),x3,.ow ((List.range c).map λi=>qT (vw A B w i)),.sh (.int i),x6]=.ok ((List.range c).map λi:Nat=>Tr.int i,[x0,x1,.sh (.lst (Z.map iT)),x3,.ow ((List.range c).map λi=>qT (vw A B w i)),.sh (.int i),x6]):=tV (n:=c) (b:=false) (by omega) (j9 (z:=(.int (c:Int),false)) rfl rfl gl)
  exact⟨u5,u6,pQ rfl (pP r e) e'⟩
theorem Gp(h:B40 A B c)(hn:Nn A B c)(hw:Bq 493 w)(hv:Bq 493 (1-w))(w0:0<=w)(w1:w<=1)(hc:c<=100)(hz:∀i∈Z,i<c/\∀j,j<c->j∉Z->¬vw A B w i<vw A B w j):jM [aO A B c,qT w,.lst (Z.map iT)]=.ok (.bl true,false):=by
 have f:=Gn lK hw w1 (by omega)
 obtain⟨t5,e1⟩:=XM h hn hw hv w0 w1 (.sh (.lst (Z.map iT))) .un (List.range c) [] .un (λi m=>List.mem_range.mp m) (by rw[List.length_range]; simp; omega)
 obtain⟨u5,u6,e2⟩:=XR h hw hv (by omega) (.sh (aO A B c)) (.sh (qT w)) (.sh (qT (1-w))) Z t5 .un hz
 have r:fH (ak (bK (g1 bM) (ak (aq aC (aj 0) (eC (.int 0))) au)) au) [.sh (aO A B c),.sh (qT w),.sh (.lst (Z.map iT)),.sh (qT (1-w)),.ow [],.un,.un]=.ok ((List.range c).map λi:Nat=>Tr.int i,[.sh (aO A B c),.sh (qT w),.sh (.lst (Z.map iT)),.sh (qT (1-w)),.ow [],.un,.un]):=tV (n:=c) (b:=false) (by omega) (j9 (z:=(.int (c:Int),false)) (bT (bU (z:=(bH (bf A c),false)) rfl rfl rfl rfl (v7 A B c)) rfl) rfl (Af A c))
 exact lJ (bY (fU (bV rfl rfl rfl f)) (bY rfl (bY (xV (pP r e1)) (bY (xV (pP rfl e2)) (n8 rfl)))))
end
end K98
end
section
namespace BH
open PySem L2
section
variable {A B V:Nat->Rat}{c k:Nat}{Q:Rat->Prop}
theorem ahM{ss:List bN}{y:bN}(hs:∀x∈ss,Q x.1/\Q x.2.1)(hy:Q y.1/\Q y.2.1):∀x∈sX ss y,Q x.1/\Q x.2.1:=λx m=>by
 unfold sX jP at m
 split at m
 ·rename_i z hz
  split at m
  ·rcases List.mem_append.mp m with m|m
   ·exact hs x ((List.dropLast_sublist ss).subset m)
   ·rw[List.mem_singleton]at m
    subst m
    exact⟨(hs z (List.mem_of_getLast? hz)).1,hy.2⟩
  ·rcases List.mem_append.mp m with m|m
   ·exact hs x m
   ·rw[List.mem_singleton]at m
    subst m
    exact hy
 ·rw[List.mem_singleton]at m
  subst m
  exact hy
theorem XS:∀(l ss:List bN),(∀x∈l,Q x.1/\Q x.2.1)->(∀x∈ss,Q x.1/\Q x.2.1)->∀x∈l.foldl sX ss,Q x.1/\Q x.2.1
 | [],ss,_,hs=>hs
 |y::l,ss,hl,hs=>XS l (sX ss y) (λx m=>hl x (by simp[m])) (ahM hs (hl y (by simp)))
theorem ahN(ps:List (Rat × Rat))(h:∀p∈ps,Q p.1/\Q p.2):∀x∈qR A B c k ps,Q x.1/\Q x.2.1:=by
 rw[Ge]
 exact XS _ [] (λx m=>by obtain⟨p,mp,rfl⟩:=List.mem_map.mp m; exact h p mp) (λx m=>by cases m)
structure GX(A B:Nat->Rat)(c k:Nat)(x:bN):Prop where
 lo:Eg x.1
 hi:Eg x.2.1
 lt:x.1<x.2.1
 ex:∃Y:List Nat,x.2.2=(Y.map λi:Nat=>(i:Int))/\iW Y=x.2.2/\∀w,x.1<w->w<x.2.1->Best (vw A B w) c k Y
theorem ahO(h:B40 A B c)(c1:1<=c)(hc:c<=8)(hk:k<=c){es:List Rat}(pw:es.Pairwise (· < ·))(me:∀q,q∈es↔∃i,i<c/\∃j,j<i/\Mt A B i j q):∀x∈qR A B c k ((cD es).zip ((cD es).drop 1)),GX A B c k x:=λx m=>by
 have hg:=Gb (Gd h me)
 obtain⟨e1,e2⟩:=ahN (A:=A) (B:=B) (c:=c) (k:=k) (Q:=Eg) _ (λp mp=>⟨hg _ (List.of_mem_zip mp).1,hg _ (List.mem_of_mem_drop (List.of_mem_zip mp).2)⟩) x m
 obtain⟨l,Z,ez,hb⟩:=Xm _ _ _ (ahl h c1 hc hk pw me) x m
 obtain⟨Y,p,ey⟩:=ahc Z
 exact⟨e1,e2,l,Y,ez.trans ey,(Xh p).trans ez.symm,λw w1 w2=>(hb w w1 w2).perm p.symm⟩
theorem Best.wk{Y:List Nat}(b:Best V c k Y):∀i∈Y,i<c/\∀j,j<c->j∉Y->¬V i<V j:=λi m=>⟨b.lt i m,λj hj n=>by have:=b.bt i m j hj n; unfold Bt at this; grind⟩
theorem X3{s e:Rat}{Y:List Nat}(se:s<e)(hb:∀w,s<w->w<e->Best (vw A B w) c k Y):∀i∈Y,i<c/\∀j,j<c->j∉Y->¬vw A B s i<vw A B s j:=λi m=>by
 refine⟨(hb ((s+e) / 2) (by grind) (by grind)).lt i m,λj hj n=>?_⟩
 have z:=Xl (g:=B i-B j) (κ := (A i-A j)-(B i-B j)) se λw w1 w2=>by
  have:=((hb w w1 w2).wk i m).2 j hj n
  have:=qU (A:=A) (B:=B) (i:=i) (j:=j) w
  grind
 have:=qU (A:=A) (B:=B) (i:=i) (j:=j) s
 grind
theorem X4{s e:Rat}{Y:List Nat}(se:s<e)(hb:∀w,s<w->w<e->Best (vw A B w) c k Y):∀i∈Y,i<c/\∀j,j<c->j∉Y->¬vw A B e i<vw A B e j:=λi m=>by
 refine⟨(hb ((s+e) / 2) (by grind) (by grind)).lt i m,λj hj n=>?_⟩
 have z:=Xl (g:=B i-B j) (κ := -((A i-A j)-(B i-B j))) (s := -e) (e := -s) (by grind) λw w1 w2=>by
  have:=((hb (-w) (by grind) (by grind)).wk i m).2 j hj n
  have:=qU (A:=A) (B:=B) (i:=i) (j:=j) (-w)
  grind
 have:=qU (A:=A) (B:=B) (i:=i) (j:=j) e
 grind
theorem X5{ρ : En}{fi:IF}{ys:List Nat}(hi:fi ρ=.ok (ys.map (Ah V),ρ))(hl:ys.length<64):dR [none,none] fi (gT 2 (bA (gN 0) (bA (gN 1) dz))) c7 (aj 0) ρ=.ok (.v (.lst (ys.map iT)) true,ρ):=by
 obtain⟨t0,t1,ec⟩:=Ng (r:=iT) (s:=λi=>qT (V i)) (τ:=[]) ys .un .un
 rw[Fw,hi]
 simp only[Fv]
 rw[if_pos (by rw[List.length_map]; omega)]
 show bd (dO (iU _ _ _ (ys.map λx=>Tr.tup [iT x,qT (V x)]) [.un,.un])) _ _=_
 rw[ec]
 rfl
theorem ahP{ys:List Nat}(hl:ys.length<64):mG (.lst (ys.map iT))=.ok (iL (iW ys),true):=by
 unfold mG
 simp only[W9]
 rw[if_pos (by rw[List.length_map]; exact hl)]
 rfl
theorem X6(hb:Bk c [bf A c,bf B c])(h:B40 A B c)(hc:c<=8)(hk:k<=c){w:Rat}(hw:Bq 493 w)(hv:Bq 493 (1-w))(w0:0<=w)(w1:w<=1):∃ys:List Nat,mH [aO A B c,jz w (1-w),.int k]=.ok (.lst (ys.map (Ah (vw A B w))),true)/\Best (vw A B w) c k ys :=
 ⟨_,W8 hb hk (WX hw hv w0 (by grind)) (WY h (by omega) hw hv (by omega)) (Aj h hw hv) (by have:1067*c<=1067*8:=Nat.mul_le_mul_left _ hc; omega),Xj (Xn h hb.2.2.1 hc hw hv) hk⟩
theorem X7{s:Rat}(h:Eg s):Bq 493 s/\Bq 493 (1-s):=⟨h.1.up (by omega),(lK.sub h.1).up (by omega)⟩
theorem X8(zs:List Int):dep (iL zs)=1:=by unfold iL; rw[Fx,Nh]
theorem ahQ(x:bN):dep (aX x)<=2:=by
 unfold aX
 rw[Mr,nU,nU,nU,Aa,X8]
 unfold qT
 rw[Ac,Ac]
 decide
theorem ahR(ss:List bN):dep (.lst (ss.map aX))<=40:=by
 rw[Fx]
 have:=V5 (n:=2) (ts:=ss.map aX) λt m=>by obtain⟨x,_,rfl⟩:=List.mem_map.mp m; exact ahQ x
 omega
theorem in2(w a b:Rat):iK id (qT w) (.tup [qT a,qT b])=.ok (.bl (decide (a=w) || decide (b=w)),false):=by
 have e:∀p q:Rat,eqT (qT p) (qT q)=decide (p=q):=λp q=>by
  unfold qT fT
  simp only[eqT,jo,pO]
  rw[Bool.eq_iff_iff,decide_eq_true_eq,<-Ws]
  simp[qp]
 have d:∀p:Rat,dep (qT p)=1:=λp=>Ac _
 show(if deps [qT a,qT b]<=40/\dep (qT w)<=40 then Rs.ok (Tr.bl (id (pZ (qT w) [qT a,qT b])),false)else .bad)=_
 rw[if_pos (by rw[nU,nU,Aa,d,d,d]; decide)]
 unfold pZ
 simp[e]
theorem Yb{l:List (Int × Int)}(h:l.length=c/\∀x∈l,Wo x):∃A:Nat->Rat,l=bf A c/\(∀i,i<c->Bq 40 (A i))/\∀i,i<c->0<=A i:=by
 have key:∀i,i<c->l.getD i (0,1)=qp (val (l.getD i (0,1)))/\Bq 40 (val (l.getD i (0,1)))/\0<=val (l.getD i (0,1)):=λi hi=>by
  have m:l.getD i (0,1)∈l:=by
   rw[List.getD_eq_getElem?_getD,List.getElem?_eq_getElem (by omega)]
   exact List.getElem_mem _
  obtain⟨w1,w2,w3,w4,w5⟩:=h.2 _ m
  have e:=Wn w3 w5
  refine⟨e,?_⟩
  have e1:(l.getD i (0,1)).1=(val (l.getD i (0,1))).num:=congrArg Prod.fst e
  have e2:(l.getD i (0,1)).2=((val (l.getD i (0,1))).den:Int):=congrArg Prod.snd e
  exact⟨⟨by omega,by omega⟩,Rat.num_nonneg.mp (by omega)⟩
 refine⟨λi=>val (l.getD i (0,1)),?_,λi hi=>(key i hi).2.1,λi hi=>(key i hi).2.2⟩
 have:=Wf l
 rw[h.1]at this
 unfold bf
 conv=>lhs; rw[<-this]
 exact List.map_congr_left λi m=>(key i (List.mem_range.mp m)).1
theorem Yc:∀(l ss:List bN),(l.foldl sX ss).length<=ss.length+l.length
 | [],ss=>Nat.le_refl _
 |y::l,ss=>by
  have:=Yc l (sX ss y)
  have:=Xe ss y.1 y.2.1 y.2.2
  rw[List.foldl_cons,List.length_cons]
  unfold sX at *
  omega
theorem ahS(ps:List (Rat × Rat)):(qR A B c k ps).length<=ps.length:=by
 rw[Ge]
 have:=Yc (ps.map (seg A B c k)) []
 rw[List.length_map,List.length_nil,Nat.zero_add]at this
 exact this
end
end BH
end
section
namespace K98
open PySem L2 BH
theorem Nr(Y:List Nat):iL (Y.map λi:Nat=>(i:Int))=.lst (Y.map iT):=by
 unfold iL
 rw[List.map_map]
 rfl
theorem ahT{C D:BF}{f f':SF}{ρ : En}(h:C ρ=.ok (false,ρ))(k:D ρ=.ok (false,ρ)):aJ (cA C f cB) (cA D f' cB) ρ=.ok (.nx,ρ):=bY (lH h rfl) (lH k rfl)
abbrev lC1:BF:=(iR (cZ (aG mO (ak (aj 12) (ak (aj 9) au)))) (iR (cZ (aG mO (ak (aj 9) (ak (aj 13) au)))) (cg (aq fC (aj 14) (aj 11)))))
abbrev lC2:BF:=(iR (cg (aq (iK id) (aj 9) (gk (ak (aj 12) (ak (aj 13) au))))) (fP (cZ (aG jM (ak (aj 1) (ak (aj 9) (ak (aj 14) au)))))))
abbrev Nt:SF:=aJ (cA lC1 (bB (eC (.bl false))) cB) (cA lC2 (bB (eC (.bl false))) cB)
noncomputable abbrev Nu:SF:=(aJ (aV (aG j8 (ak (aj 0) (ak (aq bW (eC (.int 7)) (aj 6)) au))) (gN 7)) (aJ (aV (aq bW (eC (.int 1)) (aq dh (aj 7) (eC (.int 40)))) (gN 8)) (aJ (aV (aG jx (ak (aq dh (aq eO (aj 7) (eC (.int 40))) (aq bW (aj 8) (eC (.int 1)))) (ak (aj 8) au))) (gN 9)) (aJ (aV (gk (ak (eC (.str "shares")) (ak (iB (ak (aj 9) (ak (aG iV (ak (eC (.tup [.int 1,.int 1])) (ak (aj 9) au))) au))) au))) (gN 10)) (aJ (aV (bK (g1 mG) (ak (dR [none,none] (cW (aG mH (ak (aj 1) (ak (aj 10) (ak (aj 2) au))))) (gT 2 (bA (gN 0) (bA (gN 1) dz))) c7 (aj 0)) au)) (gN 11)) (fQ (cW (aj 3)) (gT 3 (bA (gN 12) (bA (gN 13) (bA (gN 14) dz)))) Nt))))))
noncomputable abbrev Nv:SF:=(aJ (aV (aq aC (aj 3) (aj 6)) (gT 3 (bA (gN 12) (bA (gN 13) (bA (gN 14) dz))))) (aJ (cA (lB (fP (cZ (aG jM (ak (aj 1) (ak (aj 12) (ak (aj 14) au)))))) (fP (cZ (aG jM (ak (aj 1) (ak (aj 13) (ak (aj 14) au))))))) (bB (eC (.bl false))) cB) (aJ (aV (aq aC (aq aC (aj 4) (aq iM (aq iM (bK (g1 bM) (ak (aj 4) au)) (eC (.int 1))) (aj 6))) (eC (.int 1))) (gN 15)) (aJ (aV (dR [none,none] (cW (aG mH (ak (aj 1) (ak (gk (ak (eC (.str "shares")) (ak (iB (ak (aj 12) (ak (aj 15) au))) au))) (ak (aj 2) au))))) (gT 2 (bA (gN 0) (bA (gN 1) dz))) c7 (aj 0)) (gN 16)) (cA (lB (cg (aq fC (bK (g1 bM) (ak (aj 16) au)) (aj 2))) (fP (cZ (aG jM (ak (aj 1) (ak (aj 12) (ak (aj 16) au))))))) (bB (eC (.bl false))) cB)))))
section
variable {A B:Nat->Rat}{c k:Nat}
theorem ahU(h:B40 A B c)(hn:Nn A B c)(hc:c<=8){w:Rat}(hw:Bq 200 w)(w0:0<=w)(w1:w<=1){ys:List Nat}(hy:Best (vw A B w) c k ys){x:bN}(g:GX A B c k x)(x0 x3 x4 x5 x6 x7 x8 x10 dG dH:Sl):Nt [x0,.sh (aO A B c),.sh (.int k),x3,x4,x5,x6,x7,x8,.sh (qT w),x10,.sh (iL (iW ys)),.sh (qT x.1),.sh (qT x.2.1),.sh (iL x.2.2),dG,dH]=.ok (.nx,[x0,.sh (aO A B c),.sh (.int k),x3,x4,x5,x6,x7,x8,.sh (qT w),x10,.sh (iL (iW ys)),.sh (qT x.1),.sh (qT x.2.1),.sh (iL x.2.2),dG,dH]):=by
 obtain⟨Y,y1,y2,yb⟩:=g.ex
 have b1:=Np g.lo.1 hw (by omega)
 have b2:=Np hw g.hi.1 (by omega)
 have hv:Bq 493 (1-w):=(lK.sub hw).up (by omega)
 have hw':Bq 493 w:=hw.up (by omega)
 have i2:=in2 w x.1 x.2.1
 refine ahT ?_ ?_
 ·cases d1:decide (x.1<w)with
  |false=>rw[d1]at b1; exact xX (jO (bV (z:=(.bl false,false)) rfl rfl rfl b1) rfl rfl)
  |true =>
   rw[d1]at b1
   refine vX (jO (bV (z:=(.bl true,false)) rfl rfl rfl b1) rfl rfl) ?_
   cases d2:decide (w<x.2.1)with
   |false=>rw[d2]at b2; exact xX (jO (bV (z:=(.bl false,false)) rfl rfl rfl b2) rfl rfl)
   |true =>
    rw[d2]at b2
    have e:iW ys=x.2.2:=(Xh (hy.uniq (yb w (of_decide_eq_true d1) (of_decide_eq_true d2)))).trans y2
    have n:fC (iL x.2.2) (iL (iW ys))=.ok (.bl false,false):=by rw[e]; exact xU (by rw[X8]; omega)
    exact vX (jO (bV (z:=(.bl true,false)) rfl rfl rfl b2) rfl rfl) (jy (bU (z:=(.bl false,false)) rfl rfl rfl rfl n) rfl)
 ·cases d:(decide (x.1=w) || decide (x.2.1=w))with
  |false=>rw[d]at i2; exact xX (jy (bU (z:=(.bl false,false)) (T:=qT w) (U:=.tup [qT x.1,qT x.2.1]) rfl rfl rfl rfl i2) rfl)
  |true =>
   rw[d]at i2
   refine vX (jy (bU (z:=(.bl true,false)) (T:=qT w) (U:=.tup [qT x.1,qT x.2.1]) rfl rfl rfl rfl i2) rfl) ?_
   have bb:jM [aO A B c,qT w,iL x.2.2]=.ok (.bl true,false):=by
    rw[y1,Nr]
    refine Gp h hn hw' hv w0 w1 (by omega) ?_
    rw[Bool.or_eq_true,decide_eq_true_eq,decide_eq_true_eq]at d
    rcases d with d|d
    ·rw[<-d]; exact X3 g.lt yb
    ·rw[<-d]; exact X4 g.lt yb
   exact xW (jO (bV (z:=(.bl true,false)) rfl rfl rfl bb) rfl rfl)
theorem Yd(h:B40 A B c)(hn:Nn A B c)(hc:c<=8){w:Rat}(hw:Bq 200 w)(w0:0<=w)(w1:w<=1){ys:List Nat}(hy:Best (vw A B w) c k ys)(x0 x3 x4 x5 x6 x7 x8 x10 dG dH:Sl):∀(ss:List bN) (x12 eU eV:Sl),(∀x∈ss,GX A B c k x)->∃cH fV fW,fM (gT 3 (bA (gN 12) (bA (gN 13) (bA (gN 14) dz)))) Nt (ss.map aX) [x0,.sh (aO A B c),.sh (.int k),x3,x4,x5,x6,x7,x8,.sh (qT w),x10,.sh (iL (iW ys)),x12,eU,eV,dG,dH]=.ok (.nx,[x0,.sh (aO A B c),.sh (.int k),x3,x4,x5,x6,x7,x8,.sh (qT w),x10,.sh (iL (iW ys)),cH,fV,fW,dG,dH])
 | [],x12,eU,eV,_=>⟨x12,eU,eV,rfl⟩
 |x::ss,x12,eU,eV,g=>by
  obtain⟨cH,fV,fW,e⟩:=Yd h hn hc hw w0 w1 hy x0 x3 x4 x5 x6 x7 x8 x10 dG dH ss (.sh (qT x.1)) (.sh (qT x.2.1)) (.sh (iL x.2.2)) λy m=>g y (by simp[m])
  exact⟨cH,fV,fW,pQ rfl (ahU h hn hc hw w0 w1 hy (g x (by simp)) x0 x3 x4 x5 x6 x7 x8 x10 dG dH) e⟩
theorem ahV(ns:List Int)(hb:Bk c [bf A c,bf B c])(h:B40 A B c)(hn:Nn A B c)(hc:c<=8)(hk:k<=c){ss:List bN}(g:∀x∈ss,GX A B c k x)(j:Nat)(x4 x5 x7 x8 x9 x10 x11 x12 eU eV dG dH:Sl):∃t7 t8 t9 t10 t11 cH fV fW,Nu [.sh (.lst (ns.map .int)),.sh (aO A B c),.sh (.int k),.sh (.lst (ss.map aX)),x4,x5,.sh (.int j),x7,x8,x9,x10,x11,x12,eU,eV,dG,dH]=.ok (.nx,[.sh (.lst (ns.map .int)),.sh (aO A B c),.sh (.int k),.sh (.lst (ss.map aX)),x4,x5,.sh (.int j),t7,t8,t9,t10,t11,cH,fV,fW,dG,dH]):=by
 obtain⟨y,ey,y0,_⟩:=cell_eq ns (7+j)
 have r1:=nZ y 40 (by omega)
 obtain⟨b,hb1⟩:∃b:Int,b=1+y.fmod 40:=⟨_,rfl⟩
 have r2:=nZ (y.fdiv 40) (b+1) (by omega)
 obtain⟨a,ha⟩:∃a:Int,a=(y.fdiv 40).fmod (b+1):=⟨_,rfl⟩
 have ef:=Gm (a:=a) (b:=b) (M:=10) (by omega) (by omega) (by omega) (by omega)
 have bw:Bq 10 ((a:Rat) / (b:Rat)):=Bq.div (by omega) (by omega) (by omega)
 have pb:=ipos (b:=b) (by omega)
 have w0:0<=(a:Rat) / (b:Rat):=by
  have:(0:Rat)<=(a:Rat):=by exact_mod_cast (show 0<=a by omega)
  have:=Rat.div_mul_cancel (a:=(a:Rat)) (b:=(b:Rat)) (by grind)
  refine Classical.byContradiction λn=>?_
  have:=Rat.mul_pos (show 0 < -((a:Rat) / (b:Rat)) by grind) pb
  grind
 have w1:(a:Rat) / (b:Rat)<=1:=by
  have l:(a:Rat)<=(b:Rat):=by exact_mod_cast (show a<=b by omega)
  have:=Rat.div_mul_cancel (a:=(a:Rat)) (b:=(b:Rat)) (by grind)
  refine Classical.byContradiction λn=>?_
  have:=Rat.mul_pos (show 0<(a:Rat) / (b:Rat)-1 by grind) pb
  grind
 generalize (a:Rat) / (b:Rat)=w at *
 have hw:Bq 200 w:=bw.up (by omega)
 have hw':Bq 493 w:=bw.up (by omega)
 have hv:Bq 493 (1-w):=(lK.sub bw).up (by omega)
 have f1:=Gn lK bw w1 (by omega)
 obtain⟨ys,eb,by_⟩:=X6 hb h hc hk hw' hv w0 w1
 have yl:ys.length<64:=by rw[by_.len]; omega
 obtain⟨cH,fV,fW,el⟩:=Yd h hn hc hw w0 w1 by_ (.sh (.lst (ns.map .int))) (.sh (.lst (ss.map aX))) x4 x5 (.sh (.int j)) (.sh (.int y)) (.sh (.int b)) (.sh (jz w (1-w))) dG dH ss x12 eU eV g
 have d1:eO (.int y) (.int 40)=.ok (.int (y.fdiv 40),false):=by
  have:lu y 40=true:=tM (M:=10) (by omega) (by omega) (by omega)
  simp[eO,gK,this]
 have d2:dh (.int (y.fdiv 40)) (.int (b+1))=.ok (.int a,false):=by
  have:b+1≠0:=by omega
  simp[dh,gK,this,ha]
 have g8:bW (.int 1) (.int (y.fmod 40))=.ok (.int b,false):=by rw[hb1]; rfl
 have ey':j8 [.lst (ns.map .int),.int (7+(j:Int))]=.ok (.int y,false):=by
  have e:((7+j:Nat):Int)=7+(j:Int):=by omega
  rw[<-e]; exact ey
 exact⟨_,_,_,_,_,cH,fV,fW,bY (fU (bV (z:=(.int y,false)) rfl rfl rfl ey')) (bY (fU (bU (z:=(.int b,false)) (U:=.int (y.fmod 40)) rfl rfl rfl rfl g8)) (bY (fU (bV (z:=(qT w,false)) (bT (bU (z:=(.int a,false)) (U:=.int (b+1)) (bU (z:=(.int (y.fdiv 40),false)) rfl rfl rfl rfl d1) rfl rfl rfl d2) (bT rfl rfl)) rfl rfl ef)) (bY (fU (FJ (ts:=[.str "shares",bH [qp w,qp (1-w)]]) (bT rfl (bT (Wj (ts:=[qT w,qT (1-w)]) (bT rfl (bT (bV (z:=(qT (1-w),false)) rfl rfl rfl f1) rfl)) rfl (by show 2<=1000; omega)) rfl)) rfl (by show 2<=1000; omega))) (bY (fU (j9 (z:=(iL (iW ys),true)) (bT (X5 (V:=vw A B w) (bk (bV rfl rfl rfl eb) rfl) yl) rfl) rfl (ahP yl))) (pP rfl el)))))⟩
end
section
variable {A B:Nat->Rat}{c k:Nat}
theorem ahW{ss:List bN}{j:Nat}{x:bN}(h:ss[j]?=some x):(ss.map dD).reverse[ss.length-1-j]?=some (dD x):=by
 obtain⟨l,e⟩:=List.getElem?_eq_some_iff.mp h
 rw[List.getElem?_reverse (by rw[List.length_map]; omega),List.length_map,List.getElem?_map,show ss.length-1-(ss.length-1-j)=j by omega,h]
 rfl
theorem Nx(ts:List Tr){n:Nat}(h:ts.length=n):bM (.lst ts)=.ok (.int (n:Int),false):=by
 show Rs.ok (Tr.int (ts.length:Int),false)=_
 rw[h]
theorem ahX(hb:Bk c [bf A c,bf B c])(h:B40 A B c)(hn:Nn A B c)(hc:c<=8)(hk:k<=c){ss:List bN}(g:∀x∈ss,GX A B c k x){j:Nat}{x:bN}(hx:ss[j]?=some x)(x0 x5 x7 x8 x9 x10 x11 x12 eU eV dG dH:Sl):∃cH fV fW mW mX,Nv [x0,.sh (aO A B c),.sh (.int k),.sh (.lst (ss.map aX)),.sh (.lst ((ss.map dD).reverse.map aX)),x5,.sh (.int j),x7,x8,x9,x10,x11,x12,eU,eV,dG,dH]=.ok (.nx,[x0,.sh (aO A B c),.sh (.int k),.sh (.lst (ss.map aX)),.sh (.lst ((ss.map dD).reverse.map aX)),x5,.sh (.int j),x7,x8,x9,x10,x11,cH,fV,fW,mW,mX]):=by
 obtain⟨jl,_⟩:=List.getElem?_eq_some_iff.mp hx
 have gx:=g x (List.mem_of_getElem? hx)
 obtain⟨Y,y1,y2,yb⟩:=gx.ex
 obtain⟨l1,l2⟩:=X7 gx.lo
 obtain⟨h1,h2⟩:=X7 gx.hi
 have b1:jM [aO A B c,qT x.1,iL x.2.2]=.ok (.bl true,false):=by
  rw[y1,Nr]
  exact Gp h hn l1 l2 gx.lo.2.1 gx.lo.2.2 (by omega) (X3 gx.lt yb)
 have b2:jM [aO A B c,qT x.2.1,iL x.2.2]=.ok (.bl true,false):=by
  rw[y1,Nr]
  exact Gp h hn h1 h2 gx.hi.2.1 gx.hi.2.2 (by omega) (X4 gx.lt yb)
 obtain⟨ys,eb,by_⟩:=X6 hb h hc hk l1 l2 gx.lo.2.1 gx.lo.2.2
 have yl:ys.length<64:=by rw[by_.len]; omega
 have b3:jM [aO A B c,qT x.1,.lst (ys.map iT)]=.ok (.bl true,false):=Gp h hn l1 l2 gx.lo.2.1 gx.lo.2.2 (by omega) by_.wk
 have i1:aC (.lst (ss.map aX)) (.int j)=.ok (aX x,false):=tO (by rw[List.getElem?_map,hx]; rfl)
 have i2:aC (.lst ((ss.map dD).reverse.map aX)) (.int ((ss.length:Int)-1-(j:Int)))=.ok (aX (dD x),false):=by
  rw[show(ss.length:Int)-1-(j:Int)=((ss.length-1-j:Nat):Int) by omega]
  exact tO (by rw[List.getElem?_map,ahW hx]; rfl)
 have ln:bM (.lst ((ss.map dD).reverse.map aX))=.ok (.int (ss.length:Int),false):=Nx _ (by rw[List.length_map,List.length_reverse,List.length_map])
 have ly:bM (.lst (ys.map iT))=.ok (.int (k:Int),false):=Nx _ (by rw[List.length_map,by_.len])
 have nk:fC (.int (k:Int)) (.int (k:Int))=.ok (.bl false,false):=xU (by rw[jN]; omega)
 exact⟨_,_,_,_,_,bY (agy (T:=aX x) (bU (z:=(aX x,false)) rfl rfl rfl rfl i1) rfl) (bY (lH (Wk (xW (jO (bV (z:=(.bl true,false)) rfl rfl rfl b1) rfl rfl)) (xW (jO (bV (z:=(.bl true,false)) rfl rfl rfl b2) rfl rfl))) rfl) (bY (fU (bU (z:=(qT (1-x.1),false)) (bU (z:=(aX (dD x),false)) (U:=.int ((ss.length:Int)-1-(j:Int))) rfl (bU (z:=(.int ((ss.length:Int)-1-(j:Int)),false)) (T:=.int ((ss.length:Int)-1)) (bU (z:=(.int ((ss.length:Int)-1),false)) (j9 (z:=(.int (ss.length:Int),false)) rfl rfl ln) rfl rfl rfl rfl) rfl rfl rfl rfl) rfl rfl i2) rfl rfl rfl rfl)) (bY (fU (X5 (V:=vw A B x.1) (bk (bV (as:=[aO A B c,jz x.1 (1-x.1),.int k]) rfl rfl rfl eb) rfl) yl)) (lH (Wk (jy (bU (z:=(.bl false,false)) (j9 (z:=(.int (k:Int),false)) rfl rfl ly) rfl rfl rfl nk) rfl) (xW (jO (bV (z:=(.bl true,false)) rfl rfl rfl b3) rfl rfl))) rfl))))⟩
theorem Ye(hb:Bk c [bf A c,bf B c])(h:B40 A B c)(hn:Nn A B c)(hc:c<=8)(hk:k<=c){ss:List bN}(g:∀x∈ss,GX A B c k x)(x0 x5 x7 x8 x9 x10 x11:Sl):∀(js:List Nat) (x6 x12 eU eV dG dH:Sl),(∀j∈js,j<ss.length)->∃t6 cH fV fW mW mX,fM (gN 6) Nv (js.map λi:Nat=>Tr.int i) [x0,.sh (aO A B c),.sh (.int k),.sh (.lst (ss.map aX)),.sh (.lst ((ss.map dD).reverse.map aX)),x5,x6,x7,x8,x9,x10,x11,x12,eU,eV,dG,dH]=.ok (.nx,[x0,.sh (aO A B c),.sh (.int k),.sh (.lst (ss.map aX)),.sh (.lst ((ss.map dD).reverse.map aX)),x5,t6,x7,x8,x9,x10,x11,cH,fV,fW,mW,mX])
 | [],x6,x12,eU,eV,dG,dH,_=>⟨x6,x12,eU,eV,dG,dH,rfl⟩
 |j::js,x6,x12,eU,eV,dG,dH,hj=>by
  obtain⟨yc,yd,yg,Gq,u16,e⟩:=ahX hb h hn hc hk g (List.getElem?_eq_getElem (hj j (by simp))) x0 x5 x7 x8 x9 x10 x11 x12 eU eV dG dH
  obtain⟨t6,cH,fV,fW,mW,mX,e'⟩:=Ye hb h hn hc hk g x0 x5 x7 x8 x9 x10 x11 js (.sh (.int j)) yc yd yg Gq u16 λi m=>hj i (by simp[m])
  exact⟨t6,cH,fV,fW,mW,mX,pQ rfl e e'⟩
theorem Yg(ns:List Int)(hb:Bk c [bf A c,bf B c])(h:B40 A B c)(hn:Nn A B c)(hc:c<=8)(hk:k<=c){ss:List bN}(g:∀x∈ss,GX A B c k x)(x4 x5 dG dH:Sl):∀(js:List Nat) (x6 x7 x8 x9 x10 x11 x12 eU eV:Sl),∃t6 t7 t8 t9 t10 t11 cH fV fW,fM (gN 6) Nu (js.map λi:Nat=>Tr.int i) [.sh (.lst (ns.map .int)),.sh (aO A B c),.sh (.int k),.sh (.lst (ss.map aX)),x4,x5,x6,x7,x8,x9,x10,x11,x12,eU,eV,dG,dH]=.ok (.nx,[.sh (.lst (ns.map .int)),.sh (aO A B c),.sh (.int k),.sh (.lst (ss.map aX)),x4,x5,t6,t7,t8,t9,t10,t11,cH,fV,fW,dG,dH])
 | [],x6,x7,x8,x9,x10,x11,x12,eU,eV=>⟨x6,x7,x8,x9,x10,x11,x12,eU,eV,rfl⟩
 |j::js,x6,x7,x8,x9,x10,x11,x12,eU,eV=>by
  obtain⟨u7,u8,u9,Ny,Nz,yc,yd,yg,e⟩:=ahV ns hb h hn hc hk g j x4 x5 x7 x8 x9 x10 x11 x12 eU eV dG dH
  obtain⟨t6,t7,t8,t9,t10,t11,cH,fV,fW,e'⟩:=Yg ns hb h hn hc hk g x4 x5 dG dH js (.sh (.int j)) u7 u8 u9 Ny Nz yc yd yg
  exact⟨t6,t7,t8,t9,t10,t11,cH,fV,fW,pQ rfl e e'⟩
theorem Yh:∀(xs:List bN) (s0 s1 s2:Sl),(∀x∈xs,(Bq 300 x.1/\x.1<=1)/\Bq 300 x.2.1/\x.2.1<=1)->∃t0 t1 t2,iU (gT 3 (bA (gN 0) (bA (gN 1) (bA (gN 2) dz)))) c7 (gk (ak (aG iV (ak (eC (.tup [.int 1,.int 1])) (ak (aj 1) au))) (ak (aG iV (ak (eC (.tup [.int 1,.int 1])) (ak (aj 0) au))) (ak (aj 2) au)))) (xs.map aX) [s0,s1,s2]=.ok (xs.map λx=>aX (dD x),[t0,t1,t2])
 | [],s0,s1,s2,_=>⟨s0,s1,s2,rfl⟩
 |x::xs,s0,s1,s2,hx=>by
  obtain⟨a,b⟩:=hx x (by simp)
  obtain⟨t0,t1,t2,e⟩:=Yh xs (.sh (qT x.1)) (.sh (qT x.2.1)) (.sh (iL x.2.2)) λy m=>hx y (by simp[m])
  refine⟨t0,t1,t2,?_⟩
  have f1:=Gn lK b.1 b.2 (by omega)
  have f2:=Gn lK a.1 a.2 (by omega)
  have t:(gk (ak (aG iV (ak (eC (.tup [.int 1,.int 1])) (ak (aj 1) au))) (ak (aG iV (ak (eC (.tup [.int 1,.int 1])) (ak (aj 0) au))) (ak (aj 2) au)))) [.sh (qT x.1),.sh (qT x.2.1),.sh (iL x.2.2)]=.ok (.v (aX (dD x)) false,[.sh (qT x.1),.sh (qT x.2.1),.sh (iL x.2.2)]):=FJ (ts:=[qT (1-x.2.1),qT (1-x.1),iL x.2.2]) (bT (bV (z:=(qT (1-x.2.1),false)) rfl rfl rfl f1) (bT (bV (z:=(qT (1-x.1),false)) rfl rfl rfl f2) (bT rfl rfl))) rfl (by show 3<=1000; omega)
  exact bk (a:=[.sh (qT x.1),.sh (qT x.2.1),.sh (iL x.2.2)]) rfl (bk (a:=(true,[.sh (qT x.1),.sh (qT x.2.1),.sh (iL x.2.2)])) rfl ((if_pos rfl).trans (bk t (bk rfl (bk e rfl)))))
theorem ahY{ρ : En}{fi:IF}{xs:List bN}(hi:fi ρ=.ok (xs.map aX,ρ))(hl:xs.length<=1000)(hx:∀x∈xs,(Bq 300 x.1/\x.1<=1)/\Bq 300 x.2.1/\x.2.1<=1):dR [none,none,none] fi (gT 3 (bA (gN 0) (bA (gN 1) (bA (gN 2) dz)))) c7 (gk (ak (aG iV (ak (eC (.tup [.int 1,.int 1])) (ak (aj 1) au))) (ak (aG iV (ak (eC (.tup [.int 1,.int 1])) (ak (aj 0) au))) (ak (aj 2) au)))) ρ=.ok (.v (.lst (xs.map λx=>aX (dD x))) true,ρ):=by
 obtain⟨v0,v1,v2,ec⟩:=Yh xs .un .un .un hx
 rw[Fw,hi]
 refine(if_pos (show(xs.map aX).length<=100000 by rw[List.length_map]; omega)).trans ?_
 show bd (dO (iU _ _ _ (xs.map aX) [.un,.un,.un])) _ _=_
 rw[ec]
 rfl
end
noncomputable abbrev Yi:SF:=aJ (aV (aG vM (ak (aj 1) (ak (aj 2) au))) (gN 3)) (aJ (aV (aG vM (ak (vf (aj 1)) (ak (aj 2) au))) (gN 4)) (aJ (aV (dR [none,none,none] (cW (aj 4)) (gT 3 (bA (gN 0) (bA (gN 1) (bA (gN 2) dz)))) c7 (gk (ak (aG iV (ak (eC (.tup [.int 1,.int 1])) (ak (aj 1) au))) (ak (aG iV (ak (eC (.tup [.int 1,.int 1])) (ak (aj 0) au))) (ak (aj 2) au))))) (gN 5)) (aJ (cA (cg (aq fC (vf (aj 5)) (aj 3))) (bB (eC (.bl false))) cB) (aJ (fQ (fH (ak (eC (.int 4)) au)) (gN 6) Nu) (fQ (fH (ak (bK (g1 bM) (ak (aj 3) au)) au)) (gN 6) Nv)))))
section
variable {A B:Nat->Rat}{c k:Nat}
variable (ns:List Int)(hb:Bk c [bf A c,bf B c])(hb':Bk c [bf B c,bf A c])(h:B40 A B c)(h':B40 B A c)(hn:Nn A B c)(hc:c<=8){es fs:List Rat}(e1:tL [aO A B c]=.ok (bH (es.map qp),true))(p1:es.Pairwise (· < ·))(m1:∀q,q∈es↔∃i,i<c/\∃j,j<i/\Mt A B i j q)(l1:es.length<=28)(e2:tL [aO B A c]=.ok (bH (fs.map qp),true))(p2:fs.Pairwise (· < ·))(m2:∀q,q∈fs↔∃i,i<c/\∃j,j<i/\Mt B A i j q)(l2:fs.length<=28)
include hb hb' h h' hn hc e1 p1 m1 l1 e2 p2 m2 l2
theorem ahZ(hk:k<=c)(x3 x4 x5 x6 x7 x8 x9 x10 x11 x12 eU eV dG dH:Sl):∃t3 t4 t5 t6 t7 t8 t9 t10 t11 cH fV fW mW mX,Yi [.sh (.lst (ns.map .int)),.sh (aO A B c),.sh (.int k),x3,x4,x5,x6,x7,x8,x9,x10,x11,x12,eU,eV,dG,dH]=.ok (.nx,[.sh (.lst (ns.map .int)),.sh (aO A B c),.sh (.int k),t3,t4,t5,t6,t7,t8,t9,t10,t11,cH,fV,fW,mW,mX]):=by
 have c1:=hb.2.2.1
 have s1:=Xg hb h hc hk e1 (Gd h m1) l1
 have s2:=Xg hb' h' hc hk e2 (Gd h' m2) l2
 rw[ahx p1 p2 m1 m2]at s2
 have g:=ahO h c1 hc hk p1 m1
 have sl:=ahS (A:=A) (B:=B) (c:=c) (k:=k) ((cD es).zip ((cD es).drop 1))
 have el:((cD es).zip ((cD es).drop 1)).length<=100:=by rw[List.length_zip]; unfold cD; simp; omega
 generalize qR A B c k ((cD es).zip ((cD es).drop 1))=ss at *
 have rg:∀x∈(ss.map dD).reverse,(Bq 300 x.1/\x.1<=1)/\Bq 300 x.2.1/\x.2.1<=1:=λx m=>by
  rw[List.mem_reverse]at m
  obtain⟨y,my,rfl⟩:=List.mem_map.mp m
  have gy:=g y my
  have k1:=gy.lo
  have k2:=gy.hi
  have n1:=k1.2.1
  have n2:=k2.2.1
  exact⟨⟨(lK.sub k2.1).up (by omega),by show 1-y.2.1<=1; grind⟩,(lK.sub k1.1).up (by omega),by show 1-y.1<=1; grind⟩
 have er:((ss.map dD).reverse.map λx=>aX (dD x)).reverse=ss.map aX:=by
  rw[List.map_reverse,List.reverse_reverse,List.map_map]
  exact List.map_congr_left λx _=>congrArg aX (ahm x)
 have r5:zf (.lst ((ss.map dD).reverse.map λx=>aX (dD x)))=.ok (.lst (ss.map aX),true):=by
  rw[<-er]
  rfl
 obtain⟨t6,t7,t8,t9,t10,t11,cH,fV,fW,b4⟩:=Yg ns hb h hn hc hk g (.sh (.lst ((ss.map dD).reverse.map aX))) (.sh (.lst ((ss.map dD).reverse.map λx=>aX (dD x)))) dG dH (List.range 4) x6 x7 x8 x9 x10 x11 x12 eU eV
 obtain⟨u6,yc,yd,yg,Gq,u16,b5⟩:=Ye hb h hn hc hk g (.sh (.lst (ns.map .int))) (.sh (.lst ((ss.map dD).reverse.map λx=>aX (dD x)))) t7 t8 t9 t10 t11 (List.range ss.length) t6 cH fV fW dG dH λj m=>List.mem_range.mp m
 have ln:bM (.lst (ss.map aX))=.ok (.int (ss.length:Int),false):=Nx _ (by rw[List.length_map])
 exact⟨_,_,_,_,_,_,_,_,_,_,_,_,_,_,bY (fU (bV (z:=(.lst (ss.map aX),true)) rfl rfl rfl s1)) (bY (fU (bV (z:=(.lst ((ss.map dD).reverse.map aX),true)) (as:=[aO B A c,.int k]) rfl rfl rfl s2)) (bY (fU (ahY (xs:=(ss.map dD).reverse) rfl (by rw[List.length_reverse,List.length_map]; omega) rg)) (bY (lH (jy (bU (z:=(.bl false,false)) (T:=.lst (ss.map aX)) (U:=.lst (ss.map aX)) (bk rfl (bk rfl (bk r5 rfl))) rfl rfl rfl (xU (ahR ss))) rfl) rfl) (bY (pP (tV (n:=4) (b:=false) (by omega) rfl) b4) (pP (tV (n:=ss.length) (b:=false) (by omega) (j9 (z:=(.int (ss.length:Int),false)) rfl rfl ln)) b5)))))⟩
theorem Yj:∀(ks:List Nat) (x2 x3 x4 x5 x6 x7 x8 x9 x10 x11 x12 eU eV dG dH:Sl),(∀k∈ks,k<=c)->∃t2 t3 t4 t5 t6 t7 t8 t9 t10 t11 cH fV fW mW mX,fM (gN 2) Yi (ks.map λi:Nat=>Tr.int i) [.sh (.lst (ns.map .int)),.sh (aO A B c),x2,x3,x4,x5,x6,x7,x8,x9,x10,x11,x12,eU,eV,dG,dH]=.ok (.nx,[.sh (.lst (ns.map .int)),.sh (aO A B c),t2,t3,t4,t5,t6,t7,t8,t9,t10,t11,cH,fV,fW,mW,mX])
 | [],x2,x3,x4,x5,x6,x7,x8,x9,x10,x11,x12,eU,eV,dG,dH,_=>⟨x2,x3,x4,x5,x6,x7,x8,x9,x10,x11,x12,eU,eV,dG,dH,rfl⟩
 |k::ks,x2,x3,x4,x5,x6,x7,x8,x9,x10,x11,x12,eU,eV,dG,dH,hk=>by
  obtain⟨u3,u4,u5,u6,u7,u8,u9,Ny,Nz,yc,yd,yg,Gq,u16,e⟩:=ahZ ns hb hb' h h' hn hc e1 p1 m1 l1 e2 p2 m2 l2 (hk k (by simp)) x3 x4 x5 x6 x7 x8 x9 x10 x11 x12 eU eV dG dH
  obtain⟨t2,t3,t4,t5,t6,t7,t8,t9,t10,t11,cH,fV,fW,mW,mX,e'⟩:=Yj ks (.sh (.int k)) u3 u4 u5 u6 u7 u8 u9 Ny Nz yc yd yg Gq u16 λj m=>hk j (by simp[m])
  exact⟨t2,t3,t4,t5,t6,t7,t8,t9,t10,t11,cH,fV,fW,mW,mX,pQ rfl e e'⟩
end
theorem ah0(ns:List Int):zR [.lst (ns.map .int)]=.ok (.bl true,false):=by
 obtain⟨c,rows,hB,c8,r2,eb⟩:=ahJ ns 0
 match rows,r2,hB,eb with
 | [l,m],_,hB,eb =>
 have hB':=hB
 obtain⟨_,_,c1,_,h5⟩:=hB
 obtain⟨A,q1,a1,a2⟩:=Yb (h5 l (by simp))
 obtain⟨B,q2,b1,b2⟩:=Yb (h5 m (by simp))
 subst q1 q2
 have h:B40 A B c:=λi hi=>⟨a1 i hi,b1 i hi⟩
 have h':B40 B A c:=λi hi=>⟨b1 i hi,a1 i hi⟩
 have hn:Nn A B c:=λi hi=>⟨a2 i hi,b2 i hi⟩
 have hb':Bk c [bf B c,bf A c]:=⟨by show 1<=2; omega,by show 2<=4; omega,c1,by omega,λr mr=>h5 r (by
  rcases List.mem_cons.mp mr with rfl|mr
  ·simp
  ·rw[List.mem_singleton]at mr; subst mr; simp)⟩
 obtain⟨es,e1,p1,m1,l1⟩:=WQ h c1 c8
 obtain⟨fs,e2,p2,m2,l2⟩:=WQ h' c1 c8
 obtain⟨t2,t3,t4,t5,t6,t7,t8,t9,t10,t11,cH,fV,fW,mW,mX,el⟩:=Yj ns hB' hb' h h' hn c8 e1 p1 m1 l1 e2 p2 m2 l2 (List.range (c+1)) .un .un .un .un .un .un .un .un .un .un .un .un .un .un .un λk m=>by have:=List.mem_range.mp m; omega
 have a1:aV (aG xQ (ak (aj 0) (ak (eC (.int 0)) (ak (eC (.int 2)) (ak (eC (.int 8)) au))))) (gN 1) [.sh (.lst (ns.map .int)),.un,.un,.un,.un,.un,.un,.un,.un,.un,.un,.un,.un,.un,.un,.un,.un]=.ok (.nx,[.sh (.lst (ns.map .int)),.sh (aO A B c),.un,.un,.un,.un,.un,.un,.un,.un,.un,.un,.un,.un,.un,.un,.un]):=fU (b:=true) (ρ1:=[.sh (.lst (ns.map .int)),.un,.un,.un,.un,.un,.un,.un,.un,.un,.un,.un,.un,.un,.un,.un,.un]) (bV (z:=(aO A B c,true)) rfl rfl rfl eb)
 have rn:fH (ak (aq bW (bK (g1 bM) (ak (aq aC (aj 1) (eC (.int 0))) au)) (eC (.int 1))) au) [.sh (.lst (ns.map .int)),.sh (aO A B c),.un,.un,.un,.un,.un,.un,.un,.un,.un,.un,.un,.un,.un,.un,.un]=.ok ((List.range (c+1)).map λi:Nat=>Tr.int i,[.sh (.lst (ns.map .int)),.sh (aO A B c),.un,.un,.un,.un,.un,.un,.un,.un,.un,.un,.un,.un,.un,.un,.un]):=tV (n:=c+1) (b:=false) (by omega) (bU (z:=(.int ((c+1:Nat):Int),false)) (j9 (z:=(.int (c:Int),false)) (bT (bU (z:=(bH (bf A c),false)) rfl rfl rfl rfl (v7 A B c)) rfl) rfl (Af A c)) rfl rfl rfl rfl)
 exact lJ (bY a1 (bY (xV (pP rn el)) (n8 rfl)))
end K98
end
section
namespace L2
open PySem PySem.Spec PyProof.Rows PySem.W
theorem ah1{P:Program}{w:World}{K:FZ}{mg mb:Str->Option Value}{CX:jT}{k:Nat}{fa a:Addr}{x:Str}{sp:Sp}{s₁ : Shared}{vs:List Value}{ns:List Int}
  (KX:K.In s₁.heap) (hns:s₁.heap.Ns mainGlobals mg) (hb:s₁.heap.Ns builtinsNs mb) (hbb:∀x:Str,x ≠ "__name__" -> mb x=bootBuiltins x) (hlim:s₁.heap.NoLimit) (hg:s₁.gens = #[])
  (ha:s₁.heap.get? a=some {cls:=.type "list",data:=.seq vs.toArray }) (hi:IntsAre vs ns) (hl:ns.length<=sizeLine) (hr:fL k callerA)
  (hT:∀x∈iJ,∀c b,tabIn K x=some (c,b)->CodeHd s₁.heap c b/\s₁.heap.get? b=some (tabObj #[])) (v9:noTabs K=true) (hB:qF mg s₁.heap)
  (F:∀base:Heap,K.In base->base.Ns mainGlobals mg->(∀x∈iJ,∀c b,tabIn K x=some (c,b)->CodeHd base c b)->qF mg base->∃fd:FuncData,(∀(s:Shared) (u:Value),K.In s.heap->BindsTo s fd ⟨[u],[]⟩ [(x,u)])/\kZ P w K mg base CX k fa fd [x] sp)
  (hsp:∀H:Hp,fG (aD K) H->lW K H a (ns.map V.int)->sp [.ref a] H (λv _=>v=.bl true) λ_ _ _=>False)
  (NK:∀H e s',CX [] H s₁ (λ_ _ _=>False) e s'->False) :
  codeAny (model P w) callerA (.call (.ref fa) ⟨[.ref a],[]⟩) (λr s'=>r=.ok (.ret (.bool true))/\OldK s₁.heap s'.heap/\s'.os=s₁.os/\AllBare s'.gens) s₁ := by
 have rv:=Hy hi
 have lenV:=hi.length
 -- from an abstract heap in which nothing but the script may be tracked
 have hT':∀b,Tb (aD K) b->∃c,CodeHd s₁.heap c b/\s₁.heap.get? b=some (tabObj #[]):=λb ⟨x,hx,c,e⟩=>⟨c,hT x hx c b (Tc e)⟩
 have core:∀H:Hp,(∀b,H b=none\/(∃o xs,H b=some (.fJ o (.lst xs)))\/(H b=some (.cY #[])/\Tb (aD K) b))->fG (aD K) H->lW K H a (ns.map V.int)->eY P w H s₁.heap->(∀b,H b≠none->b=a\/Tb (aD K) b)->(H a≠none->K.lookup a=none) ->
   codeAny (model P w) callerA (.call (.ref fa) ⟨[.ref a],[]⟩) (λr s'=>r=.ok (.ret (.bool true))/\OldK s₁.heap s'.heap/\s'.os=s₁.os/\AllBare s'.gens) s₁ := by
  intro H hO hTb hS hok hA hK
  have Gs:∀{b:Addr} {o:Obj},s₁.heap.get? b=some o->H b=none->(pW s₁.heap H).get? b=some o:=λe n=>YK e n
  have yw:∀{b:Addr} {o:Obj} {es:Array DictEntry} {ep:Nat},s₁.heap.get? b=some o->o.data=.dict es ep->H b=none:=λ{b o es ep} e d=>by
   cases q:H b with
   |none=>rfl
   |some u =>
    rcases hA b (by rw[q]; simp)with e'|e'
    ·subst e'
     rw[ha]at e; cases e
     have d':Data.seq vs.toArray _=Data.dict es ep:=d
     cases d'
    ·obtain⟨c,_,z⟩:=hT' b e'
     rw[z]at e; cases e
     cases d
  have Gu:∀{b:Addr} {m:Str->Option Value},s₁.heap.Ns b m->(pW s₁.heap H).Ns b m:=λ{b m} ⟨o,es,ep,e,d,r⟩=>⟨o,es,ep,Gs e (yw e d),d,r⟩
  have Yk:K.In (pW s₁.heap H):=λb o e=>Gs (KX b o e) (by
   cases q:H b with
   |none=>rfl
   |some u =>
    rcases hA b (by rw[q]; simp)with e'|e'
    ·subst e'
     rw[hK (by rw[q]; simp)]at e; cases e
    ·obtain⟨c,_,z⟩:=hT' b e'
     have z2:=KX b o e
     rw[z]at z2
     cases z2
     have h2:=List.all_eq_true.mp v9 (b,_) (mem_of_lookupK e)
     exact absurd (show false=true from h2) Bool.false_ne_true)
  have hM:Mod K mg (pW s₁.heap H):=⟨Yk,Gu hns,⟨mb,Gu hb,hbb⟩,let⟨mc,h1,h2⟩:=hlim; ⟨mc,Gu h1,h2⟩⟩
  have e0:Bw P w K mg (pW s₁.heap H) callerA [] s₁ H:=⟨rfl,hM,λb o e=>YL e,Nat.le_of_eq (YJ _ _),trivial,λb hb=>absurd (show b∈([]:List Addr)from hb) (by simp),hok,.of_eq hg⟩
  have free:∀{b:Addr} {o:Obj},s₁.heap.get? b=some o->o.cls ≠ .none->(∀its n,o.data ≠ .seq its n)->H b=none:=λ{b o} e n1 n2=>by
   cases q:H b with
   |none=>rfl
   |some u =>
    rcases hA b (by rw[q]; simp)with e'|e'
    ·subst e'
     rw[ha]at e; cases e
     exact(n2 _ _ rfl).elim
    ·obtain⟨c,_,z⟩:=hT' b e'
     rw[z]at e; cases e
     exact(n1 rfl).elim
  obtain⟨fd,hbind,F1⟩:=F _ Yk (Gu hns) (λx hx c b e=>by
   obtain⟨o,vs',file,tf,flags,tg,inF,text,tt,e1,r1,r2,r3⟩:=(hT x hx c b e).1
   exact⟨o,vs',file,tf,flags,tg,inF,text,tt,Gs e1 (free e1 (by rw[r1]; intro z; cases z) (λ_ _ z=>by rw[r2]at z; cases z)),r1,r2,r3⟩) (by
   obtain⟨bm,ob,b1,b2,b3,b4,b5,b6,b7⟩:=hB
   exact⟨bm,ob,b1,b2,b3,Gs b4 (free b4 (by rw[b5]; intro z; cases z) (λ_ _ z=>by rw[b7]at z; cases z)),b5,b6,b7⟩)
  refine codeAny_mono (F1.run callerA [] s₁ H ⟨[.ref a],[]⟩ [.ref a] [.ref a] _ _ hr e0 (hbind s₁ (.ref a) KX) (.cons rfl .nil) (hsp H hTb hS)) λr s' h=>?_
  cases r with
  |error e=>exact(NK H e s' h).elim
  |ok fl =>
   cases fl with
   |next=>exact False.elim h
   |brk=>exact False.elim h
   |cont=>exact False.elim h
   |ret u =>
    obtain⟨v,H',os,bare,un,hok',r',q⟩:=h
    have q':v=.bl true:=q
    subst q'
    obtain rfl:u=Value.bool true:=r'
    refine⟨rfl,⟨λb o e=>?_,λb o e=>un.there b o e (by simp)⟩,os,bare⟩
    cases q:H b with
    |none=>exact .inl (un.keep b o e q (by intro z; exact absurd (show b∈([]:List Addr)from z) (by simp)) (by simp))
    |some u =>
     rcases hO b with z|⟨ob,xs,z⟩|⟨z,zt⟩
     ·rw[q]at z; cases z
     ·have z2:=un.mY b ob _ z
      obtain⟨e1,_⟩:=hok b _ z
      obtain⟨e2,_⟩:=hok' b _ z2
      rw[e]at e1; cases e1
      exact .inl e2
     ·obtain⟨more,z2⟩:=un.mZ b _ z
      have e1:s₁.heap.get? b=some (tabObj #[]):=hok b _ z
      have e2:s'.heap.get? b=some (tabObj (#[]++more)):=hok' b _ z2
      rw[e]at e1; cases e1
      obtain⟨c,hc,_⟩:=hT' b zt
      exact .inr (.inl ⟨(hc.tab e).isCodeTable,rfl,#[],more,rfl,e2⟩)
 classical
 have Yl:∀H:Hp,(∀b,Tb (aD K) b->H b=some (.cY #[]))->fG (aD K) H:=λH h x hx c b e=>⟨#[],h b ⟨x,hx,c,e⟩,trivial,λpos v z=>by cases z⟩
 have Ym:¬Tb (aD K) a:=λz=>by
  obtain⟨c,_,e⟩:=hT' a z
  rw[ha]at e
  cases e
 cases hk:K.lookup a with
 |some o =>
  have e:=KX a o hk
  rw[ha]at e
  cases e
  refine core (λb=>if Tb (aD K) b then some (.cY #[])else none) (λb=>?_) (Yl _ λb z=>if_pos z) (.inr ⟨vs.toArray,_,hk,by rw[List.size_toArray,lenV]; exact hl,by simpa using rv⟩) (λb u z=>?_) (λb z=>?_) λz=>?_
  ·by_cases q:Tb (aD K) b
   ·exact .inr (.inr ⟨if_pos q,q⟩)
   ·exact .inl (if_neg q)
  ·by_cases q:Tb (aD K) b
   ·have z':=(if_pos q).symm.trans z
    cases z'
    obtain⟨c,_,e⟩:=hT' b q
    exact e
   ·have z':=(if_neg q).symm.trans z
    cases z'
  ·by_cases q:Tb (aD K) b
   ·exact .inr q
   ·exact absurd (if_neg q) z
  ·exact absurd (if_neg Ym) z
 |none =>
  refine core (λb=>if b=a then some (.fJ {cls:=.type "list",data:=.seq vs.toArray } (.lst (ns.map V.int)))else if Tb (aD K) b then some (.cY #[])else none) (λb=>?_) (Yl _ λb z=>by
   have nb:¬b=a:=λq=>Ym (by rw[<-q]; exact z)
   exact(if_neg nb).trans (if_pos z)) (.inl (.inr ⟨{cls:=.type "list",data:=.seq vs.toArray },if_pos rfl⟩)) (λb u z=>?_) (λb z=>?_) λ_=>hk
  ·by_cases hb:b=a
   ·exact .inr (.inl ⟨_,_,if_pos hb⟩)
   ·by_cases q:Tb (aD K) b
    ·exact .inr (.inr ⟨(if_neg hb).trans (if_pos q),q⟩)
    ·exact .inl ((if_neg hb).trans (if_neg q))
  ·by_cases hb:b=a
   ·have z':=(if_pos hb).symm.trans z
    cases z'
    subst hb
    exact⟨ha,by rw[List.length_map]; exact hl,vs,_,rv,ha⟩
   ·have z':=(if_neg hb).symm.trans z
    by_cases q:Tb (aD K) b
    ·have z':=(if_pos q).symm.trans z'
     cases z'
     obtain⟨c,_,e⟩:=hT' b q
     exact e
    ·have z':=(if_neg q).symm.trans z'
     cases z'
  ·by_cases hb:b=a
   ·exact .inl hb
   ·by_cases q:Tb (aD K) b
    ·exact .inr q
    ·exact absurd ((if_neg hb).trans (if_neg q)) z
theorem ah2{l:PySem.W.OpenLaw}{n k:Nat}{q:Program}{loose:List Str}{XP:(Str->Option Value)->Heap->Prop}{YP:World->Heap->Prop}{d:DefRec}{K:Params->FZ}{CX:World->jT}{sp:World->Sp}{x:Str}
  (hn:l.most=some n) (hn2:n<=sizeLine) (hdf:d.params.defaults=[]) (hr:fL k callerA)
  (Aq:∀x∈iJ,((recsOf q).find? (λe=>e.name == x)).isSome=true\/∀w:World,nsIn (K w.params) mainGlobals x=some none) (v9:∀w:World,noTabs (K w.params)=true)
  (hY:∀(w:World) (h:Heap),YP w h->(K w.params).In h)
  (F:∀(w:World) (mg:Str->Option Value) (fa:Addr) (h:Heap),(K w.params).In h->h.Ns mainGlobals mg->mg d.name=some (.ref fa) ->
   ∀base:Heap,(K w.params).In base->base.Ns mainGlobals mg->(∀x∈iJ,∀c b,tabIn (K w.params) x=some (c,b)->CodeHd base c b)->qF mg base->∃fd:FuncData,(∀(s:Shared) (u:Value),(K w.params).In s.heap->BindsTo s fd ⟨[u],[]⟩ [(x,u)])/\kZ l.prog w (K w.params) mg base (CX w) k fa fd [x] (sp w))
  (hsp:∀(w:World) (H:Hp) (a:Addr) (ns:List Int),ns.length<=n->fG (aD (K w.params)) H->lW (K w.params) H a (ns.map V.int)->sp w [.ref a] H (λv _=>v=.bl true) λ_ _ _=>False)
  (NK:∀(w:World) (H:Hp) (s:Shared) (e:Value) (s':Shared),CX w [] H s (λ_ _ _=>False) e s'->False) :
  PySem.W.WalkO q loose XP YP l.row.toRowW d [] (λf vs=>PySem.call f vs):=by
 refine Qq.aal hn hdf λw s₀ s₁ mg mb fa o pm cd doc a vs ns G Y ho hd hcd hmg hobj hints hlen hg=>?_
 have KX:=hY w _ Y
 have hT:∀x∈iJ,∀c b,tabIn (K w.params) x=some (c,b)->CodeHd s₁.heap c b/\s₁.heap.get? b=some (tabObj #[]):=λx hx c b e=>by
  rcases Aq x hx with z|z
  ·obtain⟨d,z⟩:=Option.isSome_iff_exists.mp z
   exact tab_of G.T KX z e
  ·rw[Te (z w)]at e; cases e
 have hB:qF mg s₁.heap:=by
  obtain⟨bm,ob,b1,b2,b3,b4,b5,b6⟩:=G.T.bmain
  refine⟨bm,ob,b1,b2,λz=>?_,b3,b4,b5,b6⟩
  obtain⟨o,es,ep,e,hd,_⟩:=G.T.g
  rw[z,e]at b3; cases b3
  rw[hd]at b6; cases b6
 exact ah1 KX G.T.g G.T.b G.T.builtins G.T.nolimit hg hobj hints (Nat.le_trans hlen hn2) hr hT (v9 w) hB (F w mg fa _ KX G.T.g hmg) (λH hO hS=>hsp w H a ns hlen hO hS) λH e s'=>NK w H s₁ e s'
end L2
end
section
namespace K98
open PySem L2 BH PySem.W
section
variable {K:Frag}{mg:Str->Option Value}{h:Heap}
theorem ah3{x:Str}{st:Stmt}(X:K.In h)(G:h.Ns mainGlobals mg){f:Addr}{od an:Option Addr}{sl:Array (Option Value)}{oc kV dc pm cd ct:Value}
  (a:nsIn K mainGlobals x=some (some (.ref f))) (l:K.lookup f=some ⟨oc,od,.func (fnOf x x (oN st) (jE st) (bx st) .none kV dc pm an cd ct),sl⟩) (c:codeIn K cd x=true) (k:keepIn K (.ref f)=true):At K mg x st :=
 ⟨f,_,Qs (st:=st) l c k,mg_of X G a⟩
theorem ah4{x:Str}{st:Stmt}(X:K.In h)(G:h.Ns mainGlobals mg){f c:Addr}{od an:Option Addr}{sl:Array (Option Value)}{oc kV dc pm ct:Value}
  (a:nsIn K mainGlobals x=some (some (.ref f))) (l:K.lookup f=some ⟨oc,od,.func (fnOf x x (oN st) (jE st) (bx st) .none kV dc pm an (.ref c) ct),sl⟩) (cc:codeIn K (.ref c) x=true) (k:keepIn K (.ref f)=true):vA K mg x st c :=
 ⟨f,_,Qs (st:=st) l cc k,mg_of X G a,rfl⟩
theorem Yn{x:Str}{i:Int}{tk:Tok}(X:K.In h)(G:h.Ns mainGlobals mg)(a:nsIn K mainGlobals x=some (some (.int i tk))):Gk K mg x (.int i) (.int i):=⟨.int i tk,mg_of X G a,by first|exact rfl|exact⟨_,rfl⟩,λ_=>.int i⟩
theorem Ar{H:Hp}{a:Addr}{od:Option Addr}{its:Array Value}{n:Nat}{sl:Array (Option Value)}{xs:List V}{vs:List Value}{ts:List Tr}(l:K.lookup a=some ⟨.type "tuple",od,.seq its n,sl⟩) (e:its.toList=vs) (hl:vs.length<=1000) (r:Vals xs vs) (rr:aF (aD K) H xs ts):Rep (aD K) H (.ref a) (.tup ts):=by
 refine .tup (xs:=xs) (.inr ⟨_,its,n,Q8 l rfl,rfl,rfl,?_,by rw[e]; exact r⟩) rr
 rw[<-Array.length_toList,e]
 exact Nat.le_of_lt (Hz hl)
theorem ah5(X:K.In h)(G:h.Ns mainGlobals mg){a r1 r2 r3:Addr}{od o1 o2 o3:Option Addr}{its i1 i2 i3:Array Value}{n n1 n2 n3:Nat}{sl QJ sl2 Ie:Array (Option Value)}{t1 t2 t3:Tok}
  (m:nsIn K mainGlobals "BARE_RULES" = some (some (.ref a))) (l:K.lookup a=some ⟨.type "tuple",od,.seq its n,sl⟩) (e:its.toList=[.ref r1,.ref r2,.ref r3])
  (l1:K.lookup r1=some ⟨.type "tuple",o1,.seq i1 n1,QJ⟩) (e1:i1.toList=[.str "least" t1]) (l2:K.lookup r2=some ⟨.type "tuple",o2,.seq i2 n2,sl2⟩) (e2:i2.toList=[.str "greatest" t2]) (l3:K.lookup r3=some ⟨.type "tuple",o3,.seq i3 n3,Ie⟩) (e3:i3.toList=[.str "product" t3]):Gk K mg "BARE_RULES" (.ref a) (.tup [(.tup [(.str "least")]),(.tup [(.str "greatest")]),(.tup [(.str "product")])]):=by
 refine⟨_,mg_of X G m,rfl,λH=>Ar (xs:=[.ref r1,.ref r2,.ref r3]) l e (Nat.le_of_ble_eq_true rfl) (.cons rfl (.cons rfl (.cons rfl .nil))) ?_⟩
 exact .cons (Ar (xs:=[.str "least"]) l1 e1 (Nat.le_of_ble_eq_true rfl) (.cons ⟨_,rfl⟩ .nil) (.cons (.str _) .nil)) (.cons (Ar (xs:=[.str "greatest"]) l2 e2 (Nat.le_of_ble_eq_true rfl) (.cons ⟨_,rfl⟩ .nil) (.cons (.str _) .nil)) (.cons (Ar (xs:=[.str "product"]) l3 e3 (Nat.le_of_ble_eq_true rfl) (.cons ⟨_,rfl⟩ .nil) (.cons (.str _) .nil)) .nil))
theorem NP(X:K.In h)(G:h.Ns mainGlobals mg){x:Str}{a:Addr}{od:Option Addr}{its:Array Value}{n:Nat}{sl:Array (Option Value)}{i j:Int}{t1 t2:Tok}
  (m:nsIn K mainGlobals x=some (some (.ref a))) (l:K.lookup a=some ⟨.type "tuple",od,.seq its n,sl⟩) (e:its.toList=[.int i t1,.int j t2]):Gk K mg x (.ref a) (.tup [.int i,.int j]) :=
 ⟨_,mg_of X G m,rfl,λH=>Ar (xs:=[.int i,.int j]) l e (Nat.le_of_ble_eq_true rfl) (.cons ⟨_,rfl⟩ (.cons ⟨_,rfl⟩ .nil)) (.cons (.int _) (.cons (.int _) .nil))⟩
theorem ah6(H:Hp):aN (λ_=>False) H=H:=by
 funext b
 exact gj (λz=>z)
theorem Yo{K:Frag}{H:Hp}:∀ns:List Int,aF K H (ns.map V.int) (ns.map Tr.int)
 | []=>.nil
 |n::ns=>.cons (.int n) (Yo ns)
def Gv(K:Frag)(n:Nat)(F:FP):Sp:=λvs H Q E=>∃Z ts,vs.length=n/\aF (aD K) (aN Z H) vs ts/\(∀b,Z b->Lt H b)/\fG (aD K) H/\∃p,F ts=.ok p/\∀v H',j5 (aD K) H H'->yW (aD K) Z H H' v p.1 p.2->Q v H'
theorem ah7{K:Frag}{cl:Str->Addr}{n:Nat}{F:FP}(vs:List V)(H:Hp)(Q:VK)(E:XK)(h:Gv K n F vs H Q E):aQ K cl n F vs H Q E:=by
 obtain⟨Z,ts,h1,h2,h3,h4,p,h5,h6⟩:=h
 refine⟨Z,ts,h1,h2,h3,h4,?_⟩
 rw[h5]
 exact h6
theorem ah8(X:K.In h)(G:h.Ns mainGlobals mg)(z0:nsIn K mainGlobals "abs" = some none) (z1:nsIn K mainGlobals "all" = some none) (z2:nsIn K mainGlobals "bool" = some none) (z3:nsIn K mainGlobals "int" = some none) (z4:nsIn K mainGlobals "isinstance" = some none) (z5:nsIn K mainGlobals "len" = some none) (z6:nsIn K mainGlobals "list" = some none) (z7:nsIn K mainGlobals "range" = some none) (z8:nsIn K mainGlobals "set" = some none) (z9:nsIn K mainGlobals "sorted" = some none) (Yp:nsIn K mainGlobals "tuple" = some none) (Yq:nsIn K mainGlobals "zip" = some none):Nm mg :=
 ⟨mg_none_of X G z0,mg_none_of X G z1,mg_none_of X G z2,mg_none_of X G z3,mg_none_of X G z4,mg_none_of X G z5,mg_none_of X G z6,mg_none_of X G z7,mg_none_of X G z8,mg_none_of X G z9,mg_none_of X G Yp,mg_none_of X G Yq⟩
end
section
variable {P:Program}{w:World}{K:Frag}{mg:Str->Option Value}{base:Heap}
theorem ah9(M:Nm mg){NQ:Addr}(Ez:PyProof.Rows.OwnCls "NoBottom" NQ o7 "ValueError.__new__" mg base) {NT:Addr} (Fi:PyProof.Rows.OwnCls "NoBook" NT o7 "ValueError.__new__" mg base) {NZ:Addr} (Fj:PyProof.Rows.OwnCls "NoRule" NZ o7 "ValueError.__new__" mg base) {N5:Addr} (Fo:PyProof.Rows.OwnCls "NoCount" N5 o7 "ValueError.__new__" mg base) {N6:Addr} (Ft:PyProof.Rows.OwnCls "TooMany" N6 o7 "ValueError.__new__" mg base) (XT:pF K) (aia:At K mg "is_whole" KD) (aib:At K mg "common_divisor" KH) (aic:At K mg "fraction_of" KJ) (aie:At K mg "frac_sum" KN) (aif:At K mg "frac_less" KQ) (aii:At K mg "frac_times" KR) (aij:At K mg "frac_by" KY) (aik:At K mg "frac_below" KZ) (ail:At K mg "is_fraction" K1) (ain:At K mg "common_bottom" K3) (aio:At K mg "tops_on_one_bottom" Ei) {Yr aip:Addr} (aiq:vA K mg "falling_places" Ej Yr) (air:Dq K mg base "falling_places" Yr aip) (ais:At K mg "is_worth" K4) (ait:At K mg "are_worths" Ek) (aiu:At K mg "is_book" zQ) (aiv:At K mg "is_count" K5) (aiw:At K mg "need_book" K6) (aix:At K mg "are_weights" El) (aiy:At K mg "is_rule" K7) (aiz:At K mg "shares_worth" K8) (aiA:At K mg "product_worth" K9) (aiB:At K mg "place_of" La) (aiC:At K mg "worth_by" Lb) (aiD:At K mg "need_book_and_rule" Ld) (aiE:At K mg "need_count" Le) (aiF:At K mg "need_book_rule_and_count" Lf) (aiG:At K mg "worths_of" Em) (aiH:At K mg "worths_by" Eo) (aiI:At K mg "best_few" Ep) (aiJ:At K mg "best_things" Er) (aiK:At K mg "meeting_weight" Lg) (aiL:At K mg "meeting_weights" Es) (aiM:At K mg "weight_stretches" Lh) (aiN:At K mg "_law_cell" Li) (aiO:At K mg "_law_frac" Lj) (aiP:At K mg "_law_add" Lk) (aiQ:At K mg "_law_mul" Ln) (aiR:At K mg "_law_sub" Lp) (aiS:At K mg "_law_below" Lr) (aiT:At K mg "_law_book" Ls) (aiU:At K mg "_law_best" Lw) (aiV:At K mg "law" xP) {Mg:V} (EY:Gk K mg "MOST_LISTS" Mg (.int 4)) {Mh:V} (Fb:Gk K mg "MOST_THINGS" Mh (.int 12)) {Mi:V} (Mj:Gk K mg "BARE_RULES" Mi (.tup [(.tup [(.str "least")]),(.tup [(.str "greatest")]),(.tup [(.str "product")])])) {vQ:V} (nR:Gk K mg "START" vQ (.tup [(.int 0),(.int 1)])) {zY:V} (pN:Gk K mg "END" zY (.tup [(.int 1),(.int 1)])) {Mq:V} (Fp:Gk K mg "HALF" Mq (.tup [(.int 1),(.int 2)])):aM P w K mg base 12 "law" (["_law_script"]:List Str) (Gv K 1 zR):=by
 obtain⟨cl,aiW,aiX,aiY,aiZ,ai0⟩:∃cl:Str→Addr,cl "NoBottom" = NQ∧cl "NoBook" = NT∧cl "NoRule" = NZ∧cl "NoCount" = N5∧cl "TooMany" = N6:=⟨λx=>if x=("NoBottom" : Str)then NQ else if x=("NoBook" : Str)then NT else if x=("NoRule" : Str)then NZ else if x=("NoCount" : Str)then N5 else if x=("TooMany" : Str)then N6 else 0,if_pos rfl,(if_neg (by decide +kernel)).trans (if_pos rfl),(if_neg (by decide +kernel)).trans ((if_neg (by decide +kernel)).trans (if_pos rfl)),(if_neg (by decide +kernel)).trans ((if_neg (by decide +kernel)).trans ((if_neg (by decide +kernel)).trans (if_pos rfl))),(if_neg (by decide +kernel)).trans ((if_neg (by decide +kernel)).trans ((if_neg (by decide +kernel)).trans ((if_neg (by decide +kernel)).trans (if_pos rfl))))⟩
 rw[<-aiW]at Ez
 rw[<-aiX]at Fi
 rw[<-aiY]at Fj
 rw[<-aiZ]at Fo
 rw[<-ai0]at Ft
 have N7:=aft (P:=P) (w:=w) (base:=base) (cl:=cl) aia M XT
 have N8:=afd (P:=P) (w:=w) (base:=base) (cl:=cl) aib M
 have Gw:=afm (P:=P) (w:=w) (base:=base) (cl:=cl) aic M Ez N8
 have Oa:=afk (P:=P) (w:=w) (base:=base) (cl:=cl) aie M Gw
 have Ys:=afj (P:=P) (w:=w) (base:=base) (cl:=cl) aif M Gw
 have Ob:=afl (P:=P) (w:=w) (base:=base) (cl:=cl) aii M Gw
 have ai1:=afi (P:=P) (w:=w) (base:=base) (cl:=cl) aij M Gw
 have ai2:=afh (P:=P) (w:=w) (base:=base) (cl:=cl) aik M
 have Yt:=afq (P:=P) (w:=w) (base:=base) (cl:=cl) ail M XT N7 N8
 have ai3:=afc (P:=P) (w:=w) (base:=base) (cl:=cl) ain M N8
 have ai4:=afM (P:=P) (w:=w) (base:=base) (cl:=cl) aio M ai3
 have Oc:=afe (P:=P) (w:=w) (base:=base) (cl:=cl) aiq air M ai4
 have ai5:=afu (P:=P) (w:=w) (base:=base) (cl:=cl) ais M Yt
 have ai6:=ae6 (P:=P) (w:=w) (base:=base) (cl:=cl) ait M XT ai5
 have ai7:=afn (P:=P) (w:=w) (base:=base) (cl:=cl) aiu M EY Fb XT ai6
 have ai8:=afp (P:=P) (w:=w) (base:=base) (cl:=cl) aiv M N7
 have Yu:=afB (P:=P) (w:=w) (base:=base) (cl:=cl) aiw M Fi ai7
 have ai9:=ae5 (P:=P) (w:=w) (base:=base) (cl:=cl) aix M XT Yt
 have aja:=afr (P:=P) (w:=w) (base:=base) (cl:=cl) aiy M Mj XT ai9 N7
 have ajb:=afL (P:=P) (w:=w) (base:=base) (cl:=cl) aiz M Oa Ob
 have ajc:=afK (P:=P) (w:=w) (base:=base) (cl:=cl) aiA M Ob
 have ajd:=afJ (P:=P) (w:=w) (base:=base) (cl:=cl) aiB M
 have aje:=afR (P:=P) (w:=w) (base:=base) (cl:=cl) aiC M ajb ajc Oc ajd
 have ajf:=afD (P:=P) (w:=w) (base:=base) (cl:=cl) aiD M Fj Yu aja
 have Yv:=afH (P:=P) (w:=w) (base:=base) (cl:=cl) aiE M Fo ai8
 have ajg:=afF (P:=P) (w:=w) (base:=base) (cl:=cl) aiF M ajf Yv
 have ajh:=afY (P:=P) (w:=w) (base:=base) (cl:=cl) aiG M
 have aji:=afV (P:=P) (w:=w) (base:=base) (cl:=cl) aiH M aje ajh
 have Yw:=ae8 (P:=P) (w:=w) (base:=base) (cl:=cl) aiI M ajg aji Oc
 have ajj:=afb (P:=P) (w:=w) (base:=base) (cl:=cl) aiJ M Yw
 have ajk:=afx (P:=P) (w:=w) (base:=base) (cl:=cl) aiK M nR Ys Oa ai1
 have ajl:=afz (P:=P) (w:=w) (base:=base) (cl:=cl) aiL M pN nR ajk ai2 Oc
 have ajm:=afO (P:=P) (w:=w) (base:=base) (cl:=cl) aiM M pN Fp nR Ft Yu Yv Ob ajj ajl Oa Ys
 have Yx:=ae1 (P:=P) (w:=w) (base:=base) (cl:=cl) aiN M
 have Av:=ae2 (P:=P) (w:=w) (base:=base) (cl:=cl) aiO M
 have ajn:=aeW (P:=P) (w:=w) (base:=base) (cl:=cl) aiP M Av
 have ajo:=ae3 (P:=P) (w:=w) (base:=base) (cl:=cl) aiQ M Av
 have Yy:=ae4 (P:=P) (w:=w) (base:=base) (cl:=cl) aiR M Av
 have Yz:=aeX (P:=P) (w:=w) (base:=base) (cl:=cl) aiS M
 have ajp:=ae0 (P:=P) (w:=w) (base:=base) (cl:=cl) aiT M Yx Av
 have ajq:=aeY (P:=P) (w:=w) (base:=base) (cl:=cl) aiU M Yy ajn ajo Yz
 have ajr:=afv (P:=P) (w:=w) (base:=base) (cl:=cl) aiV M ajp ajm Yx Av Yy Yz ajq Yw
 obtain⟨f,fd,h1,h2⟩:=ajr
 exact⟨f,fd,h1.imp ah7,h2⟩
end
theorem walk{l:OpenLaw}{q:Program}{loose:List Str}{XP:(Str->Option Value)->Heap->Prop}{YP:World->Heap->Prop}{d:DefRec}{K:Params->Frag}(hn:l.most=some 63)(hdf:d.params.defaults=[])(hd:d.name = "law")
  (Aq:∀x∈iJ,((PyProof.Rows.recsOf q).find? (λe=>e.name == x)).isSome=true\/∀w:World,nsIn (K w.params) mainGlobals x=some none) (v9:∀w:World,noTabs (K w.params)=true)
  (hY:∀(w:World) (h:Heap),YP w h->(K w.params).In h)
  (F:∀(w:World) (mg:Str->Option Value) (h:Heap),(K w.params).In h->h.Ns mainGlobals mg->∀base:Heap,(K w.params).In base->base.Ns mainGlobals mg->(∀x∈iJ,∀c b,tabIn (K w.params) x=some (c,b)->CodeHd base c b)->qF mg base->aM l.prog w (K w.params) mg base 12 "law" (["_law_script"]:List Str) (Gv (K w.params) 1 zR)) :
  WalkO q loose XP YP l.row.toRowW d [] (λf vs=>PySem.call f vs) :=
 L2.ah2 (n:=63) (k:=12) (x := "_law_script") (CX:=λw=>jr l.prog w) (sp:=λw=>Gv (K w.params) 1 zR) hn (by decide) hdf ⟨rfl,by decide,by decide,rfl⟩ Aq v9 hY
  (λw mg fa h KX G hm base kb gb hc bm=>by
   obtain⟨f,fd,h1,h2,_,h4⟩:=F w mg h KX G base kb gb hc bm
   rw[hd]at hm
   cases h4.symm.trans hm
   exact⟨fd,λs u ks=>h2 s [u] ks rfl,h1⟩)
  (λw H a ns hl hTb hS=>⟨λ_=>False,[.lst (ns.map .int)],rfl,.cons (.lst ((ah6 H).symm▸hS.toN) (Yo ns)) .nil,λb z=>z.elim,hTb,_,ah0 ns,λv H' _ r=>by
   cases r
   rfl⟩)
  λw H s e s' h=>by
   obtain⟨_,_,_,_,_,_,z,_⟩:=h
   exact z
end K98
end
section
namespace PySem.W.Fast
theorem tw10152000067904966389:True:=⟨⟩
theorem tw10552647167549139378:True:=⟨⟩
theorem tw11023067594655108087:True:=⟨⟩
theorem tw11114345705292684234:True:=⟨⟩
theorem tw11220472344938756258:True:=⟨⟩
theorem tw1123470853303463864:True:=⟨⟩
theorem tw11385159898809607484:True:=⟨⟩
theorem tw11385780139919278369:True:=⟨⟩
theorem tw11400402143360012954:True:=⟨⟩
theorem tw11500448223115190391:True:=⟨⟩
theorem tw11526558515242231954:True:=⟨⟩
theorem tw11579830176027380495:True:=⟨⟩
theorem tw11676362388972241089:True:=⟨⟩
theorem tw11828342226817140099:True:=⟨⟩
theorem tw11892645428799120782:True:=⟨⟩
theorem tw12411865445701942297:True:=⟨⟩
theorem tw12444217257117693596:True:=⟨⟩
theorem tw12506796263077653041:True:=⟨⟩
theorem tw12576007668695756487:True:=⟨⟩
theorem tw12581087032952979005:True:=⟨⟩
theorem tw12689077735725893731:True:=⟨⟩
theorem tw12872374052387736697:True:=⟨⟩
theorem tw13158654920763425841:True:=⟨⟩
theorem tw13188419043142988327:True:=⟨⟩
theorem tw1344406758633165895:True:=⟨⟩
theorem tw13570656555271533080:True:=⟨⟩
theorem tw1361011597049856036:True:=⟨⟩
theorem tw1362444228567400392:True:=⟨⟩
theorem tw14346680077329129907:True:=⟨⟩
theorem tw14525629551195530153:True:=⟨⟩
theorem tw14771124625516545456:True:=⟨⟩
theorem tw14920193218578887306:True:=⟨⟩
theorem tw15102881710136790860:True:=⟨⟩
theorem tw151120493906543954:True:=⟨⟩
theorem tw15576722685561982925:True:=⟨⟩
theorem tw156139714525158367:True:=⟨⟩
theorem tw1596787214361430827:True:=⟨⟩
theorem tw16171874482517319596:True:=⟨⟩
theorem tw16236781444743687479:True:=⟨⟩
theorem tw17012711377437888800:True:=⟨⟩
theorem tw17015139251838729593:True:=⟨⟩
theorem tw17117758178563810241:True:=⟨⟩
theorem tw17306742222584928733:True:=⟨⟩
theorem tw17395004010660361076:True:=⟨⟩
theorem tw17440287294890106068:True:=⟨⟩
theorem tw1775215432496017770:True:=⟨⟩
theorem tw17829147565404184688:True:=⟨⟩
theorem tw18079676372581023539:True:=⟨⟩
theorem tw18224364673737434288:True:=⟨⟩
theorem tw18305886303647933784:True:=⟨⟩
theorem tw2089940971887259191:True:=⟨⟩
theorem tw2108252088257775371:True:=⟨⟩
theorem tw2162196197931885644:True:=⟨⟩
theorem tw229584539161116699:True:=⟨⟩
theorem tw243653184968831415:True:=⟨⟩
theorem tw2443265915421827822:True:=⟨⟩
theorem tw2535519937454643804:True:=⟨⟩
theorem tw2556986980073814619:True:=⟨⟩
theorem tw2826680633616609341:True:=⟨⟩
theorem tw3009599312805770240:True:=⟨⟩
theorem tw3311635948918278530:True:=⟨⟩
theorem tw3327687399699384472:True:=⟨⟩
theorem tw3499883012713445141:True:=⟨⟩
theorem tw3872862701502380400:True:=⟨⟩
theorem tw3915826543329932296:True:=⟨⟩
theorem tw4170000417799505723:True:=⟨⟩
theorem tw4239500560396720729:True:=⟨⟩
theorem tw4334025738414377277:True:=⟨⟩
theorem tw4390534706236005328:True:=⟨⟩
theorem tw4446677187566196727:True:=⟨⟩
theorem tw4564667479302152911:True:=⟨⟩
theorem tw467271181402828553:True:=⟨⟩
theorem tw4807139420620613633:True:=⟨⟩
theorem tw4903782966546575121:True:=⟨⟩
theorem tw5016418606384899161:True:=⟨⟩
theorem tw5031057361033240087:True:=⟨⟩
theorem tw5425189961534887524:True:=⟨⟩
theorem tw5490525029893551707:True:=⟨⟩
theorem tw5573348450734677848:True:=⟨⟩
theorem tw5697006167332732046:True:=⟨⟩
theorem tw5796489329430043529:True:=⟨⟩
theorem tw5802097448766688573:True:=⟨⟩
theorem tw5803523752858117417:True:=⟨⟩
theorem tw6037490521564874526:True:=⟨⟩
theorem tw6127629103417504847:True:=⟨⟩
theorem tw6247756179048247480:True:=⟨⟩
theorem tw6353991944816117716:True:=⟨⟩
theorem tw6602537637231474931:True:=⟨⟩
theorem tw6887118206143625099:True:=⟨⟩
theorem tw702559084995508131:True:=⟨⟩
theorem tw7165042641161309909:True:=⟨⟩
theorem tw7236703552392501550:True:=⟨⟩
theorem tw7670724658855513738:True:=⟨⟩
theorem tw7751960123631207688:True:=⟨⟩
theorem tw7981852363279125604:True:=⟨⟩
theorem tw8010330472725626726:True:=⟨⟩
theorem tw8329107701674456953:True:=⟨⟩
theorem tw8501706318100989910:True:=⟨⟩
theorem tw8568749835073162269:True:=⟨⟩
theorem tw8573663502858836911:True:=⟨⟩
theorem tw8606908432168471158:True:=⟨⟩
theorem tw8613551915202449848:True:=⟨⟩
theorem tw8668631072894295502:True:=⟨⟩
theorem tw9058560070020466793:True:=⟨⟩
theorem tw9178949711604629230:True:=⟨⟩
theorem tw9218166237018168602:True:=⟨⟩
theorem tw9312061733432603855:True:=⟨⟩
theorem tw9451290774944600794:True:=⟨⟩
theorem tw9718134742583801031:True:=⟨⟩
theorem tw9724494129092458999:True:=⟨⟩
theorem tw9845541751513644119:True:=⟨⟩
theorem tw9956075923273991476:True:=⟨⟩
end PySem.W.Fast
open PySem PySem.W PyProof.Rows
set_option maxRecDepth 100000 in
set_option maxHeartbeats 0 in
theorem PySem.Challenge.cw_bestheads_k98_whole_weights_and_few_holds : PySem.Challenge.rw_bestheads_k98_whole_weights_and_few.Holds := by
 w_on; o_law; k_head; (case hw=>w_witness2)
 k_fill
 refine K98.walk (l:=PySem.Challenge.rw_bestheads_k98_whole_weights_and_few) rfl rfl rfl ?Aq ?v9 (λw h Y=>by first|exact PySem.W.km_in_of Y|exact PySem.W.kIn_of Y) ?F
 case Aq =>
  intro x hx
  rcases(List.mem_cons.mp hx)with rfl|hx
  ·exact .inl (by kernel_rfl)
  ·rw[List.mem_singleton.mp hx]
   exact .inr λw=>by k_is
 case v9=>intro w; kernel_rfl
 case F =>
  intro w mg h KX G base kb gb hcd hbm
  refine' K98.ah9 ?qM ?ajs ?ajt ?aju ?ajv ?ajw ?qXT ?qd1 ?qd2 ?qd3 ?qd4 ?qd5 ?qd6 ?qd7 ?qd8 ?qd9 ?ajx ?ajy ?ajz ?ajA ?ajB ?ajC ?ajD ?ajE ?ajF ?ajG ?ajH ?ajI ?ajJ ?ajK ?ajL ?ajM ?ajN ?ajO ?ajP ?ajQ ?ajR ?ajS ?ajT ?ajU ?ajV ?ajW ?ajX ?ajY ?ajZ ?aj0 ?aj1 ?aj2 ?aj3 ?aj4 ?aj5 ?aj6 ?aj7 ?aj8 ?aj9 ?akb
  case qM =>
   refine' K98.ah8 KX G ?z0 ?z1 ?z2 ?z3 ?z4 ?z5 ?z6 ?z7 ?z8 ?z9 ?Yp ?Yq
   all_goals k_is
  case qd1|qd2|qd3|qd4|qd5|qd6|qd7|qd8|qd9|ajx|ajy|ajB|ajC|ajD|ajE|ajF|ajG|ajH|ajI|ajJ|ajK|ajL|ajM|ajN|ajO|ajP|ajQ|ajR|ajS|ajT|ajU|ajV|ajW|ajX|ajY|ajZ|aj0|aj1|aj2|aj3|aj4=>exact K98.ah3 KX G (by k_is) (by k_is) (by k_is) (by k_is)
  case ajz =>
   refine' K98.ah4 KX G ?akc ?akd ?ake ?akf
   (case akc=>k_is); (case akd=>k_is); (case ake=>k_is); (case akf=>k_is)
  case ajA =>
   refine' L2.adi (by decide) hcd hbm (L2.adh ?akg ?akh ?aki ?akj ?akk ?akl ?akm ?akn ?ako) ?akp
   (case akg=>k_is); (case akh=>k_is); (case akj=>k_is); (case akl=>exact rfl); (case akm=>k_is); (case aki=>kernel_rfl); (case akk=>kernel_rfl); (case akn=>kernel_rfl); (case ako=>exact rfl)
   case akp =>
    intro x' hx'
    rcases(List.mem_cons.mp hx')with rfl|hx'
    ·exact .inl rfl
    ·rw[List.mem_singleton.mp hx']
     exact .inr λc' z=>(by have y:=(L2.Te (by k_is)).symm.trans z; cases y)
  case aj5 =>
   refine' K98.Yn KX G ?akq
   (case akq=>k_is)
  case aj6 =>
   refine' K98.Yn KX G ?akr
   (case akr=>k_is)
  case aj7 =>
   refine' K98.ah5 KX G ?qbm ?qbl ?qbe ?aks ?akt ?aku ?akv ?akx ?aky
   (case qbm=>k_is); (case qbl=>k_is); (case qbe=>rfl); (case aks=>k_is); (case akt=>rfl); (case aku=>k_is); (case akv=>rfl); (case akx=>k_is); (case aky=>rfl)
  case aj8 =>
   refine' K98.NP KX G ?akz ?akA ?akB
   (case akz=>k_is); (case akA=>k_is); (case akB=>rfl)
  case aj9 =>
   refine' K98.NP KX G ?akC ?akD ?akE
   (case akC=>k_is); (case akD=>k_is); (case akE=>rfl)
  case akb =>
   refine' K98.NP KX G ?akF ?akG ?akH
   (case akF=>k_is); (case akG=>k_is); (case akH=>rfl)
  case qXT=>exact L2.pF.of (by kernel_rfl)
  case ajs =>
   refine' L2.yL kb gb ?akI ?akJ
   (case akI=>k_is); (case akJ=>k_exc)
  case ajt =>
   refine' L2.yL kb gb ?akK ?akL
   (case akK=>k_is); (case akL=>k_exc)
  case aju =>
   refine' L2.yL kb gb ?akM ?akN
   (case akM=>k_is); (case akN=>k_exc)
  case ajv =>
   refine' L2.yL kb gb ?akO ?akP
   (case akO=>k_is); (case akP=>k_exc)
  case ajw =>
   refine' L2.yL kb gb ?akQ ?akR
   (case akQ=>k_is); (case akR=>k_exc)
#print axioms PySem.Challenge.cw_bestheads_k98_whole_weights_and_few_holds
end
end
