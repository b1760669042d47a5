import PyProof.Rows.All
import Wide.All
import OpenK.AllK
import Wide.FinOn
import Lean
import PyProof.EqAt
import PyProof.EqKinds
import PyProof.TupleCall
import PyProof.ReprRoads
import PyProof.ReprBulk
import PyProof.Rows.RegStrFacts
import PyProof.StrBlockH
import PyProof.FitsBits
import KE.KTurns
import PyProof.NeKinds
import KE.KNest
import KE.KSortKey
import PyProof.ListRange
import PyProof.Rows.SortWalk
import KE.KListMore
import KE.KIntText
import PyProof.StrLawsIn
import PyProof.StrLawsTight
import PyProof.StrLawsChain
import PyProof.StrLawsFirst
import PyProof.StrLawsJoin
import PySem.Challenge.RW_bestheads_k70_whole_texts_bent
noncomputable section
abbrev FZ:=PySem.W.Frag
set_option exponentiation.threshold 6000
set_option Elab.async false
set_option linter.all false
set_option maxRecDepth 100000
set_option maxHeartbeats 4000000
section
namespace L2
open PySem PySem.Spec PyProof.Rows
abbrev Key:=Sum Int Str
def Om:Key->Value->Bool
 |.inl k,v=>Value.isInt k v
 |.inr x,v=>Value.isStrOf x v
def X3(w:World):Key->Int
 |.inl k=>hashInt k
 |.inr x=>hashStr w x
theorem qe:∀{k:Key} {v:Value},Om k v=true->(∃i t,k=Sum.inl i/\v=Value.int i t)\/(∃x t,k=Sum.inr x/\v=Value.str x t)
 |.inl i,v,h=>by
  obtain⟨t,e⟩:=Value.isInt_shape (k:=i) (v:=v) h
  exact .inl ⟨i,t,rfl,e⟩
 |.inr x,v,h=>by
  obtain⟨t,e⟩:=Value.isStrOf_shape (x:=x) (v:=v) h
  exact .inr ⟨x,t,rfl,e⟩
theorem X4(a b:Int):decide ((Sum.inl a:Key)=Sum.inl b)=(a == b):=by
 by_cases e:a=b
 ·subst e; simp
 ·have h:¬(Sum.inl a:Key)=Sum.inl b:=λq=>e (Sum.inl.inj q)
  rw[decide_eq_false h]
  exact(beq_eq_false_iff_ne.mpr e).symm
theorem X5(a b:Str):decide ((Sum.inr a:Key)=Sum.inr b)=decide (a=b):=by
 by_cases e:a=b
 ·subst e; simp
 ·have h:¬(Sum.inr a:Key)=Sum.inr b:=λq=>e (Sum.inr.inj q)
  rw[decide_eq_false h,decide_eq_false e]
theorem X6(a:Int)(b:Str):decide ((Sum.inl a:Key)=Sum.inr b)=false:=decide_eq_false (λq=>nomatch q)
theorem X7(a:Str)(b:Int):decide ((Sum.inr a:Key)=Sum.inl b)=false:=decide_eq_false (λq=>nomatch q)
noncomputable def GQ(prog:Program)(w:World):PySem.KeyKind prog w Key where
 is:=Om
 hash:=X3 w
 inj:=λv a b ha hb=>by
  rcases qe ha with⟨i,t,rfl,rfl⟩|⟨x,t,rfl,rfl⟩
  ·rcases qe hb with⟨j,u,rfl,e⟩|⟨y,u,rfl,e⟩
   ·injection e with e1 _; rw[e1]
   ·exact nomatch e
  ·rcases qe hb with⟨j,u,rfl,e⟩|⟨y,u,rfl,e⟩
   ·exact nomatch e
   ·injection e with e1 _; rw[e1]
 byValue:=λk v h=>by
  rcases qe h with⟨i,t,rfl,rfl⟩|⟨x,t,rfl,rfl⟩ <;> rfl
 pyHash:=λhv h=>by
  rcases qe hv with⟨i,t,rfl,rfl⟩|⟨x,t,rfl,rfl⟩
  ·exact wpAny_pyHash_int h
  ·exact wpAny_pyHash_str h
 eqBool:=λhu hv h=>by
  rcases qe hu with⟨i,t,rfl,rfl⟩|⟨x,t,rfl,rfl⟩
  ·rcases qe hv with⟨j,u,rfl,rfl⟩|⟨y,u,rfl,rfl⟩
   ·rw[X4]at h; exact wpAny_eqBool_int h
   ·rw[X6]at h; exact SeqAt.EqAt.int_str i t y u _ _ _ _ h
  ·rcases qe hv with⟨j,u,rfl,rfl⟩|⟨y,u,rfl,rfl⟩
   ·rw[X7]at h; exact SeqAt.EqAt.str_int x t j u _ _ _ _ h
   ·rw[X5]at h; exact wpAny_eqBool_str h
 «strs» := λk x t v h=>by
  rcases qe h with⟨i,u,rfl,e⟩|⟨y,u,rfl,e⟩
  ·exact nomatch e
  ·injection e with e1 _
   subst e1
   cases v <;> rfl
end L2
namespace L2
open PySem PySem.Spec PyProof.Rows
inductive V where
 |non|bl (b:Bool)|int (i:Int)|str (x:Str)|yF (b:Array UInt8)|flt (b:UInt64)|ref (a:Addr)|ty (n:String)
 deriving DecidableEq
noncomputable def RelV:V->Value->Prop
 |.non,u=>u=Value.none
 |.bl b,u=>u=Value.bool b
 |.int i,u=>∃t,u=Value.int i t
 |.str x,u=>∃t,u=Value.str x t
 |.yF b,u=>∃t,u=Value.bytes b t
 |.flt b,u=>∃t,u=Value.float b t
 |.ref a,u=>u=Value.ref a
 |.ty n,u=>u=Value.type n
abbrev Vals:List V->List Value->Prop:=Paired RelV
theorem Vals.length{xs:List V}{us:List Value}(r:Vals xs us):xs.length=us.length:=Paired.length r
theorem Vals.get:∀{xs:List V} {us:List Value} {i:Nat} {x:V},Vals xs us->xs[i]?=some x->∃u,us[i]?=some u/\RelV x u
 |_,_,_,_,.nil,e=>by simp at e
 |_,_,0,_,.cons r _,e=>by simp at e; subst e; exact⟨_,rfl,r⟩
 |_,_,i+1,x,.cons _ t,e=>by
  obtain⟨u,h1,h2⟩:=Vals.get (i:=i) (x:=x) t (by simpa using e)
  exact⟨u,by simpa using h1,h2⟩
theorem Vals.set{x:V}{u:Value}(r:RelV x u):∀{xs:List V} {us:List Value} (i:Nat),Vals xs us->Vals (xs.set i x) (us.set i u)
 |_,_,_,.nil=>.nil
 |_,_,0,.cons _ t=>.cons r t
 |_,_,i+1,.cons q t=>.cons q (Vals.set r i t)
theorem Vals.append:∀{xs ys:List V} {us ws:List Value},Vals xs us->Vals ys ws->Vals (xs++ys) (us++ws)
 |_,_,_,_,.nil,s=>s
 |_,_,_,_,.cons r t,s=>.cons r (Vals.append t s)
theorem Vals.take:∀{xs:List V} {us:List Value} (n:Nat),Vals xs us->Vals (xs.take n) (us.take n)
 |_,_,0,_=>.nil
 |_,_,_+1,.nil=>.nil
 |_,_,n+1,.cons r t=>.cons r (Vals.take n t)
theorem Vals.drop:∀{xs:List V} {us:List Value} (n:Nat),Vals xs us->Vals (xs.drop n) (us.drop n)
 |_,_,0,r=>r
 |_,_,_+1,.nil=>.nil
 |_,_,n+1,.cons _ t=>Vals.drop n t
def Oo:Option V->Option Value->Prop
 |some v,some u=>RelV v u
 |none,none=>True
 |_,_=>False
def KV{κ : Type}:List (κ × V)->List (κ × Value)->Prop:=Paired λ(p : κ × V) (q : κ × Value)=>p.1=q.1/\RelV p.2 q.2
def kV:Key->V
 |.inl i=>.int i
 |.inr x=>.str x
inductive HO where
 |lst (xs:List V)
 |tup (xs:List V)
 |dK (kvs:List (Key × V))|dT (kvs:List (List Key × V))
 |set (S:Int->Bool) (n:Nat)
 |ins (C dx:Addr) (fs:List (Str × V))
 |own (x:Addr)
 |xd (fs:List (Str × V))
 |met (f x:Addr)
 |rng (lo hi:Int)
 |cV (o:Obj) (u:HO)
 |f9 (ps:Array Value)
 |ext (φ : Heap->Prop)
abbrev Hp:=Addr->Option HO
def upd(H:Hp)(a:Addr)(o:HO):Hp:=λb=>if b=a then some o else H b
theorem jB{H:Hp}{a:Addr}{o:HO}:upd H a o a=some o:=by unfold upd; rw[if_pos rfl]
theorem cP{H:Hp}{a b:Addr}{o:HO}(h:b≠a):upd H a o b=H b:=by unfold upd; rw[if_neg h]
theorem oY{H:Hp}{a b:Addr}{o:HO}(h:H a=some o)(h':H b=none):a≠b:=by
 intro e; subst e; rw[h]at h'; cases h'
section
variable (P:Program)(w:World)
noncomputable def jV(H:Hp)(h:Heap)(a:Addr):HO->Prop
 |.lst xs=>xs.length<=sizeLine/\∃(its:List Value) (n:Nat),Vals xs its/\h.get? a=some {cls:=.type "list",data:=.seq its.toArray n }
 |.tup xs=>xs.length<=sizeLine/\∃its:List Value,Vals xs its/\IsTup h a its.toArray
 |.dK kvs=>kvs.length<=sizeLine/\(a == sysModules)=false/\∃vs,KV kvs vs/\h.DictOf (GQ P w) a vs
 |.dT kvs=>kvs.length<=sizeLine/\(a == sysModules)=false/\∃xs:List (List Key × Addr × Value),
   Paired (λ(p:List Key × V) (q:List Key × Addr × Value)=>p.1=q.1/\H q.2.1=some (.tup (p.1.map kV))/\RelV p.2 q.2.2) kvs xs /\
   ∃o es ep,h.get? a=some o/\o.ExactDict/\o.data=.dict es ep/\es.toList=xs.map (entryOfKey (tupleKind (GQ P w)))/\(xs.map (·.1)).Nodup
 |.set S n=>h.SetOf (intKind P w) a S n
 |.ins C dx fs=>H dx=some (.own a)/\fs.length<=1000/\dx≠a/\h.get? a=some (PySem.W.instObj C dx) /\
   ∃mA,h.Ns1 dx mA/\(∀f,Oo (fs.lookup f) (mA f))/\PySem.Within mA (fs.map (·.1))
 |.own _=>∃o,h.get? a=some o
 |.xd fs=>∃mA,h.Ns1 a mA/\∀f,Oo (fs.lookup f) (mA f)
 |.rng lo hi=>∃t u v,h.get? a=some {cls:=.type "range",data:=.fields #[.int lo t,.int hi u,.int 1 v] }
 |.cV o u=>h.get? a=some o/\jV H h a u
 |.f9 ps=>h.get? a=some {cls:=.none,data:=.fields ps }
 |.met f x=>h.get? a=some (PySem.W.methodObj (.ref f) (.ref x))
 |.ext φ=>φ h/\(∃o,h.get? a=some o)/\∀h1 h2:Heap,φ h1->(∀o,h1.get? a=some o->h2.get? a=some o) -> φ h2
def gh(H:Hp)(h:Heap):Prop:=∀a o,H a=some o->jV P w H h a o
end
section
variable {P:Program}{w:World}{H H':Hp}{h h':Heap}{a:Addr}{o:HO}
theorem jV.lt(x:jV P w H h a o):a<h.objs.size:=by
 cases o with
 |lst xs=>obtain⟨_,_,_,_,e⟩:=x; exact Heap.lt_size e
 |tup xs=>obtain⟨_,_,_,p⟩:=x; exact p.lt
 |dK kvs=>obtain⟨_,_,_,_,o,_,_,e,_⟩:=x; exact Heap.lt_size e
 |dT kvs=>obtain⟨_,_,_,_,o,_,_,e,_⟩:=x; exact Heap.lt_size e
 |set S n=>obtain⟨o,_,_,_,e,_⟩:=x; exact Heap.lt_size e
 |ins C dx fs=>obtain⟨_,_,_,e,_⟩:=x; exact Heap.lt_size e
 |own y=>obtain⟨_,e⟩:=x; exact Heap.lt_size e
 |xd fs=>obtain⟨_,⟨_,_,_,e,_⟩,_⟩:=x; exact Heap.lt_size e
 |rng lo hi=>obtain⟨_,_,_,e⟩:=x; exact Heap.lt_size e
 |cV ob u=>obtain⟨e,_⟩:=x; exact Heap.lt_size e
 |f9 ps=>exact Heap.lt_size (show h.get? a=some _ from x)
 |met f y=>exact Heap.lt_size (show h.get? a=some _ from x)
 |ext φ=>obtain⟨_,⟨_,e⟩,_⟩:=x; exact Heap.lt_size e
theorem Paired.Oq{α β : Type}{F G : α -> β -> Prop}:∀{l₁ : List α} {l₂ : List β},Paired F l₁ l₂ -> (∀a b,F a b->G a b)->Paired G l₁ l₂
 |_,_,.nil,_=>.nil
 |_,_,.cons r t,f=>.cons (f _ _ r) (Paired.Oq t f)
theorem jV.stay(x:jV P w H h a o)(k:∀b u,(b=a\/H b=some (.own a))->h.get? b=some u->h'.get? b=some u)
  (ho:∀b,H b=some (.own a)->H' b=some (.own a)) (ht:∀b xs,H b=some (.tup xs)->H' b=some (.tup xs)):jV P w H' h' a o:=by
 induction o with
 |lst xs=>obtain⟨z,its,n,r,e⟩:=x; exact⟨z,its,n,r,k _ _ (.inl rfl) e⟩
 |tup xs=>obtain⟨z,its,r,ob,e,c⟩:=x; exact⟨z,its,r,ob,k _ _ (.inl rfl) e,c⟩
 |dK kvs=>obtain⟨z,y,vs,r,ob,es,ep,e,c⟩:=x; exact⟨z,y,vs,r,ob,es,ep,k _ _ (.inl rfl) e,c⟩
 |dT kvs =>
  obtain⟨z,y,xs,r,ob,es,ep,e,c⟩:=x
  exact⟨z,y,xs,Paired.Oq r λp q z=>⟨z.1,ht _ _ z.2.1,z.2.2⟩,ob,es,ep,k _ _ (.inl rfl) e,c⟩
 |set S n=>obtain⟨ob,es,ep,t,e,c⟩:=x; exact⟨ob,es,ep,t,k _ _ (.inl rfl) e,c⟩
 |ins C dx fs =>
  obtain⟨d,z,ne,e,mA,⟨od,es,ep,e2,c⟩,r⟩:=x
  exact⟨ho _ d,z,ne,k _ _ (.inl rfl) e,mA,⟨od,es,ep,k _ _ (.inr d) e2,c⟩,r⟩
 |own y=>obtain⟨ob,e⟩:=x; exact⟨ob,k _ _ (.inl rfl) e⟩
 |xd fs=>obtain⟨mA,⟨od,es,ep,e,c⟩,r⟩:=x; exact⟨mA,⟨od,es,ep,k _ _ (.inl rfl) e,c⟩,r⟩
 |rng lo hi=>obtain⟨t,u,v,e⟩:=x; exact⟨t,u,v,k _ _ (.inl rfl) e⟩
 |cV ob u ih=>obtain⟨e,q⟩:=x; exact⟨k _ _ (.inl rfl) e,ih q⟩
 |f9 ps =>
  have e:h.get? a=some {cls:=.none,data:=.fields ps }:=x
  show h'.get? a=some {cls:=.none,data:=.fields ps }
  exact k a _ (.inl rfl) e
 |met f y =>
  have e:h.get? a=some (PySem.W.methodObj (.ref f) (.ref y)):=x
  show h'.get? a=some (PySem.W.methodObj (.ref f) (.ref y))
  exact k a _ (.inl rfl) e
 |ext φ=>obtain⟨p,⟨o,e⟩,st⟩:=x; exact⟨st _ _ p λo q=>k _ _ (.inl rfl) q,⟨o,k _ _ (.inl rfl) e⟩,st⟩
theorem gh.lt(x:gh P w H h)(e:H a=some o):a<h.objs.size:=(x a o e).lt
theorem gh.fresh(x:gh P w H h)(e:h.objs.size<=a):H a=none:=by
 cases q:H a with
 |none=>rfl
 |some u=>exact absurd (Nat.lt_of_lt_of_le (x.lt q) e) (Nat.lt_irrefl _)
theorem gh.kept(x:gh P w H h)(k:∀b u,h.get? b=some u->h'.get? b=some u):gh P w H h':=λa o e =>
 (x a o e).stay (λb u _ q=>k b u q) (λ_ q=>q) λ_ _ q=>q
theorem gh.laid(x:gh P w H h)(k:∀b u,h.get? b=some u->h'.get? b=some u)(hp:h.objs.size<=a)(new:jV P w (upd H a o) h' a o):gh P w (upd H a o) h':=λb u e=>by
 have hn:=x.fresh hp
 by_cases hb:b=a
 ·subst hb; rw[jB]at e; cases e; exact new
 ·rw[cP hb]at e
  exact(x b u e).stay (λc v _ q=>k c v q) (λc q=>by rw[cP (oY q hn)]; exact q) λc xs q=>by rw[cP (oY q hn)]; exact q
end
def Rd(H:Hp)(a:Addr)(u:HO):Prop:=H a=some u\/∃o,H a=some (.cV o u)
theorem Rd.ok{P:Program}{w:World}{H:Hp}{h:Heap}{a:Addr}{u:HO}(r:Rd H a u)(x:gh P w H h):jV P w H h a u:=by
 rcases r with r|⟨o,r⟩
 ·exact x a u r
 ·obtain⟨_,q⟩:=x a _ r
  exact q
def Bp:Option HO->Prop
 |some (.lst _)=>True
 |some (.dK _)=>True
 |some (.dT _)=>True
 |some (.set _ _)=>True
 |some (.ins _ _ _)=>True
 |some (.ext _)=>True
 |_=>False
section
variable {P:Program}{w:World}{H:Hp}{h h':Heap}{x e:Addr}{o':HO}
theorem gh.write(ok:gh P w H h)(mu:Bp (H x))(he:e=x\/H e=some (.own x))(k:∀b u,b≠e->h.get? b=some u->h'.get? b=some u)(heo:∃u,h'.get? e=some u)
  (new:jV P w (upd H x o') h' x o'):gh P w (upd H x o') h':=λb u q=>by
 have Ot:∀c y,H c=some (.own y)->c≠x:=λc y r z=>by subst z; rw[r]at mu; exact mu
 have X8:∀c xs,H c=some (.tup xs)->c≠x:=λc xs r z=>by subst z; rw[r]at mu; exact mu
 by_cases hb:b=x
 ·subst hb; rw[jB]at q; cases q; exact new
 ·rw[cP hb]at q
  by_cases hbe:b=e
  ·have q':H b=some (.own x):=by
    rcases he with z|z
    ·exact absurd (hbe.trans z) hb
    ·rw[hbe]; exact z
   rw[q]at q'; cases q'
   obtain⟨v,hv⟩:=heo
   exact⟨v,by rw[hbe]; exact hv⟩
  ·refine(ok b u q).stay (λc v hc r=>k c v ?_ r) (λc r=>by rw[cP (Ot c b r)]; exact r) λc xs r=>by rw[cP (X8 c xs r)]; exact r
   rcases hc with rfl|hc
   ·exact hbe
   ·rintro rfl
    rcases he with z|z
    ·exact Ot c b hc z
    ·rw[hc]at z; cases z; exact hb rfl
end
structure Un(fs ex:List Addr)(H H':Hp)(h h':Heap):Prop where
 keep:∀b o,h.get? b=some o->H b=none->b∉fs->b∉ex->h'.get? b=some o
 slot:∀b o,h.get? b=some o->H b=none->b∈fs->b∉ex->∃sl,h'.get? b=some {o with slots:=sl }
 free:∀b o,h.get? b=some o->H b=none->b∉ex->H' b=none
 there:∀b o,h.get? b=some o->b∉ex->∃o',h'.get? b=some o'
 tups:∀b xs,H b=some (.tup xs)->H' b=some (.tup xs)
 lE:∀b o u,H b=some (.cV o u)->H' b=some (.cV o u)
 lF:∀b ps,H b=some (.f9 ps)->∃more,H' b=some (.f9 (ps++more))
section
variable {fs fs' ex ex':List Addr}{H H1 H2:Hp}{h h1 h2 h':Heap}{a x e:Addr}{o:HO}
theorem Un.any(u:Un fs ex H H1 h h1){b:Addr}{ob:Obj}(q:h.get? b=some ob)(n:H b=none)(hx:b∉ex):∃sl,h1.get? b=some {ob with slots:=sl }:=by
 by_cases hb:b∈fs
 ·exact u.slot b ob q n hb hx
 ·exact⟨ob.slots,u.keep b ob q n hb hx⟩
theorem Un.kept(k:∀b u,h.get? b=some u->h'.get? b=some u):Un fs ex H H h h' :=
 ⟨λb ob q _ _ _=>k b ob q,λb ob q _ _ _=>⟨ob.slots,k b ob q⟩,λ_ _ _ n _=>n,λb ob q _=>⟨ob,k b ob q⟩,λ_ _ q=>q,λ_ _ _ q=>q,λ_ ps q=>⟨#[],by rw[q]; simp⟩⟩
theorem Un.refl:Un fs ex H H h h:=Un.kept λ_ _ q=>q
theorem Un.laid(k:∀b u,h.get? b=some u->h'.get? b=some u)(hp:h.objs.size<=a)(hn:H a=none):Un fs ex H (upd H a o) h h' where
 keep:=λb u q _ _ _=>k b u q
 slot:=λb u q _ _ _=>⟨u.slots,k b u q⟩
 free:=λb u q n _=>by rw[cP (Nat.ne_of_lt (Nat.lt_of_lt_of_le (Heap.lt_size q) hp))]; exact n
 there:=λb u q _=>⟨u,k b u q⟩
 tups:=λb xs q=>by rw[cP (oY q hn)]; exact q
 lE:=λb u xs q=>by rw[cP (oY q hn)]; exact q
 lF:=λb ps q=>⟨#[],by rw[cP (oY q hn),q]; simp⟩
theorem Un.write(mu:Bp (H x))(he:e=x\/H e=some (.own x))(k:∀b u,b≠e->h.get? b=some u->h'.get? b=some u)(heo:∃u,h'.get? e=some u):Un fs ex H (upd H x o) h h':=by
 have hx:∀b,H b=none->b≠x:=λb n z=>by subst z; rw[n]at mu; exact mu
 have hb:∀b,H b=none->b≠e:=λb n z=>by
  subst z
  rcases he with r|r
  ·exact hx b n r
  ·rw[n]at r; cases r
 have hm:∀b u,H b=some u->¬Bp (some u)->b≠x:=λb u q nm z=>by subst z; rw[q]at mu; exact nm mu
 refine⟨λb u q n _ _=>k b u (hb b n) q,λb u q n _ _=>⟨u.slots,k b u (hb b n) q⟩,λb u q n _=>by rw[cP (hx b n)]; exact n,λb u q _=>?_,
  λb xs q=>by rw[cP (hm b _ q λz=>z)]; exact q,λb u xs q=>by rw[cP (hm b _ q λz=>z)]; exact q,λb ps q=>⟨#[],by rw[cP (hm b _ q λz=>z),q]; simp⟩⟩
 by_cases hbe:b=e
 ·subst hbe; exact heo
 ·exact⟨u,k b u hbe q⟩
end
def Bq(h:Heap)(H:Hp):List Addr:=(List.range h.objs.size).filter λa=>(H a).isSome
def qg(h:Heap)(H:Hp):Heap:=PySem.W.hideAll h (Bq h H)
theorem Yb(h:Heap)(H:Hp):(qg h H).objs.size=h.objs.size:=PySem.W.hideAll_size _ _
theorem Yc{h:Heap}{H:Hp}{b:Addr}{o:Obj}(e:h.get? b=some o)(n:H b=none):(qg h H).get? b=some o :=
 PySem.W.hideAll_get _ e λhm=>by
  have q:(H b).isSome=true:=(List.mem_filter.mp hm).2
  rw[n]at q; simp at q
theorem Yd{h:Heap}{H:Hp}{b:Addr}{o:Obj}(e:(qg h H).get? b=some o):h.get? b=some o/\H b=none:=by
 have e':h.get? b=some o:=PySem.W.of_hideAll (Bq h H) e
 refine⟨e',?_⟩
 cases q:H b with
 |none=>rfl
 |some x =>
  have hm:b∈Bq h H:=List.mem_filter.mpr ⟨List.mem_range.mpr (Heap.lt_size e'),by simp[q]⟩
  have z:(qg h H).get? b=none:=PySem.W.hideAll_none (Bq h H) hm
  rw[z]at e; cases e
def Ye(g h:Heap)(L:Addr):List (Addr × Obj):=(List.range h.objs.size).filterMap λa=>if a=L\/(g.get? a).isSome=true then none else(h.get? a).map λo=>(a,o)
def rest(g h:Heap)(L d:Addr):List (Addr × Obj):=(Ye g h L).filter λp=>decide (p.1≠d)
end L2
namespace L2
open PySem PySem.Spec PyProof.Rows
structure Mod(K:FZ)(mg:Str->Option Value)(base:Heap):Prop where
 Br:K.In base
 glob:base.Ns mainGlobals mg
 blt:∃mb,base.Ns builtinsNs mb/\∀x:Str,x ≠ "__name__" -> mb x=bootBuiltins x
 nolimit:base.NoLimit
structure Cx where
 prog:Program
 w:World
 K:FZ
 mg:Str->Option Value
 base:Heap
 A:Around
 N:List Str
 s₀ : Shared
 H₀ : Hp
 env:Env
 outer:List Env
 stack:List Env
 ex:List Addr
 fn:Str->Bool
 calm:Bool
 pn:List (Addr × Obj)
 xe:Value->Shared->Prop
def frs(l:List Env):List Addr:=l.filterMap (·.frame)
abbrev Cx.fs(X:Cx):List Addr:=frs X.outer
def Ou(sc:Scope)(x:Str):Prop:=sc.names.lookup x=some .local\/sc.names.lookup x=some .cell\/sc.names.lookup x=some .free
def Loc(sc:Scope)(x:Str):Prop:=sc.names.lookup x=some .local\/sc.names.lookup x=some .cell
def Look(env:Env)(h:Heap)(m:Str->Option Value)(x:Str)(u:Value):Prop :=
 (env.kindOf x=some .local/\m x=some u)\/((env.kindOf x=some .cell\/env.kindOf x=some .free)/\∃c,env.cells.lookup x=some c/\h.IsCell c (some u))
structure Cx.Ok(X:Cx):Prop where
 mod:Mod X.K X.mg X.base
 kind:X.env.scope.kind=.function
 glob:X.env.globals=mainGlobals
 blt:X.env.builtins=builtinsNs
 above:X.s₀.heap.objs.size<=X.env.locals
 inj:∀x y c,X.env.cells.lookup x=some c->X.env.cells.lookup y=some c->x=y
 has:∀x,(X.env.kindOf x=some .cell\/X.env.kindOf x=some .free)->∃c,X.env.cells.lookup x=some c
 cab:∀x c,X.fn x=true->X.env.cells.lookup x=some c->X.s₀.heap.objs.size<=c
 hd:X.calm=true->X.A.handled=none
 frames:X.A.frames=some X.stack
 stk:X.stack=X.outer\/(X.stack=X.env::X.outer/\X.env.frame=some X.env.locals)
 GR:∀b∈X.ex,b≠X.env.locals/\∀x c,X.env.cells.lookup x=some c->c≠b
 bs:∀b o,X.base.get? b=some o->X.s₀.heap.get? b=some o/\X.H₀ b=none
 rE:X.base.objs.size<=X.s₀.heap.objs.size
 jW:∀b o,X.base.get? b=some o->b∉X.ex
 yG:∀b∈X.ex,b∉X.fs
 mD:X.s₀.heap.FunFrames X.base X.outer
 rF:∀b∈X.fs,X.H₀ b=none
structure Inv(X:Cx)(pins:List (Addr × Obj))(σ : List (Option V))(H:Hp)(s:Shared):Prop where
 ok:X.Ok
 os:s.os=X.s₀.os
 bare:AllBare s.gens
 base:Un X.fs X.ex X.H₀ H X.s₀.heap s.heap
 loc:∃m,s.heap.Ns X.env.locals m/\∀(i:Nat) (x:Str) (v:V),X.N[i]?=some x -> σ[i]?=some (some v)->Ou X.env.scope x->∃u,RelV v u/\Look X.env s.heap m x u
 cell:∀x c,X.env.cells.lookup x=some c->∃v,s.heap.IsCell c v
 free:H X.env.locals=none
 mF:∀x c,X.env.cells.lookup x=some c->H c=none
 pin:∀p∈X.pn++pins,s.heap.get? p.1=some p.2/\H p.1=none/\p.1≠X.env.locals/\p.1∉X.fs/\∀v,p.2.data ≠ .cell v
 hok:gh X.prog X.w H s.heap
 len : σ.length=X.N.length
section
variable {X:Cx}{pins:List (Addr × Obj)}{σ : List (Option V)}{H H':Hp}{s:Shared}{h':Heap}
theorem Cx.Ok.Yg(ok:X.Ok){b:Addr}{o:Obj}(e:X.base.get? b=some o):b∉X.fs:=λhb=>by
 have:=(ok.mD.mem hb).1
 rw[e]at this; cases this
theorem Inv.bs(I:Inv X pins σ H s):∀b o,X.base.get? b=some o->s.heap.get? b=some o/\H b=none:=λb o e =>
 ⟨I.base.keep b o (I.ok.bs b o e).1 (I.ok.bs b o e).2 (I.ok.Yg e) (I.ok.jW b o e),I.base.free b o (I.ok.bs b o e).1 (I.ok.bs b o e).2 (I.ok.jW b o e)⟩
theorem Inv.bk(I:Inv X pins σ H s):∀b o,X.base.get? b=some o->s.heap.get? b=some o:=λb o e=>(I.bs b o e).1
theorem Inv.mod(I:Inv X pins σ H s):Mod X.K X.mg X.base:=I.ok.mod
theorem Inv.jq(I:Inv X pins σ H s):X.K.In s.heap:=I.ok.mod.Br.keeps I.bk
theorem Inv.lt(I:Inv X pins σ H s):X.env.locals<s.heap.objs.size:=let⟨_,hn,_⟩:=I.loc; hn.lt
theorem Inv.sz(I:Inv X pins σ H s):X.s₀.heap.objs.size<=s.heap.objs.size:=Nat.le_trans I.ok.above (Nat.le_of_lt I.lt)
theorem Inv.Yh(I:Inv X pins σ H s){a:Addr}(h:s.heap.objs.size<=a):a∉X.fs:=λhb=>by
 obtain⟨_,o,ho,_⟩:=I.ok.mD.mem hb
 exact absurd (Nat.lt_of_lt_of_le (Heap.lt_size ho) (Nat.le_trans I.sz h)) (Nat.lt_irrefl _)
theorem Inv.ql(I:Inv X pins σ H s):∀x c,X.env.cells.lookup x=some c->c≠X.env.locals:=λx c e z=>by
 obtain⟨v,o,ho,hd⟩:=I.cell x c e
 obtain⟨m,⟨o',es,ep,ho',hd',_⟩,_⟩:=I.loc
 rw[z,ho']at ho; cases ho; rw[hd']at hd; cases hd
theorem Inv.mD(I:Inv X pins σ H s):s.heap.FunFrames X.base X.outer:=by
 have all:∀(l:List Env),(∀b∈frs l,b∈X.fs)->X.s₀.heap.FunFrames X.base l->s.heap.FunFrames X.base l:=by
  intro l
  induction l with
  |nil=>intro _ _; trivial
  |cons env r ih =>
   intro hs hl
   obtain⟨hk,⟨L,o,hf,hn,ho,hd⟩,hr⟩:=hl
   have hL:L∈X.fs:=hs L (by unfold frs; rw[List.filterMap_cons,hf]; exact List.mem_cons_self)
   obtain⟨sl,e⟩:=I.base.slot L o ho (I.ok.rF L hL) hL λz=>I.ok.yG L z hL
   exact⟨hk,⟨L,_,hf,hn,e,hd⟩,ih (λb hb=>hs b (by unfold frs; rw[List.filterMap_cons,hf]; exact List.mem_cons_of_mem _ hb)) hr⟩
 exact all X.outer (λ_ hb=>hb) I.ok.mD
theorem Inv.stack(I:Inv X pins σ H s):s.heap.FunFrames X.base X.stack:=by
 rcases I.ok.stk with e|⟨e,hf⟩
 ·rw[e]; exact I.mD
 ·rw[e]
  obtain⟨m,hn,_⟩:=I.loc
  refine .cons (by rw[I.ok.kind]; decide) hf hn ?_ I.mD
  exact Heap.get?_none_of_le (Nat.le_trans I.ok.rE I.ok.above)
theorem Inv.yH(I:Inv X pins σ H s):∀b∈frs X.stack,b∈X.env.locals::X.fs:=λb hb=>by
 rcases I.ok.stk with e|⟨e,hf⟩
 ·rw[e]at hb; exact List.mem_cons_of_mem _ hb
 ·rw[e]at hb
  unfold frs at hb
  rw[List.filterMap_cons,hf]at hb
  exact hb
theorem Inv.yI(I:Inv X pins σ H s):∀b∈frs X.stack,H b=none:=λb hb=>by
 rcases List.mem_cons.mp (I.yH b hb)with e|hb
 ·rw[e]; exact I.free
 ·obtain⟨_,o,ho,_⟩:=I.ok.mD.mem hb
  exact I.base.free b o ho (I.ok.rF b hb) λz=>I.ok.yG b z hb
theorem Inv.step{g':Array GenState}{t':Nat}{d':Drawn}{ch:List Addr}(I:Inv X pins σ H s)
  (hch:∀b∈ch,(b∈X.ex\/X.s₀.heap.objs.size<=b)/\b≠X.env.locals/\(∀x c,X.env.cells.lookup x=some c->c≠b)/\∀p∈X.pn++pins,p.1≠b)
  (keep:∀b o,b≠X.env.locals->b∉X.fs->b∉ch->s.heap.get? b=some o->H b=none->h'.get? b=some o)
  (slot:∀b o,b≠X.env.locals->b∈X.fs->b∉ch->s.heap.get? b=some o->H b=none->∃sl,h'.get? b=some {o with slots:=sl }) (free:∀b o,b∉ch->s.heap.get? b=some o->H b=none->H' b=none)
  (there:∀b o,b∉ch->s.heap.get? b=some o->∃o',h'.get? b=some o')
  (tups:∀b xs,H b=some (.tup xs)->H' b=some (.tup xs)) (lE:∀b o u,H b=some (.cV o u)->H' b=some (.cV o u)) (lF:∀b ps,H b=some (.f9 ps)->∃more,H' b=some (.f9 (ps++more)))
  (ns:∀m,s.heap.Ns X.env.locals m->h'.Ns X.env.locals m) (hok:gh X.prog X.w H' h') (hg:AllBare g') :
  Inv X pins σ H' {s with heap:=h',gens:=g',drawn:=d',toks:=t' }:=by
 have vJ:∀b o,X.s₀.heap.get? b=some o->b≠X.env.locals:=λb o e=>Nat.ne_of_lt (Nat.lt_of_lt_of_le (Heap.lt_size e) I.ok.above)
 have Bs:∀b o,X.s₀.heap.get? b=some o->b∉X.ex->b∉ch:=λb o e hx hb=>by
  rcases(hch b hb).1 with z|z
  ·exact hx z
  ·exact absurd (Nat.lt_of_lt_of_le (Heap.lt_size e) z) (Nat.lt_irrefl _)
 have cellK:∀x c,X.env.cells.lookup x=some c->∀v,s.heap.IsCell c v->h'.IsCell c v:=λx c e v ⟨o,ho,hd⟩=>by
  have yJ:c∉ch:=λz=>(hch c z).2.2.1 x c e rfl
  by_cases hc:c∈X.fs
  ·obtain⟨sl,q⟩:=slot c o (I.ql x c e) hc yJ ho (I.mF x c e)
   exact⟨_,q,hd⟩
  ·exact⟨o,keep c o (I.ql x c e) hc yJ ho (I.mF x c e),hd⟩
 refine⟨I.ok,I.os,hg,⟨λb o e n hb hx=>?_,λb o e n hb hx=>?_,λb o e n hx=>?_,λb o e hx=>?_,λb xs e=>tups b xs (I.base.tups b xs e),λb o xs e=>lE b o xs (I.base.lE b o xs e),λb ps e=>?_⟩,?_,λx c e=>?_,?_,λx c e=>?_,λp hp=>?_,hok,I.len⟩
 ·exact keep b o (vJ b o e) hb (Bs b o e hx) (I.base.keep b o e n hb hx) (I.base.free b o e n hx)
 ·obtain⟨sl,e1⟩:=I.base.slot b o e n hb hx
  obtain⟨sl',e2⟩:=slot b _ (vJ b o e) hb (Bs b o e hx) e1 (I.base.free b o e n hx)
  exact⟨sl',e2⟩
 ·obtain⟨o',e1⟩:=I.base.there b o e hx
  exact free b o' (Bs b o e hx) e1 (I.base.free b o e n hx)
 ·obtain⟨o',e1⟩:=I.base.there b o e hx
  exact there b o' (Bs b o e hx) e1
 ·obtain⟨m1,e1⟩:=I.base.lF b ps e
  obtain⟨m2,e2⟩:=lF b _ e1
  exact⟨m1++m2,by rw[e2,Array.append_assoc]⟩
 ·obtain⟨m,hn,hl⟩:=I.loc
  refine⟨m,ns m hn,λi x v e1 e2 e3=>?_⟩
  obtain⟨u,r,l⟩:=hl i x v e1 e2 e3
  refine⟨u,r,?_⟩
  rcases l with l|⟨k,c,e,z⟩
  ·exact .inl l
  ·exact .inr ⟨k,c,e,cellK x c e _ z⟩
 ·obtain⟨v,z⟩:=I.cell x c e
  exact⟨v,cellK x c e v z⟩
 ·obtain⟨m,⟨o,_,_,ho,_⟩,_⟩:=I.loc
  exact free _ o (λz=>(hch _ z).2.1 rfl) ho I.free
 ·obtain⟨v,o,ho,hd⟩:=I.cell x c e
  exact free c o (λz=>(hch c z).2.2.1 x c e rfl) ho (I.mF x c e)
 ·obtain⟨e,n,ne,nf,d⟩:=I.pin p hp
  have yJ:p.1∉ch:=λz=>(hch p.1 z).2.2.2 p hp rfl
  exact⟨keep p.1 p.2 ne nf yJ e n,free p.1 p.2 yJ e n,ne,nf,d⟩
theorem Inv.un{t':Nat}(I:Inv X pins σ H s)(u:Un X.fs [] H H' s.heap h')(hok:gh X.prog X.w H' h'):Inv X pins σ H' {s with heap:=h',toks:=t' }:=by
 obtain⟨m,⟨o,es,ep,ho,r⟩,_⟩:=id I.loc
 obtain⟨sl,hL⟩:=u.any ho I.free (by simp)
 exact I.step (g':=s.gens) (d':=s.drawn) (ch:=[]) (λ_ z=>nomatch z) (λb o _ hb _ e n=>u.keep b o e n hb (by simp)) (λb o _ hb _ e n=>u.slot b o e n hb (by simp)) (λb o _ e n=>u.free b o e n (by simp)) (λb o _ e=>u.there b o e (by simp)) u.tups u.lE u.lF (λm' hm=>by
  obtain⟨o',es',ep',ho',r'⟩:=hm
  rw[ho]at ho'; cases ho'
  exact⟨_,es',ep',hL,r'⟩) hok I.bare
theorem Inv.call{g':Array GenState}{t':Nat}{d':Drawn}{ch:List Addr}(I:Inv X pins σ H s)(u:Un (frs X.stack) ch H H' s.heap h')(hok:gh X.prog X.w H' h')(hg:AllBare g')
  (hch:∀b∈ch,(b∈X.ex\/X.s₀.heap.objs.size<=b)/\b≠X.env.locals/\(∀x c,X.env.cells.lookup x=some c->c≠b)/\∀p∈X.pn++pins,p.1≠b) :
  Inv X pins σ H' {s with heap:=h',gens:=g',drawn:=d',toks:=t' }:=by
 obtain⟨m,⟨o,es,ep,ho,r⟩,_⟩:=id I.loc
 obtain⟨sl,hL⟩:=u.any ho I.free λz=>(hch _ z).2.1 rfl
 exact I.step (ch:=ch) hch (λb o hL hb hc e n=>u.keep b o e n (λz=>(List.mem_cons.mp (I.yH b z)).elim hL hb) hc) (λb o _ _ hc e n=>u.any e n hc) (λb o hc e n=>u.free b o e n hc) (λb o hc e=>u.there b o e hc) u.tups u.lE u.lF (λm' hm=>by
  obtain⟨o',es',ep',ho',r'⟩:=hm
  rw[ho]at ho'; cases ho'
  exact⟨_,es',ep',hL,r'⟩) hok hg
theorem Inv.turned{t':Nat}{it:Addr}(I:Inv X pins σ H s)(k:∀b o,b≠it->s.heap.get? b=some o->h'.get? b=some o)(hn:H it=none)(hL:it≠X.env.locals)
  (h1:it∈X.ex\/X.s₀.heap.objs.size<=it) (h2:∀x c,X.env.cells.lookup x=some c->c≠it) (h3:∀p∈X.pn++pins,p.1≠it):Inv X pins σ H {s with heap:=h',toks:=t' }:=by
 have Ov:∀b u,H b=some u->b≠it:=λb u e z=>by rw[z,hn]at e; cases e
 refine I.step (g':=s.gens) (d':=s.drawn) (ch:=[it]) (λb hb=>?_) (λb o _ _ hc e _=>k b o (λz=>hc (by simp[z])) e) (λb o _ _ hc e _=>⟨o.slots,k b o (λz=>hc (by simp[z])) e⟩) (λ_ _ _ _ n=>n)
  (λb o hc e=>⟨o,k b o (λz=>hc (by simp[z])) e⟩) (λ_ _ e=>e) (λ_ _ _ e=>e) (λb ps e=>⟨#[],by rw[e]; simp⟩) (λm hm=>?_) (λb u e=>?_) I.bare
 ·have e:b=it:=by simpa using hb
  subst e
  exact⟨h1,hL,h2,h3⟩
 ·obtain⟨o,es,ep,ho,r⟩:=hm
  exact⟨o,es,ep,k _ o (Ne.symm hL) ho,r⟩
 ·refine(I.hok b u e).stay (λc v hc q=>k c v ?_ q) (λ_ q=>q) λ_ _ q=>q
  rcases hc with z|z
  ·rw[z]; exact Ov b u e
  ·exact Ov c _ z
theorem Inv.tok(I:Inv X pins σ H s)(t:Nat):Inv X pins σ H {s with toks:=t }:=I.un (h':=s.heap) (t':=t) Un.refl I.hok
theorem Inv.kept{t':Nat}(I:Inv X pins σ H s)(k:∀b u,s.heap.get? b=some u->h'.get? b=some u):Inv X pins σ H {s with heap:=h',toks:=t' }:=I.un (Un.kept k) (I.hok.kept k)
theorem Inv.laid{a:Addr}{o:HO}{t':Nat}(I:Inv X pins σ H s)(k:∀b u,s.heap.get? b=some u->h'.get? b=some u)(hp:s.heap.objs.size<=a)(new:jV X.prog X.w (upd H a o) h' a o) :
  Inv X pins σ (upd H a o) {s with heap:=h',toks:=t' }:=I.un (Un.laid k hp (I.hok.fresh hp)) (I.hok.laid k hp new)
theorem Inv.write{x e:Addr}{o:HO}{t':Nat}(I:Inv X pins σ H s)(mu:Bp (H x))(he:e=x\/H e=some (.own x))(k:∀b u,b≠e->s.heap.get? b=some u->h'.get? b=some u)(heo:∃u,h'.get? e=some u)
  (new:jV X.prog X.w (upd H x o) h' x o):Inv X pins σ (upd H x o) {s with heap:=h',toks:=t' }:=I.un (Un.write mu he k heo) (I.hok.write mu he k heo new)
theorem Inv.Ow{Ox:List (Addr × Obj)}(I:Inv X pins σ H s)(h:∀p∈Ox,s.heap.get? p.1=some p.2/\H p.1=none/\p.1≠X.env.locals/\p.1∉X.fs/\∀v,p.2.data ≠ .cell v):Inv X Ox σ H s :=
 ⟨I.ok,I.os,I.bare,I.base,I.loc,I.cell,I.free,I.mF,λp hp=>(List.mem_append.mp hp).elim (λz=>I.pin p (List.mem_append_left _ z)) (h p),I.hok,I.len⟩
theorem GX{N:List Str}(hN:N.Nodup){i j:Nat}{x:Str}(a:N[i]?=some x)(b:N[j]?=some x):i=j:=by
 obtain⟨h1,e1⟩:=List.getElem?_eq_some_iff.mp a
 obtain⟨h2,e2⟩:=List.getElem?_eq_some_iff.mp b
 exact(List.getElem_inj hN).mp (e1.trans e2.symm)
theorem Oz{M:Model}{A:Around}{E:Value->Shared->Prop}{i:Nat}{x:Str}{v:V}{u:Value}{Q:Unit->Shared->Prop}(I:Inv X pins σ H s)(hN:X.N.Nodup)(hi:X.N[i]?=some x)(hx:Loc X.env.scope x)(r:RelV v u)
  (h:∀s',Inv X pins (σ.set i (some v)) H s'->(∃a,Heap.SameBut a s.heap s'.heap/\(a=X.env.locals\/X.env.cells.lookup x=some a))->Q () s') (hf:X.fn x=true\/X.env.scope.names.lookup x=some .local:=by first|exact .inl rfl|exact .inr rfl|assumption):wpAny M A (storeName X.env x u) Q E s:=by
 obtain⟨m,hn,hl⟩:=id I.loc
 have hcls:(X.env.scope.kind == .class || (X.env.scope.kind == .module&&X.env.locals != X.env.globals))=false:=by rw[I.ok.kind]; rfl
 have OD:i < σ.length:=by rw[I.len]; exact(List.getElem?_eq_some_iff.mp hi).1
 have ql:=I.ql
 have tracked:∀{a:Addr} {h':Heap},(∃o,s.heap.get? a=some o/\H a=none)->Heap.SameBut a s.heap h'->gh X.prog X.w H h':=λ{a h'} ha hs b ob e=>by
  obtain⟨_,_,hfree⟩:=ha
  refine(I.hok b ob e).stay (λc w' hc q=>(hs.2 c ?_).trans q) (λ_ q=>q) λ_ _ q=>q
  rintro rfl
  rcases hc with rfl|hc
  ·rw[hfree]at e; cases e
  ·rw[hfree]at hc; cases hc
 rcases hx with hk|hk
 ·refine wpAny_storeName_local hk hn (λh' hn' hs=>?_) hcls
  obtain⟨oL,_,_,hoL,_⟩:=id hn
  refine h _ ⟨I.ok,I.os,I.bare,⟨λb o e n hb hx=>?_,λb o e n hb hx=>?_,I.base.free,λb o e hx=>?_,I.base.tups,I.base.lE,I.base.lF⟩,⟨_,hn',λj y v' e1 e2 e3=>?_⟩,λy c e=>?_,I.free,I.mF,λp hp=>?_,tracked ⟨oL,hoL,I.free⟩ hs,by simpa using I.len⟩ ⟨_,hs,.inl rfl⟩
  ·exact(hs.2 b (Nat.ne_of_lt (Nat.lt_of_lt_of_le (Heap.lt_size e) I.ok.above))).trans (I.base.keep b o e n hb hx)
  ·obtain⟨sl,e1⟩:=I.base.slot b o e n hb hx
   exact⟨sl,(hs.2 b (Nat.ne_of_lt (Nat.lt_of_lt_of_le (Heap.lt_size e) I.ok.above))).trans e1⟩
  ·obtain⟨o',e1⟩:=I.base.there b o e hx
   exact⟨o',(hs.2 b (Nat.ne_of_lt (Nat.lt_of_lt_of_le (Heap.lt_size e) I.ok.above))).trans e1⟩
  ·by_cases hj:j=i
   ·subst hj
    rw[hi]at e1; cases e1
    rw[List.getElem?_set_self OD]at e2
    cases e2
    exact⟨u,r,.inl ⟨hk,by simp⟩⟩
   ·rw[List.getElem?_set_ne (Ne.symm hj)]at e2
    obtain⟨u',r',q⟩:=hl j y v' e1 e2 e3
    refine⟨u',r',?_⟩
    rcases q with⟨k,e⟩|⟨k,c,e,z⟩
    ·refine .inl ⟨k,?_⟩
     have:y≠x:=λe=>hj (GX hN e1 (e▸hi))
     simp[this,e]
    ·exact .inr ⟨k,c,e,z.sameBut hs (ql y c e)⟩
  ·obtain⟨w',z⟩:=I.cell y c e
   exact⟨w',z.sameBut hs (ql y c e)⟩
  ·obtain⟨e,n,ne,nf,d⟩:=I.pin p hp
   exact⟨(hs.2 p.1 ne).trans e,n,ne,nf,d⟩
 ·have hfn:X.fn x=true:=by
   rcases hf with z|z
   ·exact z
   ·rw[z]at hk; cases hk
  obtain⟨c,hc⟩:=I.ok.has x (.inl hk)
  obtain⟨w',z⟩:=I.cell x c hc
  refine wpAny_storeName_cell I.ok.kind hk hc z (λh' hc' hs=>?_)
  obtain⟨oc,hoc,Yi⟩:=id z
  refine h {s with heap:=h' } ⟨I.ok,I.os,I.bare,⟨λb o e n hb hx=>?_,λb o e n hb hx=>?_,I.base.free,λb o e hx=>?_,I.base.tups,I.base.lE,I.base.lF⟩,⟨m,hn.sameBut hs (Ne.symm (ql x c hc)),λj y v' e1 e2 e3=>?_⟩,λy c' e=>?_,I.free,I.mF,λp hp=>?_,tracked ⟨oc,hoc,I.mF x c hc⟩ hs,by simpa using I.len⟩ ⟨c,hs,.inr hc⟩
  ·exact(hs.2 b (Nat.ne_of_lt (Nat.lt_of_lt_of_le (Heap.lt_size e) (I.ok.cab x c hfn hc)))).trans (I.base.keep b o e n hb hx)
  ·obtain⟨sl,e1⟩:=I.base.slot b o e n hb hx
   exact⟨sl,(hs.2 b (Nat.ne_of_lt (Nat.lt_of_lt_of_le (Heap.lt_size e) (I.ok.cab x c hfn hc)))).trans e1⟩
  ·obtain⟨o',e1⟩:=I.base.there b o e hx
   exact⟨o',(hs.2 b (Nat.ne_of_lt (Nat.lt_of_lt_of_le (Heap.lt_size e) (I.ok.cab x c hfn hc)))).trans e1⟩
  ·by_cases hj:j=i
   ·subst hj
    rw[hi]at e1; cases e1
    rw[List.getElem?_set_self OD]at e2
    cases e2
    exact⟨u,r,.inr ⟨.inl hk,c,hc,hc'⟩⟩
   ·rw[List.getElem?_set_ne (Ne.symm hj)]at e2
    obtain⟨u',r',q⟩:=hl j y v' e1 e2 e3
    refine⟨u',r',?_⟩
    rcases q with q|⟨k,c',e,z'⟩
    ·exact .inl q
    ·refine .inr ⟨k,c',e,z'.sameBut hs ?_⟩
     rintro rfl
     exact hj (GX hN e1 (I.ok.inj _ _ _ e hc▸hi))
  ·by_cases hcc:c'=c
   ·subst hcc; exact⟨_,hc'⟩
   ·obtain⟨w2,z2⟩:=I.cell y c' e
    exact⟨w2,z2.sameBut hs hcc⟩
  ·obtain⟨e,n,ne,nf,d⟩:=I.pin p hp
   refine⟨(hs.2 p.1 ?_).trans e,n,ne,nf,d⟩
   intro q
   rw[q,hoc]at e
   have q':oc=p.2:=Option.some.inj e
   exact d w' (by rw[<-q']; exact Yi)
theorem vK{M:Model}{A:Around}{E:Value->Shared->Prop}{i:Nat}{x:Str}{v:V}{u:Value}{Q:Unit->Shared->Prop}(I:Inv X pins σ H s)(hN:X.N.Nodup)(hi:X.N[i]?=some x)(hx:Loc X.env.scope x)(r:RelV v u)
  (h:∀s',Inv X pins (σ.set i (some v)) H s'->Q () s') (hf:X.fn x=true\/X.env.scope.names.lookup x=some .local:=by first|exact .inl rfl|exact .inr rfl|assumption):wpAny M A (storeName X.env x u) Q E s :=
 Oz I hN hi hx r (λs' I' _=>h s' I') hf
theorem Inv.call'{s':Shared}{ch:List Addr}(I:Inv X pins σ H s)(ho:s'.os=s.os)(u:Un (frs X.stack) ch H H' s.heap s'.heap)(hok:gh X.prog X.w H' s'.heap)(hg:AllBare s'.gens)
  (hch:∀b∈ch,(b∈X.ex\/X.s₀.heap.objs.size<=b)/\b≠X.env.locals/\(∀x c,X.env.cells.lookup x=some c->c≠b)/\∀p∈X.pn++pins,p.1≠b):Inv X pins σ H' s':=by
 obtain⟨h',g',d',t',o'⟩:=s'
 have e:o'=s.os:=ho
 subst e
 exact I.call (g':=g') (t':=t') (d':=d') u hok hg hch
end
abbrev XK:=Value->Option Addr->Hp->Prop
abbrev St:=List (Option V)
abbrev VK:=V->Hp->Prop
abbrev TE:=St->Hp->VK->Prop
abbrev TT:=St->Hp->(Bool->Hp->Prop)->Prop
abbrev TA:=St->Hp->(List V->Hp->Prop)->Prop
structure Ends where
 nx:St->Hp->Prop
 rt:VK
 bk:St->Hp->Prop:=λ_ _=>False
 ct:St->Hp->Prop:=λ_ _=>False
abbrev TS:=Ends->St->Hp->Prop
def EP(X:Cx)(pins:List (Addr × Obj))(σ : St)(Q:VK)(u:Value)(s':Shared):Prop:=∃v H',Inv X pins σ H' s'/\RelV v u/\Q v H'
def TP(X:Cx)(pins:List (Addr × Obj))(σ : St)(Q:Bool->Hp->Prop)(b:Bool)(s':Shared):Prop:=∃H',Inv X pins σ H' s'/\Q b H'
def AP(X:Cx)(pins:List (Addr × Obj))(σ : St)(Q:List V->Hp->Prop)(us:List Value)(s':Shared):Prop:=∃vs H',Inv X pins σ H' s'/\Vals vs us/\Q vs H'
noncomputable def SP(X:Cx)(pins:List (Addr × Obj))(D:Ends)(f:Flow)(s':Shared):Prop :=
 match f with
 |.next=>∃σ' H',Inv X pins σ' H' s'/\D.nx σ' H'
 |.brk=>∃σ' H',Inv X pins σ' H' s'/\D.bk σ' H'
 |.cont=>∃σ' H',Inv X pins σ' H' s'/\D.ct σ' H'
 |.ret u=>∃v σ' H',Inv X pins σ' H' s'/\RelV v u/\D.rt v H'
structure PE(X:Cx)(e:Expr)(t:TE):Prop where
 run:∀(pins:List (Addr × Obj)) (s:Shared) (σ : St) (H:Hp) (Q:VK),Inv X pins σ H s->t σ H Q->wpAny (model X.prog X.w) X.A (eval e X.env) (EP X pins σ Q) X.xe s
instance {X:Cx}{e:Expr}{t:TE}:CoeFun (PE X e t) λ_=>∀(pins:List (Addr × Obj)) (s:Shared) (σ : St) (H:Hp) (Q:VK),Inv X pins σ H s->t σ H Q->wpAny (model X.prog X.w) X.A (eval e X.env) (EP X pins σ Q) X.xe s:=⟨PE.run⟩
structure PT(X:Cx)(e:Expr)(t:TT):Prop where
 run:∀(pins:List (Addr × Obj)) (s:Shared) (σ : St) (H:Hp) (Q:Bool->Hp->Prop),Inv X pins σ H s->t σ H Q->wpAny (model X.prog X.w) X.A (isTrue e X.env (eval e X.env)) (TP X pins σ Q) X.xe s
instance {X:Cx}{e:Expr}{t:TT}:CoeFun (PT X e t) λ_=>∀(pins:List (Addr × Obj)) (s:Shared) (σ : St) (H:Hp) (Q:Bool->Hp->Prop),Inv X pins σ H s->t σ H Q->wpAny (model X.prog X.w) X.A (isTrue e X.env (eval e X.env)) (TP X pins σ Q) X.xe s:=⟨PT.run⟩
structure PW(X:Cx)(e:Expr)(t:TT):Prop where
 run:∀(whole:Sem Value) (pins:List (Addr × Obj)) (s:Shared) (σ : St) (H:Hp) (Q:Bool->Hp->Prop),Inv X pins σ H s->t σ H Q->wpAny (model X.prog X.w) X.A (isTrue e X.env whole) (TP X pins σ Q) X.xe s
noncomputable instance {X:Cx}{e:Expr}{t:TT}:CoeFun (PW X e t) λ_=>∀(whole:Sem Value) (pins:List (Addr × Obj)) (s:Shared) (σ : St) (H:Hp) (Q:Bool->Hp->Prop),Inv X pins σ H s->t σ H Q->wpAny (model X.prog X.w) X.A (isTrue e X.env whole) (TP X pins σ Q) X.xe s:=⟨PW.run⟩
theorem PW.pt{X:Cx}{e:Expr}{t:TT}(h:PW X e t):PT X e t:=⟨h.run _⟩
structure PA(X:Cx)(es:List Expr)(t:TA):Prop where
 run:∀(pos:Pos) (pins:List (Addr × Obj)) (s:Shared) (σ : St) (H:Hp) (Q:List V->Hp->Prop),Inv X pins σ H s->t σ H Q->wpAny (model X.prog X.w) X.A (spliced (backTo pos (starEach es X.env))) (AP X pins σ Q) X.xe s
noncomputable instance {X:Cx}{es:List Expr}{t:TA}:CoeFun (PA X es t) λ_=>∀(pos:Pos) (pins:List (Addr × Obj)) (s:Shared) (σ : St) (H:Hp) (Q:List V->Hp->Prop),Inv X pins σ H s->t σ H Q->wpAny (model X.prog X.w) X.A (spliced (backTo pos (starEach es X.env))) (AP X pins σ Q) X.xe s:=⟨PA.run⟩
structure PS(X:Cx)(st:Stmt)(t:TS):Prop where
 run:∀(pins:List (Addr × Obj)) (s:Shared) (σ : St) (H:Hp) (D:Ends),Inv X pins σ H s->t D σ H->wpAny (model X.prog X.w) X.A (exec st X.env) (SP X pins D) X.xe s
instance {X:Cx}{st:Stmt}{t:TS}:CoeFun (PS X st t) λ_=>∀(pins:List (Addr × Obj)) (s:Shared) (σ : St) (H:Hp) (D:Ends),Inv X pins σ H s->t D σ H->wpAny (model X.prog X.w) X.A (exec st X.env) (SP X pins D) X.xe s:=⟨PS.run⟩
structure jX(X:Cx)(st:List Stmt)(t:TS):Prop where
 run:∀(pins:List (Addr × Obj)) (s:Shared) (σ : St) (H:Hp) (D:Ends),Inv X pins σ H s->t D σ H->wpAny (model X.prog X.w) X.A (execs st X.env) (SP X pins D) X.xe s
instance {X:Cx}{st:List Stmt}{t:TS}:CoeFun (jX X st t) λ_=>∀(pins:List (Addr × Obj)) (s:Shared) (σ : St) (H:Hp) (D:Ends),Inv X pins σ H s->t D σ H->wpAny (model X.prog X.w) X.A (execs st X.env) (SP X pins D) X.xe s:=⟨jX.run⟩
theorem bJ{α : Type}{t:Sem α}{Q Q' : α -> Shared->Prop}{M:Model}{A:Around}{E:Value->Shared->Prop}{s:Shared}(h:wpAny M A t Q E s)(hQ:∀a s,Q a s->Q' a s):wpAny M A t Q' E s:=wpAny_mono h hQ λ_ _ x=>x
end L2
namespace L2
open PySem PySem.Spec PyProof.Rows
section
variable {X:Cx}
def yK(i:Nat):TE:=λσ H Q=>∃v,σ[i]?=some (some v)/\Q v H
def tC(v:V):TE:=λ_ H Q=>Q v H
theorem OJ{i:Nat}{x:Str}{pos:Pos}(hN:X.N[i]?=some x)(hv:Ou X.env.scope x)(hd:(x == ("__debug__" : Str))=false:=by decide) (hcd:(x == ("__classdict__" : Str))=false:=by decide):PE X (.Name x pos) (yK i):=by
 refine⟨λpins s σ H Q I h=>?_⟩
 obtain⟨v,e,h⟩:=h
 obtain⟨m,hn,hl⟩:=I.loc
 obtain⟨u,r,l⟩:=hl i x v hN e hv
 have fin:EP X pins σ Q u s:=⟨v,H,I,r,h⟩
 rcases l with⟨hk,hm⟩|⟨hk,c,hc,hcell⟩
 ·exact wpAny_Name (wpAny_loadName_local I.ok.kind hk hn hm fin) hd
 ·rcases hk with hk|hk
  ·exact wpAny_Name (wpAny_loadName_cell I.ok.kind hk hc hcell fin) hd
  ·exact wpAny_Name (wpAny_loadName_free I.ok.kind hk hc hcell fin hcd) hd
theorem aJ{i j pos}:PE X (.Constant (.int i) j pos) (tC (.int i)):=⟨λ_ _ _ H _ I h=>wpAny_Constant_int ⟨.int i,H,I.tok _,⟨_,rfl⟩,h⟩⟩
theorem iQ{b j pos}:PE X (.Constant (.bool b) j pos) (tC (.bl b)):=⟨λ_ _ _ H _ I h=>Constant_bool ⟨.bl b,H,I,rfl,h⟩⟩
theorem fB{j pos}:PE X (.Constant .none j pos) (tC .non):=⟨λ_ _ _ H _ I h=>Constant_none ⟨.non,H,I,rfl,h⟩⟩
theorem bR{x j pos}:PE X (.Constant (.str x) j pos) (tC (.str x)):=⟨λ_ _ _ H _ I h=>Calls.Constant_str ⟨.str x,H,I.tok _,⟨_,rfl⟩,h⟩⟩
def Gl(X:Cx)(x:Str):Prop:=X.env.kindOf x=some .globalImplicit
theorem yL{E:Value->Shared->Prop}{pins:List (Addr × Obj)}{s:Shared}{σ : St}{H:Hp}{x:Str}{u:Value}{pos:Pos}{Q:Value->Shared->Prop}(I:Inv X pins σ H s)(hg:Gl X x)(hm:X.mg x=some u)(h:Q u s)
  (hd:(x == ("__debug__" : Str))=false:=by decide):wpAny (model X.prog X.w) X.A (eval (.Name x pos) X.env) Q E s :=
 Calls.Name_function_global I.ok.kind hg (Calls.loadGlobal_global (by rw[I.ok.glob]; exact I.mod.glob.keeps I.bk) hm h) hd
theorem vL{E:Value->Shared->Prop}{pins:List (Addr × Obj)}{s:Shared}{σ : St}{H:Hp}{x:Str}{u:Value}{pos:Pos}{Q:Value->Shared->Prop}(I:Inv X pins σ H s)(hg:Gl X x)(hm:X.mg x=none)(hv:bootBuiltins x=some u)(h:Q u s)
  (hn:x ≠ "__name__" := by decide) (hd:(x == ("__debug__" : Str))=false:=by decide):wpAny (model X.prog X.w) X.A (eval (.Name x pos) X.env) Q E s:=by
 obtain⟨mb,h1,h2⟩:=I.mod.blt
 exact Calls.Name_function_global I.ok.kind hg (Calls.loadGlobal_builtin (by rw[I.ok.glob]; exact I.mod.glob.keeps I.bk) hm (by rw[I.ok.blt]; exact h1.keeps I.bk) ((h2 x hn).trans hv) h) hd
theorem O1{x:Str}{v:V}{u:Value}{pos:Pos}(hg:Gl X x)(hm:X.mg x=some u)(r:RelV v u)(hd:(x == ("__debug__" : Str))=false:=by decide):PE X (.Name x pos) (tC v) :=
 ⟨λ_ _ _ H _ I h=>yL I hg hm ⟨v,H,I,r,h⟩ hd⟩
theorem O2{x:Str}{v:V}{u:Value}{pos:Pos}(hg:Gl X x)(hm:X.mg x=none)(hv:bootBuiltins x=some u)(r:RelV v u)(hn:x ≠ "__name__" := by decide) (hd:(x == ("__debug__" : Str))=false:=by decide):PE X (.Name x pos) (tC v) :=
 ⟨λ_ _ _ H _ I h=>vL I hg hm hv ⟨v,H,I,r,h⟩ hn hd⟩
variable {a b:Expr}{ta tb:TE}{pos:Pos}
def tB(t:TE):TT:=λσ H Q=>t σ H λx H1=>∃c,x=.bl c/\Q c H1
variable {tA jr:TT}{rest:List Expr}
def O3(t u:TT):TT:=λσ H Q=>t σ H λc H1=>if c=true then u σ H1 Q else Q false H1
def O4(t u:TT):TT:=λσ H Q=>t σ H λc H1=>if c=true then Q true H1 else u σ H1 Q
def O5(t:TT):TT:=λσ H Q=>t σ H λc H1=>Q (!c) H1
theorem qm(ha:PT X a tA):PW X (.BoolOp .And [a] pos) tA:=by
 refine⟨λwh pins s σ H Q I h=>?_⟩
 refine isTrue_and (bJ (ha pins s σ H Q I h) λc s1 e=>?_)
 cases c with
 |true=>exact isTrue_and_nil e
 |false=>exact e
theorem jt(ha:PT X a tA):PW X (.BoolOp .Or [a] pos) tA:=by
 refine⟨λwh pins s σ H Q I h=>?_⟩
 refine isTrue_or (bJ (ha pins s σ H Q I h) λc s1 e=>?_)
 cases c with
 |false=>exact isTrue_or_nil e
 |true=>exact e
theorem oZ(ha:PT X a tA)(hb:PW X (.BoolOp .And (b::rest) pos) jr):PW X (.BoolOp .And (a::b::rest) pos) (O3 tA jr):=by
 refine⟨λwh pins s σ H Q I h=>?_⟩
 refine isTrue_and (bJ (ha pins s σ H _ I h) λc s1 ⟨H1,I1,q1⟩=>?_)
 cases c with
 |true=>exact hb wh pins s1 σ H1 Q I1 q1
 |false=>exact⟨H1,I1,q1⟩
theorem iz(ha:PT X a tA)(hb:PW X (.BoolOp .Or (b::rest) pos) jr):PW X (.BoolOp .Or (a::b::rest) pos) (O4 tA jr):=by
 refine⟨λwh pins s σ H Q I h=>?_⟩
 refine isTrue_or (bJ (ha pins s σ H _ I h) λc s1 ⟨H1,I1,q1⟩=>?_)
 cases c with
 |true=>exact⟨H1,I1,q1⟩
 |false=>exact hb wh pins s1 σ H1 Q I1 q1
theorem fH(ha:PT X a tA):PT X (.UnaryOp .Not a pos) (O5 tA):=by
 refine⟨λpins s σ H Q I h=>?_⟩
 exact isTrue_not (ha pins s σ H (λc H1=>Q (!c) H1) I h)
def O6(ta tb:TE):TE:=λσ H Q=>ta σ H λx H1=>∃c,x=.bl c/\if c=true then tb σ H1 Q else Q (.bl false) H1
def O7(ta tb:TE):TE:=λσ H Q=>ta σ H λx H1=>∃c,x=.bl c/\if c=true then Q (.bl true) H1 else tb σ H1 Q
def O8(ta:TE):TE:=λσ H Q=>ta σ H λx H1=>∃c,x=.bl c/\Q (.bl (!c)) H1
theorem qp{op}{t:TE}(h:PE X a t):PE X (.BoolOp op [a] pos) t:=⟨λpins s σ H Q I hw=>BoolOp_one (h pins s σ H Q I hw)⟩
theorem o7(ha:PE X a ta)(hb:PE X (.BoolOp .And (b::rest) pos) tb):PE X (.BoolOp .And (a::b::rest) pos) (O6 ta tb):=by
 refine⟨λpins s σ H Q I h=>?_⟩
 refine BoolOp_and (bJ (ha pins s σ H _ I h) λv s1 ⟨x,H1,I1,r1,q1⟩=>?_)
 obtain⟨c,rfl,q1⟩:=q1
 cases r1
 refine wpAny_truthy_bool ?_
 cases c with
 |true=>exact hb pins s1 σ H1 Q I1 q1
 |false=>exact⟨.bl false,H1,I1,rfl,q1⟩
theorem Yj(ha:PE X a ta)(hb:PE X (.BoolOp .Or (b::rest) pos) tb):PE X (.BoolOp .Or (a::b::rest) pos) (O7 ta tb):=by
 refine⟨λpins s σ H Q I h=>?_⟩
 refine BoolOp_or (bJ (ha pins s σ H _ I h) λv s1 ⟨x,H1,I1,r1,q1⟩=>?_)
 obtain⟨c,rfl,q1⟩:=q1
 cases r1
 refine wpAny_truthy_bool ?_
 cases c with
 |false=>exact hb pins s1 σ H1 Q I1 q1
 |true=>exact⟨.bl true,H1,I1,rfl,q1⟩
theorem O9(ha:PE X a ta):PE X (.UnaryOp .Not a pos) (O8 ta):=by
 refine⟨λpins s σ H Q I h=>?_⟩
 refine UnaryOp_ (bJ (ha pins s σ H _ I h) λv s1 ⟨x,H1,I1,r1,q1⟩=>?_)
 obtain⟨c,rfl,q1⟩:=q1
 cases r1
 exact not_of (wpAny_truthy_bool ⟨.bl (!c),H1,I1,rfl,q1⟩)
def Pa(t:TT)(ta tb:TE):TE:=λσ H Q=>t σ H λc H1=>if c=true then ta σ H1 Q else tb σ H1 Q
theorem vM{c:Expr}(hc:PT X c tA)(ha:PE X a ta)(hb:PE X b tb):PE X (.IfExp c a b pos) (Pa tA ta tb):=by
 refine⟨λpins s σ H Q I h=>?_⟩
 refine wpAny_IfExp (bJ (hc pins s σ H _ I h) λd s1 ⟨H1,I1,q1⟩=>?_)
 cases d with
 |true=>exact ha pins s1 σ H1 Q I1 q1
 |false=>exact hb pins s1 σ H1 Q I1 q1
end
end L2
namespace L2
open PySem PySem.Spec PyProof.Rows
def cJ(K:FZ)(H:Hp)(a:Addr)(xs:List V):Prop :=
 Rd H a (.lst xs) \/
  ∃(o:Obj) (its:Array Value) (n:Nat),K.lookup a=some o/\o.cls=.type "list" /\ o.dict=none/\o.data=.seq its n/\its.size<=sizeLine/\Vals xs its.toList
def dZ(K:FZ)(H:Hp)(a:Addr)(xs:List V):Prop :=
 Rd H a (.tup xs) \/
  ∃(o:Obj) (its:Array Value) (n:Nat),K.lookup a=some o/\o.cls=.type "tuple" /\ o.data=.seq its n/\its.size<=sizeLine/\Vals xs its.toList
def Yk:Value->Option V
 |.none=>some .non
 |.bool b=>some (.bl b)
 |.int i _=>some (.int i)
 |.str x _=>some (.str x)
 |.bytes b _=>some (.yF b)
 |.float b _=>some (.flt b)
 |.ref a=>some (.ref a)
 |.type n=>some (.ty n)
 |_=>none
theorem RelV.abs{x:V}{u:Value}(r:RelV x u):Yk u=some x:=by
 cases x with
 |non=>cases r; rfl
 |bl _=>cases r; rfl
 |int _=>obtain⟨t,rfl⟩:=r; rfl
 |str _=>obtain⟨t,rfl⟩:=r; rfl
 |yF _=>obtain⟨t,rfl⟩:=r; rfl
 |flt _=>obtain⟨t,rfl⟩:=r; rfl
 |ref _=>cases r; rfl
 |ty _=>cases r; rfl
theorem RelV.inj{x y:V}{u:Value}(r:RelV x u)(q:RelV y u):x=y:=Option.some.inj (r.abs.symm.trans q.abs)
theorem Vals.inj:∀{xs ys:List V} {us:List Value},Vals xs us->Vals ys us->xs=ys
 |_,_,_,.nil,.nil=>rfl
 |_,_,_,.cons r t,.cons r' t'=>by rw[r.inj r',Vals.inj t t']
section
variable {X:Cx}{pins:List (Addr × Obj)}{σ : St}{H:Hp}{s:Shared}{a:Addr}{xs ys:List V}
theorem cJ.of{K:FZ}(h:H a=some (.lst xs)):cJ K H a xs:=.inl (.inl h)
theorem dZ.of{K:FZ}(h:H a=some (.tup xs)):dZ K H a xs:=.inl (.inl h)
theorem Inv.list(I:Inv X pins σ H s)(h:cJ X.K H a xs):∃its:List Value,Vals xs its/\PlainL s.heap a its.toArray/\xs.length<=sizeLine:=by
 rcases h with h|⟨o,its,n,hk,hc,hd,hs,hz,r⟩
 ·obtain⟨z,its,n,r,e⟩:=h.ok I.hok
  exact⟨its,r,⟨_,n,e,rfl,rfl,rfl⟩,z⟩
 ·refine⟨its.toList,r,⟨o,n,I.jq a o hk,hc,hd,by simpa using hs⟩,?_⟩
  have e:=r.length
  simp only[Array.length_toList]at e
  omega
theorem Inv.tuple(I:Inv X pins σ H s)(h:dZ X.K H a xs):∃its:List Value,Vals xs its/\IsTup s.heap a its.toArray/\xs.length<=sizeLine:=by
 rcases h with h|⟨o,its,n,hk,hc,hs,hz,r⟩
 ·obtain⟨z,its,r,p⟩:=h.ok I.hok
  exact⟨its,r,p,z⟩
 ·refine⟨its.toList,r,⟨o,I.jq a o hk,hc,n,by simpa using hs⟩,?_⟩
  have e:=r.length
  simp only[Array.length_toList]at e
  omega
theorem Inv.Bt(I:Inv X pins σ H s)(h:cJ X.K H a xs)(h':cJ X.K H a ys):xs=ys:=by
 obtain⟨its,r,⟨o,n,e,_,_,d⟩,_⟩:=I.list h
 obtain⟨its',r',⟨o',n',e',_,_,d'⟩,_⟩:=I.list h'
 rw[e]at e'; cases e'
 rw[d]at d'
 injection d' with d1 _
 have:its=its':=by simpa using congrArg Array.toList d1
 subst this
 exact r.inj r'
theorem Inv.Pb(I:Inv X pins σ H s)(h:dZ X.K H a xs)(h':dZ X.K H a ys):xs=ys:=by
 obtain⟨its,r,⟨o,e,_,n,d⟩,_⟩:=I.tuple h
 obtain⟨its',r',⟨o',e',_,n',d'⟩,_⟩:=I.tuple h'
 rw[e]at e'; cases e'
 rw[d]at d'
 injection d' with d1 _
 have:its=its':=by simpa using congrArg Array.toList d1
 subst this
 exact r.inj r'
end
abbrev Cx.wish(X:Cx)(E:Value->Shared->Prop):Cx:={X with xe:=E }
abbrev Cx.mG(X:Cx):Cx:=X.wish λ_ _=>False
theorem Cx.Ok.wish{X:Cx}(ok:X.Ok)(E:Value->Shared->Prop):(X.wish E).Ok :=
 ⟨ok.mod,ok.kind,ok.glob,ok.blt,ok.above,ok.inj,ok.has,ok.cab,ok.hd,ok.frames,ok.stk,ok.GR,ok.bs,ok.rE,ok.jW,ok.yG,ok.mD,ok.rF⟩
theorem Cx.Ok.nR{X:Cx}{E:Value->Shared->Prop}(ok:(X.wish E).Ok):X.Ok :=
 ⟨ok.mod,ok.kind,ok.glob,ok.blt,ok.above,ok.inj,ok.has,ok.cab,ok.hd,ok.frames,ok.stk,ok.GR,ok.bs,ok.rE,ok.jW,ok.yG,ok.mD,ok.rF⟩
section
variable {X:Cx}{pins:List (Addr × Obj)}{σ : St}{H:Hp}{s:Shared}{E:Value->Shared->Prop}
theorem Inv.wish(I:Inv X pins σ H s)(E:Value->Shared->Prop):Inv (X.wish E) pins σ H s:=⟨I.ok.wish E,I.os,I.bare,I.base,I.loc,I.cell,I.free,I.mF,I.pin,I.hok,I.len⟩
theorem Inv.nR(I:Inv (X.wish E) pins σ H s):Inv X pins σ H s:=⟨I.ok.nR,I.os,I.bare,I.base,I.loc,I.cell,I.free,I.mF,I.pin,I.hok,I.len⟩
theorem SP.nR{D:Ends}{f:Flow}{s':Shared}(h:SP (X.wish E) pins D f s'):SP X pins D f s':=by
 cases f with
 |next=>obtain⟨σ',H',I,q⟩:=h; exact⟨σ',H',I.nR,q⟩
 |brk=>obtain⟨σ',H',I,q⟩:=h; exact⟨σ',H',I.nR,q⟩
 |cont=>obtain⟨σ',H',I,q⟩:=h; exact⟨σ',H',I.nR,q⟩
 |ret u=>obtain⟨v,σ',H',I,r,q⟩:=h; exact⟨v,σ',H',I.nR,r,q⟩
end
section
variable {X:Cx}{st:Stmt}{rest:List Stmt}{t u:TS}{e:Expr}{te:TE}{pos:Pos}
def Pg:TS:=λD σ H=>D.nx σ H
def Ph(t u:TS):TS:=λD σ H=>t {D with nx:=u D } σ H
theorem cu:jX X [] Pg:=⟨λ_ _ σ H _ I h=>wpAny_execs_nil ⟨σ,H,I,h⟩⟩
theorem aN(h1:PS X st t)(h2:jX X rest u):jX X (st::rest) (Ph t u):=by
 refine⟨λpins s σ H D I h=>?_⟩
 refine wpAny_execs_cons (bJ (h1 pins s σ H {D with nx:=u D } I h) λf s1 q=>?_)
 cases f with
 |next =>
  obtain⟨σ',H',I',q⟩:=q
  exact h2 pins s1 σ' H' D I' q
 |ret v=>exact q
 |brk=>exact q
 |cont=>exact q
theorem aZ(h1:PS X st t):jX X [st] t:=by
 refine⟨λpins s σ H D I h=>?_⟩
 refine wpAny_execs_cons (bJ (h1 pins s σ H D I h) λf s1 q=>?_)
 cases f with
 |next=>exact wpAny_execs_nil q
 |ret v=>exact q
 |brk=>exact q
 |cont=>exact q
theorem Inv.quiet{pins:List (Addr × Obj)}{σ : St}{H:Hp}{s:Shared}(I:Inv X pins σ H s):interactive X.env=false:=by simp[interactive,I.ok.kind]
def GZ(te:TE):TS:=λD σ H=>te σ H λ_ H1=>D.nx σ H1
theorem Yl(he:PE X e te)(hs:swapsWith e none pos.line X.env=pure false:=by rfl):PS X (.Expr e pos) (GZ te):=by
 refine⟨λpins s σ H D I h=>?_⟩
 exact wpAny_Expr_any (bJ (he pins s σ H _ I h) λv s1 ⟨x,H1,I1,r1,q1⟩=>⟨σ,H1,I1,q1⟩) I.quiet hs
def Pk(te:TE):TS:=λD σ H=>te σ H D.rt
theorem bC(he:PE X e te):PS X (.Return (some e) pos) (Pk te):=by
 refine⟨λpins s σ H D I h=>?_⟩
 exact wpAny_Return_some (bJ (he pins s σ H _ I h) λv s1 ⟨x,H1,I1,r1,q1⟩=>⟨x,σ,H1,I1,r1,q1⟩)
def Pn(c:TT)(t u:TS):TS:=λD σ H=>c σ H λb H1=>if b=true then t D σ H1 else u D σ H1
theorem cA{c:Expr}{a b:List Stmt}{tc:TT}(hc:PT X c tc)(ha:jX X a t)(hb:jX X b u):PS X (.If c a b pos) (Pn tc t u):=by
 refine⟨λpins s σ H D I h=>?_⟩
 refine wpAny_If (bJ (hc pins s σ H _ I h) λd s1 ⟨H1,I1,q1⟩=>?_)
 cases d with
 |true=>exact ha pins s1 σ H1 D I1 q1
 |false=>exact hb pins s1 σ H1 D I1 q1
end
abbrev TG:=V->St->Hp->(St->Hp->Prop)->Prop
abbrev o8:=List V->St->Hp->(St->Hp->Prop)->Prop
noncomputable def PG(X:Cx)(target:Expr)(t:TG):Prop :=
 ∀(pins:List (Addr × Obj)) (s:Shared) (σ : St) (H:Hp) (v:V) (u:Value) (Q:St->Hp->Prop),Inv X pins σ H s->RelV v u->t v σ H Q ->
  wpAny (model X.prog X.w) X.A (assign target X.env u) (λ_ s'=>∃σ' H',Inv X pins σ' H' s'/\Q σ' H') X.xe s
noncomputable def Bu(X:Cx)(ts:List Expr)(t:o8):Prop :=
 ∀(pins:List (Addr × Obj)) (s:Shared) (σ : St) (H:Hp) (vs:List V) (us:List Value) (Q:St->Hp->Prop),Inv X pins σ H s->Vals vs us->t vs σ H Q ->
  wpAny (model X.prog X.w) X.A (assignInOrder ((assignEach ts X.env).map (·.2)) us) (λ_ s'=>∃σ' H',Inv X pins σ' H' s'/\Q σ' H') X.xe s
abbrev G3:=V->V->V->Hp->(Hp->Prop)->Prop
noncomputable def Pq(X:Cx)(t:G3):Prop :=
 ∀(pins:List (Addr × Obj)) (s:Shared) (σ : St) (H:Hp) (o i v:V) (ov iv u:Value) (Q:Hp->Prop),Inv X pins σ H s->RelV o ov->RelV i iv->RelV v u->t o i v H Q ->
  wpAny (model X.prog X.w) X.A (setItem ov iv u) (λ_ s'=>∃H',Inv X pins σ H' s'/\Q H') X.xe s
section
variable {X:Cx}{pos:Pos}
def fQ(i:Nat):TG:=λv σ H Q=>Q (σ.set i (some v)) H
theorem Ym{i:Nat}{x:Str}(hN:X.N.Nodup)(hi:X.N[i]?=some x)(hx:Loc X.env.scope x)(hf:X.fn x=true\/X.env.scope.names.lookup x=some .local:=by first|exact .inl rfl|exact .inr rfl|assumption):PG X (.Name x pos) (fQ i):=by
 intro pins s σ H v u Q I r h
 exact wpAny_assign_Name (vK I hN hi hx r (λs' I'=>⟨_,H,I',h⟩) hf)
def G4:o8:=λvs σ H Q=>vs=[]/\Q σ H
def Bv(t:TG)(u:o8):o8:=λvs σ H Q=>∃v r,vs=v::r/\t v σ H λσ' H'=>u r σ' H' Q
theorem rG:Bu X [] G4:=by
 intro pins s σ H vs us Q I r h
 obtain⟨e,h⟩:=h
 subst e
 cases r
 exact assignInOrder_nil ⟨σ,H,I,h⟩
theorem jH{e:Expr}{es:List Expr}{t:TG}{u:o8}(h1:PG X e t)(h2:Bu X es u)
  (hs:(assignEach (e::es) X.env).map (·.2)=assign e X.env::(assignEach es X.env).map (·.2):=by rfl):Bu X (e::es) (Bv t u):=by
 intro pins s σ H vs us Q I r h
 obtain⟨v,vr,e1,h⟩:=h
 subst e1
 cases r with
 |cons r rr =>
  rw[hs]
  refine assignInOrder_cons (bJ (h1 pins s σ H _ _ _ I r h) λ_ s1 ⟨σ1,H1,I1,q1⟩=>?_)
  exact h2 pins s1 σ1 H1 _ _ Q I1 rr q1
def G5(K:FZ)(n:Nat)(t:o8):TG:=λv σ H Q=>∃a xs,v=.ref a/\dZ K H a xs/\xs.length=n/\t xs σ H Q
theorem rH{es:List Expr}{k:Nat}{t:o8}{n:Nat}(hc:X.calm=true)(h:Bu X es t)
  (hn:(assignEach es X.env).length=n:=by rfl) (hst:(assignEach es X.env).findIdx? (·.1)=none:=by rfl):PG X (.Tuple es k pos) (G5 X.K n t):=by
 intro pins s σ H v u Q I r hw
 obtain⟨a,xs,e1,hq,hl,hw⟩:=hw
 subst e1
 cases r
 obtain⟨its,rv,ht,hz⟩:=I.tuple hq
 refine assign_Tuple_tuple (I.ok.hd hc) ht (by simp[hn,<-hl,rv.length]) hst λh' hx=>?_
 have I1:Inv X pins σ H {s with heap:=h' }:=I.kept (t':=s.toks) λb o e=>hx b o (Nat.ne_of_lt (Heap.lt_size e)) e
 exact h pins _ σ H xs _ Q I1 (by simpa using rv) hw
def Pu(to ti:TE)(t:G3):TG:=λv σ H Q=>to σ H λo H1=>ti σ H1 λi H2=>t o i v H2 λH3=>Q σ H3
theorem Px{o i:Expr}{to ti:TE}{t:G3}(ho:PE X o to)(hi:PE X i ti)(hs:Pq X t)
  (ha:∀v,assign (.Subscript o i pos) X.env v=(do
   let ov <-holding [v] (eval o X.env)
   let iv <-holding [v,ov] (eval i X.env)
   standAt pos
   holding [v,ov,iv] (setItem ov iv v)
   release [v,ov,iv] []):=by intro _; rfl):PG X (.Subscript o i pos) (Pu to ti t):=by
 intro pins s σ H v u Q I r h
 rw[ha]
 refine wpAny_bind (wpAny_holding (bJ (ho pins s σ H _ I h) λov s1 ⟨x,H1,I1,r1,q1⟩=>?_))
 refine wpAny_bind (wpAny_holding (bJ (hi pins s1 σ H1 _ I1 q1) λiv s2 ⟨y,H2,I2,r2,q2⟩=>?_))
 refine wpAny_bind (wpAny_standAt (wpAny_bind (wpAny_holding (bJ (hs pins s2 σ H2 x y v ov iv u _ I2 r1 r2 r q2) λ_ s3 ⟨H3,I3,q3⟩=>?_))))
 exact wpAny_release ⟨σ,H3,I3,q3⟩
def rJ(te:TE)(g:TG):TS:=λD σ H=>te σ H λx H1=>g x σ H1 D.nx
theorem rK{tg e:Expr}{te:TE}{g:TG}(he:PE X e te)(hg:PG X tg g)(hs:swapsWithSole [tg] e pos.line X.env=pure false:=by rfl)(hw:swappedStores [tg] e X.env=pure none:=by rfl)
  (h1:(assignEach [tg] X.env).map (·.2)=[assign tg X.env]:=by rfl):PS X (.Assign [tg] e pos) (rJ te g):=by
 refine⟨λpins s σ H D I h=>?_⟩
 refine wpAny_Assign_stores (bJ (he pins s σ H _ I h) λv s1 ⟨x,H1,I1,r1,q1⟩=>?_) hs hw
 rw[h1]
 exact bJ (hg pins s1 σ H1 x v _ I1 r1 q1) λ_ s2 q=>q
theorem Py{i:Nat}{x:Str}{e:Expr}{te:TE}{pos':Pos}(hN:X.N.Nodup)(hi:X.N[i]?=some x)(hx:Loc X.env.scope x)(he:PE X e te)(hs:swapsWith e (some (.Name x pos')) pos.line X.env=pure false:=by rfl)(hf:X.fn x=true\/X.env.scope.names.lookup x=some .local:=by first|exact .inl rfl|exact .inr rfl|assumption) :
  PS X (.Assign [.Name x pos'] e pos) (rJ te (fQ i)):=by
 refine⟨λpins s σ H D I h=>?_⟩
 refine wpAny_Assign_Name (bJ (he pins s σ H _ I h) λv s1 ⟨y,H1,I1,r1,q1⟩=>?_) hs
 exact vK I1 hN hi hx r1 (λs2 I2=>⟨_,H1,I2,q1⟩) hf
def Pz(i j:Nat)(ta:TA):TS:=λD σ H=>ta σ H λvs H1=>∃v w,vs=[v,w]/\D.nx ((σ.set i (some v)).set j (some w)) H1
theorem PB{i j:Nat}{x y:Str}{a b:Expr}{ta:TA}{px py pt:Pos}{kt k2 G6}(hc:X.calm=true)(hN:X.N.Nodup)(hi:X.N[i]?=some x)(hj:X.N[j]?=some y)(hij:i≠j)
  (hx:X.env.scope.names.lookup x=some .local) (hy:X.env.scope.names.lookup y=some .local) (ha:PA X [a,b] ta)
  (hw:swappedStores [.Tuple [.Name x px,.Name y py] kt pt] (.Tuple [a,b] k2 G6) X.env=pure (some [x,y]))
  (hs:swapsWithSole [.Tuple [.Name x px,.Name y py] kt pt] (.Tuple [a,b] k2 G6) pos.line X.env=pure false:=by rfl) :
  PS X (.Assign [.Tuple [.Name x px,.Name y py] kt pt] (.Tuple [a,b] k2 G6) pos) (Pz i j ta):=by
 refine⟨λpins s σ H D I h=>?_⟩
 rw[exec_Assign_arm]
 refine wpAny_bind (wpAny_standAt ?_)
 rw[hs]
 refine wpAny_bind (wpAny_pure ?_)
 rw[if_neg (by decide)]
 refine wpAny_bind (Tuple_ (bJ (ha _ pins s σ H _ I h) λus s1 ⟨vs,H1,I1,r1,q1⟩=>?_))
 obtain⟨v,w,e1,q1⟩:=q1
 subst e1
 obtain⟨u1,u2,rfl,rv,nU⟩:∃u1 u2,us=[u1,u2]/\RelV v u1/\RelV w u2:=by
  cases r1 with
  |cons p q =>
   cases q with
   |cons p' q' =>
    cases q'
    exact⟨_,_,rfl,p,p'⟩
 refine wpAny_newObj_type ?_ (by show 2<=sizeLine; decide)
 have I2:Inv X pins σ H1 {s1 with heap:=s1.heap.push {cls:=.type "tuple",data:=.seq [u1,u2].toArray } }:=I1.kept (t':=s1.toks) λb o e=>Heap.get?_push_of_some _ e
 rw[hw]
 refine wpAny_bind (wpAny_pure ?_)
 show wpAny (model X.prog X.w) X.A (do rule "assign.swapped-stores"; let items <-unpackItems (.ref s1.heap.objs.size) 2 none; assignInOrder [λv=>bindName X.env y v,λv=>bindName X.env x v] items.reverse; pure Flow.next) _ _ _
 refine wpAny_bind (wpAny_rule (wpAny_bind (unpackItems_tuple (items:=#[u1,u2]) (I.ok.hd hc) (IsTup.new s1.heap _) λh' hx'=>?_)))
 have I3:=I2.kept (h':=h') (t':=s1.toks) λb o e=>hx' b o (Nat.ne_of_lt (Heap.lt_size e)) e
 show wpAny _ _ (assignInOrder [λv=>bindName X.env y v,λv=>bindName X.env x v] [u2,u1] >>= λ_=>pure Flow.next) _ _ _
 refine wpAny_bind (assignInOrder_cons (wpAny_bindName (vK I3 hN hj (.inl hy) nU (λs2 I4=>?_) (.inr hy))))
 refine assignInOrder_cons (wpAny_bindName (vK I4 hN hi (.inl hx) rv (λs3 I5=>assignInOrder_nil (wpAny_pure ?_)) (.inr hx)))
 rw[List.set_comm _ _ (Ne.symm hij)]at I5
 exact⟨_,H1,I5,q1⟩
end
section
variable {X:Cx}{pos:Pos}
def PJ(c:TT)(tb:TS):TS:=λD σ H=>∃W:Nat->St->Hp->Prop,(∃m,W m σ H)/\∀m σ H,W m σ H ->
 c σ H λb H1=>if b=true then ∃N:St->Hp->Prop,(∀σ' H',N σ' H'->∃m',m'<m/\W m' σ' H')/\tb {D with nx:=N,ct:=N,bk:=D.nx } σ H1 else D.nx σ H1
theorem PK{c:Expr}{body:List Stmt}{tc:TT}{tb:TS}(hp:PassesOwn (model X.prog X.w) X.A X.env X.xe)(hc:PT X c tc)(hb:jX X body tb):PS X (.While c body [] pos) (PJ tc tb):=by
 refine⟨λpins s σ H D I h=>?_⟩
 obtain⟨W,⟨m0,w0⟩,turn⟩:=h
 refine wpAny_While (codeAny_whileLoop (λn s'=>∃σ' H',Inv X pins σ' H' s'/\W n σ' H') ?_ m0 ⟨σ,H,I,w0⟩)
 rintro n s1 ⟨σ1,H1,I1,w1⟩
 refine wpAny_passesOwn hp (bJ (hc pins s1 σ1 H1 _ I1 (turn n σ1 H1 w1)) λb s2 ⟨H2,I2,q2⟩=>?_)
 cases b with
 |true =>
  obtain⟨N,hN,q2⟩:=q2
  rw[if_pos rfl]
  refine wpAny_passesOwn hp (bJ (hb pins s2 σ1 H2 _ I2 q2) λf s3 q3=>?_)
  cases f with
  |next =>
   obtain⟨σ3,H3,I3,n3⟩:=q3
   obtain⟨m',hm,w3⟩:=hN σ3 H3 n3
   exact⟨m',hm,σ3,H3,I3,w3⟩
  |cont =>
   obtain⟨σ3,H3,I3,n3⟩:=q3
   obtain⟨m',hm,w3⟩:=hN σ3 H3 n3
   exact⟨m',hm,σ3,H3,I3,w3⟩
  |brk=>exact q3
  |ret v=>exact q3
 |false =>
  rw[if_neg Bool.false_ne_true]
  exact wpAny_execs_nil ⟨σ1,H2,I2,q2⟩
end
structure It where
 go:Nat->Hp->Prop
 vN:Nat->Hp->V->Hp->Prop
 stop:Nat->Hp->Prop
def lG(X:Cx)(pins:List (Addr × Obj))(H:Hp)(b:Addr):Prop :=
 H b=none/\b≠X.env.locals/\b∉X.fs/\(b∈X.ex\/X.s₀.heap.objs.size<=b)/\(∀x c,X.env.cells.lookup x=some c->c≠b)/\∀p∈X.pn++pins,p.1≠b
theorem Inv.yM{X:Cx}{pins:List (Addr × Obj)}{σ : St}{H H':Hp}{s:Shared}{b:Addr}(I:Inv X pins σ H s)(hb:s.heap.objs.size<=b)(hn:H' b=none):lG X pins H' b:=by
 refine⟨hn,Nat.ne_of_gt (Nat.lt_of_lt_of_le I.lt hb),I.Yh hb,.inr (Nat.le_trans I.sz hb),λx c e z=>?_,λp hp z=>?_⟩
 ·obtain⟨v,q⟩:=I.cell x c e
  exact absurd (Nat.lt_of_lt_of_le q.lt (by rw[z]; exact hb)) (Nat.lt_irrefl _)
 ·exact absurd (Nat.lt_of_lt_of_le (Heap.lt_size (I.pin p hp).1) (by rw[z]; exact hb)) (Nat.lt_irrefl _)
structure Turn(P:Program)(w:World)(K:FZ)(tg:Expr)(J:It)(fp:List Addr)(it:Addr)(tn:Nat->Heap->Prop):Prop where
 mem:it∈fp
 obj:∀i h,tn i h->∀b∈fp,∃o,h.get? b=some o/\∀v,o.data ≠ .cell v
 keep:∀i h h',tn i h->(∀b∈fp,∀o,h.get? b=some o->h'.get? b=some o)->tn i h'
 item:∀(X:Cx),X.prog=P->X.w=w->X.K=K->X.calm=true->∀(i:Nat) (pins:List (Addr × Obj)) (s:Shared) (σ : St) (H:Hp) (E:Value->Shared->Prop),Inv X pins σ H s->(∀b∈fp,lG X pins H b)->tn i s.heap->J.go i H ->
  wpAny (model P w) X.A (pyNext (.ref it)) (λr s1=>∃u,r=some u /\
   wpAny (model P w) X.A (letOwnedTupleGo tg (.ref it) u) (λ_ s2=>∃x H',Inv X pins σ H' s2/\RelV x u/\J.vN i H x H'/\tn (i+1) s2.heap/\∀b∈fp,H' b=none) E s1) E s
 done:∀(X:Cx),X.prog=P->X.w=w->X.K=K->X.calm=true->∀(i:Nat) (pins:List (Addr × Obj)) (s:Shared) (σ : St) (H:Hp) (E:Value->Shared->Prop),Inv X pins σ H s->(∀b∈fp,lG X pins H b)->tn i s.heap->J.stop i H ->
  wpAny (model P w) X.A (pyNext (.ref it)) (λr s1=>r=none/\Inv X pins σ H s1) E s
 self:∀(A:Around) (i:Nat) (s:Shared) (Q:Value->Shared->Prop) (E:Value->Shared->Prop),tn i s.heap->Q (.ref it) s->wpAny (model P w) A (pyIter (.ref it)) Q E s
abbrev TI:=St->Hp->(It->Hp->Prop)->Prop
noncomputable def PIE(X:Cx)(pins:List (Addr × Obj))(σ : St)(tg:Expr)(R:It->Hp->Prop)(itv:Value)(s2:Shared):Prop :=
 ∃(it:Addr) (fp:List Addr) (tn:Nat->Heap->Prop) (J:It) (H':Hp),itv=.ref it/\Inv X pins σ H' s2/\Turn X.prog X.w X.K tg J fp it tn/\tn 0 s2.heap/\(∀b∈fp,lG X pins H' b)/\R J H'
noncomputable def PI(X:Cx)(tg iter:Expr)(wi:TI):Prop :=
 ∀(pins:List (Addr × Obj)) (s:Shared) (σ : St) (H:Hp) (R:It->Hp->Prop),Inv X pins σ H s->wi σ H R ->
  wpAny (model X.prog X.w) X.A (eval iter X.env) (λv s1=>wpAny (model X.prog X.w) X.A (pyIter v) (PIE X pins σ tg R) X.xe s1) X.xe s
theorem yN{M:Model}{A:Around}{E:Value→Shared→Prop}{s:Shared}{tg:Expr}{it:Addr}{u:Value}{o:Obj}{n:String}{vs:Array Value}{Q:Unit→Shared→Prop}(ho:s.heap.get? it=some o)(hc:o.cls=.type n)(hd:o.data=.fields vs)
    (hn : ["enumerate", "zip", "dict_itemiterator", "dict_reverseitemiterator", "odict_iterator", "itertools.zip_longest", "itertools.pairwise"].contains n=false) (hQ:Q () s):wpAny M A (letOwnedTupleGo tg (.ref it) u) Q E s:=by
  unfold letOwnedTupleGo
  cases tg <;> first
    |exact wpAny_pure hQ
    | (cases u <;> first
        |exact wpAny_pure hQ
        | (refine wpAny_bind (wpAny_load ho ?_)
           rw[hc,hd]
           show wpAny M A (if(["enumerate", "zip", "dict_itemiterator", "dict_reverseitemiterator", "odict_iterator", "itertools.zip_longest", "itertools.pairwise"].contains n&&vs[0]? == some (rawInt _))=true then _ else _) Q E s
           rw[if_neg (by intro h; rw[hn,Bool.false_and]at h; cases h)]
           exact wpAny_pure hQ))
def G7(K:FZ)(a:Addr):It :=
 ⟨λi H=>∃xs x,cJ K H a xs/\xs[i]?=some x,λi H x H'=>H'=H/\∀xs,cJ K H a xs->xs[i]?=some x,λi H=>∃xs,cJ K H a xs/\xs.length<=i⟩
def G8(K:FZ)(a:Addr):It :=
 ⟨λi H=>∃xs x,dZ K H a xs/\xs[i]?=some x,λi H x H'=>H'=H/\∀xs,dZ K H a xs->xs[i]?=some x,λi H=>∃xs,dZ K H a xs/\xs.length<=i⟩
def yO(lo:Int)(n:Nat):It:=⟨λi _=>i<n,λi H x H'=>H'=H/\x=.int (lo+i),λi _=>n<=i⟩
theorem Yn{P:Program}{w:World}{K:FZ}{tg:Expr}(a it:Addr):Turn P w K tg (G7 K a) [it] it (λi h=>h.IsListIter it a i) where
 mem:=by simp
 obj:=λi h st b hb=>by
  have e:b=it:=by simpa using hb
  subst e
  obtain⟨o,e,c,d⟩:=st
  exact⟨o,e,λv z=>by rw[d]at z; cases z⟩
 keep:=λi h h' st k=>st.at λo e=>k it (by simp) o e
 item:=by
  intro X hP hw hK hc i pins s σ H E I hf st hg
  subst hP hw hK
  obtain⟨xs,x,hq,hx⟩:=hg
  obtain⟨its,rv,p,hz⟩:=I.list hq
  obtain⟨u,hu,ru⟩:=rv.get hx
  obtain⟨f0,f1,f2,f3,f4,f5⟩:=hf it (by simp)
  refine wpAny_pyNext_list_item st p.isList (x:=u) (by simpa using hu) λh' st' sb=>?_
  have I1:Inv X pins σ H {s with heap:=h' }:=I.turned (t':=s.toks) (λb o hb e=>(sb.2 b hb).trans e) f0 f1 f3 f4 f5
  obtain⟨o,e,c,d⟩:=id st'
  exact⟨u,rfl,yN (s:={s with heap:=h' }) e c d (by decide) ⟨x,H,I1,ru,⟨rfl,λys hy=>by rw[I.Bt hy hq]; exact hx⟩,st',λb hb=>(hf b hb).1⟩⟩
 done:=by
  intro X hP hw hK hc i pins s σ H E I hf st hg
  subst hP hw hK
  obtain⟨xs,hq,hx⟩:=hg
  obtain⟨its,rv,p,hz⟩:=I.list hq
  obtain⟨f0,f1,f2,f3,f4,f5⟩:=hf it (by simp)
  have hl:=rv.length
  exact wpAny_pyNext_list_end (I.ok.hd hc) st p.isList (by simp; omega) λh' eb=>⟨rfl,I.turned (t':=s.toks) (λb o hb e=>eb b o hb e) f0 f1 f3 f4 f5⟩
 self:=λ_ _ _ _ _ st h=>wpAny_pyIter_listiter st h
theorem Yo{P:Program}{w:World}{K:FZ}{tg:Expr}(a it:Addr):Turn P w K tg (G8 K a) [it] it (λi h=>h.IsTupleIter it a i) where
 mem:=by simp
 obj:=λi h st b hb=>by
  have e:b=it:=by simpa using hb
  subst e
  obtain⟨o,e,c,d⟩:=st
  exact⟨o,e,λv z=>by rw[d]at z; cases z⟩
 keep:=λi h h' st k=>st.at λo e=>k it (by simp) o e
 item:=by
  intro X hP hw hK hc i pins s σ H E I hf st hg
  subst hP hw hK
  obtain⟨xs,x,hq,hx⟩:=hg
  obtain⟨its,rv,p,hz⟩:=I.tuple hq
  obtain⟨u,hu,ru⟩:=rv.get hx
  obtain⟨f0,f1,f2,f3,f4,f5⟩:=hf it (by simp)
  refine wpAny_pyNext_tuple_item st (show s.heap.IsTuple a its.toArray from p) (x:=u) (by simpa using hu) λh' st' sb=>?_
  have I1:Inv X pins σ H {s with heap:=h' }:=I.turned (t':=s.toks) (λb o hb e=>(sb.2 b hb).trans e) f0 f1 f3 f4 f5
  obtain⟨o,e,c,d⟩:=id st'
  exact⟨u,rfl,yN (s:={s with heap:=h' }) e c d (by decide) ⟨x,H,I1,ru,⟨rfl,λys hy=>by rw[I.Pb hy hq]; exact hx⟩,st',λb hb=>(hf b hb).1⟩⟩
 done:=by
  intro X hP hw hK hc i pins s σ H E I hf st hg
  subst hP hw hK
  obtain⟨xs,hq,hx⟩:=hg
  obtain⟨its,rv,p,hz⟩:=I.tuple hq
  obtain⟨f0,f1,f2,f3,f4,f5⟩:=hf it (by simp)
  have hl:=rv.length
  exact wpAny_pyNext_tuple_end (I.ok.hd hc) st (show s.heap.IsTuple a its.toArray from p) (by simp; omega) λh' eb=>⟨rfl,I.turned (t':=s.toks) (λb o hb e=>eb b o hb e) f0 f1 f3 f4 f5⟩
 self:=λ_ _ _ _ _ st h=>wpAny_pyIter_tupleiter st h
theorem Yp{P:Program}{w:World}{K:FZ}{tg:Expr}(it:Addr)(lo:Int)(n:Nat):Turn P w K tg (yO lo n) [it] it (λi h=>IsRangeIter h it (lo+(i:Nat)*1) ((n:Int)-(i:Nat)) 1) where
 mem:=by simp
 obj:=λi h st b hb=>by
  have e:b=it:=by simpa using hb
  subst e
  exact⟨_,st,λv z=>by
   have z':Data.fields _=Data.cell v:=z
   cases z'⟩
 keep:=λi h h' st k=>k it (by simp) _ st
 item:=by
  intro X hP hw hK hc i pins s σ H E I hf st hg
  subst hP hw hK
  obtain⟨f0,f1,f2,f3,f4,f5⟩:=hf it (by simp)
  have W:=Walks.range (prog:=X.prog) (w:=X.w) (I.ok.hd hc) it lo 1 n
  refine W.item i s _ _ hg st λv h' tk hv st' kk=>?_
  obtain⟨t,rfl⟩:=hv
  have I1:Inv X pins σ H {s with heap:=h',toks:=tk }:=I.turned (λb o hb e=>kk b o (by simpa using hb) e) f0 f1 f3 f4 f5
  refine⟨_,rfl,yN (s:={s with heap:=h',toks:=tk }) (n := "range_iterator") st' rfl rfl (by decide) ⟨.int (lo+i),H,I1,⟨t,?_⟩,⟨rfl,rfl⟩,st',λb hb=>(hf b hb).1⟩⟩
  rw[Int.mul_one]
 done:=by
  intro X hP hw hK hc i pins s σ H E I hf st hg
  subst hP hw hK
  obtain⟨f0,f1,f2,f3,f4,f5⟩:=hf it (by simp)
  exact wpAny_pyNext_range_end (I.ok.hd hc) st (by have:n<=i:=hg; omega) λh' eb=>⟨rfl,I.turned (t':=s.toks) (λb o hb e=>eb b o hb e) f0 f1 f3 f4 f5⟩
 self:=λ_ _ _ _ _ st h=>wpAny_pyIter_rangeiter st h
end L2
namespace L2
open PySem PySem.Spec PyProof.Rows
section
variable {X:Cx}{tg:Expr}
def PL(K:FZ)(tl:TE):TI:=λσ H R=>tl σ H λx H1=>∃a,x=.ref a/\(∃xs,cJ K H1 a xs)/\R (G7 K a) H1
def PN(K:FZ)(tl:TE):TI:=λσ H R=>tl σ H λx H1=>∃a,x=.ref a/\(∃xs,dZ K H1 a xs)/\R (G8 K a) H1
theorem Yq{l:Expr}{tl:TE}(hl:PE X l tl):PI X tg l (PL X.K tl):=by
 intro pins s σ H R I h
 refine bJ (hl pins s σ H _ I h) λv s1 ⟨x,H1,I1,r1,q1⟩=>?_
 obtain⟨a,e,⟨xs,hq⟩,q⟩:=q1
 subst e
 cases r1
 obtain⟨its,rv,p,hz⟩:=I1.list hq
 refine wpAny_pyIter_list p.isList ?_
 refine⟨s1.heap.objs.size,[s1.heap.objs.size],_,_,H1,rfl,I1.kept (t':=s1.toks) λb o e=>Heap.get?_push_of_some _ e,Yn a _,⟨_,Heap.get?_push_size _ rfl,rfl,rfl⟩,λb hb=>?_,q⟩
 have e:b=s1.heap.objs.size:=by simpa using hb
 subst e
 exact I1.yM (Nat.le_refl _) (I1.hok.fresh (Nat.le_refl _))
theorem Yr{l:Expr}{tl:TE}(hl:PE X l tl):PI X tg l (PN X.K tl):=by
 intro pins s σ H R I h
 refine bJ (hl pins s σ H _ I h) λv s1 ⟨x,H1,I1,r1,q1⟩=>?_
 obtain⟨a,e,⟨xs,hq⟩,q⟩:=q1
 subst e
 cases r1
 obtain⟨its,rv,p,hz⟩:=I1.tuple hq
 refine wpAny_pyIter_tuple (show s1.heap.IsTuple a its.toArray from p) ?_
 refine⟨s1.heap.objs.size,[s1.heap.objs.size],_,_,H1,rfl,I1.kept (t':=s1.toks) λb o e=>Heap.get?_push_of_some _ e,Yo a _,⟨_,Heap.get?_push_size _ rfl,rfl,rfl⟩,λb hb=>?_,q⟩
 have e:b=s1.heap.objs.size:=by simpa using hb
 subst e
 exact I1.yM (Nat.le_refl _) (I1.hok.fresh (Nat.le_refl _))
theorem P0{pins:List (Addr × Obj)}{σ : St}{H:Hp}{s:Shared}{R:It->Hp->Prop}{E:Value->Shared->Prop}{lo hi:Int}{t u v:Tok}{tk:Nat}(I:Inv X pins σ H s)(h1 : -(2 ^ 62)<=lo)(h2:lo<2 ^ 62)(h3 : -(2 ^ 62)<=hi)(h4:hi<2 ^ 62)
  (q:R (yO lo (hi-lo).toNat) H):wpAny (model X.prog X.w) X.A (pyIter (.ref s.heap.objs.size)) (PIE X pins σ tg R) E {s with heap:=s.heap.push {cls:=.type "range",data:=.fields #[.int lo t,.int hi u,.int 1 v] },toks:=tk }:=by
 refine wpAny_pyIter_range (IsRange.new ..) (small_one h1 h2 h3 h4) ?_
 have I1:Inv X pins σ H {s with heap:=s.heap.push {cls:=.type "range",data:=.fields #[.int lo t,.int hi u,.int 1 v] },toks:=tk }:=I.kept λb o e=>Heap.get?_push_of_some _ e
 refine⟨(s.heap.push {cls:=.type "range",data:=.fields #[.int lo t,.int hi u,.int 1 v] }).objs.size,[(s.heap.push {cls:=.type "range",data:=.fields #[.int lo t,.int hi u,.int 1 v] }).objs.size],_,_,H,rfl,
  I1.kept (t':=tk) λb o e=>Heap.get?_push_of_some _ e,Yp _ lo (hi-lo).toNat,?_,λb hb=>?_,q⟩
 ·have e1:lo+((0:Nat):Int)*1=lo:=by simp
  have e2:(((hi-lo).toNat:Nat):Int)-((0:Nat):Int)=Builtin.Range.rangeSize lo hi 1:=by rw[rangeSize_one]; split <;> omega
  show IsRangeIter _ _ (lo+((0:Nat):Int)*1) ((((hi-lo).toNat:Nat):Int)-((0:Nat):Int)) 1
  rw[e1,e2]
  exact Heap.get?_push_size _ rfl
 ·have e:b=(s.heap.push {cls:=.type "range",data:=.fields #[.int lo t,.int hi u,.int 1 v] }).objs.size:=by simpa using hb
  subst e
  exact I1.yM (Nat.le_refl _) (I1.hok.fresh (Nat.le_refl _))
def G9(ta:TA):TI:=λσ H R=>ta σ H λvs H1=>∃j:Int,vs=[.int j] /\ -(2 ^ 62)<=j/\j<2 ^ 62/\R (yO 0 j.toNat) H1
def Hf(ta:TA):TI:=λσ H R=>ta σ H λvs H1=>∃i j:Int,vs=[.int i,.int j]/\(-(2 ^ 62)<=i/\i<2 ^ 62 /\ -(2 ^ 62)<=j/\j<2 ^ 62)/\R (yO i (j-i).toNat) H1
theorem Ys{a:Expr}{ta:TA}{p pos:Pos}(hg:Gl X "range") (hm:X.mg "range" = none) (ha:PA X [a] ta) (hs:starEach [a] X.env=[(false,eval a X.env)]:=by rfl):PI X tg (.Call (.Name "range" p) [a] [] pos) (G9 ta):=by
 intro pins s σ H R I h
 refine Call_ (vL I hg hm boot_range (PyProof.Rows.callWith_type1 (bJ (ha pos pins s σ H _ I h) λus s1 ⟨vs,H1,I1,r1,q1⟩=>?_) hs rfl))
 obtain⟨j,e,q1,q2,q⟩:=q1
 subst e
 cases r1 with
 |cons r rr =>
  cases rr
  obtain⟨t,rfl⟩:=r
  exact call_range_1 (P0 I1 (by omega) (by omega) q1 q2 (by simpa using q))
theorem Yt{a b:Expr}{ta:TA}{p pos:Pos}(hg:Gl X "range") (hm:X.mg "range" = none) (ha:PA X [a,b] ta) (hs:starEach [a,b] X.env=[(false,eval a X.env),(false,eval b X.env)]:=by rfl) (hs2:starEach [b] X.env=[(false,eval b X.env)]:=by rfl) :
  PI X tg (.Call (.Name "range" p) [a,b] [] pos) (Hf ta):=by
 intro pins s σ H R I h
 refine Call_ (vL I hg hm boot_range (PyProof.Rows.callWith_type1 (bJ (ha pos pins s σ H _ I h) λus s1 ⟨vs,H1,I1,r1,q1⟩=>?_) (by rw[hs,hs2]) (by rw[hs2]; rfl)))
 obtain⟨i,j,e,⟨q1,q2,q3,q4⟩,q⟩:=q1
 subst e
 cases r1 with
 |cons r rr =>
  cases rr with
  |cons r' rr =>
   cases rr
   obtain⟨t,rfl⟩:=r
   obtain⟨t',rfl⟩:=r'
   exact call_range_2 (P0 I1 q1 q2 q3 q4 q)
noncomputable def Qa(wi:TI)(g:TG)(tb:TS):TS:=λD σ H=>wi σ H λJ H1=>∃W:Nat->Nat->St->Hp->Prop,(∃m,W 0 m σ H1)/\∀i m σ H,W i m σ H ->
 (J.stop i H/\D.nx σ H)\/(J.go i H/\∃N:St->Hp->Prop,(∀σ' H',N σ' H'->∃m',m'<m/\W (i+1) m' σ' H')/\∀x H',J.vN i H x H'->g x σ H' λσ2 H2=>tb {D with nx:=N,ct:=N,bk:=D.nx } σ2 H2)
def Bw(fp:List Addr)(h:Heap):List (Addr × Obj):=fp.filterMap λb=>(h.get? b).map λo=>(b,o)
theorem rM{fp:List Addr}{h:Heap}{b:Addr}{o:Obj}(hb:b∈fp)(e:h.get? b=some o):(b,o)∈Bw fp h:=List.mem_filterMap.mpr ⟨b,hb,by rw[e]; rfl⟩
theorem Yu{fp:List Addr}{h:Heap}{p:Addr × Obj}(hp:p∈Bw fp h):p.1∈fp/\h.get? p.1=some p.2:=by
 obtain⟨b,hb,e⟩:=List.mem_filterMap.mp hp
 cases q:h.get? b with
 |none=>rw[q]at e; cases e
 |some o =>
  rw[q]at e
  have e':(b,o)=p:=Option.some.inj e
  subst e'
  exact⟨hb,q⟩
theorem Inv.pinned{pins:List (Addr × Obj)}{σ : St}{H:Hp}{s:Shared}{fp:List Addr}(I:Inv X pins σ H s)(hf:∀b∈fp,lG X pins H b)(ho:∀b∈fp,∃o,s.heap.get? b=some o/\∀v,o.data ≠ .cell v):Inv X (pins++Bw fp s.heap) σ H s :=
 I.Ow λp hp=>(List.mem_append.mp hp).elim (λz=>I.pin p (List.mem_append_right _ z)) λz=>by
  obtain⟨hb,e⟩:=Yu z
  obtain⟨f0,f1,f2,_⟩:=hf p.1 hb
  obtain⟨o,e',d⟩:=ho p.1 hb
  rw[e]at e'; cases e'
  exact⟨e,f0,f1,f2,d⟩
theorem Inv.vO{pins pl:List (Addr × Obj)}{σ : St}{H:Hp}{s:Shared}(I:Inv X (pins++pl) σ H s):Inv X pins σ H s:=I.Ow λp hp=>I.pin p (List.mem_append_right _ (List.mem_append_left _ hp))
theorem rN{iter:Expr}{body:List Stmt}{wi:TI}{g:TG}{tb:TS}{pos:Pos}(hp:PassesOwn (model X.prog X.w) X.A X.env X.xe)(hc:X.calm=true)(hi:PI X tg iter wi)(hg:PG X tg g)(hb:jX X body tb)
  (hs:∀x,foldedSetIterable iter X.env x=pure x:=by intro _; rfl):PS X (.For tg iter body [] pos) (Qa wi g tb):=by
 refine⟨λpins s σ H D I h=>?_⟩
 refine wpAny_For (bJ (hi pins s σ H _ I h) λv s1 h1=>bJ h1 λitv s2 h2=>?_) hs
 obtain⟨it,fp,tn,J,H2,e,I2,T,st2,f2,W,⟨m0,w0⟩,turn⟩:=h2
 subst e
 -- what stays true of the iterator's objects through the loop
 have stat:∀{H':Hp},(∀b∈fp,H' b=none)->∀b∈fp,lG X pins H' b:=λhn b hb=>⟨hn b hb,(f2 b hb).2⟩
 refine codeAny_forLoop_any (λn s'=>∃i σ' H',Inv X pins σ' H' s'/\tn i s'.heap/\(∀b∈fp,H' b=none)/\W i n σ' H') ?_ m0 ⟨0,σ,H2,I2,st2,λb hb=>(f2 b hb).1,w0⟩
 rintro n s3 ⟨i,σ3,H3,I3,st3,Qc,w3⟩
 rcases turn i n σ3 H3 w3 with⟨stop,qn⟩|⟨go,N,hN,step⟩
 ·refine wpAny_passesOwn hp (bJ (T.done X rfl rfl rfl hc i pins s3 σ3 H3 X.xe I3 (stat Qc) st3 stop) λr s4 ⟨hr,I4⟩=>?_)
  subst hr
  exact wpAny_execs_nil ⟨σ3,H3,I4,qn⟩
 ·refine wpAny_passesOwn hp (bJ (T.item X rfl rfl rfl hc i pins s3 σ3 H3 X.xe I3 (stat Qc) st3 go) λr s4 ⟨u,hr,h4⟩=>?_)
  subst hr
  refine wpAny_passesOwn hp (bJ h4 λ_ s5 ⟨x,H5,I5,r5,y5,mH,uc⟩=>?_)
  have Yv:=I5.pinned (stat uc) (T.obj _ _ mH)
  refine wpAny_passesOwn hp (bJ (hg _ s5 σ3 H5 x u _ Yv r5 (step x H5 y5)) λ_ s6 ⟨σ6,H6,I6,q6⟩=>?_)
  refine wpAny_passesOwn hp (bJ (hb _ s6 σ6 H6 _ I6 q6) λf s7 q7=>?_)
  have again:∀{σ7:St} {H7:Hp},Inv X (pins++Bw fp s5.heap) σ7 H7 s7->N σ7 H7->∃m,m<n/\∃i σ' H',Inv X pins σ' H' s7/\tn i s7.heap/\(∀b∈fp,H' b=none)/\W i m σ' H':=λ{σ7 H7} I7 n7=>by
   obtain⟨m',hm,w7⟩:=hN σ7 H7 n7
   refine⟨m',hm,i+1,σ7,H7,I7.vO,T.keep _ _ _ mH λb hb o e=>(I7.pin (b,o) (List.mem_append_right _ (List.mem_append_right _ (rM hb e)))).1,λb hb=>?_,w7⟩
   obtain⟨o,e,d⟩:=T.obj _ _ mH b hb
   exact(I7.pin (b,o) (List.mem_append_right _ (List.mem_append_right _ (rM hb e)))).2.1
  cases f with
  |next=>obtain⟨σ7,H7,I7,n7⟩:=q7; exact again I7 n7
  |cont=>obtain⟨σ7,H7,I7,n7⟩:=q7; exact again I7 n7
  |brk=>obtain⟨σ7,H7,I7,q7⟩:=q7; exact⟨σ7,H7,I7.vO,q7⟩
  |ret v=>obtain⟨x7,σ7,H7,I7,r7,q7⟩:=q7; exact⟨x7,σ7,H7,I7.vO,r7,q7⟩
end
end L2
namespace L2
open PySem PySem.Spec PyProof.Rows
abbrev R2:=V->V->Hp->VK->Prop
noncomputable def c7(X:Cx)(f:Value->Value->Sem Value)(r:R2):Prop :=
 ∀(pins:List (Addr × Obj)) (s:Shared) (σ : St) (H:Hp) (x y:V) (v u:Value) (Q:VK),Inv X pins σ H s->RelV x v->RelV y u->r x y H Q ->
  wpAny (model X.prog X.w) X.A (f v u) (EP X pins σ Q) X.xe s
def Hg(X:Cx)(f:Value->Sem Value)(r:V->Hp->VK->Prop):Prop :=
 ∀(pins:List (Addr × Obj)) (s:Shared) (σ : St) (H:Hp) (x:V) (v:Value) (Q:VK),Inv X pins σ H s->RelV x v->r x H Q ->
  wpAny (model X.prog X.w) X.A (f v) (EP X pins σ Q) X.xe s
noncomputable def g8(X:Cx)(f:Value)(r:List V->Hp->VK->Prop):Prop :=
 ∀(pins:List (Addr × Obj)) (s:Shared) (σ : St) (H:Hp) (xs:List V) (us:List Value) (Q:VK),Inv X pins σ H s->Vals xs us->r xs H Q ->
  wpAny (model X.prog X.w) X.A (call f us) (EP X pins σ Q) X.xe s
noncomputable def Yw(X:Cx)(r:V->Hp->(Bool->Hp->Prop)->Prop):Prop :=
 ∀(pins:List (Addr × Obj)) (s:Shared) (σ : St) (H:Hp) (x:V) (v:Value) (Q:Bool->Hp->Prop),Inv X pins σ H s->RelV x v->r x H Q ->
  wpAny (model X.prog X.w) X.A (truthy v) (TP X pins σ Q) X.xe s
def iG(r:R2)(ta tb:TE):TE:=λσ H Q=>ta σ H λx H1=>tb σ H1 λy H2=>r x y H2 Q
def yP(r:V->Hp->VK->Prop)(ta:TE):TE:=λσ H Q=>ta σ H λx H1=>r x H1 Q
def rI(C:Int->Int->Prop)(g:Int->Int->V):R2:=λx y H Q=>∃i j,x=.int i/\y=.int j/\C i j/\Q (g i j) H
def ju(g:Int->Int->V):R2:=λx y H Q=>∃i j,x=.int i/\y=.int j/\Q (g i j) H
def rU(g:Int->V):V->Hp->VK->Prop:=λx H Q=>∃i,x=.int i/\Q (g i) H
section
variable {X:Cx}{a b c:Expr}{ta tb tc:TE}{pos:Pos}
theorem Hh(ha:PE X a ta)(hb:PE X b tb){pins:List (Addr × Obj)}{s:Shared}{σ : St}{H:Hp}{R:V->V->Hp->Prop}(I:Inv X pins σ H s)
  (h:ta σ H λx H1=>tb σ H1 λy H2=>R x y H2) {Q:Value->Shared->Prop} {f:Value->Value->Sem Value}
  (hf:∀v u s2 x y H2,Inv X pins σ H2 s2->RelV x v->RelV y u->R x y H2->wpAny (model X.prog X.w) X.A (f v u) Q X.xe s2) :
  wpAny (model X.prog X.w) X.A (eval a X.env) (λv s₁=>wpAny (model X.prog X.w) X.A (eval b X.env) (λu s₂=>wpAny (model X.prog X.w) X.A (f v u) Q X.xe s₂) X.xe s₁) X.xe s:=by
 refine bJ (ha pins s σ H _ I h) λv s1 ⟨x,H1,I1,r1,q1⟩=>?_
 refine bJ (hb pins s1 σ H1 _ I1 q1) λu s2 ⟨y,H2,I2,r2,q2⟩=>?_
 exact hf v u s2 x y H2 I2 r1 r2 q2
theorem bK{op:Operator}{r:R2}(ho:c7 X (binaryOp op) r)(ha:PE X a ta)(hb:PE X b tb):PE X (.BinOp a op b pos) (iG r ta tb):=by
 refine⟨λpins s σ H Q I h=>?_⟩
 exact wpAny_BinOp (Hh ha hb I h λv u s2 x y H2 I2 rx ry q=>ho pins s2 σ H2 x y v u Q I2 rx ry q)
theorem Hi{op:UnaryOp}{r:V->Hp->VK->Prop}(ho:Hg X (unaryOp op) r)(ha:PE X a ta):PE X (.UnaryOp op a pos) (yP r ta):=by
 refine⟨λpins s σ H Q I h=>?_⟩
 exact UnaryOp_ (bJ (ha pins s σ H _ I h) λv s1 ⟨x,H1,I1,r1,q1⟩=>ho pins s1 σ H1 x v Q I1 r1 q1)
theorem Bx{f:Value->Value->Sem Value}{C:Int->Int->Prop}{g:Int->Int->Int}
  (rule:∀(i j:Int) (t u:Tok) (s:Shared) (Q:Value->Shared->Prop) (E:Value->Shared->Prop),C i j->Q (.int (g i j) s.toks) {s with toks:=s.toks+1 }->wpAny (model X.prog X.w) X.A (f (.int i t) (.int j u)) Q E s) :
  c7 X f (rI C λi j=>.int (g i j)):=by
 intro pins s σ H x y v u Q I rx ry h
 obtain⟨i,j,rfl,rfl,hc,q⟩:=h
 obtain⟨t,rfl⟩:=rx
 obtain⟨t',rfl⟩:=ry
 exact rule i j t t' s _ _ hc ⟨.int (g i j),H,I.tok _,⟨_,rfl⟩,q⟩
theorem Qd{f:Value->Value->Sem Value}{g:Int->Int->Int}
  (rule:∀(i j:Int) (t u:Tok) (s:Shared) (Q:Value->Shared->Prop) (E:Value->Shared->Prop),Q (.int (g i j) s.toks) {s with toks:=s.toks+1 }->wpAny (model X.prog X.w) X.A (f (.int i t) (.int j u)) Q E s) :
  c7 X f (ju λi j=>.int (g i j)):=by
 intro pins s σ H x y v u Q I rx ry h
 obtain⟨i,j,rfl,rfl,q⟩:=h
 obtain⟨t,rfl⟩:=rx
 obtain⟨t',rfl⟩:=ry
 exact rule i j t t' s _ _ ⟨.int (g i j),H,I.tok _,⟨_,rfl⟩,q⟩
theorem BJ{f:Value->Value->Sem Value}{g:Int->Int->Bool}
  (rule:∀(i j:Int) (t u:Tok) (s:Shared) (Q:Value->Shared->Prop) (E:Value->Shared->Prop),Q (.bool (g i j)) s->wpAny (model X.prog X.w) X.A (f (.int i t) (.int j u)) Q E s) :
  c7 X f (ju λi j=>.bl (g i j)):=by
 intro pins s σ H x y v u Q I rx ry h
 obtain⟨i,j,rfl,rfl,q⟩:=h
 obtain⟨t,rfl⟩:=rx
 obtain⟨t',rfl⟩:=ry
 exact rule i j t t' s _ _ ⟨.bl (g i j),H,I,rfl,q⟩
def Hj(i j:Int):Prop:=0<=j/\j<=1000000/\i.natAbs<2 ^ 64
theorem Qe:c7 X (binaryOp .Add) (ju λi j=>.int (i+j)):=Qd λ_ _ _ _ _ _ _ q=>add_int q
theorem rO:c7 X (binaryOp .Sub) (ju λi j=>.int (i-j)):=Qd λ_ _ _ _ _ _ _ q=>sub_int q
theorem rP:c7 X (binaryOp .Mod) (rI (λ_ j=>j≠0) λi j=>.int (i.fmod j)):=Bx λ_ _ _ _ _ _ _ hc q=>mod_int' hc q
theorem BK:c7 X (binaryOp .Pow) (rI Hj λi j=>.int (i ^ j.toNat)):=Bx λ_ _ _ _ _ _ _ hc q=>pow_int_small hc.1 hc.2.1 hc.2.2 q
theorem Yx{f:Value->Sem Value}{g:Int->Int}
  (rule:∀(i:Int) (t:Tok) (s:Shared) (Q:Value->Shared->Prop) (E:Value->Shared->Prop),Q (.int (g i) s.toks) {s with toks:=s.toks+1 }->wpAny (model X.prog X.w) X.A (f (.int i t)) Q E s) :
  Hg X f (rU λi=>.int (g i)):=by
 intro pins s σ H x v Q I rx h
 obtain⟨i,rfl,q⟩:=h
 obtain⟨t,rfl⟩:=rx
 exact rule i t s _ _ ⟨.int (g i),H,I.tok _,⟨_,rfl⟩,q⟩
theorem Hl:Hg X (unaryOp .USub) (rU λi=>.int (-i)):=Yx λ_ _ _ _ _ q=>neg_int q
end
section
variable {X:Cx}{a b c:Expr}{ta tb tc:TE}{pos:Pos}
theorem Ho{pins:List (Addr × Obj)}{σ : St}{H:Hp}{s:Shared}{Q:VK}{k k':Bool}(I:Inv X pins σ H s)(q:Q (.bl k) H)(e:k=k'):EP X pins σ Q (.bool k') s:=by
 subst e
 exact⟨.bl k,H,I,rfl,q⟩
theorem Yy:c7 X (compareOp .Lt) (ju λi j=>.bl (decide (i<j))):=BJ λ_ _ _ _ _ _ _ q=>lt_int q
theorem rQ:c7 X (compareOp .LtE) (ju λi j=>.bl (decide (i<=j))):=BJ λ_ _ _ _ _ _ _ q=>le_int q
theorem vP:c7 X (compareOp .Gt) (ju λi j=>.bl (decide (j<i))):=BJ λ_ _ _ _ _ _ _ q=>gt_int q
theorem Hq:c7 X (compareOp .GtE) (ju λi j=>.bl (decide (j<=i))):=BJ λ_ _ _ _ _ _ _ q=>ge_int q
theorem yQ:c7 X (compareOp .Is) (λx y H Q=>y=.non/\Q (.bl (decide (x=.non))) H):=by
 intro pins s σ H x y v u Q I rx ry h
 obtain⟨rfl,q⟩:=h
 cases ry
 refine is_none_gen (Ho I q ?_)
 cases x <;> first
  |(cases rx; rfl)
  |(obtain⟨t,rfl⟩:=rx; rfl)
theorem Hr:c7 X (compareOp .IsNot) (λx y H Q=>y=.non/\Q (.bl (!decide (x=.non))) H):=by
 intro pins s σ H x y v u Q I rx ry h
 obtain⟨rfl,q⟩:=h
 cases ry
 refine isnot_none_gen (Ho I q ?_)
 cases x <;> first
  |(cases rx; rfl)
  |(obtain⟨t,rfl⟩:=rx; rfl)
theorem Yz:c7 X (compareOp .NotIn) (λx y H Q=>∃i j,x=.str i/\y=.str j/\Q (.bl (!(!(Builtin.Str.occurrences j i 0 j.length 1).isEmpty))) H):=by
 intro pins s σ H x y v u Q I rx ry h
 obtain⟨i,j,rfl,rfl,q⟩:=h
 obtain⟨t,rfl⟩:=rx
 obtain⟨t',rfl⟩:=ry
 exact notIn_str (Ho I q rfl)
theorem c7.or{f:Value->Value->Sem Value}{r r':R2}(h:c7 X f r)(h':c7 X f r'):c7 X f (λx y H Q=>r x y H Q\/r' x y H Q):=by
 intro pins s σ H x y v u Q I rx ry q
 rcases q with q|q
 ·exact h pins s σ H x y v u Q I rx ry q
 ·exact h' pins s σ H x y v u Q I rx ry q
theorem bM(b:Expr){op:CmpOp}(h:op ≠ .In:=by decide)(h2:op ≠ .NotIn:=by decide):behindInMarks op b=false:=by
 have e1:(op == CmpOp.In)=false:=by cases op <;> first|rfl|exact absurd rfl h
 have e2:(op == CmpOp.NotIn)=false:=by cases op <;> first|rfl|exact absurd rfl h2
 cases b <;> simp[behindInMarks,e1,e2]
theorem nq{op:CmpOp}{r:R2}(ho:c7 X (compareOp op) r)(ha:PE X a ta)(hb:PE X b tb)(hm:behindInMarks op b=false):PE X (.Compare a [op] [b] pos) (iG r ta tb):=by
 refine⟨λpins s σ H Q I h=>?_⟩
 exact wpAny_Compare1 (Hh ha hb I h λv u s2 x y H2 I2 rx ry q=>ho pins s2 σ H2 x y v u Q I2 rx ry q) hm
def Hs(t:TE):TT:=λσ H Q=>t σ H λx H'=>∃k,x=.bl k/\Q k H'
theorem bQ{op:CmpOp}{r:R2}(ho:c7 X (compareOp op) r)(ha:PE X a ta)(hb:PE X b tb)(hm:behindInMarks op b=false):PT X (.Compare a [op] [b] pos) (Hs (iG r ta tb)):=by
 refine⟨λpins s σ H Q I h=>?_⟩
 refine wpAny_isTrue_Compare1 (bJ (ha pins s σ H _ I h) λv s1 ⟨x,H1,I1,r1,q1⟩=>bJ (hb pins s1 σ H1 _ I1 q1) λu s2 ⟨y,H2,I2,r2,q2⟩ =>
  bJ (ho pins s2 σ H2 x y v u _ I2 r1 r2 q2) λc s3 ⟨z,H3,I3,r3,k,e,q3⟩=>?_) hm
 subst e
 cases r3
 exact wpAny_truthy_bool ⟨H3,I3,q3⟩
def BL(r r':R2)(ta tb tc:TE):TE:=λσ H Q=>ta σ H λx H1=>tb σ H1 λy H2=>r x y H2 λz H3=>∃k,z=.bl k /\
 (if k=true then tc σ H3 λw' H4=>r' y w' H4 Q else Q (.bl false) H3)
theorem Qf{op op':CmpOp}{r r':R2}(ho:c7 X (compareOp op) r)(ho':c7 X (compareOp op') r')(ha:PE X a ta)(hb:PE X b tb)(hc:PE X c tc)
  (hm:lastMarks [op,op'] [b,c]=false:=by with_unfolding_all rfl):PE X (.Compare a [op,op'] [b,c] pos) (BL r r' ta tb tc):=by
 refine⟨λpins s σ H Q I h=>?_⟩
 refine Compare_chain (bJ (ha pins s σ H _ I h) λv s1 ⟨x,H1,I1,r1,q1⟩=>chain_link (bJ (hb pins s1 σ H1 _ I1 q1) λu s2 ⟨y,H2,I2,r2,q2⟩ =>
  bJ (ho pins s2 σ H2 x y v u _ I2 r1 r2 q2) λd s3 ⟨z,H3,I3,r3,k,e,q3⟩=>?_)) hm
 subst e
 cases r3
 refine wpAny_truthy_bool ?_
 cases k with
 |false=>exact ite_ff ⟨.bl false,H3,I3,rfl,q3⟩
 |true=>exact ite_tt (chain_last (bJ (hc pins s3 σ H3 _ I3 q3) λw' s4 ⟨z',H4,I4,r4,q4⟩=>ho' pins s4 σ H4 y z' u w' Q I4 r2 r4 q4))
theorem Qg{op op':CmpOp}{r r':R2}(ho:c7 X (compareOp op) r)(ho':c7 X (compareOp op') r')(ha:PE X a ta)(hb:PE X b tb)(hc:PE X c tc)
  (hm:lastMarks [op,op'] [b,c]=false:=by with_unfolding_all rfl):PT X (.Compare a [op,op'] [b,c] pos) (Hs (BL r r' ta tb tc)):=by
 refine⟨λpins s σ H Q I h=>?_⟩
 refine isTrue_chain (bJ (ha pins s σ H _ I h) λv s1 ⟨x,H1,I1,r1,q1⟩=>test_link (bJ (hb pins s1 σ H1 _ I1 q1) λu s2 ⟨y,H2,I2,r2,q2⟩ =>
  bJ (ho pins s2 σ H2 x y v u _ I2 r1 r2 q2) λd s3 ⟨z,H3,I3,r3,k,e,q3⟩=>?_)) hm
 subst e
 cases r3
 refine wpAny_truthy_bool ?_
 cases k with
 |false =>
  obtain⟨k',e',q'⟩:=q3
  cases e'
  exact ite_ff ⟨H3,I3,q'⟩
 |true =>
  refine ite_tt (test_last (bJ (hc pins s3 σ H3 _ I3 q3) λw' s4 ⟨z',H4,I4,r4,q4⟩=>bJ (ho' pins s4 σ H4 y z' u w' _ I4 r2 r4 q4) λd' s5 ⟨z2,H5,I5,r5,k2,e2,q5⟩=>?_))
  subst e2
  cases r5
  exact wpAny_truthy_bool ⟨H5,I5,q5⟩
noncomputable def yR(K:FZ)(x:V)(H:Hp)(k:Bool):Prop :=
 match x with
 |.non=>k=false
 |.bl b=>k=b
 |.int i=>k=(i != 0)
 |.str y=>y.length<=sizeLine/\k=((y.length:Int) != 0)
 |.yF y=>y.size<=sizeLine/\k=((y.size:Int) != 0)
 |.ref p=>(∃xs,cJ K H p xs/\k = !xs.isEmpty)\/(∃xs,dZ K H p xs/\k = !xs.isEmpty)\/∃kvs,H p=some (.dK kvs)/\k = !kvs.isEmpty
 |_=>False
theorem YB{κ : Type}{kvs:List (κ × V)}{vs:List (κ × Value)}(r:KV kvs vs):(!vs.isEmpty) = !kvs.isEmpty:=by
 cases r <;> rfl
theorem Qh{xs:List V}{its:List Value}(r:Vals xs its):(!its.toArray.isEmpty) = !xs.isEmpty:=by
 cases r <;> simp
theorem ud:(sizeLine:Nat)<2 ^ 63:=by rw[sizeLine_eq]; decide
theorem YC:Yw X (λx H Q=>∃k,yR X.K x H k/\Q k H):=by
 intro pins s σ H x v Q I rx h
 obtain⟨k,e,q⟩:=h
 have hl:=ud
 have hs:sizeLine=16777216:=sizeLine_eq
 cases x with
 |non =>
  cases rx
  have e':k=false:=e
  subst e'
  exact truthy_none ⟨H,I,q⟩
 |bl b =>
  cases rx
  have e':k=b:=e
  subst e'
  exact wpAny_truthy_bool ⟨H,I,q⟩
 |int i =>
  obtain⟨t,rfl⟩:=rx
  have e':k=(i != 0):=e
  subst e'
  exact PySem.P.truthy_int ⟨H,I,q⟩
 |str y =>
  obtain⟨t,rfl⟩:=rx
  obtain⟨hy,e'⟩:y.length<=sizeLine/\k=((y.length:Int) != 0):=e
  subst e'
  exact PySem.P.truthy_str (by omega) ⟨H,I.tok _,q⟩
 |yF y =>
  obtain⟨t,rfl⟩:=rx
  obtain⟨hy,e'⟩:y.size<=sizeLine/\k=((y.size:Int) != 0):=e
  subst e'
  exact PySem.W.truthy_bytes (by omega) ⟨H,I.tok _,q⟩
 |ref p =>
  cases rx
  have e':(∃xs,cJ X.K H p xs/\k = !xs.isEmpty)\/(∃xs,dZ X.K H p xs/\k = !xs.isEmpty)\/∃kvs,H p=some (.dK kvs)/\k = !kvs.isEmpty:=e
  rcases e' with⟨xs,hx,e'⟩|⟨xs,hx,e'⟩|⟨kvs,hx,e'⟩
  ·subst e'
   obtain⟨its,r,pl,hz⟩:=I.list hx
   have hlen:=r.length
   exact wpAny_truthy_list pl.isList (by simp only[List.size_toArray]; omega) ⟨H,I.tok _,by rw[Qh r]; exact q⟩
  ·subst e'
   obtain⟨its,r,pl,hz⟩:=I.tuple hx
   have hlen:=r.length
   exact truthy_tuple pl (by simp only[List.size_toArray]; omega) ⟨H,I.tok _,by rw[Qh r]; exact q⟩
  ·subst e'
   obtain⟨hz,hS,vs,r,m⟩:kvs.length<=sizeLine/\(p == sysModules)=false/\∃vs,KV kvs vs/\s.heap.DictOf (GQ X.prog X.w) p vs:=I.hok p _ hx
   have hlen:kvs.length=vs.length:=Paired.length r
   exact wpAny_truthy_dict hS m (by omega) ⟨H,I.tok _,by rw[YB r]; exact q⟩
 |_=>exact(show False from e).elim
theorem fC(ha:PE X a ta)(he:∀whole,isTrue a X.env whole=(do let v <-whole; standAt a.pos; holding [v] (truthy v))) :
  PT X a (λσ H Q=>ta σ H λx H'=>∃k,yR X.K x H' k/\Q k H'):=by
 refine⟨λpins s σ H Q I h=>?_⟩
 exact isTrue_plain (bJ (ha pins s σ H _ I h) λv s1 ⟨x,H1,I1,r1,q1⟩=>YC pins s1 σ H1 x v Q I1 r1 q1) (he _)
theorem YD:c7 X (binaryOp .Add) (λx y H Q=>∃i j,x=.str i/\y=.str j/\i.length+j.length<=sizeLine/\Q (.str (i++j)) H):=by
 intro pins s σ H x y v u Q I rx ry h
 obtain⟨i,j,rfl,rfl,hz,q⟩:=h
 obtain⟨t,rfl⟩:=rx
 obtain⟨t',rfl⟩:=ry
 exact add_str (λt' tk=>⟨.str (i++j),H,I.tok _,⟨_,rfl⟩,q⟩) hz
theorem vals1{x:V}{us:List Value}(r:Vals [x] us):∃u,us=[u]/\RelV x u:=by
 cases r with
 |cons r1 r2=>cases r2; exact⟨_,rfl,r1⟩
theorem vals2{x y:V}{us:List Value}(r:Vals [x,y] us):∃u w',us=[u,w']/\RelV x u/\RelV y w':=by
 cases r with
 |cons r1 r2 =>
  cases r2 with
  |cons r3 r4=>cases r4; exact⟨_,_,rfl,r1,r3⟩
theorem Qi:g8 X (.builtin "abs") (λxs H Q=>∃i,xs=[.int i]/\Q (.int (if i<0 then -i else i)) H):=by
 intro pins s σ H xs us Q I r h
 obtain⟨i,rfl,q⟩:=h
 obtain⟨u,rfl,t,rfl⟩:=vals1 r
 exact call_abs_int λu tk=>⟨.int (if i<0 then -i else i),H,I.tok _,⟨_,rfl⟩,q⟩
theorem YF(hc:X.calm=true):g8 X (.builtin "max") (λxs H Q=>∃i j,xs=[.int i,.int j]/\Q (.int (if j > i then j else i)) H):=by
 intro pins s σ H xs us Q I r h
 obtain⟨i,j,rfl,q⟩:=h
 obtain⟨u,w',rfl,⟨t,rfl⟩,⟨t',rfl⟩⟩:=vals2 r
 refine max_two_ints (I.ok.hd hc) λh' tk k=>⟨_,H,I.kept k,?_,q⟩
 by_cases hj:j > i
 ·rw[if_pos hj,if_pos hj]; exact⟨_,rfl⟩
 ·rw[if_neg hj,if_neg hj]; exact⟨_,rfl⟩
theorem YG(hc:X.calm=true):g8 X (.builtin "min") (λxs H Q=>∃i j,xs=[.int i,.int j]/\Q (.int (if j<i then j else i)) H):=by
 intro pins s σ H xs us Q I r h
 obtain⟨i,j,rfl,q⟩:=h
 obtain⟨u,w',rfl,⟨t,rfl⟩,⟨t',rfl⟩⟩:=vals2 r
 refine min_two_ints (I.ok.hd hc) λh' tk k=>⟨_,H,I.kept k,?_,q⟩
 by_cases hj:j<i
 ·rw[if_pos hj,if_pos hj]; exact⟨_,rfl⟩
 ·rw[if_neg hj,if_neg hj]; exact⟨_,rfl⟩
theorem Qj:g8 X (.type "int") (λxs H Q=>(∃i,xs=[.int i]/\Q (.int i) H)\/∃k,xs=[.bl k]/\Q (.int (if k then 1 else 0)) H):=by
 intro pins s σ H xs us Q I r h
 rcases h with⟨i,rfl,q⟩|⟨k,rfl,q⟩
 ·obtain⟨u,rfl,t,rfl⟩:=vals1 r
  exact call_int_int ⟨.int i,H,I,⟨_,rfl⟩,q⟩
 ·obtain⟨u,rfl,r1⟩:=vals1 r
  cases r1
  exact call_int_bool ⟨.int (if k then 1 else 0),H,I.tok _,⟨_,rfl⟩,q⟩
end
end L2
namespace L2
open PySem PySem.Spec PyProof.Rows
section
variable {prog:Program}{w:World}{A:Around}{E:Value->Shared->Prop}{s:Shared}{K:FZ}{x dx C f:Addr}{mA:Str->Option Value}{name:Str}{v:Value}
end
section
variable {P:Program}{w:World}{H H':Hp}{h h':Heap}{a C dx:Addr}{fs fs':List (Str × V)}
end
section
variable {X:Cx}{pins:List (Addr × Obj)}{σ : St}{H:Hp}{s:Shared}{a C dx:Addr}{fs:List (Str × V)}{f:Str}{v:V}{A:Around}{E:Value->Shared->Prop}
end
section
variable {X:Cx}{o e value:Expr}{f:Str}{pos pos' tpos:Pos}{ta tv:TE}
end
section
variable {X:Cx}{pins:List (Addr × Obj)}{σ : St}{H:Hp}{s:Shared}{A:Around}{E:Value->Shared->Prop}{Q:Value->Shared->Prop}{c:Value}{b:Bool}
end
end L2
namespace L2
open PySem PySem.Spec PyProof.Rows
structure gP(k:Nat)(A:Around):Prop where
 hd:A.handled=none
 dp:A.depth+3*k+5<recursionLimit
 un:A.units+16*k+200<cLine
 gd:A.guards=some []:=by rfl
theorem gP.mono{j k:Nat}{A:Around}(r:gP k A)(h:j<=k):gP j A:=⟨r.hd,by have:=r.dp; omega,by have:=r.un; omega,r.gd⟩
theorem gP.deeper{k:Nat}{A:Around}(r:gP (k+1) A)(env:Env):gP k (A.deeper env) :=
 ⟨r.hd,by have:=r.dp; show A.depth+1+3*k+5<_; omega,by have:=r.un; show A.units+3+16*k+200<_; omega,r.gd⟩
theorem gP.depth{k:Nat}{A:Around}(r:gP k A):A.depth<recursionLimit:=by have:=r.dp; omega
theorem gP.units{k:Nat}{A:Around}(r:gP k A):A.units+64<cLine:=by have:=r.un; omega
def lH:TA:=λ_ H Q=>Q [] H
def iR(ta:TE)(tr:TA):TA:=λσ H Q=>ta σ H λx H1=>tr σ H1 λxs H2=>Q (x::xs) H2
section
variable {X:Cx}{e:Expr}{es:List Expr}{te:TE}{t:TA}{pos:Pos}
theorem aD:PA X [] lH:=⟨λ_ _ _ _ H Q I h=>Calls.spliced_nil ⟨[],H,I,.nil,h⟩⟩
theorem qt(ha:PE X e te)(hr:PA X es t)(hs:starEach (e::es) X.env=(false,eval e X.env)::starEach es X.env:=by rfl):PA X (e::es) (iR te t):=by
 refine⟨λpos pins s σ H Q I h=>?_⟩
 rw[hs]
 show wpAny _ _ (spliced ((false,eval e X.env)::backTo pos (starEach es X.env))) _ _ s
 refine Calls.spliced_cons (bJ (ha pins s σ H _ I h) λu s1 ⟨x,H1,I1,r1,q1⟩=>?_)
 exact bJ (hr pos pins s1 σ H1 _ I1 q1) λus s2 ⟨xs,H2,I2,r2,q2⟩=>⟨x::xs,H2,I2,.cons r1 r2,q2⟩
def Qk(t:TA):TE:=λσ H Q=>t σ H λxs H1=>xs.length<=sizeLine/\∀p,H1 p=none->Q (.ref p) (upd H1 p (.tup xs))
def Ql(t:TA):TE:=λσ H Q=>t σ H λxs H1=>xs.length<=sizeLine/\∀p,H1 p=none->Q (.ref p) (upd H1 p (.lst xs))
theorem kh{x1}(h:PA X es t):PE X (.Tuple es x1 pos) (Qk t):=by
 refine⟨λpins s σ H Q I hq=>?_⟩
 refine wpAny_Tuple_spliced (bJ (h pos pins s σ H _ I hq) λus s1 ⟨xs,H1,I1,r,z,q⟩=>⟨by rw[<-r.length]; exact z,?_⟩)
 have hf:H1 s1.heap.objs.size=none:=I1.hok.fresh (Nat.le_refl _)
 refine⟨.ref s1.heap.objs.size,upd H1 s1.heap.objs.size (.tup xs),I1.laid (t':=s1.toks) (λb u e=>Heap.get?_push_of_some _ e) (Nat.le_refl _) ?_,rfl,q _ hf⟩
 exact⟨z,us,r,⟨_,Heap.get?_push_size _ rfl,rfl,_,rfl⟩⟩
theorem jc(h:PA X es t):PE X (.List es pos) (Ql t):=by
 refine⟨λpins s σ H Q I hq=>?_⟩
 refine wpAny_List_spliced (bJ (h pos pins s σ H _ I hq) λus s1 ⟨xs,H1,I1,r,z,q⟩=>⟨by rw[<-r.length]; exact z,?_⟩)
 have hf:H1 s1.heap.objs.size=none:=I1.hok.fresh (Nat.le_refl _)
 refine⟨.ref s1.heap.objs.size,upd H1 s1.heap.objs.size (.lst xs),I1.laid (t':=s1.toks) (λb u e=>Heap.get?_push_of_some _ e) (Nat.le_refl _) ?_,rfl,q _ hf⟩
 exact⟨z,us,0,r,Heap.get?_push_size _ rfl⟩
end
abbrev Sp:=List V->Hp->VK->XK->Prop
abbrev lK:=List Env->Hp->Shared->XK->Value->Shared->Prop
structure BP(P:Program)(w:World)(K:FZ)(mg:Str->Option Value)(base:Heap)(A:Around)(outer:List Env)(s:Shared)(H:Hp):Prop where
 frames:A.frames=some outer
 mod:Mod K mg base
 bs:∀b o,base.get? b=some o->s.heap.get? b=some o/\H b=none
 rE:base.objs.size<=s.heap.objs.size
 mD:s.heap.FunFrames base outer
 rF:∀b∈frs outer,H b=none
 hok:gh P w H s.heap
 bare:AllBare s.gens
def CE(outer:List Env)(P:Program)(w:World)(H:Hp)(s:Shared)(Q:VK)(u:Value)(s':Shared):Prop :=
 ∃v H',s'.os=s.os/\AllBare s'.gens/\Un (frs outer) [] H H' s.heap s'.heap/\gh P w H' s'.heap/\RelV v u/\Q v H'
def CR(CX:lK)(outer:List Env)(P:Program)(w:World)(H:Hp)(s:Shared)(Q:VK)(E:XK)(r:Result)(s':Shared):Prop :=
 match r with
 |.ok (.ret u)=>CE outer P w H s Q u s'
 |.ok _=>False
 |.error e=>CX outer H s E e s'
structure lM(P:Program)(w:World)(K:FZ)(mg:Str->Option Value)(base:Heap)(CX:lK)(k:Nat)(f:Addr)(fd:FuncData)(ps:List Str)(sp:Sp):Prop where
 len:∀vs H Q E,sp vs H Q E->vs.length=ps.length
 run:∀(A:Around) (outer:List Env) (s:Shared) (H:Hp) (args:Args) (us:List Value) (vs:List V) (Q:VK) (E:XK),gP k A->BP P w K mg base A outer s H->BindsTo s fd args (ps.zip us)->Vals vs us->sp vs H Q E ->
  codeAny (model P w) A (.call (.ref f) args) (CR CX outer P w H s Q E) s
theorem lM.mono{P:Program}{w:World}{K:FZ}{mg:Str->Option Value}{base:Heap}{CX:lK}{j k:Nat}{f:Addr}{fd:FuncData}{ps:List Str}{sp:Sp}(F:lM P w K mg base CX j f fd ps sp)(h:j<=k) :
  lM P w K mg base CX k f fd ps sp:=⟨F.len,λA outer s H args us vs Q E hr=>F.run A outer s H args us vs Q E (hr.mono h)⟩
theorem lM.imp{P:Program}{w:World}{K:FZ}{mg:Str->Option Value}{base:Heap}{CX:lK}{k:Nat}{f:Addr}{fd:FuncData}{ps:List Str}{sp Qm:Sp}(F:lM P w K mg base CX k f fd ps sp)
  (h:∀vs H Q E,Qm vs H Q E->sp vs H Q E):lM P w K mg base CX k f fd ps Qm :=
 ⟨λvs H Q E q=>F.len vs H Q E (h _ _ _ _ q),λA outer s H args us vs Q E hr he hb hv hs=>F.run A outer s H args us vs Q E hr he hb hv (h _ _ _ _ hs)⟩
section
variable {X:Cx}{pins:List (Addr × Obj)}{σ : St}{H:Hp}{s s':Shared}
theorem Inv.env0(I:Inv X pins σ H s):BP X.prog X.w X.K X.mg X.base X.A X.stack s H :=
 ⟨I.ok.frames,I.ok.mod,I.bs,Nat.le_trans I.ok.rE I.sz,I.stack,I.yI,I.hok,I.bare⟩
theorem Inv.after{Q:VK}{u:Value}(I:Inv X pins σ H s)(h:CE X.stack X.prog X.w H s Q u s'):EP X pins σ Q u s':=by
 obtain⟨v,H',os,bare,un,hok,r,q⟩:=h
 obtain⟨hh,g,d,t,os'⟩:=s'
 obtain rfl:os'=s.os:=os
 exact⟨v,H',I.call (h':=hh) (g':=g) (d':=d) (t':=t) (ch:=[]) un hok bare (λb z=>absurd z (by simp)),r,q⟩
end
def o9(sp:Sp)(rR:List V)(E:XK)(t:TA):TE:=λσ H Q=>t σ H λvs H1=>sp (vs++rR) H1 Q E
def Binds(K:FZ)(fd:FuncData)(ps:List Str)(ds:List Value):Prop :=
 ∀(s:Shared) (us:List Value),K.In s.heap->(us++ds).length=ps.length->BindsTo s fd ⟨us,[]⟩ (ps.zip (us++ds))
theorem Binds.all{K:FZ}{fd:FuncData}{ps:List Str}(h:∀us:List Value,us.length=ps.length->bindArgs fd ⟨us,[]⟩=pure (ps.zip us)):Binds K fd ps []:=λs us _ hl=>by
 rw[List.append_nil]at hl ⊢
 exact .of_eq (h us hl)
def Passes(CX:lK)(X:Cx)(E:XK):Prop:=∀(pins:List (Addr × Obj)) (σ : St) (H:Hp) (s:Shared) (e:Value) (s':Shared),Inv X pins σ H s->CX X.stack H s E e s'->X.xe e s'
section
variable {X:Cx}{CX:lK}{k:Nat}{f C:Addr}{fd:FuncData}{ps:List Str}{sp:Sp}{rR:List V}{ds:List Value}{E:XK}{x m:Str}{p pos apos:Pos}{e o:Expr}{es:List Expr}{ta:TE}{t:TA}
theorem YH{pins:List (Addr × Obj)}{σ : St}{H:Hp}{s:Shared}{Q:VK}{us:List Value}{vs:List V}(F:lM X.prog X.w X.K X.mg X.base CX k f fd ps sp)(hr:gP k X.A)(hb:Binds X.K fd ps ds)(hd:Vals rR ds)(hx:Passes CX X E)
  (I:Inv X pins σ H s) (r:Vals vs us) (h:sp (vs++rR) H Q E):wpAny (model X.prog X.w) X.A (call (.ref f) us) (EP X pins σ Q) X.xe s:=by
 have r2:Vals (vs++rR) (us++ds):=r.append hd
 have hl:(us++ds).length=ps.length:=by rw[<-r2.length]; exact F.len _ _ _ _ h
 refine wpAny_call (codeAny_mono (F.run X.A X.stack s H ⟨us,[]⟩ (us++ds) (vs++rR) Q E hr I.env0 (hb s us I.jq hl) r2 h) λr s' hq=>?_)
 cases r with
 |error e=>exact hx pins σ H s e s' I hq
 |ok fl =>
  cases fl with
  |ret u=>exact I.after hq
  |next=>exact False.elim hq
  |brk=>exact False.elim hq
  |cont=>exact False.elim hq
theorem YJ(F:lM X.prog X.w X.K X.mg X.base CX k f fd ps sp)(hr:gP k X.A)(hg:Gl X x)(hm:X.mg x=some (.ref f))(hk:PySem.W.keepIn X.K (.ref f)=true)(hb:Binds X.K fd ps ds)(hd:Vals rR ds)(hx:Passes CX X E)
  (ha:PA X (e::es) t) (hdb:(x == ("__debug__" : Str))=false:=by decide) (he:starEach (e::es) X.env=(false,eval e X.env)::starEach es X.env:=by rfl) (hpl:(backTo pos (starEach es X.env)).any (·.1)=false:=by rfl) :
  PE X (.Call (.Name x p) (e::es) [] pos) (o9 sp rR E t):=by
 refine⟨λpins s σ H Q I h=>?_⟩
 refine wpAny_Call_Name_kw (yL I hg hm ?_ hdb)
 refine PySem.W.callWith_K (h₀ := X.base) I.ok.mod.Br hk (bJ (ha pos pins s σ H _ I h) λus s1 ⟨vs,H1,I1,r,q⟩=>⟨I1.jq,?_⟩) he hpl
 exact YH F hr hb hd hx I1 r q
end
section
variable {X:Cx}{CX:lK}{k:Nat}{f C:Addr}{fd:FuncData}{ps ks:List Str}{sp:Sp}{E:XK}{x m:Str}{p pos apos kpos:Pos}{e o:Expr}{es:List Expr}{kws:List Keyword}{te ta:TE}{t tk:TA}{nm:Option Str}
variable {g:List Value->List Value->List Value}{gV:List V->List V->List V}
end
structure uf(N P:List Str)(sc:Scope):Prop where
 kind:sc.kind=.function
 co:sc.isCoroutine=false
 gen:sc.isGenerator=false
 nd:N.Nodup
 pre:N.take P.length=P
 par:∀x∈P,sc.names.lookup x=some .local\/sc.names.lookup x=some .cell
 Ht:∀y∈sc.names,y.2 ≠ .free
theorem Qn{kindOf:Str->Option NameKind}{x:Str}:∀{binds:List (Str × Value)} {m:Str->Option Value},(∀v,(x,v)∉binds)->bindL kindOf binds m x=m x
 | [],_,_=>rfl
 |(n,v)::r,m,h=>by
  unfold bindL
  rw[Qn λw hw=>h w (List.mem_cons_of_mem _ hw)]
  split
  ·have:x≠n:=by rintro rfl; exact h v List.mem_cons_self
   simp[this]
  ·rfl
theorem Qo{kindOf:Str->Option NameKind}{x:Str}:∀{binds:List (Str × Value)} {m:Str->Option Value},(∀v,(x,v)∉binds)->bindC kindOf binds m x=m x
 | [],_,_=>rfl
 |(n,v)::r,m,h=>by
  unfold bindC
  rw[Qo λw hw=>h w (List.mem_cons_of_mem _ hw)]
  split
  ·rfl
  ·have:x≠n:=by rintro rfl; exact h v List.mem_cons_self
   simp[this]
theorem Qp{kindOf:Str->Option NameKind}{x:Str}{v:Value}:∀{P:List Str} {vs:List Value} {i:Nat} {m:Str->Option Value},P.Nodup->P[i]?=some x->vs[i]?=some v->kindOf x=some .local ->
  bindL kindOf (P.zip vs) m x=some v
 | [],_,_,_,_,h,_,_=>by simp at h
 |_::_,[],_,_,_,_,h,_=>by simp at h
 |p::P,w::vs,0,m,nd,h1,h2,hk=>by
  simp at h1 h2; subst h1; subst h2
  show bindL kindOf ((p,w)::P.zip vs) m p=_
  unfold bindL
  rw[Qn λv hv=>(List.nodup_cons.mp nd).1 (List.of_mem_zip hv).1,if_pos hk]
  simp
 |p::P,w::vs,i+1,m,nd,h1,h2,hk=>by
  show bindL kindOf ((p,w)::P.zip vs) m x=_
  unfold bindL
  exact Qp (i:=i) (List.nodup_cons.mp nd).2 (by simpa using h1) (by simpa using h2) hk
theorem Qq{kindOf:Str->Option NameKind}{x:Str}{v:Value}:∀{P:List Str} {vs:List Value} {i:Nat} {m:Str->Option Value},P.Nodup->P[i]?=some x->vs[i]?=some v->kindOf x≠some .local ->
  bindC kindOf (P.zip vs) m x=some v
 | [],_,_,_,_,h,_,_=>by simp at h
 |_::_,[],_,_,_,_,h,_=>by simp at h
 |p::P,w::vs,0,m,nd,h1,h2,hk=>by
  simp at h1 h2; subst h1; subst h2
  show bindC kindOf ((p,w)::P.zip vs) m p=_
  unfold bindC
  rw[Qo λv hv=>(List.nodup_cons.mp nd).1 (List.of_mem_zip hv).1,if_neg hk]
  simp
 |p::P,w::vs,i+1,m,nd,h1,h2,hk=>by
  show bindC kindOf ((p,w)::P.zip vs) m x=_
  unfold bindC
  exact Qq (i:=i) (List.nodup_cons.mp nd).2 (by simpa using h1) (by simpa using h2) hk
def start(N:List Str)(vs:List V):St:=vs.map some++List.replicate (N.length-vs.length) none
noncomputable def mJ(CX:lK)(P:Program)(w:World)(K:FZ)(mg:Str->Option Value)(base:Heap)(N:List Str)(qual:Str)(scope:Scope)(f:Addr)(cd:Value)(A:Around)(outer:List Env)(s:Shared)(H:Hp)(E:XK):Cx where
 prog:=P
 w:=w
 K:=K
 mg:=mg
 base:=base
 A:=A.deeper (envOfC qual scope s.heap.objs.size f cd)
 N:=N
 s₀ := s
 H₀ := H
 env:=envOfC qual scope s.heap.objs.size f cd
 outer:=outer
 stack:=envOfC qual scope s.heap.objs.size f cd::outer
 ex:=[]
 calm:=true
 fn:=λ_=>true
 pn:=[]
 xe:=λe s'=>wpAny (model P w) (A.deeper (envOfC qual scope s.heap.objs.size f cd)) (leaving (envOfC qual scope s.heap.objs.size f cd) e) (λ_ s''=>CX outer H s E e s'') (λe' s''=>CX outer H s E e' s'') s'
theorem Qs{sc:Scope}{n:Nat}{x:Str}(h:sc.names.lookup x=some .cell):∃c,(cellsFrom n sc.names []).lookup x=some c:=by
 have q:=PySem.W.cellsFrom_some sc.names n [] (.inl h)
 exact Option.isSome_iff_exists.mp q
theorem YK{CX:lK}{P:Program}{w:World}{K:FZ}{mg:Str->Option Value}{base:Heap}{N ps:List Str}{qual:Str}{scope:Scope}{f:Addr}{cd:Value}{A:Around}{outer:List Env}{s s1:Shared}{H:Hp}{E:XK}{us:List Value}{vs:List V}
  (S:uf N ps scope) (hd:A.handled=none) (e0:BP P w K mg base A outer s H) (hl:vs.length=ps.length) (r:Vals vs us)
  (x:InCallC s s.heap.objs.size (bindL (envOfC qual scope s.heap.objs.size f cd).kindOf (ps.zip us) λ_=>none) (cellsFrom (s.heap.objs.size+1) scope.names []) (bindC (envOfC qual scope s.heap.objs.size f cd).kindOf (ps.zip us) λ_=>none) s1) :
  Inv (mJ CX P w K mg base N qual scope f cd A outer s H E) [] (start N vs) H s1:=by
 have hpl:ps.length<=N.length:=by have:=congrArg List.length S.pre; rw[List.length_take]at this; omega
 obtain⟨h1,tk,rfl,hk⟩:=x.done
 have yS:∀b:Addr,b∉(mJ CX P w K mg base N qual scope f cd A outer s H E).ex:=λb z=>absurd (show b∈([]:List Addr)from z) (by simp)
 refine⟨⟨e0.mod,S.kind,rfl,rfl,Nat.le_refl _,λy z c h1 h2=>?_,λy hy=>?_,λy c _ h=>?_,λ_=>hd,Around.frames_deeper e0.frames,.inr ⟨rfl,rfl⟩,λb z=>absurd z (yS b),e0.bs,e0.rE,λb _ _=>yS b,λb z=>absurd z (yS b),e0.mD,e0.rF⟩,
  rfl,e0.bare,Un.kept hk,⟨_,x.toInCall.ns,λi y v h1 h2 h3=>?_⟩,λy c h=>⟨_,x.cell y c h⟩,e0.hok.fresh (Nat.le_refl _),λy c h=>?_,λp hp=>absurd (show p∈([]:List (Addr × Obj))from hp) (by simp),e0.hok.kept hk,?_⟩
 ·exact name_of_addr x.apart (PySem.mem_of_lookup h1) (PySem.mem_of_lookup h2)
 ·have hy:scope.names.lookup y=some .cell\/scope.names.lookup y=some .free:=hy
  rcases hy with hy|hy
  ·exact Qs hy
  ·exact absurd rfl (S.Ht _ (PySem.mem_of_lookup hy))
 ·exact Nat.le_of_lt (x.above y c (PySem.mem_of_lookup h))
 ·have hi:i<vs.length:=by
   unfold start at h2
   by_cases hi:i<vs.length
   ·exact hi
   ·rw[List.getElem?_append_right (by simpa using hi)]at h2
    rw[List.getElem?_replicate]at h2
    split at h2 <;> cases h2
  have ha:vs[i]?=some v:=by
   unfold start at h2
   rw[List.getElem?_append_left (by simpa using hi),List.getElem?_map]at h2
   cases e:vs[i]? with
   |none=>rw[e]at h2; cases h2
   |some a=>rw[e]at h2; cases h2; rfl
  obtain⟨u,hu,rv⟩:=r.get ha
  have hp:ps[i]?=some y:=by
   rw[<-S.pre,List.getElem?_take_of_lt (by omega)]; exact h1
  have Qt:ps.Nodup:=by rw[<-S.pre]; exact S.nd.sublist (List.take_sublist _ _)
  refine⟨u,rv,?_⟩
  rcases S.par y (List.mem_of_getElem? hp)with k|k
  ·exact .inl ⟨k,Qp Qt hp hu k⟩
  ·obtain⟨c,e⟩:=Qs (n:=s.heap.objs.size+1) k
   refine .inr ⟨.inl k,c,e,?_⟩
   have q:=x.cell y c e
   rw[Qq Qt hp hu (by show scope.names.lookup y≠_; rw[k]; decide)]at q
   exact q
 ·exact e0.hok.fresh (Nat.le_of_lt (x.above y c (PySem.mem_of_lookup h)))
 ·unfold start
  show _=N.length
  rw[List.length_append,List.length_map,List.length_replicate]
  omega
theorem YL{CX:lK}{P:Program}{w:World}{K:FZ}{mg:Str->Option Value}{base:Heap}{k:Nat}{f:Addr}{name qual:Str}{params:Arguments}{body:List Stmt}{scope:Scope}{dV kV doc pm cdv ct oc:Value}{an od:Option Addr}
  {osl:Array (Option Value)} {N ps:List Str} {sp:Sp} (lk:K.lookup f=some ⟨oc,od,.func (PySem.W.fnOf name qual params body scope dV kV doc pm an cdv ct),osl⟩) (hcd:PySem.W.codeIn K cdv qual=true) (S:uf N ps scope)
  (len:∀vs H Q E,sp vs H Q E->vs.length=ps.length)
  (hbody:∀(A:Around) (outer:List Env) (s:Shared) (H:Hp) (vs:List V) (Q:VK) (E:XK),gP k (A.deeper (envOfC qual scope s.heap.objs.size f cdv))->sp vs H Q E ->
   ∃t,jX (mJ CX P w K mg base N qual scope f cdv A outer s H E) body t/\t {nx:=λ_ H'=>Q .non H',rt:=Q } (start N vs) H) :
  lM P w K mg base CX (k+1) f (PySem.W.fnOf name qual params body scope dV kV doc pm an cdv ct) ps sp:=by
 refine⟨len,λA outer s H args us vs Q E hr e0 hb r hsp=>?_⟩
 have hl:=len _ _ _ _ hsp
 have KX:K.In s.heap:=e0.mod.Br.keeps λb o e=>(e0.bs b o e).1
 have lim:s.heap.NoLimit:=e0.mod.nolimit.keeps λb o e=>(e0.bs b o e).1
 have hkind:∀y∈ps.zip us,scope.names.lookup y.1=some .local\/(scope.names.lookup y.1=some .cell/\((cellsFrom (s.heap.objs.size+1) scope.names []).lookup y.1).isSome=true):=λ⟨n,v⟩ hy=>by
  rcases S.par n (List.of_mem_zip hy).1 with q|q
  ·exact .inl q
  ·exact .inr ⟨q,PySem.W.cellsFrom_some _ _ _ (.inl q)⟩
 refine codeAny_call_function hr.depth (KX _ _ lk) rfl S.co S.gen rfl (PySem.W.codeRec_of KX hcd) (hb _ _ _ _ ?_)
 refine wpAny_newFunctionEnv_cells S.kind hkind λenv he s1 x=>?_
 subst he
 refine⟨lim.keeps x.toInCall.keep,codeAny_func ?_⟩
 obtain⟨t,ht,hq⟩:=hbody A outer s H vs Q E (hr.deeper _) hsp
 have I:Inv (mJ CX P w K mg base N qual scope f cdv A outer s H E) [] (start N vs) H s1:=YK S hr.hd e0 hl r x
 refine wpAny_mono (ht [] s1 (start N vs) H _ I hq) (λfl s' hs=>?_) λe s' hs=>hs
 have fin:∀{σ':St} {H':Hp} {v:V} {u:Value},Inv (mJ CX P w K mg base N qual scope f cdv A outer s H E) [] σ' H' s'->RelV v u->Q v H'->CE outer P w H s Q u s' :=
  λ{σ' H' v u} J rv q=>⟨v,H',J.os,J.bare,J.base,J.hok,rv,q⟩
 cases fl with
 |ret u =>
  obtain⟨v,σ',H',J,rv,q⟩:=hs
  exact fin J rv q
 |next =>
  obtain⟨σ',H',J,q⟩:=hs
  exact fin (v:=V.non) (u:=Value.none) J rfl q
 |brk =>
  obtain⟨_,_,_,q⟩:=hs
  exact False.elim q
 |cont =>
  obtain⟨_,_,_,q⟩:=hs
  exact False.elim q
end L2
namespace L2
open PySem PySem.Spec PyProof.Rows
section
variable {X:Cx}{x:Str}{p pos:Pos}{e:Expr}{es:List Expr}{t:TA}{id T:String}{r:List V->Hp->VK->Prop}
def jh(r:List V->Hp->VK->Prop)(t:TA):TE:=λσ H Q=>t σ H λvs H1=>r vs H1 Q
theorem BR(hc:g8 X (.builtin id) r)(hg:Gl X x)(hm:X.mg x=none)(hv:bootBuiltins x=some (.builtin id))(ha:PA X (e::es) t)(hn:x ≠ "__name__" := by decide) (hdb:(x == ("__debug__" : Str))=false:=by decide)
  (he:starEach (e::es) X.env=(false,eval e X.env)::starEach es X.env:=by rfl) (hpl:(backTo pos (starEach es X.env)).any (·.1)=false:=by rfl):PE X (.Call (.Name x p) (e::es) [] pos) (jh r t):=by
 refine⟨λpins s σ H Q I h=>?_⟩
 refine wpAny_Call_Name_kw (vL I hg hm hv ?_ hn hdb)
 exact PyProof.Rows.callWith_builtin1 (bJ (ha pos pins s σ H _ I h) λus s1 ⟨vs,H1,I1,r1,q1⟩=>hc pins s1 σ H1 vs us Q I1 r1 q1) he hpl
theorem YM(hc:g8 X (.type T) r)(hg:Gl X x)(hm:X.mg x=none)(hv:bootBuiltins x=some (.type T))(ha:PA X (e::es) t)(hn:x ≠ "__name__" := by decide) (hdb:(x == ("__debug__" : Str))=false:=by decide)
  (he:starEach (e::es) X.env=(false,eval e X.env)::starEach es X.env:=by rfl) (hpl:(backTo pos (starEach es X.env)).any (·.1)=false:=by rfl):PE X (.Call (.Name x p) (e::es) [] pos) (jh r t):=by
 refine⟨λpins s σ H Q I h=>?_⟩
 refine wpAny_Call_Name_kw (vL I hg hm hv ?_ hn hdb)
 exact PyProof.Rows.callWith_type1 (bJ (ha pos pins s σ H _ I h) λus s1 ⟨vs,H1,I1,r1,q1⟩=>hc pins s1 σ H1 vs us Q I1 r1 q1) he hpl
end
end L2
namespace HT
open PySem PyProof.Rows
def lexLt:List Int->List Int->Bool
 | [],[]=>false
 | [],_::_=>true
 |_::_,[]=>false
 |x::xs,y::ys=>if x=y then lexLt xs ys else decide (x<y)
theorem YQ(x y:Int)(xs ys:List Int):lexLt (x::xs) (y::ys)=if x=y then lexLt xs ys else decide (x<y):=rfl
theorem YS:lexLt [] []=false:=rfl
theorem YT(y:Int)(ys:List Int):lexLt [] (y::ys)=true:=rfl
theorem YW(x:Int)(xs:List Int):lexLt (x::xs) []=false:=rfl
theorem YX(A:Around)(s:Shared)(a:Int)(t:Tok)(c:Int)(u:Tok):∃e,SeqAt.EqAt A s (.int a t) (.int c u) e/\(e=true↔a=c) :=
 ⟨(a == c),SeqAt.EqAt.int_int a t c u,by simp⟩
theorem YZ(A:Around)(s:Shared)(a:Int)(t:Tok)(c:Int)(u:Tok)(prog:Program)(w:World)(E:Value->Shared->Prop)(Q:Value->Shared->Prop)(h:Q (.bool (decide (a<c))) s) :
  wpAny (model prog w) A (richCompare .Lt (.int a t) (.int c u)) Q E s :=
 (PyProof.Rows.lt_int h:wpAny (model prog w) A (compareOp .Lt (.int a t) (.int c u)) Q E s)
section
open PySem.SeqAt
open PySem.AutoSeq1 (wpAny_loadPart')
open PySem.MeetsSeq PySem.MeetsSeq2 PySem.MeetsSeq3
theorem Y0(l b:Addr)(items items2:Array Value)(n n2:Nat)(dd dd2:Option Addr)(sl sl2:Array (Option Value))(ns ms:List Int)(hi:IntsAre items.toList ns)(hj:IntsAre items2.toList ms) :
  Meets (Builtin.«tuple.__lt__» ⟨[.ref l,.ref b],[]⟩)
   (λ_ R s=>s.heap.get? l=some {cls:=.type "tuple",dict:=dd,data:=.seq items n,slots:=sl }∧s.heap.get? b=some {cls:=.type "tuple",dict:=dd2,data:=.seq items2 n2,slots:=sl2 } ∧
    R (.ok (.ret (.bool (lexLt ns ms)))) s) :=
 .of_wp λprog w A R s h=>by
  obtain⟨hp,g,d,tk,os⟩:=s; obtain⟨hl,hb,h⟩:=h
  have f2:=AutoSeq1.sub_tuple_tuple
  have z1:items.size=ns.length:=by rw[<-hi.length]; simp
  have z2:items2.size=ms.length:=by rw[<-hj.length]; simp
  wp_walk using wpAny_loadPart' hl,wpAny_loadPart' hb,wpAny_forIn_list _ (λrest b s'=>b.1=none/\s'=⟨hp,g,d,tk,os⟩/\∃(vs ws:List Value) (ns' vQ:List Int),rest=vs.zip ws /\
   IntsAre vs ns'/\IntsAre ws vQ/\ns'.length+items2.size=vQ.length+items.size/\R (.ok (.ret (.bool (lexLt ns' vQ)))) ⟨hp,g,d,tk,os⟩) _
  case turn =>
   rintro⟨y,x⟩ rest b s' ⟨hb',rfl,vs,ws,ns',vQ,hz,Hu,hwi,hlen,hR⟩
   cases Hu with
   |nil=>rw[List.zip_nil_left]at hz; cases hz
   |cons a t Y4 =>
    cases hwi with
    |nil=>rw[List.zip_nil_right]at hz; cases hz
    |cons c u Y5 =>
     rw[List.zip_cons_cons]at hz
     injection hz with hyx hrest
     injection hyx with hy hx
     subst hy hx
     rw[YQ]at hR
     simp only[List.length_cons]at hlen
     obtain⟨e,he,hiff⟩:=YX A.in1 ⟨hp,g,d,tk,os⟩ a t c u
     refine wpAny_bind (he prog w _ _ ?_)
     cases e with
     |true =>
      rw[if_pos (hiff.mp rfl)]at hR
      wp_walk
      exact⟨rfl,rfl,_,_,_,_,hrest,Y4,Y5,by omega,hR⟩
     |false =>
      rw[if_neg (λq=>absurd (hiff.mpr q) Bool.false_ne_true)]at hR
      have Y6:=YZ A.in1 ⟨hp,g,d,tk,os⟩ a t c u prog w
      wp_walk using Y6
      exact⟨_,rfl,by simpa using hR⟩
  case fin =>
   rintro⟨b1,b2⟩ s' ⟨hb',rfl,vs,ws,ns',vQ,hz,Hu,hwi,hlen,hR⟩
   simp only at hb'
   subst hb'
   have hv:lexLt ns' vQ=decide (items.size<items2.size):=by
    cases Hu with
    |nil =>
     cases hwi with
     |nil =>
      simp only[List.length_nil]at hlen
      rw[YS]
      exact(decide_eq_false (by omega)).symm
     |cons c u hw =>
      simp only[List.length_nil,List.length_cons]at hlen
      rw[YT]
      exact(decide_eq_true (by omega)).symm
    |cons a t hv =>
     cases hwi with
     |nil =>
      simp only[List.length_nil,List.length_cons]at hlen
      rw[YW]
      exact(decide_eq_false (by omega)).symm
     |cons c u hw =>
      rw[List.zip_cons_cons]at hz
      cases hz
   rw[hv]at hR
   wp_walk
   exact⟨_,rfl,by simpa[Builtin.Tuple.tupleCompareSizes]using hR⟩
  case h =>
   exact⟨rfl,rfl,items.toList,items2.toList,ns,ms,rfl,hi,hj,by omega,h⟩
end
section
variable {prog:Program}{w:World}{A:Around}{E:Value->Shared->Prop}{s:Shared}
theorem Y7{l b:Addr}{items items2:Array Value}{ns ms:List Int}{Q:Value->Shared->Prop}(hl:IsTup s.heap l items)(hb:IsTup s.heap b items2)(hi:IntsAre items.toList ns)(hj:IntsAre items2.toList ms)
  (hu:A.units<cLine) (h:Q (.bool (lexLt ns ms)) s):wpAny (model prog w) A (compareOp .Lt (.ref l) (.ref b)) Q E s:=by
 obtain⟨⟨cls,dd,data,sl⟩,ho,hc,n,hd⟩:=id hl
 obtain⟨⟨cls2,dd2,data2,sl2⟩,ho2,hc2,n2,hd2⟩:=id hb
 simp only at hc hd hc2 hd2
 subst hc hd hc2 hd2
 exact richCompare_meets_room (op:=.Lt) ⟨_,ho,rfl⟩ ⟨_,ho2,rfl⟩ PySem.F.slot_tuple_lt PySem.F.entry_tuple_lt (PySem.F.args_tuple_lt_2 _ _) (Y0 l b items items2 n n2 dd dd2 sl sl2 ns ms hi hj)
  ⟨ho,ho2,show Value.bool (lexLt ns ms)≠Value.notImplemented/\Q (.bool (lexLt ns ms)) s from⟨(λx=>nomatch x),h⟩⟩ hu
theorem Y8{t b:Addr}{vs ws:List Value}{Q:Value->Shared->Prop}(ht:IsTup s.heap t vs.toArray)(hb:IsTup s.heap b ws.toArray)(hv:vs≠[])
  (h1:ws=[]->Q (.ref t) s) (h2:ws≠[]->Q (.ref s.heap.objs.size) {s with heap:=s.heap.push {cls:=.type "tuple",data:=.seq (vs++ws).toArray } })
  (hsz:vs.length+ws.length<=sizeLine):wpAny (model prog w) A (binaryOp .Add (.ref t) (.ref b)) Q E s:=by
 obtain⟨⟨cls,dd,data,sl⟩,ho,hc,n,hd⟩:=id ht
 obtain⟨⟨cls2,dd2,data2,sl2⟩,ho2,hc2,n2,hd2⟩:=id hb
 simp only at hc hd hc2 hd2
 subst hc hd hc2 hd2
 have e:vs.toArray++ws.toArray=(vs++ws).toArray:=by simp
 by_cases hw:ws=[]
 ·exact concat_meets ⟨_,ho,rfl⟩ ⟨_,ho2,rfl⟩ noFill_tuple_add seq_tuple_add PySem.F.slot_tuple_add PySem.F.entry_tuple_add (PySem.F.args_tuple_add_2 _ _)
   (tuple_addW1 t b vs.toArray ws.toArray n n2 dd dd2 sl sl2 (by simpa using hv) (by simp[hw])) ⟨ho,ho2,h1 hw⟩
 ·refine concat_meets ⟨_,ho,rfl⟩ ⟨_,ho2,rfl⟩ noFill_tuple_add seq_tuple_add PySem.F.slot_tuple_add PySem.F.entry_tuple_add (PySem.F.args_tuple_add_2 _ _)
   (tuple_addW2 t b vs.toArray ws.toArray n n2 dd dd2 sl sl2 (by simpa using hv) (by simpa using hw) (by rw[List.size_toArray,List.size_toArray]; exact hsz)) ⟨ho,ho2,?_⟩
  rw[e]
  exact h2 hw
def cC(n d:Nat):Option Int->Nat
 |none=>d
 |some v=>if v<0 then(v+(n:Int)).toNat else min v.toNat n
theorem Y9(n d:Nat)(hd:d<=n)(o:Option Int):cC n d o<=n:=by
 cases o with
 |none=>exact hd
 |some v =>
  show(if v<0 then(v+(n:Int)).toNat else min v.toNat n)<=n
  by_cases hv:v<0
  ·rw[if_pos hv]; omega
  ·rw[if_neg hv]; exact Nat.min_le_right _ _
theorem Qu(v:Int)(n d:Nat):(if v<0 then max (v+(n:Int)) 0 else min v (n:Int))=((cC n d (some v):Nat):Int):=by
 show(if v<0 then max (v+(n:Int)) 0 else min v (n:Int))=(((if v<0 then(v+(n:Int)).toNat else min v.toNat n):Nat):Int)
 by_cases hv:v<0
 ·simp only[if_pos hv]; omega
 ·simp only[if_neg hv]; omega
theorem Za(lo hi:Option Int)(n:Nat):Builtin.Slice.sliceAdjust lo hi 1 (n:Int)=(((cC n 0 lo:Nat):Int),((cC n n hi:Nat):Int)):=by
 have h1:¬((1:Int)<0):=by omega
 unfold Builtin.Slice.sliceAdjust
 simp only[h1,if_false]
 refine Prod.ext ?_ ?_
 ·cases lo with
  |none=>rfl
  |some v=>exact Qu v n 0
 ·cases hi with
  |none=>rfl
  |some v=>exact Qu v n n
theorem Zb(i j:Nat):Builtin.Slice.slicePlaces (i:Int) (j:Int) 1=j-i:=by
 unfold Builtin.Slice.slicePlaces
 have h1:(1:Int) > 0:=by omega
 simp only[h1,if_true,Int.ediv_one]
 split <;> omega
theorem Qv{v:Value}{o:Option Int}{Q:Option Int->Shared->Prop}(p:IsPart v o)(h:Q o s):wpAny (model prog w) A (Builtin.Slice.slicePartIndex v) Q E s:=by
 cases p with
 |none=>exact slicePart_none h
 |int i t=>exact slicePart_int h
theorem Zc{sl:Addr}{vl vu:Value}{lo hi:Option Int}{n:Nat}{Q:Int × Int × Nat->Shared->Prop}(hs:s.heap.IsSliceOf sl vl vu .none)(pl:IsPart vl lo)(pu:IsPart vu hi)
  (h:Q (((cC n 0 lo:Nat):Int),1,cC n n hi-cC n 0 lo) s):wpAny (model prog w) A (Builtin.Slice.sliceApplied (.ref sl) (pure (n:Int))) Q E s:=by
 obtain⟨os,hos,hcs,hds⟩:=id hs
 unfold Builtin.Slice.sliceApplied Builtin.Slice.sliceFields
 refine wpAny_bind (wpAny_bind (wpAny_field hos hds (x:=vl) rfl (wpAny_bind (wpAny_field hos hds (x:=vu) rfl (wpAny_bind (wpAny_field hos hds (x:=.none) rfl (wpAny_pure ?_)))))))
 refine wpAny_bind (slicePart_none ?_)
 show wpAny _ _ (if((1:Int) == 0)=true then _ else _) _ _ s
 rw[if_neg (by decide)]
 refine wpAny_bind (Qv pl (wpAny_bind (Qv pu (wpAny_bind (wpAny_pure ?_)))))
 show wpAny _ _ (match Builtin.Slice.sliceAdjust lo hi 1 (n:Int)with|(lo,hi)=>pure (lo,(1:Int),Builtin.Slice.slicePlaces lo hi 1)) _ _ s
 rw[Za lo hi n]
 show wpAny _ _ (pure (((cC n 0 lo:Nat):Int),(1:Int),Builtin.Slice.slicePlaces ((cC n 0 lo:Nat):Int) ((cC n n hi:Nat):Int) 1)) _ _ s
 rw[Zb]
 exact wpAny_pure h
theorem Zd(xs:Array Value)(i k:Nat):((List.range k).filterMap λ(m:Nat)=>xs[((i:Int)+(m:Int)*1).toNat]?).toArray=((xs.toList.drop i).take k).toArray:=by
 have e:(λ(m:Nat)=>xs[((i:Int)+(m:Int)*1).toNat]?)=λm=>xs[i+m]? := by
  funext m
  have:((i:Int)+(m:Int)*1).toNat=i+m:=by omega
  rw[this]
 rw[e]
 have:=pick_run xs i k
 rw[List.filterMap_map]at this
 have e2:((λx=>xs[x]?) ∘ λx=>i+x)=λm=>xs[i+m]? := rfl
 rw[e2]at this
 rw[this]
theorem Ze{t sl:Addr}{items:Array Value}{vl vu:Value}{lo hi:Option Int}{Q:Value->Shared->Prop}(ht:IsTup s.heap t items)(hs:s.heap.IsSliceOf sl vl vu .none)(pl:IsPart vl lo)(pu:IsPart vu hi)
  (hw:¬(cC items.size 0 lo=0/\cC items.size items.size hi=items.size))
  (h:Q (.ref s.heap.objs.size) {s with heap:=s.heap.push {cls:=.type "tuple",data:=.seq ((items.toList.drop (cC items.size 0 lo)).take (cC items.size items.size hi-cC items.size 0 lo)).toArray } })
  (hsz:items.size<=sizeLine):wpAny (model prog w) A (getItem (.ref t) (.ref sl)) Q E s:=by
 have BW:sizeOk (.seq ((items.toList.drop (cC items.size 0 lo)).take (cC items.size items.size hi-cC items.size 0 lo)).toArray):=by
  show((items.toList.drop (cC items.size 0 lo)).take (cC items.size items.size hi-cC items.size 0 lo)).toArray.size<=sizeLine
  rw[List.size_toArray,List.length_take,List.length_drop,Array.length_toList]
  omega
 have hj:cC items.size items.size hi<=items.size:=Y9 _ _ (Nat.le_refl _) hi
 obtain⟨os,hos,hcs,hds⟩:=id hs
 have hTs:s.TypeIs (.ref sl) "slice" := ⟨os,hos,hcs⟩
 unfold getItem
 try with_reducible refine wpAny_holding ?_
 first|refine wpAny_bind (wpAny_pure ?_)|skip
 refine wpAny_bind (wpAny_sequenceKey ht.typeIs (by decide) ?_)
 refine wpAny_bind (wpAny_callSpecial?_slot (name:=Str.ofString "__getitem__") ht.typeIs PyProof.Rows.slot_tuple_getitem
  (wpAny_call_entry PyProof.Rows.slot_tuple_getitem ht.typeIs entry_tuple_getitem ?_ (args_tuple_getitem _ _)))
 show wpAny _ _ (Builtin.Tuple.tupleItemsOf (.ref t) >>= _) _ _ s
 refine wpAny_bind (tupleItemsOf_ ht ?_)
 refine wpAny_bind (wpAny_typeOf hTs ?_)
 rw[if_pos (by decide)]
 refine wpAny_bind (Zc hs pl pu ?_)
 have hno:¬((((cC items.size 0 lo:Nat):Int) == 0&&(1:Int) == 1&&(cC items.size items.size hi-cC items.size 0 lo) == items.size)=true):=by
  intro q
  rw[Bool.and_eq_true,Bool.and_eq_true]at q
  have q1:((cC items.size 0 lo:Nat):Int)=0:=eq_of_beq q.1.1
  have q2:cC items.size items.size hi-cC items.size 0 lo=items.size:=eq_of_beq q.2
  exact hw ⟨by omega,by omega⟩
 show wpAny _ _ (if(((cC items.size 0 lo:Nat):Int) == 0&&(1:Int) == 1&&(cC items.size items.size hi-cC items.size 0 lo) == items.size)=true then _ else _) _ _ s
 rw[if_neg hno,Zd]
 first
  |exact wpAny_bind (m:=Builtin.Tuple.tupleExact _) (wpAny_newObj_type (wpAny_pure ⟨_,rfl,wpAny_pure h⟩) BW)
  |exact wpAny_bind (m:=Builtin.Tuple.tupleExact _) (wpAny_newObj_type (wpAny_bind (wpAny_pure (wpAny_pure ⟨_,rfl,wpAny_pure h⟩))) BW)
  |exact wpAny_bind (wpAny_bind (m:=Builtin.Tuple.tupleExact _) (wpAny_newObj_type (wpAny_pure (wpAny_pure ⟨_,rfl,wpAny_pure h⟩)) BW))
  |exact wpAny_bind (wpAny_bind (m:=Builtin.Tuple.tupleExact _) (wpAny_newObj_type (wpAny_pure ⟨_,rfl,wpAny_pure h⟩) BW))
end
end HT
namespace L2
open PySem PySem.Spec PyProof.Rows
abbrev TO:=St->Hp->(Option Int->Hp->Prop)->Prop
noncomputable def PO(X:Cx)(e:Option Expr)(t:TO):Prop :=
 ∀(pins:List (Addr × Obj)) (s:Shared) (σ : St) (H:Hp) (Q:Option Int->Hp->Prop),Inv X pins σ H s->t σ H Q ->
  wpAny (model X.prog X.w) X.A (evalPart e X.env) (λu s'=>∃o H',Inv X pins σ H' s'/\IsPart u o/\Q o H') X.xe s
def Qw:TO:=λ_ H Q=>Q none H
def Qx(t:TE):TO:=λσ H Q=>t σ H λx H1=>∃i,x=.int i/\Q (some i) H1
theorem intsAre_of{ns:List Int}:∀{us:List Value},Vals (ns.map V.int) us->IntsAre us ns:=by
 induction ns with
 |nil=>intro us r; rw[List.map_nil]at r; cases r; exact .nil
 |cons n ns ih =>
  intro us r
  rw[List.map_cons]at r
  cases r with
  |cons r1 r2 =>
   obtain⟨t,e⟩:=r1
   subst e
   exact .cons n t (ih r2)
section
variable {X:Cx}{e:Expr}{te:TE}{lo hi:Option Expr}{tl th:TO}{pos p2:Pos}
theorem mK:PO X none Qw:=by
 intro pins s σ H Q I h
 rw[evalPart_none]
 exact wpAny_pure ⟨none,H,I,.none,h⟩
theorem mL(h:PE X e te):PO X (some e) (Qx te):=by
 intro pins s σ H Q I hw
 rw[evalPart_some]
 refine bJ (h pins s σ H _ I hw) λu s1 ⟨x,H1,I1,r1,q1⟩=>?_
 obtain⟨i,rfl,q⟩:=q1
 obtain⟨t,rfl⟩:=r1
 exact⟨some i,H1,I1,.int i t,q⟩
noncomputable def nY(X:Cx)(r:V->Option Int->Option Int->Hp->VK->Prop):Prop :=
 ∀(pins:List (Addr × Obj)) (s:Shared) (σ : St) (H:Hp) (x:V) (v vl vu:Value) (lo hi:Option Int) (sl:Addr) (Q:VK),Inv X pins σ H s->RelV x v->s.heap.IsSliceOf sl vl vu .none->IsPart vl lo->IsPart vu hi->r x lo hi H Q ->
  ∃T id,typeLookup (.type T) "__getitem__" = pure (some (.builtin id))/\s.TypeIs v T/\wpAny (model X.prog X.w) X.A (getItem v (.ref sl)) (EP X pins σ Q) X.xe s
theorem nY.or{r r':V->Option Int->Option Int->Hp->VK->Prop}(h:nY X r)(h':nY X r'):nY X (λx lo hi H Q=>r x lo hi H Q\/r' x lo hi H Q):=by
 intro pins s σ H x v vl vu lo hi sl Q I rx hs pl pu q
 rcases q with q|q
 ·exact h pins s σ H x v vl vu lo hi sl Q I rx hs pl pu q
 ·exact h' pins s σ H x v vl vu lo hi sl Q I rx hs pl pu q
def Qy(r:V->Option Int->Option Int->Hp->VK->Prop)(te:TE)(tl th:TO):TE:=λσ H Q=>te σ H λx H1=>tl σ H1 λl H2=>th σ H2 λu H3=>r x l u H3 Q
theorem mO{r:V->Option Int->Option Int->Hp->VK->Prop}(hr:nY X r)(he:PE X e te)(hl:PO X lo tl)(hu:PO X hi th):PE X (.Subscript e (.Slice lo hi none p2) pos) (Qy r te tl th):=by
 refine⟨λpins s σ H Q I h=>?_⟩
 refine Subscript_ (bJ (he pins s σ H _ I h) λv s1 ⟨x,H1,I1,r1,q1⟩=>?_)
 refine wpAny_Slice (bJ (hl pins s1 σ H1 _ I1 q1) λvl s2 ⟨l,H2,I2,pl,q2⟩=>bJ (hu pins s2 σ H2 _ I2 q2) λvu s3 ⟨u,H3,I3,pu,q3⟩=>?_)
 rw[evalPart_none]
 refine wpAny_pure ?_
 have I4:Inv X pins σ H3 {s3 with heap:=s3.heap.push {cls:=.type "slice",data:=.fields #[vl,vu,.none] } }:=I3.kept (t':=s3.toks) λb ob q=>Heap.get?_push_of_some _ q
 obtain⟨T,id,hT,ht,hg⟩:=hr pins {s3 with heap:=s3.heap.push {cls:=.type "slice",data:=.fields #[vl,vu,.none] } } σ H3 x v vl vu l u s3.heap.objs.size Q I4 r1 (Heap.IsSliceOf.new ..) pl pu q3
 show wpAny (model X.prog X.w) X.A (subscriptTail e (.Slice lo hi none p2) v (.ref s3.heap.objs.size)) (EP X pins σ Q) X.xe {s3 with heap:=s3.heap.push {cls:=.type "slice",data:=.fields #[vl,vu,.none] } }
 exact tail_any (ops:=[.ref s3.heap.objs.size,v]) ht hT hg (by with_unfolding_all rfl)
def rW(xs:List V)(lo hi:Option Int):List V:=(xs.drop (HT.cC xs.length 0 lo)).take (HT.cC xs.length xs.length hi-HT.cC xs.length 0 lo)
theorem Qz(xs:List V)(lo hi:Option Int):(rW xs lo hi).length<=xs.length:=by
 unfold rW
 rw[List.length_take,List.length_drop]
 omega
def QB(K:FZ):V->Option Int->Option Int->Hp->VK->Prop:=λx lo hi H Q=>∃a xs,x=.ref a/\dZ K H a xs /\
 ¬(HT.cC xs.length 0 lo=0/\HT.cC xs.length xs.length hi=xs.length)/\∀p,H p=none->Q (.ref p) (upd H p (.tup (rW xs lo hi)))
theorem Zf:nY X (QB X.K):=by
 intro pins s σ H x v vl vu lo hi sl Q I rx hs pl pu h
 obtain⟨a,xs,rfl,hx,hw,q⟩:=h
 cases rx
 obtain⟨its,r,ht,hz⟩:=I.tuple hx
 have hlen:its.toArray.size=xs.length:=by rw[List.size_toArray]; exact r.length.symm
 refine⟨"tuple",_,PyProof.Rows.slot_tuple_getitem.lookup,ht.typeIs,?_⟩
 refine HT.Ze ht hs pl pu (by rw[hlen]; exact hw) ?_ (by rw[hlen]; exact hz)
 rw[hlen]
 refine⟨.ref s.heap.objs.size,_,I.laid (t':=s.toks) (o:=.tup (rW xs lo hi)) (λb ob q=>Heap.get?_push_of_some _ q) (Nat.le_refl _) ?_,rfl,q _ (I.hok.fresh (Nat.le_refl _))⟩
 exact⟨Nat.le_trans (Qz xs lo hi) hz,_,(r.drop (HT.cC xs.length 0 lo)).take (HT.cC xs.length xs.length hi-HT.cC xs.length 0 lo),IsTup.new _ _⟩
def QC(K:FZ):R2:=λx y H Q=>∃a b ns ms,x=.ref a/\y=.ref b/\dZ K H a (ns.map V.int)/\dZ K H b (ms.map V.int)/\Q (.bl (HT.lexLt ns ms)) H
theorem Zg(hu:X.A.units<cLine):c7 X (compareOp .Lt) (QC X.K):=by
 intro pins s σ H x y v u Q I rx ry h
 obtain⟨a,b,ns,ms,rfl,rfl,ha,hb,q⟩:=h
 cases rx
 cases ry
 obtain⟨its,r1,p1,_⟩:=I.tuple ha
 obtain⟨its2,r2,p2,_⟩:=I.tuple hb
 have i1:IntsAre its.toArray.toList ns:=intsAre_of r1
 have i2:IntsAre its2.toArray.toList ms:=intsAre_of r2
 exact HT.Y7 p1 p2 i1 i2 hu ⟨.bl (HT.lexLt ns ms),H,I,rfl,q⟩
def QD(K:FZ):R2:=λx y H Q=>∃a b xs ys,x=.ref a/\y=.ref b/\dZ K H a xs/\dZ K H b ys/\xs≠[]/\xs.length+ys.length<=sizeLine /\
 (ys=[]->Q (.ref a) H)/\(ys≠[]->∀p,H p=none->Q (.ref p) (upd H p (.tup (xs++ys))))
theorem Vals.Hv{xs:List V}{us:List Value}(r:Vals xs us):us=[]↔xs=[]:=by
 cases r with
 |nil=>simp
 |cons _ _=>simp
theorem Zh:c7 X (binaryOp .Add) (QD X.K):=by
 intro pins s σ H x y v u Q I rx ry h
 obtain⟨a,b,xs,ys,rfl,rfl,ha,hb,hx,hz,q1,q2⟩:=h
 cases rx
 cases ry
 obtain⟨its,r1,p1,_⟩:=I.tuple ha
 obtain⟨its2,r2,p2,_⟩:=I.tuple hb
 refine HT.Y8 p1 p2 (λz=>hx (r1.Hv.mp z)) (λz=>⟨.ref a,H,I,rfl,q1 (r2.Hv.mp z)⟩) (λz=>?_) (by rw[<-r1.length,<-r2.length]; exact hz)
 refine⟨.ref s.heap.objs.size,_,I.laid (t':=s.toks) (o:=.tup (xs++ys)) (λb ob q=>Heap.get?_push_of_some _ q) (Nat.le_refl _) ?_,rfl,q2 (λw=>z (r2.Hv.mpr w)) _ (I.hok.fresh (Nat.le_refl _))⟩
 exact⟨by rw[List.length_append]; exact hz,_,r1.append r2,IsTup.new _ _⟩
end
end L2
namespace L2
open PySem PySem.Spec PyProof.Rows
def dY(n:Nat)(i:Int):Option Nat:=if 0<=i then(if i<n then some i.toNat else none)else if -(n:Int)<=i then some (i+n).toNat else none
def cX{α : Type}(xs:List α)(i:Int):Option α := (dY xs.length i).bind λj=>xs[j]?
theorem QG{n:Nat}{i:Int}{j:Nat}(h:dY n i=some j):seqIndex? i n=some j/\j<n /\ -(n:Int)<=i/\i<n:=by
 unfold dY at h
 by_cases h0:0<=i
 ·rw[if_pos h0]at h
  by_cases h1:i<n
  ·rw[if_pos h1]at h
   have e:i.toNat=j:=Option.some.inj h
   exact⟨by rw[seqIndex_of h0 h1,e],by omega,by omega,h1⟩
  ·rw[if_neg h1]at h; cases h
 ·rw[if_neg h0]at h
  by_cases h1 : -(n:Int)<=i
  ·rw[if_pos h1]at h
   have e:(i+n).toNat=j:=Option.some.inj h
   exact⟨by rw[seqIndex_neg (by omega) h1,e],by omega,h1,by omega⟩
  ·rw[if_neg h1]at h; cases h
theorem Hw{α : Type}{xs:List α}{i:Int}{v : α}(h:cX xs i=some v):∃j,seqIndex? i xs.length=some j/\xs[j]?=some v/\j<xs.length /\ -(xs.length:Int)<=i/\i<xs.length:=by
 unfold cX at h
 cases e:dY xs.length i with
 |none=>rw[e]at h; cases h
 |some j =>
  rw[e]at h
  obtain⟨h1,h2,h3,h4⟩:=QG e
  exact⟨j,h1,h,h2,h3,h4⟩
def QH(b:Expr):Prop:=∀o i,subscripted b false o i=operate [o,i] (getItem o i)
noncomputable def qw(X:Cx)(r:R2):Prop :=
 ∀(value slice:Expr) (pins:List (Addr × Obj)) (s:Shared) (σ : St) (H:Hp) (x y:V) (v u:Value) (Q:VK),Inv X pins σ H s->RelV x v->RelV y u->r x y H Q ->
  subscripted slice false v u=operate [v,u] (getItem v u)->wpAny (model X.prog X.w) X.A (subscriptTail value slice v u) (EP X pins σ Q) X.xe s
noncomputable def QJ(X:Cx)(id:String)(r:V->List V->Hp->VK->Prop):Prop :=
 ∀(pins:List (Addr × Obj)) (s:Shared) (σ : St) (H:Hp) (x:V) (xs:List V) (v:Value) (us:List Value) (Q:VK),Inv X pins σ H s->RelV x v->Vals xs us->r x xs H Q ->
  wpAny (model X.prog X.w) X.A (call (.builtin id) (v::us)) (EP X pins σ Q) X.xe s
section
variable {X:Cx}{a b:Expr}{ta tb:TE}{pos:Pos}
theorem qw.or{r r':R2}(h:qw X r)(h':qw X r'):qw X (λx y H Q=>r x y H Q\/r' x y H Q):=by
 intro value slice pins s σ H x y v u Q I rx ry q hs
 rcases q with q|q
 ·exact h value slice pins s σ H x y v u Q I rx ry q hs
 ·exact h' value slice pins s σ H x y v u Q I rx ry q hs
theorem yU{r:R2}(hr:qw X r)(ha:PE X a ta)(hb:PE X b tb)(hs:QH b):PE X (.Subscript a b pos) (iG r ta tb):=by
 refine⟨λpins s σ H Q I h=>?_⟩
 exact Subscript_ (Hh ha hb I h λv u s2 x y H2 I2 rx ry q=>hr a b pins s2 σ H2 x y v u Q I2 rx ry q (hs _ _))
def QK(K:FZ):R2:=λx y H Q=>∃p xs i v,x=.ref p/\y=.int i/\cJ K H p xs/\cX xs i=some v/\Q v H
def QL(K:FZ):R2:=λx y H Q=>∃p xs i v,x=.ref p/\y=.int i/\dZ K H p xs/\cX xs i=some v/\Q v H
def QM:R2:=λx y H Q=>∃z i c,x=.str z/\y=.int i/\z.length<=sizeLine/\cX z.cps.toList i=some c/\Q (.str ⟨#[c]⟩) H
theorem Zi:qw X (QK X.K):=by
 intro value slice pins s σ H x y v u Q I rx ry h hs
 obtain⟨p,xs,i,z,rfl,rfl,hq,he,q⟩:=h
 cases rx
 obtain⟨t,rfl⟩:=ry
 obtain⟨its,r,pl,hz⟩:=I.list hq
 obtain⟨j,h1,h2,h3,h4,h5⟩:=Hw he
 obtain⟨w,ew,nU⟩:=r.get h2
 have hl:=r.length
 have hn:=ud
 have fin:EP X pins σ Q w s:=⟨z,H,I,nU,q⟩
 by_cases h0:0<=i
 ·have hj:i.toNat=j:=by
   rw[seqIndex_of h0 h5]at h1
   exact Option.some.inj h1
  exact item_listR pl.isList h0 (by omega) (by rw[hj]; simpa using ew) fin hs
 ·have hj:(i+(its.toArray.size:Int)).toNat=j:=by
   rw[seqIndex_neg (by omega) h4]at h1
   rw[List.size_toArray,<-hl]
   exact Option.some.inj h1
  exact subscriptTail_builtinR (x:=w) pl.isList.typeIs slot_list_getitem.lookup
   (wpAny_getItem_list_neg (Q:=λr s'=>r=w/\EP X pins σ Q r s') pl.isList (by omega) (by rw[List.size_toArray] <;> omega) (by omega) (by rw[hj]; simpa using ew) ⟨rfl,fin⟩) hs
theorem Zj:qw X (QL X.K):=by
 intro value slice pins s σ H x y v u Q I rx ry h hs
 obtain⟨p,xs,i,z,rfl,rfl,hq,he,q⟩:=h
 cases rx
 obtain⟨t,rfl⟩:=ry
 obtain⟨its,r,pl,hz⟩:=I.tuple hq
 obtain⟨j,h1,h2,h3,h4,h5⟩:=Hw he
 obtain⟨w,ew,nU⟩:=r.get h2
 have hl:=r.length
 have hn:=ud
 have fin:EP X pins σ Q w s:=⟨z,H,I,nU,q⟩
 exact subscriptTail_builtinR (x:=w) pl.typeIs slot_tuple_getitem.lookup
  (getItem_tuple (j:=j) (Q:=λr s'=>r=w/\EP X pins σ Q r s') pl (by omega) (by omega) (by rw[List.size_toArray,<-hl]; exact h1) (by simpa using ew) ⟨rfl,fin⟩) hs
theorem Zk:qw X QM:=by
 intro value slice pins s σ H x y v u Q I rx ry h hs
 obtain⟨z,i,c,rfl,rfl,hz,he,q⟩:=h
 obtain⟨t,rfl⟩:=rx
 obtain⟨t',rfl⟩:=ry
 obtain⟨j,h1,h2,h3,h4,h5⟩:=Hw he
 have hl:z.cps.toList.length=z.length:=by simp[Str.length]
 rw[hl]at h1 h4 h5
 have hn:=ud
 exact tail_any (typeIs_str s z t) slot_str_getitem.lookup (getItem_str (c:=c) (by
  have e1:decide (i < -(2 ^ 63:Int))=false:=decide_eq_false (by omega)
  have e2:decide (i >= 2 ^ 63)=false:=decide_eq_false (by omega)
  rw[e1,e2,Bool.or_false]) (by rw[h1]; simpa using h2) ⟨.str ⟨#[c]⟩,H,I.tok _,⟨_,rfl⟩,q⟩) hs
def BX(K:FZ):R2:=λx y H Q=>QK K x y H Q\/QL K x y H Q\/QM x y H Q
theorem yV:qw X (BX X.K):=Zi.or (Zj.or Zk)
theorem Zm(its:List Value)(n j:Nat)(u:Value):Obj.mapSeq (·.setIfInBounds j u) {cls:=.type "list",data:=.seq its.toArray n }={cls:=.type "list",data:=.seq (its.set j u).toArray n }:=by
 simp[Obj.mapSeq]
theorem Inv.lst{pins:List (Addr × Obj)}{σ : St}{H:Hp}{s:Shared}{p:Addr}{xs:List V}(I:Inv X pins σ H s)(h:H p=some (.lst xs)) :
  ∃(its:List Value) (n:Nat),Vals xs its/\s.heap.get? p=some {cls:=.type "list",data:=.seq its.toArray n }/\xs.length<=sizeLine:=by
 obtain⟨z,its,n,r,e⟩:=I.hok p _ h
 exact⟨its,n,r,e,z⟩
theorem Inv.Zn{pins:List (Addr × Obj)}{σ : St}{H:Hp}{s:Shared}{p:Addr}{xs ys:List V}{its its':List Value}{n n':Nat}{f:Obj->Obj}(I:Inv X pins σ H s)(h:H p=some (.lst xs))
  (ho:s.heap.get? p=some {cls:=.type "list",data:=.seq its.toArray n }) (hf:f {cls:=.type "list",data:=.seq its.toArray n }={cls:=.type "list",data:=.seq its'.toArray n' }) (r:Vals ys its') (hz:ys.length<=sizeLine) (t:Nat) :
  Inv X pins σ (upd H p (.lst ys)) {s with heap:=s.heap.update p f,toks:=t }:=by
 have e:(s.heap.update p f).get? p=some {cls:=.type "list",data:=.seq its'.toArray n' }:=by
  rw[Heap.get?_update_self f ho (by rw[hf] <;> rfl),hf]
 refine I.write (x:=p) (e:=p) (by rw[h]; trivial) (.inl rfl) (λb u hb q=>(Heap.get?_update_other _ _ (Ne.symm hb)).trans q) ⟨_,e⟩ ?_
 exact⟨hz,its',n',r,e⟩
def QS:V->V->V->Hp->(Hp->Prop)->Prop:=λo i v H Q=>∃p xs k j,o=.ref p/\i=.int k/\H p=some (.lst xs)/\dY xs.length k=some j/\Q (upd H p (.lst (xs.set j v)))
theorem set_list:Pq X QS:=by
 intro pins s σ H o i v ov iv u Q I ro ri rv h
 obtain⟨p,xs,k,j,rfl,rfl,hp,hj,q⟩:=h
 cases ro
 obtain⟨t,rfl⟩:=ri
 obtain⟨its,n,r,ho,hz⟩:=I.lst hp
 obtain⟨h1,h2,h3,h4⟩:=QG hj
 have hl:=r.length
 have hn:=ud
 have I':Inv X pins σ (upd H p (.lst (xs.set j v))) {s with heap:=s.heap.update p (Obj.mapSeq (·.setIfInBounds j u)) } :=
  I.Zn hp ho (Zm its n j u) (r.set rv j) (by rw[List.length_set]; exact hz) s.toks
 by_cases h0:0<=k
 ·have hk:k.toNat=j:=by
   rw[seqIndex_of h0 h4]at h1
   exact Option.some.inj h1
  exact PySem.W.ki_setAt ho h0 (by omega) (by rw[List.size_toArray,<-hl]; exact h4) (by rw[hk]; exact⟨_,I',q⟩)
 ·have hk:(k+(its.toArray.size:Int)).toNat=j:=by
   rw[seqIndex_neg (by omega) h3]at h1
   rw[List.size_toArray,<-hl]
   exact Option.some.inj h1
  exact PySem.W.ki_setBack ho (by omega) (by rw[List.size_toArray,<-hl]; exact h3) (by omega) (by rw[hk]; exact⟨_,I',q⟩)
theorem Zo(lo hi:Option Int)(n:Nat):(sliceBounds lo hi none n).1=((HT.cC n 0 lo:Nat):Int)/\(sliceBounds lo hi none n).2.1=((HT.cC n n hi:Nat):Int)/\(sliceBounds lo hi none n).2.2=1:=by
 refine⟨?_,?_,rfl⟩
 ·cases lo with
  |none=>simp[sliceBounds,HT.cC]
  |some i =>
   simp only[sliceBounds,HT.cC,Option.getD_none,show(1:Int) > 0 by decide,if_true]
   by_cases h:i<0
   ·simp only[h,if_true] <;> omega
   ·simp only[h,if_false] <;> omega
 ·cases hi with
  |none=>simp[sliceBounds,HT.cC]
  |some i =>
   simp only[sliceBounds,HT.cC,Option.getD_none,show(1:Int) > 0 by decide,if_true]
   by_cases h:i<0
   ·simp only[h,if_true] <;> omega
   ·simp only[h,if_false] <;> omega
theorem Zq(its:List Value)(lo hi:Option Int):slicePick its.toArray lo hi none=((its.drop (HT.cC its.length 0 lo)).take (HT.cC its.length its.length hi-HT.cC its.length 0 lo)).toArray:=by
 obtain⟨h1,h2,h3⟩:=Zo lo hi its.toArray.size
 unfold slicePick
 rw[h1,h2,h3]
 simp only[sliceRange_one,pick_run,List.size_toArray] <;> rfl
def QT(K:FZ):V->Option Int->Option Int->Hp->VK->Prop:=λx lo hi H Q=>∃a xs,x=.ref a/\cJ K H a xs/\∀p,H p=none->Q (.ref p) (upd H p (.lst (rW xs lo hi)))
theorem Zr:nY X (QT X.K):=by
 intro pins s σ H x v vl vu lo hi sl Q I rx hs pl pu h
 obtain⟨a,xs,rfl,hx,q⟩:=h
 cases rx
 obtain⟨its,r,ht,hz⟩:=I.list hx
 have hlen:=r.length
 refine⟨"list",_,slot_list_getitem.lookup,ht.isList.typeIs,?_⟩
 refine wpAny_getItem_list_slice ht.isList hs pl pu .none (by simp) ?_ (by rw[List.size_toArray] <;> omega)
 rw[Zq,<-hlen]
 refine⟨.ref s.heap.objs.size,_,I.laid (t':=s.toks) (o:=.lst (rW xs lo hi)) (λb ob q=>Heap.get?_push_of_some _ q) (Nat.le_refl _) ?_,rfl,q _ (I.hok.fresh (Nat.le_refl _))⟩
 exact⟨Nat.le_trans (Qz xs lo hi) hz,_,0,(r.drop (HT.cC xs.length 0 lo)).take (HT.cC xs.length xs.length hi-HT.cC xs.length 0 lo),Heap.get?_push_size _ rfl⟩
theorem Zt:g8 X (.builtin "len") (λxs H Q=>∃p ys,xs=[.ref p]/\(cJ X.K H p ys\/dZ X.K H p ys)/\Q (.int ys.length) H):=by
 intro pins s σ H xs us Q I r h
 obtain⟨p,ys,rfl,hq,q⟩:=h
 obtain⟨u,rfl,rx⟩:=vals1 r
 cases rx
 have hn:=ud
 rcases hq with hq|hq
 ·obtain⟨its,r',pl,hz⟩:=I.list hq
  have hlen:=r'.length
  exact Calls.call_len_list pl.isList (by simp only[List.size_toArray] <;> omega) ⟨.int ys.length,H,I.tok _,⟨s.toks+1,by rw[List.size_toArray,hlen]⟩,q⟩
 ·obtain⟨its,r',pl,hz⟩:=I.tuple hq
  have hlen:=r'.length
  exact len_tuple pl (by simp only[List.size_toArray] <;> omega) ⟨.int ys.length,H,I.tok _,⟨s.toks+1,by rw[List.size_toArray,hlen]⟩,q⟩
theorem Zu:g8 X (.builtin "len") (λxs H Q=>∃z,xs=[.str z]/\z.length<=sizeLine/\Q (.int z.length) H):=by
 intro pins s σ H xs us Q I r h
 obtain⟨z,rfl,hz,q⟩:=h
 obtain⟨u,rfl,t,rfl⟩:=vals1 r
 have hn:=ud
 exact len_str (by omega) ⟨.int z.length,H,I.tok _,⟨_,rfl⟩,q⟩
theorem g8.or{f:Value}{r r':List V->Hp->VK->Prop}(h:g8 X f r)(h':g8 X f r'):g8 X f (λxs H Q=>r xs H Q\/r' xs H Q):=by
 intro pins s σ H xs us Q I rs q
 rcases q with q|q
 ·exact h pins s σ H xs us Q I rs q
 ·exact h' pins s σ H xs us Q I rs q
theorem QV:g8 X (.type "tuple") (λxs H Q=>∃p ys,xs=[.ref p]/\((cJ X.K H p ys/\∀l,H l=none->Q (.ref l) (upd H l (.tup ys)))\/(dZ X.K H p ys/\Q (.ref p) H))):=by
 intro pins s σ H xs us Q I r h
 obtain⟨p,ys,rfl,h⟩:=h
 obtain⟨u,rfl,rx⟩:=vals1 r
 cases rx
 rcases h with⟨hq,q⟩|⟨hq,q⟩
 ·obtain⟨its,r',pl,hz⟩:=I.list hq
  have hlen:=r'.length
  refine call_tuple_list pl.isList (λh' kp=>?_) (by simp only[List.size_toArray] <;> omega)
  have I1:Inv X pins σ H {s with heap:=h' }:=I.kept (t':=s.toks) kp
  have I2:Inv X pins σ (upd H h'.objs.size (.tup ys)) {s with heap:=h'.push {cls:=.type "tuple",data:=.seq its.toArray } } :=
   I1.laid (t':=s.toks) (λb o e=>Heap.get?_push_of_some _ e) (Nat.le_refl _) (show jV X.prog X.w _ _ _ (.tup ys)from⟨hz,its,r',IsTup.new _ _⟩)
  exact⟨.ref h'.objs.size,_,I2,rfl,q _ (I1.hok.fresh (Nat.le_refl _))⟩
 ·obtain⟨its,r',pl,hz⟩:=I.tuple hq
  exact call_tuple_same pl ⟨.ref p,H,I,rfl,q⟩
noncomputable def BZ(K:FZ)(T:String)(x:V)(H:Hp):Prop:=match x with
 |.str _=>T = "str"
 |.int _=>T = "int"
 | .ref p=>(T = "list" ∧ ∃xs,cJ K H p xs)∨(T = "tuple" ∧ ∃o,K.lookup p=some o∧o.cls=.type "tuple" ∧ o.dict=none) ∨
   (T = "dict" ∧ ((∃kvs,H p=some (.dK kvs))∨∃kvs,H p=some (.dT kvs)))∨(T = "set" ∧ ∃S n,H p=some (.set S n))
 |_=>False
theorem QW{pins:List (Addr × Obj)}{σ : St}{H:Hp}{s:Shared}{T:String}{x:V}{v:Value}(I:Inv X pins σ H s)(r:RelV x v)(ty:BZ X.K T x H) :
  s.TypeIs v T/\∀a,v=.ref a->∃ob,s.heap.get? a=some ob/\ob.dict=none:=by
 cases x with
 |str z =>
  obtain⟨t,rfl⟩:=r
  cases(show T = "str" from ty)
  exact⟨typeIs_str s z t,λ_ e=>nomatch e⟩
 |int i =>
  obtain⟨t,rfl⟩:=r
  cases(show T = "int" from ty)
  exact⟨typeIs_int s i t,λ_ e=>nomatch e⟩
 |ref p =>
  cases r
  rcases ty with⟨rfl,xs,hq⟩|⟨rfl,o,hk,hc,hd⟩|⟨rfl,hk⟩|⟨rfl,S,n,hk⟩
  ·obtain⟨its,_,pl,_⟩:=I.list hq
   refine⟨pl.isList.typeIs,λa e=>?_⟩
   cases e
   obtain⟨o,n,e,c,hd,_⟩:=pl
   exact⟨o,e,hd⟩
  ·refine⟨⟨o,I.jq p o hk,hc⟩,λa e=>?_⟩
   cases e
   exact⟨o,I.jq _ o hk,hd⟩
  ·have z:∃o,s.heap.get? p=some o/\o.ExactDict:=by
    rcases hk with⟨kvs,hk⟩|⟨kvs,hk⟩
    ·obtain⟨_,_,_,_,o,_,_,e,ex,_⟩:=I.hok p _ hk
     exact⟨o,e,ex⟩
    ·obtain⟨_,_,_,_,o,_,_,e,ex,_⟩:=I.hok p _ hk
     exact⟨o,e,ex⟩
   obtain⟨o,e,ex⟩:=z
   refine⟨⟨o,e,ex.1⟩,λa e2=>?_⟩
   cases e2
   exact⟨o,e,ex.2.1⟩
  ·obtain⟨o,_,_,_,e,ex,_⟩:=I.hok p _ hk
   refine⟨⟨o,e,ex.1⟩,λa e2=>?_⟩
   cases e2
   exact⟨o,e,ex.2.1⟩
 |_=>exact False.elim ty
def QX(K:FZ)(T:String)(r:V->List V->Hp->VK->Prop)(to:TE):TE:=λσ H Q=>to σ H λx H1=>BZ K T x H1/\r x [] H1 Q
def yW(K:FZ)(T:String)(r:V->List V->Hp->VK->Prop)(to:TE)(t:TA):TE:=λσ H Q=>to σ H λx H1=>BZ K T x H1/\t σ H1 λxs H2=>r x xs H2 Q
variable {o e:Expr}{es:List Expr}{to:TE}{t:TA}{name:Str}{apos cpos:Pos}{T id:String}{r:V->List V->Hp->VK->Prop}
theorem QZ(pa:PlainAttrs T)(slot:Slot T name id)(hty:typeOf (.builtin id)=pure (.type "method_descriptor")) (hm:QJ X id r) (ho:PE X o to)
  (hbase:attributeBase o name X.env (eval o X.env)=eval o X.env:=by rfl) (hline:(apos.endLine == cpos.line)=true:=by rfl):PE X (.Call (.Attribute o name apos) [] [] cpos) (QX X.K T r to):=by
 refine⟨λpins s σ H Q I h=>?_⟩
 refine wpAny_Call_method0_late hbase hline (bJ (ho pins s σ H _ I h) λv s1 ⟨x,H1,I1,r1,ty,q1⟩=>?_)
 obtain⟨h1,h2⟩:=QW I1 r1 ty
 exact⟨T,id,pa,slot,hty,h1,h2,Calls.callWith_builtin rfl (PySem.evalArgs_none (hm pins s1 σ H1 x [] v [] Q I1 r1 .nil q1))⟩
theorem jY(pa:PlainAttrs T)(slot:Slot T name id)(hty:typeOf (.builtin id)=pure (.type "method_descriptor")) (hm:QJ X id r) (ho:PE X o to) (ha:PA X (e::es) t)
  (hbase:attributeBase o name X.env (eval o X.env)=eval o X.env:=by rfl)
  (hfew:((backTo cpos (starEach (e::es) X.env)).all (λx=>!x.1)&&(backToKw cpos (keywordEach [] X.env)).all (λx=>x.1.isSome)
   && decide ((e::es).length+([]:List Keyword).length+(if([]:List Keyword).isEmpty then 0 else 1)<30))=true:=by rfl)
  (hline:(apos.endLine == cpos.line)=true:=by rfl) (hs:starEach (e::es) X.env=(false,eval e X.env)::starEach es X.env:=by rfl) (hplain:(backTo cpos (starEach es X.env)).any (·.1)=false:=by rfl) :
  PE X (.Call (.Attribute o name apos) (e::es) [] cpos) (yW X.K T r to t):=by
 refine⟨λpins s σ H Q I h=>?_⟩
 refine wpAny_Call_method_late hbase hfew hline rfl (bJ (ho pins s σ H _ I h) λv s1 ⟨x,H1,I1,r1,ty,q1⟩=>?_)
 obtain⟨h1,h2⟩:=QW I1 r1 ty
 refine⟨T,id,pa,slot,hty,h1,h2,?_⟩
 have hA:=ha cpos pins s1 σ H1 _ I1 q1
 rw[hs]at hA ⊢
 refine Calls.callWith_builtin (by show(false || (backTo cpos (starEach es X.env)).any (·.1))=false; rw[hplain] <;> rfl) (Calls.evalArgs_plain ?_)
 exact bJ hA λus s2 ⟨vs,H2,I2,r2,q2⟩=>hm pins s2 σ H2 x vs v us Q I2 r1 r2 q2
end
end L2
namespace L2
open PySem PySem.Spec PyProof.Rows
noncomputable def vR(X:Cx)(id:String)(r:V->List V->Hp->VK->Prop):Prop :=
 ∀(pins:List (Addr × Obj)) (s:Shared) (σ : St) (H:Hp) (x:V) (xs:List V) (v:Value) (us:List Value) (Q:VK),Inv X pins σ H s->RelV x v->Vals xs us->r x xs H Q ->
  wpAny (model X.prog X.w) X.A (call (.builtin id) (v::us)) (EP X pins σ Q) X.xe s
theorem Vals.one:∀{x:V} {us:List Value},Vals [x] us->∃u,us=[u]/\RelV x u
 |_,_,.cons r .nil=>⟨_,rfl,r⟩
theorem Vals.rep{xs:List V}{us:List Value}(h:Vals xs us):∀k:Nat,Vals (List.replicate k xs).flatten (List.replicate k us).flatten
 | 0=>.nil
 |k+1=>by
  rw[List.replicate_succ,List.replicate_succ,List.flatten_cons,List.flatten_cons]
  exact Vals.append h (Vals.rep h k)
theorem foldl_rep(its:List Value):∀(k:Nat) (acc:List Value),
  List.foldl (λx1 x2=>x1++x2) acc.toArray (List.replicate k its.toArray)=(acc++(List.replicate k its).flatten).toArray
 | 0,acc=>by simp
 |k+1,acc=>by
  have e:acc.toArray++its.toArray=(acc++its).toArray:=by simp
  have e2:(acc++its)++(List.replicate k its).flatten=acc++(List.replicate (k+1) its).flatten:=by
   rw[List.replicate_succ,List.flatten_cons,List.append_assoc]
  rw[<-e2,<-foldl_rep its k (acc++its),<-e,List.replicate_succ,List.foldl_cons]
section
variable {X:Cx}{pins:List (Addr × Obj)}{σ : St}{H:Hp}{s:Shared}{l b:Addr}{xs ys zs:List V}
theorem Inv.Zv{its its':List Value}{n:Nat}{f:Array Value->Array Value}{t':Nat}(I:Inv X pins σ H s)(hH:H l=some (.lst xs))
  (e:s.heap.get? l=some {cls:=.type "list",data:=.seq its.toArray n }) (hf:f its.toArray=its'.toArray) (hv:Vals ys its') (hz:ys.length<=sizeLine) :
  Inv X pins σ (upd H l (.lst ys)) {s with heap:=s.heap.update l (Obj.mapSeq f),toks:=t' }:=by
 have q:=PySem.IsL.update e f
 rw[hf]at q
 refine I.write (x:=l) (e:=l) (by rw[hH]; exact trivial) (.inl rfl) (λb' u hb hu=>(Heap.get?_update_other s.heap (Obj.mapSeq f) (Ne.symm hb)).trans hu) ⟨_,q⟩ ?_
 exact⟨hz,its',_,hv,q⟩
theorem Inv.ug{its:List Value}{t':Nat}(I:Inv X pins σ H s)(hv:Vals ys its)(hz:ys.length<=sizeLine) :
  Inv X pins σ (upd H s.heap.objs.size (.lst ys)) {s with heap:=s.heap.push {cls:=.type "list",data:=.seq its.toArray },toks:=t' } :=
 I.laid (λ_ _ q=>Heap.get?_push_of_some _ q) (Nat.le_refl _) ⟨hz,its,0,hv,Heap.get?_push_size _ rfl⟩
theorem Inv.fresh(I:Inv X pins σ H s):H s.heap.objs.size=none:=I.hok.fresh (Nat.le_refl _)
theorem Inv.Zw(I:Inv X pins σ H s)(hH:H l=some (.lst xs)):xs.length<=sizeLine/\∃(its:List Value) (n:Nat),Vals xs its/\xs.length=its.length/\s.heap.get? l=some {cls:=.type "list",data:=.seq its.toArray n }:=by
 obtain⟨z,its,n,r,e⟩:=I.hok l _ hH
 exact⟨z,its,n,r,r.length,e⟩
theorem Zx{n:Nat}(h:n<=sizeLine):Builtin.List.listTooLong n=false:=by
 unfold Builtin.List.listTooLong
 exact decide_eq_false (by omega)
end
section
variable {X:Cx}
def Zy:V->List V->Hp->VK->Prop:=λx vs H Q=>∃l xs y,x=.ref l/\vs=[y]/\H l=some (.lst xs)/\xs.length<sizeLine/\Q .non (upd H l (.lst (xs++[y])))
theorem Q0:vR X "list.append" Zy:=by
 intro pins s σ H x vs v us Q I rx rv h
 obtain⟨l,xs,y,rfl,rfl,hH,hz,q⟩:=h
 cases rx
 obtain⟨u,rfl,ru⟩:=rv.one
 obtain⟨z,its,n,r,hl,e⟩:=I.Zw hH
 refine call_meets F.slot_list_append ⟨_,e,rfl⟩ F.entry_list_append (F.args_list_append_2 _ _) (PySem.list_append l its.toArray n u (by rw[List.size_toArray]; omega)) ⟨e,?_⟩
 refine⟨.non,_,I.Zv (its':=its++[u]) hH e (by simp) (r.append (.cons ru .nil)) ?_,rfl,q⟩
 rw[List.length_append,List.length_singleton]
 omega
theorem len_rep{α : Type}(xs:List α)(k:Nat):(List.replicate k xs).flatten.length=k*xs.length:=by
 induction k with
 |zero=>simp
 |succ k ih=>rw[List.replicate_succ,List.flatten_cons,List.length_append,ih,Nat.succ_mul,Nat.add_comm]
end
section
variable {prog:Program}{w:World}{A:Around}{E:Value->Shared->Prop}{s:Shared}
end
section
variable {X:Cx}
end
end L2
namespace Q5
open PySem PySem.W PySem.Calls PyProof.Rows
theorem Zz{P:Params}{h:Heap}:∀(ns:List Int) (vs:List Value),WellAll P h vs (ns.map WData.int)->IntsAre vs ns:=by
 intro ns
 induction ns with
 |nil =>
  intro vs w
  rw[List.map_nil]at w
  cases w
  exact .nil
 |cons n ns ih =>
  intro vs w
  rw[List.map_cons]at w
  cases w with
  |cons a b =>
   cases a
   exact .cons _ _ (ih _ b)
theorem ZC{l:OpenLaw}{n:Nat}(hn:l.most=some n){P:Params}{h:Heap}{args:List WData}{vals:List Value}
  (hpre:l.row.toRowW.claim.pre args=true) (hwl:WellAll P h vals args) :
  ∃a vs ns,vals=[Value.ref a]/\args=[WData.list (ns.map WData.int)]/\h.get? a=some {cls:=.type "list",data:=.seq vs.toArray }/\IntsAre vs ns/\ns.length<=n:=by
 have hsh:WShape.hasAll [] args [.list .int]=true:=(pre_splitW hpre).1
 have hc:l.pre.holds [] {args:=args }=true:=(pre_splitW hpre).2
 obtain⟨d,r,rfl,h1,h2⟩:=hasAllW_cons hsh
 obtain rfl:=hasAllW_nil h2
 obtain⟨xs,rfl,h3⟩:=hasW_list h1
 obtain⟨ns,rfl⟩:=items_int h3
 have hlen:ns.length<=n:=by
  unfold OpenLaw.pre at hc
  have h4:(WTm.not (.lt (.lit (.int (n:Int))) (.len (.arg 0)))).holds [] {args:=[.list (ns.map .int)] }=true:=by
   have h4:=(holds_andW hc).1
   rw[hn]at h4
   exact h4
  have h5:=condW_of h4 (w_not (w_lt w_lit (w_len_list (w_arg rfl))))
  rw[List.length_map]at h5
  refine Nat.le_of_not_lt λq=>?_
  have q':(n:Int)<((ns.length:Nat):Int):=by omega
  first
   |(rw[decide_eq_true q']at h5; exact absurd h5 (by decide))
   |(simp at h5; omega)
 cases hwl with
 |cons w1 w2 =>
  cases w2
  cases w1 with
  |list ho hall=>exact⟨_,_,ns,rfl,rfl,ho,Zz ns _ hall,hlen⟩
theorem ZD(l:OpenLaw)(args:List WData):l.row.toRowW.claim.post args (.bool true) args=true :=
 postW_of (r:=l.row.toRowW) (X:=(true == true))
  (show WShape.has [] (.bool true) .bool=true by first|rfl|decide|simp[WShape.has,WShape.arms,WShape.armsAll])
  (show(WTm.eq .res (.lit (.bool true))).value [] {args:=args,res:=some (.bool true),after:=args }=some (.bool (true == true))from w_eq_bool (w_res rfl) w_lit) rfl
theorem ZF{l:OpenLaw}{n:Nat}{q:Program}{loose:List Str}{XP:(Str->Option Value)->Heap->Prop}{YP:World->Heap->Prop}{d:DefRec}
  (hn:l.most=some n) (hdf:d.params.defaults=[])
  (call:∀(w:World) (s₀ s₁ : Shared) (mg mb:Str->Option Value) (fa:Addr) (o:Obj) (pm cd doc:Value) (a:Addr) (vs:List Value) (ns:List Int),
   Ground q loose [] XP w s₀ mg mb s₁.heap->YP w s₁.heap ->
   s₁.heap.get? fa=some o->o.data=.func (docDef d.name d.params d.body d.scope pm cd doc)->s₁.heap.CodeRec cd d.name->mg d.name=some (.ref fa) ->
   s₁.heap.get? a=some {cls:=.type "list",data:=.seq vs.toArray }->IntsAre vs ns->ns.length<=n->s₁.gens = #[] ->
   codeAny (model l.prog w) callerA (.call (.ref fa) ⟨[.ref a],[]⟩) (λr s'=>r=.ok (.ret (.bool true))/\OldK s₁.heap s'.heap/\s'.os=s₁.os/\AllBare s'.gens) s₁) :
  WalkO q loose XP YP l.row.toRowW d [] (λf vs=>PySem.call f vs):=by
 intro w s₀ s₁ mg mb G Y fa o pm cd doc dV kV ho hd hcd hD hmg hg args vals as hpre hlay hrd hwl hlo
 obtain rfl:dV=.none:=Dflts.none hD hdf
 obtain rfl:kV=.none:=Dflts.noKw hD
 obtain⟨a,vs,ns,rfl,rfl,hobj,hints,hlen⟩:=ZC hn hpre hwl
 refine enter_call (codeAny_mono (call w s₀ s₁ mg mb fa o pm cd doc a vs ns G Y ho (fd_plain hd) hcd hmg hobj hints hlen hg) λr s' hq=>?_)
 obtain⟨rfl,h2,h3,h4⟩:=hq
 exact⟨.inl ⟨.bool true,.bool true,[],rfl,λ_=>rfl,.bool true,ZD l _,λ_=>⟨List.Pairwise.nil,λ_ hm=>(nomatch hm)⟩⟩,h2,h3,h4⟩
section
variable {prog:Program}{w:World}{A:Around}{E:Value->Shared->Prop}{s:Shared}{K:Frag}
end
end Q5
namespace L2
open PySem PySem.Spec PyProof.Rows
theorem Q6:∀{vs:List Value} {ns:List Int},IntsAre vs ns->Vals (ns.map V.int) vs
 |_,_,.nil=>.nil
 |_,_,.cons n t h=>.cons ⟨t,rfl⟩ (Q6 h)
end L2
namespace L2
open PySem PySem.Spec PyProof.Rows
end L2
namespace L2
open PySem PySem.Spec PyProof.Rows
def rY(s:Stmt):Arguments:=match s with
 |.FunctionDef _ a _ _ _ _ _ _ _ _=>a
 |_=>{posonlyargs:=[],args:=[],vararg:=none,kwonlyargs:=[],kw_defaults:=[],kwarg:=none,defaults:=[] }
def nu(s:Stmt):List Stmt:=match s with
 |.FunctionDef _ _ b _ _ _ _ _ _ _=>b
 |_=>[]
def bG(s:Stmt):Scope:=match s with
 |.FunctionDef _ _ _ _ _ _ sc _ _ _=>sc
 |_=>{kind:=.function,names:=[],isGenerator:=false,isCoroutine:=false }
abbrev E0:XK:=λ_ _ _=>False
structure vU(K:FZ)(x qual:Str)(st:Stmt)(f:Addr)(fd:FuncData):Prop where
 ex:∃(oc:Value) (od:Option Addr) (kV doc pm:Value) (an:Option Addr) (cdv ct:Value) (osl:Array (Option Value)),
  fd=PySem.W.fnOf x qual (rY st) (nu st) (bG st) .none kV doc pm an cdv ct/\K.lookup f=some ⟨oc,od,.func fd,osl⟩/\PySem.W.codeIn K cdv qual=true
 kp:PySem.W.keepIn K (.ref f)=true
section
variable {P:Program}{w:World}{K:FZ}{mg:Str->Option Value}{base:Heap}
theorem vU.binds{x qual:Str}{st:Stmt}{f:Addr}{fd:FuncData}{ps:List Str}(F:vU K x qual st f fd)
  (h:∀(kV doc pm:Value) (an:Option Addr) (cdv ct:Value) (us:List Value),us.length=ps.length->bindArgs (PySem.W.fnOf x qual (rY st) (nu st) (bG st) .none kV doc pm an cdv ct) ⟨us,[]⟩=pure (ps.zip us)):Binds K fd ps []:=by
 obtain⟨oc,od,kV,doc,pm,an,cdv,ct,osl,rfl,lk,hcd⟩:=F.ex
 exact .all (h kV doc pm an cdv ct)
theorem ZG{x qual:Str}{st:Stmt}{f:Addr}{oc:Value}{od an:Option Addr}{osl:Array (Option Value)}{kV doc pm cdv ct:Value}(l:K.lookup f=some ⟨oc,od,.func (PySem.W.fnOf x qual (rY st) (nu st) (bG st) .none kV doc pm an cdv ct),osl⟩)
  (c:PySem.W.codeIn K cdv qual=true) (k:PySem.W.keepIn K (.ref f)=true):vU K x qual st f (PySem.W.fnOf x qual (rY st) (nu st) (bG st) .none kV doc pm an cdv ct):=⟨⟨oc,od,kV,doc,pm,an,cdv,ct,osl,rfl,l,c⟩,k⟩
end
theorem Hx{n:Nat}(h:n<=1000):n<sizeLine:=Nat.lt_of_le_of_lt h (by decide)
section
variable {X:Cx}
end
def Same(H H':Hp):Prop:=∀b o,H b=some o->H' b=some o
theorem Same.refl(H:Hp):Same H H:=λ_ _ h=>h
theorem Same.trans{H H1 H2:Hp}(a:Same H H1)(b:Same H1 H2):Same H H2:=λc o h=>b c o (a c o h)
theorem Same.free{H H':Hp}(e:Same H H'){l:Addr}(h:H' l=Option.none):H l=Option.none:=by
 cases q:H l with
 |none=>rfl
 |some o =>
  rw[e l o q]at h
  cases h
theorem Same.seq{K:FZ}{H H':Hp}{a:Addr}{xs:List V}(e:Same H H')(h:cJ K H a xs):cJ K H' a xs:=by
 rcases h with(h|⟨o,h⟩)|h
 ·exact .inl (.inl (e _ _ h))
 ·exact .inl (.inr ⟨o,e _ _ h⟩)
 ·exact .inr h
end L2
end
section
namespace L2
open PySem PySem.Spec PyProof.Rows
section
variable {prog:Program}{w:World}{A:Around}{R:Result->Shared->Prop}{s:Shared}
theorem ZJ{elt target iter:Expr}{scope:Scope}{pos:Pos}{it acc:Value}{env:Env}(I:Nat->Shared->Prop)
  (turn:∀n s,I n s->wpAny (model prog w) A (pyNext it) (λr s₁=>match r with
   |none=>R (.ok .next) s₁
   | some v=>wpAny (model prog w) A (letOwnedTupleGo target it v) (λ_ s₁'=>wpAny (model prog w) A (assign target env v) (λ_ s₂ => wpAny (model prog w) A (eval elt env) (λx s₃ =>
     wpAny (model prog w) A (call (.builtin "list.append") [acc,x]) (λ_ s₄=>∃m,m<n/\I m s₄) (λ_ _=>False) s₃) (λ_ _=>False) s₂) (λ_ _=>False) s₁') (λ_ _=>False) s₁) (λ_ _=>False) s)
  (n:Nat) (h:I n s) :
  codeAny (model prog w) A (.compLoop (.ListComp elt [⟨target,iter,[],0⟩] scope pos) 0 it acc env) R s:=by
 refine codeAny_loop rfl I (λn s hI=>?_) n h
 show wpAny _ _ ((compTurn (.ListComp elt [⟨target,iter,[],0⟩] scope pos) 0 it acc env).onRaise (λx=>do noteFrame x env; theTreesLotGoes x)) _ _ s
 refine wpAny_noted (wpAny_noRaise ?_)
 rw[compTurn_list1]
 refine wpAny_bind (wpAny_standAt (wpAny_bind (wpAny_mono (turn n s hI) (λr s₁ h₁=>?_) λ_ _ h'=>h')))
 cases r with
 |none=>exact wpAny_pure h₁
 |some v =>
  refine wpAny_bind (wpAny_mono h₁ (λ_ s₁' h₁'=>?_) λ_ _ h'=>h')
  exact wpAny_bind (wpAny_mono h₁' (λ_ s₂ h₂=>wpAny_bind (wpAny_bind (wpAny_mono h₂ (λx s₃ h₃=>wpAny_bind (wpAny_mono h₃
   (λ_ s₄ h₄=>wpAny_pure (wpAny_pure ⟨rfl,h₄⟩)) λ_ _ h'=>h')) λ_ _ h'=>h'))) λ_ _ h'=>h')
end
def iH(cells:List (Str × Addr)):List (Str × NameKind)->List (Str × Addr)->List (Str × Addr)
 | [],acc=>acc
 |(n,k)::r,acc=>if k=.free then(match cells.lookup n with|some a=>iH cells r ((n,a)::acc)|none=>iH cells r acc)else iH cells r acc
theorem uh{cells:List (Str × Addr)}{x:Str}{c:Addr}:∀{names:List (Str × NameKind)} {acc:List (Str × Addr)},(iH cells names acc).lookup x=some c->acc.lookup x=some c\/cells.lookup x=some c
 | [],acc,h=>.inl h
 |(n,k)::r,acc,h=>by
  unfold iH at h
  split at h
  ·split at h
   ·rename_i a ha
    rcases uh h with q|q
    ·by_cases e:x=n
     ·subst e
      rw[List.lookup_cons,beq_self_eq_true]at q
      cases q
      exact .inr ha
     ·rw[List.lookup_cons,beq_false_of_ne e]at q
      exact .inl q
    ·exact .inr q
   ·exact uh h
  ·exact uh h
theorem yX{cells:List (Str × Addr)}{x:Str}:∀{names:List (Str × NameKind)} {acc:List (Str × Addr)},((acc.lookup x).isSome=true\/((x,NameKind.free)∈names/\(cells.lookup x).isSome=true))->((iH cells names acc).lookup x).isSome=true
 | [],acc,h=>by
  rcases h with h|⟨h,_⟩
  ·exact h
  ·cases h
 |(n,k)::r,acc,h=>by
  have up:∀a,(acc.lookup x).isSome=true->(List.lookup x ((n,a)::acc)).isSome=true:=λa q=>by
   rw[List.lookup_cons]
   split
   ·rfl
   ·exact q
  unfold iH
  split
  ·rename_i hk
   split
   ·rename_i a ha
    refine yX ?_
    rcases h with h|⟨h,hc⟩
    ·exact .inl (up a h)
    ·rcases List.mem_cons.mp h with e|e
     ·cases e
      refine .inl ?_
      rw[List.lookup_cons,beq_self_eq_true]
      rfl
     ·exact .inr ⟨e,hc⟩
   ·rename_i hn
    refine yX ?_
    rcases h with h|⟨h,hc⟩
    ·exact .inl h
    ·rcases List.mem_cons.mp h with e|e
     ·cases e
      rw[hn]at hc; cases hc
     ·exact .inr ⟨e,hc⟩
  ·rename_i hk
   refine yX ?_
   rcases h with h|⟨h,hc⟩
   ·exact .inl h
   ·rcases List.mem_cons.mp h with e|e
    ·cases e; exact absurd rfl hk
    ·exact .inr ⟨e,hc⟩
theorem Hy{scope:Scope}{env:Env}(h:∀y∈scope.names,y.2=.free->(env.cells.lookup y.1).isSome=true):closureFor scope env=pure (iH env.cells scope.names []):=by
 unfold closureFor
 suffices q:∀(names:List (Str × NameKind)) (acc:List (Str × Addr)),(∀y∈names,y.2=.free->(env.cells.lookup y.1).isSome=true) ->
   (forIn names acc λx r=>do
    match x with
    |(name,kind)=>if(kind == NameKind.free)=true then do let a <-cellOf env name; pure (ForInStep.yield ((name,a)::r))else pure (ForInStep.yield r):Sem _)=pure (iH env.cells names acc) by
  have z:=q scope.names [] h
  exact(congrArg (λm=>m >>= λcs=>pure cs) z)
 intro names
 induction names with
 |nil=>intro acc _; rfl
 |cons y r ih =>
  intro acc hy
  obtain⟨n,k⟩:=y
  rw[List.forIn_cons]
  unfold iH
  by_cases hk:k=.free
  ·subst hk
   rw[if_pos rfl]
   have q:=hy (n,.free) List.mem_cons_self rfl
   cases e:env.cells.lookup n with
   |none=>rw[e]at q; cases q
   |some a =>
    have ec:cellOf env n=pure a:=by unfold cellOf; rw[e]
    simp only[ec]
    exact ih _ λz hz=>hy z (List.mem_cons_of_mem _ hz)
  ·rw[if_neg hk]
   have hb:(k == NameKind.free)=false:=by simpa using hk
   simp only[hb]
   exact ih _ λz hz=>hy z (List.mem_cons_of_mem _ hz)
def Q7(scope sc:Scope):Scope :=
 {scope with names:=scope.names.map λ(n,k)=>if(k == .free&&sc.kind == .function&&sc.names.lookup n == some .cell)then(n,.cell)else(n,k) }
theorem Q8{env:Env}:∀{names:List (Str × NameKind)} {x:Str},names.lookup x=some .free ->
  (names.map λ(n,k)=>if(k == NameKind.free&&env.scope.kind == .function&&env.kindOf n == some .cell)then(n,NameKind.cell)else(n,k)).lookup x=some .cell \/
  (names.map λ(n,k)=>if(k == NameKind.free&&env.scope.kind == .function&&env.kindOf n == some .cell)then(n,NameKind.cell)else(n,k)).lookup x=some .free
 | [],_,h=>by simp at h
 |(n,k)::r,x,h=>by
  have ih:=@Q8 env r x
  rw[List.map_cons]
  dsimp only
  cases hx:x == n with
  |true =>
   simp only[List.lookup_cons,hx]at h
   cases h
   by_cases hc:(NameKind.free == NameKind.free&&env.scope.kind == .function&&env.kindOf n == some .cell)=true
   ·rw[if_pos hc]; simp[List.lookup_cons,hx]
   ·rw[if_neg hc]; simp[List.lookup_cons,hx]
  |false =>
   simp only[List.lookup_cons,hx]at h
   by_cases hc:(k == NameKind.free&&env.scope.kind == .function&&env.kindOf n == some .cell)=true
   ·rw[if_pos hc]; simp only[List.lookup_cons,hx]; exact ih h
   ·rw[if_neg hc]; simp only[List.lookup_cons,hx]; exact ih h
theorem Q9{env:Env}:∀{names:List (Str × NameKind)} {x:Str},
  ((names.map λ(n,k)=>if(k == NameKind.free&&env.scope.kind == .function&&env.kindOf n == some .cell)then(n,NameKind.cell)else(n,k)).lookup x=some .cell \/
  (names.map λ(n,k)=>if(k == NameKind.free&&env.scope.kind == .function&&env.kindOf n == some .cell)then(n,NameKind.cell)else(n,k)).lookup x=some .free)->names.lookup x=some .cell\/names.lookup x=some .free
 | [],_,h=>by simp at h
 |(n,k)::r,x,h=>by
  have ih:=@Q9 env r x
  rw[List.map_cons]at h
  dsimp only at h
  cases hx:x == n with
  |true =>
   by_cases hcc:(k == NameKind.free&&env.scope.kind == .function&&env.kindOf n == some .cell)=true
   ·have hk:k=.free:=by
     simp only[Bool.and_eq_true,beq_iff_eq]at hcc
     exact hcc.1.1
    subst hk
    exact .inr (by simp only[List.lookup_cons,hx])
   ·rw[if_neg hcc]at h
    simp only[List.lookup_cons,hx]at h ⊢
    exact h
  |false =>
   have q:=ih (by
    by_cases hcc:(k == NameKind.free&&env.scope.kind == .function&&env.kindOf n == some .cell)=true
    ·rw[if_pos hcc]at h; simp only[List.lookup_cons,hx]at h; exact h
    ·rw[if_neg hcc]at h; simp only[List.lookup_cons,hx]at h; exact h)
   simp only[List.lookup_cons,hx]
   exact q
theorem qx:∀(names:List (Str × NameKind)) (n:Nat) (acc:List (Str × Addr)),cellsFrom n names acc=cellsFrom n names []++acc
 | [],_,_=>rfl
 |(x,k)::r,n,acc=>by
  unfold cellsFrom
  split
  ·rw[qx r (n+1) ((x,n)::acc),qx r (n+1) [(x,n)],List.append_assoc]
   rfl
  ·exact qx r n acc
theorem Hz:∀(names:List (Str × NameKind)) (n:Nat) {x:Str} {c:Addr},(x,c)∈cellsFrom n names []->(x,NameKind.cell)∈names
 | [],_,_,_,h=>by cases h
 |(y,k)::r,n,x,c,h=>by
  unfold cellsFrom at h
  split at h
  ·rename_i hk
   have hk:k=.cell:=by simpa using hk
   rw[qx]at h
   rcases List.mem_append.mp h with z|z
   ·exact List.mem_cons_of_mem _ (Hz r _ z)
   ·have z:=List.mem_singleton.mp z
    cases z
    rw[hk]
    exact List.mem_cons_self
  ·exact List.mem_cons_of_mem _ (Hz r _ h)
theorem vV(x:Str):∀(a b:List (Str × Addr)),(a++b).lookup x=(match a.lookup x with|some c=>some c|none=>b.lookup x)
 | [],_=>rfl
 |(y,c)::r,b=>by
  have ih:=vV x r b
  rw[List.cons_append,List.lookup_cons,List.lookup_cons]
  cases h:x == y with
  |true=>rfl
  |false=>exact ih
theorem Ra{M:Model}{A:Around}{E:Value->Shared->Prop}{s:Shared}{scope:Scope}{globals:Addr}{cl:List (Str × Addr)}{qual:Str}{env:Env}{Q:Env->Shared->Prop}
  (hQ:∀h',h'.Ns s.heap.objs.size (λ_=>none)->(∀b o,s.heap.get? b=some o->h'.get? b=some o)->CellsOk h' (s.heap.objs.size+1) (cellsFrom (s.heap.objs.size+1) scope.names []) ->
   Q {scope:=scope,locals:=s.heap.objs.size,globals:=globals,cells:=cellsFrom (s.heap.objs.size+1) scope.names cl,qual:=qual,func:=none,code:=env.code,frame:=env.frame,builtins:=env.builtins } {s with heap:=h',toks:=s.toks+([]:List (Str × Value)).length }) :
  wpAny M A (newFunctionEnv scope globals cl [] qual none .none (some env)) Q E s:=by
 simp only[newFunctionEnv,Option.isSome_some,if_true]
 refine wpAny_bind (wpAny_alloc ?_)
 refine wpAny_bind (wpAny_layCells _ (λname kind cells=>by cases hkc:kind == NameKind.cell <;> simp[hkc]) _ _ _ _ ?_)
 have ok:=cellsFrom_ok scope.names (s.heap.push {cls:=.type "dict",data:=.dict #[] }) (s.heap.objs.size+1) [] ⟨λ_ _ hm=>(nomatch hm),List.Pairwise.nil⟩ (by rw[Heap.size_push]; exact Nat.le_refl _)
 rw[Heap.size_push]at ok
 rw[show({s with heap:=s.heap.push {cls:=.type "dict",data:=.dict #[] } }:Shared).heap.objs.size=s.heap.objs.size+1 from Heap.size_push ..]
 rw[List.forIn_nil]
 exact wpAny_bind (wpAny_pure (wpAny_pure (hQ _ ((Heap.Ns.new s.heap (.type "dict")).keeps (pushCells_keeps _ _)) (λb o e=>pushCells_keeps _ _ b o (Heap.get?_push_of_some _ e)) ok)))
structure vW(sc:Scope)(No N:List Str)(src:List (Option Nat))(scope:Scope):Prop where
 kind:scope.kind=.function
 cells:∀y∈scope.names,y.2=.cell->scope.names.lookup y.1=some .cell
 names:∀y∈scope.names,y.2=.local->scope.names.lookup y.1=some .local
 free:∀y∈scope.names,y.2=.free->sc.names.lookup y.1=some .cell\/sc.names.lookup y.1=some .free
 len:src.length=N.length
 up:∀p∈N.zip src,∀j∈p.2,No[j]?=some p.1/\scope.names.lookup p.1=some .free
def jw(src:List (Option Nat))(σ : St):St:=src.map λo=>o.bind λj=>(σ[j]?).join
noncomputable def ig(X:Cx)(N:List Str)(scope:Scope)(C:Addr)(s:Shared)(H:Hp)(ex:List Addr):Cx where
 prog:=X.prog
 w:=X.w
 K:=X.K
 mg:=X.mg
 base:=X.base
 A:=X.A
 N:=N
 s₀ := s
 H₀ := H
 env:=compEnvC scope (cellsFrom (C+1) scope.names (iH X.env.cells scope.names [])) C X.env
 outer:=X.stack
 stack:=X.stack
 ex:=ex
 fn:=λx=>scope.names.lookup x == some .cell
 calm:=X.calm
 pn:=[]
 xe:=λ_ _=>False
def Rf(Q:VK)(D:Addr)(H:Hp):Prop:=Q (.ref D) H
noncomputable def um(wi:TI)(g:TG)(src:List (Option Nat))(te:TE):TE:=λσ H Q=>wi σ H λJ H1=>∀D,H1 D=none ->
 ∃W:Nat->Nat->St->Hp->Prop,(∃m,W 0 m (jw src σ) (upd H1 D (.lst [])))/\∀i m σ' H',W i m σ' H' ->
  (J.stop i H'/\Rf Q D H')\/(J.go i H'/\∀x ji,J.vN i H' x ji->g x σ' ji λσ2 H2=>te σ2 H2 λv H3=>∃xs,H3 D=some (.lst xs)/\xs.length<sizeLine/\∃m',m'<m/\W (i+1) m' σ2 (upd H3 D (.lst (xs++[v]))))
section
variable {X:Cx}{elt tg iter:Expr}{scope sc:Scope}{pos:Pos}{No N:List Str}{src:List (Option Nat)}{wi:TI}{g:TG}{te:TE}
theorem Rg{pins:List (Addr × Obj)}{σ : St}{H:Hp}{s:Shared}{h₁ : Heap}{fp:List Addr}{tk:Nat}(hsc:X.env.scope=sc)(nZ:X.N=No)(S:vW sc No N src scope)(I:Inv X pins σ H s)
  (hf:∀b∈fp,lG X pins H b) (hlt:∀b∈fp,b<s.heap.objs.size)
  (hns:h₁.Ns s.heap.objs.size (λ_=>none)) (old:∀b o,s.heap.get? b=some o->h₁.get? b=some o) (ck:CellsOk h₁ (s.heap.objs.size+1) (cellsFrom (s.heap.objs.size+1) scope.names [])) :
  Inv (ig X N scope s.heap.objs.size s H fp) [] (jw src σ) H {s with heap:=h₁,toks:=tk }:=by
 subst hsc
 subst nZ
 have vX:∀x c,(cellsFrom (s.heap.objs.size+1) scope.names (iH X.env.cells scope.names [])).lookup x=some c->(cellsFrom (s.heap.objs.size+1) scope.names []).lookup x=some c\/X.env.cells.lookup x=some c:=λx c h=>by
  rw[qx,vV]at h
  split at h
  ·rename_i e
   exact .inl (e.trans h)
  ·rcases uh h with q|q
   ·simp at q
   ·exact .inr q
 have big:∀x c,(cellsFrom (s.heap.objs.size+1) scope.names []).lookup x=some c->s.heap.objs.size+1<=c:=λx c h=>(ck.empty x c (PySem.mem_of_lookup h)).2
 have Rh:∀x c,X.env.cells.lookup x=some c->c<s.heap.objs.size:=λx c e=>by
  obtain⟨v,q⟩:=I.cell x c e
  exact q.lt
 have akq:∀b∈frs X.stack,b<s.heap.objs.size:=λb hb=>by
  obtain⟨_,o,ho,_⟩:=I.stack.mem hb
  exact Heap.lt_size ho
 refine⟨⟨I.ok.mod,S.kind,I.ok.glob,I.ok.blt,Nat.le_refl _,λx y c h1 h2=>?_,λx hx=>?_,λx c hfn h=>?_,I.ok.hd,I.ok.frames,.inl rfl,λb hb=>⟨Nat.ne_of_lt (hlt b hb),λx c e=>?_⟩,
   I.bs,Nat.le_trans I.ok.rE I.sz,λb o e hb=>?_,λb hb hb'=>?_,I.stack,I.yI⟩,
  rfl,I.bare,Un.kept old,⟨_,hns,λi x v h1 h2 h3=>?_⟩,λx c e=>?_,I.hok.fresh (Nat.le_refl _),λx c e=>?_,λp hp=>absurd (show p∈([]:List (Addr × Obj))from hp) (by simp),I.hok.kept old,?_⟩
 ·rcases vX _ _ h1 with z1|z1
  ·rcases vX _ _ h2 with z2|z2
   ·exact name_of_addr ck.apart (PySem.mem_of_lookup z1) (PySem.mem_of_lookup z2)
   ·exact absurd (Nat.le_trans (big _ _ z1) (Nat.le_of_lt (Rh _ _ z2))) (Nat.not_succ_le_self _)
  ·rcases vX _ _ h2 with z2|z2
   ·exact absurd (Nat.le_trans (big _ _ z2) (Nat.le_of_lt (Rh _ _ z1))) (Nat.not_succ_le_self _)
   ·exact I.ok.inj x y c z1 z2
 ·-- every cell or free name has its cell
  rcases Q9 hx with m|m
  ·exact Option.isSome_iff_exists.mp (PySem.W.cellsFrom_some _ _ _ (.inl m))
  ·have m:=PySem.mem_of_lookup m
   have q:=yX (cells:=X.env.cells) (acc:=[]) (.inr ⟨m,by
    obtain⟨c,e⟩:=I.ok.has x (S.free _ m rfl)
    rw[e]; rfl⟩)
   exact Option.isSome_iff_exists.mp (PySem.W.cellsFrom_some _ _ _ (.inr q))
 ·have hfn:scope.names.lookup x=some .cell:=by
   have z:(scope.names.lookup x == some .cell)=true:=hfn
   simpa using z
  obtain⟨c',e'⟩:=Option.isSome_iff_exists.mp (PySem.W.cellsFrom_some _ (s.heap.objs.size+1) [] (.inl hfn))
  have h:(cellsFrom (s.heap.objs.size+1) scope.names (iH X.env.cells scope.names [])).lookup x=some c:=h
  rw[qx,vV,e']at h
  cases h
  exact Nat.le_of_succ_le (big _ _ e')
 ·rcases vX _ _ e with z|z
  ·exact λy=>absurd (Nat.le_trans (big _ _ z) (y▸Nat.le_of_lt (hlt b hb))) (Nat.not_succ_le_self _)
  ·exact(hf b hb).2.2.2.2.1 x c z
 ·obtain⟨f0,f1,f2,f3,f4,f5⟩:=hf b hb
  rcases f3 with z|z
  ·exact I.ok.jW b o e z
  ·have q:=Heap.lt_size (I.ok.bs b o e).1
   exact absurd q (Nat.not_lt.mpr z)
 ·obtain⟨f0,f1,f2,_⟩:=hf b hb
  rcases List.mem_cons.mp (I.yH b hb')with z|z
  ·exact f1 z
  ·exact f2 z
 ·have hi:i<src.length:=by
   unfold jw at h2
   have:=(List.getElem?_eq_some_iff.mp h2).1
   simpa using this
  have h2':((src[i]).bind λj=>(σ[j]?).join)=some v:=by
   unfold jw at h2
   rw[List.getElem?_map,List.getElem?_eq_getElem hi]at h2
   exact Option.some.inj h2
  cases es:src[i]with
  |none=>rw[es]at h2'; cases h2'
  |some j =>
   rw[es]at h2'
   have hj : σ[j]?=some (some v):=by
    have z:(σ[j]?).join=some v:=h2'
    cases q : σ[j]? with
    |none=>rw[q]at z; cases z
    |some o=>rw[q]at z; have z':o=some v:=z; rw[z']
   have hz:(x,some j)∈N.zip src:=by
    refine List.mem_of_getElem? (i:=i) ?_
    rw[List.getElem?_zip_eq_some]
    exact⟨h1,by rw[List.getElem?_eq_getElem hi,es]⟩
   obtain⟨u1,u2⟩:=S.up _ hz j rfl
   have m:(x,NameKind.free)∈scope.names:=PySem.mem_of_lookup u2
   have kx:=S.free _ m rfl
   obtain⟨m0,hn0,hl0⟩:=id I.loc
   obtain⟨u,r,lk⟩:=hl0 j x v u1 hj (kx.elim (λz=>.inr (.inl z)) λz=>.inr (.inr z))
   refine⟨u,r,?_⟩
   rcases lk with⟨k,_⟩|⟨_,c,e,ic⟩
   ·have k':X.env.scope.names.lookup x=some .local:=k
    rcases kx with z|z
    ·rw[z]at k'; cases k'
    ·rw[z]at k'; cases k'
   ·refine .inr ⟨Q8 u2,c,?_,?_⟩
    ·have q:=yX (cells:=X.env.cells) (acc:=[]) (.inr ⟨m,by rw[e]; rfl⟩)
     obtain⟨c',e'⟩:=Option.isSome_iff_exists.mp q
     have e2:X.env.cells.lookup x=some c':=by
      rcases uh e' with q|q
      ·simp at q
      ·exact q
     rw[e]at e2; cases e2
     show(cellsFrom (s.heap.objs.size+1) scope.names (iH X.env.cells scope.names [])).lookup x=some c
     rw[qx,vV]
     split
     ·rename_i c2 z
      have y:=S.cells _ (Hz _ _ (PySem.mem_of_lookup z)) rfl
      rw[u2]at y; cases y
     ·exact e'
    ·obtain⟨o,ho,hd⟩:=ic
     exact⟨o,old _ _ ho,hd⟩
 ·rcases vX _ _ e with z|z
  ·exact⟨_,(ck.empty x c (PySem.mem_of_lookup z)).1⟩
  ·obtain⟨v,o,ho,hd⟩:=I.cell x c z
   exact⟨v,o,old _ _ ho,hd⟩
 ·rcases vX _ _ e with z|z
  ·exact I.hok.fresh (Nat.le_of_succ_le (big _ _ z))
  ·exact I.mF x c z
 ·unfold jw
  rw[List.length_map]
  exact S.len
theorem Ri{pins:List (Addr × Obj)}{σ : St}{H:Hp}{s:Shared}{Q:VK}{RR:Value->Addr->Result->Shared->Prop}(hsc:X.env.scope=sc)(nZ:X.N=No)(S:vW sc No N src scope)(hc:X.calm=true)
  (hi:PI X tg iter wi) (hg:∀C s H ex,PG (ig X N scope C s H ex) tg g) (he:∀C s H ex,PE (ig X N scope C s H ex) elt te) (I:Inv X pins σ H s) (h:um wi g src te σ H Q)
  (hRR:∀D C H' s' m,Inv X pins σ H' s'->H' C=none->C≠X.env.locals->X.s₀.heap.objs.size<=C->(∀x c,X.env.cells.lookup x=some c->c≠C)->(∀p∈X.pn++pins,p.1≠C)->s'.heap.Ns C m->Q (.ref D) H'->RR (.ref D) C (.ok .next) s') :
  wpAny (model X.prog X.w) X.A (eval iter X.env) (λx s₁=>wpAny (model X.prog X.w) X.A (pyIter x) (λit s₂=>wpAny (model X.prog X.w) X.A (newList []) (λacc s₃ =>
   wpAny (model X.prog X.w) X.A (newFunctionEnv scope X.env.globals (iH X.env.cells scope.names []) [] X.env.qual none .none (some X.env)) (λcenv s₄ =>
    codeAny (model X.prog X.w) X.A (.compStart (.ListComp elt [⟨tg,iter,[],0⟩] scope pos) 0 it acc {cenv with scope:=relabel scope X.env }) (RR acc cenv.locals) s₄) X.xe s₃) X.xe s₂) X.xe s₁) X.xe s:=by
 refine bJ (hi pins s σ H _ I h) λv s1 h1=>bJ h1 λitv s2 h2=>?_
 obtain⟨it,fp,tn,J,H2,e,I2,T,st2,f2,hW⟩:=h2
 subst e
 have HB:H2 s2.heap.objs.size=none:=I2.hok.fresh (Nat.le_refl _)
 obtain⟨W,⟨m0,w0⟩,turn⟩:=hW s2.heap.objs.size HB
 have yZ:∀b∈fp,b<s2.heap.objs.size:=λb hb=>by
  obtain⟨o,e,_⟩:=T.obj 0 _ st2 b hb
  exact Heap.lt_size e
 refine wpAny_newObj_type ?_
 have I3:Inv X pins σ (upd H2 s2.heap.objs.size (.lst [])) {s2 with heap:=s2.heap.push {cls:=.type "list",dict:=none,data:=.seq ([]:List Value).toArray } }:=I2.ug (t':=s2.toks) (ys:=[]) .nil (Nat.zero_le _)
 have f3:∀b∈fp,lG X pins (upd H2 s2.heap.objs.size (.lst [])) b:=λb hb=>by
  obtain⟨q,r⟩:=f2 b hb
  exact⟨by rw[cP (Nat.ne_of_lt (yZ b hb))]; exact q,r⟩
 have st3:tn 0 (s2.heap.push {cls:=.type "list",dict:=none,data:=.seq ([]:List Value).toArray }):=T.keep _ _ _ st2 λb hb o e=>Heap.get?_push_of_some _ e
 have mQ:∀b∈fp,b<(s2.heap.push {cls:=.type "list",dict:=none,data:=.seq ([]:List Value).toArray }).objs.size:=λb hb=>by
  rw[Heap.size_push]; exact Nat.lt_succ_of_lt (yZ b hb)
 generalize hD:s2.heap.objs.size=D at *
 generalize hh3:s2.heap.push {cls:=.type "list",dict:=none,data:=.seq ([]:List Value).toArray }=h3 at *
 generalize ZK:upd H2 D (.lst [])=H3 at *
 refine Ra λh₁ hns old ck=>?_
 dsimp only at hns old ck ⊢
 have I4:Inv (ig X N scope h3.objs.size {s2 with heap:=h3 } H3 fp) [] (jw src σ) H3 {s2 with heap:=h₁,toks:=s2.toks+([]:List (Str × Value)).length }:=Rg (s:={s2 with heap:=h3 }) hsc nZ S I3 f3 mQ hns old ck
 have zf:tn 0 h₁ := T.keep _ _ _ st3 λb hb o e=>old b o e
 have loop:codeAny (model X.prog X.w) X.A (.compLoop (.ListComp elt [⟨tg,iter,[],0⟩] scope pos) 0 (.ref it) (.ref D) (compEnvC scope (cellsFrom (h3.objs.size+1) scope.names (iH X.env.cells scope.names [])) h3.objs.size X.env)) (RR (.ref D) h3.objs.size) {s2 with heap:=h₁,toks:=s2.toks+([]:List (Str × Value)).length }:=by
  have stat:∀{H':Hp},(∀b∈fp,H' b=none)->∀b∈fp,lG (ig X N scope h3.objs.size {s2 with heap:=h3 } H3 fp) [] H' b:=λhn b hb=>by
   obtain⟨g0,g1,g2,g3,g4,g5⟩:=f3 b hb
   refine⟨hn b hb,Nat.ne_of_lt (mQ b hb),λz=>?_,.inl hb,λx c e=>?_,λp hp=>absurd (show p∈([]:List (Addr × Obj))from hp) (by simp)⟩
   ·rcases List.mem_cons.mp (I3.yH b z)with z|z
    ·exact g1 z
    ·exact g2 z
   ·have e:(cellsFrom (h3.objs.size+1) scope.names (iH X.env.cells scope.names [])).lookup x=some c:=e
    rw[qx,vV]at e
    split at e
    ·rename_i z
     cases e
     exact λy=>absurd (Nat.le_trans (ck.empty x c (PySem.mem_of_lookup z)).2 (y▸Nat.le_of_lt (mQ b hb))) (Nat.not_succ_le_self _)
    ·rcases uh e with q|q
     ·simp at q
     ·exact g4 x c q
  refine ZJ (λn s'=>∃i σ' H',Inv (ig X N scope h3.objs.size {s2 with heap:=h3 } H3 fp) [] σ' H' s'/\tn i s'.heap/\(∀b∈fp,H' b=none)/\W i n σ' H') ?_ m0 ⟨0,jw src σ,H3,I4,zf,λb hb=>(f3 b hb).1,w0⟩
  rintro n s5 ⟨i,σ5,H5,I5,mH,uc,w5⟩
  rcases turn i n σ5 H5 w5 with⟨stop,qn⟩|⟨go,step⟩
  ·refine bJ (T.done (ig X N scope h3.objs.size {s2 with heap:=h3 } H3 fp) rfl rfl rfl hc i [] s5 σ5 H5 (λ_ _=>False) I5 (stat uc) mH stop) λr s6 ⟨hr,I6⟩=>?_
   subst hr
   obtain⟨mC,hnC,_⟩:=id I6.loc
   have I7:Inv X pins σ H5 s6:=I3.call' (ch:=fp) I6.os I6.base I6.hok I6.bare λb hb=>by
    obtain⟨g0,g1,g2,g3,g4,g5⟩:=f3 b hb
    exact⟨g3,g1,g4,g5⟩
   refine hRR D h3.objs.size H5 s6 mC I7 I6.free (Nat.ne_of_gt I3.lt) I3.sz (λx c e z=>?_) (λp hp z=>?_) hnC qn
   ·obtain⟨v,q⟩:=I3.cell x c e
    exact absurd q.lt (by rw[z]; exact Nat.lt_irrefl _)
   ·exact absurd (Heap.lt_size (I3.pin p hp).1) (by rw[z]; exact Nat.lt_irrefl _)
  ·refine bJ (T.item (ig X N scope h3.objs.size {s2 with heap:=h3 } H3 fp) rfl rfl rfl hc i [] s5 σ5 H5 (λ_ _=>False) I5 (stat uc) mH go) λr s6 ⟨u,hr,h6⟩=>?_
   subst hr
   refine bJ h6 λ_ s7 ⟨x,H7,I7,r7,y7,qy,HD⟩=>?_
   have HF:=I7.pinned (stat HD) (T.obj _ _ qy)
   refine bJ (hg _ _ _ _ _ s7 σ5 H7 x u _ HF r7 (step x H7 y7)) λ_ s8 ⟨σ8,H8,I8,q8⟩=>?_
   refine bJ (he _ _ _ _ _ s8 σ8 H8 _ I8 q8) λyv s9 ⟨y,H9,I9,r9,q9⟩=>?_
   obtain⟨xs,e9,l9,m',hm,w9⟩:=q9
   refine bJ (Q0 (X:=ig X N scope h3.objs.size {s2 with heap:=h3 } H3 fp) _ s9 σ8 H9 (.ref D) [y] (.ref D) [yv] (λ_ H'=>W (i+1) m' σ8 H') I9 rfl (.cons r9 .nil) ⟨D,xs,y,rfl,rfl,e9,l9,w9⟩) λ_ ZL ⟨_,HJ,uo,_,HN⟩=>?_
   refine⟨m',hm,i+1,σ8,HJ,uo.vO (pins:=[]),T.keep _ _ _ qy λb hb o e=>(uo.pin (b,o) (List.mem_append_right _ (List.mem_append_right _ (rM hb e)))).1,λb hb=>?_,HN⟩
   obtain⟨o,e,d⟩:=T.obj _ _ qy b hb
   exact(uo.pin (b,o) (List.mem_append_right _ (List.mem_append_right _ (rM hb e)))).2.1
 exact codeAny_compStart_list loop (T.self _ _ _ _ _ zf loop)
theorem mR(hsc:X.env.scope=sc)(nZ:X.N=No)(S:vW sc No N src scope)(hc:X.calm=true)
  (hi:PI X tg iter wi) (hg:∀C s H ex,PG (ig X N scope C s H ex) tg g) (he:∀C s H ex,PE (ig X N scope C s H ex) elt te)
  (hs:∀x,foldedSetIterable iter X.env x=pure x:=by intro _; rfl):PE X (.ListComp elt [⟨tg,iter,[],0⟩] scope pos) (um wi g src te):=by
 refine⟨λpins s σ H Q I h=>?_⟩
 rw[eval_ListComp]
 have hcl:closureFor scope X.env=pure (iH X.env.cells scope.names []):=Hy λy hy e=>by
  have k:=S.free y hy e
  rw[<-hsc]at k
  obtain⟨c,q⟩:=I.ok.has y.1 k
  rw[q]; rfl
 refine wpAny_comprehension_free (use:=none) rfl hs hcl S.kind S.names (Ri (RR:=λacc C=>compPost (model X.prog X.w) X.A X.xe none (EP X pins σ Q) acc C) hsc nZ S hc hi hg he I h ?_)
 intro D C H' s' m I' n1 n2 n3 n4 n5 hn q
 refine⟨m,hn,λh' hs'=>⟨.ref D,H',?_,rfl,q⟩⟩
 exact I'.turned (t':=s'.toks) (λb o hb e=>(hs'.2 b hb).trans e) n1 (Ne.symm (Ne.symm n2)) (.inr n3) n4 n5
theorem zm{i:Nat}{y:Str}{py spos:Pos}(hN:X.N.Nodup)(ZM:X.N[i]?=some y)(hy:Loc X.env.scope y)(hsc:X.env.scope=sc)(nZ:X.N=No)(S:vW sc No N src scope)(hc:X.calm=true)
  (hi:PI X tg iter wi) (hg:∀C s H ex,PG (ig X N scope C s H ex) tg g) (he:∀C s H ex,PE (ig X N scope C s H ex) elt te)
  (hsw:swapsWith (.ListComp elt [⟨tg,iter,[],0⟩] scope pos) (some (.Name y py)) spos.line X.env=pure true:=by rfl) (hs:∀x,foldedSetIterable iter X.env x=pure x:=by intro _; rfl)
  (hf:X.fn y=true\/X.env.scope.names.lookup y=some .local:=by first|exact .inl rfl|exact .inr rfl|assumption) :
  PS X (.Assign [.Name y py] (.ListComp elt [⟨tg,iter,[],0⟩] scope pos) spos) (rJ (um wi g src te) (fQ i)):=by
 refine⟨λpins s σ H D I h=>?_⟩
 rw[exec_Assign_Name_used _ _ _ _ hsw]
 have hcl:closureFor scope X.env=pure (iH X.env.cells scope.names []):=Hy λy hy e=>by
  have k:=S.free y hy e
  rw[<-hsc]at k
  obtain⟨c,q⟩:=I.ok.has y.1 k
  rw[q]; rfl
 refine wpAny_bind (wpAny_standAt (wpAny_bind ?_))
 show wpAny _ X.A (do let _ <-comprehension (.ListComp elt [⟨tg,iter,[],0⟩] scope pos) scope X.env _ (newList []) false (eval iter X.env) (some (assign (.Name y py) X.env))) _ _ s
 refine wpAny_bind (wpAny_mono (wpAny_comprehension_free (use:=some (assign (.Name y py) X.env)) (Q:=λ_ s'=>SP X pins D .next s') rfl hs hcl S.kind S.names
  (Ri (Q:=λv H'=>D.nx (σ.set i (some v)) H') (RR:=λacc C=>compPost (model X.prog X.w) X.A X.xe (some (assign (.Name y py) X.env)) (λ_ s'=>SP X pins D .next s') acc C) hsc nZ S hc hi hg he I h ?_)) (λ_ s' hq=>wpAny_pure (wpAny_pure hq)) λ_ _ e=>e)
 intro Da C H' s' m I' n1 n2 n3 n4 n5 hn q
 show wpAny _ X.A (assign (.Name y py) X.env (.ref Da)) _ _ _
 refine wpAny_assign_Name (Oz I' hN ZM hy (v:=.ref Da) rfl (λs2 I2 hsame=>?_) hf)
 obtain⟨a,hsb,ha⟩:=hsame
 have ZP:C≠a:=by
  rcases ha with z|z
  ·rw[z]; exact n2
  ·exact λe=>n4 y a z e.symm
 refine⟨m,hn.sameBut hsb ZP,λh' hs'=>⟨σ.set i (some (.ref Da)),H',?_,q⟩⟩
 exact I2.turned (t':=s2.toks) (λb o hb e=>(hs'.2 b hb).trans e) n1 n2 (.inr n3) n4 n5
end
section
variable {K:FZ}{g:TG}{te:TE}{Q:VK}
end
end L2
end
section
namespace L2
open PySem PySem.Spec PyProof.Rows
def Ca(e C:Addr)(h:Heap):Prop:=∃o vs,h.get? e=some o/\o.cls=.ref C/\o.data=.fields vs
def nA(e C:Addr):HO:=.ext (Ca e C)
def nC:List Str:=["NoBottom", "NoBook", "NoList", "NoRule", "NoCount", "NoLooks", "NoThings", "NotSure", "NoSlack", "NoThing", "NoWorth", "TooMany", "NoText", "NoLine"]
inductive Tr where
 |non|bl (b:Bool)|int (i:Int)|str (x:Str)|tup (ts:List Tr)|lst (ts:List Tr)|cF (c:Str)
mutual
inductive Rep(K:FZ)(H:Hp):V->Tr->Prop
 |non:Rep K H .non .non
 |bl (b:Bool):Rep K H (.bl b) (.bl b)
 |int (i:Int):Rep K H (.int i) (.int i)
 |str (x:Str):Rep K H (.str x) (.str x)
 |tup {a:Addr} {xs:List V} {ts:List Tr} (h:dZ K H a xs) (r:aQ K H xs ts):Rep K H (.ref a) (.tup ts)
 |lst {a:Addr} {xs:List V} {ts:List Tr} (h:cJ K H a xs) (r:aQ K H xs ts):Rep K H (.ref a) (.lst ts)
 |cF {a C:Addr} {c:Str} (h:H a=some (nA a C)) (m:c∈nC) (n:PySem.W.nsIn K mainGlobals c=some (some (.ref C))):Rep K H (.ref a) (.cF c)
inductive aQ(K:FZ)(H:Hp):List V->List Tr->Prop
 |nil:aQ K H [] []
 |cons {x:V} {t:Tr} {xs:List V} {ts:List Tr} (h:Rep K H x t) (r:aQ K H xs ts):aQ K H (x::xs) (t::ts)
end
theorem Same.vY{K:FZ}{H H':Hp}{a:Addr}{xs:List V}(e:Same H H')(h:dZ K H a xs):dZ K H' a xs:=by
 rcases h with(h|⟨o,h⟩)|h
 ·exact .inl (.inl (e _ _ h))
 ·exact .inl (.inr ⟨o,e _ _ h⟩)
 ·exact .inr h
mutual
theorem Rep.mono{K:FZ}{H H':Hp}(e:Same H H'):∀{v:V} {t:Tr},Rep K H v t->Rep K H' v t
 |_,_,.non=>.non
 |_,_,.bl b=>.bl b
 |_,_,.int i=>.int i
 |_,_,.str x=>.str x
 |_,_,.tup h r=>.tup (e.vY h) (aQ.mono e r)
 |_,_,.lst h r=>.lst (e.seq h) (aQ.mono e r)
 |_,_,.cF h m n=>.cF (e _ _ h) m n
theorem aQ.mono{K:FZ}{H H':Hp}(e:Same H H'):∀{v:List V} {t:List Tr},aQ K H v t->aQ K H' v t
 |_,_,.nil=>.nil
 |_,_,.cons h r=>.cons (Rep.mono e h) (aQ.mono e r)
end
theorem aQ.length{K:FZ}{H:Hp}:∀{v:List V} {t:List Tr},aQ K H v t->v.length=t.length
 |_,_,.nil=>rfl
 |_,_,.cons _ r=>by rw[List.length_cons,List.length_cons,aQ.length r]
theorem aQ.get{K:FZ}{H:Hp}:∀{v:List V} {t:List Tr} {i:Nat} {x:V},aQ K H v t->v[i]?=some x->∃u,t[i]?=some u/\Rep K H x u
 |_,_,_,_,.nil,e=>by simp at e
 |_,_,0,_,.cons h _,e=>by
  simp at e
  subst e
  exact⟨_,rfl,h⟩
 |_,_,i+1,x,.cons _ r,e=>by
  obtain⟨u,h1,h2⟩:=aQ.get (i:=i) (x:=x) r (by simpa using e)
  exact⟨u,by simpa using h1,h2⟩
theorem aQ.app{K:FZ}{H:Hp}:∀{v w:List V} {t u:List Tr},aQ K H v t->aQ K H w u->aQ K H (v++w) (t++u)
 |_,_,_,_,.nil,s=>s
 |_,_,_,_,.cons h r,s=>.cons h (aQ.app r s)
theorem aQ.take{K:FZ}{H:Hp}:∀{v:List V} {t:List Tr} (n:Nat),aQ K H v t->aQ K H (v.take n) (t.take n)
 |_,_,0,_=>by rw[List.take_zero,List.take_zero]; exact .nil
 |_,_,n+1,.nil=>by simpa using aQ.nil
 |_,_,n+1,.cons h r=>by
  rw[List.take_succ_cons,List.take_succ_cons]
  exact .cons h (aQ.take n r)
theorem aQ.drop{K:FZ}{H:Hp}:∀{v:List V} {t:List Tr} (n:Nat),aQ K H v t->aQ K H (v.drop n) (t.drop n)
 |_,_,0,r=>by rw[List.drop_zero,List.drop_zero]; exact r
 |_,_,n+1,.nil=>by simpa using aQ.nil
 |_,_,n+1,.cons h r=>by
  rw[List.drop_succ_cons,List.drop_succ_cons]
  exact aQ.drop n r
mutual
noncomputable def dep:Tr->Nat
 |.tup ts=>deps ts+1
 |.lst ts=>deps ts+1
 |.cF _=>100
 |_=>0
noncomputable def deps:List Tr->Nat
 | []=>0
 |t::r=>max (dep t) (deps r)
end
mutual
noncomputable def eqT:Tr->Tr->Bool
 |.non,.non=>true
 |.bl a,.bl b=>a == b
 |.bl a,.int b=>(if a then 1 else 0) == b
 |.int a,.bl b=>a == (if b then 1 else 0)
 |.int a,.int b=>a == b
 |.str a,.str b=>a == b
 |.tup a,.tup b=>pq a b
 |.lst a,.lst b=>pq a b
 |.cF a,.cF b=>a == b
 |_,_=>false
noncomputable def pq:List Tr->List Tr->Bool
 | [],[]=>true
 |a::x,b::y=>eqT a b&&pq x y
 |_,_=>false
end
mutual
theorem Cd:∀t:Tr,eqT t t=true
 |.non=>rfl
 |.bl b=>by unfold eqT; exact beq_self_eq_true b
 |.int i=>by unfold eqT; exact beq_self_eq_true i
 |.str x=>by unfold eqT; exact beq_self_eq_true x
 |.tup ts=>by unfold eqT; exact HS ts
 |.lst ts=>by unfold eqT; exact HS ts
 |.cF c=>by unfold eqT; exact beq_self_eq_true c
theorem HS:∀ts:List Tr,pq ts ts=true
 | []=>rfl
 |t::r=>by unfold pq; rw[Cd t,HS r]; rfl
end
theorem zp:∀{a b:List Tr},a.length≠b.length->pq a b=false
 | [],[],h=>absurd rfl h
 | [],_::_,_=>rfl
 |_::_,[],_=>rfl
 |x::a,y::b,h=>by
  unfold pq
  rw[zp (a:=a) (b:=b) (by simpa using h),Bool.and_false]
def qz(a b:List Tr)(j:Nat):Bool:=match a[j]?,b[j]? with
 |some x,some y=>eqT x y
 |_,_=>true
theorem zq:∀{a b:List Tr},a.length=b.length->(List.range a.length).all (qz a b)=pq a b
 | [],[],_=>rfl
 | [],_::_,h=>by cases h
 |_::_,[],h=>by cases h
 |x::a,y::b,h=>by
  have ih:=zq (a:=a) (b:=b) (by simpa using h)
  rw[List.length_cons,List.range_succ_eq_map,List.all_cons,List.all_map]
  unfold pq
  rw[<-ih]
  rfl
section
variable {X:Cx}{pins:List (Addr × Obj)}{σ : St}{H:Hp}{s:Shared}
theorem Inv.ZQ(I:Inv X pins σ H s){a C:Addr}{its:Array Value}(h:H a=some (nA a C))(p:IsTup s.heap a its):False:=by
 obtain⟨o,_,e1,e2,_⟩:=(I.hok a _ h).1
 obtain⟨o',e1',e2',_⟩:=p
 rw[e1]at e1'
 cases e1'
 rw[e2]at e2'
 cases e2'
theorem Inv.ZR(I:Inv X pins σ H s){a C:Addr}{its:Array Value}(h:H a=some (nA a C))(p:PlainL s.heap a its):False:=by
 obtain⟨o,_,e1,e2,_⟩:=(I.hok a _ h).1
 obtain⟨o',_,e1',e2',_⟩:=p
 rw[e1]at e1'
 cases e1'
 rw[e2]at e2'
 cases e2'
mutual
theorem Rep.inj(I:Inv X pins σ H s):∀{v:V} {t u:Tr},dep t<=99->Rep X.K H v t->Rep X.K H v u->t=u
 |_,_,_,_,.non,.non=>rfl
 |_,_,_,_,.bl _,.bl _=>rfl
 |_,_,_,_,.int _,.int _=>rfl
 |_,_,_,_,.str _,.str _=>rfl
 |_,_,_,d,.tup h r,.tup h' r'=>by
  have e:=I.Pb h h'
  subst e
  rw[aQ.inj I (by unfold dep at d; omega) r r']
 |_,_,_,d,.lst h r,.lst h' r'=>by
  have e:=I.Bt h h'
  subst e
  rw[aQ.inj I (by unfold dep at d; omega) r r']
 |_,_,_,_,.tup h r,.lst h' r'=>by
  obtain⟨_,_,p,_⟩:=I.tuple h
  obtain⟨_,_,p',_⟩:=I.list h'
  exact absurd rfl (SeqAt.ne_of_list_tuple p'.isList p)
 |_,_,_,_,.lst h r,.tup h' r'=>by
  obtain⟨_,_,p,_⟩:=I.tuple h'
  obtain⟨_,_,p',_⟩:=I.list h
  exact absurd rfl (SeqAt.ne_of_list_tuple p'.isList p)
 |_,_,_,d,.cF h _ n,_=>by unfold dep at d; omega
 |_,_,_,_,.tup h r,.cF h' _ _=>by
  obtain⟨_,_,p,_⟩:=I.tuple h
  exact(I.ZQ h' p).elim
 |_,_,_,_,.lst h r,.cF h' _ _=>by
  obtain⟨_,_,p,_⟩:=I.list h
  exact(I.ZR h' p).elim
theorem aQ.inj(I:Inv X pins σ H s):∀{v:List V} {t u:List Tr},deps t<=99->aQ X.K H v t->aQ X.K H v u->t=u
 |_,_,_,_,.nil,.nil=>rfl
 |_,_,_,d,.cons h r,.cons h' r'=>by
  unfold deps at d
  rw[Rep.inj I (by omega) h h',aQ.inj I (by omega) r r']
end
theorem in1_units(A:Around):A.in1.units<=A.units+1:=by
 show A.units+1<=_
 omega
theorem Ce{xs:List V}{its:List Value}{j:Nat}(r:Vals xs its)(h:j<its.toArray.size):∃x,xs[j]?=some x/\RelV x its.toArray[j]:=by
 have h':j<its.length:=by simpa using h
 have hx:j<xs.length:=by rw[r.length]; exact h'
 obtain⟨u,h1,h2⟩:=r.get (List.getElem?_eq_getElem hx)
 refine⟨xs[j],List.getElem?_eq_getElem hx,?_⟩
 have e:u=its.toArray[j]:=by
  rw[List.getElem?_eq_getElem h']at h1
  have:=Option.some.inj h1
  simpa using this.symm
 rw[<-e]; exact h2
theorem Rj{a b:List Tr}{j:Nat}{x y:Tr}(h1:a[j]?=some x)(h2:b[j]?=some y):qz a b j=eqT x y:=by
 unfold qz
 rw[h1,h2]
theorem rZ:∀{ts:List Tr} {j:Nat} {t:Tr},ts[j]?=some t->dep t<=deps ts
 | [],_,_,h=>by simp at h
 |x::r,0,t,h=>by
  simp at h
  subst h
  unfold deps
  exact Nat.le_max_left _ _
 |x::r,j+1,t,h=>by
  have:=rZ (ts:=r) (j:=j) (t:=t) (by simpa using h)
  unfold deps
  exact Nat.le_trans this (Nat.le_max_right _ _)
theorem zu(I:Inv X pins σ H s)(A:Around)(t u:Tr)(x y:V)(xv yv:Value)(hu:A.units+0<cLine)(hd:dep t<=0)(du:dep u<=99)(rx:Rep X.K H x t)(ry:Rep X.K H y u)(vx:RelV x xv)(vy:RelV y yv) :
  SeqAt.RcAt A s xv yv (eqT t u)/\SeqAt.EqAt A s xv yv (eqT t u):=by
 have hu0:A.units<cLine:=by omega
 cases rx with
 |tup h r=>unfold dep at hd; omega
 |lst h r=>unfold dep at hd; omega
 |cF h m n=>unfold dep at hd; omega
 |non =>
  cases vx
  cases ry with
  |non=>cases vy; unfold eqT; exact⟨SeqAt.RcAt.none_none,.same _⟩
  |bl b2=>cases vy; unfold eqT; exact⟨SeqAt.RcAt.none_bool _,SeqAt.EqAt.none_bool _⟩
  |int i2=>obtain⟨_,rfl⟩:=vy; unfold eqT; exact⟨SeqAt.RcAt.none_int _ _,SeqAt.EqAt.none_int _ _⟩
  |str z2=>obtain⟨_,rfl⟩:=vy; unfold eqT; exact⟨SeqAt.RcAt.none_str _ _,SeqAt.EqAt.none_str _ _⟩
  |tup h r=>cases vy; obtain⟨_,_,p,_⟩:=I.tuple h; unfold eqT; exact⟨SeqAt.RcAt.none_tuple p hu0,SeqAt.EqAt.none_tuple p hu0⟩
  |lst h r=>cases vy; obtain⟨_,_,p,_⟩:=I.list h; unfold eqT; exact⟨SeqAt.RcAt.none_list p.isList hu0,SeqAt.EqAt.none_list p.isList hu0⟩
  |cF h m n=>unfold dep at du; omega
 |bl b =>
  cases vx
  cases ry with
  |non=>cases vy; unfold eqT; exact⟨SeqAt.RcAt.bool_none _,SeqAt.EqAt.bool_none _⟩
  |bl b2=>cases vy; unfold eqT; exact⟨SeqAt.RcAt.bool_bool _ _,SeqAt.EqAt.bool_bool _ _⟩
  |int i2=>obtain⟨_,rfl⟩:=vy; unfold eqT; exact⟨SeqAt.RcAt.bool_int _ _ _,SeqAt.EqAt.bool_int _ _ _⟩
  |str z2=>obtain⟨_,rfl⟩:=vy; unfold eqT; exact⟨SeqAt.RcAt.bool_str _ _ _,SeqAt.EqAt.bool_str _ _ _⟩
  |tup h r=>cases vy; obtain⟨_,_,p,_⟩:=I.tuple h; unfold eqT; exact⟨SeqAt.RcAt.bool_tuple _ p hu0,SeqAt.EqAt.bool_tuple _ p hu0⟩
  |lst h r=>cases vy; obtain⟨_,_,p,_⟩:=I.list h; unfold eqT; exact⟨SeqAt.RcAt.bool_list _ p.isList hu0,SeqAt.EqAt.bool_list _ p.isList hu0⟩
  |cF h m n=>unfold dep at du; omega
 |int i =>
  obtain⟨_,rfl⟩:=vx
  cases ry with
  |non=>cases vy; unfold eqT; exact⟨SeqAt.RcAt.int_none _ _,SeqAt.EqAt.int_none _ _⟩
  |bl b2=>cases vy; unfold eqT; exact⟨SeqAt.RcAt.int_bool _ _ _,SeqAt.EqAt.int_bool _ _ _⟩
  |int i2=>obtain⟨_,rfl⟩:=vy; unfold eqT; exact⟨SeqAt.RcAt.int_int _ _ _ _,SeqAt.EqAt.int_int _ _ _ _⟩
  |str z2=>obtain⟨_,rfl⟩:=vy; unfold eqT; exact⟨SeqAt.RcAt.int_str _ _ _ _,SeqAt.EqAt.int_str _ _ _ _⟩
  |tup h r=>cases vy; obtain⟨_,_,p,_⟩:=I.tuple h; unfold eqT; exact⟨SeqAt.RcAt.int_tuple _ _ p hu0,SeqAt.EqAt.int_tuple _ _ p hu0⟩
  |lst h r=>cases vy; obtain⟨_,_,p,_⟩:=I.list h; unfold eqT; exact⟨SeqAt.RcAt.int_list _ _ p.isList hu0,SeqAt.EqAt.int_list _ _ p.isList hu0⟩
  |cF h m n=>unfold dep at du; omega
 |str z =>
  obtain⟨_,rfl⟩:=vx
  cases ry with
  |non=>cases vy; unfold eqT; exact⟨SeqAt.RcAt.str_none _ _,SeqAt.EqAt.str_none _ _⟩
  |bl b2=>cases vy; unfold eqT; exact⟨SeqAt.RcAt.str_bool _ _ _,SeqAt.EqAt.str_bool _ _ _⟩
  |int i2=>obtain⟨_,rfl⟩:=vy; unfold eqT; exact⟨SeqAt.RcAt.str_int _ _ _ _,SeqAt.EqAt.str_int _ _ _ _⟩
  |str z2=>obtain⟨_,rfl⟩:=vy; unfold eqT; exact⟨SeqAt.RcAt.str_str _ _ _ _,SeqAt.EqAt.str_str _ _ _ _⟩
  |tup h r=>cases vy; obtain⟨_,_,p,_⟩:=I.tuple h; unfold eqT; exact⟨SeqAt.RcAt.str_tuple _ _ p hu0,SeqAt.EqAt.str_tuple _ _ p hu0⟩
  |lst h r=>cases vy; obtain⟨_,_,p,_⟩:=I.list h; unfold eqT; exact⟨SeqAt.RcAt.str_list _ _ p.isList hu0,SeqAt.EqAt.str_list _ _ p.isList hu0⟩
  |cF h m n=>unfold dep at du; omega
theorem HW(I:Inv X pins σ H s):∀(n:Nat) (A:Around) (t u:Tr) (x y:V) (xv yv:Value),A.units+n<cLine->dep t<=n->dep t<=99->dep u<=99->Rep X.K H x t->Rep X.K H y u->RelV x xv->RelV y yv ->
  SeqAt.RcAt A s xv yv (eqT t u)/\SeqAt.EqAt A s xv yv (eqT t u):=by
 intro n
 induction n with
 |zero=>exact λA t u x y xv yv hu hd _ du rx ry vx vy=>zu I A t u x y xv yv hu hd du rx ry vx vy
 |succ n ih =>
  intro A t u x y xv yv hu hd vZ du rx ry vx vy
  have hu0:A.units<cLine:=by omega
  have hu1:A.in1.units+n<cLine:=by
   have:=in1_units A
   omega
  have he:∀{xs ys:List V} {ts us:List Tr} {its its2:List Value},Vals xs its->Vals ys its2->aQ X.K H xs ts->aQ X.K H ys us->deps ts<=n->deps ts<=99->deps us<=99->∀j (h1:j<its.toArray.size) (h2:j<its2.toArray.size),SeqAt.EqAt A.in1 s its.toArray[j] its2.toArray[j] (qz ts us j):=by
   intro xs ys ts us its its2 r1 r2 q1 q2 hde ZS Rk j h1 h2
   obtain⟨a,ea,ra⟩:=Ce r1 h1
   obtain⟨b,eb,rb⟩:=Ce r2 h2
   obtain⟨ta,eta,qa⟩:=q1.get ea
   obtain⟨tb,zx,qb⟩:=q2.get eb
   rw[Rj eta zx]
   exact(ih A.in1 ta tb a b _ _ hu1 (Nat.le_trans (rZ eta) hde) (Nat.le_trans (rZ eta) ZS) (Nat.le_trans (rZ zx) Rk) qa qb ra rb).2
  have dt:∀{ts:List Tr},dep (.tup ts)<=n+1->deps ts<=n:=λ{ts} h=>by unfold dep at h; omega
  have dl:∀{ts:List Tr},dep (.lst ts)<=n+1->deps ts<=n:=λ{ts} h=>by unfold dep at h; omega
  have nt:∀{ts:List Tr},dep (.tup ts)<=99->deps ts<=99:=λ{ts} h=>by unfold dep at h; omega
  have nl:∀{ts:List Tr},dep (.lst ts)<=99->deps ts<=99:=λ{ts} h=>by unfold dep at h; omega
  have refs:∀{a b:Addr} {t u:Tr} {k:Bool},dep t<=99->Rep X.K H (.ref a) t->Rep X.K H (.ref b) u->k=eqT t u->SeqAt.RcAt A s (.ref a) (.ref b) k->SeqAt.EqAt A s (.ref a) (.ref b) k:=λ{a b t u k} d9 r1 r2 ek h=>by
   by_cases e:a=b
   ·subst e
    have:=Rep.inj I d9 r1 r2
    subst this
    rw[ek,Cd]
    exact .same _
   ·exact .of_refs e h
  cases rx with
  | @tup a1 xs1 ts h r =>
   cases vx
   obtain⟨its,rv,p,_⟩:=I.tuple h
   cases ry with
   | @tup a2 xs2 us h' r' =>
    cases vy
    obtain⟨its2,jZ,p2,_⟩:=I.tuple h'
    have R:=SeqAt.RcAt.tuples p p2 hu0 (he rv jZ r r' (dt hd) (nt vZ) (nt du))
    have el:its.toArray.size=ts.length:=by simpa using(rv.length.symm.trans r.length)
    have el2:its2.toArray.size=us.length:=by simpa using(jZ.length.symm.trans r'.length)
    rw[el,el2]at R
    have eb:((List.range (min ts.length us.length)).all (qz ts us)&&ts.length == us.length)=eqT (.tup ts) (.tup us):=by
     unfold eqT
     by_cases e:ts.length=us.length
     ·rw[e,Nat.min_self,<-e,zq e,beq_self_eq_true,Bool.and_true]
     ·rw[beq_false_of_ne e,Bool.and_false,zp e]
    rw[eb]at R
    exact⟨R,refs vZ (.tup h r) (.tup h' r') rfl R⟩
   |lst h' r' =>
    cases vy
    obtain⟨_,_,p2,_⟩:=I.list h'
    unfold eqT
    exact⟨SeqAt.RcAt.tuple_list p p2.isList hu0,.tuple_list p p2.isList hu0⟩
   |cF h' m n=>unfold dep at du; omega
   |non=>cases vy; unfold eqT; exact⟨SeqAt.RcAt.tuple_none p hu0,.tuple_none p hu0⟩
   |bl b=>cases vy; unfold eqT; exact⟨SeqAt.RcAt.tuple_bool _ p hu0,.tuple_bool _ p hu0⟩
   |int i=>obtain⟨_,rfl⟩:=vy; unfold eqT; exact⟨SeqAt.RcAt.tuple_int _ _ p hu0,.tuple_int _ _ p hu0⟩
   |str z=>obtain⟨_,rfl⟩:=vy; unfold eqT; exact⟨SeqAt.RcAt.tuple_str _ _ p hu0,.tuple_str _ _ p hu0⟩
  | @lst a1 xs1 ts h r =>
   cases vx
   obtain⟨its,rv,p,_⟩:=I.list h
   cases ry with
   | @lst a2 xs2 us h' r' =>
    cases vy
    obtain⟨its2,jZ,p2,_⟩:=I.list h'
    have el:its.toArray.size=ts.length:=by simpa using(rv.length.symm.trans r.length)
    have el2:its2.toArray.size=us.length:=by simpa using(jZ.length.symm.trans r'.length)
    by_cases e:ts.length=us.length
    ·have R:=SeqAt.RcAt.lists p.isList p2.isList (by rw[el,el2,e]) hu0 (he rv jZ r r' (dl hd) (nl vZ) (nl du))
     rw[el,zq e]at R
     have eb:pq ts us=eqT (.lst ts) (.lst us):=by unfold eqT; rfl
     rw[eb]at R
     exact⟨R,refs vZ (.lst h r) (.lst h' r') rfl R⟩
    ·have R:SeqAt.RcAt A s _ _ false:=SeqAt.RcAt.lists_lengths p.isList p2.isList (by rw[el,el2]; simpa using e) hu0
     have eb:false=eqT (.lst ts) (.lst us):=by unfold eqT; rw[zp e]
     rw[eb]at R
     exact⟨R,refs vZ (.lst h r) (.lst h' r') rfl R⟩
   |tup h' r' =>
    cases vy
    obtain⟨_,_,p2,_⟩:=I.tuple h'
    unfold eqT
    exact⟨SeqAt.RcAt.list_tuple p.isList p2 hu0,.list_tuple p.isList p2 hu0⟩
   |cF h' m n=>unfold dep at du; omega
   |non=>cases vy; unfold eqT; exact⟨SeqAt.RcAt.list_none p.isList hu0,.list_none p.isList hu0⟩
   |bl b=>cases vy; unfold eqT; exact⟨SeqAt.RcAt.list_bool _ p.isList hu0,.list_bool _ p.isList hu0⟩
   |int i=>obtain⟨_,rfl⟩:=vy; unfold eqT; exact⟨SeqAt.RcAt.list_int _ _ p.isList hu0,.list_int _ _ p.isList hu0⟩
   |str z=>obtain⟨_,rfl⟩:=vy; unfold eqT; exact⟨SeqAt.RcAt.list_str _ _ p.isList hu0,.list_str _ _ p.isList hu0⟩
  |cF h m n=>unfold dep at vZ; omega
  |non=>exact zu I A _ _ _ _ _ _ (by omega) (by unfold dep; omega) du .non ry vx vy
  |bl b=>exact zu I A _ _ _ _ _ _ (by omega) (by unfold dep; omega) du (.bl b) ry vx vy
  |int i=>exact zu I A _ _ _ _ _ _ (by omega) (by unfold dep; omega) du (.int i) ry vx vy
  |str z=>exact zu I A _ _ _ _ _ _ (by omega) (by unfold dep; omega) du (.str z) ry vx vy
end
end L2
end
section
namespace L2
open PySem PySem.Spec PyProof.Rows
section
variable {X:Cx}{a b:Expr}{ta tb:TE}{pos:Pos}
def HX(K:FZ):R2:=λx y H Q=>∃t u,Rep K H x t/\Rep K H y u/\dep t<=40/\dep u<=40/\Q (.bl (eqT t u)) H
theorem fJ(hu:X.A.units+64<cLine):c7 X (compareOp .Eq) (HX X.K):=by
 intro pins s σ H x y v u Q I rx ry h
 obtain⟨t,t',q1,q2,hd,hd2,q⟩:=h
 exact(HW I 40 X.A t t' x y v u (by omega) hd (by omega) (by omega) q1 q2 rx ry).1 _ _ _ _ ⟨.bl _,H,I,rfl,q⟩
def su(t:Tr)(ts:List Tr):Bool:=ts.any λu=>eqT u t
def HY(K:FZ):R2:=λx y H Q=>∃t ts p xs,Rep K H x t/\y=.ref p/\(cJ K H p xs\/dZ K H p xs)/\aQ K H xs ts/\deps ts<=40/\dep t<=40/\Q (.bl (su t ts)) H
theorem Rm{xs:List V}{its:List Value}{ts:List Tr}{K:FZ}{H:Hp}(f:Tr->Bool)(e:Value->Bool)(r:Vals xs its)(q:aQ K H xs ts)(h:∀x v t,x∈xs->RelV x v->Rep K H x t->t∈ts->e v=f t):its.any e=ts.any f:=by
 induction r generalizing ts with
 |nil=>cases q; rfl
 |cons r1 r2 ih =>
  cases q with
  |cons q1 q2 =>
   rw[List.any_cons,List.any_cons,h _ _ _ List.mem_cons_self r1 q1 List.mem_cons_self,ih q2 λx v t hx hr hq ht=>h x v t (List.mem_cons_of_mem _ hx) hr hq (List.mem_cons_of_mem _ ht)]
theorem Ia:∀{ts:List Tr} {t:Tr},t∈ts->dep t<=deps ts:=λ{ts t} h=>by
 obtain⟨i,hi,e⟩:=List.mem_iff_getElem.mp h
 exact rZ (j:=i) (by rw[List.getElem?_eq_getElem hi,e])
open Classical in
theorem sy(hu:X.A.units+64<cLine):c7 X (compareOp .In) (HY X.K):=by
 intro pins s σ H x y v u Q I rx ry h
 obtain⟨t,ts,p,xs,q1,rfl,hq,qs,hd,hd2,q⟩:=h
 cases ry
 have hu1:X.A.in1.units+40<cLine:=by
  have:=in1_units X.A
  omega
 -- what == tells of an item,by the item itself
 let e:Value->Bool:=λw'=>if h:∃z tz,z∈xs/\RelV z w'/\Rep X.K H z tz/\tz∈ts then eqT (Classical.choose (Classical.choose_spec h)) t else false
 have ee:∀z w' tz,z∈xs->RelV z w'->Rep X.K H z tz->tz∈ts->e w'=eqT tz t:=λz w' tz h1 h2 h3 h4=>by
  have hx:∃z tz,z∈xs/\RelV z w'/\Rep X.K H z tz/\tz∈ts:=⟨z,tz,h1,h2,h3,h4⟩
  show(if h:_ then _ else _)=_
  rw[dif_pos hx]
  have sp:=Classical.choose_spec (Classical.choose_spec hx)
  have key:∀z z' t1 t2,RelV z w'->RelV z' w'->dep t1<=99->Rep X.K H z t1->Rep X.K H z' t2->t1=t2:=λz z' t1 t2 a1 a2 d9 a3 a4=>by
   obtain rfl:=RelV.inj a1 a2
   exact Rep.inj I d9 a3 a4
  rw[key _ _ _ _ sp.2.1 h2 (by have:=Ia sp.2.2.2; omega) sp.2.2.1 h3]
 have mem:∀{its:List Value},Vals xs its->∀w'∈its,SeqAt.EqAt X.A.in1 s w' v (e w'):=by
  intro its r w' hw
  obtain⟨j,hj,ej⟩:=List.mem_iff_getElem.mp hw
  have hjx:j<xs.length:=by rw[r.length]; exact hj
  obtain⟨u',h1,h2⟩:=r.get (List.getElem?_eq_getElem hjx)
  rw[List.getElem?_eq_getElem hj,ej]at h1
  cases h1
  obtain⟨tz,h3,h4⟩:=qs.get (List.getElem?_eq_getElem hjx)
  have hm:=List.mem_of_getElem? h3
  rw[ee _ _ tz (List.getElem_mem hjx) h2 h4 hm]
  exact(HW I 40 X.A.in1 tz t _ x _ v hu1 (Nat.le_trans (Ia hm) hd) (by have:=Ia hm; omega) (by omega) h4 q1 h2 rx).2
 rcases hq with hq|hq
 ·obtain⟨its,r,pl,hz⟩:=I.list hq
  refine SeqAt.in_listAt e pl.isList (λw hw=>mem r w (by simpa using hw)) ⟨.bl _,H,I,rfl,?_⟩
  rw[show its.toArray.any e=its.any e by simp,Rm (λz=>eqT z t) e r qs λz w' tz h1 h2 h3 h4=>ee z w' tz h1 h2 h3 h4]
  exact q
 ·obtain⟨its,r,pl,hz⟩:=I.tuple hq
  refine SeqAt.in_tupleAt e pl (λw hw=>mem r w (by simpa using hw)) ⟨.bl _,H,I,rfl,?_⟩
  rw[show its.toArray.any e=its.any e by simp,Rm (λz=>eqT z t) e r qs λz w' tz h1 h2 h3 h4=>ee z w' tz h1 h2 h3 h4]
  exact q
inductive Ty where|int|bool|str|tuple|list
def Ty.name:Ty->String
 |.int => "int" |.bool => "bool" |.str => "str" |.tuple => "tuple" |.list => "list"
def dH:Tr->Ty->Bool
 |.bl _,.bool=>true|.bl _,.int=>true|.int _,.int=>true|.str _,.str=>true|.tup _,.tuple=>true|.lst _,.list=>true
 |_,_=>false
def Ci(K:FZ):List V->Hp->VK->Prop:=λxs H Q=>∃v t c,xs=[v,.ty (Ty.name c)]/\Rep K H v t/\Q (.bl (dH t c)) H
def Cj(K:FZ):Prop:=∀c∈nC,∀C,PySem.W.nsIn K mainGlobals c=some (some (.ref C))->(∀a,PySem.W.KitX K (.ref a) (.ref C) (Ca a C))/\∀y:Ty,PySem.W.kitOne K (.ref C) (.type y.name)=some false
theorem ZV(hX:Cj X.K):g8 X (.builtin "isinstance") (Ci X.K):=by
 intro pins s σ H xs us Q I r h
 obtain⟨v,t,c,rfl,q1,q⟩:=h
 obtain⟨u,w',rfl,ru,nU⟩:=vals2 r
 obtain rfl:w'=Value.type (Ty.name c):=nU
 have fin:∀tk,EP X pins σ Q (.bool (dH t c)) {s with toks:=tk }:=λtk=>⟨.bl _,H,I.tok tk,rfl,q⟩
 cases q1 with
 |non=>cases ru; cases c <;> exact PySem.W.kia_one PySem.W.kitx_none I.jq True.intro (by kernel_rfl) (λz=>nomatch z) fin
 |bl y=>cases ru; cases c <;> exact PySem.W.kia_one PySem.W.kitx_bool I.jq True.intro (by kernel_rfl) (λz=>nomatch z) fin
 |int i=>obtain⟨_,rfl⟩:=ru; cases c <;> exact PySem.W.kia_one PySem.W.kitx_int I.jq True.intro (by kernel_rfl) (λz=>nomatch z) fin
 |str y=>obtain⟨_,rfl⟩:=ru; cases c <;> exact PySem.W.kia_one PySem.W.kitx_str I.jq True.intro (by kernel_rfl) (λz=>nomatch z) fin
 |tup h r =>
  cases ru
  obtain⟨_,_,⟨o,h1,h2,_⟩,_⟩:=I.tuple h
  cases c <;> exact PySem.W.kia_one PySem.W.kitx_tuple I.jq ⟨o,h1,h2⟩ (by kernel_rfl) (λz=>nomatch z) fin
 |lst h r =>
  cases ru
  obtain⟨_,_,p,_⟩:=I.list h
  obtain⟨o,h1,h2,_⟩:=p.isList
  cases c <;> exact PySem.W.kia_one PySem.W.kitx_list I.jq ⟨o,h1,h2⟩ (by kernel_rfl) (λz=>nomatch z) fin
 |cF h m n =>
  cases ru
  obtain⟨z1,z2⟩:=hX _ m _ n
  exact PySem.W.kia_one (z1 _) I.jq (I.hok _ _ h).1 (z2 c) (λz=>nomatch z) fin
def Ib(K:FZ):List V->Hp->VK->Prop:=λxs H Q=>∃(p:Addr) (bs:List Bool),xs=[.ref p]/\cJ K H p (bs.map V.bl)/\Q (.bl (bs.all id)) H
theorem zy(hc:X.calm=true):g8 X (.builtin "all") (Ib X.K):=by
 intro pins s σ H xs us Q I r h
 obtain⟨p,bs,rfl,hq,q⟩:=h
 obtain⟨u,rfl,ru⟩:=vals1 r
 cases ru
 obtain⟨its,rv,pl,hz⟩:=I.list hq
 refine call_all_walk (wpAny_pyIter_list pl.isList ?_)
 obtain⟨ol,hol,hol'⟩:=id pl.isList
 have hlt:p<s.heap.objs.size:=Heap.lt_size hol
 have hlen:its.toArray.size=bs.length:=by simpa using rv.length.symm
 have at_:∀(i:Nat) (v:Value),its.toArray[i]?=some v->∃k,bs[i]?=some k/\v=Value.bool k:=λi v e=>by
  have e':its[i]?=some v:=by simpa using e
  have hi:i<its.length:=(List.getElem?_eq_some_iff.mp e').1
  have hb:i<(bs.map V.bl).length:=by rw[rv.length]; exact hi
  obtain⟨u',h1,h2⟩:=rv.get (List.getElem?_eq_getElem hb)
  rw[e']at h1
  cases h1
  have hb':i<bs.length:=by simpa using hb
  refine⟨bs[i],List.getElem?_eq_getElem hb',?_⟩
  rw[List.getElem_map]at h2
  exact h2
 refine⟨s.heap.objs.size,_,_,_,_,_,λi=>bs.getD i true,rfl,Walks.list (A:=X.A.in1) (I.ok.hd hc) s.heap.objs.size p (Nat.ne_of_lt hlt) its.toArray,⟨⟨_,Heap.get?_push_size _ rfl,rfl,rfl⟩,⟨ol,Heap.get?_push_of_some _ hol,hol'⟩⟩,?_,?_⟩
 ·intro i v s' Q' E' hP hQ'
  obtain⟨k,h1,rfl⟩:=at_ i v hP
  have:bs.getD i true=k:=by rw[List.getD_eq_getElem?_getD,h1]; rfl
  dsimp only at hQ'
  rw[this]at hQ'
  exact wpAny_truthy_bool hQ'
 ·intro h' tk hk
  have I1:Inv X pins σ H {s with heap:=h',toks:=tk }:=I.kept λb o e=>hk b o (by
   have:=Heap.lt_size e
   simp
   exact Nat.ne_of_lt this) (Heap.get?_push_of_some _ e)
  refine⟨.bl _,H,I1,rfl,?_⟩
  have eq:(List.range its.toArray.size).all (λi=>bs.getD i true)=bs.all id:=by
   rw[hlen]
   clear q hq rv at_ hlen hz
   induction bs with
   |nil=>rfl
   |cons b r ih =>
    rw[List.length_cons,List.range_succ_eq_map,List.all_cons,List.all_map,List.all_cons]
    exact congrArg (b && ·) ih
  rw[eq]
  exact q
end
end L2
end
section
namespace L2
open PySem PySem.Spec PyProof.Rows
def At(K:FZ)(mg:Str->Option Value)(x:Str)(st:Stmt):Prop:=∃f fd,vU K x x st f fd/\mg x=some (.ref f)
section
variable {X:Cx}{k:Nat}{x:Str}{ps:List Str}{sp:Sp}{p q pos:Pos}{e:Expr}{es:List Expr}{te:TE}{t:TA}
theorem ZW(hX:Cj X.K)(c:Ty)(he:PE X e te)(h1:X.mg "isinstance" = none) (h2:X.mg x=none) (hb:bootBuiltins x=some (.type c.name):=by decide +kernel) (hg1:Gl X "isinstance" := by rfl) (hg2:Gl X x:=by rfl) (hn:x ≠ "__name__" := by decide) (hd:(x == ("__debug__" : Str))=false:=by decide)
  (hs:starEach (e::[.Name x q]) X.env=(false,eval e X.env)::starEach [.Name x q] X.env:=by rfl):PE X (.Call (.Name "isinstance" p) [e,.Name x q] [] pos) (jh (Ci X.K) (iR te (iR (tC (.ty c.name)) lH))) :=
 BR (ZV hX) hg1 h1 PyProof.Rows.boot_isinstance (qt he (qt (O2 hg2 h2 hb rfl hn hd) aD) hs) (he:=hs)
end
end L2
end
section
namespace L2
open PySem PySem.Spec PyProof.Rows
def off(a:Addr)(H:Hp):Hp:=λb=>if b=a then none else H b
theorem off_ne{a b:Addr}{H:Hp}(h:b≠a):off a H b=H b:=if_neg h
theorem v7{a b:Addr}{H:Hp}{o:HO}(h:off a H b=some o):b≠a/\H b=some o:=by
 unfold off at h
 split at h
 ·cases h
 ·rename_i e; exact⟨e,h⟩
structure Pj(Pr:Hp->Hp)(H0:Hp):Prop where
 mono:∀{H H':Hp},Same H H'->Same (Pr H) (Pr H')
 sub:∀H,Same (Pr H) H
 new:∀{H:Hp} {r:Addr} {o:HO},Same H0 H->H r=none->Pr (upd H r o) r=some o
theorem Pj.id(H0:Hp):Pj (λH=>H) H0:=⟨λs=>s,λH=>Same.refl H,λ_ _=>jB⟩
theorem Pj.le{Pr:Hp->Hp}{H0 H1:Hp}(p:Pj Pr H0)(s:Same H0 H1):Pj Pr H1:=⟨p.mono,p.sub,λs' h=>p.new (s.trans s') h⟩
theorem gw{H:Hp}{p:Addr}(h:H p=none)(o:HO):Same H (upd H p o):=λb u q=>by rw[cP (oY q h)]; exact q
section
variable (K:FZ)(Pr:Hp->Hp)(σ : St)(H0:Hp)
end
section
variable {K:FZ}{Pr:Hp->Hp}{σ : St}{H0:Hp}{te tb:TE}{ta:TA}{T:Tr}{Ts Us:List Tr}
end
end L2
end
section
namespace L2
open PySem PySem.Spec PyProof.Rows
def notStar:Expr->Bool
 |.Starred _ _=>false
 |_=>true
theorem mU{e:Expr}{es:List Expr}{env:Env}(h:notStar e=true):starEach (e::es) env=(false,eval e env)::starEach es env:=by
 cases e <;> first|rfl|(unfold notStar at h; cases h)
def v8(K:FZ)(T:Tr):TE:=λ_ H Q=>∀v H',Same H H'->(∀Pr,Pj Pr H->Rep K (Pr H') v T)->Q v H'
def v9(K:FZ)(Ts:List Tr):TA:=λ_ H Q=>∀vs H',Same H H'->(∀Pr,Pj Pr H->aQ K (Pr H') vs Ts)->Q vs H'
def Ck(K:FZ)(Ts:List Tr):TE:=λ_ H Q=>∀a xs H1,Same H H1->H1 a=none->(∀Pr,Pj Pr H->aQ K (Pr H1) xs Ts)->xs.length=Ts.length->Q (.ref a) (upd H1 a (.lst xs))
theorem PE.imp{X:Cx}{e:Expr}{t u:TE}(h:PE X e t)(i:∀σ H Q,u σ H Q->t σ H Q):PE X e u:=⟨λpins s σ H Q I q=>h pins s σ H Q I (i σ H Q q)⟩
theorem PA.imp{X:Cx}{e:List Expr}{t u:TA}(h:PA X e t)(i:∀σ H Q,u σ H Q->t σ H Q):PA X e u:=⟨λpos pins s σ H Q I q=>h pos pins s σ H Q I (i σ H Q q)⟩
section
variable {X:Cx}{e:Expr}{es:List Expr}{T:Tr}{Ts:List Tr}{pos:Pos}{k:Nat}
end
end L2
end
section
namespace L2
open PySem PySem.Spec PyProof.Rows
mutual
noncomputable def pd:Tr->PyData
 |.non=>.none
 |.bl b=>.bool b
 |.int i=>.int i
 |.str x=>.str x
 |.tup ts=>.tuple (kE ts)
 |.lst ts=>.list (kE ts)
 |.cF _=>.none
noncomputable def kE:List Tr->List PyData
 | []=>[]
 |t::r=>pd t::kE r
end
mutual
noncomputable def jJ:Tr->Bool
 |.int i=>decide (i.natAbs.log2<1920)
 |.str x=>x.cps.toList.all λc=>decide (c<16 ^ 8)
 |.tup ts=>uq ts
 |.lst ts=>uq ts
 |.cF _=>false
 |_=>true
noncomputable def uq:List Tr->Bool
 | []=>true
 |t::r=>jJ t&&uq r
end
mutual
noncomputable def blk:Tr->Nat
 |.str x=>x.cps.size
 |.tup ts=>blks ts
 |.lst ts=>blks ts
 |_=>0
noncomputable def blks:List Tr->Nat
 | []=>0
 |t::r=>blk t+1+blks r
end
mutual
theorem Rn:∀t:Tr,(pd t).bulk=blk t
 |.non=>rfl
 |.bl _=>rfl
 |.int _=>rfl
 |.str _=>rfl
 |.tup ts=>by simp only[pd,PyData.bulk,blk]; exact Ie ts
 |.lst ts=>by simp only[pd,PyData.bulk,blk]; exact Ie ts
 |.cF _=>rfl
theorem Ie:∀ts:List Tr,PyData.bulkAll (kE ts)=blks ts
 | []=>rfl
 |t::r=>by simp only[kE,PyData.bulkAll,blks]; rw[Rn t,Ie r]
end
mutual
theorem Ig:∀t:Tr,(pd t).hasDict=false
 |.non=>rfl
 |.bl _=>rfl
 |.int _=>rfl
 |.str _=>rfl
 |.tup ts=>by simp only[pd,PyData.hasDict]; exact Ih ts
 |.lst ts=>by simp only[pd,PyData.hasDict]; exact Ih ts
 |.cF _=>rfl
theorem Ih:∀ts:List Tr,PyData.hasDictAll (kE ts)=false
 | []=>rfl
 |t::r=>by simp only[kE,PyData.hasDictAll]; rw[Ig t,Ih r]; rfl
end
mutual
theorem Ro:∀t:Tr,(pd t).depth<=dep t
 |.non=>Nat.le_of_eq rfl
 |.bl _=>Nat.le_of_eq rfl
 |.int _=>Nat.le_of_eq rfl
 |.str _=>Nat.le_of_eq rfl
 |.tup ts=>by
  have:=Ii ts
  simp only[pd,PyData.depth,dep]
  omega
 |.lst ts=>by
  have:=Ii ts
  simp only[pd,PyData.depth,dep]
  omega
 |.cF _=>by simp only[pd,PyData.depth,dep]; omega
theorem Ii:∀ts:List Tr,PyData.depthAll (kE ts)<=deps ts
 | []=>Nat.le_of_eq rfl
 |t::r=>by
  have h1:=Ro t
  have h2:=Ii r
  simp only[kE,PyData.depthAll,deps]
  omega
end
mutual
theorem Ij:∀t:Tr,jJ t=true->(pd t).showable=true/\(pd t).leavesShort 1921=true
 |.non,_=>⟨rfl,rfl⟩
 |.bl _,_=>⟨rfl,rfl⟩
 |.int i,h=>by
  have h1:i.natAbs.log2<1920:=by simpa only[jJ,decide_eq_true_eq]using h
  refine⟨by simpa only[pd,PyData.showable,decide_eq_true_eq]using h1,?_⟩
  simp only[pd,PyData.leavesShort,decide_eq_true_eq]
  exact int_text_len_1921 h1
 |.str x,h=>⟨rfl,by simpa only[pd,PyData.leavesShort,jJ]using h⟩
 |.tup ts,h=>by
  have:=Ik ts (by simpa only[jJ]using h)
  simp only[pd,PyData.showable,PyData.leavesShort]
  exact this
 |.lst ts,h=>by
  have:=Ik ts (by simpa only[jJ]using h)
  simp only[pd,PyData.showable,PyData.leavesShort]
  exact this
 |.cF _,h=>by simp only[jJ]at h; cases h
theorem Ik:∀ts:List Tr,uq ts=true->PyData.showableAll (kE ts)=true/\PyData.leavesShortAll 1921 (kE ts)=true
 | [],_=>⟨rfl,rfl⟩
 |t::r,h=>by
  simp only[uq,Bool.and_eq_true]at h
  have h1:=Ij t h.1
  have h2:=Ik r h.2
  simp only[kE,PyData.showableAll,PyData.leavesShortAll,Bool.and_eq_true]
  exact⟨⟨h1.1,h2.1⟩,⟨h1.2,h2.2⟩⟩
end
theorem ZX{t:Tr}(h:jJ t=true)(hb:blk t<=8000):(pd t).shown.length<=sizeLine:=by
 have h1:=PyData.shown_le_bulk 1921 (by decide) (pd t) (Ij t h).2
 rw[Rn]at h1
 have h2:sizeLine=16777216:=by decide
 omega
section
variable {X:Cx}{pins:List (Addr × Obj)}{σ : St}{H:Hp}{s:Shared}
mutual
theorem Rep.reads(I:Inv X pins σ H s):∀{v:V} {t:Tr} {u:Value},jJ t=true->Rep X.K H v t->RelV v u->∃as,Reads s.heap u (pd t) as
 |_,_,_,_,.non,r=>by
  cases r
  exact⟨_,by simp only[pd]; exact .none⟩
 |_,_,_,_,.bl b,r=>by
  cases r
  exact⟨_,by simp only[pd]; exact .bool b⟩
 |_,_,_,_,.int i,r=>by
  obtain⟨_,rfl⟩:=r
  exact⟨_,by simp only[pd]; exact .int i _⟩
 |_,_,_,_,.str x,r=>by
  obtain⟨_,rfl⟩:=r
  exact⟨_,by simp only[pd]; exact .str x _⟩
 |_,_,_,k,.tup h q,r=>by
  cases r
  obtain⟨its,rv,⟨o,h1,h2,n,h3⟩,_⟩:=I.tuple h
  obtain⟨as,ha⟩:=aQ.reads I (by simpa only[jJ]using k) q rv
  exact⟨_,by simp only[pd]; exact .tuple h1 h2 h3 ha⟩
 |_,_,_,k,.lst h q,r=>by
  cases r
  obtain⟨its,rv,⟨o,n,h1,h2,_,h3⟩,_⟩:=I.list h
  obtain⟨as,ha⟩:=aQ.reads I (by simpa only[jJ]using k) q rv
  exact⟨_,by simp only[pd]; exact .list h1 h2 h3 ha⟩
 |_,_,_,k,.cF h _ _,r=>by simp only[jJ]at k; cases k
theorem aQ.reads(I:Inv X pins σ H s):∀{v:List V} {t:List Tr} {u:List Value},uq t=true->aQ X.K H v t->Vals v u->∃as,ReadsAll s.heap u (kE t) as
 |_,_,_,_,.nil,r=>by
  cases r
  exact⟨_,by simp only[kE]; exact .nil⟩
 |_,_,_,k,.cons h q,r=>by
  cases r with
  |cons r1 r2 =>
   simp only[uq,Bool.and_eq_true]at k
   obtain⟨a,h1⟩:=Rep.reads I k.1 h r1
   obtain⟨b,h2⟩:=aQ.reads I k.2 q r2
   exact⟨_,by simp only[kE]; exact .cons h1 h2⟩
end
end
def txt:Tr->Str
 |.str x=>x
 |t=>(pd t).shown
def Il(K:FZ):List V->Hp->VK->Prop:=λxs H Q=>∃v t,xs=[v]/\Rep K H v t/\jJ t=true/\blk t<=8000/\dep t<=40/\Q (.str (txt t)) H
theorem zA{X:Cx}(hg:X.A.guards=some [])(hu:X.A.units+64<cLine):g8 X (.type "str") (Il X.K):=by
 intro pins s σ H xs us Q I r h
 obtain⟨v,t,rfl,q1,hok,hb,hd,q⟩:=h
 obtain⟨u,rfl,ru⟩:=vals1 r
 have hl:=ZX hok hb
 have hdp:=Ro t
 have hx:=Ij t hok
 cases q1 with
 |cF h m n=>simp only[jJ]at hok; cases hok
 |non=>cases ru; exact P.str_of_none ⟨.str _,H,I.tok _,⟨_,rfl⟩,q⟩
 |bl b=>cases ru; exact P.str_of_bool ⟨.str _,H,I.tok _,⟨_,rfl⟩,q⟩
 |int i =>
  obtain⟨_,rfl⟩:=ru
  exact P.str_of_int (by simpa only[jJ,decide_eq_true_eq]using hok) ⟨.str _,H,I.tok _,⟨_,rfl⟩,q⟩
 |str x=>obtain⟨_,rfl⟩:=ru; exact P.str_of_str ⟨.str _,H,I,⟨_,rfl⟩,q⟩
 |tup hh rr =>
  cases ru
  obtain⟨as,ha⟩:=Rep.reads I hok (.tup hh rr) (u:=.ref _) rfl
  exact str_of_reads ha hx.1 (PyData.noDict_hsm (Ig _)) hg (by omega) (λ_ _ e=>e) (λh' u tk hk=>⟨.str _,H,I.kept hk,⟨_,rfl⟩,q⟩) hl
 |lst hh rr =>
  cases ru
  obtain⟨as,ha⟩:=Rep.reads I hok (.lst hh rr) (u:=.ref _) rfl
  exact str_of_reads ha hx.1 (PyData.noDict_hsm (Ig _)) hg (by omega) (λ_ _ e=>e) (λh' u tk hk=>⟨.str _,H,I.kept hk,⟨_,rfl⟩,q⟩) hl
end L2
end
section
namespace L2
open PySem PySem.Spec PyProof.Rows
def Rq:V->Option Int->Option Int->Hp->VK->Prop:=λx lo hi H Q=>∃z,x=.str z/\z.length<=sizeLine/\Q (.str (Txt.slice z lo hi)) H
theorem Z0{X:Cx}:nY X Rq:=by
 intro pins s σ H x v vl vu lo hi sl Q I rx hs pl pu h
 obtain⟨z,rfl,hz,q⟩:=h
 obtain⟨t,rfl⟩:=rx
 obtain⟨o,h1,h2,h3⟩:=hs
 have fin:∀(t':Tok) (k:Nat),EP X pins σ Q (.str (Txt.slice z lo hi) t') {s with toks:=k }:=λt' k=>⟨.str _,H,I.tok k,⟨_,rfl⟩,q⟩
 have hl:=Nat.le_trans (Txt.slice_le z lo hi) hz
 refine⟨"str",_,F.slot_str_getitem.lookup,typeIs_str _ _ _,?_⟩
 cases pl with
 |none =>
  cases pu with
  |none=>exact wpAny_getItem_str_slice (l:=none) (u:=none) (st:=none) ⟨o,h1,h2,h3⟩ rfl (post_val_or_str ⟨hl,λt' k=>fin t' k⟩)
  |int j uj=>exact wpAny_getItem_str_slice (l:=none) (u:=some (j,uj)) (st:=none) ⟨o,h1,h2,h3⟩ rfl (post_val_or_str ⟨hl,λt' k=>fin t' k⟩)
 |int i ui =>
  cases pu with
  |none=>exact wpAny_getItem_str_slice (l:=some (i,ui)) (u:=none) (st:=none) ⟨o,h1,h2,h3⟩ rfl (post_val_or_str ⟨hl,λt' k=>fin t' k⟩)
  |int j uj=>exact wpAny_getItem_str_slice (l:=some (i,ui)) (u:=some (j,uj)) (st:=none) ⟨o,h1,h2,h3⟩ rfl (post_val_or_str ⟨hl,λt' k=>fin t' k⟩)
def nw(H H':Hp):Hp:=λb=>match H b with
 |none=>H' b
 |some _=>none
end L2
end
section
namespace L2
open PySem PySem.Spec PyProof.Rows
noncomputable def j4(P:Program)(w:World):lK:=λouter H s E e s'=>∃ea cls a0 H' B,e=.ref ea/\E cls none H'/\s'.os=s.os/\AllBare s'.gens/\Un (frs outer) [] H H' s.heap s'.heap/\gh P w H' B /\
 Heap.FlyingW B outer ea cls a0 s'.heap/\∀b o,s.heap.get? b=some o->b∉frs outer->∃o',B.get? b=some o'
theorem Z1{env:Env}{outer:List Env}{L b:Addr}(hf:env.frame=some L)(h:b∈frs (env::outer)):b=L\/b∈frs outer:=by
 unfold frs at h
 rw[List.filterMap_cons_some hf]at h
 exact List.mem_cons.mp h
theorem Z2{env:Env}{outer:List Env}{b:Addr}(h:b∈frs outer):b∈frs (env::outer):=by
 obtain⟨e,he,q⟩:=List.mem_filterMap.mp h
 exact List.mem_filterMap.mpr ⟨e,List.mem_cons_of_mem _ he,q⟩
theorem Z4{P:Program}{w:World}{H:Hp}{h:Heap}{l:List Addr}(x:gh P w H h)(fr:∀b∈l,H b=none):gh P w H (PySem.W.hideAll h l):=λa o e =>
 (x a o e).stay (λb u hb q=>PySem.W.hideAll_get _ q λhm=>by
  rcases hb with rfl|hb
  ·rw[fr _ hm]at e; cases e
  ·rw[fr _ hm]at hb; cases hb) (λ_ q=>q) λ_ _ q=>q
section
variable {P:Program}{w:World}{K:FZ}{mg:Str->Option Value}{base:Heap}{N:List Str}{qual:Str}{scope:Scope}{f:Addr}{cd:Value}{A:Around}{outer:List Env}{s:Shared}{H:Hp}{E:XK}{CX:lK}
theorem Un.left{pins:List (Addr × Obj)}{σ : St}{H1 H2:Hp}{s1:Shared}{h2 h3 B:Heap}(I:Inv (mJ CX P w K mg base N qual scope f cd A outer s H E) pins σ H1 s1)
  (u:Un (frs (envOfC qual scope s.heap.objs.size f cd::outer)) [] H1 H2 s1.heap h2) (st:B.StaysIn h2) (kb:∀b o,s1.heap.get? b=some o->b∉frs (envOfC qual scope s.heap.objs.size f cd::outer)->∃o',B.get? b=some o')
  (fl:B.StaysIn h3) (sl:h2.UpToSlots h3):Un (frs outer) [] H H2 s.heap h3/\∀b o,s.heap.get? b=some o->b∉frs outer->∃o',B.get? b=some o':=by
 have ub:=I.base
 have hf:(envOfC qual scope s.heap.objs.size f cd).frame=some s.heap.objs.size:=by
  rcases I.ok.stk with z|z
  ·exact absurd (congrArg List.length z) (by show outer.length+1≠outer.length; omega)
  ·exact z.2
 have no:∀b o,s.heap.get? b=some o->b∉frs outer->b∉frs (envOfC qual scope s.heap.objs.size f cd::outer):=λb o e n z=>by
  rcases Z1 hf z with rfl|z
  ·exact absurd (Heap.lt_size e) (Nat.lt_irrefl _)
  ·exact n z
 have nx:∀b:Addr,b∉([]:List Addr):=λb z=>nomatch z
 have inB:∀b o,s.heap.get? b=some o->b∉frs outer->∃o',B.get? b=some o':=λb o e n=>by
  obtain⟨o1,e1⟩:=ub.there b o e (nx b)
  exact kb b o1 e1 (no b o e n)
 have slots:∀b o,s.heap.get? b=some o->H b=none->b∈frs outer->∃sl,h3.get? b=some {o with slots:=sl }:=λb o e n z=>by
  obtain⟨Im,e1⟩:=ub.slot b o e n z (nx b)
  obtain⟨sl2,e2⟩:=u.slot b _ e1 (ub.free b o e n (nx b)) (Z2 z) (nx b)
  obtain⟨_,o',e',nf⟩:=I.ok.mD.mem z
  have e'':s.heap.get? b=some o':=e'
  rw[e]at e''
  cases e''
  obtain⟨Io,e3⟩:=sl b _ e2 nf
  exact⟨Io,e3⟩
 refine⟨⟨λb o e n z _=>?_,λb o e n z _=>slots b o e n z,λb o e n _=>?_,λb o e _=>?_,λb xs q=>u.tups b xs (ub.tups b xs q),λb o q z=>u.lE b o q (ub.lE b o q z),λb ps q=>?_⟩,inB⟩
 ·have e1:=ub.keep b o e n z (nx b)
  have e2:=u.keep b o e1 (ub.free b o e n (nx b)) (no b o e z) (nx b)
  obtain⟨o',e3⟩:=inB b o e z
  have e4:=st b o' e3
  rw[e2]at e4
  cases e4
  exact fl b o e3
 ·obtain⟨o1,e1⟩:=ub.there b o e (nx b)
  exact u.free b o1 e1 (ub.free b o e n (nx b)) (nx b)
 ·by_cases z:b∈frs outer
  ·obtain⟨sl,e1⟩:=slots b o e (I.ok.rF b z) z
   exact⟨_,e1⟩
  ·obtain⟨o',e1⟩:=inB b o e z
   exact⟨o',fl b o' e1⟩
 ·obtain⟨m1,e1⟩:=ub.lF b ps q
  obtain⟨m2,e2⟩:=u.lF b _ e1
  exact⟨m1++m2,by rw[e2,Array.append_assoc]⟩
end
def Raises(X:Cx)(E:XK):Prop:=∀(pins:List (Addr × Obj)) (σ : St) (H:Hp) (s:Shared) (h':Heap) (e C:Addr) (us:List Value),Inv X pins σ H s->Heap.MadeExcOf s.heap h' e (.ref C) us->E (.ref C) none H->X.xe (.ref e) {s with heap:=h' }
theorem zB{P:Program}{w:World}{K:FZ}{mg:Str->Option Value}{base:Heap}{N:List Str}{qual:Str}{scope:Scope}{f:Addr}{cd:Value}{A:Around}{outer:List Env}{s:Shared}{H:Hp}{E:XK} :
  Raises (mJ (j4 P w) P w K mg base N qual scope f cd A outer s H E) E:=by
 intro pins σ H1 s1 h' e C us I hx q
 have hs:=I.stack
 have hf:(envOfC qual scope s.heap.objs.size f cd).frame=some s.heap.objs.size:=by
  rcases I.ok.stk with z|z
  ·exact absurd (congrArg List.length z) (by show outer.length+1≠outer.length; omega)
  ·exact z.2
 have hin:∀env∈(envOfC qual scope s.heap.objs.size f cd::outer),∀a,env.frame=some a->a∈frs (envOfC qual scope s.heap.objs.size f cd::outer):=λenv he b hb=>List.mem_filterMap.mpr ⟨env,he,hb⟩
 have Rr:(PySem.W.hideAll s1.heap (frs (envOfC qual scope s.heap.objs.size f cd::outer))).StaysIn s1.heap:=λb o z=>PySem.W.of_hideAll _ z
 have stH:(PySem.W.hideAll s1.heap (frs (envOfC qual scope s.heap.objs.size f cd::outer))).StaysIn h':=λb o z=>hx.keeps b o (Rr b o z)
 refine wpAny_leaves_madeW (base:=PySem.W.hideAll s1.heap (frs (envOfC qual scope s.heap.objs.size f cd::outer))) (h:=s1.heap) I.ok.frames hf Rr (PySem.W.funFrames_hide hs hin) hx λh'' t fl _ _ sl=>?_
 obtain⟨un,ib⟩:=Un.left (B:=PySem.W.hideAll s1.heap (frs (envOfC qual scope s.heap.objs.size f cd::outer))) I (Un.kept (h':=h') hx.keeps) stH (λb o z n=>⟨o,PySem.W.hideAll_get _ z n⟩) fl.1 sl
 exact⟨e,.ref C,.ref t,H1,_,rfl,q,I.os,I.bare,un,Z4 I.hok I.yI,fl,ib⟩
theorem cD{P:Program}{w:World}{K:FZ}{mg:Str->Option Value}{base:Heap}{N:List Str}{qual:Str}{scope:Scope}{f:Addr}{cd:Value}{A:Around}{outer:List Env}{s:Shared}{H:Hp}{E:XK} :
  Passes (j4 P w) (mJ (j4 P w) P w K mg base N qual scope f cd A outer s H E) E:=by
 intro pins σ H1 s1 e s' I h
 obtain⟨ea,cls,a0,H2,B,rfl,q,os,bare,un,hok,fl,kb⟩:=h
 have hf:(envOfC qual scope s.heap.objs.size f cd).frame=some s.heap.objs.size:=by
  rcases I.ok.stk with z|z
  ·exact absurd (congrArg List.length z) (by show outer.length+1≠outer.length; omega)
  ·exact z.2
 refine wpAny_leaves_onW (base:=B) I.ok.frames hf fl λh'' wg sl=>?_
 obtain⟨un',ib⟩:=Un.left (B:=B) I un fl.1 kb wg.1 sl
 exact⟨ea,cls,a0,H2,B,rfl,q,os.trans I.os,bare,un',hok,wg,ib⟩
def Rt(E:XK)(C:Addr)(te:TE):TS:=λ_ σ H=>te σ H λv H1=>[v].length=1/\E (.ref C) none H1
theorem zE{X:Cx}{E:XK}{x:Str}{C:Addr}{B newId initId:String}{bm:List Value}{np cpos pos:Pos}{e:Expr}{te:TE}(R:Raises X E)(O:OwnCls x C bm newId X.mg X.base)(FB:ExcBaseFacts B newId initId bm)(hc:X.calm=true)(ha:PE X e te)
  (hg:Gl X x:=by rfl) (hd:(x == ("__debug__" : Str))=false:=by decide) (hs:starEach [e] X.env=[(false,eval e X.env)]:=by rfl) :
  PS X (.Raise (some (.Call (.Name x np) [e] [] cpos)) none pos) (Rt E C te):=by
 refine⟨λpins s σ H D I h=>?_⟩
 obtain⟨tl,N,nm,q,bs,hdct,sn,sub,ab,col,dd,k0,k1,k2,k3,k5,mN,hC,hN,hni,T⟩:=O.obj
 refine wpAny_Raise_call_subT (C:=C) (nm:=nm) (q:=q) (N:=N) (bs:=bs) (bm:=tl) (hdct:=hdct) (sn:=sn) (sub:=sub) (ab:=ab) (col:=col) (dd:=dd) (k0:=k0) (k1:=k1) (k2:=k2) (k3:=k3) (k5:=k5)
  FB (mN:=mN) (T.hasType FB.hasBase) (I.ok.hd hc) (by rw[hs]; rfl) hni (yL I hg O.bound ⟨rfl,?_⟩ hd)
 have ga:PA X [e] (iR te lH):=qt ha aD (by rw[hs]; rfl)
 have z:=ga cpos pins s σ H (λvs H1=>vs.length=1/\E (.ref C) none H1) I (by
  show te σ H λv H1=>_
  exact h)
 rw[hs]at z ⊢
 refine Calls.evalArgs_plain (wpAny_mono z (λus s₂ h₂=>?_) λ_ _ y=>y)
 obtain⟨vs,H2,I2,rv,hl,hE⟩:=h₂
 refine⟨rfl,?_,I2.bk _ _ hC,hN.keeps I2.bk,T.keeps I2.bk,λh' e' hm=>R pins σ H2 s₂ h' e' C us I2 hm hE⟩
 rw[<-rv.length,hl]
 decide
end L2
end
section
namespace L2
open PySem PySem.Spec PyProof.Rows
def XP(X:Cx)(pins:List (Addr × Obj))(EX:St->XK)(e:Value)(s':Shared):Prop:=∃σ H s,Inv X pins σ H s/\j4 X.prog X.w X.stack H s (EX σ) e s'
abbrev TX:=Ends->(St->XK)->St->Hp->Prop
abbrev TEX:=(St->XK)->TE
def PX(X:Cx)(st:Stmt)(t:TX):Prop :=
 ∀(pins:List (Addr × Obj)) (s:Shared) (σ : St) (H:Hp) (D:Ends) (EX:St->XK),Inv X pins σ H s->t D EX σ H->wpAny (model X.prog X.w) X.A (exec st X.env) (SP X pins D) (XP X pins EX) s
def Cm(X:Cx)(st:List Stmt)(t:TX):Prop :=
 ∀(pins:List (Addr × Obj)) (s:Shared) (σ : St) (H:Hp) (D:Ends) (EX:St->XK),Inv X pins σ H s->t D EX σ H->wpAny (model X.prog X.w) X.A (execs st X.env) (SP X pins D) (XP X pins EX) s
def Ip(X:Cx)(e:Expr)(t:TEX):Prop :=
 ∀(pins:List (Addr × Obj)) (s:Shared) (σ : St) (H:Hp) (Q:VK) (EX:St->XK),Inv X pins σ H s->t EX σ H Q->wpAny (model X.prog X.w) X.A (eval e X.env) (EP X pins σ Q) (XP X pins EX) s
section
variable {X:Cx}{k:Nat}{f:Addr}{fd:FuncData}{x:Str}{ps:List Str}{sp:Sp}{p pos:Pos}{e:Expr}{es:List Expr}{te:TEX}{t:TA}{st:Stmt}{rest:List Stmt}{a b:TX}
theorem Ir(h1:PX X st a):Cm X [st] a:=by
 intro pins s σ H D EX I h
 refine wpAny_execs_cons (wpAny_mono (h1 pins s σ H D EX I h) (λf s1 q=>?_) λ_ _ z=>z)
 cases f with
 |next=>exact wpAny_execs_nil q
 |ret u=>exact q
 |brk=>exact q
 |cont=>exact q
theorem Z5{c:Expr}{l r:List Stmt}{tc:TT}(hc:PT X.mG c tc)(ha:Cm X l a)(hb:Cm X r b):PX X (.If c l r pos) (λD EX σ H=>tc σ H λd H1=>if d=true then a D EX σ H1 else b D EX σ H1):=by
 intro pins s σ H D EX I h
 refine wpAny_If (wpAny_mono (hc pins s σ H _ (I.wish _) h) (λd s1 ⟨H1,I1,q1⟩=>?_) λ_ _ z=>False.elim z)
 cases d with
 |true=>exact ha pins s1 σ H1 D EX I1.nR (by simpa using q1)
 |false=>exact hb pins s1 σ H1 D EX I1.nR (by simpa using q1)
def Iu(sp:Sp)(t:TA):TEX:=λEX σ H Q=>t σ H λvs H1=>sp vs H1 Q (EX σ)
theorem Z6(F:lM X.prog X.w X.K X.mg X.base (j4 X.prog X.w) k f fd ps sp)(hr:gP k X.A)(hm:X.mg x=some (.ref f))(hk:PySem.W.keepIn X.K (.ref f)=true)(hb:Binds X.K fd ps [])(ha:PA X.mG (e::es) t)(hg:Gl X x:=by rfl)
  (hdb:(x == ("__debug__" : Str))=false:=by decide) (he:starEach (e::es) X.env=(false,eval e X.env)::starEach es X.env:=by rfl) (hpl:(backTo pos (starEach es X.env)).any (·.1)=false:=by rfl) :
  Ip X (.Call (.Name x p) (e::es) [] pos) (Iu sp t):=by
 intro pins s σ H Q EX I h
 refine wpAny_Call_Name_kw (yL I hg hm ?_ hdb)
 refine PySem.W.callWith_K (h₀ := X.base) I.ok.mod.Br hk (wpAny_mono (ha pos pins s σ H _ (I.wish _) h) (λus s1 ⟨vs,H1,Z7,r,q⟩=>?_) λ_ _ z=>False.elim z) he hpl
 have I1:=Z7.nR
 refine⟨I1.jq,?_⟩
 have hl:(us++[]).length=ps.length:=by rw[List.append_nil,<-r.length]; exact F.len _ _ _ _ q
 have hb':=hb s1 us I1.jq hl
 rw[List.append_nil]at hb'
 refine wpAny_call (codeAny_mono (F.run X.A X.stack s1 H1 ⟨us,[]⟩ us vs Q (EX σ) hr I1.env0 hb' r q) λr s' hq=>?_)
 cases r with
 |error e=>exact⟨σ,H1,s1,I1,hq⟩
 |ok fl =>
  cases fl with
  |ret u=>exact I1.after hq
  |next=>exact False.elim hq
  |brk=>exact False.elim hq
  |cont=>exact False.elim hq
theorem Rw{i:Nat}{y:Str}{py:Pos}(hN:X.N.Nodup)(hi:X.N[i]?=some y)(hy:Loc X.env.scope y)(he:Ip X e te)(hs:swapsWith e (some (.Name y py)) pos.line X.env=pure false:=by rfl)
  (hf:X.fn y=true\/X.env.scope.names.lookup y=some .local:=by first|exact .inl rfl|exact .inr rfl|assumption):PX X (.Assign [.Name y py] e pos) (λD EX σ H=>te EX σ H λv H1=>D.nx (σ.set i (some v)) H1):=by
 intro pins s σ H D EX I h
 refine wpAny_Assign_Name (wpAny_mono (he pins s σ H _ EX I h) (λv s1 ⟨u,H1,I1,r1,q1⟩=>?_) λ_ _ z=>z) hs
 exact vK I1 hN hi hy r1 (λs2 I2=>⟨_,H1,I2,q1⟩) hf
end
end L2
end
section
namespace L2
open PySem PySem.Spec PyProof.Rows
theorem jV.here{P:Program}{w:World}{H:Hp}{h:Heap}{a:Addr}{o:HO}(x:jV P w H h a o):∃u,h.get? a=some u:=by
 cases o with
 |lst xs=>obtain⟨_,_,_,_,e⟩:=x; exact⟨_,e⟩
 |tup xs=>obtain⟨_,_,_,_,e,_⟩:=x; exact⟨_,e⟩
 |dK kvs=>obtain⟨_,_,_,_,o,_,_,e,_⟩:=x; exact⟨_,e⟩
 |dT kvs=>obtain⟨_,_,_,_,o,_,_,e,_⟩:=x; exact⟨_,e⟩
 |set S n=>obtain⟨o,_,_,_,e,_⟩:=x; exact⟨_,e⟩
 |ins C dx fs=>obtain⟨_,_,_,e,_⟩:=x; exact⟨_,e⟩
 |own y=>exact x
 |xd fs=>obtain⟨_,⟨_,_,_,e,_⟩,_⟩:=x; exact⟨_,e⟩
 |rng lo hi=>obtain⟨_,_,_,e⟩:=x; exact⟨_,e⟩
 |cV ob u=>obtain⟨e,_⟩:=x; exact⟨_,e⟩
 |f9 ps=>exact⟨_,(show h.get? a=some _ from x)⟩
 |met f y=>exact⟨_,(show h.get? a=some _ from x)⟩
 |ext φ=>exact x.2.1
theorem Un.flown{fs:List Addr}{H1 H2:Hp}{h0 h1 h6 B:Heap}(un:Un fs [] H1 H2 h0 h1)(kb:∀b o,h0.get? b=some o->b∉fs->∃o',B.get? b=some o')(st1:B.StaysIn h1)(Rx:B.StaysIn h6)(sl:h1.UpToSlots h6)
  (nf:∀b∈fs,∀o,h0.get? b=some o->∀vs,o.data ≠ .fields vs) (fr:∀b∈fs,H1 b=none):Un fs [] H1 H2 h0 h6:=by
 have slots:∀b o,h0.get? b=some o->H1 b=none->b∈fs->∃sl,h6.get? b=some {o with slots:=sl }:=λb o e n z=>by
  obtain⟨s1,e1⟩:=un.slot b o e n z (λz=>nomatch z)
  obtain⟨s2,e2⟩:=sl b _ e1 (nf b z o e)
  exact⟨s2,e2⟩
 refine⟨λb o e n z _=>?_,λb o e n z _=>slots b o e n z,un.free,λb o e _=>?_,un.tups,un.lE,un.lF⟩
 ·have e1:=un.keep b o e n z (λz=>nomatch z)
  obtain⟨o',e2⟩:=kb b o e z
  have e3:=st1 b o' e2
  rw[e1]at e3
  cases e3
  exact Rx b o e2
 ·by_cases z:b∈fs
  ·obtain⟨s1,e1⟩:=slots b o e (fr b z) z
   exact⟨_,e1⟩
  ·obtain⟨o',e1⟩:=kb b o e z
   exact⟨o',Rx b o' e1⟩
section
variable {X:Cx}{pins:List (Addr × Obj)}{σ : St}{H1 H2:Hp}{s0 s1:Shared}{B h6:Heap}{ea:Addr}{cls a0:Value}
theorem Inv.flown(I:Inv X pins σ H1 s0)(un:Un (frs X.stack) [] H1 H2 s0.heap s1.heap)(os:s1.os=s0.os)(bare:AllBare s1.gens)(hok:gh X.prog X.w H2 B)(fl:Heap.FlyingW B X.stack ea cls a0 s1.heap)
  (kb:∀b o,s0.heap.get? b=some o->b∉frs X.stack->∃o',B.get? b=some o') (zF:Heap.FlyingW B X.stack ea cls a0 h6) (sl:s1.heap.UpToSlots h6) :
  H2 ea=none/\Inv X pins σ H2 {s1 with heap:=h6 }/\∀C,cls=.ref C->Inv X pins σ (upd H2 ea (nA ea C)) {s1 with heap:=h6 }:=by
 have nf:∀b∈frs X.stack,∀o,s0.heap.get? b=some o->∀vs,o.data ≠ .fields vs:=λb hb o e=>by
  obtain⟨_,o',e',q⟩:=I.stack.mem hb
  rw[e]at e'
  cases e'
  exact q
 have u6:=un.flown kb fl.1 zF.1 sl nf I.yI
 have k6:gh X.prog X.w H2 h6:=hok.kept zF.1
 have fe:H2 ea=none:=by
  cases q:H2 ea with
  |none=>rfl
  |some u =>
   obtain⟨o,e⟩:=(hok ea u q).here
   rw[fl.2.1]at e
   cases e
 have ne0:s0.heap.get? ea=none:=by
  cases q:s0.heap.get? ea with
  |none=>rfl
  |some o =>
   by_cases z:ea∈frs X.stack
   ·obtain⟨Im,e1⟩:=un.slot ea o q (I.yI ea z) z (λz=>nomatch z)
    obtain⟨oe,vs,e2,_,d,_⟩:=fl.first
    rw[e1]at e2
    cases e2
    exact absurd d (nf ea z o q vs)
   ·obtain⟨o',e1⟩:=kb ea o q z
    rw[fl.2.1]at e1
    cases e1
 refine⟨fe,I.call' (s':={s1 with heap:=h6 }) (ch:=[]) os u6 k6 bare (λb z=>nomatch z),λC hC=>?_⟩
 obtain⟨oe,vs,e2,c2,d2,_⟩:=zF.first
 have Z8:∀b o,s0.heap.get? b=some o->b≠ea:=λb o e z=>by rw[z,ne0]at e; cases e
 have n6:∀b o,H2 b=some o->b≠ea:=λb o e z=>by rw[z,fe]at e; cases e
 refine I.call' (s':={s1 with heap:=h6 }) (H':=upd H2 ea (nA ea C)) (ch:=[]) os ⟨u6.keep,u6.slot,λb o e n hx=>?_,u6.there,λb xs e=>?_,λb o u e=>?_,λb ps e=>?_⟩ (λb u e=>?_) bare (λb z=>nomatch z)
 ·rw[cP (Z8 b o e)]
  exact u6.free b o e n hx
 ·have:=u6.tups b xs e
  rw[cP (n6 b _ this)]
  exact this
 ·have:=u6.lE b o u e
  rw[cP (n6 b _ this)]
  exact this
 ·obtain⟨m,q⟩:=u6.lF b ps e
  exact⟨m,by rw[cP (n6 b _ q)]; exact q⟩
 ·by_cases z:b=ea
  ·subst z
   rw[jB]at e
   cases e
   exact⟨⟨oe,vs,e2,c2.trans hC,d2⟩,⟨oe,e2⟩,λh1 h2 ⟨o,ws,q1,q2,q3⟩ k=>⟨o,ws,k o q1,q2,q3⟩⟩
  ·rw[cP z]at e
   exact(k6 b u e).stay (λ_ _ _ q=>q) (λc q=>by rw[cP (n6 c _ q)]; exact q) λc xs q=>by rw[cP (n6 c _ q)]; exact q
end
theorem Cp{X:Cx}{pins:List (Addr × Obj)}{σ : St}{H:Hp}{s:Shared}{M:Model}{A:Around}{E:Value->Shared->Prop}{j:Nat}{n:Str}{pos:Pos}{Q:Unit->Shared->Prop}(I:Inv X pins σ H s)(hN:X.N.Nodup)(hj:X.N[j]?=some n)(hl:X.env.kindOf n=some .local)
  (h:∀s',Inv X pins (σ.set j none) H s'->Q () s'):wpAny M A (do bindName X.env n .none; unbindBehindTheSuite X.env n pos) Q E s:=by
 obtain⟨m,hn,hv⟩:=id I.loc
 refine wpAny_nameGoes_keeps hl hn (by rw[I.ok.kind]; rfl) λh' v hn' hs=>?_
 have vJ:∀b o,X.s₀.heap.get? b=some o->b≠X.env.locals:=λb o e=>Nat.ne_of_lt (Nat.lt_of_lt_of_le (Heap.lt_size e) I.ok.above)
 refine h _ ⟨I.ok,I.os,I.bare,⟨λb o e n hb hx=>(hs.2 b (vJ b o e)).trans (I.base.keep b o e n hb hx),λb o e n hb hx=>?_,I.base.free,λb o e hx=>?_,I.base.tups,I.base.lE,I.base.lF⟩,
  ⟨_,hn',λi y v' e1 e2 e3=>?_⟩,λy c e=>?_,I.free,I.mF,λp hp=>?_,λb o e=>?_,by rw[List.length_set]; exact I.len⟩
 ·obtain⟨sl,e1⟩:=I.base.slot b o e n hb hx
  exact⟨sl,(hs.2 b (vJ b o e)).trans e1⟩
 ·obtain⟨o',e1⟩:=I.base.there b o e hx
  exact⟨o',(hs.2 b (vJ b o e)).trans e1⟩
 ·by_cases hi:i=j
  ·subst hi
   rw[List.getElem?_set]at e2
   split at e2
   ·split at e2 <;> cases e2
   ·rename_i z; exact absurd rfl z
  ·rw[List.getElem?_set_ne (Ne.symm hi)]at e2
   obtain⟨u',r',q⟩:=hv i y v' e1 e2 e3
   refine⟨u',r',?_⟩
   rcases q with⟨k,e⟩|⟨k,c,e,z⟩
   ·refine .inl ⟨k,?_⟩
    have:y≠n:=λe=>hi (GX hN e1 (e▸hj))
    simp[this,e]
   ·exact .inr ⟨k,c,e,z.sameBut hs (I.ql y c e)⟩
 ·obtain⟨w',z⟩:=I.cell y c e
  exact⟨w',z.sameBut hs (I.ql y c e)⟩
 ·obtain⟨e,n,ne,nf,d⟩:=I.pin p hp
  exact⟨(hs.2 p.1 ne).trans e,n,ne,nf,d⟩
 ·refine(I.hok b o e).stay (λc u hc q=>(hs.2 c ?_).trans q) (λ_ q=>q) λ_ _ q=>q
  rintro rfl
  rcases hc with rfl|hc
  ·rw[I.free]at e; cases e
  ·rw[I.free]at hc; cases hc
end L2
end
section
namespace L2
open PySem PySem.Spec PyProof.Rows
abbrev Cx.caught(X:Cx)(e:Value):Cx:={X with A:=X.A.mark (some e),calm:=false,xe:=λ_ _=>False }
section
variable {X:Cx}{pins:List (Addr × Obj)}{σ : St}{H:Hp}{s:Shared}{e:Value}
theorem Inv.caught(I:Inv X pins σ H s)(e:Value):Inv (X.caught e) pins σ H s :=
 ⟨⟨I.ok.mod,I.ok.kind,I.ok.glob,I.ok.blt,I.ok.above,I.ok.inj,I.ok.has,I.ok.cab,(λz=>nomatch z),I.ok.frames,I.ok.stk,I.ok.GR,I.ok.bs,I.ok.rE,I.ok.jW,I.ok.yG,I.ok.mD,I.ok.rF⟩,I.os,I.bare,I.base,I.loc,I.cell,I.free,I.mF,I.pin,I.hok,I.len⟩
theorem Inv.uncaught(ok:X.Ok)(I:Inv (X.caught e) pins σ H s):Inv X pins σ H s:=⟨ok,I.os,I.bare,I.base,I.loc,I.cell,I.free,I.mF,I.pin,I.hok,I.len⟩
theorem SP.uncaught{D:Ends}{f:Flow}{s':Shared}(ok:X.Ok)(h:SP (X.caught e) pins D f s'):SP X pins D f s':=by
 cases f with
 |next=>obtain⟨σ',H',I,q⟩:=h; exact⟨σ',H',I.uncaught ok,q⟩
 |brk=>obtain⟨σ',H',I,q⟩:=h; exact⟨σ',H',I.uncaught ok,q⟩
 |cont=>obtain⟨σ',H',I,q⟩:=h; exact⟨σ',H',I.uncaught ok,q⟩
 |ret u=>obtain⟨v,σ',H',I,r,q⟩:=h; exact⟨v,σ',H',I.uncaught ok,r,q⟩
end
def goes(j:Nat)(D:Ends):Ends where
 nx:=λσ H=>D.nx (σ.set j none) H
 rt:=D.rt
 bk:=λσ H=>D.bk (σ.set j none) H
 ct:=λσ H=>D.ct (σ.set j none) H
def Cq(K:FZ)(cH:Addr)(j:Nat)(ts:TS)(D:Ends):St->XK:=λσ cls _ H=>∃C,cls=.ref C/\PySem.W.exmOne K (.ref C) (.ref cH)=some true/\∀ea,H ea=none->ts (goes j D) (σ.set j (some (.ref ea))) (upd H ea (nA ea C))
def Ry(K:FZ)(cH:Addr)(j:Nat)(tb:TX)(ts:TS):TS:=λD σ H=>tb D (Cq K cH j ts D) σ H
theorem Z9{X:Cx}{body:List Stmt}{tb:TX}{hn n:Str}{hp hpos pos:Pos}{b₀ : Stmt}{suite:List Stmt}{ts:TS}{cH:Addr}{j:Nat}(hst:X.stack=X.env::X.outer)(hN:X.N.Nodup)(hj:X.N[j]?=some n)(hloc:X.env.kindOf n=some .local)
  (hb:Cm X body tb) (hm:X.mg hn=some (.ref cH)) (hsu:∀e,jX (X.caught e) (b₀::suite) ts) (hg:Gl X hn:=by rfl) (hd:(hn == ("__debug__" : Str))=false:=by decide) :
  PS X (.Try body [.ExceptHandler (some (.Name hn hp)) (some n) (b₀::suite) hpos] [] [] pos) (Ry X.K cH j tb ts):=by
 refine⟨λpins s σ H D I h=>?_⟩
 refine wpAny_Try_except (wpAny_mono (hb pins s σ H D (Cq X.K cH j ts D) I h) (λf s1 q=>?_) λe s1 hx=>?_)
 ·cases f with
  |next=>exact wpAny_execs_nil q
  |ret u=>exact q
  |brk=>exact q
  |cont=>exact q
 obtain⟨σ1,H1,s0,I1,ea,cls,a0,H2,B,rfl,⟨C,rfl,hit,q⟩,os,bare,un,hok,fl,kb⟩:=hx
 have hf:X.env.frame=some X.env.locals:=by
  rcases I1.ok.stk with z|z
  ·rw[hst]at z
   exact absurd (congrArg List.length z) (by simp)
  ·exact z.2
 have hfr:X.A.frames=some (X.env::X.outer):=by rw[<-hst]; exact I1.ok.frames
 rw[hst]at fl
 refine wpAny_looks_onW (base:=B) hfr hf fl λh4 held Rz=>?_
 refine wpAny_landsW held λh5 Iv RB=>?_
 have wg:=fl
 rw[<-hst]at wg
 have RD:=Iv
 rw[<-hst]at RD
 obtain⟨fe,I5,_⟩:=I1.flown un os bare hok wg kb RD (Rz.trans RB)
 refine wpAny_handleBy_cons (codeAny_handlers_test (A:=X.A.mark (some (.ref ea))) ?_) (by intro z; cases z)
 refine yL (X:=X.caught (.ref ea)) (I5.caught (.ref ea)) hg hm ?_ hd
 have lt:PySem.W.Looks (model X.prog X.w) h5 (typeOf (.ref ea)) (.ref C):=by
  obtain⟨ob,hob,hc⟩:=Iv.there
  rw[<-hc]
  exact(PySem.W.Looks.ld hob).andThen .now
 refine PySem.W.exm_one I5.jq lt hit _ _ _ _ (λb o z=>z) ?_
 refine codeAny_handlers_suite_as ?_
 refine lands_againW Iv λh6 zF sl6=>?_
 have RG:=zF
 rw[<-hst]at RG
 obtain⟨_,_,I6⟩:=I1.flown un os bare hok wg kb RG ((Rz.trans RB).trans sl6)
 refine vK (X:=X.caught (.ref ea)) (i:=j) (v:=.ref ea) ((I6 C rfl).caught (.ref ea)) hN hj (.inl hloc) rfl (λs7 I7=>?_) (.inr hloc)
 refine wpAny_mono (hsu (.ref ea) pins s7 _ _ (goes j D) I7 (q ea fe)) (λf s8 h8=>?_) λ_ _ z=>False.elim z
 have Cr:=h8.uncaught I1.ok
 cases f with
 |next =>
  obtain⟨σ',H',I',q'⟩:=Cr
  exact Cp I' hN hj hloc λs9 I9=>⟨_,_,I9,q'⟩
 |brk =>
  obtain⟨σ',H',I',q'⟩:=Cr
  exact Cp I' hN hj hloc λs9 I9=>⟨_,_,I9,q'⟩
 |cont =>
  obtain⟨σ',H',I',q'⟩:=Cr
  exact Cp I' hN hj hloc λs9 I9=>⟨_,_,I9,q'⟩
 |ret u =>
  obtain⟨v,σ',H',I',r,q'⟩:=Cr
  exact Cp I' hN hj hloc λs9 I9=>⟨v,_,_,I9,r,q'⟩
end L2
end
section
namespace L2
open PySem PySem.Spec PyProof.Rows PySem.W PySem.Builtin PySem.Builtin.ObjectAttr PySem.Builtin.Getset_descriptor
structure n8(K:Frag)(C:Addr):Prop where
 ga:findIn K (.ref C) "__getattribute__" = some (some (.builtin "BaseException.__getattribute__"))
 gn:findIn K (.ref C) "__getattr__" = some none
 cl:findIn K (.ref C) "__class__" = some (some (.builtin "object.__class__"))
 ob:mroIn K C (.type "object")=some true
 be:mroIn K C (.type "BaseException")=some true
 is:(clsIn K C).isSome=true
section
variable {prog:Program}{w:World}{A:Around}{E:Value->Shared->Prop}{h:Heap}{g:Array GenState}{d:Drawn}{t:Nat}{os:OsState}{a C:Addr}{o:Obj}{K:Frag}
theorem aac{R:Result->Shared->Prop}(X:K.In h)(Z:n8 K C)(hx:h.get? a=some o)(hc:o.cls=.ref C)(hq:R (.ok (.ret (.ref C))) ⟨h,g,d,t,os⟩) :
  codeAny (model prog w) A (.call (.builtin "getset_descriptor.__get__") ⟨[.builtin "object.__class__",.ref a,.ref C],[]⟩) R ⟨h,g,d,t,os⟩:=by
 have ty:Looks (model prog w) h (typeOf (.ref a)) (.ref C):=hc▸(Looks.ld hx).andThen .now
 have ms:=looks_mroIn (M:=model prog w) X Z.ob
 refine codeAny_call_builtin KF.slot_gs.plain KF.entry_gs (KF.slot_gs.check _ _ _ _ _ _ _ _ KF.type_class (KF.args_gs _ _ _) ?_)
 unfold Builtin.«getset_descriptor.__get__»
 unfold Builtin.Getset_descriptor.descrGet
 rw[dga_obj]
 refine wpAny_bind (wpAny_pure ?_)
 unfold Builtin.Getset_descriptor.descrGetter
 unfold Builtin.Getset_descriptor.descrCheckInstance
 unfold Builtin.Getset_descriptor.descrNameAndClass
 unfold isInstance
 simp only[KF.owner_class]
 repeat lk
 refine⟨Code.quiet_builtin _ (by decide +kernel),codeAny_builtin KF.entry_class ?_⟩
 unfold Builtin.«object.__class__»
 unfold shownTypeOf
 repeat lk
 all_goals first|exact hq|assumption
theorem aad{tk:Tok}{Q:Fin->Shared->Prop}(X:K.In h)(Z:n8 K C)(hx:h.get? a=some o)(hc:o.cls=.ref C)(hq:Q (.done (.ret (.ref C))) ⟨h,g,d,t,os⟩) :
  wpAny (model prog w) A (Builtin.«object.__getattribute__» ⟨[.ref a,.str "__class__" tk],[]⟩) Q E ⟨h,g,d,t,os⟩:=by
 have hT5:(⟨h,g,d,t,os⟩:Shared).TypeIs (.builtin "object.__class__") "getset_descriptor" := KF.type_class
 have f6:=F.slot_gs_get.lookup
 have f7:=F.slot_gs_set.lookup
 have lc:=λA (Q:Option Value->Shared->Prop) E (q:Q (some (.builtin "object.__class__")) ⟨h,g,d,t,os⟩)=>looks_findIn (M:=model prog w) X Z.cl A Q E ⟨h,g,d,t,os⟩ (λ_ _ z=>z) q
 repeat(any_goals (first|assumption|(with_reducible refine wpAny_loadPart_at hx ?_; rw[hc])|with_reducible refine lc _ _ _ ?_|wp_step))
 refine aac X Z hx hc ?_
 repeat(any_goals (first|assumption|wp_step))
theorem aae{nameV:Value}{Q:Unit->Shared->Prop}(X:K.In h)(Z:n8 K C)(hx:h.get? a=some o)(hc:o.cls=.ref C)(hq:Q () ⟨h,g,d,t,os⟩) :
  wpAny (model prog w) A (checkBuiltinCall "BaseException.__getattribute__" ⟨[.ref a,nameV],[]⟩) Q E ⟨h,g,d,t,os⟩:=by
 have b1:builtinKind "BaseException.__getattribute__" = some .slot:=by decide +kernel
 have b2:splitId "BaseException.__getattribute__" = some ("BaseException", "__getattribute__"):=by decide +kernel
 have ha:=F.args_bexc_ga (.ref a) nameV
 have lc:=λA (Q:Bool->Shared->Prop) E (q:Q true ⟨h,g,d,t,os⟩)=>looks_mroIn (M:=model prog w) X Z.be A Q E ⟨h,g,d,t,os⟩ (λ_ _ z=>z) q
 simp only[checkBuiltinCall,b1,b2]
 refine wpAny_bind ?_
 unfold isInstance
 repeat(first|(with_reducible refine wpAny_loadPart_at hx ?_; rw[hc])|with_reducible refine lc _ _ _ ?_|wp_step)
 exact hq
theorem aaf{tk:Tok}{R:Result->Shared->Prop}(X:K.In h)(Z:n8 K C)(hx:h.get? a=some o)(hc:o.cls=.ref C)(hq:R (.ok (.ret (.ref C))) ⟨h,g,d,t,os⟩) :
  codeAny (model prog w) A (.call (.builtin "BaseException.__getattribute__") ⟨[.ref a,.str "__class__" tk],[]⟩) R ⟨h,g,d,t,os⟩ :=
 codeAny_call_builtin PySem.F.attr_ValueError.ga.plain F.entry_bexc_ga (aae X Z hx hc (aad X Z hx hc hq))
theorem aag{tk:Tok}{Q:Value->Shared->Prop}(X:K.In h)(Z:n8 K C)(hx:h.get? a=some o)(hc:o.cls=.ref C)(hq:Q (.ref C) ⟨h,g,d,t,os⟩) :
  wpAny (model prog w) A (getAttrBy (.ref a) (.str "__class__" tk) false) Q E ⟨h,g,d,t,os⟩:=by
 have f3:=PySem.F.attr_ValueError.ga.bind (.ref a)
 have hx2:(Value.builtin "BaseException.__getattribute__" == Value.builtin "object.__getattribute__")=false:=by decide +kernel
 have hx1:(onTheHeap (Value.ref C)&&Value.builtin "BaseException.__getattribute__" == Value.builtin "object.__getattribute__")=false:=by rw[hx2]; rfl
 have l1:=λA (Q:Option Value->Shared->Prop) E (q:Q (some (.builtin "BaseException.__getattribute__")) ⟨h,g,d,t,os⟩)=>looks_findIn (M:=model prog w) X Z.ga A Q E ⟨h,g,d,t,os⟩ (λ_ _ z=>z) q
 have l2:=λA (Q:Option Value->Shared->Prop) E (q:Q none ⟨h,g,d,t,os⟩)=>looks_findIn (M:=model prog w) X Z.gn A Q E ⟨h,g,d,t,os⟩ (λ_ _ z=>z) q
 repeat(any_goals (first|assumption|(with_reducible refine wpAny_loadPart_at hx ?_; rw[hc])|with_reducible refine l1 _ _ _ ?_|with_reducible refine l2 _ _ _ ?_|wp_step))
 refine aaf X Z hx hc ?_
 repeat(any_goals (first|assumption|wp_step))
theorem aah{Q:Option Value->Shared->Prop}(X:K.In h)(Z:n8 K C)(hx:h.get? a=some o)(hc:o.cls=.ref C)(hq:Q (some (.ref C)) ⟨h,g,d,t+1,os⟩) :
  wpAny (model prog w) A (getAttr? (.ref a) "__class__") Q E ⟨h,g,d,t,os⟩:=by
 unfold getAttr? getAttrBy?
 repeat(any_goals (first|assumption|with_reducible apply aag X Z hx hc|wp_step))
theorem RJ(Z:n8 K C):KitX K (.ref a) (.ref C) (Ca a C) where
 ty:=λ_ _ _ ⟨o,_,h1,h2,_⟩=>h2▸(Looks.ld h1).andThen .now
 it:=λ_ _ X _=>by
  obtain⟨cd,e⟩:=Option.isSome_iff_exists.mp Z.is
  unfold clsIn at e
  split at e
  ·rename_i ho
   intro A' Q' E' s' k q
   unfold isType loadHead
   exact wpAny_bind (wpAny_loadPart (k _ _ (X _ _ ho)) (wpAny_pure q))
  ·cases e
 ne:=λh tp dd its n sl X htp=>by
  obtain⟨cd,e⟩:=Option.isSome_iff_exists.mp Z.is
  refine Bool.eq_false_iff.mpr λq=>?_
  have q':C=tp:=Value.ref.inj (beq_iff_eq.mp q)
  subst q'
  unfold clsIn at e
  split at e
  ·rename_i ho
   have z:=(X _ _ ho).symm.trans htp
   cases z
  ·cases e
 ca:=λ{_ _ _ _ _ s} X p k=>by
  obtain⟨h,g,d,t,os⟩:=s
  obtain⟨o,_,h1,h2,_⟩:=p
  exact aah X Z h1 h2 k
end
section
variable {X:Cx}
def aai(K:Frag):List V->Hp->VK->Prop:=λxs H Q=>∃(ea C:Addr) (d:Value) (dv:V) (b:Bool),xs=[.ref ea,dv]/\H ea=some (nA ea C)/\n8 K C/\(∀u,RelV dv u->u=d)/\kitOne K (.ref C) d=some b/\Q (.bl b) H
theorem RK:g8 X (.builtin "isinstance") (aai X.K):=by
 intro pins s σ H xs us Q I r h
 obtain⟨ea,C,d,dv,b,rfl,he,Z,hd,hk,q⟩:=h
 obtain⟨u,w',rfl,ru,nU⟩:=vals2 r
 cases ru
 cases hd w' nU
 have p:Ca ea C s.heap:=(I.hok ea _ he).1
 exact kia_one (RJ Z) I.jq p hk (λz=>nomatch z) λtk=>⟨.bl b,H,I.tok tk,rfl,q⟩
def aaj(K:Frag):List V->Hp->VK->Prop:=λxs H Q=>∃(d:Value) (dv:V) (b:Bool),xs=[.non,dv]/\(∀u,RelV dv u->u=d)/\kitOne K (.type "NoneType") d=some b/\Q (.bl b) H
theorem RL:g8 X (.builtin "isinstance") (aaj X.K):=by
 intro pins s σ H xs us Q I r h
 obtain⟨d,dv,b,rfl,hd,hk,q⟩:=h
 obtain⟨u,w',rfl,ru,nU⟩:=vals2 r
 cases ru
 cases hd w' nU
 exact kia_one kitx_none I.jq True.intro hk (λz=>nomatch z) λtk=>⟨.bl b,H,I.tok tk,rfl,q⟩
end
end L2
end
section
namespace L2
open PySem
theorem aak(a b:Int):a=b*a.fdiv b+a.fmod b:=by
 have:=Int.mul_fdiv_add_fmod a b
 omega
theorem aal(a b:Int)(h:b≠0):(a.fmod b).natAbs<b.natAbs:=by
 have h1:=Int.emod_nonneg a h
 have h2:=Int.emod_lt a h
 rw[Int.fmod_eq_emod]
 split
 ·omega
 ·rename_i hn
  have hb:¬0<=b:=λz=>hn (.inl z)
  have hd:¬b∣a:=λz=>hn (.inr z)
  have h3:a%b≠0:=λz=>hd (Int.dvd_of_emod_eq_zero z)
  omega
theorem aam(a b:Int):Int.gcd b (a.fmod b)=Int.gcd a b:=by
 have e:=aak a b
 apply Nat.dvd_antisymm
 ·refine Int.dvd_gcd ?_ ?_
  ·have h1:(Int.gcd b (a.fmod b):Int)∣b:=Int.gcd_dvd_left ..
   have h2:(Int.gcd b (a.fmod b):Int)∣a.fmod b:=Int.gcd_dvd_right ..
   have h3:=Int.dvd_add (Int.dvd_mul_of_dvd_left (c:=a.fdiv b) h1) h2
   rw[<-e]at h3
   exact h3
  ·exact Int.gcd_dvd_left ..
 ·refine Int.dvd_gcd ?_ ?_
  ·exact Int.gcd_dvd_right ..
  ·have h1:(Int.gcd a b:Int)∣a:=Int.gcd_dvd_left ..
   have h2:(Int.gcd a b:Int)∣b:=Int.gcd_dvd_right ..
   have e2:a.fmod b=a-b*a.fdiv b:=by omega
   rw[e2]
   exact Int.dvd_sub h1 (Int.dvd_mul_of_dvd_left h2)
theorem aan(a:Int):(if a<0 then -a else a)=((Int.gcd a 0:Nat):Int):=by
 rw[Int.gcd_zero_right]
 split <;> omega
theorem RM{a b:Int}(hb:0<b):0<((Int.gcd a b:Nat):Int)/\((Int.gcd a b:Nat):Int)<=b/\1<=b / (Int.gcd a b:Nat)/\Int.gcd (a / (Int.gcd a b:Nat)) (b / (Int.gcd a b:Nat))=1/\(0<=a->0<=a / (Int.gcd a b:Nat)) /\
  a=(a / (Int.gcd a b:Nat))*(Int.gcd a b:Nat)/\b=(b / (Int.gcd a b:Nat))*(Int.gcd a b:Nat):=by
 have hg:0<Int.gcd a b:=Int.gcd_pos_of_ne_zero_right a (by omega)
 have hgi:0<((Int.gcd a b:Nat):Int):=by omega
 have d1:(Int.gcd a b:Int)∣a:=Int.gcd_dvd_left ..
 have d2:(Int.gcd a b:Int)∣b:=Int.gcd_dvd_right ..
 have e1:=Int.ediv_mul_cancel d1
 have e2:=Int.ediv_mul_cancel d2
 refine⟨hgi,Int.le_of_dvd hb d2,?_,Int.gcd_ediv_gcd_ediv_gcd hg,λh=>Int.ediv_nonneg h (by omega),e1.symm,e2.symm⟩
 have:0<b / (Int.gcd a b:Nat):=Int.ediv_pos_of_pos_of_dvd hb (by omega) d2
 omega
end L2
end
section
namespace L2
open PySem PySem.Spec PyProof.Rows
section
variable {X:Cx}
end
end L2
end
section
namespace L2
open PySem PySem.Spec PyProof.Rows PySem.W
theorem Iw{K:Frag}{h:Heap}{mg:Str->Option Value}{x:Str}{C:Addr}{bmB:List Value}{newId:String}(X:K.In h)(G:h.Ns mainGlobals mg)(e:nsIn K mainGlobals x=some (some (.ref C)))(q:excIn K C bmB newId=true):OwnCls x C bmB newId mg h:=by
 constructor
 ·exact mg_of X G e
 unfold excIn at q
 split at q
 case h_2=>cases q
 rename_i dd cd sl lk
 split at q
 case h_2=>cases q
 rename_i c0 bm y0 y1 y2 y3 nid y5 hm hl
 rw[Bool.and_eq_true,Bool.and_eq_true,Bool.and_eq_true,Bool.and_eq_true,Bool.and_eq_true]at q
 obtain⟨⟨⟨⟨⟨q1,q2⟩,q3⟩,q4⟩,q5⟩,q6⟩:=q
 have r1:=beq_iff_eq.mp q1
 have r2:=beq_iff_eq.mp q2
 have r6:=beq_iff_eq.mp q6
 have r3:cd.hasDel=false:=by simpa using q3
 subst r1 r2
 have hsl:sl = #[y0,y1,y2,y3,some (.builtin nid),y5]:=by
  cases sl with
  |mk l=>exact congrArg Array.mk hl
 subst hsl
 cases cd with
 |mk nm bs mro ns qn hd sn sub ab col del =>
  dsimp only at hm r3 q5 r6
  subst hm r3
  exact⟨bm,ns,nm,qn,bs,hd,sn,sub,ab,col,dd,y0,y1,y2,y3,y5,_,X _ _ lk,.of_isNs (isNs_of_in X q5),nsMap_none_of_in X q5 r6,tail_of_in X q4⟩
section
variable {P:Program}{w:World}{K:Frag}{mg:Str->Option Value}{base:Heap}
theorem vU.okX{x qual:Str}{st:Stmt}{f:Addr}{fd:FuncData}{N ps:List Str}{k:Nat}{sp:Sp}(F:vU K x qual st f fd)(S:uf N ps (bG st))(len:∀vs H Q E,sp vs H Q E->vs.length=ps.length)
  (hbody:∀(cdv:Value) (A:Around) (outer:List Env) (s:Shared) (H:Hp) (vs:List V) (Q:VK) (E:XK),gP k (A.deeper (envOfC qual (bG st) s.heap.objs.size f cdv))->sp vs H Q E ->
   ∃t,jX (mJ (j4 P w) P w K mg base N qual (bG st) f cdv A outer s H E) (nu st) t/\t {nx:=λ_ H'=>Q .non H',rt:=Q } (start N vs) H):lM P w K mg base (j4 P w) (k+1) f fd ps sp:=by
 obtain⟨oc,od,kV,doc,pm,an,cdv,ct,osl,rfl,lk,hcd⟩:=F.ex
 exact YL lk hcd S len λA outer s H vs Q E hr h=>hbody cdv A outer s H vs Q E hr h
def aU(P:Program)(w:World)(K:Frag)(mg:Str->Option Value)(base:Heap)(k:Nat)(x:Str)(ps:List Str)(sp:Sp):Prop :=
 ∃f fd,lM P w K mg base (j4 P w) k f fd ps sp/\Binds K fd ps []/\keepIn K (.ref f)=true/\mg x=some (.ref f)
theorem aU.mono{j k:Nat}{x:Str}{ps:List Str}{sp:Sp}(D:aU P w K mg base j x ps sp)(h:j<=k):aU P w K mg base k x ps sp:=by
 obtain⟨f,fd,h1,h2⟩:=D
 exact⟨f,fd,h1.mono h,h2⟩
theorem At.RN{k:Nat}{x:Str}{st:Stmt}{N ps:List Str}{sp:Sp}(a:At K mg x st)(S:uf N ps (bG st))
  (hb:∀(kV doc pm:Value) (an:Option Addr) (cdv ct:Value) (us:List Value),us.length=ps.length->bindArgs (fnOf x x (rY st) (nu st) (bG st) .none kV doc pm an cdv ct) ⟨us,[]⟩=pure (ps.zip us))
  (len:∀vs H Q E,sp vs H Q E->vs.length=ps.length)
  (hbody:∀(f:Addr) (cdv:Value) (A:Around) (outer:List Env) (s:Shared) (H:Hp) (vs:List V) (Q:VK) (E:XK),gP k (A.deeper (envOfC x (bG st) s.heap.objs.size f cdv))->sp vs H Q E ->
   ∃t,jX (mJ (j4 P w) P w K mg base N x (bG st) f cdv A outer s H E) (nu st) t/\t {nx:=λ_ H'=>Q .non H',rt:=Q } (start N vs) H):aU P w K mg base (k+1) x ps sp:=by
 obtain⟨f,fd,F,m⟩:=a
 exact⟨f,fd,F.okX S len λcdv A outer s H vs Q E hr h=>hbody f cdv A outer s H vs Q E hr h,F.binds hb,F.kp,m⟩
end
section
variable {X:Cx}{k:Nat}{x:Str}{ps:List Str}{sp:Sp}{p pos:Pos}{e:Expr}{es:List Expr}{t:TA}
theorem aao{P:Program}{w:World}:Passes (j4 P w) X E0:=λ_ _ _ _ _ _ _ h=>by
 obtain⟨_,_,_,_,_,_,q,_⟩:=h
 exact q.elim
theorem RQ(D:aU X.prog X.w X.K X.mg X.base k x ps sp)(hr:gP k X.A)(ha:PA X.mG (e::es) t)(hg:Gl X x:=by rfl)(hdb:(x == ("__debug__" : Str))=false:=by decide)
  (he:starEach (e::es) X.env=(false,eval e X.env)::starEach es X.env:=by rfl) (hpl:(backTo pos (starEach es X.env)).any (·.1)=false:=by rfl):Ip X (.Call (.Name x p) (e::es) [] pos) (Iu sp t):=by
 obtain⟨f,fd,h1,h2,h3,h4⟩:=D
 exact Z6 h1 hr h4 h3 h2 ha hg hdb he hpl
end
end L2
end
section
namespace L2
open PySem PySem.Spec PyProof.Rows
noncomputable def Iz(K:FZ)(l1 l2:Addr):It where
 go:=λi H=>∃xs ys x y,cJ K H l1 xs/\cJ K H l2 ys/\xs[i]?=some x/\ys[i]?=some y
 vN:=λi H v H'=>∃T x y,v=.ref T/\H T=none/\H'=upd H T (.tup [x,y])/\∀xs ys,cJ K H l1 xs->cJ K H l2 ys->xs[i]?=some x/\ys[i]?=some y
 stop:=λi H=>∃xs ys,cJ K H l1 xs/\cJ K H l2 ys/\i=min xs.length ys.length
def aap(l1 l2 z TI TO i1 i2:Addr)(i:Nat)(h:Heap):Prop:=IsZip h z TI TO .none/\IsPair h TI (.ref i1) (.ref i2)/\(∃a b,IsPair h TO a b)/\h.IsListIter i1 l1 i/\h.IsListIter i2 l2 i
section
variable {P:Program}{w:World}{K:FZ}
theorem Inv.aaq{X:Cx}{pins:List (Addr × Obj)}{σ : St}{H:Hp}{s:Shared}{h':Heap}{tk:Nat}{fp:List Addr}{T:Addr}{xs:List V}{its:List Value}(I:Inv X pins σ H s)(hf:∀b∈fp,lG X pins H b)(k:∀b o,b∉fp->s.heap.get? b=some o->h'.get? b=some o)
  (th:∀b∈fp,∃o,h'.get? b=some o) (hT:s.heap.objs.size<=T) (ht:IsTup h' T its.toArray) (rv:Vals xs its) (hz:xs.length<=sizeLine):Inv X pins σ (upd H T (.tup xs)) {s with heap:=h',toks:=tk }:=by
 have fT:H T=none:=I.hok.fresh hT
 have neT:∀b o,s.heap.get? b=some o->b≠T:=λb o e z=>by rw[z]at e; exact absurd (Heap.lt_size e) (Nat.not_lt.mpr hT)
 have n6:∀b o,H b=some o->b≠T:=λb o e z=>by rw[z,fT]at e; cases e
 refine I.step (g':=s.gens) (d':=s.drawn) (ch:=fp) (λb hb=>?_) (λb o _ _ hc e _=>k b o hc e) (λb o _ _ hc e _=>⟨o.slots,k b o hc e⟩) (λb o _ e n=>by rw[cP (neT b o e)]; exact n) (λb o hc e=>⟨o,k b o hc e⟩)
  (λb ys e=>by rw[cP (n6 b _ e)]; exact e) (λb o u e=>by rw[cP (n6 b _ e)]; exact e) (λb ps e=>⟨#[],by rw[cP (n6 b _ e)]; simpa using e⟩) (λm hm=>?_) (λb u e=>?_) I.bare
 ·obtain⟨f0,f1,f2,f3,f4,f5⟩:=hf b hb
  exact⟨f3,f1,f4,f5⟩
 ·obtain⟨o,es,ep,ho,r⟩:=hm
  exact⟨o,es,ep,k _ o (λz=>(hf _ z).2.1 rfl) ho,r⟩
 ·by_cases z:b=T
  ·subst z
   rw[jB]at e
   cases e
   exact⟨hz,its,rv,ht⟩
  ·rw[cP z]at e
   refine(I.hok b u e).stay (λc o hc q=>k c o (λzc=>?_) q) (λc q=>by rw[cP (n6 c _ q)]; exact q) λc ys q=>by rw[cP (n6 c _ q)]; exact q
   have:=(hf c zc).1
   rcases hc with rfl|hc
   ·rw[this]at e; cases e
   ·rw[this]at hc; cases hc
theorem Inv.aar{X:Cx}{pins:List (Addr × Obj)}{σ : St}{H:Hp}{s:Shared}{h':Heap}{tk:Nat}{fp:List Addr}(I:Inv X pins σ H s)(hf:∀b∈fp,lG X pins H b)(k:∀b o,b∉fp->s.heap.get? b=some o->h'.get? b=some o):Inv X pins σ H {s with heap:=h',toks:=tk }:=by
 refine I.step (g':=s.gens) (d':=s.drawn) (ch:=fp) (λb hb=>?_) (λb o _ _ hc e _=>k b o hc e) (λb o _ _ hc e _=>⟨o.slots,k b o hc e⟩) (λb o _ e n=>n) (λb o hc e=>⟨o,k b o hc e⟩)
  (λb ys e=>e) (λb o u e=>e) (λb ps e=>⟨#[],by simpa using e⟩) (λm hm=>?_) (λb u e=>?_) I.bare
 ·obtain⟨f0,f1,f2,f3,f4,f5⟩:=hf b hb
  exact⟨f3,f1,f4,f5⟩
 ·obtain⟨o,es,ep,ho,r⟩:=hm
  exact⟨o,es,ep,k _ o (λz=>(hf _ z).2.1 rfl) ho,r⟩
 ·refine(I.hok b u e).stay (λc o hc q=>k c o (λzc=>?_) q) (λc q=>q) λc ys q=>q
  have:=(hf c zc).1
  rcases hc with rfl|hc
  ·rw[this]at e; cases e
  ·rw[this]at hc; cases hc
theorem aas{elts:List Expr}{k:Nat}{pos:Pos}(l1 l2 z TI TO i1 i2:Addr)(D:ZipApart z TI TO i1 i2 l1 l2):Turn P w K (.Tuple elts k pos) (Iz K l1 l2) [z,TI,TO,i1,i2] z (aap l1 l2 z TI TO i1 i2) where
 mem:=by simp
 obj:=λi h st b hb=>by
  obtain⟨hz,hTI,⟨a,c,hTO⟩,⟨o1,e1,_,d1⟩,⟨o2,e2,_,d2⟩⟩:=st
  have hb':b=z\/b=TI\/b=TO\/b=i1\/b=i2:=by simpa using hb
  rcases hb' with rfl|rfl|rfl|rfl|rfl
  ·exact⟨_,hz,λv q=>nomatch q⟩
  ·exact⟨_,hTI,λv q=>nomatch q⟩
  ·exact⟨_,hTO,λv q=>nomatch q⟩
  ·exact⟨o1,e1,λv q=>by rw[d1]at q; cases q⟩
  ·exact⟨o2,e2,λv q=>by rw[d2]at q; cases q⟩
 keep:=λi h h' st kp=>by
  obtain⟨hz,hTI,⟨a,c,hTO⟩,h1,h2⟩:=st
  exact⟨kp z (by simp) _ hz,kp TI (by simp) _ hTI,⟨a,c,kp TO (by simp) _ hTO⟩,h1.at λo e=>kp i1 (by simp) o e,h2.at λo e=>kp i2 (by simp) o e⟩
 item:=by
  intro X hP hw hK hc i pins s σ H E I hf st hg
  subst hP hw hK
  obtain⟨xs,ys,x,y,q1,q2,hx,hy⟩:=hg
  obtain⟨ur,Cu,p1,_⟩:=I.list q1
  obtain⟨its2,jZ,p2,_⟩:=I.list q2
  obtain⟨u,hu,ru⟩:=Cu.get hx
  obtain⟨v,hv,rv⟩:=jZ.get hy
  have W:=WalksT.zip2 (prog:=X.prog) (w:=X.w) (A:=X.A) (I.ok.hd hc) z TI TO i1 i2 l1 l2 D ur.toArray its2.toArray
  have lt1:i<ur.length:=(List.getElem?_eq_some_iff.mp hu).1
  have RT:i<its2.length:=(List.getElem?_eq_some_iff.mp hv).1
  refine W.item i s _ E (by simp; omega) ⟨st.1,st.2.1,st.2.2.1,st.2.2.2.1,st.2.2.2.2,p1.isList,p2.isList⟩ λT vals h' tk hp hT ht mid kk=>?_
  obtain⟨u',v',e1,e2,rfl⟩:=hp
  have eu:u'=u:=by
   have:ur[i]?=some u':=by simpa using e1
   rw[hu]at this; cases this; rfl
  have ev:v'=v:=by
   have:its2[i]?=some v':=by simpa using e2
   rw[hv]at this; cases this; rfl
  subst eu ev
  refine⟨.ref T,rfl,?_⟩
  refine W.go elts k pos i T _ _ E mid λh'' st' RV=>?_
  have nT:=W.apart i T _ mid
  have ob:=(λb hb=>(by
   obtain⟨hz,hTI,⟨a,c,hTO⟩,⟨o1,e1,_,d1⟩,⟨o2,e2,_,d2⟩⟩:=st
   have hb':b=z\/b=TI\/b=TO\/b=i1\/b=i2:=by simpa using hb
   rcases hb' with rfl|rfl|rfl|rfl|rfl
   ·exact Heap.lt_size hz
   ·exact Heap.lt_size hTI
   ·exact Heap.lt_size hTO
   ·exact Heap.lt_size e1
   ·exact Heap.lt_size e2:b<s.heap.objs.size):∀b∈[z,TI,TO,i1,i2],b<s.heap.objs.size)
  have nTf:T∉[z,TI,TO,i1,i2]:=λm=>absurd (ob T m) (Nat.not_lt.mpr hT)
  have sub:∀b,b∉[z,TI,TO,i1,i2]->b∉[z,TO,i1,i2]:=λb n m=>n (by simp at m ⊢; rcases m with rfl|rfl|rfl|rfl <;> simp)
  have aat:IsTup h'' T #[u',v']:=by
   obtain⟨o,e,r⟩:=ht
   exact⟨o,RV T o nT e,r⟩
  have th:∀b∈[z,TI,TO,i1,i2],∃o,h''.get? b=some o:=λb hb=>by
   obtain⟨hz,hTI,⟨a,c,hTO⟩,⟨o1,e1,_,d1⟩,⟨o2,e2,_,d2⟩,_⟩:=st'
   have hb':b=z\/b=TI\/b=TO\/b=i1\/b=i2:=by simpa using hb
   rcases hb' with rfl|rfl|rfl|rfl|rfl
   ·exact⟨_,hz⟩
   ·exact⟨_,hTI⟩
   ·exact⟨_,hTO⟩
   ·exact⟨_,e1⟩
   ·exact⟨_,e2⟩
  have I':Inv X pins σ (upd H T (.tup [x,y])) {s with heap:=h'',toks:=tk }:=I.aaq (its:=[u',v']) hf (λb o n e=>RV b o (sub b n) (kk b o (sub b n) e)) th hT aat (.cons ru (.cons rv .nil)) (by show 2<=sizeLine; decide)
  refine⟨.ref T,_,I',rfl,⟨T,x,y,rfl,I.hok.fresh hT,rfl,λxs' ys' a1 a2=>?_⟩,⟨st'.1,st'.2.1,st'.2.2.1,st'.2.2.2.1,st'.2.2.2.2.1⟩,λb hb=>?_⟩
  ·rw[I.Bt a1 q1,I.Bt a2 q2]
   exact⟨hx,hy⟩
  ·have nb:b≠T:=by
    intro e0
    rw[e0]at hb
    exact nTf hb
   rw[cP nb]
   exact(hf b hb).1
 done:=by
  intro X hP hw hK hc i pins s σ H E I hf st hg
  subst hP hw hK
  obtain⟨xs,ys,q1,q2,e⟩:=hg
  obtain⟨ur,Cu,p1,_⟩:=I.list q1
  obtain⟨its2,jZ,p2,_⟩:=I.list q2
  have W:=WalksT.zip2 (prog:=X.prog) (w:=X.w) (A:=X.A) (I.ok.hd hc) z TI TO i1 i2 l1 l2 D ur.toArray its2.toArray
  have ei:i=min ur.toArray.size its2.toArray.size:=by simp[e,Cu.length,jZ.length]
  subst ei
  have sub:∀b,b∉[z,TI,TO,i1,i2]->b∉[z,TO,i1,i2]:=λb n m=>n (by simp at m ⊢; rcases m with rfl|rfl|rfl|rfl <;> simp)
  exact W.done s _ E ⟨st.1,st.2.1,st.2.2.1,st.2.2.2.1,st.2.2.2.2,p1.isList,p2.isList⟩ λh' tk kk=>⟨rfl,I.aar hf λb o n e=>kk b o (sub b n) e⟩
 self:=λA i s Q E st h=>wpAny_pyIter_zip st.1 h
end
section
variable {X:Cx}
def RW(K:FZ)(ta:TA):TI:=λσ H R=>ta σ H λvs H1=>∃l1 l2,vs=[.ref l1,.ref l2]/\(∃xs,cJ K H1 l1 xs)/\(∃ys,cJ K H1 l2 ys)/\R (Iz K l1 l2) H1
theorem RX{elts:List Expr}{k:Nat}{tpos:Pos}{a b:Expr}{ta:TA}{p pos:Pos}(hm:X.mg "zip" = none) (ha:PA X [a,b] ta) (hg:Gl X "zip" := by rfl) (hs:starEach [a,b] X.env=[(false,eval a X.env),(false,eval b X.env)]:=by rfl) (hs2:starEach [b] X.env=[(false,eval b X.env)]:=by rfl) :
  PI X (.Tuple elts k tpos) (.Call (.Name "zip" p) [a,b] [] pos) (RW X.K ta):=by
 intro pins s σ H R I h
 refine Call_ (vL I hg hm (show bootBuiltins "zip" = some (.type "zip") by decide +kernel) (PyProof.Rows.callWith_type1 (bJ (ha pos pins s σ H _ I h) λus s1 ⟨vs,H1,I1,r1,q1⟩=>?_) (by rw[hs,hs2]) (by rw[hs2]; rfl)))
 obtain⟨l1,l2,e,⟨xs,h1⟩,⟨ys,h2⟩,q⟩:=q1
 subst e
 cases r1 with
 |cons r rr =>
  cases rr with
  |cons r' rr =>
   cases rr
   cases r
   cases r'
   obtain⟨ur,Cu,p1,_⟩:=I1.list h1
   obtain⟨its2,jZ,p2,_⟩:=I1.list h2
   obtain⟨o1,e1,_⟩:=p1.isList
   obtain⟨o2,e2,_⟩:=p2.isList
   refine call_zip_2 p1.isList p2.isList λh' hz hTI hTO hi1 hi2 hsz hk=>?_
   refine wpAny_pyIter_zip hz ?_
   refine⟨_,[_,_,_,_,_],_,_,H1,rfl,I1.kept (t':=s1.toks) hk,aas l1 l2 _ _ _ _ _ (PySem.W.ktu_apart _ _ _ (Heap.lt_size e1) (Heap.lt_size e2)),⟨hz,hTI,⟨_,_,hTO⟩,hi1,hi2⟩,λc hc=>?_,q⟩
   have hc':c=s1.heap.objs.size+4\/c=s1.heap.objs.size+2\/c=s1.heap.objs.size+3\/c=s1.heap.objs.size\/c=s1.heap.objs.size+1:=by simpa using hc
   have hge:s1.heap.objs.size<=c:=by rcases hc' with rfl|rfl|rfl|rfl|rfl <;> omega
   exact I1.yM hge (I1.hok.fresh hge)
end
end L2
end
section
namespace L2
open PySem
end L2
end
section
namespace L2
open PySem PySem.Spec PyProof.Rows
section
variable {X:Cx}{e:Expr}{te:TE}{th:TO}{pos p2:Pos}
end
end L2
end
section
namespace L2
open PySem PySem.Spec PyProof.Rows
section
variable {X:Cx}
end
section
variable {X:Cx}{tg:Expr}
end
end L2
end
section
namespace L2
open PySem PySem.Spec PyProof.Rows
section
variable {X:Cx}
end
end L2
end
section
namespace L2
open PySem PySem.Spec PyProof.Rows
inductive Rs(α : Type) where
 |bad|ex (c:Str)|ok (a : α)
def Rs.bind{α β : Type}:Rs α -> (α -> Rs β)->Rs β
 |.bad,_=>.bad
 |.ex c,_=>.ex c
 |.ok a,f=>f a
instance:Monad Rs where
 pure:=.ok
 bind:=Rs.bind
def Rs.post{α : Type}(r:Rs α)(EX:Str->Prop)(P : α -> Prop):Prop:=match r with
 |.bad=>False
 |.ex c=>EX c
 |.ok a=>P a
theorem Rs.aY{α β : Type}{r:Rs α}{f : α -> Rs β}{EX:Str->Prop}{P : β -> Prop}(h:(r.bind f).post EX P):r.post EX λa=>(f a).post EX P:=by
 cases r <;> exact h
theorem Rs.bH{α : Type}{r:Rs α}{EX:Str->Prop}{P P' : α -> Prop}(h:r.post EX P)(i:∀a,P a->P' a):r.post EX P':=by
 cases r with
 |bad=>exact h
 |ex c=>exact h
 |ok a=>exact i a h
open Classical in
def bf(W:Addr->Prop)(H:Hp):Hp:=λb=>if W b then none else H b
theorem Cv{W:Addr->Prop}{H:Hp}{b:Addr}(h:W b):bf W H b=none:=if_pos h
theorem iu{W:Addr->Prop}{H:Hp}{b:Addr}(h:¬W b):bf W H b=H b:=if_neg h
theorem lN{W:Addr->Prop}{H:Hp}{b:Addr}{o:HO}(h:bf W H b=some o):¬W b/\H b=some o:=by
 by_cases w:W b
 ·rw[Cv w]at h; cases h
 ·rw[iu w]at h; exact⟨w,h⟩
theorem jK(W:Addr->Prop)(H:Hp):Same (bf W H) H:=λ_ _ h=>(lN h).2
theorem pA{W W':Addr->Prop}{H H':Hp}(hw:∀b o,H b=some o->W' b->W b)(s:∀b o,¬W b->H b=some o->H' b=some o):Same (bf W H) (bf W' H'):=λb o h=>by
 obtain⟨n,e⟩:=lN h
 rw[iu λw=>n (hw b o e w)]
 exact s b o n e
theorem uw{W:Addr->Prop}{H:Hp}{a:Addr}{o:HO}(h:W a):bf W (upd H a o)=bf W H:=by
 funext b
 by_cases w:W b
 ·rw[Cv w,Cv w]
 ·rw[iu w,iu w]
  exact cP λe=>w (e▸h)
inductive Sl where
 |un|sh (t:Tr)|ow (ts:List Tr)|rf (ts:List Tr)|dp (ts:List Tr)
abbrev En:=List Sl
inductive Rv where
 |v (T:Tr) (fr:Bool)|s (i:Nat)
abbrev EF:=En->Rs (Rv × En)
structure Tx where
 K:FZ
 Z:Addr->Prop
 R:Addr->Prop
 H0:Hp
 B:Hp
 EX:Str->Prop
def Mu(ρ : En)(i:Nat):Prop:=∃ts,ρ[i]?=some (Sl.ow ts)\/ρ[i]?=some (Sl.rf ts)
def aau:Tr->Bool
 |.lst _=>true
 |_=>false
inductive DR(K:FZ)(G H:Hp):List V->List Tr->List Addr->Prop
 |nil:DR K G H [] [] []
 |cl {x:V} {u:Tr} {xs:List V} {ts:List Tr} {bs:List Addr} (n:aau u=false) (h:Rep K G x u) (r:DR K G H xs ts bs):DR K G H (x::xs) (u::ts) bs
 |rw {b:Addr} {ys:List V} {us:List Tr} {xs:List V} {ts:List Tr} {bs:List Addr} (h:H b=some (.lst ys)) (q:aQ K G ys us) (r:DR K G H xs ts bs):DR K G H (.ref b::xs) (.lst us::ts) (b::bs)
def sE(t:Tx)(W:Addr->Prop)(H:Hp)(a:Addr)(xs:List V)(ts:List Tr)(fp:List Addr):Prop :=
 ∃bs,fp=a::bs/\fp.Nodup/\(∀b∈fp,W b/\t.H0 b=none)/\H a=some (.lst xs)/\DR t.K (bf W H) H xs ts bs
theorem DR.move{K:FZ}{G G' H H':Hp}(m:Same G G'):∀{xs:List V} {ts:List Tr} {bs:List Addr},DR K G H xs ts bs->(∀b o,b∈bs->H b=some o->H' b=some o)->DR K G' H' xs ts bs
 |_,_,_,.nil,_=>.nil
 |_,_,_,.cl n h r,k=>.cl n (h.mono m) (DR.move m r k)
 |_,_,_,.rw h q r,k=>.rw (k _ _ (List.mem_cons_self ..) h) (q.mono m) (DR.move m r λb o hb=>k b o (List.mem_cons_of_mem _ hb))
theorem sE.move{t t':Tx}{W W':Addr->Prop}{H H':Hp}{a:Addr}{xs:List V}{ts:List Tr}{fp:List Addr}(d:sE t W H a xs ts fp)(hK:t'.K=t.K)(h0:t'.H0=t.H0)(m:Same (bf W H) (bf W' H'))(w:∀b∈fp,W' b)(k:∀b o,b∈fp->H b=some o->H' b=some o):sE t' W' H' a xs ts fp:=by
 obtain⟨bs,e,nd,ww,ha,r⟩:=d
 refine⟨bs,e,nd,λb hb=>⟨w b hb,by rw[h0]; exact(ww b hb).2⟩,k a _ (by rw[e]; exact List.mem_cons_self ..) ha,?_⟩
 rw[hK]
 exact r.move m λb o hb=>k b o (by rw[e]; exact List.mem_cons_of_mem _ hb)
def Lt(H:Hp)(b:Addr):Prop:=(∃xs,H b=some (.lst xs))\/∃ps,H b=some (.f9 ps)
theorem Lt.ne{H:Hp}{b:Addr}(h:Lt H b):H b≠none:=by
 rcases h with⟨_,h⟩|⟨_,h⟩ <;> (rw[h]; intro z; cases z)
theorem Lt.grow{H H':Hp}{b:Addr}(h:Lt H b)(s:∀b o,H b=some o->H' b=some o):Lt H' b:=by
 rcases h with⟨_,h⟩|⟨_,h⟩
 ·exact .inl ⟨_,s _ _ h⟩
 ·exact .inr ⟨_,s _ _ h⟩
def qD:List Str:=["falling_places", "order_of_bounds"]
def Tb(K:FZ)(b:Addr):Prop:=∃x∈qD,∃c,PySem.W.tabIn K x=some (c,b)
def aav(o:Obj)(q:Str):Prop:=∃vs t,o.data=.fields vs/\vs[1]?=some (.str q t)
def aaw(x:Str):Str:=x++(".<locals>." : Str)++("<lambda>" : Str)
def aax(H:Hp)(q:Str)(ps:Array Value):Prop:=TriplesOk ps.toList/\∀pos v,codeAmong pos ps.toList=some v->∃c o,v=.ref c/\H c=some (.cV o (.own 0))/\aav o q
def fU(K:FZ)(H:Hp):Prop:=∀x∈qD,∀c b,PySem.W.tabIn K x=some (c,b)->∃ps,H b=some (.f9 ps)/\aax H (aaw x) ps
theorem fU.f9{K:FZ}{H:Hp}(h:fU K H){b:Addr}(t:Tb K b):∃ps,H b=some (.f9 ps):=by
 obtain⟨x,hx,c,e⟩:=t
 obtain⟨ps,q,_⟩:=h x hx c b e
 exact⟨ps,q⟩
theorem fU.ne{K:FZ}{H:Hp}(h:fU K H){a b:Addr}{xs:List V}(t:Tb K b)(e:H a=some (.lst xs)):b≠a:=λz=>by
 obtain⟨ps,q⟩:=h.f9 t
 rw[z,e]at q
 cases q
theorem fU.fr{K:FZ}{H H':Hp}(h:fU K H)(s:∀b o,(∀xs,o ≠ .lst xs)->H b=some o->H' b=some o):fU K H':=λx hx c b e=>by
 obtain⟨ps,q,t1,t2⟩:=h x hx c b e
 refine⟨ps,s _ _ (λ_ z=>by cases z) q,t1,λpos v k=>?_⟩
 obtain⟨c,o,e1,e2,e3⟩:=t2 pos v k
 exact⟨c,o,e1,s _ _ (λ_ z=>by cases z) e2,e3⟩
theorem fU.same{K:FZ}{H H':Hp}(h:fU K H)(s:Same H H'):fU K H':=h.fr λb o _=>s b o
theorem fU.upd{K:FZ}{H:Hp}(h:fU K H){a:Addr}{xs:List V}{o:HO}(e:H a=some (.lst xs)):fU K (L2.upd H a o):=h.fr λb u n q=>by
 rw[cP]
 ·exact q
 ·rintro rfl
  rw[e]at q
  cases q
  exact n _ rfl
structure oh(t:Tx)(W:Addr->Prop)(H:Hp):Prop where
 ok:fU t.K H
 w:∀b,Tb t.K b->W b
 r:∀b,Tb t.K b->t.R b
 B:∀b,Tb t.K b->t.B b=none
theorem oh.same{t:Tx}{W:Addr->Prop}{H H':Hp}(f:oh t W H)(s:Same H H'):oh t W H':=⟨f.ok.same s,f.w,f.r,f.B⟩
theorem oh.RZ{t:Tx}{W W':Addr->Prop}{H:Hp}(f:oh t W H)(h:∀b,W b->W' b):oh t W' H:=⟨f.ok,λb z=>h b (f.w b z),f.r,f.B⟩
theorem oh.cut{t:Tx}{W:Addr->Prop}{H:Hp}(f:oh t W H){D:Addr->Prop}(h:∀b,D b->∃xs,H b=some (.lst xs)):oh t (λb=>W b/\¬D b) H:=⟨f.ok,λb z=>⟨f.w b z,λd=>by
 obtain⟨xs,e⟩:=h b d
 exact f.ok.ne z e rfl⟩,f.r,f.B⟩
structure EOF(t:Tx)(W:Addr->Prop)(ρ : En)(σ : St)(H:Hp)(F:Nat->List Addr):Prop where
 len : ρ.length = σ.length
 zw:∀b,t.Z b->W b
 z0:∀b,t.Z b->t.H0 b≠none
 wl:∀b,W b->Lt H b
 f0:∀b o,t.H0 b=some o->¬t.R b->H b=some o
 n0:∀b,H b=none->t.H0 b=none
 sh:∀(i:Nat) (u:Tr),ρ[i]?=some (.sh u)->∃v,σ[i]?=some (some v)/\Rep t.K (bf W H) v u
 ow:∀(i:Nat) (ts:List Tr),ρ[i]?=some (Sl.ow ts)->∃a xs,σ[i]?=some (some (V.ref a))/\W a/\t.H0 a=none/\H a=some (.lst xs)/\aQ t.K (bf W H) xs ts
 rf:∀(i:Nat) (ts:List Tr),ρ[i]?=some (Sl.rf ts)->∃a xs,σ[i]?=some (some (V.ref a))/\W a/\t.R a/\H a=some (.lst xs)/\aQ t.K (bf W H) xs ts
 dis:∀(i j:Nat) (a:Addr),Mu ρ i->Mu ρ j -> σ[i]?=some (some (V.ref a)) -> σ[j]?=some (some (V.ref a))->i=j
 pn:∀b o,t.B b=some o->H b=some o
 pd:∀(i:Nat) (a:Addr),Mu ρ i -> σ[i]?=some (some (V.ref a))->t.B a=none
 dp:∀(i:Nat) (ts:List Tr),ρ[i]?=some (Sl.dp ts)->∃a xs,σ[i]?=some (some (V.ref a))/\sE t W H a xs ts (F i)
 dd:∀(i j:Nat) (ts us:List Tr),i≠j -> ρ[i]?=some (Sl.dp ts) -> ρ[j]?=some (Sl.dp us)->∀b∈F i,b∉F j
 dm:∀(i j:Nat) (ts:List Tr) (c:Addr),ρ[i]?=some (Sl.dp ts)->Mu ρ j -> σ[j]?=some (some (V.ref c))->c∉F i
 db:∀(i:Nat) (ts:List Tr),ρ[i]?=some (Sl.dp ts)->∀b∈F i,t.B b=none
 tab:oh t W H
def aR(t:Tx)(W:Addr->Prop)(ρ : En)(σ : St)(H:Hp):Prop:=∃F,EOF t W ρ σ H F
def sG(t:Tx)(W:Addr->Prop)(a:Addr)(ρ : En)(σ : St)(H:Hp):Prop:=∃F,EOF t (λb=>W b\/b=a) ρ σ H F/\∀(i:Nat) (ts:List Tr),ρ[i]?=some (Sl.dp ts)->a∉F i
theorem sG.ok{t:Tx}{W:Addr->Prop}{a:Addr}{ρ : En}{σ : St}{H:Hp}(e:sG t W a ρ σ H):aR t (λb=>W b\/b=a) ρ σ H:=e.elim λF e=>⟨F,e.1⟩
section
variable {t:Tx}{W:Addr->Prop}{ρ : En}{σ : St}{H:Hp}
theorem aR.len(e:aR t W ρ σ H) : ρ.length = σ.length:=e.elim λ_ e=>e.len
theorem aR.zw(e:aR t W ρ σ H):∀b,t.Z b->W b:=e.elim λ_ e=>e.zw
theorem aR.z0(e:aR t W ρ σ H):∀b,t.Z b->t.H0 b≠none:=e.elim λ_ e=>e.z0
theorem aR.wl(e:aR t W ρ σ H):∀b,W b->Lt H b:=e.elim λ_ e=>e.wl
theorem aR.tab(e:aR t W ρ σ H):oh t W H:=e.elim λ_ e=>e.tab
theorem aR.f0(e:aR t W ρ σ H):∀b o,t.H0 b=some o->¬t.R b->H b=some o:=e.elim λ_ e=>e.f0
theorem aR.n0(e:aR t W ρ σ H):∀b,H b=none->t.H0 b=none:=e.elim λ_ e=>e.n0
theorem aR.sh(e:aR t W ρ σ H):∀(i:Nat) (u:Tr),ρ[i]?=some (.sh u)->∃v,σ[i]?=some (some v)/\Rep t.K (bf W H) v u:=e.elim λ_ e=>e.sh
theorem aR.ow(e:aR t W ρ σ H):∀(i:Nat) (ts:List Tr),ρ[i]?=some (Sl.ow ts)->∃a xs,σ[i]?=some (some (V.ref a))/\W a/\t.H0 a=none/\H a=some (.lst xs)/\aQ t.K (bf W H) xs ts:=e.elim λ_ e=>e.ow
theorem aR.rf(e:aR t W ρ σ H):∀(i:Nat) (ts:List Tr),ρ[i]?=some (Sl.rf ts)->∃a xs,σ[i]?=some (some (V.ref a))/\W a/\t.R a/\H a=some (.lst xs)/\aQ t.K (bf W H) xs ts:=e.elim λ_ e=>e.rf
theorem aR.dis(e:aR t W ρ σ H):∀(i j:Nat) (a:Addr),Mu ρ i->Mu ρ j -> σ[i]?=some (some (V.ref a)) -> σ[j]?=some (some (V.ref a))->i=j:=e.elim λ_ e=>e.dis
theorem aR.pn(e:aR t W ρ σ H):∀b o,t.B b=some o->H b=some o:=e.elim λ_ e=>e.pn
theorem aR.pd(e:aR t W ρ σ H):∀(i:Nat) (a:Addr),Mu ρ i -> σ[i]?=some (some (V.ref a))->t.B a=none:=e.elim λ_ e=>e.pd
end
structure bY(W:Addr->Prop)(H H':Hp):Prop where
 keep:∀b o,¬W b->H b=some o->H' b=some o
 dom:∀b,H' b=none->H b=none
theorem bY.refl(W:Addr->Prop)(H:Hp):bY W H H:=⟨λ_ _ _ h=>h,λ_ h=>h⟩
theorem bY.trans{W:Addr->Prop}{H H1 H2:Hp}(a:bY W H H1)(b:bY W H1 H2):bY W H H2:=⟨λc o n h=>b.keep c o n (a.keep c o n h),λc h=>a.dom c (b.dom c h)⟩
theorem bY.of{W:Addr->Prop}{H H':Hp}(s:Same H H'):bY W H H':=⟨λb o _ h=>s b o h,λ_ h=>s.free h⟩
theorem bY.off{W:Addr->Prop}{H H':Hp}(s:bY W H H'):Same (bf W H) (bf W H'):=pA (λ_ _ _ h=>h) s.keep
theorem aR.grow{t:Tx}{W:Addr->Prop}{ρ : En}{σ : St}{H H':Hp}(e:aR t W ρ σ H)(s:Same H H'):aR t W ρ σ H':=by
 have m:Same (bf W H) (bf W H'):=(bY.of s).off
 obtain⟨F,e⟩:=e
 refine⟨F,e.len,e.zw,e.z0,λb w=>?_,λb o h n=>s b o (e.f0 b o h n),λb h=>e.n0 b (s.free h),λi u h=>?_,λi ts h=>?_,λi ts h=>?_,e.dis,λb o h=>s b o (e.pn b o h),e.pd,λi ts h=>?_,e.dd,e.dm,e.db,e.tab.same s⟩
 ·exact(e.wl b w).grow s
 ·obtain⟨v,h1,h2⟩:=e.sh i u h
  exact⟨v,h1,h2.mono m⟩
 ·obtain⟨a,xs,h1,h2,h3,h4,h5⟩:=e.ow i ts h
  exact⟨a,xs,h1,h2,h3,s _ _ h4,h5.mono m⟩
 ·obtain⟨a,xs,h1,h2,h3,h4,h5⟩:=e.rf i ts h
  exact⟨a,xs,h1,h2,h3,s _ _ h4,h5.mono m⟩
 ·obtain⟨a,xs,h1,d⟩:=e.dp i ts h
  exact⟨a,xs,h1,d.move rfl rfl m (λb hb=>by obtain⟨_,_,_,ww,_⟩:=d; exact(ww b hb).1) λb o _ q=>s b o q⟩
def eU(K:FZ)(W:Addr->Prop)(σ : St)(H H':Hp)(v:V):Rv->Prop
 |.v T false=>Rep K (bf W H') v T
 |.v T true=>∃a xs ts,v=.ref a/\T=.lst ts/\H a=none/\H' a=some (.lst xs)/\aQ K (off a (bf W H')) xs ts
 |.s i=>σ[i]?=some (some v)
theorem IK(a:Addr)(H:Hp):Same (off a H) H:=λ_ _ h=>(v7 h).2
theorem eU.step{K:FZ}{W:Addr->Prop}{σ : St}{H H' ji:Hp}{v:V}{r:Rv}(hw:∀b,W b->H b≠none)(h:eU K W σ H H' v r)(s:bY W H' ji):eU K W σ H ji v r:=by
 cases r with
 |s i=>exact h
 |v T fr =>
  cases fr with
  |false=>exact Rep.mono s.off h
  |true =>
   obtain⟨a,xs,ts,rfl,rfl,e1,e2,r⟩:=h
   refine⟨a,xs,ts,rfl,rfl,e1,s.keep a _ (λw=>hw a w e1) e2,r.mono λb o q=>?_⟩
   obtain⟨n,q⟩:=v7 q
   rw[off_ne n]
   exact s.off b o q
theorem eU.back{K:FZ}{W:Addr->Prop}{σ : St}{G H H':Hp}{v:V}{r:Rv}(h:eU K W σ H H' v r)(d:∀b,H b=none->G b=none):eU K W σ G H' v r:=by
 cases r with
 |s i=>exact h
 |v T fr =>
  cases fr with
  |false=>exact h
  |true =>
   obtain⟨a,xs,ts,e0,e1,e2,r⟩:=h
   exact⟨a,xs,ts,e0,e1,d _ e2,r⟩
theorem eU.rep{K:FZ}{W:Addr->Prop}{σ : St}{H H':Hp}{v:V}{T:Tr}{fr:Bool}(hw:∀b,W b->H b≠none)(h:eU K W σ H H' v (.v T fr)):Rep K (bf W H') v T:=by
 cases fr with
 |false=>exact h
 |true =>
  obtain⟨a,xs,ts,rfl,rfl,e1,e2,r⟩:=h
  refine .lst (cJ.of ?_) (r.mono (IK _ _))
  rw[iu λw=>hw a w e1]
  exact e2
def Rp(K:FZ)(W:Addr->Prop)(H:Hp)(v:V)(T:Tr):Prop :=
 Rep K (bf W H) v T\/∃a xs ts,v=.ref a/\T=.lst ts/\H a=some (.lst xs)/\aQ K (bf W H) xs ts
theorem Rp.rep{K:FZ}{W:Addr->Prop}{H:Hp}{v:V}{T:Tr}(h:Rp K W H v T):Rep K H v T:=by
 rcases h with h|⟨a,xs,ts,rfl,rfl,e,r⟩
 ·exact h.mono (jK _ _)
 ·exact .lst (cJ.of e) (r.mono (jK _ _))
theorem Rp.lst{K:FZ}{W:Addr->Prop}{H:Hp}{v:V}{ts:List Tr}(h:Rp K W H v (.lst ts)):∃a xs,v=.ref a/\cJ K H a xs/\aQ K (bf W H) xs ts:=by
 rcases h with h|⟨a,xs,us,rfl,e0,e,r⟩
 ·cases h with
  |lst h r=>exact⟨_,_,rfl,(jK _ _).seq h,r⟩
 ·cases e0
  exact⟨a,xs,rfl,cJ.of e,r⟩
theorem Rp.tup{K:FZ}{W:Addr->Prop}{H:Hp}{v:V}{ts:List Tr}(h:Rp K W H v (.tup ts)):∃a xs,v=.ref a/\dZ K H a xs/\aQ K (bf W H) xs ts:=by
 rcases h with h|⟨a,xs,us,rfl,e0,e,r⟩
 ·cases h with
  |tup h r=>exact⟨_,_,rfl,(jK _ _).vY h,r⟩
 ·cases e0
theorem Rp.int{K:FZ}{W:Addr->Prop}{H:Hp}{v:V}{i:Int}(h:Rp K W H v (.int i)):v=.int i:=by
 cases h.rep; rfl
theorem Rp.bl{K:FZ}{W:Addr->Prop}{H:Hp}{v:V}{i:Bool}(h:Rp K W H v (.bl i)):v=.bl i:=by
 cases h.rep; rfl
theorem Rp.str{K:FZ}{W:Addr->Prop}{H:Hp}{v:V}{i:Str}(h:Rp K W H v (.str i)):v=.str i:=by
 cases h.rep; rfl
theorem Rp.non{K:FZ}{W:Addr->Prop}{H:Hp}{v:V}(h:Rp K W H v .non):v=.non:=by
 cases h.rep; rfl
def dr(ρ : En):Rv->Rs Tr
 |.v T _=>.ok T
 |.s i=>match ρ[i]? with
  |some (Sl.ow ts)=>.ok (.lst ts)
  |some (Sl.rf ts)=>.ok (.lst ts)
  |_=>.bad
theorem jj{t:Tx}{W:Addr->Prop}{ρ : En}{σ : St}{H H':Hp}{v:V}{r:Rv}{T:Tr}(e:aR t W ρ σ H')(hw:∀b,W b->H b≠none)(h:eU t.K W σ H H' v r)(q:dr ρ r=.ok T):Rp t.K W H' v T:=by
 cases r with
 |v U fr =>
  cases q
  exact .inl (h.rep hw)
 |s i =>
  have h : σ[i]?=some (some v):=h
  dsimp only[dr]at q
  split at q
  ·rename_i ts e1
   cases q
   obtain⟨a,xs,h1,h2,h3,h4,h5⟩:=e.ow i ts e1
   rw[h]at h1
   cases h1
   exact .inr ⟨a,xs,ts,rfl,rfl,h4,h5⟩
  ·rename_i ts e1
   cases q
   obtain⟨a,xs,h1,h2,h3,h4,h5⟩:=e.rf i ts e1
   rw[h]at h1
   cases h1
   exact .inr ⟨a,xs,ts,rfl,rfl,h4,h5⟩
  ·cases q
theorem aR.wn{t:Tx}{W:Addr->Prop}{ρ : En}{σ : St}{H:Hp}(e:aR t W ρ σ H):∀b,W b->H b≠none:=λb w=>by
 exact(e.wl b w).ne
theorem aR.hide{t:Tx}{W:Addr->Prop}{ρ : En}{σ : St}{H H':Hp}{a:Addr}{xs:List V}(e:aR t W ρ σ H)(s:Same H H')(n:H a=none)(q:H' a=some (.lst xs)):sG t W a ρ σ H':=by
 have m:Same (bf W H) (bf (λb=>W b\/b=a) H'):=λb o h=>by
  obtain⟨w,h⟩:=lN h
  rw[iu]
  ·exact s b o h
  ·rintro(z|rfl)
   ·exact w z
   ·rw[n]at h; cases h
 have na:∀b,W b->b≠a:=λb w z=>by subst z; exact e.wn b w n
 obtain⟨F,e⟩:=e
 refine⟨F,⟨e.len,λb z=>.inl (e.zw b z),e.z0,λb w=>?_,λb o h nr=>s b o (e.f0 b o h nr),λb h=>e.n0 b (s.free h),λi u h=>?_,λi ts h=>?_,λi ts h=>?_,e.dis,λb o h=>s b o (e.pn b o h),e.pd,λi ts h=>?_,e.dd,e.dm,e.db,(e.tab.same s).RZ λb w=>.inl w⟩,λi ts h z=>?_⟩
 ·rcases w with w|rfl
  ·exact(e.wl b w).grow s
  ·exact .inl ⟨xs,q⟩
 ·obtain⟨v,h1,h2⟩:=e.sh i u h
  exact⟨v,h1,h2.mono m⟩
 ·obtain⟨c,ys,h1,h2,h3,h4,h5⟩:=e.ow i ts h
  exact⟨c,ys,h1,.inl h2,h3,s _ _ h4,h5.mono m⟩
 ·obtain⟨c,ys,h1,h2,h3,h4,h5⟩:=e.rf i ts h
  exact⟨c,ys,h1,.inl h2,h3,s _ _ h4,h5.mono m⟩
 ·obtain⟨c,ys,h1,d⟩:=e.dp i ts h
  exact⟨c,ys,h1,d.move rfl rfl m (λb hb=>by obtain⟨_,_,_,ww,_⟩:=d; exact .inl (ww b hb).1) λb o _ q=>s b o q⟩
 ·obtain⟨c,ys,h1,bs,_,_,ww,_⟩:=e.dp i ts h
  exact na a (ww a z).1 rfl
def iI(t:Tx)(W:Addr->Prop)(ρ : En)(σ : St)(H H':Hp)(v:V)(r:Rv):Prop:=eU t.K W σ H H' v r/\∀T a,r=.v T true->v=.ref a->sG t W a ρ σ H'
theorem iI.of{t:Tx}{W:Addr->Prop}{ρ : En}{σ σ':St}{H H':Hp}{v:V}{T:Tr}{fr:Bool}(e:aR t W ρ σ H)(s:Same H H')(h:eU t.K W σ' H H' v (.v T fr)):iI t W ρ σ H H' v (.v T fr):=by
 refine⟨by cases fr <;> exact h,λU a z ev=>?_⟩
 cases z
 obtain⟨b,xs,ts,rfl,_,n,q,_⟩:=h
 cases ev
 exact e.hide s n q
theorem iI.low{t:Tx}{W:Addr->Prop}{ρ : En}{σ : St}{H H':Hp}{v:V}{T:Tr}(h:Rep t.K (bf W H') v T):iI t W ρ σ H H' v (.v T false):=⟨h,λ_ _ z=>by cases z⟩
theorem iI.back{t:Tx}{W:Addr->Prop}{ρ : En}{σ : St}{G H H':Hp}{v:V}{r:Rv}(h:iI t W ρ σ H H' v r)(d:∀b,H b=none->G b=none):iI t W ρ σ G H' v r:=⟨h.1.back d,h.2⟩
def SE(t:Tx)(te:TE)(f:EF):Prop:=∀W ρ σ H Q,aR t W ρ σ H->(f ρ).post t.EX (λp=>∀v H',aR t W p.2 σ H'->bY W H H'->iI t W p.2 σ H H' v p.1->Q v H')->te σ H Q
abbrev BF:=En->Rs (Bool × En)
def ST(t:Tx)(te:TT)(f:BF):Prop:=∀W ρ σ H Q,aR t W ρ σ H->(f ρ).post t.EX (λp=>∀H',aR t W p.2 σ H'->bY W H H'->Q p.1 H')->te σ H Q
abbrev AF:=En->Rs (List Rv × En)
inductive iT(K:FZ)(W:Addr->Prop)(σ : St)(H H':Hp):List V->List Rv->Prop
 |nil:iT K W σ H H' [] []
 |cons {v:V} {r:Rv} {vs:List V} {rs:List Rv} (h:eU K W σ H H' v r) (q:iT K W σ H H' vs rs):iT K W σ H H' (v::vs) (r::rs)
def SA(t:Tx)(te:TA)(f:AF):Prop:=∀W ρ σ H Q,aR t W ρ σ H->(f ρ).post t.EX (λp=>∀vs H',aR t W p.2 σ H'->bY W H H'->iT t.K W σ H H' vs p.1->Q vs H')->te σ H Q
section
variable {t:Tx}
def aj(i:Nat):EF:=λρ=>match ρ[i]? with
 |some (.sh T)=>.ok (.v T false,ρ)
 |some (.ow _)=>.ok (.s i,ρ)
 |some (.rf _)=>.ok (.s i,ρ)
 |_=>.bad
theorem bO(i:Nat):SE t (yK i) (aj i):=λW ρ σ H Q e h=>by
 unfold aj at h
 split at h
 ·rename_i T q
  obtain⟨v,h1,h2⟩:=e.sh i T q
  exact⟨v,h1,h v H e (bY.refl _ _) (.low h2)⟩
 ·rename_i ts q
  obtain⟨a,xs,h1,_⟩:=e.ow i ts q
  exact⟨_,h1,h _ H e (bY.refl _ _) ⟨h1,λ_ _ z=>by cases z⟩⟩
 ·rename_i ts q
  obtain⟨a,xs,h1,_⟩:=e.rf i ts q
  exact⟨_,h1,h _ H e (bY.refl _ _) ⟨h1,λ_ _ z=>by cases z⟩⟩
 ·exact h.elim
def eC(T:Tr):EF:=λρ=>.ok (.v T false,ρ)
theorem zG{v:V}{T:Tr}(h:∀H,Rep t.K H v T):SE t (tC v) (eC T):=λW ρ σ H Q e q=>q v H e (bY.refl _ _) (.low (h _))
theorem lO(i:Int):SE t (tC (.int i)) (eC (.int i)):=zG λ_=>.int i
theorem Cw(i:Bool):SE t (tC (.bl i)) (eC (.bl i)):=zG λ_=>.bl i
theorem kJ(i:Str):SE t (tC (.str i)) (eC (.str i)):=zG λ_=>.str i
theorem ux:SE t (tC .non) (eC .non):=zG λ_=>.non
abbrev G2:=Tr->Tr->Rs (Tr × Bool)
def fV(K:FZ)(r:R2)(g:G2):Prop:=∀W x y a b H Q,(∀b,W b->Lt H b)->Rp K W H x a->Rp K W H y b ->
 (g a b).post (λ_=>False) (λp=>∀v H',Same H H'->eU K W [] H H' v (.v p.1 p.2)->Q v H')->r x y H Q
def ao(g:G2)(fa fb:EF):EF:=λρ=>(fa ρ).bind λp=>(fb p.2).bind λq=>(dr q.2 p.1).bind λa=>(dr q.2 q.1).bind λb=>(g a b).bind λz=>.ok (.v z.1 z.2,q.2)
theorem jW{α : Type}{r:Rs α}{EX:Str->Prop}{P : α -> Prop}(h:r.post EX P)(n:∀c,r ≠ .ex c):r.post (λ_=>False) P:=by
 cases r with
 |bad=>exact h
 |ex c=>exact(n c rfl).elim
 |ok a=>exact h
theorem jd(ρ : En)(r:Rv)(c:Str):dr ρ r ≠ .ex c:=by
 cases r with
 |v T fr=>intro z; cases z
 |s i =>
  dsimp only[dr]
  split <;> (intro z; cases z)
theorem jL{r:R2}{g:G2}{ta tb:TE}{fa fb:EF}(o:fV t.K r g)(ng:∀a b c,g a b ≠ .ex c)(ha:SE t ta fa)(hb:SE t tb fb):SE t (iG r ta tb) (ao g fa fb):=λW ρ σ H Q e h=>by
 refine ha W ρ σ H _ e (Rs.bH (Rs.aY h) λp h x H1 e1 s1 v1=>?_)
 refine hb W p.2 σ H1 _ e1 (Rs.bH (Rs.aY h) λq h y H2 e2 s2 v2=>?_)
 have h:=Rs.aY h
 cases k1:dr q.2 p.1 with
 |bad=>rw[k1]at h; exact h.elim
 |ex c=>exact(jd _ _ _ k1).elim
 |ok a =>
  rw[k1]at h
  have h:((dr q.2 q.1).bind _).post _ _:=h
  have h:=Rs.aY h
  cases k2:dr q.2 q.1 with
  |bad=>rw[k2]at h; exact h.elim
  |ex c=>exact(jd _ _ _ k2).elim
  |ok b =>
   rw[k2]at h
   have h:((g a b).bind _).post _ _:=h
   have r1:=jj e2 e.wn (v1.1.step e.wn s2) k1
   have r2:=jj e2 e1.wn v2.1 k2
   refine o W x y a b H2 Q e2.wl r1 r2 (Rs.bH (jW (Rs.aY h) (ng a b)) λz h v H3 s3 v3=>?_)
   have st:bY W H H3:=(s1.trans s2).trans (bY.of s3)
   exact h v H3 (e2.grow s3) st ((iI.of e2 s3 v3).back λb q=>(s1.trans s2).dom b q)
inductive uy:V->Tr->Prop
 |non:uy .non .non
 |bl (b:Bool):uy (.bl b) (.bl b)
 |int (b:Int):uy (.int b) (.int b)
 |str (b:Str):uy (.str b) (.str b)
theorem uy.rep{K:FZ}{H:Hp}{v:V}{T:Tr}(h:uy v T):Rep K H v T:=by
 cases h <;> constructor
end
end L2
end
section
namespace L2
open PySem PySem.Spec PyProof.Rows
section
variable {X:Cx}
def IV(K:FZ):R2:=λx y H Q=>∃t u,Rep K H x t/\Rep K H y u/\dep t<=40/\dep u<=40/\Q (.bl (!eqT t u)) H
theorem jx(hu:X.A.units+64<cLine):c7 X (compareOp .NotEq) (IV X.K):=by
 intro pins s σ H x y v u Q I vx vy h
 obtain⟨t,t',rx,ry,hd,du,q⟩:=h
 have hu0:X.A.units<cLine:=by omega
 have hu1:X.A.in1.units+40<cLine:=by
  have:=in1_units X.A
  omega
 have fin:SeqAt.RcNeAt X.A s v u (!eqT t t')->wpAny (model X.prog X.w) X.A (compareOp .NotEq v u) (EP X pins σ Q) X.xe s:=λh=>h _ _ _ _ ⟨.bl _,H,I,rfl,q⟩
 have items:∀{xs ys:List V} {ts us:List Tr} {its its2:List Value},Vals xs its->Vals ys its2->aQ X.K H xs ts->aQ X.K H ys us->deps ts<=40->deps us<=40->∀j (h1:j<its.toArray.size) (h2:j<its2.toArray.size),SeqAt.EqAt X.A.in1 s its.toArray[j] its2.toArray[j] (qz ts us j):=by
  intro xs ys ts us its its2 r1 r2 q1 q2 hde Rk j h1 h2
  obtain⟨a,ea,ra⟩:=Ce r1 h1
  obtain⟨b,eb,rb⟩:=Ce r2 h2
  obtain⟨ta,eta,qa⟩:=q1.get ea
  obtain⟨tb,zx,qb⟩:=q2.get eb
  rw[Rj eta zx]
  exact(HW I 40 X.A.in1 ta tb a b _ _ hu1 (Nat.le_trans (rZ eta) hde) (by have:=rZ eta; omega) (by have:=rZ zx; omega) qa qb ra rb).2
 cases rx with
 |cF h m n=>unfold dep at hd; omega
 |non =>
  cases vx
  cases ry with
  |non=>cases vy; unfold eqT at fin; exact fin .none_none
  |bl b2=>cases vy; unfold eqT at fin; exact fin (.none_bool _)
  |int i2=>obtain⟨_,rfl⟩:=vy; unfold eqT at fin; exact fin (.none_int _ _)
  |str z2=>obtain⟨_,rfl⟩:=vy; unfold eqT at fin; exact fin (.none_str _ _)
  |tup h r=>cases vy; obtain⟨_,_,p,_⟩:=I.tuple h; unfold eqT at fin; exact fin (.none_tuple p hu0)
  |lst h r=>cases vy; obtain⟨_,_,p,_⟩:=I.list h; unfold eqT at fin; exact fin (.none_list p.isList hu0)
  |cF h m n=>unfold dep at du; omega
 |bl b =>
  cases vx
  cases ry with
  |non=>cases vy; unfold eqT at fin; exact fin (.bool_none _)
  |bl b2=>cases vy; unfold eqT at fin; exact fin (.bool_bool _ _)
  |int i2=>obtain⟨_,rfl⟩:=vy; unfold eqT at fin; exact fin (.bool_int _ _ _)
  |str z2=>obtain⟨_,rfl⟩:=vy; unfold eqT at fin; exact fin (.bool_str _ _ _)
  |tup h r=>cases vy; obtain⟨_,_,p,_⟩:=I.tuple h; unfold eqT at fin; exact fin (.bool_tuple _ p hu0)
  |lst h r=>cases vy; obtain⟨_,_,p,_⟩:=I.list h; unfold eqT at fin; exact fin (.bool_list _ p.isList hu0)
  |cF h m n=>unfold dep at du; omega
 |int i =>
  obtain⟨_,rfl⟩:=vx
  cases ry with
  |non=>cases vy; unfold eqT at fin; exact fin (.int_none _ _)
  |bl b2=>cases vy; unfold eqT at fin; exact fin (.int_bool _ _ _)
  |int i2=>obtain⟨_,rfl⟩:=vy; unfold eqT at fin; exact fin (.int_int _ _ _ _)
  |str z2=>obtain⟨_,rfl⟩:=vy; unfold eqT at fin; exact fin (.int_str _ _ _ _)
  |tup h r=>cases vy; obtain⟨_,_,p,_⟩:=I.tuple h; unfold eqT at fin; exact fin (.int_tuple _ _ p hu0)
  |lst h r=>cases vy; obtain⟨_,_,p,_⟩:=I.list h; unfold eqT at fin; exact fin (.int_list _ _ p.isList hu0)
  |cF h m n=>unfold dep at du; omega
 |str z =>
  obtain⟨_,rfl⟩:=vx
  cases ry with
  |non=>cases vy; unfold eqT at fin; exact fin (.str_none _ _)
  |bl b2=>cases vy; unfold eqT at fin; exact fin (.str_bool _ _ _)
  |int i2=>obtain⟨_,rfl⟩:=vy; unfold eqT at fin; exact fin (.str_int _ _ _ _)
  |str z2=>obtain⟨_,rfl⟩:=vy; unfold eqT at fin; exact fin (.str_str _ _ _ _)
  |tup h r=>cases vy; obtain⟨_,_,p,_⟩:=I.tuple h; unfold eqT at fin; exact fin (.str_tuple _ _ p hu0)
  |lst h r=>cases vy; obtain⟨_,_,p,_⟩:=I.list h; unfold eqT at fin; exact fin (.str_list _ _ p.isList hu0)
  |cF h m n=>unfold dep at du; omega
 | @tup a1 xs1 ts h1 r1 =>
  cases vx
  obtain⟨its,rv,p,_⟩:=I.tuple h1
  have hd':deps ts<=40:=by unfold dep at hd; omega
  cases ry with
  |non=>cases vy; unfold eqT at fin; exact fin (.tuple_none p hu0)
  |bl b2=>cases vy; unfold eqT at fin; exact fin (.tuple_bool _ p hu0)
  |int i2=>obtain⟨_,rfl⟩:=vy; unfold eqT at fin; exact fin (.tuple_int _ _ p hu0)
  |str z2=>obtain⟨_,rfl⟩:=vy; unfold eqT at fin; exact fin (.tuple_str _ _ p hu0)
  |lst h r=>cases vy; obtain⟨_,_,p2,_⟩:=I.list h; unfold eqT at fin; exact fin (.tuple_list p p2.isList hu0)
  |cF h m n=>unfold dep at du; omega
  | @tup a2 xs2 us h2 r2 =>
   cases vy
   obtain⟨its2,jZ,p2,_⟩:=I.tuple h2
   have R:=SeqAt.RcNeAt.tuples (A:=X.A) (e:=qz ts us) p p2 (by omega) λj k1 k2=>items rv jZ r1 r2 hd' (by unfold dep at du; omega) j k1 k2
   have el:its.toArray.size=ts.length:=by simpa using(rv.length.symm.trans r1.length)
   have el2:its2.toArray.size=us.length:=by simpa using(jZ.length.symm.trans r2.length)
   rw[el,el2]at R
   have eb:((List.range (min ts.length us.length)).all (qz ts us)&&ts.length == us.length)=eqT (.tup ts) (.tup us):=by
    unfold eqT
    by_cases e:ts.length=us.length
    ·rw[e,Nat.min_self,<-e,zq e,beq_self_eq_true,Bool.and_true]
    ·rw[beq_false_of_ne e,Bool.and_false,zp e]
   rw[eb]at R
   exact fin R
 | @lst a1 xs1 ts h1 r1 =>
  cases vx
  obtain⟨its,rv,p,_⟩:=I.list h1
  have hd':deps ts<=40:=by unfold dep at hd; omega
  cases ry with
  |non=>cases vy; unfold eqT at fin; exact fin (.list_none p.isList hu0)
  |bl b2=>cases vy; unfold eqT at fin; exact fin (.list_bool _ p.isList hu0)
  |int i2=>obtain⟨_,rfl⟩:=vy; unfold eqT at fin; exact fin (.list_int _ _ p.isList hu0)
  |str z2=>obtain⟨_,rfl⟩:=vy; unfold eqT at fin; exact fin (.list_str _ _ p.isList hu0)
  |cF h m n=>unfold dep at du; omega
  |tup h r=>cases vy; obtain⟨_,_,p2,_⟩:=I.tuple h; unfold eqT at fin; exact fin (.list_tuple p.isList p2 hu0)
  | @lst a2 xs2 us h2 r2 =>
   cases vy
   obtain⟨its2,jZ,p2,_⟩:=I.list h2
   have el:its.toArray.size=ts.length:=by simpa using(rv.length.symm.trans r1.length)
   have el2:its2.toArray.size=us.length:=by simpa using(jZ.length.symm.trans r2.length)
   by_cases e:ts.length=us.length
   ·have R:=SeqAt.RcNeAt.lists (A:=X.A) (e:=qz ts us) p.isList p2.isList (by omega) (by omega) λj k1 k2=>items rv jZ r1 r2 hd' (by unfold dep at du; omega) j k1 k2
    rw[el]at R
    rw[zq e]at R
    unfold eqT at fin
    exact fin R
   ·have R:=SeqAt.RcNeAt.lists_lengths (A:=X.A) p.isList p2.isList (by rw[el,el2]; simpa using e) (by omega)
    unfold eqT at fin
    rw[zp e]at fin
    exact fin R
end
open Classical in
def fK(o:Obj):Obj:=if o.cls=.type "list" ∧ ¬(∃its n,o={cls:=.type "list",data:=.seq its n })then{cls:=.none,data:=.fields #[] }else o
def aF(K:FZ):FZ:=K.map λp=>(p.1,fK p.2)
theorem pB:∀(K:FZ) (a:Addr),(aF K).lookup a=(K.lookup a).map fK
 | [],a=>rfl
 |(c,q)::r,a=>by
  show((c,fK q)::aF r).lookup a=_
  rw[List.lookup_cons,List.lookup_cons]
  cases a == c with
  |true=>rfl
  |false=>exact pB r a
theorem aay{K:FZ}{a:Addr}{o:Obj}(h:(aF K).lookup a=some o)(c:o.cls=.type "tuple"):K.lookup a=some o:=by
 rw[pB]at h
 cases e:K.lookup a with
 |none=>rw[e]at h; cases h
 |some q =>
  rw[e]at h
  have h:fK q=o:=Option.some.inj h
  unfold fK at h
  split at h
  ·subst h; cases c
  ·rw[h]
theorem aaz{K:FZ}{a:Addr}{o:Obj}(h:(aF K).lookup a=some o)(c:o.cls=.type "list"):K.lookup a=some o∧∃its n,o={cls:=.type "list",data:=.seq its n }:=by
 rw[pB]at h
 cases e:K.lookup a with
 |none=>rw[e]at h; cases h
 |some q =>
  rw[e]at h
  have h:fK q=o:=Option.some.inj h
  unfold fK at h
  split at h
  ·subst h; cases c
  ·rename_i n
   subst h
   refine⟨rfl,?_⟩
   by_cases z:∃its n,q={cls:=.type "list",data:=.seq its n }
   ·exact z
   ·exact(n ⟨c,z⟩).elim
theorem aaA{K:FZ}{a:Addr}{o:Obj}(h:K.lookup a=some o)(c:o.cls=.type "tuple"):(aF K).lookup a=some o:=by
 rw[pB,h]
 show some (fK o)=some o
 unfold fK
 rw[if_neg (by rintro⟨z,_⟩; rw[c]at z; injection z with z; exact absurd z (by decide))]
theorem dZ.toK{K:FZ}{H:Hp}{a:Addr}{xs:List V}(h:dZ (aF K) H a xs):dZ K H a xs:=by
 rcases h with h|⟨o,its,n,e,c,r⟩
 ·exact .inl h
 ·exact .inr ⟨o,its,n,aay e c,c,r⟩
def nG(K:FZ)(H:Hp)(a:Addr)(xs:List V):Prop:=Rd H a (.lst xs)\/∃(its:Array Value) (n:Nat),K.lookup a=some {cls:=.type "list",data:=.seq its n }/\its.size<=sizeLine/\Vals xs its.toList
theorem cJ.zH{K:FZ}{H:Hp}{a:Addr}{xs:List V}(h:cJ (aF K) H a xs):nG K H a xs:=by
 rcases h with h|⟨o,its,n,e,c,_,d,r⟩
 ·exact .inl h
 ·obtain⟨e2,its',n',rfl⟩:=aaz e c
  have d:Data.seq its' n'=.seq its n:=d
  injection d with d1 d2
  subst d1 d2
  exact .inr ⟨its',n',e2,r⟩
theorem nG.toK{K:FZ}{H:Hp}{a:Addr}{xs:List V}(h:nG K H a xs):cJ K H a xs:=by
 rcases h with h|⟨its,n,e,r⟩
 ·exact .inl h
 ·exact .inr ⟨_,its,n,e,rfl,rfl,rfl,r⟩
theorem nG.toN{K:FZ}{H:Hp}{a:Addr}{xs:List V}(h:nG K H a xs):cJ (aF K) H a xs:=by
 rcases h with h|⟨its,n,e,r⟩
 ·exact .inl h
 ·refine .inr ⟨{cls:=.type "list",data:=.seq its n },its,n,?_,rfl,rfl,rfl,r⟩
  rw[pB,e]
  show some (fK _)=_
  unfold fK
  rw[if_neg λz=>z.2 ⟨its,n,rfl⟩]
theorem cJ.toK{K:FZ}{H:Hp}{a:Addr}{xs:List V}(h:cJ (aF K) H a xs):cJ K H a xs:=h.zH.toK
theorem aaB{K:FZ}{N:Addr}{c:Str}{v:Value}(h:PySem.W.nsIn (aF K) N c=some (some v)):PySem.W.nsIn K N c=some (some v):=by
 unfold PySem.W.nsIn at h ⊢
 rw[pB]at h
 cases e:K.lookup N with
 |none=>rw[e]at h; cases h
 |some q =>
  rw[e]at h
  by_cases z:q.cls=.type "list" ∧ ¬(∃its n,q={cls:=.type "list",data:=.seq its n })
  ·have:fK q={cls:=.none,data:=.fields #[] }:=by unfold fK; rw[if_pos z]
   rw[show(some q).map fK=some (fK q)from rfl,this]at h
   cases h
  ·have:fK q=q:=by unfold fK; rw[if_neg z]
   rw[show(some q).map fK=some (fK q)from rfl,this]at h
   exact h
theorem aaC{K:FZ}{N:Addr}{c:Str}{v:Value}(m:∀o,K.lookup N=some o->o.cls ≠ .type "list") (h:PySem.W.nsIn K N c=some (some v)):PySem.W.nsIn (aF K) N c=some (some v):=by
 unfold PySem.W.nsIn at h ⊢
 rw[pB]
 cases e:K.lookup N with
 |none=>rw[e]at h; cases h
 |some q =>
  rw[e]at h
  have:fK q=q:=by unfold fK; rw[if_neg λz=>m q e z.1]
  rw[show(some q).map fK=some (fK q)from rfl,this]
  exact h
mutual
theorem Rep.toK{K:FZ}{H:Hp}:∀{v:V} {t:Tr},Rep (aF K) H v t->Rep K H v t
 |_,_,.non=>.non
 |_,_,.bl b=>.bl b
 |_,_,.int i=>.int i
 |_,_,.str x=>.str x
 |_,_,.tup h r=>.tup h.toK (aQ.toK r)
 |_,_,.lst h r=>.lst h.toK (aQ.toK r)
 |_,_,.cF h m n=>.cF h m (aaB n)
theorem aQ.toK{K:FZ}{H:Hp}:∀{v:List V} {t:List Tr},aQ (aF K) H v t->aQ K H v t
 |_,_,.nil=>.nil
 |_,_,.cons h r=>.cons (Rep.toK h) (aQ.toK r)
end
section
variable {X:Cx}
theorem Inv.IW{pins:List (Addr × Obj)}{σ : St}{H:Hp}{s:Shared}{l:Addr}{xs:List V}(I:Inv X pins σ H s)(hH:nG X.K H l xs):xs.length<=sizeLine/\∃(its:List Value) (n:Nat),Vals xs its/\xs.length=its.length/\s.heap.get? l=some {cls:=.type "list",data:=.seq its.toArray n }:=by
 rcases hH with hH|⟨its,n,e,z,r⟩
 ·obtain⟨z,its,n,r,e⟩:=hH.ok I.hok
  exact⟨z,its,n,r,r.length,e⟩
 ·have l':xs.length=its.size:=r.length.trans Array.length_toList
  exact⟨by rw[l']; exact z,its.toList,n,r,r.length,I.jq _ _ e⟩
def R3(K:FZ):R2:=λx y H Q=>∃l b xs zs,x=.ref l/\y=.ref b/\nG K H l xs/\nG K H b zs/\xs.length+zs.length<=sizeLine/\∀p,H p=none->Q (.ref p) (upd H p (.lst (xs++zs)))
theorem aaD:c7 X (binaryOp .Add) (R3 X.K):=by
 intro pins s σ H x y v u Q I rx ry h
 obtain⟨l,b,xs,zs,rfl,rfl,hH,hB,hz,q⟩:=h
 cases rx
 cases ry
 obtain⟨z,its,n,r,hl,e⟩:=I.IW hH
 obtain⟨z2,its2,n2,r2,hl2,e2⟩:=I.IW hB
 refine PySem.P.add_list e e2 ?_ (by rw[List.size_toArray,List.size_toArray]; omega)
 have ea:its.toArray++its2.toArray=(its++its2).toArray:=by simp
 rw[ea]
 exact⟨.ref _,_,I.ug (t':=s.toks) (r.append r2) (by rw[List.length_append]; omega),rfl,q _ I.fresh⟩
end
end L2
end
section
namespace L2
open PySem PySem.Spec PyProof.Rows
def R4(K:FZ):R2:=λx y H Q=>∃l k xs,x=.ref l/\y=.int k/\nG K H l xs /\ -(2 ^ 63)<=k/\k<2 ^ 63/\xs.length*k.toNat<=sizeLine/\∀p,H p=none->Q (.ref p) (upd H p (.lst (List.replicate k.toNat xs).flatten))
theorem aaE{X:Cx}:c7 X (binaryOp .Mult) (R4 X.K):=by
 intro pins s σ H x y v u Q I rx ry h
 obtain⟨l,k,xs,rfl,rfl,hH,h1,h2,hz,q⟩:=h
 cases rx
 obtain⟨t,rfl⟩:=ry
 obtain⟨z,its,n,r,hl,e⟩:=I.IW hH
 have hlen:its.toArray.size*k.toNat<=sizeLine:=by rw[List.size_toArray,<-hl]; exact hz
 have hcap:¬its.toArray.size*k.toNat > (2 ^ 63-1) / 8:=by
  have:(sizeLine:Nat)<=(2 ^ 63-1) / 8:=by decide
  omega
 have hfit:¬(!Builtin.List.listFitsIndex k)=true:=by
  rw[fitsIndex_both h1 h2]
  exact Bool.false_ne_true
 have aaF:¬Builtin.List.listTooLong (its.toArray.size*k.toNat)=true:=by
  rw[Zx hlen]
  exact Bool.false_ne_true
 have hnew:List.foldl (λx1 x2=>x1++x2) #[] (List.replicate (if its.toArray.isEmpty=true then 0 else k.toNat) its.toArray)=(List.replicate k.toNat its).flatten.toArray:=by
  have f0:∀m:Nat,List.foldl (λx1 x2=>x1++x2) #[] (List.replicate m its.toArray)=(List.replicate m its).flatten.toArray:=λm=>by
   have:=foldl_rep its m []
   rw[List.nil_append]at this
   exact this
  rw[f0]
  cases its with
  |nil=>simp
  |cons a r'=>rw[if_neg (by simp)]
 refine wpAny_binaryOp_repeat_ref (T := "list") (U := "int") (by decide) ⟨_,e,rfl⟩ (λs'=>typeIs_int s' k t) noFill_list_mul F.fills_int_mul F.slot_int_rmul repeat_list F.slot_int_index.lookup
  (call_meets F.slot_int_rmul (typeIs_int s k t) F.entry_int_rmul (F.args_int_rmul_2 _ _) (int___rmul___int_list k t l its.toArray n)
   ⟨e,rfl,⟨_,e,rfl⟩,call_meets F.slot_list_mul ⟨_,e,rfl⟩ F.entry_list_mul (F.args_list_mul_2 _ _) (AutoListH.list___mul___list_int_3 l its.toArray n k t hfit hcap aaF) ⟨e,?_⟩⟩)
 rw[hnew]
 exact⟨.ref _,_,I.ug (t':=s.toks) (r.rep k.toNat) (by rw[len_rep,Nat.mul_comm]; exact hz),rfl,q _ I.fresh⟩
end L2
end
section
namespace L2
open PySem PySem.Spec PyProof.Rows
section
variable {K:FZ}{W:Addr->Prop}{σ : St}{H:Hp}{p:Addr}{xs:List V}{ts:List Tr}
theorem Ja{o:HO}(hp:H p=none):Same (bf W H) (off p (bf W (upd H p o))):=λb u q=>by
 obtain⟨n,e⟩:=lN q
 have ne:b≠p:=oY e hp
 rw[off_ne ne,iu n,cP ne]
 exact e
theorem eU.new(hp:H p=none)(r:aQ K (bf W H) xs ts):eU K W σ H (upd H p (.lst xs)) (.ref p) (.v (.lst ts) true) :=
 ⟨p,xs,ts,rfl,rfl,hp,jB,r.mono (Ja hp)⟩
theorem eU.newT(hw:∀b,W b->Lt H b)(hp:H p=none)(r:aQ K (bf W H) xs ts):eU K W σ H (upd H p (.tup xs)) (.ref p) (.v (.tup ts) false):=by
 have nw:¬W p:=λw=>by
  exact(hw p w).ne hp
 refine .tup (dZ.of ?_) (r.mono λb u q=>(v7 (Ja (o:=.tup xs) hp b u q)).2)
 rw[iu nw]
 exact jB
theorem eU.eE{H':Hp}{v:V}{T:Tr}(h:uy v T):eU K W σ H H' v (.v T false):=h.rep
theorem aQ.uz{H:Hp}:∀{v:List V} {t:List Tr} {i:Nat} {u:Tr},aQ K H v t->t[i]?=some u->∃x,v[i]?=some x/\Rep K H x u
 |_,_,_,_,.nil,e=>by simp at e
 |_,_,0,_,.cons h _,e=>by
  simp at e
  subst e
  exact⟨_,rfl,h⟩
 |_,_,i+1,x,.cons _ r,e=>by
  obtain⟨u,h1,h2⟩:=aQ.uz (i:=i) (u:=x) r (by simpa using e)
  exact⟨u,by simpa using h1,h2⟩
theorem aQ.cX(r:aQ K H xs ts){i:Int}{t:Tr}(h:cX ts i=some t):∃x,L2.cX xs i=some x/\Rep K H x t:=by
 unfold L2.cX at h ⊢
 rw[r.length]
 cases e:dY ts.length i with
 |none=>rw[e]at h; cases h
 |some j =>
  rw[e]at h
  exact r.uz h
theorem Rp.R5{v:V}(h:Rp K W H v (.tup ts)):Rep K (bf W H) v (.tup ts):=by
 rcases h with h|⟨a,xs,us,rfl,e0,e,r⟩
 ·exact h
 ·cases e0
theorem big{n:Nat}(h:n<=100000):n<=sizeLine:=Nat.le_trans h (by decide)
end
section
variable {K:FZ}
def gI(p:Int->Int->Int):G2
 |.int i,.int j=>.ok (.int (p i j),false)
 |_,_=>.bad
theorem aaG{p:Int->Int->Int}:fV K (ju λi j=>.int (p i j)) (gI p):=λW x y a b H Q hw rx ry h=>by
 cases a <;> try exact h.elim
 cases b <;> try exact h.elim
 rw[rx.int,ry.int]
 exact⟨_,_,rfl,rfl,h _ H (Same.refl _) (.eE (.int _))⟩
def eF(c:Int->Int->Bool)(p:Int->Int->Int):G2
 |.int i,.int j=>if c i j=true then .ok (.int (p i j),false)else .bad
 |_,_=>.bad
theorem Jb{C:Int->Int->Prop}{c:Int->Int->Bool}{p:Int->Int->Int}(hc:∀i j,c i j=true->C i j):fV K (rI C λi j=>.int (p i j)) (eF c p):=λW x y a b H Q hw rx ry h=>by
 cases a <;> try exact h.elim
 cases b <;> try exact h.elim
 rw[rx.int,ry.int]
 dsimp only[eF]at h
 split at h
 ·rename_i e
  exact⟨_,_,rfl,rfl,hc _ _ e,h _ H (Same.refl _) (.eE (.int _))⟩
 ·exact h.elim
def gB(p:Int->Int->Bool):G2
 |.int i,.int j=>.ok (.bl (p i j),false)
 |_,_=>.bad
theorem Jc{p:Int->Int->Bool}:fV K (ju λi j=>.bl (p i j)) (gB p):=λW x y a b H Q hw rx ry h=>by
 cases a <;> try exact h.elim
 cases b <;> try exact h.elim
 rw[rx.int,ry.int]
 exact⟨_,_,rfl,rfl,h _ H (Same.refl _) (.eE (.bl _))⟩
def aH:G2:=λt u=>if dep t<=40/\dep u<=40 then .ok (.bl (eqT t u),false)else .bad
theorem aaH:fV (aF K) (HX K) aH:=λW x y a b H Q hw rx ry h=>by
 unfold aH at h
 split at h
 ·rename_i e
  exact⟨a,b,rx.rep.toK,ry.rep.toK,e.1,e.2,h _ H (Same.refl _) (.eE (.bl _))⟩
 ·exact h.elim
def bF:G2:=λt u=>if dep t<=40/\dep u<=40 then .ok (.bl (!eqT t u),false)else .bad
theorem aaI:fV (aF K) (IV K) bF:=λW x y a b H Q hw rx ry h=>by
 unfold bF at h
 split at h
 ·rename_i e
  exact⟨a,b,rx.rep.toK,ry.rep.toK,e.1,e.2,h _ H (Same.refl _) (.eE (.bl _))⟩
 ·exact h.elim
def bT(f:Bool->Bool):G2:=λt u=>match u with
 |.lst us=>if deps us<=40/\dep t<=40 then .ok (.bl (f (su t us)),false)else .bad
 |.tup us=>if deps us<=40/\dep t<=40 then .ok (.bl (f (su t us)),false)else .bad
 |_=>.bad
theorem aaJ:fV (aF K) (HY K) (bT id):=λW x y a b H Q hw rx ry h=>by
 cases b <;> try exact h.elim
 ·rename_i us
  dsimp only[bT]at h
  split at h
  ·rename_i e
   obtain⟨p,xs,rfl,q,r⟩:=ry.tup
   exact⟨a,us,p,xs,rx.rep.toK,rfl,.inr q.toK,(r.mono (jK _ _)).toK,e.1,e.2,h _ H (Same.refl _) (.eE (.bl _))⟩
  ·exact h.elim
 ·rename_i us
  dsimp only[bT]at h
  split at h
  ·rename_i e
   obtain⟨p,xs,rfl,q,r⟩:=ry.lst
   exact⟨a,us,p,xs,rx.rep.toK,rfl,.inl q.toK,(r.mono (jK _ _)).toK,e.1,e.2,h _ H (Same.refl _) (.eE (.bl _))⟩
  ·exact h.elim
def wk:Tr->Bool
 |.non=>true
 |_=>false
def fL(f:Bool->Bool):G2:=λt u=>match u with
 |.non=>.ok (.bl (f (wk t)),false)
 |_=>.bad
theorem R6{H:Hp}{x:V}{t:Tr}(h:Rep K H x t):decide (x=.non)=wk t:=by
 cases h <;> rfl
theorem aaK:fV K (λx y H Q=>y=.non/\Q (.bl (decide (x=.non))) H) (fL id):=λW x y a b H Q hw rx ry h=>by
 cases b <;> try exact h.elim
 rw[ry.non,R6 rx.rep]
 exact⟨rfl,h _ H (Same.refl _) (.eE (.bl _))⟩
theorem aaL:fV K (λx y H Q=>y=.non/\Q (.bl (!decide (x=.non))) H) (fL not):=λW x y a b H Q hw rx ry h=>by
 cases b <;> try exact h.elim
 rw[ry.non,R6 rx.rep]
 exact⟨rfl,h _ H (Same.refl _) (.eE (.bl _))⟩
def Jd(K:FZ):R2:=λx y H Q=>(ju λi j=>.int (i+j)) x y H Q\/R3 K x y H Q\/(∃i j,x=.str i/\y=.str j/\i.length+j.length<=sizeLine/\Q (.str (i++j)) H)\/QD K x y H Q
theorem dj{X:Cx}:c7 X (binaryOp .Add) (Jd X.K):=c7.or Qe (c7.or aaD (c7.or YD Zh))
noncomputable def aO:G2
 |.int i,.int j=>.ok (.int (i+j),false)
 |.lst a,.lst b=>if a.length+b.length<=100000 then .ok (.lst (a++b),true)else .bad
 |.str a,.str b=>if a.length+b.length<=100000 then .ok (.str (a++b),false)else .bad
 |.tup a,.tup b=>if 0<a.length/\a.length+b.length<=100000 then .ok (.tup (a++b),false)else .bad
 |_,_=>.bad
theorem aaM:fV (aF K) (Jd K) aO:=λW x y a b H Q hw rx ry h=>by
 cases a <;> cases b <;> try exact h.elim
 ·rw[rx.int,ry.int]
  exact .inl ⟨_,_,rfl,rfl,h _ H (Same.refl _) (.eE (.int _))⟩
 ·rename_i i j
  rw[rx.str,ry.str]
  dsimp only[aO]at h
  split at h
  ·rename_i e
   exact .inr (.inr (.inl ⟨i,j,rfl,rfl,big e,h _ H (Same.refl _) (.eE (.str _))⟩))
  ·exact h.elim
 ·rename_i us ws
  dsimp only[aO]at h
  split at h
  ·rename_i e
   have rt:=rx.R5
   obtain⟨p,xs,rfl,q,r⟩:=rx.tup
   obtain⟨p',ys,rfl,q',r'⟩:=ry.tup
   have l1:=r.length
   have l2:=r'.length
   refine .inr (.inr (.inr ⟨p,p',xs,ys,rfl,rfl,q.toK,q'.toK,?_,by rw[l1,l2]; exact big e.2,λz=>h _ H (Same.refl _) ?_,λ_ z hz=>h _ _ (gw hz _) (.newT hw hz (r.app r'))⟩))
   ·rintro rfl
    have e1:=e.1
    rw[<-l1]at e1
    cases e1
   ·subst z
    cases r'
    rw[List.append_nil]
    exact rt
  ·exact h.elim
 ·rename_i us ws
  dsimp only[aO]at h
  split at h
  ·rename_i e
   obtain⟨p,xs,rfl,q,r⟩:=rx.lst
   obtain⟨p',ys,rfl,q',r'⟩:=ry.lst
   refine .inr (.inl ⟨p,p',xs,ys,rfl,rfl,q.zH,q'.zH,by rw[r.length,r'.length]; exact big e,λz hz=>h _ _ (gw hz _) (.new hz (r.app r'))⟩)
  ·exact h.elim
end
end L2
end
section
namespace L2
open PySem PySem.Spec PyProof.Rows
def fit(i:Int):Bool:=decide (i.natAbs.log2<1048575)
theorem R7{i:Int}(h:fit i=true):Builtin.Int.intBits i<=2 ^ 20:=by
 have h:=of_decide_eq_true h
 unfold Builtin.Int.intBits
 have e:(2:Nat) ^ 20=1048576:=by decide
 split
 ·decide
 ·omega
def tiny(i:Int):Bool:=decide (-18446744073709551616<i)&&decide (i<18446744073709551616)
def kO(i j:Int):Bool:=(fit i&&fit j) || tiny i || tiny j
def Cy(i j:Int):Prop:=kO i j=true
theorem Cy.ok{i j:Int}(h:Cy i j):IntMulOk i j:=by
 unfold Cy kO at h
 rw[Bool.or_eq_true,Bool.or_eq_true,Bool.and_eq_true]at h
 have e:(2:Int) ^ 64=18446744073709551616:=by decide
 have tn:∀{k:Int},tiny k=true -> -(2 ^ 64)<k/\k<2 ^ 64:=λ{k} h=>by
  unfold tiny at h
  rw[Bool.and_eq_true]at h
  have h1:=of_decide_eq_true h.1
  have h2:=of_decide_eq_true h.2
  omega
 rcases h with(⟨h1,h2⟩|h)|h
 ·exact .of_bits (R7 h1) (R7 h2)
 ·exact .of_left (intBits_le_64 (tn h).1 (tn h).2)
 ·exact .of_right (intBits_le_64 (tn h).1 (tn h).2)
def Je(K:FZ):R2:=λx y H Q=>(rI Cy λi j=>.int (i*j)) x y H Q\/R4 K x y H Q
theorem qF{X:Cx}:c7 X (binaryOp .Mult) (Je X.K):=c7.or (Bx λ_ _ _ _ _ _ _ hc q=>mul_int q hc.ok) aaE
def dU:G2
 |.int i,.int j=>if kO i j=true then .ok (.int (i*j),false)else .bad
 |.lst a,.int k=>if(-1000<=k/\k<=1000)/\a.length<=100 then .ok (.lst (List.replicate k.toNat a).flatten,true)else .bad
 |_,_=>.bad
def ou(_ j:Int):Bool:=decide (j≠0)&&decide (j.natAbs.log2<9000)
def Cz(i j:Int):Prop:=ou i j=true
theorem CG{X:Cx}:c7 X (binaryOp .FloorDiv) (rI Cz λi j=>.int (i.fdiv j)):=Bx λi j _ _ _ _ _ hc q=>by
 unfold Cz ou at hc
 rw[Bool.and_eq_true]at hc
 exact floordiv_int (of_decide_eq_true hc.1) q (.inl (PyProof.noPylong_of_log2 (of_decide_eq_true hc.2)))
def gQ:G2:=eF ou Int.fdiv
def dF:G2:=eF (λ_ j=>decide (j≠0)) Int.fmod
def zJ(i j:Int):Bool:=decide (0<=j)&&decide (j<=1000)&&tiny i
def gU:G2:=eF zJ λi j=>i ^ j.toNat
def dw:G2:=gI λi j=>i-j
section
variable {K:FZ}
theorem aQ.rep{H:Hp}{xs:List V}{ts:List Tr}(r:aQ K H xs ts):∀n,aQ K H (List.replicate n xs).flatten (List.replicate n ts).flatten
 | 0=>.nil
 |n+1=>by
  rw[List.replicate_succ,List.replicate_succ,List.flatten_cons,List.flatten_cons]
  exact r.app (aQ.rep r n)
theorem aaN:fV (aF K) (Je K) dU:=λW x y a b H Q hw rx ry h=>by
 cases a <;> cases b <;> try exact h.elim
 ·rw[rx.int,ry.int]
  dsimp only[dU]at h
  split at h
  ·rename_i e
   exact .inl ⟨_,_,rfl,rfl,e,h _ H (Same.refl _) (.eE (.int _))⟩
  ·exact h.elim
 ·rename_i us k
  rw[ry.int]
  dsimp only[dU]at h
  split at h
  ·rename_i e
   obtain⟨p,xs,rfl,q,r⟩:=rx.lst
   by_cases k0:0<=k
   ·refine .inr ⟨p,k,xs,rfl,rfl,q.zH,by omega,by omega,?_,λz hz=>h _ _ (gw hz _) (.new hz (r.rep _))⟩
    rw[r.length]
    refine Nat.le_trans (Nat.mul_le_mul e.2 (show k.toNat<=1000 by omega)) (by decide)
   ·have e0:k.toNat=0:=by omega
    by_cases k1 : -(2 ^ 63)<=k
    ·refine .inr ⟨p,k,xs,rfl,rfl,q.zH,k1,by omega,?_,λz hz=>h _ _ (gw hz _) (.new hz (r.rep _))⟩
     rw[e0,Nat.mul_zero]
     exact Nat.zero_le _
    ·omega
  ·exact h.elim
theorem aaO:fV K (rI Cz λi j=>.int (i.fdiv j)) gQ:=Jb λ_ _ h=>h
theorem aaP:fV K (rI (λ_ j=>j≠0) λi j=>.int (i.fmod j)) dF:=Jb λ_ _ h=>of_decide_eq_true h
theorem aaQ:fV K (rI Hj λi j=>.int (i ^ j.toNat)) gU:=Jb λi j h=>by
 unfold zJ tiny at h
 rw[Bool.and_eq_true,Bool.and_eq_true,Bool.and_eq_true]at h
 have h1:=of_decide_eq_true h.1.1
 have h2:=of_decide_eq_true h.1.2
 have h3:=of_decide_eq_true h.2.1
 have h4:=of_decide_eq_true h.2.2
 have e:(2:Nat) ^ 64=18446744073709551616:=by decide
 exact⟨h1,by omega,by omega⟩
theorem aaR:fV K (ju λi j=>.int (i-j)) dw:=aaG
def cN:G2:=gB λi j=>decide (j<i)
def dg:G2:=gB λi j=>decide (i<=j)
def fW:G2:=gB λi j=>decide (j<=i)
theorem aaS:fV K (ju λi j=>.bl (decide (j<i))) cN:=Jc
theorem Jf:fV K (ju λi j=>.bl (decide (i<=j))) dg:=Jc
theorem aaT:fV K (ju λi j=>.bl (decide (j<=i))) fW:=Jc
def intsOf:List Tr->Option (List Int)
 | []=>some []
 |.int i::r=>(intsOf r).map (i :: ·)
 |_::_=>none
theorem ints_of{H:Hp}:∀{ts:List Tr} {ns:List Int} {xs:List V},intsOf ts=some ns->aQ K H xs ts->xs=ns.map V.int
 | [],ns,xs,h,r=>by cases h; cases r; rfl
 |.int i::q,ns,xs,h,r=>by
  unfold intsOf at h
  cases e:intsOf q with
  |none=>rw[e]at h; cases h
  |some ms =>
   rw[e]at h
   cases h
   cases r with
   |cons h1 r1 =>
    cases h1
    rw[ints_of e r1]
    rfl
 |.non::q,ns,xs,h,r=>by cases h
 |.bl _::q,ns,xs,h,r=>by cases h
 |.str _::q,ns,xs,h,r=>by cases h
 |.tup _::q,ns,xs,h,r=>by cases h
 |.lst _::q,ns,xs,h,r=>by cases h
def Jg(K:FZ):R2:=λx y H Q=>(ju λi j=>.bl (decide (i<j))) x y H Q\/QC K x y H Q
theorem qG{X:Cx}(hu:X.A.units+64<cLine):c7 X (compareOp .Lt) (Jg X.K):=c7.or Yy (Zg (by omega))
def bV:G2
 |.int i,.int j=>.ok (.bl (decide (i<j)),false)
 |.tup a,.tup b=>match intsOf a,intsOf b with
  |some ns,some ms=>.ok (.bl (HT.lexLt ns ms),false)
  |_,_=>.bad
 |_,_=>.bad
theorem aaU:fV (aF K) (Jg K) bV:=λW x y a b H Q hw rx ry h=>by
 cases a <;> cases b <;> try exact h.elim
 ·rw[rx.int,ry.int]
  exact .inl ⟨_,_,rfl,rfl,h _ H (Same.refl _) (.eE (.bl _))⟩
 ·rename_i us ws
  dsimp only[bV]at h
  split at h
  ·rename_i ns ms e1 e2
   obtain⟨p,xs,rfl,q,r⟩:=rx.tup
   obtain⟨p',ys,rfl,q',r'⟩:=ry.tup
   have z1:=ints_of e1 r
   have z2:=ints_of e2 r'
   subst z1 z2
   exact .inr ⟨p,p',ns,ms,rfl,rfl,q.toK,q'.toK,h _ H (Same.refl _) (.eE (.bl _))⟩
  ·exact h.elim
noncomputable def aB:G2
 |.lst ts,.int i=>match cX ts i with
  |some t=>.ok (t,false)
  |none=>.bad
 |.tup ts,.int i=>match cX ts i with
  |some t=>.ok (t,false)
  |none=>.bad
 | .str z,.int i=>if z.length<=100000 then (match cX z.cps.toList i with
  |some c=>.ok (.str ⟨#[c]⟩,false)
  |none=>.bad)else .bad
 |_,_=>.bad
theorem aaV:fV (aF K) (BX K) aB:=λW x y a b H Q hw rx ry h=>by
 cases a <;> cases b <;> try exact h.elim
 ·rename_i z i
  rw[rx.str,ry.int]
  dsimp only[aB]at h
  split at h
  ·rename_i e
   split at h
   ·rename_i c ec
    exact .inr (.inr ⟨z,i,c,rfl,rfl,big e,ec,h _ H (Same.refl _) (.eE (.str _))⟩)
   ·exact h.elim
  ·exact h.elim
 ·rename_i ts i
  rw[ry.int]
  dsimp only[aB]at h
  split at h
  ·rename_i t et
   obtain⟨p,xs,rfl,q,r⟩:=rx.tup
   obtain⟨v,ev,rv⟩:=r.cX et
   exact .inr (.inl ⟨p,xs,i,v,rfl,rfl,q.toK,ev,h _ H (Same.refl _) rv⟩)
  ·exact h.elim
 ·rename_i ts i
  rw[ry.int]
  dsimp only[aB]at h
  split at h
  ·rename_i t et
   obtain⟨p,xs,rfl,q,r⟩:=rx.lst
   obtain⟨v,ev,rv⟩:=r.cX et
   exact .inl ⟨p,xs,i,v,rfl,rfl,q.toK,ev,h _ H (Same.refl _) rv⟩
  ·exact h.elim
end
end L2
end
section
namespace L2
open PySem PySem.Spec PyProof.Rows
section
variable {K:FZ}{W:Addr->Prop}{σ : St}
theorem iT.step{H H' ji:Hp}(hw:∀b,W b->H b≠none)(s:bY W H' ji):∀{vs:List V} {rs:List Rv},iT K W σ H H' vs rs->iT K W σ H ji vs rs
 |_,_,.nil=>.nil
 |_,_,.cons h q=>.cons (h.step hw s) (iT.step hw s q)
theorem iT.back{G H H':Hp}(d:∀b,H b=none->G b=none):∀{vs:List V} {rs:List Rv},iT K W σ H H' vs rs->iT K W σ G H' vs rs
 |_,_,.nil=>.nil
 |_,_,.cons h q=>.cons (h.back d) (iT.back d q)
inductive sH(K:FZ)(W:Addr->Prop)(H:Hp):List V->List Tr->Prop
 |nil:sH K W H [] []
 |cons {v:V} {t:Tr} {vs:List V} {ts:List Tr} (h:Rp K W H v t) (q:sH K W H vs ts):sH K W H (v::vs) (t::ts)
def drs(ρ : En):List Rv->Rs (List Tr)
 | []=>.ok []
 |r::rs=>(dr ρ r).bind λt=>(drs ρ rs).bind λts=>.ok (t::ts)
theorem uD(ρ : En):∀(rs:List Rv) (c:Str),drs ρ rs ≠ .ex c
 | [],c=>by intro z; cases z
 |r::rs,c=>by
  unfold drs
  cases e:dr ρ r with
  |bad=>intro z; cases z
  |ex d=>exact(jd _ _ _ e).elim
  |ok t =>
   show(drs ρ rs).bind _≠_
   cases e2:drs ρ rs with
   |bad=>intro z; cases z
   |ex d=>exact(uD ρ rs d e2).elim
   |ok ts=>intro z; cases z
theorem kW{α β : Type}{r:Rs α}{f : α -> Rs β}{b : β}(h:r.bind f=.ok b):∃a,r=.ok a/\f a=.ok b:=by
 cases r with
 |bad=>cases h
 |ex c=>cases h
 |ok a=>exact⟨a,rfl,h⟩
theorem wu{t:Tx}{ρ : En}{H H':Hp}(e:aR t W ρ σ H')(hw:∀b,W b->H b≠none):∀{vs:List V} {rs:List Rv} {ts:List Tr},iT t.K W σ H H' vs rs->drs ρ rs=.ok ts->sH t.K W H' vs ts
 |_,_,_,.nil,q=>by cases q; exact .nil
 |_,_,_,.cons h r,q=>by
  unfold drs at q
  obtain⟨a,q1,q⟩:=kW q
  obtain⟨as,q2,q⟩:=kW q
  cases q
  exact .cons (jj e hw h q1) (wu e hw r q2)
def cls:List Rv->Rs (List Tr)
 | []=>.ok []
 |.v t _::rs=>(cls rs).bind λts=>.ok (t::ts)
 |.s _::_=>.bad
theorem zK:∀(rs:List Rv) (c:Str),cls rs ≠ .ex c
 | [],c=>by intro z; cases z
 |.v t fr::rs,c=>by
  unfold cls
  cases e2:cls rs with
  |bad=>intro z; cases z
  |ex d=>exact(zK rs d e2).elim
  |ok ts=>intro z; cases z
 |.s i::rs,c=>by intro z; cases z
theorem zL{H H':Hp}(hw:∀b,W b->H b≠none):∀{vs:List V} {rs:List Rv} {ts:List Tr},iT K W σ H H' vs rs->cls rs=.ok ts->aQ K (bf W H') vs ts
 |_,_,_,.nil,q=>by cases q; exact .nil
 |_,.v t fr::_,_,.cons h r,q=>by
  unfold cls at q
  obtain⟨as,q2,q⟩:=kW q
  cases q
  exact .cons (h.rep hw) (zL hw r q2)
 |_,.s i::_,_,.cons h r,q=>by cases q
end
section
variable {t:Tx}
def au:AF:=λρ=>.ok ([],ρ)
def ak(f:EF)(g:AF):AF:=λρ=>(f ρ).bind λp=>(g p.2).bind λq=>.ok (p.1::q.1,q.2)
theorem fM:SA t lH au:=λW ρ σ H Q e h=>h [] H e (bY.refl _ _) .nil
theorem cY{te:TE}{ta:TA}{f:EF}{g:AF}(h1:SE t te f)(h2:SA t ta g):SA t (iR te ta) (ak f g):=λW ρ σ H Q e h=>by
 refine h1 W ρ σ H _ e (Rs.bH (Rs.aY h) λp h v H1 e1 s1 v1=>?_)
 refine h2 W p.2 σ H1 _ e1 (Rs.bH (Rs.aY h) λq h vs H2 e2 s2 v2=>?_)
 exact h (v::vs) H2 e2 (s1.trans s2) (.cons (v1.1.step e.wn s2) (iT.back s1.dom v2))
def dX(g:AF):EF:=λρ=>(g ρ).bind λp=>(cls p.1).bind λts=>if ts.length<=1000 then .ok (.v (.lst ts) true,p.2)else .bad
def gj(g:AF):EF:=λρ=>(g ρ).bind λp=>(cls p.1).bind λts=>if ts.length<=1000 then .ok (.v (.tup ts) false,p.2)else .bad
theorem dG{α : Type}{r:Rs α}{EX:Str->Prop}{P : α -> Prop}(h:r.post EX P)(n:∀c,r ≠ .ex c):∃a,r=.ok a/\P a:=by
 cases r with
 |bad=>exact h.elim
 |ex c=>exact(n c rfl).elim
 |ok a=>exact⟨a,rfl,h⟩
theorem uE{ta:TA}{g:AF}(h1:SA t ta g):SE t (Ql ta) (dX g):=λW ρ σ H Q e h=>by
 refine h1 W ρ σ H _ e (Rs.bH (Rs.aY h) λp h vs H1 e1 s1 v1=>?_)
 obtain⟨ts,q,h⟩:=dG (Rs.aY h) (zK _)
 have r:=zL e.wn v1 q
 split at h
 ·rename_i hl
  refine⟨by rw[r.length]; exact Nat.le_trans hl (by decide),λz hz=>h _ _ (e1.grow (gw hz _)) (s1.trans (bY.of (gw hz _))) ?_⟩
  exact(iI.of (σ' := σ) e1 (gw hz _) (eU.new hz r)).back s1.dom
 ·exact h.elim
theorem R8{ta:TA}{g:AF}(h1:SA t ta g):SE t (Qk ta) (gj g):=λW ρ σ H Q e h=>by
 refine h1 W ρ σ H _ e (Rs.bH (Rs.aY h) λp h vs H1 e1 s1 v1=>?_)
 obtain⟨ts,q,h⟩:=dG (Rs.aY h) (zK _)
 have r:=zL e.wn v1 q
 split at h
 ·rename_i hl
  refine⟨by rw[r.length]; exact Nat.le_trans hl (by decide),λz hz=>h _ _ (e1.grow (gw hz _)) (s1.trans (bY.of (gw hz _))) ?_⟩
  exact .low ((eU.newT (σ := σ) (W:=W) e1.wl hz r))
 ·exact h.elim
abbrev G1:=Tr->Rs (Tr × Bool)
def oA(K:FZ)(r:V->Hp->VK->Prop)(g:G1):Prop:=∀W x a H Q,(∀b,W b->Lt H b)->Rp K W H x a->(g a).post (λ_=>False) (λp=>∀v H',Same H H'->eU K W [] H H' v (.v p.1 p.2)->Q v H')->r x H Q
def j5(g:G1)(fa:EF):EF:=λρ=>(fa ρ).bind λp=>(dr p.2 p.1).bind λa=>(g a).bind λz=>.ok (.v z.1 z.2,p.2)
theorem Jh{r:V->Hp->VK->Prop}{g:G1}{ta:TE}{fa:EF}(o:oA t.K r g)(ng:∀a c,g a ≠ .ex c)(ha:SE t ta fa):SE t (yP r ta) (j5 g fa):=λW ρ σ H Q e h=>by
 refine ha W ρ σ H _ e (Rs.bH (Rs.aY h) λp h x H1 e1 s1 v1=>?_)
 obtain⟨a,k1,h⟩:=dG (Rs.aY h) (jd _ _)
 refine o W x a H1 Q e1.wl (jj e1 e.wn v1.1 k1) (Rs.bH (jW (Rs.aY h) (ng a)) λz h v H2 s2 v2=>?_)
 exact h v H2 (e1.grow s2) (s1.trans (bY.of s2)) ((iI.of e1 s2 v2).back s1.dom)
def sI:G1
 |.int i=>.ok (.int (-i),false)
 |_=>.bad
theorem aaW{K:FZ}:oA K (rU λi=>.int (-i)) sI:=λW x a H Q hw rx h=>by
 cases a <;> try exact h.elim
 rw[rx.int]
 exact⟨_,rfl,h _ H (Same.refl _) (.eE (.int _))⟩
def aP:Tr->Rs Bool
 |.bl b=>.ok b
 |_=>.bad
theorem R9(a:Tr)(c:Str):aP a ≠ .ex c:=by cases a <;> (intro z; cases z)
def aK(fa:EF):BF:=λρ=>(fa ρ).bind λp=>(dr p.2 p.1).bind λa=>(aP a).bind λb=>.ok (b,p.2)
theorem Sd{K:FZ}{W:Addr->Prop}{H:Hp}{v:V}{a:Tr}{b:Bool}(h:Rp K W H v a)(q:aP a=.ok b):v=.bl b:=by
 cases a <;> cases q
 exact h.bl
theorem mV{ta:TE}{fa:EF}(ha:SE t ta fa):ST t (Hs ta) (aK fa):=λW ρ σ H Q e h=>by
 refine ha W ρ σ H _ e (Rs.bH (Rs.aY h) λp h x H1 e1 s1 v1=>?_)
 obtain⟨a,k1,h⟩:=dG (Rs.aY h) (jd _ _)
 obtain⟨b,k2,h⟩:=dG (Rs.aY h) (R9 _)
 exact⟨b,Sd (jj e1 e.wn v1.1 k1) k2,h H1 e1 s1⟩
def cL:Tr->Rs Bool
 |.non=>.ok false
 |.bl b=>.ok b
 |.int i=>.ok (i != 0)
 |.lst ts=>.ok (!ts.isEmpty)
 |.tup ts=>.ok (!ts.isEmpty)
 |.str x=>if x.length<=100000 then .ok ((x.length:Int) != 0)else .bad
 |.cF _=>.bad
theorem Sg(a:Tr)(c:Str):cL a ≠ .ex c:=by
 cases a <;> try(intro z; cases z; done)
 dsimp only[cL]
 split <;> (intro z; cases z)
theorem Sh{α β : Type}{a:List α}{b:List β}(h:a.length=b.length):a.isEmpty=b.isEmpty:=by
 cases a <;> cases b <;> first|rfl|cases h
theorem aaX{K:FZ}{W:Addr->Prop}{H:Hp}{v:V}{a:Tr}{b:Bool}(h:Rp (aF K) W H v a)(q:cL a=.ok b):yR K v H b:=by
 cases a with
 |non=>cases q; rw[h.non]; rfl
 |bl i=>cases q; rw[h.bl]; rfl
 |int i=>cases q; rw[h.int]; rfl
 |str i =>
  dsimp only[cL]at q
  split at q
  ·rename_i e
   cases q
   rw[h.str]
   exact⟨big e,rfl⟩
  ·cases q
 |tup ts =>
  cases q
  obtain⟨p,xs,rfl,q,r⟩:=h.tup
  exact .inr (.inl ⟨xs,q.toK,by rw[Sh r.length]⟩)
 |lst ts =>
  cases q
  obtain⟨p,xs,rfl,q,r⟩:=h.lst
  exact .inl ⟨xs,q.toK,by rw[Sh r.length]⟩
 |cF c=>cases q
def cR(fa:EF):BF:=λρ=>(fa ρ).bind λp=>(dr p.2 p.1).bind λa=>(cL a).bind λb=>.ok (b,p.2)
def aaY(K:FZ)(ta:TE):TT:=λσ H Q=>ta σ H λx H'=>∃k,yR K x H' k/\Q k H'
theorem oE{K:FZ}(hK:t.K=aF K){ta:TE}{fa:EF}(ha:SE t ta fa):ST t (aaY K ta) (cR fa):=λW ρ σ H Q e h=>by
 refine ha W ρ σ H _ e (Rs.bH (Rs.aY h) λp h x H1 e1 s1 v1=>?_)
 obtain⟨a,k1,h⟩:=dG (Rs.aY h) (jd _ _)
 obtain⟨b,k2,h⟩:=dG (Rs.aY h) (Sg _)
 have r:=jj e1 e.wn v1.1 k1
 rw[hK]at r
 exact⟨b,aaX r k2,h H1 e1 s1⟩
def jM(f g:BF):BF:=λρ=>(f ρ).bind λp=>if p.1=true then g p.2 else .ok (false,p.2)
def dz(f g:BF):BF:=λρ=>(f ρ).bind λp=>if p.1=true then .ok (true,p.2)else g p.2
def dh(f:BF):BF:=λρ=>(f ρ).bind λp=>.ok (!p.1,p.2)
theorem aaZ{ta tb:TT}{f g:BF}(ha:ST t ta f)(hb:ST t tb g):ST t (O3 ta tb) (jM f g):=λW ρ σ H Q e h=>by
 refine ha W ρ σ H _ e (Rs.bH (Rs.aY h) λp h H1 e1 s1=>?_)
 split at h
 ·rename_i c
  refine if_pos c▸hb W p.2 σ H1 _ e1 (Rs.bH h λq h H2 e2 s2=>h H2 e2 (s1.trans s2))
 ·rename_i c
  exact if_neg c▸h H1 e1 s1
theorem zM{ta tb:TT}{f g:BF}(ha:ST t ta f)(hb:ST t tb g):ST t (O4 ta tb) (dz f g):=λW ρ σ H Q e h=>by
 refine ha W ρ σ H _ e (Rs.bH (Rs.aY h) λp h H1 e1 s1=>?_)
 split at h
 ·rename_i c
  exact if_pos c▸h H1 e1 s1
 ·rename_i c
  refine if_neg c▸hb W p.2 σ H1 _ e1 (Rs.bH h λq h H2 e2 s2=>h H2 e2 (s1.trans s2))
theorem oF{ta:TT}{f:BF}(ha:ST t ta f):ST t (O5 ta) (dh f):=λW ρ σ H Q e h =>
 ha W ρ σ H _ e (Rs.bH (Rs.aY h) λp h H1 e1 s1=>h H1 e1 s1)
def eB(b:Bool):Rv:=.v (.bl b) false
def j6(f g:EF):EF:=λρ=>(aK f ρ).bind λp=>if p.1=true then g p.2 else .ok (eB false,p.2)
def wA(f g:EF):EF:=λρ=>(aK f ρ).bind λp=>if p.1=true then .ok (eB true,p.2)else g p.2
def CJ(f:EF):EF:=λρ=>(aK f ρ).bind λp=>.ok (eB (!p.1),p.2)
theorem aa0{ta tb:TE}{f g:EF}(ha:SE t ta f)(hb:SE t tb g):SE t (O6 ta tb) (j6 f g):=λW ρ σ H Q e h=>by
 refine mV ha W ρ σ H _ e (Rs.bH (Rs.aY h) λp h H1 e1 s1=>?_)
 split at h
 ·rename_i c
  refine if_pos c▸hb W p.2 σ H1 _ e1 (Rs.bH h λq h v H2 e2 s2 v2=>h v H2 e2 (s1.trans s2) (v2.back s1.dom))
 ·rename_i c
  exact if_neg c▸h _ H1 e1 s1 (.low (.bl false))
theorem aa1{ta tb:TE}{f g:EF}(ha:SE t ta f)(hb:SE t tb g):SE t (O7 ta tb) (wA f g):=λW ρ σ H Q e h=>by
 refine mV ha W ρ σ H _ e (Rs.bH (Rs.aY h) λp h H1 e1 s1=>?_)
 split at h
 ·rename_i c
  exact if_pos c▸h _ H1 e1 s1 (.low (.bl true))
 ·rename_i c
  refine if_neg c▸hb W p.2 σ H1 _ e1 (Rs.bH h λq h v H2 e2 s2 v2=>h v H2 e2 (s1.trans s2) (v2.back s1.dom))
theorem aa2{ta:TE}{f:EF}(ha:SE t ta f):SE t (O8 ta) (CJ f):=λW ρ σ H Q e h =>
 mV ha W ρ σ H _ e (Rs.bH (Rs.aY h) λp h H1 e1 s1=>h _ H1 e1 s1 (.low (.bl _)))
def nH(c:BF)(f g:EF):EF:=λρ=>(c ρ).bind λp=>if p.1=true then f p.2 else g p.2
theorem aa3{tc:TT}{ta tb:TE}{c:BF}{f g:EF}(hc:ST t tc c)(ha:SE t ta f)(hb:SE t tb g):SE t (Pa tc ta tb) (nH c f g):=λW ρ σ H Q e h=>by
 refine hc W ρ σ H _ e (Rs.bH (Rs.aY h) λp h H1 e1 s1=>?_)
 split at h
 ·rename_i d
  refine if_pos d▸ha W p.2 σ H1 _ e1 (Rs.bH h λq h v H2 e2 s2 v2=>h v H2 e2 (s1.trans s2) (v2.back s1.dom))
 ·rename_i d
  refine if_neg d▸hb W p.2 σ H1 _ e1 (Rs.bH h λq h v H2 e2 s2 v2=>h v H2 e2 (s1.trans s2) (v2.back s1.dom))
end
end L2
end
section
namespace L2
open PySem PySem.Spec PyProof.Rows
section
variable {t:Tx}
noncomputable def uF(g g':G2)(fa fb fc:EF):EF:=λρ=>(fa ρ).bind λp=>(fb p.2).bind λq=>(dr q.2 p.1).bind λa=>(dr q.2 q.1).bind λb=>(g a b).bind λz=>(aP z.1).bind λk =>
 if k=true then(fc q.2).bind λs=>(dr s.2 q.1).bind λb=>(dr s.2 s.1).bind λc=>(g' b c).bind λz=>.ok (.v z.1 z.2,s.2)else .ok (eB false,q.2)
theorem aa4{r r':R2}{g g':G2}{ta tb tc:TE}{fa fb fc:EF}(o:fV t.K r g)(o':fV t.K r' g')(ng:∀a b c,g a b ≠ .ex c)(ng':∀a b c,g' a b ≠ .ex c)(ha:SE t ta fa)(hb:SE t tb fb)(hc:SE t tc fc):SE t (BL r r' ta tb tc) (uF g g' fa fb fc):=λW ρ σ H Q e h=>by
 refine ha W ρ σ H _ e (Rs.bH (Rs.aY h) λp h x H1 e1 s1 v1=>?_)
 refine hb W p.2 σ H1 _ e1 (Rs.bH (Rs.aY h) λq h y H2 e2 s2 v2=>?_)
 obtain⟨a,k1,h⟩:=dG (Rs.aY h) (jd _ _)
 obtain⟨b,k2,h⟩:=dG (Rs.aY h) (jd _ _)
 refine o W x y a b H2 _ e2.wl (jj e2 e.wn (v1.1.step e.wn s2) k1) (jj e2 e1.wn v2.1 k2) (Rs.bH (jW (Rs.aY h) (ng a b)) λz h v H3 s3 v3=>?_)
 obtain⟨k,k3,h⟩:=dG (Rs.aY h) (R9 _)
 have e3:=e2.grow s3
 have b3:v=.bl k:=Sd (.inl (eU.rep (σ:=[]) e2.wn v3)) k3
 refine⟨k,b3,?_⟩
 split at h
 ·rename_i c
  rw[if_pos c]
  refine hc W q.2 σ H3 _ e3 (Rs.bH (Rs.aY h) λu h w H4 e4 s4 v4=>?_)
  obtain⟨b',k4,h⟩:=dG (Rs.aY h) (jd _ _)
  obtain⟨c',k5,h⟩:=dG (Rs.aY h) (jd _ _)
  refine o' W y w b' c' H4 _ e4.wl (jj e4 e1.wn ((v2.1.step e1.wn (bY.of s3)).step e1.wn s4) k4) (jj e4 e3.wn v4.1 k5) (Rs.bH (jW (Rs.aY h) (ng' b' c')) λz h v H5 s5 v5=>?_)
  have st:bY W H H4:=(s1.trans (s2.trans (bY.of s3))).trans s4
  exact h v H5 (e4.grow s5) (st.trans (bY.of s5)) ((iI.of e4 s5 v5).back st.dom)
 ·rename_i c
  rw[if_neg c]
  exact h _ H3 e3 ((s1.trans s2).trans (bY.of s3)) (.low (.bl false))
abbrev OF:=En->Rs (Option Int × En)
def SO(t:Tx)(te:TO)(f:OF):Prop:=∀W ρ σ H Q,aR t W ρ σ H->(f ρ).post t.EX (λp=>∀H',aR t W p.2 σ H'->bY W H H'->Q p.1 H')->te σ H Q
def gA:OF:=λρ=>.ok (none,ρ)
theorem aa5:SO t Qw gA:=λW ρ σ H Q e h=>h H e (bY.refl _ _)
def cW:Tr->Rs Int
 |.int i=>.ok i
 |_=>.bad
theorem Sq(a:Tr)(c:Str):cW a ≠ .ex c:=by cases a <;> (intro z; cases z)
theorem Ss{K:FZ}{W:Addr->Prop}{H:Hp}{v:V}{a:Tr}{b:Int}(h:Rp K W H v a)(q:cW a=.ok b):v=.int b:=by
 cases a <;> cases q
 exact h.int
def gC(fa:EF):OF:=λρ=>(fa ρ).bind λp=>(dr p.2 p.1).bind λa=>(cW a).bind λb=>.ok (some b,p.2)
theorem aa6{ta:TE}{fa:EF}(ha:SE t ta fa):SO t (Qx ta) (gC fa):=λW ρ σ H Q e h=>by
 refine ha W ρ σ H _ e (Rs.bH (Rs.aY h) λp h x H1 e1 s1 v1=>?_)
 obtain⟨a,k1,h⟩:=dG (Rs.aY h) (jd _ _)
 obtain⟨b,k2,h⟩:=dG (Rs.aY h) (Sq _)
 exact⟨b,Ss (jj e1 e.wn v1.1 k1) k2,h H1 e1 s1⟩
def cut{α : Type}(xs:List α)(lo hi:Option Int):List α := (xs.drop (HT.cC xs.length 0 lo)).take (HT.cC xs.length xs.length hi-HT.cC xs.length 0 lo)
theorem aQ.cut{K:FZ}{H:Hp}{xs:List V}{ts:List Tr}(r:aQ K H xs ts)(lo hi:Option Int):aQ K H (rW xs lo hi) (L2.cut ts lo hi):=by
 unfold rW L2.cut
 rw[r.length]
 exact(r.drop _).take _
def Sv(K:FZ):V->Option Int->Option Int->Hp->VK->Prop:=λx lo hi H Q=>QT K x lo hi H Q\/QB K x lo hi H Q\/Rq x lo hi H Q
theorem mW{X:Cx}:nY X (Sv X.K):=nY.or Zr (nY.or Zf Z0)
noncomputable def jC(lo hi:Option Int):G1
 |.lst ts=>.ok (.lst (cut ts lo hi),true)
 |.tup ts=>if ¬(HT.cC ts.length 0 lo=0/\HT.cC ts.length ts.length hi=ts.length)then .ok (.tup (cut ts lo hi),false)else .bad
 |.str z=>if z.length<=100000 then .ok (.str (Txt.slice z lo hi),false)else .bad
 |_=>.bad
theorem aa7(lo hi:Option Int)(a:Tr)(c:Str):jC lo hi a ≠ .ex c:=by
 cases a <;> dsimp only[jC] <;> (try split) <;> (intro z; cases z)
def gD(fa:EF)(fl fh:OF):EF:=λρ=>(fa ρ).bind λp=>(fl p.2).bind λl=>(fh l.2).bind λh=>(dr h.2 p.1).bind λa=>(jC l.1 h.1 a).bind λz=>.ok (.v z.1 z.2,h.2)
theorem aa8{K:FZ}(hK:t.K=aF K){ta:TE}{tl th:TO}{fa:EF}{fl fh:OF}(ha:SE t ta fa)(hl:SO t tl fl)(hh:SO t th fh):SE t (Qy (Sv K) ta tl th) (gD fa fl fh):=λW ρ σ H Q e h=>by
 refine ha W ρ σ H _ e (Rs.bH (Rs.aY h) λp h x H1 e1 s1 v1=>?_)
 refine hl W p.2 σ H1 _ e1 (Rs.bH (Rs.aY h) λl h H2 e2 s2=>?_)
 refine hh W l.2 σ H2 _ e2 (Rs.bH (Rs.aY h) λu h H3 e3 s3=>?_)
 obtain⟨a,k1,h⟩:=dG (Rs.aY h) (jd _ _)
 obtain⟨z,k2,h⟩:=dG (Rs.aY h) (aa7 _ _ _)
 have st:bY W H H3:=s1.trans (s2.trans s3)
 have rx:=jj e3 e.wn (v1.1.step e.wn (s2.trans s3)) k1
 rw[hK]at rx
 cases a with
 |cF c=>cases k2
 |lst ts =>
  cases k2
  obtain⟨b,xs,rfl,q,r⟩:=rx.lst
  refine .inl ⟨b,xs,rfl,q.toK,λy hy=>h _ _ (e3.grow (gw hy _)) (st.trans (bY.of (gw hy _))) ?_⟩
  rw[<-hK]at r
  exact(iI.of (σ' := σ) e3 (gw hy _) (eU.new hy (r.cut _ _))).back st.dom
 |tup ts =>
  dsimp only[jC]at k2
  split at k2
  ·rename_i c
   cases k2
   obtain⟨b,xs,rfl,q,r⟩:=rx.tup
   refine .inr (.inl ⟨b,xs,rfl,q.toK,by rw[r.length]; exact c,λy hy=>h _ _ (e3.grow (gw hy _)) (st.trans (bY.of (gw hy _))) ?_⟩)
   rw[<-hK]at r
   exact .low (eU.newT (σ := σ) (W:=W) e3.wl hy (r.cut _ _))
  ·cases k2
 |str i =>
  dsimp only[jC]at k2
  split at k2
  ·rename_i c
   cases k2
   rw[rx.str]
   exact .inr (.inr ⟨i,rfl,big c,h _ H3 e3 st (.low (.str _))⟩)
  ·cases k2
 |non=>cases k2
 |bl i=>cases k2
 |int i=>cases k2
abbrev GN:=List Tr->Rs (Tr × Bool)
def Ji(K:FZ)(r:List V->Hp->VK->Prop)(g:GN):Prop:=∀W xs as H Q,(∀b,W b->Lt H b)->sH K W H xs as->(g as).post (λ_=>False) (λp=>∀v H',Same H H'->eU K W [] H H' v (.v p.1 p.2)->Q v H')->r xs H Q
def bh(g:GN)(fa:AF):EF:=λρ=>(fa ρ).bind λp=>(drs p.2 p.1).bind λas=>(g as).bind λz=>.ok (.v z.1 z.2,p.2)
theorem sJ{r:List V->Hp->VK->Prop}{g:GN}{ta:TA}{fa:AF}(o:Ji t.K r g)(ng:∀as c,g as ≠ .ex c)(ha:SA t ta fa):SE t (jh r ta) (bh g fa):=λW ρ σ H Q e h=>by
 refine ha W ρ σ H _ e (Rs.bH (Rs.aY h) λp h xs H1 e1 s1 v1=>?_)
 obtain⟨as,k1,h⟩:=dG (Rs.aY h) (uD _ _)
 refine o W xs as H1 Q e1.wl (wu e1 e.wn v1 k1) (Rs.bH (jW (Rs.aY h) (ng as)) λz h v H2 s2 v2=>?_)
 exact h v H2 (e1.grow s2) (s1.trans (bY.of s2)) ((iI.of e1 s2 v2).back s1.dom)
def g1(g:G1):GN
 | [a]=>g a
 |_=>.bad
theorem wB{g:G1}(h:∀a c,g a ≠ .ex c)(as:List Tr)(c:Str):g1 g as ≠ .ex c:=by
 match as with
 | []=>intro z; cases z
 | [a]=>exact h a c
 |_::_::_=>intro z; cases z
theorem wC{K:FZ}{r:List V->Hp->VK->Prop}{g:G1}(h:oA K (λx=>r [x]) g):Ji K r (g1 g):=λW xs as H Q hw rs q=>by
 cases rs with
 |nil=>exact q.elim
 |cons h1 r1 =>
  cases r1 with
  |nil=>exact h W _ _ H Q hw h1 q
  |cons _ _=>exact q.elim
def g2(g:G2):GN
 | [a,b]=>g a b
 |_=>.bad
theorem Sw{g:G2}(h:∀a b c,g a b ≠ .ex c)(as:List Tr)(c:Str):g2 g as ≠ .ex c:=by
 match as with
 | []=>intro z; cases z
 | [a]=>intro z; cases z
 | [a,b]=>exact h a b c
 |_::_::_::_=>intro z; cases z
theorem Sx{K:FZ}{r:List V->Hp->VK->Prop}{g:G2}(h:fV K (λx y=>r [x,y]) g):Ji K r (g2 g):=λW xs as H Q hw rs q=>by
 cases rs with
 |nil=>exact q.elim
 |cons h1 r1 =>
  cases r1 with
  |nil=>exact q.elim
  |cons h2 r2 =>
   cases r2 with
   |nil=>exact h W _ _ _ _ H Q hw h1 h2 q
   |cons _ _=>exact q.elim
end
section
variable {K:FZ}
def Jj(K:FZ):List V->Hp->VK->Prop:=λxs H Q=>(∃p ys,xs=[.ref p]/\(cJ K H p ys\/dZ K H p ys)/\Q (.int ys.length) H)\/(∃z,xs=[.str z]/\z.length<=sizeLine/\Q (.int z.length) H)
theorem fD{X:Cx}:g8 X (.builtin "len") (Jj X.K):=g8.or Zt Zu
def aL:G1
 |.lst ts=>.ok (.int ts.length,false)
 |.tup ts=>.ok (.int ts.length,false)
 |.str z=>if z.length<=100000 then .ok (.int z.length,false)else .bad
 |_=>.bad
theorem aa9:oA (aF K) (λx=>Jj K [x]) aL:=λW x a H Q hw rx h=>by
 cases a <;> try exact h.elim
 ·rename_i z
  dsimp only[aL]at h
  split at h
  ·rename_i e
   rw[rx.str]
   exact .inr ⟨z,rfl,big e,h _ H (Same.refl _) (.eE (.int _))⟩
  ·exact h.elim
 ·obtain⟨p,xs,rfl,q,r⟩:=rx.tup
  refine .inl ⟨p,xs,rfl,.inr q.toK,?_⟩
  rw[r.length]
  exact h _ H (Same.refl _) (.eE (.int _))
 ·obtain⟨p,xs,rfl,q,r⟩:=rx.lst
  refine .inl ⟨p,xs,rfl,.inl q.toK,?_⟩
  rw[r.length]
  exact h _ H (Same.refl _) (.eE (.int _))
def iU:G1
 |.int i=>.ok (.int (if i<0 then -i else i),false)
 |_=>.bad
theorem abb:oA K (λx H Q=>∃i,[x]=[V.int i]/\Q (.int (if i<0 then -i else i)) H) iU:=λW x a H Q hw rx h=>by
 cases a <;> try exact h.elim
 rw[rx.int]
 exact⟨_,rfl,h _ H (Same.refl _) (.eE (.int _))⟩
def gW:G1
 |.lst ts=>.ok (.lst ts,true)
 |.tup ts=>.ok (.lst ts,true)
 |_=>.bad
def d7:G1
 |.lst ts=>.ok (.tup ts,false)
 |.tup ts=>.ok (.tup ts,false)
 |_=>.bad
theorem abd:oA (aF K) (λx H Q=>∃p ys,[x]=[V.ref p]/\((cJ K H p ys/\∀l,H l=none->Q (.ref l) (upd H l (.tup ys)))\/(dZ K H p ys/\Q (.ref p) H))) d7:=λW x a H Q hw rx h=>by
 cases a <;> try exact h.elim
 ·have rt:=rx.R5
  obtain⟨p,xs,rfl,q,r⟩:=rx.tup
  exact⟨p,xs,rfl,.inr ⟨q.toK,h _ H (Same.refl _) rt⟩⟩
 ·obtain⟨p,xs,rfl,q,r⟩:=rx.lst
  exact⟨p,xs,rfl,.inl ⟨q.toK,λz hz=>h _ _ (gw hz _) (.newT hw hz r)⟩⟩
def jD:G1:=λt=>if jJ t=true/\blk t<=8000/\dep t<=40 then .ok (.str (txt t),false)else .bad
theorem abe:oA (aF K) (λx=>Il K [x]) jD:=λW x a H Q hw rx h=>by
 unfold jD at h
 split at h
 ·rename_i e
  exact⟨x,a,rfl,rx.rep.toK,e.1,e.2.1,e.2.2,h _ H (Same.refl _) (.eE (.str _))⟩
 ·exact h.elim
def gY:G2
 |.int i,.int j=>.ok (.int (if j<i then j else i),false)
 |_,_=>.bad
def gZ:G2
 |.int i,.int j=>.ok (.int (if j > i then j else i),false)
 |_,_=>.bad
theorem abf:fV K (λx y H Q=>∃i j,[x,y]=[V.int i,V.int j]/\Q (.int (if j<i then j else i)) H) gY:=λW x y a b H Q hw rx ry h=>by
 cases a <;> cases b <;> try exact h.elim
 rw[rx.int,ry.int]
 exact⟨_,_,rfl,h _ H (Same.refl _) (.eE (.int _))⟩
theorem abg:fV K (λx y H Q=>∃i j,[x,y]=[V.int i,V.int j]/\Q (.int (if j > i then j else i)) H) gZ:=λW x y a b H Q hw rx ry h=>by
 cases a <;> cases b <;> try exact h.elim
 rw[rx.int,ry.int]
 exact⟨_,_,rfl,h _ H (Same.refl _) (.eE (.int _))⟩
def nJ:List Tr->Option (List Bool)
 | []=>some []
 |.bl i::r=>(nJ r).map (i :: ·)
 |_::_=>none
theorem Sy{H:Hp}:∀{ts:List Tr} {ns:List Bool} {xs:List V},nJ ts=some ns->aQ K H xs ts->xs=ns.map V.bl
 | [],ns,xs,h,r=>by cases h; cases r; rfl
 |.bl i::q,ns,xs,h,r=>by
  unfold nJ at h
  cases e:nJ q with
  |none=>rw[e]at h; cases h
  |some ms =>
   rw[e]at h
   cases h
   cases r with
   |cons h1 r1 =>
    cases h1
    rw[Sy e r1]
    rfl
 |.non::q,ns,xs,h,r=>by cases h
 |.int _::q,ns,xs,h,r=>by cases h
 |.str _::q,ns,xs,h,r=>by cases h
 |.tup _::q,ns,xs,h,r=>by cases h
 |.lst _::q,ns,xs,h,r=>by cases h
def dI:G1
 |.lst ts=>match nJ ts with
  |some bs=>.ok (.bl (bs.all id),false)
  |none=>.bad
 |_=>.bad
theorem abh:oA (aF K) (λx=>Ib K [x]) dI:=λW x a H Q hw rx h=>by
 cases a <;> try exact h.elim
 dsimp only[dI]at h
 split at h
 ·rename_i bs e
  obtain⟨p,xs,rfl,q,r⟩:=rx.lst
  have z:=Sy e r
  subst z
  exact⟨p,bs,rfl,q.toK,h _ H (Same.refl _) (.eE (.bl _))⟩
 ·exact h.elim
def iJ(c:Ty)(fa:EF):EF:=λρ=>(fa ρ).bind λp=>(dr p.2 p.1).bind λa=>.ok (eB (dH a c),p.2)
theorem Jk{t:Tx}(hK:t.K=aF K)(c:Ty){ta:TE}{fa:EF}(ha:SE t ta fa):SE t (jh (Ci K) (iR ta (iR (tC (.ty c.name)) lH))) (iJ c fa):=λW ρ σ H Q e h=>by
 refine ha W ρ σ H _ e (Rs.bH (Rs.aY h) λp h x H1 e1 s1 v1=>?_)
 obtain⟨a,k1,h⟩:=dG (Rs.aY h) (jd _ _)
 have r:=jj e1 e.wn v1.1 k1
 rw[hK]at r
 exact⟨x,a,c,rfl,r.rep.toK,h _ H1 e1 s1 (.low (.bl _))⟩
end
end L2
end
section
namespace L2
open PySem PySem.Spec PyProof.Rows
inductive Fl where
 |nx|rt (T:Tr) (fr:Bool)|bk|ct
abbrev SF:=En->Rs (Fl × En)
def je(W:Addr->Prop)(H:Hp)(W':Addr->Prop)(H':Hp):Prop:=∀b o,¬W b->H b=some o->¬W' b/\H' b=some o
theorem je.refl(W:Addr->Prop)(H:Hp):je W H W H:=λ_ _ n h=>⟨n,h⟩
theorem je.trans{W W1 W2:Addr->Prop}{H H1 H2:Hp}(a:je W H W1 H1)(b:je W1 H1 W2 H2):je W H W2 H2:=λc o n h=>by
 obtain⟨n1,h1⟩:=a c o n h
 exact b c o n1 h1
theorem bY.nxt{W:Addr->Prop}{H H':Hp}(s:bY W H H'):je W H W H':=λb o n h=>⟨n,s.keep b o n h⟩
theorem je.same{W W':Addr->Prop}{H H':Hp}(a:je W H W' H'):Same (bf W H) (bf W' H'):=λb o h=>by
 obtain⟨n,h⟩:=lN h
 obtain⟨n',h'⟩:=a b o n h
 rw[iu n']
 exact h'
def VR(t:Tx)(H':Hp)(v:V)(T:Tr):Bool->Prop
 |false=>Rep t.K (bf t.Z H') v T
 |true=>∃a xs ts,v=.ref a/\T=.lst ts/\t.H0 a=none/\H' a=some (.lst xs)/\aQ t.K (off a (bf t.Z H')) xs ts
noncomputable def mX(t:Tx)(W:Addr->Prop)(H:Hp)(D:Ends)(p:Fl × En):Prop:=match p.1 with
 |.nx=>∀W' σ' H',aR t W' p.2 σ' H'->je W H W' H'->D.nx σ' H'
 |.rt T fr=>∀v W' σ' H',aR t W' p.2 σ' H'->VR t H' v T fr->D.rt v H'
 |.bk=>∀W' σ' H',aR t W' p.2 σ' H'->je W H W' H'->D.bk σ' H'
 |.ct=>∀W' σ' H',aR t W' p.2 σ' H'->je W H W' H'->D.ct σ' H'
def SS(t:Tx)(ts:TS)(f:SF):Prop:=∀W ρ σ H D,aR t W ρ σ H->(f ρ).post t.EX (mX t W H D)->ts D σ H
theorem mX.back{t:Tx}{W W':Addr->Prop}{H H':Hp}{D:Ends}{p:Fl × En}(h:mX t W H D p)(n:je W H W' H'):mX t W' H' D p:=by
 obtain⟨fl,ρ⟩:=p
 cases fl with
 |nx=>exact λW2 σ2 H2 e m=>h W2 σ2 H2 e (n.trans m)
 |rt T fr=>exact h
 |bk=>exact λW2 σ2 H2 e m=>h W2 σ2 H2 e (n.trans m)
 |ct=>exact λW2 σ2 H2 e m=>h W2 σ2 H2 e (n.trans m)
section
variable {t:Tx}
def bx:SF:=λρ=>.ok (.nx,ρ)
theorem lQ:SS t Pg bx:=λW ρ σ H D e h=>h W σ H e (je.refl _ _)
def aC(f g:SF):SF:=λρ=>(f ρ).bind λp=>match p.1 with
 |.nx=>g p.2
 |fl=>.ok (fl,p.2)
theorem gF{ta tb:TS}{f g:SF}(h1:SS t ta f)(h2:SS t tb g):SS t (Ph ta tb) (aC f g):=λW ρ σ H D e h=>by
 refine h1 W ρ σ H _ e (Rs.bH (Rs.aY h) λp h=>?_)
 obtain⟨fl,ρ1⟩:=p
 cases fl with
 |nx=>exact λW1 σ1 H1 e1 n1=>h2 W1 ρ1 σ1 H1 D e1 (Rs.bH h λq h=>h.back n1)
 |rt T fr=>exact h
 |bk=>exact h
 |ct=>exact h
theorem get_set{α : Type}{l:List α}{i j:Nat}{a b : α}(h:(l.set i a)[j]?=some b):(j=i/\b=a/\i<l.length)\/(j≠i/\l[j]?=some b):=by
 by_cases e:i=j
 ·subst e
  rw[List.getElem?_set_self']at h
  cases q:l[i]? with
  |none=>rw[q]at h; cases h
  |some c =>
   rw[q]at h
   cases h
   exact .inl ⟨rfl,rfl,(List.getElem?_eq_some_iff.mp q).1⟩
 ·rw[List.getElem?_set_ne e]at h
  exact .inr ⟨Ne.symm e,h⟩
theorem wF{α : Type}{l:List α}{i:Nat}{a : α}(h:i<l.length):(l.set i a)[i]?=some a:=by
 rw[List.getElem?_set_self' ,List.getElem?_eq_getElem h]
 rfl
theorem aR.zN{W:Addr->Prop}{ρ : En}{σ : St}{H:Hp}{i:Nat}{v:V}{T:Tr}(e:aR t W ρ σ H)(r:Rep t.K (bf W H) v T):aR t W (ρ.set i (.sh T)) (σ.set i (some v)) H:=by
 have mu:∀j,Mu (ρ.set i (.sh T)) j->j≠i/\Mu ρ j:=λj h=>by
  obtain⟨ts,h|h⟩:=h <;> rcases get_set h with⟨rfl,z,_⟩|⟨ne,h⟩
  ·cases z
  ·exact⟨ne,ts,.inl h⟩
  ·cases z
  ·exact⟨ne,ts,.inr h⟩
 have iB:∀j us,(ρ.set i (.sh T))[j]?=some (.dp us)->j≠i/\ρ[j]?=some (.dp us):=λj us h=>by
  rcases get_set h with⟨rfl,z,_⟩|⟨ne,h⟩
  ·cases z
  ·exact⟨ne,h⟩
 obtain⟨F,e⟩:=e
 refine⟨F,by rw[List.length_set,List.length_set]; exact e.len,e.zw,e.z0,e.wl,e.f0,e.n0,λj u h=>?_,λj ts h=>?_,λj ts h=>?_,λj k a h1 h2 q1 q2=>?_,e.pn,λj a m q=>e.pd j a (mu j m).2 (by rw[List.getElem?_set_ne (Ne.symm (mu j m).1)]at q; exact q),
  λj us h=>?_,λj k us ws n h1 h2=>e.dd j k us ws n (iB j us h1).2 (iB k ws h2).2,λj k us c h1 m q=>e.dm j k us c (iB j us h1).2 (mu k m).2 (by rw[List.getElem?_set_ne (Ne.symm (mu k m).1)]at q; exact q),λj us h=>e.db j us (iB j us h).2,e.tab⟩
 ·rcases get_set h with⟨rfl,z,l⟩|⟨ne,h⟩
  ·cases z
   exact⟨v,wF (by rw[<-e.len]; exact l),r⟩
  ·obtain⟨w,h1,h2⟩:=e.sh j u h
   exact⟨w,by rw[List.getElem?_set_ne (Ne.symm ne)]; exact h1,h2⟩
 ·rcases get_set h with⟨rfl,z,l⟩|⟨ne,h⟩
  ·cases z
  ·obtain⟨a,xs,h1,h2⟩:=e.ow j ts h
   exact⟨a,xs,by rw[List.getElem?_set_ne (Ne.symm ne)]; exact h1,h2⟩
 ·rcases get_set h with⟨rfl,z,l⟩|⟨ne,h⟩
  ·cases z
  ·obtain⟨a,xs,h1,h2⟩:=e.rf j ts h
   exact⟨a,xs,by rw[List.getElem?_set_ne (Ne.symm ne)]; exact h1,h2⟩
 ·obtain⟨n1,m1⟩:=mu j h1
  obtain⟨n2,m2⟩:=mu k h2
  rw[List.getElem?_set_ne (Ne.symm n1)]at q1
  rw[List.getElem?_set_ne (Ne.symm n2)]at q2
  exact e.dis j k a m1 m2 q1 q2
 ·obtain⟨ne,h⟩:=iB j us h
  obtain⟨c,ys,h1,d⟩:=e.dp j us h
  exact⟨c,ys,by rw[List.getElem?_set_ne (Ne.symm ne)]; exact h1,d⟩
theorem aR.addr{W:Addr->Prop}{ρ : En}{σ : St}{H:Hp}{i:Nat}{a:Addr}(e:aR t W ρ σ H)(m:Mu ρ i)(q : σ[i]?=some (some (.ref a))):W a:=by
 obtain⟨ts,h|h⟩:=m
 ·obtain⟨b,xs,h1,h2,_⟩:=e.ow i ts h
  rw[q]at h1
  cases h1
  exact h2
 ·obtain⟨b,xs,h1,h2,_⟩:=e.rf i ts h
  rw[q]at h1
  cases h1
  exact h2
theorem aR.abj{W:Addr->Prop}{ρ : En}{σ : St}{H:Hp}{i:Nat}{a:Addr}{xs:List V}{ts:List Tr}(e0:aR t W ρ σ H)(nw:¬W a)(e:sG t W a ρ σ H)(h0:t.H0 a=none)(hB:t.B a=none)(ha:H a=some (.lst xs))(r:aQ t.K (off a (bf W H)) xs ts) :
  aR t (λb=>W b\/b=a) (ρ.set i (.ow ts)) (σ.set i (some (.ref a))) H:=by
 have mu:∀j,Mu (ρ.set i (.ow ts)) j->j=i\/(j≠i/\Mu ρ j):=λj h=>by
  obtain⟨ts,h|h⟩:=h <;> rcases get_set h with⟨rfl,z,_⟩|⟨ne,h⟩
  ·exact .inl rfl
  ·exact .inr ⟨ne,ts,.inl h⟩
  ·exact .inl rfl
  ·exact .inr ⟨ne,ts,.inr h⟩
 have m:Same (off a (bf W H)) (bf (λb=>W b\/b=a) H):=λb o q=>by
  obtain⟨ne,q⟩:=v7 q
  obtain⟨n,q⟩:=lN q
  rw[iu]
  ·exact q
  ·rintro(z|z)
   ·exact n z
   ·exact ne z
 have iB:∀j us,(ρ.set i (.ow ts))[j]?=some (.dp us)->j≠i/\ρ[j]?=some (.dp us):=λj us h=>by
  rcases get_set h with⟨rfl,z,_⟩|⟨ne,h⟩
  ·cases z
  ·exact⟨ne,h⟩
 obtain⟨F,e,na⟩:=e
 refine⟨F,by rw[List.length_set,List.length_set]; exact e.len,e.zw,e.z0,e.wl,e.f0,e.n0,λj u h=>?_,λj us h=>?_,λj us h=>?_,λj k c h1 h2 q1 q2=>?_,e.pn,λj c m q=>?_,
  λj us h=>?_,λj k us ws n h1 h2=>e.dd j k us ws n (iB j us h1).2 (iB k ws h2).2,λj k us c h1 m q=>?_,λj us h=>e.db j us (iB j us h).2,e.tab⟩
 ·rcases get_set h with⟨rfl,z,l⟩|⟨ne,h⟩
  ·cases z
  ·obtain⟨w,h1,h2⟩:=e.sh j u h
   exact⟨w,by rw[List.getElem?_set_ne (Ne.symm ne)]; exact h1,h2⟩
 ·rcases get_set h with⟨rfl,z,l⟩|⟨ne,h⟩
  ·cases z
   exact⟨a,xs,wF (by rw[<-e.len]; exact l),.inr rfl,h0,ha,r.mono m⟩
  ·obtain⟨c,ys,h1,h2⟩:=e.ow j us h
   exact⟨c,ys,by rw[List.getElem?_set_ne (Ne.symm ne)]; exact h1,h2⟩
 ·rcases get_set h with⟨rfl,z,l⟩|⟨ne,h⟩
  ·cases z
  ·obtain⟨c,ys,h1,h2⟩:=e.rf j us h
   exact⟨c,ys,by rw[List.getElem?_set_ne (Ne.symm ne)]; exact h1,h2⟩
 ·have old:∀j,j≠i->Mu ρ j->(σ.set i (some (.ref a)))[j]? ≠ some (some (.ref a)):=λj ne m q=>by
   rw[List.getElem?_set_ne (Ne.symm ne)]at q
   exact nw (e0.addr m q)
  have self:∀c,(σ.set i (some (V.ref a)))[i]?=some (some (.ref c))->c=a:=λc q=>by
   rcases get_set q with⟨_,z,_⟩|⟨ne,_⟩
   ·cases z; rfl
   ·exact absurd rfl ne
  rcases mu j h1 with rfl|⟨n1,m1⟩ <;> rcases mu k h2 with rfl|⟨n2,m2⟩
  ·rfl
  ·have:=self c q1
   subst this
   exact(old k n2 m2 q2).elim
  ·have:=self c q2
   subst this
   exact(old j n1 m1 q1).elim
  ·rw[List.getElem?_set_ne (Ne.symm n1)]at q1
   rw[List.getElem?_set_ne (Ne.symm n2)]at q2
   exact e.dis j k c m1 m2 q1 q2
 ·rcases mu j m with rfl|⟨n1,m1⟩
  ·rcases get_set q with⟨_,z,_⟩|⟨ne,_⟩
   ·cases z; exact hB
   ·exact absurd rfl ne
  ·rw[List.getElem?_set_ne (Ne.symm n1)]at q
   exact e.pd j c m1 q
 ·obtain⟨ne,h⟩:=iB j us h
  obtain⟨c,ys,h1,d⟩:=e.dp j us h
  exact⟨c,ys,by rw[List.getElem?_set_ne (Ne.symm ne)]; exact h1,d⟩
 ·obtain⟨nj,hj⟩:=iB j us h1
  rcases mu k m with rfl|⟨n2,m2⟩
  ·rcases get_set q with⟨_,z,_⟩|⟨nk,_⟩
   ·cases z
    exact na j us hj
   ·exact absurd rfl nk
  ·rw[List.getElem?_set_ne (Ne.symm n2)]at q
   exact e.dm j k us c hj m2 q
theorem aR.SJ{W:Addr->Prop}{ρ : En}{σ : St}{H:Hp}{a:Addr}(e:aR t W ρ σ H)(n:H a=none):t.B a=none:=by
 cases q:t.B a with
 |none=>rfl
 |some o=>rw[e.pn a o q]at n; cases n
abbrev GF:=Tr->En->Rs En
def SG(t:Tx)(g:TG)(f:GF)(js:List Nat):Prop:=∀W ρ σ H v T Q,aR t W ρ σ H->Rep t.K (bf W H) v T->(f T ρ).post (λ_=>False) (λρ'=>∀σ',aR t W ρ' σ' H->(∀k,k∉js -> σ'[k]?=σ[k]?)->Q σ' H)->g v σ H Q
def gN(i:Nat):GF:=λT ρ=>.ok (ρ.set i (.sh T))
theorem gG(i:Nat):SG t (fQ i) (gN i) [i]:=λW ρ σ H v T Q e r h=>h _ (e.zN r) λk n=>List.getElem?_set_ne (λz=>n (by rw[z]; exact List.mem_singleton.mpr rfl))
abbrev oG:=List Tr->En->Rs En
def CK(t:Tx)(g:o8)(f:oG)(js:List Nat):Prop:=∀W ρ σ H vs Ts Q,aR t W ρ σ H->aQ t.K (bf W H) vs Ts->(f Ts ρ).post (λ_=>False) (λρ'=>∀σ',aR t W ρ' σ' H->(∀k,k∉js -> σ'[k]?=σ[k]?)->Q σ' H)->g vs σ H Q
def jN:oG:=λTs ρ=>match Ts with
 | []=>.ok ρ
 |_=>.bad
def eV(f:GF)(g:oG):oG:=λTs ρ=>match Ts with
 |T::r=>(f T ρ).bind λρ'=>g r ρ'
 | []=>.bad
theorem SM:CK t G4 jN []:=λW ρ σ H vs Ts Q e r h=>by
 cases r with
 |nil=>exact⟨rfl,h σ e λ_ _=>rfl⟩
 |cons _ _=>exact h.elim
theorem zO{g:TG}{u:o8}{f:GF}{fs:oG}{js ks:List Nat}(h1:SG t g f js)(h2:CK t u fs ks):CK t (Bv g u) (eV f fs) (js++ks):=λW ρ σ H vs Ts Q e r h=>by
 cases r with
 |nil=>exact h.elim
 | @cons x T xs Ts r1 r2 =>
  refine⟨x,xs,rfl,h1 W ρ σ H x T _ e r1 (Rs.bH (Rs.aY h) λρ' h σ' e' n1=>?_)⟩
  refine h2 W ρ' σ' H xs Ts _ e' r2 (Rs.bH h λρ2 h σ2 e2 n2=>h σ2 e2 λk n=>?_)
  rw[List.mem_append,not_or]at n
  rw[n2 k n.2,n1 k n.1]
def gT(n:Nat)(f:oG):GF:=λT ρ=>match T with
 |.tup Ts=>if Ts.length=n then f Ts ρ else .bad
 |_=>.bad
theorem SN{K:FZ}(hK:t.K=aF K){n:Nat}{u:o8}{fs:oG}{js:List Nat}(h2:CK t u fs js):SG t (G5 K n u) (gT n fs) js:=λW ρ σ H v T Q e r h=>by
 cases T <;> try exact h.elim
 rename_i Ts
 dsimp only[gT]at h
 split at h
 ·rename_i c
  cases r with
  | @tup a xs _ q r =>
   have q':=(jK W H).vY q
   rw[hK]at q'
   exact⟨a,xs,rfl,q'.toK,by rw[r.length]; exact c,h2 W ρ σ H xs Ts Q e r h⟩
 ·exact h.elim
def aV(f:EF)(g:GF):SF:=λρ=>(f ρ).bind λp=>match p.1 with
 |.v T _=>(g T p.2).bind λρ'=>.ok (.nx,ρ')
 |.s _=>.bad
theorem lR{te:TE}{g:TG}{f:EF}{gf:GF}{js:List Nat}(h1:SE t te f)(h2:SG t g gf js)(ng:∀T ρ c,gf T ρ ≠ .ex c):SS t (rJ te g) (aV f gf):=λW ρ σ H D e h=>by
 refine h1 W ρ σ H _ e (Rs.bH (Rs.aY h) λp h v H1 e1 s1 v1=>?_)
 obtain⟨r,ρ1⟩:=p
 cases r with
 |s i=>exact h.elim
 |v T fr=>exact h2 W ρ1 σ H1 v T _ e1 (v1.1.rep e.wn) (Rs.bH (jW (Rs.aY h) (ng T ρ1)) λρ' h σ' e' _=>h W σ' H1 e' s1.nxt)
def uG(i:Nat)(f:EF):SF:=λρ=>(f ρ).bind λp=>match p.1 with
 |.v (.lst ts) true=>.ok (.nx,p.2.set i (.ow ts))
 |_=>.bad
theorem abk{te:TE}{f:EF}(i:Nat)(h1:SE t te f):SS t (rJ te (fQ i)) (uG i f):=λW ρ σ H D e h=>by
 refine h1 W ρ σ H _ e (Rs.bH (Rs.aY h) λp h v H1 e1 s1 v1=>?_)
 obtain⟨r,ρ1⟩:=p
 dsimp only at h
 split at h
 ·rename_i ts
  obtain⟨⟨a,xs,us,rfl,z,n,q,rr⟩,he⟩:=v1
  cases z
  have nw:¬W a:=λw=>e.wn a w n
  refine h _ _ H1 (e1.abj nw (he _ a rfl rfl) (e.n0 a n) (e.SJ n) q rr) λb o nb hb=>⟨?_,s1.keep b o nb hb⟩
  rintro(z|rfl)
  ·exact nb z
  ·rw[n]at hb; cases hb
 ·exact h.elim
def uH(f:EF):SF:=λρ=>(f ρ).bind λp=>.ok (.nx,p.2)
theorem Jl{te:TE}{f:EF}(h1:SE t te f):SS t (GZ te) (uH f):=λW ρ σ H D e h =>
 h1 W ρ σ H _ e (Rs.bH (Rs.aY h) λp h v H1 e1 s1 v1=>h W σ H1 e1 s1.nxt)
def aG(f:EF):SF:=λρ=>(f ρ).bind λp=>match p.1 with
 |.v T fr=>.ok (.rt T fr,p.2)
 |.s i=>match p.2[i]? with
  |some (.ow ts)=>.ok (.rt (.lst ts) true,p.2)
  |_=>.bad
theorem CN{W:Addr->Prop}{ρ : En}{σ : St}{H:Hp}(e:aR t W ρ σ H):Same (bf W H) (bf t.Z H):=pA (λb _ _ z=>e.zw b z) λ_ _ _ h=>h
theorem j7{te:TE}{f:EF}(h1:SE t te f):SS t (Pk te) (aG f):=λW ρ σ H D e h=>by
 refine h1 W ρ σ H _ e (Rs.bH (Rs.aY h) λp h v H1 e1 s1 v1=>?_)
 obtain⟨r,ρ1⟩:=p
 cases r with
 |v T fr =>
  refine h v W σ H1 e1 ?_
  cases fr with
  |false=>exact Rep.mono (CN e1) v1.1
  |true =>
   obtain⟨a,xs,us,rfl,z,n,q,rr⟩:=v1.1
   refine⟨a,xs,us,rfl,z,e.n0 a n,q,rr.mono λb o q=>?_⟩
   obtain⟨ne,q⟩:=v7 q
   rw[off_ne ne]
   exact CN e1 b o q
 |s i =>
  dsimp only at h
  split at h
  ·rename_i ts q
   obtain⟨a,xs,h1,h2,h3,h4,h5⟩:=e1.ow i ts q
   have ev : σ[i]?=some (some v):=v1.1
   rw[ev]at h1
   cases h1
   refine h _ W σ H1 e1 ⟨a,xs,ts,rfl,rfl,h3,h4,h5.mono λb o q=>?_⟩
   have ne:b≠a:=λz=>by subst z; rw[Cv h2]at q; cases q
   rw[off_ne ne]
   exact CN e1 b o q
  ·exact h.elim
def bw(c:BF)(f g:SF):SF:=λρ=>(c ρ).bind λp=>if p.1=true then f p.2 else g p.2
theorem lU{tc:TT}{ta tb:TS}{c:BF}{f g:SF}(hc:ST t tc c)(ha:SS t ta f)(hb:SS t tb g):SS t (Pn tc ta tb) (bw c f g):=λW ρ σ H D e h=>by
 refine hc W ρ σ H _ e (Rs.bH (Rs.aY h) λp h H1 e1 s1=>?_)
 split at h
 ·rename_i d
  refine if_pos d▸ha W p.2 σ H1 D e1 (Rs.bH h λq h=>h.back s1.nxt)
 ·rename_i d
  refine if_neg d▸hb W p.2 σ H1 D e1 (Rs.bH h λq h=>h.back s1.nxt)
def cV(i:Nat)(ρ : En):En:=match ρ[i]? with
 |some (.ow ts)=>ρ.set i (.sh (.lst ts))
 |_=>ρ
end
end L2
end
section
namespace L2
open PySem PySem.Spec PyProof.Rows
section
variable {t:Tx}
theorem aR.cV{W:Addr->Prop}{ρ : En}{σ : St}{H:Hp}(e:aR t W ρ σ H)(i:Nat):∃W',aR t W' (L2.cV i ρ) σ H/\je W H W' H:=by
 unfold L2.cV
 split
 ·rename_i ts q
  obtain⟨a,xs,h1,h2,h3,h4,h5⟩:=e.ow i ts q
  have m:Same (bf W H) (bf (λb=>W b/\b≠a) H):=pA (λ_ _ _ z=>z.1) λ_ _ _ h=>h
  have mi:Mu ρ i:=⟨ts,.inl q⟩
  have mu:∀j,Mu (ρ.set i (.sh (.lst ts))) j->j≠i/\Mu ρ j:=λj h=>by
   obtain⟨us,h|h⟩:=h <;> rcases get_set h with⟨rfl,z,_⟩|⟨ne,h⟩
   ·cases z
   ·exact⟨ne,us,.inl h⟩
   ·cases z
   ·exact⟨ne,us,.inr h⟩
  have SQ:∀j c,j≠i->Mu ρ j -> σ[j]?=some (some (.ref c))->c≠a:=λj c ne mj qj z=>by
   subst z
   exact ne (e.dis j i c mj mi qj h1)
  have iB:∀(j:Nat) (us:List Tr),(ρ.set i (.sh (.lst ts)))[j]?=some (Sl.dp us) -> ρ[j]?=some (Sl.dp us):=λj us h=>by
   rcases get_set h with⟨rfl,z,_⟩|⟨ne,h⟩
   ·cases z
   ·exact h
  obtain⟨F,e⟩:=e
  refine⟨λb=>W b/\b≠a,⟨F,by rw[List.length_set]; exact e.len,λb z=>⟨e.zw b z,λy=>?_⟩,e.z0,λb w=>e.wl b w.1,e.f0,e.n0,λj u h=>?_,λj us h=>?_,λj us h=>?_,λj k c m1 m2 q1 q2=>e.dis j k c (mu j m1).2 (mu k m2).2 q1 q2,e.pn,λj c m q=>e.pd j c (mu j m).2 q,λj us h=>?_,λj k us ws n h1 h2=>e.dd j k us ws n (iB j us h1) (iB k ws h2),λj k us c h1 m q=>e.dm j k us c (iB j us h1) (mu k m).2 q,λj us h=>e.db j us (iB j us h),e.tab.cut (D:=λb=>b=a) (λb z=>⟨xs,by rw[z]; exact h4⟩)⟩,λb o n h=>⟨λz=>n z.1,h⟩⟩
  ·subst y
   exact e.z0 b z h3
  ·rcases get_set h with⟨rfl,z,l⟩|⟨ne,h⟩
   ·cases z
    refine⟨.ref a,h1,.lst (cJ.of ?_) (h5.mono m)⟩
    rw[iu λz=>z.2 rfl]
    exact h4
   ·obtain⟨w,q1,q2⟩:=e.sh j u h
    exact⟨w,q1,q2.mono m⟩
  ·rcases get_set h with⟨rfl,z,l⟩|⟨ne,h⟩
   ·cases z
   ·obtain⟨c,ys,q1,q2,q3,q4,q5⟩:=e.ow j us h
    exact⟨c,ys,q1,⟨q2,SQ j c ne ⟨us,.inl h⟩ q1⟩,q3,q4,q5.mono m⟩
  ·rcases get_set h with⟨rfl,z,l⟩|⟨ne,h⟩
   ·cases z
   ·obtain⟨c,ys,q1,q2,q3,q4,q5⟩:=e.rf j us h
    exact⟨c,ys,q1,⟨q2,SQ j c ne ⟨us,.inr h⟩ q1⟩,q3,q4,q5.mono m⟩
  ·obtain⟨c,ys,q1,d⟩:=e.dp j us (iB j us h)
   exact⟨c,ys,q1,d.move rfl rfl m (λb hb=>⟨by obtain⟨_,_,_,ww,_⟩:=d; exact(ww b hb).1,λz=>by subst z; exact e.dm j i us b (iB j us h) mi h1 hb⟩) λ_ _ _ q=>q⟩
 ·exact⟨W,e,je.refl _ _⟩
def CP(i:Nat)(f:SF):SF:=λρ=>f (cV i ρ)
theorem abl{ts:TS}{f:SF}(i:Nat)(h:SS t ts f):SS t ts (CP i f):=λW ρ σ H D e q=>by
 obtain⟨W',e',n⟩:=e.cV i
 exact h W' _ σ H D e' (Rs.bH q λp q=>q.back n)
def uJ(c:BF)(b:SF):Nat->SF
 | 0=>λ_=>.bad
 | n + 1=>λρ => (c ρ).bind λp=>if p.1=true then (b p.2).bind λq=>(match q.1 with
  |.nx=>uJ c b n q.2
  |.ct=>uJ c b n q.2
  |.bk=>.ok (.nx,q.2)
  |.rt T fr=>.ok (.rt T fr,q.2))else .ok (.nx,p.2)
def wG(fu:En->Nat)(c:BF)(b:SF):SF:=λρ=>uJ c b (fu ρ) ρ
theorem abm{tc:TT}{tb:TS}{c:BF}{b:SF}(fu:En->Nat)(hc:ST t tc c)(hb:SS t tb b):SS t (PJ tc tb) (wG fu c b):=λW ρ σ H D e h=>by
 refine⟨λm σ' H'=>∃ρ' W',aR t W' ρ' σ' H'/\(uJ c b m ρ').post t.EX (mX t W' H' D),⟨fu ρ,ρ,W,e,h⟩,?_⟩
 rintro m σ1 H1 ⟨ρ1,W1,e1,h1⟩
 cases m with
 |zero=>exact h1.elim
 |succ n =>
  refine hc W1 ρ1 σ1 H1 _ e1 (Rs.bH (Rs.aY h1) λp h H2 e2 s2=>?_)
  split at h
  ·rename_i d
   rw[if_pos d]
   refine⟨λσ' H'=>∃ρ' W',aR t W' ρ' σ' H'/\(uJ c b n ρ').post t.EX (mX t W' H' D),λσ' H' q=>⟨n,Nat.lt_succ_self n,q⟩,?_⟩
   refine hb W1 p.2 σ1 H2 _ e2 (Rs.bH (Rs.aY h) λq h=>?_)
   obtain⟨fl,ρ3⟩:=q
   cases fl with
   |nx=>exact λW3 σ3 H3 e3 n3=>⟨ρ3,W3,e3,Rs.bH h λr h=>h.back (s2.nxt.trans n3)⟩
   |ct=>exact λW3 σ3 H3 e3 n3=>⟨ρ3,W3,e3,Rs.bH h λr h=>h.back (s2.nxt.trans n3)⟩
   |bk=>exact λW3 σ3 H3 e3 n3=>h W3 σ3 H3 e3 (s2.nxt.trans n3)
   |rt T fr=>exact h
  ·rename_i d
   rw[if_neg d]
   exact h W1 σ1 H2 e2 s2.nxt
def uK(K:FZ)(W:Addr->Prop)(H:Hp)(J:It)(us:List Tr):Prop:=∀W' H',Same (bf W H) (bf W' H')->(∀b,W' b->Lt H' b)->∀i,(i=us.length->J.stop i H')/\∀u,us[i]?=some u->J.go i H'/\∀x ji,J.vN i H' x ji->Same H' ji/\Rep K (bf W' ji) x u
abbrev IF:=En->Rs (List Tr × En)
def SI(t:Tx)(wi:TI)(f:IF):Prop:=∀W ρ σ H R,aR t W ρ σ H->(f ρ).post t.EX (λp=>∀J H',aR t W p.2 σ H'->bY W H H'->uK t.K W H' J p.1->R J H')->wi σ H R
def iV(g:GF)(b:SF):List Tr->SF
 | []=>λρ=>.ok (.nx,ρ)
 | u :: us=>λρ => (g u ρ).bind λρ1=>(b ρ1).bind λq=>(match q.1 with
  |.nx=>iV g b us q.2
  |.ct=>iV g b us q.2
  |.bk=>.ok (.nx,q.2)
  |.rt T fr=>.ok (.rt T fr,q.2))
def iw(fi:IF)(g:GF)(b:SF):SF:=λρ=>(fi ρ).bind λp=>iV g b p.1 p.2
theorem S5{wi:TI}{g:TG}{tb:TS}{fi:IF}{gf:GF}{b:SF}{js:List Nat}(hi:SI t wi fi)(hg:SG t g gf js)(ng:∀T ρ c,gf T ρ ≠ .ex c)(hb:SS t tb b):SS t (Qa wi g tb) (iw fi gf b):=λW ρ σ H D e h=>by
 refine hi W ρ σ H _ e (Rs.bH (Rs.aY h) λp h J H1 e1 s1 it=>?_)
 obtain⟨us,ρ1⟩:=p
 dsimp only at h it e1
 refine⟨λi m σ' H'=>m=us.length-i/\i<=us.length/\∃ρ' W',aR t W' ρ' σ' H'/\je W H1 W' H'/\(iV gf b (us.drop i) ρ').post t.EX (mX t W' H' D),⟨us.length,by simp,Nat.zero_le _,ρ1,W,e1,je.refl _ _,by rw[List.drop_zero]; exact Rs.bH h λr h=>h.back s1.nxt⟩,?_⟩
 rintro i m σ2 H2 ⟨rfl,hi,ρ2,W2,e2,n2,h2⟩
 have q:=it W2 H2 n2.same e2.wl i
 by_cases hlt:i<us.length
 ·rw[List.drop_eq_getElem_cons hlt]at h2
  obtain⟨go,y⟩:=q.2 us[i] (by simp[hlt])
  refine .inr ⟨go,λσ' H'=>∃ρ' W',aR t W' ρ' σ' H'/\je W H1 W' H'/\(iV gf b (us.drop (i+1)) ρ').post t.EX (mX t W' H' D),λσ' H' z=>⟨us.length-(i+1),by omega,rfl,hlt,z⟩,λx H3 yl=>?_⟩
  obtain⟨s3,r3⟩:=y x H3 yl
  have e3:=e2.grow s3
  have n3:je W H1 W2 H3:=n2.trans (bY.of s3).nxt
  refine hg W2 ρ2 σ2 H3 x us[i] _ e3 r3 (Rs.bH (jW (Rs.aY h2) (ng _ _)) λρ4 h σ4 e4 _=>?_)
  refine hb W2 ρ4 σ4 H3 _ e4 (Rs.bH (Rs.aY h) λr h=>?_)
  obtain⟨fl,ρ5⟩:=r
  cases fl with
  |nx=>exact λW5 σ5 H5 e5 n5=>⟨ρ5,W5,e5,n3.trans n5,Rs.bH h λr h=>h.back ((bY.of s3).nxt.trans n5)⟩
  |ct=>exact λW5 σ5 H5 e5 n5=>⟨ρ5,W5,e5,n3.trans n5,Rs.bH h λr h=>h.back ((bY.of s3).nxt.trans n5)⟩
  |bk=>exact λW5 σ5 H5 e5 n5=>h W5 σ5 H5 e5 ((bY.of s3).nxt.trans n5)
  |rt T fr=>exact h
 ·have z:i=us.length:=by omega
  subst z
  rw[List.drop_length]at h2
  exact .inl ⟨q.1 rfl,h2 W2 σ2 H2 e2 (je.refl _ _)⟩
def Jm(K:FZ)(tl:TE):TI:=λσ H R=>PL K tl σ H R\/PN K tl σ H R
theorem jE{X:Cx}{tg l:Expr}{tl:TE}(hl:PE X l tl):PI X tg l (Jm X.K tl):=λpins s σ H R I h=>by
 rcases h with h|h
 ·exact Yq hl pins s σ H R I h
 ·exact Yr hl pins s σ H R I h
def dW:Rv->Rs (List Tr × Bool)
 |.v (.lst ts) _=>.ok (ts,true)
 |.v (.tup ts) _=>.ok (ts,false)
 |_=>.bad
def cQ(f:EF):IF:=λρ=>(f ρ).bind λp=>(dW p.1).bind λz=>.ok (z.1,p.2)
theorem abn{K:FZ}{W:Addr->Prop}{H:Hp}{a:Addr}{xs:List V}{us:List Tr}(q:cJ (aF K) (bf W H) a xs)(r:aQ (aF K) (bf W H) xs us):uK (aF K) W H (G7 K a) us:=λW' H' m hw i=>by
 have q':cJ K H' a xs:=((jK W' H').seq (m.seq q)).toK
 refine⟨λz=>⟨xs,q',by rw[r.length]; omega⟩,λu hu=>?_⟩
 obtain⟨x,hx,rx⟩:=r.uz hu
 refine⟨⟨xs,x,q',hx⟩,λy ji yl=>?_⟩
 obtain⟨rfl,z⟩:=yl
 have:=z xs q'
 rw[hx]at this
 cases this
 exact⟨Same.refl _,rx.mono m⟩
theorem abo{K:FZ}{W:Addr->Prop}{H:Hp}{a:Addr}{xs:List V}{us:List Tr}(q:dZ (aF K) (bf W H) a xs)(r:aQ (aF K) (bf W H) xs us):uK (aF K) W H (G8 K a) us:=λW' H' m hw i=>by
 have q':dZ K H' a xs:=((jK W' H').vY (m.vY q)).toK
 refine⟨λz=>⟨xs,q',by rw[r.length]; omega⟩,λu hu=>?_⟩
 obtain⟨x,hx,rx⟩:=r.uz hu
 refine⟨⟨xs,x,q',hx⟩,λy ji yl=>?_⟩
 obtain⟨rfl,z⟩:=yl
 have:=z xs q'
 rw[hx]at this
 cases this
 exact⟨Same.refl _,rx.mono m⟩
theorem qH{K:FZ}(hK:t.K=aF K){tl:TE}{f:EF}(h1:SE t tl f):SI t (Jm K tl) (cQ f):=λW ρ σ H R e h=>by
 have h:=Rs.aY h
 have key:∀b:Bool,(f ρ).post t.EX (λp=>∃us,dW p.1=.ok (us,b)/\∀J H',aR t W p.2 σ H'->bY W H H'->uK t.K W H' J us->R J H')->Jm K tl σ H R:=λb h=>by
  cases b with
  |true =>
   refine .inl (h1 W ρ σ H _ e (Rs.bH h λp h v H1 e1 s1 v1=>?_))
   obtain⟨us,q,h⟩:=h
   obtain⟨r,ρ1⟩:=p
   cases r with
   |s i=>cases q
   |v T fr =>
    cases T <;> cases q
    have rr:=v1.1.rep e.wn
    cases rr with
    | @lst a xs _ q r =>
     refine⟨a,rfl,⟨xs,?_⟩,h _ H1 e1 s1 ?_⟩
     ·rw[hK]at q
      exact((jK _ _).seq q).toK
     ·rw[hK]at q r ⊢
      exact abn q r
  |false =>
   refine .inr (h1 W ρ σ H _ e (Rs.bH h λp h v H1 e1 s1 v1=>?_))
   obtain⟨us,q,h⟩:=h
   obtain⟨r,ρ1⟩:=p
   cases r with
   |s i=>cases q
   |v T fr =>
    cases T <;> cases q
    have rr:=v1.1.rep e.wn
    cases rr with
    | @tup a xs _ q r =>
     refine⟨a,rfl,⟨xs,?_⟩,h _ H1 e1 s1 ?_⟩
     ·rw[hK]at q
      exact((jK _ _).vY q).toK
     ·rw[hK]at q r ⊢
      exact abo q r
 cases k:f ρ with
 |bad=>rw[k]at h; exact h.elim
 |ex c =>
  refine key true ?_
  rw[k]at h ⊢
  exact h
 |ok p =>
  rw[k]at h
  have h:((dW p.1).bind _).post _ _:=h
  cases k2:dW p.1 with
  |bad=>rw[k2]at h; exact h.elim
  |ex c =>
   exfalso
   revert k2
   unfold dW
   split <;> (intro z; cases z)
  |ok z =>
   rw[k2]at h
   refine key z.2 ?_
   rw[k]
   exact⟨z.1,k2,h⟩
def upTo(lo:Int):Nat->List Tr
 | 0=>[]
 |n+1=>.int lo::upTo (lo+1) n
theorem qI(lo:Int):∀n,(upTo lo n).length=n:=λn=>by
 induction n generalizing lo with
 |zero=>rfl
 |succ n ih=>rw[upTo,List.length_cons,ih]
theorem abp{lo:Int}{n i:Nat}{u:Tr}(h:(upTo lo n)[i]?=some u):i<n/\u=.int (lo+i):=by
 induction n generalizing lo i with
 |zero=>simp[upTo]at h
 |succ n ih =>
  rw[upTo]at h
  cases i with
  |zero =>
   simp at h
   subst h
   exact⟨Nat.zero_lt_succ _,by simp⟩
  |succ i =>
   obtain⟨h1,h2⟩:=ih (lo:=lo+1) (i:=i) (by simpa using h)
   refine⟨Nat.succ_lt_succ h1,h2.trans ?_⟩
   congr 1
   omega
theorem S6{K:FZ}{W:Addr->Prop}{H:Hp}(lo:Int)(n:Nat):uK K W H (yO lo n) (upTo lo n):=λW' H' m hw i=>by
 refine⟨λz=>?_,λu hu=>?_⟩
 ·rw[qI]at z
  exact Nat.le_of_eq z.symm
 ·obtain⟨h1,rfl⟩:=abp hu
  refine⟨h1,λx ji yl=>?_⟩
  obtain⟨rfl,rfl⟩:=yl
  exact⟨Same.refl _,.int _⟩
def okR(i:Int):Bool:=decide (-1000000<=i)&&decide (i<=1000000)
def jk(fa:AF):IF:=λρ=>(fa ρ).bind λp=>(drs p.2 p.1).bind λas=>match as with
 | [.int j]=>if okR j=true then .ok (upTo 0 j.toNat,p.2)else .bad
 |_=>.bad
theorem abq{ta:TA}{fa:AF}(ha:SA t ta fa):SI t (G9 ta) (jk fa):=λW ρ σ H R e h=>by
 refine ha W ρ σ H _ e (Rs.bH (Rs.aY h) λp h vs H1 e1 s1 v1=>?_)
 obtain⟨as,k1,h⟩:=dG (Rs.aY h) (uD _ _)
 have r:=wu e1 e.wn v1 k1
 split at h
 ·rename_i j
  split at h
  ·rename_i c
   unfold okR at c
   rw[Bool.and_eq_true]at c
   have c1:=of_decide_eq_true c.1
   have c2:=of_decide_eq_true c.2
   cases r with
   |cons h1 r1 =>
    cases r1
    rw[h1.int]
    exact⟨j,rfl,by omega,by omega,h _ H1 e1 s1 (S6 0 _)⟩
  ·exact h.elim
 ·exact h.elim
def wH(fa:AF):IF:=λρ=>(fa ρ).bind λp=>(drs p.2 p.1).bind λas=>match as with
 | [.int i,.int j]=>if okR i=true/\okR j=true then .ok (upTo i (j-i).toNat,p.2)else .bad
 |_=>.bad
theorem abr{ta:TA}{fa:AF}(ha:SA t ta fa):SI t (Hf ta) (wH fa):=λW ρ σ H R e h=>by
 refine ha W ρ σ H _ e (Rs.bH (Rs.aY h) λp h vs H1 e1 s1 v1=>?_)
 obtain⟨as,k1,h⟩:=dG (Rs.aY h) (uD _ _)
 have r:=wu e1 e.wn v1 k1
 split at h
 ·rename_i i j
  split at h
  ·rename_i c
   unfold okR at c
   rw[Bool.and_eq_true,Bool.and_eq_true]at c
   have c1:=of_decide_eq_true c.1.1
   have c2:=of_decide_eq_true c.1.2
   have c3:=of_decide_eq_true c.2.1
   have c4:=of_decide_eq_true c.2.2
   cases r with
   |cons h1 r1 =>
    cases r1 with
    |cons h2 r2 =>
     cases r2
     rw[h1.int,h2.int]
     exact⟨i,j,rfl,⟨by omega,by omega,by omega,by omega⟩,h _ H1 e1 s1 (S6 i _)⟩
  ·exact h.elim
 ·exact h.elim
def con(ρ : En)(i:Nat):Rs (List Tr):=match ρ[i]? with
 |some (.ow ts)=>.ok ts
 |some (.rf ts)=>.ok ts
 |_=>.bad
theorem Jo(ρ : En)(i:Nat)(c:Str):con ρ i ≠ .ex c:=by
 unfold con
 split <;> (intro z; cases z)
def bN(i:Nat)(us:List Tr)(ρ : En):En:=match ρ[i]? with
 |some (.ow _)=>ρ.set i (.ow us)
 |some (.rf _)=>ρ.set i (.rf us)
 |_=>ρ
theorem aR.con{W:Addr->Prop}{ρ : En}{σ : St}{H:Hp}{i:Nat}{ts:List Tr}(e:aR t W ρ σ H)(q:con ρ i=.ok ts):Mu ρ i/\∃a xs,σ[i]?=some (some (.ref a))/\W a/\H a=some (.lst xs)/\aQ t.K (bf W H) xs ts/\(∀o,t.H0 a=some o->t.R a):=by
 unfold L2.con at q
 split at q
 ·rename_i us h
  cases q
  obtain⟨a,xs,h1,h2,h3,h4,h5⟩:=e.ow i ts h
  exact⟨⟨ts,.inl h⟩,a,xs,h1,h2,h4,h5,λo z=>by rw[h3]at z; cases z⟩
 ·rename_i us h
  cases q
  obtain⟨a,xs,h1,h2,h3,h4,h5⟩:=e.rf i ts h
  exact⟨⟨ts,.inr h⟩,a,xs,h1,h2,h4,h5,λo z=>h3⟩
 ·cases q
theorem wI{ρ : En}{i j:Nat}{us:List Tr}(h:Mu (bN i us ρ) j):Mu ρ j:=by
 unfold bN at h
 split at h
 ·rename_i ws q
  obtain⟨ts,h|h⟩:=h <;> rcases get_set h with⟨rfl,z,_⟩|⟨ne,h⟩
  ·exact⟨_,.inl q⟩
  ·exact⟨_,.inl h⟩
  ·exact⟨_,.inl q⟩
  ·exact⟨_,.inr h⟩
 ·rename_i ws q
  obtain⟨ts,h|h⟩:=h <;> rcases get_set h with⟨rfl,z,_⟩|⟨ne,h⟩
  ·exact⟨_,.inr q⟩
  ·exact⟨_,.inl h⟩
  ·exact⟨_,.inr q⟩
  ·exact⟨_,.inr h⟩
 ·exact h
theorem Jp{ρ : En}{i:Nat}{us:List Tr}:(bN i us ρ).length = ρ.length:=by
 unfold bN
 split
 ·rw[List.length_set]
 ·rw[List.length_set]
 ·rfl
theorem uL{ρ : En}{i j:Nat}{us:List Tr}{s:Sl}(h:(bN i us ρ)[j]?=some s):(j≠i/\ρ[j]?=some s)\/(j=i/\((∃ts,ρ[i]?=some (.ow ts)/\s=.ow us)\/(∃ts,ρ[i]?=some (.rf ts)/\s=.rf us)\/(¬Mu ρ i/\ρ[i]?=some s))):=by
 unfold bN at h
 split at h
 ·rename_i ws q
  rcases get_set h with⟨rfl,z,_⟩|⟨ne,h⟩
  ·exact .inr ⟨rfl,.inl ⟨ws,q,z⟩⟩
  ·exact .inl ⟨ne,h⟩
 ·rename_i ws q
  rcases get_set h with⟨rfl,z,_⟩|⟨ne,h⟩
  ·exact .inr ⟨rfl,.inr (.inl ⟨ws,q,z⟩)⟩
  ·exact .inl ⟨ne,h⟩
 ·rename_i n1 n2
  by_cases e:j=i
  ·subst e
   refine .inr ⟨rfl,.inr (.inr ⟨?_,h⟩)⟩
   rintro⟨ts,z|z⟩
   ·exact n1 ts z
   ·exact n2 ts z
  ·exact .inl ⟨e,h⟩
theorem sO{ρ : En}{i j:Nat}{us ws:List Tr}(h:(bN i us ρ)[j]?=some (.dp ws)) : ρ[j]?=some (.dp ws):=by
 rcases uL h with⟨_,h⟩|⟨rfl,⟨_,_,z⟩|⟨_,_,z⟩|⟨_,h⟩⟩
 ·exact h
 ·cases z
 ·cases z
 ·exact h
theorem DR.lst{K:FZ}{G H:Hp}:∀{xs:List V} {ts:List Tr} {bs:List Addr},DR K G H xs ts bs->∀b∈bs,∃ys,H b=some (.lst ys)
 |_,_,_,.nil,_,h=>by cases h
 |_,_,_,.cl _ _ r,b,h=>DR.lst r b h
 |_,_,_,.rw q _ r,b,h=>by
  rcases List.mem_cons.mp h with rfl|h
  ·exact⟨_,q⟩
  ·exact DR.lst r b h
theorem sE.lst{t:Tx}{W:Addr->Prop}{H:Hp}{a:Addr}{xs:List V}{ts:List Tr}{fp:List Addr}(d:sE t W H a xs ts fp):∀b∈fp,∃ys,H b=some (.lst ys):=λb hb=>by
 obtain⟨bs,e,_,_,ha,r⟩:=d
 rw[e]at hb
 rcases List.mem_cons.mp hb with rfl|hb
 ·exact⟨_,ha⟩
 ·exact r.lst b hb
theorem sE.nt{t:Tx}{K:FZ}{W:Addr->Prop}{H:Hp}{a:Addr}{xs:List V}{ts:List Tr}{fp:List Addr}(d:sE t W H a xs ts fp)(tb:fU K H){b:Addr}(z:Tb K b)(hb:b∈fp):False:=by
 obtain⟨ys,e⟩:=d.lst b hb
 exact tb.ne z e rfl
theorem aR.S7{W:Addr->Prop}{ρ : En}{σ : St}{H:Hp}{i:Nat}{a:Addr}(e:aR t W ρ σ H)(m:Mu ρ i)(q : σ[i]?=some (some (.ref a))):∃xs,H a=some (.lst xs):=by
 obtain⟨ts,h|h⟩:=m
 ·obtain⟨b,xs,h1,_,_,h4,_⟩:=e.ow i ts h
  rw[q]at h1
  cases h1
  exact⟨xs,h4⟩
 ·obtain⟨b,xs,h1,_,_,h4,_⟩:=e.rf i ts h
  rw[q]at h1
  cases h1
  exact⟨xs,h4⟩
theorem EOF.move{W W':Addr->Prop}{ρ : En}{σ : St}{H H':Hp}{i:Nat}{a:Addr}{xs:List V}{us:List Tr}{F:Nat->List Addr}(e:EOF t W ρ σ H F)(mi:Mu ρ i)(hi : σ[i]?=some (some (.ref a)))(m:Same (bf W H) (bf W' H'))(sub:∀b,W b->W' b)(wl:∀b,W' b->Lt H' b)
  (tb:fU t.K H') (fr:∀b o,H b=some o->b≠a->¬Tb t.K b->H' b=some o) (dom:∀b,H' b=none->H b=none) (h0:∀o,t.H0 a=some o->t.R a) (ha:H' a=some (.lst xs)) (r:aQ t.K (bf W' H') xs us):EOF t W' (bN i us ρ) σ H' F:=by
 have ne:∀j c,j≠i->Mu ρ j -> σ[j]?=some (some (.ref c))->c≠a:=λj c n mj q z=>by
  subst z
  exact n (e.dis j i c mj mi q hi)
 have nt:∀{c:Addr} {ys:List V},H c=some (.lst ys)->¬Tb t.K c:=λq z=>e.tab.ok.ne z q rfl
 refine⟨by rw[Jp]; exact e.len,λb z=>sub b (e.zw b z),e.z0,wl,λb o h n=>?_,λb h=>e.n0 b (dom b h),λj u h=>?_,λj ts h=>?_,λj ts h=>?_,λj k c h1 h2=>e.dis j k c (wI h1) (wI h2),λb o h=>fr b o (e.pn b o h) (λz=>by subst z; rw[e.pd i b mi hi]at h; cases h) (λz=>by rw[e.tab.B b z]at h; cases h),λj c m q=>e.pd j c (wI m) q,λj ws h=>?_,λj k ws zs n h1 h2=>e.dd j k ws zs n (sO h1) (sO h2),λj k ws c h1 m q=>e.dm j k ws c (sO h1) (wI m) q,λj ws h=>e.db j ws (sO h),⟨tb,λb z=>sub b (e.tab.w b z),e.tab.r,e.tab.B⟩⟩
 ·refine fr b o (e.f0 b o h n) (λz=>?_) λz=>n (e.tab.r b z)
  subst z
  exact n (h0 o h)
 ·rcases uL h with⟨n,h⟩|⟨rfl,⟨ts,q,z⟩|⟨ts,q,z⟩|⟨nm,h⟩⟩
  ·obtain⟨w,h1,h2⟩:=e.sh j u h
   exact⟨w,h1,h2.mono m⟩
  ·cases z
  ·cases z
  ·exact(nm mi).elim
 ·rcases uL h with⟨n,h⟩|⟨rfl,⟨ts',q,z⟩|⟨ts',q,z⟩|⟨nm,h⟩⟩
  ·obtain⟨c,ys,h1,h2,h3,h4,h5⟩:=e.ow j ts h
   exact⟨c,ys,h1,sub c h2,h3,fr c _ h4 (ne j c n ⟨ts,.inl h⟩ h1) (nt h4),h5.mono m⟩
  ·cases z
   obtain⟨c,ys,h1,h2,h3,h4,h5⟩:=e.ow j ts' q
   rw[hi]at h1
   cases h1
   exact⟨a,xs,hi,sub a h2,h3,ha,r⟩
  ·cases z
  ·exact(nm mi).elim
 ·rcases uL h with⟨n,h⟩|⟨rfl,⟨ts',q,z⟩|⟨ts',q,z⟩|⟨nm,h⟩⟩
  ·obtain⟨c,ys,h1,h2,h3,h4,h5⟩:=e.rf j ts h
   exact⟨c,ys,h1,sub c h2,h3,fr c _ h4 (ne j c n ⟨ts,.inr h⟩ h1) (nt h4),h5.mono m⟩
  ·cases z
  ·cases z
   obtain⟨c,ys,h1,h2,h3,h4,h5⟩:=e.rf j ts' q
   rw[hi]at h1
   cases h1
   exact⟨a,xs,hi,sub a h2,h3,ha,r⟩
  ·exact(nm mi).elim
 ·obtain⟨c,ys,h1,d⟩:=e.dp j ws (sO h)
  exact⟨c,ys,h1,d.move rfl rfl m (λb hb=>sub b (by obtain⟨_,_,_,ww,_⟩:=d; exact(ww b hb).1)) λb o hb q=>fr b o q (λz=>by subst z; exact e.dm j i ws b (sO h) mi hi hb) λz=>d.nt e.tab.ok z hb⟩
theorem aR.move{W W':Addr->Prop}{ρ : En}{σ : St}{H H':Hp}{i:Nat}{a:Addr}{xs:List V}{us:List Tr}(e:aR t W ρ σ H)(mi:Mu ρ i)(hi : σ[i]?=some (some (.ref a)))(m:Same (bf W H) (bf W' H'))(sub:∀b,W b->W' b)(wl:∀b,W' b->Lt H' b)
  (tb:fU t.K H') (fr:∀b o,H b=some o->b≠a->¬Tb t.K b->H' b=some o) (dom:∀b,H' b=none->H b=none) (h0:∀o,t.H0 a=some o->t.R a) (ha:H' a=some (.lst xs)) (r:aQ t.K (bf W' H') xs us):aR t W' (bN i us ρ) σ H':=by
 obtain⟨F,e⟩:=e
 exact⟨F,e.move mi hi m sub wl tb fr dom h0 ha r⟩
theorem aR.put{W:Addr->Prop}{ρ : En}{σ : St}{H:Hp}{i:Nat}{a:Addr}{xs:List V}{us:List Tr}(e:aR t W ρ σ H)(mi:Mu ρ i)(hi : σ[i]?=some (some (.ref a)))(h0:∀o,t.H0 a=some o->t.R a)(r:aQ t.K (bf W H) xs us):aR t W (bN i us ρ) σ (upd H a (.lst xs))/\bY W H (upd H a (.lst xs)):=by
 have w:=e.addr mi hi
 obtain⟨zs,hz⟩:=e.S7 mi hi
 refine⟨e.move mi hi (by rw[uw w]; exact Same.refl _) (λ_ h=>h) (λb z=>?_) (e.tab.ok.upd hz) (λb o h n _=>by rw[cP n]; exact h) (λb h=>?_) h0 jB (by rw[uw w]; exact r),⟨λb o n h=>?_,λb h=>?_⟩⟩
 ·by_cases q:b=a
  ·subst q; exact .inl ⟨xs,jB⟩
  ·unfold Lt; rw[cP q]; exact e.wl b z
 ·by_cases q:b=a
  ·subst q; rw[jB]at h; cases h
  ·rw[cP q]at h; exact h
 ·rw[cP (λz=>n (by rw[z]; exact w))]; exact h
 ·by_cases q:b=a
  ·subst q; rw[jB]at h; cases h
  ·rw[cP q]at h; exact h
abbrev GM:=List Tr->List Tr->Rs (List Tr × Tr)
def eMt(i:Nat)(m:GM)(fa:AF):EF:=λρ=>(con ρ i).bind λ_=>(fa ρ).bind λp=>(cls p.1).bind λas=>(con p.2 i).bind λts=>(m ts as).bind λz=>.ok (.v z.2 false,bN i z.1 p.2)
def abt(i:Nat)(m:GM):EF:=λρ=>(con ρ i).bind λts=>(m ts []).bind λz=>.ok (.v z.2 false,bN i z.1 ρ)
theorem aQ.set{K:FZ}{H:Hp}{v:V}{T:Tr}(h:Rep K H v T):∀{xs:List V} {ts:List Tr} (j:Nat),aQ K H xs ts->aQ K H (xs.set j v) (ts.set j T)
 |_,_,_,.nil=>.nil
 |_,_,0,.cons _ r=>.cons h r
 |_,_,j+1,.cons h1 r=>.cons h1 (aQ.set h j r)
noncomputable def zP(i:Nat)(fk fe:EF):SF:=λρ=>(fe ρ).bind λp=>(cls [p.1]).bind λTs=>(con p.2 i).bind λ_=>(fk p.2).bind λq=>(dr q.2 q.1).bind λkT=>(cW kT).bind λk=>(con q.2 i).bind λts=>match Ts,dY ts.length k with
 | [T],some j=>.ok (.nx,bN i (ts.set j T) q.2)
 |_,_=>.bad
theorem abu{te ti:TE}{fk fe:EF}(i:Nat)(he:SE t te fe)(hk:SE t ti fk):SS t (rJ te (Pu (yK i) ti QS)) (zP i fk fe):=λW ρ σ H D e h=>by
 refine he W ρ σ H _ e (Rs.bH (Rs.aY h) λp h v H1 e1 s1 v1=>?_)
 obtain⟨Ts,k1,h⟩:=dG (Rs.aY h) (zK _)
 obtain⟨us,k2,h⟩:=dG (Rs.aY h) (Jo _ _)
 obtain⟨_,a,xs,hi,_,hx,_⟩:=e1.con k2
 refine⟨_,hi,hk W p.2 σ H1 _ e1 (Rs.bH (Rs.aY h) λq h w H2 e2 s2 v2=>?_)⟩
 obtain⟨kT,k3,h⟩:=dG (Rs.aY h) (jd _ _)
 obtain⟨k,k4,h⟩:=dG (Rs.aY h) (Sq _)
 obtain⟨ts,k5,h⟩:=dG (Rs.aY h) (Jo _ _)
 obtain⟨mi,a',ys,hi',wa,hy,ry,h0⟩:=e2.con k5
 rw[hi]at hi'
 cases hi'
 have kk:∃T j,Ts=[T]/\dY ts.length k=some j/\mX t W H D (.nx,bN i (ts.set j T) q.2):=by
  cases Ts with
  |nil=>exact h.elim
  |cons T r =>
   cases r with
   |cons _ _=>exact h.elim
   |nil =>
    cases kj:dY ts.length k with
    |none=>rw[kj]at h; exact h.elim
    |some j=>rw[kj]at h; exact⟨T,j,rfl,rfl,h⟩
 obtain⟨T,j,rfl,k6,h⟩:=kk
 ·have rv:Rep t.K (bf W H2) v T:=by
   have r1:=zL (vs:=[v]) e.wn (.cons v1.1 .nil) k1
   cases r1 with
   |cons r1 _=>exact r1.mono s2.off
  obtain⟨e3,s3⟩:=e2.put mi hi h0 (ry.set rv j)
  refine⟨a,ys,k,j,rfl,Ss (jj e2 e1.wn v2.1 k3) k4,hy,by rw[ry.length]; exact k6,h W σ _ e3 ?_⟩
  exact((s1.trans s2).trans s3).nxt
def abv(i:Nat)(p:Int->Int->Int)(f:EF):SF:=λρ=>match ρ[i]? with
 |some (.sh (.int x))=>(f ρ).bind λq=>(dr q.2 q.1).bind λyT=>(cW yT).bind λy=>.ok (.nx,q.2.set i (.sh (.int (p x y))))
 |_=>.bad
def zQ(i j:Nat)(fa:AF):SF:=λρ=>(fa ρ).bind λp=>(cls p.1).bind λTs=>match Ts with
 | [T,U]=>.ok (.nx,(p.2.set i (.sh T)).set j (.sh U))
 |_=>.bad
theorem abw{ta:TA}{fa:AF}(i j:Nat)(ha:SA t ta fa):SS t (Pz i j ta) (zQ i j fa):=λW ρ σ H D e h=>by
 refine ha W ρ σ H _ e (Rs.bH (Rs.aY h) λp h vs H1 e1 s1 v1=>?_)
 obtain⟨Ts,k1,h⟩:=dG (Rs.aY h) (zK _)
 have r:=zL e.wn v1 k1
 split at h
 ·cases r with
  |cons h1 r1 =>
   cases r1 with
   |cons h2 r2 =>
    cases r2
    exact⟨_,_,rfl,h W _ H1 ((e1.zN h1).zN h2) s1.nxt⟩
 ·exact h.elim
def sS(c:Str)(f:EF):SF:=λρ=>(f ρ).bind λ_=>.ex c
def F0(t:Tx)(H':Hp):Prop:=(∀b o,t.H0 b=some o->¬t.R b->H' b=some o)/\fU t.K H'
theorem zR{E:XK}{C:Addr}{te:TE}{f:EF}{c:Str}(hx:∀H',F0 t H'->t.EX c->E (.ref C) none H')(he:SE t te f):SS t (Rt E C te) (sS c f):=λW ρ σ H D e h =>
 he W ρ σ H _ e (Rs.bH (Rs.aY h) λp h v H1 e1 s1 v1=>⟨rfl,hx H1 ⟨e1.f0,e1.tab.ok⟩ h⟩)
end
end L2
end
section
namespace L2
open PySem PySem.Spec PyProof.Rows
mutual
noncomputable def eX:Tr->Bool
 |.tup ts=>dJ ts
 |.lst _=>false
 |_=>true
noncomputable def dJ:List Tr->Bool
 | []=>true
 |t::r=>eX t&&dJ r
end
def CQ(G G':Hp):Prop:=(∀b xs,(G b=some (.tup xs)->G' b=some (.tup xs))/\∀o,G b=some (.cV o (.tup xs))->G' b=some (.cV o (.tup xs)))/\∀b C,G b=some (nA b C)->G' b=some (nA b C)
mutual
theorem Rep.flat{K:FZ}{G G':Hp}(m:CQ G G'):∀{v:V} {T:Tr},Rep K G v T->eX T=true->Rep K G' v T
 |_,_,.non,_=>.non
 |_,_,.bl b,_=>.bl b
 |_,_,.int i,_=>.int i
 |_,_,.str x,_=>.str x
 |_,_,.tup h r,n=>by
  refine .tup ?_ (aQ.flat m r (by unfold eX at n; exact n))
  rcases h with(h|⟨o,h⟩)|h
  ·exact .inl (.inl ((m.1 _ _).1 h))
  ·exact .inl (.inr ⟨o,(m.1 _ _).2 o h⟩)
  ·exact .inr h
 |_,_,.lst h r,n=>by unfold eX at n; cases n
 |_,_,.cF h k n,_=>.cF (m.2 _ _ h) k n
theorem aQ.flat{K:FZ}{G G':Hp}(m:CQ G G'):∀{v:List V} {T:List Tr},aQ K G v T->dJ T=true->aQ K G' v T
 |_,_,.nil,_=>.nil
 |_,_,.cons h r,n=>by
  unfold dJ at n
  rw[Bool.and_eq_true]at n
  exact .cons (Rep.flat m h n.1) (aQ.flat m r n.2)
end
theorem Jq{W W':Addr->Prop}{H:Hp}(wl:∀b,W' b->Lt H b):CQ (bf W H) (bf W' H):=by
 have key:∀b o,bf W H b=some o->(∀ys,o ≠ .lst ys)->(∀ys,o ≠ .f9 ys)->bf W' H b=some o:=λb o h n n'=>by
  obtain⟨_,h⟩:=lN h
  rw[iu]
  ·exact h
  ·intro w
   rcases wl b w with⟨ys,e⟩|⟨ys,e⟩ <;> (rw[h]at e; cases e)
   ·exact n ys rfl
   ·exact n' ys rfl
 exact⟨λb xs=>⟨λh=>key _ _ h (λys z=>by cases z) (λys z=>by cases z),λo h=>key _ _ h (λys z=>by cases z) (λys z=>by cases z)⟩,λb C h=>key _ _ h (λys z=>by cases z) (λys z=>by cases z)⟩
theorem abx{a:Addr}{W:Addr->Prop}{H:Hp}{xs:List V}(wl:∀b,W b->Lt H b)(ha:H a=some (.lst xs))(G:Hp)(hG:∀b o,G b=some o->H b=some o):CQ G (off a (bf W H)):=by
 have key:∀b o,G b=some o->(∀ys,o ≠ .lst ys)->(∀ys,o ≠ .f9 ys)->off a (bf W H) b=some o:=λb o h n n'=>by
  have h:=hG b o h
  rw[off_ne,iu]
  ·exact h
  ·intro w
   rcases wl b w with⟨ys,e⟩|⟨ys,e⟩ <;> (rw[h]at e; cases e)
   ·exact n ys rfl
   ·exact n' ys rfl
  ·rintro rfl
   rw[h]at ha
   cases ha
   exact n _ rfl
 exact⟨λb xs=>⟨λh=>key _ _ h (λys z=>by cases z) (λys z=>by cases z),λo h=>key _ _ h (λys z=>by cases z) (λys z=>by cases z)⟩,λb C h=>key _ _ h (λys z=>by cases z) (λys z=>by cases z)⟩
def sU(K:FZ)(Z:Addr->Prop)(H H':Hp)(v:V)(T:Tr):Bool->Prop
 |false=>Rep K (bf Z H') v T
 |true=>∃a xs ts,v=.ref a/\T=.lst ts/\H a=none/\H' a=some (.lst xs)/\aQ K (off a (bf Z H')) xs ts
def pC(K:FZ)(H H':Hp):Prop:=(∀b o,H b=some o->¬Tb K b->H' b=some o)/\fU K H'
theorem pC.dom{K:FZ}{H H':Hp}(s:pC K H H'):∀b,H' b=none->H b=none:=λb h=>by
 cases q:H b with
 |none=>rfl
 |some o =>
  by_cases z:Tb K b
  ·obtain⟨ps,e⟩:=s.2.f9 z
   rw[h]at e
   cases e
  ·rw[s.1 b o q z]at h
   cases h
def CT(G G':Hp):Prop:=∀b o,(∀ps,o ≠ .f9 ps)->G b=some o->G' b=some o
theorem Rd.oH{G G':Hp}(m:CT G G'){a:Addr}{u:HO}(n:∀ps,u ≠ .f9 ps)(h:Rd G a u):Rd G' a u:=by
 rcases h with h|⟨o,h⟩
 ·exact .inl (m _ _ n h)
 ·exact .inr ⟨o,m _ _ (λ_ z=>by cases z) h⟩
mutual
theorem Rep.oH{K:FZ}{G G':Hp}(m:CT G G'):∀{v:V} {T:Tr},Rep K G v T->Rep K G' v T
 |_,_,.non=>.non
 |_,_,.bl b=>.bl b
 |_,_,.int i=>.int i
 |_,_,.str x=>.str x
 |_,_,.tup h r=>by
  refine .tup ?_ (aQ.oH m r)
  rcases h with h|h
  ·exact .inl (Rd.oH m (λ_ z=>by cases z) h)
  ·exact .inr h
 |_,_,.lst h r=>by
  refine .lst ?_ (aQ.oH m r)
  rcases h with h|h
  ·exact .inl (Rd.oH m (λ_ z=>by cases z) h)
  ·exact .inr h
 |_,_,.cF h k n=>.cF (m _ _ (λ_ z=>by cases z) h) k n
theorem aQ.oH{K:FZ}{G G':Hp}(m:CT G G'):∀{v:List V} {T:List Tr},aQ K G v T->aQ K G' v T
 |_,_,.nil=>.nil
 |_,_,.cons h r=>.cons (Rep.oH m h) (aQ.oH m r)
end
theorem Jr{K:FZ}{Z:Addr->Prop}{H:Hp}(tb:fU K H):CT (bf Z H) (bf (λb=>Z b\/Tb K b) H):=λb o n h=>by
 obtain⟨nz,h⟩:=lN h
 rw[iu]
 ·exact h
 ·rintro(z|z)
  ·exact nz z
  ·obtain⟨ps,e⟩:=tb.f9 z
   rw[h]at e
   cases e
   exact n _ rfl
theorem aR.CV{t:Tx}{W:Addr->Prop}{ρ : En}{σ : St}{H H':Hp}(e:aR t W ρ σ H)(s:pC t.K H H'):aR t W ρ σ H'/\bY W H H':=by
 have st:bY W H H':=⟨λb o n q=>s.1 b o q λz=>n (e.tab.w b z),s.dom⟩
 refine⟨?_,st⟩
 have m:=st.off
 obtain⟨F,e⟩:=e
 have ls:∀{a:Addr} {xs:List V},H a=some (.lst xs)->H' a=some (.lst xs):=λq=>s.1 _ _ q λz=>e.tab.ok.ne z q rfl
 refine⟨F,e.len,e.zw,e.z0,λb w=>?_,λb o h n=>s.1 b o (e.f0 b o h n) λz=>n (e.tab.r b z),λb h=>e.n0 b (s.dom b h),λi u h=>?_,λi ts h=>?_,λi ts h=>?_,e.dis,λb o h=>s.1 b o (e.pn b o h) λz=>(by rw[e.tab.B b z]at h; cases h),e.pd,λi ts h=>?_,e.dd,e.dm,e.db,⟨s.2,e.tab.w,e.tab.r,e.tab.B⟩⟩
 ·rcases e.wl b w with⟨xs,q⟩|⟨ps,q⟩
  ·exact .inl ⟨xs,ls q⟩
  ·by_cases z:Tb t.K b
   ·exact .inr (s.2.f9 z)
   ·exact .inr ⟨ps,s.1 b _ q z⟩
 ·obtain⟨v,h1,h2⟩:=e.sh i u h
  exact⟨v,h1,h2.mono m⟩
 ·obtain⟨a,xs,h1,h2,h3,h4,h5⟩:=e.ow i ts h
  exact⟨a,xs,h1,h2,h3,ls h4,h5.mono m⟩
 ·obtain⟨a,xs,h1,h2,h3,h4,h5⟩:=e.rf i ts h
  exact⟨a,xs,h1,h2,h3,ls h4,h5.mono m⟩
 ·obtain⟨a,xs,h1,d⟩:=e.dp i ts h
  exact⟨a,xs,h1,d.move rfl rfl m (λb hb=>by obtain⟨_,_,_,ww,_⟩:=d; exact(ww b hb).1) λb o hb q=>s.1 b o q λz=>d.nt e.tab.ok z hb⟩
theorem aR.S8{t:Tx}{W:Addr->Prop}{ρ : En}{σ : St}{H H':Hp}{a:Addr}{xs:List V}(e:aR t W ρ σ H)(s:pC t.K H H')(n:H a=none)(q:H' a=some (.lst xs)):sG t W a ρ σ H':=by
 have na:∀b,W b->b≠a:=λb w z=>by subst z; exact e.wn b w n
 obtain⟨e',st⟩:=e.CV s
 have m:Same (bf W H') (bf (λb=>W b\/b=a) H')->True:=λ_=>trivial
 have mm:∀{v:V} {T:Tr},Rep t.K (bf W H) v T->Rep t.K (bf (λb=>W b\/b=a) H') v T:=λr=>r.mono λb o h=>by
  obtain⟨w,h⟩:=lN h
  rw[iu]
  ·exact st.keep b o w h
  ·rintro(z|rfl)
   ·exact w z
   ·rw[n]at h; cases h
 have Js:Same (bf W H) (bf (λb=>W b\/b=a) H'):=λb o h=>by
  obtain⟨w,h⟩:=lN h
  rw[iu]
  ·exact st.keep b o w h
  ·rintro(z|rfl)
   ·exact w z
   ·rw[n]at h; cases h
 obtain⟨F,e⟩:=e
 have ls:∀{a:Addr} {xs:List V},H a=some (.lst xs)->H' a=some (.lst xs):=λq=>s.1 _ _ q λz=>e.tab.ok.ne z q rfl
 refine⟨F,⟨e.len,λb z=>.inl (e.zw b z),e.z0,λb w=>?_,e'.f0,e'.n0,λi u h=>?_,λi ts h=>?_,λi ts h=>?_,e.dis,e'.pn,e.pd,λi ts h=>?_,e.dd,e.dm,e.db,e'.tab.RZ λb w=>.inl w⟩,λi ts h z=>?_⟩
 ·rcases w with w|rfl
  ·exact e'.wl b w
  ·exact .inl ⟨xs,q⟩
 ·obtain⟨v,h1,h2⟩:=e.sh i u h
  exact⟨v,h1,mm h2⟩
 ·obtain⟨c,ys,h1,h2,h3,h4,h5⟩:=e.ow i ts h
  exact⟨c,ys,h1,.inl h2,h3,ls h4,h5.mono Js⟩
 ·obtain⟨c,ys,h1,h2,h3,h4,h5⟩:=e.rf i ts h
  exact⟨c,ys,h1,.inl h2,h3,ls h4,h5.mono Js⟩
 ·obtain⟨c,ys,h1,d⟩:=e.dp i ts h
  exact⟨c,ys,h1,d.move rfl rfl Js (λb hb=>by obtain⟨_,_,_,ww,_⟩:=d; exact .inl (ww b hb).1) λb o hb q=>s.1 b o q λz=>d.nt e.tab.ok z hb⟩
 ·obtain⟨c,ys,h1,bs,_,_,ww,_⟩:=e.dp i ts h
  exact na a (ww a z).1 rfl
abbrev FP:=List Tr->Rs (Tr × Bool)
noncomputable def bA(K:FZ)(cl:Str->Addr)(n:Nat)(F:FP):Sp:=λvs H Q E=>∃Z ts,vs.length=n/\aQ (aF K) (bf Z H) vs ts/\(∀b,Z b->Lt H b)/\fU (aF K) H /\
 (F ts).post (λc=>∀H',pC (aF K) H H'->E (.ref (cl c)) none H') (λp=>∀v H',pC (aF K) H H'->sU (aF K) Z H H' v p.1 p.2->Q v H')
def aW(nl:Nat)(ts:List Tr):En:=ts.map Sl.sh++List.replicate (nl-ts.length) Sl.un
def aM(nl:Nat)(b:SF):FP:=λts=>(b (aW nl ts)).bind λq=>match q.1 with
 |.rt T fr=>.ok (T,fr)
 |.nx=>.ok (.non,false)
 |_=>.bad
theorem oJ{nl:Nat}{ts:List Tr}{i:Nat}{s:Sl}(h:(aW nl ts)[i]?=some s):(∃u,ts[i]?=some u/\s=.sh u)\/s=.un:=by
 unfold aW at h
 by_cases l:i<ts.length
 ·rw[List.getElem?_append_left (by simpa using l),List.getElem?_map]at h
  rw[List.getElem?_eq_getElem l]at h ⊢
  cases h
  exact .inl ⟨_,rfl,rfl⟩
 ·rw[List.getElem?_append_right (by simpa using Nat.le_of_not_lt l)]at h
  rw[List.getElem?_replicate]at h
  split at h
  ·cases h; exact .inr rfl
  ·cases h
theorem Jt{N:List Str}{vs:List V}{i:Nat}{v:V}(h:vs[i]?=some v):(start N vs)[i]?=some (some v):=by
 unfold start
 have l:i<vs.length:=(List.getElem?_eq_some_iff.mp h).1
 rw[List.getElem?_append_left (by simpa using l),List.getElem?_map,h]
 rfl
section
variable {P:Program}{w:World}{K:FZ}{mg:Str->Option Value}{base:Heap}
theorem At.dO{k:Nat}{x:Str}{st:Stmt}{N ps:List Str}{cl:Str->Addr}{b:SF}(a:At K mg x st)(S:uf N ps (bG st))(hn:ps.length<=N.length)
  (hb:∀(kV doc pm:Value) (an:Option Addr) (cdv ct:Value) (us:List Value),us.length=ps.length->bindArgs (PySem.W.fnOf x x (rY st) (nu st) (bG st) .none kV doc pm an cdv ct) ⟨us,[]⟩=pure (ps.zip us))
  (hbody:∀(f:Addr) (cdv:Value) (A:Around) (outer:List Env) (s:Shared) (H:Hp) (E:XK),gP k (A.deeper (envOfC x (bG st) s.heap.objs.size f cdv)) ->
   ∃ts,jX (mJ (j4 P w) P w K mg base N x (bG st) f cdv A outer s H E) (nu st) ts/\∀t:Tx,t.K=aF K->(∀c H',F0 t H'->t.EX c->E (.ref (cl c)) none H')->SS t ts b) :
  aU P w K mg base (k+1) x ps (bA K cl ps.length (aM N.length b)):=by
 refine a.RN S hb (λvs H Q E h=>?_) (λf cdv A outer s H vs Q E hr h=>?_)
 ·obtain⟨_,_,h,_⟩:=h; exact h
 obtain⟨Z,as,hl,r,zl,tb,h⟩:=h
 obtain⟨ts,h1,h2⟩:=hbody f cdv A outer s H E hr
 refine⟨ts,h1,?_⟩
 have sm:∀(b:Addr) (W:Addr->Prop) ρ σ H',aR ⟨aF K,Z,Tb (aF K),H,λ_=>none,λc=>∀H',pC (aF K) H H'->E (.ref (cl c)) none H'⟩ W ρ σ H'->pC (aF K) H H':=λ_ W ρ σ H' e=>⟨λb o q n=>e.f0 b o q n,e.tab.ok⟩
 have r:=r.oH (Jr tb)
 refine h2 ⟨aF K,Z,Tb (aF K),H,λ_=>none,λc=>∀H',pC (aF K) H H'->E (.ref (cl c)) none H'⟩ rfl (λc H' f0 q=>q H' ⟨λb o z n=>f0.1 b o z n,f0.2⟩) (λb=>Z b\/Tb (aF K) b) (aW N.length as) (start N vs) H _ ?_ (Rs.bH (Rs.aY h) λq h=>?_)
 ·have la:=r.length
  have qJ:∀(i:Nat) (us:List Tr),(aW N.length as)[i]?=some (.dp us)->False:=λi us q=>by
   rcases oJ q with⟨u',q1,z⟩|z <;> cases z
  refine⟨λ_=>[],?_,λ_ z=>.inl z,λb z=>?_,λb z=>z.elim (zl b) (λz=>.inr (tb.f9 z)),λb o q _=>q,λb q=>q,λi u q=>?_,λi us q=>?_,λi us q=>?_,λi j c m1 m2=>?_,λb o z=>(by cases z),λ_ _ _ _=>rfl,λi us q=>(qJ i us q).elim,λi _ us _ _ q=>(qJ i us q).elim,λi _ us _ q=>(qJ i us q).elim,λi us q=>(qJ i us q).elim,⟨tb,λ_ z=>.inr z,λ_ z=>z,λ_ _=>rfl⟩⟩
  ·unfold aW start
   simp only[List.length_append,List.length_map,List.length_replicate]
   omega
  ·exact(zl b z).ne
  ·rcases oJ q with⟨u',q1,z⟩|z
   ·cases z
    obtain⟨v,e1,e2⟩:=r.uz q1
    exact⟨v,Jt e1,e2⟩
   ·cases z
  ·rcases oJ q with⟨u',q1,z⟩|z <;> cases z
  ·rcases oJ q with⟨u',q1,z⟩|z <;> cases z
  ·obtain⟨us,q|q⟩:=m1 <;> rcases oJ q with⟨u',q1,z⟩|z <;> cases z
 ·obtain⟨fl,ρ'⟩:=q
  cases fl with
  |nx=>exact λW' σ' H' e n=>h .non H' (sm 0 W' ρ' σ' H' e) .non
  |rt T fr =>
   refine λv W' σ' H' e n=>h v H' (sm 0 W' ρ' σ' H' e) ?_
   cases fr <;> exact n
  |bk=>exact h.elim
  |ct=>exact h.elim
end
section
variable {X:Cx}{k:Nat}{x:Str}{ps:List Str}{sp:Sp}{p pos:Pos}{e:Expr}{es:List Expr}{ta:TA}{E:XK}
theorem aby(D:aU X.prog X.w X.K X.mg X.base k x ps sp)(hr:gP k X.A)(hx:Passes (j4 X.prog X.w) X E)(ha:PA X (e::es) ta)(hg:Gl X x:=by rfl)(hdb:(x == ("__debug__" : Str))=false:=by decide)
  (he:starEach (e::es) X.env=(false,eval e X.env)::starEach es X.env:=by rfl) (hpl:(backTo pos (starEach es X.env)).any (·.1)=false:=by rfl):PE X (.Call (.Name x p) (e::es) [] pos) (o9 sp [] E ta):=by
 obtain⟨f,fd,h1,h2,h3,h4⟩:=D
 exact YJ h1 hr hg h4 h3 h2 .nil hx ha hdb he hpl
end
section
variable {t:Tx}{K:FZ}
def aX:Rv->Bool
 |.s _=>true
 |_=>false
def jF(z:Tr × Bool):Bool:=eX z.1 || (z.2&&(match z.1 with
 |.lst us=>dJ us
 |_=>false))
theorem sU.Ju{W W0:Addr->Prop}{ρ : En}{σ : St}{H H':Hp}{v:V}{z:Tr × Bool}{Z:Addr->Prop}(wn:∀b,W b->H b≠none)(wl:∀b,W b->Lt H' b)(zs:(∀b,W b->Z b)\/jF z=true)(h:sU t.K Z H H' v z.1 z.2)
  (ex:z.2=true->∀a xs,H a=none->H' a=some (.lst xs)->sG t W a ρ σ H'):iI t W ρ σ H H' v (.v z.1 z.2):=by
 obtain⟨T,fr⟩:=z
 cases fr with
 |false =>
  refine .low ?_
  rcases zs with zs|zs
  ·exact Rep.mono (pA (λb _ _ z=>zs b z) λ_ _ _ h=>h) h
  ·unfold jF at zs
   simp only[Bool.false_and,Bool.or_false]at zs
   exact Rep.flat (Jq wl) h zs
 |true =>
  obtain⟨a,xs,ts,rfl,e1,n,q,r⟩:=h
  have e1:T=.lst ts:=e1
  subst e1
  refine⟨⟨a,xs,ts,rfl,rfl,n,q,?_⟩,λU b z eb=>?_⟩
  ·rcases zs with zs|zs
   ·refine r.mono λb o q=>?_
    obtain⟨ne,q⟩:=v7 q
    rw[off_ne ne]
    exact pA (λb _ _ z=>zs b z) (λ_ _ _ h=>h) b o q
   ·unfold jF at zs
    have zs:dJ ts=true:=by
     rw[Bool.or_eq_true]at zs
     rcases zs with zs|zs
     ·unfold eX at zs; cases zs
     ·exact zs
    exact r.flat (abx wl q _ λb o h=>jK _ _ b o (IK _ _ b o h)) zs
  ·cases eb
   exact ex rfl a xs n q
theorem iT.length{W:Addr->Prop}{σ : St}{H H':Hp}:∀{vs:List V} {rs:List Rv},iT K W σ H H' vs rs->vs.length=rs.length
 |_,_,.nil=>rfl
 |_,_,.cons _ r=>by rw[List.length_cons,List.length_cons,iT.length r]
theorem post_eq{α : Type}{r:Rs α}{a : α}{EX:Str->Prop}{P : α -> Prop}(h:r=.ok a)(q:P a):r.post EX P:=by
 rw[h]
 exact q
def bB(F:FP)(fa:AF):EF:=λρ=>(fa ρ).bind λp=>(drs p.2 p.1).bind λas=>(F as).bind λz=>if p.1.any aX=true/\jF z=false then .bad else .ok (.v z.1 z.2,p.2)
theorem Jv{W:Addr->Prop}{σ : St}{ρ : En}{H H':Hp}(wn:∀b,W b->H b≠none):∀{vs:List V} {rs:List Rv} {as:List Tr},iT t.K W σ H H' vs rs->drs ρ rs=.ok as->rs.any aX=false->aQ t.K (bf W H') vs as
 |_,_,_,.nil,q,_=>by cases q; exact .nil
 |_,.v T fr::_,_,.cons h r,q,n=>by
  unfold drs at q
  obtain⟨a,q1,q⟩:=kW q
  obtain⟨as,q2,q⟩:=kW q
  cases q
  cases q1
  exact .cons (h.rep wn) (Jv wn r q2 (by simpa[List.any_cons,aX]using n))
 |_,.s i::_,_,.cons h r,q,n=>by simp[aX]at n
theorem sH.reps{W:Addr->Prop}{H:Hp}:∀{vs:List V} {as:List Tr},sH K W H vs as->aQ K (bf (λ_=>False) H) vs as
 |_,_,.nil=>.nil
 |_,_,.cons h r=>.cons (h.rep.mono λb o q=>by rw[iu id]; exact q) (sH.reps r)
theorem S9(hK:t.K=aF K){cl:Str->Addr}{n:Nat}{F:FP}{E:XK}{ta:TA}{fa:AF}(hx:∀c H',F0 t H'->t.EX c->E (.ref (cl c)) none H')(hn:∀ρ p,fa ρ=.ok p->p.1.length=n)(ha:SA t ta fa):SE t (o9 (bA K cl n F) [] E ta) (bB F fa):=λW ρ σ H Q e h=>by
 have h:=Rs.aY h
 cases ek:fa ρ with
 |bad=>rw[ek]at h; exact h.elim
 |ex c=>exact ha W ρ σ H _ e (by rw[ek]at h ⊢; exact h)
 |ok p =>
 have hl:=hn ρ p ek
 rw[ek]at h
 refine ha W ρ σ H _ e (post_eq ek ?_)
 intro vs H1 e1 s1 v1
 have h:((drs p.2 p.1).bind _).post _ _:=h
 obtain⟨as,k1,h⟩:=dG (Rs.aY h) (uD _ _)
 have r:=wu e1 e.wn v1 k1
 have lv:vs.length=n:=v1.length.trans hl
 have fin:∀Z:Addr->Prop,(∀b,Z b->W b)->(∀z,F as=.ok z->¬(p.1.any aX=true/\jF z=false)->(∀b,W b->Z b)\/jF z=true)->aQ (aF K) (bf Z H1) vs as->bA K cl n F (vs++[]) H1 Q E:=λZ zw zs rr=>by
  rw[List.append_nil]
  refine⟨Z,as,lv,rr,λb z=>e1.wl b (zw b z),by rw[<-hK]; exact e1.tab.ok,?_⟩
  have h:=Rs.aY h
  cases ef:F as with
  |bad=>rw[ef]at h; exact h.elim
  |ex c =>
   rw[ef]at h
   exact λH' sm=>hx c H' ⟨λb o q nr=>sm.1 b o (e1.f0 b o q nr) λz=>nr (e1.tab.r b (by rw[hK]; exact z)),by rw[hK]; exact sm.2⟩ h
  |ok z =>
   rw[ef]at h
   have h:(if p.1.any aX=true/\jF z=false then Rs.bad else .ok (.v z.1 z.2,p.2):Rs (Rv × En)).post _ _:=h
   split at h
   ·exact h.elim
   ·rename_i c
    intro v H' sm vr
    rw[<-hK]at vr sm
    obtain⟨eg,sg⟩:=e1.CV sm
    refine h v H' eg (s1.trans sg) (iI.back (H:=H1) ?_ s1.dom)
    exact sU.Ju (W0:=W) e1.wn eg.wl (zs z ef c) vr λ_ a xs na qa=>e1.S8 sm na qa
 by_cases an:p.1.any aX=true
 ·refine fin (λ_=>False) (λ_ z=>z.elim) (λz ez c=>.inr ?_) ?_
  ·cases fz:jF z with
   |true=>rfl
   |false=>exact(c ⟨an,fz⟩).elim
  ·rw[<-hK]
   exact r.reps
 ·refine fin W (λ_ z=>z) (λz ez c=>.inl λ_ z=>z) ?_
  rw[<-hK]
  exact Jv e.wn v1 k1 (by simpa using an)
end
end L2
end
section
namespace L2
open PySem PySem.Spec PyProof.Rows
abbrev FR:=List Tr->Rs ((Tr × Bool) × List Tr)
noncomputable def iC(K:FZ)(n r:Nat)(F:FR):Sp:=λvs H Q E=>∃(Z:Addr->Prop) (ts:List Tr) (a:Addr) (xs:List V) (us:List Tr),vs.length=n/\ts.length=n/\vs[r]?=some (.ref a)/\ts[r]?=some (.lst us)/\Z a/\H a=some (.lst xs)/\aQ (aF K) (bf Z H) xs us /\
 (∀j v u,j≠r->vs[j]?=some v->ts[j]?=some u->Rep (aF K) (bf Z H) v u)/\(∀b,Z b->Lt H b)/\fU (aF K) H /\
 (F ts).post (λ_=>False) (λp=>∀v H' ys,(∀b o,H b=some o->b≠a->¬Tb (aF K) b->H' b=some o)->fU (aF K) H'->(∀b,H' b=none->H b=none)->H' a=some (.lst ys)->aQ (aF K) (bf Z H') ys p.2->sU (aF K) Z H H' v p.1.1 p.1.2->Q v H')
def bU{α : Type}:Rs α -> Rs α
 |.bad=>.bad
 |.ex _=>.bad
 |.ok a=>.ok a
theorem CW{α : Type}{r:Rs α}{EX:Str->Prop}{P : α -> Prop}(h:(bU r).post EX P):r.post (λ_=>False) P:=by
 cases r <;> exact h
theorem abz{α : Type}(r:Rs α)(c:Str):bU r ≠ .ex c:=by
 cases r <;> (intro z; cases z)
theorem Tc{α β : Type}{r:Rs α}{f : α -> Rs β}(h1:∀c,r ≠ .ex c)(h2:∀a c,f a ≠ .ex c)(c:Str):r.bind f ≠ .ex c:=by
 cases r with
 |bad=>intro z; cases z
 |ex d=>exact(h1 d rfl).elim
 |ok a=>exact h2 a c
noncomputable def fX(nl r:Nat)(b:SF):FR:=λts=>match ts[r]? with
 | some (.lst us)=>(bU (b ((aW nl ts).set r (.rf us)))).bind λq=>(match q.2[r]? with
  | some (.rf ws)=>(match q.1 with
   |.rt T fr=>.ok ((T,fr),ws)
   |.nx=>.ok ((.non,false),ws)
   |_=>.bad)
  |_=>.bad)
 |_=>.bad
theorem abA(nl r:Nat)(b:SF)(as:List Tr)(c:Str):fX nl r b as ≠ .ex c:=by
 unfold fX
 split
 ·refine Tc (abz _) (λq c=>?_) c
  split
  ·split <;> (intro z; cases z)
  ·intro z; cases z
 ·intro z; cases z
section
variable {P:Program}{w:World}{K:FZ}{mg:Str->Option Value}{base:Heap}
theorem At.uM{k:Nat}{x:Str}{st:Stmt}{N ps:List Str}{cl:Str->Addr}{b:SF}(r:Nat)(a:At K mg x st)(S:uf N ps (bG st))(hn:ps.length<=N.length)
  (hb:∀(kV doc pm:Value) (an:Option Addr) (cdv ct:Value) (us:List Value),us.length=ps.length->bindArgs (PySem.W.fnOf x x (rY st) (nu st) (bG st) .none kV doc pm an cdv ct) ⟨us,[]⟩=pure (ps.zip us))
  (hbody:∀(f:Addr) (cdv:Value) (A:Around) (outer:List Env) (s:Shared) (H:Hp) (E:XK),gP k (A.deeper (envOfC x (bG st) s.heap.objs.size f cdv)) ->
   ∃ts,jX (mJ (j4 P w) P w K mg base N x (bG st) f cdv A outer s H E) (nu st) ts/\∀t:Tx,t.K=aF K->(∀c H',F0 t H'->t.EX c->E (.ref (cl c)) none H')->SS t ts b) :
  aU P w K mg base (k+1) x ps (iC K ps.length r (fX N.length r b)):=by
 refine a.RN S hb (λvs H Q E h=>?_) (λf cdv A outer s H vs Q E hr h=>?_)
 ·obtain⟨_,_,_,_,_,h,_⟩:=h; exact h
 obtain⟨Z,as,ad,xs,us,hl,hl2,hv,ht,hz,hx,rx,ra,zl,tb,h⟩:=h
 have rx:=rx.oH (Jr tb)
 have ra:∀j v u,j≠r->vs[j]?=some v->as[j]?=some u->Rep (aF K) (bf (λb=>Z b\/Tb (aF K) b) H) v u:=λj v u n q1 q2=>(ra j v u n q1 q2).oH (Jr tb)
 obtain⟨ts,h1,h2⟩:=hbody f cdv A outer s H E hr
 refine⟨ts,h1,?_⟩
 unfold fX at h
 rw[ht]at h
 have h:((bU (b ((aW N.length as).set r (.rf us)))).bind _).post _ _:=h
 refine h2 ⟨aF K,Z,λb=>b=ad\/Tb (aF K) b,H,λ_=>none,λ_=>False⟩ rfl (λc H' f0 q=>q.elim) (λb=>Z b\/Tb (aF K) b) ((aW N.length as).set r (.rf us)) (start N vs) H _ ?_ (Rs.bH (CW (Rs.aY h)) λq h=>?_)
 ·have lr:r<as.length:=(List.getElem?_eq_some_iff.mp ht).1
  have mu:∀j,Mu ((aW N.length as).set r (.rf us)) j->j=r:=λj m=>by
   obtain⟨ws,q|q⟩:=m <;> rcases get_set q with⟨rfl,_,_⟩|⟨ne,q⟩
   ·rfl
   ·rcases oJ q with⟨u',q1,z⟩|z <;> cases z
   ·rfl
   ·rcases oJ q with⟨u',q1,z⟩|z <;> cases z
  have qJ:∀(i:Nat) (ws:List Tr),((aW N.length as).set r (.rf us))[i]?=some (.dp ws)->False:=λi ws q=>by
   rcases get_set q with⟨rfl,z,_⟩|⟨ne,q⟩
   ·cases z
   ·rcases oJ q with⟨u',q1,z⟩|z <;> cases z
  refine⟨λ_=>[],?_,λ_ z=>.inl z,λb z=>?_,λb z=>z.elim (zl b) (λz=>.inr (tb.f9 z)),λb o q _=>q,λb q=>q,λi u q=>?_,λi ws q=>?_,λi ws q=>?_,λi j c m1 m2 _ _=>(mu i m1).trans (mu j m2).symm,λb o z=>(by cases z),λ_ _ _ _=>rfl,λi us q=>(qJ i us q).elim,λi _ us _ _ q=>(qJ i us q).elim,λi _ us _ q=>(qJ i us q).elim,λi us q=>(qJ i us q).elim,⟨tb,λ_ z=>.inr z,λ_ z=>.inr z,λ_ _=>rfl⟩⟩
  ·unfold aW start
   simp only[List.length_append,List.length_map,List.length_replicate,List.length_set]
   omega
  ·exact(zl b z).ne
  ·rcases get_set q with⟨rfl,z,_⟩|⟨ne,q⟩
   ·cases z
   ·rcases oJ q with⟨u',q1,z⟩|z
    ·cases z
     have lj:i<vs.length:=by
      rw[hl,<-hl2]
      exact(List.getElem?_eq_some_iff.mp q1).1
     exact⟨vs[i],Jt (List.getElem?_eq_getElem lj),ra i _ _ ne (List.getElem?_eq_getElem lj) q1⟩
    ·cases z
  ·rcases get_set q with⟨rfl,z,_⟩|⟨ne,q⟩
   ·cases z
   ·rcases oJ q with⟨u',q1,z⟩|z <;> cases z
  ·rcases get_set q with⟨rfl,z,_⟩|⟨ne,q⟩
   ·cases z
    exact⟨ad,xs,Jt hv,.inl hz,.inl rfl,hx,rx⟩
   ·rcases oJ q with⟨u',q1,z⟩|z <;> cases z
 ·obtain⟨fl,ρ'⟩:=q
  dsimp only at h
  split at h
  ·rename_i ws q
   ·have key:∀W' σ' H',aR ⟨aF K,Z,λb=>b=ad\/Tb (aF K) b,H,λ_=>none,λ_=>False⟩ W' ρ' σ' H'->(∀b o,H b=some o->b≠ad->¬Tb (aF K) b->H' b=some o)/\fU (aF K) H'/\(∀b,H' b=none->H b=none)/\∃ys,H' ad=some (.lst ys)/\aQ (aF K) (bf Z H') ys ws:=λW' σ' H' e=>by
     obtain⟨c,ys,q1,q2,q3,q4,q5⟩:=e.rf r ws q
     have q3:c=ad:=q3.elim id λz=>(e.tab.ok.ne z q4 rfl).elim
     subst q3
     exact⟨λb o z n n'=>e.f0 b o z λy=>y.elim n n',e.tab.ok,e.n0,ys,q4,q5.mono (CN e)⟩
    cases fl with
    |nx =>
     intro W' σ' H' e n
     obtain⟨k1,Jw,k2,ys,k3,k4⟩:=key W' σ' H' e
     exact h .non H' ys k1 Jw k2 k3 k4 .non
    |rt T fr =>
     intro v W' σ' H' e n
     obtain⟨k1,Jw,k2,ys,k3,k4⟩:=key W' σ' H' e
     refine h v H' ys k1 Jw k2 k3 k4 ?_
     cases fr <;> exact n
    |bk=>exact h.elim
    |ct=>exact h.elim
  ·exact h.elim
end
section
variable {t:Tx}{K:FZ}
theorem iT.get{W:Addr->Prop}{σ : St}{H H':Hp}:∀{vs:List V} {rs:List Rv} {j:Nat} {v:V} {r:Rv},iT K W σ H H' vs rs->vs[j]?=some v->rs[j]?=some r->eU K W σ H H' v r
 |_,_,_,_,_,.nil,e,_=>by simp at e
 |_,_,0,_,_,.cons h _,e,q=>by simp at e q; subst e q; exact h
 |_,_,j+1,_,_,.cons _ t,e,q=>iT.get (j:=j) t (by simpa using e) (by simpa using q)
theorem Jx{ρ : En}:∀{rs:List Rv} {as:List Tr} {j:Nat} {u:Tr},drs ρ rs=.ok as->as[j]?=some u->∃r,rs[j]?=some r/\dr ρ r=.ok u
 | [],_,_,_,h,e=>by cases h; simp at e
 |r::rs,as,j,u,h,e=>by
  unfold drs at h
  obtain⟨a,q1,h⟩:=kW h
  obtain⟨bs,q2,h⟩:=kW h
  cases h
  cases j with
  |zero=>simp at e; subst e; exact⟨r,rfl,q1⟩
  |succ j =>
   obtain⟨r',k1,k2⟩:=Jx (j:=j) q2 (by simpa using e)
   exact⟨r',by simpa using k1,k2⟩
theorem Td{ρ : En}:∀{rs:List Rv} {as:List Tr},drs ρ rs=.ok as->as.length=rs.length
 | [],_,h=>by cases h; rfl
 |r::rs,as,h=>by
  unfold drs at h
  obtain⟨a,q1,h⟩:=kW h
  obtain⟨bs,q2,h⟩:=kW h
  cases h
  rw[List.length_cons,List.length_cons,Td q2]
theorem Te{ρ : En}:∀{rs:List Rv} {as:List Tr} {j:Nat} {r:Rv},drs ρ rs=.ok as->rs[j]?=some r->∃u,as[j]?=some u/\dr ρ r=.ok u
 | [],_,_,_,h,e=>by simp at e
 |r::rs,as,j,u,h,e=>by
  unfold drs at h
  obtain⟨a,q1,h⟩:=kW h
  obtain⟨bs,q2,h⟩:=kW h
  cases h
  cases j with
  |zero=>simp at e; subst e; exact⟨a,rfl,q1⟩
  |succ j =>
   obtain⟨r',k1,k2⟩:=Te (j:=j) q2 (by simpa using e)
   exact⟨r',by simpa using k1,k2⟩
def others(r i:Nat)(rs:List Rv):Bool:=(rs.eraseIdx r).all λx=>match x with
 |.s j=>j != i
 |_=>true
noncomputable def cj(r:Nat)(F:FR)(fa:AF):EF:=λρ=>(fa ρ).bind λp=>match p.1[r]? with
 |some (.s i)=>if others r i p.1=true then((con p.2 i).bind λ_=>(drs p.2 p.1).bind λas=>(F as).bind λz=>if((p.1.eraseIdx r).any aX=true/\jF z.1=false)\/(((p.1.eraseIdx r).any aX=true\/z.1.2=true)/\dJ z.2=false)then .bad else .ok (.v z.1.1 z.1.2,bN i z.2 p.2))else .bad
 |_=>.bad
theorem Tf{α : Type}{l:List α}{r j:Nat}{x : α}(n:j≠r)(h:l[j]?=some x):x∈l.eraseIdx r:=by
 rw[List.mem_eraseIdx_iff_getElem?]
 exact⟨j,n,h⟩
theorem abB(hK:t.K=aF K){n r:Nat}{F:FR}{E:XK}{ta:TA}{fa:AF}(nF:∀as c,F as ≠ .ex c)(hn:∀ρ p,fa ρ=.ok p->p.1.length=n)(ha:SA t ta fa):SE t (o9 (iC K n r F) [] E ta) (cj r F fa):=λW ρ σ H Q e h=>by
 have h:=Rs.aY h
 cases ek:fa ρ with
 |bad=>rw[ek]at h; exact h.elim
 |ex c=>exact ha W ρ σ H _ e (by rw[ek]at h ⊢; exact h)
 |ok p =>
 have hl:=hn ρ p ek
 rw[ek]at h
 refine ha W ρ σ H _ e (post_eq ek ?_)
 intro vs H1 e1 s1 v1
 have h:(match p.1[r]? with
  |some (.s i)=>if others r i p.1=true then((con p.2 i).bind λ_=>(drs p.2 p.1).bind λas=>(F as).bind λz=>if((p.1.eraseIdx r).any aX=true/\jF z.1=false)\/(((p.1.eraseIdx r).any aX=true\/z.1.2=true)/\dJ z.2=false)then .bad else .ok (.v z.1.1 z.1.2,bN i z.2 p.2))else .bad
  |_=>.bad:Rs (Rv × En)).post _ _:=h
 split at h
 ·rename_i i er
  split at h
  ·rename_i ho
   obtain⟨us,k0,h⟩:=dG (Rs.aY h) (Jo _ _)
   obtain⟨as,k1,h⟩:=dG (Rs.aY h) (uD _ _)
   obtain⟨z,k2,h⟩:=dG (Rs.aY h) (nF _)
   obtain⟨mi,a,xs,hi,wa,hx,rx,h0⟩:=e1.con k0
   have lr:r<vs.length:=by rw[v1.length]; exact(List.getElem?_eq_some_iff.mp er).1
   have hvr:vs[r]?=some (.ref a):=by
    have q:=v1.get (List.getElem?_eq_getElem lr) er
    have q : σ[i]?=some (some vs[r]):=q
    rw[hi]at q
    rw[List.getElem?_eq_getElem lr,Option.some.inj (Option.some.inj q)]
   have hur:as[r]?=some (.lst us):=by
    obtain⟨u,q1,q2⟩:=Te k1 er
    rw[q1]
    unfold L2.con at k0
    dsimp only[dr]at q2
    split at k0 <;> rename_i q3
    ·rw[q3]at q2; cases q2; cases k0; rfl
    ·rw[q3]at q2; cases q2; cases k0; rfl
    ·cases k0
   split at h
   ·exact h.elim
   ·rename_i c
    have nl:((p.1.eraseIdx r).any aX=true\/z.1.2=true)->dJ z.2=true:=λy=>by
     cases q:dJ z.2 with
     |true=>rfl
     |false=>exact(c (.inr ⟨y,q⟩)).elim
    have nf:z.1.2=true->dJ z.2=true:=λy=>nl (.inr y)
    have fin:∀Z:Addr->Prop,Z a->(∀b,Z b->W b)->((∀b,W b->Z b)\/jF z.1=true)->((∀b,W b->Z b)\/dJ z.2=true)->(∀j v u,j≠r->vs[j]?=some v->as[j]?=some u->Rep (aF K) (bf Z H1) v u)->iC K n r F (vs++[]) H1 Q E:=λZ za zw zs fq rr=>by
     rw[List.append_nil]
     refine⟨Z,as,a,xs,us,v1.length.trans hl,(Td k1).trans hl,hvr,hur,za,hx,?_,rr,λb z=>e1.wl b (zw b z),by rw[<-hK]; exact e1.tab.ok,?_⟩
     ·rw[<-hK]
      exact rx.mono (pA (λb _ _ z=>zw b z) λ_ _ _ h=>h)
     rw[k2]
     intro v H' ys fr tb dm hy ry vr
     rw[<-hK]at ry vr fr tb
     have kp:∀b o,¬W b->H1 b=some o->H' b=some o:=λb o nw q=>fr b o q (λz=>by subst z; exact nw wa) λz=>nw (e1.tab.w b z)
     have CZ:∀b,W b->Lt H' b:=λb wb=>by
      by_cases q:b=a
      ·subst q; exact .inl ⟨ys,hy⟩
      ·by_cases z:Tb t.K b
       ·exact .inr (tb.f9 z)
       ·rcases e1.wl b wb with⟨zs,q2⟩|⟨zs,q2⟩
        ·exact .inl ⟨zs,fr b _ q2 q z⟩
        ·exact .inr ⟨zs,fr b _ q2 q z⟩
     have st:bY W H1 H':=⟨kp,dm⟩
     have ryW:aQ t.K (bf W H') ys z.2:=by
      rcases fq with q|q
      ·exact ry.mono (pA (λb _ _ z=>q b z) λ_ _ _ h=>h)
      ·exact ry.flat (Jq CZ) q
     have e2:aR t W (bN i z.2 p.2) σ H':=e1.move mi hi st.off (λ_ h=>h) CZ tb fr dm h0 hy ryW
     refine h v H' e2 (s1.trans st) (iI.back (H:=H1) ?_ s1.dom)
     refine sU.Ju (W0:=W) (z:=z.1) e1.wn CZ zs vr λfz b zs nb qb=>?_
     have Ti:∀c,(W c\/c=b)->Lt H' c:=λc wc=>by
      rcases wc with wc|rfl
      ·exact CZ c wc
      ·exact .inl ⟨zs,qb⟩
     obtain⟨F,gH⟩:=id e1
     refine⟨F,gH.move mi hi (λc o q=>?_) (λ_ h=>.inl h) Ti tb fr dm h0 hy (ry.flat (Jq Ti) (nf fz)),λj us hj zj=>?_⟩
     rotate_left
     ·obtain⟨c,ys,h1,bs,_,_,ww,_⟩:=gH.dp j us (sO hj)
      exact e1.wn b (ww b zj).1 nb
     obtain⟨nc,q⟩:=lN q
     rw[iu]
     ·exact kp c o nc q
     ·rintro(z|rfl)
      ·exact nc z
      ·rw[nb]at q; cases q
    by_cases an:(p.1.eraseIdx r).any aX=true
    ·refine fin (λb=>b=a) rfl (λb z=>by subst z; exact wa) (.inr ?_) (.inr (nl (.inl an))) λj v u nj qv qu=>?_
     ·cases fz:jF z.1 with
      |true=>rfl
      |false=>exact(c (.inl ⟨an,fz⟩)).elim
     ·obtain⟨x,q1,q2⟩:=Jx k1 qu
      have ok:=v1.get qv q1
      rw[<-hK]
      cases x with
      |v T fr =>
       cases q2
       exact(ok.rep e.wn).mono (pA (λb _ _ z=>by subst z; exact wa) λ_ _ _ h=>h)
      |s j' =>
       have nj':j'≠i:=by
        have:=List.all_eq_true.mp ho _ (Tf nj q1)
        simpa using this
       have ok : σ[j']?=some (some v):=ok
       have q2:dr p.2 (.s j')=.ok u:=q2
       have q3:∃ws,L2.con p.2 j'=.ok ws/\u=.lst ws:=by
        dsimp only[dr]at q2
        unfold L2.con
        split at q2 <;> rename_i q3
        ·cases q2; (try rw[q3]); exact⟨_,rfl,rfl⟩
        ·cases q2; (try rw[q3]); exact⟨_,rfl,rfl⟩
        ·cases q2
       obtain⟨ws,q3,rfl⟩:=q3
       obtain⟨mj,a',zs,hj,wj,hz,rz,_⟩:=e1.con q3
       rw[ok]at hj
       cases hj
       have na:a'≠a:=λy=>by
        subst y
        exact nj' (e1.dis j' i a' mj mi ok hi)
       refine .lst (cJ.of ?_) (rz.mono (pA (λb _ _ z=>by subst z; exact wa) λ_ _ _ h=>h))
       rw[iu (W:=λb=>b=a) na]
       exact hz
    ·refine fin W wa (λ_ z=>z) (.inl λ_ z=>z) (.inl λ_ z=>z) λj v u nj qv qu=>?_
     obtain⟨x,q1,q2⟩:=Jx k1 qu
     have ok:=v1.get qv q1
     rw[<-hK]
     cases x with
     |v T fr=>cases q2; exact ok.rep e.wn
     |s j' =>
      refine(an ?_).elim
      exact List.any_eq_true.mpr ⟨_,Tf nj q1,rfl⟩
  ·exact h.elim
 ·exact h.elim
end
end L2
end
section
namespace L2
open PySem PySem.Spec PyProof.Rows
section
variable {prog:Program}{w:World}{A:Around}{R:Result->Shared->Prop}{s:Shared}
theorem abC{elt target iter c:Expr}{scope:Scope}{pos:Pos}{it acc:Value}{env:Env}(I:Nat->Shared->Prop)
  (turn:∀n s,I n s->wpAny (model prog w) A (pyNext it) (λr s₁=>match r with
   |none=>R (.ok .next) s₁
   | some v=>wpAny (model prog w) A (letOwnedTupleGo target it v) (λ_ s₁'=>wpAny (model prog w) A (assign target env v) (λ_ s₂ => wpAny (model prog w) A (isTrue c env (eval c env)) (λb s₂'=>if b=true then wpAny (model prog w) A (eval elt env) (λx s₃ =>
     wpAny (model prog w) A (call (.builtin "list.append") [acc,x]) (λ_ s₄=>∃m,m<n/\I m s₄) (λ_ _=>False) s₃) (λ_ _=>False) s₂' else ∃m,m<n/\I m s₂') (λ_ _=>False) s₂) (λ_ _=>False) s₁') (λ_ _=>False) s₁) (λ_ _=>False) s)
  (n:Nat) (h:I n s) :
  codeAny (model prog w) A (.compLoop (.ListComp elt [⟨target,iter,[c],0⟩] scope pos) 0 it acc env) R s:=by
 refine codeAny_loop rfl I (λn s hI=>?_) n h
 show wpAny _ _ ((compTurn (.ListComp elt [⟨target,iter,[c],0⟩] scope pos) 0 it acc env).onRaise (λx=>do noteFrame x env; theTreesLotGoes x)) _ _ s
 refine wpAny_noted (wpAny_noRaise ?_)
 rw[compTurn_list]
 refine wpAny_bind (wpAny_standAt (wpAny_bind (wpAny_mono (turn n s hI) (λr s₁ h₁=>?_) λ_ _ h'=>h')))
 cases r with
 |none=>exact wpAny_pure h₁
 |some v =>
  refine wpAny_bind (wpAny_mono h₁ (λ_ s₁' h₁'=>?_) λ_ _ h'=>h')
  refine wpAny_bind (wpAny_mono h₁' (λ_ s₂ h₂=>wpAny_bind (wpAny_tests_one (wpAny_mono h₂ (λok s₃ h₃=>?_) λ_ _ h'=>h'))) λ_ _ h'=>h')
  cases ok with
  |false=>exact wpAny_pure ⟨rfl,h₃⟩
  |true =>
   exact wpAny_bind (wpAny_bind (wpAny_mono h₃ (λx s₄ h₄=>wpAny_bind (wpAny_mono h₄ (λ_ s₅ h₅=>wpAny_pure (wpAny_pure ⟨rfl,h₅⟩)) λ_ _ h'=>h')) λ_ _ h'=>h'))
end
noncomputable def wJ(wi:TI)(g:TG)(src:List (Option Nat))(tc:TT)(te:TE):TE:=λσ H Q=>wi σ H λJ H1=>∀D,H1 D=none ->
 ∃W:Nat->Nat->St->Hp->Prop,(∃m,W 0 m (jw src σ) (upd H1 D (.lst [])))/\∀i m σ' H',W i m σ' H' ->
  (J.stop i H'/\Rf Q D H')\/(J.go i H'/\∀x ji,J.vN i H' x ji->g x σ' ji λσ2 H2=>tc σ2 H2 λb Tj=>if b=true then te σ2 Tj λv H3=>∃xs,H3 D=some (.lst xs)/\xs.length<sizeLine/\∃m',m'<m/\W (i+1) m' σ2 (upd H3 D (.lst (xs++[v])))else ∃m',m'<m/\W (i+1) m' σ2 Tj)
section
variable {X:Cx}{elt tg iter zT:Expr}{scope sc:Scope}{pos:Pos}{No N:List Str}{src:List (Option Nat)}{wi:TI}{g:TG}{te:TE}{tc:TT}
theorem abD{pins:List (Addr × Obj)}{σ : St}{H:Hp}{s:Shared}{Q:VK}{RR:Value->Addr->Result->Shared->Prop}(hsc:X.env.scope=sc)(nZ:X.N=No)(S:vW sc No N src scope)(hc:X.calm=true)
  (hi:PI X tg iter wi) (hg:∀C s H ex,PG (ig X N scope C s H ex) tg g) (hq:∀C s H ex,PT (ig X N scope C s H ex) zT tc) (he:∀C s H ex,PE (ig X N scope C s H ex) elt te) (I:Inv X pins σ H s) (h:wJ wi g src tc te σ H Q)
  (hRR:∀D C H' s' m,Inv X pins σ H' s'->H' C=none->C≠X.env.locals->X.s₀.heap.objs.size<=C->(∀x c,X.env.cells.lookup x=some c->c≠C)->(∀p∈X.pn++pins,p.1≠C)->s'.heap.Ns C m->Q (.ref D) H'->RR (.ref D) C (.ok .next) s') :
  wpAny (model X.prog X.w) X.A (eval iter X.env) (λx s₁=>wpAny (model X.prog X.w) X.A (pyIter x) (λit s₂=>wpAny (model X.prog X.w) X.A (newList []) (λacc s₃ =>
   wpAny (model X.prog X.w) X.A (newFunctionEnv scope X.env.globals (iH X.env.cells scope.names []) [] X.env.qual none .none (some X.env)) (λcenv s₄ =>
    codeAny (model X.prog X.w) X.A (.compStart (.ListComp elt [⟨tg,iter,[zT],0⟩] scope pos) 0 it acc {cenv with scope:=relabel scope X.env }) (RR acc cenv.locals) s₄) X.xe s₃) X.xe s₂) X.xe s₁) X.xe s:=by
 refine bJ (hi pins s σ H _ I h) λv s1 h1=>bJ h1 λitv s2 h2=>?_
 obtain⟨it,fp,tn,J,H2,e,I2,T,st2,f2,hW⟩:=h2
 subst e
 have HB:H2 s2.heap.objs.size=none:=I2.hok.fresh (Nat.le_refl _)
 obtain⟨W,⟨m0,w0⟩,turn⟩:=hW s2.heap.objs.size HB
 have yZ:∀b∈fp,b<s2.heap.objs.size:=λb hb=>by
  obtain⟨o,e,_⟩:=T.obj 0 _ st2 b hb
  exact Heap.lt_size e
 refine wpAny_newObj_type ?_
 have I3:Inv X pins σ (upd H2 s2.heap.objs.size (.lst [])) {s2 with heap:=s2.heap.push {cls:=.type "list",dict:=none,data:=.seq ([]:List Value).toArray } }:=I2.ug (t':=s2.toks) (ys:=[]) .nil (Nat.zero_le _)
 have f3:∀b∈fp,lG X pins (upd H2 s2.heap.objs.size (.lst [])) b:=λb hb=>by
  obtain⟨q,r⟩:=f2 b hb
  exact⟨by rw[cP (Nat.ne_of_lt (yZ b hb))]; exact q,r⟩
 have st3:tn 0 (s2.heap.push {cls:=.type "list",dict:=none,data:=.seq ([]:List Value).toArray }):=T.keep _ _ _ st2 λb hb o e=>Heap.get?_push_of_some _ e
 have mQ:∀b∈fp,b<(s2.heap.push {cls:=.type "list",dict:=none,data:=.seq ([]:List Value).toArray }).objs.size:=λb hb=>by
  rw[Heap.size_push]; exact Nat.lt_succ_of_lt (yZ b hb)
 generalize hD:s2.heap.objs.size=D at *
 generalize hh3:s2.heap.push {cls:=.type "list",dict:=none,data:=.seq ([]:List Value).toArray }=h3 at *
 generalize ZK:upd H2 D (.lst [])=H3 at *
 refine Ra λh₁ hns old ck=>?_
 dsimp only at hns old ck ⊢
 have I4:Inv (ig X N scope h3.objs.size {s2 with heap:=h3 } H3 fp) [] (jw src σ) H3 {s2 with heap:=h₁,toks:=s2.toks+([]:List (Str × Value)).length }:=Rg (s:={s2 with heap:=h3 }) hsc nZ S I3 f3 mQ hns old ck
 have zf:tn 0 h₁ := T.keep _ _ _ st3 λb hb o e=>old b o e
 have loop:codeAny (model X.prog X.w) X.A (.compLoop (.ListComp elt [⟨tg,iter,[zT],0⟩] scope pos) 0 (.ref it) (.ref D) (compEnvC scope (cellsFrom (h3.objs.size+1) scope.names (iH X.env.cells scope.names [])) h3.objs.size X.env)) (RR (.ref D) h3.objs.size) {s2 with heap:=h₁,toks:=s2.toks+([]:List (Str × Value)).length }:=by
  have stat:∀{H':Hp},(∀b∈fp,H' b=none)->∀b∈fp,lG (ig X N scope h3.objs.size {s2 with heap:=h3 } H3 fp) [] H' b:=λhn b hb=>by
   obtain⟨g0,g1,g2,g3,g4,g5⟩:=f3 b hb
   refine⟨hn b hb,Nat.ne_of_lt (mQ b hb),λz=>?_,.inl hb,λx c e=>?_,λp hp=>absurd (show p∈([]:List (Addr × Obj))from hp) (by simp)⟩
   ·rcases List.mem_cons.mp (I3.yH b z)with z|z
    ·exact g1 z
    ·exact g2 z
   ·have e:(cellsFrom (h3.objs.size+1) scope.names (iH X.env.cells scope.names [])).lookup x=some c:=e
    rw[qx,vV]at e
    split at e
    ·rename_i z
     cases e
     exact λy=>absurd (Nat.le_trans (ck.empty x c (PySem.mem_of_lookup z)).2 (y▸Nat.le_of_lt (mQ b hb))) (Nat.not_succ_le_self _)
    ·rcases uh e with q|q
     ·simp at q
     ·exact g4 x c q
  refine abC (λn s'=>∃i σ' H',Inv (ig X N scope h3.objs.size {s2 with heap:=h3 } H3 fp) [] σ' H' s'/\tn i s'.heap/\(∀b∈fp,H' b=none)/\W i n σ' H') ?_ m0 ⟨0,jw src σ,H3,I4,zf,λb hb=>(f3 b hb).1,w0⟩
  rintro n s5 ⟨i,σ5,H5,I5,mH,uc,w5⟩
  rcases turn i n σ5 H5 w5 with⟨stop,qn⟩|⟨go,step⟩
  ·refine bJ (T.done (ig X N scope h3.objs.size {s2 with heap:=h3 } H3 fp) rfl rfl rfl hc i [] s5 σ5 H5 (λ_ _=>False) I5 (stat uc) mH stop) λr s6 ⟨hr,I6⟩=>?_
   subst hr
   obtain⟨mC,hnC,_⟩:=id I6.loc
   have I7:Inv X pins σ H5 s6:=I3.call' (ch:=fp) I6.os I6.base I6.hok I6.bare λb hb=>by
    obtain⟨g0,g1,g2,g3,g4,g5⟩:=f3 b hb
    exact⟨g3,g1,g4,g5⟩
   refine hRR D h3.objs.size H5 s6 mC I7 I6.free (Nat.ne_of_gt I3.lt) I3.sz (λx c e z=>?_) (λp hp z=>?_) hnC qn
   ·obtain⟨v,q⟩:=I3.cell x c e
    exact absurd q.lt (by rw[z]; exact Nat.lt_irrefl _)
   ·exact absurd (Heap.lt_size (I3.pin p hp).1) (by rw[z]; exact Nat.lt_irrefl _)
  ·refine bJ (T.item (ig X N scope h3.objs.size {s2 with heap:=h3 } H3 fp) rfl rfl rfl hc i [] s5 σ5 H5 (λ_ _=>False) I5 (stat uc) mH go) λr s6 ⟨u,hr,h6⟩=>?_
   subst hr
   refine bJ h6 λ_ s7 ⟨x,H7,I7,r7,y7,qy,HD⟩=>?_
   have HF:=I7.pinned (stat HD) (T.obj _ _ qy)
   refine bJ (hg _ _ _ _ _ s7 σ5 H7 x u _ HF r7 (step x H7 y7)) λ_ s8 ⟨σ8,H8,I8,q8⟩=>?_
   refine bJ (hq _ _ _ _ _ s8 σ8 H8 _ I8 q8) λbb s8' ⟨Tn,Dc,Dd⟩=>?_
   cases bb with
   |false =>
    rw[if_neg (by decide)]at Dd ⊢
    obtain⟨m',hm,w9⟩:=Dd
    refine⟨m',hm,i+1,σ8,Tn,Dc.vO (pins:=[]),T.keep _ _ _ qy λb hb o e=>(Dc.pin (b,o) (List.mem_append_right _ (List.mem_append_right _ (rM hb e)))).1,λb hb=>?_,w9⟩
    obtain⟨o,e,d⟩:=T.obj _ _ qy b hb
    exact(Dc.pin (b,o) (List.mem_append_right _ (List.mem_append_right _ (rM hb e)))).2.1
   |true =>
   rw[if_pos rfl]at Dd ⊢
   refine bJ (he _ _ _ _ _ s8' σ8 Tn _ Dc Dd) λyv s9 ⟨y,H9,I9,r9,q9⟩=>?_
   obtain⟨xs,e9,l9,m',hm,w9⟩:=q9
   refine bJ (Q0 (X:=ig X N scope h3.objs.size {s2 with heap:=h3 } H3 fp) _ s9 σ8 H9 (.ref D) [y] (.ref D) [yv] (λ_ H'=>W (i+1) m' σ8 H') I9 rfl (.cons r9 .nil) ⟨D,xs,y,rfl,rfl,e9,l9,w9⟩) λ_ ZL ⟨_,HJ,uo,_,HN⟩=>?_
   refine⟨m',hm,i+1,σ8,HJ,uo.vO (pins:=[]),T.keep _ _ _ qy λb hb o e=>(uo.pin (b,o) (List.mem_append_right _ (List.mem_append_right _ (rM hb e)))).1,λb hb=>?_,HN⟩
   obtain⟨o,e,d⟩:=T.obj _ _ qy b hb
   exact(uo.pin (b,o) (List.mem_append_right _ (List.mem_append_right _ (rM hb e)))).2.1
 exact codeAny_compStart_list loop (T.self _ _ _ _ _ zf loop)
theorem Tp(hsc:X.env.scope=sc)(nZ:X.N=No)(S:vW sc No N src scope)(hc:X.calm=true)
  (hi:PI X tg iter wi) (hg:∀C s H ex,PG (ig X N scope C s H ex) tg g) (hq:∀C s H ex,PT (ig X N scope C s H ex) zT tc) (he:∀C s H ex,PE (ig X N scope C s H ex) elt te)
  (hs:∀x,foldedSetIterable iter X.env x=pure x:=by intro _; rfl):PE X (.ListComp elt [⟨tg,iter,[zT],0⟩] scope pos) (wJ wi g src tc te):=by
 refine⟨λpins s σ H Q I h=>?_⟩
 rw[eval_ListComp]
 have hcl:closureFor scope X.env=pure (iH X.env.cells scope.names []):=Hy λy hy e=>by
  have k:=S.free y hy e
  rw[<-hsc]at k
  obtain⟨c,q⟩:=I.ok.has y.1 k
  rw[q]; rfl
 refine wpAny_comprehension_free (use:=none) rfl hs hcl S.kind S.names (abD (RR:=λacc C=>compPost (model X.prog X.w) X.A X.xe none (EP X pins σ Q) acc C) hsc nZ S hc hi hg hq he I h ?_)
 intro D C H' s' m I' n1 n2 n3 n4 n5 hn q
 refine⟨m,hn,λh' hs'=>⟨.ref D,H',?_,rfl,q⟩⟩
 exact I'.turned (t':=s'.toks) (λb o hb e=>(hs'.2 b hb).trans e) n1 (Ne.symm (Ne.symm n2)) (.inr n3) n4 n5
end
end L2
end
section
namespace L2
open PySem PySem.Spec PyProof.Rows
def eN:Sl->Sl
 |.dp _=>.un
 |s=>s
def cG(src:List (Option Nat))(ρ : En):En:=src.map λo=>match o with
 |some j=>eN ((ρ[j]?).getD .un)
 |none=>.un
def bW:List (Option Nat)->En->En->En
 |some j::src,.ow ts::ρi,ρ=>bW src ρi (bN j ts ρ)
 |some j::src,.rf ts::ρi,ρ=>bW src ρi (bN j ts ρ)
 |_::src,_::ρi,ρ=>bW src ρi ρ
 |_,_,ρ=>ρ
def eG:Option Sl->Bool
 |some (.ow _)=>true
 |some (.rf _)=>true
 |_=>false
def cZ:List (Option Nat)->En->En->Bool
 |some j::src,s::ρi,ρ=>(!eG ρ[j]? || eG (some s))&&cZ src ρi ρ
 |none::src,_::ρi,ρ=>cZ src ρi ρ
 | [],_,_=>true
 |_,[],_=>false
theorem Tq{ρ : En}{i:Nat}:eG ρ[i]?=true↔Mu ρ i:=by
 constructor
 ·intro h
  unfold eG at h
  split at h <;> rename_i q
  ·exact⟨_,.inl q⟩
  ·exact⟨_,.inr q⟩
  ·cases h
 ·rintro⟨ts,h|h⟩ <;> rw[h] <;> rfl
theorem Jy:∀{src:List (Option Nat)} {ρi ρ : En} {k j:Nat},cZ src ρi ρ = true->src[k]?=some (some j)->Mu ρ j->Mu ρi k
 | [],_,_,_,_,_,h,_=>by simp at h
 |some j'::src,s::ρi,ρ,k,j,h,hk,m=>by
  unfold cZ at h
  rw[Bool.and_eq_true]at h
  cases k with
  |zero =>
   simp at hk
   subst hk
   have h1:=h.1
   rw[Tq.mpr m]at h1
   have h1:eG (some s)=true:=by simpa using h1
   cases s with
   |un=>cases h1
   |sh _=>cases h1
   |dp _=>cases h1
   |ow ts=>exact⟨ts,.inl rfl⟩
   |rf ts=>exact⟨ts,.inr rfl⟩
  |succ k =>
   obtain⟨ts,q⟩:=Jy (k:=k) h.2 (by simpa using hk) m
   exact⟨ts,by simpa using q⟩
 |none::src,s::ρi,ρ,k,j,h,hk,m=>by
  unfold cZ at h
  cases k with
  |zero=>simp at hk
  |succ k =>
   obtain⟨ts,q⟩:=Jy (k:=k) h (by simpa using hk) m
   exact⟨ts,by simpa using q⟩
 |some j'::src,[],ρ,k,j,h,hk,m=>by unfold cZ at h; cases h
 |none::src,[],ρ,k,j,h,hk,m=>by unfold cZ at h; cases h
def Inj(src:List (Option Nat)):Prop:=∀(k k' j:Nat),src[k]?=some (some j)->src[k']?=some (some j)->k=k'
theorem qK{src:List (Option Nat)}(h:(src.filterMap id).Nodup):Inj src:=by
 induction src with
 |nil=>intro k k' j h1; simp at h1
 |cons o src ih =>
  have tail:Inj src:=by
   cases o with
   |none=>exact ih (by simpa using h)
   |some j=>exact ih (by simpa using(List.nodup_cons.mp (by simpa using h)).2)
  intro k k' j h1 h2
  have no:∀{m:Nat},o=some j->src[m]?=some (some j)->False:=λ{m} e q=>by
   subst e
   have n:=(List.nodup_cons.mp (show(j::src.filterMap id).Nodup by simpa using h)).1
   exact n (List.mem_filterMap.mpr ⟨some j,List.mem_of_getElem? q,rfl⟩)
  cases k with
  |zero =>
   have e1:o=some j:=by simpa using h1
   cases k' with
   |zero=>rfl
   |succ k'=>exact(no e1 (by simpa using h2)).elim
  |succ k =>
   cases k' with
   |zero=>exact(no (by simpa using h2) (by simpa using h1)).elim
   |succ k'=>rw[tail k k' j (by simpa using h1) (by simpa using h2)]
theorem Tt{ρ : En}{i j:Nat}{ts:List Tr}(h:j≠i):(bN i ts ρ)[j]?=ρ[j]? := by
 unfold bN
 split
 ·exact List.getElem?_set_ne (Ne.symm h)
 ·exact List.getElem?_set_ne (Ne.symm h)
 ·rfl
theorem abE{ρ ρ':En}{i:Nat}{ts:List Tr}(h : ρ[i]?=ρ'[i]?):(bN i ts ρ)[i]?=(bN i ts ρ')[i]? := by
 unfold bN
 rw[h]
 cases q : ρ'[i]? with
 |none=>dsimp only; rw[h,q]
 |some s =>
  have l':i < ρ'.length:=(List.getElem?_eq_some_iff.mp q).1
  have l:i < ρ.length:=(List.getElem?_eq_some_iff.mp (h.trans q)).1
  cases s with
  |un=>dsimp only; rw[h,q]
  |sh _=>dsimp only; rw[h,q]
  |dp _=>dsimp only; rw[h,q]
  |ow _=>dsimp only; rw[wF l,wF l']
  |rf _=>dsimp only; rw[wF l,wF l']
theorem uN:∀(src:List (Option Nat)) (ρi ρ : En),(bW src ρi ρ).length = ρ.length
 | [],ρi,ρ=>by unfold bW; rfl
 |o::src,[],ρ=>by cases o <;> (unfold bW; rfl)
 |none::src,s::ρi,ρ=>by unfold bW; exact uN src ρi ρ
 |some j::src,.un::ρi,ρ=>by unfold bW; exact uN src ρi ρ
 |some j::src,.sh _::ρi,ρ=>by unfold bW; exact uN src ρi ρ
 |some j::src,.dp _::ρi,ρ=>by unfold bW; exact uN src ρi ρ
 |some j::src,.ow ts::ρi,ρ=>by unfold bW; rw[uN src ρi,Jp]
 |some j::src,.rf ts::ρi,ρ=>by unfold bW; rw[uN src ρi,Jp]
theorem uO:∀{src:List (Option Nat)} {ρi ρ : En} {j:Nat} {s:Sl},Inj src->(bW src ρi ρ)[j]?=some s ->
  (∃(k:Nat) (ts:List Tr),src[k]?=some (some j)/\(ρi[k]?=some (.ow ts)\/ρi[k]?=some (.rf ts))/\(bN j ts ρ)[j]?=some s)\/((∀k:Nat,src[k]?=some (some j)->¬Mu ρi k)/\ρ[j]?=some s)
 | [],ρi,ρ,j,s,_,h=>by
  unfold bW at h
  exact .inr ⟨λk q=>by simp at q,h⟩
 |o::src,[],ρ,j,s,_,h=>by
  have h : ρ[j]?=some s:=by cases o <;> (unfold bW at h; exact h)
  refine .inr ⟨λk _ m=>?_,h⟩
  obtain⟨_,q|q⟩:=m <;> simp at q
 |o::src,x::ρi,ρ,j,s,I,h=>by
  have It:Inj src:=λk k' j h1 h2=>by
   have:=I (k+1) (k'+1) j (by simpa using h1) (by simpa using h2)
   omega
  have keep:(o=none\/eG (some x)=false)->(bW src ρi ρ)[j]?=some s->(∃(k:Nat) (ts:List Tr),(o::src)[k]?=some (some j)/\((x::ρi)[k]?=some (.ow ts)\/(x::ρi)[k]?=some (.rf ts))/\(bN j ts ρ)[j]?=some s)\/((∀k:Nat,(o::src)[k]?=some (some j)->¬Mu (x::ρi) k)/\ρ[j]?=some s):=λc h=>by
   rcases uO It h with⟨k,ts,q1,q2,q3⟩|⟨n,q⟩
   ·exact .inl ⟨k+1,ts,by simpa using q1,by simpa using q2,q3⟩
   ·refine .inr ⟨λk qk m=>?_,q⟩
    cases k with
    |zero =>
     rcases c with c|c
     ·subst c; simp at qk
     ·rw[<-Tq]at m
      have m:eG (some x)=true:=m
      rw[c]at m
      cases m
    |succ k =>
     obtain⟨ts,m⟩:=m
     exact n k (by simpa using qk) ⟨ts,by simpa using m⟩
  have put:∀(i:Nat) (ts:List Tr),o=some i->(x=.ow ts\/x=.rf ts)->(bW src ρi (bN i ts ρ))[j]?=some s->(∃(k:Nat) (ts:List Tr),(o::src)[k]?=some (some j)/\((x::ρi)[k]?=some (.ow ts)\/(x::ρi)[k]?=some (.rf ts))/\(bN j ts ρ)[j]?=some s)\/((∀k:Nat,(o::src)[k]?=some (some j)->¬Mu (x::ρi) k)/\ρ[j]?=some s):=λi ts eo ex h=>by
   rcases uO It h with⟨k,us,q1,q2,q3⟩|⟨n,q⟩
   ·have ne:j≠i:=λz=>by
     subst z
     have:=I 0 (k+1) j (by simpa using eo) (by simpa using q1)
     omega
    refine .inl ⟨k+1,us,by simpa using q1,by simpa using q2,?_⟩
    rw[<-abE (Tt ne)]
    exact q3
   ·by_cases e:j=i
    ·subst e
     refine .inl ⟨0,ts,by simpa using eo,?_,q⟩
     rcases ex with rfl|rfl
     ·exact .inl rfl
     ·exact .inr rfl
    ·rw[Tt e]at q
     refine .inr ⟨λk qk m=>?_,q⟩
     cases k with
     |zero =>
      rw[eo]at qk
      simp at qk
      exact e qk.symm
     |succ k =>
      obtain⟨ts,m⟩:=m
      exact n k (by simpa using qk) ⟨ts,by simpa using m⟩
  cases o with
  |none=>unfold bW at h; exact keep (.inl rfl) h
  |some i =>
   cases x with
   |un=>unfold bW at h; exact keep (.inr rfl) h
   |sh _=>unfold bW at h; exact keep (.inr rfl) h
   |dp _=>unfold bW at h; exact keep (.inr rfl) h
   |ow ts=>unfold bW at h; exact put i ts rfl (.inl rfl) h
   |rf ts=>unfold bW at h; exact put i ts rfl (.inr rfl) h
theorem zU{src:List (Option Nat)}{ρ : En}{k:Nat}{s:Sl}(h:(cG src ρ)[k]?=some s)(n:s ≠ .un):∃j,src[k]?=some (some j)/\ρ[j]?=some s:=by
 unfold cG at h
 rw[List.getElem?_map]at h
 cases q:src[k]? with
 |none=>rw[q]at h; cases h
 |some o =>
  rw[q]at h
  cases o with
  |none=>cases h; exact(n rfl).elim
  |some j =>
   refine⟨j,rfl,?_⟩
   have h:eN ((ρ[j]?).getD .un)=s:=Option.some.inj h
   cases z : ρ[j]? with
   |none=>rw[z]at h; exact(n h.symm).elim
   |some s' =>
    rw[z]at h
    have h:eN s'=s:=h
    cases s' <;> first|exact congrArg some h|exact(n h.symm).elim
theorem Df{src:List (Option Nat)}{ρ : En}{k:Nat}{ts:List Tr}(h:(cG src ρ)[k]?=some (.dp ts)):False:=by
 unfold cG at h
 rw[List.getElem?_map]at h
 cases q:src[k]? with
 |none=>rw[q]at h; cases h
 |some o =>
  rw[q]at h
  cases o with
  |none=>cases h
  |some j =>
   have h:eN ((ρ[j]?).getD .un)=.dp ts:=Option.some.inj h
   cases z:(ρ[j]?).getD Sl.un <;> rw[z]at h <;> cases h
theorem wK{src:List (Option Nat)}{ρi ρ : En}{j:Nat}{ts:List Tr}(I:Inj src)(h:(bW src ρi ρ)[j]?=some (.dp ts)) : ρ[j]?=some (.dp ts):=by
 rcases uO I h with⟨k,us,_,_,q⟩|⟨_,q⟩
 ·exact sO q
 ·exact q
theorem Tv{src:List (Option Nat)}{σ : St}{k j:Nat}(h:src[k]?=some (some j)):(jw src σ)[k]?=some ((σ[j]?).join):=by
 unfold jw
 rw[List.getElem?_map,h]
 rfl
end L2
end
section
namespace L2
open PySem PySem.Spec PyProof.Rows
def OU(src:List (Option Nat))(ρ : En)(σ : St)(F:Nat->List Addr)(b:Addr):Prop:=(∃j:Nat,Mu ρ j/\σ[j]?=some (some (.ref b))/\∀k:Nat,src[k]? ≠ some (some j))\/∃(j:Nat) (ts:List Tr),ρ[j]?=some (.dp ts)/\b∈F j
open Classical in
def jr(t:Tx)(src:List (Option Nat))(ρ : En)(σ : St)(F:Nat->List Addr)(H1:Hp)(D:Addr)(xs:List V):Tx:=⟨t.K,t.Z,t.R,t.H0,λb=>if b=D then some (.lst xs)else if OU src ρ σ F b then H1 b else t.B b,λ_=>False⟩
section
variable {t:Tx}{src:List (Option Nat)}{ρ1:En}{σ : St}{F:Nat->List Addr}{H1:Hp}{D:Addr}{W:Addr->Prop}
theorem sV{xs:List V}:(jr t src ρ1 σ F H1 D xs).B D=some (.lst xs):=if_pos rfl
theorem sW{xs:List V}{b:Addr}(h1:b≠D)(h2:¬OU src ρ1 σ F b):(jr t src ρ1 σ F H1 D xs).B b=t.B b:=by
 unfold jr
 dsimp only
 rw[if_neg h1,if_neg h2]
theorem uP{xs:List V}{b:Addr}(h1:b≠D)(h2:OU src ρ1 σ F b):(jr t src ρ1 σ F H1 D xs).B b=H1 b:=by
 unfold jr
 dsimp only
 rw[if_neg h1,if_pos h2]
theorem Jz{k:Nat}(h:Mu (cG src ρ1) k):∃j,src[k]?=some (some j)/\Mu ρ1 j:=by
 obtain⟨ts,q|q⟩:=h
 ·obtain⟨j,h1,h2⟩:=zU q (by intro z; cases z)
  exact⟨j,h1,ts,.inl h2⟩
 ·obtain⟨j,h1,h2⟩:=zU q (by intro z; cases z)
  exact⟨j,h1,ts,.inr h2⟩
theorem JB{k j:Nat}{v:V}(h:src[k]?=some (some j))(q:(jw src σ)[k]?=some (some v)) : σ[j]?=some (some v):=by
 rw[Tv h]at q
 have q:=Option.some.inj q
 cases z : σ[j]? with
 |none=>rw[z]at q; cases q
 |some o =>
  rw[z]at q
  have q:o=some v:=q
  rw[q]
theorem Dg{k j:Nat}{v:V}(h:src[k]?=some (some j))(q : σ[j]?=some (some v)):(jw src σ)[k]?=some (some v):=by
 rw[Tv h,q]
 rfl
theorem OU.tab{b:Addr}(gH:EOF t W ρ1 σ H1 F)(z:Tb t.K b):¬OU src ρ1 σ F b:=by
 rintro(⟨j,m,q,_⟩|⟨j,ts,d',y⟩)
 ·obtain⟨xs,h⟩:=aR.S7 ⟨F,gH⟩ m q
  exact gH.tab.ok.ne z h rfl
 ·obtain⟨a,xs,_,d⟩:=gH.dp j ts d'
  exact d.nt gH.tab.ok z y
theorem abF{xs:List V}{b:Addr}(gH:EOF t W ρ1 σ H1 F)(hD:H1 D=none)(z:Tb t.K b):(jr t src ρ1 σ F H1 D xs).B b=none:=by
 have nD:b≠D:=λy=>by
  obtain⟨ps,h⟩:=gH.tab.ok.f9 z
  rw[y,hD]at h
  cases h
 rw[sW nD (OU.tab gH z)]
 exact gH.tab.B b z
theorem EOF.enter(I:Inj src)(gH:EOF t W ρ1 σ H1 F)(hD:H1 D=none):aR (jr t src ρ1 σ F H1 D []) (λb=>W b\/b=D) (cG src ρ1) (jw src σ) (upd H1 D (.lst [])):=by
 have e1:aR t W ρ1 σ H1:=⟨F,gH⟩
 have e2:=(e1.hide (gw hD (.lst [])) hD jB).ok
 have tf:=e2.tab
 refine⟨λ_=>[],?_,e2.zw,e2.z0,e2.wl,e2.f0,e2.n0,λk u h=>?_,λk ts h=>?_,λk ts h=>?_,λk k' a m1 m2 q1 q2=>?_,λb o h=>?_,λk a m q=>?_,λk ts h=>(Df h).elim,λk _ ts _ _ h=>(Df h).elim,λk _ ts _ h=>(Df h).elim,λk ts h=>(Df h).elim,⟨tf.ok,tf.w,tf.r,λb z=>abF gH hD z⟩⟩
 ·unfold cG jw
  rw[List.length_map,List.length_map]
 ·obtain⟨j,h1,h2⟩:=zU h (by intro z; cases z)
  obtain⟨v,q1,q2⟩:=e2.sh j u h2
  exact⟨v,Dg h1 q1,q2⟩
 ·obtain⟨j,h1,h2⟩:=zU h (by intro z; cases z)
  obtain⟨a,xs,q1,q2⟩:=e2.ow j ts h2
  exact⟨a,xs,Dg h1 q1,q2⟩
 ·obtain⟨j,h1,h2⟩:=zU h (by intro z; cases z)
  obtain⟨a,xs,q1,q2⟩:=e2.rf j ts h2
  exact⟨a,xs,Dg h1 q1,q2⟩
 ·obtain⟨j,h1,n1⟩:=Jz m1
  obtain⟨j',h2,n2⟩:=Jz m2
  have:=e2.dis j j' a n1 n2 (JB h1 q1) (JB h2 q2)
  subst this
  exact I k k' j h1 h2
 ·by_cases h1:b=D
  ·subst h1
   rw[sV]at h
   rw[jB]
   exact h
  ·by_cases h2:OU src ρ1 σ F b
   ·rw[uP h1 h2]at h
    rw[cP h1]
    exact h
   ·rw[sW h1 h2]at h
    exact e2.pn b o h
 ·obtain⟨j,h1,n1⟩:=Jz m
  have q:=JB h1 q
  have wa:=e1.addr n1 q
  have nD:a≠D:=λz=>by subst z; exact e1.wn a wa hD
  have nO:¬OU src ρ1 σ F a:=by
   rintro(⟨j',m',q',u'⟩|⟨j',ts,d',z⟩)
   ·have:=e1.dis j j' a n1 m' q q'
    subst this
    exact u' k h1
   ·exact gH.dm j' j ts a d' n1 q z
  rw[sW nD nO]
  exact e1.pd j a n1 q
theorem aR.abG{xs ys:List V}{ρ : En}{τ : St}{H:Hp}{W':Addr->Prop}(e:aR (jr t src ρ1 σ F H1 D xs) W' ρ τ H)(w:W' D)(h0:t.H0 D=none):aR (jr t src ρ1 σ F H1 D ys) W' ρ τ (upd H D (.lst ys)):=by
 have ne:∀i a,Mu ρ i -> τ[i]?=some (some (.ref a))->a≠D:=λi a m q z=>by
  subst z
  have:=e.pd i a m q
  rw[sV]at this
  cases this
 obtain⟨F',e⟩:=e
 have Tw:∀i ts,ρ[i]?=some (Sl.dp ts)->∀b∈F' i,b≠D:=λi ts h b hb z=>by
  subst z
  have:=e.db i ts h b hb
  rw[sV]at this
  cases this
 refine⟨F',e.len,e.zw,e.z0,λb z=>?_,λb o h n=>?_,λb h=>?_,λi u h=>?_,λi ts h=>?_,λi ts h=>?_,e.dis,λb o h=>?_,λi a m q=>?_,λi ts h=>?_,e.dd,e.dm,λi ts h b hb=>?_,⟨e.tab.ok.upd (e.pn D _ sV),e.tab.w,e.tab.r,λb z=>?_⟩⟩
 ·by_cases q:b=D
  ·subst q; exact .inl ⟨ys,jB⟩
  ·unfold Lt; rw[cP q]; exact e.wl b z
 ·rw[cP]
  ·exact e.f0 b o h n
  ·rintro rfl
   have h:t.H0 b=some o:=h
   rw[h0]at h
   cases h
 ·by_cases q:b=D
  ·subst q; exact h0
  ·rw[cP q]at h; exact e.n0 b h
 ·rw[uw w]
  exact e.sh i u h
 ·obtain⟨a,zs,q1,q2,q3,q4,q5⟩:=e.ow i ts h
  rw[uw w]
  exact⟨a,zs,q1,q2,q3,by rw[cP (ne i a ⟨ts,.inl h⟩ q1)]; exact q4,q5⟩
 ·obtain⟨a,zs,q1,q2,q3,q4,q5⟩:=e.rf i ts h
  rw[uw w]
  exact⟨a,zs,q1,q2,q3,by rw[cP (ne i a ⟨ts,.inr h⟩ q1)]; exact q4,q5⟩
 ·by_cases h1:b=D
  ·subst h1
   rw[sV]at h
   rw[jB]
   exact h
  ·rw[cP h1]
   refine e.pn b o ?_
   by_cases h2:OU src ρ1 σ F b
   ·rw[uP h1 h2]at h ⊢; exact h
   ·rw[sW h1 h2]at h ⊢; exact h
 ·have nD:=ne i a m q
  have z:=e.pd i a m q
  by_cases h2:OU src ρ1 σ F a
  ·rw[uP nD h2]at z ⊢; exact z
  ·rw[sW nD h2]at z ⊢; exact z
 ·obtain⟨a,zs,q1,d⟩:=e.dp i ts h
  exact⟨a,zs,q1,d.move rfl rfl (by rw[uw w]; exact Same.refl _) (λb hb=>by obtain⟨_,_,_,ww,_⟩:=d; exact(ww b hb).1) λb o hb q=>by rw[cP (Tw i ts h b hb)]; exact q⟩
 ·have nD:=Tw i ts h b hb
  have z:=e.db i ts h b hb
  by_cases h2:OU src ρ1 σ F b
  ·rw[uP nD h2]at z ⊢; exact z
  ·rw[sW nD h2]at z ⊢; exact z
 ·have y:=e.tab.B b z
  have nD:b≠D:=λq=>by
   subst q
   rw[sV]at y
   cases y
  by_cases h2:OU src ρ1 σ F b
  ·rw[uP nD h2]at y ⊢; exact y
  ·rw[sW nD h2]at y ⊢; exact y
theorem EOF.leave{xs:List V}{ρ : En}{τ : St}{H:Hp}{Wx:Addr->Prop}{js:List Nat}(I:Inj src)(gH:EOF t W ρ1 σ H1 F)(hD:H1 D=none)(e:aR (jr t src ρ1 σ F H1 D xs) (λb=>W b\/b=D) ρ τ H)(nx:∀b o,¬W b->H1 b=some o->H b=some o)
  (hj:∀k j:Nat,src[k]?=some (some j)->k∉js) (ag:∀k,k∉js -> τ[k]?=(jw src σ)[k]?) (so:cZ src ρ ρ1=true) (w1:∀b,W b->Wx b) (w2:∀b,Wx b->W b\/b=D):EOF t Wx (bW src ρ ρ1) σ H F:=by
 have e1:aR t W ρ1 σ H1:=⟨F,gH⟩
 have m1:Same (bf W H1) (bf Wx H):=λb o h=>by
  obtain⟨n,h⟩:=lN h
  rw[iu]
  ·exact nx b o n h
  ·intro z
   rcases w2 b z with z|rfl
   ·exact n z
   ·rw[hD]at h; cases h
 have m2:Same (bf (λb=>W b\/b=D) H) (bf Wx H):=pA (λb _ _ z=>w2 b z) λ_ _ _ h=>h
 have Dh:∀j,Mu (bW src ρ ρ1) j->Mu ρ1 j:=λj m=>by
  obtain⟨ts,m|m⟩:=m <;> rcases uO I m with⟨k,us,q1,q2,q3⟩|⟨n,q⟩
  ·exact wI ⟨ts,.inl q3⟩
  ·exact⟨ts,.inl q⟩
  ·exact wI ⟨ts,.inr q3⟩
  ·exact⟨ts,.inr q⟩
 have inner:∀(k j:Nat) (ts:List Tr) (a:Addr),src[k]?=some (some j)->(ρ[k]?=some (.ow ts)\/ρ[k]?=some (.rf ts)) -> σ[j]?=some (some (.ref a))->∃ys,H a=some (.lst ys)/\aQ t.K (bf Wx H) ys ts:=λk j ts a q1 q2 q3=>by
  have z:=ag k (hj k j q1)
  rw[Dg q1 q3]at z
  rcases q2 with q2|q2
  ·obtain⟨c,ys,h1,h2,h3,h4,h5⟩:=e.ow k ts q2
   rw[z]at h1
   cases h1
   exact⟨ys,h4,h5.mono m2⟩
  ·obtain⟨c,ys,h1,h2,h3,h4,h5⟩:=e.rf k ts q2
   rw[z]at h1
   cases h1
   exact⟨ys,h4,h5.mono m2⟩
 have outer:∀(j:Nat) (a:Addr) (ys:List V),Mu ρ1 j->(∀k,src[k]?=some (some j)->¬Mu ρ k) -> σ[j]?=some (some (.ref a))->H1 a=some (.lst ys)->H a=some (.lst ys):=λj a ys m n q h=>by
  have wa:=e1.addr m q
  have nD:a≠D:=λz=>by subst z; exact e1.wn a wa hD
  refine e.pn a _ ?_
  rw[uP nD (.inl ⟨j,m,q,λk z=>n k z (Jy so z m)⟩)]
  exact h
 refine⟨by rw[uN]; exact e1.len,λb z=>w1 b (e1.zw b z),e1.z0,λb z=>e.wl b (w2 b z),e.f0,e.n0,λj u h=>?_,λj ts h=>?_,λj ts h=>?_,λj k a n1 n2=>e1.dis j k a (Dh j n1) (Dh k n2),λb o h=>?_,λj a m=>e1.pd j a (Dh j m),λj ts h=>?_,λj k ts us n h1 h2=>gH.dd j k ts us n (wK I h1) (wK I h2),λj k ts c h1 m q=>gH.dm j k ts c (wK I h1) (Dh k m) q,λj ts h=>gH.db j ts (wK I h),⟨e.tab.ok,λb z=>w1 b (e1.tab.w b z),e1.tab.r,e1.tab.B⟩⟩
 ·have h' : ρ1[j]?=some (.sh u):=by
   rcases uO I h with⟨k,us,q1,q2,q3⟩|⟨n,q⟩
   ·rcases uL q3 with⟨ne,_⟩|⟨_,⟨_,_,z⟩|⟨_,_,z⟩|⟨_,q⟩⟩
    ·exact(ne rfl).elim
    ·cases z
    ·cases z
    ·exact q
   ·exact q
  obtain⟨v,q1,q2⟩:=e1.sh j u h'
  exact⟨v,q1,q2.mono m1⟩
 ·rcases uO I h with⟨k,us,q1,q2,q3⟩|⟨n,q⟩
  ·rcases uL q3 with⟨ne,_⟩|⟨_,⟨ts0,q0,z⟩|⟨_,_,z⟩|⟨nm,q⟩⟩
   ·exact(ne rfl).elim
   ·cases z
    obtain⟨a,ys,h1,h2,h3,h4,h5⟩:=e1.ow j ts0 q0
    obtain⟨zs,k1,k2⟩:=inner k j ts a q1 q2 h1
    exact⟨a,zs,h1,w1 a h2,h3,k1,k2⟩
   ·cases z
   ·exact(nm ⟨ts,.inl q⟩).elim
  ·obtain⟨a,ys,h1,h2,h3,h4,h5⟩:=e1.ow j ts q
   exact⟨a,ys,h1,w1 a h2,h3,outer j a ys ⟨ts,.inl q⟩ n h1 h4,h5.mono m1⟩
 ·rcases uO I h with⟨k,us,q1,q2,q3⟩|⟨n,q⟩
  ·rcases uL q3 with⟨ne,_⟩|⟨_,⟨_,_,z⟩|⟨ts0,q0,z⟩|⟨nm,q⟩⟩
   ·exact(ne rfl).elim
   ·cases z
   ·cases z
    obtain⟨a,ys,h1,h2,h3,h4,h5⟩:=e1.rf j ts0 q0
    obtain⟨zs,k1,k2⟩:=inner k j ts a q1 q2 h1
    exact⟨a,zs,h1,w1 a h2,h3,k1,k2⟩
   ·exact(nm ⟨ts,.inr q⟩).elim
  ·obtain⟨a,ys,h1,h2,h3,h4,h5⟩:=e1.rf j ts q
   exact⟨a,ys,h1,w1 a h2,h3,outer j a ys ⟨ts,.inr q⟩ n h1 h4,h5.mono m1⟩
 ·have nD:b≠D:=λz=>by
   subst z
   rw[e1.SJ hD]at h
   cases h
  have nO:¬OU src ρ1 σ F b:=by
   rintro(⟨j,m,q,_⟩|⟨j,ts,d',z⟩)
   ·rw[e1.pd j b m q]at h
    cases h
   ·rw[gH.db j ts d' b z]at h
    cases h
  refine e.pn b o ?_
  rw[sW nD nO]
  exact h
 ·have hd:=wK I h
  obtain⟨a,ys,q1,d⟩:=gH.dp j ts hd
  have ww:∀b∈F j,W b:=λb hb=>by obtain⟨_,_,_,ww,_⟩:=d; exact(ww b hb).1
  refine⟨a,ys,q1,d.move rfl rfl m1 (λb hb=>w1 b (ww b hb)) λb o hb q=>?_⟩
  have nD:b≠D:=λz=>by subst z; exact e1.wn b (ww b hb) hD
  refine e.pn b o ?_
  rw[uP nD (.inr ⟨j,ts,hd,hb⟩)]
  exact q
end
def bL:Rv->Rs Tr
 |.v T _=>.ok T
 |.s _=>.bad
theorem abH(r:Rv)(c:Str):bL r ≠ .ex c:=by cases r <;> (intro z; cases z)
def jy(g:GF)(c:BF)(f:EF):List Tr->En->Rs (List Tr × En)
 | [],ρ=>.ok ([],ρ)
 |u::us,ρ=>(g u ρ).bind λρ1=>(c ρ1).bind λb=>if b.1=true then(f b.2).bind λp=>(bL p.1).bind λT=>(jy g c f us p.2).bind λz=>.ok (T::z.1,z.2)else jy g c f us b.2
def cM(src:List (Option Nat))(fi:IF)(g:GF)(c:BF)(f:EF):EF:=λρ=>(fi ρ).bind λp=>if p.1.length<=100000 then(bU (jy g c f p.1 (cG src p.2))).bind λz=>if cZ src z.2 p.2=true then .ok (.v (.lst z.1) true,bW src z.2 p.2)else .bad else .bad
theorem JC{t:Tx}{wi:TI}{g:TG}{src:List (Option Nat)}{tc:TT}{te:TE}{fi:IF}{gf:GF}{c:BF}{f:EF}{js:List Nat}(hi:SI t wi fi)(I:Inj src)(hj:∀k j:Nat,src[k]?=some (some j)->k∉js)(ng:∀T ρ c,gf T ρ ≠ .ex c)
  (hg:∀t':Tx,t'.K=t.K->(∀c,¬t'.EX c)->SG t' g gf js) (hc:∀t':Tx,t'.K=t.K->(∀c,¬t'.EX c)->ST t' tc c) (he:∀t':Tx,t'.K=t.K->(∀c,¬t'.EX c)->SE t' te f):SE t (wJ wi g src tc te) (cM src fi gf c f):=λW ρ σ H Q e h=>by
 refine hi W ρ σ H _ e (Rs.bH (Rs.aY h) λp h J H1 e1 s1 it=>?_)
 obtain⟨us,ρ1⟩:=p
 dsimp only at h it e1
 split at h
 case isFalse=>exact h.elim
 rename_i hlen
 intro D hD
 have h:=CW (Rs.aY h)
 obtain⟨F,gH⟩:=id e1
 have wD:∀b,W b->b≠D:=λb w z=>by subst z; exact e1.wn b w hD
 have h0D:t.H0 D=none:=e1.n0 D hD
 refine⟨λi m τ H'=>m=us.length-i/\i<=us.length/\∃ρ' xs acc,aR (jr t src ρ1 σ F H1 D xs) (λb=>W b\/b=D) ρ' τ H'/\aQ t.K (bf (λb=>W b\/b=D) H') xs acc/\xs.length<=i/\(∀b o,¬W b->H1 b=some o->H' b=some o)/\(∀k,k∉js -> τ[k]?=(jw src σ)[k]?) /\
   (jy gf c f (us.drop i) ρ').post (λ_=>False) (λz=>(if cZ src z.2 ρ1=true then .ok (.v (.lst (acc++z.1)) true,bW src z.2 ρ1)else .bad:Rs (Rv × En)).post t.EX (λp=>∀v H',aR t W p.2 σ H'->bY W H H'->iI t W p.2 σ H H' v p.1->Q v H')),?_,?_⟩
 ·refine⟨us.length,by simp,Nat.zero_le _,cG src ρ1,[],[],gH.enter I hD,.nil,Nat.le_refl _,λb o _ q=>?_,λ_ _=>rfl,?_⟩
  ·rw[cP (oY q hD)]; exact q
  ·rw[List.drop_zero]; exact h
 ·rintro i m τ H2 ⟨rfl,hi,ρ2,xs,acc,e2,r2,l2,n2,a2,h2⟩
  have sm:Same (bf W H1) (bf (λb=>W b\/b=D) H2):=λb o q=>by
   obtain⟨nw,q⟩:=lN q
   rw[iu]
   ·exact n2 b o nw q
   ·rintro(z|rfl)
    ·exact nw z
    ·rw[hD]at q; cases q
  have q:=it _ H2 sm e2.wl i
  by_cases hlt:i<us.length
  ·rw[List.drop_eq_getElem_cons hlt]at h2
   obtain⟨go,y⟩:=q.2 us[i] (by simp[hlt])
   refine .inr ⟨go,λx H3 yl=>?_⟩
   obtain⟨s3,r3⟩:=y x H3 yl
   have e3:=e2.grow s3
   refine hg (jr t src ρ1 σ F H1 D xs) rfl (λ_=>id) _ ρ2 τ H3 x us[i] _ e3 r3 (Rs.bH (jW (Rs.aY h2) (ng _ _)) λρ4 h σ4 e4 a4=>?_)
   refine hc (jr t src ρ1 σ F H1 D xs) rfl (λ_=>id) _ ρ4 σ4 H3 _ e4 (Rs.bH (Rs.aY h) λb h H5 e5 s5=>?_)
   have mH:bY (λb=>W b\/b=D) H2 H5:=(bY.of s3).trans s5
   have n5:∀b o,¬W b->H1 b=some o->H5 b=some o:=λb o nw qb=>by
    have nD:b≠D:=oY qb hD
    refine mH.keep b o ?_ (n2 b o nw qb)
    rintro(z|z)
    ·exact nw z
    ·exact nD z
   have a5:∀k,k∉js -> σ4[k]?=(jw src σ)[k]? := λk nk=>(a4 k nk).trans (a2 k nk)
   split at h
   ·rename_i cb
    rw[if_pos cb]
    refine he (jr t src ρ1 σ F H1 D xs) rfl (λ_=>id) _ b.2 σ4 H5 _ e5 (Rs.bH (Rs.aY h) λp h v H6 e6 s6 v6=>?_)
    obtain⟨T,kT,h⟩:=dG (Rs.aY h) (abH _)
    have rv:Rep t.K (bf (λb=>W b\/b=D) H6) v T:=by
     obtain⟨r,ρ7⟩:=p
     cases r with
     |s i=>cases kT
     |v U fr =>
      cases kT
      exact eU.rep (K:=t.K) e5.wn v6.1
    refine⟨xs,e6.pn D _ sV,Nat.lt_of_le_of_lt (show xs.length<=100000 by omega) (by decide),us.length-(i+1),by omega,rfl,hlt,p.2,xs++[v],acc++[T],e6.abG (.inr rfl) h0D,?_,by rw[List.length_append]; simp; omega,λb o nw q=>?_,a5,?_⟩
    ·rw[uw (.inr rfl)]
     exact(r2.mono (mH.trans s6).off).app (.cons rv .nil)
    ·have nD:b≠D:=oY q hD
     rw[cP nD]
     refine s6.keep b o ?_ (n5 b o nw q)
     rintro(z|z)
     ·exact nw z
     ·exact nD z
    ·refine Rs.bH (Rs.aY h) λz h=>?_
     rw[List.append_assoc]
     exact h
   ·rename_i cb
    rw[if_neg cb]
    exact⟨us.length-(i+1),by omega,rfl,hlt,b.2,xs,acc,e5,r2.mono mH.off,by omega,n5,a5,h⟩
  ·have z:i=us.length:=by omega
   subst z
   rw[List.drop_length]at h2
   have h2:(if cZ src ρ2 ρ1=true then .ok (.v (.lst (acc++[])) true,bW src ρ2 ρ1)else .bad:Rs (Rv × En)).post t.EX _:=h2
   refine .inl ⟨q.1 rfl,?_⟩
   split at h2
   ·rename_i so
    rw[List.append_nil]at h2
    have hxs:H2 D=some (.lst xs):=e2.pn D _ sV
    have eW:aR t W (bW src ρ2 ρ1) σ H2:=⟨F,gH.leave (Wx:=W) I hD e2 n2 hj a2 so (λ_ w=>w) λ_ w=>.inl w⟩
    have eD:sG t W D (bW src ρ2 ρ1) σ H2:=⟨F,gH.leave (Wx:=λb=>W b\/b=D) I hD e2 n2 hj a2 so (λ_ w=>.inl w) λ_ w=>w,λi ts hi z=>by
     obtain⟨c,ys,_,bs,_,_,ww,_⟩:=gH.dp i ts (wK I hi)
     exact wD D (ww D z).1 rfl⟩
    have st:bY W H1 H2:=⟨n2,λb q=>by
     cases z:H1 b with
     |none=>rfl
     |some o =>
      by_cases w:W b
      ·exact((e2.wl b (.inl w)).ne q).elim
      ·rw[n2 b o w z]at q
       cases q⟩
    refine h2 (.ref D) H2 eW (s1.trans st) ⟨⟨D,xs,acc,rfl,rfl,s1.dom D hD,hxs,r2.mono λb o q=>?_⟩,λU a _ ea=>?_⟩
    ·obtain⟨nb,q⟩:=lN q
     rw[off_ne λz=>nb (.inr z),iu λz=>nb (.inl z)]
     exact q
    ·cases ea
     exact eD
   ·exact h2.elim
def cU:BF:=λρ=>.ok (true,ρ)
theorem abI{wi:TI}{g:TG}{src:List (Option Nat)}{te:TE}:um wi g src te=wJ wi g src (λ_ H Q=>Q true H) te:=by
 funext σ H Q
 simp only[um,wJ,if_true]
theorem uQ{t:Tx}{wi:TI}{g:TG}{src:List (Option Nat)}{te:TE}{fi:IF}{gf:GF}{f:EF}{js:List Nat}(hi:SI t wi fi)(I:Inj src)(hj:∀k j:Nat,src[k]?=some (some j)->k∉js)(ng:∀T ρ c,gf T ρ ≠ .ex c)
  (hg:∀t':Tx,t'.K=t.K->(∀c,¬t'.EX c)->SG t' g gf js) (he:∀t':Tx,t'.K=t.K->(∀c,¬t'.EX c)->SE t' te f):SE t (um wi g src te) (cM src fi gf cU f):=by
 rw[abI]
 exact JC hi I hj ng hg (λt' _ _ W ρ σ H Q e h=>h H e (bY.refl _ _)) he
end L2
end
section
namespace L2
open PySem PySem.Spec PyProof.Rows
theorem PS.mG{X:Cx}{st:Stmt}{t:TS}(h:PS X.mG st t):PS X st t:=⟨λpins s σ H D I hw =>
 wpAny_mono (h pins s σ H D (I.wish _) hw) (λ_ _ q=>q.nR) λ_ _ z=>False.elim z⟩
theorem aR.ex{t:Tx}{EX:Str->Prop}{W:Addr->Prop}{ρ : En}{σ : St}{H:Hp}(e:aR t W ρ σ H):aR {t with EX:=EX } W ρ σ H:=e.elim λF e=>⟨F,e.len,e.zw,e.z0,e.wl,e.f0,e.n0,e.sh,e.ow,e.rf,e.dis,e.pn,e.pd,e.dp,e.dd,e.dm,e.db,⟨e.tab.ok,e.tab.w,e.tab.r,e.tab.B⟩⟩
theorem aR.Di{t:Tx}{EX:Str->Prop}{W:Addr->Prop}{ρ : En}{σ : St}{H:Hp}(e:aR {t with EX:=EX } W ρ σ H):aR t W ρ σ H:=e.elim λF e=>⟨F,e.len,e.zw,e.z0,e.wl,e.f0,e.n0,e.sh,e.ow,e.rf,e.dis,e.pn,e.pd,e.dp,e.dd,e.dm,e.db,⟨e.tab.ok,e.tab.w,e.tab.r,e.tab.B⟩⟩
def gk(f:SF):SF:=λρ=>bU (f ρ)
theorem Tz{t:Tx}{ts:TS}{f:SF}(h:∀t':Tx,t'.K=t.K->(∀c,¬t'.EX c)->SS t' ts f):SS t ts (gk f):=λW ρ σ H D e q=>by
 refine h {t with EX:=λ_=>False } rfl (λ_=>id) W ρ σ H D e.ex (Rs.bH (CW q) λp q=>?_)
 obtain⟨fl,ρ'⟩:=p
 cases fl with
 |nx=>exact λW' σ' H' e' n=>q W' σ' H' e'.Di n
 |rt T fr =>
  refine λv W' σ' H' e' n=>q v W' σ' H' e'.Di ?_
  cases fr <;> exact n
 |bk=>exact λW' σ' H' e' n=>q W' σ' H' e'.Di n
 |ct=>exact λW' σ' H' e' n=>q W' σ' H' e'.Di n
theorem abJ{p:Int->Int->Int}(a b:Tr)(c:Str):gI p a b ≠ .ex c:=by
 cases a <;> cases b <;> (intro z; cases z)
theorem JD{q:Int->Int->Bool}{p:Int->Int->Int}(a b:Tr)(c:Str):eF q p a b ≠ .ex c:=by
 cases a <;> cases b <;> first|(intro z; cases z; done)|(dsimp only[eF]; split <;> (intro z; cases z))
theorem JF{p:Int->Int->Bool}(a b:Tr)(c:Str):gB p a b ≠ .ex c:=by
 cases a <;> cases b <;> (intro z; cases z)
theorem abK(a b:Tr)(c:Str):aH a b ≠ .ex c:=by unfold aH; split <;> (intro z; cases z)
theorem abL(a b:Tr)(c:Str):bF a b ≠ .ex c:=by unfold bF; split <;> (intro z; cases z)
theorem abM{f:Bool->Bool}(a b:Tr)(c:Str):bT f a b ≠ .ex c:=by
 cases b <;> first|(intro z; cases z; done)|(dsimp only[bT]; split <;> (intro z; cases z))
theorem TF{f:Bool->Bool}(a b:Tr)(c:Str):fL f a b ≠ .ex c:=by
 cases b <;> (intro z; cases z)
theorem abN(a b:Tr)(c:Str):aO a b ≠ .ex c:=by
 cases a <;> cases b <;> first|(intro z; cases z; done)|(dsimp only[aO]; split <;> (intro z; cases z))
theorem abO(a b:Tr)(c:Str):dU a b ≠ .ex c:=by
 cases a <;> cases b <;> first|(intro z; cases z; done)|(dsimp only[dU]; split <;> (intro z; cases z))
theorem abP(a b:Tr)(c:Str):gQ a b ≠ .ex c:=JD a b c
theorem abQ(a b:Tr)(c:Str):dF a b ≠ .ex c:=JD a b c
theorem abR(a b:Tr)(c:Str):gU a b ≠ .ex c:=JD a b c
theorem abS(a b:Tr)(c:Str):dw a b ≠ .ex c:=abJ a b c
theorem abT(a b:Tr)(c:Str):cN a b ≠ .ex c:=JF a b c
theorem JG(a b:Tr)(c:Str):dg a b ≠ .ex c:=JF a b c
theorem abU(a b:Tr)(c:Str):fW a b ≠ .ex c:=JF a b c
theorem abV(a b:Tr)(c:Str):bV a b ≠ .ex c:=by
 cases a <;> cases b <;> first|(intro z; cases z; done)|(dsimp only[bV]; split <;> (intro z; cases z))
theorem abW(a b:Tr)(c:Str):aB a b ≠ .ex c:=by
 cases a <;> cases b <;> first|(intro z; cases z; done)|(dsimp only[aB]; split <;> first|(intro z; cases z; done)|(split <;> (intro z; cases z)))
theorem abX(a:Tr)(c:Str):sI a ≠ .ex c:=by cases a <;> (intro z; cases z)
theorem abY(a:Tr)(c:Str):aL a ≠ .ex c:=by
 cases a <;> first|(intro z; cases z; done)|(dsimp only[aL]; split <;> (intro z; cases z))
theorem abZ(a:Tr)(c:Str):iU a ≠ .ex c:=by cases a <;> (intro z; cases z)
theorem ab0(a:Tr)(c:Str):d7 a ≠ .ex c:=by cases a <;> (intro z; cases z)
theorem ab1(a:Tr)(c:Str):jD a ≠ .ex c:=by unfold jD; split <;> (intro z; cases z)
theorem ab2(a b:Tr)(c:Str):gY a b ≠ .ex c:=by cases a <;> cases b <;> (intro z; cases z)
theorem ab3(a b:Tr)(c:Str):gZ a b ≠ .ex c:=by cases a <;> cases b <;> (intro z; cases z)
theorem ab4(a:Tr)(c:Str):dI a ≠ .ex c:=by
 cases a <;> first|(intro z; cases z; done)|(dsimp only[dI]; split <;> (intro z; cases z))
theorem iW{i:Nat}(T:Tr)(ρ : En)(c:Str):gN i T ρ ≠ .ex c:=by intro z; cases z
theorem ab5(Ts:List Tr)(ρ : En)(c:Str):jN Ts ρ ≠ .ex c:=by cases Ts <;> (intro z; cases z)
theorem ab6{f:GF}{g:oG}(h1:∀T ρ c,f T ρ ≠ .ex c)(h2:∀T ρ c,g T ρ ≠ .ex c)(Ts:List Tr)(ρ : En)(c:Str):eV f g Ts ρ ≠ .ex c:=by
 cases Ts with
 |nil=>intro z; cases z
 |cons T r=>exact Tc (h1 T ρ) (λρ'=>h2 r ρ') c
theorem ab7{n:Nat}{f:oG}(h:∀T ρ c,f T ρ ≠ .ex c)(T:Tr)(ρ : En)(c:Str):gT n f T ρ ≠ .ex c:=by
 cases T <;> first|(intro z; cases z; done)|(dsimp only[gT]; split <;> first|exact h _ _ _|(intro z; cases z))
def wL(f:AF)(n:Nat):Prop:=∀ρ p,f ρ=.ok p->p.1.length=n
theorem lV:wL au 0:=λρ p h=>by cases h; rfl
theorem jm{f:EF}{g:AF}{n:Nat}(h:wL g n):wL (ak f g) (n+1):=λρ p q=>by
 unfold ak at q
 obtain⟨a,q1,q⟩:=kW q
 obtain⟨b,q2,q⟩:=kW q
 cases q
 rw[List.length_cons,h _ _ q2]
def Gk(K:FZ)(mg:Str->Option Value)(x:Str)(v:V)(T:Tr):Prop:=∃u,mg x=some u/\RelV v u/\∀H,Rep (aF K) H v T
theorem ab8{X:Cx}{x:Str}{v:V}{T:Tr}{pos:Pos}(h:Gk X.K X.mg x v T)(hg:Gl X x:=by rfl)(hd:(x == ("__debug__" : Str))=false:=by decide):PE X (.Name x pos) (tC v):=by
 obtain⟨u,h1,h2,_⟩:=h
 exact O1 hg h1 h2 hd
theorem zV{t:Tx}{K:FZ}{mg:Str->Option Value}{x:Str}{v:V}{T:Tr}(hK:t.K=aF K)(h:Gk K mg x v T):SE t (tC v) (eC T):=by
 obtain⟨u,_,_,h⟩:=h
 exact zG λH=>by rw[hK]; exact h H
end L2
end
section
namespace L2
open PySem PySem.Spec PyProof.Rows
section
variable {t:Tx}{K:FZ}{ta tb tc:TE}{fa fb fc:EF}
theorem wM(hK:t.K=aF K)(ha:SE t ta fa)(hb:SE t tb fb):SE t (iG (Jd K) ta tb) (ao aO fa fb):=jL (by rw[hK]; exact aaM) abN ha hb
theorem ab9(hK:t.K=aF K)(ha:SE t ta fa)(hb:SE t tb fb):SE t (iG (ju λi j=>.int (i-j)) ta tb) (ao dw fa fb):=jL (by rw[hK]; exact aaR) abS ha hb
theorem acd(hK:t.K=aF K)(ha:SE t ta fa)(hb:SE t tb fb):SE t (iG (Je K) ta tb) (ao dU fa fb):=jL (by rw[hK]; exact aaN (K:=K)) abO ha hb
theorem ace(hK:t.K=aF K)(ha:SE t ta fa)(hb:SE t tb fb):SE t (iG (rI Cz λi j=>.int (i.fdiv j)) ta tb) (ao gQ fa fb):=jL (by rw[hK]; exact aaO) abP ha hb
theorem acf(hK:t.K=aF K)(ha:SE t ta fa)(hb:SE t tb fb):SE t (iG (rI (λ_ j=>j≠0) λi j=>.int (i.fmod j)) ta tb) (ao dF fa fb):=jL (by rw[hK]; exact aaP) abQ ha hb
theorem acg(hK:t.K=aF K)(ha:SE t ta fa)(hb:SE t tb fb):SE t (iG (rI Hj λi j=>.int (i ^ j.toNat)) ta tb) (ao gU fa fb):=jL (by rw[hK]; exact aaQ) abR ha hb
theorem x_eq(hK:t.K=aF K)(ha:SE t ta fa)(hb:SE t tb fb):SE t (iG (HX K) ta tb) (ao aH fa fb):=jL (by rw[hK]; exact aaH) abK ha hb
theorem JH(hK:t.K=aF K)(ha:SE t ta fa)(hb:SE t tb fb):SE t (iG (IV K) ta tb) (ao bF fa fb):=jL (by rw[hK]; exact aaI) abL ha hb
theorem TJ(hK:t.K=aF K)(ha:SE t ta fa)(hb:SE t tb fb):SE t (iG (HY K) ta tb) (ao (bT id) fa fb):=jL (by rw[hK]; exact aaJ) abM ha hb
theorem ach(hK:t.K=aF K)(ha:SE t ta fa)(hb:SE t tb fb):SE t (iG (λx y H Q=>y=.non/\Q (.bl (decide (x=.non))) H) ta tb) (ao (fL id) fa fb):=jL (by rw[hK]; exact aaK) TF ha hb
theorem aci(hK:t.K=aF K)(ha:SE t ta fa)(hb:SE t tb fb):SE t (iG (λx y H Q=>y=.non/\Q (.bl (!decide (x=.non))) H) ta tb) (ao (fL not) fa fb):=jL (by rw[hK]; exact aaL) TF ha hb
theorem x_lt(hK:t.K=aF K)(ha:SE t ta fa)(hb:SE t tb fb):SE t (iG (Jg K) ta tb) (ao bV fa fb):=jL (by rw[hK]; exact aaU) abV ha hb
theorem Dj(hK:t.K=aF K)(ha:SE t ta fa)(hb:SE t tb fb):SE t (iG (ju λi j=>.bl (decide (j<i))) ta tb) (ao cN fa fb):=jL (by rw[hK]; exact aaS) abT ha hb
theorem x_ge(hK:t.K=aF K)(ha:SE t ta fa)(hb:SE t tb fb):SE t (iG (ju λi j=>.bl (decide (j<=i))) ta tb) (ao fW fa fb):=jL (by rw[hK]; exact aaT) abU ha hb
theorem oK(hK:t.K=aF K)(ha:SE t ta fa)(hb:SE t tb fb):SE t (iG (BX K) ta tb) (ao aB fa fb):=jL (by rw[hK]; exact aaV) abW ha hb
theorem TQ(hK:t.K=aF K){r r':R2}{g g':G2}(o:fV (aF K) r g)(o':fV (aF K) r' g')(n:∀a b c,g a b ≠ .ex c)(n':∀a b c,g' a b ≠ .ex c)(ha:SE t ta fa)(hb:SE t tb fb)(hc:SE t tc fc):SE t (BL r r' ta tb tc) (uF g g' fa fb fc):=aa4 (by rw[hK]; exact o) (by rw[hK]; exact o') n n' ha hb hc
theorem acj(ha:SE t ta fa):SE t (yP (rU λi=>.int (-i)) ta) (j5 sI fa):=Jh aaW abX ha
variable {tl:TA}{fl:AF}
theorem x_len(hK:t.K=aF K)(ha:SA t tl fl):SE t (jh (Jj K) tl) (bh (g1 aL) fl):=sJ (by rw[hK]; exact wC aa9) (wB abY) ha
theorem acn(hK:t.K=aF K)(ha:SA t tl fl):SE t (jh (λxs H Q=>∃i,xs=[.int i]/\Q (.int (if i<0 then -i else i)) H) tl) (bh (g1 iU) fl):=sJ (by rw[hK]; exact wC abb) (wB abZ) ha
theorem aco(hK:t.K=aF K)(ha:SA t tl fl):SE t (jh (λxs H Q=>∃p ys,xs=[.ref p]/\((cJ K H p ys/\∀l,H l=none->Q (.ref l) (upd H l (.tup ys)))\/(dZ K H p ys/\Q (.ref p) H))) tl) (bh (g1 d7) fl):=sJ (by rw[hK]; exact wC abd) (wB ab0) ha
theorem acp(hK:t.K=aF K)(ha:SA t tl fl):SE t (jh (Il K) tl) (bh (g1 jD) fl):=sJ (by rw[hK]; exact wC abe) (wB ab1) ha
theorem JK(hK:t.K=aF K)(ha:SA t tl fl):SE t (jh (Ib K) tl) (bh (g1 dI) fl):=sJ (by rw[hK]; exact wC abh) (wB ab4) ha
theorem acq(hK:t.K=aF K)(ha:SA t tl fl):SE t (jh (λxs H Q=>∃i j,xs=[.int i,.int j]/\Q (.int (if j<i then j else i)) H) tl) (bh (g2 gY) fl):=sJ (by rw[hK]; exact Sx abf) (Sw ab2) ha
theorem acr(hK:t.K=aF K)(ha:SA t tl fl):SE t (jh (λxs H Q=>∃i j,xs=[.int i,.int j]/\Q (.int (if j > i then j else i)) H) tl) (bh (g2 gZ) fl):=sJ (by rw[hK]; exact Sx abg) (Sw ab3) ha
theorem qL(hK:t.K=aF K){cl:Str->Addr}{n:Nat}{F:FP}{E:XK}(hx:∀c H',F0 t H'->t.EX c->E (.ref (cl c)) none H')(hn:wL fl n)(ha:SA t tl fl):SE t (o9 (bA K cl n F) [] E tl) (bB F fl):=S9 hK hx hn ha
theorem Dk(hK:t.K=aF K){cl:Str->Addr}{n:Nat}{F:FP}{E:XK}(hx:∀c,¬t.EX c)(hn:wL fl n)(ha:SA t tl fl):SE t (o9 (bA K cl n F) [] E tl) (bB F fl):=S9 hK (λc H' _ q=>(hx c q).elim) hn ha
theorem acs(hK:t.K=aF K){n r nl:Nat}{b:SF}{E:XK}(hn:wL fl n)(ha:SA t tl fl):SE t (o9 (iC K n r (fX nl r b)) [] E tl) (cj r (fX nl r b) fl):=abB hK (abA nl r b) hn ha
end
end L2
end
section
namespace L2
open PySem PySem.Spec PyProof.Rows
def zW(i:Nat)(ρ : En):Nat:=match ρ[i]? with
 |some (.sh (.int n))=>n.natAbs+1
 |_=>0
theorem sX{src:List (Option Nat)}{js:List Nat}(h:js.all (λk=>(src[k]?).join.isNone)=true):∀k j:Nat,src[k]?=some (some j)->k∉js:=λk j q m=>by
 have:=List.all_eq_true.mp h k m
 rw[q]at this
 cases this
abbrev sY:List Value:=[.type "ValueError",.type "Exception",.type "BaseException",.type "object"]
def TV:G1
 |.lst ts=>.ok (.lst ts.reverse,true)
 |_=>.bad
def acu(fa:EF):EF:=λρ=>(fa ρ).bind λp=>(dr p.2 p.1).bind λa=>(TV a).bind λz=>.ok (.v z.1 z.2,p.2)
end L2
end
section
namespace L2
open PySem PySem.Spec PyProof.Rows
def uR(i:Int):TE:=λ_ H Q=>Q (.int i) H
def kI:Const->Option Int
 |.int i=>some i
 |_=>none
def bI(o:Operator)(i j:Int):Option Int:=match o with
 |.Sub=>some (i-j)
 |.Add=>some (i+j)
 |.Pow=>if 0<=j/\j<=100/\i.natAbs<=1000 then some (i ^ j.toNat)else none
 |_=>none
def uI(o:UnaryOp)(i:Int):Option Int:=match o with
 |.USub=>some (-i)
 |_=>none
def cI:Expr->Option Int
 |.Constant c _ _=>kI c
 |.UnaryOp o e _=>(cI e).bind (uI o)
 |.BinOp a o b _=>(cI a).bind λi=>(cI b).bind λj=>bI o i j
 |_=>none
theorem acv{X:Cx}{c:Const}{k:Nat}{p:Pos}{i:Int}(h:kI c=some i):PE X (.Constant c k p) (uR i):=by
 cases c <;> first|(cases h; exact aJ)|cases h
theorem acw{X:Cx}{o:UnaryOp}{e:Expr}{p:Pos}{i k:Int}(h:uI o i=some k)(he:PE X e (uR i)):PE X (.UnaryOp o e p) (uR k):=by
 cases o <;> first|(cases h; exact(Hi Hl he).imp λσ H Q q=>⟨i,rfl,q⟩)|cases h
theorem acy{X:Cx}{o:Operator}{a b:Expr}{p:Pos}{i j k:Int}(h:bI o i j=some k)(ha:PE X a (uR i))(hb:PE X b (uR j)):PE X (.BinOp a o b p) (uR k):=by
 cases o <;> try cases h
 ·exact(bK Qe ha hb).imp λσ H Q q=>⟨i,j,rfl,rfl,q⟩
 ·exact(bK rO ha hb).imp λσ H Q q=>⟨i,j,rfl,rfl,q⟩
 ·dsimp only[bI]at h
  split at h
  ·rename_i c
   cases h
   have z:(2:Nat) ^ 64=18446744073709551616:=by decide
   exact(bK BK ha hb).imp λσ H Q q=>⟨i,j,rfl,rfl,⟨c.1,by omega,by omega⟩,q⟩
  ·cases h
theorem Dl{X:Cx}(e:Expr)(k:Int)(h:cI e=some k):PE X e (uR k):=by
 cases e with
 |Constant c _ _=>exact acv h
 |UnaryOp o a _ =>
  have h:(cI a).bind (uI o)=some k:=h
  cases e1:cI a with
  |none=>rw[e1]at h; cases h
  |some i=>rw[e1]at h; exact acw h (Dl a i e1)
 |BinOp a o b _ =>
  have h:((cI a).bind λi=>(cI b).bind λj=>bI o i j)=some k:=h
  cases e1:cI a with
  |none=>rw[e1]at h; cases h
  |some i =>
   cases e2:cI b with
   |none=>rw[e1,e2]at h; cases h
   |some j=>rw[e1,e2]at h; exact acy h (Dl a i e1) (Dl b j e2)
 |_=>cases h
def kT:Const->Option Tr
 |.none=>some .non
 |.bool b=>some (.bl b)
 |.str x=>some (.str x)
 |.int i=>some (.int i)
 |_=>none
mutual
noncomputable def cT:Expr->Option Tr
 |.Constant c _ _=>kT c
 |.Tuple es _ _=>(mY es).map .tup
 |.List es _=>(mY es).map .lst
 |.UnaryOp o a p=>(cI (.UnaryOp o a p)).map .int
 |.BinOp a o b p=>(cI (.BinOp a o b p)).map .int
 |_=>none
noncomputable def mY:List Expr->Option (List Tr)
 | []=>some []
 |e::r=>match cT e,mY r with
  |some T,some Ts=>if Ts.length<1000 then some (T::Ts)else none
  |_,_=>none
end
theorem JL:∀{es:List Expr} {Ts:List Tr},mY es=some Ts->Ts.length<=1000
 | [],Ts,h=>by
  unfold mY at h
  cases h
  decide
 |e::r,Ts,h=>by
  unfold mY at h
  split at h
  ·split at h
   ·cases h
    rename_i h1
    rw[List.length_cons]
    omega
   ·cases h
  ·cases h
section
variable {X:Cx}{e:Expr}{es:List Expr}{T:Tr}{Ts:List Tr}{pos:Pos}{k:Nat}{G:FZ}
theorem acz:PA X [] (v9 G []):=aD.imp λσ H Q q=>q [] H (Same.refl _) λ_ _=>.nil
theorem acA(h:PE X e (v8 G T))(r:PA X es (v9 G Ts))(hs:starEach (e::es) X.env=(false,eval e X.env)::starEach es X.env):PA X (e::es) (v9 G (T::Ts)) :=
 (qt h r hs).imp λσ H Q q v H1 s1 rv vs H2 s2 rs=>q (v::vs) H2 (s1.trans s2) λPr p=>.cons ((rv Pr p).mono (p.mono s2)) (rs Pr (p.le s1))
theorem acB(h:PA X es (v9 G Ts))(hl:Ts.length<=1000):PE X (.Tuple es k pos) (v8 G (.tup Ts)) :=
 (kh h).imp λσ H Q q vs H1 s1 rs=>by
  by_cases hv:vs.length<=sizeLine
  ·exact⟨hv,λa ha=>q (.ref a) _ (s1.trans (gw ha _)) λPr p=>.tup (dZ.of ((p.le s1).new (Same.refl _) ha)) ((rs Pr p).mono (p.mono (gw ha _)))⟩
  ·exact absurd (Nat.le_of_lt (Hx (by rw[(rs _ (Pj.id H)).length]; exact hl))) hv
theorem TY(h:PA X es (v9 G Ts))(hl:Ts.length<=1000):PE X (.List es pos) (Ck G Ts) :=
 (jc h).imp λσ H Q q vs H1 s1 rs=>by
  have e:=(rs _ (Pj.id H)).length
  exact⟨Nat.le_of_lt (Hx (by rw[e]; exact hl)),λa ha=>q a vs H1 s1 ha rs e⟩
theorem acC(h:PE X e (Ck G Ts)):PE X e (v8 G (.lst Ts)) :=
 h.imp λσ H Q q a xs H1 s1 ha rs _=>q (.ref a) _ (s1.trans (gw ha _)) λPr p=>.lst (cJ.of ((p.le s1).new (Same.refl _) ha)) ((rs Pr p).mono (p.mono (gw ha _)))
theorem T3(h:(cI e).map Tr.int=some T):PE X e (v8 G T):=by
 cases e1:cI e with
 |none=>rw[e1]at h; cases h
 |some i =>
  rw[e1]at h; cases h
  exact(Dl e i e1).imp λσ H Q q=>q _ H (Same.refl _) λ_ _=>.int i
end
theorem acD{e:Expr}{es:List Expr}{env:Env}{T:Tr}(h:cT e=some T):starEach (e::es) env=(false,eval e env)::starEach es env:=by
 cases e <;> first|rfl|(unfold cT at h; cases h)
theorem acE{X:Cx}{G:FZ}{c:Const}{k:Nat}{p:Pos}{T:Tr}(h:kT c=some T):PE X (.Constant c k p) (v8 G T):=by
 cases c <;> try cases h
 ·exact fB.imp λσ H Q q=>q _ H (Same.refl _) λ_ _=>.non
 ·exact iQ.imp λσ H Q q=>q _ H (Same.refl _) λ_ _=>.bl _
 ·exact aJ.imp λσ H Q q=>q _ H (Same.refl _) λ_ _=>.int _
 ·exact bR.imp λσ H Q q=>q _ H (Same.refl _) λ_ _=>.str _
mutual
theorem acF{X:Cx}{G:FZ}(e:Expr)(T:Tr)(h:cT e=some T):PE X e (v8 G T):=by
 cases e with
 |Constant c _ _=>exact acE (by unfold cT at h; exact h)
 |Tuple es _ _ =>
  unfold cT at h
  cases e:mY es with
  |none=>rw[e]at h; cases h
  |some Ts =>
   rw[e]at h
   cases h
   exact acB (Dm es Ts e) (JL e)
 |List es _ =>
  unfold cT at h
  cases e:mY es with
  |none=>rw[e]at h; cases h
  |some Ts =>
   rw[e]at h
   cases h
   exact acC (TY (Dm es Ts e) (JL e))
 |UnaryOp o a p=>exact T3 (by unfold cT at h; exact h)
 |BinOp a o b p=>exact T3 (by unfold cT at h; exact h)
 |_=>unfold cT at h; cases h
theorem Dm{X:Cx}{G:FZ}:∀(es:List Expr) (Ts:List Tr),mY es=some Ts->PA X es (v9 G Ts)
 | [],Ts,h=>by
  unfold mY at h; cases h
  exact acz
 |e::r,Ts,h=>by
  unfold mY at h
  cases e1:cT e with
  |none=>rw[e1]at h; cases h
  |some T =>
   cases e2:mY r with
   |none=>rw[e1,e2]at h; cases h
   |some Us =>
    rw[e1,e2]at h
    dsimp only at h
    split at h
    ·cases h
     exact acA (acF e T e1) (Dm r Us e2) (acD e1)
    ·cases h
end
theorem mZ{X:Cx}{G:FZ}{es:List Expr}{pos:Pos}{Ts:List Tr}(h:mY es=some Ts):PE X (.List es pos) (Ck G Ts):=TY (Dm es Ts h) (JL h)
end L2
end
section
namespace L2
open PySem PySem.Spec PyProof.Rows
theorem Pj.bf{W:Addr->Prop}{H:Hp}(hw:∀b,W b->H b≠none):Pj (L2.bf W) H where
 mono:=λs=>(bY.of s).off
 sub:=λH=>jK W H
 new:=λ{H' r o} s h=>by
  rw[iu λw=>hw r w (s.free h)]
  exact jB
def iy(Ts:List Tr):EF:=λρ=>.ok (.v (.lst Ts) true,ρ)
theorem JM{t:Tx}{K:FZ}(hK:t.K=aF K){Ts:List Tr}:SE t (Ck (aF K) Ts) (iy Ts):=λW ρ σ H Q e h=>λa xs H1 s ha r _=>by
 rw[<-hK]at r
 have e1:=e.grow s
 exact h _ _ (e1.grow (gw ha _)) ((bY.of s).trans (bY.of (gw ha _))) ((iI.of (σ' := σ) e1 (gw ha _) (eU.new ha (r _ (Pj.bf e.wn)))).back λb q=>s.free q)
end L2
end
section
namespace L2
open PySem PySem.Spec PyProof.Rows
def zX:Expr->Bool
 |.ListComp .. => false
 |.SetComp .. => false
 |.DictComp .. => false
 |_=>true
theorem JN{e:Expr}{t:Option Expr}{l:Nat}{env:Env}(h:zX e=true):swapsWith e t l env=pure false:=by
 cases e <;> first|rfl|(unfold zX at h; cases h)
section
variable {X:Cx}{x:Str}{e:Expr}{es:List Expr}{te:TE}{ta:TA}{pos pos' p:Pos}{k:Nat}{ps:List Str}{sp:Sp}{E:XK}
theorem aq(i:Nat)(hN:X.N[i]?=some x:=by kernel_rfl)(hv:X.env.scope.names.lookup x=some .local:=by kernel_rfl)(hd:(x == ("__debug__" : Str))=false:=by kernel_rfl) (hc:(x == ("__classdict__" : Str))=false:=by kernel_rfl):PE X (.Name x pos) (yK i):=OJ hN (.inl hv) hd hc
theorem lW(i:Nat)(hN:X.N[i]?=some x:=by kernel_rfl)(hv:X.env.scope.names.lookup x=some .cell:=by kernel_rfl)(hd:(x == ("__debug__" : Str))=false:=by kernel_rfl) (hc:(x == ("__classdict__" : Str))=false:=by kernel_rfl):PE X (.Name x pos) (yK i):=OJ hN (.inr (.inl hv)) hd hc
theorem cB(i:Nat)(hN:X.N.Nodup)(he:PE X e te)(hi:X.N[i]?=some x:=by kernel_rfl)(hx:X.env.scope.names.lookup x=some .local:=by kernel_rfl)(h:zX e=true:=by kernel_rfl):PS X (.Assign [.Name x pos'] e pos) (rJ te (fQ i)):=Py hN hi (.inl hx) he (JN h) (.inr hx)
theorem psC(i:Nat)(hN:X.N.Nodup)(hf:X.fn x=true)(he:PE X e te)(hi:X.N[i]?=some x:=by kernel_rfl)(hx:X.env.scope.names.lookup x=some .cell:=by kernel_rfl)(h:zX e=true:=by kernel_rfl):PS X (.Assign [.Name x pos'] e pos) (rJ te (fQ i)):=Py hN hi (.inr hx) he (JN h) (.inl hf)
theorem psE(he:PE X e te)(h:zX e=true:=by kernel_rfl):PS X (.Expr e pos) (GZ te):=Yl he (JN h)
theorem dB(i:Nat)(hN:X.N.Nodup)(hi:X.N[i]?=some x:=by kernel_rfl)(hx:X.env.scope.names.lookup x=some .local:=by kernel_rfl):PG X (.Name x pos) (fQ i):=Ym hN hi (.inl hx) (.inr hx)
theorem T4(D:aU X.prog X.w X.K X.mg X.base k x ps sp)(hr:gP k X.A)(hx:Passes (j4 X.prog X.w) X E)(ha:PA X (e::es) ta)(hg:X.env.kindOf x=some .globalImplicit:=by kernel_rfl)(hdb:(x == ("__debug__" : Str))=false:=by kernel_rfl)
  (he:notStar e=true:=by kernel_rfl) (hpl:(backTo pos (starEach es X.env)).any (·.1)=false:=by kernel_rfl):PE X (.Call (.Name x p) (e::es) [] pos) (o9 sp [] E ta):=aby D hr hx ha hg hdb (mU he) hpl
theorem dM{r:List V->Hp->VK->Prop}{id:String}(hc:g8 X (.builtin id) r)(hm:X.mg x=none)(ha:PA X (e::es) ta)(hv:bootBuiltins x=some (.builtin id):=by decide +kernel)(hg:X.env.kindOf x=some .globalImplicit:=by kernel_rfl)(hn:x ≠ "__name__" := by decide +kernel) (hdb:(x == ("__debug__" : Str))=false:=by kernel_rfl)
  (he:notStar e=true:=by kernel_rfl) (hpl:(backTo pos (starEach es X.env)).any (·.1)=false:=by kernel_rfl):PE X (.Call (.Name x p) (e::es) [] pos) (jh r ta):=BR hc hg hm hv ha hn hdb (mU he) hpl
theorem qN{r:List V->Hp->VK->Prop}{T:String}(hc:g8 X (.type T) r)(hm:X.mg x=none)(ha:PA X (e::es) ta)(hv:bootBuiltins x=some (.type T):=by decide +kernel)(hg:X.env.kindOf x=some .globalImplicit:=by kernel_rfl)(hn:x ≠ "__name__" := by decide +kernel) (hdb:(x == ("__debug__" : Str))=false:=by kernel_rfl)
  (he:notStar e=true:=by kernel_rfl) (hpl:(backTo pos (starEach es X.env)).any (·.1)=false:=by kernel_rfl):PE X (.Call (.Name x p) (e::es) [] pos) (jh r ta):=YM hc hg hm hv ha hn hdb (mU he) hpl
theorem lX(hX:Cj X.K)(c:Ty){q:Pos}(he:PE X e te)(h1:X.mg "isinstance" = none) (h2:X.mg x=none) (hb:bootBuiltins x=some (.type c.name):=by decide +kernel) (hg1:X.env.kindOf "isinstance" = some .globalImplicit:=by kernel_rfl) (hg2:X.env.kindOf x=some .globalImplicit:=by kernel_rfl) (hn:x ≠ "__name__" := by decide +kernel) (hd:(x == ("__debug__" : Str))=false:=by kernel_rfl)
  (hs:notStar e=true:=by kernel_rfl):PE X (.Call (.Name "isinstance" p) [e,.Name x q] [] pos) (jh (Ci X.K) (iR te (iR (tC (.ty c.name)) lH))):=ZW hX c he h1 h2 hb hg1 hg2 hn hd (mU hs)
theorem aA{t:TA}(ha:PE X e te)(hr:PA X es t)(h:notStar e=true:=by kernel_rfl):PA X (e::es) (iR te t):=qt ha hr (mU h)
theorem wN{v:V}{T:Tr}(h:Gk X.K X.mg x v T)(hg:X.env.kindOf x=some .globalImplicit:=by kernel_rfl)(hd:(x == ("__debug__" : Str))=false:=by kernel_rfl):PE X (.Name x pos) (tC v):=ab8 h hg hd
theorem wO{a tg:Expr}(hm:X.mg "range" = none) (ha:PA X [a] ta) (hg:X.env.kindOf "range" = some .globalImplicit:=by kernel_rfl) (hs:notStar a=true:=by kernel_rfl):PI X tg (.Call (.Name "range" p) [a] [] pos) (G9 ta):=Ys hg hm ha (mU hs)
theorem acG{a b tg:Expr}(hm:X.mg "range" = none) (ha:PA X [a,b] ta) (hg:X.env.kindOf "range" = some .globalImplicit:=by kernel_rfl) (hs:notStar a=true:=by kernel_rfl) (hs2:notStar b=true:=by kernel_rfl):PI X tg (.Call (.Name "range" p) [a,b] [] pos) (Hf ta):=Yt hg hm ha (by rw[mU hs,mU hs2]; rfl) (mU hs2)
end
end L2
end
section
namespace L2
open PySem PySem.Spec PyProof.Rows
section
variable {t:Tx}{W:Addr->Prop}{ρ : En}{σ : St}{H:Hp}
def eY(ρ : En)(i:Nat):Rs (List Tr):=match ρ[i]? with
 |some (.dp ts)=>.ok ts
 |_=>.bad
end
end L2
end
section
namespace L2
open PySem PySem.Spec PyProof.Rows
abbrev QF:=En->Rs Tr
section
variable {t:Tx}{K:FZ}
def acH(i:Nat):QF:=λρ=>match ρ[i]? with
 |some (.sh T)=>.ok T
 |_=>.bad
def qC(T:Tr):QF:=λ_=>.ok T
def pD(ts:List Tr)(k:Tr):Rs (Nat × Tr):=match k with
 | .int i=>(match dY ts.length i with
  | some j=>(match ts[j]? with
   |some u=>.ok (j,u)
   |none=>.bad)
  |none=>.bad)
 |_=>.bad
def acI(i:Nat)(fk fj:QF):QF:=λρ=>(eY ρ i).bind λts=>(fk ρ).bind λk=>(pD ts k).bind λz=>match z.2 with
 |.lst us=>(fj ρ).bind λj=>(pD us j).bind λy=>.ok y.2
 |_=>.bad
def acJ(i:Nat)(fk:QF)(m:GM)(fa:QF):SF:=λρ=>(eY ρ i).bind λts=>(bU (fk ρ)).bind λk=>(pD ts k).bind λz=>match z.2 with
 |.lst us=>(bU (fa ρ)).bind λT=>(m us [T]).bind λy=>.ok (.nx,ρ.set i (.dp (ts.set z.1 (.lst y.1))))
 |_=>.bad
noncomputable def acK(i:Nat)(fk fj:QF)(fe:EF):SF:=λρ=>(fe ρ).bind λp=>(bL p.1).bind λT=>(eY p.2 i).bind λts=>(bU (fk p.2)).bind λk=>(pD ts k).bind λz=>match z.2 with
 |.lst us=>(bU (fj p.2)).bind λj=>(pD us j).bind λy=>.ok (.nx,p.2.set i (.dp (ts.set z.1 (.lst (us.set y.1 T)))))
 |_=>.bad
def gq(i:Nat)(ρ : En):En:=match ρ[i]? with
 |some (.dp ts)=>ρ.set i (.ow ts)
 |_=>ρ
def acL(i:Nat)(f:SF):SF:=λρ=>f (gq i ρ)
end
end L2
end
section
namespace L2
open PySem PySem.Spec PyProof.Rows
section
variable {t:Tx}{src:List (Option Nat)}{ρ1:En}{σ : St}{F:Nat->List Addr}{H1 P:Hp}{D:Addr}{W:Addr->Prop}
end
end L2
end
section
namespace L2
open PySem PySem.Spec PyProof.Rows
def gJ:Rv->Rs Tr
 |.v (.lst us) true=>.ok (.lst us)
 |_=>.bad
def Dn(g:GF)(c:BF)(f:EF):List Tr->En->Rs (List Tr × En)
 | [],ρ=>.ok ([],ρ)
 |u::us,ρ=>(g u ρ).bind λρ1=>(c ρ1).bind λb=>if b.1=true then(f b.2).bind λp=>(gJ p.1).bind λT=>(Dn g c f us p.2).bind λz=>.ok (T::z.1,z.2)else Dn g c f us b.2
def acM(i:Nat)(src:List (Option Nat))(fi:IF)(g:GF)(c:BF)(f:EF):SF:=λρ=>(fi ρ).bind λp=>if p.1.length<=100000 then(bU (Dn g c f p.1 (cG src p.2))).bind λz=>if cZ src z.2 p.2=true then .ok (.nx,(bW src z.2 p.2).set i (.dp z.1))else .bad else .bad
end L2
end
section
namespace L2
open PySem PySem.Spec PyProof.Rows
variable {t:Tx}
def nM(us vs:List Tr):List Tr:=(us.zip vs).map λp=>.tup [p.1,p.2]
theorem acN{K:FZ}{W:Addr->Prop}{H:Hp}{a b:Addr}{xs ys:List V}{us vs:List Tr}(q1:cJ (aF K) (bf W H) a xs)(r1:aQ (aF K) (bf W H) xs us)(q2:cJ (aF K) (bf W H) b ys)(r2:aQ (aF K) (bf W H) ys vs):uK (aF K) W H (Iz K a b) (nM us vs):=λW' H' m hw i=>by
 have JQ:cJ K H' a xs:=((jK W' H').seq (m.seq q1)).toK
 have JR:cJ K H' b ys:=((jK W' H').seq (m.seq q2)).toK
 refine⟨λz=>⟨xs,ys,JQ,JR,by rw[r1.length,r2.length,z]; simp[nM]⟩,λu hu=>?_⟩
 unfold nM at hu
 rw[List.getElem?_map]at hu
 obtain⟨p,hp,rfl⟩:=Option.map_eq_some_iff.mp hu
 obtain⟨h1,h2⟩:=List.getElem?_zip_eq_some.mp hp
 obtain⟨x,hx,rx⟩:=r1.uz h1
 obtain⟨y,hy,ry⟩:=r2.uz h2
 refine⟨⟨xs,ys,x,y,JQ,JR,hx,hy⟩,λv ji yl=>?_⟩
 obtain⟨T,x',y',rfl,fT,rfl,z⟩:=yl
 obtain⟨z1,z2⟩:=z xs ys JQ JR
 rw[hx]at z1
 rw[hy]at z2
 cases z1
 cases z2
 have nW:¬W' T:=λw=>(hw T w).ne fT
 have sm:Same H' (upd H' T (.tup [x,y])):=gw fT _
 have so:Same (bf W' H') (bf W' (upd H' T (.tup [x,y]))):=λb u q=>(Ja (o:=.tup [x,y]) fT b u q |> λz=>(IK _ _ b u z))
 refine⟨sm,.tup (xs:=[x,y]) (.inl (.inl ?_)) (.cons ((rx.mono m).mono so) (.cons ((ry.mono m).mono so) .nil))⟩
 unfold bf
 rw[if_neg nW,jB]
def pF(fa:AF):IF:=λρ=>(fa ρ).bind λp=>match p.1 with
 | [.v (.lst us) _,.v (.lst vs) _]=>.ok (nM us vs,p.2)
 |_=>.bad
theorem acO{K:FZ}(hK:t.K=aF K){ta:TA}{fa:AF}(ha:SA t ta fa):SI t (RW K ta) (pF fa):=λW ρ σ H R e h=>by
 refine ha W ρ σ H _ e (Rs.bH (Rs.aY h) λp h vs H1 e1 s1 v1=>?_)
 split at h
 ·rename_i us _ ws _ ep
  rw[ep]at v1
  cases v1 with
  |cons h1 r1 =>
   cases r1 with
   |cons h2 r2 =>
    cases r2
    have h1:=h1.rep e.wn
    have h2:=h2.rep e.wn
    rw[hK]at h1 h2
    cases h1 with
    |lst q1 p1 =>
     cases h2 with
     |lst q2 p2 =>
      refine⟨_,_,rfl,⟨_,((jK _ _).seq q1).toK⟩,⟨_,((jK _ _).seq q2).toK⟩,h _ H1 e1 s1 ?_⟩
      rw[hK]
      exact acN q1 p1 q2 p2
 ·exact h.elim
end L2
end
section
namespace L2
open PySem PySem.Spec PyProof.Rows
section
variable {K:FZ}
end
end L2
end
section
namespace L2
open PySem PySem.Spec PyProof.Rows
section
variable {kf:Value->Int × Int}
def q1(kf:Value->Int × Int)(xs:Array Keyed)(i:Nat):Int:=match xs[i]? with|some p=>(kf p.1).1|none=>0
def q2(kf:Value->Int × Int)(xs:Array Keyed)(i:Nat):Int:=match xs[i]? with|some p=>(kf p.1).2|none=>0
def Kl(kf:Value->Int × Int)(xs:Array Keyed)(i j:Nat):Prop:=q1 kf xs i<q1 kf xs j\/(q1 kf xs i=q1 kf xs j/\q2 kf xs i<q2 kf xs j)
instance {kf:Value->Int × Int}{xs:Array Keyed}{i j:Nat}:Decidable (Kl kf xs i j):=by unfold Kl; infer_instance
end
section
variable {prog:Program}{w:World}{A:Around}{E:Value->Shared->Prop}{s:Shared}{N:Nat}{kd:SortKind}{kf:Value->Int × Int}
structure SB(a₀ : Array Keyed)(kd:SortKind)(st:SortSt):Prop where
 pm:(arrOf st).Perm a₀
 kn:kindOf st=kd
 fl:failedOf st=none
 pd:pendingOf st = #[]
noncomputable def Asks(prog:Program)(w:World)(A:Around)(E:Value->Shared->Prop)(s:Shared)(a₀ : Array Keyed)(kd:SortKind)(kf:Value->Int × Int):Prop :=
 ∀(st:SortSt) (i j:Nat) (Q:Option Bool->SortSt->Prop),SB a₀ kd st->i<a₀.size->j<a₀.size->Q (some (decide (Kl kf (arrOf st) i j))) st->wpS (model prog w) A E s (ltAt' i j) Q st
variable {a₀ : Array Keyed}(ask:Asks prog w A E s a₀ kd kf)
include ask
end
end L2
end
section
namespace L2
open PySem PySem.Spec PyProof.Rows PySem.W
section
variable {X:Cx}{pins:List (Addr × Obj)}{σ : St}{H:Hp}{s:Shared}
end
section
variable {X:Cx}
end
section
variable {X:Cx}{pins:List (Addr × Obj)}{σ : St}{H:Hp}{s:Shared}{Kv:Hp->Value->Int × Int->Prop}{kd:SortKind}{a kS:Addr}{n:Nat}{kz:Nat->Int × Int}{vs:List Value}
end
end L2
end
section
namespace L2
open PySem PySem.Spec PyProof.Rows PySem.W
section
variable {X:Cx}{pins:List (Addr × Obj)}{σ : St}{H:Hp}{s:Shared}{Kv:Hp->Value->Int × Int->Prop}{kd:SortKind}{n:Nat}{kz:Nat->Int × Int}{vs:List Value}{f:Value}
end
end L2
end
section
namespace L2
open PySem PySem.Spec PyProof.Rows PySem.W
section
variable {X:Cx}{pins:List (Addr × Obj)}{σ : St}{H:Hp}{s:Shared}{sc scope:Scope}{No Ns:List Str}{src:List (Option Nat)}{x qual:Str}
end
end L2
end
section
namespace L2
open PySem PySem.Spec PyProof.Rows PySem.W
def zY(mg:Str→Option Value)(base:Heap):Prop:=∃bm ob,mg "__builtins__" = some (.ref bm)∧bm≠builtinsNs∧bm≠mainGlobals∧base.get? bm=some ob∧ob.cls=.type "module" ∧ ob.dict=some builtinsNs∧ob.data=.plain
section
variable {X:Cx}{pins:List (Addr × Obj)}{σ : St}{H:Hp}{s:Shared}{sc scope:Scope}{No Ns:List Str}{src:List (Option Nat)}{x:Str}
end
end L2
end
section
namespace L2
open PySem PySem.Spec PyProof.Rows PySem.W
abbrev KW:=Hp->V->Int × Int->Prop
section
variable {X:Cx}{sc scope:Scope}{No Ns:List Str}{src:List (Option Nat)}{x:Str}{Kw:KW}{kd:SortKind}
end
end L2
end
section
namespace L2
open PySem PySem.Spec PyProof.Rows PySem.W
def JT(kz:Nat->Int × Int)(i j:Nat):Prop:=((kz i).1<(kz j).1\/((kz i).1=(kz j).1/\(kz i).2<(kz j).2))\/(((kz i).1=(kz j).1/\(kz i).2=(kz j).2)/\i<j)
instance {kz:Nat->Int × Int}{i j:Nat}:Decidable (JT kz i j):=by unfold JT; infer_instance
def Dp(kz:Nat->Int × Int)(i:Nat):List Nat->List Nat
 | []=>[i]
 |j::r=>if JT kz i j then i::j::r else j::Dp kz i r
def T5(n:Nat)(kz:Nat->Int × Int):List Nat:=(List.range n).foldr (Dp kz) []
theorem acP(kz:Nat->Int × Int)(i:Nat):∀l,(Dp kz i l).Perm (i::l)
 | []=>.refl _
 |j::r=>by
  unfold Dp
  split
  ·exact .refl _
  ·exact((acP kz i r).cons j).trans (.swap i j r)
abbrev RF:=List (Option Tr)->Rs Tr
section
variable {K:FZ}{ta tb:TE}{fa fb:RF}
end
def slT(ρ : En)(j:Nat):Option Tr:=match ρ[j]? with
 |some (.sh T)=>some T
 |some (.ow ts)=>some (.lst ts)
 |some (.rf ts)=>some (.lst ts)
 |_=>none
def T6(src:List (Option Nat))(ρ : En):List (Option Tr):=src.map λo=>o.bind (slT ρ)
def JV(kt:Tr->Option (Int × Int))(fb:RF)(ts:List (Option Tr)):List Nat->Rs (List (Int × Int))
 | []=>.ok []
 |i::r=>(fb (some (Tr.int i)::ts)).bind λT=>match kt T with
  |some k=>(JV kt fb ts r).bind λks=>.ok (k::ks)
  |none=>.bad
noncomputable def acQ(kt:Tr->Option (Int × Int))(src:List (Option Nat))(fa:AF)(fb:RF):EF:=λρ=>(fa ρ).bind λp=>match p.1 with
 | [.v (.int n) _]=>if 0<=n/\n<64 then(bU (JV kt fb (T6 src p.2) (List.range n.toNat))).bind λks=>.ok (.v (.lst ((T5 n.toNat λi=>ks.getD i (0,0)).map λi:Nat=>Tr.int i)) true,p.2)else .bad
 |_=>.bad
end L2
end
section
namespace L2
open PySem PySem.Spec PyProof.Rows PySem.W
section
variable {P:Program}{w:World}{K:FZ}{mg:Str->Option Value}{base:Heap}
end
theorem JW{o:Obj}{d:Data}(h:(fK o).data=d)(n:d ≠ .fields #[]):fK o=o:=by
 unfold fK at h ⊢
 split at h
 ·exact(n h.symm).elim
 ·rename_i q
  rw[if_neg q]
theorem acR{K:FZ}{x:Str}{z:Addr × Addr}(h:tabIn (aF K) x=some z):tabIn K x=some z:=by
 unfold tabIn at h
 split at h
 ·rename_i f hf
  have g1:nsIn K mainGlobals x=some (some (.ref f)):=by
   unfold nsIn at hf
   rw[pB]at hf
   cases e:K.lookup mainGlobals with
   |none=>rw[e]at hf; cases hf
   |some o =>
    rw[e]at hf
    unfold nsIn
    rw[e]
    have q:fK o=o:=by
     dsimp only[Option.map]at hf
     split at hf
     ·rename_i a b es ep c eq
      have eq:fK o=⟨a,b,.dict es ep,c⟩:=Option.some.inj eq
      exact JW (d:=.dict es ep) (by rw[eq]) (by intro z; cases z)
     ·cases hf
    dsimp only[Option.map]at hf
    rw[q]at hf
    exact hf
  split at h
  ·rename_i a b fd osl hfo
   have g2:K.lookup f=some ⟨a,b,.func fd,osl⟩:=by
    rw[pB]at hfo
    cases e:K.lookup f with
    |none=>rw[e]at hfo; cases hfo
    |some o =>
     rw[e]at hfo
     have eq:fK o=⟨a,b,.func fd,osl⟩:=Option.some.inj hfo
     rw[JW (d:=.func fd) (by rw[eq]) (by intro z; cases z)]at eq
     rw[eq]
   split at h
   ·rename_i c hc
    split at h
    ·rename_i a' b' vs T7 hco
     split at h
     ·rename_i Pp hv
      cases h
      have g3:K.lookup c=some ⟨a',b',.fields vs,T7⟩:=by
       rw[pB]at hco
       cases e:K.lookup c with
       |none=>rw[e]at hco; cases hco
       |some o =>
        rw[e]at hco
        have eq:fK o=⟨a',b',.fields vs,T7⟩:=Option.some.inj hco
        rw[JW (d:=.fields vs) (by rw[eq]) (by intro z; injection z with z; subst z; simp at hv)]at eq
        rw[eq]
      unfold tabIn
      rw[g1]
      dsimp only
      rw[g2]
      dsimp only
      rw[hc]
      dsimp only
      rw[g3]
      dsimp only
      rw[hv]
     ·cases h
    ·cases h
   ·cases h
  ·cases h
 ·cases h
theorem acS{K:FZ}{x:Str}(a:nsIn K mainGlobals x=some none):tabIn K x=none:=by
 unfold tabIn
 rw[a]
end L2
end
section
namespace L2
open PySem PySem.Spec PyProof.Rows PySem.W
section
variable {X:Cx}
end
def eLR(fa:AF):EF:=λρ=>(fa ρ).bind λp=>match p.1 with
 | [.v (.int n) _]=>if 0<=n/\n<=1000 then .ok (.v (.lst ((List.range n.toNat).map λi:Nat=>Tr.int i)) true,p.2)else .bad
 |_=>.bad
end L2
end
section
namespace L2
open PySem PySem.Spec PyProof.Rows
section
variable {t:Tx}{K:FZ}
def acT(F:FR)(fa:EF):EF:=λρ=>(fa ρ).bind λp=>match p.1 with
 |.v (.lst us) true=>(F [.lst us]).bind λz=>.ok (.v z.1.1 z.1.2,p.2)
 |_=>.bad
end
end L2
end
section
namespace L2
open PySem PySem.Spec PyProof.Rows
section
variable {X:Cx}
end
end L2
end
section
namespace L2
open PySem PySem.Spec PyProof.Rows
section
variable {P:Program}{w:World}{K:FZ}
end
section
variable {X:Cx}
end
section
variable {t:Tx}
end
section
variable {X:Cx}
end
section
variable {K:FZ}
end
end L2
end
section
namespace L2
open PySem PySem.Spec PyProof.Rows
end L2
end
section
namespace L2
open PySem PySem.Spec PyProof.Rows PySem.W
def wQ:List Str := "HeadError" :: nC
def isub(c d:Str):Bool:=c == d || d == ("HeadError" : Str)
def T8:List Ty:=[.int,.bool,.str,.tuple,.list]
def Dq(K:Frag)(cs:List Str)(p:Str->Addr->Bool):Bool:=cs.all λc=>match nsIn K mainGlobals c with
 |some (some (.ref C))=>p c C
 |_=>true
theorem JX{K:Frag}{cs:List Str}{p:Str->Addr->Bool}(h:Dq K cs p=true){c:Str}(m:c∈cs){C:Addr}(n:nsIn K mainGlobals c=some (some (.ref C))):p c C=true:=by
 have:=List.all_eq_true.mp h c m
 rw[n]at this
 exact this
noncomputable def JZ(K:Frag)(C:Addr):Bool:=findIn K (.ref C) "__getattribute__" == some (some (.builtin "BaseException.__getattribute__"))&&findIn K (.ref C) "__getattr__" == some none&&findIn K (.ref C) "__class__" == some (some (.builtin "object.__class__"))&&mroIn K C (.type "object") == some true&&mroIn K C (.type "BaseException") == some true&&(clsIn K C).isSome
theorem acU{K:Frag}{C:Addr}(h:JZ K C=true):n8 K C:=by
 unfold JZ at h
 simp only[Bool.and_eq_true]at h
 obtain⟨⟨⟨⟨⟨h1,h2⟩,h3⟩,h4⟩,h5⟩,h6⟩:=h
 exact⟨beq_iff_eq.mp h1,beq_iff_eq.mp h2,beq_iff_eq.mp h3,beq_iff_eq.mp h4,beq_iff_eq.mp h5,h6⟩
noncomputable def T9(K:Frag):Bool :=
 Dq K nC (λ_ C=>JZ K C&&T8.all (λy=>kitOne K (.ref C) (.type y.name) == some false)&&kitOne K (.ref C) (.type "ValueError") == some true) &&
 Dq K wQ (λd D=>kitOne K (.type "NoneType") (.ref D) == some false&&Dq K nC (λc C=>kitOne K (.ref C) (.ref D) == some (isub c d)&&(!(d == ("HeadError" : Str)) || exmOne K (.ref C) (.ref D) == some true))) &&
 kitOne K (.type "NoneType") (.type "ValueError") == some false&&(match K.lookup mainGlobals with
  |some o=>o.cls != .type "list"
  |none=>true)
structure iY(K:Frag):Prop where
 o:Cj K
 n:∀d∈wQ,∀D,nsIn K mainGlobals d=some (some (.ref D))->kitOne K (.type "NoneType") (.ref D)=some false
 k:∀d∈wQ,∀D,nsIn K mainGlobals d=some (some (.ref D))->∀c∈nC,∀C,nsIn K mainGlobals c=some (some (.ref C))->kitOne K (.ref C) (.ref D)=some (isub c d)
 v:∀c∈nC,∀C,nsIn K mainGlobals c=some (some (.ref C))->kitOne K (.ref C) (.type "ValueError")=some true
 vn:kitOne K (.type "NoneType") (.type "ValueError")=some false
 h:∀D,nsIn K mainGlobals "HeadError" = some (some (.ref D))->∀c∈nC,∀C,nsIn K mainGlobals c=some (some (.ref C))->exmOne K (.ref C) (.ref D)=some true
 x:∀c∈nC,∀C,nsIn K mainGlobals c=some (some (.ref C))->n8 K C
 mc:∀o,K.lookup mainGlobals=some o->o.cls ≠ .type "list"
theorem iY.of{K:Frag}(h:T9 K=true):iY K:=by
 unfold T9 at h
 simp only[Bool.and_eq_true]at h
 obtain⟨⟨⟨h1,h2⟩,h3⟩,h4⟩:=h
 have a1:∀c∈nC,∀C,nsIn K mainGlobals c=some (some (.ref C))->n8 K C/\(∀y:Ty,kitOne K (.ref C) (.type y.name)=some false)/\kitOne K (.ref C) (.type "ValueError")=some true:=λc m C n=>by
  have:=JX h1 m n
  simp only[Bool.and_eq_true]at this
  obtain⟨⟨x1,x2⟩,x3⟩:=this
  refine⟨acU x1,λy=>?_,beq_iff_eq.mp x3⟩
  have:=List.all_eq_true.mp x2 y (by cases y <;> simp[T8])
  exact beq_iff_eq.mp this
 have a2:∀d∈wQ,∀D,nsIn K mainGlobals d=some (some (.ref D))→kitOne K (.type "NoneType") (.ref D)=some false∧∀c∈nC,∀C,nsIn K mainGlobals c=some (some (.ref C))→kitOne K (.ref C) (.ref D)=some (isub c d)∧(d = "HeadError" → exmOne K (.ref C) (.ref D)=some true):=λd m D n=>by
  have:=JX h2 m n
  rw[Bool.and_eq_true]at this
  refine⟨beq_iff_eq.mp this.1,λc mc C nc=>?_⟩
  have:=JX this.2 mc nc
  rw[Bool.and_eq_true]at this
  refine⟨beq_iff_eq.mp this.1,λe=>?_⟩
  have z:=this.2
  rw[Bool.or_eq_true]at z
  rcases z with z|z
  ·rw[e]at z; cases z
  ·exact beq_iff_eq.mp z
 refine⟨λc m C n=>⟨λa=>RJ (a1 c m C n).1,(a1 c m C n).2.1⟩,λd m D n=>(a2 d m D n).1,λd m D n c mc C nc=>((a2 d m D n).2 c mc C nc).1,λc m C n=>(a1 c m C n).2.2,beq_iff_eq.mp h3,λD n c mc C nc=>((a2 "HeadError" (List.mem_cons_self ..) D n).2 c mc C nc).2 rfl,λc m C n=>(a1 c m C n).1,λo e=>?_⟩
 rw[e]at h4
 simpa using h4
def Dr:Tr->Str->Option Bool
 |.cF c,d=>some (isub c d)
 |.non,_=>some false
 |_,_=>none
def Ds:Tr->Option Bool
 |.cF _=>some true
 |.non=>some false
 |_=>none
def J0(K:Frag)(d:Str)(D:Addr):List V->Hp->VK->Prop:=λxs H Q=>∃v T b,xs=[v,.ref D]/\Rep K H v T/\Dr T d=some b/\Q (.bl b) H
def J1(K:Frag):List V->Hp->VK->Prop:=λxs H Q=>∃v T b,xs=[v,.ty "ValueError"]/\Rep K H v T/\Ds T=some b/\Q (.bl b) H
section
variable {X:Cx}
theorem acV(hX:iY X.K){d:Str}{D:Addr}(hd:d∈wQ)(hn:nsIn X.K mainGlobals d=some (some (.ref D))):g8 X (.builtin "isinstance") (J0 X.K d D):=by
 intro pins s σ H xs us Q I r h
 obtain⟨v,T,b,rfl,q1,hb,q⟩:=h
 cases q1 with
 |cF h m n =>
  cases hb
  exact RK pins s σ H _ us Q I r ⟨_,_,.ref D,_,_,rfl,h,hX.x _ m _ n,λu h=>h,hX.k d hd D hn _ m _ n,q⟩
 |non =>
  cases hb
  exact RL pins s σ H _ us Q I r ⟨.ref D,_,_,rfl,λu h=>h,hX.n d hd D hn,q⟩
 |bl y=>cases hb
 |int i=>cases hb
 |str y=>cases hb
 |tup h r=>cases hb
 |lst h r=>cases hb
theorem acW(hX:iY X.K):g8 X (.builtin "isinstance") (J1 X.K):=by
 intro pins s σ H xs us Q I r h
 obtain⟨v,T,b,rfl,q1,hb,q⟩:=h
 cases q1 with
 |cF h m n =>
  cases hb
  exact RK pins s σ H _ us Q I r ⟨_,_,.type "ValueError",_,_,rfl,h,hX.x _ m _ n,λu h=>h,hX.v _ m _ n,q⟩
 |non =>
  cases hb
  exact RL pins s σ H _ us Q I r ⟨.type "ValueError",_,_,rfl,λu h=>h,hX.vn,q⟩
 |bl y=>cases hb
 |int i=>cases hb
 |str y=>cases hb
 |tup h r=>cases hb
 |lst h r=>cases hb
variable {e:Expr}{te:TE}{x:Str}{p q pos:Pos}
theorem kY(hX:iY X.K){D:Addr}(hd:x∈wQ)(hn:nsIn X.K mainGlobals x=some (some (.ref D)))(hm:X.mg x=some (.ref D))(he:PE X e te)(h1:X.mg "isinstance" = none) (hg1:X.env.kindOf "isinstance" = some .globalImplicit:=by kernel_rfl) (hg2:X.env.kindOf x=some .globalImplicit:=by kernel_rfl) (hdb:(x == ("__debug__" : Str))=false:=by kernel_rfl)
  (hs:notStar e=true:=by kernel_rfl):PE X (.Call (.Name "isinstance" p) [e,.Name x q] [] pos) (jh (J0 X.K x D) (iR te (iR (tC (.ref D)) lH))) :=
 BR (acV hX hd hn) hg1 h1 PyProof.Rows.boot_isinstance (qt he (qt (O1 (v:=.ref D) hg2 hm rfl hdb) aD) (mU hs)) (by decide +kernel) (by kernel_rfl) (mU hs)
theorem pcV(hX:iY X.K)(he:PE X e te)(h1:X.mg "isinstance" = none) (h2:X.mg "ValueError" = none) (hg1:X.env.kindOf "isinstance" = some .globalImplicit:=by kernel_rfl) (hg2:X.env.kindOf "ValueError" = some .globalImplicit:=by kernel_rfl)
  (hs:notStar e=true:=by kernel_rfl):PE X (.Call (.Name "isinstance" p) [e,.Name "ValueError" q] [] pos) (jh (J1 X.K) (iR te (iR (tC (.ty "ValueError")) lH))) :=
 BR (acW hX) hg1 h1 PyProof.Rows.boot_isinstance (qt he (qt (O2 (v:=.ty "ValueError") hg2 h2 (by decide +kernel) rfl (by decide +kernel) (by kernel_rfl)) aD) (mU hs)) (by decide +kernel) (by kernel_rfl) (mU hs)
end
section
variable {t:Tx}{K:Frag}
def jO(d:Str)(fa:EF):EF:=λρ=>(fa ρ).bind λp=>(dr p.2 p.1).bind λa=>match Dr a d with
 |some b=>.ok (eB b,p.2)
 |none=>.bad
def J2(fa:EF):EF:=λρ=>(fa ρ).bind λp=>(dr p.2 p.1).bind λa=>match Ds a with
 |some b=>.ok (eB b,p.2)
 |none=>.bad
theorem kZ(hK:t.K=aF K){d:Str}{D:Addr}{ta:TE}{fa:EF}(ha:SE t ta fa):SE t (jh (J0 K d D) (iR ta (iR (tC (.ref D)) lH))) (jO d fa):=λW ρ σ H Q e h=>by
 refine ha W ρ σ H _ e (Rs.bH (Rs.aY h) λp h x H1 e1 s1 v1=>?_)
 obtain⟨a,k1,h⟩:=dG (Rs.aY h) (jd _ _)
 have r:=jj e1 e.wn v1.1 k1
 rw[hK]at r
 cases z:Dr a d with
 |none=>rw[z]at h; exact h.elim
 |some b =>
  rw[z]at h
  exact⟨x,a,b,rfl,r.rep.toK,z,h _ H1 e1 s1 (.low (.bl _))⟩
theorem acX(hK:t.K=aF K){ta:TE}{fa:EF}(ha:SE t ta fa):SE t (jh (J1 K) (iR ta (iR (tC (.ty "ValueError")) lH))) (J2 fa):=λW ρ σ H Q e h=>by
 refine ha W ρ σ H _ e (Rs.bH (Rs.aY h) λp h x H1 e1 s1 v1=>?_)
 obtain⟨a,k1,h⟩:=dG (Rs.aY h) (jd _ _)
 have r:=jj e1 e.wn v1.1 k1
 rw[hK]at r
 cases z:Ds a with
 |none=>rw[z]at h; exact h.elim
 |some b =>
  rw[z]at h
  exact⟨x,a,b,rfl,r.rep.toK,z,h _ H1 e1 s1 (.low (.bl _))⟩
def Pr{α : Type}(f:En->Rs (α × En)):Prop:=∀ρ,(∀p,f ρ=.ok p->p.2 = ρ)/\∀c,f ρ ≠ .ex c
theorem Dt(i:Nat):Pr (aj i):=λρ=>by
 unfold aj
 refine⟨λp h=>?_,λc h=>?_⟩ <;> (split at h <;> cases h)
 all_goals rfl
theorem Ua:Pr au:=λρ=>⟨λp h=>by cases h; rfl,λc h=>by cases h⟩
theorem J3{f:EF}{g:AF}(h1:Pr f)(h2:Pr g):Pr (ak f g):=λρ=>by
 unfold ak
 cases e1:f ρ with
 |bad=>exact⟨λp h=>(by cases h),λc h=>(by cases h)⟩
 |ex c=>exact absurd e1 ((h1 ρ).2 c)
 |ok p =>
  have z:=(h1 ρ).1 p e1
  obtain⟨r,ρ1⟩:=p
  dsimp only at z
  subst z
  show(∀p,((g ρ1).bind _)=.ok p->_)/\∀c,((g ρ1).bind _) ≠ .ex c
  cases e2:g ρ1 with
  |bad=>exact⟨λp h=>(by cases h),λc h=>(by cases h)⟩
  |ex c=>exact absurd e2 ((h2 ρ1).2 c)
  |ok q =>
   have z:=(h2 ρ1).1 q e2
   exact⟨λp h=>by cases h; exact z,λc h=>by cases h⟩
def SEX(t:Tx)(cl:Str->Addr)(te:TEX)(f:EF):Prop:=∀W ρ σ H Q (EX:St->XK),aR t W ρ σ H->(f ρ).post (λc=>∀H',aR t W ρ σ H'->bY W H H'->EX σ (.ref (cl c)) none H') (λp=>∀v H',aR t W p.2 σ H'->bY W H H'->iI t W p.2 σ H H' v p.1->Q v H')->te EX σ H Q
def SX(t:Tx)(cl:Str->Addr)(tb:TX)(f:SF):Prop:=∀W ρ σ H D (EX:St->XK),aR t W ρ σ H->(f ρ).post (λc=>∀H',aR t W ρ σ H'->bY W H H'->EX σ (.ref (cl c)) none H') (mX t W H D)->tb D EX σ H
theorem Ub(hK:t.K=aF K){cl:Str->Addr}{n:Nat}{F:FP}{ta:TA}{fa:AF}(pr:Pr fa)(hn:∀ρ p,fa ρ=.ok p->p.1.length=n)(ha:SA t ta fa):SEX t cl (Iu (bA K cl n F) ta) (bB F fa):=λW ρ σ H Q EX e h=>by
 have h:=Rs.aY h
 cases ek:fa ρ with
 |bad=>rw[ek]at h; exact h.elim
 |ex c=>exact absurd ek ((pr ρ).2 c)
 |ok p =>
 have hl:=hn ρ p ek
 have h2:=(pr ρ).1 p ek
 rw[ek]at h
 refine ha W ρ σ H _ e (post_eq ek ?_)
 intro vs H1 e1 s1 v1
 have h:((drs p.2 p.1).bind _).post _ _:=h
 obtain⟨as,k1,h⟩:=dG (Rs.aY h) (uD _ _)
 have r:=wu e1 e.wn v1 k1
 have lv:vs.length=n:=v1.length.trans hl
 have fin:∀Z:Addr->Prop,(∀b,Z b->W b)->(∀z,F as=.ok z->¬(p.1.any aX=true/\jF z=false)->(∀b,W b->Z b)\/jF z=true)->aQ (aF K) (bf Z H1) vs as->bA K cl n F vs H1 Q (EX σ):=λZ zw zs rr=>by
  refine⟨Z,as,lv,rr,λb z=>e1.wl b (zw b z),by rw[<-hK]; exact e1.tab.ok,?_⟩
  have h:=Rs.aY h
  cases ef:F as with
  |bad=>rw[ef]at h; exact h.elim
  |ex c =>
   rw[ef]at h
   intro H' sm
   rw[<-hK]at sm
   obtain⟨eg,sg⟩:=e1.CV sm
   exact h H' (h2▸eg) (s1.trans sg)
  |ok z =>
   rw[ef]at h
   have h:(if p.1.any aX=true/\jF z=false then Rs.bad else .ok (.v z.1 z.2,p.2):Rs (Rv × En)).post _ _:=h
   split at h
   ·exact h.elim
   ·rename_i c
    intro v H' sm vr
    rw[<-hK]at vr sm
    obtain⟨eg,sg⟩:=e1.CV sm
    refine h v H' eg (s1.trans sg) (iI.back (H:=H1) ?_ s1.dom)
    exact sU.Ju (W0:=W) e1.wn eg.wl (zs z ef c) vr λ_ a xs na qa=>e1.S8 sm na qa
 by_cases an:p.1.any aX=true
 ·refine fin (λ_=>False) (λ_ z=>z.elim) (λz ez c=>.inr ?_) ?_
  ·cases fz:jF z with
   |true=>rfl
   |false=>exact(c ⟨an,fz⟩).elim
  ·rw[<-hK]
   exact r.reps
 ·refine fin W (λ_ z=>z) (λz ez c=>.inl λ_ z=>z) ?_
  rw[<-hK]
  exact Jv e.wn v1 k1 (by simpa using an)
theorem Uc{cl:Str->Addr}{te:TEX}{f:EF}(i:Nat)(h1:SEX t cl te f):SX t cl (λD EX σ H=>te EX σ H λv H1=>D.nx (σ.set i (some v)) H1) (aV f (gN i)):=λW ρ σ H D EX e h=>by
 refine h1 W ρ σ H _ EX e (Rs.bH (Rs.aY h) λp h v H1 e1 s1 v1=>?_)
 obtain⟨r,ρ1⟩:=p
 cases r with
 |s i=>exact h.elim
 |v T fr=>exact h W _ H1 (e1.zN (v1.1.rep e.wn)) s1.nxt
theorem acY{cl:Str->Addr}{tc:TT}{a b:TX}{c:BF}{f g:SF}(hp:Pr c)(hc:ST t tc c)(hf:SX t cl a f)(hg:SX t cl b g):SX t cl (λD EX σ H=>tc σ H λd H1=>if d=true then a D EX σ H1 else b D EX σ H1) (bw c f g):=λW ρ σ H D EX e h=>by
 have h:=Rs.aY h
 cases ek:c ρ with
 |bad=>rw[ek]at h; exact h.elim
 |ex c=>exact absurd ek ((hp ρ).2 c)
 |ok p =>
  have z:=(hp ρ).1 p ek
  rw[ek]at h
  refine hc W ρ σ H _ e (post_eq ek ?_)
  intro H1 e1 s1
  obtain⟨d,ρ1⟩:=p
  dsimp only at z
  subst z
  cases d with
  |true =>
   have h:(f ρ1).post _ _:=h
   refine hf W ρ1 σ H1 D EX e1 ?_
   cases er:f ρ1 with
   |bad=>rw[er]at h; exact h
   |ex c=>rw[er]at h; exact λH' e' s'=>h H' e' (s1.trans s')
   |ok q=>rw[er]at h; exact mX.back h s1.nxt
  |false =>
   have h:(g ρ1).post _ _:=h
   refine hg W ρ1 σ H1 D EX e1 ?_
   cases er:g ρ1 with
   |bad=>rw[er]at h; exact h
   |ex c=>rw[er]at h; exact λH' e' s'=>h H' e' (s1.trans s')
   |ok q=>rw[er]at h; exact mX.back h s1.nxt
theorem aR.unset{W:Addr->Prop}{ρ : En}{σ : St}{H:Hp}{i:Nat}(e:aR t W ρ σ H):aR t W (ρ.set i .un) (σ.set i none) H:=by
 have mu:∀j,Mu (ρ.set i .un) j->j≠i/\Mu ρ j:=λj h=>by
  obtain⟨ts,h|h⟩:=h <;> rcases get_set h with⟨rfl,z,_⟩|⟨ne,h⟩
  ·cases z
  ·exact⟨ne,ts,.inl h⟩
  ·cases z
  ·exact⟨ne,ts,.inr h⟩
 have iB:∀j us,(ρ.set i .un)[j]?=some (.dp us)->j≠i/\ρ[j]?=some (.dp us):=λj us h=>by
  rcases get_set h with⟨rfl,z,_⟩|⟨ne,h⟩
  ·cases z
  ·exact⟨ne,h⟩
 obtain⟨F,e⟩:=e
 refine⟨F,by rw[List.length_set,List.length_set]; exact e.len,e.zw,e.z0,e.wl,e.f0,e.n0,λj u h=>?_,λj ts h=>?_,λj ts h=>?_,λj k a h1 h2 q1 q2=>?_,e.pn,λj a m q=>e.pd j a (mu j m).2 (by rw[List.getElem?_set_ne (Ne.symm (mu j m).1)]at q; exact q),
  λj us h=>?_,λj k us ws n h1 h2=>e.dd j k us ws n (iB j us h1).2 (iB k ws h2).2,λj k us c h1 m q=>e.dm j k us c (iB j us h1).2 (mu k m).2 (by rw[List.getElem?_set_ne (Ne.symm (mu k m).1)]at q; exact q),λj us h=>e.db j us (iB j us h).2,e.tab⟩
 ·rcases get_set h with⟨rfl,z,l⟩|⟨ne,h⟩
  ·cases z
  ·obtain⟨w,h1,h2⟩:=e.sh j u h
   exact⟨w,by rw[List.getElem?_set_ne (Ne.symm ne)]; exact h1,h2⟩
 ·rcases get_set h with⟨rfl,z,l⟩|⟨ne,h⟩
  ·cases z
  ·obtain⟨a,xs,h1,h2⟩:=e.ow j ts h
   exact⟨a,xs,by rw[List.getElem?_set_ne (Ne.symm ne)]; exact h1,h2⟩
 ·rcases get_set h with⟨rfl,z,l⟩|⟨ne,h⟩
  ·cases z
  ·obtain⟨a,xs,h1,h2⟩:=e.rf j ts h
   exact⟨a,xs,by rw[List.getElem?_set_ne (Ne.symm ne)]; exact h1,h2⟩
 ·obtain⟨n1,m1⟩:=mu j h1
  obtain⟨n2,m2⟩:=mu k h2
  rw[List.getElem?_set_ne (Ne.symm n1)]at q1
  rw[List.getElem?_set_ne (Ne.symm n2)]at q2
  exact e.dis j k a m1 m2 q1 q2
 ·obtain⟨ne,h⟩:=iB j us h
  obtain⟨c,ys,h1,d⟩:=e.dp j us h
  exact⟨c,ys,by rw[List.getElem?_set_ne (Ne.symm ne)]; exact h1,d⟩
def Cg(K:Frag)(mg:Str->Option Value)(x:Str)(k:Addr):Prop:=nsIn K mainGlobals x=some (some (.ref k))/\mg x=some (.ref k)
def J4(K:Frag)(cl:Str->Addr)(cs:List Str):Prop:=∀c∈cs,c∈nC/\nsIn K mainGlobals c=some (some (.ref (cl c)))
def pG(cs:List Str)(j:Nat)(fb fh:SF):SF:=λρ=>match fb ρ with
 |.bad=>.bad
 |.ok q=>.ok q
 |.ex c=>if c∈cs then(bU (fh (ρ.set j (.sh (.cF c))))).bind λq=>.ok (q.1,q.2.set j .un)else .bad
theorem acZ(hK:t.K=aF K){cl:Str->Addr}{cs:List Str}{cH:Addr}{j:Nat}{tb:TX}{ts:TS}{fb fh:SF}(hX:iY K)(hC:J4 K cl cs)(hn:nsIn K mainGlobals "HeadError" = some (some (.ref cH))) (hb:SX t cl tb fb)
  (hh:∀t':Tx,t'.K=t.K->(∀c,¬t'.EX c)->SS t' ts fh):SS t (Ry K cH j tb ts) (pG cs j fb fh):=λW ρ σ H D e h=>by
 show tb D (Cq K cH j ts D) σ H
 refine hb W ρ σ H D (Cq K cH j ts D) e ?_
 unfold pG at h
 cases ek:fb ρ with
 |bad=>rw[ek]at h; exact h.elim
 |ok q=>rw[ek]at h; exact h
 |ex c =>
  rw[ek]at h
  dsimp only at h
  split at h
  ·rename_i mc
   obtain⟨me,nc⟩:=hC c mc
   intro H' e' s'
   refine⟨cl c,rfl,hX.h cH hn c me (cl c) nc,λea fe=>?_⟩
   have sm:=gw fe (nA ea (cl c))
   have e1:=e'.grow sm
   have nw:¬W ea:=λw=>e'.wn ea w fe
   have e2:aR t W (ρ.set j (.sh (.cF c))) (σ.set j (some (.ref ea))) (upd H' ea (nA ea (cl c))):=e1.zN (by
    refine .cF (C:=cl c) ?_ me (by rw[hK]; exact aaC hX.mc nc)
    rw[iu nw,jB])
   refine hh {t with EX:=λ_=>False } rfl (λ_=>id) W _ _ _ (goes j D) e2.ex (Rs.bH (CW (Rs.aY h)) λq h=>?_)
   have Du:∀{W2:Addr->Prop} {ρ2:En} {σ2:St} {H2:Hp},aR {t with EX:=λ_=>False } W2 ρ2 σ2 H2->aR t W2 ρ2 σ2 H2:=λe=>aR.ex (t:={t with EX:=λ_=>False }) (EX:=t.EX) e
   have st:bY W H (upd H' ea (nA ea (cl c))):=s'.trans (bY.of sm)
   obtain⟨fl,ρ'⟩:=q
   have h:mX t W H D (fl,ρ'.set j .un):=h
   cases fl with
   |nx=>exact λW2 σ2 H2 e3 n3=>h W2 _ H2 (aR.unset (Du e3)) (st.nxt.trans n3)
   |rt T fr=>exact λv W2 σ2 H2 e3 r3=>h v W2 _ H2 (aR.unset (Du e3)) (by cases fr <;> exact r3)
   |bk=>exact λW2 σ2 H2 e3 n3=>h W2 _ H2 (aR.unset (Du e3)) (st.nxt.trans n3)
   |ct=>exact λW2 σ2 H2 e3 n3=>h W2 _ H2 (aR.unset (Du e3)) (st.nxt.trans n3)
  ·exact h.elim
end
section
variable {X:Cx}{e:Expr}{te:TEX}{pos:Pos}
end
end L2
end
section
namespace BH
open PySem L2
def Ud:SF:=(aC (gk (wG (zW 1) (aK (ao bF (aj 1) (eC (.int 0)))) (zQ 0 1 (ak (aj 1) (ak (ao dF (aj 0) (aj 1)) au))))) (aG (bh (g1 iU) (ak (aj 0) au))))
def Dv:FP:=aM 2 Ud
def Ue:SF:=(aG (j6 (iJ .int (aj 0)) (CJ (iJ .bool (aj 0)))))
def uT:FP:=aM 1 Ue
noncomputable def J5:SF:=(aC (bw (dz (dh (cR (iJ .tuple (aj 0)))) (aK (ao bF (bh (g1 aL) (ak (aj 0) au)) (eC (.int 2))))) (aG (eC (.bl false))) bx) (aC (aV (aj 0) (gT 2 (eV (gN 1) (eV (gN 2) jN)))) (aC (bw (dz (dh (cR (bB uT (ak (aj 1) au)))) (dh (cR (bB uT (ak (aj 2) au))))) (aG (eC (.bl false))) bx) (aG (j6 (ao fW (aj 2) (eC (.int 1))) (ao aH (bB Dv (ak (aj 1) (ak (aj 2) au))) (eC (.int 1))))))))
def nP:FP:=aM 3 J5
def J6:SF:=(aG (j6 (bB nP (ak (aj 0) au)) (uF dg dg (eC (.int 0)) (ao aB (aj 0) (eC (.int 0))) (ao aB (aj 0) (eC (.int 1))))))
def qO:FP:=aM 1 J6
def J7:SF:=(aC (bw (dz (dh (cR (iJ .list (aj 0)))) (dh (aK (uF dg dg (eC (.int 1)) (bh (g1 aL) (ak (aj 0) au)) (aj 1))))) (aG (eC (.bl false))) bx) (aG (bh (g1 dI) (ak (cM [none] (cQ (aj 0)) (gN 0) cU (bB qO (ak (aj 0) au))) au))))
def uU:FP:=aM 2 J7
noncomputable def Ug:SF:=(aC (bw (dz (dh (cR (iJ .list (aj 0)))) (dh (aK (uF dg dg (eC (.int 1)) (bh (g1 aL) (ak (aj 0) au)) (eC (.int 4)))))) (aG (eC (.bl false))) bx) (aC (bw (dh (cR (bh (g1 dI) (ak (cM [none] (cQ (aj 0)) (gN 0) cU (bB uU (ak (aj 0) (ak (eC (.int 12)) au)))) au)))) (aG (eC (.bl false))) bx) (aG (bh (g1 dI) (ak (cM [none,some 0] (cQ (aj 0)) (gN 0) cU (ao aH (bh (g1 aL) (ak (aj 0) au)) (bh (g1 aL) (ak (ao aB (aj 1) (eC (.int 0))) au)))) au)))))
def qP:FP:=aM 1 Ug
def Uh:SF:=(bw (dh (cR (bB qP (ak (aj 0) au)))) (sS "NoBook" (eC (.str "this is no book"))) bx)
def uV:FP:=aM 1 Uh
noncomputable def Ui:SF:=(aC (bw (dz (dh (cR (iJ .list (aj 0)))) (aK (ao bF (bh (g1 aL) (ak (aj 0) au)) (aj 1)))) (aG (eC (.bl false))) bx) (aG (bh (g1 dI) (ak (cM [none] (cQ (aj 0)) (gN 0) cU (j6 (bB nP (ak (aj 0) au)) (ao fW (ao aB (aj 0) (eC (.int 0))) (eC (.int 0))))) au))))
def Dw:FP:=aM 2 Ui
noncomputable def wR:SF:=(aC (bw (dh (cR (iJ .tuple (aj 0)))) (aG (eC (.bl false))) bx) (aC (bw (aK (ao bF (bh (g1 aL) (ak (aj 0) au)) (eC (.int 2)))) (aG (ao (bT id) (aj 0) (eC (.tup [(.tup [(.str "least")]),(.tup [(.str "greatest")]),(.tup [(.str "product")])])))) bx) (aC (aV (aj 0) (gT 2 (eV (gN 2) (eV (gN 3) jN)))) (aC (bw (aK (ao aH (aj 2) (eC (.str "shares")))) (aG (bB Dw (ak (aj 3) (ak (aj 1) au)))) bx) (aG (j6 (ao aH (aj 2) (eC (.str "middle"))) (j6 (bB uT (ak (aj 3) au)) (uF dg dg (eC (.int 1)) (aj 3) (aj 1)))))))))
def iD:FP:=aM 4 wR
def Uj:SF:=(bw (dh (cR (iJ .str (aj 0)))) (sS "NoText" (eC (.str "this is no text"))) bx)
def pH:FP:=aM 1 Uj
end BH
end
section
namespace L2
open PySem PySem.Spec PyProof.Rows
section
variable {X:Cx}{k j:Nat}{x:Str}{ps:List Str}{sp:Sp}{p pos:Pos}{a b e:Expr}{es:List Expr}{ta tb:TE}{tl:TA}{E:XK}
theorem bZ(ha:PE X a ta)(hb:PE X b tb)(hs:QH b:=by exact λ_ _=>rfl):PE X (.Subscript a b pos) (iG (BX X.K) ta tb):=yU yV ha hb hs
theorem pc1(D:aU X.prog X.w X.K X.mg X.base j x ps sp)(hr:gP k X.A)(hx:Passes (j4 X.prog X.w) X E)(ha:PA X (e::es) tl)(hk:j<=k:=by decide)(hg:X.env.kindOf x=some .globalImplicit:=by kernel_rfl)(hdb:(x == ("__debug__" : Str))=false:=by kernel_rfl)
  (he:notStar e=true:=by kernel_rfl) (hpl:(backTo pos (starEach es X.env)).any (·.1)=false:=by kernel_rfl):PE X (.Call (.Name x p) (e::es) [] pos) (o9 sp [] E tl):=T4 (D.mono hk) hr hx ha hg hdb he hpl
theorem gK(D:aU X.prog X.w X.K X.mg X.base j x ps sp)(hr:gP k X.A)(ha:PA X (e::es) tl)(hk:j<=k:=by decide)(hg:X.env.kindOf x=some .globalImplicit:=by kernel_rfl)(hdb:(x == ("__debug__" : Str))=false:=by kernel_rfl)
  (he:notStar e=true:=by kernel_rfl) (hpl:(backTo pos (starEach es X.env)).any (·.1)=false:=by kernel_rfl):PE X (.Call (.Name x p) (e::es) [] pos) (o9 sp [] E0 tl):=T4 (D.mono hk) hr aao ha hg hdb he hpl
end
theorem fS(N P:List Str)(sc:Scope)(kind:sc.kind=.function:=by rfl)(co:sc.isCoroutine=false:=by rfl)(gen:sc.isGenerator=false:=by rfl)(nd:N.Nodup:=by decide +kernel)(pre:N.take P.length=P:=by rfl)(par:∀x∈P,sc.names.lookup x=some .local\/sc.names.lookup x=some .cell:=by decide +kernel)(Ht:∀y∈sc.names,y.2 ≠ .free:=by decide +kernel):uf N P sc:=⟨kind,co,gen,nd,pre,par,Ht⟩
section
variable {t:Tx}{K:FZ}
theorem ac0(hK:t.K=aF K){ta:TE}{fa:EF}(ha:SE t ta fa):L2.ST t (λσ H Q=>ta σ H λx H'=>∃k,yR K x H' k/\Q k H') (cR fa):=oE hK ha
theorem ac1(hK:t.K=aF K){ts:TS}{f:SF}(h:∀t':Tx,t'.K=aF K->(∀c,¬t'.EX c)->SS t' ts f):SS t ts (gk f):=Tz λt' h' k=>h t' (h'.trans hK) k
theorem ac2(hK:t.K=aF K){wi:TI}{g:TG}{src:List (Option Nat)}{te:TE}{fi:IF}{gf:GF}{f:EF}{js:List Nat}(hi:SI t wi fi)(ng:∀T ρ c,gf T ρ ≠ .ex c)(hg:∀t':Tx,t'.K=aF K->(∀c,¬t'.EX c)->SG t' g gf js)(he:∀t':Tx,t'.K=aF K->(∀c,¬t'.EX c)->SE t' te f)(hj:∀k j:Nat,src[k]?=some (some j)->k∉js)(I:(src.filterMap id).Nodup):SE t (um wi g src te) (cM src fi gf cU f) :=
 uQ hi (qK I) hj ng (λt' h k=>hg t' (h.trans hK) k) (λt' h k=>he t' (h.trans hK) k)
theorem ac3(hK:t.K=aF K){wi:TI}{g:TG}{src:List (Option Nat)}{tc:TT}{te:TE}{fi:IF}{gf:GF}{c:BF}{f:EF}{js:List Nat}(hi:SI t wi fi)(ng:∀T ρ c,gf T ρ ≠ .ex c)(hg:∀t':Tx,t'.K=aF K->(∀c,¬t'.EX c)->SG t' g gf js)(hc:∀t':Tx,t'.K=aF K->(∀c,¬t'.EX c)->ST t' tc c)(he:∀t':Tx,t'.K=aF K->(∀c,¬t'.EX c)->SE t' te f)(hj:∀k j:Nat,src[k]?=some (some j)->k∉js)(I:(src.filterMap id).Nodup):SE t (wJ wi g src tc te) (cM src fi gf c f) :=
 JC hi (qK I) hj ng (λt' h k=>hg t' (h.trans hK) k) (λt' h k=>hc t' (h.trans hK) k) (λt' h k=>he t' (h.trans hK) k)
end
end L2
end
section
namespace L2
open PySem PySem.Spec PyProof.Rows PySem.Builtin PySem.Builtin.Str
section
variable {X:Cx}
def Dy(g:Str->Bool):V->List V->Hp->VK->Prop:=λx vs H Q=>∃z,x=.str z/\vs=[]/\Q (.bl (g z)) H
theorem ac4:vR X "str.isdigit" (Dy Txt.isdigit):=by
 intro pins s σ H x vs v us Q I rx rv h
 obtain⟨z,rfl,rfl,q⟩:=h
 obtain⟨t,rfl⟩:=rx
 cases rv
 exact SC.isdigit ⟨.bl _,H,I,rfl,q⟩
theorem ac5:vR X "str.isascii" (Dy Txt.isascii):=by
 intro pins s σ H x vs v us Q I rx rv h
 obtain⟨z,rfl,rfl,q⟩:=h
 obtain⟨t,rfl⟩:=rx
 cases rv
 exact SC.isascii ⟨.bl _,H,I,rfl,q⟩
theorem jP(z:Str)(t:Tok):RelV (.str z) (.str z t):=⟨t,rfl⟩
theorem Inv.Uk{pins:List (Addr × Obj)}{σ : St}{H:Hp}{s:Shared}{ys:List V}{its:List Value}{t':Nat}(I:Inv X pins σ H s)(hv:Vals ys its)(hz:ys.length<=sizeLine):Inv X pins σ (upd H s.heap.objs.size (.tup ys)) {s with heap:=s.heap.push {cls:=.type "tuple",data:=.seq its.toArray },toks:=t' } :=
 I.laid (λ_ _ q=>Heap.get?_push_of_some _ q) (Nat.le_refl _) (show jV X.prog X.w _ _ _ (.tup ys)from⟨hz,its,hv,IsTup.new _ _⟩)
def sZ(z y:Str):List Str:=match occurrences z y 0 z.length 1 with
 |i::_=>[strSub z 0 i,y,strSub z (i+y.length) z.length]
 | []=>[z,Str.empty,Str.empty]
def J8:V->List V->Hp->VK->Prop:=λx vs H Q=>∃z y:Str,x=.str z/\vs=[.str y]/\(y.length == 0)=false/\z.length<=sizeLine /\
 ∀a,H a=none->Q (.ref a) (upd H a (.tup ((sZ z y).map .str)))
theorem ac6:vR X "str.partition" J8:=by
 intro pins s σ H x vs v us Q I rx rv h
 obtain⟨z,y,rfl,rfl,hy,hz,q⟩:=h
 obtain⟨t,rfl⟩:=rx
 obtain⟨u,rfl,t2,rfl⟩:=rv.one
 refine call_meets F.slot_str_partition (typeIs_str _ _ _) F.entry_str_partition (F.args_str_partition_2 _ _) (meets_str_partition z y t t2 hy hz) ?_
 have q:=q s.heap.objs.size I.fresh
 unfold sZ at q
 split <;> rename_i e <;> rw[e]at q
 ·exact⟨.ref _,_,I.Uk (.cons (jP _ _) (.cons (jP _ _) (.cons (jP _ _) .nil))) (show 3<=sizeLine by decide),rfl,q⟩
 ·exact⟨.ref _,_,I.Uk (.cons (jP _ _) (.cons (jP _ _) (.cons (jP _ _) .nil))) (show 3<=sizeLine by decide),rfl,q⟩
theorem Ul:∀l:List (Str × Tok),Vals ((l.map (·.1)).map .str) (strValues l)
 | []=>.nil
 |p::r=>.cons (jP _ _) (Ul r)
theorem Um:∀{ts:List Str} {its:List Value},Vals (ts.map .str) its->∃l:List (Str × Tok),its=strValues l/\l.map (·.1)=ts
 | [],_,.nil=>⟨[],rfl,rfl⟩
 |z::ts,_,.cons r h=>by
  obtain⟨l,rfl,q⟩:=Um h
  obtain⟨t,rfl⟩:=r
  exact⟨(z,t)::l,rfl,by rw[List.map_cons,q]⟩
def J9:V->List V->Hp->VK->Prop:=λx vs H Q=>∃z y:Str,x=.str z/\vs=[.str y]/\(y.length == 0)=false/\z.length<=sizeLine/\(Txt.split z y).length<=sizeLine /\
 ∀a,H a=none->Q (.ref a) (upd H a (.lst ((Txt.split z y).map .str)))
theorem pI:vR X "str.split" J9:=by
 intro pins s σ H x vs v us Q I rx rv h
 obtain⟨z,y,rfl,rfl,hy,hz,hn,q⟩:=h
 obtain⟨t,rfl⟩:=rx
 obtain⟨u,rfl,t2,rfl⟩:=rv.one
 have q:=q s.heap.objs.size I.fresh
 cases h1:(decide (z.length<y.length) || decide (strKind z<strKind y))
 ·cases hf:(occurrences z y 0 z.length (z.length+1)).isEmpty
  ·have e:Txt.split z y=partsBetween z (occurrences z y 0 z.length (z.length+1)) y.length:=(if_neg (ne_true_of_eq_false h1)).trans (if_neg (ne_true_of_eq_false hf))
   rw[e]at q hn
   refine call_meets F.slot_str_split (typeIs_str _ _ _) F.entry_str_split (F.args_str_split_2 _ _) (meets_str_split_sep z y t t2 h1 hy hf hz hn) ?_
   show wants _ _ _ {s with toks:=_,heap:=s.heap.push {cls:=.type "list",data:=.seq (strsFrom s.toks (partsBetween z (occurrences z y 0 z.length (z.length+1)) y.length)).toArray } }
   rw[strsFrom_eq]
   have w:=Ul (numbered s.toks (partsBetween z (occurrences z y 0 z.length (z.length+1)) y.length))
   rw[numbered_texts]at w
   exact⟨.ref _,_,I.ug w (by rw[List.length_map]; exact hn),rfl,q⟩
  ·have e:Txt.split z y=[z]:=(if_neg (ne_true_of_eq_false h1)).trans (if_pos hf)
   rw[e]at q
   exact call_meets F.slot_str_split (typeIs_str _ _ _) F.entry_str_split (F.args_str_split_2 _ _) (meets_str_split_not_found z y t t2 h1 hy hf) ⟨.ref _,_,I.ug (.cons (jP _ _) .nil) (show 1<=sizeLine by decide),rfl,q⟩
 ·have e:Txt.split z y=[z]:=if_pos h1
  rw[e]at q
  exact call_meets F.slot_str_split (typeIs_str _ _ _) F.entry_str_split (F.args_str_split_2 _ _) (meets_str_split_cannot_occur z y t t2 h1) ⟨.ref _,_,I.ug (.cons (jP _ _) .nil) (show 1<=sizeLine by decide),rfl,q⟩
def rJoin(K:FZ):V->List V->Hp->VK->Prop:=λx vs H Q=>∃(z:Str) (a:Addr) (ts:List Str),x=.str z/\vs=[.ref a]/\cJ K H a (ts.map .str)/\JoinOk z ts=true/\Q (.str (Txt.join z ts)) H
theorem zZ:vR X "str.join" (rJoin X.K):=by
 intro pins s σ H x vs v us Q I rx rv h
 obtain⟨z,a,ts,rfl,rfl,hH,hj,q⟩:=h
 obtain⟨t,rfl⟩:=rx
 obtain⟨u,rfl,ru⟩:=rv.one
 cases ru
 obtain⟨its,r,pl,hz⟩:=I.list hH
 obtain⟨l,rfl,hl2⟩:=Um r
 exact SC.join pl.isList hl2 hj λt' k=>⟨.str _,H,I.tok k,jP _ _,q⟩
end
section
variable {t:Tx}{K:FZ}{ta tb:TE}{fa fb:EF}
def tu(g:Str->Bool):G1
 |.str z=>.ok (.bl (g z),false)
 |_=>.bad
theorem ac7(g:Str->Bool)(a:Tr)(c:Str):tu g a ≠ .ex c:=by cases a <;> (intro z; cases z)
theorem ac8{K':FZ}(g:Str->Bool):oA K' (λx H Q=>BZ K "str" x H/\Dy g x [] H Q) (tu g):=λW x a H Q hw rx h=>by
 cases a <;> try exact h.elim
 rw[rx.str]
 exact⟨rfl,_,rfl,rfl,h _ H (Same.refl _) (.eE (.bl _))⟩
theorem ac9(g:Str->Bool)(ha:SE t ta fa):SE t (QX K "str" (Dy g) ta) (j5 (tu g) fa):=Jh (ac8 g) (ac7 g) ha
def strOf:Tr->Rs Str
 |.str z=>.ok z
 |_=>.bad
theorem Ka(a:Tr)(c:Str):strOf a ≠ .ex c:=by cases a <;> (intro z; cases z)
def Dz(K:FZ)(r:V->List V->Hp->VK->Prop)(g:Str->G1):Prop:=∀W z y b H Q,(∀b,W b->Lt H b)->Rp K W H y b->(g z b).post (λ_=>False) (λp=>∀v H',Same H H'->eU K W [] H H' v (.v p.1 p.2)->Q v H')->r (.str z) [y] H Q
def eH(g:Str->G1)(fa fb:EF):EF:=λρ=>(fa ρ).bind λp=>(dr p.2 p.1).bind λa=>(strOf a).bind λz=>(fb p.2).bind λq=>(dr q.2 q.1).bind λb=>(g z b).bind λw=>.ok (.v w.1 w.2,q.2)
theorem Kc{r:V->List V->Hp->VK->Prop}{g:Str->G1}(o:Dz t.K r g)(ng:∀z b c,g z b ≠ .ex c)(ha:SE t ta fa)(hb:SE t tb fb):SE t (yW K "str" r ta (iR tb lH)) (eH g fa fb):=λW ρ σ H Q e h=>by
 refine ha W ρ σ H _ e (Rs.bH (Rs.aY h) λp h x H1 e1 s1 v1=>?_)
 obtain⟨a,k1,h⟩:=dG (Rs.aY h) (jd _ _)
 obtain⟨z,k2,h⟩:=dG (Rs.aY h) (Ka _)
 have r1:=jj e1 e.wn v1.1 k1
 cases a <;> cases k2
 rw[r1.str]
 refine⟨rfl,hb W p.2 σ H1 _ e1 (Rs.bH (Rs.aY h) λq h y H2 e2 s2 v2=>?_)⟩
 obtain⟨b,k3,h⟩:=dG (Rs.aY h) (jd _ _)
 refine o W z y b H2 Q e2.wl (jj e2 e1.wn v2.1 k3) (Rs.bH (jW (Rs.aY h) (ng z b)) λw h v H3 s3 v3=>?_)
 exact h v H3 (e2.grow s3) ((s1.trans s2).trans (bY.of s3)) ((iI.of e2 s3 v3).back λb q=>(s1.trans s2).dom b q)
theorem Kd{H:Hp}:∀l:List Str,aQ K H (l.map .str) (l.map .str)
 | []=>.nil
 |z::r=>.cons (.str z) (Kd r)
def strsOf:List Tr->Rs (List Str)
 | []=>.ok []
 |.str z::r=>(strsOf r).bind λl=>.ok (z::l)
 |_=>.bad
theorem Uo:∀{ts:List Tr} {l:List Str},strsOf ts=.ok l->ts=l.map .str
 | [],_,h=>by cases h; rfl
 |t::r,l,h=>by
  cases t <;> try cases h
  dsimp only[strsOf]at h
  cases q:strsOf r with
  |bad=>rw[q]at h; cases h
  |ex c=>rw[q]at h; cases h
  |ok l'=>rw[q]at h; cases h; rw[Uo q]; rfl
theorem Ke:∀(ts:List Tr) (c:Str),strsOf ts ≠ .ex c
 | [],_,h=>by cases h
 |t::r,c,h=>by
  cases t <;> try cases h
  dsimp only[strsOf]at h
  cases q:strsOf r with
  |bad=>rw[q]at h; cases h
  |ex c'=>exact Ke r _ q
  |ok l'=>rw[q]at h; cases h
theorem Uq{H:Hp}:∀{l:List Str} {xs:List V},aQ K H xs (l.map .str)->xs=l.map .str
 | [],_,.nil=>rfl
 |z::r,_,.cons (.str _) h=>by rw[Uq h]; rfl
def dR(z:Str):G1
 |.str y=>if(y.length == 0)=false/\z.length<=100000/\(Txt.split z y).length<=100000 then .ok (.lst ((Txt.split z y).map .str),true)else .bad
 |_=>.bad
def qQ(z:Str):G1
 |.str y=>if(y.length == 0)=false/\z.length<=100000 then .ok (.tup ((sZ z y).map .str),false)else .bad
 |_=>.bad
def iK(z:Str):G1
 |.lst ts=>(strsOf ts).bind λl=>if JoinOk z l=true then .ok (.str (Txt.join z l),false)else .bad
 |_=>.bad
theorem ada(z:Str)(b:Tr)(c:Str):dR z b ≠ .ex c:=by
 cases b <;> dsimp only[dR] <;> (try split) <;> (intro z; cases z)
theorem adb(z:Str)(b:Tr)(c:Str):qQ z b ≠ .ex c:=by
 cases b <;> dsimp only[qQ] <;> (try split) <;> (intro z; cases z)
theorem ade(z:Str)(b:Tr)(c:Str):iK z b ≠ .ex c:=by
 cases b <;> dsimp only[iK] <;> try(intro z; cases z)
 rename_i ts
 cases q:strsOf ts with
 |bad=>intro z; cases z
 |ex c'=>exact(Ke _ _ q).elim
 |ok l=>show(if _ then _ else _)≠_; split <;> (intro z; cases z)
theorem adf{K':FZ}:Dz K' J9 dR:=λW z y b H Q hw ry h=>by
 cases b <;> try exact h.elim
 rw[ry.str]
 dsimp only[dR]at h
 split at h
 ·rename_i w
  exact⟨z,_,rfl,rfl,w.1,Nat.le_trans w.2.1 (by decide),Nat.le_trans w.2.2 (by decide),λa ha=>h _ _ (gw ha _) (eU.new ha (Kd _))⟩
 ·exact h.elim
theorem adg{K':FZ}:Dz K' J8 qQ:=λW z y b H Q hw ry h=>by
 cases b <;> try exact h.elim
 rw[ry.str]
 dsimp only[qQ]at h
 split at h
 ·rename_i w
  exact⟨z,_,rfl,rfl,w.1,Nat.le_trans w.2 (by decide),λa ha=>h _ _ (gw ha _) (eU.newT hw ha (Kd _))⟩
 ·exact h.elim
theorem adh{K':FZ}:Dz (aF K') (rJoin K') iK:=λW z y b H Q hw ry h=>by
 cases b <;> try exact h.elim
 rename_i ts
 obtain⟨a,xs,rfl,sq,r⟩:=ry.lst
 dsimp only[iK]at h
 obtain⟨l,k,h⟩:=dG (Rs.aY h) (Ke _)
 rw[Uo k]at r
 rw[Uq r]at sq
 split at h
 ·rename_i w
  exact⟨z,a,l,rfl,rfl,sq.toK,w,h _ H (Same.refl _) (.eE (.str _))⟩
 ·exact h.elim
theorem wU(ha:SE t ta fa)(hb:SE t tb fb):SE t (yW K "str" J9 ta (iR tb lH)) (eH dR fa fb):=Kc adf ada ha hb
theorem adi(ha:SE t ta fa)(hb:SE t tb fb):SE t (yW K "str" J8 ta (iR tb lH)) (eH qQ fa fb):=Kc adg adb ha hb
theorem adk{K':FZ}(hK:t.K=aF K')(ha:SE t ta fa)(hb:SE t tb fb):SE t (yW K "str" (rJoin K') ta (iR tb lH)) (eH iK fa fb):=Kc (by rw[hK]; exact adh) ade ha hb
theorem adl{f:EF}(h1:Pr f):Pr (cR f):=λρ=>by
 unfold cR
 cases e1:f ρ with
 |bad=>exact⟨λp h=>(by cases h),λc h=>(by cases h)⟩
 |ex c=>exact absurd e1 ((h1 ρ).2 c)
 |ok p =>
  have z:=(h1 ρ).1 p e1
  obtain⟨r,ρ1⟩:=p
  dsimp only at z
  subst z
  show(∀p,((dr ρ1 r).bind _)=.ok p->_)/\∀c,((dr ρ1 r).bind _) ≠ .ex c
  cases e3:dr ρ1 r with
  |bad=>exact⟨λp h=>(by cases h),λc h=>(by cases h)⟩
  |ex c=>exact absurd e3 (jd _ _ c)
  |ok a =>
   show(∀p,((cL a).bind _)=.ok p->_)/\∀c,((cL a).bind _) ≠ .ex c
   cases e5:cL a with
   |bad=>exact⟨λp h=>(by cases h),λc h=>(by cases h)⟩
   |ex c=>exact absurd e5 (Sg _ c)
   |ok z=>exact⟨λp h=>(by cases h; rfl),λc h=>(by cases h)⟩
end
end L2
end
section
namespace L2
open PySem PySem.Spec PyProof.Rows
section
variable {X:Cx}
def Kf:V->Hp->VK->Prop:=λx H Q=>(∃i:Int,x=.int i/\i.natAbs.log2<1920/\Q (.str (toString i)) H)\/∃z:Str,x=.str z/\z.length<=sizeLine/\Q (.str z) H
theorem DG{e:Expr}{pos:Pos}{te:TE}(h:PE X e te):PE X (.FormattedValue e (-1) none pos) (yP Kf te):=by
 refine⟨λpins s σ H Q I k=>wpAny_FormattedValue_plain (bJ (h pins s σ H _ I k) λv s1 ⟨x,H1,I1,r1,q⟩=>?_)⟩
 rcases q with⟨i,rfl,hd,q⟩|⟨z,rfl,hz,q⟩
 ·obtain⟨t,rfl⟩:=r1
  exact wpAny_formatField_int hd ⟨.str _,H1,I1.tok _,jP _ _,q⟩
 ·obtain⟨t,rfl⟩:=r1
  exact wpAny_formatField_str ⟨.str _,H1,I1,jP _ _,q⟩ ⟨.str _,H1,I1.tok _,jP _ _,q⟩ hz
def DK:List TE->Str->TE
 | [],acc=>λ_ H Q=>acc.length<=sizeLine/\Q (.str acc) H
 |ta::r,acc=>λσ H Q=>ta σ H λx H1=>∃y,x=.str y/\(acc++y).length<=sizeLine/\DK r (acc++y) σ H1 Q
inductive qR(X:Cx):List Expr->List TE->Prop
 |nil:qR X [] []
 |cons {e:Expr} {es:List Expr} {te:TE} {ts:List TE} (h:PE X e te) (r:qR X es ts):qR X (e::es) (te::ts)
theorem Kg:qR X [] []:=.nil
theorem uW{e:Expr}{es:List Expr}{te:TE}{ts:List TE}(h:PE X e te)(r:qR X es ts):qR X (e::es) (te::ts):=.cons h r
theorem qR.joins{es:List Expr}{ts:List TE}(h:qR X es ts):∀(acc:Str) (pins:List (Addr × Obj)) (s:Shared) (σ : St) (H:Hp) (Q:VK),Inv X pins σ H s->DK ts acc σ H Q ->
  Joins (model X.prog X.w) X.A X.xe (evalEach es X.env) acc (λout s₁=>out.length<=sizeLine/\EP X pins σ Q (.str out s₁.toks) {s₁ with toks:=s₁.toks+1 }) s:=by
 induction h with
 |nil=>exact λacc pins s σ H Q I k=>⟨k.1,.str _,H,I.tok _,jP _ _,k.2⟩
 |cons h r ih =>
  refine λacc pins s σ H Q I k=>bJ (h pins s σ H _ I k) λv s1 ⟨x,H1,I1,r1,y,e,hl,q⟩=>?_
  subst e
  obtain⟨t,rfl⟩:=r1
  exact⟨y,t,rfl,hl,ih _ pins s1 σ H1 Q I1 q⟩
theorem Kh{e1 e2:Expr}{es:List Expr}{ts:List TE}{pos:Pos}(h:qR X (e1::e2::es) ts):PE X (.JoinedStr (e1::e2::es) pos) (DK ts Str.empty) :=
 ⟨λpins s σ H Q I k=>wpAny_JoinedStr (h.joins _ pins s σ H Q I k)⟩
end
section
variable {t:Tx}{K:FZ}{ta tb:TE}{fa fb:EF}
def lq:G1
 |.int i=>if i.natAbs.log2<1920 then .ok (.str (toString i),false)else .bad
 |.str z=>if z.length<=100000 then .ok (.str z,false)else .bad
 |_=>.bad
theorem adn(a:Tr)(c:Str):lq a ≠ .ex c:=by
 cases a <;> dsimp only[lq] <;> (try split) <;> (intro z; cases z)
theorem ado:oA K Kf lq:=λW x a H Q hw rx h=>by
 cases a <;> try exact h.elim
 ·rw[rx.int]
  dsimp only[lq]at h
  split at h
  ·exact .inl ⟨_,rfl,by assumption,h _ H (Same.refl _) (.eE (.str _))⟩
  ·exact h.elim
 ·rw[rx.str]
  dsimp only[lq]at h
  split at h
  ·rename_i w
   exact .inr ⟨_,rfl,Nat.le_trans w (by decide),h _ H (Same.refl _) (.eE (.str _))⟩
  ·exact h.elim
theorem Km(ha:SE t ta fa):SE t (yP Kf ta) (j5 lq fa):=Jh ado adn ha
def pJ:List EF->Str->EF
 | [],acc=>λρ=>if acc.length<=100000 then .ok (.v (.str acc) false,ρ)else .bad
 |f::r,acc=>λρ=>(f ρ).bind λp=>(dr p.2 p.1).bind λa=>(strOf a).bind λy=>if(acc++y).length<=100000 then pJ r (acc++y) p.2 else .bad
inductive uX(t:Tx):List TE->List EF->Prop
 |nil:uX t [] []
 |cons {te:TE} {f:EF} {ts:List TE} {fs:List EF} (h:SE t te f) (r:uX t ts fs):uX t (te::ts) (f::fs)
theorem Ko:uX t [] []:=.nil
theorem Aa{te:TE}{f:EF}{ts:List TE}{fs:List EF}(h:SE t te f)(r:uX t ts fs):uX t (te::ts) (f::fs):=.cons h r
theorem Kp{ts:List TE}{fs:List EF}(h:uX t ts fs):∀acc:Str,SE t (DK ts acc) (pJ fs acc):=by
 induction h with
 |nil =>
  intro acc W ρ σ H Q e h
  dsimp only[pJ]at h
  split at h
  ·rename_i w
   exact⟨Nat.le_trans w (by decide),h _ H e (bY.of (Same.refl _)) (iI.of (σ' := σ) e (Same.refl _) (.eE (.str _)))⟩
  ·exact h.elim
 |cons ha r ih =>
  intro acc W ρ σ H Q e h
  refine ha W ρ σ H _ e (Rs.bH (Rs.aY h) λp h x H1 e1 s1 v1=>?_)
  obtain⟨a,k1,h⟩:=dG (Rs.aY h) (jd _ _)
  obtain⟨y,k2,h⟩:=dG (Rs.aY h) (Ka _)
  have r1:=jj e1 e.wn v1.1 k1
  cases a <;> cases k2
  rw[r1.str]
  have h:(if(acc++y).length<=100000 then pJ _ (acc++y) p.2 else .bad:Rs (Rv × En)).post _ _:=h
  split at h
  ·rename_i w
   exact⟨y,rfl,Nat.le_trans w (by decide),ih _ W p.2 σ H1 Q e1 (Rs.bH h λq h v H2 e2 s2 v2=>h v H2 e2 (s1.trans s2) (v2.back s1.dom))⟩
  ·exact h.elim
end
end L2
end
section
namespace L2
open PySem PySem.Spec PyProof.Rows
section
variable {X:Cx}{t:Tx}{K:FZ}{tl:TA}{fl:AF}
def Kq:List V->Hp->VK->Prop:=λxs H Q=>(∃i,xs=[.int i]/\Q (.int i) H)\/(∃k,xs=[.bl k]/\Q (.int (if k then 1 else 0)) H)\/∃(z:Str) (n:Int),xs=[.str z]/\intText? z=some n/\z.length<=640/\Q (.int n) H
theorem Ur:g8 X (.type "int") Kq:=by
 intro pins s σ H xs us Q I r h
 rcases h with⟨i,rfl,q⟩|⟨k,rfl,q⟩|⟨z,n,rfl,e,hl,q⟩
 ·exact Qj pins s σ H _ us Q I r (.inl ⟨i,rfl,q⟩)
 ·exact Qj pins s σ H _ us Q I r (.inr ⟨k,rfl,q⟩)
 ·obtain⟨u,rfl,t,rfl⟩:=vals1 r
  exact PySem.W.KIN.call_text e hl ⟨.int n,H,I.tok _,⟨_,rfl⟩,q⟩
def jQ:G1
 |.int i=>.ok (.int i,false)
 |.bl b=>.ok (.int (if b then 1 else 0),false)
 |.str z=>if z.length<=640 then(match intText? z with|some n=>.ok (.int n,false)|none=>.bad)else .bad
 |_=>.bad
theorem adp(a:Tr)(c:Str):jQ a ≠ .ex c:=by
 cases a <;> dsimp only[jQ] <;> (try split) <;> (try split) <;> (intro z; cases z)
theorem adq:oA K (λx=>Kq [x]) jQ:=λW x a H Q hw rx h=>by
 cases a <;> try exact h.elim
 ·rw[rx.bl]
  exact .inr (.inl ⟨_,rfl,h _ H (Same.refl _) (.eE (.int _))⟩)
 ·rw[rx.int]
  exact .inl ⟨_,rfl,h _ H (Same.refl _) (.eE (.int _))⟩
 ·rw[rx.str]
  dsimp only[jQ]at h
  split at h
  ·rename_i hl
   split at h
   ·rename_i n e
    exact .inr (.inr ⟨_,n,rfl,e,hl,h _ H (Same.refl _) (.eE (.int _))⟩)
   ·exact h.elim
  ·exact h.elim
theorem adt(hK:t.K=aF K)(ha:SA t tl fl):SE t (jh Kq tl) (bh (g1 jQ) fl):=sJ (by rw[hK]; exact wC adq) (wB adp) ha
end
end L2
end
section
namespace L2
open PySem PySem.Spec PyProof.Rows
section
variable {X:Cx}{t:Tx}{K:FZ}{ta tb:TE}{fa fb:EF}
def DN(i j:Str):Bool := !(Builtin.Str.occurrences j i 0 j.length 1).isEmpty
def Kr(f:Bool->Bool):R2:=λx y H Q=>∃i j,x=.str i/\y=.str j/\Q (.bl (f (DN i j))) H
theorem adu:c7 X (compareOp .NotIn) (Kr not):=Yz
def tD(f:Bool->Bool):G2
 |.str i,.str j=>.ok (.bl (f (DN i j)),false)
 |_,_=>.bad
theorem adv(f:Bool->Bool)(a b:Tr)(c:Str):tD f a b ≠ .ex c:=by cases a <;> cases b <;> (intro z; cases z)
theorem adw(f:Bool->Bool):fV K (Kr f) (tD f):=λW x y a b H Q hw rx ry h=>by
 cases a <;> cases b <;> try exact h.elim
 rw[rx.str,ry.str]
 exact⟨_,_,rfl,rfl,h _ H (Same.refl _) (.eE (.bl _))⟩
theorem adx(f:Bool->Bool)(ha:SE t ta fa)(hb:SE t tb fb):SE t (iG (Kr f) ta tb) (ao (tD f) fa fb):=jL (adw f) (adv f) ha hb
def mulC(z:Str)(n:Int):Bool:=decide (-1000<=n)&&decide (n<=1000)&&decide (z.length<=100)
theorem ady{z:Str}{n:Int}(h:mulC z n=true):MulOk z n:=by
 unfold mulC at h
 rw[Bool.and_eq_true,Bool.and_eq_true]at h
 have h1:=of_decide_eq_true h.1.1
 have h2:=of_decide_eq_true h.1.2
 have h3:=of_decide_eq_true h.2
 refine⟨?_,λk _ z=>?_,λk _=>?_⟩
 ·rw[Bool.or_eq_false_iff]
  exact⟨decide_eq_false (by omega),decide_eq_false (by omega)⟩
 ·have e:(2 ^ 63-1:Int) / 1000<=(2 ^ 63-1) / n:=Int.le_ediv_of_mul_le (by omega) (by
   have:(2 ^ 63-1:Int) / 1000*n<=(2 ^ 63-1:Int) / 1000*1000:=Int.mul_le_mul_of_nonneg_left (by omega) (by decide)
   exact Int.le_trans this (by decide))
  have e2:(100:Int)<=(2 ^ 63-1:Int) / 1000:=by decide
  omega
 ·have e:z.length*n.toNat<=100*1000:=Nat.mul_le_mul h3 (by omega)
  unfold Builtin.Str.tooLong
  have e2:(100*1000:Nat)<=sizeLine:=by decide
  exact decide_eq_false (by omega)
def Ks:R2:=λx y H Q=>∃z n,x=.str z/\y=.int n/\mulC z n=true/\Q (.str (Txt.mul z n)) H
theorem DP:c7 X (binaryOp .Mult) Ks:=by
 intro pins s σ H x y v u Q I rx ry h
 obtain⟨z,n,rfl,rfl,hc,q⟩:=h
 obtain⟨t,rfl⟩:=rx
 obtain⟨t2,rfl⟩:=ry
 exact SB.mul (ady hc) λt' k=>⟨.str _,H,I.tok k,jP _ _,q⟩
def m5:G2
 |.str z,.int n=>if mulC z n=true then .ok (.str (Txt.mul z n),false)else .bad
 |_,_=>.bad
theorem adz(a b:Tr)(c:Str):m5 a b ≠ .ex c:=by
 cases a <;> cases b <;> dsimp only[m5] <;> (try split) <;> (intro z; cases z)
theorem adA:fV K Ks m5:=λW x y a b H Q hw rx ry h=>by
 cases a <;> cases b <;> try exact h.elim
 rw[rx.str,ry.int]
 dsimp only[m5]at h
 split at h
 ·exact⟨_,_,rfl,rfl,by assumption,h _ H (Same.refl _) (.eE (.str _))⟩
 ·exact h.elim
theorem adB(ha:SE t ta fa)(hb:SE t tb fb):SE t (iG Ks ta tb) (ao m5 fa fb):=jL adA adz ha hb
end
end L2
end
section
namespace L2
open PySem PySem.Spec PyProof.Rows
def DQ(z:Str):It:=⟨λi _=>∃c,z.cps[i]?=some c,λi H x H'=>H'=H/\∃c,z.cps[i]?=some c/\x=.str ⟨#[c]⟩,λi _=>z.cps[i]?=none⟩
theorem adC{P:Program}{w:World}{K:FZ}{tg:Expr}(z:Str)(t:Tok)(it:Addr):Turn P w K tg (DQ z) [it] it (λi h=>h.IsStrIter it "str_ascii_iterator" z t i) where
 mem:=by simp
 obj:=λi h st b hb=>by
  have e:b=it:=by simpa using hb
  subst e
  obtain⟨o,e,c,d⟩:=st
  exact⟨o,e,λv z=>by rw[d]at z; cases z⟩
 keep:=λi h h' st k=>by
  obtain⟨o,e,c,d⟩:=st
  exact⟨o,k it (by simp) o e,c,d⟩
 item:=by
  intro X hP hw hK hc i pins s σ H E I hf st hg
  subst hP hw hK
  obtain⟨c,hx⟩:=hg
  obtain⟨f0,f1,f2,f3,f4,f5⟩:=hf it (by simp)
  refine wpAny_pyNext_ascii_item st hx λh' st' sb=>?_
  have I1:Inv X pins σ H {s with heap:=h',toks:=s.toks+1 }:=I.turned (t':=s.toks+1) (λb o hb e=>(sb.2 b hb).trans e) f0 f1 f3 f4 f5
  obtain⟨o,e,c',d⟩:=id st'
  exact⟨_,rfl,yN (s:={s with heap:=h',toks:=s.toks+1 }) e c' d (by decide) ⟨.str _,H,I1,jP _ _,⟨rfl,c,hx,rfl⟩,st',λb hb=>(hf b hb).1⟩⟩
 done:=by
  intro X hP hw hK hc i pins s σ H E I hf st hg
  subst hP hw hK
  obtain⟨f0,f1,f2,f3,f4,f5⟩:=hf it (by simp)
  exact wpAny_pyNext_ascii_end (I.ok.hd hc) st hg λh' eb=>⟨rfl,I.turned (t':=s.toks) (λb o hb e=>eb b o hb e) f0 f1 f3 f4 f5⟩
 self:=λ_ _ _ _ _ st h=>wpAny_pyIter_striter_ascii st h
theorem adD{P:Program}{w:World}{K:FZ}{tg:Expr}(z:Str)(t:Tok)(it:Addr):Turn P w K tg (DQ z) [it] it (λi h=>h.IsStrIter it "str_iterator" z t i) where
 mem:=by simp
 obj:=λi h st b hb=>by
  have e:b=it:=by simpa using hb
  subst e
  obtain⟨o,e,c,d⟩:=st
  exact⟨o,e,λv z=>by rw[d]at z; cases z⟩
 keep:=λi h h' st k=>by
  obtain⟨o,e,c,d⟩:=st
  exact⟨o,k it (by simp) o e,c,d⟩
 item:=by
  intro X hP hw hK hc i pins s σ H E I hf st hg
  subst hP hw hK
  obtain⟨c,hx⟩:=hg
  obtain⟨f0,f1,f2,f3,f4,f5⟩:=hf it (by simp)
  refine wpAny_pyNext_wide_item st hx λh' st' sb=>?_
  have I1:Inv X pins σ H {s with heap:=h',toks:=s.toks+1 }:=I.turned (t':=s.toks+1) (λb o hb e=>(sb.2 b hb).trans e) f0 f1 f3 f4 f5
  obtain⟨o,e,c',d⟩:=id st'
  exact⟨_,rfl,yN (s:={s with heap:=h',toks:=s.toks+1 }) e c' d (by decide) ⟨.str _,H,I1,jP _ _,⟨rfl,c,hx,rfl⟩,st',λb hb=>(hf b hb).1⟩⟩
 done:=by
  intro X hP hw hK hc i pins s σ H E I hf st hg
  subst hP hw hK
  obtain⟨f0,f1,f2,f3,f4,f5⟩:=hf it (by simp)
  exact wpAny_pyNext_wide_end (I.ok.hd hc) st hg λh' eb=>⟨rfl,I.turned (t':=s.toks) (λb o hb e=>eb b o hb e) f0 f1 f3 f4 f5⟩
 self:=λ_ _ _ _ _ st h=>wpAny_pyIter_striter_wide st h
section
variable {X:Cx}{tg:Expr}
def Ut(tl:TE):TI:=λσ H R=>tl σ H λx H1=>∃z,x=.str z/\R (DQ z) H1
theorem adE{l:Expr}{tl:TE}(hl:PE X l tl):PI X tg l (Ut tl):=by
 intro pins s σ H R I h
 refine bJ (hl pins s σ H _ I h) λv s1 ⟨x,H1,I1,r1,q1⟩=>?_
 obtain⟨z,e,q⟩:=q1
 subst e
 obtain⟨t,rfl⟩:=r1
 have fr:∀b∈[s1.heap.objs.size],lG X pins H1 b:=λb hb=>by
  have e:b=s1.heap.objs.size:=by simpa using hb
  subst e
  exact I1.yM (Nat.le_refl _) (I1.hok.fresh (Nat.le_refl _))
 cases ha:z.cps.all (· < 128)
 ·exact wpAny_pyIter_wide ha ⟨s1.heap.objs.size,[s1.heap.objs.size],_,_,H1,rfl,I1.kept (t':=s1.toks) λb o e=>Heap.get?_push_of_some _ e,adD z t _,⟨_,Heap.get?_push_size _ rfl,rfl,rfl⟩,fr,q⟩
 ·exact wpAny_pyIter_ascii ha ⟨s1.heap.objs.size,[s1.heap.objs.size],_,_,H1,rfl,I1.kept (t':=s1.toks) λb o e=>Heap.get?_push_of_some _ e,adC z t _,⟨_,Heap.get?_push_size _ rfl,rfl,rfl⟩,fr,q⟩
end
section
variable {t:Tx}{K:FZ}
def Ab(z:Str):List Tr:=z.cps.toList.map λc=>.str ⟨#[c]⟩
def DW(f:EF):IF:=λρ=>(f ρ).bind λp=>(dr p.2 p.1).bind λa=>(strOf a).bind λz=>.ok (Ab z,p.2)
theorem adF{K:FZ}{W:Addr->Prop}{H:Hp}(z:Str):uK K W H (DQ z) (Ab z):=λW' H' m hw i=>by
 refine⟨λe=>?_,λu hu=>?_⟩
 ·show z.cps[i]?=none
  rw[e]
  unfold Ab
  simp
 ·unfold Ab at hu
  rw[List.getElem?_map,Array.getElem?_toList]at hu
  obtain⟨c,hc,rfl⟩:=Option.map_eq_some_iff.mp hu
  refine⟨⟨c,hc⟩,λx ji y=>?_⟩
  obtain⟨rfl,c',h1,rfl⟩:=y
  rw[hc]at h1
  cases h1
  exact⟨Same.refl _,.str _⟩
theorem adG{tl:TE}{f:EF}(h1:SE t tl f):SI t (Ut tl) (DW f):=λW ρ σ H R e h=>by
 refine h1 W ρ σ H _ e (Rs.bH (Rs.aY h) λp h v H1 e1 s1 v1=>?_)
 obtain⟨a,k1,h⟩:=dG (Rs.aY h) (jd _ _)
 obtain⟨z,k2,h⟩:=dG (Rs.aY h) (Ka _)
 have r1:=jj e1 e.wn v1.1 k1
 cases a <;> cases k2
 rw[r1.str]
 exact⟨z,rfl,h _ H1 e1 s1 (adF z)⟩
end
end L2
end
section
namespace K70
open PySem L2 BH
def top(i:Nat):Stmt:=PySem.Challenge.pw_bestheads_k70_whole_texts_bent.main.body.getD i (.Pass ⟨0,0,0,0⟩)
abbrev Ku:Stmt:=top 17
abbrev Ky:Stmt:=top 18
abbrev Kz:Stmt:=top 19
abbrev KC:Stmt:=top 23
abbrev DX:Stmt:=top 24
abbrev Ac:Stmt:=top 25
abbrev KD:Stmt:=top 26
abbrev DY:Stmt:=top 29
abbrev KH:Stmt:=top 30
abbrev KJ:Stmt:=top 33
abbrev Ea:Stmt:=top 34
abbrev Eb:Stmt:=top 35
abbrev KN:Stmt:=top 36
abbrev KQ:Stmt:=top 37
abbrev KR:Stmt:=top 38
abbrev Ec:Stmt:=top 39
abbrev KY:Stmt:=top 40
abbrev KZ:Stmt:=top 41
abbrev Ed:Stmt:=top 42
abbrev K1:Stmt:=top 43
abbrev K3:Stmt:=top 45
abbrev K4:Stmt:=top 46
abbrev K5:Stmt:=top 47
abbrev K6:Stmt:=top 48
abbrev K7:Stmt:=top 49
abbrev K8:Stmt:=top 50
abbrev Ef:Stmt:=top 51
abbrev K9:Stmt:=top 52
abbrev Ad:Stmt:=top 53
abbrev La:Stmt:=top 54
abbrev Eh:Stmt:=top 55
abbrev Lb:Stmt:=top 56
abbrev Ld:Stmt:=top 57
abbrev Le:Stmt:=top 58
abbrev Lf:Stmt:=top 59
abbrev Ei:Stmt:=top 60
abbrev Lg:Stmt:=top 61
abbrev Ej:Stmt:=top 62
abbrev Ek:Stmt:=top 63
abbrev wV:Stmt:=top 64
abbrev Ae:Stmt:=top 65
abbrev Lh:Stmt:=top 66
abbrev Li:Stmt:=top 67
abbrev Lj:Stmt:=top 68
abbrev Lk:Stmt:=top 69
abbrev Ln:Stmt:=top 70
structure Nm(mg:Str->Option Value):Prop where
 adH:mg "ValueError" = none
 Uu:mg "abs" = none
 Af:mg "all" = none
 Uv:mg "bool" = none
 El:mg "int" = none
 fP:mg "isinstance" = none
 fG:mg "len" = none
 Ag:mg "list" = none
 adI:mg "max" = none
 adJ:mg "min" = none
 uY:mg "range" = none
 wW:mg "str" = none
 wX:mg "tuple" = none
 Uw:mg "zip" = none
def Lp:SF:=(aC (aV (aj 0) (gT 2 (eV (gN 1) (eV (gN 2) jN)))) (aG (nH (aK (ao aH (aj 2) (eC (.int 1)))) (bh (g1 jD) (ak (aj 1) au)) (pJ [(j5 lq (aj 1)),(eC (.str "/")),(j5 lq (aj 2))] Str.empty))))
def uZ:FP:=aM 3 Lp
def Ux:SF:=(aG (eH iK (eC (.str " ")) (cM [none] (cQ (aj 0)) (gN 0) cU (bB uZ (ak (aj 0) au)))))
def qT:FP:=aM 1 Ux
def Uy:SF:=(aC (uH (bB uV (ak (aj 0) au))) (aG (eH iK (eC (.str "\n")) (cM [none] (cQ (aj 0)) (gN 0) cU (bB qT (ak (aj 0) au))))))
def u5:FP:=aM 1 Uy
noncomputable def Em:SF:=(aC (bw (dh (cR (bB iD (ak (aj 0) (ak (aj 1) au))))) (sS "NoRule" (eC (.str "this is no rule for so many lists"))) bx) (aC (bw (aK (ao aH (ao aB (aj 0) (eC (.int 0))) (eC (.str "shares")))) (aG (pJ [(eC (.str "shares ")),(j5 lq (bB qT (ak (ao aB (aj 0) (eC (.int 1))) au)))] Str.empty)) bx) (aC (bw (aK (ao aH (ao aB (aj 0) (eC (.int 0))) (eC (.str "middle")))) (aG (pJ [(eC (.str "middle ")),(j5 lq (ao aB (aj 0) (eC (.int 1))))] Str.empty)) bx) (aG (ao aB (aj 0) (eC (.int 0)))))))
def m6:FP:=aM 2 Em
noncomputable def Uz:SF:=(aC (bw (dz (dh (cR (j5 (tu Txt.isascii) (aj 0)))) (dz (dh (cR (j5 (tu Txt.isdigit) (aj 0)))) (aK (ao cN (bh (g1 aL) (ak (aj 0) au)) (aj 1))))) (aG (eC .non)) bx) (aC (bw (jM (aK (ao aH (ao aB (aj 0) (eC (.int 0))) (eC (.str "0")))) (aK (ao bF (aj 0) (eC (.str "0"))))) (aG (eC .non)) bx) (aG (bh (g1 jQ) (ak (aj 0) au)))))
def lY:FP:=aM 2 Uz
noncomputable def Lq:SF:=(aC (aV (eH qQ (aj 0) (eC (.str "/"))) (gT 3 (eV (gN 2) (eV (gN 3) (eV (gN 4) jN))))) (aC (aV (bB lY (ak (aj 2) (ak (aj 1) au))) (gN 5)) (aC (aV (nH (cR (aj 3)) (bB lY (ak (aj 4) (ak (aj 1) au))) (eC (.int 1))) (gN 6)) (aC (bw (dz (jM (cR (aj 3)) (aK (ao aH (aj 6) (eC (.int 1))))) (dh (cR (bB nP (ak (gj (ak (aj 5) (ak (aj 6) au))) au))))) (aG (eC .non)) bx) (aG (gj (ak (aj 5) (ak (aj 6) au))))))))
def tE:FP:=aM 7 Lq
def UG:SF:=(aC (aV (cM [none,some 1] (cQ (aj 0)) (gN 0) cU (bB tE (ak (aj 0) (ak (aj 1) au)))) (gN 2)) (aG (nH (dz (dh (cR (aj 2))) (aK (ao (bT id) (eC .non) (aj 2)))) (eC .non) (aj 2))))
def pK:FP:=aM 3 UG
noncomputable def UJ:SF:=(aC (bw (aK (ao aH (gD (aj 0) gA (gC (eC (.int 1)))) (iy [.str "shares"]))) (aC (aV (bB pK (ak (gD (aj 0) (gC (eC (.int 1))) gA) (ak (aj 1) au))) (gN 2)) (aG (nH (aK (ao (fL id) (aj 2) (eC .non))) (eC .non) (gj (ak (eC (.str "shares")) (ak (aj 2) au)))))) bx) (aC (bw (jM (aK (ao aH (gD (aj 0) gA (gC (eC (.int 1)))) (iy [.str "middle"]))) (aK (ao aH (bh (g1 aL) (ak (aj 0) au)) (eC (.int 2))))) (aC (aV (bB lY (ak (ao aB (aj 0) (eC (.int 1))) (ak (aj 1) au))) (gN 3)) (aG (nH (aK (ao (fL id) (aj 3) (eC .non))) (eC .non) (gj (ak (eC (.str "middle")) (ak (aj 3) au)))))) bx) (aG (nH (aK (ao (bT id) (bh (g1 d7) (ak (aj 0) au)) (eC (.tup [(.tup [(.str "least")]),(.tup [(.str "greatest")]),(.tup [(.str "product")])])))) (bh (g1 d7) (ak (aj 0) au)) (eC .non)))))
def Ah:FP:=aM 4 UJ
noncomputable def adK:SF:=(aC (uH (bB pH (ak (aj 0) au))) (aC (aV (cM [none] (cQ (eH dR (aj 0) (eC (.str "\n")))) (gN 0) cU (bB pK (ak (eH dR (aj 0) (eC (.str " "))) (ak (eC (.int 40)) au)))) (gN 1)) (aC (bw (dh (cR (bB qP (ak (aj 1) au)))) (sS "NoText" (eC (.str "this is no text of a book"))) bx) (aG (aj 1)))))
def pL:FP:=aM 2 adK
noncomputable def UL:SF:=(aC (uH (bB pH (ak (aj 0) au))) (aC (aV (bB Ah (ak (eH dR (aj 0) (eC (.str " "))) (ak (eC (.int 40)) au))) (gN 2)) (aC (bw (dh (cR (bB iD (ak (aj 2) (ak (aj 1) au))))) (sS "NoText" (eC (.str "this is no text of a rule for so many lists"))) bx) (aG (aj 2)))))
def oM:FP:=aM 3 UL
noncomputable def Lr:SF:=(aC (aV (ao aO (ao dU (ao dF (aj 0) (eC (.int 2147483629))) (eC (.int 69621))) (ao dU (ao dU (eC (.int 40503)) (aj 1)) (aj 1))) (gN 2)) (aC (aV (ao dF (ao aO (ao aO (aj 2) (ao dU (eC (.int 16807)) (aj 1))) (eC (.int 1048583))) (eC (.int 2147483647))) (gN 2)) (aC (aV (ao dF (ao dU (aj 2) (aj 2)) (eC (.int 2147483629))) (gN 2)) (aG (ao dF (ao dU (aj 2) (ao aO (aj 2) (eC (.int 2)))) (eC (.int 2147483587)))))))
def wY:FP:=aM 3 Lr
noncomputable def Ls:SF:=(aC (aV (eC (.int 0)) (gN 2)) (aC (bw (aK (ao bV (aj 1) (bh (g1 aL) (ak (aj 0) au)))) (aV (ao aB (aj 0) (aj 1)) (gN 2)) bx) (aC (bw (aK (ao fW (aj 2) (ao gU (eC (.int 10)) (eC (.int 18))))) (aG (dX (ak (ao dw (aj 2) (ao gU (eC (.int 10)) (eC (.int 18)))) au))) bx) (aC (aV (eC (.int 0)) (gN 3)) (aC (gk (iw (jk (ak (eC (.int 20)) au)) (gN 4) (aV (ao aO (ao dU (aj 3) (eC (.int 2147483587))) (bB wY (ak (aj 2) (ak (ao aO (ao dU (eC (.int 31)) (aj 1)) (aj 4)) au)))) (gN 3)))) (aG (dX (ak (aj 3) au))))))))
def u9:FP:=aM 5 Ls
def Lw:SF:=(aC (aV (ao dF (ao aB (aj 0) (eC (.int 0))) (aj 1)) (gN 2)) (aC (zP 0 (eC (.int 0)) (ao gQ (ao aB (aj 0) (eC (.int 0))) (aj 1))) (aG (aj 2))))
def cO:FR:=fX 3 0 Lw
def UW:SF:=(aC (gk (wG (zW 1) (aK (ao bF (aj 1) (eC (.int 0)))) (zQ 0 1 (ak (aj 1) (ak (ao dF (aj 0) (aj 1)) au))))) (aG (bh (g1 iU) (ak (aj 0) au))))
def tG:FP:=aM 2 UW
def Eo:SF:=(aC (aV (bB tG (ak (aj 0) (ak (aj 1) au))) (gN 2)) (aC (bw (aK (ao bV (aj 1) (eC (.int 0)))) (aV (ao dw (eC (.int 0)) (aj 2)) (gN 2)) bx) (aG (gj (ak (ao gQ (aj 0) (aj 2)) (ak (ao gQ (aj 1) (aj 2)) au))))))
def oN:FP:=aM 3 Eo
def U0:SF:=(aG (j6 (iJ .int (aj 0)) (CJ (iJ .bool (aj 0)))))
def lu:FP:=aM 1 U0
noncomputable def adL:SF:=(aC (bw (dz (dh (cR (jO "HeadError" (aj 0)))) (dh (cR (J2 (aj 0))))) (aG (eC (.bl false))) bx) (aC (aV (dX (ak (jO "NoBottom" (aj 0)) (ak (jO "NoBook" (aj 0)) (ak (jO "NoList" (aj 0)) au)))) (gN 2)) (aC (aV (ao aO (aj 2) (dX (ak (jO "NoRule" (aj 0)) (ak (jO "NoCount" (aj 0)) (ak (jO "NoLooks" (aj 0)) au))))) (gN 2)) (aC (aV (ao aO (aj 2) (dX (ak (jO "NoThings" (aj 0)) (ak (jO "NotSure" (aj 0)) (ak (jO "NoSlack" (aj 0)) au))))) (gN 2)) (aC (aV (ao aO (aj 2) (dX (ak (jO "NoThing" (aj 0)) (ak (jO "NoWorth" (aj 0)) (ak (jO "TooMany" (aj 0)) au))))) (gN 2)) (aC (aV (ao aO (aj 2) (dX (ak (jO "NoText" (aj 0)) (ak (jO "NoLine" (aj 0)) au)))) (gN 2)) (aC (aV (iy [.str "NoBottom",.str "NoBook",.str "NoList",.str "NoRule",.str "NoCount",.str "NoLooks",.str "NoThings",.str "NotSure",.str "NoSlack"]) (gN 3)) (aC (aV (ao aO (aj 3) (iy [.str "NoThing",.str "NoWorth",.str "TooMany",.str "NoText",.str "NoLine"])) (gN 3)) (aG (ao aH (aj 2) (cM [none,some 1] (cQ (aj 3)) (gN 0) cU (ao aH (aj 0) (aj 1)))))))))))))
def tH:FP:=aM 4 adL
noncomputable def Lx:SF:=(aC (aV (cj 0 cO (ak (aj 0) (ak (eC (.int 8)) au))) (gN 1)) (aC (bw (aK (ao bV (aj 1) (eC (.int 2)))) (aG (ao aB (iy [.tup [.int 0,.int 1],.tup [.int 1,.int 1]]) (aj 1))) bx) (aC (aV (ao aB (iy [.int 2,.int 3,.int 4,.int 6,.int 12,.int 0]) (ao dw (aj 1) (eC (.int 2)))) (gN 2)) (aC (bw (aK (ao aH (aj 2) (eC (.int 0)))) (aV (ao aO (eC (.int 1)) (cj 0 cO (ak (aj 0) (ak (ao dw (ao gU (eC (.int 10)) (eC (.int 12))) (eC (.int 1))) au)))) (gN 2)) bx) (aG (bB oN (ak (cj 0 cO (ak (aj 0) (ak (ao aO (aj 2) (eC (.int 1))) au))) (ak (aj 2) au))))))))
def pN:FR:=fX 3 0 Lx
noncomputable def U3:SF:=(aC (aV (ao aO (eC (.int 1)) (cj 0 cO (ak (aj 0) (ak (eC (.int 4)) au)))) (gN 1)) (aC (aV (ao aO (eC (.int 1)) (cj 0 cO (ak (aj 0) (ak (eC (.int 12)) au)))) (gN 2)) (aG (cM [none,some 2,some 0] (jk (ak (aj 1) au)) (gN 0) cU (cM [none,some 2] (jk (ak (aj 1) au)) (gN 0) cU (cj 0 pN (ak (aj 1) au)))))))
def vd:FR:=fX 3 0 U3
noncomputable def U4:SF:=(aC (aV (cj 0 cO (ak (aj 0) (ak (eC (.int 6)) au))) (gN 1)) (aC (bw (aK (ao bV (aj 1) (eC (.int 2)))) (aG (ao aB (iy [.tup [.int 0,.int 1],.tup [.int 1,.int 1]]) (aj 1))) bx) (aC (aV (cj 0 cO (ak (aj 0) (ak (ao aB (iy [.int 4,.int 13,.int 100,.int 1000000000000]) (ao dw (aj 1) (eC (.int 2)))) au))) (gN 2)) (aG (bB oN (ak (aj 2) (ak (ao aO (eC (.int 1)) (cj 0 cO (ak (aj 0) (ak (ao aB (iy [.int 4,.int 12,.int 99,.int 999999999999]) (ao dw (aj 1) (eC (.int 2)))) au)))) au)))))))
def pO:FR:=fX 3 0 U4
noncomputable def U5:SF:=(aC (aV (cj 0 cO (ak (aj 0) (ak (eC (.int 8)) au))) (gN 2)) (aC (bw (aK (ao bV (aj 2) (eC (.int 3)))) (aG (gj (ak (eC (.str "shares")) (ak (cM [none,some 0] (jk (ak (aj 1) au)) (gN 0) cU (cj 0 pO (ak (aj 1) au))) au)))) bx) (aC (bw (aK (ao bV (aj 2) (eC (.int 5)))) (aG (gj (ak (eC (.str "middle")) (ak (ao aO (eC (.int 1)) (cj 0 cO (ak (aj 0) (ak (aj 1) au)))) au)))) bx) (aG (ao aB (iy [.tup [.str "least"],.tup [.str "greatest"],.tup [.str "product"]]) (ao dw (aj 2) (eC (.int 5))))))))
def wZ:FR:=fX 3 0 U5
noncomputable def Ly:SF:=(aC (bw (aK (ao aH (ao aB (aj 0) (eC (.int 1))) (eC (.int 1)))) (aG (bh (g1 jD) (ak (ao aB (aj 0) (eC (.int 0))) au))) bx) (aG (ao aO (ao aO (bh (g1 jD) (ak (ao aB (aj 0) (eC (.int 0))) au)) (eC (.str "/"))) (bh (g1 jD) (ak (ao aB (aj 0) (eC (.int 1))) au)))))
def oO:FP:=aM 1 Ly
noncomputable def U6:SF:=(aC (aV (eC (.str "")) (gN 1)) (aC (gk (iw (cQ (aj 0)) (gN 2) (aC (iw (cQ (aj 2)) (gN 3) (aV (ao aO (ao aO (aj 1) (bB oO (ak (aj 3) au))) (eC (.str " "))) (gN 1))) (aV (ao aO (gD (aj 1) gA (gC (j5 sI (eC (.int 1))))) (eC (.str "\n"))) (gN 1))))) (aG (gD (aj 1) gA (gC (j5 sI (eC (.int 1))))))))
def vf:FP:=aM 4 U6
noncomputable def Lz:SF:=(aC (aV (ao aB (aj 0) (eC (.int 0))) (gN 1)) (aC (bw (aK (ao aH (ao aB (aj 0) (eC (.int 0))) (eC (.str "shares")))) (gk (iw (cQ (ao aB (aj 0) (eC (.int 1)))) (gN 2) (aV (ao aO (ao aO (aj 1) (eC (.str " "))) (bB oO (ak (aj 2) au))) (gN 1)))) bx) (aC (bw (aK (ao aH (ao aB (aj 0) (eC (.int 0))) (eC (.str "middle")))) (aV (ao aO (ao aO (aj 1) (eC (.str " "))) (bh (g1 jD) (ak (ao aB (aj 0) (eC (.int 1))) au))) (gN 1)) bx) (aG (aj 1)))))
def pP:FP:=aM 3 Lz
noncomputable def U7:SF:=(aC (bw (dz (dh (cR (iJ .list (aj 0)))) (aK (ao bF (bh (g1 aL) (ak (aj 0) au)) (bh (g1 aL) (ak (aj 1) au))))) (aG (eC (.bl false))) bx) (aC (gk (iw (pF (ak (aj 0) (ak (aj 1) au))) (gT 2 (eV (gN 2) (eV (gN 3) jN))) (aC (bw (dz (dh (cR (iJ .tuple (aj 2)))) (dz (aK (ao bF (bh (g1 aL) (ak (aj 2) au)) (eC (.int 2)))) (dz (dh (cR (bB lu (ak (ao aB (aj 2) (eC (.int 0))) au)))) (dh (cR (bB lu (ak (ao aB (aj 2) (eC (.int 1))) au))))))) (aG (eC (.bl false))) bx) (bw (aK (ao bF (aj 2) (aj 3))) (aG (eC (.bl false))) bx)))) (aG (eC (.bl true)))))
def lZ:FP:=aM 4 U7
noncomputable def U8:SF:=(aC (bw (dz (dh (cR (iJ .list (aj 0)))) (aK (ao bF (bh (g1 aL) (ak (aj 0) au)) (bh (g1 aL) (ak (aj 1) au))))) (aG (eC (.bl false))) bx) (aG (bh (g1 dI) (ak (cM [none,none] (pF (ak (aj 0) (ak (aj 1) au))) (gT 2 (eV (gN 0) (eV (gN 1) jN))) cU (bB lZ (ak (aj 0) (ak (aj 1) au)))) au))))
def w6:FP:=aM 2 U8
noncomputable def U9:SF:=(aC (bw (dz (dh (cR (iJ .tuple (aj 0)))) (dz (aK (ao bF (bh (g1 aL) (ak (aj 0) au)) (bh (g1 aL) (ak (aj 1) au)))) (aK (ao bF (ao aB (aj 0) (eC (.int 0))) (ao aB (aj 1) (eC (.int 0))))))) (aG (eC (.bl false))) bx) (aC (bw (aK (ao aH (ao aB (aj 1) (eC (.int 0))) (eC (.str "shares")))) (aG (bB lZ (ak (ao aB (aj 0) (eC (.int 1))) (ak (ao aB (aj 1) (eC (.int 1))) au)))) bx) (aG (wA (ao bF (ao aB (aj 1) (eC (.int 0))) (eC (.str "middle"))) (j6 (bB lu (ak (ao aB (aj 0) (eC (.int 1))) au)) (ao aH (ao aB (aj 0) (eC (.int 1))) (ao aB (aj 1) (eC (.int 1)))))))))
def pQ:FP:=aM 2 U9
noncomputable def Va:SF:=(aC (bw (dz (aK (ao aH (aj 0) (eC (.str "")))) (dz (aK (ao cN (bh (g1 aL) (ak (aj 0) au)) (eC (.int 40)))) (aK (ao bF (cM [none] (DW (aj 0)) (gN 0) (aK (ao (tD not) (aj 0) (eC (.str "0123456789")))) (aj 0)) (dX au))))) (aG (eC .non)) bx) (aC (bw (jM (aK (ao aH (ao aB (aj 0) (eC (.int 0))) (eC (.str "0")))) (aK (ao bF (aj 0) (eC (.str "0"))))) (aG (eC .non)) bx) (aG (bh (g1 jQ) (ak (aj 0) au)))))
def xg:FP:=aM 1 Va
noncomputable def Vb:SF:=(aC (aV (cM [none] (cQ (eH dR (aj 0) (eC (.str "/")))) (gN 0) cU (bB xg (ak (aj 0) au))) (gN 1)) (aC (bw (dz (aK (ao (bT id) (eC .non) (aj 1))) (aK (ao cN (bh (g1 aL) (ak (aj 1) au)) (eC (.int 2))))) (aG (eC .non)) bx) (aC (bw (aK (ao aH (bh (g1 aL) (ak (aj 1) au)) (eC (.int 1)))) (aG (gj (ak (ao aB (aj 1) (eC (.int 0))) (ak (eC (.int 1)) au)))) bx) (aC (bw (dz (aK (ao bV (ao aB (aj 1) (eC (.int 1))) (eC (.int 2)))) (aK (ao bF (bB tG (ak (ao aB (aj 1) (eC (.int 0))) (ak (ao aB (aj 1) (eC (.int 1))) au))) (eC (.int 1))))) (aG (eC .non)) bx) (aG (gj (ak (ao aB (aj 1) (eC (.int 0))) (ak (ao aB (aj 1) (eC (.int 1))) au))))))))
def oR:FP:=aM 2 Vb
noncomputable def adM:SF:=(aC (aV (cM [none] (cQ (eH dR (aj 0) (eC (.str "\n")))) (gN 0) cU (cM [none] (cQ (eH dR (aj 0) (eC (.str " ")))) (gN 0) cU (bB oR (ak (aj 0) au)))) (gN 1)) (aC (bw (dz (aK (ao cN (bh (g1 aL) (ak (aj 1) au)) (eC (.int 4)))) (aK (ao cN (bh (g1 aL) (ak (ao aB (aj 1) (eC (.int 0))) au)) (eC (.int 12))))) (aG (eC .non)) bx) (aC (gk (iw (cQ (aj 1)) (gN 2) (aC (bw (dz (aK (ao (bT id) (eC .non) (aj 2))) (aK (ao bF (bh (g1 aL) (ak (aj 2) au)) (bh (g1 aL) (ak (ao aB (aj 1) (eC (.int 0))) au))))) (aG (eC .non)) bx) (bw (aK (ao bF (cM [none] (cQ (aj 2)) (gN 0) (aK (ao cN (ao aB (aj 0) (eC (.int 0))) (ao aB (aj 0) (eC (.int 1))))) (aj 0)) (dX au))) (aG (eC .non)) bx)))) (aG (aj 1)))))
def tK:FP:=aM 3 adM
noncomputable def Vc:SF:=(aC (aV (eH dR (aj 0) (eC (.str " "))) (gN 2)) (aC (bw (aK (ao (bT id) (aj 0) (iy [.str "least",.str "greatest",.str "product"]))) (aG (gj (ak (aj 0) au))) bx) (aC (aV (cM [none] (cQ (gD (aj 2) (gC (eC (.int 1))) gA)) (gN 0) cU (bB oR (ak (aj 0) au))) (gN 3)) (aC (bw (aK (ao (bT id) (eC .non) (aj 3))) (aG (eC .non)) bx) (aC (bw (jM (aK (ao aH (ao aB (aj 2) (eC (.int 0))) (eC (.str "middle")))) (jM (aK (ao aH (bh (g1 aL) (ak (aj 3) au)) (eC (.int 1)))) (aK (ao (bT id) (ao aB (aj 3) (eC (.int 0))) (cM [none] (wH (ak (eC (.int 1)) (ak (ao aO (aj 1) (eC (.int 1))) au))) (gN 0) cU (gj (ak (aj 0) (ak (eC (.int 1)) au)))))))) (aG (gj (ak (eC (.str "middle")) (ak (ao aB (ao aB (aj 3) (eC (.int 0))) (eC (.int 0))) au)))) bx) (aC (bw (jM (aK (ao aH (ao aB (aj 2) (eC (.int 0))) (eC (.str "shares")))) (aK (ao aH (bh (g1 aL) (ak (aj 3) au)) (aj 1)))) (aG (gj (ak (eC (.str "shares")) (ak (aj 3) au)))) bx) (aG (eC .non))))))))
def lB:FP:=aM 4 Vc
noncomputable def Vd:SF:=(aC (aV (iy [.str "",.str "0",.str "1",.str "00",.str "01",.str "-1",.str "-0",.str "+1",.str "1/1",.str "0/1",.str "2/4",.str "3/2",.str "1/0",.str "/",.str "1/",.str "/2",.str "1/02"]) (gN 2)) (aC (aV (ao aO (aj 2) (dX (ak (ao m5 (eC (.str "1")) (eC (.int 40))) (ak (ao m5 (eC (.str "1")) (eC (.int 41))) (ak (ao aO (eC (.str "1/")) (ao m5 (eC (.str "3")) (eC (.int 40)))) (ak (ao aO (eC (.str "1/")) (ao m5 (eC (.str "3")) (eC (.int 41)))) (ak (eC (.str "least")) (ak (eC (.str "middle")) (ak (eC (.str "shares")) (ak (eC (.str "product")) (ak (eC (.str "2")) au))))))))))) (gN 2)) (aC (aV (ao aO (aj 2) (iy [.str "greatest",.str "1 1",.str "5",.str "1/2"])) (gN 2)) (aC (aV (cj 0 cO (ak (aj 1) (ak (bh (g1 aL) (ak (aj 0) au)) au))) (gN 3)) (aC (aV (cj 0 cO (ak (aj 1) (ak (eC (.int 4)) au))) (gN 4)) (aC (aV (ao aB (aj 2) (cj 0 cO (ak (aj 1) (ak (eC (.int 30)) au)))) (gN 5)) (aG (ao aO (ao aO (gD (aj 0) gA (gC (aj 3))) (ao aB (dX (ak (dX (ak (aj 5) au)) (ak (dX (ak (ao aB (aj 0) (aj 3)) (ak (aj 5) au))) (ak (dX au) (ak (dX (ak (ao aB (aj 0) (aj 3)) (ak (ao aB (aj 0) (aj 3)) au))) au))))) (aj 4))) (gD (aj 0) (gC (ao aO (aj 3) (eC (.int 1)))) gA)))))))))
def xq:FR:=fX 6 1 Vd
noncomputable def Ve:SF:=(aC (aV (cj 0 cO (ak (aj 1) (ak (eC (.int 8)) au))) (gN 2)) (aC (aV (cj 0 cO (ak (aj 1) (ak (ao aO (bh (g1 aL) (ak (aj 0) au)) (eC (.int 1))) au))) (gN 3)) (aC (aV (ao aB (eC (.str "0123456789/ -\n.aex_+")) (cj 0 cO (ak (aj 1) (ak (eC (.int 20)) au)))) (gN 4)) (aC (bw (aK (ao bV (aj 2) (eC (.int 3)))) (aG (ao aO (ao aO (gD (aj 0) gA (gC (aj 3))) (ao aB (dX (ak (aj 4) (ak (aj 4) (ak (eC (.str "")) au)))) (aj 2))) (gD (aj 0) (gC (ao aO (ao aO (aj 3) (ao dF (aj 2) (eC (.int 2)))) (ao gQ (aj 2) (eC (.int 2))))) gA))) bx) (aC (bw (aK (ao bV (aj 2) (eC (.int 6)))) (aC (uG 5 (eH dR (aj 0) (eC (.str "\n")))) (aC (aV (cj 0 cO (ak (aj 1) (ak (bh (g1 aL) (ak (aj 5) au)) au))) (gN 6)) (aC (zP 5 (aj 6) (eH iK (eC (.str " ")) (cj 1 xq (ak (eH dR (ao aB (aj 5) (aj 6)) (eC (.str " "))) (ak (aj 1) au))))) (CP 5 (aG (eH iK (eC (.str "\n")) (aj 5))))))) bx) (aC (bw (aK (ao aH (aj 2) (eC (.int 6)))) (aG (gD (aj 0) gA (gC (aj 3)))) bx) (aC (uG 5 (eH dR (aj 0) (eC (.str "\n")))) (aC (aV (cj 0 cO (ak (aj 1) (ak (bh (g1 aL) (ak (aj 5) au)) au))) (gN 6)) (aC (aV (ao aO (ao aO (gD (aj 5) gA (gC (aj 6))) (ao aB (dX (ak (dX au) (ak (ao dU (dX (ak (ao aB (aj 5) (aj 6)) au)) (eC (.int 2))) (ak (dX (ak (ao aB (aj 5) (aj 6)) (ak (eC (.str "")) au))) au)))) (cj 0 cO (ak (aj 1) (ak (eC (.int 3)) au))))) (gD (aj 5) (gC (ao aO (aj 6) (eC (.int 1)))) gA)) (gN 7)) (aG (eH iK (eC (.str "\n")) (aj 7))))))))))))
def xr:FR:=fX 8 1 Ve
noncomputable def adN:SF:=(aC (aV (eC .non) (gN 3)) (aC (aV (eC .non) (gN 4)) (aC (pG ["NoBook", "NoRule", "NoText"] 5 (bw (cR (aj 0)) (aV (bB pL (ak (aj 1) au)) (gN 3)) (aV (bB oM (ak (aj 1) (ak (aj 2) au))) (gN 3))) (aV (aj 5) (gN 4))) (aG (gj (ak (aj 3) (ak (aj 4) au)))))))
def pR:FP:=aM 6 adN
noncomputable def LC:SF:=(aC (aV (bB tK (ak (aj 0) au)) (gN 2)) (aC (aV (bB pR (ak (eC (.bl true)) (ak (aj 0) (ak (aj 1) au)))) (gT 2 (eV (gN 3) (eV (gN 4) jN)))) (aC (bw (jM (aK (ao (fL id) (aj 2) (eC .non))) (dh (cR (bB tH (ak (aj 4) (ak (eC (.str "NoText")) au)))))) (aG (eC (.bl false))) bx) (aC (bw (jM (aK (ao (fL not) (aj 2) (eC .non))) (dz (aK (ao (fL not) (aj 4) (eC .non))) (dh (cR (bB w6 (ak (aj 3) (ak (aj 2) au))))))) (aG (eC (.bl false))) bx) (aC (bw (jM (aK (ao (fL not) (aj 2) (eC .non))) (aK (ao bF (bB u5 (ak (aj 3) au)) (aj 0)))) (aG (eC (.bl false))) bx) (aC (aV (bB lB (ak (aj 0) (ak (aj 1) au))) (gN 5)) (aC (aV (bB pR (ak (eC (.bl false)) (ak (aj 0) (ak (aj 1) au)))) (gT 2 (eV (gN 3) (eV (gN 4) jN)))) (aC (bw (aK (ao (fL id) (aj 5) (eC .non))) (aG (bB tH (ak (aj 4) (ak (eC (.str "NoText")) au)))) bx) (aG (j6 (ao (fL id) (aj 4) (eC .non)) (j6 (bB pQ (ak (aj 3) (ak (aj 5) au))) (ao aH (bB m6 (ak (aj 3) (ak (aj 1) au))) (aj 0)))))))))))))
def tL:FP:=aM 6 LC
noncomputable def Vf:SF:=(aC (gk (iw (jk (ak (bh (g2 gZ) (ak (bh (g2 gY) (ak (bh (g1 aL) (ak (aj 0) au)) (ak (eC (.int 30)) au))) (ak (eC (.int 1)) au))) au)) (gN 1) (aC (uG 2 (bB u9 (ak (aj 0) (ak (aj 1) au)))) (aC (aV (ao aO (eC (.int 1)) (cj 0 cO (ak (aj 2) (ak (eC (.int 4)) au)))) (gN 3)) (aC (aV (bB pP (ak (cj 0 wZ (ak (aj 2) (ak (aj 3) au))) au)) (gN 4)) (aC (bw (aK (ao aH (cj 0 cO (ak (aj 2) (ak (eC (.int 2)) au))) (eC (.int 1)))) (aV (bB vf (ak (cj 0 vd (ak (aj 2) au)) au)) (gN 4)) bx) (iw (jk (ak (eC (.int 3)) au)) (gN 5) (aC (bw (dh (cR (bB tL (ak (aj 4) (ak (aj 3) au))))) (aG (eC (.bl false))) bx) (aV (cj 1 xr (ak (aj 4) (ak (aj 2) au))) (gN 4)))))))))) (aG (eC (.bl true))))
def Ai:FP:=aM 6 Vf
end K70
end
section
namespace K70
open PySem L2 BH
local macro_rules | `(tactic| walk_at "1")=>`(tactic| exact λ_ _ _ _ _ _ us hl=>match us,hl with | [_],_=>by kernel_rfl)
local macro_rules | `(tactic| walk_at "2")=>`(tactic| exact λ_ _ _ _ _ _ us hl=>match us,hl with | [_,_],_=>by kernel_rfl)
local macro_rules | `(tactic| walk_at "3")=>`(tactic| exact λ_ _ _ _ _ _ us hl=>match us,hl with | [_,_,_],_=>by kernel_rfl)
local macro_rules | `(tactic| walk_at "s")=>`(tactic| first|refine acs (by assumption) ?_ ?_|(refine SN (by assumption) ?_; exact zO (gG _) (zO (gG _) (zO (gG _) SM)))|(refine SN (by assumption) ?_; exact zO (gG _) (zO (gG _) SM)))
local macro_rules | `(tactic| walk_at "s")=>`(tactic| with_reducible first|exact bO _|refine cY ?_ ?_|exact fM|refine jm ?_|exact lV|exact lO _|refine gF ?_ ?_|exact gG _|exact iW|refine oK (by assumption) ?_ ?_|refine j7 ?_|refine lR (js:=?_) ?_ ?_ ?_|refine Dk (by assumption) (by assumption) ?_ ?_|refine qL (by assumption) (by assumption) ?_ ?_|refine ab7 ?_|refine ab6 ?_ ?_|exact ab5|exact JG|exact Jf|refine aa0 ?_ ?_|exact Cw _|exact JM (by assumption)|refine ac2 (js:=?_) (by assumption) ?_ ?_ (λ_ _ _=>?_) (λ_ _ _=>?_) ?_ (by decide)|refine ac3 (js:=?_) (by assumption) ?_ ?_ (λ_ _ _=>?_) (λ_ _ _=>?_) (λ_ _ _=>?_) ?_ (by decide)|exact zV (by assumption) (by assumption)|refine aa3 ?_ ?_ ?_|refine Jk (by assumption) _ ?_|refine uE ?_|exact ux|refine aa2 ?_|refine aa1 ?_ ?_|refine aa8 (by assumption) ?_ ?_ ?_|exact kJ _|refine R8 ?_|refine Aa ?_ ?_|exact Ko|refine abq ?_|refine abr ?_|refine qH (by assumption) ?_|refine adG ?_|refine acO (by assumption) ?_|exact aa5|refine aa6 ?_|exact sX (by decide)|refine Jl ?_|refine S5 (js:=?_) ?_ ?_ ?_ ?_|refine abl _ ?_|refine lU ?_ ?_ ?_|exact lQ|refine ac1 (by assumption) (λ_ _ _=>?_)|refine abk _ ?_|refine abw _ _ ?_|refine abu _ ?_ ?_|refine abm _ ?_ ?_|refine aaZ ?_ ?_|refine oF ?_|refine zM ?_ ?_|refine mV ?_|refine ac0 (by assumption) ?_|refine ac9 _ ?_|refine acn (by assumption) ?_|refine wM (by assumption) ?_ ?_|refine JK (by assumption) ?_|refine TQ (by assumption) ?_ ?_ ?_ ?_ ?_ ?_ ?_|refine ace (by assumption) ?_ ?_|refine x_eq (by assumption) ?_ ?_|refine Kp ?_ _|refine Km ?_|refine x_ge (by assumption) ?_ ?_|refine Dj (by assumption) ?_ ?_|refine TJ (by assumption) ?_ ?_|refine adx _ ?_ ?_|refine adt (by assumption) ?_|refine ach (by assumption) ?_ ?_|refine aci (by assumption) ?_ ?_|refine adk (by assumption) ?_ ?_|refine x_len (by assumption) ?_|refine x_lt (by assumption) ?_ ?_|refine acr (by assumption) ?_|refine acq (by assumption) ?_|refine acf (by assumption) ?_ ?_|refine acd (by assumption) ?_ ?_|refine adB ?_ ?_|refine JH (by assumption) ?_ ?_|refine acj ?_|refine adi ?_ ?_|refine acg (by assumption) ?_ ?_|refine wU ?_ ?_|refine acp (by assumption) ?_|refine ab9 (by assumption) ?_ ?_|refine aco (by assumption) ?_)
local macro_rules | `(tactic| walk_at "t")=>`(tactic| ((try dsimp only[mJ]); repeat' walk_at "s"))
section
variable {P:Program}{w:World}{K:FZ}{mg:Str->Option Value}{base:Heap}{cl:Str->Addr}
theorem adO(a:At K mg "_law_asked" Lj) (M:Nm mg) (XT:iY K) (XC:J4 K cl (["NoBook", "NoRule", "NoText"]:List Str)) {Aj:Addr} (tM:Cg K mg "HeadError" Aj) (adP:aU P w K mg base 6 "read_book" (["text"]:List Str) (bA K cl 1 pL)) (adQ:aU P w K mg base 6 "read_rule" (["text", "many"]:List Str) (bA K cl 2 oM)):aU P w K mg base 7 "_law_asked" (["_law_of_book", "_law_text", "_law_many"]:List Str) (bA K cl 3 pR):=by
 have S:=fS (["_law_of_book", "_law_text", "_law_many", "_law_found", "_law_caught", "e"]:List Str) (["_law_of_book", "_law_text", "_law_many"]:List Str) (bG Lj)
 exact a.dO S (cl:=cl) (by decide) (by walk_at "3") (λf cdv A outer s H E hr=>⟨_,(aN (cB 3 S.nd fB) (aN (cB 4 S.nd fB) (aN (Z9 (j:=5) rfl S.nd rfl rfl (Ir (Z5 (fC (aq 0) (by intro _; rfl)) (Ir (Rw (i:=3) S.nd rfl (Or.inl rfl) (RQ (adP.mono (by decide)) hr (aA (aq 1) aD)))) (Ir (Rw (i:=3) S.nd rfl (Or.inl rfl) (RQ (adQ.mono (by decide)) hr (aA (aq 1) (aA (aq 2) aD))))))) tM.2 (λe=>(aZ (cB 4 S.nd (aq 5))))) (aZ (bC (kh (aA (aq 3) (aA (aq 4) aD)))))))),λt hK hx=>(gF (lR ux (gG 3) iW) (gF (lR ux (gG 4) iW) (gF (acZ hK XT XC tM.1 (acY (adl (Dt 0)) (oE hK (bO 0)) (Uc 3 (Ub hK (J3 (Dt 1) Ua) (jm lV) (cY (bO 1) fM))) (Uc 3 (Ub hK (J3 (Dt 1) (J3 (Dt 2) Ua)) (jm (jm lV)) (cY (bO 1) (cY (bO 2) fM))))) (λt1 h1 k1=>(lR (bO 5) (gG 4) iW))) (j7 (R8 (cY (bO 3) (cY (bO 4) fM)))))))⟩)
theorem adR(a:At K mg "_law_bent" Li) (M:Nm mg) (gM:aU P w K mg base 1 "_law_take" (["_law_pile_here", "_law_size"]:List Str) (iC K 2 0 cO)) (adS:aU P w K mg base 2 "_law_words_bent" (["_law_words", "_law_pile_here"]:List Str) (iC K 2 1 xq)):aU P w K mg base 3 "_law_bent" (["_law_text", "_law_pile_here"]:List Str) (iC K 2 1 xr):=by
 have S:=fS (["_law_text", "_law_pile_here", "_law_way", "_law_at", "_law_sign", "_law_lines", "_law_which", "_law_found"]:List Str) (["_law_text", "_law_pile_here"]:List Str) (bG Li)
 exact a.uM 1 S (cl:=λ_=>0) (by decide) (by walk_at "2") (λf cdv A outer s H E hr=>⟨_,(aN (cB 2 S.nd (pc1 (E:=E) gM hr cD (aA (aq 1) (aA aJ aD)))) (aN (cB 3 S.nd (pc1 (E:=E) gM hr cD (aA (aq 1) (aA (bK dj (dM fD M.fG (aA (aq 0) aD)) aJ) aD)))) (aN (cB 4 S.nd (bZ bR (pc1 (E:=E) gM hr cD (aA (aq 1) (aA aJ aD))))) (aN (cA (bQ (qG hr.units) (aq 2) aJ (bM _)) (aZ (bC (bK dj (bK dj (mO mW (aq 0) mK (mL (aq 3))) (bZ (jc (aA (aq 4) (aA (aq 4) (aA bR aD)))) (aq 2))) (mO mW (aq 0) (mL (bK dj (bK dj (aq 3) (bK rP (aq 2) aJ)) (bK CG (aq 2) aJ))) mK)))) cu) (aN (cA (bQ (qG hr.units) (aq 2) aJ (bM _)) (aN (cB 5 S.nd (jY PySem.F.plainAttrs_str PySem.F.slot_str_split PySem.F.type_str_split pI (aq 0) (aA bR aD))) (aN (cB 6 S.nd (pc1 (E:=E) gM hr cD (aA (aq 1) (aA (dM fD M.fG (aA (aq 5) aD)) aD)))) (aN (rK (jY PySem.F.plainAttrs_str PySem.F.slot_str_join PySem.F.type_str_join zZ bR (aA (pc1 (E:=E) adS hr cD (aA (jY PySem.F.plainAttrs_str PySem.F.slot_str_split PySem.F.type_str_split pI (bZ (aq 5) (aq 6)) (aA bR aD)) (aA (aq 1) aD))) aD)) (Px (aq 5) (aq 6) set_list)) (aZ (bC (jY PySem.F.plainAttrs_str PySem.F.slot_str_join PySem.F.type_str_join zZ bR (aA (aq 5) aD))))))) cu) (aN (cA (bQ (fJ hr.units) (aq 2) aJ (bM _)) (aZ (bC (mO mW (aq 0) mK (mL (aq 3))))) cu) (aN (cB 5 S.nd (jY PySem.F.plainAttrs_str PySem.F.slot_str_split PySem.F.type_str_split pI (aq 0) (aA bR aD))) (aN (cB 6 S.nd (pc1 (E:=E) gM hr cD (aA (aq 1) (aA (dM fD M.fG (aA (aq 5) aD)) aD)))) (aN (cB 7 S.nd (bK dj (bK dj (mO mW (aq 5) mK (mL (aq 6))) (bZ (jc (aA (jc aD) (aA (bK qF (jc (aA (bZ (aq 5) (aq 6)) aD)) aJ) (aA (jc (aA (bZ (aq 5) (aq 6)) (aA bR aD))) aD)))) (pc1 (E:=E) gM hr cD (aA (aq 1) (aA aJ aD))))) (mO mW (aq 5) (mL (bK dj (aq 6) aJ)) mK))) (aZ (bC (jY PySem.F.plainAttrs_str PySem.F.slot_str_join PySem.F.type_str_join zZ bR (aA (aq 7) aD))))))))))))),λt hK hx=>by delta Ve; walk_at "t"⟩)
theorem adT(a:At K mg "_law_book" Ad) (M:Nm mg) (gM:aU P w K mg base 1 "_law_take" (["_law_pile_here", "_law_size"]:List Str) (iC K 2 0 cO)) (adU:aU P w K mg base 3 "_law_worth" (["_law_pile_here"]:List Str) (iC K 1 0 pN)):aU P w K mg base 4 "_law_book" (["_law_pile_here"]:List Str) (iC K 1 0 vd):=by
 have S:=fS (["_law_pile_here", "_law_lists", "_law_many"]:List Str) (["_law_pile_here"]:List Str) (bG Ad)
 exact a.uM 0 S (cl:=λ_=>0) (by decide) (by walk_at "1") (λf cdv A outer s H E hr=>⟨_,(aN (cB 1 S.nd (bK dj aJ (pc1 (E:=E) gM hr cD (aA (lW 0) (aA aJ aD))))) (aN (psC 2 S.nd rfl (bK dj aJ (pc1 (E:=E) gM hr cD (aA (lW 0) (aA aJ aD))))) (aZ (bC (mR (sc:=bG Ad) (No:=(["_law_pile_here", "_law_lists", "_law_many"]:List Str)) (N:=(["_law_j", "_law_many", "_law_pile_here"]:List Str)) (src:=[none,some 2,some 0]) (g:=(fQ 0)) rfl rfl ⟨by rfl,by decide +kernel,by decide +kernel,by decide +kernel,by rfl,by decide +kernel⟩ rfl (wO M.uY (aA (aq 1) aD)) (λC s H ex=>(dB 0 (show List.Nodup (["_law_j", "_law_many", "_law_pile_here"]:List Str) by decide +kernel))) (λC s H ex=>(mR (sc:=Q7 _ (bG Ad)) (No:=(["_law_j", "_law_many", "_law_pile_here"]:List Str)) (N:=(["_law_k", "_law_pile_here"]:List Str)) (src:=[none,some 2]) (g:=(fQ 0)) rfl rfl ⟨by rfl,by decide +kernel,by decide +kernel,by decide +kernel,by rfl,by decide +kernel⟩ rfl (wO M.uY (aA (lW 1) aD)) (λC s H ex=>(dB 0 (show List.Nodup (["_law_k", "_law_pile_here"]:List Str) by decide +kernel))) (λC s H ex=>(gK adU hr (aA (lW 1) aD)))))))))),λt hK hx=>by delta U3; walk_at "t"⟩)
theorem adV(a:At K mg "_law_book_read" wV) (M:Nm mg) (LK:aU P w K mg base 2 "_law_fraction" (["_law_text"]:List Str) (bA K cl 1 oR)):aU P w K mg base 3 "_law_book_read" (["_law_text"]:List Str) (bA K cl 1 tK):=by
 have S:=fS (["_law_text", "_law_book_here", "_law_worths"]:List Str) (["_law_text"]:List Str) (bG wV)
 exact a.dO S (cl:=cl) (by decide) (by walk_at "1") (λf cdv A outer s H E hr=>⟨_,(aN (zm (i:=1) (sc:=bG wV) (No:=(["_law_text", "_law_book_here", "_law_worths"]:List Str)) (N:=(["_law_line"]:List Str)) (src:=[none]) (g:=(fQ 0)) S.nd rfl (Or.inl rfl) rfl rfl ⟨by rfl,by decide +kernel,by decide +kernel,by decide +kernel,by rfl,by decide +kernel⟩ rfl (jE (jY PySem.F.plainAttrs_str PySem.F.slot_str_split PySem.F.type_str_split pI (aq 0) (aA bR aD))) (λC s H ex=>(dB 0 (show List.Nodup (["_law_line"]:List Str) by decide +kernel))) (λC s H ex=>(mR (sc:=Q7 _ (bG wV)) (No:=(["_law_line"]:List Str)) (N:=(["_law_word"]:List Str)) (src:=[none]) (g:=(fQ 0)) rfl rfl ⟨by rfl,by decide +kernel,by decide +kernel,by decide +kernel,by rfl,by decide +kernel⟩ rfl (jE (jY PySem.F.plainAttrs_str PySem.F.slot_str_split PySem.F.type_str_split pI (aq 0) (aA bR aD))) (λC s H ex=>(dB 0 (show List.Nodup (["_law_word"]:List Str) by decide +kernel))) (λC s H ex=>(gK LK hr (aA (aq 0) aD)))))) (aN (cA (PW.pt (iz (bQ vP (dM fD M.fG (aA (aq 1) aD)) aJ (bM _)) (jt (bQ vP (dM fD M.fG (aA (bZ (aq 1) aJ) aD)) aJ (bM _))))) (aZ (bC fB)) cu) (aN (PS.mG (rN PassesOwn.never rfl (jE (aq 1)) (dB 2 S.nd) (aN (cA (PW.pt (iz (bQ (sy hr.units) fB (aq 2) (by with_unfolding_all rfl)) (jt (bQ (jx hr.units) (dM fD M.fG (aA (aq 2) aD)) (dM fD M.fG (aA (bZ (aq 1) aJ) aD)) (bM _))))) (aZ (bC fB)) cu) (aZ (cA (bQ (jx hr.units) (Tp (sc:=bG wV) (No:=(["_law_text", "_law_book_here", "_law_worths"]:List Str)) (N:=(["_law_worth_here"]:List Str)) (src:=[none]) (g:=(fQ 0)) rfl rfl ⟨by rfl,by decide +kernel,by decide +kernel,by decide +kernel,by rfl,by decide +kernel⟩ rfl (jE (aq 2)) (λC s H ex=>(dB 0 (show List.Nodup (["_law_worth_here"]:List Str) by decide +kernel))) (λC s H ex=>(bQ vP (yU yV (aq 0) aJ (λ_ _=>rfl)) (yU yV (aq 0) aJ (λ_ _=>rfl)) (bM _))) (λC s H ex=>(aq 0))) (jc aD) (bM _)) (aZ (bC fB)) cu))))) (aZ (bC (aq 1)))))),λt hK hx=>(gF (lR (uQ (qH hK (wU (bO 0) (kJ _))) (qK (by decide)) (sX (js:=[0]) (by decide)) iW (λt1 h1 k1=>(gG 0)) (λt1 h1 k1=>(uQ (qH (h1.trans hK) (wU (bO 0) (kJ _))) (qK (by decide)) (sX (js:=[0]) (by decide)) iW (λt2 h2 k2=>(gG 0)) (λt2 h2 k2=>(Dk (h2.trans (h1.trans hK)) k2 (jm lV) (cY (bO 0) fM)))))) (gG 1) iW) (gF (lU (zM (mV (Dj hK (x_len hK (cY (bO 1) fM)) (lO _))) (mV (Dj hK (x_len hK (cY (oK hK (bO 1) (lO _)) fM)) (lO _)))) (j7 ux) lQ) (gF (Tz (λt3 h3 k3=>(S5 (qH (h3.trans hK) (bO 1)) (gG 2) iW (gF (lU (zM (mV (TJ (h3.trans hK) ux (bO 2))) (mV (JH (h3.trans hK) (x_len (h3.trans hK) (cY (bO 2) fM)) (x_len (h3.trans hK) (cY (oK (h3.trans hK) (bO 1) (lO _)) fM))))) (j7 ux) lQ) (lU (mV (JH (h3.trans hK) (JC (qH (h3.trans hK) (bO 2)) (qK (by decide)) (sX (js:=[0]) (by decide)) iW (λt4 h4 k4=>(gG 0)) (λt4 h4 k4=>(mV (Dj (h4.trans (h3.trans hK)) (oK (h4.trans (h3.trans hK)) (bO 0) (lO _)) (oK (h4.trans (h3.trans hK)) (bO 0) (lO _))))) (λt4 h4 k4=>(bO 0))) (uE fM))) (j7 ux) lQ))))) (j7 (bO 1)))))⟩)
theorem adW(a:At K mg "_law_book_text" Ld) (M:Nm mg) (LQ:aU P w K mg base 1 "_law_frac_text" (["_law_some"]:List Str) (bA K cl 1 oO)):aU P w K mg base 2 "_law_book_text" (["_law_book_here"]:List Str) (bA K cl 1 vf):=by
 have S:=fS (["_law_book_here", "_law_text", "_law_worths", "_law_worth_here"]:List Str) (["_law_book_here"]:List Str) (bG Ld)
 exact a.dO S (cl:=cl) (by decide) (by walk_at "1") (λf cdv A outer s H E hr=>⟨_,(aN (cB 1 S.nd bR) (aN (PS.mG (rN PassesOwn.never rfl (jE (aq 0)) (dB 2 S.nd) (aN (rN PassesOwn.never rfl (jE (aq 2)) (dB 3 S.nd) (aZ (cB 1 S.nd (bK dj (bK dj (aq 1) (gK LQ hr (aA (aq 3) aD))) bR)))) (aZ (cB 1 S.nd (bK dj (mO mW (aq 1) mK (mL (Hi Hl aJ))) bR)))))) (aZ (bC (mO mW (aq 1) mK (mL (Hi Hl aJ))))))),λt hK hx=>by delta U6; walk_at "t"⟩)
theorem adX(a:At K mg "_law_frac" K7) (M:Nm mg) (LR:aU P w K mg base 1 "_law_shared" (["_law_one", "_law_other"]:List Str) (bA K cl 2 tG)):aU P w K mg base 2 "_law_frac" (["_law_top", "_law_bottom"]:List Str) (bA K cl 2 oN):=by
 have S:=fS (["_law_top", "_law_bottom", "_law_by"]:List Str) (["_law_top", "_law_bottom"]:List Str) (bG K7)
 exact a.dO S (cl:=cl) (by decide) (by walk_at "2") (λf cdv A outer s H E hr=>⟨_,(aN (cB 2 S.nd (pc1 (E:=E) LR hr cD (aA (aq 0) (aA (aq 1) aD)))) (aN (cA (bQ (qG hr.units) (aq 1) aJ (bM _)) (aZ (cB 2 S.nd (bK rO aJ (aq 2)))) cu) (aZ (bC (kh (aA (bK CG (aq 0) (aq 2)) (aA (bK CG (aq 1) (aq 2)) aD))))))),λt hK hx=>by delta Eo; walk_at "t"⟩)
theorem adY(a:At K mg "_law_frac_text" Lb) (M:Nm mg):aU P w K mg base 1 "_law_frac_text" (["_law_some"]:List Str) (bA K cl 1 oO):=by
 have S:=fS (["_law_some"]:List Str) (["_law_some"]:List Str) (bG Lb)
 exact a.dO S (cl:=cl) (by decide) (by walk_at "1") (λf cdv A outer s H E hr=>⟨_,(aN (cA (bQ (fJ hr.units) (bZ (aq 0) aJ) aJ (bM _)) (aZ (bC (qN (zA hr.gd hr.units) M.wW (aA (bZ (aq 0) aJ) aD)))) cu) (aZ (bC (bK dj (bK dj (qN (zA hr.gd hr.units) M.wW (aA (bZ (aq 0) aJ) aD)) bR) (qN (zA hr.gd hr.units) M.wW (aA (bZ (aq 0) aJ) aD)))))),λt hK hx=>by delta Ly; walk_at "t"⟩)
theorem adZ(a:At K mg "_law_fracs" Lf) (M:Nm mg) (XT:iY K) (Ep:aU P w K mg base 1 "_law_whole" (["_law_found"]:List Str) (bA K cl 1 lu)):aU P w K mg base 2 "_law_fracs" (["_law_found", "_law_due"]:List Str) (bA K cl 2 lZ):=by
 have S:=fS (["_law_found", "_law_due", "_law_one", "_law_other"]:List Str) (["_law_found", "_law_due"]:List Str) (bG Lf)
 exact a.dO S (cl:=cl) (by decide) (by walk_at "2") (λf cdv A outer s H E hr=>⟨_,(aN (cA (PW.pt (iz (fH (fC (lX XT.o .list (aq 0) M.fP M.Ag) (by intro _; rfl))) (jt (bQ (jx hr.units) (dM fD M.fG (aA (aq 0) aD)) (dM fD M.fG (aA (aq 1) aD)) (bM _))))) (aZ (bC iQ)) cu) (aN (PS.mG (rN PassesOwn.never rfl (RX M.Uw (aA (aq 0) (aA (aq 1) aD))) (rH rfl (jH (dB 2 S.nd) (jH (dB 3 S.nd) rG))) (aN (cA (PW.pt (iz (fH (fC (lX XT.o .tuple (aq 2) M.fP M.wX) (by intro _; rfl))) (iz (bQ (jx hr.units) (dM fD M.fG (aA (aq 2) aD)) aJ (bM _)) (iz (fH (fC (gK Ep hr (aA (bZ (aq 2) aJ) aD)) (by intro _; rfl))) (jt (fH (fC (gK Ep hr (aA (bZ (aq 2) aJ) aD)) (by intro _; rfl)))))))) (aZ (bC iQ)) cu) (aZ (cA (bQ (jx hr.units) (aq 2) (aq 3) (bM _)) (aZ (bC iQ)) cu))))) (aZ (bC iQ)))),λt hK hx=>by delta U7; walk_at "t"⟩)
theorem ad0(a:At K mg "_law_fraction" Ek) (M:Nm mg) (ad1:aU P w K mg base 1 "_law_number" (["_law_text"]:List Str) (bA K cl 1 xg)) (LR:aU P w K mg base 1 "_law_shared" (["_law_one", "_law_other"]:List Str) (bA K cl 2 tG)):aU P w K mg base 2 "_law_fraction" (["_law_text"]:List Str) (bA K cl 1 oR):=by
 have S:=fS (["_law_text", "_law_parts"]:List Str) (["_law_text"]:List Str) (bG Ek)
 exact a.dO S (cl:=cl) (by decide) (by walk_at "1") (λf cdv A outer s H E hr=>⟨_,(aN (zm (i:=1) (sc:=bG Ek) (No:=(["_law_text", "_law_parts"]:List Str)) (N:=(["_law_part"]:List Str)) (src:=[none]) (g:=(fQ 0)) S.nd rfl (Or.inl rfl) rfl rfl ⟨by rfl,by decide +kernel,by decide +kernel,by decide +kernel,by rfl,by decide +kernel⟩ rfl (jE (jY PySem.F.plainAttrs_str PySem.F.slot_str_split PySem.F.type_str_split pI (aq 0) (aA bR aD))) (λC s H ex=>(dB 0 (show List.Nodup (["_law_part"]:List Str) by decide +kernel))) (λC s H ex=>(gK ad1 hr (aA (aq 0) aD)))) (aN (cA (PW.pt (iz (bQ (sy hr.units) fB (aq 1) (by with_unfolding_all rfl)) (jt (bQ vP (dM fD M.fG (aA (aq 1) aD)) aJ (bM _))))) (aZ (bC fB)) cu) (aN (cA (bQ (fJ hr.units) (dM fD M.fG (aA (aq 1) aD)) aJ (bM _)) (aZ (bC (kh (aA (bZ (aq 1) aJ) (aA aJ aD))))) cu) (aN (cA (PW.pt (iz (bQ (qG hr.units) (bZ (aq 1) aJ) aJ (bM _)) (jt (bQ (jx hr.units) (pc1 (E:=E) LR hr cD (aA (bZ (aq 1) aJ) (aA (bZ (aq 1) aJ) aD))) aJ (bM _))))) (aZ (bC fB)) cu) (aZ (bC (kh (aA (bZ (aq 1) aJ) (aA (bZ (aq 1) aJ) aD))))))))),λt hK hx=>by delta Vb; walk_at "t"⟩)
theorem ad2(a:At K mg "_law_good" Lk) (M:Nm mg) (ad3:aU P w K mg base 3 "_law_book_read" (["_law_text"]:List Str) (bA K cl 1 tK)) (Vg:aU P w K mg base 7 "_law_asked" (["_law_of_book", "_law_text", "_law_many"]:List Str) (bA K cl 3 pR)) (ad4:aU P w K mg base 3 "_law_rule_read" (["_law_text", "_law_many"]:List Str) (bA K cl 2 lB)) (Vh:aU P w K mg base 1 "_law_only" (["_law_caught", "_law_name"]:List Str) (bA K cl 2 tH)) (ad5:aU P w K mg base 3 "_law_same_rule" (["_law_found", "_law_rule_here"]:List Str) (bA K cl 2 pQ)) (ad6:aU P w K mg base 7 "shown_book" (["book"]:List Str) (bA K cl 1 u5)) (ad7:aU P w K mg base 5 "shown_rule" (["rule", "many"]:List Str) (bA K cl 2 m6)) (ad8:aU P w K mg base 3 "_law_same_book" (["_law_found", "_law_book_here"]:List Str) (bA K cl 2 w6)):aU P w K mg base 8 "_law_good" (["_law_text", "_law_many"]:List Str) (bA K cl 2 tL):=by
 have S:=fS (["_law_text", "_law_many", "_law_book_here", "_law_found", "_law_caught", "_law_rule_here"]:List Str) (["_law_text", "_law_many"]:List Str) (bG Lk)
 exact a.dO S (cl:=cl) (by decide) (by walk_at "2") (λf cdv A outer s H E hr=>⟨_,(aN (cB 2 S.nd (pc1 (E:=E) ad3 hr cD (aA (aq 0) aD))) (aN (rK (pc1 (E:=E) Vg hr cD (aA iQ (aA (aq 0) (aA (aq 1) aD)))) (rH rfl (jH (dB 3 S.nd) (jH (dB 4 S.nd) rG)))) (aN (cA (PW.pt (oZ (bQ yQ (aq 2) fB (bM _)) (qm (fH (fC (pc1 (E:=E) Vh hr cD (aA (aq 4) (aA bR aD))) (by intro _; rfl)))))) (aZ (bC iQ)) cu) (aN (cA (PW.pt (oZ (bQ Hr (aq 2) fB (bM _)) (qm (PW.pt (iz (bQ Hr (aq 4) fB (bM _)) (jt (fH (fC (pc1 (E:=E) ad8 hr cD (aA (aq 3) (aA (aq 2) aD))) (by intro _; rfl))))))))) (aZ (bC iQ)) cu) (aN (cA (PW.pt (oZ (bQ Hr (aq 2) fB (bM _)) (qm (bQ (jx hr.units) (pc1 (E:=E) ad6 hr cD (aA (aq 3) aD)) (aq 0) (bM _))))) (aZ (bC iQ)) cu) (aN (cB 5 S.nd (pc1 (E:=E) ad4 hr cD (aA (aq 0) (aA (aq 1) aD)))) (aN (rK (pc1 (E:=E) Vg hr cD (aA iQ (aA (aq 0) (aA (aq 1) aD)))) (rH rfl (jH (dB 3 S.nd) (jH (dB 4 S.nd) rG)))) (aN (cA (bQ yQ (aq 5) fB (bM _)) (aZ (bC (pc1 (E:=E) Vh hr cD (aA (aq 4) (aA bR aD))))) cu) (aZ (bC (o7 (nq yQ (aq 4) fB (bM _)) (o7 (pc1 (E:=E) ad5 hr cD (aA (aq 3) (aA (aq 5) aD))) (qp (nq (fJ hr.units) (pc1 (E:=E) ad7 hr cD (aA (aq 3) (aA (aq 1) aD))) (aq 0) (bM _))))))))))))))),λt hK hx=>by delta LC; walk_at "t"⟩)
theorem ad9(a:At K mg "_law_mixed" K3) (M:Nm mg):aU P w K mg base 1 "_law_mixed" (["_law_cell", "_law_k"]:List Str) (bA K cl 2 wY):=by
 have S:=fS (["_law_cell", "_law_k", "_law_number_here"]:List Str) (["_law_cell", "_law_k"]:List Str) (bG K3)
 exact a.dO S (cl:=cl) (by decide) (by walk_at "2") (λf cdv A outer s H E hr=>⟨_,(aN (cB 2 S.nd (bK dj (bK qF (bK rP (aq 0) aJ) aJ) (bK qF (bK qF aJ (aq 1)) (aq 1)))) (aN (cB 2 S.nd (bK rP (bK dj (bK dj (aq 2) (bK qF aJ (aq 1))) aJ) aJ)) (aN (cB 2 S.nd (bK rP (bK qF (aq 2) (aq 2)) aJ)) (aZ (bC (bK rP (bK qF (aq 2) (bK dj (aq 2) aJ)) aJ)))))),λt hK hx=>by delta Lr; walk_at "t"⟩)
theorem aea(a:At K mg "_law_number" Ej) (M:Nm mg):aU P w K mg base 1 "_law_number" (["_law_text"]:List Str) (bA K cl 1 xg):=by
 have S:=fS (["_law_text"]:List Str) (["_law_text"]:List Str) (bG Ej)
 exact a.dO S (cl:=cl) (by decide) (by walk_at "1") (λf cdv A outer s H E hr=>⟨_,(aN (cA (PW.pt (iz (bQ (fJ hr.units) (aq 0) bR (bM _)) (iz (bQ vP (dM fD M.fG (aA (aq 0) aD)) aJ (bM _)) (jt (bQ (jx hr.units) (Tp (sc:=bG Ej) (No:=(["_law_text"]:List Str)) (N:=(["_law_sign"]:List Str)) (src:=[none]) (g:=(fQ 0)) rfl rfl ⟨by rfl,by decide +kernel,by decide +kernel,by decide +kernel,by rfl,by decide +kernel⟩ rfl (adE (aq 0)) (λC s H ex=>(dB 0 (show List.Nodup (["_law_sign"]:List Str) by decide +kernel))) (λC s H ex=>(bQ adu (aq 0) bR (by with_unfolding_all rfl))) (λC s H ex=>(aq 0))) (jc aD) (bM _)))))) (aZ (bC fB)) cu) (aN (cA (PW.pt (oZ (bQ (fJ hr.units) (bZ (aq 0) aJ) bR (bM _)) (qm (bQ (jx hr.units) (aq 0) bR (bM _))))) (aZ (bC fB)) cu) (aZ (bC (qN Ur M.El (aA (aq 0) aD)))))),λt hK hx=>by delta Va; walk_at "t"⟩)
theorem aeb(a:At K mg "_law_only" Ef) (M:Nm mg) (XT:iY K) {Aj:Addr} (tM:Cg K mg "HeadError" Aj) {xu:Addr} (Ak:Cg K mg "NoBook" xu) {Ma:Addr} (Er:Cg K mg "NoBottom" Ma) {Mf:Addr} (Es:Cg K mg "NoCount" Mf) {Mg:Addr} (Et:Cg K mg "NoLine" Mg) {Mh:Addr} (Eu:Cg K mg "NoList" Mh) {Mi:Addr} (Ew:Cg K mg "NoLooks" Mi) {xG:Addr} (Al:Cg K mg "NoRule" xG) {Mj:Addr} (Ey:Cg K mg "NoSlack" Mj) {xH:Addr} (Am:Cg K mg "NoText" xH) {Ml:Addr} (Ez:Cg K mg "NoThing" Ml) {Mp:Addr} (EY:Cg K mg "NoThings" Mp) {Mq:Addr} (Fb:Cg K mg "NoWorth" Mq) {Mr:Addr} (Fd:Cg K mg "NotSure" Mr) {Ms:Addr} (Fe:Cg K mg "TooMany" Ms):aU P w K mg base 1 "_law_only" (["_law_caught", "_law_name"]:List Str) (bA K cl 2 tH):=by
 have S:=fS (["_law_caught", "_law_name", "_law_found", "_law_names"]:List Str) (["_law_caught", "_law_name"]:List Str) (bG Ef)
 exact a.dO S (cl:=cl) (by decide) (by walk_at "2") (λf cdv A outer s H E hr=>⟨_,(aN (cA (PW.pt (iz (fH (fC (kY XT (by decide +kernel) tM.1 tM.2 (aq 0) M.fP) (by intro _; rfl))) (jt (fH (fC (pcV XT (aq 0) M.fP M.adH) (by intro _; rfl)))))) (aZ (bC iQ)) cu) (aN (cB 2 S.nd (jc (aA (kY XT (by decide +kernel) Er.1 Er.2 (aq 0) M.fP) (aA (kY XT (by decide +kernel) Ak.1 Ak.2 (aq 0) M.fP) (aA (kY XT (by decide +kernel) Eu.1 Eu.2 (aq 0) M.fP) aD))))) (aN (cB 2 S.nd (bK dj (aq 2) (jc (aA (kY XT (by decide +kernel) Al.1 Al.2 (aq 0) M.fP) (aA (kY XT (by decide +kernel) Es.1 Es.2 (aq 0) M.fP) (aA (kY XT (by decide +kernel) Ew.1 Ew.2 (aq 0) M.fP) aD)))))) (aN (cB 2 S.nd (bK dj (aq 2) (jc (aA (kY XT (by decide +kernel) EY.1 EY.2 (aq 0) M.fP) (aA (kY XT (by decide +kernel) Fd.1 Fd.2 (aq 0) M.fP) (aA (kY XT (by decide +kernel) Ey.1 Ey.2 (aq 0) M.fP) aD)))))) (aN (cB 2 S.nd (bK dj (aq 2) (jc (aA (kY XT (by decide +kernel) Ez.1 Ez.2 (aq 0) M.fP) (aA (kY XT (by decide +kernel) Fb.1 Fb.2 (aq 0) M.fP) (aA (kY XT (by decide +kernel) Fe.1 Fe.2 (aq 0) M.fP) aD)))))) (aN (cB 2 S.nd (bK dj (aq 2) (jc (aA (kY XT (by decide +kernel) Am.1 Am.2 (aq 0) M.fP) (aA (kY XT (by decide +kernel) Et.1 Et.2 (aq 0) M.fP) aD))))) (aN (cB 3 S.nd (mZ (G:=aF K) (Ts:=[.str "NoBottom",.str "NoBook",.str "NoList",.str "NoRule",.str "NoCount",.str "NoLooks",.str "NoThings",.str "NotSure",.str "NoSlack"]) (by kernel_rfl))) (aN (cB 3 S.nd (bK dj (aq 3) (mZ (G:=aF K) (Ts:=[.str "NoThing",.str "NoWorth",.str "TooMany",.str "NoText",.str "NoLine"]) (by kernel_rfl)))) (aZ (bC (nq (fJ hr.units) (aq 2) (mR (sc:=bG Ef) (No:=(["_law_caught", "_law_name", "_law_found", "_law_names"]:List Str)) (N:=(["_law_one", "_law_name"]:List Str)) (src:=[none,some 1]) (g:=(fQ 0)) rfl rfl ⟨by rfl,by decide +kernel,by decide +kernel,by decide +kernel,by rfl,by decide +kernel⟩ rfl (jE (aq 3)) (λC s H ex=>(dB 0 (show List.Nodup (["_law_one", "_law_name"]:List Str) by decide +kernel))) (λC s H ex=>(nq (fJ hr.units) (aq 0) (lW 1) (bM _)))) (bM _)))))))))))),λt hK hx=>(gF (lU (zM (oF (oE hK (kZ hK (bO 0)))) (oF (oE hK (acX hK (bO 0))))) (j7 (Cw _)) lQ) (gF (lR (uE (cY (kZ hK (bO 0)) (cY (kZ hK (bO 0)) (cY (kZ hK (bO 0)) fM)))) (gG 2) iW) (gF (lR (wM hK (bO 2) (uE (cY (kZ hK (bO 0)) (cY (kZ hK (bO 0)) (cY (kZ hK (bO 0)) fM))))) (gG 2) iW) (gF (lR (wM hK (bO 2) (uE (cY (kZ hK (bO 0)) (cY (kZ hK (bO 0)) (cY (kZ hK (bO 0)) fM))))) (gG 2) iW) (gF (lR (wM hK (bO 2) (uE (cY (kZ hK (bO 0)) (cY (kZ hK (bO 0)) (cY (kZ hK (bO 0)) fM))))) (gG 2) iW) (gF (lR (wM hK (bO 2) (uE (cY (kZ hK (bO 0)) (cY (kZ hK (bO 0)) fM)))) (gG 2) iW) (gF (lR (JM hK) (gG 3) iW) (gF (lR (wM hK (bO 3) (JM hK)) (gG 3) iW) (j7 (x_eq hK (bO 2) (uQ (qH hK (bO 3)) (qK (by decide)) (sX (js:=[0]) (by decide)) iW (λt1 h1 k1=>(gG 0)) (λt1 h1 k1=>(x_eq (h1.trans hK) (bO 0) (bO 1))))))))))))))⟩)
theorem aec(a:At K mg "_law_pile" K4) (M:Nm mg) (aed:aU P w K mg base 1 "_law_mixed" (["_law_cell", "_law_k"]:List Str) (bA K cl 2 wY)):aU P w K mg base 2 "_law_pile" (["_law_script", "_law_k"]:List Str) (bA K cl 2 u9):=by
 have S:=fS (["_law_script", "_law_k", "_law_cell", "_law_found", "_law_j"]:List Str) (["_law_script", "_law_k"]:List Str) (bG K4)
 exact a.dO S (cl:=cl) (by decide) (by walk_at "2") (λf cdv A outer s H E hr=>⟨_,(aN (cB 2 S.nd aJ) (aN (cA (bQ (qG hr.units) (aq 1) (dM fD M.fG (aA (aq 0) aD)) (bM _)) (aZ (cB 2 S.nd (bZ (aq 0) (aq 1)))) cu) (aN (cA (bQ Hq (aq 2) (bK BK aJ aJ) (bM _)) (aZ (bC (jc (aA (bK rO (aq 2) (bK BK aJ aJ)) aD)))) cu) (aN (cB 3 S.nd aJ) (aN (PS.mG (rN PassesOwn.never rfl (wO M.uY (aA aJ aD)) (dB 4 S.nd) (aZ (cB 3 S.nd (bK dj (bK qF (aq 3) aJ) (gK aed hr (aA (aq 2) (aA (bK dj (bK qF aJ (aq 1)) (aq 4)) aD)))))))) (aZ (bC (jc (aA (aq 3) aD))))))))),λt hK hx=>by delta Ls; walk_at "t"⟩)
theorem aee(a:At K mg "_law_rule" Eh) (M:Nm mg) (gM:aU P w K mg base 1 "_law_take" (["_law_pile_here", "_law_size"]:List Str) (iC K 2 0 cO)) (aef:aU P w K mg base 3 "_law_weight" (["_law_pile_here"]:List Str) (iC K 1 0 pO)):aU P w K mg base 4 "_law_rule" (["_law_pile_here", "_law_many"]:List Str) (iC K 2 0 wZ):=by
 have S:=fS (["_law_pile_here", "_law_many", "_law_way"]:List Str) (["_law_pile_here", "_law_many"]:List Str) (bG Eh)
 exact a.uM 0 S (cl:=λ_=>0) (by decide) (by walk_at "2") (λf cdv A outer s H E hr=>⟨_,(aN (cB 2 S.nd (pc1 (E:=E) gM hr cD (aA (lW 0) (aA aJ aD)))) (aN (cA (bQ (qG hr.units) (aq 2) aJ (bM _)) (aZ (bC (kh (aA bR (aA (mR (sc:=bG Eh) (No:=(["_law_pile_here", "_law_many", "_law_way"]:List Str)) (N:=(["_law_k", "_law_pile_here"]:List Str)) (src:=[none,some 0]) (g:=(fQ 0)) rfl rfl ⟨by rfl,by decide +kernel,by decide +kernel,by decide +kernel,by rfl,by decide +kernel⟩ rfl (wO M.uY (aA (aq 1) aD)) (λC s H ex=>(dB 0 (show List.Nodup (["_law_k", "_law_pile_here"]:List Str) by decide +kernel))) (λC s H ex=>(gK aef hr (aA (lW 1) aD)))) aD))))) cu) (aN (cA (bQ (qG hr.units) (aq 2) aJ (bM _)) (aZ (bC (kh (aA bR (aA (bK dj aJ (pc1 (E:=E) gM hr cD (aA (lW 0) (aA (aq 1) aD)))) aD))))) cu) (aZ (bC (bZ (mZ (G:=aF K) (Ts:=[.tup [.str "least"],.tup [.str "greatest"],.tup [.str "product"]]) (by kernel_rfl)) (bK rO (aq 2) aJ))))))),λt hK hx=>by delta U5; walk_at "t"⟩)
theorem aeg(a:At K mg "_law_rule_read" Ae) (M:Nm mg) (LK:aU P w K mg base 2 "_law_fraction" (["_law_text"]:List Str) (bA K cl 1 oR)):aU P w K mg base 3 "_law_rule_read" (["_law_text", "_law_many"]:List Str) (bA K cl 2 lB):=by
 have S:=fS (["_law_text", "_law_many", "_law_words", "_law_numbers"]:List Str) (["_law_text", "_law_many"]:List Str) (bG Ae)
 exact a.dO S (cl:=cl) (by decide) (by walk_at "2") (λf cdv A outer s H E hr=>⟨_,(aN (cB 2 S.nd (jY PySem.F.plainAttrs_str PySem.F.slot_str_split PySem.F.type_str_split pI (aq 0) (aA bR aD))) (aN (cA (bQ (sy hr.units) (aq 0) (mZ (G:=aF K) (Ts:=[.str "least",.str "greatest",.str "product"]) (by kernel_rfl)) (by with_unfolding_all rfl)) (aZ (bC (kh (aA (aq 0) aD)))) cu) (aN (zm (i:=3) (sc:=bG Ae) (No:=(["_law_text", "_law_many", "_law_words", "_law_numbers"]:List Str)) (N:=(["_law_word"]:List Str)) (src:=[none]) (g:=(fQ 0)) S.nd rfl (Or.inl rfl) rfl rfl ⟨by rfl,by decide +kernel,by decide +kernel,by decide +kernel,by rfl,by decide +kernel⟩ rfl (jE (mO mW (aq 2) (mL aJ) mK)) (λC s H ex=>(dB 0 (show List.Nodup (["_law_word"]:List Str) by decide +kernel))) (λC s H ex=>(gK LK hr (aA (aq 0) aD)))) (aN (cA (bQ (sy hr.units) fB (aq 3) (by with_unfolding_all rfl)) (aZ (bC fB)) cu) (aN (cA (PW.pt (oZ (bQ (fJ hr.units) (bZ (aq 2) aJ) bR (bM _)) (oZ (bQ (fJ hr.units) (dM fD M.fG (aA (aq 3) aD)) aJ (bM _)) (qm (bQ (sy hr.units) (bZ (aq 3) aJ) (mR (sc:=bG Ae) (No:=(["_law_text", "_law_many", "_law_words", "_law_numbers"]:List Str)) (N:=(["_law_place"]:List Str)) (src:=[none]) (g:=(fQ 0)) rfl rfl ⟨by rfl,by decide +kernel,by decide +kernel,by decide +kernel,by rfl,by decide +kernel⟩ rfl (acG M.uY (aA aJ (aA (bK dj (aq 1) aJ) aD))) (λC s H ex=>(dB 0 (show List.Nodup (["_law_place"]:List Str) by decide +kernel))) (λC s H ex=>(kh (aA (aq 0) (aA aJ aD))))) (by with_unfolding_all rfl)))))) (aZ (bC (kh (aA bR (aA (bZ (bZ (aq 3) aJ) aJ) aD))))) cu) (aN (cA (PW.pt (oZ (bQ (fJ hr.units) (bZ (aq 2) aJ) bR (bM _)) (qm (bQ (fJ hr.units) (dM fD M.fG (aA (aq 3) aD)) (aq 1) (bM _))))) (aZ (bC (kh (aA bR (aA (aq 3) aD))))) cu) (aZ (bC fB)))))))),λt hK hx=>by delta Vc; walk_at "t"⟩)
theorem aeh(a:At K mg "_law_rule_text" Le) (M:Nm mg) (LQ:aU P w K mg base 1 "_law_frac_text" (["_law_some"]:List Str) (bA K cl 1 oO)):aU P w K mg base 2 "_law_rule_text" (["_law_rule_here"]:List Str) (bA K cl 1 pP):=by
 have S:=fS (["_law_rule_here", "_law_text", "_law_weight_here"]:List Str) (["_law_rule_here"]:List Str) (bG Le)
 exact a.dO S (cl:=cl) (by decide) (by walk_at "1") (λf cdv A outer s H E hr=>⟨_,(aN (cB 1 S.nd (bZ (aq 0) aJ)) (aN (cA (bQ (fJ hr.units) (bZ (aq 0) aJ) bR (bM _)) (aZ (PS.mG (rN PassesOwn.never rfl (jE (bZ (aq 0) aJ)) (dB 2 S.nd) (aZ (cB 1 S.nd (bK dj (bK dj (aq 1) bR) (gK LQ hr (aA (aq 2) aD)))))))) cu) (aN (cA (bQ (fJ hr.units) (bZ (aq 0) aJ) bR (bM _)) (aZ (cB 1 S.nd (bK dj (bK dj (aq 1) bR) (qN (zA hr.gd hr.units) M.wW (aA (bZ (aq 0) aJ) aD))))) cu) (aZ (bC (aq 1)))))),λt hK hx=>by delta Lz; walk_at "t"⟩)
theorem aei(a:At K mg "_law_same_book" Ei) (M:Nm mg) (XT:iY K) (Mt:aU P w K mg base 2 "_law_fracs" (["_law_found", "_law_due"]:List Str) (bA K cl 2 lZ)):aU P w K mg base 3 "_law_same_book" (["_law_found", "_law_book_here"]:List Str) (bA K cl 2 w6):=by
 have S:=fS (["_law_found", "_law_book_here"]:List Str) (["_law_found", "_law_book_here"]:List Str) (bG Ei)
 exact a.dO S (cl:=cl) (by decide) (by walk_at "2") (λf cdv A outer s H E hr=>⟨_,(aN (cA (PW.pt (iz (fH (fC (lX XT.o .list (aq 0) M.fP M.Ag) (by intro _; rfl))) (jt (bQ (jx hr.units) (dM fD M.fG (aA (aq 0) aD)) (dM fD M.fG (aA (aq 1) aD)) (bM _))))) (aZ (bC iQ)) cu) (aZ (bC (dM (zy rfl) M.Af (aA (mR (sc:=bG Ei) (No:=(["_law_found", "_law_book_here"]:List Str)) (N:=(["_law_one", "_law_other"]:List Str)) (src:=[none,none]) (g:=(G5 K 2 (Bv (fQ 0) (Bv (fQ 1) G4)))) rfl rfl ⟨by rfl,by decide +kernel,by decide +kernel,by decide +kernel,by rfl,by decide +kernel⟩ rfl (RX M.Uw (aA (aq 0) (aA (aq 1) aD))) (λC s H ex=>(rH rfl (jH (dB 0 (show List.Nodup (["_law_one", "_law_other"]:List Str) by decide +kernel)) (jH (dB 1 (show List.Nodup (["_law_one", "_law_other"]:List Str) by decide +kernel)) rG)))) (λC s H ex=>(gK Mt hr (aA (aq 0) (aA (aq 1) aD))))) aD))))),λt hK hx=>by delta U8; walk_at "t"⟩)
theorem aej(a:At K mg "_law_same_rule" Lg) (M:Nm mg) (XT:iY K) (Mt:aU P w K mg base 2 "_law_fracs" (["_law_found", "_law_due"]:List Str) (bA K cl 2 lZ)) (Ep:aU P w K mg base 1 "_law_whole" (["_law_found"]:List Str) (bA K cl 1 lu)):aU P w K mg base 3 "_law_same_rule" (["_law_found", "_law_rule_here"]:List Str) (bA K cl 2 pQ):=by
 have S:=fS (["_law_found", "_law_rule_here"]:List Str) (["_law_found", "_law_rule_here"]:List Str) (bG Lg)
 exact a.dO S (cl:=cl) (by decide) (by walk_at "2") (λf cdv A outer s H E hr=>⟨_,(aN (cA (PW.pt (iz (fH (fC (lX XT.o .tuple (aq 0) M.fP M.wX) (by intro _; rfl))) (iz (bQ (jx hr.units) (dM fD M.fG (aA (aq 0) aD)) (dM fD M.fG (aA (aq 1) aD)) (bM _)) (jt (bQ (jx hr.units) (bZ (aq 0) aJ) (bZ (aq 1) aJ) (bM _)))))) (aZ (bC iQ)) cu) (aN (cA (bQ (fJ hr.units) (bZ (aq 1) aJ) bR (bM _)) (aZ (bC (pc1 (E:=E) Mt hr cD (aA (bZ (aq 0) aJ) (aA (bZ (aq 1) aJ) aD))))) cu) (aZ (bC (Yj (nq (jx hr.units) (bZ (aq 1) aJ) bR (bM _)) (qp (o7 (pc1 (E:=E) Ep hr cD (aA (bZ (aq 0) aJ) aD)) (qp (nq (fJ hr.units) (bZ (aq 0) aJ) (bZ (aq 1) aJ) (bM _)))))))))),λt hK hx=>by delta U9; walk_at "t"⟩)
theorem aek(a:At K mg "_law_shared" K6) (M:Nm mg):aU P w K mg base 1 "_law_shared" (["_law_one", "_law_other"]:List Str) (bA K cl 2 tG):=by
 have S:=fS (["_law_one", "_law_other"]:List Str) (["_law_one", "_law_other"]:List Str) (bG K6)
 exact a.dO S (cl:=cl) (by decide) (by walk_at "2") (λf cdv A outer s H E hr=>⟨_,(aN (PS.mG (PK PassesOwn.never (bQ (jx hr.units) (aq 1) aJ (bM _)) (aZ (PB (i:=0) (j:=1) rfl S.nd rfl rfl (by decide) rfl rfl (aA (aq 1) (aA (bK rP (aq 0) (aq 1)) aD)) rfl)))) (aZ (bC (dM Qi M.Uu (aA (aq 0) aD))))),λt hK hx=>by delta UW; walk_at "t"⟩)
theorem ael(a:At K mg "_law_take" K5) (M:Nm mg):aU P w K mg base 1 "_law_take" (["_law_pile_here", "_law_size"]:List Str) (iC K 2 0 cO):=by
 have S:=fS (["_law_pile_here", "_law_size", "_law_digit"]:List Str) (["_law_pile_here", "_law_size"]:List Str) (bG K5)
 exact a.uM 0 S (cl:=λ_=>0) (by decide) (by walk_at "2") (λf cdv A outer s H E hr=>⟨_,(aN (cB 2 S.nd (bK rP (bZ (aq 0) aJ) (aq 1))) (aN (rK (bK CG (bZ (aq 0) aJ) (aq 1)) (Px (aq 0) aJ set_list)) (aZ (bC (aq 2))))),λt hK hx=>by delta Lw; walk_at "t"⟩)
theorem aem(a:At K mg "_law_weight" La) (M:Nm mg) (gM:aU P w K mg base 1 "_law_take" (["_law_pile_here", "_law_size"]:List Str) (iC K 2 0 cO)) (Mv:aU P w K mg base 2 "_law_frac" (["_law_top", "_law_bottom"]:List Str) (bA K cl 2 oN)):aU P w K mg base 3 "_law_weight" (["_law_pile_here"]:List Str) (iC K 1 0 pO):=by
 have S:=fS (["_law_pile_here", "_law_way", "_law_top"]:List Str) (["_law_pile_here"]:List Str) (bG La)
 exact a.uM 0 S (cl:=cl) (by decide) (by walk_at "1") (λf cdv A outer s H E hr=>⟨_,(aN (cB 1 S.nd (pc1 (E:=E) gM hr cD (aA (aq 0) (aA aJ aD)))) (aN (cA (bQ (qG hr.units) (aq 1) aJ (bM _)) (aZ (bC (bZ (mZ (G:=aF K) (Ts:=[.tup [.int 0,.int 1],.tup [.int 1,.int 1]]) (by kernel_rfl)) (aq 1)))) cu) (aN (cB 2 S.nd (pc1 (E:=E) gM hr cD (aA (aq 0) (aA (bZ (mZ (G:=aF K) (Ts:=[.int 4,.int 13,.int 100,.int 1000000000000]) (by kernel_rfl)) (bK rO (aq 1) aJ)) aD)))) (aZ (bC (pc1 (E:=E) Mv hr cD (aA (aq 2) (aA (bK dj aJ (pc1 (E:=E) gM hr cD (aA (aq 0) (aA (bZ (mZ (G:=aF K) (Ts:=[.int 4,.int 12,.int 99,.int 999999999999]) (by kernel_rfl)) (bK rO (aq 1) aJ)) aD)))) aD)))))))),λt hK hx=>by delta U4; walk_at "t"⟩)
theorem aen(a:At K mg "_law_whole" K8) (M:Nm mg) (XT:iY K):aU P w K mg base 1 "_law_whole" (["_law_found"]:List Str) (bA K cl 1 lu):=by
 have S:=fS (["_law_found"]:List Str) (["_law_found"]:List Str) (bG K8)
 exact a.dO S (cl:=cl) (by decide) (by walk_at "1") (λf cdv A outer s H E hr=>⟨_,(aZ (bC (o7 (lX XT.o .int (aq 0) M.fP M.El) (qp (O9 (lX XT.o .bool (aq 0) M.fP M.Uv)))))),λt hK hx=>by delta U0; walk_at "t"⟩)
theorem aeo(a:At K mg "_law_words_bent" Lh) (M:Nm mg) (gM:aU P w K mg base 1 "_law_take" (["_law_pile_here", "_law_size"]:List Str) (iC K 2 0 cO)):aU P w K mg base 2 "_law_words_bent" (["_law_words", "_law_pile_here"]:List Str) (iC K 2 1 xq):=by
 have S:=fS (["_law_words", "_law_pile_here", "_law_some", "_law_at", "_law_way", "_law_word"]:List Str) (["_law_words", "_law_pile_here"]:List Str) (bG Lh)
 exact a.uM 1 S (cl:=λ_=>0) (by decide) (by walk_at "2") (λf cdv A outer s H E hr=>⟨_,(aN (cB 2 S.nd (mZ (G:=aF K) (Ts:=[.str "",.str "0",.str "1",.str "00",.str "01",.str "-1",.str "-0",.str "+1",.str "1/1",.str "0/1",.str "2/4",.str "3/2",.str "1/0",.str "/",.str "1/",.str "/2",.str "1/02"]) (by kernel_rfl))) (aN (cB 2 S.nd (bK dj (aq 2) (jc (aA (bK DP bR aJ) (aA (bK DP bR aJ) (aA (bK dj bR (bK DP bR aJ)) (aA (bK dj bR (bK DP bR aJ)) (aA bR (aA bR (aA bR (aA bR (aA bR aD)))))))))))) (aN (cB 2 S.nd (bK dj (aq 2) (mZ (G:=aF K) (Ts:=[.str "greatest",.str "1 1",.str "5",.str "1/2"]) (by kernel_rfl)))) (aN (cB 3 S.nd (pc1 (E:=E) gM hr cD (aA (aq 1) (aA (dM fD M.fG (aA (aq 0) aD)) aD)))) (aN (cB 4 S.nd (pc1 (E:=E) gM hr cD (aA (aq 1) (aA aJ aD)))) (aN (cB 5 S.nd (bZ (aq 2) (pc1 (E:=E) gM hr cD (aA (aq 1) (aA aJ aD))))) (aZ (bC (bK dj (bK dj (mO mW (aq 0) mK (mL (aq 3))) (bZ (jc (aA (jc (aA (aq 5) aD)) (aA (jc (aA (bZ (aq 0) (aq 3)) (aA (aq 5) aD))) (aA (jc aD) (aA (jc (aA (bZ (aq 0) (aq 3)) (aA (bZ (aq 0) (aq 3)) aD))) aD))))) (aq 4))) (mO mW (aq 0) (mL (bK dj (aq 3) aJ)) mK)))))))))),λt hK hx=>by delta Vd; walk_at "t"⟩)
theorem aep(a:At K mg "_law_worth" K9) (M:Nm mg) (gM:aU P w K mg base 1 "_law_take" (["_law_pile_here", "_law_size"]:List Str) (iC K 2 0 cO)) (Mv:aU P w K mg base 2 "_law_frac" (["_law_top", "_law_bottom"]:List Str) (bA K cl 2 oN)):aU P w K mg base 3 "_law_worth" (["_law_pile_here"]:List Str) (iC K 1 0 pN):=by
 have S:=fS (["_law_pile_here", "_law_way", "_law_bottom"]:List Str) (["_law_pile_here"]:List Str) (bG K9)
 exact a.uM 0 S (cl:=cl) (by decide) (by walk_at "1") (λf cdv A outer s H E hr=>⟨_,(aN (cB 1 S.nd (pc1 (E:=E) gM hr cD (aA (aq 0) (aA aJ aD)))) (aN (cA (bQ (qG hr.units) (aq 1) aJ (bM _)) (aZ (bC (bZ (mZ (G:=aF K) (Ts:=[.tup [.int 0,.int 1],.tup [.int 1,.int 1]]) (by kernel_rfl)) (aq 1)))) cu) (aN (cB 2 S.nd (bZ (mZ (G:=aF K) (Ts:=[.int 2,.int 3,.int 4,.int 6,.int 12,.int 0]) (by kernel_rfl)) (bK rO (aq 1) aJ))) (aN (cA (bQ (fJ hr.units) (aq 2) aJ (bM _)) (aZ (cB 2 S.nd (bK dj aJ (pc1 (E:=E) gM hr cD (aA (aq 0) (aA (bK rO (bK BK aJ aJ) aJ) aD)))))) cu) (aZ (bC (pc1 (E:=E) Mv hr cD (aA (pc1 (E:=E) gM hr cD (aA (aq 0) (aA (bK dj (aq 2) aJ) aD))) (aA (aq 2) aD))))))))),λt hK hx=>by delta Lx; walk_at "t"⟩)
theorem aer(a:At K mg "are_weights" DY) (M:Nm mg) (XT:iY K) (Ao:aU P w K mg base 2 "is_fraction" (["thing"]:List Str) (bA K cl 1 nP)):aU P w K mg base 3 "are_weights" (["thing", "many"]:List Str) (bA K cl 2 Dw):=by
 have S:=fS (["thing", "many"]:List Str) (["thing", "many"]:List Str) (bG DY)
 exact a.dO S (cl:=cl) (by decide) (by walk_at "2") (λf cdv A outer s H E hr=>⟨_,(aN (cA (PW.pt (iz (fH (fC (lX XT.o .list (aq 0) M.fP M.Ag) (by intro _; rfl))) (jt (bQ (jx hr.units) (dM fD M.fG (aA (aq 0) aD)) (aq 1) (bM _))))) (aZ (bC iQ)) cu) (aZ (bC (dM (zy rfl) M.Af (aA (mR (sc:=bG DY) (No:=(["thing", "many"]:List Str)) (N:=(["part"]:List Str)) (src:=[none]) (g:=(fQ 0)) rfl rfl ⟨by rfl,by decide +kernel,by decide +kernel,by decide +kernel,by rfl,by decide +kernel⟩ rfl (jE (aq 0)) (λC s H ex=>(dB 0 (show List.Nodup (["part"]:List Str) by decide +kernel))) (λC s H ex=>(o7 (gK Ao hr (aA (aq 0) aD)) (qp (nq Hq (yU yV (aq 0) aJ (λ_ _=>rfl)) aJ (bM _)))))) aD))))),λt hK hx=>by delta Ui; walk_at "t"⟩)
theorem aes(a:At K mg "are_worths" DX) (M:Nm mg) (XT:iY K) (aeu:aU P w K mg base 3 "is_worth" (["thing"]:List Str) (bA K cl 1 qO)):aU P w K mg base 4 "are_worths" (["thing", "most"]:List Str) (bA K cl 2 uU):=by
 have S:=fS (["thing", "most"]:List Str) (["thing", "most"]:List Str) (bG DX)
 exact a.dO S (cl:=cl) (by decide) (by walk_at "2") (λf cdv A outer s H E hr=>⟨_,(aN (cA (PW.pt (iz (fH (fC (lX XT.o .list (aq 0) M.fP M.Ag) (by intro _; rfl))) (jt (fH (Qg rQ rQ aJ (dM fD M.fG (aA (aq 0) aD)) (aq 1)))))) (aZ (bC iQ)) cu) (aZ (bC (dM (zy rfl) M.Af (aA (mR (sc:=bG DX) (No:=(["thing", "most"]:List Str)) (N:=(["part"]:List Str)) (src:=[none]) (g:=(fQ 0)) rfl rfl ⟨by rfl,by decide +kernel,by decide +kernel,by decide +kernel,by rfl,by decide +kernel⟩ rfl (jE (aq 0)) (λC s H ex=>(dB 0 (show List.Nodup (["part"]:List Str) by decide +kernel))) (λC s H ex=>(gK aeu hr (aA (aq 0) aD)))) aD))))),λt hK hx=>by delta J7; walk_at "t"⟩)
theorem aev(a:At K mg "common_divisor" Ky) (M:Nm mg):aU P w K mg base 1 "common_divisor" (["one", "other"]:List Str) (bA K cl 2 Dv):=by
 have S:=fS (["one", "other"]:List Str) (["one", "other"]:List Str) (bG Ky)
 exact a.dO S (cl:=cl) (by decide) (by walk_at "2") (λf cdv A outer s H E hr=>⟨_,(aN (PS.mG (PK PassesOwn.never (bQ (jx hr.units) (aq 1) aJ (bM _)) (aZ (PB (i:=0) (j:=1) rfl S.nd rfl rfl (by decide) rfl rfl (aA (aq 1) (aA (bK rP (aq 0) (aq 1)) aD)) rfl)))) (aZ (bC (dM Qi M.Uu (aA (aq 0) aD))))),λt hK hx=>by delta Ud; walk_at "t"⟩)
theorem aew(a:At K mg "fraction_from" KR) (M:Nm mg) (Fg:aU P w K mg base 1 "whole_from" (["word", "figures"]:List Str) (bA K cl 2 lY)) (Ao:aU P w K mg base 2 "is_fraction" (["thing"]:List Str) (bA K cl 1 nP)):aU P w K mg base 3 "fraction_from" (["word", "figures"]:List Str) (bA K cl 2 tE):=by
 have S:=fS (["word", "figures", "above", "sign", "below", "top", "bottom"]:List Str) (["word", "figures"]:List Str) (bG KR)
 exact a.dO S (cl:=cl) (by decide) (by walk_at "2") (λf cdv A outer s H E hr=>⟨_,(aN (rK (jY PySem.F.plainAttrs_str PySem.F.slot_str_partition PySem.F.type_str_partition ac6 (aq 0) (aA bR aD)) (rH rfl (jH (dB 2 S.nd) (jH (dB 3 S.nd) (jH (dB 4 S.nd) rG))))) (aN (cB 5 S.nd (pc1 (E:=E) Fg hr cD (aA (aq 2) (aA (aq 1) aD)))) (aN (cB 6 S.nd (vM (fC (aq 3) (by intro _; rfl)) (pc1 (E:=E) Fg hr cD (aA (aq 4) (aA (aq 1) aD))) aJ)) (aN (cA (PW.pt (iz (PW.pt (oZ (fC (aq 3) (by intro _; rfl)) (qm (bQ (fJ hr.units) (aq 6) aJ (bM _))))) (jt (fH (fC (pc1 (E:=E) Ao hr cD (aA (kh (aA (aq 5) (aA (aq 6) aD))) aD)) (by intro _; rfl)))))) (aZ (bC fB)) cu) (aZ (bC (kh (aA (aq 5) (aA (aq 6) aD))))))))),λt hK hx=>by delta Lq; walk_at "t"⟩)
theorem aex(a:At K mg "fractions_from" Ec) (M:Nm mg) (aey:aU P w K mg base 3 "fraction_from" (["word", "figures"]:List Str) (bA K cl 2 tE)):aU P w K mg base 4 "fractions_from" (["words", "figures"]:List Str) (bA K cl 2 pK):=by
 have S:=fS (["words", "figures", "fractions"]:List Str) (["words", "figures"]:List Str) (bG Ec)
 exact a.dO S (cl:=cl) (by decide) (by walk_at "2") (λf cdv A outer s H E hr=>⟨_,(aN (zm (i:=2) (sc:=bG Ec) (No:=(["words", "figures", "fractions"]:List Str)) (N:=(["word", "figures"]:List Str)) (src:=[none,some 1]) (g:=(fQ 0)) S.nd rfl (Or.inl rfl) rfl rfl ⟨by rfl,by decide +kernel,by decide +kernel,by decide +kernel,by rfl,by decide +kernel⟩ rfl (jE (aq 0)) (λC s H ex=>(dB 0 (show List.Nodup (["word", "figures"]:List Str) by decide +kernel))) (λC s H ex=>(gK aey hr (aA (aq 0) (aA (lW 1) aD))))) (aZ (bC (vM (PW.pt (iz (fH (fC (aq 2) (by intro _; rfl))) (jt (bQ (sy hr.units) fB (aq 2) (by with_unfolding_all rfl))))) fB (aq 2))))),λt hK hx=>by delta UG; walk_at "t"⟩)
theorem aez(a:At K mg "is_book" Ac) (M:Nm mg) {Mw:V} (Fi:Gk K mg "MOST_LISTS" Mw (.int 4)) {Mx:V} (Fj:Gk K mg "MOST_THINGS" Mx (.int 12)) (XT:iY K) (aeA:aU P w K mg base 4 "are_worths" (["thing", "most"]:List Str) (bA K cl 2 uU)):aU P w K mg base 5 "is_book" (["thing"]:List Str) (bA K cl 1 qP):=by
 have S:=fS (["thing"]:List Str) (["thing"]:List Str) (bG Ac)
 exact a.dO S (cl:=cl) (by decide) (by walk_at "1") (λf cdv A outer s H E hr=>⟨_,(aN (cA (PW.pt (iz (fH (fC (lX XT.o .list (lW 0) M.fP M.Ag) (by intro _; rfl))) (jt (fH (Qg rQ rQ aJ (dM fD M.fG (aA (lW 0) aD)) (wN Fi)))))) (aZ (bC iQ)) cu) (aN (cA (fH (fC (dM (zy rfl) M.Af (aA (mR (sc:=bG Ac) (No:=(["thing"]:List Str)) (N:=(["row"]:List Str)) (src:=[none]) (g:=(fQ 0)) rfl rfl ⟨by rfl,by decide +kernel,by decide +kernel,by decide +kernel,by rfl,by decide +kernel⟩ rfl (jE (lW 0)) (λC s H ex=>(dB 0 (show List.Nodup (["row"]:List Str) by decide +kernel))) (λC s H ex=>(gK aeA hr (aA (aq 0) (aA (wN Fj) aD))))) aD)) (by intro _; rfl))) (aZ (bC iQ)) cu) (aZ (bC (dM (zy rfl) M.Af (aA (mR (sc:=bG Ac) (No:=(["thing"]:List Str)) (N:=(["row", "thing"]:List Str)) (src:=[none,some 0]) (g:=(fQ 0)) rfl rfl ⟨by rfl,by decide +kernel,by decide +kernel,by decide +kernel,by rfl,by decide +kernel⟩ rfl (jE (lW 0)) (λC s H ex=>(dB 0 (show List.Nodup (["row", "thing"]:List Str) by decide +kernel))) (λC s H ex=>(nq (fJ hr.units) (dM fD M.fG (aA (aq 0) aD)) (dM fD M.fG (aA (yU yV (lW 1) aJ (λ_ _=>rfl)) aD)) (bM _)))) aD)))))),λt hK hx=>(gF (lU (zM (oF (oE hK (Jk hK .list (bO 0)))) (oF (mV (TQ hK Jf Jf JG JG (lO _) (x_len hK (cY (bO 0) fM)) (zV hK Fi))))) (j7 (Cw _)) lQ) (gF (lU (oF (oE hK (JK hK (cY (uQ (qH hK (bO 0)) (qK (by decide)) (sX (js:=[0]) (by decide)) iW (λt1 h1 k1=>(gG 0)) (λt1 h1 k1=>(Dk (h1.trans hK) k1 (jm (jm lV)) (cY (bO 0) (cY (zV (h1.trans hK) Fj) fM))))) fM)))) (j7 (Cw _)) lQ) (j7 (JK hK (cY (uQ (qH hK (bO 0)) (qK (by decide)) (sX (js:=[0]) (by decide)) iW (λt2 h2 k2=>(gG 0)) (λt2 h2 k2=>(x_eq (h2.trans hK) (x_len (h2.trans hK) (cY (bO 0) fM)) (x_len (h2.trans hK) (cY (oK (h2.trans hK) (bO 1) (lO _)) fM))))) fM)))))⟩)
theorem aeB(a:At K mg "is_fraction" Kz) (M:Nm mg) (XT:iY K) (Fo:aU P w K mg base 1 "is_whole" (["thing"]:List Str) (bA K cl 1 uT)) (aeC:aU P w K mg base 1 "common_divisor" (["one", "other"]:List Str) (bA K cl 2 Dv)):aU P w K mg base 2 "is_fraction" (["thing"]:List Str) (bA K cl 1 nP):=by
 have S:=fS (["thing", "top", "bottom"]:List Str) (["thing"]:List Str) (bG Kz)
 exact a.dO S (cl:=cl) (by decide) (by walk_at "1") (λf cdv A outer s H E hr=>⟨_,(aN (cA (PW.pt (iz (fH (fC (lX XT.o .tuple (aq 0) M.fP M.wX) (by intro _; rfl))) (jt (bQ (jx hr.units) (dM fD M.fG (aA (aq 0) aD)) aJ (bM _))))) (aZ (bC iQ)) cu) (aN (rK (aq 0) (rH rfl (jH (dB 1 S.nd) (jH (dB 2 S.nd) rG)))) (aN (cA (PW.pt (iz (fH (fC (pc1 (E:=E) Fo hr cD (aA (aq 1) aD)) (by intro _; rfl))) (jt (fH (fC (pc1 (E:=E) Fo hr cD (aA (aq 2) aD)) (by intro _; rfl)))))) (aZ (bC iQ)) cu) (aZ (bC (o7 (nq Hq (aq 2) aJ (bM _)) (qp (nq (fJ hr.units) (pc1 (E:=E) aeC hr cD (aA (aq 1) (aA (aq 2) aD))) aJ (bM _))))))))),λt hK hx=>by delta J5; walk_at "t"⟩)
theorem aeD(a:At K mg "is_rule" KH) (M:Nm mg) {Aq:V} (xJ:Gk K mg "BARE_RULES" Aq (.tup [(.tup [(.str "least")]),(.tup [(.str "greatest")]),(.tup [(.str "product")])])) (XT:iY K) (aeE:aU P w K mg base 3 "are_weights" (["thing", "many"]:List Str) (bA K cl 2 Dw)) (Fo:aU P w K mg base 1 "is_whole" (["thing"]:List Str) (bA K cl 1 uT)):aU P w K mg base 4 "is_rule" (["thing", "many"]:List Str) (bA K cl 2 iD):=by
 have S:=fS (["thing", "many", "word", "rest"]:List Str) (["thing", "many"]:List Str) (bG KH)
 exact a.dO S (cl:=cl) (by decide) (by walk_at "2") (λf cdv A outer s H E hr=>⟨_,(aN (cA (fH (fC (lX XT.o .tuple (aq 0) M.fP M.wX) (by intro _; rfl))) (aZ (bC iQ)) cu) (aN (cA (bQ (jx hr.units) (dM fD M.fG (aA (aq 0) aD)) aJ (bM _)) (aZ (bC (nq (sy hr.units) (aq 0) (wN xJ) (by with_unfolding_all rfl)))) cu) (aN (rK (aq 0) (rH rfl (jH (dB 2 S.nd) (jH (dB 3 S.nd) rG)))) (aN (cA (bQ (fJ hr.units) (aq 2) bR (bM _)) (aZ (bC (pc1 (E:=E) aeE hr cD (aA (aq 3) (aA (aq 1) aD))))) cu) (aZ (bC (o7 (nq (fJ hr.units) (aq 2) bR (bM _)) (o7 (pc1 (E:=E) Fo hr cD (aA (aq 3) aD)) (qp (Qf rQ rQ aJ (aq 3) (aq 1))))))))))),λt hK hx=>by delta wR; walk_at "t"⟩)
theorem aeF(a:At K mg "is_whole" Ku) (M:Nm mg) (XT:iY K):aU P w K mg base 1 "is_whole" (["thing"]:List Str) (bA K cl 1 uT):=by
 have S:=fS (["thing"]:List Str) (["thing"]:List Str) (bG Ku)
 exact a.dO S (cl:=cl) (by decide) (by walk_at "1") (λf cdv A outer s H E hr=>⟨_,(aZ (bC (o7 (lX XT.o .int (aq 0) M.fP M.El) (qp (O9 (lX XT.o .bool (aq 0) M.fP M.Uv)))))),λt hK hx=>by delta Ue; walk_at "t"⟩)
theorem aeG(a:At K mg "is_worth" KC) (M:Nm mg) (Ao:aU P w K mg base 2 "is_fraction" (["thing"]:List Str) (bA K cl 1 nP)):aU P w K mg base 3 "is_worth" (["thing"]:List Str) (bA K cl 1 qO):=by
 have S:=fS (["thing"]:List Str) (["thing"]:List Str) (bG KC)
 exact a.dO S (cl:=cl) (by decide) (by walk_at "1") (λf cdv A outer s H E hr=>⟨_,(aZ (bC (o7 (pc1 (E:=E) Ao hr cD (aA (aq 0) aD)) (qp (Qf rQ rQ aJ (bZ (aq 0) aJ) (bZ (aq 0) aJ)))))),λt hK hx=>by delta J6; walk_at "t"⟩)
theorem aeH(a:At K mg "law" Ln) (M:Nm mg) (aeI:aU P w K mg base 2 "_law_pile" (["_law_script", "_law_k"]:List Str) (bA K cl 2 u9)) (aeJ:aU P w K mg base 2 "_law_rule_text" (["_law_rule_here"]:List Str) (bA K cl 1 pP)) (gM:aU P w K mg base 1 "_law_take" (["_law_pile_here", "_law_size"]:List Str) (iC K 2 0 cO)) (aeK:aU P w K mg base 4 "_law_rule" (["_law_pile_here", "_law_many"]:List Str) (iC K 2 0 wZ)) (aeL:aU P w K mg base 2 "_law_book_text" (["_law_book_here"]:List Str) (bA K cl 1 vf)) (aeM:aU P w K mg base 3 "_law_bent" (["_law_text", "_law_pile_here"]:List Str) (iC K 2 1 xr)) (aeN:aU P w K mg base 4 "_law_book" (["_law_pile_here"]:List Str) (iC K 1 0 vd)) (aeO:aU P w K mg base 8 "_law_good" (["_law_text", "_law_many"]:List Str) (bA K cl 2 tL)):aU P w K mg base 9 "law" (["_law_script"]:List Str) (bA K cl 1 Ai):=by
 have S:=fS (["_law_script", "_law_k", "_law_pile_here", "_law_many", "_law_text", "_law_time"]:List Str) (["_law_script"]:List Str) (bG Ln)
 exact a.dO S (cl:=cl) (by decide) (by walk_at "1") (λf cdv A outer s H E hr=>⟨_,(aN (PS.mG (rN PassesOwn.never rfl (wO M.uY (aA (dM (YF rfl) M.adI (aA (dM (YG rfl) M.adJ (aA (dM fD M.fG (aA (aq 0) aD)) (aA aJ aD))) (aA aJ aD))) aD)) (dB 1 S.nd) (aN (cB 2 S.nd (gK aeI hr (aA (aq 0) (aA (aq 1) aD)))) (aN (cB 3 S.nd (bK dj aJ (gK gM hr (aA (aq 2) (aA aJ aD))))) (aN (cB 4 S.nd (gK aeJ hr (aA (gK aeK hr (aA (aq 2) (aA (aq 3) aD))) aD))) (aN (cA (bQ (fJ hr.units) (gK gM hr (aA (aq 2) (aA aJ aD))) aJ (bM _)) (aZ (cB 4 S.nd (gK aeL hr (aA (gK aeN hr (aA (aq 2) aD)) aD)))) cu) (aZ (rN PassesOwn.never rfl (wO M.uY (aA aJ aD)) (dB 5 S.nd) (aN (cA (fH (fC (gK aeO hr (aA (aq 4) (aA (aq 3) aD))) (by intro _; rfl))) (aZ (bC iQ)) cu) (aZ (cB 4 S.nd (gK aeM hr (aA (aq 4) (aA (aq 2) aD)))))))))))))) (aZ (bC iQ))),λt hK hx=>by delta Vf; walk_at "t"⟩)
theorem aeP(a:At K mg "need_book" KD) (M:Nm mg) (Fp:PyProof.Rows.OwnCls "NoBook" (cl "NoBook") sY "ValueError.__new__" mg base) (Mz:aU P w K mg base 5 "is_book" (["thing"]:List Str) (bA K cl 1 qP)):aU P w K mg base 6 "need_book" (["book"]:List Str) (bA K cl 1 uV):=by
 have S:=fS (["book"]:List Str) (["book"]:List Str) (bG KD)
 exact a.dO S (cl:=cl) (by decide) (by walk_at "1") (λf cdv A outer s H E hr=>⟨_,(aZ (cA (fH (fC (pc1 (E:=E) Mz hr cD (aA (aq 0) aD)) (by intro _; rfl))) (aZ (zE zB Fp PySem.F.excBase_ValueError rfl bR)) cu)),λt hK hx=>(lU (oF (oE hK (qL hK hx (jm lV) (cY (bO 0) fM)))) (zR (λH'=>hx "NoBook" H') (kJ _)) lQ)⟩)
theorem aeQ(a:At K mg "need_text" KZ) (M:Nm mg) (pU:PyProof.Rows.OwnCls "NoText" (cl "NoText") sY "ValueError.__new__" mg base) (XT:iY K):aU P w K mg base 1 "need_text" (["text"]:List Str) (bA K cl 1 pH):=by
 have S:=fS (["text"]:List Str) (["text"]:List Str) (bG KZ)
 exact a.dO S (cl:=cl) (by decide) (by walk_at "1") (λf cdv A outer s H E hr=>⟨_,(aZ (cA (fH (fC (lX XT.o .str (aq 0) M.fP M.wW) (by intro _; rfl))) (aZ (zE zB pU PySem.F.excBase_ValueError rfl bR)) cu)),λt hK hx=>(lU (oF (oE hK (Jk hK .str (bO 0)))) (zR (λH'=>hx "NoText" H') (kJ _)) lQ)⟩)
theorem aeR(a:At K mg "read_book" Ed) (M:Nm mg) {Ar:V} (tO:Gk K mg "MOST_FIGURES" Ar (.int 40)) (pU:PyProof.Rows.OwnCls "NoText" (cl "NoText") sY "ValueError.__new__" mg base) (MF:aU P w K mg base 1 "need_text" (["text"]:List Str) (bA K cl 1 pH)) (MJ:aU P w K mg base 4 "fractions_from" (["words", "figures"]:List Str) (bA K cl 2 pK)) (Mz:aU P w K mg base 5 "is_book" (["thing"]:List Str) (bA K cl 1 qP)):aU P w K mg base 6 "read_book" (["text"]:List Str) (bA K cl 1 pL):=by
 have S:=fS (["text", "book"]:List Str) (["text"]:List Str) (bG Ed)
 exact a.dO S (cl:=cl) (by decide) (by walk_at "1") (λf cdv A outer s H E hr=>⟨_,(aN (psE (pc1 (E:=E) MF hr cD (aA (aq 0) aD))) (aN (zm (i:=1) (sc:=bG Ed) (No:=(["text", "book"]:List Str)) (N:=(["line"]:List Str)) (src:=[none]) (g:=(fQ 0)) S.nd rfl (Or.inl rfl) rfl rfl ⟨by rfl,by decide +kernel,by decide +kernel,by decide +kernel,by rfl,by decide +kernel⟩ rfl (jE (jY PySem.F.plainAttrs_str PySem.F.slot_str_split PySem.F.type_str_split pI (aq 0) (aA bR aD))) (λC s H ex=>(dB 0 (show List.Nodup (["line"]:List Str) by decide +kernel))) (λC s H ex=>(gK MJ hr (aA (jY PySem.F.plainAttrs_str PySem.F.slot_str_split PySem.F.type_str_split pI (aq 0) (aA bR aD)) (aA (wN tO) aD))))) (aN (cA (fH (fC (pc1 (E:=E) Mz hr cD (aA (aq 1) aD)) (by intro _; rfl))) (aZ (zE zB pU PySem.F.excBase_ValueError rfl bR)) cu) (aZ (bC (aq 1)))))),λt hK hx=>(gF (Jl (qL hK hx (jm lV) (cY (bO 0) fM))) (gF (lR (uQ (qH hK (wU (bO 0) (kJ _))) (qK (by decide)) (sX (js:=[0]) (by decide)) iW (λt1 h1 k1=>(gG 0)) (λt1 h1 k1=>(Dk (h1.trans hK) k1 (jm (jm lV)) (cY (wU (bO 0) (kJ _)) (cY (zV (h1.trans hK) tO) fM))))) (gG 1) iW) (gF (lU (oF (oE hK (qL hK hx (jm lV) (cY (bO 1) fM)))) (zR (λH'=>hx "NoText" H') (kJ _)) lQ) (j7 (bO 1)))))⟩)
theorem aeS(a:At K mg "read_rule" K1) (M:Nm mg) {Ar:V} (tO:Gk K mg "MOST_FIGURES" Ar (.int 40)) (pU:PyProof.Rows.OwnCls "NoText" (cl "NoText") sY "ValueError.__new__" mg base) (MF:aU P w K mg base 1 "need_text" (["text"]:List Str) (bA K cl 1 pH)) (aeT:aU P w K mg base 5 "rule_from" (["words", "figures"]:List Str) (bA K cl 2 Ah)) (MK:aU P w K mg base 4 "is_rule" (["thing", "many"]:List Str) (bA K cl 2 iD)):aU P w K mg base 6 "read_rule" (["text", "many"]:List Str) (bA K cl 2 oM):=by
 have S:=fS (["text", "many", "rule"]:List Str) (["text", "many"]:List Str) (bG K1)
 exact a.dO S (cl:=cl) (by decide) (by walk_at "2") (λf cdv A outer s H E hr=>⟨_,(aN (psE (pc1 (E:=E) MF hr cD (aA (aq 0) aD))) (aN (cB 2 S.nd (pc1 (E:=E) aeT hr cD (aA (jY PySem.F.plainAttrs_str PySem.F.slot_str_split PySem.F.type_str_split pI (aq 0) (aA bR aD)) (aA (wN tO) aD)))) (aN (cA (fH (fC (pc1 (E:=E) MK hr cD (aA (aq 2) (aA (aq 1) aD))) (by intro _; rfl))) (aZ (zE zB pU PySem.F.excBase_ValueError rfl bR)) cu) (aZ (bC (aq 2)))))),λt hK hx=>(gF (Jl (qL hK hx (jm lV) (cY (bO 0) fM))) (gF (lR (qL hK hx (jm (jm lV)) (cY (wU (bO 0) (kJ _)) (cY (zV hK tO) fM))) (gG 2) iW) (gF (lU (oF (oE hK (qL hK hx (jm (jm lV)) (cY (bO 2) (cY (bO 1) fM))))) (zR (λH'=>hx "NoText" H') (kJ _)) lQ) (j7 (bO 2)))))⟩)
theorem aeU(a:At K mg "rule_from" KY) (M:Nm mg) {Aq:V} (xJ:Gk K mg "BARE_RULES" Aq (.tup [(.tup [(.str "least")]),(.tup [(.str "greatest")]),(.tup [(.str "product")])])) (MJ:aU P w K mg base 4 "fractions_from" (["words", "figures"]:List Str) (bA K cl 2 pK)) (Fg:aU P w K mg base 1 "whole_from" (["word", "figures"]:List Str) (bA K cl 2 lY)):aU P w K mg base 5 "rule_from" (["words", "figures"]:List Str) (bA K cl 2 Ah):=by
 have S:=fS (["words", "figures", "weights", "place"]:List Str) (["words", "figures"]:List Str) (bG KY)
 exact a.dO S (cl:=cl) (by decide) (by walk_at "2") (λf cdv A outer s H E hr=>⟨_,(aN (cA (bQ (fJ hr.units) (mO mW (aq 0) mK (mL aJ)) (mZ (G:=aF K) (Ts:=[.str "shares"]) (by kernel_rfl)) (bM _)) (aN (cB 2 S.nd (pc1 (E:=E) MJ hr cD (aA (mO mW (aq 0) (mL aJ) mK) (aA (aq 1) aD)))) (aZ (bC (vM (bQ yQ (aq 2) fB (bM _)) fB (kh (aA bR (aA (aq 2) aD))))))) cu) (aN (cA (PW.pt (oZ (bQ (fJ hr.units) (mO mW (aq 0) mK (mL aJ)) (mZ (G:=aF K) (Ts:=[.str "middle"]) (by kernel_rfl)) (bM _)) (qm (bQ (fJ hr.units) (dM fD M.fG (aA (aq 0) aD)) aJ (bM _))))) (aN (cB 3 S.nd (pc1 (E:=E) Fg hr cD (aA (bZ (aq 0) aJ) (aA (aq 1) aD)))) (aZ (bC (vM (bQ yQ (aq 3) fB (bM _)) fB (kh (aA bR (aA (aq 3) aD))))))) cu) (aZ (bC (vM (bQ (sy hr.units) (qN QV M.wX (aA (aq 0) aD)) (wN xJ) (by with_unfolding_all rfl)) (qN QV M.wX (aA (aq 0) aD)) fB))))),λt hK hx=>by delta UJ; walk_at "t"⟩)
theorem aeV(a:At K mg "shown_book" Eb) (M:Nm mg) (aeW:aU P w K mg base 6 "need_book" (["book"]:List Str) (bA K cl 1 uV)) (MN:aU P w K mg base 2 "shown_fractions" (["fractions"]:List Str) (bA K cl 1 qT)):aU P w K mg base 7 "shown_book" (["book"]:List Str) (bA K cl 1 u5):=by
 have S:=fS (["book"]:List Str) (["book"]:List Str) (bG Eb)
 exact a.dO S (cl:=cl) (by decide) (by walk_at "1") (λf cdv A outer s H E hr=>⟨_,(aN (psE (pc1 (E:=E) aeW hr cD (aA (aq 0) aD))) (aZ (bC (jY PySem.F.plainAttrs_str PySem.F.slot_str_join PySem.F.type_str_join zZ bR (aA (mR (sc:=bG Eb) (No:=(["book"]:List Str)) (N:=(["row"]:List Str)) (src:=[none]) (g:=(fQ 0)) rfl rfl ⟨by rfl,by decide +kernel,by decide +kernel,by decide +kernel,by rfl,by decide +kernel⟩ rfl (jE (aq 0)) (λC s H ex=>(dB 0 (show List.Nodup (["row"]:List Str) by decide +kernel))) (λC s H ex=>(gK MN hr (aA (aq 0) aD)))) aD))))),λt hK hx=>by delta Uy; walk_at "t"⟩)
theorem aeX(a:At K mg "shown_fraction" KJ) (M:Nm mg):aU P w K mg base 1 "shown_fraction" (["fraction"]:List Str) (bA K cl 1 uZ):=by
 have S:=fS (["fraction", "top", "bottom"]:List Str) (["fraction"]:List Str) (bG KJ)
 exact a.dO S (cl:=cl) (by decide) (by walk_at "1") (λf cdv A outer s H E hr=>⟨_,(aN (rK (aq 0) (rH rfl (jH (dB 1 S.nd) (jH (dB 2 S.nd) rG)))) (aZ (bC (vM (bQ (fJ hr.units) (aq 2) aJ (bM _)) (qN (zA hr.gd hr.units) M.wW (aA (aq 1) aD)) (Kh (uW (DG (aq 1)) (uW bR (uW (DG (aq 2)) Kg)))))))),λt hK hx=>by delta Lp; walk_at "t"⟩)
theorem aeY(a:At K mg "shown_fractions" Ea) (M:Nm mg) (aeZ:aU P w K mg base 1 "shown_fraction" (["fraction"]:List Str) (bA K cl 1 uZ)):aU P w K mg base 2 "shown_fractions" (["fractions"]:List Str) (bA K cl 1 qT):=by
 have S:=fS (["fractions"]:List Str) (["fractions"]:List Str) (bG Ea)
 exact a.dO S (cl:=cl) (by decide) (by walk_at "1") (λf cdv A outer s H E hr=>⟨_,(aZ (bC (jY PySem.F.plainAttrs_str PySem.F.slot_str_join PySem.F.type_str_join zZ bR (aA (mR (sc:=bG Ea) (No:=(["fractions"]:List Str)) (N:=(["fraction"]:List Str)) (src:=[none]) (g:=(fQ 0)) rfl rfl ⟨by rfl,by decide +kernel,by decide +kernel,by decide +kernel,by rfl,by decide +kernel⟩ rfl (jE (aq 0)) (λC s H ex=>(dB 0 (show List.Nodup (["fraction"]:List Str) by decide +kernel))) (λC s H ex=>(gK aeZ hr (aA (aq 0) aD)))) aD)))),λt hK hx=>by delta Ux; walk_at "t"⟩)
theorem ae0(a:At K mg "shown_rule" KN) (M:Nm mg) (Ft:PyProof.Rows.OwnCls "NoRule" (cl "NoRule") sY "ValueError.__new__" mg base) (MK:aU P w K mg base 4 "is_rule" (["thing", "many"]:List Str) (bA K cl 2 iD)) (MN:aU P w K mg base 2 "shown_fractions" (["fractions"]:List Str) (bA K cl 1 qT)):aU P w K mg base 5 "shown_rule" (["rule", "many"]:List Str) (bA K cl 2 m6):=by
 have S:=fS (["rule", "many"]:List Str) (["rule", "many"]:List Str) (bG KN)
 exact a.dO S (cl:=cl) (by decide) (by walk_at "2") (λf cdv A outer s H E hr=>⟨_,(aN (cA (fH (fC (pc1 (E:=E) MK hr cD (aA (aq 0) (aA (aq 1) aD))) (by intro _; rfl))) (aZ (zE zB Ft PySem.F.excBase_ValueError rfl bR)) cu) (aN (cA (bQ (fJ hr.units) (bZ (aq 0) aJ) bR (bM _)) (aZ (bC (Kh (uW bR (uW (DG (pc1 (E:=E) MN hr cD (aA (bZ (aq 0) aJ) aD))) Kg))))) cu) (aN (cA (bQ (fJ hr.units) (bZ (aq 0) aJ) bR (bM _)) (aZ (bC (Kh (uW bR (uW (DG (bZ (aq 0) aJ)) Kg))))) cu) (aZ (bC (bZ (aq 0) aJ)))))),λt hK hx=>(gF (lU (oF (oE hK (qL hK hx (jm (jm lV)) (cY (bO 0) (cY (bO 1) fM))))) (zR (λH'=>hx "NoRule" H') (kJ _)) lQ) (gF (lU (mV (x_eq hK (oK hK (bO 0) (lO _)) (kJ _))) (j7 (Kp (Aa (kJ _) (Aa (Km (qL hK hx (jm lV) (cY (oK hK (bO 0) (lO _)) fM))) Ko)) _)) lQ) (gF (lU (mV (x_eq hK (oK hK (bO 0) (lO _)) (kJ _))) (j7 (Kp (Aa (kJ _) (Aa (Km (oK hK (bO 0) (lO _))) Ko)) _)) lQ) (j7 (oK hK (bO 0) (lO _))))))⟩)
theorem ae1(a:At K mg "whole_from" KQ) (M:Nm mg):aU P w K mg base 1 "whole_from" (["word", "figures"]:List Str) (bA K cl 2 lY):=by
 have S:=fS (["word", "figures"]:List Str) (["word", "figures"]:List Str) (bG KQ)
 exact a.dO S (cl:=cl) (by decide) (by walk_at "2") (λf cdv A outer s H E hr=>⟨_,(aN (cA (PW.pt (iz (fH (fC (QZ PySem.F.plainAttrs_str PySem.F.slot_str_isascii PySem.F.type_str_isascii ac5 (aq 0)) (by intro _; rfl))) (iz (fH (fC (QZ PySem.F.plainAttrs_str PySem.F.slot_str_isdigit PySem.F.type_str_isdigit ac4 (aq 0)) (by intro _; rfl))) (jt (bQ vP (dM fD M.fG (aA (aq 0) aD)) (aq 1) (bM _)))))) (aZ (bC fB)) cu) (aN (cA (PW.pt (oZ (bQ (fJ hr.units) (bZ (aq 0) aJ) bR (bM _)) (qm (bQ (jx hr.units) (aq 0) bR (bM _))))) (aZ (bC fB)) cu) (aZ (bC (qN Ur M.El (aA (aq 0) aD)))))),λt hK hx=>by delta Uz; walk_at "t"⟩)
end
end K70
end
section
namespace K70
open PySem L2
def gO(c:Nat):Bool:=decide (48<=c)&&decide (c<=57)
theorem Vi:∀c:Nat,c<128->Unicode.isDigit c=gO c:=by decide +kernel
theorem ae2(z:Str):(Txt.isascii z&&Txt.isdigit z)=(decide (0<z.length)&&z.cps.toList.all gO):=by
 unfold Txt.isascii Txt.isdigit
 rw[Bool.eq_iff_iff]
 simp only[Bool.and_eq_true,decide_eq_true_eq,Array.all_eq_true_iff_forall_mem,List.all_eq_true,Array.mem_toList_iff]
 constructor
 ·rintro⟨h1,h2,h3⟩
  exact⟨h2,λc hc=>by rw[<-Vi c (h1 c hc)]; exact h3 c hc⟩
 ·rintro⟨h2,h3⟩
  have h1:∀c∈z.cps,c<128:=λc hc=>by
   have:=h3 c hc
   unfold gO at this
   rw[Bool.and_eq_true,decide_eq_true_eq,decide_eq_true_eq]at this
   omega
  exact⟨h1,h2,λc hc=>by rw[Vi c (h1 c hc)]; exact h3 c hc⟩
end K70
namespace K70
open PySem L2
theorem ae3(c:Nat)(j:Str):DN ⟨#[c]⟩ j=decide (c∈j.cps.toList):=StrLaws.found_one j c
theorem ae4(c:Nat):decide (c∈("0123456789" : Str).cps.toList)=gO c:=by
 have e:("0123456789" : Str).cps.toList=[48,49,50,51,52,53,54,55,56,57]:=by decide +kernel
 rw[e]
 unfold gO
 rw[Bool.eq_iff_iff]
 simp only[decide_eq_true_eq,Bool.and_eq_true,List.mem_cons,List.not_mem_nil,or_false]
 omega
theorem ae5(c:Nat):DN ⟨#[c]⟩ "0123456789" = gO c:=(ae3 c _).trans (ae4 c)
end K70
end
section
namespace K70
open PySem L2 PySem.Builtin PySem.Builtin.Str
theorem qU{a b:Str}(h:a.cps.toList=b.cps.toList):a=b:=PySem.Str.ext' (Array.toList_inj.mp h)
theorem ae6(z:Str)(c:Nat):(c∉z.cps.toList/\sZ z ⟨#[c]⟩=[z,Str.empty,Str.empty])\/∃a b:List Nat,z.cps.toList=a++c::b/\c∉a/\sZ z ⟨#[c]⟩=[⟨a.toArray⟩,⟨#[c]⟩,⟨b.toArray⟩]:=by
 rcases StrLaws.occ_head z ⟨#[c]⟩ 1 (Nat.le_refl _)with⟨h0,hn⟩|⟨i,r,h0,ha,hn⟩
 ·refine .inl ⟨λhc=>?_,by unfold sZ; rw[h0]⟩
  obtain⟨i,hi⟩:=List.mem_iff_getElem?.mp hc
  exact hn i ((StrLaws.subAt_one z c i).mpr hi)
 ·have hi:=(StrLaws.subAt_one z c i).mp ha
  obtain⟨hl,hx⟩:=List.getElem?_eq_some_iff.mp hi
  refine .inr ⟨z.cps.toList.take i,z.cps.toList.drop (i+1),?_,λhc=>?_,?_⟩
  ·rw[<-hx,List.getElem_cons_drop,List.take_append_drop]
  ·obtain⟨k,hk⟩:=List.mem_iff_getElem?.mp hc
   rw[List.getElem?_take]at hk
   split at hk
   ·rename_i lt
    exact hn k lt ((StrLaws.subAt_one z c k).mpr hk)
   ·cases hk
  ·unfold sZ
   rw[h0]
   have e1:strSub z 0 i=⟨(z.cps.toList.take i).toArray⟩:=qU (by rw[StrLaws.strSub_toList]; simp)
   have e2:strSub z (i+(⟨#[c]⟩:Str).length) z.length=⟨(z.cps.toList.drop (i+1)).toArray⟩:=qU (by
    rw[StrLaws.strSub_toList]
    show List.take (z.length-(i+1)) (List.drop (i+1) z.cps.toList)=List.drop (i+1) z.cps.toList
    exact List.take_of_length_le (by rw[List.length_drop]; show z.cps.toList.length-(i+1)<=z.cps.size-(i+1); rw[Array.length_toList]; exact Nat.le_refl _))
   dsimp only
   rw[e1,e2]
end K70
end
section
namespace K70
open PySem L2 PySem.Builtin PySem.Builtin.Str
def spl(c:Nat):List Nat->List (List Nat)
 | []=>[[]]
 |x::r=>if x=c then []::spl c r else match spl c r with
  | []=>[[x]]
  |p::q=>(x::p)::q
def mq(c:Nat):List (List Nat)->List Nat
 | []=>[]
 | [p]=>p
 |p::q::r=>p++c::mq c (q::r)
theorem xK{c:Nat}:∀{p:List Nat},c∉p->spl c p=[p]
 | [],_=>rfl
 |x::r,h=>by
  rw[List.mem_cons,not_or]at h
  unfold spl
  rw[if_neg (Ne.symm h.1),xK h.2]
theorem Fv{c:Nat}(l:List Nat):∀{p:List Nat},c∉p->spl c (p++c::l)=p::spl c l
 | [],_=>by
  show spl c (c::l)=_
  rw[spl,if_pos rfl]
 |x::r,h=>by
  rw[List.mem_cons,not_or]at h
  show spl c (x::(r++c::l))=_
  rw[spl,if_neg (Ne.symm h.1),Fv l h.2]
theorem Vj{c:Nat}:∀(ps:List (List Nat)),ps≠[]->(∀p∈ps,c∉p)->spl c (mq c ps)=ps
 | [],h,_=>(h rfl).elim
 | [p],_,h=>xK (h p (List.mem_singleton.mpr rfl))
 |p::q::r,_,h=>by
  show spl c (p++c::mq c (q::r))=_
  rw[Fv _ (h p (List.mem_cons_self ..)),Vj (q::r) (List.cons_ne_nil _ _) λz hz=>h z (List.mem_cons_of_mem _ hz)]
theorem Vk(c:Nat):∀ts:List Str,(Str.join ⟨#[c]⟩ ts).cps.toList=mq c (ts.map (·.cps.toList))
 | []=>rfl
 | [x]=>rfl
 |x::y::r=>by
  show(x++⟨#[c]⟩++Str.join ⟨#[c]⟩ (y::r)).cps.toList=x.cps.toList++c::mq c ((y::r).map (·.cps.toList))
  rw[<-Vk c (y::r),Str.cps_append,Str.cps_append]
  simp
theorem xM(z y:Str):Txt.split z y≠[]:=by
 unfold Txt.split
 split
 ·exact List.cons_ne_nil _ _
 ·split
  ·exact List.cons_ne_nil _ _
  ·rw[StrLaws.partsBetween_eq]
   obtain⟨p,r,e⟩:=StrLaws.partsFrom_ne z y.length 0 (occurrences z y 0 z.length (z.length+1))
   rw[e]
   exact List.cons_ne_nil _ _
theorem xO(z:Str)(c:Nat):(Txt.split z ⟨#[c]⟩).map (·.cps.toList)=spl c z.cps.toList:=by
 have h:=StrLaws.join_split z ⟨#[c]⟩
 have e:z.cps.toList=mq c ((Txt.split z ⟨#[c]⟩).map (·.cps.toList)):=by
  rw[<-Vk,h]
 rw[e,Vj]
 ·intro n
  exact xM z _ (List.map_eq_nil_iff.mp n)
 ·intro p hp
  obtain⟨q,hq,rfl⟩:=List.mem_map.mp hp
  exact StrLaws.split_free z c q hq
end K70
end
section
namespace K70
open PySem L2 PySem.NumText
theorem Vl:∀(r:List Nat) (acc:Nat),1<=acc->1<=r.foldl (λacc c=>acc*10+(c-48)) acc
 | [],_,h=>h
 |c::r,acc,h=>Vl r _ (show 1<=acc*10+(c-48) by omega)
theorem ae7{a:Nat}(r:List Nat)(h:49<=a):1<=digitsVal (a::r):=Vl r _ (show 1<=0*10+(a-48) by omega)
theorem Vm:∀c:Nat,48<=c->c<=57->(Nat.digitChar (c-48)).toNat=c:=by
 intro c h1 h2
 have:∀d:Nat,d<10->(Nat.digitChar d).toNat=d+48:=by decide
 rw[this (c-48) (by omega)]
 omega
theorem ae8(n:Nat):∀l:List Nat,l.length=n->l≠[]->AllDigits l->(∀a r,l=a::r->r≠[]->a≠48)->(Nat.toDigits 10 (digitsVal l)).map Char.toNat=l:=by
 induction n with
 |zero=>exact λl e h=>(h (List.length_eq_zero_iff.mp e)).elim
 |succ n ih =>
  intro l e h hd hh
  obtain⟨i,c,rfl⟩:∃i c,l=i++[c]:=⟨l.dropLast,l.getLast h,(List.dropLast_concat_getLast h).symm⟩
  have hc:=hd c (by simp)
  rw[digitsVal_snoc]
  cases i with
  |nil =>
   have e0:digitsVal []*10+(c-48)=c-48:=by show 0*10+(c-48)=c-48; omega
   rw[e0,Nat.toDigits_of_lt_base (by omega)]
   show [(Nat.digitChar (c-48)).toNat]=[c]
   rw[Vm c hc.1 hc.2]
  |cons a r =>
   have ha:a≠48:=hh a (r++[c]) rfl (by simp)
   have ha2:=hd a (by simp)
   have p:=ae7 r (a:=a) (by omega)
   have e1:=ih (a::r) (by simpa using e) (List.cons_ne_nil _ _) (λd k=>hd d (by simp at k ⊢; rcases k with k|k; exact .inl k; exact .inr (.inl k))) λa' r' z _=>by cases z; exact ha
   have e2:digitsVal (a::r)*10+(c-48)=10*digitsVal (a::r)+(c-48):=by omega
   rw[e2,<-Nat.toDigits_append_toDigits (by decide) (by omega) (by omega),List.map_append,e1,Nat.toDigits_of_lt_base (by omega)]
   show _++[(Nat.digitChar (c-48)).toNat]=_
   rw[Vm c hc.1 hc.2]
end K70
end
section
namespace L2
open PySem
@[simp] theorem Rs.kW{α β : Type}(a : α)(f : α -> Rs β):(Rs.ok a).bind f=f a:=rfl
@[simp] theorem Rs.akr{α β : Type}(f : α -> Rs β):(Rs.bad:Rs α).bind f=.bad:=rfl
@[simp] theorem Rs.aks{α β : Type}(c:Str)(f : α -> Rs β):(Rs.ex c:Rs α).bind f=.ex c:=rfl
inductive Tg{α β : Type}(f : α -> Rs β):Type
 |mk
def bd{α β : Type}(r:Rs α)(f : α -> Rs β)(_:Tg f):Rs β := r.bind f
@[simp] theorem tQ{α β : Type}(f : α -> Rs β)(a : α)(u:Tg f):bd (.ok a) f u=f a:=rfl
@[simp] theorem akt{α β : Type}(f : α -> Rs β)(u:Tg f):bd .bad f u=.bad:=rfl
@[simp] theorem aku{α β : Type}(f : α -> Rs β)(c:Str)(u:Tg f):bd (.ex c) f u=.ex c:=rfl
@[simp] theorem akv(f g:SF)(ρ : En):aC f g ρ = ((bd (f ρ) (λp=>match p.1 with
 |.nx=>g p.2
 |fl=>.ok (fl,p.2)) .mk)):=rfl
@[simp] theorem akx(c:BF)(f g:SF)(ρ : En):bw c f g ρ = ((bd (c ρ) (λp=>if p.1=true then f p.2 else g p.2) .mk)):=rfl
@[simp] theorem aky(f:EF)(ρ : En):aG f ρ = ((bd (f ρ) (λp=>match p.1 with
 |.v T fr=>.ok (.rt T fr,p.2)
 |.s i=>match p.2[i]? with
  |some (.ow ts)=>.ok (.rt (.lst ts) true,p.2)
  |_=>.bad) .mk)):=rfl
@[simp] theorem akz(f:EF)(g:GF)(ρ : En):aV f g ρ = ((bd (f ρ) (λp=>match p.1 with
 |.v T _=>(bd (g T p.2) (λρ'=>.ok (.nx,ρ')) .mk)
 |.s _=>.bad) .mk)):=rfl
@[simp] theorem akA(i:Nat)(f:EF)(ρ : En):uG i f ρ = ((bd (f ρ) (λp=>match p.1 with
 |.v (.lst ts) true=>.ok (.nx,p.2.set i (.ow ts))
 |_=>.bad) .mk)):=rfl
@[simp] theorem akC  (ρ : En):bx  ρ = (.ok (.nx,ρ)):=rfl
@[simp] theorem akD(f:SF)(ρ : En):gk f ρ = (bU (f ρ)):=rfl
@[simp] theorem akE(i j:Nat)(fa:AF)(ρ : En):zQ i j fa ρ = ((bd (fa ρ) (λp=>(bd (cls p.1) (λTs=>match Ts with
 | [T,U]=>.ok (.nx,(p.2.set i (.sh T)).set j (.sh U))
 |_=>.bad) .mk)) .mk)):=rfl
@[simp] theorem akF(i:Nat)(fk fe:EF)(ρ : En):zP i fk fe ρ = ((bd (fe ρ) (λp=>(bd (cls [p.1]) (λTs=>(bd (con p.2 i) (λ_=>(bd (fk p.2) (λq=>(bd (dr q.2 q.1) (λkT=>(bd (cW kT) (λk=>(bd (con q.2 i) (λts=>match Ts,dY ts.length k with
 | [T],some j=>.ok (.nx,bN i (ts.set j T) q.2)
 |_,_=>.bad) .mk)) .mk)) .mk)) .mk)) .mk)) .mk)) .mk)):=rfl
@[simp] theorem akG(f:EF)(ρ : En):uH f ρ = ((bd (f ρ) (λp=>.ok (.nx,p.2)) .mk)):=rfl
@[simp] theorem ae9(fi:IF)(g:GF)(b:SF)(ρ : En):iw fi g b ρ = ((bd (fi ρ) (λp=>iV g b p.1 p.2) .mk)):=rfl
@[simp] theorem akH(i:Nat)(f:SF)(ρ : En):CP i f ρ = (f (cV i ρ)):=rfl
@[simp] theorem akI(i:Nat)(f:SF)(ρ : En):acL i f ρ = (f (gq i ρ)):=rfl
@[simp] theorem akJ(i:Nat)(p:Int->Int->Int)(f:EF)(ρ : En):abv i p f ρ = (match ρ[i]? with
 |some (.sh (.int x))=>(bd (f ρ) (λq=>(bd (dr q.2 q.1) (λyT=>(bd (cW yT) (λy=>.ok (.nx,q.2.set i (.sh (.int (p x y))))) .mk)) .mk)) .mk)
 |_=>.bad):=rfl
@[simp] theorem akK(i:Nat)(fk:QF)(m:GM)(fa:QF)(ρ : En):acJ i fk m fa ρ = ((bd (eY ρ i) (λts=>(bd (bU (fk ρ)) (λk=>(bd (pD ts k) (λz=>match z.2 with
 |.lst us=>(bd (bU (fa ρ)) (λT=>(bd (m us [T]) (λy=>.ok (.nx,ρ.set i (.dp (ts.set z.1 (.lst y.1))))) .mk)) .mk)
 |_=>.bad) .mk)) .mk)) .mk)):=rfl
@[simp] theorem akL(i:Nat)(fk fj:QF)(fe:EF)(ρ : En):acK i fk fj fe ρ = ((bd (fe ρ) (λp=>(bd (bL p.1) (λT=>(bd (eY p.2 i) (λts=>(bd (bU (fk p.2)) (λk=>(bd (pD ts k) (λz=>match z.2 with
 |.lst us=>(bd (bU (fj p.2)) (λj=>(bd (pD us j) (λy=>.ok (.nx,p.2.set i (.dp (ts.set z.1 (.lst (us.set y.1 T)))))) .mk)) .mk)
 |_=>.bad) .mk)) .mk)) .mk)) .mk)) .mk)):=rfl
@[simp] theorem akM(i:Nat)(src:List (Option Nat))(fi:IF)(g:GF)(c:BF)(f:EF)(ρ : En):acM i src fi g c f ρ = ((bd (fi ρ) (λp=>if p.1.length<=100000 then(bd (bU (Dn g c f p.1 (cG src p.2))) (λz=>if cZ src z.2 p.2=true then .ok (.nx,(bW src z.2 p.2).set i (.dp z.1))else .bad) .mk)else .bad) .mk)):=rfl
@[simp] theorem akN(i:Nat)(ρ : En):acH i ρ = (match ρ[i]? with
 |some (.sh T)=>.ok T
 |_=>.bad):=rfl
@[simp] theorem akO(T:Tr)(ρ : En):qC T ρ=.ok T:=rfl
@[simp] theorem akP(i:Nat)(fk fj:QF)(ρ : En):acI i fk fj ρ = ((bd (eY ρ i) (λts=>(bd (fk ρ) (λk=>(bd (pD ts k) (λz=>match z.2 with
 |.lst us=>(bd (fj ρ) (λj=>(bd (pD us j) (λy=>.ok y.2) .mk)) .mk)
 |_=>.bad) .mk)) .mk)) .mk)):=rfl
@[simp] theorem akQ(i:Nat)(ρ : En):aj i ρ = (match ρ[i]? with
 |some (.sh T)=>.ok (.v T false,ρ)
 |some (.ow _)=>.ok (.s i,ρ)
 |some (.rf _)=>.ok (.s i,ρ)
 |_=>.bad):=rfl
@[simp] theorem akS(T:Tr)(ρ : En):eC T ρ = (.ok (.v T false,ρ)):=rfl
@[simp] theorem akT(Ts:List Tr)(ρ : En):iy Ts ρ=.ok (.v (.lst Ts) true,ρ):=rfl
@[simp] theorem akU(g:G2)(fa fb:EF)(ρ : En):ao g fa fb ρ = ((bd (fa ρ) (λp=>(bd (fb p.2) (λq=>(bd (dr q.2 p.1) (λa=>(bd (dr q.2 q.1) (λb=>(bd (g a b) (λz=>.ok (.v z.1 z.2,q.2)) .mk)) .mk)) .mk)) .mk)) .mk)):=rfl
@[simp] theorem akV(g:G1)(fa:EF)(ρ : En):j5 g fa ρ = ((bd (fa ρ) (λp=>(bd (dr p.2 p.1) (λa=>(bd (g a) (λz=>.ok (.v z.1 z.2,p.2)) .mk)) .mk)) .mk)):=rfl
@[simp] theorem akW(g:GN)(fa:AF)(ρ : En):bh g fa ρ = ((bd (fa ρ) (λp=>(bd (drs p.2 p.1) (λas=>(bd (g as) (λz=>.ok (.v z.1 z.2,p.2)) .mk)) .mk)) .mk)):=rfl
@[simp] theorem akX(F:FP)(fa:AF)(ρ : En):bB F fa ρ = ((bd (fa ρ) (λp=>(bd (drs p.2 p.1) (λas=>(bd (F as) (λz=>if p.1.any aX=true/\jF z=false then .bad else .ok (.v z.1 z.2,p.2)) .mk)) .mk)) .mk)):=rfl
@[simp] theorem akY(r:Nat)(F:FR)(fa:AF)(ρ : En):cj r F fa ρ = ((bd (fa ρ) (λp=>match p.1[r]? with
 |some (.s i)=>if others r i p.1=true then((bd (con p.2 i) (λ_=>(bd (drs p.2 p.1) (λas=>(bd (F as) (λz=>if((p.1.eraseIdx r).any aX=true/\jF z.1=false)\/(((p.1.eraseIdx r).any aX=true\/z.1.2=true)/\dJ z.2=false)then .bad else .ok (.v z.1.1 z.1.2,bN i z.2 p.2)) .mk)) .mk)) .mk))else .bad
 |_=>.bad) .mk)):=rfl
@[simp] theorem akZ(a:Int):dJ [.int a]=true:=rfl
@[simp] theorem ak0(a b:Int):dJ [.int a,.int b]=true:=rfl
@[simp] theorem ak1(g:AF)(ρ : En):dX g ρ = ((bd (g ρ) (λp=>(bd (cls p.1) (λts=>if ts.length<=1000 then .ok (.v (.lst ts) true,p.2)else .bad) .mk)) .mk)):=rfl
@[simp] theorem ak2(g:AF)(ρ : En):gj g ρ = ((bd (g ρ) (λp=>(bd (cls p.1) (λts=>if ts.length<=1000 then .ok (.v (.tup ts) false,p.2)else .bad) .mk)) .mk)):=rfl
@[simp] theorem ak3(f g:EF)(ρ : En):j6 f g ρ = ((bd (aK f ρ) (λp=>if p.1=true then g p.2 else .ok (eB false,p.2)) .mk)):=rfl
@[simp] theorem ak4(f g:EF)(ρ : En):wA f g ρ = ((bd (aK f ρ) (λp=>if p.1=true then .ok (eB true,p.2)else g p.2) .mk)):=rfl
@[simp] theorem ak5(f:EF)(ρ : En):CJ f ρ = ((bd (aK f ρ) (λp=>.ok (eB (!p.1),p.2)) .mk)):=rfl
@[simp] theorem ak6(c:BF)(f g:EF)(ρ : En):nH c f g ρ = ((bd (c ρ) (λp=>if p.1=true then f p.2 else g p.2) .mk)):=rfl
@[simp] theorem ak7(c:Ty)(fa:EF)(ρ : En):iJ c fa ρ = ((bd (fa ρ) (λp=>(bd (dr p.2 p.1) (λa=>.ok (eB (dH a c),p.2)) .mk)) .mk)):=rfl
@[simp] theorem ak8(g g':G2)(fa fb fc:EF)(ρ : En):uF g g' fa fb fc ρ = ((bd (fa ρ) (λp=>(bd (fb p.2) (λq=>(bd (dr q.2 p.1) (λa=>(bd (dr q.2 q.1) (λb=>(bd (g a b) (λz=>(bd (aP z.1) (λk=>if k=true then(bd (fc q.2) (λs=>(bd (dr s.2 q.1) (λb=>(bd (dr s.2 s.1) (λc=>(bd (g' b c) (λz=>.ok (.v z.1 z.2,s.2)) .mk)) .mk)) .mk)) .mk)else .ok (eB false,q.2)) .mk)) .mk)) .mk)) .mk)) .mk)) .mk)):=rfl
@[simp] theorem ak9(fa:EF)(fl fh:OF)(ρ : En):gD fa fl fh ρ = ((bd (fa ρ) (λp=>(bd (fl p.2) (λl=>(bd (fh l.2) (λh=>(bd (dr h.2 p.1) (λa=>(bd (jC l.1 h.1 a) (λz=>.ok (.v z.1 z.2,h.2)) .mk)) .mk)) .mk)) .mk)) .mk)):=rfl
@[simp] theorem MP(src:List (Option Nat))(fi:IF)(g:GF)(c:BF)(f:EF)(ρ : En):cM src fi g c f ρ = ((bd (fi ρ) (λp=>if p.1.length<=100000 then(bd (bU (jy g c f p.1 (cG src p.2))) (λz=>if cZ src z.2 p.2=true then .ok (.v (.lst z.1) true,bW src z.2 p.2)else .bad) .mk)else .bad) .mk)):=rfl
@[simp] theorem ala(i:Nat)(m:GM)(fa:AF)(ρ : En):eMt i m fa ρ = ((bd (con ρ i) (λ_=>(bd (fa ρ) (λp=>(bd (cls p.1) (λas=>(bd (con p.2 i) (λts=>(bd (m ts as) (λz=>.ok (.v z.2 false,bN i z.1 p.2)) .mk)) .mk)) .mk)) .mk)) .mk)):=rfl
@[simp] theorem alb(i:Nat)(m:GM)(ρ : En):abt i m ρ = ((bd (con ρ i) (λts=>(bd (m ts []) (λz=>.ok (.v z.2 false,bN i z.1 ρ)) .mk)) .mk)):=rfl
@[simp] theorem alc(fa:EF)(ρ : En):aK fa ρ = ((bd (fa ρ) (λp=>(bd (dr p.2 p.1) (λa=>(bd (aP a) (λb=>.ok (b,p.2)) .mk)) .mk)) .mk)):=rfl
@[simp] theorem ald(fa:EF)(ρ : En):cR fa ρ = ((bd (fa ρ) (λp=>(bd (dr p.2 p.1) (λa=>(bd (cL a) (λb=>.ok (b,p.2)) .mk)) .mk)) .mk)):=rfl
@[simp] theorem ale(f g:BF)(ρ : En):jM f g ρ = ((bd (f ρ) (λp=>if p.1=true then g p.2 else .ok (false,p.2)) .mk)):=rfl
@[simp] theorem alf(f g:BF)(ρ : En):dz f g ρ = ((bd (f ρ) (λp=>if p.1=true then .ok (true,p.2)else g p.2) .mk)):=rfl
@[simp] theorem alg(f:BF)(ρ : En):dh f ρ = ((bd (f ρ) (λp=>.ok (!p.1,p.2)) .mk)):=rfl
@[simp] theorem alh  (ρ : En):cU  ρ = (.ok (true,ρ)):=rfl
@[simp] theorem ali  (ρ : En):au  ρ = (.ok ([],ρ)):=rfl
@[simp] theorem alj(f:EF)(g:AF)(ρ : En):ak f g ρ = ((bd (f ρ) (λp=>(bd (g p.2) (λq=>.ok (p.1::q.1,q.2)) .mk)) .mk)):=rfl
@[simp] theorem alk(f:EF)(ρ : En):cQ f ρ = ((bd (f ρ) (λp=>(bd (dW p.1) (λz=>.ok (z.1,p.2)) .mk)) .mk)):=rfl
@[simp] theorem alm(fa:AF)(ρ : En):jk fa ρ = ((bd (fa ρ) (λp=>(bd (drs p.2 p.1) (λas=>match as with
 | [.int j]=>if okR j=true then .ok (upTo 0 j.toNat,p.2)else .bad
 |_=>.bad) .mk)) .mk)):=rfl
@[simp] theorem afa(fa:AF)(ρ : En):wH fa ρ = ((bd (fa ρ) (λp=>(bd (drs p.2 p.1) (λas=>match as with
 | [.int i,.int j]=>if okR i=true/\okR j=true then .ok (upTo i (j-i).toNat,p.2)else .bad
 |_=>.bad) .mk)) .mk)):=rfl
@[simp] theorem aln(fa:AF)(ρ : En):pF fa ρ = ((bd (fa ρ) (λp=>match p.1 with
 | [.v (.lst us) _,.v (.lst vs) _]=>.ok (nM us vs,p.2)
 |_=>.bad) .mk)):=rfl
@[simp] theorem alo  (ρ : En):gA  ρ = (.ok (none,ρ)):=rfl
@[simp] theorem alp(fa:EF)(ρ : En):gC fa ρ = ((bd (fa ρ) (λp=>(bd (dr p.2 p.1) (λa=>(bd (cW a) (λb=>.ok (some b,p.2)) .mk)) .mk)) .mk)):=rfl
@[simp] theorem alq(i:Nat)(T:Tr)(ρ : En):gN i T ρ = (.ok (ρ.set i (.sh T))):=rfl
@[simp] theorem alr(n:Nat)(f:oG)(T:Tr)(ρ : En):gT n f T ρ = (match T with
 |.tup Ts=>if Ts.length=n then f Ts ρ else .bad
 |_=>.bad):=rfl
@[simp] theorem als  (Ts:List Tr)(ρ : En):jN  Ts ρ = (match Ts with
 | []=>.ok ρ
 |_=>.bad):=rfl
@[simp] theorem alu(f:GF)(g:oG)(Ts:List Tr)(ρ : En):eV f g Ts ρ = (match Ts with
 |T::r=>(bd (f T ρ) (λρ'=>g r ρ') .mk)
 | []=>.bad):=rfl
@[simp] theorem alv(a:Tr):aW 1 [a]=[.sh a]:=rfl
end L2
end
section
namespace BH
open PySem L2
theorem dN(i:Int):dep (.int i)=0:=rfl
theorem j8(i:Bool):dep (.bl i)=0:=rfl
theorem d8(i:Str):dep (.str i)=0:=rfl
theorem jz:dep .non=0:=rfl
theorem jG(ts:List Tr):dep (.tup ts)=deps ts+1:=by simp only[dep]
theorem jo(ts:List Tr):dep (.lst ts)=deps ts+1:=by simp only[dep]
theorem iZ:deps []=0:=rfl
theorem iM(t:Tr)(ts:List Tr):deps (t::ts)=max (dep t) (deps ts):=by simp only[deps]
theorem eO(i j:Int):eqT (.int i) (.int j)=(i == j):=by simp only[eqT]
theorem j9(i j:Bool):eqT (.bl i) (.bl j)=(i == j):=by simp only[eqT]
theorem jf(i j:Str):eqT (.str i) (.str j)=(i == j):=by simp only[eqT]
def isW:Tr->Bool
 |.int _=>true
 |_=>false
theorem Vn(T:Tr):uT [T]=.ok (.bl (isW T),false):=by cases T <;> rfl
def wc:BF:=aK (ao bF (aj 1) (eC (.int 0)))
def wb:SF:=zQ 0 1 (ak (aj 1) (ak (ao dF (aj 0) (aj 1)) au))
theorem afb(a b:Int):wc [.sh (.int a),.sh (.int b)]=.ok (!(b == 0),[.sh (.int a),.sh (.int b)]):=rfl
theorem afc(a b:Int)(h:b≠0):wb [.sh (.int a),.sh (.int b)]=.ok (.nx,[.sh (.int b),.sh (.int (a.fmod b))]):=by
 unfold wb; simp -dsimp[dr,cls,eF,dF,h]
theorem Vo:∀(n:Nat) (a b:Int),b.natAbs<n->∃g:Int,uJ wc wb n [.sh (.int a),.sh (.int b)]=.ok (.nx,[.sh (.int g),.sh (.int 0)])/\(if g<0 then -g else g)=((Int.gcd a b:Nat):Int)
 | 0,a,b,h=>by omega
 |n+1,a,b,h=>by
  unfold uJ
  rw[afb]
  by_cases z:b=0
  ·subst z
   exact⟨a,rfl,aan a⟩
  ·obtain⟨g,h1,h2⟩:=Vo n b (a.fmod b) (by have:=aal a b z; omega)
   refine⟨g,?_,by rw[h2,aam]⟩
   have e:(!(b == 0))=true:=by simp[z]
   simp only[Rs.bind,e,if_true]
   rw[afc a b z]
   exact h1
def Vp:SF:=(aC (gk (wG (zW 1) wc wb)) (aG (bh (g1 iU) (ak (aj 0) au))))
theorem Vq(a b:Int):aM 2 Vp [.int a,.int b]=.ok (.int (Int.gcd a b:Nat),false):=by
 obtain⟨g,h1,h2⟩:=Vo (b.natAbs+1) a b (by omega)
 have h0:aW 2 [.int a,.int b]=[.sh (.int a),.sh (.int b)]:=rfl
 have h3:gk (wG (zW 1) wc wb) [.sh (.int a),.sh (.int b)]=.ok (.nx,[.sh (.int g),.sh (.int 0)]):=by
  unfold gk wG
  rw[show zW 1 [.sh (.int a),.sh (.int b)]=b.natAbs+1 from rfl,h1]
  rfl
 rw[<-h2]
 unfold aM Vp aC
 rw[h0,h3]
 rfl
theorem afd(a b:Int):Dv [.int a,.int b]=.ok (.int (Int.gcd a b:Nat),false):=Vq a b
def oU:Tr->Tr->Bool
 |.int p,.int q=>decide (1<=q)&&(Int.gcd p q == 1)
 |_,_=>false
def pW:Tr->Bool
 |.tup [a,b]=>oU a b
 |_=>false
theorem afe(n:Nat):((n:Int) == 1)=(n == 1):=by
 rw[Bool.eq_iff_iff]; simp; omega
theorem tR(T:Tr):nP [T]=.ok (.bl (pW T),false):=by
 unfold nP J5 aM
 cases T with
 |tup ts =>
  match ts with
  | []=>rfl
  | [_]=>rfl
  | [a,b] =>
   cases a <;> cases b <;> try rfl
   rename_i p q
   simp -dsimp[eB,aP,cL,dr,drs,g1,gB,aH,bF,fW,aL,aX,dN,eO,dH,aW,Vn,isW,afd,pW,oU,afe]
   by_cases h:1<=q <;> simp[h]
  |a::b::c::r =>
   have:((r.length:Int)+1+1+1 == 2)=false:=by simp; omega
   simp -dsimp[eB,aP,cL,dr,drs,g1,bF,fW,aL,dN,eO,dH,aW,pW,this]
 |_=>rfl
def M4:Tr->Tr->Bool
 |.int p,.int q=>decide (0<=p)&&decide (p<=q)&&decide (1<=q)&&(Int.gcd p q == 1)
 |_,_=>false
def m7:Tr->Bool
 |.tup [a,b]=>M4 a b
 |_=>false
theorem afg(T:Tr):qO [T]=.ok (.bl (m7 T),false):=by
 unfold qO J6 aM
 cases T with
 |tup ts =>
  match ts with
  | []=>simp -dsimp[eB,aP,dr,drs,dg,aX,aW,tR,pW,m7]
  | [_]=>simp -dsimp[eB,aP,dr,drs,dg,aX,aW,tR,pW,m7]
  | [a,b] =>
   by_cases w:isW a=true/\isW b=true
   case neg =>
    have w1:oU a b=false:=by cases a <;> cases b <;> first|rfl|exact absurd ⟨rfl,rfl⟩ w
    have w2:M4 a b=false:=by cases a <;> cases b <;> first|rfl|exact absurd ⟨rfl,rfl⟩ w
    simp -dsimp[eB,aP,dr,drs,dg,aX,aW,tR,pW,m7,w1,w2]
   cases a <;> try cases w.1
   cases b <;> try cases w.2
   rename_i p q
   simp -dsimp[eB,aP,dr,drs,gB,dg,aB,aX,cX,dY,aW,tR,pW,m7,oU,M4]
   by_cases h:1<=q <;> by_cases h2:p.gcd q=1 <;> by_cases h3:0<=p <;> simp[h,h2,h3]
  |a::b::c::r=>simp -dsimp[eB,aP,dr,drs,dg,aX,aW,tR,pW,m7]
 |_=>simp -dsimp[eB,aP,dr,drs,dg,aX,aW,tR,pW,m7]
end BH
end
section
namespace BH
open PySem L2
theorem comp_map{f:EF}{h:Tr->Tr}{τ : En}:∀(us:List Tr) (s:Sl),(∀u∈us,∃fr,f (.sh u::τ)=.ok (.v (h u) fr,.sh u::τ))->∃s',jy (gN 0) cU f us (s::τ)=.ok (us.map h,s'::τ)
 | [],s,_=>⟨s,rfl⟩
 |u::us,s,q=>by
  obtain⟨fr,e⟩:=q u (by simp)
  obtain⟨s',e'⟩:=comp_map us (.sh u) λv hv=>q v (by simp[hv])
  refine⟨s',?_⟩
  unfold jy
  simp[e,bL,e']
theorem M5{p:Tr->Bool}:∀us:List Tr,nJ (us.map λu=>.bl (p u))=some (us.map p)
 | []=>rfl
 |u::us=>by simp[nJ,M5 us]
theorem Vr{F:FP}{p:Tr->Bool}{us:List Tr}{ρ : En}{i:IF}{fe:EF}(hl:us.length<=100000)(hi:i ρ=.ok (us,ρ))(hf:∀u∈us,∃fr,fe [.sh u]=.ok (.v (.bl (p u)) fr,[.sh u])):bh (g1 dI) (ak (cM [none] i (gN 0) cU fe) au) ρ=.ok (.v (.bl (us.all p)) false,ρ):=by
 obtain⟨s',e⟩:=comp_map (h:=λu=>.bl (p u)) us .un hf
 simp -dsimp[bU,dr,drs,g1,dI,cG,bW,cZ,eN,hi,hl,e,M5]
theorem afh{p:Tr->Bool}{us:List Tr}{ρ : En}{i:IF}{fe:EF}{j:Nat}{T:Tr}(hl:us.length<=100000)(hi:i ρ=.ok (us,ρ))(hj : ρ[j]?=some (.sh T))(hf:∀u∈us,∃fr,fe [.sh u,.sh T]=.ok (.v (.bl (p u)) fr,[.sh u,.sh T])):bh (g1 dI) (ak (cM [none,some j] i (gN 0) cU fe) au) ρ=.ok (.v (.bl (us.all p)) false,ρ):=by
 obtain⟨s',e⟩:=comp_map (h:=λu=>.bl (p u)) us .un hf
 simp -dsimp[bU,dr,drs,g1,dI,cG,bW,cZ,eG,eN,hi,hl,hj,e,M5]
def mz(m:Int):Tr->Bool
 |.lst ts=>decide (1<=(ts.length:Int))&&decide ((ts.length:Int)<=m)&&ts.all m7
 |_=>false
theorem afi(T:Tr)(m:Int)(hm:m<=1000):uU [T,.int m]=.ok (.bl (mz m T),false):=by
 unfold uU J7 aM
 cases T with
 |lst ts =>
  by_cases h1:1<=(ts.length:Int)
  ·by_cases h2:(ts.length:Int)<=m
   ·have e:=Vr (F:=qO) (p:=m7) (us:=ts) (ρ:=[.sh (.lst ts),.sh (.int m)]) (i:=cQ (aj 0)) (fe:=bB qO (ak (aj 0) au)) (by omega) rfl (λu _=>⟨false,by simp -dsimp[dr,drs,aX,afg]⟩)
    generalize bh (g1 dI) (ak (cM [none] (cQ (aj 0)) (gN 0) cU (bB qO (ak (aj 0) au))) au)=G at e ⊢
    simp -dsimp[eB,aP,cL,dr,drs,g1,gB,dg,aL,dH,aW,h1,h2,e,mz]
   ·simp -dsimp[eB,aP,cL,dr,drs,g1,gB,dg,aL,dH,aW,h1,h2,mz]
  ·simp -dsimp[eB,aP,cL,dr,drs,g1,gB,dg,aL,dH,aW,h1,mz]
 |_=>simp -dsimp[eB,cL,dr,dg,dH,aW,mz]
def oV:Tr->Int
 |.lst ts=>ts.length
 |_=>-1
def oW:Tr->Bool
 |.lst rs=>decide (1<=(rs.length:Int))&&decide ((rs.length:Int)<=4)&&rs.all (mz 12)&&rs.all λr=>oV r == oV (rs.headD .non)
 |_=>false
theorem Vs{m:Int}{T:Tr}(h:mz m T=true):∃ts,T=.lst ts:=by
 cases T <;> first|exact⟨_,rfl⟩|cases h
theorem Vt(T:Tr):qP [T]=.ok (.bl (oW T),false):=by
 unfold qP Ug aM
 cases T with
 |lst ts =>
  by_cases h1:1<=(ts.length:Int)
  ·by_cases h2:(ts.length:Int)<=4
   ·have e:=Vr (F:=qO) (p:=mz 12) (us:=ts) (ρ:=[.sh (.lst ts)]) (i:=cQ (aj 0)) (fe:=(bB uU (ak (aj 0) (ak (eC (.int 12)) au)))) (by omega) rfl (λu _=>⟨false,by simp -dsimp[dr,drs,aX,afi]⟩)
    generalize bh (g1 dI) (ak (cM [none] (cQ (aj 0)) (gN 0) cU (bB uU (ak (aj 0) (ak (eC (.int 12)) au)))) au)=G at e ⊢
    cases h3:ts.all (mz 12)with
    |false=>rw[h3]at e; simp -dsimp[eB,aP,cL,dr,drs,g1,gB,dg,aL,dH,aW,h1,h2,e,oW,h3]
    |true =>
     have h4:=List.all_eq_true.mp h3
     obtain⟨r0,rs,rfl⟩:∃r0 rs,ts=r0::rs:=by cases ts with
      |nil=>simp at h1
      |cons a b=>exact⟨a,b,rfl⟩
     obtain⟨l0,rfl⟩:=Vs (h4 r0 (by simp))
     have e2:=afh (p:=λr=>oV r == (l0.length:Int)) (us:=.lst l0::rs) (ρ:=[.sh (.lst (.lst l0::rs))]) (j:=0) (T:=.lst (.lst l0::rs)) (i:=cQ (aj 0)) (fe:=(ao aH (bh (g1 aL) (ak (aj 0) au)) (bh (g1 aL) (ak (ao aB (aj 1) (eC (.int 0))) au)))) (by omega) rfl rfl (λu hu=>⟨false,by
      obtain⟨l,rfl⟩:=Vs (h4 u hu)
      have:(0:Int)<(rs.length:Int)+1:=by omega
      simp -dsimp[dr,drs,g1,aH,aB,aL,dN,eO,cX,dY,oV,this]⟩)
     generalize bh (g1 dI) (ak (cM [none,some 0] (cQ (aj 0)) (gN 0) cU (ao aH (bh (g1 aL) (ak (aj 0) au)) (bh (g1 aL) (ak (ao aB (aj 1) (eC (.int 0))) au)))) au)=G2 at e2 ⊢
     rw[h3]at e
     have e3:oW (.lst (.lst l0::rs))=(Tr.lst l0::rs).all (λr=>oV r == (l0.length:Int)):=by
      show(decide (1<=((Tr.lst l0::rs).length:Int))&&decide (((Tr.lst l0::rs).length:Int)<=4)&&(Tr.lst l0::rs).all (mz 12)&&(Tr.lst l0::rs).all λr=>oV r == oV (.lst l0))=_
      rw[h3,decide_eq_true h1,decide_eq_true h2]
      rfl
     rw[e3]
     generalize (Tr.lst l0::rs).all (λr=>oV r == (l0.length:Int))=bb at e2
     have h1':(1:Int)<=(rs.length:Int)+1:=by omega
     have h2':(rs.length:Int)+1<=4:=by simp only[List.length_cons]at h2; omega
     simp -dsimp[eB,aP,cL,dr,drs,g1,gB,dg,aL,dH,aW,h1',h2',e,e2]
   ·simp -dsimp[eB,aP,cL,dr,drs,g1,gB,dg,aL,dH,aW,h1,h2,oW]
  ·simp -dsimp[eB,aP,cL,dr,drs,g1,gB,dg,aL,dH,aW,h1,oW]
 |_=>simp -dsimp[eB,cL,dr,dg,dH,aW,oW]
end BH
end
section
namespace L2
open PySem
@[simp] theorem alw(fa:AF)(ρ : En):eLR fa ρ = bd (fa ρ) (λp=>match p.1 with
 | [.v (.int n) _]=>if 0<=n/\n<=1000 then .ok (.v (.lst ((List.range n.toNat).map λi:Nat=>Tr.int i)) true,p.2)else .bad
 |_=>.bad) .mk:=rfl
@[simp] theorem alx(F:FR)(fa:EF)(ρ : En):acT F fa ρ = bd (fa ρ) (λp=>match p.1 with
 |.v (.lst us) true=>bd (F [.lst us]) (λz=>.ok (.v z.1.1 z.1.2,p.2)) .mk
 |_=>.bad) .mk:=rfl
@[simp] theorem aly(kt:Tr->Option (Int × Int))(src:List (Option Nat))(fa:AF)(fb:RF)(ρ : En):acQ kt src fa fb ρ = bd (fa ρ) (λp=>match p.1 with
 | [.v (.int n) _]=>if 0<=n/\n<64 then bd (bU (JV kt fb (T6 src p.2) (List.range n.toNat))) (λks=>.ok (.v (.lst ((T5 n.toNat λi=>ks.getD i (0,0)).map λi:Nat=>Tr.int i)) true,p.2)) .mk else .bad
 |_=>.bad) .mk:=rfl
end L2
namespace BH
open PySem L2
def fT(x:Int × Int):Tr:=.tup [.int x.1,.int x.2]
theorem Vu{k:Int}{M:Nat}(h:k.natAbs<2 ^ M)(hM:M<=8000):k.natAbs.log2<9000:=by
 by_cases z:k.natAbs=0
 ·rw[z]; decide
 ·have:=(Nat.log2_lt (n:=k.natAbs) (k:=M) z).mpr h
  omega
theorem Fw{i j:Int}{M:Nat}(h0:j≠0)(h:j.natAbs<2 ^ M)(hM:M<=8000):ou i j=true:=by
 unfold ou
 rw[Bool.and_eq_true,decide_eq_true_eq,decide_eq_true_eq]
 exact⟨h0,Vu h hM⟩
theorem afj{T:Tr}(h:oW T=true):uV [T]=.ok (.non,false):=by
 unfold uV Uh aM
 simp -dsimp[cL,dr,drs,aX,aW,Vt,h]
theorem pX{xs:List Tr}{i:Nat}{T:Tr}(h:xs[i]?=some T):aB (.lst xs) (.int i)=.ok (T,false):=by
 obtain⟨hi,e⟩:=List.getElem?_eq_some_iff.mp h
 show(match cX xs i with
  |some t=>Rs.ok (t,false)
  |none=>.bad)=_
 have:cX xs (i:Int)=some T:=by
  unfold cX dY
  simp[hi,e]
 rw[this]
theorem afk{xs:List Tr}{i:Nat}{T:Tr}(h:xs[i]?=some T):aB (.lst xs) (.int i)=.ok (T,false):=pX h
end BH
namespace BH
open PySem L2
def Wo(x:Int × Int):Prop:=0<=x.1/\x.1<=x.2/\1<=x.2/\x.2<=1000000000000/\Int.gcd x.1 x.2=1
instance (x:Int × Int):Decidable (Wo x):=by unfold Wo; infer_instance
def bD(l:List (Int × Int)):Tr:=.lst (l.map fT)
def eZ(ls:List (List (Int × Int))):Tr:=.lst (ls.map bD)
def Vv(c:Nat)(ls:List (List (Int × Int))):Prop:=∀l∈ls,l.length=c/\∀x∈l,Wo x
def Bk(c:Nat)(ls:List (List (Int × Int))):Prop:=1<=ls.length/\ls.length<=4/\1<=c/\c<=12/\Vv c ls
end BH
end
section
namespace L2
open PySem
@[simp] theorem alz(fa:EF)(ρ : En):acu fa ρ = bd (fa ρ) (λp=>bd (dr p.2 p.1) (λa=>bd (TV a) (λz=>.ok (.v z.1 z.2,p.2)) .mk) .mk) .mk:=rfl
end L2
namespace BH
open PySem L2
theorem afl{α : Type}(xs:List α)(k:Nat):L2.cut xs (some (k:Int)) none=xs.drop k:=by
 unfold L2.cut HT.cC
 by_cases h:(k:Int)<0
 ·omega
 ·simp only[h,if_false,Int.toNat_natCast]
  by_cases z:k<=xs.length
  ·rw[Nat.min_eq_left z]
   exact List.take_of_length_le (by simp)
  ·rw[Nat.min_eq_right (by omega),List.drop_eq_nil_of_le (by omega),List.drop_eq_nil_of_le (by omega)]
   simp
theorem afm{α : Type}(xs:List α)(k:Nat):L2.cut xs none (some (k:Int))=xs.take k:=by
 unfold L2.cut HT.cC
 by_cases h:(k:Int)<0
 ·omega
 ·simp only[h,if_false,Int.toNat_natCast,Nat.sub_zero,List.drop_zero]
  by_cases z:k<=xs.length
  ·rw[Nat.min_eq_left z]
  ·rw[Nat.min_eq_right (by omega),List.take_of_length_le (by omega),List.take_of_length_le (by omega)]
def nT(ys:List Nat):Tr:=.lst (ys.map λi:Nat=>Tr.int i)
theorem Fx{n:Nat}:∀{ts:List Tr},(∀t∈ts,dep t<=n)->deps ts<=n
 | [],_=>by rw[iZ]; omega
 |t::ts,h=>by
  rw[iM]
  have h1:=h t (by simp)
  have h2:=Fx (ts:=ts) λu hu=>h u (by simp[hu])
  omega
theorem Av(x:Int × Int):dep (fT x)=1:=by unfold fT; rw[jG,iM,iM,dN,dN,iZ]; rfl
theorem xP{T:Tr}(h:dep T<=40):bF T T=.ok (.bl false,false):=by
 unfold bF
 rw[if_pos ⟨h,h⟩,Cd]
 rfl
theorem M6{T:Tr}(h:dep T<=40):aH T T=.ok (.bl true,false):=by
 unfold aH
 rw[if_pos ⟨h,h⟩,Cd]
end BH
end
section
namespace K70
open PySem L2 BH PySem.NumText
def pY(l:List Nat)(k:Nat):Tr:=if l≠[]/\(∀c∈l,gO c=true)/\l.length<=k/\(l=[48]\/l[0]? ≠ some 48)then .int (digitsVal l)else .non
def xQ:BF:=dz (dh (cR (j5 (tu Txt.isascii) (aj 0)))) (dz (dh (cR (j5 (tu Txt.isdigit) (aj 0)))) (aK (ao cN (bh (g1 aL) (ak (aj 0) au)) (aj 1))))
theorem afn(z:Str)(k:Int)(hz:z.length<=100000):xQ [.sh (.str z),.sh (.int k)]=.ok (!(Txt.isascii z&&Txt.isdigit z) || decide (k<z.length),[.sh (.str z),.sh (.int k)]):=by
 unfold xQ
 cases h1:Txt.isascii z <;> cases h2:Txt.isdigit z <;> simp -dsimp[bU,cV,gq,bN,con,eY,eB,aP,cL,dr,drs,cls,bL,gJ,g1,g2,gI,eF,gB,aH,bF,bT,aO,dU,gQ,dF,gU,dw,bV,cN,dg,fW,aB,aL,iU,gW,d7,gY,gZ,dI,dW,okR,cW,aX,others,cG,bW,cZ,eG,eN,dN,j8,d8,jz,jG,jo,iZ,iM,eO,j9,jf,dH,cX,dY,aW,tu,h1,h2,hz]
def m8:BF:=jM (aK (ao aH (ao aB (aj 0) (eC (.int 0))) (eC (.str "0")))) (aK (ao bF (aj 0) (eC (.str "0"))))
theorem afo(z:Str)(k:Int)(c:Nat)(hz:z.length<=100000)(hc:cX z.cps.toList 0=some c):m8 [.sh (.str z),.sh (.int k)]=.ok ((⟨#[c]⟩:Str) == "0" && !(z == "0"),[.sh (.str z),.sh (.int k)]):=by
 have e:aB (.str z) (.int 0)=.ok (.str ⟨#[c]⟩,false):=by
  dsimp only[aB]
  rw[if_pos hz,hc]
 unfold m8
 cases h1:((⟨#[c]⟩:Str) == "0") <;> cases h2:(z == "0") <;> simp -dsimp[aP,dr,aH,bF,d8,jf,e,h1,h2]
theorem afp(z:Str)(k:Int)(hz:z.length<=100000):lY [.str z,.int k] =
  if(!(Txt.isascii z&&Txt.isdigit z) || decide (k<z.length))=true then .ok (.non,false)else
  match cX z.cps.toList 0 with
  |none=>.bad
  | some c=>if ((⟨#[c]⟩:Str) == "0" && !(z == "0"))=true then .ok (.non,false)else(jQ (.str z)).bind λp=>.ok (p.1,p.2):=by
 have e1:=afn z k hz
 show aM 2 (aC (bw xQ (aG (eC .non)) bx) (aC (bw m8 (aG (eC .non)) bx) (aG (bh (g1 jQ) (ak (aj 0) au))))) _=_
 cases h:(!(Txt.isascii z&&Txt.isdigit z) || decide (k<z.length))
 ·rw[h]at e1
  cases hc:cX z.cps.toList 0 with
  |none =>
   have e2:m8 [.sh (.str z),.sh (.int k)]=.bad:=by
    have e:aB (.str z) (.int 0)=.bad:=by
     dsimp only[aB]
     rw[if_pos hz,hc]
    unfold m8
    simp -dsimp[aP,dr,aH,bF,e]
   generalize m8=B,xQ=A at *
   simp -dsimp[aM,aW,e1,e2]
  |some c =>
   have e2:=afo z k c hz hc
   show _=if false=true then _ else(if((⟨#[c]⟩:Str) == "0" && !(z == "0"))=true then .ok (.non,false)else(jQ (.str z)).bind λp=>.ok (p.1,p.2))
   generalize jQ=G,((⟨#[c]⟩:Str) == "0" && !(z == "0"))=b,m8=B,xQ=A at *
   cases b
   ·cases q:G (.str z) <;> simp -dsimp[aM,aW,dr,drs,cls,bL,g1,aX,e1,e2,q]
   ·simp -dsimp[aM,aW,dr,drs,cls,bL,g1,aX,e1,e2]
 ·rw[h]at e1
  generalize m8=B,xQ=A at *
  simp -dsimp[aM,aW,e1,dr,cls,bL]
end K70
end
section
namespace K70
open PySem L2 BH PySem.NumText
theorem Fy:("0" : Str).cps.toList=[48]:=by decide +kernel
theorem sign_zero(c:Nat):((⟨#[c]⟩:Str) == "0")=decide (c=48):=by
 rw[Bool.eq_iff_iff,beq_iff_eq,decide_eq_true_eq]
 constructor
 ·intro h
  have:=congrArg (λs:Str=>s.cps.toList) h
  dsimp only at this
  rw[Fy]at this
  simpa using this
 ·rintro rfl
  exact qU (by rw[Fy])
theorem Vw(z:Str):(z == "0")=decide (z.cps.toList=[48]):=by
 rw[Bool.eq_iff_iff,beq_iff_eq,decide_eq_true_eq]
 constructor
 ·rintro rfl
  exact Fy
 ·intro h
  exact qU (by rw[Fy,h])
theorem Vx(z:Str)(k:Nat)(hk:k<=640)(hz:z.length<=100000):lY [.str z,.int (k:Nat)]=.ok (pY z.cps.toList k,false):=by
 rw[afp z k hz,ae2]
 have hl:z.length=z.cps.toList.length:=Array.length_toList.symm
 by_cases h1:z.cps.toList≠[]/\(∀c∈z.cps.toList,gO c=true)/\z.cps.toList.length<=k
 ·obtain⟨h1,h2,h3⟩:=h1
  obtain⟨c,r,e⟩:=List.exists_cons_of_ne_nil h1
  have p:0<z.length:=by rw[hl,e]; simp
  have b:(!(decide (0<z.length)&&z.cps.toList.all gO) || decide ((k:Int)<z.length))=false:=by
   rw[decide_eq_true p,List.all_eq_true.mpr h2,decide_eq_false (by omega)]
   rfl
  have hd:AllDigits z.cps.toList:=λc hc=>by
   have:=h2 c hc
   unfold gO at this
   simpa using this
  have e3:jQ (.str z)=.ok (.int (digitsVal z.cps.toList:Nat),false):=by
   dsimp only[jQ]
   rw[if_pos (by omega),intText_digits hd h1 (by omega)]
  have hc:cX z.cps.toList 0=some c:=by rw[e]; simp[cX,dY]
  rw[b,if_neg (by decide),hc,e3]
  dsimp only
  rw[sign_zero,Vw]
  by_cases h4:z.cps.toList=[48]
  ·have n:pY z.cps.toList k=.int (digitsVal z.cps.toList:Nat):=if_pos ⟨h1,h2,h3,.inl h4⟩
   rw[n,decide_eq_true h4,Bool.not_true,Bool.and_false]
   rfl
  ·rw[decide_eq_false h4]
   by_cases h5:c=48
   ·have n:pY z.cps.toList k=.non:=if_neg λq=>q.2.2.2.elim h4 λq=>q (by rw[e,h5]; rfl)
    rw[n,decide_eq_true h5]
    rfl
   ·have n:pY z.cps.toList k=.int (digitsVal z.cps.toList:Nat):=if_pos ⟨h1,h2,h3,.inr (by rw[e]; simpa using h5)⟩
    rw[n,decide_eq_false h5]
    rfl
 ·have b:(!(decide (0<z.length)&&z.cps.toList.all gO) || decide ((k:Int)<z.length))=true:=by
   rw[Bool.or_eq_true,Bool.not_eq_true',decide_eq_true_eq]
   by_cases q:(decide (0<z.length)&&z.cps.toList.all gO)=true
   ·rw[Bool.and_eq_true,decide_eq_true_eq,List.all_eq_true]at q
    right
    have:¬z.cps.toList.length<=k:=λw=>h1 ⟨λn=>by rw[hl,n]at q; exact absurd q.1 (by simp),q.2,w⟩
    omega
   ·left
    simpa using q
  have n:pY z.cps.toList k=.non:=if_neg λq=>h1 ⟨q.1,q.2.1,q.2.2.1⟩
  rw[b,if_pos rfl,n]
end K70
end
section
namespace BH
open PySem L2
theorem tU{i:Nat}{b:SF}{u:Tr}{us:List Tr}{ρ ρ1:En}{r:Rs (Fl × En)}(h:b (ρ.set i (.sh u))=.ok (.nx,ρ1))(h':iV (gN i) b us ρ1=r):iV (gN i) b (u::us) ρ = r:=by
 unfold iV
 show(b (ρ.set i (.sh u))).bind _=_
 rw[h]
 exact h'
theorem Vy{α : Type}{r h : α -> Tr}{f:EF}{τ : En}:∀(xs:List α) (s:Sl),(∀x∈xs,∃fr,f (.sh (r x)::τ)=.ok (.v (h x) fr,.sh (r x)::τ))->∃s',jy (gN 0) cU f (xs.map r) (s::τ)=.ok (xs.map h,s'::τ)
 | [],s,_=>⟨s,rfl⟩
 |x::xs,s,q=>by
  obtain⟨fr,e⟩:=q x (by simp)
  obtain⟨s',e'⟩:=Vy xs (.sh (r x)) λv hv=>q v (by simp[hv])
  refine⟨s',?_⟩
  rw[List.map_cons]
  unfold jy
  simp[e,bL,e']
theorem Vz{α : Type}{r : α -> Tr}{c:BF}{p : α -> Bool}{τ : En}:∀(xs:List α) (s:Sl),(∀x∈xs,c (.sh (r x)::τ)=.ok (p x,.sh (r x)::τ))->∃s',jy (gN 0) c (aj 0) (xs.map r) (s::τ)=.ok ((xs.filter p).map r,s'::τ)
 | [],s,_=>⟨s,rfl⟩
 |x::xs,s,q=>by
  have e:=q x (by simp)
  obtain⟨s',e'⟩:=Vz xs (.sh (r x)) λv hv=>q v (by simp[hv])
  refine⟨s',?_⟩
  rw[List.map_cons]
  unfold jy
  cases h:p x with
  |false=>rw[h]at e; simp[e,e',h]
  |true=>rw[h]at e; simp[e,e',h,bL]
theorem VB{α : Type}{p : α -> Bool}:∀xs:List α,nJ (xs.map λx=>.bl (p x))=some (xs.map p)
 | []=>rfl
 |x::xs=>by simp[nJ,VB xs]
theorem pZ{α : Type}{r h : α -> Tr}{xs:List α}{ρ τ : En}{rest:List (Option Nat)}{i:IF}{fe:EF}(hl:xs.length<=100000)(hi:i ρ=.ok (xs.map r,ρ))(hτ : cG rest ρ = τ)(hs:∀s',cZ (none::rest) (s'::τ) ρ = true)(hd:∀s',bW (none::rest) (s'::τ) ρ = ρ)
  (hf:∀x∈xs,∃fr,fe (.sh (r x)::τ)=.ok (.v (h x) fr,.sh (r x)::τ)):cM (none::rest) i (gN 0) cU fe ρ=.ok (.v (.lst (xs.map h)) true,ρ):=by
 obtain⟨s',e⟩:=Vy xs .un hf
 have hu:cG (none::rest) ρ=.un::τ := by rw[<-hτ]; rfl
 have hl':(xs.map r).length<=100000:=by rw[List.length_map]; exact hl
 rw[MP,hi]
 simp only[tQ]
 rw[if_pos hl',hu,e]
 simp only[bU,tQ]
 rw[if_pos (hs s'),hd s']
theorem VD{α : Type}{r : α -> Tr}{p : α -> Bool}{xs:List α}{ρ τ : En}{rest:List (Option Nat)}{i:IF}{c:BF}(hl:xs.length<=100000)(hi:i ρ=.ok (xs.map r,ρ))(hτ : cG rest ρ = τ)(hs:∀s',cZ (none::rest) (s'::τ) ρ = true)(hd:∀s',bW (none::rest) (s'::τ) ρ = ρ)
  (hf:∀x∈xs,c (.sh (r x)::τ)=.ok (p x,.sh (r x)::τ)):cM (none::rest) i (gN 0) c (aj 0) ρ=.ok (.v (.lst ((xs.filter p).map r)) true,ρ):=by
 obtain⟨s',e⟩:=Vz xs .un hf
 have hu:cG (none::rest) ρ=.un::τ := by rw[<-hτ]; rfl
 have hl':(xs.map r).length<=100000:=by rw[List.length_map]; exact hl
 rw[MP,hi]
 simp only[tQ]
 rw[if_pos hl',hu,e]
 simp only[bU,tQ]
 rw[if_pos (hs s'),hd s']
def RT(x y:Int × Int):Bool:=decide (x.1*y.2<y.1*x.2)
theorem qW(i j:Int):aO (.int i) (.int j)=.ok (.int (i+j),false):=rfl
theorem VF:∀(n m:Nat),L2.upTo (m:Int) n=(List.range' m n).map λi:Nat=>Tr.int i
 | 0,_=>rfl
 |n+1,m=>by
  unfold L2.upTo
  rw[show((m:Int)+1)=((m+1:Nat):Int) by omega,VF n (m+1),List.range'_succ]
  rfl
end BH
end
section
namespace K70
open PySem L2 BH PySem.NumText
def M7:EF:=cM [none] (DW (aj 0)) (gN 0) (aK (ao (tD not) (aj 0) (eC (.str "0123456789")))) (aj 0)
theorem afq(z:Str)(hz:z.length<=100000):M7 [.sh (.str z)]=.ok (.v (.lst ((z.cps.toList.filter λc=>!gO c).map λc=>.str ⟨#[c]⟩)) true,[.sh (.str z)]):=by
 have hl:z.cps.toList.length<=100000:=by rw[Array.length_toList]; exact hz
 refine VD (r:=λc=>.str ⟨#[c]⟩) hl (by simp -dsimp[DW,Ab,strOf,dr]; try rfl) rfl (λ_=>rfl) (λ_=>rfl) λc _=>?_
 have e:tD not (.str ⟨#[c]⟩) (.str "0123456789")=.ok (.bl (!gO c),false):=by
  dsimp only[tD]
  rw[ae5]
 generalize tD not=G at *
 simp -dsimp[aP,dr,e]
end K70
end
section
namespace K70
open PySem L2 BH PySem.NumText
theorem VG:∀l:List Nat,deps (l.map λc=>Tr.str ⟨#[c]⟩)<=1
 | []=>by simp[iZ]
 |c::r=>by
  have:=VG r
  rw[List.map_cons,iM,d8]
  omega
theorem afr(l:List Nat):bF (.lst (l.map λc=>Tr.str ⟨#[c]⟩)) (.lst [])=.ok (.bl (!l.isEmpty),false):=by
 have d:=VG l
 cases l with
 |nil=>rfl
 |cons c r =>
  unfold bF
  rw[if_pos ⟨by rw[jo]; omega,by decide⟩]
  rfl
def Aw:BF:=dz (aK (ao aH (aj 0) (eC (.str "")))) (dz (aK (ao cN (bh (g1 aL) (ak (aj 0) au)) (eC (.int 40)))) (aK (ao bF M7 (dX au))))
theorem afs(z:Str)(hz:z.length<=100000):Aw [.sh (.str z)]=.ok ((z == "") || (decide ((40:Int)<z.length) || !(z.cps.toList.filter λc=>!gO c).isEmpty),[.sh (.str z)]):=by
 have e1:=afq z hz
 have e2:=afr (z.cps.toList.filter λc=>!gO c)
 unfold Aw
 generalize bF=N,(z.cps.toList.filter λc=>!gO c).isEmpty=b,((z.cps.toList.filter λc=>!gO c).map λc=>Tr.str ⟨#[c]⟩)=M,M7=C at *
 cases h1:(z == "") <;> by_cases h2:(40:Int)<z.length <;> cases b <;> simp -dsimp[aP,dr,drs,cls,bL,g1,gB,aH,cN,aL,aX,d8,jf,e1,e2,h1,h2,hz]
theorem aft(z:Str)(c:Nat)(hz:z.length<=100000)(hc:cX z.cps.toList 0=some c):m8 [.sh (.str z)]=.ok ((⟨#[c]⟩:Str) == "0" && !(z == "0"),[.sh (.str z)]):=by
 have e:aB (.str z) (.int 0)=.ok (.str ⟨#[c]⟩,false):=by
  dsimp only[aB]
  rw[if_pos hz,hc]
 unfold m8
 cases h1:((⟨#[c]⟩:Str) == "0") <;> cases h2:(z == "0") <;> simp -dsimp[aP,dr,aH,bF,d8,jf,e,h1,h2]
end K70
end
section
namespace K70
open PySem L2 BH PySem.NumText
theorem afu(z:Str):(z == "")=decide (z.cps.toList=[]):=by
 have e:("" : Str).cps.toList=[]:=by decide +kernel
 rw[Bool.eq_iff_iff,beq_iff_eq,decide_eq_true_eq]
 constructor
 ·rintro rfl
  exact e
 ·intro h
  exact qU (by rw[e,h])
theorem afv(z:Str)(hz:z.length<=100000):xg [.str z]=.ok (pY z.cps.toList 40,false):=by
 have e1:=afs z hz
 have hl:z.length=z.cps.toList.length:=Array.length_toList.symm
 rw[afu]at e1
 show aM 1 (aC (bw Aw (aG (eC .non)) bx) (aC (bw m8 (aG (eC .non)) bx) (aG (bh (g1 jQ) (ak (aj 0) au))))) _=_
 by_cases h1:z.cps.toList≠[]/\(∀c∈z.cps.toList,gO c=true)/\z.cps.toList.length<=40
 ·obtain⟨h1,h2,h3⟩:=h1
  obtain⟨c,r,e⟩:=List.exists_cons_of_ne_nil h1
  have b:(decide (z.cps.toList=[]) || (decide ((40:Int)<z.length) || !(z.cps.toList.filter λc=>!gO c).isEmpty))=false:=by
   have q:(z.cps.toList.filter λc=>!gO c)=[]:=List.filter_eq_nil_iff.mpr λc hc=>by rw[h2 c hc]; simp
   rw[decide_eq_false h1,decide_eq_false (by omega),q]
   rfl
  have hd:AllDigits z.cps.toList:=λc hc=>by
   have:=h2 c hc
   unfold gO at this
   simpa using this
  have e3:jQ (.str z)=.ok (.int (digitsVal z.cps.toList:Nat),false):=by
   dsimp only[jQ]
   rw[if_pos (by omega),intText_digits hd h1 (by omega)]
  have hc:cX z.cps.toList 0=some c:=by rw[e]; simp[cX,dY]
  have e2:=aft z c hz hc
  rw[sign_zero,Vw]at e2
  rw[b]at e1
  have n:pY z.cps.toList 40=if(decide (c=48) && !decide (z.cps.toList=[48]))=true then .non else .int (digitsVal z.cps.toList:Nat):=by
   by_cases h4:z.cps.toList=[48]
   ·rw[decide_eq_true h4,Bool.not_true,Bool.and_false]
    exact if_pos ⟨h1,h2,h3,.inl h4⟩
   ·rw[decide_eq_false h4]
    by_cases h5:c=48
    ·rw[decide_eq_true h5]
     exact if_neg λq=>q.2.2.2.elim h4 λq=>q (by rw[e,h5]; rfl)
    ·rw[decide_eq_false h5]
     exact if_pos ⟨h1,h2,h3,.inr (by rw[e]; simpa using h5)⟩
  rw[n]
  generalize (decide (c=48) && !decide (z.cps.toList=[48]))=d,jQ=G,m8=B,Aw=A at *
  cases d <;> simp -dsimp[aM,aW,dr,drs,cls,bL,g1,aX,e1,e2,e3]
 ·have b:(decide (z.cps.toList=[]) || (decide ((40:Int)<z.length) || !(z.cps.toList.filter λc=>!gO c).isEmpty))=true:=by
   by_cases q1:z.cps.toList=[]
   ·rw[decide_eq_true q1]; rfl
   ·by_cases q2:(40:Int)<z.length
    ·rw[decide_eq_true q2]; simp
    ·have q3:(z.cps.toList.filter λc=>!gO c)≠[]:=λw=>h1 ⟨q1,λc hc=>by
      have:=List.filter_eq_nil_iff.mp w c hc
      simpa using this,by omega⟩
     cases w:(z.cps.toList.filter λc=>!gO c)with
     |nil=>exact(q3 w).elim
     |cons _ _=>simp
  have n:pY z.cps.toList 40=.non:=if_neg λq=>h1 ⟨q.1,q.2.1,q.2.2.1⟩
  rw[b]at e1
  rw[n]
  generalize m8=B,Aw=A at *
  simp -dsimp[aM,aW,e1,dr,cls,bL]
end K70
end
section
namespace K70
open PySem L2 BH
theorem M8(T:Tr):lu [T]=.ok (.bl (isW T),false):=by cases T <;> rfl
theorem M9(a b:Int):tG [.int a,.int b]=.ok (.int (Int.gcd a b:Nat),false):=Vq a b
theorem xR(n k:Int)(h:0<k)(hk:k.natAbs.log2<9000):cO [.lst [.int n],.int k]=.ok ((.int (n.fmod k),false),[.int (n.fdiv k)]):=by
 unfold cO Lw fX
 have h0:k≠0:=by omega
 have h1:ou n k=true:=by unfold ou; simp[h0,hk]
 simp -dsimp[bU,cV,gq,bN,con,eY,eB,aP,cL,dr,drs,cls,bL,gJ,g1,g2,gI,eF,gB,aH,bF,bT,aO,dU,gQ,dF,gU,dw,bV,cN,dg,fW,aB,aL,iU,gW,d7,gY,gZ,dI,dW,okR,cW,aX,others,cG,bW,cZ,eG,eN,dN,j8,d8,jz,jG,jo,iZ,iM,eO,j9,jf,dH,cX,dY,aW,h0,h1,dJ,eX]
theorem lg{k:Int}(h:k.natAbs<2 ^ 60):k.natAbs.log2<9000:=Vu h (by omega)
theorem tV(n k:Int)(h:0<k):0<=n.fmod k/\n.fmod k<k:=⟨Int.fmod_nonneg_of_pos n h,Int.fmod_lt_of_pos n h⟩
theorem afw(x b:Int)(hx:0<=x)(hb:1<=b)(h1:x<=b)(h2:b<=1000000000000):∃y,oN [.int x,.int b]=.ok (fT y,false)/\Wo y:=by
 obtain⟨g1,g2,g3,g4,g5,g6,g7⟩:=RM (a:=x) (b:=b) (by omega)
 have e1:x.fdiv (Int.gcd x b:Nat)=x / (Int.gcd x b:Nat):=Int.fdiv_eq_ediv_of_nonneg _ (by omega)
 have e2:b.fdiv (Int.gcd x b:Nat)=b / (Int.gcd x b:Nat):=Int.fdiv_eq_ediv_of_nonneg _ (by omega)
 refine⟨(x.fdiv (Int.gcd x b:Nat),b.fdiv (Int.gcd x b:Nat)),?_,?_⟩
 ·unfold oN Eo aM fT
  generalize hg:((Int.gcd x b:Nat):Int)=g at g1 g2
  have hs:=M9 x b
  rw[hg]at hs
  have h3:¬b<0:=by omega
  have c1:ou x g=true:=Fw (M:=60) (by omega) (by omega) (by omega)
  have c2:ou b g=true:=Fw (M:=60) (by omega) (by omega) (by omega)
  simp -dsimp[bU,cV,gq,bN,con,eY,eB,aP,cL,dr,drs,cls,bL,gJ,g1,g2,gI,eF,gB,aH,bF,bT,aO,dU,gQ,dF,gU,dw,bV,cN,dg,fW,aB,aL,iU,gW,d7,gY,gZ,dI,dW,okR,cW,aX,others,cG,bW,cZ,eG,eN,dN,j8,d8,jz,jG,jo,iZ,iM,eO,j9,jf,dH,cX,dY,aW,hs,h3,c1,c2]
 ·rw[e1,e2]
  refine⟨g5 hx,Int.ediv_le_ediv g1 h1,g3,?_,g4⟩
  have:=Int.ediv_le_self (a:=b) ((Int.gcd x b:Nat):Int) (by omega)
  show b / ((Int.gcd x b:Nat):Int)<=1000000000000
  omega
theorem afx(n:Int):∃y m,pN [.lst [.int n]]=.ok ((fT y,false),[.int m])/\Wo y:=by
 have hr:=tV n 8 (by omega)
 have ht:=xR n 8 (by omega) (by decide)
 have ff:∀(b c m:Int),c=b+1->1<=b->b<=1000000000000->∃y x m',cO [.lst [.int m],.int c]=.ok ((.int x,false),[.int m'])/\oN [.int x,.int b]=.ok (fT y,false)/\Wo y:=λb c m hc h1 h2=>by
  subst hc
  have hh:=tV m (b+1) (by omega)
  obtain⟨T,e,p⟩:=afw (m.fmod (b+1)) b hh.1 h1 (by omega) h2
  exact⟨T,_,_,xR m (b+1) (by omega) (lg (by omega)),e,p⟩
 generalize n.fmod 8=k at hr ht
 generalize n.fdiv 8=m at ht
 unfold pN Lx fX
 have hc:k=0\/k=1\/k=2\/k=3\/k=4\/k=5\/k=6\/k=7:=by omega
 rcases hc with rfl|rfl|rfl|rfl|rfl|rfl|rfl|rfl
 ·exact⟨(0,1),m,by simp -dsimp[bU,cV,gq,bN,con,eY,eB,aP,cL,dr,drs,cls,bL,gJ,g1,g2,gI,eF,gB,aH,bF,bT,aO,dU,gQ,dF,gU,dw,bV,cN,dg,fW,aB,aL,iU,gW,d7,gY,gZ,dI,dW,okR,cW,aX,others,cG,bW,cZ,eG,eN,dN,j8,d8,jz,jG,jo,iZ,iM,eO,j9,jf,dH,cX,dY,aW,ht,dJ,eX,fT],by decide⟩
 ·exact⟨(1,1),m,by simp -dsimp[bU,cV,gq,bN,con,eY,eB,aP,cL,dr,drs,cls,bL,gJ,g1,g2,gI,eF,gB,aH,bF,bT,aO,dU,gQ,dF,gU,dw,bV,cN,dg,fW,aB,aL,iU,gW,d7,gY,gZ,dI,dW,okR,cW,aX,others,cG,bW,cZ,eG,eN,dN,j8,d8,jz,jG,jo,iZ,iM,eO,j9,jf,dH,cX,dY,aW,ht,dJ,eX,fT],by decide⟩
 ·obtain⟨T,x,m',e1,e2,p⟩:=ff 2 3 m (by omega) (by omega) (by omega)
  exact⟨T,m',by simp -dsimp[bU,cV,gq,bN,con,eY,eB,aP,cL,dr,drs,cls,bL,gJ,g1,g2,gI,eF,gB,aH,bF,bT,aO,dU,gQ,dF,gU,dw,bV,cN,dg,fW,aB,aL,iU,gW,d7,gY,gZ,dI,dW,okR,cW,aX,others,cG,bW,cZ,eG,eN,dN,j8,d8,jz,jG,jo,iZ,iM,eO,j9,jf,dH,cX,dY,aW,ht,dJ,eX,e1,e2],p⟩
 ·obtain⟨T,x,m',e1,e2,p⟩:=ff 3 4 m (by omega) (by omega) (by omega)
  exact⟨T,m',by simp -dsimp[bU,cV,gq,bN,con,eY,eB,aP,cL,dr,drs,cls,bL,gJ,g1,g2,gI,eF,gB,aH,bF,bT,aO,dU,gQ,dF,gU,dw,bV,cN,dg,fW,aB,aL,iU,gW,d7,gY,gZ,dI,dW,okR,cW,aX,others,cG,bW,cZ,eG,eN,dN,j8,d8,jz,jG,jo,iZ,iM,eO,j9,jf,dH,cX,dY,aW,ht,dJ,eX,e1,e2],p⟩
 ·obtain⟨T,x,m',e1,e2,p⟩:=ff 4 5 m (by omega) (by omega) (by omega)
  exact⟨T,m',by simp -dsimp[bU,cV,gq,bN,con,eY,eB,aP,cL,dr,drs,cls,bL,gJ,g1,g2,gI,eF,gB,aH,bF,bT,aO,dU,gQ,dF,gU,dw,bV,cN,dg,fW,aB,aL,iU,gW,d7,gY,gZ,dI,dW,okR,cW,aX,others,cG,bW,cZ,eG,eN,dN,j8,d8,jz,jG,jo,iZ,iM,eO,j9,jf,dH,cX,dY,aW,ht,dJ,eX,e1,e2],p⟩
 ·obtain⟨T,x,m',e1,e2,p⟩:=ff 6 7 m (by omega) (by omega) (by omega)
  exact⟨T,m',by simp -dsimp[bU,cV,gq,bN,con,eY,eB,aP,cL,dr,drs,cls,bL,gJ,g1,g2,gI,eF,gB,aH,bF,bT,aO,dU,gQ,dF,gU,dw,bV,cN,dg,fW,aB,aL,iU,gW,d7,gY,gZ,dI,dW,okR,cW,aX,others,cG,bW,cZ,eG,eN,dN,j8,d8,jz,jG,jo,iZ,iM,eO,j9,jf,dH,cX,dY,aW,ht,dJ,eX,e1,e2],p⟩
 ·obtain⟨T,x,m',e1,e2,p⟩:=ff 12 13 m (by omega) (by omega) (by omega)
  exact⟨T,m',by simp -dsimp[bU,cV,gq,bN,con,eY,eB,aP,cL,dr,drs,cls,bL,gJ,g1,g2,gI,eF,gB,aH,bF,bT,aO,dU,gQ,dF,gU,dw,bV,cN,dg,fW,aB,aL,iU,gW,d7,gY,gZ,dI,dW,okR,cW,aX,others,cG,bW,cZ,eG,eN,dN,j8,d8,jz,jG,jo,iZ,iM,eO,j9,jf,dH,cX,dY,aW,ht,dJ,eX,e1,e2],p⟩
 ·have h9:=xR m 999999999999 (by omega) (by decide)
  have hr:=tV m 999999999999 (by omega)
  generalize m.fmod 999999999999=b0 at h9 hr
  generalize m.fdiv 999999999999=m1 at h9
  obtain⟨T,x,m',e1,e2,p⟩:=ff (1+b0) (1+b0+1) m1 (by omega) (by omega) (by omega)
  exact⟨T,m',by simp -dsimp[bU,cV,gq,bN,con,eY,eB,aP,cL,dr,drs,cls,bL,gJ,g1,g2,gI,eF,gB,aH,bF,bT,aO,dU,gQ,dF,gU,dw,bV,cN,dg,fW,aB,aL,iU,gW,d7,gY,gZ,dI,dW,okR,cW,aX,others,cG,bW,cZ,eG,eN,dN,j8,d8,jz,jG,jo,iZ,iM,eO,j9,jf,dH,cX,dY,aW,ht,dJ,eX,zJ,tiny,h9,e1,e2],p⟩
theorem qI:∀(n:Nat) (lo:Int),(upTo lo n).length=n
 | 0,_=>rfl
 |n+1,lo=>by unfold L2.upTo; rw[List.length_cons,qI n]
theorem VH:∀(us:List Tr) (s:Sl) (n:Int),∃(ws:List (Int × Int)) (s':Sl) (m:Int),jy (gN 0) cU (cj 0 pN (ak (aj 1) au)) us [s,.rf [.int n]]=.ok (ws.map fT,[s',.rf [.int m]])/\ws.length=us.length/\∀w∈ws,Wo w
 | [],s,n=>⟨[],s,n,rfl,rfl,by simp⟩
 |u::us,s,n=>by
  obtain⟨T,m1,e,p⟩:=afx n
  obtain⟨ws,s',m,e',hl,hp⟩:=VH us (.sh u) m1
  refine⟨T::ws,s',m,?_,by simp[hl],λw hw=>(List.mem_cons.mp hw).elim (λz=>z▸p) (hp w)⟩
  have e1:cj 0 pN (ak (aj 1) au) [.sh u,.rf [.int n]]=.ok (.v (fT T) false,[.sh u,.rf [.int m1]]):=by simp -dsimp[bU,cV,gq,bN,con,eY,eB,aP,cL,dr,drs,cls,bL,gJ,g1,g2,gI,eF,gB,aH,bF,bT,aO,dU,gQ,dF,gU,dw,bV,cN,dg,fW,aB,aL,iU,gW,d7,gY,gZ,dI,dW,okR,cW,aX,others,cG,bW,cZ,eG,eN,dN,j8,d8,jz,jG,jo,iZ,iM,eO,j9,jf,dH,cX,dY,aW,e]
  generalize cj 0 pN (ak (aj 1) au)=G at e1 e' ⊢
  unfold jy
  simp[e1,bL,e']
def Fz:EF:=(cM [none,some 2] (jk (ak (aj 1) au)) (gN 0) cU (cj 0 pN (ak (aj 1) au)))
theorem afy(u:Tr)(c:Nat)(hc:c<=12)(n:Int):∃l m,Fz [.sh u,.sh (.int c),.rf [.int n]]=.ok (.v (bD l) true,[.sh u,.sh (.int c),.rf [.int m]])/\l.length=c/\∀e∈l,Wo e:=by
 obtain⟨ws,s',m,e,hl,hp⟩:=VH (upTo 0 c) .un n
 rw[qI]at hl
 refine⟨ws,m,?_,hl,hp⟩
 unfold Fz bD
 generalize cj 0 pN (ak (aj 1) au)=G at e ⊢
 have h1:(-1000000:Int)<=c:=by omega
 have h2:(c:Int)<=1000000:=by omega
 have h3:c<=100000:=by omega
 simp -dsimp[bU,cV,gq,bN,con,eY,eB,aP,cL,dr,drs,cls,bL,gJ,g1,g2,gI,eF,gB,aH,bF,bT,aO,dU,gQ,dF,gU,dw,bV,cN,dg,fW,aB,aL,iU,gW,d7,gY,gZ,dI,dW,okR,cW,aX,others,cG,bW,cZ,eG,eN,dN,j8,d8,jz,jG,jo,iZ,iM,eO,j9,jf,dH,cX,dY,aW,h1,h2,h3,e,qI]
theorem VJ(c:Nat)(hc:c<=12):∀(us:List Tr) (s:Sl) (n:Int),∃(rows:List (List (Int × Int))) (s':Sl) (m:Int),jy (gN 0) cU Fz us [s,.sh (.int c),.rf [.int n]]=.ok (rows.map bD,[s',.sh (.int c),.rf [.int m]])/\rows.length=us.length/\Vv c rows
 | [],s,n=>⟨[],s,n,rfl,rfl,by intro r hr; simp at hr⟩
 |u::us,s,n=>by
  obtain⟨l,m1,e,hl,p⟩:=afy u c hc n
  obtain⟨rows,s',m,e',hl',hp⟩:=VJ c hc us (.sh u) m1
  refine⟨l::rows,s',m,?_,by simp[hl'],?_⟩
  ·unfold jy
   simp[e,bL,e']
  ·intro r hr
   rcases List.mem_cons.mp hr with rfl|hr
   ·exact⟨hl,p⟩
   ·exact hp r hr
theorem afz(n:Int):∃rows c m,vd [.lst [.int n]]=.ok ((eZ rows,true),[.int m])/\Bk c rows:=by
 have t1:=xR n 4 (by omega) (by decide)
 have r1:=tV n 4 (by omega)
 generalize n.fmod 4=a at t1 r1
 generalize n.fdiv 4=n1 at t1
 have t2:=xR n1 12 (by omega) (by decide)
 have r2:=tV n1 12 (by omega)
 generalize n1.fmod 12=b at t2 r2
 generalize n1.fdiv 12=n2 at t2
 obtain⟨c,hc⟩:∃c:Nat,(c:Int)=1+b:=⟨(1+b).toNat,by omega⟩
 obtain⟨k,hk⟩:∃c:Nat,(c:Int)=1+a:=⟨(1+a).toNat,by omega⟩
 obtain⟨rows,s',m,e,hl,hs⟩:=VJ c (by omega) (upTo 0 k) .un n2
 rw[qI]at hl
 refine⟨rows,c,m,?_,by omega,by omega,by omega,by omega,hs⟩
 show fX 3 0 (aC (aV (ao aO (eC (.int 1)) (cj 0 cO (ak (aj 0) (ak (eC (.int 4)) au)))) (gN 1)) (aC (aV (ao aO (eC (.int 1)) (cj 0 cO (ak (aj 0) (ak (eC (.int 12)) au)))) (gN 2)) (aG (cM [none,some 2,some 0] (jk (ak (aj 1) au)) (gN 0) cU Fz)))) _=_
 unfold fX eZ
 have h1:(-1000000:Int)<=k:=by omega
 have h2:(k:Int)<=1000000:=by omega
 have h3:k<=100000:=by omega
 simp -dsimp[bU,cV,gq,bN,con,eY,eB,aP,cL,dr,drs,cls,bL,gJ,g1,g2,gI,eF,gB,aH,bF,bT,aO,dU,gQ,dF,gU,dw,bV,cN,dg,fW,aB,aL,iU,gW,d7,gY,gZ,dI,dW,okR,cW,aX,others,cG,bW,cZ,eG,eN,dN,j8,d8,jz,jG,jo,iZ,iM,eO,j9,jf,dH,cX,dY,aW,t1,t2,<-hc,<-hk,h1,h2,h3,qI,e,dJ,eX]
theorem VL{i:Int}(h : -1000000000000000000<i/\i<1000000000000000000):tiny i=true:=by
 unfold tiny
 rw[Bool.and_eq_true]
 exact⟨decide_eq_true (by omega),decide_eq_true (by omega)⟩
theorem Ax{i j:Int}(h : -1000000000000000000<i/\i<1000000000000000000):kO i j=true:=by unfold kO; rw[VL h]; simp
theorem Nb{i j:Int}(h : -1000000000000000000<j/\j<1000000000000000000):kO i j=true:=by unfold kO; rw[VL h]; simp
theorem afA(a k:Int)(h0:0<=k)(h1:k<100000):∃x,wY [.int a,.int k]=.ok (.int x,false):=by
 have c1:kO (a.fmod 2147483629) 69621=true:=Nb (by omega)
 have c2:kO 40503 k=true:=Ax (by omega)
 have c3:kO (40503*k) k=true:=Nb (by omega)
 have c4:kO 16807 k=true:=Ax (by omega)
 generalize hA:a.fmod 2147483629*69621+40503*k*k+16807*k+1048583=A
 have rA:=tV A 2147483647 (by omega)
 generalize hB:A.fmod 2147483647=B at rA
 have c5:kO B B=true:=Ax (by omega)
 have rB:=tV (B*B) 2147483629 (by omega)
 generalize hC:(B*B).fmod 2147483629=C at rB
 have c6:kO C (C+2)=true:=Ax (by omega)
 refine⟨(C*(C+2)).fmod 2147483587,?_⟩
 unfold wY Lr aM
 simp -dsimp[bU,cV,gq,bN,con,eY,eB,aP,cL,dr,drs,cls,bL,gJ,g1,g2,gI,eF,gB,aH,aO,dF,dw,bV,cN,aL,gW,d7,dW,okR,cW,aX,others,cG,bW,cZ,eG,eN,dN,eO,aW,dU,c1,c2,c3,c4,hA,hB,c5,hC,c6]
def vg:SF:=(aV (ao aO (ao dU (aj 3) (eC (.int 2147483587))) (bB wY (ak (aj 2) (ak (ao aO (ao dU (eC (.int 31)) (aj 1)) (aj 4)) au)))) (gN 3))
theorem VN(S:Tr)(k cell:Int)(h0:0<=k)(h1:k<1000):∀(us:List Tr) (tW:Int) (s:Sl),(∀u∈us,∃j:Int,u=.int j/\0<=j/\j<1000)->∃x s',iV (gN 4) vg us [.sh S,.sh (.int k),.sh (.int cell),.sh (.int tW),s]=.ok (.nx,[.sh S,.sh (.int k),.sh (.int cell),.sh (.int x),s'])
 | [],tW,s,_=>⟨tW,s,rfl⟩
 |u::us,tW,s,h=>by
  obtain⟨j,rfl,j0,j1⟩:=h u (by simp)
  obtain⟨y,e⟩:=afA cell (31*k+j) (by omega) (by omega)
  obtain⟨x,s',e'⟩:=VN S k cell h0 h1 us (tW*2147483587+y) (.sh (.int j)) λv hv=>h v (by simp[hv])
  have c1:kO tW 2147483587=true:=Nb (by omega)
  have c2:kO 31 k=true:=Ax (by omega)
  have e2:vg [.sh S,.sh (.int k),.sh (.int cell),.sh (.int tW),.sh (.int j)]=.ok (.nx,[.sh S,.sh (.int k),.sh (.int cell),.sh (.int (tW*2147483587+y)),.sh (.int j)]):=by
   unfold vg
   simp -dsimp[bU,cV,gq,bN,con,eY,eB,aP,cL,dr,drs,cls,bL,gJ,g1,g2,gI,eF,gB,aH,aO,dF,dw,bV,cN,aL,gW,d7,dW,okR,cW,aX,others,cG,bW,cZ,eG,eN,dN,eO,dU,c1,c2,e]
  refine⟨x,s',?_⟩
  unfold iV
  simp[e2,e']
theorem Nf:∀(n:Nat) (lo:Int) (u:Tr),u∈L2.upTo lo n->∃j:Int,u=.int j/\lo<=j/\j<lo+n
 | 0,_,u,h=>by simp[L2.upTo]at h
 |n+1,lo,u,h=>by
  unfold L2.upTo at h
  rcases List.mem_cons.mp h with rfl|h
  ·exact⟨lo,rfl,by omega,by omega⟩
  ·obtain⟨j,rfl,h1,h2⟩:=Nf n (lo+1) u h
   exact⟨j,rfl,by omega,by omega⟩
noncomputable def xT:SF:=(aC (bw (aK (ao fW (aj 2) (ao gU (eC (.int 10)) (eC (.int 18))))) (aG (dX (ak (ao dw (aj 2) (ao gU (eC (.int 10)) (eC (.int 18)))) au))) bx) (aC (aV (eC (.int 0)) (gN 3)) (aC (gk (iw (jk (ak (eC (.int 20)) au)) (gN 4) vg)) (aG (dX (ak (aj 3) au))))))
theorem VP(S:Tr)(k:Nat)(hk:k<1000)(cell:Int):∃x ρ,xT [.sh S,.sh (.int k),.sh (.int cell),.un,.un]=.ok (.rt (.lst [.int x]) true,ρ):=by
 by_cases h:1000000000000000000<=cell
 ·refine⟨cell-1000000000000000000,[.sh S,.sh (.int k),.sh (.int cell),.un,.un],?_⟩
  unfold xT
  simp -dsimp[bU,cV,gq,bN,con,eY,eB,aP,cL,dr,drs,cls,bL,gJ,g1,g2,gI,eF,gB,aH,aO,dF,dw,bV,cN,aL,gW,d7,dW,okR,cW,aX,others,cG,bW,cZ,eG,eN,dN,eO,fW,gU,zJ,tiny,h]
 ·obtain⟨x,s',e⟩:=VN S k cell (by omega) (by omega) (L2.upTo 0 20) 0 .un λu hu=>by
   obtain⟨j,rfl,h1,h2⟩:=Nf _ _ _ hu
   exact⟨j,rfl,h1,by omega⟩
  have e1:gk (iw (jk (ak (eC (.int 20)) au)) (gN 4) vg) [.sh S,.sh (.int k),.sh (.int cell),.sh (.int 0),.un]=.ok (.nx,[.sh S,.sh (.int k),.sh (.int cell),.sh (.int x),s']):=by
   show bU (iV (gN 4) vg (L2.upTo 0 20) _)=_
   rw[e]
   rfl
  refine⟨x,[.sh S,.sh (.int k),.sh (.int cell),.sh (.int x),s'],?_⟩
  unfold xT
  generalize gk (iw (jk (ak (eC (.int 20)) au)) (gN 4) vg)=G at e1 ⊢
  simp -dsimp[bU,cV,gq,bN,con,eY,eB,aP,cL,dr,drs,cls,bL,gJ,g1,g2,gI,eF,gB,aH,aO,dF,dw,bV,cN,aL,gW,d7,dW,okR,cW,aX,others,cG,bW,cZ,eG,eN,dN,eO,fW,gU,zJ,tiny,h,e1]
theorem afB(ns:List Int)(k:Nat)(hk:k<1000):∃x:Int,u9 [.lst (ns.map .int),.int k]=.ok (.lst [.int x],true):=by
 have hd:Ls=(aC (aV (eC (.int 0)) (gN 2)) (aC (bw (aK (ao bV (aj 1) (bh (g1 aL) (ak (aj 0) au)))) (aV (ao aB (aj 0) (aj 1)) (gN 2)) bx) xT)):=rfl
 unfold u9
 rw[hd]
 by_cases h:k<ns.length
 ·have e:=afk (xs:=ns.map .int) (i:=k) (T:=.int ns[k]) (by simp[h])
  obtain⟨x,ρ,e1⟩:=VP (.lst (ns.map .int)) k hk ns[k]
  refine⟨x,?_⟩
  unfold aM
  generalize xT=G at e1 ⊢
  generalize ns[k]=cell at e e1
  simp -dsimp[bU,cV,gq,bN,con,eY,eB,aP,cL,dr,drs,cls,bL,gJ,g1,g2,gI,eF,gB,aH,aO,dF,dw,bV,cN,aL,gW,d7,dW,okR,cW,aX,others,cG,bW,cZ,eG,eN,dN,eO,aW,h,e,e1]
 ·obtain⟨x,ρ,e1⟩:=VP (.lst (ns.map .int)) k hk 0
  refine⟨x,?_⟩
  unfold aM
  generalize xT=G at e1 ⊢
  simp -dsimp[bU,cV,gq,bN,con,eY,eB,aP,cL,dr,drs,cls,bL,gJ,g1,g2,gI,eF,gB,aH,aO,dF,dw,bV,cN,aL,gW,d7,dW,okR,cW,aX,others,cG,bW,cZ,eG,eN,dN,eO,aW,h,e1]
end K70
end
section
namespace K70
open PySem L2 BH PySem.NumText
@[simp] theorem alA(g:Str->G1)(fa fb:EF)(ρ : En):eH g fa fb ρ = bd (fa ρ) (λp=>bd (dr p.2 p.1) (λa=>bd (strOf a) (λz=>bd (fb p.2) (λq=>bd (dr q.2 q.1) (λb=>bd (g z b) (λw=>.ok (.v w.1 w.2,q.2)) .mk) .mk) .mk) .mk) .mk) .mk:=rfl
@[simp] theorem strOf_str(z:Str):strOf (.str z)=.ok z:=rfl
def dD(l:List Nat):Option Nat:=if l≠[]/\(∀c∈l,gO c=true)/\l.length<=40/\(l=[48]\/l[0]? ≠ some 48)then some (digitsVal l)else none
def oT:Option Nat->Tr
 |some n=>.int (n:Nat)
 |none=>.non
theorem Ng(l:List Nat):pY l 40=oT (dD l):=by
 unfold pY dD
 split <;> rfl
def fO:Option (Int × Int)->Tr
 |some x=>fT x
 |none=>.non
def lC:Option Nat->Option (Int × Int)
 |some p=>some ((p:Int),(1:Int))
 |none=>none
def jg:Option Nat->Option Nat->Option (Int × Int)
 |some p,some q=>if 2<=q/\Nat.gcd p q=1 then some ((p:Int),(q:Int))else none
 |_,_=>none
def xU:List (List Nat)->Option (Int × Int)
 | [a]=>lC (dD a)
 | [a,b]=>jg (dD a) (dD b)
 |_=>none
def jA(l:List Nat):Option (Int × Int):=xU (spl 47 l)
theorem fY(b:Bool):cL (.bl b)=.ok b:=rfl
theorem slash:("/" : Str)=⟨#[47]⟩:=by decide +kernel
theorem V0{z a s b:Str}{x y:Option Nat}{t:Bool}(hp:qQ z (.str "/")=.ok (.tup [.str a,.str s,.str b],false)) (ha:lY [.str a,.int 40]=.ok (oT x,false)) (hb:lY [.str b,.int 40]=.ok (oT y,false)) (ht:cL (.str s)=.ok t) :
  tE [.str z,.int 40]=.ok (fO (if t=true then jg x y else lC x),false):=by
 have e0:∀P Q,nP [.tup [P,Q]]=.ok (.bl (oU P Q),false):=λP Q=>tR _
 have g1:∀P:Nat,oU (.int P) (.int 1)=true:=λP=>by simp[oU]
 have eqn:aH .non (.int 1)=.ok (.bl false,false):=by rfl
 unfold tE Lq
 generalize qQ=GP,nP=I,lY=W at *
 cases t
 ·cases x with
  |none =>
   have g2:oU .non (.int 1)=false:=rfl
   simp -dsimp[aM,aW,dr,drs,cls,bL,aX,fY,aP,hp,ha,ht,oT,e0,g2,fO,lC,jg]
  |some p =>
   have g2:=g1 p
   simp -dsimp[aM,aW,dr,drs,cls,bL,aX,fY,aP,hp,ha,ht,oT,e0,g2,fO,lC,jg,fT]
 ·cases x with
  |none =>
   have g2:∀Q,oU .non Q=false:=λQ=>rfl
   cases y with
   |none=>simp -dsimp[aM,aW,dr,drs,cls,bL,aX,fY,aP,hp,ha,hb,ht,oT,e0,g2,fO,lC,jg,eqn]
   |some q =>
    have eq1:aH (.int q) (.int 1)=.ok (.bl ((q:Int) == 1),false):=rfl
    generalize ((q:Int) == 1)=v at eq1
    cases v <;> simp -dsimp[aM,aW,dr,drs,cls,bL,aX,fY,aP,hp,ha,hb,ht,oT,e0,g2,fO,lC,jg,eq1]
  |some p =>
   cases y with
   |none =>
    have g2:oU (.int p) .non=false:=rfl
    simp -dsimp[aM,aW,dr,drs,cls,bL,aX,fY,aP,hp,ha,hb,ht,oT,e0,g2,fO,lC,jg,eqn]
   |some q =>
    have eq1:aH (.int q) (.int 1)=.ok (.bl (decide (q=1)),false):=by
     show Rs.ok (Tr.bl ((q:Int) == 1),false)=_
     congr 3
     rw[Bool.eq_iff_iff,beq_iff_eq,decide_eq_true_eq]
     omega
    have g2:oU (.int p) (.int q)=(decide (1<=q)&&(Nat.gcd p q == 1)):=by
     show(decide (1<=(q:Int))&&(Int.gcd p q == 1))=_
     rw[Int.gcd_natCast_natCast]
     congr 1
     rw[Bool.eq_iff_iff,decide_eq_true_eq,decide_eq_true_eq]
     omega
    by_cases h1:2<=q/\Nat.gcd p q=1
    ·obtain⟨h1,h2⟩:=h1
     have h3:¬q=1:=by omega
     have h4:1<=q:=by omega
     rw[decide_eq_false h3]at eq1
     rw[decide_eq_true h4,h2]at g2
     simp -dsimp[aM,aW,dr,drs,cls,bL,aX,fY,aP,hp,ha,hb,ht,oT,e0,g2,fO,lC,jg,eq1,fT,h1,h2]
    ·by_cases h3:q=1
     ·rw[decide_eq_true h3]at eq1
      simp -dsimp[aM,aW,dr,drs,cls,bL,aX,fY,aP,hp,ha,hb,ht,oT,e0,g2,fO,lC,jg,eq1,h1]
     ·have g3:(decide (1<=q)&&(Nat.gcd p q == 1))=false:=by
       by_cases h4:1<=q
       ·have:¬Nat.gcd p q=1:=λh=>h1 ⟨by omega,h⟩
        simp[this]
       ·simp[h4]
      rw[decide_eq_false h3]at eq1
      rw[g3]at g2
      simp -dsimp[aM,aW,dr,drs,cls,bL,aX,fY,aP,hp,ha,hb,ht,oT,e0,g2,fO,lC,jg,eq1,h1]
theorem vh(c:Nat):∀l:List Nat,spl c l≠[]
 | []=>List.cons_ne_nil _ _
 |x::r=>by
  unfold spl
  split
  ·exact List.cons_ne_nil _ _
  ·split <;> exact List.cons_ne_nil _ _
theorem V1{c:Nat}:∀{l:List Nat},c∈l->∃i j,l=i++c::j/\c∉i
 |x::r,h=>by
  by_cases e:x=c
  ·exact⟨[],r,by rw[e]; rfl,List.not_mem_nil⟩
  ·rcases List.mem_cons.mp h with h|h
   ·exact absurd h.symm e
   ·obtain⟨i,j,h1,h2⟩:=V1 h
    exact⟨x::i,j,by rw[h1]; rfl,by rw[List.mem_cons,not_or]; exact⟨Ne.symm e,h2⟩⟩
theorem afC(z:Str)(hz:z.length<=100000):tE [.str z,.int 40]=.ok (fO (jA z.cps.toList),false):=by
 have gp:qQ z (.str "/")=.ok (.tup ((sZ z "/").map .str),false):=if_pos ⟨by decide +kernel,hz⟩
 have wf:∀w:Str,w.length<=100000->lY [.str w,.int 40]=.ok (oT (dD w.cps.toList),false):=λw hw=>by
  rw[<-Ng]
  exact Vx w 40 (by decide) hw
 have hl:z.length=z.cps.toList.length:=Array.length_toList.symm
 rcases ae6 z 47 with⟨h1,h2⟩|⟨a,b,h1,h2,h3⟩
 ·rw[slash,h2]at gp
  rw[<-slash]at gp
  refine(V0 gp (wf z hz) (wf _ (by decide)) rfl).trans ?_
  unfold jA
  rw[xK h1]
  rfl
 ·rw[slash,h3]at gp
  rw[<-slash]at gp
  have ll:=congrArg List.length h1
  rw[List.length_append,List.length_cons,<-hl]at ll
  refine(V0 gp (wf _ ?_) (wf _ ?_) rfl).trans ?_
  ·show a.toArray.size<=_; rw[List.size_toArray]; omega
  ·show b.toArray.size<=_; rw[List.size_toArray]; omega
  ·unfold jA
   rw[h1,Fv b h2]
   show Rs.ok (fO (jg (dD a) (dD b)),false)=_
   by_cases hb:47∈b
   ·have n:dD b=none:=if_neg λq=>absurd (q.2.1 47 hb) (by decide)
    have m:∃p q r,spl 47 b=p::q::r:=by
     obtain⟨i,j,e,k⟩:∃i j,b=i++47::j/\47∉i:=V1 hb
     rw[e,Fv j k]
     cases w:spl 47 j with
     |nil=>exact absurd w (vh 47 j)
     |cons q r=>exact⟨i,q,r,rfl⟩
    obtain⟨p,q,r,m⟩:=m
    rw[m,n]
    cases dD a <;> rfl
   ·rw[xK hb]
    rfl
end K70
end
section
namespace K70
open PySem L2 BH PySem.NumText
theorem Nh(c:Nat):∀l:List Nat,(spl c l).length<=l.length+1
 | []=>Nat.le_refl _
 |x::r=>by
  have h:=Nh c r
  unfold spl
  split
  ·simp only[List.length_cons]; omega
  ·split
   ·simp
   ·rename_i e
    rw[e]at h
    simp only[List.length_cons]at h ⊢
    omega
theorem Ni(c:Nat):∀(l:List Nat),∀p∈spl c l,p.length<=l.length
 | [],p,h=>by rw[List.mem_singleton.mp h]; exact Nat.le_refl _
 |x::r,p,h=>by
  have ih:=Ni c r
  unfold spl at h
  rw[List.length_cons]
  split at h
  ·rcases List.mem_cons.mp h with rfl|h
   ·exact Nat.zero_le _
   ·have:=ih p h; omega
  ·split at h
   ·rw[List.mem_singleton.mp h]; simp
   ·rename_i q s e
    rcases List.mem_cons.mp h with rfl|h
    ·have:=ih q (by rw[e]; simp)
     rw[List.length_cons]; omega
    ·have:=ih p (by rw[e]; simp[h])
     omega
theorem vm(z:Str):z.length=z.cps.toList.length:=Array.length_toList.symm
theorem qX(z:Str)(c:Nat)(hz:z.length<=50000):dR z (.str ⟨#[c]⟩)=.ok (.lst ((Txt.split z ⟨#[c]⟩).map .str),true)/\(Txt.split z ⟨#[c]⟩).length<=50001/\∀p∈Txt.split z ⟨#[c]⟩,p.length<=z.length:=by
 have e:=xO z c
 have h1:(Txt.split z ⟨#[c]⟩).length<=z.length+1:=by
  have:=congrArg List.length e
  rw[List.length_map]at this
  rw[this,vm z]
  exact Nh c _
 refine⟨if_pos ⟨rfl,by omega,by omega⟩,by omega,λp hp=>?_⟩
 rw[vm p,vm z]
 exact Ni c _ _ (by rw[<-e]; exact List.mem_map_of_mem hp)
theorem V2{α : Type}{r:Option α -> Tr}(h0:r none=.non)(h1:∀a,eqT (r (some a)) .non=false)(h2:∀a,dep (r (some a))<=40)(P:List (Option α)):bT id .non (.lst (P.map r))=.ok (.bl (P.any Option.isNone),false):=by
 have d:deps (P.map r)<=40:=Fx λt ht=>by
  obtain⟨a,_,rfl⟩:=List.mem_map.mp ht
  cases a with
  |none=>rw[h0,jz]; omega
  |some a=>exact h2 a
 have i:su .non (P.map r)=P.any Option.isNone:=by
  unfold su
  rw[List.any_map]
  congr 1
  funext a
  cases a with
  |none=>show eqT (r none) .non=_; rw[h0]; rfl
  |some a=>exact h1 a
 unfold bT
 dsimp only
 rw[if_pos ⟨d,by rw[jz]; omega⟩,i]
 rfl
def qY:List (Option Nat)->Option (Int × Int)
 | [a]=>lC a
 | [a,b]=>jg a b
 |_=>none
theorem afD(l:List (List Nat)):xU l=qY (l.map dD):=by
 match l with
 | []=>rfl
 | [a]=>rfl
 | [a,b]=>rfl
 |a::b::c::r=>rfl
def FJ:EF:=cM [none] (cQ (eH dR (aj 0) (eC (.str "/")))) (gN 0) cU (bB xg (ak (aj 0) au))
theorem afE(z:Str)(s:Sl)(hz:z.length<=50000):FJ [.sh (.str z),s]=.ok (.v (.lst (((spl 47 z.cps.toList).map dD).map oT)) true,[.sh (.str z),s]):=by
 obtain⟨h1,h2,h3⟩:=qX z 47 hz
 rw[<-slash]at h1 h2 h3
 have e:=xO z 47
 rw[<-slash]at e
 rw[<-e,List.map_map,List.map_map]
 refine pZ (r:=.str) (by omega) ?_ rfl (λ_=>rfl) (λ_=>rfl) λw hw=>⟨false,?_⟩
 ·generalize (Txt.split z "/").map Tr.str=L at *
  generalize dR=G at *
  simp -dsimp[dr,h1,dW]
 ·have n:=afv w (by have:=h3 w hw; omega)
  rw[Ng]at n
  generalize xg=F at *
  simp -dsimp[dr,drs,aX,n]
theorem afF{z:Str}{P:List (Option Nat)}(hP:P≠[])(hc:FJ [.sh (.str z),.un]=.ok (.v (.lst (P.map oT)) true,[.sh (.str z),.un])):oR [.str z]=.ok (fO (qY P),false):=by
 have ni:=V2 (r:=oT) rfl (λa=>rfl) (λa=>by show dep (.int a)<=40; rw[dN]; omega) P
 show aM 2 (aC (aV FJ (gN 1)) (aC (bw (dz (aK (ao (bT id) (eC .non) (aj 1))) (aK (ao cN (bh (g1 aL) (ak (aj 1) au)) (eC (.int 2))))) (aG (eC .non)) bx) (aC (bw (aK (ao aH (bh (g1 aL) (ak (aj 1) au)) (eC (.int 1)))) (aG (gj (ak (ao aB (aj 1) (eC (.int 0))) (ak (eC (.int 1)) au)))) bx) (aC (bw (dz (aK (ao bV (ao aB (aj 1) (eC (.int 1))) (eC (.int 2)))) (aK (ao bF (bB tG (ak (ao aB (aj 1) (eC (.int 0))) (ak (ao aB (aj 1) (eC (.int 1))) au))) (eC (.int 1))))) (aG (eC .non)) bx) (aG (gj (ak (ao aB (aj 1) (eC (.int 0))) (ak (ao aB (aj 1) (eC (.int 1))) au)))))))) [.str z]=_
 have el:aL (.lst (P.map oT))=.ok (.int (P.length:Nat),false):=by
  show Rs.ok (Tr.int ((P.map oT).length:Nat),false)=_
  rw[List.length_map]
 generalize FJ=C at *
 match P with
 | []=>exact absurd rfl hP
 | [none] =>
  generalize bT id=G at *
  simp -dsimp[oT]at ni hc el
  simp -dsimp[aM,aW,dr,bL,aP,hc,ni,qY,lC,fO]
 | [some p] =>
  generalize bT id=G at *
  simp -dsimp[oT]at ni hc
  simp -dsimp[aM,aW,dr,drs,cls,bL,g1,aL,cN,gB,aH,aB,cX,dY,dN,eO,aP,hc,ni,qY,lC,fO,fT]
 | [none,y] =>
  generalize bT id=G at *
  simp -dsimp[oT]at ni hc el
  have f:jg none y=none:=by cases y <;> rfl
  simp -dsimp[aM,aW,dr,bL,aP,hc,ni,qY,f,fO]
 | [some x,none] =>
  generalize bT id=G at *
  simp -dsimp[oT]at ni hc el
  simp -dsimp[aM,aW,dr,bL,aP,hc,ni,qY,jg,fO]
 | [some p,some q] =>
  have sh:=M9 p q
  rw[Int.gcd_natCast_natCast]at sh
  generalize bT id=G,tG=S at *
  simp -dsimp[oT]at ni hc
  have i1:aB (.lst [.int p,.int q]) (.int 1)=.ok (.int q,false):=rfl
  have i0:aB (.lst [.int p,.int q]) (.int 0)=.ok (.int p,false):=rfl
  by_cases h1:2<=q
  ·have h1':¬(q:Int)<2:=by omega
   by_cases h2:Nat.gcd p q=1
   ·have h2':bF (.int 1) (.int 1)=.ok (.bl false,false):=rfl
    simp -dsimp[aM,aW,dr,drs,cls,bL,g1,aL,cN,bV,gB,aH,i0,i1,aX,dN,eO,aP,hc,ni,sh,qY,jg,fO,fT,h1,h2,h1',h2']
   ·have h2':bF (.int (Nat.gcd p q:Nat)) (.int 1)=.ok (.bl true,false):=by
     show Rs.ok (Tr.bl (!(((Nat.gcd p q:Nat):Int) == 1)),false)=_
     have:(((Nat.gcd p q:Nat):Int) == 1)=false:=by
      rw[beq_eq_false_iff_ne]; omega
     rw[this]; rfl
    simp -dsimp[aM,aW,dr,drs,cls,bL,g1,aL,cN,bV,gB,aH,i0,i1,aX,dN,eO,aP,hc,ni,sh,qY,jg,fO,fT,h1,h2,h1',h2']
  ·have h1':(q:Int)<2:=by omega
   simp -dsimp[aM,aW,dr,drs,cls,bL,g1,aL,cN,bV,gB,aH,i0,i1,aX,dN,eO,aP,hc,ni,sh,qY,jg,fO,fT,h1,h1']
 |a::b::c::r =>
  have l3:(2:Int)<((a::b::c::r).length:Nat):=by simp only[List.length_cons]; omega
  show _=Rs.ok (Tr.non,false)
  generalize aL=Z,bT id=G,Tr.lst ((a::b::c::r).map oT)=L,(a::b::c::r).any Option.isNone=t,((a::b::c::r).length:Nat)=n at *
  cases t <;> simp -dsimp[aM,aW,dr,drs,bL,g1,cN,gB,aP,hc,ni,el,l3]
theorem V3(z:Str)(hz:z.length<=50000):oR [.str z]=.ok (fO (jA z.cps.toList),false):=by
 unfold jA
 rw[afD]
 exact afF (λh=>vh 47 _ (List.map_eq_nil_iff.mp h)) (afE z .un hz)
end K70
end
section
namespace BH
open PySem L2
def Fq(M:Nat)(x:Int × Int):Prop:=0<=x.1/\x.1<2 ^ M/\1<=x.2/\x.2<2 ^ M/\Int.gcd x.1 x.2=1
end BH
end
section
namespace BH
open PySem L2
def ov(t x:Int × Int):Bool:=RT t x
end BH
end
section
namespace BH
open PySem L2
inductive Ru where
 |sh (ws:List (Int × Int))|mid (k:Nat)|least|greatest|product
def xV:Ru->Tr
 |.sh ws=>.tup [.str "shares",bD ws]
 |.mid k=>.tup [.str "middle",.int k]
 |.least=>.tup [.str "least"]
 |.greatest=>.tup [.str "greatest"]
 |.product=>.tup [.str "product"]
def alB(n:Nat):Ru->Prop
 |.sh ws=>ws.length=n/\∀w∈ws,Fq 45 w
 |.mid k=>1<=k/\k<=n
 |_=>True
theorem sEq(a:Str):aH (.str a) (.str a)=.ok (.bl true,false):=M6 (T:=.str a) (by rw[d8]; omega)
theorem sNe{a b:Str}(h:(a == b)=false):aH (.str a) (.str b)=.ok (.bl false,false):=by
 unfold aH
 rw[if_pos ⟨by rw[d8]; omega,by rw[d8]; omega⟩,jf,h]
theorem afG{α : Type}{r : α -> Tr}{xs:List α}{ρ τ : En}{rest:List (Option Nat)}{i:IF}{fe:EF}(hl:xs.length<=100000)(hi:i ρ=.ok (xs.map r,ρ))(hτ : cG rest ρ = τ)(hs:∀s',cZ (none::rest) (s'::τ) ρ = true)(hd:∀s',bW (none::rest) (s'::τ) ρ = ρ)
  (hf:∀x∈xs,∃fr,fe (.sh (r x)::τ)=.ok (.v (.bl true) fr,.sh (r x)::τ)):bh (g1 dI) (ak (cM (none::rest) i (gN 0) cU fe) au) ρ=.ok (.v (.bl true) false,ρ):=by
 have e:=pZ (h:=λx=>.bl ((λ_ : α=>true) x)) hl hi hτ hs hd hf
 have eg:dI (.lst (xs.map λx=>.bl ((λ_ : α=>true) x)))=.ok (.bl true,false):=by
  unfold dI
  simp only[VB]
  rw[show(xs.map λ_=>true).all id=true by simp]
 generalize cM _ _ _ _ _=G at e ⊢
 generalize Tr.lst (xs.map λx=>.bl ((λ_ : α=>true) x))=T at e eg
 simp[e,eg,drs,dr,g1]
def Nj:EF:=(j6 (bB nP (ak (aj 0) au)) (ao fW (ao aB (aj 0) (eC (.int 0))) (eC (.int 0))))
theorem afH{T:Tr}(h:T=.tup [.str "least"]∨T=.tup [.str "greatest"]∨T=.tup [.str "product"]):bT id T (.tup [(.tup [(.str "least")]),(.tup [(.str "greatest")]),(.tup [(.str "product")])])=.ok (.bl true,false):=by
 rcases h with rfl|rfl|rfl <;> kernel_rfl
end BH
end
section
namespace L2
open PySem
@[simp] theorem alC(d:Str)(fa:EF)(ρ : En):jO d fa ρ = bd (fa ρ) (λp=>bd (dr p.2 p.1) (λa=>match Dr a d with
 |some b=>.ok (eB b,p.2)
 |none=>.bad) .mk) .mk:=rfl
@[simp] theorem alD(fa:EF)(ρ : En):J2 fa ρ = bd (fa ρ) (λp=>bd (dr p.2 p.1) (λa=>match Ds a with
 |some b=>.ok (eB b,p.2)
 |none=>.bad) .mk) .mk:=rfl
@[simp] theorem alE(c:Str)(f:EF)(ρ : En):sS c f ρ = bd (f ρ) (λ_=>.ex c) .mk:=rfl
theorem afI{cs:List Str}{j:Nat}{fb fh:SF}{ρ : En}{q:Fl × En}(h:fb ρ=.ok q):pG cs j fb fh ρ=.ok q:=by
 unfold pG
 rw[h]
theorem afJ{cs:List Str}{j:Nat}{fb fh:SF}{ρ : En}{c:Str}(h:fb ρ=.ex c)(hc:c∈cs):pG cs j fb fh ρ = bd (bU (fh (ρ.set j (.sh (.cF c))))) (λq=>.ok (q.1,q.2.set j .un)) .mk:=by
 unfold pG
 rw[h]
 exact if_pos hc
end L2
namespace BH
open PySem L2
end BH
end
section
namespace BH
open PySem L2
theorem FN(L:List Tr)(k:Nat):jC none (some (k:Int)) (.lst L)=.ok (.lst (L.take k),true):=by
 show Rs.ok (Tr.lst (L2.cut L none (some (k:Int))),true)=_
 rw[afm]
theorem xW(L:List Tr)(k:Nat):jC (some (k:Int)) none (.lst L)=.ok (.lst (L.drop k),true):=by
 show Rs.ok (Tr.lst (L2.cut L (some (k:Int)) none),true)=_
 rw[afl]
theorem FQ{A B:List Tr}(h:A.length+B.length<=100000):aO (.lst A) (.lst B)=.ok (.lst (A++B),true):=by
 show(if A.length+B.length<=100000 then Rs.ok (Tr.lst (A++B),true)else .bad)=_
 rw[if_pos h]
end BH
end
section
namespace K70
open PySem L2 BH PySem.NumText
def Rd(x:Int × Int):Prop:=0<=x.1/\1<=x.2/\Int.gcd x.1 x.2=1
theorem V4{l:List Nat}{x:Int × Int}(h:jA l=some x):Rd x:=by
 unfold jA at h
 match e:spl 47 l with
 | []=>rw[e]at h; cases h
 | [a] =>
  rw[e]at h
  dsimp only[xU]at h
  cases q:dD a with
  |none=>rw[q]at h; cases h
  |some p=>rw[q]at h; cases h; exact⟨by show(0:Int)<=p; omega,by show(1:Int)<=1; omega,Int.gcd_one_right _⟩
 | [a,b] =>
  rw[e]at h
  dsimp only[xU]at h
  cases q:dD a with
  |none=>rw[q]at h; cases dD b <;> cases h
  |some p =>
   rw[q]at h
   cases q2:dD b with
   |none=>rw[q2]at h; cases h
   |some r =>
    rw[q2]at h
    dsimp only[jg]at h
    split at h
    ·rename_i c
     cases h
     exact⟨by show(0:Int)<=p; omega,by show(1:Int)<=r; omega,by show Int.gcd p r=1; rw[Int.gcd_natCast_natCast]; exact c.2⟩
    ·cases h
 |a::b::c::r=>rw[e]at h; cases h
theorem afK(x:Option (Int × Int)):dep (fO x)<=1:=by
 cases x with
 |none=>show dep .non<=1; rw[jz]; omega
 |some x=>show dep (fT x)<=1; rw[Av]; omega
theorem Ay(P:List (Option (Int × Int))):bT id .non (.lst (P.map fO))=.ok (.bl (P.any Option.isNone),false):=V2 rfl (λa=>rfl) (λa=>by have:=afK (some a); omega) P
def fZ(P:List (Option (Int × Int))):Tr:=if P=[]\/P.any Option.isNone=true then .non else .lst (P.map fO)
def cg(w:Str):Option (Int × Int):=jA w.cps.toList
def Nk:EF:=cM [none,some 1] (cQ (aj 0)) (gN 0) cU (bB tE (ak (aj 0) (ak (aj 1) au)))
theorem V5{ws:List Str}(h1:ws.length<=60000)(h2:∀w∈ws,w.length<=50000):pK [.lst (ws.map .str),.int 40]=.ok (fZ (ws.map cg),false):=by
 have e:Nk [.sh (.lst (ws.map .str)),.sh (.int 40),.un]=.ok (.v (.lst (ws.map λw=>fO (cg w))) true,[.sh (.lst (ws.map .str)),.sh (.int 40),.un]):=by
  refine pZ (r:=.str) (by omega) ?_ rfl (λ_=>rfl) (λ_=>rfl) λw hw=>⟨false,?_⟩
  ·generalize ws.map Tr.str=L
   simp -dsimp[dW]
  ·have n:=afC w (by have:=h2 w hw; omega)
   show _=Rs.ok (Rv.v (fO (jA w.cps.toList)) false,_)
   generalize fO (jA w.cps.toList)=T,tE=F at *
   simp -dsimp[cG,eN,dr,drs,aX,n]
 have ni:=Ay (ws.map cg)
 have em:(ws.map λw=>fO (cg w))=(ws.map cg).map fO:=by rw[List.map_map]; rfl
 rw[em]at e
 generalize ws.map cg=P at *
 have tl:cL (.lst (P.map fO))=.ok (!P.isEmpty):=by
  show Rs.ok (!(P.map fO).isEmpty)=_
  cases P <;> rfl
 show aM 3 (aC (aV Nk (gN 2)) (aG (nH (dz (dh (cR (aj 2))) (aK (ao (bT id) (eC .non) (aj 2)))) (eC .non) (aj 2)))) _=_
 have hr:fZ P=if(P.isEmpty || P.any Option.isNone)=true then .non else .lst (P.map fO):=by
  unfold fZ
  cases P <;> simp
 rw[hr]
 generalize Tr.lst (P.map fO)=M,P.any Option.isNone=b,P.isEmpty=a,ws.map Tr.str=L,bT id=G,Nk=C at *
 cases a <;> cases b <;> simp -dsimp[aM,aW,dr,aP,e,tl,ni]
theorem blank:(" " : Str)=⟨#[32]⟩:=by decide +kernel
theorem feed:("\n" : Str)=⟨#[10]⟩:=by decide +kernel
def p7(l:List Nat):List (Option (Int × Int)):=(spl 32 l).map jA
theorem afL(l:List Nat):p7 l≠[]:=λh=>vh 32 l (List.map_eq_nil_iff.mp h)
theorem Np(w:Str):(Txt.split w " ").map cg=p7 w.cps.toList:=by
 have:=xO w 32
 rw[<-blank]at this
 unfold p7
 rw[<-this,List.map_map]
 rfl
def Nq:EF:=cM [none] (cQ (eH dR (aj 0) (eC (.str "\n")))) (gN 0) cU (bB pK (ak (eH dR (aj 0) (eC (.str " "))) (ak (eC (.int 40)) au)))
def jR(l:List Nat):List (List (Option (Int × Int))):=(spl 10 l).map p7
theorem Nr(w:Str):(Txt.split w "\n").map (λw=>p7 w.cps.toList)=jR w.cps.toList:=by
 have:=xO w 10
 rw[<-feed]at this
 unfold jR
 rw[<-this,List.map_map]
 rfl
theorem afM(z:Str)(s:Sl)(hz:z.length<=50000):Nq [.sh (.str z),s]=.ok (.v (.lst ((jR z.cps.toList).map fZ)) true,[.sh (.str z),s]):=by
 obtain⟨h1,h2,h3⟩:=qX z 10 hz
 rw[<-feed]at h1 h2 h3
 rw[<-Nr,List.map_map]
 refine pZ (r:=.str) (by omega) ?_ rfl (λ_=>rfl) (λ_=>rfl) λw hw=>⟨false,?_⟩
 ·generalize (Txt.split z "\n").map Tr.str=L at *
  generalize dR=G at *
  simp -dsimp[dr,h1,dW]
 ·have hw2:=h3 w hw
  obtain⟨a1,a2,a3⟩:=qX w 32 (by omega)
  rw[<-blank]at a1 a2 a3
  have n:=V5 (ws:=Txt.split w " ") (by omega) λv hv=>by have:=a3 v hv; omega
  rw[Np]at n
  show _=Rs.ok (Rv.v (fZ (p7 w.cps.toList)) false,_)
  generalize fZ (p7 w.cps.toList)=T,dR=G,pK=F,(Txt.split w " ").map Tr.str=L at *
  simp -dsimp[cG,dr,drs,aX,a1,n]
theorem V6(z:Str):pH [.str z]=.ok (.non,false):=by
 unfold pH Uj
 simp -dsimp[aM,aW,dr,eB,dH,fY]
theorem afN(z:Str)(hz:z.length<=50000):pL [.str z]=if oW (.lst ((jR z.cps.toList).map fZ))=true then .ok (.lst ((jR z.cps.toList).map fZ),false)else .ex "NoText" := by
 have e1:=afM z .un hz
 have e2:=V6 z
 have e3:=Vt (.lst ((jR z.cps.toList).map fZ))
 show aM 2 (aC (uH (bB pH (ak (aj 0) au))) (aC (aV Nq (gN 1)) (aC (bw (dh (cR (bB qP (ak (aj 1) au)))) (sS "NoText" (eC (.str "this is no text of a book"))) bx) (aG (aj 1))))) _=_
 generalize Tr.lst ((jR z.cps.toList).map fZ)=T,pH=N,qP=B,Nq=C at *
 generalize oW T=b at *
 cases b <;> simp -dsimp[aM,aW,dr,drs,aX,fY,e1,e2,e3]
end K70
end
section
namespace K70
open PySem L2 BH PySem.NumText
def xX:Option (Int × Int)->Bool
 |some x=>decide (x.1<=x.2)
 |none=>true
def gR(n:Nat)(r:List (Option (Int × Int))):Bool:=(!(r.any Option.isNone)&&(r.length == n))&&r.all xX
def rT(r:List (Option (Int × Int))):Tr:=.lst (r.map fO)
def good(Q:List (List (Option (Int × Int)))):Bool:=(decide (Q.length<=4)&&decide ((Q.headD []).length<=12))&&Q.all (gR (Q.headD []).length)
theorem xY:∀{r:List (Option (Int × Int))},r.any Option.isNone=false->∃l:List (Int × Int),r=l.map some
 | [],_=>⟨[],rfl⟩
 |none::r,h=>by simp at h
 |some x::r,h=>by
  obtain⟨l,rfl⟩:=xY (r:=r) (by simpa using h)
  exact⟨x::l,rfl⟩
theorem Az(l:List (Int × Int)):rT (l.map some)=bD l:=by
 unfold rT bD
 rw[List.map_map]
 rfl
theorem Nt{r:List (Option (Int × Int))}(h:r≠[])(h2:r.any Option.isNone=false):fZ r=rT r:=if_neg λq=>q.elim h λq=>by rw[h2]at q; cases q
theorem afO{r:List (Option (Int × Int))}(h2:r.any Option.isNone=true):fZ r=.non:=if_pos (.inr h2)
theorem afP{x:Int × Int}(h:Rd x):m7 (fT x)=decide (x.1<=x.2):=by
 obtain⟨h1,h2,h3⟩:=h
 show(decide (0<=x.1)&&decide (x.1<=x.2)&&decide (1<=x.2)&&(Int.gcd x.1 x.2 == 1))=_
 rw[decide_eq_true h1,decide_eq_true h2,h3]
 simp
def FT(r:List (Option (Int × Int))):Prop:=r≠[]/\∀x,some x∈r->Rd x
theorem FW{r:List (Option (Int × Int))}(h:FT r):mz 12 (fZ r)=(!(r.any Option.isNone)&&decide (r.length<=12)&&r.all xX):=by
 cases e:r.any Option.isNone
 ·obtain⟨l,rfl⟩:=xY e
  rw[Nt h.1 e,Az]
  show(decide (1<=((l.map fT).length:Int))&&decide (((l.map fT).length:Int)<=12)&&(l.map fT).all m7)=_
  have n:1<=((l.map fT).length:Int):=by
   have:l≠[]:=λq=>h.1 (by rw[q]; rfl)
   have:=List.length_pos_iff.mpr this
   rw[List.length_map]
   omega
  rw[decide_eq_true n,List.all_map,List.all_map,List.length_map,List.length_map]
  have a:l.all (m7 ∘ fT)=l.all (xX ∘ some):=by
   rw[Bool.eq_iff_iff,List.all_eq_true,List.all_eq_true]
   refine forall_congr' λx=>forall_congr' λhx=>?_
   rw[show(m7 ∘ fT) x=(xX ∘ some) x from afP (h.2 x (List.mem_map_of_mem hx))]
  rw[a]
  have d:decide ((l.length:Int)<=12)=decide (l.length<=12):=by
   rw[Bool.eq_iff_iff,decide_eq_true_eq,decide_eq_true_eq]
   omega
  rw[d]
  rfl
 ·rw[afO e]
  rfl
theorem afQ:∀{Q:List (List (Option (Int × Int)))},Q≠[]->(∀r∈Q,FT r)->oW (.lst (Q.map fZ))=good Q
 | [],h,_=>absurd rfl h
 |r0::Q',_,hQ=>by
  generalize hq:r0::Q'=Q at *
  have hd:Q.headD []=r0:=by rw[<-hq]; rfl
  have hd2:(Q.map fZ).headD .non=fZ r0:=by rw[<-hq]; rfl
  have m0:r0∈Q:=by rw[<-hq]; simp
  have ln:1<=((Q.map fZ).length:Int):=by rw[<-hq]; simp only[List.map_cons,List.length_cons]; omega
  show(decide (1<=((Q.map fZ).length:Int))&&decide (((Q.map fZ).length:Int)<=4)&&(Q.map fZ).all (mz 12)&&(Q.map fZ).all λr=>oV r == oV ((Q.map fZ).headD .non))=_
  unfold good
  rw[hd,hd2,decide_eq_true ln,List.length_map,Bool.eq_iff_iff]
  simp only[Bool.true_and,Bool.and_eq_true,decide_eq_true_eq,List.all_eq_true,List.mem_map,forall_exists_index,and_imp,forall_apply_eq_imp_iff₂]
  have lw:∀r∈Q,mz 12 (fZ r)=true->oV (fZ r)=r.length:=λr hr h=>by
   rw[FW (hQ r hr)]at h
   simp only[Bool.and_eq_true,Bool.not_eq_true']at h
   rw[Nt (hQ r hr).1 h.1.1]
   show(((r.map fO).length:Nat):Int)=_
   rw[List.length_map]
  constructor
  ·rintro⟨⟨h1,h2⟩,h3⟩
   refine⟨⟨by omega,?_⟩,λr hr=>?_⟩
   ·have:=h2 r0 m0
    rw[FW (hQ r0 m0)]at this
    simp only[Bool.and_eq_true,decide_eq_true_eq]at this
    exact this.1.2
   ·have a:=h3 r hr
    rw[beq_iff_eq,lw r hr (h2 r hr),lw r0 m0 (h2 r0 m0)]at a
    have b:=h2 r hr
    rw[FW (hQ r hr)]at b
    simp only[Bool.and_eq_true,decide_eq_true_eq]at b
    unfold gR
    simp only[Bool.and_eq_true,beq_iff_eq]
    exact⟨⟨b.1.1,by omega⟩,b.2⟩
  ·rintro⟨⟨h1,h2⟩,h3⟩
   have w:∀r∈Q,mz 12 (fZ r)=true:=λr hr=>by
    have a:=h3 r hr
    unfold gR at a
    simp only[Bool.and_eq_true,beq_iff_eq]at a
    rw[FW (hQ r hr)]
    simp only[Bool.and_eq_true,decide_eq_true_eq]
    exact⟨⟨a.1.1,by omega⟩,a.2⟩
   refine⟨⟨by omega,w⟩,λr hr=>?_⟩
   have a:=h3 r hr
   unfold gR at a
   simp only[Bool.and_eq_true,beq_iff_eq]at a
   rw[beq_iff_eq,lw r hr (w r hr),lw r0 m0 (w r0 m0)]
   omega
theorem afR{Q:List (List (Option (Int × Int)))}(hQ:∀r∈Q,FT r)(h:good Q=true):∃ls:List (List (Int × Int)),Q=ls.map λl=>l.map some:=by
 unfold good at h
 simp only[Bool.and_eq_true,List.all_eq_true]at h
 replace h:=h.2
 generalize (Q.headD []).length=n at h
 induction Q with
 |nil=>exact⟨[],rfl⟩
 |cons r Q ih =>
  obtain⟨ls,rfl⟩:=ih (λr hr=>hQ r (by simp[hr])) λr hr=>h r (by simp[hr])
  have a:=h r (by simp)
  unfold gR at a
  simp only[Bool.and_eq_true,Bool.not_eq_true']at a
  obtain⟨l,rfl⟩:=xY a.1.1
  exact⟨l::ls,rfl⟩
theorem V7(l:List Nat):jR l≠[]/\∀r∈jR l,FT r:=by
 refine⟨λh=>vh 10 l (List.map_eq_nil_iff.mp h),λr hr=>?_⟩
 obtain⟨w,_,rfl⟩:=List.mem_map.mp hr
 refine⟨afL w,λx hx=>?_⟩
 obtain⟨v,_,e⟩:=List.mem_map.mp hx
 exact V4 e
end K70
end
section
namespace K70
open PySem L2 BH PySem.NumText
def V8:EF:=cM [none] (cQ (eH dR (aj 0) (eC (.str " ")))) (gN 0) cU (bB oR (ak (aj 0) au))
def Nu:EF:=cM [none] (cQ (eH dR (aj 0) (eC (.str "\n")))) (gN 0) cU V8
theorem afS(z:Str)(τ : En)(hz:z.length<=50000):V8 (.sh (.str z)::τ)=.ok (.v (rT (p7 z.cps.toList)) true,.sh (.str z)::τ):=by
 obtain⟨h1,h2,h3⟩:=qX z 32 hz
 rw[<-blank]at h1 h2 h3
 rw[<-Np]
 unfold rT
 rw[List.map_map]
 refine pZ (r:=.str) (by omega) ?_ rfl (λ_=>rfl) (λ_=>rfl) λw hw=>⟨false,?_⟩
 ·generalize (Txt.split z " ").map Tr.str=L at *
  generalize dR=G at *
  simp -dsimp[dr,h1,dW]
 ·have n:=V3 w (by have:=h3 w hw; omega)
  show _=Rs.ok (Rv.v (fO (jA w.cps.toList)) false,_)
  generalize fO (jA w.cps.toList)=T,oR=F at *
  simp -dsimp[cG,dr,drs,aX,n]
theorem afT(z:Str)(τ : En)(hz:z.length<=50000):Nu (.sh (.str z)::τ)=.ok (.v (.lst ((jR z.cps.toList).map rT)) true,.sh (.str z)::τ):=by
 obtain⟨h1,h2,h3⟩:=qX z 10 hz
 rw[<-feed]at h1 h2 h3
 rw[<-Nr,List.map_map]
 refine pZ (r:=.str) (by omega) ?_ rfl (λ_=>rfl) (λ_=>rfl) λw hw=>⟨true,?_⟩
 ·generalize (Txt.split z "\n").map Tr.str=L at *
  generalize dR=G at *
  simp -dsimp[dr,h1,dW]
 ·exact afS w _ (by have:=h3 w hw; omega)
theorem afU{L:List Tr}(h:deps L<=30):bF (.lst L) (.lst [])=.ok (.bl (!L.isEmpty),false):=by
 cases L with
 |nil=>rfl
 |cons t r =>
  unfold bF
  rw[if_pos ⟨by rw[jo]; omega,by decide⟩]
  rfl
theorem afV(l:List (Int × Int)):deps (l.map fT)<=1:=Fx λt ht=>by
 obtain⟨x,_,rfl⟩:=List.mem_map.mp ht
 rw[Av]; omega
def Nv:EF:=cM [none] (cQ (aj 2)) (gN 0) (aK (ao cN (ao aB (aj 0) (eC (.int 0))) (ao aB (aj 0) (eC (.int 1))))) (aj 0)
theorem afW(s0 s1:Sl)(l:List (Int × Int))(hl:l.length<=60000):Nv [s0,s1,.sh (bD l)]=.ok (.v (.lst ((l.filter λx=>decide (x.2<x.1)).map fT)) true,[s0,s1,.sh (bD l)]):=by
 refine VD (r:=fT) (by omega) rfl rfl (λ_=>rfl) (λ_=>rfl) λx _=>?_
 have i0:aB (fT x) (.int 0)=.ok (.int x.1,false):=rfl
 have i1:aB (fT x) (.int 1)=.ok (.int x.2,false):=rfl
 have g:cN (.int x.1) (.int x.2)=.ok (.bl (decide (x.2<x.1)),false):=rfl
 generalize cN=G,x.2=q,x.1=p,fT x=T,decide (x.2<x.1)=b at *
 simp -dsimp[cG,dr,aP,i0,i1,g]
def Ba:BF:=dz (aK (ao (bT id) (eC .non) (aj 2))) (aK (ao bF (bh (g1 aL) (ak (aj 2) au)) (bh (g1 aL) (ak (ao aB (aj 1) (eC (.int 0))) au))))
def xZ:SF:=aC (bw Ba (aG (eC .non)) bx) (bw (aK (ao bF Nv (dX au))) (aG (eC .non)) bx)
theorem Bb(r:List (Option (Int × Int))):aL (rT r)=.ok (.int (r.length:Nat),false):=by
 show Rs.ok (Tr.int ((r.map fO).length:Nat),false)=_
 rw[List.length_map]
theorem V9(a b:Nat):bF (.int a) (.int b)=.ok (.bl (!(a == b)),false):=by
 show Rs.ok (Tr.bl (!((a:Int) == (b:Int))),false)=_
 congr 4
 rw[Bool.eq_iff_iff,beq_iff_eq,beq_iff_eq]
 omega
theorem afX(s0:Sl){B:Tr}{r0 r:List (Option (Int × Int))}(h0:aB B (.int 0)=.ok (rT r0,false)):Ba [s0,.sh B,.sh (rT r)]=.ok (r.any Option.isNone || !(r.length == r0.length),[s0,.sh B,.sh (rT r)]):=by
 have ni:bT id .non (rT r)=_:=Ay r
 have l1:=Bb r
 have l0:=Bb r0
 have ne:=V9 r.length r0.length
 unfold Ba
 generalize bF=N,aB=I,aL=L,bT id=G,rT r0=R0,rT r=R,r0.length=m,r.length=n,(r.length == r0.length)=b,r.any Option.isNone=a at *
 cases a <;> simp -dsimp[dr,drs,g1,aP,ni,l1,l0,ne,h0]
theorem afY(s0:Sl){B:Tr}{r0 r:List (Option (Int × Int))}(h0:aB B (.int 0)=.ok (rT r0,false))(hl:r.length<=60000):xZ [s0,.sh B,.sh (rT r)]=.ok (if gR r0.length r=true then .nx else .rt .non false,[s0,.sh B,.sh (rT r)]):=by
 have a:=afX s0 (r:=r) h0
 unfold xZ gR
 cases e:r.any Option.isNone
 ·obtain⟨l,rfl⟩:=xY e
  have f:=afW s0 (.sh B) l (by simpa using hl)
  rw[<-Az]at f
  have n:=afU (L:=(l.filter λx=>decide (x.2<x.1)).map fT) (by have:=afV (l.filter λx=>decide (x.2<x.1)); omega)
  have q:(!((l.filter λx=>decide (x.2<x.1)).map fT).isEmpty) = !((l.map some).all xX):=by
   congr 1
   rw[List.all_map,Bool.eq_iff_iff,List.isEmpty_iff,List.map_eq_nil_iff,List.filter_eq_nil_iff,List.all_eq_true]
   refine forall_congr' λx=>forall_congr' λ_=>?_
   show ¬decide (x.2<x.1)=true↔decide (x.1<=x.2)=true
   rw[decide_eq_true_eq,decide_eq_true_eq]
   omega
  rw[q]at n
  rw[e]at a
  generalize bF=N,Nv=F,Ba=A,rT (l.map some)=R,(l.map some).all xX=v,((l.map some).length == r0.length)=u,Tr.lst ((l.filter λx=>decide (x.2<x.1)).map fT)=M at *
  cases u <;> cases v <;> simp -dsimp[dr,drs,cls,bL,aP,a,f,n]
 ·rw[e]at a
  generalize rT r=R,Ba=A at *
  simp -dsimp[dr,bL,aP,a]
theorem Wa(s0:Sl){B:Tr}{r0:List (Option (Int × Int))}(h0:aB B (.int 0)=.ok (rT r0,false)):∀(Q:List (List (Option (Int × Int)))) (s:Sl),(∀r∈Q,r.length<=60000)->∃s',iV (gN 2) xZ (Q.map rT) [s0,.sh B,s]=.ok (if Q.all (gR r0.length)=true then .nx else .rt .non false,[s0,.sh B,s'])
 | [],s,_=>⟨s,rfl⟩
 |r::Q,s,h=>by
  have e:=afY s0 (r:=r) h0 (h r (by simp))
  obtain⟨s',e'⟩:=Wa s0 h0 Q (.sh (rT r)) λr hr=>h r (by simp[hr])
  cases g:gR r0.length r
  ·rw[g]at e
   refine⟨.sh (rT r),?_⟩
   rw[List.all_cons,g,List.map_cons]
   generalize xZ=F,rT r=R at *
   unfold iV
   simp -dsimp[e]
  ·rw[g]at e
   refine⟨s',?_⟩
   rw[List.all_cons,g,List.map_cons,Bool.true_and]
   generalize rT r=R at *
   exact tU e e'
end K70
end
section
namespace K70
open PySem L2 BH PySem.NumText
theorem afZ(l:List Nat)(hl:l.length<=50000):∀r∈jR l,r.length<=60000:=λr hr=>by
 obtain⟨w,hw,rfl⟩:=List.mem_map.mp hr
 have:=Ni 10 l w hw
 have:=Nh 32 w
 unfold p7
 rw[List.length_map]
 omega
theorem Wb(a b:Nat):cN (.int a) (.int b)=.ok (.bl (!decide (a<=b)),false):=by
 show Rs.ok (Tr.bl (decide ((b:Int)<a)),false)=_
 congr 3
 rw[Bool.eq_iff_iff,Bool.not_eq_true',decide_eq_true_eq,decide_eq_false_iff_not]
 omega
theorem af0(z:Str)(hz:z.length<=50000):tK [.str z]=.ok (if good (jR z.cps.toList)=true then .lst ((jR z.cps.toList).map rT)else .non,false):=by
 have e1:=afT z [.un,.un] hz
 have hQ:=afZ z.cps.toList (by rw[<-vm]; exact hz)
 have hn:=(V7 z.cps.toList).1
 generalize jR z.cps.toList=Q at *
 obtain⟨r0,Q',rfl⟩:=List.exists_cons_of_ne_nil hn
 have h0:aB (.lst ((r0::Q').map rT)) (.int 0)=.ok (rT r0,false):=pX (xs:=(r0::Q').map rT) (i:=0) rfl
 have hd:(r0::Q').headD []=r0:=rfl
 have l1:aL (.lst ((r0::Q').map rT))=.ok (.int ((r0::Q').length:Nat),false):=by
  show Rs.ok (Tr.int (((r0::Q').map rT).length:Nat),false)=_
  rw[List.length_map]
 have l0:=Bb r0
 obtain⟨s',e2⟩:=Wa (.sh (.str z)) h0 (r0::Q') .un hQ
 generalize r0::Q'=Q at *
 have fs:∀s,cQ (aj 1) [.sh (.str z),.sh (.lst (Q.map rT)),s]=.ok (Q.map rT,[.sh (.str z),.sh (.lst (Q.map rT)),s]):=λs=>rfl
 unfold good
 rw[hd]
 have vo:=Wb Q.length 4
 have g0':=Wb r0.length 12
 show aM 3 (aC (aV Nu (gN 1)) (aC (bw (dz (aK (ao cN (bh (g1 aL) (ak (aj 1) au)) (eC (.int (4:Nat))))) (aK (ao cN (bh (g1 aL) (ak (ao aB (aj 1) (eC (.int 0))) au)) (eC (.int (12:Nat)))))) (aG (eC .non)) bx) (aC (gk (iw (cQ (aj 1)) (gN 2) xZ)) (aG (aj 1))))) _=_
 generalize ((12:Nat):Int)=alF,((4:Nat):Int)=four,aB=GI,cN=GG,aL=GL,Nu=C,xZ=B,rT r0=R,Q.map rT=L,Tr.lst (Q.map rT)=T,r0.length=n0,Q.length=n1,cQ (aj 1)=S,Q.all (gR r0.length)=c,decide (r0.length<=12)=b,decide (Q.length<=4)=a at *
 cases a <;> cases b <;> cases c <;> simp -dsimp[aM,aW,bU,dr,drs,g1,aP,e1,l1,l0,h0,vo,g0',fs,e2]
end K70
end
section
namespace K70
open PySem L2 BH PySem.NumText
theorem af2(s:Str)(l:List Str):Txt.join s l=Str.join s l:=eq_of_beq (PyProof.Rows.join_closes rfl)
def nS(p:Int):Str:=toString p
theorem af3:∀(n:Nat) (l:List Nat),l.length=n->AllDigits l->digitsVal l<10 ^ n:=by
 intro n
 induction n with
 |zero=>intro l e _; rw[List.length_eq_zero_iff.mp e]; decide
 |succ n ih =>
  intro l e hd
  have h:l≠[]:=λq=>by rw[q]at e; cases e
  obtain⟨i,c,rfl⟩:∃i c,l=i++[c]:=⟨l.dropLast,l.getLast h,(List.dropLast_concat_getLast h).symm⟩
  have hc:=hd c (by simp)
  have:=ih i (by simpa using e) λd k=>hd d (by simp[k])
  rw[digitsVal_snoc,Nat.pow_succ]
  omega
theorem Ga{a:List Nat}{p:Nat}(h:dD a=some p):(nS p).cps.toList=a/\p<10 ^ 40:=by
 unfold dD at h
 split at h
 ·rename_i q
  obtain⟨q1,q2,q3,q4⟩:=q
  cases h
  have hd:AllDigits a:=λc hc=>by
   have:=q2 c hc
   unfold gO at this
   simpa using this
  refine⟨?_,Nat.lt_of_lt_of_le (af3 _ a rfl hd) (Nat.pow_le_pow_right (by decide) q3)⟩
  show(Str.ofString (toString ((digitsVal a:Nat):Int))).cps.toList=a
  rw[W.KIN.signs_num]
  refine ae8 _ a rfl q1 hd λc r e n k=>?_
  rcases q4 with q4|q4
  ·rw[e]at q4; cases q4; exact n rfl
  ·exact q4 (by rw[e,k]; rfl)
 ·cases h
theorem Wc{p:Int}(h0:0<=p)(h:p<10 ^ 40):p.natAbs.log2<1920:=by
 rcases Nat.eq_zero_or_pos p.natAbs with e|e
 ·rw[e]; decide
 ·exact Nat.lt_of_lt_of_le ((Nat.log2_lt (by omega)).mpr (show p.natAbs<2 ^ 140 by omega)) (by decide)
theorem Gb{p:Int}(h0:0<=p)(h:p<10 ^ 40):jD (.int p)=.ok (.str (nS p),false):=by
 unfold jD
 rw[if_pos ⟨by unfold jJ; exact decide_eq_true (Wc h0 h),by unfold blk; omega,by rw[dN]; omega⟩]
 rfl
theorem Nx{p:Int}(h0:0<=p)(h:p<10 ^ 40):lq (.int p)=.ok (.str (nS p),false):=if_pos (Wc h0 h)
theorem tX{p:Int}(h0:0<=p)(h:p<10 ^ 40):(nS p).length<=40:=PyProof.Rows.toString_length_le h0 (by decide) h
def Rb(x:Int × Int):Prop:=0<=x.1/\x.1<10 ^ 40/\1<=x.2/\x.2<10 ^ 40
def jT(x:Int × Int):Str:=if x.2=1 then nS x.1 else nS x.1 ++ "/" ++ nS x.2
theorem len_app(a b:Str):(a++b).length=a.length+b.length:=by
 show(a++b).cps.size=a.cps.size+b.cps.size
 rw[Str.cps_append,Array.size_append]
theorem Ny{x:Int × Int}(h:Rb x):(jT x).length<=81:=by
 obtain⟨h1,h2,h3,h4⟩:=h
 have a:=tX h1 h2
 have b:=tX (p:=x.2) (by omega) h4
 have c:("/" : Str).length=1:=by decide +kernel
 unfold jT
 split
 ·omega
 ·rw[len_app,len_app]; omega
@[simp] theorem alG(acc:Str)(ρ : En):pJ [] acc ρ = if acc.length<=100000 then .ok (.v (.str acc) false,ρ)else .bad:=rfl
@[simp] theorem alH(f:EF)(r:List EF)(acc:Str)(ρ : En):pJ (f::r) acc ρ = bd (f ρ) (λp=>bd (dr p.2 p.1) (λa=>bd (strOf a) (λy=>if(acc++y).length<=100000 then pJ r (acc++y) p.2 else .bad) .mk) .mk) .mk:=rfl
theorem empty_app(a:Str):Str.empty++a=a:=qU (by rw[Str.cps_append]; simp[Str.empty])
theorem af4{x:Int × Int}(h:Rb x):uZ [fT x]=.ok (.str (jT x),false):=by
 have ln:=Ny h
 obtain⟨h1,h2,h3,h4⟩:=h
 have a1:=Gb h1 h2
 have a2:=Nx h1 h2
 have a3:=Nx (p:=x.2) (by omega) h4
 have eq1:aH (.int x.2) (.int 1)=.ok (.bl (decide (x.2=1)),false):=rfl
 have l1:=tX h1 h2
 have l2:=tX (p:=x.2) (by omega) h4
 have c:("/" : Str).length=1:=by decide +kernel
 have q1:(Str.empty++nS x.1).length<=100000:=by rw[empty_app]; omega
 have q2:(nS x.1 ++ "/" : Str).length<=100000:=by rw[len_app]; omega
 have q3:(nS x.1 ++ "/" ++ nS x.2:Str).length<=100000:=by rw[len_app,len_app]; omega
 unfold uZ Lp jT fT
 generalize aH=E,lq=F,jD=S at *
 by_cases k:x.2=1
 ·rw[decide_eq_true k]at eq1
  rw[if_pos k]
  generalize x.2=q,x.1=p,nS x.1=n1 at *
  simp -dsimp[aM,aW,dr,drs,aP,g1,eq1,a1]
 ·rw[decide_eq_false k]at eq1
  rw[if_neg k]
  generalize x.2=q,x.1=p,nS x.2=n2,nS x.1=n1 at *
  generalize hs:("/" : Str)=sl at *
  rw[empty_app]at q1
  simp -dsimp[aM,aW,dr,drs,aP,g1,eq1,a2,a3,empty_app,q1,q2,q3]
end K70
end
section
namespace K70
open PySem L2 BH PySem.NumText
theorem Gd(c:Nat):∀l:List Nat,mq c (spl c l)=l
 | []=>rfl
 |x::r=>by
  have ih:=Gd c r
  unfold spl
  split
  ·rename_i e
   cases q:spl c r with
   |nil=>exact absurd q (vh c r)
   |cons p s =>
    rw[q]at ih
    show []++c::mq c (p::s)=_
    rw[ih,e]; rfl
  ·cases q:spl c r with
   |nil=>exact absurd q (vh c r)
   |cons p s =>
    rw[q]at ih
    cases s with
    |nil=>show x::p=_; rw[show p=r from ih]
    |cons p' s' =>
     show(x::p)++c::mq c (p'::s')=_
     rw[List.cons_append,show p++c::mq c (p'::s')=r from ih]
theorem af5:("/" : Str).cps.toList=[47]:=by decide +kernel
theorem Wf{l:List Nat}{x:Int × Int}(h:jA l=some x):Rb x/\(jT x).cps.toList=l:=by
 have j:=Gd 47 l
 unfold jA at h
 match e:spl 47 l with
 | []=>rw[e]at h; cases h
 | [a] =>
  rw[e]at h j
  dsimp only[xU]at h
  cases q:dD a with
  |none=>rw[q]at h; cases h
  |some p =>
   rw[q]at h; cases h
   obtain⟨b1,b2⟩:=Ga q
   refine⟨⟨by show(0:Int)<=p; omega,by show(p:Int)<10 ^ 40; omega,by show(1:Int)<=1; omega,by show(1:Int)<10 ^ 40; omega⟩,?_⟩
   unfold jT
   rw[if_pos rfl]
   exact b1.trans j
 | [a,b] =>
  rw[e]at h j
  dsimp only[xU]at h
  cases q:dD a with
  |none=>rw[q]at h; cases dD b <;> cases h
  |some p =>
   rw[q]at h
   cases q2:dD b with
   |none=>rw[q2]at h; cases h
   |some r =>
    rw[q2]at h
    dsimp only[jg]at h
    split at h
    ·rename_i c
     cases h
     obtain⟨b1,b2⟩:=Ga q
     obtain⟨c1,c2⟩:=Ga q2
     refine⟨⟨by show(0:Int)<=p; omega,by show(p:Int)<10 ^ 40; omega,by show(1:Int)<=r; omega,by show(r:Int)<10 ^ 40; omega⟩,?_⟩
     unfold jT
     rw[if_neg (show ¬(r:Int)=1 by omega),Str.cps_append,Str.cps_append,Array.toList_append,Array.toList_append,af5]
     show((nS p).cps.toList++[47])++(nS r).cps.toList=_
     rw[b1,c1,<-j]
     simp[mq]
    ·cases h
 |a::b::c::r=>rw[e]at h; cases h
theorem af6{w:Str}{x:Int × Int}(h:cg w=some x):Rb x/\jT x=w:=⟨(Wf h).1,qU (Wf h).2⟩
theorem Nz:∀{ws:List Str} {l:List (Int × Int)},ws.map cg=l.map some->(∀x∈l,Rb x)/\l.map jT=ws
 | [],[],_=>⟨by simp,rfl⟩
 | [],_::_,h=>by cases h
 |_::_,[],h=>by cases h
 |w::ws,x::l,h=>by
  rw[List.map_cons,List.map_cons,List.cons.injEq]at h
  obtain⟨a,b⟩:=af6 h.1
  obtain⟨c,d⟩:=Nz h.2
  exact⟨λy hy=>(List.mem_cons.mp hy).elim (λe=>e▸a) (c y),by rw[List.map_cons,b,d]⟩
theorem Wg{s:Str}{ts:List Str}{M:Nat}(h:∀t∈ts,t.length<=M)(hs:s.length<=1)(hb:ts.length*(M+1)<=16777216):JoinOk s ts=true:=by
 refine PyProof.Rows.joinOk_of ?_
 have:(ts.map λx=>x.length).sum<=ts.length*M:=by
  clear hb
  induction ts with
  |nil=>simp
  |cons t r ih =>
   rw[List.map_cons,List.sum_cons,List.length_cons,Nat.succ_mul]
   have:=ih λt ht=>h t (by simp[ht])
   have:=h t (by simp)
   omega
 have:ts.length*s.length<=ts.length:=by
  have:=Nat.mul_le_mul_left ts.length hs
  omega
 rw[Nat.mul_add]at hb
 omega
theorem af7(l:List Str):strsOf (l.map Tr.str)=.ok l:=by
 induction l with
 |nil=>rfl
 |cons z r ih=>rw[List.map_cons]; unfold strsOf; rw[ih]; rfl
theorem Bc{s:Str}{ts:List Str}(h:JoinOk s ts=true):iK s (.lst (ts.map .str))=.ok (.str (Str.join s ts),false):=by
 dsimp only[iK]
 rw[af7,Rs.kW,if_pos h,af2]
def rS(l:List (Int × Int)):Str:=Str.join " " (l.map jT)
theorem Ge:(" " : Str).length<=1:=by decide +kernel
theorem Bd:("\n" : Str).length<=1:=by decide +kernel
theorem af8{l:List (Int × Int)}(h:∀x∈l,Rb x)(hl:l.length<=1000):JoinOk " " (l.map jT)=true:=Wg (M:=81) (λt ht=>by
 obtain⟨x,hx,rfl⟩:=List.mem_map.mp ht
 exact Ny (h x hx)) Ge (by rw[List.length_map]; omega)
theorem Wh(s:Str){M:Nat}(hs:s.length<=1):∀{ts:List Str},(∀t∈ts,t.length<=M)->(Str.join s ts).length<=ts.length*(M+1)
 | [],_=>by show(0:Nat)<=_; omega
 | [x],h=>by
  have:=h x (by simp)
  show x.length<=1*(M+1)
  omega
 |x::y::r,h=>by
  have a:=h x (by simp)
  have b:=Wh s hs (ts:=y::r) λt ht=>h t (List.mem_cons_of_mem _ ht)
  show(x++s++Str.join s (y::r)).length<=_
  rw[len_app,len_app,List.length_cons,Nat.succ_mul]
  omega
theorem Wi{l:List (Int × Int)}(h:∀x∈l,Rb x):(rS l).length<=l.length*82:=by
 have:=Wh " " (M:=81) Ge (ts:=l.map jT) (λt ht=>by
  obtain⟨x,hx,rfl⟩:=List.mem_map.mp ht
  exact Ny (h x hx))
 rw[List.length_map]at this
 exact this
def NK:EF:=cM [none] (cQ (aj 0)) (gN 0) cU (bB uZ (ak (aj 0) au))
theorem Wj{l:List (Int × Int)}(h:∀x∈l,Rb x)(hl:l.length<=1000):qT [bD l]=.ok (.str (rS l),false):=by
 have e:NK [.sh (bD l)]=.ok (.v (.lst ((l.map jT).map .str)) true,[.sh (bD l)]):=by
  rw[List.map_map]
  refine pZ (r:=fT) (by omega) rfl rfl (λ_=>rfl) (λ_=>rfl) λx hx=>⟨false,?_⟩
  have n:=af4 (h x hx)
  show _=Rs.ok (Rv.v (.str (jT x)) false,_)
  generalize fT x=T,uZ=F at *
  simp -dsimp[cG,dr,drs,aX,n]
 have j:=Bc (af8 h hl)
 show aM 1 (aG (eH iK (eC (.str " ")) NK)) _=Rs.ok (Tr.str (Str.join " " (l.map jT)),false)
 generalize bD l=T,iK=J,NK=C,(l.map jT).map Tr.str=L,Str.join " " (l.map jT)=S at *
 simp -dsimp[aM,aW,dr,e,j]
def NP:EF:=cM [none] (cQ (aj 0)) (gN 0) cU (bB qT (ak (aj 0) au))
theorem af9{ls:List (List (Int × Int))}(h:∀l∈ls,l.length<=12/\∀x∈l,Rb x)(hl:ls.length<=4)(hb:oW (eZ ls)=true):u5 [eZ ls]=.ok (.str (Str.join "\n" (ls.map rS)),false):=by
 have e:NP [.sh (eZ ls)]=.ok (.v (.lst ((ls.map rS).map .str)) true,[.sh (eZ ls)]):=by
  rw[List.map_map]
  refine pZ (r:=bD) (by omega) rfl rfl (λ_=>rfl) (λ_=>rfl) λl hl'=>⟨false,?_⟩
  have hh:=h l hl'
  have n:=Wj hh.2 (by omega)
  show _=Rs.ok (Rv.v (.str (rS l)) false,_)
  generalize bD l=T,qT=F at *
  simp -dsimp[cG,dr,drs,aX,n]
 have j:iK "\n" (.lst ((ls.map rS).map .str))=_:=Bc (Wg (M:=1000) (λt ht=>by
  obtain⟨l,hl',rfl⟩:=List.mem_map.mp ht
  have hh:=h l hl'
  have:=Wi hh.2
  omega) Bd (by rw[List.length_map]; omega))
 have nb:=afj hb
 show aM 1 (aC (uH (bB uV (ak (aj 0) au))) (aG (eH iK (eC (.str "\n")) NP))) _=_
 generalize uV=N,eZ ls=T,iK=J,NP=C,(ls.map rS).map Tr.str=L,Str.join "\n" (ls.map rS)=S at *
 simp -dsimp[aM,aW,dr,drs,aX,e,j,nb]
end K70
end
section
namespace K70
open PySem L2 BH PySem.NumText
theorem Wk:∀{ws:List Str} {ls:List (List (Int × Int))},ws.map (λw=>p7 w.cps.toList)=(ls.map λl=>l.map some)->(∀l∈ls,∀x∈l,Rb x)/\ls.map rS=ws
 | [],[],_=>⟨by simp,rfl⟩
 | [],_::_,h=>by cases h
 |_::_,[],h=>by cases h
 |w::ws,l::ls,h=>by
  rw[List.map_cons,List.map_cons,List.cons.injEq,<-Np]at h
  obtain⟨a,b⟩:=Nz h.1
  obtain⟨c,d⟩:=Wk h.2
  refine⟨λy hy=>(List.mem_cons.mp hy).elim (λe=>e▸a) (c y),?_⟩
  rw[List.map_cons,d]
  unfold rS
  rw[b,StrLaws.join_split]
theorem aga(z:Str)(hz:z.length<=50000):(tK [.str z]=.ok (.non,false)/\pL [.str z]=.ex "NoText") \/
  ∃ls:List (List (Int × Int)),(∀l∈ls,l.length<=12)/\ls.length<=4/\tK [.str z]=.ok (eZ ls,false)/\pL [.str z]=.ok (eZ ls,false)/\u5 [eZ ls]=.ok (.str z,false):=by
 have e1:=af0 z hz
 have e2:=afN z hz
 obtain⟨hn,hr⟩:=V7 z.cps.toList
 have ib:=afQ hn hr
 rw[ib]at e2
 cases g:good (jR z.cps.toList)
 ·rw[g]at e1 e2
  exact .inl ⟨e1,e2⟩
 ·right
  obtain⟨ls,q⟩:=afR hr g
  have t:(jR z.cps.toList).map rT=ls.map bD:=by
   rw[q,List.map_map]
   exact List.map_congr_left λl _=>Az l
  have t2:(jR z.cps.toList).map fZ=ls.map bD:=by
   rw[<-t]
   refine List.map_congr_left λr m=>Nt (hr r m).1 ?_
   rw[q]at m
   obtain⟨l,_,rfl⟩:=List.mem_map.mp m
   simp
  rw[g,t]at e1
  rw[g,t2]at e2
  rw[g,t2]at ib
  have sp:=Nr z
  rw[q]at sp
  obtain⟨b1,b2⟩:=Wk sp
  have g2:=g
  unfold good at g2
  simp only[Bool.and_eq_true,decide_eq_true_eq,List.all_eq_true]at g2
  obtain⟨⟨g3,g4⟩,g5⟩:=g2
  have h4:ls.length<=4:=by rw[q,List.length_map]at g3; exact g3
  have h12:∀l∈ls,l.length<=12:=λl m=>by
   have a:=g5 (l.map some) (by rw[q]; exact List.mem_map_of_mem m)
   unfold gR at a
   simp only[Bool.and_eq_true,beq_iff_eq]at a
   have:=a.1.2
   rw[List.length_map]at this
   omega
  refine⟨ls,h12,h4,e1,e2,?_⟩
  rw[af9 (λl m=>⟨h12 l m,b1 l m⟩) h4 ib,b2,StrLaws.join_split]
theorem Wl(l:List (Int × Int)):aL (bD l)=.ok (.int (l.length:Nat),false):=by
 show Rs.ok (Tr.int ((l.map fT).length:Nat),false)=_
 rw[List.length_map]
noncomputable def vp:SF:=aC (bw (dz (dh (cR (iJ .tuple (aj 2)))) (dz (aK (ao bF (bh (g1 aL) (ak (aj 2) au)) (eC (.int 2)))) (dz (dh (cR (bB lu (ak (ao aB (aj 2) (eC (.int 0))) au)))) (dh (cR (bB lu (ak (ao aB (aj 2) (eC (.int 1))) au))))))) (aG (eC (.bl false))) bx) (bw (aK (ao bF (aj 2) (aj 3))) (aG (eC (.bl false))) bx)
theorem agb(s0 s1:Sl)(x:Int × Int):vp [s0,s1,.sh (fT x),.sh (fT x)]=.ok (.nx,[s0,s1,.sh (fT x),.sh (fT x)]):=by
 have i0:aB (fT x) (.int 0)=.ok (.int x.1,false):=rfl
 have i1:aB (fT x) (.int 1)=.ok (.int x.2,false):=rfl
 have w0:=M8 (.int x.1)
 have w1:=M8 (.int x.2)
 have l2:aL (fT x)=.ok (.int 2,false):=rfl
 have n2:bF (.int 2) (.int 2)=.ok (.bl false,false):=rfl
 have ns:=xP (T:=fT x) (by rw[Av]; omega)
 have ty:dH (fT x) .tuple=true:=rfl
 unfold vp
 generalize bF=N,aL=L,aB=I,lu=W,fT x=T at *
 simp -dsimp[dr,drs,aX,eB,fY,aP,g1,i0,i1,w0,w1,isW,l2,n2,ns,ty]
theorem Wm(s0 s1:Sl):∀(l:List (Int × Int)) (s2 s3:Sl),∃t2 t3,iV (gT 2 (eV (gN 2) (eV (gN 3) jN))) vp (nM (l.map fT) (l.map fT)) [s0,s1,s2,s3]=.ok (.nx,[s0,s1,t2,t3])
 | [],s2,s3=>⟨s2,s3,rfl⟩
 |x::l,s2,s3=>by
  obtain⟨t2,t3,e⟩:=Wm s0 s1 l (.sh (fT x)) (.sh (fT x))
  refine⟨t2,t3,?_⟩
  have e2:=agb s0 s1 x
  show iV (gT 2 (eV (gN 2) (eV (gN 3) jN))) vp (.tup [fT x,fT x]::nM (l.map fT) (l.map fT)) [s0,s1,s2,s3]=_
  generalize vp=B,fT x=T at *
  unfold iV
  simp -dsimp[e2,e]
theorem Wn(l:List (Int × Int)):lZ [bD l,bD l]=.ok (.bl true,false):=by
 obtain⟨t2,t3,e⟩:=Wm (.sh (bD l)) (.sh (bD l)) l .un .un
 have gl:=Wl l
 have gn:=xP (T:=.int (l.length:Nat)) (by rw[dN]; omega)
 have ty:dH (bD l) .list=true:=rfl
 have fz:∀s2 s3,pF (ak (aj 0) (ak (aj 1) au)) [.sh (bD l),.sh (bD l),s2,s3]=.ok (nM (l.map fT) (l.map fT),[.sh (bD l),.sh (bD l),s2,s3]):=λ_ _=>rfl
 show aM 4 (aC (bw (dz (dh (cR (iJ .list (aj 0)))) (aK (ao bF (bh (g1 aL) (ak (aj 0) au)) (bh (g1 aL) (ak (aj 1) au))))) (aG (eC (.bl false))) bx) (aC (gk (iw (pF (ak (aj 0) (ak (aj 1) au))) (gT 2 (eV (gN 2) (eV (gN 3) jN))) vp)) (aG (eC (.bl true))))) _=_
 generalize bF=N,aL=L,pF _=I,vp=B,bD l=T,nM (l.map fT) (l.map fT)=Z at *
 simp -dsimp[aM,aW,bU,dr,drs,eB,fY,aP,g1,gl,gn,ty,fz,e]
theorem zip_rows(ls:List (List (Int × Int))):nM (ls.map bD) (ls.map bD)=ls.map λl=>.tup [bD l,bD l]:=by
 unfold nM
 induction ls with
 |nil=>rfl
 |cons l r ih=>simp only[List.map_cons,List.zip_cons_cons]; rw[ih]
def yc:EF:=bB lZ (ak (aj 0) (ak (aj 1) au))
theorem Wq:∀(ls:List (List (Int × Int))) (s0 s1:Sl),∃t0 t1,jy (gT 2 (eV (gN 0) (eV (gN 1) jN))) cU yc (ls.map λl=>.tup [bD l,bD l]) [s0,s1]=.ok (ls.map λ_=>.bl true,[t0,t1])
 | [],s0,s1=>⟨s0,s1,rfl⟩
 |l::ls,s0,s1=>by
  obtain⟨t0,t1,e⟩:=Wq ls (.sh (bD l)) (.sh (bD l))
  have f:=Wn l
  have e2:yc [.sh (bD l),.sh (bD l)]=.ok (.v (.bl true) false,[.sh (bD l),.sh (bD l)]):=by
   unfold yc
   generalize lZ=F,bD l=T at *
   simp -dsimp[dr,drs,aX,f]
  refine⟨t0,t1,?_⟩
  rw[List.map_cons]
  generalize yc=E,bD l=T at *
  unfold jy
  simp -dsimp[e2,bL,e]
theorem Wr{α : Type}:∀l:List α,nJ (l.map λ_=>.bl true)=some (l.map λ_=>true)
 | []=>rfl
 |u::us=>by simp[nJ,Wr us]
theorem agc{ls:List (List (Int × Int))}(hl:ls.length<=4):w6 [eZ ls,eZ ls]=.ok (.bl true,false):=by
 obtain⟨t0,t1,e⟩:=Wq ls .un .un
 have gl:aL (eZ ls)=.ok (.int (ls.length:Nat),false):=by
  show Rs.ok (Tr.int ((ls.map bD).length:Nat),false)=_
  rw[List.length_map]
 have gn:=xP (T:=.int (ls.length:Nat)) (by rw[dN]; omega)
 have ty:dH (eZ ls) .list=true:=rfl
 have ga:dI (.lst (ls.map λ_=>.bl true))=.ok (.bl true,false):=by
  show(match nJ (ls.map λ_=>Tr.bl true)with|some bs=>Rs.ok (Tr.bl (bs.all id),false)|none=>.bad)=_
  rw[Wr]
  show Rs.ok (Tr.bl ((ls.map λ_=>true).all id),false)=_
  rw[List.all_map]
  congr 3
  simp
 have ec:cM [none,none] (pF (ak (aj 0) (ak (aj 1) au))) (gT 2 (eV (gN 0) (eV (gN 1) jN))) cU yc [.sh (eZ ls),.sh (eZ ls)]=.ok (.v (.lst (ls.map λ_=>.bl true)) true,[.sh (eZ ls),.sh (eZ ls)]):=by
  rw[MP,show pF (ak (aj 0) (ak (aj 1) au)) [.sh (eZ ls),.sh (eZ ls)]=.ok (nM (ls.map bD) (ls.map bD),[.sh (eZ ls),.sh (eZ ls)])from rfl,zip_rows]
  simp only[tQ]
  rw[if_pos (by rw[List.length_map]; omega),show cG [none,none] [.sh (eZ ls),.sh (eZ ls)]=[.un,.un]from rfl,e]
  rfl
 show aM 2 (aC (bw (dz (dh (cR (iJ .list (aj 0)))) (aK (ao bF (bh (g1 aL) (ak (aj 0) au)) (bh (g1 aL) (ak (aj 1) au))))) (aG (eC (.bl false))) bx) (aG (bh (g1 dI) (ak (cM [none,none] (pF (ak (aj 0) (ak (aj 1) au))) (gT 2 (eV (gN 0) (eV (gN 1) jN))) cU yc) au)))) _=_
 generalize bF=N,aL=L,dI=A,cM _ _ _ _ _=C,eZ ls=T,(ls.map λ_=>Tr.bl true)=M at *
 simp -dsimp[aM,aW,dr,drs,eB,fY,aP,g1,gl,gn,ty,ec,ga]
end K70
end
section
namespace K70
open PySem L2 BH PySem.NumText
theorem agd{ws:List (Int × Int)}(hw:∀w∈ws,Rd w)(hl:ws.length<=60000)(n:Nat):Dw [bD ws,.int n]=.ok (.bl (ws.length == n),false):=by
 have e1:=afG (r:=fT) (xs:=ws) (ρ:=[.sh (bD ws),.sh (.int n)]) (rest:=[]) (i:=cQ (aj 0)) (fe:=Nj) (by omega) rfl rfl (λs'=>rfl) (λs'=>rfl) (λw hw'=>⟨false,by
  obtain⟨h0,h1,h2⟩:=hw w hw'
  have e:=tR (fT w)
  have hf:pW (fT w)=true:=by
   show(decide (1<=w.2)&&(Int.gcd w.1 w.2 == 1))=true
   rw[decide_eq_true h1,h2]
   rfl
  rw[hf]at e
  unfold Nj
  dsimp only[cG,List.map]
  have g0:aB (fT w) (.int 0)=.ok (.int w.1,false):=rfl
  generalize fT w=T at *
  simp -dsimp[drs,dr,aX,e,aP,g0,fW,gB,h0]⟩)
 have el:=Wl ws
 have ei:iJ .list (aj 0) [.sh (bD ws),.sh (.int n)]=.ok (.v (.bl true) false,[.sh (bD ws),.sh (.int n)]):=by
  simp[bD,dH,dr,eB]
 have en:=V9 ws.length n
 show aM 2 (aC (bw (dz (dh (cR (iJ .list (aj 0)))) (aK (ao bF (bh (g1 aL) (ak (aj 0) au)) (aj 1)))) (aG (eC (.bl false))) bx) (aG (bh (g1 dI) (ak (cM [none] (cQ (aj 0)) (gN 0) cU Nj) au)))) [bD ws,.int n]=_
 generalize bh (g1 dI) _=G at e1 ⊢
 generalize iJ _ _=G2 at ei ⊢
 generalize aL=L,bF=NE,(n:Int)=M,((ws.length:Nat):Int)=N,(ws.length == n)=b,bD ws=T at *
 unfold aM
 cases b <;> simp -dsimp[aW,e1,ei,dr,drs,g1,el,en,aP,fY]
theorem yd(n:Int):iD [.non,.int n]=.ok (.bl false,false):=by
 unfold iD wR
 simp -dsimp[aM,aW,dr,eB,dH,fY]
theorem agf(n:Int){T:Tr}(hT:T=.tup [.str "least"]∨T=.tup [.str "greatest"]∨T=.tup [.str "product"]):iD [T,.int n]=.ok (.bl true,false):=by
 have e:=afH hT
 have e1:dH T .tuple=true:=by rcases hT with rfl|rfl|rfl <;> rfl
 have e2:aL T=.ok (.int 1,false):=by rcases hT with rfl|rfl|rfl <;> rfl
 have e3:bF (.int 1) (.int 2)=.ok (.bl true,false):=rfl
 unfold iD wR aM
 simp -dsimp[aW,eB,e1,e2,e3,e,dr,drs,g1,aP,cL]
theorem agg{ws:List (Int × Int)}(hw:∀w∈ws,Rd w)(hl:ws.length<=60000)(n:Nat):iD [.tup [.str "shares",bD ws],.int n]=.ok (.bl (ws.length == n),false):=by
 have e:=agd hw hl n
 have e2:∀N:Tr,aL (.tup [.str "shares",N])=.ok (.int 2,false):=λ_=>rfl
 have e3:bF (.int 2) (.int 2)=.ok (.bl false,false):=rfl
 have e4:=sEq "shares"
 unfold iD wR aM
 generalize (n:Int)=N,(ws.length == n)=b,bD ws=T at *
 simp -dsimp[aW,eB,dH,e2,e3,e4,e,aX,dr,drs,g1,aP,cL]
theorem agh(k n:Nat):iD [.tup [.str "middle",.int k],.int n]=.ok (.bl (decide (1<=k)&&decide (k<=n)),false):=by
 have e2:∀N:Tr,aL (.tup [.str "middle",N])=.ok (.int 2,false):=λ_=>rfl
 have e3:bF (.int 2) (.int 2)=.ok (.bl false,false):=rfl
 have e4:aH (.str "middle") (.str "shares")=.ok (.bl false,false):=sNe (by decide +kernel)
 have e5:=sEq "middle"
 have e6:=Vn (.int k)
 have l1:dg (.int 1) (.int k)=.ok (.bl (decide (1<=k)),false):=by
  show Rs.ok (Tr.bl (decide ((1:Int)<=k)),false)=_
  congr 3
  rw[Bool.eq_iff_iff,decide_eq_true_eq,decide_eq_true_eq]
  omega
 have l2:dg (.int k) (.int n)=.ok (.bl (decide (k<=n)),false):=by
  show Rs.ok (Tr.bl (decide ((k:Int)<=n)),false)=_
  congr 3
  rw[Bool.eq_iff_iff,decide_eq_true_eq,decide_eq_true_eq]
  omega
 unfold iD wR aM
 generalize dg=LE,(n:Int)=N,(k:Int)=K,decide (k<=n)=b,decide (1<=k)=a at *
 cases a <;> simp -dsimp[aW,eB,dH,e2,e3,e4,e5,e6,isW,aX,dr,drs,g1,aP,cL,l1,l2]
def bare(w:Str):Bool:=(w == "least") || (w == "greatest") || (w == "product")
def qZ(o:Option Nat):Tr:=match o with
 |some k=>.tup [.str "middle",.int (k:Nat)]
 |none=>.non
def m9(P:List (Option (Int × Int))):Tr:=if P=[]\/P.any Option.isNone=true then .non else .tup [.str "shares",rT P]
def Bf(w:Str):List Str->Tr
 | []=>if bare w=true then .tup [.str w]else .non
 | [v]=>if (w == "middle")=true then qZ (dD v.cps.toList)else .non
 |_=>.non
def jU:List Str->Tr
 | []=>.non
 | w :: ws=>if (w == "shares")=true then m9 (ws.map cg)else Bf w ws
theorem Ws(w v:Str):aH (.lst [.str w]) (.lst [.str v])=.ok (.bl (w == v),false):=by
 unfold aH
 rw[if_pos ⟨by rw[jo,iM,d8,iZ]; decide,by rw[jo,iM,d8,iZ]; decide⟩]
 show Rs.ok (Tr.bl ((w == v)&&true),false)=_
 rw[Bool.and_true]
def NQ:List Str->Bool
 | [w]=>bare w
 |_=>false
theorem agi(ws:List Str):bT id (.tup (ws.map .str)) (.tup [(.tup [(.str "least")]),(.tup [(.str "greatest")]),(.tup [(.str "product")])])=.ok (.bl (NQ ws),false):=by
 have d:deps (ws.map Tr.str)=0:=by
  induction ws with
  |nil=>exact iZ
  |cons w r ih=>rw[List.map_cons,iM,d8,ih]; rfl
 unfold bT
 dsimp only
 rw[if_pos ⟨by decide +kernel,by rw[jG,d]; decide⟩]
 congr 3
 unfold su
 match ws with
 | []=>rfl
 | [w] =>
  have c:∀a:Str,eqT (.tup [.str a]) (.tup ([w].map .str))=(a == w):=λa=>by
   show((a == w)&&true)=_
   rw[Bool.and_true]
  show id (eqT (.tup [.str "least"]) (.tup ([w].map .str)) || (eqT (.tup [.str "greatest"]) (.tup ([w].map .str)) || (eqT (.tup [.str "product"]) (.tup ([w].map .str)) || false)))=bare w
  rw[c,c,c]
  unfold bare
  have s:∀a b:Str,(a == b)=(b == a):=λa b=>Bool.eq_iff_iff.mpr (by rw[beq_iff_eq,beq_iff_eq]; exact eq_comm)
  rw[s "least",s "greatest",s "product"]
  simp[Bool.or_assoc]
 |w::v::r =>
  have c:∀a:Str,eqT (.tup [.str a]) (.tup ((w::v::r).map .str))=false:=λa=>by
   show((a == w)&&false)=_
   rw[Bool.and_false]
  show id (eqT (.tup [.str "least"]) (.tup ((w::v::r).map .str)) || (eqT (.tup [.str "greatest"]) (.tup ((w::v::r).map .str)) || (eqT (.tup [.str "product"]) (.tup ((w::v::r).map .str)) || false)))=false
  rw[c,c,c]
  rfl
end K70
end
section
namespace K70
open PySem L2 BH PySem.NumText
def vq:SF:=aC (aV (bB pK (ak (gD (aj 0) (gC (eC (.int 1))) gA) (ak (aj 1) au))) (gN 2)) (aG (nH (aK (ao (fL id) (aj 2) (eC .non))) (eC .non) (gj (ak (eC (.str "shares")) (ak (aj 2) au)))))
def yg:SF:=aC (aV (bB lY (ak (ao aB (aj 0) (eC (.int 1))) (ak (aj 1) au))) (gN 3)) (aG (nH (aK (ao (fL id) (aj 3) (eC .non))) (eC .non) (gj (ak (eC (.str "middle")) (ak (aj 3) au)))))
def rm:SF:=aG (nH (aK (ao (bT id) (bh (g1 d7) (ak (aj 0) au)) (eC (.tup [(.tup [(.str "least")]),(.tup [(.str "greatest")]),(.tup [(.str "product")])])))) (bh (g1 d7) (ak (aj 0) au)) (eC .non))
theorem agj{L:Tr}{ws:List Str}(hs:jC (some 1) none L=.ok (.lst (ws.map .str),true))(h1:ws.length<=60000)(h2:∀w∈ws,w.length<=50000)(s2 s3:Sl):∃ρ,vq [.sh L,.sh (.int 40),s2,s3]=.ok (.rt (m9 (ws.map cg)) false,ρ):=by
 have e:=V5 h1 h2
 unfold vq
 refine⟨[.sh L,.sh (.int 40),.sh (fZ (ws.map cg)),s3],?_⟩
 generalize pK=F,ws.map Tr.str=M,ws.map cg=P at *
 by_cases q:P=[]\/P.any Option.isNone=true
 ·have a:fZ P=.non:=if_pos q
  have b:m9 P=.non:=if_pos q
  have i:fL id .non .non=.ok (.bl true,false):=rfl
  rw[a]at e ⊢
  rw[b]
  generalize fL id=I at *
  simp -dsimp[dr,drs,cW,aX,aP,hs,e,i]
 ·have a:fZ P=rT P:=if_neg q
  have b:m9 P=.tup [.str "shares",rT P]:=if_neg q
  have i:fL id (rT P) .non=.ok (.bl false,false):=rfl
  rw[a]at e ⊢
  rw[b]
  generalize fL id=I,rT P=T at *
  simp -dsimp[dr,drs,cls,bL,cW,aX,aP,hs,e,i]
theorem agk{L:Tr}{v:Str}(hi:aB L (.int 1)=.ok (.str v,false))(hv:v.length<=50000)(s2 s3:Sl):∃ρ,yg [.sh L,.sh (.int 40),s2,s3]=.ok (.rt (qZ (dD v.cps.toList)) false,ρ):=by
 have e:=Vx v 40 (by decide) (by omega)
 rw[Ng]at e
 unfold yg
 refine⟨[.sh L,.sh (.int 40),s2,.sh (oT (dD v.cps.toList))],?_⟩
 generalize aB=G,lY=F at *
 change F [.str v,.int 40]=_ at e
 generalize dD v.cps.toList=o at *
 cases o with
 |none =>
  have i:fL id .non .non=.ok (.bl true,false):=rfl
  generalize fL id=I at *
  simp -dsimp[oT]at e
  simp -dsimp[dr,drs,aX,aP,hi,e,i,qZ,oT]
 |some k =>
  have i:∀k,fL id (.int k) .non=.ok (.bl false,false):=λ_=>rfl
  generalize fL id=I at *
  simp -dsimp[oT]at e
  simp -dsimp[dr,drs,cls,bL,aX,aP,hi,e,i,qZ,oT]
def yh:BF:=jM (aK (ao aH (gD (aj 0) gA (gC (eC (.int 1)))) (iy [.str "middle"]))) (aK (ao aH (bh (g1 aL) (ak (aj 0) au)) (eC (.int 2))))
theorem NT(a b:Nat):aH (.int a) (.int b)=.ok (.bl (a == b),false):=by
 show Rs.ok (Tr.bl ((a:Int) == (b:Int)),false)=_
 congr 3
 rw[Bool.eq_iff_iff,beq_iff_eq,beq_iff_eq]
 omega
theorem agl{w:Str}{ws:List Str}(τ : En):yh (.sh (.lst ((w::ws).map .str))::τ)=.ok ((w == "middle")&&((w::ws).length == 2),.sh (.lst ((w::ws).map .str))::τ):=by
 have h1:jC none (some 1) (.lst ((w::ws).map .str))=.ok (.lst [.str w],true):=FN _ 1
 have h2:=Ws w "middle"
 have h3:aL (.lst ((w::ws).map .str))=.ok (.int ((w::ws).length:Nat),false):=by
  show Rs.ok (Tr.int (((w::ws).map Tr.str).length:Nat),false)=_
  rw[List.length_map]
 have h4:aH (.int ((w::ws).length:Nat)) (.int 2)=_:=NT (w::ws).length 2
 unfold yh
 generalize aL=LL,aH=E,Tr.lst ((w::ws).map .str)=T,(((w::ws).length:Nat):Int)=N,((w::ws).length == 2)=b,(w == "middle")=a at *
 cases a <;> simp -dsimp[dr,drs,cW,g1,aP,h1,h2,h3,h4]
theorem agm(ws:List Str)(τ : En):rm (.sh (.lst (ws.map .str))::τ)=.ok (.rt (if NQ ws=true then .tup (ws.map .str)else .non) false,.sh (.lst (ws.map .str))::τ):=by
 have h1:d7 (.lst (ws.map .str))=.ok (.tup (ws.map .str),false):=rfl
 have h2:=agi ws
 generalize NQ ws=b at *
 unfold rm
 generalize d7=G,bT id=I,Tr.lst (ws.map .str)=T,Tr.tup (ws.map .str)=U at *
 cases b <;> simp -dsimp[dr,drs,g1,aP,h1,h2]
theorem agn{ws:List Str}(hn:ws≠[])(h1:ws.length<=60000)(h2:∀w∈ws,w.length<=50000):Ah [.lst (ws.map .str),.int 40]=.ok (jU ws,false):=by
 obtain⟨w,ws,rfl⟩:=List.exists_cons_of_ne_nil hn
 have a1:jC none (some 1) (.lst ((w::ws).map .str))=.ok (.lst [.str w],true):=FN _ 1
 have a2:=Ws w "shares"
 have a3:jC (some 1) none (.lst ((w::ws).map .str))=.ok (.lst (ws.map .str),true):=xW _ 1
 obtain⟨ρ1,e1⟩:=agj a3 (by rw[List.length_cons]at h1; omega) (λv hv=>h2 v (by simp[hv])) .un .un
 have e2:=agl (w:=w) (ws:=ws) [.sh (.int 40),.un,.un]
 have e4:=agm (w::ws) [.sh (.int 40),.un,.un]
 show aM 4 (aC (bw (aK (ao aH (gD (aj 0) gA (gC (eC (.int 1)))) (iy [.str "shares"]))) vq bx) (aC (bw yh yg bx) rm)) _=_
 by_cases s:(w == "shares")=true
 ·have r:jU (w::ws)=m9 (ws.map cg):=if_pos s
  rw[r]
  rw[s]at a2
  generalize aH=E,vq=A,Tr.lst ((w::ws).map .str)=T,m9 (ws.map cg)=R at *
  simp -dsimp[aM,aW,dr,cW,aP,a1,a2,e1]
 ·have s':(w == "shares")=false:=by simpa using s
  rw[s']at a2
  match ws with
  | [] =>
   have r:jU [w]=if bare w=true then .tup [.str w]else .non:=if_neg s
   rw[r]
   have m:((w == "middle")&&([w].length == 2))=false:=by simp
   rw[m]at e2
   change rm _=Rs.ok (Fl.rt (if bare w=true then .tup [.str w]else .non) false,_)at e4
   generalize aH=E,yh=M,rm=C,yg=B,vq=A,Tr.lst ([w].map .str)=T,(if bare w=true then Tr.tup [.str w]else .non)=R at *
   simp -dsimp[aM,aW,dr,cW,aP,a1,a2,e2,e4]
  | [v] =>
   have r:jU [w,v]=if(w == "middle")=true then qZ (dD v.cps.toList)else .non:=if_neg s
   rw[r]
   have i1:aB (.lst ([w,v].map .str)) (.int 1)=.ok (.str v,false):=pX (xs:=[w,v].map .str) (i:=1) rfl
   obtain⟨ρ3,e3⟩:=agk i1 (h2 v (by simp)) .un .un
   have m:((w == "middle")&&([w,v].length == 2))=(w == "middle"):=by simp
   rw[m]at e2
   change rm _=Rs.ok (Fl.rt .non false,_)at e4
   generalize aH=E,yh=M,rm=C,yg=B,vq=A,Tr.lst ([w,v].map .str)=T,qZ (dD v.cps.toList)=R,(w == "middle")=b at *
   cases b <;> simp -dsimp[aM,aW,dr,cW,aP,a1,a2,e2,e3,e4]
  |v::u::r =>
   have r':jU (w::v::u::r)=.non:=if_neg s
   rw[r']
   have m:((w == "middle")&&((w::v::u::r).length == 2))=false:=by simp
   rw[m]at e2
   change rm _=Rs.ok (Fl.rt .non false,_)at e4
   generalize aH=E,yh=M,rm=C,yg=B,vq=A,Tr.lst ((w::v::u::r).map .str)=T at *
   simp -dsimp[aM,aW,dr,cW,aP,a1,a2,e2,e4]
end K70
end
section
namespace K70
open PySem L2 BH PySem.NumText
theorem Wt{z:Str}{n:Nat}{b:Bool}(hz:z.length<=50000)(hb:iD [jU (Txt.split z " "),.int n]=.ok (.bl b,false)):oM [.str z,.int n]=if b=true then .ok (jU (Txt.split z " "),false)else .ex "NoText" := by
 obtain⟨h1,h2,h3⟩:=qX z 32 hz
 rw[<-blank]at h1 h2 h3
 have e1:=agn (xM z " ") (by omega) λw hw=>by have:=h3 w hw; omega
 have e2:=V6 z
 unfold oM UL
 generalize (n:Int)=k,dR=G,pH=N,iD=I,Ah=F,(Txt.split z " ").map Tr.str=L,jU (Txt.split z " ")=R at *
 cases b <;> simp -dsimp[aM,aW,dr,drs,aX,fY,h1,e1,e2,hb]
theorem Gf(w:Str):bT id (.str w) (.lst [.str "least",.str "greatest",.str "product"])=.ok (.bl (bare w),false):=by
 unfold bT
 dsimp only
 rw[if_pos ⟨by decide +kernel,by rw[d8]; omega⟩]
 congr 3
 show id (("least" == w) || (("greatest" == w) || (("product" == w) || false)))=bare w
 unfold bare
 have s:∀a b:Str,(a == b)=(b == a):=λa b=>Bool.eq_iff_iff.mpr (by rw[beq_iff_eq,beq_iff_eq]; exact eq_comm)
 rw[s "least",s "greatest",s "product"]
 simp[Bool.or_assoc]
def vA:EF:=cM [none] (cQ (gD (aj 2) (gC (eC (.int 1))) gA)) (gN 0) cU (bB oR (ak (aj 0) au))
theorem NZ(s0 s1 s3:Sl){L:Tr}{ws:List Str}(hs:jC (some 1) none L=.ok (.lst (ws.map .str),true))(h1:ws.length<=60000)(h2:∀w∈ws,w.length<=50000):vA [s0,s1,.sh L,s3]=.ok (.v (rT (ws.map cg)) true,[s0,s1,.sh L,s3]):=by
 unfold rT
 rw[List.map_map]
 refine pZ (r:=.str) (by omega) ?_ rfl (λ_=>rfl) (λ_=>rfl) λw hw=>⟨false,?_⟩
 ·generalize ws.map Tr.str=M at *
  simp -dsimp[dr,cW,hs,dW]
 ·have n:=V3 w (h2 w hw)
  show _=Rs.ok (Rv.v (fO (jA w.cps.toList)) false,_)
  generalize fO (jA w.cps.toList)=T,oR=F at *
  simp -dsimp[cG,dr,drs,aX,n]
def Bg:EF:=cM [none] (wH (ak (eC (.int 1)) (ak (ao aO (aj 1) (eC (.int 1))) au))) (gN 0) cU (gj (ak (aj 0) (ak (eC (.int 1)) au)))
theorem tA(n:Nat)(hn:n<=4):((List.range' 1 n).length<=100000):=by rw[List.length_range']; omega
theorem tB0(n:Nat)(hn:n<=4):L2.upTo 1 n=(List.range' 1 n).map λk:Nat=>Tr.int k:=VF n 1
theorem Wu{i:Int}(h : -1000<=i/\i<=1000):okR i=true:=by
 unfold okR
 rw[Bool.and_eq_true]
 exact⟨decide_eq_true (by omega),decide_eq_true (by omega)⟩
theorem tB1(ρ : En)(fa:AF)(a b:Int)(o:okR a=true/\okR b=true)(h:fa ρ=.ok ([.v (.int a) false,.v (.int b) false],ρ)):wH fa ρ=.ok (L2.upTo a (b-a).toNat,ρ):=by
 rw[afa,h]
 simp only[tQ]
 rw[show drs ρ [.v (.int a) false,.v (.int b) false]=.ok [.int a,.int b]from rfl]
 simp only[tQ]
 rw[if_pos o]
theorem tB2(s0 s2 s3:Sl)(n:Int):ak (eC (.int 1)) (ak (ao aO (aj 1) (eC (.int 1))) au) [s0,.sh (.int n),s2,s3]=.ok ([.v (.int 1) false,.v (.int (n+1)) false],[s0,.sh (.int n),s2,s3]):=by
 simp -dsimp[dr,qW]
theorem tB(s0 s2 s3:Sl)(n:Nat)(hn:n<=4):wH (ak (eC (.int 1)) (ak (ao aO (aj 1) (eC (.int 1))) au)) [s0,.sh (.int n),s2,s3]=.ok ((List.range' 1 n).map λk:Nat=>Tr.int k,[s0,.sh (.int n),s2,s3]):=by
 rw[tB1 _ _ 1 ((n:Int)+1) ⟨Wu (by omega),Wu (by omega)⟩ (tB2 s0 s2 s3 n),<-tB0 n hn]
 have e:((n:Int)+1-1).toNat=n:=by omega
 rw[e]
theorem tC(k:Nat):(gj (ak (aj 0) (ak (eC (.int 1)) au))) [.sh (.int k)]=.ok (.v (fT (k,1)) false,[.sh (.int k)]):=by
 show _=Rs.ok (Rv.v (.tup [.int k,.int 1]) false,_)
 simp -dsimp[cls,bL]
theorem ago(s0 s2 s3:Sl)(n:Nat)(hn:n<=4):Bg [s0,.sh (.int n),s2,s3]=.ok (.v (.lst ((List.range' 1 n).map λk:Nat=>fT (k,1))) true,[s0,.sh (.int n),s2,s3]) :=
 pZ (r:=λk:Nat=>.int k) (h:=λk:Nat=>fT (k,1)) (tA n hn) (tB s0 s2 s3 n hn) rfl (λ_=>rfl) (λ_=>rfl) λk _=>⟨false,tC k⟩
theorem Wv(a b:Int × Int):eqT (fT a) (fT b)=decide (a=b):=by
 show((a.1 == b.1)&&((a.2 == b.2)&&true))=_
 rw[Bool.and_true,Bool.eq_iff_iff,Bool.and_eq_true,beq_iff_eq,beq_iff_eq,decide_eq_true_eq,Prod.ext_iff]
theorem agp(x:Int × Int)(n:Nat):bT id (fT x) (.lst ((List.range' 1 n).map λk:Nat=>fT (k,1)))=.ok (.bl (decide (x.2=1/\1<=x.1/\x.1<=n)),false):=by
 unfold bT
 dsimp only
 rw[if_pos ⟨Fx λt ht=>by obtain⟨k,_,rfl⟩:=List.mem_map.mp ht; rw[Av]; omega,by rw[Av]; omega⟩]
 congr 3
 show su _ _=_
 unfold su
 rw[List.any_map,Bool.eq_iff_iff,List.any_eq_true,decide_eq_true_eq]
 constructor
 ·rintro⟨k,hk,e⟩
  have e:eqT (fT ((k:Int),1)) (fT x)=true:=e
  rw[Wv,decide_eq_true_eq]at e
  rw[<-e]
  have:=List.mem_range'_1.mp hk
  exact⟨rfl,by show(1:Int)<=k; omega,by show(k:Int)<=n; omega⟩
 ·rintro⟨h1,h2,h3⟩
  refine⟨x.1.toNat,List.mem_range'_1.mpr ⟨by omega,by omega⟩,?_⟩
  show eqT (fT ((x.1.toNat:Int),1)) (fT x)=true
  rw[Wv,decide_eq_true_eq]
  exact Prod.ext (by show((x.1.toNat:Nat):Int)=x.1; omega) h1.symm
def p8:BF:=jM (aK (ao aH (ao aB (aj 2) (eC (.int 0))) (eC (.str "middle")))) (jM (aK (ao aH (bh (g1 aL) (ak (aj 3) au)) (eC (.int 1)))) (aK (ao (bT id) (ao aB (aj 3) (eC (.int 0))) Bg)))
def mP(n:Nat):List (Option (Int × Int))->Bool
 | [some x]=>decide (x.2=1/\1<=x.1/\x.1<=n)
 |_=>false
def mB(w:Str)(P:List (Option (Int × Int)))(n:Nat):Bool:=(w == "middle")&&mP n P
theorem Ww(a b:Str):aH (.str a) (.str b)=.ok (.bl (a == b),false):=by
 unfold aH
 rw[if_pos ⟨by rw[d8]; omega,by rw[d8]; omega⟩]
 rfl
theorem agq(n:Nat):aH (.int n) (.int 1)=.ok (.bl (n == 1),false):=NT n 1
theorem Wy(s0:Sl){n N w:Tr}{L R:Tr}{a:Bool}(h0:aB L (.int 0)=.ok (w,false))(e1:aH w (.str "middle")=.ok (.bl a,false)) (e2:aL R=.ok (N,false)) (e3:aH N (.int 1)=.ok (.bl false,false)):p8 [s0,.sh n,.sh L,.sh R]=.ok (false,[s0,.sh n,.sh L,.sh R]):=by
 unfold p8
 generalize aL=G,aH=E,aB=I,Bg=C at *
 cases a <;> simp -dsimp[dr,drs,g1,aP,h0,e1,e2,e3]
theorem agr(s0:Sl){n N w:Tr}{L R U X:Tr}{a c:Bool}(h0:aB L (.int 0)=.ok (w,false))(e1:aH w (.str "middle")=.ok (.bl a,false)) (e2:aL R=.ok (N,false)) (e3:aH N (.int 1)=.ok (.bl true,false)) (e6:aB R (.int 0)=.ok (X,false)) (e4:Bg [s0,.sh n,.sh L,.sh R]=.ok (.v U true,[s0,.sh n,.sh L,.sh R])) (e7:bT id X U=.ok (.bl c,false)):p8 [s0,.sh n,.sh L,.sh R]=.ok (a&&c,[s0,.sh n,.sh L,.sh R]):=by
 unfold p8
 generalize bT id=J,aL=G,aH=E,aB=I,Bg=C at *
 cases a <;> simp -dsimp[dr,drs,g1,aP,h0,e1,e2,e3,e4,e6,e7]
theorem Wz(s0:Sl){L:Tr}{w:Str}{P:List (Option (Int × Int))}{n:Nat}(hn:n<=4)(h0:aB L (.int 0)=.ok (.str w,false))(hP:P.any Option.isNone=false):p8 [s0,.sh (.int n),.sh L,.sh (rT P)]=.ok (mB w P n,[s0,.sh (.int n),.sh L,.sh (rT P)]):=by
 have e1:=Ww w "middle"
 have e2:=Bb P
 have e3:=agq P.length
 have e4:=ago s0 (.sh L) (.sh (rT P)) n hn
 obtain⟨l,rfl⟩:=xY hP
 clear hP
 unfold mB
 rcases l with _|⟨x,_|⟨y,r⟩⟩
 ·have q:mP n (([]:List (Int × Int)).map some)=false:=rfl
  rw[q,Bool.and_false]
  exact Wy s0 h0 e1 e2 e3
 ·have q:mP n ([x].map some)=decide (x.2=1/\1<=x.1/\x.1<=n):=rfl
  rw[q]
  exact agr s0 h0 e1 e2 e3 rfl e4 (agp x n)
 ·have q:mP n ((x::y::r).map some)=false:=rfl
  rw[q,Bool.and_false]
  have z:(((x::y::r).map some).length == 1)=false:=beq_false_of_ne (by simp)
  rw[z]at e3
  exact Wy s0 h0 e1 e2 e3
end K70
end
section
namespace K70
open PySem L2 BH PySem.NumText
def yj:BF:=jM (aK (ao aH (ao aB (aj 2) (eC (.int 0))) (eC (.str "shares")))) (aK (ao aH (bh (g1 aL) (ak (aj 3) au)) (aj 1)))
def rC:SF:=aC (bw p8 (aG (gj (ak (eC (.str "middle")) (ak (ao aB (ao aB (aj 3) (eC (.int 0))) (eC (.int 0))) au)))) bx) (aC (bw yj (aG (gj (ak (eC (.str "shares")) (ak (aj 3) au)))) bx) (aG (eC .non)))
noncomputable def yp:SF:=aC (aV (eH dR (aj 0) (eC (.str " "))) (gN 2)) (aC (bw (aK (ao (bT id) (aj 0) (iy [.str "least",.str "greatest",.str "product"]))) (aG (gj (ak (aj 0) au))) bx) (aC (aV vA (gN 3)) (aC (bw (aK (ao (bT id) (eC .non) (aj 3))) (aG (eC .non)) bx) rC)))
theorem ags(s0:Sl){n N w L R:Tr}{a b:Bool}(h0:aB L (.int 0)=.ok (w,false))(e1:aH w (.str "shares")=.ok (.bl a,false)) (e2:aL R=.ok (N,false)) (e3:aH N n=.ok (.bl b,false)):yj [s0,.sh n,.sh L,.sh R]=.ok (a&&b,[s0,.sh n,.sh L,.sh R]):=by
 unfold yj
 generalize aL=G,aH=E,aB=I at *
 cases a <;> simp -dsimp[dr,drs,g1,aP,h0,e1,e2,e3]
theorem agt(s0:Sl){n L R X Y:Tr}(hm:p8 [s0,.sh n,.sh L,.sh R]=.ok (true,[s0,.sh n,.sh L,.sh R]))(h1:aB R (.int 0)=.ok (X,false))(h2:aB X (.int 0)=.ok (Y,false)):rC [s0,.sh n,.sh L,.sh R]=.ok (.rt (.tup [.str "middle",Y]) false,[s0,.sh n,.sh L,.sh R]):=by
 unfold rC
 generalize aB=I,yj=S,p8=M at *
 simp -dsimp[dr,drs,cls,bL,hm,h1,h2]
theorem agu(s0:Sl){n L R:Tr}{b:Bool}(hm:p8 [s0,.sh n,.sh L,.sh R]=.ok (false,[s0,.sh n,.sh L,.sh R]))(hs:yj [s0,.sh n,.sh L,.sh R]=.ok (b,[s0,.sh n,.sh L,.sh R])):rC [s0,.sh n,.sh L,.sh R]=.ok (.rt (if b=true then .tup [.str "shares",R]else .non) false,[s0,.sh n,.sh L,.sh R]):=by
 unfold rC
 generalize aB=I,yj=S,p8=M at *
 cases b <;> simp -dsimp[dr,drs,cls,bL,hm,hs]
theorem agv{z:Str}{n L:Tr}(h1:dR z (.str " ")=.ok (L,true)) (hb:bT id (.str z) (.lst [.str "least",.str "greatest",.str "product"])=.ok (.bl true,false)):lB [.str z,n]=.ok (.tup [.str z],false):=by
 show aM 4 yp _=_
 unfold yp
 generalize bT id=I,([.str "least",.str "greatest",.str "product"]:List Tr)=B,dR=S,rC=G,vA=C at *
 simp -dsimp[aM,aW,dr,drs,cls,bL,aP,h1,hb]
theorem agw{z:Str}{n L R:Tr}(h1:dR z (.str " ")=.ok (L,true)) (hb:bT id (.str z) (.lst [.str "least",.str "greatest",.str "product"])=.ok (.bl false,false)) (hc:vA [.sh (.str z),.sh n,.sh L,.un]=.ok (.v R true,[.sh (.str z),.sh n,.sh L,.un])) (hn:bT id .non R=.ok (.bl true,false)):lB [.str z,n]=.ok (.non,false):=by
 show aM 4 yp _=_
 unfold yp
 generalize bT id=I,([.str "least",.str "greatest",.str "product"]:List Tr)=B,dR=S,rC=G,vA=C at *
 simp -dsimp[aM,aW,dr,drs,cls,bL,aP,h1,hb,hc,hn]
theorem WD{z:Str}{n L R T:Tr}{ρ : En}(h1:dR z (.str " ")=.ok (L,true)) (hb:bT id (.str z) (.lst [.str "least",.str "greatest",.str "product"])=.ok (.bl false,false)) (hc:vA [.sh (.str z),.sh n,.sh L,.un]=.ok (.v R true,[.sh (.str z),.sh n,.sh L,.un])) (hn:bT id .non R=.ok (.bl false,false)) (hg:rC [.sh (.str z),.sh n,.sh L,.sh R]=.ok (.rt T false,ρ)):lB [.str z,n]=.ok (T,false):=by
 show aM 4 yp _=_
 unfold yp
 generalize bT id=I,([.str "least",.str "greatest",.str "product"]:List Tr)=B,dR=S,rC=G,vA=C at *
 simp -dsimp[aM,aW,dr,drs,cls,bL,aP,h1,hb,hc,hn,hg]
def tY:BF:=dz (dh (cR (iJ .tuple (aj 0)))) (dz (aK (ao bF (bh (g1 aL) (ak (aj 0) au)) (bh (g1 aL) (ak (aj 1) au)))) (aK (ao bF (ao aB (aj 0) (eC (.int 0))) (ao aB (aj 1) (eC (.int 0))))))
theorem N5{T N:Tr}{w:Str}(ht:dH T .tuple=true)(hl:aL T=.ok (N,false))(hN:bF N N=.ok (.bl false,false))(h0:aB T (.int 0)=.ok (.str w,false)):tY [.sh T,.sh T]=.ok (false,[.sh T,.sh T]):=by
 have hw:=xP (T:=.str w) (by rw[d8]; omega)
 unfold tY
 generalize aL=G,bF=E,aB=I at *
 simp -dsimp[dr,drs,g1,aP,eB,fY,ht,hl,hN,h0,hw]
theorem agx(ws:List (Int × Int)):pQ [.tup [.str "shares",bD ws],.tup [.str "shares",bD ws]]=.ok (.bl true,false):=by
 have e1:=N5 (T:=.tup [.str "shares",bD ws]) (N:=.int 2) (w := "shares") rfl rfl rfl rfl
 have e2:=sEq "shares"
 have e3:=Wn ws
 have i0:aB (.tup [.str "shares",bD ws]) (.int 0)=.ok (.str "shares",false):=rfl
 have i1:aB (.tup [.str "shares",bD ws]) (.int 1)=.ok (bD ws,false):=rfl
 show aM 2 (aC (bw tY (aG (eC (.bl false))) bx) (aC (bw (aK (ao aH (ao aB (aj 1) (eC (.int 0))) (eC (.str "shares")))) (aG (bB lZ (ak (ao aB (aj 0) (eC (.int 1))) (ak (ao aB (aj 1) (eC (.int 1))) au)))) bx) (aG (wA (ao bF (ao aB (aj 1) (eC (.int 0))) (eC (.str "middle"))) (j6 (bB lu (ak (ao aB (aj 0) (eC (.int 1))) au)) (ao aH (ao aB (aj 0) (eC (.int 1))) (ao aB (aj 1) (eC (.int 1))))))))) _=_
 generalize lZ=F,aH=E,aB=I,tY=C,Tr.str "shares" = W,bD ws=R,Tr.tup [.str "shares",bD ws]=T at *
 simp -dsimp[aM,aW,dr,drs,aP,aX,e1,e2,e3,i0,i1]
theorem agy(k:Int):pQ [.tup [.str "middle",.int k],.tup [.str "middle",.int k]]=.ok (.bl true,false):=by
 have e1:=N5 (T:=.tup [.str "middle",.int k]) (N:=.int 2) (w := "middle") rfl rfl rfl rfl
 have e2:aH (.str "middle") (.str "shares")=.ok (.bl false,false):=sNe (by decide +kernel)
 have e3:=xP (T:=.str "middle") (by rw[d8]; omega)
 have e4:=M8 (.int k)
 have e5:=M6 (T:=.int k) (by rw[dN]; omega)
 have i0:aB (.tup [.str "middle",.int k]) (.int 0)=.ok (.str "middle",false):=rfl
 have i1:aB (.tup [.str "middle",.int k]) (.int 1)=.ok (.int k,false):=rfl
 show aM 2 (aC (bw tY (aG (eC (.bl false))) bx) (aC (bw (aK (ao aH (ao aB (aj 1) (eC (.int 0))) (eC (.str "shares")))) (aG (bB lZ (ak (ao aB (aj 0) (eC (.int 1))) (ak (ao aB (aj 1) (eC (.int 1))) au)))) bx) (aG (wA (ao bF (ao aB (aj 1) (eC (.int 0))) (eC (.str "middle"))) (j6 (bB lu (ak (ao aB (aj 0) (eC (.int 1))) au)) (ao aH (ao aB (aj 0) (eC (.int 1))) (ao aB (aj 1) (eC (.int 1))))))))) _=_
 generalize lu=H,lZ=F,bF=N,aH=E,aB=I,tY=C,Tr.str "shares" = V,Tr.str "middle" = W,Tr.tup [.str "middle",.int k]=T at *
 simp -dsimp[aM,aW,dr,drs,aP,aX,e1,e2,e3,e4,e5,isW,i0,i1]
theorem qd{w:Str}(h:bare w=true):w = "least" ∨ w = "greatest" ∨ w = "product" := by
 unfold bare at h
 rw[Bool.or_eq_true,Bool.or_eq_true,beq_iff_eq,beq_iff_eq,beq_iff_eq]at h
 rcases h with(h|h)|h
 ·exact .inl h
 ·exact .inr (.inl h)
 ·exact .inr (.inr h)
theorem agz{w:Str}(h:bare w=true):pQ [.tup [.str w],.tup [.str w]]=.ok (.bl true,false):=by
 have e1:=N5 (T:=.tup [.str w]) (N:=.int 1) (w:=w) rfl rfl rfl rfl
 have e2:aH (.str w) (.str "shares")=.ok (.bl false,false):=sNe (by rcases qd h with rfl|rfl|rfl <;> decide +kernel)
 have e3:bF (.str w) (.str "middle")=.ok (.bl true,false):=by
  have q:(w == "middle")=false:=by rcases qd h with rfl|rfl|rfl <;> decide +kernel
  unfold bF
  rw[if_pos ⟨by rw[d8]; omega,by rw[d8]; omega⟩,jf,q]
  rfl
 have i0:aB (.tup [.str w]) (.int 0)=.ok (.str w,false):=rfl
 show aM 2 (aC (bw tY (aG (eC (.bl false))) bx) (aC (bw (aK (ao aH (ao aB (aj 1) (eC (.int 0))) (eC (.str "shares")))) (aG (bB lZ (ak (ao aB (aj 0) (eC (.int 1))) (ak (ao aB (aj 1) (eC (.int 1))) au)))) bx) (aG (wA (ao bF (ao aB (aj 1) (eC (.int 0))) (eC (.str "middle"))) (j6 (bB lu (ak (ao aB (aj 0) (eC (.int 1))) au)) (ao aH (ao aB (aj 0) (eC (.int 1))) (ao aB (aj 1) (eC (.int 1))))))))) _=_
 generalize lu=H,lZ=F,bF=N,aH=E,aB=I,tY=C,Tr.str "shares" = V,Tr.str "middle" = W,Tr.tup [.str w]=T at *
 simp -dsimp[aM,aW,dr,drs,aP,eB,aX,e1,e2,e3,i0]
end K70
end
section
namespace K70
open PySem L2 BH PySem.NumText
theorem agA:("shares " : Str) = "shares" ++ " " := by decide +kernel
theorem agB:("middle " : Str) = "middle" ++ " " := by decide +kernel
theorem agC{ws:List (Int × Int)}{n:Int}(hr:iD [.tup [.str "shares",bD ws],.int n]=.ok (.bl true,false)) (hw:∀x∈ws,Rb x) (hl:ws.length≤1000):m6 [.tup [.str "shares",bD ws],.int n]=.ok (.str ("shares " ++ rS ws),false):=by
 have e2:=sEq "shares"
 have e3:=Wj hw hl
 have ln:=Wi hw
 have lc:("shares " : Str).length<=7:=by decide +kernel
 have i0:aB (.tup [.str "shares",bD ws]) (.int 0)=.ok (.str "shares",false):=rfl
 have i1:aB (.tup [.str "shares",bD ws]) (.int 1)=.ok (bD ws,false):=rfl
 have f:lq (.str (rS ws))=.ok (.str (rS ws),false):=if_pos (by omega)
 have q1:(Str.empty ++ "shares " : Str).length<=100000:=by rw[empty_app]; omega
 rw[empty_app]at q1
 have q2:("shares " ++ rS ws:Str).length<=100000:=by rw[len_app]; omega
 unfold m6 Em
 generalize lq=G,aH=E,aB=I,qT=SF,iD=IR,Tr.str "shares" = W,("shares " : Str)=S0,rS ws=S,bD ws=R,Tr.tup [.str "shares",bD ws]=T at *
 simp -dsimp[aM,aW,dr,drs,aP,aX,fY,hr,e2,e3,i0,i1,f,empty_app,q1,q2]
theorem agD{k:Nat}{n:Int}(hr:iD [.tup [.str "middle",.int k],.int n]=.ok (.bl true,false)) (hk:k<10 ^ 40):m6 [.tup [.str "middle",.int k],.int n]=.ok (.str ("middle " ++ nS k),false):=by
 have e1:aH (.str "middle") (.str "shares")=.ok (.bl false,false):=sNe (by decide +kernel)
 have e2:=sEq "middle"
 have ln:=tX (p:=k) (by omega) (by omega)
 have f:=Nx (p:=k) (by omega) (by omega)
 have lc:("middle " : Str).length<=7:=by decide +kernel
 have i0:aB (.tup [.str "middle",.int k]) (.int 0)=.ok (.str "middle",false):=rfl
 have i1:aB (.tup [.str "middle",.int k]) (.int 1)=.ok (.int k,false):=rfl
 have q1:(Str.empty ++ "middle " : Str).length<=100000:=by rw[empty_app]; omega
 rw[empty_app]at q1
 have q2:("middle " ++ nS k:Str).length<=100000:=by rw[len_app]; omega
 unfold m6 Em
 generalize lq=G,aH=E,aB=I,iD=IR,Tr.str "shares" = W2,Tr.str "middle" = W,("middle " : Str)=S0,nS k=S,Tr.tup [.str "middle",.int k]=T at *
 simp -dsimp[aM,aW,dr,drs,aP,aX,fY,hr,e1,e2,i0,i1,f,empty_app,q1,q2]
theorem agE{w:Str}{n:Int}(h:bare w=true)(hr:iD [.tup [.str w],.int n]=.ok (.bl true,false)):m6 [.tup [.str w],.int n]=.ok (.str w,false):=by
 have e1:aH (.str w) (.str "shares")=.ok (.bl false,false):=sNe (by rcases qd h with rfl|rfl|rfl <;> decide +kernel)
 have e2:aH (.str w) (.str "middle")=.ok (.bl false,false):=sNe (by rcases qd h with rfl|rfl|rfl <;> decide +kernel)
 have i0:aB (.tup [.str w]) (.int 0)=.ok (.str w,false):=rfl
 unfold m6 Em
 generalize aH=E,aB=I,iD=IR,Tr.str "shares" = W2,Tr.str "middle" = W,Tr.tup [.str w]=T at *
 simp -dsimp[aM,aW,dr,drs,aP,aX,fY,hr,e1,e2,i0]
theorem agF{w:Str}(h:bare w=true):32∉w.cps.toList:=by
 rcases qd h with rfl|rfl|rfl <;> decide +kernel
theorem WK:∀{a b:List Str},a.map (·.cps.toList)=b.map (·.cps.toList)->a=b
 | [],[],_=>rfl
 | [],_::_,h=>by cases h
 |_::_,[],h=>by cases h
 |x::a,y::b,h=>by
  rw[List.map_cons,List.map_cons,List.cons.injEq]at h
  rw[qU h.1,WK h.2]
theorem agG{w:Str}(h:32∉w.cps.toList):Txt.split w " " = [w]:=by
 apply WK
 rw[blank,xO,xK h]
 rfl
theorem agH{v:Str}{k:Nat}(h:dD v.cps.toList=some k):cg v=some ((k:Int),1):=by
 have q:47∉v.cps.toList:=λm=>by
  unfold dD at h
  split at h
  ·rename_i c
   exact absurd (c.2.1 47 m) (by decide)
  ·cases h
 unfold cg jA
 rw[xK q]
 show lC (dD v.cps.toList)=_
 rw[h]
 rfl
theorem agI{v:Str}{x:Int × Int}(h:cg v=some x)(h1:x.2=1):∃k:Nat,dD v.cps.toList=some k/\x.1=k:=by
 unfold cg jA at h
 have j:=Gd 47 v.cps.toList
 match e:spl 47 v.cps.toList with
 | []=>rw[e]at h; cases h
 | [a] =>
  rw[e]at h j
  change lC (dD a)=_ at h
  change a=_ at j
  rw[j]at h
  cases q:dD v.cps.toList with
  |none=>rw[q]at h; cases h
  |some k=>rw[q]at h; cases h; exact⟨k,rfl,rfl⟩
 | [a,b] =>
  rw[e]at h
  change jg (dD a) (dD b)=_ at h
  cases q:dD a with
  |none=>rw[q]at h; cases dD b <;> cases h
  |some p =>
   cases q2:dD b with
   |none=>rw[q,q2]at h; cases h
   |some r =>
    rw[q,q2]at h
    unfold jg at h
    dsimp only at h
    split at h
    ·rename_i c
     cases h
     have:(r:Int)=1:=h1
     omega
    ·cases h
 |a::b::c::r=>rw[e]at h; cases h
end K70
end
section
namespace K70
open PySem L2 BH PySem.NumText
structure Wd(z w:Str)(ws:List Str):Prop where
 sp:Txt.split z " " = w::ws
 gs:dR z (.str " ")=.ok (.lst ((w::ws).map .str),true)
 ln:ws.length<=60000
 lw:∀v∈ws,v.length<=50000
theorem WL{z:Str}(hz:z.length<=50000):∃w ws,Wd z w ws:=by
 obtain⟨h1,h2,h3⟩:=qX z 32 hz
 rw[<-blank]at h1 h2 h3
 obtain⟨w,ws,e⟩:=List.exists_cons_of_ne_nil (xM z " ")
 rw[e]at h1 h2 h3
 exact⟨w,ws,e,h1,by rw[List.length_cons]at h2; omega,λv hv=>by have:=h3 v (by simp[hv]); omega⟩
theorem agJ{z w:Str}{ws:List Str}{n:Nat}(d:Wd z w ws)(hb:bare z=false)(hn:n<=4)(ha:(ws.map cg).any Option.isNone=true):lB [.str z,.int n]=.ok (.non,false):=by
 have b:=Gf z
 rw[hb]at b
 have c:=Ay (ws.map cg)
 rw[ha]at c
 exact agw d.gs b (NZ _ _ _ (xW _ 1) d.ln d.lw) c
theorem WM{z w:Str}{ws:List Str}{n:Nat}(d:Wd z w ws)(hb:bare z=false)(hn:n<=4)(ha:(ws.map cg).any Option.isNone=false)(hm:mB w (ws.map cg) n=false):lB [.str z,.int n]=.ok (if((w == "shares")&&((ws.map cg).length == n))=true then .tup [.str "shares",rT (ws.map cg)]else .non,false):=by
 have b:=Gf z
 rw[hb]at b
 have c:=Ay (ws.map cg)
 rw[ha]at c
 have i0:aB (.lst ((w::ws).map .str)) (.int 0)=.ok (.str w,false):=pX (xs:=(w::ws).map .str) (i:=0) rfl
 have m:=Wz (.sh (.str z)) hn i0 ha
 rw[hm]at m
 have s:=ags (.sh (.str z)) i0 (Ww w "shares") (Bb (ws.map cg)) (NT (ws.map cg).length n)
 exact WD d.gs b (NZ _ _ _ (xW _ 1) d.ln d.lw) c (agu _ m s)
theorem agK{z w:Str}{ws:List Str}{n:Nat}(d:Wd z w ws)(hb:bare z=false)(hn:n<=4)(h:(ws.map cg).any Option.isNone=true\/(mB w (ws.map cg) n=false/\((w == "shares")&&((ws.map cg).length == n))=false)):lB [.str z,.int n]=.ok (.non,false):=by
 cases a:(ws.map cg).any Option.isNone
 ·rcases h with h|⟨h1,h2⟩
  ·rw[a]at h; cases h
  ·have:=WM d hb hn a h1
   rw[h2]at this
   exact this
 ·exact agJ d hb hn a
theorem agL{z w:Str}{ws:List Str}{n:Nat}{x:Int × Int}(d:Wd z w ws)(hb:bare z=false)(hn:n<=4)(hx:ws.map cg=[some x])(hm:mB w (ws.map cg) n=true):lB [.str z,.int n]=.ok (.tup [.str "middle",.int x.1],false):=by
 have ha:(ws.map cg).any Option.isNone=false:=by rw[hx]; rfl
 have b:=Gf z
 rw[hb]at b
 have c:=Ay (ws.map cg)
 rw[ha]at c
 have i0:aB (.lst ((w::ws).map .str)) (.int 0)=.ok (.str w,false):=pX (xs:=(w::ws).map .str) (i:=0) rfl
 have m:=Wz (.sh (.str z)) hn i0 ha
 rw[hm]at m
 have g0:aB (rT (ws.map cg)) (.int 0)=.ok (fT x,false):=by rw[hx]; rfl
 exact WD d.gs b (NZ _ _ _ (xW _ 1) d.ln d.lw) c (agt _ m g0 rfl)
noncomputable def RP(z:Str)(n:Nat):Prop:=(lB [.str z,.int n]=.ok (.non,false)/\oM [.str z,.int n]=.ex "NoText") \/
  ∃T,wk T=false/\lB [.str z,.int n]=.ok (T,false)/\oM [.str z,.int n]=.ok (T,false)/\pQ [T,T]=.ok (.bl true,false)/\m6 [T,.int n]=.ok (.str z,false)
theorem tZ{z w:Str}{ws:List Str}{n:Nat}(d:Wd z w ws)(hz:z.length<=50000)(hb:bare z=false)(hn:n<=4)(h:(ws.map cg).any Option.isNone=true\/(mB w (ws.map cg) n=false/\((w == "shares")&&((ws.map cg).length == n))=false)) (hr:iD [jU (w::ws),.int n]=.ok (.bl false,false)):RP z n:=by
 refine .inl ⟨agK d hb hn h,?_⟩
 rw[<-d.sp]at hr
 exact Wt hz hr
theorem N6{z w:Str}{ws:List Str}{n:Nat}{T:Tr}(d:Wd z w ws)(hz:z.length<=50000)(hT:wk T=false)(hl:lB [.str z,.int n]=.ok (T,false))(e:jU (w::ws)=T)(hr:iD [T,.int n]=.ok (.bl true,false))(hs:pQ [T,T]=.ok (.bl true,false))(hw:m6 [T,.int n]=.ok (.str z,false)):RP z n:=by
 refine .inr ⟨T,hT,hl,?_,hs,hw⟩
 rw[<-e,<-d.sp]at hr
 have:=Wt hz hr
 rw[d.sp,e]at this
 exact this
theorem agM{z:Str}{n:Nat}(hz:z.length<=50000)(hb:bare z=true):RP z n:=by
 obtain⟨w,ws,d⟩:=WL hz
 have e:=d.sp
 rw[agG (agF hb),List.cons.injEq]at e
 obtain⟨e1,e2⟩:=e
 subst e1
 subst e2
 have b:=Gf z
 rw[hb]at b
 have ns:¬(z == "shares")=true:=by rcases qd hb with rfl|rfl|rfl <;> decide +kernel
 have r:jU [z]=.tup [.str z]:=(if_neg ns).trans (if_pos hb)
 have ir:iD [.tup [.str z],.int n]=.ok (.bl true,false):=agf n (by rcases qd hb with rfl|rfl|rfl; exact .inl rfl; exact .inr (.inl rfl); exact .inr (.inr rfl))
 exact N6 d hz rfl (agv d.gs b) r ir (agz hb) (agE hb ir)
theorem WQ(s w:Str){ws:List Str}(h:ws≠[]):Str.join s (w::ws)=w++s++Str.join s ws:=by
 obtain⟨v,r,rfl⟩:=List.exists_cons_of_ne_nil h
 rfl
theorem N7{P:List (Option (Int × Int))}{n:Nat}:mB "shares" P n=false:=by
 unfold mB
 rw[show(("shares" : Str) == "middle")=false by decide +kernel,Bool.false_and]
theorem agN{z:Str}{ws:List Str}{n:Nat}(d:Wd z "shares" ws) (hz:z.length<=50000) (hb:bare z=false) (h1:1<=n) (hn:n<=4):RP z n:=by
 have ss:(("shares" : Str) == "shares")=true:=beq_self_eq_true _
 have r:jU ("shares" :: ws)=m9 (ws.map cg):=by
  show(if(("shares" : Str) == "shares")=true then m9 (ws.map cg)else Bf "shares" ws)=_
  exact if_pos ss
 cases ha:(ws.map cg).any Option.isNone
 ·obtain⟨xs,hx⟩:=xY ha
  have hl:=WM d hb hn ha N7
  by_cases he:ws.map cg=[]
  ·have r2:m9 (ws.map cg)=.non:=if_pos (.inl he)
   refine tZ d hz hb hn (.inr ⟨N7,?_⟩) (by rw[r,r2]; exact yd n)
   have q:(([]:List (Option (Int × Int))).length == n)=false:=beq_false_of_ne (by show 0≠n; omega)
   rw[he,q,Bool.and_false]
  ·have r2:m9 (ws.map cg)=.tup [.str "shares",rT (ws.map cg)]:=if_neg λq=>q.elim he λq=>by rw[ha]at q; cases q
   rw[hx,Az]at r2
   have rd:∀x∈xs,Rd x:=λx m=>by
    have:some x∈ws.map cg:=by rw[hx]; exact List.mem_map_of_mem m
    obtain⟨v,_,e⟩:=List.mem_map.mp this
    exact V4 e
   obtain⟨rb,bk⟩:=Nz hx
   have lx:xs.length=ws.length:=by
    have:=congrArg List.length hx
    rw[List.length_map,List.length_map]at this
    exact this.symm
   have ir:=agg rd (by have:=d.ln; omega) n
   have lh:(ws.map cg).length=xs.length:=by rw[List.length_map]; exact lx.symm
   cases q:(xs.length == n)
   ·rw[q]at ir
    exact tZ d hz hb hn (.inr ⟨N7,by rw[lh,q,Bool.and_false]⟩) (by rw[r,hx,r2]; exact ir)
   ·rw[q]at ir
    rw[lh,q,ss,hx,Az,if_pos (show(true&&true)=true from rfl)]at hl
    have ne:ws≠[]:=λk=>he (by rw[k]; rfl)
    have zz:z = "shares " ++ rS xs:=by
     have j:=StrLaws.join_split z " "
     rw[d.sp,WQ _ _ ne]at j
     rw[<-j,agA]
     unfold rS
     rw[bk]
    have sh:=agC ir rb (by rw[beq_iff_eq]at q; omega)
    rw[<-zz]at sh
    exact N6 d hz rfl hl (by rw[r,hx,r2]) ir (agx xs) sh
 ·have r2:m9 (ws.map cg)=.non:=if_pos (.inr ha)
  exact tZ d hz hb hn (.inl ha) (by rw[r,r2]; exact yd n)
theorem WR:(("middle" : Str) == "shares")=false:=by decide +kernel
theorem Gg(P:List (Option (Int × Int)))(n:Nat):mB "middle" P n=mP n P:=by
 unfold mB
 rw[show(("middle" : Str) == "middle")=true from beq_self_eq_true _,Bool.true_and]
theorem N8(ws:List Str):jU ("middle" :: ws)=Bf "middle" ws:=by
 show(if(("middle" : Str) == "shares")=true then m9 (ws.map cg)else Bf "middle" ws)=_
 exact if_neg (by rw[WR]; decide)
theorem agO{z:Str}{ws:List Str}{n:Nat}(d:Wd z "middle" ws) (hz:z.length<=50000) (hb:bare z=false) (h1:1<=n) (hn:n<=4):RP z n:=by
 have Gh:∀b:Bool,((("middle" : Str) == "shares")&&b)=false:=λb=>by rw[WR,Bool.false_and]
 rcases ws with _|⟨v,_|⟨u,r⟩⟩
 ·have r:jU ["middle"]=.non:=(N8 []).trans (by
   show(if bare "middle" = true then Tr.tup [.str "middle"]else .non)=_
   exact if_neg (by decide +kernel))
  refine tZ d hz hb hn (.inr ⟨?_,Gh _⟩) (by rw[r]; exact yd n)
  rw[Gg]
  rfl
 ·have r:jU ["middle",v]=qZ (dD v.cps.toList):=(N8 [v]).trans (by
   show(if(("middle" : Str) == "middle")=true then qZ (dD v.cps.toList)else .non)=_
   exact if_pos (beq_self_eq_true _))
  cases o:dD v.cps.toList with
  |none =>
   rw[o]at r
   refine tZ d hz hb hn ?_ (by rw[r]; exact yd n)
   cases e:cg v with
   |none=>exact .inl (by show([cg v]:List _).any Option.isNone=true; rw[e]; rfl)
   |some x =>
    refine .inr ⟨?_,Gh _⟩
    rw[Gg]
    show mP n [cg v]=false
    rw[e]
    show decide (x.2=1/\1<=x.1/\x.1<=n)=false
    refine decide_eq_false λq=>?_
    obtain⟨k,hk,_⟩:=agI e q.1
    rw[o]at hk
    cases hk
  |some k =>
   rw[o]at r
   have rd:=agH o
   obtain⟨bk,kb⟩:=Ga o
   have ir:=agh k n
   have mp:mB "middle" ([v].map cg) n=(decide (1<=k)&&decide (k<=n)):=by
    rw[Gg]
    show mP n [cg v]=_
    rw[rd]
    show decide ((1:Int)=1/\1<=(k:Int)/\(k:Int)<=n)=_
    rw[Bool.eq_iff_iff,decide_eq_true_eq,Bool.and_eq_true,decide_eq_true_eq,decide_eq_true_eq]
    omega
   cases q:(decide (1<=k)&&decide (k<=n))
   ·rw[q]at ir mp
    exact tZ d hz hb hn (.inr ⟨mp,Gh _⟩) (by rw[r]; exact ir)
   ·rw[q]at ir mp
    have hl:=agL d hb hn (x:=((k:Int),1)) (by show [cg v]=_; rw[rd]) mp
    have zz:z = "middle " ++ nS k:=by
     have j:=StrLaws.join_split z " "
     rw[d.sp,WQ _ _ (List.cons_ne_nil _ _)]at j
     rw[<-j,agB]
     congr 1
     exact(qU bk).symm
    have sh:=agD ir kb
    rw[<-zz]at sh
    exact N6 d hz rfl hl r ir (agy k) sh
 ·have r':jU ("middle" :: v::u::r)=.non:=N8 _
  refine tZ d hz hb hn (.inr ⟨?_,Gh _⟩) (by rw[r']; exact yd n)
  rw[Gg]
  show mP n (cg v::cg u::r.map cg)=false
  cases cg v <;> rfl
theorem WT{z:Str}{n:Nat}(hz:z.length<=50000)(h1:1<=n)(hn:n<=4):RP z n:=by
 cases hb:bare z
 ·obtain⟨w,ws,d⟩:=WL hz
  by_cases es:w = "shares"
  ·subst es
   exact agN d hz hb h1 hn
  ·by_cases em:w = "middle"
   ·subst em
    exact agO d hz hb h1 hn
   ·have ns:(w == "shares")=false:=beq_false_of_ne es
    have nm:(w == "middle")=false:=beq_false_of_ne em
    have r:jU (w::ws)=.non:=by
     show(if(w == "shares")=true then m9 (ws.map cg)else Bf w ws)=_
     rw[if_neg (by rw[ns]; decide)]
     rcases ws with _|⟨v,_|⟨u,r⟩⟩
     ·have j:=StrLaws.join_split z " "
      rw[d.sp]at j
      have j:w=z:=j
      show(if bare w=true then Tr.tup [.str w]else .non)=_
      rw[j,hb]
      rfl
     ·show(if(w == "middle")=true then qZ (dD v.cps.toList)else .non)=_
      rw[if_neg (by rw[nm]; decide)]
     ·rfl
    refine tZ d hz hb hn (.inr ⟨?_,by rw[ns,Bool.false_and]⟩) (by rw[r]; exact yd n)
    unfold mB
    rw[nm,Bool.false_and]
 ·exact agM hz hb
end K70
end
section
namespace K70
open PySem L2 BH PySem.NumText
theorem Gi:tH [.cF "NoText",.str "NoText"]=.ok (.bl true,false):=by kernel_rfl
def yq:SF:=bw (cR (aj 0)) (aV (bB pL (ak (aj 1) au)) (gN 3)) (aV (bB oM (ak (aj 1) (ak (aj 2) au))) (gN 3))
def yr(b:Bool)(z n:Tr):Rs (Tr × Bool):=if b=true then pL [z]else oM [z,n]
theorem agP{b:Bool}{z n T:Tr}(h:yr b z n=.ok (T,false)):yq [.sh (.bl b),.sh z,.sh n,.sh .non,.sh .non,.un]=.ok (.nx,[.sh (.bl b),.sh z,.sh n,.sh T,.sh .non,.un]):=by
 unfold yr at h
 unfold yq
 generalize oM=R,pL=B at *
 cases b
 ·have h:R [z,n]=.ok (T,false):=h
  simp -dsimp[dr,drs,aX,fY,h]
 ·have h:B [z]=.ok (T,false):=h
  simp -dsimp[dr,drs,aX,fY,h]
theorem agQ{b:Bool}{z n:Tr}{c:Str}(h:yr b z n=.ex c):yq [.sh (.bl b),.sh z,.sh n,.sh .non,.sh .non,.un]=.ex c:=by
 unfold yr at h
 unfold yq
 generalize oM=R,pL=B at *
 cases b
 ·have h:R [z,n]=.ex c:=h
  simp -dsimp[dr,drs,aX,fY,h]
 ·have h:B [z]=.ex c:=h
  simp -dsimp[dr,drs,aX,fY,h]
theorem WW{b z n X Y:Tr}(e:pG ["NoBook", "NoRule", "NoText"] 5 yq (aV (aj 5) (gN 4)) [.sh b,.sh z,.sh n,.sh .non,.sh .non,.un]=.ok (.nx,[.sh b,.sh z,.sh n,.sh X,.sh Y,.un])):pR [b,z,n]=.ok (.tup [X,Y],false):=by
 show aM 6 (aC (aV (eC .non) (gN 3)) (aC (aV (eC .non) (gN 4)) (aC (pG ["NoBook", "NoRule", "NoText"] 5 yq (aV (aj 5) (gN 4))) (aG (gj (ak (aj 3) (ak (aj 4) au))))))) _=_
 generalize pG _ _ _ _=G at e ⊢
 simp -dsimp[aM,aW,dr,cls,bL,e]
theorem Gj{b:Bool}{z n T:Tr}(h:yr b z n=.ok (T,false)):pR [.bl b,z,n]=.ok (.tup [T,.non],false):=WW (afI (agP h))
theorem Gm{b:Bool}{z n:Tr}(h:yr b z n=.ex "NoText"):pR [.bl b,z,n]=.ok (.tup [.non,.cF "NoText"],false):=WW ((afJ (agQ h) (by simp)).trans (by
 generalize (Str.ofString "NoText")=c
 simp -dsimp[bU]))
theorem Gn{z n B T C T' C' R:Tr}{b c:Bool}(h1:tK [z]=.ok (B,false))(h2:pR [.bl true,z,n]=.ok (.tup [T,C],false))(h3:lB [z,n]=.ok (R,false))(h4:pR [.bl false,z,n]=.ok (.tup [T',C'],false))
  (i1:fL id B .non=.ok (.bl b,false)) (Gp:fL not B .non=.ok (.bl (!b),false)) (i2:fL id R .non=.ok (.bl c,false))
  (hb:b=true->tH [C,.str "NoText"]=.ok (.bl true,false)) (hb':b=false->fL not C .non=.ok (.bl false,false)/\w6 [T,B]=.ok (.bl true,false)/\∃S,u5 [T]=.ok (S,false)/\bF S z=.ok (.bl false,false))
  (hc:c=true->tH [C',.str "NoText"]=.ok (.bl true,false)) (hc':c=false->fL id C' .non=.ok (.bl true,false)/\pQ [T',R]=.ok (.bl true,false)/\∃S,m6 [T',n]=.ok (S,false)/\aH S z=.ok (.bl true,false)) :
  tL [z,n]=.ok (.bl true,false):=by
 unfold tL LC
 generalize Tr.str "NoText" = N,bF=g4,aH=g3,fL not=g2,fL id=g1,m6=f8,u5=f7,pQ=f6,w6=f5,tH=f4,lB=f3,pR=f2,tK=f1 at *
 cases b <;> cases c
 ·obtain⟨a1,a2,S,a3,a4⟩:=hb' rfl
  obtain⟨b1,b2,S',b3,b4⟩:=hc' rfl
  simp -dsimp[aM,aW,dr,drs,aX,aP,fY,h1,h2,h3,h4,i1,Gp,i2,a1,a2,a3,a4,b1,b2,b3,b4]
 ·obtain⟨a1,a2,S,a3,a4⟩:=hb' rfl
  have b1:=hc rfl
  simp -dsimp[aM,aW,dr,drs,aX,aP,fY,h1,h2,h3,h4,i1,Gp,i2,a1,a2,a3,a4,b1]
 ·have a1:=hb rfl
  obtain⟨b1,b2,S',b3,b4⟩:=hc' rfl
  simp -dsimp[aM,aW,dr,drs,aX,aP,fY,h1,h2,h3,h4,i1,Gp,i2,a1,b1,b2,b3,b4]
 ·have a1:=hb rfl
  have b1:=hc rfl
  simp -dsimp[aM,aW,dr,drs,aX,aP,fY,h1,h2,h3,h4,i1,Gp,i2,a1,b1]
theorem agR{z:Str}{n:Nat}(hz:z.length<=50000)(h1:1<=n)(hn:n<=4):tL [.str z,.int n]=.ok (.bl true,false):=by
 have en:=xP (T:=.str z) (by rw[d8]; omega)
 have ee:=M6 (T:=.str z) (by rw[d8]; omega)
 rcases aga z hz with⟨a1,a2⟩|⟨ls,d1,d2,a1,a2,a3⟩
 ·rcases WT hz h1 hn with⟨b1,b2⟩|⟨T,b0,b1,b2,b3,b4⟩
  ·exact Gn a1 (Gm (b:=true) a2) b1 (Gm (b:=false) b2) (b:=true) (c:=true) rfl rfl rfl (λ_=>Gi) nofun (λ_=>Gi) nofun
  ·exact Gn a1 (Gm (b:=true) a2) b1 (Gj (b:=false) b2) (b:=true) (c:=false) rfl rfl (by show Rs.ok (Tr.bl (id (wk T)),false)=_; rw[b0]; rfl) (λ_=>Gi) nofun nofun (λ_=>⟨rfl,b3,_,b4,ee⟩)
 ·have sb:=agc d2
  rcases WT hz h1 hn with⟨b1,b2⟩|⟨T,b0,b1,b2,b3,b4⟩
  ·exact Gn a1 (Gj (b:=true) a2) b1 (Gm (b:=false) b2) (b:=false) (c:=true) rfl rfl rfl nofun (λ_=>⟨rfl,sb,_,a3,en⟩) (λ_=>Gi) nofun
  ·exact Gn a1 (Gj (b:=true) a2) b1 (Gj (b:=false) b2) (b:=false) (c:=false) rfl rfl (by show Rs.ok (Tr.bl (id (wk T)),false)=_; rw[b0]; rfl) nofun (λ_=>⟨rfl,sb,_,a3,en⟩) nofun (λ_=>⟨rfl,b3,_,b4,ee⟩)
end K70
end
section
namespace K70
open PySem L2 BH PySem.NumText
theorem tk(n k:Int)(h:0<k)(hk:k.natAbs<2 ^ 60):∃x m,cO [.lst [.int n],.int k]=.ok ((.int x,false),[.int m])/\0<=x/\x<k :=
 ⟨_,_,xR n k h (lg hk),tV n k h⟩
theorem lfr{x b:Int}(hx:0<=x)(hb:1<=b)(h2:b<=1000000000000)(h3:x<=1000000000000):∃y,oN [.int x,.int b]=.ok (fT y,false)/\Rb y:=by
 obtain⟨g1,g2,g3,g4,g5,g6,g7⟩:=RM (a:=x) (b:=b) (by omega)
 have e1:x.fdiv (Int.gcd x b:Nat)=x / (Int.gcd x b:Nat):=Int.fdiv_eq_ediv_of_nonneg _ (by omega)
 have e2:b.fdiv (Int.gcd x b:Nat)=b / (Int.gcd x b:Nat):=Int.fdiv_eq_ediv_of_nonneg _ (by omega)
 refine⟨(x.fdiv (Int.gcd x b:Nat),b.fdiv (Int.gcd x b:Nat)),?_,?_⟩
 ·unfold oN Eo aM fT
  generalize hg:((Int.gcd x b:Nat):Int)=g at g1 g2
  have hs:=M9 x b
  rw[hg]at hs
  have h3:¬b<0:=by omega
  have c1:ou x g=true:=Fw (M:=60) (by omega) (by omega) (by omega)
  have c2:ou b g=true:=Fw (M:=60) (by omega) (by omega) (by omega)
  simp -dsimp[bU,cV,gq,bN,con,eY,eB,aP,cL,dr,drs,cls,bL,gJ,g1,g2,gI,eF,gB,aH,bF,bT,aO,dU,gQ,dF,gU,dw,bV,cN,dg,fW,aB,aL,iU,gW,d7,gY,gZ,dI,dW,okR,cW,aX,others,cG,bW,cZ,eG,eN,dN,j8,d8,jz,jG,jo,iZ,iM,eO,j9,jf,dH,cX,dY,aW,hs,h3,c1,c2]
 ·rw[e1,e2]
  have d1:=Int.ediv_le_self (a:=b) ((Int.gcd x b:Nat):Int) (by omega)
  have d2:=Int.ediv_le_self (a:=x) ((Int.gcd x b:Nat):Int) (by omega)
  exact⟨g5 hx,by show x / ((Int.gcd x b:Nat):Int)<10 ^ 40; omega,g3,by show b / ((Int.gcd x b:Nat):Int)<10 ^ 40; omega⟩
theorem Wo.rb{x:Int × Int}(h:Wo x):Rb x:=⟨h.1,by have:=h.2.1; have:=h.2.2.2.1; omega,h.2.2.1,by have:=h.2.2.2.1; omega⟩
noncomputable def yt:SF:=aC (aV (cj 0 cO (ak (aj 0) (ak (ao aB (iy [.int 4,.int 13,.int 100,.int 1000000000000]) (ao dw (aj 1) (eC (.int 2)))) au))) (gN 2)) (aG (bB oN (ak (aj 2) (ak (ao aO (eC (.int 1)) (cj 0 cO (ak (aj 0) (ak (ao aB (iy [.int 4,.int 12,.int 99,.int 999999999999]) (ao dw (aj 1) (eC (.int 2)))) au)))) au))))
theorem agS(n w a b:Int)(ha:0<a/\a<=1000000000000)(hb:0<b/\b<=999999999999)(i1:aB (.lst [.int 4,.int 13,.int 100,.int 1000000000000]) (.int (w-2))=.ok (.int a,false))(i2:aB (.lst [.int 4,.int 12,.int 99,.int 999999999999]) (.int (w-2))=.ok (.int b,false)) :
  ∃y m ρ,yt [.rf [.int n],.sh (.int w),.un]=.ok (.rt (fT y) false,.rf [.int m]::ρ)/\Rb y:=by
 obtain⟨x,n1,e1,x0,x1⟩:=tk n a ha.1 (by omega)
 obtain⟨u,n2,e2,u0,u1⟩:=tk n1 b hb.1 (by omega)
 obtain⟨y,e3,hy⟩:=lfr (x:=x) (b:=1+u) x0 (by omega) (by omega) (by omega)
 refine⟨y,n2,[.sh (.int w),.sh (.int x)],?_,hy⟩
 unfold yt
 generalize ([.int 4,.int 12,.int 99,.int 999999999999]:List Tr)=L2',([.int 4,.int 13,.int 100,.int 1000000000000]:List Tr)=L1,fT y=Y at *
 have g1:dw (.int w) (.int 2)=.ok (.int (w-2),false):=rfl
 generalize aB=I,w-2=w2 at *
 simp -dsimp[con,drs,dr,aX,others,bN,dJ,eX,g1,i1,i2,e1,e2,e3,qW]
theorem agT(n:Int):∃y m,pO [.lst [.int n]]=.ok ((fT y,false),[.int m])/\Rb y:=by
 obtain⟨w,n1,e1,w0,w1⟩:=tk n 6 (by omega) (by decide)
 have lt:bV (.int w) (.int 2)=.ok (.bl (decide (w<2)),false):=rfl
 by_cases h:w<2
 ·obtain⟨y,hy,rb⟩:∃y,aB (.lst [.tup [.int 0,.int 1],.tup [.int 1,.int 1]]) (.int w)=.ok (fT y,false)/\Rb y:=by
   rcases(show w=0\/w=1 by omega)with rfl|rfl
   ·exact⟨(0,1),rfl,by unfold Rb; decide⟩
   ·exact⟨(1,1),rfl,by unfold Rb; decide⟩
  refine⟨y,n1,?_,rb⟩
  rw[decide_eq_true h]at lt
  show fX 3 0 (aC (aV (cj 0 cO (ak (aj 0) (ak (eC (.int 6)) au))) (gN 1)) (aC (bw (aK (ao bV (aj 1) (eC (.int 2)))) (aG (ao aB (iy [.tup [.int 0,.int 1],.tup [.int 1,.int 1]]) (aj 1))) bx) yt)) _=_
  generalize bV=G,aB=I,yt=W,([.tup [.int 0,.int 1],.tup [.int 1,.int 1]]:List Tr)=L,fT y=Y at *
  unfold fX
  simp -dsimp[aW,con,drs,dr,aX,others,bN,bU,dJ,eX,aP,e1,lt,hy]
 ·obtain⟨a,b,i1,i2,ha,hb⟩:∃a b:Int,aB (.lst [.int 4,.int 13,.int 100,.int 1000000000000]) (.int (w-2))=.ok (.int a,false)/\aB (.lst [.int 4,.int 12,.int 99,.int 999999999999]) (.int (w-2))=.ok (.int b,false)/\(0<a/\a<=1000000000000)/\(0<b/\b<=999999999999):=by
   rcases(show w=2\/w=3\/w=4\/w=5 by omega)with rfl|rfl|rfl|rfl
   ·exact⟨4,4,rfl,rfl,by omega,by omega⟩
   ·exact⟨13,12,rfl,rfl,by omega,by omega⟩
   ·exact⟨100,99,rfl,rfl,by omega,by omega⟩
   ·exact⟨1000000000000,999999999999,rfl,rfl,by omega,by omega⟩
  obtain⟨y,m,ρ,e2,rb⟩:=agS n1 w a b ha hb i1 i2
  refine⟨y,m,?_,rb⟩
  rw[decide_eq_false h]at lt
  show fX 3 0 (aC (aV (cj 0 cO (ak (aj 0) (ak (eC (.int 6)) au))) (gN 1)) (aC (bw (aK (ao bV (aj 1) (eC (.int 2)))) (aG (ao aB (iy [.tup [.int 0,.int 1],.tup [.int 1,.int 1]]) (aj 1))) bx) yt)) _=_
  generalize bV=G,aB=I,yt=W,([.tup [.int 0,.int 1],.tup [.int 1,.int 1]]:List Tr)=L,fT y=Y at *
  unfold fX
  simp -dsimp[aW,con,drs,dr,aX,others,bN,bU,dJ,eX,aP,e1,lt,e2]
theorem WX:∀(us:List Tr) (s:Sl) (n:Int),∃(ws:List (Int × Int)) (s':Sl) (m:Int),jy (gN 0) cU (cj 0 pO (ak (aj 1) au)) us [s,.rf [.int n]]=.ok (ws.map fT,[s',.rf [.int m]])/\ws.length=us.length/\∀w∈ws,Rb w
 | [],s,n=>⟨[],s,n,rfl,rfl,by simp⟩
 |u::us,s,n=>by
  obtain⟨y,m1,e,p⟩:=agT n
  obtain⟨ws,s',m,e',hl,hp⟩:=WX us (.sh u) m1
  refine⟨y::ws,s',m,?_,by simp[hl],λw hw=>(List.mem_cons.mp hw).elim (λz=>z▸p) (hp w)⟩
  have e1:cj 0 pO (ak (aj 1) au) [.sh u,.rf [.int n]]=.ok (.v (fT y) false,[.sh u,.rf [.int m1]]):=by
   generalize pO=W,fT y=Y at *
   simp -dsimp[con,drs,dr,aX,others,bN,dJ,eX,e]
  rw[List.map_cons]
  generalize cj 0 pO (ak (aj 1) au)=G at e1 e' ⊢
  generalize fT y=Y at *
  unfold jy
  simp -dsimp[e1,bL,e']
def Gq(n:Nat):Ru->Prop
 |.sh ws=>ws.length=n/\∀w∈ws,Rb w
 |.mid k=>1<=k/\k<=n
 |_=>True
def yu:EF:=cM [none,some 0] (jk (ak (aj 1) au)) (gN 0) cU (cj 0 pO (ak (aj 1) au))
theorem agU(n:Int)(k:Nat)(hk:k<=4)(s2:Sl):∃ws m,yu [.rf [.int n],.sh (.int k),s2]=.ok (.v (bD ws) true,[.rf [.int m],.sh (.int k),s2])/\ws.length=k/\∀w∈ws,Rb w:=by
 obtain⟨ws,s',m,e,hl,hp⟩:=WX (L2.upTo 0 k) .un n
 rw[qI]at hl
 refine⟨ws,m,?_,hl,hp⟩
 unfold yu bD
 generalize cj 0 pO (ak (aj 1) au)=G at e ⊢
 have h1:(-1000000:Int)<=k:=by omega
 have h2:(k:Int)<=1000000:=by omega
 have h3:k<=100000:=by omega
 simp -dsimp[bU,cV,gq,bN,con,eY,eB,aP,cL,dr,drs,cls,bL,gJ,g1,g2,gI,eF,gB,aH,bF,bT,aO,dU,gQ,dF,gU,dw,bV,cN,dg,fW,aB,aL,iU,gW,d7,gY,gZ,dI,dW,okR,cW,aX,others,cG,bW,cZ,eG,eN,dN,j8,d8,jz,jG,jo,iZ,iM,eO,j9,jf,dH,cX,dY,aW,h1,h2,h3,e,qI]
theorem agV(n:Int){k:Nat}(h1:1<=k)(hk:k<=4):∃r m,wZ [.lst [.int n],.int k]=.ok ((xV r,false),[.int m])/\Gq k r:=by
 obtain⟨w,n1,e1,w0,w1⟩:=tk n 8 (by omega) (by decide)
 have mQ:bV (.int w) (.int 3)=.ok (.bl (decide (w<3)),false):=rfl
 have Gs:bV (.int w) (.int 5)=.ok (.bl (decide (w<5)),false):=rfl
 have df:dw (.int w) (.int 5)=.ok (.int (w-5),false):=rfl
 show ∃r m,fX 3 0 (aC (aV (cj 0 cO (ak (aj 0) (ak (eC (.int 8)) au))) (gN 2)) (aC (bw (aK (ao bV (aj 2) (eC (.int 3)))) (aG (gj (ak (eC (.str "shares")) (ak yu au)))) bx) (aC (bw (aK (ao bV (aj 2) (eC (.int 5)))) (aG (gj (ak (eC (.str "middle")) (ak (ao aO (eC (.int 1)) (cj 0 cO (ak (aj 0) (ak (aj 1) au)))) au)))) bx) (aG (ao aB (iy [.tup [.str "least"],.tup [.str "greatest"],.tup [.str "product"]]) (ao dw (aj 2) (eC (.int 5)))))))) [.lst [.int n],.int k]=.ok ((xV r,false),[.int m])/\Gq k r
 by_cases h3:w<3
 ·obtain⟨ws,m,e2,a1,a2⟩:=agU n1 k hk (.sh (.int w))
  refine⟨.sh ws,m,?_,a1,a2⟩
  rw[decide_eq_true h3]at mQ
  show _=Rs.ok ((Tr.tup [.str "shares",bD ws],false),_)
  generalize (k:Int)=k',bV=G,yu=S,bD ws=R at *
  unfold fX
  simp -dsimp[aW,con,drs,dr,cls,bL,aX,others,bN,bU,dJ,eX,aP,e1,mQ,e2]
 ·rw[decide_eq_false h3]at mQ
  by_cases h5:w<5
  ·obtain⟨y,n2,e2,y0,y1⟩:=tk n1 k (by omega) (by omega)
   obtain⟨j,hj⟩:∃j:Nat,(j:Int)=1+y:=⟨(1+y).toNat,by omega⟩
   refine⟨.mid j,n2,?_,by omega,by omega⟩
   rw[decide_eq_true h5]at Gs
   show _=Rs.ok ((Tr.tup [.str "middle",.int j],false),_)
   generalize (k:Int)=k',bV=G,yu=S at *
   unfold fX
   simp -dsimp[aW,con,drs,dr,cls,bL,aX,others,bN,bU,dJ,eX,aP,e1,mQ,Gs,e2,qW,hj]
  ·rw[decide_eq_false h5]at Gs
   obtain⟨r,er,hr⟩:∃r,aB (.lst [.tup [.str "least"],.tup [.str "greatest"],.tup [.str "product"]]) (.int (w-5))=.ok (xV r,false)/\Gq k r:=by
    rcases(show w=5\/w=6\/w=7 by omega)with rfl|rfl|rfl
    ·exact⟨.least,rfl,trivial⟩
    ·exact⟨.greatest,rfl,trivial⟩
    ·exact⟨.product,rfl,trivial⟩
   refine⟨r,n1,?_,hr⟩
   generalize (k:Int)=k',aB=I,dw=D,bV=G,yu=S,w-5=w5,xV r=R,([.tup [.str "least"],.tup [.str "greatest"],.tup [.str "product"]]:List Tr)=L at *
   unfold fX
   simp -dsimp[aW,con,drs,dr,cls,bL,aX,others,bN,bU,dJ,eX,aP,e1,mQ,Gs,df,er]
end K70
end
section
namespace K70
open PySem L2 BH PySem.NumText
theorem oX{a b:Str}(h:a.length+b.length<=100000):aO (.str a) (.str b)=.ok (.str (a++b),false):=if_pos h
theorem len1:("/" : Str).length=1∧(" " : Str).length=1∧("\n" : Str).length=1∧("" : Str).length=0:=by decide +kernel
theorem WY{x:Int × Int}(h:Rb x):∃s:Str,oO [fT x]=.ok (.str s,false)/\s.length<=81:=by
 obtain⟨h1,h2,h3,h4⟩:=h
 have a1:=Gb h1 h2
 have a2:=Gb (p:=x.2) (by omega) h4
 have l1:=tX h1 h2
 have l2:=tX (p:=x.2) (by omega) h4
 have c:=len1.1
 have eq1:aH (.int x.2) (.int 1)=.ok (.bl (decide (x.2=1)),false):=rfl
 have i0:aB (fT x) (.int 0)=.ok (.int x.1,false):=rfl
 have i1:aB (fT x) (.int 1)=.ok (.int x.2,false):=rfl
 have s1:=oX (a:=nS x.1) (b := "/") (by omega)
 have s2:=oX (a:=nS x.1 ++ "/") (b:=nS x.2) (by rw[len_app]; omega)
 unfold oO Ly
 by_cases k:x.2=1
 ·rw[decide_eq_true k]at eq1
  refine⟨nS x.1,?_,by omega⟩
  generalize aB=I,aH=E,jD=S,x.2=q,x.1=p,fT x=T,nS x.1=n1 at *
  simp -dsimp[aM,aW,dr,drs,aP,g1,eq1,i0,i1,a1]
 ·rw[decide_eq_false k]at eq1
  refine⟨nS x.1 ++ "/" ++ nS x.2,?_,by rw[len_app,len_app]; omega⟩
  generalize aO=A,aB=I,aH=E,jD=S,x.2=q,x.1=p,fT x=T,nS x.2=n2,nS x.1=n1,nS x.1 ++ "/" = n11,nS x.1 ++ "/" ++ nS x.2=n12 at *
  simp -dsimp[aM,aW,dr,drs,aP,g1,eq1,i0,i1,a1,a2,s1,s2]
def yw:SF:=aV (ao aO (ao aO (aj 1) (eC (.str " "))) (bB oO (ak (aj 2) au))) (gN 1)
theorem W4(s0:Sl):∀(ws:List (Int × Int)) (t:Str) (s2:Sl),(∀w∈ws,Rb w)->t.length+ws.length*82<=90000->∃(t':Str) (s':Sl),iV (gN 2) yw (ws.map fT) [s0,.sh (.str t),s2]=.ok (.nx,[s0,.sh (.str t'),s'])/\t'.length<=t.length+ws.length*82
 | [],t,s2,_,_=>⟨t,s2,rfl,by omega⟩
 |w::ws,t,s2,hw,hl=>by
  rw[List.length_cons]at hl
  obtain⟨s,e,ls⟩:=WY (hw w (by simp))
  have c:=len1.2.1
  have a1:=oX (a:=t) (b := " ") (by omega)
  have a2:=oX (a:=t ++ " ") (b:=s) (by rw[len_app]; omega)
  have q:(t ++ " " ++ s:Str).length=t.length+1+s.length:=by rw[len_app,len_app,c]
  obtain⟨t',s',e',l'⟩:=W4 s0 ws (t ++ " " ++ s) (.sh (fT w)) (λv hv=>hw v (by simp[hv])) (by omega)
  refine⟨t',s',?_,by rw[List.length_cons]; omega⟩
  have eb:yw [s0,.sh (.str t),.sh (fT w)]=.ok (.nx,[s0,.sh (.str (t ++ " " ++ s)),.sh (fT w)]):=by
   unfold yw
   generalize aO=A,oO=F,fT w=T,t ++ " " = u1,t ++ " " ++ s=u2 at *
   simp -dsimp[dr,drs,aX,e,a1,a2]
  rw[List.map_cons]
  exact tU eb e'
theorem agW{ws:List (Int × Int)}(hw:∀w∈ws,Rb w)(hl:ws.length<=4):∃s:Str,pP [.tup [.str "shares",bD ws]]=.ok (.str s,false)/\s.length<=400:=by
 have lc:("shares" : Str).length=6:=by decide +kernel
 obtain⟨t',s',e,l⟩:=W4 (.sh (.tup [.str "shares",bD ws])) ws "shares" .un hw (by omega)
 refine⟨t',?_,by omega⟩
 have e1:=sEq "shares"
 have e2:aH (.str "shares") (.str "middle")=.ok (.bl false,false):=sNe (by decide +kernel)
 have i0:aB (.tup [.str "shares",bD ws]) (.int 0)=.ok (.str "shares",false):=rfl
 have fs:∀s1 s2,cQ (ao aB (aj 0) (eC (.int 1))) [.sh (.tup [.str "shares",bD ws]),s1,s2]=.ok (ws.map fT,[.sh (.tup [.str "shares",bD ws]),s1,s2]):=λ_ _=>rfl
 show aM 3 (aC (aV (ao aB (aj 0) (eC (.int 0))) (gN 1)) (aC (bw (aK (ao aH (ao aB (aj 0) (eC (.int 0))) (eC (.str "shares")))) (gk (iw (cQ (ao aB (aj 0) (eC (.int 1)))) (gN 2) yw)) bx) (aC (bw (aK (ao aH (ao aB (aj 0) (eC (.int 0))) (eC (.str "middle")))) (aV (ao aO (ao aO (aj 1) (eC (.str " "))) (bh (g1 jD) (ak (ao aB (aj 0) (eC (.int 1))) au))) (gN 1)) bx) (aG (aj 1))))) _=_
 generalize aB=I,aH=E,yw=B,cQ _=I',("middle" : Str)=M,("shares" : Str)=S,Tr.tup [.str "shares",bD ws]=T,ws.map fT=L at *
 simp -dsimp[aM,aW,dr,bU,aP,i0,e1,e2,fs,e]
theorem agX{k:Nat}(hk:k<=4):∃s:Str,pP [.tup [.str "middle",.int k]]=.ok (.str s,false)/\s.length<=400:=by
 have lc:("middle" : Str).length=6:=by decide +kernel
 have a1:=Gb (p:=k) (by omega) (by omega)
 have l1:=tX (p:=k) (by omega) (by omega)
 have c:=len1.2.1
 have s1:=oX (a := "middle") (b := " ") (by omega)
 have s2:=oX (a := "middle" ++ " ") (b:=nS k) (by rw[len_app]; omega)
 refine⟨"middle" ++ " " ++ nS k,?_,by rw[len_app,len_app]; omega⟩
 have e1:=sEq "middle"
 have e2:aH (.str "middle") (.str "shares")=.ok (.bl false,false):=sNe (by decide +kernel)
 have i0:aB (.tup [.str "middle",.int k]) (.int 0)=.ok (.str "middle",false):=rfl
 have i1:aB (.tup [.str "middle",.int k]) (.int 1)=.ok (.int k,false):=rfl
 show aM 3 (aC (aV (ao aB (aj 0) (eC (.int 0))) (gN 1)) (aC (bw (aK (ao aH (ao aB (aj 0) (eC (.int 0))) (eC (.str "shares")))) (gk (iw (cQ (ao aB (aj 0) (eC (.int 1)))) (gN 2) yw)) bx) (aC (bw (aK (ao aH (ao aB (aj 0) (eC (.int 0))) (eC (.str "middle")))) (aV (ao aO (ao aO (aj 1) (eC (.str " "))) (bh (g1 jD) (ak (ao aB (aj 0) (eC (.int 1))) au))) (gN 1)) bx) (aG (aj 1))))) _=_
 generalize jD=St,aO=A,aB=I,aH=E,gk _=X,("middle" : Str)=M,("shares" : Str)=S,Tr.tup [.str "middle",.int k]=T,nS k=n1,("middle" ++ " " : Str)=u1,("middle" ++ " " ++ nS k:Str)=u2 at *
 simp -dsimp[aM,aW,dr,drs,g1,aP,i0,i1,e1,e2,a1,s1,s2]
theorem Oa{w:Str}(h:bare w=true):∃s:Str,pP [.tup [.str w]]=.ok (.str s,false)/\s.length<=400:=by
 refine⟨w,?_,by rcases qd h with rfl|rfl|rfl <;> decide +kernel⟩
 have e1:aH (.str w) (.str "middle")=.ok (.bl false,false):=sNe (by rcases qd h with rfl|rfl|rfl <;> decide +kernel)
 have e2:aH (.str w) (.str "shares")=.ok (.bl false,false):=sNe (by rcases qd h with rfl|rfl|rfl <;> decide +kernel)
 have i0:aB (.tup [.str w]) (.int 0)=.ok (.str w,false):=rfl
 unfold pP Lz
 generalize aB=I,aH=E,gk _=X,("middle" : Str)=M,("shares" : Str)=S,Tr.tup [.str w]=T at *
 simp -dsimp[aM,aW,dr,drs,g1,aP,i0,e1,e2]
theorem agY{r:Ru}{n:Nat}(h:Gq n r)(hn:n<=4):∃s:Str,pP [xV r]=.ok (.str s,false)/\s.length<=400:=by
 cases r with
 |sh ws=>exact agW h.2 (by have:=h.1; omega)
 |mid k=>exact agX (by have:=h.2; omega)
 |least=>exact Oa (by decide +kernel)
 |greatest=>exact Oa (by decide +kernel)
 |product=>exact Oa (by decide +kernel)
end K70
end
section
namespace K70
open PySem L2 BH PySem.NumText
theorem Gu(lo hi:Option Int){z:Str}(h:z.length<=100000):jC lo hi (.str z)=.ok (.str (Txt.slice z lo hi),false):=if_pos h
def Bh:SF:=aV (ao aO (ao aO (aj 1) (bB oO (ak (aj 3) au))) (eC (.str " "))) (gN 1)
def yx:EF:=gD (aj 1) gA (gC (j5 sI (eC (.int 1))))
def Bj:SF:=aC (iw (cQ (aj 2)) (gN 3) Bh) (aV (ao aO yx (eC (.str "\n"))) (gN 1))
theorem W6(s0 s2:Sl):∀(ws:List (Int × Int)) (t:Str) (s3:Sl),(∀w∈ws,Rb w)->t.length+ws.length*82<=90000->∃(t':Str) (s':Sl),iV (gN 3) Bh (ws.map fT) [s0,.sh (.str t),s2,s3]=.ok (.nx,[s0,.sh (.str t'),s2,s'])/\t'.length<=t.length+ws.length*82
 | [],t,s3,_,_=>⟨t,s3,rfl,by omega⟩
 |w::ws,t,s3,hw,hl=>by
  rw[List.length_cons]at hl
  obtain⟨s,e,ls⟩:=WY (hw w (by simp))
  have c:=len1.2.1
  have a1:=oX (a:=t) (b:=s) (by omega)
  have a2:=oX (a:=t++s) (b := " ") (by rw[len_app]; omega)
  have q:(t++s ++ " " : Str).length=t.length+s.length+1:=by rw[len_app,len_app,c]
  obtain⟨t',s',e',l'⟩:=W6 s0 s2 ws (t++s ++ " ") (.sh (fT w)) (λv hv=>hw v (by simp[hv])) (by omega)
  refine⟨t',s',?_,by rw[List.length_cons]; omega⟩
  have eb:Bh [s0,.sh (.str t),s2,.sh (fT w)]=.ok (.nx,[s0,.sh (.str (t++s ++ " ")),s2,.sh (fT w)]):=by
   unfold Bh
   generalize aO=A,oO=F,fT w=T,t++s=u1,t++s ++ " " = u2 at *
   simp -dsimp[dr,drs,aX,e,a1,a2]
  rw[List.map_cons]
  exact tU eb e'
theorem W7(s0:Sl){t:Str}(τ : En)(h:t.length<=100000):yx (s0 :: .sh (.str t)::τ)=.ok (.v (.str (Txt.slice t none (some (-1)))) false,s0 :: .sh (.str t)::τ):=by
 have e:=Gu none (some (-1)) h
 have n:sI (.int 1)=.ok (.int (-1),false):=rfl
 unfold yx
 generalize (-1:Int)=m,sI=N,Txt.slice t none (some (-1))=u at *
 simp -dsimp[dr,cW,n,e]
theorem agZ(s0:Sl)(l:List (Int × Int))(t:Str)(s3:Sl)(hw:∀w∈l,Rb w)(hl:t.length+l.length*82<=80000):∃(t':Str) (s':Sl),Bj [s0,.sh (.str t),.sh (bD l),s3]=.ok (.nx,[s0,.sh (.str t'),.sh (bD l),s'])/\t'.length<=t.length+l.length*82+1:=by
 obtain⟨t1,s',e,l1⟩:=W6 s0 (.sh (bD l)) l t s3 hw (by omega)
 have e2:=W7 s0 (t:=t1) [.sh (bD l),s'] (by omega)
 have sl:=Txt.slice_le t1 none (some (-1))
 have c:=len1.2.2.1
 have a:=oX (a:=Txt.slice t1 none (some (-1))) (b := "\n") (by omega)
 refine⟨Txt.slice t1 none (some (-1)) ++ "\n",s',?_,by rw[len_app]; omega⟩
 have fs:cQ (aj 2) [s0,.sh (.str t),.sh (bD l),s3]=.ok (l.map fT,[s0,.sh (.str t),.sh (bD l),s3]):=rfl
 unfold Bj
 generalize aO=A,yx=E,Bh=B,cQ _=I,bD l=R,l.map fT=L,Txt.slice t1 none (some (-1))=u,Txt.slice t1 none (some (-1)) ++ "\n" = v at *
 simp -dsimp[dr,fs,e,e2,a]
theorem W8(s0:Sl):∀(ls:List (List (Int × Int))) (t:Str) (s2 s3:Sl),(∀l∈ls,l.length<=12/\∀w∈l,Rb w)->t.length+ls.length*1000<=70000->∃(t':Str) (s2' s':Sl),iV (gN 2) Bj (ls.map bD) [s0,.sh (.str t),s2,s3]=.ok (.nx,[s0,.sh (.str t'),s2',s'])/\t'.length<=t.length+ls.length*1000
 | [],t,s2,s3,_,_=>⟨t,s2,s3,rfl,by omega⟩
 |l::ls,t,s2,s3,h,hl=>by
  rw[List.length_cons]at hl
  obtain⟨h1,h2⟩:=h l (by simp)
  obtain⟨t1,s1,e1,l1⟩:=agZ s0 l t s3 h2 (by omega)
  obtain⟨t',s2',s',e',l'⟩:=W8 s0 ls t1 (.sh (bD l)) s1 (λv hv=>h v (by simp[hv])) (by omega)
  refine⟨t',s2',s',?_,by rw[List.length_cons]; omega⟩
  rw[List.map_cons]
  exact tU e1 e'
theorem ag0{ls:List (List (Int × Int))}(h:∀l∈ls,l.length<=12/\∀w∈l,Rb w)(hl:ls.length<=4):∃s:Str,vf [eZ ls]=.ok (.str s,false)/\s.length<=4000:=by
 have c:=len1.2.2.2
 obtain⟨t,s2,s3,e,l⟩:=W8 (.sh (eZ ls)) ls "" .un .un h (by omega)
 have e2:=W7 (.sh (eZ ls)) (t:=t) [s2,s3] (by omega)
 have sl:=Txt.slice_le t none (some (-1))
 refine⟨Txt.slice t none (some (-1)),?_,by omega⟩
 have fs:∀s1 s2 s3,cQ (aj 0) [.sh (eZ ls),s1,s2,s3]=.ok (ls.map bD,[.sh (eZ ls),s1,s2,s3]):=λ_ _ _=>rfl
 show aM 4 (aC (aV (eC (.str "")) (gN 1)) (aC (gk (iw (cQ (aj 0)) (gN 2) Bj)) (aG yx))) _=_
 generalize ("" : Str)=z,yx=E,Bj=B,cQ _=I,eZ ls=R,ls.map bD=L,Txt.slice t none (some (-1))=u at *
 simp -dsimp[aM,aW,bU,fs,e,e2]
end K70
end
section
namespace K70
open PySem L2 BH PySem.NumText
def wS:List Str->Nat
 | []=>0
 |v::r=>v.length+1+wS r
theorem rD:∀(a b:List Str),wS (a++b)=wS a+wS b
 | [],b=>by show wS b=0+wS b; omega
 |v::a,b=>by
  have:=rD a b
  show v.length+1+wS (a++b)=v.length+1+wS a+wS b
  omega
theorem Ob:∀{vs:List Str} {v:Str},v∈vs->v.length+1<=wS vs
 |w::r,v,h=>by
  show v.length+1<=w.length+1+wS r
  rcases List.mem_cons.mp h with rfl|h
  ·omega
  ·have:=Ob h; omega
theorem nQ:∀vs:List Str,vs.length<=wS vs
 | []=>Nat.le_refl _
 |w::r=>by
  have:=nQ r
  show r.length+1<=w.length+1+wS r
  omega
theorem Gv{s:Str}(hs:s.length<=1):∀vs:List Str,(Str.join s vs).length<=wS vs
 | []=>Nat.zero_le _
 | [x]=>by show x.length<=x.length+1+0; omega
 |x::y::r=>by
  have:=Gv hs (y::r)
  show(x++s++Str.join s (y::r)).length<=x.length+1+wS (y::r)
  rw[len_app,len_app]
  omega
theorem W9:∀vs:List Str,wS vs=(vs.map λx=>x.length).sum+vs.length
 | []=>rfl
 |w::r=>by
  have:=W9 r
  rw[List.map_cons,List.sum_cons,List.length_cons]
  show w.length+1+wS r=_
  omega
theorem Oc{s:Str}(hs:s.length<=1){vs:List Str}(h:wS vs<=1000000):JoinOk s vs=true:=by
 refine PyProof.Rows.joinOk_of ?_
 have:=W9 vs
 have:=Nat.mul_le_mul_left vs.length hs
 omega
theorem Xa(c:Nat):∀ps:List (List Nat),ps≠[]->(ps.map λp=>p.length+1).sum=(mq c ps).length+1
 | [],h=>absurd rfl h
 | [p],_=>by simp[mq]
 |p::q::r,_=>by
  have:=Xa c (q::r) (List.cons_ne_nil _ _)
  rw[List.map_cons,List.sum_cons,this]
  show _=(p++c::mq c (q::r)).length+1
  rw[List.length_append,List.length_cons]
  omega
theorem Od(z:Str)(c:Nat):wS (Txt.split z ⟨#[c]⟩)=z.length+1:=by
 have e:=xO z c
 have j:=Gd c z.cps.toList
 have l:=Xa c (spl c z.cps.toList) (vh c _)
 rw[j,<-e,List.map_map,<-vm]at l
 rw[<-l]
 generalize Txt.split z ⟨#[c]⟩=vs
 induction vs with
 |nil=>rfl
 |cons v r ih =>
  rw[List.map_cons,List.sum_cons]
  show v.length+1+wS r=v.cps.toList.length+1+_
  rw[ih,vm]
theorem Oe(vs:List Str)(i:Nat)(h:i<vs.length):wS (vs.take i)+(vs[i].length+1)+wS (vs.drop (i+1))=wS vs:=by
 have e:vs=vs.take i++vs[i]::vs.drop (i+1):=by rw[List.getElem_cons_drop,List.take_append_drop]
 have:=congrArg wS e
 rw[rD]at this
 rw[this]
 show _=_+(vs[i].length+1+wS (vs.drop (i+1)))
 omega
theorem ag1(vs:List Str)(i:Nat)(h:i<vs.length)(v:Str):wS (vs.set i v)+(vs[i].length+1)=wS vs+(v.length+1):=by
 have a:=Oe vs i h
 rw[List.set_eq_take_append_cons_drop,if_pos h,rD]
 show wS (vs.take i)+(v.length+1+wS (vs.drop (i+1)))+_=_
 omega
noncomputable def lD:List Str:=["", "0", "1", "00", "01", "-1", "-0", "+1", "1/1", "0/1", "2/4", "3/2", "1/0", "/", "1/", "/2", "1/02",Txt.mul "1" 40,Txt.mul "1" 41, "1/" ++ Txt.mul "3" 40, "1/" ++ Txt.mul "3" 41, "least", "middle", "shares", "product", "2", "greatest", "1 1", "5", "1/2"]
theorem Xb:lD.length=30/\∀w∈lD,w.length<=43:=by decide +kernel
def Og:SF:=aV (iy [.str "",.str "0",.str "1",.str "00",.str "01",.str "-1",.str "-0",.str "+1",.str "1/1",.str "0/1",.str "2/4",.str "3/2",.str "1/0",.str "/",.str "1/",.str "/2",.str "1/02"]) (gN 2)
noncomputable def Xc:SF:=aV (ao aO (aj 2) (dX (ak (ao m5 (eC (.str "1")) (eC (.int 40))) (ak (ao m5 (eC (.str "1")) (eC (.int 41))) (ak (ao aO (eC (.str "1/")) (ao m5 (eC (.str "3")) (eC (.int 40)))) (ak (ao aO (eC (.str "1/")) (ao m5 (eC (.str "3")) (eC (.int 41)))) (ak (eC (.str "least")) (ak (eC (.str "middle")) (ak (eC (.str "shares")) (ak (eC (.str "product")) (ak (eC (.str "2")) au))))))))))) (gN 2)
def Xd:SF:=aV (ao aO (aj 2) (iy [.str "greatest",.str "1 1",.str "5",.str "1/2"])) (gN 2)
theorem ag2(s0 s1 s3 s4 s5:Sl)(R:SF):aC Og (aC Xc (aC Xd R)) [s0,s1,.un,s3,s4,s5]=R [s0,s1,.sh (.lst (lD.map .str)),s3,s4,s5]:=by kernel_rfl
end K70
end
section
namespace K70
open PySem L2 BH PySem.NumText
def Bl:EF:=ao aB (dX (ak (dX (ak (aj 5) au)) (ak (dX (ak (ao aB (aj 0) (aj 3)) (ak (aj 5) au))) (ak (dX au) (ak (dX (ak (ao aB (aj 0) (aj 3)) (ak (ao aB (aj 0) (aj 3)) au))) au))))) (aj 4)
noncomputable def Gw:SF:=aC (aV (cj 0 cO (ak (aj 1) (ak (bh (g1 aL) (ak (aj 0) au)) au))) (gN 3)) (aC (aV (cj 0 cO (ak (aj 1) (ak (eC (.int 4)) au))) (gN 4)) (aC (aV (ao aB (aj 2) (cj 0 cO (ak (aj 1) (ak (eC (.int 30)) au)))) (gN 5)) (aG (ao aO (ao aO (gD (aj 0) gA (gC (aj 3))) Bl) (gD (aj 0) (gC (ao aO (aj 3) (eC (.int 1)))) gA)))))
def mids(w v:Str):List (List Str):=[[v],[w,v],[],[w,w]]
theorem ag3{L:Tr}{at':Tr}{w v:Str}(hw:aB L at'=.ok (.str w,false))(s1 s2:Sl)(k:Nat)(hk:k<4):∃ms∈mids w v,Bl [.sh L,s1,s2,.sh at',.sh (.int k),.sh (.str v)]=.ok (.v (.lst (ms.map .str)) false,[.sh L,s1,s2,.sh at',.sh (.int k),.sh (.str v)]):=by
 have g:∀ms,(mids w v)[k]?=some ms->Bl [.sh L,s1,s2,.sh at',.sh (.int k),.sh (.str v)]=.ok (.v (.lst (ms.map .str)) false,[.sh L,s1,s2,.sh at',.sh (.int k),.sh (.str v)]):=λms hm=>by
  have i:aB (.lst ((mids w v).map λl=>.lst (l.map .str))) (.int k)=.ok (.lst (ms.map .str),false):=pX (by rw[List.getElem?_map,hm]; rfl)
  change aB (.lst [.lst [.str v],.lst [.str w,.str v],.lst [],.lst [.str w,.str w]]) (.int k)=_ at i
  unfold Bl
  generalize aB=I,Tr.str v=V,Tr.str w=W,(k:Int)=k',Tr.lst (ms.map .str)=M at *
  simp -dsimp[dr,cls,bL,hw,i]
 have:k<(mids w v).length:=hk
 exact⟨(mids w v)[k],List.getElem_mem _,g _ (List.getElem?_eq_getElem this)⟩
theorem ag4{ws:List Str}(h0:ws≠[])(h1:wS ws<=40000)(n:Int):∃(vs:List Str) (m:Int) (ρ : En),Gw [.sh (.lst (ws.map .str)),.rf [.int n],.sh (.lst (lD.map .str)),.un,.un,.un]=.ok (.rt (.lst (vs.map .str)) true,.sh (.lst (ws.map .str)) :: .rf [.int m]::ρ)/\wS vs<=2*wS ws+50:=by
 have hl:=nQ ws
 have hp:0<ws.length:=List.length_pos_iff.mpr h0
 obtain⟨x,n1,e1,x0,x1⟩:=tk n (ws.length:Nat) (by omega) (by omega)
 obtain⟨y,n2,e2,y0,y1⟩:=tk n1 4 (by omega) (by decide)
 obtain⟨t,n3,e3,t0,t1⟩:=tk n2 30 (by omega) (by decide)
 obtain⟨i,rfl⟩:∃i:Nat,x=i:=⟨x.toNat,by omega⟩
 obtain⟨k,rfl⟩:∃i:Nat,y=i:=⟨y.toNat,by omega⟩
 obtain⟨j,rfl⟩:∃i:Nat,t=i:=⟨t.toNat,by omega⟩
 have hi:i<ws.length:=by omega
 have hj:j<lD.length:=by have:=Xb.1; omega
 have vo:aB (.lst (ws.map .str)) (.int i)=.ok (.str ws[i],false):=pX (by rw[List.getElem?_map,List.getElem?_eq_getElem hi]; rfl)
 have g2:aB (.lst (lD.map .str)) (.int j)=.ok (.str lD[j],false):=pX (by rw[List.getElem?_map,List.getElem?_eq_getElem hj]; rfl)
 have l2:=Xb.2 _ (List.getElem_mem hj)
 obtain⟨ms,hm,em⟩:=ag3 (v:=lD[j]) vo (.rf [.int n3]) (.sh (.lst (lD.map .str))) k (by omega)
 have cw:=Oe ws i hi
 have lm:wS ms<=2*ws[i].length+50:=by
  unfold mids at hm
  simp only[List.mem_cons,List.not_mem_nil,or_false]at hm
  rcases hm with rfl|rfl|rfl|rfl
  ·show lD[j].length+1+0<=_; omega
  ·show ws[i].length+1+(lD[j].length+1+0)<=_; omega
  ·show 0<=_; omega
  ·show ws[i].length+1+(ws[i].length+1+0)<=_; omega
 have s1:jC none (some (i:Int)) (.lst (ws.map .str))=.ok (.lst ((ws.take i).map .str),true):=by rw[List.map_take]; exact FN _ i
 have s2:jC (some ((i:Int)+1)) none (.lst (ws.map .str))=.ok (.lst ((ws.drop (i+1)).map .str),true):=by rw[List.map_drop]; exact xW _ (i+1)
 have lA:wS (ws.take i++ms++ws.drop (i+1))<=2*wS ws+50:=by rw[rD,rD]; omega
 have a1:aO (.lst ((ws.take i).map .str)) (.lst (ms.map .str))=.ok (.lst ((ws.take i++ms).map .str),true):=by
  rw[List.map_append]
  exact FQ (by rw[List.length_map,List.length_map]; have:=nQ (ws.take i); have:=nQ ms; omega)
 have a2:aO (.lst ((ws.take i++ms).map .str)) (.lst ((ws.drop (i+1)).map .str))=.ok (.lst ((ws.take i++ms++ws.drop (i+1)).map .str),true):=by
  rw[List.map_append (l₁ := ws.take i++ms)]
  refine FQ ?_
  rw[List.length_map,List.length_map]
  have:=nQ (ws.take i++ms); have:=nQ (ws.drop (i+1))
  rw[rD]at lA
  omega
 refine⟨ws.take i++ms++ws.drop (i+1),n3,[.sh (.lst (lD.map .str)),.sh (.int i),.sh (.int k),.sh (.str lD[j])],?_,lA⟩
 have gl:aL (.lst (ws.map .str))=.ok (.int (ws.length:Nat),false):=by
  show Rs.ok (Tr.int ((ws.map Tr.str).length:Nat),false)=_
  rw[List.length_map]
 have ai:=qW (i:Int) 1
 unfold Gw
 generalize aL=G,aB=I,aO=A,Bl=M,(j:Int)=j',(k:Int)=k',(i:Int)=i',((ws.length:Nat):Int)=N,(i:Int)+1=i1,Tr.str ws[i]=W,Tr.str lD[j]=V,Tr.lst (lD.map .str)=L2,Tr.lst (ws.map .str)=L1,Tr.lst (ms.map .str)=L7,Tr.lst ((ws.drop (i+1)).map .str)=L6,Tr.lst ((ws.take i).map .str)=L3,Tr.lst ((ws.take i++ms).map .str)=L4,Tr.lst ((ws.take i++ms++ws.drop (i+1)).map .str)=L5 at *
 simp -dsimp[con,drs,dr,g1,aX,others,bN,dJ,eX,cW,gl,e1,e2,e3,g2,s1,s2,em,a1,a2,ai]
theorem ag5{ws:List Str}(h0:ws≠[])(h1:wS ws<=40000)(n:Int):∃(vs:List Str) (m:Int),xq [.lst (ws.map .str),.lst [.int n]]=.ok ((.lst (vs.map .str),true),[.int m])/\wS vs<=2*wS ws+50:=by
 obtain⟨vs,m,ρ,e,l⟩:=ag4 h0 h1 n
 refine⟨vs,m,?_,l⟩
 show fX 6 1 (aC Og (aC Xc (aC Xd Gw))) _=_
 have e2:=(ag2 (.sh (.lst (ws.map .str))) (.rf [.int n]) .un .un .un Gw).trans e
 generalize Tr.lst (vs.map .str)=L2,Tr.lst (ws.map .str)=L1,aC Og _=S at *
 unfold fX
 simp -dsimp[aW,bU,e2]
end K70
end
section
namespace K70
open PySem L2 BH PySem.NumText
def vB:EF:=ao aO (ao aO (gD (aj 0) gA (gC (aj 3))) (ao aB (dX (ak (aj 4) (ak (aj 4) (ak (eC (.str "")) au)))) (aj 2))) (gD (aj 0) (gC (ao aO (ao aO (aj 3) (ao dF (aj 2) (eC (.int 2)))) (ao gQ (aj 2) (eC (.int 2))))) gA)
noncomputable def BnR(F:SF)(z:Str):Prop:=∀(n:Int) (w a:Int) (s:Str),0<=w->w<8->s.length=1->(∃(t:Str) (m:Int) (ρ : En),F [.sh (.str z),.rf [.int n],.sh (.int w),.sh (.int a),.sh (.str s),.un,.un,.un]=.ok (.rt (.str t) false,.sh (.str z) :: .rf [.int m]::ρ)/\t.length<=2*z.length+100)
theorem ag6{z:Str}(hz:z.length<=20000)(n w a:Int)(s:Str)(w0:0<=w)(w3:w<3)(hs:s.length=1):∃t:Str,vB [.sh (.str z),.rf [.int n],.sh (.int w),.sh (.int a),.sh (.str s),.un,.un,.un]=.ok (.v (.str t) false,[.sh (.str z),.rf [.int n],.sh (.int w),.sh (.int a),.sh (.str s),.un,.un,.un])/\t.length<=2*z.length+100:=by
 obtain⟨b,c,u,h1,h2,h3,hu⟩:∃(b c:Int) (u:Str),dF (.int w) (.int 2)=.ok (.int b,false)/\gQ (.int w) (.int 2)=.ok (.int c,false)/\aB (.lst [.str s,.str s,.str ""]) (.int w)=.ok (.str u,false)/\u.length<=1:=by
  have c:=len1.2.2.2
  rcases(show w=0\/w=1\/w=2 by omega)with rfl|rfl|rfl
  ·exact⟨0,0,s,rfl,rfl,rfl,by omega⟩
  ·exact⟨1,0,s,rfl,rfl,rfl,by omega⟩
  ·exact⟨0,1, "",rfl,rfl,rfl,by omega⟩
 have s1:=Gu none (some a) (z:=z) (by omega)
 have s2:=Gu (some (a+b+c)) none (z:=z) (by omega)
 have l1:=Txt.slice_le z none (some a)
 have l2:=Txt.slice_le z (some (a+b+c)) none
 have a1:=oX (a:=Txt.slice z none (some a)) (b:=u) (by omega)
 have a2:=oX (a:=Txt.slice z none (some a)++u) (b:=Txt.slice z (some (a+b+c)) none) (by rw[len_app]; omega)
 refine⟨Txt.slice z none (some a)++u++Txt.slice z (some (a+b+c)) none,?_,by rw[len_app,len_app]; omega⟩
 have i1:=qW a b
 have i2:=qW (a+b) c
 unfold vB
 generalize gQ=D,dF=M,aB=I,aO=A,a+b=ab,a+b+c=abc,("" : Str)=e,Tr.str s=S,Txt.slice z (some (a+b+c)) none=t4,Txt.slice z none (some a)=t1,Txt.slice z none (some a)++u=t2,Txt.slice z none (some a)++u++Txt.slice z (some (a+b+c)) none=t3 at *
 simp -dsimp[dr,cls,bL,cW,s1,s2,h1,h2,h3,i1,i2,a1,a2]
theorem Xe{n k:Nat}(h:k<n):dY n (k:Int)=some k:=by
 unfold dY
 simp
 omega
def yC:SF:=uG 5 (eH dR (aj 0) (eC (.str "\n")))
def yD:SF:=aV (cj 0 cO (ak (aj 1) (ak (bh (g1 aL) (ak (aj 5) au)) au))) (gN 6)
theorem Xf{z:Str}(hz:z.length<=20000)(s1 s2 s3 s4 s6 s7:Sl):yC [.sh (.str z),s1,s2,s3,s4,.un,s6,s7]=.ok (.nx,[.sh (.str z),s1,s2,s3,s4,.ow ((Txt.split z "\n").map .str),s6,s7]):=by
 obtain⟨h1,_,_⟩:=qX z 10 (by omega)
 rw[<-feed]at h1
 unfold yC
 generalize dR=G,(Txt.split z "\n").map Tr.str=L at *
 simp -dsimp[dr,h1]
theorem Xg{L:List Str}(h0:L≠[])(hl:L.length<=50000)(n:Int)(s0 s2 s3 s4 s6 s7:Sl):∃(i:Nat) (m:Int),i<L.length/\yD [s0,.rf [.int n],s2,s3,s4,.ow (L.map .str),s6,s7]=.ok (.nx,[s0,.rf [.int m],s2,s3,s4,.ow (L.map .str),.sh (.int i),s7]):=by
 have hp:0<L.length:=List.length_pos_iff.mpr h0
 obtain⟨x,m,e1,x0,x1⟩:=tk n (L.length:Nat) (by omega) (by omega)
 obtain⟨i,rfl⟩:∃i:Nat,x=i:=⟨x.toNat,by omega⟩
 refine⟨i,m,by omega,?_⟩
 have gl:aL (.lst (L.map .str))=.ok (.int (L.length:Nat),false):=by
  show Rs.ok (Tr.int ((L.map Tr.str).length:Nat),false)=_
  rw[List.length_map]
 unfold yD
 generalize (i:Int)=i',aL=G,L.map Tr.str=M,((L.length:Nat):Int)=N at *
 simp -dsimp[con,drs,dr,g1,aX,others,bN,dJ,eX,gl,e1]
def Gx:EF:=eH iK (eC (.str " ")) (cj 1 xq (ak (eH dR (ao aB (aj 5) (aj 6)) (eC (.str " "))) (ak (aj 1) au)))
theorem ag7{L:List Str}{i:Nat}(hi:i<L.length)(hl:wS L<=21000)(n:Int)(s0 s2 s3 s4 s7:Sl):∃(J:Str) (m:Int),Gx [s0,.rf [.int n],s2,s3,s4,.ow (L.map .str),.sh (.int i),s7]=.ok (.v (.str J) false,[s0,.rf [.int m],s2,s3,s4,.ow (L.map .str),.sh (.int i),s7])/\J.length<=2*L[i].length+60:=by
 have ml:=Ob (List.getElem_mem hi)
 have vo:aB (.lst (L.map .str)) (.int i)=.ok (.str L[i],false):=pX (by rw[List.getElem?_map,List.getElem?_eq_getElem hi]; rfl)
 generalize L[i]=l at *
 obtain⟨h1,_,_⟩:=qX l 32 (by omega)
 rw[<-blank]at h1
 have w:=Od l 32
 rw[<-blank]at w
 obtain⟨vs,m,e,lv⟩:=ag5 (xM l " ") (by omega) n
 have j:=Bc (s := " ") (ts:=vs) (Oc Ge (by omega))
 have jl:=Gv Ge vs
 refine⟨Str.join " " vs,m,?_,by omega⟩
 unfold Gx
 generalize Tr.lst (vs.map .str)=L2,Tr.lst ((Txt.split l " ").map .str)=L1,Str.join " " vs=J at *
 generalize hT:L.map Tr.str=T at *
 generalize xq=F,iK=K,dR=G,aB=I,(i:Int)=i' at *
 simp -dsimp[con,drs,dr,aX,others,bN,dJ,eX,vo,h1,e,j]
def vC:SF:=aC yC (aC yD (aC (zP 5 (aj 6) Gx) (CP 5 (aG (eH iK (eC (.str "\n")) (aj 5))))))
theorem ag8{z:Str}(hz:z.length<=20000)(n:Int)(s2 s3 s4:Sl):∃(t:Str) (m:Int) (ρ : En),vC [.sh (.str z),.rf [.int n],s2,s3,s4,.un,.un,.un]=.ok (.rt (.str t) false,.sh (.str z) :: .rf [.int m]::ρ)/\t.length<=2*z.length+100:=by
 have e1:=Xf hz (.rf [.int n]) s2 s3 s4 .un .un
 have wz:=Od z 10
 have h0:=xM z "\n"
 rw[<-feed]at wz
 generalize Txt.split z "\n" = L at *
 have hl:=nQ L
 obtain⟨i,n1,hi,e2⟩:=Xg h0 (by omega) n (.sh (.str z)) s2 s3 s4 .un .un
 obtain⟨J,n2,e3,lJ⟩:=ag7 hi (by omega) n1 (.sh (.str z)) s2 s3 s4 .un
 have ws:=ag1 L i hi J
 have ml:=Ob (List.getElem_mem hi)
 have j:=Bc (s := "\n") (ts:=L.set i J) (Oc Bd (by omega))
 have jl:=Gv Bd (L.set i J)
 refine⟨Str.join "\n" (L.set i J),n2,[s2,s3,s4,.sh (.lst ((L.set i J).map .str)),.sh (.int i),.un],?_,by omega⟩
 have hx:dY (L.map Tr.str).length (i:Int)=some i:=Xe (by rw[List.length_map]; exact hi)
 have hm:(L.map Tr.str).set i (.str J)=(L.set i J).map .str:=(List.map_set).symm
 unfold vC
 generalize iK=K,Gx=B3,yD=B2,yC=B1,(i:Int)=i',L.map Tr.str=M,(L.set i J).map Tr.str=M2,Str.join "\n" (L.set i J)=R at *
 simp -dsimp[con,drs,dr,cls,bL,cW,bN,cV,e1,e2,e3,hx,hm,j]
end K70
end
section
namespace K70
open PySem L2 BH PySem.NumText
def Gy:EF:=ao aB (dX (ak (dX au) (ak (ao dU (dX (ak (ao aB (aj 5) (aj 6)) au)) (eC (.int 2))) (ak (dX (ak (ao aB (aj 5) (aj 6)) (ak (eC (.str "")) au))) au)))) (cj 0 cO (ak (aj 1) (ak (eC (.int 3)) au)))
theorem ag9{L:List Tr}{i:Int}{l:Str}(hw:aB (.lst L) (.int i)=.ok (.str l,false))(n:Int)(s0 s2 s3 s4 s7:Sl):∃(ms:List Str) (m:Int),Gy [s0,.rf [.int n],s2,s3,s4,.ow L,.sh (.int i),s7]=.ok (.v (.lst (ms.map .str)) false,[s0,.rf [.int m],s2,s3,s4,.ow L,.sh (.int i),s7])/\wS ms<=2*l.length+2:=by
 obtain⟨x,m,e1,x0,x1⟩:=tk n 3 (by omega) (by decide)
 have ml:dU (.lst [.str l]) (.int 2)=.ok (.lst [.str l,.str l],true):=rfl
 obtain⟨ms,hx,lm⟩:∃ms:List Str,aB (.lst [.lst [],.lst [.str l,.str l],.lst [.str l,.str ""]]) (.int x)=.ok (.lst (ms.map .str),false)/\wS ms<=2*l.length+2:=by
  have c:=len1.2.2.2
  rcases(show x=0\/x=1\/x=2 by omega)with rfl|rfl|rfl
  ·exact⟨[],rfl,by show 0<=_; omega⟩
  ·exact⟨[l,l],rfl,by show l.length+1+(l.length+1+0)<=_; omega⟩
  ·exact⟨[l, ""],rfl,by show l.length+1+(("" : Str).length+1+0)<=_; omega⟩
 refine⟨ms,m,?_,lm⟩
 unfold Gy
 generalize dU=G,aB=I,("" : Str)=e,Tr.lst (ms.map .str)=M at *
 simp -dsimp[con,drs,dr,cls,bL,aX,others,bN,dJ,eX,hw,ml,e1,hx]
def vD:SF:=aC yC (aC yD (aC (aV (ao aO (ao aO (gD (aj 5) gA (gC (aj 6))) Gy) (gD (aj 5) (gC (ao aO (aj 6) (eC (.int 1)))) gA)) (gN 7)) (aG (eH iK (eC (.str "\n")) (aj 7)))))
theorem aha{z:Str}(hz:z.length<=20000)(n:Int)(s2 s3 s4:Sl):∃(t:Str) (m:Int) (ρ : En),vD [.sh (.str z),.rf [.int n],s2,s3,s4,.un,.un,.un]=.ok (.rt (.str t) false,.sh (.str z) :: .rf [.int m]::ρ)/\t.length<=2*z.length+100:=by
 have e1:=Xf hz (.rf [.int n]) s2 s3 s4 .un .un
 have wz:=Od z 10
 have h0:=xM z "\n"
 rw[<-feed]at wz
 generalize Txt.split z "\n" = L at *
 have hl:=nQ L
 obtain⟨i,n1,hi,e2⟩:=Xg h0 (by omega) n (.sh (.str z)) s2 s3 s4 .un .un
 have vo:aB (.lst (L.map .str)) (.int i)=.ok (.str L[i],false):=pX (by rw[List.getElem?_map,List.getElem?_eq_getElem hi]; rfl)
 obtain⟨ms,n2,e3,lm⟩:=ag9 vo n1 (.sh (.str z)) s2 s3 s4 .un
 have cw:=Oe L i hi
 have s1:jC none (some (i:Int)) (.lst (L.map .str))=.ok (.lst ((L.take i).map .str),true):=by rw[List.map_take]; exact FN _ i
 have s2':jC (some ((i:Int)+1)) none (.lst (L.map .str))=.ok (.lst ((L.drop (i+1)).map .str),true):=by rw[List.map_drop]; exact xW _ (i+1)
 have lA:wS (L.take i++ms++L.drop (i+1))<=2*wS L+50:=by rw[rD,rD]; omega
 have a1:aO (.lst ((L.take i).map .str)) (.lst (ms.map .str))=.ok (.lst ((L.take i++ms).map .str),true):=by
  rw[List.map_append]
  exact FQ (by rw[List.length_map,List.length_map]; have:=nQ (L.take i); have:=nQ ms; omega)
 have a2:aO (.lst ((L.take i++ms).map .str)) (.lst ((L.drop (i+1)).map .str))=.ok (.lst ((L.take i++ms++L.drop (i+1)).map .str),true):=by
  rw[List.map_append (l₁ := L.take i++ms)]
  refine FQ ?_
  rw[List.length_map,List.length_map]
  have:=nQ (L.take i++ms); have:=nQ (L.drop (i+1))
  rw[rD]at lA
  omega
 have j:=Bc (s := "\n") (ts:=L.take i++ms++L.drop (i+1)) (Oc Bd (by omega))
 have jl:=Gv Bd (L.take i++ms++L.drop (i+1))
 refine⟨Str.join "\n" (L.take i++ms++L.drop (i+1)),n2,[s2,s3,s4,.ow (L.map .str),.sh (.int i),.sh (.lst ((L.take i++ms++L.drop (i+1)).map .str))],?_,by omega⟩
 have ai:=qW (i:Int) 1
 unfold vD
 generalize aO=A,iK=K,Gy=B3,yD=B2,yC=B1,(i:Int)=i',(i:Int)+1=i1,L.map Tr.str=M,Tr.lst (ms.map .str)=L7,Tr.lst ((L.drop (i+1)).map .str)=L6,Tr.lst ((L.take i).map .str)=L3,Tr.lst ((L.take i++ms).map .str)=L4,Tr.lst ((L.take i++ms++L.drop (i+1)).map .str)=L5,Str.join "\n" (L.take i++ms++L.drop (i+1))=R at *
 simp -dsimp[con,drs,dr,cW,e1,e2,e3,s1,s2',a1,a2,ai,j]
def vG:SF:=aC (bw (aK (ao bV (aj 2) (eC (.int 3)))) (aG vB) bx) (aC (bw (aK (ao bV (aj 2) (eC (.int 6)))) vC bx) (aC (bw (aK (ao aH (aj 2) (eC (.int 6)))) (aG (gD (aj 0) gA (gC (aj 3)))) bx) vD))
theorem ahb{z:Str}(hz:z.length<=20000):BnR vG z:=by
 intro n w a s w0 w8 hs
 have l3:bV (.int w) (.int 3)=.ok (.bl (decide (w<3)),false):=rfl
 have l6:bV (.int w) (.int 6)=.ok (.bl (decide (w<6)),false):=rfl
 have q6:aH (.int w) (.int 6)=.ok (.bl (decide (w=6)),false):=rfl
 by_cases h3:w<3
 ·obtain⟨t,e,lt⟩:=ag6 hz n w a s w0 h3 hs
  refine⟨t,n,[.sh (.int w),.sh (.int a),.sh (.str s),.un,.un,.un],?_,lt⟩
  rw[decide_eq_true h3]at l3
  unfold vG
  generalize bV=G,vD=Q,vC=S,vB=X at *
  simp -dsimp[dr,aP,l3,e]
 ·rw[decide_eq_false h3]at l3
  by_cases h6:w<6
  ·obtain⟨t,m,ρ,e,lt⟩:=ag8 hz n (.sh (.int w)) (.sh (.int a)) (.sh (.str s))
   refine⟨t,m,ρ,?_,lt⟩
   rw[decide_eq_true h6]at l6
   unfold vG
   generalize bV=G,vD=Q,vC=S,vB=X at *
   simp -dsimp[dr,aP,l3,l6,e]
  ·rw[decide_eq_false h6]at l6
   by_cases h7:w=6
   ·have s1:=Gu none (some a) (z:=z) (by omega)
    have lt:=Txt.slice_le z none (some a)
    refine⟨Txt.slice z none (some a),n,[.sh (.int w),.sh (.int a),.sh (.str s),.un,.un,.un],?_,by omega⟩
    rw[decide_eq_true h7]at q6
    unfold vG
    generalize aH=E,bV=G,vD=Q,vC=S,vB=X,Txt.slice z none (some a)=t at *
    simp -dsimp[dr,aP,cW,l3,l6,q6,s1]
   ·obtain⟨t,m,ρ,e,lt⟩:=aha hz n (.sh (.int w)) (.sh (.int a)) (.sh (.str s))
    refine⟨t,m,ρ,?_,lt⟩
    rw[decide_eq_false h7]at q6
    unfold vG
    generalize aH=E,bV=G,vD=Q,vC=S,vB=X at *
    simp -dsimp[dr,aP,l3,l6,q6,e]
theorem ahc:("0123456789/ -\n.aex_+" : Str).cps.toList.length=20:=by decide +kernel
theorem ahd{z:Str}(hz:z.length<=20000)(n:Int):∃(t:Str) (m:Int),xr [.str z,.lst [.int n]]=.ok ((.str t,false),[.int m])/\t.length<=2*z.length+100:=by
 obtain⟨w,n1,e1,w0,w8⟩:=tk n 8 (by omega) (by decide)
 obtain⟨a,n2,e2,a0,a1⟩:=tk n1 ((z.length:Int)+1) (by omega) (by omega)
 obtain⟨x,n3,e3,x0,x1⟩:=tk n2 20 (by omega) (by decide)
 have sl:=ahc
 obtain⟨s,gs,hs⟩:∃s:Str,aB (.str "0123456789/ -\n.aex_+") (.int x)=.ok (.str s,false)/\s.length=1:=by
  obtain⟨k,rfl⟩:∃k:Nat,x=k:=⟨x.toNat,by omega⟩
  have hk:k<("0123456789/ -\n.aex_+" : Str).cps.toList.length:=by omega
  refine⟨⟨#[("0123456789/ -\n.aex_+" : Str).cps.toList[k]]⟩,?_,rfl⟩
  have ha:cX ("0123456789/ -\n.aex_+" : Str).cps.toList (k:Int)=some ("0123456789/ -\n.aex_+" : Str).cps.toList[k]:=by
   unfold cX
   rw[Xe hk]
   exact List.getElem?_eq_getElem hk
  dsimp only[aB]
  rw[if_pos (by rw[vm,sl]; omega),ha]
 obtain⟨t,m,ρ,e,lt⟩:=ahb hz n3 w a s w0 w8 hs
 refine⟨t,m,?_,lt⟩
 have gl:aL (.str z)=.ok (.int (z.length:Int),false):=if_pos (by omega)
 have ai:=qW (z.length:Int) 1
 show fX 8 1 (aC (aV (cj 0 cO (ak (aj 1) (ak (eC (.int 8)) au))) (gN 2)) (aC (aV (cj 0 cO (ak (aj 1) (ak (ao aO (bh (g1 aL) (ak (aj 0) au)) (eC (.int 1))) au))) (gN 3)) (aC (aV (ao aB (eC (.str "0123456789/ -\n.aex_+")) (cj 0 cO (ak (aj 1) (ak (eC (.int 20)) au)))) (gN 4)) vG))) _=_
 generalize aO=A,aL=G,aB=I,vG=B,(z.length:Int)=zl,(z.length:Int)+1=zl1,("0123456789/ -\n.aex_+" : Str)=SG at *
 unfold fX
 simp -dsimp[aW,bU,con,drs,dr,g1,aX,others,bN,dJ,eX,gl,ai,e1,e2,e3,gs,e]
end K70
end
section
namespace K70
open PySem L2 BH PySem.NumText
def Gz:SF:=aC (bw (dh (cR (bB tL (ak (aj 4) (ak (aj 3) au))))) (aG (eC (.bl false))) bx) (aV (cj 1 xr (ak (aj 4) (ak (aj 2) au))) (gN 4))
theorem Oh(s0 s1 s5:Sl)(n:Int){k:Nat}(h1:1<=k)(h4:k<=4){z:Str}(hz:z.length<=20000):∃(t:Str) (m:Int),Gz [s0,s1,.ow [.int n],.sh (.int k),.sh (.str z),s5]=.ok (.nx,[s0,s1,.ow [.int m],.sh (.int k),.sh (.str t),s5])/\t.length<=2*z.length+100:=by
 have g:=agR (z:=z) (n:=k) (by omega) h1 h4
 obtain⟨t,m,e,l⟩:=ahd hz n
 refine⟨t,m,?_,l⟩
 unfold Gz
 generalize xr=B,tL=F,(k:Int)=k' at *
 simp -dsimp[con,drs,dr,aX,others,bN,dJ,eX,fY,g,e]
theorem lw3(s0 s1 s5:Sl)(n:Int){k:Nat}(h1:1<=k)(h4:k<=4){z:Str}(hz:z.length<=4000):∃(s2 s4 s5':Sl),iw (jk (ak (eC (.int 3)) au)) (gN 5) Gz [s0,s1,.ow [.int n],.sh (.int k),.sh (.str z),s5]=.ok (.nx,[s0,s1,s2,.sh (.int k),s4,s5']):=by
 obtain⟨t1,m1,e1,l1⟩:=Oh s0 s1 (.sh (.int 0)) n h1 h4 (z:=z) (by omega)
 obtain⟨t2,m2,e2,l2⟩:=Oh s0 s1 (.sh (.int 1)) m1 h1 h4 (z:=t1) (by omega)
 obtain⟨t3,m3,e3,l3⟩:=Oh s0 s1 (.sh (.int 2)) m2 h1 h4 (z:=t2) (by omega)
 refine⟨.ow [.int m3],.sh (.str t3),.sh (.int 2),?_⟩
 have fr:jk (ak (eC (.int 3)) au) [s0,s1,.ow [.int n],.sh (.int k),.sh (.str z),s5]=.ok ([.int 0,.int 1,.int 2],[s0,s1,.ow [.int n],.sh (.int k),.sh (.str z),s5]):=rfl
 rw[ae9,fr]
 simp only[tQ]
 exact tU e1 (tU e2 (tU e3 rfl))
def Bm:SF:=bw (aK (ao aH (cj 0 cO (ak (aj 2) (ak (eC (.int 2)) au))) (eC (.int 1)))) (aV (bB vf (ak (cj 0 vd (ak (aj 2) au)) au)) (gN 4)) bx
theorem ahe(s0 s1 s3 s5:Sl)(n:Int){z:Str}(hz:z.length<=4000):∃(t:Str) (m:Int),Bm [s0,s1,.ow [.int n],s3,.sh (.str z),s5]=.ok (.nx,[s0,s1,.ow [.int m],s3,.sh (.str t),s5])/\t.length<=4000:=by
 obtain⟨x,n1,e1,x0,x1⟩:=tk n 2 (by omega) (by decide)
 have eq:aH (.int x) (.int 1)=.ok (.bl (decide (x=1)),false):=rfl
 by_cases h:x=1
 ·rw[decide_eq_true h]at eq
  obtain⟨rows,c,m,e2,hb⟩:=afz n1
  obtain⟨t,e3,l⟩:=ag0 (ls:=rows) (λr hr=>⟨by have:=hb.2.2.2.2 r hr; have:=hb.2.2.2.1; omega,λw hw=>Wo.rb ((hb.2.2.2.2 r hr).2 w hw)⟩) hb.2.1
  refine⟨t,m,?_,l⟩
  unfold Bm
  generalize aH=E,vf=T,vd=B,eZ rows=R at *
  simp -dsimp[con,drs,dr,aP,aX,others,bN,dJ,eX,e1,e2,e3,eq]
 ·rw[decide_eq_false h]at eq
  refine⟨z,n1,?_,hz⟩
  unfold Bm
  generalize aH=E,vf=T,vd=B at *
  simp -dsimp[con,drs,dr,aP,aX,others,bN,dJ,eX,e1,eq]
noncomputable def yE:SF:=aC (uG 2 (bB u9 (ak (aj 0) (ak (aj 1) au)))) (aC (aV (ao aO (eC (.int 1)) (cj 0 cO (ak (aj 2) (ak (eC (.int 4)) au)))) (gN 3)) (aC (aV (bB pP (ak (cj 0 wZ (ak (aj 2) (ak (aj 3) au))) au)) (gN 4)) (aC Bm (iw (jk (ak (eC (.int 3)) au)) (gN 5) Gz))))
theorem ahf(ns:List Int)(k:Nat)(hk:k<1000)(s2 s3 s4 s5:Sl):∃t2 t3 t4 t5,yE [.sh (.lst (ns.map .int)),.sh (.int k),s2,s3,s4,s5]=.ok (.nx,[.sh (.lst (ns.map .int)),.sh (.int k),t2,t3,t4,t5]):=by
 obtain⟨n,e0⟩:=afB ns k hk
 obtain⟨x,n1,e1,x0,x1⟩:=tk n 4 (by omega) (by decide)
 obtain⟨j,hj⟩:∃j:Nat,(j:Int)=1+x:=⟨(1+x).toNat,by omega⟩
 obtain⟨r,n2,e2,hr⟩:=agV n1 (k:=j) (by omega) (by omega)
 obtain⟨z,e3,lz⟩:=agY hr (by omega)
 obtain⟨t,n3,e4,lt⟩:=ahe (.sh (.lst (ns.map .int))) (.sh (.int k)) (.sh (.int j)) s5 n2 (z:=z) (by omega)
 obtain⟨t2,t4,t5,e5⟩:=lw3 (.sh (.lst (ns.map .int))) (.sh (.int k)) s5 n3 (k:=j) (by omega) (by omega) lt
 refine⟨t2,.sh (.int j),t4,t5,?_⟩
 have ai:=qW 1 x
 rw[<-hj]at ai
 unfold yE
 generalize aO=A,pP=V,wZ=U,u9=P,Bm=T,iw _ _ _=L,(j:Int)=j',(k:Int)=k',xV r=R,Tr.lst (ns.map .int)=S at *
 simp -dsimp[con,drs,dr,aX,others,bN,dJ,eX,e0,e1,e2,e3,e4,e5,ai]
theorem Xh(ns:List Int):∀(us:List Tr) (s1 s2 s3 s4 s5:Sl),(∀u∈us,∃j:Int,u=.int j/\0<=j/\j<1000)->∃t1 t2 t3 t4 t5,iV (gN 1) yE us [.sh (.lst (ns.map .int)),s1,s2,s3,s4,s5]=.ok (.nx,[.sh (.lst (ns.map .int)),t1,t2,t3,t4,t5])
 | [],s1,s2,s3,s4,s5,_=>⟨s1,s2,s3,s4,s5,rfl⟩
 |u::us,s1,s2,s3,s4,s5,h=>by
  obtain⟨j,rfl,j0,j1⟩:=h u (by simp)
  obtain⟨k,rfl⟩:∃k:Nat,j=k:=⟨j.toNat,by omega⟩
  obtain⟨t2,t3,t4,t5,e⟩:=ahf ns k (by omega) s2 s3 s4 s5
  obtain⟨r1,r2,r3,r4,r5,e'⟩:=Xh ns us (.sh (.int k)) t2 t3 t4 t5 λv hv=>h v (by simp[hv])
  exact⟨r1,r2,r3,r4,r5,tU e e'⟩
end K70
end
section
namespace K70
open PySem L2 BH PySem.NumText
theorem ahg(ns:List Int)(ρ : En):∃n:Nat,n<=30/\jk (ak (bh (g2 gZ) (ak (bh (g2 gY) (ak (bh (g1 aL) (ak (aj 0) au)) (ak (eC (.int 30)) au))) (ak (eC (.int 1)) au))) au) (.sh (.lst (ns.map .int))::ρ)=.ok (L2.upTo 0 n,.sh (.lst (ns.map .int))::ρ):=by
 by_cases h:(30:Int)<ns.length
 ·exact⟨30,by omega,by simp -dsimp[bU,cV,gq,bN,con,eY,eB,aP,cL,dr,drs,cls,bL,gJ,g1,g2,gI,eF,gB,aH,aO,dF,dw,bV,cN,aL,gW,d7,dW,okR,cW,aX,others,cG,bW,cZ,eG,eN,dN,eO,gY,gZ,h]⟩
 ·by_cases h':(ns.length:Int)<1
  ·exact⟨1,by omega,by simp -dsimp[bU,cV,gq,bN,con,eY,eB,aP,cL,dr,drs,cls,bL,gJ,g1,g2,gI,eF,gB,aH,aO,dF,dw,bV,cN,aL,gW,d7,dW,okR,cW,aX,others,cG,bW,cZ,eG,eN,dN,eO,gY,gZ,h,h']⟩
  ·refine⟨ns.length,by omega,?_⟩
   have q1:(-1000000:Int)<=ns.length:=by omega
   have q2:(ns.length:Int)<=1000000:=by omega
   simp -dsimp[bU,cV,gq,bN,con,eY,eB,aP,cL,dr,drs,cls,bL,gJ,g1,g2,gI,eF,gB,aH,aO,dF,dw,bV,cN,aL,gW,d7,dW,okR,cW,aX,others,cG,bW,cZ,eG,eN,dN,eO,gY,gZ,h,h',q1,q2]
theorem ahh(ns:List Int):Ai [.lst (ns.map .int)]=.ok (.bl true,false):=by
 obtain⟨n,hn',er⟩:=ahg ns [.un,.un,.un,.un,.un]
 obtain⟨t1,t2,t3,t4,t5,e⟩:=Xh ns (L2.upTo 0 n) .un .un .un .un .un λu hu=>by
  obtain⟨j,rfl,h1,h2⟩:=Nf _ _ _ hu
  exact⟨j,rfl,h1,by omega⟩
 show aM 6 (aC (gk (iw (jk (ak (bh (g2 gZ) (ak (bh (g2 gY) (ak (bh (g1 aL) (ak (aj 0) au)) (ak (eC (.int 30)) au))) (ak (eC (.int 1)) au))) au)) (gN 1) yE)) (aG (eC (.bl true)))) _=_
 have e1:gk (iw (jk (ak (bh (g2 gZ) (ak (bh (g2 gY) (ak (bh (g1 aL) (ak (aj 0) au)) (ak (eC (.int 30)) au))) (ak (eC (.int 1)) au))) au)) (gN 1) yE) [.sh (.lst (ns.map .int)),.un,.un,.un,.un,.un]=.ok (.nx,[.sh (.lst (ns.map .int)),t1,t2,t3,t4,t5]):=by
  unfold gk iw
  rw[er]
  show bU (iV (gN 1) yE (L2.upTo 0 n) _)=_
  rw[e]
  rfl
 generalize gk _=G at e1 ⊢
 unfold aM
 simp -dsimp[bU,cV,gq,bN,con,eY,eB,aP,cL,dr,drs,cls,bL,gJ,g1,g2,gI,eF,gB,aH,aO,dF,dw,bV,cN,aL,gW,d7,dW,okR,cW,aX,others,cG,bW,cZ,eG,eN,dN,eO,aW,e1]
end K70
end
section
namespace L2
open PySem PySem.Spec PyProof.Rows PySem.W
theorem ahi{P:Program}{w:World}{K:FZ}{mg mb:Str->Option Value}{CX:lK}{k:Nat}{fa a:Addr}{x:Str}{sp:Sp}{s₁ : Shared}{vs:List Value}{ns:List Int}
  (KX:K.In s₁.heap) (hns:s₁.heap.Ns mainGlobals mg) (hb:s₁.heap.Ns builtinsNs mb) (hbb:∀x:Str,x ≠ "__name__" -> mb x=bootBuiltins x) (hlim:s₁.heap.NoLimit) (hg:s₁.gens = #[])
  (ha:s₁.heap.get? a=some {cls:=.type "list",data:=.seq vs.toArray }) (hi:IntsAre vs ns) (hl:ns.length<=sizeLine) (hr:gP k callerA)
  (hT:∀x∈qD,∀c b,tabIn K x=some (c,b)->CodeHd s₁.heap c b/\s₁.heap.get? b=some (tabObj #[])) (vH:noTabs K=true) (hB:zY mg s₁.heap)
  (F:∀base:Heap,K.In base->base.Ns mainGlobals mg->(∀x∈qD,∀c b,tabIn K x=some (c,b)->CodeHd base c b)->zY mg base->∃fd:FuncData,(∀(s:Shared) (u:Value),K.In s.heap->BindsTo s fd ⟨[u],[]⟩ [(x,u)])/\lM P w K mg base CX k fa fd [x] sp)
  (hsp:∀H:Hp,fU (aF K) H->nG K H a (ns.map V.int)->sp [.ref a] H (λv _=>v=.bl true) λ_ _ _=>False)
  (Oi:∀H e s',CX [] H s₁ (λ_ _ _=>False) e s'->False) :
  codeAny (model P w) callerA (.call (.ref fa) ⟨[.ref a],[]⟩) (λr s'=>r=.ok (.ret (.bool true))/\OldK s₁.heap s'.heap/\s'.os=s₁.os/\AllBare s'.gens) s₁ := by
 have rv:=Q6 hi
 have lenV:=hi.length
 -- from an abstract heap in which nothing but the script may be tracked
 have hT':∀b,Tb (aF K) b->∃c,CodeHd s₁.heap c b/\s₁.heap.get? b=some (tabObj #[]):=λb ⟨x,hx,c,e⟩=>⟨c,hT x hx c b (acR e)⟩
 have core:∀H:Hp,(∀b,H b=none\/(∃o xs,H b=some (.cV o (.lst xs)))\/(H b=some (.f9 #[])/\Tb (aF K) b))->fU (aF K) H->nG K H a (ns.map V.int)->gh P w H s₁.heap->(∀b,H b≠none->b=a\/Tb (aF K) b)->(H a≠none->K.lookup a=none) ->
   codeAny (model P w) callerA (.call (.ref fa) ⟨[.ref a],[]⟩) (λr s'=>r=.ok (.ret (.bool true))/\OldK s₁.heap s'.heap/\s'.os=s₁.os/\AllBare s'.gens) s₁ := by
  intro H hO hTb hS hok hA hK
  have GC:∀{b:Addr} {o:Obj},s₁.heap.get? b=some o->H b=none->(qg s₁.heap H).get? b=some o:=λe n=>Yc e n
  have yS:∀{b:Addr} {o:Obj} {es:Array DictEntry} {ep:Nat},s₁.heap.get? b=some o->o.data=.dict es ep->H b=none:=λ{b o es ep} e d=>by
   cases q:H b with
   |none=>rfl
   |some u =>
    rcases hA b (by rw[q]; simp)with e'|e'
    ·subst e'
     rw[ha]at e; cases e
     have d':Data.seq vs.toArray _=Data.dict es ep:=d
     cases d'
    ·obtain⟨c,_,z⟩:=hT' b e'
     rw[z]at e; cases e
     cases d
  have GD:∀{b:Addr} {m:Str->Option Value},s₁.heap.Ns b m->(qg s₁.heap H).Ns b m:=λ{b m} ⟨o,es,ep,e,d,r⟩=>⟨o,es,ep,GC e (yS e d),d,r⟩
  have Xi:K.In (qg s₁.heap H):=λb o e=>GC (KX b o e) (by
   cases q:H b with
   |none=>rfl
   |some u =>
    rcases hA b (by rw[q]; simp)with e'|e'
    ·subst e'
     rw[hK (by rw[q]; simp)]at e; cases e
    ·obtain⟨c,_,z⟩:=hT' b e'
     have z2:=KX b o e
     rw[z]at z2
     cases z2
     have h2:=List.all_eq_true.mp vH (b,_) (mem_of_lookupK e)
     exact absurd (show false=true from h2) Bool.false_ne_true)
  have hM:Mod K mg (qg s₁.heap H):=⟨Xi,GD hns,⟨mb,GD hb,hbb⟩,let⟨mc,h1,h2⟩:=hlim; ⟨mc,GD h1,h2⟩⟩
  have e0:BP P w K mg (qg s₁.heap H) callerA [] s₁ H:=⟨rfl,hM,λb o e=>Yd e,Nat.le_of_eq (Yb _ _),trivial,λb hb=>absurd (show b∈([]:List Addr)from hb) (by simp),hok,.of_eq hg⟩
  have free:∀{b:Addr} {o:Obj},s₁.heap.get? b=some o->o.cls ≠ .none->(∀its n,o.data ≠ .seq its n)->H b=none:=λ{b o} e n1 n2=>by
   cases q:H b with
   |none=>rfl
   |some u =>
    rcases hA b (by rw[q]; simp)with e'|e'
    ·subst e'
     rw[ha]at e; cases e
     exact(n2 _ _ rfl).elim
    ·obtain⟨c,_,z⟩:=hT' b e'
     rw[z]at e; cases e
     exact(n1 rfl).elim
  obtain⟨fd,hbind,F1⟩:=F _ Xi (GD hns) (λx hx c b e=>by
   obtain⟨o,vs',file,tf,flags,tg,inF,text,tt,e1,r1,r2,r3⟩:=(hT x hx c b e).1
   exact⟨o,vs',file,tf,flags,tg,inF,text,tt,GC e1 (free e1 (by rw[r1]; intro z; cases z) (λ_ _ z=>by rw[r2]at z; cases z)),r1,r2,r3⟩) (by
   obtain⟨bm,ob,b1,b2,b3,b4,b5,b6,b7⟩:=hB
   exact⟨bm,ob,b1,b2,b3,GC b4 (free b4 (by rw[b5]; intro z; cases z) (λ_ _ z=>by rw[b7]at z; cases z)),b5,b6,b7⟩)
  refine codeAny_mono (F1.run callerA [] s₁ H ⟨[.ref a],[]⟩ [.ref a] [.ref a] _ _ hr e0 (hbind s₁ (.ref a) KX) (.cons rfl .nil) (hsp H hTb hS)) λr s' h=>?_
  cases r with
  |error e=>exact(Oi H e s' h).elim
  |ok fl =>
   cases fl with
   |next=>exact False.elim h
   |brk=>exact False.elim h
   |cont=>exact False.elim h
   |ret u =>
    obtain⟨v,H',os,bare,un,hok',r',q⟩:=h
    have q':v=.bl true:=q
    subst q'
    obtain rfl:u=Value.bool true:=r'
    refine⟨rfl,⟨λb o e=>?_,λb o e=>un.there b o e (by simp)⟩,os,bare⟩
    cases q:H b with
    |none=>exact .inl (un.keep b o e q (by intro z; exact absurd (show b∈([]:List Addr)from z) (by simp)) (by simp))
    |some u =>
     rcases hO b with z|⟨ob,xs,z⟩|⟨z,zt⟩
     ·rw[q]at z; cases z
     ·have z2:=un.lE b ob _ z
      obtain⟨e1,_⟩:=hok b _ z
      obtain⟨e2,_⟩:=hok' b _ z2
      rw[e]at e1; cases e1
      exact .inl e2
     ·obtain⟨more,z2⟩:=un.lF b _ z
      have e1:s₁.heap.get? b=some (tabObj #[]):=hok b _ z
      have e2:s'.heap.get? b=some (tabObj (#[]++more)):=hok' b _ z2
      rw[e]at e1; cases e1
      obtain⟨c,hc,_⟩:=hT' b zt
      exact .inr (.inl ⟨(hc.tab e).isCodeTable,rfl,#[],more,rfl,e2⟩)
 classical
 have Xj:∀H:Hp,(∀b,Tb (aF K) b->H b=some (.f9 #[]))->fU (aF K) H:=λH h x hx c b e=>⟨#[],h b ⟨x,hx,c,e⟩,trivial,λpos v z=>by cases z⟩
 have Xk:¬Tb (aF K) a:=λz=>by
  obtain⟨c,_,e⟩:=hT' a z
  rw[ha]at e
  cases e
 cases hk:K.lookup a with
 |some o =>
  have e:=KX a o hk
  rw[ha]at e
  cases e
  refine core (λb=>if Tb (aF K) b then some (.f9 #[])else none) (λb=>?_) (Xj _ λb z=>if_pos z) (.inr ⟨vs.toArray,_,hk,by rw[List.size_toArray,lenV]; exact hl,by simpa using rv⟩) (λb u z=>?_) (λb z=>?_) λz=>?_
  ·by_cases q:Tb (aF K) b
   ·exact .inr (.inr ⟨if_pos q,q⟩)
   ·exact .inl (if_neg q)
  ·by_cases q:Tb (aF K) b
   ·have z':=(if_pos q).symm.trans z
    cases z'
    obtain⟨c,_,e⟩:=hT' b q
    exact e
   ·have z':=(if_neg q).symm.trans z
    cases z'
  ·by_cases q:Tb (aF K) b
   ·exact .inr q
   ·exact absurd (if_neg q) z
  ·exact absurd (if_neg Xk) z
 |none =>
  refine core (λb=>if b=a then some (.cV {cls:=.type "list",data:=.seq vs.toArray } (.lst (ns.map V.int)))else if Tb (aF K) b then some (.f9 #[])else none) (λb=>?_) (Xj _ λb z=>by
   have nb:¬b=a:=λq=>Xk (by rw[<-q]; exact z)
   exact(if_neg nb).trans (if_pos z)) (.inl (.inr ⟨{cls:=.type "list",data:=.seq vs.toArray },if_pos rfl⟩)) (λb u z=>?_) (λb z=>?_) λ_=>hk
  ·by_cases hb:b=a
   ·exact .inr (.inl ⟨_,_,if_pos hb⟩)
   ·by_cases q:Tb (aF K) b
    ·exact .inr (.inr ⟨(if_neg hb).trans (if_pos q),q⟩)
    ·exact .inl ((if_neg hb).trans (if_neg q))
  ·by_cases hb:b=a
   ·have z':=(if_pos hb).symm.trans z
    cases z'
    subst hb
    exact⟨ha,by rw[List.length_map]; exact hl,vs,_,rv,ha⟩
   ·have z':=(if_neg hb).symm.trans z
    by_cases q:Tb (aF K) b
    ·have z':=(if_pos q).symm.trans z'
     cases z'
     obtain⟨c,_,e⟩:=hT' b q
     exact e
    ·have z':=(if_neg q).symm.trans z'
     cases z'
  ·by_cases hb:b=a
   ·exact .inl hb
   ·by_cases q:Tb (aF K) b
    ·exact .inr q
    ·exact absurd ((if_neg hb).trans (if_neg q)) z
theorem ahj{l:PySem.W.OpenLaw}{n k:Nat}{q:Program}{loose:List Str}{XP:(Str->Option Value)->Heap->Prop}{YP:World->Heap->Prop}{d:DefRec}{K:Params->FZ}{CX:World->lK}{sp:World->Sp}{x:Str}
  (hn:l.most=some n) (hn2:n<=sizeLine) (hdf:d.params.defaults=[]) (hr:gP k callerA)
  (Bo:∀x∈qD,((recsOf q).find? (λe=>e.name == x)).isSome=true\/∀w:World,nsIn (K w.params) mainGlobals x=some none) (vH:∀w:World,noTabs (K w.params)=true)
  (hY:∀(w:World) (h:Heap),YP w h->(K w.params).In h)
  (F:∀(w:World) (mg:Str->Option Value) (fa:Addr) (h:Heap),(K w.params).In h->h.Ns mainGlobals mg->mg d.name=some (.ref fa) ->
   ∀base:Heap,(K w.params).In base->base.Ns mainGlobals mg->(∀x∈qD,∀c b,tabIn (K w.params) x=some (c,b)->CodeHd base c b)->zY mg base->∃fd:FuncData,(∀(s:Shared) (u:Value),(K w.params).In s.heap->BindsTo s fd ⟨[u],[]⟩ [(x,u)])/\lM l.prog w (K w.params) mg base (CX w) k fa fd [x] (sp w))
  (hsp:∀(w:World) (H:Hp) (a:Addr) (ns:List Int),ns.length<=n->fU (aF (K w.params)) H->nG (K w.params) H a (ns.map V.int)->sp w [.ref a] H (λv _=>v=.bl true) λ_ _ _=>False)
  (Oi:∀(w:World) (H:Hp) (s:Shared) (e:Value) (s':Shared),CX w [] H s (λ_ _ _=>False) e s'->False) :
  PySem.W.WalkO q loose XP YP l.row.toRowW d [] (λf vs=>PySem.call f vs):=by
 refine Q5.ZF hn hdf λw s₀ s₁ mg mb fa o pm cd doc a vs ns G Y ho hd hcd hmg hobj hints hlen hg=>?_
 have KX:=hY w _ Y
 have hT:∀x∈qD,∀c b,tabIn (K w.params) x=some (c,b)->CodeHd s₁.heap c b/\s₁.heap.get? b=some (tabObj #[]):=λx hx c b e=>by
  rcases Bo x hx with z|z
  ·obtain⟨d,z⟩:=Option.isSome_iff_exists.mp z
   exact tab_of G.T KX z e
  ·rw[acS (z w)]at e; cases e
 have hB:zY mg s₁.heap:=by
  obtain⟨bm,ob,b1,b2,b3,b4,b5,b6⟩:=G.T.bmain
  refine⟨bm,ob,b1,b2,λz=>?_,b3,b4,b5,b6⟩
  obtain⟨o,es,ep,e,hd,_⟩:=G.T.g
  rw[z,e]at b3; cases b3
  rw[hd]at b6; cases b6
 exact ahi KX G.T.g G.T.b G.T.builtins G.T.nolimit hg hobj hints (Nat.le_trans hlen hn2) hr hT (vH w) hB (F w mg fa _ KX G.T.g hmg) (λH hO hS=>hsp w H a ns hlen hO hS) λH e s'=>Oi w H s₁ e s'
end L2
end
section
namespace K70
open PySem L2 BH PySem.W
section
variable {K:Frag}{mg:Str->Option Value}{h:Heap}
theorem ahk{x:Str}{st:Stmt}(X:K.In h)(G:h.Ns mainGlobals mg){f:Addr}{od an:Option Addr}{sl:Array (Option Value)}{oc kV dc pm cd ct:Value}
  (a:nsIn K mainGlobals x=some (some (.ref f))) (l:K.lookup f=some ⟨oc,od,.func (fnOf x x (rY st) (nu st) (bG st) .none kV dc pm an cd ct),sl⟩) (c:codeIn K cd x=true) (k:keepIn K (.ref f)=true):At K mg x st :=
 ⟨f,_,ZG (st:=st) l c k,mg_of X G a⟩
theorem Oj{x:Str}{i:Int}{tk:Tok}(X:K.In h)(G:h.Ns mainGlobals mg)(a:nsIn K mainGlobals x=some (some (.int i tk))):Gk K mg x (.int i) (.int i):=⟨.int i tk,mg_of X G a,by first|exact rfl|exact⟨_,rfl⟩,λ_=>.int i⟩
theorem GJ{H:Hp}{a:Addr}{od:Option Addr}{its:Array Value}{n:Nat}{sl:Array (Option Value)}{xs:List V}{vs:List Value}{ts:List Tr}(l:K.lookup a=some ⟨.type "tuple",od,.seq its n,sl⟩) (e:its.toList=vs) (hl:vs.length<=1000) (r:Vals xs vs) (rr:aQ (aF K) H xs ts):Rep (aF K) H (.ref a) (.tup ts):=by
 refine .tup (xs:=xs) (.inr ⟨_,its,n,aaA l rfl,rfl,rfl,?_,by rw[e]; exact r⟩) rr
 rw[<-Array.length_toList,e]
 exact Nat.le_of_lt (Hx hl)
theorem ahl(X:K.In h)(G:h.Ns mainGlobals mg){a r1 r2 r3:Addr}{od o1 o2 o3:Option Addr}{its i1 i2 i3:Array Value}{n n1 n2 n3:Nat}{sl Im sl2 Io:Array (Option Value)}{t1 t2 t3:Tok}
  (m:nsIn K mainGlobals "BARE_RULES" = some (some (.ref a))) (l:K.lookup a=some ⟨.type "tuple",od,.seq its n,sl⟩) (e:its.toList=[.ref r1,.ref r2,.ref r3])
  (l1:K.lookup r1=some ⟨.type "tuple",o1,.seq i1 n1,Im⟩) (e1:i1.toList=[.str "least" t1]) (l2:K.lookup r2=some ⟨.type "tuple",o2,.seq i2 n2,sl2⟩) (e2:i2.toList=[.str "greatest" t2]) (l3:K.lookup r3=some ⟨.type "tuple",o3,.seq i3 n3,Io⟩) (e3:i3.toList=[.str "product" t3]):Gk K mg "BARE_RULES" (.ref a) (.tup [(.tup [(.str "least")]),(.tup [(.str "greatest")]),(.tup [(.str "product")])]):=by
 refine⟨_,mg_of X G m,rfl,λH=>GJ (xs:=[.ref r1,.ref r2,.ref r3]) l e (Nat.le_of_ble_eq_true rfl) (.cons rfl (.cons rfl (.cons rfl .nil))) ?_⟩
 exact .cons (GJ (xs:=[.str "least"]) l1 e1 (Nat.le_of_ble_eq_true rfl) (.cons ⟨_,rfl⟩ .nil) (.cons (.str _) .nil)) (.cons (GJ (xs:=[.str "greatest"]) l2 e2 (Nat.le_of_ble_eq_true rfl) (.cons ⟨_,rfl⟩ .nil) (.cons (.str _) .nil)) (.cons (GJ (xs:=[.str "product"]) l3 e3 (Nat.le_of_ble_eq_true rfl) (.cons ⟨_,rfl⟩ .nil) (.cons (.str _) .nil)) .nil))
theorem ahm(H:Hp):bf (λ_=>False) H=H:=by
 funext b
 exact iu (λz=>z)
theorem Xl{K:Frag}{H:Hp}:∀ns:List Int,aQ K H (ns.map V.int) (ns.map Tr.int)
 | []=>.nil
 |n::ns=>.cons (.int n) (Xl ns)
def GK(K:Frag)(n:Nat)(F:FP):Sp:=λvs H Q E=>∃Z ts,vs.length=n/\aQ (aF K) (bf Z H) vs ts/\(∀b,Z b->Lt H b)/\fU (aF K) H/\∃p,F ts=.ok p/\∀v H',pC (aF K) H H'->sU (aF K) Z H H' v p.1 p.2->Q v H'
theorem ahn{K:Frag}{cl:Str->Addr}{n:Nat}{F:FP}(vs:List V)(H:Hp)(Q:VK)(E:XK)(h:GK K n F vs H Q E):bA K cl n F vs H Q E:=by
 obtain⟨Z,ts,h1,h2,h3,h4,p,h5,h6⟩:=h
 refine⟨Z,ts,h1,h2,h3,h4,?_⟩
 rw[h5]
 exact h6
theorem aho(X:K.In h)(G:h.Ns mainGlobals mg)(z0:nsIn K mainGlobals "ValueError" = some none) (z1:nsIn K mainGlobals "abs" = some none) (z2:nsIn K mainGlobals "all" = some none) (z3:nsIn K mainGlobals "bool" = some none) (z4:nsIn K mainGlobals "int" = some none) (z5:nsIn K mainGlobals "isinstance" = some none) (z6:nsIn K mainGlobals "len" = some none) (z7:nsIn K mainGlobals "list" = some none) (z8:nsIn K mainGlobals "max" = some none) (z9:nsIn K mainGlobals "min" = some none) (Xm:nsIn K mainGlobals "range" = some none) (Xn:nsIn K mainGlobals "str" = some none) (Xo:nsIn K mainGlobals "tuple" = some none) (Xp:nsIn K mainGlobals "zip" = some none):Nm mg :=
 ⟨mg_none_of X G z0,mg_none_of X G z1,mg_none_of X G z2,mg_none_of X G z3,mg_none_of X G z4,mg_none_of X G z5,mg_none_of X G z6,mg_none_of X G z7,mg_none_of X G z8,mg_none_of X G z9,mg_none_of X G Xm,mg_none_of X G Xn,mg_none_of X G Xo,mg_none_of X G Xp⟩
end
section
variable {P:Program}{w:World}{K:Frag}{mg:Str->Option Value}{base:Heap}
theorem ahp(M:Nm mg){xu:Addr}(Fp:PyProof.Rows.OwnCls "NoBook" xu sY "ValueError.__new__" mg base) {xG:Addr} (Ft:PyProof.Rows.OwnCls "NoRule" xG sY "ValueError.__new__" mg base) {xH:Addr} (pU:PyProof.Rows.OwnCls "NoText" xH sY "ValueError.__new__" mg base) (XT:iY K) {Aj:Addr} (tM:Cg K mg "HeadError" Aj) (Ak:Cg K mg "NoBook" xu) {Ma:Addr} (Er:Cg K mg "NoBottom" Ma) {Mf:Addr} (Es:Cg K mg "NoCount" Mf) {Mg:Addr} (Et:Cg K mg "NoLine" Mg) {Mh:Addr} (Eu:Cg K mg "NoList" Mh) {Mi:Addr} (Ew:Cg K mg "NoLooks" Mi) (Al:Cg K mg "NoRule" xG) {Mj:Addr} (Ey:Cg K mg "NoSlack" Mj) (Am:Cg K mg "NoText" xH) {Ml:Addr} (Ez:Cg K mg "NoThing" Ml) {Mp:Addr} (EY:Cg K mg "NoThings" Mp) {Mq:Addr} (Fb:Cg K mg "NoWorth" Mq) {Mr:Addr} (Fd:Cg K mg "NotSure" Mr) {Ms:Addr} (Fe:Cg K mg "TooMany" Ms) (ahq:At K mg "is_whole" Ku) (ahr:At K mg "common_divisor" Ky) (ahs:At K mg "is_fraction" Kz) (aht:At K mg "is_worth" KC) (ahu:At K mg "are_worths" DX) (ahv:At K mg "is_book" Ac) (ahw:At K mg "need_book" KD) (ahx:At K mg "are_weights" DY) (ahy:At K mg "is_rule" KH) (ahz:At K mg "shown_fraction" KJ) (ahA:At K mg "shown_fractions" Ea) (ahB:At K mg "shown_book" Eb) (ahC:At K mg "shown_rule" KN) (ahD:At K mg "whole_from" KQ) (ahE:At K mg "fraction_from" KR) (ahF:At K mg "fractions_from" Ec) (ahG:At K mg "rule_from" KY) (ahH:At K mg "need_text" KZ) (ahI:At K mg "read_book" Ed) (ahJ:At K mg "read_rule" K1) (ahK:At K mg "_law_mixed" K3) (ahL:At K mg "_law_pile" K4) (ahM:At K mg "_law_take" K5) (ahN:At K mg "_law_shared" K6) (ahO:At K mg "_law_frac" K7) (ahP:At K mg "_law_whole" K8) (ahQ:At K mg "_law_only" Ef) (ahR:At K mg "_law_worth" K9) (ahS:At K mg "_law_book" Ad) (ahT:At K mg "_law_weight" La) (ahU:At K mg "_law_rule" Eh) (ahV:At K mg "_law_frac_text" Lb) (ahW:At K mg "_law_book_text" Ld) (ahX:At K mg "_law_rule_text" Le) (ahY:At K mg "_law_fracs" Lf) (ahZ:At K mg "_law_same_book" Ei) (ah0:At K mg "_law_same_rule" Lg) (ah1:At K mg "_law_number" Ej) (ah2:At K mg "_law_fraction" Ek) (ah3:At K mg "_law_book_read" wV) (ah4:At K mg "_law_rule_read" Ae) (ah5:At K mg "_law_words_bent" Lh) (ah6:At K mg "_law_bent" Li) (ah7:At K mg "_law_asked" Lj) (ah8:At K mg "_law_good" Lk) (ah9:At K mg "law" Ln) {Mw:V} (Fi:Gk K mg "MOST_LISTS" Mw (.int 4)) {Mx:V} (Fj:Gk K mg "MOST_THINGS" Mx (.int 12)) {Aq:V} (xJ:Gk K mg "BARE_RULES" Aq (.tup [(.tup [(.str "least")]),(.tup [(.str "greatest")]),(.tup [(.str "product")])])) {Ar:V} (tO:Gk K mg "MOST_FIGURES" Ar (.int 40)):aU P w K mg base 9 "law" (["_law_script"]:List Str) (GK K 1 Ai):=by
 obtain⟨cl,Xq,Xr,Xu⟩:∃cl:Str→Addr,cl "NoBook" = xu∧cl "NoRule" = xG∧cl "NoText" = xH:=⟨λx=>if x=("NoBook" : Str)then xu else if x=("NoRule" : Str)then xG else if x=("NoText" : Str)then xH else 0,if_pos rfl,(if_neg (by decide +kernel)).trans (if_pos rfl),(if_neg (by decide +kernel)).trans ((if_neg (by decide +kernel)).trans (if_pos rfl))⟩
 rw[<-Xq]at Fp
 rw[<-Xr]at Ft
 rw[<-Xu]at pU
 have XC:J4 K cl (["NoBook", "NoRule", "NoText"]:List Str):=List.forall_mem_cons.mpr ⟨⟨by decide +kernel,by rw[Xq]; exact Ak.1⟩,List.forall_mem_cons.mpr ⟨⟨by decide +kernel,by rw[Xr]; exact Al.1⟩,List.forall_mem_cons.mpr ⟨⟨by decide +kernel,by rw[Xu]; exact Am.1⟩,λ_ h=>nomatch h⟩⟩⟩
 have Xv:=aeF (P:=P) (w:=w) (base:=base) (cl:=cl) ahq M XT
 have aia:=aev (P:=P) (w:=w) (base:=base) (cl:=cl) ahr M
 have Ol:=aeB (P:=P) (w:=w) (base:=base) (cl:=cl) ahs M XT Xv aia
 have aib:=aeG (P:=P) (w:=w) (base:=base) (cl:=cl) aht M Ol
 have aic:=aes (P:=P) (w:=w) (base:=base) (cl:=cl) ahu M XT aib
 have Xw:=aez (P:=P) (w:=w) (base:=base) (cl:=cl) ahv M Fi Fj XT aic
 have aie:=aeP (P:=P) (w:=w) (base:=base) (cl:=cl) ahw M Fp Xw
 have aif:=aer (P:=P) (w:=w) (base:=base) (cl:=cl) ahx M XT Ol
 have Xx:=aeD (P:=P) (w:=w) (base:=base) (cl:=cl) ahy M xJ XT aif Xv
 have aii:=aeX (P:=P) (w:=w) (base:=base) (cl:=cl) ahz M
 have Xy:=aeY (P:=P) (w:=w) (base:=base) (cl:=cl) ahA M aii
 have aij:=aeV (P:=P) (w:=w) (base:=base) (cl:=cl) ahB M aie Xy
 have aik:=ae0 (P:=P) (w:=w) (base:=base) (cl:=cl) ahC M Ft Xx Xy
 have Xz:=ae1 (P:=P) (w:=w) (base:=base) (cl:=cl) ahD M
 have ail:=aew (P:=P) (w:=w) (base:=base) (cl:=cl) ahE M Xz Ol
 have XD:=aex (P:=P) (w:=w) (base:=base) (cl:=cl) ahF M ail
 have ain:=aeU (P:=P) (w:=w) (base:=base) (cl:=cl) ahG M xJ XD Xz
 have XF:=aeQ (P:=P) (w:=w) (base:=base) (cl:=cl) ahH M pU XT
 have aio:=aeR (P:=P) (w:=w) (base:=base) (cl:=cl) ahI M tO pU XF XD Xw
 have aip:=aeS (P:=P) (w:=w) (base:=base) (cl:=cl) ahJ M tO pU XF ain Xx
 have aiq:=ad9 (P:=P) (w:=w) (base:=base) (cl:=cl) ahK M
 have air:=aec (P:=P) (w:=w) (base:=base) (cl:=cl) ahL M aiq
 have vI:=ael (P:=P) (w:=w) (base:=base) ahM M
 have XH:=aek (P:=P) (w:=w) (base:=base) (cl:=cl) ahN M
 have XJ:=adX (P:=P) (w:=w) (base:=base) (cl:=cl) ahO M XH
 have XM:=aen (P:=P) (w:=w) (base:=base) (cl:=cl) ahP M XT
 have ais:=aeb (P:=P) (w:=w) (base:=base) (cl:=cl) ahQ M XT tM Ak Er Es Et Eu Ew Al Ey Am Ez EY Fb Fd Fe
 have ait:=aep (P:=P) (w:=w) (base:=base) (cl:=cl) ahR M vI XJ
 have aiu:=adT (P:=P) (w:=w) (base:=base) ahS M vI ait
 have aiv:=aem (P:=P) (w:=w) (base:=base) (cl:=cl) ahT M vI XJ
 have aiw:=aee (P:=P) (w:=w) (base:=base) ahU M vI aiv
 have XQ:=adY (P:=P) (w:=w) (base:=base) (cl:=cl) ahV M
 have aix:=adW (P:=P) (w:=w) (base:=base) (cl:=cl) ahW M XQ
 have aiy:=aeh (P:=P) (w:=w) (base:=base) (cl:=cl) ahX M XQ
 have XR:=adZ (P:=P) (w:=w) (base:=base) (cl:=cl) ahY M XT XM
 have aiz:=aei (P:=P) (w:=w) (base:=base) (cl:=cl) ahZ M XT XR
 have aiA:=aej (P:=P) (w:=w) (base:=base) (cl:=cl) ah0 M XT XR XM
 have aiB:=aea (P:=P) (w:=w) (base:=base) (cl:=cl) ah1 M
 have XS:=ad0 (P:=P) (w:=w) (base:=base) (cl:=cl) ah2 M aiB XH
 have aiC:=adV (P:=P) (w:=w) (base:=base) (cl:=cl) ah3 M XS
 have aiD:=aeg (P:=P) (w:=w) (base:=base) (cl:=cl) ah4 M XS
 have aiE:=aeo (P:=P) (w:=w) (base:=base) ah5 M vI
 have aiF:=adR (P:=P) (w:=w) (base:=base) ah6 M vI aiE
 have aiG:=adO (P:=P) (w:=w) (base:=base) (cl:=cl) ah7 M XT XC tM aio aip
 have aiH:=ad2 (P:=P) (w:=w) (base:=base) (cl:=cl) ah8 M aiC aiG aiD ais aiA aij aik aiz
 have aiI:=aeH (P:=P) (w:=w) (base:=base) (cl:=cl) ah9 M air aiy vI aiw aix aiF aiu aiH
 obtain⟨f,fd,h1,h2⟩:=aiI
 exact⟨f,fd,h1.imp ahn,h2⟩
end
theorem walk{l:OpenLaw}{q:Program}{loose:List Str}{XP:(Str->Option Value)->Heap->Prop}{YP:World->Heap->Prop}{d:DefRec}{K:Params->Frag}(hn:l.most=some 63)(hdf:d.params.defaults=[])(hd:d.name = "law")
  (Bo:∀x∈qD,((PyProof.Rows.recsOf q).find? (λe=>e.name == x)).isSome=true\/∀w:World,nsIn (K w.params) mainGlobals x=some none) (vH:∀w:World,noTabs (K w.params)=true)
  (hY:∀(w:World) (h:Heap),YP w h->(K w.params).In h)
  (F:∀(w:World) (mg:Str->Option Value) (h:Heap),(K w.params).In h->h.Ns mainGlobals mg->∀base:Heap,(K w.params).In base->base.Ns mainGlobals mg->(∀x∈qD,∀c b,tabIn (K w.params) x=some (c,b)->CodeHd base c b)->zY mg base->aU l.prog w (K w.params) mg base 9 "law" (["_law_script"]:List Str) (GK (K w.params) 1 Ai)) :
  WalkO q loose XP YP l.row.toRowW d [] (λf vs=>PySem.call f vs) :=
 L2.ahj (n:=63) (k:=9) (x := "_law_script") (CX:=λw=>j4 l.prog w) (sp:=λw=>GK (K w.params) 1 Ai) hn (by decide) hdf ⟨rfl,by decide,by decide,rfl⟩ Bo vH hY
  (λw mg fa h KX G hm base kb gb hc bm=>by
   obtain⟨f,fd,h1,h2,_,h4⟩:=F w mg h KX G base kb gb hc bm
   rw[hd]at hm
   cases h4.symm.trans hm
   exact⟨fd,λs u ks=>h2 s [u] ks rfl,h1⟩)
  (λw H a ns hl hTb hS=>⟨λ_=>False,[.lst (ns.map .int)],rfl,.cons (.lst ((ahm H).symm▸hS.toN) (Xl ns)) .nil,λb z=>z.elim,hTb,_,ahh ns,λv H' _ r=>by
   cases r
   rfl⟩)
  λw H s e s' h=>by
   obtain⟨_,_,_,_,_,_,z,_⟩:=h
   exact z
end K70
end
section
namespace PySem.W.Fast
end PySem.W.Fast
namespace PySem.W.Fast
end PySem.W.Fast
namespace PySem.W.Fast
theorem tw10221618573329386432:True:=⟨⟩
theorem tw10303536490167333204:True:=⟨⟩
theorem tw10348432801078524260:True:=⟨⟩
theorem tw10437164824220237627:True:=⟨⟩
theorem tw10494229369016506620:True:=⟨⟩
theorem tw10645492691511052149:True:=⟨⟩
theorem tw10703464931976996935:True:=⟨⟩
theorem tw10953048665773742004:True:=⟨⟩
theorem tw11071200417892807354:True:=⟨⟩
theorem tw11081323980264682931:True:=⟨⟩
theorem tw11219459466069286682:True:=⟨⟩
theorem tw1142175482609311071:True:=⟨⟩
theorem tw11536938306108253684:True:=⟨⟩
theorem tw11744126004395841348:True:=⟨⟩
theorem tw11783249459287146224:True:=⟨⟩
theorem tw11809200883144610998:True:=⟨⟩
theorem tw11843149494655278122:True:=⟨⟩
theorem tw11881542778403661478:True:=⟨⟩
theorem tw11919246581458448833:True:=⟨⟩
theorem tw12615810721146664825:True:=⟨⟩
theorem tw1267855794085687139:True:=⟨⟩
theorem tw12697121836523833583:True:=⟨⟩
theorem tw13100454285395421265:True:=⟨⟩
theorem tw13118350153058056641:True:=⟨⟩
theorem tw13260586584453137968:True:=⟨⟩
theorem tw13314113847139945619:True:=⟨⟩
theorem tw13336889710739197231:True:=⟨⟩
theorem tw13466597815326992658:True:=⟨⟩
theorem tw13571877712645937314:True:=⟨⟩
theorem tw13924141218374923097:True:=⟨⟩
theorem tw14057756370426637599:True:=⟨⟩
theorem tw14084574879444122188:True:=⟨⟩
theorem tw14096748308736337582:True:=⟨⟩
theorem tw1412601799464933166:True:=⟨⟩
theorem tw14415710131595302938:True:=⟨⟩
theorem tw14437411239836804618:True:=⟨⟩
theorem tw14567986612843641367:True:=⟨⟩
theorem tw14651255747813059878:True:=⟨⟩
theorem tw14793836919272112317:True:=⟨⟩
theorem tw14830456648685328205:True:=⟨⟩
theorem tw14858384589339380948:True:=⟨⟩
theorem tw14890598219601198321:True:=⟨⟩
theorem tw14946184989339282398:True:=⟨⟩
theorem tw14980035939335549360:True:=⟨⟩
theorem tw15109905018034485688:True:=⟨⟩
theorem tw1512084903654800925:True:=⟨⟩
theorem tw15265351090856741621:True:=⟨⟩
theorem tw15608380216115760832:True:=⟨⟩
theorem tw15788028174611391175:True:=⟨⟩
theorem tw15921519039457901872:True:=⟨⟩
theorem tw16041156156435940038:True:=⟨⟩
theorem tw16105980747400081729:True:=⟨⟩
theorem tw16135842314561033525:True:=⟨⟩
theorem tw16137374076122289993:True:=⟨⟩
theorem tw16247994775803103032:True:=⟨⟩
theorem tw16284319592684016351:True:=⟨⟩
theorem tw16452408232272336770:True:=⟨⟩
theorem tw16610985198695070636:True:=⟨⟩
theorem tw17203950433221414732:True:=⟨⟩
theorem tw17273987372542025361:True:=⟨⟩
theorem tw17298424045385006330:True:=⟨⟩
theorem tw17371557455701837652:True:=⟨⟩
theorem tw17413813188812359760:True:=⟨⟩
theorem tw17539576251562223080:True:=⟨⟩
theorem tw1756392933832188774:True:=⟨⟩
theorem tw17703459978842070447:True:=⟨⟩
theorem tw17956490066282068804:True:=⟨⟩
theorem tw18073128052420901671:True:=⟨⟩
theorem tw18075000521200268096:True:=⟨⟩
theorem tw18229675459020888760:True:=⟨⟩
theorem tw18239347468897996469:True:=⟨⟩
theorem tw18263103013091304438:True:=⟨⟩
theorem tw18313201366698303121:True:=⟨⟩
theorem tw1861459694379045584:True:=⟨⟩
theorem tw1883482311708183290:True:=⟨⟩
theorem tw2062224373784446380:True:=⟨⟩
theorem tw2342148385172289705:True:=⟨⟩
theorem tw2390329903148353661:True:=⟨⟩
theorem tw2402085714944113721:True:=⟨⟩
theorem tw2407932807967165737:True:=⟨⟩
theorem tw2436414761800713263:True:=⟨⟩
theorem tw2686616708726951900:True:=⟨⟩
theorem tw2781480589096232700:True:=⟨⟩
theorem tw2896050990969924360:True:=⟨⟩
theorem tw2950765740354646836:True:=⟨⟩
theorem tw296193247919886442:True:=⟨⟩
theorem tw2975517524912953020:True:=⟨⟩
theorem tw3004098481509289393:True:=⟨⟩
theorem tw3012575396836494688:True:=⟨⟩
theorem tw3037572668690088594:True:=⟨⟩
theorem tw3063979056198802455:True:=⟨⟩
theorem tw3102660752870710379:True:=⟨⟩
theorem tw3173415665463502022:True:=⟨⟩
theorem tw3236784775862880352:True:=⟨⟩
theorem tw3386857667269277700:True:=⟨⟩
theorem tw3736271353822365655:True:=⟨⟩
theorem tw4142077310846918000:True:=⟨⟩
theorem tw4228179454415083690:True:=⟨⟩
theorem tw4279746692569646520:True:=⟨⟩
theorem tw4285459597864724602:True:=⟨⟩
theorem tw4460961464311136999:True:=⟨⟩
theorem tw4802333219618800948:True:=⟨⟩
theorem tw509297588622488772:True:=⟨⟩
theorem tw5113935958707470242:True:=⟨⟩
theorem tw5185875420172594629:True:=⟨⟩
theorem tw5521314273704358214:True:=⟨⟩
theorem tw5546884541468288308:True:=⟨⟩
theorem tw5609257864017590505:True:=⟨⟩
theorem tw5713281022099336270:True:=⟨⟩
theorem tw5949290369753169131:True:=⟨⟩
theorem tw5977843989106311988:True:=⟨⟩
theorem tw6059592229471848065:True:=⟨⟩
theorem tw6306067722365104373:True:=⟨⟩
theorem tw6427407952283947178:True:=⟨⟩
theorem tw643945445304627371:True:=⟨⟩
theorem tw6751379700463113801:True:=⟨⟩
theorem tw6821727394082862446:True:=⟨⟩
theorem tw7001810242868743563:True:=⟨⟩
theorem tw7010836929122094184:True:=⟨⟩
theorem tw7023460164905642617:True:=⟨⟩
theorem tw7279529377562229460:True:=⟨⟩
theorem tw7565026563893846799:True:=⟨⟩
theorem tw7621227787073506083:True:=⟨⟩
theorem tw762247605864228515:True:=⟨⟩
theorem tw7729256808121095443:True:=⟨⟩
theorem tw7814747376598468776:True:=⟨⟩
theorem tw7845409202317914071:True:=⟨⟩
theorem tw7923373340748927747:True:=⟨⟩
theorem tw8322200904352204595:True:=⟨⟩
theorem tw8412177594909503174:True:=⟨⟩
theorem tw8515625901469394306:True:=⟨⟩
theorem tw8973402750026959130:True:=⟨⟩
theorem tw9123462183023123204:True:=⟨⟩
theorem tw9130101904375421029:True:=⟨⟩
theorem tw9189838521249718016:True:=⟨⟩
theorem tw9481664960430086488:True:=⟨⟩
theorem tw95256381126428593:True:=⟨⟩
theorem tw9589628920694054335:True:=⟨⟩
theorem tw9785993712241680957:True:=⟨⟩
theorem tw999271026460178639:True:=⟨⟩
end PySem.W.Fast
open PySem PySem.W PyProof.Rows
set_option maxRecDepth 100000 in
set_option maxHeartbeats 0 in
theorem PySem.Challenge.cw_bestheads_k70_whole_texts_bent_holds : PySem.Challenge.rw_bestheads_k70_whole_texts_bent.Holds := by
 w_on; o_law; k_head; (case hw=>w_witness2)
 k_fill
 refine K70.walk (l:=PySem.Challenge.rw_bestheads_k70_whole_texts_bent) rfl rfl rfl ?Bo ?vH (λw h Y=>by first|exact PySem.W.km_in_of Y|exact PySem.W.kIn_of Y) ?F
 case Bo =>
  intro x hx
  rcases(List.mem_cons.mp hx)with rfl|hx
  ·exact .inr λw=>by k_is
  ·rw[List.mem_singleton.mp hx]
   exact .inr λw=>by k_is
 case vH=>intro w; kernel_rfl
 case F =>
  intro w mg h KX G base kb gb hcd hbm
  refine' K70.ahp ?qM ?aiJ ?aiK ?aiL ?qXT ?aiM ?aiN ?aiO ?aiP ?aiQ ?aiR ?aiS ?aiT ?aiU ?aiV ?aiW ?aiX ?aiY ?aiZ ?ai0 ?qd1 ?qd2 ?qd3 ?qd4 ?qd5 ?qd6 ?qd7 ?qd8 ?qd9 ?ai1 ?ai2 ?ai3 ?ai4 ?ai5 ?ai6 ?ai7 ?ai8 ?ai9 ?aja ?ajb ?ajc ?ajd ?aje ?ajf ?ajg ?ajh ?aji ?ajj ?ajk ?ajl ?ajm ?ajn ?ajo ?ajp ?ajq ?ajr ?ajs ?ajt ?aju ?ajv ?ajw ?ajx ?ajy ?ajz ?ajA ?ajB ?ajC ?ajD ?ajE ?ajF
  case qM =>
   refine' K70.aho KX G ?z0 ?z1 ?z2 ?z3 ?z4 ?z5 ?z6 ?z7 ?z8 ?z9 ?Xm ?Xn ?Xo ?Xp
   all_goals k_is
  case qd1|qd2|qd3|qd4|qd5|qd6|qd7|qd8|qd9|ai1|ai2|ai3|ai4|ai5|ai6|ai7|ai8|ai9|aja|ajb|ajc|ajd|aje|ajf|ajg|ajh|aji|ajj|ajk|ajl|ajm|ajn|ajo|ajp|ajq|ajr|ajs|ajt|aju|ajv|ajw|ajx|ajy|ajz|ajA|ajB=>exact K70.ahk KX G (by k_is) (by k_is) (by k_is) (by k_is)
  case ajC =>
   refine' K70.Oj KX G ?ajG
   (case ajG=>k_is)
  case ajD =>
   refine' K70.Oj KX G ?ajH
   (case ajH=>k_is)
  case ajE =>
   refine' K70.ahl KX G ?qbm ?qbl ?qbe ?ajI ?ajJ ?ajK ?ajL ?ajM ?ajN
   (case qbm=>k_is); (case qbl=>k_is); (case qbe=>rfl); (case ajI=>k_is); (case ajJ=>rfl); (case ajK=>k_is); (case ajL=>rfl); (case ajM=>k_is); (case ajN=>rfl)
  case ajF =>
   refine' K70.Oj KX G ?ajO
   (case ajO=>k_is)
  case qXT=>exact L2.iY.of (by kernel_rfl)
  case aiM =>
   refine' ⟨?ajP,mg_of KX G ?ajQ⟩
   (case ajP=>k_is); (case ajQ=>k_is)
  case aiN =>
   refine' ⟨?ajR,mg_of KX G ?ajS⟩
   (case ajR=>k_is); (case ajS=>k_is)
  case aiO =>
   refine' ⟨?ajT,mg_of KX G ?ajU⟩
   (case ajT=>k_is); (case ajU=>k_is)
  case aiP =>
   refine' ⟨?ajV,mg_of KX G ?ajW⟩
   (case ajV=>k_is); (case ajW=>k_is)
  case aiQ =>
   refine' ⟨?ajX,mg_of KX G ?ajY⟩
   (case ajX=>k_is); (case ajY=>k_is)
  case aiR =>
   refine' ⟨?ajZ,mg_of KX G ?aj0⟩
   (case ajZ=>k_is); (case aj0=>k_is)
  case aiS =>
   refine' ⟨?aj1,mg_of KX G ?aj2⟩
   (case aj1=>k_is); (case aj2=>k_is)
  case aiT =>
   refine' ⟨?aj3,mg_of KX G ?aj4⟩
   (case aj3=>k_is); (case aj4=>k_is)
  case aiU =>
   refine' ⟨?aj5,mg_of KX G ?aj6⟩
   (case aj5=>k_is); (case aj6=>k_is)
  case aiV =>
   refine' ⟨?aj7,mg_of KX G ?aj8⟩
   (case aj7=>k_is); (case aj8=>k_is)
  case aiW =>
   refine' ⟨?aj9,mg_of KX G ?akb⟩
   (case aj9=>k_is); (case akb=>k_is)
  case aiX =>
   refine' ⟨?akc,mg_of KX G ?akd⟩
   (case akc=>k_is); (case akd=>k_is)
  case aiY =>
   refine' ⟨?ake,mg_of KX G ?akf⟩
   (case ake=>k_is); (case akf=>k_is)
  case aiZ =>
   refine' ⟨?akg,mg_of KX G ?akh⟩
   (case akg=>k_is); (case akh=>k_is)
  case ai0 =>
   refine' ⟨?aki,mg_of KX G ?akj⟩
   (case aki=>k_is); (case akj=>k_is)
  case aiJ =>
   refine' L2.Iw kb gb ?akk ?akl
   (case akk=>k_is); (case akl=>k_exc)
  case aiK =>
   refine' L2.Iw kb gb ?akm ?akn
   (case akm=>k_is); (case akn=>k_exc)
  case aiL =>
   refine' L2.Iw kb gb ?ako ?akp
   (case ako=>k_is); (case akp=>k_exc)
#print axioms PySem.Challenge.cw_bestheads_k70_whole_texts_bent_holds
end
end
