import PyProof.Rows.All
import Wide.All
import OpenK.AllK
import Wide.FinOn
import Lean
import PyProof.EqAt
import PyProof.EqKinds
import PyProof.TupleCall
import PyProof.ReprRoads
import PyProof.ReprBulk
import PyProof.Rows.RegStrFacts
import PyProof.StrBlockH
import PyProof.FitsBits
import KE.KTurns
import PyProof.NeKinds
import KE.KNest
import KE.KSortKey
import PyProof.ListRange
import PyProof.Rows.SortWalk
import KE.KListMore
import KE.KIntText
import PyProof.StrLawsIn
import PyProof.StrLawsTight
import PyProof.StrLawsChain
import PyProof.StrLawsFirst
import PyProof.StrLawsJoin
import PyProof.SliceStr2
import PySem.Challenge.RW_bestheads_k68_books_as_texts
noncomputable section
abbrev FZ:=PySem.W.Frag
set_option exponentiation.threshold 6000
set_option Elab.async false
set_option linter.all false
set_option maxRecDepth 100000
set_option maxHeartbeats 4000000
section
namespace L2
open PySem PySem.Spec PyProof.Rows
abbrev Key:=Sum Int Str
def GD:Key->Value->Bool
 |.inl k,v=>Value.isInt k v
 |.inr x,v=>Value.isStrOf x v
def Qg(w:World):Key->Int
 |.inl k=>hashInt k
 |.inr x=>hashStr w x
theorem m6:∀{k:Key} {v:Value},GD k v=true->(∃i t,k=Sum.inl i/\v=Value.int i t)\/(∃x t,k=Sum.inr x/\v=Value.str x t)
 |.inl i,v,h=>by
  obtain⟨t,e⟩:=Value.isInt_shape (k:=i) (v:=v) h
  exact .inl ⟨i,t,rfl,e⟩
 |.inr x,v,h=>by
  obtain⟨t,e⟩:=Value.isStrOf_shape (x:=x) (v:=v) h
  exact .inr ⟨x,t,rfl,e⟩
theorem Qh(a b:Int):decide ((Sum.inl a:Key)=Sum.inl b)=(a == b):=by
 by_cases e:a=b
 ·subst e; simp
 ·have h:¬(Sum.inl a:Key)=Sum.inl b:=λq=>e (Sum.inl.inj q)
  rw[decide_eq_false h]
  exact(beq_eq_false_iff_ne.mpr e).symm
theorem Qi(a b:Str):decide ((Sum.inr a:Key)=Sum.inr b)=decide (a=b):=by
 by_cases e:a=b
 ·subst e; simp
 ·have h:¬(Sum.inr a:Key)=Sum.inr b:=λq=>e (Sum.inr.inj q)
  rw[decide_eq_false h,decide_eq_false e]
theorem Qj(a:Int)(b:Str):decide ((Sum.inl a:Key)=Sum.inr b)=false:=decide_eq_false (λq=>nomatch q)
theorem Qk(a:Str)(b:Int):decide ((Sum.inr a:Key)=Sum.inl b)=false:=decide_eq_false (λq=>nomatch q)
noncomputable def Aa(prog:Program)(w:World):PySem.KeyKind prog w Key where
 is:=GD
 hash:=Qg w
 inj:=λv a b ha hb=>by
  rcases m6 ha with⟨i,t,rfl,rfl⟩|⟨x,t,rfl,rfl⟩
  ·rcases m6 hb with⟨j,u,rfl,e⟩|⟨y,u,rfl,e⟩
   ·injection e with e1 _; rw[e1]
   ·exact nomatch e
  ·rcases m6 hb with⟨j,u,rfl,e⟩|⟨y,u,rfl,e⟩
   ·exact nomatch e
   ·injection e with e1 _; rw[e1]
 byValue:=λk v h=>by
  rcases m6 h with⟨i,t,rfl,rfl⟩|⟨x,t,rfl,rfl⟩ <;> rfl
 pyHash:=λhv h=>by
  rcases m6 hv with⟨i,t,rfl,rfl⟩|⟨x,t,rfl,rfl⟩
  ·exact wpAny_pyHash_int h
  ·exact wpAny_pyHash_str h
 eqBool:=λhu hv h=>by
  rcases m6 hu with⟨i,t,rfl,rfl⟩|⟨x,t,rfl,rfl⟩
  ·rcases m6 hv with⟨j,u,rfl,rfl⟩|⟨y,u,rfl,rfl⟩
   ·rw[Qh]at h; exact wpAny_eqBool_int h
   ·rw[Qj]at h; exact SeqAt.EqAt.int_str i t y u _ _ _ _ h
  ·rcases m6 hv with⟨j,u,rfl,rfl⟩|⟨y,u,rfl,rfl⟩
   ·rw[Qk]at h; exact SeqAt.EqAt.str_int x t j u _ _ _ _ h
   ·rw[Qi]at h; exact wpAny_eqBool_str h
 «strs» := λk x t v h=>by
  rcases m6 h with⟨i,u,rfl,e⟩|⟨y,u,rfl,e⟩
  ·exact nomatch e
  ·injection e with e1 _
   subst e1
   cases v <;> rfl
end L2
namespace L2
open PySem PySem.Spec PyProof.Rows
inductive V where
 |non|bl (b:Bool)|int (i:Int)|str (x:Str)|uh (b:Array UInt8)|flt (b:UInt64)|ref (a:Addr)|ty (n:String)
 deriving DecidableEq
noncomputable def RelV:V->Value->Prop
 |.non,u=>u=Value.none
 |.bl b,u=>u=Value.bool b
 |.int i,u=>∃t,u=Value.int i t
 |.str x,u=>∃t,u=Value.str x t
 |.uh b,u=>∃t,u=Value.bytes b t
 |.flt b,u=>∃t,u=Value.float b t
 |.ref a,u=>u=Value.ref a
 |.ty n,u=>u=Value.type n
abbrev Vals:List V->List Value->Prop:=Paired RelV
theorem Vals.length{xs:List V}{us:List Value}(r:Vals xs us):xs.length=us.length:=Paired.length r
theorem Vals.get:∀{xs:List V} {us:List Value} {i:Nat} {x:V},Vals xs us->xs[i]?=some x->∃u,us[i]?=some u/\RelV x u
 |_,_,_,_,.nil,e=>by simp at e
 |_,_,0,_,.cons r _,e=>by simp at e; subst e; exact⟨_,rfl,r⟩
 |_,_,i+1,x,.cons _ t,e=>by
  obtain⟨u,h1,h2⟩:=Vals.get (i:=i) (x:=x) t (by simpa using e)
  exact⟨u,by simpa using h1,h2⟩
theorem Vals.set{x:V}{u:Value}(r:RelV x u):∀{xs:List V} {us:List Value} (i:Nat),Vals xs us->Vals (xs.set i x) (us.set i u)
 |_,_,_,.nil=>.nil
 |_,_,0,.cons _ t=>.cons r t
 |_,_,i+1,.cons q t=>.cons q (Vals.set r i t)
theorem Vals.append:∀{xs ys:List V} {us ws:List Value},Vals xs us->Vals ys ws->Vals (xs++ys) (us++ws)
 |_,_,_,_,.nil,s=>s
 |_,_,_,_,.cons r t,s=>.cons r (Vals.append t s)
theorem Vals.take:∀{xs:List V} {us:List Value} (n:Nat),Vals xs us->Vals (xs.take n) (us.take n)
 |_,_,0,_=>.nil
 |_,_,_+1,.nil=>.nil
 |_,_,n+1,.cons r t=>.cons r (Vals.take n t)
theorem Vals.drop:∀{xs:List V} {us:List Value} (n:Nat),Vals xs us->Vals (xs.drop n) (us.drop n)
 |_,_,0,r=>r
 |_,_,_+1,.nil=>.nil
 |_,_,n+1,.cons _ t=>Vals.drop n t
def GJ:Option V->Option Value->Prop
 |some v,some u=>RelV v u
 |none,none=>True
 |_,_=>False
def KV{κ : Type}:List (κ × V)->List (κ × Value)->Prop:=Paired λ(p : κ × V) (q : κ × Value)=>p.1=q.1/\RelV p.2 q.2
def kV:Key->V
 |.inl i=>.int i
 |.inr x=>.str x
inductive HO where
 |lst (xs:List V)
 |tup (xs:List V)
 |dK (kvs:List (Key × V))|dT (kvs:List (List Key × V))
 |set (S:Int->Bool) (n:Nat)
 |ins (C dx:Addr) (fs:List (Str × V))
 |own (x:Addr)
 |xd (fs:List (Str × V))
 |met (f x:Addr)
 |rng (lo hi:Int)
 |cD (o:Obj) (u:HO)
 |dM (ps:Array Value)
 |ext (φ : Heap->Prop)
abbrev Hp:=Addr->Option HO
def upd(H:Hp)(a:Addr)(o:HO):Hp:=λb=>if b=a then some o else H b
theorem dh{H:Hp}{a:Addr}{o:HO}:upd H a o a=some o:=by unfold upd; rw[if_pos rfl]
theorem aN{H:Hp}{a b:Addr}{o:HO}(h:b≠a):upd H a o b=H b:=by unfold upd; rw[if_neg h]
theorem jM{H:Hp}{a b:Addr}{o:HO}(h:H a=some o)(h':H b=none):a≠b:=by
 intro e; subst e; rw[h]at h'; cases h'
section
variable (P:Program)(w:World)
noncomputable def jx(H:Hp)(h:Heap)(a:Addr):HO->Prop
 |.lst xs=>xs.length<=sizeLine/\∃(its:List Value) (n:Nat),Vals xs its/\h.get? a=some {cls:=.type "list",data:=.seq its.toArray n }
 |.tup xs=>xs.length<=sizeLine/\∃its:List Value,Vals xs its/\IsTup h a its.toArray
 |.dK kvs=>kvs.length<=sizeLine/\(a == sysModules)=false/\∃vs,KV kvs vs/\h.DictOf (Aa P w) a vs
 |.dT kvs=>kvs.length<=sizeLine/\(a == sysModules)=false/\∃xs:List (List Key × Addr × Value),
   Paired (λ(p:List Key × V) (q:List Key × Addr × Value)=>p.1=q.1/\H q.2.1=some (.tup (p.1.map kV))/\RelV p.2 q.2.2) kvs xs /\
   ∃o es ep,h.get? a=some o/\o.ExactDict/\o.data=.dict es ep/\es.toList=xs.map (entryOfKey (tupleKind (Aa P w)))/\(xs.map (·.1)).Nodup
 |.set S n=>h.SetOf (intKind P w) a S n
 |.ins C dx fs=>H dx=some (.own a)/\fs.length<=1000/\dx≠a/\h.get? a=some (PySem.W.instObj C dx) /\
   ∃mA,h.Ns1 dx mA/\(∀f,GJ (fs.lookup f) (mA f))/\PySem.Within mA (fs.map (·.1))
 |.own _=>∃o,h.get? a=some o
 |.xd fs=>∃mA,h.Ns1 a mA/\∀f,GJ (fs.lookup f) (mA f)
 |.rng lo hi=>∃t u v,h.get? a=some {cls:=.type "range",data:=.fields #[.int lo t,.int hi u,.int 1 v] }
 |.cD o u=>h.get? a=some o/\jx H h a u
 |.dM ps=>h.get? a=some {cls:=.none,data:=.fields ps }
 |.met f x=>h.get? a=some (PySem.W.methodObj (.ref f) (.ref x))
 |.ext φ=>φ h/\(∃o,h.get? a=some o)/\∀h1 h2:Heap,φ h1->(∀o,h1.get? a=some o->h2.get? a=some o) -> φ h2
def d8(H:Hp)(h:Heap):Prop:=∀a o,H a=some o->jx P w H h a o
end
section
variable {P:Program}{w:World}{H H':Hp}{h h':Heap}{a:Addr}{o:HO}
theorem jx.lt(x:jx P w H h a o):a<h.objs.size:=by
 cases o with
 |lst xs=>obtain⟨_,_,_,_,e⟩:=x; exact Heap.lt_size e
 |tup xs=>obtain⟨_,_,_,p⟩:=x; exact p.lt
 |dK kvs=>obtain⟨_,_,_,_,o,_,_,e,_⟩:=x; exact Heap.lt_size e
 |dT kvs=>obtain⟨_,_,_,_,o,_,_,e,_⟩:=x; exact Heap.lt_size e
 |set S n=>obtain⟨o,_,_,_,e,_⟩:=x; exact Heap.lt_size e
 |ins C dx fs=>obtain⟨_,_,_,e,_⟩:=x; exact Heap.lt_size e
 |own y=>obtain⟨_,e⟩:=x; exact Heap.lt_size e
 |xd fs=>obtain⟨_,⟨_,_,_,e,_⟩,_⟩:=x; exact Heap.lt_size e
 |rng lo hi=>obtain⟨_,_,_,e⟩:=x; exact Heap.lt_size e
 |cD ob u=>obtain⟨e,_⟩:=x; exact Heap.lt_size e
 |dM ps=>exact Heap.lt_size (show h.get? a=some _ from x)
 |met f y=>exact Heap.lt_size (show h.get? a=some _ from x)
 |ext φ=>obtain⟨_,⟨_,e⟩,_⟩:=x; exact Heap.lt_size e
theorem Paired.GK{α β : Type}{F G : α -> β -> Prop}:∀{l₁ : List α} {l₂ : List β},Paired F l₁ l₂ -> (∀a b,F a b->G a b)->Paired G l₁ l₂
 |_,_,.nil,_=>.nil
 |_,_,.cons r t,f=>.cons (f _ _ r) (Paired.GK t f)
theorem jx.stay(x:jx P w H h a o)(k:∀b u,(b=a\/H b=some (.own a))->h.get? b=some u->h'.get? b=some u)
  (ho:∀b,H b=some (.own a)->H' b=some (.own a)) (ht:∀b xs,H b=some (.tup xs)->H' b=some (.tup xs)):jx P w H' h' a o:=by
 induction o with
 |lst xs=>obtain⟨z,its,n,r,e⟩:=x; exact⟨z,its,n,r,k _ _ (.inl rfl) e⟩
 |tup xs=>obtain⟨z,its,r,ob,e,c⟩:=x; exact⟨z,its,r,ob,k _ _ (.inl rfl) e,c⟩
 |dK kvs=>obtain⟨z,y,vs,r,ob,es,ep,e,c⟩:=x; exact⟨z,y,vs,r,ob,es,ep,k _ _ (.inl rfl) e,c⟩
 |dT kvs =>
  obtain⟨z,y,xs,r,ob,es,ep,e,c⟩:=x
  exact⟨z,y,xs,Paired.GK r λp q z=>⟨z.1,ht _ _ z.2.1,z.2.2⟩,ob,es,ep,k _ _ (.inl rfl) e,c⟩
 |set S n=>obtain⟨ob,es,ep,t,e,c⟩:=x; exact⟨ob,es,ep,t,k _ _ (.inl rfl) e,c⟩
 |ins C dx fs =>
  obtain⟨d,z,ne,e,mA,⟨od,es,ep,e2,c⟩,r⟩:=x
  exact⟨ho _ d,z,ne,k _ _ (.inl rfl) e,mA,⟨od,es,ep,k _ _ (.inr d) e2,c⟩,r⟩
 |own y=>obtain⟨ob,e⟩:=x; exact⟨ob,k _ _ (.inl rfl) e⟩
 |xd fs=>obtain⟨mA,⟨od,es,ep,e,c⟩,r⟩:=x; exact⟨mA,⟨od,es,ep,k _ _ (.inl rfl) e,c⟩,r⟩
 |rng lo hi=>obtain⟨t,u,v,e⟩:=x; exact⟨t,u,v,k _ _ (.inl rfl) e⟩
 |cD ob u ih=>obtain⟨e,q⟩:=x; exact⟨k _ _ (.inl rfl) e,ih q⟩
 |dM ps =>
  have e:h.get? a=some {cls:=.none,data:=.fields ps }:=x
  show h'.get? a=some {cls:=.none,data:=.fields ps }
  exact k a _ (.inl rfl) e
 |met f y =>
  have e:h.get? a=some (PySem.W.methodObj (.ref f) (.ref y)):=x
  show h'.get? a=some (PySem.W.methodObj (.ref f) (.ref y))
  exact k a _ (.inl rfl) e
 |ext φ=>obtain⟨p,⟨o,e⟩,st⟩:=x; exact⟨st _ _ p λo q=>k _ _ (.inl rfl) q,⟨o,k _ _ (.inl rfl) e⟩,st⟩
theorem d8.lt(x:d8 P w H h)(e:H a=some o):a<h.objs.size:=(x a o e).lt
theorem d8.fresh(x:d8 P w H h)(e:h.objs.size<=a):H a=none:=by
 cases q:H a with
 |none=>rfl
 |some u=>exact absurd (Nat.lt_of_lt_of_le (x.lt q) e) (Nat.lt_irrefl _)
theorem d8.kept(x:d8 P w H h)(k:∀b u,h.get? b=some u->h'.get? b=some u):d8 P w H h':=λa o e =>
 (x a o e).stay (λb u _ q=>k b u q) (λ_ q=>q) λ_ _ q=>q
theorem d8.laid(x:d8 P w H h)(k:∀b u,h.get? b=some u->h'.get? b=some u)(hp:h.objs.size<=a)(new:jx P w (upd H a o) h' a o):d8 P w (upd H a o) h':=λb u e=>by
 have hn:=x.fresh hp
 by_cases hb:b=a
 ·subst hb; rw[dh]at e; cases e; exact new
 ·rw[aN hb]at e
  exact(x b u e).stay (λc v _ q=>k c v q) (λc q=>by rw[aN (jM q hn)]; exact q) λc xs q=>by rw[aN (jM q hn)]; exact q
end
def Rd(H:Hp)(a:Addr)(u:HO):Prop:=H a=some u\/∃o,H a=some (.cD o u)
theorem Rd.ok{P:Program}{w:World}{H:Hp}{h:Heap}{a:Addr}{u:HO}(r:Rd H a u)(x:d8 P w H h):jx P w H h a u:=by
 rcases r with r|⟨o,r⟩
 ·exact x a u r
 ·obtain⟨_,q⟩:=x a _ r
  exact q
def wB:Option HO->Prop
 |some (.lst _)=>True
 |some (.dK _)=>True
 |some (.dT _)=>True
 |some (.set _ _)=>True
 |some (.ins _ _ _)=>True
 |some (.ext _)=>True
 |_=>False
section
variable {P:Program}{w:World}{H:Hp}{h h':Heap}{x e:Addr}{o':HO}
theorem d8.write(ok:d8 P w H h)(mu:wB (H x))(he:e=x\/H e=some (.own x))(k:∀b u,b≠e->h.get? b=some u->h'.get? b=some u)(heo:∃u,h'.get? e=some u)
  (new:jx P w (upd H x o') h' x o'):d8 P w (upd H x o') h':=λb u q=>by
 have GQ:∀c y,H c=some (.own y)->c≠x:=λc y r z=>by subst z; rw[r]at mu; exact mu
 have Ql:∀c xs,H c=some (.tup xs)->c≠x:=λc xs r z=>by subst z; rw[r]at mu; exact mu
 by_cases hb:b=x
 ·subst hb; rw[dh]at q; cases q; exact new
 ·rw[aN hb]at q
  by_cases hbe:b=e
  ·have q':H b=some (.own x):=by
    rcases he with z|z
    ·exact absurd (hbe.trans z) hb
    ·rw[hbe]; exact z
   rw[q]at q'; cases q'
   obtain⟨v,hv⟩:=heo
   exact⟨v,by rw[hbe]; exact hv⟩
  ·refine(ok b u q).stay (λc v hc r=>k c v ?_ r) (λc r=>by rw[aN (GQ c b r)]; exact r) λc xs r=>by rw[aN (Ql c xs r)]; exact r
   rcases hc with rfl|hc
   ·exact hbe
   ·rintro rfl
    rcases he with z|z
    ·exact GQ c b hc z
    ·rw[hc]at z; cases z; exact hb rfl
end
structure Un(fs ex:List Addr)(H H':Hp)(h h':Heap):Prop where
 keep:∀b o,h.get? b=some o->H b=none->b∉fs->b∉ex->h'.get? b=some o
 slot:∀b o,h.get? b=some o->H b=none->b∈fs->b∉ex->∃sl,h'.get? b=some {o with slots:=sl }
 free:∀b o,h.get? b=some o->H b=none->b∉ex->H' b=none
 there:∀b o,h.get? b=some o->b∉ex->∃o',h'.get? b=some o'
 tups:∀b xs,H b=some (.tup xs)->H' b=some (.tup xs)
 lB:∀b o u,H b=some (.cD o u)->H' b=some (.cD o u)
 lC:∀b ps,H b=some (.dM ps)->∃more,H' b=some (.dM (ps++more))
section
variable {fs fs' ex ex':List Addr}{H H1 H2:Hp}{h h1 h2 h':Heap}{a x e:Addr}{o:HO}
theorem Un.any(u:Un fs ex H H1 h h1){b:Addr}{ob:Obj}(q:h.get? b=some ob)(n:H b=none)(hx:b∉ex):∃sl,h1.get? b=some {ob with slots:=sl }:=by
 by_cases hb:b∈fs
 ·exact u.slot b ob q n hb hx
 ·exact⟨ob.slots,u.keep b ob q n hb hx⟩
theorem Un.kept(k:∀b u,h.get? b=some u->h'.get? b=some u):Un fs ex H H h h' :=
 ⟨λb ob q _ _ _=>k b ob q,λb ob q _ _ _=>⟨ob.slots,k b ob q⟩,λ_ _ _ n _=>n,λb ob q _=>⟨ob,k b ob q⟩,λ_ _ q=>q,λ_ _ _ q=>q,λ_ ps q=>⟨#[],by rw[q]; simp⟩⟩
theorem Un.refl:Un fs ex H H h h:=Un.kept λ_ _ q=>q
theorem Un.laid(k:∀b u,h.get? b=some u->h'.get? b=some u)(hp:h.objs.size<=a)(hn:H a=none):Un fs ex H (upd H a o) h h' where
 keep:=λb u q _ _ _=>k b u q
 slot:=λb u q _ _ _=>⟨u.slots,k b u q⟩
 free:=λb u q n _=>by rw[aN (Nat.ne_of_lt (Nat.lt_of_lt_of_le (Heap.lt_size q) hp))]; exact n
 there:=λb u q _=>⟨u,k b u q⟩
 tups:=λb xs q=>by rw[aN (jM q hn)]; exact q
 lB:=λb u xs q=>by rw[aN (jM q hn)]; exact q
 lC:=λb ps q=>⟨#[],by rw[aN (jM q hn),q]; simp⟩
theorem Un.write(mu:wB (H x))(he:e=x\/H e=some (.own x))(k:∀b u,b≠e->h.get? b=some u->h'.get? b=some u)(heo:∃u,h'.get? e=some u):Un fs ex H (upd H x o) h h':=by
 have hx:∀b,H b=none->b≠x:=λb n z=>by subst z; rw[n]at mu; exact mu
 have hb:∀b,H b=none->b≠e:=λb n z=>by
  subst z
  rcases he with r|r
  ·exact hx b n r
  ·rw[n]at r; cases r
 have hm:∀b u,H b=some u->¬wB (some u)->b≠x:=λb u q nm z=>by subst z; rw[q]at mu; exact nm mu
 refine⟨λb u q n _ _=>k b u (hb b n) q,λb u q n _ _=>⟨u.slots,k b u (hb b n) q⟩,λb u q n _=>by rw[aN (hx b n)]; exact n,λb u q _=>?_,
  λb xs q=>by rw[aN (hm b _ q λz=>z)]; exact q,λb u xs q=>by rw[aN (hm b _ q λz=>z)]; exact q,λb ps q=>⟨#[],by rw[aN (hm b _ q λz=>z),q]; simp⟩⟩
 by_cases hbe:b=e
 ·subst hbe; exact heo
 ·exact⟨u,k b u hbe q⟩
end
def wC(h:Heap)(H:Hp):List Addr:=(List.range h.objs.size).filter λa=>(H a).isSome
def m7(h:Heap)(H:Hp):Heap:=PySem.W.hideAll h (wC h H)
theorem Qm(h:Heap)(H:Hp):(m7 h H).objs.size=h.objs.size:=PySem.W.hideAll_size _ _
theorem Qn{h:Heap}{H:Hp}{b:Addr}{o:Obj}(e:h.get? b=some o)(n:H b=none):(m7 h H).get? b=some o :=
 PySem.W.hideAll_get _ e λhm=>by
  have q:(H b).isSome=true:=(List.mem_filter.mp hm).2
  rw[n]at q; simp at q
theorem Qo{h:Heap}{H:Hp}{b:Addr}{o:Obj}(e:(m7 h H).get? b=some o):h.get? b=some o/\H b=none:=by
 have e':h.get? b=some o:=PySem.W.of_hideAll (wC h H) e
 refine⟨e',?_⟩
 cases q:H b with
 |none=>rfl
 |some x =>
  have hm:b∈wC h H:=List.mem_filter.mpr ⟨List.mem_range.mpr (Heap.lt_size e'),by simp[q]⟩
  have z:(m7 h H).get? b=none:=PySem.W.hideAll_none (wC h H) hm
  rw[z]at e; cases e
def Qp(g h:Heap)(L:Addr):List (Addr × Obj):=(List.range h.objs.size).filterMap λa=>if a=L\/(g.get? a).isSome=true then none else(h.get? a).map λo=>(a,o)
def rest(g h:Heap)(L d:Addr):List (Addr × Obj):=(Qp g h L).filter λp=>decide (p.1≠d)
end L2
namespace L2
open PySem PySem.Spec PyProof.Rows
structure Mod(K:FZ)(mg:Str->Option Value)(base:Heap):Prop where
 Ab:K.In base
 glob:base.Ns mainGlobals mg
 blt:∃mb,base.Ns builtinsNs mb/\∀x:Str,x ≠ "__name__" -> mb x=bootBuiltins x
 nolimit:base.NoLimit
structure Cx where
 prog:Program
 w:World
 K:FZ
 mg:Str->Option Value
 base:Heap
 A:Around
 N:List Str
 s₀ : Shared
 H₀ : Hp
 env:Env
 outer:List Env
 stack:List Env
 ex:List Addr
 fn:Str->Bool
 calm:Bool
 pn:List (Addr × Obj)
 xe:Value->Shared->Prop
def frs(l:List Env):List Addr:=l.filterMap (·.frame)
abbrev Cx.fs(X:Cx):List Addr:=frs X.outer
def GR(sc:Scope)(x:Str):Prop:=sc.names.lookup x=some .local\/sc.names.lookup x=some .cell\/sc.names.lookup x=some .free
def Loc(sc:Scope)(x:Str):Prop:=sc.names.lookup x=some .local\/sc.names.lookup x=some .cell
def Look(env:Env)(h:Heap)(m:Str->Option Value)(x:Str)(u:Value):Prop :=
 (env.kindOf x=some .local/\m x=some u)\/((env.kindOf x=some .cell\/env.kindOf x=some .free)/\∃c,env.cells.lookup x=some c/\h.IsCell c (some u))
structure Cx.Ok(X:Cx):Prop where
 mod:Mod X.K X.mg X.base
 kind:X.env.scope.kind=.function
 glob:X.env.globals=mainGlobals
 blt:X.env.builtins=builtinsNs
 above:X.s₀.heap.objs.size<=X.env.locals
 inj:∀x y c,X.env.cells.lookup x=some c->X.env.cells.lookup y=some c->x=y
 has:∀x,(X.env.kindOf x=some .cell\/X.env.kindOf x=some .free)->∃c,X.env.cells.lookup x=some c
 cab:∀x c,X.fn x=true->X.env.cells.lookup x=some c->X.s₀.heap.objs.size<=c
 hd:X.calm=true->X.A.handled=none
 frames:X.A.frames=some X.stack
 stk:X.stack=X.outer\/(X.stack=X.env::X.outer/\X.env.frame=some X.env.locals)
 GX:∀b∈X.ex,b≠X.env.locals/\∀x c,X.env.cells.lookup x=some c->c≠b
 bs:∀b o,X.base.get? b=some o->X.s₀.heap.get? b=some o/\X.H₀ b=none
 pZ:X.base.objs.size<=X.s₀.heap.objs.size
 iC:∀b o,X.base.get? b=some o->b∉X.ex
 wF:∀b∈X.ex,b∉X.fs
 jZ:X.s₀.heap.FunFrames X.base X.outer
 p7:∀b∈X.fs,X.H₀ b=none
structure Inv(X:Cx)(pins:List (Addr × Obj))(σ : List (Option V))(H:Hp)(s:Shared):Prop where
 ok:X.Ok
 os:s.os=X.s₀.os
 bare:AllBare s.gens
 base:Un X.fs X.ex X.H₀ H X.s₀.heap s.heap
 loc:∃m,s.heap.Ns X.env.locals m/\∀(i:Nat) (x:Str) (v:V),X.N[i]?=some x -> σ[i]?=some (some v)->GR X.env.scope x->∃u,RelV v u/\Look X.env s.heap m x u
 cell:∀x c,X.env.cells.lookup x=some c->∃v,s.heap.IsCell c v
 free:H X.env.locals=none
 mz:∀x c,X.env.cells.lookup x=some c->H c=none
 pin:∀p∈X.pn++pins,s.heap.get? p.1=some p.2/\H p.1=none/\p.1≠X.env.locals/\p.1∉X.fs/\∀v,p.2.data ≠ .cell v
 hok:d8 X.prog X.w H s.heap
 len : σ.length=X.N.length
section
variable {X:Cx}{pins:List (Addr × Obj)}{σ : List (Option V)}{H H':Hp}{s:Shared}{h':Heap}
theorem Cx.Ok.Qq(ok:X.Ok){b:Addr}{o:Obj}(e:X.base.get? b=some o):b∉X.fs:=λhb=>by
 have:=(ok.jZ.mem hb).1
 rw[e]at this; cases this
theorem Inv.bs(I:Inv X pins σ H s):∀b o,X.base.get? b=some o->s.heap.get? b=some o/\H b=none:=λb o e =>
 ⟨I.base.keep b o (I.ok.bs b o e).1 (I.ok.bs b o e).2 (I.ok.Qq e) (I.ok.iC b o e),I.base.free b o (I.ok.bs b o e).1 (I.ok.bs b o e).2 (I.ok.iC b o e)⟩
theorem Inv.bk(I:Inv X pins σ H s):∀b o,X.base.get? b=some o->s.heap.get? b=some o:=λb o e=>(I.bs b o e).1
theorem Inv.mod(I:Inv X pins σ H s):Mod X.K X.mg X.base:=I.ok.mod
theorem Inv.jy(I:Inv X pins σ H s):X.K.In s.heap:=I.ok.mod.Ab.keeps I.bk
theorem Inv.lt(I:Inv X pins σ H s):X.env.locals<s.heap.objs.size:=let⟨_,hn,_⟩:=I.loc; hn.lt
theorem Inv.sz(I:Inv X pins σ H s):X.s₀.heap.objs.size<=s.heap.objs.size:=Nat.le_trans I.ok.above (Nat.le_of_lt I.lt)
theorem Inv.Qs(I:Inv X pins σ H s){a:Addr}(h:s.heap.objs.size<=a):a∉X.fs:=λhb=>by
 obtain⟨_,o,ho,_⟩:=I.ok.jZ.mem hb
 exact absurd (Nat.lt_of_lt_of_le (Heap.lt_size ho) (Nat.le_trans I.sz h)) (Nat.lt_irrefl _)
theorem Inv.p8(I:Inv X pins σ H s):∀x c,X.env.cells.lookup x=some c->c≠X.env.locals:=λx c e z=>by
 obtain⟨v,o,ho,hd⟩:=I.cell x c e
 obtain⟨m,⟨o',es,ep,ho',hd',_⟩,_⟩:=I.loc
 rw[z,ho']at ho; cases ho; rw[hd']at hd; cases hd
theorem Inv.jZ(I:Inv X pins σ H s):s.heap.FunFrames X.base X.outer:=by
 have all:∀(l:List Env),(∀b∈frs l,b∈X.fs)->X.s₀.heap.FunFrames X.base l->s.heap.FunFrames X.base l:=by
  intro l
  induction l with
  |nil=>intro _ _; trivial
  |cons env r ih =>
   intro hs hl
   obtain⟨hk,⟨L,o,hf,hn,ho,hd⟩,hr⟩:=hl
   have hL:L∈X.fs:=hs L (by unfold frs; rw[List.filterMap_cons,hf]; exact List.mem_cons_self)
   obtain⟨sl,e⟩:=I.base.slot L o ho (I.ok.p7 L hL) hL λz=>I.ok.wF L z hL
   exact⟨hk,⟨L,_,hf,hn,e,hd⟩,ih (λb hb=>hs b (by unfold frs; rw[List.filterMap_cons,hf]; exact List.mem_cons_of_mem _ hb)) hr⟩
 exact all X.outer (λ_ hb=>hb) I.ok.jZ
theorem Inv.stack(I:Inv X pins σ H s):s.heap.FunFrames X.base X.stack:=by
 rcases I.ok.stk with e|⟨e,hf⟩
 ·rw[e]; exact I.jZ
 ·rw[e]
  obtain⟨m,hn,_⟩:=I.loc
  refine .cons (by rw[I.ok.kind]; decide) hf hn ?_ I.jZ
  exact Heap.get?_none_of_le (Nat.le_trans I.ok.pZ I.ok.above)
theorem Inv.wG(I:Inv X pins σ H s):∀b∈frs X.stack,b∈X.env.locals::X.fs:=λb hb=>by
 rcases I.ok.stk with e|⟨e,hf⟩
 ·rw[e]at hb; exact List.mem_cons_of_mem _ hb
 ·rw[e]at hb
  unfold frs at hb
  rw[List.filterMap_cons,hf]at hb
  exact hb
theorem Inv.Ac(I:Inv X pins σ H s):∀b∈frs X.stack,H b=none:=λb hb=>by
 rcases List.mem_cons.mp (I.wG b hb)with e|hb
 ·rw[e]; exact I.free
 ·obtain⟨_,o,ho,_⟩:=I.ok.jZ.mem hb
  exact I.base.free b o ho (I.ok.p7 b hb) λz=>I.ok.wF b z hb
theorem Inv.step{g':Array GenState}{t':Nat}{d':Drawn}{ch:List Addr}(I:Inv X pins σ H s)
  (hch:∀b∈ch,(b∈X.ex\/X.s₀.heap.objs.size<=b)/\b≠X.env.locals/\(∀x c,X.env.cells.lookup x=some c->c≠b)/\∀p∈X.pn++pins,p.1≠b)
  (keep:∀b o,b≠X.env.locals->b∉X.fs->b∉ch->s.heap.get? b=some o->H b=none->h'.get? b=some o)
  (slot:∀b o,b≠X.env.locals->b∈X.fs->b∉ch->s.heap.get? b=some o->H b=none->∃sl,h'.get? b=some {o with slots:=sl }) (free:∀b o,b∉ch->s.heap.get? b=some o->H b=none->H' b=none)
  (there:∀b o,b∉ch->s.heap.get? b=some o->∃o',h'.get? b=some o')
  (tups:∀b xs,H b=some (.tup xs)->H' b=some (.tup xs)) (lB:∀b o u,H b=some (.cD o u)->H' b=some (.cD o u)) (lC:∀b ps,H b=some (.dM ps)->∃more,H' b=some (.dM (ps++more)))
  (ns:∀m,s.heap.Ns X.env.locals m->h'.Ns X.env.locals m) (hok:d8 X.prog X.w H' h') (hg:AllBare g') :
  Inv X pins σ H' {s with heap:=h',gens:=g',drawn:=d',toks:=t' }:=by
 have GZ:∀b o,X.s₀.heap.get? b=some o->b≠X.env.locals:=λb o e=>Nat.ne_of_lt (Nat.lt_of_lt_of_le (Heap.lt_size e) I.ok.above)
 have wH:∀b o,X.s₀.heap.get? b=some o->b∉X.ex->b∉ch:=λb o e hx hb=>by
  rcases(hch b hb).1 with z|z
  ·exact hx z
  ·exact absurd (Nat.lt_of_lt_of_le (Heap.lt_size e) z) (Nat.lt_irrefl _)
 have cellK:∀x c,X.env.cells.lookup x=some c->∀v,s.heap.IsCell c v->h'.IsCell c v:=λx c e v ⟨o,ho,hd⟩=>by
  have um:c∉ch:=λz=>(hch c z).2.2.1 x c e rfl
  by_cases hc:c∈X.fs
  ·obtain⟨sl,q⟩:=slot c o (I.p8 x c e) hc um ho (I.mz x c e)
   exact⟨_,q,hd⟩
  ·exact⟨o,keep c o (I.p8 x c e) hc um ho (I.mz x c e),hd⟩
 refine⟨I.ok,I.os,hg,⟨λb o e n hb hx=>?_,λb o e n hb hx=>?_,λb o e n hx=>?_,λb o e hx=>?_,λb xs e=>tups b xs (I.base.tups b xs e),λb o xs e=>lB b o xs (I.base.lB b o xs e),λb ps e=>?_⟩,?_,λx c e=>?_,?_,λx c e=>?_,λp hp=>?_,hok,I.len⟩
 ·exact keep b o (GZ b o e) hb (wH b o e hx) (I.base.keep b o e n hb hx) (I.base.free b o e n hx)
 ·obtain⟨sl,e1⟩:=I.base.slot b o e n hb hx
  obtain⟨sl',e2⟩:=slot b _ (GZ b o e) hb (wH b o e hx) e1 (I.base.free b o e n hx)
  exact⟨sl',e2⟩
 ·obtain⟨o',e1⟩:=I.base.there b o e hx
  exact free b o' (wH b o e hx) e1 (I.base.free b o e n hx)
 ·obtain⟨o',e1⟩:=I.base.there b o e hx
  exact there b o' (wH b o e hx) e1
 ·obtain⟨m1,e1⟩:=I.base.lC b ps e
  obtain⟨m2,e2⟩:=lC b _ e1
  exact⟨m1++m2,by rw[e2,Array.append_assoc]⟩
 ·obtain⟨m,hn,hl⟩:=I.loc
  refine⟨m,ns m hn,λi x v e1 e2 e3=>?_⟩
  obtain⟨u,r,l⟩:=hl i x v e1 e2 e3
  refine⟨u,r,?_⟩
  rcases l with l|⟨k,c,e,z⟩
  ·exact .inl l
  ·exact .inr ⟨k,c,e,cellK x c e _ z⟩
 ·obtain⟨v,z⟩:=I.cell x c e
  exact⟨v,cellK x c e v z⟩
 ·obtain⟨m,⟨o,_,_,ho,_⟩,_⟩:=I.loc
  exact free _ o (λz=>(hch _ z).2.1 rfl) ho I.free
 ·obtain⟨v,o,ho,hd⟩:=I.cell x c e
  exact free c o (λz=>(hch c z).2.2.1 x c e rfl) ho (I.mz x c e)
 ·obtain⟨e,n,ne,nf,d⟩:=I.pin p hp
  have um:p.1∉ch:=λz=>(hch p.1 z).2.2.2 p hp rfl
  exact⟨keep p.1 p.2 ne nf um e n,free p.1 p.2 um e n,ne,nf,d⟩
theorem Inv.un{t':Nat}(I:Inv X pins σ H s)(u:Un X.fs [] H H' s.heap h')(hok:d8 X.prog X.w H' h'):Inv X pins σ H' {s with heap:=h',toks:=t' }:=by
 obtain⟨m,⟨o,es,ep,ho,r⟩,_⟩:=id I.loc
 obtain⟨sl,hL⟩:=u.any ho I.free (by simp)
 exact I.step (g':=s.gens) (d':=s.drawn) (ch:=[]) (λ_ z=>nomatch z) (λb o _ hb _ e n=>u.keep b o e n hb (by simp)) (λb o _ hb _ e n=>u.slot b o e n hb (by simp)) (λb o _ e n=>u.free b o e n (by simp)) (λb o _ e=>u.there b o e (by simp)) u.tups u.lB u.lC (λm' hm=>by
  obtain⟨o',es',ep',ho',r'⟩:=hm
  rw[ho]at ho'; cases ho'
  exact⟨_,es',ep',hL,r'⟩) hok I.bare
theorem Inv.call{g':Array GenState}{t':Nat}{d':Drawn}{ch:List Addr}(I:Inv X pins σ H s)(u:Un (frs X.stack) ch H H' s.heap h')(hok:d8 X.prog X.w H' h')(hg:AllBare g')
  (hch:∀b∈ch,(b∈X.ex\/X.s₀.heap.objs.size<=b)/\b≠X.env.locals/\(∀x c,X.env.cells.lookup x=some c->c≠b)/\∀p∈X.pn++pins,p.1≠b) :
  Inv X pins σ H' {s with heap:=h',gens:=g',drawn:=d',toks:=t' }:=by
 obtain⟨m,⟨o,es,ep,ho,r⟩,_⟩:=id I.loc
 obtain⟨sl,hL⟩:=u.any ho I.free λz=>(hch _ z).2.1 rfl
 exact I.step (ch:=ch) hch (λb o hL hb hc e n=>u.keep b o e n (λz=>(List.mem_cons.mp (I.wG b z)).elim hL hb) hc) (λb o _ _ hc e n=>u.any e n hc) (λb o hc e n=>u.free b o e n hc) (λb o hc e=>u.there b o e hc) u.tups u.lB u.lC (λm' hm=>by
  obtain⟨o',es',ep',ho',r'⟩:=hm
  rw[ho]at ho'; cases ho'
  exact⟨_,es',ep',hL,r'⟩) hok hg
theorem Inv.turned{t':Nat}{it:Addr}(I:Inv X pins σ H s)(k:∀b o,b≠it->s.heap.get? b=some o->h'.get? b=some o)(hn:H it=none)(hL:it≠X.env.locals)
  (h1:it∈X.ex\/X.s₀.heap.objs.size<=it) (h2:∀x c,X.env.cells.lookup x=some c->c≠it) (h3:∀p∈X.pn++pins,p.1≠it):Inv X pins σ H {s with heap:=h',toks:=t' }:=by
 have G3:∀b u,H b=some u->b≠it:=λb u e z=>by rw[z,hn]at e; cases e
 refine I.step (g':=s.gens) (d':=s.drawn) (ch:=[it]) (λb hb=>?_) (λb o _ _ hc e _=>k b o (λz=>hc (by simp[z])) e) (λb o _ _ hc e _=>⟨o.slots,k b o (λz=>hc (by simp[z])) e⟩) (λ_ _ _ _ n=>n)
  (λb o hc e=>⟨o,k b o (λz=>hc (by simp[z])) e⟩) (λ_ _ e=>e) (λ_ _ _ e=>e) (λb ps e=>⟨#[],by rw[e]; simp⟩) (λm hm=>?_) (λb u e=>?_) I.bare
 ·have e:b=it:=by simpa using hb
  subst e
  exact⟨h1,hL,h2,h3⟩
 ·obtain⟨o,es,ep,ho,r⟩:=hm
  exact⟨o,es,ep,k _ o (Ne.symm hL) ho,r⟩
 ·refine(I.hok b u e).stay (λc v hc q=>k c v ?_ q) (λ_ q=>q) λ_ _ q=>q
  rcases hc with z|z
  ·rw[z]; exact G3 b u e
  ·exact G3 c _ z
theorem Inv.tok(I:Inv X pins σ H s)(t:Nat):Inv X pins σ H {s with toks:=t }:=I.un (h':=s.heap) (t':=t) Un.refl I.hok
theorem Inv.kept{t':Nat}(I:Inv X pins σ H s)(k:∀b u,s.heap.get? b=some u->h'.get? b=some u):Inv X pins σ H {s with heap:=h',toks:=t' }:=I.un (Un.kept k) (I.hok.kept k)
theorem Inv.laid{a:Addr}{o:HO}{t':Nat}(I:Inv X pins σ H s)(k:∀b u,s.heap.get? b=some u->h'.get? b=some u)(hp:s.heap.objs.size<=a)(new:jx X.prog X.w (upd H a o) h' a o) :
  Inv X pins σ (upd H a o) {s with heap:=h',toks:=t' }:=I.un (Un.laid k hp (I.hok.fresh hp)) (I.hok.laid k hp new)
theorem Inv.write{x e:Addr}{o:HO}{t':Nat}(I:Inv X pins σ H s)(mu:wB (H x))(he:e=x\/H e=some (.own x))(k:∀b u,b≠e->s.heap.get? b=some u->h'.get? b=some u)(heo:∃u,h'.get? e=some u)
  (new:jx X.prog X.w (upd H x o) h' x o):Inv X pins σ (upd H x o) {s with heap:=h',toks:=t' }:=I.un (Un.write mu he k heo) (I.hok.write mu he k heo new)
theorem Inv.G4{G5:List (Addr × Obj)}(I:Inv X pins σ H s)(h:∀p∈G5,s.heap.get? p.1=some p.2/\H p.1=none/\p.1≠X.env.locals/\p.1∉X.fs/\∀v,p.2.data ≠ .cell v):Inv X G5 σ H s :=
 ⟨I.ok,I.os,I.bare,I.base,I.loc,I.cell,I.free,I.mz,λp hp=>(List.mem_append.mp hp).elim (λz=>I.pin p (List.mem_append_left _ z)) (h p),I.hok,I.len⟩
theorem G6{N:List Str}(hN:N.Nodup){i j:Nat}{x:Str}(a:N[i]?=some x)(b:N[j]?=some x):i=j:=by
 obtain⟨h1,e1⟩:=List.getElem?_eq_some_iff.mp a
 obtain⟨h2,e2⟩:=List.getElem?_eq_some_iff.mp b
 exact(List.getElem_inj hN).mp (e1.trans e2.symm)
theorem G7{M:Model}{A:Around}{E:Value->Shared->Prop}{i:Nat}{x:Str}{v:V}{u:Value}{Q:Unit->Shared->Prop}(I:Inv X pins σ H s)(hN:X.N.Nodup)(hi:X.N[i]?=some x)(hx:Loc X.env.scope x)(r:RelV v u)
  (h:∀s',Inv X pins (σ.set i (some v)) H s'->(∃a,Heap.SameBut a s.heap s'.heap/\(a=X.env.locals\/X.env.cells.lookup x=some a))->Q () s') (hf:X.fn x=true\/X.env.scope.names.lookup x=some .local:=by first|exact .inl rfl|exact .inr rfl|assumption):wpAny M A (storeName X.env x u) Q E s:=by
 obtain⟨m,hn,hl⟩:=id I.loc
 have hcls:(X.env.scope.kind == .class || (X.env.scope.kind == .module&&X.env.locals != X.env.globals))=false:=by rw[I.ok.kind]; rfl
 have G8:i < σ.length:=by rw[I.len]; exact(List.getElem?_eq_some_iff.mp hi).1
 have p8:=I.p8
 have tracked:∀{a:Addr} {h':Heap},(∃o,s.heap.get? a=some o/\H a=none)->Heap.SameBut a s.heap h'->d8 X.prog X.w H h':=λ{a h'} ha hs b ob e=>by
  obtain⟨_,_,hfree⟩:=ha
  refine(I.hok b ob e).stay (λc w' hc q=>(hs.2 c ?_).trans q) (λ_ q=>q) λ_ _ q=>q
  rintro rfl
  rcases hc with rfl|hc
  ·rw[hfree]at e; cases e
  ·rw[hfree]at hc; cases hc
 rcases hx with hk|hk
 ·refine wpAny_storeName_local hk hn (λh' hn' hs=>?_) hcls
  obtain⟨oL,_,_,hoL,_⟩:=id hn
  refine h _ ⟨I.ok,I.os,I.bare,⟨λb o e n hb hx=>?_,λb o e n hb hx=>?_,I.base.free,λb o e hx=>?_,I.base.tups,I.base.lB,I.base.lC⟩,⟨_,hn',λj y v' e1 e2 e3=>?_⟩,λy c e=>?_,I.free,I.mz,λp hp=>?_,tracked ⟨oL,hoL,I.free⟩ hs,by simpa using I.len⟩ ⟨_,hs,.inl rfl⟩
  ·exact(hs.2 b (Nat.ne_of_lt (Nat.lt_of_lt_of_le (Heap.lt_size e) I.ok.above))).trans (I.base.keep b o e n hb hx)
  ·obtain⟨sl,e1⟩:=I.base.slot b o e n hb hx
   exact⟨sl,(hs.2 b (Nat.ne_of_lt (Nat.lt_of_lt_of_le (Heap.lt_size e) I.ok.above))).trans e1⟩
  ·obtain⟨o',e1⟩:=I.base.there b o e hx
   exact⟨o',(hs.2 b (Nat.ne_of_lt (Nat.lt_of_lt_of_le (Heap.lt_size e) I.ok.above))).trans e1⟩
  ·by_cases hj:j=i
   ·subst hj
    rw[hi]at e1; cases e1
    rw[List.getElem?_set_self G8]at e2
    cases e2
    exact⟨u,r,.inl ⟨hk,by simp⟩⟩
   ·rw[List.getElem?_set_ne (Ne.symm hj)]at e2
    obtain⟨u',r',q⟩:=hl j y v' e1 e2 e3
    refine⟨u',r',?_⟩
    rcases q with⟨k,e⟩|⟨k,c,e,z⟩
    ·refine .inl ⟨k,?_⟩
     have:y≠x:=λe=>hj (G6 hN e1 (e▸hi))
     simp[this,e]
    ·exact .inr ⟨k,c,e,z.sameBut hs (p8 y c e)⟩
  ·obtain⟨w',z⟩:=I.cell y c e
   exact⟨w',z.sameBut hs (p8 y c e)⟩
  ·obtain⟨e,n,ne,nf,d⟩:=I.pin p hp
   exact⟨(hs.2 p.1 ne).trans e,n,ne,nf,d⟩
 ·have hfn:X.fn x=true:=by
   rcases hf with z|z
   ·exact z
   ·rw[z]at hk; cases hk
  obtain⟨c,hc⟩:=I.ok.has x (.inl hk)
  obtain⟨w',z⟩:=I.cell x c hc
  refine wpAny_storeName_cell I.ok.kind hk hc z (λh' hc' hs=>?_)
  obtain⟨oc,hoc,Qt⟩:=id z
  refine h {s with heap:=h' } ⟨I.ok,I.os,I.bare,⟨λb o e n hb hx=>?_,λb o e n hb hx=>?_,I.base.free,λb o e hx=>?_,I.base.tups,I.base.lB,I.base.lC⟩,⟨m,hn.sameBut hs (Ne.symm (p8 x c hc)),λj y v' e1 e2 e3=>?_⟩,λy c' e=>?_,I.free,I.mz,λp hp=>?_,tracked ⟨oc,hoc,I.mz x c hc⟩ hs,by simpa using I.len⟩ ⟨c,hs,.inr hc⟩
  ·exact(hs.2 b (Nat.ne_of_lt (Nat.lt_of_lt_of_le (Heap.lt_size e) (I.ok.cab x c hfn hc)))).trans (I.base.keep b o e n hb hx)
  ·obtain⟨sl,e1⟩:=I.base.slot b o e n hb hx
   exact⟨sl,(hs.2 b (Nat.ne_of_lt (Nat.lt_of_lt_of_le (Heap.lt_size e) (I.ok.cab x c hfn hc)))).trans e1⟩
  ·obtain⟨o',e1⟩:=I.base.there b o e hx
   exact⟨o',(hs.2 b (Nat.ne_of_lt (Nat.lt_of_lt_of_le (Heap.lt_size e) (I.ok.cab x c hfn hc)))).trans e1⟩
  ·by_cases hj:j=i
   ·subst hj
    rw[hi]at e1; cases e1
    rw[List.getElem?_set_self G8]at e2
    cases e2
    exact⟨u,r,.inr ⟨.inl hk,c,hc,hc'⟩⟩
   ·rw[List.getElem?_set_ne (Ne.symm hj)]at e2
    obtain⟨u',r',q⟩:=hl j y v' e1 e2 e3
    refine⟨u',r',?_⟩
    rcases q with q|⟨k,c',e,z'⟩
    ·exact .inl q
    ·refine .inr ⟨k,c',e,z'.sameBut hs ?_⟩
     rintro rfl
     exact hj (G6 hN e1 (I.ok.inj _ _ _ e hc▸hi))
  ·by_cases hcc:c'=c
   ·subst hcc; exact⟨_,hc'⟩
   ·obtain⟨w2,z2⟩:=I.cell y c' e
    exact⟨w2,z2.sameBut hs hcc⟩
  ·obtain⟨e,n,ne,nf,d⟩:=I.pin p hp
   refine⟨(hs.2 p.1 ?_).trans e,n,ne,nf,d⟩
   intro q
   rw[q,hoc]at e
   have q':oc=p.2:=Option.some.inj e
   exact d w' (by rw[<-q']; exact Qt)
theorem wI{M:Model}{A:Around}{E:Value->Shared->Prop}{i:Nat}{x:Str}{v:V}{u:Value}{Q:Unit->Shared->Prop}(I:Inv X pins σ H s)(hN:X.N.Nodup)(hi:X.N[i]?=some x)(hx:Loc X.env.scope x)(r:RelV v u)
  (h:∀s',Inv X pins (σ.set i (some v)) H s'->Q () s') (hf:X.fn x=true\/X.env.scope.names.lookup x=some .local:=by first|exact .inl rfl|exact .inr rfl|assumption):wpAny M A (storeName X.env x u) Q E s :=
 G7 I hN hi hx r (λs' I' _=>h s' I') hf
theorem Inv.call'{s':Shared}{ch:List Addr}(I:Inv X pins σ H s)(ho:s'.os=s.os)(u:Un (frs X.stack) ch H H' s.heap s'.heap)(hok:d8 X.prog X.w H' s'.heap)(hg:AllBare s'.gens)
  (hch:∀b∈ch,(b∈X.ex\/X.s₀.heap.objs.size<=b)/\b≠X.env.locals/\(∀x c,X.env.cells.lookup x=some c->c≠b)/\∀p∈X.pn++pins,p.1≠b):Inv X pins σ H' s':=by
 obtain⟨h',g',d',t',o'⟩:=s'
 have e:o'=s.os:=ho
 subst e
 exact I.call (g':=g') (t':=t') (d':=d') u hok hg hch
end
abbrev XK:=Value->Option Addr->Hp->Prop
abbrev St:=List (Option V)
abbrev VK:=V->Hp->Prop
abbrev TE:=St->Hp->VK->Prop
abbrev TT:=St->Hp->(Bool->Hp->Prop)->Prop
abbrev TA:=St->Hp->(List V->Hp->Prop)->Prop
structure Ends where
 nx:St->Hp->Prop
 rt:VK
 bk:St->Hp->Prop:=λ_ _=>False
 ct:St->Hp->Prop:=λ_ _=>False
abbrev TS:=Ends->St->Hp->Prop
def EP(X:Cx)(pins:List (Addr × Obj))(σ : St)(Q:VK)(u:Value)(s':Shared):Prop:=∃v H',Inv X pins σ H' s'/\RelV v u/\Q v H'
def TP(X:Cx)(pins:List (Addr × Obj))(σ : St)(Q:Bool->Hp->Prop)(b:Bool)(s':Shared):Prop:=∃H',Inv X pins σ H' s'/\Q b H'
def AP(X:Cx)(pins:List (Addr × Obj))(σ : St)(Q:List V->Hp->Prop)(us:List Value)(s':Shared):Prop:=∃vs H',Inv X pins σ H' s'/\Vals vs us/\Q vs H'
noncomputable def SP(X:Cx)(pins:List (Addr × Obj))(D:Ends)(f:Flow)(s':Shared):Prop :=
 match f with
 |.next=>∃σ' H',Inv X pins σ' H' s'/\D.nx σ' H'
 |.brk=>∃σ' H',Inv X pins σ' H' s'/\D.bk σ' H'
 |.cont=>∃σ' H',Inv X pins σ' H' s'/\D.ct σ' H'
 |.ret u=>∃v σ' H',Inv X pins σ' H' s'/\RelV v u/\D.rt v H'
structure PE(X:Cx)(e:Expr)(t:TE):Prop where
 run:∀(pins:List (Addr × Obj)) (s:Shared) (σ : St) (H:Hp) (Q:VK),Inv X pins σ H s->t σ H Q->wpAny (model X.prog X.w) X.A (eval e X.env) (EP X pins σ Q) X.xe s
instance {X:Cx}{e:Expr}{t:TE}:CoeFun (PE X e t) λ_=>∀(pins:List (Addr × Obj)) (s:Shared) (σ : St) (H:Hp) (Q:VK),Inv X pins σ H s->t σ H Q->wpAny (model X.prog X.w) X.A (eval e X.env) (EP X pins σ Q) X.xe s:=⟨PE.run⟩
structure PT(X:Cx)(e:Expr)(t:TT):Prop where
 run:∀(pins:List (Addr × Obj)) (s:Shared) (σ : St) (H:Hp) (Q:Bool->Hp->Prop),Inv X pins σ H s->t σ H Q->wpAny (model X.prog X.w) X.A (isTrue e X.env (eval e X.env)) (TP X pins σ Q) X.xe s
instance {X:Cx}{e:Expr}{t:TT}:CoeFun (PT X e t) λ_=>∀(pins:List (Addr × Obj)) (s:Shared) (σ : St) (H:Hp) (Q:Bool->Hp->Prop),Inv X pins σ H s->t σ H Q->wpAny (model X.prog X.w) X.A (isTrue e X.env (eval e X.env)) (TP X pins σ Q) X.xe s:=⟨PT.run⟩
structure PW(X:Cx)(e:Expr)(t:TT):Prop where
 run:∀(whole:Sem Value) (pins:List (Addr × Obj)) (s:Shared) (σ : St) (H:Hp) (Q:Bool->Hp->Prop),Inv X pins σ H s->t σ H Q->wpAny (model X.prog X.w) X.A (isTrue e X.env whole) (TP X pins σ Q) X.xe s
noncomputable instance {X:Cx}{e:Expr}{t:TT}:CoeFun (PW X e t) λ_=>∀(whole:Sem Value) (pins:List (Addr × Obj)) (s:Shared) (σ : St) (H:Hp) (Q:Bool->Hp->Prop),Inv X pins σ H s->t σ H Q->wpAny (model X.prog X.w) X.A (isTrue e X.env whole) (TP X pins σ Q) X.xe s:=⟨PW.run⟩
theorem PW.pt{X:Cx}{e:Expr}{t:TT}(h:PW X e t):PT X e t:=⟨h.run _⟩
structure PA(X:Cx)(es:List Expr)(t:TA):Prop where
 run:∀(pos:Pos) (pins:List (Addr × Obj)) (s:Shared) (σ : St) (H:Hp) (Q:List V->Hp->Prop),Inv X pins σ H s->t σ H Q->wpAny (model X.prog X.w) X.A (spliced (backTo pos (starEach es X.env))) (AP X pins σ Q) X.xe s
noncomputable instance {X:Cx}{es:List Expr}{t:TA}:CoeFun (PA X es t) λ_=>∀(pos:Pos) (pins:List (Addr × Obj)) (s:Shared) (σ : St) (H:Hp) (Q:List V->Hp->Prop),Inv X pins σ H s->t σ H Q->wpAny (model X.prog X.w) X.A (spliced (backTo pos (starEach es X.env))) (AP X pins σ Q) X.xe s:=⟨PA.run⟩
structure PS(X:Cx)(st:Stmt)(t:TS):Prop where
 run:∀(pins:List (Addr × Obj)) (s:Shared) (σ : St) (H:Hp) (D:Ends),Inv X pins σ H s->t D σ H->wpAny (model X.prog X.w) X.A (exec st X.env) (SP X pins D) X.xe s
instance {X:Cx}{st:Stmt}{t:TS}:CoeFun (PS X st t) λ_=>∀(pins:List (Addr × Obj)) (s:Shared) (σ : St) (H:Hp) (D:Ends),Inv X pins σ H s->t D σ H->wpAny (model X.prog X.w) X.A (exec st X.env) (SP X pins D) X.xe s:=⟨PS.run⟩
structure iD(X:Cx)(st:List Stmt)(t:TS):Prop where
 run:∀(pins:List (Addr × Obj)) (s:Shared) (σ : St) (H:Hp) (D:Ends),Inv X pins σ H s->t D σ H->wpAny (model X.prog X.w) X.A (execs st X.env) (SP X pins D) X.xe s
instance {X:Cx}{st:List Stmt}{t:TS}:CoeFun (iD X st t) λ_=>∀(pins:List (Addr × Obj)) (s:Shared) (σ : St) (H:Hp) (D:Ends),Inv X pins σ H s->t D σ H->wpAny (model X.prog X.w) X.A (execs st X.env) (SP X pins D) X.xe s:=⟨iD.run⟩
theorem aR{α : Type}{t:Sem α}{Q Q' : α -> Shared->Prop}{M:Model}{A:Around}{E:Value->Shared->Prop}{s:Shared}(h:wpAny M A t Q E s)(hQ:∀a s,Q a s->Q' a s):wpAny M A t Q' E s:=wpAny_mono h hQ λ_ _ x=>x
end L2
namespace L2
open PySem PySem.Spec PyProof.Rows
section
variable {X:Cx}
def oG(i:Nat):TE:=λσ H Q=>∃v,σ[i]?=some (some v)/\Q v H
def tC(v:V):TE:=λ_ H Q=>Q v H
theorem G9{i:Nat}{x:Str}{pos:Pos}(hN:X.N[i]?=some x)(hv:GR X.env.scope x)(hd:(x == ("__debug__" : Str))=false:=by decide) (hcd:(x == ("__classdict__" : Str))=false:=by decide):PE X (.Name x pos) (oG i):=by
 refine⟨λpins s σ H Q I h=>?_⟩
 obtain⟨v,e,h⟩:=h
 obtain⟨m,hn,hl⟩:=I.loc
 obtain⟨u,r,l⟩:=hl i x v hN e hv
 have fin:EP X pins σ Q u s:=⟨v,H,I,r,h⟩
 rcases l with⟨hk,hm⟩|⟨hk,c,hc,hcell⟩
 ·exact wpAny_Name (wpAny_loadName_local I.ok.kind hk hn hm fin) hd
 ·rcases hk with hk|hk
  ·exact wpAny_Name (wpAny_loadName_cell I.ok.kind hk hc hcell fin) hd
  ·exact wpAny_Name (wpAny_loadName_free I.ok.kind hk hc hcell fin hcd) hd
theorem aZ{i j pos}:PE X (.Constant (.int i) j pos) (tC (.int i)):=⟨λ_ _ _ H _ I h=>wpAny_Constant_int ⟨.int i,H,I.tok _,⟨_,rfl⟩,h⟩⟩
theorem iG{b j pos}:PE X (.Constant (.bool b) j pos) (tC (.bl b)):=⟨λ_ _ _ H _ I h=>Constant_bool ⟨.bl b,H,I,rfl,h⟩⟩
theorem rF{j pos}:PE X (.Constant .none j pos) (tC .non):=⟨λ_ _ _ H _ I h=>Constant_none ⟨.non,H,I,rfl,h⟩⟩
theorem gF{x j pos}:PE X (.Constant (.str x) j pos) (tC (.str x)):=⟨λ_ _ _ H _ I h=>Calls.Constant_str ⟨.str x,H,I.tok _,⟨_,rfl⟩,h⟩⟩
def Gl(X:Cx)(x:Str):Prop:=X.env.kindOf x=some .globalImplicit
theorem Ad{E:Value->Shared->Prop}{pins:List (Addr × Obj)}{s:Shared}{σ : St}{H:Hp}{x:Str}{u:Value}{pos:Pos}{Q:Value->Shared->Prop}(I:Inv X pins σ H s)(hg:Gl X x)(hm:X.mg x=some u)(h:Q u s)
  (hd:(x == ("__debug__" : Str))=false:=by decide):wpAny (model X.prog X.w) X.A (eval (.Name x pos) X.env) Q E s :=
 Calls.Name_function_global I.ok.kind hg (Calls.loadGlobal_global (by rw[I.ok.glob]; exact I.mod.glob.keeps I.bk) hm h) hd
theorem uo{E:Value->Shared->Prop}{pins:List (Addr × Obj)}{s:Shared}{σ : St}{H:Hp}{x:Str}{u:Value}{pos:Pos}{Q:Value->Shared->Prop}(I:Inv X pins σ H s)(hg:Gl X x)(hm:X.mg x=none)(hv:bootBuiltins x=some u)(h:Q u s)
  (hn:x ≠ "__name__" := by decide) (hd:(x == ("__debug__" : Str))=false:=by decide):wpAny (model X.prog X.w) X.A (eval (.Name x pos) X.env) Q E s:=by
 obtain⟨mb,h1,h2⟩:=I.mod.blt
 exact Calls.Name_function_global I.ok.kind hg (Calls.loadGlobal_builtin (by rw[I.ok.glob]; exact I.mod.glob.keeps I.bk) hm (by rw[I.ok.blt]; exact h1.keeps I.bk) ((h2 x hn).trans hv) h) hd
theorem Qu{x:Str}{v:V}{u:Value}{pos:Pos}(hg:Gl X x)(hm:X.mg x=some u)(r:RelV v u)(hd:(x == ("__debug__" : Str))=false:=by decide):PE X (.Name x pos) (tC v) :=
 ⟨λ_ _ _ H _ I h=>Ad I hg hm ⟨v,H,I,r,h⟩ hd⟩
theorem Qv{x:Str}{v:V}{u:Value}{pos:Pos}(hg:Gl X x)(hm:X.mg x=none)(hv:bootBuiltins x=some u)(r:RelV v u)(hn:x ≠ "__name__" := by decide) (hd:(x == ("__debug__" : Str))=false:=by decide):PE X (.Name x pos) (tC v) :=
 ⟨λ_ _ _ H _ I h=>uo I hg hm hv ⟨v,H,I,r,h⟩ hn hd⟩
variable {a b:Expr}{ta tb:TE}{pos:Pos}
variable {tA fY:TT}{rest:List Expr}
def Hf(t u:TT):TT:=λσ H Q=>t σ H λc H1=>if c=true then u σ H1 Q else Q false H1
def Hg(t u:TT):TT:=λσ H Q=>t σ H λc H1=>if c=true then Q true H1 else u σ H1 Q
def Hh(t:TT):TT:=λσ H Q=>t σ H λc H1=>Q (!c) H1
theorem Hi(ha:PT X a tA):PW X (.BoolOp .And [a] pos) tA:=by
 refine⟨λwh pins s σ H Q I h=>?_⟩
 refine isTrue_and (aR (ha pins s σ H Q I h) λc s1 e=>?_)
 cases c with
 |true=>exact isTrue_and_nil e
 |false=>exact e
theorem lD(ha:PT X a tA):PW X (.BoolOp .Or [a] pos) tA:=by
 refine⟨λwh pins s σ H Q I h=>?_⟩
 refine isTrue_or (aR (ha pins s σ H Q I h) λc s1 e=>?_)
 cases c with
 |false=>exact isTrue_or_nil e
 |true=>exact e
theorem Hj(ha:PT X a tA)(hb:PW X (.BoolOp .And (b::rest) pos) fY):PW X (.BoolOp .And (a::b::rest) pos) (Hf tA fY):=by
 refine⟨λwh pins s σ H Q I h=>?_⟩
 refine isTrue_and (aR (ha pins s σ H _ I h) λc s1 ⟨H1,I1,q1⟩=>?_)
 cases c with
 |true=>exact hb wh pins s1 σ H1 Q I1 q1
 |false=>exact⟨H1,I1,q1⟩
theorem jd(ha:PT X a tA)(hb:PW X (.BoolOp .Or (b::rest) pos) fY):PW X (.BoolOp .Or (a::b::rest) pos) (Hg tA fY):=by
 refine⟨λwh pins s σ H Q I h=>?_⟩
 refine isTrue_or (aR (ha pins s σ H _ I h) λc s1 ⟨H1,I1,q1⟩=>?_)
 cases c with
 |true=>exact⟨H1,I1,q1⟩
 |false=>exact hb wh pins s1 σ H1 Q I1 q1
theorem eY(ha:PT X a tA):PT X (.UnaryOp .Not a pos) (Hh tA):=by
 refine⟨λpins s σ H Q I h=>?_⟩
 exact isTrue_not (ha pins s σ H (λc H1=>Q (!c) H1) I h)
def Hl(ta tb:TE):TE:=λσ H Q=>ta σ H λx H1=>∃c,x=.bl c/\if c=true then tb σ H1 Q else Q (.bl false) H1
def Ho(ta:TE):TE:=λσ H Q=>ta σ H λx H1=>∃c,x=.bl c/\Q (.bl (!c)) H1
theorem uq{op}{t:TE}(h:PE X a t):PE X (.BoolOp op [a] pos) t:=⟨λpins s σ H Q I hw=>BoolOp_one (h pins s σ H Q I hw)⟩
theorem ur(ha:PE X a ta)(hb:PE X (.BoolOp .And (b::rest) pos) tb):PE X (.BoolOp .And (a::b::rest) pos) (Hl ta tb):=by
 refine⟨λpins s σ H Q I h=>?_⟩
 refine BoolOp_and (aR (ha pins s σ H _ I h) λv s1 ⟨x,H1,I1,r1,q1⟩=>?_)
 obtain⟨c,rfl,q1⟩:=q1
 cases r1
 refine wpAny_truthy_bool ?_
 cases c with
 |true=>exact hb pins s1 σ H1 Q I1 q1
 |false=>exact⟨.bl false,H1,I1,rfl,q1⟩
theorem Hq(ha:PE X a ta):PE X (.UnaryOp .Not a pos) (Ho ta):=by
 refine⟨λpins s σ H Q I h=>?_⟩
 refine UnaryOp_ (aR (ha pins s σ H _ I h) λv s1 ⟨x,H1,I1,r1,q1⟩=>?_)
 obtain⟨c,rfl,q1⟩:=q1
 cases r1
 exact not_of (wpAny_truthy_bool ⟨.bl (!c),H1,I1,rfl,q1⟩)
def Hr(t:TT)(ta tb:TE):TE:=λσ H Q=>t σ H λc H1=>if c=true then ta σ H1 Q else tb σ H1 Q
theorem Ae{c:Expr}(hc:PT X c tA)(ha:PE X a ta)(hb:PE X b tb):PE X (.IfExp c a b pos) (Hr tA ta tb):=by
 refine⟨λpins s σ H Q I h=>?_⟩
 refine wpAny_IfExp (aR (hc pins s σ H _ I h) λd s1 ⟨H1,I1,q1⟩=>?_)
 cases d with
 |true=>exact ha pins s1 σ H1 Q I1 q1
 |false=>exact hb pins s1 σ H1 Q I1 q1
end
end L2
namespace L2
open PySem PySem.Spec PyProof.Rows
def bG(K:FZ)(H:Hp)(a:Addr)(xs:List V):Prop :=
 Rd H a (.lst xs) \/
  ∃(o:Obj) (its:Array Value) (n:Nat),K.lookup a=some o/\o.cls=.type "list" /\ o.dict=none/\o.data=.seq its n/\its.size<=sizeLine/\Vals xs its.toList
def cQ(K:FZ)(H:Hp)(a:Addr)(xs:List V):Prop :=
 Rd H a (.tup xs) \/
  ∃(o:Obj) (its:Array Value) (n:Nat),K.lookup a=some o/\o.cls=.type "tuple" /\ o.data=.seq its n/\its.size<=sizeLine/\Vals xs its.toList
def Qw:Value->Option V
 |.none=>some .non
 |.bool b=>some (.bl b)
 |.int i _=>some (.int i)
 |.str x _=>some (.str x)
 |.bytes b _=>some (.uh b)
 |.float b _=>some (.flt b)
 |.ref a=>some (.ref a)
 |.type n=>some (.ty n)
 |_=>none
theorem RelV.abs{x:V}{u:Value}(r:RelV x u):Qw u=some x:=by
 cases x with
 |non=>cases r; rfl
 |bl _=>cases r; rfl
 |int _=>obtain⟨t,rfl⟩:=r; rfl
 |str _=>obtain⟨t,rfl⟩:=r; rfl
 |uh _=>obtain⟨t,rfl⟩:=r; rfl
 |flt _=>obtain⟨t,rfl⟩:=r; rfl
 |ref _=>cases r; rfl
 |ty _=>cases r; rfl
theorem RelV.inj{x y:V}{u:Value}(r:RelV x u)(q:RelV y u):x=y:=Option.some.inj (r.abs.symm.trans q.abs)
theorem Vals.inj:∀{xs ys:List V} {us:List Value},Vals xs us->Vals ys us->xs=ys
 |_,_,_,.nil,.nil=>rfl
 |_,_,_,.cons r t,.cons r' t'=>by rw[r.inj r',Vals.inj t t']
section
variable {X:Cx}{pins:List (Addr × Obj)}{σ : St}{H:Hp}{s:Shared}{a:Addr}{xs ys:List V}
theorem bG.of{K:FZ}(h:H a=some (.lst xs)):bG K H a xs:=.inl (.inl h)
theorem cQ.of{K:FZ}(h:H a=some (.tup xs)):cQ K H a xs:=.inl (.inl h)
theorem Inv.list(I:Inv X pins σ H s)(h:bG X.K H a xs):∃its:List Value,Vals xs its/\PlainL s.heap a its.toArray/\xs.length<=sizeLine:=by
 rcases h with h|⟨o,its,n,hk,hc,hd,hs,hz,r⟩
 ·obtain⟨z,its,n,r,e⟩:=h.ok I.hok
  exact⟨its,r,⟨_,n,e,rfl,rfl,rfl⟩,z⟩
 ·refine⟨its.toList,r,⟨o,n,I.jy a o hk,hc,hd,by simpa using hs⟩,?_⟩
  have e:=r.length
  simp only[Array.length_toList]at e
  omega
theorem Inv.tuple(I:Inv X pins σ H s)(h:cQ X.K H a xs):∃its:List Value,Vals xs its/\IsTup s.heap a its.toArray/\xs.length<=sizeLine:=by
 rcases h with h|⟨o,its,n,hk,hc,hs,hz,r⟩
 ·obtain⟨z,its,r,p⟩:=h.ok I.hok
  exact⟨its,r,p,z⟩
 ·refine⟨its.toList,r,⟨o,I.jy a o hk,hc,n,by simpa using hs⟩,?_⟩
  have e:=r.length
  simp only[Array.length_toList]at e
  omega
theorem Inv.wJ(I:Inv X pins σ H s)(h:bG X.K H a xs)(h':bG X.K H a ys):xs=ys:=by
 obtain⟨its,r,⟨o,n,e,_,_,d⟩,_⟩:=I.list h
 obtain⟨its',r',⟨o',n',e',_,_,d'⟩,_⟩:=I.list h'
 rw[e]at e'; cases e'
 rw[d]at d'
 injection d' with d1 _
 have:its=its':=by simpa using congrArg Array.toList d1
 subst this
 exact r.inj r'
theorem Inv.Hs(I:Inv X pins σ H s)(h:cQ X.K H a xs)(h':cQ X.K H a ys):xs=ys:=by
 obtain⟨its,r,⟨o,e,_,n,d⟩,_⟩:=I.tuple h
 obtain⟨its',r',⟨o',e',_,n',d'⟩,_⟩:=I.tuple h'
 rw[e]at e'; cases e'
 rw[d]at d'
 injection d' with d1 _
 have:its=its':=by simpa using congrArg Array.toList d1
 subst this
 exact r.inj r'
end
abbrev Cx.wish(X:Cx)(E:Value->Shared->Prop):Cx:={X with xe:=E }
abbrev Cx.oH(X:Cx):Cx:=X.wish λ_ _=>False
theorem Cx.Ok.wish{X:Cx}(ok:X.Ok)(E:Value->Shared->Prop):(X.wish E).Ok :=
 ⟨ok.mod,ok.kind,ok.glob,ok.blt,ok.above,ok.inj,ok.has,ok.cab,ok.hd,ok.frames,ok.stk,ok.GX,ok.bs,ok.pZ,ok.iC,ok.wF,ok.jZ,ok.p7⟩
theorem Cx.Ok.oJ{X:Cx}{E:Value->Shared->Prop}(ok:(X.wish E).Ok):X.Ok :=
 ⟨ok.mod,ok.kind,ok.glob,ok.blt,ok.above,ok.inj,ok.has,ok.cab,ok.hd,ok.frames,ok.stk,ok.GX,ok.bs,ok.pZ,ok.iC,ok.wF,ok.jZ,ok.p7⟩
section
variable {X:Cx}{pins:List (Addr × Obj)}{σ : St}{H:Hp}{s:Shared}{E:Value->Shared->Prop}
theorem Inv.wish(I:Inv X pins σ H s)(E:Value->Shared->Prop):Inv (X.wish E) pins σ H s:=⟨I.ok.wish E,I.os,I.bare,I.base,I.loc,I.cell,I.free,I.mz,I.pin,I.hok,I.len⟩
theorem Inv.oJ(I:Inv (X.wish E) pins σ H s):Inv X pins σ H s:=⟨I.ok.oJ,I.os,I.bare,I.base,I.loc,I.cell,I.free,I.mz,I.pin,I.hok,I.len⟩
theorem SP.oJ{D:Ends}{f:Flow}{s':Shared}(h:SP (X.wish E) pins D f s'):SP X pins D f s':=by
 cases f with
 |next=>obtain⟨σ',H',I,q⟩:=h; exact⟨σ',H',I.oJ,q⟩
 |brk=>obtain⟨σ',H',I,q⟩:=h; exact⟨σ',H',I.oJ,q⟩
 |cont=>obtain⟨σ',H',I,q⟩:=h; exact⟨σ',H',I.oJ,q⟩
 |ret u=>obtain⟨v,σ',H',I,r,q⟩:=h; exact⟨v,σ',H',I.oJ,r,q⟩
end
section
variable {X:Cx}{st:Stmt}{rest:List Stmt}{t u:TS}{e:Expr}{te:TE}{pos:Pos}
def Ht:TS:=λD σ H=>D.nx σ H
def uw(t u:TS):TS:=λD σ H=>t {D with nx:=u D } σ H
theorem eE:iD X [] Ht:=⟨λ_ _ σ H _ I h=>wpAny_execs_nil ⟨σ,H,I,h⟩⟩
theorem bF(h1:PS X st t)(h2:iD X rest u):iD X (st::rest) (uw t u):=by
 refine⟨λpins s σ H D I h=>?_⟩
 refine wpAny_execs_cons (aR (h1 pins s σ H {D with nx:=u D } I h) λf s1 q=>?_)
 cases f with
 |next =>
  obtain⟨σ',H',I',q⟩:=q
  exact h2 pins s1 σ' H' D I' q
 |ret v=>exact q
 |brk=>exact q
 |cont=>exact q
theorem bB(h1:PS X st t):iD X [st] t:=by
 refine⟨λpins s σ H D I h=>?_⟩
 refine wpAny_execs_cons (aR (h1 pins s σ H D I h) λf s1 q=>?_)
 cases f with
 |next=>exact wpAny_execs_nil q
 |ret v=>exact q
 |brk=>exact q
 |cont=>exact q
theorem Inv.quiet{pins:List (Addr × Obj)}{σ : St}{H:Hp}{s:Shared}(I:Inv X pins σ H s):interactive X.env=false:=by simp[interactive,I.ok.kind]
def ux(te:TE):TS:=λD σ H=>te σ H λ_ H1=>D.nx σ H1
theorem Qx(he:PE X e te)(hs:swapsWith e none pos.line X.env=pure false:=by rfl):PS X (.Expr e pos) (ux te):=by
 refine⟨λpins s σ H D I h=>?_⟩
 exact wpAny_Expr_any (aR (he pins s σ H _ I h) λv s1 ⟨x,H1,I1,r1,q1⟩=>⟨σ,H1,I1,q1⟩) I.quiet hs
def Af(te:TE):TS:=λD σ H=>te σ H D.rt
theorem bO(he:PE X e te):PS X (.Return (some e) pos) (Af te):=by
 refine⟨λpins s σ H D I h=>?_⟩
 exact wpAny_Return_some (aR (he pins s σ H _ I h) λv s1 ⟨x,H1,I1,r1,q1⟩=>⟨x,σ,H1,I1,r1,q1⟩)
def Hu(c:TT)(t u:TS):TS:=λD σ H=>c σ H λb H1=>if b=true then t D σ H1 else u D σ H1
theorem eG{c:Expr}{a b:List Stmt}{tc:TT}(hc:PT X c tc)(ha:iD X a t)(hb:iD X b u):PS X (.If c a b pos) (Hu tc t u):=by
 refine⟨λpins s σ H D I h=>?_⟩
 refine wpAny_If (aR (hc pins s σ H _ I h) λd s1 ⟨H1,I1,q1⟩=>?_)
 cases d with
 |true=>exact ha pins s1 σ H1 D I1 q1
 |false=>exact hb pins s1 σ H1 D I1 q1
end
abbrev TG:=V->St->Hp->(St->Hp->Prop)->Prop
abbrev mD:=List V->St->Hp->(St->Hp->Prop)->Prop
noncomputable def PG(X:Cx)(target:Expr)(t:TG):Prop :=
 ∀(pins:List (Addr × Obj)) (s:Shared) (σ : St) (H:Hp) (v:V) (u:Value) (Q:St->Hp->Prop),Inv X pins σ H s->RelV v u->t v σ H Q ->
  wpAny (model X.prog X.w) X.A (assign target X.env u) (λ_ s'=>∃σ' H',Inv X pins σ' H' s'/\Q σ' H') X.xe s
noncomputable def wK(X:Cx)(ts:List Expr)(t:mD):Prop :=
 ∀(pins:List (Addr × Obj)) (s:Shared) (σ : St) (H:Hp) (vs:List V) (us:List Value) (Q:St->Hp->Prop),Inv X pins σ H s->Vals vs us->t vs σ H Q ->
  wpAny (model X.prog X.w) X.A (assignInOrder ((assignEach ts X.env).map (·.2)) us) (λ_ s'=>∃σ' H',Inv X pins σ' H' s'/\Q σ' H') X.xe s
abbrev Ag:=V->V->V->Hp->(Hp->Prop)->Prop
noncomputable def Hv(X:Cx)(t:Ag):Prop :=
 ∀(pins:List (Addr × Obj)) (s:Shared) (σ : St) (H:Hp) (o i v:V) (ov iv u:Value) (Q:Hp->Prop),Inv X pins σ H s->RelV o ov->RelV i iv->RelV v u->t o i v H Q ->
  wpAny (model X.prog X.w) X.A (setItem ov iv u) (λ_ s'=>∃H',Inv X pins σ H' s'/\Q H') X.xe s
section
variable {X:Cx}{pos:Pos}
def fH(i:Nat):TG:=λv σ H Q=>Q (σ.set i (some v)) H
theorem Qy{i:Nat}{x:Str}(hN:X.N.Nodup)(hi:X.N[i]?=some x)(hx:Loc X.env.scope x)(hf:X.fn x=true\/X.env.scope.names.lookup x=some .local:=by first|exact .inl rfl|exact .inr rfl|assumption):PG X (.Name x pos) (fH i):=by
 intro pins s σ H v u Q I r h
 exact wpAny_assign_Name (wI I hN hi hx r (λs' I'=>⟨_,H,I',h⟩) hf)
def Ah:mD:=λvs σ H Q=>vs=[]/\Q σ H
def wL(t:TG)(u:mD):mD:=λvs σ H Q=>∃v r,vs=v::r/\t v σ H λσ' H'=>u r σ' H' Q
theorem uy:wK X [] Ah:=by
 intro pins s σ H vs us Q I r h
 obtain⟨e,h⟩:=h
 subst e
 cases r
 exact assignInOrder_nil ⟨σ,H,I,h⟩
theorem lE{e:Expr}{es:List Expr}{t:TG}{u:mD}(h1:PG X e t)(h2:wK X es u)
  (hs:(assignEach (e::es) X.env).map (·.2)=assign e X.env::(assignEach es X.env).map (·.2):=by rfl):wK X (e::es) (wL t u):=by
 intro pins s σ H vs us Q I r h
 obtain⟨v,vr,e1,h⟩:=h
 subst e1
 cases r with
 |cons r rr =>
  rw[hs]
  refine assignInOrder_cons (aR (h1 pins s σ H _ _ _ I r h) λ_ s1 ⟨σ1,H1,I1,q1⟩=>?_)
  exact h2 pins s1 σ1 H1 _ _ Q I1 rr q1
def Ai(K:FZ)(n:Nat)(t:mD):TG:=λv σ H Q=>∃a xs,v=.ref a/\cQ K H a xs/\xs.length=n/\t xs σ H Q
theorem uz{es:List Expr}{k:Nat}{t:mD}{n:Nat}(hc:X.calm=true)(h:wK X es t)
  (hn:(assignEach es X.env).length=n:=by rfl) (hst:(assignEach es X.env).findIdx? (·.1)=none:=by rfl):PG X (.Tuple es k pos) (Ai X.K n t):=by
 intro pins s σ H v u Q I r hw
 obtain⟨a,xs,e1,hq,hl,hw⟩:=hw
 subst e1
 cases r
 obtain⟨its,rv,ht,hz⟩:=I.tuple hq
 refine assign_Tuple_tuple (I.ok.hd hc) ht (by simp[hn,<-hl,rv.length]) hst λh' hx=>?_
 have I1:Inv X pins σ H {s with heap:=h' }:=I.kept (t':=s.toks) λb o e=>hx b o (Nat.ne_of_lt (Heap.lt_size e)) e
 exact h pins _ σ H xs _ Q I1 (by simpa using rv) hw
def Hw(to ti:TE)(t:Ag):TG:=λv σ H Q=>to σ H λo H1=>ti σ H1 λi H2=>t o i v H2 λH3=>Q σ H3
theorem Hy{o i:Expr}{to ti:TE}{t:Ag}(ho:PE X o to)(hi:PE X i ti)(hs:Hv X t)
  (ha:∀v,assign (.Subscript o i pos) X.env v=(do
   let ov <-holding [v] (eval o X.env)
   let iv <-holding [v,ov] (eval i X.env)
   standAt pos
   holding [v,ov,iv] (setItem ov iv v)
   release [v,ov,iv] []):=by intro _; rfl):PG X (.Subscript o i pos) (Hw to ti t):=by
 intro pins s σ H v u Q I r h
 rw[ha]
 refine wpAny_bind (wpAny_holding (aR (ho pins s σ H _ I h) λov s1 ⟨x,H1,I1,r1,q1⟩=>?_))
 refine wpAny_bind (wpAny_holding (aR (hi pins s1 σ H1 _ I1 q1) λiv s2 ⟨y,H2,I2,r2,q2⟩=>?_))
 refine wpAny_bind (wpAny_standAt (wpAny_bind (wpAny_holding (aR (hs pins s2 σ H2 x y v ov iv u _ I2 r1 r2 r q2) λ_ s3 ⟨H3,I3,q3⟩=>?_))))
 exact wpAny_release ⟨σ,H3,I3,q3⟩
def lF(te:TE)(g:TG):TS:=λD σ H=>te σ H λx H1=>g x σ H1 D.nx
theorem uD{tg e:Expr}{te:TE}{g:TG}(he:PE X e te)(hg:PG X tg g)(hs:swapsWithSole [tg] e pos.line X.env=pure false:=by rfl)(hw:swappedStores [tg] e X.env=pure none:=by rfl)
  (h1:(assignEach [tg] X.env).map (·.2)=[assign tg X.env]:=by rfl):PS X (.Assign [tg] e pos) (lF te g):=by
 refine⟨λpins s σ H D I h=>?_⟩
 refine wpAny_Assign_stores (aR (he pins s σ H _ I h) λv s1 ⟨x,H1,I1,r1,q1⟩=>?_) hs hw
 rw[h1]
 exact aR (hg pins s1 σ H1 x v _ I1 r1 q1) λ_ s2 q=>q
theorem Hz{i:Nat}{x:Str}{e:Expr}{te:TE}{pos':Pos}(hN:X.N.Nodup)(hi:X.N[i]?=some x)(hx:Loc X.env.scope x)(he:PE X e te)(hs:swapsWith e (some (.Name x pos')) pos.line X.env=pure false:=by rfl)(hf:X.fn x=true\/X.env.scope.names.lookup x=some .local:=by first|exact .inl rfl|exact .inr rfl|assumption) :
  PS X (.Assign [.Name x pos'] e pos) (lF te (fH i)):=by
 refine⟨λpins s σ H D I h=>?_⟩
 refine wpAny_Assign_Name (aR (he pins s σ H _ I h) λv s1 ⟨y,H1,I1,r1,q1⟩=>?_) hs
 exact wI I1 hN hi hx r1 (λs2 I2=>⟨_,H1,I2,q1⟩) hf
def HB(i j:Nat)(ta:TA):TS:=λD σ H=>ta σ H λvs H1=>∃v w,vs=[v,w]/\D.nx ((σ.set i (some v)).set j (some w)) H1
theorem HD{i j:Nat}{x y:Str}{a b:Expr}{ta:TA}{px py pt:Pos}{kt k2 Aj}(hc:X.calm=true)(hN:X.N.Nodup)(hi:X.N[i]?=some x)(hj:X.N[j]?=some y)(hij:i≠j)
  (hx:X.env.scope.names.lookup x=some .local) (hy:X.env.scope.names.lookup y=some .local) (ha:PA X [a,b] ta)
  (hw:swappedStores [.Tuple [.Name x px,.Name y py] kt pt] (.Tuple [a,b] k2 Aj) X.env=pure (some [x,y]))
  (hs:swapsWithSole [.Tuple [.Name x px,.Name y py] kt pt] (.Tuple [a,b] k2 Aj) pos.line X.env=pure false:=by rfl) :
  PS X (.Assign [.Tuple [.Name x px,.Name y py] kt pt] (.Tuple [a,b] k2 Aj) pos) (HB i j ta):=by
 refine⟨λpins s σ H D I h=>?_⟩
 rw[exec_Assign_arm]
 refine wpAny_bind (wpAny_standAt ?_)
 rw[hs]
 refine wpAny_bind (wpAny_pure ?_)
 rw[if_neg (by decide)]
 refine wpAny_bind (Tuple_ (aR (ha _ pins s σ H _ I h) λus s1 ⟨vs,H1,I1,r1,q1⟩=>?_))
 obtain⟨v,w,e1,q1⟩:=q1
 subst e1
 obtain⟨u1,u2,rfl,rv,qd⟩:∃u1 u2,us=[u1,u2]/\RelV v u1/\RelV w u2:=by
  cases r1 with
  |cons p q =>
   cases q with
   |cons p' q' =>
    cases q'
    exact⟨_,_,rfl,p,p'⟩
 refine wpAny_newObj_type ?_ (by show 2<=sizeLine; decide)
 have I2:Inv X pins σ H1 {s1 with heap:=s1.heap.push {cls:=.type "tuple",data:=.seq [u1,u2].toArray } }:=I1.kept (t':=s1.toks) λb o e=>Heap.get?_push_of_some _ e
 rw[hw]
 refine wpAny_bind (wpAny_pure ?_)
 show wpAny (model X.prog X.w) X.A (do rule "assign.swapped-stores"; let items <-unpackItems (.ref s1.heap.objs.size) 2 none; assignInOrder [λv=>bindName X.env y v,λv=>bindName X.env x v] items.reverse; pure Flow.next) _ _ _
 refine wpAny_bind (wpAny_rule (wpAny_bind (unpackItems_tuple (items:=#[u1,u2]) (I.ok.hd hc) (IsTup.new s1.heap _) λh' hx'=>?_)))
 have I3:=I2.kept (h':=h') (t':=s1.toks) λb o e=>hx' b o (Nat.ne_of_lt (Heap.lt_size e)) e
 show wpAny _ _ (assignInOrder [λv=>bindName X.env y v,λv=>bindName X.env x v] [u2,u1] >>= λ_=>pure Flow.next) _ _ _
 refine wpAny_bind (assignInOrder_cons (wpAny_bindName (wI I3 hN hj (.inl hy) qd (λs2 I4=>?_) (.inr hy))))
 refine assignInOrder_cons (wpAny_bindName (wI I4 hN hi (.inl hx) rv (λs3 I5=>assignInOrder_nil (wpAny_pure ?_)) (.inr hx)))
 rw[List.set_comm _ _ (Ne.symm hij)]at I5
 exact⟨_,H1,I5,q1⟩
end
section
variable {X:Cx}{pos:Pos}
def HF(c:TT)(tb:TS):TS:=λD σ H=>∃W:Nat->St->Hp->Prop,(∃m,W m σ H)/\∀m σ H,W m σ H ->
 c σ H λb H1=>if b=true then ∃N:St->Hp->Prop,(∀σ' H',N σ' H'->∃m',m'<m/\W m' σ' H')/\tb {D with nx:=N,ct:=N,bk:=D.nx } σ H1 else D.nx σ H1
theorem HJ{c:Expr}{body:List Stmt}{tc:TT}{tb:TS}(hp:PassesOwn (model X.prog X.w) X.A X.env X.xe)(hc:PT X c tc)(hb:iD X body tb):PS X (.While c body [] pos) (HF tc tb):=by
 refine⟨λpins s σ H D I h=>?_⟩
 obtain⟨W,⟨m0,w0⟩,turn⟩:=h
 refine wpAny_While (codeAny_whileLoop (λn s'=>∃σ' H',Inv X pins σ' H' s'/\W n σ' H') ?_ m0 ⟨σ,H,I,w0⟩)
 rintro n s1 ⟨σ1,H1,I1,w1⟩
 refine wpAny_passesOwn hp (aR (hc pins s1 σ1 H1 _ I1 (turn n σ1 H1 w1)) λb s2 ⟨H2,I2,q2⟩=>?_)
 cases b with
 |true =>
  obtain⟨N,hN,q2⟩:=q2
  rw[if_pos rfl]
  refine wpAny_passesOwn hp (aR (hb pins s2 σ1 H2 _ I2 q2) λf s3 q3=>?_)
  cases f with
  |next =>
   obtain⟨σ3,H3,I3,n3⟩:=q3
   obtain⟨m',hm,w3⟩:=hN σ3 H3 n3
   exact⟨m',hm,σ3,H3,I3,w3⟩
  |cont =>
   obtain⟨σ3,H3,I3,n3⟩:=q3
   obtain⟨m',hm,w3⟩:=hN σ3 H3 n3
   exact⟨m',hm,σ3,H3,I3,w3⟩
  |brk=>exact q3
  |ret v=>exact q3
 |false =>
  rw[if_neg Bool.false_ne_true]
  exact wpAny_execs_nil ⟨σ1,H2,I2,q2⟩
end
structure It where
 go:Nat->Hp->Prop
 rG:Nat->Hp->V->Hp->Prop
 stop:Nat->Hp->Prop
def lG(X:Cx)(pins:List (Addr × Obj))(H:Hp)(b:Addr):Prop :=
 H b=none/\b≠X.env.locals/\b∉X.fs/\(b∈X.ex\/X.s₀.heap.objs.size<=b)/\(∀x c,X.env.cells.lookup x=some c->c≠b)/\∀p∈X.pn++pins,p.1≠b
theorem Inv.wM{X:Cx}{pins:List (Addr × Obj)}{σ : St}{H H':Hp}{s:Shared}{b:Addr}(I:Inv X pins σ H s)(hb:s.heap.objs.size<=b)(hn:H' b=none):lG X pins H' b:=by
 refine⟨hn,Nat.ne_of_gt (Nat.lt_of_lt_of_le I.lt hb),I.Qs hb,.inr (Nat.le_trans I.sz hb),λx c e z=>?_,λp hp z=>?_⟩
 ·obtain⟨v,q⟩:=I.cell x c e
  exact absurd (Nat.lt_of_lt_of_le q.lt (by rw[z]; exact hb)) (Nat.lt_irrefl _)
 ·exact absurd (Nat.lt_of_lt_of_le (Heap.lt_size (I.pin p hp).1) (by rw[z]; exact hb)) (Nat.lt_irrefl _)
structure Turn(P:Program)(w:World)(K:FZ)(tg:Expr)(J:It)(fp:List Addr)(it:Addr)(tn:Nat->Heap->Prop):Prop where
 mem:it∈fp
 obj:∀i h,tn i h->∀b∈fp,∃o,h.get? b=some o/\∀v,o.data ≠ .cell v
 keep:∀i h h',tn i h->(∀b∈fp,∀o,h.get? b=some o->h'.get? b=some o)->tn i h'
 item:∀(X:Cx),X.prog=P->X.w=w->X.K=K->X.calm=true->∀(i:Nat) (pins:List (Addr × Obj)) (s:Shared) (σ : St) (H:Hp) (E:Value->Shared->Prop),Inv X pins σ H s->(∀b∈fp,lG X pins H b)->tn i s.heap->J.go i H ->
  wpAny (model P w) X.A (pyNext (.ref it)) (λr s1=>∃u,r=some u /\
   wpAny (model P w) X.A (letOwnedTupleGo tg (.ref it) u) (λ_ s2=>∃x H',Inv X pins σ H' s2/\RelV x u/\J.rG i H x H'/\tn (i+1) s2.heap/\∀b∈fp,H' b=none) E s1) E s
 done:∀(X:Cx),X.prog=P->X.w=w->X.K=K->X.calm=true->∀(i:Nat) (pins:List (Addr × Obj)) (s:Shared) (σ : St) (H:Hp) (E:Value->Shared->Prop),Inv X pins σ H s->(∀b∈fp,lG X pins H b)->tn i s.heap->J.stop i H ->
  wpAny (model P w) X.A (pyNext (.ref it)) (λr s1=>r=none/\Inv X pins σ H s1) E s
 self:∀(A:Around) (i:Nat) (s:Shared) (Q:Value->Shared->Prop) (E:Value->Shared->Prop),tn i s.heap->Q (.ref it) s->wpAny (model P w) A (pyIter (.ref it)) Q E s
abbrev TI:=St->Hp->(It->Hp->Prop)->Prop
noncomputable def PIE(X:Cx)(pins:List (Addr × Obj))(σ : St)(tg:Expr)(R:It->Hp->Prop)(itv:Value)(s2:Shared):Prop :=
 ∃(it:Addr) (fp:List Addr) (tn:Nat->Heap->Prop) (J:It) (H':Hp),itv=.ref it/\Inv X pins σ H' s2/\Turn X.prog X.w X.K tg J fp it tn/\tn 0 s2.heap/\(∀b∈fp,lG X pins H' b)/\R J H'
noncomputable def PI(X:Cx)(tg iter:Expr)(wi:TI):Prop :=
 ∀(pins:List (Addr × Obj)) (s:Shared) (σ : St) (H:Hp) (R:It->Hp->Prop),Inv X pins σ H s->wi σ H R ->
  wpAny (model X.prog X.w) X.A (eval iter X.env) (λv s1=>wpAny (model X.prog X.w) X.A (pyIter v) (PIE X pins σ tg R) X.xe s1) X.xe s
theorem Ak{M:Model}{A:Around}{E:Value→Shared→Prop}{s:Shared}{tg:Expr}{it:Addr}{u:Value}{o:Obj}{n:String}{vs:Array Value}{Q:Unit→Shared→Prop}(ho:s.heap.get? it=some o)(hc:o.cls=.type n)(hd:o.data=.fields vs)
    (hn : ["enumerate", "zip", "dict_itemiterator", "dict_reverseitemiterator", "odict_iterator", "itertools.zip_longest", "itertools.pairwise"].contains n=false) (hQ:Q () s):wpAny M A (letOwnedTupleGo tg (.ref it) u) Q E s:=by
  unfold letOwnedTupleGo
  cases tg <;> first
    |exact wpAny_pure hQ
    | (cases u <;> first
        |exact wpAny_pure hQ
        | (refine wpAny_bind (wpAny_load ho ?_)
           rw[hc,hd]
           show wpAny M A (if(["enumerate", "zip", "dict_itemiterator", "dict_reverseitemiterator", "odict_iterator", "itertools.zip_longest", "itertools.pairwise"].contains n&&vs[0]? == some (rawInt _))=true then _ else _) Q E s
           rw[if_neg (by intro h; rw[hn,Bool.false_and]at h; cases h)]
           exact wpAny_pure hQ))
def Al(K:FZ)(a:Addr):It :=
 ⟨λi H=>∃xs x,bG K H a xs/\xs[i]?=some x,λi H x H'=>H'=H/\∀xs,bG K H a xs->xs[i]?=some x,λi H=>∃xs,bG K H a xs/\xs.length<=i⟩
def Am(K:FZ)(a:Addr):It :=
 ⟨λi H=>∃xs x,cQ K H a xs/\xs[i]?=some x,λi H x H'=>H'=H/\∀xs,cQ K H a xs->xs[i]?=some x,λi H=>∃xs,cQ K H a xs/\xs.length<=i⟩
def wN(lo:Int)(n:Nat):It:=⟨λi _=>i<n,λi H x H'=>H'=H/\x=.int (lo+i),λi _=>n<=i⟩
theorem Qz{P:Program}{w:World}{K:FZ}{tg:Expr}(a it:Addr):Turn P w K tg (Al K a) [it] it (λi h=>h.IsListIter it a i) where
 mem:=by simp
 obj:=λi h st b hb=>by
  have e:b=it:=by simpa using hb
  subst e
  obtain⟨o,e,c,d⟩:=st
  exact⟨o,e,λv z=>by rw[d]at z; cases z⟩
 keep:=λi h h' st k=>st.at λo e=>k it (by simp) o e
 item:=by
  intro X hP hw hK hc i pins s σ H E I hf st hg
  subst hP hw hK
  obtain⟨xs,x,hq,hx⟩:=hg
  obtain⟨its,rv,p,hz⟩:=I.list hq
  obtain⟨u,hu,ru⟩:=rv.get hx
  obtain⟨f0,f1,f2,f3,f4,f5⟩:=hf it (by simp)
  refine wpAny_pyNext_list_item st p.isList (x:=u) (by simpa using hu) λh' st' sb=>?_
  have I1:Inv X pins σ H {s with heap:=h' }:=I.turned (t':=s.toks) (λb o hb e=>(sb.2 b hb).trans e) f0 f1 f3 f4 f5
  obtain⟨o,e,c,d⟩:=id st'
  exact⟨u,rfl,Ak (s:={s with heap:=h' }) e c d (by decide) ⟨x,H,I1,ru,⟨rfl,λys hy=>by rw[I.wJ hy hq]; exact hx⟩,st',λb hb=>(hf b hb).1⟩⟩
 done:=by
  intro X hP hw hK hc i pins s σ H E I hf st hg
  subst hP hw hK
  obtain⟨xs,hq,hx⟩:=hg
  obtain⟨its,rv,p,hz⟩:=I.list hq
  obtain⟨f0,f1,f2,f3,f4,f5⟩:=hf it (by simp)
  have hl:=rv.length
  exact wpAny_pyNext_list_end (I.ok.hd hc) st p.isList (by simp; omega) λh' eb=>⟨rfl,I.turned (t':=s.toks) (λb o hb e=>eb b o hb e) f0 f1 f3 f4 f5⟩
 self:=λ_ _ _ _ _ st h=>wpAny_pyIter_listiter st h
theorem QB{P:Program}{w:World}{K:FZ}{tg:Expr}(a it:Addr):Turn P w K tg (Am K a) [it] it (λi h=>h.IsTupleIter it a i) where
 mem:=by simp
 obj:=λi h st b hb=>by
  have e:b=it:=by simpa using hb
  subst e
  obtain⟨o,e,c,d⟩:=st
  exact⟨o,e,λv z=>by rw[d]at z; cases z⟩
 keep:=λi h h' st k=>st.at λo e=>k it (by simp) o e
 item:=by
  intro X hP hw hK hc i pins s σ H E I hf st hg
  subst hP hw hK
  obtain⟨xs,x,hq,hx⟩:=hg
  obtain⟨its,rv,p,hz⟩:=I.tuple hq
  obtain⟨u,hu,ru⟩:=rv.get hx
  obtain⟨f0,f1,f2,f3,f4,f5⟩:=hf it (by simp)
  refine wpAny_pyNext_tuple_item st (show s.heap.IsTuple a its.toArray from p) (x:=u) (by simpa using hu) λh' st' sb=>?_
  have I1:Inv X pins σ H {s with heap:=h' }:=I.turned (t':=s.toks) (λb o hb e=>(sb.2 b hb).trans e) f0 f1 f3 f4 f5
  obtain⟨o,e,c,d⟩:=id st'
  exact⟨u,rfl,Ak (s:={s with heap:=h' }) e c d (by decide) ⟨x,H,I1,ru,⟨rfl,λys hy=>by rw[I.Hs hy hq]; exact hx⟩,st',λb hb=>(hf b hb).1⟩⟩
 done:=by
  intro X hP hw hK hc i pins s σ H E I hf st hg
  subst hP hw hK
  obtain⟨xs,hq,hx⟩:=hg
  obtain⟨its,rv,p,hz⟩:=I.tuple hq
  obtain⟨f0,f1,f2,f3,f4,f5⟩:=hf it (by simp)
  have hl:=rv.length
  exact wpAny_pyNext_tuple_end (I.ok.hd hc) st (show s.heap.IsTuple a its.toArray from p) (by simp; omega) λh' eb=>⟨rfl,I.turned (t':=s.toks) (λb o hb e=>eb b o hb e) f0 f1 f3 f4 f5⟩
 self:=λ_ _ _ _ _ st h=>wpAny_pyIter_tupleiter st h
theorem QC{P:Program}{w:World}{K:FZ}{tg:Expr}(it:Addr)(lo:Int)(n:Nat):Turn P w K tg (wN lo n) [it] it (λi h=>IsRangeIter h it (lo+(i:Nat)*1) ((n:Int)-(i:Nat)) 1) where
 mem:=by simp
 obj:=λi h st b hb=>by
  have e:b=it:=by simpa using hb
  subst e
  exact⟨_,st,λv z=>by
   have z':Data.fields _=Data.cell v:=z
   cases z'⟩
 keep:=λi h h' st k=>k it (by simp) _ st
 item:=by
  intro X hP hw hK hc i pins s σ H E I hf st hg
  subst hP hw hK
  obtain⟨f0,f1,f2,f3,f4,f5⟩:=hf it (by simp)
  have W:=Walks.range (prog:=X.prog) (w:=X.w) (I.ok.hd hc) it lo 1 n
  refine W.item i s _ _ hg st λv h' tk hv st' kk=>?_
  obtain⟨t,rfl⟩:=hv
  have I1:Inv X pins σ H {s with heap:=h',toks:=tk }:=I.turned (λb o hb e=>kk b o (by simpa using hb) e) f0 f1 f3 f4 f5
  refine⟨_,rfl,Ak (s:={s with heap:=h',toks:=tk }) (n := "range_iterator") st' rfl rfl (by decide) ⟨.int (lo+i),H,I1,⟨t,?_⟩,⟨rfl,rfl⟩,st',λb hb=>(hf b hb).1⟩⟩
  rw[Int.mul_one]
 done:=by
  intro X hP hw hK hc i pins s σ H E I hf st hg
  subst hP hw hK
  obtain⟨f0,f1,f2,f3,f4,f5⟩:=hf it (by simp)
  exact wpAny_pyNext_range_end (I.ok.hd hc) st (by have:n<=i:=hg; omega) λh' eb=>⟨rfl,I.turned (t':=s.toks) (λb o hb e=>eb b o hb e) f0 f1 f3 f4 f5⟩
 self:=λ_ _ _ _ _ st h=>wpAny_pyIter_rangeiter st h
end L2
namespace L2
open PySem PySem.Spec PyProof.Rows
section
variable {X:Cx}{tg:Expr}
def HN(K:FZ)(tl:TE):TI:=λσ H R=>tl σ H λx H1=>∃a,x=.ref a/\(∃xs,bG K H1 a xs)/\R (Al K a) H1
def HS(K:FZ)(tl:TE):TI:=λσ H R=>tl σ H λx H1=>∃a,x=.ref a/\(∃xs,cQ K H1 a xs)/\R (Am K a) H1
theorem QD{l:Expr}{tl:TE}(hl:PE X l tl):PI X tg l (HN X.K tl):=by
 intro pins s σ H R I h
 refine aR (hl pins s σ H _ I h) λv s1 ⟨x,H1,I1,r1,q1⟩=>?_
 obtain⟨a,e,⟨xs,hq⟩,q⟩:=q1
 subst e
 cases r1
 obtain⟨its,rv,p,hz⟩:=I1.list hq
 refine wpAny_pyIter_list p.isList ?_
 refine⟨s1.heap.objs.size,[s1.heap.objs.size],_,_,H1,rfl,I1.kept (t':=s1.toks) λb o e=>Heap.get?_push_of_some _ e,Qz a _,⟨_,Heap.get?_push_size _ rfl,rfl,rfl⟩,λb hb=>?_,q⟩
 have e:b=s1.heap.objs.size:=by simpa using hb
 subst e
 exact I1.wM (Nat.le_refl _) (I1.hok.fresh (Nat.le_refl _))
theorem QG{l:Expr}{tl:TE}(hl:PE X l tl):PI X tg l (HS X.K tl):=by
 intro pins s σ H R I h
 refine aR (hl pins s σ H _ I h) λv s1 ⟨x,H1,I1,r1,q1⟩=>?_
 obtain⟨a,e,⟨xs,hq⟩,q⟩:=q1
 subst e
 cases r1
 obtain⟨its,rv,p,hz⟩:=I1.tuple hq
 refine wpAny_pyIter_tuple (show s1.heap.IsTuple a its.toArray from p) ?_
 refine⟨s1.heap.objs.size,[s1.heap.objs.size],_,_,H1,rfl,I1.kept (t':=s1.toks) λb o e=>Heap.get?_push_of_some _ e,QB a _,⟨_,Heap.get?_push_size _ rfl,rfl,rfl⟩,λb hb=>?_,q⟩
 have e:b=s1.heap.objs.size:=by simpa using hb
 subst e
 exact I1.wM (Nat.le_refl _) (I1.hok.fresh (Nat.le_refl _))
theorem QH{pins:List (Addr × Obj)}{σ : St}{H:Hp}{s:Shared}{R:It->Hp->Prop}{E:Value->Shared->Prop}{lo hi:Int}{t u v:Tok}{tk:Nat}(I:Inv X pins σ H s)(h1 : -(2 ^ 62)<=lo)(h2:lo<2 ^ 62)(h3 : -(2 ^ 62)<=hi)(h4:hi<2 ^ 62)
  (q:R (wN lo (hi-lo).toNat) H):wpAny (model X.prog X.w) X.A (pyIter (.ref s.heap.objs.size)) (PIE X pins σ tg R) E {s with heap:=s.heap.push {cls:=.type "range",data:=.fields #[.int lo t,.int hi u,.int 1 v] },toks:=tk }:=by
 refine wpAny_pyIter_range (IsRange.new ..) (small_one h1 h2 h3 h4) ?_
 have I1:Inv X pins σ H {s with heap:=s.heap.push {cls:=.type "range",data:=.fields #[.int lo t,.int hi u,.int 1 v] },toks:=tk }:=I.kept λb o e=>Heap.get?_push_of_some _ e
 refine⟨(s.heap.push {cls:=.type "range",data:=.fields #[.int lo t,.int hi u,.int 1 v] }).objs.size,[(s.heap.push {cls:=.type "range",data:=.fields #[.int lo t,.int hi u,.int 1 v] }).objs.size],_,_,H,rfl,
  I1.kept (t':=tk) λb o e=>Heap.get?_push_of_some _ e,QC _ lo (hi-lo).toNat,?_,λb hb=>?_,q⟩
 ·have e1:lo+((0:Nat):Int)*1=lo:=by simp
  have e2:(((hi-lo).toNat:Nat):Int)-((0:Nat):Int)=Builtin.Range.rangeSize lo hi 1:=by rw[rangeSize_one]; split <;> omega
  show IsRangeIter _ _ (lo+((0:Nat):Int)*1) ((((hi-lo).toNat:Nat):Int)-((0:Nat):Int)) 1
  rw[e1,e2]
  exact Heap.get?_push_size _ rfl
 ·have e:b=(s.heap.push {cls:=.type "range",data:=.fields #[.int lo t,.int hi u,.int 1 v] }).objs.size:=by simpa using hb
  subst e
  exact I1.wM (Nat.le_refl _) (I1.hok.fresh (Nat.le_refl _))
def Ao(ta:TA):TI:=λσ H R=>ta σ H λvs H1=>∃j:Int,vs=[.int j] /\ -(2 ^ 62)<=j/\j<2 ^ 62/\R (wN 0 j.toNat) H1
theorem QJ{a:Expr}{ta:TA}{p pos:Pos}(hg:Gl X "range") (hm:X.mg "range" = none) (ha:PA X [a] ta) (hs:starEach [a] X.env=[(false,eval a X.env)]:=by rfl):PI X tg (.Call (.Name "range" p) [a] [] pos) (Ao ta):=by
 intro pins s σ H R I h
 refine Call_ (uo I hg hm boot_range (PyProof.Rows.callWith_type1 (aR (ha pos pins s σ H _ I h) λus s1 ⟨vs,H1,I1,r1,q1⟩=>?_) hs rfl))
 obtain⟨j,e,q1,q2,q⟩:=q1
 subst e
 cases r1 with
 |cons r rr =>
  cases rr
  obtain⟨t,rfl⟩:=r
  exact call_range_1 (QH I1 (by omega) (by omega) q1 q2 (by simpa using q))
noncomputable def HW(wi:TI)(g:TG)(tb:TS):TS:=λD σ H=>wi σ H λJ H1=>∃W:Nat->Nat->St->Hp->Prop,(∃m,W 0 m σ H1)/\∀i m σ H,W i m σ H ->
 (J.stop i H/\D.nx σ H)\/(J.go i H/\∃N:St->Hp->Prop,(∀σ' H',N σ' H'->∃m',m'<m/\W (i+1) m' σ' H')/\∀x H',J.rG i H x H'->g x σ H' λσ2 H2=>tb {D with nx:=N,ct:=N,bk:=D.nx } σ2 H2)
def wO(fp:List Addr)(h:Heap):List (Addr × Obj):=fp.filterMap λb=>(h.get? b).map λo=>(b,o)
theorem wQ{fp:List Addr}{h:Heap}{b:Addr}{o:Obj}(hb:b∈fp)(e:h.get? b=some o):(b,o)∈wO fp h:=List.mem_filterMap.mpr ⟨b,hb,by rw[e]; rfl⟩
theorem QK{fp:List Addr}{h:Heap}{p:Addr × Obj}(hp:p∈wO fp h):p.1∈fp/\h.get? p.1=some p.2:=by
 obtain⟨b,hb,e⟩:=List.mem_filterMap.mp hp
 cases q:h.get? b with
 |none=>rw[q]at e; cases e
 |some o =>
  rw[q]at e
  have e':(b,o)=p:=Option.some.inj e
  subst e'
  exact⟨hb,q⟩
theorem Inv.pinned{pins:List (Addr × Obj)}{σ : St}{H:Hp}{s:Shared}{fp:List Addr}(I:Inv X pins σ H s)(hf:∀b∈fp,lG X pins H b)(ho:∀b∈fp,∃o,s.heap.get? b=some o/\∀v,o.data ≠ .cell v):Inv X (pins++wO fp s.heap) σ H s :=
 I.G4 λp hp=>(List.mem_append.mp hp).elim (λz=>I.pin p (List.mem_append_right _ z)) λz=>by
  obtain⟨hb,e⟩:=QK z
  obtain⟨f0,f1,f2,_⟩:=hf p.1 hb
  obtain⟨o,e',d⟩:=ho p.1 hb
  rw[e]at e'; cases e'
  exact⟨e,f0,f1,f2,d⟩
theorem Inv.wR{pins pl:List (Addr × Obj)}{σ : St}{H:Hp}{s:Shared}(I:Inv X (pins++pl) σ H s):Inv X pins σ H s:=I.G4 λp hp=>I.pin p (List.mem_append_right _ (List.mem_append_left _ hp))
theorem uE{iter:Expr}{body:List Stmt}{wi:TI}{g:TG}{tb:TS}{pos:Pos}(hp:PassesOwn (model X.prog X.w) X.A X.env X.xe)(hc:X.calm=true)(hi:PI X tg iter wi)(hg:PG X tg g)(hb:iD X body tb)
  (hs:∀x,foldedSetIterable iter X.env x=pure x:=by intro _; rfl):PS X (.For tg iter body [] pos) (HW wi g tb):=by
 refine⟨λpins s σ H D I h=>?_⟩
 refine wpAny_For (aR (hi pins s σ H _ I h) λv s1 h1=>aR h1 λitv s2 h2=>?_) hs
 obtain⟨it,fp,tn,J,H2,e,I2,T,st2,f2,W,⟨m0,w0⟩,turn⟩:=h2
 subst e
 -- what stays true of the iterator's objects through the loop
 have stat:∀{H':Hp},(∀b∈fp,H' b=none)->∀b∈fp,lG X pins H' b:=λhn b hb=>⟨hn b hb,(f2 b hb).2⟩
 refine codeAny_forLoop_any (λn s'=>∃i σ' H',Inv X pins σ' H' s'/\tn i s'.heap/\(∀b∈fp,H' b=none)/\W i n σ' H') ?_ m0 ⟨0,σ,H2,I2,st2,λb hb=>(f2 b hb).1,w0⟩
 rintro n s3 ⟨i,σ3,H3,I3,st3,HX,w3⟩
 rcases turn i n σ3 H3 w3 with⟨stop,qn⟩|⟨go,N,hN,step⟩
 ·refine wpAny_passesOwn hp (aR (T.done X rfl rfl rfl hc i pins s3 σ3 H3 X.xe I3 (stat HX) st3 stop) λr s4 ⟨hr,I4⟩=>?_)
  subst hr
  exact wpAny_execs_nil ⟨σ3,H3,I4,qn⟩
 ·refine wpAny_passesOwn hp (aR (T.item X rfl rfl rfl hc i pins s3 σ3 H3 X.xe I3 (stat HX) st3 go) λr s4 ⟨u,hr,h4⟩=>?_)
  subst hr
  refine wpAny_passesOwn hp (aR h4 λ_ s5 ⟨x,H5,I5,r5,y5,je,wU⟩=>?_)
  have QL:=I5.pinned (stat wU) (T.obj _ _ je)
  refine wpAny_passesOwn hp (aR (hg _ s5 σ3 H5 x u _ QL r5 (step x H5 y5)) λ_ s6 ⟨σ6,H6,I6,q6⟩=>?_)
  refine wpAny_passesOwn hp (aR (hb _ s6 σ6 H6 _ I6 q6) λf s7 q7=>?_)
  have again:∀{σ7:St} {H7:Hp},Inv X (pins++wO fp s5.heap) σ7 H7 s7->N σ7 H7->∃m,m<n/\∃i σ' H',Inv X pins σ' H' s7/\tn i s7.heap/\(∀b∈fp,H' b=none)/\W i m σ' H':=λ{σ7 H7} I7 n7=>by
   obtain⟨m',hm,w7⟩:=hN σ7 H7 n7
   refine⟨m',hm,i+1,σ7,H7,I7.wR,T.keep _ _ _ je λb hb o e=>(I7.pin (b,o) (List.mem_append_right _ (List.mem_append_right _ (wQ hb e)))).1,λb hb=>?_,w7⟩
   obtain⟨o,e,d⟩:=T.obj _ _ je b hb
   exact(I7.pin (b,o) (List.mem_append_right _ (List.mem_append_right _ (wQ hb e)))).2.1
  cases f with
  |next=>obtain⟨σ7,H7,I7,n7⟩:=q7; exact again I7 n7
  |cont=>obtain⟨σ7,H7,I7,n7⟩:=q7; exact again I7 n7
  |brk=>obtain⟨σ7,H7,I7,q7⟩:=q7; exact⟨σ7,H7,I7.wR,q7⟩
  |ret v=>obtain⟨x7,σ7,H7,I7,r7,q7⟩:=q7; exact⟨x7,σ7,H7,I7.wR,r7,q7⟩
end
end L2
namespace L2
open PySem PySem.Spec PyProof.Rows
abbrev R2:=V->V->Hp->VK->Prop
noncomputable def cJ(X:Cx)(f:Value->Value->Sem Value)(r:R2):Prop :=
 ∀(pins:List (Addr × Obj)) (s:Shared) (σ : St) (H:Hp) (x y:V) (v u:Value) (Q:VK),Inv X pins σ H s->RelV x v->RelV y u->r x y H Q ->
  wpAny (model X.prog X.w) X.A (f v u) (EP X pins σ Q) X.xe s
def Aq(X:Cx)(f:Value->Sem Value)(r:V->Hp->VK->Prop):Prop :=
 ∀(pins:List (Addr × Obj)) (s:Shared) (σ : St) (H:Hp) (x:V) (v:Value) (Q:VK),Inv X pins σ H s->RelV x v->r x H Q ->
  wpAny (model X.prog X.w) X.A (f v) (EP X pins σ Q) X.xe s
noncomputable def fZ(X:Cx)(f:Value)(r:List V->Hp->VK->Prop):Prop :=
 ∀(pins:List (Addr × Obj)) (s:Shared) (σ : St) (H:Hp) (xs:List V) (us:List Value) (Q:VK),Inv X pins σ H s->Vals xs us->r xs H Q ->
  wpAny (model X.prog X.w) X.A (call f us) (EP X pins σ Q) X.xe s
noncomputable def QM(X:Cx)(r:V->Hp->(Bool->Hp->Prop)->Prop):Prop :=
 ∀(pins:List (Addr × Obj)) (s:Shared) (σ : St) (H:Hp) (x:V) (v:Value) (Q:Bool->Hp->Prop),Inv X pins σ H s->RelV x v->r x H Q ->
  wpAny (model X.prog X.w) X.A (truthy v) (TP X pins σ Q) X.xe s
def gq(r:R2)(ta tb:TE):TE:=λσ H Q=>ta σ H λx H1=>tb σ H1 λy H2=>r x y H2 Q
def rH(r:V->Hp->VK->Prop)(ta:TE):TE:=λσ H Q=>ta σ H λx H1=>r x H1 Q
def rI(C:Int->Int->Prop)(g:Int->Int->V):R2:=λx y H Q=>∃i j,x=.int i/\y=.int j/\C i j/\Q (g i j) H
def gG(g:Int->Int->V):R2:=λx y H Q=>∃i j,x=.int i/\y=.int j/\Q (g i j) H
def rU(g:Int->V):V->Hp->VK->Prop:=λx H Q=>∃i,x=.int i/\Q (g i) H
section
variable {X:Cx}{a b c:Expr}{ta tb tc:TE}{pos:Pos}
theorem Ar(ha:PE X a ta)(hb:PE X b tb){pins:List (Addr × Obj)}{s:Shared}{σ : St}{H:Hp}{R:V->V->Hp->Prop}(I:Inv X pins σ H s)
  (h:ta σ H λx H1=>tb σ H1 λy H2=>R x y H2) {Q:Value->Shared->Prop} {f:Value->Value->Sem Value}
  (hf:∀v u s2 x y H2,Inv X pins σ H2 s2->RelV x v->RelV y u->R x y H2->wpAny (model X.prog X.w) X.A (f v u) Q X.xe s2) :
  wpAny (model X.prog X.w) X.A (eval a X.env) (λv s₁=>wpAny (model X.prog X.w) X.A (eval b X.env) (λu s₂=>wpAny (model X.prog X.w) X.A (f v u) Q X.xe s₂) X.xe s₁) X.xe s:=by
 refine aR (ha pins s σ H _ I h) λv s1 ⟨x,H1,I1,r1,q1⟩=>?_
 refine aR (hb pins s1 σ H1 _ I1 q1) λu s2 ⟨y,H2,I2,r2,q2⟩=>?_
 exact hf v u s2 x y H2 I2 r1 r2 q2
theorem cg{op:Operator}{r:R2}(ho:cJ X (binaryOp op) r)(ha:PE X a ta)(hb:PE X b tb):PE X (.BinOp a op b pos) (gq r ta tb):=by
 refine⟨λpins s σ H Q I h=>?_⟩
 exact wpAny_BinOp (Ar ha hb I h λv u s2 x y H2 I2 rx ry q=>ho pins s2 σ H2 x y v u Q I2 rx ry q)
theorem uF{op:UnaryOp}{r:V->Hp->VK->Prop}(ho:Aq X (unaryOp op) r)(ha:PE X a ta):PE X (.UnaryOp op a pos) (rH r ta):=by
 refine⟨λpins s σ H Q I h=>?_⟩
 exact UnaryOp_ (aR (ha pins s σ H _ I h) λv s1 ⟨x,H1,I1,r1,q1⟩=>ho pins s1 σ H1 x v Q I1 r1 q1)
theorem wV{f:Value->Value->Sem Value}{C:Int->Int->Prop}{g:Int->Int->Int}
  (rule:∀(i j:Int) (t u:Tok) (s:Shared) (Q:Value->Shared->Prop) (E:Value->Shared->Prop),C i j->Q (.int (g i j) s.toks) {s with toks:=s.toks+1 }->wpAny (model X.prog X.w) X.A (f (.int i t) (.int j u)) Q E s) :
  cJ X f (rI C λi j=>.int (g i j)):=by
 intro pins s σ H x y v u Q I rx ry h
 obtain⟨i,j,rfl,rfl,hc,q⟩:=h
 obtain⟨t,rfl⟩:=rx
 obtain⟨t',rfl⟩:=ry
 exact rule i j t t' s _ _ hc ⟨.int (g i j),H,I.tok _,⟨_,rfl⟩,q⟩
theorem HY{f:Value->Value->Sem Value}{g:Int->Int->Int}
  (rule:∀(i j:Int) (t u:Tok) (s:Shared) (Q:Value->Shared->Prop) (E:Value->Shared->Prop),Q (.int (g i j) s.toks) {s with toks:=s.toks+1 }->wpAny (model X.prog X.w) X.A (f (.int i t) (.int j u)) Q E s) :
  cJ X f (gG λi j=>.int (g i j)):=by
 intro pins s σ H x y v u Q I rx ry h
 obtain⟨i,j,rfl,rfl,q⟩:=h
 obtain⟨t,rfl⟩:=rx
 obtain⟨t',rfl⟩:=ry
 exact rule i j t t' s _ _ ⟨.int (g i j),H,I.tok _,⟨_,rfl⟩,q⟩
theorem wW{f:Value->Value->Sem Value}{g:Int->Int->Bool}
  (rule:∀(i j:Int) (t u:Tok) (s:Shared) (Q:Value->Shared->Prop) (E:Value->Shared->Prop),Q (.bool (g i j)) s->wpAny (model X.prog X.w) X.A (f (.int i t) (.int j u)) Q E s) :
  cJ X f (gG λi j=>.bl (g i j)):=by
 intro pins s σ H x y v u Q I rx ry h
 obtain⟨i,j,rfl,rfl,q⟩:=h
 obtain⟨t,rfl⟩:=rx
 obtain⟨t',rfl⟩:=ry
 exact rule i j t t' s _ _ ⟨.bl (g i j),H,I,rfl,q⟩
def Av(i j:Int):Prop:=0<=j/\j<=1000000/\i.natAbs<2 ^ 64
theorem Ia:cJ X (binaryOp .Add) (gG λi j=>.int (i+j)):=HY λ_ _ _ _ _ _ _ q=>add_int q
theorem uG:cJ X (binaryOp .Sub) (gG λi j=>.int (i-j)):=HY λ_ _ _ _ _ _ _ q=>sub_int q
theorem qe:cJ X (binaryOp .Mod) (rI (λ_ j=>j≠0) λi j=>.int (i.fmod j)):=wV λ_ _ _ _ _ _ _ hc q=>mod_int' hc q
theorem wX:cJ X (binaryOp .Pow) (rI Av λi j=>.int (i ^ j.toNat)):=wV λ_ _ _ _ _ _ _ hc q=>pow_int_small hc.1 hc.2.1 hc.2.2 q
theorem QS{f:Value->Sem Value}{g:Int->Int}
  (rule:∀(i:Int) (t:Tok) (s:Shared) (Q:Value->Shared->Prop) (E:Value->Shared->Prop),Q (.int (g i) s.toks) {s with toks:=s.toks+1 }->wpAny (model X.prog X.w) X.A (f (.int i t)) Q E s) :
  Aq X f (rU λi=>.int (g i)):=by
 intro pins s σ H x v Q I rx h
 obtain⟨i,rfl,q⟩:=h
 obtain⟨t,rfl⟩:=rx
 exact rule i t s _ _ ⟨.int (g i),H,I.tok _,⟨_,rfl⟩,q⟩
theorem uH:Aq X (unaryOp .USub) (rU λi=>.int (-i)):=QS λ_ _ _ _ _ q=>neg_int q
end
section
variable {X:Cx}{a b c:Expr}{ta tb tc:TE}{pos:Pos}
theorem QT:cJ X (compareOp .Lt) (gG λi j=>.bl (decide (i<j))):=wW λ_ _ _ _ _ _ _ q=>lt_int q
theorem rJ:cJ X (compareOp .LtE) (gG λi j=>.bl (decide (i<=j))):=wW λ_ _ _ _ _ _ _ q=>le_int q
theorem QV:cJ X (compareOp .Gt) (gG λi j=>.bl (decide (j<i))):=wW λ_ _ _ _ _ _ _ q=>gt_int q
theorem Ib:cJ X (compareOp .GtE) (gG λi j=>.bl (decide (j<=i))):=wW λ_ _ _ _ _ _ _ q=>ge_int q
theorem cJ.or{f:Value->Value->Sem Value}{r r':R2}(h:cJ X f r)(h':cJ X f r'):cJ X f (λx y H Q=>r x y H Q\/r' x y H Q):=by
 intro pins s σ H x y v u Q I rx ry q
 rcases q with q|q
 ·exact h pins s σ H x y v u Q I rx ry q
 ·exact h' pins s σ H x y v u Q I rx ry q
theorem eZ(b:Expr){op:CmpOp}(h:op ≠ .In:=by decide)(h2:op ≠ .NotIn:=by decide):behindInMarks op b=false:=by
 have e1:(op == CmpOp.In)=false:=by cases op <;> first|rfl|exact absurd rfl h
 have e2:(op == CmpOp.NotIn)=false:=by cases op <;> first|rfl|exact absurd rfl h2
 cases b <;> simp[behindInMarks,e1,e2]
theorem uJ{op:CmpOp}{r:R2}(ho:cJ X (compareOp op) r)(ha:PE X a ta)(hb:PE X b tb)(hm:behindInMarks op b=false):PE X (.Compare a [op] [b] pos) (gq r ta tb):=by
 refine⟨λpins s σ H Q I h=>?_⟩
 exact wpAny_Compare1 (Ar ha hb I h λv u s2 x y H2 I2 rx ry q=>ho pins s2 σ H2 x y v u Q I2 rx ry q) hm
def Aw(t:TE):TT:=λσ H Q=>t σ H λx H'=>∃k,x=.bl k/\Q k H'
theorem gh{op:CmpOp}{r:R2}(ho:cJ X (compareOp op) r)(ha:PE X a ta)(hb:PE X b tb)(hm:behindInMarks op b=false):PT X (.Compare a [op] [b] pos) (Aw (gq r ta tb)):=by
 refine⟨λpins s σ H Q I h=>?_⟩
 refine wpAny_isTrue_Compare1 (aR (ha pins s σ H _ I h) λv s1 ⟨x,H1,I1,r1,q1⟩=>aR (hb pins s1 σ H1 _ I1 q1) λu s2 ⟨y,H2,I2,r2,q2⟩ =>
  aR (ho pins s2 σ H2 x y v u _ I2 r1 r2 q2) λc s3 ⟨z,H3,I3,r3,k,e,q3⟩=>?_) hm
 subst e
 cases r3
 exact wpAny_truthy_bool ⟨H3,I3,q3⟩
def wY(r r':R2)(ta tb tc:TE):TE:=λσ H Q=>ta σ H λx H1=>tb σ H1 λy H2=>r x y H2 λz H3=>∃k,z=.bl k /\
 (if k=true then tc σ H3 λw' H4=>r' y w' H4 Q else Q (.bl false) H3)
theorem QW{op op':CmpOp}{r r':R2}(ho:cJ X (compareOp op) r)(ho':cJ X (compareOp op') r')(ha:PE X a ta)(hb:PE X b tb)(hc:PE X c tc)
  (hm:lastMarks [op,op'] [b,c]=false:=by with_unfolding_all rfl):PE X (.Compare a [op,op'] [b,c] pos) (wY r r' ta tb tc):=by
 refine⟨λpins s σ H Q I h=>?_⟩
 refine Compare_chain (aR (ha pins s σ H _ I h) λv s1 ⟨x,H1,I1,r1,q1⟩=>chain_link (aR (hb pins s1 σ H1 _ I1 q1) λu s2 ⟨y,H2,I2,r2,q2⟩ =>
  aR (ho pins s2 σ H2 x y v u _ I2 r1 r2 q2) λd s3 ⟨z,H3,I3,r3,k,e,q3⟩=>?_)) hm
 subst e
 cases r3
 refine wpAny_truthy_bool ?_
 cases k with
 |false=>exact ite_ff ⟨.bl false,H3,I3,rfl,q3⟩
 |true=>exact ite_tt (chain_last (aR (hc pins s3 σ H3 _ I3 q3) λw' s4 ⟨z',H4,I4,r4,q4⟩=>ho' pins s4 σ H4 y z' u w' Q I4 r2 r4 q4))
theorem Ie{op op':CmpOp}{r r':R2}(ho:cJ X (compareOp op) r)(ho':cJ X (compareOp op') r')(ha:PE X a ta)(hb:PE X b tb)(hc:PE X c tc)
  (hm:lastMarks [op,op'] [b,c]=false:=by with_unfolding_all rfl):PT X (.Compare a [op,op'] [b,c] pos) (Aw (wY r r' ta tb tc)):=by
 refine⟨λpins s σ H Q I h=>?_⟩
 refine isTrue_chain (aR (ha pins s σ H _ I h) λv s1 ⟨x,H1,I1,r1,q1⟩=>test_link (aR (hb pins s1 σ H1 _ I1 q1) λu s2 ⟨y,H2,I2,r2,q2⟩ =>
  aR (ho pins s2 σ H2 x y v u _ I2 r1 r2 q2) λd s3 ⟨z,H3,I3,r3,k,e,q3⟩=>?_)) hm
 subst e
 cases r3
 refine wpAny_truthy_bool ?_
 cases k with
 |false =>
  obtain⟨k',e',q'⟩:=q3
  cases e'
  exact ite_ff ⟨H3,I3,q'⟩
 |true =>
  refine ite_tt (test_last (aR (hc pins s3 σ H3 _ I3 q3) λw' s4 ⟨z',H4,I4,r4,q4⟩=>aR (ho' pins s4 σ H4 y z' u w' _ I4 r2 r4 q4) λd' s5 ⟨z2,H5,I5,r5,k2,e2,q5⟩=>?_))
  subst e2
  cases r5
  exact wpAny_truthy_bool ⟨H5,I5,q5⟩
noncomputable def uK(K:FZ)(x:V)(H:Hp)(k:Bool):Prop :=
 match x with
 |.non=>k=false
 |.bl b=>k=b
 |.int i=>k=(i != 0)
 |.str y=>y.length<=sizeLine/\k=((y.length:Int) != 0)
 |.uh y=>y.size<=sizeLine/\k=((y.size:Int) != 0)
 |.ref p=>(∃xs,bG K H p xs/\k = !xs.isEmpty)\/(∃xs,cQ K H p xs/\k = !xs.isEmpty)\/∃kvs,H p=some (.dK kvs)/\k = !kvs.isEmpty
 |_=>False
theorem QX{κ : Type}{kvs:List (κ × V)}{vs:List (κ × Value)}(r:KV kvs vs):(!vs.isEmpty) = !kvs.isEmpty:=by
 cases r <;> rfl
theorem Ig{xs:List V}{its:List Value}(r:Vals xs its):(!its.toArray.isEmpty) = !xs.isEmpty:=by
 cases r <;> simp
theorem qg:(sizeLine:Nat)<2 ^ 63:=by rw[sizeLine_eq]; decide
theorem QZ:QM X (λx H Q=>∃k,uK X.K x H k/\Q k H):=by
 intro pins s σ H x v Q I rx h
 obtain⟨k,e,q⟩:=h
 have hl:=qg
 have hs:sizeLine=16777216:=sizeLine_eq
 cases x with
 |non =>
  cases rx
  have e':k=false:=e
  subst e'
  exact truthy_none ⟨H,I,q⟩
 |bl b =>
  cases rx
  have e':k=b:=e
  subst e'
  exact wpAny_truthy_bool ⟨H,I,q⟩
 |int i =>
  obtain⟨t,rfl⟩:=rx
  have e':k=(i != 0):=e
  subst e'
  exact PySem.P.truthy_int ⟨H,I,q⟩
 |str y =>
  obtain⟨t,rfl⟩:=rx
  obtain⟨hy,e'⟩:y.length<=sizeLine/\k=((y.length:Int) != 0):=e
  subst e'
  exact PySem.P.truthy_str (by omega) ⟨H,I.tok _,q⟩
 |uh y =>
  obtain⟨t,rfl⟩:=rx
  obtain⟨hy,e'⟩:y.size<=sizeLine/\k=((y.size:Int) != 0):=e
  subst e'
  exact PySem.W.truthy_bytes (by omega) ⟨H,I.tok _,q⟩
 |ref p =>
  cases rx
  have e':(∃xs,bG X.K H p xs/\k = !xs.isEmpty)\/(∃xs,cQ X.K H p xs/\k = !xs.isEmpty)\/∃kvs,H p=some (.dK kvs)/\k = !kvs.isEmpty:=e
  rcases e' with⟨xs,hx,e'⟩|⟨xs,hx,e'⟩|⟨kvs,hx,e'⟩
  ·subst e'
   obtain⟨its,r,pl,hz⟩:=I.list hx
   have hlen:=r.length
   exact wpAny_truthy_list pl.isList (by simp only[List.size_toArray]; omega) ⟨H,I.tok _,by rw[Ig r]; exact q⟩
  ·subst e'
   obtain⟨its,r,pl,hz⟩:=I.tuple hx
   have hlen:=r.length
   exact truthy_tuple pl (by simp only[List.size_toArray]; omega) ⟨H,I.tok _,by rw[Ig r]; exact q⟩
  ·subst e'
   obtain⟨hz,hS,vs,r,m⟩:kvs.length<=sizeLine/\(p == sysModules)=false/\∃vs,KV kvs vs/\s.heap.DictOf (Aa X.prog X.w) p vs:=I.hok p _ hx
   have hlen:kvs.length=vs.length:=Paired.length r
   exact wpAny_truthy_dict hS m (by omega) ⟨H,I.tok _,by rw[QX r]; exact q⟩
 |_=>exact(show False from e).elim
theorem fB(ha:PE X a ta)(he:∀whole,isTrue a X.env whole=(do let v <-whole; standAt a.pos; holding [v] (truthy v))) :
  PT X a (λσ H Q=>ta σ H λx H'=>∃k,uK X.K x H' k/\Q k H'):=by
 refine⟨λpins s σ H Q I h=>?_⟩
 exact isTrue_plain (aR (ha pins s σ H _ I h) λv s1 ⟨x,H1,I1,r1,q1⟩=>QZ pins s1 σ H1 x v Q I1 r1 q1) (he _)
theorem Q0:cJ X (binaryOp .Add) (λx y H Q=>∃i j,x=.str i/\y=.str j/\i.length+j.length<=sizeLine/\Q (.str (i++j)) H):=by
 intro pins s σ H x y v u Q I rx ry h
 obtain⟨i,j,rfl,rfl,hz,q⟩:=h
 obtain⟨t,rfl⟩:=rx
 obtain⟨t',rfl⟩:=ry
 exact add_str (λt' tk=>⟨.str (i++j),H,I.tok _,⟨_,rfl⟩,q⟩) hz
theorem vals1{x:V}{us:List Value}(r:Vals [x] us):∃u,us=[u]/\RelV x u:=by
 cases r with
 |cons r1 r2=>cases r2; exact⟨_,rfl,r1⟩
theorem vals2{x y:V}{us:List Value}(r:Vals [x,y] us):∃u w',us=[u,w']/\RelV x u/\RelV y w':=by
 cases r with
 |cons r1 r2 =>
  cases r2 with
  |cons r3 r4=>cases r4; exact⟨_,_,rfl,r1,r3⟩
theorem Ih:fZ X (.builtin "abs") (λxs H Q=>∃i,xs=[.int i]/\Q (.int (if i<0 then -i else i)) H):=by
 intro pins s σ H xs us Q I r h
 obtain⟨i,rfl,q⟩:=h
 obtain⟨u,rfl,t,rfl⟩:=vals1 r
 exact call_abs_int λu tk=>⟨.int (if i<0 then -i else i),H,I.tok _,⟨_,rfl⟩,q⟩
theorem Q5(hc:X.calm=true):fZ X (.builtin "max") (λxs H Q=>∃i j,xs=[.int i,.int j]/\Q (.int (if j > i then j else i)) H):=by
 intro pins s σ H xs us Q I r h
 obtain⟨i,j,rfl,q⟩:=h
 obtain⟨u,w',rfl,⟨t,rfl⟩,⟨t',rfl⟩⟩:=vals2 r
 refine max_two_ints (I.ok.hd hc) λh' tk k=>⟨_,H,I.kept k,?_,q⟩
 by_cases hj:j > i
 ·rw[if_pos hj,if_pos hj]; exact⟨_,rfl⟩
 ·rw[if_neg hj,if_neg hj]; exact⟨_,rfl⟩
theorem Q6(hc:X.calm=true):fZ X (.builtin "min") (λxs H Q=>∃i j,xs=[.int i,.int j]/\Q (.int (if j<i then j else i)) H):=by
 intro pins s σ H xs us Q I r h
 obtain⟨i,j,rfl,q⟩:=h
 obtain⟨u,w',rfl,⟨t,rfl⟩,⟨t',rfl⟩⟩:=vals2 r
 refine min_two_ints (I.ok.hd hc) λh' tk k=>⟨_,H,I.kept k,?_,q⟩
 by_cases hj:j<i
 ·rw[if_pos hj,if_pos hj]; exact⟨_,rfl⟩
 ·rw[if_neg hj,if_neg hj]; exact⟨_,rfl⟩
theorem Ii:fZ X (.type "int") (λxs H Q=>(∃i,xs=[.int i]/\Q (.int i) H)\/∃k,xs=[.bl k]/\Q (.int (if k then 1 else 0)) H):=by
 intro pins s σ H xs us Q I r h
 rcases h with⟨i,rfl,q⟩|⟨k,rfl,q⟩
 ·obtain⟨u,rfl,t,rfl⟩:=vals1 r
  exact call_int_int ⟨.int i,H,I,⟨_,rfl⟩,q⟩
 ·obtain⟨u,rfl,r1⟩:=vals1 r
  cases r1
  exact call_int_bool ⟨.int (if k then 1 else 0),H,I.tok _,⟨_,rfl⟩,q⟩
end
end L2
namespace L2
open PySem PySem.Spec PyProof.Rows
section
variable {prog:Program}{w:World}{A:Around}{E:Value->Shared->Prop}{s:Shared}{K:FZ}{x dx C f:Addr}{mA:Str->Option Value}{name:Str}{v:Value}
end
section
variable {P:Program}{w:World}{H H':Hp}{h h':Heap}{a C dx:Addr}{fs fs':List (Str × V)}
end
section
variable {X:Cx}{pins:List (Addr × Obj)}{σ : St}{H:Hp}{s:Shared}{a C dx:Addr}{fs:List (Str × V)}{f:Str}{v:V}{A:Around}{E:Value->Shared->Prop}
end
section
variable {X:Cx}{o e value:Expr}{f:Str}{pos pos' tpos:Pos}{ta tv:TE}
end
section
variable {X:Cx}{pins:List (Addr × Obj)}{σ : St}{H:Hp}{s:Shared}{A:Around}{E:Value->Shared->Prop}{Q:Value->Shared->Prop}{c:Value}{b:Bool}
end
end L2
namespace L2
open PySem PySem.Spec PyProof.Rows
structure fC(k:Nat)(A:Around):Prop where
 hd:A.handled=none
 dp:A.depth+3*k+5<recursionLimit
 un:A.units+16*k+200<cLine
 gd:A.guards=some []:=by rfl
theorem fC.mono{j k:Nat}{A:Around}(r:fC k A)(h:j<=k):fC j A:=⟨r.hd,by have:=r.dp; omega,by have:=r.un; omega,r.gd⟩
theorem fC.deeper{k:Nat}{A:Around}(r:fC (k+1) A)(env:Env):fC k (A.deeper env) :=
 ⟨r.hd,by have:=r.dp; show A.depth+1+3*k+5<_; omega,by have:=r.un; show A.units+3+16*k+200<_; omega,r.gd⟩
theorem fC.depth{k:Nat}{A:Around}(r:fC k A):A.depth<recursionLimit:=by have:=r.dp; omega
theorem fC.units{k:Nat}{A:Around}(r:fC k A):A.units+64<cLine:=by have:=r.un; omega
def jf:TA:=λ_ H Q=>Q [] H
def gQ(ta:TE)(tr:TA):TA:=λσ H Q=>ta σ H λx H1=>tr σ H1 λxs H2=>Q (x::xs) H2
section
variable {X:Cx}{e:Expr}{es:List Expr}{te:TE}{t:TA}{pos:Pos}
theorem aK:PA X [] jf:=⟨λ_ _ _ _ H Q I h=>Calls.spliced_nil ⟨[],H,I,.nil,h⟩⟩
theorem qj(ha:PE X e te)(hr:PA X es t)(hs:starEach (e::es) X.env=(false,eval e X.env)::starEach es X.env:=by rfl):PA X (e::es) (gQ te t):=by
 refine⟨λpos pins s σ H Q I h=>?_⟩
 rw[hs]
 show wpAny _ _ (spliced ((false,eval e X.env)::backTo pos (starEach es X.env))) _ _ s
 refine Calls.spliced_cons (aR (ha pins s σ H _ I h) λu s1 ⟨x,H1,I1,r1,q1⟩=>?_)
 exact aR (hr pos pins s1 σ H1 _ I1 q1) λus s2 ⟨xs,H2,I2,r2,q2⟩=>⟨x::xs,H2,I2,.cons r1 r2,q2⟩
def Ij(t:TA):TE:=λσ H Q=>t σ H λxs H1=>xs.length<=sizeLine/\∀p,H1 p=none->Q (.ref p) (upd H1 p (.tup xs))
def Ax(t:TA):TE:=λσ H Q=>t σ H λxs H1=>xs.length<=sizeLine/\∀p,H1 p=none->Q (.ref p) (upd H1 p (.lst xs))
theorem wZ{x1}(h:PA X es t):PE X (.Tuple es x1 pos) (Ij t):=by
 refine⟨λpins s σ H Q I hq=>?_⟩
 refine wpAny_Tuple_spliced (aR (h pos pins s σ H _ I hq) λus s1 ⟨xs,H1,I1,r,z,q⟩=>⟨by rw[<-r.length]; exact z,?_⟩)
 have hf:H1 s1.heap.objs.size=none:=I1.hok.fresh (Nat.le_refl _)
 refine⟨.ref s1.heap.objs.size,upd H1 s1.heap.objs.size (.tup xs),I1.laid (t':=s1.toks) (λb u e=>Heap.get?_push_of_some _ e) (Nat.le_refl _) ?_,rfl,q _ hf⟩
 exact⟨z,us,r,⟨_,Heap.get?_push_size _ rfl,rfl,_,rfl⟩⟩
theorem w6(h:PA X es t):PE X (.List es pos) (Ax t):=by
 refine⟨λpins s σ H Q I hq=>?_⟩
 refine wpAny_List_spliced (aR (h pos pins s σ H _ I hq) λus s1 ⟨xs,H1,I1,r,z,q⟩=>⟨by rw[<-r.length]; exact z,?_⟩)
 have hf:H1 s1.heap.objs.size=none:=I1.hok.fresh (Nat.le_refl _)
 refine⟨.ref s1.heap.objs.size,upd H1 s1.heap.objs.size (.lst xs),I1.laid (t':=s1.toks) (λb u e=>Heap.get?_push_of_some _ e) (Nat.le_refl _) ?_,rfl,q _ hf⟩
 exact⟨z,us,0,r,Heap.get?_push_size _ rfl⟩
end
abbrev Sp:=List V->Hp->VK->XK->Prop
abbrev jz:=List Env->Hp->Shared->XK->Value->Shared->Prop
structure xg(P:Program)(w:World)(K:FZ)(mg:Str->Option Value)(base:Heap)(A:Around)(outer:List Env)(s:Shared)(H:Hp):Prop where
 frames:A.frames=some outer
 mod:Mod K mg base
 bs:∀b o,base.get? b=some o->s.heap.get? b=some o/\H b=none
 pZ:base.objs.size<=s.heap.objs.size
 jZ:s.heap.FunFrames base outer
 p7:∀b∈frs outer,H b=none
 hok:d8 P w H s.heap
 bare:AllBare s.gens
def CE(outer:List Env)(P:Program)(w:World)(H:Hp)(s:Shared)(Q:VK)(u:Value)(s':Shared):Prop :=
 ∃v H',s'.os=s.os/\AllBare s'.gens/\Un (frs outer) [] H H' s.heap s'.heap/\d8 P w H' s'.heap/\RelV v u/\Q v H'
def CR(CX:jz)(outer:List Env)(P:Program)(w:World)(H:Hp)(s:Shared)(Q:VK)(E:XK)(r:Result)(s':Shared):Prop :=
 match r with
 |.ok (.ret u)=>CE outer P w H s Q u s'
 |.ok _=>False
 |.error e=>CX outer H s E e s'
structure jN(P:Program)(w:World)(K:FZ)(mg:Str->Option Value)(base:Heap)(CX:jz)(k:Nat)(f:Addr)(fd:FuncData)(ps:List Str)(sp:Sp):Prop where
 len:∀vs H Q E,sp vs H Q E->vs.length=ps.length
 run:∀(A:Around) (outer:List Env) (s:Shared) (H:Hp) (args:Args) (us:List Value) (vs:List V) (Q:VK) (E:XK),fC k A->xg P w K mg base A outer s H->BindsTo s fd args (ps.zip us)->Vals vs us->sp vs H Q E ->
  codeAny (model P w) A (.call (.ref f) args) (CR CX outer P w H s Q E) s
theorem jN.mono{P:Program}{w:World}{K:FZ}{mg:Str->Option Value}{base:Heap}{CX:jz}{j k:Nat}{f:Addr}{fd:FuncData}{ps:List Str}{sp:Sp}(F:jN P w K mg base CX j f fd ps sp)(h:j<=k) :
  jN P w K mg base CX k f fd ps sp:=⟨F.len,λA outer s H args us vs Q E hr=>F.run A outer s H args us vs Q E (hr.mono h)⟩
theorem jN.imp{P:Program}{w:World}{K:FZ}{mg:Str->Option Value}{base:Heap}{CX:jz}{k:Nat}{f:Addr}{fd:FuncData}{ps:List Str}{sp Ik:Sp}(F:jN P w K mg base CX k f fd ps sp)
  (h:∀vs H Q E,Ik vs H Q E->sp vs H Q E):jN P w K mg base CX k f fd ps Ik :=
 ⟨λvs H Q E q=>F.len vs H Q E (h _ _ _ _ q),λA outer s H args us vs Q E hr he hb hv hs=>F.run A outer s H args us vs Q E hr he hb hv (h _ _ _ _ hs)⟩
section
variable {X:Cx}{pins:List (Addr × Obj)}{σ : St}{H:Hp}{s s':Shared}
theorem Inv.env0(I:Inv X pins σ H s):xg X.prog X.w X.K X.mg X.base X.A X.stack s H :=
 ⟨I.ok.frames,I.ok.mod,I.bs,Nat.le_trans I.ok.pZ I.sz,I.stack,I.Ac,I.hok,I.bare⟩
theorem Inv.after{Q:VK}{u:Value}(I:Inv X pins σ H s)(h:CE X.stack X.prog X.w H s Q u s'):EP X pins σ Q u s':=by
 obtain⟨v,H',os,bare,un,hok,r,q⟩:=h
 obtain⟨hh,g,d,t,os'⟩:=s'
 obtain rfl:os'=s.os:=os
 exact⟨v,H',I.call (h':=hh) (g':=g) (d':=d) (t':=t) (ch:=[]) un hok bare (λb z=>absurd z (by simp)),r,q⟩
end
def jO(sp:Sp)(oK:List V)(E:XK)(t:TA):TE:=λσ H Q=>t σ H λvs H1=>sp (vs++oK) H1 Q E
def Binds(K:FZ)(fd:FuncData)(ps:List Str)(ds:List Value):Prop :=
 ∀(s:Shared) (us:List Value),K.In s.heap->(us++ds).length=ps.length->BindsTo s fd ⟨us,[]⟩ (ps.zip (us++ds))
theorem Binds.all{K:FZ}{fd:FuncData}{ps:List Str}(h:∀us:List Value,us.length=ps.length->bindArgs fd ⟨us,[]⟩=pure (ps.zip us)):Binds K fd ps []:=λs us _ hl=>by
 rw[List.append_nil]at hl ⊢
 exact .of_eq (h us hl)
def Passes(CX:jz)(X:Cx)(E:XK):Prop:=∀(pins:List (Addr × Obj)) (σ : St) (H:Hp) (s:Shared) (e:Value) (s':Shared),Inv X pins σ H s->CX X.stack H s E e s'->X.xe e s'
section
variable {X:Cx}{CX:jz}{k:Nat}{f C:Addr}{fd:FuncData}{ps:List Str}{sp:Sp}{oK:List V}{ds:List Value}{E:XK}{x m:Str}{p pos apos:Pos}{e o:Expr}{es:List Expr}{ta:TE}{t:TA}
theorem Q7{pins:List (Addr × Obj)}{σ : St}{H:Hp}{s:Shared}{Q:VK}{us:List Value}{vs:List V}(F:jN X.prog X.w X.K X.mg X.base CX k f fd ps sp)(hr:fC k X.A)(hb:Binds X.K fd ps ds)(hd:Vals oK ds)(hx:Passes CX X E)
  (I:Inv X pins σ H s) (r:Vals vs us) (h:sp (vs++oK) H Q E):wpAny (model X.prog X.w) X.A (call (.ref f) us) (EP X pins σ Q) X.xe s:=by
 have r2:Vals (vs++oK) (us++ds):=r.append hd
 have hl:(us++ds).length=ps.length:=by rw[<-r2.length]; exact F.len _ _ _ _ h
 refine wpAny_call (codeAny_mono (F.run X.A X.stack s H ⟨us,[]⟩ (us++ds) (vs++oK) Q E hr I.env0 (hb s us I.jy hl) r2 h) λr s' hq=>?_)
 cases r with
 |error e=>exact hx pins σ H s e s' I hq
 |ok fl =>
  cases fl with
  |ret u=>exact I.after hq
  |next=>exact False.elim hq
  |brk=>exact False.elim hq
  |cont=>exact False.elim hq
theorem Q8(F:jN X.prog X.w X.K X.mg X.base CX k f fd ps sp)(hr:fC k X.A)(hg:Gl X x)(hm:X.mg x=some (.ref f))(hk:PySem.W.keepIn X.K (.ref f)=true)(hb:Binds X.K fd ps ds)(hd:Vals oK ds)(hx:Passes CX X E)
  (ha:PA X (e::es) t) (hdb:(x == ("__debug__" : Str))=false:=by decide) (he:starEach (e::es) X.env=(false,eval e X.env)::starEach es X.env:=by rfl) (hpl:(backTo pos (starEach es X.env)).any (·.1)=false:=by rfl) :
  PE X (.Call (.Name x p) (e::es) [] pos) (jO sp oK E t):=by
 refine⟨λpins s σ H Q I h=>?_⟩
 refine wpAny_Call_Name_kw (Ad I hg hm ?_ hdb)
 refine PySem.W.callWith_K (h₀ := X.base) I.ok.mod.Ab hk (aR (ha pos pins s σ H _ I h) λus s1 ⟨vs,H1,I1,r,q⟩=>⟨I1.jy,?_⟩) he hpl
 exact Q7 F hr hb hd hx I1 r q
end
section
variable {X:Cx}{CX:jz}{k:Nat}{f C:Addr}{fd:FuncData}{ps ks:List Str}{sp:Sp}{E:XK}{x m:Str}{p pos apos kpos:Pos}{e o:Expr}{es:List Expr}{kws:List Keyword}{te ta:TE}{t tk:TA}{nm:Option Str}
variable {g:List Value->List Value->List Value}{gV:List V->List V->List V}
end
structure oM(N P:List Str)(sc:Scope):Prop where
 kind:sc.kind=.function
 co:sc.isCoroutine=false
 gen:sc.isGenerator=false
 nd:N.Nodup
 pre:N.take P.length=P
 par:∀x∈P,sc.names.lookup x=some .local\/sc.names.lookup x=some .cell
 Ay:∀y∈sc.names,y.2 ≠ .free
theorem Il{kindOf:Str->Option NameKind}{x:Str}:∀{binds:List (Str × Value)} {m:Str->Option Value},(∀v,(x,v)∉binds)->bindL kindOf binds m x=m x
 | [],_,_=>rfl
 |(n,v)::r,m,h=>by
  unfold bindL
  rw[Il λw hw=>h w (List.mem_cons_of_mem _ hw)]
  split
  ·have:x≠n:=by rintro rfl; exact h v List.mem_cons_self
   simp[this]
  ·rfl
theorem Im{kindOf:Str->Option NameKind}{x:Str}:∀{binds:List (Str × Value)} {m:Str->Option Value},(∀v,(x,v)∉binds)->bindC kindOf binds m x=m x
 | [],_,_=>rfl
 |(n,v)::r,m,h=>by
  unfold bindC
  rw[Im λw hw=>h w (List.mem_cons_of_mem _ hw)]
  split
  ·rfl
  ·have:x≠n:=by rintro rfl; exact h v List.mem_cons_self
   simp[this]
theorem Io{kindOf:Str->Option NameKind}{x:Str}{v:Value}:∀{P:List Str} {vs:List Value} {i:Nat} {m:Str->Option Value},P.Nodup->P[i]?=some x->vs[i]?=some v->kindOf x=some .local ->
  bindL kindOf (P.zip vs) m x=some v
 | [],_,_,_,_,h,_,_=>by simp at h
 |_::_,[],_,_,_,_,h,_=>by simp at h
 |p::P,w::vs,0,m,nd,h1,h2,hk=>by
  simp at h1 h2; subst h1; subst h2
  show bindL kindOf ((p,w)::P.zip vs) m p=_
  unfold bindL
  rw[Il λv hv=>(List.nodup_cons.mp nd).1 (List.of_mem_zip hv).1,if_pos hk]
  simp
 |p::P,w::vs,i+1,m,nd,h1,h2,hk=>by
  show bindL kindOf ((p,w)::P.zip vs) m x=_
  unfold bindL
  exact Io (i:=i) (List.nodup_cons.mp nd).2 (by simpa using h1) (by simpa using h2) hk
theorem Ip{kindOf:Str->Option NameKind}{x:Str}{v:Value}:∀{P:List Str} {vs:List Value} {i:Nat} {m:Str->Option Value},P.Nodup->P[i]?=some x->vs[i]?=some v->kindOf x≠some .local ->
  bindC kindOf (P.zip vs) m x=some v
 | [],_,_,_,_,h,_,_=>by simp at h
 |_::_,[],_,_,_,_,h,_=>by simp at h
 |p::P,w::vs,0,m,nd,h1,h2,hk=>by
  simp at h1 h2; subst h1; subst h2
  show bindC kindOf ((p,w)::P.zip vs) m p=_
  unfold bindC
  rw[Im λv hv=>(List.nodup_cons.mp nd).1 (List.of_mem_zip hv).1,if_neg hk]
  simp
 |p::P,w::vs,i+1,m,nd,h1,h2,hk=>by
  show bindC kindOf ((p,w)::P.zip vs) m x=_
  unfold bindC
  exact Ip (i:=i) (List.nodup_cons.mp nd).2 (by simpa using h1) (by simpa using h2) hk
def start(N:List Str)(vs:List V):St:=vs.map some++List.replicate (N.length-vs.length) none
noncomputable def jA(CX:jz)(P:Program)(w:World)(K:FZ)(mg:Str->Option Value)(base:Heap)(N:List Str)(qual:Str)(scope:Scope)(f:Addr)(cd:Value)(A:Around)(outer:List Env)(s:Shared)(H:Hp)(E:XK):Cx where
 prog:=P
 w:=w
 K:=K
 mg:=mg
 base:=base
 A:=A.deeper (envOfC qual scope s.heap.objs.size f cd)
 N:=N
 s₀ := s
 H₀ := H
 env:=envOfC qual scope s.heap.objs.size f cd
 outer:=outer
 stack:=envOfC qual scope s.heap.objs.size f cd::outer
 ex:=[]
 calm:=true
 fn:=λ_=>true
 pn:=[]
 xe:=λe s'=>wpAny (model P w) (A.deeper (envOfC qual scope s.heap.objs.size f cd)) (leaving (envOfC qual scope s.heap.objs.size f cd) e) (λ_ s''=>CX outer H s E e s'') (λe' s''=>CX outer H s E e' s'') s'
theorem Ir{sc:Scope}{n:Nat}{x:Str}(h:sc.names.lookup x=some .cell):∃c,(cellsFrom n sc.names []).lookup x=some c:=by
 have q:=PySem.W.cellsFrom_some sc.names n [] (.inl h)
 exact Option.isSome_iff_exists.mp q
theorem Q9{CX:jz}{P:Program}{w:World}{K:FZ}{mg:Str->Option Value}{base:Heap}{N ps:List Str}{qual:Str}{scope:Scope}{f:Addr}{cd:Value}{A:Around}{outer:List Env}{s s1:Shared}{H:Hp}{E:XK}{us:List Value}{vs:List V}
  (S:oM N ps scope) (hd:A.handled=none) (e0:xg P w K mg base A outer s H) (hl:vs.length=ps.length) (r:Vals vs us)
  (x:InCallC s s.heap.objs.size (bindL (envOfC qual scope s.heap.objs.size f cd).kindOf (ps.zip us) λ_=>none) (cellsFrom (s.heap.objs.size+1) scope.names []) (bindC (envOfC qual scope s.heap.objs.size f cd).kindOf (ps.zip us) λ_=>none) s1) :
  Inv (jA CX P w K mg base N qual scope f cd A outer s H E) [] (start N vs) H s1:=by
 have hpl:ps.length<=N.length:=by have:=congrArg List.length S.pre; rw[List.length_take]at this; omega
 obtain⟨h1,tk,rfl,hk⟩:=x.done
 have uL:∀b:Addr,b∉(jA CX P w K mg base N qual scope f cd A outer s H E).ex:=λb z=>absurd (show b∈([]:List Addr)from z) (by simp)
 refine⟨⟨e0.mod,S.kind,rfl,rfl,Nat.le_refl _,λy z c h1 h2=>?_,λy hy=>?_,λy c _ h=>?_,λ_=>hd,Around.frames_deeper e0.frames,.inr ⟨rfl,rfl⟩,λb z=>absurd z (uL b),e0.bs,e0.pZ,λb _ _=>uL b,λb z=>absurd z (uL b),e0.jZ,e0.p7⟩,
  rfl,e0.bare,Un.kept hk,⟨_,x.toInCall.ns,λi y v h1 h2 h3=>?_⟩,λy c h=>⟨_,x.cell y c h⟩,e0.hok.fresh (Nat.le_refl _),λy c h=>?_,λp hp=>absurd (show p∈([]:List (Addr × Obj))from hp) (by simp),e0.hok.kept hk,?_⟩
 ·exact name_of_addr x.apart (PySem.mem_of_lookup h1) (PySem.mem_of_lookup h2)
 ·have hy:scope.names.lookup y=some .cell\/scope.names.lookup y=some .free:=hy
  rcases hy with hy|hy
  ·exact Ir hy
  ·exact absurd rfl (S.Ay _ (PySem.mem_of_lookup hy))
 ·exact Nat.le_of_lt (x.above y c (PySem.mem_of_lookup h))
 ·have hi:i<vs.length:=by
   unfold start at h2
   by_cases hi:i<vs.length
   ·exact hi
   ·rw[List.getElem?_append_right (by simpa using hi)]at h2
    rw[List.getElem?_replicate]at h2
    split at h2 <;> cases h2
  have ha:vs[i]?=some v:=by
   unfold start at h2
   rw[List.getElem?_append_left (by simpa using hi),List.getElem?_map]at h2
   cases e:vs[i]? with
   |none=>rw[e]at h2; cases h2
   |some a=>rw[e]at h2; cases h2; rfl
  obtain⟨u,hu,rv⟩:=r.get ha
  have hp:ps[i]?=some y:=by
   rw[<-S.pre,List.getElem?_take_of_lt (by omega)]; exact h1
  have Iu:ps.Nodup:=by rw[<-S.pre]; exact S.nd.sublist (List.take_sublist _ _)
  refine⟨u,rv,?_⟩
  rcases S.par y (List.mem_of_getElem? hp)with k|k
  ·exact .inl ⟨k,Io Iu hp hu k⟩
  ·obtain⟨c,e⟩:=Ir (n:=s.heap.objs.size+1) k
   refine .inr ⟨.inl k,c,e,?_⟩
   have q:=x.cell y c e
   rw[Ip Iu hp hu (by show scope.names.lookup y≠_; rw[k]; decide)]at q
   exact q
 ·exact e0.hok.fresh (Nat.le_of_lt (x.above y c (PySem.mem_of_lookup h)))
 ·unfold start
  show _=N.length
  rw[List.length_append,List.length_map,List.length_replicate]
  omega
theorem Ra{CX:jz}{P:Program}{w:World}{K:FZ}{mg:Str->Option Value}{base:Heap}{k:Nat}{f:Addr}{name qual:Str}{params:Arguments}{body:List Stmt}{scope:Scope}{dV kV doc pm cdv ct oc:Value}{an od:Option Addr}
  {osl:Array (Option Value)} {N ps:List Str} {sp:Sp} (lk:K.lookup f=some ⟨oc,od,.func (PySem.W.fnOf name qual params body scope dV kV doc pm an cdv ct),osl⟩) (hcd:PySem.W.codeIn K cdv qual=true) (S:oM N ps scope)
  (len:∀vs H Q E,sp vs H Q E->vs.length=ps.length)
  (hbody:∀(A:Around) (outer:List Env) (s:Shared) (H:Hp) (vs:List V) (Q:VK) (E:XK),fC k (A.deeper (envOfC qual scope s.heap.objs.size f cdv))->sp vs H Q E ->
   ∃t,iD (jA CX P w K mg base N qual scope f cdv A outer s H E) body t/\t {nx:=λ_ H'=>Q .non H',rt:=Q } (start N vs) H) :
  jN P w K mg base CX (k+1) f (PySem.W.fnOf name qual params body scope dV kV doc pm an cdv ct) ps sp:=by
 refine⟨len,λA outer s H args us vs Q E hr e0 hb r hsp=>?_⟩
 have hl:=len _ _ _ _ hsp
 have KX:K.In s.heap:=e0.mod.Ab.keeps λb o e=>(e0.bs b o e).1
 have lim:s.heap.NoLimit:=e0.mod.nolimit.keeps λb o e=>(e0.bs b o e).1
 have hkind:∀y∈ps.zip us,scope.names.lookup y.1=some .local\/(scope.names.lookup y.1=some .cell/\((cellsFrom (s.heap.objs.size+1) scope.names []).lookup y.1).isSome=true):=λ⟨n,v⟩ hy=>by
  rcases S.par n (List.of_mem_zip hy).1 with q|q
  ·exact .inl q
  ·exact .inr ⟨q,PySem.W.cellsFrom_some _ _ _ (.inl q)⟩
 refine codeAny_call_function hr.depth (KX _ _ lk) rfl S.co S.gen rfl (PySem.W.codeRec_of KX hcd) (hb _ _ _ _ ?_)
 refine wpAny_newFunctionEnv_cells S.kind hkind λenv he s1 x=>?_
 subst he
 refine⟨lim.keeps x.toInCall.keep,codeAny_func ?_⟩
 obtain⟨t,ht,hq⟩:=hbody A outer s H vs Q E (hr.deeper _) hsp
 have I:Inv (jA CX P w K mg base N qual scope f cdv A outer s H E) [] (start N vs) H s1:=Q9 S hr.hd e0 hl r x
 refine wpAny_mono (ht [] s1 (start N vs) H _ I hq) (λfl s' hs=>?_) λe s' hs=>hs
 have fin:∀{σ':St} {H':Hp} {v:V} {u:Value},Inv (jA CX P w K mg base N qual scope f cdv A outer s H E) [] σ' H' s'->RelV v u->Q v H'->CE outer P w H s Q u s' :=
  λ{σ' H' v u} J rv q=>⟨v,H',J.os,J.bare,J.base,J.hok,rv,q⟩
 cases fl with
 |ret u =>
  obtain⟨v,σ',H',J,rv,q⟩:=hs
  exact fin J rv q
 |next =>
  obtain⟨σ',H',J,q⟩:=hs
  exact fin (v:=V.non) (u:=Value.none) J rfl q
 |brk =>
  obtain⟨_,_,_,q⟩:=hs
  exact False.elim q
 |cont =>
  obtain⟨_,_,_,q⟩:=hs
  exact False.elim q
end L2
namespace L2
open PySem PySem.Spec PyProof.Rows
section
variable {X:Cx}{x:Str}{p pos:Pos}{e:Expr}{es:List Expr}{t:TA}{id T:String}{r:List V->Hp->VK->Prop}
def iH(r:List V->Hp->VK->Prop)(t:TA):TE:=λσ H Q=>t σ H λvs H1=>r vs H1 Q
theorem Iv(hc:fZ X (.builtin id) r)(hg:Gl X x)(hm:X.mg x=none)(hv:bootBuiltins x=some (.builtin id))(ha:PA X (e::es) t)(hn:x ≠ "__name__" := by decide) (hdb:(x == ("__debug__" : Str))=false:=by decide)
  (he:starEach (e::es) X.env=(false,eval e X.env)::starEach es X.env:=by rfl) (hpl:(backTo pos (starEach es X.env)).any (·.1)=false:=by rfl):PE X (.Call (.Name x p) (e::es) [] pos) (iH r t):=by
 refine⟨λpins s σ H Q I h=>?_⟩
 refine wpAny_Call_Name_kw (uo I hg hm hv ?_ hn hdb)
 exact PyProof.Rows.callWith_builtin1 (aR (ha pos pins s σ H _ I h) λus s1 ⟨vs,H1,I1,r1,q1⟩=>hc pins s1 σ H1 vs us Q I1 r1 q1) he hpl
theorem Rf(hc:fZ X (.type T) r)(hg:Gl X x)(hm:X.mg x=none)(hv:bootBuiltins x=some (.type T))(ha:PA X (e::es) t)(hn:x ≠ "__name__" := by decide) (hdb:(x == ("__debug__" : Str))=false:=by decide)
  (he:starEach (e::es) X.env=(false,eval e X.env)::starEach es X.env:=by rfl) (hpl:(backTo pos (starEach es X.env)).any (·.1)=false:=by rfl):PE X (.Call (.Name x p) (e::es) [] pos) (iH r t):=by
 refine⟨λpins s σ H Q I h=>?_⟩
 refine wpAny_Call_Name_kw (uo I hg hm hv ?_ hn hdb)
 exact PyProof.Rows.callWith_type1 (aR (ha pos pins s σ H _ I h) λus s1 ⟨vs,H1,I1,r1,q1⟩=>hc pins s1 σ H1 vs us Q I1 r1 q1) he hpl
end
end L2
namespace HT
open PySem PyProof.Rows
def lexLt:List Int->List Int->Bool
 | [],[]=>false
 | [],_::_=>true
 |_::_,[]=>false
 |x::xs,y::ys=>if x=y then lexLt xs ys else decide (x<y)
theorem Rg(x y:Int)(xs ys:List Int):lexLt (x::xs) (y::ys)=if x=y then lexLt xs ys else decide (x<y):=rfl
theorem Rh:lexLt [] []=false:=rfl
theorem Ri(y:Int)(ys:List Int):lexLt [] (y::ys)=true:=rfl
theorem Rj(x:Int)(xs:List Int):lexLt (x::xs) []=false:=rfl
theorem Rk(A:Around)(s:Shared)(a:Int)(t:Tok)(c:Int)(u:Tok):∃e,SeqAt.EqAt A s (.int a t) (.int c u) e/\(e=true↔a=c) :=
 ⟨(a == c),SeqAt.EqAt.int_int a t c u,by simp⟩
theorem Rm(A:Around)(s:Shared)(a:Int)(t:Tok)(c:Int)(u:Tok)(prog:Program)(w:World)(E:Value->Shared->Prop)(Q:Value->Shared->Prop)(h:Q (.bool (decide (a<c))) s) :
  wpAny (model prog w) A (richCompare .Lt (.int a t) (.int c u)) Q E s :=
 (PyProof.Rows.lt_int h:wpAny (model prog w) A (compareOp .Lt (.int a t) (.int c u)) Q E s)
section
open PySem.SeqAt
open PySem.AutoSeq1 (wpAny_loadPart')
open PySem.MeetsSeq PySem.MeetsSeq2 PySem.MeetsSeq3
theorem Rn(l b:Addr)(items items2:Array Value)(n n2:Nat)(dd dd2:Option Addr)(sl sl2:Array (Option Value))(ns ms:List Int)(hi:IntsAre items.toList ns)(hj:IntsAre items2.toList ms) :
  Meets (Builtin.«tuple.__lt__» ⟨[.ref l,.ref b],[]⟩)
   (λ_ R s=>s.heap.get? l=some {cls:=.type "tuple",dict:=dd,data:=.seq items n,slots:=sl }∧s.heap.get? b=some {cls:=.type "tuple",dict:=dd2,data:=.seq items2 n2,slots:=sl2 } ∧
    R (.ok (.ret (.bool (lexLt ns ms)))) s) :=
 .of_wp λprog w A R s h=>by
  obtain⟨hp,g,d,tk,os⟩:=s; obtain⟨hl,hb,h⟩:=h
  have f2:=AutoSeq1.sub_tuple_tuple
  have z1:items.size=ns.length:=by rw[<-hi.length]; simp
  have z2:items2.size=ms.length:=by rw[<-hj.length]; simp
  wp_walk using wpAny_loadPart' hl,wpAny_loadPart' hb,wpAny_forIn_list _ (λrest b s'=>b.1=none/\s'=⟨hp,g,d,tk,os⟩/\∃(vs ws:List Value) (ns' rK:List Int),rest=vs.zip ws /\
   IntsAre vs ns'/\IntsAre ws rK/\ns'.length+items2.size=rK.length+items.size/\R (.ok (.ret (.bool (lexLt ns' rK)))) ⟨hp,g,d,tk,os⟩) _
  case turn =>
   rintro⟨y,x⟩ rest b s' ⟨hb',rfl,vs,ws,ns',rK,hz,Az,hwi,hlen,hR⟩
   cases Az with
   |nil=>rw[List.zip_nil_left]at hz; cases hz
   |cons a t Ro =>
    cases hwi with
    |nil=>rw[List.zip_nil_right]at hz; cases hz
    |cons c u Rq =>
     rw[List.zip_cons_cons]at hz
     injection hz with hyx hrest
     injection hyx with hy hx
     subst hy hx
     rw[Rg]at hR
     simp only[List.length_cons]at hlen
     obtain⟨e,he,hiff⟩:=Rk A.in1 ⟨hp,g,d,tk,os⟩ a t c u
     refine wpAny_bind (he prog w _ _ ?_)
     cases e with
     |true =>
      rw[if_pos (hiff.mp rfl)]at hR
      wp_walk
      exact⟨rfl,rfl,_,_,_,_,hrest,Ro,Rq,by omega,hR⟩
     |false =>
      rw[if_neg (λq=>absurd (hiff.mpr q) Bool.false_ne_true)]at hR
      have Rr:=Rm A.in1 ⟨hp,g,d,tk,os⟩ a t c u prog w
      wp_walk using Rr
      exact⟨_,rfl,by simpa using hR⟩
  case fin =>
   rintro⟨b1,b2⟩ s' ⟨hb',rfl,vs,ws,ns',rK,hz,Az,hwi,hlen,hR⟩
   simp only at hb'
   subst hb'
   have hv:lexLt ns' rK=decide (items.size<items2.size):=by
    cases Az with
    |nil =>
     cases hwi with
     |nil =>
      simp only[List.length_nil]at hlen
      rw[Rh]
      exact(decide_eq_false (by omega)).symm
     |cons c u hw =>
      simp only[List.length_nil,List.length_cons]at hlen
      rw[Ri]
      exact(decide_eq_true (by omega)).symm
    |cons a t hv =>
     cases hwi with
     |nil =>
      simp only[List.length_nil,List.length_cons]at hlen
      rw[Rj]
      exact(decide_eq_false (by omega)).symm
     |cons c u hw =>
      rw[List.zip_cons_cons]at hz
      cases hz
   rw[hv]at hR
   wp_walk
   exact⟨_,rfl,by simpa[Builtin.Tuple.tupleCompareSizes]using hR⟩
  case h =>
   exact⟨rfl,rfl,items.toList,items2.toList,ns,ms,rfl,hi,hj,by omega,h⟩
end
section
variable {prog:Program}{w:World}{A:Around}{E:Value->Shared->Prop}{s:Shared}
theorem Rt{l b:Addr}{items items2:Array Value}{ns ms:List Int}{Q:Value->Shared->Prop}(hl:IsTup s.heap l items)(hb:IsTup s.heap b items2)(hi:IntsAre items.toList ns)(hj:IntsAre items2.toList ms)
  (hu:A.units<cLine) (h:Q (.bool (lexLt ns ms)) s):wpAny (model prog w) A (compareOp .Lt (.ref l) (.ref b)) Q E s:=by
 obtain⟨⟨cls,dd,data,sl⟩,ho,hc,n,hd⟩:=id hl
 obtain⟨⟨cls2,dd2,data2,sl2⟩,ho2,hc2,n2,hd2⟩:=id hb
 simp only at hc hd hc2 hd2
 subst hc hd hc2 hd2
 exact richCompare_meets_room (op:=.Lt) ⟨_,ho,rfl⟩ ⟨_,ho2,rfl⟩ PySem.F.slot_tuple_lt PySem.F.entry_tuple_lt (PySem.F.args_tuple_lt_2 _ _) (Rn l b items items2 n n2 dd dd2 sl sl2 ns ms hi hj)
  ⟨ho,ho2,show Value.bool (lexLt ns ms)≠Value.notImplemented/\Q (.bool (lexLt ns ms)) s from⟨(λx=>nomatch x),h⟩⟩ hu
theorem Rw{t b:Addr}{vs ws:List Value}{Q:Value->Shared->Prop}(ht:IsTup s.heap t vs.toArray)(hb:IsTup s.heap b ws.toArray)(hv:vs≠[])
  (h1:ws=[]->Q (.ref t) s) (h2:ws≠[]->Q (.ref s.heap.objs.size) {s with heap:=s.heap.push {cls:=.type "tuple",data:=.seq (vs++ws).toArray } })
  (hsz:vs.length+ws.length<=sizeLine):wpAny (model prog w) A (binaryOp .Add (.ref t) (.ref b)) Q E s:=by
 obtain⟨⟨cls,dd,data,sl⟩,ho,hc,n,hd⟩:=id ht
 obtain⟨⟨cls2,dd2,data2,sl2⟩,ho2,hc2,n2,hd2⟩:=id hb
 simp only at hc hd hc2 hd2
 subst hc hd hc2 hd2
 have e:vs.toArray++ws.toArray=(vs++ws).toArray:=by simp
 by_cases hw:ws=[]
 ·exact concat_meets ⟨_,ho,rfl⟩ ⟨_,ho2,rfl⟩ noFill_tuple_add seq_tuple_add PySem.F.slot_tuple_add PySem.F.entry_tuple_add (PySem.F.args_tuple_add_2 _ _)
   (tuple_addW1 t b vs.toArray ws.toArray n n2 dd dd2 sl sl2 (by simpa using hv) (by simp[hw])) ⟨ho,ho2,h1 hw⟩
 ·refine concat_meets ⟨_,ho,rfl⟩ ⟨_,ho2,rfl⟩ noFill_tuple_add seq_tuple_add PySem.F.slot_tuple_add PySem.F.entry_tuple_add (PySem.F.args_tuple_add_2 _ _)
   (tuple_addW2 t b vs.toArray ws.toArray n n2 dd dd2 sl sl2 (by simpa using hv) (by simpa using hw) (by rw[List.size_toArray,List.size_toArray]; exact hsz)) ⟨ho,ho2,?_⟩
  rw[e]
  exact h2 hw
def bL(n d:Nat):Option Int->Nat
 |none=>d
 |some v=>if v<0 then(v+(n:Int)).toNat else min v.toNat n
theorem Ry(n d:Nat)(hd:d<=n)(o:Option Int):bL n d o<=n:=by
 cases o with
 |none=>exact hd
 |some v =>
  show(if v<0 then(v+(n:Int)).toNat else min v.toNat n)<=n
  by_cases hv:v<0
  ·rw[if_pos hv]; omega
  ·rw[if_neg hv]; exact Nat.min_le_right _ _
theorem Iw(v:Int)(n d:Nat):(if v<0 then max (v+(n:Int)) 0 else min v (n:Int))=((bL n d (some v):Nat):Int):=by
 show(if v<0 then max (v+(n:Int)) 0 else min v (n:Int))=(((if v<0 then(v+(n:Int)).toNat else min v.toNat n):Nat):Int)
 by_cases hv:v<0
 ·simp only[if_pos hv]; omega
 ·simp only[if_neg hv]; omega
theorem Rz(lo hi:Option Int)(n:Nat):Builtin.Slice.sliceAdjust lo hi 1 (n:Int)=(((bL n 0 lo:Nat):Int),((bL n n hi:Nat):Int)):=by
 have h1:¬((1:Int)<0):=by omega
 unfold Builtin.Slice.sliceAdjust
 simp only[h1,if_false]
 refine Prod.ext ?_ ?_
 ·cases lo with
  |none=>rfl
  |some v=>exact Iw v n 0
 ·cases hi with
  |none=>rfl
  |some v=>exact Iw v n n
theorem RB(i j:Nat):Builtin.Slice.slicePlaces (i:Int) (j:Int) 1=j-i:=by
 unfold Builtin.Slice.slicePlaces
 have h1:(1:Int) > 0:=by omega
 simp only[h1,if_true,Int.ediv_one]
 split <;> omega
theorem Iz{v:Value}{o:Option Int}{Q:Option Int->Shared->Prop}(p:IsPart v o)(h:Q o s):wpAny (model prog w) A (Builtin.Slice.slicePartIndex v) Q E s:=by
 cases p with
 |none=>exact slicePart_none h
 |int i t=>exact slicePart_int h
theorem RD{sl:Addr}{vl vu:Value}{lo hi:Option Int}{n:Nat}{Q:Int × Int × Nat->Shared->Prop}(hs:s.heap.IsSliceOf sl vl vu .none)(pl:IsPart vl lo)(pu:IsPart vu hi)
  (h:Q (((bL n 0 lo:Nat):Int),1,bL n n hi-bL n 0 lo) s):wpAny (model prog w) A (Builtin.Slice.sliceApplied (.ref sl) (pure (n:Int))) Q E s:=by
 obtain⟨os,hos,hcs,hds⟩:=id hs
 unfold Builtin.Slice.sliceApplied Builtin.Slice.sliceFields
 refine wpAny_bind (wpAny_bind (wpAny_field hos hds (x:=vl) rfl (wpAny_bind (wpAny_field hos hds (x:=vu) rfl (wpAny_bind (wpAny_field hos hds (x:=.none) rfl (wpAny_pure ?_)))))))
 refine wpAny_bind (slicePart_none ?_)
 show wpAny _ _ (if((1:Int) == 0)=true then _ else _) _ _ s
 rw[if_neg (by decide)]
 refine wpAny_bind (Iz pl (wpAny_bind (Iz pu (wpAny_bind (wpAny_pure ?_)))))
 show wpAny _ _ (match Builtin.Slice.sliceAdjust lo hi 1 (n:Int)with|(lo,hi)=>pure (lo,(1:Int),Builtin.Slice.slicePlaces lo hi 1)) _ _ s
 rw[Rz lo hi n]
 show wpAny _ _ (pure (((bL n 0 lo:Nat):Int),(1:Int),Builtin.Slice.slicePlaces ((bL n 0 lo:Nat):Int) ((bL n n hi:Nat):Int) 1)) _ _ s
 rw[RB]
 exact wpAny_pure h
theorem RG(xs:Array Value)(i k:Nat):((List.range k).filterMap λ(m:Nat)=>xs[((i:Int)+(m:Int)*1).toNat]?).toArray=((xs.toList.drop i).take k).toArray:=by
 have e:(λ(m:Nat)=>xs[((i:Int)+(m:Int)*1).toNat]?)=λm=>xs[i+m]? := by
  funext m
  have:((i:Int)+(m:Int)*1).toNat=i+m:=by omega
  rw[this]
 rw[e]
 have:=pick_run xs i k
 rw[List.filterMap_map]at this
 have e2:((λx=>xs[x]?) ∘ λx=>i+x)=λm=>xs[i+m]? := rfl
 rw[e2]at this
 rw[this]
theorem RJ{t sl:Addr}{items:Array Value}{vl vu:Value}{lo hi:Option Int}{Q:Value->Shared->Prop}(ht:IsTup s.heap t items)(hs:s.heap.IsSliceOf sl vl vu .none)(pl:IsPart vl lo)(pu:IsPart vu hi)
  (hw:¬(bL items.size 0 lo=0/\bL items.size items.size hi=items.size))
  (h:Q (.ref s.heap.objs.size) {s with heap:=s.heap.push {cls:=.type "tuple",data:=.seq ((items.toList.drop (bL items.size 0 lo)).take (bL items.size items.size hi-bL items.size 0 lo)).toArray } })
  (hsz:items.size<=sizeLine):wpAny (model prog w) A (getItem (.ref t) (.ref sl)) Q E s:=by
 have xq:sizeOk (.seq ((items.toList.drop (bL items.size 0 lo)).take (bL items.size items.size hi-bL items.size 0 lo)).toArray):=by
  show((items.toList.drop (bL items.size 0 lo)).take (bL items.size items.size hi-bL items.size 0 lo)).toArray.size<=sizeLine
  rw[List.size_toArray,List.length_take,List.length_drop,Array.length_toList]
  omega
 have hj:bL items.size items.size hi<=items.size:=Ry _ _ (Nat.le_refl _) hi
 obtain⟨os,hos,hcs,hds⟩:=id hs
 have hTs:s.TypeIs (.ref sl) "slice" := ⟨os,hos,hcs⟩
 unfold getItem
 try with_reducible refine wpAny_holding ?_
 first|refine wpAny_bind (wpAny_pure ?_)|skip
 refine wpAny_bind (wpAny_sequenceKey ht.typeIs (by decide) ?_)
 refine wpAny_bind (wpAny_callSpecial?_slot (name:=Str.ofString "__getitem__") ht.typeIs PyProof.Rows.slot_tuple_getitem
  (wpAny_call_entry PyProof.Rows.slot_tuple_getitem ht.typeIs entry_tuple_getitem ?_ (args_tuple_getitem _ _)))
 show wpAny _ _ (Builtin.Tuple.tupleItemsOf (.ref t) >>= _) _ _ s
 refine wpAny_bind (tupleItemsOf_ ht ?_)
 refine wpAny_bind (wpAny_typeOf hTs ?_)
 rw[if_pos (by decide)]
 refine wpAny_bind (RD hs pl pu ?_)
 have hno:¬((((bL items.size 0 lo:Nat):Int) == 0&&(1:Int) == 1&&(bL items.size items.size hi-bL items.size 0 lo) == items.size)=true):=by
  intro q
  rw[Bool.and_eq_true,Bool.and_eq_true]at q
  have q1:((bL items.size 0 lo:Nat):Int)=0:=eq_of_beq q.1.1
  have q2:bL items.size items.size hi-bL items.size 0 lo=items.size:=eq_of_beq q.2
  exact hw ⟨by omega,by omega⟩
 show wpAny _ _ (if(((bL items.size 0 lo:Nat):Int) == 0&&(1:Int) == 1&&(bL items.size items.size hi-bL items.size 0 lo) == items.size)=true then _ else _) _ _ s
 rw[if_neg hno,RG]
 first
  |exact wpAny_bind (m:=Builtin.Tuple.tupleExact _) (wpAny_newObj_type (wpAny_pure ⟨_,rfl,wpAny_pure h⟩) xq)
  |exact wpAny_bind (m:=Builtin.Tuple.tupleExact _) (wpAny_newObj_type (wpAny_bind (wpAny_pure (wpAny_pure ⟨_,rfl,wpAny_pure h⟩))) xq)
  |exact wpAny_bind (wpAny_bind (m:=Builtin.Tuple.tupleExact _) (wpAny_newObj_type (wpAny_pure (wpAny_pure ⟨_,rfl,wpAny_pure h⟩)) xq))
  |exact wpAny_bind (wpAny_bind (m:=Builtin.Tuple.tupleExact _) (wpAny_newObj_type (wpAny_pure ⟨_,rfl,wpAny_pure h⟩) xq))
end
end HT
namespace L2
open PySem PySem.Spec PyProof.Rows
abbrev TO:=St->Hp->(Option Int->Hp->Prop)->Prop
noncomputable def PO(X:Cx)(e:Option Expr)(t:TO):Prop :=
 ∀(pins:List (Addr × Obj)) (s:Shared) (σ : St) (H:Hp) (Q:Option Int->Hp->Prop),Inv X pins σ H s->t σ H Q ->
  wpAny (model X.prog X.w) X.A (evalPart e X.env) (λu s'=>∃o H',Inv X pins σ H' s'/\IsPart u o/\Q o H') X.xe s
def IK:TO:=λ_ H Q=>Q none H
def Ba(t:TE):TO:=λσ H Q=>t σ H λx H1=>∃i,x=.int i/\Q (some i) H1
theorem intsAre_of{ns:List Int}:∀{us:List Value},Vals (ns.map V.int) us->IntsAre us ns:=by
 induction ns with
 |nil=>intro us r; rw[List.map_nil]at r; cases r; exact .nil
 |cons n ns ih =>
  intro us r
  rw[List.map_cons]at r
  cases r with
  |cons r1 r2 =>
   obtain⟨t,e⟩:=r1
   subst e
   exact .cons n t (ih r2)
section
variable {X:Cx}{e:Expr}{te:TE}{lo hi:Option Expr}{tl th:TO}{pos p2:Pos}
theorem IV:PO X none IK:=by
 intro pins s σ H Q I h
 rw[evalPart_none]
 exact wpAny_pure ⟨none,H,I,.none,h⟩
theorem Bb(h:PE X e te):PO X (some e) (Ba te):=by
 intro pins s σ H Q I hw
 rw[evalPart_some]
 refine aR (h pins s σ H _ I hw) λu s1 ⟨x,H1,I1,r1,q1⟩=>?_
 obtain⟨i,rfl,q⟩:=q1
 obtain⟨t,rfl⟩:=r1
 exact⟨some i,H1,I1,.int i t,q⟩
noncomputable def lH(X:Cx)(r:V->Option Int->Option Int->Hp->VK->Prop):Prop :=
 ∀(pins:List (Addr × Obj)) (s:Shared) (σ : St) (H:Hp) (x:V) (v vl vu:Value) (lo hi:Option Int) (sl:Addr) (Q:VK),Inv X pins σ H s->RelV x v->s.heap.IsSliceOf sl vl vu .none->IsPart vl lo->IsPart vu hi->r x lo hi H Q ->
  ∃T id,typeLookup (.type T) "__getitem__" = pure (some (.builtin id))/\s.TypeIs v T/\wpAny (model X.prog X.w) X.A (getItem v (.ref sl)) (EP X pins σ Q) X.xe s
theorem lH.or{r r':V->Option Int->Option Int->Hp->VK->Prop}(h:lH X r)(h':lH X r'):lH X (λx lo hi H Q=>r x lo hi H Q\/r' x lo hi H Q):=by
 intro pins s σ H x v vl vu lo hi sl Q I rx hs pl pu q
 rcases q with q|q
 ·exact h pins s σ H x v vl vu lo hi sl Q I rx hs pl pu q
 ·exact h' pins s σ H x v vl vu lo hi sl Q I rx hs pl pu q
def IW(r:V->Option Int->Option Int->Hp->VK->Prop)(te:TE)(tl th:TO):TE:=λσ H Q=>te σ H λx H1=>tl σ H1 λl H2=>th σ H2 λu H3=>r x l u H3 Q
theorem Ja{r:V->Option Int->Option Int->Hp->VK->Prop}(hr:lH X r)(he:PE X e te)(hl:PO X lo tl)(hu:PO X hi th):PE X (.Subscript e (.Slice lo hi none p2) pos) (IW r te tl th):=by
 refine⟨λpins s σ H Q I h=>?_⟩
 refine Subscript_ (aR (he pins s σ H _ I h) λv s1 ⟨x,H1,I1,r1,q1⟩=>?_)
 refine wpAny_Slice (aR (hl pins s1 σ H1 _ I1 q1) λvl s2 ⟨l,H2,I2,pl,q2⟩=>aR (hu pins s2 σ H2 _ I2 q2) λvu s3 ⟨u,H3,I3,pu,q3⟩=>?_)
 rw[evalPart_none]
 refine wpAny_pure ?_
 have I4:Inv X pins σ H3 {s3 with heap:=s3.heap.push {cls:=.type "slice",data:=.fields #[vl,vu,.none] } }:=I3.kept (t':=s3.toks) λb ob q=>Heap.get?_push_of_some _ q
 obtain⟨T,id,hT,ht,hg⟩:=hr pins {s3 with heap:=s3.heap.push {cls:=.type "slice",data:=.fields #[vl,vu,.none] } } σ H3 x v vl vu l u s3.heap.objs.size Q I4 r1 (Heap.IsSliceOf.new ..) pl pu q3
 show wpAny (model X.prog X.w) X.A (subscriptTail e (.Slice lo hi none p2) v (.ref s3.heap.objs.size)) (EP X pins σ Q) X.xe {s3 with heap:=s3.heap.push {cls:=.type "slice",data:=.fields #[vl,vu,.none] } }
 exact tail_any (ops:=[.ref s3.heap.objs.size,v]) ht hT hg (by with_unfolding_all rfl)
def oN(xs:List V)(lo hi:Option Int):List V:=(xs.drop (HT.bL xs.length 0 lo)).take (HT.bL xs.length xs.length hi-HT.bL xs.length 0 lo)
theorem Jb(xs:List V)(lo hi:Option Int):(oN xs lo hi).length<=xs.length:=by
 unfold oN
 rw[List.length_take,List.length_drop]
 omega
def Jc(K:FZ):V->Option Int->Option Int->Hp->VK->Prop:=λx lo hi H Q=>∃a xs,x=.ref a/\cQ K H a xs /\
 ¬(HT.bL xs.length 0 lo=0/\HT.bL xs.length xs.length hi=xs.length)/\∀p,H p=none->Q (.ref p) (upd H p (.tup (oN xs lo hi)))
theorem RK:lH X (Jc X.K):=by
 intro pins s σ H x v vl vu lo hi sl Q I rx hs pl pu h
 obtain⟨a,xs,rfl,hx,hw,q⟩:=h
 cases rx
 obtain⟨its,r,ht,hz⟩:=I.tuple hx
 have hlen:its.toArray.size=xs.length:=by rw[List.size_toArray]; exact r.length.symm
 refine⟨"tuple",_,PyProof.Rows.slot_tuple_getitem.lookup,ht.typeIs,?_⟩
 refine HT.RJ ht hs pl pu (by rw[hlen]; exact hw) ?_ (by rw[hlen]; exact hz)
 rw[hlen]
 refine⟨.ref s.heap.objs.size,_,I.laid (t':=s.toks) (o:=.tup (oN xs lo hi)) (λb ob q=>Heap.get?_push_of_some _ q) (Nat.le_refl _) ?_,rfl,q _ (I.hok.fresh (Nat.le_refl _))⟩
 exact⟨Nat.le_trans (Jb xs lo hi) hz,_,(r.drop (HT.bL xs.length 0 lo)).take (HT.bL xs.length xs.length hi-HT.bL xs.length 0 lo),IsTup.new _ _⟩
def Jd(K:FZ):R2:=λx y H Q=>∃a b ns ms,x=.ref a/\y=.ref b/\cQ K H a (ns.map V.int)/\cQ K H b (ms.map V.int)/\Q (.bl (HT.lexLt ns ms)) H
theorem RL(hu:X.A.units<cLine):cJ X (compareOp .Lt) (Jd X.K):=by
 intro pins s σ H x y v u Q I rx ry h
 obtain⟨a,b,ns,ms,rfl,rfl,ha,hb,q⟩:=h
 cases rx
 cases ry
 obtain⟨its,r1,p1,_⟩:=I.tuple ha
 obtain⟨its2,r2,p2,_⟩:=I.tuple hb
 have i1:IntsAre its.toArray.toList ns:=intsAre_of r1
 have i2:IntsAre its2.toArray.toList ms:=intsAre_of r2
 exact HT.Rt p1 p2 i1 i2 hu ⟨.bl (HT.lexLt ns ms),H,I,rfl,q⟩
def Je(K:FZ):R2:=λx y H Q=>∃a b xs ys,x=.ref a/\y=.ref b/\cQ K H a xs/\cQ K H b ys/\xs≠[]/\xs.length+ys.length<=sizeLine /\
 (ys=[]->Q (.ref a) H)/\(ys≠[]->∀p,H p=none->Q (.ref p) (upd H p (.tup (xs++ys))))
theorem Vals.Bc{xs:List V}{us:List Value}(r:Vals xs us):us=[]↔xs=[]:=by
 cases r with
 |nil=>simp
 |cons _ _=>simp
theorem RM:cJ X (binaryOp .Add) (Je X.K):=by
 intro pins s σ H x y v u Q I rx ry h
 obtain⟨a,b,xs,ys,rfl,rfl,ha,hb,hx,hz,q1,q2⟩:=h
 cases rx
 cases ry
 obtain⟨its,r1,p1,_⟩:=I.tuple ha
 obtain⟨its2,r2,p2,_⟩:=I.tuple hb
 refine HT.Rw p1 p2 (λz=>hx (r1.Bc.mp z)) (λz=>⟨.ref a,H,I,rfl,q1 (r2.Bc.mp z)⟩) (λz=>?_) (by rw[<-r1.length,<-r2.length]; exact hz)
 refine⟨.ref s.heap.objs.size,_,I.laid (t':=s.toks) (o:=.tup (xs++ys)) (λb ob q=>Heap.get?_push_of_some _ q) (Nat.le_refl _) ?_,rfl,q2 (λw=>z (r2.Bc.mpr w)) _ (I.hok.fresh (Nat.le_refl _))⟩
 exact⟨by rw[List.length_append]; exact hz,_,r1.append r2,IsTup.new _ _⟩
end
end L2
namespace L2
open PySem PySem.Spec PyProof.Rows
def cR(n:Nat)(i:Int):Option Nat:=if 0<=i then(if i<n then some i.toNat else none)else if -(n:Int)<=i then some (i+n).toNat else none
def cB{α : Type}(xs:List α)(i:Int):Option α := (cR xs.length i).bind λj=>xs[j]?
theorem Jf{n:Nat}{i:Int}{j:Nat}(h:cR n i=some j):seqIndex? i n=some j/\j<n /\ -(n:Int)<=i/\i<n:=by
 unfold cR at h
 by_cases h0:0<=i
 ·rw[if_pos h0]at h
  by_cases h1:i<n
  ·rw[if_pos h1]at h
   have e:i.toNat=j:=Option.some.inj h
   exact⟨by rw[seqIndex_of h0 h1,e],by omega,by omega,h1⟩
  ·rw[if_neg h1]at h; cases h
 ·rw[if_neg h0]at h
  by_cases h1 : -(n:Int)<=i
  ·rw[if_pos h1]at h
   have e:(i+n).toNat=j:=Option.some.inj h
   exact⟨by rw[seqIndex_neg (by omega) h1,e],by omega,h1,by omega⟩
  ·rw[if_neg h1]at h; cases h
theorem Bd{α : Type}{xs:List α}{i:Int}{v : α}(h:cB xs i=some v):∃j,seqIndex? i xs.length=some j/\xs[j]?=some v/\j<xs.length /\ -(xs.length:Int)<=i/\i<xs.length:=by
 unfold cB at h
 cases e:cR xs.length i with
 |none=>rw[e]at h; cases h
 |some j =>
  rw[e]at h
  obtain⟨h1,h2,h3,h4⟩:=Jf e
  exact⟨j,h1,h,h2,h3,h4⟩
def Jg(b:Expr):Prop:=∀o i,subscripted b false o i=operate [o,i] (getItem o i)
noncomputable def m8(X:Cx)(r:R2):Prop :=
 ∀(value slice:Expr) (pins:List (Addr × Obj)) (s:Shared) (σ : St) (H:Hp) (x y:V) (v u:Value) (Q:VK),Inv X pins σ H s->RelV x v->RelV y u->r x y H Q ->
  subscripted slice false v u=operate [v,u] (getItem v u)->wpAny (model X.prog X.w) X.A (subscriptTail value slice v u) (EP X pins σ Q) X.xe s
noncomputable def Jh(X:Cx)(id:String)(r:V->List V->Hp->VK->Prop):Prop :=
 ∀(pins:List (Addr × Obj)) (s:Shared) (σ : St) (H:Hp) (x:V) (xs:List V) (v:Value) (us:List Value) (Q:VK),Inv X pins σ H s->RelV x v->Vals xs us->r x xs H Q ->
  wpAny (model X.prog X.w) X.A (call (.builtin id) (v::us)) (EP X pins σ Q) X.xe s
section
variable {X:Cx}{a b:Expr}{ta tb:TE}{pos:Pos}
theorem m8.or{r r':R2}(h:m8 X r)(h':m8 X r'):m8 X (λx y H Q=>r x y H Q\/r' x y H Q):=by
 intro value slice pins s σ H x y v u Q I rx ry q hs
 rcases q with q|q
 ·exact h value slice pins s σ H x y v u Q I rx ry q hs
 ·exact h' value slice pins s σ H x y v u Q I rx ry q hs
theorem Ji{r:R2}(hr:m8 X r)(ha:PE X a ta)(hb:PE X b tb)(hs:Jg b):PE X (.Subscript a b pos) (gq r ta tb):=by
 refine⟨λpins s σ H Q I h=>?_⟩
 exact Subscript_ (Ar ha hb I h λv u s2 x y H2 I2 rx ry q=>hr a b pins s2 σ H2 x y v u Q I2 rx ry q (hs _ _))
def Jj(K:FZ):R2:=λx y H Q=>∃p xs i v,x=.ref p/\y=.int i/\bG K H p xs/\cB xs i=some v/\Q v H
def Jk(K:FZ):R2:=λx y H Q=>∃p xs i v,x=.ref p/\y=.int i/\cQ K H p xs/\cB xs i=some v/\Q v H
def Jl:R2:=λx y H Q=>∃z i c,x=.str z/\y=.int i/\z.length<=sizeLine/\cB z.cps.toList i=some c/\Q (.str ⟨#[c]⟩) H
theorem RN:m8 X (Jj X.K):=by
 intro value slice pins s σ H x y v u Q I rx ry h hs
 obtain⟨p,xs,i,z,rfl,rfl,hq,he,q⟩:=h
 cases rx
 obtain⟨t,rfl⟩:=ry
 obtain⟨its,r,pl,hz⟩:=I.list hq
 obtain⟨j,h1,h2,h3,h4,h5⟩:=Bd he
 obtain⟨w,ew,qd⟩:=r.get h2
 have hl:=r.length
 have hn:=qg
 have fin:EP X pins σ Q w s:=⟨z,H,I,qd,q⟩
 by_cases h0:0<=i
 ·have hj:i.toNat=j:=by
   rw[seqIndex_of h0 h5]at h1
   exact Option.some.inj h1
  exact item_listR pl.isList h0 (by omega) (by rw[hj]; simpa using ew) fin hs
 ·have hj:(i+(its.toArray.size:Int)).toNat=j:=by
   rw[seqIndex_neg (by omega) h4]at h1
   rw[List.size_toArray,<-hl]
   exact Option.some.inj h1
  exact subscriptTail_builtinR (x:=w) pl.isList.typeIs slot_list_getitem.lookup
   (wpAny_getItem_list_neg (Q:=λr s'=>r=w/\EP X pins σ Q r s') pl.isList (by omega) (by rw[List.size_toArray] <;> omega) (by omega) (by rw[hj]; simpa using ew) ⟨rfl,fin⟩) hs
theorem RP:m8 X (Jk X.K):=by
 intro value slice pins s σ H x y v u Q I rx ry h hs
 obtain⟨p,xs,i,z,rfl,rfl,hq,he,q⟩:=h
 cases rx
 obtain⟨t,rfl⟩:=ry
 obtain⟨its,r,pl,hz⟩:=I.tuple hq
 obtain⟨j,h1,h2,h3,h4,h5⟩:=Bd he
 obtain⟨w,ew,qd⟩:=r.get h2
 have hl:=r.length
 have hn:=qg
 have fin:EP X pins σ Q w s:=⟨z,H,I,qd,q⟩
 exact subscriptTail_builtinR (x:=w) pl.typeIs slot_tuple_getitem.lookup
  (getItem_tuple (j:=j) (Q:=λr s'=>r=w/\EP X pins σ Q r s') pl (by omega) (by omega) (by rw[List.size_toArray,<-hl]; exact h1) (by simpa using ew) ⟨rfl,fin⟩) hs
theorem RQ:m8 X Jl:=by
 intro value slice pins s σ H x y v u Q I rx ry h hs
 obtain⟨z,i,c,rfl,rfl,hz,he,q⟩:=h
 obtain⟨t,rfl⟩:=rx
 obtain⟨t',rfl⟩:=ry
 obtain⟨j,h1,h2,h3,h4,h5⟩:=Bd he
 have hl:z.cps.toList.length=z.length:=by simp[Str.length]
 rw[hl]at h1 h4 h5
 have hn:=qg
 exact tail_any (typeIs_str s z t) slot_str_getitem.lookup (getItem_str (c:=c) (by
  have e1:decide (i < -(2 ^ 63:Int))=false:=decide_eq_false (by omega)
  have e2:decide (i >= 2 ^ 63)=false:=decide_eq_false (by omega)
  rw[e1,e2,Bool.or_false]) (by rw[h1]; simpa using h2) ⟨.str ⟨#[c]⟩,H,I.tok _,⟨_,rfl⟩,q⟩) hs
def uM(K:FZ):R2:=λx y H Q=>Jj K x y H Q\/Jk K x y H Q\/Jl x y H Q
theorem Jm:m8 X (uM X.K):=RN.or (RP.or RQ)
theorem RT(its:List Value)(n j:Nat)(u:Value):Obj.mapSeq (·.setIfInBounds j u) {cls:=.type "list",data:=.seq its.toArray n }={cls:=.type "list",data:=.seq (its.set j u).toArray n }:=by
 simp[Obj.mapSeq]
theorem Inv.lst{pins:List (Addr × Obj)}{σ : St}{H:Hp}{s:Shared}{p:Addr}{xs:List V}(I:Inv X pins σ H s)(h:H p=some (.lst xs)) :
  ∃(its:List Value) (n:Nat),Vals xs its/\s.heap.get? p=some {cls:=.type "list",data:=.seq its.toArray n }/\xs.length<=sizeLine:=by
 obtain⟨z,its,n,r,e⟩:=I.hok p _ h
 exact⟨its,n,r,e,z⟩
theorem Inv.RV{pins:List (Addr × Obj)}{σ : St}{H:Hp}{s:Shared}{p:Addr}{xs ys:List V}{its its':List Value}{n n':Nat}{f:Obj->Obj}(I:Inv X pins σ H s)(h:H p=some (.lst xs))
  (ho:s.heap.get? p=some {cls:=.type "list",data:=.seq its.toArray n }) (hf:f {cls:=.type "list",data:=.seq its.toArray n }={cls:=.type "list",data:=.seq its'.toArray n' }) (r:Vals ys its') (hz:ys.length<=sizeLine) (t:Nat) :
  Inv X pins σ (upd H p (.lst ys)) {s with heap:=s.heap.update p f,toks:=t }:=by
 have e:(s.heap.update p f).get? p=some {cls:=.type "list",data:=.seq its'.toArray n' }:=by
  rw[Heap.get?_update_self f ho (by rw[hf] <;> rfl),hf]
 refine I.write (x:=p) (e:=p) (by rw[h]; trivial) (.inl rfl) (λb u hb q=>(Heap.get?_update_other _ _ (Ne.symm hb)).trans q) ⟨_,e⟩ ?_
 exact⟨hz,its',n',r,e⟩
def Jo:V->V->V->Hp->(Hp->Prop)->Prop:=λo i v H Q=>∃p xs k j,o=.ref p/\i=.int k/\H p=some (.lst xs)/\cR xs.length k=some j/\Q (upd H p (.lst (xs.set j v)))
theorem set_list:Hv X Jo:=by
 intro pins s σ H o i v ov iv u Q I ro ri rv h
 obtain⟨p,xs,k,j,rfl,rfl,hp,hj,q⟩:=h
 cases ro
 obtain⟨t,rfl⟩:=ri
 obtain⟨its,n,r,ho,hz⟩:=I.lst hp
 obtain⟨h1,h2,h3,h4⟩:=Jf hj
 have hl:=r.length
 have hn:=qg
 have I':Inv X pins σ (upd H p (.lst (xs.set j v))) {s with heap:=s.heap.update p (Obj.mapSeq (·.setIfInBounds j u)) } :=
  I.RV hp ho (RT its n j u) (r.set rv j) (by rw[List.length_set]; exact hz) s.toks
 by_cases h0:0<=k
 ·have hk:k.toNat=j:=by
   rw[seqIndex_of h0 h4]at h1
   exact Option.some.inj h1
  exact PySem.W.ki_setAt ho h0 (by omega) (by rw[List.size_toArray,<-hl]; exact h4) (by rw[hk]; exact⟨_,I',q⟩)
 ·have hk:(k+(its.toArray.size:Int)).toNat=j:=by
   rw[seqIndex_neg (by omega) h3]at h1
   rw[List.size_toArray,<-hl]
   exact Option.some.inj h1
  exact PySem.W.ki_setBack ho (by omega) (by rw[List.size_toArray,<-hl]; exact h3) (by omega) (by rw[hk]; exact⟨_,I',q⟩)
theorem RW(lo hi:Option Int)(n:Nat):(sliceBounds lo hi none n).1=((HT.bL n 0 lo:Nat):Int)/\(sliceBounds lo hi none n).2.1=((HT.bL n n hi:Nat):Int)/\(sliceBounds lo hi none n).2.2=1:=by
 refine⟨?_,?_,rfl⟩
 ·cases lo with
  |none=>simp[sliceBounds,HT.bL]
  |some i =>
   simp only[sliceBounds,HT.bL,Option.getD_none,show(1:Int) > 0 by decide,if_true]
   by_cases h:i<0
   ·simp only[h,if_true] <;> omega
   ·simp only[h,if_false] <;> omega
 ·cases hi with
  |none=>simp[sliceBounds,HT.bL]
  |some i =>
   simp only[sliceBounds,HT.bL,Option.getD_none,show(1:Int) > 0 by decide,if_true]
   by_cases h:i<0
   ·simp only[h,if_true] <;> omega
   ·simp only[h,if_false] <;> omega
theorem RX(its:List Value)(lo hi:Option Int):slicePick its.toArray lo hi none=((its.drop (HT.bL its.length 0 lo)).take (HT.bL its.length its.length hi-HT.bL its.length 0 lo)).toArray:=by
 obtain⟨h1,h2,h3⟩:=RW lo hi its.toArray.size
 unfold slicePick
 rw[h1,h2,h3]
 simp only[sliceRange_one,pick_run,List.size_toArray] <;> rfl
def Jp(K:FZ):V->Option Int->Option Int->Hp->VK->Prop:=λx lo hi H Q=>∃a xs,x=.ref a/\bG K H a xs/\∀p,H p=none->Q (.ref p) (upd H p (.lst (oN xs lo hi)))
theorem RZ:lH X (Jp X.K):=by
 intro pins s σ H x v vl vu lo hi sl Q I rx hs pl pu h
 obtain⟨a,xs,rfl,hx,q⟩:=h
 cases rx
 obtain⟨its,r,ht,hz⟩:=I.list hx
 have hlen:=r.length
 refine⟨"list",_,slot_list_getitem.lookup,ht.isList.typeIs,?_⟩
 refine wpAny_getItem_list_slice ht.isList hs pl pu .none (by simp) ?_ (by rw[List.size_toArray] <;> omega)
 rw[RX,<-hlen]
 refine⟨.ref s.heap.objs.size,_,I.laid (t':=s.toks) (o:=.lst (oN xs lo hi)) (λb ob q=>Heap.get?_push_of_some _ q) (Nat.le_refl _) ?_,rfl,q _ (I.hok.fresh (Nat.le_refl _))⟩
 exact⟨Nat.le_trans (Jb xs lo hi) hz,_,0,(r.drop (HT.bL xs.length 0 lo)).take (HT.bL xs.length xs.length hi-HT.bL xs.length 0 lo),Heap.get?_push_size _ rfl⟩
theorem R0:fZ X (.builtin "len") (λxs H Q=>∃p ys,xs=[.ref p]/\(bG X.K H p ys\/cQ X.K H p ys)/\Q (.int ys.length) H):=by
 intro pins s σ H xs us Q I r h
 obtain⟨p,ys,rfl,hq,q⟩:=h
 obtain⟨u,rfl,rx⟩:=vals1 r
 cases rx
 have hn:=qg
 rcases hq with hq|hq
 ·obtain⟨its,r',pl,hz⟩:=I.list hq
  have hlen:=r'.length
  exact Calls.call_len_list pl.isList (by simp only[List.size_toArray] <;> omega) ⟨.int ys.length,H,I.tok _,⟨s.toks+1,by rw[List.size_toArray,hlen]⟩,q⟩
 ·obtain⟨its,r',pl,hz⟩:=I.tuple hq
  have hlen:=r'.length
  exact len_tuple pl (by simp only[List.size_toArray] <;> omega) ⟨.int ys.length,H,I.tok _,⟨s.toks+1,by rw[List.size_toArray,hlen]⟩,q⟩
theorem R3:fZ X (.builtin "len") (λxs H Q=>∃z,xs=[.str z]/\z.length<=sizeLine/\Q (.int z.length) H):=by
 intro pins s σ H xs us Q I r h
 obtain⟨z,rfl,hz,q⟩:=h
 obtain⟨u,rfl,t,rfl⟩:=vals1 r
 have hn:=qg
 exact len_str (by omega) ⟨.int z.length,H,I.tok _,⟨_,rfl⟩,q⟩
theorem fZ.or{f:Value}{r r':List V->Hp->VK->Prop}(h:fZ X f r)(h':fZ X f r'):fZ X f (λxs H Q=>r xs H Q\/r' xs H Q):=by
 intro pins s σ H xs us Q I rs q
 rcases q with q|q
 ·exact h pins s σ H xs us Q I rs q
 ·exact h' pins s σ H xs us Q I rs q
theorem Jq:fZ X (.type "list") (λxs H Q=>∃p ys,xs=[.ref p]/\(bG X.K H p ys\/cQ X.K H p ys)/\∀l,H l=none->Q (.ref l) (upd H l (.lst ys))):=by
 intro pins s σ H xs us Q I r h
 obtain⟨p,ys,rfl,hq,q⟩:=h
 obtain⟨u,rfl,rx⟩:=vals1 r
 cases rx
 have fin:∀(its:List Value),Vals ys its->ys.length<=sizeLine->∀(h':Heap) (c':Nat),(∀b o',s.heap.get? b=some o'->h'.get? b=some o') ->
   h'.get? s.heap.objs.size=some {cls:=.type "list",dict:=none,data:=.seq its.toArray c',slots:=#[] }->EP X pins σ Q (.ref s.heap.objs.size) {s with heap:=h' }:=λits r' hz h' c' kp e =>
  ⟨.ref s.heap.objs.size,_,I.laid (t':=s.toks) kp (Nat.le_refl _) (show jx X.prog X.w _ h' _ (.lst ys)from⟨hz,its,c',r',e⟩),rfl,q _ (I.hok.fresh (Nat.le_refl _))⟩
 rcases hq with hq|hq
 ·obtain⟨its,r',pl,hz⟩:=I.list hq
  have hlen:=r'.length
  obtain⟨o,ho,hc,n,hd⟩:=pl.isList
  exact call_list_seq p (.inl rfl) ho hc hd (λh' c' kp e=>fin its r' hz h' c' kp e) (by simp only[List.size_toArray] <;> omega)
 ·obtain⟨its,r',pl,hz⟩:=I.tuple hq
  have hlen:=r'.length
  obtain⟨o,ho,hc,n,hd⟩:=pl
  exact call_list_seq p (.inr rfl) ho hc hd (λh' c' kp e=>fin its r' hz h' c' kp e) (by simp only[List.size_toArray] <;> omega)
noncomputable def xr(K:FZ)(T:String)(x:V)(H:Hp):Prop:=match x with
 |.str _=>T = "str"
 |.int _=>T = "int"
 | .ref p=>(T = "list" ∧ ∃xs,bG K H p xs)∨(T = "tuple" ∧ ∃o,K.lookup p=some o∧o.cls=.type "tuple" ∧ o.dict=none) ∨
   (T = "dict" ∧ ((∃kvs,H p=some (.dK kvs))∨∃kvs,H p=some (.dT kvs)))∨(T = "set" ∧ ∃S n,H p=some (.set S n))
 |_=>False
theorem Jr{pins:List (Addr × Obj)}{σ : St}{H:Hp}{s:Shared}{T:String}{x:V}{v:Value}(I:Inv X pins σ H s)(r:RelV x v)(ty:xr X.K T x H) :
  s.TypeIs v T/\∀a,v=.ref a->∃ob,s.heap.get? a=some ob/\ob.dict=none:=by
 cases x with
 |str z =>
  obtain⟨t,rfl⟩:=r
  cases(show T = "str" from ty)
  exact⟨typeIs_str s z t,λ_ e=>nomatch e⟩
 |int i =>
  obtain⟨t,rfl⟩:=r
  cases(show T = "int" from ty)
  exact⟨typeIs_int s i t,λ_ e=>nomatch e⟩
 |ref p =>
  cases r
  rcases ty with⟨rfl,xs,hq⟩|⟨rfl,o,hk,hc,hd⟩|⟨rfl,hk⟩|⟨rfl,S,n,hk⟩
  ·obtain⟨its,_,pl,_⟩:=I.list hq
   refine⟨pl.isList.typeIs,λa e=>?_⟩
   cases e
   obtain⟨o,n,e,c,hd,_⟩:=pl
   exact⟨o,e,hd⟩
  ·refine⟨⟨o,I.jy p o hk,hc⟩,λa e=>?_⟩
   cases e
   exact⟨o,I.jy _ o hk,hd⟩
  ·have z:∃o,s.heap.get? p=some o/\o.ExactDict:=by
    rcases hk with⟨kvs,hk⟩|⟨kvs,hk⟩
    ·obtain⟨_,_,_,_,o,_,_,e,ex,_⟩:=I.hok p _ hk
     exact⟨o,e,ex⟩
    ·obtain⟨_,_,_,_,o,_,_,e,ex,_⟩:=I.hok p _ hk
     exact⟨o,e,ex⟩
   obtain⟨o,e,ex⟩:=z
   refine⟨⟨o,e,ex.1⟩,λa e2=>?_⟩
   cases e2
   exact⟨o,e,ex.2.1⟩
  ·obtain⟨o,_,_,_,e,ex,_⟩:=I.hok p _ hk
   refine⟨⟨o,e,ex.1⟩,λa e2=>?_⟩
   cases e2
   exact⟨o,e,ex.2.1⟩
 |_=>exact False.elim ty
def Js(K:FZ)(T:String)(r:V->List V->Hp->VK->Prop)(to:TE):TE:=λσ H Q=>to σ H λx H1=>xr K T x H1/\r x [] H1 Q
def ql(K:FZ)(T:String)(r:V->List V->Hp->VK->Prop)(to:TE)(t:TA):TE:=λσ H Q=>to σ H λx H1=>xr K T x H1/\t σ H1 λxs H2=>r x xs H2 Q
variable {o e:Expr}{es:List Expr}{to:TE}{t:TA}{name:Str}{apos cpos:Pos}{T id:String}{r:V->List V->Hp->VK->Prop}
theorem Jt(pa:PlainAttrs T)(slot:Slot T name id)(hty:typeOf (.builtin id)=pure (.type "method_descriptor")) (hm:Jh X id r) (ho:PE X o to)
  (hbase:attributeBase o name X.env (eval o X.env)=eval o X.env:=by rfl) (hline:(apos.endLine == cpos.line)=true:=by rfl):PE X (.Call (.Attribute o name apos) [] [] cpos) (Js X.K T r to):=by
 refine⟨λpins s σ H Q I h=>?_⟩
 refine wpAny_Call_method0_late hbase hline (aR (ho pins s σ H _ I h) λv s1 ⟨x,H1,I1,r1,ty,q1⟩=>?_)
 obtain⟨h1,h2⟩:=Jr I1 r1 ty
 exact⟨T,id,pa,slot,hty,h1,h2,Calls.callWith_builtin rfl (PySem.evalArgs_none (hm pins s1 σ H1 x [] v [] Q I1 r1 .nil q1))⟩
theorem m9(pa:PlainAttrs T)(slot:Slot T name id)(hty:typeOf (.builtin id)=pure (.type "method_descriptor")) (hm:Jh X id r) (ho:PE X o to) (ha:PA X (e::es) t)
  (hbase:attributeBase o name X.env (eval o X.env)=eval o X.env:=by rfl)
  (hfew:((backTo cpos (starEach (e::es) X.env)).all (λx=>!x.1)&&(backToKw cpos (keywordEach [] X.env)).all (λx=>x.1.isSome)
   && decide ((e::es).length+([]:List Keyword).length+(if([]:List Keyword).isEmpty then 0 else 1)<30))=true:=by rfl)
  (hline:(apos.endLine == cpos.line)=true:=by rfl) (hs:starEach (e::es) X.env=(false,eval e X.env)::starEach es X.env:=by rfl) (hplain:(backTo cpos (starEach es X.env)).any (·.1)=false:=by rfl) :
  PE X (.Call (.Attribute o name apos) (e::es) [] cpos) (ql X.K T r to t):=by
 refine⟨λpins s σ H Q I h=>?_⟩
 refine wpAny_Call_method_late hbase hfew hline rfl (aR (ho pins s σ H _ I h) λv s1 ⟨x,H1,I1,r1,ty,q1⟩=>?_)
 obtain⟨h1,h2⟩:=Jr I1 r1 ty
 refine⟨T,id,pa,slot,hty,h1,h2,?_⟩
 have hA:=ha cpos pins s1 σ H1 _ I1 q1
 rw[hs]at hA ⊢
 refine Calls.callWith_builtin (by show(false || (backTo cpos (starEach es X.env)).any (·.1))=false; rw[hplain] <;> rfl) (Calls.evalArgs_plain ?_)
 exact aR hA λus s2 ⟨vs,H2,I2,r2,q2⟩=>hm pins s2 σ H2 x vs v us Q I2 r1 r2 q2
end
end L2
namespace L2
open PySem PySem.Spec PyProof.Rows
noncomputable def rM(X:Cx)(id:String)(r:V->List V->Hp->VK->Prop):Prop :=
 ∀(pins:List (Addr × Obj)) (s:Shared) (σ : St) (H:Hp) (x:V) (xs:List V) (v:Value) (us:List Value) (Q:VK),Inv X pins σ H s->RelV x v->Vals xs us->r x xs H Q ->
  wpAny (model X.prog X.w) X.A (call (.builtin id) (v::us)) (EP X pins σ Q) X.xe s
theorem Vals.one:∀{x:V} {us:List Value},Vals [x] us->∃u,us=[u]/\RelV x u
 |_,_,.cons r .nil=>⟨_,rfl,r⟩
theorem Vals.rep{xs:List V}{us:List Value}(h:Vals xs us):∀k:Nat,Vals (List.replicate k xs).flatten (List.replicate k us).flatten
 | 0=>.nil
 |k+1=>by
  rw[List.replicate_succ,List.replicate_succ,List.flatten_cons,List.flatten_cons]
  exact Vals.append h (Vals.rep h k)
theorem foldl_rep(its:List Value):∀(k:Nat) (acc:List Value),
  List.foldl (λx1 x2=>x1++x2) acc.toArray (List.replicate k its.toArray)=(acc++(List.replicate k its).flatten).toArray
 | 0,acc=>by simp
 |k+1,acc=>by
  have e:acc.toArray++its.toArray=(acc++its).toArray:=by simp
  have e2:(acc++its)++(List.replicate k its).flatten=acc++(List.replicate (k+1) its).flatten:=by
   rw[List.replicate_succ,List.flatten_cons,List.append_assoc]
  rw[<-e2,<-foldl_rep its k (acc++its),<-e,List.replicate_succ,List.foldl_cons]
section
variable {X:Cx}{pins:List (Addr × Obj)}{σ : St}{H:Hp}{s:Shared}{l b:Addr}{xs ys zs:List V}
theorem Inv.R4{its its':List Value}{n:Nat}{f:Array Value->Array Value}{t':Nat}(I:Inv X pins σ H s)(hH:H l=some (.lst xs))
  (e:s.heap.get? l=some {cls:=.type "list",data:=.seq its.toArray n }) (hf:f its.toArray=its'.toArray) (hv:Vals ys its') (hz:ys.length<=sizeLine) :
  Inv X pins σ (upd H l (.lst ys)) {s with heap:=s.heap.update l (Obj.mapSeq f),toks:=t' }:=by
 have q:=PySem.IsL.update e f
 rw[hf]at q
 refine I.write (x:=l) (e:=l) (by rw[hH]; exact trivial) (.inl rfl) (λb' u hb hu=>(Heap.get?_update_other s.heap (Obj.mapSeq f) (Ne.symm hb)).trans hu) ⟨_,q⟩ ?_
 exact⟨hz,its',_,hv,q⟩
theorem Inv.rN{its:List Value}{t':Nat}(I:Inv X pins σ H s)(hv:Vals ys its)(hz:ys.length<=sizeLine) :
  Inv X pins σ (upd H s.heap.objs.size (.lst ys)) {s with heap:=s.heap.push {cls:=.type "list",data:=.seq its.toArray },toks:=t' } :=
 I.laid (λ_ _ q=>Heap.get?_push_of_some _ q) (Nat.le_refl _) ⟨hz,its,0,hv,Heap.get?_push_size _ rfl⟩
theorem Inv.fresh(I:Inv X pins σ H s):H s.heap.objs.size=none:=I.hok.fresh (Nat.le_refl _)
theorem Inv.R5(I:Inv X pins σ H s)(hH:H l=some (.lst xs)):xs.length<=sizeLine/\∃(its:List Value) (n:Nat),Vals xs its/\xs.length=its.length/\s.heap.get? l=some {cls:=.type "list",data:=.seq its.toArray n }:=by
 obtain⟨z,its,n,r,e⟩:=I.hok l _ hH
 exact⟨z,its,n,r,r.length,e⟩
theorem R6{n:Nat}(h:n<=sizeLine):Builtin.List.listTooLong n=false:=by
 unfold Builtin.List.listTooLong
 exact decide_eq_false (by omega)
end
section
variable {X:Cx}
def Bf:V->List V->Hp->VK->Prop:=λx vs H Q=>∃l xs y,x=.ref l/\vs=[y]/\H l=some (.lst xs)/\xs.length<sizeLine/\Q .non (upd H l (.lst (xs++[y])))
theorem Bg:rM X "list.append" Bf:=by
 intro pins s σ H x vs v us Q I rx rv h
 obtain⟨l,xs,y,rfl,rfl,hH,hz,q⟩:=h
 cases rx
 obtain⟨u,rfl,ru⟩:=rv.one
 obtain⟨z,its,n,r,hl,e⟩:=I.R5 hH
 refine call_meets F.slot_list_append ⟨_,e,rfl⟩ F.entry_list_append (F.args_list_append_2 _ _) (PySem.list_append l its.toArray n u (by rw[List.size_toArray]; omega)) ⟨e,?_⟩
 refine⟨.non,_,I.R4 (its':=its++[u]) hH e (by simp) (r.append (.cons ru .nil)) ?_,rfl,q⟩
 rw[List.length_append,List.length_singleton]
 omega
theorem len_rep{α : Type}(xs:List α)(k:Nat):(List.replicate k xs).flatten.length=k*xs.length:=by
 induction k with
 |zero=>simp
 |succ k ih=>rw[List.replicate_succ,List.flatten_cons,List.length_append,ih,Nat.succ_mul,Nat.add_comm]
end
section
variable {prog:Program}{w:World}{A:Around}{E:Value->Shared->Prop}{s:Shared}
end
section
variable {X:Cx}
end
end L2
namespace Ju
open PySem PySem.W PySem.Calls PyProof.Rows
theorem R7{P:Params}{h:Heap}:∀(ns:List Int) (vs:List Value),WellAll P h vs (ns.map WData.int)->IntsAre vs ns:=by
 intro ns
 induction ns with
 |nil =>
  intro vs w
  rw[List.map_nil]at w
  cases w
  exact .nil
 |cons n ns ih =>
  intro vs w
  rw[List.map_cons]at w
  cases w with
  |cons a b =>
   cases a
   exact .cons _ _ (ih _ b)
theorem R8{l:OpenLaw}{n:Nat}(hn:l.most=some n){P:Params}{h:Heap}{args:List WData}{vals:List Value}
  (hpre:l.row.toRowW.claim.pre args=true) (hwl:WellAll P h vals args) :
  ∃a vs ns,vals=[Value.ref a]/\args=[WData.list (ns.map WData.int)]/\h.get? a=some {cls:=.type "list",data:=.seq vs.toArray }/\IntsAre vs ns/\ns.length<=n:=by
 have hsh:WShape.hasAll [] args [.list .int]=true:=(pre_splitW hpre).1
 have hc:l.pre.holds [] {args:=args }=true:=(pre_splitW hpre).2
 obtain⟨d,r,rfl,h1,h2⟩:=hasAllW_cons hsh
 obtain rfl:=hasAllW_nil h2
 obtain⟨xs,rfl,h3⟩:=hasW_list h1
 obtain⟨ns,rfl⟩:=items_int h3
 have hlen:ns.length<=n:=by
  unfold OpenLaw.pre at hc
  have h4:(WTm.not (.lt (.lit (.int (n:Int))) (.len (.arg 0)))).holds [] {args:=[.list (ns.map .int)] }=true:=by
   have h4:=(holds_andW hc).1
   rw[hn]at h4
   exact h4
  have h5:=condW_of h4 (w_not (w_lt w_lit (w_len_list (w_arg rfl))))
  rw[List.length_map]at h5
  refine Nat.le_of_not_lt λq=>?_
  have q':(n:Int)<((ns.length:Nat):Int):=by omega
  first
   |(rw[decide_eq_true q']at h5; exact absurd h5 (by decide))
   |(simp at h5; omega)
 cases hwl with
 |cons w1 w2 =>
  cases w2
  cases w1 with
  |list ho hall=>exact⟨_,_,ns,rfl,rfl,ho,R7 ns _ hall,hlen⟩
theorem R9(l:OpenLaw)(args:List WData):l.row.toRowW.claim.post args (.bool true) args=true :=
 postW_of (r:=l.row.toRowW) (X:=(true == true))
  (show WShape.has [] (.bool true) .bool=true by first|rfl|decide|simp[WShape.has,WShape.arms,WShape.armsAll])
  (show(WTm.eq .res (.lit (.bool true))).value [] {args:=args,res:=some (.bool true),after:=args }=some (.bool (true == true))from w_eq_bool (w_res rfl) w_lit) rfl
theorem Sd{l:OpenLaw}{n:Nat}{q:Program}{loose:List Str}{XP:(Str->Option Value)->Heap->Prop}{YP:World->Heap->Prop}{d:DefRec}
  (hn:l.most=some n) (hdf:d.params.defaults=[])
  (call:∀(w:World) (s₀ s₁ : Shared) (mg mb:Str->Option Value) (fa:Addr) (o:Obj) (pm cd doc:Value) (a:Addr) (vs:List Value) (ns:List Int),
   Ground q loose [] XP w s₀ mg mb s₁.heap->YP w s₁.heap ->
   s₁.heap.get? fa=some o->o.data=.func (docDef d.name d.params d.body d.scope pm cd doc)->s₁.heap.CodeRec cd d.name->mg d.name=some (.ref fa) ->
   s₁.heap.get? a=some {cls:=.type "list",data:=.seq vs.toArray }->IntsAre vs ns->ns.length<=n->s₁.gens = #[] ->
   codeAny (model l.prog w) callerA (.call (.ref fa) ⟨[.ref a],[]⟩) (λr s'=>r=.ok (.ret (.bool true))/\OldK s₁.heap s'.heap/\s'.os=s₁.os/\AllBare s'.gens) s₁) :
  WalkO q loose XP YP l.row.toRowW d [] (λf vs=>PySem.call f vs):=by
 intro w s₀ s₁ mg mb G Y fa o pm cd doc dV kV ho hd hcd hD hmg hg args vals as hpre hlay hrd hwl hlo
 obtain rfl:dV=.none:=Dflts.none hD hdf
 obtain rfl:kV=.none:=Dflts.noKw hD
 obtain⟨a,vs,ns,rfl,rfl,hobj,hints,hlen⟩:=R8 hn hpre hwl
 refine enter_call (codeAny_mono (call w s₀ s₁ mg mb fa o pm cd doc a vs ns G Y ho (fd_plain hd) hcd hmg hobj hints hlen hg) λr s' hq=>?_)
 obtain⟨rfl,h2,h3,h4⟩:=hq
 exact⟨.inl ⟨.bool true,.bool true,[],rfl,λ_=>rfl,.bool true,R9 l _,λ_=>⟨List.Pairwise.nil,λ_ hm=>(nomatch hm)⟩⟩,h2,h3,h4⟩
section
variable {prog:Program}{w:World}{A:Around}{E:Value->Shared->Prop}{s:Shared}{K:Frag}
end
end Ju
namespace L2
open PySem PySem.Spec PyProof.Rows
theorem Jv:∀{vs:List Value} {ns:List Int},IntsAre vs ns->Vals (ns.map V.int) vs
 |_,_,.nil=>.nil
 |_,_,.cons n t h=>.cons ⟨t,rfl⟩ (Jv h)
end L2
namespace L2
open PySem PySem.Spec PyProof.Rows
end L2
namespace L2
open PySem PySem.Spec PyProof.Rows
def nq(s:Stmt):Arguments:=match s with
 |.FunctionDef _ a _ _ _ _ _ _ _ _=>a
 |_=>{posonlyargs:=[],args:=[],vararg:=none,kwonlyargs:=[],kw_defaults:=[],kwarg:=none,defaults:=[] }
def jB(s:Stmt):List Stmt:=match s with
 |.FunctionDef _ _ b _ _ _ _ _ _ _=>b
 |_=>[]
def bw(s:Stmt):Scope:=match s with
 |.FunctionDef _ _ _ _ _ _ sc _ _ _=>sc
 |_=>{kind:=.function,names:=[],isGenerator:=false,isCoroutine:=false }
abbrev E0:XK:=λ_ _ _=>False
structure rO(K:FZ)(x qual:Str)(st:Stmt)(f:Addr)(fd:FuncData):Prop where
 ex:∃(oc:Value) (od:Option Addr) (kV doc pm:Value) (an:Option Addr) (cdv ct:Value) (osl:Array (Option Value)),
  fd=PySem.W.fnOf x qual (nq st) (jB st) (bw st) .none kV doc pm an cdv ct/\K.lookup f=some ⟨oc,od,.func fd,osl⟩/\PySem.W.codeIn K cdv qual=true
 kp:PySem.W.keepIn K (.ref f)=true
section
variable {P:Program}{w:World}{K:FZ}{mg:Str->Option Value}{base:Heap}
theorem rO.binds{x qual:Str}{st:Stmt}{f:Addr}{fd:FuncData}{ps:List Str}(F:rO K x qual st f fd)
  (h:∀(kV doc pm:Value) (an:Option Addr) (cdv ct:Value) (us:List Value),us.length=ps.length->bindArgs (PySem.W.fnOf x qual (nq st) (jB st) (bw st) .none kV doc pm an cdv ct) ⟨us,[]⟩=pure (ps.zip us)):Binds K fd ps []:=by
 obtain⟨oc,od,kV,doc,pm,an,cdv,ct,osl,rfl,lk,hcd⟩:=F.ex
 exact .all (h kV doc pm an cdv ct)
theorem Sg{x qual:Str}{st:Stmt}{f:Addr}{oc:Value}{od an:Option Addr}{osl:Array (Option Value)}{kV doc pm cdv ct:Value}(l:K.lookup f=some ⟨oc,od,.func (PySem.W.fnOf x qual (nq st) (jB st) (bw st) .none kV doc pm an cdv ct),osl⟩)
  (c:PySem.W.codeIn K cdv qual=true) (k:PySem.W.keepIn K (.ref f)=true):rO K x qual st f (PySem.W.fnOf x qual (nq st) (jB st) (bw st) .none kV doc pm an cdv ct):=⟨⟨oc,od,kV,doc,pm,an,cdv,ct,osl,rfl,l,c⟩,k⟩
end
theorem Jw{n:Nat}(h:n<=1000):n<sizeLine:=Nat.lt_of_le_of_lt h (by decide)
section
variable {X:Cx}
end
def Same(H H':Hp):Prop:=∀b o,H b=some o->H' b=some o
theorem Same.refl(H:Hp):Same H H:=λ_ _ h=>h
theorem Same.trans{H H1 H2:Hp}(a:Same H H1)(b:Same H1 H2):Same H H2:=λc o h=>b c o (a c o h)
theorem Same.free{H H':Hp}(e:Same H H'){l:Addr}(h:H' l=Option.none):H l=Option.none:=by
 cases q:H l with
 |none=>rfl
 |some o =>
  rw[e l o q]at h
  cases h
theorem Same.seq{K:FZ}{H H':Hp}{a:Addr}{xs:List V}(e:Same H H')(h:bG K H a xs):bG K H' a xs:=by
 rcases h with(h|⟨o,h⟩)|h
 ·exact .inl (.inl (e _ _ h))
 ·exact .inl (.inr ⟨o,e _ _ h⟩)
 ·exact .inr h
end L2
end
section
namespace L2
open PySem PySem.Spec PyProof.Rows
section
variable {prog:Program}{w:World}{A:Around}{R:Result->Shared->Prop}{s:Shared}
theorem Sh{elt target iter:Expr}{scope:Scope}{pos:Pos}{it acc:Value}{env:Env}(I:Nat->Shared->Prop)
  (turn:∀n s,I n s->wpAny (model prog w) A (pyNext it) (λr s₁=>match r with
   |none=>R (.ok .next) s₁
   | some v=>wpAny (model prog w) A (letOwnedTupleGo target it v) (λ_ s₁'=>wpAny (model prog w) A (assign target env v) (λ_ s₂ => wpAny (model prog w) A (eval elt env) (λx s₃ =>
     wpAny (model prog w) A (call (.builtin "list.append") [acc,x]) (λ_ s₄=>∃m,m<n/\I m s₄) (λ_ _=>False) s₃) (λ_ _=>False) s₂) (λ_ _=>False) s₁') (λ_ _=>False) s₁) (λ_ _=>False) s)
  (n:Nat) (h:I n s) :
  codeAny (model prog w) A (.compLoop (.ListComp elt [⟨target,iter,[],0⟩] scope pos) 0 it acc env) R s:=by
 refine codeAny_loop rfl I (λn s hI=>?_) n h
 show wpAny _ _ ((compTurn (.ListComp elt [⟨target,iter,[],0⟩] scope pos) 0 it acc env).onRaise (λx=>do noteFrame x env; theTreesLotGoes x)) _ _ s
 refine wpAny_noted (wpAny_noRaise ?_)
 rw[compTurn_list1]
 refine wpAny_bind (wpAny_standAt (wpAny_bind (wpAny_mono (turn n s hI) (λr s₁ h₁=>?_) λ_ _ h'=>h')))
 cases r with
 |none=>exact wpAny_pure h₁
 |some v =>
  refine wpAny_bind (wpAny_mono h₁ (λ_ s₁' h₁'=>?_) λ_ _ h'=>h')
  exact wpAny_bind (wpAny_mono h₁' (λ_ s₂ h₂=>wpAny_bind (wpAny_bind (wpAny_mono h₂ (λx s₃ h₃=>wpAny_bind (wpAny_mono h₃
   (λ_ s₄ h₄=>wpAny_pure (wpAny_pure ⟨rfl,h₄⟩)) λ_ _ h'=>h')) λ_ _ h'=>h'))) λ_ _ h'=>h')
end
def gH(cells:List (Str × Addr)):List (Str × NameKind)->List (Str × Addr)->List (Str × Addr)
 | [],acc=>acc
 |(n,k)::r,acc=>if k=.free then(match cells.lookup n with|some a=>gH cells r ((n,a)::acc)|none=>gH cells r acc)else gH cells r acc
theorem rP{cells:List (Str × Addr)}{x:Str}{c:Addr}:∀{names:List (Str × NameKind)} {acc:List (Str × Addr)},(gH cells names acc).lookup x=some c->acc.lookup x=some c\/cells.lookup x=some c
 | [],acc,h=>.inl h
 |(n,k)::r,acc,h=>by
  unfold gH at h
  split at h
  ·split at h
   ·rename_i a ha
    rcases rP h with q|q
    ·by_cases e:x=n
     ·subst e
      rw[List.lookup_cons,beq_self_eq_true]at q
      cases q
      exact .inr ha
     ·rw[List.lookup_cons,beq_false_of_ne e]at q
      exact .inl q
    ·exact .inr q
   ·exact rP h
  ·exact rP h
theorem uN{cells:List (Str × Addr)}{x:Str}:∀{names:List (Str × NameKind)} {acc:List (Str × Addr)},((acc.lookup x).isSome=true\/((x,NameKind.free)∈names/\(cells.lookup x).isSome=true))->((gH cells names acc).lookup x).isSome=true
 | [],acc,h=>by
  rcases h with h|⟨h,_⟩
  ·exact h
  ·cases h
 |(n,k)::r,acc,h=>by
  have up:∀a,(acc.lookup x).isSome=true->(List.lookup x ((n,a)::acc)).isSome=true:=λa q=>by
   rw[List.lookup_cons]
   split
   ·rfl
   ·exact q
  unfold gH
  split
  ·rename_i hk
   split
   ·rename_i a ha
    refine uN ?_
    rcases h with h|⟨h,hc⟩
    ·exact .inl (up a h)
    ·rcases List.mem_cons.mp h with e|e
     ·cases e
      refine .inl ?_
      rw[List.lookup_cons,beq_self_eq_true]
      rfl
     ·exact .inr ⟨e,hc⟩
   ·rename_i hn
    refine uN ?_
    rcases h with h|⟨h,hc⟩
    ·exact .inl h
    ·rcases List.mem_cons.mp h with e|e
     ·cases e
      rw[hn]at hc; cases hc
     ·exact .inr ⟨e,hc⟩
  ·rename_i hk
   refine uN ?_
   rcases h with h|⟨h,hc⟩
   ·exact .inl h
   ·rcases List.mem_cons.mp h with e|e
    ·cases e; exact absurd rfl hk
    ·exact .inr ⟨e,hc⟩
theorem Jx{scope:Scope}{env:Env}(h:∀y∈scope.names,y.2=.free->(env.cells.lookup y.1).isSome=true):closureFor scope env=pure (gH env.cells scope.names []):=by
 unfold closureFor
 suffices q:∀(names:List (Str × NameKind)) (acc:List (Str × Addr)),(∀y∈names,y.2=.free->(env.cells.lookup y.1).isSome=true) ->
   (forIn names acc λx r=>do
    match x with
    |(name,kind)=>if(kind == NameKind.free)=true then do let a <-cellOf env name; pure (ForInStep.yield ((name,a)::r))else pure (ForInStep.yield r):Sem _)=pure (gH env.cells names acc) by
  have z:=q scope.names [] h
  exact(congrArg (λm=>m >>= λcs=>pure cs) z)
 intro names
 induction names with
 |nil=>intro acc _; rfl
 |cons y r ih =>
  intro acc hy
  obtain⟨n,k⟩:=y
  rw[List.forIn_cons]
  unfold gH
  by_cases hk:k=.free
  ·subst hk
   rw[if_pos rfl]
   have q:=hy (n,.free) List.mem_cons_self rfl
   cases e:env.cells.lookup n with
   |none=>rw[e]at q; cases q
   |some a =>
    have ec:cellOf env n=pure a:=by unfold cellOf; rw[e]
    simp only[ec]
    exact ih _ λz hz=>hy z (List.mem_cons_of_mem _ hz)
  ·rw[if_neg hk]
   have hb:(k == NameKind.free)=false:=by simpa using hk
   simp only[hb]
   exact ih _ λz hz=>hy z (List.mem_cons_of_mem _ hz)
def Sq(scope sc:Scope):Scope :=
 {scope with names:=scope.names.map λ(n,k)=>if(k == .free&&sc.kind == .function&&sc.names.lookup n == some .cell)then(n,.cell)else(n,k) }
theorem Jy{env:Env}:∀{names:List (Str × NameKind)} {x:Str},names.lookup x=some .free ->
  (names.map λ(n,k)=>if(k == NameKind.free&&env.scope.kind == .function&&env.kindOf n == some .cell)then(n,NameKind.cell)else(n,k)).lookup x=some .cell \/
  (names.map λ(n,k)=>if(k == NameKind.free&&env.scope.kind == .function&&env.kindOf n == some .cell)then(n,NameKind.cell)else(n,k)).lookup x=some .free
 | [],_,h=>by simp at h
 |(n,k)::r,x,h=>by
  have ih:=@Jy env r x
  rw[List.map_cons]
  dsimp only
  cases hx:x == n with
  |true =>
   simp only[List.lookup_cons,hx]at h
   cases h
   by_cases hc:(NameKind.free == NameKind.free&&env.scope.kind == .function&&env.kindOf n == some .cell)=true
   ·rw[if_pos hc]; simp[List.lookup_cons,hx]
   ·rw[if_neg hc]; simp[List.lookup_cons,hx]
  |false =>
   simp only[List.lookup_cons,hx]at h
   by_cases hc:(k == NameKind.free&&env.scope.kind == .function&&env.kindOf n == some .cell)=true
   ·rw[if_pos hc]; simp only[List.lookup_cons,hx]; exact ih h
   ·rw[if_neg hc]; simp only[List.lookup_cons,hx]; exact ih h
theorem Jz{env:Env}:∀{names:List (Str × NameKind)} {x:Str},
  ((names.map λ(n,k)=>if(k == NameKind.free&&env.scope.kind == .function&&env.kindOf n == some .cell)then(n,NameKind.cell)else(n,k)).lookup x=some .cell \/
  (names.map λ(n,k)=>if(k == NameKind.free&&env.scope.kind == .function&&env.kindOf n == some .cell)then(n,NameKind.cell)else(n,k)).lookup x=some .free)->names.lookup x=some .cell\/names.lookup x=some .free
 | [],_,h=>by simp at h
 |(n,k)::r,x,h=>by
  have ih:=@Jz env r x
  rw[List.map_cons]at h
  dsimp only at h
  cases hx:x == n with
  |true =>
   by_cases hcc:(k == NameKind.free&&env.scope.kind == .function&&env.kindOf n == some .cell)=true
   ·have hk:k=.free:=by
     simp only[Bool.and_eq_true,beq_iff_eq]at hcc
     exact hcc.1.1
    subst hk
    exact .inr (by simp only[List.lookup_cons,hx])
   ·rw[if_neg hcc]at h
    simp only[List.lookup_cons,hx]at h ⊢
    exact h
  |false =>
   have q:=ih (by
    by_cases hcc:(k == NameKind.free&&env.scope.kind == .function&&env.kindOf n == some .cell)=true
    ·rw[if_pos hcc]at h; simp only[List.lookup_cons,hx]at h; exact h
    ·rw[if_neg hcc]at h; simp only[List.lookup_cons,hx]at h; exact h)
   simp only[List.lookup_cons,hx]
   exact q
theorem oO:∀(names:List (Str × NameKind)) (n:Nat) (acc:List (Str × Addr)),cellsFrom n names acc=cellsFrom n names []++acc
 | [],_,_=>rfl
 |(x,k)::r,n,acc=>by
  unfold cellsFrom
  split
  ·rw[oO r (n+1) ((x,n)::acc),oO r (n+1) [(x,n)],List.append_assoc]
   rfl
  ·exact oO r n acc
theorem Bh:∀(names:List (Str × NameKind)) (n:Nat) {x:Str} {c:Addr},(x,c)∈cellsFrom n names []->(x,NameKind.cell)∈names
 | [],_,_,_,h=>by cases h
 |(y,k)::r,n,x,c,h=>by
  unfold cellsFrom at h
  split at h
  ·rename_i hk
   have hk:k=.cell:=by simpa using hk
   rw[oO]at h
   rcases List.mem_append.mp h with z|z
   ·exact List.mem_cons_of_mem _ (Bh r _ z)
   ·have z:=List.mem_singleton.mp z
    cases z
    rw[hk]
    exact List.mem_cons_self
  ·exact List.mem_cons_of_mem _ (Bh r _ h)
theorem uO(x:Str):∀(a b:List (Str × Addr)),(a++b).lookup x=(match a.lookup x with|some c=>some c|none=>b.lookup x)
 | [],_=>rfl
 |(y,c)::r,b=>by
  have ih:=uO x r b
  rw[List.cons_append,List.lookup_cons,List.lookup_cons]
  cases h:x == y with
  |true=>rfl
  |false=>exact ih
theorem Ss{M:Model}{A:Around}{E:Value->Shared->Prop}{s:Shared}{scope:Scope}{globals:Addr}{cl:List (Str × Addr)}{qual:Str}{env:Env}{Q:Env->Shared->Prop}
  (hQ:∀h',h'.Ns s.heap.objs.size (λ_=>none)->(∀b o,s.heap.get? b=some o->h'.get? b=some o)->CellsOk h' (s.heap.objs.size+1) (cellsFrom (s.heap.objs.size+1) scope.names []) ->
   Q {scope:=scope,locals:=s.heap.objs.size,globals:=globals,cells:=cellsFrom (s.heap.objs.size+1) scope.names cl,qual:=qual,func:=none,code:=env.code,frame:=env.frame,builtins:=env.builtins } {s with heap:=h',toks:=s.toks+([]:List (Str × Value)).length }) :
  wpAny M A (newFunctionEnv scope globals cl [] qual none .none (some env)) Q E s:=by
 simp only[newFunctionEnv,Option.isSome_some,if_true]
 refine wpAny_bind (wpAny_alloc ?_)
 refine wpAny_bind (wpAny_layCells _ (λname kind cells=>by cases hkc:kind == NameKind.cell <;> simp[hkc]) _ _ _ _ ?_)
 have ok:=cellsFrom_ok scope.names (s.heap.push {cls:=.type "dict",data:=.dict #[] }) (s.heap.objs.size+1) [] ⟨λ_ _ hm=>(nomatch hm),List.Pairwise.nil⟩ (by rw[Heap.size_push]; exact Nat.le_refl _)
 rw[Heap.size_push]at ok
 rw[show({s with heap:=s.heap.push {cls:=.type "dict",data:=.dict #[] } }:Shared).heap.objs.size=s.heap.objs.size+1 from Heap.size_push ..]
 rw[List.forIn_nil]
 exact wpAny_bind (wpAny_pure (wpAny_pure (hQ _ ((Heap.Ns.new s.heap (.type "dict")).keeps (pushCells_keeps _ _)) (λb o e=>pushCells_keeps _ _ b o (Heap.get?_push_of_some _ e)) ok)))
structure xu(sc:Scope)(No N:List Str)(src:List (Option Nat))(scope:Scope):Prop where
 kind:scope.kind=.function
 cells:∀y∈scope.names,y.2=.cell->scope.names.lookup y.1=some .cell
 names:∀y∈scope.names,y.2=.local->scope.names.lookup y.1=some .local
 free:∀y∈scope.names,y.2=.free->sc.names.lookup y.1=some .cell\/sc.names.lookup y.1=some .free
 len:src.length=N.length
 up:∀p∈N.zip src,∀j∈p.2,No[j]?=some p.1/\scope.names.lookup p.1=some .free
def gw(src:List (Option Nat))(σ : St):St:=src.map λo=>o.bind λj=>(σ[j]?).join
noncomputable def jP(X:Cx)(N:List Str)(scope:Scope)(C:Addr)(s:Shared)(H:Hp)(ex:List Addr):Cx where
 prog:=X.prog
 w:=X.w
 K:=X.K
 mg:=X.mg
 base:=X.base
 A:=X.A
 N:=N
 s₀ := s
 H₀ := H
 env:=compEnvC scope (cellsFrom (C+1) scope.names (gH X.env.cells scope.names [])) C X.env
 outer:=X.stack
 stack:=X.stack
 ex:=ex
 fn:=λx=>scope.names.lookup x == some .cell
 calm:=X.calm
 pn:=[]
 xe:=λ_ _=>False
def JB(Q:VK)(D:Addr)(H:Hp):Prop:=Q (.ref D) H
noncomputable def oR(wi:TI)(g:TG)(src:List (Option Nat))(te:TE):TE:=λσ H Q=>wi σ H λJ H1=>∀D,H1 D=none ->
 ∃W:Nat->Nat->St->Hp->Prop,(∃m,W 0 m (gw src σ) (upd H1 D (.lst [])))/\∀i m σ' H',W i m σ' H' ->
  (J.stop i H'/\JB Q D H')\/(J.go i H'/\∀x gJ,J.rG i H' x gJ->g x σ' gJ λσ2 H2=>te σ2 H2 λv H3=>∃xs,H3 D=some (.lst xs)/\xs.length<sizeLine/\∃m',m'<m/\W (i+1) m' σ2 (upd H3 D (.lst (xs++[v]))))
section
variable {X:Cx}{elt tg iter:Expr}{scope sc:Scope}{pos:Pos}{No N:List Str}{src:List (Option Nat)}{wi:TI}{g:TG}{te:TE}
theorem Sv{pins:List (Addr × Obj)}{σ : St}{H:Hp}{s:Shared}{h₁ : Heap}{fp:List Addr}{tk:Nat}(hsc:X.env.scope=sc)(qm:X.N=No)(S:xu sc No N src scope)(I:Inv X pins σ H s)
  (hf:∀b∈fp,lG X pins H b) (hlt:∀b∈fp,b<s.heap.objs.size)
  (hns:h₁.Ns s.heap.objs.size (λ_=>none)) (old:∀b o,s.heap.get? b=some o->h₁.get? b=some o) (ck:CellsOk h₁ (s.heap.objs.size+1) (cellsFrom (s.heap.objs.size+1) scope.names [])) :
  Inv (jP X N scope s.heap.objs.size s H fp) [] (gw src σ) H {s with heap:=h₁,toks:=tk }:=by
 subst hsc
 subst qm
 have rQ:∀x c,(cellsFrom (s.heap.objs.size+1) scope.names (gH X.env.cells scope.names [])).lookup x=some c->(cellsFrom (s.heap.objs.size+1) scope.names []).lookup x=some c\/X.env.cells.lookup x=some c:=λx c h=>by
  rw[oO,uO]at h
  split at h
  ·rename_i e
   exact .inl (e.trans h)
  ·rcases rP h with q|q
   ·simp at q
   ·exact .inr q
 have big:∀x c,(cellsFrom (s.heap.objs.size+1) scope.names []).lookup x=some c->s.heap.objs.size+1<=c:=λx c h=>(ck.empty x c (PySem.mem_of_lookup h)).2
 have JC:∀x c,X.env.cells.lookup x=some c->c<s.heap.objs.size:=λx c e=>by
  obtain⟨v,q⟩:=I.cell x c e
  exact q.lt
 have ac5:∀b∈frs X.stack,b<s.heap.objs.size:=λb hb=>by
  obtain⟨_,o,ho,_⟩:=I.stack.mem hb
  exact Heap.lt_size ho
 refine⟨⟨I.ok.mod,S.kind,I.ok.glob,I.ok.blt,Nat.le_refl _,λx y c h1 h2=>?_,λx hx=>?_,λx c hfn h=>?_,I.ok.hd,I.ok.frames,.inl rfl,λb hb=>⟨Nat.ne_of_lt (hlt b hb),λx c e=>?_⟩,
   I.bs,Nat.le_trans I.ok.pZ I.sz,λb o e hb=>?_,λb hb hb'=>?_,I.stack,I.Ac⟩,
  rfl,I.bare,Un.kept old,⟨_,hns,λi x v h1 h2 h3=>?_⟩,λx c e=>?_,I.hok.fresh (Nat.le_refl _),λx c e=>?_,λp hp=>absurd (show p∈([]:List (Addr × Obj))from hp) (by simp),I.hok.kept old,?_⟩
 ·rcases rQ _ _ h1 with z1|z1
  ·rcases rQ _ _ h2 with z2|z2
   ·exact name_of_addr ck.apart (PySem.mem_of_lookup z1) (PySem.mem_of_lookup z2)
   ·exact absurd (Nat.le_trans (big _ _ z1) (Nat.le_of_lt (JC _ _ z2))) (Nat.not_succ_le_self _)
  ·rcases rQ _ _ h2 with z2|z2
   ·exact absurd (Nat.le_trans (big _ _ z2) (Nat.le_of_lt (JC _ _ z1))) (Nat.not_succ_le_self _)
   ·exact I.ok.inj x y c z1 z2
 ·-- every cell or free name has its cell
  rcases Jz hx with m|m
  ·exact Option.isSome_iff_exists.mp (PySem.W.cellsFrom_some _ _ _ (.inl m))
  ·have m:=PySem.mem_of_lookup m
   have q:=uN (cells:=X.env.cells) (acc:=[]) (.inr ⟨m,by
    obtain⟨c,e⟩:=I.ok.has x (S.free _ m rfl)
    rw[e]; rfl⟩)
   exact Option.isSome_iff_exists.mp (PySem.W.cellsFrom_some _ _ _ (.inr q))
 ·have hfn:scope.names.lookup x=some .cell:=by
   have z:(scope.names.lookup x == some .cell)=true:=hfn
   simpa using z
  obtain⟨c',e'⟩:=Option.isSome_iff_exists.mp (PySem.W.cellsFrom_some _ (s.heap.objs.size+1) [] (.inl hfn))
  have h:(cellsFrom (s.heap.objs.size+1) scope.names (gH X.env.cells scope.names [])).lookup x=some c:=h
  rw[oO,uO,e']at h
  cases h
  exact Nat.le_of_succ_le (big _ _ e')
 ·rcases rQ _ _ e with z|z
  ·exact λy=>absurd (Nat.le_trans (big _ _ z) (y▸Nat.le_of_lt (hlt b hb))) (Nat.not_succ_le_self _)
  ·exact(hf b hb).2.2.2.2.1 x c z
 ·obtain⟨f0,f1,f2,f3,f4,f5⟩:=hf b hb
  rcases f3 with z|z
  ·exact I.ok.iC b o e z
  ·have q:=Heap.lt_size (I.ok.bs b o e).1
   exact absurd q (Nat.not_lt.mpr z)
 ·obtain⟨f0,f1,f2,_⟩:=hf b hb
  rcases List.mem_cons.mp (I.wG b hb')with z|z
  ·exact f1 z
  ·exact f2 z
 ·have hi:i<src.length:=by
   unfold gw at h2
   have:=(List.getElem?_eq_some_iff.mp h2).1
   simpa using this
  have h2':((src[i]).bind λj=>(σ[j]?).join)=some v:=by
   unfold gw at h2
   rw[List.getElem?_map,List.getElem?_eq_getElem hi]at h2
   exact Option.some.inj h2
  cases es:src[i]with
  |none=>rw[es]at h2'; cases h2'
  |some j =>
   rw[es]at h2'
   have hj : σ[j]?=some (some v):=by
    have z:(σ[j]?).join=some v:=h2'
    cases q : σ[j]? with
    |none=>rw[q]at z; cases z
    |some o=>rw[q]at z; have z':o=some v:=z; rw[z']
   have hz:(x,some j)∈N.zip src:=by
    refine List.mem_of_getElem? (i:=i) ?_
    rw[List.getElem?_zip_eq_some]
    exact⟨h1,by rw[List.getElem?_eq_getElem hi,es]⟩
   obtain⟨u1,u2⟩:=S.up _ hz j rfl
   have m:(x,NameKind.free)∈scope.names:=PySem.mem_of_lookup u2
   have kx:=S.free _ m rfl
   obtain⟨m0,hn0,hl0⟩:=id I.loc
   obtain⟨u,r,lk⟩:=hl0 j x v u1 hj (kx.elim (λz=>.inr (.inl z)) λz=>.inr (.inr z))
   refine⟨u,r,?_⟩
   rcases lk with⟨k,_⟩|⟨_,c,e,ic⟩
   ·have k':X.env.scope.names.lookup x=some .local:=k
    rcases kx with z|z
    ·rw[z]at k'; cases k'
    ·rw[z]at k'; cases k'
   ·refine .inr ⟨Jy u2,c,?_,?_⟩
    ·have q:=uN (cells:=X.env.cells) (acc:=[]) (.inr ⟨m,by rw[e]; rfl⟩)
     obtain⟨c',e'⟩:=Option.isSome_iff_exists.mp q
     have e2:X.env.cells.lookup x=some c':=by
      rcases rP e' with q|q
      ·simp at q
      ·exact q
     rw[e]at e2; cases e2
     show(cellsFrom (s.heap.objs.size+1) scope.names (gH X.env.cells scope.names [])).lookup x=some c
     rw[oO,uO]
     split
     ·rename_i c2 z
      have y:=S.cells _ (Bh _ _ (PySem.mem_of_lookup z)) rfl
      rw[u2]at y; cases y
     ·exact e'
    ·obtain⟨o,ho,hd⟩:=ic
     exact⟨o,old _ _ ho,hd⟩
 ·rcases rQ _ _ e with z|z
  ·exact⟨_,(ck.empty x c (PySem.mem_of_lookup z)).1⟩
  ·obtain⟨v,o,ho,hd⟩:=I.cell x c z
   exact⟨v,o,old _ _ ho,hd⟩
 ·rcases rQ _ _ e with z|z
  ·exact I.hok.fresh (Nat.le_of_succ_le (big _ _ z))
  ·exact I.mz x c z
 ·unfold gw
  rw[List.length_map]
  exact S.len
theorem JD{pins:List (Addr × Obj)}{σ : St}{H:Hp}{s:Shared}{Q:VK}{RR:Value->Addr->Result->Shared->Prop}(hsc:X.env.scope=sc)(qm:X.N=No)(S:xu sc No N src scope)(hc:X.calm=true)
  (hi:PI X tg iter wi) (hg:∀C s H ex,PG (jP X N scope C s H ex) tg g) (he:∀C s H ex,PE (jP X N scope C s H ex) elt te) (I:Inv X pins σ H s) (h:oR wi g src te σ H Q)
  (hRR:∀D C H' s' m,Inv X pins σ H' s'->H' C=none->C≠X.env.locals->X.s₀.heap.objs.size<=C->(∀x c,X.env.cells.lookup x=some c->c≠C)->(∀p∈X.pn++pins,p.1≠C)->s'.heap.Ns C m->Q (.ref D) H'->RR (.ref D) C (.ok .next) s') :
  wpAny (model X.prog X.w) X.A (eval iter X.env) (λx s₁=>wpAny (model X.prog X.w) X.A (pyIter x) (λit s₂=>wpAny (model X.prog X.w) X.A (newList []) (λacc s₃ =>
   wpAny (model X.prog X.w) X.A (newFunctionEnv scope X.env.globals (gH X.env.cells scope.names []) [] X.env.qual none .none (some X.env)) (λcenv s₄ =>
    codeAny (model X.prog X.w) X.A (.compStart (.ListComp elt [⟨tg,iter,[],0⟩] scope pos) 0 it acc {cenv with scope:=relabel scope X.env }) (RR acc cenv.locals) s₄) X.xe s₃) X.xe s₂) X.xe s₁) X.xe s:=by
 refine aR (hi pins s σ H _ I h) λv s1 h1=>aR h1 λitv s2 h2=>?_
 obtain⟨it,fp,tn,J,H2,e,I2,T,st2,f2,hW⟩:=h2
 subst e
 have Sw:H2 s2.heap.objs.size=none:=I2.hok.fresh (Nat.le_refl _)
 obtain⟨W,⟨m0,w0⟩,turn⟩:=hW s2.heap.objs.size Sw
 have JF:∀b∈fp,b<s2.heap.objs.size:=λb hb=>by
  obtain⟨o,e,_⟩:=T.obj 0 _ st2 b hb
  exact Heap.lt_size e
 refine wpAny_newObj_type ?_
 have I3:Inv X pins σ (upd H2 s2.heap.objs.size (.lst [])) {s2 with heap:=s2.heap.push {cls:=.type "list",dict:=none,data:=.seq ([]:List Value).toArray } }:=I2.rN (t':=s2.toks) (ys:=[]) .nil (Nat.zero_le _)
 have f3:∀b∈fp,lG X pins (upd H2 s2.heap.objs.size (.lst [])) b:=λb hb=>by
  obtain⟨q,r⟩:=f2 b hb
  exact⟨by rw[aN (Nat.ne_of_lt (JF b hb))]; exact q,r⟩
 have st3:tn 0 (s2.heap.push {cls:=.type "list",dict:=none,data:=.seq ([]:List Value).toArray }):=T.keep _ _ _ st2 λb hb o e=>Heap.get?_push_of_some _ e
 have Bj:∀b∈fp,b<(s2.heap.push {cls:=.type "list",dict:=none,data:=.seq ([]:List Value).toArray }).objs.size:=λb hb=>by
  rw[Heap.size_push]; exact Nat.lt_succ_of_lt (JF b hb)
 generalize hD:s2.heap.objs.size=D at *
 generalize hh3:s2.heap.push {cls:=.type "list",dict:=none,data:=.seq ([]:List Value).toArray }=h3 at *
 generalize hH3:upd H2 D (.lst [])=H3 at *
 refine Ss λh₁ hns old ck=>?_
 dsimp only at hns old ck ⊢
 have I4:Inv (jP X N scope h3.objs.size {s2 with heap:=h3 } H3 fp) [] (gw src σ) H3 {s2 with heap:=h₁,toks:=s2.toks+([]:List (Str × Value)).length }:=Sv (s:={s2 with heap:=h3 }) hsc qm S I3 f3 Bj hns old ck
 have JG:tn 0 h₁ := T.keep _ _ _ st3 λb hb o e=>old b o e
 have loop:codeAny (model X.prog X.w) X.A (.compLoop (.ListComp elt [⟨tg,iter,[],0⟩] scope pos) 0 (.ref it) (.ref D) (compEnvC scope (cellsFrom (h3.objs.size+1) scope.names (gH X.env.cells scope.names [])) h3.objs.size X.env)) (RR (.ref D) h3.objs.size) {s2 with heap:=h₁,toks:=s2.toks+([]:List (Str × Value)).length }:=by
  have stat:∀{H':Hp},(∀b∈fp,H' b=none)->∀b∈fp,lG (jP X N scope h3.objs.size {s2 with heap:=h3 } H3 fp) [] H' b:=λhn b hb=>by
   obtain⟨g0,g1,g2,g3,g4,g5⟩:=f3 b hb
   refine⟨hn b hb,Nat.ne_of_lt (Bj b hb),λz=>?_,.inl hb,λx c e=>?_,λp hp=>absurd (show p∈([]:List (Addr × Obj))from hp) (by simp)⟩
   ·rcases List.mem_cons.mp (I3.wG b z)with z|z
    ·exact g1 z
    ·exact g2 z
   ·have e:(cellsFrom (h3.objs.size+1) scope.names (gH X.env.cells scope.names [])).lookup x=some c:=e
    rw[oO,uO]at e
    split at e
    ·rename_i z
     cases e
     exact λy=>absurd (Nat.le_trans (ck.empty x c (PySem.mem_of_lookup z)).2 (y▸Nat.le_of_lt (Bj b hb))) (Nat.not_succ_le_self _)
    ·rcases rP e with q|q
     ·simp at q
     ·exact g4 x c q
  refine Sh (λn s'=>∃i σ' H',Inv (jP X N scope h3.objs.size {s2 with heap:=h3 } H3 fp) [] σ' H' s'/\tn i s'.heap/\(∀b∈fp,H' b=none)/\W i n σ' H') ?_ m0 ⟨0,gw src σ,H3,I4,JG,λb hb=>(f3 b hb).1,w0⟩
  rintro n s5 ⟨i,σ5,H5,I5,je,wU,w5⟩
  rcases turn i n σ5 H5 w5 with⟨stop,qn⟩|⟨go,step⟩
  ·refine aR (T.done (jP X N scope h3.objs.size {s2 with heap:=h3 } H3 fp) rfl rfl rfl hc i [] s5 σ5 H5 (λ_ _=>False) I5 (stat wU) je stop) λr s6 ⟨hr,I6⟩=>?_
   subst hr
   obtain⟨mC,hnC,_⟩:=id I6.loc
   have I7:Inv X pins σ H5 s6:=I3.call' (ch:=fp) I6.os I6.base I6.hok I6.bare λb hb=>by
    obtain⟨g0,g1,g2,g3,g4,g5⟩:=f3 b hb
    exact⟨g3,g1,g4,g5⟩
   refine hRR D h3.objs.size H5 s6 mC I7 I6.free (Nat.ne_of_gt I3.lt) I3.sz (λx c e z=>?_) (λp hp z=>?_) hnC qn
   ·obtain⟨v,q⟩:=I3.cell x c e
    exact absurd q.lt (by rw[z]; exact Nat.lt_irrefl _)
   ·exact absurd (Heap.lt_size (I3.pin p hp).1) (by rw[z]; exact Nat.lt_irrefl _)
  ·refine aR (T.item (jP X N scope h3.objs.size {s2 with heap:=h3 } H3 fp) rfl rfl rfl hc i [] s5 σ5 H5 (λ_ _=>False) I5 (stat wU) je go) λr s6 ⟨u,hr,h6⟩=>?_
   subst hr
   refine aR h6 λ_ s7 ⟨x,H7,I7,r7,y7,Bl,Sx⟩=>?_
   have Sy:=I7.pinned (stat Sx) (T.obj _ _ Bl)
   refine aR (hg _ _ _ _ _ s7 σ5 H7 x u _ Sy r7 (step x H7 y7)) λ_ s8 ⟨σ8,H8,I8,q8⟩=>?_
   refine aR (he _ _ _ _ _ s8 σ8 H8 _ I8 q8) λyv s9 ⟨y,H9,I9,r9,q9⟩=>?_
   obtain⟨xs,e9,l9,m',hm,w9⟩:=q9
   refine aR (Bg (X:=jP X N scope h3.objs.size {s2 with heap:=h3 } H3 fp) _ s9 σ8 H9 (.ref D) [y] (.ref D) [yv] (λ_ H'=>W (i+1) m' σ8 H') I9 rfl (.cons r9 .nil) ⟨D,xs,y,rfl,rfl,e9,l9,w9⟩) λ_ s10 ⟨_,SJ,Bm,_,SM⟩=>?_
   refine⟨m',hm,i+1,σ8,SJ,Bm.wR (pins:=[]),T.keep _ _ _ Bl λb hb o e=>(Bm.pin (b,o) (List.mem_append_right _ (List.mem_append_right _ (wQ hb e)))).1,λb hb=>?_,SM⟩
   obtain⟨o,e,d⟩:=T.obj _ _ Bl b hb
   exact(Bm.pin (b,o) (List.mem_append_right _ (List.mem_append_right _ (wQ hb e)))).2.1
 exact codeAny_compStart_list loop (T.self _ _ _ _ _ JG loop)
theorem oU(hsc:X.env.scope=sc)(qm:X.N=No)(S:xu sc No N src scope)(hc:X.calm=true)
  (hi:PI X tg iter wi) (hg:∀C s H ex,PG (jP X N scope C s H ex) tg g) (he:∀C s H ex,PE (jP X N scope C s H ex) elt te)
  (hs:∀x,foldedSetIterable iter X.env x=pure x:=by intro _; rfl):PE X (.ListComp elt [⟨tg,iter,[],0⟩] scope pos) (oR wi g src te):=by
 refine⟨λpins s σ H Q I h=>?_⟩
 rw[eval_ListComp]
 have hcl:closureFor scope X.env=pure (gH X.env.cells scope.names []):=Jx λy hy e=>by
  have k:=S.free y hy e
  rw[<-hsc]at k
  obtain⟨c,q⟩:=I.ok.has y.1 k
  rw[q]; rfl
 refine wpAny_comprehension_free (use:=none) rfl hs hcl S.kind S.names (JD (RR:=λacc C=>compPost (model X.prog X.w) X.A X.xe none (EP X pins σ Q) acc C) hsc qm S hc hi hg he I h ?_)
 intro D C H' s' m I' n1 n2 n3 n4 n5 hn q
 refine⟨m,hn,λh' hs'=>⟨.ref D,H',?_,rfl,q⟩⟩
 exact I'.turned (t':=s'.toks) (λb o hb e=>(hs'.2 b hb).trans e) n1 (Ne.symm (Ne.symm n2)) (.inr n3) n4 n5
theorem xG{i:Nat}{y:Str}{py spos:Pos}(hN:X.N.Nodup)(SN:X.N[i]?=some y)(hy:Loc X.env.scope y)(hsc:X.env.scope=sc)(qm:X.N=No)(S:xu sc No N src scope)(hc:X.calm=true)
  (hi:PI X tg iter wi) (hg:∀C s H ex,PG (jP X N scope C s H ex) tg g) (he:∀C s H ex,PE (jP X N scope C s H ex) elt te)
  (hsw:swapsWith (.ListComp elt [⟨tg,iter,[],0⟩] scope pos) (some (.Name y py)) spos.line X.env=pure true:=by rfl) (hs:∀x,foldedSetIterable iter X.env x=pure x:=by intro _; rfl)
  (hf:X.fn y=true\/X.env.scope.names.lookup y=some .local:=by first|exact .inl rfl|exact .inr rfl|assumption) :
  PS X (.Assign [.Name y py] (.ListComp elt [⟨tg,iter,[],0⟩] scope pos) spos) (lF (oR wi g src te) (fH i)):=by
 refine⟨λpins s σ H D I h=>?_⟩
 rw[exec_Assign_Name_used _ _ _ _ hsw]
 have hcl:closureFor scope X.env=pure (gH X.env.cells scope.names []):=Jx λy hy e=>by
  have k:=S.free y hy e
  rw[<-hsc]at k
  obtain⟨c,q⟩:=I.ok.has y.1 k
  rw[q]; rfl
 refine wpAny_bind (wpAny_standAt (wpAny_bind ?_))
 show wpAny _ X.A (do let _ <-comprehension (.ListComp elt [⟨tg,iter,[],0⟩] scope pos) scope X.env _ (newList []) false (eval iter X.env) (some (assign (.Name y py) X.env))) _ _ s
 refine wpAny_bind (wpAny_mono (wpAny_comprehension_free (use:=some (assign (.Name y py) X.env)) (Q:=λ_ s'=>SP X pins D .next s') rfl hs hcl S.kind S.names
  (JD (Q:=λv H'=>D.nx (σ.set i (some v)) H') (RR:=λacc C=>compPost (model X.prog X.w) X.A X.xe (some (assign (.Name y py) X.env)) (λ_ s'=>SP X pins D .next s') acc C) hsc qm S hc hi hg he I h ?_)) (λ_ s' hq=>wpAny_pure (wpAny_pure hq)) λ_ _ e=>e)
 intro Da C H' s' m I' n1 n2 n3 n4 n5 hn q
 show wpAny _ X.A (assign (.Name y py) X.env (.ref Da)) _ _ _
 refine wpAny_assign_Name (G7 I' hN SN hy (v:=.ref Da) rfl (λs2 I2 hsame=>?_) hf)
 obtain⟨a,hsb,ha⟩:=hsame
 have SQ:C≠a:=by
  rcases ha with z|z
  ·rw[z]; exact n2
  ·exact λe=>n4 y a z e.symm
 refine⟨m,hn.sameBut hsb SQ,λh' hs'=>⟨σ.set i (some (.ref Da)),H',?_,q⟩⟩
 exact I2.turned (t':=s2.toks) (λb o hb e=>(hs'.2 b hb).trans e) n1 n2 (.inr n3) n4 n5
end
section
variable {K:FZ}{g:TG}{te:TE}{Q:VK}
end
end L2
end
section
namespace L2
open PySem PySem.Spec PyProof.Rows
def Bo(e C:Addr)(h:Heap):Prop:=∃o vs,h.get? e=some o/\o.cls=.ref C/\o.data=.fields vs
def uP(e C:Addr):HO:=.ext (Bo e C)
def lJ:List Str:=["NoBottom", "NoBook", "NoList", "NoRule", "NoCount", "NoLooks", "NoThings", "NotSure", "NoSlack", "NoThing", "NoWorth", "TooMany", "NoText", "NoLine"]
inductive Tr where
 |non|bl (b:Bool)|int (i:Int)|str (x:Str)|tup (ts:List Tr)|lst (ts:List Tr)|bR (c:Str)
mutual
inductive Rep(K:FZ)(H:Hp):V->Tr->Prop
 |non:Rep K H .non .non
 |bl (b:Bool):Rep K H (.bl b) (.bl b)
 |int (i:Int):Rep K H (.int i) (.int i)
 |str (x:Str):Rep K H (.str x) (.str x)
 |tup {a:Addr} {xs:List V} {ts:List Tr} (h:cQ K H a xs) (r:aC K H xs ts):Rep K H (.ref a) (.tup ts)
 |lst {a:Addr} {xs:List V} {ts:List Tr} (h:bG K H a xs) (r:aC K H xs ts):Rep K H (.ref a) (.lst ts)
 |bR {a C:Addr} {c:Str} (h:H a=some (uP a C)) (m:c∈lJ) (n:PySem.W.nsIn K mainGlobals c=some (some (.ref C))):Rep K H (.ref a) (.bR c)
inductive aC(K:FZ)(H:Hp):List V->List Tr->Prop
 |nil:aC K H [] []
 |cons {x:V} {t:Tr} {xs:List V} {ts:List Tr} (h:Rep K H x t) (r:aC K H xs ts):aC K H (x::xs) (t::ts)
end
theorem Same.qp{K:FZ}{H H':Hp}{a:Addr}{xs:List V}(e:Same H H')(h:cQ K H a xs):cQ K H' a xs:=by
 rcases h with(h|⟨o,h⟩)|h
 ·exact .inl (.inl (e _ _ h))
 ·exact .inl (.inr ⟨o,e _ _ h⟩)
 ·exact .inr h
mutual
theorem Rep.mono{K:FZ}{H H':Hp}(e:Same H H'):∀{v:V} {t:Tr},Rep K H v t->Rep K H' v t
 |_,_,.non=>.non
 |_,_,.bl b=>.bl b
 |_,_,.int i=>.int i
 |_,_,.str x=>.str x
 |_,_,.tup h r=>.tup (e.qp h) (aC.mono e r)
 |_,_,.lst h r=>.lst (e.seq h) (aC.mono e r)
 |_,_,.bR h m n=>.bR (e _ _ h) m n
theorem aC.mono{K:FZ}{H H':Hp}(e:Same H H'):∀{v:List V} {t:List Tr},aC K H v t->aC K H' v t
 |_,_,.nil=>.nil
 |_,_,.cons h r=>.cons (Rep.mono e h) (aC.mono e r)
end
theorem aC.length{K:FZ}{H:Hp}:∀{v:List V} {t:List Tr},aC K H v t->v.length=t.length
 |_,_,.nil=>rfl
 |_,_,.cons _ r=>by rw[List.length_cons,List.length_cons,aC.length r]
theorem aC.get{K:FZ}{H:Hp}:∀{v:List V} {t:List Tr} {i:Nat} {x:V},aC K H v t->v[i]?=some x->∃u,t[i]?=some u/\Rep K H x u
 |_,_,_,_,.nil,e=>by simp at e
 |_,_,0,_,.cons h _,e=>by
  simp at e
  subst e
  exact⟨_,rfl,h⟩
 |_,_,i+1,x,.cons _ r,e=>by
  obtain⟨u,h1,h2⟩:=aC.get (i:=i) (x:=x) r (by simpa using e)
  exact⟨u,by simpa using h1,h2⟩
theorem aC.app{K:FZ}{H:Hp}:∀{v w:List V} {t u:List Tr},aC K H v t->aC K H w u->aC K H (v++w) (t++u)
 |_,_,_,_,.nil,s=>s
 |_,_,_,_,.cons h r,s=>.cons h (aC.app r s)
theorem aC.take{K:FZ}{H:Hp}:∀{v:List V} {t:List Tr} (n:Nat),aC K H v t->aC K H (v.take n) (t.take n)
 |_,_,0,_=>by rw[List.take_zero,List.take_zero]; exact .nil
 |_,_,n+1,.nil=>by simpa using aC.nil
 |_,_,n+1,.cons h r=>by
  rw[List.take_succ_cons,List.take_succ_cons]
  exact .cons h (aC.take n r)
theorem aC.drop{K:FZ}{H:Hp}:∀{v:List V} {t:List Tr} (n:Nat),aC K H v t->aC K H (v.drop n) (t.drop n)
 |_,_,0,r=>by rw[List.drop_zero,List.drop_zero]; exact r
 |_,_,n+1,.nil=>by simpa using aC.nil
 |_,_,n+1,.cons h r=>by
  rw[List.drop_succ_cons,List.drop_succ_cons]
  exact aC.drop n r
mutual
noncomputable def dep:Tr->Nat
 |.tup ts=>deps ts+1
 |.lst ts=>deps ts+1
 |.bR _=>100
 |_=>0
noncomputable def deps:List Tr->Nat
 | []=>0
 |t::r=>max (dep t) (deps r)
end
mutual
noncomputable def eqT:Tr->Tr->Bool
 |.non,.non=>true
 |.bl a,.bl b=>a == b
 |.bl a,.int b=>(if a then 1 else 0) == b
 |.int a,.bl b=>a == (if b then 1 else 0)
 |.int a,.int b=>a == b
 |.str a,.str b=>a == b
 |.tup a,.tup b=>mF a b
 |.lst a,.lst b=>mF a b
 |.bR a,.bR b=>a == b
 |_,_=>false
noncomputable def mF:List Tr->List Tr->Bool
 | [],[]=>true
 |a::x,b::y=>eqT a b&&mF x y
 |_,_=>false
end
mutual
theorem xH:∀t:Tr,eqT t t=true
 |.non=>rfl
 |.bl b=>by unfold eqT; exact beq_self_eq_true b
 |.int i=>by unfold eqT; exact beq_self_eq_true i
 |.str x=>by unfold eqT; exact beq_self_eq_true x
 |.tup ts=>by unfold eqT; exact Bp ts
 |.lst ts=>by unfold eqT; exact Bp ts
 |.bR c=>by unfold eqT; exact beq_self_eq_true c
theorem Bp:∀ts:List Tr,mF ts ts=true
 | []=>rfl
 |t::r=>by unfold mF; rw[xH t,Bp r]; rfl
end
theorem uQ:∀{a b:List Tr},a.length≠b.length->mF a b=false
 | [],[],h=>absurd rfl h
 | [],_::_,_=>rfl
 |_::_,[],_=>rfl
 |x::a,y::b,h=>by
  unfold mF
  rw[uQ (a:=a) (b:=b) (by simpa using h),Bool.and_false]
def nu(a b:List Tr)(j:Nat):Bool:=match a[j]?,b[j]? with
 |some x,some y=>eqT x y
 |_,_=>true
theorem uR:∀{a b:List Tr},a.length=b.length->(List.range a.length).all (nu a b)=mF a b
 | [],[],_=>rfl
 | [],_::_,h=>by cases h
 |_::_,[],h=>by cases h
 |x::a,y::b,h=>by
  have ih:=uR (a:=a) (b:=b) (by simpa using h)
  rw[List.length_cons,List.range_succ_eq_map,List.all_cons,List.all_map]
  unfold mF
  rw[<-ih]
  rfl
section
variable {X:Cx}{pins:List (Addr × Obj)}{σ : St}{H:Hp}{s:Shared}
theorem Inv.SX(I:Inv X pins σ H s){a C:Addr}{its:Array Value}(h:H a=some (uP a C))(p:IsTup s.heap a its):False:=by
 obtain⟨o,_,e1,e2,_⟩:=(I.hok a _ h).1
 obtain⟨o',e1',e2',_⟩:=p
 rw[e1]at e1'
 cases e1'
 rw[e2]at e2'
 cases e2'
theorem Inv.S5(I:Inv X pins σ H s){a C:Addr}{its:Array Value}(h:H a=some (uP a C))(p:PlainL s.heap a its):False:=by
 obtain⟨o,_,e1,e2,_⟩:=(I.hok a _ h).1
 obtain⟨o',_,e1',e2',_⟩:=p
 rw[e1]at e1'
 cases e1'
 rw[e2]at e2'
 cases e2'
mutual
theorem Rep.inj(I:Inv X pins σ H s):∀{v:V} {t u:Tr},dep t<=99->Rep X.K H v t->Rep X.K H v u->t=u
 |_,_,_,_,.non,.non=>rfl
 |_,_,_,_,.bl _,.bl _=>rfl
 |_,_,_,_,.int _,.int _=>rfl
 |_,_,_,_,.str _,.str _=>rfl
 |_,_,_,d,.tup h r,.tup h' r'=>by
  have e:=I.Hs h h'
  subst e
  rw[aC.inj I (by unfold dep at d; omega) r r']
 |_,_,_,d,.lst h r,.lst h' r'=>by
  have e:=I.wJ h h'
  subst e
  rw[aC.inj I (by unfold dep at d; omega) r r']
 |_,_,_,_,.tup h r,.lst h' r'=>by
  obtain⟨_,_,p,_⟩:=I.tuple h
  obtain⟨_,_,p',_⟩:=I.list h'
  exact absurd rfl (SeqAt.ne_of_list_tuple p'.isList p)
 |_,_,_,_,.lst h r,.tup h' r'=>by
  obtain⟨_,_,p,_⟩:=I.tuple h'
  obtain⟨_,_,p',_⟩:=I.list h
  exact absurd rfl (SeqAt.ne_of_list_tuple p'.isList p)
 |_,_,_,d,.bR h _ n,_=>by unfold dep at d; omega
 |_,_,_,_,.tup h r,.bR h' _ _=>by
  obtain⟨_,_,p,_⟩:=I.tuple h
  exact(I.SX h' p).elim
 |_,_,_,_,.lst h r,.bR h' _ _=>by
  obtain⟨_,_,p,_⟩:=I.list h
  exact(I.S5 h' p).elim
theorem aC.inj(I:Inv X pins σ H s):∀{v:List V} {t u:List Tr},deps t<=99->aC X.K H v t->aC X.K H v u->t=u
 |_,_,_,_,.nil,.nil=>rfl
 |_,_,_,d,.cons h r,.cons h' r'=>by
  unfold deps at d
  rw[Rep.inj I (by omega) h h',aC.inj I (by omega) r r']
end
theorem in1_units(A:Around):A.in1.units<=A.units+1:=by
 show A.units+1<=_
 omega
theorem xJ{xs:List V}{its:List Value}{j:Nat}(r:Vals xs its)(h:j<its.toArray.size):∃x,xs[j]?=some x/\RelV x its.toArray[j]:=by
 have h':j<its.length:=by simpa using h
 have hx:j<xs.length:=by rw[r.length]; exact h'
 obtain⟨u,h1,h2⟩:=r.get (List.getElem?_eq_getElem hx)
 refine⟨xs[j],List.getElem?_eq_getElem hx,?_⟩
 have e:u=its.toArray[j]:=by
  rw[List.getElem?_eq_getElem h']at h1
  have:=Option.some.inj h1
  simpa using this.symm
 rw[<-e]; exact h2
theorem JH{a b:List Tr}{j:Nat}{x y:Tr}(h1:a[j]?=some x)(h2:b[j]?=some y):nu a b j=eqT x y:=by
 unfold nu
 rw[h1,h2]
theorem oV:∀{ts:List Tr} {j:Nat} {t:Tr},ts[j]?=some t->dep t<=deps ts
 | [],_,_,h=>by simp at h
 |x::r,0,t,h=>by
  simp at h
  subst h
  unfold deps
  exact Nat.le_max_left _ _
 |x::r,j+1,t,h=>by
  have:=oV (ts:=r) (j:=j) (t:=t) (by simpa using h)
  unfold deps
  exact Nat.le_trans this (Nat.le_max_right _ _)
theorem uT(I:Inv X pins σ H s)(A:Around)(t u:Tr)(x y:V)(xv yv:Value)(hu:A.units+0<cLine)(hd:dep t<=0)(du:dep u<=99)(rx:Rep X.K H x t)(ry:Rep X.K H y u)(vx:RelV x xv)(vy:RelV y yv) :
  SeqAt.RcAt A s xv yv (eqT t u)/\SeqAt.EqAt A s xv yv (eqT t u):=by
 have hu0:A.units<cLine:=by omega
 cases rx with
 |tup h r=>unfold dep at hd; omega
 |lst h r=>unfold dep at hd; omega
 |bR h m n=>unfold dep at hd; omega
 |non =>
  cases vx
  cases ry with
  |non=>cases vy; unfold eqT; exact⟨SeqAt.RcAt.none_none,.same _⟩
  |bl b2=>cases vy; unfold eqT; exact⟨SeqAt.RcAt.none_bool _,SeqAt.EqAt.none_bool _⟩
  |int i2=>obtain⟨_,rfl⟩:=vy; unfold eqT; exact⟨SeqAt.RcAt.none_int _ _,SeqAt.EqAt.none_int _ _⟩
  |str z2=>obtain⟨_,rfl⟩:=vy; unfold eqT; exact⟨SeqAt.RcAt.none_str _ _,SeqAt.EqAt.none_str _ _⟩
  |tup h r=>cases vy; obtain⟨_,_,p,_⟩:=I.tuple h; unfold eqT; exact⟨SeqAt.RcAt.none_tuple p hu0,SeqAt.EqAt.none_tuple p hu0⟩
  |lst h r=>cases vy; obtain⟨_,_,p,_⟩:=I.list h; unfold eqT; exact⟨SeqAt.RcAt.none_list p.isList hu0,SeqAt.EqAt.none_list p.isList hu0⟩
  |bR h m n=>unfold dep at du; omega
 |bl b =>
  cases vx
  cases ry with
  |non=>cases vy; unfold eqT; exact⟨SeqAt.RcAt.bool_none _,SeqAt.EqAt.bool_none _⟩
  |bl b2=>cases vy; unfold eqT; exact⟨SeqAt.RcAt.bool_bool _ _,SeqAt.EqAt.bool_bool _ _⟩
  |int i2=>obtain⟨_,rfl⟩:=vy; unfold eqT; exact⟨SeqAt.RcAt.bool_int _ _ _,SeqAt.EqAt.bool_int _ _ _⟩
  |str z2=>obtain⟨_,rfl⟩:=vy; unfold eqT; exact⟨SeqAt.RcAt.bool_str _ _ _,SeqAt.EqAt.bool_str _ _ _⟩
  |tup h r=>cases vy; obtain⟨_,_,p,_⟩:=I.tuple h; unfold eqT; exact⟨SeqAt.RcAt.bool_tuple _ p hu0,SeqAt.EqAt.bool_tuple _ p hu0⟩
  |lst h r=>cases vy; obtain⟨_,_,p,_⟩:=I.list h; unfold eqT; exact⟨SeqAt.RcAt.bool_list _ p.isList hu0,SeqAt.EqAt.bool_list _ p.isList hu0⟩
  |bR h m n=>unfold dep at du; omega
 |int i =>
  obtain⟨_,rfl⟩:=vx
  cases ry with
  |non=>cases vy; unfold eqT; exact⟨SeqAt.RcAt.int_none _ _,SeqAt.EqAt.int_none _ _⟩
  |bl b2=>cases vy; unfold eqT; exact⟨SeqAt.RcAt.int_bool _ _ _,SeqAt.EqAt.int_bool _ _ _⟩
  |int i2=>obtain⟨_,rfl⟩:=vy; unfold eqT; exact⟨SeqAt.RcAt.int_int _ _ _ _,SeqAt.EqAt.int_int _ _ _ _⟩
  |str z2=>obtain⟨_,rfl⟩:=vy; unfold eqT; exact⟨SeqAt.RcAt.int_str _ _ _ _,SeqAt.EqAt.int_str _ _ _ _⟩
  |tup h r=>cases vy; obtain⟨_,_,p,_⟩:=I.tuple h; unfold eqT; exact⟨SeqAt.RcAt.int_tuple _ _ p hu0,SeqAt.EqAt.int_tuple _ _ p hu0⟩
  |lst h r=>cases vy; obtain⟨_,_,p,_⟩:=I.list h; unfold eqT; exact⟨SeqAt.RcAt.int_list _ _ p.isList hu0,SeqAt.EqAt.int_list _ _ p.isList hu0⟩
  |bR h m n=>unfold dep at du; omega
 |str z =>
  obtain⟨_,rfl⟩:=vx
  cases ry with
  |non=>cases vy; unfold eqT; exact⟨SeqAt.RcAt.str_none _ _,SeqAt.EqAt.str_none _ _⟩
  |bl b2=>cases vy; unfold eqT; exact⟨SeqAt.RcAt.str_bool _ _ _,SeqAt.EqAt.str_bool _ _ _⟩
  |int i2=>obtain⟨_,rfl⟩:=vy; unfold eqT; exact⟨SeqAt.RcAt.str_int _ _ _ _,SeqAt.EqAt.str_int _ _ _ _⟩
  |str z2=>obtain⟨_,rfl⟩:=vy; unfold eqT; exact⟨SeqAt.RcAt.str_str _ _ _ _,SeqAt.EqAt.str_str _ _ _ _⟩
  |tup h r=>cases vy; obtain⟨_,_,p,_⟩:=I.tuple h; unfold eqT; exact⟨SeqAt.RcAt.str_tuple _ _ p hu0,SeqAt.EqAt.str_tuple _ _ p hu0⟩
  |lst h r=>cases vy; obtain⟨_,_,p,_⟩:=I.list h; unfold eqT; exact⟨SeqAt.RcAt.str_list _ _ p.isList hu0,SeqAt.EqAt.str_list _ _ p.isList hu0⟩
  |bR h m n=>unfold dep at du; omega
theorem Bq(I:Inv X pins σ H s):∀(n:Nat) (A:Around) (t u:Tr) (x y:V) (xv yv:Value),A.units+n<cLine->dep t<=n->dep t<=99->dep u<=99->Rep X.K H x t->Rep X.K H y u->RelV x xv->RelV y yv ->
  SeqAt.RcAt A s xv yv (eqT t u)/\SeqAt.EqAt A s xv yv (eqT t u):=by
 intro n
 induction n with
 |zero=>exact λA t u x y xv yv hu hd _ du rx ry vx vy=>uT I A t u x y xv yv hu hd du rx ry vx vy
 |succ n ih =>
  intro A t u x y xv yv hu hd rR du rx ry vx vy
  have hu0:A.units<cLine:=by omega
  have hu1:A.in1.units+n<cLine:=by
   have:=in1_units A
   omega
  have he:∀{xs ys:List V} {ts us:List Tr} {its its2:List Value},Vals xs its->Vals ys its2->aC X.K H xs ts->aC X.K H ys us->deps ts<=n->deps ts<=99->deps us<=99->∀j (h1:j<its.toArray.size) (h2:j<its2.toArray.size),SeqAt.EqAt A.in1 s its.toArray[j] its2.toArray[j] (nu ts us j):=by
   intro xs ys ts us its its2 r1 r2 q1 q2 hde S6 JK j h1 h2
   obtain⟨a,ea,ra⟩:=xJ r1 h1
   obtain⟨b,eb,rb⟩:=xJ r2 h2
   obtain⟨ta,eta,qa⟩:=q1.get ea
   obtain⟨tb,uU,qb⟩:=q2.get eb
   rw[JH eta uU]
   exact(ih A.in1 ta tb a b _ _ hu1 (Nat.le_trans (oV eta) hde) (Nat.le_trans (oV eta) S6) (Nat.le_trans (oV uU) JK) qa qb ra rb).2
  have dt:∀{ts:List Tr},dep (.tup ts)<=n+1->deps ts<=n:=λ{ts} h=>by unfold dep at h; omega
  have dl:∀{ts:List Tr},dep (.lst ts)<=n+1->deps ts<=n:=λ{ts} h=>by unfold dep at h; omega
  have nt:∀{ts:List Tr},dep (.tup ts)<=99->deps ts<=99:=λ{ts} h=>by unfold dep at h; omega
  have nl:∀{ts:List Tr},dep (.lst ts)<=99->deps ts<=99:=λ{ts} h=>by unfold dep at h; omega
  have refs:∀{a b:Addr} {t u:Tr} {k:Bool},dep t<=99->Rep X.K H (.ref a) t->Rep X.K H (.ref b) u->k=eqT t u->SeqAt.RcAt A s (.ref a) (.ref b) k->SeqAt.EqAt A s (.ref a) (.ref b) k:=λ{a b t u k} d9 r1 r2 ek h=>by
   by_cases e:a=b
   ·subst e
    have:=Rep.inj I d9 r1 r2
    subst this
    rw[ek,xH]
    exact .same _
   ·exact .of_refs e h
  cases rx with
  | @tup a1 xs1 ts h r =>
   cases vx
   obtain⟨its,rv,p,_⟩:=I.tuple h
   cases ry with
   | @tup a2 xs2 us h' r' =>
    cases vy
    obtain⟨its2,iI,p2,_⟩:=I.tuple h'
    have R:=SeqAt.RcAt.tuples p p2 hu0 (he rv iI r r' (dt hd) (nt rR) (nt du))
    have el:its.toArray.size=ts.length:=by simpa using(rv.length.symm.trans r.length)
    have el2:its2.toArray.size=us.length:=by simpa using(iI.length.symm.trans r'.length)
    rw[el,el2]at R
    have eb:((List.range (min ts.length us.length)).all (nu ts us)&&ts.length == us.length)=eqT (.tup ts) (.tup us):=by
     unfold eqT
     by_cases e:ts.length=us.length
     ·rw[e,Nat.min_self,<-e,uR e,beq_self_eq_true,Bool.and_true]
     ·rw[beq_false_of_ne e,Bool.and_false,uQ e]
    rw[eb]at R
    exact⟨R,refs rR (.tup h r) (.tup h' r') rfl R⟩
   |lst h' r' =>
    cases vy
    obtain⟨_,_,p2,_⟩:=I.list h'
    unfold eqT
    exact⟨SeqAt.RcAt.tuple_list p p2.isList hu0,.tuple_list p p2.isList hu0⟩
   |bR h' m n=>unfold dep at du; omega
   |non=>cases vy; unfold eqT; exact⟨SeqAt.RcAt.tuple_none p hu0,.tuple_none p hu0⟩
   |bl b=>cases vy; unfold eqT; exact⟨SeqAt.RcAt.tuple_bool _ p hu0,.tuple_bool _ p hu0⟩
   |int i=>obtain⟨_,rfl⟩:=vy; unfold eqT; exact⟨SeqAt.RcAt.tuple_int _ _ p hu0,.tuple_int _ _ p hu0⟩
   |str z=>obtain⟨_,rfl⟩:=vy; unfold eqT; exact⟨SeqAt.RcAt.tuple_str _ _ p hu0,.tuple_str _ _ p hu0⟩
  | @lst a1 xs1 ts h r =>
   cases vx
   obtain⟨its,rv,p,_⟩:=I.list h
   cases ry with
   | @lst a2 xs2 us h' r' =>
    cases vy
    obtain⟨its2,iI,p2,_⟩:=I.list h'
    have el:its.toArray.size=ts.length:=by simpa using(rv.length.symm.trans r.length)
    have el2:its2.toArray.size=us.length:=by simpa using(iI.length.symm.trans r'.length)
    by_cases e:ts.length=us.length
    ·have R:=SeqAt.RcAt.lists p.isList p2.isList (by rw[el,el2,e]) hu0 (he rv iI r r' (dl hd) (nl rR) (nl du))
     rw[el,uR e]at R
     have eb:mF ts us=eqT (.lst ts) (.lst us):=by unfold eqT; rfl
     rw[eb]at R
     exact⟨R,refs rR (.lst h r) (.lst h' r') rfl R⟩
    ·have R:SeqAt.RcAt A s _ _ false:=SeqAt.RcAt.lists_lengths p.isList p2.isList (by rw[el,el2]; simpa using e) hu0
     have eb:false=eqT (.lst ts) (.lst us):=by unfold eqT; rw[uQ e]
     rw[eb]at R
     exact⟨R,refs rR (.lst h r) (.lst h' r') rfl R⟩
   |tup h' r' =>
    cases vy
    obtain⟨_,_,p2,_⟩:=I.tuple h'
    unfold eqT
    exact⟨SeqAt.RcAt.list_tuple p.isList p2 hu0,.list_tuple p.isList p2 hu0⟩
   |bR h' m n=>unfold dep at du; omega
   |non=>cases vy; unfold eqT; exact⟨SeqAt.RcAt.list_none p.isList hu0,.list_none p.isList hu0⟩
   |bl b=>cases vy; unfold eqT; exact⟨SeqAt.RcAt.list_bool _ p.isList hu0,.list_bool _ p.isList hu0⟩
   |int i=>obtain⟨_,rfl⟩:=vy; unfold eqT; exact⟨SeqAt.RcAt.list_int _ _ p.isList hu0,.list_int _ _ p.isList hu0⟩
   |str z=>obtain⟨_,rfl⟩:=vy; unfold eqT; exact⟨SeqAt.RcAt.list_str _ _ p.isList hu0,.list_str _ _ p.isList hu0⟩
  |bR h m n=>unfold dep at rR; omega
  |non=>exact uT I A _ _ _ _ _ _ (by omega) (by unfold dep; omega) du .non ry vx vy
  |bl b=>exact uT I A _ _ _ _ _ _ (by omega) (by unfold dep; omega) du (.bl b) ry vx vy
  |int i=>exact uT I A _ _ _ _ _ _ (by omega) (by unfold dep; omega) du (.int i) ry vx vy
  |str z=>exact uT I A _ _ _ _ _ _ (by omega) (by unfold dep; omega) du (.str z) ry vx vy
end
end L2
end
section
namespace L2
open PySem PySem.Spec PyProof.Rows
section
variable {X:Cx}{a b:Expr}{ta tb:TE}{pos:Pos}
def Br(K:FZ):R2:=λx y H Q=>∃t u,Rep K H x t/\Rep K H y u/\dep t<=40/\dep u<=40/\Q (.bl (eqT t u)) H
theorem nA(hu:X.A.units+64<cLine):cJ X (compareOp .Eq) (Br X.K):=by
 intro pins s σ H x y v u Q I rx ry h
 obtain⟨t,t',q1,q2,hd,hd2,q⟩:=h
 exact(Bq I 40 X.A t t' x y v u (by omega) hd (by omega) (by omega) q1 q2 rx ry).1 _ _ _ _ ⟨.bl _,H,I,rfl,q⟩
def uV(t:Tr)(ts:List Tr):Bool:=ts.any λu=>eqT u t
def Bs(K:FZ):R2:=λx y H Q=>∃t ts p xs,Rep K H x t/\y=.ref p/\(bG K H p xs\/cQ K H p xs)/\aC K H xs ts/\deps ts<=40/\dep t<=40/\Q (.bl (uV t ts)) H
theorem JL{xs:List V}{its:List Value}{ts:List Tr}{K:FZ}{H:Hp}(f:Tr->Bool)(e:Value->Bool)(r:Vals xs its)(q:aC K H xs ts)(h:∀x v t,x∈xs->RelV x v->Rep K H x t->t∈ts->e v=f t):its.any e=ts.any f:=by
 induction r generalizing ts with
 |nil=>cases q; rfl
 |cons r1 r2 ih =>
  cases q with
  |cons q1 q2 =>
   rw[List.any_cons,List.any_cons,h _ _ _ List.mem_cons_self r1 q1 List.mem_cons_self,ih q2 λx v t hx hr hq ht=>h x v t (List.mem_cons_of_mem _ hx) hr hq (List.mem_cons_of_mem _ ht)]
theorem Bt:∀{ts:List Tr} {t:Tr},t∈ts->dep t<=deps ts:=λ{ts t} h=>by
 obtain⟨i,hi,e⟩:=List.mem_iff_getElem.mp h
 exact oV (j:=i) (by rw[List.getElem?_eq_getElem hi,e])
open Classical in
theorem S7(hu:X.A.units+64<cLine):cJ X (compareOp .In) (Bs X.K):=by
 intro pins s σ H x y v u Q I rx ry h
 obtain⟨t,ts,p,xs,q1,rfl,hq,qs,hd,hd2,q⟩:=h
 cases ry
 have hu1:X.A.in1.units+40<cLine:=by
  have:=in1_units X.A
  omega
 -- what == tells of an item,by the item itself
 let e:Value->Bool:=λw'=>if h:∃z tz,z∈xs/\RelV z w'/\Rep X.K H z tz/\tz∈ts then eqT (Classical.choose (Classical.choose_spec h)) t else false
 have ee:∀z w' tz,z∈xs->RelV z w'->Rep X.K H z tz->tz∈ts->e w'=eqT tz t:=λz w' tz h1 h2 h3 h4=>by
  have hx:∃z tz,z∈xs/\RelV z w'/\Rep X.K H z tz/\tz∈ts:=⟨z,tz,h1,h2,h3,h4⟩
  show(if h:_ then _ else _)=_
  rw[dif_pos hx]
  have sp:=Classical.choose_spec (Classical.choose_spec hx)
  have key:∀z z' t1 t2,RelV z w'->RelV z' w'->dep t1<=99->Rep X.K H z t1->Rep X.K H z' t2->t1=t2:=λz z' t1 t2 a1 a2 d9 a3 a4=>by
   obtain rfl:=RelV.inj a1 a2
   exact Rep.inj I d9 a3 a4
  rw[key _ _ _ _ sp.2.1 h2 (by have:=Bt sp.2.2.2; omega) sp.2.2.1 h3]
 have mem:∀{its:List Value},Vals xs its->∀w'∈its,SeqAt.EqAt X.A.in1 s w' v (e w'):=by
  intro its r w' hw
  obtain⟨j,hj,ej⟩:=List.mem_iff_getElem.mp hw
  have hjx:j<xs.length:=by rw[r.length]; exact hj
  obtain⟨u',h1,h2⟩:=r.get (List.getElem?_eq_getElem hjx)
  rw[List.getElem?_eq_getElem hj,ej]at h1
  cases h1
  obtain⟨tz,h3,h4⟩:=qs.get (List.getElem?_eq_getElem hjx)
  have hm:=List.mem_of_getElem? h3
  rw[ee _ _ tz (List.getElem_mem hjx) h2 h4 hm]
  exact(Bq I 40 X.A.in1 tz t _ x _ v hu1 (Nat.le_trans (Bt hm) hd) (by have:=Bt hm; omega) (by omega) h4 q1 h2 rx).2
 rcases hq with hq|hq
 ·obtain⟨its,r,pl,hz⟩:=I.list hq
  refine SeqAt.in_listAt e pl.isList (λw hw=>mem r w (by simpa using hw)) ⟨.bl _,H,I,rfl,?_⟩
  rw[show its.toArray.any e=its.any e by simp,JL (λz=>eqT z t) e r qs λz w' tz h1 h2 h3 h4=>ee z w' tz h1 h2 h3 h4]
  exact q
 ·obtain⟨its,r,pl,hz⟩:=I.tuple hq
  refine SeqAt.in_tupleAt e pl (λw hw=>mem r w (by simpa using hw)) ⟨.bl _,H,I,rfl,?_⟩
  rw[show its.toArray.any e=its.any e by simp,JL (λz=>eqT z t) e r qs λz w' tz h1 h2 h3 h4=>ee z w' tz h1 h2 h3 h4]
  exact q
inductive Ty where|int|bool|str|tuple|list
def Ty.name:Ty->String
 |.int => "int" |.bool => "bool" |.str => "str" |.tuple => "tuple" |.list => "list"
def cV:Tr->Ty->Bool
 |.bl _,.bool=>true|.bl _,.int=>true|.int _,.int=>true|.str _,.str=>true|.tup _,.tuple=>true|.lst _,.list=>true
 |_,_=>false
def xK(K:FZ):List V->Hp->VK->Prop:=λxs H Q=>∃v t c,xs=[v,.ty (Ty.name c)]/\Rep K H v t/\Q (.bl (cV t c)) H
def xM(K:FZ):Prop:=∀c∈lJ,∀C,PySem.W.nsIn K mainGlobals c=some (some (.ref C))->(∀a,PySem.W.KitX K (.ref a) (.ref C) (Bo a C))/\∀y:Ty,PySem.W.kitOne K (.ref C) (.type y.name)=some false
theorem S8(hX:xM X.K):fZ X (.builtin "isinstance") (xK X.K):=by
 intro pins s σ H xs us Q I r h
 obtain⟨v,t,c,rfl,q1,q⟩:=h
 obtain⟨u,w',rfl,ru,qd⟩:=vals2 r
 obtain rfl:w'=Value.type (Ty.name c):=qd
 have fin:∀tk,EP X pins σ Q (.bool (cV t c)) {s with toks:=tk }:=λtk=>⟨.bl _,H,I.tok tk,rfl,q⟩
 cases q1 with
 |non=>cases ru; cases c <;> exact PySem.W.kia_one PySem.W.kitx_none I.jy True.intro (by kernel_rfl) (λz=>nomatch z) fin
 |bl y=>cases ru; cases c <;> exact PySem.W.kia_one PySem.W.kitx_bool I.jy True.intro (by kernel_rfl) (λz=>nomatch z) fin
 |int i=>obtain⟨_,rfl⟩:=ru; cases c <;> exact PySem.W.kia_one PySem.W.kitx_int I.jy True.intro (by kernel_rfl) (λz=>nomatch z) fin
 |str y=>obtain⟨_,rfl⟩:=ru; cases c <;> exact PySem.W.kia_one PySem.W.kitx_str I.jy True.intro (by kernel_rfl) (λz=>nomatch z) fin
 |tup h r =>
  cases ru
  obtain⟨_,_,⟨o,h1,h2,_⟩,_⟩:=I.tuple h
  cases c <;> exact PySem.W.kia_one PySem.W.kitx_tuple I.jy ⟨o,h1,h2⟩ (by kernel_rfl) (λz=>nomatch z) fin
 |lst h r =>
  cases ru
  obtain⟨_,_,p,_⟩:=I.list h
  obtain⟨o,h1,h2,_⟩:=p.isList
  cases c <;> exact PySem.W.kia_one PySem.W.kitx_list I.jy ⟨o,h1,h2⟩ (by kernel_rfl) (λz=>nomatch z) fin
 |bR h m n =>
  cases ru
  obtain⟨z1,z2⟩:=hX _ m _ n
  exact PySem.W.kia_one (z1 _) I.jy (I.hok _ _ h).1 (z2 c) (λz=>nomatch z) fin
def Bu(K:FZ):List V->Hp->VK->Prop:=λxs H Q=>∃(p:Addr) (bs:List Bool),xs=[.ref p]/\bG K H p (bs.map V.bl)/\Q (.bl (bs.all id)) H
theorem xO(hc:X.calm=true):fZ X (.builtin "all") (Bu X.K):=by
 intro pins s σ H xs us Q I r h
 obtain⟨p,bs,rfl,hq,q⟩:=h
 obtain⟨u,rfl,ru⟩:=vals1 r
 cases ru
 obtain⟨its,rv,pl,hz⟩:=I.list hq
 refine call_all_walk (wpAny_pyIter_list pl.isList ?_)
 obtain⟨ol,hol,hol'⟩:=id pl.isList
 have hlt:p<s.heap.objs.size:=Heap.lt_size hol
 have hlen:its.toArray.size=bs.length:=by simpa using rv.length.symm
 have at_:∀(i:Nat) (v:Value),its.toArray[i]?=some v->∃k,bs[i]?=some k/\v=Value.bool k:=λi v e=>by
  have e':its[i]?=some v:=by simpa using e
  have hi:i<its.length:=(List.getElem?_eq_some_iff.mp e').1
  have hb:i<(bs.map V.bl).length:=by rw[rv.length]; exact hi
  obtain⟨u',h1,h2⟩:=rv.get (List.getElem?_eq_getElem hb)
  rw[e']at h1
  cases h1
  have hb':i<bs.length:=by simpa using hb
  refine⟨bs[i],List.getElem?_eq_getElem hb',?_⟩
  rw[List.getElem_map]at h2
  exact h2
 refine⟨s.heap.objs.size,_,_,_,_,_,λi=>bs.getD i true,rfl,Walks.list (A:=X.A.in1) (I.ok.hd hc) s.heap.objs.size p (Nat.ne_of_lt hlt) its.toArray,⟨⟨_,Heap.get?_push_size _ rfl,rfl,rfl⟩,⟨ol,Heap.get?_push_of_some _ hol,hol'⟩⟩,?_,?_⟩
 ·intro i v s' Q' E' hP hQ'
  obtain⟨k,h1,rfl⟩:=at_ i v hP
  have:bs.getD i true=k:=by rw[List.getD_eq_getElem?_getD,h1]; rfl
  dsimp only at hQ'
  rw[this]at hQ'
  exact wpAny_truthy_bool hQ'
 ·intro h' tk hk
  have I1:Inv X pins σ H {s with heap:=h',toks:=tk }:=I.kept λb o e=>hk b o (by
   have:=Heap.lt_size e
   simp
   exact Nat.ne_of_lt this) (Heap.get?_push_of_some _ e)
  refine⟨.bl _,H,I1,rfl,?_⟩
  have eq:(List.range its.toArray.size).all (λi=>bs.getD i true)=bs.all id:=by
   rw[hlen]
   clear q hq rv at_ hlen hz
   induction bs with
   |nil=>rfl
   |cons b r ih =>
    rw[List.length_cons,List.range_succ_eq_map,List.all_cons,List.all_map,List.all_cons]
    exact congrArg (b && ·) ih
  rw[eq]
  exact q
end
end L2
end
section
namespace L2
open PySem PySem.Spec PyProof.Rows
def At(K:FZ)(mg:Str->Option Value)(x:Str)(st:Stmt):Prop:=∃f fd,rO K x x st f fd/\mg x=some (.ref f)
section
variable {X:Cx}{k:Nat}{x:Str}{ps:List Str}{sp:Sp}{p q pos:Pos}{e:Expr}{es:List Expr}{te:TE}{t:TA}
theorem S9(hX:xM X.K)(c:Ty)(he:PE X e te)(h1:X.mg "isinstance" = none) (h2:X.mg x=none) (hb:bootBuiltins x=some (.type c.name):=by decide +kernel) (hg1:Gl X "isinstance" := by rfl) (hg2:Gl X x:=by rfl) (hn:x ≠ "__name__" := by decide) (hd:(x == ("__debug__" : Str))=false:=by decide)
  (hs:starEach (e::[.Name x q]) X.env=(false,eval e X.env)::starEach [.Name x q] X.env:=by rfl):PE X (.Call (.Name "isinstance" p) [e,.Name x q] [] pos) (iH (xK X.K) (gQ te (gQ (tC (.ty c.name)) jf))) :=
 Iv (S8 hX) hg1 h1 PyProof.Rows.boot_isinstance (qj he (qj (Qv hg2 h2 hb rfl hn hd) aK) hs) (he:=hs)
end
end L2
end
section
namespace L2
open PySem PySem.Spec PyProof.Rows
def off(a:Addr)(H:Hp):Hp:=λb=>if b=a then none else H b
theorem off_ne{a b:Addr}{H:Hp}(h:b≠a):off a H b=H b:=if_neg h
theorem oW{a b:Addr}{H:Hp}{o:HO}(h:off a H b=some o):b≠a/\H b=some o:=by
 unfold off at h
 split at h
 ·cases h
 ·rename_i e; exact⟨e,h⟩
structure Pj(Pr:Hp->Hp)(H0:Hp):Prop where
 mono:∀{H H':Hp},Same H H'->Same (Pr H) (Pr H')
 sub:∀H,Same (Pr H) H
 new:∀{H:Hp} {r:Addr} {o:HO},Same H0 H->H r=none->Pr (upd H r o) r=some o
theorem Pj.id(H0:Hp):Pj (λH=>H) H0:=⟨λs=>s,λH=>Same.refl H,λ_ _=>dh⟩
theorem Pj.le{Pr:Hp->Hp}{H0 H1:Hp}(p:Pj Pr H0)(s:Same H0 H1):Pj Pr H1:=⟨p.mono,p.sub,λs' h=>p.new (s.trans s') h⟩
theorem dN{H:Hp}{p:Addr}(h:H p=none)(o:HO):Same H (upd H p o):=λb u q=>by rw[aN (jM q h)]; exact q
section
variable (K:FZ)(Pr:Hp->Hp)(σ : St)(H0:Hp)
end
section
variable {K:FZ}{Pr:Hp->Hp}{σ : St}{H0:Hp}{te tb:TE}{ta:TA}{T:Tr}{Ts Us:List Tr}
end
end L2
end
section
namespace L2
open PySem PySem.Spec PyProof.Rows
def notStar:Expr->Bool
 |.Starred _ _=>false
 |_=>true
theorem rT{e:Expr}{es:List Expr}{env:Env}(h:notStar e=true):starEach (e::es) env=(false,eval e env)::starEach es env:=by
 cases e <;> first|rfl|(unfold notStar at h; cases h)
def oX(K:FZ)(T:Tr):TE:=λ_ H Q=>∀v H',Same H H'->(∀Pr,Pj Pr H->Rep K (Pr H') v T)->Q v H'
def rW(K:FZ)(Ts:List Tr):TA:=λ_ H Q=>∀vs H',Same H H'->(∀Pr,Pj Pr H->aC K (Pr H') vs Ts)->Q vs H'
def xP(K:FZ)(Ts:List Tr):TE:=λ_ H Q=>∀a xs H1,Same H H1->H1 a=none->(∀Pr,Pj Pr H->aC K (Pr H1) xs Ts)->xs.length=Ts.length->Q (.ref a) (upd H1 a (.lst xs))
theorem PE.imp{X:Cx}{e:Expr}{t u:TE}(h:PE X e t)(i:∀σ H Q,u σ H Q->t σ H Q):PE X e u:=⟨λpins s σ H Q I q=>h pins s σ H Q I (i σ H Q q)⟩
theorem PA.imp{X:Cx}{e:List Expr}{t u:TA}(h:PA X e t)(i:∀σ H Q,u σ H Q->t σ H Q):PA X e u:=⟨λpos pins s σ H Q I q=>h pos pins s σ H Q I (i σ H Q q)⟩
section
variable {X:Cx}{e:Expr}{es:List Expr}{T:Tr}{Ts:List Tr}{pos:Pos}{k:Nat}
end
end L2
end
section
namespace L2
open PySem PySem.Spec PyProof.Rows
mutual
noncomputable def pd:Tr->PyData
 |.non=>.none
 |.bl b=>.bool b
 |.int i=>.int i
 |.str x=>.str x
 |.tup ts=>.tuple (jg ts)
 |.lst ts=>.list (jg ts)
 |.bR _=>.none
noncomputable def jg:List Tr->List PyData
 | []=>[]
 |t::r=>pd t::jg r
end
mutual
noncomputable def g8:Tr->Bool
 |.int i=>decide (i.natAbs.log2<1920)
 |.str x=>x.cps.toList.all λc=>decide (c<16 ^ 8)
 |.tup ts=>qt ts
 |.lst ts=>qt ts
 |.bR _=>false
 |_=>true
noncomputable def qt:List Tr->Bool
 | []=>true
 |t::r=>g8 t&&qt r
end
mutual
noncomputable def blk:Tr->Nat
 |.str x=>x.cps.size
 |.tup ts=>blks ts
 |.lst ts=>blks ts
 |_=>0
noncomputable def blks:List Tr->Nat
 | []=>0
 |t::r=>blk t+1+blks r
end
mutual
theorem JM:∀t:Tr,(pd t).bulk=blk t
 |.non=>rfl
 |.bl _=>rfl
 |.int _=>rfl
 |.str _=>rfl
 |.tup ts=>by simp only[pd,PyData.bulk,blk]; exact Bv ts
 |.lst ts=>by simp only[pd,PyData.bulk,blk]; exact Bv ts
 |.bR _=>rfl
theorem Bv:∀ts:List Tr,PyData.bulkAll (jg ts)=blks ts
 | []=>rfl
 |t::r=>by simp only[jg,PyData.bulkAll,blks]; rw[JM t,Bv r]
end
mutual
theorem Bw:∀t:Tr,(pd t).hasDict=false
 |.non=>rfl
 |.bl _=>rfl
 |.int _=>rfl
 |.str _=>rfl
 |.tup ts=>by simp only[pd,PyData.hasDict]; exact BJ ts
 |.lst ts=>by simp only[pd,PyData.hasDict]; exact BJ ts
 |.bR _=>rfl
theorem BJ:∀ts:List Tr,PyData.hasDictAll (jg ts)=false
 | []=>rfl
 |t::r=>by simp only[jg,PyData.hasDictAll]; rw[Bw t,BJ r]; rfl
end
mutual
theorem JN:∀t:Tr,(pd t).depth<=dep t
 |.non=>Nat.le_of_eq rfl
 |.bl _=>Nat.le_of_eq rfl
 |.int _=>Nat.le_of_eq rfl
 |.str _=>Nat.le_of_eq rfl
 |.tup ts=>by
  have:=BK ts
  simp only[pd,PyData.depth,dep]
  omega
 |.lst ts=>by
  have:=BK ts
  simp only[pd,PyData.depth,dep]
  omega
 |.bR _=>by simp only[pd,PyData.depth,dep]; omega
theorem BK:∀ts:List Tr,PyData.depthAll (jg ts)<=deps ts
 | []=>Nat.le_of_eq rfl
 |t::r=>by
  have h1:=JN t
  have h2:=BK r
  simp only[jg,PyData.depthAll,deps]
  omega
end
mutual
theorem BL:∀t:Tr,g8 t=true->(pd t).showable=true/\(pd t).leavesShort 1921=true
 |.non,_=>⟨rfl,rfl⟩
 |.bl _,_=>⟨rfl,rfl⟩
 |.int i,h=>by
  have h1:i.natAbs.log2<1920:=by simpa only[g8,decide_eq_true_eq]using h
  refine⟨by simpa only[pd,PyData.showable,decide_eq_true_eq]using h1,?_⟩
  simp only[pd,PyData.leavesShort,decide_eq_true_eq]
  exact int_text_len_1921 h1
 |.str x,h=>⟨rfl,by simpa only[pd,PyData.leavesShort,g8]using h⟩
 |.tup ts,h=>by
  have:=BP ts (by simpa only[g8]using h)
  simp only[pd,PyData.showable,PyData.leavesShort]
  exact this
 |.lst ts,h=>by
  have:=BP ts (by simpa only[g8]using h)
  simp only[pd,PyData.showable,PyData.leavesShort]
  exact this
 |.bR _,h=>by simp only[g8]at h; cases h
theorem BP:∀ts:List Tr,qt ts=true->PyData.showableAll (jg ts)=true/\PyData.leavesShortAll 1921 (jg ts)=true
 | [],_=>⟨rfl,rfl⟩
 |t::r,h=>by
  simp only[qt,Bool.and_eq_true]at h
  have h1:=BL t h.1
  have h2:=BP r h.2
  simp only[jg,PyData.showableAll,PyData.leavesShortAll,Bool.and_eq_true]
  exact⟨⟨h1.1,h2.1⟩,⟨h1.2,h2.2⟩⟩
end
theorem Tc{t:Tr}(h:g8 t=true)(hb:blk t<=8000):(pd t).shown.length<=sizeLine:=by
 have h1:=PyData.shown_le_bulk 1921 (by decide) (pd t) (BL t h).2
 rw[JM]at h1
 have h2:sizeLine=16777216:=by decide
 omega
section
variable {X:Cx}{pins:List (Addr × Obj)}{σ : St}{H:Hp}{s:Shared}
mutual
theorem Rep.reads(I:Inv X pins σ H s):∀{v:V} {t:Tr} {u:Value},g8 t=true->Rep X.K H v t->RelV v u->∃as,Reads s.heap u (pd t) as
 |_,_,_,_,.non,r=>by
  cases r
  exact⟨_,by simp only[pd]; exact .none⟩
 |_,_,_,_,.bl b,r=>by
  cases r
  exact⟨_,by simp only[pd]; exact .bool b⟩
 |_,_,_,_,.int i,r=>by
  obtain⟨_,rfl⟩:=r
  exact⟨_,by simp only[pd]; exact .int i _⟩
 |_,_,_,_,.str x,r=>by
  obtain⟨_,rfl⟩:=r
  exact⟨_,by simp only[pd]; exact .str x _⟩
 |_,_,_,k,.tup h q,r=>by
  cases r
  obtain⟨its,rv,⟨o,h1,h2,n,h3⟩,_⟩:=I.tuple h
  obtain⟨as,ha⟩:=aC.reads I (by simpa only[g8]using k) q rv
  exact⟨_,by simp only[pd]; exact .tuple h1 h2 h3 ha⟩
 |_,_,_,k,.lst h q,r=>by
  cases r
  obtain⟨its,rv,⟨o,n,h1,h2,_,h3⟩,_⟩:=I.list h
  obtain⟨as,ha⟩:=aC.reads I (by simpa only[g8]using k) q rv
  exact⟨_,by simp only[pd]; exact .list h1 h2 h3 ha⟩
 |_,_,_,k,.bR h _ _,r=>by simp only[g8]at k; cases k
theorem aC.reads(I:Inv X pins σ H s):∀{v:List V} {t:List Tr} {u:List Value},qt t=true->aC X.K H v t->Vals v u->∃as,ReadsAll s.heap u (jg t) as
 |_,_,_,_,.nil,r=>by
  cases r
  exact⟨_,by simp only[jg]; exact .nil⟩
 |_,_,_,k,.cons h q,r=>by
  cases r with
  |cons r1 r2 =>
   simp only[qt,Bool.and_eq_true]at k
   obtain⟨a,h1⟩:=Rep.reads I k.1 h r1
   obtain⟨b,h2⟩:=aC.reads I k.2 q r2
   exact⟨_,by simp only[jg]; exact .cons h1 h2⟩
end
end
def txt:Tr->Str
 |.str x=>x
 |t=>(pd t).shown
def BR(K:FZ):List V->Hp->VK->Prop:=λxs H Q=>∃v t,xs=[v]/\Rep K H v t/\g8 t=true/\blk t<=8000/\dep t<=40/\Q (.str (txt t)) H
theorem xQ{X:Cx}(hg:X.A.guards=some [])(hu:X.A.units+64<cLine):fZ X (.type "str") (BR X.K):=by
 intro pins s σ H xs us Q I r h
 obtain⟨v,t,rfl,q1,hok,hb,hd,q⟩:=h
 obtain⟨u,rfl,ru⟩:=vals1 r
 have hl:=Tc hok hb
 have hdp:=JN t
 have hx:=BL t hok
 cases q1 with
 |bR h m n=>simp only[g8]at hok; cases hok
 |non=>cases ru; exact P.str_of_none ⟨.str _,H,I.tok _,⟨_,rfl⟩,q⟩
 |bl b=>cases ru; exact P.str_of_bool ⟨.str _,H,I.tok _,⟨_,rfl⟩,q⟩
 |int i =>
  obtain⟨_,rfl⟩:=ru
  exact P.str_of_int (by simpa only[g8,decide_eq_true_eq]using hok) ⟨.str _,H,I.tok _,⟨_,rfl⟩,q⟩
 |str x=>obtain⟨_,rfl⟩:=ru; exact P.str_of_str ⟨.str _,H,I,⟨_,rfl⟩,q⟩
 |tup hh rr =>
  cases ru
  obtain⟨as,ha⟩:=Rep.reads I hok (.tup hh rr) (u:=.ref _) rfl
  exact str_of_reads ha hx.1 (PyData.noDict_hsm (Bw _)) hg (by omega) (λ_ _ e=>e) (λh' u tk hk=>⟨.str _,H,I.kept hk,⟨_,rfl⟩,q⟩) hl
 |lst hh rr =>
  cases ru
  obtain⟨as,ha⟩:=Rep.reads I hok (.lst hh rr) (u:=.ref _) rfl
  exact str_of_reads ha hx.1 (PyData.noDict_hsm (Bw _)) hg (by omega) (λ_ _ e=>e) (λh' u tk hk=>⟨.str _,H,I.kept hk,⟨_,rfl⟩,q⟩) hl
end L2
end
section
namespace L2
open PySem PySem.Spec PyProof.Rows
def JQ:V->Option Int->Option Int->Hp->VK->Prop:=λx lo hi H Q=>∃z,x=.str z/\z.length<=sizeLine/\Q (.str (Txt.slice z lo hi)) H
theorem Td{X:Cx}:lH X JQ:=by
 intro pins s σ H x v vl vu lo hi sl Q I rx hs pl pu h
 obtain⟨z,rfl,hz,q⟩:=h
 obtain⟨t,rfl⟩:=rx
 obtain⟨o,h1,h2,h3⟩:=hs
 have fin:∀(t':Tok) (k:Nat),EP X pins σ Q (.str (Txt.slice z lo hi) t') {s with toks:=k }:=λt' k=>⟨.str _,H,I.tok k,⟨_,rfl⟩,q⟩
 have hl:=Nat.le_trans (Txt.slice_le z lo hi) hz
 refine⟨"str",_,F.slot_str_getitem.lookup,typeIs_str _ _ _,?_⟩
 cases pl with
 |none =>
  cases pu with
  |none=>exact wpAny_getItem_str_slice (l:=none) (u:=none) (st:=none) ⟨o,h1,h2,h3⟩ rfl (post_val_or_str ⟨hl,λt' k=>fin t' k⟩)
  |int j uj=>exact wpAny_getItem_str_slice (l:=none) (u:=some (j,uj)) (st:=none) ⟨o,h1,h2,h3⟩ rfl (post_val_or_str ⟨hl,λt' k=>fin t' k⟩)
 |int i ui =>
  cases pu with
  |none=>exact wpAny_getItem_str_slice (l:=some (i,ui)) (u:=none) (st:=none) ⟨o,h1,h2,h3⟩ rfl (post_val_or_str ⟨hl,λt' k=>fin t' k⟩)
  |int j uj=>exact wpAny_getItem_str_slice (l:=some (i,ui)) (u:=some (j,uj)) (st:=none) ⟨o,h1,h2,h3⟩ rfl (post_val_or_str ⟨hl,λt' k=>fin t' k⟩)
def nw(H H':Hp):Hp:=λb=>match H b with
 |none=>H' b
 |some _=>none
end L2
end
section
namespace L2
open PySem PySem.Spec PyProof.Rows
noncomputable def iJ(P:Program)(w:World):jz:=λouter H s E e s'=>∃ea cls a0 H' B,e=.ref ea/\E cls none H'/\s'.os=s.os/\AllBare s'.gens/\Un (frs outer) [] H H' s.heap s'.heap/\d8 P w H' B /\
 Heap.FlyingW B outer ea cls a0 s'.heap/\∀b o,s.heap.get? b=some o->b∉frs outer->∃o',B.get? b=some o'
theorem Te{env:Env}{outer:List Env}{L b:Addr}(hf:env.frame=some L)(h:b∈frs (env::outer)):b=L\/b∈frs outer:=by
 unfold frs at h
 rw[List.filterMap_cons_some hf]at h
 exact List.mem_cons.mp h
theorem Tf{env:Env}{outer:List Env}{b:Addr}(h:b∈frs outer):b∈frs (env::outer):=by
 obtain⟨e,he,q⟩:=List.mem_filterMap.mp h
 exact List.mem_filterMap.mpr ⟨e,List.mem_cons_of_mem _ he,q⟩
theorem Ti{P:Program}{w:World}{H:Hp}{h:Heap}{l:List Addr}(x:d8 P w H h)(fr:∀b∈l,H b=none):d8 P w H (PySem.W.hideAll h l):=λa o e =>
 (x a o e).stay (λb u hb q=>PySem.W.hideAll_get _ q λhm=>by
  rcases hb with rfl|hb
  ·rw[fr _ hm]at e; cases e
  ·rw[fr _ hm]at hb; cases hb) (λ_ q=>q) λ_ _ q=>q
section
variable {P:Program}{w:World}{K:FZ}{mg:Str->Option Value}{base:Heap}{N:List Str}{qual:Str}{scope:Scope}{f:Addr}{cd:Value}{A:Around}{outer:List Env}{s:Shared}{H:Hp}{E:XK}{CX:jz}
theorem Un.left{pins:List (Addr × Obj)}{σ : St}{H1 H2:Hp}{s1:Shared}{h2 h3 B:Heap}(I:Inv (jA CX P w K mg base N qual scope f cd A outer s H E) pins σ H1 s1)
  (u:Un (frs (envOfC qual scope s.heap.objs.size f cd::outer)) [] H1 H2 s1.heap h2) (st:B.StaysIn h2) (kb:∀b o,s1.heap.get? b=some o->b∉frs (envOfC qual scope s.heap.objs.size f cd::outer)->∃o',B.get? b=some o')
  (fl:B.StaysIn h3) (sl:h2.UpToSlots h3):Un (frs outer) [] H H2 s.heap h3/\∀b o,s.heap.get? b=some o->b∉frs outer->∃o',B.get? b=some o':=by
 have ub:=I.base
 have hf:(envOfC qual scope s.heap.objs.size f cd).frame=some s.heap.objs.size:=by
  rcases I.ok.stk with z|z
  ·exact absurd (congrArg List.length z) (by show outer.length+1≠outer.length; omega)
  ·exact z.2
 have no:∀b o,s.heap.get? b=some o->b∉frs outer->b∉frs (envOfC qual scope s.heap.objs.size f cd::outer):=λb o e n z=>by
  rcases Te hf z with rfl|z
  ·exact absurd (Heap.lt_size e) (Nat.lt_irrefl _)
  ·exact n z
 have nx:∀b:Addr,b∉([]:List Addr):=λb z=>nomatch z
 have inB:∀b o,s.heap.get? b=some o->b∉frs outer->∃o',B.get? b=some o':=λb o e n=>by
  obtain⟨o1,e1⟩:=ub.there b o e (nx b)
  exact kb b o1 e1 (no b o e n)
 have slots:∀b o,s.heap.get? b=some o->H b=none->b∈frs outer->∃sl,h3.get? b=some {o with slots:=sl }:=λb o e n z=>by
  obtain⟨sl1,e1⟩:=ub.slot b o e n z (nx b)
  obtain⟨sl2,e2⟩:=u.slot b _ e1 (ub.free b o e n (nx b)) (Tf z) (nx b)
  obtain⟨_,o',e',nf⟩:=I.ok.jZ.mem z
  have e'':s.heap.get? b=some o':=e'
  rw[e]at e''
  cases e''
  obtain⟨Tj,e3⟩:=sl b _ e2 nf
  exact⟨Tj,e3⟩
 refine⟨⟨λb o e n z _=>?_,λb o e n z _=>slots b o e n z,λb o e n _=>?_,λb o e _=>?_,λb xs q=>u.tups b xs (ub.tups b xs q),λb o q z=>u.lB b o q (ub.lB b o q z),λb ps q=>?_⟩,inB⟩
 ·have e1:=ub.keep b o e n z (nx b)
  have e2:=u.keep b o e1 (ub.free b o e n (nx b)) (no b o e z) (nx b)
  obtain⟨o',e3⟩:=inB b o e z
  have e4:=st b o' e3
  rw[e2]at e4
  cases e4
  exact fl b o e3
 ·obtain⟨o1,e1⟩:=ub.there b o e (nx b)
  exact u.free b o1 e1 (ub.free b o e n (nx b)) (nx b)
 ·by_cases z:b∈frs outer
  ·obtain⟨sl,e1⟩:=slots b o e (I.ok.p7 b z) z
   exact⟨_,e1⟩
  ·obtain⟨o',e1⟩:=inB b o e z
   exact⟨o',fl b o' e1⟩
 ·obtain⟨m1,e1⟩:=ub.lC b ps q
  obtain⟨m2,e2⟩:=u.lC b _ e1
  exact⟨m1++m2,by rw[e2,Array.append_assoc]⟩
end
def Raises(X:Cx)(E:XK):Prop:=∀(pins:List (Addr × Obj)) (σ : St) (H:Hp) (s:Shared) (h':Heap) (e C:Addr) (us:List Value),Inv X pins σ H s->Heap.MadeExcOf s.heap h' e (.ref C) us->E (.ref C) none H->X.xe (.ref e) {s with heap:=h' }
theorem xR{P:Program}{w:World}{K:FZ}{mg:Str->Option Value}{base:Heap}{N:List Str}{qual:Str}{scope:Scope}{f:Addr}{cd:Value}{A:Around}{outer:List Env}{s:Shared}{H:Hp}{E:XK} :
  Raises (jA (iJ P w) P w K mg base N qual scope f cd A outer s H E) E:=by
 intro pins σ H1 s1 h' e C us I hx q
 have hs:=I.stack
 have hf:(envOfC qual scope s.heap.objs.size f cd).frame=some s.heap.objs.size:=by
  rcases I.ok.stk with z|z
  ·exact absurd (congrArg List.length z) (by show outer.length+1≠outer.length; omega)
  ·exact z.2
 have hin:∀env∈(envOfC qual scope s.heap.objs.size f cd::outer),∀a,env.frame=some a->a∈frs (envOfC qual scope s.heap.objs.size f cd::outer):=λenv he b hb=>List.mem_filterMap.mpr ⟨env,he,hb⟩
 have JR:(PySem.W.hideAll s1.heap (frs (envOfC qual scope s.heap.objs.size f cd::outer))).StaysIn s1.heap:=λb o z=>PySem.W.of_hideAll _ z
 have stH:(PySem.W.hideAll s1.heap (frs (envOfC qual scope s.heap.objs.size f cd::outer))).StaysIn h':=λb o z=>hx.keeps b o (JR b o z)
 refine wpAny_leaves_madeW (base:=PySem.W.hideAll s1.heap (frs (envOfC qual scope s.heap.objs.size f cd::outer))) (h:=s1.heap) I.ok.frames hf JR (PySem.W.funFrames_hide hs hin) hx λh'' t fl _ _ sl=>?_
 obtain⟨un,ib⟩:=Un.left (B:=PySem.W.hideAll s1.heap (frs (envOfC qual scope s.heap.objs.size f cd::outer))) I (Un.kept (h':=h') hx.keeps) stH (λb o z n=>⟨o,PySem.W.hideAll_get _ z n⟩) fl.1 sl
 exact⟨e,.ref C,.ref t,H1,_,rfl,q,I.os,I.bare,un,Ti I.hok I.Ac,fl,ib⟩
theorem dX{P:Program}{w:World}{K:FZ}{mg:Str->Option Value}{base:Heap}{N:List Str}{qual:Str}{scope:Scope}{f:Addr}{cd:Value}{A:Around}{outer:List Env}{s:Shared}{H:Hp}{E:XK} :
  Passes (iJ P w) (jA (iJ P w) P w K mg base N qual scope f cd A outer s H E) E:=by
 intro pins σ H1 s1 e s' I h
 obtain⟨ea,cls,a0,H2,B,rfl,q,os,bare,un,hok,fl,kb⟩:=h
 have hf:(envOfC qual scope s.heap.objs.size f cd).frame=some s.heap.objs.size:=by
  rcases I.ok.stk with z|z
  ·exact absurd (congrArg List.length z) (by show outer.length+1≠outer.length; omega)
  ·exact z.2
 refine wpAny_leaves_onW (base:=B) I.ok.frames hf fl λh'' JT sl=>?_
 obtain⟨un',ib⟩:=Un.left (B:=B) I un fl.1 kb JT.1 sl
 exact⟨ea,cls,a0,H2,B,rfl,q,os.trans I.os,bare,un',hok,JT,ib⟩
def JV(E:XK)(C:Addr)(te:TE):TS:=λ_ σ H=>te σ H λv H1=>[v].length=1/\E (.ref C) none H1
theorem xT{X:Cx}{E:XK}{x:Str}{C:Addr}{B newId initId:String}{bm:List Value}{np cpos pos:Pos}{e:Expr}{te:TE}(R:Raises X E)(O:OwnCls x C bm newId X.mg X.base)(FB:ExcBaseFacts B newId initId bm)(hc:X.calm=true)(ha:PE X e te)
  (hg:Gl X x:=by rfl) (hd:(x == ("__debug__" : Str))=false:=by decide) (hs:starEach [e] X.env=[(false,eval e X.env)]:=by rfl) :
  PS X (.Raise (some (.Call (.Name x np) [e] [] cpos)) none pos) (JV E C te):=by
 refine⟨λpins s σ H D I h=>?_⟩
 obtain⟨tl,N,nm,q,bs,hdct,sn,sub,ab,col,dd,k0,k1,k2,k3,k5,mN,hC,hN,hni,T⟩:=O.obj
 refine wpAny_Raise_call_subT (C:=C) (nm:=nm) (q:=q) (N:=N) (bs:=bs) (bm:=tl) (hdct:=hdct) (sn:=sn) (sub:=sub) (ab:=ab) (col:=col) (dd:=dd) (k0:=k0) (k1:=k1) (k2:=k2) (k3:=k3) (k5:=k5)
  FB (mN:=mN) (T.hasType FB.hasBase) (I.ok.hd hc) (by rw[hs]; rfl) hni (Ad I hg O.bound ⟨rfl,?_⟩ hd)
 have ga:PA X [e] (gQ te jf):=qj ha aK (by rw[hs]; rfl)
 have z:=ga cpos pins s σ H (λvs H1=>vs.length=1/\E (.ref C) none H1) I (by
  show te σ H λv H1=>_
  exact h)
 rw[hs]at z ⊢
 refine Calls.evalArgs_plain (wpAny_mono z (λus s₂ h₂=>?_) λ_ _ y=>y)
 obtain⟨vs,H2,I2,rv,hl,hE⟩:=h₂
 refine⟨rfl,?_,I2.bk _ _ hC,hN.keeps I2.bk,T.keeps I2.bk,λh' e' hm=>R pins σ H2 s₂ h' e' C us I2 hm hE⟩
 rw[<-rv.length,hl]
 decide
end L2
end
section
namespace L2
open PySem PySem.Spec PyProof.Rows
def XP(X:Cx)(pins:List (Addr × Obj))(EX:St->XK)(e:Value)(s':Shared):Prop:=∃σ H s,Inv X pins σ H s/\iJ X.prog X.w X.stack H s (EX σ) e s'
abbrev TX:=Ends->(St->XK)->St->Hp->Prop
abbrev TEX:=(St->XK)->TE
section
variable {X:Cx}{k:Nat}{f:Addr}{fd:FuncData}{x:Str}{ps:List Str}{sp:Sp}{p pos:Pos}{e:Expr}{es:List Expr}{te:TEX}{t:TA}{st:Stmt}{rest:List Stmt}{a b:TX}
end
end L2
end
section
namespace L2
open PySem PySem.Spec PyProof.Rows
section
variable {X:Cx}{pins:List (Addr × Obj)}{σ : St}{H1 H2:Hp}{s0 s1:Shared}{B h6:Heap}{ea:Addr}{cls a0:Value}
end
end L2
end
section
namespace L2
open PySem PySem.Spec PyProof.Rows
section
variable {X:Cx}{pins:List (Addr × Obj)}{σ : St}{H:Hp}{s:Shared}{e:Value}
end
end L2
end
section
namespace L2
open PySem PySem.Spec PyProof.Rows PySem.W PySem.Builtin PySem.Builtin.ObjectAttr PySem.Builtin.Getset_descriptor
structure mG(K:Frag)(C:Addr):Prop where
 ga:findIn K (.ref C) "__getattribute__" = some (some (.builtin "BaseException.__getattribute__"))
 gn:findIn K (.ref C) "__getattr__" = some none
 cl:findIn K (.ref C) "__class__" = some (some (.builtin "object.__class__"))
 ob:mroIn K C (.type "object")=some true
 be:mroIn K C (.type "BaseException")=some true
 is:(clsIn K C).isSome=true
section
variable {prog:Program}{w:World}{A:Around}{E:Value->Shared->Prop}{h:Heap}{g:Array GenState}{d:Drawn}{t:Nat}{os:OsState}{a C:Addr}{o:Obj}{K:Frag}
theorem Tn{R:Result->Shared->Prop}(X:K.In h)(Z:mG K C)(hx:h.get? a=some o)(hc:o.cls=.ref C)(hq:R (.ok (.ret (.ref C))) ⟨h,g,d,t,os⟩) :
  codeAny (model prog w) A (.call (.builtin "getset_descriptor.__get__") ⟨[.builtin "object.__class__",.ref a,.ref C],[]⟩) R ⟨h,g,d,t,os⟩:=by
 have ty:Looks (model prog w) h (typeOf (.ref a)) (.ref C):=hc▸(Looks.ld hx).andThen .now
 have ms:=looks_mroIn (M:=model prog w) X Z.ob
 refine codeAny_call_builtin KF.slot_gs.plain KF.entry_gs (KF.slot_gs.check _ _ _ _ _ _ _ _ KF.type_class (KF.args_gs _ _ _) ?_)
 unfold Builtin.«getset_descriptor.__get__»
 unfold Builtin.Getset_descriptor.descrGet
 rw[dga_obj]
 refine wpAny_bind (wpAny_pure ?_)
 unfold Builtin.Getset_descriptor.descrGetter
 unfold Builtin.Getset_descriptor.descrCheckInstance
 unfold Builtin.Getset_descriptor.descrNameAndClass
 unfold isInstance
 simp only[KF.owner_class]
 repeat lk
 refine⟨Code.quiet_builtin _ (by decide +kernel),codeAny_builtin KF.entry_class ?_⟩
 unfold Builtin.«object.__class__»
 unfold shownTypeOf
 repeat lk
 all_goals first|exact hq|assumption
theorem Tp{tk:Tok}{Q:Fin->Shared->Prop}(X:K.In h)(Z:mG K C)(hx:h.get? a=some o)(hc:o.cls=.ref C)(hq:Q (.done (.ret (.ref C))) ⟨h,g,d,t,os⟩) :
  wpAny (model prog w) A (Builtin.«object.__getattribute__» ⟨[.ref a,.str "__class__" tk],[]⟩) Q E ⟨h,g,d,t,os⟩:=by
 have hT5:(⟨h,g,d,t,os⟩:Shared).TypeIs (.builtin "object.__class__") "getset_descriptor" := KF.type_class
 have f6:=F.slot_gs_get.lookup
 have f7:=F.slot_gs_set.lookup
 have lc:=λA (Q:Option Value->Shared->Prop) E (q:Q (some (.builtin "object.__class__")) ⟨h,g,d,t,os⟩)=>looks_findIn (M:=model prog w) X Z.cl A Q E ⟨h,g,d,t,os⟩ (λ_ _ z=>z) q
 repeat(any_goals (first|assumption|(with_reducible refine wpAny_loadPart_at hx ?_; rw[hc])|with_reducible refine lc _ _ _ ?_|wp_step))
 refine Tn X Z hx hc ?_
 repeat(any_goals (first|assumption|wp_step))
theorem Tq{nameV:Value}{Q:Unit->Shared->Prop}(X:K.In h)(Z:mG K C)(hx:h.get? a=some o)(hc:o.cls=.ref C)(hq:Q () ⟨h,g,d,t,os⟩) :
  wpAny (model prog w) A (checkBuiltinCall "BaseException.__getattribute__" ⟨[.ref a,nameV],[]⟩) Q E ⟨h,g,d,t,os⟩:=by
 have b1:builtinKind "BaseException.__getattribute__" = some .slot:=by decide +kernel
 have b2:splitId "BaseException.__getattribute__" = some ("BaseException", "__getattribute__"):=by decide +kernel
 have ha:=F.args_bexc_ga (.ref a) nameV
 have lc:=λA (Q:Bool->Shared->Prop) E (q:Q true ⟨h,g,d,t,os⟩)=>looks_mroIn (M:=model prog w) X Z.be A Q E ⟨h,g,d,t,os⟩ (λ_ _ z=>z) q
 simp only[checkBuiltinCall,b1,b2]
 refine wpAny_bind ?_
 unfold isInstance
 repeat(first|(with_reducible refine wpAny_loadPart_at hx ?_; rw[hc])|with_reducible refine lc _ _ _ ?_|wp_step)
 exact hq
theorem Tt{tk:Tok}{R:Result->Shared->Prop}(X:K.In h)(Z:mG K C)(hx:h.get? a=some o)(hc:o.cls=.ref C)(hq:R (.ok (.ret (.ref C))) ⟨h,g,d,t,os⟩) :
  codeAny (model prog w) A (.call (.builtin "BaseException.__getattribute__") ⟨[.ref a,.str "__class__" tk],[]⟩) R ⟨h,g,d,t,os⟩ :=
 codeAny_call_builtin PySem.F.attr_ValueError.ga.plain F.entry_bexc_ga (Tq X Z hx hc (Tp X Z hx hc hq))
theorem Tv{tk:Tok}{Q:Value->Shared->Prop}(X:K.In h)(Z:mG K C)(hx:h.get? a=some o)(hc:o.cls=.ref C)(hq:Q (.ref C) ⟨h,g,d,t,os⟩) :
  wpAny (model prog w) A (getAttrBy (.ref a) (.str "__class__" tk) false) Q E ⟨h,g,d,t,os⟩:=by
 have f3:=PySem.F.attr_ValueError.ga.bind (.ref a)
 have hx2:(Value.builtin "BaseException.__getattribute__" == Value.builtin "object.__getattribute__")=false:=by decide +kernel
 have hx1:(onTheHeap (Value.ref C)&&Value.builtin "BaseException.__getattribute__" == Value.builtin "object.__getattribute__")=false:=by rw[hx2]; rfl
 have l1:=λA (Q:Option Value->Shared->Prop) E (q:Q (some (.builtin "BaseException.__getattribute__")) ⟨h,g,d,t,os⟩)=>looks_findIn (M:=model prog w) X Z.ga A Q E ⟨h,g,d,t,os⟩ (λ_ _ z=>z) q
 have l2:=λA (Q:Option Value->Shared->Prop) E (q:Q none ⟨h,g,d,t,os⟩)=>looks_findIn (M:=model prog w) X Z.gn A Q E ⟨h,g,d,t,os⟩ (λ_ _ z=>z) q
 repeat(any_goals (first|assumption|(with_reducible refine wpAny_loadPart_at hx ?_; rw[hc])|with_reducible refine l1 _ _ _ ?_|with_reducible refine l2 _ _ _ ?_|wp_step))
 refine Tt X Z hx hc ?_
 repeat(any_goals (first|assumption|wp_step))
theorem Tw{Q:Option Value->Shared->Prop}(X:K.In h)(Z:mG K C)(hx:h.get? a=some o)(hc:o.cls=.ref C)(hq:Q (some (.ref C)) ⟨h,g,d,t+1,os⟩) :
  wpAny (model prog w) A (getAttr? (.ref a) "__class__") Q E ⟨h,g,d,t,os⟩:=by
 unfold getAttr? getAttrBy?
 repeat(any_goals (first|assumption|with_reducible apply Tv X Z hx hc|wp_step))
theorem Tz(Z:mG K C):KitX K (.ref a) (.ref C) (Bo a C) where
 ty:=λ_ _ _ ⟨o,_,h1,h2,_⟩=>h2▸(Looks.ld h1).andThen .now
 it:=λ_ _ X _=>by
  obtain⟨cd,e⟩:=Option.isSome_iff_exists.mp Z.is
  unfold clsIn at e
  split at e
  ·rename_i ho
   intro A' Q' E' s' k q
   unfold isType loadHead
   exact wpAny_bind (wpAny_loadPart (k _ _ (X _ _ ho)) (wpAny_pure q))
  ·cases e
 ne:=λh tp dd its n sl X htp=>by
  obtain⟨cd,e⟩:=Option.isSome_iff_exists.mp Z.is
  refine Bool.eq_false_iff.mpr λq=>?_
  have q':C=tp:=Value.ref.inj (beq_iff_eq.mp q)
  subst q'
  unfold clsIn at e
  split at e
  ·rename_i ho
   have z:=(X _ _ ho).symm.trans htp
   cases z
  ·cases e
 ca:=λ{_ _ _ _ _ s} X p k=>by
  obtain⟨h,g,d,t,os⟩:=s
  obtain⟨o,_,h1,h2,_⟩:=p
  exact Tw X Z h1 h2 k
end
section
variable {X:Cx}
end
end L2
end
section
namespace L2
open PySem
theorem TF(a b:Int):a=b*a.fdiv b+a.fmod b:=by
 have:=Int.mul_fdiv_add_fmod a b
 omega
theorem TJ(a b:Int)(h:b≠0):(a.fmod b).natAbs<b.natAbs:=by
 have h1:=Int.emod_nonneg a h
 have h2:=Int.emod_lt a h
 rw[Int.fmod_eq_emod]
 split
 ·omega
 ·rename_i hn
  have hb:¬0<=b:=λz=>hn (.inl z)
  have hd:¬b∣a:=λz=>hn (.inr z)
  have h3:a%b≠0:=λz=>hd (Int.dvd_of_emod_eq_zero z)
  omega
theorem TQ(a b:Int):Int.gcd b (a.fmod b)=Int.gcd a b:=by
 have e:=TF a b
 apply Nat.dvd_antisymm
 ·refine Int.dvd_gcd ?_ ?_
  ·have h1:(Int.gcd b (a.fmod b):Int)∣b:=Int.gcd_dvd_left ..
   have h2:(Int.gcd b (a.fmod b):Int)∣a.fmod b:=Int.gcd_dvd_right ..
   have h3:=Int.dvd_add (Int.dvd_mul_of_dvd_left (c:=a.fdiv b) h1) h2
   rw[<-e]at h3
   exact h3
  ·exact Int.gcd_dvd_left ..
 ·refine Int.dvd_gcd ?_ ?_
  ·exact Int.gcd_dvd_right ..
  ·have h1:(Int.gcd a b:Int)∣a:=Int.gcd_dvd_left ..
   have h2:(Int.gcd a b:Int)∣b:=Int.gcd_dvd_right ..
   have e2:a.fmod b=a-b*a.fdiv b:=by omega
   rw[e2]
   exact Int.dvd_sub h1 (Int.dvd_mul_of_dvd_left h2)
theorem TV(a:Int):(if a<0 then -a else a)=((Int.gcd a 0:Nat):Int):=by
 rw[Int.gcd_zero_right]
 split <;> omega
theorem TY{a b:Int}(hb:0<b):0<((Int.gcd a b:Nat):Int)/\((Int.gcd a b:Nat):Int)<=b/\1<=b / (Int.gcd a b:Nat)/\Int.gcd (a / (Int.gcd a b:Nat)) (b / (Int.gcd a b:Nat))=1/\(0<=a->0<=a / (Int.gcd a b:Nat)) /\
  a=(a / (Int.gcd a b:Nat))*(Int.gcd a b:Nat)/\b=(b / (Int.gcd a b:Nat))*(Int.gcd a b:Nat):=by
 have hg:0<Int.gcd a b:=Int.gcd_pos_of_ne_zero_right a (by omega)
 have hgi:0<((Int.gcd a b:Nat):Int):=by omega
 have d1:(Int.gcd a b:Int)∣a:=Int.gcd_dvd_left ..
 have d2:(Int.gcd a b:Int)∣b:=Int.gcd_dvd_right ..
 have e1:=Int.ediv_mul_cancel d1
 have e2:=Int.ediv_mul_cancel d2
 refine⟨hgi,Int.le_of_dvd hb d2,?_,Int.gcd_ediv_gcd_ediv_gcd hg,λh=>Int.ediv_nonneg h (by omega),e1.symm,e2.symm⟩
 have:0<b / (Int.gcd a b:Nat):=Int.ediv_pos_of_pos_of_dvd hb (by omega) d2
 omega
end L2
end
section
namespace L2
open PySem PySem.Spec PyProof.Rows
section
variable {X:Cx}
end
end L2
end
section
namespace L2
open PySem PySem.Spec PyProof.Rows PySem.W
theorem JW{K:Frag}{h:Heap}{mg:Str->Option Value}{x:Str}{C:Addr}{bmB:List Value}{newId:String}(X:K.In h)(G:h.Ns mainGlobals mg)(e:nsIn K mainGlobals x=some (some (.ref C)))(q:excIn K C bmB newId=true):OwnCls x C bmB newId mg h:=by
 constructor
 ·exact mg_of X G e
 unfold excIn at q
 split at q
 case h_2=>cases q
 rename_i dd cd sl lk
 split at q
 case h_2=>cases q
 rename_i c0 bm y0 y1 y2 y3 nid y5 hm hl
 rw[Bool.and_eq_true,Bool.and_eq_true,Bool.and_eq_true,Bool.and_eq_true,Bool.and_eq_true]at q
 obtain⟨⟨⟨⟨⟨q1,q2⟩,q3⟩,q4⟩,q5⟩,q6⟩:=q
 have r1:=beq_iff_eq.mp q1
 have r2:=beq_iff_eq.mp q2
 have r6:=beq_iff_eq.mp q6
 have r3:cd.hasDel=false:=by simpa using q3
 subst r1 r2
 have hsl:sl = #[y0,y1,y2,y3,some (.builtin nid),y5]:=by
  cases sl with
  |mk l=>exact congrArg Array.mk hl
 subst hsl
 cases cd with
 |mk nm bs mro ns qn hd sn sub ab col del =>
  dsimp only at hm r3 q5 r6
  subst hm r3
  exact⟨bm,ns,nm,qn,bs,hd,sn,sub,ab,col,dd,y0,y1,y2,y3,y5,_,X _ _ lk,.of_isNs (isNs_of_in X q5),nsMap_none_of_in X q5 r6,tail_of_in X q4⟩
section
variable {P:Program}{w:World}{K:Frag}{mg:Str->Option Value}{base:Heap}
theorem rO.T3{x qual:Str}{st:Stmt}{f:Addr}{fd:FuncData}{N ps:List Str}{k:Nat}{sp:Sp}(F:rO K x qual st f fd)(S:oM N ps (bw st))(len:∀vs H Q E,sp vs H Q E->vs.length=ps.length)
  (hbody:∀(cdv:Value) (A:Around) (outer:List Env) (s:Shared) (H:Hp) (vs:List V) (Q:VK) (E:XK),fC k (A.deeper (envOfC qual (bw st) s.heap.objs.size f cdv))->sp vs H Q E ->
   ∃t,iD (jA (iJ P w) P w K mg base N qual (bw st) f cdv A outer s H E) (jB st) t/\t {nx:=λ_ H'=>Q .non H',rt:=Q } (start N vs) H):jN P w K mg base (iJ P w) (k+1) f fd ps sp:=by
 obtain⟨oc,od,kV,doc,pm,an,cdv,ct,osl,rfl,lk,hcd⟩:=F.ex
 exact Ra lk hcd S len λA outer s H vs Q E hr h=>hbody cdv A outer s H vs Q E hr h
def aP(P:Program)(w:World)(K:Frag)(mg:Str->Option Value)(base:Heap)(k:Nat)(x:Str)(ps:List Str)(sp:Sp):Prop :=
 ∃f fd,jN P w K mg base (iJ P w) k f fd ps sp/\Binds K fd ps []/\keepIn K (.ref f)=true/\mg x=some (.ref f)
theorem aP.mono{j k:Nat}{x:Str}{ps:List Str}{sp:Sp}(D:aP P w K mg base j x ps sp)(h:j<=k):aP P w K mg base k x ps sp:=by
 obtain⟨f,fd,h1,h2⟩:=D
 exact⟨f,fd,h1.mono h,h2⟩
theorem At.BW{k:Nat}{x:Str}{st:Stmt}{N ps:List Str}{sp:Sp}(a:At K mg x st)(S:oM N ps (bw st))
  (hb:∀(kV doc pm:Value) (an:Option Addr) (cdv ct:Value) (us:List Value),us.length=ps.length->bindArgs (fnOf x x (nq st) (jB st) (bw st) .none kV doc pm an cdv ct) ⟨us,[]⟩=pure (ps.zip us))
  (len:∀vs H Q E,sp vs H Q E->vs.length=ps.length)
  (hbody:∀(f:Addr) (cdv:Value) (A:Around) (outer:List Env) (s:Shared) (H:Hp) (vs:List V) (Q:VK) (E:XK),fC k (A.deeper (envOfC x (bw st) s.heap.objs.size f cdv))->sp vs H Q E ->
   ∃t,iD (jA (iJ P w) P w K mg base N x (bw st) f cdv A outer s H E) (jB st) t/\t {nx:=λ_ H'=>Q .non H',rt:=Q } (start N vs) H):aP P w K mg base (k+1) x ps sp:=by
 obtain⟨f,fd,F,m⟩:=a
 exact⟨f,fd,F.T3 S len λcdv A outer s H vs Q E hr h=>hbody f cdv A outer s H vs Q E hr h,F.binds hb,F.kp,m⟩
end
section
variable {X:Cx}{k:Nat}{x:Str}{ps:List Str}{sp:Sp}{p pos:Pos}{e:Expr}{es:List Expr}{t:TA}
theorem T4{P:Program}{w:World}:Passes (iJ P w) X E0:=λ_ _ _ _ _ _ _ h=>by
 obtain⟨_,_,_,_,_,_,q,_⟩:=h
 exact q.elim
end
end L2
end
section
namespace L2
open PySem PySem.Spec PyProof.Rows
noncomputable def BX(K:FZ)(l1 l2:Addr):It where
 go:=λi H=>∃xs ys x y,bG K H l1 xs/\bG K H l2 ys/\xs[i]?=some x/\ys[i]?=some y
 rG:=λi H v H'=>∃T x y,v=.ref T/\H T=none/\H'=upd H T (.tup [x,y])/\∀xs ys,bG K H l1 xs->bG K H l2 ys->xs[i]?=some x/\ys[i]?=some y
 stop:=λi H=>∃xs ys,bG K H l1 xs/\bG K H l2 ys/\i=min xs.length ys.length
def T5(l1 l2 z TI TO i1 i2:Addr)(i:Nat)(h:Heap):Prop:=IsZip h z TI TO .none/\IsPair h TI (.ref i1) (.ref i2)/\(∃a b,IsPair h TO a b)/\h.IsListIter i1 l1 i/\h.IsListIter i2 l2 i
section
variable {P:Program}{w:World}{K:FZ}
theorem Inv.T6{X:Cx}{pins:List (Addr × Obj)}{σ : St}{H:Hp}{s:Shared}{h':Heap}{tk:Nat}{fp:List Addr}{T:Addr}{xs:List V}{its:List Value}(I:Inv X pins σ H s)(hf:∀b∈fp,lG X pins H b)(k:∀b o,b∉fp->s.heap.get? b=some o->h'.get? b=some o)
  (th:∀b∈fp,∃o,h'.get? b=some o) (hT:s.heap.objs.size<=T) (ht:IsTup h' T its.toArray) (rv:Vals xs its) (hz:xs.length<=sizeLine):Inv X pins σ (upd H T (.tup xs)) {s with heap:=h',toks:=tk }:=by
 have fT:H T=none:=I.hok.fresh hT
 have neT:∀b o,s.heap.get? b=some o->b≠T:=λb o e z=>by rw[z]at e; exact absurd (Heap.lt_size e) (Nat.not_lt.mpr hT)
 have uW:∀b o,H b=some o->b≠T:=λb o e z=>by rw[z,fT]at e; cases e
 refine I.step (g':=s.gens) (d':=s.drawn) (ch:=fp) (λb hb=>?_) (λb o _ _ hc e _=>k b o hc e) (λb o _ _ hc e _=>⟨o.slots,k b o hc e⟩) (λb o _ e n=>by rw[aN (neT b o e)]; exact n) (λb o hc e=>⟨o,k b o hc e⟩)
  (λb ys e=>by rw[aN (uW b _ e)]; exact e) (λb o u e=>by rw[aN (uW b _ e)]; exact e) (λb ps e=>⟨#[],by rw[aN (uW b _ e)]; simpa using e⟩) (λm hm=>?_) (λb u e=>?_) I.bare
 ·obtain⟨f0,f1,f2,f3,f4,f5⟩:=hf b hb
  exact⟨f3,f1,f4,f5⟩
 ·obtain⟨o,es,ep,ho,r⟩:=hm
  exact⟨o,es,ep,k _ o (λz=>(hf _ z).2.1 rfl) ho,r⟩
 ·by_cases z:b=T
  ·subst z
   rw[dh]at e
   cases e
   exact⟨hz,its,rv,ht⟩
  ·rw[aN z]at e
   refine(I.hok b u e).stay (λc o hc q=>k c o (λzc=>?_) q) (λc q=>by rw[aN (uW c _ q)]; exact q) λc ys q=>by rw[aN (uW c _ q)]; exact q
   have:=(hf c zc).1
   rcases hc with rfl|hc
   ·rw[this]at e; cases e
   ·rw[this]at hc; cases hc
theorem Inv.T7{X:Cx}{pins:List (Addr × Obj)}{σ : St}{H:Hp}{s:Shared}{h':Heap}{tk:Nat}{fp:List Addr}(I:Inv X pins σ H s)(hf:∀b∈fp,lG X pins H b)(k:∀b o,b∉fp->s.heap.get? b=some o->h'.get? b=some o):Inv X pins σ H {s with heap:=h',toks:=tk }:=by
 refine I.step (g':=s.gens) (d':=s.drawn) (ch:=fp) (λb hb=>?_) (λb o _ _ hc e _=>k b o hc e) (λb o _ _ hc e _=>⟨o.slots,k b o hc e⟩) (λb o _ e n=>n) (λb o hc e=>⟨o,k b o hc e⟩)
  (λb ys e=>e) (λb o u e=>e) (λb ps e=>⟨#[],by simpa using e⟩) (λm hm=>?_) (λb u e=>?_) I.bare
 ·obtain⟨f0,f1,f2,f3,f4,f5⟩:=hf b hb
  exact⟨f3,f1,f4,f5⟩
 ·obtain⟨o,es,ep,ho,r⟩:=hm
  exact⟨o,es,ep,k _ o (λz=>(hf _ z).2.1 rfl) ho,r⟩
 ·refine(I.hok b u e).stay (λc o hc q=>k c o (λzc=>?_) q) (λc q=>q) λc ys q=>q
  have:=(hf c zc).1
  rcases hc with rfl|hc
  ·rw[this]at e; cases e
  ·rw[this]at hc; cases hc
theorem T8{elts:List Expr}{k:Nat}{pos:Pos}(l1 l2 z TI TO i1 i2:Addr)(D:ZipApart z TI TO i1 i2 l1 l2):Turn P w K (.Tuple elts k pos) (BX K l1 l2) [z,TI,TO,i1,i2] z (T5 l1 l2 z TI TO i1 i2) where
 mem:=by simp
 obj:=λi h st b hb=>by
  obtain⟨hz,hTI,⟨a,c,hTO⟩,⟨o1,e1,_,d1⟩,⟨o2,e2,_,d2⟩⟩:=st
  have hb':b=z\/b=TI\/b=TO\/b=i1\/b=i2:=by simpa using hb
  rcases hb' with rfl|rfl|rfl|rfl|rfl
  ·exact⟨_,hz,λv q=>nomatch q⟩
  ·exact⟨_,hTI,λv q=>nomatch q⟩
  ·exact⟨_,hTO,λv q=>nomatch q⟩
  ·exact⟨o1,e1,λv q=>by rw[d1]at q; cases q⟩
  ·exact⟨o2,e2,λv q=>by rw[d2]at q; cases q⟩
 keep:=λi h h' st kp=>by
  obtain⟨hz,hTI,⟨a,c,hTO⟩,h1,h2⟩:=st
  exact⟨kp z (by simp) _ hz,kp TI (by simp) _ hTI,⟨a,c,kp TO (by simp) _ hTO⟩,h1.at λo e=>kp i1 (by simp) o e,h2.at λo e=>kp i2 (by simp) o e⟩
 item:=by
  intro X hP hw hK hc i pins s σ H E I hf st hg
  subst hP hw hK
  obtain⟨xs,ys,x,y,q1,q2,hx,hy⟩:=hg
  obtain⟨qw,xU,p1,_⟩:=I.list q1
  obtain⟨its2,iI,p2,_⟩:=I.list q2
  obtain⟨u,hu,ru⟩:=xU.get hx
  obtain⟨v,hv,rv⟩:=iI.get hy
  have W:=WalksT.zip2 (prog:=X.prog) (w:=X.w) (A:=X.A) (I.ok.hd hc) z TI TO i1 i2 l1 l2 D qw.toArray its2.toArray
  have lt1:i<qw.length:=(List.getElem?_eq_some_iff.mp hu).1
  have JX:i<its2.length:=(List.getElem?_eq_some_iff.mp hv).1
  refine W.item i s _ E (by simp; omega) ⟨st.1,st.2.1,st.2.2.1,st.2.2.2.1,st.2.2.2.2,p1.isList,p2.isList⟩ λT vals h' tk hp hT ht mid kk=>?_
  obtain⟨u',v',e1,e2,rfl⟩:=hp
  have eu:u'=u:=by
   have:qw[i]?=some u':=by simpa using e1
   rw[hu]at this; cases this; rfl
  have ev:v'=v:=by
   have:its2[i]?=some v':=by simpa using e2
   rw[hv]at this; cases this; rfl
  subst eu ev
  refine⟨.ref T,rfl,?_⟩
  refine W.go elts k pos i T _ _ E mid λh'' st' JZ=>?_
  have nT:=W.apart i T _ mid
  have ob:=(λb hb=>(by
   obtain⟨hz,hTI,⟨a,c,hTO⟩,⟨o1,e1,_,d1⟩,⟨o2,e2,_,d2⟩⟩:=st
   have hb':b=z\/b=TI\/b=TO\/b=i1\/b=i2:=by simpa using hb
   rcases hb' with rfl|rfl|rfl|rfl|rfl
   ·exact Heap.lt_size hz
   ·exact Heap.lt_size hTI
   ·exact Heap.lt_size hTO
   ·exact Heap.lt_size e1
   ·exact Heap.lt_size e2:b<s.heap.objs.size):∀b∈[z,TI,TO,i1,i2],b<s.heap.objs.size)
  have T9:T∉[z,TI,TO,i1,i2]:=λm=>absurd (ob T m) (Nat.not_lt.mpr hT)
  have sub:∀b,b∉[z,TI,TO,i1,i2]->b∉[z,TO,i1,i2]:=λb n m=>n (by simp at m ⊢; rcases m with rfl|rfl|rfl|rfl <;> simp)
  have Ua:IsTup h'' T #[u',v']:=by
   obtain⟨o,e,r⟩:=ht
   exact⟨o,JZ T o nT e,r⟩
  have th:∀b∈[z,TI,TO,i1,i2],∃o,h''.get? b=some o:=λb hb=>by
   obtain⟨hz,hTI,⟨a,c,hTO⟩,⟨o1,e1,_,d1⟩,⟨o2,e2,_,d2⟩,_⟩:=st'
   have hb':b=z\/b=TI\/b=TO\/b=i1\/b=i2:=by simpa using hb
   rcases hb' with rfl|rfl|rfl|rfl|rfl
   ·exact⟨_,hz⟩
   ·exact⟨_,hTI⟩
   ·exact⟨_,hTO⟩
   ·exact⟨_,e1⟩
   ·exact⟨_,e2⟩
  have I':Inv X pins σ (upd H T (.tup [x,y])) {s with heap:=h'',toks:=tk }:=I.T6 (its:=[u',v']) hf (λb o n e=>JZ b o (sub b n) (kk b o (sub b n) e)) th hT Ua (.cons ru (.cons rv .nil)) (by show 2<=sizeLine; decide)
  refine⟨.ref T,_,I',rfl,⟨T,x,y,rfl,I.hok.fresh hT,rfl,λxs' ys' a1 a2=>?_⟩,⟨st'.1,st'.2.1,st'.2.2.1,st'.2.2.2.1,st'.2.2.2.2.1⟩,λb hb=>?_⟩
  ·rw[I.wJ a1 q1,I.wJ a2 q2]
   exact⟨hx,hy⟩
  ·have nb:b≠T:=by
    intro e0
    rw[e0]at hb
    exact T9 hb
   rw[aN nb]
   exact(hf b hb).1
 done:=by
  intro X hP hw hK hc i pins s σ H E I hf st hg
  subst hP hw hK
  obtain⟨xs,ys,q1,q2,e⟩:=hg
  obtain⟨qw,xU,p1,_⟩:=I.list q1
  obtain⟨its2,iI,p2,_⟩:=I.list q2
  have W:=WalksT.zip2 (prog:=X.prog) (w:=X.w) (A:=X.A) (I.ok.hd hc) z TI TO i1 i2 l1 l2 D qw.toArray its2.toArray
  have ei:i=min qw.toArray.size its2.toArray.size:=by simp[e,xU.length,iI.length]
  subst ei
  have sub:∀b,b∉[z,TI,TO,i1,i2]->b∉[z,TO,i1,i2]:=λb n m=>n (by simp at m ⊢; rcases m with rfl|rfl|rfl|rfl <;> simp)
  exact W.done s _ E ⟨st.1,st.2.1,st.2.2.1,st.2.2.2.1,st.2.2.2.2,p1.isList,p2.isList⟩ λh' tk kk=>⟨rfl,I.T7 hf λb o n e=>kk b o (sub b n) e⟩
 self:=λA i s Q E st h=>wpAny_pyIter_zip st.1 h
end
section
variable {X:Cx}
def J0(K:FZ)(ta:TA):TI:=λσ H R=>ta σ H λvs H1=>∃l1 l2,vs=[.ref l1,.ref l2]/\(∃xs,bG K H1 l1 xs)/\(∃ys,bG K H1 l2 ys)/\R (BX K l1 l2) H1
theorem J1{elts:List Expr}{k:Nat}{tpos:Pos}{a b:Expr}{ta:TA}{p pos:Pos}(hm:X.mg "zip" = none) (ha:PA X [a,b] ta) (hg:Gl X "zip" := by rfl) (hs:starEach [a,b] X.env=[(false,eval a X.env),(false,eval b X.env)]:=by rfl) (hs2:starEach [b] X.env=[(false,eval b X.env)]:=by rfl) :
  PI X (.Tuple elts k tpos) (.Call (.Name "zip" p) [a,b] [] pos) (J0 X.K ta):=by
 intro pins s σ H R I h
 refine Call_ (uo I hg hm (show bootBuiltins "zip" = some (.type "zip") by decide +kernel) (PyProof.Rows.callWith_type1 (aR (ha pos pins s σ H _ I h) λus s1 ⟨vs,H1,I1,r1,q1⟩=>?_) (by rw[hs,hs2]) (by rw[hs2]; rfl)))
 obtain⟨l1,l2,e,⟨xs,h1⟩,⟨ys,h2⟩,q⟩:=q1
 subst e
 cases r1 with
 |cons r rr =>
  cases rr with
  |cons r' rr =>
   cases rr
   cases r
   cases r'
   obtain⟨qw,xU,p1,_⟩:=I1.list h1
   obtain⟨its2,iI,p2,_⟩:=I1.list h2
   obtain⟨o1,e1,_⟩:=p1.isList
   obtain⟨o2,e2,_⟩:=p2.isList
   refine call_zip_2 p1.isList p2.isList λh' hz hTI hTO hi1 hi2 hsz hk=>?_
   refine wpAny_pyIter_zip hz ?_
   refine⟨_,[_,_,_,_,_],_,_,H1,rfl,I1.kept (t':=s1.toks) hk,T8 l1 l2 _ _ _ _ _ (PySem.W.ktu_apart _ _ _ (Heap.lt_size e1) (Heap.lt_size e2)),⟨hz,hTI,⟨_,_,hTO⟩,hi1,hi2⟩,λc hc=>?_,q⟩
   have hc':c=s1.heap.objs.size+4\/c=s1.heap.objs.size+2\/c=s1.heap.objs.size+3\/c=s1.heap.objs.size\/c=s1.heap.objs.size+1:=by simpa using hc
   have hge:s1.heap.objs.size<=c:=by rcases hc' with rfl|rfl|rfl|rfl|rfl <;> omega
   exact I1.wM hge (I1.hok.fresh hge)
end
end L2
end
section
namespace L2
open PySem
end L2
end
section
namespace L2
open PySem PySem.Spec PyProof.Rows
section
variable {X:Cx}{e:Expr}{te:TE}{th:TO}{pos p2:Pos}
def J2(K:FZ)(te:TE)(th:TO):TE:=λσ H Q=>te σ H λx H1=>th σ H1 λo H2=>o=some (-1)/\∃a xs,x=.ref a/\bG K H2 a xs/\∀p,H2 p=none->Q (.ref p) (upd H2 p (.lst xs.reverse))
theorem J3:∀{xs:List V} {us:List Value},Vals xs us->Vals xs.reverse us.reverse
 |_,_,.nil=>.nil
 |_,_,.cons r t=>by
  rw[List.reverse_cons,List.reverse_cons]
  exact(J3 t).append (.cons r .nil)
theorem Ub{st:Option Expr}{ops:Value->Value->List Value}(he:PE X e te)(hs:PO X st th)(hb:∀v u,subscripted (.Slice none none st p2) false v u=operate (ops v u) (getItem v u):=by intro _ _; rfl):PE X (.Subscript e (.Slice none none st p2) pos) (J2 X.K te th):=by
 refine⟨λpins s σ H Q I h=>?_⟩
 refine Subscript_ (aR (he pins s σ H _ I h) λv s1 ⟨x,H1,I1,r1,q1⟩=>?_)
 refine wpAny_Slice ?_
 rw[evalPart_none]
 refine wpAny_pure ?_
 refine wpAny_pure ?_
 refine aR (hs pins s1 σ H1 _ I1 q1) λvk s3 ⟨o,H3,I3,pk,q3⟩=>?_
 obtain⟨rfl,a,xs,rfl,hx,q⟩:=q3
 cases r1
 have I4:Inv X pins σ H3 {s3 with heap:=s3.heap.push {cls:=.type "slice",data:=.fields #[.none,.none,vk] } }:=I3.kept (t':=s3.toks) λb ob q=>Heap.get?_push_of_some _ q
 obtain⟨its,r,ht,hz⟩:=I4.list hx
 have hlen:=r.length
 show wpAny (model X.prog X.w) X.A (subscriptTail e (.Slice none none st p2) (.ref a) (.ref s3.heap.objs.size)) (EP X pins σ Q) X.xe {s3 with heap:=s3.heap.push {cls:=.type "slice",data:=.fields #[.none,.none,vk] } }
 refine tail_any (T := "list") ht.isList.typeIs PySem.F.slot_list_getitem.lookup ?_ (hb _ _)
 refine wpAny_getItem_list_slice ht.isList (Heap.IsSliceOf.new ..) .none .none pk (by simp) ?_ (by rw[List.size_toArray] <;> omega)
 rw[PySem.W.krv_pick]
 refine⟨.ref _,_,I4.laid (t':=s3.toks) (o:=.lst xs.reverse) (λb ob q=>Heap.get?_push_of_some _ q) (Nat.le_refl _) ?_,rfl,q _ (I4.hok.fresh (Nat.le_refl _))⟩
 exact⟨by rw[List.length_reverse]; exact hz,_,0,J3 r,Heap.get?_push_size _ rfl⟩
end
end L2
end
section
namespace L2
open PySem PySem.Spec PyProof.Rows
section
variable {X:Cx}
end
section
variable {X:Cx}{tg:Expr}
end
end L2
end
section
namespace L2
open PySem PySem.Spec PyProof.Rows
section
variable {X:Cx}
end
end L2
end
section
namespace L2
open PySem PySem.Spec PyProof.Rows
inductive Rs(α : Type) where
 |bad|ex (c:Str)|ok (a : α)
def Rs.bind{α β : Type}:Rs α -> (α -> Rs β)->Rs β
 |.bad,_=>.bad
 |.ex c,_=>.ex c
 |.ok a,f=>f a
instance:Monad Rs where
 pure:=.ok
 bind:=Rs.bind
def Rs.post{α : Type}(r:Rs α)(EX:Str->Prop)(P : α -> Prop):Prop:=match r with
 |.bad=>False
 |.ex c=>EX c
 |.ok a=>P a
theorem Rs.aH{α β : Type}{r:Rs α}{f : α -> Rs β}{EX:Str->Prop}{P : β -> Prop}(h:(r.bind f).post EX P):r.post EX λa=>(f a).post EX P:=by
 cases r <;> exact h
theorem Rs.aM{α : Type}{r:Rs α}{EX:Str->Prop}{P P' : α -> Prop}(h:r.post EX P)(i:∀a,P a->P' a):r.post EX P':=by
 cases r with
 |bad=>exact h
 |ex c=>exact h
 |ok a=>exact i a h
open Classical in
def aA(W:Addr->Prop)(H:Hp):Hp:=λb=>if W b then none else H b
theorem xV{W:Addr->Prop}{H:Hp}{b:Addr}(h:W b):aA W H b=none:=if_pos h
theorem cW{W:Addr->Prop}{H:Hp}{b:Addr}(h:¬W b):aA W H b=H b:=if_neg h
theorem fV{W:Addr->Prop}{H:Hp}{b:Addr}{o:HO}(h:aA W H b=some o):¬W b/\H b=some o:=by
 by_cases w:W b
 ·rw[xV w]at h; cases h
 ·rw[cW w]at h; exact⟨w,h⟩
theorem ig(W:Addr->Prop)(H:Hp):Same (aA W H) H:=λ_ _ h=>(fV h).2
theorem lK{W W':Addr->Prop}{H H':Hp}(hw:∀b o,H b=some o->W' b->W b)(s:∀b o,¬W b->H b=some o->H' b=some o):Same (aA W H) (aA W' H'):=λb o h=>by
 obtain⟨n,e⟩:=fV h
 rw[cW λw=>n (hw b o e w)]
 exact s b o n e
theorem lM{W:Addr->Prop}{H:Hp}{a:Addr}{o:HO}(h:W a):aA W (upd H a o)=aA W H:=by
 funext b
 by_cases w:W b
 ·rw[xV w,xV w]
 ·rw[cW w,cW w]
  exact aN λe=>w (e▸h)
inductive Sl where
 |un|sh (t:Tr)|ow (ts:List Tr)|rf (ts:List Tr)|dp (ts:List Tr)
abbrev En:=List Sl
inductive Rv where
 |v (T:Tr) (fr:Bool)|s (i:Nat)
abbrev EF:=En->Rs (Rv × En)
structure Tx where
 K:FZ
 Z:Addr->Prop
 R:Addr->Prop
 H0:Hp
 B:Hp
 EX:Str->Prop
def Mu(ρ : En)(i:Nat):Prop:=∃ts,ρ[i]?=some (Sl.ow ts)\/ρ[i]?=some (Sl.rf ts)
def Uc:Tr->Bool
 |.lst _=>true
 |_=>false
inductive DR(K:FZ)(G H:Hp):List V->List Tr->List Addr->Prop
 |nil:DR K G H [] [] []
 |cl {x:V} {u:Tr} {xs:List V} {ts:List Tr} {bs:List Addr} (n:Uc u=false) (h:Rep K G x u) (r:DR K G H xs ts bs):DR K G H (x::xs) (u::ts) bs
 |rw {b:Addr} {ys:List V} {us:List Tr} {xs:List V} {ts:List Tr} {bs:List Addr} (h:H b=some (.lst ys)) (q:aC K G ys us) (r:DR K G H xs ts bs):DR K G H (.ref b::xs) (.lst us::ts) (b::bs)
def oY(t:Tx)(W:Addr->Prop)(H:Hp)(a:Addr)(xs:List V)(ts:List Tr)(fp:List Addr):Prop :=
 ∃bs,fp=a::bs/\fp.Nodup/\(∀b∈fp,W b/\t.H0 b=none)/\H a=some (.lst xs)/\DR t.K (aA W H) H xs ts bs
theorem DR.move{K:FZ}{G G' H H':Hp}(m:Same G G'):∀{xs:List V} {ts:List Tr} {bs:List Addr},DR K G H xs ts bs->(∀b o,b∈bs->H b=some o->H' b=some o)->DR K G' H' xs ts bs
 |_,_,_,.nil,_=>.nil
 |_,_,_,.cl n h r,k=>.cl n (h.mono m) (DR.move m r k)
 |_,_,_,.rw h q r,k=>.rw (k _ _ (List.mem_cons_self ..) h) (q.mono m) (DR.move m r λb o hb=>k b o (List.mem_cons_of_mem _ hb))
theorem oY.move{t t':Tx}{W W':Addr->Prop}{H H':Hp}{a:Addr}{xs:List V}{ts:List Tr}{fp:List Addr}(d:oY t W H a xs ts fp)(hK:t'.K=t.K)(h0:t'.H0=t.H0)(m:Same (aA W H) (aA W' H'))(w:∀b∈fp,W' b)(k:∀b o,b∈fp->H b=some o->H' b=some o):oY t' W' H' a xs ts fp:=by
 obtain⟨bs,e,nd,ww,ha,r⟩:=d
 refine⟨bs,e,nd,λb hb=>⟨w b hb,by rw[h0]; exact(ww b hb).2⟩,k a _ (by rw[e]; exact List.mem_cons_self ..) ha,?_⟩
 rw[hK]
 exact r.move m λb o hb=>k b o (by rw[e]; exact List.mem_cons_of_mem _ hb)
def Lt(H:Hp)(b:Addr):Prop:=(∃xs,H b=some (.lst xs))\/∃ps,H b=some (.dM ps)
theorem Lt.ne{H:Hp}{b:Addr}(h:Lt H b):H b≠none:=by
 rcases h with⟨_,h⟩|⟨_,h⟩ <;> (rw[h]; intro z; cases z)
theorem Lt.grow{H H':Hp}{b:Addr}(h:Lt H b)(s:∀b o,H b=some o->H' b=some o):Lt H' b:=by
 rcases h with⟨_,h⟩|⟨_,h⟩
 ·exact .inl ⟨_,s _ _ h⟩
 ·exact .inr ⟨_,s _ _ h⟩
def nC:List Str:=["falling_places", "order_of_bounds"]
def Tb(K:FZ)(b:Addr):Prop:=∃x∈nC,∃c,PySem.W.tabIn K x=some (c,b)
def Ud(o:Obj)(q:Str):Prop:=∃vs t,o.data=.fields vs/\vs[1]?=some (.str q t)
def Ue(x:Str):Str:=x++(".<locals>." : Str)++("<lambda>" : Str)
def Ug(H:Hp)(q:Str)(ps:Array Value):Prop:=TriplesOk ps.toList/\∀pos v,codeAmong pos ps.toList=some v->∃c o,v=.ref c/\H c=some (.cD o (.own 0))/\Ud o q
def dw(K:FZ)(H:Hp):Prop:=∀x∈nC,∀c b,PySem.W.tabIn K x=some (c,b)->∃ps,H b=some (.dM ps)/\Ug H (Ue x) ps
theorem dw.dM{K:FZ}{H:Hp}(h:dw K H){b:Addr}(t:Tb K b):∃ps,H b=some (.dM ps):=by
 obtain⟨x,hx,c,e⟩:=t
 obtain⟨ps,q,_⟩:=h x hx c b e
 exact⟨ps,q⟩
theorem dw.ne{K:FZ}{H:Hp}(h:dw K H){a b:Addr}{xs:List V}(t:Tb K b)(e:H a=some (.lst xs)):b≠a:=λz=>by
 obtain⟨ps,q⟩:=h.dM t
 rw[z,e]at q
 cases q
theorem dw.fr{K:FZ}{H H':Hp}(h:dw K H)(s:∀b o,(∀xs,o ≠ .lst xs)->H b=some o->H' b=some o):dw K H':=λx hx c b e=>by
 obtain⟨ps,q,t1,t2⟩:=h x hx c b e
 refine⟨ps,s _ _ (λ_ z=>by cases z) q,t1,λpos v k=>?_⟩
 obtain⟨c,o,e1,e2,e3⟩:=t2 pos v k
 exact⟨c,o,e1,s _ _ (λ_ z=>by cases z) e2,e3⟩
theorem dw.same{K:FZ}{H H':Hp}(h:dw K H)(s:Same H H'):dw K H':=h.fr λb o _=>s b o
theorem dw.upd{K:FZ}{H:Hp}(h:dw K H){a:Addr}{xs:List V}{o:HO}(e:H a=some (.lst xs)):dw K (L2.upd H a o):=h.fr λb u n q=>by
 rw[aN]
 ·exact q
 ·rintro rfl
  rw[e]at q
  cases q
  exact n _ rfl
structure oZ(t:Tx)(W:Addr->Prop)(H:Hp):Prop where
 ok:dw t.K H
 w:∀b,Tb t.K b->W b
 r:∀b,Tb t.K b->t.R b
 B:∀b,Tb t.K b->t.B b=none
theorem oZ.same{t:Tx}{W:Addr->Prop}{H H':Hp}(f:oZ t W H)(s:Same H H'):oZ t W H':=⟨f.ok.same s,f.w,f.r,f.B⟩
theorem oZ.J4{t:Tx}{W W':Addr->Prop}{H:Hp}(f:oZ t W H)(h:∀b,W b->W' b):oZ t W' H:=⟨f.ok,λb z=>h b (f.w b z),f.r,f.B⟩
structure EOF(t:Tx)(W:Addr->Prop)(ρ : En)(σ : St)(H:Hp)(F:Nat->List Addr):Prop where
 len : ρ.length = σ.length
 zw:∀b,t.Z b->W b
 z0:∀b,t.Z b->t.H0 b≠none
 wl:∀b,W b->Lt H b
 f0:∀b o,t.H0 b=some o->¬t.R b->H b=some o
 n0:∀b,H b=none->t.H0 b=none
 sh:∀(i:Nat) (u:Tr),ρ[i]?=some (.sh u)->∃v,σ[i]?=some (some v)/\Rep t.K (aA W H) v u
 ow:∀(i:Nat) (ts:List Tr),ρ[i]?=some (Sl.ow ts)->∃a xs,σ[i]?=some (some (V.ref a))/\W a/\t.H0 a=none/\H a=some (.lst xs)/\aC t.K (aA W H) xs ts
 rf:∀(i:Nat) (ts:List Tr),ρ[i]?=some (Sl.rf ts)->∃a xs,σ[i]?=some (some (V.ref a))/\W a/\t.R a/\H a=some (.lst xs)/\aC t.K (aA W H) xs ts
 dis:∀(i j:Nat) (a:Addr),Mu ρ i->Mu ρ j -> σ[i]?=some (some (V.ref a)) -> σ[j]?=some (some (V.ref a))->i=j
 pn:∀b o,t.B b=some o->H b=some o
 pd:∀(i:Nat) (a:Addr),Mu ρ i -> σ[i]?=some (some (V.ref a))->t.B a=none
 dp:∀(i:Nat) (ts:List Tr),ρ[i]?=some (Sl.dp ts)->∃a xs,σ[i]?=some (some (V.ref a))/\oY t W H a xs ts (F i)
 dd:∀(i j:Nat) (ts us:List Tr),i≠j -> ρ[i]?=some (Sl.dp ts) -> ρ[j]?=some (Sl.dp us)->∀b∈F i,b∉F j
 dm:∀(i j:Nat) (ts:List Tr) (c:Addr),ρ[i]?=some (Sl.dp ts)->Mu ρ j -> σ[j]?=some (some (V.ref c))->c∉F i
 db:∀(i:Nat) (ts:List Tr),ρ[i]?=some (Sl.dp ts)->∀b∈F i,t.B b=none
 tab:oZ t W H
def aF(t:Tx)(W:Addr->Prop)(ρ : En)(σ : St)(H:Hp):Prop:=∃F,EOF t W ρ σ H F
def nG(t:Tx)(W:Addr->Prop)(a:Addr)(ρ : En)(σ : St)(H:Hp):Prop:=∃F,EOF t (λb=>W b\/b=a) ρ σ H F/\∀(i:Nat) (ts:List Tr),ρ[i]?=some (Sl.dp ts)->a∉F i
theorem nG.ok{t:Tx}{W:Addr->Prop}{a:Addr}{ρ : En}{σ : St}{H:Hp}(e:nG t W a ρ σ H):aF t (λb=>W b\/b=a) ρ σ H:=e.elim λF e=>⟨F,e.1⟩
section
variable {t:Tx}{W:Addr->Prop}{ρ : En}{σ : St}{H:Hp}
theorem aF.len(e:aF t W ρ σ H) : ρ.length = σ.length:=e.elim λ_ e=>e.len
theorem aF.zw(e:aF t W ρ σ H):∀b,t.Z b->W b:=e.elim λ_ e=>e.zw
theorem aF.z0(e:aF t W ρ σ H):∀b,t.Z b->t.H0 b≠none:=e.elim λ_ e=>e.z0
theorem aF.wl(e:aF t W ρ σ H):∀b,W b->Lt H b:=e.elim λ_ e=>e.wl
theorem aF.tab(e:aF t W ρ σ H):oZ t W H:=e.elim λ_ e=>e.tab
theorem aF.f0(e:aF t W ρ σ H):∀b o,t.H0 b=some o->¬t.R b->H b=some o:=e.elim λ_ e=>e.f0
theorem aF.n0(e:aF t W ρ σ H):∀b,H b=none->t.H0 b=none:=e.elim λ_ e=>e.n0
theorem aF.sh(e:aF t W ρ σ H):∀(i:Nat) (u:Tr),ρ[i]?=some (.sh u)->∃v,σ[i]?=some (some v)/\Rep t.K (aA W H) v u:=e.elim λ_ e=>e.sh
theorem aF.ow(e:aF t W ρ σ H):∀(i:Nat) (ts:List Tr),ρ[i]?=some (Sl.ow ts)->∃a xs,σ[i]?=some (some (V.ref a))/\W a/\t.H0 a=none/\H a=some (.lst xs)/\aC t.K (aA W H) xs ts:=e.elim λ_ e=>e.ow
theorem aF.rf(e:aF t W ρ σ H):∀(i:Nat) (ts:List Tr),ρ[i]?=some (Sl.rf ts)->∃a xs,σ[i]?=some (some (V.ref a))/\W a/\t.R a/\H a=some (.lst xs)/\aC t.K (aA W H) xs ts:=e.elim λ_ e=>e.rf
theorem aF.dis(e:aF t W ρ σ H):∀(i j:Nat) (a:Addr),Mu ρ i->Mu ρ j -> σ[i]?=some (some (V.ref a)) -> σ[j]?=some (some (V.ref a))->i=j:=e.elim λ_ e=>e.dis
theorem aF.pn(e:aF t W ρ σ H):∀b o,t.B b=some o->H b=some o:=e.elim λ_ e=>e.pn
theorem aF.pd(e:aF t W ρ σ H):∀(i:Nat) (a:Addr),Mu ρ i -> σ[i]?=some (some (V.ref a))->t.B a=none:=e.elim λ_ e=>e.pd
end
structure aY(W:Addr->Prop)(H H':Hp):Prop where
 keep:∀b o,¬W b->H b=some o->H' b=some o
 dom:∀b,H' b=none->H b=none
theorem aY.refl(W:Addr->Prop)(H:Hp):aY W H H:=⟨λ_ _ _ h=>h,λ_ h=>h⟩
theorem aY.trans{W:Addr->Prop}{H H1 H2:Hp}(a:aY W H H1)(b:aY W H1 H2):aY W H H2:=⟨λc o n h=>b.keep c o n (a.keep c o n h),λc h=>a.dom c (b.dom c h)⟩
theorem aY.of{W:Addr->Prop}{H H':Hp}(s:Same H H'):aY W H H':=⟨λb o _ h=>s b o h,λ_ h=>s.free h⟩
theorem aY.off{W:Addr->Prop}{H H':Hp}(s:aY W H H'):Same (aA W H) (aA W H'):=lK (λ_ _ _ h=>h) s.keep
theorem aF.grow{t:Tx}{W:Addr->Prop}{ρ : En}{σ : St}{H H':Hp}(e:aF t W ρ σ H)(s:Same H H'):aF t W ρ σ H':=by
 have m:Same (aA W H) (aA W H'):=(aY.of s).off
 obtain⟨F,e⟩:=e
 refine⟨F,e.len,e.zw,e.z0,λb w=>?_,λb o h n=>s b o (e.f0 b o h n),λb h=>e.n0 b (s.free h),λi u h=>?_,λi ts h=>?_,λi ts h=>?_,e.dis,λb o h=>s b o (e.pn b o h),e.pd,λi ts h=>?_,e.dd,e.dm,e.db,e.tab.same s⟩
 ·exact(e.wl b w).grow s
 ·obtain⟨v,h1,h2⟩:=e.sh i u h
  exact⟨v,h1,h2.mono m⟩
 ·obtain⟨a,xs,h1,h2,h3,h4,h5⟩:=e.ow i ts h
  exact⟨a,xs,h1,h2,h3,s _ _ h4,h5.mono m⟩
 ·obtain⟨a,xs,h1,h2,h3,h4,h5⟩:=e.rf i ts h
  exact⟨a,xs,h1,h2,h3,s _ _ h4,h5.mono m⟩
 ·obtain⟨a,xs,h1,d⟩:=e.dp i ts h
  exact⟨a,xs,h1,d.move rfl rfl m (λb hb=>by obtain⟨_,_,_,ww,_⟩:=d; exact(ww b hb).1) λb o _ q=>s b o q⟩
def cY(K:FZ)(W:Addr->Prop)(σ : St)(H H':Hp)(v:V):Rv->Prop
 |.v T false=>Rep K (aA W H') v T
 |.v T true=>∃a xs ts,v=.ref a/\T=.lst ts/\H a=none/\H' a=some (.lst xs)/\aC K (off a (aA W H')) xs ts
 |.s i=>σ[i]?=some (some v)
theorem BZ(a:Addr)(H:Hp):Same (off a H) H:=λ_ _ h=>(oW h).2
theorem cY.step{K:FZ}{W:Addr->Prop}{σ : St}{H H' gJ:Hp}{v:V}{r:Rv}(hw:∀b,W b->H b≠none)(h:cY K W σ H H' v r)(s:aY W H' gJ):cY K W σ H gJ v r:=by
 cases r with
 |s i=>exact h
 |v T fr =>
  cases fr with
  |false=>exact Rep.mono s.off h
  |true =>
   obtain⟨a,xs,ts,rfl,rfl,e1,e2,r⟩:=h
   refine⟨a,xs,ts,rfl,rfl,e1,s.keep a _ (λw=>hw a w e1) e2,r.mono λb o q=>?_⟩
   obtain⟨n,q⟩:=oW q
   rw[off_ne n]
   exact s.off b o q
theorem cY.back{K:FZ}{W:Addr->Prop}{σ : St}{G H H':Hp}{v:V}{r:Rv}(h:cY K W σ H H' v r)(d:∀b,H b=none->G b=none):cY K W σ G H' v r:=by
 cases r with
 |s i=>exact h
 |v T fr =>
  cases fr with
  |false=>exact h
  |true =>
   obtain⟨a,xs,ts,e0,e1,e2,r⟩:=h
   exact⟨a,xs,ts,e0,e1,d _ e2,r⟩
theorem cY.rep{K:FZ}{W:Addr->Prop}{σ : St}{H H':Hp}{v:V}{T:Tr}{fr:Bool}(hw:∀b,W b->H b≠none)(h:cY K W σ H H' v (.v T fr)):Rep K (aA W H') v T:=by
 cases fr with
 |false=>exact h
 |true =>
  obtain⟨a,xs,ts,rfl,rfl,e1,e2,r⟩:=h
  refine .lst (bG.of ?_) (r.mono (BZ _ _))
  rw[cW λw=>hw a w e1]
  exact e2
def Rp(K:FZ)(W:Addr->Prop)(H:Hp)(v:V)(T:Tr):Prop :=
 Rep K (aA W H) v T\/∃a xs ts,v=.ref a/\T=.lst ts/\H a=some (.lst xs)/\aC K (aA W H) xs ts
theorem Rp.rep{K:FZ}{W:Addr->Prop}{H:Hp}{v:V}{T:Tr}(h:Rp K W H v T):Rep K H v T:=by
 rcases h with h|⟨a,xs,ts,rfl,rfl,e,r⟩
 ·exact h.mono (ig _ _)
 ·exact .lst (bG.of e) (r.mono (ig _ _))
theorem Rp.lst{K:FZ}{W:Addr->Prop}{H:Hp}{v:V}{ts:List Tr}(h:Rp K W H v (.lst ts)):∃a xs,v=.ref a/\bG K H a xs/\aC K (aA W H) xs ts:=by
 rcases h with h|⟨a,xs,us,rfl,e0,e,r⟩
 ·cases h with
  |lst h r=>exact⟨_,_,rfl,(ig _ _).seq h,r⟩
 ·cases e0
  exact⟨a,xs,rfl,bG.of e,r⟩
theorem Rp.tup{K:FZ}{W:Addr->Prop}{H:Hp}{v:V}{ts:List Tr}(h:Rp K W H v (.tup ts)):∃a xs,v=.ref a/\cQ K H a xs/\aC K (aA W H) xs ts:=by
 rcases h with h|⟨a,xs,us,rfl,e0,e,r⟩
 ·cases h with
  |tup h r=>exact⟨_,_,rfl,(ig _ _).qp h,r⟩
 ·cases e0
theorem Rp.int{K:FZ}{W:Addr->Prop}{H:Hp}{v:V}{i:Int}(h:Rp K W H v (.int i)):v=.int i:=by
 cases h.rep; rfl
theorem Rp.bl{K:FZ}{W:Addr->Prop}{H:Hp}{v:V}{i:Bool}(h:Rp K W H v (.bl i)):v=.bl i:=by
 cases h.rep; rfl
theorem Rp.str{K:FZ}{W:Addr->Prop}{H:Hp}{v:V}{i:Str}(h:Rp K W H v (.str i)):v=.str i:=by
 cases h.rep; rfl
theorem Rp.non{K:FZ}{W:Addr->Prop}{H:Hp}{v:V}(h:Rp K W H v .non):v=.non:=by
 cases h.rep; rfl
def dr(ρ : En):Rv->Rs Tr
 |.v T _=>.ok T
 |.s i=>match ρ[i]? with
  |some (Sl.ow ts)=>.ok (.lst ts)
  |some (Sl.rf ts)=>.ok (.lst ts)
  |_=>.bad
theorem gR{t:Tx}{W:Addr->Prop}{ρ : En}{σ : St}{H H':Hp}{v:V}{r:Rv}{T:Tr}(e:aF t W ρ σ H')(hw:∀b,W b->H b≠none)(h:cY t.K W σ H H' v r)(q:dr ρ r=.ok T):Rp t.K W H' v T:=by
 cases r with
 |v U fr =>
  cases q
  exact .inl (h.rep hw)
 |s i =>
  have h : σ[i]?=some (some v):=h
  dsimp only[dr]at q
  split at q
  ·rename_i ts e1
   cases q
   obtain⟨a,xs,h1,h2,h3,h4,h5⟩:=e.ow i ts e1
   rw[h]at h1
   cases h1
   exact .inr ⟨a,xs,ts,rfl,rfl,h4,h5⟩
  ·rename_i ts e1
   cases q
   obtain⟨a,xs,h1,h2,h3,h4,h5⟩:=e.rf i ts e1
   rw[h]at h1
   cases h1
   exact .inr ⟨a,xs,ts,rfl,rfl,h4,h5⟩
  ·cases q
theorem aF.wn{t:Tx}{W:Addr->Prop}{ρ : En}{σ : St}{H:Hp}(e:aF t W ρ σ H):∀b,W b->H b≠none:=λb w=>by
 exact(e.wl b w).ne
theorem aF.hide{t:Tx}{W:Addr->Prop}{ρ : En}{σ : St}{H H':Hp}{a:Addr}{xs:List V}(e:aF t W ρ σ H)(s:Same H H')(n:H a=none)(q:H' a=some (.lst xs)):nG t W a ρ σ H':=by
 have m:Same (aA W H) (aA (λb=>W b\/b=a) H'):=λb o h=>by
  obtain⟨w,h⟩:=fV h
  rw[cW]
  ·exact s b o h
  ·rintro(z|rfl)
   ·exact w z
   ·rw[n]at h; cases h
 have na:∀b,W b->b≠a:=λb w z=>by subst z; exact e.wn b w n
 obtain⟨F,e⟩:=e
 refine⟨F,⟨e.len,λb z=>.inl (e.zw b z),e.z0,λb w=>?_,λb o h nr=>s b o (e.f0 b o h nr),λb h=>e.n0 b (s.free h),λi u h=>?_,λi ts h=>?_,λi ts h=>?_,e.dis,λb o h=>s b o (e.pn b o h),e.pd,λi ts h=>?_,e.dd,e.dm,e.db,(e.tab.same s).J4 λb w=>.inl w⟩,λi ts h z=>?_⟩
 ·rcases w with w|rfl
  ·exact(e.wl b w).grow s
  ·exact .inl ⟨xs,q⟩
 ·obtain⟨v,h1,h2⟩:=e.sh i u h
  exact⟨v,h1,h2.mono m⟩
 ·obtain⟨c,ys,h1,h2,h3,h4,h5⟩:=e.ow i ts h
  exact⟨c,ys,h1,.inl h2,h3,s _ _ h4,h5.mono m⟩
 ·obtain⟨c,ys,h1,h2,h3,h4,h5⟩:=e.rf i ts h
  exact⟨c,ys,h1,.inl h2,h3,s _ _ h4,h5.mono m⟩
 ·obtain⟨c,ys,h1,d⟩:=e.dp i ts h
  exact⟨c,ys,h1,d.move rfl rfl m (λb hb=>by obtain⟨_,_,_,ww,_⟩:=d; exact .inl (ww b hb).1) λb o _ q=>s b o q⟩
 ·obtain⟨c,ys,h1,bs,_,_,ww,_⟩:=e.dp i ts h
  exact na a (ww a z).1 rfl
def fU(t:Tx)(W:Addr->Prop)(ρ : En)(σ : St)(H H':Hp)(v:V)(r:Rv):Prop:=cY t.K W σ H H' v r/\∀T a,r=.v T true->v=.ref a->nG t W a ρ σ H'
theorem fU.of{t:Tx}{W:Addr->Prop}{ρ : En}{σ σ':St}{H H':Hp}{v:V}{T:Tr}{fr:Bool}(e:aF t W ρ σ H)(s:Same H H')(h:cY t.K W σ' H H' v (.v T fr)):fU t W ρ σ H H' v (.v T fr):=by
 refine⟨by cases fr <;> exact h,λU a z ev=>?_⟩
 cases z
 obtain⟨b,xs,ts,rfl,_,n,q,_⟩:=h
 cases ev
 exact e.hide s n q
theorem fU.low{t:Tx}{W:Addr->Prop}{ρ : En}{σ : St}{H H':Hp}{v:V}{T:Tr}(h:Rep t.K (aA W H') v T):fU t W ρ σ H H' v (.v T false):=⟨h,λ_ _ z=>by cases z⟩
theorem fU.back{t:Tx}{W:Addr->Prop}{ρ : En}{σ : St}{G H H':Hp}{v:V}{r:Rv}(h:fU t W ρ σ H H' v r)(d:∀b,H b=none->G b=none):fU t W ρ σ G H' v r:=⟨h.1.back d,h.2⟩
def SE(t:Tx)(te:TE)(f:EF):Prop:=∀W ρ σ H Q,aF t W ρ σ H->(f ρ).post t.EX (λp=>∀v H',aF t W p.2 σ H'->aY W H H'->fU t W p.2 σ H H' v p.1->Q v H')->te σ H Q
abbrev BF:=En->Rs (Bool × En)
def ST(t:Tx)(te:TT)(f:BF):Prop:=∀W ρ σ H Q,aF t W ρ σ H->(f ρ).post t.EX (λp=>∀H',aF t W p.2 σ H'->aY W H H'->Q p.1 H')->te σ H Q
abbrev AF:=En->Rs (List Rv × En)
inductive fW(K:FZ)(W:Addr->Prop)(σ : St)(H H':Hp):List V->List Rv->Prop
 |nil:fW K W σ H H' [] []
 |cons {v:V} {r:Rv} {vs:List V} {rs:List Rv} (h:cY K W σ H H' v r) (q:fW K W σ H H' vs rs):fW K W σ H H' (v::vs) (r::rs)
def SA(t:Tx)(te:TA)(f:AF):Prop:=∀W ρ σ H Q,aF t W ρ σ H->(f ρ).post t.EX (λp=>∀vs H',aF t W p.2 σ H'->aY W H H'->fW t.K W σ H H' vs p.1->Q vs H')->te σ H Q
section
variable {t:Tx}
def aj(i:Nat):EF:=λρ=>match ρ[i]? with
 |some (.sh T)=>.ok (.v T false,ρ)
 |some (.ow _)=>.ok (.s i,ρ)
 |some (.rf _)=>.ok (.s i,ρ)
 |_=>.bad
theorem cC(i:Nat):SE t (oG i) (aj i):=λW ρ σ H Q e h=>by
 unfold aj at h
 split at h
 ·rename_i T q
  obtain⟨v,h1,h2⟩:=e.sh i T q
  exact⟨v,h1,h v H e (aY.refl _ _) (.low h2)⟩
 ·rename_i ts q
  obtain⟨a,xs,h1,_⟩:=e.ow i ts q
  exact⟨_,h1,h _ H e (aY.refl _ _) ⟨h1,λ_ _ z=>by cases z⟩⟩
 ·rename_i ts q
  obtain⟨a,xs,h1,_⟩:=e.rf i ts q
  exact⟨_,h1,h _ H e (aY.refl _ _) ⟨h1,λ_ _ z=>by cases z⟩⟩
 ·exact h.elim
def eC(T:Tr):EF:=λρ=>.ok (.v T false,ρ)
theorem uX{v:V}{T:Tr}(h:∀H,Rep t.K H v T):SE t (tC v) (eC T):=λW ρ σ H Q e q=>q v H e (aY.refl _ _) (.low (h _))
theorem qx(i:Int):SE t (tC (.int i)) (eC (.int i)):=uX λ_=>.int i
theorem o7(i:Bool):SE t (tC (.bl i)) (eC (.bl i)):=uX λ_=>.bl i
theorem nH(i:Str):SE t (tC (.str i)) (eC (.str i)):=uX λ_=>.str i
theorem Uh:SE t (tC .non) (eC .non):=uX λ_=>.non
abbrev G2:=Tr->Tr->Rs (Tr × Bool)
def fD(K:FZ)(r:R2)(g:G2):Prop:=∀W x y a b H Q,(∀b,W b->Lt H b)->Rp K W H x a->Rp K W H y b ->
 (g a b).post (λ_=>False) (λp=>∀v H',Same H H'->cY K W [] H H' v (.v p.1 p.2)->Q v H')->r x y H Q
def aB(g:G2)(fa fb:EF):EF:=λρ=>(fa ρ).bind λp=>(fb p.2).bind λq=>(dr q.2 p.1).bind λa=>(dr q.2 q.1).bind λb=>(g a b).bind λz=>.ok (.v z.1 z.2,q.2)
theorem iC{α : Type}{r:Rs α}{EX:Str->Prop}{P : α -> Prop}(h:r.post EX P)(n:∀c,r ≠ .ex c):r.post (λ_=>False) P:=by
 cases r with
 |bad=>exact h
 |ex c=>exact(n c rfl).elim
 |ok a=>exact h
theorem gU(ρ : En)(r:Rv)(c:Str):dr ρ r ≠ .ex c:=by
 cases r with
 |v T fr=>intro z; cases z
 |s i =>
  dsimp only[dr]
  split <;> (intro z; cases z)
theorem jQ{r:R2}{g:G2}{ta tb:TE}{fa fb:EF}(o:fD t.K r g)(ng:∀a b c,g a b ≠ .ex c)(ha:SE t ta fa)(hb:SE t tb fb):SE t (gq r ta tb) (aB g fa fb):=λW ρ σ H Q e h=>by
 refine ha W ρ σ H _ e (Rs.aM (Rs.aH h) λp h x H1 e1 s1 v1=>?_)
 refine hb W p.2 σ H1 _ e1 (Rs.aM (Rs.aH h) λq h y H2 e2 s2 v2=>?_)
 have h:=Rs.aH h
 cases k1:dr q.2 p.1 with
 |bad=>rw[k1]at h; exact h.elim
 |ex c=>exact(gU _ _ _ k1).elim
 |ok a =>
  rw[k1]at h
  have h:((dr q.2 q.1).bind _).post _ _:=h
  have h:=Rs.aH h
  cases k2:dr q.2 q.1 with
  |bad=>rw[k2]at h; exact h.elim
  |ex c=>exact(gU _ _ _ k2).elim
  |ok b =>
   rw[k2]at h
   have h:((g a b).bind _).post _ _:=h
   have r1:=gR e2 e.wn (v1.1.step e.wn s2) k1
   have r2:=gR e2 e1.wn v2.1 k2
   refine o W x y a b H2 Q e2.wl r1 r2 (Rs.aM (iC (Rs.aH h) (ng a b)) λz h v H3 s3 v3=>?_)
   have st:aY W H H3:=(s1.trans s2).trans (aY.of s3)
   exact h v H3 (e2.grow s3) st ((fU.of e2 s3 v3).back λb q=>(s1.trans s2).dom b q)
inductive qz:V->Tr->Prop
 |non:qz .non .non
 |bl (b:Bool):qz (.bl b) (.bl b)
 |int (b:Int):qz (.int b) (.int b)
 |str (b:Str):qz (.str b) (.str b)
theorem qz.rep{K:FZ}{H:Hp}{v:V}{T:Tr}(h:qz v T):Rep K H v T:=by
 cases h <;> constructor
end
end L2
end
section
namespace L2
open PySem PySem.Spec PyProof.Rows
section
variable {X:Cx}
def Ca(K:FZ):R2:=λx y H Q=>∃t u,Rep K H x t/\Rep K H y u/\dep t<=40/\dep u<=40/\Q (.bl (!eqT t u)) H
theorem mH(hu:X.A.units+64<cLine):cJ X (compareOp .NotEq) (Ca X.K):=by
 intro pins s σ H x y v u Q I vx vy h
 obtain⟨t,t',rx,ry,hd,du,q⟩:=h
 have hu0:X.A.units<cLine:=by omega
 have hu1:X.A.in1.units+40<cLine:=by
  have:=in1_units X.A
  omega
 have fin:SeqAt.RcNeAt X.A s v u (!eqT t t')->wpAny (model X.prog X.w) X.A (compareOp .NotEq v u) (EP X pins σ Q) X.xe s:=λh=>h _ _ _ _ ⟨.bl _,H,I,rfl,q⟩
 have items:∀{xs ys:List V} {ts us:List Tr} {its its2:List Value},Vals xs its->Vals ys its2->aC X.K H xs ts->aC X.K H ys us->deps ts<=40->deps us<=40->∀j (h1:j<its.toArray.size) (h2:j<its2.toArray.size),SeqAt.EqAt X.A.in1 s its.toArray[j] its2.toArray[j] (nu ts us j):=by
  intro xs ys ts us its its2 r1 r2 q1 q2 hde JK j h1 h2
  obtain⟨a,ea,ra⟩:=xJ r1 h1
  obtain⟨b,eb,rb⟩:=xJ r2 h2
  obtain⟨ta,eta,qa⟩:=q1.get ea
  obtain⟨tb,uU,qb⟩:=q2.get eb
  rw[JH eta uU]
  exact(Bq I 40 X.A.in1 ta tb a b _ _ hu1 (Nat.le_trans (oV eta) hde) (by have:=oV eta; omega) (by have:=oV uU; omega) qa qb ra rb).2
 cases rx with
 |bR h m n=>unfold dep at hd; omega
 |non =>
  cases vx
  cases ry with
  |non=>cases vy; unfold eqT at fin; exact fin .none_none
  |bl b2=>cases vy; unfold eqT at fin; exact fin (.none_bool _)
  |int i2=>obtain⟨_,rfl⟩:=vy; unfold eqT at fin; exact fin (.none_int _ _)
  |str z2=>obtain⟨_,rfl⟩:=vy; unfold eqT at fin; exact fin (.none_str _ _)
  |tup h r=>cases vy; obtain⟨_,_,p,_⟩:=I.tuple h; unfold eqT at fin; exact fin (.none_tuple p hu0)
  |lst h r=>cases vy; obtain⟨_,_,p,_⟩:=I.list h; unfold eqT at fin; exact fin (.none_list p.isList hu0)
  |bR h m n=>unfold dep at du; omega
 |bl b =>
  cases vx
  cases ry with
  |non=>cases vy; unfold eqT at fin; exact fin (.bool_none _)
  |bl b2=>cases vy; unfold eqT at fin; exact fin (.bool_bool _ _)
  |int i2=>obtain⟨_,rfl⟩:=vy; unfold eqT at fin; exact fin (.bool_int _ _ _)
  |str z2=>obtain⟨_,rfl⟩:=vy; unfold eqT at fin; exact fin (.bool_str _ _ _)
  |tup h r=>cases vy; obtain⟨_,_,p,_⟩:=I.tuple h; unfold eqT at fin; exact fin (.bool_tuple _ p hu0)
  |lst h r=>cases vy; obtain⟨_,_,p,_⟩:=I.list h; unfold eqT at fin; exact fin (.bool_list _ p.isList hu0)
  |bR h m n=>unfold dep at du; omega
 |int i =>
  obtain⟨_,rfl⟩:=vx
  cases ry with
  |non=>cases vy; unfold eqT at fin; exact fin (.int_none _ _)
  |bl b2=>cases vy; unfold eqT at fin; exact fin (.int_bool _ _ _)
  |int i2=>obtain⟨_,rfl⟩:=vy; unfold eqT at fin; exact fin (.int_int _ _ _ _)
  |str z2=>obtain⟨_,rfl⟩:=vy; unfold eqT at fin; exact fin (.int_str _ _ _ _)
  |tup h r=>cases vy; obtain⟨_,_,p,_⟩:=I.tuple h; unfold eqT at fin; exact fin (.int_tuple _ _ p hu0)
  |lst h r=>cases vy; obtain⟨_,_,p,_⟩:=I.list h; unfold eqT at fin; exact fin (.int_list _ _ p.isList hu0)
  |bR h m n=>unfold dep at du; omega
 |str z =>
  obtain⟨_,rfl⟩:=vx
  cases ry with
  |non=>cases vy; unfold eqT at fin; exact fin (.str_none _ _)
  |bl b2=>cases vy; unfold eqT at fin; exact fin (.str_bool _ _ _)
  |int i2=>obtain⟨_,rfl⟩:=vy; unfold eqT at fin; exact fin (.str_int _ _ _ _)
  |str z2=>obtain⟨_,rfl⟩:=vy; unfold eqT at fin; exact fin (.str_str _ _ _ _)
  |tup h r=>cases vy; obtain⟨_,_,p,_⟩:=I.tuple h; unfold eqT at fin; exact fin (.str_tuple _ _ p hu0)
  |lst h r=>cases vy; obtain⟨_,_,p,_⟩:=I.list h; unfold eqT at fin; exact fin (.str_list _ _ p.isList hu0)
  |bR h m n=>unfold dep at du; omega
 | @tup a1 xs1 ts h1 r1 =>
  cases vx
  obtain⟨its,rv,p,_⟩:=I.tuple h1
  have hd':deps ts<=40:=by unfold dep at hd; omega
  cases ry with
  |non=>cases vy; unfold eqT at fin; exact fin (.tuple_none p hu0)
  |bl b2=>cases vy; unfold eqT at fin; exact fin (.tuple_bool _ p hu0)
  |int i2=>obtain⟨_,rfl⟩:=vy; unfold eqT at fin; exact fin (.tuple_int _ _ p hu0)
  |str z2=>obtain⟨_,rfl⟩:=vy; unfold eqT at fin; exact fin (.tuple_str _ _ p hu0)
  |lst h r=>cases vy; obtain⟨_,_,p2,_⟩:=I.list h; unfold eqT at fin; exact fin (.tuple_list p p2.isList hu0)
  |bR h m n=>unfold dep at du; omega
  | @tup a2 xs2 us h2 r2 =>
   cases vy
   obtain⟨its2,iI,p2,_⟩:=I.tuple h2
   have R:=SeqAt.RcNeAt.tuples (A:=X.A) (e:=nu ts us) p p2 (by omega) λj k1 k2=>items rv iI r1 r2 hd' (by unfold dep at du; omega) j k1 k2
   have el:its.toArray.size=ts.length:=by simpa using(rv.length.symm.trans r1.length)
   have el2:its2.toArray.size=us.length:=by simpa using(iI.length.symm.trans r2.length)
   rw[el,el2]at R
   have eb:((List.range (min ts.length us.length)).all (nu ts us)&&ts.length == us.length)=eqT (.tup ts) (.tup us):=by
    unfold eqT
    by_cases e:ts.length=us.length
    ·rw[e,Nat.min_self,<-e,uR e,beq_self_eq_true,Bool.and_true]
    ·rw[beq_false_of_ne e,Bool.and_false,uQ e]
   rw[eb]at R
   exact fin R
 | @lst a1 xs1 ts h1 r1 =>
  cases vx
  obtain⟨its,rv,p,_⟩:=I.list h1
  have hd':deps ts<=40:=by unfold dep at hd; omega
  cases ry with
  |non=>cases vy; unfold eqT at fin; exact fin (.list_none p.isList hu0)
  |bl b2=>cases vy; unfold eqT at fin; exact fin (.list_bool _ p.isList hu0)
  |int i2=>obtain⟨_,rfl⟩:=vy; unfold eqT at fin; exact fin (.list_int _ _ p.isList hu0)
  |str z2=>obtain⟨_,rfl⟩:=vy; unfold eqT at fin; exact fin (.list_str _ _ p.isList hu0)
  |bR h m n=>unfold dep at du; omega
  |tup h r=>cases vy; obtain⟨_,_,p2,_⟩:=I.tuple h; unfold eqT at fin; exact fin (.list_tuple p.isList p2 hu0)
  | @lst a2 xs2 us h2 r2 =>
   cases vy
   obtain⟨its2,iI,p2,_⟩:=I.list h2
   have el:its.toArray.size=ts.length:=by simpa using(rv.length.symm.trans r1.length)
   have el2:its2.toArray.size=us.length:=by simpa using(iI.length.symm.trans r2.length)
   by_cases e:ts.length=us.length
   ·have R:=SeqAt.RcNeAt.lists (A:=X.A) (e:=nu ts us) p.isList p2.isList (by omega) (by omega) λj k1 k2=>items rv iI r1 r2 hd' (by unfold dep at du; omega) j k1 k2
    rw[el]at R
    rw[uR e]at R
    unfold eqT at fin
    exact fin R
   ·have R:=SeqAt.RcNeAt.lists_lengths (A:=X.A) p.isList p2.isList (by rw[el,el2]; simpa using e) (by omega)
    unfold eqT at fin
    rw[uQ e]at fin
    exact fin R
end
open Classical in
def fJ(o:Obj):Obj:=if o.cls=.type "list" ∧ ¬(∃its n,o={cls:=.type "list",data:=.seq its n })then{cls:=.none,data:=.fields #[] }else o
def au(K:FZ):FZ:=K.map λp=>(p.1,fJ p.2)
theorem o8:∀(K:FZ) (a:Addr),(au K).lookup a=(K.lookup a).map fJ
 | [],a=>rfl
 |(c,q)::r,a=>by
  show((c,fJ q)::au r).lookup a=_
  rw[List.lookup_cons,List.lookup_cons]
  cases a == c with
  |true=>rfl
  |false=>exact o8 r a
theorem Ui{K:FZ}{a:Addr}{o:Obj}(h:(au K).lookup a=some o)(c:o.cls=.type "tuple"):K.lookup a=some o:=by
 rw[o8]at h
 cases e:K.lookup a with
 |none=>rw[e]at h; cases h
 |some q =>
  rw[e]at h
  have h:fJ q=o:=Option.some.inj h
  unfold fJ at h
  split at h
  ·subst h; cases c
  ·rw[h]
theorem Uj{K:FZ}{a:Addr}{o:Obj}(h:(au K).lookup a=some o)(c:o.cls=.type "list"):K.lookup a=some o∧∃its n,o={cls:=.type "list",data:=.seq its n }:=by
 rw[o8]at h
 cases e:K.lookup a with
 |none=>rw[e]at h; cases h
 |some q =>
  rw[e]at h
  have h:fJ q=o:=Option.some.inj h
  unfold fJ at h
  split at h
  ·subst h; cases c
  ·rename_i n
   subst h
   refine⟨rfl,?_⟩
   by_cases z:∃its n,q={cls:=.type "list",data:=.seq its n }
   ·exact z
   ·exact(n ⟨c,z⟩).elim
theorem cQ.toK{K:FZ}{H:Hp}{a:Addr}{xs:List V}(h:cQ (au K) H a xs):cQ K H a xs:=by
 rcases h with h|⟨o,its,n,e,c,r⟩
 ·exact .inl h
 ·exact .inr ⟨o,its,n,Ui e c,c,r⟩
def j4(K:FZ)(H:Hp)(a:Addr)(xs:List V):Prop:=Rd H a (.lst xs)\/∃(its:Array Value) (n:Nat),K.lookup a=some {cls:=.type "list",data:=.seq its n }/\its.size<=sizeLine/\Vals xs its.toList
theorem bG.uY{K:FZ}{H:Hp}{a:Addr}{xs:List V}(h:bG (au K) H a xs):j4 K H a xs:=by
 rcases h with h|⟨o,its,n,e,c,_,d,r⟩
 ·exact .inl h
 ·obtain⟨e2,its',n',rfl⟩:=Uj e c
  have d:Data.seq its' n'=.seq its n:=d
  injection d with d1 d2
  subst d1 d2
  exact .inr ⟨its',n',e2,r⟩
theorem j4.toK{K:FZ}{H:Hp}{a:Addr}{xs:List V}(h:j4 K H a xs):bG K H a xs:=by
 rcases h with h|⟨its,n,e,r⟩
 ·exact .inl h
 ·exact .inr ⟨_,its,n,e,rfl,rfl,rfl,r⟩
theorem j4.toN{K:FZ}{H:Hp}{a:Addr}{xs:List V}(h:j4 K H a xs):bG (au K) H a xs:=by
 rcases h with h|⟨its,n,e,r⟩
 ·exact .inl h
 ·refine .inr ⟨{cls:=.type "list",data:=.seq its n },its,n,?_,rfl,rfl,rfl,r⟩
  rw[o8,e]
  show some (fJ _)=_
  unfold fJ
  rw[if_neg λz=>z.2 ⟨its,n,rfl⟩]
theorem bG.toK{K:FZ}{H:Hp}{a:Addr}{xs:List V}(h:bG (au K) H a xs):bG K H a xs:=h.uY.toK
theorem Uk{K:FZ}{N:Addr}{c:Str}{v:Value}(h:PySem.W.nsIn (au K) N c=some (some v)):PySem.W.nsIn K N c=some (some v):=by
 unfold PySem.W.nsIn at h ⊢
 rw[o8]at h
 cases e:K.lookup N with
 |none=>rw[e]at h; cases h
 |some q =>
  rw[e]at h
  by_cases z:q.cls=.type "list" ∧ ¬(∃its n,q={cls:=.type "list",data:=.seq its n })
  ·have:fJ q={cls:=.none,data:=.fields #[] }:=by unfold fJ; rw[if_pos z]
   rw[show(some q).map fJ=some (fJ q)from rfl,this]at h
   cases h
  ·have:fJ q=q:=by unfold fJ; rw[if_neg z]
   rw[show(some q).map fJ=some (fJ q)from rfl,this]at h
   exact h
mutual
theorem Rep.toK{K:FZ}{H:Hp}:∀{v:V} {t:Tr},Rep (au K) H v t->Rep K H v t
 |_,_,.non=>.non
 |_,_,.bl b=>.bl b
 |_,_,.int i=>.int i
 |_,_,.str x=>.str x
 |_,_,.tup h r=>.tup h.toK (aC.toK r)
 |_,_,.lst h r=>.lst h.toK (aC.toK r)
 |_,_,.bR h m n=>.bR h m (Uk n)
theorem aC.toK{K:FZ}{H:Hp}:∀{v:List V} {t:List Tr},aC (au K) H v t->aC K H v t
 |_,_,.nil=>.nil
 |_,_,.cons h r=>.cons (Rep.toK h) (aC.toK r)
end
section
variable {X:Cx}
theorem Inv.Cd{pins:List (Addr × Obj)}{σ : St}{H:Hp}{s:Shared}{l:Addr}{xs:List V}(I:Inv X pins σ H s)(hH:j4 X.K H l xs):xs.length<=sizeLine/\∃(its:List Value) (n:Nat),Vals xs its/\xs.length=its.length/\s.heap.get? l=some {cls:=.type "list",data:=.seq its.toArray n }:=by
 rcases hH with hH|⟨its,n,e,z,r⟩
 ·obtain⟨z,its,n,r,e⟩:=hH.ok I.hok
  exact⟨z,its,n,r,r.length,e⟩
 ·have l':xs.length=its.size:=r.length.trans Array.length_toList
  exact⟨by rw[l']; exact z,its.toList,n,r,r.length,I.jy _ _ e⟩
def J5(K:FZ):R2:=λx y H Q=>∃l b xs zs,x=.ref l/\y=.ref b/\j4 K H l xs/\j4 K H b zs/\xs.length+zs.length<=sizeLine/\∀p,H p=none->Q (.ref p) (upd H p (.lst (xs++zs)))
theorem Ul:cJ X (binaryOp .Add) (J5 X.K):=by
 intro pins s σ H x y v u Q I rx ry h
 obtain⟨l,b,xs,zs,rfl,rfl,hH,hB,hz,q⟩:=h
 cases rx
 cases ry
 obtain⟨z,its,n,r,hl,e⟩:=I.Cd hH
 obtain⟨z2,its2,n2,r2,hl2,e2⟩:=I.Cd hB
 refine PySem.P.add_list e e2 ?_ (by rw[List.size_toArray,List.size_toArray]; omega)
 have ea:its.toArray++its2.toArray=(its++its2).toArray:=by simp
 rw[ea]
 exact⟨.ref _,_,I.rN (t':=s.toks) (r.append r2) (by rw[List.length_append]; omega),rfl,q _ I.fresh⟩
end
end L2
end
section
namespace L2
open PySem PySem.Spec PyProof.Rows
def J6(K:FZ):R2:=λx y H Q=>∃l k xs,x=.ref l/\y=.int k/\j4 K H l xs /\ -(2 ^ 63)<=k/\k<2 ^ 63/\xs.length*k.toNat<=sizeLine/\∀p,H p=none->Q (.ref p) (upd H p (.lst (List.replicate k.toNat xs).flatten))
theorem Um{X:Cx}:cJ X (binaryOp .Mult) (J6 X.K):=by
 intro pins s σ H x y v u Q I rx ry h
 obtain⟨l,k,xs,rfl,rfl,hH,h1,h2,hz,q⟩:=h
 cases rx
 obtain⟨t,rfl⟩:=ry
 obtain⟨z,its,n,r,hl,e⟩:=I.Cd hH
 have hlen:its.toArray.size*k.toNat<=sizeLine:=by rw[List.size_toArray,<-hl]; exact hz
 have hcap:¬its.toArray.size*k.toNat > (2 ^ 63-1) / 8:=by
  have:(sizeLine:Nat)<=(2 ^ 63-1) / 8:=by decide
  omega
 have hfit:¬(!Builtin.List.listFitsIndex k)=true:=by
  rw[fitsIndex_both h1 h2]
  exact Bool.false_ne_true
 have Uo:¬Builtin.List.listTooLong (its.toArray.size*k.toNat)=true:=by
  rw[R6 hlen]
  exact Bool.false_ne_true
 have hnew:List.foldl (λx1 x2=>x1++x2) #[] (List.replicate (if its.toArray.isEmpty=true then 0 else k.toNat) its.toArray)=(List.replicate k.toNat its).flatten.toArray:=by
  have f0:∀m:Nat,List.foldl (λx1 x2=>x1++x2) #[] (List.replicate m its.toArray)=(List.replicate m its).flatten.toArray:=λm=>by
   have:=foldl_rep its m []
   rw[List.nil_append]at this
   exact this
  rw[f0]
  cases its with
  |nil=>simp
  |cons a r'=>rw[if_neg (by simp)]
 refine wpAny_binaryOp_repeat_ref (T := "list") (U := "int") (by decide) ⟨_,e,rfl⟩ (λs'=>typeIs_int s' k t) noFill_list_mul F.fills_int_mul F.slot_int_rmul repeat_list F.slot_int_index.lookup
  (call_meets F.slot_int_rmul (typeIs_int s k t) F.entry_int_rmul (F.args_int_rmul_2 _ _) (int___rmul___int_list k t l its.toArray n)
   ⟨e,rfl,⟨_,e,rfl⟩,call_meets F.slot_list_mul ⟨_,e,rfl⟩ F.entry_list_mul (F.args_list_mul_2 _ _) (AutoListH.list___mul___list_int_3 l its.toArray n k t hfit hcap Uo) ⟨e,?_⟩⟩)
 rw[hnew]
 exact⟨.ref _,_,I.rN (t':=s.toks) (r.rep k.toNat) (by rw[len_rep,Nat.mul_comm]; exact hz),rfl,q _ I.fresh⟩
end L2
end
section
namespace L2
open PySem PySem.Spec PyProof.Rows
section
variable {K:FZ}{W:Addr->Prop}{σ : St}{H:Hp}{p:Addr}{xs:List V}{ts:List Tr}
theorem Ce{o:HO}(hp:H p=none):Same (aA W H) (off p (aA W (upd H p o))):=λb u q=>by
 obtain⟨n,e⟩:=fV q
 have ne:b≠p:=jM e hp
 rw[off_ne ne,cW n,aN ne]
 exact e
theorem cY.new(hp:H p=none)(r:aC K (aA W H) xs ts):cY K W σ H (upd H p (.lst xs)) (.ref p) (.v (.lst ts) true) :=
 ⟨p,xs,ts,rfl,rfl,hp,dh,r.mono (Ce hp)⟩
theorem cY.newT(hw:∀b,W b->Lt H b)(hp:H p=none)(r:aC K (aA W H) xs ts):cY K W σ H (upd H p (.tup xs)) (.ref p) (.v (.tup ts) false):=by
 have nw:¬W p:=λw=>by
  exact(hw p w).ne hp
 refine .tup (cQ.of ?_) (r.mono λb u q=>(oW (Ce (o:=.tup xs) hp b u q)).2)
 rw[cW nw]
 exact dh
theorem cY.dO{H':Hp}{v:V}{T:Tr}(h:qz v T):cY K W σ H H' v (.v T false):=h.rep
theorem aC.o9{H:Hp}:∀{v:List V} {t:List Tr} {i:Nat} {u:Tr},aC K H v t->t[i]?=some u->∃x,v[i]?=some x/\Rep K H x u
 |_,_,_,_,.nil,e=>by simp at e
 |_,_,0,_,.cons h _,e=>by
  simp at e
  subst e
  exact⟨_,rfl,h⟩
 |_,_,i+1,x,.cons _ r,e=>by
  obtain⟨u,h1,h2⟩:=aC.o9 (i:=i) (u:=x) r (by simpa using e)
  exact⟨u,by simpa using h1,h2⟩
theorem aC.cB(r:aC K H xs ts){i:Int}{t:Tr}(h:cB ts i=some t):∃x,L2.cB xs i=some x/\Rep K H x t:=by
 unfold L2.cB at h ⊢
 rw[r.length]
 cases e:cR ts.length i with
 |none=>rw[e]at h; cases h
 |some j =>
  rw[e]at h
  exact r.o9 h
theorem Rp.Uq{v:V}(h:Rp K W H v (.tup ts)):Rep K (aA W H) v (.tup ts):=by
 rcases h with h|⟨a,xs,us,rfl,e0,e,r⟩
 ·exact h
 ·cases e0
theorem big{n:Nat}(h:n<=100000):n<=sizeLine:=Nat.le_trans h (by decide)
end
section
variable {K:FZ}
def gI(p:Int->Int->Int):G2
 |.int i,.int j=>.ok (.int (p i j),false)
 |_,_=>.bad
theorem Ur{p:Int->Int->Int}:fD K (gG λi j=>.int (p i j)) (gI p):=λW x y a b H Q hw rx ry h=>by
 cases a <;> try exact h.elim
 cases b <;> try exact h.elim
 rw[rx.int,ry.int]
 exact⟨_,_,rfl,rfl,h _ H (Same.refl _) (.dO (.int _))⟩
def dz(c:Int->Int->Bool)(p:Int->Int->Int):G2
 |.int i,.int j=>if c i j=true then .ok (.int (p i j),false)else .bad
 |_,_=>.bad
theorem Cg{C:Int->Int->Prop}{c:Int->Int->Bool}{p:Int->Int->Int}(hc:∀i j,c i j=true->C i j):fD K (rI C λi j=>.int (p i j)) (dz c p):=λW x y a b H Q hw rx ry h=>by
 cases a <;> try exact h.elim
 cases b <;> try exact h.elim
 rw[rx.int,ry.int]
 dsimp only[dz]at h
 split at h
 ·rename_i e
  exact⟨_,_,rfl,rfl,hc _ _ e,h _ H (Same.refl _) (.dO (.int _))⟩
 ·exact h.elim
def gB(p:Int->Int->Bool):G2
 |.int i,.int j=>.ok (.bl (p i j),false)
 |_,_=>.bad
theorem Ci{p:Int->Int->Bool}:fD K (gG λi j=>.bl (p i j)) (gB p):=λW x y a b H Q hw rx ry h=>by
 cases a <;> try exact h.elim
 cases b <;> try exact h.elim
 rw[rx.int,ry.int]
 exact⟨_,_,rfl,rfl,h _ H (Same.refl _) (.dO (.bl _))⟩
def bH:G2:=λt u=>if dep t<=40/\dep u<=40 then .ok (.bl (eqT t u),false)else .bad
theorem Ut:fD (au K) (Br K) bH:=λW x y a b H Q hw rx ry h=>by
 unfold bH at h
 split at h
 ·rename_i e
  exact⟨a,b,rx.rep.toK,ry.rep.toK,e.1,e.2,h _ H (Same.refl _) (.dO (.bl _))⟩
 ·exact h.elim
def bN:G2:=λt u=>if dep t<=40/\dep u<=40 then .ok (.bl (!eqT t u),false)else .bad
theorem Uu:fD (au K) (Ca K) bN:=λW x y a b H Q hw rx ry h=>by
 unfold bN at h
 split at h
 ·rename_i e
  exact⟨a,b,rx.rep.toK,ry.rep.toK,e.1,e.2,h _ H (Same.refl _) (.dO (.bl _))⟩
 ·exact h.elim
def dY(f:Bool->Bool):G2:=λt u=>match u with
 |.lst us=>if deps us<=40/\dep t<=40 then .ok (.bl (f (uV t us)),false)else .bad
 |.tup us=>if deps us<=40/\dep t<=40 then .ok (.bl (f (uV t us)),false)else .bad
 |_=>.bad
theorem Uv:fD (au K) (Bs K) (dY id):=λW x y a b H Q hw rx ry h=>by
 cases b <;> try exact h.elim
 ·rename_i us
  dsimp only[dY]at h
  split at h
  ·rename_i e
   obtain⟨p,xs,rfl,q,r⟩:=ry.tup
   exact⟨a,us,p,xs,rx.rep.toK,rfl,.inr q.toK,(r.mono (ig _ _)).toK,e.1,e.2,h _ H (Same.refl _) (.dO (.bl _))⟩
  ·exact h.elim
 ·rename_i us
  dsimp only[dY]at h
  split at h
  ·rename_i e
   obtain⟨p,xs,rfl,q,r⟩:=ry.lst
   exact⟨a,us,p,xs,rx.rep.toK,rfl,.inl q.toK,(r.mono (ig _ _)).toK,e.1,e.2,h _ H (Same.refl _) (.dO (.bl _))⟩
  ·exact h.elim
def Cj(K:FZ):R2:=λx y H Q=>(gG λi j=>.int (i+j)) x y H Q\/J5 K x y H Q\/(∃i j,x=.str i/\y=.str j/\i.length+j.length<=sizeLine/\Q (.str (i++j)) H)\/Je K x y H Q
theorem jh{X:Cx}:cJ X (binaryOp .Add) (Cj X.K):=cJ.or Ia (cJ.or Ul (cJ.or Q0 RM))
noncomputable def bJ:G2
 |.int i,.int j=>.ok (.int (i+j),false)
 |.lst a,.lst b=>if a.length+b.length<=100000 then .ok (.lst (a++b),true)else .bad
 |.str a,.str b=>if a.length+b.length<=100000 then .ok (.str (a++b),false)else .bad
 |.tup a,.tup b=>if 0<a.length/\a.length+b.length<=100000 then .ok (.tup (a++b),false)else .bad
 |_,_=>.bad
theorem Uw:fD (au K) (Cj K) bJ:=λW x y a b H Q hw rx ry h=>by
 cases a <;> cases b <;> try exact h.elim
 ·rw[rx.int,ry.int]
  exact .inl ⟨_,_,rfl,rfl,h _ H (Same.refl _) (.dO (.int _))⟩
 ·rename_i i j
  rw[rx.str,ry.str]
  dsimp only[bJ]at h
  split at h
  ·rename_i e
   exact .inr (.inr (.inl ⟨i,j,rfl,rfl,big e,h _ H (Same.refl _) (.dO (.str _))⟩))
  ·exact h.elim
 ·rename_i us ws
  dsimp only[bJ]at h
  split at h
  ·rename_i e
   have rt:=rx.Uq
   obtain⟨p,xs,rfl,q,r⟩:=rx.tup
   obtain⟨p',ys,rfl,q',r'⟩:=ry.tup
   have l1:=r.length
   have l2:=r'.length
   refine .inr (.inr (.inr ⟨p,p',xs,ys,rfl,rfl,q.toK,q'.toK,?_,by rw[l1,l2]; exact big e.2,λz=>h _ H (Same.refl _) ?_,λ_ z hz=>h _ _ (dN hz _) (.newT hw hz (r.app r'))⟩))
   ·rintro rfl
    have e1:=e.1
    rw[<-l1]at e1
    cases e1
   ·subst z
    cases r'
    rw[List.append_nil]
    exact rt
  ·exact h.elim
 ·rename_i us ws
  dsimp only[bJ]at h
  split at h
  ·rename_i e
   obtain⟨p,xs,rfl,q,r⟩:=rx.lst
   obtain⟨p',ys,rfl,q',r'⟩:=ry.lst
   refine .inr (.inl ⟨p,p',xs,ys,rfl,rfl,q.uY,q'.uY,by rw[r.length,r'.length]; exact big e,λz hz=>h _ _ (dN hz _) (.new hz (r.app r'))⟩)
  ·exact h.elim
end
end L2
end
section
namespace L2
open PySem PySem.Spec PyProof.Rows
def fit(i:Int):Bool:=decide (i.natAbs.log2<1048575)
theorem J7{i:Int}(h:fit i=true):Builtin.Int.intBits i<=2 ^ 20:=by
 have h:=of_decide_eq_true h
 unfold Builtin.Int.intBits
 have e:(2:Nat) ^ 20=1048576:=by decide
 split
 ·decide
 ·omega
def tiny(i:Int):Bool:=decide (-18446744073709551616<i)&&decide (i<18446744073709551616)
def ji(i j:Int):Bool:=(fit i&&fit j) || tiny i || tiny j
def xW(i j:Int):Prop:=ji i j=true
theorem xW.ok{i j:Int}(h:xW i j):IntMulOk i j:=by
 unfold xW ji at h
 rw[Bool.or_eq_true,Bool.or_eq_true,Bool.and_eq_true]at h
 have e:(2:Int) ^ 64=18446744073709551616:=by decide
 have tn:∀{k:Int},tiny k=true -> -(2 ^ 64)<k/\k<2 ^ 64:=λ{k} h=>by
  unfold tiny at h
  rw[Bool.and_eq_true]at h
  have h1:=of_decide_eq_true h.1
  have h2:=of_decide_eq_true h.2
  omega
 rcases h with(⟨h1,h2⟩|h)|h
 ·exact .of_bits (J7 h1) (J7 h2)
 ·exact .of_left (intBits_le_64 (tn h).1 (tn h).2)
 ·exact .of_right (intBits_le_64 (tn h).1 (tn h).2)
def Ck(K:FZ):R2:=λx y H Q=>(rI xW λi j=>.int (i*j)) x y H Q\/J6 K x y H Q
theorem pq{X:Cx}:cJ X (binaryOp .Mult) (Ck X.K):=cJ.or (wV λ_ _ _ _ _ _ _ hc q=>mul_int q hc.ok) Um
def dB:G2
 |.int i,.int j=>if ji i j=true then .ok (.int (i*j),false)else .bad
 |.lst a,.int k=>if(-1000<=k/\k<=1000)/\a.length<=100 then .ok (.lst (List.replicate k.toNat a).flatten,true)else .bad
 |_,_=>.bad
def nJ(_ j:Int):Bool:=decide (j≠0)&&decide (j.natAbs.log2<9000)
def xX(i j:Int):Prop:=nJ i j=true
theorem Cm{X:Cx}:cJ X (binaryOp .FloorDiv) (rI xX λi j=>.int (i.fdiv j)):=wV λi j _ _ _ _ _ hc q=>by
 unfold xX nJ at hc
 rw[Bool.and_eq_true]at hc
 exact floordiv_int (of_decide_eq_true hc.1) q (.inl (PyProof.noPylong_of_log2 (of_decide_eq_true hc.2)))
def gA:G2:=dz nJ Int.fdiv
def cP:G2:=dz (λ_ j=>decide (j≠0)) Int.fmod
def uZ(i j:Int):Bool:=decide (0<=j)&&decide (j<=1000)&&tiny i
def fK:G2:=dz uZ λi j=>i ^ j.toNat
def dD:G2:=gI λi j=>i-j
section
variable {K:FZ}
theorem aC.rep{H:Hp}{xs:List V}{ts:List Tr}(r:aC K H xs ts):∀n,aC K H (List.replicate n xs).flatten (List.replicate n ts).flatten
 | 0=>.nil
 |n+1=>by
  rw[List.replicate_succ,List.replicate_succ,List.flatten_cons,List.flatten_cons]
  exact r.app (aC.rep r n)
theorem Ux:fD (au K) (Ck K) dB:=λW x y a b H Q hw rx ry h=>by
 cases a <;> cases b <;> try exact h.elim
 ·rw[rx.int,ry.int]
  dsimp only[dB]at h
  split at h
  ·rename_i e
   exact .inl ⟨_,_,rfl,rfl,e,h _ H (Same.refl _) (.dO (.int _))⟩
  ·exact h.elim
 ·rename_i us k
  rw[ry.int]
  dsimp only[dB]at h
  split at h
  ·rename_i e
   obtain⟨p,xs,rfl,q,r⟩:=rx.lst
   by_cases k0:0<=k
   ·refine .inr ⟨p,k,xs,rfl,rfl,q.uY,by omega,by omega,?_,λz hz=>h _ _ (dN hz _) (.new hz (r.rep _))⟩
    rw[r.length]
    refine Nat.le_trans (Nat.mul_le_mul e.2 (show k.toNat<=1000 by omega)) (by decide)
   ·have e0:k.toNat=0:=by omega
    by_cases k1 : -(2 ^ 63)<=k
    ·refine .inr ⟨p,k,xs,rfl,rfl,q.uY,k1,by omega,?_,λz hz=>h _ _ (dN hz _) (.new hz (r.rep _))⟩
     rw[e0,Nat.mul_zero]
     exact Nat.zero_le _
    ·omega
  ·exact h.elim
theorem Uy:fD K (rI xX λi j=>.int (i.fdiv j)) gA:=Cg λ_ _ h=>h
theorem Uz:fD K (rI (λ_ j=>j≠0) λi j=>.int (i.fmod j)) cP:=Cg λ_ _ h=>of_decide_eq_true h
theorem UG:fD K (rI Av λi j=>.int (i ^ j.toNat)) fK:=Cg λi j h=>by
 unfold uZ tiny at h
 rw[Bool.and_eq_true,Bool.and_eq_true,Bool.and_eq_true]at h
 have h1:=of_decide_eq_true h.1.1
 have h2:=of_decide_eq_true h.1.2
 have h3:=of_decide_eq_true h.2.1
 have h4:=of_decide_eq_true h.2.2
 have e:(2:Nat) ^ 64=18446744073709551616:=by decide
 exact⟨h1,by omega,by omega⟩
theorem UJ:fD K (gG λi j=>.int (i-j)) dD:=Ur
def dU:G2:=gB λi j=>decide (j<i)
def cO:G2:=gB λi j=>decide (i<=j)
def fL:G2:=gB λi j=>decide (j<=i)
theorem UL:fD K (gG λi j=>.bl (decide (j<i))) dU:=Ci
theorem Cp:fD K (gG λi j=>.bl (decide (i<=j))) cO:=Ci
theorem UW:fD K (gG λi j=>.bl (decide (j<=i))) fL:=Ci
def intsOf:List Tr->Option (List Int)
 | []=>some []
 |.int i::r=>(intsOf r).map (i :: ·)
 |_::_=>none
theorem ints_of{H:Hp}:∀{ts:List Tr} {ns:List Int} {xs:List V},intsOf ts=some ns->aC K H xs ts->xs=ns.map V.int
 | [],ns,xs,h,r=>by cases h; cases r; rfl
 |.int i::q,ns,xs,h,r=>by
  unfold intsOf at h
  cases e:intsOf q with
  |none=>rw[e]at h; cases h
  |some ms =>
   rw[e]at h
   cases h
   cases r with
   |cons h1 r1 =>
    cases h1
    rw[ints_of e r1]
    rfl
 |.non::q,ns,xs,h,r=>by cases h
 |.bl _::q,ns,xs,h,r=>by cases h
 |.str _::q,ns,xs,h,r=>by cases h
 |.tup _::q,ns,xs,h,r=>by cases h
 |.lst _::q,ns,xs,h,r=>by cases h
def Cq(K:FZ):R2:=λx y H Q=>(gG λi j=>.bl (decide (i<j))) x y H Q\/Jd K x y H Q
theorem Cr{X:Cx}(hu:X.A.units+64<cLine):cJ X (compareOp .Lt) (Cq X.K):=cJ.or QT (RL (by omega))
def cZ:G2
 |.int i,.int j=>.ok (.bl (decide (i<j)),false)
 |.tup a,.tup b=>match intsOf a,intsOf b with
  |some ns,some ms=>.ok (.bl (HT.lexLt ns ms),false)
  |_,_=>.bad
 |_,_=>.bad
theorem U0:fD (au K) (Cq K) cZ:=λW x y a b H Q hw rx ry h=>by
 cases a <;> cases b <;> try exact h.elim
 ·rw[rx.int,ry.int]
  exact .inl ⟨_,_,rfl,rfl,h _ H (Same.refl _) (.dO (.bl _))⟩
 ·rename_i us ws
  dsimp only[cZ]at h
  split at h
  ·rename_i ns ms e1 e2
   obtain⟨p,xs,rfl,q,r⟩:=rx.tup
   obtain⟨p',ys,rfl,q',r'⟩:=ry.tup
   have z1:=ints_of e1 r
   have z2:=ints_of e2 r'
   subst z1 z2
   exact .inr ⟨p,p',ns,ms,rfl,rfl,q.toK,q'.toK,h _ H (Same.refl _) (.dO (.bl _))⟩
  ·exact h.elim
noncomputable def bD:G2
 |.lst ts,.int i=>match cB ts i with
  |some t=>.ok (t,false)
  |none=>.bad
 |.tup ts,.int i=>match cB ts i with
  |some t=>.ok (t,false)
  |none=>.bad
 | .str z,.int i=>if z.length<=100000 then (match cB z.cps.toList i with
  |some c=>.ok (.str ⟨#[c]⟩,false)
  |none=>.bad)else .bad
 |_,_=>.bad
theorem U3:fD (au K) (uM K) bD:=λW x y a b H Q hw rx ry h=>by
 cases a <;> cases b <;> try exact h.elim
 ·rename_i z i
  rw[rx.str,ry.int]
  dsimp only[bD]at h
  split at h
  ·rename_i e
   split at h
   ·rename_i c ec
    exact .inr (.inr ⟨z,i,c,rfl,rfl,big e,ec,h _ H (Same.refl _) (.dO (.str _))⟩)
   ·exact h.elim
  ·exact h.elim
 ·rename_i ts i
  rw[ry.int]
  dsimp only[bD]at h
  split at h
  ·rename_i t et
   obtain⟨p,xs,rfl,q,r⟩:=rx.tup
   obtain⟨v,ev,rv⟩:=r.cB et
   exact .inr (.inl ⟨p,xs,i,v,rfl,rfl,q.toK,ev,h _ H (Same.refl _) rv⟩)
  ·exact h.elim
 ·rename_i ts i
  rw[ry.int]
  dsimp only[bD]at h
  split at h
  ·rename_i t et
   obtain⟨p,xs,rfl,q,r⟩:=rx.lst
   obtain⟨v,ev,rv⟩:=r.cB et
   exact .inl ⟨p,xs,i,v,rfl,rfl,q.toK,ev,h _ H (Same.refl _) rv⟩
  ·exact h.elim
end
end L2
end
section
namespace L2
open PySem PySem.Spec PyProof.Rows
section
variable {K:FZ}{W:Addr->Prop}{σ : St}
theorem fW.step{H H' gJ:Hp}(hw:∀b,W b->H b≠none)(s:aY W H' gJ):∀{vs:List V} {rs:List Rv},fW K W σ H H' vs rs->fW K W σ H gJ vs rs
 |_,_,.nil=>.nil
 |_,_,.cons h q=>.cons (h.step hw s) (fW.step hw s q)
theorem fW.back{G H H':Hp}(d:∀b,H b=none->G b=none):∀{vs:List V} {rs:List Rv},fW K W σ H H' vs rs->fW K W σ G H' vs rs
 |_,_,.nil=>.nil
 |_,_,.cons h q=>.cons (h.back d) (fW.back d q)
inductive pA(K:FZ)(W:Addr->Prop)(H:Hp):List V->List Tr->Prop
 |nil:pA K W H [] []
 |cons {v:V} {t:Tr} {vs:List V} {ts:List Tr} (h:Rp K W H v t) (q:pA K W H vs ts):pA K W H (v::vs) (t::ts)
def drs(ρ : En):List Rv->Rs (List Tr)
 | []=>.ok []
 |r::rs=>(dr ρ r).bind λt=>(drs ρ rs).bind λts=>.ok (t::ts)
theorem rY(ρ : En):∀(rs:List Rv) (c:Str),drs ρ rs ≠ .ex c
 | [],c=>by intro z; cases z
 |r::rs,c=>by
  unfold drs
  cases e:dr ρ r with
  |bad=>intro z; cases z
  |ex d=>exact(gU _ _ _ e).elim
  |ok t =>
   show(drs ρ rs).bind _≠_
   cases e2:drs ρ rs with
   |bad=>intro z; cases z
   |ex d=>exact(rY ρ rs d e2).elim
   |ok ts=>intro z; cases z
theorem jj{α β : Type}{r:Rs α}{f : α -> Rs β}{b : β}(h:r.bind f=.ok b):∃a,r=.ok a/\f a=.ok b:=by
 cases r with
 |bad=>cases h
 |ex c=>cases h
 |ok a=>exact⟨a,rfl,h⟩
theorem xY{t:Tx}{ρ : En}{H H':Hp}(e:aF t W ρ σ H')(hw:∀b,W b->H b≠none):∀{vs:List V} {rs:List Rv} {ts:List Tr},fW t.K W σ H H' vs rs->drs ρ rs=.ok ts->pA t.K W H' vs ts
 |_,_,_,.nil,q=>by cases q; exact .nil
 |_,_,_,.cons h r,q=>by
  unfold drs at q
  obtain⟨a,q1,q⟩:=jj q
  obtain⟨as,q2,q⟩:=jj q
  cases q
  exact .cons (gR e hw h q1) (xY e hw r q2)
def cls:List Rv->Rs (List Tr)
 | []=>.ok []
 |.v t _::rs=>(cls rs).bind λts=>.ok (t::ts)
 |.s _::_=>.bad
theorem u0:∀(rs:List Rv) (c:Str),cls rs ≠ .ex c
 | [],c=>by intro z; cases z
 |.v t fr::rs,c=>by
  unfold cls
  cases e2:cls rs with
  |bad=>intro z; cases z
  |ex d=>exact(u0 rs d e2).elim
  |ok ts=>intro z; cases z
 |.s i::rs,c=>by intro z; cases z
theorem u5{H H':Hp}(hw:∀b,W b->H b≠none):∀{vs:List V} {rs:List Rv} {ts:List Tr},fW K W σ H H' vs rs->cls rs=.ok ts->aC K (aA W H') vs ts
 |_,_,_,.nil,q=>by cases q; exact .nil
 |_,.v t fr::_,_,.cons h r,q=>by
  unfold cls at q
  obtain⟨as,q2,q⟩:=jj q
  cases q
  exact .cons (h.rep hw) (u5 hw r q2)
 |_,.s i::_,_,.cons h r,q=>by cases q
end
section
variable {t:Tx}
def ao:AF:=λρ=>.ok ([],ρ)
def ak(f:EF)(g:AF):AF:=λρ=>(f ρ).bind λp=>(g p.2).bind λq=>.ok (p.1::q.1,q.2)
theorem dH:SA t jf ao:=λW ρ σ H Q e h=>h [] H e (aY.refl _ _) .nil
theorem cL{te:TE}{ta:TA}{f:EF}{g:AF}(h1:SE t te f)(h2:SA t ta g):SA t (gQ te ta) (ak f g):=λW ρ σ H Q e h=>by
 refine h1 W ρ σ H _ e (Rs.aM (Rs.aH h) λp h v H1 e1 s1 v1=>?_)
 refine h2 W p.2 σ H1 _ e1 (Rs.aM (Rs.aH h) λq h vs H2 e2 s2 v2=>?_)
 exact h (v::vs) H2 e2 (s1.trans s2) (.cons (v1.1.step e.wn s2) (fW.back s1.dom v2))
def rZ(g:AF):EF:=λρ=>(g ρ).bind λp=>(cls p.1).bind λts=>if ts.length<=1000 then .ok (.v (.lst ts) true,p.2)else .bad
def u6(g:AF):EF:=λρ=>(g ρ).bind λp=>(cls p.1).bind λts=>if ts.length<=1000 then .ok (.v (.tup ts) false,p.2)else .bad
theorem cj{α : Type}{r:Rs α}{EX:Str->Prop}{P : α -> Prop}(h:r.post EX P)(n:∀c,r ≠ .ex c):∃a,r=.ok a/\P a:=by
 cases r with
 |bad=>exact h.elim
 |ex c=>exact(n c rfl).elim
 |ok a=>exact⟨a,rfl,h⟩
theorem U4{ta:TA}{g:AF}(h1:SA t ta g):SE t (Ax ta) (rZ g):=λW ρ σ H Q e h=>by
 refine h1 W ρ σ H _ e (Rs.aM (Rs.aH h) λp h vs H1 e1 s1 v1=>?_)
 obtain⟨ts,q,h⟩:=cj (Rs.aH h) (u0 _)
 have r:=u5 e.wn v1 q
 split at h
 ·rename_i hl
  refine⟨by rw[r.length]; exact Nat.le_trans hl (by decide),λz hz=>h _ _ (e1.grow (dN hz _)) (s1.trans (aY.of (dN hz _))) ?_⟩
  exact(fU.of (σ' := σ) e1 (dN hz _) (cY.new hz r)).back s1.dom
 ·exact h.elim
theorem U5{ta:TA}{g:AF}(h1:SA t ta g):SE t (Ij ta) (u6 g):=λW ρ σ H Q e h=>by
 refine h1 W ρ σ H _ e (Rs.aM (Rs.aH h) λp h vs H1 e1 s1 v1=>?_)
 obtain⟨ts,q,h⟩:=cj (Rs.aH h) (u0 _)
 have r:=u5 e.wn v1 q
 split at h
 ·rename_i hl
  refine⟨by rw[r.length]; exact Nat.le_trans hl (by decide),λz hz=>h _ _ (e1.grow (dN hz _)) (s1.trans (aY.of (dN hz _))) ?_⟩
  exact .low ((cY.newT (σ := σ) (W:=W) e1.wl hz r))
 ·exact h.elim
abbrev G1:=Tr->Rs (Tr × Bool)
def lN(K:FZ)(r:V->Hp->VK->Prop)(g:G1):Prop:=∀W x a H Q,(∀b,W b->Lt H b)->Rp K W H x a->(g a).post (λ_=>False) (λp=>∀v H',Same H H'->cY K W [] H H' v (.v p.1 p.2)->Q v H')->r x H Q
def iK(g:G1)(fa:EF):EF:=λρ=>(fa ρ).bind λp=>(dr p.2 p.1).bind λa=>(g a).bind λz=>.ok (.v z.1 z.2,p.2)
theorem Cu{r:V->Hp->VK->Prop}{g:G1}{ta:TE}{fa:EF}(o:lN t.K r g)(ng:∀a c,g a ≠ .ex c)(ha:SE t ta fa):SE t (rH r ta) (iK g fa):=λW ρ σ H Q e h=>by
 refine ha W ρ σ H _ e (Rs.aM (Rs.aH h) λp h x H1 e1 s1 v1=>?_)
 obtain⟨a,k1,h⟩:=cj (Rs.aH h) (gU _ _)
 refine o W x a H1 Q e1.wl (gR e1 e.wn v1.1 k1) (Rs.aM (iC (Rs.aH h) (ng a)) λz h v H2 s2 v2=>?_)
 exact h v H2 (e1.grow s2) (s1.trans (aY.of s2)) ((fU.of e1 s2 v2).back s1.dom)
def j5:G1
 |.int i=>.ok (.int (-i),false)
 |_=>.bad
theorem U6{K:FZ}:lN K (rU λi=>.int (-i)) j5:=λW x a H Q hw rx h=>by
 cases a <;> try exact h.elim
 rw[rx.int]
 exact⟨_,rfl,h _ H (Same.refl _) (.dO (.int _))⟩
def bA:Tr->Rs Bool
 |.bl b=>.ok b
 |_=>.bad
theorem J8(a:Tr)(c:Str):bA a ≠ .ex c:=by cases a <;> (intro z; cases z)
def bY(fa:EF):BF:=λρ=>(fa ρ).bind λp=>(dr p.2 p.1).bind λa=>(bA a).bind λb=>.ok (b,p.2)
theorem J9{K:FZ}{W:Addr->Prop}{H:Hp}{v:V}{a:Tr}{b:Bool}(h:Rp K W H v a)(q:bA a=.ok b):v=.bl b:=by
 cases a <;> cases q
 exact h.bl
theorem su{ta:TE}{fa:EF}(ha:SE t ta fa):ST t (Aw ta) (bY fa):=λW ρ σ H Q e h=>by
 refine ha W ρ σ H _ e (Rs.aM (Rs.aH h) λp h x H1 e1 s1 v1=>?_)
 obtain⟨a,k1,h⟩:=cj (Rs.aH h) (gU _ _)
 obtain⟨b,k2,h⟩:=cj (Rs.aH h) (J8 _)
 exact⟨b,J9 (gR e1 e.wn v1.1 k1) k2,h H1 e1 s1⟩
def bU:Tr->Rs Bool
 |.non=>.ok false
 |.bl b=>.ok b
 |.int i=>.ok (i != 0)
 |.lst ts=>.ok (!ts.isEmpty)
 |.tup ts=>.ok (!ts.isEmpty)
 |.str x=>if x.length<=100000 then .ok ((x.length:Int) != 0)else .bad
 |.bR _=>.bad
theorem U7(a:Tr)(c:Str):bU a ≠ .ex c:=by
 cases a <;> try(intro z; cases z; done)
 dsimp only[bU]
 split <;> (intro z; cases z)
theorem Ka{α β : Type}{a:List α}{b:List β}(h:a.length=b.length):a.isEmpty=b.isEmpty:=by
 cases a <;> cases b <;> first|rfl|cases h
theorem U8{K:FZ}{W:Addr->Prop}{H:Hp}{v:V}{a:Tr}{b:Bool}(h:Rp (au K) W H v a)(q:bU a=.ok b):uK K v H b:=by
 cases a with
 |non=>cases q; rw[h.non]; rfl
 |bl i=>cases q; rw[h.bl]; rfl
 |int i=>cases q; rw[h.int]; rfl
 |str i =>
  dsimp only[bU]at q
  split at q
  ·rename_i e
   cases q
   rw[h.str]
   exact⟨big e,rfl⟩
  ·cases q
 |tup ts =>
  cases q
  obtain⟨p,xs,rfl,q,r⟩:=h.tup
  exact .inr (.inl ⟨xs,q.toK,by rw[Ka r.length]⟩)
 |lst ts =>
  cases q
  obtain⟨p,xs,rfl,q,r⟩:=h.lst
  exact .inl ⟨xs,q.toK,by rw[Ka r.length]⟩
 |bR c=>cases q
def bT(fa:EF):BF:=λρ=>(fa ρ).bind λp=>(dr p.2 p.1).bind λa=>(bU a).bind λb=>.ok (b,p.2)
def U9(K:FZ)(ta:TE):TT:=λσ H Q=>ta σ H λx H'=>∃k,uK K x H' k/\Q k H'
theorem lO{K:FZ}(hK:t.K=au K){ta:TE}{fa:EF}(ha:SE t ta fa):ST t (U9 K ta) (bT fa):=λW ρ σ H Q e h=>by
 refine ha W ρ σ H _ e (Rs.aM (Rs.aH h) λp h x H1 e1 s1 v1=>?_)
 obtain⟨a,k1,h⟩:=cj (Rs.aH h) (gU _ _)
 obtain⟨b,k2,h⟩:=cj (Rs.aH h) (U7 _)
 have r:=gR e1 e.wn v1.1 k1
 rw[hK]at r
 exact⟨b,U8 r k2,h H1 e1 s1⟩
def u9(f g:BF):BF:=λρ=>(f ρ).bind λp=>if p.1=true then g p.2 else .ok (false,p.2)
def dZ(f g:BF):BF:=λρ=>(f ρ).bind λp=>if p.1=true then .ok (true,p.2)else g p.2
def bV(f:BF):BF:=λρ=>(f ρ).bind λp=>.ok (!p.1,p.2)
theorem Va{ta tb:TT}{f g:BF}(ha:ST t ta f)(hb:ST t tb g):ST t (Hf ta tb) (u9 f g):=λW ρ σ H Q e h=>by
 refine ha W ρ σ H _ e (Rs.aM (Rs.aH h) λp h H1 e1 s1=>?_)
 split at h
 ·rename_i c
  refine if_pos c▸hb W p.2 σ H1 _ e1 (Rs.aM h λq h H2 e2 s2=>h H2 e2 (s1.trans s2))
 ·rename_i c
  exact if_neg c▸h H1 e1 s1
theorem xZ{ta tb:TT}{f g:BF}(ha:ST t ta f)(hb:ST t tb g):ST t (Hg ta tb) (dZ f g):=λW ρ σ H Q e h=>by
 refine ha W ρ σ H _ e (Rs.aM (Rs.aH h) λp h H1 e1 s1=>?_)
 split at h
 ·rename_i c
  exact if_pos c▸h H1 e1 s1
 ·rename_i c
  refine if_neg c▸hb W p.2 σ H1 _ e1 (Rs.aM h λq h H2 e2 s2=>h H2 e2 (s1.trans s2))
theorem j6{ta:TT}{f:BF}(ha:ST t ta f):ST t (Hh ta) (bV f):=λW ρ σ H Q e h =>
 ha W ρ σ H _ e (Rs.aM (Rs.aH h) λp h H1 e1 s1=>h H1 e1 s1)
def eB(b:Bool):Rv:=.v (.bl b) false
def pB(f g:EF):EF:=λρ=>(bY f ρ).bind λp=>if p.1=true then g p.2 else .ok (eB false,p.2)
def Vb(f g:EF):EF:=λρ=>(bY f ρ).bind λp=>if p.1=true then .ok (eB true,p.2)else g p.2
def yc(f:EF):EF:=λρ=>(bY f ρ).bind λp=>.ok (eB (!p.1),p.2)
theorem Kc{ta tb:TE}{f g:EF}(ha:SE t ta f)(hb:SE t tb g):SE t (Hl ta tb) (pB f g):=λW ρ σ H Q e h=>by
 refine su ha W ρ σ H _ e (Rs.aM (Rs.aH h) λp h H1 e1 s1=>?_)
 split at h
 ·rename_i c
  refine if_pos c▸hb W p.2 σ H1 _ e1 (Rs.aM h λq h v H2 e2 s2 v2=>h v H2 e2 (s1.trans s2) (v2.back s1.dom))
 ·rename_i c
  exact if_neg c▸h _ H1 e1 s1 (.low (.bl false))
theorem Vc{ta:TE}{f:EF}(ha:SE t ta f):SE t (Ho ta) (yc f):=λW ρ σ H Q e h =>
 su ha W ρ σ H _ e (Rs.aM (Rs.aH h) λp h H1 e1 s1=>h _ H1 e1 s1 (.low (.bl _)))
def sy(c:BF)(f g:EF):EF:=λρ=>(c ρ).bind λp=>if p.1=true then f p.2 else g p.2
theorem Vd{tc:TT}{ta tb:TE}{c:BF}{f g:EF}(hc:ST t tc c)(ha:SE t ta f)(hb:SE t tb g):SE t (Hr tc ta tb) (sy c f g):=λW ρ σ H Q e h=>by
 refine hc W ρ σ H _ e (Rs.aM (Rs.aH h) λp h H1 e1 s1=>?_)
 split at h
 ·rename_i d
  refine if_pos d▸ha W p.2 σ H1 _ e1 (Rs.aM h λq h v H2 e2 s2 v2=>h v H2 e2 (s1.trans s2) (v2.back s1.dom))
 ·rename_i d
  refine if_neg d▸hb W p.2 σ H1 _ e1 (Rs.aM h λq h v H2 e2 s2 v2=>h v H2 e2 (s1.trans s2) (v2.back s1.dom))
end
end L2
end
section
namespace L2
open PySem PySem.Spec PyProof.Rows
section
variable {t:Tx}
noncomputable def sE(g g':G2)(fa fb fc:EF):EF:=λρ=>(fa ρ).bind λp=>(fb p.2).bind λq=>(dr q.2 p.1).bind λa=>(dr q.2 q.1).bind λb=>(g a b).bind λz=>(bA z.1).bind λk =>
 if k=true then(fc q.2).bind λs=>(dr s.2 q.1).bind λb=>(dr s.2 s.1).bind λc=>(g' b c).bind λz=>.ok (.v z.1 z.2,s.2)else .ok (eB false,q.2)
theorem Ve{r r':R2}{g g':G2}{ta tb tc:TE}{fa fb fc:EF}(o:fD t.K r g)(o':fD t.K r' g')(ng:∀a b c,g a b ≠ .ex c)(Vf:∀a b c,g' a b ≠ .ex c)(ha:SE t ta fa)(hb:SE t tb fb)(hc:SE t tc fc):SE t (wY r r' ta tb tc) (sE g g' fa fb fc):=λW ρ σ H Q e h=>by
 refine ha W ρ σ H _ e (Rs.aM (Rs.aH h) λp h x H1 e1 s1 v1=>?_)
 refine hb W p.2 σ H1 _ e1 (Rs.aM (Rs.aH h) λq h y H2 e2 s2 v2=>?_)
 obtain⟨a,k1,h⟩:=cj (Rs.aH h) (gU _ _)
 obtain⟨b,k2,h⟩:=cj (Rs.aH h) (gU _ _)
 refine o W x y a b H2 _ e2.wl (gR e2 e.wn (v1.1.step e.wn s2) k1) (gR e2 e1.wn v2.1 k2) (Rs.aM (iC (Rs.aH h) (ng a b)) λz h v H3 s3 v3=>?_)
 obtain⟨k,k3,h⟩:=cj (Rs.aH h) (J8 _)
 have e3:=e2.grow s3
 have b3:v=.bl k:=J9 (.inl (cY.rep (σ:=[]) e2.wn v3)) k3
 refine⟨k,b3,?_⟩
 split at h
 ·rename_i c
  rw[if_pos c]
  refine hc W q.2 σ H3 _ e3 (Rs.aM (Rs.aH h) λu h w H4 e4 s4 v4=>?_)
  obtain⟨b',k4,h⟩:=cj (Rs.aH h) (gU _ _)
  obtain⟨c',k5,h⟩:=cj (Rs.aH h) (gU _ _)
  refine o' W y w b' c' H4 _ e4.wl (gR e4 e1.wn ((v2.1.step e1.wn (aY.of s3)).step e1.wn s4) k4) (gR e4 e3.wn v4.1 k5) (Rs.aM (iC (Rs.aH h) (Vf b' c')) λz h v H5 s5 v5=>?_)
  have st:aY W H H4:=(s1.trans (s2.trans (aY.of s3))).trans s4
  exact h v H5 (e4.grow s5) (st.trans (aY.of s5)) ((fU.of e4 s5 v5).back st.dom)
 ·rename_i c
  rw[if_neg c]
  exact h _ H3 e3 ((s1.trans s2).trans (aY.of s3)) (.low (.bl false))
abbrev OF:=En->Rs (Option Int × En)
def SO(t:Tx)(te:TO)(f:OF):Prop:=∀W ρ σ H Q,aF t W ρ σ H->(f ρ).post t.EX (λp=>∀H',aF t W p.2 σ H'->aY W H H'->Q p.1 H')->te σ H Q
def vd:OF:=λρ=>.ok (none,ρ)
theorem Vg:SO t IK vd:=λW ρ σ H Q e h=>h H e (aY.refl _ _)
def cX:Tr->Rs Int
 |.int i=>.ok i
 |_=>.bad
theorem Kd(a:Tr)(c:Str):cX a ≠ .ex c:=by cases a <;> (intro z; cases z)
theorem Kf{K:FZ}{W:Addr->Prop}{H:Hp}{v:V}{a:Tr}{b:Int}(h:Rp K W H v a)(q:cX a=.ok b):v=.int b:=by
 cases a <;> cases q
 exact h.int
def vf(fa:EF):OF:=λρ=>(fa ρ).bind λp=>(dr p.2 p.1).bind λa=>(cX a).bind λb=>.ok (some b,p.2)
theorem Vh{ta:TE}{fa:EF}(ha:SE t ta fa):SO t (Ba ta) (vf fa):=λW ρ σ H Q e h=>by
 refine ha W ρ σ H _ e (Rs.aM (Rs.aH h) λp h x H1 e1 s1 v1=>?_)
 obtain⟨a,k1,h⟩:=cj (Rs.aH h) (gU _ _)
 obtain⟨b,k2,h⟩:=cj (Rs.aH h) (Kd _)
 exact⟨b,Kf (gR e1 e.wn v1.1 k1) k2,h H1 e1 s1⟩
def cut{α : Type}(xs:List α)(lo hi:Option Int):List α := (xs.drop (HT.bL xs.length 0 lo)).take (HT.bL xs.length xs.length hi-HT.bL xs.length 0 lo)
theorem aC.cut{K:FZ}{H:Hp}{xs:List V}{ts:List Tr}(r:aC K H xs ts)(lo hi:Option Int):aC K H (oN xs lo hi) (L2.cut ts lo hi):=by
 unfold oN L2.cut
 rw[r.length]
 exact(r.drop _).take _
def Kg(K:FZ):V->Option Int->Option Int->Hp->VK->Prop:=λx lo hi H Q=>Jp K x lo hi H Q\/Jc K x lo hi H Q\/JQ x lo hi H Q
theorem Kh{X:Cx}:lH X (Kg X.K):=lH.or RZ (lH.or RK Td)
noncomputable def qD(lo hi:Option Int):G1
 |.lst ts=>.ok (.lst (cut ts lo hi),true)
 |.tup ts=>if ¬(HT.bL ts.length 0 lo=0/\HT.bL ts.length ts.length hi=ts.length)then .ok (.tup (cut ts lo hi),false)else .bad
 |.str z=>if z.length<=100000 then .ok (.str (Txt.slice z lo hi),false)else .bad
 |_=>.bad
theorem Vi(lo hi:Option Int)(a:Tr)(c:Str):qD lo hi a ≠ .ex c:=by
 cases a <;> dsimp only[qD] <;> (try split) <;> (intro z; cases z)
def vg(fa:EF)(fl fh:OF):EF:=λρ=>(fa ρ).bind λp=>(fl p.2).bind λl=>(fh l.2).bind λh=>(dr h.2 p.1).bind λa=>(qD l.1 h.1 a).bind λz=>.ok (.v z.1 z.2,h.2)
theorem Vj{K:FZ}(hK:t.K=au K){ta:TE}{tl th:TO}{fa:EF}{fl fh:OF}(ha:SE t ta fa)(hl:SO t tl fl)(hh:SO t th fh):SE t (IW (Kg K) ta tl th) (vg fa fl fh):=λW ρ σ H Q e h=>by
 refine ha W ρ σ H _ e (Rs.aM (Rs.aH h) λp h x H1 e1 s1 v1=>?_)
 refine hl W p.2 σ H1 _ e1 (Rs.aM (Rs.aH h) λl h H2 e2 s2=>?_)
 refine hh W l.2 σ H2 _ e2 (Rs.aM (Rs.aH h) λu h H3 e3 s3=>?_)
 obtain⟨a,k1,h⟩:=cj (Rs.aH h) (gU _ _)
 obtain⟨z,k2,h⟩:=cj (Rs.aH h) (Vi _ _ _)
 have st:aY W H H3:=s1.trans (s2.trans s3)
 have rx:=gR e3 e.wn (v1.1.step e.wn (s2.trans s3)) k1
 rw[hK]at rx
 cases a with
 |bR c=>cases k2
 |lst ts =>
  cases k2
  obtain⟨b,xs,rfl,q,r⟩:=rx.lst
  refine .inl ⟨b,xs,rfl,q.toK,λy hy=>h _ _ (e3.grow (dN hy _)) (st.trans (aY.of (dN hy _))) ?_⟩
  rw[<-hK]at r
  exact(fU.of (σ' := σ) e3 (dN hy _) (cY.new hy (r.cut _ _))).back st.dom
 |tup ts =>
  dsimp only[qD]at k2
  split at k2
  ·rename_i c
   cases k2
   obtain⟨b,xs,rfl,q,r⟩:=rx.tup
   refine .inr (.inl ⟨b,xs,rfl,q.toK,by rw[r.length]; exact c,λy hy=>h _ _ (e3.grow (dN hy _)) (st.trans (aY.of (dN hy _))) ?_⟩)
   rw[<-hK]at r
   exact .low (cY.newT (σ := σ) (W:=W) e3.wl hy (r.cut _ _))
  ·cases k2
 |str i =>
  dsimp only[qD]at k2
  split at k2
  ·rename_i c
   cases k2
   rw[rx.str]
   exact .inr (.inr ⟨i,rfl,big c,h _ H3 e3 st (.low (.str _))⟩)
  ·cases k2
 |non=>cases k2
 |bl i=>cases k2
 |int i=>cases k2
abbrev GN:=List Tr->Rs (Tr × Bool)
def Cv(K:FZ)(r:List V->Hp->VK->Prop)(g:GN):Prop:=∀W xs as H Q,(∀b,W b->Lt H b)->pA K W H xs as->(g as).post (λ_=>False) (λp=>∀v H',Same H H'->cY K W [] H H' v (.v p.1 p.2)->Q v H')->r xs H Q
def bh(g:GN)(fa:AF):EF:=λρ=>(fa ρ).bind λp=>(drs p.2 p.1).bind λas=>(g as).bind λz=>.ok (.v z.1 z.2,p.2)
theorem pC{r:List V->Hp->VK->Prop}{g:GN}{ta:TA}{fa:AF}(o:Cv t.K r g)(ng:∀as c,g as ≠ .ex c)(ha:SA t ta fa):SE t (iH r ta) (bh g fa):=λW ρ σ H Q e h=>by
 refine ha W ρ σ H _ e (Rs.aM (Rs.aH h) λp h xs H1 e1 s1 v1=>?_)
 obtain⟨as,k1,h⟩:=cj (Rs.aH h) (rY _ _)
 refine o W xs as H1 Q e1.wl (xY e1 e.wn v1 k1) (Rs.aM (iC (Rs.aH h) (ng as)) λz h v H2 s2 v2=>?_)
 exact h v H2 (e1.grow s2) (s1.trans (aY.of s2)) ((fU.of e1 s2 v2).back s1.dom)
def g1(g:G1):GN
 | [a]=>g a
 |_=>.bad
theorem sG{g:G1}(h:∀a c,g a ≠ .ex c)(as:List Tr)(c:Str):g1 g as ≠ .ex c:=by
 match as with
 | []=>intro z; cases z
 | [a]=>exact h a c
 |_::_::_=>intro z; cases z
theorem sH{K:FZ}{r:List V->Hp->VK->Prop}{g:G1}(h:lN K (λx=>r [x]) g):Cv K r (g1 g):=λW xs as H Q hw rs q=>by
 cases rs with
 |nil=>exact q.elim
 |cons h1 r1 =>
  cases r1 with
  |nil=>exact h W _ _ H Q hw h1 q
  |cons _ _=>exact q.elim
def g2(g:G2):GN
 | [a,b]=>g a b
 |_=>.bad
theorem Km{g:G2}(h:∀a b c,g a b ≠ .ex c)(as:List Tr)(c:Str):g2 g as ≠ .ex c:=by
 match as with
 | []=>intro z; cases z
 | [a]=>intro z; cases z
 | [a,b]=>exact h a b c
 |_::_::_::_=>intro z; cases z
theorem Ko{K:FZ}{r:List V->Hp->VK->Prop}{g:G2}(h:fD K (λx y=>r [x,y]) g):Cv K r (g2 g):=λW xs as H Q hw rs q=>by
 cases rs with
 |nil=>exact q.elim
 |cons h1 r1 =>
  cases r1 with
  |nil=>exact q.elim
  |cons h2 r2 =>
   cases r2 with
   |nil=>exact h W _ _ _ _ H Q hw h1 h2 q
   |cons _ _=>exact q.elim
end
section
variable {K:FZ}
def Cw(K:FZ):List V->Hp->VK->Prop:=λxs H Q=>(∃p ys,xs=[.ref p]/\(bG K H p ys\/cQ K H p ys)/\Q (.int ys.length) H)\/(∃z,xs=[.str z]/\z.length<=sizeLine/\Q (.int z.length) H)
theorem jR{X:Cx}:fZ X (.builtin "len") (Cw X.K):=fZ.or R0 R3
def aW:G1
 |.lst ts=>.ok (.int ts.length,false)
 |.tup ts=>.ok (.int ts.length,false)
 |.str z=>if z.length<=100000 then .ok (.int z.length,false)else .bad
 |_=>.bad
theorem Vk:lN (au K) (λx=>Cw K [x]) aW:=λW x a H Q hw rx h=>by
 cases a <;> try exact h.elim
 ·rename_i z
  dsimp only[aW]at h
  split at h
  ·rename_i e
   rw[rx.str]
   exact .inr ⟨z,rfl,big e,h _ H (Same.refl _) (.dO (.int _))⟩
  ·exact h.elim
 ·obtain⟨p,xs,rfl,q,r⟩:=rx.tup
  refine .inl ⟨p,xs,rfl,.inr q.toK,?_⟩
  rw[r.length]
  exact h _ H (Same.refl _) (.dO (.int _))
 ·obtain⟨p,xs,rfl,q,r⟩:=rx.lst
  refine .inl ⟨p,xs,rfl,.inl q.toK,?_⟩
  rw[r.length]
  exact h _ H (Same.refl _) (.dO (.int _))
def gC:G1
 |.int i=>.ok (.int (if i<0 then -i else i),false)
 |_=>.bad
theorem Vl:lN K (λx H Q=>∃i,[x]=[V.int i]/\Q (.int (if i<0 then -i else i)) H) gC:=λW x a H Q hw rx h=>by
 cases a <;> try exact h.elim
 rw[rx.int]
 exact⟨_,rfl,h _ H (Same.refl _) (.dO (.int _))⟩
def cU:G1
 |.lst ts=>.ok (.lst ts,true)
 |.tup ts=>.ok (.lst ts,true)
 |_=>.bad
theorem Vm:lN (au K) (λx H Q=>∃p ys,[x]=[V.ref p]/\(bG K H p ys\/cQ K H p ys)/\∀l,H l=none->Q (.ref l) (upd H l (.lst ys))) cU:=λW x a H Q hw rx h=>by
 cases a <;> try exact h.elim
 ·obtain⟨p,xs,rfl,q,r⟩:=rx.tup
  exact⟨p,xs,rfl,.inr q.toK,λz hz=>h _ _ (dN hz _) (.new hz r)⟩
 ·obtain⟨p,xs,rfl,q,r⟩:=rx.lst
  exact⟨p,xs,rfl,.inl q.toK,λz hz=>h _ _ (dN hz _) (.new hz r)⟩
def fM:G1
 |.lst ts=>.ok (.tup ts,false)
 |.tup ts=>.ok (.tup ts,false)
 |_=>.bad
def jC:G1:=λt=>if g8 t=true/\blk t<=8000/\dep t<=40 then .ok (.str (txt t),false)else .bad
theorem Vn:lN (au K) (λx=>BR K [x]) jC:=λW x a H Q hw rx h=>by
 unfold jC at h
 split at h
 ·rename_i e
  exact⟨x,a,rfl,rx.rep.toK,e.1,e.2.1,e.2.2,h _ H (Same.refl _) (.dO (.str _))⟩
 ·exact h.elim
def fP:G2
 |.int i,.int j=>.ok (.int (if j<i then j else i),false)
 |_,_=>.bad
def fQ:G2
 |.int i,.int j=>.ok (.int (if j > i then j else i),false)
 |_,_=>.bad
theorem Vo:fD K (λx y H Q=>∃i j,[x,y]=[V.int i,V.int j]/\Q (.int (if j<i then j else i)) H) fP:=λW x y a b H Q hw rx ry h=>by
 cases a <;> cases b <;> try exact h.elim
 rw[rx.int,ry.int]
 exact⟨_,_,rfl,h _ H (Same.refl _) (.dO (.int _))⟩
theorem Vp:fD K (λx y H Q=>∃i j,[x,y]=[V.int i,V.int j]/\Q (.int (if j > i then j else i)) H) fQ:=λW x y a b H Q hw rx ry h=>by
 cases a <;> cases b <;> try exact h.elim
 rw[rx.int,ry.int]
 exact⟨_,_,rfl,h _ H (Same.refl _) (.dO (.int _))⟩
def mJ:List Tr->Option (List Bool)
 | []=>some []
 |.bl i::r=>(mJ r).map (i :: ·)
 |_::_=>none
theorem Kp{H:Hp}:∀{ts:List Tr} {ns:List Bool} {xs:List V},mJ ts=some ns->aC K H xs ts->xs=ns.map V.bl
 | [],ns,xs,h,r=>by cases h; cases r; rfl
 |.bl i::q,ns,xs,h,r=>by
  unfold mJ at h
  cases e:mJ q with
  |none=>rw[e]at h; cases h
  |some ms =>
   rw[e]at h
   cases h
   cases r with
   |cons h1 r1 =>
    cases h1
    rw[Kp e r1]
    rfl
 |.non::q,ns,xs,h,r=>by cases h
 |.int _::q,ns,xs,h,r=>by cases h
 |.str _::q,ns,xs,h,r=>by cases h
 |.tup _::q,ns,xs,h,r=>by cases h
 |.lst _::q,ns,xs,h,r=>by cases h
def c7:G1
 |.lst ts=>match mJ ts with
  |some bs=>.ok (.bl (bs.all id),false)
  |none=>.bad
 |_=>.bad
theorem Vq:lN (au K) (λx=>Bu K [x]) c7:=λW x a H Q hw rx h=>by
 cases a <;> try exact h.elim
 dsimp only[c7]at h
 split at h
 ·rename_i bs e
  obtain⟨p,xs,rfl,q,r⟩:=rx.lst
  have z:=Kp e r
  subst z
  exact⟨p,bs,rfl,q.toK,h _ H (Same.refl _) (.dO (.bl _))⟩
 ·exact h.elim
def gW(c:Ty)(fa:EF):EF:=λρ=>(fa ρ).bind λp=>(dr p.2 p.1).bind λa=>.ok (eB (cV a c),p.2)
theorem yd{t:Tx}(hK:t.K=au K)(c:Ty){ta:TE}{fa:EF}(ha:SE t ta fa):SE t (iH (xK K) (gQ ta (gQ (tC (.ty c.name)) jf))) (gW c fa):=λW ρ σ H Q e h=>by
 refine ha W ρ σ H _ e (Rs.aM (Rs.aH h) λp h x H1 e1 s1 v1=>?_)
 obtain⟨a,k1,h⟩:=cj (Rs.aH h) (gU _ _)
 have r:=gR e1 e.wn v1.1 k1
 rw[hK]at r
 exact⟨x,a,c,rfl,r.rep.toK,h _ H1 e1 s1 (.low (.bl _))⟩
end
end L2
end
section
namespace L2
open PySem PySem.Spec PyProof.Rows
inductive Fl where
 |nx|rt (T:Tr) (fr:Bool)|bk|ct
abbrev SF:=En->Rs (Fl × En)
def gK(W:Addr->Prop)(H:Hp)(W':Addr->Prop)(H':Hp):Prop:=∀b o,¬W b->H b=some o->¬W' b/\H' b=some o
theorem gK.refl(W:Addr->Prop)(H:Hp):gK W H W H:=λ_ _ n h=>⟨n,h⟩
theorem gK.trans{W W1 W2:Addr->Prop}{H H1 H2:Hp}(a:gK W H W1 H1)(b:gK W1 H1 W2 H2):gK W H W2 H2:=λc o n h=>by
 obtain⟨n1,h1⟩:=a c o n h
 exact b c o n1 h1
theorem aY.nxt{W:Addr->Prop}{H H':Hp}(s:aY W H H'):gK W H W H':=λb o n h=>⟨n,s.keep b o n h⟩
theorem gK.same{W W':Addr->Prop}{H H':Hp}(a:gK W H W' H'):Same (aA W H) (aA W' H'):=λb o h=>by
 obtain⟨n,h⟩:=fV h
 obtain⟨n',h'⟩:=a b o n h
 rw[cW n']
 exact h'
def VR(t:Tx)(H':Hp)(v:V)(T:Tr):Bool->Prop
 |false=>Rep t.K (aA t.Z H') v T
 |true=>∃a xs ts,v=.ref a/\T=.lst ts/\t.H0 a=none/\H' a=some (.lst xs)/\aC t.K (off a (aA t.Z H')) xs ts
noncomputable def lQ(t:Tx)(W:Addr->Prop)(H:Hp)(D:Ends)(p:Fl × En):Prop:=match p.1 with
 |.nx=>∀W' σ' H',aF t W' p.2 σ' H'->gK W H W' H'->D.nx σ' H'
 |.rt T fr=>∀v W' σ' H',aF t W' p.2 σ' H'->VR t H' v T fr->D.rt v H'
 |.bk=>∀W' σ' H',aF t W' p.2 σ' H'->gK W H W' H'->D.bk σ' H'
 |.ct=>∀W' σ' H',aF t W' p.2 σ' H'->gK W H W' H'->D.ct σ' H'
def SS(t:Tx)(ts:TS)(f:SF):Prop:=∀W ρ σ H D,aF t W ρ σ H->(f ρ).post t.EX (lQ t W H D)->ts D σ H
theorem lQ.back{t:Tx}{W W':Addr->Prop}{H H':Hp}{D:Ends}{p:Fl × En}(h:lQ t W H D p)(n:gK W H W' H'):lQ t W' H' D p:=by
 obtain⟨fl,ρ⟩:=p
 cases fl with
 |nx=>exact λW2 σ2 H2 e m=>h W2 σ2 H2 e (n.trans m)
 |rt T fr=>exact h
 |bk=>exact λW2 σ2 H2 e m=>h W2 σ2 H2 e (n.trans m)
 |ct=>exact λW2 σ2 H2 e m=>h W2 σ2 H2 e (n.trans m)
section
variable {t:Tx}
def cu:SF:=λρ=>.ok (.nx,ρ)
theorem lR:SS t Ht cu:=λW ρ σ H D e h=>h W σ H e (gK.refl _ _)
def aL(f g:SF):SF:=λρ=>(f ρ).bind λp=>match p.1 with
 |.nx=>g p.2
 |fl=>.ok (fl,p.2)
theorem jk{ta tb:TS}{f g:SF}(h1:SS t ta f)(h2:SS t tb g):SS t (uw ta tb) (aL f g):=λW ρ σ H D e h=>by
 refine h1 W ρ σ H _ e (Rs.aM (Rs.aH h) λp h=>?_)
 obtain⟨fl,ρ1⟩:=p
 cases fl with
 |nx=>exact λW1 σ1 H1 e1 n1=>h2 W1 ρ1 σ1 H1 D e1 (Rs.aM h λq h=>h.back n1)
 |rt T fr=>exact h
 |bk=>exact h
 |ct=>exact h
theorem get_set{α : Type}{l:List α}{i j:Nat}{a b : α}(h:(l.set i a)[j]?=some b):(j=i/\b=a/\i<l.length)\/(j≠i/\l[j]?=some b):=by
 by_cases e:i=j
 ·subst e
  rw[List.getElem?_set_self']at h
  cases q:l[i]? with
  |none=>rw[q]at h; cases h
  |some c =>
   rw[q]at h
   cases h
   exact .inl ⟨rfl,rfl,(List.getElem?_eq_some_iff.mp q).1⟩
 ·rw[List.getElem?_set_ne e]at h
  exact .inr ⟨Ne.symm e,h⟩
theorem qF{α : Type}{l:List α}{i:Nat}{a : α}(h:i<l.length):(l.set i a)[i]?=some a:=by
 rw[List.getElem?_set_self' ,List.getElem?_eq_getElem h]
 rfl
theorem aF.Cy{W:Addr->Prop}{ρ : En}{σ : St}{H:Hp}{i:Nat}{v:V}{T:Tr}(e:aF t W ρ σ H)(r:Rep t.K (aA W H) v T):aF t W (ρ.set i (.sh T)) (σ.set i (some v)) H:=by
 have mu:∀j,Mu (ρ.set i (.sh T)) j->j≠i/\Mu ρ j:=λj h=>by
  obtain⟨ts,h|h⟩:=h <;> rcases get_set h with⟨rfl,z,_⟩|⟨ne,h⟩
  ·cases z
  ·exact⟨ne,ts,.inl h⟩
  ·cases z
  ·exact⟨ne,ts,.inr h⟩
 have iu:∀j us,(ρ.set i (.sh T))[j]?=some (.dp us)->j≠i/\ρ[j]?=some (.dp us):=λj us h=>by
  rcases get_set h with⟨rfl,z,_⟩|⟨ne,h⟩
  ·cases z
  ·exact⟨ne,h⟩
 obtain⟨F,e⟩:=e
 refine⟨F,by rw[List.length_set,List.length_set]; exact e.len,e.zw,e.z0,e.wl,e.f0,e.n0,λj u h=>?_,λj ts h=>?_,λj ts h=>?_,λj k a h1 h2 q1 q2=>?_,e.pn,λj a m q=>e.pd j a (mu j m).2 (by rw[List.getElem?_set_ne (Ne.symm (mu j m).1)]at q; exact q),
  λj us h=>?_,λj k us ws n h1 h2=>e.dd j k us ws n (iu j us h1).2 (iu k ws h2).2,λj k us c h1 m q=>e.dm j k us c (iu j us h1).2 (mu k m).2 (by rw[List.getElem?_set_ne (Ne.symm (mu k m).1)]at q; exact q),λj us h=>e.db j us (iu j us h).2,e.tab⟩
 ·rcases get_set h with⟨rfl,z,l⟩|⟨ne,h⟩
  ·cases z
   exact⟨v,qF (by rw[<-e.len]; exact l),r⟩
  ·obtain⟨w,h1,h2⟩:=e.sh j u h
   exact⟨w,by rw[List.getElem?_set_ne (Ne.symm ne)]; exact h1,h2⟩
 ·rcases get_set h with⟨rfl,z,l⟩|⟨ne,h⟩
  ·cases z
  ·obtain⟨a,xs,h1,h2⟩:=e.ow j ts h
   exact⟨a,xs,by rw[List.getElem?_set_ne (Ne.symm ne)]; exact h1,h2⟩
 ·rcases get_set h with⟨rfl,z,l⟩|⟨ne,h⟩
  ·cases z
  ·obtain⟨a,xs,h1,h2⟩:=e.rf j ts h
   exact⟨a,xs,by rw[List.getElem?_set_ne (Ne.symm ne)]; exact h1,h2⟩
 ·obtain⟨n1,m1⟩:=mu j h1
  obtain⟨n2,m2⟩:=mu k h2
  rw[List.getElem?_set_ne (Ne.symm n1)]at q1
  rw[List.getElem?_set_ne (Ne.symm n2)]at q2
  exact e.dis j k a m1 m2 q1 q2
 ·obtain⟨ne,h⟩:=iu j us h
  obtain⟨c,ys,h1,d⟩:=e.dp j us h
  exact⟨c,ys,by rw[List.getElem?_set_ne (Ne.symm ne)]; exact h1,d⟩
theorem aF.addr{W:Addr->Prop}{ρ : En}{σ : St}{H:Hp}{i:Nat}{a:Addr}(e:aF t W ρ σ H)(m:Mu ρ i)(q : σ[i]?=some (some (.ref a))):W a:=by
 obtain⟨ts,h|h⟩:=m
 ·obtain⟨b,xs,h1,h2,_⟩:=e.ow i ts h
  rw[q]at h1
  cases h1
  exact h2
 ·obtain⟨b,xs,h1,h2,_⟩:=e.rf i ts h
  rw[q]at h1
  cases h1
  exact h2
theorem aF.Vr{W:Addr->Prop}{ρ : En}{σ : St}{H:Hp}{i:Nat}{a:Addr}{xs:List V}{ts:List Tr}(e0:aF t W ρ σ H)(nw:¬W a)(e:nG t W a ρ σ H)(h0:t.H0 a=none)(hB:t.B a=none)(ha:H a=some (.lst xs))(r:aC t.K (off a (aA W H)) xs ts) :
  aF t (λb=>W b\/b=a) (ρ.set i (.ow ts)) (σ.set i (some (.ref a))) H:=by
 have mu:∀j,Mu (ρ.set i (.ow ts)) j->j=i\/(j≠i/\Mu ρ j):=λj h=>by
  obtain⟨ts,h|h⟩:=h <;> rcases get_set h with⟨rfl,z,_⟩|⟨ne,h⟩
  ·exact .inl rfl
  ·exact .inr ⟨ne,ts,.inl h⟩
  ·exact .inl rfl
  ·exact .inr ⟨ne,ts,.inr h⟩
 have m:Same (off a (aA W H)) (aA (λb=>W b\/b=a) H):=λb o q=>by
  obtain⟨ne,q⟩:=oW q
  obtain⟨n,q⟩:=fV q
  rw[cW]
  ·exact q
  ·rintro(z|z)
   ·exact n z
   ·exact ne z
 have iu:∀j us,(ρ.set i (.ow ts))[j]?=some (.dp us)->j≠i/\ρ[j]?=some (.dp us):=λj us h=>by
  rcases get_set h with⟨rfl,z,_⟩|⟨ne,h⟩
  ·cases z
  ·exact⟨ne,h⟩
 obtain⟨F,e,na⟩:=e
 refine⟨F,by rw[List.length_set,List.length_set]; exact e.len,e.zw,e.z0,e.wl,e.f0,e.n0,λj u h=>?_,λj us h=>?_,λj us h=>?_,λj k c h1 h2 q1 q2=>?_,e.pn,λj c m q=>?_,
  λj us h=>?_,λj k us ws n h1 h2=>e.dd j k us ws n (iu j us h1).2 (iu k ws h2).2,λj k us c h1 m q=>?_,λj us h=>e.db j us (iu j us h).2,e.tab⟩
 ·rcases get_set h with⟨rfl,z,l⟩|⟨ne,h⟩
  ·cases z
  ·obtain⟨w,h1,h2⟩:=e.sh j u h
   exact⟨w,by rw[List.getElem?_set_ne (Ne.symm ne)]; exact h1,h2⟩
 ·rcases get_set h with⟨rfl,z,l⟩|⟨ne,h⟩
  ·cases z
   exact⟨a,xs,qF (by rw[<-e.len]; exact l),.inr rfl,h0,ha,r.mono m⟩
  ·obtain⟨c,ys,h1,h2⟩:=e.ow j us h
   exact⟨c,ys,by rw[List.getElem?_set_ne (Ne.symm ne)]; exact h1,h2⟩
 ·rcases get_set h with⟨rfl,z,l⟩|⟨ne,h⟩
  ·cases z
  ·obtain⟨c,ys,h1,h2⟩:=e.rf j us h
   exact⟨c,ys,by rw[List.getElem?_set_ne (Ne.symm ne)]; exact h1,h2⟩
 ·have old:∀j,j≠i->Mu ρ j->(σ.set i (some (.ref a)))[j]? ≠ some (some (.ref a)):=λj ne m q=>by
   rw[List.getElem?_set_ne (Ne.symm ne)]at q
   exact nw (e0.addr m q)
  have self:∀c,(σ.set i (some (V.ref a)))[i]?=some (some (.ref c))->c=a:=λc q=>by
   rcases get_set q with⟨_,z,_⟩|⟨ne,_⟩
   ·cases z; rfl
   ·exact absurd rfl ne
  rcases mu j h1 with rfl|⟨n1,m1⟩ <;> rcases mu k h2 with rfl|⟨n2,m2⟩
  ·rfl
  ·have:=self c q1
   subst this
   exact(old k n2 m2 q2).elim
  ·have:=self c q2
   subst this
   exact(old j n1 m1 q1).elim
  ·rw[List.getElem?_set_ne (Ne.symm n1)]at q1
   rw[List.getElem?_set_ne (Ne.symm n2)]at q2
   exact e.dis j k c m1 m2 q1 q2
 ·rcases mu j m with rfl|⟨n1,m1⟩
  ·rcases get_set q with⟨_,z,_⟩|⟨ne,_⟩
   ·cases z; exact hB
   ·exact absurd rfl ne
  ·rw[List.getElem?_set_ne (Ne.symm n1)]at q
   exact e.pd j c m1 q
 ·obtain⟨ne,h⟩:=iu j us h
  obtain⟨c,ys,h1,d⟩:=e.dp j us h
  exact⟨c,ys,by rw[List.getElem?_set_ne (Ne.symm ne)]; exact h1,d⟩
 ·obtain⟨nj,hj⟩:=iu j us h1
  rcases mu k m with rfl|⟨n2,m2⟩
  ·rcases get_set q with⟨_,z,_⟩|⟨nk,_⟩
   ·cases z
    exact na j us hj
   ·exact absurd rfl nk
  ·rw[List.getElem?_set_ne (Ne.symm n2)]at q
   exact e.dm j k us c hj m2 q
theorem aF.vh{W:Addr->Prop}{ρ : En}{σ : St}{H:Hp}{a:Addr}(e:aF t W ρ σ H)(n:H a=none):t.B a=none:=by
 cases q:t.B a with
 |none=>rfl
 |some o=>rw[e.pn a o q]at n; cases n
abbrev GF:=Tr->En->Rs En
def SG(t:Tx)(g:TG)(f:GF)(js:List Nat):Prop:=∀W ρ σ H v T Q,aF t W ρ σ H->Rep t.K (aA W H) v T->(f T ρ).post (λ_=>False) (λρ'=>∀σ',aF t W ρ' σ' H->(∀k,k∉js -> σ'[k]?=σ[k]?)->Q σ' H)->g v σ H Q
def gN(i:Nat):GF:=λT ρ=>.ok (ρ.set i (.sh T))
theorem jl(i:Nat):SG t (fH i) (gN i) [i]:=λW ρ σ H v T Q e r h=>h _ (e.Cy r) λk n=>List.getElem?_set_ne (λz=>n (by rw[z]; exact List.mem_singleton.mpr rfl))
abbrev lU:=List Tr->En->Rs En
def yg(t:Tx)(g:mD)(f:lU)(js:List Nat):Prop:=∀W ρ σ H vs Ts Q,aF t W ρ σ H->aC t.K (aA W H) vs Ts->(f Ts ρ).post (λ_=>False) (λρ'=>∀σ',aF t W ρ' σ' H->(∀k,k∉js -> σ'[k]?=σ[k]?)->Q σ' H)->g vs σ H Q
def jD:lU:=λTs ρ=>match Ts with
 | []=>.ok ρ
 |_=>.bad
def eH(f:GF)(g:lU):lU:=λTs ρ=>match Ts with
 |T::r=>(f T ρ).bind λρ'=>g r ρ'
 | []=>.bad
theorem Kq:yg t Ah jD []:=λW ρ σ H vs Ts Q e r h=>by
 cases r with
 |nil=>exact⟨rfl,h σ e λ_ _=>rfl⟩
 |cons _ _=>exact h.elim
theorem vm{g:TG}{u:mD}{f:GF}{fs:lU}{js ks:List Nat}(h1:SG t g f js)(h2:yg t u fs ks):yg t (wL g u) (eH f fs) (js++ks):=λW ρ σ H vs Ts Q e r h=>by
 cases r with
 |nil=>exact h.elim
 | @cons x T xs Ts r1 r2 =>
  refine⟨x,xs,rfl,h1 W ρ σ H x T _ e r1 (Rs.aM (Rs.aH h) λρ' h σ' e' n1=>?_)⟩
  refine h2 W ρ' σ' H xs Ts _ e' r2 (Rs.aM h λρ2 h σ2 e2 n2=>h σ2 e2 λk n=>?_)
  rw[List.mem_append,not_or]at n
  rw[n2 k n.2,n1 k n.1]
def gT(n:Nat)(f:lU):GF:=λT ρ=>match T with
 |.tup Ts=>if Ts.length=n then f Ts ρ else .bad
 |_=>.bad
theorem Kr{K:FZ}(hK:t.K=au K){n:Nat}{u:mD}{fs:lU}{js:List Nat}(h2:yg t u fs js):SG t (Ai K n u) (gT n fs) js:=λW ρ σ H v T Q e r h=>by
 cases T <;> try exact h.elim
 rename_i Ts
 dsimp only[gT]at h
 split at h
 ·rename_i c
  cases r with
  | @tup a xs _ q r =>
   have q':=(ig W H).qp q
   rw[hK]at q'
   exact⟨a,xs,rfl,q'.toK,by rw[r.length]; exact c,h2 W ρ σ H xs Ts Q e r h⟩
 ·exact h.elim
def cF(f:EF)(g:GF):SF:=λρ=>(f ρ).bind λp=>match p.1 with
 |.v T _=>(g T p.2).bind λρ'=>.ok (.nx,ρ')
 |.s _=>.bad
theorem yh{te:TE}{g:TG}{f:EF}{gf:GF}{js:List Nat}(h1:SE t te f)(h2:SG t g gf js)(ng:∀T ρ c,gf T ρ ≠ .ex c):SS t (lF te g) (cF f gf):=λW ρ σ H D e h=>by
 refine h1 W ρ σ H _ e (Rs.aM (Rs.aH h) λp h v H1 e1 s1 v1=>?_)
 obtain⟨r,ρ1⟩:=p
 cases r with
 |s i=>exact h.elim
 |v T fr=>exact h2 W ρ1 σ H1 v T _ e1 (v1.1.rep e.wn) (Rs.aM (iC (Rs.aH h) (ng T ρ1)) λρ' h σ' e' _=>h W σ' H1 e' s1.nxt)
def sI(i:Nat)(f:EF):SF:=λρ=>(f ρ).bind λp=>match p.1 with
 |.v (.lst ts) true=>.ok (.nx,p.2.set i (.ow ts))
 |_=>.bad
theorem Ks{te:TE}{f:EF}(i:Nat)(h1:SE t te f):SS t (lF te (fH i)) (sI i f):=λW ρ σ H D e h=>by
 refine h1 W ρ σ H _ e (Rs.aM (Rs.aH h) λp h v H1 e1 s1 v1=>?_)
 obtain⟨r,ρ1⟩:=p
 dsimp only at h
 split at h
 ·rename_i ts
  obtain⟨⟨a,xs,us,rfl,z,n,q,rr⟩,he⟩:=v1
  cases z
  have nw:¬W a:=λw=>e.wn a w n
  refine h _ _ H1 (e1.Vr nw (he _ a rfl rfl) (e.n0 a n) (e.vh n) q rr) λb o nb hb=>⟨?_,s1.keep b o nb hb⟩
  rintro(z|rfl)
  ·exact nb z
  ·rw[n]at hb; cases hb
 ·exact h.elim
def nM(f:EF):SF:=λρ=>(f ρ).bind λp=>.ok (.nx,p.2)
theorem Cz{te:TE}{f:EF}(h1:SE t te f):SS t (ux te) (nM f):=λW ρ σ H D e h =>
 h1 W ρ σ H _ e (Rs.aM (Rs.aH h) λp h v H1 e1 s1 v1=>h W σ H1 e1 s1.nxt)
def aX(f:EF):SF:=λρ=>(f ρ).bind λp=>match p.1 with
 |.v T fr=>.ok (.rt T fr,p.2)
 |.s i=>match p.2[i]? with
  |some (.ow ts)=>.ok (.rt (.lst ts) true,p.2)
  |_=>.bad
theorem yj{W:Addr->Prop}{ρ : En}{σ : St}{H:Hp}(e:aF t W ρ σ H):Same (aA W H) (aA t.Z H):=lK (λb _ _ z=>e.zw b z) λ_ _ _ h=>h
theorem lV{te:TE}{f:EF}(h1:SE t te f):SS t (Af te) (aX f):=λW ρ σ H D e h=>by
 refine h1 W ρ σ H _ e (Rs.aM (Rs.aH h) λp h v H1 e1 s1 v1=>?_)
 obtain⟨r,ρ1⟩:=p
 cases r with
 |v T fr =>
  refine h v W σ H1 e1 ?_
  cases fr with
  |false=>exact Rep.mono (yj e1) v1.1
  |true =>
   obtain⟨a,xs,us,rfl,z,n,q,rr⟩:=v1.1
   refine⟨a,xs,us,rfl,z,e.n0 a n,q,rr.mono λb o q=>?_⟩
   obtain⟨ne,q⟩:=oW q
   rw[off_ne ne]
   exact yj e1 b o q
 |s i =>
  dsimp only at h
  split at h
  ·rename_i ts q
   obtain⟨a,xs,h1,h2,h3,h4,h5⟩:=e1.ow i ts q
   have ev : σ[i]?=some (some v):=v1.1
   rw[ev]at h1
   cases h1
   refine h _ W σ H1 e1 ⟨a,xs,ts,rfl,rfl,h3,h4,h5.mono λb o q=>?_⟩
   have ne:b≠a:=λz=>by subst z; rw[xV h2]at q; cases q
   rw[off_ne ne]
   exact yj e1 b o q
  ·exact h.elim
def cA(c:BF)(f g:SF):SF:=λρ=>(c ρ).bind λp=>if p.1=true then f p.2 else g p.2
theorem lW{tc:TT}{ta tb:TS}{c:BF}{f g:SF}(hc:ST t tc c)(ha:SS t ta f)(hb:SS t tb g):SS t (Hu tc ta tb) (cA c f g):=λW ρ σ H D e h=>by
 refine hc W ρ σ H _ e (Rs.aM (Rs.aH h) λp h H1 e1 s1=>?_)
 split at h
 ·rename_i d
  refine if_pos d▸ha W p.2 σ H1 D e1 (Rs.aM h λq h=>h.back s1.nxt)
 ·rename_i d
  refine if_neg d▸hb W p.2 σ H1 D e1 (Rs.aM h λq h=>h.back s1.nxt)
def cD(i:Nat)(ρ : En):En:=match ρ[i]? with
 |some (.ow ts)=>ρ.set i (.sh (.lst ts))
 |_=>ρ
end
end L2
end
section
namespace L2
open PySem PySem.Spec PyProof.Rows
section
variable {t:Tx}
def Vs(i:Nat)(f:SF):SF:=λρ=>f (cD i ρ)
def qG(c:BF)(b:SF):Nat->SF
 | 0=>λ_=>.bad
 | n + 1=>λρ => (c ρ).bind λp=>if p.1=true then (b p.2).bind λq=>(match q.1 with
  |.nx=>qG c b n q.2
  |.ct=>qG c b n q.2
  |.bk=>.ok (.nx,q.2)
  |.rt T fr=>.ok (.rt T fr,q.2))else .ok (.nx,p.2)
def sJ(fu:En->Nat)(c:BF)(b:SF):SF:=λρ=>qG c b (fu ρ) ρ
theorem Vt{tc:TT}{tb:TS}{c:BF}{b:SF}(fu:En->Nat)(hc:ST t tc c)(hb:SS t tb b):SS t (HF tc tb) (sJ fu c b):=λW ρ σ H D e h=>by
 refine⟨λm σ' H'=>∃ρ' W',aF t W' ρ' σ' H'/\(qG c b m ρ').post t.EX (lQ t W' H' D),⟨fu ρ,ρ,W,e,h⟩,?_⟩
 rintro m σ1 H1 ⟨ρ1,W1,e1,h1⟩
 cases m with
 |zero=>exact h1.elim
 |succ n =>
  refine hc W1 ρ1 σ1 H1 _ e1 (Rs.aM (Rs.aH h1) λp h H2 e2 s2=>?_)
  split at h
  ·rename_i d
   rw[if_pos d]
   refine⟨λσ' H'=>∃ρ' W',aF t W' ρ' σ' H'/\(qG c b n ρ').post t.EX (lQ t W' H' D),λσ' H' q=>⟨n,Nat.lt_succ_self n,q⟩,?_⟩
   refine hb W1 p.2 σ1 H2 _ e2 (Rs.aM (Rs.aH h) λq h=>?_)
   obtain⟨fl,ρ3⟩:=q
   cases fl with
   |nx=>exact λW3 σ3 H3 e3 n3=>⟨ρ3,W3,e3,Rs.aM h λr h=>h.back (s2.nxt.trans n3)⟩
   |ct=>exact λW3 σ3 H3 e3 n3=>⟨ρ3,W3,e3,Rs.aM h λr h=>h.back (s2.nxt.trans n3)⟩
   |bk=>exact λW3 σ3 H3 e3 n3=>h W3 σ3 H3 e3 (s2.nxt.trans n3)
   |rt T fr=>exact h
  ·rename_i d
   rw[if_neg d]
   exact h W1 σ1 H2 e2 s2.nxt
def sO(K:FZ)(W:Addr->Prop)(H:Hp)(J:It)(us:List Tr):Prop:=∀W' H',Same (aA W H) (aA W' H')->(∀b,W' b->Lt H' b)->∀i,(i=us.length->J.stop i H')/\∀u,us[i]?=some u->J.go i H'/\∀x gJ,J.rG i H' x gJ->Same H' gJ/\Rep K (aA W' gJ) x u
abbrev IF:=En->Rs (List Tr × En)
def SI(t:Tx)(wi:TI)(f:IF):Prop:=∀W ρ σ H R,aF t W ρ σ H->(f ρ).post t.EX (λp=>∀J H',aF t W p.2 σ H'->aY W H H'->sO t.K W H' J p.1->R J H')->wi σ H R
def gM(g:GF)(b:SF):List Tr->SF
 | []=>λρ=>.ok (.nx,ρ)
 | u :: us=>λρ => (g u ρ).bind λρ1=>(b ρ1).bind λq=>(match q.1 with
  |.nx=>gM g b us q.2
  |.ct=>gM g b us q.2
  |.bk=>.ok (.nx,q.2)
  |.rt T fr=>.ok (.rt T fr,q.2))
def iM(fi:IF)(g:GF)(b:SF):SF:=λρ=>(fi ρ).bind λp=>gM g b p.1 p.2
theorem Ku{wi:TI}{g:TG}{tb:TS}{fi:IF}{gf:GF}{b:SF}{js:List Nat}(hi:SI t wi fi)(hg:SG t g gf js)(ng:∀T ρ c,gf T ρ ≠ .ex c)(hb:SS t tb b):SS t (HW wi g tb) (iM fi gf b):=λW ρ σ H D e h=>by
 refine hi W ρ σ H _ e (Rs.aM (Rs.aH h) λp h J H1 e1 s1 it=>?_)
 obtain⟨us,ρ1⟩:=p
 dsimp only at h it e1
 refine⟨λi m σ' H'=>m=us.length-i/\i<=us.length/\∃ρ' W',aF t W' ρ' σ' H'/\gK W H1 W' H'/\(gM gf b (us.drop i) ρ').post t.EX (lQ t W' H' D),⟨us.length,by simp,Nat.zero_le _,ρ1,W,e1,gK.refl _ _,by rw[List.drop_zero]; exact Rs.aM h λr h=>h.back s1.nxt⟩,?_⟩
 rintro i m σ2 H2 ⟨rfl,hi,ρ2,W2,e2,n2,h2⟩
 have q:=it W2 H2 n2.same e2.wl i
 by_cases hlt:i<us.length
 ·rw[List.drop_eq_getElem_cons hlt]at h2
  obtain⟨go,y⟩:=q.2 us[i] (by simp[hlt])
  refine .inr ⟨go,λσ' H'=>∃ρ' W',aF t W' ρ' σ' H'/\gK W H1 W' H'/\(gM gf b (us.drop (i+1)) ρ').post t.EX (lQ t W' H' D),λσ' H' z=>⟨us.length-(i+1),by omega,rfl,hlt,z⟩,λx H3 yl=>?_⟩
  obtain⟨s3,r3⟩:=y x H3 yl
  have e3:=e2.grow s3
  have n3:gK W H1 W2 H3:=n2.trans (aY.of s3).nxt
  refine hg W2 ρ2 σ2 H3 x us[i] _ e3 r3 (Rs.aM (iC (Rs.aH h2) (ng _ _)) λρ4 h σ4 e4 _=>?_)
  refine hb W2 ρ4 σ4 H3 _ e4 (Rs.aM (Rs.aH h) λr h=>?_)
  obtain⟨fl,ρ5⟩:=r
  cases fl with
  |nx=>exact λW5 σ5 H5 e5 n5=>⟨ρ5,W5,e5,n3.trans n5,Rs.aM h λr h=>h.back ((aY.of s3).nxt.trans n5)⟩
  |ct=>exact λW5 σ5 H5 e5 n5=>⟨ρ5,W5,e5,n3.trans n5,Rs.aM h λr h=>h.back ((aY.of s3).nxt.trans n5)⟩
  |bk=>exact λW5 σ5 H5 e5 n5=>h W5 σ5 H5 e5 ((aY.of s3).nxt.trans n5)
  |rt T fr=>exact h
 ·have z:i=us.length:=by omega
  subst z
  rw[List.drop_length]at h2
  exact .inl ⟨q.1 rfl,h2 W2 σ2 H2 e2 (gK.refl _ _)⟩
def CG(K:FZ)(tl:TE):TI:=λσ H R=>HN K tl σ H R\/HS K tl σ H R
theorem lX{X:Cx}{tg l:Expr}{tl:TE}(hl:PE X l tl):PI X tg l (CG X.K tl):=λpins s σ H R I h=>by
 rcases h with h|h
 ·exact QD hl pins s σ H R I h
 ·exact QG hl pins s σ H R I h
def dI:Rv->Rs (List Tr × Bool)
 |.v (.lst ts) _=>.ok (ts,true)
 |.v (.tup ts) _=>.ok (ts,false)
 |_=>.bad
def dR(f:EF):IF:=λρ=>(f ρ).bind λp=>(dI p.1).bind λz=>.ok (z.1,p.2)
theorem Vu{K:FZ}{W:Addr->Prop}{H:Hp}{a:Addr}{xs:List V}{us:List Tr}(q:bG (au K) (aA W H) a xs)(r:aC (au K) (aA W H) xs us):sO (au K) W H (Al K a) us:=λW' H' m hw i=>by
 have q':bG K H' a xs:=((ig W' H').seq (m.seq q)).toK
 refine⟨λz=>⟨xs,q',by rw[r.length]; omega⟩,λu hu=>?_⟩
 obtain⟨x,hx,rx⟩:=r.o9 hu
 refine⟨⟨xs,x,q',hx⟩,λy gJ yl=>?_⟩
 obtain⟨rfl,z⟩:=yl
 have:=z xs q'
 rw[hx]at this
 cases this
 exact⟨Same.refl _,rx.mono m⟩
theorem Vv{K:FZ}{W:Addr->Prop}{H:Hp}{a:Addr}{xs:List V}{us:List Tr}(q:cQ (au K) (aA W H) a xs)(r:aC (au K) (aA W H) xs us):sO (au K) W H (Am K a) us:=λW' H' m hw i=>by
 have q':cQ K H' a xs:=((ig W' H').qp (m.qp q)).toK
 refine⟨λz=>⟨xs,q',by rw[r.length]; omega⟩,λu hu=>?_⟩
 obtain⟨x,hx,rx⟩:=r.o9 hu
 refine⟨⟨xs,x,q',hx⟩,λy gJ yl=>?_⟩
 obtain⟨rfl,z⟩:=yl
 have:=z xs q'
 rw[hx]at this
 cases this
 exact⟨Same.refl _,rx.mono m⟩
theorem sS{K:FZ}(hK:t.K=au K){tl:TE}{f:EF}(h1:SE t tl f):SI t (CG K tl) (dR f):=λW ρ σ H R e h=>by
 have h:=Rs.aH h
 have key:∀b:Bool,(f ρ).post t.EX (λp=>∃us,dI p.1=.ok (us,b)/\∀J H',aF t W p.2 σ H'->aY W H H'->sO t.K W H' J us->R J H')->CG K tl σ H R:=λb h=>by
  cases b with
  |true =>
   refine .inl (h1 W ρ σ H _ e (Rs.aM h λp h v H1 e1 s1 v1=>?_))
   obtain⟨us,q,h⟩:=h
   obtain⟨r,ρ1⟩:=p
   cases r with
   |s i=>cases q
   |v T fr =>
    cases T <;> cases q
    have rr:=v1.1.rep e.wn
    cases rr with
    | @lst a xs _ q r =>
     refine⟨a,rfl,⟨xs,?_⟩,h _ H1 e1 s1 ?_⟩
     ·rw[hK]at q
      exact((ig _ _).seq q).toK
     ·rw[hK]at q r ⊢
      exact Vu q r
  |false =>
   refine .inr (h1 W ρ σ H _ e (Rs.aM h λp h v H1 e1 s1 v1=>?_))
   obtain⟨us,q,h⟩:=h
   obtain⟨r,ρ1⟩:=p
   cases r with
   |s i=>cases q
   |v T fr =>
    cases T <;> cases q
    have rr:=v1.1.rep e.wn
    cases rr with
    | @tup a xs _ q r =>
     refine⟨a,rfl,⟨xs,?_⟩,h _ H1 e1 s1 ?_⟩
     ·rw[hK]at q
      exact((ig _ _).qp q).toK
     ·rw[hK]at q r ⊢
      exact Vv q r
 cases k:f ρ with
 |bad=>rw[k]at h; exact h.elim
 |ex c =>
  refine key true ?_
  rw[k]at h ⊢
  exact h
 |ok p =>
  rw[k]at h
  have h:((dI p.1).bind _).post _ _:=h
  cases k2:dI p.1 with
  |bad=>rw[k2]at h; exact h.elim
  |ex c =>
   exfalso
   revert k2
   unfold dI
   split <;> (intro z; cases z)
  |ok z =>
   rw[k2]at h
   refine key z.2 ?_
   rw[k]
   exact⟨z.1,k2,h⟩
def upTo(lo:Int):Nat->List Tr
 | 0=>[]
 |n+1=>.int lo::upTo (lo+1) n
theorem qH(lo:Int):∀n,(upTo lo n).length=n:=λn=>by
 induction n generalizing lo with
 |zero=>rfl
 |succ n ih=>rw[upTo,List.length_cons,ih]
theorem Vw{lo:Int}{n i:Nat}{u:Tr}(h:(upTo lo n)[i]?=some u):i<n/\u=.int (lo+i):=by
 induction n generalizing lo i with
 |zero=>simp[upTo]at h
 |succ n ih =>
  rw[upTo]at h
  cases i with
  |zero =>
   simp at h
   subst h
   exact⟨Nat.zero_lt_succ _,by simp⟩
  |succ i =>
   obtain⟨h1,h2⟩:=ih (lo:=lo+1) (i:=i) (by simpa using h)
   refine⟨Nat.succ_lt_succ h1,h2.trans ?_⟩
   congr 1
   omega
theorem Vx{K:FZ}{W:Addr->Prop}{H:Hp}(lo:Int)(n:Nat):sO K W H (wN lo n) (upTo lo n):=λW' H' m hw i=>by
 refine⟨λz=>?_,λu hu=>?_⟩
 ·rw[qH]at z
  exact Nat.le_of_eq z.symm
 ·obtain⟨h1,rfl⟩:=Vw hu
  refine⟨h1,λx gJ yl=>?_⟩
  obtain⟨rfl,rfl⟩:=yl
  exact⟨Same.refl _,.int _⟩
def okR(i:Int):Bool:=decide (-1000000<=i)&&decide (i<=1000000)
def jE(fa:AF):IF:=λρ=>(fa ρ).bind λp=>(drs p.2 p.1).bind λas=>match as with
 | [.int j]=>if okR j=true then .ok (upTo 0 j.toNat,p.2)else .bad
 |_=>.bad
theorem Ky{ta:TA}{fa:AF}(ha:SA t ta fa):SI t (Ao ta) (jE fa):=λW ρ σ H R e h=>by
 refine ha W ρ σ H _ e (Rs.aM (Rs.aH h) λp h vs H1 e1 s1 v1=>?_)
 obtain⟨as,k1,h⟩:=cj (Rs.aH h) (rY _ _)
 have r:=xY e1 e.wn v1 k1
 split at h
 ·rename_i j
  split at h
  ·rename_i c
   unfold okR at c
   rw[Bool.and_eq_true]at c
   have c1:=of_decide_eq_true c.1
   have c2:=of_decide_eq_true c.2
   cases r with
   |cons h1 r1 =>
    cases r1
    rw[h1.int]
    exact⟨j,rfl,by omega,by omega,h _ H1 e1 s1 (Vx 0 _)⟩
  ·exact h.elim
 ·exact h.elim
def Vy(fa:AF):IF:=λρ=>(fa ρ).bind λp=>(drs p.2 p.1).bind λas=>match as with
 | [.int i,.int j]=>if okR i=true/\okR j=true then .ok (upTo i (j-i).toNat,p.2)else .bad
 |_=>.bad
def con(ρ : En)(i:Nat):Rs (List Tr):=match ρ[i]? with
 |some (.ow ts)=>.ok ts
 |some (.rf ts)=>.ok ts
 |_=>.bad
theorem CJ(ρ : En)(i:Nat)(c:Str):con ρ i ≠ .ex c:=by
 unfold con
 split <;> (intro z; cases z)
def bK(i:Nat)(us:List Tr)(ρ : En):En:=match ρ[i]? with
 |some (.ow _)=>ρ.set i (.ow us)
 |some (.rf _)=>ρ.set i (.rf us)
 |_=>ρ
theorem aF.con{W:Addr->Prop}{ρ : En}{σ : St}{H:Hp}{i:Nat}{ts:List Tr}(e:aF t W ρ σ H)(q:con ρ i=.ok ts):Mu ρ i/\∃a xs,σ[i]?=some (some (.ref a))/\W a/\H a=some (.lst xs)/\aC t.K (aA W H) xs ts/\(∀o,t.H0 a=some o->t.R a):=by
 unfold L2.con at q
 split at q
 ·rename_i us h
  cases q
  obtain⟨a,xs,h1,h2,h3,h4,h5⟩:=e.ow i ts h
  exact⟨⟨ts,.inl h⟩,a,xs,h1,h2,h4,h5,λo z=>by rw[h3]at z; cases z⟩
 ·rename_i us h
  cases q
  obtain⟨a,xs,h1,h2,h3,h4,h5⟩:=e.rf i ts h
  exact⟨⟨ts,.inr h⟩,a,xs,h1,h2,h4,h5,λo z=>h3⟩
 ·cases q
theorem mK{ρ : En}{i j:Nat}{us:List Tr}(h:Mu (bK i us ρ) j):Mu ρ j:=by
 unfold bK at h
 split at h
 ·rename_i ws q
  obtain⟨ts,h|h⟩:=h <;> rcases get_set h with⟨rfl,z,_⟩|⟨ne,h⟩
  ·exact⟨_,.inl q⟩
  ·exact⟨_,.inl h⟩
  ·exact⟨_,.inl q⟩
  ·exact⟨_,.inr h⟩
 ·rename_i ws q
  obtain⟨ts,h|h⟩:=h <;> rcases get_set h with⟨rfl,z,_⟩|⟨ne,h⟩
  ·exact⟨_,.inr q⟩
  ·exact⟨_,.inl h⟩
  ·exact⟨_,.inr q⟩
  ·exact⟨_,.inr h⟩
 ·exact h
theorem CK{ρ : En}{i:Nat}{us:List Tr}:(bK i us ρ).length = ρ.length:=by
 unfold bK
 split
 ·rw[List.length_set]
 ·rw[List.length_set]
 ·rfl
theorem mL{ρ : En}{i j:Nat}{us:List Tr}{s:Sl}(h:(bK i us ρ)[j]?=some s):(j≠i/\ρ[j]?=some s)\/(j=i/\((∃ts,ρ[i]?=some (.ow ts)/\s=.ow us)\/(∃ts,ρ[i]?=some (.rf ts)/\s=.rf us)\/(¬Mu ρ i/\ρ[i]?=some s))):=by
 unfold bK at h
 split at h
 ·rename_i ws q
  rcases get_set h with⟨rfl,z,_⟩|⟨ne,h⟩
  ·exact .inr ⟨rfl,.inl ⟨ws,q,z⟩⟩
  ·exact .inl ⟨ne,h⟩
 ·rename_i ws q
  rcases get_set h with⟨rfl,z,_⟩|⟨ne,h⟩
  ·exact .inr ⟨rfl,.inr (.inl ⟨ws,q,z⟩)⟩
  ·exact .inl ⟨ne,h⟩
 ·rename_i n1 n2
  by_cases e:j=i
  ·subst e
   refine .inr ⟨rfl,.inr (.inr ⟨?_,h⟩)⟩
   rintro⟨ts,z|z⟩
   ·exact n1 ts z
   ·exact n2 ts z
  ·exact .inl ⟨e,h⟩
theorem pF{ρ : En}{i j:Nat}{us ws:List Tr}(h:(bK i us ρ)[j]?=some (.dp ws)) : ρ[j]?=some (.dp ws):=by
 rcases mL h with⟨_,h⟩|⟨rfl,⟨_,_,z⟩|⟨_,_,z⟩|⟨_,h⟩⟩
 ·exact h
 ·cases z
 ·cases z
 ·exact h
theorem DR.lst{K:FZ}{G H:Hp}:∀{xs:List V} {ts:List Tr} {bs:List Addr},DR K G H xs ts bs->∀b∈bs,∃ys,H b=some (.lst ys)
 |_,_,_,.nil,_,h=>by cases h
 |_,_,_,.cl _ _ r,b,h=>DR.lst r b h
 |_,_,_,.rw q _ r,b,h=>by
  rcases List.mem_cons.mp h with rfl|h
  ·exact⟨_,q⟩
  ·exact DR.lst r b h
theorem oY.lst{t:Tx}{W:Addr->Prop}{H:Hp}{a:Addr}{xs:List V}{ts:List Tr}{fp:List Addr}(d:oY t W H a xs ts fp):∀b∈fp,∃ys,H b=some (.lst ys):=λb hb=>by
 obtain⟨bs,e,_,_,ha,r⟩:=d
 rw[e]at hb
 rcases List.mem_cons.mp hb with rfl|hb
 ·exact⟨_,ha⟩
 ·exact r.lst b hb
theorem oY.nt{t:Tx}{K:FZ}{W:Addr->Prop}{H:Hp}{a:Addr}{xs:List V}{ts:List Tr}{fp:List Addr}(d:oY t W H a xs ts fp)(tb:dw K H){b:Addr}(z:Tb K b)(hb:b∈fp):False:=by
 obtain⟨ys,e⟩:=d.lst b hb
 exact tb.ne z e rfl
theorem aF.yp{W:Addr->Prop}{ρ : En}{σ : St}{H:Hp}{i:Nat}{a:Addr}(e:aF t W ρ σ H)(m:Mu ρ i)(q : σ[i]?=some (some (.ref a))):∃xs,H a=some (.lst xs):=by
 obtain⟨ts,h|h⟩:=m
 ·obtain⟨b,xs,h1,_,_,h4,_⟩:=e.ow i ts h
  rw[q]at h1
  cases h1
  exact⟨xs,h4⟩
 ·obtain⟨b,xs,h1,_,_,h4,_⟩:=e.rf i ts h
  rw[q]at h1
  cases h1
  exact⟨xs,h4⟩
theorem EOF.move{W W':Addr->Prop}{ρ : En}{σ : St}{H H':Hp}{i:Nat}{a:Addr}{xs:List V}{us:List Tr}{F:Nat->List Addr}(e:EOF t W ρ σ H F)(mi:Mu ρ i)(hi : σ[i]?=some (some (.ref a)))(m:Same (aA W H) (aA W' H'))(sub:∀b,W b->W' b)(wl:∀b,W' b->Lt H' b)
  (tb:dw t.K H') (fr:∀b o,H b=some o->b≠a->¬Tb t.K b->H' b=some o) (dom:∀b,H' b=none->H b=none) (h0:∀o,t.H0 a=some o->t.R a) (ha:H' a=some (.lst xs)) (r:aC t.K (aA W' H') xs us):EOF t W' (bK i us ρ) σ H' F:=by
 have ne:∀j c,j≠i->Mu ρ j -> σ[j]?=some (some (.ref c))->c≠a:=λj c n mj q z=>by
  subst z
  exact n (e.dis j i c mj mi q hi)
 have nt:∀{c:Addr} {ys:List V},H c=some (.lst ys)->¬Tb t.K c:=λq z=>e.tab.ok.ne z q rfl
 refine⟨by rw[CK]; exact e.len,λb z=>sub b (e.zw b z),e.z0,wl,λb o h n=>?_,λb h=>e.n0 b (dom b h),λj u h=>?_,λj ts h=>?_,λj ts h=>?_,λj k c h1 h2=>e.dis j k c (mK h1) (mK h2),λb o h=>fr b o (e.pn b o h) (λz=>by subst z; rw[e.pd i b mi hi]at h; cases h) (λz=>by rw[e.tab.B b z]at h; cases h),λj c m q=>e.pd j c (mK m) q,λj ws h=>?_,λj k ws zs n h1 h2=>e.dd j k ws zs n (pF h1) (pF h2),λj k ws c h1 m q=>e.dm j k ws c (pF h1) (mK m) q,λj ws h=>e.db j ws (pF h),⟨tb,λb z=>sub b (e.tab.w b z),e.tab.r,e.tab.B⟩⟩
 ·refine fr b o (e.f0 b o h n) (λz=>?_) λz=>n (e.tab.r b z)
  subst z
  exact n (h0 o h)
 ·rcases mL h with⟨n,h⟩|⟨rfl,⟨ts,q,z⟩|⟨ts,q,z⟩|⟨nm,h⟩⟩
  ·obtain⟨w,h1,h2⟩:=e.sh j u h
   exact⟨w,h1,h2.mono m⟩
  ·cases z
  ·cases z
  ·exact(nm mi).elim
 ·rcases mL h with⟨n,h⟩|⟨rfl,⟨ts',q,z⟩|⟨ts',q,z⟩|⟨nm,h⟩⟩
  ·obtain⟨c,ys,h1,h2,h3,h4,h5⟩:=e.ow j ts h
   exact⟨c,ys,h1,sub c h2,h3,fr c _ h4 (ne j c n ⟨ts,.inl h⟩ h1) (nt h4),h5.mono m⟩
  ·cases z
   obtain⟨c,ys,h1,h2,h3,h4,h5⟩:=e.ow j ts' q
   rw[hi]at h1
   cases h1
   exact⟨a,xs,hi,sub a h2,h3,ha,r⟩
  ·cases z
  ·exact(nm mi).elim
 ·rcases mL h with⟨n,h⟩|⟨rfl,⟨ts',q,z⟩|⟨ts',q,z⟩|⟨nm,h⟩⟩
  ·obtain⟨c,ys,h1,h2,h3,h4,h5⟩:=e.rf j ts h
   exact⟨c,ys,h1,sub c h2,h3,fr c _ h4 (ne j c n ⟨ts,.inr h⟩ h1) (nt h4),h5.mono m⟩
  ·cases z
  ·cases z
   obtain⟨c,ys,h1,h2,h3,h4,h5⟩:=e.rf j ts' q
   rw[hi]at h1
   cases h1
   exact⟨a,xs,hi,sub a h2,h3,ha,r⟩
  ·exact(nm mi).elim
 ·obtain⟨c,ys,h1,d⟩:=e.dp j ws (pF h)
  exact⟨c,ys,h1,d.move rfl rfl m (λb hb=>sub b (by obtain⟨_,_,_,ww,_⟩:=d; exact(ww b hb).1)) λb o hb q=>fr b o q (λz=>by subst z; exact e.dm j i ws b (pF h) mi hi hb) λz=>d.nt e.tab.ok z hb⟩
theorem aF.move{W W':Addr->Prop}{ρ : En}{σ : St}{H H':Hp}{i:Nat}{a:Addr}{xs:List V}{us:List Tr}(e:aF t W ρ σ H)(mi:Mu ρ i)(hi : σ[i]?=some (some (.ref a)))(m:Same (aA W H) (aA W' H'))(sub:∀b,W b->W' b)(wl:∀b,W' b->Lt H' b)
  (tb:dw t.K H') (fr:∀b o,H b=some o->b≠a->¬Tb t.K b->H' b=some o) (dom:∀b,H' b=none->H b=none) (h0:∀o,t.H0 a=some o->t.R a) (ha:H' a=some (.lst xs)) (r:aC t.K (aA W' H') xs us):aF t W' (bK i us ρ) σ H':=by
 obtain⟨F,e⟩:=e
 exact⟨F,e.move mi hi m sub wl tb fr dom h0 ha r⟩
theorem aF.put{W:Addr->Prop}{ρ : En}{σ : St}{H:Hp}{i:Nat}{a:Addr}{xs:List V}{us:List Tr}(e:aF t W ρ σ H)(mi:Mu ρ i)(hi : σ[i]?=some (some (.ref a)))(h0:∀o,t.H0 a=some o->t.R a)(r:aC t.K (aA W H) xs us):aF t W (bK i us ρ) σ (upd H a (.lst xs))/\aY W H (upd H a (.lst xs)):=by
 have w:=e.addr mi hi
 obtain⟨zs,hz⟩:=e.yp mi hi
 refine⟨e.move mi hi (by rw[lM w]; exact Same.refl _) (λ_ h=>h) (λb z=>?_) (e.tab.ok.upd hz) (λb o h n _=>by rw[aN n]; exact h) (λb h=>?_) h0 dh (by rw[lM w]; exact r),⟨λb o n h=>?_,λb h=>?_⟩⟩
 ·by_cases q:b=a
  ·subst q; exact .inl ⟨xs,dh⟩
  ·unfold Lt; rw[aN q]; exact e.wl b z
 ·by_cases q:b=a
  ·subst q; rw[dh]at h; cases h
  ·rw[aN q]at h; exact h
 ·rw[aN (λz=>n (by rw[z]; exact w))]; exact h
 ·by_cases q:b=a
  ·subst q; rw[dh]at h; cases h
  ·rw[aN q]at h; exact h
abbrev GM:=List Tr->List Tr->Rs (List Tr × Tr)
def Vz(i:Nat)(m:GM)(fa:AF):EF:=λρ=>(con ρ i).bind λ_=>(fa ρ).bind λp=>(cls p.1).bind λas=>(con p.2 i).bind λts=>(m ts as).bind λz=>.ok (.v z.2 false,bK i z.1 p.2)
def VB(i:Nat)(m:GM):EF:=λρ=>(con ρ i).bind λts=>(m ts []).bind λz=>.ok (.v z.2 false,bK i z.1 ρ)
theorem aC.set{K:FZ}{H:Hp}{v:V}{T:Tr}(h:Rep K H v T):∀{xs:List V} {ts:List Tr} (j:Nat),aC K H xs ts->aC K H (xs.set j v) (ts.set j T)
 |_,_,_,.nil=>.nil
 |_,_,0,.cons _ r=>.cons h r
 |_,_,j+1,.cons h1 r=>.cons h1 (aC.set h j r)
noncomputable def vo(i:Nat)(fk fe:EF):SF:=λρ=>(fe ρ).bind λp=>(cls [p.1]).bind λTs=>(con p.2 i).bind λ_=>(fk p.2).bind λq=>(dr q.2 q.1).bind λkT=>(cX kT).bind λk=>(con q.2 i).bind λts=>match Ts,cR ts.length k with
 | [T],some j=>.ok (.nx,bK i (ts.set j T) q.2)
 |_,_=>.bad
theorem Kz{te ti:TE}{fk fe:EF}(i:Nat)(he:SE t te fe)(hk:SE t ti fk):SS t (lF te (Hw (oG i) ti Jo)) (vo i fk fe):=λW ρ σ H D e h=>by
 refine he W ρ σ H _ e (Rs.aM (Rs.aH h) λp h v H1 e1 s1 v1=>?_)
 obtain⟨Ts,k1,h⟩:=cj (Rs.aH h) (u0 _)
 obtain⟨us,k2,h⟩:=cj (Rs.aH h) (CJ _ _)
 obtain⟨_,a,xs,hi,_,hx,_⟩:=e1.con k2
 refine⟨_,hi,hk W p.2 σ H1 _ e1 (Rs.aM (Rs.aH h) λq h w H2 e2 s2 v2=>?_)⟩
 obtain⟨kT,k3,h⟩:=cj (Rs.aH h) (gU _ _)
 obtain⟨k,k4,h⟩:=cj (Rs.aH h) (Kd _)
 obtain⟨ts,k5,h⟩:=cj (Rs.aH h) (CJ _ _)
 obtain⟨mi,a',ys,hi',wa,hy,ry,h0⟩:=e2.con k5
 rw[hi]at hi'
 cases hi'
 have kk:∃T j,Ts=[T]/\cR ts.length k=some j/\lQ t W H D (.nx,bK i (ts.set j T) q.2):=by
  cases Ts with
  |nil=>exact h.elim
  |cons T r =>
   cases r with
   |cons _ _=>exact h.elim
   |nil =>
    cases kj:cR ts.length k with
    |none=>rw[kj]at h; exact h.elim
    |some j=>rw[kj]at h; exact⟨T,j,rfl,rfl,h⟩
 obtain⟨T,j,rfl,k6,h⟩:=kk
 ·have rv:Rep t.K (aA W H2) v T:=by
   have r1:=u5 (vs:=[v]) e.wn (.cons v1.1 .nil) k1
   cases r1 with
   |cons r1 _=>exact r1.mono s2.off
  obtain⟨e3,s3⟩:=e2.put mi hi h0 (ry.set rv j)
  refine⟨a,ys,k,j,rfl,Kf (gR e2 e1.wn v2.1 k3) k4,hy,by rw[ry.length]; exact k6,h W σ _ e3 ?_⟩
  exact((s1.trans s2).trans s3).nxt
def VD(i:Nat)(p:Int->Int->Int)(f:EF):SF:=λρ=>match ρ[i]? with
 |some (.sh (.int x))=>(f ρ).bind λq=>(dr q.2 q.1).bind λyT=>(cX yT).bind λy=>.ok (.nx,q.2.set i (.sh (.int (p x y))))
 |_=>.bad
def vp(i j:Nat)(fa:AF):SF:=λρ=>(fa ρ).bind λp=>(cls p.1).bind λTs=>match Ts with
 | [T,U]=>.ok (.nx,(p.2.set i (.sh T)).set j (.sh U))
 |_=>.bad
theorem VF{ta:TA}{fa:AF}(i j:Nat)(ha:SA t ta fa):SS t (HB i j ta) (vp i j fa):=λW ρ σ H D e h=>by
 refine ha W ρ σ H _ e (Rs.aM (Rs.aH h) λp h vs H1 e1 s1 v1=>?_)
 obtain⟨Ts,k1,h⟩:=cj (Rs.aH h) (u0 _)
 have r:=u5 e.wn v1 k1
 split at h
 ·cases r with
  |cons h1 r1 =>
   cases r1 with
   |cons h2 r2 =>
    cases r2
    exact⟨_,_,rfl,h W _ H1 ((e1.Cy h1).Cy h2) s1.nxt⟩
 ·exact h.elim
def nQ(c:Str)(f:EF):SF:=λρ=>(f ρ).bind λ_=>.ex c
def F0(t:Tx)(H':Hp):Prop:=(∀b o,t.H0 b=some o->¬t.R b->H' b=some o)/\dw t.K H'
theorem yq{E:XK}{C:Addr}{te:TE}{f:EF}{c:Str}(hx:∀H',F0 t H'->t.EX c->E (.ref C) none H')(he:SE t te f):SS t (JV E C te) (nQ c f):=λW ρ σ H D e h =>
 he W ρ σ H _ e (Rs.aM (Rs.aH h) λp h v H1 e1 s1 v1=>⟨rfl,hx H1 ⟨e1.f0,e1.tab.ok⟩ h⟩)
end
end L2
end
section
namespace L2
open PySem PySem.Spec PyProof.Rows
mutual
noncomputable def iw:Tr->Bool
 |.tup ts=>fG ts
 |.lst _=>false
 |_=>true
noncomputable def fG:List Tr->Bool
 | []=>true
 |t::r=>iw t&&fG r
end
def yr(G G':Hp):Prop:=(∀b xs,(G b=some (.tup xs)->G' b=some (.tup xs))/\∀o,G b=some (.cD o (.tup xs))->G' b=some (.cD o (.tup xs)))/\∀b C,G b=some (uP b C)->G' b=some (uP b C)
mutual
theorem Rep.flat{K:FZ}{G G':Hp}(m:yr G G'):∀{v:V} {T:Tr},Rep K G v T->iw T=true->Rep K G' v T
 |_,_,.non,_=>.non
 |_,_,.bl b,_=>.bl b
 |_,_,.int i,_=>.int i
 |_,_,.str x,_=>.str x
 |_,_,.tup h r,n=>by
  refine .tup ?_ (aC.flat m r (by unfold iw at n; exact n))
  rcases h with(h|⟨o,h⟩)|h
  ·exact .inl (.inl ((m.1 _ _).1 h))
  ·exact .inl (.inr ⟨o,(m.1 _ _).2 o h⟩)
  ·exact .inr h
 |_,_,.lst h r,n=>by unfold iw at n; cases n
 |_,_,.bR h k n,_=>.bR (m.2 _ _ h) k n
theorem aC.flat{K:FZ}{G G':Hp}(m:yr G G'):∀{v:List V} {T:List Tr},aC K G v T->fG T=true->aC K G' v T
 |_,_,.nil,_=>.nil
 |_,_,.cons h r,n=>by
  unfold fG at n
  rw[Bool.and_eq_true]at n
  exact .cons (Rep.flat m h n.1) (aC.flat m r n.2)
end
theorem CN{W W':Addr->Prop}{H:Hp}(wl:∀b,W' b->Lt H b):yr (aA W H) (aA W' H):=by
 have key:∀b o,aA W H b=some o->(∀ys,o ≠ .lst ys)->(∀ys,o ≠ .dM ys)->aA W' H b=some o:=λb o h n n'=>by
  obtain⟨_,h⟩:=fV h
  rw[cW]
  ·exact h
  ·intro w
   rcases wl b w with⟨ys,e⟩|⟨ys,e⟩ <;> (rw[h]at e; cases e)
   ·exact n ys rfl
   ·exact n' ys rfl
 exact⟨λb xs=>⟨λh=>key _ _ h (λys z=>by cases z) (λys z=>by cases z),λo h=>key _ _ h (λys z=>by cases z) (λys z=>by cases z)⟩,λb C h=>key _ _ h (λys z=>by cases z) (λys z=>by cases z)⟩
theorem VG{a:Addr}{W:Addr->Prop}{H:Hp}{xs:List V}(wl:∀b,W b->Lt H b)(ha:H a=some (.lst xs))(G:Hp)(hG:∀b o,G b=some o->H b=some o):yr G (off a (aA W H)):=by
 have key:∀b o,G b=some o->(∀ys,o ≠ .lst ys)->(∀ys,o ≠ .dM ys)->off a (aA W H) b=some o:=λb o h n n'=>by
  have h:=hG b o h
  rw[off_ne,cW]
  ·exact h
  ·intro w
   rcases wl b w with⟨ys,e⟩|⟨ys,e⟩ <;> (rw[h]at e; cases e)
   ·exact n ys rfl
   ·exact n' ys rfl
  ·rintro rfl
   rw[h]at ha
   cases ha
   exact n _ rfl
 exact⟨λb xs=>⟨λh=>key _ _ h (λys z=>by cases z) (λys z=>by cases z),λo h=>key _ _ h (λys z=>by cases z) (λys z=>by cases z)⟩,λb C h=>key _ _ h (λys z=>by cases z) (λys z=>by cases z)⟩
def pG(K:FZ)(Z:Addr->Prop)(H H':Hp)(v:V)(T:Tr):Bool->Prop
 |false=>Rep K (aA Z H') v T
 |true=>∃a xs ts,v=.ref a/\T=.lst ts/\H a=none/\H' a=some (.lst xs)/\aC K (off a (aA Z H')) xs ts
def iQ(K:FZ)(H H':Hp):Prop:=(∀b o,H b=some o->¬Tb K b->H' b=some o)/\dw K H'
theorem iQ.dom{K:FZ}{H H':Hp}(s:iQ K H H'):∀b,H' b=none->H b=none:=λb h=>by
 cases q:H b with
 |none=>rfl
 |some o =>
  by_cases z:Tb K b
  ·obtain⟨ps,e⟩:=s.2.dM z
   rw[h]at e
   cases e
  ·rw[s.1 b o q z]at h
   cases h
def yt(G G':Hp):Prop:=∀b o,(∀ps,o ≠ .dM ps)->G b=some o->G' b=some o
theorem Rd.j7{G G':Hp}(m:yt G G'){a:Addr}{u:HO}(n:∀ps,u ≠ .dM ps)(h:Rd G a u):Rd G' a u:=by
 rcases h with h|⟨o,h⟩
 ·exact .inl (m _ _ n h)
 ·exact .inr ⟨o,m _ _ (λ_ z=>by cases z) h⟩
mutual
theorem Rep.j7{K:FZ}{G G':Hp}(m:yt G G'):∀{v:V} {T:Tr},Rep K G v T->Rep K G' v T
 |_,_,.non=>.non
 |_,_,.bl b=>.bl b
 |_,_,.int i=>.int i
 |_,_,.str x=>.str x
 |_,_,.tup h r=>by
  refine .tup ?_ (aC.j7 m r)
  rcases h with h|h
  ·exact .inl (Rd.j7 m (λ_ z=>by cases z) h)
  ·exact .inr h
 |_,_,.lst h r=>by
  refine .lst ?_ (aC.j7 m r)
  rcases h with h|h
  ·exact .inl (Rd.j7 m (λ_ z=>by cases z) h)
  ·exact .inr h
 |_,_,.bR h k n=>.bR (m _ _ (λ_ z=>by cases z) h) k n
theorem aC.j7{K:FZ}{G G':Hp}(m:yt G G'):∀{v:List V} {T:List Tr},aC K G v T->aC K G' v T
 |_,_,.nil=>.nil
 |_,_,.cons h r=>.cons (Rep.j7 m h) (aC.j7 m r)
end
theorem yu{K:FZ}{Z:Addr->Prop}{H:Hp}(tb:dw K H):yt (aA Z H) (aA (λb=>Z b\/Tb K b) H):=λb o n h=>by
 obtain⟨nz,h⟩:=fV h
 rw[cW]
 ·exact h
 ·rintro(z|z)
  ·exact nz z
  ·obtain⟨ps,e⟩:=tb.dM z
   rw[h]at e
   cases e
   exact n _ rfl
theorem aF.KC{t:Tx}{W:Addr->Prop}{ρ : En}{σ : St}{H H':Hp}(e:aF t W ρ σ H)(s:iQ t.K H H'):aF t W ρ σ H'/\aY W H H':=by
 have st:aY W H H':=⟨λb o n q=>s.1 b o q λz=>n (e.tab.w b z),s.dom⟩
 refine⟨?_,st⟩
 have m:=st.off
 obtain⟨F,e⟩:=e
 have ls:∀{a:Addr} {xs:List V},H a=some (.lst xs)->H' a=some (.lst xs):=λq=>s.1 _ _ q λz=>e.tab.ok.ne z q rfl
 refine⟨F,e.len,e.zw,e.z0,λb w=>?_,λb o h n=>s.1 b o (e.f0 b o h n) λz=>n (e.tab.r b z),λb h=>e.n0 b (s.dom b h),λi u h=>?_,λi ts h=>?_,λi ts h=>?_,e.dis,λb o h=>s.1 b o (e.pn b o h) λz=>(by rw[e.tab.B b z]at h; cases h),e.pd,λi ts h=>?_,e.dd,e.dm,e.db,⟨s.2,e.tab.w,e.tab.r,e.tab.B⟩⟩
 ·rcases e.wl b w with⟨xs,q⟩|⟨ps,q⟩
  ·exact .inl ⟨xs,ls q⟩
  ·by_cases z:Tb t.K b
   ·exact .inr (s.2.dM z)
   ·exact .inr ⟨ps,s.1 b _ q z⟩
 ·obtain⟨v,h1,h2⟩:=e.sh i u h
  exact⟨v,h1,h2.mono m⟩
 ·obtain⟨a,xs,h1,h2,h3,h4,h5⟩:=e.ow i ts h
  exact⟨a,xs,h1,h2,h3,ls h4,h5.mono m⟩
 ·obtain⟨a,xs,h1,h2,h3,h4,h5⟩:=e.rf i ts h
  exact⟨a,xs,h1,h2,h3,ls h4,h5.mono m⟩
 ·obtain⟨a,xs,h1,d⟩:=e.dp i ts h
  exact⟨a,xs,h1,d.move rfl rfl m (λb hb=>by obtain⟨_,_,_,ww,_⟩:=d; exact(ww b hb).1) λb o hb q=>s.1 b o q λz=>d.nt e.tab.ok z hb⟩
theorem aF.VH{t:Tx}{W:Addr->Prop}{ρ : En}{σ : St}{H H':Hp}{a:Addr}{xs:List V}(e:aF t W ρ σ H)(s:iQ t.K H H')(n:H a=none)(q:H' a=some (.lst xs)):nG t W a ρ σ H':=by
 have na:∀b,W b->b≠a:=λb w z=>by subst z; exact e.wn b w n
 obtain⟨e',st⟩:=e.KC s
 have m:Same (aA W H') (aA (λb=>W b\/b=a) H')->True:=λ_=>trivial
 have mm:∀{v:V} {T:Tr},Rep t.K (aA W H) v T->Rep t.K (aA (λb=>W b\/b=a) H') v T:=λr=>r.mono λb o h=>by
  obtain⟨w,h⟩:=fV h
  rw[cW]
  ·exact st.keep b o w h
  ·rintro(z|rfl)
   ·exact w z
   ·rw[n]at h; cases h
 have CP:Same (aA W H) (aA (λb=>W b\/b=a) H'):=λb o h=>by
  obtain⟨w,h⟩:=fV h
  rw[cW]
  ·exact st.keep b o w h
  ·rintro(z|rfl)
   ·exact w z
   ·rw[n]at h; cases h
 obtain⟨F,e⟩:=e
 have ls:∀{a:Addr} {xs:List V},H a=some (.lst xs)->H' a=some (.lst xs):=λq=>s.1 _ _ q λz=>e.tab.ok.ne z q rfl
 refine⟨F,⟨e.len,λb z=>.inl (e.zw b z),e.z0,λb w=>?_,e'.f0,e'.n0,λi u h=>?_,λi ts h=>?_,λi ts h=>?_,e.dis,e'.pn,e.pd,λi ts h=>?_,e.dd,e.dm,e.db,e'.tab.J4 λb w=>.inl w⟩,λi ts h z=>?_⟩
 ·rcases w with w|rfl
  ·exact e'.wl b w
  ·exact .inl ⟨xs,q⟩
 ·obtain⟨v,h1,h2⟩:=e.sh i u h
  exact⟨v,h1,mm h2⟩
 ·obtain⟨c,ys,h1,h2,h3,h4,h5⟩:=e.ow i ts h
  exact⟨c,ys,h1,.inl h2,h3,ls h4,h5.mono CP⟩
 ·obtain⟨c,ys,h1,h2,h3,h4,h5⟩:=e.rf i ts h
  exact⟨c,ys,h1,.inl h2,h3,ls h4,h5.mono CP⟩
 ·obtain⟨c,ys,h1,d⟩:=e.dp i ts h
  exact⟨c,ys,h1,d.move rfl rfl CP (λb hb=>by obtain⟨_,_,_,ww,_⟩:=d; exact .inl (ww b hb).1) λb o hb q=>s.1 b o q λz=>d.nt e.tab.ok z hb⟩
 ·obtain⟨c,ys,h1,bs,_,_,ww,_⟩:=e.dp i ts h
  exact na a (ww a z).1 rfl
abbrev FP:=List Tr->Rs (Tr × Bool)
noncomputable def bC(K:FZ)(cl:Str->Addr)(n:Nat)(F:FP):Sp:=λvs H Q E=>∃Z ts,vs.length=n/\aC (au K) (aA Z H) vs ts/\(∀b,Z b->Lt H b)/\dw (au K) H /\
 (F ts).post (λc=>∀H',iQ (au K) H H'->E (.ref (cl c)) none H') (λp=>∀v H',iQ (au K) H H'->pG (au K) Z H H' v p.1 p.2->Q v H')
def aO(nl:Nat)(ts:List Tr):En:=ts.map Sl.sh++List.replicate (nl-ts.length) Sl.un
def aU(nl:Nat)(b:SF):FP:=λts=>(b (aO nl ts)).bind λq=>match q.1 with
 |.rt T fr=>.ok (T,fr)
 |.nx=>.ok (.non,false)
 |_=>.bad
theorem iR{nl:Nat}{ts:List Tr}{i:Nat}{s:Sl}(h:(aO nl ts)[i]?=some s):(∃u,ts[i]?=some u/\s=.sh u)\/s=.un:=by
 unfold aO at h
 by_cases l:i<ts.length
 ·rw[List.getElem?_append_left (by simpa using l),List.getElem?_map]at h
  rw[List.getElem?_eq_getElem l]at h ⊢
  cases h
  exact .inl ⟨_,rfl,rfl⟩
 ·rw[List.getElem?_append_right (by simpa using Nat.le_of_not_lt l)]at h
  rw[List.getElem?_replicate]at h
  split at h
  ·cases h; exact .inr rfl
  ·cases h
theorem yw{N:List Str}{vs:List V}{i:Nat}{v:V}(h:vs[i]?=some v):(start N vs)[i]?=some (some v):=by
 unfold start
 have l:i<vs.length:=(List.getElem?_eq_some_iff.mp h).1
 rw[List.getElem?_append_left (by simpa using l),List.getElem?_map,h]
 rfl
section
variable {P:Program}{w:World}{K:FZ}{mg:Str->Option Value}{base:Heap}
theorem At.eO{k:Nat}{x:Str}{st:Stmt}{N ps:List Str}{cl:Str->Addr}{b:SF}(a:At K mg x st)(S:oM N ps (bw st))(hn:ps.length<=N.length)
  (hb:∀(kV doc pm:Value) (an:Option Addr) (cdv ct:Value) (us:List Value),us.length=ps.length->bindArgs (PySem.W.fnOf x x (nq st) (jB st) (bw st) .none kV doc pm an cdv ct) ⟨us,[]⟩=pure (ps.zip us))
  (hbody:∀(f:Addr) (cdv:Value) (A:Around) (outer:List Env) (s:Shared) (H:Hp) (E:XK),fC k (A.deeper (envOfC x (bw st) s.heap.objs.size f cdv)) ->
   ∃ts,iD (jA (iJ P w) P w K mg base N x (bw st) f cdv A outer s H E) (jB st) ts/\∀t:Tx,t.K=au K->(∀c H',F0 t H'->t.EX c->E (.ref (cl c)) none H')->SS t ts b) :
  aP P w K mg base (k+1) x ps (bC K cl ps.length (aU N.length b)):=by
 refine a.BW S hb (λvs H Q E h=>?_) (λf cdv A outer s H vs Q E hr h=>?_)
 ·obtain⟨_,_,h,_⟩:=h; exact h
 obtain⟨Z,as,hl,r,zl,tb,h⟩:=h
 obtain⟨ts,h1,h2⟩:=hbody f cdv A outer s H E hr
 refine⟨ts,h1,?_⟩
 have sm:∀(b:Addr) (W:Addr->Prop) ρ σ H',aF ⟨au K,Z,Tb (au K),H,λ_=>none,λc=>∀H',iQ (au K) H H'->E (.ref (cl c)) none H'⟩ W ρ σ H'->iQ (au K) H H':=λ_ W ρ σ H' e=>⟨λb o q n=>e.f0 b o q n,e.tab.ok⟩
 have r:=r.j7 (yu tb)
 refine h2 ⟨au K,Z,Tb (au K),H,λ_=>none,λc=>∀H',iQ (au K) H H'->E (.ref (cl c)) none H'⟩ rfl (λc H' f0 q=>q H' ⟨λb o z n=>f0.1 b o z n,f0.2⟩) (λb=>Z b\/Tb (au K) b) (aO N.length as) (start N vs) H _ ?_ (Rs.aM (Rs.aH h) λq h=>?_)
 ·have la:=r.length
  have gO:∀(i:Nat) (us:List Tr),(aO N.length as)[i]?=some (.dp us)->False:=λi us q=>by
   rcases iR q with⟨u',q1,z⟩|z <;> cases z
  refine⟨λ_=>[],?_,λ_ z=>.inl z,λb z=>?_,λb z=>z.elim (zl b) (λz=>.inr (tb.dM z)),λb o q _=>q,λb q=>q,λi u q=>?_,λi us q=>?_,λi us q=>?_,λi j c m1 m2=>?_,λb o z=>(by cases z),λ_ _ _ _=>rfl,λi us q=>(gO i us q).elim,λi _ us _ _ q=>(gO i us q).elim,λi _ us _ q=>(gO i us q).elim,λi us q=>(gO i us q).elim,⟨tb,λ_ z=>.inr z,λ_ z=>z,λ_ _=>rfl⟩⟩
  ·unfold aO start
   simp only[List.length_append,List.length_map,List.length_replicate]
   omega
  ·exact(zl b z).ne
  ·rcases iR q with⟨u',q1,z⟩|z
   ·cases z
    obtain⟨v,e1,e2⟩:=r.o9 q1
    exact⟨v,yw e1,e2⟩
   ·cases z
  ·rcases iR q with⟨u',q1,z⟩|z <;> cases z
  ·rcases iR q with⟨u',q1,z⟩|z <;> cases z
  ·obtain⟨us,q|q⟩:=m1 <;> rcases iR q with⟨u',q1,z⟩|z <;> cases z
 ·obtain⟨fl,ρ'⟩:=q
  cases fl with
  |nx=>exact λW' σ' H' e n=>h .non H' (sm 0 W' ρ' σ' H' e) .non
  |rt T fr =>
   refine λv W' σ' H' e n=>h v H' (sm 0 W' ρ' σ' H' e) ?_
   cases fr <;> exact n
  |bk=>exact h.elim
  |ct=>exact h.elim
end
section
variable {X:Cx}{k:Nat}{x:Str}{ps:List Str}{sp:Sp}{p pos:Pos}{e:Expr}{es:List Expr}{ta:TA}{E:XK}
theorem VJ(D:aP X.prog X.w X.K X.mg X.base k x ps sp)(hr:fC k X.A)(hx:Passes (iJ X.prog X.w) X E)(ha:PA X (e::es) ta)(hg:Gl X x:=by rfl)(hdb:(x == ("__debug__" : Str))=false:=by decide)
  (he:starEach (e::es) X.env=(false,eval e X.env)::starEach es X.env:=by rfl) (hpl:(backTo pos (starEach es X.env)).any (·.1)=false:=by rfl):PE X (.Call (.Name x p) (e::es) [] pos) (jO sp [] E ta):=by
 obtain⟨f,fd,h1,h2,h3,h4⟩:=D
 exact Q8 h1 hr hg h4 h3 h2 .nil hx ha hdb he hpl
end
section
variable {t:Tx}{K:FZ}
def aQ:Rv->Bool
 |.s _=>true
 |_=>false
def jm(z:Tr × Bool):Bool:=iw z.1 || (z.2&&(match z.1 with
 |.lst us=>fG us
 |_=>false))
theorem pG.CQ{W W0:Addr->Prop}{ρ : En}{σ : St}{H H':Hp}{v:V}{z:Tr × Bool}{Z:Addr->Prop}(wn:∀b,W b->H b≠none)(wl:∀b,W b->Lt H' b)(zs:(∀b,W b->Z b)\/jm z=true)(h:pG t.K Z H H' v z.1 z.2)
  (ex:z.2=true->∀a xs,H a=none->H' a=some (.lst xs)->nG t W a ρ σ H'):fU t W ρ σ H H' v (.v z.1 z.2):=by
 obtain⟨T,fr⟩:=z
 cases fr with
 |false =>
  refine .low ?_
  rcases zs with zs|zs
  ·exact Rep.mono (lK (λb _ _ z=>zs b z) λ_ _ _ h=>h) h
  ·unfold jm at zs
   simp only[Bool.false_and,Bool.or_false]at zs
   exact Rep.flat (CN wl) h zs
 |true =>
  obtain⟨a,xs,ts,rfl,e1,n,q,r⟩:=h
  have e1:T=.lst ts:=e1
  subst e1
  refine⟨⟨a,xs,ts,rfl,rfl,n,q,?_⟩,λU b z eb=>?_⟩
  ·rcases zs with zs|zs
   ·refine r.mono λb o q=>?_
    obtain⟨ne,q⟩:=oW q
    rw[off_ne ne]
    exact lK (λb _ _ z=>zs b z) (λ_ _ _ h=>h) b o q
   ·unfold jm at zs
    have zs:fG ts=true:=by
     rw[Bool.or_eq_true]at zs
     rcases zs with zs|zs
     ·unfold iw at zs; cases zs
     ·exact zs
    exact r.flat (VG wl q _ λb o h=>ig _ _ b o (BZ _ _ b o h)) zs
  ·cases eb
   exact ex rfl a xs n q
theorem fW.length{W:Addr->Prop}{σ : St}{H H':Hp}:∀{vs:List V} {rs:List Rv},fW K W σ H H' vs rs->vs.length=rs.length
 |_,_,.nil=>rfl
 |_,_,.cons _ r=>by rw[List.length_cons,List.length_cons,fW.length r]
theorem post_eq{α : Type}{r:Rs α}{a : α}{EX:Str->Prop}{P : α -> Prop}(h:r=.ok a)(q:P a):r.post EX P:=by
 rw[h]
 exact q
def aV(F:FP)(fa:AF):EF:=λρ=>(fa ρ).bind λp=>(drs p.2 p.1).bind λas=>(F as).bind λz=>if p.1.any aQ=true/\jm z=false then .bad else .ok (.v z.1 z.2,p.2)
theorem CT{W:Addr->Prop}{σ : St}{ρ : En}{H H':Hp}(wn:∀b,W b->H b≠none):∀{vs:List V} {rs:List Rv} {as:List Tr},fW t.K W σ H H' vs rs->drs ρ rs=.ok as->rs.any aQ=false->aC t.K (aA W H') vs as
 |_,_,_,.nil,q,_=>by cases q; exact .nil
 |_,.v T fr::_,_,.cons h r,q,n=>by
  unfold drs at q
  obtain⟨a,q1,q⟩:=jj q
  obtain⟨as,q2,q⟩:=jj q
  cases q
  cases q1
  exact .cons (h.rep wn) (CT wn r q2 (by simpa[List.any_cons,aQ]using n))
 |_,.s i::_,_,.cons h r,q,n=>by simp[aQ]at n
theorem pA.reps{W:Addr->Prop}{H:Hp}:∀{vs:List V} {as:List Tr},pA K W H vs as->aC K (aA (λ_=>False) H) vs as
 |_,_,.nil=>.nil
 |_,_,.cons h r=>.cons (h.rep.mono λb o q=>by rw[cW id]; exact q) (pA.reps r)
theorem KD(hK:t.K=au K){cl:Str->Addr}{n:Nat}{F:FP}{E:XK}{ta:TA}{fa:AF}(hx:∀c H',F0 t H'->t.EX c->E (.ref (cl c)) none H')(hn:∀ρ p,fa ρ=.ok p->p.1.length=n)(ha:SA t ta fa):SE t (jO (bC K cl n F) [] E ta) (aV F fa):=λW ρ σ H Q e h=>by
 have h:=Rs.aH h
 cases ek:fa ρ with
 |bad=>rw[ek]at h; exact h.elim
 |ex c=>exact ha W ρ σ H _ e (by rw[ek]at h ⊢; exact h)
 |ok p =>
 have hl:=hn ρ p ek
 rw[ek]at h
 refine ha W ρ σ H _ e (post_eq ek ?_)
 intro vs H1 e1 s1 v1
 have h:((drs p.2 p.1).bind _).post _ _:=h
 obtain⟨as,k1,h⟩:=cj (Rs.aH h) (rY _ _)
 have r:=xY e1 e.wn v1 k1
 have lv:vs.length=n:=v1.length.trans hl
 have fin:∀Z:Addr->Prop,(∀b,Z b->W b)->(∀z,F as=.ok z->¬(p.1.any aQ=true/\jm z=false)->(∀b,W b->Z b)\/jm z=true)->aC (au K) (aA Z H1) vs as->bC K cl n F (vs++[]) H1 Q E:=λZ zw zs rr=>by
  rw[List.append_nil]
  refine⟨Z,as,lv,rr,λb z=>e1.wl b (zw b z),by rw[<-hK]; exact e1.tab.ok,?_⟩
  have h:=Rs.aH h
  cases ef:F as with
  |bad=>rw[ef]at h; exact h.elim
  |ex c =>
   rw[ef]at h
   exact λH' sm=>hx c H' ⟨λb o q nr=>sm.1 b o (e1.f0 b o q nr) λz=>nr (e1.tab.r b (by rw[hK]; exact z)),by rw[hK]; exact sm.2⟩ h
  |ok z =>
   rw[ef]at h
   have h:(if p.1.any aQ=true/\jm z=false then Rs.bad else .ok (.v z.1 z.2,p.2):Rs (Rv × En)).post _ _:=h
   split at h
   ·exact h.elim
   ·rename_i c
    intro v H' sm vr
    rw[<-hK]at vr sm
    obtain⟨eg,sg⟩:=e1.KC sm
    refine h v H' eg (s1.trans sg) (fU.back (H:=H1) ?_ s1.dom)
    exact pG.CQ (W0:=W) e1.wn eg.wl (zs z ef c) vr λ_ a xs na qa=>e1.VH sm na qa
 by_cases an:p.1.any aQ=true
 ·refine fin (λ_=>False) (λ_ z=>z.elim) (λz ez c=>.inr ?_) ?_
  ·cases fz:jm z with
   |true=>rfl
   |false=>exact(c ⟨an,fz⟩).elim
  ·rw[<-hK]
   exact r.reps
 ·refine fin W (λ_ z=>z) (λz ez c=>.inl λ_ z=>z) ?_
  rw[<-hK]
  exact CT e.wn v1 k1 (by simpa using an)
end
end L2
end
section
namespace L2
open PySem PySem.Spec PyProof.Rows
abbrev FR:=List Tr->Rs ((Tr × Bool) × List Tr)
noncomputable def jF(K:FZ)(n r:Nat)(F:FR):Sp:=λvs H Q E=>∃(Z:Addr->Prop) (ts:List Tr) (a:Addr) (xs:List V) (us:List Tr),vs.length=n/\ts.length=n/\vs[r]?=some (.ref a)/\ts[r]?=some (.lst us)/\Z a/\H a=some (.lst xs)/\aC (au K) (aA Z H) xs us /\
 (∀j v u,j≠r->vs[j]?=some v->ts[j]?=some u->Rep (au K) (aA Z H) v u)/\(∀b,Z b->Lt H b)/\dw (au K) H /\
 (F ts).post (λ_=>False) (λp=>∀v H' ys,(∀b o,H b=some o->b≠a->¬Tb (au K) b->H' b=some o)->dw (au K) H'->(∀b,H' b=none->H b=none)->H' a=some (.lst ys)->aC (au K) (aA Z H') ys p.2->pG (au K) Z H H' v p.1.1 p.1.2->Q v H')
def bM{α : Type}:Rs α -> Rs α
 |.bad=>.bad
 |.ex _=>.bad
 |.ok a=>.ok a
theorem yx{α : Type}{r:Rs α}{EX:Str->Prop}{P : α -> Prop}(h:(bM r).post EX P):r.post (λ_=>False) P:=by
 cases r <;> exact h
theorem VL{α : Type}(r:Rs α)(c:Str):bM r ≠ .ex c:=by
 cases r <;> (intro z; cases z)
theorem KH{α β : Type}{r:Rs α}{f : α -> Rs β}(h1:∀c,r ≠ .ex c)(h2:∀a c,f a ≠ .ex c)(c:Str):r.bind f ≠ .ex c:=by
 cases r with
 |bad=>intro z; cases z
 |ex d=>exact(h1 d rfl).elim
 |ok a=>exact h2 a c
noncomputable def jo(nl r:Nat)(b:SF):FR:=λts=>match ts[r]? with
 | some (.lst us)=>(bM (b ((aO nl ts).set r (.rf us)))).bind λq=>(match q.2[r]? with
  | some (.rf ws)=>(match q.1 with
   |.rt T fr=>.ok ((T,fr),ws)
   |.nx=>.ok ((.non,false),ws)
   |_=>.bad)
  |_=>.bad)
 |_=>.bad
theorem KJ(nl r:Nat)(b:SF)(as:List Tr)(c:Str):jo nl r b as ≠ .ex c:=by
 unfold jo
 split
 ·refine KH (VL _) (λq c=>?_) c
  split
  ·split <;> (intro z; cases z)
  ·intro z; cases z
 ·intro z; cases z
section
variable {P:Program}{w:World}{K:FZ}{mg:Str->Option Value}{base:Heap}
theorem At.CV{k:Nat}{x:Str}{st:Stmt}{N ps:List Str}{cl:Str->Addr}{b:SF}(r:Nat)(a:At K mg x st)(S:oM N ps (bw st))(hn:ps.length<=N.length)
  (hb:∀(kV doc pm:Value) (an:Option Addr) (cdv ct:Value) (us:List Value),us.length=ps.length->bindArgs (PySem.W.fnOf x x (nq st) (jB st) (bw st) .none kV doc pm an cdv ct) ⟨us,[]⟩=pure (ps.zip us))
  (hbody:∀(f:Addr) (cdv:Value) (A:Around) (outer:List Env) (s:Shared) (H:Hp) (E:XK),fC k (A.deeper (envOfC x (bw st) s.heap.objs.size f cdv)) ->
   ∃ts,iD (jA (iJ P w) P w K mg base N x (bw st) f cdv A outer s H E) (jB st) ts/\∀t:Tx,t.K=au K->(∀c H',F0 t H'->t.EX c->E (.ref (cl c)) none H')->SS t ts b) :
  aP P w K mg base (k+1) x ps (jF K ps.length r (jo N.length r b)):=by
 refine a.BW S hb (λvs H Q E h=>?_) (λf cdv A outer s H vs Q E hr h=>?_)
 ·obtain⟨_,_,_,_,_,h,_⟩:=h; exact h
 obtain⟨Z,as,ad,xs,us,hl,hl2,hv,ht,hz,hx,rx,ra,zl,tb,h⟩:=h
 have rx:=rx.j7 (yu tb)
 have ra:∀j v u,j≠r->vs[j]?=some v->as[j]?=some u->Rep (au K) (aA (λb=>Z b\/Tb (au K) b) H) v u:=λj v u n q1 q2=>(ra j v u n q1 q2).j7 (yu tb)
 obtain⟨ts,h1,h2⟩:=hbody f cdv A outer s H E hr
 refine⟨ts,h1,?_⟩
 unfold jo at h
 rw[ht]at h
 have h:((bM (b ((aO N.length as).set r (.rf us)))).bind _).post _ _:=h
 refine h2 ⟨au K,Z,λb=>b=ad\/Tb (au K) b,H,λ_=>none,λ_=>False⟩ rfl (λc H' f0 q=>q.elim) (λb=>Z b\/Tb (au K) b) ((aO N.length as).set r (.rf us)) (start N vs) H _ ?_ (Rs.aM (yx (Rs.aH h)) λq h=>?_)
 ·have lr:r<as.length:=(List.getElem?_eq_some_iff.mp ht).1
  have mu:∀j,Mu ((aO N.length as).set r (.rf us)) j->j=r:=λj m=>by
   obtain⟨ws,q|q⟩:=m <;> rcases get_set q with⟨rfl,_,_⟩|⟨ne,q⟩
   ·rfl
   ·rcases iR q with⟨u',q1,z⟩|z <;> cases z
   ·rfl
   ·rcases iR q with⟨u',q1,z⟩|z <;> cases z
  have gO:∀(i:Nat) (ws:List Tr),((aO N.length as).set r (.rf us))[i]?=some (.dp ws)->False:=λi ws q=>by
   rcases get_set q with⟨rfl,z,_⟩|⟨ne,q⟩
   ·cases z
   ·rcases iR q with⟨u',q1,z⟩|z <;> cases z
  refine⟨λ_=>[],?_,λ_ z=>.inl z,λb z=>?_,λb z=>z.elim (zl b) (λz=>.inr (tb.dM z)),λb o q _=>q,λb q=>q,λi u q=>?_,λi ws q=>?_,λi ws q=>?_,λi j c m1 m2 _ _=>(mu i m1).trans (mu j m2).symm,λb o z=>(by cases z),λ_ _ _ _=>rfl,λi us q=>(gO i us q).elim,λi _ us _ _ q=>(gO i us q).elim,λi _ us _ q=>(gO i us q).elim,λi us q=>(gO i us q).elim,⟨tb,λ_ z=>.inr z,λ_ z=>.inr z,λ_ _=>rfl⟩⟩
  ·unfold aO start
   simp only[List.length_append,List.length_map,List.length_replicate,List.length_set]
   omega
  ·exact(zl b z).ne
  ·rcases get_set q with⟨rfl,z,_⟩|⟨ne,q⟩
   ·cases z
   ·rcases iR q with⟨u',q1,z⟩|z
    ·cases z
     have lj:i<vs.length:=by
      rw[hl,<-hl2]
      exact(List.getElem?_eq_some_iff.mp q1).1
     exact⟨vs[i],yw (List.getElem?_eq_getElem lj),ra i _ _ ne (List.getElem?_eq_getElem lj) q1⟩
    ·cases z
  ·rcases get_set q with⟨rfl,z,_⟩|⟨ne,q⟩
   ·cases z
   ·rcases iR q with⟨u',q1,z⟩|z <;> cases z
  ·rcases get_set q with⟨rfl,z,_⟩|⟨ne,q⟩
   ·cases z
    exact⟨ad,xs,yw hv,.inl hz,.inl rfl,hx,rx⟩
   ·rcases iR q with⟨u',q1,z⟩|z <;> cases z
 ·obtain⟨fl,ρ'⟩:=q
  dsimp only at h
  split at h
  ·rename_i ws q
   ·have key:∀W' σ' H',aF ⟨au K,Z,λb=>b=ad\/Tb (au K) b,H,λ_=>none,λ_=>False⟩ W' ρ' σ' H'->(∀b o,H b=some o->b≠ad->¬Tb (au K) b->H' b=some o)/\dw (au K) H'/\(∀b,H' b=none->H b=none)/\∃ys,H' ad=some (.lst ys)/\aC (au K) (aA Z H') ys ws:=λW' σ' H' e=>by
     obtain⟨c,ys,q1,q2,q3,q4,q5⟩:=e.rf r ws q
     have q3:c=ad:=q3.elim id λz=>(e.tab.ok.ne z q4 rfl).elim
     subst q3
     exact⟨λb o z n n'=>e.f0 b o z λy=>y.elim n n',e.tab.ok,e.n0,ys,q4,q5.mono (yj e)⟩
    cases fl with
    |nx =>
     intro W' σ' H' e n
     obtain⟨k1,CW,k2,ys,k3,k4⟩:=key W' σ' H' e
     exact h .non H' ys k1 CW k2 k3 k4 .non
    |rt T fr =>
     intro v W' σ' H' e n
     obtain⟨k1,CW,k2,ys,k3,k4⟩:=key W' σ' H' e
     refine h v H' ys k1 CW k2 k3 k4 ?_
     cases fr <;> exact n
    |bk=>exact h.elim
    |ct=>exact h.elim
  ·exact h.elim
end
section
variable {t:Tx}{K:FZ}
theorem fW.get{W:Addr->Prop}{σ : St}{H H':Hp}:∀{vs:List V} {rs:List Rv} {j:Nat} {v:V} {r:Rv},fW K W σ H H' vs rs->vs[j]?=some v->rs[j]?=some r->cY K W σ H H' v r
 |_,_,_,_,_,.nil,e,_=>by simp at e
 |_,_,0,_,_,.cons h _,e,q=>by simp at e q; subst e q; exact h
 |_,_,j+1,_,_,.cons _ t,e,q=>fW.get (j:=j) t (by simpa using e) (by simpa using q)
theorem CZ{ρ : En}:∀{rs:List Rv} {as:List Tr} {j:Nat} {u:Tr},drs ρ rs=.ok as->as[j]?=some u->∃r,rs[j]?=some r/\dr ρ r=.ok u
 | [],_,_,_,h,e=>by cases h; simp at e
 |r::rs,as,j,u,h,e=>by
  unfold drs at h
  obtain⟨a,q1,h⟩:=jj h
  obtain⟨bs,q2,h⟩:=jj h
  cases h
  cases j with
  |zero=>simp at e; subst e; exact⟨r,rfl,q1⟩
  |succ j =>
   obtain⟨r',k1,k2⟩:=CZ (j:=j) q2 (by simpa using e)
   exact⟨r',by simpa using k1,k2⟩
theorem KN{ρ : En}:∀{rs:List Rv} {as:List Tr},drs ρ rs=.ok as->as.length=rs.length
 | [],_,h=>by cases h; rfl
 |r::rs,as,h=>by
  unfold drs at h
  obtain⟨a,q1,h⟩:=jj h
  obtain⟨bs,q2,h⟩:=jj h
  cases h
  rw[List.length_cons,List.length_cons,KN q2]
theorem KQ{ρ : En}:∀{rs:List Rv} {as:List Tr} {j:Nat} {r:Rv},drs ρ rs=.ok as->rs[j]?=some r->∃u,as[j]?=some u/\dr ρ r=.ok u
 | [],_,_,_,h,e=>by simp at e
 |r::rs,as,j,u,h,e=>by
  unfold drs at h
  obtain⟨a,q1,h⟩:=jj h
  obtain⟨bs,q2,h⟩:=jj h
  cases h
  cases j with
  |zero=>simp at e; subst e; exact⟨a,rfl,q1⟩
  |succ j =>
   obtain⟨r',k1,k2⟩:=KQ (j:=j) q2 (by simpa using e)
   exact⟨r',by simpa using k1,k2⟩
def others(r i:Nat)(rs:List Rv):Bool:=(rs.eraseIdx r).all λx=>match x with
 |.s j=>j != i
 |_=>true
noncomputable def iT(r:Nat)(F:FR)(fa:AF):EF:=λρ=>(fa ρ).bind λp=>match p.1[r]? with
 |some (.s i)=>if others r i p.1=true then((con p.2 i).bind λ_=>(drs p.2 p.1).bind λas=>(F as).bind λz=>if((p.1.eraseIdx r).any aQ=true/\jm z.1=false)\/(((p.1.eraseIdx r).any aQ=true\/z.1.2=true)/\fG z.2=false)then .bad else .ok (.v z.1.1 z.1.2,bK i z.2 p.2))else .bad
 |_=>.bad
theorem KR{α : Type}{l:List α}{r j:Nat}{x : α}(n:j≠r)(h:l[j]?=some x):x∈l.eraseIdx r:=by
 rw[List.mem_eraseIdx_iff_getElem?]
 exact⟨j,n,h⟩
theorem VN(hK:t.K=au K){n r:Nat}{F:FR}{E:XK}{ta:TA}{fa:AF}(nF:∀as c,F as ≠ .ex c)(hn:∀ρ p,fa ρ=.ok p->p.1.length=n)(ha:SA t ta fa):SE t (jO (jF K n r F) [] E ta) (iT r F fa):=λW ρ σ H Q e h=>by
 have h:=Rs.aH h
 cases ek:fa ρ with
 |bad=>rw[ek]at h; exact h.elim
 |ex c=>exact ha W ρ σ H _ e (by rw[ek]at h ⊢; exact h)
 |ok p =>
 have hl:=hn ρ p ek
 rw[ek]at h
 refine ha W ρ σ H _ e (post_eq ek ?_)
 intro vs H1 e1 s1 v1
 have h:(match p.1[r]? with
  |some (.s i)=>if others r i p.1=true then((con p.2 i).bind λ_=>(drs p.2 p.1).bind λas=>(F as).bind λz=>if((p.1.eraseIdx r).any aQ=true/\jm z.1=false)\/(((p.1.eraseIdx r).any aQ=true\/z.1.2=true)/\fG z.2=false)then .bad else .ok (.v z.1.1 z.1.2,bK i z.2 p.2))else .bad
  |_=>.bad:Rs (Rv × En)).post _ _:=h
 split at h
 ·rename_i i er
  split at h
  ·rename_i ho
   obtain⟨us,k0,h⟩:=cj (Rs.aH h) (CJ _ _)
   obtain⟨as,k1,h⟩:=cj (Rs.aH h) (rY _ _)
   obtain⟨z,k2,h⟩:=cj (Rs.aH h) (nF _)
   obtain⟨mi,a,xs,hi,wa,hx,rx,h0⟩:=e1.con k0
   have lr:r<vs.length:=by rw[v1.length]; exact(List.getElem?_eq_some_iff.mp er).1
   have VP:vs[r]?=some (.ref a):=by
    have q:=v1.get (List.getElem?_eq_getElem lr) er
    have q : σ[i]?=some (some vs[r]):=q
    rw[hi]at q
    rw[List.getElem?_eq_getElem lr,Option.some.inj (Option.some.inj q)]
   have V0:as[r]?=some (.lst us):=by
    obtain⟨u,q1,q2⟩:=KQ k1 er
    rw[q1]
    unfold L2.con at k0
    dsimp only[dr]at q2
    split at k0 <;> rename_i q3
    ·rw[q3]at q2; cases q2; cases k0; rfl
    ·rw[q3]at q2; cases q2; cases k0; rfl
    ·cases k0
   split at h
   ·exact h.elim
   ·rename_i c
    have nl:((p.1.eraseIdx r).any aQ=true\/z.1.2=true)->fG z.2=true:=λy=>by
     cases q:fG z.2 with
     |true=>rfl
     |false=>exact(c (.inr ⟨y,q⟩)).elim
    have nf:z.1.2=true->fG z.2=true:=λy=>nl (.inr y)
    have fin:∀Z:Addr->Prop,Z a->(∀b,Z b->W b)->((∀b,W b->Z b)\/jm z.1=true)->((∀b,W b->Z b)\/fG z.2=true)->(∀j v u,j≠r->vs[j]?=some v->as[j]?=some u->Rep (au K) (aA Z H1) v u)->jF K n r F (vs++[]) H1 Q E:=λZ za zw zs fq rr=>by
     rw[List.append_nil]
     refine⟨Z,as,a,xs,us,v1.length.trans hl,(KN k1).trans hl,VP,V0,za,hx,?_,rr,λb z=>e1.wl b (zw b z),by rw[<-hK]; exact e1.tab.ok,?_⟩
     ·rw[<-hK]
      exact rx.mono (lK (λb _ _ z=>zw b z) λ_ _ _ h=>h)
     rw[k2]
     intro v H' ys fr tb dm hy ry vr
     rw[<-hK]at ry vr fr tb
     have kp:∀b o,¬W b->H1 b=some o->H' b=some o:=λb o nw q=>fr b o q (λz=>by subst z; exact nw wa) λz=>nw (e1.tab.w b z)
     have yC:∀b,W b->Lt H' b:=λb wb=>by
      by_cases q:b=a
      ·subst q; exact .inl ⟨ys,hy⟩
      ·by_cases z:Tb t.K b
       ·exact .inr (tb.dM z)
       ·rcases e1.wl b wb with⟨zs,q2⟩|⟨zs,q2⟩
        ·exact .inl ⟨zs,fr b _ q2 q z⟩
        ·exact .inr ⟨zs,fr b _ q2 q z⟩
     have st:aY W H1 H':=⟨kp,dm⟩
     have V1:aC t.K (aA W H') ys z.2:=by
      rcases fq with q|q
      ·exact ry.mono (lK (λb _ _ z=>q b z) λ_ _ _ h=>h)
      ·exact ry.flat (CN yC) q
     have e2:aF t W (bK i z.2 p.2) σ H':=e1.move mi hi st.off (λ_ h=>h) yC tb fr dm h0 hy V1
     refine h v H' e2 (s1.trans st) (fU.back (H:=H1) ?_ s1.dom)
     refine pG.CQ (W0:=W) (z:=z.1) e1.wn yC zs vr λfz b zs nb qb=>?_
     have KY:∀c,(W c\/c=b)->Lt H' c:=λc wc=>by
      rcases wc with wc|rfl
      ·exact yC c wc
      ·exact .inl ⟨zs,qb⟩
     obtain⟨F,cM⟩:=id e1
     refine⟨F,cM.move mi hi (λc o q=>?_) (λ_ h=>.inl h) KY tb fr dm h0 hy (ry.flat (CN KY) (nf fz)),λj us hj zj=>?_⟩
     rotate_left
     ·obtain⟨c,ys,h1,bs,_,_,ww,_⟩:=cM.dp j us (pF hj)
      exact e1.wn b (ww b zj).1 nb
     obtain⟨nc,q⟩:=fV q
     rw[cW]
     ·exact kp c o nc q
     ·rintro(z|rfl)
      ·exact nc z
      ·rw[nb]at q; cases q
    by_cases an:(p.1.eraseIdx r).any aQ=true
    ·refine fin (λb=>b=a) rfl (λb z=>by subst z; exact wa) (.inr ?_) (.inr (nl (.inl an))) λj v u nj qv qu=>?_
     ·cases fz:jm z.1 with
      |true=>rfl
      |false=>exact(c (.inl ⟨an,fz⟩)).elim
     ·obtain⟨x,q1,q2⟩:=CZ k1 qu
      have ok:=v1.get qv q1
      rw[<-hK]
      cases x with
      |v T fr =>
       cases q2
       exact(ok.rep e.wn).mono (lK (λb _ _ z=>by subst z; exact wa) λ_ _ _ h=>h)
      |s j' =>
       have V2:j'≠i:=by
        have:=List.all_eq_true.mp ho _ (KR nj q1)
        simpa using this
       have ok : σ[j']?=some (some v):=ok
       have q2:dr p.2 (.s j')=.ok u:=q2
       have q3:∃ws,L2.con p.2 j'=.ok ws/\u=.lst ws:=by
        dsimp only[dr]at q2
        unfold L2.con
        split at q2 <;> rename_i q3
        ·cases q2; (try rw[q3]); exact⟨_,rfl,rfl⟩
        ·cases q2; (try rw[q3]); exact⟨_,rfl,rfl⟩
        ·cases q2
       obtain⟨ws,q3,rfl⟩:=q3
       obtain⟨mj,a',zs,hj,wj,hz,rz,_⟩:=e1.con q3
       rw[ok]at hj
       cases hj
       have na:a'≠a:=λy=>by
        subst y
        exact V2 (e1.dis j' i a' mj mi ok hi)
       refine .lst (bG.of ?_) (rz.mono (lK (λb _ _ z=>by subst z; exact wa) λ_ _ _ h=>h))
       rw[cW (W:=λb=>b=a) na]
       exact hz
    ·refine fin W wa (λ_ z=>z) (.inl λ_ z=>z) (.inl λ_ z=>z) λj v u nj qv qu=>?_
     obtain⟨x,q1,q2⟩:=CZ k1 qu
     have ok:=v1.get qv q1
     rw[<-hK]
     cases x with
     |v T fr=>cases q2; exact ok.rep e.wn
     |s j' =>
      refine(an ?_).elim
      exact List.any_eq_true.mpr ⟨_,KR nj q1,rfl⟩
  ·exact h.elim
 ·exact h.elim
end
end L2
end
section
namespace L2
open PySem PySem.Spec PyProof.Rows
section
variable {prog:Program}{w:World}{A:Around}{R:Result->Shared->Prop}{s:Shared}
end
noncomputable def yD(wi:TI)(g:TG)(src:List (Option Nat))(tc:TT)(te:TE):TE:=λσ H Q=>wi σ H λJ H1=>∀D,H1 D=none ->
 ∃W:Nat->Nat->St->Hp->Prop,(∃m,W 0 m (gw src σ) (upd H1 D (.lst [])))/\∀i m σ' H',W i m σ' H' ->
  (J.stop i H'/\JB Q D H')\/(J.go i H'/\∀x gJ,J.rG i H' x gJ->g x σ' gJ λσ2 H2=>tc σ2 H2 λb KZ=>if b=true then te σ2 KZ λv H3=>∃xs,H3 D=some (.lst xs)/\xs.length<sizeLine/\∃m',m'<m/\W (i+1) m' σ2 (upd H3 D (.lst (xs++[v])))else ∃m',m'<m/\W (i+1) m' σ2 KZ)
section
variable {X:Cx}{elt tg iter cnd:Expr}{scope sc:Scope}{pos:Pos}{No N:List Str}{src:List (Option Nat)}{wi:TI}{g:TG}{te:TE}{tc:TT}
end
end L2
end
section
namespace L2
open PySem PySem.Spec PyProof.Rows
def dJ:Sl->Sl
 |.dp _=>.un
 |s=>s
def bQ(src:List (Option Nat))(ρ : En):En:=src.map λo=>match o with
 |some j=>dJ ((ρ[j]?).getD .un)
 |none=>.un
def bx:List (Option Nat)->En->En->En
 |some j::src,.ow ts::ρi,ρ=>bx src ρi (bK j ts ρ)
 |some j::src,.rf ts::ρi,ρ=>bx src ρi (bK j ts ρ)
 |_::src,_::ρi,ρ=>bx src ρi ρ
 |_,_,ρ=>ρ
def dF:Option Sl->Bool
 |some (.ow _)=>true
 |some (.rf _)=>true
 |_=>false
def bZ:List (Option Nat)->En->En->Bool
 |some j::src,s::ρi,ρ=>(!dF ρ[j]? || dF (some s))&&bZ src ρi ρ
 |none::src,_::ρi,ρ=>bZ src ρi ρ
 | [],_,_=>true
 |_,[],_=>false
theorem K1{ρ : En}{i:Nat}:dF ρ[i]?=true↔Mu ρ i:=by
 constructor
 ·intro h
  unfold dF at h
  split at h <;> rename_i q
  ·exact⟨_,.inl q⟩
  ·exact⟨_,.inr q⟩
  ·cases h
 ·rintro⟨ts,h|h⟩ <;> rw[h] <;> rfl
theorem yE:∀{src:List (Option Nat)} {ρi ρ : En} {k j:Nat},bZ src ρi ρ = true->src[k]?=some (some j)->Mu ρ j->Mu ρi k
 | [],_,_,_,_,_,h,_=>by simp at h
 |some j'::src,s::ρi,ρ,k,j,h,hk,m=>by
  unfold bZ at h
  rw[Bool.and_eq_true]at h
  cases k with
  |zero =>
   simp at hk
   subst hk
   have h1:=h.1
   rw[K1.mpr m]at h1
   have h1:dF (some s)=true:=by simpa using h1
   cases s with
   |un=>cases h1
   |sh _=>cases h1
   |dp _=>cases h1
   |ow ts=>exact⟨ts,.inl rfl⟩
   |rf ts=>exact⟨ts,.inr rfl⟩
  |succ k =>
   obtain⟨ts,q⟩:=yE (k:=k) h.2 (by simpa using hk) m
   exact⟨ts,by simpa using q⟩
 |none::src,s::ρi,ρ,k,j,h,hk,m=>by
  unfold bZ at h
  cases k with
  |zero=>simp at hk
  |succ k =>
   obtain⟨ts,q⟩:=yE (k:=k) h (by simpa using hk) m
   exact⟨ts,by simpa using q⟩
 |some j'::src,[],ρ,k,j,h,hk,m=>by unfold bZ at h; cases h
 |none::src,[],ρ,k,j,h,hk,m=>by unfold bZ at h; cases h
def Inj(src:List (Option Nat)):Prop:=∀(k k' j:Nat),src[k]?=some (some j)->src[k']?=some (some j)->k=k'
theorem sU{src:List (Option Nat)}(h:(src.filterMap id).Nodup):Inj src:=by
 induction src with
 |nil=>intro k k' j h1; simp at h1
 |cons o src ih =>
  have tail:Inj src:=by
   cases o with
   |none=>exact ih (by simpa using h)
   |some j=>exact ih (by simpa using(List.nodup_cons.mp (by simpa using h)).2)
  intro k k' j h1 h2
  have no:∀{m:Nat},o=some j->src[m]?=some (some j)->False:=λ{m} e q=>by
   subst e
   have n:=(List.nodup_cons.mp (show(j::src.filterMap id).Nodup by simpa using h)).1
   exact n (List.mem_filterMap.mpr ⟨some j,List.mem_of_getElem? q,rfl⟩)
  cases k with
  |zero =>
   have e1:o=some j:=by simpa using h1
   cases k' with
   |zero=>rfl
   |succ k'=>exact(no e1 (by simpa using h2)).elim
  |succ k =>
   cases k' with
   |zero=>exact(no (by simpa using h2) (by simpa using h1)).elim
   |succ k'=>rw[tail k k' j (by simpa using h1) (by simpa using h2)]
theorem K3{ρ : En}{i j:Nat}{ts:List Tr}(h:j≠i):(bK i ts ρ)[j]?=ρ[j]? := by
 unfold bK
 split
 ·exact List.getElem?_set_ne (Ne.symm h)
 ·exact List.getElem?_set_ne (Ne.symm h)
 ·rfl
theorem V3{ρ ρ':En}{i:Nat}{ts:List Tr}(h : ρ[i]?=ρ'[i]?):(bK i ts ρ)[i]?=(bK i ts ρ')[i]? := by
 unfold bK
 rw[h]
 cases q : ρ'[i]? with
 |none=>dsimp only; rw[h,q]
 |some s =>
  have l':i < ρ'.length:=(List.getElem?_eq_some_iff.mp q).1
  have l:i < ρ.length:=(List.getElem?_eq_some_iff.mp (h.trans q)).1
  cases s with
  |un=>dsimp only; rw[h,q]
  |sh _=>dsimp only; rw[h,q]
  |dp _=>dsimp only; rw[h,q]
  |ow _=>dsimp only; rw[qF l,qF l']
  |rf _=>dsimp only; rw[qF l,qF l']
theorem pH:∀(src:List (Option Nat)) (ρi ρ : En),(bx src ρi ρ).length = ρ.length
 | [],ρi,ρ=>by unfold bx; rfl
 |o::src,[],ρ=>by cases o <;> (unfold bx; rfl)
 |none::src,s::ρi,ρ=>by unfold bx; exact pH src ρi ρ
 |some j::src,.un::ρi,ρ=>by unfold bx; exact pH src ρi ρ
 |some j::src,.sh _::ρi,ρ=>by unfold bx; exact pH src ρi ρ
 |some j::src,.dp _::ρi,ρ=>by unfold bx; exact pH src ρi ρ
 |some j::src,.ow ts::ρi,ρ=>by unfold bx; rw[pH src ρi,CK]
 |some j::src,.rf ts::ρi,ρ=>by unfold bx; rw[pH src ρi,CK]
theorem j8:∀{src:List (Option Nat)} {ρi ρ : En} {j:Nat} {s:Sl},Inj src->(bx src ρi ρ)[j]?=some s ->
  (∃(k:Nat) (ts:List Tr),src[k]?=some (some j)/\(ρi[k]?=some (.ow ts)\/ρi[k]?=some (.rf ts))/\(bK j ts ρ)[j]?=some s)\/((∀k:Nat,src[k]?=some (some j)->¬Mu ρi k)/\ρ[j]?=some s)
 | [],ρi,ρ,j,s,_,h=>by
  unfold bx at h
  exact .inr ⟨λk q=>by simp at q,h⟩
 |o::src,[],ρ,j,s,_,h=>by
  have h : ρ[j]?=some s:=by cases o <;> (unfold bx at h; exact h)
  refine .inr ⟨λk _ m=>?_,h⟩
  obtain⟨_,q|q⟩:=m <;> simp at q
 |o::src,x::ρi,ρ,j,s,I,h=>by
  have It:Inj src:=λk k' j h1 h2=>by
   have:=I (k+1) (k'+1) j (by simpa using h1) (by simpa using h2)
   omega
  have keep:(o=none\/dF (some x)=false)->(bx src ρi ρ)[j]?=some s->(∃(k:Nat) (ts:List Tr),(o::src)[k]?=some (some j)/\((x::ρi)[k]?=some (.ow ts)\/(x::ρi)[k]?=some (.rf ts))/\(bK j ts ρ)[j]?=some s)\/((∀k:Nat,(o::src)[k]?=some (some j)->¬Mu (x::ρi) k)/\ρ[j]?=some s):=λc h=>by
   rcases j8 It h with⟨k,ts,q1,q2,q3⟩|⟨n,q⟩
   ·exact .inl ⟨k+1,ts,by simpa using q1,by simpa using q2,q3⟩
   ·refine .inr ⟨λk qk m=>?_,q⟩
    cases k with
    |zero =>
     rcases c with c|c
     ·subst c; simp at qk
     ·rw[<-K1]at m
      have m:dF (some x)=true:=m
      rw[c]at m
      cases m
    |succ k =>
     obtain⟨ts,m⟩:=m
     exact n k (by simpa using qk) ⟨ts,by simpa using m⟩
  have put:∀(i:Nat) (ts:List Tr),o=some i->(x=.ow ts\/x=.rf ts)->(bx src ρi (bK i ts ρ))[j]?=some s->(∃(k:Nat) (ts:List Tr),(o::src)[k]?=some (some j)/\((x::ρi)[k]?=some (.ow ts)\/(x::ρi)[k]?=some (.rf ts))/\(bK j ts ρ)[j]?=some s)\/((∀k:Nat,(o::src)[k]?=some (some j)->¬Mu (x::ρi) k)/\ρ[j]?=some s):=λi ts eo ex h=>by
   rcases j8 It h with⟨k,us,q1,q2,q3⟩|⟨n,q⟩
   ·have ne:j≠i:=λz=>by
     subst z
     have:=I 0 (k+1) j (by simpa using eo) (by simpa using q1)
     omega
    refine .inl ⟨k+1,us,by simpa using q1,by simpa using q2,?_⟩
    rw[<-V3 (K3 ne)]
    exact q3
   ·by_cases e:j=i
    ·subst e
     refine .inl ⟨0,ts,by simpa using eo,?_,q⟩
     rcases ex with rfl|rfl
     ·exact .inl rfl
     ·exact .inr rfl
    ·rw[K3 e]at q
     refine .inr ⟨λk qk m=>?_,q⟩
     cases k with
     |zero =>
      rw[eo]at qk
      simp at qk
      exact e qk.symm
     |succ k =>
      obtain⟨ts,m⟩:=m
      exact n k (by simpa using qk) ⟨ts,by simpa using m⟩
  cases o with
  |none=>unfold bx at h; exact keep (.inl rfl) h
  |some i =>
   cases x with
   |un=>unfold bx at h; exact keep (.inr rfl) h
   |sh _=>unfold bx at h; exact keep (.inr rfl) h
   |dp _=>unfold bx at h; exact keep (.inr rfl) h
   |ow ts=>unfold bx at h; exact put i ts rfl (.inl rfl) h
   |rf ts=>unfold bx at h; exact put i ts rfl (.inr rfl) h
theorem vq{src:List (Option Nat)}{ρ : En}{k:Nat}{s:Sl}(h:(bQ src ρ)[k]?=some s)(n:s ≠ .un):∃j,src[k]?=some (some j)/\ρ[j]?=some s:=by
 unfold bQ at h
 rw[List.getElem?_map]at h
 cases q:src[k]? with
 |none=>rw[q]at h; cases h
 |some o =>
  rw[q]at h
  cases o with
  |none=>cases h; exact(n rfl).elim
  |some j =>
   refine⟨j,rfl,?_⟩
   have h:dJ ((ρ[j]?).getD .un)=s:=Option.some.inj h
   cases z : ρ[j]? with
   |none=>rw[z]at h; exact(n h.symm).elim
   |some s' =>
    rw[z]at h
    have h:dJ s'=s:=h
    cases s' <;> first|exact congrArg some h|exact(n h.symm).elim
theorem yF{src:List (Option Nat)}{ρ : En}{k:Nat}{ts:List Tr}(h:(bQ src ρ)[k]?=some (.dp ts)):False:=by
 unfold bQ at h
 rw[List.getElem?_map]at h
 cases q:src[k]? with
 |none=>rw[q]at h; cases h
 |some o =>
  rw[q]at h
  cases o with
  |none=>cases h
  |some j =>
   have h:dJ ((ρ[j]?).getD .un)=.dp ts:=Option.some.inj h
   cases z:(ρ[j]?).getD Sl.un <;> rw[z]at h <;> cases h
theorem j9{src:List (Option Nat)}{ρi ρ : En}{j:Nat}{ts:List Tr}(I:Inj src)(h:(bx src ρi ρ)[j]?=some (.dp ts)) : ρ[j]?=some (.dp ts):=by
 rcases j8 I h with⟨k,us,_,_,q⟩|⟨_,q⟩
 ·exact pF q
 ·exact q
theorem K4{src:List (Option Nat)}{σ : St}{k j:Nat}(h:src[k]?=some (some j)):(gw src σ)[k]?=some ((σ[j]?).join):=by
 unfold gw
 rw[List.getElem?_map,h]
 rfl
end L2
end
section
namespace L2
open PySem PySem.Spec PyProof.Rows
def OU(src:List (Option Nat))(ρ : En)(σ : St)(F:Nat->List Addr)(b:Addr):Prop:=(∃j:Nat,Mu ρ j/\σ[j]?=some (some (.ref b))/\∀k:Nat,src[k]? ≠ some (some j))\/∃(j:Nat) (ts:List Tr),ρ[j]?=some (.dp ts)/\b∈F j
open Classical in
def fY(t:Tx)(src:List (Option Nat))(ρ : En)(σ : St)(F:Nat->List Addr)(H1:Hp)(D:Addr)(xs:List V):Tx:=⟨t.K,t.Z,t.R,t.H0,λb=>if b=D then some (.lst xs)else if OU src ρ σ F b then H1 b else t.B b,λ_=>False⟩
section
variable {t:Tx}{src:List (Option Nat)}{ρ1:En}{σ : St}{F:Nat->List Addr}{H1:Hp}{D:Addr}{W:Addr->Prop}
theorem pI{xs:List V}:(fY t src ρ1 σ F H1 D xs).B D=some (.lst xs):=if_pos rfl
theorem pJ{xs:List V}{b:Addr}(h1:b≠D)(h2:¬OU src ρ1 σ F b):(fY t src ρ1 σ F H1 D xs).B b=t.B b:=by
 unfold fY
 dsimp only
 rw[if_neg h1,if_neg h2]
theorem qI{xs:List V}{b:Addr}(h1:b≠D)(h2:OU src ρ1 σ F b):(fY t src ρ1 σ F H1 D xs).B b=H1 b:=by
 unfold fY
 dsimp only
 rw[if_neg h1,if_pos h2]
theorem Dc{k:Nat}(h:Mu (bQ src ρ1) k):∃j,src[k]?=some (some j)/\Mu ρ1 j:=by
 obtain⟨ts,q|q⟩:=h
 ·obtain⟨j,h1,h2⟩:=vq q (by intro z; cases z)
  exact⟨j,h1,ts,.inl h2⟩
 ·obtain⟨j,h1,h2⟩:=vq q (by intro z; cases z)
  exact⟨j,h1,ts,.inr h2⟩
theorem Dd{k j:Nat}{v:V}(h:src[k]?=some (some j))(q:(gw src σ)[k]?=some (some v)) : σ[j]?=some (some v):=by
 rw[K4 h]at q
 have q:=Option.some.inj q
 cases z : σ[j]? with
 |none=>rw[z]at q; cases q
 |some o =>
  rw[z]at q
  have q:o=some v:=q
  rw[q]
theorem vA{k j:Nat}{v:V}(h:src[k]?=some (some j))(q : σ[j]?=some (some v)):(gw src σ)[k]?=some (some v):=by
 rw[K4 h,q]
 rfl
theorem OU.tab{b:Addr}(cM:EOF t W ρ1 σ H1 F)(z:Tb t.K b):¬OU src ρ1 σ F b:=by
 rintro(⟨j,m,q,_⟩|⟨j,ts,d',y⟩)
 ·obtain⟨xs,h⟩:=aF.yp ⟨F,cM⟩ m q
  exact cM.tab.ok.ne z h rfl
 ·obtain⟨a,xs,_,d⟩:=cM.dp j ts d'
  exact d.nt cM.tab.ok z y
theorem V4{xs:List V}{b:Addr}(cM:EOF t W ρ1 σ H1 F)(hD:H1 D=none)(z:Tb t.K b):(fY t src ρ1 σ F H1 D xs).B b=none:=by
 have nD:b≠D:=λy=>by
  obtain⟨ps,h⟩:=cM.tab.ok.dM z
  rw[y,hD]at h
  cases h
 rw[pJ nD (OU.tab cM z)]
 exact cM.tab.B b z
theorem EOF.enter(I:Inj src)(cM:EOF t W ρ1 σ H1 F)(hD:H1 D=none):aF (fY t src ρ1 σ F H1 D []) (λb=>W b\/b=D) (bQ src ρ1) (gw src σ) (upd H1 D (.lst [])):=by
 have e1:aF t W ρ1 σ H1:=⟨F,cM⟩
 have e2:=(e1.hide (dN hD (.lst [])) hD dh).ok
 have tf:=e2.tab
 refine⟨λ_=>[],?_,e2.zw,e2.z0,e2.wl,e2.f0,e2.n0,λk u h=>?_,λk ts h=>?_,λk ts h=>?_,λk k' a m1 m2 q1 q2=>?_,λb o h=>?_,λk a m q=>?_,λk ts h=>(yF h).elim,λk _ ts _ _ h=>(yF h).elim,λk _ ts _ h=>(yF h).elim,λk ts h=>(yF h).elim,⟨tf.ok,tf.w,tf.r,λb z=>V4 cM hD z⟩⟩
 ·unfold bQ gw
  rw[List.length_map,List.length_map]
 ·obtain⟨j,h1,h2⟩:=vq h (by intro z; cases z)
  obtain⟨v,q1,q2⟩:=e2.sh j u h2
  exact⟨v,vA h1 q1,q2⟩
 ·obtain⟨j,h1,h2⟩:=vq h (by intro z; cases z)
  obtain⟨a,xs,q1,q2⟩:=e2.ow j ts h2
  exact⟨a,xs,vA h1 q1,q2⟩
 ·obtain⟨j,h1,h2⟩:=vq h (by intro z; cases z)
  obtain⟨a,xs,q1,q2⟩:=e2.rf j ts h2
  exact⟨a,xs,vA h1 q1,q2⟩
 ·obtain⟨j,h1,n1⟩:=Dc m1
  obtain⟨j',h2,n2⟩:=Dc m2
  have:=e2.dis j j' a n1 n2 (Dd h1 q1) (Dd h2 q2)
  subst this
  exact I k k' j h1 h2
 ·by_cases h1:b=D
  ·subst h1
   rw[pI]at h
   rw[dh]
   exact h
  ·by_cases h2:OU src ρ1 σ F b
   ·rw[qI h1 h2]at h
    rw[aN h1]
    exact h
   ·rw[pJ h1 h2]at h
    exact e2.pn b o h
 ·obtain⟨j,h1,n1⟩:=Dc m
  have q:=Dd h1 q
  have wa:=e1.addr n1 q
  have nD:a≠D:=λz=>by subst z; exact e1.wn a wa hD
  have nO:¬OU src ρ1 σ F a:=by
   rintro(⟨j',m',q',u'⟩|⟨j',ts,d',z⟩)
   ·have:=e1.dis j j' a n1 m' q q'
    subst this
    exact u' k h1
   ·exact cM.dm j' j ts a d' n1 q z
  rw[pJ nD nO]
  exact e1.pd j a n1 q
theorem aF.V5{xs ys:List V}{ρ : En}{τ : St}{H:Hp}{W':Addr->Prop}(e:aF (fY t src ρ1 σ F H1 D xs) W' ρ τ H)(w:W' D)(h0:t.H0 D=none):aF (fY t src ρ1 σ F H1 D ys) W' ρ τ (upd H D (.lst ys)):=by
 have ne:∀i a,Mu ρ i -> τ[i]?=some (some (.ref a))->a≠D:=λi a m q z=>by
  subst z
  have:=e.pd i a m q
  rw[pI]at this
  cases this
 obtain⟨F',e⟩:=e
 have vB:∀i ts,ρ[i]?=some (Sl.dp ts)->∀b∈F' i,b≠D:=λi ts h b hb z=>by
  subst z
  have:=e.db i ts h b hb
  rw[pI]at this
  cases this
 refine⟨F',e.len,e.zw,e.z0,λb z=>?_,λb o h n=>?_,λb h=>?_,λi u h=>?_,λi ts h=>?_,λi ts h=>?_,e.dis,λb o h=>?_,λi a m q=>?_,λi ts h=>?_,e.dd,e.dm,λi ts h b hb=>?_,⟨e.tab.ok.upd (e.pn D _ pI),e.tab.w,e.tab.r,λb z=>?_⟩⟩
 ·by_cases q:b=D
  ·subst q; exact .inl ⟨ys,dh⟩
  ·unfold Lt; rw[aN q]; exact e.wl b z
 ·rw[aN]
  ·exact e.f0 b o h n
  ·rintro rfl
   have h:t.H0 b=some o:=h
   rw[h0]at h
   cases h
 ·by_cases q:b=D
  ·subst q; exact h0
  ·rw[aN q]at h; exact e.n0 b h
 ·rw[lM w]
  exact e.sh i u h
 ·obtain⟨a,zs,q1,q2,q3,q4,q5⟩:=e.ow i ts h
  rw[lM w]
  exact⟨a,zs,q1,q2,q3,by rw[aN (ne i a ⟨ts,.inl h⟩ q1)]; exact q4,q5⟩
 ·obtain⟨a,zs,q1,q2,q3,q4,q5⟩:=e.rf i ts h
  rw[lM w]
  exact⟨a,zs,q1,q2,q3,by rw[aN (ne i a ⟨ts,.inr h⟩ q1)]; exact q4,q5⟩
 ·by_cases h1:b=D
  ·subst h1
   rw[pI]at h
   rw[dh]
   exact h
  ·rw[aN h1]
   refine e.pn b o ?_
   by_cases h2:OU src ρ1 σ F b
   ·rw[qI h1 h2]at h ⊢; exact h
   ·rw[pJ h1 h2]at h ⊢; exact h
 ·have nD:=ne i a m q
  have z:=e.pd i a m q
  by_cases h2:OU src ρ1 σ F a
  ·rw[qI nD h2]at z ⊢; exact z
  ·rw[pJ nD h2]at z ⊢; exact z
 ·obtain⟨a,zs,q1,d⟩:=e.dp i ts h
  exact⟨a,zs,q1,d.move rfl rfl (by rw[lM w]; exact Same.refl _) (λb hb=>by obtain⟨_,_,_,ww,_⟩:=d; exact(ww b hb).1) λb o hb q=>by rw[aN (vB i ts h b hb)]; exact q⟩
 ·have nD:=vB i ts h b hb
  have z:=e.db i ts h b hb
  by_cases h2:OU src ρ1 σ F b
  ·rw[qI nD h2]at z ⊢; exact z
  ·rw[pJ nD h2]at z ⊢; exact z
 ·have y:=e.tab.B b z
  have nD:b≠D:=λq=>by
   subst q
   rw[pI]at y
   cases y
  by_cases h2:OU src ρ1 σ F b
  ·rw[qI nD h2]at y ⊢; exact y
  ·rw[pJ nD h2]at y ⊢; exact y
theorem EOF.leave{xs:List V}{ρ : En}{τ : St}{H:Hp}{Wx:Addr->Prop}{js:List Nat}(I:Inj src)(cM:EOF t W ρ1 σ H1 F)(hD:H1 D=none)(e:aF (fY t src ρ1 σ F H1 D xs) (λb=>W b\/b=D) ρ τ H)(nx:∀b o,¬W b->H1 b=some o->H b=some o)
  (hj:∀k j:Nat,src[k]?=some (some j)->k∉js) (ag:∀k,k∉js -> τ[k]?=(gw src σ)[k]?) (so:bZ src ρ ρ1=true) (w1:∀b,W b->Wx b) (w2:∀b,Wx b->W b\/b=D):EOF t Wx (bx src ρ ρ1) σ H F:=by
 have e1:aF t W ρ1 σ H1:=⟨F,cM⟩
 have m1:Same (aA W H1) (aA Wx H):=λb o h=>by
  obtain⟨n,h⟩:=fV h
  rw[cW]
  ·exact nx b o n h
  ·intro z
   rcases w2 b z with z|rfl
   ·exact n z
   ·rw[hD]at h; cases h
 have m2:Same (aA (λb=>W b\/b=D) H) (aA Wx H):=lK (λb _ _ z=>w2 b z) λ_ _ _ h=>h
 have nR:∀j,Mu (bx src ρ ρ1) j->Mu ρ1 j:=λj m=>by
  obtain⟨ts,m|m⟩:=m <;> rcases j8 I m with⟨k,us,q1,q2,q3⟩|⟨n,q⟩
  ·exact mK ⟨ts,.inl q3⟩
  ·exact⟨ts,.inl q⟩
  ·exact mK ⟨ts,.inr q3⟩
  ·exact⟨ts,.inr q⟩
 have inner:∀(k j:Nat) (ts:List Tr) (a:Addr),src[k]?=some (some j)->(ρ[k]?=some (.ow ts)\/ρ[k]?=some (.rf ts)) -> σ[j]?=some (some (.ref a))->∃ys,H a=some (.lst ys)/\aC t.K (aA Wx H) ys ts:=λk j ts a q1 q2 q3=>by
  have z:=ag k (hj k j q1)
  rw[vA q1 q3]at z
  rcases q2 with q2|q2
  ·obtain⟨c,ys,h1,h2,h3,h4,h5⟩:=e.ow k ts q2
   rw[z]at h1
   cases h1
   exact⟨ys,h4,h5.mono m2⟩
  ·obtain⟨c,ys,h1,h2,h3,h4,h5⟩:=e.rf k ts q2
   rw[z]at h1
   cases h1
   exact⟨ys,h4,h5.mono m2⟩
 have outer:∀(j:Nat) (a:Addr) (ys:List V),Mu ρ1 j->(∀k,src[k]?=some (some j)->¬Mu ρ k) -> σ[j]?=some (some (.ref a))->H1 a=some (.lst ys)->H a=some (.lst ys):=λj a ys m n q h=>by
  have wa:=e1.addr m q
  have nD:a≠D:=λz=>by subst z; exact e1.wn a wa hD
  refine e.pn a _ ?_
  rw[qI nD (.inl ⟨j,m,q,λk z=>n k z (yE so z m)⟩)]
  exact h
 refine⟨by rw[pH]; exact e1.len,λb z=>w1 b (e1.zw b z),e1.z0,λb z=>e.wl b (w2 b z),e.f0,e.n0,λj u h=>?_,λj ts h=>?_,λj ts h=>?_,λj k a n1 n2=>e1.dis j k a (nR j n1) (nR k n2),λb o h=>?_,λj a m=>e1.pd j a (nR j m),λj ts h=>?_,λj k ts us n h1 h2=>cM.dd j k ts us n (j9 I h1) (j9 I h2),λj k ts c h1 m q=>cM.dm j k ts c (j9 I h1) (nR k m) q,λj ts h=>cM.db j ts (j9 I h),⟨e.tab.ok,λb z=>w1 b (e1.tab.w b z),e1.tab.r,e1.tab.B⟩⟩
 ·have h' : ρ1[j]?=some (.sh u):=by
   rcases j8 I h with⟨k,us,q1,q2,q3⟩|⟨n,q⟩
   ·rcases mL q3 with⟨ne,_⟩|⟨_,⟨_,_,z⟩|⟨_,_,z⟩|⟨_,q⟩⟩
    ·exact(ne rfl).elim
    ·cases z
    ·cases z
    ·exact q
   ·exact q
  obtain⟨v,q1,q2⟩:=e1.sh j u h'
  exact⟨v,q1,q2.mono m1⟩
 ·rcases j8 I h with⟨k,us,q1,q2,q3⟩|⟨n,q⟩
  ·rcases mL q3 with⟨ne,_⟩|⟨_,⟨ts0,q0,z⟩|⟨_,_,z⟩|⟨nm,q⟩⟩
   ·exact(ne rfl).elim
   ·cases z
    obtain⟨a,ys,h1,h2,h3,h4,h5⟩:=e1.ow j ts0 q0
    obtain⟨zs,k1,k2⟩:=inner k j ts a q1 q2 h1
    exact⟨a,zs,h1,w1 a h2,h3,k1,k2⟩
   ·cases z
   ·exact(nm ⟨ts,.inl q⟩).elim
  ·obtain⟨a,ys,h1,h2,h3,h4,h5⟩:=e1.ow j ts q
   exact⟨a,ys,h1,w1 a h2,h3,outer j a ys ⟨ts,.inl q⟩ n h1 h4,h5.mono m1⟩
 ·rcases j8 I h with⟨k,us,q1,q2,q3⟩|⟨n,q⟩
  ·rcases mL q3 with⟨ne,_⟩|⟨_,⟨_,_,z⟩|⟨ts0,q0,z⟩|⟨nm,q⟩⟩
   ·exact(ne rfl).elim
   ·cases z
   ·cases z
    obtain⟨a,ys,h1,h2,h3,h4,h5⟩:=e1.rf j ts0 q0
    obtain⟨zs,k1,k2⟩:=inner k j ts a q1 q2 h1
    exact⟨a,zs,h1,w1 a h2,h3,k1,k2⟩
   ·exact(nm ⟨ts,.inr q⟩).elim
  ·obtain⟨a,ys,h1,h2,h3,h4,h5⟩:=e1.rf j ts q
   exact⟨a,ys,h1,w1 a h2,h3,outer j a ys ⟨ts,.inr q⟩ n h1 h4,h5.mono m1⟩
 ·have nD:b≠D:=λz=>by
   subst z
   rw[e1.vh hD]at h
   cases h
  have nO:¬OU src ρ1 σ F b:=by
   rintro(⟨j,m,q,_⟩|⟨j,ts,d',z⟩)
   ·rw[e1.pd j b m q]at h
    cases h
   ·rw[cM.db j ts d' b z]at h
    cases h
  refine e.pn b o ?_
  rw[pJ nD nO]
  exact h
 ·have hd:=j9 I h
  obtain⟨a,ys,q1,d⟩:=cM.dp j ts hd
  have ww:∀b∈F j,W b:=λb hb=>by obtain⟨_,_,_,ww,_⟩:=d; exact(ww b hb).1
  refine⟨a,ys,q1,d.move rfl rfl m1 (λb hb=>w1 b (ww b hb)) λb o hb q=>?_⟩
  have nD:b≠D:=λz=>by subst z; exact e1.wn b (ww b hb) hD
  refine e.pn b o ?_
  rw[qI nD (.inr ⟨j,ts,hd,hb⟩)]
  exact q
end
def bW:Rv->Rs Tr
 |.v T _=>.ok T
 |.s _=>.bad
theorem V6(r:Rv)(c:Str):bW r ≠ .ex c:=by cases r <;> (intro z; cases z)
def jq(g:GF)(c:BF)(f:EF):List Tr->En->Rs (List Tr × En)
 | [],ρ=>.ok ([],ρ)
 |u::us,ρ=>(g u ρ).bind λρ1=>(c ρ1).bind λb=>if b.1=true then(f b.2).bind λp=>(bW p.1).bind λT=>(jq g c f us p.2).bind λz=>.ok (T::z.1,z.2)else jq g c f us b.2
def dg(src:List (Option Nat))(fi:IF)(g:GF)(c:BF)(f:EF):EF:=λρ=>(fi ρ).bind λp=>if p.1.length<=100000 then(bM (jq g c f p.1 (bQ src p.2))).bind λz=>if bZ src z.2 p.2=true then .ok (.v (.lst z.1) true,bx src z.2 p.2)else .bad else .bad
theorem V7{t:Tx}{wi:TI}{g:TG}{src:List (Option Nat)}{tc:TT}{te:TE}{fi:IF}{gf:GF}{c:BF}{f:EF}{js:List Nat}(hi:SI t wi fi)(I:Inj src)(hj:∀k j:Nat,src[k]?=some (some j)->k∉js)(ng:∀T ρ c,gf T ρ ≠ .ex c)
  (hg:∀t':Tx,t'.K=t.K->(∀c,¬t'.EX c)->SG t' g gf js) (hc:∀t':Tx,t'.K=t.K->(∀c,¬t'.EX c)->ST t' tc c) (he:∀t':Tx,t'.K=t.K->(∀c,¬t'.EX c)->SE t' te f):SE t (yD wi g src tc te) (dg src fi gf c f):=λW ρ σ H Q e h=>by
 refine hi W ρ σ H _ e (Rs.aM (Rs.aH h) λp h J H1 e1 s1 it=>?_)
 obtain⟨us,ρ1⟩:=p
 dsimp only at h it e1
 split at h
 case isFalse=>exact h.elim
 rename_i hlen
 intro D hD
 have h:=yx (Rs.aH h)
 obtain⟨F,cM⟩:=id e1
 have wD:∀b,W b->b≠D:=λb w z=>by subst z; exact e1.wn b w hD
 have sV:t.H0 D=none:=e1.n0 D hD
 refine⟨λi m τ H'=>m=us.length-i/\i<=us.length/\∃ρ' xs acc,aF (fY t src ρ1 σ F H1 D xs) (λb=>W b\/b=D) ρ' τ H'/\aC t.K (aA (λb=>W b\/b=D) H') xs acc/\xs.length<=i/\(∀b o,¬W b->H1 b=some o->H' b=some o)/\(∀k,k∉js -> τ[k]?=(gw src σ)[k]?) /\
   (jq gf c f (us.drop i) ρ').post (λ_=>False) (λz=>(if bZ src z.2 ρ1=true then .ok (.v (.lst (acc++z.1)) true,bx src z.2 ρ1)else .bad:Rs (Rv × En)).post t.EX (λp=>∀v H',aF t W p.2 σ H'->aY W H H'->fU t W p.2 σ H H' v p.1->Q v H')),?_,?_⟩
 ·refine⟨us.length,by simp,Nat.zero_le _,bQ src ρ1,[],[],cM.enter I hD,.nil,Nat.le_refl _,λb o _ q=>?_,λ_ _=>rfl,?_⟩
  ·rw[aN (jM q hD)]; exact q
  ·rw[List.drop_zero]; exact h
 ·rintro i m τ H2 ⟨rfl,hi,ρ2,xs,acc,e2,r2,l2,n2,a2,h2⟩
  have sm:Same (aA W H1) (aA (λb=>W b\/b=D) H2):=λb o q=>by
   obtain⟨nw,q⟩:=fV q
   rw[cW]
   ·exact n2 b o nw q
   ·rintro(z|rfl)
    ·exact nw z
    ·rw[hD]at q; cases q
  have q:=it _ H2 sm e2.wl i
  by_cases hlt:i<us.length
  ·rw[List.drop_eq_getElem_cons hlt]at h2
   obtain⟨go,y⟩:=q.2 us[i] (by simp[hlt])
   refine .inr ⟨go,λx H3 yl=>?_⟩
   obtain⟨s3,r3⟩:=y x H3 yl
   have e3:=e2.grow s3
   refine hg (fY t src ρ1 σ F H1 D xs) rfl (λ_=>id) _ ρ2 τ H3 x us[i] _ e3 r3 (Rs.aM (iC (Rs.aH h2) (ng _ _)) λρ4 h σ4 e4 a4=>?_)
   refine hc (fY t src ρ1 σ F H1 D xs) rfl (λ_=>id) _ ρ4 σ4 H3 _ e4 (Rs.aM (Rs.aH h) λb h H5 e5 s5=>?_)
   have je:aY (λb=>W b\/b=D) H2 H5:=(aY.of s3).trans s5
   have n5:∀b o,¬W b->H1 b=some o->H5 b=some o:=λb o nw qb=>by
    have nD:b≠D:=jM qb hD
    refine je.keep b o ?_ (n2 b o nw qb)
    rintro(z|z)
    ·exact nw z
    ·exact nD z
   have a5:∀k,k∉js -> σ4[k]?=(gw src σ)[k]? := λk nk=>(a4 k nk).trans (a2 k nk)
   split at h
   ·rename_i cb
    rw[if_pos cb]
    refine he (fY t src ρ1 σ F H1 D xs) rfl (λ_=>id) _ b.2 σ4 H5 _ e5 (Rs.aM (Rs.aH h) λp h v H6 e6 s6 v6=>?_)
    obtain⟨T,kT,h⟩:=cj (Rs.aH h) (V6 _)
    have rv:Rep t.K (aA (λb=>W b\/b=D) H6) v T:=by
     obtain⟨r,ρ7⟩:=p
     cases r with
     |s i=>cases kT
     |v U fr =>
      cases kT
      exact cY.rep (K:=t.K) e5.wn v6.1
    refine⟨xs,e6.pn D _ pI,Nat.lt_of_le_of_lt (show xs.length<=100000 by omega) (by decide),us.length-(i+1),by omega,rfl,hlt,p.2,xs++[v],acc++[T],e6.V5 (.inr rfl) sV,?_,by rw[List.length_append]; simp; omega,λb o nw q=>?_,a5,?_⟩
    ·rw[lM (.inr rfl)]
     exact(r2.mono (je.trans s6).off).app (.cons rv .nil)
    ·have nD:b≠D:=jM q hD
     rw[aN nD]
     refine s6.keep b o ?_ (n5 b o nw q)
     rintro(z|z)
     ·exact nw z
     ·exact nD z
    ·refine Rs.aM (Rs.aH h) λz h=>?_
     rw[List.append_assoc]
     exact h
   ·rename_i cb
    rw[if_neg cb]
    exact⟨us.length-(i+1),by omega,rfl,hlt,b.2,xs,acc,e5,r2.mono je.off,by omega,n5,a5,h⟩
  ·have z:i=us.length:=by omega
   subst z
   rw[List.drop_length]at h2
   have h2:(if bZ src ρ2 ρ1=true then .ok (.v (.lst (acc++[])) true,bx src ρ2 ρ1)else .bad:Rs (Rv × En)).post t.EX _:=h2
   refine .inl ⟨q.1 rfl,?_⟩
   split at h2
   ·rename_i so
    rw[List.append_nil]at h2
    have hxs:H2 D=some (.lst xs):=e2.pn D _ pI
    have eW:aF t W (bx src ρ2 ρ1) σ H2:=⟨F,cM.leave (Wx:=W) I hD e2 n2 hj a2 so (λ_ w=>w) λ_ w=>.inl w⟩
    have eD:nG t W D (bx src ρ2 ρ1) σ H2:=⟨F,cM.leave (Wx:=λb=>W b\/b=D) I hD e2 n2 hj a2 so (λ_ w=>.inl w) λ_ w=>w,λi ts hi z=>by
     obtain⟨c,ys,_,bs,_,_,ww,_⟩:=cM.dp i ts (j9 I hi)
     exact wD D (ww D z).1 rfl⟩
    have st:aY W H1 H2:=⟨n2,λb q=>by
     cases z:H1 b with
     |none=>rfl
     |some o =>
      by_cases w:W b
      ·exact((e2.wl b (.inl w)).ne q).elim
      ·rw[n2 b o w z]at q
       cases q⟩
    refine h2 (.ref D) H2 eW (s1.trans st) ⟨⟨D,xs,acc,rfl,rfl,s1.dom D hD,hxs,r2.mono λb o q=>?_⟩,λU a _ ea=>?_⟩
    ·obtain⟨nb,q⟩:=fV q
     rw[off_ne λz=>nb (.inr z),cW λz=>nb (.inl z)]
     exact q
    ·cases ea
     exact eD
   ·exact h2.elim
def cG:BF:=λρ=>.ok (true,ρ)
theorem K5{wi:TI}{g:TG}{src:List (Option Nat)}{te:TE}:oR wi g src te=yD wi g src (λ_ H Q=>Q true H) te:=by
 funext σ H Q
 simp only[oR,yD,if_true]
theorem vC{t:Tx}{wi:TI}{g:TG}{src:List (Option Nat)}{te:TE}{fi:IF}{gf:GF}{f:EF}{js:List Nat}(hi:SI t wi fi)(I:Inj src)(hj:∀k j:Nat,src[k]?=some (some j)->k∉js)(ng:∀T ρ c,gf T ρ ≠ .ex c)
  (hg:∀t':Tx,t'.K=t.K->(∀c,¬t'.EX c)->SG t' g gf js) (he:∀t':Tx,t'.K=t.K->(∀c,¬t'.EX c)->SE t' te f):SE t (oR wi g src te) (dg src fi gf cG f):=by
 rw[K5]
 exact V7 hi I hj ng hg (λt' _ _ W ρ σ H Q e h=>h H e (aY.refl _ _)) he
end L2
end
section
namespace L2
open PySem PySem.Spec PyProof.Rows
theorem PS.oH{X:Cx}{st:Stmt}{t:TS}(h:PS X.oH st t):PS X st t:=⟨λpins s σ H D I hw =>
 wpAny_mono (h pins s σ H D (I.wish _) hw) (λ_ _ q=>q.oJ) λ_ _ z=>False.elim z⟩
theorem aF.ex{t:Tx}{EX:Str->Prop}{W:Addr->Prop}{ρ : En}{σ : St}{H:Hp}(e:aF t W ρ σ H):aF {t with EX:=EX } W ρ σ H:=e.elim λF e=>⟨F,e.len,e.zw,e.z0,e.wl,e.f0,e.n0,e.sh,e.ow,e.rf,e.dis,e.pn,e.pd,e.dp,e.dd,e.dm,e.db,⟨e.tab.ok,e.tab.w,e.tab.r,e.tab.B⟩⟩
theorem aF.yG{t:Tx}{EX:Str->Prop}{W:Addr->Prop}{ρ : En}{σ : St}{H:Hp}(e:aF {t with EX:=EX } W ρ σ H):aF t W ρ σ H:=e.elim λF e=>⟨F,e.len,e.zw,e.z0,e.wl,e.f0,e.n0,e.sh,e.ow,e.rf,e.dis,e.pn,e.pd,e.dp,e.dd,e.dm,e.db,⟨e.tab.ok,e.tab.w,e.tab.r,e.tab.B⟩⟩
def gj(f:SF):SF:=λρ=>bM (f ρ)
theorem K6{t:Tx}{ts:TS}{f:SF}(h:∀t':Tx,t'.K=t.K->(∀c,¬t'.EX c)->SS t' ts f):SS t ts (gj f):=λW ρ σ H D e q=>by
 refine h {t with EX:=λ_=>False } rfl (λ_=>id) W ρ σ H D e.ex (Rs.aM (yx q) λp q=>?_)
 obtain⟨fl,ρ'⟩:=p
 cases fl with
 |nx=>exact λW' σ' H' e' n=>q W' σ' H' e'.yG n
 |rt T fr =>
  refine λv W' σ' H' e' n=>q v W' σ' H' e'.yG ?_
  cases fr <;> exact n
 |bk=>exact λW' σ' H' e' n=>q W' σ' H' e'.yG n
 |ct=>exact λW' σ' H' e' n=>q W' σ' H' e'.yG n
theorem V8{p:Int->Int->Int}(a b:Tr)(c:Str):gI p a b ≠ .ex c:=by
 cases a <;> cases b <;> (intro z; cases z)
theorem Df{q:Int->Int->Bool}{p:Int->Int->Int}(a b:Tr)(c:Str):dz q p a b ≠ .ex c:=by
 cases a <;> cases b <;> first|(intro z; cases z; done)|(dsimp only[dz]; split <;> (intro z; cases z))
theorem Dg{p:Int->Int->Bool}(a b:Tr)(c:Str):gB p a b ≠ .ex c:=by
 cases a <;> cases b <;> (intro z; cases z)
theorem V9(a b:Tr)(c:Str):bH a b ≠ .ex c:=by unfold bH; split <;> (intro z; cases z)
theorem Wa(a b:Tr)(c:Str):bN a b ≠ .ex c:=by unfold bN; split <;> (intro z; cases z)
theorem Wb{f:Bool->Bool}(a b:Tr)(c:Str):dY f a b ≠ .ex c:=by
 cases b <;> first|(intro z; cases z; done)|(dsimp only[dY]; split <;> (intro z; cases z))
theorem Wc(a b:Tr)(c:Str):bJ a b ≠ .ex c:=by
 cases a <;> cases b <;> first|(intro z; cases z; done)|(dsimp only[bJ]; split <;> (intro z; cases z))
theorem Wd(a b:Tr)(c:Str):dB a b ≠ .ex c:=by
 cases a <;> cases b <;> first|(intro z; cases z; done)|(dsimp only[dB]; split <;> (intro z; cases z))
theorem Wf(a b:Tr)(c:Str):gA a b ≠ .ex c:=Df a b c
theorem Wg(a b:Tr)(c:Str):cP a b ≠ .ex c:=Df a b c
theorem Wh(a b:Tr)(c:Str):fK a b ≠ .ex c:=Df a b c
theorem Wi(a b:Tr)(c:Str):dD a b ≠ .ex c:=V8 a b c
theorem Wj(a b:Tr)(c:Str):dU a b ≠ .ex c:=Dg a b c
theorem Dh(a b:Tr)(c:Str):cO a b ≠ .ex c:=Dg a b c
theorem Wk(a b:Tr)(c:Str):fL a b ≠ .ex c:=Dg a b c
theorem Wl(a b:Tr)(c:Str):cZ a b ≠ .ex c:=by
 cases a <;> cases b <;> first|(intro z; cases z; done)|(dsimp only[cZ]; split <;> (intro z; cases z))
theorem Wm(a b:Tr)(c:Str):bD a b ≠ .ex c:=by
 cases a <;> cases b <;> first|(intro z; cases z; done)|(dsimp only[bD]; split <;> first|(intro z; cases z; done)|(split <;> (intro z; cases z)))
theorem Wn(a:Tr)(c:Str):j5 a ≠ .ex c:=by cases a <;> (intro z; cases z)
theorem Wq(a:Tr)(c:Str):aW a ≠ .ex c:=by
 cases a <;> first|(intro z; cases z; done)|(dsimp only[aW]; split <;> (intro z; cases z))
theorem Wr(a:Tr)(c:Str):gC a ≠ .ex c:=by cases a <;> (intro z; cases z)
theorem Ws(a:Tr)(c:Str):cU a ≠ .ex c:=by cases a <;> (intro z; cases z)
theorem Wt(a:Tr)(c:Str):jC a ≠ .ex c:=by unfold jC; split <;> (intro z; cases z)
theorem Wu(a b:Tr)(c:Str):fP a b ≠ .ex c:=by cases a <;> cases b <;> (intro z; cases z)
theorem Ww(a b:Tr)(c:Str):fQ a b ≠ .ex c:=by cases a <;> cases b <;> (intro z; cases z)
theorem Wy(a:Tr)(c:Str):c7 a ≠ .ex c:=by
 cases a <;> first|(intro z; cases z; done)|(dsimp only[c7]; split <;> (intro z; cases z))
theorem mO{i:Nat}(T:Tr)(ρ : En)(c:Str):gN i T ρ ≠ .ex c:=by intro z; cases z
theorem Wz(Ts:List Tr)(ρ : En)(c:Str):jD Ts ρ ≠ .ex c:=by cases Ts <;> (intro z; cases z)
theorem WD{f:GF}{g:lU}(h1:∀T ρ c,f T ρ ≠ .ex c)(h2:∀T ρ c,g T ρ ≠ .ex c)(Ts:List Tr)(ρ : En)(c:Str):eH f g Ts ρ ≠ .ex c:=by
 cases Ts with
 |nil=>intro z; cases z
 |cons T r=>exact KH (h1 T ρ) (λρ'=>h2 r ρ') c
theorem WK{n:Nat}{f:lU}(h:∀T ρ c,f T ρ ≠ .ex c)(T:Tr)(ρ : En)(c:Str):gT n f T ρ ≠ .ex c:=by
 cases T <;> first|(intro z; cases z; done)|(dsimp only[gT]; split <;> first|exact h _ _ _|(intro z; cases z))
def sW(f:AF)(n:Nat):Prop:=∀ρ p,f ρ=.ok p->p.1.length=n
theorem gD:sW ao 0:=λρ p h=>by cases h; rfl
theorem eU{f:EF}{g:AF}{n:Nat}(h:sW g n):sW (ak f g) (n+1):=λρ p q=>by
 unfold ak at q
 obtain⟨a,q1,q⟩:=jj q
 obtain⟨b,q2,q⟩:=jj q
 cases q
 rw[List.length_cons,h _ _ q2]
def Gk(K:FZ)(mg:Str->Option Value)(x:Str)(v:V)(T:Tr):Prop:=∃u,mg x=some u/\RelV v u/\∀H,Rep (au K) H v T
theorem WL{X:Cx}{x:Str}{v:V}{T:Tr}{pos:Pos}(h:Gk X.K X.mg x v T)(hg:Gl X x:=by rfl)(hd:(x == ("__debug__" : Str))=false:=by decide):PE X (.Name x pos) (tC v):=by
 obtain⟨u,h1,h2,_⟩:=h
 exact Qu hg h1 h2 hd
theorem yH{t:Tx}{K:FZ}{mg:Str->Option Value}{x:Str}{v:V}{T:Tr}(hK:t.K=au K)(h:Gk K mg x v T):SE t (tC v) (eC T):=by
 obtain⟨u,_,_,h⟩:=h
 exact uX λH=>by rw[hK]; exact h H
end L2
end
section
namespace L2
open PySem PySem.Spec PyProof.Rows
section
variable {t:Tx}{K:FZ}{ta tb tc:TE}{fa fb fc:EF}
theorem WM(hK:t.K=au K)(ha:SE t ta fa)(hb:SE t tb fb):SE t (gq (Cj K) ta tb) (aB bJ fa fb):=jQ (by rw[hK]; exact Uw) Wc ha hb
theorem WQ(hK:t.K=au K)(ha:SE t ta fa)(hb:SE t tb fb):SE t (gq (gG λi j=>.int (i-j)) ta tb) (aB dD fa fb):=jQ (by rw[hK]; exact UJ) Wi ha hb
theorem WR(hK:t.K=au K)(ha:SE t ta fa)(hb:SE t tb fb):SE t (gq (Ck K) ta tb) (aB dB fa fb):=jQ (by rw[hK]; exact Ux (K:=K)) Wd ha hb
theorem WT(hK:t.K=au K)(ha:SE t ta fa)(hb:SE t tb fb):SE t (gq (rI xX λi j=>.int (i.fdiv j)) ta tb) (aB gA fa fb):=jQ (by rw[hK]; exact Uy) Wf ha hb
theorem WW(hK:t.K=au K)(ha:SE t ta fa)(hb:SE t tb fb):SE t (gq (rI (λ_ j=>j≠0) λi j=>.int (i.fmod j)) ta tb) (aB cP fa fb):=jQ (by rw[hK]; exact Uz) Wg ha hb
theorem WX(hK:t.K=au K)(ha:SE t ta fa)(hb:SE t tb fb):SE t (gq (rI Av λi j=>.int (i ^ j.toNat)) ta tb) (aB fK fa fb):=jQ (by rw[hK]; exact UG) Wh ha hb
theorem x_eq(hK:t.K=au K)(ha:SE t ta fa)(hb:SE t tb fb):SE t (gq (Br K) ta tb) (aB bH fa fb):=jQ (by rw[hK]; exact Ut) V9 ha hb
theorem Di(hK:t.K=au K)(ha:SE t ta fa)(hb:SE t tb fb):SE t (gq (Ca K) ta tb) (aB bN fa fb):=jQ (by rw[hK]; exact Uu) Wa ha hb
theorem WY(hK:t.K=au K)(ha:SE t ta fa)(hb:SE t tb fb):SE t (gq (Bs K) ta tb) (aB (dY id) fa fb):=jQ (by rw[hK]; exact Uv) Wb ha hb
theorem x_lt(hK:t.K=au K)(ha:SE t ta fa)(hb:SE t tb fb):SE t (gq (Cq K) ta tb) (aB cZ fa fb):=jQ (by rw[hK]; exact U0) Wl ha hb
theorem W4(hK:t.K=au K)(ha:SE t ta fa)(hb:SE t tb fb):SE t (gq (gG λi j=>.bl (decide (j<i))) ta tb) (aB dU fa fb):=jQ (by rw[hK]; exact UL) Wj ha hb
theorem x_ge(hK:t.K=au K)(ha:SE t ta fa)(hb:SE t tb fb):SE t (gq (gG λi j=>.bl (decide (j<=i))) ta tb) (aB fL fa fb):=jQ (by rw[hK]; exact UW) Wk ha hb
theorem Dj(hK:t.K=au K)(ha:SE t ta fa)(hb:SE t tb fb):SE t (gq (uM K) ta tb) (aB bD fa fb):=jQ (by rw[hK]; exact U3) Wm ha hb
theorem K7(hK:t.K=au K){r r':R2}{g g':G2}(o:fD (au K) r g)(o':fD (au K) r' g')(n:∀a b c,g a b ≠ .ex c)(n':∀a b c,g' a b ≠ .ex c)(ha:SE t ta fa)(hb:SE t tb fb)(hc:SE t tc fc):SE t (wY r r' ta tb tc) (sE g g' fa fb fc):=Ve (by rw[hK]; exact o) (by rw[hK]; exact o') n n' ha hb hc
theorem K8(ha:SE t ta fa):SE t (rH (rU λi=>.int (-i)) ta) (iK j5 fa):=Cu U6 Wn ha
variable {tl:TA}{fl:AF}
theorem x_len(hK:t.K=au K)(ha:SA t tl fl):SE t (iH (Cw K) tl) (bh (g1 aW) fl):=pC (by rw[hK]; exact sH Vk) (sG Wq) ha
theorem W6(hK:t.K=au K)(ha:SA t tl fl):SE t (iH (λxs H Q=>∃i,xs=[.int i]/\Q (.int (if i<0 then -i else i)) H) tl) (bh (g1 gC) fl):=pC (by rw[hK]; exact sH Vl) (sG Wr) ha
theorem K9(hK:t.K=au K)(ha:SA t tl fl):SE t (iH (λxs H Q=>∃p ys,xs=[.ref p]/\(bG K H p ys\/cQ K H p ys)/\∀l,H l=none->Q (.ref l) (upd H l (.lst ys))) tl) (bh (g1 cU) fl):=pC (by rw[hK]; exact sH Vm) (sG Ws) ha
theorem W7(hK:t.K=au K)(ha:SA t tl fl):SE t (iH (BR K) tl) (bh (g1 jC) fl):=pC (by rw[hK]; exact sH Vn) (sG Wt) ha
theorem Dk(hK:t.K=au K)(ha:SA t tl fl):SE t (iH (Bu K) tl) (bh (g1 c7) fl):=pC (by rw[hK]; exact sH Vq) (sG Wy) ha
theorem W8(hK:t.K=au K)(ha:SA t tl fl):SE t (iH (λxs H Q=>∃i j,xs=[.int i,.int j]/\Q (.int (if j<i then j else i)) H) tl) (bh (g2 fP) fl):=pC (by rw[hK]; exact Ko Vo) (Km Wu) ha
theorem W9(hK:t.K=au K)(ha:SA t tl fl):SE t (iH (λxs H Q=>∃i j,xs=[.int i,.int j]/\Q (.int (if j > i then j else i)) H) tl) (bh (g2 fQ) fl):=pC (by rw[hK]; exact Ko Vp) (Km Ww) ha
theorem kh(hK:t.K=au K){cl:Str->Addr}{n:Nat}{F:FP}{E:XK}(hx:∀c H',F0 t H'->t.EX c->E (.ref (cl c)) none H')(hn:sW fl n)(ha:SA t tl fl):SE t (jO (bC K cl n F) [] E tl) (aV F fl):=KD hK hx hn ha
theorem pK(hK:t.K=au K){cl:Str->Addr}{n:Nat}{F:FP}{E:XK}(hx:∀c,¬t.EX c)(hn:sW fl n)(ha:SA t tl fl):SE t (jO (bC K cl n F) [] E tl) (aV F fl):=KD hK (λc H' _ q=>(hx c q).elim) hn ha
theorem Xa(hK:t.K=au K){n r nl:Nat}{b:SF}{E:XK}(hn:sW fl n)(ha:SA t tl fl):SE t (jO (jF K n r (jo nl r b)) [] E tl) (iT r (jo nl r b) fl):=VN hK (KJ nl r b) hn ha
end
end L2
end
section
namespace L2
open PySem PySem.Spec PyProof.Rows
def vD(i:Nat)(ρ : En):Nat:=match ρ[i]? with
 |some (.sh (.int n))=>n.natAbs+1
 |_=>0
theorem sX{src:List (Option Nat)}{js:List Nat}(h:js.all (λk=>(src[k]?).join.isNone)=true):∀k j:Nat,src[k]?=some (some j)->k∉js:=λk j q m=>by
 have:=List.all_eq_true.mp h k m
 rw[q]at this
 cases this
abbrev sY:List Value:=[.type "ValueError",.type "Exception",.type "BaseException",.type "object"]
def yI:G1
 |.lst ts=>.ok (.lst ts.reverse,true)
 |_=>.bad
theorem aC.rev{K:FZ}{H:Hp}:∀{xs:List V} {ts:List Tr},aC K H xs ts->aC K H xs.reverse ts.reverse
 |_,_,.nil=>.nil
 |_,_,.cons h r=>by
  rw[List.reverse_cons,List.reverse_cons]
  exact(aC.rev r).app (.cons h .nil)
theorem Xb(a:Tr)(c:Str):yI a ≠ .ex c:=by cases a <;> (intro z; cases z)
def yJ(fa:EF):EF:=λρ=>(fa ρ).bind λp=>(dr p.2 p.1).bind λa=>(yI a).bind λz=>.ok (.v z.1 z.2,p.2)
theorem Xc{t:Tx}{K:FZ}(hK:t.K=au K){ta:TE}{fa:EF}(ha:SE t ta fa):SE t (J2 K ta (Ba (rH (rU λi=>.int (-i)) (tC (.int 1))))) (yJ fa):=λW ρ σ H Q e h=>by
 refine ha W ρ σ H _ e (Rs.aM (Rs.aH h) λp h x H1 e1 s1 v1=>?_)
 obtain⟨a,k1,h⟩:=cj (Rs.aH h) (gU _ _)
 obtain⟨z,k2,h⟩:=cj (Rs.aH h) (Xb _)
 have rx:=gR e1 e.wn v1.1 k1
 cases a <;> try cases k2
 rename_i ts
 have La:=rx
 rw[hK]at La
 obtain⟨b,xs,rfl,q,r⟩:=La.lst
 refine⟨1,rfl,-1,rfl,rfl,b,xs,rfl,q.toK,λy hy=>h _ _ (e1.grow (dN hy _)) (s1.trans (aY.of (dN hy _))) ?_⟩
 rw[<-hK]at r
 exact(fU.of (σ' := σ) e1 (dN hy _) (cY.new hy r.rev)).back s1.dom
end L2
end
section
namespace L2
open PySem PySem.Spec PyProof.Rows
def qJ(i:Int):TE:=λ_ H Q=>Q (.int i) H
def kI:Const->Option Int
 |.int i=>some i
 |_=>none
def bI(o:Operator)(i j:Int):Option Int:=match o with
 |.Sub=>some (i-j)
 |.Add=>some (i+j)
 |.Pow=>if 0<=j/\j<=100/\i.natAbs<=1000 then some (i ^ j.toNat)else none
 |_=>none
def uI(o:UnaryOp)(i:Int):Option Int:=match o with
 |.USub=>some (-i)
 |_=>none
def cI:Expr->Option Int
 |.Constant c _ _=>kI c
 |.UnaryOp o e _=>(cI e).bind (uI o)
 |.BinOp a o b _=>(cI a).bind λi=>(cI b).bind λj=>bI o i j
 |_=>none
theorem Xd{X:Cx}{c:Const}{k:Nat}{p:Pos}{i:Int}(h:kI c=some i):PE X (.Constant c k p) (qJ i):=by
 cases c <;> first|(cases h; exact aZ)|cases h
theorem Xe{X:Cx}{o:UnaryOp}{e:Expr}{p:Pos}{i k:Int}(h:uI o i=some k)(he:PE X e (qJ i)):PE X (.UnaryOp o e p) (qJ k):=by
 cases o <;> first|(cases h; exact(uF uH he).imp λσ H Q q=>⟨i,rfl,q⟩)|cases h
theorem Xf{X:Cx}{o:Operator}{a b:Expr}{p:Pos}{i j k:Int}(h:bI o i j=some k)(ha:PE X a (qJ i))(hb:PE X b (qJ j)):PE X (.BinOp a o b p) (qJ k):=by
 cases o <;> try cases h
 ·exact(cg Ia ha hb).imp λσ H Q q=>⟨i,j,rfl,rfl,q⟩
 ·exact(cg uG ha hb).imp λσ H Q q=>⟨i,j,rfl,rfl,q⟩
 ·dsimp only[bI]at h
  split at h
  ·rename_i c
   cases h
   have z:(2:Nat) ^ 64=18446744073709551616:=by decide
   exact(cg wX ha hb).imp λσ H Q q=>⟨i,j,rfl,rfl,⟨c.1,by omega,by omega⟩,q⟩
  ·cases h
theorem yK{X:Cx}(e:Expr)(k:Int)(h:cI e=some k):PE X e (qJ k):=by
 cases e with
 |Constant c _ _=>exact Xd h
 |UnaryOp o a _ =>
  have h:(cI a).bind (uI o)=some k:=h
  cases e1:cI a with
  |none=>rw[e1]at h; cases h
  |some i=>rw[e1]at h; exact Xe h (yK a i e1)
 |BinOp a o b _ =>
  have h:((cI a).bind λi=>(cI b).bind λj=>bI o i j)=some k:=h
  cases e1:cI a with
  |none=>rw[e1]at h; cases h
  |some i =>
   cases e2:cI b with
   |none=>rw[e1,e2]at h; cases h
   |some j=>rw[e1,e2]at h; exact Xf h (yK a i e1) (yK b j e2)
 |_=>cases h
def kT:Const->Option Tr
 |.none=>some .non
 |.bool b=>some (.bl b)
 |.str x=>some (.str x)
 |.int i=>some (.int i)
 |_=>none
mutual
noncomputable def cT:Expr->Option Tr
 |.Constant c _ _=>kT c
 |.Tuple es _ _=>(jG es).map .tup
 |.List es _=>(jG es).map .lst
 |.UnaryOp o a p=>(cI (.UnaryOp o a p)).map .int
 |.BinOp a o b p=>(cI (.BinOp a o b p)).map .int
 |_=>none
noncomputable def jG:List Expr->Option (List Tr)
 | []=>some []
 |e::r=>match cT e,jG r with
  |some T,some Ts=>if Ts.length<1000 then some (T::Ts)else none
  |_,_=>none
end
theorem yL:∀{es:List Expr} {Ts:List Tr},jG es=some Ts->Ts.length<=1000
 | [],Ts,h=>by
  unfold jG at h
  cases h
  decide
 |e::r,Ts,h=>by
  unfold jG at h
  split at h
  ·split at h
   ·cases h
    rename_i h1
    rw[List.length_cons]
    omega
   ·cases h
  ·cases h
section
variable {X:Cx}{e:Expr}{es:List Expr}{T:Tr}{Ts:List Tr}{pos:Pos}{k:Nat}{G:FZ}
theorem Xg:PA X [] (rW G []):=aK.imp λσ H Q q=>q [] H (Same.refl _) λ_ _=>.nil
theorem Xh(h:PE X e (oX G T))(r:PA X es (rW G Ts))(hs:starEach (e::es) X.env=(false,eval e X.env)::starEach es X.env):PA X (e::es) (rW G (T::Ts)) :=
 (qj h r hs).imp λσ H Q q v H1 s1 rv vs H2 s2 rs=>q (v::vs) H2 (s1.trans s2) λPr p=>.cons ((rv Pr p).mono (p.mono s2)) (rs Pr (p.le s1))
theorem Lb(h:PA X es (rW G Ts))(hl:Ts.length<=1000):PE X (.Tuple es k pos) (oX G (.tup Ts)) :=
 (wZ h).imp λσ H Q q vs H1 s1 rs=>by
  by_cases hv:vs.length<=sizeLine
  ·exact⟨hv,λa ha=>q (.ref a) _ (s1.trans (dN ha _)) λPr p=>.tup (cQ.of ((p.le s1).new (Same.refl _) ha)) ((rs Pr p).mono (p.mono (dN ha _)))⟩
  ·exact absurd (Nat.le_of_lt (Jw (by rw[(rs _ (Pj.id H)).length]; exact hl))) hv
theorem Ld(h:PA X es (rW G Ts))(hl:Ts.length<=1000):PE X (.List es pos) (xP G Ts) :=
 (w6 h).imp λσ H Q q vs H1 s1 rs=>by
  have e:=(rs _ (Pj.id H)).length
  exact⟨Nat.le_of_lt (Jw (by rw[e]; exact hl)),λa ha=>q a vs H1 s1 ha rs e⟩
theorem Xi(h:PE X e (xP G Ts)):PE X e (oX G (.lst Ts)) :=
 h.imp λσ H Q q a xs H1 s1 ha rs _=>q (.ref a) _ (s1.trans (dN ha _)) λPr p=>.lst (bG.of ((p.le s1).new (Same.refl _) ha)) ((rs Pr p).mono (p.mono (dN ha _)))
theorem Le(h:(cI e).map Tr.int=some T):PE X e (oX G T):=by
 cases e1:cI e with
 |none=>rw[e1]at h; cases h
 |some i =>
  rw[e1]at h; cases h
  exact(yK e i e1).imp λσ H Q q=>q _ H (Same.refl _) λ_ _=>.int i
end
theorem Xj{e:Expr}{es:List Expr}{env:Env}{T:Tr}(h:cT e=some T):starEach (e::es) env=(false,eval e env)::starEach es env:=by
 cases e <;> first|rfl|(unfold cT at h; cases h)
theorem Xk{X:Cx}{G:FZ}{c:Const}{k:Nat}{p:Pos}{T:Tr}(h:kT c=some T):PE X (.Constant c k p) (oX G T):=by
 cases c <;> try cases h
 ·exact rF.imp λσ H Q q=>q _ H (Same.refl _) λ_ _=>.non
 ·exact iG.imp λσ H Q q=>q _ H (Same.refl _) λ_ _=>.bl _
 ·exact aZ.imp λσ H Q q=>q _ H (Same.refl _) λ_ _=>.int _
 ·exact gF.imp λσ H Q q=>q _ H (Same.refl _) λ_ _=>.str _
mutual
theorem Xl{X:Cx}{G:FZ}(e:Expr)(T:Tr)(h:cT e=some T):PE X e (oX G T):=by
 cases e with
 |Constant c _ _=>exact Xk (by unfold cT at h; exact h)
 |Tuple es _ _ =>
  unfold cT at h
  cases e:jG es with
  |none=>rw[e]at h; cases h
  |some Ts =>
   rw[e]at h
   cases h
   exact Lb (vG es Ts e) (yL e)
 |List es _ =>
  unfold cT at h
  cases e:jG es with
  |none=>rw[e]at h; cases h
  |some Ts =>
   rw[e]at h
   cases h
   exact Xi (Ld (vG es Ts e) (yL e))
 |UnaryOp o a p=>exact Le (by unfold cT at h; exact h)
 |BinOp a o b p=>exact Le (by unfold cT at h; exact h)
 |_=>unfold cT at h; cases h
theorem vG{X:Cx}{G:FZ}:∀(es:List Expr) (Ts:List Tr),jG es=some Ts->PA X es (rW G Ts)
 | [],Ts,h=>by
  unfold jG at h; cases h
  exact Xg
 |e::r,Ts,h=>by
  unfold jG at h
  cases e1:cT e with
  |none=>rw[e1]at h; cases h
  |some T =>
   cases e2:jG r with
   |none=>rw[e1,e2]at h; cases h
   |some Us =>
    rw[e1,e2]at h
    dsimp only at h
    split at h
    ·cases h
     exact Xh (Xl e T e1) (vG r Us e2) (Xj e1)
    ·cases h
end
theorem Lf{X:Cx}{G:FZ}{es:List Expr}{pos:Pos}{Ts:List Tr}(h:jG es=some Ts):PE X (.List es pos) (xP G Ts):=Ld (vG es Ts h) (yL h)
theorem Xm{X:Cx}{G:FZ}{es:List Expr}{k:Nat}{pos:Pos}{Ts:List Tr}(h:jG es=some Ts):PE X (.Tuple es k pos) (oX G (.tup Ts)):=Lb (vG es Ts h) (yL h)
end L2
end
section
namespace L2
open PySem PySem.Spec PyProof.Rows
theorem Pj.aA{W:Addr->Prop}{H:Hp}(hw:∀b,W b->H b≠none):Pj (L2.aA W) H where
 mono:=λs=>(aY.of s).off
 sub:=λH=>ig W H
 new:=λ{H' r o} s h=>by
  rw[cW λw=>hw r w (s.free h)]
  exact dh
def yM(Ts:List Tr):EF:=λρ=>.ok (.v (.lst Ts) true,ρ)
theorem Xn{t:Tx}{K:FZ}(hK:t.K=au K){Ts:List Tr}:SE t (xP (au K) Ts) (yM Ts):=λW ρ σ H Q e h=>λa xs H1 s ha r _=>by
 rw[<-hK]at r
 have e1:=e.grow s
 exact h _ _ (e1.grow (dN ha _)) ((aY.of s).trans (aY.of (dN ha _))) ((fU.of (σ' := σ) e1 (dN ha _) (cY.new ha (r _ (Pj.aA e.wn)))).back λb q=>s.free q)
end L2
end
section
namespace L2
open PySem PySem.Spec PyProof.Rows
def vH:Expr->Bool
 |.ListComp .. => false
 |.SetComp .. => false
 |.DictComp .. => false
 |_=>true
theorem Dl{e:Expr}{t:Option Expr}{l:Nat}{env:Env}(h:vH e=true):swapsWith e t l env=pure false:=by
 cases e <;> first|rfl|(unfold vH at h; cases h)
section
variable {X:Cx}{x:Str}{e:Expr}{es:List Expr}{te:TE}{ta:TA}{pos pos' p:Pos}{k:Nat}{ps:List Str}{sp:Sp}{E:XK}
theorem aq(i:Nat)(hN:X.N[i]?=some x:=by kernel_rfl)(hv:X.env.scope.names.lookup x=some .local:=by kernel_rfl)(hd:(x == ("__debug__" : Str))=false:=by kernel_rfl) (hc:(x == ("__classdict__" : Str))=false:=by kernel_rfl):PE X (.Name x pos) (oG i):=G9 hN (.inl hv) hd hc
theorem mQ(i:Nat)(hN:X.N[i]?=some x:=by kernel_rfl)(hv:X.env.scope.names.lookup x=some .cell:=by kernel_rfl)(hd:(x == ("__debug__" : Str))=false:=by kernel_rfl) (hc:(x == ("__classdict__" : Str))=false:=by kernel_rfl):PE X (.Name x pos) (oG i):=G9 hN (.inr (.inl hv)) hd hc
theorem fX(i:Nat)(hN:X.N.Nodup)(he:PE X e te)(hi:X.N[i]?=some x:=by kernel_rfl)(hx:X.env.scope.names.lookup x=some .local:=by kernel_rfl)(h:vH e=true:=by kernel_rfl):PS X (.Assign [.Name x pos'] e pos) (lF te (fH i)):=Hz hN hi (.inl hx) he (Dl h) (.inr hx)
theorem Xo(i:Nat)(hN:X.N.Nodup)(hf:X.fn x=true)(he:PE X e te)(hi:X.N[i]?=some x:=by kernel_rfl)(hx:X.env.scope.names.lookup x=some .cell:=by kernel_rfl)(h:vH e=true:=by kernel_rfl):PS X (.Assign [.Name x pos'] e pos) (lF te (fH i)):=Hz hN hi (.inr hx) he (Dl h) (.inl hf)
theorem psE(he:PE X e te)(h:vH e=true:=by kernel_rfl):PS X (.Expr e pos) (ux te):=Qx he (Dl h)
theorem eV(i:Nat)(hN:X.N.Nodup)(hi:X.N[i]?=some x:=by kernel_rfl)(hx:X.env.scope.names.lookup x=some .local:=by kernel_rfl):PG X (.Name x pos) (fH i):=Qy hN hi (.inl hx) (.inr hx)
theorem Lg(D:aP X.prog X.w X.K X.mg X.base k x ps sp)(hr:fC k X.A)(hx:Passes (iJ X.prog X.w) X E)(ha:PA X (e::es) ta)(hg:X.env.kindOf x=some .globalImplicit:=by kernel_rfl)(hdb:(x == ("__debug__" : Str))=false:=by kernel_rfl)
  (he:notStar e=true:=by kernel_rfl) (hpl:(backTo pos (starEach es X.env)).any (·.1)=false:=by kernel_rfl):PE X (.Call (.Name x p) (e::es) [] pos) (jO sp [] E ta):=VJ D hr hx ha hg hdb (rT he) hpl
theorem gk{r:List V->Hp->VK->Prop}{id:String}(hc:fZ X (.builtin id) r)(hm:X.mg x=none)(ha:PA X (e::es) ta)(hv:bootBuiltins x=some (.builtin id):=by decide +kernel)(hg:X.env.kindOf x=some .globalImplicit:=by kernel_rfl)(hn:x ≠ "__name__" := by decide +kernel) (hdb:(x == ("__debug__" : Str))=false:=by kernel_rfl)
  (he:notStar e=true:=by kernel_rfl) (hpl:(backTo pos (starEach es X.env)).any (·.1)=false:=by kernel_rfl):PE X (.Call (.Name x p) (e::es) [] pos) (iH r ta):=Iv hc hg hm hv ha hn hdb (rT he) hpl
theorem qK{r:List V->Hp->VK->Prop}{T:String}(hc:fZ X (.type T) r)(hm:X.mg x=none)(ha:PA X (e::es) ta)(hv:bootBuiltins x=some (.type T):=by decide +kernel)(hg:X.env.kindOf x=some .globalImplicit:=by kernel_rfl)(hn:x ≠ "__name__" := by decide +kernel) (hdb:(x == ("__debug__" : Str))=false:=by kernel_rfl)
  (he:notStar e=true:=by kernel_rfl) (hpl:(backTo pos (starEach es X.env)).any (·.1)=false:=by kernel_rfl):PE X (.Call (.Name x p) (e::es) [] pos) (iH r ta):=Rf hc hg hm hv ha hn hdb (rT he) hpl
theorem kE(hX:xM X.K)(c:Ty){q:Pos}(he:PE X e te)(h1:X.mg "isinstance" = none) (h2:X.mg x=none) (hb:bootBuiltins x=some (.type c.name):=by decide +kernel) (hg1:X.env.kindOf "isinstance" = some .globalImplicit:=by kernel_rfl) (hg2:X.env.kindOf x=some .globalImplicit:=by kernel_rfl) (hn:x ≠ "__name__" := by decide +kernel) (hd:(x == ("__debug__" : Str))=false:=by kernel_rfl)
  (hs:notStar e=true:=by kernel_rfl):PE X (.Call (.Name "isinstance" p) [e,.Name x q] [] pos) (iH (xK X.K) (gQ te (gQ (tC (.ty c.name)) jf))):=S9 hX c he h1 h2 hb hg1 hg2 hn hd (rT hs)
theorem aG{t:TA}(ha:PE X e te)(hr:PA X es t)(h:notStar e=true:=by kernel_rfl):PA X (e::es) (gQ te t):=qj ha hr (rT h)
theorem yN{v:V}{T:Tr}(h:Gk X.K X.mg x v T)(hg:X.env.kindOf x=some .globalImplicit:=by kernel_rfl)(hd:(x == ("__debug__" : Str))=false:=by kernel_rfl):PE X (.Name x pos) (tC v):=WL h hg hd
theorem yO{a tg:Expr}(hm:X.mg "range" = none) (ha:PA X [a] ta) (hg:X.env.kindOf "range" = some .globalImplicit:=by kernel_rfl) (hs:notStar a=true:=by kernel_rfl):PI X tg (.Call (.Name "range" p) [a] [] pos) (Ao ta):=QJ hg hm ha (rT hs)
end
end L2
end
section
namespace L2
open PySem PySem.Spec PyProof.Rows
section
variable {t:Tx}{W:Addr->Prop}{ρ : En}{σ : St}{H:Hp}
theorem DR.len{K:FZ}{G H:Hp}:∀{xs:List V} {ts:List Tr} {bs:List Addr},DR K G H xs ts bs->xs.length=ts.length
 |_,_,_,.nil=>rfl
 |_,_,_,.cl _ _ r=>by rw[List.length_cons,List.length_cons,r.len]
 |_,_,_,.rw _ _ r=>by rw[List.length_cons,List.length_cons,r.len]
theorem DR.reps{K:FZ}{G G' H:Hp}(m:Same G G'):∀{xs:List V} {ts:List Tr} {bs:List Addr},DR K G H xs ts bs->(∀b ys,b∈bs->H b=some (.lst ys)->G' b=some (.lst ys))->aC K G' xs ts
 |_,_,_,.nil,_=>.nil
 |_,_,_,.cl _ h r,k=>.cons (h.mono m) (DR.reps m r k)
 |_,_,_,.rw h q r,k=>.cons (.lst (bG.of (k _ _ (List.mem_cons_self ..) h)) (q.mono m)) (DR.reps m r λb ys hb=>k b ys (List.mem_cons_of_mem _ hb))
def cH(ρ : En)(i:Nat):Rs (List Tr):=match ρ[i]? with
 |some (.dp ts)=>.ok ts
 |_=>.bad
theorem Lh(ρ : En)(i:Nat)(c:Str):cH ρ i ≠ .ex c:=by
 unfold cH
 split <;> (intro z; cases z)
theorem Li{i:Nat}{ts:List Tr}(h:cH ρ i=.ok ts) : ρ[i]?=some (.dp ts):=by
 unfold cH at h
 split at h
 ·rename_i q; cases h; exact q
 ·cases h
end
end L2
end
section
namespace L2
open PySem PySem.Spec PyProof.Rows
abbrev QF:=En->Rs Tr
section
variable {t:Tx}{K:FZ}
def Xp(i:Nat):QF:=λρ=>match ρ[i]? with
 |some (.sh T)=>.ok T
 |_=>.bad
def qC(T:Tr):QF:=λ_=>.ok T
def mR(ts:List Tr)(k:Tr):Rs (Nat × Tr):=match k with
 | .int i=>(match cR ts.length i with
  | some j=>(match ts[j]? with
   |some u=>.ok (j,u)
   |none=>.bad)
  |none=>.bad)
 |_=>.bad
def Xq(i:Nat)(fk fj:QF):QF:=λρ=>(cH ρ i).bind λts=>(fk ρ).bind λk=>(mR ts k).bind λz=>match z.2 with
 |.lst us=>(fj ρ).bind λj=>(mR us j).bind λy=>.ok y.2
 |_=>.bad
def Xr(i:Nat)(fk:QF)(m:GM)(fa:QF):SF:=λρ=>(cH ρ i).bind λts=>(bM (fk ρ)).bind λk=>(mR ts k).bind λz=>match z.2 with
 |.lst us=>(bM (fa ρ)).bind λT=>(m us [T]).bind λy=>.ok (.nx,ρ.set i (.dp (ts.set z.1 (.lst y.1))))
 |_=>.bad
noncomputable def Xu(i:Nat)(fk fj:QF)(fe:EF):SF:=λρ=>(fe ρ).bind λp=>(bW p.1).bind λT=>(cH p.2 i).bind λts=>(bM (fk p.2)).bind λk=>(mR ts k).bind λz=>match z.2 with
 |.lst us=>(bM (fj p.2)).bind λj=>(mR us j).bind λy=>.ok (.nx,p.2.set i (.dp (ts.set z.1 (.lst (us.set y.1 T)))))
 |_=>.bad
def eX(i:Nat)(ρ : En):En:=match ρ[i]? with
 |some (.dp ts)=>ρ.set i (.ow ts)
 |_=>ρ
def Xv(i:Nat)(f:SF):SF:=λρ=>f (eX i ρ)
end
end L2
end
section
namespace L2
open PySem PySem.Spec PyProof.Rows
open Classical in
def tP(t:Tx)(src:List (Option Nat))(ρ : En)(σ : St)(F:Nat->List Addr)(H1 P:Hp):Tx:=⟨t.K,t.Z,t.R,t.H0,λb=>if P b=none then(if OU src ρ σ F b then H1 b else t.B b)else P b,λ_=>False⟩
section
variable {t:Tx}{src:List (Option Nat)}{ρ1:En}{σ : St}{F:Nat->List Addr}{H1 P:Hp}{D:Addr}{W:Addr->Prop}
theorem jT{b:Addr}{o:HO}(h:P b=some o):(tP t src ρ1 σ F H1 P).B b=some o:=by
 unfold tP
 dsimp only
 rw[if_neg (by rw[h]; intro z; cases z),h]
theorem vI{b:Addr}(h1:P b=none)(h2:¬OU src ρ1 σ F b):(tP t src ρ1 σ F H1 P).B b=t.B b:=by
 unfold tP
 dsimp only
 rw[if_pos h1,if_neg h2]
theorem sZ{b:Addr}(h1:P b=none)(h2:OU src ρ1 σ F b):(tP t src ρ1 σ F H1 P).B b=H1 b:=by
 unfold tP
 dsimp only
 rw[if_pos h1,if_pos h2]
theorem Xw:tP t src ρ1 σ F H1 (upd (λ_=>none) D (.lst []))=fY t src ρ1 σ F H1 D []:=by
 unfold tP fY
 congr 1
 funext b
 by_cases e:b=D
 ·subst e
  rw[dh,if_neg (by intro z; cases z),if_pos rfl]
 ·rw[aN e,if_pos rfl,if_neg e]
theorem EOF.Xx{P:Hp}{ρ : En}{τ : St}{H:Hp}{js:List Nat}(I:Inj src)(cM:EOF t W ρ1 σ H1 F)(hP:∀b,P b≠none->H1 b=none)(e:aF (tP t src ρ1 σ F H1 P) (λb=>W b\/P b≠none) ρ τ H)(nx:∀b o,¬W b->H1 b=some o->H b=some o)
  (hj:∀k j:Nat,src[k]?=some (some j)->k∉js) (ag:∀k,k∉js -> τ[k]?=(gw src σ)[k]?) (so:bZ src ρ ρ1=true):EOF t (λb=>W b\/P b≠none) (bx src ρ ρ1) σ H F:=by
 have w1:∀b,W b->W b\/P b≠none:=λ_ w=>.inl w
 have e1:aF t W ρ1 σ H1:=⟨F,cM⟩
 have m1:Same (aA W H1) (aA (λb=>W b\/P b≠none) H):=λb o h=>by
  obtain⟨n,h⟩:=fV h
  rw[cW]
  ·exact nx b o n h
  ·rintro(z|z)
   ·exact n z
   ·rw[hP b z]at h; cases h
 have m2:Same (aA (λb=>W b\/P b≠none) H) (aA (λb=>W b\/P b≠none) H):=Same.refl _
 have nP:∀b,H1 b≠none->P b=none:=λb n=>by
  cases z:P b with
  |none=>rfl
  |some o=>exact(n (hP b (by rw[z]; intro y; cases y))).elim
 have nR:∀j,Mu (bx src ρ ρ1) j->Mu ρ1 j:=λj m=>by
  obtain⟨ts,m|m⟩:=m <;> rcases j8 I m with⟨k,us,q1,q2,q3⟩|⟨n,q⟩
  ·exact mK ⟨ts,.inl q3⟩
  ·exact⟨ts,.inl q⟩
  ·exact mK ⟨ts,.inr q3⟩
  ·exact⟨ts,.inr q⟩
 have inner:∀(k j:Nat) (ts:List Tr) (a:Addr),src[k]?=some (some j)->(ρ[k]?=some (.ow ts)\/ρ[k]?=some (.rf ts)) -> σ[j]?=some (some (.ref a))->∃ys,H a=some (.lst ys)/\aC t.K (aA (λb=>W b\/P b≠none) H) ys ts:=λk j ts a q1 q2 q3=>by
  have z:=ag k (hj k j q1)
  rw[vA q1 q3]at z
  rcases q2 with q2|q2
  ·obtain⟨c,ys,h1,h2,h3,h4,h5⟩:=e.ow k ts q2
   rw[z]at h1
   cases h1
   exact⟨ys,h4,h5.mono m2⟩
  ·obtain⟨c,ys,h1,h2,h3,h4,h5⟩:=e.rf k ts q2
   rw[z]at h1
   cases h1
   exact⟨ys,h4,h5.mono m2⟩
 have outer:∀(j:Nat) (a:Addr) (ys:List V),Mu ρ1 j->(∀k,src[k]?=some (some j)->¬Mu ρ k) -> σ[j]?=some (some (.ref a))->H1 a=some (.lst ys)->H a=some (.lst ys):=λj a ys m n q h=>by
  have wa:=e1.addr m q
  have nD:P a=none:=nP a (e1.wn a wa)
  refine e.pn a _ ?_
  rw[sZ nD (.inl ⟨j,m,q,λk z=>n k z (yE so z m)⟩)]
  exact h
 refine⟨by rw[pH]; exact e1.len,λb z=>w1 b (e1.zw b z),e1.z0,e.wl,e.f0,e.n0,λj u h=>?_,λj ts h=>?_,λj ts h=>?_,λj k a n1 n2=>e1.dis j k a (nR j n1) (nR k n2),λb o h=>?_,λj a m=>e1.pd j a (nR j m),λj ts h=>?_,λj k ts us n h1 h2=>cM.dd j k ts us n (j9 I h1) (j9 I h2),λj k ts c h1 m q=>cM.dm j k ts c (j9 I h1) (nR k m) q,λj ts h=>cM.db j ts (j9 I h),⟨e.tab.ok,λb z=>w1 b (e1.tab.w b z),e1.tab.r,e1.tab.B⟩⟩
 ·have h' : ρ1[j]?=some (.sh u):=by
   rcases j8 I h with⟨k,us,q1,q2,q3⟩|⟨n,q⟩
   ·rcases mL q3 with⟨ne,_⟩|⟨_,⟨_,_,z⟩|⟨_,_,z⟩|⟨_,q⟩⟩
    ·exact(ne rfl).elim
    ·cases z
    ·cases z
    ·exact q
   ·exact q
  obtain⟨v,q1,q2⟩:=e1.sh j u h'
  exact⟨v,q1,q2.mono m1⟩
 ·rcases j8 I h with⟨k,us,q1,q2,q3⟩|⟨n,q⟩
  ·rcases mL q3 with⟨ne,_⟩|⟨_,⟨ts0,q0,z⟩|⟨_,_,z⟩|⟨nm,q⟩⟩
   ·exact(ne rfl).elim
   ·cases z
    obtain⟨a,ys,h1,h2,h3,h4,h5⟩:=e1.ow j ts0 q0
    obtain⟨zs,k1,k2⟩:=inner k j ts a q1 q2 h1
    exact⟨a,zs,h1,w1 a h2,h3,k1,k2⟩
   ·cases z
   ·exact(nm ⟨ts,.inl q⟩).elim
  ·obtain⟨a,ys,h1,h2,h3,h4,h5⟩:=e1.ow j ts q
   exact⟨a,ys,h1,w1 a h2,h3,outer j a ys ⟨ts,.inl q⟩ n h1 h4,h5.mono m1⟩
 ·rcases j8 I h with⟨k,us,q1,q2,q3⟩|⟨n,q⟩
  ·rcases mL q3 with⟨ne,_⟩|⟨_,⟨_,_,z⟩|⟨ts0,q0,z⟩|⟨nm,q⟩⟩
   ·exact(ne rfl).elim
   ·cases z
   ·cases z
    obtain⟨a,ys,h1,h2,h3,h4,h5⟩:=e1.rf j ts0 q0
    obtain⟨zs,k1,k2⟩:=inner k j ts a q1 q2 h1
    exact⟨a,zs,h1,w1 a h2,h3,k1,k2⟩
   ·exact(nm ⟨ts,.inr q⟩).elim
  ·obtain⟨a,ys,h1,h2,h3,h4,h5⟩:=e1.rf j ts q
   exact⟨a,ys,h1,w1 a h2,h3,outer j a ys ⟨ts,.inr q⟩ n h1 h4,h5.mono m1⟩
 ·have nD:P b=none:=nP b λz=>by
   rw[e1.vh z]at h
   cases h
  have nO:¬OU src ρ1 σ F b:=by
   rintro(⟨j,m,q,_⟩|⟨j,ts,d',z⟩)
   ·rw[e1.pd j b m q]at h
    cases h
   ·rw[cM.db j ts d' b z]at h
    cases h
  refine e.pn b o ?_
  rw[vI nD nO]
  exact h
 ·have hd:=j9 I h
  obtain⟨a,ys,q1,d⟩:=cM.dp j ts hd
  have ww:∀b∈F j,W b:=λb hb=>by obtain⟨_,_,_,ww,_⟩:=d; exact(ww b hb).1
  refine⟨a,ys,q1,d.move rfl rfl m1 (λb hb=>w1 b (ww b hb)) λb o hb q=>?_⟩
  have nD:P b=none:=nP b (e1.wn b (ww b hb))
  refine e.pn b o ?_
  rw[sZ nD (.inr ⟨j,ts,hd,hb⟩)]
  exact q
theorem aF.Xy{ρ : En}{τ : St}{H:Hp}{W':Addr->Prop}{a:Addr}{ys zs:List V}(e0:aF (tP t src ρ1 σ F H1 P) W' ρ τ H)(na:¬W' a)(e:nG (tP t src ρ1 σ F H1 P) W' a ρ τ H)(wD:W' D)(pD:∃o:List V,P D=some (.lst o))(sV:t.H0 D=none)(Lj:t.H0 a=none)(ha:H a=some (.lst ys)) :
  aF (tP t src ρ1 σ F H1 (upd (upd P a (.lst ys)) D (.lst zs))) (λb=>W' b\/b=a) ρ τ (upd H D (.lst zs)):=by
 obtain⟨oD,pD⟩:=pD
 have aD:a≠D:=λz=>na (by rw[z]; exact wD)
 have wa:∀i c,Mu ρ i -> τ[i]?=some (some (V.ref c))->c≠a:=λi c m q z=>na (by rw[<-z]; exact e0.addr m q)
 obtain⟨F2,e,nF⟩:=e
 have Dm:∀i c,Mu ρ i -> τ[i]?=some (some (V.ref c))->c≠D:=λi c m q z=>by
  subst z
  have:=e.pd i c m q
  rw[jT pD]at this
  cases this
 have vB:∀i ts,ρ[i]?=some (Sl.dp ts)->∀b∈F2 i,b≠D:=λi ts h b hb z=>by
  subst z
  have:=e.db i ts h b hb
  rw[jT pD]at this
  cases this
 have Bn:∀c,c≠D->c≠a->(tP t src ρ1 σ F H1 P).B c=none->(tP t src ρ1 σ F H1 (upd (upd P a (.lst ys)) D (.lst zs))).B c=none:=λc h1 h2 z=>by
  have pc:(upd (upd P a (.lst ys)) D (.lst zs)) c=P c:=by rw[aN h1,aN h2]
  cases q:P c with
  |some o=>rw[jT q]at z; cases z
  |none =>
   by_cases ou:OU src ρ1 σ F c
   ·rw[sZ q ou]at z
    rw[sZ (pc.trans q) ou]
    exact z
   ·rw[vI q ou]at z
    rw[vI (pc.trans q) ou]
    exact z
 have w:W' D\/D=a:=.inl wD
 refine⟨F2,e.len,e.zw,e.z0,λb z=>?_,λb o h n=>?_,λb h=>?_,λi u h=>?_,λi ts h=>?_,λi ts h=>?_,e.dis,λb o h=>?_,λi c m q=>Bn c (Dm i c m q) (wa i c m q) (e.pd i c m q),λi ts h=>?_,e.dd,e.dm,λi ts h b hb=>Bn b (vB i ts h b hb) (λz=>nF i ts h (by rw[<-z]; exact hb)) (e.db i ts h b hb),⟨?_,e.tab.w,e.tab.r,λb z=>Bn b (λy=>?_) (λy=>?_) (e.tab.B b z)⟩⟩
 ·by_cases q:b=D
  ·subst q; exact .inl ⟨zs,dh⟩
  ·unfold Lt; rw[aN q]; exact e.wl b z
 ·rw[aN]
  ·exact e.f0 b o h n
  ·rintro rfl
   have h:t.H0 b=some o:=h
   rw[sV]at h
   cases h
 ·by_cases q:b=D
  ·subst q; exact sV
  ·rw[aN q]at h; exact e.n0 b h
 ·rw[lM w]
  exact e.sh i u h
 ·obtain⟨c,vs,q1,q2,q3,q4,q5⟩:=e.ow i ts h
  rw[lM w]
  exact⟨c,vs,q1,q2,q3,by rw[aN (Dm i c ⟨ts,.inl h⟩ q1)]; exact q4,q5⟩
 ·obtain⟨c,vs,q1,q2,q3,q4,q5⟩:=e.rf i ts h
  rw[lM w]
  exact⟨c,vs,q1,q2,q3,by rw[aN (Dm i c ⟨ts,.inr h⟩ q1)]; exact q4,q5⟩
 ·by_cases h1:b=D
  ·subst h1
   rw[jT dh]at h
   rw[dh]
   exact h
  ·rw[aN h1]
   by_cases h2:b=a
   ·subst h2
    rw[jT (by rw[aN h1]; exact dh)]at h
    rw[ha]
    exact h
   ·refine e.pn b o ?_
    have pc:(upd (upd P a (.lst ys)) D (.lst zs)) b=P b:=by rw[aN h1,aN h2]
    cases q:P b with
    |some o'=>rw[jT (pc.trans q)]at h; rw[jT q]; exact h
    |none =>
     by_cases ou:OU src ρ1 σ F b
     ·rw[sZ (pc.trans q) ou]at h; rw[sZ q ou]; exact h
     ·rw[vI (pc.trans q) ou]at h; rw[vI q ou]; exact h
 ·obtain⟨c,vs,q1,d⟩:=e.dp i ts h
  exact⟨c,vs,q1,d.move rfl rfl (by rw[lM w]; exact Same.refl _) (λb hb=>by obtain⟨_,_,_,ww,_⟩:=d; exact(ww b hb).1) λb o hb q=>by rw[aN (vB i ts h b hb)]; exact q⟩
 ·exact e.tab.ok.upd (e.pn D _ (jT pD))
 ·subst y
  have y:=e.tab.B b z
  rw[jT pD]at y
  cases y
 ·subst y
  exact e.tab.ok.ne z ha rfl
theorem EOF.Lk{ρ : En}{H:Hp}{i:Nat}{xs:List V}{ts:List Tr}{bs:List Addr}(e:EOF t W ρ σ H F)(nd:(D::bs).Nodup)(ww:∀b∈D::bs,W b/\t.H0 b=none)(hB:∀b∈D::bs,t.B b=none)(hF:∀(j:Nat) (us:List Tr),ρ[j]?=some (Sl.dp us)->∀b∈D::bs,b∉F j)
  (hM:∀(j:Nat) (c:Addr),Mu ρ j -> σ[j]?=some (some (V.ref c))->c∉D::bs) (ha:H D=some (.lst xs)) (r:DR t.K (aA W H) H xs ts bs):aF t W (ρ.set i (.dp ts)) (σ.set i (some (.ref D))) H:=by
 have jU:∀(j:Nat) (s:Sl),(ρ.set i (.dp ts))[j]?=some s->(j=i/\s=.dp ts/\i < ρ.length)\/(j≠i/\ρ[j]?=some s):=λj s h=>get_set h
 have mu:∀j,Mu (ρ.set i (.dp ts)) j->j≠i/\Mu ρ j:=λj m=>by
  obtain⟨zs,q|q⟩:=m <;> rcases jU _ _ q with⟨_,z,_⟩|⟨n,q⟩
  ·cases z
  ·exact⟨n,zs,.inl q⟩
  ·cases z
  ·exact⟨n,zs,.inr q⟩
 have keep:∀(j:Nat),j≠i->(σ.set i (some (V.ref D)))[j]?=σ[j]? := λj n=>List.getElem?_set_ne (Ne.symm n)
 refine⟨λj=>if j=i then D::bs else F j,by rw[List.length_set,List.length_set]; exact e.len,e.zw,e.z0,e.wl,e.f0,e.n0,λj u h=>?_,λj zs h=>?_,λj zs h=>?_,λj k c m1 m2 q1 q2=>?_,e.pn,λj c m q=>?_,λj zs h=>?_,λj k zs vs n q1 q2=>?_,λj k zs c q1 m q=>?_,λj zs h=>?_,e.tab⟩
 ·rcases jU _ _ h with⟨_,z,_⟩|⟨n,h⟩
  ·cases z
  ·rw[keep j n]; exact e.sh j u h
 ·rcases jU _ _ h with⟨_,z,_⟩|⟨n,h⟩
  ·cases z
  ·rw[keep j n]; exact e.ow j zs h
 ·rcases jU _ _ h with⟨_,z,_⟩|⟨n,h⟩
  ·cases z
  ·rw[keep j n]; exact e.rf j zs h
 ·obtain⟨n1,v1⟩:=mu j m1
  obtain⟨n2,v2⟩:=mu k m2
  rw[keep j n1]at q1
  rw[keep k n2]at q2
  exact e.dis j k c v1 v2 q1 q2
 ·obtain⟨n1,v1⟩:=mu j m
  rw[keep j n1]at q
  exact e.pd j c v1 q
 ·rcases jU _ _ h with⟨y,z,l⟩|⟨n,h⟩
  ·cases z
   subst y
   refine⟨D,xs,qF (by rw[<-e.len]; exact l),?_⟩
   rw[if_pos rfl]
   exact⟨bs,rfl,nd,ww,ha,r⟩
  ·rw[keep j n,if_neg n]
   exact e.dp j zs h
 ·rcases jU _ _ q1 with⟨y1,_,_⟩|⟨n1,q1⟩ <;> rcases jU _ _ q2 with⟨y2,_,_⟩|⟨n2,q2⟩
  ·exact(n (y1.trans y2.symm)).elim
  ·rw[if_pos y1,if_neg n2]
   exact λb hb=>hF k vs q2 b hb
  ·rw[if_neg n1,if_pos y2]
   exact λb hb z=>hF j zs q1 b z hb
  ·rw[if_neg n1,if_neg n2]
   exact e.dd j k zs vs n q1 q2
 ·obtain⟨n2,v2⟩:=mu k m
  rw[keep k n2]at q
  rcases jU _ _ q1 with⟨y1,_,_⟩|⟨n1,q1⟩
  ·rw[if_pos y1]
   exact hM k c v2 q
  ·rw[if_neg n1]
   exact e.dm j k zs c q1 v2 q
 ·rcases jU _ _ h with⟨y1,_,_⟩|⟨n1,q1⟩
  ·rw[if_pos y1]
   exact hB
  ·rw[if_neg n1]
   exact e.db j zs q1
theorem DR.app{K:FZ}{G H:Hp}:∀{xs ys:List V} {ts us:List Tr} {bs cs:List Addr},DR K G H xs ts bs->DR K G H ys us cs->DR K G H (xs++ys) (ts++us) (bs++cs)
 |_,_,_,_,_,_,.nil,s=>s
 |_,_,_,_,_,_,.cl n h r,s=>.cl n h (DR.app r s)
 |_,_,_,_,_,_,.rw h q r,s=>.rw h q (DR.app r s)
end
end L2
end
section
namespace L2
open PySem PySem.Spec PyProof.Rows
def dW:Rv->Rs Tr
 |.v (.lst us) true=>.ok (.lst us)
 |_=>.bad
theorem Xz(r:Rv)(c:Str):dW r ≠ .ex c:=by
 unfold dW
 split <;> (intro z; cases z)
def qL(g:GF)(c:BF)(f:EF):List Tr->En->Rs (List Tr × En)
 | [],ρ=>.ok ([],ρ)
 |u::us,ρ=>(g u ρ).bind λρ1=>(c ρ1).bind λb=>if b.1=true then(f b.2).bind λp=>(dW p.1).bind λT=>(qL g c f us p.2).bind λz=>.ok (T::z.1,z.2)else qL g c f us b.2
def tu(i:Nat)(src:List (Option Nat))(fi:IF)(g:GF)(c:BF)(f:EF):SF:=λρ=>(fi ρ).bind λp=>if p.1.length<=100000 then(bM (qL g c f p.1 (bQ src p.2))).bind λz=>if bZ src z.2 p.2=true then .ok (.nx,(bx src z.2 p.2).set i (.dp z.1))else .bad else .bad
theorem XC{t:Tx}{wi:TI}{g:TG}{src:List (Option Nat)}{tc:TT}{te:TE}{fi:IF}{gf:GF}{c:BF}{f:EF}{js:List Nat}(n:Nat)(hi:SI t wi fi)(I:Inj src)(hj:∀k j:Nat,src[k]?=some (some j)->k∉js)(ng:∀T ρ c,gf T ρ ≠ .ex c)
  (hg:∀t':Tx,t'.K=t.K->(∀c,¬t'.EX c)->SG t' g gf js) (hc:∀t':Tx,t'.K=t.K->(∀c,¬t'.EX c)->ST t' tc c) (he:∀t':Tx,t'.K=t.K->(∀c,¬t'.EX c)->SE t' te f):SS t (lF (yD wi g src tc te) (fH n)) (tu n src fi gf c f):=λW ρ σ H E e h=>by
 refine hi W ρ σ H _ e (Rs.aM (Rs.aH h) λp h J H1 e1 s1 it=>?_)
 obtain⟨us,ρ1⟩:=p
 dsimp only at h it e1
 split at h
 case isFalse=>exact h.elim
 rename_i hlen
 intro D hD
 have h:=yx (Rs.aH h)
 obtain⟨F,cM⟩:=id e1
 have sV:t.H0 D=none:=e1.n0 D hD
 refine⟨λi m τ H'=>m=us.length-i/\i<=us.length/\∃ρ' xs acc bs P,aF (tP t src ρ1 σ F H1 P) (λb=>W b\/P b≠none) ρ' τ H'/\P D=some (.lst xs)/\(∀b,P b≠none↔b∈D::bs)/\(D::bs).Nodup/\DR t.K (aA (λb=>W b\/P b≠none) H') H' xs acc bs/\(∀b∈D::bs,H1 b=none)/\xs.length<=i/\(∀b o,¬W b->H1 b=some o->H' b=some o)/\(∀k,k∉js -> τ[k]?=(gw src σ)[k]?) /\
   (qL gf c f (us.drop i) ρ').post (λ_=>False) (λz=>(if bZ src z.2 ρ1=true then .ok (.nx,(bx src z.2 ρ1).set n (.dp (acc++z.1)))else .bad:Rs (Fl × En)).post t.EX (lQ t W H E)),?_,?_⟩
 ·have hs:(λb=>W b\/(upd (λ_=>none) D (HO.lst []):Hp) b≠none)=λb=>W b\/b=D:=by
   funext b
   by_cases z:b=D
   ·subst z; rw[dh]; simp
   ·rw[aN z]; simp[z]
  refine⟨us.length,by simp,Nat.zero_le _,bQ src ρ1,[],[],[],upd (λ_=>none) D (.lst []),?_,dh,λb=>?_,List.nodup_cons.mpr ⟨by simp,List.nodup_nil⟩,.nil,λb hb=>?_,Nat.le_refl _,λb o _ q=>?_,λ_ _=>rfl,?_⟩
  ·rw[Xw,hs]
   exact cM.enter I hD
  ·by_cases z:b=D
   ·subst z; rw[dh]; simp
   ·rw[aN z]; simp[z]
  ·have:b=D:=by simpa using hb
   rw[this]
   exact hD
  ·rw[aN (jM q hD)]; exact q
  ·rw[List.drop_zero]; exact h
 ·rintro i m τ H2 ⟨rfl,hi,ρ2,xs,acc,bs,P,e2,pD,pb,nd,r2,new,l2,n2,a2,h2⟩
  have wD:W D\/P D≠none:=.inr (by rw[pD]; intro z; cases z)
  have sm:Same (aA W H1) (aA (λb=>W b\/P b≠none) H2):=λb o q=>by
   obtain⟨nw,q⟩:=fV q
   rw[cW]
   ·exact n2 b o nw q
   ·rintro(z|z)
    ·exact nw z
    ·rw[new b ((pb b).mp z)]at q; cases q
  have q:=it _ H2 sm e2.wl i
  by_cases hlt:i<us.length
  ·rw[List.drop_eq_getElem_cons hlt]at h2
   obtain⟨go,y⟩:=q.2 us[i] (by simp[hlt])
   refine .inr ⟨go,λx H3 yl=>?_⟩
   obtain⟨s3,r3⟩:=y x H3 yl
   have e3:=e2.grow s3
   refine hg (tP t src ρ1 σ F H1 P) rfl (λ_=>id) _ ρ2 τ H3 x us[i] _ e3 r3 (Rs.aM (iC (Rs.aH h2) (ng _ _)) λρ4 h σ4 e4 a4=>?_)
   refine hc (tP t src ρ1 σ F H1 P) rfl (λ_=>id) _ ρ4 σ4 H3 _ e4 (Rs.aM (Rs.aH h) λb h H5 e5 s5=>?_)
   have je:aY (λb=>W b\/P b≠none) H2 H5:=(aY.of s3).trans s5
   have n5:∀b o,¬W b->H1 b=some o->H5 b=some o:=λb o nw qb=>by
    refine je.keep b o ?_ (n2 b o nw qb)
    rintro(z|z)
    ·exact nw z
    ·rw[new b ((pb b).mp z)]at qb; cases qb
   have a5:∀k,k∉js -> σ4[k]?=(gw src σ)[k]? := λk nk=>(a4 k nk).trans (a2 k nk)
   have pin:∀{Hx:Hp} {ρx:En} {τx:St},aF (tP t src ρ1 σ F H1 P) (λb=>W b\/P b≠none) ρx τx Hx->∀b o,b∈bs->H2 b=some o->Hx b=some o:=λ{Hx ρx τx} ex b o hb z=>by
    have pe:P b≠none:=(pb b).mpr (List.mem_cons_of_mem _ hb)
    cases zP:P b with
    |none=>exact(pe zP).elim
    |some o' =>
     have z1:=e2.pn b o' (jT zP)
     rw[z1]at z
     rw[<-z]
     exact ex.pn b o' (jT zP)
   split at h
   ·rename_i cb
    rw[if_pos cb]
    refine he (tP t src ρ1 σ F H1 P) rfl (λ_=>id) _ b.2 σ4 H5 _ e5 (Rs.aM (Rs.aH h) λp h v H6 e6 s6 v6=>?_)
    obtain⟨T,kT,h⟩:=cj (Rs.aH h) (Xz _)
    obtain⟨r,ρ7⟩:=p
    have sh:∃vs,r=.v (.lst vs) true/\T=.lst vs:=by
     cases r with
     |s i=>cases kT
     |v U fr =>
      cases U <;> cases fr <;> first|(cases kT; exact⟨_,rfl,rfl⟩)|cases kT
    obtain⟨vs,rfl,rfl⟩:=sh
    obtain⟨⟨a,ys,vs',rfl,ev,na,qa,ra⟩,eh⟩:=v6
    cases ev
    have eh:=eh _ a rfl rfl
    have yP:¬(W a\/P a≠none):=λz=>e5.wn a z na
    have Dn:H2 a=none:=je.dom a na
    have Ln:H1 a=none:=by
     cases z:H1 a with
     |none=>rfl
     |some o=>rw[n2 a o (λw=>yP (.inl w)) z]at Dn; cases Dn
    have aD:a≠D:=λz=>yP (by rw[z]; exact wD)
    have abs:a∉D::bs:=λz=>yP (.inr ((pb a).mpr z))
    have Lj:t.H0 a=none:=e1.n0 a Ln
    have eN:=e6.Xy (zs:=xs++[.ref a]) (D:=D) yP eh wD ⟨_,pD⟩ sV Lj qa
    have ws:(λb=>(W b\/P b≠none)\/b=a)=λb=>W b\/(upd (upd P a (HO.lst ys)) D (HO.lst (xs++[.ref a])):Hp) b≠none:=by
     funext b
     by_cases z1:b=D
     ·subst z1; rw[dh]; simp[wD]
     ·rw[aN z1]
      by_cases z2:b=a
      ·subst z2; rw[dh]; simp
      ·rw[aN z2]; simp[z2]
    rw[ws]at eN
    have mv:Same (aA (λb=>W b\/P b≠none) H2) (aA (λb=>W b\/(upd (upd P a (HO.lst ys)) D (HO.lst (xs++[.ref a])):Hp) b≠none) (upd H6 D (.lst (xs++[.ref a])))):=λb o z=>by
     obtain⟨nb,z⟩:=fV z
     have b1:b≠D:=λy=>nb (by rw[y]; exact wD)
     have b2:b≠a:=jM z Dn
     rw[cW]
     ·rw[aN b1]
      exact s6.keep b o nb (je.keep b o nb z)
     ·rw[aN b1,aN b2]
      exact nb
    refine⟨xs,e6.pn D _ (jT pD),Nat.lt_of_le_of_lt (show xs.length<=100000 by omega) (by decide),us.length-(i+1),by omega,rfl,hlt,ρ7,xs++[.ref a],acc++[.lst vs],bs++[a],_,eN,dh,λb=>?_,?_,?_,λb hb=>?_,by rw[List.length_append]; simp; omega,λb o nw q=>?_,a5,?_⟩
    ·by_cases z1:b=D
     ·subst z1; rw[dh]; simp
     ·rw[aN z1]
      by_cases z2:b=a
      ·subst z2; rw[dh]; simp
      ·rw[aN z2,pb b]; simp[z1,z2]
    ·rw[<-List.cons_append]
     exact List.nodup_append.mpr ⟨nd,by simp,λx hx y hy z=>by
      have:y=a:=by simpa using hy
      subst this
      subst z
      exact abs hx⟩
    ·refine DR.app (r2.move mv λb o hb z=>?_) (.rw (by rw[aN aD]; exact qa) (ra.mono λb o z=>?_) .nil)
     ·have b1:b≠D:=λy=>by
       subst y
       exact(List.nodup_cons.mp nd).1 hb
      rw[aN b1]
      exact pin e6 b o hb z
     ·obtain⟨b2,z⟩:=oW z
      obtain⟨nb,z⟩:=fV z
      have b1:b≠D:=λy=>nb (by rw[y]; exact wD)
      rw[cW]
      ·rw[aN b1]; exact z
      ·rw[aN b1,aN b2]; exact nb
    ·rw[<-List.cons_append,List.mem_append]at hb
     rcases hb with hb|hb
     ·exact new b hb
     ·have:b=a:=by simpa using hb
      rw[this]; exact Ln
    ·have nD:b≠D:=jM q hD
     rw[aN nD]
     refine s6.keep b o ?_ (n5 b o nw q)
     rintro(z|z)
     ·exact nw z
     ·rw[new b ((pb b).mp z)]at q; cases q
    ·refine Rs.aM (Rs.aH h) λz h=>?_
     rw[List.append_assoc]
     exact h
   ·rename_i cb
    rw[if_neg cb]
    exact⟨us.length-(i+1),by omega,rfl,hlt,b.2,xs,acc,bs,P,e5,pD,pb,nd,r2.move je.off (pin e5),new,by omega,n5,a5,h⟩
  ·have z:i=us.length:=by omega
   subst z
   rw[List.drop_length]at h2
   have h2:(if bZ src ρ2 ρ1=true then .ok (.nx,(bx src ρ2 ρ1).set n (.dp (acc++[])))else .bad:Rs (Fl × En)).post t.EX _:=h2
   refine .inl ⟨q.1 rfl,?_⟩
   split at h2
   ·rename_i so
    rw[List.append_nil]at h2
    have eW:=cM.Xx I (λb z=>new b ((pb b).mp z)) e2 n2 hj a2 so
    have XD:∀j,Mu (bx src ρ2 ρ1) j->Mu ρ1 j:=λj m=>by
     obtain⟨ts,m|m⟩:=m <;> rcases j8 I m with⟨k,us,q1,q2,q3⟩|⟨n,q⟩
     ·exact mK ⟨ts,.inl q3⟩
     ·exact⟨ts,.inl q⟩
     ·exact mK ⟨ts,.inr q3⟩
     ·exact⟨ts,.inr q⟩
    refine h2 _ _ H2 (eW.Lk (bs:=bs) nd (λb hb=>⟨.inr ((pb b).mpr hb),e1.n0 b (new b hb)⟩) (λb hb=>e1.vh (new b hb)) (λj us hj b hb z=>?_) (λj c m q z=>?_) (e2.pn D _ (jT pD)) r2) λb o nb hb=>?_
    ·obtain⟨c,ys,_,cs,_,_,ww,_⟩:=cM.dp j us (j9 I hj)
     exact e1.wn b (ww b z).1 (new b hb)
    ·exact e1.wn c (e1.addr (XD j m) q) (new c z)
    ·have hb1:=s1.keep b o nb hb
     refine⟨?_,n2 b o nb hb1⟩
     rintro(z|z)
     ·exact nb z
     ·rw[new b ((pb b).mp z)]at hb1; cases hb1
   ·exact h2.elim
theorem XF{t:Tx}{wi:TI}{g:TG}{src:List (Option Nat)}{te:TE}{fi:IF}{gf:GF}{f:EF}{js:List Nat}(n:Nat)(hi:SI t wi fi)(I:Inj src)(hj:∀k j:Nat,src[k]?=some (some j)->k∉js)(ng:∀T ρ c,gf T ρ ≠ .ex c)
  (hg:∀t':Tx,t'.K=t.K->(∀c,¬t'.EX c)->SG t' g gf js) (he:∀t':Tx,t'.K=t.K->(∀c,¬t'.EX c)->SE t' te f):SS t (lF (oR wi g src te) (fH n)) (tu n src fi gf cG f):=by
 rw[K5]
 exact XC n hi I hj ng hg (λt' _ _ W ρ σ H Q e h=>h H e (aY.refl _ _)) he
end L2
end
section
namespace L2
open PySem PySem.Spec PyProof.Rows
variable {t:Tx}
def kJ(us vs:List Tr):List Tr:=(us.zip vs).map λp=>.tup [p.1,p.2]
theorem XH{K:FZ}{W:Addr->Prop}{H:Hp}{a b:Addr}{xs ys:List V}{us vs:List Tr}(q1:bG (au K) (aA W H) a xs)(r1:aC (au K) (aA W H) xs us)(q2:bG (au K) (aA W H) b ys)(r2:aC (au K) (aA W H) ys vs):sO (au K) W H (BX K a b) (kJ us vs):=λW' H' m hw i=>by
 have Dp:bG K H' a xs:=((ig W' H').seq (m.seq q1)).toK
 have Dq:bG K H' b ys:=((ig W' H').seq (m.seq q2)).toK
 refine⟨λz=>⟨xs,ys,Dp,Dq,by rw[r1.length,r2.length,z]; simp[kJ]⟩,λu hu=>?_⟩
 unfold kJ at hu
 rw[List.getElem?_map]at hu
 obtain⟨p,hp,rfl⟩:=Option.map_eq_some_iff.mp hu
 obtain⟨h1,h2⟩:=List.getElem?_zip_eq_some.mp hp
 obtain⟨x,hx,rx⟩:=r1.o9 h1
 obtain⟨y,hy,ry⟩:=r2.o9 h2
 refine⟨⟨xs,ys,x,y,Dp,Dq,hx,hy⟩,λv gJ yl=>?_⟩
 obtain⟨T,x',y',rfl,fT,rfl,z⟩:=yl
 obtain⟨z1,z2⟩:=z xs ys Dp Dq
 rw[hx]at z1
 rw[hy]at z2
 cases z1
 cases z2
 have nW:¬W' T:=λw=>(hw T w).ne fT
 have sm:Same H' (upd H' T (.tup [x,y])):=dN fT _
 have so:Same (aA W' H') (aA W' (upd H' T (.tup [x,y]))):=λb u q=>(Ce (o:=.tup [x,y]) fT b u q |> λz=>(BZ _ _ b u z))
 refine⟨sm,.tup (xs:=[x,y]) (.inl (.inl ?_)) (.cons ((rx.mono m).mono so) (.cons ((ry.mono m).mono so) .nil))⟩
 unfold aA
 rw[if_neg nW,dh]
def mU(fa:AF):IF:=λρ=>(fa ρ).bind λp=>match p.1 with
 | [.v (.lst us) _,.v (.lst vs) _]=>.ok (kJ us vs,p.2)
 |_=>.bad
theorem XJ{K:FZ}(hK:t.K=au K){ta:TA}{fa:AF}(ha:SA t ta fa):SI t (J0 K ta) (mU fa):=λW ρ σ H R e h=>by
 refine ha W ρ σ H _ e (Rs.aM (Rs.aH h) λp h vs H1 e1 s1 v1=>?_)
 split at h
 ·rename_i us _ ws _ ep
  rw[ep]at v1
  cases v1 with
  |cons h1 r1 =>
   cases r1 with
   |cons h2 r2 =>
    cases r2
    have h1:=h1.rep e.wn
    have h2:=h2.rep e.wn
    rw[hK]at h1 h2
    cases h1 with
    |lst q1 p1 =>
     cases h2 with
     |lst q2 p2 =>
      refine⟨_,_,rfl,⟨_,((ig _ _).seq q1).toK⟩,⟨_,((ig _ _).seq q2).toK⟩,h _ H1 e1 s1 ?_⟩
      rw[hK]
      exact XH q1 p1 q2 p2
 ·exact h.elim
end L2
end
section
namespace L2
open PySem PySem.Spec PyProof.Rows
section
variable {K:FZ}
end
end L2
end
section
namespace L2
open PySem PySem.Spec PyProof.Rows
section
variable {kf:Value->Int × Int}
def q1(kf:Value->Int × Int)(xs:Array Keyed)(i:Nat):Int:=match xs[i]? with|some p=>(kf p.1).1|none=>0
def q2(kf:Value->Int × Int)(xs:Array Keyed)(i:Nat):Int:=match xs[i]? with|some p=>(kf p.1).2|none=>0
def qr(xs:Array Keyed)(i:Nat):Int:=match xs[i]? with|some p=>numOf p.2|none=>0
def Kl(kf:Value->Int × Int)(xs:Array Keyed)(i j:Nat):Prop:=q1 kf xs i<q1 kf xs j\/(q1 kf xs i=q1 kf xs j/\q2 kf xs i<q2 kf xs j)
instance {kf:Value->Int × Int}{xs:Array Keyed}{i j:Nat}:Decidable (Kl kf xs i j):=by unfold Kl; infer_instance
def Ke(kf:Value->Int × Int)(xs:Array Keyed)(i j:Nat):Prop:=q1 kf xs i=q1 kf xs j/\q2 kf xs i=q2 kf xs j
def Lq(kf:Value->Int × Int)(xs:Array Keyed)(i j:Nat):Prop:=Kl kf xs i j\/(Ke kf xs i j/\qr xs i<qr xs j)
def Lp(kf:Value->Int × Int)(xs:Array Keyed)(m:Nat):Prop:=∀i j,i<j->j<m->Lq kf xs j i
end
section
variable {prog:Program}{w:World}{A:Around}{E:Value->Shared->Prop}{s:Shared}{N:Nat}{kd:SortKind}{kf:Value->Int × Int}
structure SB(a₀ : Array Keyed)(kd:SortKind)(st:SortSt):Prop where
 pm:(arrOf st).Perm a₀
 kn:kindOf st=kd
 fl:failedOf st=none
 pd:pendingOf st = #[]
noncomputable def Asks(prog:Program)(w:World)(A:Around)(E:Value->Shared->Prop)(s:Shared)(a₀ : Array Keyed)(kd:SortKind)(kf:Value->Int × Int):Prop :=
 ∀(st:SortSt) (i j:Nat) (Q:Option Bool->SortSt->Prop),SB a₀ kd st->i<a₀.size->j<a₀.size->Q (some (decide (Kl kf (arrOf st) i j))) st->wpS (model prog w) A E s (ltAt' i j) Q st
variable {a₀ : Array Keyed}(ask:Asks prog w A E s a₀ kd kf)
include ask
end
end L2
end
section
namespace L2
open PySem PySem.Spec PyProof.Rows PySem.W
section
variable {X:Cx}{pins:List (Addr × Obj)}{σ : St}{H:Hp}{s:Shared}
end
section
variable {X:Cx}
end
section
variable {X:Cx}{pins:List (Addr × Obj)}{σ : St}{H:Hp}{s:Shared}{Kv:Hp->Value->Int × Int->Prop}{kd:SortKind}{a kS:Addr}{n:Nat}{kz:Nat->Int × Int}{vs:List Value}
end
end L2
end
section
namespace L2
open PySem PySem.Spec PyProof.Rows PySem.W
section
variable {X:Cx}{pins:List (Addr × Obj)}{σ : St}{H:Hp}{s:Shared}{Kv:Hp->Value->Int × Int->Prop}{kd:SortKind}{n:Nat}{kz:Nat->Int × Int}{vs:List Value}{f:Value}
end
end L2
end
section
namespace L2
open PySem PySem.Spec PyProof.Rows PySem.W
section
variable {X:Cx}{pins:List (Addr × Obj)}{σ : St}{H:Hp}{s:Shared}{sc scope:Scope}{No Ns:List Str}{src:List (Option Nat)}{x qual:Str}
end
end L2
end
section
namespace L2
open PySem PySem.Spec PyProof.Rows PySem.W
def vJ(mg:Str→Option Value)(base:Heap):Prop:=∃bm ob,mg "__builtins__" = some (.ref bm)∧bm≠builtinsNs∧bm≠mainGlobals∧base.get? bm=some ob∧ob.cls=.type "module" ∧ ob.dict=some builtinsNs∧ob.data=.plain
section
variable {X:Cx}{pins:List (Addr × Obj)}{σ : St}{H:Hp}{s:Shared}{sc scope:Scope}{No Ns:List Str}{src:List (Option Nat)}{x:Str}
end
end L2
end
section
namespace L2
open PySem PySem.Spec PyProof.Rows PySem.W
abbrev KW:=Hp->V->Int × Int->Prop
section
variable {X:Cx}{sc scope:Scope}{No Ns:List Str}{src:List (Option Nat)}{x:Str}{Kw:KW}{kd:SortKind}
end
end L2
end
section
namespace L2
open PySem PySem.Spec PyProof.Rows PySem.W
def Dr(kz:Nat->Int × Int)(i j:Nat):Prop:=((kz i).1<(kz j).1\/((kz i).1=(kz j).1/\(kz i).2<(kz j).2))\/(((kz i).1=(kz j).1/\(kz i).2=(kz j).2)/\i<j)
instance {kz:Nat->Int × Int}{i j:Nat}:Decidable (Dr kz i j):=by unfold Dr; infer_instance
def yQ(kz:Nat->Int × Int)(i:Nat):List Nat->List Nat
 | []=>[i]
 |j::r=>if Dr kz i j then i::j::r else j::yQ kz i r
def Lr(n:Nat)(kz:Nat->Int × Int):List Nat:=(List.range n).foldr (yQ kz) []
theorem XM(kz:Nat->Int × Int)(i:Nat):∀l,(yQ kz i l).Perm (i::l)
 | []=>.refl _
 |j::r=>by
  unfold yQ
  split
  ·exact .refl _
  ·exact((XM kz i r).cons j).trans (.swap i j r)
abbrev RF:=List (Option Tr)->Rs Tr
section
variable {K:FZ}{ta tb:TE}{fa fb:RF}
end
def XQ(ρ : En)(j:Nat):Option Tr:=match ρ[j]? with
 |some (.sh T)=>some T
 |some (.ow ts)=>some (.lst ts)
 |some (.rf ts)=>some (.lst ts)
 |_=>none
def Ls(src:List (Option Nat))(ρ : En):List (Option Tr):=src.map λo=>o.bind (XQ ρ)
def Ds(kt:Tr->Option (Int × Int))(fb:RF)(ts:List (Option Tr)):List Nat->Rs (List (Int × Int))
 | []=>.ok []
 |i::r=>(fb (some (Tr.int i)::ts)).bind λT=>match kt T with
  |some k=>(Ds kt fb ts r).bind λks=>.ok (k::ks)
  |none=>.bad
noncomputable def XR(kt:Tr->Option (Int × Int))(src:List (Option Nat))(fa:AF)(fb:RF):EF:=λρ=>(fa ρ).bind λp=>match p.1 with
 | [.v (.int n) _]=>if 0<=n/\n<64 then(bM (Ds kt fb (Ls src p.2) (List.range n.toNat))).bind λks=>.ok (.v (.lst ((Lr n.toNat λi=>ks.getD i (0,0)).map λi:Nat=>Tr.int i)) true,p.2)else .bad
 |_=>.bad
end L2
end
section
namespace L2
open PySem PySem.Spec PyProof.Rows PySem.W
section
variable {P:Program}{w:World}{K:FZ}{mg:Str->Option Value}{base:Heap}
end
theorem Dt{o:Obj}{d:Data}(h:(fJ o).data=d)(n:d ≠ .fields #[]):fJ o=o:=by
 unfold fJ at h ⊢
 split at h
 ·exact(n h.symm).elim
 ·rename_i q
  rw[if_neg q]
theorem XS{K:FZ}{x:Str}{z:Addr × Addr}(h:tabIn (au K) x=some z):tabIn K x=some z:=by
 unfold tabIn at h
 split at h
 ·rename_i f hf
  have g1:nsIn K mainGlobals x=some (some (.ref f)):=by
   unfold nsIn at hf
   rw[o8]at hf
   cases e:K.lookup mainGlobals with
   |none=>rw[e]at hf; cases hf
   |some o =>
    rw[e]at hf
    unfold nsIn
    rw[e]
    have q:fJ o=o:=by
     dsimp only[Option.map]at hf
     split at hf
     ·rename_i a b es ep c eq
      have eq:fJ o=⟨a,b,.dict es ep,c⟩:=Option.some.inj eq
      exact Dt (d:=.dict es ep) (by rw[eq]) (by intro z; cases z)
     ·cases hf
    dsimp only[Option.map]at hf
    rw[q]at hf
    exact hf
  split at h
  ·rename_i a b fd osl hfo
   have g2:K.lookup f=some ⟨a,b,.func fd,osl⟩:=by
    rw[o8]at hfo
    cases e:K.lookup f with
    |none=>rw[e]at hfo; cases hfo
    |some o =>
     rw[e]at hfo
     have eq:fJ o=⟨a,b,.func fd,osl⟩:=Option.some.inj hfo
     rw[Dt (d:=.func fd) (by rw[eq]) (by intro z; cases z)]at eq
     rw[eq]
   split at h
   ·rename_i c hc
    split at h
    ·rename_i a' b' vs Lw hco
     split at h
     ·rename_i Pp hv
      cases h
      have g3:K.lookup c=some ⟨a',b',.fields vs,Lw⟩:=by
       rw[o8]at hco
       cases e:K.lookup c with
       |none=>rw[e]at hco; cases hco
       |some o =>
        rw[e]at hco
        have eq:fJ o=⟨a',b',.fields vs,Lw⟩:=Option.some.inj hco
        rw[Dt (d:=.fields vs) (by rw[eq]) (by intro z; injection z with z; subst z; simp at hv)]at eq
        rw[eq]
      unfold tabIn
      rw[g1]
      dsimp only
      rw[g2]
      dsimp only
      rw[hc]
      dsimp only
      rw[g3]
      dsimp only
      rw[hv]
     ·cases h
    ·cases h
   ·cases h
  ·cases h
 ·cases h
theorem X3{K:FZ}{x:Str}(a:nsIn K mainGlobals x=some none):tabIn K x=none:=by
 unfold tabIn
 rw[a]
end L2
end
section
namespace L2
open PySem PySem.Spec PyProof.Rows PySem.W
section
variable {X:Cx}
end
def X4(fa:AF):EF:=λρ=>(fa ρ).bind λp=>match p.1 with
 | [.v (.int n) _]=>if 0<=n/\n<=1000 then .ok (.v (.lst ((List.range n.toNat).map λi:Nat=>Tr.int i)) true,p.2)else .bad
 |_=>.bad
end L2
end
section
namespace L2
open PySem PySem.Spec PyProof.Rows
section
variable {t:Tx}{K:FZ}
theorem EOF.past{W W2:Addr->Prop}{ρ : En}{σ : St}{H H1 H':Hp}{a:Addr}{F:Nat->List Addr}(e0:aF t W ρ σ H1)(e:EOF t (λb=>W b\/b=a) ρ σ H1 F)(nF:∀(i:Nat) (ts:List Tr),ρ[i]?=some (Sl.dp ts)->a∉F i)(na:t.H0 a=none)(wa:¬W a)(hB:t.B a=none)
  (fr:∀b o,H1 b=some o->b≠a->¬Tb t.K b->H' b=some o) (tb:dw t.K H') (dm:∀b,H' b=none->H1 b=none) (w1:∀b,W b->W2 b) (w2:∀b,W2 b->W b\/(H1 b=none/\∃xs,H' b=some (.lst xs))) (hx:∃xs,H1 a=some (.lst xs)):EOF t W2 ρ σ H' F:=by
 have nt:∀{c:Addr} {ys:List V},H1 c=some (.lst ys)->¬Tb t.K c:=λq z=>e.tab.ok.ne z q rfl
 have m:Same (aA (λb=>W b\/b=a) H1) (aA W2 H'):=λb o h=>by
  obtain⟨n,h⟩:=fV h
  rw[cW]
  ·exact fr b o h (λz=>n (.inr z)) λz=>n (.inl (e0.tab.w b z))
  ·intro z
   rcases w2 b z with z|⟨z,_⟩
   ·exact n (.inl z)
   ·rw[h]at z; cases z
 have ne:∀c,W c->c≠a:=λc w z=>wa (by rw[<-z]; exact w)
 refine⟨e.len,λb z=>w1 b (e0.zw b z),e.z0,λb w=>?_,λb o h n=>fr b o (e.f0 b o h n) (λz=>by rw[z,na]at h; cases h) λz=>n (e.tab.r b z),λb h=>e.n0 b (dm b h),λi u h=>?_,λi ts h=>?_,λi ts h=>?_,e.dis,λb o h=>fr b o (e.pn b o h) (λz=>by rw[z,hB]at h; cases h) λz=>(by rw[e.tab.B b z]at h; cases h),e.pd,λi ts h=>?_,e.dd,e.dm,e.db,⟨tb,λb z=>w1 b (e0.tab.w b z),e.tab.r,e.tab.B⟩⟩
 ·rcases w2 b w with w|⟨_,w⟩
  ·by_cases z:Tb t.K b
   ·exact .inr (tb.dM z)
   ·rcases e0.wl b w with⟨xs,q⟩|⟨ps,q⟩
    ·exact .inl ⟨xs,fr b _ q (ne b w) z⟩
    ·exact .inr ⟨ps,fr b _ q (ne b w) z⟩
  ·exact .inl w
 ·obtain⟨v,h1,h2⟩:=e.sh i u h
  exact⟨v,h1,h2.mono m⟩
 ·obtain⟨c,xs,h1,h2,h3,h4,h5⟩:=e.ow i ts h
  have wc:W c:=e0.addr ⟨ts,.inl h⟩ h1
  exact⟨c,xs,h1,w1 c wc,h3,fr c _ h4 (ne c wc) (nt h4),h5.mono m⟩
 ·obtain⟨c,xs,h1,h2,h3,h4,h5⟩:=e.rf i ts h
  have wc:W c:=e0.addr ⟨ts,.inr h⟩ h1
  exact⟨c,xs,h1,w1 c wc,h3,fr c _ h4 (ne c wc) (nt h4),h5.mono m⟩
 ·obtain⟨c,xs,h1,d⟩:=e.dp i ts h
  have ww:∀b∈F i,W b/\b≠a:=λb hb=>by
   have nb:b≠a:=λz=>nF i ts h (by rw[<-z]; exact hb)
   obtain⟨_,_,_,ww,_⟩:=d
   exact⟨(ww b hb).1.resolve_right nb,nb⟩
  exact⟨c,xs,h1,d.move rfl rfl m (λb hb=>w1 b (ww b hb).1) λb o hb q=>fr b o q (ww b hb).2 λz=>d.nt e.tab.ok z hb⟩
def vK(F:FR)(fa:EF):EF:=λρ=>(fa ρ).bind λp=>match p.1 with
 |.v (.lst us) true=>(F [.lst us]).bind λz=>.ok (.v z.1.1 z.1.2,p.2)
 |_=>.bad
theorem X5(hK:t.K=au K){F:FR}{E:XK}{ta:TE}{fa:EF}(nF:∀as c,F as ≠ .ex c)(ha:SE t ta fa):SE t (jO (jF K 1 0 F) [] E (gQ ta jf)) (vK F fa):=λW ρ σ H Q e h=>by
 refine ha W ρ σ H _ e (Rs.aM (Rs.aH h) λp h v H1 e1 s1 v1=>?_)
 obtain⟨r,ρ1⟩:=p
 dsimp only at h e1 v1
 split at h
 case h_2=>exact h.elim
 rename_i us
 obtain⟨z,k2,h⟩:=cj (Rs.aH h) (nF _)
 obtain⟨⟨a,xs,ts,rfl,ev,na,qa,ra⟩,eh⟩:=v1
 cases ev
 have eh:=eh _ a rfl rfl
 obtain⟨Fa,eF,X6⟩:=eh
 have wa:¬W a:=λw=>e.wn a w na
 have n0:t.H0 a=none:=e.n0 a na
 have nB:t.B a=none:=by
  cases q:t.B a with
  |none=>rfl
  |some o=>have:=e.pn a o q; rw[na]at this; cases this
 show jF K 1 0 F ([V.ref a]++[]) H1 Q E
 refine⟨λb=>W b\/b=a,[.lst us],a,xs,us,rfl,rfl,rfl,rfl,.inr rfl,qa,?_,λj v u n q1 q2=>?_,λb w=>eF.wl b w,by rw[<-hK]; exact e1.tab.ok,?_⟩
 ·rw[<-hK]
  refine ra.mono λb o q=>?_
  obtain⟨n1,q⟩:=oW q
  obtain⟨n2,q⟩:=fV q
  rw[cW]
  ·exact q
  ·rintro(z|z)
   ·exact n2 z
   ·exact n1 z
 ·cases j with
  |zero=>exact(n rfl).elim
  |succ j=>simp at q1
 ·rw[k2]
  intro v H' ys fr tb dm hy ry vr
  rw[<-hK]at ry vr fr tb
  have past:∀W2:Addr->Prop,(∀b,W b->W2 b)->(∀b,W2 b->W b\/(H1 b=none/\∃xs,H' b=some (.lst xs)))->EOF t W2 ρ1 σ H' Fa:=λW2 w1 w2=>eF.past (H:=H) e1 X6 n0 wa nB fr tb dm w1 w2 ⟨xs,qa⟩
  have e2:aF t W ρ1 σ H':=⟨Fa,past W (λ_ w=>w) λ_ w=>.inl w⟩
  have st:aY W H H':=⟨λb o n q=>fr b o (s1.keep b o n q) (λz=>by rw[z,na]at q; cases q) λz=>n (e.tab.w b z),λb q=>s1.dom b (dm b q)⟩
  have nW:∀b,W b->H1 b≠none:=e1.wn
  refine h v H' e2 st (fU.back (H:=H1) ?_ s1.dom)
  refine pG.CQ (W0:=W) (z:=z.1) nW e2.wl (.inl λb w=>.inl w) vr λ_ b zs nb qb=>⟨Fa,past _ (λ_ w=>.inl w) (λc w=>?_),λj us hj zj=>?_⟩
  ·rcases w with w|rfl
   ·exact .inl w
   ·exact .inr ⟨nb,zs,qb⟩
  ·obtain⟨c,ys,h1,bs,_,_,ww,_⟩:=eF.dp j us hj
   rcases(ww b zj).1 with w|w
   ·exact nW b w nb
   ·rw[w,qa]at nb; cases nb
theorem X7(hK:t.K=au K){nl r:Nat}{b:SF}{E:XK}{ta:TE}{fa:EF}(ha:SE t ta fa):SE t (jO (jF K 1 0 (jo nl r b)) [] E (gQ ta jf)) (vK (jo nl r b) fa):=X5 hK (KJ _ _ _) ha
end
end L2
end
section
namespace L2
open PySem PySem.Spec PyProof.Rows
section
variable {X:Cx}
end
end L2
end
section
namespace L2
open PySem PySem.Spec PyProof.Rows
section
variable {P:Program}{w:World}{K:FZ}
end
section
variable {X:Cx}
end
section
variable {t:Tx}
end
section
variable {X:Cx}
end
section
variable {K:FZ}
end
end L2
end
section
namespace L2
open PySem PySem.Spec PyProof.Rows
end L2
end
section
namespace L2
open PySem PySem.Spec PyProof.Rows PySem.W
def yR:List Str := "HeadError" :: lJ
def isub(c d:Str):Bool:=c == d || d == ("HeadError" : Str)
def Lx:List Ty:=[.int,.bool,.str,.tuple,.list]
def yS(K:Frag)(cs:List Str)(p:Str->Addr->Bool):Bool:=cs.all λc=>match nsIn K mainGlobals c with
 |some (some (.ref C))=>p c C
 |_=>true
theorem Du{K:Frag}{cs:List Str}{p:Str->Addr->Bool}(h:yS K cs p=true){c:Str}(m:c∈cs){C:Addr}(n:nsIn K mainGlobals c=some (some (.ref C))):p c C=true:=by
 have:=List.all_eq_true.mp h c m
 rw[n]at this
 exact this
noncomputable def Dv(K:Frag)(C:Addr):Bool:=findIn K (.ref C) "__getattribute__" == some (some (.builtin "BaseException.__getattribute__"))&&findIn K (.ref C) "__getattr__" == some none&&findIn K (.ref C) "__class__" == some (some (.builtin "object.__class__"))&&mroIn K C (.type "object") == some true&&mroIn K C (.type "BaseException") == some true&&(clsIn K C).isSome
theorem X8{K:Frag}{C:Addr}(h:Dv K C=true):mG K C:=by
 unfold Dv at h
 simp only[Bool.and_eq_true]at h
 obtain⟨⟨⟨⟨⟨h1,h2⟩,h3⟩,h4⟩,h5⟩,h6⟩:=h
 exact⟨beq_iff_eq.mp h1,beq_iff_eq.mp h2,beq_iff_eq.mp h3,beq_iff_eq.mp h4,beq_iff_eq.mp h5,h6⟩
noncomputable def Ly(K:Frag):Bool :=
 yS K lJ (λ_ C=>Dv K C&&Lx.all (λy=>kitOne K (.ref C) (.type y.name) == some false)&&kitOne K (.ref C) (.type "ValueError") == some true) &&
 yS K yR (λd D=>kitOne K (.type "NoneType") (.ref D) == some false&&yS K lJ (λc C=>kitOne K (.ref C) (.ref D) == some (isub c d)&&(!(d == ("HeadError" : Str)) || exmOne K (.ref C) (.ref D) == some true))) &&
 kitOne K (.type "NoneType") (.type "ValueError") == some false&&(match K.lookup mainGlobals with
  |some o=>o.cls != .type "list"
  |none=>true)
structure jV(K:Frag):Prop where
 o:xM K
 n:∀d∈yR,∀D,nsIn K mainGlobals d=some (some (.ref D))->kitOne K (.type "NoneType") (.ref D)=some false
 k:∀d∈yR,∀D,nsIn K mainGlobals d=some (some (.ref D))->∀c∈lJ,∀C,nsIn K mainGlobals c=some (some (.ref C))->kitOne K (.ref C) (.ref D)=some (isub c d)
 v:∀c∈lJ,∀C,nsIn K mainGlobals c=some (some (.ref C))->kitOne K (.ref C) (.type "ValueError")=some true
 vn:kitOne K (.type "NoneType") (.type "ValueError")=some false
 h:∀D,nsIn K mainGlobals "HeadError" = some (some (.ref D))->∀c∈lJ,∀C,nsIn K mainGlobals c=some (some (.ref C))->exmOne K (.ref C) (.ref D)=some true
 x:∀c∈lJ,∀C,nsIn K mainGlobals c=some (some (.ref C))->mG K C
 mc:∀o,K.lookup mainGlobals=some o->o.cls ≠ .type "list"
theorem jV.of{K:Frag}(h:Ly K=true):jV K:=by
 unfold Ly at h
 simp only[Bool.and_eq_true]at h
 obtain⟨⟨⟨h1,h2⟩,h3⟩,h4⟩:=h
 have a1:∀c∈lJ,∀C,nsIn K mainGlobals c=some (some (.ref C))->mG K C/\(∀y:Ty,kitOne K (.ref C) (.type y.name)=some false)/\kitOne K (.ref C) (.type "ValueError")=some true:=λc m C n=>by
  have:=Du h1 m n
  simp only[Bool.and_eq_true]at this
  obtain⟨⟨x1,x2⟩,x3⟩:=this
  refine⟨X8 x1,λy=>?_,beq_iff_eq.mp x3⟩
  have:=List.all_eq_true.mp x2 y (by cases y <;> simp[Lx])
  exact beq_iff_eq.mp this
 have a2:∀d∈yR,∀D,nsIn K mainGlobals d=some (some (.ref D))→kitOne K (.type "NoneType") (.ref D)=some false∧∀c∈lJ,∀C,nsIn K mainGlobals c=some (some (.ref C))→kitOne K (.ref C) (.ref D)=some (isub c d)∧(d = "HeadError" → exmOne K (.ref C) (.ref D)=some true):=λd m D n=>by
  have:=Du h2 m n
  rw[Bool.and_eq_true]at this
  refine⟨beq_iff_eq.mp this.1,λc mc C nc=>?_⟩
  have:=Du this.2 mc nc
  rw[Bool.and_eq_true]at this
  refine⟨beq_iff_eq.mp this.1,λe=>?_⟩
  have z:=this.2
  rw[Bool.or_eq_true]at z
  rcases z with z|z
  ·rw[e]at z; cases z
  ·exact beq_iff_eq.mp z
 refine⟨λc m C n=>⟨λa=>Tz (a1 c m C n).1,(a1 c m C n).2.1⟩,λd m D n=>(a2 d m D n).1,λd m D n c mc C nc=>((a2 d m D n).2 c mc C nc).1,λc m C n=>(a1 c m C n).2.2,beq_iff_eq.mp h3,λD n c mc C nc=>((a2 "HeadError" (List.mem_cons_self ..) D n).2 c mc C nc).2 rfl,λc m C n=>(a1 c m C n).1,λo e=>?_⟩
 rw[e]at h4
 simpa using h4
def Lz:Tr->Str->Option Bool
 |.bR c,d=>some (isub c d)
 |.non,_=>some false
 |_,_=>none
def LC:Tr->Option Bool
 |.bR _=>some true
 |.non=>some false
 |_=>none
section
variable {X:Cx}
variable {e:Expr}{te:TE}{x:Str}{p q pos:Pos}
end
section
variable {t:Tx}{K:Frag}
def Yb(d:Str)(fa:EF):EF:=λρ=>(fa ρ).bind λp=>(dr p.2 p.1).bind λa=>match Lz a d with
 |some b=>.ok (eB b,p.2)
 |none=>.bad
def Yc(fa:EF):EF:=λρ=>(fa ρ).bind λp=>(dr p.2 p.1).bind λa=>match LC a with
 |some b=>.ok (eB b,p.2)
 |none=>.bad
def Pr{α : Type}(f:En->Rs (α × En)):Prop:=∀ρ,(∀p,f ρ=.ok p->p.2 = ρ)/\∀c,f ρ ≠ .ex c
end
section
variable {X:Cx}{e:Expr}{te:TEX}{pos:Pos}
end
end L2
end
section
namespace BH
open PySem L2
def LK:SF:=(aL (gj (sJ (vD 1) (bY (aB bN (aj 1) (eC (.int 0)))) (vp 0 1 (ak (aj 1) (ak (aB cP (aj 0) (aj 1)) ao))))) (aX (bh (g1 gC) (ak (aj 0) ao))))
def yU:FP:=aU 2 LK
def LQ:SF:=(aX (pB (gW .int (aj 0)) (yc (gW .bool (aj 0)))))
def vL:FP:=aU 1 LQ
noncomputable def Dw:SF:=(aL (cA (dZ (bV (bT (gW .tuple (aj 0)))) (bY (aB bN (bh (g1 aW) (ak (aj 0) ao)) (eC (.int 2))))) (aX (eC (.bl false))) cu) (aL (cF (aj 0) (gT 2 (eH (gN 1) (eH (gN 2) jD)))) (aL (cA (dZ (bV (bT (aV vL (ak (aj 1) ao)))) (bV (bT (aV vL (ak (aj 2) ao))))) (aX (eC (.bl false))) cu) (aX (pB (aB fL (aj 2) (eC (.int 1))) (aB bH (aV yU (ak (aj 1) (ak (aj 2) ao))) (eC (.int 1))))))))
def nU:FP:=aU 3 Dw
def Dy:SF:=(aX (pB (aV nU (ak (aj 0) ao)) (sE cO cO (eC (.int 0)) (aB bD (aj 0) (eC (.int 0))) (aB bD (aj 0) (eC (.int 1))))))
def nY:FP:=aU 1 Dy
def Dz:SF:=(aL (cA (dZ (bV (bT (gW .list (aj 0)))) (bV (bY (sE cO cO (eC (.int 1)) (bh (g1 aW) (ak (aj 0) ao)) (aj 1))))) (aX (eC (.bl false))) cu) (aX (bh (g1 c7) (ak (dg [none] (dR (aj 0)) (gN 0) cG (aV nY (ak (aj 0) ao))) ao))))
def qN:FP:=aU 2 Dz
noncomputable def LR:SF:=(aL (cA (dZ (bV (bT (gW .list (aj 0)))) (bV (bY (sE cO cO (eC (.int 1)) (bh (g1 aW) (ak (aj 0) ao)) (eC (.int 4)))))) (aX (eC (.bl false))) cu) (aL (cA (bV (bT (bh (g1 c7) (ak (dg [none] (dR (aj 0)) (gN 0) cG (aV qN (ak (aj 0) (ak (eC (.int 12)) ao)))) ao)))) (aX (eC (.bl false))) cu) (aX (bh (g1 c7) (ak (dg [none,some 0] (dR (aj 0)) (gN 0) cG (aB bH (bh (g1 aW) (ak (aj 0) ao)) (bh (g1 aW) (ak (aB bD (aj 1) (eC (.int 0))) ao)))) ao)))))
def iU:FP:=aU 1 LR
def Ma:SF:=(cA (bV (bT (aV iU (ak (aj 0) ao)))) (nQ "NoBook" (eC (.str "this is no book"))) cu)
def qO:FP:=aU 1 Ma
def Mf:SF:=(cA (bV (bT (gW .str (aj 0)))) (nQ "NoText" (eC (.str "this is no text"))) cu)
def kO:FP:=aU 1 Mf
end BH
end
section
namespace L2
open PySem PySem.Spec PyProof.Rows
section
variable {X:Cx}{k j:Nat}{x:Str}{ps:List Str}{sp:Sp}{p pos:Pos}{a b e:Expr}{es:List Expr}{ta tb:TE}{tl:TA}{E:XK}
theorem iV(ha:PE X a ta)(hb:PE X b tb)(hs:Jg b:=by exact λ_ _=>rfl):PE X (.Subscript a b pos) (gq (uM X.K) ta tb):=Ji Jm ha hb hs
theorem pc1(D:aP X.prog X.w X.K X.mg X.base j x ps sp)(hr:fC k X.A)(hx:Passes (iJ X.prog X.w) X E)(ha:PA X (e::es) tl)(hk:j<=k:=by decide)(hg:X.env.kindOf x=some .globalImplicit:=by kernel_rfl)(hdb:(x == ("__debug__" : Str))=false:=by kernel_rfl)
  (he:notStar e=true:=by kernel_rfl) (hpl:(backTo pos (starEach es X.env)).any (·.1)=false:=by kernel_rfl):PE X (.Call (.Name x p) (e::es) [] pos) (jO sp [] E tl):=Lg (D.mono hk) hr hx ha hg hdb he hpl
theorem gY(D:aP X.prog X.w X.K X.mg X.base j x ps sp)(hr:fC k X.A)(ha:PA X (e::es) tl)(hk:j<=k:=by decide)(hg:X.env.kindOf x=some .globalImplicit:=by kernel_rfl)(hdb:(x == ("__debug__" : Str))=false:=by kernel_rfl)
  (he:notStar e=true:=by kernel_rfl) (hpl:(backTo pos (starEach es X.env)).any (·.1)=false:=by kernel_rfl):PE X (.Call (.Name x p) (e::es) [] pos) (jO sp [] E0 tl):=Lg (D.mono hk) hr T4 ha hg hdb he hpl
end
theorem fS(N P:List Str)(sc:Scope)(kind:sc.kind=.function:=by rfl)(co:sc.isCoroutine=false:=by rfl)(gen:sc.isGenerator=false:=by rfl)(nd:N.Nodup:=by decide +kernel)(pre:N.take P.length=P:=by rfl)(par:∀x∈P,sc.names.lookup x=some .local\/sc.names.lookup x=some .cell:=by decide +kernel)(Ay:∀y∈sc.names,y.2 ≠ .free:=by decide +kernel):oM N P sc:=⟨kind,co,gen,nd,pre,par,Ay⟩
section
variable {t:Tx}{K:FZ}
theorem Yd(hK:t.K=au K){ta:TE}{fa:EF}(ha:SE t ta fa):L2.ST t (λσ H Q=>ta σ H λx H'=>∃k,uK K x H' k/\Q k H') (bT fa):=lO hK ha
theorem Ye(hK:t.K=au K){ts:TS}{f:SF}(h:∀t':Tx,t'.K=au K->(∀c,¬t'.EX c)->SS t' ts f):SS t ts (gj f):=K6 λt' h' k=>h t' (h'.trans hK) k
theorem Yg(hK:t.K=au K){wi:TI}{g:TG}{src:List (Option Nat)}{te:TE}{fi:IF}{gf:GF}{f:EF}{js:List Nat}(hi:SI t wi fi)(ng:∀T ρ c,gf T ρ ≠ .ex c)(hg:∀t':Tx,t'.K=au K->(∀c,¬t'.EX c)->SG t' g gf js)(he:∀t':Tx,t'.K=au K->(∀c,¬t'.EX c)->SE t' te f)(hj:∀k j:Nat,src[k]?=some (some j)->k∉js)(I:(src.filterMap id).Nodup):SE t (oR wi g src te) (dg src fi gf cG f) :=
 vC hi (sU I) hj ng (λt' h k=>hg t' (h.trans hK) k) (λt' h k=>he t' (h.trans hK) k)
end
end L2
end
section
namespace L2
open PySem PySem.Spec PyProof.Rows PySem.Builtin PySem.Builtin.Str
section
variable {X:Cx}
def yV(g:Str->Bool):V->List V->Hp->VK->Prop:=λx vs H Q=>∃z,x=.str z/\vs=[]/\Q (.bl (g z)) H
theorem Yh:rM X "str.isdigit" (yV Txt.isdigit):=by
 intro pins s σ H x vs v us Q I rx rv h
 obtain⟨z,rfl,rfl,q⟩:=h
 obtain⟨t,rfl⟩:=rx
 cases rv
 exact SC.isdigit ⟨.bl _,H,I,rfl,q⟩
theorem Yi:rM X "str.isascii" (yV Txt.isascii):=by
 intro pins s σ H x vs v us Q I rx rv h
 obtain⟨z,rfl,rfl,q⟩:=h
 obtain⟨t,rfl⟩:=rx
 cases rv
 exact SC.isascii ⟨.bl _,H,I,rfl,q⟩
theorem jH(z:Str)(t:Tok):RelV (.str z) (.str z t):=⟨t,rfl⟩
theorem Inv.Mg{pins:List (Addr × Obj)}{σ : St}{H:Hp}{s:Shared}{ys:List V}{its:List Value}{t':Nat}(I:Inv X pins σ H s)(hv:Vals ys its)(hz:ys.length<=sizeLine):Inv X pins σ (upd H s.heap.objs.size (.tup ys)) {s with heap:=s.heap.push {cls:=.type "tuple",data:=.seq its.toArray },toks:=t' } :=
 I.laid (λ_ _ q=>Heap.get?_push_of_some _ q) (Nat.le_refl _) (show jx X.prog X.w _ _ _ (.tup ys)from⟨hz,its,hv,IsTup.new _ _⟩)
def pL(z y:Str):List Str:=match occurrences z y 0 z.length 1 with
 |i::_=>[strSub z 0 i,y,strSub z (i+y.length) z.length]
 | []=>[z,Str.empty,Str.empty]
def DG:V->List V->Hp->VK->Prop:=λx vs H Q=>∃z y:Str,x=.str z/\vs=[.str y]/\(y.length == 0)=false/\z.length<=sizeLine /\
 ∀a,H a=none->Q (.ref a) (upd H a (.tup ((pL z y).map .str)))
theorem Yj:rM X "str.partition" DG:=by
 intro pins s σ H x vs v us Q I rx rv h
 obtain⟨z,y,rfl,rfl,hy,hz,q⟩:=h
 obtain⟨t,rfl⟩:=rx
 obtain⟨u,rfl,t2,rfl⟩:=rv.one
 refine call_meets F.slot_str_partition (typeIs_str _ _ _) F.entry_str_partition (F.args_str_partition_2 _ _) (meets_str_partition z y t t2 hy hz) ?_
 have q:=q s.heap.objs.size I.fresh
 unfold pL at q
 split <;> rename_i e <;> rw[e]at q
 ·exact⟨.ref _,_,I.Mg (.cons (jH _ _) (.cons (jH _ _) (.cons (jH _ _) .nil))) (show 3<=sizeLine by decide),rfl,q⟩
 ·exact⟨.ref _,_,I.Mg (.cons (jH _ _) (.cons (jH _ _) (.cons (jH _ _) .nil))) (show 3<=sizeLine by decide),rfl,q⟩
theorem Mh:∀l:List (Str × Tok),Vals ((l.map (·.1)).map .str) (strValues l)
 | []=>.nil
 |p::r=>.cons (jH _ _) (Mh r)
theorem Mi:∀{ts:List Str} {its:List Value},Vals (ts.map .str) its->∃l:List (Str × Tok),its=strValues l/\l.map (·.1)=ts
 | [],_,.nil=>⟨[],rfl,rfl⟩
 |z::ts,_,.cons r h=>by
  obtain⟨l,rfl,q⟩:=Mi h
  obtain⟨t,rfl⟩:=r
  exact⟨(z,t)::l,rfl,by rw[List.map_cons,q]⟩
def DK:V->List V->Hp->VK->Prop:=λx vs H Q=>∃z y:Str,x=.str z/\vs=[.str y]/\(y.length == 0)=false/\z.length<=sizeLine/\(Txt.split z y).length<=sizeLine /\
 ∀a,H a=none->Q (.ref a) (upd H a (.lst ((Txt.split z y).map .str)))
theorem yW:rM X "str.split" DK:=by
 intro pins s σ H x vs v us Q I rx rv h
 obtain⟨z,y,rfl,rfl,hy,hz,hn,q⟩:=h
 obtain⟨t,rfl⟩:=rx
 obtain⟨u,rfl,t2,rfl⟩:=rv.one
 have q:=q s.heap.objs.size I.fresh
 cases h1:(decide (z.length<y.length) || decide (strKind z<strKind y))
 ·cases hf:(occurrences z y 0 z.length (z.length+1)).isEmpty
  ·have e:Txt.split z y=partsBetween z (occurrences z y 0 z.length (z.length+1)) y.length:=(if_neg (ne_true_of_eq_false h1)).trans (if_neg (ne_true_of_eq_false hf))
   rw[e]at q hn
   refine call_meets F.slot_str_split (typeIs_str _ _ _) F.entry_str_split (F.args_str_split_2 _ _) (meets_str_split_sep z y t t2 h1 hy hf hz hn) ?_
   show wants _ _ _ {s with toks:=_,heap:=s.heap.push {cls:=.type "list",data:=.seq (strsFrom s.toks (partsBetween z (occurrences z y 0 z.length (z.length+1)) y.length)).toArray } }
   rw[strsFrom_eq]
   have w:=Mh (numbered s.toks (partsBetween z (occurrences z y 0 z.length (z.length+1)) y.length))
   rw[numbered_texts]at w
   exact⟨.ref _,_,I.rN w (by rw[List.length_map]; exact hn),rfl,q⟩
  ·have e:Txt.split z y=[z]:=(if_neg (ne_true_of_eq_false h1)).trans (if_pos hf)
   rw[e]at q
   exact call_meets F.slot_str_split (typeIs_str _ _ _) F.entry_str_split (F.args_str_split_2 _ _) (meets_str_split_not_found z y t t2 h1 hy hf) ⟨.ref _,_,I.rN (.cons (jH _ _) .nil) (show 1<=sizeLine by decide),rfl,q⟩
 ·have e:Txt.split z y=[z]:=if_pos h1
  rw[e]at q
  exact call_meets F.slot_str_split (typeIs_str _ _ _) F.entry_str_split (F.args_str_split_2 _ _) (meets_str_split_cannot_occur z y t t2 h1) ⟨.ref _,_,I.rN (.cons (jH _ _) .nil) (show 1<=sizeLine by decide),rfl,q⟩
def rJoin(K:FZ):V->List V->Hp->VK->Prop:=λx vs H Q=>∃(z:Str) (a:Addr) (ts:List Str),x=.str z/\vs=[.ref a]/\bG K H a (ts.map .str)/\JoinOk z ts=true/\Q (.str (Txt.join z ts)) H
theorem Mj:rM X "str.join" (rJoin X.K):=by
 intro pins s σ H x vs v us Q I rx rv h
 obtain⟨z,a,ts,rfl,rfl,hH,hj,q⟩:=h
 obtain⟨t,rfl⟩:=rx
 obtain⟨u,rfl,ru⟩:=rv.one
 cases ru
 obtain⟨its,r,pl,hz⟩:=I.list hH
 obtain⟨l,rfl,hl2⟩:=Mi r
 exact SC.join pl.isList hl2 hj λt' k=>⟨.str _,H,I.tok k,jH _ _,q⟩
end
section
variable {t:Tx}{K:FZ}{ta tb:TE}{fa fb:EF}
def pN(g:Str->Bool):G1
 |.str z=>.ok (.bl (g z),false)
 |_=>.bad
theorem Yk(g:Str->Bool)(a:Tr)(c:Str):pN g a ≠ .ex c:=by cases a <;> (intro z; cases z)
theorem Yl{K':FZ}(g:Str->Bool):lN K' (λx H Q=>xr K "str" x H/\yV g x [] H Q) (pN g):=λW x a H Q hw rx h=>by
 cases a <;> try exact h.elim
 rw[rx.str]
 exact⟨rfl,_,rfl,rfl,h _ H (Same.refl _) (.dO (.bl _))⟩
theorem Ym(g:Str->Bool)(ha:SE t ta fa):SE t (Js K "str" (yV g) ta) (iK (pN g) fa):=Cu (Yl g) (Yk g) ha
def strOf:Tr->Rs Str
 |.str z=>.ok z
 |_=>.bad
theorem Ml(a:Tr)(c:Str):strOf a ≠ .ex c:=by cases a <;> (intro z; cases z)
def yX(K:FZ)(r:V->List V->Hp->VK->Prop)(g:Str->G1):Prop:=∀W z y b H Q,(∀b,W b->Lt H b)->Rp K W H y b->(g z b).post (λ_=>False) (λp=>∀v H',Same H H'->cY K W [] H H' v (.v p.1 p.2)->Q v H')->r (.str z) [y] H Q
def iW(g:Str->G1)(fa fb:EF):EF:=λρ=>(fa ρ).bind λp=>(dr p.2 p.1).bind λa=>(strOf a).bind λz=>(fb p.2).bind λq=>(dr q.2 q.1).bind λb=>(g z b).bind λw=>.ok (.v w.1 w.2,q.2)
theorem DN{r:V->List V->Hp->VK->Prop}{g:Str->G1}(o:yX t.K r g)(ng:∀z b c,g z b ≠ .ex c)(ha:SE t ta fa)(hb:SE t tb fb):SE t (ql K "str" r ta (gQ tb jf)) (iW g fa fb):=λW ρ σ H Q e h=>by
 refine ha W ρ σ H _ e (Rs.aM (Rs.aH h) λp h x H1 e1 s1 v1=>?_)
 obtain⟨a,k1,h⟩:=cj (Rs.aH h) (gU _ _)
 obtain⟨z,k2,h⟩:=cj (Rs.aH h) (Ml _)
 have r1:=gR e1 e.wn v1.1 k1
 cases a <;> cases k2
 rw[r1.str]
 refine⟨rfl,hb W p.2 σ H1 _ e1 (Rs.aM (Rs.aH h) λq h y H2 e2 s2 v2=>?_)⟩
 obtain⟨b,k3,h⟩:=cj (Rs.aH h) (gU _ _)
 refine o W z y b H2 Q e2.wl (gR e2 e1.wn v2.1 k3) (Rs.aM (iC (Rs.aH h) (ng z b)) λw h v H3 s3 v3=>?_)
 exact h v H3 (e2.grow s3) ((s1.trans s2).trans (aY.of s3)) ((fU.of e2 s3 v3).back λb q=>(s1.trans s2).dom b q)
theorem DP{H:Hp}:∀l:List Str,aC K H (l.map .str) (l.map .str)
 | []=>.nil
 |z::r=>.cons (.str z) (DP r)
def strsOf:List Tr->Rs (List Str)
 | []=>.ok []
 |.str z::r=>(strsOf r).bind λl=>.ok (z::l)
 |_=>.bad
theorem Mp:∀{ts:List Tr} {l:List Str},strsOf ts=.ok l->ts=l.map .str
 | [],_,h=>by cases h; rfl
 |t::r,l,h=>by
  cases t <;> try cases h
  dsimp only[strsOf]at h
  cases q:strsOf r with
  |bad=>rw[q]at h; cases h
  |ex c=>rw[q]at h; cases h
  |ok l'=>rw[q]at h; cases h; rw[Mp q]; rfl
theorem DQ:∀(ts:List Tr) (c:Str),strsOf ts ≠ .ex c
 | [],_,h=>by cases h
 |t::r,c,h=>by
  cases t <;> try cases h
  dsimp only[strsOf]at h
  cases q:strsOf r with
  |bad=>rw[q]at h; cases h
  |ex c'=>exact DQ r _ q
  |ok l'=>rw[q]at h; cases h
theorem Mq{H:Hp}:∀{l:List Str} {xs:List V},aC K H xs (l.map .str)->xs=l.map .str
 | [],_,.nil=>rfl
 |z::r,_,.cons (.str _) h=>by rw[Mq h]; rfl
def jr(z:Str):G1
 |.str y=>if(y.length == 0)=false/\z.length<=100000/\(Txt.split z y).length<=100000 then .ok (.lst ((Txt.split z y).map .str),true)else .bad
 |_=>.bad
def nZ(z:Str):G1
 |.str y=>if(y.length == 0)=false/\z.length<=100000 then .ok (.tup ((pL z y).map .str),false)else .bad
 |_=>.bad
def jJ(z:Str):G1
 |.lst ts=>(strsOf ts).bind λl=>if JoinOk z l=true then .ok (.str (Txt.join z l),false)else .bad
 |_=>.bad
theorem Yn(z:Str)(b:Tr)(c:Str):jr z b ≠ .ex c:=by
 cases b <;> dsimp only[jr] <;> (try split) <;> (intro z; cases z)
theorem Yo(z:Str)(b:Tr)(c:Str):nZ z b ≠ .ex c:=by
 cases b <;> dsimp only[nZ] <;> (try split) <;> (intro z; cases z)
theorem Yp(z:Str)(b:Tr)(c:Str):jJ z b ≠ .ex c:=by
 cases b <;> dsimp only[jJ] <;> try(intro z; cases z)
 rename_i ts
 cases q:strsOf ts with
 |bad=>intro z; cases z
 |ex c'=>exact(DQ _ _ q).elim
 |ok l=>show(if _ then _ else _)≠_; split <;> (intro z; cases z)
theorem Yq{K':FZ}:yX K' DK jr:=λW z y b H Q hw ry h=>by
 cases b <;> try exact h.elim
 rw[ry.str]
 dsimp only[jr]at h
 split at h
 ·rename_i w
  exact⟨z,_,rfl,rfl,w.1,Nat.le_trans w.2.1 (by decide),Nat.le_trans w.2.2 (by decide),λa ha=>h _ _ (dN ha _) (cY.new ha (DP _))⟩
 ·exact h.elim
theorem Yr{K':FZ}:yX K' DG nZ:=λW z y b H Q hw ry h=>by
 cases b <;> try exact h.elim
 rw[ry.str]
 dsimp only[nZ]at h
 split at h
 ·rename_i w
  exact⟨z,_,rfl,rfl,w.1,Nat.le_trans w.2 (by decide),λa ha=>h _ _ (dN ha _) (cY.newT hw ha (DP _))⟩
 ·exact h.elim
theorem Ys{K':FZ}:yX (au K') (rJoin K') jJ:=λW z y b H Q hw ry h=>by
 cases b <;> try exact h.elim
 rename_i ts
 obtain⟨a,xs,rfl,sq,r⟩:=ry.lst
 dsimp only[jJ]at h
 obtain⟨l,k,h⟩:=cj (Rs.aH h) (DQ _)
 rw[Mp k]at r
 rw[Mq r]at sq
 split at h
 ·rename_i w
  exact⟨z,a,l,rfl,rfl,sq.toK,w,h _ H (Same.refl _) (.dO (.str _))⟩
 ·exact h.elim
theorem yZ(ha:SE t ta fa)(hb:SE t tb fb):SE t (ql K "str" DK ta (gQ tb jf)) (iW jr fa fb):=DN Yq Yn ha hb
theorem Yt(ha:SE t ta fa)(hb:SE t tb fb):SE t (ql K "str" DG ta (gQ tb jf)) (iW nZ fa fb):=DN Yr Yo ha hb
theorem Yu{K':FZ}(hK:t.K=au K')(ha:SE t ta fa)(hb:SE t tb fb):SE t (ql K "str" (rJoin K') ta (gQ tb jf)) (iW jJ fa fb):=DN (by rw[hK]; exact Ys) Yp ha hb
end
end L2
end
section
namespace L2
open PySem PySem.Spec PyProof.Rows
section
variable {X:Cx}
def DW:V->Hp->VK->Prop:=λx H Q=>(∃i:Int,x=.int i/\i.natAbs.log2<1920/\Q (.str (toString i)) H)\/∃z:Str,x=.str z/\z.length<=sizeLine/\Q (.str z) H
theorem Mr{e:Expr}{pos:Pos}{te:TE}(h:PE X e te):PE X (.FormattedValue e (-1) none pos) (rH DW te):=by
 refine⟨λpins s σ H Q I k=>wpAny_FormattedValue_plain (aR (h pins s σ H _ I k) λv s1 ⟨x,H1,I1,r1,q⟩=>?_)⟩
 rcases q with⟨i,rfl,hd,q⟩|⟨z,rfl,hz,q⟩
 ·obtain⟨t,rfl⟩:=r1
  exact wpAny_formatField_int hd ⟨.str _,H1,I1.tok _,jH _ _,q⟩
 ·obtain⟨t,rfl⟩:=r1
  exact wpAny_formatField_str ⟨.str _,H1,I1,jH _ _,q⟩ ⟨.str _,H1,I1.tok _,jH _ _,q⟩ hz
def zf:List TE->Str->TE
 | [],acc=>λ_ H Q=>acc.length<=sizeLine/\Q (.str acc) H
 |ta::r,acc=>λσ H Q=>ta σ H λx H1=>∃y,x=.str y/\(acc++y).length<=sizeLine/\zf r (acc++y) σ H1 Q
inductive n6(X:Cx):List Expr->List TE->Prop
 |nil:n6 X [] []
 |cons {e:Expr} {es:List Expr} {te:TE} {ts:List TE} (h:PE X e te) (r:n6 X es ts):n6 X (e::es) (te::ts)
theorem Yv:n6 X [] []:=.nil
theorem DX{e:Expr}{es:List Expr}{te:TE}{ts:List TE}(h:PE X e te)(r:n6 X es ts):n6 X (e::es) (te::ts):=.cons h r
theorem n6.joins{es:List Expr}{ts:List TE}(h:n6 X es ts):∀(acc:Str) (pins:List (Addr × Obj)) (s:Shared) (σ : St) (H:Hp) (Q:VK),Inv X pins σ H s->zf ts acc σ H Q ->
  Joins (model X.prog X.w) X.A X.xe (evalEach es X.env) acc (λout s₁=>out.length<=sizeLine/\EP X pins σ Q (.str out s₁.toks) {s₁ with toks:=s₁.toks+1 }) s:=by
 induction h with
 |nil=>exact λacc pins s σ H Q I k=>⟨k.1,.str _,H,I.tok _,jH _ _,k.2⟩
 |cons h r ih =>
  refine λacc pins s σ H Q I k=>aR (h pins s σ H _ I k) λv s1 ⟨x,H1,I1,r1,y,e,hl,q⟩=>?_
  subst e
  obtain⟨t,rfl⟩:=r1
  exact⟨y,t,rfl,hl,ih _ pins s1 σ H1 Q I1 q⟩
theorem Yw{e1 e2:Expr}{es:List Expr}{ts:List TE}{pos:Pos}(h:n6 X (e1::e2::es) ts):PE X (.JoinedStr (e1::e2::es) pos) (zf ts Str.empty) :=
 ⟨λpins s σ H Q I k=>wpAny_JoinedStr (h.joins _ pins s σ H Q I k)⟩
end
section
variable {t:Tx}{K:FZ}{ta tb:TE}{fa fb:EF}
def mV:G1
 |.int i=>if i.natAbs.log2<1920 then .ok (.str (toString i),false)else .bad
 |.str z=>if z.length<=100000 then .ok (.str z,false)else .bad
 |_=>.bad
theorem Yx(a:Tr)(c:Str):mV a ≠ .ex c:=by
 cases a <;> dsimp only[mV] <;> (try split) <;> (intro z; cases z)
theorem Yy:lN K DW mV:=λW x a H Q hw rx h=>by
 cases a <;> try exact h.elim
 ·rw[rx.int]
  dsimp only[mV]at h
  split at h
  ·exact .inl ⟨_,rfl,by assumption,h _ H (Same.refl _) (.dO (.str _))⟩
  ·exact h.elim
 ·rw[rx.str]
  dsimp only[mV]at h
  split at h
  ·rename_i w
   exact .inr ⟨_,rfl,Nat.le_trans w (by decide),h _ H (Same.refl _) (.dO (.str _))⟩
  ·exact h.elim
theorem Yz(ha:SE t ta fa):SE t (rH DW ta) (iK mV fa):=Cu Yy Yx ha
def pO:List EF->Str->EF
 | [],acc=>λρ=>if acc.length<=100000 then .ok (.v (.str acc) false,ρ)else .bad
 |f::r,acc=>λρ=>(f ρ).bind λp=>(dr p.2 p.1).bind λa=>(strOf a).bind λy=>if(acc++y).length<=100000 then pO r (acc++y) p.2 else .bad
inductive qP(t:Tx):List TE->List EF->Prop
 |nil:qP t [] []
 |cons {te:TE} {f:EF} {ts:List TE} {fs:List EF} (h:SE t te f) (r:qP t ts fs):qP t (te::ts) (f::fs)
theorem YB:qP t [] []:=.nil
theorem YC{te:TE}{f:EF}{ts:List TE}{fs:List EF}(h:SE t te f)(r:qP t ts fs):qP t (te::ts) (f::fs):=.cons h r
theorem YD{ts:List TE}{fs:List EF}(h:qP t ts fs):∀acc:Str,SE t (zf ts acc) (pO fs acc):=by
 induction h with
 |nil =>
  intro acc W ρ σ H Q e h
  dsimp only[pO]at h
  split at h
  ·rename_i w
   exact⟨Nat.le_trans w (by decide),h _ H e (aY.of (Same.refl _)) (fU.of (σ' := σ) e (Same.refl _) (.dO (.str _)))⟩
  ·exact h.elim
 |cons ha r ih =>
  intro acc W ρ σ H Q e h
  refine ha W ρ σ H _ e (Rs.aM (Rs.aH h) λp h x H1 e1 s1 v1=>?_)
  obtain⟨a,k1,h⟩:=cj (Rs.aH h) (gU _ _)
  obtain⟨y,k2,h⟩:=cj (Rs.aH h) (Ml _)
  have r1:=gR e1 e.wn v1.1 k1
  cases a <;> cases k2
  rw[r1.str]
  have h:(if(acc++y).length<=100000 then pO _ (acc++y) p.2 else .bad:Rs (Rv × En)).post _ _:=h
  split at h
  ·rename_i w
   exact⟨y,rfl,Nat.le_trans w (by decide),ih _ W p.2 σ H1 Q e1 (Rs.aM h λq h v H2 e2 s2 v2=>h v H2 e2 (s1.trans s2) (v2.back s1.dom))⟩
  ·exact h.elim
end
end L2
end
section
namespace L2
open PySem PySem.Spec PyProof.Rows
section
variable {X:Cx}{t:Tx}{K:FZ}{tl:TA}{fl:AF}
def DY:List V->Hp->VK->Prop:=λxs H Q=>(∃i,xs=[.int i]/\Q (.int i) H)\/(∃k,xs=[.bl k]/\Q (.int (if k then 1 else 0)) H)\/∃(z:Str) (n:Int),xs=[.str z]/\intText? z=some n/\z.length<=640/\Q (.int n) H
theorem YF:fZ X (.type "int") DY:=by
 intro pins s σ H xs us Q I r h
 rcases h with⟨i,rfl,q⟩|⟨k,rfl,q⟩|⟨z,n,rfl,e,hl,q⟩
 ·exact Ii pins s σ H _ us Q I r (.inl ⟨i,rfl,q⟩)
 ·exact Ii pins s σ H _ us Q I r (.inr ⟨k,rfl,q⟩)
 ·obtain⟨u,rfl,t,rfl⟩:=vals1 r
  exact PySem.W.KIN.call_text e hl ⟨.int n,H,I.tok _,⟨_,rfl⟩,q⟩
def kW:G1
 |.int i=>.ok (.int i,false)
 |.bl b=>.ok (.int (if b then 1 else 0),false)
 |.str z=>if z.length<=640 then(match intText? z with|some n=>.ok (.int n,false)|none=>.bad)else .bad
 |_=>.bad
theorem YG(a:Tr)(c:Str):kW a ≠ .ex c:=by
 cases a <;> dsimp only[kW] <;> (try split) <;> (try split) <;> (intro z; cases z)
theorem YH:lN K (λx=>DY [x]) kW:=λW x a H Q hw rx h=>by
 cases a <;> try exact h.elim
 ·rw[rx.bl]
  exact .inr (.inl ⟨_,rfl,h _ H (Same.refl _) (.dO (.int _))⟩)
 ·rw[rx.int]
  exact .inl ⟨_,rfl,h _ H (Same.refl _) (.dO (.int _))⟩
 ·rw[rx.str]
  dsimp only[kW]at h
  split at h
  ·rename_i hl
   split at h
   ·rename_i n e
    exact .inr (.inr ⟨_,n,rfl,e,hl,h _ H (Same.refl _) (.dO (.int _))⟩)
   ·exact h.elim
  ·exact h.elim
theorem YJ(hK:t.K=au K)(ha:SA t tl fl):SE t (iH DY tl) (bh (g1 kW) fl):=pC (by rw[hK]; exact sH YH) (sG YG) ha
end
end L2
end
section
namespace L2
open PySem PySem.Spec PyProof.Rows
section
variable {X:Cx}{t:Tx}{K:FZ}{ta tb:TE}{fa fb:EF}
end
end L2
end
section
namespace L2
open PySem PySem.Spec PyProof.Rows
section
variable {X:Cx}{tg:Expr}
end
section
variable {t:Tx}{K:FZ}
end
end L2
end
section
namespace L2
open PySem PySem.Spec PyProof.Rows PySem.W
section
variable {X:Cx}
end
def qp(a:Int)(n:Nat):List Tr:=(List.range' 0 n).map λi:Nat=>Tr.int (a+i)
end L2
end
section
namespace L2
open PySem PySem.Spec PyProof.Rows
section
variable {t:Tx}{W W':Addr->Prop}{ρ ρ':En}{σ : St}{H H':Hp}{F:Nat->List Addr}
theorem EOF.weak(e:EOF t W ρ σ H F)(hs:∀(i:Nat) (s:Sl),ρ'[i]?=some s->s=.un\/ρ[i]?=some s)(hl : ρ'.length = ρ.length)(m:Same (aA W H) (aA W' H'))(sub:∀b,W b->W' b)(wl:∀b,W' b->Lt H' b)(tb:dw t.K H')
  (f0:∀b o,t.H0 b=some o->¬t.R b->H' b=some o) (dom:∀b,H' b=none->t.H0 b=none) (pn:∀b o,t.B b=some o->H' b=some o)
  (km:∀(i:Nat) (a:Addr) (o:HO),Mu ρ' i -> σ[i]?=some (some (.ref a))->H a=some o->H' a=some o) (kd:∀(i:Nat) (ts:List Tr) (b:Addr) (o:HO),ρ'[i]?=some (.dp ts)->b∈F i->H b=some o->H' b=some o):EOF t W' ρ' σ H' F:=by
 have mu:∀j,Mu ρ' j->Mu ρ j:=λj h=>by
  obtain⟨ts,h|h⟩:=h <;> rcases hs j _ h with z|h
  ·cases z
  ·exact⟨ts,.inl h⟩
  ·cases z
  ·exact⟨ts,.inr h⟩
 have iu:∀(j:Nat) (us:List Tr),ρ'[j]?=some (Sl.dp us) -> ρ[j]?=some (Sl.dp us):=λj us h=>by
  rcases hs j _ h with z|h
  ·cases z
  ·exact h
 refine⟨by rw[hl]; exact e.len,λb z=>sub b (e.zw b z),e.z0,wl,f0,dom,λj u h=>?_,λj ts h=>?_,λj ts h=>?_,λj k a h1 h2 q1 q2=>e.dis j k a (mu j h1) (mu k h2) q1 q2,pn,λj a m q=>e.pd j a (mu j m) q,λj us h=>?_,λj k us ws n h1 h2=>e.dd j k us ws n (iu j us h1) (iu k ws h2),λj k us c h1 m q=>e.dm j k us c (iu j us h1) (mu k m) q,λj us h=>e.db j us (iu j us h),⟨tb,λb z=>sub b (e.tab.w b z),e.tab.r,e.tab.B⟩⟩
 ·rcases hs j _ h with z|h
  ·cases z
  ·obtain⟨w,h1,h2⟩:=e.sh j u h
   exact⟨w,h1,h2.mono m⟩
 ·rcases hs j _ h with z|q
  ·cases z
  ·obtain⟨a,xs,h1,h2,h3,h4,h5⟩:=e.ow j ts q
   exact⟨a,xs,h1,sub a h2,h3,km j a _ ⟨ts,.inl h⟩ h1 h4,h5.mono m⟩
 ·rcases hs j _ h with z|q
  ·cases z
  ·obtain⟨a,xs,h1,h2,h3,h4,h5⟩:=e.rf j ts q
   exact⟨a,xs,h1,sub a h2,h3,km j a _ ⟨ts,.inr h⟩ h1 h4,h5.mono m⟩
 ·obtain⟨c,ys,h1,d⟩:=e.dp j us (iu j us h)
  exact⟨c,ys,h1,d.move rfl rfl m (λb hb=>sub b (by obtain⟨_,_,_,ww,_⟩:=d; exact(ww b hb).1)) λb o hb q=>kd j us b o h hb q⟩
def Ms:Sl->Sl
 |.sh T=>.sh T
 |.ow ts=>.sh (.lst ts)
 |.dp ts=>.sh (.lst ts)
 |_=>.un
def vw(ρ : En):En := ρ.map Ms
def vM(ρ : En)(σ : St)(F:Nat->List Addr)(b:Addr):Prop:=(∃(i:Nat) (ts:List Tr),ρ[i]?=some (Sl.ow ts)/\σ[i]?=some (some (.ref b)))\/∃(i:Nat) (ts:List Tr),ρ[i]?=some (Sl.dp ts)/\b∈F i
def n8(ρ : En)(σ : St)(b:Addr):Prop:=∃(i:Nat) (ts:List Tr),ρ[i]?=some (Sl.rf ts)/\σ[i]?=some (some (.ref b))
open Classical in
def tB(t:Tx)(ρ : En)(σ : St)(H:Hp):Tx:={t with B:=λb=>if n8 ρ σ b then H b else t.B b,EX:=λ_=>False }
theorem Mt{b:Addr}(h:n8 ρ σ b):(tB t ρ σ H).B b=H b:=if_pos h
theorem Ea{b:Addr}(h:¬n8 ρ σ b):(tB t ρ σ H).B b=t.B b:=if_neg h
def Wv(W:Addr->Prop)(ρ : En)(σ : St)(F:Nat->List Addr)(b:Addr):Prop:=W b/\¬vM ρ σ F b
theorem Mv{i:Nat}{s:Sl}(h:(vw ρ)[i]?=some s):∃r,ρ[i]?=some r/\Ms r=s:=by
 unfold vw at h
 rw[List.getElem?_map]at h
 cases q : ρ[i]? with
 |none=>rw[q]at h; cases h
 |some r=>rw[q]at h; exact⟨r,rfl,Option.some.inj h⟩
theorem zm{i:Nat}{s:Sl}(h:(vw ρ)[i]?=some s):(∃T,s=.sh T)\/s=.un:=by
 obtain⟨r,_,rfl⟩:=Mv h
 cases r
 ·exact .inr rfl
 ·exact .inl ⟨_,rfl⟩
 ·exact .inl ⟨_,rfl⟩
 ·exact .inr rfl
 ·exact .inl ⟨_,rfl⟩
theorem Mw{i:Nat}(h:Mu (vw ρ) i):False:=by
 obtain⟨ts,h|h⟩:=h <;> rcases zm h with⟨T,z⟩|z <;> cases z
theorem vM.lst(e:EOF t W ρ σ H F){b:Addr}(h:vM ρ σ F b):(∃xs,H b=some (.lst xs))/\t.H0 b=none:=by
 rcases h with⟨i,ts,h1,h2⟩|⟨i,ts,h1,h2⟩
 ·obtain⟨a,xs,q1,_,q3,q4,_⟩:=e.ow i ts h1
  rw[h2]at q1
  cases q1
  exact⟨⟨xs,q4⟩,q3⟩
 ·obtain⟨a,xs,q1,bs,ef,nd,ww,ha,r⟩:=e.dp i ts h1
  refine⟨?_,(ww b h2).2⟩
  rw[ef]at h2
  rcases List.mem_cons.mp h2 with rfl|h2
  ·exact⟨xs,ha⟩
  ·exact r.lst b h2
theorem n8.lst(e:EOF t W ρ σ H F){b:Addr}(h:n8 ρ σ b):(∃xs,H b=some (.lst xs))/\t.B b=none:=by
 obtain⟨i,ts,h1,h2⟩:=h
 obtain⟨a,xs,q1,_,q3,q4,_⟩:=e.rf i ts h1
 rw[h2]at q1
 cases q1
 exact⟨⟨xs,q4⟩,e.pd i b ⟨ts,.inr h1⟩ h2⟩
theorem EOF.view(e:EOF t W ρ σ H F):aF (tB t ρ σ H) (Wv W ρ σ F) (vw ρ) σ H:=by
 have m:Same (aA W H) (aA (Wv W ρ σ F) H):=lK (λ_ _ _ z=>z.1) λ_ _ _ h=>h
 have gO:∀(i:Nat) (us:List Tr),(vw ρ)[i]?=some (.dp us)->False:=λi us q=>by
  rcases zm q with⟨_,z⟩|z <;> cases z
 refine⟨F,by unfold vw; rw[List.length_map]; exact e.len,λb z=>⟨e.zw b z,λo=>e.z0 b z (o.lst e).2⟩,e.z0,λb w=>e.wl b w.1,e.f0,e.n0,λi u h=>?_,λi us h=>?_,λi us h=>?_,λi j a m1=>(Mw m1).elim,λb o h=>?_,λi a m1=>(Mw m1).elim,λi us h=>(gO i us h).elim,λi j us vs n h=>(gO i us h).elim,λi j us c h=>(gO i us h).elim,λi us h=>(gO i us h).elim,⟨e.tab.ok,λb z=>⟨e.tab.w b z,λo=>?_⟩,e.tab.r,λb z=>?_⟩⟩
 ·obtain⟨r,h1,h2⟩:=Mv h
  cases r with
  |un=>cases h2
  |rf ts=>cases h2
  |sh T =>
   cases h2
   obtain⟨v,q1,q2⟩:=e.sh i _ h1
   exact⟨v,q1,q2.mono m⟩
  |ow ts =>
   cases h2
   obtain⟨a,xs,q1,q2,q3,q4,q5⟩:=e.ow i ts h1
   refine⟨.ref a,q1,.lst (bG.of ?_) (q5.mono m)⟩
   rw[cW λz=>z.2 (.inl ⟨i,ts,h1,q1⟩)]
   exact q4
  |dp ts =>
   cases h2
   obtain⟨a,xs,q1,bs,ef,nd,ww,ha,r⟩:=e.dp i ts h1
   refine⟨.ref a,q1,.lst (bG.of ?_) (r.reps m λb ys hb hy=>?_)⟩
   ·rw[cW λz=>z.2 (.inr ⟨i,ts,h1,by rw[ef]; exact List.mem_cons_self ..⟩)]
    exact ha
   ·rw[cW λz=>z.2 (.inr ⟨i,ts,h1,by rw[ef]; exact List.mem_cons_of_mem _ hb⟩)]
    exact hy
 ·rcases zm h with⟨_,z⟩|z <;> cases z
 ·rcases zm h with⟨_,z⟩|z <;> cases z
 ·by_cases q:n8 ρ σ b
  ·rw[Mt q]at h; exact h
  ·rw[Ea q]at h; exact e.pn b o h
 ·obtain⟨xs,q⟩:=(o.lst e).1
  exact e.tab.ok.ne z q rfl
 ·by_cases q:n8 ρ σ b
  ·obtain⟨xs,q'⟩:=(q.lst e).1
   exact(e.tab.ok.ne z q' rfl).elim
  ·rw[Ea q]; exact e.tab.B b z
theorem EOF.Eb{D:Addr->Prop}(e:EOF t W ρ σ H F)(e':aF (tB t ρ σ H) (Wv W ρ σ F) ρ' σ H')(s:aY (Wv W ρ σ F) H H')(hD:∀b,D b->H b=none/\∃xs,H' b=some (.lst xs)):EOF t (λb=>W b\/D b) ρ σ H' F:=by
 have own:∀b o,vM ρ σ F b->H b=some o->H' b=some o:=λb o h q=>s.keep b o (λz=>z.2 h) q
 have rf:∀b o,n8 ρ σ b->H b=some o->H' b=some o:=λb o h q=>e'.pn b o (by rw[Mt h]; exact q)
 refine e.weak (λ_ _ h=>.inr h) rfl (λb o h=>?_) (λb w=>.inl w) (λb w=>?_) e'.tab.ok (λb o h n=>e'.f0 b o h n) (λb h=>e'.n0 b h) (λb o h=>?_) (λi a o mi hi h=>?_) (λi ts b o hi hb h=>own b o (.inr ⟨i,ts,hi,hb⟩) h)
 ·obtain⟨n,h⟩:=fV h
  rw[cW]
  ·exact s.keep b o (λz=>n z.1) h
  ·rintro(z|z)
   ·exact n z
   ·rw[(hD b z).1]at h; cases h
 ·rcases w with w|w
  ·by_cases o:vM ρ σ F b
   ·obtain⟨xs,q⟩:=(o.lst e).1
    exact .inl ⟨xs,own b _ o q⟩
   ·exact e'.wl b ⟨w,o⟩
  ·exact .inl (hD b w).2
 ·by_cases q:n8 ρ σ b
  ·rw[(q.lst e).2]at h; cases h
  ·exact e'.pn b o (by rw[Ea q]; exact h)
 ·obtain⟨ts,q|q⟩:=mi
  ·exact own a o (.inl ⟨i,ts,q,hi⟩) h
  ·exact rf a o ⟨i,ts,q,hi⟩ h
theorem aY.Eb(s:aY (Wv W ρ σ F) H H'):aY W H H':=⟨λb o n h=>s.keep b o (λz=>n z.1) h,s.dom⟩
theorem YK(W:Addr->Prop):(λb=>W b\/False)=W:=funext λb=>by simp
theorem EOF.YL(e:EOF t W ρ σ H F)(e':aF (tB t ρ σ H) (Wv W ρ σ F) ρ' σ H')(s:aY (Wv W ρ σ F) H H'):EOF t W ρ σ H' F:=by
 have:=e.Eb (D:=λ_=>False) e' s λ_ z=>z.elim
 rw[YK]at this
 exact this
def mW(c:BF):BF:=λρ=>(bM (c (vw ρ))).bind λp=>.ok (p.1,ρ)
theorem YM{α : Type}{x:Rs α}{EX YQ:Str->Prop}{P : α -> Prop}(h:(bM x).post EX P):x.post YQ P:=by
 cases x with
 |bad=>exact h
 |ex c=>exact h.elim
 |ok a=>exact h
theorem Mx{tc:TT}{c:BF}(h:∀t':Tx,t'.K=t.K->(∀c,¬t'.EX c)->ST t' tc c):ST t tc (mW c):=λW ρ σ H Q e q=>by
 obtain⟨F,e⟩:=e
 have q:=Rs.aH q
 refine h (tB t ρ σ H) rfl (λ_ z=>z) _ _ σ H _ e.view (YM (Rs.aM q λp q H' e' s=>?_))
 exact q H' ⟨F,e.YL e' s⟩ s.Eb
end
end L2
end
section
namespace L2
open PySem PySem.Spec PyProof.Rows
abbrev FD:=List Tr->Rs (List Tr)
def Mz(K:FZ)(Z:Addr->Prop)(H H':Hp)(v:V)(ts:List Tr):Prop:=∃a xs bs,v=.ref a/\(a::bs).Nodup/\(∀b∈a::bs,H b=none/\∃ys,H' b=some (.lst ys))/\H' a=some (.lst xs)/\DR K (aA (λb=>Z b\/b∈a::bs) H') H' xs ts bs
noncomputable def vN(K:FZ)(cl:Str->Addr)(n:Nat)(F:FD):Sp:=λvs H Q E=>∃Z ts,vs.length=n/\aC (au K) (aA Z H) vs ts/\(∀b,Z b->Lt H b)/\dw (au K) H /\
 (F ts).post (λc=>∀H',iQ (au K) H H'->E (.ref (cl c)) none H') (λp=>∀v H',iQ (au K) H H'->Mz (au K) Z H H' v p->Q v H')
abbrev DF:=En->Rs (List Tr)
def SD(t:Tx)(ts:TS)(f:DF):Prop:=∀W ρ σ H D,aF t W ρ σ H->(f ρ).post t.EX (λus=>∀v W' ρ' σ' H',aF t W' ρ' σ' H'->Mz t.K t.Z t.H0 H' v us->D.rt v H')->ts D σ H
section
variable {t:Tx}
theorem YS(i:Nat):SD t (Af (oG i)) (λρ=>cH ρ i):=λW ρ σ H D e h=>by
 obtain⟨ts,k,h⟩:=cj h (Lh _ _)
 have e0:=e
 obtain⟨F,e⟩:=e
 obtain⟨a,xs,q1,bs,ef,nd,ww,ha,r⟩:=e.dp i ts (Li k)
 rw[ef]at nd ww
 refine⟨.ref a,q1,h _ W ρ σ H e0 ⟨a,xs,bs,rfl,nd,λb hb=>⟨(ww b hb).2,?_⟩,ha,r.move (lK (λb _ _ z=>?_) λ_ _ _ h=>h) λ_ _ _ h=>h⟩⟩
 ·rcases List.mem_cons.mp hb with rfl|hb
  ·exact⟨xs,ha⟩
  ·exact r.lst b hb
 ·rcases z with z|z
  ·exact e.zw b z
  ·exact(ww b z).1
def oh(f:SF)(g:DF):DF:=λρ=>(f ρ).bind λp=>match p.1 with
 |.nx=>g p.2
 |_=>.bad
theorem Ec{ta tb:TS}{f:SF}{g:DF}(h1:SS t ta f)(h2:SD t tb g):SD t (uw ta tb) (oh f g):=λW ρ σ H D e h=>by
 refine h1 W ρ σ H _ e (Rs.aM (Rs.aH h) λp h=>?_)
 obtain⟨fl,ρ1⟩:=p
 cases fl with
 |nx=>exact λW1 σ1 H1 e1 n1=>h2 W1 ρ1 σ1 H1 D e1 h
 |rt T fr=>exact h.elim
 |bk=>exact h.elim
 |ct=>exact h.elim
end
def MF(nl:Nat)(b:DF):FD:=λts=>b (aO nl ts)
section
variable {P:Program}{w:World}{K:FZ}{mg:Str->Option Value}{base:Heap}
theorem At.YT{k:Nat}{x:Str}{st:Stmt}{N ps:List Str}{cl:Str->Addr}{b:DF}(a:At K mg x st)(S:oM N ps (bw st))(hn:ps.length<=N.length)
  (hb:∀(kV doc pm:Value) (an:Option Addr) (cdv ct:Value) (us:List Value),us.length=ps.length->bindArgs (PySem.W.fnOf x x (nq st) (jB st) (bw st) .none kV doc pm an cdv ct) ⟨us,[]⟩=pure (ps.zip us))
  (hbody:∀(f:Addr) (cdv:Value) (A:Around) (outer:List Env) (s:Shared) (H:Hp) (E:XK),fC k (A.deeper (envOfC x (bw st) s.heap.objs.size f cdv)) ->
   ∃ts,iD (jA (iJ P w) P w K mg base N x (bw st) f cdv A outer s H E) (jB st) ts/\∀t:Tx,t.K=au K->(∀c H',F0 t H'->t.EX c->E (.ref (cl c)) none H')->SD t ts b) :
  aP P w K mg base (k+1) x ps (vN K cl ps.length (MF N.length b)):=by
 refine a.BW S hb (λvs H Q E h=>?_) (λf cdv A outer s H vs Q E hr h=>?_)
 ·obtain⟨_,_,h,_⟩:=h; exact h
 obtain⟨Z,as,hl,r,zl,tb,h⟩:=h
 obtain⟨ts,h1,h2⟩:=hbody f cdv A outer s H E hr
 refine⟨ts,h1,?_⟩
 have sm:∀(W:Addr->Prop) ρ σ H',aF ⟨au K,Z,Tb (au K),H,λ_=>none,λc=>∀H',iQ (au K) H H'->E (.ref (cl c)) none H'⟩ W ρ σ H'->iQ (au K) H H':=λW ρ σ H' e=>⟨λb o q n=>e.f0 b o q n,e.tab.ok⟩
 have r:=r.j7 (yu tb)
 refine h2 ⟨au K,Z,Tb (au K),H,λ_=>none,λc=>∀H',iQ (au K) H H'->E (.ref (cl c)) none H'⟩ rfl (λc H' f0 q=>q H' ⟨λb o z n=>f0.1 b o z n,f0.2⟩) (λb=>Z b\/Tb (au K) b) (aO N.length as) (start N vs) H _ ?_ (Rs.aM h λq h=>?_)
 ·have la:=r.length
  have gO:∀(i:Nat) (us:List Tr),(aO N.length as)[i]?=some (.dp us)->False:=λi us q=>by
   rcases iR q with⟨u',q1,z⟩|z <;> cases z
  refine⟨λ_=>[],?_,λ_ z=>.inl z,λb z=>?_,λb z=>z.elim (zl b) (λz=>.inr (tb.dM z)),λb o q _=>q,λb q=>q,λi u q=>?_,λi us q=>?_,λi us q=>?_,λi j c m1 m2=>?_,λb o z=>(by cases z),λ_ _ _ _=>rfl,λi us q=>(gO i us q).elim,λi _ us _ _ q=>(gO i us q).elim,λi _ us _ q=>(gO i us q).elim,λi us q=>(gO i us q).elim,⟨tb,λ_ z=>.inr z,λ_ z=>z,λ_ _=>rfl⟩⟩
  ·unfold aO start
   simp only[List.length_append,List.length_map,List.length_replicate]
   omega
  ·exact(zl b z).ne
  ·rcases iR q with⟨u',q1,z⟩|z
   ·cases z
    obtain⟨v,e1,e2⟩:=r.o9 q1
    exact⟨v,yw e1,e2⟩
   ·cases z
  ·rcases iR q with⟨u',q1,z⟩|z <;> cases z
  ·rcases iR q with⟨u',q1,z⟩|z <;> cases z
  ·obtain⟨us,q|q⟩:=m1 <;> rcases iR q with⟨u',q1,z⟩|z <;> cases z
 ·exact λv W' ρ' σ' H' e n=>h v H' (sm W' ρ' σ' H' e) n
end
section
variable {t:Tx}{K:FZ}
theorem EOF.YW{W D:Addr->Prop}{ρ : En}{σ : St}{H H':Hp}{F:Nat->List Addr}(e:EOF t W ρ σ H F)(s:iQ t.K H H')(hD:∀b,D b->H b=none/\∃xs,H' b=some (.lst xs)):EOF t (λb=>W b\/D b) ρ σ H' F:=by
 have ls:∀{a:Addr} {xs:List V},H a=some (.lst xs)->H' a=some (.lst xs):=λq=>s.1 _ _ q λz=>e.tab.ok.ne z q rfl
 refine e.weak (λ_ _ h=>.inr h) rfl (λb o h=>?_) (λb w=>.inl w) (λb w=>?_) s.2 (λb o h n=>s.1 b o (e.f0 b o h n) λz=>n (e.tab.r b z)) (λb h=>e.n0 b (s.dom b h)) (λb o h=>s.1 b o (e.pn b o h) λz=>(by rw[e.tab.B b z]at h; cases h)) (λi a o mi hi h=>?_) (λi ts b o hi hb h=>?_)
 ·obtain⟨n,h⟩:=fV h
  rw[cW]
  ·exact s.1 b o h λz=>n (e.tab.w b z)
  ·rintro(z|z)
   ·exact n z
   ·rw[(hD b z).1]at h; cases h
 ·rcases w with w|w
  ·rcases e.wl b w with⟨xs,q⟩|⟨ps,q⟩
   ·exact .inl ⟨xs,ls q⟩
   ·by_cases z:Tb t.K b
    ·exact .inr (s.2.dM z)
    ·exact .inr ⟨ps,s.1 b _ q z⟩
  ·exact .inl (hD b w).2
 ·obtain⟨xs,q⟩:=aF.yp ⟨F,e⟩ mi hi
  rw[q]at h
  cases h
  exact ls q
 ·obtain⟨c,ys,h1,d⟩:=e.dp i ts hi
  exact s.1 b o h λz=>d.nt e.tab.ok z hb
theorem EOF.take{W D:Addr->Prop}{ρ : En}{σ : St}{H H':Hp}{F:Nat->List Addr}{i:Nat}{a:Addr}{xs:List V}{ts:List Tr}{bs:List Addr}(e:EOF t W ρ σ H F)(e':EOF t (λb=>W b\/D b) ρ σ H' F)(hD:∀b∈a::bs,D b/\H b=none)(nd:(a::bs).Nodup)(ha:H' a=some (.lst xs))(r:DR t.K (aA (λb=>W b\/D b) H') H' xs ts bs):aF t (λb=>W b\/D b) (ρ.set i (.dp ts)) (σ.set i (some (.ref a))) H':=by
 have e0:aF t W ρ σ H:=⟨F,e⟩
 refine e'.Lk nd (λb hb=>⟨.inr (hD b hb).1,e.n0 b (hD b hb).2⟩) (λb hb=>e0.vh (hD b hb).2) (λj us hj b hb z=>?_) (λj c mj hj hc=>?_) ha r
 ·obtain⟨c,ys,h1,bs',ef,_,ww,_,_⟩:=e.dp j us hj
  exact e0.wn b (ww b z).1 (hD b hb).2
 ·obtain⟨ys,q⟩:=e0.yp mj hj
  rw[(hD c hc).2]at q
  cases q
def zp(i:Nat)(F:FD)(fa:AF):SF:=λρ=>(fa ρ).bind λp=>if p.1.any aQ=true then .bad else(drs p.2 p.1).bind λas=>(F as).bind λts=>.ok (.nx,p.2.set i (.dp ts))
theorem YX(hK:t.K=au K){cl:Str->Addr}{n:Nat}{F:FD}{E:XK}{ta:TA}{fa:AF}(i:Nat)(hx:∀c H',F0 t H'->t.EX c->E (.ref (cl c)) none H')(hn:∀ρ p,fa ρ=.ok p->p.1.length=n)(ha:SA t ta fa):SS t (lF (jO (vN K cl n F) [] E ta) (fH i)) (zp i F fa):=λW ρ σ H D e h=>by
 have h:=Rs.aH h
 cases ek:fa ρ with
 |bad=>rw[ek]at h; exact h.elim
 |ex c=>exact ha W ρ σ H _ e (by rw[ek]at h ⊢; exact h)
 |ok p =>
 have hl:=hn ρ p ek
 rw[ek]at h
 refine ha W ρ σ H _ e (post_eq ek ?_)
 intro vs H1 e1 s1 v1
 have h:(if p.1.any aQ=true then Rs.bad else((drs p.2 p.1).bind λas=>(F as).bind λts=>.ok (.nx,p.2.set i (.dp ts))):Rs (Fl × En)).post _ _:=h
 split at h
 ·exact h.elim
 rename_i an
 obtain⟨as,k1,h⟩:=cj (Rs.aH h) (rY _ _)
 have rr:aC (au K) (aA W H1) vs as:=by
  rw[<-hK]
  exact CT e.wn v1 k1 (by simpa using an)
 show vN K cl n F (vs++[]) H1 _ E
 rw[List.append_nil]
 refine⟨W,as,v1.length.trans hl,rr,e1.wl,by rw[<-hK]; exact e1.tab.ok,?_⟩
 have h:=Rs.aH h
 cases ef:F as with
 |bad=>rw[ef]at h; exact h.elim
 |ex c =>
  rw[ef]at h
  exact λH' sm=>hx c H' ⟨λb o q nr=>sm.1 b o (e1.f0 b o q nr) λz=>nr (e1.tab.r b (by rw[hK]; exact z)),by rw[hK]; exact sm.2⟩ h
 |ok ts =>
  rw[ef]at h
  have h:lQ t W H D (.nx,p.2.set i (.dp ts)):=h
  intro v H' sm vr
  rw[<-hK]at vr sm
  obtain⟨a,xs,bs,rfl,nd,nw,hq,r⟩:=vr
  obtain⟨G,e1⟩:=e1
  have e2:=e1.YW (D:=λb=>b∈a::bs) sm nw
  refine h (λb=>W b\/b∈a::bs) _ H' (e1.take e2 (λb hb=>⟨hb,(nw b hb).1⟩) nd hq r) λb o n q=>?_
  have q1:=s1.keep b o n q
  refine⟨λz=>z.elim n λz=>?_,sm.1 b o q1 λz=>n (e1.tab.w b z)⟩
  rw[(nw b z).1]at q1
  cases q1
end
end L2
end
section
namespace L2
open PySem PySem.Spec PyProof.Rows
section
variable {t:Tx}{K:FZ}{W:Addr->Prop}{ρ : En}{σ : St}{H:Hp}{F:Nat->List Addr}
end
end L2
end
section
namespace L2
open PySem PySem.Spec PyProof.Rows
section
variable {t:Tx}{K:FZ}
def qQ(i:Nat):SF:=λρ=>(cH ρ i).bind λts=>match ts with
 |.lst us::_=>if us.length<=1000/\ts.length<=1000 then .ok (.nx,ρ.set i .un)else .bad
 |_=>.bad
theorem YZ(hK:t.K=au K)(i:Nat){K':FZ}{T:Tr}{tR:TS}{r:SF}(hr:SS t tR r):SS t (uw (ux (ql K "list" Bf (gq (uM K) (oG i) (tC (.int 0))) (gQ (oX K' T) jf))) (uw (ux (ql K "list" Bf (oG i) (gQ (Ax jf) jf))) tR)) (aL (qQ i) r):=λW ρ σ H D e h=>by
 obtain⟨p,kp,h⟩:=cj (Rs.aH h) (λc z=>by
  unfold qQ at z
  cases q:cH ρ i with
  |bad=>rw[q]at z; cases z
  |ex c'=>exact Lh _ _ _ q
  |ok ts =>
   rw[q]at z
   change (match ts with
    |.lst us::_=>if us.length<=1000/\ts.length<=1000 then Rs.ok (Fl.nx,ρ.set i .un)else .bad
    |_=>.bad)=_ at z
   split at z
   ·split at z <;> cases z
   ·cases z)
 unfold qQ at kp
 cases q:cH ρ i with
 |bad=>rw[q]at kp; cases kp
 |ex c'=>rw[q]at kp; cases kp
 |ok ts =>
  rw[q]at kp
  change (match ts with
   |.lst us::_=>if us.length<=1000/\ts.length<=1000 then Rs.ok (Fl.nx,ρ.set i .un)else .bad
   |_=>.bad)=_ at kp
  split at kp
  case h_2=>cases kp
  rename_i us ts'
  split at kp
  case isFalse=>cases kp
  rename_i hl
  cases kp
  have hi:=Li q
  obtain⟨F,e⟩:=e
  obtain⟨a,xs,q1,bs,ef,nd,ww,ha,dr⟩:=e.dp i _ hi
  cases dr with
  |cl n _ _=>cases n
  | @rw b ys _ xs' _ bs' hb qy Y0 =>
   have na:a∈F i:=by rw[ef]; exact List.mem_cons_self ..
   have nb:b∈F i:=by rw[ef]; exact List.mem_cons_of_mem _ (List.mem_cons_self ..)
   have nab:a≠b:=λz=>by
    rw[ef,z]at nd
    exact(List.nodup_cons.mp nd).1 (List.mem_cons_self ..)
   have ly:ys.length<=1000:=by rw[qy.length]; exact hl.1
   have lx:xs'.length+1<=1000:=by
    have:=Y0.len
    have:=hl.2
    rw[List.length_cons]at this
    omega
   have z1:ys.length<sizeLine:=by rw[sizeLine_eq]; omega
   have z2:(V.ref b::xs').length<sizeLine:=by rw[sizeLine_eq,List.length_cons]; omega
   refine⟨_,q1,.inl ⟨a,_,0,.ref b,rfl,rfl,bG.of ha,by simp[cB,cR],.inl ⟨rfl,ys,bG.of hb⟩,λv H1 s1 _=>⟨b,ys,v,rfl,rfl,s1 b _ hb,z1,?_⟩⟩⟩
   have Ed:upd H1 b (.lst (ys++[v])) a=some (.lst (.ref b::xs')):=by rw[aN nab]; exact s1 a _ ha
   refine⟨_,q1,.inl ⟨rfl,_,bG.of Ed⟩,by rw[sizeLine_eq]; decide,λp hp=>?_⟩
   have Y4:p≠a:=λz=>by rw[z,Ed]at hp; cases hp
   have MJ:p≠b:=λz=>by rw[z,dh]at hp; cases hp
   have MK:H1 p=none:=by rw[aN MJ]at hp; exact hp
   have Y5:H p=none:=by
    cases w:H p with
    |none=>rfl
    |some o=>rw[s1 p o w]at MK; cases MK
   refine⟨a,_,.ref p,rfl,rfl,by rw[aN (Ne.symm Y4)]; exact Ed,z2,?_⟩
   generalize Ef:upd (upd (upd H1 b (.lst (ys++[v]))) p (.lst [])) a (.lst (.ref b::xs'++[.ref p]))=H4
   have k4:∀c o,c≠a->c≠b->H c=some o->H4 c=some o:=λc o n1 n2 w=>by
    have n3:c≠p:=λz=>by rw[z,Y5]at w; cases w
    rw[<-Ef,aN n1,aN n3,aN n2]
    exact s1 c o w
   have ka:∃l,H4 a=some (.lst l):=⟨_,by rw[<-Ef,dh]⟩
   have kb:∃l,H4 b=some (.lst l):=⟨_,by rw[<-Ef,aN (Ne.symm nab),aN (Ne.symm MJ),dh]⟩
   have n4:∀c,H4 c=none->H c=none:=λc w=>by
    cases z:H c with
    |none=>rfl
    |some o =>
     by_cases z1:c=a
     ·obtain⟨l,k⟩:=ka; rw[z1,k]at w; cases w
     ·by_cases z2:c=b
      ·obtain⟨l,k⟩:=kb; rw[z2,k]at w; cases w
      ·rw[k4 c o z1 z2 z]at w; cases w
   have st:aY W H H4:=⟨λc o n w=>k4 c o (λz=>n (z▸(ww a na).1)) (λz=>n (z▸(ww b nb).1)) w,n4⟩
   have e4:EOF t W (ρ.set i .un) σ H4 F:=by
    have jU:∀(j:Nat) (s:Sl),(ρ.set i .un)[j]?=some s->(j=i/\s=.un)\/(j≠i/\ρ[j]?=some s):=λj s h=>by
     rcases get_set h with⟨z1,z2,_⟩|z
     ·exact .inl ⟨z1,z2⟩
     ·exact .inr z
    refine e.weak (λj s w=>?_) (List.length_set ..) st.off (λ_ w=>w) (λc w=>?_) (e.tab.ok.fr λc o n w=>?_) (λc o w n=>?_) (λc w=>e.n0 c (n4 c w)) (λc o w=>?_) (λj c o m w k=>?_) (λj us' c o w m k=>?_)
    ·rcases jU j s w with⟨_,z⟩|⟨_,z⟩
     ·exact .inl z
     ·exact .inr z
    ·by_cases z1:c=a
     ·exact .inl (z1▸ka)
     ·by_cases z2:c=b
      ·exact .inl (z2▸kb)
      ·rcases e.wl c w with⟨l,k⟩|⟨l,k⟩
       ·exact .inl ⟨l,k4 c _ z1 z2 k⟩
       ·exact .inr ⟨l,k4 c _ z1 z2 k⟩
    ·refine k4 c o (λz=>?_) (λz=>?_) w
     ·rw[z,ha]at w; cases w; exact n _ rfl
     ·rw[z,hb]at w; cases w; exact n _ rfl
    ·refine k4 c o (λz=>?_) (λz=>?_) (e.f0 c o w n)
     ·rw[z,(ww a na).2]at w; cases w
     ·rw[z,(ww b nb).2]at w; cases w
    ·refine k4 c o (λz=>?_) (λz=>?_) (e.pn c o w)
     ·rw[z,e.db i _ hi a na]at w; cases w
     ·rw[z,e.db i _ hi b nb]at w; cases w
    ·have mu:Mu ρ j:=by
      obtain⟨zs,q|q⟩:=m <;> rcases jU _ _ q with⟨_,z⟩|⟨n,q⟩
      ·cases z
      ·exact⟨zs,.inl q⟩
      ·cases z
      ·exact⟨zs,.inr q⟩
     have nc:=e.dm i j _ c hi mu w
     exact k4 c o (λz=>nc (z▸na)) (λz=>nc (z▸nb)) k
    ·rcases jU _ _ w with⟨_,z⟩|⟨n,w⟩
     ·cases z
     ·have dj:=e.dd j i _ _ n w hi c m
      exact k4 c o (λz=>dj (z▸na)) (λz=>dj (z▸nb)) k
   refine hr W (ρ.set i .un) σ H4 D ⟨F,e4⟩ (Rs.aM h λp hp=>hp.back st.nxt)
end
end L2
end
section
namespace K68
open PySem L2 BH
def top(i:Nat):Stmt:=PySem.Challenge.pw_bestheads_k68_books_as_texts.main.body.getD i (.Pass ⟨0,0,0,0⟩)
abbrev Eh:Stmt:=top 5
abbrev Ei:Stmt:=top 6
abbrev Ej:Stmt:=top 7
abbrev Ek:Stmt:=top 11
abbrev zq:Stmt:=top 12
abbrev vO:Stmt:=top 13
abbrev El:Stmt:=top 14
abbrev Em:Stmt:=top 17
abbrev zu:Stmt:=top 18
abbrev zx:Stmt:=top 19
abbrev Eo:Stmt:=top 20
abbrev Ep:Stmt:=top 21
abbrev zy:Stmt:=top 22
abbrev Er:Stmt:=top 23
abbrev zA:Stmt:=top 24
abbrev zB:Stmt:=top 24
abbrev Es:Stmt:=top 26
abbrev Et:Stmt:=top 27
abbrev Eu:Stmt:=top 28
abbrev Ew:Stmt:=top 29
abbrev Ey:Stmt:=top 30
abbrev Ez:Stmt:=top 31
abbrev EY:Stmt:=top 32
abbrev vP:Stmt:=top 33
abbrev Fb:Stmt:=top 34
abbrev Fd:Stmt:=top 35
abbrev Fe:Stmt:=top 36
abbrev zE:Stmt:=top 37
abbrev zF:Stmt:=top 38
abbrev Fg:Stmt:=top 39
structure Nm(mg:Str->Option Value):Prop where
 MN:mg "abs" = none
 zG:mg "all" = none
 MP:mg "bool" = none
 Fi:mg "int" = none
 kY:mg "isinstance" = none
 jW:mg "len" = none
 tD:mg "list" = none
 Y6:mg "max" = none
 Y7:mg "min" = none
 zH:mg "range" = none
 tE:mg "str" = none
 M4:mg "tuple" = none
 M5:mg "zip" = none
def Fj:SF:=(aL (cF (aj 0) (gT 2 (eH (gN 1) (eH (gN 2) jD)))) (aX (sy (bY (aB bH (aj 2) (eC (.int 1)))) (bh (g1 jC) (ak (aj 1) ao)) (pO [(iK mV (aj 1)),(eC (.str "/")),(iK mV (aj 2))] Str.empty))))
def qR:FP:=aU 3 Fj
def M6:SF:=(aX (iW jJ (eC (.str " ")) (dg [none] (dR (aj 0)) (gN 0) cG (aV qR (ak (aj 0) ao)))))
def tG:FP:=aU 1 M6
def M7:SF:=(aL (nM (aV qO (ak (aj 0) ao))) (aX (iW jJ (eC (.str "\n")) (dg [none] (dR (aj 0)) (gN 0) cG (aV tG (ak (aj 0) ao))))))
def lY:FP:=aU 1 M7
noncomputable def M8:SF:=(aL (cA (dZ (bV (bT (iK (pN Txt.isascii) (aj 0)))) (dZ (bV (bT (iK (pN Txt.isdigit) (aj 0)))) (bY (aB dU (bh (g1 aW) (ak (aj 0) ao)) (aj 1))))) (aX (eC .non)) cu) (aL (cA (u9 (bY (aB bH (aB bD (aj 0) (eC (.int 0))) (eC (.str "0")))) (bY (aB bN (aj 0) (eC (.str "0"))))) (aX (eC .non)) cu) (aX (bh (g1 kW) (ak (aj 0) ao)))))
def mX:FP:=aU 2 M8
noncomputable def Fo:SF:=(aL (cF (iW nZ (aj 0) (eC (.str "/"))) (gT 3 (eH (gN 2) (eH (gN 3) (eH (gN 4) jD))))) (aL (cF (aV mX (ak (aj 2) (ak (aj 1) ao))) (gN 5)) (aL (cF (sy (bT (aj 3)) (aV mX (ak (aj 4) (ak (aj 1) ao))) (eC (.int 1))) (gN 6)) (aL (cA (dZ (u9 (bT (aj 3)) (bY (aB bH (aj 6) (eC (.int 1))))) (bV (bT (aV nU (ak (u6 (ak (aj 5) (ak (aj 6) ao))) ao))))) (aX (eC .non)) cu) (aX (u6 (ak (aj 5) (ak (aj 6) ao))))))))
def oA:FP:=aU 7 Fo
def M9:SF:=(aL (sI 2 (dg [none,some 1] (dR (aj 0)) (gN 0) cG (aV oA (ak (aj 0) (ak (aj 1) ao))))) (aX (sy (dZ (bV (bT (aj 2))) (bY (aB (dY id) (eC .non) (aj 2)))) (eC .non) (aj 2))))
def pP:FP:=aU 3 M9
noncomputable def Y8:SF:=(aL (nM (aV kO (ak (aj 0) ao))) (aL (cF (dg [none] (dR (iW jr (aj 0) (eC (.str "\n")))) (gN 0) cG (aV pP (ak (iW jr (aj 0) (eC (.str " "))) (ak (eC (.int 40)) ao)))) (gN 1)) (aL (cA (bV (bT (aV iU (ak (aj 1) ao)))) (nQ "NoText" (eC (.str "this is no text of a book"))) cu) (aX (aj 1)))))
def tH:FP:=aU 2 Y8
noncomputable def Y9:DF:=(oh (nM (aV kO (ak (aj 0) ao))) (oh (tu 1 [none] (dR (iW jr (aj 0) (eC (.str "\n")))) (gN 0) cG (aV pP (ak (iW jr (aj 0) (eC (.str " "))) (ak (eC (.int 40)) ao)))) (oh (cA (mW (bV (bT (aV iU (ak (aj 1) ao))))) (nQ "NoText" (eC (.str "this is no text of a book"))) cu) (λρ=>cH ρ 1))))
def tK:FD:=MF 2 Y9
noncomputable def Fp:SF:=(aL (cF (aB bJ (aB dB (aB cP (aj 0) (eC (.int 2147483629))) (eC (.int 69621))) (aB dB (aB dB (eC (.int 40503)) (aj 1)) (aj 1))) (gN 2)) (aL (cF (aB cP (aB bJ (aB bJ (aj 2) (aB dB (eC (.int 16807)) (aj 1))) (eC (.int 1048583))) (eC (.int 2147483647))) (gN 2)) (aL (cF (aB cP (aB dB (aj 2) (aj 2)) (eC (.int 2147483629))) (gN 2)) (aX (aB cP (aB dB (aj 2) (aB bJ (aj 2) (eC (.int 2)))) (eC (.int 2147483587)))))))
def tL:FP:=aU 3 Fp
noncomputable def Fq:SF:=(aL (cF (eC (.int 0)) (gN 2)) (aL (cA (bY (aB cZ (aj 1) (bh (g1 aW) (ak (aj 0) ao)))) (cF (aB bD (aj 0) (aj 1)) (gN 2)) cu) (aL (cA (bY (aB fL (aj 2) (aB fK (eC (.int 10)) (eC (.int 18))))) (aX (rZ (ak (aB dD (aj 2) (aB fK (eC (.int 10)) (eC (.int 18)))) ao))) cu) (aL (cF (eC (.int 0)) (gN 3)) (aL (gj (iM (jE (ak (eC (.int 20)) ao)) (gN 4) (cF (aB bJ (aB dB (aj 3) (eC (.int 2147483587))) (aV tL (ak (aj 2) (ak (aB bJ (aB dB (eC (.int 31)) (aj 1)) (aj 4)) ao)))) (gN 3)))) (aX (rZ (ak (aj 3) ao))))))))
def qT:FP:=aU 5 Fq
def Ft:SF:=(aL (cF (aB cP (aB bD (aj 0) (eC (.int 0))) (aj 1)) (gN 2)) (aL (vo 0 (eC (.int 0)) (aB gA (aB bD (aj 0) (eC (.int 0))) (aj 1))) (aX (aj 2))))
def jX:FR:=jo 3 0 Ft
def Nb:SF:=(aL (gj (sJ (vD 1) (bY (aB bN (aj 1) (eC (.int 0)))) (vp 0 1 (ak (aj 1) (ak (aB cP (aj 0) (aj 1)) ao))))) (aX (bh (g1 gC) (ak (aj 0) ao))))
def zJ:FP:=aU 2 Nb
def Fv:SF:=(aL (cF (aV zJ (ak (aj 0) (ak (aj 1) ao))) (gN 2)) (aL (cA (bY (aB cZ (aj 1) (eC (.int 0)))) (cF (aB dD (eC (.int 0)) (aj 2)) (gN 2)) cu) (aX (u6 (ak (aB gA (aj 0) (aj 2)) (ak (aB gA (aj 1) (aj 2)) ao))))))
def tM:FP:=aU 3 Fv
def Nf:SF:=(aX (pB (gW .int (aj 0)) (yc (gW .bool (aj 0)))))
def pQ:FP:=aU 1 Nf
noncomputable def Fw:SF:=(aL (cF (iT 0 jX (ak (aj 0) (ak (eC (.int 8)) ao))) (gN 1)) (aL (cA (bY (aB cZ (aj 1) (eC (.int 2)))) (aX (aB bD (yM [.tup [.int 0,.int 1],.tup [.int 1,.int 1]]) (aj 1))) cu) (aL (cF (aB bD (yM [.int 2,.int 3,.int 4,.int 6,.int 12,.int 0]) (aB dD (aj 1) (eC (.int 2)))) (gN 2)) (aL (cA (bY (aB bH (aj 2) (eC (.int 0)))) (cF (aB bJ (eC (.int 1)) (iT 0 jX (ak (aj 0) (ak (aB dD (aB fK (eC (.int 10)) (eC (.int 12))) (eC (.int 1))) ao)))) (gN 2)) cu) (aX (aV tM (ak (iT 0 jX (ak (aj 0) (ak (aB bJ (aj 2) (eC (.int 1))) ao))) (ak (aj 2) ao))))))))
def mY:FR:=jo 3 0 Fw
noncomputable def Ng:SF:=(aL (cF (aB bJ (eC (.int 1)) (iT 0 jX (ak (aj 0) (ak (eC (.int 4)) ao)))) (gN 1)) (aL (cF (aB bJ (eC (.int 1)) (iT 0 jX (ak (aj 0) (ak (eC (.int 12)) ao)))) (gN 2)) (aX (dg [none,some 2,some 0] (jE (ak (aj 1) ao)) (gN 0) cG (dg [none,some 2] (jE (ak (aj 1) ao)) (gN 0) cG (iT 0 mY (ak (aj 1) ao)))))))
def tO:FR:=jo 3 0 Ng
noncomputable def Fx:SF:=(aL (cA (bY (aB bH (aB bD (aj 0) (eC (.int 1))) (eC (.int 1)))) (aX (bh (g1 jC) (ak (aB bD (aj 0) (eC (.int 0))) ao))) cu) (aX (aB bJ (aB bJ (bh (g1 jC) (ak (aB bD (aj 0) (eC (.int 0))) ao)) (eC (.str "/"))) (bh (g1 jC) (ak (aB bD (aj 0) (eC (.int 1))) ao)))))
def qU:FP:=aU 1 Fx
noncomputable def Nh:SF:=(aL (cF (eC (.str "")) (gN 1)) (aL (gj (iM (dR (aj 0)) (gN 2) (aL (iM (dR (aj 2)) (gN 3) (cF (aB bJ (aB bJ (aj 1) (aV qU (ak (aj 3) ao))) (eC (.str " "))) (gN 1))) (cF (aB bJ (vg (aj 1) vd (vf (iK j5 (eC (.int 1))))) (eC (.str "\n"))) (gN 1))))) (aX (vg (aj 1) vd (vf (iK j5 (eC (.int 1))))))))
def pR:FP:=aU 4 Nh
noncomputable def Ni:SF:=(aL (cA (dZ (bV (bT (gW .list (aj 0)))) (bY (aB bN (bh (g1 aW) (ak (aj 0) ao)) (bh (g1 aW) (ak (aj 1) ao))))) (aX (eC (.bl false))) cu) (aL (gj (iM (mU (ak (aj 0) (ak (aj 1) ao))) (gT 2 (eH (gN 2) (eH (gN 3) jD))) (aL (cA (dZ (bV (bT (gW .tuple (aj 2)))) (dZ (bY (aB bN (bh (g1 aW) (ak (aj 2) ao)) (eC (.int 2)))) (dZ (bV (bT (aV pQ (ak (aB bD (aj 2) (eC (.int 0))) ao)))) (bV (bT (aV pQ (ak (aB bD (aj 2) (eC (.int 1))) ao))))))) (aX (eC (.bl false))) cu) (cA (bY (aB bN (aj 2) (aj 3))) (aX (eC (.bl false))) cu)))) (aX (eC (.bl true)))))
def tQ:FP:=aU 4 Ni
noncomputable def Nj:SF:=(aL (cA (dZ (bV (bT (gW .list (aj 0)))) (bY (aB bN (bh (g1 aW) (ak (aj 0) ao)) (bh (g1 aW) (ak (aj 1) ao))))) (aX (eC (.bl false))) cu) (aX (bh (g1 c7) (ak (dg [none,none] (mU (ak (aj 0) (ak (aj 1) ao))) (gT 2 (eH (gN 0) (eH (gN 1) jD))) cG (aV tQ (ak (aj 0) (ak (aj 1) ao)))) ao))))
def mZ:FP:=aU 2 Nj
noncomputable def Za:SF:=(aL (sI 1 (dg [none] (dR (aj 0)) (gN 0) cG (bh (g1 cU) (ak (aj 0) ao)))) (aL (cF (aV pR (ak (aj 0) ao)) (gN 2)) (aL (cF (aV lY (ak (aj 1) ao)) (gN 3)) (aL (cA (dZ (bV (bT (gW .str (aj 3)))) (dZ (bY (aB bN (aj 3) (aj 2))) (bY (aB bN (aj 1) (aj 0))))) (aX (eC (.bl false))) cu) (aL (zp 4 tK (ak (aj 2) ao)) (aL (cA (mW (bV (bT (aV mZ (ak (aj 4) (ak (aj 0) ao)))))) (aX (eC (.bl false))) cu) (aL (qQ 4) (aL (cA (bV (bT (aV mZ (ak (aV tH (ak (aj 2) ao)) (ak (aj 0) ao))))) (aX (eC (.bl false))) cu) (aL (vo 1 (eC (.int 0)) (bh (g1 cU) (ak (yJ (aB bD (aj 0) (iK j5 (eC (.int 1))))) ao))) (aX (pB (aB bH (aV lY (ak (aj 1) ao)) (aV pR (ak (aj 1) ao))) (aB bH (aV lY (ak (aj 0) ao)) (aj 2)))))))))))))
def tU:FP:=aU 5 Za
noncomputable def Zb:SF:=(aL (gj (iM (jE (ak (bh (g2 fQ) (ak (bh (g2 fP) (ak (bh (g1 aW) (ak (aj 0) ao)) (ak (eC (.int 30)) ao))) (ak (eC (.int 1)) ao))) ao)) (gN 1) (cA (bV (bT (aV tU (ak (vK tO (aV qT (ak (aj 0) (ak (aj 1) ao)))) ao)))) (aX (eC (.bl false))) cu))) (aX (eC (.bl true))))
def vQ:FP:=aU 2 Zb
end K68
end
section
namespace K68
open PySem L2 BH
local macro_rules | `(tactic| walk_at "1")=>`(tactic| exact λ_ _ _ _ _ _ us hl=>match us,hl with | [_],_=>by kernel_rfl)
local macro_rules | `(tactic| walk_at "2")=>`(tactic| exact λ_ _ _ _ _ _ us hl=>match us,hl with | [_,_],_=>by kernel_rfl)
local macro_rules | `(tactic| walk_at "s")=>`(tactic| first|refine Xa (by assumption) ?_ ?_|(refine Kr (by assumption) ?_; exact vm (jl _) (vm (jl _) (vm (jl _) Kq)))|(refine Kr (by assumption) ?_; exact vm (jl _) (vm (jl _) Kq)))
local macro_rules | `(tactic| walk_at "s")=>`(tactic| with_reducible first|exact cC _|refine cL ?_ ?_|exact dH|refine eU ?_|exact gD|exact qx _|refine jk ?_ ?_|exact jl _|exact mO|refine Dj (by assumption) ?_ ?_|refine lV ?_|refine yh (js:=?_) ?_ ?_ ?_|refine pK (by assumption) (by assumption) ?_ ?_|refine kh (by assumption) (by assumption) ?_ ?_|refine WK ?_|refine WD ?_ ?_|exact Wz|exact Dh|exact Cp|refine Kc ?_ ?_|exact o7 _|exact Xn (by assumption)|refine Yg (js:=?_) (by assumption) ?_ ?_ (λ_ _ _=>?_) (λ_ _ _=>?_) ?_ (by decide)|refine Vd ?_ ?_ ?_|refine yd (by assumption) _ ?_|refine U4 ?_|exact Uh|refine Vc ?_|refine Vj (by assumption) ?_ ?_ ?_|exact nH _|refine U5 ?_|refine YC ?_ ?_|exact YB|refine Ky ?_|refine sS (by assumption) ?_|refine XJ (by assumption) ?_|exact Vg|refine Vh ?_|exact sX (by decide)|refine Cz ?_|refine Ku (js:=?_) ?_ ?_ ?_ ?_|refine lW ?_ ?_ ?_|exact lR|refine Ye (by assumption) (λ_ _ _=>?_)|refine Ks _ ?_|refine VF _ _ ?_|refine Kz _ ?_ ?_|refine Vt _ ?_ ?_|refine Va ?_ ?_|refine j6 ?_|refine xZ ?_ ?_|refine su ?_|refine Yd (by assumption) ?_|refine Ym _ ?_|refine W6 (by assumption) ?_|refine WM (by assumption) ?_ ?_|refine Dk (by assumption) ?_|refine K7 (by assumption) ?_ ?_ ?_ ?_ ?_ ?_ ?_|refine WT (by assumption) ?_ ?_|refine x_eq (by assumption) ?_ ?_|refine YD ?_ _|refine Yz ?_|refine x_ge (by assumption) ?_ ?_|refine W4 (by assumption) ?_ ?_|refine WY (by assumption) ?_ ?_|refine YJ (by assumption) ?_|refine Yu (by assumption) ?_ ?_|refine x_len (by assumption) ?_|refine x_lt (by assumption) ?_ ?_|refine WW (by assumption) ?_ ?_|refine WR (by assumption) ?_ ?_|refine Di (by assumption) ?_ ?_|refine K8 ?_|refine Yt ?_ ?_|refine WX (by assumption) ?_ ?_|refine W7 (by assumption) ?_|refine WQ (by assumption) ?_ ?_)
local macro_rules | `(tactic| walk_at "t")=>`(tactic| ((try dsimp only[jA]); repeat' walk_at "s"))
section
variable {P:Program}{w:World}{K:FZ}{mg:Str->Option Value}{base:Heap}{cl:Str->Addr}
theorem Zc(a:At K mg "_law_book" vP) (M:Nm mg) (tV:aP P w K mg base 1 "_law_take" (["_law_pile_here", "_law_size"]:List Str) (jF K 2 0 jX)) (Zd:aP P w K mg base 3 "_law_worth" (["_law_pile_here"]:List Str) (jF K 1 0 mY)):aP P w K mg base 4 "_law_book" (["_law_pile_here"]:List Str) (jF K 1 0 tO):=by
 have S:=fS (["_law_pile_here", "_law_lists", "_law_many"]:List Str) (["_law_pile_here"]:List Str) (bw vP)
 exact a.CV 0 S (cl:=λ_=>0) (by decide) (by walk_at "1") (λf cdv A outer s H E hr=>⟨_,(bF (fX 1 S.nd (cg jh aZ (pc1 (E:=E) tV hr dX (aG (mQ 0) (aG aZ aK))))) (bF (Xo 2 S.nd rfl (cg jh aZ (pc1 (E:=E) tV hr dX (aG (mQ 0) (aG aZ aK))))) (bB (bO (oU (sc:=bw vP) (No:=(["_law_pile_here", "_law_lists", "_law_many"]:List Str)) (N:=(["_law_j", "_law_many", "_law_pile_here"]:List Str)) (src:=[none,some 2,some 0]) (g:=(fH 0)) rfl rfl ⟨by rfl,by decide +kernel,by decide +kernel,by decide +kernel,by rfl,by decide +kernel⟩ rfl (yO M.zH (aG (aq 1) aK)) (λC s H ex=>(eV 0 (show List.Nodup (["_law_j", "_law_many", "_law_pile_here"]:List Str) by decide +kernel))) (λC s H ex=>(oU (sc:=Sq _ (bw vP)) (No:=(["_law_j", "_law_many", "_law_pile_here"]:List Str)) (N:=(["_law_k", "_law_pile_here"]:List Str)) (src:=[none,some 2]) (g:=(fH 0)) rfl rfl ⟨by rfl,by decide +kernel,by decide +kernel,by decide +kernel,by rfl,by decide +kernel⟩ rfl (yO M.zH (aG (mQ 1) aK)) (λC s H ex=>(eV 0 (show List.Nodup (["_law_k", "_law_pile_here"]:List Str) by decide +kernel))) (λC s H ex=>(gY Zd hr (aG (mQ 1) aK)))))))))),λt hK hx=>by delta Ng; walk_at "t"⟩)
theorem Ze(a:At K mg "_law_book_text" Fd) (M:Nm mg) (Zf:aP P w K mg base 1 "_law_frac_text" (["_law_some"]:List Str) (bC K cl 1 qU)):aP P w K mg base 2 "_law_book_text" (["_law_book_here"]:List Str) (bC K cl 1 pR):=by
 have S:=fS (["_law_book_here", "_law_text", "_law_worths", "_law_worth_here"]:List Str) (["_law_book_here"]:List Str) (bw Fd)
 exact a.eO S (cl:=cl) (by decide) (by walk_at "1") (λf cdv A outer s H E hr=>⟨_,(bF (fX 1 S.nd gF) (bF (PS.oH (uE PassesOwn.never rfl (lX (aq 0)) (eV 2 S.nd) (bF (uE PassesOwn.never rfl (lX (aq 2)) (eV 3 S.nd) (bB (fX 1 S.nd (cg jh (cg jh (aq 1) (gY Zf hr (aG (aq 3) aK))) gF)))) (bB (fX 1 S.nd (cg jh (Ja Kh (aq 1) IV (Bb (uF uH aZ))) gF)))))) (bB (bO (Ja Kh (aq 1) IV (Bb (uF uH aZ))))))),λt hK hx=>by delta Nh; walk_at "t"⟩)
theorem Zg(a:At K mg "_law_frac" Ey) (M:Nm mg) (Zh:aP P w K mg base 1 "_law_shared" (["_law_one", "_law_other"]:List Str) (bC K cl 2 zJ)):aP P w K mg base 2 "_law_frac" (["_law_top", "_law_bottom"]:List Str) (bC K cl 2 tM):=by
 have S:=fS (["_law_top", "_law_bottom", "_law_by"]:List Str) (["_law_top", "_law_bottom"]:List Str) (bw Ey)
 exact a.eO S (cl:=cl) (by decide) (by walk_at "2") (λf cdv A outer s H E hr=>⟨_,(bF (fX 2 S.nd (pc1 (E:=E) Zh hr dX (aG (aq 0) (aG (aq 1) aK)))) (bF (eG (gh (Cr hr.units) (aq 1) aZ (eZ _)) (bB (fX 2 S.nd (cg uG aZ (aq 2)))) eE) (bB (bO (wZ (aG (cg Cm (aq 0) (aq 2)) (aG (cg Cm (aq 1) (aq 2)) aK))))))),λt hK hx=>by delta Fv; walk_at "t"⟩)
theorem Zi(a:At K mg "_law_frac_text" Fb) (M:Nm mg):aP P w K mg base 1 "_law_frac_text" (["_law_some"]:List Str) (bC K cl 1 qU):=by
 have S:=fS (["_law_some"]:List Str) (["_law_some"]:List Str) (bw Fb)
 exact a.eO S (cl:=cl) (by decide) (by walk_at "1") (λf cdv A outer s H E hr=>⟨_,(bF (eG (gh (nA hr.units) (iV (aq 0) aZ) aZ (eZ _)) (bB (bO (qK (xQ hr.gd hr.units) M.tE (aG (iV (aq 0) aZ) aK)))) eE) (bB (bO (cg jh (cg jh (qK (xQ hr.gd hr.units) M.tE (aG (iV (aq 0) aZ) aK)) gF) (qK (xQ hr.gd hr.units) M.tE (aG (iV (aq 0) aZ) aK)))))),λt hK hx=>by delta Fx; walk_at "t"⟩)
theorem Zj(a:At K mg "_law_fracs" Fe) (M:Nm mg) (XT:jV K) (Nk:aP P w K mg base 1 "_law_whole" (["_law_found"]:List Str) (bC K cl 1 pQ)):aP P w K mg base 2 "_law_fracs" (["_law_found", "_law_due"]:List Str) (bC K cl 2 tQ):=by
 have S:=fS (["_law_found", "_law_due", "_law_one", "_law_other"]:List Str) (["_law_found", "_law_due"]:List Str) (bw Fe)
 exact a.eO S (cl:=cl) (by decide) (by walk_at "2") (λf cdv A outer s H E hr=>⟨_,(bF (eG (PW.pt (jd (eY (fB (kE XT.o .list (aq 0) M.kY M.tD) (by intro _; rfl))) (lD (gh (mH hr.units) (gk jR M.jW (aG (aq 0) aK)) (gk jR M.jW (aG (aq 1) aK)) (eZ _))))) (bB (bO iG)) eE) (bF (PS.oH (uE PassesOwn.never rfl (J1 M.M5 (aG (aq 0) (aG (aq 1) aK))) (uz rfl (lE (eV 2 S.nd) (lE (eV 3 S.nd) uy))) (bF (eG (PW.pt (jd (eY (fB (kE XT.o .tuple (aq 2) M.kY M.M4) (by intro _; rfl))) (jd (gh (mH hr.units) (gk jR M.jW (aG (aq 2) aK)) aZ (eZ _)) (jd (eY (fB (gY Nk hr (aG (iV (aq 2) aZ) aK)) (by intro _; rfl))) (lD (eY (fB (gY Nk hr (aG (iV (aq 2) aZ) aK)) (by intro _; rfl)))))))) (bB (bO iG)) eE) (bB (eG (gh (mH hr.units) (aq 2) (aq 3) (eZ _)) (bB (bO iG)) eE))))) (bB (bO iG)))),λt hK hx=>by delta Ni; walk_at "t"⟩)
theorem Zk(a:At K mg "_law_good" zF) (M:Nm mg) (XT:jV K) (Np:aP P w K mg base 2 "_law_book_text" (["_law_book_here"]:List Str) (bC K cl 1 pR)) (Fy:aP P w K mg base 7 "shown_book" (["book"]:List Str) (bC K cl 1 lY)) (Zm:aP P w K mg base 6 "read_book" (["text"]:List Str) (bC K cl 1 tH)) (Nq:aP P w K mg base 3 "_law_same_book" (["_law_found", "_law_book_here"]:List Str) (bC K cl 2 mZ)) (Zn:aP P w K mg base 6 "read_book" (["text"]:List Str) (vN K cl 1 tK)):aP P w K mg base 8 "_law_good" (["_law_book_here"]:List Str) (bC K cl 1 tU):=by
 have S:=fS (["_law_book_here", "_law_handed", "_law_text", "_law_found", "_law_told"]:List Str) (["_law_book_here"]:List Str) (bw zF)
 exact a.eO S (cl:=cl) (by decide) (by walk_at "1") (λf cdv A outer s H E hr=>⟨_,(bF (xG (i:=1) (sc:=bw zF) (No:=(["_law_book_here", "_law_handed", "_law_text", "_law_found", "_law_told"]:List Str)) (N:=(["_law_worths"]:List Str)) (src:=[none]) (g:=(fH 0)) S.nd rfl (Or.inl rfl) rfl rfl ⟨by rfl,by decide +kernel,by decide +kernel,by decide +kernel,by rfl,by decide +kernel⟩ rfl (lX (aq 0)) (λC s H ex=>(eV 0 (show List.Nodup (["_law_worths"]:List Str) by decide +kernel))) (λC s H ex=>(qK Jq M.tD (aG (aq 0) aK)))) (bF (fX 2 S.nd (pc1 (E:=E) Np hr dX (aG (aq 0) aK))) (bF (fX 3 S.nd (pc1 (E:=E) Fy hr dX (aG (aq 1) aK))) (bF (eG (PW.pt (jd (eY (fB (kE XT.o .str (aq 3) M.kY M.tE) (by intro _; rfl))) (jd (gh (mH hr.units) (aq 3) (aq 2) (eZ _)) (lD (gh (mH hr.units) (aq 1) (aq 0) (eZ _)))))) (bB (bO iG)) eE) (bF (fX 4 S.nd (pc1 (E:=E) Zn hr dX (aG (aq 2) aK))) (bF (eG (eY (fB (gY Nq hr (aG (aq 4) (aG (aq 0) aK))) (by intro _; rfl))) (bB (bO iG)) eE) (bF (psE (m9 PySem.F.plainAttrs_list PySem.F.slot_list_append PySem.F.type_list_append Bg (iV (aq 4) aZ) (qj (Xm (G:=au K) (Ts:=[.int 0,.int 1]) (by kernel_rfl)) aK))) (bF (psE (m9 PySem.F.plainAttrs_list PySem.F.slot_list_append PySem.F.type_list_append Bg (aq 4) (qj (w6 aK) aK))) (bF (eG (eY (fB (pc1 (E:=E) Nq hr dX (aG (pc1 (E:=E) Zm hr dX (aG (aq 2) aK)) (aG (aq 0) aK))) (by intro _; rfl))) (bB (bO iG)) eE) (bF (uD (qK Jq M.tD (aG (Ub (iV (aq 0) (uF uH aZ)) (Bb (uF uH aZ))) aK)) (Hy (aq 1) aZ set_list)) (bB (bO (ur (uJ (nA hr.units) (pc1 (E:=E) Fy hr dX (aG (aq 1) aK)) (pc1 (E:=E) Np hr dX (aG (aq 1) aK)) (eZ _)) (uq (uJ (nA hr.units) (pc1 (E:=E) Fy hr dX (aG (aq 0) aK)) (aq 2) (eZ _)))))))))))))))),λt hK hx=>(jk (Ks 1 (vC (sS hK (cC 0)) (sU (by decide)) (sX (js:=[0]) (by decide)) mO (λt1 h1 k1=>(jl 0)) (λt1 h1 k1=>(K9 (h1.trans hK) (cL (cC 0) dH))))) (jk (yh (kh hK hx (eU gD) (cL (cC 0) dH)) (jl 2) mO) (jk (yh (kh hK hx (eU gD) (cL (cC 1) dH)) (jl 3) mO) (jk (lW (xZ (j6 (lO hK (yd hK .str (cC 3)))) (xZ (su (Di hK (cC 3) (cC 2))) (su (Di hK (cC 1) (cC 0))))) (lV (o7 _)) lR) (jk (YX (cl:=cl) hK 4 hx (eU gD) (cL (cC 2) dH)) (jk (lW (Mx (λt2 h2 k2=>(j6 (lO (h2.trans hK) (pK (h2.trans hK) k2 (eU (eU gD)) (cL (cC 4) (cL (cC 0) dH))))))) (lV (o7 _)) lR) (YZ hK 4 (jk (lW (j6 (lO hK (kh hK hx (eU (eU gD)) (cL (kh hK hx (eU gD) (cL (cC 2) dH)) (cL (cC 0) dH))))) (lV (o7 _)) lR) (jk (Kz 1 (K9 hK (cL (Xc hK (Dj hK (cC 0) (K8 (qx _)))) dH)) (qx _)) (lV (Kc (x_eq hK (kh hK hx (eU gD) (cL (cC 1) dH)) (kh hK hx (eU gD) (cL (cC 1) dH))) (x_eq hK (kh hK hx (eU gD) (cL (cC 0) dH)) (cC 2)))))))))))))⟩)
theorem Zo(a:At K mg "_law_mixed" Es) (M:Nm mg):aP P w K mg base 1 "_law_mixed" (["_law_cell", "_law_k"]:List Str) (bC K cl 2 tL):=by
 have S:=fS (["_law_cell", "_law_k", "_law_number"]:List Str) (["_law_cell", "_law_k"]:List Str) (bw Es)
 exact a.eO S (cl:=cl) (by decide) (by walk_at "2") (λf cdv A outer s H E hr=>⟨_,(bF (fX 2 S.nd (cg jh (cg pq (cg qe (aq 0) aZ) aZ) (cg pq (cg pq aZ (aq 1)) (aq 1)))) (bF (fX 2 S.nd (cg qe (cg jh (cg jh (aq 2) (cg pq aZ (aq 1))) aZ) aZ)) (bF (fX 2 S.nd (cg qe (cg pq (aq 2) (aq 2)) aZ)) (bB (bO (cg qe (cg pq (aq 2) (cg jh (aq 2) aZ)) aZ)))))),λt hK hx=>by delta Fp; walk_at "t"⟩)
theorem Zq(a:At K mg "_law_pile" Et) (M:Nm mg) (Zr:aP P w K mg base 1 "_law_mixed" (["_law_cell", "_law_k"]:List Str) (bC K cl 2 tL)):aP P w K mg base 2 "_law_pile" (["_law_script", "_law_k"]:List Str) (bC K cl 2 qT):=by
 have S:=fS (["_law_script", "_law_k", "_law_cell", "_law_found", "_law_j"]:List Str) (["_law_script", "_law_k"]:List Str) (bw Et)
 exact a.eO S (cl:=cl) (by decide) (by walk_at "2") (λf cdv A outer s H E hr=>⟨_,(bF (fX 2 S.nd aZ) (bF (eG (gh (Cr hr.units) (aq 1) (gk jR M.jW (aG (aq 0) aK)) (eZ _)) (bB (fX 2 S.nd (iV (aq 0) (aq 1)))) eE) (bF (eG (gh Ib (aq 2) (cg wX aZ aZ) (eZ _)) (bB (bO (w6 (aG (cg uG (aq 2) (cg wX aZ aZ)) aK)))) eE) (bF (fX 3 S.nd aZ) (bF (PS.oH (uE PassesOwn.never rfl (yO M.zH (aG aZ aK)) (eV 4 S.nd) (bB (fX 3 S.nd (cg jh (cg pq (aq 3) aZ) (gY Zr hr (aG (aq 2) (aG (cg jh (cg pq aZ (aq 1)) (aq 4)) aK)))))))) (bB (bO (w6 (aG (aq 3) aK))))))))),λt hK hx=>by delta Fq; walk_at "t"⟩)
theorem Zt(a:At K mg "_law_same_book" zE) (M:Nm mg) (XT:jV K) (Zu:aP P w K mg base 2 "_law_fracs" (["_law_found", "_law_due"]:List Str) (bC K cl 2 tQ)):aP P w K mg base 3 "_law_same_book" (["_law_found", "_law_book_here"]:List Str) (bC K cl 2 mZ):=by
 have S:=fS (["_law_found", "_law_book_here"]:List Str) (["_law_found", "_law_book_here"]:List Str) (bw zE)
 exact a.eO S (cl:=cl) (by decide) (by walk_at "2") (λf cdv A outer s H E hr=>⟨_,(bF (eG (PW.pt (jd (eY (fB (kE XT.o .list (aq 0) M.kY M.tD) (by intro _; rfl))) (lD (gh (mH hr.units) (gk jR M.jW (aG (aq 0) aK)) (gk jR M.jW (aG (aq 1) aK)) (eZ _))))) (bB (bO iG)) eE) (bB (bO (gk (xO rfl) M.zG (aG (oU (sc:=bw zE) (No:=(["_law_found", "_law_book_here"]:List Str)) (N:=(["_law_one", "_law_other"]:List Str)) (src:=[none,none]) (g:=(Ai K 2 (wL (fH 0) (wL (fH 1) Ah)))) rfl rfl ⟨by rfl,by decide +kernel,by decide +kernel,by decide +kernel,by rfl,by decide +kernel⟩ rfl (J1 M.M5 (aG (aq 0) (aG (aq 1) aK))) (λC s H ex=>(uz rfl (lE (eV 0 (show List.Nodup (["_law_one", "_law_other"]:List Str) by decide +kernel)) (lE (eV 1 (show List.Nodup (["_law_one", "_law_other"]:List Str) by decide +kernel)) uy)))) (λC s H ex=>(gY Zu hr (aG (aq 0) (aG (aq 1) aK))))) aK))))),λt hK hx=>by delta Nj; walk_at "t"⟩)
theorem Zv(a:At K mg "_law_shared" Ew) (M:Nm mg):aP P w K mg base 1 "_law_shared" (["_law_one", "_law_other"]:List Str) (bC K cl 2 zJ):=by
 have S:=fS (["_law_one", "_law_other"]:List Str) (["_law_one", "_law_other"]:List Str) (bw Ew)
 exact a.eO S (cl:=cl) (by decide) (by walk_at "2") (λf cdv A outer s H E hr=>⟨_,(bF (PS.oH (HJ PassesOwn.never (gh (mH hr.units) (aq 1) aZ (eZ _)) (bB (HD (i:=0) (j:=1) rfl S.nd rfl rfl (by decide) rfl rfl (aG (aq 1) (aG (cg qe (aq 0) (aq 1)) aK)) rfl)))) (bB (bO (gk Ih M.MN (aG (aq 0) aK))))),λt hK hx=>by delta Nb; walk_at "t"⟩)
theorem Zw(a:At K mg "_law_take" Eu) (M:Nm mg):aP P w K mg base 1 "_law_take" (["_law_pile_here", "_law_size"]:List Str) (jF K 2 0 jX):=by
 have S:=fS (["_law_pile_here", "_law_size", "_law_digit"]:List Str) (["_law_pile_here", "_law_size"]:List Str) (bw Eu)
 exact a.CV 0 S (cl:=λ_=>0) (by decide) (by walk_at "2") (λf cdv A outer s H E hr=>⟨_,(bF (fX 2 S.nd (cg qe (iV (aq 0) aZ) (aq 1))) (bF (uD (cg Cm (iV (aq 0) aZ) (aq 1)) (Hy (aq 0) aZ set_list)) (bB (bO (aq 2))))),λt hK hx=>by delta Ft; walk_at "t"⟩)
theorem Zx(a:At K mg "_law_whole" Ez) (M:Nm mg) (XT:jV K):aP P w K mg base 1 "_law_whole" (["_law_found"]:List Str) (bC K cl 1 pQ):=by
 have S:=fS (["_law_found"]:List Str) (["_law_found"]:List Str) (bw Ez)
 exact a.eO S (cl:=cl) (by decide) (by walk_at "1") (λf cdv A outer s H E hr=>⟨_,(bB (bO (ur (kE XT.o .int (aq 0) M.kY M.Fi) (uq (Hq (kE XT.o .bool (aq 0) M.kY M.MP)))))),λt hK hx=>by delta Nf; walk_at "t"⟩)
theorem Zy(a:At K mg "_law_worth" EY) (M:Nm mg) (tV:aP P w K mg base 1 "_law_take" (["_law_pile_here", "_law_size"]:List Str) (jF K 2 0 jX)) (Zz:aP P w K mg base 2 "_law_frac" (["_law_top", "_law_bottom"]:List Str) (bC K cl 2 tM)):aP P w K mg base 3 "_law_worth" (["_law_pile_here"]:List Str) (jF K 1 0 mY):=by
 have S:=fS (["_law_pile_here", "_law_way", "_law_bottom"]:List Str) (["_law_pile_here"]:List Str) (bw EY)
 exact a.CV 0 S (cl:=cl) (by decide) (by walk_at "1") (λf cdv A outer s H E hr=>⟨_,(bF (fX 1 S.nd (pc1 (E:=E) tV hr dX (aG (aq 0) (aG aZ aK)))) (bF (eG (gh (Cr hr.units) (aq 1) aZ (eZ _)) (bB (bO (iV (Lf (G:=au K) (Ts:=[.tup [.int 0,.int 1],.tup [.int 1,.int 1]]) (by kernel_rfl)) (aq 1)))) eE) (bF (fX 2 S.nd (iV (Lf (G:=au K) (Ts:=[.int 2,.int 3,.int 4,.int 6,.int 12,.int 0]) (by kernel_rfl)) (cg uG (aq 1) aZ))) (bF (eG (gh (nA hr.units) (aq 2) aZ (eZ _)) (bB (fX 2 S.nd (cg jh aZ (pc1 (E:=E) tV hr dX (aG (aq 0) (aG (cg uG (cg wX aZ aZ) aZ) aK)))))) eE) (bB (bO (pc1 (E:=E) Zz hr dX (aG (pc1 (E:=E) tV hr dX (aG (aq 0) (aG (cg jh (aq 2) aZ) aK))) (aG (aq 2) aK))))))))),λt hK hx=>by delta Fw; walk_at "t"⟩)
theorem ZC(a:At K mg "are_worths" zq) (M:Nm mg) (XT:jV K) (ZD:aP P w K mg base 3 "is_worth" (["thing"]:List Str) (bC K cl 1 nY)):aP P w K mg base 4 "are_worths" (["thing", "most"]:List Str) (bC K cl 2 qN):=by
 have S:=fS (["thing", "most"]:List Str) (["thing", "most"]:List Str) (bw zq)
 exact a.eO S (cl:=cl) (by decide) (by walk_at "2") (λf cdv A outer s H E hr=>⟨_,(bF (eG (PW.pt (jd (eY (fB (kE XT.o .list (aq 0) M.kY M.tD) (by intro _; rfl))) (lD (eY (Ie rJ rJ aZ (gk jR M.jW (aG (aq 0) aK)) (aq 1)))))) (bB (bO iG)) eE) (bB (bO (gk (xO rfl) M.zG (aG (oU (sc:=bw zq) (No:=(["thing", "most"]:List Str)) (N:=(["part"]:List Str)) (src:=[none]) (g:=(fH 0)) rfl rfl ⟨by rfl,by decide +kernel,by decide +kernel,by decide +kernel,by rfl,by decide +kernel⟩ rfl (lX (aq 0)) (λC s H ex=>(eV 0 (show List.Nodup (["part"]:List Str) by decide +kernel))) (λC s H ex=>(gY ZD hr (aG (aq 0) aK)))) aK))))),λt hK hx=>by delta Dz; walk_at "t"⟩)
theorem ZF(a:At K mg "common_divisor" Ei) (M:Nm mg):aP P w K mg base 1 "common_divisor" (["one", "other"]:List Str) (bC K cl 2 yU):=by
 have S:=fS (["one", "other"]:List Str) (["one", "other"]:List Str) (bw Ei)
 exact a.eO S (cl:=cl) (by decide) (by walk_at "2") (λf cdv A outer s H E hr=>⟨_,(bF (PS.oH (HJ PassesOwn.never (gh (mH hr.units) (aq 1) aZ (eZ _)) (bB (HD (i:=0) (j:=1) rfl S.nd rfl rfl (by decide) rfl rfl (aG (aq 1) (aG (cg qe (aq 0) (aq 1)) aK)) rfl)))) (bB (bO (gk Ih M.MN (aG (aq 0) aK))))),λt hK hx=>by delta LK; walk_at "t"⟩)
theorem ZG(a:At K mg "fraction_from" Ep) (M:Nm mg) (Nr:aP P w K mg base 1 "whole_from" (["word", "figures"]:List Str) (bC K cl 2 mX)) (Fz:aP P w K mg base 2 "is_fraction" (["thing"]:List Str) (bC K cl 1 nU)):aP P w K mg base 3 "fraction_from" (["word", "figures"]:List Str) (bC K cl 2 oA):=by
 have S:=fS (["word", "figures", "above", "sign", "below", "top", "bottom"]:List Str) (["word", "figures"]:List Str) (bw Ep)
 exact a.eO S (cl:=cl) (by decide) (by walk_at "2") (λf cdv A outer s H E hr=>⟨_,(bF (uD (m9 PySem.F.plainAttrs_str PySem.F.slot_str_partition PySem.F.type_str_partition Yj (aq 0) (aG gF aK)) (uz rfl (lE (eV 2 S.nd) (lE (eV 3 S.nd) (lE (eV 4 S.nd) uy))))) (bF (fX 5 S.nd (pc1 (E:=E) Nr hr dX (aG (aq 2) (aG (aq 1) aK)))) (bF (fX 6 S.nd (Ae (fB (aq 3) (by intro _; rfl)) (pc1 (E:=E) Nr hr dX (aG (aq 4) (aG (aq 1) aK))) aZ)) (bF (eG (PW.pt (jd (PW.pt (Hj (fB (aq 3) (by intro _; rfl)) (Hi (gh (nA hr.units) (aq 6) aZ (eZ _))))) (lD (eY (fB (pc1 (E:=E) Fz hr dX (aG (wZ (aG (aq 5) (aG (aq 6) aK))) aK)) (by intro _; rfl)))))) (bB (bO rF)) eE) (bB (bO (wZ (aG (aq 5) (aG (aq 6) aK))))))))),λt hK hx=>by delta Fo; walk_at "t"⟩)
theorem ZJ(a:At K mg "fractions_from" zy) (M:Nm mg) (ZK:aP P w K mg base 3 "fraction_from" (["word", "figures"]:List Str) (bC K cl 2 oA)):aP P w K mg base 4 "fractions_from" (["words", "figures"]:List Str) (bC K cl 2 pP):=by
 have S:=fS (["words", "figures", "fractions"]:List Str) (["words", "figures"]:List Str) (bw zy)
 exact a.eO S (cl:=cl) (by decide) (by walk_at "2") (λf cdv A outer s H E hr=>⟨_,(bF (xG (i:=2) (sc:=bw zy) (No:=(["words", "figures", "fractions"]:List Str)) (N:=(["word", "figures"]:List Str)) (src:=[none,some 1]) (g:=(fH 0)) S.nd rfl (Or.inl rfl) rfl rfl ⟨by rfl,by decide +kernel,by decide +kernel,by decide +kernel,by rfl,by decide +kernel⟩ rfl (lX (aq 0)) (λC s H ex=>(eV 0 (show List.Nodup (["word", "figures"]:List Str) by decide +kernel))) (λC s H ex=>(gY ZK hr (aG (aq 0) (aG (mQ 1) aK))))) (bB (bO (Ae (PW.pt (jd (eY (fB (aq 2) (by intro _; rfl))) (lD (gh (S7 hr.units) rF (aq 2) (by with_unfolding_all rfl))))) rF (aq 2))))),λt hK hx=>by delta M9; walk_at "t"⟩)
theorem ZL(a:At K mg "is_book" vO) (M:Nm mg) {FJ:V} (zK:Gk K mg "MOST_LISTS" FJ (.int 4)) {FN:V} (zL:Gk K mg "MOST_THINGS" FN (.int 12)) (XT:jV K) (ZM:aP P w K mg base 4 "are_worths" (["thing", "most"]:List Str) (bC K cl 2 qN)):aP P w K mg base 5 "is_book" (["thing"]:List Str) (bC K cl 1 iU):=by
 have S:=fS (["thing"]:List Str) (["thing"]:List Str) (bw vO)
 exact a.eO S (cl:=cl) (by decide) (by walk_at "1") (λf cdv A outer s H E hr=>⟨_,(bF (eG (PW.pt (jd (eY (fB (kE XT.o .list (mQ 0) M.kY M.tD) (by intro _; rfl))) (lD (eY (Ie rJ rJ aZ (gk jR M.jW (aG (mQ 0) aK)) (yN zK)))))) (bB (bO iG)) eE) (bF (eG (eY (fB (gk (xO rfl) M.zG (aG (oU (sc:=bw vO) (No:=(["thing"]:List Str)) (N:=(["row"]:List Str)) (src:=[none]) (g:=(fH 0)) rfl rfl ⟨by rfl,by decide +kernel,by decide +kernel,by decide +kernel,by rfl,by decide +kernel⟩ rfl (lX (mQ 0)) (λC s H ex=>(eV 0 (show List.Nodup (["row"]:List Str) by decide +kernel))) (λC s H ex=>(gY ZM hr (aG (aq 0) (aG (yN zL) aK))))) aK)) (by intro _; rfl))) (bB (bO iG)) eE) (bB (bO (gk (xO rfl) M.zG (aG (oU (sc:=bw vO) (No:=(["thing"]:List Str)) (N:=(["row", "thing"]:List Str)) (src:=[none,some 0]) (g:=(fH 0)) rfl rfl ⟨by rfl,by decide +kernel,by decide +kernel,by decide +kernel,by rfl,by decide +kernel⟩ rfl (lX (mQ 0)) (λC s H ex=>(eV 0 (show List.Nodup (["row", "thing"]:List Str) by decide +kernel))) (λC s H ex=>(uJ (nA hr.units) (gk jR M.jW (aG (aq 0) aK)) (gk jR M.jW (aG (Ji Jm (mQ 1) aZ (λ_ _=>rfl)) aK)) (eZ _)))) aK)))))),λt hK hx=>(jk (lW (xZ (j6 (lO hK (yd hK .list (cC 0)))) (j6 (su (K7 hK Cp Cp Dh Dh (qx _) (x_len hK (cL (cC 0) dH)) (yH hK zK))))) (lV (o7 _)) lR) (jk (lW (j6 (lO hK (Dk hK (cL (vC (sS hK (cC 0)) (sU (by decide)) (sX (js:=[0]) (by decide)) mO (λt1 h1 k1=>(jl 0)) (λt1 h1 k1=>(pK (h1.trans hK) k1 (eU (eU gD)) (cL (cC 0) (cL (yH (h1.trans hK) zL) dH))))) dH)))) (lV (o7 _)) lR) (lV (Dk hK (cL (vC (sS hK (cC 0)) (sU (by decide)) (sX (js:=[0]) (by decide)) mO (λt2 h2 k2=>(jl 0)) (λt2 h2 k2=>(x_eq (h2.trans hK) (x_len (h2.trans hK) (cL (cC 0) dH)) (x_len (h2.trans hK) (cL (Dj (h2.trans hK) (cC 1) (qx _)) dH))))) dH)))))⟩)
theorem ZP(a:At K mg "is_fraction" Ej) (M:Nm mg) (XT:jV K) (Nt:aP P w K mg base 1 "is_whole" (["thing"]:List Str) (bC K cl 1 vL)) (ZQ:aP P w K mg base 1 "common_divisor" (["one", "other"]:List Str) (bC K cl 2 yU)):aP P w K mg base 2 "is_fraction" (["thing"]:List Str) (bC K cl 1 nU):=by
 have S:=fS (["thing", "top", "bottom"]:List Str) (["thing"]:List Str) (bw Ej)
 exact a.eO S (cl:=cl) (by decide) (by walk_at "1") (λf cdv A outer s H E hr=>⟨_,(bF (eG (PW.pt (jd (eY (fB (kE XT.o .tuple (aq 0) M.kY M.M4) (by intro _; rfl))) (lD (gh (mH hr.units) (gk jR M.jW (aG (aq 0) aK)) aZ (eZ _))))) (bB (bO iG)) eE) (bF (uD (aq 0) (uz rfl (lE (eV 1 S.nd) (lE (eV 2 S.nd) uy)))) (bF (eG (PW.pt (jd (eY (fB (pc1 (E:=E) Nt hr dX (aG (aq 1) aK)) (by intro _; rfl))) (lD (eY (fB (pc1 (E:=E) Nt hr dX (aG (aq 2) aK)) (by intro _; rfl)))))) (bB (bO iG)) eE) (bB (bO (ur (uJ Ib (aq 2) aZ (eZ _)) (uq (uJ (nA hr.units) (pc1 (E:=E) ZQ hr dX (aG (aq 1) (aG (aq 2) aK))) aZ (eZ _))))))))),λt hK hx=>by delta Dw; walk_at "t"⟩)
theorem ZR(a:At K mg "is_whole" Eh) (M:Nm mg) (XT:jV K):aP P w K mg base 1 "is_whole" (["thing"]:List Str) (bC K cl 1 vL):=by
 have S:=fS (["thing"]:List Str) (["thing"]:List Str) (bw Eh)
 exact a.eO S (cl:=cl) (by decide) (by walk_at "1") (λf cdv A outer s H E hr=>⟨_,(bB (bO (ur (kE XT.o .int (aq 0) M.kY M.Fi) (uq (Hq (kE XT.o .bool (aq 0) M.kY M.MP)))))),λt hK hx=>by delta LQ; walk_at "t"⟩)
theorem ZS(a:At K mg "is_worth" Ek) (M:Nm mg) (Fz:aP P w K mg base 2 "is_fraction" (["thing"]:List Str) (bC K cl 1 nU)):aP P w K mg base 3 "is_worth" (["thing"]:List Str) (bC K cl 1 nY):=by
 have S:=fS (["thing"]:List Str) (["thing"]:List Str) (bw Ek)
 exact a.eO S (cl:=cl) (by decide) (by walk_at "1") (λf cdv A outer s H E hr=>⟨_,(bB (bO (ur (pc1 (E:=E) Fz hr dX (aG (aq 0) aK)) (uq (QW rJ rJ aZ (iV (aq 0) aZ) (iV (aq 0) aZ)))))),λt hK hx=>by delta Dy; walk_at "t"⟩)
theorem ZV(a:At K mg "law" Fg) (M:Nm mg) (ZW:aP P w K mg base 8 "_law_good" (["_law_book_here"]:List Str) (bC K cl 1 tU)) (ZX:aP P w K mg base 4 "_law_book" (["_law_pile_here"]:List Str) (jF K 1 0 tO)) (Z0:aP P w K mg base 2 "_law_pile" (["_law_script", "_law_k"]:List Str) (bC K cl 2 qT)):aP P w K mg base 9 "law" (["_law_script"]:List Str) (bC K cl 1 vQ):=by
 have S:=fS (["_law_script", "_law_k"]:List Str) (["_law_script"]:List Str) (bw Fg)
 exact a.eO S (cl:=cl) (by decide) (by walk_at "1") (λf cdv A outer s H E hr=>⟨_,(bF (PS.oH (uE PassesOwn.never rfl (yO M.zH (aG (gk (Q5 rfl) M.Y6 (aG (gk (Q6 rfl) M.Y7 (aG (gk jR M.jW (aG (aq 0) aK)) (aG aZ aK))) (aG aZ aK))) aK)) (eV 1 S.nd) (bB (eG (eY (fB (gY ZW hr (aG (gY ZX hr (aG (gY Z0 hr (aG (aq 0) (aG (aq 1) aK))) aK)) aK)) (by intro _; rfl))) (bB (bO iG)) eE)))) (bB (bO iG))),λt hK hx=>(jk (K6 (λt1 h1 k1=>(Ku (Ky (cL (W9 (h1.trans hK) (cL (W8 (h1.trans hK) (cL (x_len (h1.trans hK) (cL (cC 0) dH)) (cL (qx _) dH))) (cL (qx _) dH))) dH)) (jl 1) mO (lW (j6 (lO (h1.trans hK) (pK (h1.trans hK) k1 (eU gD) (cL (X7 (h1.trans hK) (pK (h1.trans hK) k1 (eU (eU gD)) (cL (cC 0) (cL (cC 1) dH)))) dH)))) (lV (o7 _)) lR)))) (lV (o7 _)))⟩)
theorem Z1(a:At K mg "need_book" El) (M:Nm mg) (zM:PyProof.Rows.OwnCls "NoBook" (cl "NoBook") sY "ValueError.__new__" mg base) (vR:aP P w K mg base 5 "is_book" (["thing"]:List Str) (bC K cl 1 iU)):aP P w K mg base 6 "need_book" (["book"]:List Str) (bC K cl 1 qO):=by
 have S:=fS (["book"]:List Str) (["book"]:List Str) (bw El)
 exact a.eO S (cl:=cl) (by decide) (by walk_at "1") (λf cdv A outer s H E hr=>⟨_,(bB (eG (eY (fB (pc1 (E:=E) vR hr dX (aG (aq 0) aK)) (by intro _; rfl))) (bB (xT xR zM PySem.F.excBase_ValueError rfl gF)) eE)),λt hK hx=>(lW (j6 (lO hK (kh hK hx (eU gD) (cL (cC 0) dH)))) (yq (λH'=>hx "NoBook" H') (nH _)) lR)⟩)
theorem Z2(a:At K mg "need_text" Er) (M:Nm mg) (m5:PyProof.Rows.OwnCls "NoText" (cl "NoText") sY "ValueError.__new__" mg base) (XT:jV K):aP P w K mg base 1 "need_text" (["text"]:List Str) (bC K cl 1 kO):=by
 have S:=fS (["text"]:List Str) (["text"]:List Str) (bw Er)
 exact a.eO S (cl:=cl) (by decide) (by walk_at "1") (λf cdv A outer s H E hr=>⟨_,(bB (eG (eY (fB (kE XT.o .str (aq 0) M.kY M.tE) (by intro _; rfl))) (bB (xT xR m5 PySem.F.excBase_ValueError rfl gF)) eE)),λt hK hx=>(lW (j6 (lO hK (yd hK .str (cC 0)))) (yq (λH'=>hx "NoText" H') (nH _)) lR)⟩)
theorem Z4(a:At K mg "read_book" zA) (M:Nm mg) {vU:V} (pU:Gk K mg "MOST_FIGURES" vU (.int 40)) (m5:PyProof.Rows.OwnCls "NoText" (cl "NoText") sY "ValueError.__new__" mg base) (FQ:aP P w K mg base 1 "need_text" (["text"]:List Str) (bC K cl 1 kO)) (FT:aP P w K mg base 4 "fractions_from" (["words", "figures"]:List Str) (bC K cl 2 pP)) (vR:aP P w K mg base 5 "is_book" (["thing"]:List Str) (bC K cl 1 iU)):aP P w K mg base 6 "read_book" (["text"]:List Str) (bC K cl 1 tH):=by
 have S:=fS (["text", "book"]:List Str) (["text"]:List Str) (bw zA)
 exact a.eO S (cl:=cl) (by decide) (by walk_at "1") (λf cdv A outer s H E hr=>⟨_,(bF (psE (pc1 (E:=E) FQ hr dX (aG (aq 0) aK))) (bF (xG (i:=1) (sc:=bw zA) (No:=(["text", "book"]:List Str)) (N:=(["line"]:List Str)) (src:=[none]) (g:=(fH 0)) S.nd rfl (Or.inl rfl) rfl rfl ⟨by rfl,by decide +kernel,by decide +kernel,by decide +kernel,by rfl,by decide +kernel⟩ rfl (lX (m9 PySem.F.plainAttrs_str PySem.F.slot_str_split PySem.F.type_str_split yW (aq 0) (aG gF aK))) (λC s H ex=>(eV 0 (show List.Nodup (["line"]:List Str) by decide +kernel))) (λC s H ex=>(gY FT hr (aG (m9 PySem.F.plainAttrs_str PySem.F.slot_str_split PySem.F.type_str_split yW (aq 0) (aG gF aK)) (aG (yN pU) aK))))) (bF (eG (eY (fB (pc1 (E:=E) vR hr dX (aG (aq 1) aK)) (by intro _; rfl))) (bB (xT xR m5 PySem.F.excBase_ValueError rfl gF)) eE) (bB (bO (aq 1)))))),λt hK hx=>(jk (Cz (kh hK hx (eU gD) (cL (cC 0) dH))) (jk (yh (vC (sS hK (yZ (cC 0) (nH _))) (sU (by decide)) (sX (js:=[0]) (by decide)) mO (λt1 h1 k1=>(jl 0)) (λt1 h1 k1=>(pK (h1.trans hK) k1 (eU (eU gD)) (cL (yZ (cC 0) (nH _)) (cL (yH (h1.trans hK) pU) dH))))) (jl 1) mO) (jk (lW (j6 (lO hK (kh hK hx (eU gD) (cL (cC 1) dH)))) (yq (λH'=>hx "NoText" H') (nH _)) lR) (lV (cC 1)))))⟩)
theorem Z5(a:At K mg "read_book" zB) (M:Nm mg) {vU:V} (pU:Gk K mg "MOST_FIGURES" vU (.int 40)) (m5:PyProof.Rows.OwnCls "NoText" (cl "NoText") sY "ValueError.__new__" mg base) (FQ:aP P w K mg base 1 "need_text" (["text"]:List Str) (bC K cl 1 kO)) (FT:aP P w K mg base 4 "fractions_from" (["words", "figures"]:List Str) (bC K cl 2 pP)) (vR:aP P w K mg base 5 "is_book" (["thing"]:List Str) (bC K cl 1 iU)):aP P w K mg base 6 "read_book" (["text"]:List Str) (vN K cl 1 tK):=by
 have S:=fS (["text", "book"]:List Str) (["text"]:List Str) (bw zB)
 exact a.YT S (cl:=cl) (by decide) (by walk_at "1") (λf cdv A outer s H E hr=>⟨_,(bF (psE (pc1 (E:=E) FQ hr dX (aG (aq 0) aK))) (bF (xG (i:=1) (sc:=bw zB) (No:=(["text", "book"]:List Str)) (N:=(["line"]:List Str)) (src:=[none]) (g:=(fH 0)) S.nd rfl (Or.inl rfl) rfl rfl ⟨by rfl,by decide +kernel,by decide +kernel,by decide +kernel,by rfl,by decide +kernel⟩ rfl (lX (m9 PySem.F.plainAttrs_str PySem.F.slot_str_split PySem.F.type_str_split yW (aq 0) (aG gF aK))) (λC s H ex=>(eV 0 (show List.Nodup (["line"]:List Str) by decide +kernel))) (λC s H ex=>(gY FT hr (aG (m9 PySem.F.plainAttrs_str PySem.F.slot_str_split PySem.F.type_str_split yW (aq 0) (aG gF aK)) (aG (yN pU) aK))))) (bF (eG (eY (fB (gY vR hr (aG (aq 1) aK)) (by intro _; rfl))) (bB (xT xR m5 PySem.F.excBase_ValueError rfl gF)) eE) (bB (bO (aq 1)))))),λt hK hx=>(Ec (Cz (kh hK hx (eU gD) (cL (cC 0) dH))) (Ec (XF 1 (sS hK (yZ (cC 0) (nH _))) (sU (by decide)) (sX (js:=[0]) (by decide)) mO (λt1 h1 k1=>(jl 0)) (λt1 h1 k1=>(pK (h1.trans hK) k1 (eU (eU gD)) (cL (yZ (cC 0) (nH _)) (cL (yH (h1.trans hK) pU) dH))))) (Ec (lW (Mx (λt2 h2 k2=>(j6 (lO (h2.trans hK) (pK (h2.trans hK) k2 (eU gD) (cL (cC 1) dH)))))) (yq (λH'=>hx "NoText" H') (nH _)) lR) (YS 1))))⟩)
theorem Z6(a:At K mg "shown_book" zx) (M:Nm mg) (Z7:aP P w K mg base 6 "need_book" (["book"]:List Str) (bC K cl 1 qO)) (Z8:aP P w K mg base 2 "shown_fractions" (["fractions"]:List Str) (bC K cl 1 tG)):aP P w K mg base 7 "shown_book" (["book"]:List Str) (bC K cl 1 lY):=by
 have S:=fS (["book"]:List Str) (["book"]:List Str) (bw zx)
 exact a.eO S (cl:=cl) (by decide) (by walk_at "1") (λf cdv A outer s H E hr=>⟨_,(bF (psE (pc1 (E:=E) Z7 hr dX (aG (aq 0) aK))) (bB (bO (m9 PySem.F.plainAttrs_str PySem.F.slot_str_join PySem.F.type_str_join Mj gF (aG (oU (sc:=bw zx) (No:=(["book"]:List Str)) (N:=(["row"]:List Str)) (src:=[none]) (g:=(fH 0)) rfl rfl ⟨by rfl,by decide +kernel,by decide +kernel,by decide +kernel,by rfl,by decide +kernel⟩ rfl (lX (aq 0)) (λC s H ex=>(eV 0 (show List.Nodup (["row"]:List Str) by decide +kernel))) (λC s H ex=>(gY Z8 hr (aG (aq 0) aK)))) aK))))),λt hK hx=>by delta M7; walk_at "t"⟩)
theorem Z9(a:At K mg "shown_fraction" Em) (M:Nm mg):aP P w K mg base 1 "shown_fraction" (["fraction"]:List Str) (bC K cl 1 qR):=by
 have S:=fS (["fraction", "top", "bottom"]:List Str) (["fraction"]:List Str) (bw Em)
 exact a.eO S (cl:=cl) (by decide) (by walk_at "1") (λf cdv A outer s H E hr=>⟨_,(bF (uD (aq 0) (uz rfl (lE (eV 1 S.nd) (lE (eV 2 S.nd) uy)))) (bB (bO (Ae (gh (nA hr.units) (aq 2) aZ (eZ _)) (qK (xQ hr.gd hr.units) M.tE (aG (aq 1) aK)) (Yw (DX (Mr (aq 1)) (DX gF (DX (Mr (aq 2)) Yv)))))))),λt hK hx=>by delta Fj; walk_at "t"⟩)
theorem aac(a:At K mg "shown_fractions" zu) (M:Nm mg) (aad:aP P w K mg base 1 "shown_fraction" (["fraction"]:List Str) (bC K cl 1 qR)):aP P w K mg base 2 "shown_fractions" (["fractions"]:List Str) (bC K cl 1 tG):=by
 have S:=fS (["fractions"]:List Str) (["fractions"]:List Str) (bw zu)
 exact a.eO S (cl:=cl) (by decide) (by walk_at "1") (λf cdv A outer s H E hr=>⟨_,(bB (bO (m9 PySem.F.plainAttrs_str PySem.F.slot_str_join PySem.F.type_str_join Mj gF (aG (oU (sc:=bw zu) (No:=(["fractions"]:List Str)) (N:=(["fraction"]:List Str)) (src:=[none]) (g:=(fH 0)) rfl rfl ⟨by rfl,by decide +kernel,by decide +kernel,by decide +kernel,by rfl,by decide +kernel⟩ rfl (lX (aq 0)) (λC s H ex=>(eV 0 (show List.Nodup (["fraction"]:List Str) by decide +kernel))) (λC s H ex=>(gY aad hr (aG (aq 0) aK)))) aK)))),λt hK hx=>by delta M6; walk_at "t"⟩)
theorem aae(a:At K mg "whole_from" Eo) (M:Nm mg):aP P w K mg base 1 "whole_from" (["word", "figures"]:List Str) (bC K cl 2 mX):=by
 have S:=fS (["word", "figures"]:List Str) (["word", "figures"]:List Str) (bw Eo)
 exact a.eO S (cl:=cl) (by decide) (by walk_at "2") (λf cdv A outer s H E hr=>⟨_,(bF (eG (PW.pt (jd (eY (fB (Jt PySem.F.plainAttrs_str PySem.F.slot_str_isascii PySem.F.type_str_isascii Yi (aq 0)) (by intro _; rfl))) (jd (eY (fB (Jt PySem.F.plainAttrs_str PySem.F.slot_str_isdigit PySem.F.type_str_isdigit Yh (aq 0)) (by intro _; rfl))) (lD (gh QV (gk jR M.jW (aG (aq 0) aK)) (aq 1) (eZ _)))))) (bB (bO rF)) eE) (bF (eG (PW.pt (Hj (gh (nA hr.units) (iV (aq 0) aZ) gF (eZ _)) (Hi (gh (mH hr.units) (aq 0) gF (eZ _))))) (bB (bO rF)) eE) (bB (bO (qK YF M.Fi (aG (aq 0) aK)))))),λt hK hx=>by delta M8; walk_at "t"⟩)
end
end K68
end
section
namespace K70
open PySem L2
def kZ(c:Nat):Bool:=decide (48<=c)&&decide (c<=57)
theorem Nu:∀c:Nat,c<128->Unicode.isDigit c=kZ c:=by decide +kernel
theorem aaf(z:Str):(Txt.isascii z&&Txt.isdigit z)=(decide (0<z.length)&&z.cps.toList.all kZ):=by
 unfold Txt.isascii Txt.isdigit
 rw[Bool.eq_iff_iff]
 simp only[Bool.and_eq_true,decide_eq_true_eq,Array.all_eq_true_iff_forall_mem,List.all_eq_true,Array.mem_toList_iff]
 constructor
 ·rintro⟨h1,h2,h3⟩
  exact⟨h2,λc hc=>by rw[<-Nu c (h1 c hc)]; exact h3 c hc⟩
 ·rintro⟨h2,h3⟩
  have h1:∀c∈z.cps,c<128:=λc hc=>by
   have:=h3 c hc
   unfold kZ at this
   rw[Bool.and_eq_true,decide_eq_true_eq,decide_eq_true_eq]at this
   omega
  exact⟨h1,h2,λc hc=>by rw[Nu c (h1 c hc)]; exact h3 c hc⟩
end K70
namespace K70
open PySem L2
end K70
end
section
namespace K70
open PySem L2 PySem.Builtin PySem.Builtin.Str
theorem oE{a b:Str}(h:a.cps.toList=b.cps.toList):a=b:=PySem.Str.ext' (Array.toList_inj.mp h)
theorem aag(z:Str)(c:Nat):(c∉z.cps.toList/\pL z ⟨#[c]⟩=[z,Str.empty,Str.empty])\/∃a b:List Nat,z.cps.toList=a++c::b/\c∉a/\pL z ⟨#[c]⟩=[⟨a.toArray⟩,⟨#[c]⟩,⟨b.toArray⟩]:=by
 rcases StrLaws.occ_head z ⟨#[c]⟩ 1 (Nat.le_refl _)with⟨h0,hn⟩|⟨i,r,h0,ha,hn⟩
 ·refine .inl ⟨λhc=>?_,by unfold pL; rw[h0]⟩
  obtain⟨i,hi⟩:=List.mem_iff_getElem?.mp hc
  exact hn i ((StrLaws.subAt_one z c i).mpr hi)
 ·have hi:=(StrLaws.subAt_one z c i).mp ha
  obtain⟨hl,hx⟩:=List.getElem?_eq_some_iff.mp hi
  refine .inr ⟨z.cps.toList.take i,z.cps.toList.drop (i+1),?_,λhc=>?_,?_⟩
  ·rw[<-hx,List.getElem_cons_drop,List.take_append_drop]
  ·obtain⟨k,hk⟩:=List.mem_iff_getElem?.mp hc
   rw[List.getElem?_take]at hk
   split at hk
   ·rename_i lt
    exact hn k lt ((StrLaws.subAt_one z c k).mpr hk)
   ·cases hk
  ·unfold pL
   rw[h0]
   have e1:strSub z 0 i=⟨(z.cps.toList.take i).toArray⟩:=oE (by rw[StrLaws.strSub_toList]; simp)
   have e2:strSub z (i+(⟨#[c]⟩:Str).length) z.length=⟨(z.cps.toList.drop (i+1)).toArray⟩:=oE (by
    rw[StrLaws.strSub_toList]
    show List.take (z.length-(i+1)) (List.drop (i+1) z.cps.toList)=List.drop (i+1) z.cps.toList
    exact List.take_of_length_le (by rw[List.length_drop]; show z.cps.toList.length-(i+1)<=z.cps.size-(i+1); rw[Array.length_toList]; exact Nat.le_refl _))
   dsimp only
   rw[e1,e2]
end K70
end
section
namespace K70
open PySem L2 PySem.Builtin PySem.Builtin.Str
def spl(c:Nat):List Nat->List (List Nat)
 | []=>[[]]
 |x::r=>if x=c then []::spl c r else match spl c r with
  | []=>[[x]]
  |p::q=>(x::p)::q
def pW(c:Nat):List (List Nat)->List Nat
 | []=>[]
 | [p]=>p
 |p::q::r=>p++c::pW c (q::r)
theorem tW{c:Nat}:∀{p:List Nat},c∉p->spl c p=[p]
 | [],_=>rfl
 |x::r,h=>by
  rw[List.mem_cons,not_or]at h
  unfold spl
  rw[if_neg (Ne.symm h.1),tW h.2]
theorem vV{c:Nat}(l:List Nat):∀{p:List Nat},c∉p->spl c (p++c::l)=p::spl c l
 | [],_=>by
  show spl c (c::l)=_
  rw[spl,if_pos rfl]
 |x::r,h=>by
  rw[List.mem_cons,not_or]at h
  show spl c (x::(r++c::l))=_
  rw[spl,if_neg (Ne.symm h.1),vV l h.2]
theorem FW{c:Nat}:∀(ps:List (List Nat)),ps≠[]->(∀p∈ps,c∉p)->spl c (pW c ps)=ps
 | [],h,_=>(h rfl).elim
 | [p],_,h=>tW (h p (List.mem_singleton.mpr rfl))
 |p::q::r,_,h=>by
  show spl c (p++c::pW c (q::r))=_
  rw[vV _ (h p (List.mem_cons_self ..)),FW (q::r) (List.cons_ne_nil _ _) λz hz=>h z (List.mem_cons_of_mem _ hz)]
theorem zN(c:Nat):∀ts:List Str,(Str.join ⟨#[c]⟩ ts).cps.toList=pW c (ts.map (·.cps.toList))
 | []=>rfl
 | [x]=>rfl
 |x::y::r=>by
  show(x++⟨#[c]⟩++Str.join ⟨#[c]⟩ (y::r)).cps.toList=x.cps.toList++c::pW c ((y::r).map (·.cps.toList))
  rw[<-zN c (y::r),Str.cps_append,Str.cps_append]
  simp
theorem aah(z y:Str):Txt.split z y≠[]:=by
 unfold Txt.split
 split
 ·exact List.cons_ne_nil _ _
 ·split
  ·exact List.cons_ne_nil _ _
  ·rw[StrLaws.partsBetween_eq]
   obtain⟨p,r,e⟩:=StrLaws.partsFrom_ne z y.length 0 (occurrences z y 0 z.length (z.length+1))
   rw[e]
   exact List.cons_ne_nil _ _
theorem Nv(z:Str)(c:Nat):(Txt.split z ⟨#[c]⟩).map (·.cps.toList)=spl c z.cps.toList:=by
 have h:=StrLaws.join_split z ⟨#[c]⟩
 have e:z.cps.toList=pW c ((Txt.split z ⟨#[c]⟩).map (·.cps.toList)):=by
  rw[<-zN,h]
 rw[e,FW]
 ·intro n
  exact aah z _ (List.map_eq_nil_iff.mp n)
 ·intro p hp
  obtain⟨q,hq,rfl⟩:=List.mem_map.mp hp
  exact StrLaws.split_free z c q hq
end K70
end
section
namespace K70
open PySem L2 PySem.NumText
end K70
end
section
namespace L2
open PySem
@[simp] theorem Rs.jj{α β : Type}(a : α)(f : α -> Rs β):(Rs.ok a).bind f=f a:=rfl
@[simp] theorem Rs.ac6{α β : Type}(f : α -> Rs β):(Rs.bad:Rs α).bind f=.bad:=rfl
@[simp] theorem Rs.ac7{α β : Type}(c:Str)(f : α -> Rs β):(Rs.ex c:Rs α).bind f=.ex c:=rfl
inductive Tg{α β : Type}(f : α -> Rs β):Type
 |mk
def bd{α β : Type}(r:Rs α)(f : α -> Rs β)(_:Tg f):Rs β := r.bind f
@[simp] theorem zO{α β : Type}(f : α -> Rs β)(a : α)(u:Tg f):bd (.ok a) f u=f a:=rfl
@[simp] theorem ac8{α β : Type}(f : α -> Rs β)(u:Tg f):bd .bad f u=.bad:=rfl
@[simp] theorem ac9{α β : Type}(f : α -> Rs β)(c:Str)(u:Tg f):bd (.ex c) f u=.ex c:=rfl
@[simp] theorem ada(f g:SF)(ρ : En):aL f g ρ = ((bd (f ρ) (λp=>match p.1 with
 |.nx=>g p.2
 |fl=>.ok (fl,p.2)) .mk)):=rfl
@[simp] theorem adb(c:BF)(f g:SF)(ρ : En):cA c f g ρ = ((bd (c ρ) (λp=>if p.1=true then f p.2 else g p.2) .mk)):=rfl
@[simp] theorem ade(f:EF)(ρ : En):aX f ρ = ((bd (f ρ) (λp=>match p.1 with
 |.v T fr=>.ok (.rt T fr,p.2)
 |.s i=>match p.2[i]? with
  |some (.ow ts)=>.ok (.rt (.lst ts) true,p.2)
  |_=>.bad) .mk)):=rfl
@[simp] theorem adf(f:EF)(g:GF)(ρ : En):cF f g ρ = ((bd (f ρ) (λp=>match p.1 with
 |.v T _=>(bd (g T p.2) (λρ'=>.ok (.nx,ρ')) .mk)
 |.s _=>.bad) .mk)):=rfl
@[simp] theorem adg(i:Nat)(f:EF)(ρ : En):sI i f ρ = ((bd (f ρ) (λp=>match p.1 with
 |.v (.lst ts) true=>.ok (.nx,p.2.set i (.ow ts))
 |_=>.bad) .mk)):=rfl
@[simp] theorem adh  (ρ : En):cu  ρ = (.ok (.nx,ρ)):=rfl
@[simp] theorem adi(f:SF)(ρ : En):gj f ρ = (bM (f ρ)):=rfl
@[simp] theorem adk(i j:Nat)(fa:AF)(ρ : En):vp i j fa ρ = ((bd (fa ρ) (λp=>(bd (cls p.1) (λTs=>match Ts with
 | [T,U]=>.ok (.nx,(p.2.set i (.sh T)).set j (.sh U))
 |_=>.bad) .mk)) .mk)):=rfl
@[simp] theorem adl(i:Nat)(fk fe:EF)(ρ : En):vo i fk fe ρ = ((bd (fe ρ) (λp=>(bd (cls [p.1]) (λTs=>(bd (con p.2 i) (λ_=>(bd (fk p.2) (λq=>(bd (dr q.2 q.1) (λkT=>(bd (cX kT) (λk=>(bd (con q.2 i) (λts=>match Ts,cR ts.length k with
 | [T],some j=>.ok (.nx,bK i (ts.set j T) q.2)
 |_,_=>.bad) .mk)) .mk)) .mk)) .mk)) .mk)) .mk)) .mk)):=rfl
@[simp] theorem adn(f:EF)(ρ : En):nM f ρ = ((bd (f ρ) (λp=>.ok (.nx,p.2)) .mk)):=rfl
@[simp] theorem ado(fi:IF)(g:GF)(b:SF)(ρ : En):iM fi g b ρ = ((bd (fi ρ) (λp=>gM g b p.1 p.2) .mk)):=rfl
@[simp] theorem adp(i:Nat)(f:SF)(ρ : En):Vs i f ρ = (f (cD i ρ)):=rfl
@[simp] theorem adq(i:Nat)(f:SF)(ρ : En):Xv i f ρ = (f (eX i ρ)):=rfl
@[simp] theorem adt(i:Nat)(p:Int->Int->Int)(f:EF)(ρ : En):VD i p f ρ = (match ρ[i]? with
 |some (.sh (.int x))=>(bd (f ρ) (λq=>(bd (dr q.2 q.1) (λyT=>(bd (cX yT) (λy=>.ok (.nx,q.2.set i (.sh (.int (p x y))))) .mk)) .mk)) .mk)
 |_=>.bad):=rfl
@[simp] theorem adu(i:Nat)(fk:QF)(m:GM)(fa:QF)(ρ : En):Xr i fk m fa ρ = ((bd (cH ρ i) (λts=>(bd (bM (fk ρ)) (λk=>(bd (mR ts k) (λz=>match z.2 with
 |.lst us=>(bd (bM (fa ρ)) (λT=>(bd (m us [T]) (λy=>.ok (.nx,ρ.set i (.dp (ts.set z.1 (.lst y.1))))) .mk)) .mk)
 |_=>.bad) .mk)) .mk)) .mk)):=rfl
@[simp] theorem adv(i:Nat)(fk fj:QF)(fe:EF)(ρ : En):Xu i fk fj fe ρ = ((bd (fe ρ) (λp=>(bd (bW p.1) (λT=>(bd (cH p.2 i) (λts=>(bd (bM (fk p.2)) (λk=>(bd (mR ts k) (λz=>match z.2 with
 |.lst us=>(bd (bM (fj p.2)) (λj=>(bd (mR us j) (λy=>.ok (.nx,p.2.set i (.dp (ts.set z.1 (.lst (us.set y.1 T)))))) .mk)) .mk)
 |_=>.bad) .mk)) .mk)) .mk)) .mk)) .mk)):=rfl
@[simp] theorem aai(i:Nat)(src:List (Option Nat))(fi:IF)(g:GF)(c:BF)(f:EF)(ρ : En):tu i src fi g c f ρ = ((bd (fi ρ) (λp=>if p.1.length<=100000 then(bd (bM (qL g c f p.1 (bQ src p.2))) (λz=>if bZ src z.2 p.2=true then .ok (.nx,(bx src z.2 p.2).set i (.dp z.1))else .bad) .mk)else .bad) .mk)):=rfl
@[simp] theorem adw(i:Nat)(ρ : En):Xp i ρ = (match ρ[i]? with
 |some (.sh T)=>.ok T
 |_=>.bad):=rfl
@[simp] theorem adx(T:Tr)(ρ : En):qC T ρ=.ok T:=rfl
@[simp] theorem ady(i:Nat)(fk fj:QF)(ρ : En):Xq i fk fj ρ = ((bd (cH ρ i) (λts=>(bd (fk ρ) (λk=>(bd (mR ts k) (λz=>match z.2 with
 |.lst us=>(bd (fj ρ) (λj=>(bd (mR us j) (λy=>.ok y.2) .mk)) .mk)
 |_=>.bad) .mk)) .mk)) .mk)):=rfl
@[simp] theorem adz(i:Nat)(ρ : En):aj i ρ = (match ρ[i]? with
 |some (.sh T)=>.ok (.v T false,ρ)
 |some (.ow _)=>.ok (.s i,ρ)
 |some (.rf _)=>.ok (.s i,ρ)
 |_=>.bad):=rfl
@[simp] theorem adA(T:Tr)(ρ : En):eC T ρ = (.ok (.v T false,ρ)):=rfl
@[simp] theorem adB(Ts:List Tr)(ρ : En):yM Ts ρ=.ok (.v (.lst Ts) true,ρ):=rfl
@[simp] theorem adC(g:G2)(fa fb:EF)(ρ : En):aB g fa fb ρ = ((bd (fa ρ) (λp=>(bd (fb p.2) (λq=>(bd (dr q.2 p.1) (λa=>(bd (dr q.2 q.1) (λb=>(bd (g a b) (λz=>.ok (.v z.1 z.2,q.2)) .mk)) .mk)) .mk)) .mk)) .mk)):=rfl
@[simp] theorem adD(g:G1)(fa:EF)(ρ : En):iK g fa ρ = ((bd (fa ρ) (λp=>(bd (dr p.2 p.1) (λa=>(bd (g a) (λz=>.ok (.v z.1 z.2,p.2)) .mk)) .mk)) .mk)):=rfl
@[simp] theorem adE(g:GN)(fa:AF)(ρ : En):bh g fa ρ = ((bd (fa ρ) (λp=>(bd (drs p.2 p.1) (λas=>(bd (g as) (λz=>.ok (.v z.1 z.2,p.2)) .mk)) .mk)) .mk)):=rfl
@[simp] theorem adF(F:FP)(fa:AF)(ρ : En):aV F fa ρ = ((bd (fa ρ) (λp=>(bd (drs p.2 p.1) (λas=>(bd (F as) (λz=>if p.1.any aQ=true/\jm z=false then .bad else .ok (.v z.1 z.2,p.2)) .mk)) .mk)) .mk)):=rfl
@[simp] theorem adG(r:Nat)(F:FR)(fa:AF)(ρ : En):iT r F fa ρ = ((bd (fa ρ) (λp=>match p.1[r]? with
 |some (.s i)=>if others r i p.1=true then((bd (con p.2 i) (λ_=>(bd (drs p.2 p.1) (λas=>(bd (F as) (λz=>if((p.1.eraseIdx r).any aQ=true/\jm z.1=false)\/(((p.1.eraseIdx r).any aQ=true\/z.1.2=true)/\fG z.2=false)then .bad else .ok (.v z.1.1 z.1.2,bK i z.2 p.2)) .mk)) .mk)) .mk))else .bad
 |_=>.bad) .mk)):=rfl
@[simp] theorem adH(a:Int):fG [.int a]=true:=rfl
@[simp] theorem adI(a b:Int):fG [.int a,.int b]=true:=rfl
@[simp] theorem adJ(g:AF)(ρ : En):rZ g ρ = ((bd (g ρ) (λp=>(bd (cls p.1) (λts=>if ts.length<=1000 then .ok (.v (.lst ts) true,p.2)else .bad) .mk)) .mk)):=rfl
@[simp] theorem adK(g:AF)(ρ : En):u6 g ρ = ((bd (g ρ) (λp=>(bd (cls p.1) (λts=>if ts.length<=1000 then .ok (.v (.tup ts) false,p.2)else .bad) .mk)) .mk)):=rfl
@[simp] theorem adL(f g:EF)(ρ : En):pB f g ρ = ((bd (bY f ρ) (λp=>if p.1=true then g p.2 else .ok (eB false,p.2)) .mk)):=rfl
@[simp] theorem adM(f g:EF)(ρ : En):Vb f g ρ = ((bd (bY f ρ) (λp=>if p.1=true then .ok (eB true,p.2)else g p.2) .mk)):=rfl
@[simp] theorem adN(f:EF)(ρ : En):yc f ρ = ((bd (bY f ρ) (λp=>.ok (eB (!p.1),p.2)) .mk)):=rfl
@[simp] theorem adO(c:BF)(f g:EF)(ρ : En):sy c f g ρ = ((bd (c ρ) (λp=>if p.1=true then f p.2 else g p.2) .mk)):=rfl
@[simp] theorem adP(c:Ty)(fa:EF)(ρ : En):gW c fa ρ = ((bd (fa ρ) (λp=>(bd (dr p.2 p.1) (λa=>.ok (eB (cV a c),p.2)) .mk)) .mk)):=rfl
@[simp] theorem adQ(g g':G2)(fa fb fc:EF)(ρ : En):sE g g' fa fb fc ρ = ((bd (fa ρ) (λp=>(bd (fb p.2) (λq=>(bd (dr q.2 p.1) (λa=>(bd (dr q.2 q.1) (λb=>(bd (g a b) (λz=>(bd (bA z.1) (λk=>if k=true then(bd (fc q.2) (λs=>(bd (dr s.2 q.1) (λb=>(bd (dr s.2 s.1) (λc=>(bd (g' b c) (λz=>.ok (.v z.1 z.2,s.2)) .mk)) .mk)) .mk)) .mk)else .ok (eB false,q.2)) .mk)) .mk)) .mk)) .mk)) .mk)) .mk)):=rfl
@[simp] theorem adR(fa:EF)(fl fh:OF)(ρ : En):vg fa fl fh ρ = ((bd (fa ρ) (λp=>(bd (fl p.2) (λl=>(bd (fh l.2) (λh=>(bd (dr h.2 p.1) (λa=>(bd (qD l.1 h.1 a) (λz=>.ok (.v z.1 z.2,h.2)) .mk)) .mk)) .mk)) .mk)) .mk)):=rfl
@[simp] theorem Nx(src:List (Option Nat))(fi:IF)(g:GF)(c:BF)(f:EF)(ρ : En):dg src fi g c f ρ = ((bd (fi ρ) (λp=>if p.1.length<=100000 then(bd (bM (jq g c f p.1 (bQ src p.2))) (λz=>if bZ src z.2 p.2=true then .ok (.v (.lst z.1) true,bx src z.2 p.2)else .bad) .mk)else .bad) .mk)):=rfl
@[simp] theorem adS(i:Nat)(m:GM)(fa:AF)(ρ : En):Vz i m fa ρ = ((bd (con ρ i) (λ_=>(bd (fa ρ) (λp=>(bd (cls p.1) (λas=>(bd (con p.2 i) (λts=>(bd (m ts as) (λz=>.ok (.v z.2 false,bK i z.1 p.2)) .mk)) .mk)) .mk)) .mk)) .mk)):=rfl
@[simp] theorem adT(i:Nat)(m:GM)(ρ : En):VB i m ρ = ((bd (con ρ i) (λts=>(bd (m ts []) (λz=>.ok (.v z.2 false,bK i z.1 ρ)) .mk)) .mk)):=rfl
@[simp] theorem adU(fa:EF)(ρ : En):bY fa ρ = ((bd (fa ρ) (λp=>(bd (dr p.2 p.1) (λa=>(bd (bA a) (λb=>.ok (b,p.2)) .mk)) .mk)) .mk)):=rfl
@[simp] theorem adV(fa:EF)(ρ : En):bT fa ρ = ((bd (fa ρ) (λp=>(bd (dr p.2 p.1) (λa=>(bd (bU a) (λb=>.ok (b,p.2)) .mk)) .mk)) .mk)):=rfl
@[simp] theorem adW(f g:BF)(ρ : En):u9 f g ρ = ((bd (f ρ) (λp=>if p.1=true then g p.2 else .ok (false,p.2)) .mk)):=rfl
@[simp] theorem adX(f g:BF)(ρ : En):dZ f g ρ = ((bd (f ρ) (λp=>if p.1=true then .ok (true,p.2)else g p.2) .mk)):=rfl
@[simp] theorem adY(f:BF)(ρ : En):bV f ρ = ((bd (f ρ) (λp=>.ok (!p.1,p.2)) .mk)):=rfl
@[simp] theorem adZ  (ρ : En):cG  ρ = (.ok (true,ρ)):=rfl
@[simp] theorem ad0  (ρ : En):ao  ρ = (.ok ([],ρ)):=rfl
@[simp] theorem ad1(f:EF)(g:AF)(ρ : En):ak f g ρ = ((bd (f ρ) (λp=>(bd (g p.2) (λq=>.ok (p.1::q.1,q.2)) .mk)) .mk)):=rfl
@[simp] theorem ad2(f:EF)(ρ : En):dR f ρ = ((bd (f ρ) (λp=>(bd (dI p.1) (λz=>.ok (z.1,p.2)) .mk)) .mk)):=rfl
@[simp] theorem ad3(fa:AF)(ρ : En):jE fa ρ = ((bd (fa ρ) (λp=>(bd (drs p.2 p.1) (λas=>match as with
 | [.int j]=>if okR j=true then .ok (upTo 0 j.toNat,p.2)else .bad
 |_=>.bad) .mk)) .mk)):=rfl
@[simp] theorem ad4(fa:AF)(ρ : En):Vy fa ρ = ((bd (fa ρ) (λp=>(bd (drs p.2 p.1) (λas=>match as with
 | [.int i,.int j]=>if okR i=true/\okR j=true then .ok (upTo i (j-i).toNat,p.2)else .bad
 |_=>.bad) .mk)) .mk)):=rfl
@[simp] theorem ad5(fa:AF)(ρ : En):mU fa ρ = ((bd (fa ρ) (λp=>match p.1 with
 | [.v (.lst us) _,.v (.lst vs) _]=>.ok (kJ us vs,p.2)
 |_=>.bad) .mk)):=rfl
@[simp] theorem ad6  (ρ : En):vd  ρ = (.ok (none,ρ)):=rfl
@[simp] theorem ad7(fa:EF)(ρ : En):vf fa ρ = ((bd (fa ρ) (λp=>(bd (dr p.2 p.1) (λa=>(bd (cX a) (λb=>.ok (some b,p.2)) .mk)) .mk)) .mk)):=rfl
@[simp] theorem ad8(i:Nat)(T:Tr)(ρ : En):gN i T ρ = (.ok (ρ.set i (.sh T))):=rfl
@[simp] theorem ad9(n:Nat)(f:lU)(T:Tr)(ρ : En):gT n f T ρ = (match T with
 |.tup Ts=>if Ts.length=n then f Ts ρ else .bad
 |_=>.bad):=rfl
@[simp] theorem aea  (Ts:List Tr)(ρ : En):jD  Ts ρ = (match Ts with
 | []=>.ok ρ
 |_=>.bad):=rfl
@[simp] theorem aeb(f:GF)(g:lU)(Ts:List Tr)(ρ : En):eH f g Ts ρ = (match Ts with
 |T::r=>(bd (f T ρ) (λρ'=>g r ρ') .mk)
 | []=>.bad):=rfl
@[simp] theorem aec(a:Tr):aO 1 [a]=[.sh a]:=rfl
end L2
end
section
namespace BH
open PySem L2
theorem dG(i:Int):dep (.int i)=0:=rfl
theorem jK(i:Bool):dep (.bl i)=0:=rfl
theorem gZ(i:Str):dep (.str i)=0:=rfl
theorem iy:dep .non=0:=rfl
theorem jt(ts:List Tr):dep (.tup ts)=deps ts+1:=by simp only[dep]
theorem iY(ts:List Tr):dep (.lst ts)=deps ts+1:=by simp only[dep]
theorem iZ:deps []=0:=rfl
theorem iz(t:Tr)(ts:List Tr):deps (t::ts)=max (dep t) (deps ts):=by simp only[deps]
theorem d7(i j:Int):eqT (.int i) (.int j)=(i == j):=by simp only[eqT]
theorem jL(i j:Bool):eqT (.bl i) (.bl j)=(i == j):=by simp only[eqT]
theorem ju(i j:Str):eqT (.str i) (.str j)=(i == j):=by simp only[eqT]
def isW:Tr->Bool
 |.int _=>true
 |_=>false
theorem aaj(T:Tr):vL [T]=.ok (.bl (isW T),false):=by cases T <;> rfl
def wc:BF:=bY (aB bN (aj 1) (eC (.int 0)))
def wb:SF:=vp 0 1 (ak (aj 1) (ak (aB cP (aj 0) (aj 1)) ao))
theorem aak(a b:Int):wc [.sh (.int a),.sh (.int b)]=.ok (!(b == 0),[.sh (.int a),.sh (.int b)]):=rfl
theorem aal(a b:Int)(h:b≠0):wb [.sh (.int a),.sh (.int b)]=.ok (.nx,[.sh (.int b),.sh (.int (a.fmod b))]):=by
 unfold wb; simp -dsimp[dr,cls,dz,cP,h]
theorem Ny:∀(n:Nat) (a b:Int),b.natAbs<n->∃g:Int,qG wc wb n [.sh (.int a),.sh (.int b)]=.ok (.nx,[.sh (.int g),.sh (.int 0)])/\(if g<0 then -g else g)=((Int.gcd a b:Nat):Int)
 | 0,a,b,h=>by omega
 |n+1,a,b,h=>by
  unfold qG
  rw[aak]
  by_cases z:b=0
  ·subst z
   exact⟨a,rfl,TV a⟩
  ·obtain⟨g,h1,h2⟩:=Ny n b (a.fmod b) (by have:=TJ a b z; omega)
   refine⟨g,?_,by rw[h2,TQ]⟩
   have e:(!(b == 0))=true:=by simp[z]
   simp only[Rs.bind,e,if_true]
   rw[aal a b z]
   exact h1
def Nz:SF:=(aL (gj (sJ (vD 1) wc wb)) (aX (bh (g1 gC) (ak (aj 0) ao))))
theorem NK(a b:Int):aU 2 Nz [.int a,.int b]=.ok (.int (Int.gcd a b:Nat),false):=by
 obtain⟨g,h1,h2⟩:=Ny (b.natAbs+1) a b (by omega)
 have h0:aO 2 [.int a,.int b]=[.sh (.int a),.sh (.int b)]:=rfl
 have h3:gj (sJ (vD 1) wc wb) [.sh (.int a),.sh (.int b)]=.ok (.nx,[.sh (.int g),.sh (.int 0)]):=by
  unfold gj sJ
  rw[show vD 1 [.sh (.int a),.sh (.int b)]=b.natAbs+1 from rfl,h1]
  rfl
 rw[<-h2]
 unfold aU Nz aL
 rw[h0,h3]
 rfl
theorem aam(a b:Int):yU [.int a,.int b]=.ok (.int (Int.gcd a b:Nat),false):=NK a b
def lZ:Tr->Tr->Bool
 |.int p,.int q=>decide (1<=q)&&(Int.gcd p q == 1)
 |_,_=>false
def oF:Tr->Bool
 |.tup [a,b]=>lZ a b
 |_=>false
theorem aan(n:Nat):((n:Int) == 1)=(n == 1):=by
 rw[Bool.eq_iff_iff]; simp; omega
theorem qW(T:Tr):nU [T]=.ok (.bl (oF T),false):=by
 unfold nU Dw aU
 cases T with
 |tup ts =>
  match ts with
  | []=>rfl
  | [_]=>rfl
  | [a,b] =>
   cases a <;> cases b <;> try rfl
   rename_i p q
   simp -dsimp[eB,bA,bU,dr,drs,g1,gB,bH,bN,fL,aW,aQ,dG,d7,cV,aO,aaj,isW,aam,oF,lZ,aan]
   by_cases h:1<=q <;> simp[h]
  |a::b::c::r =>
   have:((r.length:Int)+1+1+1 == 2)=false:=by simp; omega
   simp -dsimp[eB,bA,bU,dr,drs,g1,bN,fL,aW,dG,d7,cV,aO,oF,this]
 |_=>rfl
def Ga:Tr->Tr->Bool
 |.int p,.int q=>decide (0<=p)&&decide (p<=q)&&decide (1<=q)&&(Int.gcd p q == 1)
 |_,_=>false
def jY:Tr->Bool
 |.tup [a,b]=>Ga a b
 |_=>false
theorem aao(T:Tr):nY [T]=.ok (.bl (jY T),false):=by
 unfold nY Dy aU
 cases T with
 |tup ts =>
  match ts with
  | []=>simp -dsimp[eB,bA,dr,drs,cO,aQ,aO,qW,oF,jY]
  | [_]=>simp -dsimp[eB,bA,dr,drs,cO,aQ,aO,qW,oF,jY]
  | [a,b] =>
   by_cases w:isW a=true/\isW b=true
   case neg =>
    have w1:lZ a b=false:=by cases a <;> cases b <;> first|rfl|exact absurd ⟨rfl,rfl⟩ w
    have w2:Ga a b=false:=by cases a <;> cases b <;> first|rfl|exact absurd ⟨rfl,rfl⟩ w
    simp -dsimp[eB,bA,dr,drs,cO,aQ,aO,qW,oF,jY,w1,w2]
   cases a <;> try cases w.1
   cases b <;> try cases w.2
   rename_i p q
   simp -dsimp[eB,bA,dr,drs,gB,cO,bD,aQ,cB,cR,aO,qW,oF,jY,lZ,Ga]
   by_cases h:1<=q <;> by_cases h2:p.gcd q=1 <;> by_cases h3:0<=p <;> simp[h,h2,h3]
  |a::b::c::r=>simp -dsimp[eB,bA,dr,drs,cO,aQ,aO,qW,oF,jY]
 |_=>simp -dsimp[eB,bA,dr,drs,cO,aQ,aO,qW,oF,jY]
end BH
end
section
namespace BH
open PySem L2
theorem comp_map{f:EF}{h:Tr->Tr}{τ : En}:∀(us:List Tr) (s:Sl),(∀u∈us,∃fr,f (.sh u::τ)=.ok (.v (h u) fr,.sh u::τ))->∃s',jq (gN 0) cG f us (s::τ)=.ok (us.map h,s'::τ)
 | [],s,_=>⟨s,rfl⟩
 |u::us,s,q=>by
  obtain⟨fr,e⟩:=q u (by simp)
  obtain⟨s',e'⟩:=comp_map us (.sh u) λv hv=>q v (by simp[hv])
  refine⟨s',?_⟩
  unfold jq
  simp[e,bW,e']
theorem Gb{p:Tr->Bool}:∀us:List Tr,mJ (us.map λu=>.bl (p u))=some (us.map p)
 | []=>rfl
 |u::us=>by simp[mJ,Gb us]
theorem NP{F:FP}{p:Tr->Bool}{us:List Tr}{ρ : En}{i:IF}{fe:EF}(hl:us.length<=100000)(hi:i ρ=.ok (us,ρ))(hf:∀u∈us,∃fr,fe [.sh u]=.ok (.v (.bl (p u)) fr,[.sh u])):bh (g1 c7) (ak (dg [none] i (gN 0) cG fe) ao) ρ=.ok (.v (.bl (us.all p)) false,ρ):=by
 obtain⟨s',e⟩:=comp_map (h:=λu=>.bl (p u)) us .un hf
 simp -dsimp[bM,dr,drs,g1,c7,bQ,bx,bZ,dJ,hi,hl,e,Gb]
theorem aap{p:Tr->Bool}{us:List Tr}{ρ : En}{i:IF}{fe:EF}{j:Nat}{T:Tr}(hl:us.length<=100000)(hi:i ρ=.ok (us,ρ))(hj : ρ[j]?=some (.sh T))(hf:∀u∈us,∃fr,fe [.sh u,.sh T]=.ok (.v (.bl (p u)) fr,[.sh u,.sh T])):bh (g1 c7) (ak (dg [none,some j] i (gN 0) cG fe) ao) ρ=.ok (.v (.bl (us.all p)) false,ρ):=by
 obtain⟨s',e⟩:=comp_map (h:=λu=>.bl (p u)) us .un hf
 simp -dsimp[bM,dr,drs,g1,c7,bQ,bx,bZ,dF,dJ,hi,hl,hj,e,Gb]
def lq(m:Int):Tr->Bool
 |.lst ts=>decide (1<=(ts.length:Int))&&decide ((ts.length:Int)<=m)&&ts.all jY
 |_=>false
theorem aaq(T:Tr)(m:Int)(hm:m<=1000):qN [T,.int m]=.ok (.bl (lq m T),false):=by
 unfold qN Dz aU
 cases T with
 |lst ts =>
  by_cases h1:1<=(ts.length:Int)
  ·by_cases h2:(ts.length:Int)<=m
   ·have e:=NP (F:=nY) (p:=jY) (us:=ts) (ρ:=[.sh (.lst ts),.sh (.int m)]) (i:=dR (aj 0)) (fe:=aV nY (ak (aj 0) ao)) (by omega) rfl (λu _=>⟨false,by simp -dsimp[dr,drs,aQ,aao]⟩)
    generalize bh (g1 c7) (ak (dg [none] (dR (aj 0)) (gN 0) cG (aV nY (ak (aj 0) ao))) ao)=G at e ⊢
    simp -dsimp[eB,bA,bU,dr,drs,g1,gB,cO,aW,cV,aO,h1,h2,e,lq]
   ·simp -dsimp[eB,bA,bU,dr,drs,g1,gB,cO,aW,cV,aO,h1,h2,lq]
  ·simp -dsimp[eB,bA,bU,dr,drs,g1,gB,cO,aW,cV,aO,h1,lq]
 |_=>simp -dsimp[eB,bU,dr,cO,cV,aO,lq]
def lu:Tr->Int
 |.lst ts=>ts.length
 |_=>-1
def gP:Tr->Bool
 |.lst rs=>decide (1<=(rs.length:Int))&&decide ((rs.length:Int)<=4)&&rs.all (lq 12)&&rs.all λr=>lu r == lu (rs.headD .non)
 |_=>false
theorem NQ{m:Int}{T:Tr}(h:lq m T=true):∃ts,T=.lst ts:=by
 cases T <;> first|exact⟨_,rfl⟩|cases h
theorem Gd(T:Tr):iU [T]=.ok (.bl (gP T),false):=by
 unfold iU LR aU
 cases T with
 |lst ts =>
  by_cases h1:1<=(ts.length:Int)
  ·by_cases h2:(ts.length:Int)<=4
   ·have e:=NP (F:=nY) (p:=lq 12) (us:=ts) (ρ:=[.sh (.lst ts)]) (i:=dR (aj 0)) (fe:=(aV qN (ak (aj 0) (ak (eC (.int 12)) ao)))) (by omega) rfl (λu _=>⟨false,by simp -dsimp[dr,drs,aQ,aaq]⟩)
    generalize bh (g1 c7) (ak (dg [none] (dR (aj 0)) (gN 0) cG (aV qN (ak (aj 0) (ak (eC (.int 12)) ao)))) ao)=G at e ⊢
    cases h3:ts.all (lq 12)with
    |false=>rw[h3]at e; simp -dsimp[eB,bA,bU,dr,drs,g1,gB,cO,aW,cV,aO,h1,h2,e,gP,h3]
    |true =>
     have h4:=List.all_eq_true.mp h3
     obtain⟨r0,rs,rfl⟩:∃r0 rs,ts=r0::rs:=by cases ts with
      |nil=>simp at h1
      |cons a b=>exact⟨a,b,rfl⟩
     obtain⟨l0,rfl⟩:=NQ (h4 r0 (by simp))
     have e2:=aap (p:=λr=>lu r == (l0.length:Int)) (us:=.lst l0::rs) (ρ:=[.sh (.lst (.lst l0::rs))]) (j:=0) (T:=.lst (.lst l0::rs)) (i:=dR (aj 0)) (fe:=(aB bH (bh (g1 aW) (ak (aj 0) ao)) (bh (g1 aW) (ak (aB bD (aj 1) (eC (.int 0))) ao)))) (by omega) rfl rfl (λu hu=>⟨false,by
      obtain⟨l,rfl⟩:=NQ (h4 u hu)
      have:(0:Int)<(rs.length:Int)+1:=by omega
      simp -dsimp[dr,drs,g1,bH,bD,aW,dG,d7,cB,cR,lu,this]⟩)
     generalize bh (g1 c7) (ak (dg [none,some 0] (dR (aj 0)) (gN 0) cG (aB bH (bh (g1 aW) (ak (aj 0) ao)) (bh (g1 aW) (ak (aB bD (aj 1) (eC (.int 0))) ao)))) ao)=G2 at e2 ⊢
     rw[h3]at e
     have e3:gP (.lst (.lst l0::rs))=(Tr.lst l0::rs).all (λr=>lu r == (l0.length:Int)):=by
      show(decide (1<=((Tr.lst l0::rs).length:Int))&&decide (((Tr.lst l0::rs).length:Int)<=4)&&(Tr.lst l0::rs).all (lq 12)&&(Tr.lst l0::rs).all λr=>lu r == lu (.lst l0))=_
      rw[h3,decide_eq_true h1,decide_eq_true h2]
      rfl
     rw[e3]
     generalize (Tr.lst l0::rs).all (λr=>lu r == (l0.length:Int))=bb at e2
     have h1':(1:Int)<=(rs.length:Int)+1:=by omega
     have h2':(rs.length:Int)+1<=4:=by simp only[List.length_cons]at h2; omega
     simp -dsimp[eB,bA,bU,dr,drs,g1,gB,cO,aW,cV,aO,h1',h2',e,e2]
   ·simp -dsimp[eB,bA,bU,dr,drs,g1,gB,cO,aW,cV,aO,h1,h2,gP]
  ·simp -dsimp[eB,bA,bU,dr,drs,g1,gB,cO,aW,cV,aO,h1,gP]
 |_=>simp -dsimp[eB,bU,dr,cO,cV,aO,gP]
end BH
end
section
namespace L2
open PySem
@[simp] theorem aed(fa:AF)(ρ : En):X4 fa ρ = bd (fa ρ) (λp=>match p.1 with
 | [.v (.int n) _]=>if 0<=n/\n<=1000 then .ok (.v (.lst ((List.range n.toNat).map λi:Nat=>Tr.int i)) true,p.2)else .bad
 |_=>.bad) .mk:=rfl
@[simp] theorem aee(F:FR)(fa:EF)(ρ : En):vK F fa ρ = bd (fa ρ) (λp=>match p.1 with
 |.v (.lst us) true=>bd (F [.lst us]) (λz=>.ok (.v z.1.1 z.1.2,p.2)) .mk
 |_=>.bad) .mk:=rfl
@[simp] theorem aef(kt:Tr->Option (Int × Int))(src:List (Option Nat))(fa:AF)(fb:RF)(ρ : En):XR kt src fa fb ρ = bd (fa ρ) (λp=>match p.1 with
 | [.v (.int n) _]=>if 0<=n/\n<64 then bd (bM (Ds kt fb (Ls src p.2) (List.range n.toNat))) (λks=>.ok (.v (.lst ((Lr n.toNat λi=>ks.getD i (0,0)).map λi:Nat=>Tr.int i)) true,p.2)) .mk else .bad
 |_=>.bad) .mk:=rfl
end L2
namespace BH
open PySem L2
def fT(x:Int × Int):Tr:=.tup [.int x.1,.int x.2]
theorem NT{k:Int}{M:Nat}(h:k.natAbs<2 ^ M)(hM:M<=8000):k.natAbs.log2<9000:=by
 by_cases z:k.natAbs=0
 ·rw[z]; decide
 ·have:=(Nat.log2_lt (n:=k.natAbs) (k:=M) z).mpr h
  omega
theorem NZ{i j:Int}{M:Nat}(h0:j≠0)(h:j.natAbs<2 ^ M)(hM:M<=8000):nJ i j=true:=by
 unfold nJ
 rw[Bool.and_eq_true,decide_eq_true_eq,decide_eq_true_eq]
 exact⟨h0,NT h hM⟩
theorem aar{T:Tr}(h:gP T=true):qO [T]=.ok (.non,false):=by
 unfold qO Ma aU
 simp -dsimp[bU,dr,drs,aQ,aO,Gd,h]
theorem aas{xs:List Tr}{i:Nat}{T:Tr}(h:xs[i]?=some T):bD (.lst xs) (.int i)=.ok (T,false):=by
 obtain⟨hi,e⟩:=List.getElem?_eq_some_iff.mp h
 show(match cB xs i with
  |some t=>Rs.ok (t,false)
  |none=>.bad)=_
 have:cB xs (i:Int)=some T:=by
  unfold cB cR
  simp[hi,e]
 rw[this]
theorem aat{xs:List Tr}{i:Nat}{T:Tr}(h:xs[i]?=some T):bD (.lst xs) (.int i)=.ok (T,false):=aas h
end BH
namespace BH
open PySem L2
def Wo(x:Int × Int):Prop:=0<=x.1/\x.1<=x.2/\1<=x.2/\x.2<=1000000000000/\Int.gcd x.1 x.2=1
instance (x:Int × Int):Decidable (Wo x):=by unfold Wo; infer_instance
def aJ(l:List (Int × Int)):Tr:=.lst (l.map fT)
def bf(ls:List (List (Int × Int))):Tr:=.lst (ls.map aJ)
def N5(c:Nat)(ls:List (List (Int × Int))):Prop:=∀l∈ls,l.length=c/\∀x∈l,Wo x
def Bk(c:Nat)(ls:List (List (Int × Int))):Prop:=1<=ls.length/\ls.length<=4/\1<=c/\c<=12/\N5 c ls
theorem Wo.jY{x:Int × Int}(h:Wo x):jY (fT x)=true:=by
 obtain⟨h1,h2,h3,h4,h5⟩:=h
 show(decide (0<=x.1)&&decide (x.1<=x.2)&&decide (1<=x.2)&&(Int.gcd x.1 x.2 == 1))=true
 simp[h1,h2,h3,h5]
theorem aau{l:List (Int × Int)}(h:∀x∈l,Wo x)(h1:1<=l.length)(h2:l.length<=12):lq 12 (aJ l)=true:=by
 show(decide (1<=((l.map fT).length:Int))&&decide (((l.map fT).length:Int)<=12)&&(l.map fT).all jY)=true
 rw[List.length_map,decide_eq_true (by omega),decide_eq_true (by omega)]
 simp only[Bool.true_and,List.all_eq_true]
 intro t ht
 obtain⟨x,hx,rfl⟩:=List.mem_map.mp ht
 exact(h x hx).jY
theorem Bk.gP{c:Nat}{ls:List (List (Int × Int))}(h:Bk c ls):gP (bf ls)=true:=by
 obtain⟨h1,h2,h3,h4,h5⟩:=h
 show(decide (1<=((ls.map aJ).length:Int))&&decide (((ls.map aJ).length:Int)<=4)&&(ls.map aJ).all (lq 12)&&(ls.map aJ).all λr=>lu r == lu ((ls.map aJ).headD .non))=true
 rw[List.length_map,decide_eq_true (by omega),decide_eq_true (by omega)]
 simp only[Bool.true_and,Bool.and_eq_true,List.all_eq_true]
 refine⟨λt ht=>?_,λt ht=>?_⟩
 ·obtain⟨l,hl,rfl⟩:=List.mem_map.mp ht
  exact aau (h5 l hl).2 (by have:=(h5 l hl).1; omega) (by have:=(h5 l hl).1; omega)
 ·obtain⟨l,hl,rfl⟩:=List.mem_map.mp ht
  cases ls with
  |nil=>simp at hl
  |cons l0 r =>
   show(lu (aJ l) == lu (aJ l0))=true
   show(((l.map fT).length:Int) == ((l0.map fT).length:Int))=true
   rw[List.length_map,List.length_map,(h5 l hl).1,(h5 l0 (by simp)).1]
   simp
end BH
end
section
namespace L2
open PySem
@[simp] theorem aeg(fa:EF)(ρ : En):yJ fa ρ = bd (fa ρ) (λp=>bd (dr p.2 p.1) (λa=>bd (yI a) (λz=>.ok (.v z.1 z.2,p.2)) .mk) .mk) .mk:=rfl
end L2
namespace BH
open PySem L2
def nT(ys:List Nat):Tr:=.lst (ys.map λi:Nat=>Tr.int i)
theorem zQ{n:Nat}:∀{ts:List Tr},(∀t∈ts,dep t<=n)->deps ts<=n
 | [],_=>by rw[iZ]; omega
 |t::ts,h=>by
  rw[iz]
  have h1:=h t (by simp)
  have h2:=zQ (ts:=ts) λu hu=>h u (by simp[hu])
  omega
theorem Ge(x:Int × Int):dep (fT x)=1:=by unfold fT; rw[jt,iz,iz,dG,dG,iZ]; rfl
theorem aav(l:List (Int × Int)):dep (aJ l)<=2:=by
 unfold aJ
 rw[iY]
 have:=zQ (n:=1) (ts:=l.map fT) λt ht=>by
  obtain⟨x,_,rfl⟩:=List.mem_map.mp ht
  rw[Ge]; omega
 omega
theorem aaw(ls:List (List (Int × Int))):dep (bf ls)<=3:=by
 unfold bf
 rw[iY]
 have:=zQ (n:=2) (ts:=ls.map aJ) λt ht=>by
  obtain⟨x,_,rfl⟩:=List.mem_map.mp ht
  exact aav x
 omega
theorem vW{T:Tr}(h:dep T<=40):bN T T=.ok (.bl false,false):=by
 unfold bN
 rw[if_pos ⟨h,h⟩,xH]
 rfl
theorem N6{T:Tr}(h:dep T<=40):bH T T=.ok (.bl true,false):=by
 unfold bH
 rw[if_pos ⟨h,h⟩,xH]
end BH
end
section
namespace K68
open K70 PySem L2 BH PySem.NumText
def qX(l:List Nat)(k:Nat):Tr:=if l≠[]/\(∀c∈l,kZ c=true)/\l.length<=k/\(l=[48]\/l[0]? ≠ some 48)then .int (digitsVal l)else .non
def tX:BF:=dZ (bV (bT (iK (pN Txt.isascii) (aj 0)))) (dZ (bV (bT (iK (pN Txt.isdigit) (aj 0)))) (bY (aB dU (bh (g1 aW) (ak (aj 0) ao)) (aj 1))))
theorem aax(z:Str)(k:Int)(hz:z.length<=100000):tX [.sh (.str z),.sh (.int k)]=.ok (!(Txt.isascii z&&Txt.isdigit z) || decide (k<z.length),[.sh (.str z),.sh (.int k)]):=by
 unfold tX
 cases h1:Txt.isascii z <;> cases h2:Txt.isdigit z <;> simp -dsimp[bM,cD,eX,bK,con,cH,eB,bA,bU,dr,drs,cls,bW,dW,g1,g2,gI,dz,gB,bH,bN,dY,bJ,dB,gA,cP,fK,dD,cZ,dU,cO,fL,bD,aW,gC,cU,fM,fP,fQ,c7,dI,okR,cX,aQ,others,bQ,bx,bZ,dF,dJ,dG,jK,gZ,iy,jt,iY,iZ,iz,d7,jL,ju,cV,cB,cR,aO,pN,h1,h2,hz]
def pX:BF:=u9 (bY (aB bH (aB bD (aj 0) (eC (.int 0))) (eC (.str "0")))) (bY (aB bN (aj 0) (eC (.str "0"))))
theorem aay(z:Str)(k:Int)(c:Nat)(hz:z.length<=100000)(hc:cB z.cps.toList 0=some c):pX [.sh (.str z),.sh (.int k)]=.ok ((⟨#[c]⟩:Str) == "0" && !(z == "0"),[.sh (.str z),.sh (.int k)]):=by
 have e:bD (.str z) (.int 0)=.ok (.str ⟨#[c]⟩,false):=by
  dsimp only[bD]
  rw[if_pos hz,hc]
 unfold pX
 cases h1:((⟨#[c]⟩:Str) == "0") <;> cases h2:(z == "0") <;> simp -dsimp[bA,dr,bH,bN,gZ,ju,e,h1,h2]
theorem aaz(z:Str)(k:Int)(hz:z.length<=100000):mX [.str z,.int k] =
  if(!(Txt.isascii z&&Txt.isdigit z) || decide (k<z.length))=true then .ok (.non,false)else
  match cB z.cps.toList 0 with
  |none=>.bad
  | some c=>if ((⟨#[c]⟩:Str) == "0" && !(z == "0"))=true then .ok (.non,false)else(kW (.str z)).bind λp=>.ok (p.1,p.2):=by
 have e1:=aax z k hz
 show aU 2 (aL (cA tX (aX (eC .non)) cu) (aL (cA pX (aX (eC .non)) cu) (aX (bh (g1 kW) (ak (aj 0) ao))))) _=_
 cases h:(!(Txt.isascii z&&Txt.isdigit z) || decide (k<z.length))
 ·rw[h]at e1
  cases hc:cB z.cps.toList 0 with
  |none =>
   have e2:pX [.sh (.str z),.sh (.int k)]=.bad:=by
    have e:bD (.str z) (.int 0)=.bad:=by
     dsimp only[bD]
     rw[if_pos hz,hc]
    unfold pX
    simp -dsimp[bA,dr,bH,bN,e]
   generalize pX=B,tX=A at *
   simp -dsimp[aU,aO,e1,e2]
  |some c =>
   have e2:=aay z k c hz hc
   show _=if false=true then _ else(if((⟨#[c]⟩:Str) == "0" && !(z == "0"))=true then .ok (.non,false)else(kW (.str z)).bind λp=>.ok (p.1,p.2))
   generalize kW=G,((⟨#[c]⟩:Str) == "0" && !(z == "0"))=b,pX=B,tX=A at *
   cases b
   ·cases q:G (.str z) <;> simp -dsimp[aU,aO,dr,drs,cls,bW,g1,aQ,e1,e2,q]
   ·simp -dsimp[aU,aO,dr,drs,cls,bW,g1,aQ,e1,e2]
 ·rw[h]at e1
  generalize pX=B,tX=A at *
  simp -dsimp[aU,aO,e1,dr,cls,bW]
end K68
end
section
namespace K68
open K70 PySem L2 BH PySem.NumText
theorem zR:("0" : Str).cps.toList=[48]:=by decide +kernel
theorem sign_zero(c:Nat):((⟨#[c]⟩:Str) == "0")=decide (c=48):=by
 rw[Bool.eq_iff_iff,beq_iff_eq,decide_eq_true_eq]
 constructor
 ·intro h
  have:=congrArg (λs:Str=>s.cps.toList) h
  dsimp only at this
  rw[zR]at this
  simpa using this
 ·rintro rfl
  exact oE (by rw[zR])
theorem aaA(z:Str):(z == "0")=decide (z.cps.toList=[48]):=by
 rw[Bool.eq_iff_iff,beq_iff_eq,decide_eq_true_eq]
 constructor
 ·rintro rfl
  exact zR
 ·intro h
  exact oE (by rw[zR,h])
theorem aaB(z:Str)(k:Nat)(hk:k<=640)(hz:z.length<=100000):mX [.str z,.int (k:Nat)]=.ok (qX z.cps.toList k,false):=by
 rw[aaz z k hz,aaf]
 have hl:z.length=z.cps.toList.length:=Array.length_toList.symm
 by_cases h1:z.cps.toList≠[]/\(∀c∈z.cps.toList,kZ c=true)/\z.cps.toList.length<=k
 ·obtain⟨h1,h2,h3⟩:=h1
  obtain⟨c,r,e⟩:=List.exists_cons_of_ne_nil h1
  have p:0<z.length:=by rw[hl,e]; simp
  have b:(!(decide (0<z.length)&&z.cps.toList.all kZ) || decide ((k:Int)<z.length))=false:=by
   rw[decide_eq_true p,List.all_eq_true.mpr h2,decide_eq_false (by omega)]
   rfl
  have hd:AllDigits z.cps.toList:=λc hc=>by
   have:=h2 c hc
   unfold kZ at this
   simpa using this
  have e3:kW (.str z)=.ok (.int (digitsVal z.cps.toList:Nat),false):=by
   dsimp only[kW]
   rw[if_pos (by omega),intText_digits hd h1 (by omega)]
  have hc:cB z.cps.toList 0=some c:=by rw[e]; simp[cB,cR]
  rw[b,if_neg (by decide),hc,e3]
  dsimp only
  rw[sign_zero,aaA]
  by_cases h4:z.cps.toList=[48]
  ·have n:qX z.cps.toList k=.int (digitsVal z.cps.toList:Nat):=if_pos ⟨h1,h2,h3,.inl h4⟩
   rw[n,decide_eq_true h4,Bool.not_true,Bool.and_false]
   rfl
  ·rw[decide_eq_false h4]
   by_cases h5:c=48
   ·have n:qX z.cps.toList k=.non:=if_neg λq=>q.2.2.2.elim h4 λq=>q (by rw[e,h5]; rfl)
    rw[n,decide_eq_true h5]
    rfl
   ·have n:qX z.cps.toList k=.int (digitsVal z.cps.toList:Nat):=if_pos ⟨h1,h2,h3,.inr (by rw[e]; simpa using h5)⟩
    rw[n,decide_eq_false h5]
    rfl
 ·have b:(!(decide (0<z.length)&&z.cps.toList.all kZ) || decide ((k:Int)<z.length))=true:=by
   rw[Bool.or_eq_true,Bool.not_eq_true',decide_eq_true_eq]
   by_cases q:(decide (0<z.length)&&z.cps.toList.all kZ)=true
   ·rw[Bool.and_eq_true,decide_eq_true_eq,List.all_eq_true]at q
    right
    have:¬z.cps.toList.length<=k:=λw=>h1 ⟨λn=>by rw[hl,n]at q; exact absurd q.1 (by simp),q.2,w⟩
    omega
   ·left
    simpa using q
  have n:qX z.cps.toList k=.non:=if_neg λq=>h1 ⟨q.1,q.2.1,q.2.2.1⟩
  rw[b,if_pos rfl,n]
end K68
end
section
namespace BH
open PySem L2
theorem Gf{i:Nat}{b:SF}{u:Tr}{us:List Tr}{ρ ρ1:En}{r:Rs (Fl × En)}(h:b (ρ.set i (.sh u))=.ok (.nx,ρ1))(h':gM (gN i) b us ρ1=r):gM (gN i) b (u::us) ρ = r:=by
 unfold gM
 show(b (ρ.set i (.sh u))).bind _=_
 rw[h]
 exact h'
theorem N7{α : Type}{r h : α -> Tr}{f:EF}{τ : En}:∀(xs:List α) (s:Sl),(∀x∈xs,∃fr,f (.sh (r x)::τ)=.ok (.v (h x) fr,.sh (r x)::τ))->∃s',jq (gN 0) cG f (xs.map r) (s::τ)=.ok (xs.map h,s'::τ)
 | [],s,_=>⟨s,rfl⟩
 |x::xs,s,q=>by
  obtain⟨fr,e⟩:=q x (by simp)
  obtain⟨s',e'⟩:=N7 xs (.sh (r x)) λv hv=>q v (by simp[hv])
  refine⟨s',?_⟩
  rw[List.map_cons]
  unfold jq
  simp[e,bW,e']
theorem vX{α : Type}{r h : α -> Tr}{xs:List α}{ρ τ : En}{rest:List (Option Nat)}{i:IF}{fe:EF}(hl:xs.length<=100000)(hi:i ρ=.ok (xs.map r,ρ))(hτ : bQ rest ρ = τ)(hs:∀s',bZ (none::rest) (s'::τ) ρ = true)(hd:∀s',bx (none::rest) (s'::τ) ρ = ρ)
  (hf:∀x∈xs,∃fr,fe (.sh (r x)::τ)=.ok (.v (h x) fr,.sh (r x)::τ)):dg (none::rest) i (gN 0) cG fe ρ=.ok (.v (.lst (xs.map h)) true,ρ):=by
 obtain⟨s',e⟩:=N7 xs .un hf
 have hu:bQ (none::rest) ρ=.un::τ := by rw[<-hτ]; rfl
 have hl':(xs.map r).length<=100000:=by rw[List.length_map]; exact hl
 rw[Nx,hi]
 simp only[zO]
 rw[if_pos hl',hu,e]
 simp only[bM,zO]
 rw[if_pos (hs s'),hd s']
def JX(x y:Int × Int):Bool:=decide (x.1*y.2<y.1*x.2)
end BH
end
section
namespace K68
open PySem L2 BH
theorem N8(T:Tr):pQ [T]=.ok (.bl (isW T),false):=by cases T <;> rfl
theorem aaC(a b:Int):zJ [.int a,.int b]=.ok (.int (Int.gcd a b:Nat),false):=NK a b
theorem vY(n k:Int)(h:0<k)(hk:k.natAbs.log2<9000):jX [.lst [.int n],.int k]=.ok ((.int (n.fmod k),false),[.int (n.fdiv k)]):=by
 unfold jX Ft jo
 have h0:k≠0:=by omega
 have h1:nJ n k=true:=by unfold nJ; simp[h0,hk]
 simp -dsimp[bM,cD,eX,bK,con,cH,eB,bA,bU,dr,drs,cls,bW,dW,g1,g2,gI,dz,gB,bH,bN,dY,bJ,dB,gA,cP,fK,dD,cZ,dU,cO,fL,bD,aW,gC,cU,fM,fP,fQ,c7,dI,okR,cX,aQ,others,bQ,bx,bZ,dF,dJ,dG,jK,gZ,iy,jt,iY,iZ,iz,d7,jL,ju,cV,cB,cR,aO,h0,h1,fG,iw]
theorem lg{k:Int}(h:k.natAbs<2 ^ 60):k.natAbs.log2<9000:=NT h (by omega)
theorem qY(n k:Int)(h:0<k):0<=n.fmod k/\n.fmod k<k:=⟨Int.fmod_nonneg_of_pos n h,Int.fmod_lt_of_pos n h⟩
theorem aaD(x b:Int)(hx:0<=x)(hb:1<=b)(h1:x<=b)(h2:b<=1000000000000):∃y,tM [.int x,.int b]=.ok (fT y,false)/\Wo y:=by
 obtain⟨g1,g2,g3,g4,g5,g6,g7⟩:=TY (a:=x) (b:=b) (by omega)
 have e1:x.fdiv (Int.gcd x b:Nat)=x / (Int.gcd x b:Nat):=Int.fdiv_eq_ediv_of_nonneg _ (by omega)
 have e2:b.fdiv (Int.gcd x b:Nat)=b / (Int.gcd x b:Nat):=Int.fdiv_eq_ediv_of_nonneg _ (by omega)
 refine⟨(x.fdiv (Int.gcd x b:Nat),b.fdiv (Int.gcd x b:Nat)),?_,?_⟩
 ·unfold tM Fv aU fT
  generalize hg:((Int.gcd x b:Nat):Int)=g at g1 g2
  have hs:=aaC x b
  rw[hg]at hs
  have h3:¬b<0:=by omega
  have c1:nJ x g=true:=NZ (M:=60) (by omega) (by omega) (by omega)
  have c2:nJ b g=true:=NZ (M:=60) (by omega) (by omega) (by omega)
  simp -dsimp[bM,cD,eX,bK,con,cH,eB,bA,bU,dr,drs,cls,bW,dW,g1,g2,gI,dz,gB,bH,bN,dY,bJ,dB,gA,cP,fK,dD,cZ,dU,cO,fL,bD,aW,gC,cU,fM,fP,fQ,c7,dI,okR,cX,aQ,others,bQ,bx,bZ,dF,dJ,dG,jK,gZ,iy,jt,iY,iZ,iz,d7,jL,ju,cV,cB,cR,aO,hs,h3,c1,c2]
 ·rw[e1,e2]
  refine⟨g5 hx,Int.ediv_le_ediv g1 h1,g3,?_,g4⟩
  have:=Int.ediv_le_self (a:=b) ((Int.gcd x b:Nat):Int) (by omega)
  show b / ((Int.gcd x b:Nat):Int)<=1000000000000
  omega
theorem aaE(n:Int):∃y m,mY [.lst [.int n]]=.ok ((fT y,false),[.int m])/\Wo y:=by
 have hr:=qY n 8 (by omega)
 have ht:=vY n 8 (by omega) (by decide)
 have ff:∀(b c m:Int),c=b+1->1<=b->b<=1000000000000->∃y x m',jX [.lst [.int m],.int c]=.ok ((.int x,false),[.int m'])/\tM [.int x,.int b]=.ok (fT y,false)/\Wo y:=λb c m hc h1 h2=>by
  subst hc
  have hh:=qY m (b+1) (by omega)
  obtain⟨T,e,p⟩:=aaD (m.fmod (b+1)) b hh.1 h1 (by omega) h2
  exact⟨T,_,_,vY m (b+1) (by omega) (lg (by omega)),e,p⟩
 generalize n.fmod 8=k at hr ht
 generalize n.fdiv 8=m at ht
 unfold mY Fw jo
 have hc:k=0\/k=1\/k=2\/k=3\/k=4\/k=5\/k=6\/k=7:=by omega
 rcases hc with rfl|rfl|rfl|rfl|rfl|rfl|rfl|rfl
 ·exact⟨(0,1),m,by simp -dsimp[bM,cD,eX,bK,con,cH,eB,bA,bU,dr,drs,cls,bW,dW,g1,g2,gI,dz,gB,bH,bN,dY,bJ,dB,gA,cP,fK,dD,cZ,dU,cO,fL,bD,aW,gC,cU,fM,fP,fQ,c7,dI,okR,cX,aQ,others,bQ,bx,bZ,dF,dJ,dG,jK,gZ,iy,jt,iY,iZ,iz,d7,jL,ju,cV,cB,cR,aO,ht,fG,iw,fT],by decide⟩
 ·exact⟨(1,1),m,by simp -dsimp[bM,cD,eX,bK,con,cH,eB,bA,bU,dr,drs,cls,bW,dW,g1,g2,gI,dz,gB,bH,bN,dY,bJ,dB,gA,cP,fK,dD,cZ,dU,cO,fL,bD,aW,gC,cU,fM,fP,fQ,c7,dI,okR,cX,aQ,others,bQ,bx,bZ,dF,dJ,dG,jK,gZ,iy,jt,iY,iZ,iz,d7,jL,ju,cV,cB,cR,aO,ht,fG,iw,fT],by decide⟩
 ·obtain⟨T,x,m',e1,e2,p⟩:=ff 2 3 m (by omega) (by omega) (by omega)
  exact⟨T,m',by simp -dsimp[bM,cD,eX,bK,con,cH,eB,bA,bU,dr,drs,cls,bW,dW,g1,g2,gI,dz,gB,bH,bN,dY,bJ,dB,gA,cP,fK,dD,cZ,dU,cO,fL,bD,aW,gC,cU,fM,fP,fQ,c7,dI,okR,cX,aQ,others,bQ,bx,bZ,dF,dJ,dG,jK,gZ,iy,jt,iY,iZ,iz,d7,jL,ju,cV,cB,cR,aO,ht,fG,iw,e1,e2],p⟩
 ·obtain⟨T,x,m',e1,e2,p⟩:=ff 3 4 m (by omega) (by omega) (by omega)
  exact⟨T,m',by simp -dsimp[bM,cD,eX,bK,con,cH,eB,bA,bU,dr,drs,cls,bW,dW,g1,g2,gI,dz,gB,bH,bN,dY,bJ,dB,gA,cP,fK,dD,cZ,dU,cO,fL,bD,aW,gC,cU,fM,fP,fQ,c7,dI,okR,cX,aQ,others,bQ,bx,bZ,dF,dJ,dG,jK,gZ,iy,jt,iY,iZ,iz,d7,jL,ju,cV,cB,cR,aO,ht,fG,iw,e1,e2],p⟩
 ·obtain⟨T,x,m',e1,e2,p⟩:=ff 4 5 m (by omega) (by omega) (by omega)
  exact⟨T,m',by simp -dsimp[bM,cD,eX,bK,con,cH,eB,bA,bU,dr,drs,cls,bW,dW,g1,g2,gI,dz,gB,bH,bN,dY,bJ,dB,gA,cP,fK,dD,cZ,dU,cO,fL,bD,aW,gC,cU,fM,fP,fQ,c7,dI,okR,cX,aQ,others,bQ,bx,bZ,dF,dJ,dG,jK,gZ,iy,jt,iY,iZ,iz,d7,jL,ju,cV,cB,cR,aO,ht,fG,iw,e1,e2],p⟩
 ·obtain⟨T,x,m',e1,e2,p⟩:=ff 6 7 m (by omega) (by omega) (by omega)
  exact⟨T,m',by simp -dsimp[bM,cD,eX,bK,con,cH,eB,bA,bU,dr,drs,cls,bW,dW,g1,g2,gI,dz,gB,bH,bN,dY,bJ,dB,gA,cP,fK,dD,cZ,dU,cO,fL,bD,aW,gC,cU,fM,fP,fQ,c7,dI,okR,cX,aQ,others,bQ,bx,bZ,dF,dJ,dG,jK,gZ,iy,jt,iY,iZ,iz,d7,jL,ju,cV,cB,cR,aO,ht,fG,iw,e1,e2],p⟩
 ·obtain⟨T,x,m',e1,e2,p⟩:=ff 12 13 m (by omega) (by omega) (by omega)
  exact⟨T,m',by simp -dsimp[bM,cD,eX,bK,con,cH,eB,bA,bU,dr,drs,cls,bW,dW,g1,g2,gI,dz,gB,bH,bN,dY,bJ,dB,gA,cP,fK,dD,cZ,dU,cO,fL,bD,aW,gC,cU,fM,fP,fQ,c7,dI,okR,cX,aQ,others,bQ,bx,bZ,dF,dJ,dG,jK,gZ,iy,jt,iY,iZ,iz,d7,jL,ju,cV,cB,cR,aO,ht,fG,iw,e1,e2],p⟩
 ·have h9:=vY m 999999999999 (by omega) (by decide)
  have hr:=qY m 999999999999 (by omega)
  generalize m.fmod 999999999999=b0 at h9 hr
  generalize m.fdiv 999999999999=m1 at h9
  obtain⟨T,x,m',e1,e2,p⟩:=ff (1+b0) (1+b0+1) m1 (by omega) (by omega) (by omega)
  exact⟨T,m',by simp -dsimp[bM,cD,eX,bK,con,cH,eB,bA,bU,dr,drs,cls,bW,dW,g1,g2,gI,dz,gB,bH,bN,dY,bJ,dB,gA,cP,fK,dD,cZ,dU,cO,fL,bD,aW,gC,cU,fM,fP,fQ,c7,dI,okR,cX,aQ,others,bQ,bx,bZ,dF,dJ,dG,jK,gZ,iy,jt,iY,iZ,iz,d7,jL,ju,cV,cB,cR,aO,ht,fG,iw,uZ,tiny,h9,e1,e2],p⟩
theorem qH:∀(n:Nat) (lo:Int),(upTo lo n).length=n
 | 0,_=>rfl
 |n+1,lo=>by unfold L2.upTo; rw[List.length_cons,qH n]
theorem Oa:∀(us:List Tr) (s:Sl) (n:Int),∃(ws:List (Int × Int)) (s':Sl) (m:Int),jq (gN 0) cG (iT 0 mY (ak (aj 1) ao)) us [s,.rf [.int n]]=.ok (ws.map fT,[s',.rf [.int m]])/\ws.length=us.length/\∀w∈ws,Wo w
 | [],s,n=>⟨[],s,n,rfl,rfl,by simp⟩
 |u::us,s,n=>by
  obtain⟨T,m1,e,p⟩:=aaE n
  obtain⟨ws,s',m,e',hl,hp⟩:=Oa us (.sh u) m1
  refine⟨T::ws,s',m,?_,by simp[hl],λw hw=>(List.mem_cons.mp hw).elim (λz=>z▸p) (hp w)⟩
  have e1:iT 0 mY (ak (aj 1) ao) [.sh u,.rf [.int n]]=.ok (.v (fT T) false,[.sh u,.rf [.int m1]]):=by simp -dsimp[bM,cD,eX,bK,con,cH,eB,bA,bU,dr,drs,cls,bW,dW,g1,g2,gI,dz,gB,bH,bN,dY,bJ,dB,gA,cP,fK,dD,cZ,dU,cO,fL,bD,aW,gC,cU,fM,fP,fQ,c7,dI,okR,cX,aQ,others,bQ,bx,bZ,dF,dJ,dG,jK,gZ,iy,jt,iY,iZ,iz,d7,jL,ju,cV,cB,cR,aO,e]
  generalize iT 0 mY (ak (aj 1) ao)=G at e1 e' ⊢
  unfold jq
  simp[e1,bW,e']
def zT:EF:=(dg [none,some 2] (jE (ak (aj 1) ao)) (gN 0) cG (iT 0 mY (ak (aj 1) ao)))
theorem aaF(u:Tr)(c:Nat)(hc:c<=12)(n:Int):∃l m,zT [.sh u,.sh (.int c),.rf [.int n]]=.ok (.v (aJ l) true,[.sh u,.sh (.int c),.rf [.int m]])/\l.length=c/\∀e∈l,Wo e:=by
 obtain⟨ws,s',m,e,hl,hp⟩:=Oa (upTo 0 c) .un n
 rw[qH]at hl
 refine⟨ws,m,?_,hl,hp⟩
 unfold zT aJ
 generalize iT 0 mY (ak (aj 1) ao)=G at e ⊢
 have h1:(-1000000:Int)<=c:=by omega
 have h2:(c:Int)<=1000000:=by omega
 have h3:c<=100000:=by omega
 simp -dsimp[bM,cD,eX,bK,con,cH,eB,bA,bU,dr,drs,cls,bW,dW,g1,g2,gI,dz,gB,bH,bN,dY,bJ,dB,gA,cP,fK,dD,cZ,dU,cO,fL,bD,aW,gC,cU,fM,fP,fQ,c7,dI,okR,cX,aQ,others,bQ,bx,bZ,dF,dJ,dG,jK,gZ,iy,jt,iY,iZ,iz,d7,jL,ju,cV,cB,cR,aO,h1,h2,h3,e,qH]
theorem Ob(c:Nat)(hc:c<=12):∀(us:List Tr) (s:Sl) (n:Int),∃(rows:List (List (Int × Int))) (s':Sl) (m:Int),jq (gN 0) cG zT us [s,.sh (.int c),.rf [.int n]]=.ok (rows.map aJ,[s',.sh (.int c),.rf [.int m]])/\rows.length=us.length/\N5 c rows
 | [],s,n=>⟨[],s,n,rfl,rfl,by intro r hr; simp at hr⟩
 |u::us,s,n=>by
  obtain⟨l,m1,e,hl,p⟩:=aaF u c hc n
  obtain⟨rows,s',m,e',hl',hp⟩:=Ob c hc us (.sh u) m1
  refine⟨l::rows,s',m,?_,by simp[hl'],?_⟩
  ·unfold jq
   simp[e,bW,e']
  ·intro r hr
   rcases List.mem_cons.mp hr with rfl|hr
   ·exact⟨hl,p⟩
   ·exact hp r hr
theorem aaG(n:Int):∃rows c m,tO [.lst [.int n]]=.ok ((bf rows,true),[.int m])/\Bk c rows:=by
 have t1:=vY n 4 (by omega) (by decide)
 have r1:=qY n 4 (by omega)
 generalize n.fmod 4=a at t1 r1
 generalize n.fdiv 4=n1 at t1
 have t2:=vY n1 12 (by omega) (by decide)
 have r2:=qY n1 12 (by omega)
 generalize n1.fmod 12=b at t2 r2
 generalize n1.fdiv 12=n2 at t2
 obtain⟨c,hc⟩:∃c:Nat,(c:Int)=1+b:=⟨(1+b).toNat,by omega⟩
 obtain⟨k,hk⟩:∃c:Nat,(c:Int)=1+a:=⟨(1+a).toNat,by omega⟩
 obtain⟨rows,s',m,e,hl,hs⟩:=Ob c (by omega) (upTo 0 k) .un n2
 rw[qH]at hl
 refine⟨rows,c,m,?_,by omega,by omega,by omega,by omega,hs⟩
 show jo 3 0 (aL (cF (aB bJ (eC (.int 1)) (iT 0 jX (ak (aj 0) (ak (eC (.int 4)) ao)))) (gN 1)) (aL (cF (aB bJ (eC (.int 1)) (iT 0 jX (ak (aj 0) (ak (eC (.int 12)) ao)))) (gN 2)) (aX (dg [none,some 2,some 0] (jE (ak (aj 1) ao)) (gN 0) cG zT)))) _=_
 unfold jo bf
 have h1:(-1000000:Int)<=k:=by omega
 have h2:(k:Int)<=1000000:=by omega
 have h3:k<=100000:=by omega
 simp -dsimp[bM,cD,eX,bK,con,cH,eB,bA,bU,dr,drs,cls,bW,dW,g1,g2,gI,dz,gB,bH,bN,dY,bJ,dB,gA,cP,fK,dD,cZ,dU,cO,fL,bD,aW,gC,cU,fM,fP,fQ,c7,dI,okR,cX,aQ,others,bQ,bx,bZ,dF,dJ,dG,jK,gZ,iy,jt,iY,iZ,iz,d7,jL,ju,cV,cB,cR,aO,t1,t2,<-hc,<-hk,h1,h2,h3,qH,e,fG,iw]
theorem Oc{i:Int}(h : -1000000000000000000<i/\i<1000000000000000000):tiny i=true:=by
 unfold tiny
 rw[Bool.and_eq_true]
 exact⟨decide_eq_true (by omega),decide_eq_true (by omega)⟩
theorem vZ{i j:Int}(h : -1000000000000000000<i/\i<1000000000000000000):ji i j=true:=by unfold ji; rw[Oc h]; simp
theorem Gg{i j:Int}(h : -1000000000000000000<j/\j<1000000000000000000):ji i j=true:=by unfold ji; rw[Oc h]; simp
theorem aaH(a k:Int)(h0:0<=k)(h1:k<100000):∃x,tL [.int a,.int k]=.ok (.int x,false):=by
 have c1:ji (a.fmod 2147483629) 69621=true:=Gg (by omega)
 have c2:ji 40503 k=true:=vZ (by omega)
 have c3:ji (40503*k) k=true:=Gg (by omega)
 have c4:ji 16807 k=true:=vZ (by omega)
 generalize hA:a.fmod 2147483629*69621+40503*k*k+16807*k+1048583=A
 have rA:=qY A 2147483647 (by omega)
 generalize hB:A.fmod 2147483647=B at rA
 have c5:ji B B=true:=vZ (by omega)
 have rB:=qY (B*B) 2147483629 (by omega)
 generalize hC:(B*B).fmod 2147483629=C at rB
 have c6:ji C (C+2)=true:=vZ (by omega)
 refine⟨(C*(C+2)).fmod 2147483587,?_⟩
 unfold tL Fp aU
 simp -dsimp[bM,cD,eX,bK,con,cH,eB,bA,bU,dr,drs,cls,bW,dW,g1,g2,gI,dz,gB,bH,bJ,cP,dD,cZ,dU,aW,cU,fM,dI,okR,cX,aQ,others,bQ,bx,bZ,dF,dJ,dG,d7,aO,dB,c1,c2,c3,c4,hA,hB,c5,hC,c6]
def qZ:SF:=(cF (aB bJ (aB dB (aj 3) (eC (.int 2147483587))) (aV tL (ak (aj 2) (ak (aB bJ (aB dB (eC (.int 31)) (aj 1)) (aj 4)) ao)))) (gN 3))
theorem Od(S:Tr)(k cell:Int)(h0:0<=k)(h1:k<1000):∀(us:List Tr) (pY:Int) (s:Sl),(∀u∈us,∃j:Int,u=.int j/\0<=j/\j<1000)->∃x s',gM (gN 4) qZ us [.sh S,.sh (.int k),.sh (.int cell),.sh (.int pY),s]=.ok (.nx,[.sh S,.sh (.int k),.sh (.int cell),.sh (.int x),s'])
 | [],pY,s,_=>⟨pY,s,rfl⟩
 |u::us,pY,s,h=>by
  obtain⟨j,rfl,j0,j1⟩:=h u (by simp)
  obtain⟨y,e⟩:=aaH cell (31*k+j) (by omega) (by omega)
  obtain⟨x,s',e'⟩:=Od S k cell h0 h1 us (pY*2147483587+y) (.sh (.int j)) λv hv=>h v (by simp[hv])
  have c1:ji pY 2147483587=true:=Gg (by omega)
  have c2:ji 31 k=true:=vZ (by omega)
  have e2:qZ [.sh S,.sh (.int k),.sh (.int cell),.sh (.int pY),.sh (.int j)]=.ok (.nx,[.sh S,.sh (.int k),.sh (.int cell),.sh (.int (pY*2147483587+y)),.sh (.int j)]):=by
   unfold qZ
   simp -dsimp[bM,cD,eX,bK,con,cH,eB,bA,bU,dr,drs,cls,bW,dW,g1,g2,gI,dz,gB,bH,bJ,cP,dD,cZ,dU,aW,cU,fM,dI,okR,cX,aQ,others,bQ,bx,bZ,dF,dJ,dG,d7,dB,c1,c2,e]
  refine⟨x,s',?_⟩
  unfold gM
  simp[e2,e']
theorem Gh:∀(n:Nat) (lo:Int) (u:Tr),u∈L2.upTo lo n->∃j:Int,u=.int j/\lo<=j/\j<lo+n
 | 0,_,u,h=>by simp[L2.upTo]at h
 |n+1,lo,u,h=>by
  unfold L2.upTo at h
  rcases List.mem_cons.mp h with rfl|h
  ·exact⟨lo,rfl,by omega,by omega⟩
  ·obtain⟨j,rfl,h1,h2⟩:=Gh n (lo+1) u h
   exact⟨j,rfl,by omega,by omega⟩
noncomputable def tY:SF:=(aL (cA (bY (aB fL (aj 2) (aB fK (eC (.int 10)) (eC (.int 18))))) (aX (rZ (ak (aB dD (aj 2) (aB fK (eC (.int 10)) (eC (.int 18)))) ao))) cu) (aL (cF (eC (.int 0)) (gN 3)) (aL (gj (iM (jE (ak (eC (.int 20)) ao)) (gN 4) qZ)) (aX (rZ (ak (aj 3) ao))))))
theorem Oe(S:Tr)(k:Nat)(hk:k<1000)(cell:Int):∃x ρ,tY [.sh S,.sh (.int k),.sh (.int cell),.un,.un]=.ok (.rt (.lst [.int x]) true,ρ):=by
 by_cases h:1000000000000000000<=cell
 ·refine⟨cell-1000000000000000000,[.sh S,.sh (.int k),.sh (.int cell),.un,.un],?_⟩
  unfold tY
  simp -dsimp[bM,cD,eX,bK,con,cH,eB,bA,bU,dr,drs,cls,bW,dW,g1,g2,gI,dz,gB,bH,bJ,cP,dD,cZ,dU,aW,cU,fM,dI,okR,cX,aQ,others,bQ,bx,bZ,dF,dJ,dG,d7,fL,fK,uZ,tiny,h]
 ·obtain⟨x,s',e⟩:=Od S k cell (by omega) (by omega) (L2.upTo 0 20) 0 .un λu hu=>by
   obtain⟨j,rfl,h1,h2⟩:=Gh _ _ _ hu
   exact⟨j,rfl,h1,by omega⟩
  have e1:gj (iM (jE (ak (eC (.int 20)) ao)) (gN 4) qZ) [.sh S,.sh (.int k),.sh (.int cell),.sh (.int 0),.un]=.ok (.nx,[.sh S,.sh (.int k),.sh (.int cell),.sh (.int x),s']):=by
   show bM (gM (gN 4) qZ (L2.upTo 0 20) _)=_
   rw[e]
   rfl
  refine⟨x,[.sh S,.sh (.int k),.sh (.int cell),.sh (.int x),s'],?_⟩
  unfold tY
  generalize gj (iM (jE (ak (eC (.int 20)) ao)) (gN 4) qZ)=G at e1 ⊢
  simp -dsimp[bM,cD,eX,bK,con,cH,eB,bA,bU,dr,drs,cls,bW,dW,g1,g2,gI,dz,gB,bH,bJ,cP,dD,cZ,dU,aW,cU,fM,dI,okR,cX,aQ,others,bQ,bx,bZ,dF,dJ,dG,d7,fL,fK,uZ,tiny,h,e1]
theorem aaI(ns:List Int)(k:Nat)(hk:k<1000):∃x:Int,qT [.lst (ns.map .int),.int k]=.ok (.lst [.int x],true):=by
 have hd:Fq=(aL (cF (eC (.int 0)) (gN 2)) (aL (cA (bY (aB cZ (aj 1) (bh (g1 aW) (ak (aj 0) ao)))) (cF (aB bD (aj 0) (aj 1)) (gN 2)) cu) tY)):=rfl
 unfold qT
 rw[hd]
 by_cases h:k<ns.length
 ·have e:=aat (xs:=ns.map .int) (i:=k) (T:=.int ns[k]) (by simp[h])
  obtain⟨x,ρ,e1⟩:=Oe (.lst (ns.map .int)) k hk ns[k]
  refine⟨x,?_⟩
  unfold aU
  generalize tY=G at e1 ⊢
  generalize ns[k]=cell at e e1
  simp -dsimp[bM,cD,eX,bK,con,cH,eB,bA,bU,dr,drs,cls,bW,dW,g1,g2,gI,dz,gB,bH,bJ,cP,dD,cZ,dU,aW,cU,fM,dI,okR,cX,aQ,others,bQ,bx,bZ,dF,dJ,dG,d7,aO,h,e,e1]
 ·obtain⟨x,ρ,e1⟩:=Oe (.lst (ns.map .int)) k hk 0
  refine⟨x,?_⟩
  unfold aU
  generalize tY=G at e1 ⊢
  simp -dsimp[bM,cD,eX,bK,con,cH,eB,bA,bU,dr,drs,cls,bW,dW,g1,g2,gI,dz,gB,bH,bJ,cP,dD,cZ,dU,aW,cU,fM,dI,okR,cX,aQ,others,bQ,bx,bZ,dF,dJ,dG,d7,aO,h,e1]
end K68
end
section
namespace K68
open K70 PySem L2 BH PySem.NumText
@[simp] theorem aeh(g:Str->G1)(fa fb:EF)(ρ : En):iW g fa fb ρ = bd (fa ρ) (λp=>bd (dr p.2 p.1) (λa=>bd (strOf a) (λz=>bd (fb p.2) (λq=>bd (dr q.2 q.1) (λb=>bd (g z b) (λw=>.ok (.v w.1 w.2,q.2)) .mk) .mk) .mk) .mk) .mk) .mk:=rfl
@[simp] theorem strOf_str(z:Str):strOf (.str z)=.ok z:=rfl
def jw(l:List Nat):Option Nat:=if l≠[]/\(∀c∈l,kZ c=true)/\l.length<=40/\(l=[48]\/l[0]? ≠ some 48)then some (digitsVal l)else none
def oT:Option Nat->Tr
 |some n=>.int (n:Nat)
 |none=>.non
theorem aaJ(l:List Nat):qX l 40=oT (jw l):=by
 unfold qX jw
 split <;> rfl
def fO:Option (Int × Int)->Tr
 |some x=>fT x
 |none=>.non
def mq:Option Nat->Option (Int × Int)
 |some p=>some ((p:Int),(1:Int))
 |none=>none
def lA:Option Nat->Option Nat->Option (Int × Int)
 |some p,some q=>if 2<=q/\Nat.gcd p q=1 then some ((p:Int),(q:Int))else none
 |_,_=>none
def Og:List (List Nat)->Option (Int × Int)
 | [a]=>mq (jw a)
 | [a,b]=>lA (jw a) (jw b)
 |_=>none
def v7(l:List Nat):Option (Int × Int):=Og (spl 47 l)
theorem iB(b:Bool):bU (.bl b)=.ok b:=rfl
theorem slash:("/" : Str)=⟨#[47]⟩:=by decide +kernel
theorem Oh{z a s b:Str}{x y:Option Nat}{t:Bool}(hp:nZ z (.str "/")=.ok (.tup [.str a,.str s,.str b],false)) (ha:mX [.str a,.int 40]=.ok (oT x,false)) (hb:mX [.str b,.int 40]=.ok (oT y,false)) (ht:bU (.str s)=.ok t) :
  oA [.str z,.int 40]=.ok (fO (if t=true then lA x y else mq x),false):=by
 have e0:∀P Q,nU [.tup [P,Q]]=.ok (.bl (lZ P Q),false):=λP Q=>qW _
 have g1:∀P:Nat,lZ (.int P) (.int 1)=true:=λP=>by simp[lZ]
 have eqn:bH .non (.int 1)=.ok (.bl false,false):=by rfl
 unfold oA Fo
 generalize nZ=GP,nU=I,mX=W at *
 cases t
 ·cases x with
  |none =>
   have g2:lZ .non (.int 1)=false:=rfl
   simp -dsimp[aU,aO,dr,drs,cls,bW,aQ,iB,bA,hp,ha,ht,oT,e0,g2,fO,mq,lA]
  |some p =>
   have g2:=g1 p
   simp -dsimp[aU,aO,dr,drs,cls,bW,aQ,iB,bA,hp,ha,ht,oT,e0,g2,fO,mq,lA,fT]
 ·cases x with
  |none =>
   have g2:∀Q,lZ .non Q=false:=λQ=>rfl
   cases y with
   |none=>simp -dsimp[aU,aO,dr,drs,cls,bW,aQ,iB,bA,hp,ha,hb,ht,oT,e0,g2,fO,mq,lA,eqn]
   |some q =>
    have eq1:bH (.int q) (.int 1)=.ok (.bl ((q:Int) == 1),false):=rfl
    generalize ((q:Int) == 1)=v at eq1
    cases v <;> simp -dsimp[aU,aO,dr,drs,cls,bW,aQ,iB,bA,hp,ha,hb,ht,oT,e0,g2,fO,mq,lA,eq1]
  |some p =>
   cases y with
   |none =>
    have g2:lZ (.int p) .non=false:=rfl
    simp -dsimp[aU,aO,dr,drs,cls,bW,aQ,iB,bA,hp,ha,hb,ht,oT,e0,g2,fO,mq,lA,eqn]
   |some q =>
    have eq1:bH (.int q) (.int 1)=.ok (.bl (decide (q=1)),false):=by
     show Rs.ok (Tr.bl ((q:Int) == 1),false)=_
     congr 3
     rw[Bool.eq_iff_iff,beq_iff_eq,decide_eq_true_eq]
     omega
    have g2:lZ (.int p) (.int q)=(decide (1<=q)&&(Nat.gcd p q == 1)):=by
     show(decide (1<=(q:Int))&&(Int.gcd p q == 1))=_
     rw[Int.gcd_natCast_natCast]
     congr 1
     rw[Bool.eq_iff_iff,decide_eq_true_eq,decide_eq_true_eq]
     omega
    by_cases h1:2<=q/\Nat.gcd p q=1
    ·obtain⟨h1,h2⟩:=h1
     have h3:¬q=1:=by omega
     have h4:1<=q:=by omega
     rw[decide_eq_false h3]at eq1
     rw[decide_eq_true h4,h2]at g2
     simp -dsimp[aU,aO,dr,drs,cls,bW,aQ,iB,bA,hp,ha,hb,ht,oT,e0,g2,fO,mq,lA,eq1,fT,h1,h2]
    ·by_cases h3:q=1
     ·rw[decide_eq_true h3]at eq1
      simp -dsimp[aU,aO,dr,drs,cls,bW,aQ,iB,bA,hp,ha,hb,ht,oT,e0,g2,fO,mq,lA,eq1,h1]
     ·have g3:(decide (1<=q)&&(Nat.gcd p q == 1))=false:=by
       by_cases h4:1<=q
       ·have:¬Nat.gcd p q=1:=λh=>h1 ⟨by omega,h⟩
        simp[this]
       ·simp[h4]
      rw[decide_eq_false h3]at eq1
      rw[g3]at g2
      simp -dsimp[aU,aO,dr,drs,cls,bW,aQ,iB,bA,hp,ha,hb,ht,oT,e0,g2,fO,mq,lA,eq1,h1]
theorem aaK(c:Nat):∀l:List Nat,spl c l≠[]
 | []=>List.cons_ne_nil _ _
 |x::r=>by
  unfold spl
  split
  ·exact List.cons_ne_nil _ _
  ·split <;> exact List.cons_ne_nil _ _
theorem Oi{c:Nat}:∀{l:List Nat},c∈l->∃i j,l=i++c::j/\c∉i
 |x::r,h=>by
  by_cases e:x=c
  ·exact⟨[],r,by rw[e]; rfl,List.not_mem_nil⟩
  ·rcases List.mem_cons.mp h with h|h
   ·exact absurd h.symm e
   ·obtain⟨i,j,h1,h2⟩:=Oi h
    exact⟨x::i,j,by rw[h1]; rfl,by rw[List.mem_cons,not_or]; exact⟨Ne.symm e,h2⟩⟩
theorem aaL(z:Str)(hz:z.length<=100000):oA [.str z,.int 40]=.ok (fO (v7 z.cps.toList),false):=by
 have gp:nZ z (.str "/")=.ok (.tup ((pL z "/").map .str),false):=if_pos ⟨by decide +kernel,hz⟩
 have wf:∀w:Str,w.length<=100000->mX [.str w,.int 40]=.ok (oT (jw w.cps.toList),false):=λw hw=>by
  rw[<-aaJ]
  exact aaB w 40 (by decide) hw
 have hl:z.length=z.cps.toList.length:=Array.length_toList.symm
 rcases aag z 47 with⟨h1,h2⟩|⟨a,b,h1,h2,h3⟩
 ·rw[slash,h2]at gp
  rw[<-slash]at gp
  refine(Oh gp (wf z hz) (wf _ (by decide)) rfl).trans ?_
  unfold v7
  rw[tW h1]
  rfl
 ·rw[slash,h3]at gp
  rw[<-slash]at gp
  have ll:=congrArg List.length h1
  rw[List.length_append,List.length_cons,<-hl]at ll
  refine(Oh gp (wf _ ?_) (wf _ ?_) rfl).trans ?_
  ·show a.toArray.size<=_; rw[List.size_toArray]; omega
  ·show b.toArray.size<=_; rw[List.size_toArray]; omega
  ·unfold v7
   rw[h1,vV b h2]
   show Rs.ok (fO (lA (jw a) (jw b)),false)=_
   by_cases hb:47∈b
   ·have n:jw b=none:=if_neg λq=>absurd (q.2.1 47 hb) (by decide)
    have m:∃p q r,spl 47 b=p::q::r:=by
     obtain⟨i,j,e,k⟩:∃i j,b=i++47::j/\47∉i:=Oi hb
     rw[e,vV j k]
     cases w:spl 47 j with
     |nil=>exact absurd w (aaK 47 j)
     |cons q r=>exact⟨i,q,r,rfl⟩
    obtain⟨p,q,r,m⟩:=m
    rw[m,n]
    cases jw a <;> rfl
   ·rw[tW hb]
    rfl
end K68
end
section
namespace BH
open PySem L2
def red(a b:Int):Int × Int:=(a / ((Int.gcd a b:Nat):Int),b / ((Int.gcd a b:Nat):Int))
def le2(x y:Int × Int):Prop:=x.1*y.2<=y.1*x.2
def sumF(x y:Int × Int):Int × Int:=red (x.1*y.2+y.1*x.2) (x.2*y.2)
def Oj(x y:Int × Int):Int × Int:=red (x.1*y.1) (x.2*y.2)
end BH
end
section
namespace BH
open PySem L2
def shF(ps:List ((Int × Int) × (Int × Int)))(t:Int × Int):Int × Int:=ps.foldl (λt p=>sumF t (Oj p.1 p.2)) t
def prF(xs:List (Int × Int))(t:Int × Int):Int × Int:=xs.foldl Oj t
def Lp(xs zs:List (Int × Int)):Prop:=zs.Perm xs/\zs.Pairwise λa b=>le2 b a
def ov(t x:Int × Int):Bool:=JX t x
end BH
end
section
namespace BH
open PySem L2
inductive Ru where
 |sh (ws:List (Int × Int))|mid (k:Nat)|least|greatest|product
def plc(n:Nat):Ru->Nat
 |.mid k=>k
 |.least=>n
 |.greatest=>1
 |_=>0
def Wv(r:Ru)(xs:List (Int × Int))(v:Int × Int):Prop:=match r with
 |.sh ws=>v=shF (ws.zip xs) (0,1)
 |.product=>v=prF xs (1,1)
 |r=>∃zs,Lp xs zs/\zs[plc xs.length r-1]?=some v
end BH
end
section
namespace L2
open PySem
@[simp] theorem aei(d:Str)(fa:EF)(ρ : En):Yb d fa ρ = bd (fa ρ) (λp=>bd (dr p.2 p.1) (λa=>match Lz a d with
 |some b=>.ok (eB b,p.2)
 |none=>.bad) .mk) .mk:=rfl
@[simp] theorem aej(fa:EF)(ρ : En):Yc fa ρ = bd (fa ρ) (λp=>bd (dr p.2 p.1) (λa=>match LC a with
 |some b=>.ok (eB b,p.2)
 |none=>.bad) .mk) .mk:=rfl
@[simp] theorem aek(c:Str)(f:EF)(ρ : En):nQ c f ρ = bd (f ρ) (λ_=>.ex c) .mk:=rfl
end L2
namespace BH
open PySem L2
end BH
end
section
namespace BH
open PySem L2
end BH
end
section
namespace K68
open K70 PySem L2 BH PySem.NumText
theorem Ol(c:Nat):∀l:List Nat,(spl c l).length<=l.length+1
 | []=>Nat.le_refl _
 |x::r=>by
  have h:=Ol c r
  unfold spl
  split
  ·simp only[List.length_cons]; omega
  ·split
   ·simp
   ·rename_i e
    rw[e]at h
    simp only[List.length_cons]at h ⊢
    omega
theorem Om(c:Nat):∀(l:List Nat),∀p∈spl c l,p.length<=l.length
 | [],p,h=>by rw[List.mem_singleton.mp h]; exact Nat.le_refl _
 |x::r,p,h=>by
  have ih:=Om c r
  unfold spl at h
  rw[List.length_cons]
  split at h
  ·rcases List.mem_cons.mp h with rfl|h
   ·exact Nat.zero_le _
   ·have:=ih p h; omega
  ·split at h
   ·rw[List.mem_singleton.mp h]; simp
   ·rename_i q s e
    rcases List.mem_cons.mp h with rfl|h
    ·have:=ih q (by rw[e]; simp)
     rw[List.length_cons]; omega
    ·have:=ih p (by rw[e]; simp[h])
     omega
theorem v8(z:Str):z.length=z.cps.toList.length:=Array.length_toList.symm
theorem Oo(z:Str)(c:Nat)(hz:z.length<=50000):jr z (.str ⟨#[c]⟩)=.ok (.lst ((Txt.split z ⟨#[c]⟩).map .str),true)/\(Txt.split z ⟨#[c]⟩).length<=50001/\∀p∈Txt.split z ⟨#[c]⟩,p.length<=z.length:=by
 have e:=Nv z c
 have h1:(Txt.split z ⟨#[c]⟩).length<=z.length+1:=by
  have:=congrArg List.length e
  rw[List.length_map]at this
  rw[this,v8 z]
  exact Ol c _
 refine⟨if_pos ⟨rfl,by omega,by omega⟩,by omega,λp hp=>?_⟩
 rw[v8 p,v8 z]
 exact Om c _ _ (by rw[<-e]; exact List.mem_map_of_mem hp)
theorem aaM{α : Type}{r:Option α -> Tr}(h0:r none=.non)(h1:∀a,eqT (r (some a)) .non=false)(h2:∀a,dep (r (some a))<=40)(P:List (Option α)):dY id .non (.lst (P.map r))=.ok (.bl (P.any Option.isNone),false):=by
 have d:deps (P.map r)<=40:=zQ λt ht=>by
  obtain⟨a,_,rfl⟩:=List.mem_map.mp ht
  cases a with
  |none=>rw[h0,iy]; omega
  |some a=>exact h2 a
 have i:uV .non (P.map r)=P.any Option.isNone:=by
  unfold uV
  rw[List.any_map]
  congr 1
  funext a
  cases a with
  |none=>show eqT (r none) .non=_; rw[h0]; rfl
  |some a=>exact h1 a
 unfold dY
 dsimp only
 rw[if_pos ⟨d,by rw[iy]; omega⟩,i]
 rfl
def Rd(x:Int × Int):Prop:=0<=x.1/\1<=x.2/\Int.gcd x.1 x.2=1
theorem aaN(x:Option (Int × Int)):dep (fO x)<=1:=by
 cases x with
 |none=>show dep .non<=1; rw[iy]; omega
 |some x=>show dep (fT x)<=1; rw[Ge]; omega
theorem aaO(P:List (Option (Int × Int))):dY id .non (.lst (P.map fO))=.ok (.bl (P.any Option.isNone),false):=aaM rfl (λa=>rfl) (λa=>by have:=aaN (some a); omega) P
theorem blank:(" " : Str)=⟨#[32]⟩:=by decide +kernel
theorem feed:("\n" : Str)=⟨#[10]⟩:=by decide +kernel
theorem Oq(z:Str):kO [.str z]=.ok (.non,false):=by
 unfold kO Mf
 simp -dsimp[aU,aO,dr,eB,cV,iB]
theorem aaP(s:Str)(l:List Str):Txt.join s l=Str.join s l:=eq_of_beq (PyProof.Rows.join_closes rfl)
def nS(p:Int):Str:=toString p
theorem Ot{p:Int}(h0:0<=p)(h:p<10 ^ 40):p.natAbs.log2<1920:=by
 rcases Nat.eq_zero_or_pos p.natAbs with e|e
 ·rw[e]; decide
 ·exact Nat.lt_of_lt_of_le ((Nat.log2_lt (by omega)).mpr (show p.natAbs<2 ^ 140 by omega)) (by decide)
theorem Gi{p:Int}(h0:0<=p)(h:p<10 ^ 40):jC (.int p)=.ok (.str (nS p),false):=by
 unfold jC
 rw[if_pos ⟨by unfold g8; exact decide_eq_true (Ot h0 h),by unfold blk; omega,by rw[dG]; omega⟩]
 rfl
theorem Ou{p:Int}(h0:0<=p)(h:p<10 ^ 40):mV (.int p)=.ok (.str (nS p),false):=if_pos (Ot h0 h)
theorem rm{p:Int}(h0:0<=p)(h:p<10 ^ 40):(nS p).length<=40:=PyProof.Rows.toString_length_le h0 (by decide) h
def Rb(x:Int × Int):Prop:=0<=x.1/\x.1<10 ^ 40/\1<=x.2/\x.2<10 ^ 40
def cN(x:Int × Int):Str:=if x.2=1 then nS x.1 else nS x.1 ++ "/" ++ nS x.2
theorem len_app(a b:Str):(a++b).length=a.length+b.length:=by
 show(a++b).cps.size=a.cps.size+b.cps.size
 rw[Str.cps_append,Array.size_append]
theorem v9{x:Int × Int}(h:Rb x):(cN x).length<=81:=by
 obtain⟨h1,h2,h3,h4⟩:=h
 have a:=rm h1 h2
 have b:=rm (p:=x.2) (by omega) h4
 have c:("/" : Str).length=1:=by decide +kernel
 unfold cN
 split
 ·omega
 ·rw[len_app,len_app]; omega
@[simp] theorem ael(acc:Str)(ρ : En):pO [] acc ρ = if acc.length<=100000 then .ok (.v (.str acc) false,ρ)else .bad:=rfl
@[simp] theorem aem(f:EF)(r:List EF)(acc:Str)(ρ : En):pO (f::r) acc ρ = bd (f ρ) (λp=>bd (dr p.2 p.1) (λa=>bd (strOf a) (λy=>if(acc++y).length<=100000 then pO r (acc++y) p.2 else .bad) .mk) .mk) .mk:=rfl
theorem empty_app(a:Str):Str.empty++a=a:=oE (by rw[Str.cps_append]; simp[Str.empty])
theorem aaQ{x:Int × Int}(h:Rb x):qR [fT x]=.ok (.str (cN x),false):=by
 have ln:=v9 h
 obtain⟨h1,h2,h3,h4⟩:=h
 have a1:=Gi h1 h2
 have a2:=Ou h1 h2
 have a3:=Ou (p:=x.2) (by omega) h4
 have eq1:bH (.int x.2) (.int 1)=.ok (.bl (decide (x.2=1)),false):=rfl
 have l1:=rm h1 h2
 have l2:=rm (p:=x.2) (by omega) h4
 have c:("/" : Str).length=1:=by decide +kernel
 have q1:(Str.empty++nS x.1).length<=100000:=by rw[empty_app]; omega
 have q2:(nS x.1 ++ "/" : Str).length<=100000:=by rw[len_app]; omega
 have q3:(nS x.1 ++ "/" ++ nS x.2:Str).length<=100000:=by rw[len_app,len_app]; omega
 unfold qR Fj cN fT
 generalize bH=E,mV=F,jC=S at *
 by_cases k:x.2=1
 ·rw[decide_eq_true k]at eq1
  rw[if_pos k]
  generalize x.2=q,x.1=p,nS x.1=n1 at *
  simp -dsimp[aU,aO,dr,drs,bA,g1,eq1,a1]
 ·rw[decide_eq_false k]at eq1
  rw[if_neg k]
  generalize x.2=q,x.1=p,nS x.2=n2,nS x.1=n1 at *
  generalize hs:("/" : Str)=sl at *
  rw[empty_app]at q1
  simp -dsimp[aU,aO,dr,drs,bA,g1,eq1,a2,a3,empty_app,q1,q2,q3]
theorem Ov:("/" : Str).cps.toList=[47]:=by decide +kernel
theorem Ow{s:Str}{ts:List Str}{M:Nat}(h:∀t∈ts,t.length<=M)(hs:s.length<=1)(hb:ts.length*(M+1)<=16777216):JoinOk s ts=true:=by
 refine PyProof.Rows.joinOk_of ?_
 have:(ts.map λx=>x.length).sum<=ts.length*M:=by
  clear hb
  induction ts with
  |nil=>simp
  |cons t r ih =>
   rw[List.map_cons,List.sum_cons,List.length_cons,Nat.succ_mul]
   have:=ih λt ht=>h t (by simp[ht])
   have:=h t (by simp)
   omega
 have:ts.length*s.length<=ts.length:=by
  have:=Nat.mul_le_mul_left ts.length hs
  omega
 rw[Nat.mul_add]at hb
 omega
theorem aaR(l:List Str):strsOf (l.map Tr.str)=.ok l:=by
 induction l with
 |nil=>rfl
 |cons z r ih=>rw[List.map_cons]; unfold strsOf; rw[ih]; rfl
theorem Ox{s:Str}{ts:List Str}(h:JoinOk s ts=true):jJ s (.lst (ts.map .str))=.ok (.str (Str.join s ts),false):=by
 dsimp only[jJ]
 rw[aaR,Rs.jj,if_pos h,aaP]
def rS(l:List (Int × Int)):Str:=Str.join " " (l.map cN)
theorem Oz:(" " : Str).length<=1:=by decide +kernel
theorem OD:("\n" : Str).length<=1:=by decide +kernel
theorem aaS{l:List (Int × Int)}(h:∀x∈l,Rb x)(hl:l.length<=1000):JoinOk " " (l.map cN)=true:=Ow (M:=81) (λt ht=>by
 obtain⟨x,hx,rfl⟩:=List.mem_map.mp ht
 exact v9 (h x hx)) Oz (by rw[List.length_map]; omega)
theorem Gj(s:Str){M:Nat}(hs:s.length<=1):∀{ts:List Str},(∀t∈ts,t.length<=M)->(Str.join s ts).length<=ts.length*(M+1)
 | [],_=>by show(0:Nat)<=_; omega
 | [x],h=>by
  have:=h x (by simp)
  show x.length<=1*(M+1)
  omega
 |x::y::r,h=>by
  have a:=h x (by simp)
  have b:=Gj s hs (ts:=y::r) λt ht=>h t (List.mem_cons_of_mem _ ht)
  show(x++s++Str.join s (y::r)).length<=_
  rw[len_app,len_app,List.length_cons,Nat.succ_mul]
  omega
theorem wg{l:List (Int × Int)}(h:∀x∈l,Rb x):(rS l).length<=l.length*82:=by
 have:=Gj " " (M:=81) Oz (ts:=l.map cN) (λt ht=>by
  obtain⟨x,hx,rfl⟩:=List.mem_map.mp ht
  exact v9 (h x hx))
 rw[List.length_map]at this
 exact this
def Gm:EF:=dg [none] (dR (aj 0)) (gN 0) cG (aV qR (ak (aj 0) ao))
theorem aaT{l:List (Int × Int)}(h:∀x∈l,Rb x)(hl:l.length<=1000):tG [aJ l]=.ok (.str (rS l),false):=by
 have e:Gm [.sh (aJ l)]=.ok (.v (.lst ((l.map cN).map .str)) true,[.sh (aJ l)]):=by
  rw[List.map_map]
  refine vX (r:=fT) (by omega) rfl rfl (λ_=>rfl) (λ_=>rfl) λx hx=>⟨false,?_⟩
  have n:=aaQ (h x hx)
  show _=Rs.ok (Rv.v (.str (cN x)) false,_)
  generalize fT x=T,qR=F at *
  simp -dsimp[bQ,dr,drs,aQ,n]
 have j:=Ox (aaS h hl)
 show aU 1 (aX (iW jJ (eC (.str " ")) Gm)) _=Rs.ok (Tr.str (Str.join " " (l.map cN)),false)
 generalize aJ l=T,jJ=J,Gm=C,(l.map cN).map Tr.str=L,Str.join " " (l.map cN)=S at *
 simp -dsimp[aU,aO,dr,e,j]
def Gn:EF:=dg [none] (dR (aj 0)) (gN 0) cG (aV tG (ak (aj 0) ao))
theorem aaU{ls:List (List (Int × Int))}(h:∀l∈ls,l.length<=12/\∀x∈l,Rb x)(hl:ls.length<=4)(hb:gP (bf ls)=true):lY [bf ls]=.ok (.str (Str.join "\n" (ls.map rS)),false):=by
 have e:Gn [.sh (bf ls)]=.ok (.v (.lst ((ls.map rS).map .str)) true,[.sh (bf ls)]):=by
  rw[List.map_map]
  refine vX (r:=aJ) (by omega) rfl rfl (λ_=>rfl) (λ_=>rfl) λl hl'=>⟨false,?_⟩
  have hh:=h l hl'
  have n:=aaT hh.2 (by omega)
  show _=Rs.ok (Rv.v (.str (rS l)) false,_)
  generalize aJ l=T,tG=F at *
  simp -dsimp[bQ,dr,drs,aQ,n]
 have j:jJ "\n" (.lst ((ls.map rS).map .str))=_:=Ox (Ow (M:=1000) (λt ht=>by
  obtain⟨l,hl',rfl⟩:=List.mem_map.mp ht
  have hh:=h l hl'
  have:=wg hh.2
  omega) OD (by rw[List.length_map]; omega))
 have nb:=aar hb
 show aU 1 (aL (nM (aV qO (ak (aj 0) ao))) (aX (iW jJ (eC (.str "\n")) Gn))) _=_
 generalize qO=N,bf ls=T,jJ=J,Gn=C,(ls.map rS).map Tr.str=L,Str.join "\n" (ls.map rS)=S at *
 simp -dsimp[aU,aO,dr,drs,aQ,e,j,nb]
theorem aaV(l:List (Int × Int)):aW (aJ l)=.ok (.int (l.length:Nat),false):=by
 show Rs.ok (Tr.int ((l.map fT).length:Nat),false)=_
 rw[List.length_map]
noncomputable def rC:SF:=aL (cA (dZ (bV (bT (gW .tuple (aj 2)))) (dZ (bY (aB bN (bh (g1 aW) (ak (aj 2) ao)) (eC (.int 2)))) (dZ (bV (bT (aV pQ (ak (aB bD (aj 2) (eC (.int 0))) ao)))) (bV (bT (aV pQ (ak (aB bD (aj 2) (eC (.int 1))) ao))))))) (aX (eC (.bl false))) cu) (cA (bY (aB bN (aj 2) (aj 3))) (aX (eC (.bl false))) cu)
theorem aaW(s0 s1:Sl)(x:Int × Int):rC [s0,s1,.sh (fT x),.sh (fT x)]=.ok (.nx,[s0,s1,.sh (fT x),.sh (fT x)]):=by
 have i0:bD (fT x) (.int 0)=.ok (.int x.1,false):=rfl
 have i1:bD (fT x) (.int 1)=.ok (.int x.2,false):=rfl
 have w0:=N8 (.int x.1)
 have w1:=N8 (.int x.2)
 have l2:aW (fT x)=.ok (.int 2,false):=rfl
 have n2:bN (.int 2) (.int 2)=.ok (.bl false,false):=rfl
 have ns:=vW (T:=fT x) (by rw[Ge]; omega)
 have ty:cV (fT x) .tuple=true:=rfl
 unfold rC
 generalize bN=N,aW=L,bD=I,pQ=W,fT x=T at *
 simp -dsimp[dr,drs,aQ,eB,iB,bA,g1,i0,i1,w0,w1,isW,l2,n2,ns,ty]
theorem OJ(s0 s1:Sl):∀(l:List (Int × Int)) (s2 s3:Sl),∃t2 t3,gM (gT 2 (eH (gN 2) (eH (gN 3) jD))) rC (kJ (l.map fT) (l.map fT)) [s0,s1,s2,s3]=.ok (.nx,[s0,s1,t2,t3])
 | [],s2,s3=>⟨s2,s3,rfl⟩
 |x::l,s2,s3=>by
  obtain⟨t2,t3,e⟩:=OJ s0 s1 l (.sh (fT x)) (.sh (fT x))
  refine⟨t2,t3,?_⟩
  have e2:=aaW s0 s1 x
  show gM (gT 2 (eH (gN 2) (eH (gN 3) jD))) rC (.tup [fT x,fT x]::kJ (l.map fT) (l.map fT)) [s0,s1,s2,s3]=_
  generalize rC=B,fT x=T at *
  unfold gM
  simp -dsimp[e2,e]
theorem aaX(l:List (Int × Int)):tQ [aJ l,aJ l]=.ok (.bl true,false):=by
 obtain⟨t2,t3,e⟩:=OJ (.sh (aJ l)) (.sh (aJ l)) l .un .un
 have gl:=aaV l
 have gn:=vW (T:=.int (l.length:Nat)) (by rw[dG]; omega)
 have ty:cV (aJ l) .list=true:=rfl
 have fz:∀s2 s3,mU (ak (aj 0) (ak (aj 1) ao)) [.sh (aJ l),.sh (aJ l),s2,s3]=.ok (kJ (l.map fT) (l.map fT),[.sh (aJ l),.sh (aJ l),s2,s3]):=λ_ _=>rfl
 show aU 4 (aL (cA (dZ (bV (bT (gW .list (aj 0)))) (bY (aB bN (bh (g1 aW) (ak (aj 0) ao)) (bh (g1 aW) (ak (aj 1) ao))))) (aX (eC (.bl false))) cu) (aL (gj (iM (mU (ak (aj 0) (ak (aj 1) ao))) (gT 2 (eH (gN 2) (eH (gN 3) jD))) rC)) (aX (eC (.bl true))))) _=_
 generalize bN=N,aW=L,mU _=I,rC=B,aJ l=T,kJ (l.map fT) (l.map fT)=Z at *
 simp -dsimp[aU,aO,bM,dr,drs,eB,iB,bA,g1,gl,gn,ty,fz,e]
theorem zip_rows(ls:List (List (Int × Int))):kJ (ls.map aJ) (ls.map aJ)=ls.map λl=>.tup [aJ l,aJ l]:=by
 unfold kJ
 induction ls with
 |nil=>rfl
 |cons l r ih=>simp only[List.map_cons,List.zip_cons_cons]; rw[ih]
def tZ:EF:=aV tQ (ak (aj 0) (ak (aj 1) ao))
theorem O1:∀(ls:List (List (Int × Int))) (s0 s1:Sl),∃t0 t1,jq (gT 2 (eH (gN 0) (eH (gN 1) jD))) cG tZ (ls.map λl=>.tup [aJ l,aJ l]) [s0,s1]=.ok (ls.map λ_=>.bl true,[t0,t1])
 | [],s0,s1=>⟨s0,s1,rfl⟩
 |l::ls,s0,s1=>by
  obtain⟨t0,t1,e⟩:=O1 ls (.sh (aJ l)) (.sh (aJ l))
  have f:=aaX l
  have e2:tZ [.sh (aJ l),.sh (aJ l)]=.ok (.v (.bl true) false,[.sh (aJ l),.sh (aJ l)]):=by
   unfold tZ
   generalize tQ=F,aJ l=T at *
   simp -dsimp[dr,drs,aQ,f]
  refine⟨t0,t1,?_⟩
  rw[List.map_cons]
  generalize tZ=E,aJ l=T at *
  unfold jq
  simp -dsimp[e2,bW,e]
theorem O2{α : Type}:∀l:List α,mJ (l.map λ_=>.bl true)=some (l.map λ_=>true)
 | []=>rfl
 |u::us=>by simp[mJ,O2 us]
theorem O3{ls:List (List (Int × Int))}(hl:ls.length<=4):mZ [bf ls,bf ls]=.ok (.bl true,false):=by
 obtain⟨t0,t1,e⟩:=O1 ls .un .un
 have gl:aW (bf ls)=.ok (.int (ls.length:Nat),false):=by
  show Rs.ok (Tr.int ((ls.map aJ).length:Nat),false)=_
  rw[List.length_map]
 have gn:=vW (T:=.int (ls.length:Nat)) (by rw[dG]; omega)
 have ty:cV (bf ls) .list=true:=rfl
 have ga:c7 (.lst (ls.map λ_=>.bl true))=.ok (.bl true,false):=by
  show(match mJ (ls.map λ_=>Tr.bl true)with|some bs=>Rs.ok (Tr.bl (bs.all id),false)|none=>.bad)=_
  rw[O2]
  show Rs.ok (Tr.bl ((ls.map λ_=>true).all id),false)=_
  rw[List.all_map]
  congr 3
  simp
 have ec:dg [none,none] (mU (ak (aj 0) (ak (aj 1) ao))) (gT 2 (eH (gN 0) (eH (gN 1) jD))) cG tZ [.sh (bf ls),.sh (bf ls)]=.ok (.v (.lst (ls.map λ_=>.bl true)) true,[.sh (bf ls),.sh (bf ls)]):=by
  rw[Nx,show mU (ak (aj 0) (ak (aj 1) ao)) [.sh (bf ls),.sh (bf ls)]=.ok (kJ (ls.map aJ) (ls.map aJ),[.sh (bf ls),.sh (bf ls)])from rfl,zip_rows]
  simp only[zO]
  rw[if_pos (by rw[List.length_map]; omega),show bQ [none,none] [.sh (bf ls),.sh (bf ls)]=[.un,.un]from rfl,e]
  rfl
 show aU 2 (aL (cA (dZ (bV (bT (gW .list (aj 0)))) (bY (aB bN (bh (g1 aW) (ak (aj 0) ao)) (bh (g1 aW) (ak (aj 1) ao))))) (aX (eC (.bl false))) cu) (aX (bh (g1 c7) (ak (dg [none,none] (mU (ak (aj 0) (ak (aj 1) ao))) (gT 2 (eH (gN 0) (eH (gN 1) jD))) cG tZ) ao)))) _=_
 generalize bN=N,aW=L,c7=A,dg _ _ _ _ _=C,bf ls=T,(ls.map λ_=>Tr.bl true)=M at *
 simp -dsimp[aU,aO,dr,drs,eB,iB,bA,g1,gl,gn,ty,ec,ga]
theorem wk{a b:Str}(h:a.length+b.length<=100000):bJ (.str a) (.str b)=.ok (.str (a++b),false):=if_pos h
theorem len1:("/" : Str).length=1∧(" " : Str).length=1∧("\n" : Str).length=1∧("" : Str).length=0:=by decide +kernel
theorem aaY(lo hi:Option Int){z:Str}(h:z.length<=100000):qD lo hi (.str z)=.ok (.str (Txt.slice z lo hi),false):=if_pos h
end K68
end
section
namespace K68
open K70 PySem L2 BH PySem.NumText
def jc(p:Nat):List Nat:=(Nat.toDigits 10 p).map Char.toNat
theorem Gp{p:Nat}(h:p<10):jc p=[p+48]:=by
 unfold jc
 rw[Nat.toDigits_of_lt_base h]
 have:∀d:Nat,d<10->(Nat.digitChar d).toNat=d+48:=by decide
 show [(Nat.digitChar p).toNat]=_
 rw[this p h]
theorem aaZ{p:Nat}(h:10<=p):jc p=jc (p / 10)++[p%10+48]:=by
 have e:p=10*(p / 10)+p%10:=by omega
 have a:=Nat.toDigits_append_toDigits (b:=10) (n:=p / 10) (d:=p%10) (by decide) (by omega) (by omega)
 rw[<-e]at a
 rw[<-Gp (p:=p%10) (by omega)]
 unfold jc
 rw[<-List.map_append,a]
theorem O4:∀p:Nat,(∀c∈jc p,48<=c/\c<=57)/\(1<=p->∃a r,jc p=a::r/\a≠48):=by
 intro p
 induction p using Nat.strongRecOn with
 |ind p ih =>
  by_cases h:p<10
  ·rw[Gp h]
   refine⟨λc hc=>?_,λh1=>⟨_,_,rfl,by omega⟩⟩
   rw[List.mem_singleton.mp hc]
   omega
  ·obtain⟨a1,a2⟩:=ih (p / 10) (by omega)
   rw[aaZ (by omega)]
   refine⟨λc hc=>?_,λ_=>?_⟩
   ·rcases List.mem_append.mp hc with hc|hc
    ·exact a1 c hc
    ·rw[List.mem_singleton.mp hc]; omega
   ·obtain⟨a,r,e,n⟩:=a2 (by omega)
    exact⟨a,r++[p%10+48],by rw[e]; rfl,n⟩
theorem Gq(p:Nat):(nS p).cps.toList=jc p:=W.KIN.signs_num p
theorem O5{p:Nat}(h:p<10 ^ 40):jw (nS p).cps.toList=some p:=by
 obtain⟨a1,a2⟩:=O4 p
 have v:digitsVal (jc p)=p:=W.KIN.val_back p
 have ln:(jc p).length<=40:=by
  have:=rm (p:=(p:Int)) (by omega) (by omega)
  rw[v8,Gq]at this
  exact this
 rw[Gq]
 have c:jc p≠[]/\(∀c∈jc p,kZ c=true)/\(jc p).length<=40/\(jc p=[48]\/(jc p)[0]? ≠ some 48):=by
  refine⟨λz=>?_,λc hc=>?_,ln,?_⟩
  ·unfold jc at z
   exact Nat.toDigits_ne_nil (List.map_eq_nil_iff.mp z)
  ·have:=a1 c hc
   unfold kZ
   rw[decide_eq_true this.1,decide_eq_true this.2]
   rfl
  ·by_cases z:p=0
   ·subst z
    exact .inl (Gp (by decide))
   ·obtain⟨a,r,e,n⟩:=a2 (by omega)
    right
    rw[e]
    simpa using n
 unfold jw
 rw[if_pos c,v]
theorem zU{p:Int}(h:0<=p){c:Nat}(hc:c<48):c∉(nS p).cps.toList:=by
 obtain⟨q,rfl⟩:∃q:Nat,p=q:=⟨p.toNat,by omega⟩
 rw[Gq]
 intro m
 have:=(O4 q).1 c m
 omega
def Rx(x:Int × Int):Prop:=Rb x/\Int.gcd x.1 x.2=1
theorem Wo.rx{x:Int × Int}(h:Wo x):Rx x:=⟨⟨h.1,by have:=h.2.1; have:=h.2.2.2.1; omega,h.2.2.1,by have:=h.2.2.2.1; omega⟩,h.2.2.2.2⟩
theorem aa0{x:Int × Int}(h:Rx x):v7 (cN x).cps.toList=some x:=by
 obtain⟨⟨h1,h2,h3,h4⟩,h5⟩:=h
 obtain⟨p,q⟩:=x
 obtain⟨p,rfl⟩:∃k:Nat,p=k:=⟨p.toNat,by have:(0:Int)<=p:=h1; omega⟩
 obtain⟨q,rfl⟩:∃k:Nat,q=k:=⟨q.toNat,by have:(1:Int)<=q:=h3; omega⟩
 have h2:(p:Int)<10 ^ 40:=h2
 have h4:(q:Int)<10 ^ 40:=h4
 have h3:(1:Int)<=q:=h3
 have n1:=O5 (p:=p) (by omega)
 have n2:=O5 (p:=q) (by omega)
 have f1:=zU (p:=(p:Int)) (by omega) (c:=47) (by omega)
 have f2:=zU (p:=(q:Int)) (by omega) (c:=47) (by omega)
 unfold v7 cN
 by_cases z:(q:Int)=1
 ·rw[if_pos z,tW f1]
  show mq (jw (nS p).cps.toList)=_
  rw[n1]
  show some ((p:Int),(1:Int))=some ((p:Int),(q:Int))
  rw[z]
 ·rw[if_neg z,Str.cps_append,Str.cps_append,Array.toList_append,Array.toList_append,Ov]
  show Og (spl 47 ((nS p).cps.toList++[47]++(nS q).cps.toList))=_
  rw[List.append_assoc,List.singleton_append,vV _ f1,tW f2]
  show lA (jw (nS p).cps.toList) (jw (nS q).cps.toList)=_
  rw[n1,n2]
  show(if 2<=q/\Nat.gcd p q=1 then some ((p:Int),(q:Int))else none)=_
  have h5:Int.gcd (p:Int) (q:Int)=1:=h5
  rw[Int.gcd_natCast_natCast]at h5
  rw[if_pos ⟨by omega,h5⟩]
theorem O6{x:Int × Int}(h:Rb x){c:Nat}(hc:c<47):c∉(cN x).cps.toList:=by
 obtain⟨h1,h2,h3,h4⟩:=h
 have f1:=zU (p:=x.1) h1 (c:=c) (by omega)
 have f2:=zU (p:=x.2) (by omega) (c:=c) (by omega)
 unfold cN
 split
 ·exact f1
 ·rw[Str.cps_append,Str.cps_append,Array.toList_append,Array.toList_append,Ov]
  intro m
  rcases List.mem_append.mp m with m|m
  ·rcases List.mem_append.mp m with m|m
   ·exact f1 m
   ·have:=List.mem_singleton.mp m; omega
  ·exact f2 m
theorem O7{c d:Nat}:∀{ps:List (List Nat)},d∈pW c ps->d=c\/∃p∈ps,d∈p
 | [],h=>by cases h
 | [p],h=>.inr ⟨p,by simp,h⟩
 |p::q::r,h=>by
  have h:d∈p++c::pW c (q::r):=h
  rcases List.mem_append.mp h with h|h
  ·exact .inr ⟨p,by simp,h⟩
  ·rcases List.mem_cons.mp h with h|h
   ·exact .inl h
   ·rcases O7 h with h|⟨s,m,h⟩
    ·exact .inl h
    ·exact .inr ⟨s,List.mem_cons_of_mem _ m,h⟩
theorem aa1{l:List (Int × Int)}(h:∀x∈l,Rx x):10∉(rS l).cps.toList:=by
 unfold rS
 rw[blank,zN]
 intro m
 rcases O7 m with m|⟨p,hp,m⟩
 ·omega
 ·obtain⟨s,hs,rfl⟩:=List.mem_map.mp hp
  obtain⟨x,hx,rfl⟩:=List.mem_map.mp hs
  exact O6 (h x hx).1 (by omega) m
def bS(ls:List (List (Int × Int))):Str:=Str.join "\n" (ls.map rS)
end K68
end
section
namespace K68
open K70 PySem L2 BH PySem.NumText
theorem O8:∀{a b:List Str},a.map (·.cps.toList)=b.map (·.cps.toList)->a=b
 | [],[],_=>rfl
 | [],_::_,h=>by cases h
 |_::_,[],h=>by cases h
 |x::a,y::b,h=>by
  rw[List.map_cons,List.map_cons,List.cons.injEq]at h
  rw[oE h.1,O8 h.2]
theorem O9{c:Nat}{ws:List Str}(hn:ws≠[])(hf:∀w∈ws,c∉w.cps.toList):Txt.split (Str.join ⟨#[c]⟩ ws) ⟨#[c]⟩=ws:=by
 apply O8
 rw[Nv,zN,FW]
 ·exact λz=>hn (List.map_eq_nil_iff.mp z)
 ·intro p hp
  obtain⟨s,hs,rfl⟩:=List.mem_map.mp hp
  exact hf s hs
theorem aa2{l:List (Int × Int)}(h:∀x∈l,Rx x)(hn:l≠[]):Txt.split (rS l) " " = l.map cN:=by
 unfold rS
 rw[blank]
 refine O9 (λz=>hn (List.map_eq_nil_iff.mp z)) λw hw=>?_
 obtain⟨x,hx,rfl⟩:=List.mem_map.mp hw
 exact O6 (h x hx).1 (by omega)
theorem aa3{ls:List (List (Int × Int))}(h:∀l∈ls,l≠[]/\∀x∈l,Rx x)(hn:ls≠[]):Txt.split (bS ls) "\n" = ls.map rS:=by
 unfold bS
 rw[feed]
 refine O9 (λz=>hn (List.map_eq_nil_iff.mp z)) λw hw=>?_
 obtain⟨l,hl,rfl⟩:=List.mem_map.mp hw
 exact aa1 (h l hl).2
def Bx(ls:List (List (Int × Int))):Prop:=ls≠[]/\ls.length<=4/\∀l∈ls,l≠[]/\l.length<=12/\∀x∈l,Rx x
theorem Bx.len{ls:List (List (Int × Int))}(h:Bx ls):(bS ls).length<=5000:=by
 have:=Gj "\n" (M:=1000) OD (ts:=ls.map rS) (λt ht=>by
  obtain⟨l,hl,rfl⟩:=List.mem_map.mp ht
  obtain⟨_,h1,h2⟩:=h.2.2 l hl
  have:=wg λx hx=>(h2 x hx).1
  omega)
 rw[List.length_map]at this
 have:=h.2.1
 unfold bS
 omega
def Gs:EF:=dg [none,some 1] (dR (aj 0)) (gN 0) cG (aV oA (ak (aj 0) (ak (aj 1) ao)))
theorem aa4{l:List (Int × Int)}(h:∀x∈l,Rx x)(hn:l≠[])(hl:l.length<=1000):pP [.lst ((l.map cN).map .str),.int 40]=.ok (aJ l,true):=by
 have e:Gs [.sh (.lst ((l.map cN).map .str)),.sh (.int 40),.un]=.ok (.v (.lst (l.map fT)) true,[.sh (.lst ((l.map cN).map .str)),.sh (.int 40),.un]):=by
  refine vX (r:=λx=>.str (cN x)) (by omega) ?_ rfl (λ_=>rfl) (λ_=>rfl) λx hx=>⟨false,?_⟩
  ·rw[List.map_map]
   rfl
  ·have n:=aaL (cN x) (by have:=v9 (h x hx).1; omega)
   rw[aa0 (h x hx)]at n
   have n:oA [.str (cN x),.int 40]=.ok (fT x,false):=n
   generalize fT x=T,oA=F at *
   simp -dsimp[bQ,dJ,dr,drs,aQ,n]
 have ni:dY id .non (.lst (l.map fT))=.ok (.bl false,false):=by
  have:=aaO (l.map some)
  rw[List.map_map]at this
  have a:(l.map some).any Option.isNone=false:=by simp
  rw[a]at this
  exact this
 have tl:bU (.lst (l.map fT))=.ok true:=by
  obtain⟨x,r,rfl⟩:=List.exists_cons_of_ne_nil hn
  rfl
 show aU 3 (aL (sI 2 Gs) (aX (sy (dZ (bV (bT (aj 2))) (bY (aB (dY id) (eC .non) (aj 2)))) (eC .non) (aj 2)))) _=Rs.ok (Tr.lst (l.map fT),true)
 generalize l.map fT=M,(l.map cN).map Tr.str=L,dY id=G,Gs=C at *
 simp -dsimp[aU,aO,dr,bA,e,tl,ni]
def rD:EF:=aV pP (ak (iW jr (aj 0) (eC (.str " "))) (ak (eC (.int 40)) ao))
theorem Pa{l:List (Int × Int)}(h:∀x∈l,Rx x)(hn:l≠[])(hl:l.length<=12):rD [.sh (.str (rS l))]=.ok (.v (aJ l) true,[.sh (.str (rS l))]):=by
 have ln:=wg λx hx=>(h x hx).1
 obtain⟨h1,h2,h3⟩:=Oo (rS l) 32 (by omega)
 rw[<-blank,aa2 h hn]at h1
 have n:=aa4 h hn (by omega)
 unfold rD
 generalize jr=G,pP=F,aJ l=T,(l.map cN).map Tr.str=L at *
 simp -dsimp[dr,drs,aQ,h1,n]
def uc:IF:=dR (iW jr (aj 0) (eC (.str "\n")))
theorem Pb{ls:List (List (Int × Int))}(h:Bx ls)(s:Sl):uc [.sh (.str (bS ls)),s]=.ok (ls.map λl=>.str (rS l),[.sh (.str (bS ls)),s]):=by
 have ln:=h.len
 obtain⟨h1,h2,h3⟩:=Oo (bS ls) 10 (by omega)
 rw[<-feed,aa3 (λl m=>⟨(h.2.2 l m).1,(h.2.2 l m).2.2⟩) h.1,List.map_map]at h1
 have h1:jr (bS ls) (.str "\n")=.ok (.lst (ls.map λl=>.str (rS l)),true):=h1
 unfold uc
 generalize jr=G,(ls.map λl=>Tr.str (rS l))=L at *
 simp -dsimp[dr,h1,dI]
theorem Bx.gP{ls:List (List (Int × Int))}{c:Nat}(h:Bk c ls):Bx ls:=by
 obtain⟨h1,h2,h3,h4,h5⟩:=h
 refine⟨λz=>by rw[z]at h1; simp at h1,h2,λl m=>?_⟩
 obtain⟨a,b⟩:=h5 l m
 exact⟨λz=>by rw[z]at a; simp at a; omega,by omega,λx hx=>Wo.rx (b x hx)⟩
theorem aa5{ls:List (List (Int × Int))}{c:Nat}(hb:Bk c ls):tH [.str (bS ls)]=.ok (bf ls,false):=by
 have h:=Bx.gP hb
 have e1:dg [none] uc (gN 0) cG rD [.sh (.str (bS ls)),.un]=.ok (.v (.lst (ls.map aJ)) true,[.sh (.str (bS ls)),.un]):=vX (r:=λl=>.str (rS l)) (h:=aJ) (by have:=h.2.1; omega) (Pb h .un) rfl (λ_=>rfl) (λ_=>rfl) λl hl=>⟨true,Pa (h.2.2 l hl).2.2 (h.2.2 l hl).1 (h.2.2 l hl).2.1⟩
 have e2:=Oq (bS ls)
 have e3:=Gd (bf ls)
 rw[hb.gP]at e3
 show aU 2 (aL (nM (aV kO (ak (aj 0) ao))) (aL (cF (dg [none] uc (gN 0) cG rD) (gN 1)) (aL (cA (bV (bT (aV iU (ak (aj 1) ao)))) (nQ "NoText" (eC (.str "this is no text of a book"))) cu) (aX (aj 1))))) _=_
 change _=Rs.ok (Rv.v (bf ls) true,_)at e1
 generalize bf ls=T,kO=N,iU=B,dg _ _ _ _ _=C at *
 simp -dsimp[aU,aO,dr,drs,aQ,iB,e1,e2,e3]
theorem Pg{α : Type}{r : α -> Tr}{h : α -> List Tr}{f:EF}{τ : En}:∀(xs:List α) (s:Sl),(∀x∈xs,f (.sh (r x)::τ)=.ok (.v (.lst (h x)) true,.sh (r x)::τ))->∃s',qL (gN 0) cG f (xs.map r) (s::τ)=.ok (xs.map λx=>.lst (h x),s'::τ)
 | [],s,_=>⟨s,rfl⟩
 |x::xs,s,q=>by
  have e:=q x (by simp)
  obtain⟨s',e'⟩:=Pg xs (.sh (r x)) λu m=>q u (by simp[m])
  refine⟨s',?_⟩
  rw[List.map_cons]
  unfold qL
  simp -dsimp[e,dW,e']
theorem Gu{f:SF}{g:DF}{ρ ρ2:En}(h:f ρ=.ok (.nx,ρ2)):oh f g ρ = g ρ2:=by
 unfold oh
 rw[h]
 rfl
theorem aa6{ls:List (List (Int × Int))}{c:Nat}(hb:Bk c ls):tK [.str (bS ls)]=.ok (ls.map aJ):=by
 have h:=Bx.gP hb
 have e2:=Oq (bS ls)
 have e3:=Gd (bf ls)
 rw[hb.gP]at e3
 obtain⟨s',e1⟩:=Pg (r:=λl=>Tr.str (rS l)) (h:=λl:List (Int × Int)=>l.map fT) (f:=rD) (τ:=[]) ls .un (λl hl=>Pa (h.2.2 l hl).2.2 (h.2.2 l hl).1 (h.2.2 l hl).2.1)
 have ei:=Pb h .un
 have a1:nM (aV kO (ak (aj 0) ao)) [.sh (.str (bS ls)),.un]=.ok (.nx,[.sh (.str (bS ls)),.un]):=by
  generalize kO=N at *
  simp -dsimp[dr,drs,aQ,e2]
 have a2:tu 1 [none] uc (gN 0) cG rD [.sh (.str (bS ls)),.un]=.ok (.nx,[.sh (.str (bS ls)),.dp (ls.map aJ)]):=by
  have l4:(ls.map λl=>Tr.str (rS l)).length<=100000:=by rw[List.length_map]; have:=h.2.1; omega
  rw[aai,ei]
  simp only[zO]
  rw[if_pos l4,show bQ [none] [.sh (.str (bS ls)),.un]=[.un]from rfl,e1]
  rfl
 have a3:cA (mW (bV (bT (aV iU (ak (aj 1) ao))))) (nQ "NoText" (eC (.str "this is no text of a book"))) cu [.sh (.str (bS ls)),.dp (ls.map aJ)]=.ok (.nx,[.sh (.str (bS ls)),.dp (ls.map aJ)]):=by
  have b:mW (bV (bT (aV iU (ak (aj 1) ao)))) [.sh (.str (bS ls)),.dp (ls.map aJ)]=.ok (false,[.sh (.str (bS ls)),.dp (ls.map aJ)]):=by
   unfold mW
   rw[show vw [.sh (.str (bS ls)),.dp (ls.map aJ)]=[.sh (.str (bS ls)),.sh (bf ls)]from rfl]
   have:bV (bT (aV iU (ak (aj 1) ao))) [.sh (.str (bS ls)),.sh (bf ls)]=.ok (false,[.sh (.str (bS ls)),.sh (bf ls)]):=by
    generalize bf ls=T,iU=B at *
    simp -dsimp[dr,drs,aQ,iB,e3]
   rw[this]
   rfl
  generalize ls.map aJ=L,mW _=B at *
  simp -dsimp[b]
 show oh (nM (aV kO (ak (aj 0) ao))) (oh (tu 1 [none] uc (gN 0) cG rD) (oh (cA (mW (bV (bT (aV iU (ak (aj 1) ao))))) (nQ "NoText" (eC (.str "this is no text of a book"))) cu) (λρ=>cH ρ 1))) [.sh (.str (bS ls)),.un]=_
 rw[Gu a1,Gu a2,Gu a3]
 rfl
end K68
end
section
namespace K68
open K70 PySem L2 BH PySem.NumText
theorem ud(a b:Str):(a++b).cps.toList=a.cps.toList++b.cps.toList:=by rw[Str.cps_append,Array.toList_append]
theorem Ph(a b c:Str):a++b++c=a++(b++c):=oE (by rw[ud,ud,ud,ud,List.append_assoc])
theorem aa7(u s:Str)(h:s.length=1):Txt.slice (u++s) none (some (-1))=u:=by
 have l:=len_app u s
 have e:=eq_of_beq (PyProof.Rows.slice_closes_to_neg (x:=u++s) (j := -1) (k := -1+((u++s).length:Int)) (by omega) (by omega) rfl)
 rw[e]
 apply oE
 show List.take _ (List.drop 0 _)=_
 rw[List.drop_zero,ud]
 have n:(-1+((u++s).length:Int)-0).toNat=u.cps.toList.length:=by
  rw[v8 u]at l
  omega
 rw[n,List.take_append_of_le_length (Nat.le_refl _),List.take_length]
theorem aa8{x:Int × Int}(h:Rb x):qU [fT x]=.ok (.str (cN x),false):=by
 obtain⟨h1,h2,h3,h4⟩:=h
 have a1:=Gi h1 h2
 have a2:=Gi (p:=x.2) (by omega) h4
 have l1:=rm h1 h2
 have l2:=rm (p:=x.2) (by omega) h4
 have c:=len1.1
 have eq1:bH (.int x.2) (.int 1)=.ok (.bl (decide (x.2=1)),false):=rfl
 have i0:bD (fT x) (.int 0)=.ok (.int x.1,false):=rfl
 have i1:bD (fT x) (.int 1)=.ok (.int x.2,false):=rfl
 have s1:=wk (a:=nS x.1) (b := "/") (by omega)
 have s2:=wk (a:=nS x.1 ++ "/") (b:=nS x.2) (by rw[len_app]; omega)
 unfold qU Fx cN
 by_cases k:x.2=1
 ·rw[decide_eq_true k]at eq1
  rw[if_pos k]
  generalize bD=I,bH=E,jC=S,x.2=q,x.1=p,fT x=T,nS x.1=n1 at *
  simp -dsimp[aU,aO,dr,drs,bA,g1,eq1,i0,i1,a1]
 ·rw[decide_eq_false k]at eq1
  rw[if_neg k]
  generalize bJ=A,bD=I,bH=E,jC=S,x.2=q,x.1=p,fT x=T,nS x.2=n2,nS x.1=n1,nS x.1 ++ "/" = n11,nS x.1 ++ "/" ++ nS x.2=n12 at *
  simp -dsimp[aU,aO,dr,drs,bA,g1,eq1,i0,i1,a1,a2,s1,s2]
def wu:SF:=cF (aB bJ (aB bJ (aj 1) (aV qU (ak (aj 3) ao))) (eC (.str " "))) (gN 1)
def uf:EF:=vg (aj 1) vd (vf (iK j5 (eC (.int 1))))
def wz:SF:=aL (iM (dR (aj 2)) (gN 3) wu) (cF (aB bJ uf (eC (.str "\n"))) (gN 1))
def tS:List (Int × Int)->Str->Str
 | [],t=>t
 | x :: l,t=>tS l (t ++ cN x ++ " ")
theorem Pk:∀(l:List (Int × Int)) (t:Str),l≠[]->tS l t=t++rS l ++ " "
 | [],_,h=>absurd rfl h
 | [x],t,_=>rfl
 |x::y::r,t,_=>by
  show tS (y::r) (t++cN x ++ " ")=t++(cN x ++ " " ++ rS (y::r)) ++ " "
  rw[Pk (y::r) _ (List.cons_ne_nil _ _)]
  simp only[Ph]
theorem Pn(s0 s2:Sl):∀(ws:List (Int × Int)) (t:Str) (s3:Sl),(∀w∈ws,Rb w)->t.length+ws.length*82<=90000->∃(s':Sl),gM (gN 3) wu (ws.map fT) [s0,.sh (.str t),s2,s3]=.ok (.nx,[s0,.sh (.str (tS ws t)),s2,s'])
 | [],t,s3,_,_=>⟨s3,rfl⟩
 |w::ws,t,s3,hw,hl=>by
  rw[List.length_cons]at hl
  have e:=aa8 (hw w (by simp))
  have ls:=v9 (hw w (by simp))
  have c:=len1.2.1
  have a1:=wk (a:=t) (b:=cN w) (by omega)
  have a2:=wk (a:=t++cN w) (b := " ") (by rw[len_app]; omega)
  have q:(t++cN w ++ " " : Str).length=t.length+(cN w).length+1:=by rw[len_app,len_app,c]
  obtain⟨s',e'⟩:=Pn s0 s2 ws (t++cN w ++ " ") (.sh (fT w)) (λv hv=>hw v (by simp[hv])) (by omega)
  refine⟨s',?_⟩
  have eb:wu [s0,.sh (.str t),s2,.sh (fT w)]=.ok (.nx,[s0,.sh (.str (t++cN w ++ " ")),s2,.sh (fT w)]):=by
   unfold wu
   generalize bJ=A,qU=F,fT w=T,t++cN w=u1,t++cN w ++ " " = u2 at *
   simp -dsimp[dr,drs,aQ,e,a1,a2]
  rw[List.map_cons]
  exact Gf eb e'
theorem Pq(s0:Sl){u s:Str}(hs:s.length=1)(τ : En)(h:u.length<=90000):uf (s0 :: .sh (.str (u++s))::τ)=.ok (.v (.str u) false,s0 :: .sh (.str (u++s))::τ):=by
 have e:=aaY none (some (-1)) (z:=u++s) (by rw[len_app]; omega)
 rw[aa7 u s hs]at e
 have n:j5 (.int 1)=.ok (.int (-1),false):=rfl
 unfold uf
 generalize (-1:Int)=m,j5=N,u++s=v at *
 simp -dsimp[dr,cX,n,e]
theorem aa9(s0:Sl){l:List (Int × Int)}(t:Str)(s3:Sl)(hn:l≠[])(hw:∀w∈l,Rb w)(hl:t.length+l.length*82<=80000):∃(s':Sl),wz [s0,.sh (.str t),.sh (aJ l),s3]=.ok (.nx,[s0,.sh (.str (t++rS l ++ "\n")),.sh (aJ l),s']):=by
 obtain⟨s',e⟩:=Pn s0 (.sh (aJ l)) l t s3 hw (by omega)
 rw[Pk l t hn]at e
 have lr:=wg hw
 have lt:(t++rS l).length<=80000:=by rw[len_app]; omega
 have e2:=Pq s0 (u:=t++rS l) len1.2.1 [.sh (aJ l),s'] (by omega)
 have c:=len1.2.2.1
 have a:=wk (a:=t++rS l) (b := "\n") (by omega)
 refine⟨s',?_⟩
 have fs:dR (aj 2) [s0,.sh (.str t),.sh (aJ l),s3]=.ok (l.map fT,[s0,.sh (.str t),.sh (aJ l),s3]):=rfl
 unfold wz
 generalize bJ=A,uf=E,wu=B,dR _=I,aJ l=R,l.map fT=L,t++rS l=u,t++rS l ++ " " = w,t++rS l ++ "\n" = v at *
 simp -dsimp[dr,fs,e,e2,a]
def uS:List (List (Int × Int))->Str->Str
 | [],t=>t
 | l :: ls,t=>uS ls (t ++ rS l ++ "\n")
theorem Pu:∀(ls:List (List (Int × Int))) (t:Str),ls≠[]->uS ls t=t++bS ls ++ "\n"
 | [],_,h=>absurd rfl h
 | [x],t,_=>rfl
 |x::y::r,t,_=>by
  show uS (y::r) (t++rS x ++ "\n")=t++(rS x ++ "\n" ++ bS (y::r)) ++ "\n"
  rw[Pu (y::r) _ (List.cons_ne_nil _ _)]
  simp only[Ph]
theorem Px(s0:Sl):∀(ls:List (List (Int × Int))) (t:Str) (s2 s3:Sl),(∀l∈ls,l≠[]/\l.length<=12/\∀w∈l,Rx w)->t.length+ls.length*1000<=70000->∃(s2' s':Sl),gM (gN 2) wz (ls.map aJ) [s0,.sh (.str t),s2,s3]=.ok (.nx,[s0,.sh (.str (uS ls t)),s2',s'])
 | [],t,s2,s3,_,_=>⟨s2,s3,rfl⟩
 |l::ls,t,s2,s3,h,hl=>by
  rw[List.length_cons]at hl
  obtain⟨h0,h1,h2⟩:=h l (by simp)
  obtain⟨s1,e1⟩:=aa9 s0 t s3 h0 (λw hw=>(h2 w hw).1) (by omega)
  have lr:=wg λx hx=>(h2 x hx).1
  have c:=len1.2.2.1
  obtain⟨s2',s',e'⟩:=Px s0 ls (t++rS l ++ "\n") (.sh (aJ l)) s1 (λv hv=>h v (by simp[hv])) (by rw[len_app,len_app]; omega)
  refine⟨s2',s',?_⟩
  rw[List.map_cons]
  exact Gf e1 e'
theorem abb(a:Str):("" : Str)++a=a:=oE (by rw[ud,show("" : Str).cps.toList=[] by decide +kernel]; rfl)
theorem Py{ls:List (List (Int × Int))}(h:Bx ls):pR [bf ls]=.ok (.str (bS ls),false):=by
 have c:=len1.2.2.2
 have l4:=h.2.1
 obtain⟨s2,s3,e⟩:=Px (.sh (bf ls)) ls "" .un .un h.2.2 (by omega)
 rw[Pu ls "" h.1,abb]at e
 have ln:=h.len
 have e2:=Pq (.sh (bf ls)) (u:=bS ls) len1.2.2.1 [s2,s3] (by omega)
 have fs:∀s1 s2 s3,dR (aj 0) [.sh (bf ls),s1,s2,s3]=.ok (ls.map aJ,[.sh (bf ls),s1,s2,s3]):=λ_ _ _=>rfl
 show aU 4 (aL (cF (eC (.str "")) (gN 1)) (aL (gj (iM (dR (aj 0)) (gN 2) wz)) (aX uf))) _=_
 generalize ("" : Str)=z,uf=E,wz=B,dR _=I,bf ls=R,ls.map aJ=L,bS ls=u,bS ls ++ "\n" = v at *
 simp -dsimp[aU,aO,bM,fs,e,e2]
end K68
end
section
namespace K68
open K70 PySem L2 BH PySem.NumText
@[simp] theorem aen(i:Nat)(F:FD)(fa:AF)(ρ : En):zp i F fa ρ = bd (fa ρ) (λp=>if p.1.any aQ=true then .bad else bd (drs p.2 p.1) (λas=>bd (F as) (λts=>.ok (.nx,p.2.set i (.dp ts))) .mk) .mk) .mk:=rfl
theorem Pz{ls:List (List (Int × Int))}{c:Nat}(hb:Bk c ls):lY [bf ls]=.ok (.str (bS ls),false):=by
 have h:=Bx.gP hb
 exact aaU (λl m=>⟨(h.2.2 l m).2.1,λx hx=>((h.2.2 l m).2.2 x hx).1⟩) h.2.1 hb.gP
theorem abd{n k:Nat}(h:k<n):cR n (k:Int)=some k:=by
 unfold cR
 simp
 omega
def Gv:EF:=dg [none] (dR (aj 0)) (gN 0) cG (bh (g1 cU) (ak (aj 0) ao))
theorem abe(ls:List (List (Int × Int)))(hl:ls.length<=4)(τ : En):Gv (.sh (bf ls)::τ)=.ok (.v (.lst (ls.map aJ)) true,.sh (bf ls)::τ):=by
 refine vX (r:=aJ) (by omega) rfl rfl (λ_=>rfl) (λ_=>rfl) λl _=>⟨true,?_⟩
 have g:cU (aJ l)=.ok (aJ l,true):=rfl
 generalize cU=G,aJ l=R at *
 simp -dsimp[bQ,dr,drs,g1,g]
def zV:BF:=mW (bV (bT (aV mZ (ak (aj 4) (ak (aj 0) ao)))))
theorem abf{ls:List (List (Int × Int))}(hl:ls.length<=4)(s2 s3:Tr):zV [.sh (bf ls),.ow (ls.map aJ),.sh s2,.sh s3,.dp (ls.map aJ)]=.ok (false,[.sh (bf ls),.ow (ls.map aJ),.sh s2,.sh s3,.dp (ls.map aJ)]):=by
 have e:=O3 hl
 have b:bV (bT (aV mZ (ak (aj 4) (ak (aj 0) ao)))) [.sh (bf ls),.sh (bf ls),.sh s2,.sh s3,.sh (bf ls)]=.ok (false,[.sh (bf ls),.sh (bf ls),.sh s2,.sh s3,.sh (bf ls)]):=by
  generalize bf ls=T,mZ=F at *
  simp -dsimp[dr,drs,aQ,iB,e]
 unfold zV mW
 rw[show vw [.sh (bf ls),.ow (ls.map aJ),.sh s2,.sh s3,.dp (ls.map aJ)]=[.sh (bf ls),.sh (bf ls),.sh s2,.sh s3,.sh (bf ls)]from rfl,b]
 rfl
def zW:EF:=bh (g1 cU) (ak (yJ (aB bD (aj 0) (iK j5 (eC (.int 1))))) ao)
theorem abg{ls:List (List (Int × Int))}{l:List (Int × Int)}(hl:ls.getLast? = some l)(τ : En):zW (.sh (bf ls)::τ)=.ok (.v (aJ l.reverse) true,.sh (bf ls)::τ):=by
 have n:j5 (.int 1)=.ok (.int (-1),false):=rfl
 have i:bD (bf ls) (.int (-1))=.ok (aJ l,false):=by
  have hp:ls≠[]:=λz=>by rw[z]at hl; cases hl
  have lp:=List.length_pos_iff.mpr hp
  have a:cB (ls.map aJ) (-1)=some (aJ l):=by
   unfold cB
   have:cR (ls.map aJ).length (-1)=some (ls.length-1):=by
    unfold cR
    rw[List.length_map]
    simp
    omega
   rw[this]
   show(ls.map aJ)[ls.length-1]?=_
   rw[List.getElem?_map,<-List.getLast?_eq_getElem?,hl]
   rfl
  show(match cB (ls.map aJ) (-1)with|some t=>Rs.ok (t,false)|none=>.bad)=_
  rw[a]
 have r:yI (aJ l)=.ok (aJ l.reverse,true):=by
  show Rs.ok (Tr.lst (l.map fT).reverse,true)=Rs.ok (Tr.lst (l.reverse.map fT),true)
  rw[List.map_reverse]
 have g:cU (aJ l.reverse)=.ok (aJ l.reverse,true):=rfl
 unfold zW
 generalize cU=G,bD=I,j5=N,(-1:Int)=m,bf ls=T,aJ l=R,aJ l.reverse=R2 at *
 simp -dsimp[dr,drs,g1,n,i,r,g]
theorem abh{ls:List (List (Int × Int))}{c:Nat}(hb:Bk c ls):tU [bf ls]=.ok (.bl true,false):=by
 have hx:=Bx.gP hb
 obtain⟨l0,lr,e0⟩:=List.exists_cons_of_ne_nil hx.1
 obtain⟨l,hl⟩:∃l,ls.getLast? = some l:=⟨ls.getLast hx.1,List.getLast?_eq_getLast hx.1⟩
 have ml:l∈ls:=List.mem_of_getLast? hl
 have hb2:Bk c (ls.set 0 l.reverse):=by
  obtain⟨h1,h2,h3,h4,h5⟩:=hb
  refine⟨by rw[List.length_set]; exact h1,by rw[List.length_set]; exact h2,h3,h4,λr hr=>?_⟩
  rcases List.mem_or_eq_of_mem_set hr with hr|rfl
  ·exact h5 r hr
  ·obtain⟨a,b⟩:=h5 l ml
   exact⟨by rw[List.length_reverse]; exact a,λx hx=>b x (List.mem_reverse.mp hx)⟩
 have a1:=abe ls hx.2.1 [.un,.un,.un,.un]
 have a2:=Py hx
 have a3:=Pz hb
 have a4:=vW (T:=.str (bS ls)) (by rw[gZ]; omega)
 have a5:=vW (T:=bf ls) (by have:=aaw ls; omega)
 have a6:=aa6 hb
 have a7:=abf hx.2.1 (.str (bS ls)) (.str (bS ls))
 have a8:qQ 4 [.sh (bf ls),.ow (ls.map aJ),.sh (.str (bS ls)),.sh (.str (bS ls)),.dp (ls.map aJ)]=.ok (.nx,[.sh (bf ls),.ow (ls.map aJ),.sh (.str (bS ls)),.sh (.str (bS ls)),.un]):=by
  have l1:(l0.map fT).length<=1000/\(ls.map aJ).length<=1000:=by
   rw[List.length_map,List.length_map]
   have:=(hx.2.2 l0 (by rw[e0]; simp)).2.1
   have:=hx.2.1
   omega
  show(match ls.map aJ with
   |.lst us::_=>if us.length<=1000/\(ls.map aJ).length<=1000 then Rs.ok (Fl.nx,_)else .bad
   |_=>.bad)=_
  rw[e0]at l1 ⊢
  show(if(l0.map fT).length<=1000/\((l0::lr).map aJ).length<=1000 then Rs.ok (Fl.nx,_)else .bad)=_
  rw[if_pos l1]
  rfl
 have a9:=aa5 hb
 have a10:=O3 hx.2.1
 have a11:=abg hl [.ow (ls.map aJ),.sh (.str (bS ls)),.sh (.str (bS ls)),.un]
 have abj:(ls.map aJ).set 0 (aJ l.reverse)=(ls.set 0 l.reverse).map aJ:=(List.map_set).symm
 have ix:cR (ls.map aJ).length 0=some 0:=abd (k:=0) (by rw[List.length_map]; have:=hb.1; omega)
 have b1:=Pz hb2
 have b2:=Py (Bx.gP hb2)
 have b3:=N6 (T:=.str (bS (ls.set 0 l.reverse))) (by rw[gZ]; omega)
 have b4:=N6 (T:=.str (bS ls)) (by rw[gZ]; omega)
 have ck:bW (.v (aJ l.reverse) true)=.ok (aJ l.reverse):=rfl
 have d1:Tr.lst (ls.map aJ)=bf ls:=rfl
 have d2:Tr.lst ((ls.set 0 l.reverse).map aJ)=bf (ls.set 0 l.reverse):=rfl
 show aU 5 (aL (sI 1 Gv) (aL (cF (aV pR (ak (aj 0) ao)) (gN 2)) (aL (cF (aV lY (ak (aj 1) ao)) (gN 3)) (aL (cA (dZ (bV (bT (gW .str (aj 3)))) (dZ (bY (aB bN (aj 3) (aj 2))) (bY (aB bN (aj 1) (aj 0))))) (aX (eC (.bl false))) cu) (aL (zp 4 tK (ak (aj 2) ao)) (aL (cA zV (aX (eC (.bl false))) cu) (aL (qQ 4) (aL (cA (bV (bT (aV mZ (ak (aV tH (ak (aj 2) ao)) (ak (aj 0) ao))))) (aX (eC (.bl false))) cu) (aL (vo 1 (eC (.int 0)) zW) (aX (pB (aB bH (aV lY (ak (aj 1) ao)) (aV pR (ak (aj 1) ao))) (aB bH (aV lY (ak (aj 0) ao)) (aj 2))))))))))))) _=_
 generalize bN=N,bH=E,mZ=f9,tH=f8,tK=f7,lY=f6,pR=f5,qQ 4=f4,zW=f3,zV=f2,Gv=f1,bS ls=z,bS (ls.set 0 l.reverse)=z2,aJ l.reverse=R,ls.map aJ=L,(ls.set 0 l.reverse).map aJ=L2,bf ls=T,bf (ls.set 0 l.reverse)=T2 at *
 subst d1
 subst d2
 simp -dsimp[aU,aO,con,drs,dr,cls,ck,aQ,cX,bK,jm,iw,bA,eB,cV,iB,a1,a2,a3,a4,a5,a6,a7,a8,a9,a10,a11,abj,ix,b1,b2,b3,b4]
end K68
end
section
namespace K68
open K70 PySem L2 BH PySem.NumText
def ug:SF:=cA (bV (bT (aV tU (ak (vK tO (aV qT (ak (aj 0) (ak (aj 1) ao)))) ao)))) (aX (eC (.bl false))) cu
theorem abk(ns:List Int)(k:Nat)(hk:k<1000):ug [.sh (.lst (ns.map .int)),.sh (.int k)]=.ok (.nx,[.sh (.lst (ns.map .int)),.sh (.int k)]):=by
 obtain⟨n,e0⟩:=aaI ns k hk
 obtain⟨rows,c,n1,e1,hb⟩:=aaG n
 have e2:=abh hb
 unfold ug
 generalize tU=f7,tO=f6,qT=f5,(k:Int)=k',Tr.lst (ns.map .int)=S,bf rows=B at *
 simp -dsimp[drs,dr,aQ,iB,e0,e1,e2]
theorem PB(ns:List Int):∀(us:List Tr) (s1:Sl),(∀u∈us,∃j:Int,u=.int j/\0<=j/\j<1000)->∃t1,gM (gN 1) ug us [.sh (.lst (ns.map .int)),s1]=.ok (.nx,[.sh (.lst (ns.map .int)),t1])
 | [],s1,_=>⟨s1,rfl⟩
 |u::us,s1,h=>by
  obtain⟨j,rfl,j0,j1⟩:=h u (by simp)
  obtain⟨k,rfl⟩:∃k:Nat,j=k:=⟨j.toNat,by omega⟩
  obtain⟨r1,e'⟩:=PB ns us (.sh (.int k)) λv hv=>h v (by simp[hv])
  exact⟨r1,Gf (abk ns k (by omega)) e'⟩
theorem abl(ns:List Int)(ρ : En):∃n:Nat,n<=30/\jE (ak (bh (g2 fQ) (ak (bh (g2 fP) (ak (bh (g1 aW) (ak (aj 0) ao)) (ak (eC (.int 30)) ao))) (ak (eC (.int 1)) ao))) ao) (.sh (.lst (ns.map .int))::ρ)=.ok (L2.upTo 0 n,.sh (.lst (ns.map .int))::ρ):=by
 by_cases h:(30:Int)<ns.length
 ·exact⟨30,by omega,by simp -dsimp[bM,cD,eX,bK,con,cH,eB,bA,bU,dr,drs,cls,bW,dW,g1,g2,gI,dz,gB,bH,bJ,cP,dD,cZ,dU,aW,cU,fM,dI,okR,cX,aQ,others,bQ,bx,bZ,dF,dJ,dG,d7,fP,fQ,h]⟩
 ·by_cases h':(ns.length:Int)<1
  ·exact⟨1,by omega,by simp -dsimp[bM,cD,eX,bK,con,cH,eB,bA,bU,dr,drs,cls,bW,dW,g1,g2,gI,dz,gB,bH,bJ,cP,dD,cZ,dU,aW,cU,fM,dI,okR,cX,aQ,others,bQ,bx,bZ,dF,dJ,dG,d7,fP,fQ,h,h']⟩
  ·refine⟨ns.length,by omega,?_⟩
   have q1:(-1000000:Int)<=ns.length:=by omega
   have q2:(ns.length:Int)<=1000000:=by omega
   simp -dsimp[bM,cD,eX,bK,con,cH,eB,bA,bU,dr,drs,cls,bW,dW,g1,g2,gI,dz,gB,bH,bJ,cP,dD,cZ,dU,aW,cU,fM,dI,okR,cX,aQ,others,bQ,bx,bZ,dF,dJ,dG,d7,fP,fQ,h,h',q1,q2]
theorem abm(ns:List Int):vQ [.lst (ns.map .int)]=.ok (.bl true,false):=by
 obtain⟨n,hn',er⟩:=abl ns [.un]
 obtain⟨t1,e⟩:=PB ns (L2.upTo 0 n) .un λu hu=>by
  obtain⟨j,rfl,h1,h2⟩:=Gh _ _ _ hu
  exact⟨j,rfl,h1,by omega⟩
 show aU 2 (aL (gj (iM (jE (ak (bh (g2 fQ) (ak (bh (g2 fP) (ak (bh (g1 aW) (ak (aj 0) ao)) (ak (eC (.int 30)) ao))) (ak (eC (.int 1)) ao))) ao)) (gN 1) ug)) (aX (eC (.bl true)))) _=_
 have e1:gj (iM (jE (ak (bh (g2 fQ) (ak (bh (g2 fP) (ak (bh (g1 aW) (ak (aj 0) ao)) (ak (eC (.int 30)) ao))) (ak (eC (.int 1)) ao))) ao)) (gN 1) ug) [.sh (.lst (ns.map .int)),.un]=.ok (.nx,[.sh (.lst (ns.map .int)),t1]):=by
  unfold gj iM
  rw[er]
  show bM (gM (gN 1) ug (L2.upTo 0 n) _)=_
  rw[e]
  rfl
 generalize gj _=G at e1 ⊢
 unfold aU
 simp -dsimp[bM,cD,eX,bK,con,cH,eB,bA,bU,dr,drs,cls,bW,dW,g1,g2,gI,dz,gB,bH,bJ,cP,dD,cZ,dU,aW,cU,fM,dI,okR,cX,aQ,others,bQ,bx,bZ,dF,dJ,dG,d7,aO,e1]
end K68
end
section
namespace L2
open PySem PySem.Spec PyProof.Rows PySem.W
theorem abn{P:Program}{w:World}{K:FZ}{mg mb:Str->Option Value}{CX:jz}{k:Nat}{fa a:Addr}{x:Str}{sp:Sp}{s₁ : Shared}{vs:List Value}{ns:List Int}
  (KX:K.In s₁.heap) (hns:s₁.heap.Ns mainGlobals mg) (hb:s₁.heap.Ns builtinsNs mb) (hbb:∀x:Str,x ≠ "__name__" -> mb x=bootBuiltins x) (hlim:s₁.heap.NoLimit) (hg:s₁.gens = #[])
  (ha:s₁.heap.get? a=some {cls:=.type "list",data:=.seq vs.toArray }) (hi:IntsAre vs ns) (hl:ns.length<=sizeLine) (hr:fC k callerA)
  (hT:∀x∈nC,∀c b,tabIn K x=some (c,b)->CodeHd s₁.heap c b/\s₁.heap.get? b=some (tabObj #[])) (rE:noTabs K=true) (hB:vJ mg s₁.heap)
  (F:∀base:Heap,K.In base->base.Ns mainGlobals mg->(∀x∈nC,∀c b,tabIn K x=some (c,b)->CodeHd base c b)->vJ mg base->∃fd:FuncData,(∀(s:Shared) (u:Value),K.In s.heap->BindsTo s fd ⟨[u],[]⟩ [(x,u)])/\jN P w K mg base CX k fa fd [x] sp)
  (hsp:∀H:Hp,dw (au K) H->j4 K H a (ns.map V.int)->sp [.ref a] H (λv _=>v=.bl true) λ_ _ _=>False)
  (Gw:∀H e s',CX [] H s₁ (λ_ _ _=>False) e s'->False) :
  codeAny (model P w) callerA (.call (.ref fa) ⟨[.ref a],[]⟩) (λr s'=>r=.ok (.ret (.bool true))/\OldK s₁.heap s'.heap/\s'.os=s₁.os/\AllBare s'.gens) s₁ := by
 have rv:=Jv hi
 have lenV:=hi.length
 -- from an abstract heap in which nothing but the script may be tracked
 have hT':∀b,Tb (au K) b->∃c,CodeHd s₁.heap c b/\s₁.heap.get? b=some (tabObj #[]):=λb ⟨x,hx,c,e⟩=>⟨c,hT x hx c b (XS e)⟩
 have core:∀H:Hp,(∀b,H b=none\/(∃o xs,H b=some (.cD o (.lst xs)))\/(H b=some (.dM #[])/\Tb (au K) b))->dw (au K) H->j4 K H a (ns.map V.int)->d8 P w H s₁.heap->(∀b,H b≠none->b=a\/Tb (au K) b)->(H a≠none->K.lookup a=none) ->
   codeAny (model P w) callerA (.call (.ref fa) ⟨[.ref a],[]⟩) (λr s'=>r=.ok (.ret (.bool true))/\OldK s₁.heap s'.heap/\s'.os=s₁.os/\AllBare s'.gens) s₁ := by
  intro H hO hTb hS hok hA hK
  have zX:∀{b:Addr} {o:Obj},s₁.heap.get? b=some o->H b=none->(m7 s₁.heap H).get? b=some o:=λe n=>Qn e n
  have uL:∀{b:Addr} {o:Obj} {es:Array DictEntry} {ep:Nat},s₁.heap.get? b=some o->o.data=.dict es ep->H b=none:=λ{b o es ep} e d=>by
   cases q:H b with
   |none=>rfl
   |some u =>
    rcases hA b (by rw[q]; simp)with e'|e'
    ·subst e'
     rw[ha]at e; cases e
     have d':Data.seq vs.toArray _=Data.dict es ep:=d
     cases d'
    ·obtain⟨c,_,z⟩:=hT' b e'
     rw[z]at e; cases e
     cases d
  have zY:∀{b:Addr} {m:Str->Option Value},s₁.heap.Ns b m->(m7 s₁.heap H).Ns b m:=λ{b m} ⟨o,es,ep,e,d,r⟩=>⟨o,es,ep,zX e (uL e d),d,r⟩
  have PJ:K.In (m7 s₁.heap H):=λb o e=>zX (KX b o e) (by
   cases q:H b with
   |none=>rfl
   |some u =>
    rcases hA b (by rw[q]; simp)with e'|e'
    ·subst e'
     rw[hK (by rw[q]; simp)]at e; cases e
    ·obtain⟨c,_,z⟩:=hT' b e'
     have z2:=KX b o e
     rw[z]at z2
     cases z2
     have h2:=List.all_eq_true.mp rE (b,_) (mem_of_lookupK e)
     exact absurd (show false=true from h2) Bool.false_ne_true)
  have hM:Mod K mg (m7 s₁.heap H):=⟨PJ,zY hns,⟨mb,zY hb,hbb⟩,let⟨mc,h1,h2⟩:=hlim; ⟨mc,zY h1,h2⟩⟩
  have e0:xg P w K mg (m7 s₁.heap H) callerA [] s₁ H:=⟨rfl,hM,λb o e=>Qo e,Nat.le_of_eq (Qm _ _),trivial,λb hb=>absurd (show b∈([]:List Addr)from hb) (by simp),hok,.of_eq hg⟩
  have free:∀{b:Addr} {o:Obj},s₁.heap.get? b=some o->o.cls ≠ .none->(∀its n,o.data ≠ .seq its n)->H b=none:=λ{b o} e n1 n2=>by
   cases q:H b with
   |none=>rfl
   |some u =>
    rcases hA b (by rw[q]; simp)with e'|e'
    ·subst e'
     rw[ha]at e; cases e
     exact(n2 _ _ rfl).elim
    ·obtain⟨c,_,z⟩:=hT' b e'
     rw[z]at e; cases e
     exact(n1 rfl).elim
  obtain⟨fd,hbind,F1⟩:=F _ PJ (zY hns) (λx hx c b e=>by
   obtain⟨o,vs',file,tf,flags,tg,inF,text,tt,e1,r1,r2,r3⟩:=(hT x hx c b e).1
   exact⟨o,vs',file,tf,flags,tg,inF,text,tt,zX e1 (free e1 (by rw[r1]; intro z; cases z) (λ_ _ z=>by rw[r2]at z; cases z)),r1,r2,r3⟩) (by
   obtain⟨bm,ob,b1,b2,b3,b4,b5,b6,b7⟩:=hB
   exact⟨bm,ob,b1,b2,b3,zX b4 (free b4 (by rw[b5]; intro z; cases z) (λ_ _ z=>by rw[b7]at z; cases z)),b5,b6,b7⟩)
  refine codeAny_mono (F1.run callerA [] s₁ H ⟨[.ref a],[]⟩ [.ref a] [.ref a] _ _ hr e0 (hbind s₁ (.ref a) KX) (.cons rfl .nil) (hsp H hTb hS)) λr s' h=>?_
  cases r with
  |error e=>exact(Gw H e s' h).elim
  |ok fl =>
   cases fl with
   |next=>exact False.elim h
   |brk=>exact False.elim h
   |cont=>exact False.elim h
   |ret u =>
    obtain⟨v,H',os,bare,un,hok',r',q⟩:=h
    have q':v=.bl true:=q
    subst q'
    obtain rfl:u=Value.bool true:=r'
    refine⟨rfl,⟨λb o e=>?_,λb o e=>un.there b o e (by simp)⟩,os,bare⟩
    cases q:H b with
    |none=>exact .inl (un.keep b o e q (by intro z; exact absurd (show b∈([]:List Addr)from z) (by simp)) (by simp))
    |some u =>
     rcases hO b with z|⟨ob,xs,z⟩|⟨z,zt⟩
     ·rw[q]at z; cases z
     ·have z2:=un.lB b ob _ z
      obtain⟨e1,_⟩:=hok b _ z
      obtain⟨e2,_⟩:=hok' b _ z2
      rw[e]at e1; cases e1
      exact .inl e2
     ·obtain⟨more,z2⟩:=un.lC b _ z
      have e1:s₁.heap.get? b=some (tabObj #[]):=hok b _ z
      have e2:s'.heap.get? b=some (tabObj (#[]++more)):=hok' b _ z2
      rw[e]at e1; cases e1
      obtain⟨c,hc,_⟩:=hT' b zt
      exact .inr (.inl ⟨(hc.tab e).isCodeTable,rfl,#[],more,rfl,e2⟩)
 classical
 have PK:∀H:Hp,(∀b,Tb (au K) b->H b=some (.dM #[]))->dw (au K) H:=λH h x hx c b e=>⟨#[],h b ⟨x,hx,c,e⟩,trivial,λpos v z=>by cases z⟩
 have PL:¬Tb (au K) a:=λz=>by
  obtain⟨c,_,e⟩:=hT' a z
  rw[ha]at e
  cases e
 cases hk:K.lookup a with
 |some o =>
  have e:=KX a o hk
  rw[ha]at e
  cases e
  refine core (λb=>if Tb (au K) b then some (.dM #[])else none) (λb=>?_) (PK _ λb z=>if_pos z) (.inr ⟨vs.toArray,_,hk,by rw[List.size_toArray,lenV]; exact hl,by simpa using rv⟩) (λb u z=>?_) (λb z=>?_) λz=>?_
  ·by_cases q:Tb (au K) b
   ·exact .inr (.inr ⟨if_pos q,q⟩)
   ·exact .inl (if_neg q)
  ·by_cases q:Tb (au K) b
   ·have z':=(if_pos q).symm.trans z
    cases z'
    obtain⟨c,_,e⟩:=hT' b q
    exact e
   ·have z':=(if_neg q).symm.trans z
    cases z'
  ·by_cases q:Tb (au K) b
   ·exact .inr q
   ·exact absurd (if_neg q) z
  ·exact absurd (if_neg PL) z
 |none =>
  refine core (λb=>if b=a then some (.cD {cls:=.type "list",data:=.seq vs.toArray } (.lst (ns.map V.int)))else if Tb (au K) b then some (.dM #[])else none) (λb=>?_) (PK _ λb z=>by
   have nb:¬b=a:=λq=>PL (by rw[<-q]; exact z)
   exact(if_neg nb).trans (if_pos z)) (.inl (.inr ⟨{cls:=.type "list",data:=.seq vs.toArray },if_pos rfl⟩)) (λb u z=>?_) (λb z=>?_) λ_=>hk
  ·by_cases hb:b=a
   ·exact .inr (.inl ⟨_,_,if_pos hb⟩)
   ·by_cases q:Tb (au K) b
    ·exact .inr (.inr ⟨(if_neg hb).trans (if_pos q),q⟩)
    ·exact .inl ((if_neg hb).trans (if_neg q))
  ·by_cases hb:b=a
   ·have z':=(if_pos hb).symm.trans z
    cases z'
    subst hb
    exact⟨ha,by rw[List.length_map]; exact hl,vs,_,rv,ha⟩
   ·have z':=(if_neg hb).symm.trans z
    by_cases q:Tb (au K) b
    ·have z':=(if_pos q).symm.trans z'
     cases z'
     obtain⟨c,_,e⟩:=hT' b q
     exact e
    ·have z':=(if_neg q).symm.trans z'
     cases z'
  ·by_cases hb:b=a
   ·exact .inl hb
   ·by_cases q:Tb (au K) b
    ·exact .inr q
    ·exact absurd ((if_neg hb).trans (if_neg q)) z
theorem abo{l:PySem.W.OpenLaw}{n k:Nat}{q:Program}{loose:List Str}{XP:(Str->Option Value)->Heap->Prop}{YP:World->Heap->Prop}{d:DefRec}{K:Params->FZ}{CX:World->jz}{sp:World->Sp}{x:Str}
  (hn:l.most=some n) (hn2:n<=sizeLine) (hdf:d.params.defaults=[]) (hr:fC k callerA)
  (wA:∀x∈nC,((recsOf q).find? (λe=>e.name == x)).isSome=true\/∀w:World,nsIn (K w.params) mainGlobals x=some none) (rE:∀w:World,noTabs (K w.params)=true)
  (hY:∀(w:World) (h:Heap),YP w h->(K w.params).In h)
  (F:∀(w:World) (mg:Str->Option Value) (fa:Addr) (h:Heap),(K w.params).In h->h.Ns mainGlobals mg->mg d.name=some (.ref fa) ->
   ∀base:Heap,(K w.params).In base->base.Ns mainGlobals mg->(∀x∈nC,∀c b,tabIn (K w.params) x=some (c,b)->CodeHd base c b)->vJ mg base->∃fd:FuncData,(∀(s:Shared) (u:Value),(K w.params).In s.heap->BindsTo s fd ⟨[u],[]⟩ [(x,u)])/\jN l.prog w (K w.params) mg base (CX w) k fa fd [x] (sp w))
  (hsp:∀(w:World) (H:Hp) (a:Addr) (ns:List Int),ns.length<=n->dw (au (K w.params)) H->j4 (K w.params) H a (ns.map V.int)->sp w [.ref a] H (λv _=>v=.bl true) λ_ _ _=>False)
  (Gw:∀(w:World) (H:Hp) (s:Shared) (e:Value) (s':Shared),CX w [] H s (λ_ _ _=>False) e s'->False) :
  PySem.W.WalkO q loose XP YP l.row.toRowW d [] (λf vs=>PySem.call f vs):=by
 refine Ju.Sd hn hdf λw s₀ s₁ mg mb fa o pm cd doc a vs ns G Y ho hd hcd hmg hobj hints hlen hg=>?_
 have KX:=hY w _ Y
 have hT:∀x∈nC,∀c b,tabIn (K w.params) x=some (c,b)->CodeHd s₁.heap c b/\s₁.heap.get? b=some (tabObj #[]):=λx hx c b e=>by
  rcases wA x hx with z|z
  ·obtain⟨d,z⟩:=Option.isSome_iff_exists.mp z
   exact tab_of G.T KX z e
  ·rw[X3 (z w)]at e; cases e
 have hB:vJ mg s₁.heap:=by
  obtain⟨bm,ob,b1,b2,b3,b4,b5,b6⟩:=G.T.bmain
  refine⟨bm,ob,b1,b2,λz=>?_,b3,b4,b5,b6⟩
  obtain⟨o,es,ep,e,hd,_⟩:=G.T.g
  rw[z,e]at b3; cases b3
  rw[hd]at b6; cases b6
 exact abn KX G.T.g G.T.b G.T.builtins G.T.nolimit hg hobj hints (Nat.le_trans hlen hn2) hr hT (rE w) hB (F w mg fa _ KX G.T.g hmg) (λH hO hS=>hsp w H a ns hlen hO hS) λH e s'=>Gw w H s₁ e s'
end L2
end
section
namespace K68
open PySem L2 BH PySem.W
section
variable {K:Frag}{mg:Str->Option Value}{h:Heap}
theorem abp{x:Str}{st:Stmt}(X:K.In h)(G:h.Ns mainGlobals mg){f:Addr}{od an:Option Addr}{sl:Array (Option Value)}{oc kV dc pm cd ct:Value}
  (a:nsIn K mainGlobals x=some (some (.ref f))) (l:K.lookup f=some ⟨oc,od,.func (fnOf x x (nq st) (jB st) (bw st) .none kV dc pm an cd ct),sl⟩) (c:codeIn K cd x=true) (k:keepIn K (.ref f)=true):At K mg x st :=
 ⟨f,_,Sg (st:=st) l c k,mg_of X G a⟩
theorem Gx{x:Str}{i:Int}{tk:Tok}(X:K.In h)(G:h.Ns mainGlobals mg)(a:nsIn K mainGlobals x=some (some (.int i tk))):Gk K mg x (.int i) (.int i):=⟨.int i tk,mg_of X G a,by first|exact rfl|exact⟨_,rfl⟩,λ_=>.int i⟩
theorem abq(H:Hp):aA (λ_=>False) H=H:=by
 funext b
 exact cW (λz=>z)
theorem PN{K:Frag}{H:Hp}:∀ns:List Int,aC K H (ns.map V.int) (ns.map Tr.int)
 | []=>.nil
 |n::ns=>.cons (.int n) (PN ns)
def zZ(K:Frag)(n:Nat)(F:FP):Sp:=λvs H Q E=>∃Z ts,vs.length=n/\aC (au K) (aA Z H) vs ts/\(∀b,Z b->Lt H b)/\dw (au K) H/\∃p,F ts=.ok p/\∀v H',iQ (au K) H H'->pG (au K) Z H H' v p.1 p.2->Q v H'
theorem abr{K:Frag}{cl:Str->Addr}{n:Nat}{F:FP}(vs:List V)(H:Hp)(Q:VK)(E:XK)(h:zZ K n F vs H Q E):bC K cl n F vs H Q E:=by
 obtain⟨Z,ts,h1,h2,h3,h4,p,h5,h6⟩:=h
 refine⟨Z,ts,h1,h2,h3,h4,?_⟩
 rw[h5]
 exact h6
theorem abt(X:K.In h)(G:h.Ns mainGlobals mg)(z0:nsIn K mainGlobals "abs" = some none) (z1:nsIn K mainGlobals "all" = some none) (z2:nsIn K mainGlobals "bool" = some none) (z3:nsIn K mainGlobals "int" = some none) (z4:nsIn K mainGlobals "isinstance" = some none) (z5:nsIn K mainGlobals "len" = some none) (z6:nsIn K mainGlobals "list" = some none) (z7:nsIn K mainGlobals "max" = some none) (z8:nsIn K mainGlobals "min" = some none) (z9:nsIn K mainGlobals "range" = some none) (PX:nsIn K mainGlobals "str" = some none) (P0:nsIn K mainGlobals "tuple" = some none) (Qa:nsIn K mainGlobals "zip" = some none):Nm mg :=
 ⟨mg_none_of X G z0,mg_none_of X G z1,mg_none_of X G z2,mg_none_of X G z3,mg_none_of X G z4,mg_none_of X G z5,mg_none_of X G z6,mg_none_of X G z7,mg_none_of X G z8,mg_none_of X G z9,mg_none_of X G PX,mg_none_of X G P0,mg_none_of X G Qa⟩
end
section
variable {P:Program}{w:World}{K:Frag}{mg:Str->Option Value}{base:Heap}
theorem abu(M:Nm mg){Gy:Addr}(zM:PyProof.Rows.OwnCls "NoBook" Gy sY "ValueError.__new__" mg base) {Gz:Addr} (m5:PyProof.Rows.OwnCls "NoText" Gz sY "ValueError.__new__" mg base) (XT:jV K) (abv:At K mg "is_whole" Eh) (abw:At K mg "common_divisor" Ei) (abx:At K mg "is_fraction" Ej) (aby:At K mg "is_worth" Ek) (abz:At K mg "are_worths" zq) (abA:At K mg "is_book" vO) (abB:At K mg "need_book" El) (abC:At K mg "shown_fraction" Em) (abD:At K mg "shown_fractions" zu) (abE:At K mg "shown_book" zx) (abF:At K mg "whole_from" Eo) (abG:At K mg "fraction_from" Ep) (abH:At K mg "fractions_from" zy) (abI:At K mg "need_text" Er) (abJ:At K mg "read_book" zA) (abK:At K mg "read_book" zB) (abL:At K mg "_law_mixed" Es) (abM:At K mg "_law_pile" Et) (abN:At K mg "_law_take" Eu) (abO:At K mg "_law_shared" Ew) (abP:At K mg "_law_frac" Ey) (abQ:At K mg "_law_whole" Ez) (abR:At K mg "_law_worth" EY) (abS:At K mg "_law_book" vP) (abT:At K mg "_law_frac_text" Fb) (abU:At K mg "_law_book_text" Fd) (abV:At K mg "_law_fracs" Fe) (abW:At K mg "_law_same_book" zE) (abX:At K mg "_law_good" zF) (abY:At K mg "law" Fg) {FJ:V} (zK:Gk K mg "MOST_LISTS" FJ (.int 4)) {FN:V} (zL:Gk K mg "MOST_THINGS" FN (.int 12)) {vU:V} (pU:Gk K mg "MOST_FIGURES" vU (.int 40)):aP P w K mg base 9 "law" (["_law_script"]:List Str) (zZ K 1 vQ):=by
 obtain⟨cl,abZ,ab0⟩:∃cl:Str→Addr,cl "NoBook" = Gy∧cl "NoText" = Gz:=⟨λx=>if x=("NoBook" : Str)then Gy else if x=("NoText" : Str)then Gz else 0,if_pos rfl,(if_neg (by decide +kernel)).trans (if_pos rfl)⟩
 rw[<-abZ]at zM
 rw[<-ab0]at m5
 have ab1:=ZR (P:=P) (w:=w) (base:=base) (cl:=cl) abv M XT
 have ab2:=ZF (P:=P) (w:=w) (base:=base) (cl:=cl) abw M
 have Qc:=ZP (P:=P) (w:=w) (base:=base) (cl:=cl) abx M XT ab1 ab2
 have ab3:=ZS (P:=P) (w:=w) (base:=base) (cl:=cl) aby M Qc
 have ab4:=ZC (P:=P) (w:=w) (base:=base) (cl:=cl) abz M XT ab3
 have GC:=ZL (P:=P) (w:=w) (base:=base) (cl:=cl) abA M zK zL XT ab4
 have ab5:=Z1 (P:=P) (w:=w) (base:=base) (cl:=cl) abB M zM GC
 have ab6:=Z9 (P:=P) (w:=w) (base:=base) (cl:=cl) abC M
 have ab7:=aac (P:=P) (w:=w) (base:=base) (cl:=cl) abD M ab6
 have ab8:=Z6 (P:=P) (w:=w) (base:=base) (cl:=cl) abE M ab5 ab7
 have ab9:=aae (P:=P) (w:=w) (base:=base) (cl:=cl) abF M
 have acd:=ZG (P:=P) (w:=w) (base:=base) (cl:=cl) abG M ab9 Qc
 have Qd:=ZJ (P:=P) (w:=w) (base:=base) (cl:=cl) abH M acd
 have Qe:=Z2 (P:=P) (w:=w) (base:=base) (cl:=cl) abI M m5 XT
 have ace:=Z4 (P:=P) (w:=w) (base:=base) (cl:=cl) abJ M pU m5 Qe Qd GC
 have acf:=Z5 (P:=P) (w:=w) (base:=base) (cl:=cl) abK M pU m5 Qe Qd GC
 have acg:=Zo (P:=P) (w:=w) (base:=base) (cl:=cl) abL M
 have ach:=Zq (P:=P) (w:=w) (base:=base) (cl:=cl) abM M acg
 have Qf:=Zw (P:=P) (w:=w) (base:=base) abN M
 have aci:=Zv (P:=P) (w:=w) (base:=base) (cl:=cl) abO M
 have acj:=Zg (P:=P) (w:=w) (base:=base) (cl:=cl) abP M aci
 have acn:=Zx (P:=P) (w:=w) (base:=base) (cl:=cl) abQ M XT
 have aco:=Zy (P:=P) (w:=w) (base:=base) (cl:=cl) abR M Qf acj
 have acp:=Zc (P:=P) (w:=w) (base:=base) abS M Qf aco
 have acq:=Zi (P:=P) (w:=w) (base:=base) (cl:=cl) abT M
 have acr:=Ze (P:=P) (w:=w) (base:=base) (cl:=cl) abU M acq
 have acs:=Zj (P:=P) (w:=w) (base:=base) (cl:=cl) abV M XT acn
 have acu:=Zt (P:=P) (w:=w) (base:=base) (cl:=cl) abW M XT acs
 have acv:=Zk (P:=P) (w:=w) (base:=base) (cl:=cl) abX M XT acr ab8 ace acu acf
 have acw:=ZV (P:=P) (w:=w) (base:=base) (cl:=cl) abY M acv acp ach
 obtain⟨f,fd,h1,h2⟩:=acw
 exact⟨f,fd,h1.imp abr,h2⟩
end
theorem walk{l:OpenLaw}{q:Program}{loose:List Str}{XP:(Str->Option Value)->Heap->Prop}{YP:World->Heap->Prop}{d:DefRec}{K:Params->Frag}(hn:l.most=some 63)(hdf:d.params.defaults=[])(hd:d.name = "law")
  (wA:∀x∈nC,((PyProof.Rows.recsOf q).find? (λe=>e.name == x)).isSome=true\/∀w:World,nsIn (K w.params) mainGlobals x=some none) (rE:∀w:World,noTabs (K w.params)=true)
  (hY:∀(w:World) (h:Heap),YP w h->(K w.params).In h)
  (F:∀(w:World) (mg:Str->Option Value) (h:Heap),(K w.params).In h->h.Ns mainGlobals mg->∀base:Heap,(K w.params).In base->base.Ns mainGlobals mg->(∀x∈nC,∀c b,tabIn (K w.params) x=some (c,b)->CodeHd base c b)->vJ mg base->aP l.prog w (K w.params) mg base 9 "law" (["_law_script"]:List Str) (zZ (K w.params) 1 vQ)) :
  WalkO q loose XP YP l.row.toRowW d [] (λf vs=>PySem.call f vs) :=
 L2.abo (n:=63) (k:=9) (x := "_law_script") (CX:=λw=>iJ l.prog w) (sp:=λw=>zZ (K w.params) 1 vQ) hn (by decide) hdf ⟨rfl,by decide,by decide,rfl⟩ wA rE hY
  (λw mg fa h KX G hm base kb gb hc bm=>by
   obtain⟨f,fd,h1,h2,_,h4⟩:=F w mg h KX G base kb gb hc bm
   rw[hd]at hm
   cases h4.symm.trans hm
   exact⟨fd,λs u ks=>h2 s [u] ks rfl,h1⟩)
  (λw H a ns hl hTb hS=>⟨λ_=>False,[.lst (ns.map .int)],rfl,.cons (.lst ((abq H).symm▸hS.toN) (PN ns)) .nil,λb z=>z.elim,hTb,_,abm ns,λv H' _ r=>by
   cases r
   rfl⟩)
  λw H s e s' h=>by
   obtain⟨_,_,_,_,_,_,z,_⟩:=h
   exact z
end K68
end
section
namespace PySem.W.Fast
end PySem.W.Fast
namespace PySem.W.Fast
end PySem.W.Fast
namespace PySem.W.Fast
theorem tw10030280224596615847:True:=⟨⟩
theorem tw10051324553358525376:True:=⟨⟩
theorem tw10151689205414146627:True:=⟨⟩
theorem tw10338364875047464909:True:=⟨⟩
theorem tw10504350022818389740:True:=⟨⟩
theorem tw10539838811288331094:True:=⟨⟩
theorem tw10937129575160139042:True:=⟨⟩
theorem tw11166814255695568988:True:=⟨⟩
theorem tw11207309937100922061:True:=⟨⟩
theorem tw11338842128821249066:True:=⟨⟩
theorem tw11407435002504657908:True:=⟨⟩
theorem tw11430925902597611128:True:=⟨⟩
theorem tw11762659273643815446:True:=⟨⟩
theorem tw13063366098177479059:True:=⟨⟩
theorem tw13586050729752127696:True:=⟨⟩
theorem tw13821980957488541009:True:=⟨⟩
theorem tw1431392482055772533:True:=⟨⟩
theorem tw14816351062204115311:True:=⟨⟩
theorem tw14845361126421238088:True:=⟨⟩
theorem tw15072313177383993019:True:=⟨⟩
theorem tw15579461850658574094:True:=⟨⟩
theorem tw15684190349562620609:True:=⟨⟩
theorem tw15717443287074608286:True:=⟨⟩
theorem tw15719376865452513442:True:=⟨⟩
theorem tw16015278949539213525:True:=⟨⟩
theorem tw16020806952762122957:True:=⟨⟩
theorem tw16458451123835195677:True:=⟨⟩
theorem tw16718714112001548604:True:=⟨⟩
theorem tw16799491327700618411:True:=⟨⟩
theorem tw1690679195202309398:True:=⟨⟩
theorem tw16962565458261786708:True:=⟨⟩
theorem tw1776926449609031978:True:=⟨⟩
theorem tw17810354555671964571:True:=⟨⟩
theorem tw18362395196670556917:True:=⟨⟩
theorem tw1931733401972054971:True:=⟨⟩
theorem tw1957907723822589625:True:=⟨⟩
theorem tw2016638238320161608:True:=⟨⟩
theorem tw2208581503446986924:True:=⟨⟩
theorem tw2297072245258371019:True:=⟨⟩
theorem tw2566966908230452573:True:=⟨⟩
theorem tw3061436505247133440:True:=⟨⟩
theorem tw3067708295267310901:True:=⟨⟩
theorem tw3377302824270683161:True:=⟨⟩
theorem tw3399509743633270882:True:=⟨⟩
theorem tw3488733770716677800:True:=⟨⟩
theorem tw3617667155068628854:True:=⟨⟩
theorem tw3657701938943604568:True:=⟨⟩
theorem tw3804607608201684642:True:=⟨⟩
theorem tw3899734101408241345:True:=⟨⟩
theorem tw4011450746398945221:True:=⟨⟩
theorem tw444587225092856164:True:=⟨⟩
theorem tw4570514837525560370:True:=⟨⟩
theorem tw5316074905278163474:True:=⟨⟩
theorem tw6111127787883470008:True:=⟨⟩
theorem tw6143537898240988893:True:=⟨⟩
theorem tw6652760799559276159:True:=⟨⟩
theorem tw6934316003768010312:True:=⟨⟩
theorem tw6937992106824454094:True:=⟨⟩
theorem tw7220637996064223469:True:=⟨⟩
theorem tw7522430435023951400:True:=⟨⟩
theorem tw7743456641909304475:True:=⟨⟩
theorem tw79771999049623325:True:=⟨⟩
theorem tw8178505675827841849:True:=⟨⟩
theorem tw850590011426528063:True:=⟨⟩
theorem tw8830916153751190513:True:=⟨⟩
theorem tw8838422117460723132:True:=⟨⟩
theorem tw9073123249038195394:True:=⟨⟩
theorem tw9319623220204929862:True:=⟨⟩
theorem tw9613254850161555787:True:=⟨⟩
theorem tw9686556084637558566:True:=⟨⟩
theorem tw9690561683938742484:True:=⟨⟩
theorem tw9702310269472339114:True:=⟨⟩
theorem tw9824195415409637660:True:=⟨⟩
theorem tw9828430146217735964:True:=⟨⟩
theorem tw9936700401091024325:True:=⟨⟩
end PySem.W.Fast
open PySem PySem.W PyProof.Rows
set_option maxRecDepth 100000 in
set_option maxHeartbeats 0 in
theorem PySem.Challenge.cw_bestheads_k68_books_as_texts_holds : PySem.Challenge.rw_bestheads_k68_books_as_texts.Holds := by
 w_on; o_law; k_head; (case hw=>w_witness2)
 k_fill
 refine K68.walk (l:=PySem.Challenge.rw_bestheads_k68_books_as_texts) rfl rfl rfl ?wA ?rE (λw h Y=>by first|exact PySem.W.km_in_of Y|exact PySem.W.kIn_of Y) ?F
 case wA =>
  intro x hx
  rcases(List.mem_cons.mp hx)with rfl|hx
  ·exact .inr λw=>by k_is
  ·rw[List.mem_singleton.mp hx]
   exact .inr λw=>by k_is
 case rE=>intro w; kernel_rfl
 case F =>
  intro w mg h KX G base kb gb hcd hbm
  refine' K68.abu ?qM ?acy ?acz ?qXT ?qd1 ?qd2 ?qd3 ?qd4 ?qd5 ?qd6 ?qd7 ?qd8 ?qd9 ?acA ?acB ?acC ?acD ?acE ?acF ?acG ?acH ?acI ?acJ ?acK ?acL ?acM ?acN ?acO ?acP ?acQ ?acR ?acS ?acT ?acU ?acV ?acW ?acX
  case qM =>
   refine' K68.abt KX G ?z0 ?z1 ?z2 ?z3 ?z4 ?z5 ?z6 ?z7 ?z8 ?z9 ?PX ?P0 ?Qa
   all_goals k_is
  case qd1|qd2|qd3|qd4|qd5|qd6|qd7|qd8|qd9|acA|acB|acC|acD|acE|acF|acG|acH|acI|acJ|acK|acL|acM|acN|acO|acP|acQ|acR|acS|acT|acU=>exact K68.abp KX G (by k_is) (by k_is) (by k_is) (by k_is)
  case acV =>
   refine' K68.Gx KX G ?acY
   (case acY=>k_is)
  case acW =>
   refine' K68.Gx KX G ?acZ
   (case acZ=>k_is)
  case acX =>
   refine' K68.Gx KX G ?ac0
   (case ac0=>k_is)
  case qXT=>exact L2.jV.of (by kernel_rfl)
  case acy =>
   refine' L2.JW kb gb ?ac1 ?ac2
   (case ac1=>k_is); (case ac2=>k_exc)
  case acz =>
   refine' L2.JW kb gb ?ac3 ?ac4
   (case ac3=>k_is); (case ac4=>k_exc)
#print axioms PySem.Challenge.cw_bestheads_k68_books_as_texts_holds
end
end
