import PyProof.Rows.All
import Wide.All
import OpenK.AllK
import Wide.FinOn
import Lean
import PyProof.EqAt
import PyProof.EqKinds
import PyProof.TupleCall
import PyProof.ReprRoads
import PyProof.ReprBulk
import PyProof.Rows.RegStrFacts
import PyProof.StrBlockH
import PyProof.FitsBits
import KE.KTurns
import PyProof.NeKinds
import KE.KNest
import KE.KSortKey
import PyProof.ListRange
import PyProof.Rows.SortWalk
import KE.KListMore
import KE.KIntText
import PyProof.StrLawsIn
import PyProof.StrLawsTight
import PyProof.StrLawsChain
import PyProof.StrLawsFirst
import PyProof.StrLawsJoin
import PySem.Challenge.RW_bestheads_k69_rules_as_texts
noncomputable section
abbrev FZ:=PySem.W.Frag
set_option exponentiation.threshold 6000
set_option Elab.async false
set_option linter.all false
set_option maxRecDepth 100000
set_option maxHeartbeats 4000000
section
namespace L2
open PySem PySem.Spec PyProof.Rows
abbrev Key:=Sum Int Str
def Ho:Key->Value->Bool
 |.inl k,v=>Value.isInt k v
 |.inr x,v=>Value.isStrOf x v
def QM(w:World):Key->Int
 |.inl k=>hashInt k
 |.inr x=>hashStr w x
theorem mX:∀{k:Key} {v:Value},Ho k v=true->(∃i t,k=Sum.inl i/\v=Value.int i t)\/(∃x t,k=Sum.inr x/\v=Value.str x t)
 |.inl i,v,h=>by
  obtain⟨t,e⟩:=Value.isInt_shape (k:=i) (v:=v) h
  exact .inl ⟨i,t,rfl,e⟩
 |.inr x,v,h=>by
  obtain⟨t,e⟩:=Value.isStrOf_shape (x:=x) (v:=v) h
  exact .inr ⟨x,t,rfl,e⟩
theorem QS(a b:Int):decide ((Sum.inl a:Key)=Sum.inl b)=(a == b):=by
 by_cases e:a=b
 ·subst e; simp
 ·have h:¬(Sum.inl a:Key)=Sum.inl b:=λq=>e (Sum.inl.inj q)
  rw[decide_eq_false h]
  exact(beq_eq_false_iff_ne.mpr e).symm
theorem QT(a b:Str):decide ((Sum.inr a:Key)=Sum.inr b)=decide (a=b):=by
 by_cases e:a=b
 ·subst e; simp
 ·have h:¬(Sum.inr a:Key)=Sum.inr b:=λq=>e (Sum.inr.inj q)
  rw[decide_eq_false h,decide_eq_false e]
theorem QV(a:Int)(b:Str):decide ((Sum.inl a:Key)=Sum.inr b)=false:=decide_eq_false (λq=>nomatch q)
theorem QW(a:Str)(b:Int):decide ((Sum.inr a:Key)=Sum.inl b)=false:=decide_eq_false (λq=>nomatch q)
noncomputable def zO(prog:Program)(w:World):PySem.KeyKind prog w Key where
 is:=Ho
 hash:=QM w
 inj:=λv a b ha hb=>by
  rcases mX ha with⟨i,t,rfl,rfl⟩|⟨x,t,rfl,rfl⟩
  ·rcases mX hb with⟨j,u,rfl,e⟩|⟨y,u,rfl,e⟩
   ·injection e with e1 _; rw[e1]
   ·exact nomatch e
  ·rcases mX hb with⟨j,u,rfl,e⟩|⟨y,u,rfl,e⟩
   ·exact nomatch e
   ·injection e with e1 _; rw[e1]
 byValue:=λk v h=>by
  rcases mX h with⟨i,t,rfl,rfl⟩|⟨x,t,rfl,rfl⟩ <;> rfl
 pyHash:=λhv h=>by
  rcases mX hv with⟨i,t,rfl,rfl⟩|⟨x,t,rfl,rfl⟩
  ·exact wpAny_pyHash_int h
  ·exact wpAny_pyHash_str h
 eqBool:=λhu hv h=>by
  rcases mX hu with⟨i,t,rfl,rfl⟩|⟨x,t,rfl,rfl⟩
  ·rcases mX hv with⟨j,u,rfl,rfl⟩|⟨y,u,rfl,rfl⟩
   ·rw[QS]at h; exact wpAny_eqBool_int h
   ·rw[QV]at h; exact SeqAt.EqAt.int_str i t y u _ _ _ _ h
  ·rcases mX hv with⟨j,u,rfl,rfl⟩|⟨y,u,rfl,rfl⟩
   ·rw[QW]at h; exact SeqAt.EqAt.str_int x t j u _ _ _ _ h
   ·rw[QT]at h; exact wpAny_eqBool_str h
 «strs» := λk x t v h=>by
  rcases mX h with⟨i,u,rfl,e⟩|⟨y,u,rfl,e⟩
  ·exact nomatch e
  ·injection e with e1 _
   subst e1
   cases v <;> rfl
end L2
namespace L2
open PySem PySem.Spec PyProof.Rows
inductive V where
 |non|bl (b:Bool)|int (i:Int)|str (x:Str)|uq (b:Array UInt8)|flt (b:UInt64)|ref (a:Addr)|ty (n:String)
 deriving DecidableEq
noncomputable def RelV:V->Value->Prop
 |.non,u=>u=Value.none
 |.bl b,u=>u=Value.bool b
 |.int i,u=>∃t,u=Value.int i t
 |.str x,u=>∃t,u=Value.str x t
 |.uq b,u=>∃t,u=Value.bytes b t
 |.flt b,u=>∃t,u=Value.float b t
 |.ref a,u=>u=Value.ref a
 |.ty n,u=>u=Value.type n
abbrev Vals:List V->List Value->Prop:=Paired RelV
theorem Vals.length{xs:List V}{us:List Value}(r:Vals xs us):xs.length=us.length:=Paired.length r
theorem Vals.get:∀{xs:List V} {us:List Value} {i:Nat} {x:V},Vals xs us->xs[i]?=some x->∃u,us[i]?=some u/\RelV x u
 |_,_,_,_,.nil,e=>by simp at e
 |_,_,0,_,.cons r _,e=>by simp at e; subst e; exact⟨_,rfl,r⟩
 |_,_,i+1,x,.cons _ t,e=>by
  obtain⟨u,h1,h2⟩:=Vals.get (i:=i) (x:=x) t (by simpa using e)
  exact⟨u,by simpa using h1,h2⟩
theorem Vals.set{x:V}{u:Value}(r:RelV x u):∀{xs:List V} {us:List Value} (i:Nat),Vals xs us->Vals (xs.set i x) (us.set i u)
 |_,_,_,.nil=>.nil
 |_,_,0,.cons _ t=>.cons r t
 |_,_,i+1,.cons q t=>.cons q (Vals.set r i t)
theorem Vals.append:∀{xs ys:List V} {us ws:List Value},Vals xs us->Vals ys ws->Vals (xs++ys) (us++ws)
 |_,_,_,_,.nil,s=>s
 |_,_,_,_,.cons r t,s=>.cons r (Vals.append t s)
theorem Vals.take:∀{xs:List V} {us:List Value} (n:Nat),Vals xs us->Vals (xs.take n) (us.take n)
 |_,_,0,_=>.nil
 |_,_,_+1,.nil=>.nil
 |_,_,n+1,.cons r t=>.cons r (Vals.take n t)
theorem Vals.drop:∀{xs:List V} {us:List Value} (n:Nat),Vals xs us->Vals (xs.drop n) (us.drop n)
 |_,_,0,r=>r
 |_,_,_+1,.nil=>.nil
 |_,_,n+1,.cons _ t=>Vals.drop n t
def Hq:Option V->Option Value->Prop
 |some v,some u=>RelV v u
 |none,none=>True
 |_,_=>False
def KV{κ : Type}:List (κ × V)->List (κ × Value)->Prop:=Paired λ(p : κ × V) (q : κ × Value)=>p.1=q.1/\RelV p.2 q.2
def kV:Key->V
 |.inl i=>.int i
 |.inr x=>.str x
inductive HO where
 |lst (xs:List V)
 |tup (xs:List V)
 |dK (kvs:List (Key × V))|dT (kvs:List (List Key × V))
 |set (S:Int->Bool) (n:Nat)
 |ins (C dx:Addr) (fs:List (Str × V))
 |own (x:Addr)
 |xd (fs:List (Str × V))
 |met (f x:Addr)
 |rng (lo hi:Int)
 |cY (o:Obj) (u:HO)
 |dj (ps:Array Value)
 |ext (φ : Heap->Prop)
abbrev Hp:=Addr->Option HO
def upd(H:Hp)(a:Addr)(o:HO):Hp:=λb=>if b=a then some o else H b
theorem fD{H:Hp}{a:Addr}{o:HO}:upd H a o a=some o:=by unfold upd; rw[if_pos rfl]
theorem bQ{H:Hp}{a b:Addr}{o:HO}(h:b≠a):upd H a o b=H b:=by unfold upd; rw[if_neg h]
theorem lR{H:Hp}{a b:Addr}{o:HO}(h:H a=some o)(h':H b=none):a≠b:=by
 intro e; subst e; rw[h]at h'; cases h'
section
variable (P:Program)(w:World)
noncomputable def iU(H:Hp)(h:Heap)(a:Addr):HO->Prop
 |.lst xs=>xs.length<=sizeLine/\∃(its:List Value) (n:Nat),Vals xs its/\h.get? a=some {cls:=.type "list",data:=.seq its.toArray n }
 |.tup xs=>xs.length<=sizeLine/\∃its:List Value,Vals xs its/\IsTup h a its.toArray
 |.dK kvs=>kvs.length<=sizeLine/\(a == sysModules)=false/\∃vs,KV kvs vs/\h.DictOf (zO P w) a vs
 |.dT kvs=>kvs.length<=sizeLine/\(a == sysModules)=false/\∃xs:List (List Key × Addr × Value),
   Paired (λ(p:List Key × V) (q:List Key × Addr × Value)=>p.1=q.1/\H q.2.1=some (.tup (p.1.map kV))/\RelV p.2 q.2.2) kvs xs /\
   ∃o es ep,h.get? a=some o/\o.ExactDict/\o.data=.dict es ep/\es.toList=xs.map (entryOfKey (tupleKind (zO P w)))/\(xs.map (·.1)).Nodup
 |.set S n=>h.SetOf (intKind P w) a S n
 |.ins C dx fs=>H dx=some (.own a)/\fs.length<=1000/\dx≠a/\h.get? a=some (PySem.W.instObj C dx) /\
   ∃mA,h.Ns1 dx mA/\(∀f,Hq (fs.lookup f) (mA f))/\PySem.Within mA (fs.map (·.1))
 |.own _=>∃o,h.get? a=some o
 |.xd fs=>∃mA,h.Ns1 a mA/\∀f,Hq (fs.lookup f) (mA f)
 |.rng lo hi=>∃t u v,h.get? a=some {cls:=.type "range",data:=.fields #[.int lo t,.int hi u,.int 1 v] }
 |.cY o u=>h.get? a=some o/\iU H h a u
 |.dj ps=>h.get? a=some {cls:=.none,data:=.fields ps }
 |.met f x=>h.get? a=some (PySem.W.methodObj (.ref f) (.ref x))
 |.ext φ=>φ h/\(∃o,h.get? a=some o)/\∀h1 h2:Heap,φ h1->(∀o,h1.get? a=some o->h2.get? a=some o) -> φ h2
def dH(H:Hp)(h:Heap):Prop:=∀a o,H a=some o->iU P w H h a o
end
section
variable {P:Program}{w:World}{H H':Hp}{h h':Heap}{a:Addr}{o:HO}
theorem iU.lt(x:iU P w H h a o):a<h.objs.size:=by
 cases o with
 |lst xs=>obtain⟨_,_,_,_,e⟩:=x; exact Heap.lt_size e
 |tup xs=>obtain⟨_,_,_,p⟩:=x; exact p.lt
 |dK kvs=>obtain⟨_,_,_,_,o,_,_,e,_⟩:=x; exact Heap.lt_size e
 |dT kvs=>obtain⟨_,_,_,_,o,_,_,e,_⟩:=x; exact Heap.lt_size e
 |set S n=>obtain⟨o,_,_,_,e,_⟩:=x; exact Heap.lt_size e
 |ins C dx fs=>obtain⟨_,_,_,e,_⟩:=x; exact Heap.lt_size e
 |own y=>obtain⟨_,e⟩:=x; exact Heap.lt_size e
 |xd fs=>obtain⟨_,⟨_,_,_,e,_⟩,_⟩:=x; exact Heap.lt_size e
 |rng lo hi=>obtain⟨_,_,_,e⟩:=x; exact Heap.lt_size e
 |cY ob u=>obtain⟨e,_⟩:=x; exact Heap.lt_size e
 |dj ps=>exact Heap.lt_size (show h.get? a=some _ from x)
 |met f y=>exact Heap.lt_size (show h.get? a=some _ from x)
 |ext φ=>obtain⟨_,⟨_,e⟩,_⟩:=x; exact Heap.lt_size e
theorem Paired.Hr{α β : Type}{F G : α -> β -> Prop}:∀{l₁ : List α} {l₂ : List β},Paired F l₁ l₂ -> (∀a b,F a b->G a b)->Paired G l₁ l₂
 |_,_,.nil,_=>.nil
 |_,_,.cons r t,f=>.cons (f _ _ r) (Paired.Hr t f)
theorem iU.stay(x:iU P w H h a o)(k:∀b u,(b=a\/H b=some (.own a))->h.get? b=some u->h'.get? b=some u)
  (ho:∀b,H b=some (.own a)->H' b=some (.own a)) (ht:∀b xs,H b=some (.tup xs)->H' b=some (.tup xs)):iU P w H' h' a o:=by
 induction o with
 |lst xs=>obtain⟨z,its,n,r,e⟩:=x; exact⟨z,its,n,r,k _ _ (.inl rfl) e⟩
 |tup xs=>obtain⟨z,its,r,ob,e,c⟩:=x; exact⟨z,its,r,ob,k _ _ (.inl rfl) e,c⟩
 |dK kvs=>obtain⟨z,y,vs,r,ob,es,ep,e,c⟩:=x; exact⟨z,y,vs,r,ob,es,ep,k _ _ (.inl rfl) e,c⟩
 |dT kvs =>
  obtain⟨z,y,xs,r,ob,es,ep,e,c⟩:=x
  exact⟨z,y,xs,Paired.Hr r λp q z=>⟨z.1,ht _ _ z.2.1,z.2.2⟩,ob,es,ep,k _ _ (.inl rfl) e,c⟩
 |set S n=>obtain⟨ob,es,ep,t,e,c⟩:=x; exact⟨ob,es,ep,t,k _ _ (.inl rfl) e,c⟩
 |ins C dx fs =>
  obtain⟨d,z,ne,e,mA,⟨od,es,ep,e2,c⟩,r⟩:=x
  exact⟨ho _ d,z,ne,k _ _ (.inl rfl) e,mA,⟨od,es,ep,k _ _ (.inr d) e2,c⟩,r⟩
 |own y=>obtain⟨ob,e⟩:=x; exact⟨ob,k _ _ (.inl rfl) e⟩
 |xd fs=>obtain⟨mA,⟨od,es,ep,e,c⟩,r⟩:=x; exact⟨mA,⟨od,es,ep,k _ _ (.inl rfl) e,c⟩,r⟩
 |rng lo hi=>obtain⟨t,u,v,e⟩:=x; exact⟨t,u,v,k _ _ (.inl rfl) e⟩
 |cY ob u ih=>obtain⟨e,q⟩:=x; exact⟨k _ _ (.inl rfl) e,ih q⟩
 |dj ps =>
  have e:h.get? a=some {cls:=.none,data:=.fields ps }:=x
  show h'.get? a=some {cls:=.none,data:=.fields ps }
  exact k a _ (.inl rfl) e
 |met f y =>
  have e:h.get? a=some (PySem.W.methodObj (.ref f) (.ref y)):=x
  show h'.get? a=some (PySem.W.methodObj (.ref f) (.ref y))
  exact k a _ (.inl rfl) e
 |ext φ=>obtain⟨p,⟨o,e⟩,st⟩:=x; exact⟨st _ _ p λo q=>k _ _ (.inl rfl) q,⟨o,k _ _ (.inl rfl) e⟩,st⟩
theorem dH.lt(x:dH P w H h)(e:H a=some o):a<h.objs.size:=(x a o e).lt
theorem dH.fresh(x:dH P w H h)(e:h.objs.size<=a):H a=none:=by
 cases q:H a with
 |none=>rfl
 |some u=>exact absurd (Nat.lt_of_lt_of_le (x.lt q) e) (Nat.lt_irrefl _)
theorem dH.kept(x:dH P w H h)(k:∀b u,h.get? b=some u->h'.get? b=some u):dH P w H h':=λa o e =>
 (x a o e).stay (λb u _ q=>k b u q) (λ_ q=>q) λ_ _ q=>q
theorem dH.laid(x:dH P w H h)(k:∀b u,h.get? b=some u->h'.get? b=some u)(hp:h.objs.size<=a)(new:iU P w (upd H a o) h' a o):dH P w (upd H a o) h':=λb u e=>by
 have hn:=x.fresh hp
 by_cases hb:b=a
 ·subst hb; rw[fD]at e; cases e; exact new
 ·rw[bQ hb]at e
  exact(x b u e).stay (λc v _ q=>k c v q) (λc q=>by rw[bQ (lR q hn)]; exact q) λc xs q=>by rw[bQ (lR q hn)]; exact q
end
def Rd(H:Hp)(a:Addr)(u:HO):Prop:=H a=some u\/∃o,H a=some (.cY o u)
theorem Rd.ok{P:Program}{w:World}{H:Hp}{h:Heap}{a:Addr}{u:HO}(r:Rd H a u)(x:dH P w H h):iU P w H h a u:=by
 rcases r with r|⟨o,r⟩
 ·exact x a u r
 ·obtain⟨_,q⟩:=x a _ r
  exact q
def v7:Option HO->Prop
 |some (.lst _)=>True
 |some (.dK _)=>True
 |some (.dT _)=>True
 |some (.set _ _)=>True
 |some (.ins _ _ _)=>True
 |some (.ext _)=>True
 |_=>False
section
variable {P:Program}{w:World}{H:Hp}{h h':Heap}{x e:Addr}{o':HO}
theorem dH.write(ok:dH P w H h)(mu:v7 (H x))(he:e=x\/H e=some (.own x))(k:∀b u,b≠e->h.get? b=some u->h'.get? b=some u)(heo:∃u,h'.get? e=some u)
  (new:iU P w (upd H x o') h' x o'):dH P w (upd H x o') h':=λb u q=>by
 have Hs:∀c y,H c=some (.own y)->c≠x:=λc y r z=>by subst z; rw[r]at mu; exact mu
 have QX:∀c xs,H c=some (.tup xs)->c≠x:=λc xs r z=>by subst z; rw[r]at mu; exact mu
 by_cases hb:b=x
 ·subst hb; rw[fD]at q; cases q; exact new
 ·rw[bQ hb]at q
  by_cases hbe:b=e
  ·have q':H b=some (.own x):=by
    rcases he with z|z
    ·exact absurd (hbe.trans z) hb
    ·rw[hbe]; exact z
   rw[q]at q'; cases q'
   obtain⟨v,hv⟩:=heo
   exact⟨v,by rw[hbe]; exact hv⟩
  ·refine(ok b u q).stay (λc v hc r=>k c v ?_ r) (λc r=>by rw[bQ (Hs c b r)]; exact r) λc xs r=>by rw[bQ (QX c xs r)]; exact r
   rcases hc with rfl|hc
   ·exact hbe
   ·rintro rfl
    rcases he with z|z
    ·exact Hs c b hc z
    ·rw[hc]at z; cases z; exact hb rfl
end
structure Un(fs ex:List Addr)(H H':Hp)(h h':Heap):Prop where
 keep:∀b o,h.get? b=some o->H b=none->b∉fs->b∉ex->h'.get? b=some o
 slot:∀b o,h.get? b=some o->H b=none->b∈fs->b∉ex->∃sl,h'.get? b=some {o with slots:=sl }
 free:∀b o,h.get? b=some o->H b=none->b∉ex->H' b=none
 there:∀b o,h.get? b=some o->b∉ex->∃o',h'.get? b=some o'
 tups:∀b xs,H b=some (.tup xs)->H' b=some (.tup xs)
 kY:∀b o u,H b=some (.cY o u)->H' b=some (.cY o u)
 kZ:∀b ps,H b=some (.dj ps)->∃more,H' b=some (.dj (ps++more))
section
variable {fs fs' ex ex':List Addr}{H H1 H2:Hp}{h h1 h2 h':Heap}{a x e:Addr}{o:HO}
theorem Un.any(u:Un fs ex H H1 h h1){b:Addr}{ob:Obj}(q:h.get? b=some ob)(n:H b=none)(hx:b∉ex):∃sl,h1.get? b=some {ob with slots:=sl }:=by
 by_cases hb:b∈fs
 ·exact u.slot b ob q n hb hx
 ·exact⟨ob.slots,u.keep b ob q n hb hx⟩
theorem Un.kept(k:∀b u,h.get? b=some u->h'.get? b=some u):Un fs ex H H h h' :=
 ⟨λb ob q _ _ _=>k b ob q,λb ob q _ _ _=>⟨ob.slots,k b ob q⟩,λ_ _ _ n _=>n,λb ob q _=>⟨ob,k b ob q⟩,λ_ _ q=>q,λ_ _ _ q=>q,λ_ ps q=>⟨#[],by rw[q]; simp⟩⟩
theorem Un.refl:Un fs ex H H h h:=Un.kept λ_ _ q=>q
theorem Un.laid(k:∀b u,h.get? b=some u->h'.get? b=some u)(hp:h.objs.size<=a)(hn:H a=none):Un fs ex H (upd H a o) h h' where
 keep:=λb u q _ _ _=>k b u q
 slot:=λb u q _ _ _=>⟨u.slots,k b u q⟩
 free:=λb u q n _=>by rw[bQ (Nat.ne_of_lt (Nat.lt_of_lt_of_le (Heap.lt_size q) hp))]; exact n
 there:=λb u q _=>⟨u,k b u q⟩
 tups:=λb xs q=>by rw[bQ (lR q hn)]; exact q
 kY:=λb u xs q=>by rw[bQ (lR q hn)]; exact q
 kZ:=λb ps q=>⟨#[],by rw[bQ (lR q hn),q]; simp⟩
theorem Un.write(mu:v7 (H x))(he:e=x\/H e=some (.own x))(k:∀b u,b≠e->h.get? b=some u->h'.get? b=some u)(heo:∃u,h'.get? e=some u):Un fs ex H (upd H x o) h h':=by
 have hx:∀b,H b=none->b≠x:=λb n z=>by subst z; rw[n]at mu; exact mu
 have hb:∀b,H b=none->b≠e:=λb n z=>by
  subst z
  rcases he with r|r
  ·exact hx b n r
  ·rw[n]at r; cases r
 have hm:∀b u,H b=some u->¬v7 (some u)->b≠x:=λb u q nm z=>by subst z; rw[q]at mu; exact nm mu
 refine⟨λb u q n _ _=>k b u (hb b n) q,λb u q n _ _=>⟨u.slots,k b u (hb b n) q⟩,λb u q n _=>by rw[bQ (hx b n)]; exact n,λb u q _=>?_,
  λb xs q=>by rw[bQ (hm b _ q λz=>z)]; exact q,λb u xs q=>by rw[bQ (hm b _ q λz=>z)]; exact q,λb ps q=>⟨#[],by rw[bQ (hm b _ q λz=>z),q]; simp⟩⟩
 by_cases hbe:b=e
 ·subst hbe; exact heo
 ·exact⟨u,k b u hbe q⟩
end
def v8(h:Heap)(H:Hp):List Addr:=(List.range h.objs.size).filter λa=>(H a).isSome
def mY(h:Heap)(H:Hp):Heap:=PySem.W.hideAll h (v8 h H)
theorem QZ(h:Heap)(H:Hp):(mY h H).objs.size=h.objs.size:=PySem.W.hideAll_size _ _
theorem Q0{h:Heap}{H:Hp}{b:Addr}{o:Obj}(e:h.get? b=some o)(n:H b=none):(mY h H).get? b=some o :=
 PySem.W.hideAll_get _ e λhm=>by
  have q:(H b).isSome=true:=(List.mem_filter.mp hm).2
  rw[n]at q; simp at q
theorem Q5{h:Heap}{H:Hp}{b:Addr}{o:Obj}(e:(mY h H).get? b=some o):h.get? b=some o/\H b=none:=by
 have e':h.get? b=some o:=PySem.W.of_hideAll (v8 h H) e
 refine⟨e',?_⟩
 cases q:H b with
 |none=>rfl
 |some x =>
  have hm:b∈v8 h H:=List.mem_filter.mpr ⟨List.mem_range.mpr (Heap.lt_size e'),by simp[q]⟩
  have z:(mY h H).get? b=none:=PySem.W.hideAll_none (v8 h H) hm
  rw[z]at e; cases e
def Q6(g h:Heap)(L:Addr):List (Addr × Obj):=(List.range h.objs.size).filterMap λa=>if a=L\/(g.get? a).isSome=true then none else(h.get? a).map λo=>(a,o)
def rest(g h:Heap)(L d:Addr):List (Addr × Obj):=(Q6 g h L).filter λp=>decide (p.1≠d)
end L2
namespace L2
open PySem PySem.Spec PyProof.Rows
structure Mod(K:FZ)(mg:Str->Option Value)(base:Heap):Prop where
 zP:K.In base
 glob:base.Ns mainGlobals mg
 blt:∃mb,base.Ns builtinsNs mb/\∀x:Str,x ≠ "__name__" -> mb x=bootBuiltins x
 nolimit:base.NoLimit
structure Cx where
 prog:Program
 w:World
 K:FZ
 mg:Str->Option Value
 base:Heap
 A:Around
 N:List Str
 s₀ : Shared
 H₀ : Hp
 env:Env
 outer:List Env
 stack:List Env
 ex:List Addr
 fn:Str->Bool
 calm:Bool
 pn:List (Addr × Obj)
 xe:Value->Shared->Prop
def frs(l:List Env):List Addr:=l.filterMap (·.frame)
abbrev Cx.fs(X:Cx):List Addr:=frs X.outer
def Ht(sc:Scope)(x:Str):Prop:=sc.names.lookup x=some .local\/sc.names.lookup x=some .cell\/sc.names.lookup x=some .free
def Loc(sc:Scope)(x:Str):Prop:=sc.names.lookup x=some .local\/sc.names.lookup x=some .cell
def Look(env:Env)(h:Heap)(m:Str->Option Value)(x:Str)(u:Value):Prop :=
 (env.kindOf x=some .local/\m x=some u)\/((env.kindOf x=some .cell\/env.kindOf x=some .free)/\∃c,env.cells.lookup x=some c/\h.IsCell c (some u))
structure Cx.Ok(X:Cx):Prop where
 mod:Mod X.K X.mg X.base
 kind:X.env.scope.kind=.function
 glob:X.env.globals=mainGlobals
 blt:X.env.builtins=builtinsNs
 above:X.s₀.heap.objs.size<=X.env.locals
 inj:∀x y c,X.env.cells.lookup x=some c->X.env.cells.lookup y=some c->x=y
 has:∀x,(X.env.kindOf x=some .cell\/X.env.kindOf x=some .free)->∃c,X.env.cells.lookup x=some c
 cab:∀x c,X.fn x=true->X.env.cells.lookup x=some c->X.s₀.heap.objs.size<=c
 hd:X.calm=true->X.A.handled=none
 frames:X.A.frames=some X.stack
 stk:X.stack=X.outer\/(X.stack=X.env::X.outer/\X.env.frame=some X.env.locals)
 Hu:∀b∈X.ex,b≠X.env.locals/\∀x c,X.env.cells.lookup x=some c->c≠b
 bs:∀b o,X.base.get? b=some o->X.s₀.heap.get? b=some o/\X.H₀ b=none
 pR:X.base.objs.size<=X.s₀.heap.objs.size
 iV:∀b o,X.base.get? b=some o->b∉X.ex
 wg:∀b∈X.ex,b∉X.fs
 jU:X.s₀.heap.FunFrames X.base X.outer
 pU:∀b∈X.fs,X.H₀ b=none
structure Inv(X:Cx)(pins:List (Addr × Obj))(σ : List (Option V))(H:Hp)(s:Shared):Prop where
 ok:X.Ok
 os:s.os=X.s₀.os
 bare:AllBare s.gens
 base:Un X.fs X.ex X.H₀ H X.s₀.heap s.heap
 loc:∃m,s.heap.Ns X.env.locals m/\∀(i:Nat) (x:Str) (v:V),X.N[i]?=some x -> σ[i]?=some (some v)->Ht X.env.scope x->∃u,RelV v u/\Look X.env s.heap m x u
 cell:∀x c,X.env.cells.lookup x=some c->∃v,s.heap.IsCell c v
 free:H X.env.locals=none
 lU:∀x c,X.env.cells.lookup x=some c->H c=none
 pin:∀p∈X.pn++pins,s.heap.get? p.1=some p.2/\H p.1=none/\p.1≠X.env.locals/\p.1∉X.fs/\∀v,p.2.data ≠ .cell v
 hok:dH X.prog X.w H s.heap
 len : σ.length=X.N.length
section
variable {X:Cx}{pins:List (Addr × Obj)}{σ : List (Option V)}{H H':Hp}{s:Shared}{h':Heap}
theorem Cx.Ok.Q7(ok:X.Ok){b:Addr}{o:Obj}(e:X.base.get? b=some o):b∉X.fs:=λhb=>by
 have:=(ok.jU.mem hb).1
 rw[e]at this; cases this
theorem Inv.bs(I:Inv X pins σ H s):∀b o,X.base.get? b=some o->s.heap.get? b=some o/\H b=none:=λb o e =>
 ⟨I.base.keep b o (I.ok.bs b o e).1 (I.ok.bs b o e).2 (I.ok.Q7 e) (I.ok.iV b o e),I.base.free b o (I.ok.bs b o e).1 (I.ok.bs b o e).2 (I.ok.iV b o e)⟩
theorem Inv.bk(I:Inv X pins σ H s):∀b o,X.base.get? b=some o->s.heap.get? b=some o:=λb o e=>(I.bs b o e).1
theorem Inv.mod(I:Inv X pins σ H s):Mod X.K X.mg X.base:=I.ok.mod
theorem Inv.ju(I:Inv X pins σ H s):X.K.In s.heap:=I.ok.mod.zP.keeps I.bk
theorem Inv.lt(I:Inv X pins σ H s):X.env.locals<s.heap.objs.size:=let⟨_,hn,_⟩:=I.loc; hn.lt
theorem Inv.sz(I:Inv X pins σ H s):X.s₀.heap.objs.size<=s.heap.objs.size:=Nat.le_trans I.ok.above (Nat.le_of_lt I.lt)
theorem Inv.Q8(I:Inv X pins σ H s){a:Addr}(h:s.heap.objs.size<=a):a∉X.fs:=λhb=>by
 obtain⟨_,o,ho,_⟩:=I.ok.jU.mem hb
 exact absurd (Nat.lt_of_lt_of_le (Heap.lt_size ho) (Nat.le_trans I.sz h)) (Nat.lt_irrefl _)
theorem Inv.pW(I:Inv X pins σ H s):∀x c,X.env.cells.lookup x=some c->c≠X.env.locals:=λx c e z=>by
 obtain⟨v,o,ho,hd⟩:=I.cell x c e
 obtain⟨m,⟨o',es,ep,ho',hd',_⟩,_⟩:=I.loc
 rw[z,ho']at ho; cases ho; rw[hd']at hd; cases hd
theorem Inv.jU(I:Inv X pins σ H s):s.heap.FunFrames X.base X.outer:=by
 have all:∀(l:List Env),(∀b∈frs l,b∈X.fs)->X.s₀.heap.FunFrames X.base l->s.heap.FunFrames X.base l:=by
  intro l
  induction l with
  |nil=>intro _ _; trivial
  |cons env r ih =>
   intro hs hl
   obtain⟨hk,⟨L,o,hf,hn,ho,hd⟩,hr⟩:=hl
   have hL:L∈X.fs:=hs L (by unfold frs; rw[List.filterMap_cons,hf]; exact List.mem_cons_self)
   obtain⟨sl,e⟩:=I.base.slot L o ho (I.ok.pU L hL) hL λz=>I.ok.wg L z hL
   exact⟨hk,⟨L,_,hf,hn,e,hd⟩,ih (λb hb=>hs b (by unfold frs; rw[List.filterMap_cons,hf]; exact List.mem_cons_of_mem _ hb)) hr⟩
 exact all X.outer (λ_ hb=>hb) I.ok.jU
theorem Inv.stack(I:Inv X pins σ H s):s.heap.FunFrames X.base X.stack:=by
 rcases I.ok.stk with e|⟨e,hf⟩
 ·rw[e]; exact I.jU
 ·rw[e]
  obtain⟨m,hn,_⟩:=I.loc
  refine .cons (by rw[I.ok.kind]; decide) hf hn ?_ I.jU
  exact Heap.get?_none_of_le (Nat.le_trans I.ok.pR I.ok.above)
theorem Inv.wk(I:Inv X pins σ H s):∀b∈frs X.stack,b∈X.env.locals::X.fs:=λb hb=>by
 rcases I.ok.stk with e|⟨e,hf⟩
 ·rw[e]at hb; exact List.mem_cons_of_mem _ hb
 ·rw[e]at hb
  unfold frs at hb
  rw[List.filterMap_cons,hf]at hb
  exact hb
theorem Inv.zQ(I:Inv X pins σ H s):∀b∈frs X.stack,H b=none:=λb hb=>by
 rcases List.mem_cons.mp (I.wk b hb)with e|hb
 ·rw[e]; exact I.free
 ·obtain⟨_,o,ho,_⟩:=I.ok.jU.mem hb
  exact I.base.free b o ho (I.ok.pU b hb) λz=>I.ok.wg b z hb
theorem Inv.step{g':Array GenState}{t':Nat}{d':Drawn}{ch:List Addr}(I:Inv X pins σ H s)
  (hch:∀b∈ch,(b∈X.ex\/X.s₀.heap.objs.size<=b)/\b≠X.env.locals/\(∀x c,X.env.cells.lookup x=some c->c≠b)/\∀p∈X.pn++pins,p.1≠b)
  (keep:∀b o,b≠X.env.locals->b∉X.fs->b∉ch->s.heap.get? b=some o->H b=none->h'.get? b=some o)
  (slot:∀b o,b≠X.env.locals->b∈X.fs->b∉ch->s.heap.get? b=some o->H b=none->∃sl,h'.get? b=some {o with slots:=sl }) (free:∀b o,b∉ch->s.heap.get? b=some o->H b=none->H' b=none)
  (there:∀b o,b∉ch->s.heap.get? b=some o->∃o',h'.get? b=some o')
  (tups:∀b xs,H b=some (.tup xs)->H' b=some (.tup xs)) (kY:∀b o u,H b=some (.cY o u)->H' b=some (.cY o u)) (kZ:∀b ps,H b=some (.dj ps)->∃more,H' b=some (.dj (ps++more)))
  (ns:∀m,s.heap.Ns X.env.locals m->h'.Ns X.env.locals m) (hok:dH X.prog X.w H' h') (hg:AllBare g') :
  Inv X pins σ H' {s with heap:=h',gens:=g',drawn:=d',toks:=t' }:=by
 have Hv:∀b o,X.s₀.heap.get? b=some o->b≠X.env.locals:=λb o e=>Nat.ne_of_lt (Nat.lt_of_lt_of_le (Heap.lt_size e) I.ok.above)
 have wu:∀b o,X.s₀.heap.get? b=some o->b∉X.ex->b∉ch:=λb o e hx hb=>by
  rcases(hch b hb).1 with z|z
  ·exact hx z
  ·exact absurd (Nat.lt_of_lt_of_le (Heap.lt_size e) z) (Nat.lt_irrefl _)
 have cellK:∀x c,X.env.cells.lookup x=some c->∀v,s.heap.IsCell c v->h'.IsCell c v:=λx c e v ⟨o,ho,hd⟩=>by
  have ur:c∉ch:=λz=>(hch c z).2.2.1 x c e rfl
  by_cases hc:c∈X.fs
  ·obtain⟨sl,q⟩:=slot c o (I.pW x c e) hc ur ho (I.lU x c e)
   exact⟨_,q,hd⟩
  ·exact⟨o,keep c o (I.pW x c e) hc ur ho (I.lU x c e),hd⟩
 refine⟨I.ok,I.os,hg,⟨λb o e n hb hx=>?_,λb o e n hb hx=>?_,λb o e n hx=>?_,λb o e hx=>?_,λb xs e=>tups b xs (I.base.tups b xs e),λb o xs e=>kY b o xs (I.base.kY b o xs e),λb ps e=>?_⟩,?_,λx c e=>?_,?_,λx c e=>?_,λp hp=>?_,hok,I.len⟩
 ·exact keep b o (Hv b o e) hb (wu b o e hx) (I.base.keep b o e n hb hx) (I.base.free b o e n hx)
 ·obtain⟨sl,e1⟩:=I.base.slot b o e n hb hx
  obtain⟨sl',e2⟩:=slot b _ (Hv b o e) hb (wu b o e hx) e1 (I.base.free b o e n hx)
  exact⟨sl',e2⟩
 ·obtain⟨o',e1⟩:=I.base.there b o e hx
  exact free b o' (wu b o e hx) e1 (I.base.free b o e n hx)
 ·obtain⟨o',e1⟩:=I.base.there b o e hx
  exact there b o' (wu b o e hx) e1
 ·obtain⟨m1,e1⟩:=I.base.kZ b ps e
  obtain⟨m2,e2⟩:=kZ b _ e1
  exact⟨m1++m2,by rw[e2,Array.append_assoc]⟩
 ·obtain⟨m,hn,hl⟩:=I.loc
  refine⟨m,ns m hn,λi x v e1 e2 e3=>?_⟩
  obtain⟨u,r,l⟩:=hl i x v e1 e2 e3
  refine⟨u,r,?_⟩
  rcases l with l|⟨k,c,e,z⟩
  ·exact .inl l
  ·exact .inr ⟨k,c,e,cellK x c e _ z⟩
 ·obtain⟨v,z⟩:=I.cell x c e
  exact⟨v,cellK x c e v z⟩
 ·obtain⟨m,⟨o,_,_,ho,_⟩,_⟩:=I.loc
  exact free _ o (λz=>(hch _ z).2.1 rfl) ho I.free
 ·obtain⟨v,o,ho,hd⟩:=I.cell x c e
  exact free c o (λz=>(hch c z).2.2.1 x c e rfl) ho (I.lU x c e)
 ·obtain⟨e,n,ne,nf,d⟩:=I.pin p hp
  have ur:p.1∉ch:=λz=>(hch p.1 z).2.2.2 p hp rfl
  exact⟨keep p.1 p.2 ne nf ur e n,free p.1 p.2 ur e n,ne,nf,d⟩
theorem Inv.un{t':Nat}(I:Inv X pins σ H s)(u:Un X.fs [] H H' s.heap h')(hok:dH X.prog X.w H' h'):Inv X pins σ H' {s with heap:=h',toks:=t' }:=by
 obtain⟨m,⟨o,es,ep,ho,r⟩,_⟩:=id I.loc
 obtain⟨sl,hL⟩:=u.any ho I.free (by simp)
 exact I.step (g':=s.gens) (d':=s.drawn) (ch:=[]) (λ_ z=>nomatch z) (λb o _ hb _ e n=>u.keep b o e n hb (by simp)) (λb o _ hb _ e n=>u.slot b o e n hb (by simp)) (λb o _ e n=>u.free b o e n (by simp)) (λb o _ e=>u.there b o e (by simp)) u.tups u.kY u.kZ (λm' hm=>by
  obtain⟨o',es',ep',ho',r'⟩:=hm
  rw[ho]at ho'; cases ho'
  exact⟨_,es',ep',hL,r'⟩) hok I.bare
theorem Inv.call{g':Array GenState}{t':Nat}{d':Drawn}{ch:List Addr}(I:Inv X pins σ H s)(u:Un (frs X.stack) ch H H' s.heap h')(hok:dH X.prog X.w H' h')(hg:AllBare g')
  (hch:∀b∈ch,(b∈X.ex\/X.s₀.heap.objs.size<=b)/\b≠X.env.locals/\(∀x c,X.env.cells.lookup x=some c->c≠b)/\∀p∈X.pn++pins,p.1≠b) :
  Inv X pins σ H' {s with heap:=h',gens:=g',drawn:=d',toks:=t' }:=by
 obtain⟨m,⟨o,es,ep,ho,r⟩,_⟩:=id I.loc
 obtain⟨sl,hL⟩:=u.any ho I.free λz=>(hch _ z).2.1 rfl
 exact I.step (ch:=ch) hch (λb o hL hb hc e n=>u.keep b o e n (λz=>(List.mem_cons.mp (I.wk b z)).elim hL hb) hc) (λb o _ _ hc e n=>u.any e n hc) (λb o hc e n=>u.free b o e n hc) (λb o hc e=>u.there b o e hc) u.tups u.kY u.kZ (λm' hm=>by
  obtain⟨o',es',ep',ho',r'⟩:=hm
  rw[ho]at ho'; cases ho'
  exact⟨_,es',ep',hL,r'⟩) hok hg
theorem Inv.turned{t':Nat}{it:Addr}(I:Inv X pins σ H s)(k:∀b o,b≠it->s.heap.get? b=some o->h'.get? b=some o)(hn:H it=none)(hL:it≠X.env.locals)
  (h1:it∈X.ex\/X.s₀.heap.objs.size<=it) (h2:∀x c,X.env.cells.lookup x=some c->c≠it) (h3:∀p∈X.pn++pins,p.1≠it):Inv X pins σ H {s with heap:=h',toks:=t' }:=by
 have Hw:∀b u,H b=some u->b≠it:=λb u e z=>by rw[z,hn]at e; cases e
 refine I.step (g':=s.gens) (d':=s.drawn) (ch:=[it]) (λb hb=>?_) (λb o _ _ hc e _=>k b o (λz=>hc (by simp[z])) e) (λb o _ _ hc e _=>⟨o.slots,k b o (λz=>hc (by simp[z])) e⟩) (λ_ _ _ _ n=>n)
  (λb o hc e=>⟨o,k b o (λz=>hc (by simp[z])) e⟩) (λ_ _ e=>e) (λ_ _ _ e=>e) (λb ps e=>⟨#[],by rw[e]; simp⟩) (λm hm=>?_) (λb u e=>?_) I.bare
 ·have e:b=it:=by simpa using hb
  subst e
  exact⟨h1,hL,h2,h3⟩
 ·obtain⟨o,es,ep,ho,r⟩:=hm
  exact⟨o,es,ep,k _ o (Ne.symm hL) ho,r⟩
 ·refine(I.hok b u e).stay (λc v hc q=>k c v ?_ q) (λ_ q=>q) λ_ _ q=>q
  rcases hc with z|z
  ·rw[z]; exact Hw b u e
  ·exact Hw c _ z
theorem Inv.tok(I:Inv X pins σ H s)(t:Nat):Inv X pins σ H {s with toks:=t }:=I.un (h':=s.heap) (t':=t) Un.refl I.hok
theorem Inv.kept{t':Nat}(I:Inv X pins σ H s)(k:∀b u,s.heap.get? b=some u->h'.get? b=some u):Inv X pins σ H {s with heap:=h',toks:=t' }:=I.un (Un.kept k) (I.hok.kept k)
theorem Inv.laid{a:Addr}{o:HO}{t':Nat}(I:Inv X pins σ H s)(k:∀b u,s.heap.get? b=some u->h'.get? b=some u)(hp:s.heap.objs.size<=a)(new:iU X.prog X.w (upd H a o) h' a o) :
  Inv X pins σ (upd H a o) {s with heap:=h',toks:=t' }:=I.un (Un.laid k hp (I.hok.fresh hp)) (I.hok.laid k hp new)
theorem Inv.write{x e:Addr}{o:HO}{t':Nat}(I:Inv X pins σ H s)(mu:v7 (H x))(he:e=x\/H e=some (.own x))(k:∀b u,b≠e->s.heap.get? b=some u->h'.get? b=some u)(heo:∃u,h'.get? e=some u)
  (new:iU X.prog X.w (upd H x o) h' x o):Inv X pins σ (upd H x o) {s with heap:=h',toks:=t' }:=I.un (Un.write mu he k heo) (I.hok.write mu he k heo new)
theorem Inv.Hx{Hy:List (Addr × Obj)}(I:Inv X pins σ H s)(h:∀p∈Hy,s.heap.get? p.1=some p.2/\H p.1=none/\p.1≠X.env.locals/\p.1∉X.fs/\∀v,p.2.data ≠ .cell v):Inv X Hy σ H s :=
 ⟨I.ok,I.os,I.bare,I.base,I.loc,I.cell,I.free,I.lU,λp hp=>(List.mem_append.mp hp).elim (λz=>I.pin p (List.mem_append_left _ z)) (h p),I.hok,I.len⟩
theorem Hz{N:List Str}(hN:N.Nodup){i j:Nat}{x:Str}(a:N[i]?=some x)(b:N[j]?=some x):i=j:=by
 obtain⟨h1,e1⟩:=List.getElem?_eq_some_iff.mp a
 obtain⟨h2,e2⟩:=List.getElem?_eq_some_iff.mp b
 exact(List.getElem_inj hN).mp (e1.trans e2.symm)
theorem HB{M:Model}{A:Around}{E:Value->Shared->Prop}{i:Nat}{x:Str}{v:V}{u:Value}{Q:Unit->Shared->Prop}(I:Inv X pins σ H s)(hN:X.N.Nodup)(hi:X.N[i]?=some x)(hx:Loc X.env.scope x)(r:RelV v u)
  (h:∀s',Inv X pins (σ.set i (some v)) H s'->(∃a,Heap.SameBut a s.heap s'.heap/\(a=X.env.locals\/X.env.cells.lookup x=some a))->Q () s') (hf:X.fn x=true\/X.env.scope.names.lookup x=some .local:=by first|exact .inl rfl|exact .inr rfl|assumption):wpAny M A (storeName X.env x u) Q E s:=by
 obtain⟨m,hn,hl⟩:=id I.loc
 have hcls:(X.env.scope.kind == .class || (X.env.scope.kind == .module&&X.env.locals != X.env.globals))=false:=by rw[I.ok.kind]; rfl
 have HD:i < σ.length:=by rw[I.len]; exact(List.getElem?_eq_some_iff.mp hi).1
 have pW:=I.pW
 have tracked:∀{a:Addr} {h':Heap},(∃o,s.heap.get? a=some o/\H a=none)->Heap.SameBut a s.heap h'->dH X.prog X.w H h':=λ{a h'} ha hs b ob e=>by
  obtain⟨_,_,hfree⟩:=ha
  refine(I.hok b ob e).stay (λc w' hc q=>(hs.2 c ?_).trans q) (λ_ q=>q) λ_ _ q=>q
  rintro rfl
  rcases hc with rfl|hc
  ·rw[hfree]at e; cases e
  ·rw[hfree]at hc; cases hc
 rcases hx with hk|hk
 ·refine wpAny_storeName_local hk hn (λh' hn' hs=>?_) hcls
  obtain⟨oL,_,_,hoL,_⟩:=id hn
  refine h _ ⟨I.ok,I.os,I.bare,⟨λb o e n hb hx=>?_,λb o e n hb hx=>?_,I.base.free,λb o e hx=>?_,I.base.tups,I.base.kY,I.base.kZ⟩,⟨_,hn',λj y v' e1 e2 e3=>?_⟩,λy c e=>?_,I.free,I.lU,λp hp=>?_,tracked ⟨oL,hoL,I.free⟩ hs,by simpa using I.len⟩ ⟨_,hs,.inl rfl⟩
  ·exact(hs.2 b (Nat.ne_of_lt (Nat.lt_of_lt_of_le (Heap.lt_size e) I.ok.above))).trans (I.base.keep b o e n hb hx)
  ·obtain⟨sl,e1⟩:=I.base.slot b o e n hb hx
   exact⟨sl,(hs.2 b (Nat.ne_of_lt (Nat.lt_of_lt_of_le (Heap.lt_size e) I.ok.above))).trans e1⟩
  ·obtain⟨o',e1⟩:=I.base.there b o e hx
   exact⟨o',(hs.2 b (Nat.ne_of_lt (Nat.lt_of_lt_of_le (Heap.lt_size e) I.ok.above))).trans e1⟩
  ·by_cases hj:j=i
   ·subst hj
    rw[hi]at e1; cases e1
    rw[List.getElem?_set_self HD]at e2
    cases e2
    exact⟨u,r,.inl ⟨hk,by simp⟩⟩
   ·rw[List.getElem?_set_ne (Ne.symm hj)]at e2
    obtain⟨u',r',q⟩:=hl j y v' e1 e2 e3
    refine⟨u',r',?_⟩
    rcases q with⟨k,e⟩|⟨k,c,e,z⟩
    ·refine .inl ⟨k,?_⟩
     have:y≠x:=λe=>hj (Hz hN e1 (e▸hi))
     simp[this,e]
    ·exact .inr ⟨k,c,e,z.sameBut hs (pW y c e)⟩
  ·obtain⟨w',z⟩:=I.cell y c e
   exact⟨w',z.sameBut hs (pW y c e)⟩
  ·obtain⟨e,n,ne,nf,d⟩:=I.pin p hp
   exact⟨(hs.2 p.1 ne).trans e,n,ne,nf,d⟩
 ·have hfn:X.fn x=true:=by
   rcases hf with z|z
   ·exact z
   ·rw[z]at hk; cases hk
  obtain⟨c,hc⟩:=I.ok.has x (.inl hk)
  obtain⟨w',z⟩:=I.cell x c hc
  refine wpAny_storeName_cell I.ok.kind hk hc z (λh' hc' hs=>?_)
  obtain⟨oc,hoc,Q9⟩:=id z
  refine h {s with heap:=h' } ⟨I.ok,I.os,I.bare,⟨λb o e n hb hx=>?_,λb o e n hb hx=>?_,I.base.free,λb o e hx=>?_,I.base.tups,I.base.kY,I.base.kZ⟩,⟨m,hn.sameBut hs (Ne.symm (pW x c hc)),λj y v' e1 e2 e3=>?_⟩,λy c' e=>?_,I.free,I.lU,λp hp=>?_,tracked ⟨oc,hoc,I.lU x c hc⟩ hs,by simpa using I.len⟩ ⟨c,hs,.inr hc⟩
  ·exact(hs.2 b (Nat.ne_of_lt (Nat.lt_of_lt_of_le (Heap.lt_size e) (I.ok.cab x c hfn hc)))).trans (I.base.keep b o e n hb hx)
  ·obtain⟨sl,e1⟩:=I.base.slot b o e n hb hx
   exact⟨sl,(hs.2 b (Nat.ne_of_lt (Nat.lt_of_lt_of_le (Heap.lt_size e) (I.ok.cab x c hfn hc)))).trans e1⟩
  ·obtain⟨o',e1⟩:=I.base.there b o e hx
   exact⟨o',(hs.2 b (Nat.ne_of_lt (Nat.lt_of_lt_of_le (Heap.lt_size e) (I.ok.cab x c hfn hc)))).trans e1⟩
  ·by_cases hj:j=i
   ·subst hj
    rw[hi]at e1; cases e1
    rw[List.getElem?_set_self HD]at e2
    cases e2
    exact⟨u,r,.inr ⟨.inl hk,c,hc,hc'⟩⟩
   ·rw[List.getElem?_set_ne (Ne.symm hj)]at e2
    obtain⟨u',r',q⟩:=hl j y v' e1 e2 e3
    refine⟨u',r',?_⟩
    rcases q with q|⟨k,c',e,z'⟩
    ·exact .inl q
    ·refine .inr ⟨k,c',e,z'.sameBut hs ?_⟩
     rintro rfl
     exact hj (Hz hN e1 (I.ok.inj _ _ _ e hc▸hi))
  ·by_cases hcc:c'=c
   ·subst hcc; exact⟨_,hc'⟩
   ·obtain⟨w2,z2⟩:=I.cell y c' e
    exact⟨w2,z2.sameBut hs hcc⟩
  ·obtain⟨e,n,ne,nf,d⟩:=I.pin p hp
   refine⟨(hs.2 p.1 ?_).trans e,n,ne,nf,d⟩
   intro q
   rw[q,hoc]at e
   have q':oc=p.2:=Option.some.inj e
   exact d w' (by rw[<-q']; exact Q9)
theorem wz{M:Model}{A:Around}{E:Value->Shared->Prop}{i:Nat}{x:Str}{v:V}{u:Value}{Q:Unit->Shared->Prop}(I:Inv X pins σ H s)(hN:X.N.Nodup)(hi:X.N[i]?=some x)(hx:Loc X.env.scope x)(r:RelV v u)
  (h:∀s',Inv X pins (σ.set i (some v)) H s'->Q () s') (hf:X.fn x=true\/X.env.scope.names.lookup x=some .local:=by first|exact .inl rfl|exact .inr rfl|assumption):wpAny M A (storeName X.env x u) Q E s :=
 HB I hN hi hx r (λs' I' _=>h s' I') hf
theorem Inv.call'{s':Shared}{ch:List Addr}(I:Inv X pins σ H s)(ho:s'.os=s.os)(u:Un (frs X.stack) ch H H' s.heap s'.heap)(hok:dH X.prog X.w H' s'.heap)(hg:AllBare s'.gens)
  (hch:∀b∈ch,(b∈X.ex\/X.s₀.heap.objs.size<=b)/\b≠X.env.locals/\(∀x c,X.env.cells.lookup x=some c->c≠b)/\∀p∈X.pn++pins,p.1≠b):Inv X pins σ H' s':=by
 obtain⟨h',g',d',t',o'⟩:=s'
 have e:o'=s.os:=ho
 subst e
 exact I.call (g':=g') (t':=t') (d':=d') u hok hg hch
end
abbrev XK:=Value->Option Addr->Hp->Prop
abbrev St:=List (Option V)
abbrev VK:=V->Hp->Prop
abbrev TE:=St->Hp->VK->Prop
abbrev TT:=St->Hp->(Bool->Hp->Prop)->Prop
abbrev TA:=St->Hp->(List V->Hp->Prop)->Prop
structure Ends where
 nx:St->Hp->Prop
 rt:VK
 bk:St->Hp->Prop:=λ_ _=>False
 ct:St->Hp->Prop:=λ_ _=>False
abbrev TS:=Ends->St->Hp->Prop
def EP(X:Cx)(pins:List (Addr × Obj))(σ : St)(Q:VK)(u:Value)(s':Shared):Prop:=∃v H',Inv X pins σ H' s'/\RelV v u/\Q v H'
def TP(X:Cx)(pins:List (Addr × Obj))(σ : St)(Q:Bool->Hp->Prop)(b:Bool)(s':Shared):Prop:=∃H',Inv X pins σ H' s'/\Q b H'
def AP(X:Cx)(pins:List (Addr × Obj))(σ : St)(Q:List V->Hp->Prop)(us:List Value)(s':Shared):Prop:=∃vs H',Inv X pins σ H' s'/\Vals vs us/\Q vs H'
noncomputable def SP(X:Cx)(pins:List (Addr × Obj))(D:Ends)(f:Flow)(s':Shared):Prop :=
 match f with
 |.next=>∃σ' H',Inv X pins σ' H' s'/\D.nx σ' H'
 |.brk=>∃σ' H',Inv X pins σ' H' s'/\D.bk σ' H'
 |.cont=>∃σ' H',Inv X pins σ' H' s'/\D.ct σ' H'
 |.ret u=>∃v σ' H',Inv X pins σ' H' s'/\RelV v u/\D.rt v H'
structure PE(X:Cx)(e:Expr)(t:TE):Prop where
 run:∀(pins:List (Addr × Obj)) (s:Shared) (σ : St) (H:Hp) (Q:VK),Inv X pins σ H s->t σ H Q->wpAny (model X.prog X.w) X.A (eval e X.env) (EP X pins σ Q) X.xe s
instance {X:Cx}{e:Expr}{t:TE}:CoeFun (PE X e t) λ_=>∀(pins:List (Addr × Obj)) (s:Shared) (σ : St) (H:Hp) (Q:VK),Inv X pins σ H s->t σ H Q->wpAny (model X.prog X.w) X.A (eval e X.env) (EP X pins σ Q) X.xe s:=⟨PE.run⟩
structure PT(X:Cx)(e:Expr)(t:TT):Prop where
 run:∀(pins:List (Addr × Obj)) (s:Shared) (σ : St) (H:Hp) (Q:Bool->Hp->Prop),Inv X pins σ H s->t σ H Q->wpAny (model X.prog X.w) X.A (isTrue e X.env (eval e X.env)) (TP X pins σ Q) X.xe s
instance {X:Cx}{e:Expr}{t:TT}:CoeFun (PT X e t) λ_=>∀(pins:List (Addr × Obj)) (s:Shared) (σ : St) (H:Hp) (Q:Bool->Hp->Prop),Inv X pins σ H s->t σ H Q->wpAny (model X.prog X.w) X.A (isTrue e X.env (eval e X.env)) (TP X pins σ Q) X.xe s:=⟨PT.run⟩
structure PW(X:Cx)(e:Expr)(t:TT):Prop where
 run:∀(whole:Sem Value) (pins:List (Addr × Obj)) (s:Shared) (σ : St) (H:Hp) (Q:Bool->Hp->Prop),Inv X pins σ H s->t σ H Q->wpAny (model X.prog X.w) X.A (isTrue e X.env whole) (TP X pins σ Q) X.xe s
noncomputable instance {X:Cx}{e:Expr}{t:TT}:CoeFun (PW X e t) λ_=>∀(whole:Sem Value) (pins:List (Addr × Obj)) (s:Shared) (σ : St) (H:Hp) (Q:Bool->Hp->Prop),Inv X pins σ H s->t σ H Q->wpAny (model X.prog X.w) X.A (isTrue e X.env whole) (TP X pins σ Q) X.xe s:=⟨PW.run⟩
theorem PW.pt{X:Cx}{e:Expr}{t:TT}(h:PW X e t):PT X e t:=⟨h.run _⟩
structure PA(X:Cx)(es:List Expr)(t:TA):Prop where
 run:∀(pos:Pos) (pins:List (Addr × Obj)) (s:Shared) (σ : St) (H:Hp) (Q:List V->Hp->Prop),Inv X pins σ H s->t σ H Q->wpAny (model X.prog X.w) X.A (spliced (backTo pos (starEach es X.env))) (AP X pins σ Q) X.xe s
noncomputable instance {X:Cx}{es:List Expr}{t:TA}:CoeFun (PA X es t) λ_=>∀(pos:Pos) (pins:List (Addr × Obj)) (s:Shared) (σ : St) (H:Hp) (Q:List V->Hp->Prop),Inv X pins σ H s->t σ H Q->wpAny (model X.prog X.w) X.A (spliced (backTo pos (starEach es X.env))) (AP X pins σ Q) X.xe s:=⟨PA.run⟩
structure PS(X:Cx)(st:Stmt)(t:TS):Prop where
 run:∀(pins:List (Addr × Obj)) (s:Shared) (σ : St) (H:Hp) (D:Ends),Inv X pins σ H s->t D σ H->wpAny (model X.prog X.w) X.A (exec st X.env) (SP X pins D) X.xe s
instance {X:Cx}{st:Stmt}{t:TS}:CoeFun (PS X st t) λ_=>∀(pins:List (Addr × Obj)) (s:Shared) (σ : St) (H:Hp) (D:Ends),Inv X pins σ H s->t D σ H->wpAny (model X.prog X.w) X.A (exec st X.env) (SP X pins D) X.xe s:=⟨PS.run⟩
structure iB(X:Cx)(st:List Stmt)(t:TS):Prop where
 run:∀(pins:List (Addr × Obj)) (s:Shared) (σ : St) (H:Hp) (D:Ends),Inv X pins σ H s->t D σ H->wpAny (model X.prog X.w) X.A (execs st X.env) (SP X pins D) X.xe s
instance {X:Cx}{st:List Stmt}{t:TS}:CoeFun (iB X st t) λ_=>∀(pins:List (Addr × Obj)) (s:Shared) (σ : St) (H:Hp) (D:Ends),Inv X pins σ H s->t D σ H->wpAny (model X.prog X.w) X.A (execs st X.env) (SP X pins D) X.xe s:=⟨iB.run⟩
theorem bf{α : Type}{t:Sem α}{Q Q' : α -> Shared->Prop}{M:Model}{A:Around}{E:Value->Shared->Prop}{s:Shared}(h:wpAny M A t Q E s)(hQ:∀a s,Q a s->Q' a s):wpAny M A t Q' E s:=wpAny_mono h hQ λ_ _ x=>x
end L2
namespace L2
open PySem PySem.Spec PyProof.Rows
section
variable {X:Cx}
def mZ(i:Nat):TE:=λσ H Q=>∃v,σ[i]?=some (some v)/\Q v H
def tC(v:V):TE:=λ_ H Q=>Q v H
theorem HF{i:Nat}{x:Str}{pos:Pos}(hN:X.N[i]?=some x)(hv:Ht X.env.scope x)(hd:(x == ("__debug__" : Str))=false:=by decide) (hcd:(x == ("__classdict__" : Str))=false:=by decide):PE X (.Name x pos) (mZ i):=by
 refine⟨λpins s σ H Q I h=>?_⟩
 obtain⟨v,e,h⟩:=h
 obtain⟨m,hn,hl⟩:=I.loc
 obtain⟨u,r,l⟩:=hl i x v hN e hv
 have fin:EP X pins σ Q u s:=⟨v,H,I,r,h⟩
 rcases l with⟨hk,hm⟩|⟨hk,c,hc,hcell⟩
 ·exact wpAny_Name (wpAny_loadName_local I.ok.kind hk hn hm fin) hd
 ·rcases hk with hk|hk
  ·exact wpAny_Name (wpAny_loadName_cell I.ok.kind hk hc hcell fin) hd
  ·exact wpAny_Name (wpAny_loadName_free I.ok.kind hk hc hcell fin hcd) hd
theorem aP{i j pos}:PE X (.Constant (.int i) j pos) (tC (.int i)):=⟨λ_ _ _ H _ I h=>wpAny_Constant_int ⟨.int i,H,I.tok _,⟨_,rfl⟩,h⟩⟩
theorem iW{b j pos}:PE X (.Constant (.bool b) j pos) (tC (.bl b)):=⟨λ_ _ _ H _ I h=>Constant_bool ⟨.bl b,H,I,rfl,h⟩⟩
theorem lq{j pos}:PE X (.Constant .none j pos) (tC .non):=⟨λ_ _ _ H _ I h=>Constant_none ⟨.non,H,I,rfl,h⟩⟩
theorem cZ{x j pos}:PE X (.Constant (.str x) j pos) (tC (.str x)):=⟨λ_ _ _ H _ I h=>Calls.Constant_str ⟨.str x,H,I.tok _,⟨_,rfl⟩,h⟩⟩
def Gl(X:Cx)(x:Str):Prop:=X.env.kindOf x=some .globalImplicit
theorem zR{E:Value->Shared->Prop}{pins:List (Addr × Obj)}{s:Shared}{σ : St}{H:Hp}{x:Str}{u:Value}{pos:Pos}{Q:Value->Shared->Prop}(I:Inv X pins σ H s)(hg:Gl X x)(hm:X.mg x=some u)(h:Q u s)
  (hd:(x == ("__debug__" : Str))=false:=by decide):wpAny (model X.prog X.w) X.A (eval (.Name x pos) X.env) Q E s :=
 Calls.Name_function_global I.ok.kind hg (Calls.loadGlobal_global (by rw[I.ok.glob]; exact I.mod.glob.keeps I.bk) hm h) hd
theorem uw{E:Value->Shared->Prop}{pins:List (Addr × Obj)}{s:Shared}{σ : St}{H:Hp}{x:Str}{u:Value}{pos:Pos}{Q:Value->Shared->Prop}(I:Inv X pins σ H s)(hg:Gl X x)(hm:X.mg x=none)(hv:bootBuiltins x=some u)(h:Q u s)
  (hn:x ≠ "__name__" := by decide) (hd:(x == ("__debug__" : Str))=false:=by decide):wpAny (model X.prog X.w) X.A (eval (.Name x pos) X.env) Q E s:=by
 obtain⟨mb,h1,h2⟩:=I.mod.blt
 exact Calls.Name_function_global I.ok.kind hg (Calls.loadGlobal_builtin (by rw[I.ok.glob]; exact I.mod.glob.keeps I.bk) hm (by rw[I.ok.blt]; exact h1.keeps I.bk) ((h2 x hn).trans hv) h) hd
theorem Ra{x:Str}{v:V}{u:Value}{pos:Pos}(hg:Gl X x)(hm:X.mg x=some u)(r:RelV v u)(hd:(x == ("__debug__" : Str))=false:=by decide):PE X (.Name x pos) (tC v) :=
 ⟨λ_ _ _ H _ I h=>zR I hg hm ⟨v,H,I,r,h⟩ hd⟩
theorem Rf{x:Str}{v:V}{u:Value}{pos:Pos}(hg:Gl X x)(hm:X.mg x=none)(hv:bootBuiltins x=some u)(r:RelV v u)(hn:x ≠ "__name__" := by decide) (hd:(x == ("__debug__" : Str))=false:=by decide):PE X (.Name x pos) (tC v) :=
 ⟨λ_ _ _ H _ I h=>uw I hg hm hv ⟨v,H,I,r,h⟩ hn hd⟩
variable {a b:Expr}{ta tb:TE}{pos:Pos}
variable {tA fZ:TT}{rest:List Expr}
def HJ(t u:TT):TT:=λσ H Q=>t σ H λc H1=>if c=true then u σ H1 Q else Q false H1
def HN(t u:TT):TT:=λσ H Q=>t σ H λc H1=>if c=true then Q true H1 else u σ H1 Q
def HS(t:TT):TT:=λσ H Q=>t σ H λc H1=>Q (!c) H1
theorem zT(ha:PT X a tA):PW X (.BoolOp .And [a] pos) tA:=by
 refine⟨λwh pins s σ H Q I h=>?_⟩
 refine isTrue_and (bf (ha pins s σ H Q I h) λc s1 e=>?_)
 cases c with
 |true=>exact isTrue_and_nil e
 |false=>exact e
theorem lV(ha:PT X a tA):PW X (.BoolOp .Or [a] pos) tA:=by
 refine⟨λwh pins s σ H Q I h=>?_⟩
 refine isTrue_or (bf (ha pins s σ H Q I h) λc s1 e=>?_)
 cases c with
 |false=>exact isTrue_or_nil e
 |true=>exact e
theorem zU(ha:PT X a tA)(hb:PW X (.BoolOp .And (b::rest) pos) fZ):PW X (.BoolOp .And (a::b::rest) pos) (HJ tA fZ):=by
 refine⟨λwh pins s σ H Q I h=>?_⟩
 refine isTrue_and (bf (ha pins s σ H _ I h) λc s1 ⟨H1,I1,q1⟩=>?_)
 cases c with
 |true=>exact hb wh pins s1 σ H1 Q I1 q1
 |false=>exact⟨H1,I1,q1⟩
theorem iY(ha:PT X a tA)(hb:PW X (.BoolOp .Or (b::rest) pos) fZ):PW X (.BoolOp .Or (a::b::rest) pos) (HN tA fZ):=by
 refine⟨λwh pins s σ H Q I h=>?_⟩
 refine isTrue_or (bf (ha pins s σ H _ I h) λc s1 ⟨H1,I1,q1⟩=>?_)
 cases c with
 |true=>exact⟨H1,I1,q1⟩
 |false=>exact hb wh pins s1 σ H1 Q I1 q1
theorem fQ(ha:PT X a tA):PT X (.UnaryOp .Not a pos) (HS tA):=by
 refine⟨λpins s σ H Q I h=>?_⟩
 exact isTrue_not (ha pins s σ H (λc H1=>Q (!c) H1) I h)
def HW(ta tb:TE):TE:=λσ H Q=>ta σ H λx H1=>∃c,x=.bl c/\if c=true then tb σ H1 Q else Q (.bl false) H1
def HX(ta tb:TE):TE:=λσ H Q=>ta σ H λx H1=>∃c,x=.bl c/\if c=true then Q (.bl true) H1 else tb σ H1 Q
def HY(ta:TE):TE:=λσ H Q=>ta σ H λx H1=>∃c,x=.bl c/\Q (.bl (!c)) H1
theorem ou{op}{t:TE}(h:PE X a t):PE X (.BoolOp op [a] pos) t:=⟨λpins s σ H Q I hw=>BoolOp_one (h pins s σ H Q I hw)⟩
theorem oA(ha:PE X a ta)(hb:PE X (.BoolOp .And (b::rest) pos) tb):PE X (.BoolOp .And (a::b::rest) pos) (HW ta tb):=by
 refine⟨λpins s σ H Q I h=>?_⟩
 refine BoolOp_and (bf (ha pins s σ H _ I h) λv s1 ⟨x,H1,I1,r1,q1⟩=>?_)
 obtain⟨c,rfl,q1⟩:=q1
 cases r1
 refine wpAny_truthy_bool ?_
 cases c with
 |true=>exact hb pins s1 σ H1 Q I1 q1
 |false=>exact⟨.bl false,H1,I1,rfl,q1⟩
theorem Rg(ha:PE X a ta)(hb:PE X (.BoolOp .Or (b::rest) pos) tb):PE X (.BoolOp .Or (a::b::rest) pos) (HX ta tb):=by
 refine⟨λpins s σ H Q I h=>?_⟩
 refine BoolOp_or (bf (ha pins s σ H _ I h) λv s1 ⟨x,H1,I1,r1,q1⟩=>?_)
 obtain⟨c,rfl,q1⟩:=q1
 cases r1
 refine wpAny_truthy_bool ?_
 cases c with
 |false=>exact hb pins s1 σ H1 Q I1 q1
 |true=>exact⟨.bl true,H1,I1,rfl,q1⟩
theorem Ia(ha:PE X a ta):PE X (.UnaryOp .Not a pos) (HY ta):=by
 refine⟨λpins s σ H Q I h=>?_⟩
 refine UnaryOp_ (bf (ha pins s σ H _ I h) λv s1 ⟨x,H1,I1,r1,q1⟩=>?_)
 obtain⟨c,rfl,q1⟩:=q1
 cases r1
 exact not_of (wpAny_truthy_bool ⟨.bl (!c),H1,I1,rfl,q1⟩)
def zV(t:TT)(ta tb:TE):TE:=λσ H Q=>t σ H λc H1=>if c=true then ta σ H1 Q else tb σ H1 Q
theorem rO{c:Expr}(hc:PT X c tA)(ha:PE X a ta)(hb:PE X b tb):PE X (.IfExp c a b pos) (zV tA ta tb):=by
 refine⟨λpins s σ H Q I h=>?_⟩
 refine wpAny_IfExp (bf (hc pins s σ H _ I h) λd s1 ⟨H1,I1,q1⟩=>?_)
 cases d with
 |true=>exact ha pins s1 σ H1 Q I1 q1
 |false=>exact hb pins s1 σ H1 Q I1 q1
end
end L2
namespace L2
open PySem PySem.Spec PyProof.Rows
def bG(K:FZ)(H:Hp)(a:Addr)(xs:List V):Prop :=
 Rd H a (.lst xs) \/
  ∃(o:Obj) (its:Array Value) (n:Nat),K.lookup a=some o/\o.cls=.type "list" /\ o.dict=none/\o.data=.seq its n/\its.size<=sizeLine/\Vals xs its.toList
def cj(K:FZ)(H:Hp)(a:Addr)(xs:List V):Prop :=
 Rd H a (.tup xs) \/
  ∃(o:Obj) (its:Array Value) (n:Nat),K.lookup a=some o/\o.cls=.type "tuple" /\ o.data=.seq its n/\its.size<=sizeLine/\Vals xs its.toList
def Rh:Value->Option V
 |.none=>some .non
 |.bool b=>some (.bl b)
 |.int i _=>some (.int i)
 |.str x _=>some (.str x)
 |.bytes b _=>some (.uq b)
 |.float b _=>some (.flt b)
 |.ref a=>some (.ref a)
 |.type n=>some (.ty n)
 |_=>none
theorem RelV.abs{x:V}{u:Value}(r:RelV x u):Rh u=some x:=by
 cases x with
 |non=>cases r; rfl
 |bl _=>cases r; rfl
 |int _=>obtain⟨t,rfl⟩:=r; rfl
 |str _=>obtain⟨t,rfl⟩:=r; rfl
 |uq _=>obtain⟨t,rfl⟩:=r; rfl
 |flt _=>obtain⟨t,rfl⟩:=r; rfl
 |ref _=>cases r; rfl
 |ty _=>cases r; rfl
theorem RelV.inj{x y:V}{u:Value}(r:RelV x u)(q:RelV y u):x=y:=Option.some.inj (r.abs.symm.trans q.abs)
theorem Vals.inj:∀{xs ys:List V} {us:List Value},Vals xs us->Vals ys us->xs=ys
 |_,_,_,.nil,.nil=>rfl
 |_,_,_,.cons r t,.cons r' t'=>by rw[r.inj r',Vals.inj t t']
section
variable {X:Cx}{pins:List (Addr × Obj)}{σ : St}{H:Hp}{s:Shared}{a:Addr}{xs ys:List V}
theorem bG.of{K:FZ}(h:H a=some (.lst xs)):bG K H a xs:=.inl (.inl h)
theorem cj.of{K:FZ}(h:H a=some (.tup xs)):cj K H a xs:=.inl (.inl h)
theorem Inv.list(I:Inv X pins σ H s)(h:bG X.K H a xs):∃its:List Value,Vals xs its/\PlainL s.heap a its.toArray/\xs.length<=sizeLine:=by
 rcases h with h|⟨o,its,n,hk,hc,hd,hs,hz,r⟩
 ·obtain⟨z,its,n,r,e⟩:=h.ok I.hok
  exact⟨its,r,⟨_,n,e,rfl,rfl,rfl⟩,z⟩
 ·refine⟨its.toList,r,⟨o,n,I.ju a o hk,hc,hd,by simpa using hs⟩,?_⟩
  have e:=r.length
  simp only[Array.length_toList]at e
  omega
theorem Inv.tuple(I:Inv X pins σ H s)(h:cj X.K H a xs):∃its:List Value,Vals xs its/\IsTup s.heap a its.toArray/\xs.length<=sizeLine:=by
 rcases h with h|⟨o,its,n,hk,hc,hs,hz,r⟩
 ·obtain⟨z,its,r,p⟩:=h.ok I.hok
  exact⟨its,r,p,z⟩
 ·refine⟨its.toList,r,⟨o,I.ju a o hk,hc,n,by simpa using hs⟩,?_⟩
  have e:=r.length
  simp only[Array.length_toList]at e
  omega
theorem Inv.wA(I:Inv X pins σ H s)(h:bG X.K H a xs)(h':bG X.K H a ys):xs=ys:=by
 obtain⟨its,r,⟨o,n,e,_,_,d⟩,_⟩:=I.list h
 obtain⟨its',r',⟨o',n',e',_,_,d'⟩,_⟩:=I.list h'
 rw[e]at e'; cases e'
 rw[d]at d'
 injection d' with d1 _
 have:its=its':=by simpa using congrArg Array.toList d1
 subst this
 exact r.inj r'
theorem Inv.Ib(I:Inv X pins σ H s)(h:cj X.K H a xs)(h':cj X.K H a ys):xs=ys:=by
 obtain⟨its,r,⟨o,e,_,n,d⟩,_⟩:=I.tuple h
 obtain⟨its',r',⟨o',e',_,n',d'⟩,_⟩:=I.tuple h'
 rw[e]at e'; cases e'
 rw[d]at d'
 injection d' with d1 _
 have:its=its':=by simpa using congrArg Array.toList d1
 subst this
 exact r.inj r'
end
abbrev Cx.wish(X:Cx)(E:Value->Shared->Prop):Cx:={X with xe:=E }
abbrev Cx.oE(X:Cx):Cx:=X.wish λ_ _=>False
theorem Cx.Ok.wish{X:Cx}(ok:X.Ok)(E:Value->Shared->Prop):(X.wish E).Ok :=
 ⟨ok.mod,ok.kind,ok.glob,ok.blt,ok.above,ok.inj,ok.has,ok.cab,ok.hd,ok.frames,ok.stk,ok.Hu,ok.bs,ok.pR,ok.iV,ok.wg,ok.jU,ok.pU⟩
theorem Cx.Ok.oF{X:Cx}{E:Value->Shared->Prop}(ok:(X.wish E).Ok):X.Ok :=
 ⟨ok.mod,ok.kind,ok.glob,ok.blt,ok.above,ok.inj,ok.has,ok.cab,ok.hd,ok.frames,ok.stk,ok.Hu,ok.bs,ok.pR,ok.iV,ok.wg,ok.jU,ok.pU⟩
section
variable {X:Cx}{pins:List (Addr × Obj)}{σ : St}{H:Hp}{s:Shared}{E:Value->Shared->Prop}
theorem Inv.wish(I:Inv X pins σ H s)(E:Value->Shared->Prop):Inv (X.wish E) pins σ H s:=⟨I.ok.wish E,I.os,I.bare,I.base,I.loc,I.cell,I.free,I.lU,I.pin,I.hok,I.len⟩
theorem Inv.oF(I:Inv (X.wish E) pins σ H s):Inv X pins σ H s:=⟨I.ok.oF,I.os,I.bare,I.base,I.loc,I.cell,I.free,I.lU,I.pin,I.hok,I.len⟩
theorem SP.oF{D:Ends}{f:Flow}{s':Shared}(h:SP (X.wish E) pins D f s'):SP X pins D f s':=by
 cases f with
 |next=>obtain⟨σ',H',I,q⟩:=h; exact⟨σ',H',I.oF,q⟩
 |brk=>obtain⟨σ',H',I,q⟩:=h; exact⟨σ',H',I.oF,q⟩
 |cont=>obtain⟨σ',H',I,q⟩:=h; exact⟨σ',H',I.oF,q⟩
 |ret u=>obtain⟨v,σ',H',I,r,q⟩:=h; exact⟨v,σ',H',I.oF,r,q⟩
end
section
variable {X:Cx}{st:Stmt}{rest:List Stmt}{t u:TS}{e:Expr}{te:TE}{pos:Pos}
def Ie:TS:=λD σ H=>D.nx σ H
def iZ(t u:TS):TS:=λD σ H=>t {D with nx:=u D } σ H
theorem cL:iB X [] Ie:=⟨λ_ _ σ H _ I h=>wpAny_execs_nil ⟨σ,H,I,h⟩⟩
theorem bw(h1:PS X st t)(h2:iB X rest u):iB X (st::rest) (iZ t u):=by
 refine⟨λpins s σ H D I h=>?_⟩
 refine wpAny_execs_cons (bf (h1 pins s σ H {D with nx:=u D } I h) λf s1 q=>?_)
 cases f with
 |next =>
  obtain⟨σ',H',I',q⟩:=q
  exact h2 pins s1 σ' H' D I' q
 |ret v=>exact q
 |brk=>exact q
 |cont=>exact q
theorem aZ(h1:PS X st t):iB X [st] t:=by
 refine⟨λpins s σ H D I h=>?_⟩
 refine wpAny_execs_cons (bf (h1 pins s σ H D I h) λf s1 q=>?_)
 cases f with
 |next=>exact wpAny_execs_nil q
 |ret v=>exact q
 |brk=>exact q
 |cont=>exact q
theorem Inv.quiet{pins:List (Addr × Obj)}{σ : St}{H:Hp}{s:Shared}(I:Inv X pins σ H s):interactive X.env=false:=by simp[interactive,I.ok.kind]
def wB(te:TE):TS:=λD σ H=>te σ H λ_ H1=>D.nx σ H1
theorem Ri(he:PE X e te)(hs:swapsWith e none pos.line X.env=pure false:=by rfl):PS X (.Expr e pos) (wB te):=by
 refine⟨λpins s σ H D I h=>?_⟩
 exact wpAny_Expr_any (bf (he pins s σ H _ I h) λv s1 ⟨x,H1,I1,r1,q1⟩=>⟨σ,H1,I1,q1⟩) I.quiet hs
def rP(te:TE):TS:=λD σ H=>te σ H D.rt
theorem bN(he:PE X e te):PS X (.Return (some e) pos) (rP te):=by
 refine⟨λpins s σ H D I h=>?_⟩
 exact wpAny_Return_some (bf (he pins s σ H _ I h) λv s1 ⟨x,H1,I1,r1,q1⟩=>⟨x,σ,H1,I1,r1,q1⟩)
def oG(c:TT)(t u:TS):TS:=λD σ H=>c σ H λb H1=>if b=true then t D σ H1 else u D σ H1
theorem cM{c:Expr}{a b:List Stmt}{tc:TT}(hc:PT X c tc)(ha:iB X a t)(hb:iB X b u):PS X (.If c a b pos) (oG tc t u):=by
 refine⟨λpins s σ H D I h=>?_⟩
 refine wpAny_If (bf (hc pins s σ H _ I h) λd s1 ⟨H1,I1,q1⟩=>?_)
 cases d with
 |true=>exact ha pins s1 σ H1 D I1 q1
 |false=>exact hb pins s1 σ H1 D I1 q1
end
abbrev TG:=V->St->Hp->(St->Hp->Prop)->Prop
abbrev lW:=List V->St->Hp->(St->Hp->Prop)->Prop
noncomputable def PG(X:Cx)(target:Expr)(t:TG):Prop :=
 ∀(pins:List (Addr × Obj)) (s:Shared) (σ : St) (H:Hp) (v:V) (u:Value) (Q:St->Hp->Prop),Inv X pins σ H s->RelV v u->t v σ H Q ->
  wpAny (model X.prog X.w) X.A (assign target X.env u) (λ_ s'=>∃σ' H',Inv X pins σ' H' s'/\Q σ' H') X.xe s
noncomputable def wC(X:Cx)(ts:List Expr)(t:lW):Prop :=
 ∀(pins:List (Addr × Obj)) (s:Shared) (σ : St) (H:Hp) (vs:List V) (us:List Value) (Q:St->Hp->Prop),Inv X pins σ H s->Vals vs us->t vs σ H Q ->
  wpAny (model X.prog X.w) X.A (assignInOrder ((assignEach ts X.env).map (·.2)) us) (λ_ s'=>∃σ' H',Inv X pins σ' H' s'/\Q σ' H') X.xe s
abbrev zW:=V->V->V->Hp->(Hp->Prop)->Prop
noncomputable def Ig(X:Cx)(t:zW):Prop :=
 ∀(pins:List (Addr × Obj)) (s:Shared) (σ : St) (H:Hp) (o i v:V) (ov iv u:Value) (Q:Hp->Prop),Inv X pins σ H s->RelV o ov->RelV i iv->RelV v u->t o i v H Q ->
  wpAny (model X.prog X.w) X.A (setItem ov iv u) (λ_ s'=>∃H',Inv X pins σ H' s'/\Q H') X.xe s
section
variable {X:Cx}{pos:Pos}
def iC(i:Nat):TG:=λv σ H Q=>Q (σ.set i (some v)) H
theorem Rj{i:Nat}{x:Str}(hN:X.N.Nodup)(hi:X.N[i]?=some x)(hx:Loc X.env.scope x)(hf:X.fn x=true\/X.env.scope.names.lookup x=some .local:=by first|exact .inl rfl|exact .inr rfl|assumption):PG X (.Name x pos) (iC i):=by
 intro pins s σ H v u Q I r h
 exact wpAny_assign_Name (wz I hN hi hx r (λs' I'=>⟨_,H,I',h⟩) hf)
def Ih:lW:=λvs σ H Q=>vs=[]/\Q σ H
def Ii(t:TG)(u:lW):lW:=λvs σ H Q=>∃v r,vs=v::r/\t v σ H λσ' H'=>u r σ' H' Q
theorem ux:wC X [] Ih:=by
 intro pins s σ H vs us Q I r h
 obtain⟨e,h⟩:=h
 subst e
 cases r
 exact assignInOrder_nil ⟨σ,H,I,h⟩
theorem lu{e:Expr}{es:List Expr}{t:TG}{u:lW}(h1:PG X e t)(h2:wC X es u)
  (hs:(assignEach (e::es) X.env).map (·.2)=assign e X.env::(assignEach es X.env).map (·.2):=by rfl):wC X (e::es) (Ii t u):=by
 intro pins s σ H vs us Q I r h
 obtain⟨v,vr,e1,h⟩:=h
 subst e1
 cases r with
 |cons r rr =>
  rw[hs]
  refine assignInOrder_cons (bf (h1 pins s σ H _ _ _ I r h) λ_ s1 ⟨σ1,H1,I1,q1⟩=>?_)
  exact h2 pins s1 σ1 H1 _ _ Q I1 rr q1
def Ij(K:FZ)(n:Nat)(t:lW):TG:=λv σ H Q=>∃a xs,v=.ref a/\cj K H a xs/\xs.length=n/\t xs σ H Q
theorem uy{es:List Expr}{k:Nat}{t:lW}{n:Nat}(hc:X.calm=true)(h:wC X es t)
  (hn:(assignEach es X.env).length=n:=by rfl) (hst:(assignEach es X.env).findIdx? (·.1)=none:=by rfl):PG X (.Tuple es k pos) (Ij X.K n t):=by
 intro pins s σ H v u Q I r hw
 obtain⟨a,xs,e1,hq,hl,hw⟩:=hw
 subst e1
 cases r
 obtain⟨its,rv,ht,hz⟩:=I.tuple hq
 refine assign_Tuple_tuple (I.ok.hd hc) ht (by simp[hn,<-hl,rv.length]) hst λh' hx=>?_
 have I1:Inv X pins σ H {s with heap:=h' }:=I.kept (t':=s.toks) λb o e=>hx b o (Nat.ne_of_lt (Heap.lt_size e)) e
 exact h pins _ σ H xs _ Q I1 (by simpa using rv) hw
def zX(to ti:TE)(t:zW):TG:=λv σ H Q=>to σ H λo H1=>ti σ H1 λi H2=>t o i v H2 λH3=>Q σ H3
theorem Ik{o i:Expr}{to ti:TE}{t:zW}(ho:PE X o to)(hi:PE X i ti)(hs:Ig X t)
  (ha:∀v,assign (.Subscript o i pos) X.env v=(do
   let ov <-holding [v] (eval o X.env)
   let iv <-holding [v,ov] (eval i X.env)
   standAt pos
   holding [v,ov,iv] (setItem ov iv v)
   release [v,ov,iv] []):=by intro _; rfl):PG X (.Subscript o i pos) (zX to ti t):=by
 intro pins s σ H v u Q I r h
 rw[ha]
 refine wpAny_bind (wpAny_holding (bf (ho pins s σ H _ I h) λov s1 ⟨x,H1,I1,r1,q1⟩=>?_))
 refine wpAny_bind (wpAny_holding (bf (hi pins s1 σ H1 _ I1 q1) λiv s2 ⟨y,H2,I2,r2,q2⟩=>?_))
 refine wpAny_bind (wpAny_standAt (wpAny_bind (wpAny_holding (bf (hs pins s2 σ H2 x y v ov iv u _ I2 r1 r2 r q2) λ_ s3 ⟨H3,I3,q3⟩=>?_))))
 exact wpAny_release ⟨σ,H3,I3,q3⟩
def jJ(te:TE)(g:TG):TS:=λD σ H=>te σ H λx H1=>g x σ H1 D.nx
theorem rQ{tg e:Expr}{te:TE}{g:TG}(he:PE X e te)(hg:PG X tg g)(hs:swapsWithSole [tg] e pos.line X.env=pure false:=by rfl)(hw:swappedStores [tg] e X.env=pure none:=by rfl)
  (h1:(assignEach [tg] X.env).map (·.2)=[assign tg X.env]:=by rfl):PS X (.Assign [tg] e pos) (jJ te g):=by
 refine⟨λpins s σ H D I h=>?_⟩
 refine wpAny_Assign_stores (bf (he pins s σ H _ I h) λv s1 ⟨x,H1,I1,r1,q1⟩=>?_) hs hw
 rw[h1]
 exact bf (hg pins s1 σ H1 x v _ I1 r1 q1) λ_ s2 q=>q
theorem Rk{i:Nat}{x:Str}{e:Expr}{te:TE}{pos':Pos}(hN:X.N.Nodup)(hi:X.N[i]?=some x)(hx:Loc X.env.scope x)(he:PE X e te)(hs:swapsWith e (some (.Name x pos')) pos.line X.env=pure false:=by rfl)(hf:X.fn x=true\/X.env.scope.names.lookup x=some .local:=by first|exact .inl rfl|exact .inr rfl|assumption) :
  PS X (.Assign [.Name x pos'] e pos) (jJ te (iC i)):=by
 refine⟨λpins s σ H D I h=>?_⟩
 refine wpAny_Assign_Name (bf (he pins s σ H _ I h) λv s1 ⟨y,H1,I1,r1,q1⟩=>?_) hs
 exact wz I1 hN hi hx r1 (λs2 I2=>⟨_,H1,I2,q1⟩) hf
def Il(i j:Nat)(ta:TA):TS:=λD σ H=>ta σ H λvs H1=>∃v w,vs=[v,w]/\D.nx ((σ.set i (some v)).set j (some w)) H1
theorem Im{i j:Nat}{x y:Str}{a b:Expr}{ta:TA}{px py pt:Pos}{kt k2 zY}(hc:X.calm=true)(hN:X.N.Nodup)(hi:X.N[i]?=some x)(hj:X.N[j]?=some y)(hij:i≠j)
  (hx:X.env.scope.names.lookup x=some .local) (hy:X.env.scope.names.lookup y=some .local) (ha:PA X [a,b] ta)
  (hw:swappedStores [.Tuple [.Name x px,.Name y py] kt pt] (.Tuple [a,b] k2 zY) X.env=pure (some [x,y]))
  (hs:swapsWithSole [.Tuple [.Name x px,.Name y py] kt pt] (.Tuple [a,b] k2 zY) pos.line X.env=pure false:=by rfl) :
  PS X (.Assign [.Tuple [.Name x px,.Name y py] kt pt] (.Tuple [a,b] k2 zY) pos) (Il i j ta):=by
 refine⟨λpins s σ H D I h=>?_⟩
 rw[exec_Assign_arm]
 refine wpAny_bind (wpAny_standAt ?_)
 rw[hs]
 refine wpAny_bind (wpAny_pure ?_)
 rw[if_neg (by decide)]
 refine wpAny_bind (Tuple_ (bf (ha _ pins s σ H _ I h) λus s1 ⟨vs,H1,I1,r1,q1⟩=>?_))
 obtain⟨v,w,e1,q1⟩:=q1
 subst e1
 obtain⟨u1,u2,rfl,rv,pX⟩:∃u1 u2,us=[u1,u2]/\RelV v u1/\RelV w u2:=by
  cases r1 with
  |cons p q =>
   cases q with
   |cons p' q' =>
    cases q'
    exact⟨_,_,rfl,p,p'⟩
 refine wpAny_newObj_type ?_ (by show 2<=sizeLine; decide)
 have I2:Inv X pins σ H1 {s1 with heap:=s1.heap.push {cls:=.type "tuple",data:=.seq [u1,u2].toArray } }:=I1.kept (t':=s1.toks) λb o e=>Heap.get?_push_of_some _ e
 rw[hw]
 refine wpAny_bind (wpAny_pure ?_)
 show wpAny (model X.prog X.w) X.A (do rule "assign.swapped-stores"; let items <-unpackItems (.ref s1.heap.objs.size) 2 none; assignInOrder [λv=>bindName X.env y v,λv=>bindName X.env x v] items.reverse; pure Flow.next) _ _ _
 refine wpAny_bind (wpAny_rule (wpAny_bind (unpackItems_tuple (items:=#[u1,u2]) (I.ok.hd hc) (IsTup.new s1.heap _) λh' hx'=>?_)))
 have I3:=I2.kept (h':=h') (t':=s1.toks) λb o e=>hx' b o (Nat.ne_of_lt (Heap.lt_size e)) e
 show wpAny _ _ (assignInOrder [λv=>bindName X.env y v,λv=>bindName X.env x v] [u2,u1] >>= λ_=>pure Flow.next) _ _ _
 refine wpAny_bind (assignInOrder_cons (wpAny_bindName (wz I3 hN hj (.inl hy) pX (λs2 I4=>?_) (.inr hy))))
 refine assignInOrder_cons (wpAny_bindName (wz I4 hN hi (.inl hx) rv (λs3 I5=>assignInOrder_nil (wpAny_pure ?_)) (.inr hx)))
 rw[List.set_comm _ _ (Ne.symm hij)]at I5
 exact⟨_,H1,I5,q1⟩
end
section
variable {X:Cx}{pos:Pos}
def Io(c:TT)(tb:TS):TS:=λD σ H=>∃W:Nat->St->Hp->Prop,(∃m,W m σ H)/\∀m σ H,W m σ H ->
 c σ H λb H1=>if b=true then ∃N:St->Hp->Prop,(∀σ' H',N σ' H'->∃m',m'<m/\W m' σ' H')/\tb {D with nx:=N,ct:=N,bk:=D.nx } σ H1 else D.nx σ H1
theorem Ip{c:Expr}{body:List Stmt}{tc:TT}{tb:TS}(hp:PassesOwn (model X.prog X.w) X.A X.env X.xe)(hc:PT X c tc)(hb:iB X body tb):PS X (.While c body [] pos) (Io tc tb):=by
 refine⟨λpins s σ H D I h=>?_⟩
 obtain⟨W,⟨m0,w0⟩,turn⟩:=h
 refine wpAny_While (codeAny_whileLoop (λn s'=>∃σ' H',Inv X pins σ' H' s'/\W n σ' H') ?_ m0 ⟨σ,H,I,w0⟩)
 rintro n s1 ⟨σ1,H1,I1,w1⟩
 refine wpAny_passesOwn hp (bf (hc pins s1 σ1 H1 _ I1 (turn n σ1 H1 w1)) λb s2 ⟨H2,I2,q2⟩=>?_)
 cases b with
 |true =>
  obtain⟨N,hN,q2⟩:=q2
  rw[if_pos rfl]
  refine wpAny_passesOwn hp (bf (hb pins s2 σ1 H2 _ I2 q2) λf s3 q3=>?_)
  cases f with
  |next =>
   obtain⟨σ3,H3,I3,n3⟩:=q3
   obtain⟨m',hm,w3⟩:=hN σ3 H3 n3
   exact⟨m',hm,σ3,H3,I3,w3⟩
  |cont =>
   obtain⟨σ3,H3,I3,n3⟩:=q3
   obtain⟨m',hm,w3⟩:=hN σ3 H3 n3
   exact⟨m',hm,σ3,H3,I3,w3⟩
  |brk=>exact q3
  |ret v=>exact q3
 |false =>
  rw[if_neg Bool.false_ne_true]
  exact wpAny_execs_nil ⟨σ1,H2,I2,q2⟩
end
structure It where
 go:Nat->Hp->Prop
 rR:Nat->Hp->V->Hp->Prop
 stop:Nat->Hp->Prop
def lA(X:Cx)(pins:List (Addr × Obj))(H:Hp)(b:Addr):Prop :=
 H b=none/\b≠X.env.locals/\b∉X.fs/\(b∈X.ex\/X.s₀.heap.objs.size<=b)/\(∀x c,X.env.cells.lookup x=some c->c≠b)/\∀p∈X.pn++pins,p.1≠b
theorem Inv.wF{X:Cx}{pins:List (Addr × Obj)}{σ : St}{H H':Hp}{s:Shared}{b:Addr}(I:Inv X pins σ H s)(hb:s.heap.objs.size<=b)(hn:H' b=none):lA X pins H' b:=by
 refine⟨hn,Nat.ne_of_gt (Nat.lt_of_lt_of_le I.lt hb),I.Q8 hb,.inr (Nat.le_trans I.sz hb),λx c e z=>?_,λp hp z=>?_⟩
 ·obtain⟨v,q⟩:=I.cell x c e
  exact absurd (Nat.lt_of_lt_of_le q.lt (by rw[z]; exact hb)) (Nat.lt_irrefl _)
 ·exact absurd (Nat.lt_of_lt_of_le (Heap.lt_size (I.pin p hp).1) (by rw[z]; exact hb)) (Nat.lt_irrefl _)
structure Turn(P:Program)(w:World)(K:FZ)(tg:Expr)(J:It)(fp:List Addr)(it:Addr)(tn:Nat->Heap->Prop):Prop where
 mem:it∈fp
 obj:∀i h,tn i h->∀b∈fp,∃o,h.get? b=some o/\∀v,o.data ≠ .cell v
 keep:∀i h h',tn i h->(∀b∈fp,∀o,h.get? b=some o->h'.get? b=some o)->tn i h'
 item:∀(X:Cx),X.prog=P->X.w=w->X.K=K->X.calm=true->∀(i:Nat) (pins:List (Addr × Obj)) (s:Shared) (σ : St) (H:Hp) (E:Value->Shared->Prop),Inv X pins σ H s->(∀b∈fp,lA X pins H b)->tn i s.heap->J.go i H ->
  wpAny (model P w) X.A (pyNext (.ref it)) (λr s1=>∃u,r=some u /\
   wpAny (model P w) X.A (letOwnedTupleGo tg (.ref it) u) (λ_ s2=>∃x H',Inv X pins σ H' s2/\RelV x u/\J.rR i H x H'/\tn (i+1) s2.heap/\∀b∈fp,H' b=none) E s1) E s
 done:∀(X:Cx),X.prog=P->X.w=w->X.K=K->X.calm=true->∀(i:Nat) (pins:List (Addr × Obj)) (s:Shared) (σ : St) (H:Hp) (E:Value->Shared->Prop),Inv X pins σ H s->(∀b∈fp,lA X pins H b)->tn i s.heap->J.stop i H ->
  wpAny (model P w) X.A (pyNext (.ref it)) (λr s1=>r=none/\Inv X pins σ H s1) E s
 self:∀(A:Around) (i:Nat) (s:Shared) (Q:Value->Shared->Prop) (E:Value->Shared->Prop),tn i s.heap->Q (.ref it) s->wpAny (model P w) A (pyIter (.ref it)) Q E s
abbrev TI:=St->Hp->(It->Hp->Prop)->Prop
noncomputable def PIE(X:Cx)(pins:List (Addr × Obj))(σ : St)(tg:Expr)(R:It->Hp->Prop)(itv:Value)(s2:Shared):Prop :=
 ∃(it:Addr) (fp:List Addr) (tn:Nat->Heap->Prop) (J:It) (H':Hp),itv=.ref it/\Inv X pins σ H' s2/\Turn X.prog X.w X.K tg J fp it tn/\tn 0 s2.heap/\(∀b∈fp,lA X pins H' b)/\R J H'
noncomputable def PI(X:Cx)(tg iter:Expr)(wi:TI):Prop :=
 ∀(pins:List (Addr × Obj)) (s:Shared) (σ : St) (H:Hp) (R:It->Hp->Prop),Inv X pins σ H s->wi σ H R ->
  wpAny (model X.prog X.w) X.A (eval iter X.env) (λv s1=>wpAny (model X.prog X.w) X.A (pyIter v) (PIE X pins σ tg R) X.xe s1) X.xe s
theorem zZ{M:Model}{A:Around}{E:Value→Shared→Prop}{s:Shared}{tg:Expr}{it:Addr}{u:Value}{o:Obj}{n:String}{vs:Array Value}{Q:Unit→Shared→Prop}(ho:s.heap.get? it=some o)(hc:o.cls=.type n)(hd:o.data=.fields vs)
    (hn : ["enumerate", "zip", "dict_itemiterator", "dict_reverseitemiterator", "odict_iterator", "itertools.zip_longest", "itertools.pairwise"].contains n=false) (hQ:Q () s):wpAny M A (letOwnedTupleGo tg (.ref it) u) Q E s:=by
  unfold letOwnedTupleGo
  cases tg <;> first
    |exact wpAny_pure hQ
    | (cases u <;> first
        |exact wpAny_pure hQ
        | (refine wpAny_bind (wpAny_load ho ?_)
           rw[hc,hd]
           show wpAny M A (if(["enumerate", "zip", "dict_itemiterator", "dict_reverseitemiterator", "odict_iterator", "itertools.zip_longest", "itertools.pairwise"].contains n&&vs[0]? == some (rawInt _))=true then _ else _) Q E s
           rw[if_neg (by intro h; rw[hn,Bool.false_and]at h; cases h)]
           exact wpAny_pure hQ))
def Aa(K:FZ)(a:Addr):It :=
 ⟨λi H=>∃xs x,bG K H a xs/\xs[i]?=some x,λi H x H'=>H'=H/\∀xs,bG K H a xs->xs[i]?=some x,λi H=>∃xs,bG K H a xs/\xs.length<=i⟩
def Ab(K:FZ)(a:Addr):It :=
 ⟨λi H=>∃xs x,cj K H a xs/\xs[i]?=some x,λi H x H'=>H'=H/\∀xs,cj K H a xs->xs[i]?=some x,λi H=>∃xs,cj K H a xs/\xs.length<=i⟩
def wG(lo:Int)(n:Nat):It:=⟨λi _=>i<n,λi H x H'=>H'=H/\x=.int (lo+i),λi _=>n<=i⟩
theorem Rm{P:Program}{w:World}{K:FZ}{tg:Expr}(a it:Addr):Turn P w K tg (Aa K a) [it] it (λi h=>h.IsListIter it a i) where
 mem:=by simp
 obj:=λi h st b hb=>by
  have e:b=it:=by simpa using hb
  subst e
  obtain⟨o,e,c,d⟩:=st
  exact⟨o,e,λv z=>by rw[d]at z; cases z⟩
 keep:=λi h h' st k=>st.at λo e=>k it (by simp) o e
 item:=by
  intro X hP hw hK hc i pins s σ H E I hf st hg
  subst hP hw hK
  obtain⟨xs,x,hq,hx⟩:=hg
  obtain⟨its,rv,p,hz⟩:=I.list hq
  obtain⟨u,hu,ru⟩:=rv.get hx
  obtain⟨f0,f1,f2,f3,f4,f5⟩:=hf it (by simp)
  refine wpAny_pyNext_list_item st p.isList (x:=u) (by simpa using hu) λh' st' sb=>?_
  have I1:Inv X pins σ H {s with heap:=h' }:=I.turned (t':=s.toks) (λb o hb e=>(sb.2 b hb).trans e) f0 f1 f3 f4 f5
  obtain⟨o,e,c,d⟩:=id st'
  exact⟨u,rfl,zZ (s:={s with heap:=h' }) e c d (by decide) ⟨x,H,I1,ru,⟨rfl,λys hy=>by rw[I.wA hy hq]; exact hx⟩,st',λb hb=>(hf b hb).1⟩⟩
 done:=by
  intro X hP hw hK hc i pins s σ H E I hf st hg
  subst hP hw hK
  obtain⟨xs,hq,hx⟩:=hg
  obtain⟨its,rv,p,hz⟩:=I.list hq
  obtain⟨f0,f1,f2,f3,f4,f5⟩:=hf it (by simp)
  have hl:=rv.length
  exact wpAny_pyNext_list_end (I.ok.hd hc) st p.isList (by simp; omega) λh' eb=>⟨rfl,I.turned (t':=s.toks) (λb o hb e=>eb b o hb e) f0 f1 f3 f4 f5⟩
 self:=λ_ _ _ _ _ st h=>wpAny_pyIter_listiter st h
theorem Rn{P:Program}{w:World}{K:FZ}{tg:Expr}(a it:Addr):Turn P w K tg (Ab K a) [it] it (λi h=>h.IsTupleIter it a i) where
 mem:=by simp
 obj:=λi h st b hb=>by
  have e:b=it:=by simpa using hb
  subst e
  obtain⟨o,e,c,d⟩:=st
  exact⟨o,e,λv z=>by rw[d]at z; cases z⟩
 keep:=λi h h' st k=>st.at λo e=>k it (by simp) o e
 item:=by
  intro X hP hw hK hc i pins s σ H E I hf st hg
  subst hP hw hK
  obtain⟨xs,x,hq,hx⟩:=hg
  obtain⟨its,rv,p,hz⟩:=I.tuple hq
  obtain⟨u,hu,ru⟩:=rv.get hx
  obtain⟨f0,f1,f2,f3,f4,f5⟩:=hf it (by simp)
  refine wpAny_pyNext_tuple_item st (show s.heap.IsTuple a its.toArray from p) (x:=u) (by simpa using hu) λh' st' sb=>?_
  have I1:Inv X pins σ H {s with heap:=h' }:=I.turned (t':=s.toks) (λb o hb e=>(sb.2 b hb).trans e) f0 f1 f3 f4 f5
  obtain⟨o,e,c,d⟩:=id st'
  exact⟨u,rfl,zZ (s:={s with heap:=h' }) e c d (by decide) ⟨x,H,I1,ru,⟨rfl,λys hy=>by rw[I.Ib hy hq]; exact hx⟩,st',λb hb=>(hf b hb).1⟩⟩
 done:=by
  intro X hP hw hK hc i pins s σ H E I hf st hg
  subst hP hw hK
  obtain⟨xs,hq,hx⟩:=hg
  obtain⟨its,rv,p,hz⟩:=I.tuple hq
  obtain⟨f0,f1,f2,f3,f4,f5⟩:=hf it (by simp)
  have hl:=rv.length
  exact wpAny_pyNext_tuple_end (I.ok.hd hc) st (show s.heap.IsTuple a its.toArray from p) (by simp; omega) λh' eb=>⟨rfl,I.turned (t':=s.toks) (λb o hb e=>eb b o hb e) f0 f1 f3 f4 f5⟩
 self:=λ_ _ _ _ _ st h=>wpAny_pyIter_tupleiter st h
theorem Ro{P:Program}{w:World}{K:FZ}{tg:Expr}(it:Addr)(lo:Int)(n:Nat):Turn P w K tg (wG lo n) [it] it (λi h=>IsRangeIter h it (lo+(i:Nat)*1) ((n:Int)-(i:Nat)) 1) where
 mem:=by simp
 obj:=λi h st b hb=>by
  have e:b=it:=by simpa using hb
  subst e
  exact⟨_,st,λv z=>by
   have z':Data.fields _=Data.cell v:=z
   cases z'⟩
 keep:=λi h h' st k=>k it (by simp) _ st
 item:=by
  intro X hP hw hK hc i pins s σ H E I hf st hg
  subst hP hw hK
  obtain⟨f0,f1,f2,f3,f4,f5⟩:=hf it (by simp)
  have W:=Walks.range (prog:=X.prog) (w:=X.w) (I.ok.hd hc) it lo 1 n
  refine W.item i s _ _ hg st λv h' tk hv st' kk=>?_
  obtain⟨t,rfl⟩:=hv
  have I1:Inv X pins σ H {s with heap:=h',toks:=tk }:=I.turned (λb o hb e=>kk b o (by simpa using hb) e) f0 f1 f3 f4 f5
  refine⟨_,rfl,zZ (s:={s with heap:=h',toks:=tk }) (n := "range_iterator") st' rfl rfl (by decide) ⟨.int (lo+i),H,I1,⟨t,?_⟩,⟨rfl,rfl⟩,st',λb hb=>(hf b hb).1⟩⟩
  rw[Int.mul_one]
 done:=by
  intro X hP hw hK hc i pins s σ H E I hf st hg
  subst hP hw hK
  obtain⟨f0,f1,f2,f3,f4,f5⟩:=hf it (by simp)
  exact wpAny_pyNext_range_end (I.ok.hd hc) st (by have:n<=i:=hg; omega) λh' eb=>⟨rfl,I.turned (t':=s.toks) (λb o hb e=>eb b o hb e) f0 f1 f3 f4 f5⟩
 self:=λ_ _ _ _ _ st h=>wpAny_pyIter_rangeiter st h
end L2
namespace L2
open PySem PySem.Spec PyProof.Rows
section
variable {X:Cx}{tg:Expr}
def Ir(K:FZ)(tl:TE):TI:=λσ H R=>tl σ H λx H1=>∃a,x=.ref a/\(∃xs,bG K H1 a xs)/\R (Aa K a) H1
def Iu(K:FZ)(tl:TE):TI:=λσ H R=>tl σ H λx H1=>∃a,x=.ref a/\(∃xs,cj K H1 a xs)/\R (Ab K a) H1
theorem Rq{l:Expr}{tl:TE}(hl:PE X l tl):PI X tg l (Ir X.K tl):=by
 intro pins s σ H R I h
 refine bf (hl pins s σ H _ I h) λv s1 ⟨x,H1,I1,r1,q1⟩=>?_
 obtain⟨a,e,⟨xs,hq⟩,q⟩:=q1
 subst e
 cases r1
 obtain⟨its,rv,p,hz⟩:=I1.list hq
 refine wpAny_pyIter_list p.isList ?_
 refine⟨s1.heap.objs.size,[s1.heap.objs.size],_,_,H1,rfl,I1.kept (t':=s1.toks) λb o e=>Heap.get?_push_of_some _ e,Rm a _,⟨_,Heap.get?_push_size _ rfl,rfl,rfl⟩,λb hb=>?_,q⟩
 have e:b=s1.heap.objs.size:=by simpa using hb
 subst e
 exact I1.wF (Nat.le_refl _) (I1.hok.fresh (Nat.le_refl _))
theorem Rr{l:Expr}{tl:TE}(hl:PE X l tl):PI X tg l (Iu X.K tl):=by
 intro pins s σ H R I h
 refine bf (hl pins s σ H _ I h) λv s1 ⟨x,H1,I1,r1,q1⟩=>?_
 obtain⟨a,e,⟨xs,hq⟩,q⟩:=q1
 subst e
 cases r1
 obtain⟨its,rv,p,hz⟩:=I1.tuple hq
 refine wpAny_pyIter_tuple (show s1.heap.IsTuple a its.toArray from p) ?_
 refine⟨s1.heap.objs.size,[s1.heap.objs.size],_,_,H1,rfl,I1.kept (t':=s1.toks) λb o e=>Heap.get?_push_of_some _ e,Rn a _,⟨_,Heap.get?_push_size _ rfl,rfl,rfl⟩,λb hb=>?_,q⟩
 have e:b=s1.heap.objs.size:=by simpa using hb
 subst e
 exact I1.wF (Nat.le_refl _) (I1.hok.fresh (Nat.le_refl _))
theorem Rt{pins:List (Addr × Obj)}{σ : St}{H:Hp}{s:Shared}{R:It->Hp->Prop}{E:Value->Shared->Prop}{lo hi:Int}{t u v:Tok}{tk:Nat}(I:Inv X pins σ H s)(h1 : -(2 ^ 62)<=lo)(h2:lo<2 ^ 62)(h3 : -(2 ^ 62)<=hi)(h4:hi<2 ^ 62)
  (q:R (wG lo (hi-lo).toNat) H):wpAny (model X.prog X.w) X.A (pyIter (.ref s.heap.objs.size)) (PIE X pins σ tg R) E {s with heap:=s.heap.push {cls:=.type "range",data:=.fields #[.int lo t,.int hi u,.int 1 v] },toks:=tk }:=by
 refine wpAny_pyIter_range (IsRange.new ..) (small_one h1 h2 h3 h4) ?_
 have I1:Inv X pins σ H {s with heap:=s.heap.push {cls:=.type "range",data:=.fields #[.int lo t,.int hi u,.int 1 v] },toks:=tk }:=I.kept λb o e=>Heap.get?_push_of_some _ e
 refine⟨(s.heap.push {cls:=.type "range",data:=.fields #[.int lo t,.int hi u,.int 1 v] }).objs.size,[(s.heap.push {cls:=.type "range",data:=.fields #[.int lo t,.int hi u,.int 1 v] }).objs.size],_,_,H,rfl,
  I1.kept (t':=tk) λb o e=>Heap.get?_push_of_some _ e,Ro _ lo (hi-lo).toNat,?_,λb hb=>?_,q⟩
 ·have e1:lo+((0:Nat):Int)*1=lo:=by simp
  have e2:(((hi-lo).toNat:Nat):Int)-((0:Nat):Int)=Builtin.Range.rangeSize lo hi 1:=by rw[rangeSize_one]; split <;> omega
  show IsRangeIter _ _ (lo+((0:Nat):Int)*1) ((((hi-lo).toNat:Nat):Int)-((0:Nat):Int)) 1
  rw[e1,e2]
  exact Heap.get?_push_size _ rfl
 ·have e:b=(s.heap.push {cls:=.type "range",data:=.fields #[.int lo t,.int hi u,.int 1 v] }).objs.size:=by simpa using hb
  subst e
  exact I1.wF (Nat.le_refl _) (I1.hok.fresh (Nat.le_refl _))
def Ac(ta:TA):TI:=λσ H R=>ta σ H λvs H1=>∃j:Int,vs=[.int j] /\ -(2 ^ 62)<=j/\j<2 ^ 62/\R (wG 0 j.toNat) H1
theorem Rw{a:Expr}{ta:TA}{p pos:Pos}(hg:Gl X "range") (hm:X.mg "range" = none) (ha:PA X [a] ta) (hs:starEach [a] X.env=[(false,eval a X.env)]:=by rfl):PI X tg (.Call (.Name "range" p) [a] [] pos) (Ac ta):=by
 intro pins s σ H R I h
 refine Call_ (uw I hg hm boot_range (PyProof.Rows.callWith_type1 (bf (ha pos pins s σ H _ I h) λus s1 ⟨vs,H1,I1,r1,q1⟩=>?_) hs rfl))
 obtain⟨j,e,q1,q2,q⟩:=q1
 subst e
 cases r1 with
 |cons r rr =>
  cases rr
  obtain⟨t,rfl⟩:=r
  exact call_range_1 (Rt I1 (by omega) (by omega) q1 q2 (by simpa using q))
noncomputable def Iv(wi:TI)(g:TG)(tb:TS):TS:=λD σ H=>wi σ H λJ H1=>∃W:Nat->Nat->St->Hp->Prop,(∃m,W 0 m σ H1)/\∀i m σ H,W i m σ H ->
 (J.stop i H/\D.nx σ H)\/(J.go i H/\∃N:St->Hp->Prop,(∀σ' H',N σ' H'->∃m',m'<m/\W (i+1) m' σ' H')/\∀x H',J.rR i H x H'->g x σ H' λσ2 H2=>tb {D with nx:=N,ct:=N,bk:=D.nx } σ2 H2)
def wH(fp:List Addr)(h:Heap):List (Addr × Obj):=fp.filterMap λb=>(h.get? b).map λo=>(b,o)
theorem wI{fp:List Addr}{h:Heap}{b:Addr}{o:Obj}(hb:b∈fp)(e:h.get? b=some o):(b,o)∈wH fp h:=List.mem_filterMap.mpr ⟨b,hb,by rw[e]; rfl⟩
theorem Ry{fp:List Addr}{h:Heap}{p:Addr × Obj}(hp:p∈wH fp h):p.1∈fp/\h.get? p.1=some p.2:=by
 obtain⟨b,hb,e⟩:=List.mem_filterMap.mp hp
 cases q:h.get? b with
 |none=>rw[q]at e; cases e
 |some o =>
  rw[q]at e
  have e':(b,o)=p:=Option.some.inj e
  subst e'
  exact⟨hb,q⟩
theorem Inv.pinned{pins:List (Addr × Obj)}{σ : St}{H:Hp}{s:Shared}{fp:List Addr}(I:Inv X pins σ H s)(hf:∀b∈fp,lA X pins H b)(ho:∀b∈fp,∃o,s.heap.get? b=some o/\∀v,o.data ≠ .cell v):Inv X (pins++wH fp s.heap) σ H s :=
 I.Hx λp hp=>(List.mem_append.mp hp).elim (λz=>I.pin p (List.mem_append_right _ z)) λz=>by
  obtain⟨hb,e⟩:=Ry z
  obtain⟨f0,f1,f2,_⟩:=hf p.1 hb
  obtain⟨o,e',d⟩:=ho p.1 hb
  rw[e]at e'; cases e'
  exact⟨e,f0,f1,f2,d⟩
theorem Inv.wJ{pins pl:List (Addr × Obj)}{σ : St}{H:Hp}{s:Shared}(I:Inv X (pins++pl) σ H s):Inv X pins σ H s:=I.Hx λp hp=>I.pin p (List.mem_append_right _ (List.mem_append_left _ hp))
theorem wK{iter:Expr}{body:List Stmt}{wi:TI}{g:TG}{tb:TS}{pos:Pos}(hp:PassesOwn (model X.prog X.w) X.A X.env X.xe)(hc:X.calm=true)(hi:PI X tg iter wi)(hg:PG X tg g)(hb:iB X body tb)
  (hs:∀x,foldedSetIterable iter X.env x=pure x:=by intro _; rfl):PS X (.For tg iter body [] pos) (Iv wi g tb):=by
 refine⟨λpins s σ H D I h=>?_⟩
 refine wpAny_For (bf (hi pins s σ H _ I h) λv s1 h1=>bf h1 λitv s2 h2=>?_) hs
 obtain⟨it,fp,tn,J,H2,e,I2,T,st2,f2,W,⟨m0,w0⟩,turn⟩:=h2
 subst e
 -- what stays true of the iterator's objects through the loop
 have stat:∀{H':Hp},(∀b∈fp,H' b=none)->∀b∈fp,lA X pins H' b:=λhn b hb=>⟨hn b hb,(f2 b hb).2⟩
 refine codeAny_forLoop_any (λn s'=>∃i σ' H',Inv X pins σ' H' s'/\tn i s'.heap/\(∀b∈fp,H' b=none)/\W i n σ' H') ?_ m0 ⟨0,σ,H2,I2,st2,λb hb=>(f2 b hb).1,w0⟩
 rintro n s3 ⟨i,σ3,H3,I3,st3,Iw,w3⟩
 rcases turn i n σ3 H3 w3 with⟨stop,qn⟩|⟨go,N,hN,step⟩
 ·refine wpAny_passesOwn hp (bf (T.done X rfl rfl rfl hc i pins s3 σ3 H3 X.xe I3 (stat Iw) st3 stop) λr s4 ⟨hr,I4⟩=>?_)
  subst hr
  exact wpAny_execs_nil ⟨σ3,H3,I4,qn⟩
 ·refine wpAny_passesOwn hp (bf (T.item X rfl rfl rfl hc i pins s3 σ3 H3 X.xe I3 (stat Iw) st3 go) λr s4 ⟨u,hr,h4⟩=>?_)
  subst hr
  refine wpAny_passesOwn hp (bf h4 λ_ s5 ⟨x,H5,I5,r5,y5,lX,wL⟩=>?_)
  have Rz:=I5.pinned (stat wL) (T.obj _ _ lX)
  refine wpAny_passesOwn hp (bf (hg _ s5 σ3 H5 x u _ Rz r5 (step x H5 y5)) λ_ s6 ⟨σ6,H6,I6,q6⟩=>?_)
  refine wpAny_passesOwn hp (bf (hb _ s6 σ6 H6 _ I6 q6) λf s7 q7=>?_)
  have again:∀{σ7:St} {H7:Hp},Inv X (pins++wH fp s5.heap) σ7 H7 s7->N σ7 H7->∃m,m<n/\∃i σ' H',Inv X pins σ' H' s7/\tn i s7.heap/\(∀b∈fp,H' b=none)/\W i m σ' H':=λ{σ7 H7} I7 n7=>by
   obtain⟨m',hm,w7⟩:=hN σ7 H7 n7
   refine⟨m',hm,i+1,σ7,H7,I7.wJ,T.keep _ _ _ lX λb hb o e=>(I7.pin (b,o) (List.mem_append_right _ (List.mem_append_right _ (wI hb e)))).1,λb hb=>?_,w7⟩
   obtain⟨o,e,d⟩:=T.obj _ _ lX b hb
   exact(I7.pin (b,o) (List.mem_append_right _ (List.mem_append_right _ (wI hb e)))).2.1
  cases f with
  |next=>obtain⟨σ7,H7,I7,n7⟩:=q7; exact again I7 n7
  |cont=>obtain⟨σ7,H7,I7,n7⟩:=q7; exact again I7 n7
  |brk=>obtain⟨σ7,H7,I7,q7⟩:=q7; exact⟨σ7,H7,I7.wJ,q7⟩
  |ret v=>obtain⟨x7,σ7,H7,I7,r7,q7⟩:=q7; exact⟨x7,σ7,H7,I7.wJ,r7,q7⟩
end
end L2
namespace L2
open PySem PySem.Spec PyProof.Rows
abbrev R2:=V->V->Hp->VK->Prop
noncomputable def cH(X:Cx)(f:Value->Value->Sem Value)(r:R2):Prop :=
 ∀(pins:List (Addr × Obj)) (s:Shared) (σ : St) (H:Hp) (x y:V) (v u:Value) (Q:VK),Inv X pins σ H s->RelV x v->RelV y u->r x y H Q ->
  wpAny (model X.prog X.w) X.A (f v u) (EP X pins σ Q) X.xe s
def Ad(X:Cx)(f:Value->Sem Value)(r:V->Hp->VK->Prop):Prop :=
 ∀(pins:List (Addr × Obj)) (s:Shared) (σ : St) (H:Hp) (x:V) (v:Value) (Q:VK),Inv X pins σ H s->RelV x v->r x H Q ->
  wpAny (model X.prog X.w) X.A (f v) (EP X pins σ Q) X.xe s
noncomputable def eF(X:Cx)(f:Value)(r:List V->Hp->VK->Prop):Prop :=
 ∀(pins:List (Addr × Obj)) (s:Shared) (σ : St) (H:Hp) (xs:List V) (us:List Value) (Q:VK),Inv X pins σ H s->Vals xs us->r xs H Q ->
  wpAny (model X.prog X.w) X.A (call f us) (EP X pins σ Q) X.xe s
noncomputable def RB(X:Cx)(r:V->Hp->(Bool->Hp->Prop)->Prop):Prop :=
 ∀(pins:List (Addr × Obj)) (s:Shared) (σ : St) (H:Hp) (x:V) (v:Value) (Q:Bool->Hp->Prop),Inv X pins σ H s->RelV x v->r x H Q ->
  wpAny (model X.prog X.w) X.A (truthy v) (TP X pins σ Q) X.xe s
def eG(r:R2)(ta tb:TE):TE:=λσ H Q=>ta σ H λx H1=>tb σ H1 λy H2=>r x y H2 Q
def wM(r:V->Hp->VK->Prop)(ta:TE):TE:=λσ H Q=>ta σ H λx H1=>r x H1 Q
def rI(C:Int->Int->Prop)(g:Int->Int->V):R2:=λx y H Q=>∃i j,x=.int i/\y=.int j/\C i j/\Q (g i j) H
def f9(g:Int->Int->V):R2:=λx y H Q=>∃i j,x=.int i/\y=.int j/\Q (g i j) H
def rU(g:Int->V):V->Hp->VK->Prop:=λx H Q=>∃i,x=.int i/\Q (g i) H
section
variable {X:Cx}{a b c:Expr}{ta tb tc:TE}{pos:Pos}
theorem Ae(ha:PE X a ta)(hb:PE X b tb){pins:List (Addr × Obj)}{s:Shared}{σ : St}{H:Hp}{R:V->V->Hp->Prop}(I:Inv X pins σ H s)
  (h:ta σ H λx H1=>tb σ H1 λy H2=>R x y H2) {Q:Value->Shared->Prop} {f:Value->Value->Sem Value}
  (hf:∀v u s2 x y H2,Inv X pins σ H2 s2->RelV x v->RelV y u->R x y H2->wpAny (model X.prog X.w) X.A (f v u) Q X.xe s2) :
  wpAny (model X.prog X.w) X.A (eval a X.env) (λv s₁=>wpAny (model X.prog X.w) X.A (eval b X.env) (λu s₂=>wpAny (model X.prog X.w) X.A (f v u) Q X.xe s₂) X.xe s₁) X.xe s:=by
 refine bf (ha pins s σ H _ I h) λv s1 ⟨x,H1,I1,r1,q1⟩=>?_
 refine bf (hb pins s1 σ H1 _ I1 q1) λu s2 ⟨y,H2,I2,r2,q2⟩=>?_
 exact hf v u s2 x y H2 I2 r1 r2 q2
theorem cu{op:Operator}{r:R2}(ho:cH X (binaryOp op) r)(ha:PE X a ta)(hb:PE X b tb):PE X (.BinOp a op b pos) (eG r ta tb):=by
 refine⟨λpins s σ H Q I h=>?_⟩
 exact wpAny_BinOp (Ae ha hb I h λv u s2 x y H2 I2 rx ry q=>ho pins s2 σ H2 x y v u Q I2 rx ry q)
theorem RD{op:UnaryOp}{r:V->Hp->VK->Prop}(ho:Ad X (unaryOp op) r)(ha:PE X a ta):PE X (.UnaryOp op a pos) (wM r ta):=by
 refine⟨λpins s σ H Q I h=>?_⟩
 exact UnaryOp_ (bf (ha pins s σ H _ I h) λv s1 ⟨x,H1,I1,r1,q1⟩=>ho pins s1 σ H1 x v Q I1 r1 q1)
theorem wN{f:Value->Value->Sem Value}{C:Int->Int->Prop}{g:Int->Int->Int}
  (rule:∀(i j:Int) (t u:Tok) (s:Shared) (Q:Value->Shared->Prop) (E:Value->Shared->Prop),C i j->Q (.int (g i j) s.toks) {s with toks:=s.toks+1 }->wpAny (model X.prog X.w) X.A (f (.int i t) (.int j u)) Q E s) :
  cH X f (rI C λi j=>.int (g i j)):=by
 intro pins s σ H x y v u Q I rx ry h
 obtain⟨i,j,rfl,rfl,hc,q⟩:=h
 obtain⟨t,rfl⟩:=rx
 obtain⟨t',rfl⟩:=ry
 exact rule i j t t' s _ _ hc ⟨.int (g i j),H,I.tok _,⟨_,rfl⟩,q⟩
theorem Iz{f:Value->Value->Sem Value}{g:Int->Int->Int}
  (rule:∀(i j:Int) (t u:Tok) (s:Shared) (Q:Value->Shared->Prop) (E:Value->Shared->Prop),Q (.int (g i j) s.toks) {s with toks:=s.toks+1 }->wpAny (model X.prog X.w) X.A (f (.int i t) (.int j u)) Q E s) :
  cH X f (f9 λi j=>.int (g i j)):=by
 intro pins s σ H x y v u Q I rx ry h
 obtain⟨i,j,rfl,rfl,q⟩:=h
 obtain⟨t,rfl⟩:=rx
 obtain⟨t',rfl⟩:=ry
 exact rule i j t t' s _ _ ⟨.int (g i j),H,I.tok _,⟨_,rfl⟩,q⟩
theorem wO{f:Value->Value->Sem Value}{g:Int->Int->Bool}
  (rule:∀(i j:Int) (t u:Tok) (s:Shared) (Q:Value->Shared->Prop) (E:Value->Shared->Prop),Q (.bool (g i j)) s->wpAny (model X.prog X.w) X.A (f (.int i t) (.int j u)) Q E s) :
  cH X f (f9 λi j=>.bl (g i j)):=by
 intro pins s σ H x y v u Q I rx ry h
 obtain⟨i,j,rfl,rfl,q⟩:=h
 obtain⟨t,rfl⟩:=rx
 obtain⟨t',rfl⟩:=ry
 exact rule i j t t' s _ _ ⟨.bl (g i j),H,I,rfl,q⟩
def Af(i j:Int):Prop:=0<=j/\j<=1000000/\i.natAbs<2 ^ 64
theorem IK:cH X (binaryOp .Add) (f9 λi j=>.int (i+j)):=Iz λ_ _ _ _ _ _ _ q=>add_int q
theorem rT:cH X (binaryOp .Sub) (f9 λi j=>.int (i-j)):=Iz λ_ _ _ _ _ _ _ q=>sub_int q
theorem pY:cH X (binaryOp .Mod) (rI (λ_ j=>j≠0) λi j=>.int (i.fmod j)):=wN λ_ _ _ _ _ _ _ hc q=>mod_int' hc q
theorem Ag:cH X (binaryOp .Pow) (rI Af λi j=>.int (i ^ j.toNat)):=wN λ_ _ _ _ _ _ _ hc q=>pow_int_small hc.1 hc.2.1 hc.2.2 q
theorem RG{f:Value->Sem Value}{g:Int->Int}
  (rule:∀(i:Int) (t:Tok) (s:Shared) (Q:Value->Shared->Prop) (E:Value->Shared->Prop),Q (.int (g i) s.toks) {s with toks:=s.toks+1 }->wpAny (model X.prog X.w) X.A (f (.int i t)) Q E s) :
  Ad X f (rU λi=>.int (g i)):=by
 intro pins s σ H x v Q I rx h
 obtain⟨i,rfl,q⟩:=h
 obtain⟨t,rfl⟩:=rx
 exact rule i t s _ _ ⟨.int (g i),H,I.tok _,⟨_,rfl⟩,q⟩
theorem RJ:Ad X (unaryOp .USub) (rU λi=>.int (-i)):=RG λ_ _ _ _ _ q=>neg_int q
end
section
variable {X:Cx}{a b c:Expr}{ta tb tc:TE}{pos:Pos}
theorem RK{pins:List (Addr × Obj)}{σ : St}{H:Hp}{s:Shared}{Q:VK}{k k':Bool}(I:Inv X pins σ H s)(q:Q (.bl k) H)(e:k=k'):EP X pins σ Q (.bool k') s:=by
 subst e
 exact⟨.bl k,H,I,rfl,q⟩
theorem RL:cH X (compareOp .Lt) (f9 λi j=>.bl (decide (i<j))):=wO λ_ _ _ _ _ _ _ q=>lt_int q
theorem IV:cH X (compareOp .LtE) (f9 λi j=>.bl (decide (i<=j))):=wO λ_ _ _ _ _ _ _ q=>le_int q
theorem RM:cH X (compareOp .Gt) (f9 λi j=>.bl (decide (j<i))):=wO λ_ _ _ _ _ _ _ q=>gt_int q
theorem Ah:cH X (compareOp .GtE) (f9 λi j=>.bl (decide (j<=i))):=wO λ_ _ _ _ _ _ _ q=>ge_int q
theorem IW:cH X (compareOp .Is) (λx y H Q=>y=.non/\Q (.bl (decide (x=.non))) H):=by
 intro pins s σ H x y v u Q I rx ry h
 obtain⟨rfl,q⟩:=h
 cases ry
 refine is_none_gen (RK I q ?_)
 cases x <;> first
  |(cases rx; rfl)
  |(obtain⟨t,rfl⟩:=rx; rfl)
theorem cH.or{f:Value->Value->Sem Value}{r r':R2}(h:cH X f r)(h':cH X f r'):cH X f (λx y H Q=>r x y H Q\/r' x y H Q):=by
 intro pins s σ H x y v u Q I rx ry q
 rcases q with q|q
 ·exact h pins s σ H x y v u Q I rx ry q
 ·exact h' pins s σ H x y v u Q I rx ry q
theorem cg(b:Expr){op:CmpOp}(h:op ≠ .In:=by decide)(h2:op ≠ .NotIn:=by decide):behindInMarks op b=false:=by
 have e1:(op == CmpOp.In)=false:=by cases op <;> first|rfl|exact absurd rfl h
 have e2:(op == CmpOp.NotIn)=false:=by cases op <;> first|rfl|exact absurd rfl h2
 cases b <;> simp[behindInMarks,e1,e2]
theorem oH{op:CmpOp}{r:R2}(ho:cH X (compareOp op) r)(ha:PE X a ta)(hb:PE X b tb)(hm:behindInMarks op b=false):PE X (.Compare a [op] [b] pos) (eG r ta tb):=by
 refine⟨λpins s σ H Q I h=>?_⟩
 exact wpAny_Compare1 (Ae ha hb I h λv u s2 x y H2 I2 rx ry q=>ho pins s2 σ H2 x y v u Q I2 rx ry q) hm
def Ja(t:TE):TT:=λσ H Q=>t σ H λx H'=>∃k,x=.bl k/\Q k H'
theorem cC{op:CmpOp}{r:R2}(ho:cH X (compareOp op) r)(ha:PE X a ta)(hb:PE X b tb)(hm:behindInMarks op b=false):PT X (.Compare a [op] [b] pos) (Ja (eG r ta tb)):=by
 refine⟨λpins s σ H Q I h=>?_⟩
 refine wpAny_isTrue_Compare1 (bf (ha pins s σ H _ I h) λv s1 ⟨x,H1,I1,r1,q1⟩=>bf (hb pins s1 σ H1 _ I1 q1) λu s2 ⟨y,H2,I2,r2,q2⟩ =>
  bf (ho pins s2 σ H2 x y v u _ I2 r1 r2 q2) λc s3 ⟨z,H3,I3,r3,k,e,q3⟩=>?_) hm
 subst e
 cases r3
 exact wpAny_truthy_bool ⟨H3,I3,q3⟩
def Ai(r r':R2)(ta tb tc:TE):TE:=λσ H Q=>ta σ H λx H1=>tb σ H1 λy H2=>r x y H2 λz H3=>∃k,z=.bl k /\
 (if k=true then tc σ H3 λw' H4=>r' y w' H4 Q else Q (.bl false) H3)
theorem RN{op op':CmpOp}{r r':R2}(ho:cH X (compareOp op) r)(ho':cH X (compareOp op') r')(ha:PE X a ta)(hb:PE X b tb)(hc:PE X c tc)
  (hm:lastMarks [op,op'] [b,c]=false:=by with_unfolding_all rfl):PE X (.Compare a [op,op'] [b,c] pos) (Ai r r' ta tb tc):=by
 refine⟨λpins s σ H Q I h=>?_⟩
 refine Compare_chain (bf (ha pins s σ H _ I h) λv s1 ⟨x,H1,I1,r1,q1⟩=>chain_link (bf (hb pins s1 σ H1 _ I1 q1) λu s2 ⟨y,H2,I2,r2,q2⟩ =>
  bf (ho pins s2 σ H2 x y v u _ I2 r1 r2 q2) λd s3 ⟨z,H3,I3,r3,k,e,q3⟩=>?_)) hm
 subst e
 cases r3
 refine wpAny_truthy_bool ?_
 cases k with
 |false=>exact ite_ff ⟨.bl false,H3,I3,rfl,q3⟩
 |true=>exact ite_tt (chain_last (bf (hc pins s3 σ H3 _ I3 q3) λw' s4 ⟨z',H4,I4,r4,q4⟩=>ho' pins s4 σ H4 y z' u w' Q I4 r2 r4 q4))
noncomputable def uz(K:FZ)(x:V)(H:Hp)(k:Bool):Prop :=
 match x with
 |.non=>k=false
 |.bl b=>k=b
 |.int i=>k=(i != 0)
 |.str y=>y.length<=sizeLine/\k=((y.length:Int) != 0)
 |.uq y=>y.size<=sizeLine/\k=((y.size:Int) != 0)
 |.ref p=>(∃xs,bG K H p xs/\k = !xs.isEmpty)\/(∃xs,cj K H p xs/\k = !xs.isEmpty)\/∃kvs,H p=some (.dK kvs)/\k = !kvs.isEmpty
 |_=>False
theorem RP{κ : Type}{kvs:List (κ × V)}{vs:List (κ × Value)}(r:KV kvs vs):(!vs.isEmpty) = !kvs.isEmpty:=by
 cases r <;> rfl
theorem Jb{xs:List V}{its:List Value}(r:Vals xs its):(!its.toArray.isEmpty) = !xs.isEmpty:=by
 cases r <;> simp
theorem pZ:(sizeLine:Nat)<2 ^ 63:=by rw[sizeLine_eq]; decide
theorem RQ:RB X (λx H Q=>∃k,uz X.K x H k/\Q k H):=by
 intro pins s σ H x v Q I rx h
 obtain⟨k,e,q⟩:=h
 have hl:=pZ
 have hs:sizeLine=16777216:=sizeLine_eq
 cases x with
 |non =>
  cases rx
  have e':k=false:=e
  subst e'
  exact truthy_none ⟨H,I,q⟩
 |bl b =>
  cases rx
  have e':k=b:=e
  subst e'
  exact wpAny_truthy_bool ⟨H,I,q⟩
 |int i =>
  obtain⟨t,rfl⟩:=rx
  have e':k=(i != 0):=e
  subst e'
  exact PySem.P.truthy_int ⟨H,I,q⟩
 |str y =>
  obtain⟨t,rfl⟩:=rx
  obtain⟨hy,e'⟩:y.length<=sizeLine/\k=((y.length:Int) != 0):=e
  subst e'
  exact PySem.P.truthy_str (by omega) ⟨H,I.tok _,q⟩
 |uq y =>
  obtain⟨t,rfl⟩:=rx
  obtain⟨hy,e'⟩:y.size<=sizeLine/\k=((y.size:Int) != 0):=e
  subst e'
  exact PySem.W.truthy_bytes (by omega) ⟨H,I.tok _,q⟩
 |ref p =>
  cases rx
  have e':(∃xs,bG X.K H p xs/\k = !xs.isEmpty)\/(∃xs,cj X.K H p xs/\k = !xs.isEmpty)\/∃kvs,H p=some (.dK kvs)/\k = !kvs.isEmpty:=e
  rcases e' with⟨xs,hx,e'⟩|⟨xs,hx,e'⟩|⟨kvs,hx,e'⟩
  ·subst e'
   obtain⟨its,r,pl,hz⟩:=I.list hx
   have hlen:=r.length
   exact wpAny_truthy_list pl.isList (by simp only[List.size_toArray]; omega) ⟨H,I.tok _,by rw[Jb r]; exact q⟩
  ·subst e'
   obtain⟨its,r,pl,hz⟩:=I.tuple hx
   have hlen:=r.length
   exact truthy_tuple pl (by simp only[List.size_toArray]; omega) ⟨H,I.tok _,by rw[Jb r]; exact q⟩
  ·subst e'
   obtain⟨hz,hS,vs,r,m⟩:kvs.length<=sizeLine/\(p == sysModules)=false/\∃vs,KV kvs vs/\s.heap.DictOf (zO X.prog X.w) p vs:=I.hok p _ hx
   have hlen:kvs.length=vs.length:=Paired.length r
   exact wpAny_truthy_dict hS m (by omega) ⟨H,I.tok _,by rw[RP r]; exact q⟩
 |_=>exact(show False from e).elim
theorem eH(ha:PE X a ta)(he:∀whole,isTrue a X.env whole=(do let v <-whole; standAt a.pos; holding [v] (truthy v))) :
  PT X a (λσ H Q=>ta σ H λx H'=>∃k,uz X.K x H' k/\Q k H'):=by
 refine⟨λpins s σ H Q I h=>?_⟩
 exact isTrue_plain (bf (ha pins s σ H _ I h) λv s1 ⟨x,H1,I1,r1,q1⟩=>RQ pins s1 σ H1 x v Q I1 r1 q1) (he _)
theorem RT:cH X (binaryOp .Add) (λx y H Q=>∃i j,x=.str i/\y=.str j/\i.length+j.length<=sizeLine/\Q (.str (i++j)) H):=by
 intro pins s σ H x y v u Q I rx ry h
 obtain⟨i,j,rfl,rfl,hz,q⟩:=h
 obtain⟨t,rfl⟩:=rx
 obtain⟨t',rfl⟩:=ry
 exact add_str (λt' tk=>⟨.str (i++j),H,I.tok _,⟨_,rfl⟩,q⟩) hz
theorem vals1{x:V}{us:List Value}(r:Vals [x] us):∃u,us=[u]/\RelV x u:=by
 cases r with
 |cons r1 r2=>cases r2; exact⟨_,rfl,r1⟩
theorem vals2{x y:V}{us:List Value}(r:Vals [x,y] us):∃u w',us=[u,w']/\RelV x u/\RelV y w':=by
 cases r with
 |cons r1 r2 =>
  cases r2 with
  |cons r3 r4=>cases r4; exact⟨_,_,rfl,r1,r3⟩
theorem Jc:eF X (.builtin "abs") (λxs H Q=>∃i,xs=[.int i]/\Q (.int (if i<0 then -i else i)) H):=by
 intro pins s σ H xs us Q I r h
 obtain⟨i,rfl,q⟩:=h
 obtain⟨u,rfl,t,rfl⟩:=vals1 r
 exact call_abs_int λu tk=>⟨.int (if i<0 then -i else i),H,I.tok _,⟨_,rfl⟩,q⟩
theorem RV(hc:X.calm=true):eF X (.builtin "max") (λxs H Q=>∃i j,xs=[.int i,.int j]/\Q (.int (if j > i then j else i)) H):=by
 intro pins s σ H xs us Q I r h
 obtain⟨i,j,rfl,q⟩:=h
 obtain⟨u,w',rfl,⟨t,rfl⟩,⟨t',rfl⟩⟩:=vals2 r
 refine max_two_ints (I.ok.hd hc) λh' tk k=>⟨_,H,I.kept k,?_,q⟩
 by_cases hj:j > i
 ·rw[if_pos hj,if_pos hj]; exact⟨_,rfl⟩
 ·rw[if_neg hj,if_neg hj]; exact⟨_,rfl⟩
theorem RW(hc:X.calm=true):eF X (.builtin "min") (λxs H Q=>∃i j,xs=[.int i,.int j]/\Q (.int (if j<i then j else i)) H):=by
 intro pins s σ H xs us Q I r h
 obtain⟨i,j,rfl,q⟩:=h
 obtain⟨u,w',rfl,⟨t,rfl⟩,⟨t',rfl⟩⟩:=vals2 r
 refine min_two_ints (I.ok.hd hc) λh' tk k=>⟨_,H,I.kept k,?_,q⟩
 by_cases hj:j<i
 ·rw[if_pos hj,if_pos hj]; exact⟨_,rfl⟩
 ·rw[if_neg hj,if_neg hj]; exact⟨_,rfl⟩
theorem Jd:eF X (.type "int") (λxs H Q=>(∃i,xs=[.int i]/\Q (.int i) H)\/∃k,xs=[.bl k]/\Q (.int (if k then 1 else 0)) H):=by
 intro pins s σ H xs us Q I r h
 rcases h with⟨i,rfl,q⟩|⟨k,rfl,q⟩
 ·obtain⟨u,rfl,t,rfl⟩:=vals1 r
  exact call_int_int ⟨.int i,H,I,⟨_,rfl⟩,q⟩
 ·obtain⟨u,rfl,r1⟩:=vals1 r
  cases r1
  exact call_int_bool ⟨.int (if k then 1 else 0),H,I.tok _,⟨_,rfl⟩,q⟩
end
end L2
namespace L2
open PySem PySem.Spec PyProof.Rows
section
variable {prog:Program}{w:World}{A:Around}{E:Value->Shared->Prop}{s:Shared}{K:FZ}{x dx C f:Addr}{mA:Str->Option Value}{name:Str}{v:Value}
end
section
variable {P:Program}{w:World}{H H':Hp}{h h':Heap}{a C dx:Addr}{fs fs':List (Str × V)}
end
section
variable {X:Cx}{pins:List (Addr × Obj)}{σ : St}{H:Hp}{s:Shared}{a C dx:Addr}{fs:List (Str × V)}{f:Str}{v:V}{A:Around}{E:Value->Shared->Prop}
end
section
variable {X:Cx}{o e value:Expr}{f:Str}{pos pos' tpos:Pos}{ta tv:TE}
end
section
variable {X:Cx}{pins:List (Addr × Obj)}{σ : St}{H:Hp}{s:Shared}{A:Around}{E:Value->Shared->Prop}{Q:Value->Shared->Prop}{c:Value}{b:Bool}
end
end L2
namespace L2
open PySem PySem.Spec PyProof.Rows
structure dN(k:Nat)(A:Around):Prop where
 hd:A.handled=none
 dp:A.depth+3*k+5<recursionLimit
 un:A.units+16*k+200<cLine
 gd:A.guards=some []:=by rfl
theorem dN.mono{j k:Nat}{A:Around}(r:dN k A)(h:j<=k):dN j A:=⟨r.hd,by have:=r.dp; omega,by have:=r.un; omega,r.gd⟩
theorem dN.deeper{k:Nat}{A:Around}(r:dN (k+1) A)(env:Env):dN k (A.deeper env) :=
 ⟨r.hd,by have:=r.dp; show A.depth+1+3*k+5<_; omega,by have:=r.un; show A.units+3+16*k+200<_; omega,r.gd⟩
theorem dN.depth{k:Nat}{A:Around}(r:dN k A):A.depth<recursionLimit:=by have:=r.dp; omega
theorem dN.units{k:Nat}{A:Around}(r:dN k A):A.units+64<cLine:=by have:=r.un; omega
def jV:TA:=λ_ H Q=>Q [] H
def gD(ta:TE)(tr:TA):TA:=λσ H Q=>ta σ H λx H1=>tr σ H1 λxs H2=>Q (x::xs) H2
section
variable {X:Cx}{e:Expr}{es:List Expr}{te:TE}{t:TA}{pos:Pos}
theorem aM:PA X [] jV:=⟨λ_ _ _ _ H Q I h=>Calls.spliced_nil ⟨[],H,I,.nil,h⟩⟩
theorem uD(ha:PE X e te)(hr:PA X es t)(hs:starEach (e::es) X.env=(false,eval e X.env)::starEach es X.env:=by rfl):PA X (e::es) (gD te t):=by
 refine⟨λpos pins s σ H Q I h=>?_⟩
 rw[hs]
 show wpAny _ _ (spliced ((false,eval e X.env)::backTo pos (starEach es X.env))) _ _ s
 refine Calls.spliced_cons (bf (ha pins s σ H _ I h) λu s1 ⟨x,H1,I1,r1,q1⟩=>?_)
 exact bf (hr pos pins s1 σ H1 _ I1 q1) λus s2 ⟨xs,H2,I2,r2,q2⟩=>⟨x::xs,H2,I2,.cons r1 r2,q2⟩
def wQ(t:TA):TE:=λσ H Q=>t σ H λxs H1=>xs.length<=sizeLine/\∀p,H1 p=none->Q (.ref p) (upd H1 p (.tup xs))
def Je(t:TA):TE:=λσ H Q=>t σ H λxs H1=>xs.length<=sizeLine/\∀p,H1 p=none->Q (.ref p) (upd H1 p (.lst xs))
theorem m5{x1}(h:PA X es t):PE X (.Tuple es x1 pos) (wQ t):=by
 refine⟨λpins s σ H Q I hq=>?_⟩
 refine wpAny_Tuple_spliced (bf (h pos pins s σ H _ I hq) λus s1 ⟨xs,H1,I1,r,z,q⟩=>⟨by rw[<-r.length]; exact z,?_⟩)
 have hf:H1 s1.heap.objs.size=none:=I1.hok.fresh (Nat.le_refl _)
 refine⟨.ref s1.heap.objs.size,upd H1 s1.heap.objs.size (.tup xs),I1.laid (t':=s1.toks) (λb u e=>Heap.get?_push_of_some _ e) (Nat.le_refl _) ?_,rfl,q _ hf⟩
 exact⟨z,us,r,⟨_,Heap.get?_push_size _ rfl,rfl,_,rfl⟩⟩
theorem Aj(h:PA X es t):PE X (.List es pos) (Je t):=by
 refine⟨λpins s σ H Q I hq=>?_⟩
 refine wpAny_List_spliced (bf (h pos pins s σ H _ I hq) λus s1 ⟨xs,H1,I1,r,z,q⟩=>⟨by rw[<-r.length]; exact z,?_⟩)
 have hf:H1 s1.heap.objs.size=none:=I1.hok.fresh (Nat.le_refl _)
 refine⟨.ref s1.heap.objs.size,upd H1 s1.heap.objs.size (.lst xs),I1.laid (t':=s1.toks) (λb u e=>Heap.get?_push_of_some _ e) (Nat.le_refl _) ?_,rfl,q _ hf⟩
 exact⟨z,us,0,r,Heap.get?_push_size _ rfl⟩
end
abbrev Sp:=List V->Hp->VK->XK->Prop
abbrev jw:=List Env->Hp->Shared->XK->Value->Shared->Prop
structure wR(P:Program)(w:World)(K:FZ)(mg:Str->Option Value)(base:Heap)(A:Around)(outer:List Env)(s:Shared)(H:Hp):Prop where
 frames:A.frames=some outer
 mod:Mod K mg base
 bs:∀b o,base.get? b=some o->s.heap.get? b=some o/\H b=none
 pR:base.objs.size<=s.heap.objs.size
 jU:s.heap.FunFrames base outer
 pU:∀b∈frs outer,H b=none
 hok:dH P w H s.heap
 bare:AllBare s.gens
def CE(outer:List Env)(P:Program)(w:World)(H:Hp)(s:Shared)(Q:VK)(u:Value)(s':Shared):Prop :=
 ∃v H',s'.os=s.os/\AllBare s'.gens/\Un (frs outer) [] H H' s.heap s'.heap/\dH P w H' s'.heap/\RelV v u/\Q v H'
def CR(CX:jw)(outer:List Env)(P:Program)(w:World)(H:Hp)(s:Shared)(Q:VK)(E:XK)(r:Result)(s':Shared):Prop :=
 match r with
 |.ok (.ret u)=>CE outer P w H s Q u s'
 |.ok _=>False
 |.error e=>CX outer H s E e s'
structure jK(P:Program)(w:World)(K:FZ)(mg:Str->Option Value)(base:Heap)(CX:jw)(k:Nat)(f:Addr)(fd:FuncData)(ps:List Str)(sp:Sp):Prop where
 len:∀vs H Q E,sp vs H Q E->vs.length=ps.length
 run:∀(A:Around) (outer:List Env) (s:Shared) (H:Hp) (args:Args) (us:List Value) (vs:List V) (Q:VK) (E:XK),dN k A->wR P w K mg base A outer s H->BindsTo s fd args (ps.zip us)->Vals vs us->sp vs H Q E ->
  codeAny (model P w) A (.call (.ref f) args) (CR CX outer P w H s Q E) s
theorem jK.mono{P:Program}{w:World}{K:FZ}{mg:Str->Option Value}{base:Heap}{CX:jw}{j k:Nat}{f:Addr}{fd:FuncData}{ps:List Str}{sp:Sp}(F:jK P w K mg base CX j f fd ps sp)(h:j<=k) :
  jK P w K mg base CX k f fd ps sp:=⟨F.len,λA outer s H args us vs Q E hr=>F.run A outer s H args us vs Q E (hr.mono h)⟩
theorem jK.imp{P:Program}{w:World}{K:FZ}{mg:Str->Option Value}{base:Heap}{CX:jw}{k:Nat}{f:Addr}{fd:FuncData}{ps:List Str}{sp Jf:Sp}(F:jK P w K mg base CX k f fd ps sp)
  (h:∀vs H Q E,Jf vs H Q E->sp vs H Q E):jK P w K mg base CX k f fd ps Jf :=
 ⟨λvs H Q E q=>F.len vs H Q E (h _ _ _ _ q),λA outer s H args us vs Q E hr he hb hv hs=>F.run A outer s H args us vs Q E hr he hb hv (h _ _ _ _ hs)⟩
section
variable {X:Cx}{pins:List (Addr × Obj)}{σ : St}{H:Hp}{s s':Shared}
theorem Inv.env0(I:Inv X pins σ H s):wR X.prog X.w X.K X.mg X.base X.A X.stack s H :=
 ⟨I.ok.frames,I.ok.mod,I.bs,Nat.le_trans I.ok.pR I.sz,I.stack,I.zQ,I.hok,I.bare⟩
theorem Inv.after{Q:VK}{u:Value}(I:Inv X pins σ H s)(h:CE X.stack X.prog X.w H s Q u s'):EP X pins σ Q u s':=by
 obtain⟨v,H',os,bare,un,hok,r,q⟩:=h
 obtain⟨hh,g,d,t,os'⟩:=s'
 obtain rfl:os'=s.os:=os
 exact⟨v,H',I.call (h':=hh) (g':=g) (d':=d) (t':=t) (ch:=[]) un hok bare (λb z=>absurd z (by simp)),r,q⟩
end
def iD(sp:Sp)(oJ:List V)(E:XK)(t:TA):TE:=λσ H Q=>t σ H λvs H1=>sp (vs++oJ) H1 Q E
def Binds(K:FZ)(fd:FuncData)(ps:List Str)(ds:List Value):Prop :=
 ∀(s:Shared) (us:List Value),K.In s.heap->(us++ds).length=ps.length->BindsTo s fd ⟨us,[]⟩ (ps.zip (us++ds))
theorem Binds.all{K:FZ}{fd:FuncData}{ps:List Str}(h:∀us:List Value,us.length=ps.length->bindArgs fd ⟨us,[]⟩=pure (ps.zip us)):Binds K fd ps []:=λs us _ hl=>by
 rw[List.append_nil]at hl ⊢
 exact .of_eq (h us hl)
def Passes(CX:jw)(X:Cx)(E:XK):Prop:=∀(pins:List (Addr × Obj)) (σ : St) (H:Hp) (s:Shared) (e:Value) (s':Shared),Inv X pins σ H s->CX X.stack H s E e s'->X.xe e s'
section
variable {X:Cx}{CX:jw}{k:Nat}{f C:Addr}{fd:FuncData}{ps:List Str}{sp:Sp}{oJ:List V}{ds:List Value}{E:XK}{x m:Str}{p pos apos:Pos}{e o:Expr}{es:List Expr}{ta:TE}{t:TA}
theorem RX{pins:List (Addr × Obj)}{σ : St}{H:Hp}{s:Shared}{Q:VK}{us:List Value}{vs:List V}(F:jK X.prog X.w X.K X.mg X.base CX k f fd ps sp)(hr:dN k X.A)(hb:Binds X.K fd ps ds)(hd:Vals oJ ds)(hx:Passes CX X E)
  (I:Inv X pins σ H s) (r:Vals vs us) (h:sp (vs++oJ) H Q E):wpAny (model X.prog X.w) X.A (call (.ref f) us) (EP X pins σ Q) X.xe s:=by
 have r2:Vals (vs++oJ) (us++ds):=r.append hd
 have hl:(us++ds).length=ps.length:=by rw[<-r2.length]; exact F.len _ _ _ _ h
 refine wpAny_call (codeAny_mono (F.run X.A X.stack s H ⟨us,[]⟩ (us++ds) (vs++oJ) Q E hr I.env0 (hb s us I.ju hl) r2 h) λr s' hq=>?_)
 cases r with
 |error e=>exact hx pins σ H s e s' I hq
 |ok fl =>
  cases fl with
  |ret u=>exact I.after hq
  |next=>exact False.elim hq
  |brk=>exact False.elim hq
  |cont=>exact False.elim hq
theorem RZ(F:jK X.prog X.w X.K X.mg X.base CX k f fd ps sp)(hr:dN k X.A)(hg:Gl X x)(hm:X.mg x=some (.ref f))(hk:PySem.W.keepIn X.K (.ref f)=true)(hb:Binds X.K fd ps ds)(hd:Vals oJ ds)(hx:Passes CX X E)
  (ha:PA X (e::es) t) (hdb:(x == ("__debug__" : Str))=false:=by decide) (he:starEach (e::es) X.env=(false,eval e X.env)::starEach es X.env:=by rfl) (hpl:(backTo pos (starEach es X.env)).any (·.1)=false:=by rfl) :
  PE X (.Call (.Name x p) (e::es) [] pos) (iD sp oJ E t):=by
 refine⟨λpins s σ H Q I h=>?_⟩
 refine wpAny_Call_Name_kw (zR I hg hm ?_ hdb)
 refine PySem.W.callWith_K (h₀ := X.base) I.ok.mod.zP hk (bf (ha pos pins s σ H _ I h) λus s1 ⟨vs,H1,I1,r,q⟩=>⟨I1.ju,?_⟩) he hpl
 exact RX F hr hb hd hx I1 r q
end
section
variable {X:Cx}{CX:jw}{k:Nat}{f C:Addr}{fd:FuncData}{ps ks:List Str}{sp:Sp}{E:XK}{x m:Str}{p pos apos kpos:Pos}{e o:Expr}{es:List Expr}{kws:List Keyword}{te ta:TE}{t tk:TA}{nm:Option Str}
variable {g:List Value->List Value->List Value}{gV:List V->List V->List V}
end
structure oK(N P:List Str)(sc:Scope):Prop where
 kind:sc.kind=.function
 co:sc.isCoroutine=false
 gen:sc.isGenerator=false
 nd:N.Nodup
 pre:N.take P.length=P
 par:∀x∈P,sc.names.lookup x=some .local\/sc.names.lookup x=some .cell
 Ak:∀y∈sc.names,y.2 ≠ .free
theorem Jg{kindOf:Str->Option NameKind}{x:Str}:∀{binds:List (Str × Value)} {m:Str->Option Value},(∀v,(x,v)∉binds)->bindL kindOf binds m x=m x
 | [],_,_=>rfl
 |(n,v)::r,m,h=>by
  unfold bindL
  rw[Jg λw hw=>h w (List.mem_cons_of_mem _ hw)]
  split
  ·have:x≠n:=by rintro rfl; exact h v List.mem_cons_self
   simp[this]
  ·rfl
theorem Jh{kindOf:Str->Option NameKind}{x:Str}:∀{binds:List (Str × Value)} {m:Str->Option Value},(∀v,(x,v)∉binds)->bindC kindOf binds m x=m x
 | [],_,_=>rfl
 |(n,v)::r,m,h=>by
  unfold bindC
  rw[Jh λw hw=>h w (List.mem_cons_of_mem _ hw)]
  split
  ·rfl
  ·have:x≠n:=by rintro rfl; exact h v List.mem_cons_self
   simp[this]
theorem Ji{kindOf:Str->Option NameKind}{x:Str}{v:Value}:∀{P:List Str} {vs:List Value} {i:Nat} {m:Str->Option Value},P.Nodup->P[i]?=some x->vs[i]?=some v->kindOf x=some .local ->
  bindL kindOf (P.zip vs) m x=some v
 | [],_,_,_,_,h,_,_=>by simp at h
 |_::_,[],_,_,_,_,h,_=>by simp at h
 |p::P,w::vs,0,m,nd,h1,h2,hk=>by
  simp at h1 h2; subst h1; subst h2
  show bindL kindOf ((p,w)::P.zip vs) m p=_
  unfold bindL
  rw[Jg λv hv=>(List.nodup_cons.mp nd).1 (List.of_mem_zip hv).1,if_pos hk]
  simp
 |p::P,w::vs,i+1,m,nd,h1,h2,hk=>by
  show bindL kindOf ((p,w)::P.zip vs) m x=_
  unfold bindL
  exact Ji (i:=i) (List.nodup_cons.mp nd).2 (by simpa using h1) (by simpa using h2) hk
theorem Jj{kindOf:Str->Option NameKind}{x:Str}{v:Value}:∀{P:List Str} {vs:List Value} {i:Nat} {m:Str->Option Value},P.Nodup->P[i]?=some x->vs[i]?=some v->kindOf x≠some .local ->
  bindC kindOf (P.zip vs) m x=some v
 | [],_,_,_,_,h,_,_=>by simp at h
 |_::_,[],_,_,_,_,h,_=>by simp at h
 |p::P,w::vs,0,m,nd,h1,h2,hk=>by
  simp at h1 h2; subst h1; subst h2
  show bindC kindOf ((p,w)::P.zip vs) m p=_
  unfold bindC
  rw[Jh λv hv=>(List.nodup_cons.mp nd).1 (List.of_mem_zip hv).1,if_neg hk]
  simp
 |p::P,w::vs,i+1,m,nd,h1,h2,hk=>by
  show bindC kindOf ((p,w)::P.zip vs) m x=_
  unfold bindC
  exact Jj (i:=i) (List.nodup_cons.mp nd).2 (by simpa using h1) (by simpa using h2) hk
def start(N:List Str)(vs:List V):St:=vs.map some++List.replicate (N.length-vs.length) none
noncomputable def jx(CX:jw)(P:Program)(w:World)(K:FZ)(mg:Str->Option Value)(base:Heap)(N:List Str)(qual:Str)(scope:Scope)(f:Addr)(cd:Value)(A:Around)(outer:List Env)(s:Shared)(H:Hp)(E:XK):Cx where
 prog:=P
 w:=w
 K:=K
 mg:=mg
 base:=base
 A:=A.deeper (envOfC qual scope s.heap.objs.size f cd)
 N:=N
 s₀ := s
 H₀ := H
 env:=envOfC qual scope s.heap.objs.size f cd
 outer:=outer
 stack:=envOfC qual scope s.heap.objs.size f cd::outer
 ex:=[]
 calm:=true
 fn:=λ_=>true
 pn:=[]
 xe:=λe s'=>wpAny (model P w) (A.deeper (envOfC qual scope s.heap.objs.size f cd)) (leaving (envOfC qual scope s.heap.objs.size f cd) e) (λ_ s''=>CX outer H s E e s'') (λe' s''=>CX outer H s E e' s'') s'
theorem Jk{sc:Scope}{n:Nat}{x:Str}(h:sc.names.lookup x=some .cell):∃c,(cellsFrom n sc.names []).lookup x=some c:=by
 have q:=PySem.W.cellsFrom_some sc.names n [] (.inl h)
 exact Option.isSome_iff_exists.mp q
theorem R0{CX:jw}{P:Program}{w:World}{K:FZ}{mg:Str->Option Value}{base:Heap}{N ps:List Str}{qual:Str}{scope:Scope}{f:Addr}{cd:Value}{A:Around}{outer:List Env}{s s1:Shared}{H:Hp}{E:XK}{us:List Value}{vs:List V}
  (S:oK N ps scope) (hd:A.handled=none) (e0:wR P w K mg base A outer s H) (hl:vs.length=ps.length) (r:Vals vs us)
  (x:InCallC s s.heap.objs.size (bindL (envOfC qual scope s.heap.objs.size f cd).kindOf (ps.zip us) λ_=>none) (cellsFrom (s.heap.objs.size+1) scope.names []) (bindC (envOfC qual scope s.heap.objs.size f cd).kindOf (ps.zip us) λ_=>none) s1) :
  Inv (jx CX P w K mg base N qual scope f cd A outer s H E) [] (start N vs) H s1:=by
 have hpl:ps.length<=N.length:=by have:=congrArg List.length S.pre; rw[List.length_take]at this; omega
 obtain⟨h1,tk,rfl,hk⟩:=x.done
 have uE:∀b:Addr,b∉(jx CX P w K mg base N qual scope f cd A outer s H E).ex:=λb z=>absurd (show b∈([]:List Addr)from z) (by simp)
 refine⟨⟨e0.mod,S.kind,rfl,rfl,Nat.le_refl _,λy z c h1 h2=>?_,λy hy=>?_,λy c _ h=>?_,λ_=>hd,Around.frames_deeper e0.frames,.inr ⟨rfl,rfl⟩,λb z=>absurd z (uE b),e0.bs,e0.pR,λb _ _=>uE b,λb z=>absurd z (uE b),e0.jU,e0.pU⟩,
  rfl,e0.bare,Un.kept hk,⟨_,x.toInCall.ns,λi y v h1 h2 h3=>?_⟩,λy c h=>⟨_,x.cell y c h⟩,e0.hok.fresh (Nat.le_refl _),λy c h=>?_,λp hp=>absurd (show p∈([]:List (Addr × Obj))from hp) (by simp),e0.hok.kept hk,?_⟩
 ·exact name_of_addr x.apart (PySem.mem_of_lookup h1) (PySem.mem_of_lookup h2)
 ·have hy:scope.names.lookup y=some .cell\/scope.names.lookup y=some .free:=hy
  rcases hy with hy|hy
  ·exact Jk hy
  ·exact absurd rfl (S.Ak _ (PySem.mem_of_lookup hy))
 ·exact Nat.le_of_lt (x.above y c (PySem.mem_of_lookup h))
 ·have hi:i<vs.length:=by
   unfold start at h2
   by_cases hi:i<vs.length
   ·exact hi
   ·rw[List.getElem?_append_right (by simpa using hi)]at h2
    rw[List.getElem?_replicate]at h2
    split at h2 <;> cases h2
  have ha:vs[i]?=some v:=by
   unfold start at h2
   rw[List.getElem?_append_left (by simpa using hi),List.getElem?_map]at h2
   cases e:vs[i]? with
   |none=>rw[e]at h2; cases h2
   |some a=>rw[e]at h2; cases h2; rfl
  obtain⟨u,hu,rv⟩:=r.get ha
  have hp:ps[i]?=some y:=by
   rw[<-S.pre,List.getElem?_take_of_lt (by omega)]; exact h1
  have Jl:ps.Nodup:=by rw[<-S.pre]; exact S.nd.sublist (List.take_sublist _ _)
  refine⟨u,rv,?_⟩
  rcases S.par y (List.mem_of_getElem? hp)with k|k
  ·exact .inl ⟨k,Ji Jl hp hu k⟩
  ·obtain⟨c,e⟩:=Jk (n:=s.heap.objs.size+1) k
   refine .inr ⟨.inl k,c,e,?_⟩
   have q:=x.cell y c e
   rw[Jj Jl hp hu (by show scope.names.lookup y≠_; rw[k]; decide)]at q
   exact q
 ·exact e0.hok.fresh (Nat.le_of_lt (x.above y c (PySem.mem_of_lookup h)))
 ·unfold start
  show _=N.length
  rw[List.length_append,List.length_map,List.length_replicate]
  omega
theorem R3{CX:jw}{P:Program}{w:World}{K:FZ}{mg:Str->Option Value}{base:Heap}{k:Nat}{f:Addr}{name qual:Str}{params:Arguments}{body:List Stmt}{scope:Scope}{dV kV doc pm cdv ct oc:Value}{an od:Option Addr}
  {osl:Array (Option Value)} {N ps:List Str} {sp:Sp} (lk:K.lookup f=some ⟨oc,od,.func (PySem.W.fnOf name qual params body scope dV kV doc pm an cdv ct),osl⟩) (hcd:PySem.W.codeIn K cdv qual=true) (S:oK N ps scope)
  (len:∀vs H Q E,sp vs H Q E->vs.length=ps.length)
  (hbody:∀(A:Around) (outer:List Env) (s:Shared) (H:Hp) (vs:List V) (Q:VK) (E:XK),dN k (A.deeper (envOfC qual scope s.heap.objs.size f cdv))->sp vs H Q E ->
   ∃t,iB (jx CX P w K mg base N qual scope f cdv A outer s H E) body t/\t {nx:=λ_ H'=>Q .non H',rt:=Q } (start N vs) H) :
  jK P w K mg base CX (k+1) f (PySem.W.fnOf name qual params body scope dV kV doc pm an cdv ct) ps sp:=by
 refine⟨len,λA outer s H args us vs Q E hr e0 hb r hsp=>?_⟩
 have hl:=len _ _ _ _ hsp
 have KX:K.In s.heap:=e0.mod.zP.keeps λb o e=>(e0.bs b o e).1
 have lim:s.heap.NoLimit:=e0.mod.nolimit.keeps λb o e=>(e0.bs b o e).1
 have hkind:∀y∈ps.zip us,scope.names.lookup y.1=some .local\/(scope.names.lookup y.1=some .cell/\((cellsFrom (s.heap.objs.size+1) scope.names []).lookup y.1).isSome=true):=λ⟨n,v⟩ hy=>by
  rcases S.par n (List.of_mem_zip hy).1 with q|q
  ·exact .inl q
  ·exact .inr ⟨q,PySem.W.cellsFrom_some _ _ _ (.inl q)⟩
 refine codeAny_call_function hr.depth (KX _ _ lk) rfl S.co S.gen rfl (PySem.W.codeRec_of KX hcd) (hb _ _ _ _ ?_)
 refine wpAny_newFunctionEnv_cells S.kind hkind λenv he s1 x=>?_
 subst he
 refine⟨lim.keeps x.toInCall.keep,codeAny_func ?_⟩
 obtain⟨t,ht,hq⟩:=hbody A outer s H vs Q E (hr.deeper _) hsp
 have I:Inv (jx CX P w K mg base N qual scope f cdv A outer s H E) [] (start N vs) H s1:=R0 S hr.hd e0 hl r x
 refine wpAny_mono (ht [] s1 (start N vs) H _ I hq) (λfl s' hs=>?_) λe s' hs=>hs
 have fin:∀{σ':St} {H':Hp} {v:V} {u:Value},Inv (jx CX P w K mg base N qual scope f cdv A outer s H E) [] σ' H' s'->RelV v u->Q v H'->CE outer P w H s Q u s' :=
  λ{σ' H' v u} J rv q=>⟨v,H',J.os,J.bare,J.base,J.hok,rv,q⟩
 cases fl with
 |ret u =>
  obtain⟨v,σ',H',J,rv,q⟩:=hs
  exact fin J rv q
 |next =>
  obtain⟨σ',H',J,q⟩:=hs
  exact fin (v:=V.non) (u:=Value.none) J rfl q
 |brk =>
  obtain⟨_,_,_,q⟩:=hs
  exact False.elim q
 |cont =>
  obtain⟨_,_,_,q⟩:=hs
  exact False.elim q
end L2
namespace L2
open PySem PySem.Spec PyProof.Rows
section
variable {X:Cx}{x:Str}{p pos:Pos}{e:Expr}{es:List Expr}{t:TA}{id T:String}{r:List V->Hp->VK->Prop}
def gO(r:List V->Hp->VK->Prop)(t:TA):TE:=λσ H Q=>t σ H λvs H1=>r vs H1 Q
theorem Jm(hc:eF X (.builtin id) r)(hg:Gl X x)(hm:X.mg x=none)(hv:bootBuiltins x=some (.builtin id))(ha:PA X (e::es) t)(hn:x ≠ "__name__" := by decide) (hdb:(x == ("__debug__" : Str))=false:=by decide)
  (he:starEach (e::es) X.env=(false,eval e X.env)::starEach es X.env:=by rfl) (hpl:(backTo pos (starEach es X.env)).any (·.1)=false:=by rfl):PE X (.Call (.Name x p) (e::es) [] pos) (gO r t):=by
 refine⟨λpins s σ H Q I h=>?_⟩
 refine wpAny_Call_Name_kw (uw I hg hm hv ?_ hn hdb)
 exact PyProof.Rows.callWith_builtin1 (bf (ha pos pins s σ H _ I h) λus s1 ⟨vs,H1,I1,r1,q1⟩=>hc pins s1 σ H1 vs us Q I1 r1 q1) he hpl
theorem R4(hc:eF X (.type T) r)(hg:Gl X x)(hm:X.mg x=none)(hv:bootBuiltins x=some (.type T))(ha:PA X (e::es) t)(hn:x ≠ "__name__" := by decide) (hdb:(x == ("__debug__" : Str))=false:=by decide)
  (he:starEach (e::es) X.env=(false,eval e X.env)::starEach es X.env:=by rfl) (hpl:(backTo pos (starEach es X.env)).any (·.1)=false:=by rfl):PE X (.Call (.Name x p) (e::es) [] pos) (gO r t):=by
 refine⟨λpins s σ H Q I h=>?_⟩
 refine wpAny_Call_Name_kw (uw I hg hm hv ?_ hn hdb)
 exact PyProof.Rows.callWith_type1 (bf (ha pos pins s σ H _ I h) λus s1 ⟨vs,H1,I1,r1,q1⟩=>hc pins s1 σ H1 vs us Q I1 r1 q1) he hpl
end
end L2
namespace HT
open PySem PyProof.Rows
def lexLt:List Int->List Int->Bool
 | [],[]=>false
 | [],_::_=>true
 |_::_,[]=>false
 |x::xs,y::ys=>if x=y then lexLt xs ys else decide (x<y)
theorem R5(x y:Int)(xs ys:List Int):lexLt (x::xs) (y::ys)=if x=y then lexLt xs ys else decide (x<y):=rfl
theorem R6:lexLt [] []=false:=rfl
theorem R7(y:Int)(ys:List Int):lexLt [] (y::ys)=true:=rfl
theorem R8(x:Int)(xs:List Int):lexLt (x::xs) []=false:=rfl
theorem R9(A:Around)(s:Shared)(a:Int)(t:Tok)(c:Int)(u:Tok):∃e,SeqAt.EqAt A s (.int a t) (.int c u) e/\(e=true↔a=c) :=
 ⟨(a == c),SeqAt.EqAt.int_int a t c u,by simp⟩
theorem Sd(A:Around)(s:Shared)(a:Int)(t:Tok)(c:Int)(u:Tok)(prog:Program)(w:World)(E:Value->Shared->Prop)(Q:Value->Shared->Prop)(h:Q (.bool (decide (a<c))) s) :
  wpAny (model prog w) A (richCompare .Lt (.int a t) (.int c u)) Q E s :=
 (PyProof.Rows.lt_int h:wpAny (model prog w) A (compareOp .Lt (.int a t) (.int c u)) Q E s)
section
open PySem.SeqAt
open PySem.AutoSeq1 (wpAny_loadPart')
open PySem.MeetsSeq PySem.MeetsSeq2 PySem.MeetsSeq3
theorem Sg(l b:Addr)(items items2:Array Value)(n n2:Nat)(dd dd2:Option Addr)(sl sl2:Array (Option Value))(ns ms:List Int)(hi:IntsAre items.toList ns)(hj:IntsAre items2.toList ms) :
  Meets (Builtin.«tuple.__lt__» ⟨[.ref l,.ref b],[]⟩)
   (λ_ R s=>s.heap.get? l=some {cls:=.type "tuple",dict:=dd,data:=.seq items n,slots:=sl }∧s.heap.get? b=some {cls:=.type "tuple",dict:=dd2,data:=.seq items2 n2,slots:=sl2 } ∧
    R (.ok (.ret (.bool (lexLt ns ms)))) s) :=
 .of_wp λprog w A R s h=>by
  obtain⟨hp,g,d,tk,os⟩:=s; obtain⟨hl,hb,h⟩:=h
  have f2:=AutoSeq1.sub_tuple_tuple
  have z1:items.size=ns.length:=by rw[<-hi.length]; simp
  have z2:items2.size=ms.length:=by rw[<-hj.length]; simp
  wp_walk using wpAny_loadPart' hl,wpAny_loadPart' hb,wpAny_forIn_list _ (λrest b s'=>b.1=none/\s'=⟨hp,g,d,tk,os⟩/\∃(vs ws:List Value) (ns' rW:List Int),rest=vs.zip ws /\
   IntsAre vs ns'/\IntsAre ws rW/\ns'.length+items2.size=rW.length+items.size/\R (.ok (.ret (.bool (lexLt ns' rW)))) ⟨hp,g,d,tk,os⟩) _
  case turn =>
   rintro⟨y,x⟩ rest b s' ⟨hb',rfl,vs,ws,ns',rW,hz,Al,hwi,hlen,hR⟩
   cases Al with
   |nil=>rw[List.zip_nil_left]at hz; cases hz
   |cons a t Sh =>
    cases hwi with
    |nil=>rw[List.zip_nil_right]at hz; cases hz
    |cons c u Sq =>
     rw[List.zip_cons_cons]at hz
     injection hz with hyx hrest
     injection hyx with hy hx
     subst hy hx
     rw[R5]at hR
     simp only[List.length_cons]at hlen
     obtain⟨e,he,hiff⟩:=R9 A.in1 ⟨hp,g,d,tk,os⟩ a t c u
     refine wpAny_bind (he prog w _ _ ?_)
     cases e with
     |true =>
      rw[if_pos (hiff.mp rfl)]at hR
      wp_walk
      exact⟨rfl,rfl,_,_,_,_,hrest,Sh,Sq,by omega,hR⟩
     |false =>
      rw[if_neg (λq=>absurd (hiff.mpr q) Bool.false_ne_true)]at hR
      have Ss:=Sd A.in1 ⟨hp,g,d,tk,os⟩ a t c u prog w
      wp_walk using Ss
      exact⟨_,rfl,by simpa using hR⟩
  case fin =>
   rintro⟨b1,b2⟩ s' ⟨hb',rfl,vs,ws,ns',rW,hz,Al,hwi,hlen,hR⟩
   simp only at hb'
   subst hb'
   have hv:lexLt ns' rW=decide (items.size<items2.size):=by
    cases Al with
    |nil =>
     cases hwi with
     |nil =>
      simp only[List.length_nil]at hlen
      rw[R6]
      exact(decide_eq_false (by omega)).symm
     |cons c u hw =>
      simp only[List.length_nil,List.length_cons]at hlen
      rw[R7]
      exact(decide_eq_true (by omega)).symm
    |cons a t hv =>
     cases hwi with
     |nil =>
      simp only[List.length_nil,List.length_cons]at hlen
      rw[R8]
      exact(decide_eq_false (by omega)).symm
     |cons c u hw =>
      rw[List.zip_cons_cons]at hz
      cases hz
   rw[hv]at hR
   wp_walk
   exact⟨_,rfl,by simpa[Builtin.Tuple.tupleCompareSizes]using hR⟩
  case h =>
   exact⟨rfl,rfl,items.toList,items2.toList,ns,ms,rfl,hi,hj,by omega,h⟩
end
section
variable {prog:Program}{w:World}{A:Around}{E:Value->Shared->Prop}{s:Shared}
theorem Sv{l b:Addr}{items items2:Array Value}{ns ms:List Int}{Q:Value->Shared->Prop}(hl:IsTup s.heap l items)(hb:IsTup s.heap b items2)(hi:IntsAre items.toList ns)(hj:IntsAre items2.toList ms)
  (hu:A.units<cLine) (h:Q (.bool (lexLt ns ms)) s):wpAny (model prog w) A (compareOp .Lt (.ref l) (.ref b)) Q E s:=by
 obtain⟨⟨cls,dd,data,sl⟩,ho,hc,n,hd⟩:=id hl
 obtain⟨⟨cls2,dd2,data2,sl2⟩,ho2,hc2,n2,hd2⟩:=id hb
 simp only at hc hd hc2 hd2
 subst hc hd hc2 hd2
 exact richCompare_meets_room (op:=.Lt) ⟨_,ho,rfl⟩ ⟨_,ho2,rfl⟩ PySem.F.slot_tuple_lt PySem.F.entry_tuple_lt (PySem.F.args_tuple_lt_2 _ _) (Sg l b items items2 n n2 dd dd2 sl sl2 ns ms hi hj)
  ⟨ho,ho2,show Value.bool (lexLt ns ms)≠Value.notImplemented/\Q (.bool (lexLt ns ms)) s from⟨(λx=>nomatch x),h⟩⟩ hu
theorem Sw{t b:Addr}{vs ws:List Value}{Q:Value->Shared->Prop}(ht:IsTup s.heap t vs.toArray)(hb:IsTup s.heap b ws.toArray)(hv:vs≠[])
  (h1:ws=[]->Q (.ref t) s) (h2:ws≠[]->Q (.ref s.heap.objs.size) {s with heap:=s.heap.push {cls:=.type "tuple",data:=.seq (vs++ws).toArray } })
  (hsz:vs.length+ws.length<=sizeLine):wpAny (model prog w) A (binaryOp .Add (.ref t) (.ref b)) Q E s:=by
 obtain⟨⟨cls,dd,data,sl⟩,ho,hc,n,hd⟩:=id ht
 obtain⟨⟨cls2,dd2,data2,sl2⟩,ho2,hc2,n2,hd2⟩:=id hb
 simp only at hc hd hc2 hd2
 subst hc hd hc2 hd2
 have e:vs.toArray++ws.toArray=(vs++ws).toArray:=by simp
 by_cases hw:ws=[]
 ·exact concat_meets ⟨_,ho,rfl⟩ ⟨_,ho2,rfl⟩ noFill_tuple_add seq_tuple_add PySem.F.slot_tuple_add PySem.F.entry_tuple_add (PySem.F.args_tuple_add_2 _ _)
   (tuple_addW1 t b vs.toArray ws.toArray n n2 dd dd2 sl sl2 (by simpa using hv) (by simp[hw])) ⟨ho,ho2,h1 hw⟩
 ·refine concat_meets ⟨_,ho,rfl⟩ ⟨_,ho2,rfl⟩ noFill_tuple_add seq_tuple_add PySem.F.slot_tuple_add PySem.F.entry_tuple_add (PySem.F.args_tuple_add_2 _ _)
   (tuple_addW2 t b vs.toArray ws.toArray n n2 dd dd2 sl sl2 (by simpa using hv) (by simpa using hw) (by rw[List.size_toArray,List.size_toArray]; exact hsz)) ⟨ho,ho2,?_⟩
  rw[e]
  exact h2 hw
def bK(n d:Nat):Option Int->Nat
 |none=>d
 |some v=>if v<0 then(v+(n:Int)).toNat else min v.toNat n
theorem Sx(n d:Nat)(hd:d<=n)(o:Option Int):bK n d o<=n:=by
 cases o with
 |none=>exact hd
 |some v =>
  show(if v<0 then(v+(n:Int)).toNat else min v.toNat n)<=n
  by_cases hv:v<0
  ·rw[if_pos hv]; omega
  ·rw[if_neg hv]; exact Nat.min_le_right _ _
theorem Jo(v:Int)(n d:Nat):(if v<0 then max (v+(n:Int)) 0 else min v (n:Int))=((bK n d (some v):Nat):Int):=by
 show(if v<0 then max (v+(n:Int)) 0 else min v (n:Int))=(((if v<0 then(v+(n:Int)).toNat else min v.toNat n):Nat):Int)
 by_cases hv:v<0
 ·simp only[if_pos hv]; omega
 ·simp only[if_neg hv]; omega
theorem Sy(lo hi:Option Int)(n:Nat):Builtin.Slice.sliceAdjust lo hi 1 (n:Int)=(((bK n 0 lo:Nat):Int),((bK n n hi:Nat):Int)):=by
 have h1:¬((1:Int)<0):=by omega
 unfold Builtin.Slice.sliceAdjust
 simp only[h1,if_false]
 refine Prod.ext ?_ ?_
 ·cases lo with
  |none=>rfl
  |some v=>exact Jo v n 0
 ·cases hi with
  |none=>rfl
  |some v=>exact Jo v n n
theorem SJ(i j:Nat):Builtin.Slice.slicePlaces (i:Int) (j:Int) 1=j-i:=by
 unfold Builtin.Slice.slicePlaces
 have h1:(1:Int) > 0:=by omega
 simp only[h1,if_true,Int.ediv_one]
 split <;> omega
theorem Jp{v:Value}{o:Option Int}{Q:Option Int->Shared->Prop}(p:IsPart v o)(h:Q o s):wpAny (model prog w) A (Builtin.Slice.slicePartIndex v) Q E s:=by
 cases p with
 |none=>exact slicePart_none h
 |int i t=>exact slicePart_int h
theorem SM{sl:Addr}{vl vu:Value}{lo hi:Option Int}{n:Nat}{Q:Int × Int × Nat->Shared->Prop}(hs:s.heap.IsSliceOf sl vl vu .none)(pl:IsPart vl lo)(pu:IsPart vu hi)
  (h:Q (((bK n 0 lo:Nat):Int),1,bK n n hi-bK n 0 lo) s):wpAny (model prog w) A (Builtin.Slice.sliceApplied (.ref sl) (pure (n:Int))) Q E s:=by
 obtain⟨os,hos,hcs,hds⟩:=id hs
 unfold Builtin.Slice.sliceApplied Builtin.Slice.sliceFields
 refine wpAny_bind (wpAny_bind (wpAny_field hos hds (x:=vl) rfl (wpAny_bind (wpAny_field hos hds (x:=vu) rfl (wpAny_bind (wpAny_field hos hds (x:=.none) rfl (wpAny_pure ?_)))))))
 refine wpAny_bind (slicePart_none ?_)
 show wpAny _ _ (if((1:Int) == 0)=true then _ else _) _ _ s
 rw[if_neg (by decide)]
 refine wpAny_bind (Jp pl (wpAny_bind (Jp pu (wpAny_bind (wpAny_pure ?_)))))
 show wpAny _ _ (match Builtin.Slice.sliceAdjust lo hi 1 (n:Int)with|(lo,hi)=>pure (lo,(1:Int),Builtin.Slice.slicePlaces lo hi 1)) _ _ s
 rw[Sy lo hi n]
 show wpAny _ _ (pure (((bK n 0 lo:Nat):Int),(1:Int),Builtin.Slice.slicePlaces ((bK n 0 lo:Nat):Int) ((bK n n hi:Nat):Int) 1)) _ _ s
 rw[SJ]
 exact wpAny_pure h
theorem SN(xs:Array Value)(i k:Nat):((List.range k).filterMap λ(m:Nat)=>xs[((i:Int)+(m:Int)*1).toNat]?).toArray=((xs.toList.drop i).take k).toArray:=by
 have e:(λ(m:Nat)=>xs[((i:Int)+(m:Int)*1).toNat]?)=λm=>xs[i+m]? := by
  funext m
  have:((i:Int)+(m:Int)*1).toNat=i+m:=by omega
  rw[this]
 rw[e]
 have:=pick_run xs i k
 rw[List.filterMap_map]at this
 have e2:((λx=>xs[x]?) ∘ λx=>i+x)=λm=>xs[i+m]? := rfl
 rw[e2]at this
 rw[this]
theorem SQ{t sl:Addr}{items:Array Value}{vl vu:Value}{lo hi:Option Int}{Q:Value->Shared->Prop}(ht:IsTup s.heap t items)(hs:s.heap.IsSliceOf sl vl vu .none)(pl:IsPart vl lo)(pu:IsPart vu hi)
  (hw:¬(bK items.size 0 lo=0/\bK items.size items.size hi=items.size))
  (h:Q (.ref s.heap.objs.size) {s with heap:=s.heap.push {cls:=.type "tuple",data:=.seq ((items.toList.drop (bK items.size 0 lo)).take (bK items.size items.size hi-bK items.size 0 lo)).toArray } })
  (hsz:items.size<=sizeLine):wpAny (model prog w) A (getItem (.ref t) (.ref sl)) Q E s:=by
 have wU:sizeOk (.seq ((items.toList.drop (bK items.size 0 lo)).take (bK items.size items.size hi-bK items.size 0 lo)).toArray):=by
  show((items.toList.drop (bK items.size 0 lo)).take (bK items.size items.size hi-bK items.size 0 lo)).toArray.size<=sizeLine
  rw[List.size_toArray,List.length_take,List.length_drop,Array.length_toList]
  omega
 have hj:bK items.size items.size hi<=items.size:=Sx _ _ (Nat.le_refl _) hi
 obtain⟨os,hos,hcs,hds⟩:=id hs
 have hTs:s.TypeIs (.ref sl) "slice" := ⟨os,hos,hcs⟩
 unfold getItem
 try with_reducible refine wpAny_holding ?_
 first|refine wpAny_bind (wpAny_pure ?_)|skip
 refine wpAny_bind (wpAny_sequenceKey ht.typeIs (by decide) ?_)
 refine wpAny_bind (wpAny_callSpecial?_slot (name:=Str.ofString "__getitem__") ht.typeIs PyProof.Rows.slot_tuple_getitem
  (wpAny_call_entry PyProof.Rows.slot_tuple_getitem ht.typeIs entry_tuple_getitem ?_ (args_tuple_getitem _ _)))
 show wpAny _ _ (Builtin.Tuple.tupleItemsOf (.ref t) >>= _) _ _ s
 refine wpAny_bind (tupleItemsOf_ ht ?_)
 refine wpAny_bind (wpAny_typeOf hTs ?_)
 rw[if_pos (by decide)]
 refine wpAny_bind (SM hs pl pu ?_)
 have hno:¬((((bK items.size 0 lo:Nat):Int) == 0&&(1:Int) == 1&&(bK items.size items.size hi-bK items.size 0 lo) == items.size)=true):=by
  intro q
  rw[Bool.and_eq_true,Bool.and_eq_true]at q
  have q1:((bK items.size 0 lo:Nat):Int)=0:=eq_of_beq q.1.1
  have q2:bK items.size items.size hi-bK items.size 0 lo=items.size:=eq_of_beq q.2
  exact hw ⟨by omega,by omega⟩
 show wpAny _ _ (if(((bK items.size 0 lo:Nat):Int) == 0&&(1:Int) == 1&&(bK items.size items.size hi-bK items.size 0 lo) == items.size)=true then _ else _) _ _ s
 rw[if_neg hno,SN]
 first
  |exact wpAny_bind (m:=Builtin.Tuple.tupleExact _) (wpAny_newObj_type (wpAny_pure ⟨_,rfl,wpAny_pure h⟩) wU)
  |exact wpAny_bind (m:=Builtin.Tuple.tupleExact _) (wpAny_newObj_type (wpAny_bind (wpAny_pure (wpAny_pure ⟨_,rfl,wpAny_pure h⟩))) wU)
  |exact wpAny_bind (wpAny_bind (m:=Builtin.Tuple.tupleExact _) (wpAny_newObj_type (wpAny_pure (wpAny_pure ⟨_,rfl,wpAny_pure h⟩)) wU))
  |exact wpAny_bind (wpAny_bind (m:=Builtin.Tuple.tupleExact _) (wpAny_newObj_type (wpAny_pure ⟨_,rfl,wpAny_pure h⟩) wU))
end
end HT
namespace L2
open PySem PySem.Spec PyProof.Rows
abbrev TO:=St->Hp->(Option Int->Hp->Prop)->Prop
noncomputable def PO(X:Cx)(e:Option Expr)(t:TO):Prop :=
 ∀(pins:List (Addr × Obj)) (s:Shared) (σ : St) (H:Hp) (Q:Option Int->Hp->Prop),Inv X pins σ H s->t σ H Q ->
  wpAny (model X.prog X.w) X.A (evalPart e X.env) (λu s'=>∃o H',Inv X pins σ H' s'/\IsPart u o/\Q o H') X.xe s
def Jq:TO:=λ_ H Q=>Q none H
def Jr(t:TE):TO:=λσ H Q=>t σ H λx H1=>∃i,x=.int i/\Q (some i) H1
theorem intsAre_of{ns:List Int}:∀{us:List Value},Vals (ns.map V.int) us->IntsAre us ns:=by
 induction ns with
 |nil=>intro us r; rw[List.map_nil]at r; cases r; exact .nil
 |cons n ns ih =>
  intro us r
  rw[List.map_cons]at r
  cases r with
  |cons r1 r2 =>
   obtain⟨t,e⟩:=r1
   subst e
   exact .cons n t (ih r2)
section
variable {X:Cx}{e:Expr}{te:TE}{lo hi:Option Expr}{tl th:TO}{pos p2:Pos}
theorem Am:PO X none Jq:=by
 intro pins s σ H Q I h
 rw[evalPart_none]
 exact wpAny_pure ⟨none,H,I,.none,h⟩
theorem Ao(h:PE X e te):PO X (some e) (Jr te):=by
 intro pins s σ H Q I hw
 rw[evalPart_some]
 refine bf (h pins s σ H _ I hw) λu s1 ⟨x,H1,I1,r1,q1⟩=>?_
 obtain⟨i,rfl,q⟩:=q1
 obtain⟨t,rfl⟩:=r1
 exact⟨some i,H1,I1,.int i t,q⟩
noncomputable def lB(X:Cx)(r:V->Option Int->Option Int->Hp->VK->Prop):Prop :=
 ∀(pins:List (Addr × Obj)) (s:Shared) (σ : St) (H:Hp) (x:V) (v vl vu:Value) (lo hi:Option Int) (sl:Addr) (Q:VK),Inv X pins σ H s->RelV x v->s.heap.IsSliceOf sl vl vu .none->IsPart vl lo->IsPart vu hi->r x lo hi H Q ->
  ∃T id,typeLookup (.type T) "__getitem__" = pure (some (.builtin id))/\s.TypeIs v T/\wpAny (model X.prog X.w) X.A (getItem v (.ref sl)) (EP X pins σ Q) X.xe s
theorem lB.or{r r':V->Option Int->Option Int->Hp->VK->Prop}(h:lB X r)(h':lB X r'):lB X (λx lo hi H Q=>r x lo hi H Q\/r' x lo hi H Q):=by
 intro pins s σ H x v vl vu lo hi sl Q I rx hs pl pu q
 rcases q with q|q
 ·exact h pins s σ H x v vl vu lo hi sl Q I rx hs pl pu q
 ·exact h' pins s σ H x v vl vu lo hi sl Q I rx hs pl pu q
def Js(r:V->Option Int->Option Int->Hp->VK->Prop)(te:TE)(tl th:TO):TE:=λσ H Q=>te σ H λx H1=>tl σ H1 λl H2=>th σ H2 λu H3=>r x l u H3 Q
theorem Aq{r:V->Option Int->Option Int->Hp->VK->Prop}(hr:lB X r)(he:PE X e te)(hl:PO X lo tl)(hu:PO X hi th):PE X (.Subscript e (.Slice lo hi none p2) pos) (Js r te tl th):=by
 refine⟨λpins s σ H Q I h=>?_⟩
 refine Subscript_ (bf (he pins s σ H _ I h) λv s1 ⟨x,H1,I1,r1,q1⟩=>?_)
 refine wpAny_Slice (bf (hl pins s1 σ H1 _ I1 q1) λvl s2 ⟨l,H2,I2,pl,q2⟩=>bf (hu pins s2 σ H2 _ I2 q2) λvu s3 ⟨u,H3,I3,pu,q3⟩=>?_)
 rw[evalPart_none]
 refine wpAny_pure ?_
 have I4:Inv X pins σ H3 {s3 with heap:=s3.heap.push {cls:=.type "slice",data:=.fields #[vl,vu,.none] } }:=I3.kept (t':=s3.toks) λb ob q=>Heap.get?_push_of_some _ q
 obtain⟨T,id,hT,ht,hg⟩:=hr pins {s3 with heap:=s3.heap.push {cls:=.type "slice",data:=.fields #[vl,vu,.none] } } σ H3 x v vl vu l u s3.heap.objs.size Q I4 r1 (Heap.IsSliceOf.new ..) pl pu q3
 show wpAny (model X.prog X.w) X.A (subscriptTail e (.Slice lo hi none p2) v (.ref s3.heap.objs.size)) (EP X pins σ Q) X.xe {s3 with heap:=s3.heap.push {cls:=.type "slice",data:=.fields #[vl,vu,.none] } }
 exact tail_any (ops:=[.ref s3.heap.objs.size,v]) ht hT hg (by with_unfolding_all rfl)
def oM(xs:List V)(lo hi:Option Int):List V:=(xs.drop (HT.bK xs.length 0 lo)).take (HT.bK xs.length xs.length hi-HT.bK xs.length 0 lo)
theorem Jt(xs:List V)(lo hi:Option Int):(oM xs lo hi).length<=xs.length:=by
 unfold oM
 rw[List.length_take,List.length_drop]
 omega
def Ju(K:FZ):V->Option Int->Option Int->Hp->VK->Prop:=λx lo hi H Q=>∃a xs,x=.ref a/\cj K H a xs /\
 ¬(HT.bK xs.length 0 lo=0/\HT.bK xs.length xs.length hi=xs.length)/\∀p,H p=none->Q (.ref p) (upd H p (.tup (oM xs lo hi)))
theorem SX:lB X (Ju X.K):=by
 intro pins s σ H x v vl vu lo hi sl Q I rx hs pl pu h
 obtain⟨a,xs,rfl,hx,hw,q⟩:=h
 cases rx
 obtain⟨its,r,ht,hz⟩:=I.tuple hx
 have hlen:its.toArray.size=xs.length:=by rw[List.size_toArray]; exact r.length.symm
 refine⟨"tuple",_,PyProof.Rows.slot_tuple_getitem.lookup,ht.typeIs,?_⟩
 refine HT.SQ ht hs pl pu (by rw[hlen]; exact hw) ?_ (by rw[hlen]; exact hz)
 rw[hlen]
 refine⟨.ref s.heap.objs.size,_,I.laid (t':=s.toks) (o:=.tup (oM xs lo hi)) (λb ob q=>Heap.get?_push_of_some _ q) (Nat.le_refl _) ?_,rfl,q _ (I.hok.fresh (Nat.le_refl _))⟩
 exact⟨Nat.le_trans (Jt xs lo hi) hz,_,(r.drop (HT.bK xs.length 0 lo)).take (HT.bK xs.length xs.length hi-HT.bK xs.length 0 lo),IsTup.new _ _⟩
def Jv(K:FZ):R2:=λx y H Q=>∃a b ns ms,x=.ref a/\y=.ref b/\cj K H a (ns.map V.int)/\cj K H b (ms.map V.int)/\Q (.bl (HT.lexLt ns ms)) H
theorem S5(hu:X.A.units<cLine):cH X (compareOp .Lt) (Jv X.K):=by
 intro pins s σ H x y v u Q I rx ry h
 obtain⟨a,b,ns,ms,rfl,rfl,ha,hb,q⟩:=h
 cases rx
 cases ry
 obtain⟨its,r1,p1,_⟩:=I.tuple ha
 obtain⟨its2,r2,p2,_⟩:=I.tuple hb
 have i1:IntsAre its.toArray.toList ns:=intsAre_of r1
 have i2:IntsAre its2.toArray.toList ms:=intsAre_of r2
 exact HT.Sv p1 p2 i1 i2 hu ⟨.bl (HT.lexLt ns ms),H,I,rfl,q⟩
def Jw(K:FZ):R2:=λx y H Q=>∃a b xs ys,x=.ref a/\y=.ref b/\cj K H a xs/\cj K H b ys/\xs≠[]/\xs.length+ys.length<=sizeLine /\
 (ys=[]->Q (.ref a) H)/\(ys≠[]->∀p,H p=none->Q (.ref p) (upd H p (.tup (xs++ys))))
theorem Vals.Ar{xs:List V}{us:List Value}(r:Vals xs us):us=[]↔xs=[]:=by
 cases r with
 |nil=>simp
 |cons _ _=>simp
theorem S6:cH X (binaryOp .Add) (Jw X.K):=by
 intro pins s σ H x y v u Q I rx ry h
 obtain⟨a,b,xs,ys,rfl,rfl,ha,hb,hx,hz,q1,q2⟩:=h
 cases rx
 cases ry
 obtain⟨its,r1,p1,_⟩:=I.tuple ha
 obtain⟨its2,r2,p2,_⟩:=I.tuple hb
 refine HT.Sw p1 p2 (λz=>hx (r1.Ar.mp z)) (λz=>⟨.ref a,H,I,rfl,q1 (r2.Ar.mp z)⟩) (λz=>?_) (by rw[<-r1.length,<-r2.length]; exact hz)
 refine⟨.ref s.heap.objs.size,_,I.laid (t':=s.toks) (o:=.tup (xs++ys)) (λb ob q=>Heap.get?_push_of_some _ q) (Nat.le_refl _) ?_,rfl,q2 (λw=>z (r2.Ar.mpr w)) _ (I.hok.fresh (Nat.le_refl _))⟩
 exact⟨by rw[List.length_append]; exact hz,_,r1.append r2,IsTup.new _ _⟩
end
end L2
namespace L2
open PySem PySem.Spec PyProof.Rows
def fG(n:Nat)(i:Int):Option Nat:=if 0<=i then(if i<n then some i.toNat else none)else if -(n:Int)<=i then some (i+n).toNat else none
def dz{α : Type}(xs:List α)(i:Int):Option α := (fG xs.length i).bind λj=>xs[j]?
theorem Jx{n:Nat}{i:Int}{j:Nat}(h:fG n i=some j):seqIndex? i n=some j/\j<n /\ -(n:Int)<=i/\i<n:=by
 unfold fG at h
 by_cases h0:0<=i
 ·rw[if_pos h0]at h
  by_cases h1:i<n
  ·rw[if_pos h1]at h
   have e:i.toNat=j:=Option.some.inj h
   exact⟨by rw[seqIndex_of h0 h1,e],by omega,by omega,h1⟩
  ·rw[if_neg h1]at h; cases h
 ·rw[if_neg h0]at h
  by_cases h1 : -(n:Int)<=i
  ·rw[if_pos h1]at h
   have e:(i+n).toNat=j:=Option.some.inj h
   exact⟨by rw[seqIndex_neg (by omega) h1,e],by omega,h1,by omega⟩
  ·rw[if_neg h1]at h; cases h
theorem Av{α : Type}{xs:List α}{i:Int}{v : α}(h:dz xs i=some v):∃j,seqIndex? i xs.length=some j/\xs[j]?=some v/\j<xs.length /\ -(xs.length:Int)<=i/\i<xs.length:=by
 unfold dz at h
 cases e:fG xs.length i with
 |none=>rw[e]at h; cases h
 |some j =>
  rw[e]at h
  obtain⟨h1,h2,h3,h4⟩:=Jx e
  exact⟨j,h1,h,h2,h3,h4⟩
def Jy(b:Expr):Prop:=∀o i,subscripted b false o i=operate [o,i] (getItem o i)
noncomputable def m6(X:Cx)(r:R2):Prop :=
 ∀(value slice:Expr) (pins:List (Addr × Obj)) (s:Shared) (σ : St) (H:Hp) (x y:V) (v u:Value) (Q:VK),Inv X pins σ H s->RelV x v->RelV y u->r x y H Q ->
  subscripted slice false v u=operate [v,u] (getItem v u)->wpAny (model X.prog X.w) X.A (subscriptTail value slice v u) (EP X pins σ Q) X.xe s
noncomputable def Jz(X:Cx)(id:String)(r:V->List V->Hp->VK->Prop):Prop :=
 ∀(pins:List (Addr × Obj)) (s:Shared) (σ : St) (H:Hp) (x:V) (xs:List V) (v:Value) (us:List Value) (Q:VK),Inv X pins σ H s->RelV x v->Vals xs us->r x xs H Q ->
  wpAny (model X.prog X.w) X.A (call (.builtin id) (v::us)) (EP X pins σ Q) X.xe s
section
variable {X:Cx}{a b:Expr}{ta tb:TE}{pos:Pos}
theorem m6.or{r r':R2}(h:m6 X r)(h':m6 X r'):m6 X (λx y H Q=>r x y H Q\/r' x y H Q):=by
 intro value slice pins s σ H x y v u Q I rx ry q hs
 rcases q with q|q
 ·exact h value slice pins s σ H x y v u Q I rx ry q hs
 ·exact h' value slice pins s σ H x y v u Q I rx ry q hs
theorem JB{r:R2}(hr:m6 X r)(ha:PE X a ta)(hb:PE X b tb)(hs:Jy b):PE X (.Subscript a b pos) (eG r ta tb):=by
 refine⟨λpins s σ H Q I h=>?_⟩
 exact Subscript_ (Ae ha hb I h λv u s2 x y H2 I2 rx ry q=>hr a b pins s2 σ H2 x y v u Q I2 rx ry q (hs _ _))
def JC(K:FZ):R2:=λx y H Q=>∃p xs i v,x=.ref p/\y=.int i/\bG K H p xs/\dz xs i=some v/\Q v H
def JD(K:FZ):R2:=λx y H Q=>∃p xs i v,x=.ref p/\y=.int i/\cj K H p xs/\dz xs i=some v/\Q v H
def JF:R2:=λx y H Q=>∃z i c,x=.str z/\y=.int i/\z.length<=sizeLine/\dz z.cps.toList i=some c/\Q (.str ⟨#[c]⟩) H
theorem S7:m6 X (JC X.K):=by
 intro value slice pins s σ H x y v u Q I rx ry h hs
 obtain⟨p,xs,i,z,rfl,rfl,hq,he,q⟩:=h
 cases rx
 obtain⟨t,rfl⟩:=ry
 obtain⟨its,r,pl,hz⟩:=I.list hq
 obtain⟨j,h1,h2,h3,h4,h5⟩:=Av he
 obtain⟨w,ew,pX⟩:=r.get h2
 have hl:=r.length
 have hn:=pZ
 have fin:EP X pins σ Q w s:=⟨z,H,I,pX,q⟩
 by_cases h0:0<=i
 ·have hj:i.toNat=j:=by
   rw[seqIndex_of h0 h5]at h1
   exact Option.some.inj h1
  exact item_listR pl.isList h0 (by omega) (by rw[hj]; simpa using ew) fin hs
 ·have hj:(i+(its.toArray.size:Int)).toNat=j:=by
   rw[seqIndex_neg (by omega) h4]at h1
   rw[List.size_toArray,<-hl]
   exact Option.some.inj h1
  exact subscriptTail_builtinR (x:=w) pl.isList.typeIs slot_list_getitem.lookup
   (wpAny_getItem_list_neg (Q:=λr s'=>r=w/\EP X pins σ Q r s') pl.isList (by omega) (by rw[List.size_toArray] <;> omega) (by omega) (by rw[hj]; simpa using ew) ⟨rfl,fin⟩) hs
theorem S8:m6 X (JD X.K):=by
 intro value slice pins s σ H x y v u Q I rx ry h hs
 obtain⟨p,xs,i,z,rfl,rfl,hq,he,q⟩:=h
 cases rx
 obtain⟨t,rfl⟩:=ry
 obtain⟨its,r,pl,hz⟩:=I.tuple hq
 obtain⟨j,h1,h2,h3,h4,h5⟩:=Av he
 obtain⟨w,ew,pX⟩:=r.get h2
 have hl:=r.length
 have hn:=pZ
 have fin:EP X pins σ Q w s:=⟨z,H,I,pX,q⟩
 exact subscriptTail_builtinR (x:=w) pl.typeIs slot_tuple_getitem.lookup
  (getItem_tuple (j:=j) (Q:=λr s'=>r=w/\EP X pins σ Q r s') pl (by omega) (by omega) (by rw[List.size_toArray,<-hl]; exact h1) (by simpa using ew) ⟨rfl,fin⟩) hs
theorem S9:m6 X JF:=by
 intro value slice pins s σ H x y v u Q I rx ry h hs
 obtain⟨z,i,c,rfl,rfl,hz,he,q⟩:=h
 obtain⟨t,rfl⟩:=rx
 obtain⟨t',rfl⟩:=ry
 obtain⟨j,h1,h2,h3,h4,h5⟩:=Av he
 have hl:z.cps.toList.length=z.length:=by simp[Str.length]
 rw[hl]at h1 h4 h5
 have hn:=pZ
 exact tail_any (typeIs_str s z t) slot_str_getitem.lookup (getItem_str (c:=c) (by
  have e1:decide (i < -(2 ^ 63:Int))=false:=decide_eq_false (by omega)
  have e2:decide (i >= 2 ^ 63)=false:=decide_eq_false (by omega)
  rw[e1,e2,Bool.or_false]) (by rw[h1]; simpa using h2) ⟨.str ⟨#[c]⟩,H,I.tok _,⟨_,rfl⟩,q⟩) hs
def rY(K:FZ):R2:=λx y H Q=>JC K x y H Q\/JD K x y H Q\/JF x y H Q
theorem JG:m6 X (rY X.K):=S7.or (S8.or S9)
theorem Tc(its:List Value)(n j:Nat)(u:Value):Obj.mapSeq (·.setIfInBounds j u) {cls:=.type "list",data:=.seq its.toArray n }={cls:=.type "list",data:=.seq (its.set j u).toArray n }:=by
 simp[Obj.mapSeq]
theorem Inv.lst{pins:List (Addr × Obj)}{σ : St}{H:Hp}{s:Shared}{p:Addr}{xs:List V}(I:Inv X pins σ H s)(h:H p=some (.lst xs)) :
  ∃(its:List Value) (n:Nat),Vals xs its/\s.heap.get? p=some {cls:=.type "list",data:=.seq its.toArray n }/\xs.length<=sizeLine:=by
 obtain⟨z,its,n,r,e⟩:=I.hok p _ h
 exact⟨its,n,r,e,z⟩
theorem Inv.Td{pins:List (Addr × Obj)}{σ : St}{H:Hp}{s:Shared}{p:Addr}{xs ys:List V}{its its':List Value}{n n':Nat}{f:Obj->Obj}(I:Inv X pins σ H s)(h:H p=some (.lst xs))
  (ho:s.heap.get? p=some {cls:=.type "list",data:=.seq its.toArray n }) (hf:f {cls:=.type "list",data:=.seq its.toArray n }={cls:=.type "list",data:=.seq its'.toArray n' }) (r:Vals ys its') (hz:ys.length<=sizeLine) (t:Nat) :
  Inv X pins σ (upd H p (.lst ys)) {s with heap:=s.heap.update p f,toks:=t }:=by
 have e:(s.heap.update p f).get? p=some {cls:=.type "list",data:=.seq its'.toArray n' }:=by
  rw[Heap.get?_update_self f ho (by rw[hf] <;> rfl),hf]
 refine I.write (x:=p) (e:=p) (by rw[h]; trivial) (.inl rfl) (λb u hb q=>(Heap.get?_update_other _ _ (Ne.symm hb)).trans q) ⟨_,e⟩ ?_
 exact⟨hz,its',n',r,e⟩
def Aw:V->V->V->Hp->(Hp->Prop)->Prop:=λo i v H Q=>∃p xs k j,o=.ref p/\i=.int k/\H p=some (.lst xs)/\fG xs.length k=some j/\Q (upd H p (.lst (xs.set j v)))
theorem set_list:Ig X Aw:=by
 intro pins s σ H o i v ov iv u Q I ro ri rv h
 obtain⟨p,xs,k,j,rfl,rfl,hp,hj,q⟩:=h
 cases ro
 obtain⟨t,rfl⟩:=ri
 obtain⟨its,n,r,ho,hz⟩:=I.lst hp
 obtain⟨h1,h2,h3,h4⟩:=Jx hj
 have hl:=r.length
 have hn:=pZ
 have I':Inv X pins σ (upd H p (.lst (xs.set j v))) {s with heap:=s.heap.update p (Obj.mapSeq (·.setIfInBounds j u)) } :=
  I.Td hp ho (Tc its n j u) (r.set rv j) (by rw[List.length_set]; exact hz) s.toks
 by_cases h0:0<=k
 ·have hk:k.toNat=j:=by
   rw[seqIndex_of h0 h4]at h1
   exact Option.some.inj h1
  exact PySem.W.ki_setAt ho h0 (by omega) (by rw[List.size_toArray,<-hl]; exact h4) (by rw[hk]; exact⟨_,I',q⟩)
 ·have hk:(k+(its.toArray.size:Int)).toNat=j:=by
   rw[seqIndex_neg (by omega) h3]at h1
   rw[List.size_toArray,<-hl]
   exact Option.some.inj h1
  exact PySem.W.ki_setBack ho (by omega) (by rw[List.size_toArray,<-hl]; exact h3) (by omega) (by rw[hk]; exact⟨_,I',q⟩)
theorem Te(lo hi:Option Int)(n:Nat):(sliceBounds lo hi none n).1=((HT.bK n 0 lo:Nat):Int)/\(sliceBounds lo hi none n).2.1=((HT.bK n n hi:Nat):Int)/\(sliceBounds lo hi none n).2.2=1:=by
 refine⟨?_,?_,rfl⟩
 ·cases lo with
  |none=>simp[sliceBounds,HT.bK]
  |some i =>
   simp only[sliceBounds,HT.bK,Option.getD_none,show(1:Int) > 0 by decide,if_true]
   by_cases h:i<0
   ·simp only[h,if_true] <;> omega
   ·simp only[h,if_false] <;> omega
 ·cases hi with
  |none=>simp[sliceBounds,HT.bK]
  |some i =>
   simp only[sliceBounds,HT.bK,Option.getD_none,show(1:Int) > 0 by decide,if_true]
   by_cases h:i<0
   ·simp only[h,if_true] <;> omega
   ·simp only[h,if_false] <;> omega
theorem Tf(its:List Value)(lo hi:Option Int):slicePick its.toArray lo hi none=((its.drop (HT.bK its.length 0 lo)).take (HT.bK its.length its.length hi-HT.bK its.length 0 lo)).toArray:=by
 obtain⟨h1,h2,h3⟩:=Te lo hi its.toArray.size
 unfold slicePick
 rw[h1,h2,h3]
 simp only[sliceRange_one,pick_run,List.size_toArray] <;> rfl
def JH(K:FZ):V->Option Int->Option Int->Hp->VK->Prop:=λx lo hi H Q=>∃a xs,x=.ref a/\bG K H a xs/\∀p,H p=none->Q (.ref p) (upd H p (.lst (oM xs lo hi)))
theorem Ti:lB X (JH X.K):=by
 intro pins s σ H x v vl vu lo hi sl Q I rx hs pl pu h
 obtain⟨a,xs,rfl,hx,q⟩:=h
 cases rx
 obtain⟨its,r,ht,hz⟩:=I.list hx
 have hlen:=r.length
 refine⟨"list",_,slot_list_getitem.lookup,ht.isList.typeIs,?_⟩
 refine wpAny_getItem_list_slice ht.isList hs pl pu .none (by simp) ?_ (by rw[List.size_toArray] <;> omega)
 rw[Tf,<-hlen]
 refine⟨.ref s.heap.objs.size,_,I.laid (t':=s.toks) (o:=.lst (oM xs lo hi)) (λb ob q=>Heap.get?_push_of_some _ q) (Nat.le_refl _) ?_,rfl,q _ (I.hok.fresh (Nat.le_refl _))⟩
 exact⟨Nat.le_trans (Jt xs lo hi) hz,_,0,(r.drop (HT.bK xs.length 0 lo)).take (HT.bK xs.length xs.length hi-HT.bK xs.length 0 lo),Heap.get?_push_size _ rfl⟩
theorem Tj:eF X (.builtin "len") (λxs H Q=>∃p ys,xs=[.ref p]/\(bG X.K H p ys\/cj X.K H p ys)/\Q (.int ys.length) H):=by
 intro pins s σ H xs us Q I r h
 obtain⟨p,ys,rfl,hq,q⟩:=h
 obtain⟨u,rfl,rx⟩:=vals1 r
 cases rx
 have hn:=pZ
 rcases hq with hq|hq
 ·obtain⟨its,r',pl,hz⟩:=I.list hq
  have hlen:=r'.length
  exact Calls.call_len_list pl.isList (by simp only[List.size_toArray] <;> omega) ⟨.int ys.length,H,I.tok _,⟨s.toks+1,by rw[List.size_toArray,hlen]⟩,q⟩
 ·obtain⟨its,r',pl,hz⟩:=I.tuple hq
  have hlen:=r'.length
  exact len_tuple pl (by simp only[List.size_toArray] <;> omega) ⟨.int ys.length,H,I.tok _,⟨s.toks+1,by rw[List.size_toArray,hlen]⟩,q⟩
theorem Tn:eF X (.builtin "len") (λxs H Q=>∃z,xs=[.str z]/\z.length<=sizeLine/\Q (.int z.length) H):=by
 intro pins s σ H xs us Q I r h
 obtain⟨z,rfl,hz,q⟩:=h
 obtain⟨u,rfl,t,rfl⟩:=vals1 r
 have hn:=pZ
 exact len_str (by omega) ⟨.int z.length,H,I.tok _,⟨_,rfl⟩,q⟩
theorem eF.or{f:Value}{r r':List V->Hp->VK->Prop}(h:eF X f r)(h':eF X f r'):eF X f (λxs H Q=>r xs H Q\/r' xs H Q):=by
 intro pins s σ H xs us Q I rs q
 rcases q with q|q
 ·exact h pins s σ H xs us Q I rs q
 ·exact h' pins s σ H xs us Q I rs q
theorem Tp:eF X (.type "list") (λxs H Q=>∃p ys,xs=[.ref p]/\(bG X.K H p ys\/cj X.K H p ys)/\∀l,H l=none->Q (.ref l) (upd H l (.lst ys))):=by
 intro pins s σ H xs us Q I r h
 obtain⟨p,ys,rfl,hq,q⟩:=h
 obtain⟨u,rfl,rx⟩:=vals1 r
 cases rx
 have fin:∀(its:List Value),Vals ys its->ys.length<=sizeLine->∀(h':Heap) (c':Nat),(∀b o',s.heap.get? b=some o'->h'.get? b=some o') ->
   h'.get? s.heap.objs.size=some {cls:=.type "list",dict:=none,data:=.seq its.toArray c',slots:=#[] }->EP X pins σ Q (.ref s.heap.objs.size) {s with heap:=h' }:=λits r' hz h' c' kp e =>
  ⟨.ref s.heap.objs.size,_,I.laid (t':=s.toks) kp (Nat.le_refl _) (show iU X.prog X.w _ h' _ (.lst ys)from⟨hz,its,c',r',e⟩),rfl,q _ (I.hok.fresh (Nat.le_refl _))⟩
 rcases hq with hq|hq
 ·obtain⟨its,r',pl,hz⟩:=I.list hq
  have hlen:=r'.length
  obtain⟨o,ho,hc,n,hd⟩:=pl.isList
  exact call_list_seq p (.inl rfl) ho hc hd (λh' c' kp e=>fin its r' hz h' c' kp e) (by simp only[List.size_toArray] <;> omega)
 ·obtain⟨its,r',pl,hz⟩:=I.tuple hq
  have hlen:=r'.length
  obtain⟨o,ho,hc,n,hd⟩:=pl
  exact call_list_seq p (.inr rfl) ho hc hd (λh' c' kp e=>fin its r' hz h' c' kp e) (by simp only[List.size_toArray] <;> omega)
theorem JK:eF X (.type "tuple") (λxs H Q=>∃p ys,xs=[.ref p]/\((bG X.K H p ys/\∀l,H l=none->Q (.ref l) (upd H l (.tup ys)))\/(cj X.K H p ys/\Q (.ref p) H))):=by
 intro pins s σ H xs us Q I r h
 obtain⟨p,ys,rfl,h⟩:=h
 obtain⟨u,rfl,rx⟩:=vals1 r
 cases rx
 rcases h with⟨hq,q⟩|⟨hq,q⟩
 ·obtain⟨its,r',pl,hz⟩:=I.list hq
  have hlen:=r'.length
  refine call_tuple_list pl.isList (λh' kp=>?_) (by simp only[List.size_toArray] <;> omega)
  have I1:Inv X pins σ H {s with heap:=h' }:=I.kept (t':=s.toks) kp
  have I2:Inv X pins σ (upd H h'.objs.size (.tup ys)) {s with heap:=h'.push {cls:=.type "tuple",data:=.seq its.toArray } } :=
   I1.laid (t':=s.toks) (λb o e=>Heap.get?_push_of_some _ e) (Nat.le_refl _) (show iU X.prog X.w _ _ _ (.tup ys)from⟨hz,its,r',IsTup.new _ _⟩)
  exact⟨.ref h'.objs.size,_,I2,rfl,q _ (I1.hok.fresh (Nat.le_refl _))⟩
 ·obtain⟨its,r',pl,hz⟩:=I.tuple hq
  exact call_tuple_same pl ⟨.ref p,H,I,rfl,q⟩
noncomputable def wV(K:FZ)(T:String)(x:V)(H:Hp):Prop:=match x with
 |.str _=>T = "str"
 |.int _=>T = "int"
 | .ref p=>(T = "list" ∧ ∃xs,bG K H p xs)∨(T = "tuple" ∧ ∃o,K.lookup p=some o∧o.cls=.type "tuple" ∧ o.dict=none) ∨
   (T = "dict" ∧ ((∃kvs,H p=some (.dK kvs))∨∃kvs,H p=some (.dT kvs)))∨(T = "set" ∧ ∃S n,H p=some (.set S n))
 |_=>False
theorem JL{pins:List (Addr × Obj)}{σ : St}{H:Hp}{s:Shared}{T:String}{x:V}{v:Value}(I:Inv X pins σ H s)(r:RelV x v)(ty:wV X.K T x H) :
  s.TypeIs v T/\∀a,v=.ref a->∃ob,s.heap.get? a=some ob/\ob.dict=none:=by
 cases x with
 |str z =>
  obtain⟨t,rfl⟩:=r
  cases(show T = "str" from ty)
  exact⟨typeIs_str s z t,λ_ e=>nomatch e⟩
 |int i =>
  obtain⟨t,rfl⟩:=r
  cases(show T = "int" from ty)
  exact⟨typeIs_int s i t,λ_ e=>nomatch e⟩
 |ref p =>
  cases r
  rcases ty with⟨rfl,xs,hq⟩|⟨rfl,o,hk,hc,hd⟩|⟨rfl,hk⟩|⟨rfl,S,n,hk⟩
  ·obtain⟨its,_,pl,_⟩:=I.list hq
   refine⟨pl.isList.typeIs,λa e=>?_⟩
   cases e
   obtain⟨o,n,e,c,hd,_⟩:=pl
   exact⟨o,e,hd⟩
  ·refine⟨⟨o,I.ju p o hk,hc⟩,λa e=>?_⟩
   cases e
   exact⟨o,I.ju _ o hk,hd⟩
  ·have z:∃o,s.heap.get? p=some o/\o.ExactDict:=by
    rcases hk with⟨kvs,hk⟩|⟨kvs,hk⟩
    ·obtain⟨_,_,_,_,o,_,_,e,ex,_⟩:=I.hok p _ hk
     exact⟨o,e,ex⟩
    ·obtain⟨_,_,_,_,o,_,_,e,ex,_⟩:=I.hok p _ hk
     exact⟨o,e,ex⟩
   obtain⟨o,e,ex⟩:=z
   refine⟨⟨o,e,ex.1⟩,λa e2=>?_⟩
   cases e2
   exact⟨o,e,ex.2.1⟩
  ·obtain⟨o,_,_,_,e,ex,_⟩:=I.hok p _ hk
   refine⟨⟨o,e,ex.1⟩,λa e2=>?_⟩
   cases e2
   exact⟨o,e,ex.2.1⟩
 |_=>exact False.elim ty
def Ax(K:FZ)(T:String)(r:V->List V->Hp->VK->Prop)(to:TE):TE:=λσ H Q=>to σ H λx H1=>wV K T x H1/\r x [] H1 Q
def uF(K:FZ)(T:String)(r:V->List V->Hp->VK->Prop)(to:TE)(t:TA):TE:=λσ H Q=>to σ H λx H1=>wV K T x H1/\t σ H1 λxs H2=>r x xs H2 Q
variable {o e:Expr}{es:List Expr}{to:TE}{t:TA}{name:Str}{apos cpos:Pos}{T id:String}{r:V->List V->Hp->VK->Prop}
theorem Ay(pa:PlainAttrs T)(slot:Slot T name id)(hty:typeOf (.builtin id)=pure (.type "method_descriptor")) (hm:Jz X id r) (ho:PE X o to)
  (hbase:attributeBase o name X.env (eval o X.env)=eval o X.env:=by rfl) (hline:(apos.endLine == cpos.line)=true:=by rfl):PE X (.Call (.Attribute o name apos) [] [] cpos) (Ax X.K T r to):=by
 refine⟨λpins s σ H Q I h=>?_⟩
 refine wpAny_Call_method0_late hbase hline (bf (ho pins s σ H _ I h) λv s1 ⟨x,H1,I1,r1,ty,q1⟩=>?_)
 obtain⟨h1,h2⟩:=JL I1 r1 ty
 exact⟨T,id,pa,slot,hty,h1,h2,Calls.callWith_builtin rfl (PySem.evalArgs_none (hm pins s1 σ H1 x [] v [] Q I1 r1 .nil q1))⟩
theorem Az(pa:PlainAttrs T)(slot:Slot T name id)(hty:typeOf (.builtin id)=pure (.type "method_descriptor")) (hm:Jz X id r) (ho:PE X o to) (ha:PA X (e::es) t)
  (hbase:attributeBase o name X.env (eval o X.env)=eval o X.env:=by rfl)
  (hfew:((backTo cpos (starEach (e::es) X.env)).all (λx=>!x.1)&&(backToKw cpos (keywordEach [] X.env)).all (λx=>x.1.isSome)
   && decide ((e::es).length+([]:List Keyword).length+(if([]:List Keyword).isEmpty then 0 else 1)<30))=true:=by rfl)
  (hline:(apos.endLine == cpos.line)=true:=by rfl) (hs:starEach (e::es) X.env=(false,eval e X.env)::starEach es X.env:=by rfl) (hplain:(backTo cpos (starEach es X.env)).any (·.1)=false:=by rfl) :
  PE X (.Call (.Attribute o name apos) (e::es) [] cpos) (uF X.K T r to t):=by
 refine⟨λpins s σ H Q I h=>?_⟩
 refine wpAny_Call_method_late hbase hfew hline rfl (bf (ho pins s σ H _ I h) λv s1 ⟨x,H1,I1,r1,ty,q1⟩=>?_)
 obtain⟨h1,h2⟩:=JL I1 r1 ty
 refine⟨T,id,pa,slot,hty,h1,h2,?_⟩
 have hA:=ha cpos pins s1 σ H1 _ I1 q1
 rw[hs]at hA ⊢
 refine Calls.callWith_builtin (by show(false || (backTo cpos (starEach es X.env)).any (·.1))=false; rw[hplain] <;> rfl) (Calls.evalArgs_plain ?_)
 exact bf hA λus s2 ⟨vs,H2,I2,r2,q2⟩=>hm pins s2 σ H2 x vs v us Q I2 r1 r2 q2
end
end L2
namespace L2
open PySem PySem.Spec PyProof.Rows
noncomputable def p8(X:Cx)(id:String)(r:V->List V->Hp->VK->Prop):Prop :=
 ∀(pins:List (Addr × Obj)) (s:Shared) (σ : St) (H:Hp) (x:V) (xs:List V) (v:Value) (us:List Value) (Q:VK),Inv X pins σ H s->RelV x v->Vals xs us->r x xs H Q ->
  wpAny (model X.prog X.w) X.A (call (.builtin id) (v::us)) (EP X pins σ Q) X.xe s
theorem Vals.one:∀{x:V} {us:List Value},Vals [x] us->∃u,us=[u]/\RelV x u
 |_,_,.cons r .nil=>⟨_,rfl,r⟩
theorem Vals.zero:∀{us:List Value},Vals [] us->us=[]
 |_,.nil=>rfl
theorem Vals.rep{xs:List V}{us:List Value}(h:Vals xs us):∀k:Nat,Vals (List.replicate k xs).flatten (List.replicate k us).flatten
 | 0=>.nil
 |k+1=>by
  rw[List.replicate_succ,List.replicate_succ,List.flatten_cons,List.flatten_cons]
  exact Vals.append h (Vals.rep h k)
theorem foldl_rep(its:List Value):∀(k:Nat) (acc:List Value),
  List.foldl (λx1 x2=>x1++x2) acc.toArray (List.replicate k its.toArray)=(acc++(List.replicate k its).flatten).toArray
 | 0,acc=>by simp
 |k+1,acc=>by
  have e:acc.toArray++its.toArray=(acc++its).toArray:=by simp
  have e2:(acc++its)++(List.replicate k its).flatten=acc++(List.replicate (k+1) its).flatten:=by
   rw[List.replicate_succ,List.flatten_cons,List.append_assoc]
  rw[<-e2,<-foldl_rep its k (acc++its),<-e,List.replicate_succ,List.foldl_cons]
section
variable {X:Cx}{pins:List (Addr × Obj)}{σ : St}{H:Hp}{s:Shared}{l b:Addr}{xs ys zs:List V}
theorem Inv.JM{its its':List Value}{n:Nat}{f:Array Value->Array Value}{t':Nat}(I:Inv X pins σ H s)(hH:H l=some (.lst xs))
  (e:s.heap.get? l=some {cls:=.type "list",data:=.seq its.toArray n }) (hf:f its.toArray=its'.toArray) (hv:Vals ys its') (hz:ys.length<=sizeLine) :
  Inv X pins σ (upd H l (.lst ys)) {s with heap:=s.heap.update l (Obj.mapSeq f),toks:=t' }:=by
 have q:=PySem.IsL.update e f
 rw[hf]at q
 refine I.write (x:=l) (e:=l) (by rw[hH]; exact trivial) (.inl rfl) (λb' u hb hu=>(Heap.get?_update_other s.heap (Obj.mapSeq f) (Ne.symm hb)).trans hu) ⟨_,q⟩ ?_
 exact⟨hz,its',_,hv,q⟩
theorem Inv.rZ{its:List Value}{t':Nat}(I:Inv X pins σ H s)(hv:Vals ys its)(hz:ys.length<=sizeLine) :
  Inv X pins σ (upd H s.heap.objs.size (.lst ys)) {s with heap:=s.heap.push {cls:=.type "list",data:=.seq its.toArray },toks:=t' } :=
 I.laid (λ_ _ q=>Heap.get?_push_of_some _ q) (Nat.le_refl _) ⟨hz,its,0,hv,Heap.get?_push_size _ rfl⟩
theorem Inv.fresh(I:Inv X pins σ H s):H s.heap.objs.size=none:=I.hok.fresh (Nat.le_refl _)
theorem Inv.JN(I:Inv X pins σ H s)(hH:H l=some (.lst xs)):xs.length<=sizeLine/\∃(its:List Value) (n:Nat),Vals xs its/\xs.length=its.length/\s.heap.get? l=some {cls:=.type "list",data:=.seq its.toArray n }:=by
 obtain⟨z,its,n,r,e⟩:=I.hok l _ hH
 exact⟨z,its,n,r,r.length,e⟩
theorem Tq{n:Nat}(h:n<=sizeLine):Builtin.List.listTooLong n=false:=by
 unfold Builtin.List.listTooLong
 exact decide_eq_false (by omega)
end
section
variable {X:Cx}
def Tt:V->List V->Hp->VK->Prop:=λx vs H Q=>∃l xs y,x=.ref l/\vs=[y]/\H l=some (.lst xs)/\xs.length<sizeLine/\Q .non (upd H l (.lst (xs++[y])))
theorem Tv:p8 X "list.append" Tt:=by
 intro pins s σ H x vs v us Q I rx rv h
 obtain⟨l,xs,y,rfl,rfl,hH,hz,q⟩:=h
 cases rx
 obtain⟨u,rfl,ru⟩:=rv.one
 obtain⟨z,its,n,r,hl,e⟩:=I.JN hH
 refine call_meets F.slot_list_append ⟨_,e,rfl⟩ F.entry_list_append (F.args_list_append_2 _ _) (PySem.list_append l its.toArray n u (by rw[List.size_toArray]; omega)) ⟨e,?_⟩
 refine⟨.non,_,I.JM (its':=its++[u]) hH e (by simp) (r.append (.cons ru .nil)) ?_,rfl,q⟩
 rw[List.length_append,List.length_singleton]
 omega
def JQ:V->List V->Hp->VK->Prop:=λx vs H Q=>∃l xs,x=.ref l/\vs=[]/\H l=some (.lst xs)/\Q .non (upd H l (.lst []))
theorem Tw:p8 X "list.clear" JQ:=by
 intro pins s σ H x vs v us Q I rx rv h
 obtain⟨l,xs,rfl,rfl,hH,q⟩:=h
 cases rx
 have hus:=rv.zero
 subst hus
 obtain⟨z,its,n,r,hl,e⟩:=I.JN hH
 refine call_meets F.slot_list_clear ⟨_,e,rfl⟩ F.entry_list_clear (F.args_list_clear_1 _) (AutoSeq1.list_clear_list_0 l its.toArray n (by rw[List.size_toArray]; omega)) ⟨e,?_⟩
 exact⟨.non,_,I.JM (its':=[]) (ys:=[]) hH e rfl .nil (Nat.zero_le _),rfl,q⟩
theorem len_rep{α : Type}(xs:List α)(k:Nat):(List.replicate k xs).flatten.length=k*xs.length:=by
 induction k with
 |zero=>simp
 |succ k ih=>rw[List.replicate_succ,List.flatten_cons,List.length_append,ih,Nat.succ_mul,Nat.add_comm]
end
section
variable {prog:Program}{w:World}{A:Around}{E:Value->Shared->Prop}{s:Shared}
end
section
variable {X:Cx}
end
end L2
namespace JR
open PySem PySem.W PySem.Calls PyProof.Rows
theorem Tz{P:Params}{h:Heap}:∀(ns:List Int) (vs:List Value),WellAll P h vs (ns.map WData.int)->IntsAre vs ns:=by
 intro ns
 induction ns with
 |nil =>
  intro vs w
  rw[List.map_nil]at w
  cases w
  exact .nil
 |cons n ns ih =>
  intro vs w
  rw[List.map_cons]at w
  cases w with
  |cons a b =>
   cases a
   exact .cons _ _ (ih _ b)
theorem TF{l:OpenLaw}{n:Nat}(hn:l.most=some n){P:Params}{h:Heap}{args:List WData}{vals:List Value}
  (hpre:l.row.toRowW.claim.pre args=true) (hwl:WellAll P h vals args) :
  ∃a vs ns,vals=[Value.ref a]/\args=[WData.list (ns.map WData.int)]/\h.get? a=some {cls:=.type "list",data:=.seq vs.toArray }/\IntsAre vs ns/\ns.length<=n:=by
 have hsh:WShape.hasAll [] args [.list .int]=true:=(pre_splitW hpre).1
 have hc:l.pre.holds [] {args:=args }=true:=(pre_splitW hpre).2
 obtain⟨d,r,rfl,h1,h2⟩:=hasAllW_cons hsh
 obtain rfl:=hasAllW_nil h2
 obtain⟨xs,rfl,h3⟩:=hasW_list h1
 obtain⟨ns,rfl⟩:=items_int h3
 have hlen:ns.length<=n:=by
  unfold OpenLaw.pre at hc
  have h4:(WTm.not (.lt (.lit (.int (n:Int))) (.len (.arg 0)))).holds [] {args:=[.list (ns.map .int)] }=true:=by
   have h4:=(holds_andW hc).1
   rw[hn]at h4
   exact h4
  have h5:=condW_of h4 (w_not (w_lt w_lit (w_len_list (w_arg rfl))))
  rw[List.length_map]at h5
  refine Nat.le_of_not_lt λq=>?_
  have q':(n:Int)<((ns.length:Nat):Int):=by omega
  first
   |(rw[decide_eq_true q']at h5; exact absurd h5 (by decide))
   |(simp at h5; omega)
 cases hwl with
 |cons w1 w2 =>
  cases w2
  cases w1 with
  |list ho hall=>exact⟨_,_,ns,rfl,rfl,ho,Tz ns _ hall,hlen⟩
theorem TJ(l:OpenLaw)(args:List WData):l.row.toRowW.claim.post args (.bool true) args=true :=
 postW_of (r:=l.row.toRowW) (X:=(true == true))
  (show WShape.has [] (.bool true) .bool=true by first|rfl|decide|simp[WShape.has,WShape.arms,WShape.armsAll])
  (show(WTm.eq .res (.lit (.bool true))).value [] {args:=args,res:=some (.bool true),after:=args }=some (.bool (true == true))from w_eq_bool (w_res rfl) w_lit) rfl
theorem TQ{l:OpenLaw}{n:Nat}{q:Program}{loose:List Str}{XP:(Str->Option Value)->Heap->Prop}{YP:World->Heap->Prop}{d:DefRec}
  (hn:l.most=some n) (hdf:d.params.defaults=[])
  (call:∀(w:World) (s₀ s₁ : Shared) (mg mb:Str->Option Value) (fa:Addr) (o:Obj) (pm cd doc:Value) (a:Addr) (vs:List Value) (ns:List Int),
   Ground q loose [] XP w s₀ mg mb s₁.heap->YP w s₁.heap ->
   s₁.heap.get? fa=some o->o.data=.func (docDef d.name d.params d.body d.scope pm cd doc)->s₁.heap.CodeRec cd d.name->mg d.name=some (.ref fa) ->
   s₁.heap.get? a=some {cls:=.type "list",data:=.seq vs.toArray }->IntsAre vs ns->ns.length<=n->s₁.gens = #[] ->
   codeAny (model l.prog w) callerA (.call (.ref fa) ⟨[.ref a],[]⟩) (λr s'=>r=.ok (.ret (.bool true))/\OldK s₁.heap s'.heap/\s'.os=s₁.os/\AllBare s'.gens) s₁) :
  WalkO q loose XP YP l.row.toRowW d [] (λf vs=>PySem.call f vs):=by
 intro w s₀ s₁ mg mb G Y fa o pm cd doc dV kV ho hd hcd hD hmg hg args vals as hpre hlay hrd hwl hlo
 obtain rfl:dV=.none:=Dflts.none hD hdf
 obtain rfl:kV=.none:=Dflts.noKw hD
 obtain⟨a,vs,ns,rfl,rfl,hobj,hints,hlen⟩:=TF hn hpre hwl
 refine enter_call (codeAny_mono (call w s₀ s₁ mg mb fa o pm cd doc a vs ns G Y ho (fd_plain hd) hcd hmg hobj hints hlen hg) λr s' hq=>?_)
 obtain⟨rfl,h2,h3,h4⟩:=hq
 exact⟨.inl ⟨.bool true,.bool true,[],rfl,λ_=>rfl,.bool true,TJ l _,λ_=>⟨List.Pairwise.nil,λ_ hm=>(nomatch hm)⟩⟩,h2,h3,h4⟩
section
variable {prog:Program}{w:World}{A:Around}{E:Value->Shared->Prop}{s:Shared}{K:Frag}
end
end JR
namespace L2
open PySem PySem.Spec PyProof.Rows
theorem JT:∀{vs:List Value} {ns:List Int},IntsAre vs ns->Vals (ns.map V.int) vs
 |_,_,.nil=>.nil
 |_,_,.cons n t h=>.cons ⟨t,rfl⟩ (JT h)
end L2
namespace L2
open PySem PySem.Spec PyProof.Rows
end L2
namespace L2
open PySem PySem.Spec PyProof.Rows
def m7(s:Stmt):Arguments:=match s with
 |.FunctionDef _ a _ _ _ _ _ _ _ _=>a
 |_=>{posonlyargs:=[],args:=[],vararg:=none,kwonlyargs:=[],kw_defaults:=[],kwarg:=none,defaults:=[] }
def jy(s:Stmt):List Stmt:=match s with
 |.FunctionDef _ _ b _ _ _ _ _ _ _=>b
 |_=>[]
def bL(s:Stmt):Scope:=match s with
 |.FunctionDef _ _ _ _ _ _ sc _ _ _=>sc
 |_=>{kind:=.function,names:=[],isGenerator:=false,isCoroutine:=false }
abbrev E0:XK:=λ_ _ _=>False
structure su(K:FZ)(x qual:Str)(st:Stmt)(f:Addr)(fd:FuncData):Prop where
 ex:∃(oc:Value) (od:Option Addr) (kV doc pm:Value) (an:Option Addr) (cdv ct:Value) (osl:Array (Option Value)),
  fd=PySem.W.fnOf x qual (m7 st) (jy st) (bL st) .none kV doc pm an cdv ct/\K.lookup f=some ⟨oc,od,.func fd,osl⟩/\PySem.W.codeIn K cdv qual=true
 kp:PySem.W.keepIn K (.ref f)=true
section
variable {P:Program}{w:World}{K:FZ}{mg:Str->Option Value}{base:Heap}
theorem su.binds{x qual:Str}{st:Stmt}{f:Addr}{fd:FuncData}{ps:List Str}(F:su K x qual st f fd)
  (h:∀(kV doc pm:Value) (an:Option Addr) (cdv ct:Value) (us:List Value),us.length=ps.length->bindArgs (PySem.W.fnOf x qual (m7 st) (jy st) (bL st) .none kV doc pm an cdv ct) ⟨us,[]⟩=pure (ps.zip us)):Binds K fd ps []:=by
 obtain⟨oc,od,kV,doc,pm,an,cdv,ct,osl,rfl,lk,hcd⟩:=F.ex
 exact .all (h kV doc pm an cdv ct)
theorem TV{x qual:Str}{st:Stmt}{f:Addr}{oc:Value}{od an:Option Addr}{osl:Array (Option Value)}{kV doc pm cdv ct:Value}(l:K.lookup f=some ⟨oc,od,.func (PySem.W.fnOf x qual (m7 st) (jy st) (bL st) .none kV doc pm an cdv ct),osl⟩)
  (c:PySem.W.codeIn K cdv qual=true) (k:PySem.W.keepIn K (.ref f)=true):su K x qual st f (PySem.W.fnOf x qual (m7 st) (jy st) (bL st) .none kV doc pm an cdv ct):=⟨⟨oc,od,kV,doc,pm,an,cdv,ct,osl,rfl,l,c⟩,k⟩
end
theorem Ba{n:Nat}(h:n<=1000):n<sizeLine:=Nat.lt_of_le_of_lt h (by decide)
section
variable {X:Cx}
end
def Same(H H':Hp):Prop:=∀b o,H b=some o->H' b=some o
theorem Same.refl(H:Hp):Same H H:=λ_ _ h=>h
theorem Same.trans{H H1 H2:Hp}(a:Same H H1)(b:Same H1 H2):Same H H2:=λc o h=>b c o (a c o h)
theorem Same.free{H H':Hp}(e:Same H H'){l:Addr}(h:H' l=Option.none):H l=Option.none:=by
 cases q:H l with
 |none=>rfl
 |some o =>
  rw[e l o q]at h
  cases h
theorem Same.seq{K:FZ}{H H':Hp}{a:Addr}{xs:List V}(e:Same H H')(h:bG K H a xs):bG K H' a xs:=by
 rcases h with(h|⟨o,h⟩)|h
 ·exact .inl (.inl (e _ _ h))
 ·exact .inl (.inr ⟨o,e _ _ h⟩)
 ·exact .inr h
end L2
end
section
namespace L2
open PySem PySem.Spec PyProof.Rows
section
variable {prog:Program}{w:World}{A:Around}{R:Result->Shared->Prop}{s:Shared}
theorem TY{elt target iter:Expr}{scope:Scope}{pos:Pos}{it acc:Value}{env:Env}(I:Nat->Shared->Prop)
  (turn:∀n s,I n s->wpAny (model prog w) A (pyNext it) (λr s₁=>match r with
   |none=>R (.ok .next) s₁
   | some v=>wpAny (model prog w) A (letOwnedTupleGo target it v) (λ_ s₁'=>wpAny (model prog w) A (assign target env v) (λ_ s₂ => wpAny (model prog w) A (eval elt env) (λx s₃ =>
     wpAny (model prog w) A (call (.builtin "list.append") [acc,x]) (λ_ s₄=>∃m,m<n/\I m s₄) (λ_ _=>False) s₃) (λ_ _=>False) s₂) (λ_ _=>False) s₁') (λ_ _=>False) s₁) (λ_ _=>False) s)
  (n:Nat) (h:I n s) :
  codeAny (model prog w) A (.compLoop (.ListComp elt [⟨target,iter,[],0⟩] scope pos) 0 it acc env) R s:=by
 refine codeAny_loop rfl I (λn s hI=>?_) n h
 show wpAny _ _ ((compTurn (.ListComp elt [⟨target,iter,[],0⟩] scope pos) 0 it acc env).onRaise (λx=>do noteFrame x env; theTreesLotGoes x)) _ _ s
 refine wpAny_noted (wpAny_noRaise ?_)
 rw[compTurn_list1]
 refine wpAny_bind (wpAny_standAt (wpAny_bind (wpAny_mono (turn n s hI) (λr s₁ h₁=>?_) λ_ _ h'=>h')))
 cases r with
 |none=>exact wpAny_pure h₁
 |some v =>
  refine wpAny_bind (wpAny_mono h₁ (λ_ s₁' h₁'=>?_) λ_ _ h'=>h')
  exact wpAny_bind (wpAny_mono h₁' (λ_ s₂ h₂=>wpAny_bind (wpAny_bind (wpAny_mono h₂ (λx s₃ h₃=>wpAny_bind (wpAny_mono h₃
   (λ_ s₄ h₄=>wpAny_pure (wpAny_pure ⟨rfl,h₄⟩)) λ_ _ h'=>h')) λ_ _ h'=>h'))) λ_ _ h'=>h')
end
def gh(cells:List (Str × Addr)):List (Str × NameKind)->List (Str × Addr)->List (Str × Addr)
 | [],acc=>acc
 |(n,k)::r,acc=>if k=.free then(match cells.lookup n with|some a=>gh cells r ((n,a)::acc)|none=>gh cells r acc)else gh cells r acc
theorem sy{cells:List (Str × Addr)}{x:Str}{c:Addr}:∀{names:List (Str × NameKind)} {acc:List (Str × Addr)},(gh cells names acc).lookup x=some c->acc.lookup x=some c\/cells.lookup x=some c
 | [],acc,h=>.inl h
 |(n,k)::r,acc,h=>by
  unfold gh at h
  split at h
  ·split at h
   ·rename_i a ha
    rcases sy h with q|q
    ·by_cases e:x=n
     ·subst e
      rw[List.lookup_cons,beq_self_eq_true]at q
      cases q
      exact .inr ha
     ·rw[List.lookup_cons,beq_false_of_ne e]at q
      exact .inl q
    ·exact .inr q
   ·exact sy h
  ·exact sy h
theorem uG{cells:List (Str × Addr)}{x:Str}:∀{names:List (Str × NameKind)} {acc:List (Str × Addr)},((acc.lookup x).isSome=true\/((x,NameKind.free)∈names/\(cells.lookup x).isSome=true))->((gh cells names acc).lookup x).isSome=true
 | [],acc,h=>by
  rcases h with h|⟨h,_⟩
  ·exact h
  ·cases h
 |(n,k)::r,acc,h=>by
  have up:∀a,(acc.lookup x).isSome=true->(List.lookup x ((n,a)::acc)).isSome=true:=λa q=>by
   rw[List.lookup_cons]
   split
   ·rfl
   ·exact q
  unfold gh
  split
  ·rename_i hk
   split
   ·rename_i a ha
    refine uG ?_
    rcases h with h|⟨h,hc⟩
    ·exact .inl (up a h)
    ·rcases List.mem_cons.mp h with e|e
     ·cases e
      refine .inl ?_
      rw[List.lookup_cons,beq_self_eq_true]
      rfl
     ·exact .inr ⟨e,hc⟩
   ·rename_i hn
    refine uG ?_
    rcases h with h|⟨h,hc⟩
    ·exact .inl h
    ·rcases List.mem_cons.mp h with e|e
     ·cases e
      rw[hn]at hc; cases hc
     ·exact .inr ⟨e,hc⟩
  ·rename_i hk
   refine uG ?_
   rcases h with h|⟨h,hc⟩
   ·exact .inl h
   ·rcases List.mem_cons.mp h with e|e
    ·cases e; exact absurd rfl hk
    ·exact .inr ⟨e,hc⟩
theorem JV{scope:Scope}{env:Env}(h:∀y∈scope.names,y.2=.free->(env.cells.lookup y.1).isSome=true):closureFor scope env=pure (gh env.cells scope.names []):=by
 unfold closureFor
 suffices q:∀(names:List (Str × NameKind)) (acc:List (Str × Addr)),(∀y∈names,y.2=.free->(env.cells.lookup y.1).isSome=true) ->
   (forIn names acc λx r=>do
    match x with
    |(name,kind)=>if(kind == NameKind.free)=true then do let a <-cellOf env name; pure (ForInStep.yield ((name,a)::r))else pure (ForInStep.yield r):Sem _)=pure (gh env.cells names acc) by
  have z:=q scope.names [] h
  exact(congrArg (λm=>m >>= λcs=>pure cs) z)
 intro names
 induction names with
 |nil=>intro acc _; rfl
 |cons y r ih =>
  intro acc hy
  obtain⟨n,k⟩:=y
  rw[List.forIn_cons]
  unfold gh
  by_cases hk:k=.free
  ·subst hk
   rw[if_pos rfl]
   have q:=hy (n,.free) List.mem_cons_self rfl
   cases e:env.cells.lookup n with
   |none=>rw[e]at q; cases q
   |some a =>
    have ec:cellOf env n=pure a:=by unfold cellOf; rw[e]
    simp only[ec]
    exact ih _ λz hz=>hy z (List.mem_cons_of_mem _ hz)
  ·rw[if_neg hk]
   have hb:(k == NameKind.free)=false:=by simpa using hk
   simp only[hb]
   exact ih _ λz hz=>hy z (List.mem_cons_of_mem _ hz)
theorem JW{env:Env}:∀{names:List (Str × NameKind)} {x:Str},names.lookup x=some .free ->
  (names.map λ(n,k)=>if(k == NameKind.free&&env.scope.kind == .function&&env.kindOf n == some .cell)then(n,NameKind.cell)else(n,k)).lookup x=some .cell \/
  (names.map λ(n,k)=>if(k == NameKind.free&&env.scope.kind == .function&&env.kindOf n == some .cell)then(n,NameKind.cell)else(n,k)).lookup x=some .free
 | [],_,h=>by simp at h
 |(n,k)::r,x,h=>by
  have ih:=@JW env r x
  rw[List.map_cons]
  dsimp only
  cases hx:x == n with
  |true =>
   simp only[List.lookup_cons,hx]at h
   cases h
   by_cases hc:(NameKind.free == NameKind.free&&env.scope.kind == .function&&env.kindOf n == some .cell)=true
   ·rw[if_pos hc]; simp[List.lookup_cons,hx]
   ·rw[if_neg hc]; simp[List.lookup_cons,hx]
  |false =>
   simp only[List.lookup_cons,hx]at h
   by_cases hc:(k == NameKind.free&&env.scope.kind == .function&&env.kindOf n == some .cell)=true
   ·rw[if_pos hc]; simp only[List.lookup_cons,hx]; exact ih h
   ·rw[if_neg hc]; simp only[List.lookup_cons,hx]; exact ih h
theorem JX{env:Env}:∀{names:List (Str × NameKind)} {x:Str},
  ((names.map λ(n,k)=>if(k == NameKind.free&&env.scope.kind == .function&&env.kindOf n == some .cell)then(n,NameKind.cell)else(n,k)).lookup x=some .cell \/
  (names.map λ(n,k)=>if(k == NameKind.free&&env.scope.kind == .function&&env.kindOf n == some .cell)then(n,NameKind.cell)else(n,k)).lookup x=some .free)->names.lookup x=some .cell\/names.lookup x=some .free
 | [],_,h=>by simp at h
 |(n,k)::r,x,h=>by
  have ih:=@JX env r x
  rw[List.map_cons]at h
  dsimp only at h
  cases hx:x == n with
  |true =>
   by_cases hcc:(k == NameKind.free&&env.scope.kind == .function&&env.kindOf n == some .cell)=true
   ·have hk:k=.free:=by
     simp only[Bool.and_eq_true,beq_iff_eq]at hcc
     exact hcc.1.1
    subst hk
    exact .inr (by simp only[List.lookup_cons,hx])
   ·rw[if_neg hcc]at h
    simp only[List.lookup_cons,hx]at h ⊢
    exact h
  |false =>
   have q:=ih (by
    by_cases hcc:(k == NameKind.free&&env.scope.kind == .function&&env.kindOf n == some .cell)=true
    ·rw[if_pos hcc]at h; simp only[List.lookup_cons,hx]at h; exact h
    ·rw[if_neg hcc]at h; simp only[List.lookup_cons,hx]at h; exact h)
   simp only[List.lookup_cons,hx]
   exact q
theorem oN:∀(names:List (Str × NameKind)) (n:Nat) (acc:List (Str × Addr)),cellsFrom n names acc=cellsFrom n names []++acc
 | [],_,_=>rfl
 |(x,k)::r,n,acc=>by
  unfold cellsFrom
  split
  ·rw[oN r (n+1) ((x,n)::acc),oN r (n+1) [(x,n)],List.append_assoc]
   rfl
  ·exact oN r n acc
theorem Bb:∀(names:List (Str × NameKind)) (n:Nat) {x:Str} {c:Addr},(x,c)∈cellsFrom n names []->(x,NameKind.cell)∈names
 | [],_,_,_,h=>by cases h
 |(y,k)::r,n,x,c,h=>by
  unfold cellsFrom at h
  split at h
  ·rename_i hk
   have hk:k=.cell:=by simpa using hk
   rw[oN]at h
   rcases List.mem_append.mp h with z|z
   ·exact List.mem_cons_of_mem _ (Bb r _ z)
   ·have z:=List.mem_singleton.mp z
    cases z
    rw[hk]
    exact List.mem_cons_self
  ·exact List.mem_cons_of_mem _ (Bb r _ h)
theorem uH(x:Str):∀(a b:List (Str × Addr)),(a++b).lookup x=(match a.lookup x with|some c=>some c|none=>b.lookup x)
 | [],_=>rfl
 |(y,c)::r,b=>by
  have ih:=uH x r b
  rw[List.cons_append,List.lookup_cons,List.lookup_cons]
  cases h:x == y with
  |true=>rfl
  |false=>exact ih
theorem T3{M:Model}{A:Around}{E:Value->Shared->Prop}{s:Shared}{scope:Scope}{globals:Addr}{cl:List (Str × Addr)}{qual:Str}{env:Env}{Q:Env->Shared->Prop}
  (hQ:∀h',h'.Ns s.heap.objs.size (λ_=>none)->(∀b o,s.heap.get? b=some o->h'.get? b=some o)->CellsOk h' (s.heap.objs.size+1) (cellsFrom (s.heap.objs.size+1) scope.names []) ->
   Q {scope:=scope,locals:=s.heap.objs.size,globals:=globals,cells:=cellsFrom (s.heap.objs.size+1) scope.names cl,qual:=qual,func:=none,code:=env.code,frame:=env.frame,builtins:=env.builtins } {s with heap:=h',toks:=s.toks+([]:List (Str × Value)).length }) :
  wpAny M A (newFunctionEnv scope globals cl [] qual none .none (some env)) Q E s:=by
 simp only[newFunctionEnv,Option.isSome_some,if_true]
 refine wpAny_bind (wpAny_alloc ?_)
 refine wpAny_bind (wpAny_layCells _ (λname kind cells=>by cases hkc:kind == NameKind.cell <;> simp[hkc]) _ _ _ _ ?_)
 have ok:=cellsFrom_ok scope.names (s.heap.push {cls:=.type "dict",data:=.dict #[] }) (s.heap.objs.size+1) [] ⟨λ_ _ hm=>(nomatch hm),List.Pairwise.nil⟩ (by rw[Heap.size_push]; exact Nat.le_refl _)
 rw[Heap.size_push]at ok
 rw[show({s with heap:=s.heap.push {cls:=.type "dict",data:=.dict #[] } }:Shared).heap.objs.size=s.heap.objs.size+1 from Heap.size_push ..]
 rw[List.forIn_nil]
 exact wpAny_bind (wpAny_pure (wpAny_pure (hQ _ ((Heap.Ns.new s.heap (.type "dict")).keeps (pushCells_keeps _ _)) (λb o e=>pushCells_keeps _ _ b o (Heap.get?_push_of_some _ e)) ok)))
structure wW(sc:Scope)(No N:List Str)(src:List (Option Nat))(scope:Scope):Prop where
 kind:scope.kind=.function
 cells:∀y∈scope.names,y.2=.cell->scope.names.lookup y.1=some .cell
 names:∀y∈scope.names,y.2=.local->scope.names.lookup y.1=some .local
 free:∀y∈scope.names,y.2=.free->sc.names.lookup y.1=some .cell\/sc.names.lookup y.1=some .free
 len:src.length=N.length
 up:∀p∈N.zip src,∀j∈p.2,No[j]?=some p.1/\scope.names.lookup p.1=some .free
def gP(src:List (Option Nat))(σ : St):St:=src.map λo=>o.bind λj=>(σ[j]?).join
noncomputable def jL(X:Cx)(N:List Str)(scope:Scope)(C:Addr)(s:Shared)(H:Hp)(ex:List Addr):Cx where
 prog:=X.prog
 w:=X.w
 K:=X.K
 mg:=X.mg
 base:=X.base
 A:=X.A
 N:=N
 s₀ := s
 H₀ := H
 env:=compEnvC scope (cellsFrom (C+1) scope.names (gh X.env.cells scope.names [])) C X.env
 outer:=X.stack
 stack:=X.stack
 ex:=ex
 fn:=λx=>scope.names.lookup x == some .cell
 calm:=X.calm
 pn:=[]
 xe:=λ_ _=>False
def JZ(Q:VK)(D:Addr)(H:Hp):Prop:=Q (.ref D) H
noncomputable def qd(wi:TI)(g:TG)(src:List (Option Nat))(te:TE):TE:=λσ H Q=>wi σ H λJ H1=>∀D,H1 D=none ->
 ∃W:Nat->Nat->St->Hp->Prop,(∃m,W 0 m (gP src σ) (upd H1 D (.lst [])))/\∀i m σ' H',W i m σ' H' ->
  (J.stop i H'/\JZ Q D H')\/(J.go i H'/\∀x gj,J.rR i H' x gj->g x σ' gj λσ2 H2=>te σ2 H2 λv H3=>∃xs,H3 D=some (.lst xs)/\xs.length<sizeLine/\∃m',m'<m/\W (i+1) m' σ2 (upd H3 D (.lst (xs++[v]))))
section
variable {X:Cx}{elt tg iter:Expr}{scope sc:Scope}{pos:Pos}{No N:List Str}{src:List (Option Nat)}{wi:TI}{g:TG}{te:TE}
theorem T4{pins:List (Addr × Obj)}{σ : St}{H:Hp}{s:Shared}{h₁ : Heap}{fp:List Addr}{tk:Nat}(hsc:X.env.scope=sc)(qe:X.N=No)(S:wW sc No N src scope)(I:Inv X pins σ H s)
  (hf:∀b∈fp,lA X pins H b) (hlt:∀b∈fp,b<s.heap.objs.size)
  (hns:h₁.Ns s.heap.objs.size (λ_=>none)) (old:∀b o,s.heap.get? b=some o->h₁.get? b=some o) (ck:CellsOk h₁ (s.heap.objs.size+1) (cellsFrom (s.heap.objs.size+1) scope.names [])) :
  Inv (jL X N scope s.heap.objs.size s H fp) [] (gP src σ) H {s with heap:=h₁,toks:=tk }:=by
 subst hsc
 subst qe
 have sE:∀x c,(cellsFrom (s.heap.objs.size+1) scope.names (gh X.env.cells scope.names [])).lookup x=some c->(cellsFrom (s.heap.objs.size+1) scope.names []).lookup x=some c\/X.env.cells.lookup x=some c:=λx c h=>by
  rw[oN,uH]at h
  split at h
  ·rename_i e
   exact .inl (e.trans h)
  ·rcases sy h with q|q
   ·simp at q
   ·exact .inr q
 have big:∀x c,(cellsFrom (s.heap.objs.size+1) scope.names []).lookup x=some c->s.heap.objs.size+1<=c:=λx c h=>(ck.empty x c (PySem.mem_of_lookup h)).2
 have J0:∀x c,X.env.cells.lookup x=some c->c<s.heap.objs.size:=λx c e=>by
  obtain⟨v,q⟩:=I.cell x c e
  exact q.lt
 have aec:∀b∈frs X.stack,b<s.heap.objs.size:=λb hb=>by
  obtain⟨_,o,ho,_⟩:=I.stack.mem hb
  exact Heap.lt_size ho
 refine⟨⟨I.ok.mod,S.kind,I.ok.glob,I.ok.blt,Nat.le_refl _,λx y c h1 h2=>?_,λx hx=>?_,λx c hfn h=>?_,I.ok.hd,I.ok.frames,.inl rfl,λb hb=>⟨Nat.ne_of_lt (hlt b hb),λx c e=>?_⟩,
   I.bs,Nat.le_trans I.ok.pR I.sz,λb o e hb=>?_,λb hb hb'=>?_,I.stack,I.zQ⟩,
  rfl,I.bare,Un.kept old,⟨_,hns,λi x v h1 h2 h3=>?_⟩,λx c e=>?_,I.hok.fresh (Nat.le_refl _),λx c e=>?_,λp hp=>absurd (show p∈([]:List (Addr × Obj))from hp) (by simp),I.hok.kept old,?_⟩
 ·rcases sE _ _ h1 with z1|z1
  ·rcases sE _ _ h2 with z2|z2
   ·exact name_of_addr ck.apart (PySem.mem_of_lookup z1) (PySem.mem_of_lookup z2)
   ·exact absurd (Nat.le_trans (big _ _ z1) (Nat.le_of_lt (J0 _ _ z2))) (Nat.not_succ_le_self _)
  ·rcases sE _ _ h2 with z2|z2
   ·exact absurd (Nat.le_trans (big _ _ z2) (Nat.le_of_lt (J0 _ _ z1))) (Nat.not_succ_le_self _)
   ·exact I.ok.inj x y c z1 z2
 ·-- every cell or free name has its cell
  rcases JX hx with m|m
  ·exact Option.isSome_iff_exists.mp (PySem.W.cellsFrom_some _ _ _ (.inl m))
  ·have m:=PySem.mem_of_lookup m
   have q:=uG (cells:=X.env.cells) (acc:=[]) (.inr ⟨m,by
    obtain⟨c,e⟩:=I.ok.has x (S.free _ m rfl)
    rw[e]; rfl⟩)
   exact Option.isSome_iff_exists.mp (PySem.W.cellsFrom_some _ _ _ (.inr q))
 ·have hfn:scope.names.lookup x=some .cell:=by
   have z:(scope.names.lookup x == some .cell)=true:=hfn
   simpa using z
  obtain⟨c',e'⟩:=Option.isSome_iff_exists.mp (PySem.W.cellsFrom_some _ (s.heap.objs.size+1) [] (.inl hfn))
  have h:(cellsFrom (s.heap.objs.size+1) scope.names (gh X.env.cells scope.names [])).lookup x=some c:=h
  rw[oN,uH,e']at h
  cases h
  exact Nat.le_of_succ_le (big _ _ e')
 ·rcases sE _ _ e with z|z
  ·exact λy=>absurd (Nat.le_trans (big _ _ z) (y▸Nat.le_of_lt (hlt b hb))) (Nat.not_succ_le_self _)
  ·exact(hf b hb).2.2.2.2.1 x c z
 ·obtain⟨f0,f1,f2,f3,f4,f5⟩:=hf b hb
  rcases f3 with z|z
  ·exact I.ok.iV b o e z
  ·have q:=Heap.lt_size (I.ok.bs b o e).1
   exact absurd q (Nat.not_lt.mpr z)
 ·obtain⟨f0,f1,f2,_⟩:=hf b hb
  rcases List.mem_cons.mp (I.wk b hb')with z|z
  ·exact f1 z
  ·exact f2 z
 ·have hi:i<src.length:=by
   unfold gP at h2
   have:=(List.getElem?_eq_some_iff.mp h2).1
   simpa using this
  have h2':((src[i]).bind λj=>(σ[j]?).join)=some v:=by
   unfold gP at h2
   rw[List.getElem?_map,List.getElem?_eq_getElem hi]at h2
   exact Option.some.inj h2
  cases es:src[i]with
  |none=>rw[es]at h2'; cases h2'
  |some j =>
   rw[es]at h2'
   have hj : σ[j]?=some (some v):=by
    have z:(σ[j]?).join=some v:=h2'
    cases q : σ[j]? with
    |none=>rw[q]at z; cases z
    |some o=>rw[q]at z; have z':o=some v:=z; rw[z']
   have hz:(x,some j)∈N.zip src:=by
    refine List.mem_of_getElem? (i:=i) ?_
    rw[List.getElem?_zip_eq_some]
    exact⟨h1,by rw[List.getElem?_eq_getElem hi,es]⟩
   obtain⟨u1,u2⟩:=S.up _ hz j rfl
   have m:(x,NameKind.free)∈scope.names:=PySem.mem_of_lookup u2
   have kx:=S.free _ m rfl
   obtain⟨m0,hn0,hl0⟩:=id I.loc
   obtain⟨u,r,lk⟩:=hl0 j x v u1 hj (kx.elim (λz=>.inr (.inl z)) λz=>.inr (.inr z))
   refine⟨u,r,?_⟩
   rcases lk with⟨k,_⟩|⟨_,c,e,ic⟩
   ·have k':X.env.scope.names.lookup x=some .local:=k
    rcases kx with z|z
    ·rw[z]at k'; cases k'
    ·rw[z]at k'; cases k'
   ·refine .inr ⟨JW u2,c,?_,?_⟩
    ·have q:=uG (cells:=X.env.cells) (acc:=[]) (.inr ⟨m,by rw[e]; rfl⟩)
     obtain⟨c',e'⟩:=Option.isSome_iff_exists.mp q
     have e2:X.env.cells.lookup x=some c':=by
      rcases sy e' with q|q
      ·simp at q
      ·exact q
     rw[e]at e2; cases e2
     show(cellsFrom (s.heap.objs.size+1) scope.names (gh X.env.cells scope.names [])).lookup x=some c
     rw[oN,uH]
     split
     ·rename_i c2 z
      have y:=S.cells _ (Bb _ _ (PySem.mem_of_lookup z)) rfl
      rw[u2]at y; cases y
     ·exact e'
    ·obtain⟨o,ho,hd⟩:=ic
     exact⟨o,old _ _ ho,hd⟩
 ·rcases sE _ _ e with z|z
  ·exact⟨_,(ck.empty x c (PySem.mem_of_lookup z)).1⟩
  ·obtain⟨v,o,ho,hd⟩:=I.cell x c z
   exact⟨v,o,old _ _ ho,hd⟩
 ·rcases sE _ _ e with z|z
  ·exact I.hok.fresh (Nat.le_of_succ_le (big _ _ z))
  ·exact I.lU x c z
 ·unfold gP
  rw[List.length_map]
  exact S.len
theorem J1{pins:List (Addr × Obj)}{σ : St}{H:Hp}{s:Shared}{Q:VK}{RR:Value->Addr->Result->Shared->Prop}(hsc:X.env.scope=sc)(qe:X.N=No)(S:wW sc No N src scope)(hc:X.calm=true)
  (hi:PI X tg iter wi) (hg:∀C s H ex,PG (jL X N scope C s H ex) tg g) (he:∀C s H ex,PE (jL X N scope C s H ex) elt te) (I:Inv X pins σ H s) (h:qd wi g src te σ H Q)
  (hRR:∀D C H' s' m,Inv X pins σ H' s'->H' C=none->C≠X.env.locals->X.s₀.heap.objs.size<=C->(∀x c,X.env.cells.lookup x=some c->c≠C)->(∀p∈X.pn++pins,p.1≠C)->s'.heap.Ns C m->Q (.ref D) H'->RR (.ref D) C (.ok .next) s') :
  wpAny (model X.prog X.w) X.A (eval iter X.env) (λx s₁=>wpAny (model X.prog X.w) X.A (pyIter x) (λit s₂=>wpAny (model X.prog X.w) X.A (newList []) (λacc s₃ =>
   wpAny (model X.prog X.w) X.A (newFunctionEnv scope X.env.globals (gh X.env.cells scope.names []) [] X.env.qual none .none (some X.env)) (λcenv s₄ =>
    codeAny (model X.prog X.w) X.A (.compStart (.ListComp elt [⟨tg,iter,[],0⟩] scope pos) 0 it acc {cenv with scope:=relabel scope X.env }) (RR acc cenv.locals) s₄) X.xe s₃) X.xe s₂) X.xe s₁) X.xe s:=by
 refine bf (hi pins s σ H _ I h) λv s1 h1=>bf h1 λitv s2 h2=>?_
 obtain⟨it,fp,tn,J,H2,e,I2,T,st2,f2,hW⟩:=h2
 subst e
 have T5:H2 s2.heap.objs.size=none:=I2.hok.fresh (Nat.le_refl _)
 obtain⟨W,⟨m0,w0⟩,turn⟩:=hW s2.heap.objs.size T5
 have J2:∀b∈fp,b<s2.heap.objs.size:=λb hb=>by
  obtain⟨o,e,_⟩:=T.obj 0 _ st2 b hb
  exact Heap.lt_size e
 refine wpAny_newObj_type ?_
 have I3:Inv X pins σ (upd H2 s2.heap.objs.size (.lst [])) {s2 with heap:=s2.heap.push {cls:=.type "list",dict:=none,data:=.seq ([]:List Value).toArray } }:=I2.rZ (t':=s2.toks) (ys:=[]) .nil (Nat.zero_le _)
 have f3:∀b∈fp,lA X pins (upd H2 s2.heap.objs.size (.lst [])) b:=λb hb=>by
  obtain⟨q,r⟩:=f2 b hb
  exact⟨by rw[bQ (Nat.ne_of_lt (J2 b hb))]; exact q,r⟩
 have st3:tn 0 (s2.heap.push {cls:=.type "list",dict:=none,data:=.seq ([]:List Value).toArray }):=T.keep _ _ _ st2 λb hb o e=>Heap.get?_push_of_some _ e
 have m8:∀b∈fp,b<(s2.heap.push {cls:=.type "list",dict:=none,data:=.seq ([]:List Value).toArray }).objs.size:=λb hb=>by
  rw[Heap.size_push]; exact Nat.lt_succ_of_lt (J2 b hb)
 generalize hD:s2.heap.objs.size=D at *
 generalize hh3:s2.heap.push {cls:=.type "list",dict:=none,data:=.seq ([]:List Value).toArray }=h3 at *
 generalize hH3:upd H2 D (.lst [])=H3 at *
 refine T3 λh₁ hns old ck=>?_
 dsimp only at hns old ck ⊢
 have I4:Inv (jL X N scope h3.objs.size {s2 with heap:=h3 } H3 fp) [] (gP src σ) H3 {s2 with heap:=h₁,toks:=s2.toks+([]:List (Str × Value)).length }:=T4 (s:={s2 with heap:=h3 }) hsc qe S I3 f3 m8 hns old ck
 have J3:tn 0 h₁ := T.keep _ _ _ st3 λb hb o e=>old b o e
 have loop:codeAny (model X.prog X.w) X.A (.compLoop (.ListComp elt [⟨tg,iter,[],0⟩] scope pos) 0 (.ref it) (.ref D) (compEnvC scope (cellsFrom (h3.objs.size+1) scope.names (gh X.env.cells scope.names [])) h3.objs.size X.env)) (RR (.ref D) h3.objs.size) {s2 with heap:=h₁,toks:=s2.toks+([]:List (Str × Value)).length }:=by
  have stat:∀{H':Hp},(∀b∈fp,H' b=none)->∀b∈fp,lA (jL X N scope h3.objs.size {s2 with heap:=h3 } H3 fp) [] H' b:=λhn b hb=>by
   obtain⟨g0,g1,g2,g3,g4,g5⟩:=f3 b hb
   refine⟨hn b hb,Nat.ne_of_lt (m8 b hb),λz=>?_,.inl hb,λx c e=>?_,λp hp=>absurd (show p∈([]:List (Addr × Obj))from hp) (by simp)⟩
   ·rcases List.mem_cons.mp (I3.wk b z)with z|z
    ·exact g1 z
    ·exact g2 z
   ·have e:(cellsFrom (h3.objs.size+1) scope.names (gh X.env.cells scope.names [])).lookup x=some c:=e
    rw[oN,uH]at e
    split at e
    ·rename_i z
     cases e
     exact λy=>absurd (Nat.le_trans (ck.empty x c (PySem.mem_of_lookup z)).2 (y▸Nat.le_of_lt (m8 b hb))) (Nat.not_succ_le_self _)
    ·rcases sy e with q|q
     ·simp at q
     ·exact g4 x c q
  refine TY (λn s'=>∃i σ' H',Inv (jL X N scope h3.objs.size {s2 with heap:=h3 } H3 fp) [] σ' H' s'/\tn i s'.heap/\(∀b∈fp,H' b=none)/\W i n σ' H') ?_ m0 ⟨0,gP src σ,H3,I4,J3,λb hb=>(f3 b hb).1,w0⟩
  rintro n s5 ⟨i,σ5,H5,I5,lX,wL,w5⟩
  rcases turn i n σ5 H5 w5 with⟨stop,qn⟩|⟨go,step⟩
  ·refine bf (T.done (jL X N scope h3.objs.size {s2 with heap:=h3 } H3 fp) rfl rfl rfl hc i [] s5 σ5 H5 (λ_ _=>False) I5 (stat wL) lX stop) λr s6 ⟨hr,I6⟩=>?_
   subst hr
   obtain⟨mC,hnC,_⟩:=id I6.loc
   have I7:Inv X pins σ H5 s6:=I3.call' (ch:=fp) I6.os I6.base I6.hok I6.bare λb hb=>by
    obtain⟨g0,g1,g2,g3,g4,g5⟩:=f3 b hb
    exact⟨g3,g1,g4,g5⟩
   refine hRR D h3.objs.size H5 s6 mC I7 I6.free (Nat.ne_of_gt I3.lt) I3.sz (λx c e z=>?_) (λp hp z=>?_) hnC qn
   ·obtain⟨v,q⟩:=I3.cell x c e
    exact absurd q.lt (by rw[z]; exact Nat.lt_irrefl _)
   ·exact absurd (Heap.lt_size (I3.pin p hp).1) (by rw[z]; exact Nat.lt_irrefl _)
  ·refine bf (T.item (jL X N scope h3.objs.size {s2 with heap:=h3 } H3 fp) rfl rfl rfl hc i [] s5 σ5 H5 (λ_ _=>False) I5 (stat wL) lX go) λr s6 ⟨u,hr,h6⟩=>?_
   subst hr
   refine bf h6 λ_ s7 ⟨x,H7,I7,r7,y7,Bc,T6⟩=>?_
   have T8:=I7.pinned (stat T6) (T.obj _ _ Bc)
   refine bf (hg _ _ _ _ _ s7 σ5 H7 x u _ T8 r7 (step x H7 y7)) λ_ s8 ⟨σ8,H8,I8,q8⟩=>?_
   refine bf (he _ _ _ _ _ s8 σ8 H8 _ I8 q8) λyv s9 ⟨y,H9,I9,r9,q9⟩=>?_
   obtain⟨xs,e9,l9,m',hm,w9⟩:=q9
   refine bf (Tv (X:=jL X N scope h3.objs.size {s2 with heap:=h3 } H3 fp) _ s9 σ8 H9 (.ref D) [y] (.ref D) [yv] (λ_ H'=>W (i+1) m' σ8 H') I9 rfl (.cons r9 .nil) ⟨D,xs,y,rfl,rfl,e9,l9,w9⟩) λ_ s10 ⟨_,T9,Bd,_,Ua⟩=>?_
   refine⟨m',hm,i+1,σ8,T9,Bd.wJ (pins:=[]),T.keep _ _ _ Bc λb hb o e=>(Bd.pin (b,o) (List.mem_append_right _ (List.mem_append_right _ (wI hb e)))).1,λb hb=>?_,Ua⟩
   obtain⟨o,e,d⟩:=T.obj _ _ Bc b hb
   exact(Bd.pin (b,o) (List.mem_append_right _ (List.mem_append_right _ (wI hb e)))).2.1
 exact codeAny_compStart_list loop (T.self _ _ _ _ _ J3 loop)
theorem Bf(hsc:X.env.scope=sc)(qe:X.N=No)(S:wW sc No N src scope)(hc:X.calm=true)
  (hi:PI X tg iter wi) (hg:∀C s H ex,PG (jL X N scope C s H ex) tg g) (he:∀C s H ex,PE (jL X N scope C s H ex) elt te)
  (hs:∀x,foldedSetIterable iter X.env x=pure x:=by intro _; rfl):PE X (.ListComp elt [⟨tg,iter,[],0⟩] scope pos) (qd wi g src te):=by
 refine⟨λpins s σ H Q I h=>?_⟩
 rw[eval_ListComp]
 have hcl:closureFor scope X.env=pure (gh X.env.cells scope.names []):=JV λy hy e=>by
  have k:=S.free y hy e
  rw[<-hsc]at k
  obtain⟨c,q⟩:=I.ok.has y.1 k
  rw[q]; rfl
 refine wpAny_comprehension_free (use:=none) rfl hs hcl S.kind S.names (J1 (RR:=λacc C=>compPost (model X.prog X.w) X.A X.xe none (EP X pins σ Q) acc C) hsc qe S hc hi hg he I h ?_)
 intro D C H' s' m I' n1 n2 n3 n4 n5 hn q
 refine⟨m,hn,λh' hs'=>⟨.ref D,H',?_,rfl,q⟩⟩
 exact I'.turned (t':=s'.toks) (λb o hb e=>(hs'.2 b hb).trans e) n1 (Ne.symm (Ne.symm n2)) (.inr n3) n4 n5
theorem Ub{i:Nat}{y:Str}{py spos:Pos}(hN:X.N.Nodup)(Uc:X.N[i]?=some y)(hy:Loc X.env.scope y)(hsc:X.env.scope=sc)(qe:X.N=No)(S:wW sc No N src scope)(hc:X.calm=true)
  (hi:PI X tg iter wi) (hg:∀C s H ex,PG (jL X N scope C s H ex) tg g) (he:∀C s H ex,PE (jL X N scope C s H ex) elt te)
  (hsw:swapsWith (.ListComp elt [⟨tg,iter,[],0⟩] scope pos) (some (.Name y py)) spos.line X.env=pure true:=by rfl) (hs:∀x,foldedSetIterable iter X.env x=pure x:=by intro _; rfl)
  (hf:X.fn y=true\/X.env.scope.names.lookup y=some .local:=by first|exact .inl rfl|exact .inr rfl|assumption) :
  PS X (.Assign [.Name y py] (.ListComp elt [⟨tg,iter,[],0⟩] scope pos) spos) (jJ (qd wi g src te) (iC i)):=by
 refine⟨λpins s σ H D I h=>?_⟩
 rw[exec_Assign_Name_used _ _ _ _ hsw]
 have hcl:closureFor scope X.env=pure (gh X.env.cells scope.names []):=JV λy hy e=>by
  have k:=S.free y hy e
  rw[<-hsc]at k
  obtain⟨c,q⟩:=I.ok.has y.1 k
  rw[q]; rfl
 refine wpAny_bind (wpAny_standAt (wpAny_bind ?_))
 show wpAny _ X.A (do let _ <-comprehension (.ListComp elt [⟨tg,iter,[],0⟩] scope pos) scope X.env _ (newList []) false (eval iter X.env) (some (assign (.Name y py) X.env))) _ _ s
 refine wpAny_bind (wpAny_mono (wpAny_comprehension_free (use:=some (assign (.Name y py) X.env)) (Q:=λ_ s'=>SP X pins D .next s') rfl hs hcl S.kind S.names
  (J1 (Q:=λv H'=>D.nx (σ.set i (some v)) H') (RR:=λacc C=>compPost (model X.prog X.w) X.A X.xe (some (assign (.Name y py) X.env)) (λ_ s'=>SP X pins D .next s') acc C) hsc qe S hc hi hg he I h ?_)) (λ_ s' hq=>wpAny_pure (wpAny_pure hq)) λ_ _ e=>e)
 intro Da C H' s' m I' n1 n2 n3 n4 n5 hn q
 show wpAny _ X.A (assign (.Name y py) X.env (.ref Da)) _ _ _
 refine wpAny_assign_Name (HB I' hN Uc hy (v:=.ref Da) rfl (λs2 I2 hsame=>?_) hf)
 obtain⟨a,hsb,ha⟩:=hsame
 have Ud:C≠a:=by
  rcases ha with z|z
  ·rw[z]; exact n2
  ·exact λe=>n4 y a z e.symm
 refine⟨m,hn.sameBut hsb Ud,λh' hs'=>⟨σ.set i (some (.ref Da)),H',?_,q⟩⟩
 exact I2.turned (t':=s2.toks) (λb o hb e=>(hs'.2 b hb).trans e) n1 n2 (.inr n3) n4 n5
end
section
variable {K:FZ}{g:TG}{te:TE}{Q:VK}
end
end L2
end
section
namespace L2
open PySem PySem.Spec PyProof.Rows
def Bg(e C:Addr)(h:Heap):Prop:=∃o vs,h.get? e=some o/\o.cls=.ref C/\o.data=.fields vs
def uJ(e C:Addr):HO:=.ext (Bg e C)
def lC:List Str:=["NoBottom", "NoBook", "NoList", "NoRule", "NoCount", "NoLooks", "NoThings", "NotSure", "NoSlack", "NoThing", "NoWorth", "TooMany", "NoText", "NoLine"]
inductive Tr where
 |non|bl (b:Bool)|int (i:Int)|str (x:Str)|tup (ts:List Tr)|lst (ts:List Tr)|bY (c:Str)
mutual
inductive Rep(K:FZ)(H:Hp):V->Tr->Prop
 |non:Rep K H .non .non
 |bl (b:Bool):Rep K H (.bl b) (.bl b)
 |int (i:Int):Rep K H (.int i) (.int i)
 |str (x:Str):Rep K H (.str x) (.str x)
 |tup {a:Addr} {xs:List V} {ts:List Tr} (h:cj K H a xs) (r:aF K H xs ts):Rep K H (.ref a) (.tup ts)
 |lst {a:Addr} {xs:List V} {ts:List Tr} (h:bG K H a xs) (r:aF K H xs ts):Rep K H (.ref a) (.lst ts)
 |bY {a C:Addr} {c:Str} (h:H a=some (uJ a C)) (m:c∈lC) (n:PySem.W.nsIn K mainGlobals c=some (some (.ref C))):Rep K H (.ref a) (.bY c)
inductive aF(K:FZ)(H:Hp):List V->List Tr->Prop
 |nil:aF K H [] []
 |cons {x:V} {t:Tr} {xs:List V} {ts:List Tr} (h:Rep K H x t) (r:aF K H xs ts):aF K H (x::xs) (t::ts)
end
theorem Same.qg{K:FZ}{H H':Hp}{a:Addr}{xs:List V}(e:Same H H')(h:cj K H a xs):cj K H' a xs:=by
 rcases h with(h|⟨o,h⟩)|h
 ·exact .inl (.inl (e _ _ h))
 ·exact .inl (.inr ⟨o,e _ _ h⟩)
 ·exact .inr h
mutual
theorem Rep.mono{K:FZ}{H H':Hp}(e:Same H H'):∀{v:V} {t:Tr},Rep K H v t->Rep K H' v t
 |_,_,.non=>.non
 |_,_,.bl b=>.bl b
 |_,_,.int i=>.int i
 |_,_,.str x=>.str x
 |_,_,.tup h r=>.tup (e.qg h) (aF.mono e r)
 |_,_,.lst h r=>.lst (e.seq h) (aF.mono e r)
 |_,_,.bY h m n=>.bY (e _ _ h) m n
theorem aF.mono{K:FZ}{H H':Hp}(e:Same H H'):∀{v:List V} {t:List Tr},aF K H v t->aF K H' v t
 |_,_,.nil=>.nil
 |_,_,.cons h r=>.cons (Rep.mono e h) (aF.mono e r)
end
theorem aF.length{K:FZ}{H:Hp}:∀{v:List V} {t:List Tr},aF K H v t->v.length=t.length
 |_,_,.nil=>rfl
 |_,_,.cons _ r=>by rw[List.length_cons,List.length_cons,aF.length r]
theorem aF.get{K:FZ}{H:Hp}:∀{v:List V} {t:List Tr} {i:Nat} {x:V},aF K H v t->v[i]?=some x->∃u,t[i]?=some u/\Rep K H x u
 |_,_,_,_,.nil,e=>by simp at e
 |_,_,0,_,.cons h _,e=>by
  simp at e
  subst e
  exact⟨_,rfl,h⟩
 |_,_,i+1,x,.cons _ r,e=>by
  obtain⟨u,h1,h2⟩:=aF.get (i:=i) (x:=x) r (by simpa using e)
  exact⟨u,by simpa using h1,h2⟩
theorem aF.app{K:FZ}{H:Hp}:∀{v w:List V} {t u:List Tr},aF K H v t->aF K H w u->aF K H (v++w) (t++u)
 |_,_,_,_,.nil,s=>s
 |_,_,_,_,.cons h r,s=>.cons h (aF.app r s)
theorem aF.take{K:FZ}{H:Hp}:∀{v:List V} {t:List Tr} (n:Nat),aF K H v t->aF K H (v.take n) (t.take n)
 |_,_,0,_=>by rw[List.take_zero,List.take_zero]; exact .nil
 |_,_,n+1,.nil=>by simpa using aF.nil
 |_,_,n+1,.cons h r=>by
  rw[List.take_succ_cons,List.take_succ_cons]
  exact .cons h (aF.take n r)
theorem aF.drop{K:FZ}{H:Hp}:∀{v:List V} {t:List Tr} (n:Nat),aF K H v t->aF K H (v.drop n) (t.drop n)
 |_,_,0,r=>by rw[List.drop_zero,List.drop_zero]; exact r
 |_,_,n+1,.nil=>by simpa using aF.nil
 |_,_,n+1,.cons h r=>by
  rw[List.drop_succ_cons,List.drop_succ_cons]
  exact aF.drop n r
mutual
noncomputable def dep:Tr->Nat
 |.tup ts=>deps ts+1
 |.lst ts=>deps ts+1
 |.bY _=>100
 |_=>0
noncomputable def deps:List Tr->Nat
 | []=>0
 |t::r=>max (dep t) (deps r)
end
mutual
noncomputable def eqT:Tr->Tr->Bool
 |.non,.non=>true
 |.bl a,.bl b=>a == b
 |.bl a,.int b=>(if a then 1 else 0) == b
 |.int a,.bl b=>a == (if b then 1 else 0)
 |.int a,.int b=>a == b
 |.str a,.str b=>a == b
 |.tup a,.tup b=>lY a b
 |.lst a,.lst b=>lY a b
 |.bY a,.bY b=>a == b
 |_,_=>false
noncomputable def lY:List Tr->List Tr->Bool
 | [],[]=>true
 |a::x,b::y=>eqT a b&&lY x y
 |_,_=>false
end
mutual
theorem wX:∀t:Tr,eqT t t=true
 |.non=>rfl
 |.bl b=>by unfold eqT; exact beq_self_eq_true b
 |.int i=>by unfold eqT; exact beq_self_eq_true i
 |.str x=>by unfold eqT; exact beq_self_eq_true x
 |.tup ts=>by unfold eqT; exact Bh ts
 |.lst ts=>by unfold eqT; exact Bh ts
 |.bY c=>by unfold eqT; exact beq_self_eq_true c
theorem Bh:∀ts:List Tr,lY ts ts=true
 | []=>rfl
 |t::r=>by unfold lY; rw[wX t,Bh r]; rfl
end
theorem uK:∀{a b:List Tr},a.length≠b.length->lY a b=false
 | [],[],h=>absurd rfl h
 | [],_::_,_=>rfl
 |_::_,[],_=>rfl
 |x::a,y::b,h=>by
  unfold lY
  rw[uK (a:=a) (b:=b) (by simpa using h),Bool.and_false]
def m9(a b:List Tr)(j:Nat):Bool:=match a[j]?,b[j]? with
 |some x,some y=>eqT x y
 |_,_=>true
theorem uL:∀{a b:List Tr},a.length=b.length->(List.range a.length).all (m9 a b)=lY a b
 | [],[],_=>rfl
 | [],_::_,h=>by cases h
 |_::_,[],h=>by cases h
 |x::a,y::b,h=>by
  have ih:=uL (a:=a) (b:=b) (by simpa using h)
  rw[List.length_cons,List.range_succ_eq_map,List.all_cons,List.all_map]
  unfold lY
  rw[<-ih]
  rfl
section
variable {X:Cx}{pins:List (Addr × Obj)}{σ : St}{H:Hp}{s:Shared}
theorem Inv.Ue(I:Inv X pins σ H s){a C:Addr}{its:Array Value}(h:H a=some (uJ a C))(p:IsTup s.heap a its):False:=by
 obtain⟨o,_,e1,e2,_⟩:=(I.hok a _ h).1
 obtain⟨o',e1',e2',_⟩:=p
 rw[e1]at e1'
 cases e1'
 rw[e2]at e2'
 cases e2'
theorem Inv.Ug(I:Inv X pins σ H s){a C:Addr}{its:Array Value}(h:H a=some (uJ a C))(p:PlainL s.heap a its):False:=by
 obtain⟨o,_,e1,e2,_⟩:=(I.hok a _ h).1
 obtain⟨o',_,e1',e2',_⟩:=p
 rw[e1]at e1'
 cases e1'
 rw[e2]at e2'
 cases e2'
mutual
theorem Rep.inj(I:Inv X pins σ H s):∀{v:V} {t u:Tr},dep t<=99->Rep X.K H v t->Rep X.K H v u->t=u
 |_,_,_,_,.non,.non=>rfl
 |_,_,_,_,.bl _,.bl _=>rfl
 |_,_,_,_,.int _,.int _=>rfl
 |_,_,_,_,.str _,.str _=>rfl
 |_,_,_,d,.tup h r,.tup h' r'=>by
  have e:=I.Ib h h'
  subst e
  rw[aF.inj I (by unfold dep at d; omega) r r']
 |_,_,_,d,.lst h r,.lst h' r'=>by
  have e:=I.wA h h'
  subst e
  rw[aF.inj I (by unfold dep at d; omega) r r']
 |_,_,_,_,.tup h r,.lst h' r'=>by
  obtain⟨_,_,p,_⟩:=I.tuple h
  obtain⟨_,_,p',_⟩:=I.list h'
  exact absurd rfl (SeqAt.ne_of_list_tuple p'.isList p)
 |_,_,_,_,.lst h r,.tup h' r'=>by
  obtain⟨_,_,p,_⟩:=I.tuple h'
  obtain⟨_,_,p',_⟩:=I.list h
  exact absurd rfl (SeqAt.ne_of_list_tuple p'.isList p)
 |_,_,_,d,.bY h _ n,_=>by unfold dep at d; omega
 |_,_,_,_,.tup h r,.bY h' _ _=>by
  obtain⟨_,_,p,_⟩:=I.tuple h
  exact(I.Ue h' p).elim
 |_,_,_,_,.lst h r,.bY h' _ _=>by
  obtain⟨_,_,p,_⟩:=I.list h
  exact(I.Ug h' p).elim
theorem aF.inj(I:Inv X pins σ H s):∀{v:List V} {t u:List Tr},deps t<=99->aF X.K H v t->aF X.K H v u->t=u
 |_,_,_,_,.nil,.nil=>rfl
 |_,_,_,d,.cons h r,.cons h' r'=>by
  unfold deps at d
  rw[Rep.inj I (by omega) h h',aF.inj I (by omega) r r']
end
theorem in1_units(A:Around):A.in1.units<=A.units+1:=by
 show A.units+1<=_
 omega
theorem wY{xs:List V}{its:List Value}{j:Nat}(r:Vals xs its)(h:j<its.toArray.size):∃x,xs[j]?=some x/\RelV x its.toArray[j]:=by
 have h':j<its.length:=by simpa using h
 have hx:j<xs.length:=by rw[r.length]; exact h'
 obtain⟨u,h1,h2⟩:=r.get (List.getElem?_eq_getElem hx)
 refine⟨xs[j],List.getElem?_eq_getElem hx,?_⟩
 have e:u=its.toArray[j]:=by
  rw[List.getElem?_eq_getElem h']at h1
  have:=Option.some.inj h1
  simpa using this.symm
 rw[<-e]; exact h2
theorem J4{a b:List Tr}{j:Nat}{x y:Tr}(h1:a[j]?=some x)(h2:b[j]?=some y):m9 a b j=eqT x y:=by
 unfold m9
 rw[h1,h2]
theorem oO:∀{ts:List Tr} {j:Nat} {t:Tr},ts[j]?=some t->dep t<=deps ts
 | [],_,_,h=>by simp at h
 |x::r,0,t,h=>by
  simp at h
  subst h
  unfold deps
  exact Nat.le_max_left _ _
 |x::r,j+1,t,h=>by
  have:=oO (ts:=r) (j:=j) (t:=t) (by simpa using h)
  unfold deps
  exact Nat.le_trans this (Nat.le_max_right _ _)
theorem uM(I:Inv X pins σ H s)(A:Around)(t u:Tr)(x y:V)(xv yv:Value)(hu:A.units+0<cLine)(hd:dep t<=0)(du:dep u<=99)(rx:Rep X.K H x t)(ry:Rep X.K H y u)(vx:RelV x xv)(vy:RelV y yv) :
  SeqAt.RcAt A s xv yv (eqT t u)/\SeqAt.EqAt A s xv yv (eqT t u):=by
 have hu0:A.units<cLine:=by omega
 cases rx with
 |tup h r=>unfold dep at hd; omega
 |lst h r=>unfold dep at hd; omega
 |bY h m n=>unfold dep at hd; omega
 |non =>
  cases vx
  cases ry with
  |non=>cases vy; unfold eqT; exact⟨SeqAt.RcAt.none_none,.same _⟩
  |bl b2=>cases vy; unfold eqT; exact⟨SeqAt.RcAt.none_bool _,SeqAt.EqAt.none_bool _⟩
  |int i2=>obtain⟨_,rfl⟩:=vy; unfold eqT; exact⟨SeqAt.RcAt.none_int _ _,SeqAt.EqAt.none_int _ _⟩
  |str z2=>obtain⟨_,rfl⟩:=vy; unfold eqT; exact⟨SeqAt.RcAt.none_str _ _,SeqAt.EqAt.none_str _ _⟩
  |tup h r=>cases vy; obtain⟨_,_,p,_⟩:=I.tuple h; unfold eqT; exact⟨SeqAt.RcAt.none_tuple p hu0,SeqAt.EqAt.none_tuple p hu0⟩
  |lst h r=>cases vy; obtain⟨_,_,p,_⟩:=I.list h; unfold eqT; exact⟨SeqAt.RcAt.none_list p.isList hu0,SeqAt.EqAt.none_list p.isList hu0⟩
  |bY h m n=>unfold dep at du; omega
 |bl b =>
  cases vx
  cases ry with
  |non=>cases vy; unfold eqT; exact⟨SeqAt.RcAt.bool_none _,SeqAt.EqAt.bool_none _⟩
  |bl b2=>cases vy; unfold eqT; exact⟨SeqAt.RcAt.bool_bool _ _,SeqAt.EqAt.bool_bool _ _⟩
  |int i2=>obtain⟨_,rfl⟩:=vy; unfold eqT; exact⟨SeqAt.RcAt.bool_int _ _ _,SeqAt.EqAt.bool_int _ _ _⟩
  |str z2=>obtain⟨_,rfl⟩:=vy; unfold eqT; exact⟨SeqAt.RcAt.bool_str _ _ _,SeqAt.EqAt.bool_str _ _ _⟩
  |tup h r=>cases vy; obtain⟨_,_,p,_⟩:=I.tuple h; unfold eqT; exact⟨SeqAt.RcAt.bool_tuple _ p hu0,SeqAt.EqAt.bool_tuple _ p hu0⟩
  |lst h r=>cases vy; obtain⟨_,_,p,_⟩:=I.list h; unfold eqT; exact⟨SeqAt.RcAt.bool_list _ p.isList hu0,SeqAt.EqAt.bool_list _ p.isList hu0⟩
  |bY h m n=>unfold dep at du; omega
 |int i =>
  obtain⟨_,rfl⟩:=vx
  cases ry with
  |non=>cases vy; unfold eqT; exact⟨SeqAt.RcAt.int_none _ _,SeqAt.EqAt.int_none _ _⟩
  |bl b2=>cases vy; unfold eqT; exact⟨SeqAt.RcAt.int_bool _ _ _,SeqAt.EqAt.int_bool _ _ _⟩
  |int i2=>obtain⟨_,rfl⟩:=vy; unfold eqT; exact⟨SeqAt.RcAt.int_int _ _ _ _,SeqAt.EqAt.int_int _ _ _ _⟩
  |str z2=>obtain⟨_,rfl⟩:=vy; unfold eqT; exact⟨SeqAt.RcAt.int_str _ _ _ _,SeqAt.EqAt.int_str _ _ _ _⟩
  |tup h r=>cases vy; obtain⟨_,_,p,_⟩:=I.tuple h; unfold eqT; exact⟨SeqAt.RcAt.int_tuple _ _ p hu0,SeqAt.EqAt.int_tuple _ _ p hu0⟩
  |lst h r=>cases vy; obtain⟨_,_,p,_⟩:=I.list h; unfold eqT; exact⟨SeqAt.RcAt.int_list _ _ p.isList hu0,SeqAt.EqAt.int_list _ _ p.isList hu0⟩
  |bY h m n=>unfold dep at du; omega
 |str z =>
  obtain⟨_,rfl⟩:=vx
  cases ry with
  |non=>cases vy; unfold eqT; exact⟨SeqAt.RcAt.str_none _ _,SeqAt.EqAt.str_none _ _⟩
  |bl b2=>cases vy; unfold eqT; exact⟨SeqAt.RcAt.str_bool _ _ _,SeqAt.EqAt.str_bool _ _ _⟩
  |int i2=>obtain⟨_,rfl⟩:=vy; unfold eqT; exact⟨SeqAt.RcAt.str_int _ _ _ _,SeqAt.EqAt.str_int _ _ _ _⟩
  |str z2=>obtain⟨_,rfl⟩:=vy; unfold eqT; exact⟨SeqAt.RcAt.str_str _ _ _ _,SeqAt.EqAt.str_str _ _ _ _⟩
  |tup h r=>cases vy; obtain⟨_,_,p,_⟩:=I.tuple h; unfold eqT; exact⟨SeqAt.RcAt.str_tuple _ _ p hu0,SeqAt.EqAt.str_tuple _ _ p hu0⟩
  |lst h r=>cases vy; obtain⟨_,_,p,_⟩:=I.list h; unfold eqT; exact⟨SeqAt.RcAt.str_list _ _ p.isList hu0,SeqAt.EqAt.str_list _ _ p.isList hu0⟩
  |bY h m n=>unfold dep at du; omega
theorem Bj(I:Inv X pins σ H s):∀(n:Nat) (A:Around) (t u:Tr) (x y:V) (xv yv:Value),A.units+n<cLine->dep t<=n->dep t<=99->dep u<=99->Rep X.K H x t->Rep X.K H y u->RelV x xv->RelV y yv ->
  SeqAt.RcAt A s xv yv (eqT t u)/\SeqAt.EqAt A s xv yv (eqT t u):=by
 intro n
 induction n with
 |zero=>exact λA t u x y xv yv hu hd _ du rx ry vx vy=>uM I A t u x y xv yv hu hd du rx ry vx vy
 |succ n ih =>
  intro A t u x y xv yv hu hd sG du rx ry vx vy
  have hu0:A.units<cLine:=by omega
  have hu1:A.in1.units+n<cLine:=by
   have:=in1_units A
   omega
  have he:∀{xs ys:List V} {ts us:List Tr} {its its2:List Value},Vals xs its->Vals ys its2->aF X.K H xs ts->aF X.K H ys us->deps ts<=n->deps ts<=99->deps us<=99->∀j (h1:j<its.toArray.size) (h2:j<its2.toArray.size),SeqAt.EqAt A.in1 s its.toArray[j] its2.toArray[j] (m9 ts us j):=by
   intro xs ys ts us its its2 r1 r2 q1 q2 hde Uh J5 j h1 h2
   obtain⟨a,ea,ra⟩:=wY r1 h1
   obtain⟨b,eb,rb⟩:=wY r2 h2
   obtain⟨ta,eta,qa⟩:=q1.get ea
   obtain⟨tb,uN,qb⟩:=q2.get eb
   rw[J4 eta uN]
   exact(ih A.in1 ta tb a b _ _ hu1 (Nat.le_trans (oO eta) hde) (Nat.le_trans (oO eta) Uh) (Nat.le_trans (oO uN) J5) qa qb ra rb).2
  have dt:∀{ts:List Tr},dep (.tup ts)<=n+1->deps ts<=n:=λ{ts} h=>by unfold dep at h; omega
  have dl:∀{ts:List Tr},dep (.lst ts)<=n+1->deps ts<=n:=λ{ts} h=>by unfold dep at h; omega
  have nt:∀{ts:List Tr},dep (.tup ts)<=99->deps ts<=99:=λ{ts} h=>by unfold dep at h; omega
  have nl:∀{ts:List Tr},dep (.lst ts)<=99->deps ts<=99:=λ{ts} h=>by unfold dep at h; omega
  have refs:∀{a b:Addr} {t u:Tr} {k:Bool},dep t<=99->Rep X.K H (.ref a) t->Rep X.K H (.ref b) u->k=eqT t u->SeqAt.RcAt A s (.ref a) (.ref b) k->SeqAt.EqAt A s (.ref a) (.ref b) k:=λ{a b t u k} d9 r1 r2 ek h=>by
   by_cases e:a=b
   ·subst e
    have:=Rep.inj I d9 r1 r2
    subst this
    rw[ek,wX]
    exact .same _
   ·exact .of_refs e h
  cases rx with
  | @tup a1 xs1 ts h r =>
   cases vx
   obtain⟨its,rv,p,_⟩:=I.tuple h
   cases ry with
   | @tup a2 xs2 us h' r' =>
    cases vy
    obtain⟨its2,iG,p2,_⟩:=I.tuple h'
    have R:=SeqAt.RcAt.tuples p p2 hu0 (he rv iG r r' (dt hd) (nt sG) (nt du))
    have el:its.toArray.size=ts.length:=by simpa using(rv.length.symm.trans r.length)
    have el2:its2.toArray.size=us.length:=by simpa using(iG.length.symm.trans r'.length)
    rw[el,el2]at R
    have eb:((List.range (min ts.length us.length)).all (m9 ts us)&&ts.length == us.length)=eqT (.tup ts) (.tup us):=by
     unfold eqT
     by_cases e:ts.length=us.length
     ·rw[e,Nat.min_self,<-e,uL e,beq_self_eq_true,Bool.and_true]
     ·rw[beq_false_of_ne e,Bool.and_false,uK e]
    rw[eb]at R
    exact⟨R,refs sG (.tup h r) (.tup h' r') rfl R⟩
   |lst h' r' =>
    cases vy
    obtain⟨_,_,p2,_⟩:=I.list h'
    unfold eqT
    exact⟨SeqAt.RcAt.tuple_list p p2.isList hu0,.tuple_list p p2.isList hu0⟩
   |bY h' m n=>unfold dep at du; omega
   |non=>cases vy; unfold eqT; exact⟨SeqAt.RcAt.tuple_none p hu0,.tuple_none p hu0⟩
   |bl b=>cases vy; unfold eqT; exact⟨SeqAt.RcAt.tuple_bool _ p hu0,.tuple_bool _ p hu0⟩
   |int i=>obtain⟨_,rfl⟩:=vy; unfold eqT; exact⟨SeqAt.RcAt.tuple_int _ _ p hu0,.tuple_int _ _ p hu0⟩
   |str z=>obtain⟨_,rfl⟩:=vy; unfold eqT; exact⟨SeqAt.RcAt.tuple_str _ _ p hu0,.tuple_str _ _ p hu0⟩
  | @lst a1 xs1 ts h r =>
   cases vx
   obtain⟨its,rv,p,_⟩:=I.list h
   cases ry with
   | @lst a2 xs2 us h' r' =>
    cases vy
    obtain⟨its2,iG,p2,_⟩:=I.list h'
    have el:its.toArray.size=ts.length:=by simpa using(rv.length.symm.trans r.length)
    have el2:its2.toArray.size=us.length:=by simpa using(iG.length.symm.trans r'.length)
    by_cases e:ts.length=us.length
    ·have R:=SeqAt.RcAt.lists p.isList p2.isList (by rw[el,el2,e]) hu0 (he rv iG r r' (dl hd) (nl sG) (nl du))
     rw[el,uL e]at R
     have eb:lY ts us=eqT (.lst ts) (.lst us):=by unfold eqT; rfl
     rw[eb]at R
     exact⟨R,refs sG (.lst h r) (.lst h' r') rfl R⟩
    ·have R:SeqAt.RcAt A s _ _ false:=SeqAt.RcAt.lists_lengths p.isList p2.isList (by rw[el,el2]; simpa using e) hu0
     have eb:false=eqT (.lst ts) (.lst us):=by unfold eqT; rw[uK e]
     rw[eb]at R
     exact⟨R,refs sG (.lst h r) (.lst h' r') rfl R⟩
   |tup h' r' =>
    cases vy
    obtain⟨_,_,p2,_⟩:=I.tuple h'
    unfold eqT
    exact⟨SeqAt.RcAt.list_tuple p.isList p2 hu0,.list_tuple p.isList p2 hu0⟩
   |bY h' m n=>unfold dep at du; omega
   |non=>cases vy; unfold eqT; exact⟨SeqAt.RcAt.list_none p.isList hu0,.list_none p.isList hu0⟩
   |bl b=>cases vy; unfold eqT; exact⟨SeqAt.RcAt.list_bool _ p.isList hu0,.list_bool _ p.isList hu0⟩
   |int i=>obtain⟨_,rfl⟩:=vy; unfold eqT; exact⟨SeqAt.RcAt.list_int _ _ p.isList hu0,.list_int _ _ p.isList hu0⟩
   |str z=>obtain⟨_,rfl⟩:=vy; unfold eqT; exact⟨SeqAt.RcAt.list_str _ _ p.isList hu0,.list_str _ _ p.isList hu0⟩
  |bY h m n=>unfold dep at sG; omega
  |non=>exact uM I A _ _ _ _ _ _ (by omega) (by unfold dep; omega) du .non ry vx vy
  |bl b=>exact uM I A _ _ _ _ _ _ (by omega) (by unfold dep; omega) du (.bl b) ry vx vy
  |int i=>exact uM I A _ _ _ _ _ _ (by omega) (by unfold dep; omega) du (.int i) ry vx vy
  |str z=>exact uM I A _ _ _ _ _ _ (by omega) (by unfold dep; omega) du (.str z) ry vx vy
end
end L2
end
section
namespace L2
open PySem PySem.Spec PyProof.Rows
section
variable {X:Cx}{a b:Expr}{ta tb:TE}{pos:Pos}
def Bk(K:FZ):R2:=λx y H Q=>∃t u,Rep K H x t/\Rep K H y u/\dep t<=40/\dep u<=40/\Q (.bl (eqT t u)) H
theorem gk(hu:X.A.units+64<cLine):cH X (compareOp .Eq) (Bk X.K):=by
 intro pins s σ H x y v u Q I rx ry h
 obtain⟨t,t',q1,q2,hd,hd2,q⟩:=h
 exact(Bj I 40 X.A t t' x y v u (by omega) hd (by omega) (by omega) q1 q2 rx ry).1 _ _ _ _ ⟨.bl _,H,I,rfl,q⟩
def sH(t:Tr)(ts:List Tr):Bool:=ts.any λu=>eqT u t
def Bl(K:FZ):R2:=λx y H Q=>∃t ts p xs,Rep K H x t/\y=.ref p/\(bG K H p xs\/cj K H p xs)/\aF K H xs ts/\deps ts<=40/\dep t<=40/\Q (.bl (sH t ts)) H
theorem J6{xs:List V}{its:List Value}{ts:List Tr}{K:FZ}{H:Hp}(f:Tr->Bool)(e:Value->Bool)(r:Vals xs its)(q:aF K H xs ts)(h:∀x v t,x∈xs->RelV x v->Rep K H x t->t∈ts->e v=f t):its.any e=ts.any f:=by
 induction r generalizing ts with
 |nil=>cases q; rfl
 |cons r1 r2 ih =>
  cases q with
  |cons q1 q2 =>
   rw[List.any_cons,List.any_cons,h _ _ _ List.mem_cons_self r1 q1 List.mem_cons_self,ih q2 λx v t hx hr hq ht=>h x v t (List.mem_cons_of_mem _ hx) hr hq (List.mem_cons_of_mem _ ht)]
theorem Bm:∀{ts:List Tr} {t:Tr},t∈ts->dep t<=deps ts:=λ{ts t} h=>by
 obtain⟨i,hi,e⟩:=List.mem_iff_getElem.mp h
 exact oO (j:=i) (by rw[List.getElem?_eq_getElem hi,e])
open Classical in
theorem Bo(hu:X.A.units+64<cLine):cH X (compareOp .In) (Bl X.K):=by
 intro pins s σ H x y v u Q I rx ry h
 obtain⟨t,ts,p,xs,q1,rfl,hq,qs,hd,hd2,q⟩:=h
 cases ry
 have hu1:X.A.in1.units+40<cLine:=by
  have:=in1_units X.A
  omega
 -- what == tells of an item,by the item itself
 let e:Value->Bool:=λw'=>if h:∃z tz,z∈xs/\RelV z w'/\Rep X.K H z tz/\tz∈ts then eqT (Classical.choose (Classical.choose_spec h)) t else false
 have ee:∀z w' tz,z∈xs->RelV z w'->Rep X.K H z tz->tz∈ts->e w'=eqT tz t:=λz w' tz h1 h2 h3 h4=>by
  have hx:∃z tz,z∈xs/\RelV z w'/\Rep X.K H z tz/\tz∈ts:=⟨z,tz,h1,h2,h3,h4⟩
  show(if h:_ then _ else _)=_
  rw[dif_pos hx]
  have sp:=Classical.choose_spec (Classical.choose_spec hx)
  have key:∀z z' t1 t2,RelV z w'->RelV z' w'->dep t1<=99->Rep X.K H z t1->Rep X.K H z' t2->t1=t2:=λz z' t1 t2 a1 a2 d9 a3 a4=>by
   obtain rfl:=RelV.inj a1 a2
   exact Rep.inj I d9 a3 a4
  rw[key _ _ _ _ sp.2.1 h2 (by have:=Bm sp.2.2.2; omega) sp.2.2.1 h3]
 have mem:∀{its:List Value},Vals xs its->∀w'∈its,SeqAt.EqAt X.A.in1 s w' v (e w'):=by
  intro its r w' hw
  obtain⟨j,hj,ej⟩:=List.mem_iff_getElem.mp hw
  have hjx:j<xs.length:=by rw[r.length]; exact hj
  obtain⟨u',h1,h2⟩:=r.get (List.getElem?_eq_getElem hjx)
  rw[List.getElem?_eq_getElem hj,ej]at h1
  cases h1
  obtain⟨tz,h3,h4⟩:=qs.get (List.getElem?_eq_getElem hjx)
  have hm:=List.mem_of_getElem? h3
  rw[ee _ _ tz (List.getElem_mem hjx) h2 h4 hm]
  exact(Bj I 40 X.A.in1 tz t _ x _ v hu1 (Nat.le_trans (Bm hm) hd) (by have:=Bm hm; omega) (by omega) h4 q1 h2 rx).2
 rcases hq with hq|hq
 ·obtain⟨its,r,pl,hz⟩:=I.list hq
  refine SeqAt.in_listAt e pl.isList (λw hw=>mem r w (by simpa using hw)) ⟨.bl _,H,I,rfl,?_⟩
  rw[show its.toArray.any e=its.any e by simp,J6 (λz=>eqT z t) e r qs λz w' tz h1 h2 h3 h4=>ee z w' tz h1 h2 h3 h4]
  exact q
 ·obtain⟨its,r,pl,hz⟩:=I.tuple hq
  refine SeqAt.in_tupleAt e pl (λw hw=>mem r w (by simpa using hw)) ⟨.bl _,H,I,rfl,?_⟩
  rw[show its.toArray.any e=its.any e by simp,J6 (λz=>eqT z t) e r qs λz w' tz h1 h2 h3 h4=>ee z w' tz h1 h2 h3 h4]
  exact q
inductive Ty where|int|bool|str|tuple|list
def Ty.name:Ty->String
 |.int => "int" |.bool => "bool" |.str => "str" |.tuple => "tuple" |.list => "list"
def fU:Tr->Ty->Bool
 |.bl _,.bool=>true|.bl _,.int=>true|.int _,.int=>true|.str _,.str=>true|.tup _,.tuple=>true|.lst _,.list=>true
 |_,_=>false
def wZ(K:FZ):List V->Hp->VK->Prop:=λxs H Q=>∃v t c,xs=[v,.ty (Ty.name c)]/\Rep K H v t/\Q (.bl (fU t c)) H
def w6(K:FZ):Prop:=∀c∈lC,∀C,PySem.W.nsIn K mainGlobals c=some (some (.ref C))->(∀a,PySem.W.KitX K (.ref a) (.ref C) (Bg a C))/\∀y:Ty,PySem.W.kitOne K (.ref C) (.type y.name)=some false
theorem Ui(hX:w6 X.K):eF X (.builtin "isinstance") (wZ X.K):=by
 intro pins s σ H xs us Q I r h
 obtain⟨v,t,c,rfl,q1,q⟩:=h
 obtain⟨u,w',rfl,ru,pX⟩:=vals2 r
 obtain rfl:w'=Value.type (Ty.name c):=pX
 have fin:∀tk,EP X pins σ Q (.bool (fU t c)) {s with toks:=tk }:=λtk=>⟨.bl _,H,I.tok tk,rfl,q⟩
 cases q1 with
 |non=>cases ru; cases c <;> exact PySem.W.kia_one PySem.W.kitx_none I.ju True.intro (by kernel_rfl) (λz=>nomatch z) fin
 |bl y=>cases ru; cases c <;> exact PySem.W.kia_one PySem.W.kitx_bool I.ju True.intro (by kernel_rfl) (λz=>nomatch z) fin
 |int i=>obtain⟨_,rfl⟩:=ru; cases c <;> exact PySem.W.kia_one PySem.W.kitx_int I.ju True.intro (by kernel_rfl) (λz=>nomatch z) fin
 |str y=>obtain⟨_,rfl⟩:=ru; cases c <;> exact PySem.W.kia_one PySem.W.kitx_str I.ju True.intro (by kernel_rfl) (λz=>nomatch z) fin
 |tup h r =>
  cases ru
  obtain⟨_,_,⟨o,h1,h2,_⟩,_⟩:=I.tuple h
  cases c <;> exact PySem.W.kia_one PySem.W.kitx_tuple I.ju ⟨o,h1,h2⟩ (by kernel_rfl) (λz=>nomatch z) fin
 |lst h r =>
  cases ru
  obtain⟨_,_,p,_⟩:=I.list h
  obtain⟨o,h1,h2,_⟩:=p.isList
  cases c <;> exact PySem.W.kia_one PySem.W.kitx_list I.ju ⟨o,h1,h2⟩ (by kernel_rfl) (λz=>nomatch z) fin
 |bY h m n =>
  cases ru
  obtain⟨z1,z2⟩:=hX _ m _ n
  exact PySem.W.kia_one (z1 _) I.ju (I.hok _ _ h).1 (z2 c) (λz=>nomatch z) fin
def Bp(K:FZ):List V->Hp->VK->Prop:=λxs H Q=>∃(p:Addr) (bs:List Bool),xs=[.ref p]/\bG K H p (bs.map V.bl)/\Q (.bl (bs.all id)) H
theorem Uj(hc:X.calm=true):eF X (.builtin "all") (Bp X.K):=by
 intro pins s σ H xs us Q I r h
 obtain⟨p,bs,rfl,hq,q⟩:=h
 obtain⟨u,rfl,ru⟩:=vals1 r
 cases ru
 obtain⟨its,rv,pl,hz⟩:=I.list hq
 refine call_all_walk (wpAny_pyIter_list pl.isList ?_)
 obtain⟨ol,hol,hol'⟩:=id pl.isList
 have hlt:p<s.heap.objs.size:=Heap.lt_size hol
 have hlen:its.toArray.size=bs.length:=by simpa using rv.length.symm
 have at_:∀(i:Nat) (v:Value),its.toArray[i]?=some v->∃k,bs[i]?=some k/\v=Value.bool k:=λi v e=>by
  have e':its[i]?=some v:=by simpa using e
  have hi:i<its.length:=(List.getElem?_eq_some_iff.mp e').1
  have hb:i<(bs.map V.bl).length:=by rw[rv.length]; exact hi
  obtain⟨u',h1,h2⟩:=rv.get (List.getElem?_eq_getElem hb)
  rw[e']at h1
  cases h1
  have hb':i<bs.length:=by simpa using hb
  refine⟨bs[i],List.getElem?_eq_getElem hb',?_⟩
  rw[List.getElem_map]at h2
  exact h2
 refine⟨s.heap.objs.size,_,_,_,_,_,λi=>bs.getD i true,rfl,Walks.list (A:=X.A.in1) (I.ok.hd hc) s.heap.objs.size p (Nat.ne_of_lt hlt) its.toArray,⟨⟨_,Heap.get?_push_size _ rfl,rfl,rfl⟩,⟨ol,Heap.get?_push_of_some _ hol,hol'⟩⟩,?_,?_⟩
 ·intro i v s' Q' E' hP hQ'
  obtain⟨k,h1,rfl⟩:=at_ i v hP
  have:bs.getD i true=k:=by rw[List.getD_eq_getElem?_getD,h1]; rfl
  dsimp only at hQ'
  rw[this]at hQ'
  exact wpAny_truthy_bool hQ'
 ·intro h' tk hk
  have I1:Inv X pins σ H {s with heap:=h',toks:=tk }:=I.kept λb o e=>hk b o (by
   have:=Heap.lt_size e
   simp
   exact Nat.ne_of_lt this) (Heap.get?_push_of_some _ e)
  refine⟨.bl _,H,I1,rfl,?_⟩
  have eq:(List.range its.toArray.size).all (λi=>bs.getD i true)=bs.all id:=by
   rw[hlen]
   clear q hq rv at_ hlen hz
   induction bs with
   |nil=>rfl
   |cons b r ih =>
    rw[List.length_cons,List.range_succ_eq_map,List.all_cons,List.all_map,List.all_cons]
    exact congrArg (b && ·) ih
  rw[eq]
  exact q
end
end L2
end
section
namespace L2
open PySem PySem.Spec PyProof.Rows
def At(K:FZ)(mg:Str->Option Value)(x:Str)(st:Stmt):Prop:=∃f fd,su K x x st f fd/\mg x=some (.ref f)
section
variable {X:Cx}{k:Nat}{x:Str}{ps:List Str}{sp:Sp}{p q pos:Pos}{e:Expr}{es:List Expr}{te:TE}{t:TA}
theorem Uk(hX:w6 X.K)(c:Ty)(he:PE X e te)(h1:X.mg "isinstance" = none) (h2:X.mg x=none) (hb:bootBuiltins x=some (.type c.name):=by decide +kernel) (hg1:Gl X "isinstance" := by rfl) (hg2:Gl X x:=by rfl) (hn:x ≠ "__name__" := by decide) (hd:(x == ("__debug__" : Str))=false:=by decide)
  (hs:starEach (e::[.Name x q]) X.env=(false,eval e X.env)::starEach [.Name x q] X.env:=by rfl):PE X (.Call (.Name "isinstance" p) [e,.Name x q] [] pos) (gO (wZ X.K) (gD te (gD (tC (.ty c.name)) jV))) :=
 Jm (Ui hX) hg1 h1 PyProof.Rows.boot_isinstance (uD he (uD (Rf hg2 h2 hb rfl hn hd) aM) hs) (he:=hs)
end
end L2
end
section
namespace L2
open PySem PySem.Spec PyProof.Rows
def off(a:Addr)(H:Hp):Hp:=λb=>if b=a then none else H b
theorem off_ne{a b:Addr}{H:Hp}(h:b≠a):off a H b=H b:=if_neg h
theorem oR{a b:Addr}{H:Hp}{o:HO}(h:off a H b=some o):b≠a/\H b=some o:=by
 unfold off at h
 split at h
 ·cases h
 ·rename_i e; exact⟨e,h⟩
structure Pj(Pr:Hp->Hp)(H0:Hp):Prop where
 mono:∀{H H':Hp},Same H H'->Same (Pr H) (Pr H')
 sub:∀H,Same (Pr H) H
 new:∀{H:Hp} {r:Addr} {o:HO},Same H0 H->H r=none->Pr (upd H r o) r=some o
theorem Pj.id(H0:Hp):Pj (λH=>H) H0:=⟨λs=>s,λH=>Same.refl H,λ_ _=>fD⟩
theorem Pj.le{Pr:Hp->Hp}{H0 H1:Hp}(p:Pj Pr H0)(s:Same H0 H1):Pj Pr H1:=⟨p.mono,p.sub,λs' h=>p.new (s.trans s') h⟩
theorem cU{H:Hp}{p:Addr}(h:H p=none)(o:HO):Same H (upd H p o):=λb u q=>by rw[bQ (lR q h)]; exact q
section
variable (K:FZ)(Pr:Hp->Hp)(σ : St)(H0:Hp)
end
section
variable {K:FZ}{Pr:Hp->Hp}{σ : St}{H0:Hp}{te tb:TE}{ta:TA}{T:Tr}{Ts Us:List Tr}
end
end L2
end
section
namespace L2
open PySem PySem.Spec PyProof.Rows
def notStar:Expr->Bool
 |.Starred _ _=>false
 |_=>true
theorem sI{e:Expr}{es:List Expr}{env:Env}(h:notStar e=true):starEach (e::es) env=(false,eval e env)::starEach es env:=by
 cases e <;> first|rfl|(unfold notStar at h; cases h)
def oU(K:FZ)(T:Tr):TE:=λ_ H Q=>∀v H',Same H H'->(∀Pr,Pj Pr H->Rep K (Pr H') v T)->Q v H'
def sJ(K:FZ)(Ts:List Tr):TA:=λ_ H Q=>∀vs H',Same H H'->(∀Pr,Pj Pr H->aF K (Pr H') vs Ts)->Q vs H'
def xg(K:FZ)(Ts:List Tr):TE:=λ_ H Q=>∀a xs H1,Same H H1->H1 a=none->(∀Pr,Pj Pr H->aF K (Pr H1) xs Ts)->xs.length=Ts.length->Q (.ref a) (upd H1 a (.lst xs))
theorem PE.imp{X:Cx}{e:Expr}{t u:TE}(h:PE X e t)(i:∀σ H Q,u σ H Q->t σ H Q):PE X e u:=⟨λpins s σ H Q I q=>h pins s σ H Q I (i σ H Q q)⟩
theorem PA.imp{X:Cx}{e:List Expr}{t u:TA}(h:PA X e t)(i:∀σ H Q,u σ H Q->t σ H Q):PA X e u:=⟨λpos pins s σ H Q I q=>h pos pins s σ H Q I (i σ H Q q)⟩
section
variable {X:Cx}{e:Expr}{es:List Expr}{T:Tr}{Ts:List Tr}{pos:Pos}{k:Nat}
end
end L2
end
section
namespace L2
open PySem PySem.Spec PyProof.Rows
mutual
noncomputable def pd:Tr->PyData
 |.non=>.none
 |.bl b=>.bool b
 |.int i=>.int i
 |.str x=>.str x
 |.tup ts=>.tuple (jc ts)
 |.lst ts=>.list (jc ts)
 |.bY _=>.none
noncomputable def jc:List Tr->List PyData
 | []=>[]
 |t::r=>pd t::jc r
end
mutual
noncomputable def gQ:Tr->Bool
 |.int i=>decide (i.natAbs.log2<1920)
 |.str x=>x.cps.toList.all λc=>decide (c<16 ^ 8)
 |.tup ts=>qj ts
 |.lst ts=>qj ts
 |.bY _=>false
 |_=>true
noncomputable def qj:List Tr->Bool
 | []=>true
 |t::r=>gQ t&&qj r
end
mutual
noncomputable def blk:Tr->Nat
 |.str x=>x.cps.size
 |.tup ts=>blks ts
 |.lst ts=>blks ts
 |_=>0
noncomputable def blks:List Tr->Nat
 | []=>0
 |t::r=>blk t+1+blks r
end
mutual
theorem J7:∀t:Tr,(pd t).bulk=blk t
 |.non=>rfl
 |.bl _=>rfl
 |.int _=>rfl
 |.str _=>rfl
 |.tup ts=>by simp only[pd,PyData.bulk,blk]; exact Bq ts
 |.lst ts=>by simp only[pd,PyData.bulk,blk]; exact Bq ts
 |.bY _=>rfl
theorem Bq:∀ts:List Tr,PyData.bulkAll (jc ts)=blks ts
 | []=>rfl
 |t::r=>by simp only[jc,PyData.bulkAll,blks]; rw[J7 t,Bq r]
end
mutual
theorem Br:∀t:Tr,(pd t).hasDict=false
 |.non=>rfl
 |.bl _=>rfl
 |.int _=>rfl
 |.str _=>rfl
 |.tup ts=>by simp only[pd,PyData.hasDict]; exact Bs ts
 |.lst ts=>by simp only[pd,PyData.hasDict]; exact Bs ts
 |.bY _=>rfl
theorem Bs:∀ts:List Tr,PyData.hasDictAll (jc ts)=false
 | []=>rfl
 |t::r=>by simp only[jc,PyData.hasDictAll]; rw[Br t,Bs r]; rfl
end
mutual
theorem J8:∀t:Tr,(pd t).depth<=dep t
 |.non=>Nat.le_of_eq rfl
 |.bl _=>Nat.le_of_eq rfl
 |.int _=>Nat.le_of_eq rfl
 |.str _=>Nat.le_of_eq rfl
 |.tup ts=>by
  have:=Bt ts
  simp only[pd,PyData.depth,dep]
  omega
 |.lst ts=>by
  have:=Bt ts
  simp only[pd,PyData.depth,dep]
  omega
 |.bY _=>by simp only[pd,PyData.depth,dep]; omega
theorem Bt:∀ts:List Tr,PyData.depthAll (jc ts)<=deps ts
 | []=>Nat.le_of_eq rfl
 |t::r=>by
  have h1:=J8 t
  have h2:=Bt r
  simp only[jc,PyData.depthAll,deps]
  omega
end
mutual
theorem Bu:∀t:Tr,gQ t=true->(pd t).showable=true/\(pd t).leavesShort 1921=true
 |.non,_=>⟨rfl,rfl⟩
 |.bl _,_=>⟨rfl,rfl⟩
 |.int i,h=>by
  have h1:i.natAbs.log2<1920:=by simpa only[gQ,decide_eq_true_eq]using h
  refine⟨by simpa only[pd,PyData.showable,decide_eq_true_eq]using h1,?_⟩
  simp only[pd,PyData.leavesShort,decide_eq_true_eq]
  exact int_text_len_1921 h1
 |.str x,h=>⟨rfl,by simpa only[pd,PyData.leavesShort,gQ]using h⟩
 |.tup ts,h=>by
  have:=Bv ts (by simpa only[gQ]using h)
  simp only[pd,PyData.showable,PyData.leavesShort]
  exact this
 |.lst ts,h=>by
  have:=Bv ts (by simpa only[gQ]using h)
  simp only[pd,PyData.showable,PyData.leavesShort]
  exact this
 |.bY _,h=>by simp only[gQ]at h; cases h
theorem Bv:∀ts:List Tr,qj ts=true->PyData.showableAll (jc ts)=true/\PyData.leavesShortAll 1921 (jc ts)=true
 | [],_=>⟨rfl,rfl⟩
 |t::r,h=>by
  simp only[qj,Bool.and_eq_true]at h
  have h1:=Bu t h.1
  have h2:=Bv r h.2
  simp only[jc,PyData.showableAll,PyData.leavesShortAll,Bool.and_eq_true]
  exact⟨⟨h1.1,h2.1⟩,⟨h1.2,h2.2⟩⟩
end
theorem Ul{t:Tr}(h:gQ t=true)(hb:blk t<=8000):(pd t).shown.length<=sizeLine:=by
 have h1:=PyData.shown_le_bulk 1921 (by decide) (pd t) (Bu t h).2
 rw[J7]at h1
 have h2:sizeLine=16777216:=by decide
 omega
section
variable {X:Cx}{pins:List (Addr × Obj)}{σ : St}{H:Hp}{s:Shared}
mutual
theorem Rep.reads(I:Inv X pins σ H s):∀{v:V} {t:Tr} {u:Value},gQ t=true->Rep X.K H v t->RelV v u->∃as,Reads s.heap u (pd t) as
 |_,_,_,_,.non,r=>by
  cases r
  exact⟨_,by simp only[pd]; exact .none⟩
 |_,_,_,_,.bl b,r=>by
  cases r
  exact⟨_,by simp only[pd]; exact .bool b⟩
 |_,_,_,_,.int i,r=>by
  obtain⟨_,rfl⟩:=r
  exact⟨_,by simp only[pd]; exact .int i _⟩
 |_,_,_,_,.str x,r=>by
  obtain⟨_,rfl⟩:=r
  exact⟨_,by simp only[pd]; exact .str x _⟩
 |_,_,_,k,.tup h q,r=>by
  cases r
  obtain⟨its,rv,⟨o,h1,h2,n,h3⟩,_⟩:=I.tuple h
  obtain⟨as,ha⟩:=aF.reads I (by simpa only[gQ]using k) q rv
  exact⟨_,by simp only[pd]; exact .tuple h1 h2 h3 ha⟩
 |_,_,_,k,.lst h q,r=>by
  cases r
  obtain⟨its,rv,⟨o,n,h1,h2,_,h3⟩,_⟩:=I.list h
  obtain⟨as,ha⟩:=aF.reads I (by simpa only[gQ]using k) q rv
  exact⟨_,by simp only[pd]; exact .list h1 h2 h3 ha⟩
 |_,_,_,k,.bY h _ _,r=>by simp only[gQ]at k; cases k
theorem aF.reads(I:Inv X pins σ H s):∀{v:List V} {t:List Tr} {u:List Value},qj t=true->aF X.K H v t->Vals v u->∃as,ReadsAll s.heap u (jc t) as
 |_,_,_,_,.nil,r=>by
  cases r
  exact⟨_,by simp only[jc]; exact .nil⟩
 |_,_,_,k,.cons h q,r=>by
  cases r with
  |cons r1 r2 =>
   simp only[qj,Bool.and_eq_true]at k
   obtain⟨a,h1⟩:=Rep.reads I k.1 h r1
   obtain⟨b,h2⟩:=aF.reads I k.2 q r2
   exact⟨_,by simp only[jc]; exact .cons h1 h2⟩
end
end
def txt:Tr->Str
 |.str x=>x
 |t=>(pd t).shown
def Bw(K:FZ):List V->Hp->VK->Prop:=λxs H Q=>∃v t,xs=[v]/\Rep K H v t/\gQ t=true/\blk t<=8000/\dep t<=40/\Q (.str (txt t)) H
theorem uO{X:Cx}(hg:X.A.guards=some [])(hu:X.A.units+64<cLine):eF X (.type "str") (Bw X.K):=by
 intro pins s σ H xs us Q I r h
 obtain⟨v,t,rfl,q1,hok,hb,hd,q⟩:=h
 obtain⟨u,rfl,ru⟩:=vals1 r
 have hl:=Ul hok hb
 have hdp:=J8 t
 have hx:=Bu t hok
 cases q1 with
 |bY h m n=>simp only[gQ]at hok; cases hok
 |non=>cases ru; exact P.str_of_none ⟨.str _,H,I.tok _,⟨_,rfl⟩,q⟩
 |bl b=>cases ru; exact P.str_of_bool ⟨.str _,H,I.tok _,⟨_,rfl⟩,q⟩
 |int i =>
  obtain⟨_,rfl⟩:=ru
  exact P.str_of_int (by simpa only[gQ,decide_eq_true_eq]using hok) ⟨.str _,H,I.tok _,⟨_,rfl⟩,q⟩
 |str x=>obtain⟨_,rfl⟩:=ru; exact P.str_of_str ⟨.str _,H,I,⟨_,rfl⟩,q⟩
 |tup hh rr =>
  cases ru
  obtain⟨as,ha⟩:=Rep.reads I hok (.tup hh rr) (u:=.ref _) rfl
  exact str_of_reads ha hx.1 (PyData.noDict_hsm (Br _)) hg (by omega) (λ_ _ e=>e) (λh' u tk hk=>⟨.str _,H,I.kept hk,⟨_,rfl⟩,q⟩) hl
 |lst hh rr =>
  cases ru
  obtain⟨as,ha⟩:=Rep.reads I hok (.lst hh rr) (u:=.ref _) rfl
  exact str_of_reads ha hx.1 (PyData.noDict_hsm (Br _)) hg (by omega) (λ_ _ e=>e) (λh' u tk hk=>⟨.str _,H,I.kept hk,⟨_,rfl⟩,q⟩) hl
end L2
end
section
namespace L2
open PySem PySem.Spec PyProof.Rows
def J9:V->Option Int->Option Int->Hp->VK->Prop:=λx lo hi H Q=>∃z,x=.str z/\z.length<=sizeLine/\Q (.str (Txt.slice z lo hi)) H
theorem Um{X:Cx}:lB X J9:=by
 intro pins s σ H x v vl vu lo hi sl Q I rx hs pl pu h
 obtain⟨z,rfl,hz,q⟩:=h
 obtain⟨t,rfl⟩:=rx
 obtain⟨o,h1,h2,h3⟩:=hs
 have fin:∀(t':Tok) (k:Nat),EP X pins σ Q (.str (Txt.slice z lo hi) t') {s with toks:=k }:=λt' k=>⟨.str _,H,I.tok k,⟨_,rfl⟩,q⟩
 have hl:=Nat.le_trans (Txt.slice_le z lo hi) hz
 refine⟨"str",_,F.slot_str_getitem.lookup,typeIs_str _ _ _,?_⟩
 cases pl with
 |none =>
  cases pu with
  |none=>exact wpAny_getItem_str_slice (l:=none) (u:=none) (st:=none) ⟨o,h1,h2,h3⟩ rfl (post_val_or_str ⟨hl,λt' k=>fin t' k⟩)
  |int j uj=>exact wpAny_getItem_str_slice (l:=none) (u:=some (j,uj)) (st:=none) ⟨o,h1,h2,h3⟩ rfl (post_val_or_str ⟨hl,λt' k=>fin t' k⟩)
 |int i ui =>
  cases pu with
  |none=>exact wpAny_getItem_str_slice (l:=some (i,ui)) (u:=none) (st:=none) ⟨o,h1,h2,h3⟩ rfl (post_val_or_str ⟨hl,λt' k=>fin t' k⟩)
  |int j uj=>exact wpAny_getItem_str_slice (l:=some (i,ui)) (u:=some (j,uj)) (st:=none) ⟨o,h1,h2,h3⟩ rfl (post_val_or_str ⟨hl,λt' k=>fin t' k⟩)
def nw(H H':Hp):Hp:=λb=>match H b with
 |none=>H' b
 |some _=>none
end L2
end
section
namespace L2
open PySem PySem.Spec PyProof.Rows
noncomputable def iH(P:Program)(w:World):jw:=λouter H s E e s'=>∃ea cls a0 H' B,e=.ref ea/\E cls none H'/\s'.os=s.os/\AllBare s'.gens/\Un (frs outer) [] H H' s.heap s'.heap/\dH P w H' B /\
 Heap.FlyingW B outer ea cls a0 s'.heap/\∀b o,s.heap.get? b=some o->b∉frs outer->∃o',B.get? b=some o'
theorem Uo{env:Env}{outer:List Env}{L b:Addr}(hf:env.frame=some L)(h:b∈frs (env::outer)):b=L\/b∈frs outer:=by
 unfold frs at h
 rw[List.filterMap_cons_some hf]at h
 exact List.mem_cons.mp h
theorem Uq{env:Env}{outer:List Env}{b:Addr}(h:b∈frs outer):b∈frs (env::outer):=by
 obtain⟨e,he,q⟩:=List.mem_filterMap.mp h
 exact List.mem_filterMap.mpr ⟨e,List.mem_cons_of_mem _ he,q⟩
theorem Ur{P:Program}{w:World}{H:Hp}{h:Heap}{l:List Addr}(x:dH P w H h)(fr:∀b∈l,H b=none):dH P w H (PySem.W.hideAll h l):=λa o e =>
 (x a o e).stay (λb u hb q=>PySem.W.hideAll_get _ q λhm=>by
  rcases hb with rfl|hb
  ·rw[fr _ hm]at e; cases e
  ·rw[fr _ hm]at hb; cases hb) (λ_ q=>q) λ_ _ q=>q
section
variable {P:Program}{w:World}{K:FZ}{mg:Str->Option Value}{base:Heap}{N:List Str}{qual:Str}{scope:Scope}{f:Addr}{cd:Value}{A:Around}{outer:List Env}{s:Shared}{H:Hp}{E:XK}{CX:jw}
theorem Un.left{pins:List (Addr × Obj)}{σ : St}{H1 H2:Hp}{s1:Shared}{h2 h3 B:Heap}(I:Inv (jx CX P w K mg base N qual scope f cd A outer s H E) pins σ H1 s1)
  (u:Un (frs (envOfC qual scope s.heap.objs.size f cd::outer)) [] H1 H2 s1.heap h2) (st:B.StaysIn h2) (kb:∀b o,s1.heap.get? b=some o->b∉frs (envOfC qual scope s.heap.objs.size f cd::outer)->∃o',B.get? b=some o')
  (fl:B.StaysIn h3) (sl:h2.UpToSlots h3):Un (frs outer) [] H H2 s.heap h3/\∀b o,s.heap.get? b=some o->b∉frs outer->∃o',B.get? b=some o':=by
 have ub:=I.base
 have hf:(envOfC qual scope s.heap.objs.size f cd).frame=some s.heap.objs.size:=by
  rcases I.ok.stk with z|z
  ·exact absurd (congrArg List.length z) (by show outer.length+1≠outer.length; omega)
  ·exact z.2
 have no:∀b o,s.heap.get? b=some o->b∉frs outer->b∉frs (envOfC qual scope s.heap.objs.size f cd::outer):=λb o e n z=>by
  rcases Uo hf z with rfl|z
  ·exact absurd (Heap.lt_size e) (Nat.lt_irrefl _)
  ·exact n z
 have nx:∀b:Addr,b∉([]:List Addr):=λb z=>nomatch z
 have inB:∀b o,s.heap.get? b=some o->b∉frs outer->∃o',B.get? b=some o':=λb o e n=>by
  obtain⟨o1,e1⟩:=ub.there b o e (nx b)
  exact kb b o1 e1 (no b o e n)
 have slots:∀b o,s.heap.get? b=some o->H b=none->b∈frs outer->∃sl,h3.get? b=some {o with slots:=sl }:=λb o e n z=>by
  obtain⟨Ka,e1⟩:=ub.slot b o e n z (nx b)
  obtain⟨sl2,e2⟩:=u.slot b _ e1 (ub.free b o e n (nx b)) (Uq z) (nx b)
  obtain⟨_,o',e',nf⟩:=I.ok.jU.mem z
  have e'':s.heap.get? b=some o':=e'
  rw[e]at e''
  cases e''
  obtain⟨Bx,e3⟩:=sl b _ e2 nf
  exact⟨Bx,e3⟩
 refine⟨⟨λb o e n z _=>?_,λb o e n z _=>slots b o e n z,λb o e n _=>?_,λb o e _=>?_,λb xs q=>u.tups b xs (ub.tups b xs q),λb o q z=>u.kY b o q (ub.kY b o q z),λb ps q=>?_⟩,inB⟩
 ·have e1:=ub.keep b o e n z (nx b)
  have e2:=u.keep b o e1 (ub.free b o e n (nx b)) (no b o e z) (nx b)
  obtain⟨o',e3⟩:=inB b o e z
  have e4:=st b o' e3
  rw[e2]at e4
  cases e4
  exact fl b o e3
 ·obtain⟨o1,e1⟩:=ub.there b o e (nx b)
  exact u.free b o1 e1 (ub.free b o e n (nx b)) (nx b)
 ·by_cases z:b∈frs outer
  ·obtain⟨sl,e1⟩:=slots b o e (I.ok.pU b z) z
   exact⟨_,e1⟩
  ·obtain⟨o',e1⟩:=inB b o e z
   exact⟨o',fl b o' e1⟩
 ·obtain⟨m1,e1⟩:=ub.kZ b ps q
  obtain⟨m2,e2⟩:=u.kZ b _ e1
  exact⟨m1++m2,by rw[e2,Array.append_assoc]⟩
end
def Raises(X:Cx)(E:XK):Prop:=∀(pins:List (Addr × Obj)) (σ : St) (H:Hp) (s:Shared) (h':Heap) (e C:Addr) (us:List Value),Inv X pins σ H s->Heap.MadeExcOf s.heap h' e (.ref C) us->E (.ref C) none H->X.xe (.ref e) {s with heap:=h' }
theorem BJ{P:Program}{w:World}{K:FZ}{mg:Str->Option Value}{base:Heap}{N:List Str}{qual:Str}{scope:Scope}{f:Addr}{cd:Value}{A:Around}{outer:List Env}{s:Shared}{H:Hp}{E:XK} :
  Raises (jx (iH P w) P w K mg base N qual scope f cd A outer s H E) E:=by
 intro pins σ H1 s1 h' e C us I hx q
 have hs:=I.stack
 have hf:(envOfC qual scope s.heap.objs.size f cd).frame=some s.heap.objs.size:=by
  rcases I.ok.stk with z|z
  ·exact absurd (congrArg List.length z) (by show outer.length+1≠outer.length; omega)
  ·exact z.2
 have hin:∀env∈(envOfC qual scope s.heap.objs.size f cd::outer),∀a,env.frame=some a->a∈frs (envOfC qual scope s.heap.objs.size f cd::outer):=λenv he b hb=>List.mem_filterMap.mpr ⟨env,he,hb⟩
 have Kc:(PySem.W.hideAll s1.heap (frs (envOfC qual scope s.heap.objs.size f cd::outer))).StaysIn s1.heap:=λb o z=>PySem.W.of_hideAll _ z
 have stH:(PySem.W.hideAll s1.heap (frs (envOfC qual scope s.heap.objs.size f cd::outer))).StaysIn h':=λb o z=>hx.keeps b o (Kc b o z)
 refine wpAny_leaves_madeW (base:=PySem.W.hideAll s1.heap (frs (envOfC qual scope s.heap.objs.size f cd::outer))) (h:=s1.heap) I.ok.frames hf Kc (PySem.W.funFrames_hide hs hin) hx λh'' t fl _ _ sl=>?_
 obtain⟨un,ib⟩:=Un.left (B:=PySem.W.hideAll s1.heap (frs (envOfC qual scope s.heap.objs.size f cd::outer))) I (Un.kept (h':=h') hx.keeps) stH (λb o z n=>⟨o,PySem.W.hideAll_get _ z n⟩) fl.1 sl
 exact⟨e,.ref C,.ref t,H1,_,rfl,q,I.os,I.bare,un,Ur I.hok I.zQ,fl,ib⟩
theorem cO{P:Program}{w:World}{K:FZ}{mg:Str->Option Value}{base:Heap}{N:List Str}{qual:Str}{scope:Scope}{f:Addr}{cd:Value}{A:Around}{outer:List Env}{s:Shared}{H:Hp}{E:XK} :
  Passes (iH P w) (jx (iH P w) P w K mg base N qual scope f cd A outer s H E) E:=by
 intro pins σ H1 s1 e s' I h
 obtain⟨ea,cls,a0,H2,B,rfl,q,os,bare,un,hok,fl,kb⟩:=h
 have hf:(envOfC qual scope s.heap.objs.size f cd).frame=some s.heap.objs.size:=by
  rcases I.ok.stk with z|z
  ·exact absurd (congrArg List.length z) (by show outer.length+1≠outer.length; omega)
  ·exact z.2
 refine wpAny_leaves_onW (base:=B) I.ok.frames hf fl λh'' Kd sl=>?_
 obtain⟨un',ib⟩:=Un.left (B:=B) I un fl.1 kb Kd.1 sl
 exact⟨ea,cls,a0,H2,B,rfl,q,os.trans I.os,bare,un',hok,Kd,ib⟩
def Ke(E:XK)(C:Addr)(te:TE):TS:=λ_ σ H=>te σ H λv H1=>[v].length=1/\E (.ref C) none H1
theorem BK{X:Cx}{E:XK}{x:Str}{C:Addr}{B newId initId:String}{bm:List Value}{np cpos pos:Pos}{e:Expr}{te:TE}(R:Raises X E)(O:OwnCls x C bm newId X.mg X.base)(FB:ExcBaseFacts B newId initId bm)(hc:X.calm=true)(ha:PE X e te)
  (hg:Gl X x:=by rfl) (hd:(x == ("__debug__" : Str))=false:=by decide) (hs:starEach [e] X.env=[(false,eval e X.env)]:=by rfl) :
  PS X (.Raise (some (.Call (.Name x np) [e] [] cpos)) none pos) (Ke E C te):=by
 refine⟨λpins s σ H D I h=>?_⟩
 obtain⟨tl,N,nm,q,bs,hdct,sn,sub,ab,col,dd,k0,k1,k2,k3,k5,mN,hC,hN,hni,T⟩:=O.obj
 refine wpAny_Raise_call_subT (C:=C) (nm:=nm) (q:=q) (N:=N) (bs:=bs) (bm:=tl) (hdct:=hdct) (sn:=sn) (sub:=sub) (ab:=ab) (col:=col) (dd:=dd) (k0:=k0) (k1:=k1) (k2:=k2) (k3:=k3) (k5:=k5)
  FB (mN:=mN) (T.hasType FB.hasBase) (I.ok.hd hc) (by rw[hs]; rfl) hni (zR I hg O.bound ⟨rfl,?_⟩ hd)
 have ga:PA X [e] (gD te jV):=uD ha aM (by rw[hs]; rfl)
 have z:=ga cpos pins s σ H (λvs H1=>vs.length=1/\E (.ref C) none H1) I (by
  show te σ H λv H1=>_
  exact h)
 rw[hs]at z ⊢
 refine Calls.evalArgs_plain (wpAny_mono z (λus s₂ h₂=>?_) λ_ _ y=>y)
 obtain⟨vs,H2,I2,rv,hl,hE⟩:=h₂
 refine⟨rfl,?_,I2.bk _ _ hC,hN.keeps I2.bk,T.keeps I2.bk,λh' e' hm=>R pins σ H2 s₂ h' e' C us I2 hm hE⟩
 rw[<-rv.length,hl]
 decide
end L2
end
section
namespace L2
open PySem PySem.Spec PyProof.Rows
def XP(X:Cx)(pins:List (Addr × Obj))(EX:St->XK)(e:Value)(s':Shared):Prop:=∃σ H s,Inv X pins σ H s/\iH X.prog X.w X.stack H s (EX σ) e s'
abbrev TX:=Ends->(St->XK)->St->Hp->Prop
abbrev TEX:=(St->XK)->TE
section
variable {X:Cx}{k:Nat}{f:Addr}{fd:FuncData}{x:Str}{ps:List Str}{sp:Sp}{p pos:Pos}{e:Expr}{es:List Expr}{te:TEX}{t:TA}{st:Stmt}{rest:List Stmt}{a b:TX}
end
end L2
end
section
namespace L2
open PySem PySem.Spec PyProof.Rows
section
variable {X:Cx}{pins:List (Addr × Obj)}{σ : St}{H1 H2:Hp}{s0 s1:Shared}{B h6:Heap}{ea:Addr}{cls a0:Value}
end
end L2
end
section
namespace L2
open PySem PySem.Spec PyProof.Rows
section
variable {X:Cx}{pins:List (Addr × Obj)}{σ : St}{H:Hp}{s:Shared}{e:Value}
end
end L2
end
section
namespace L2
open PySem PySem.Spec PyProof.Rows PySem.W PySem.Builtin PySem.Builtin.ObjectAttr PySem.Builtin.Getset_descriptor
structure lZ(K:Frag)(C:Addr):Prop where
 ga:findIn K (.ref C) "__getattribute__" = some (some (.builtin "BaseException.__getattribute__"))
 gn:findIn K (.ref C) "__getattr__" = some none
 cl:findIn K (.ref C) "__class__" = some (some (.builtin "object.__class__"))
 ob:mroIn K C (.type "object")=some true
 be:mroIn K C (.type "BaseException")=some true
 is:(clsIn K C).isSome=true
section
variable {prog:Program}{w:World}{A:Around}{E:Value->Shared->Prop}{h:Heap}{g:Array GenState}{d:Drawn}{t:Nat}{os:OsState}{a C:Addr}{o:Obj}{K:Frag}
theorem Ut{R:Result->Shared->Prop}(X:K.In h)(Z:lZ K C)(hx:h.get? a=some o)(hc:o.cls=.ref C)(hq:R (.ok (.ret (.ref C))) ⟨h,g,d,t,os⟩) :
  codeAny (model prog w) A (.call (.builtin "getset_descriptor.__get__") ⟨[.builtin "object.__class__",.ref a,.ref C],[]⟩) R ⟨h,g,d,t,os⟩:=by
 have ty:Looks (model prog w) h (typeOf (.ref a)) (.ref C):=hc▸(Looks.ld hx).andThen .now
 have ms:=looks_mroIn (M:=model prog w) X Z.ob
 refine codeAny_call_builtin KF.slot_gs.plain KF.entry_gs (KF.slot_gs.check _ _ _ _ _ _ _ _ KF.type_class (KF.args_gs _ _ _) ?_)
 unfold Builtin.«getset_descriptor.__get__»
 unfold Builtin.Getset_descriptor.descrGet
 rw[dga_obj]
 refine wpAny_bind (wpAny_pure ?_)
 unfold Builtin.Getset_descriptor.descrGetter
 unfold Builtin.Getset_descriptor.descrCheckInstance
 unfold Builtin.Getset_descriptor.descrNameAndClass
 unfold isInstance
 simp only[KF.owner_class]
 repeat lk
 refine⟨Code.quiet_builtin _ (by decide +kernel),codeAny_builtin KF.entry_class ?_⟩
 unfold Builtin.«object.__class__»
 unfold shownTypeOf
 repeat lk
 all_goals first|exact hq|assumption
theorem Uu{tk:Tok}{Q:Fin->Shared->Prop}(X:K.In h)(Z:lZ K C)(hx:h.get? a=some o)(hc:o.cls=.ref C)(hq:Q (.done (.ret (.ref C))) ⟨h,g,d,t,os⟩) :
  wpAny (model prog w) A (Builtin.«object.__getattribute__» ⟨[.ref a,.str "__class__" tk],[]⟩) Q E ⟨h,g,d,t,os⟩:=by
 have hT5:(⟨h,g,d,t,os⟩:Shared).TypeIs (.builtin "object.__class__") "getset_descriptor" := KF.type_class
 have f6:=F.slot_gs_get.lookup
 have f7:=F.slot_gs_set.lookup
 have lc:=λA (Q:Option Value->Shared->Prop) E (q:Q (some (.builtin "object.__class__")) ⟨h,g,d,t,os⟩)=>looks_findIn (M:=model prog w) X Z.cl A Q E ⟨h,g,d,t,os⟩ (λ_ _ z=>z) q
 repeat(any_goals (first|assumption|(with_reducible refine wpAny_loadPart_at hx ?_; rw[hc])|with_reducible refine lc _ _ _ ?_|wp_step))
 refine Ut X Z hx hc ?_
 repeat(any_goals (first|assumption|wp_step))
theorem Uv{nameV:Value}{Q:Unit->Shared->Prop}(X:K.In h)(Z:lZ K C)(hx:h.get? a=some o)(hc:o.cls=.ref C)(hq:Q () ⟨h,g,d,t,os⟩) :
  wpAny (model prog w) A (checkBuiltinCall "BaseException.__getattribute__" ⟨[.ref a,nameV],[]⟩) Q E ⟨h,g,d,t,os⟩:=by
 have b1:builtinKind "BaseException.__getattribute__" = some .slot:=by decide +kernel
 have b2:splitId "BaseException.__getattribute__" = some ("BaseException", "__getattribute__"):=by decide +kernel
 have ha:=F.args_bexc_ga (.ref a) nameV
 have lc:=λA (Q:Bool->Shared->Prop) E (q:Q true ⟨h,g,d,t,os⟩)=>looks_mroIn (M:=model prog w) X Z.be A Q E ⟨h,g,d,t,os⟩ (λ_ _ z=>z) q
 simp only[checkBuiltinCall,b1,b2]
 refine wpAny_bind ?_
 unfold isInstance
 repeat(first|(with_reducible refine wpAny_loadPart_at hx ?_; rw[hc])|with_reducible refine lc _ _ _ ?_|wp_step)
 exact hq
theorem Uw{tk:Tok}{R:Result->Shared->Prop}(X:K.In h)(Z:lZ K C)(hx:h.get? a=some o)(hc:o.cls=.ref C)(hq:R (.ok (.ret (.ref C))) ⟨h,g,d,t,os⟩) :
  codeAny (model prog w) A (.call (.builtin "BaseException.__getattribute__") ⟨[.ref a,.str "__class__" tk],[]⟩) R ⟨h,g,d,t,os⟩ :=
 codeAny_call_builtin PySem.F.attr_ValueError.ga.plain F.entry_bexc_ga (Uv X Z hx hc (Uu X Z hx hc hq))
theorem Ux{tk:Tok}{Q:Value->Shared->Prop}(X:K.In h)(Z:lZ K C)(hx:h.get? a=some o)(hc:o.cls=.ref C)(hq:Q (.ref C) ⟨h,g,d,t,os⟩) :
  wpAny (model prog w) A (getAttrBy (.ref a) (.str "__class__" tk) false) Q E ⟨h,g,d,t,os⟩:=by
 have f3:=PySem.F.attr_ValueError.ga.bind (.ref a)
 have hx2:(Value.builtin "BaseException.__getattribute__" == Value.builtin "object.__getattribute__")=false:=by decide +kernel
 have hx1:(onTheHeap (Value.ref C)&&Value.builtin "BaseException.__getattribute__" == Value.builtin "object.__getattribute__")=false:=by rw[hx2]; rfl
 have l1:=λA (Q:Option Value->Shared->Prop) E (q:Q (some (.builtin "BaseException.__getattribute__")) ⟨h,g,d,t,os⟩)=>looks_findIn (M:=model prog w) X Z.ga A Q E ⟨h,g,d,t,os⟩ (λ_ _ z=>z) q
 have l2:=λA (Q:Option Value->Shared->Prop) E (q:Q none ⟨h,g,d,t,os⟩)=>looks_findIn (M:=model prog w) X Z.gn A Q E ⟨h,g,d,t,os⟩ (λ_ _ z=>z) q
 repeat(any_goals (first|assumption|(with_reducible refine wpAny_loadPart_at hx ?_; rw[hc])|with_reducible refine l1 _ _ _ ?_|with_reducible refine l2 _ _ _ ?_|wp_step))
 refine Uw X Z hx hc ?_
 repeat(any_goals (first|assumption|wp_step))
theorem Uy{Q:Option Value->Shared->Prop}(X:K.In h)(Z:lZ K C)(hx:h.get? a=some o)(hc:o.cls=.ref C)(hq:Q (some (.ref C)) ⟨h,g,d,t+1,os⟩) :
  wpAny (model prog w) A (getAttr? (.ref a) "__class__") Q E ⟨h,g,d,t,os⟩:=by
 unfold getAttr? getAttrBy?
 repeat(any_goals (first|assumption|with_reducible apply Ux X Z hx hc|wp_step))
theorem Uz(Z:lZ K C):KitX K (.ref a) (.ref C) (Bg a C) where
 ty:=λ_ _ _ ⟨o,_,h1,h2,_⟩=>h2▸(Looks.ld h1).andThen .now
 it:=λ_ _ X _=>by
  obtain⟨cd,e⟩:=Option.isSome_iff_exists.mp Z.is
  unfold clsIn at e
  split at e
  ·rename_i ho
   intro A' Q' E' s' k q
   unfold isType loadHead
   exact wpAny_bind (wpAny_loadPart (k _ _ (X _ _ ho)) (wpAny_pure q))
  ·cases e
 ne:=λh tp dd its n sl X htp=>by
  obtain⟨cd,e⟩:=Option.isSome_iff_exists.mp Z.is
  refine Bool.eq_false_iff.mpr λq=>?_
  have q':C=tp:=Value.ref.inj (beq_iff_eq.mp q)
  subst q'
  unfold clsIn at e
  split at e
  ·rename_i ho
   have z:=(X _ _ ho).symm.trans htp
   cases z
  ·cases e
 ca:=λ{_ _ _ _ _ s} X p k=>by
  obtain⟨h,g,d,t,os⟩:=s
  obtain⟨o,_,h1,h2,_⟩:=p
  exact Uy X Z h1 h2 k
end
section
variable {X:Cx}
end
end L2
end
section
namespace L2
open PySem
theorem UG(a b:Int):a=b*a.fdiv b+a.fmod b:=by
 have:=Int.mul_fdiv_add_fmod a b
 omega
theorem UJ(a b:Int)(h:b≠0):(a.fmod b).natAbs<b.natAbs:=by
 have h1:=Int.emod_nonneg a h
 have h2:=Int.emod_lt a h
 rw[Int.fmod_eq_emod]
 split
 ·omega
 ·rename_i hn
  have hb:¬0<=b:=λz=>hn (.inl z)
  have hd:¬b∣a:=λz=>hn (.inr z)
  have h3:a%b≠0:=λz=>hd (Int.dvd_of_emod_eq_zero z)
  omega
theorem UL(a b:Int):Int.gcd b (a.fmod b)=Int.gcd a b:=by
 have e:=UG a b
 apply Nat.dvd_antisymm
 ·refine Int.dvd_gcd ?_ ?_
  ·have h1:(Int.gcd b (a.fmod b):Int)∣b:=Int.gcd_dvd_left ..
   have h2:(Int.gcd b (a.fmod b):Int)∣a.fmod b:=Int.gcd_dvd_right ..
   have h3:=Int.dvd_add (Int.dvd_mul_of_dvd_left (c:=a.fdiv b) h1) h2
   rw[<-e]at h3
   exact h3
  ·exact Int.gcd_dvd_left ..
 ·refine Int.dvd_gcd ?_ ?_
  ·exact Int.gcd_dvd_right ..
  ·have h1:(Int.gcd a b:Int)∣a:=Int.gcd_dvd_left ..
   have h2:(Int.gcd a b:Int)∣b:=Int.gcd_dvd_right ..
   have e2:a.fmod b=a-b*a.fdiv b:=by omega
   rw[e2]
   exact Int.dvd_sub h1 (Int.dvd_mul_of_dvd_left h2)
theorem UW(a:Int):(if a<0 then -a else a)=((Int.gcd a 0:Nat):Int):=by
 rw[Int.gcd_zero_right]
 split <;> omega
theorem U0{a b:Int}(hb:0<b):0<((Int.gcd a b:Nat):Int)/\((Int.gcd a b:Nat):Int)<=b/\1<=b / (Int.gcd a b:Nat)/\Int.gcd (a / (Int.gcd a b:Nat)) (b / (Int.gcd a b:Nat))=1/\(0<=a->0<=a / (Int.gcd a b:Nat)) /\
  a=(a / (Int.gcd a b:Nat))*(Int.gcd a b:Nat)/\b=(b / (Int.gcd a b:Nat))*(Int.gcd a b:Nat):=by
 have hg:0<Int.gcd a b:=Int.gcd_pos_of_ne_zero_right a (by omega)
 have hgi:0<((Int.gcd a b:Nat):Int):=by omega
 have d1:(Int.gcd a b:Int)∣a:=Int.gcd_dvd_left ..
 have d2:(Int.gcd a b:Int)∣b:=Int.gcd_dvd_right ..
 have e1:=Int.ediv_mul_cancel d1
 have e2:=Int.ediv_mul_cancel d2
 refine⟨hgi,Int.le_of_dvd hb d2,?_,Int.gcd_ediv_gcd_ediv_gcd hg,λh=>Int.ediv_nonneg h (by omega),e1.symm,e2.symm⟩
 have:0<b / (Int.gcd a b:Nat):=Int.ediv_pos_of_pos_of_dvd hb (by omega) d2
 omega
end L2
end
section
namespace L2
open PySem PySem.Spec PyProof.Rows
section
variable {X:Cx}
end
end L2
end
section
namespace L2
open PySem PySem.Spec PyProof.Rows PySem.W
theorem Kf{K:Frag}{h:Heap}{mg:Str->Option Value}{x:Str}{C:Addr}{bmB:List Value}{newId:String}(X:K.In h)(G:h.Ns mainGlobals mg)(e:nsIn K mainGlobals x=some (some (.ref C)))(q:excIn K C bmB newId=true):OwnCls x C bmB newId mg h:=by
 constructor
 ·exact mg_of X G e
 unfold excIn at q
 split at q
 case h_2=>cases q
 rename_i dd cd sl lk
 split at q
 case h_2=>cases q
 rename_i c0 bm y0 y1 y2 y3 nid y5 hm hl
 rw[Bool.and_eq_true,Bool.and_eq_true,Bool.and_eq_true,Bool.and_eq_true,Bool.and_eq_true]at q
 obtain⟨⟨⟨⟨⟨q1,q2⟩,q3⟩,q4⟩,q5⟩,q6⟩:=q
 have r1:=beq_iff_eq.mp q1
 have r2:=beq_iff_eq.mp q2
 have r6:=beq_iff_eq.mp q6
 have r3:cd.hasDel=false:=by simpa using q3
 subst r1 r2
 have hsl:sl = #[y0,y1,y2,y3,some (.builtin nid),y5]:=by
  cases sl with
  |mk l=>exact congrArg Array.mk hl
 subst hsl
 cases cd with
 |mk nm bs mro ns qn hd sn sub ab col del =>
  dsimp only at hm r3 q5 r6
  subst hm r3
  exact⟨bm,ns,nm,qn,bs,hd,sn,sub,ab,col,dd,y0,y1,y2,y3,y5,_,X _ _ lk,.of_isNs (isNs_of_in X q5),nsMap_none_of_in X q5 r6,tail_of_in X q4⟩
section
variable {P:Program}{w:World}{K:Frag}{mg:Str->Option Value}{base:Heap}
theorem su.U3{x qual:Str}{st:Stmt}{f:Addr}{fd:FuncData}{N ps:List Str}{k:Nat}{sp:Sp}(F:su K x qual st f fd)(S:oK N ps (bL st))(len:∀vs H Q E,sp vs H Q E->vs.length=ps.length)
  (hbody:∀(cdv:Value) (A:Around) (outer:List Env) (s:Shared) (H:Hp) (vs:List V) (Q:VK) (E:XK),dN k (A.deeper (envOfC qual (bL st) s.heap.objs.size f cdv))->sp vs H Q E ->
   ∃t,iB (jx (iH P w) P w K mg base N qual (bL st) f cdv A outer s H E) (jy st) t/\t {nx:=λ_ H'=>Q .non H',rt:=Q } (start N vs) H):jK P w K mg base (iH P w) (k+1) f fd ps sp:=by
 obtain⟨oc,od,kV,doc,pm,an,cdv,ct,osl,rfl,lk,hcd⟩:=F.ex
 exact R3 lk hcd S len λA outer s H vs Q E hr h=>hbody cdv A outer s H vs Q E hr h
def aX(P:Program)(w:World)(K:Frag)(mg:Str->Option Value)(base:Heap)(k:Nat)(x:Str)(ps:List Str)(sp:Sp):Prop :=
 ∃f fd,jK P w K mg base (iH P w) k f fd ps sp/\Binds K fd ps []/\keepIn K (.ref f)=true/\mg x=some (.ref f)
theorem aX.mono{j k:Nat}{x:Str}{ps:List Str}{sp:Sp}(D:aX P w K mg base j x ps sp)(h:j<=k):aX P w K mg base k x ps sp:=by
 obtain⟨f,fd,h1,h2⟩:=D
 exact⟨f,fd,h1.mono h,h2⟩
theorem At.BL{k:Nat}{x:Str}{st:Stmt}{N ps:List Str}{sp:Sp}(a:At K mg x st)(S:oK N ps (bL st))
  (hb:∀(kV doc pm:Value) (an:Option Addr) (cdv ct:Value) (us:List Value),us.length=ps.length->bindArgs (fnOf x x (m7 st) (jy st) (bL st) .none kV doc pm an cdv ct) ⟨us,[]⟩=pure (ps.zip us))
  (len:∀vs H Q E,sp vs H Q E->vs.length=ps.length)
  (hbody:∀(f:Addr) (cdv:Value) (A:Around) (outer:List Env) (s:Shared) (H:Hp) (vs:List V) (Q:VK) (E:XK),dN k (A.deeper (envOfC x (bL st) s.heap.objs.size f cdv))->sp vs H Q E ->
   ∃t,iB (jx (iH P w) P w K mg base N x (bL st) f cdv A outer s H E) (jy st) t/\t {nx:=λ_ H'=>Q .non H',rt:=Q } (start N vs) H):aX P w K mg base (k+1) x ps sp:=by
 obtain⟨f,fd,F,m⟩:=a
 exact⟨f,fd,F.U3 S len λcdv A outer s H vs Q E hr h=>hbody f cdv A outer s H vs Q E hr h,F.binds hb,F.kp,m⟩
end
section
variable {X:Cx}{k:Nat}{x:Str}{ps:List Str}{sp:Sp}{p pos:Pos}{e:Expr}{es:List Expr}{t:TA}
theorem U4{P:Program}{w:World}:Passes (iH P w) X E0:=λ_ _ _ _ _ _ _ h=>by
 obtain⟨_,_,_,_,_,_,q,_⟩:=h
 exact q.elim
end
end L2
end
section
namespace L2
open PySem PySem.Spec PyProof.Rows
noncomputable def BP(K:FZ)(l1 l2:Addr):It where
 go:=λi H=>∃xs ys x y,bG K H l1 xs/\bG K H l2 ys/\xs[i]?=some x/\ys[i]?=some y
 rR:=λi H v H'=>∃T x y,v=.ref T/\H T=none/\H'=upd H T (.tup [x,y])/\∀xs ys,bG K H l1 xs->bG K H l2 ys->xs[i]?=some x/\ys[i]?=some y
 stop:=λi H=>∃xs ys,bG K H l1 xs/\bG K H l2 ys/\i=min xs.length ys.length
def U5(l1 l2 z TI TO i1 i2:Addr)(i:Nat)(h:Heap):Prop:=IsZip h z TI TO .none/\IsPair h TI (.ref i1) (.ref i2)/\(∃a b,IsPair h TO a b)/\h.IsListIter i1 l1 i/\h.IsListIter i2 l2 i
section
variable {P:Program}{w:World}{K:FZ}
theorem Inv.U6{X:Cx}{pins:List (Addr × Obj)}{σ : St}{H:Hp}{s:Shared}{h':Heap}{tk:Nat}{fp:List Addr}{T:Addr}{xs:List V}{its:List Value}(I:Inv X pins σ H s)(hf:∀b∈fp,lA X pins H b)(k:∀b o,b∉fp->s.heap.get? b=some o->h'.get? b=some o)
  (th:∀b∈fp,∃o,h'.get? b=some o) (hT:s.heap.objs.size<=T) (ht:IsTup h' T its.toArray) (rv:Vals xs its) (hz:xs.length<=sizeLine):Inv X pins σ (upd H T (.tup xs)) {s with heap:=h',toks:=tk }:=by
 have fT:H T=none:=I.hok.fresh hT
 have neT:∀b o,s.heap.get? b=some o->b≠T:=λb o e z=>by rw[z]at e; exact absurd (Heap.lt_size e) (Nat.not_lt.mpr hT)
 have uP:∀b o,H b=some o->b≠T:=λb o e z=>by rw[z,fT]at e; cases e
 refine I.step (g':=s.gens) (d':=s.drawn) (ch:=fp) (λb hb=>?_) (λb o _ _ hc e _=>k b o hc e) (λb o _ _ hc e _=>⟨o.slots,k b o hc e⟩) (λb o _ e n=>by rw[bQ (neT b o e)]; exact n) (λb o hc e=>⟨o,k b o hc e⟩)
  (λb ys e=>by rw[bQ (uP b _ e)]; exact e) (λb o u e=>by rw[bQ (uP b _ e)]; exact e) (λb ps e=>⟨#[],by rw[bQ (uP b _ e)]; simpa using e⟩) (λm hm=>?_) (λb u e=>?_) I.bare
 ·obtain⟨f0,f1,f2,f3,f4,f5⟩:=hf b hb
  exact⟨f3,f1,f4,f5⟩
 ·obtain⟨o,es,ep,ho,r⟩:=hm
  exact⟨o,es,ep,k _ o (λz=>(hf _ z).2.1 rfl) ho,r⟩
 ·by_cases z:b=T
  ·subst z
   rw[fD]at e
   cases e
   exact⟨hz,its,rv,ht⟩
  ·rw[bQ z]at e
   refine(I.hok b u e).stay (λc o hc q=>k c o (λzc=>?_) q) (λc q=>by rw[bQ (uP c _ q)]; exact q) λc ys q=>by rw[bQ (uP c _ q)]; exact q
   have:=(hf c zc).1
   rcases hc with rfl|hc
   ·rw[this]at e; cases e
   ·rw[this]at hc; cases hc
theorem Inv.U7{X:Cx}{pins:List (Addr × Obj)}{σ : St}{H:Hp}{s:Shared}{h':Heap}{tk:Nat}{fp:List Addr}(I:Inv X pins σ H s)(hf:∀b∈fp,lA X pins H b)(k:∀b o,b∉fp->s.heap.get? b=some o->h'.get? b=some o):Inv X pins σ H {s with heap:=h',toks:=tk }:=by
 refine I.step (g':=s.gens) (d':=s.drawn) (ch:=fp) (λb hb=>?_) (λb o _ _ hc e _=>k b o hc e) (λb o _ _ hc e _=>⟨o.slots,k b o hc e⟩) (λb o _ e n=>n) (λb o hc e=>⟨o,k b o hc e⟩)
  (λb ys e=>e) (λb o u e=>e) (λb ps e=>⟨#[],by simpa using e⟩) (λm hm=>?_) (λb u e=>?_) I.bare
 ·obtain⟨f0,f1,f2,f3,f4,f5⟩:=hf b hb
  exact⟨f3,f1,f4,f5⟩
 ·obtain⟨o,es,ep,ho,r⟩:=hm
  exact⟨o,es,ep,k _ o (λz=>(hf _ z).2.1 rfl) ho,r⟩
 ·refine(I.hok b u e).stay (λc o hc q=>k c o (λzc=>?_) q) (λc q=>q) λc ys q=>q
  have:=(hf c zc).1
  rcases hc with rfl|hc
  ·rw[this]at e; cases e
  ·rw[this]at hc; cases hc
theorem U8{elts:List Expr}{k:Nat}{pos:Pos}(l1 l2 z TI TO i1 i2:Addr)(D:ZipApart z TI TO i1 i2 l1 l2):Turn P w K (.Tuple elts k pos) (BP K l1 l2) [z,TI,TO,i1,i2] z (U5 l1 l2 z TI TO i1 i2) where
 mem:=by simp
 obj:=λi h st b hb=>by
  obtain⟨hz,hTI,⟨a,c,hTO⟩,⟨o1,e1,_,d1⟩,⟨o2,e2,_,d2⟩⟩:=st
  have hb':b=z\/b=TI\/b=TO\/b=i1\/b=i2:=by simpa using hb
  rcases hb' with rfl|rfl|rfl|rfl|rfl
  ·exact⟨_,hz,λv q=>nomatch q⟩
  ·exact⟨_,hTI,λv q=>nomatch q⟩
  ·exact⟨_,hTO,λv q=>nomatch q⟩
  ·exact⟨o1,e1,λv q=>by rw[d1]at q; cases q⟩
  ·exact⟨o2,e2,λv q=>by rw[d2]at q; cases q⟩
 keep:=λi h h' st kp=>by
  obtain⟨hz,hTI,⟨a,c,hTO⟩,h1,h2⟩:=st
  exact⟨kp z (by simp) _ hz,kp TI (by simp) _ hTI,⟨a,c,kp TO (by simp) _ hTO⟩,h1.at λo e=>kp i1 (by simp) o e,h2.at λo e=>kp i2 (by simp) o e⟩
 item:=by
  intro X hP hw hK hc i pins s σ H E I hf st hg
  subst hP hw hK
  obtain⟨xs,ys,x,y,q1,q2,hx,hy⟩:=hg
  obtain⟨ql,xq,p1,_⟩:=I.list q1
  obtain⟨its2,iG,p2,_⟩:=I.list q2
  obtain⟨u,hu,ru⟩:=xq.get hx
  obtain⟨v,hv,rv⟩:=iG.get hy
  have W:=WalksT.zip2 (prog:=X.prog) (w:=X.w) (A:=X.A) (I.ok.hd hc) z TI TO i1 i2 l1 l2 D ql.toArray its2.toArray
  have lt1:i<ql.length:=(List.getElem?_eq_some_iff.mp hu).1
  have Kg:i<its2.length:=(List.getElem?_eq_some_iff.mp hv).1
  refine W.item i s _ E (by simp; omega) ⟨st.1,st.2.1,st.2.2.1,st.2.2.2.1,st.2.2.2.2,p1.isList,p2.isList⟩ λT vals h' tk hp hT ht mid kk=>?_
  obtain⟨u',v',e1,e2,rfl⟩:=hp
  have eu:u'=u:=by
   have:ql[i]?=some u':=by simpa using e1
   rw[hu]at this; cases this; rfl
  have ev:v'=v:=by
   have:its2[i]?=some v':=by simpa using e2
   rw[hv]at this; cases this; rfl
  subst eu ev
  refine⟨.ref T,rfl,?_⟩
  refine W.go elts k pos i T _ _ E mid λh'' st' Kh=>?_
  have nT:=W.apart i T _ mid
  have ob:=(λb hb=>(by
   obtain⟨hz,hTI,⟨a,c,hTO⟩,⟨o1,e1,_,d1⟩,⟨o2,e2,_,d2⟩⟩:=st
   have hb':b=z\/b=TI\/b=TO\/b=i1\/b=i2:=by simpa using hb
   rcases hb' with rfl|rfl|rfl|rfl|rfl
   ·exact Heap.lt_size hz
   ·exact Heap.lt_size hTI
   ·exact Heap.lt_size hTO
   ·exact Heap.lt_size e1
   ·exact Heap.lt_size e2:b<s.heap.objs.size):∀b∈[z,TI,TO,i1,i2],b<s.heap.objs.size)
  have U9:T∉[z,TI,TO,i1,i2]:=λm=>absurd (ob T m) (Nat.not_lt.mpr hT)
  have sub:∀b,b∉[z,TI,TO,i1,i2]->b∉[z,TO,i1,i2]:=λb n m=>n (by simp at m ⊢; rcases m with rfl|rfl|rfl|rfl <;> simp)
  have Va:IsTup h'' T #[u',v']:=by
   obtain⟨o,e,r⟩:=ht
   exact⟨o,Kh T o nT e,r⟩
  have th:∀b∈[z,TI,TO,i1,i2],∃o,h''.get? b=some o:=λb hb=>by
   obtain⟨hz,hTI,⟨a,c,hTO⟩,⟨o1,e1,_,d1⟩,⟨o2,e2,_,d2⟩,_⟩:=st'
   have hb':b=z\/b=TI\/b=TO\/b=i1\/b=i2:=by simpa using hb
   rcases hb' with rfl|rfl|rfl|rfl|rfl
   ·exact⟨_,hz⟩
   ·exact⟨_,hTI⟩
   ·exact⟨_,hTO⟩
   ·exact⟨_,e1⟩
   ·exact⟨_,e2⟩
  have I':Inv X pins σ (upd H T (.tup [x,y])) {s with heap:=h'',toks:=tk }:=I.U6 (its:=[u',v']) hf (λb o n e=>Kh b o (sub b n) (kk b o (sub b n) e)) th hT Va (.cons ru (.cons rv .nil)) (by show 2<=sizeLine; decide)
  refine⟨.ref T,_,I',rfl,⟨T,x,y,rfl,I.hok.fresh hT,rfl,λxs' ys' a1 a2=>?_⟩,⟨st'.1,st'.2.1,st'.2.2.1,st'.2.2.2.1,st'.2.2.2.2.1⟩,λb hb=>?_⟩
  ·rw[I.wA a1 q1,I.wA a2 q2]
   exact⟨hx,hy⟩
  ·have nb:b≠T:=by
    intro e0
    rw[e0]at hb
    exact U9 hb
   rw[bQ nb]
   exact(hf b hb).1
 done:=by
  intro X hP hw hK hc i pins s σ H E I hf st hg
  subst hP hw hK
  obtain⟨xs,ys,q1,q2,e⟩:=hg
  obtain⟨ql,xq,p1,_⟩:=I.list q1
  obtain⟨its2,iG,p2,_⟩:=I.list q2
  have W:=WalksT.zip2 (prog:=X.prog) (w:=X.w) (A:=X.A) (I.ok.hd hc) z TI TO i1 i2 l1 l2 D ql.toArray its2.toArray
  have ei:i=min ql.toArray.size its2.toArray.size:=by simp[e,xq.length,iG.length]
  subst ei
  have sub:∀b,b∉[z,TI,TO,i1,i2]->b∉[z,TO,i1,i2]:=λb n m=>n (by simp at m ⊢; rcases m with rfl|rfl|rfl|rfl <;> simp)
  exact W.done s _ E ⟨st.1,st.2.1,st.2.2.1,st.2.2.2.1,st.2.2.2.2,p1.isList,p2.isList⟩ λh' tk kk=>⟨rfl,I.U7 hf λb o n e=>kk b o (sub b n) e⟩
 self:=λA i s Q E st h=>wpAny_pyIter_zip st.1 h
end
section
variable {X:Cx}
def Km(K:FZ)(ta:TA):TI:=λσ H R=>ta σ H λvs H1=>∃l1 l2,vs=[.ref l1,.ref l2]/\(∃xs,bG K H1 l1 xs)/\(∃ys,bG K H1 l2 ys)/\R (BP K l1 l2) H1
theorem Vb{elts:List Expr}{k:Nat}{tpos:Pos}{a b:Expr}{ta:TA}{p pos:Pos}(hm:X.mg "zip" = none) (ha:PA X [a,b] ta) (hg:Gl X "zip" := by rfl) (hs:starEach [a,b] X.env=[(false,eval a X.env),(false,eval b X.env)]:=by rfl) (hs2:starEach [b] X.env=[(false,eval b X.env)]:=by rfl) :
  PI X (.Tuple elts k tpos) (.Call (.Name "zip" p) [a,b] [] pos) (Km X.K ta):=by
 intro pins s σ H R I h
 refine Call_ (uw I hg hm (show bootBuiltins "zip" = some (.type "zip") by decide +kernel) (PyProof.Rows.callWith_type1 (bf (ha pos pins s σ H _ I h) λus s1 ⟨vs,H1,I1,r1,q1⟩=>?_) (by rw[hs,hs2]) (by rw[hs2]; rfl)))
 obtain⟨l1,l2,e,⟨xs,h1⟩,⟨ys,h2⟩,q⟩:=q1
 subst e
 cases r1 with
 |cons r rr =>
  cases rr with
  |cons r' rr =>
   cases rr
   cases r
   cases r'
   obtain⟨ql,xq,p1,_⟩:=I1.list h1
   obtain⟨its2,iG,p2,_⟩:=I1.list h2
   obtain⟨o1,e1,_⟩:=p1.isList
   obtain⟨o2,e2,_⟩:=p2.isList
   refine call_zip_2 p1.isList p2.isList λh' hz hTI hTO hi1 hi2 hsz hk=>?_
   refine wpAny_pyIter_zip hz ?_
   refine⟨_,[_,_,_,_,_],_,_,H1,rfl,I1.kept (t':=s1.toks) hk,U8 l1 l2 _ _ _ _ _ (PySem.W.ktu_apart _ _ _ (Heap.lt_size e1) (Heap.lt_size e2)),⟨hz,hTI,⟨_,_,hTO⟩,hi1,hi2⟩,λc hc=>?_,q⟩
   have hc':c=s1.heap.objs.size+4\/c=s1.heap.objs.size+2\/c=s1.heap.objs.size+3\/c=s1.heap.objs.size\/c=s1.heap.objs.size+1:=by simpa using hc
   have hge:s1.heap.objs.size<=c:=by rcases hc' with rfl|rfl|rfl|rfl|rfl <;> omega
   exact I1.wF hge (I1.hok.fresh hge)
end
end L2
end
section
namespace L2
open PySem
end L2
end
section
namespace L2
open PySem PySem.Spec PyProof.Rows
section
variable {X:Cx}{e:Expr}{te:TE}{th:TO}{pos p2:Pos}
end
end L2
end
section
namespace L2
open PySem PySem.Spec PyProof.Rows
section
variable {X:Cx}
end
section
variable {X:Cx}{tg:Expr}
end
end L2
end
section
namespace L2
open PySem PySem.Spec PyProof.Rows
section
variable {X:Cx}
end
end L2
end
section
namespace L2
open PySem PySem.Spec PyProof.Rows
inductive Rs(α : Type) where
 |bad|ex (c:Str)|ok (a : α)
def Rs.bind{α β : Type}:Rs α -> (α -> Rs β)->Rs β
 |.bad,_=>.bad
 |.ex c,_=>.ex c
 |.ok a,f=>f a
instance:Monad Rs where
 pure:=.ok
 bind:=Rs.bind
def Rs.post{α : Type}(r:Rs α)(EX:Str->Prop)(P : α -> Prop):Prop:=match r with
 |.bad=>False
 |.ex c=>EX c
 |.ok a=>P a
theorem Rs.aG{α β : Type}{r:Rs α}{f : α -> Rs β}{EX:Str->Prop}{P : β -> Prop}(h:(r.bind f).post EX P):r.post EX λa=>(f a).post EX P:=by
 cases r <;> exact h
theorem Rs.aO{α : Type}{r:Rs α}{EX:Str->Prop}{P P' : α -> Prop}(h:r.post EX P)(i:∀a,P a->P' a):r.post EX P':=by
 cases r with
 |bad=>exact h
 |ex c=>exact h
 |ok a=>exact i a h
open Classical in
def aC(W:Addr->Prop)(H:Hp):Hp:=λb=>if W b then none else H b
theorem xr{W:Addr->Prop}{H:Hp}{b:Addr}(h:W b):aC W H b=none:=if_pos h
theorem cQ{W:Addr->Prop}{H:Hp}{b:Addr}(h:¬W b):aC W H b=H b:=if_neg h
theorem gF{W:Addr->Prop}{H:Hp}{b:Addr}{o:HO}(h:aC W H b=some o):¬W b/\H b=some o:=by
 by_cases w:W b
 ·rw[xr w]at h; cases h
 ·rw[cQ w]at h; exact⟨w,h⟩
theorem gR(W:Addr->Prop)(H:Hp):Same (aC W H) H:=λ_ _ h=>(gF h).2
theorem nq{W W':Addr->Prop}{H H':Hp}(hw:∀b o,H b=some o->W' b->W b)(s:∀b o,¬W b->H b=some o->H' b=some o):Same (aC W H) (aC W' H'):=λb o h=>by
 obtain⟨n,e⟩:=gF h
 rw[cQ λw=>n (hw b o e w)]
 exact s b o n e
theorem qm{W:Addr->Prop}{H:Hp}{a:Addr}{o:HO}(h:W a):aC W (upd H a o)=aC W H:=by
 funext b
 by_cases w:W b
 ·rw[xr w,xr w]
 ·rw[cQ w,cQ w]
  exact bQ λe=>w (e▸h)
inductive Sl where
 |un|sh (t:Tr)|ow (ts:List Tr)|rf (ts:List Tr)|dp (ts:List Tr)
abbrev En:=List Sl
inductive Rv where
 |v (T:Tr) (fr:Bool)|s (i:Nat)
abbrev EF:=En->Rs (Rv × En)
structure Tx where
 K:FZ
 Z:Addr->Prop
 R:Addr->Prop
 H0:Hp
 B:Hp
 EX:Str->Prop
def Mu(ρ : En)(i:Nat):Prop:=∃ts,ρ[i]?=some (Sl.ow ts)\/ρ[i]?=some (Sl.rf ts)
def Vc:Tr->Bool
 |.lst _=>true
 |_=>false
inductive DR(K:FZ)(G H:Hp):List V->List Tr->List Addr->Prop
 |nil:DR K G H [] [] []
 |cl {x:V} {u:Tr} {xs:List V} {ts:List Tr} {bs:List Addr} (n:Vc u=false) (h:Rep K G x u) (r:DR K G H xs ts bs):DR K G H (x::xs) (u::ts) bs
 |rw {b:Addr} {ys:List V} {us:List Tr} {xs:List V} {ts:List Tr} {bs:List Addr} (h:H b=some (.lst ys)) (q:aF K G ys us) (r:DR K G H xs ts bs):DR K G H (.ref b::xs) (.lst us::ts) (b::bs)
def oV(t:Tx)(W:Addr->Prop)(H:Hp)(a:Addr)(xs:List V)(ts:List Tr)(fp:List Addr):Prop :=
 ∃bs,fp=a::bs/\fp.Nodup/\(∀b∈fp,W b/\t.H0 b=none)/\H a=some (.lst xs)/\DR t.K (aC W H) H xs ts bs
theorem DR.move{K:FZ}{G G' H H':Hp}(m:Same G G'):∀{xs:List V} {ts:List Tr} {bs:List Addr},DR K G H xs ts bs->(∀b o,b∈bs->H b=some o->H' b=some o)->DR K G' H' xs ts bs
 |_,_,_,.nil,_=>.nil
 |_,_,_,.cl n h r,k=>.cl n (h.mono m) (DR.move m r k)
 |_,_,_,.rw h q r,k=>.rw (k _ _ (List.mem_cons_self ..) h) (q.mono m) (DR.move m r λb o hb=>k b o (List.mem_cons_of_mem _ hb))
theorem oV.move{t t':Tx}{W W':Addr->Prop}{H H':Hp}{a:Addr}{xs:List V}{ts:List Tr}{fp:List Addr}(d:oV t W H a xs ts fp)(hK:t'.K=t.K)(h0:t'.H0=t.H0)(m:Same (aC W H) (aC W' H'))(w:∀b∈fp,W' b)(k:∀b o,b∈fp->H b=some o->H' b=some o):oV t' W' H' a xs ts fp:=by
 obtain⟨bs,e,nd,ww,ha,r⟩:=d
 refine⟨bs,e,nd,λb hb=>⟨w b hb,by rw[h0]; exact(ww b hb).2⟩,k a _ (by rw[e]; exact List.mem_cons_self ..) ha,?_⟩
 rw[hK]
 exact r.move m λb o hb=>k b o (by rw[e]; exact List.mem_cons_of_mem _ hb)
def Lt(H:Hp)(b:Addr):Prop:=(∃xs,H b=some (.lst xs))\/∃ps,H b=some (.dj ps)
theorem Lt.ne{H:Hp}{b:Addr}(h:Lt H b):H b≠none:=by
 rcases h with⟨_,h⟩|⟨_,h⟩ <;> (rw[h]; intro z; cases z)
theorem Lt.grow{H H':Hp}{b:Addr}(h:Lt H b)(s:∀b o,H b=some o->H' b=some o):Lt H' b:=by
 rcases h with⟨_,h⟩|⟨_,h⟩
 ·exact .inl ⟨_,s _ _ h⟩
 ·exact .inr ⟨_,s _ _ h⟩
def nu:List Str:=["falling_places", "order_of_bounds"]
def Tb(K:FZ)(b:Addr):Prop:=∃x∈nu,∃c,PySem.W.tabIn K x=some (c,b)
def Vd(o:Obj)(q:Str):Prop:=∃vs t,o.data=.fields vs/\vs[1]?=some (.str q t)
def Ve(x:Str):Str:=x++(".<locals>." : Str)++("<lambda>" : Str)
def Vf(H:Hp)(q:Str)(ps:Array Value):Prop:=TriplesOk ps.toList/\∀pos v,codeAmong pos ps.toList=some v->∃c o,v=.ref c/\H c=some (.cY o (.own 0))/\Vd o q
def cX(K:FZ)(H:Hp):Prop:=∀x∈nu,∀c b,PySem.W.tabIn K x=some (c,b)->∃ps,H b=some (.dj ps)/\Vf H (Ve x) ps
theorem cX.dj{K:FZ}{H:Hp}(h:cX K H){b:Addr}(t:Tb K b):∃ps,H b=some (.dj ps):=by
 obtain⟨x,hx,c,e⟩:=t
 obtain⟨ps,q,_⟩:=h x hx c b e
 exact⟨ps,q⟩
theorem cX.ne{K:FZ}{H:Hp}(h:cX K H){a b:Addr}{xs:List V}(t:Tb K b)(e:H a=some (.lst xs)):b≠a:=λz=>by
 obtain⟨ps,q⟩:=h.dj t
 rw[z,e]at q
 cases q
theorem cX.fr{K:FZ}{H H':Hp}(h:cX K H)(s:∀b o,(∀xs,o ≠ .lst xs)->H b=some o->H' b=some o):cX K H':=λx hx c b e=>by
 obtain⟨ps,q,t1,t2⟩:=h x hx c b e
 refine⟨ps,s _ _ (λ_ z=>by cases z) q,t1,λpos v k=>?_⟩
 obtain⟨c,o,e1,e2,e3⟩:=t2 pos v k
 exact⟨c,o,e1,s _ _ (λ_ z=>by cases z) e2,e3⟩
theorem cX.same{K:FZ}{H H':Hp}(h:cX K H)(s:Same H H'):cX K H':=h.fr λb o _=>s b o
theorem cX.upd{K:FZ}{H:Hp}(h:cX K H){a:Addr}{xs:List V}{o:HO}(e:H a=some (.lst xs)):cX K (L2.upd H a o):=h.fr λb u n q=>by
 rw[bQ]
 ·exact q
 ·rintro rfl
  rw[e]at q
  cases q
  exact n _ rfl
structure oW(t:Tx)(W:Addr->Prop)(H:Hp):Prop where
 ok:cX t.K H
 w:∀b,Tb t.K b->W b
 r:∀b,Tb t.K b->t.R b
 B:∀b,Tb t.K b->t.B b=none
theorem oW.same{t:Tx}{W:Addr->Prop}{H H':Hp}(f:oW t W H)(s:Same H H'):oW t W H':=⟨f.ok.same s,f.w,f.r,f.B⟩
theorem oW.Ko{t:Tx}{W W':Addr->Prop}{H:Hp}(f:oW t W H)(h:∀b,W b->W' b):oW t W' H:=⟨f.ok,λb z=>h b (f.w b z),f.r,f.B⟩
structure EOF(t:Tx)(W:Addr->Prop)(ρ : En)(σ : St)(H:Hp)(F:Nat->List Addr):Prop where
 len : ρ.length = σ.length
 zw:∀b,t.Z b->W b
 z0:∀b,t.Z b->t.H0 b≠none
 wl:∀b,W b->Lt H b
 f0:∀b o,t.H0 b=some o->¬t.R b->H b=some o
 n0:∀b,H b=none->t.H0 b=none
 sh:∀(i:Nat) (u:Tr),ρ[i]?=some (.sh u)->∃v,σ[i]?=some (some v)/\Rep t.K (aC W H) v u
 ow:∀(i:Nat) (ts:List Tr),ρ[i]?=some (Sl.ow ts)->∃a xs,σ[i]?=some (some (V.ref a))/\W a/\t.H0 a=none/\H a=some (.lst xs)/\aF t.K (aC W H) xs ts
 rf:∀(i:Nat) (ts:List Tr),ρ[i]?=some (Sl.rf ts)->∃a xs,σ[i]?=some (some (V.ref a))/\W a/\t.R a/\H a=some (.lst xs)/\aF t.K (aC W H) xs ts
 dis:∀(i j:Nat) (a:Addr),Mu ρ i->Mu ρ j -> σ[i]?=some (some (V.ref a)) -> σ[j]?=some (some (V.ref a))->i=j
 pn:∀b o,t.B b=some o->H b=some o
 pd:∀(i:Nat) (a:Addr),Mu ρ i -> σ[i]?=some (some (V.ref a))->t.B a=none
 dp:∀(i:Nat) (ts:List Tr),ρ[i]?=some (Sl.dp ts)->∃a xs,σ[i]?=some (some (V.ref a))/\oV t W H a xs ts (F i)
 dd:∀(i j:Nat) (ts us:List Tr),i≠j -> ρ[i]?=some (Sl.dp ts) -> ρ[j]?=some (Sl.dp us)->∀b∈F i,b∉F j
 dm:∀(i j:Nat) (ts:List Tr) (c:Addr),ρ[i]?=some (Sl.dp ts)->Mu ρ j -> σ[j]?=some (some (V.ref c))->c∉F i
 db:∀(i:Nat) (ts:List Tr),ρ[i]?=some (Sl.dp ts)->∀b∈F i,t.B b=none
 tab:oW t W H
def aH(t:Tx)(W:Addr->Prop)(ρ : En)(σ : St)(H:Hp):Prop:=∃F,EOF t W ρ σ H F
def oX(t:Tx)(W:Addr->Prop)(a:Addr)(ρ : En)(σ : St)(H:Hp):Prop:=∃F,EOF t (λb=>W b\/b=a) ρ σ H F/\∀(i:Nat) (ts:List Tr),ρ[i]?=some (Sl.dp ts)->a∉F i
theorem oX.ok{t:Tx}{W:Addr->Prop}{a:Addr}{ρ : En}{σ : St}{H:Hp}(e:oX t W a ρ σ H):aH t (λb=>W b\/b=a) ρ σ H:=e.elim λF e=>⟨F,e.1⟩
section
variable {t:Tx}{W:Addr->Prop}{ρ : En}{σ : St}{H:Hp}
theorem aH.len(e:aH t W ρ σ H) : ρ.length = σ.length:=e.elim λ_ e=>e.len
theorem aH.zw(e:aH t W ρ σ H):∀b,t.Z b->W b:=e.elim λ_ e=>e.zw
theorem aH.z0(e:aH t W ρ σ H):∀b,t.Z b->t.H0 b≠none:=e.elim λ_ e=>e.z0
theorem aH.wl(e:aH t W ρ σ H):∀b,W b->Lt H b:=e.elim λ_ e=>e.wl
theorem aH.tab(e:aH t W ρ σ H):oW t W H:=e.elim λ_ e=>e.tab
theorem aH.f0(e:aH t W ρ σ H):∀b o,t.H0 b=some o->¬t.R b->H b=some o:=e.elim λ_ e=>e.f0
theorem aH.n0(e:aH t W ρ σ H):∀b,H b=none->t.H0 b=none:=e.elim λ_ e=>e.n0
theorem aH.sh(e:aH t W ρ σ H):∀(i:Nat) (u:Tr),ρ[i]?=some (.sh u)->∃v,σ[i]?=some (some v)/\Rep t.K (aC W H) v u:=e.elim λ_ e=>e.sh
theorem aH.ow(e:aH t W ρ σ H):∀(i:Nat) (ts:List Tr),ρ[i]?=some (Sl.ow ts)->∃a xs,σ[i]?=some (some (V.ref a))/\W a/\t.H0 a=none/\H a=some (.lst xs)/\aF t.K (aC W H) xs ts:=e.elim λ_ e=>e.ow
theorem aH.rf(e:aH t W ρ σ H):∀(i:Nat) (ts:List Tr),ρ[i]?=some (Sl.rf ts)->∃a xs,σ[i]?=some (some (V.ref a))/\W a/\t.R a/\H a=some (.lst xs)/\aF t.K (aC W H) xs ts:=e.elim λ_ e=>e.rf
theorem aH.dis(e:aH t W ρ σ H):∀(i j:Nat) (a:Addr),Mu ρ i->Mu ρ j -> σ[i]?=some (some (V.ref a)) -> σ[j]?=some (some (V.ref a))->i=j:=e.elim λ_ e=>e.dis
theorem aH.pn(e:aH t W ρ σ H):∀b o,t.B b=some o->H b=some o:=e.elim λ_ e=>e.pn
theorem aH.pd(e:aH t W ρ σ H):∀(i:Nat) (a:Addr),Mu ρ i -> σ[i]?=some (some (V.ref a))->t.B a=none:=e.elim λ_ e=>e.pd
end
structure bA(W:Addr->Prop)(H H':Hp):Prop where
 keep:∀b o,¬W b->H b=some o->H' b=some o
 dom:∀b,H' b=none->H b=none
theorem bA.refl(W:Addr->Prop)(H:Hp):bA W H H:=⟨λ_ _ _ h=>h,λ_ h=>h⟩
theorem bA.trans{W:Addr->Prop}{H H1 H2:Hp}(a:bA W H H1)(b:bA W H1 H2):bA W H H2:=⟨λc o n h=>b.keep c o n (a.keep c o n h),λc h=>a.dom c (b.dom c h)⟩
theorem bA.of{W:Addr->Prop}{H H':Hp}(s:Same H H'):bA W H H':=⟨λb o _ h=>s b o h,λ_ h=>s.free h⟩
theorem bA.off{W:Addr->Prop}{H H':Hp}(s:bA W H H'):Same (aC W H) (aC W H'):=nq (λ_ _ _ h=>h) s.keep
theorem aH.grow{t:Tx}{W:Addr->Prop}{ρ : En}{σ : St}{H H':Hp}(e:aH t W ρ σ H)(s:Same H H'):aH t W ρ σ H':=by
 have m:Same (aC W H) (aC W H'):=(bA.of s).off
 obtain⟨F,e⟩:=e
 refine⟨F,e.len,e.zw,e.z0,λb w=>?_,λb o h n=>s b o (e.f0 b o h n),λb h=>e.n0 b (s.free h),λi u h=>?_,λi ts h=>?_,λi ts h=>?_,e.dis,λb o h=>s b o (e.pn b o h),e.pd,λi ts h=>?_,e.dd,e.dm,e.db,e.tab.same s⟩
 ·exact(e.wl b w).grow s
 ·obtain⟨v,h1,h2⟩:=e.sh i u h
  exact⟨v,h1,h2.mono m⟩
 ·obtain⟨a,xs,h1,h2,h3,h4,h5⟩:=e.ow i ts h
  exact⟨a,xs,h1,h2,h3,s _ _ h4,h5.mono m⟩
 ·obtain⟨a,xs,h1,h2,h3,h4,h5⟩:=e.rf i ts h
  exact⟨a,xs,h1,h2,h3,s _ _ h4,h5.mono m⟩
 ·obtain⟨a,xs,h1,d⟩:=e.dp i ts h
  exact⟨a,xs,h1,d.move rfl rfl m (λb hb=>by obtain⟨_,_,_,ww,_⟩:=d; exact(ww b hb).1) λb o _ q=>s b o q⟩
def cV(K:FZ)(W:Addr->Prop)(σ : St)(H H':Hp)(v:V):Rv->Prop
 |.v T false=>Rep K (aC W H') v T
 |.v T true=>∃a xs ts,v=.ref a/\T=.lst ts/\H a=none/\H' a=some (.lst xs)/\aF K (off a (aC W H')) xs ts
 |.s i=>σ[i]?=some (some v)
theorem xu(a:Addr)(H:Hp):Same (off a H) H:=λ_ _ h=>(oR h).2
theorem cV.step{K:FZ}{W:Addr->Prop}{σ : St}{H H' gj:Hp}{v:V}{r:Rv}(hw:∀b,W b->H b≠none)(h:cV K W σ H H' v r)(s:bA W H' gj):cV K W σ H gj v r:=by
 cases r with
 |s i=>exact h
 |v T fr =>
  cases fr with
  |false=>exact Rep.mono s.off h
  |true =>
   obtain⟨a,xs,ts,rfl,rfl,e1,e2,r⟩:=h
   refine⟨a,xs,ts,rfl,rfl,e1,s.keep a _ (λw=>hw a w e1) e2,r.mono λb o q=>?_⟩
   obtain⟨n,q⟩:=oR q
   rw[off_ne n]
   exact s.off b o q
theorem cV.back{K:FZ}{W:Addr->Prop}{σ : St}{G H H':Hp}{v:V}{r:Rv}(h:cV K W σ H H' v r)(d:∀b,H b=none->G b=none):cV K W σ G H' v r:=by
 cases r with
 |s i=>exact h
 |v T fr =>
  cases fr with
  |false=>exact h
  |true =>
   obtain⟨a,xs,ts,e0,e1,e2,r⟩:=h
   exact⟨a,xs,ts,e0,e1,d _ e2,r⟩
theorem cV.rep{K:FZ}{W:Addr->Prop}{σ : St}{H H':Hp}{v:V}{T:Tr}{fr:Bool}(hw:∀b,W b->H b≠none)(h:cV K W σ H H' v (.v T fr)):Rep K (aC W H') v T:=by
 cases fr with
 |false=>exact h
 |true =>
  obtain⟨a,xs,ts,rfl,rfl,e1,e2,r⟩:=h
  refine .lst (bG.of ?_) (r.mono (xu _ _))
  rw[cQ λw=>hw a w e1]
  exact e2
def Rp(K:FZ)(W:Addr->Prop)(H:Hp)(v:V)(T:Tr):Prop :=
 Rep K (aC W H) v T\/∃a xs ts,v=.ref a/\T=.lst ts/\H a=some (.lst xs)/\aF K (aC W H) xs ts
theorem Rp.rep{K:FZ}{W:Addr->Prop}{H:Hp}{v:V}{T:Tr}(h:Rp K W H v T):Rep K H v T:=by
 rcases h with h|⟨a,xs,ts,rfl,rfl,e,r⟩
 ·exact h.mono (gR _ _)
 ·exact .lst (bG.of e) (r.mono (gR _ _))
theorem Rp.lst{K:FZ}{W:Addr->Prop}{H:Hp}{v:V}{ts:List Tr}(h:Rp K W H v (.lst ts)):∃a xs,v=.ref a/\bG K H a xs/\aF K (aC W H) xs ts:=by
 rcases h with h|⟨a,xs,us,rfl,e0,e,r⟩
 ·cases h with
  |lst h r=>exact⟨_,_,rfl,(gR _ _).seq h,r⟩
 ·cases e0
  exact⟨a,xs,rfl,bG.of e,r⟩
theorem Rp.tup{K:FZ}{W:Addr->Prop}{H:Hp}{v:V}{ts:List Tr}(h:Rp K W H v (.tup ts)):∃a xs,v=.ref a/\cj K H a xs/\aF K (aC W H) xs ts:=by
 rcases h with h|⟨a,xs,us,rfl,e0,e,r⟩
 ·cases h with
  |tup h r=>exact⟨_,_,rfl,(gR _ _).qg h,r⟩
 ·cases e0
theorem Rp.int{K:FZ}{W:Addr->Prop}{H:Hp}{v:V}{i:Int}(h:Rp K W H v (.int i)):v=.int i:=by
 cases h.rep; rfl
theorem Rp.bl{K:FZ}{W:Addr->Prop}{H:Hp}{v:V}{i:Bool}(h:Rp K W H v (.bl i)):v=.bl i:=by
 cases h.rep; rfl
theorem Rp.str{K:FZ}{W:Addr->Prop}{H:Hp}{v:V}{i:Str}(h:Rp K W H v (.str i)):v=.str i:=by
 cases h.rep; rfl
theorem Rp.non{K:FZ}{W:Addr->Prop}{H:Hp}{v:V}(h:Rp K W H v .non):v=.non:=by
 cases h.rep; rfl
def dr(ρ : En):Rv->Rs Tr
 |.v T _=>.ok T
 |.s i=>match ρ[i]? with
  |some (Sl.ow ts)=>.ok (.lst ts)
  |some (Sl.rf ts)=>.ok (.lst ts)
  |_=>.bad
theorem gU{t:Tx}{W:Addr->Prop}{ρ : En}{σ : St}{H H':Hp}{v:V}{r:Rv}{T:Tr}(e:aH t W ρ σ H')(hw:∀b,W b->H b≠none)(h:cV t.K W σ H H' v r)(q:dr ρ r=.ok T):Rp t.K W H' v T:=by
 cases r with
 |v U fr =>
  cases q
  exact .inl (h.rep hw)
 |s i =>
  have h : σ[i]?=some (some v):=h
  dsimp only[dr]at q
  split at q
  ·rename_i ts e1
   cases q
   obtain⟨a,xs,h1,h2,h3,h4,h5⟩:=e.ow i ts e1
   rw[h]at h1
   cases h1
   exact .inr ⟨a,xs,ts,rfl,rfl,h4,h5⟩
  ·rename_i ts e1
   cases q
   obtain⟨a,xs,h1,h2,h3,h4,h5⟩:=e.rf i ts e1
   rw[h]at h1
   cases h1
   exact .inr ⟨a,xs,ts,rfl,rfl,h4,h5⟩
  ·cases q
theorem aH.wn{t:Tx}{W:Addr->Prop}{ρ : En}{σ : St}{H:Hp}(e:aH t W ρ σ H):∀b,W b->H b≠none:=λb w=>by
 exact(e.wl b w).ne
theorem aH.hide{t:Tx}{W:Addr->Prop}{ρ : En}{σ : St}{H H':Hp}{a:Addr}{xs:List V}(e:aH t W ρ σ H)(s:Same H H')(n:H a=none)(q:H' a=some (.lst xs)):oX t W a ρ σ H':=by
 have m:Same (aC W H) (aC (λb=>W b\/b=a) H'):=λb o h=>by
  obtain⟨w,h⟩:=gF h
  rw[cQ]
  ·exact s b o h
  ·rintro(z|rfl)
   ·exact w z
   ·rw[n]at h; cases h
 have na:∀b,W b->b≠a:=λb w z=>by subst z; exact e.wn b w n
 obtain⟨F,e⟩:=e
 refine⟨F,⟨e.len,λb z=>.inl (e.zw b z),e.z0,λb w=>?_,λb o h nr=>s b o (e.f0 b o h nr),λb h=>e.n0 b (s.free h),λi u h=>?_,λi ts h=>?_,λi ts h=>?_,e.dis,λb o h=>s b o (e.pn b o h),e.pd,λi ts h=>?_,e.dd,e.dm,e.db,(e.tab.same s).Ko λb w=>.inl w⟩,λi ts h z=>?_⟩
 ·rcases w with w|rfl
  ·exact(e.wl b w).grow s
  ·exact .inl ⟨xs,q⟩
 ·obtain⟨v,h1,h2⟩:=e.sh i u h
  exact⟨v,h1,h2.mono m⟩
 ·obtain⟨c,ys,h1,h2,h3,h4,h5⟩:=e.ow i ts h
  exact⟨c,ys,h1,.inl h2,h3,s _ _ h4,h5.mono m⟩
 ·obtain⟨c,ys,h1,h2,h3,h4,h5⟩:=e.rf i ts h
  exact⟨c,ys,h1,.inl h2,h3,s _ _ h4,h5.mono m⟩
 ·obtain⟨c,ys,h1,d⟩:=e.dp i ts h
  exact⟨c,ys,h1,d.move rfl rfl m (λb hb=>by obtain⟨_,_,_,ww,_⟩:=d; exact .inl (ww b hb).1) λb o _ q=>s b o q⟩
 ·obtain⟨c,ys,h1,bs,_,_,ww,_⟩:=e.dp i ts h
  exact na a (ww a z).1 rfl
def eN(t:Tx)(W:Addr->Prop)(ρ : En)(σ : St)(H H':Hp)(v:V)(r:Rv):Prop:=cV t.K W σ H H' v r/\∀T a,r=.v T true->v=.ref a->oX t W a ρ σ H'
theorem eN.of{t:Tx}{W:Addr->Prop}{ρ : En}{σ σ':St}{H H':Hp}{v:V}{T:Tr}{fr:Bool}(e:aH t W ρ σ H)(s:Same H H')(h:cV t.K W σ' H H' v (.v T fr)):eN t W ρ σ H H' v (.v T fr):=by
 refine⟨by cases fr <;> exact h,λU a z ev=>?_⟩
 cases z
 obtain⟨b,xs,ts,rfl,_,n,q,_⟩:=h
 cases ev
 exact e.hide s n q
theorem eN.low{t:Tx}{W:Addr->Prop}{ρ : En}{σ : St}{H H':Hp}{v:V}{T:Tr}(h:Rep t.K (aC W H') v T):eN t W ρ σ H H' v (.v T false):=⟨h,λ_ _ z=>by cases z⟩
theorem eN.back{t:Tx}{W:Addr->Prop}{ρ : En}{σ : St}{G H H':Hp}{v:V}{r:Rv}(h:eN t W ρ σ H H' v r)(d:∀b,H b=none->G b=none):eN t W ρ σ G H' v r:=⟨h.1.back d,h.2⟩
def SE(t:Tx)(te:TE)(f:EF):Prop:=∀W ρ σ H Q,aH t W ρ σ H->(f ρ).post t.EX (λp=>∀v H',aH t W p.2 σ H'->bA W H H'->eN t W p.2 σ H H' v p.1->Q v H')->te σ H Q
abbrev BF:=En->Rs (Bool × En)
def ST(t:Tx)(te:TT)(f:BF):Prop:=∀W ρ σ H Q,aH t W ρ σ H->(f ρ).post t.EX (λp=>∀H',aH t W p.2 σ H'->bA W H H'->Q p.1 H')->te σ H Q
abbrev AF:=En->Rs (List Rv × En)
inductive eO(K:FZ)(W:Addr->Prop)(σ : St)(H H':Hp):List V->List Rv->Prop
 |nil:eO K W σ H H' [] []
 |cons {v:V} {r:Rv} {vs:List V} {rs:List Rv} (h:cV K W σ H H' v r) (q:eO K W σ H H' vs rs):eO K W σ H H' (v::vs) (r::rs)
def SA(t:Tx)(te:TA)(f:AF):Prop:=∀W ρ σ H Q,aH t W ρ σ H->(f ρ).post t.EX (λp=>∀vs H',aH t W p.2 σ H'->bA W H H'->eO t.K W σ H H' vs p.1->Q vs H')->te σ H Q
section
variable {t:Tx}
def aj(i:Nat):EF:=λρ=>match ρ[i]? with
 |some (.sh T)=>.ok (.v T false,ρ)
 |some (.ow _)=>.ok (.s i,ρ)
 |some (.rf _)=>.ok (.s i,ρ)
 |_=>.bad
theorem aQ(i:Nat):SE t (mZ i) (aj i):=λW ρ σ H Q e h=>by
 unfold aj at h
 split at h
 ·rename_i T q
  obtain⟨v,h1,h2⟩:=e.sh i T q
  exact⟨v,h1,h v H e (bA.refl _ _) (.low h2)⟩
 ·rename_i ts q
  obtain⟨a,xs,h1,_⟩:=e.ow i ts q
  exact⟨_,h1,h _ H e (bA.refl _ _) ⟨h1,λ_ _ z=>by cases z⟩⟩
 ·rename_i ts q
  obtain⟨a,xs,h1,_⟩:=e.rf i ts q
  exact⟨_,h1,h _ H e (bA.refl _ _) ⟨h1,λ_ _ z=>by cases z⟩⟩
 ·exact h.elim
def eC(T:Tr):EF:=λρ=>.ok (.v T false,ρ)
theorem uQ{v:V}{T:Tr}(h:∀H,Rep t.K H v T):SE t (tC v) (eC T):=λW ρ σ H Q e q=>q v H e (bA.refl _ _) (.low (h _))
theorem dX(i:Int):SE t (tC (.int i)) (eC (.int i)):=uQ λ_=>.int i
theorem uR(i:Bool):SE t (tC (.bl i)) (eC (.bl i)):=uQ λ_=>.bl i
theorem gW(i:Str):SE t (tC (.str i)) (eC (.str i)):=uQ λ_=>.str i
theorem qp:SE t (tC .non) (eC .non):=uQ λ_=>.non
abbrev G2:=Tr->Tr->Rs (Tr × Bool)
def dI(K:FZ)(r:R2)(g:G2):Prop:=∀W x y a b H Q,(∀b,W b->Lt H b)->Rp K W H x a->Rp K W H y b ->
 (g a b).post (λ_=>False) (λp=>∀v H',Same H H'->cV K W [] H H' v (.v p.1 p.2)->Q v H')->r x y H Q
def ao(g:G2)(fa fb:EF):EF:=λρ=>(fa ρ).bind λp=>(fb p.2).bind λq=>(dr q.2 p.1).bind λa=>(dr q.2 q.1).bind λb=>(g a b).bind λz=>.ok (.v z.1 z.2,q.2)
theorem iV{α : Type}{r:Rs α}{EX:Str->Prop}{P : α -> Prop}(h:r.post EX P)(n:∀c,r ≠ .ex c):r.post (λ_=>False) P:=by
 cases r with
 |bad=>exact h
 |ex c=>exact(n c rfl).elim
 |ok a=>exact h
theorem gY(ρ : En)(r:Rv)(c:Str):dr ρ r ≠ .ex c:=by
 cases r with
 |v T fr=>intro z; cases z
 |s i =>
  dsimp only[dr]
  split <;> (intro z; cases z)
theorem jz{r:R2}{g:G2}{ta tb:TE}{fa fb:EF}(o:dI t.K r g)(ng:∀a b c,g a b ≠ .ex c)(ha:SE t ta fa)(hb:SE t tb fb):SE t (eG r ta tb) (ao g fa fb):=λW ρ σ H Q e h=>by
 refine ha W ρ σ H _ e (Rs.aO (Rs.aG h) λp h x H1 e1 s1 v1=>?_)
 refine hb W p.2 σ H1 _ e1 (Rs.aO (Rs.aG h) λq h y H2 e2 s2 v2=>?_)
 have h:=Rs.aG h
 cases k1:dr q.2 p.1 with
 |bad=>rw[k1]at h; exact h.elim
 |ex c=>exact(gY _ _ _ k1).elim
 |ok a =>
  rw[k1]at h
  have h:((dr q.2 q.1).bind _).post _ _:=h
  have h:=Rs.aG h
  cases k2:dr q.2 q.1 with
  |bad=>rw[k2]at h; exact h.elim
  |ex c=>exact(gY _ _ _ k2).elim
  |ok b =>
   rw[k2]at h
   have h:((g a b).bind _).post _ _:=h
   have r1:=gU e2 e.wn (v1.1.step e.wn s2) k1
   have r2:=gU e2 e1.wn v2.1 k2
   refine o W x y a b H2 Q e2.wl r1 r2 (Rs.aO (iV (Rs.aG h) (ng a b)) λz h v H3 s3 v3=>?_)
   have st:bA W H H3:=(s1.trans s2).trans (bA.of s3)
   exact h v H3 (e2.grow s3) st ((eN.of e2 s3 v3).back λb q=>(s1.trans s2).dom b q)
inductive qt:V->Tr->Prop
 |non:qt .non .non
 |bl (b:Bool):qt (.bl b) (.bl b)
 |int (b:Int):qt (.int b) (.int b)
 |str (b:Str):qt (.str b) (.str b)
theorem qt.rep{K:FZ}{H:Hp}{v:V}{T:Tr}(h:qt v T):Rep K H v T:=by
 cases h <;> constructor
end
end L2
end
section
namespace L2
open PySem PySem.Spec PyProof.Rows
section
variable {X:Cx}
def BR(K:FZ):R2:=λx y H Q=>∃t u,Rep K H x t/\Rep K H y u/\dep t<=40/\dep u<=40/\Q (.bl (!eqT t u)) H
theorem jd(hu:X.A.units+64<cLine):cH X (compareOp .NotEq) (BR X.K):=by
 intro pins s σ H x y v u Q I vx vy h
 obtain⟨t,t',rx,ry,hd,du,q⟩:=h
 have hu0:X.A.units<cLine:=by omega
 have hu1:X.A.in1.units+40<cLine:=by
  have:=in1_units X.A
  omega
 have fin:SeqAt.RcNeAt X.A s v u (!eqT t t')->wpAny (model X.prog X.w) X.A (compareOp .NotEq v u) (EP X pins σ Q) X.xe s:=λh=>h _ _ _ _ ⟨.bl _,H,I,rfl,q⟩
 have items:∀{xs ys:List V} {ts us:List Tr} {its its2:List Value},Vals xs its->Vals ys its2->aF X.K H xs ts->aF X.K H ys us->deps ts<=40->deps us<=40->∀j (h1:j<its.toArray.size) (h2:j<its2.toArray.size),SeqAt.EqAt X.A.in1 s its.toArray[j] its2.toArray[j] (m9 ts us j):=by
  intro xs ys ts us its its2 r1 r2 q1 q2 hde J5 j h1 h2
  obtain⟨a,ea,ra⟩:=wY r1 h1
  obtain⟨b,eb,rb⟩:=wY r2 h2
  obtain⟨ta,eta,qa⟩:=q1.get ea
  obtain⟨tb,uN,qb⟩:=q2.get eb
  rw[J4 eta uN]
  exact(Bj I 40 X.A.in1 ta tb a b _ _ hu1 (Nat.le_trans (oO eta) hde) (by have:=oO eta; omega) (by have:=oO uN; omega) qa qb ra rb).2
 cases rx with
 |bY h m n=>unfold dep at hd; omega
 |non =>
  cases vx
  cases ry with
  |non=>cases vy; unfold eqT at fin; exact fin .none_none
  |bl b2=>cases vy; unfold eqT at fin; exact fin (.none_bool _)
  |int i2=>obtain⟨_,rfl⟩:=vy; unfold eqT at fin; exact fin (.none_int _ _)
  |str z2=>obtain⟨_,rfl⟩:=vy; unfold eqT at fin; exact fin (.none_str _ _)
  |tup h r=>cases vy; obtain⟨_,_,p,_⟩:=I.tuple h; unfold eqT at fin; exact fin (.none_tuple p hu0)
  |lst h r=>cases vy; obtain⟨_,_,p,_⟩:=I.list h; unfold eqT at fin; exact fin (.none_list p.isList hu0)
  |bY h m n=>unfold dep at du; omega
 |bl b =>
  cases vx
  cases ry with
  |non=>cases vy; unfold eqT at fin; exact fin (.bool_none _)
  |bl b2=>cases vy; unfold eqT at fin; exact fin (.bool_bool _ _)
  |int i2=>obtain⟨_,rfl⟩:=vy; unfold eqT at fin; exact fin (.bool_int _ _ _)
  |str z2=>obtain⟨_,rfl⟩:=vy; unfold eqT at fin; exact fin (.bool_str _ _ _)
  |tup h r=>cases vy; obtain⟨_,_,p,_⟩:=I.tuple h; unfold eqT at fin; exact fin (.bool_tuple _ p hu0)
  |lst h r=>cases vy; obtain⟨_,_,p,_⟩:=I.list h; unfold eqT at fin; exact fin (.bool_list _ p.isList hu0)
  |bY h m n=>unfold dep at du; omega
 |int i =>
  obtain⟨_,rfl⟩:=vx
  cases ry with
  |non=>cases vy; unfold eqT at fin; exact fin (.int_none _ _)
  |bl b2=>cases vy; unfold eqT at fin; exact fin (.int_bool _ _ _)
  |int i2=>obtain⟨_,rfl⟩:=vy; unfold eqT at fin; exact fin (.int_int _ _ _ _)
  |str z2=>obtain⟨_,rfl⟩:=vy; unfold eqT at fin; exact fin (.int_str _ _ _ _)
  |tup h r=>cases vy; obtain⟨_,_,p,_⟩:=I.tuple h; unfold eqT at fin; exact fin (.int_tuple _ _ p hu0)
  |lst h r=>cases vy; obtain⟨_,_,p,_⟩:=I.list h; unfold eqT at fin; exact fin (.int_list _ _ p.isList hu0)
  |bY h m n=>unfold dep at du; omega
 |str z =>
  obtain⟨_,rfl⟩:=vx
  cases ry with
  |non=>cases vy; unfold eqT at fin; exact fin (.str_none _ _)
  |bl b2=>cases vy; unfold eqT at fin; exact fin (.str_bool _ _ _)
  |int i2=>obtain⟨_,rfl⟩:=vy; unfold eqT at fin; exact fin (.str_int _ _ _ _)
  |str z2=>obtain⟨_,rfl⟩:=vy; unfold eqT at fin; exact fin (.str_str _ _ _ _)
  |tup h r=>cases vy; obtain⟨_,_,p,_⟩:=I.tuple h; unfold eqT at fin; exact fin (.str_tuple _ _ p hu0)
  |lst h r=>cases vy; obtain⟨_,_,p,_⟩:=I.list h; unfold eqT at fin; exact fin (.str_list _ _ p.isList hu0)
  |bY h m n=>unfold dep at du; omega
 | @tup a1 xs1 ts h1 r1 =>
  cases vx
  obtain⟨its,rv,p,_⟩:=I.tuple h1
  have hd':deps ts<=40:=by unfold dep at hd; omega
  cases ry with
  |non=>cases vy; unfold eqT at fin; exact fin (.tuple_none p hu0)
  |bl b2=>cases vy; unfold eqT at fin; exact fin (.tuple_bool _ p hu0)
  |int i2=>obtain⟨_,rfl⟩:=vy; unfold eqT at fin; exact fin (.tuple_int _ _ p hu0)
  |str z2=>obtain⟨_,rfl⟩:=vy; unfold eqT at fin; exact fin (.tuple_str _ _ p hu0)
  |lst h r=>cases vy; obtain⟨_,_,p2,_⟩:=I.list h; unfold eqT at fin; exact fin (.tuple_list p p2.isList hu0)
  |bY h m n=>unfold dep at du; omega
  | @tup a2 xs2 us h2 r2 =>
   cases vy
   obtain⟨its2,iG,p2,_⟩:=I.tuple h2
   have R:=SeqAt.RcNeAt.tuples (A:=X.A) (e:=m9 ts us) p p2 (by omega) λj k1 k2=>items rv iG r1 r2 hd' (by unfold dep at du; omega) j k1 k2
   have el:its.toArray.size=ts.length:=by simpa using(rv.length.symm.trans r1.length)
   have el2:its2.toArray.size=us.length:=by simpa using(iG.length.symm.trans r2.length)
   rw[el,el2]at R
   have eb:((List.range (min ts.length us.length)).all (m9 ts us)&&ts.length == us.length)=eqT (.tup ts) (.tup us):=by
    unfold eqT
    by_cases e:ts.length=us.length
    ·rw[e,Nat.min_self,<-e,uL e,beq_self_eq_true,Bool.and_true]
    ·rw[beq_false_of_ne e,Bool.and_false,uK e]
   rw[eb]at R
   exact fin R
 | @lst a1 xs1 ts h1 r1 =>
  cases vx
  obtain⟨its,rv,p,_⟩:=I.list h1
  have hd':deps ts<=40:=by unfold dep at hd; omega
  cases ry with
  |non=>cases vy; unfold eqT at fin; exact fin (.list_none p.isList hu0)
  |bl b2=>cases vy; unfold eqT at fin; exact fin (.list_bool _ p.isList hu0)
  |int i2=>obtain⟨_,rfl⟩:=vy; unfold eqT at fin; exact fin (.list_int _ _ p.isList hu0)
  |str z2=>obtain⟨_,rfl⟩:=vy; unfold eqT at fin; exact fin (.list_str _ _ p.isList hu0)
  |bY h m n=>unfold dep at du; omega
  |tup h r=>cases vy; obtain⟨_,_,p2,_⟩:=I.tuple h; unfold eqT at fin; exact fin (.list_tuple p.isList p2 hu0)
  | @lst a2 xs2 us h2 r2 =>
   cases vy
   obtain⟨its2,iG,p2,_⟩:=I.list h2
   have el:its.toArray.size=ts.length:=by simpa using(rv.length.symm.trans r1.length)
   have el2:its2.toArray.size=us.length:=by simpa using(iG.length.symm.trans r2.length)
   by_cases e:ts.length=us.length
   ·have R:=SeqAt.RcNeAt.lists (A:=X.A) (e:=m9 ts us) p.isList p2.isList (by omega) (by omega) λj k1 k2=>items rv iG r1 r2 hd' (by unfold dep at du; omega) j k1 k2
    rw[el]at R
    rw[uL e]at R
    unfold eqT at fin
    exact fin R
   ·have R:=SeqAt.RcNeAt.lists_lengths (A:=X.A) p.isList p2.isList (by rw[el,el2]; simpa using e) (by omega)
    unfold eqT at fin
    rw[uK e]at fin
    exact fin R
end
open Classical in
def dJ(o:Obj):Obj:=if o.cls=.type "list" ∧ ¬(∃its n,o={cls:=.type "list",data:=.seq its n })then{cls:=.none,data:=.fields #[] }else o
def aA(K:FZ):FZ:=K.map λp=>(p.1,dJ p.2)
theorem nA:∀(K:FZ) (a:Addr),(aA K).lookup a=(K.lookup a).map dJ
 | [],a=>rfl
 |(c,q)::r,a=>by
  show((c,dJ q)::aA r).lookup a=_
  rw[List.lookup_cons,List.lookup_cons]
  cases a == c with
  |true=>rfl
  |false=>exact nA r a
theorem Vg{K:FZ}{a:Addr}{o:Obj}(h:(aA K).lookup a=some o)(c:o.cls=.type "tuple"):K.lookup a=some o:=by
 rw[nA]at h
 cases e:K.lookup a with
 |none=>rw[e]at h; cases h
 |some q =>
  rw[e]at h
  have h:dJ q=o:=Option.some.inj h
  unfold dJ at h
  split at h
  ·subst h; cases c
  ·rw[h]
theorem Vh{K:FZ}{a:Addr}{o:Obj}(h:(aA K).lookup a=some o)(c:o.cls=.type "list"):K.lookup a=some o∧∃its n,o={cls:=.type "list",data:=.seq its n }:=by
 rw[nA]at h
 cases e:K.lookup a with
 |none=>rw[e]at h; cases h
 |some q =>
  rw[e]at h
  have h:dJ q=o:=Option.some.inj h
  unfold dJ at h
  split at h
  ·subst h; cases c
  ·rename_i n
   subst h
   refine⟨rfl,?_⟩
   by_cases z:∃its n,q={cls:=.type "list",data:=.seq its n }
   ·exact z
   ·exact(n ⟨c,z⟩).elim
theorem Vi{K:FZ}{a:Addr}{o:Obj}(h:K.lookup a=some o)(c:o.cls=.type "tuple"):(aA K).lookup a=some o:=by
 rw[nA,h]
 show some (dJ o)=some o
 unfold dJ
 rw[if_neg (by rintro⟨z,_⟩; rw[c]at z; injection z with z; exact absurd z (by decide))]
theorem cj.toK{K:FZ}{H:Hp}{a:Addr}{xs:List V}(h:cj (aA K) H a xs):cj K H a xs:=by
 rcases h with h|⟨o,its,n,e,c,r⟩
 ·exact .inl h
 ·exact .inr ⟨o,its,n,Vg e c,c,r⟩
def jW(K:FZ)(H:Hp)(a:Addr)(xs:List V):Prop:=Rd H a (.lst xs)\/∃(its:Array Value) (n:Nat),K.lookup a=some {cls:=.type "list",data:=.seq its n }/\its.size<=sizeLine/\Vals xs its.toList
theorem bG.uT{K:FZ}{H:Hp}{a:Addr}{xs:List V}(h:bG (aA K) H a xs):jW K H a xs:=by
 rcases h with h|⟨o,its,n,e,c,_,d,r⟩
 ·exact .inl h
 ·obtain⟨e2,its',n',rfl⟩:=Vh e c
  have d:Data.seq its' n'=.seq its n:=d
  injection d with d1 d2
  subst d1 d2
  exact .inr ⟨its',n',e2,r⟩
theorem jW.toK{K:FZ}{H:Hp}{a:Addr}{xs:List V}(h:jW K H a xs):bG K H a xs:=by
 rcases h with h|⟨its,n,e,r⟩
 ·exact .inl h
 ·exact .inr ⟨_,its,n,e,rfl,rfl,rfl,r⟩
theorem jW.toN{K:FZ}{H:Hp}{a:Addr}{xs:List V}(h:jW K H a xs):bG (aA K) H a xs:=by
 rcases h with h|⟨its,n,e,r⟩
 ·exact .inl h
 ·refine .inr ⟨{cls:=.type "list",data:=.seq its n },its,n,?_,rfl,rfl,rfl,r⟩
  rw[nA,e]
  show some (dJ _)=_
  unfold dJ
  rw[if_neg λz=>z.2 ⟨its,n,rfl⟩]
theorem bG.toK{K:FZ}{H:Hp}{a:Addr}{xs:List V}(h:bG (aA K) H a xs):bG K H a xs:=h.uT.toK
theorem Vj{K:FZ}{N:Addr}{c:Str}{v:Value}(h:PySem.W.nsIn (aA K) N c=some (some v)):PySem.W.nsIn K N c=some (some v):=by
 unfold PySem.W.nsIn at h ⊢
 rw[nA]at h
 cases e:K.lookup N with
 |none=>rw[e]at h; cases h
 |some q =>
  rw[e]at h
  by_cases z:q.cls=.type "list" ∧ ¬(∃its n,q={cls:=.type "list",data:=.seq its n })
  ·have:dJ q={cls:=.none,data:=.fields #[] }:=by unfold dJ; rw[if_pos z]
   rw[show(some q).map dJ=some (dJ q)from rfl,this]at h
   cases h
  ·have:dJ q=q:=by unfold dJ; rw[if_neg z]
   rw[show(some q).map dJ=some (dJ q)from rfl,this]at h
   exact h
mutual
theorem Rep.toK{K:FZ}{H:Hp}:∀{v:V} {t:Tr},Rep (aA K) H v t->Rep K H v t
 |_,_,.non=>.non
 |_,_,.bl b=>.bl b
 |_,_,.int i=>.int i
 |_,_,.str x=>.str x
 |_,_,.tup h r=>.tup h.toK (aF.toK r)
 |_,_,.lst h r=>.lst h.toK (aF.toK r)
 |_,_,.bY h m n=>.bY h m (Vj n)
theorem aF.toK{K:FZ}{H:Hp}:∀{v:List V} {t:List Tr},aF (aA K) H v t->aF K H v t
 |_,_,.nil=>.nil
 |_,_,.cons h r=>.cons (Rep.toK h) (aF.toK r)
end
section
variable {X:Cx}
theorem Inv.BW{pins:List (Addr × Obj)}{σ : St}{H:Hp}{s:Shared}{l:Addr}{xs:List V}(I:Inv X pins σ H s)(hH:jW X.K H l xs):xs.length<=sizeLine/\∃(its:List Value) (n:Nat),Vals xs its/\xs.length=its.length/\s.heap.get? l=some {cls:=.type "list",data:=.seq its.toArray n }:=by
 rcases hH with hH|⟨its,n,e,z,r⟩
 ·obtain⟨z,its,n,r,e⟩:=hH.ok I.hok
  exact⟨z,its,n,r,r.length,e⟩
 ·have l':xs.length=its.size:=r.length.trans Array.length_toList
  exact⟨by rw[l']; exact z,its.toList,n,r,r.length,I.ju _ _ e⟩
def Kp(K:FZ):R2:=λx y H Q=>∃l b xs zs,x=.ref l/\y=.ref b/\jW K H l xs/\jW K H b zs/\xs.length+zs.length<=sizeLine/\∀p,H p=none->Q (.ref p) (upd H p (.lst (xs++zs)))
theorem Vk:cH X (binaryOp .Add) (Kp X.K):=by
 intro pins s σ H x y v u Q I rx ry h
 obtain⟨l,b,xs,zs,rfl,rfl,hH,hB,hz,q⟩:=h
 cases rx
 cases ry
 obtain⟨z,its,n,r,hl,e⟩:=I.BW hH
 obtain⟨z2,its2,n2,r2,hl2,e2⟩:=I.BW hB
 refine PySem.P.add_list e e2 ?_ (by rw[List.size_toArray,List.size_toArray]; omega)
 have ea:its.toArray++its2.toArray=(its++its2).toArray:=by simp
 rw[ea]
 exact⟨.ref _,_,I.rZ (t':=s.toks) (r.append r2) (by rw[List.length_append]; omega),rfl,q _ I.fresh⟩
end
end L2
end
section
namespace L2
open PySem PySem.Spec PyProof.Rows
def Kq(K:FZ):R2:=λx y H Q=>∃l k xs,x=.ref l/\y=.int k/\jW K H l xs /\ -(2 ^ 63)<=k/\k<2 ^ 63/\xs.length*k.toNat<=sizeLine/\∀p,H p=none->Q (.ref p) (upd H p (.lst (List.replicate k.toNat xs).flatten))
theorem Vl{X:Cx}:cH X (binaryOp .Mult) (Kq X.K):=by
 intro pins s σ H x y v u Q I rx ry h
 obtain⟨l,k,xs,rfl,rfl,hH,h1,h2,hz,q⟩:=h
 cases rx
 obtain⟨t,rfl⟩:=ry
 obtain⟨z,its,n,r,hl,e⟩:=I.BW hH
 have hlen:its.toArray.size*k.toNat<=sizeLine:=by rw[List.size_toArray,<-hl]; exact hz
 have hcap:¬its.toArray.size*k.toNat > (2 ^ 63-1) / 8:=by
  have:(sizeLine:Nat)<=(2 ^ 63-1) / 8:=by decide
  omega
 have hfit:¬(!Builtin.List.listFitsIndex k)=true:=by
  rw[fitsIndex_both h1 h2]
  exact Bool.false_ne_true
 have Vm:¬Builtin.List.listTooLong (its.toArray.size*k.toNat)=true:=by
  rw[Tq hlen]
  exact Bool.false_ne_true
 have hnew:List.foldl (λx1 x2=>x1++x2) #[] (List.replicate (if its.toArray.isEmpty=true then 0 else k.toNat) its.toArray)=(List.replicate k.toNat its).flatten.toArray:=by
  have f0:∀m:Nat,List.foldl (λx1 x2=>x1++x2) #[] (List.replicate m its.toArray)=(List.replicate m its).flatten.toArray:=λm=>by
   have:=foldl_rep its m []
   rw[List.nil_append]at this
   exact this
  rw[f0]
  cases its with
  |nil=>simp
  |cons a r'=>rw[if_neg (by simp)]
 refine wpAny_binaryOp_repeat_ref (T := "list") (U := "int") (by decide) ⟨_,e,rfl⟩ (λs'=>typeIs_int s' k t) noFill_list_mul F.fills_int_mul F.slot_int_rmul repeat_list F.slot_int_index.lookup
  (call_meets F.slot_int_rmul (typeIs_int s k t) F.entry_int_rmul (F.args_int_rmul_2 _ _) (int___rmul___int_list k t l its.toArray n)
   ⟨e,rfl,⟨_,e,rfl⟩,call_meets F.slot_list_mul ⟨_,e,rfl⟩ F.entry_list_mul (F.args_list_mul_2 _ _) (AutoListH.list___mul___list_int_3 l its.toArray n k t hfit hcap Vm) ⟨e,?_⟩⟩)
 rw[hnew]
 exact⟨.ref _,_,I.rZ (t':=s.toks) (r.rep k.toNat) (by rw[len_rep,Nat.mul_comm]; exact hz),rfl,q _ I.fresh⟩
end L2
end
section
namespace L2
open PySem PySem.Spec PyProof.Rows
section
variable {K:FZ}{W:Addr->Prop}{σ : St}{H:Hp}{p:Addr}{xs:List V}{ts:List Tr}
theorem BX{o:HO}(hp:H p=none):Same (aC W H) (off p (aC W (upd H p o))):=λb u q=>by
 obtain⟨n,e⟩:=gF q
 have ne:b≠p:=lR e hp
 rw[off_ne ne,cQ n,bQ ne]
 exact e
theorem cV.new(hp:H p=none)(r:aF K (aC W H) xs ts):cV K W σ H (upd H p (.lst xs)) (.ref p) (.v (.lst ts) true) :=
 ⟨p,xs,ts,rfl,rfl,hp,fD,r.mono (BX hp)⟩
theorem cV.newT(hw:∀b,W b->Lt H b)(hp:H p=none)(r:aF K (aC W H) xs ts):cV K W σ H (upd H p (.tup xs)) (.ref p) (.v (.tup ts) false):=by
 have nw:¬W p:=λw=>by
  exact(hw p w).ne hp
 refine .tup (cj.of ?_) (r.mono λb u q=>(oR (BX (o:=.tup xs) hp b u q)).2)
 rw[cQ nw]
 exact fD
theorem cV.dg{H':Hp}{v:V}{T:Tr}(h:qt v T):cV K W σ H H' v (.v T false):=h.rep
theorem aF.nC{H:Hp}:∀{v:List V} {t:List Tr} {i:Nat} {u:Tr},aF K H v t->t[i]?=some u->∃x,v[i]?=some x/\Rep K H x u
 |_,_,_,_,.nil,e=>by simp at e
 |_,_,0,_,.cons h _,e=>by
  simp at e
  subst e
  exact⟨_,rfl,h⟩
 |_,_,i+1,x,.cons _ r,e=>by
  obtain⟨u,h1,h2⟩:=aF.nC (i:=i) (u:=x) r (by simpa using e)
  exact⟨u,by simpa using h1,h2⟩
theorem aF.dz(r:aF K H xs ts){i:Int}{t:Tr}(h:dz ts i=some t):∃x,L2.dz xs i=some x/\Rep K H x t:=by
 unfold L2.dz at h ⊢
 rw[r.length]
 cases e:fG ts.length i with
 |none=>rw[e]at h; cases h
 |some j =>
  rw[e]at h
  exact r.nC h
theorem Rp.Kr{v:V}(h:Rp K W H v (.tup ts)):Rep K (aC W H) v (.tup ts):=by
 rcases h with h|⟨a,xs,us,rfl,e0,e,r⟩
 ·exact h
 ·cases e0
theorem big{n:Nat}(h:n<=100000):n<=sizeLine:=Nat.le_trans h (by decide)
end
section
variable {K:FZ}
def gI(p:Int->Int->Int):G2
 |.int i,.int j=>.ok (.int (p i j),false)
 |_,_=>.bad
theorem Vn{p:Int->Int->Int}:dI K (f9 λi j=>.int (p i j)) (gI p):=λW x y a b H Q hw rx ry h=>by
 cases a <;> try exact h.elim
 cases b <;> try exact h.elim
 rw[rx.int,ry.int]
 exact⟨_,_,rfl,rfl,h _ H (Same.refl _) (.dg (.int _))⟩
def eU(c:Int->Int->Bool)(p:Int->Int->Int):G2
 |.int i,.int j=>if c i j=true then .ok (.int (p i j),false)else .bad
 |_,_=>.bad
theorem BZ{C:Int->Int->Prop}{c:Int->Int->Bool}{p:Int->Int->Int}(hc:∀i j,c i j=true->C i j):dI K (rI C λi j=>.int (p i j)) (eU c p):=λW x y a b H Q hw rx ry h=>by
 cases a <;> try exact h.elim
 cases b <;> try exact h.elim
 rw[rx.int,ry.int]
 dsimp only[eU]at h
 split at h
 ·rename_i e
  exact⟨_,_,rfl,rfl,hc _ _ e,h _ H (Same.refl _) (.dg (.int _))⟩
 ·exact h.elim
def gB(p:Int->Int->Bool):G2
 |.int i,.int j=>.ok (.bl (p i j),false)
 |_,_=>.bad
theorem Ca{p:Int->Int->Bool}:dI K (f9 λi j=>.bl (p i j)) (gB p):=λW x y a b H Q hw rx ry h=>by
 cases a <;> try exact h.elim
 cases b <;> try exact h.elim
 rw[rx.int,ry.int]
 exact⟨_,_,rfl,rfl,h _ H (Same.refl _) (.dg (.bl _))⟩
def aK:G2:=λt u=>if dep t<=40/\dep u<=40 then .ok (.bl (eqT t u),false)else .bad
theorem Vo:dI (aA K) (Bk K) aK:=λW x y a b H Q hw rx ry h=>by
 unfold aK at h
 split at h
 ·rename_i e
  exact⟨a,b,rx.rep.toK,ry.rep.toK,e.1,e.2,h _ H (Same.refl _) (.dg (.bl _))⟩
 ·exact h.elim
def bB:G2:=λt u=>if dep t<=40/\dep u<=40 then .ok (.bl (!eqT t u),false)else .bad
theorem Vp:dI (aA K) (BR K) bB:=λW x y a b H Q hw rx ry h=>by
 unfold bB at h
 split at h
 ·rename_i e
  exact⟨a,b,rx.rep.toK,ry.rep.toK,e.1,e.2,h _ H (Same.refl _) (.dg (.bl _))⟩
 ·exact h.elim
def dR(f:Bool->Bool):G2:=λt u=>match u with
 |.lst us=>if deps us<=40/\dep t<=40 then .ok (.bl (f (sH t us)),false)else .bad
 |.tup us=>if deps us<=40/\dep t<=40 then .ok (.bl (f (sH t us)),false)else .bad
 |_=>.bad
theorem Vq:dI (aA K) (Bl K) (dR id):=λW x y a b H Q hw rx ry h=>by
 cases b <;> try exact h.elim
 ·rename_i us
  dsimp only[dR]at h
  split at h
  ·rename_i e
   obtain⟨p,xs,rfl,q,r⟩:=ry.tup
   exact⟨a,us,p,xs,rx.rep.toK,rfl,.inr q.toK,(r.mono (gR _ _)).toK,e.1,e.2,h _ H (Same.refl _) (.dg (.bl _))⟩
  ·exact h.elim
 ·rename_i us
  dsimp only[dR]at h
  split at h
  ·rename_i e
   obtain⟨p,xs,rfl,q,r⟩:=ry.lst
   exact⟨a,us,p,xs,rx.rep.toK,rfl,.inl q.toK,(r.mono (gR _ _)).toK,e.1,e.2,h _ H (Same.refl _) (.dg (.bl _))⟩
  ·exact h.elim
def Ks:Tr->Bool
 |.non=>true
 |_=>false
def je(f:Bool->Bool):G2:=λt u=>match u with
 |.non=>.ok (.bl (f (Ks t)),false)
 |_=>.bad
theorem Vr{H:Hp}{x:V}{t:Tr}(h:Rep K H x t):decide (x=.non)=Ks t:=by
 cases h <;> rfl
theorem Vs:dI K (λx y H Q=>y=.non/\Q (.bl (decide (x=.non))) H) (je id):=λW x y a b H Q hw rx ry h=>by
 cases b <;> try exact h.elim
 rw[ry.non,Vr rx.rep]
 exact⟨rfl,h _ H (Same.refl _) (.dg (.bl _))⟩
def Cd(K:FZ):R2:=λx y H Q=>(f9 λi j=>.int (i+j)) x y H Q\/Kp K x y H Q\/(∃i j,x=.str i/\y=.str j/\i.length+j.length<=sizeLine/\Q (.str (i++j)) H)\/Jw K x y H Q
theorem jf{X:Cx}:cH X (binaryOp .Add) (Cd X.K):=cH.or IK (cH.or Vk (cH.or RT S6))
noncomputable def bR:G2
 |.int i,.int j=>.ok (.int (i+j),false)
 |.lst a,.lst b=>if a.length+b.length<=100000 then .ok (.lst (a++b),true)else .bad
 |.str a,.str b=>if a.length+b.length<=100000 then .ok (.str (a++b),false)else .bad
 |.tup a,.tup b=>if 0<a.length/\a.length+b.length<=100000 then .ok (.tup (a++b),false)else .bad
 |_,_=>.bad
theorem Vt:dI (aA K) (Cd K) bR:=λW x y a b H Q hw rx ry h=>by
 cases a <;> cases b <;> try exact h.elim
 ·rw[rx.int,ry.int]
  exact .inl ⟨_,_,rfl,rfl,h _ H (Same.refl _) (.dg (.int _))⟩
 ·rename_i i j
  rw[rx.str,ry.str]
  dsimp only[bR]at h
  split at h
  ·rename_i e
   exact .inr (.inr (.inl ⟨i,j,rfl,rfl,big e,h _ H (Same.refl _) (.dg (.str _))⟩))
  ·exact h.elim
 ·rename_i us ws
  dsimp only[bR]at h
  split at h
  ·rename_i e
   have rt:=rx.Kr
   obtain⟨p,xs,rfl,q,r⟩:=rx.tup
   obtain⟨p',ys,rfl,q',r'⟩:=ry.tup
   have l1:=r.length
   have l2:=r'.length
   refine .inr (.inr (.inr ⟨p,p',xs,ys,rfl,rfl,q.toK,q'.toK,?_,by rw[l1,l2]; exact big e.2,λz=>h _ H (Same.refl _) ?_,λ_ z hz=>h _ _ (cU hz _) (.newT hw hz (r.app r'))⟩))
   ·rintro rfl
    have e1:=e.1
    rw[<-l1]at e1
    cases e1
   ·subst z
    cases r'
    rw[List.append_nil]
    exact rt
  ·exact h.elim
 ·rename_i us ws
  dsimp only[bR]at h
  split at h
  ·rename_i e
   obtain⟨p,xs,rfl,q,r⟩:=rx.lst
   obtain⟨p',ys,rfl,q',r'⟩:=ry.lst
   refine .inr (.inl ⟨p,p',xs,ys,rfl,rfl,q.uT,q'.uT,by rw[r.length,r'.length]; exact big e,λz hz=>h _ _ (cU hz _) (.new hz (r.app r'))⟩)
  ·exact h.elim
end
end L2
end
section
namespace L2
open PySem PySem.Spec PyProof.Rows
def fit(i:Int):Bool:=decide (i.natAbs.log2<1048575)
theorem Ku{i:Int}(h:fit i=true):Builtin.Int.intBits i<=2 ^ 20:=by
 have h:=of_decide_eq_true h
 unfold Builtin.Int.intBits
 have e:(2:Nat) ^ 20=1048576:=by decide
 split
 ·decide
 ·omega
def tiny(i:Int):Bool:=decide (-18446744073709551616<i)&&decide (i<18446744073709551616)
def jg(i j:Int):Bool:=(fit i&&fit j) || tiny i || tiny j
def xG(i j:Int):Prop:=jg i j=true
theorem xG.ok{i j:Int}(h:xG i j):IntMulOk i j:=by
 unfold xG jg at h
 rw[Bool.or_eq_true,Bool.or_eq_true,Bool.and_eq_true]at h
 have e:(2:Int) ^ 64=18446744073709551616:=by decide
 have tn:∀{k:Int},tiny k=true -> -(2 ^ 64)<k/\k<2 ^ 64:=λ{k} h=>by
  unfold tiny at h
  rw[Bool.and_eq_true]at h
  have h1:=of_decide_eq_true h.1
  have h2:=of_decide_eq_true h.2
  omega
 rcases h with(⟨h1,h2⟩|h)|h
 ·exact .of_bits (Ku h1) (Ku h2)
 ·exact .of_left (intBits_le_64 (tn h).1 (tn h).2)
 ·exact .of_right (intBits_le_64 (tn h).1 (tn h).2)
def Ce(K:FZ):R2:=λx y H Q=>(rI xG λi j=>.int (i*j)) x y H Q\/Kq K x y H Q
theorem oY{X:Cx}:cH X (binaryOp .Mult) (Ce X.K):=cH.or (wN λ_ _ _ _ _ _ _ hc q=>mul_int q hc.ok) Vl
def eV:G2
 |.int i,.int j=>if jg i j=true then .ok (.int (i*j),false)else .bad
 |.lst a,.int k=>if(-1000<=k/\k<=1000)/\a.length<=100 then .ok (.lst (List.replicate k.toNat a).flatten,true)else .bad
 |_,_=>.bad
def nG(_ j:Int):Bool:=decide (j≠0)&&decide (j.natAbs.log2<9000)
def xH(i j:Int):Prop:=nG i j=true
theorem Cg{X:Cx}:cH X (binaryOp .FloorDiv) (rI xH λi j=>.int (i.fdiv j)):=wN λi j _ _ _ _ _ hc q=>by
 unfold xH nG at hc
 rw[Bool.and_eq_true]at hc
 exact floordiv_int (of_decide_eq_true hc.1) q (.inl (PyProof.noPylong_of_log2 (of_decide_eq_true hc.2)))
def mq:G2:=eU nG Int.fdiv
def dM:G2:=eU (λ_ j=>decide (j≠0)) Int.fmod
def xJ(i j:Int):Bool:=decide (0<=j)&&decide (j<=1000)&&tiny i
def jM:G2:=eU xJ λi j=>i ^ j.toNat
def dw:G2:=gI λi j=>i-j
section
variable {K:FZ}
theorem aF.rep{H:Hp}{xs:List V}{ts:List Tr}(r:aF K H xs ts):∀n,aF K H (List.replicate n xs).flatten (List.replicate n ts).flatten
 | 0=>.nil
 |n+1=>by
  rw[List.replicate_succ,List.replicate_succ,List.flatten_cons,List.flatten_cons]
  exact r.app (aF.rep r n)
theorem Vu:dI (aA K) (Ce K) eV:=λW x y a b H Q hw rx ry h=>by
 cases a <;> cases b <;> try exact h.elim
 ·rw[rx.int,ry.int]
  dsimp only[eV]at h
  split at h
  ·rename_i e
   exact .inl ⟨_,_,rfl,rfl,e,h _ H (Same.refl _) (.dg (.int _))⟩
  ·exact h.elim
 ·rename_i us k
  rw[ry.int]
  dsimp only[eV]at h
  split at h
  ·rename_i e
   obtain⟨p,xs,rfl,q,r⟩:=rx.lst
   by_cases k0:0<=k
   ·refine .inr ⟨p,k,xs,rfl,rfl,q.uT,by omega,by omega,?_,λz hz=>h _ _ (cU hz _) (.new hz (r.rep _))⟩
    rw[r.length]
    refine Nat.le_trans (Nat.mul_le_mul e.2 (show k.toNat<=1000 by omega)) (by decide)
   ·have e0:k.toNat=0:=by omega
    by_cases k1 : -(2 ^ 63)<=k
    ·refine .inr ⟨p,k,xs,rfl,rfl,q.uT,k1,by omega,?_,λz hz=>h _ _ (cU hz _) (.new hz (r.rep _))⟩
     rw[e0,Nat.mul_zero]
     exact Nat.zero_le _
    ·omega
  ·exact h.elim
theorem Vv:dI K (rI xH λi j=>.int (i.fdiv j)) mq:=BZ λ_ _ h=>h
theorem Vw:dI K (rI (λ_ j=>j≠0) λi j=>.int (i.fmod j)) dM:=BZ λ_ _ h=>of_decide_eq_true h
theorem Vx:dI K (rI Af λi j=>.int (i ^ j.toNat)) jM:=BZ λi j h=>by
 unfold xJ tiny at h
 rw[Bool.and_eq_true,Bool.and_eq_true,Bool.and_eq_true]at h
 have h1:=of_decide_eq_true h.1.1
 have h2:=of_decide_eq_true h.1.2
 have h3:=of_decide_eq_true h.2.1
 have h4:=of_decide_eq_true h.2.2
 have e:(2:Nat) ^ 64=18446744073709551616:=by decide
 exact⟨h1,by omega,by omega⟩
theorem Vy:dI K (f9 λi j=>.int (i-j)) dw:=Vn
def gq:G2:=gB λi j=>decide (j<i)
def lD:G2:=gB λi j=>decide (i<=j)
def gZ:G2:=gB λi j=>decide (j<=i)
theorem Vz:dI K (f9 λi j=>.bl (decide (j<i))) gq:=Ca
theorem VB:dI K (f9 λi j=>.bl (decide (i<=j))) lD:=Ca
theorem VD:dI K (f9 λi j=>.bl (decide (j<=i))) gZ:=Ca
def intsOf:List Tr->Option (List Int)
 | []=>some []
 |.int i::r=>(intsOf r).map (i :: ·)
 |_::_=>none
theorem ints_of{H:Hp}:∀{ts:List Tr} {ns:List Int} {xs:List V},intsOf ts=some ns->aF K H xs ts->xs=ns.map V.int
 | [],ns,xs,h,r=>by cases h; cases r; rfl
 |.int i::q,ns,xs,h,r=>by
  unfold intsOf at h
  cases e:intsOf q with
  |none=>rw[e]at h; cases h
  |some ms =>
   rw[e]at h
   cases h
   cases r with
   |cons h1 r1 =>
    cases h1
    rw[ints_of e r1]
    rfl
 |.non::q,ns,xs,h,r=>by cases h
 |.bl _::q,ns,xs,h,r=>by cases h
 |.str _::q,ns,xs,h,r=>by cases h
 |.tup _::q,ns,xs,h,r=>by cases h
 |.lst _::q,ns,xs,h,r=>by cases h
def Ci(K:FZ):R2:=λx y H Q=>(f9 λi j=>.bl (decide (i<j))) x y H Q\/Jv K x y H Q
theorem uU{X:Cx}(hu:X.A.units+64<cLine):cH X (compareOp .Lt) (Ci X.K):=cH.or RL (S5 (by omega))
def cJ:G2
 |.int i,.int j=>.ok (.bl (decide (i<j)),false)
 |.tup a,.tup b=>match intsOf a,intsOf b with
  |some ns,some ms=>.ok (.bl (HT.lexLt ns ms),false)
  |_,_=>.bad
 |_,_=>.bad
theorem VF:dI (aA K) (Ci K) cJ:=λW x y a b H Q hw rx ry h=>by
 cases a <;> cases b <;> try exact h.elim
 ·rw[rx.int,ry.int]
  exact .inl ⟨_,_,rfl,rfl,h _ H (Same.refl _) (.dg (.bl _))⟩
 ·rename_i us ws
  dsimp only[cJ]at h
  split at h
  ·rename_i ns ms e1 e2
   obtain⟨p,xs,rfl,q,r⟩:=rx.tup
   obtain⟨p',ys,rfl,q',r'⟩:=ry.tup
   have z1:=ints_of e1 r
   have z2:=ints_of e2 r'
   subst z1 z2
   exact .inr ⟨p,p',ns,ms,rfl,rfl,q.toK,q'.toK,h _ H (Same.refl _) (.dg (.bl _))⟩
  ·exact h.elim
noncomputable def aB:G2
 |.lst ts,.int i=>match dz ts i with
  |some t=>.ok (t,false)
  |none=>.bad
 |.tup ts,.int i=>match dz ts i with
  |some t=>.ok (t,false)
  |none=>.bad
 | .str z,.int i=>if z.length<=100000 then (match dz z.cps.toList i with
  |some c=>.ok (.str ⟨#[c]⟩,false)
  |none=>.bad)else .bad
 |_,_=>.bad
theorem VG:dI (aA K) (rY K) aB:=λW x y a b H Q hw rx ry h=>by
 cases a <;> cases b <;> try exact h.elim
 ·rename_i z i
  rw[rx.str,ry.int]
  dsimp only[aB]at h
  split at h
  ·rename_i e
   split at h
   ·rename_i c ec
    exact .inr (.inr ⟨z,i,c,rfl,rfl,big e,ec,h _ H (Same.refl _) (.dg (.str _))⟩)
   ·exact h.elim
  ·exact h.elim
 ·rename_i ts i
  rw[ry.int]
  dsimp only[aB]at h
  split at h
  ·rename_i t et
   obtain⟨p,xs,rfl,q,r⟩:=rx.tup
   obtain⟨v,ev,rv⟩:=r.dz et
   exact .inr (.inl ⟨p,xs,i,v,rfl,rfl,q.toK,ev,h _ H (Same.refl _) rv⟩)
  ·exact h.elim
 ·rename_i ts i
  rw[ry.int]
  dsimp only[aB]at h
  split at h
  ·rename_i t et
   obtain⟨p,xs,rfl,q,r⟩:=rx.lst
   obtain⟨v,ev,rv⟩:=r.dz et
   exact .inl ⟨p,xs,i,v,rfl,rfl,q.toK,ev,h _ H (Same.refl _) rv⟩
  ·exact h.elim
end
end L2
end
section
namespace L2
open PySem PySem.Spec PyProof.Rows
section
variable {K:FZ}{W:Addr->Prop}{σ : St}
theorem eO.step{H H' gj:Hp}(hw:∀b,W b->H b≠none)(s:bA W H' gj):∀{vs:List V} {rs:List Rv},eO K W σ H H' vs rs->eO K W σ H gj vs rs
 |_,_,.nil=>.nil
 |_,_,.cons h q=>.cons (h.step hw s) (eO.step hw s q)
theorem eO.back{G H H':Hp}(d:∀b,H b=none->G b=none):∀{vs:List V} {rs:List Rv},eO K W σ H H' vs rs->eO K W σ G H' vs rs
 |_,_,.nil=>.nil
 |_,_,.cons h q=>.cons (h.back d) (eO.back d q)
inductive oZ(K:FZ)(W:Addr->Prop)(H:Hp):List V->List Tr->Prop
 |nil:oZ K W H [] []
 |cons {v:V} {t:Tr} {vs:List V} {ts:List Tr} (h:Rp K W H v t) (q:oZ K W H vs ts):oZ K W H (v::vs) (t::ts)
def drs(ρ : En):List Rv->Rs (List Tr)
 | []=>.ok []
 |r::rs=>(dr ρ r).bind λt=>(drs ρ rs).bind λts=>.ok (t::ts)
theorem o7(ρ : En):∀(rs:List Rv) (c:Str),drs ρ rs ≠ .ex c
 | [],c=>by intro z; cases z
 |r::rs,c=>by
  unfold drs
  cases e:dr ρ r with
  |bad=>intro z; cases z
  |ex d=>exact(gY _ _ _ e).elim
  |ok t =>
   show(drs ρ rs).bind _≠_
   cases e2:drs ρ rs with
   |bad=>intro z; cases z
   |ex d=>exact(o7 ρ rs d e2).elim
   |ok ts=>intro z; cases z
theorem jh{α β : Type}{r:Rs α}{f : α -> Rs β}{b : β}(h:r.bind f=.ok b):∃a,r=.ok a/\f a=.ok b:=by
 cases r with
 |bad=>cases h
 |ex c=>cases h
 |ok a=>exact⟨a,rfl,h⟩
theorem uV{t:Tx}{ρ : En}{H H':Hp}(e:aH t W ρ σ H')(hw:∀b,W b->H b≠none):∀{vs:List V} {rs:List Rv} {ts:List Tr},eO t.K W σ H H' vs rs->drs ρ rs=.ok ts->oZ t.K W H' vs ts
 |_,_,_,.nil,q=>by cases q; exact .nil
 |_,_,_,.cons h r,q=>by
  unfold drs at q
  obtain⟨a,q1,q⟩:=jh q
  obtain⟨as,q2,q⟩:=jh q
  cases q
  exact .cons (gU e hw h q1) (uV e hw r q2)
def cls:List Rv->Rs (List Tr)
 | []=>.ok []
 |.v t _::rs=>(cls rs).bind λts=>.ok (t::ts)
 |.s _::_=>.bad
theorem uW:∀(rs:List Rv) (c:Str),cls rs ≠ .ex c
 | [],c=>by intro z; cases z
 |.v t fr::rs,c=>by
  unfold cls
  cases e2:cls rs with
  |bad=>intro z; cases z
  |ex d=>exact(uW rs d e2).elim
  |ok ts=>intro z; cases z
 |.s i::rs,c=>by intro z; cases z
theorem uX{H H':Hp}(hw:∀b,W b->H b≠none):∀{vs:List V} {rs:List Rv} {ts:List Tr},eO K W σ H H' vs rs->cls rs=.ok ts->aF K (aC W H') vs ts
 |_,_,_,.nil,q=>by cases q; exact .nil
 |_,.v t fr::_,_,.cons h r,q=>by
  unfold cls at q
  obtain⟨as,q2,q⟩:=jh q
  cases q
  exact .cons (h.rep hw) (uX hw r q2)
 |_,.s i::_,_,.cons h r,q=>by cases q
end
section
variable {t:Tx}
def au:AF:=λρ=>.ok ([],ρ)
def ak(f:EF)(g:AF):AF:=λρ=>(f ρ).bind λp=>(g p.2).bind λq=>.ok (p.1::q.1,q.2)
theorem bZ:SA t jV au:=λW ρ σ H Q e h=>h [] H e (bA.refl _ _) .nil
theorem aY{te:TE}{ta:TA}{f:EF}{g:AF}(h1:SE t te f)(h2:SA t ta g):SA t (gD te ta) (ak f g):=λW ρ σ H Q e h=>by
 refine h1 W ρ σ H _ e (Rs.aO (Rs.aG h) λp h v H1 e1 s1 v1=>?_)
 refine h2 W p.2 σ H1 _ e1 (Rs.aO (Rs.aG h) λq h vs H2 e2 s2 v2=>?_)
 exact h (v::vs) H2 e2 (s1.trans s2) (.cons (v1.1.step e.wn s2) (eO.back s1.dom v2))
def sO(g:AF):EF:=λρ=>(g ρ).bind λp=>(cls p.1).bind λts=>if ts.length<=1000 then .ok (.v (.lst ts) true,p.2)else .bad
def jA(g:AF):EF:=λρ=>(g ρ).bind λp=>(cls p.1).bind λts=>if ts.length<=1000 then .ok (.v (.tup ts) false,p.2)else .bad
theorem cA{α : Type}{r:Rs α}{EX:Str->Prop}{P : α -> Prop}(h:r.post EX P)(n:∀c,r ≠ .ex c):∃a,r=.ok a/\P a:=by
 cases r with
 |bad=>exact h.elim
 |ex c=>exact(n c rfl).elim
 |ok a=>exact⟨a,rfl,h⟩
theorem VH{ta:TA}{g:AF}(h1:SA t ta g):SE t (Je ta) (sO g):=λW ρ σ H Q e h=>by
 refine h1 W ρ σ H _ e (Rs.aO (Rs.aG h) λp h vs H1 e1 s1 v1=>?_)
 obtain⟨ts,q,h⟩:=cA (Rs.aG h) (uW _)
 have r:=uX e.wn v1 q
 split at h
 ·rename_i hl
  refine⟨by rw[r.length]; exact Nat.le_trans hl (by decide),λz hz=>h _ _ (e1.grow (cU hz _)) (s1.trans (bA.of (cU hz _))) ?_⟩
  exact(eN.of (σ' := σ) e1 (cU hz _) (cV.new hz r)).back s1.dom
 ·exact h.elim
theorem xK{ta:TA}{g:AF}(h1:SA t ta g):SE t (wQ ta) (jA g):=λW ρ σ H Q e h=>by
 refine h1 W ρ σ H _ e (Rs.aO (Rs.aG h) λp h vs H1 e1 s1 v1=>?_)
 obtain⟨ts,q,h⟩:=cA (Rs.aG h) (uW _)
 have r:=uX e.wn v1 q
 split at h
 ·rename_i hl
  refine⟨by rw[r.length]; exact Nat.le_trans hl (by decide),λz hz=>h _ _ (e1.grow (cU hz _)) (s1.trans (bA.of (cU hz _))) ?_⟩
  exact .low ((cV.newT (σ := σ) (W:=W) e1.wl hz r))
 ·exact h.elim
abbrev G1:=Tr->Rs (Tr × Bool)
def lE(K:FZ)(r:V->Hp->VK->Prop)(g:G1):Prop:=∀W x a H Q,(∀b,W b->Lt H b)->Rp K W H x a->(g a).post (λ_=>False) (λp=>∀v H',Same H H'->cV K W [] H H' v (.v p.1 p.2)->Q v H')->r x H Q
def jX(g:G1)(fa:EF):EF:=λρ=>(fa ρ).bind λp=>(dr p.2 p.1).bind λa=>(g a).bind λz=>.ok (.v z.1 z.2,p.2)
theorem Ky{r:V->Hp->VK->Prop}{g:G1}{ta:TE}{fa:EF}(o:lE t.K r g)(ng:∀a c,g a ≠ .ex c)(ha:SE t ta fa):SE t (wM r ta) (jX g fa):=λW ρ σ H Q e h=>by
 refine ha W ρ σ H _ e (Rs.aO (Rs.aG h) λp h x H1 e1 s1 v1=>?_)
 obtain⟨a,k1,h⟩:=cA (Rs.aG h) (gY _ _)
 refine o W x a H1 Q e1.wl (gU e1 e.wn v1.1 k1) (Rs.aO (iV (Rs.aG h) (ng a)) λz h v H2 s2 v2=>?_)
 exact h v H2 (e1.grow s2) (s1.trans (bA.of s2)) ((eN.of e1 s2 v2).back s1.dom)
def bh:Tr->Rs Bool
 |.bl b=>.ok b
 |_=>.bad
theorem Kz(a:Tr)(c:Str):bh a ≠ .ex c:=by cases a <;> (intro z; cases z)
def aR(fa:EF):BF:=λρ=>(fa ρ).bind λp=>(dr p.2 p.1).bind λa=>(bh a).bind λb=>.ok (b,p.2)
theorem KC{K:FZ}{W:Addr->Prop}{H:Hp}{v:V}{a:Tr}{b:Bool}(h:Rp K W H v a)(q:bh a=.ok b):v=.bl b:=by
 cases a <;> cases q
 exact h.bl
theorem dY{ta:TE}{fa:EF}(ha:SE t ta fa):ST t (Ja ta) (aR fa):=λW ρ σ H Q e h=>by
 refine ha W ρ σ H _ e (Rs.aO (Rs.aG h) λp h x H1 e1 s1 v1=>?_)
 obtain⟨a,k1,h⟩:=cA (Rs.aG h) (gY _ _)
 obtain⟨b,k2,h⟩:=cA (Rs.aG h) (Kz _)
 exact⟨b,KC (gU e1 e.wn v1.1 k1) k2,h H1 e1 s1⟩
def dB:Tr->Rs Bool
 |.non=>.ok false
 |.bl b=>.ok b
 |.int i=>.ok (i != 0)
 |.lst ts=>.ok (!ts.isEmpty)
 |.tup ts=>.ok (!ts.isEmpty)
 |.str x=>if x.length<=100000 then .ok ((x.length:Int) != 0)else .bad
 |.bY _=>.bad
theorem VJ(a:Tr)(c:Str):dB a ≠ .ex c:=by
 cases a <;> try(intro z; cases z; done)
 dsimp only[dB]
 split <;> (intro z; cases z)
theorem KD{α β : Type}{a:List α}{b:List β}(h:a.length=b.length):a.isEmpty=b.isEmpty:=by
 cases a <;> cases b <;> first|rfl|cases h
theorem VL{K:FZ}{W:Addr->Prop}{H:Hp}{v:V}{a:Tr}{b:Bool}(h:Rp (aA K) W H v a)(q:dB a=.ok b):uz K v H b:=by
 cases a with
 |non=>cases q; rw[h.non]; rfl
 |bl i=>cases q; rw[h.bl]; rfl
 |int i=>cases q; rw[h.int]; rfl
 |str i =>
  dsimp only[dB]at q
  split at q
  ·rename_i e
   cases q
   rw[h.str]
   exact⟨big e,rfl⟩
  ·cases q
 |tup ts =>
  cases q
  obtain⟨p,xs,rfl,q,r⟩:=h.tup
  exact .inr (.inl ⟨xs,q.toK,by rw[KD r.length]⟩)
 |lst ts =>
  cases q
  obtain⟨p,xs,rfl,q,r⟩:=h.lst
  exact .inl ⟨xs,q.toK,by rw[KD r.length]⟩
 |bY c=>cases q
def cB(fa:EF):BF:=λρ=>(fa ρ).bind λp=>(dr p.2 p.1).bind λa=>(dB a).bind λb=>.ok (b,p.2)
def VN(K:FZ)(ta:TE):TT:=λσ H Q=>ta σ H λx H'=>∃k,uz K x H' k/\Q k H'
theorem mz{K:FZ}(hK:t.K=aA K){ta:TE}{fa:EF}(ha:SE t ta fa):ST t (VN K ta) (cB fa):=λW ρ σ H Q e h=>by
 refine ha W ρ σ H _ e (Rs.aO (Rs.aG h) λp h x H1 e1 s1 v1=>?_)
 obtain⟨a,k1,h⟩:=cA (Rs.aG h) (gY _ _)
 obtain⟨b,k2,h⟩:=cA (Rs.aG h) (VJ _)
 have r:=gU e1 e.wn v1.1 k1
 rw[hK]at r
 exact⟨b,VL r k2,h H1 e1 s1⟩
def qw(f g:BF):BF:=λρ=>(f ρ).bind λp=>if p.1=true then g p.2 else .ok (false,p.2)
def cR(f g:BF):BF:=λρ=>(f ρ).bind λp=>if p.1=true then .ok (true,p.2)else g p.2
def cF(f:BF):BF:=λρ=>(f ρ).bind λp=>.ok (!p.1,p.2)
theorem KH{ta tb:TT}{f g:BF}(ha:ST t ta f)(hb:ST t tb g):ST t (HJ ta tb) (qw f g):=λW ρ σ H Q e h=>by
 refine ha W ρ σ H _ e (Rs.aO (Rs.aG h) λp h H1 e1 s1=>?_)
 split at h
 ·rename_i c
  refine if_pos c▸hb W p.2 σ H1 _ e1 (Rs.aO h λq h H2 e2 s2=>h H2 e2 (s1.trans s2))
 ·rename_i c
  exact if_neg c▸h H1 e1 s1
theorem uY{ta tb:TT}{f g:BF}(ha:ST t ta f)(hb:ST t tb g):ST t (HN ta tb) (cR f g):=λW ρ σ H Q e h=>by
 refine ha W ρ σ H _ e (Rs.aO (Rs.aG h) λp h H1 e1 s1=>?_)
 split at h
 ·rename_i c
  exact if_pos c▸h H1 e1 s1
 ·rename_i c
  refine if_neg c▸hb W p.2 σ H1 _ e1 (Rs.aO h λq h H2 e2 s2=>h H2 e2 (s1.trans s2))
theorem mD{ta:TT}{f:BF}(ha:ST t ta f):ST t (HS ta) (cF f):=λW ρ σ H Q e h =>
 ha W ρ σ H _ e (Rs.aO (Rs.aG h) λp h H1 e1 s1=>h H1 e1 s1)
def eB(b:Bool):Rv:=.v (.bl b) false
def g8(f g:EF):EF:=λρ=>(aR f ρ).bind λp=>if p.1=true then g p.2 else .ok (eB false,p.2)
def sS(f g:EF):EF:=λρ=>(aR f ρ).bind λp=>if p.1=true then .ok (eB true,p.2)else g p.2
def xM(f:EF):EF:=λρ=>(aR f ρ).bind λp=>.ok (eB (!p.1),p.2)
theorem Cj{ta tb:TE}{f g:EF}(ha:SE t ta f)(hb:SE t tb g):SE t (HW ta tb) (g8 f g):=λW ρ σ H Q e h=>by
 refine dY ha W ρ σ H _ e (Rs.aO (Rs.aG h) λp h H1 e1 s1=>?_)
 split at h
 ·rename_i c
  refine if_pos c▸hb W p.2 σ H1 _ e1 (Rs.aO h λq h v H2 e2 s2 v2=>h v H2 e2 (s1.trans s2) (v2.back s1.dom))
 ·rename_i c
  exact if_neg c▸h _ H1 e1 s1 (.low (.bl false))
theorem VP{ta tb:TE}{f g:EF}(ha:SE t ta f)(hb:SE t tb g):SE t (HX ta tb) (sS f g):=λW ρ σ H Q e h=>by
 refine dY ha W ρ σ H _ e (Rs.aO (Rs.aG h) λp h H1 e1 s1=>?_)
 split at h
 ·rename_i c
  exact if_pos c▸h _ H1 e1 s1 (.low (.bl true))
 ·rename_i c
  refine if_neg c▸hb W p.2 σ H1 _ e1 (Rs.aO h λq h v H2 e2 s2 v2=>h v H2 e2 (s1.trans s2) (v2.back s1.dom))
theorem V0{ta:TE}{f:EF}(ha:SE t ta f):SE t (HY ta) (xM f):=λW ρ σ H Q e h =>
 dY ha W ρ σ H _ e (Rs.aO (Rs.aG h) λp h H1 e1 s1=>h _ H1 e1 s1 (.low (.bl _)))
def jY(c:BF)(f g:EF):EF:=λρ=>(c ρ).bind λp=>if p.1=true then f p.2 else g p.2
theorem xO{tc:TT}{ta tb:TE}{c:BF}{f g:EF}(hc:ST t tc c)(ha:SE t ta f)(hb:SE t tb g):SE t (zV tc ta tb) (jY c f g):=λW ρ σ H Q e h=>by
 refine hc W ρ σ H _ e (Rs.aO (Rs.aG h) λp h H1 e1 s1=>?_)
 split at h
 ·rename_i d
  refine if_pos d▸ha W p.2 σ H1 _ e1 (Rs.aO h λq h v H2 e2 s2 v2=>h v H2 e2 (s1.trans s2) (v2.back s1.dom))
 ·rename_i d
  refine if_neg d▸hb W p.2 σ H1 _ e1 (Rs.aO h λq h v H2 e2 s2 v2=>h v H2 e2 (s1.trans s2) (v2.back s1.dom))
end
end L2
end
section
namespace L2
open PySem PySem.Spec PyProof.Rows
section
variable {t:Tx}
noncomputable def xP(g g':G2)(fa fb fc:EF):EF:=λρ=>(fa ρ).bind λp=>(fb p.2).bind λq=>(dr q.2 p.1).bind λa=>(dr q.2 q.1).bind λb=>(g a b).bind λz=>(bh z.1).bind λk =>
 if k=true then(fc q.2).bind λs=>(dr s.2 q.1).bind λb=>(dr s.2 s.1).bind λc=>(g' b c).bind λz=>.ok (.v z.1 z.2,s.2)else .ok (eB false,q.2)
theorem V1{r r':R2}{g g':G2}{ta tb tc:TE}{fa fb fc:EF}(o:dI t.K r g)(o':dI t.K r' g')(ng:∀a b c,g a b ≠ .ex c)(V2:∀a b c,g' a b ≠ .ex c)(ha:SE t ta fa)(hb:SE t tb fb)(hc:SE t tc fc):SE t (Ai r r' ta tb tc) (xP g g' fa fb fc):=λW ρ σ H Q e h=>by
 refine ha W ρ σ H _ e (Rs.aO (Rs.aG h) λp h x H1 e1 s1 v1=>?_)
 refine hb W p.2 σ H1 _ e1 (Rs.aO (Rs.aG h) λq h y H2 e2 s2 v2=>?_)
 obtain⟨a,k1,h⟩:=cA (Rs.aG h) (gY _ _)
 obtain⟨b,k2,h⟩:=cA (Rs.aG h) (gY _ _)
 refine o W x y a b H2 _ e2.wl (gU e2 e.wn (v1.1.step e.wn s2) k1) (gU e2 e1.wn v2.1 k2) (Rs.aO (iV (Rs.aG h) (ng a b)) λz h v H3 s3 v3=>?_)
 obtain⟨k,k3,h⟩:=cA (Rs.aG h) (Kz _)
 have e3:=e2.grow s3
 have b3:v=.bl k:=KC (.inl (cV.rep (σ:=[]) e2.wn v3)) k3
 refine⟨k,b3,?_⟩
 split at h
 ·rename_i c
  rw[if_pos c]
  refine hc W q.2 σ H3 _ e3 (Rs.aO (Rs.aG h) λu h w H4 e4 s4 v4=>?_)
  obtain⟨b',k4,h⟩:=cA (Rs.aG h) (gY _ _)
  obtain⟨c',k5,h⟩:=cA (Rs.aG h) (gY _ _)
  refine o' W y w b' c' H4 _ e4.wl (gU e4 e1.wn ((v2.1.step e1.wn (bA.of s3)).step e1.wn s4) k4) (gU e4 e3.wn v4.1 k5) (Rs.aO (iV (Rs.aG h) (V2 b' c')) λz h v H5 s5 v5=>?_)
  have st:bA W H H4:=(s1.trans (s2.trans (bA.of s3))).trans s4
  exact h v H5 (e4.grow s5) (st.trans (bA.of s5)) ((eN.of e4 s5 v5).back st.dom)
 ·rename_i c
  rw[if_neg c]
  exact h _ H3 e3 ((s1.trans s2).trans (bA.of s3)) (.low (.bl false))
abbrev OF:=En->Rs (Option Int × En)
def SO(t:Tx)(te:TO)(f:OF):Prop:=∀W ρ σ H Q,aH t W ρ σ H->(f ρ).post t.EX (λp=>∀H',aH t W p.2 σ H'->bA W H H'->Q p.1 H')->te σ H Q
def mF:OF:=λρ=>.ok (none,ρ)
theorem sU:SO t Jq mF:=λW ρ σ H Q e h=>h H e (bA.refl _ _)
def dO:Tr->Rs Int
 |.int i=>.ok i
 |_=>.bad
theorem KJ(a:Tr)(c:Str):dO a ≠ .ex c:=by cases a <;> (intro z; cases z)
theorem KN{K:FZ}{W:Addr->Prop}{H:Hp}{v:V}{a:Tr}{b:Int}(h:Rp K W H v a)(q:dO a=.ok b):v=.int b:=by
 cases a <;> cases q
 exact h.int
def mG(fa:EF):OF:=λρ=>(fa ρ).bind λp=>(dr p.2 p.1).bind λa=>(dO a).bind λb=>.ok (some b,p.2)
theorem sV{ta:TE}{fa:EF}(ha:SE t ta fa):SO t (Jr ta) (mG fa):=λW ρ σ H Q e h=>by
 refine ha W ρ σ H _ e (Rs.aO (Rs.aG h) λp h x H1 e1 s1 v1=>?_)
 obtain⟨a,k1,h⟩:=cA (Rs.aG h) (gY _ _)
 obtain⟨b,k2,h⟩:=cA (Rs.aG h) (KJ _)
 exact⟨b,KN (gU e1 e.wn v1.1 k1) k2,h H1 e1 s1⟩
def cut{α : Type}(xs:List α)(lo hi:Option Int):List α := (xs.drop (HT.bK xs.length 0 lo)).take (HT.bK xs.length xs.length hi-HT.bK xs.length 0 lo)
theorem aF.cut{K:FZ}{H:Hp}{xs:List V}{ts:List Tr}(r:aF K H xs ts)(lo hi:Option Int):aF K H (oM xs lo hi) (L2.cut ts lo hi):=by
 unfold oM L2.cut
 rw[r.length]
 exact(r.drop _).take _
def KQ(K:FZ):V->Option Int->Option Int->Hp->VK->Prop:=λx lo hi H Q=>JH K x lo hi H Q\/Ju K x lo hi H Q\/J9 x lo hi H Q
theorem Ck{X:Cx}:lB X (KQ X.K):=lB.or Ti (lB.or SX Um)
noncomputable def lF(lo hi:Option Int):G1
 |.lst ts=>.ok (.lst (cut ts lo hi),true)
 |.tup ts=>if ¬(HT.bK ts.length 0 lo=0/\HT.bK ts.length ts.length hi=ts.length)then .ok (.tup (cut ts lo hi),false)else .bad
 |.str z=>if z.length<=100000 then .ok (.str (Txt.slice z lo hi),false)else .bad
 |_=>.bad
theorem V3(lo hi:Option Int)(a:Tr)(c:Str):lF lo hi a ≠ .ex c:=by
 cases a <;> dsimp only[lF] <;> (try split) <;> (intro z; cases z)
def mH(fa:EF)(fl fh:OF):EF:=λρ=>(fa ρ).bind λp=>(fl p.2).bind λl=>(fh l.2).bind λh=>(dr h.2 p.1).bind λa=>(lF l.1 h.1 a).bind λz=>.ok (.v z.1 z.2,h.2)
theorem sW{K:FZ}(hK:t.K=aA K){ta:TE}{tl th:TO}{fa:EF}{fl fh:OF}(ha:SE t ta fa)(hl:SO t tl fl)(hh:SO t th fh):SE t (Js (KQ K) ta tl th) (mH fa fl fh):=λW ρ σ H Q e h=>by
 refine ha W ρ σ H _ e (Rs.aO (Rs.aG h) λp h x H1 e1 s1 v1=>?_)
 refine hl W p.2 σ H1 _ e1 (Rs.aO (Rs.aG h) λl h H2 e2 s2=>?_)
 refine hh W l.2 σ H2 _ e2 (Rs.aO (Rs.aG h) λu h H3 e3 s3=>?_)
 obtain⟨a,k1,h⟩:=cA (Rs.aG h) (gY _ _)
 obtain⟨z,k2,h⟩:=cA (Rs.aG h) (V3 _ _ _)
 have st:bA W H H3:=s1.trans (s2.trans s3)
 have rx:=gU e3 e.wn (v1.1.step e.wn (s2.trans s3)) k1
 rw[hK]at rx
 cases a with
 |bY c=>cases k2
 |lst ts =>
  cases k2
  obtain⟨b,xs,rfl,q,r⟩:=rx.lst
  refine .inl ⟨b,xs,rfl,q.toK,λy hy=>h _ _ (e3.grow (cU hy _)) (st.trans (bA.of (cU hy _))) ?_⟩
  rw[<-hK]at r
  exact(eN.of (σ' := σ) e3 (cU hy _) (cV.new hy (r.cut _ _))).back st.dom
 |tup ts =>
  dsimp only[lF]at k2
  split at k2
  ·rename_i c
   cases k2
   obtain⟨b,xs,rfl,q,r⟩:=rx.tup
   refine .inr (.inl ⟨b,xs,rfl,q.toK,by rw[r.length]; exact c,λy hy=>h _ _ (e3.grow (cU hy _)) (st.trans (bA.of (cU hy _))) ?_⟩)
   rw[<-hK]at r
   exact .low (cV.newT (σ := σ) (W:=W) e3.wl hy (r.cut _ _))
  ·cases k2
 |str i =>
  dsimp only[lF]at k2
  split at k2
  ·rename_i c
   cases k2
   rw[rx.str]
   exact .inr (.inr ⟨i,rfl,big c,h _ H3 e3 st (.low (.str _))⟩)
  ·cases k2
 |non=>cases k2
 |bl i=>cases k2
 |int i=>cases k2
abbrev GN:=List Tr->Rs (Tr × Bool)
def Cm(K:FZ)(r:List V->Hp->VK->Prop)(g:GN):Prop:=∀W xs as H Q,(∀b,W b->Lt H b)->oZ K W H xs as->(g as).post (λ_=>False) (λp=>∀v H',Same H H'->cV K W [] H H' v (.v p.1 p.2)->Q v H')->r xs H Q
def bC(g:GN)(fa:AF):EF:=λρ=>(fa ρ).bind λp=>(drs p.2 p.1).bind λas=>(g as).bind λz=>.ok (.v z.1 z.2,p.2)
theorem nH{r:List V->Hp->VK->Prop}{g:GN}{ta:TA}{fa:AF}(o:Cm t.K r g)(ng:∀as c,g as ≠ .ex c)(ha:SA t ta fa):SE t (gO r ta) (bC g fa):=λW ρ σ H Q e h=>by
 refine ha W ρ σ H _ e (Rs.aO (Rs.aG h) λp h xs H1 e1 s1 v1=>?_)
 obtain⟨as,k1,h⟩:=cA (Rs.aG h) (o7 _ _)
 refine o W xs as H1 Q e1.wl (uV e1 e.wn v1 k1) (Rs.aO (iV (Rs.aG h) (ng as)) λz h v H2 s2 v2=>?_)
 exact h v H2 (e1.grow s2) (s1.trans (bA.of s2)) ((eN.of e1 s2 v2).back s1.dom)
def g1(g:G1):GN
 | [a]=>g a
 |_=>.bad
theorem qx{g:G1}(h:∀a c,g a ≠ .ex c)(as:List Tr)(c:Str):g1 g as ≠ .ex c:=by
 match as with
 | []=>intro z; cases z
 | [a]=>exact h a c
 |_::_::_=>intro z; cases z
theorem qy{K:FZ}{r:List V->Hp->VK->Prop}{g:G1}(h:lE K (λx=>r [x]) g):Cm K r (g1 g):=λW xs as H Q hw rs q=>by
 cases rs with
 |nil=>exact q.elim
 |cons h1 r1 =>
  cases r1 with
  |nil=>exact h W _ _ H Q hw h1 q
  |cons _ _=>exact q.elim
def g2(g:G2):GN
 | [a,b]=>g a b
 |_=>.bad
theorem KR{g:G2}(h:∀a b c,g a b ≠ .ex c)(as:List Tr)(c:Str):g2 g as ≠ .ex c:=by
 match as with
 | []=>intro z; cases z
 | [a]=>intro z; cases z
 | [a,b]=>exact h a b c
 |_::_::_::_=>intro z; cases z
theorem KY{K:FZ}{r:List V->Hp->VK->Prop}{g:G2}(h:dI K (λx y=>r [x,y]) g):Cm K r (g2 g):=λW xs as H Q hw rs q=>by
 cases rs with
 |nil=>exact q.elim
 |cons h1 r1 =>
  cases r1 with
  |nil=>exact q.elim
  |cons h2 r2 =>
   cases r2 with
   |nil=>exact h W _ _ _ _ H Q hw h1 h2 q
   |cons _ _=>exact q.elim
end
section
variable {K:FZ}
def Cp(K:FZ):List V->Hp->VK->Prop:=λxs H Q=>(∃p ys,xs=[.ref p]/\(bG K H p ys\/cj K H p ys)/\Q (.int ys.length) H)\/(∃z,xs=[.str z]/\z.length<=sizeLine/\Q (.int z.length) H)
theorem jZ{X:Cx}:eF X (.builtin "len") (Cp X.K):=eF.or Tj Tn
def bM:G1
 |.lst ts=>.ok (.int ts.length,false)
 |.tup ts=>.ok (.int ts.length,false)
 |.str z=>if z.length<=100000 then .ok (.int z.length,false)else .bad
 |_=>.bad
theorem V4:lE (aA K) (λx=>Cp K [x]) bM:=λW x a H Q hw rx h=>by
 cases a <;> try exact h.elim
 ·rename_i z
  dsimp only[bM]at h
  split at h
  ·rename_i e
   rw[rx.str]
   exact .inr ⟨z,rfl,big e,h _ H (Same.refl _) (.dg (.int _))⟩
  ·exact h.elim
 ·obtain⟨p,xs,rfl,q,r⟩:=rx.tup
  refine .inl ⟨p,xs,rfl,.inr q.toK,?_⟩
  rw[r.length]
  exact h _ H (Same.refl _) (.dg (.int _))
 ·obtain⟨p,xs,rfl,q,r⟩:=rx.lst
  refine .inl ⟨p,xs,rfl,.inl q.toK,?_⟩
  rw[r.length]
  exact h _ H (Same.refl _) (.dg (.int _))
def mJ:G1
 |.int i=>.ok (.int (if i<0 then -i else i),false)
 |_=>.bad
theorem V5:lE K (λx H Q=>∃i,[x]=[V.int i]/\Q (.int (if i<0 then -i else i)) H) mJ:=λW x a H Q hw rx h=>by
 cases a <;> try exact h.elim
 rw[rx.int]
 exact⟨_,rfl,h _ H (Same.refl _) (.dg (.int _))⟩
def fH:G1
 |.lst ts=>.ok (.lst ts,true)
 |.tup ts=>.ok (.lst ts,true)
 |_=>.bad
theorem V6:lE (aA K) (λx H Q=>∃p ys,[x]=[V.ref p]/\(bG K H p ys\/cj K H p ys)/\∀l,H l=none->Q (.ref l) (upd H l (.lst ys))) fH:=λW x a H Q hw rx h=>by
 cases a <;> try exact h.elim
 ·obtain⟨p,xs,rfl,q,r⟩:=rx.tup
  exact⟨p,xs,rfl,.inr q.toK,λz hz=>h _ _ (cU hz _) (.new hz r)⟩
 ·obtain⟨p,xs,rfl,q,r⟩:=rx.lst
  exact⟨p,xs,rfl,.inl q.toK,λz hz=>h _ _ (cU hz _) (.new hz r)⟩
def dZ:G1
 |.lst ts=>.ok (.tup ts,false)
 |.tup ts=>.ok (.tup ts,false)
 |_=>.bad
theorem V7:lE (aA K) (λx H Q=>∃p ys,[x]=[V.ref p]/\((bG K H p ys/\∀l,H l=none->Q (.ref l) (upd H l (.tup ys)))\/(cj K H p ys/\Q (.ref p) H))) dZ:=λW x a H Q hw rx h=>by
 cases a <;> try exact h.elim
 ·have rt:=rx.Kr
  obtain⟨p,xs,rfl,q,r⟩:=rx.tup
  exact⟨p,xs,rfl,.inr ⟨q.toK,h _ H (Same.refl _) rt⟩⟩
 ·obtain⟨p,xs,rfl,q,r⟩:=rx.lst
  exact⟨p,xs,rfl,.inl ⟨q.toK,λz hz=>h _ _ (cU hz _) (.newT hw hz r)⟩⟩
def ig:G1:=λt=>if gQ t=true/\blk t<=8000/\dep t<=40 then .ok (.str (txt t),false)else .bad
theorem V8:lE (aA K) (λx=>Bw K [x]) ig:=λW x a H Q hw rx h=>by
 unfold ig at h
 split at h
 ·rename_i e
  exact⟨x,a,rfl,rx.rep.toK,e.1,e.2.1,e.2.2,h _ H (Same.refl _) (.dg (.str _))⟩
 ·exact h.elim
def jB:G2
 |.int i,.int j=>.ok (.int (if j<i then j else i),false)
 |_,_=>.bad
def jC:G2
 |.int i,.int j=>.ok (.int (if j > i then j else i),false)
 |_,_=>.bad
theorem V9:dI K (λx y H Q=>∃i j,[x,y]=[V.int i,V.int j]/\Q (.int (if j<i then j else i)) H) jB:=λW x y a b H Q hw rx ry h=>by
 cases a <;> cases b <;> try exact h.elim
 rw[rx.int,ry.int]
 exact⟨_,_,rfl,h _ H (Same.refl _) (.dg (.int _))⟩
theorem Wa:dI K (λx y H Q=>∃i j,[x,y]=[V.int i,V.int j]/\Q (.int (if j > i then j else i)) H) jC:=λW x y a b H Q hw rx ry h=>by
 cases a <;> cases b <;> try exact h.elim
 rw[rx.int,ry.int]
 exact⟨_,_,rfl,h _ H (Same.refl _) (.dg (.int _))⟩
def qz:List Tr->Option (List Bool)
 | []=>some []
 |.bl i::r=>(qz r).map (i :: ·)
 |_::_=>none
theorem KZ{H:Hp}:∀{ts:List Tr} {ns:List Bool} {xs:List V},qz ts=some ns->aF K H xs ts->xs=ns.map V.bl
 | [],ns,xs,h,r=>by cases h; cases r; rfl
 |.bl i::q,ns,xs,h,r=>by
  unfold qz at h
  cases e:qz q with
  |none=>rw[e]at h; cases h
  |some ms =>
   rw[e]at h
   cases h
   cases r with
   |cons h1 r1 =>
    cases h1
    rw[KZ e r1]
    rfl
 |.non::q,ns,xs,h,r=>by cases h
 |.int _::q,ns,xs,h,r=>by cases h
 |.str _::q,ns,xs,h,r=>by cases h
 |.tup _::q,ns,xs,h,r=>by cases h
 |.lst _::q,ns,xs,h,r=>by cases h
def ji:G1
 |.lst ts=>match qz ts with
  |some bs=>.ok (.bl (bs.all id),false)
  |none=>.bad
 |_=>.bad
theorem Wb:lE (aA K) (λx=>Bp K [x]) ji:=λW x a H Q hw rx h=>by
 cases a <;> try exact h.elim
 dsimp only[ji]at h
 split at h
 ·rename_i bs e
  obtain⟨p,xs,rfl,q,r⟩:=rx.lst
  have z:=KZ e r
  subst z
  exact⟨p,bs,rfl,q.toK,h _ H (Same.refl _) (.dg (.bl _))⟩
 ·exact h.elim
def d7(c:Ty)(fa:EF):EF:=λρ=>(fa ρ).bind λp=>(dr p.2 p.1).bind λa=>.ok (eB (fU a c),p.2)
theorem xQ{t:Tx}(hK:t.K=aA K)(c:Ty){ta:TE}{fa:EF}(ha:SE t ta fa):SE t (gO (wZ K) (gD ta (gD (tC (.ty c.name)) jV))) (d7 c fa):=λW ρ σ H Q e h=>by
 refine ha W ρ σ H _ e (Rs.aO (Rs.aG h) λp h x H1 e1 s1 v1=>?_)
 obtain⟨a,k1,h⟩:=cA (Rs.aG h) (gY _ _)
 have r:=gU e1 e.wn v1.1 k1
 rw[hK]at r
 exact⟨x,a,c,rfl,r.rep.toK,h _ H1 e1 s1 (.low (.bl _))⟩
end
end L2
end
section
namespace L2
open PySem PySem.Spec PyProof.Rows
inductive Fl where
 |nx|rt (T:Tr) (fr:Bool)|bk|ct
abbrev SF:=En->Rs (Fl × En)
def gw(W:Addr->Prop)(H:Hp)(W':Addr->Prop)(H':Hp):Prop:=∀b o,¬W b->H b=some o->¬W' b/\H' b=some o
theorem gw.refl(W:Addr->Prop)(H:Hp):gw W H W H:=λ_ _ n h=>⟨n,h⟩
theorem gw.trans{W W1 W2:Addr->Prop}{H H1 H2:Hp}(a:gw W H W1 H1)(b:gw W1 H1 W2 H2):gw W H W2 H2:=λc o n h=>by
 obtain⟨n1,h1⟩:=a c o n h
 exact b c o n1 h1
theorem bA.nxt{W:Addr->Prop}{H H':Hp}(s:bA W H H'):gw W H W H':=λb o n h=>⟨n,s.keep b o n h⟩
theorem gw.same{W W':Addr->Prop}{H H':Hp}(a:gw W H W' H'):Same (aC W H) (aC W' H'):=λb o h=>by
 obtain⟨n,h⟩:=gF h
 obtain⟨n',h'⟩:=a b o n h
 rw[cQ n']
 exact h'
def VR(t:Tx)(H':Hp)(v:V)(T:Tr):Bool->Prop
 |false=>Rep t.K (aC t.Z H') v T
 |true=>∃a xs ts,v=.ref a/\T=.lst ts/\t.H0 a=none/\H' a=some (.lst xs)/\aF t.K (off a (aC t.Z H')) xs ts
noncomputable def nJ(t:Tx)(W:Addr->Prop)(H:Hp)(D:Ends)(p:Fl × En):Prop:=match p.1 with
 |.nx=>∀W' σ' H',aH t W' p.2 σ' H'->gw W H W' H'->D.nx σ' H'
 |.rt T fr=>∀v W' σ' H',aH t W' p.2 σ' H'->VR t H' v T fr->D.rt v H'
 |.bk=>∀W' σ' H',aH t W' p.2 σ' H'->gw W H W' H'->D.bk σ' H'
 |.ct=>∀W' σ' H',aH t W' p.2 σ' H'->gw W H W' H'->D.ct σ' H'
def SS(t:Tx)(ts:TS)(f:SF):Prop:=∀W ρ σ H D,aH t W ρ σ H->(f ρ).post t.EX (nJ t W H D)->ts D σ H
theorem nJ.back{t:Tx}{W W':Addr->Prop}{H H':Hp}{D:Ends}{p:Fl × En}(h:nJ t W H D p)(n:gw W H W' H'):nJ t W' H' D p:=by
 obtain⟨fl,ρ⟩:=p
 cases fl with
 |nx=>exact λW2 σ2 H2 e m=>h W2 σ2 H2 e (n.trans m)
 |rt T fr=>exact h
 |bk=>exact λW2 σ2 H2 e m=>h W2 σ2 H2 e (n.trans m)
 |ct=>exact λW2 σ2 H2 e m=>h W2 σ2 H2 e (n.trans m)
section
variable {t:Tx}
def bD:SF:=λρ=>.ok (.nx,ρ)
theorem jN:SS t Ie bD:=λW ρ σ H D e h=>h W σ H e (gw.refl _ _)
def aJ(f g:SF):SF:=λρ=>(f ρ).bind λp=>match p.1 with
 |.nx=>g p.2
 |fl=>.ok (fl,p.2)
theorem eY{ta tb:TS}{f g:SF}(h1:SS t ta f)(h2:SS t tb g):SS t (iZ ta tb) (aJ f g):=λW ρ σ H D e h=>by
 refine h1 W ρ σ H _ e (Rs.aO (Rs.aG h) λp h=>?_)
 obtain⟨fl,ρ1⟩:=p
 cases fl with
 |nx=>exact λW1 σ1 H1 e1 n1=>h2 W1 ρ1 σ1 H1 D e1 (Rs.aO h λq h=>h.back n1)
 |rt T fr=>exact h
 |bk=>exact h
 |ct=>exact h
theorem get_set{α : Type}{l:List α}{i j:Nat}{a b : α}(h:(l.set i a)[j]?=some b):(j=i/\b=a/\i<l.length)\/(j≠i/\l[j]?=some b):=by
 by_cases e:i=j
 ·subst e
  rw[List.getElem?_set_self']at h
  cases q:l[i]? with
  |none=>rw[q]at h; cases h
  |some c =>
   rw[q]at h
   cases h
   exact .inl ⟨rfl,rfl,(List.getElem?_eq_some_iff.mp q).1⟩
 ·rw[List.getElem?_set_ne e]at h
  exact .inr ⟨Ne.symm e,h⟩
theorem sX{α : Type}{l:List α}{i:Nat}{a : α}(h:i<l.length):(l.set i a)[i]?=some a:=by
 rw[List.getElem?_set_self' ,List.getElem?_eq_getElem h]
 rfl
theorem aH.j4{W:Addr->Prop}{ρ : En}{σ : St}{H:Hp}{i:Nat}{v:V}{T:Tr}(e:aH t W ρ σ H)(r:Rep t.K (aC W H) v T):aH t W (ρ.set i (.sh T)) (σ.set i (some v)) H:=by
 have mu:∀j,Mu (ρ.set i (.sh T)) j->j≠i/\Mu ρ j:=λj h=>by
  obtain⟨ts,h|h⟩:=h <;> rcases get_set h with⟨rfl,z,_⟩|⟨ne,h⟩
  ·cases z
  ·exact⟨ne,ts,.inl h⟩
  ·cases z
  ·exact⟨ne,ts,.inr h⟩
 have iu:∀j us,(ρ.set i (.sh T))[j]?=some (.dp us)->j≠i/\ρ[j]?=some (.dp us):=λj us h=>by
  rcases get_set h with⟨rfl,z,_⟩|⟨ne,h⟩
  ·cases z
  ·exact⟨ne,h⟩
 obtain⟨F,e⟩:=e
 refine⟨F,by rw[List.length_set,List.length_set]; exact e.len,e.zw,e.z0,e.wl,e.f0,e.n0,λj u h=>?_,λj ts h=>?_,λj ts h=>?_,λj k a h1 h2 q1 q2=>?_,e.pn,λj a m q=>e.pd j a (mu j m).2 (by rw[List.getElem?_set_ne (Ne.symm (mu j m).1)]at q; exact q),
  λj us h=>?_,λj k us ws n h1 h2=>e.dd j k us ws n (iu j us h1).2 (iu k ws h2).2,λj k us c h1 m q=>e.dm j k us c (iu j us h1).2 (mu k m).2 (by rw[List.getElem?_set_ne (Ne.symm (mu k m).1)]at q; exact q),λj us h=>e.db j us (iu j us h).2,e.tab⟩
 ·rcases get_set h with⟨rfl,z,l⟩|⟨ne,h⟩
  ·cases z
   exact⟨v,sX (by rw[<-e.len]; exact l),r⟩
  ·obtain⟨w,h1,h2⟩:=e.sh j u h
   exact⟨w,by rw[List.getElem?_set_ne (Ne.symm ne)]; exact h1,h2⟩
 ·rcases get_set h with⟨rfl,z,l⟩|⟨ne,h⟩
  ·cases z
  ·obtain⟨a,xs,h1,h2⟩:=e.ow j ts h
   exact⟨a,xs,by rw[List.getElem?_set_ne (Ne.symm ne)]; exact h1,h2⟩
 ·rcases get_set h with⟨rfl,z,l⟩|⟨ne,h⟩
  ·cases z
  ·obtain⟨a,xs,h1,h2⟩:=e.rf j ts h
   exact⟨a,xs,by rw[List.getElem?_set_ne (Ne.symm ne)]; exact h1,h2⟩
 ·obtain⟨n1,m1⟩:=mu j h1
  obtain⟨n2,m2⟩:=mu k h2
  rw[List.getElem?_set_ne (Ne.symm n1)]at q1
  rw[List.getElem?_set_ne (Ne.symm n2)]at q2
  exact e.dis j k a m1 m2 q1 q2
 ·obtain⟨ne,h⟩:=iu j us h
  obtain⟨c,ys,h1,d⟩:=e.dp j us h
  exact⟨c,ys,by rw[List.getElem?_set_ne (Ne.symm ne)]; exact h1,d⟩
theorem aH.addr{W:Addr->Prop}{ρ : En}{σ : St}{H:Hp}{i:Nat}{a:Addr}(e:aH t W ρ σ H)(m:Mu ρ i)(q : σ[i]?=some (some (.ref a))):W a:=by
 obtain⟨ts,h|h⟩:=m
 ·obtain⟨b,xs,h1,h2,_⟩:=e.ow i ts h
  rw[q]at h1
  cases h1
  exact h2
 ·obtain⟨b,xs,h1,h2,_⟩:=e.rf i ts h
  rw[q]at h1
  cases h1
  exact h2
theorem aH.Wc{W:Addr->Prop}{ρ : En}{σ : St}{H:Hp}{i:Nat}{a:Addr}{xs:List V}{ts:List Tr}(e0:aH t W ρ σ H)(nw:¬W a)(e:oX t W a ρ σ H)(h0:t.H0 a=none)(hB:t.B a=none)(ha:H a=some (.lst xs))(r:aF t.K (off a (aC W H)) xs ts) :
  aH t (λb=>W b\/b=a) (ρ.set i (.ow ts)) (σ.set i (some (.ref a))) H:=by
 have mu:∀j,Mu (ρ.set i (.ow ts)) j->j=i\/(j≠i/\Mu ρ j):=λj h=>by
  obtain⟨ts,h|h⟩:=h <;> rcases get_set h with⟨rfl,z,_⟩|⟨ne,h⟩
  ·exact .inl rfl
  ·exact .inr ⟨ne,ts,.inl h⟩
  ·exact .inl rfl
  ·exact .inr ⟨ne,ts,.inr h⟩
 have m:Same (off a (aC W H)) (aC (λb=>W b\/b=a) H):=λb o q=>by
  obtain⟨ne,q⟩:=oR q
  obtain⟨n,q⟩:=gF q
  rw[cQ]
  ·exact q
  ·rintro(z|z)
   ·exact n z
   ·exact ne z
 have iu:∀j us,(ρ.set i (.ow ts))[j]?=some (.dp us)->j≠i/\ρ[j]?=some (.dp us):=λj us h=>by
  rcases get_set h with⟨rfl,z,_⟩|⟨ne,h⟩
  ·cases z
  ·exact⟨ne,h⟩
 obtain⟨F,e,na⟩:=e
 refine⟨F,by rw[List.length_set,List.length_set]; exact e.len,e.zw,e.z0,e.wl,e.f0,e.n0,λj u h=>?_,λj us h=>?_,λj us h=>?_,λj k c h1 h2 q1 q2=>?_,e.pn,λj c m q=>?_,
  λj us h=>?_,λj k us ws n h1 h2=>e.dd j k us ws n (iu j us h1).2 (iu k ws h2).2,λj k us c h1 m q=>?_,λj us h=>e.db j us (iu j us h).2,e.tab⟩
 ·rcases get_set h with⟨rfl,z,l⟩|⟨ne,h⟩
  ·cases z
  ·obtain⟨w,h1,h2⟩:=e.sh j u h
   exact⟨w,by rw[List.getElem?_set_ne (Ne.symm ne)]; exact h1,h2⟩
 ·rcases get_set h with⟨rfl,z,l⟩|⟨ne,h⟩
  ·cases z
   exact⟨a,xs,sX (by rw[<-e.len]; exact l),.inr rfl,h0,ha,r.mono m⟩
  ·obtain⟨c,ys,h1,h2⟩:=e.ow j us h
   exact⟨c,ys,by rw[List.getElem?_set_ne (Ne.symm ne)]; exact h1,h2⟩
 ·rcases get_set h with⟨rfl,z,l⟩|⟨ne,h⟩
  ·cases z
  ·obtain⟨c,ys,h1,h2⟩:=e.rf j us h
   exact⟨c,ys,by rw[List.getElem?_set_ne (Ne.symm ne)]; exact h1,h2⟩
 ·have old:∀j,j≠i->Mu ρ j->(σ.set i (some (.ref a)))[j]? ≠ some (some (.ref a)):=λj ne m q=>by
   rw[List.getElem?_set_ne (Ne.symm ne)]at q
   exact nw (e0.addr m q)
  have self:∀c,(σ.set i (some (V.ref a)))[i]?=some (some (.ref c))->c=a:=λc q=>by
   rcases get_set q with⟨_,z,_⟩|⟨ne,_⟩
   ·cases z; rfl
   ·exact absurd rfl ne
  rcases mu j h1 with rfl|⟨n1,m1⟩ <;> rcases mu k h2 with rfl|⟨n2,m2⟩
  ·rfl
  ·have:=self c q1
   subst this
   exact(old k n2 m2 q2).elim
  ·have:=self c q2
   subst this
   exact(old j n1 m1 q1).elim
  ·rw[List.getElem?_set_ne (Ne.symm n1)]at q1
   rw[List.getElem?_set_ne (Ne.symm n2)]at q2
   exact e.dis j k c m1 m2 q1 q2
 ·rcases mu j m with rfl|⟨n1,m1⟩
  ·rcases get_set q with⟨_,z,_⟩|⟨ne,_⟩
   ·cases z; exact hB
   ·exact absurd rfl ne
  ·rw[List.getElem?_set_ne (Ne.symm n1)]at q
   exact e.pd j c m1 q
 ·obtain⟨ne,h⟩:=iu j us h
  obtain⟨c,ys,h1,d⟩:=e.dp j us h
  exact⟨c,ys,by rw[List.getElem?_set_ne (Ne.symm ne)]; exact h1,d⟩
 ·obtain⟨nj,hj⟩:=iu j us h1
  rcases mu k m with rfl|⟨n2,m2⟩
  ·rcases get_set q with⟨_,z,_⟩|⟨nk,_⟩
   ·cases z
    exact na j us hj
   ·exact absurd rfl nk
  ·rw[List.getElem?_set_ne (Ne.symm n2)]at q
   exact e.dm j k us c hj m2 q
theorem aH.K1{W:Addr->Prop}{ρ : En}{σ : St}{H:Hp}{a:Addr}(e:aH t W ρ σ H)(n:H a=none):t.B a=none:=by
 cases q:t.B a with
 |none=>rfl
 |some o=>rw[e.pn a o q]at n; cases n
abbrev GF:=Tr->En->Rs En
def SG(t:Tx)(g:TG)(f:GF)(js:List Nat):Prop:=∀W ρ σ H v T Q,aH t W ρ σ H->Rep t.K (aC W H) v T->(f T ρ).post (λ_=>False) (λρ'=>∀σ',aH t W ρ' σ' H->(∀k,k∉js -> σ'[k]?=σ[k]?)->Q σ' H)->g v σ H Q
def gN(i:Nat):GF:=λT ρ=>.ok (ρ.set i (.sh T))
theorem jj(i:Nat):SG t (iC i) (gN i) [i]:=λW ρ σ H v T Q e r h=>h _ (e.j4 r) λk n=>List.getElem?_set_ne (λz=>n (by rw[z]; exact List.mem_singleton.mpr rfl))
abbrev lG:=List Tr->En->Rs En
def xR(t:Tx)(g:lW)(f:lG)(js:List Nat):Prop:=∀W ρ σ H vs Ts Q,aH t W ρ σ H->aF t.K (aC W H) vs Ts->(f Ts ρ).post (λ_=>False) (λρ'=>∀σ',aH t W ρ' σ' H->(∀k,k∉js -> σ'[k]?=σ[k]?)->Q σ' H)->g vs σ H Q
def lH:lG:=λTs ρ=>match Ts with
 | []=>.ok ρ
 |_=>.bad
def fV(f:GF)(g:lG):lG:=λTs ρ=>match Ts with
 |T::r=>(f T ρ).bind λρ'=>g r ρ'
 | []=>.bad
theorem K3:xR t Ih lH []:=λW ρ σ H vs Ts Q e r h=>by
 cases r with
 |nil=>exact⟨rfl,h σ e λ_ _=>rfl⟩
 |cons _ _=>exact h.elim
theorem uZ{g:TG}{u:lW}{f:GF}{fs:lG}{js ks:List Nat}(h1:SG t g f js)(h2:xR t u fs ks):xR t (Ii g u) (fV f fs) (js++ks):=λW ρ σ H vs Ts Q e r h=>by
 cases r with
 |nil=>exact h.elim
 | @cons x T xs Ts r1 r2 =>
  refine⟨x,xs,rfl,h1 W ρ σ H x T _ e r1 (Rs.aO (Rs.aG h) λρ' h σ' e' n1=>?_)⟩
  refine h2 W ρ' σ' H xs Ts _ e' r2 (Rs.aO h λρ2 h σ2 e2 n2=>h σ2 e2 λk n=>?_)
  rw[List.mem_append,not_or]at n
  rw[n2 k n.2,n1 k n.1]
def gT(n:Nat)(f:lG):GF:=λT ρ=>match T with
 |.tup Ts=>if Ts.length=n then f Ts ρ else .bad
 |_=>.bad
theorem K4{K:FZ}(hK:t.K=aA K){n:Nat}{u:lW}{fs:lG}{js:List Nat}(h2:xR t u fs js):SG t (Ij K n u) (gT n fs) js:=λW ρ σ H v T Q e r h=>by
 cases T <;> try exact h.elim
 rename_i Ts
 dsimp only[gT]at h
 split at h
 ·rename_i c
  cases r with
  | @tup a xs _ q r =>
   have q':=(gR W H).qg q
   rw[hK]at q'
   exact⟨a,xs,rfl,q'.toK,by rw[r.length]; exact c,h2 W ρ σ H xs Ts Q e r h⟩
 ·exact h.elim
def bT(f:EF)(g:GF):SF:=λρ=>(f ρ).bind λp=>match p.1 with
 |.v T _=>(g T p.2).bind λρ'=>.ok (.nx,ρ')
 |.s _=>.bad
theorem nM{te:TE}{g:TG}{f:EF}{gf:GF}{js:List Nat}(h1:SE t te f)(h2:SG t g gf js)(ng:∀T ρ c,gf T ρ ≠ .ex c):SS t (jJ te g) (bT f gf):=λW ρ σ H D e h=>by
 refine h1 W ρ σ H _ e (Rs.aO (Rs.aG h) λp h v H1 e1 s1 v1=>?_)
 obtain⟨r,ρ1⟩:=p
 cases r with
 |s i=>exact h.elim
 |v T fr=>exact h2 W ρ1 σ H1 v T _ e1 (v1.1.rep e.wn) (Rs.aO (iV (Rs.aG h) (ng T ρ1)) λρ' h σ' e' _=>h W σ' H1 e' s1.nxt)
def o8(i:Nat)(f:EF):SF:=λρ=>(f ρ).bind λp=>match p.1 with
 |.v (.lst ts) true=>.ok (.nx,p.2.set i (.ow ts))
 |_=>.bad
theorem Cq{te:TE}{f:EF}(i:Nat)(h1:SE t te f):SS t (jJ te (iC i)) (o8 i f):=λW ρ σ H D e h=>by
 refine h1 W ρ σ H _ e (Rs.aO (Rs.aG h) λp h v H1 e1 s1 v1=>?_)
 obtain⟨r,ρ1⟩:=p
 dsimp only at h
 split at h
 ·rename_i ts
  obtain⟨⟨a,xs,us,rfl,z,n,q,rr⟩,he⟩:=v1
  cases z
  have nw:¬W a:=λw=>e.wn a w n
  refine h _ _ H1 (e1.Wc nw (he _ a rfl rfl) (e.n0 a n) (e.K1 n) q rr) λb o nb hb=>⟨?_,s1.keep b o nb hb⟩
  rintro(z|rfl)
  ·exact nb z
  ·rw[n]at hb; cases hb
 ·exact h.elim
def xT(f:EF):SF:=λρ=>(f ρ).bind λp=>.ok (.nx,p.2)
theorem K5{te:TE}{f:EF}(h1:SE t te f):SS t (wB te) (xT f):=λW ρ σ H D e h =>
 h1 W ρ σ H _ e (Rs.aO (Rs.aG h) λp h v H1 e1 s1 v1=>h W σ H1 e1 s1.nxt)
def aL(f:EF):SF:=λρ=>(f ρ).bind λp=>match p.1 with
 |.v T fr=>.ok (.rt T fr,p.2)
 |.s i=>match p.2[i]? with
  |some (.ow ts)=>.ok (.rt (.lst ts) true,p.2)
  |_=>.bad
theorem xU{W:Addr->Prop}{ρ : En}{σ : St}{H:Hp}(e:aH t W ρ σ H):Same (aC W H) (aC t.Z H):=nq (λb _ _ z=>e.zw b z) λ_ _ _ h=>h
theorem iI{te:TE}{f:EF}(h1:SE t te f):SS t (rP te) (aL f):=λW ρ σ H D e h=>by
 refine h1 W ρ σ H _ e (Rs.aO (Rs.aG h) λp h v H1 e1 s1 v1=>?_)
 obtain⟨r,ρ1⟩:=p
 cases r with
 |v T fr =>
  refine h v W σ H1 e1 ?_
  cases fr with
  |false=>exact Rep.mono (xU e1) v1.1
  |true =>
   obtain⟨a,xs,us,rfl,z,n,q,rr⟩:=v1.1
   refine⟨a,xs,us,rfl,z,e.n0 a n,q,rr.mono λb o q=>?_⟩
   obtain⟨ne,q⟩:=oR q
   rw[off_ne ne]
   exact xU e1 b o q
 |s i =>
  dsimp only at h
  split at h
  ·rename_i ts q
   obtain⟨a,xs,h1,h2,h3,h4,h5⟩:=e1.ow i ts q
   have ev : σ[i]?=some (some v):=v1.1
   rw[ev]at h1
   cases h1
   refine h _ W σ H1 e1 ⟨a,xs,ts,rfl,rfl,h3,h4,h5.mono λb o q=>?_⟩
   have ne:b≠a:=λz=>by subst z; rw[xr h2]at q; cases q
   rw[off_ne ne]
   exact xU e1 b o q
  ·exact h.elim
def bF(c:BF)(f g:SF):SF:=λρ=>(c ρ).bind λp=>if p.1=true then f p.2 else g p.2
theorem jO{tc:TT}{ta tb:TS}{c:BF}{f g:SF}(hc:ST t tc c)(ha:SS t ta f)(hb:SS t tb g):SS t (oG tc ta tb) (bF c f g):=λW ρ σ H D e h=>by
 refine hc W ρ σ H _ e (Rs.aO (Rs.aG h) λp h H1 e1 s1=>?_)
 split at h
 ·rename_i d
  refine if_pos d▸ha W p.2 σ H1 D e1 (Rs.aO h λq h=>h.back s1.nxt)
 ·rename_i d
  refine if_neg d▸hb W p.2 σ H1 D e1 (Rs.aO h λq h=>h.back s1.nxt)
def cY(i:Nat)(ρ : En):En:=match ρ[i]? with
 |some (.ow ts)=>ρ.set i (.sh (.lst ts))
 |_=>ρ
end
end L2
end
section
namespace L2
open PySem PySem.Spec PyProof.Rows
section
variable {t:Tx}
def Wd(i:Nat)(f:SF):SF:=λρ=>f (cY i ρ)
def qD(c:BF)(b:SF):Nat->SF
 | 0=>λ_=>.bad
 | n + 1=>λρ => (c ρ).bind λp=>if p.1=true then (b p.2).bind λq=>(match q.1 with
  |.nx=>qD c b n q.2
  |.ct=>qD c b n q.2
  |.bk=>.ok (.nx,q.2)
  |.rt T fr=>.ok (.rt T fr,q.2))else .ok (.nx,p.2)
def sY(fu:En->Nat)(c:BF)(b:SF):SF:=λρ=>qD c b (fu ρ) ρ
theorem Wf{tc:TT}{tb:TS}{c:BF}{b:SF}(fu:En->Nat)(hc:ST t tc c)(hb:SS t tb b):SS t (Io tc tb) (sY fu c b):=λW ρ σ H D e h=>by
 refine⟨λm σ' H'=>∃ρ' W',aH t W' ρ' σ' H'/\(qD c b m ρ').post t.EX (nJ t W' H' D),⟨fu ρ,ρ,W,e,h⟩,?_⟩
 rintro m σ1 H1 ⟨ρ1,W1,e1,h1⟩
 cases m with
 |zero=>exact h1.elim
 |succ n =>
  refine hc W1 ρ1 σ1 H1 _ e1 (Rs.aO (Rs.aG h1) λp h H2 e2 s2=>?_)
  split at h
  ·rename_i d
   rw[if_pos d]
   refine⟨λσ' H'=>∃ρ' W',aH t W' ρ' σ' H'/\(qD c b n ρ').post t.EX (nJ t W' H' D),λσ' H' q=>⟨n,Nat.lt_succ_self n,q⟩,?_⟩
   refine hb W1 p.2 σ1 H2 _ e2 (Rs.aO (Rs.aG h) λq h=>?_)
   obtain⟨fl,ρ3⟩:=q
   cases fl with
   |nx=>exact λW3 σ3 H3 e3 n3=>⟨ρ3,W3,e3,Rs.aO h λr h=>h.back (s2.nxt.trans n3)⟩
   |ct=>exact λW3 σ3 H3 e3 n3=>⟨ρ3,W3,e3,Rs.aO h λr h=>h.back (s2.nxt.trans n3)⟩
   |bk=>exact λW3 σ3 H3 e3 n3=>h W3 σ3 H3 e3 (s2.nxt.trans n3)
   |rt T fr=>exact h
  ·rename_i d
   rw[if_neg d]
   exact h W1 σ1 H2 e2 s2.nxt
def sZ(K:FZ)(W:Addr->Prop)(H:Hp)(J:It)(us:List Tr):Prop:=∀W' H',Same (aC W H) (aC W' H')->(∀b,W' b->Lt H' b)->∀i,(i=us.length->J.stop i H')/\∀u,us[i]?=some u->J.go i H'/\∀x gj,J.rR i H' x gj->Same H' gj/\Rep K (aC W' gj) x u
abbrev IF:=En->Rs (List Tr × En)
def SI(t:Tx)(wi:TI)(f:IF):Prop:=∀W ρ σ H R,aH t W ρ σ H->(f ρ).post t.EX (λp=>∀J H',aH t W p.2 σ H'->bA W H H'->sZ t.K W H' J p.1->R J H')->wi σ H R
def gG(g:GF)(b:SF):List Tr->SF
 | []=>λρ=>.ok (.nx,ρ)
 | u :: us=>λρ => (g u ρ).bind λρ1=>(b ρ1).bind λq=>(match q.1 with
  |.nx=>gG g b us q.2
  |.ct=>gG g b us q.2
  |.bk=>.ok (.nx,q.2)
  |.rt T fr=>.ok (.rt T fr,q.2))
def jD(fi:IF)(g:GF)(b:SF):SF:=λρ=>(fi ρ).bind λp=>gG g b p.1 p.2
theorem K6{wi:TI}{g:TG}{tb:TS}{fi:IF}{gf:GF}{b:SF}{js:List Nat}(hi:SI t wi fi)(hg:SG t g gf js)(ng:∀T ρ c,gf T ρ ≠ .ex c)(hb:SS t tb b):SS t (Iv wi g tb) (jD fi gf b):=λW ρ σ H D e h=>by
 refine hi W ρ σ H _ e (Rs.aO (Rs.aG h) λp h J H1 e1 s1 it=>?_)
 obtain⟨us,ρ1⟩:=p
 dsimp only at h it e1
 refine⟨λi m σ' H'=>m=us.length-i/\i<=us.length/\∃ρ' W',aH t W' ρ' σ' H'/\gw W H1 W' H'/\(gG gf b (us.drop i) ρ').post t.EX (nJ t W' H' D),⟨us.length,by simp,Nat.zero_le _,ρ1,W,e1,gw.refl _ _,by rw[List.drop_zero]; exact Rs.aO h λr h=>h.back s1.nxt⟩,?_⟩
 rintro i m σ2 H2 ⟨rfl,hi,ρ2,W2,e2,n2,h2⟩
 have q:=it W2 H2 n2.same e2.wl i
 by_cases hlt:i<us.length
 ·rw[List.drop_eq_getElem_cons hlt]at h2
  obtain⟨go,y⟩:=q.2 us[i] (by simp[hlt])
  refine .inr ⟨go,λσ' H'=>∃ρ' W',aH t W' ρ' σ' H'/\gw W H1 W' H'/\(gG gf b (us.drop (i+1)) ρ').post t.EX (nJ t W' H' D),λσ' H' z=>⟨us.length-(i+1),by omega,rfl,hlt,z⟩,λx H3 yl=>?_⟩
  obtain⟨s3,r3⟩:=y x H3 yl
  have e3:=e2.grow s3
  have n3:gw W H1 W2 H3:=n2.trans (bA.of s3).nxt
  refine hg W2 ρ2 σ2 H3 x us[i] _ e3 r3 (Rs.aO (iV (Rs.aG h2) (ng _ _)) λρ4 h σ4 e4 _=>?_)
  refine hb W2 ρ4 σ4 H3 _ e4 (Rs.aO (Rs.aG h) λr h=>?_)
  obtain⟨fl,ρ5⟩:=r
  cases fl with
  |nx=>exact λW5 σ5 H5 e5 n5=>⟨ρ5,W5,e5,n3.trans n5,Rs.aO h λr h=>h.back ((bA.of s3).nxt.trans n5)⟩
  |ct=>exact λW5 σ5 H5 e5 n5=>⟨ρ5,W5,e5,n3.trans n5,Rs.aO h λr h=>h.back ((bA.of s3).nxt.trans n5)⟩
  |bk=>exact λW5 σ5 H5 e5 n5=>h W5 σ5 H5 e5 ((bA.of s3).nxt.trans n5)
  |rt T fr=>exact h
 ·have z:i=us.length:=by omega
  subst z
  rw[List.drop_length]at h2
  exact .inl ⟨q.1 rfl,h2 W2 σ2 H2 e2 (gw.refl _ _)⟩
def Cr(K:FZ)(tl:TE):TI:=λσ H R=>Ir K tl σ H R\/Iu K tl σ H R
theorem xV{X:Cx}{tg l:Expr}{tl:TE}(hl:PE X l tl):PI X tg l (Cr X.K tl):=λpins s σ H R I h=>by
 rcases h with h|h
 ·exact Rq hl pins s σ H R I h
 ·exact Rr hl pins s σ H R I h
def fW:Rv->Rs (List Tr × Bool)
 |.v (.lst ts) _=>.ok (ts,true)
 |.v (.tup ts) _=>.ok (ts,false)
 |_=>.bad
def jP(f:EF):IF:=λρ=>(f ρ).bind λp=>(fW p.1).bind λz=>.ok (z.1,p.2)
theorem Wg{K:FZ}{W:Addr->Prop}{H:Hp}{a:Addr}{xs:List V}{us:List Tr}(q:bG (aA K) (aC W H) a xs)(r:aF (aA K) (aC W H) xs us):sZ (aA K) W H (Aa K a) us:=λW' H' m hw i=>by
 have q':bG K H' a xs:=((gR W' H').seq (m.seq q)).toK
 refine⟨λz=>⟨xs,q',by rw[r.length]; omega⟩,λu hu=>?_⟩
 obtain⟨x,hx,rx⟩:=r.nC hu
 refine⟨⟨xs,x,q',hx⟩,λy gj yl=>?_⟩
 obtain⟨rfl,z⟩:=yl
 have:=z xs q'
 rw[hx]at this
 cases this
 exact⟨Same.refl _,rx.mono m⟩
theorem Wh{K:FZ}{W:Addr->Prop}{H:Hp}{a:Addr}{xs:List V}{us:List Tr}(q:cj (aA K) (aC W H) a xs)(r:aF (aA K) (aC W H) xs us):sZ (aA K) W H (Ab K a) us:=λW' H' m hw i=>by
 have q':cj K H' a xs:=((gR W' H').qg (m.qg q)).toK
 refine⟨λz=>⟨xs,q',by rw[r.length]; omega⟩,λu hu=>?_⟩
 obtain⟨x,hx,rx⟩:=r.nC hu
 refine⟨⟨xs,x,q',hx⟩,λy gj yl=>?_⟩
 obtain⟨rfl,z⟩:=yl
 have:=z xs q'
 rw[hx]at this
 cases this
 exact⟨Same.refl _,rx.mono m⟩
theorem Wi{K:FZ}(hK:t.K=aA K){tl:TE}{f:EF}(h1:SE t tl f):SI t (Cr K tl) (jP f):=λW ρ σ H R e h=>by
 have h:=Rs.aG h
 have key:∀b:Bool,(f ρ).post t.EX (λp=>∃us,fW p.1=.ok (us,b)/\∀J H',aH t W p.2 σ H'->bA W H H'->sZ t.K W H' J us->R J H')->Cr K tl σ H R:=λb h=>by
  cases b with
  |true =>
   refine .inl (h1 W ρ σ H _ e (Rs.aO h λp h v H1 e1 s1 v1=>?_))
   obtain⟨us,q,h⟩:=h
   obtain⟨r,ρ1⟩:=p
   cases r with
   |s i=>cases q
   |v T fr =>
    cases T <;> cases q
    have rr:=v1.1.rep e.wn
    cases rr with
    | @lst a xs _ q r =>
     refine⟨a,rfl,⟨xs,?_⟩,h _ H1 e1 s1 ?_⟩
     ·rw[hK]at q
      exact((gR _ _).seq q).toK
     ·rw[hK]at q r ⊢
      exact Wg q r
  |false =>
   refine .inr (h1 W ρ σ H _ e (Rs.aO h λp h v H1 e1 s1 v1=>?_))
   obtain⟨us,q,h⟩:=h
   obtain⟨r,ρ1⟩:=p
   cases r with
   |s i=>cases q
   |v T fr =>
    cases T <;> cases q
    have rr:=v1.1.rep e.wn
    cases rr with
    | @tup a xs _ q r =>
     refine⟨a,rfl,⟨xs,?_⟩,h _ H1 e1 s1 ?_⟩
     ·rw[hK]at q
      exact((gR _ _).qg q).toK
     ·rw[hK]at q r ⊢
      exact Wh q r
 cases k:f ρ with
 |bad=>rw[k]at h; exact h.elim
 |ex c =>
  refine key true ?_
  rw[k]at h ⊢
  exact h
 |ok p =>
  rw[k]at h
  have h:((fW p.1).bind _).post _ _:=h
  cases k2:fW p.1 with
  |bad=>rw[k2]at h; exact h.elim
  |ex c =>
   exfalso
   revert k2
   unfold fW
   split <;> (intro z; cases z)
  |ok z =>
   rw[k2]at h
   refine key z.2 ?_
   rw[k]
   exact⟨z.1,k2,h⟩
def upTo(lo:Int):Nat->List Tr
 | 0=>[]
 |n+1=>.int lo::upTo (lo+1) n
theorem u5(lo:Int):∀n,(upTo lo n).length=n:=λn=>by
 induction n generalizing lo with
 |zero=>rfl
 |succ n ih=>rw[upTo,List.length_cons,ih]
theorem Wj{lo:Int}{n i:Nat}{u:Tr}(h:(upTo lo n)[i]?=some u):i<n/\u=.int (lo+i):=by
 induction n generalizing lo i with
 |zero=>simp[upTo]at h
 |succ n ih =>
  rw[upTo]at h
  cases i with
  |zero =>
   simp at h
   subst h
   exact⟨Nat.zero_lt_succ _,by simp⟩
  |succ i =>
   obtain⟨h1,h2⟩:=ih (lo:=lo+1) (i:=i) (by simpa using h)
   refine⟨Nat.succ_lt_succ h1,h2.trans ?_⟩
   congr 1
   omega
theorem Wk{K:FZ}{W:Addr->Prop}{H:Hp}(lo:Int)(n:Nat):sZ K W H (wG lo n) (upTo lo n):=λW' H' m hw i=>by
 refine⟨λz=>?_,λu hu=>?_⟩
 ·rw[u5]at z
  exact Nat.le_of_eq z.symm
 ·obtain⟨h1,rfl⟩:=Wj hu
  refine⟨h1,λx gj yl=>?_⟩
  obtain⟨rfl,rfl⟩:=yl
  exact⟨Same.refl _,.int _⟩
def okR(i:Int):Bool:=decide (-1000000<=i)&&decide (i<=1000000)
def j5(fa:AF):IF:=λρ=>(fa ρ).bind λp=>(drs p.2 p.1).bind λas=>match as with
 | [.int j]=>if okR j=true then .ok (upTo 0 j.toNat,p.2)else .bad
 |_=>.bad
theorem K7{ta:TA}{fa:AF}(ha:SA t ta fa):SI t (Ac ta) (j5 fa):=λW ρ σ H R e h=>by
 refine ha W ρ σ H _ e (Rs.aO (Rs.aG h) λp h vs H1 e1 s1 v1=>?_)
 obtain⟨as,k1,h⟩:=cA (Rs.aG h) (o7 _ _)
 have r:=uV e1 e.wn v1 k1
 split at h
 ·rename_i j
  split at h
  ·rename_i c
   unfold okR at c
   rw[Bool.and_eq_true]at c
   have c1:=of_decide_eq_true c.1
   have c2:=of_decide_eq_true c.2
   cases r with
   |cons h1 r1 =>
    cases r1
    rw[h1.int]
    exact⟨j,rfl,by omega,by omega,h _ H1 e1 s1 (Wk 0 _)⟩
  ·exact h.elim
 ·exact h.elim
def Wl(fa:AF):IF:=λρ=>(fa ρ).bind λp=>(drs p.2 p.1).bind λas=>match as with
 | [.int i,.int j]=>if okR i=true/\okR j=true then .ok (upTo i (j-i).toNat,p.2)else .bad
 |_=>.bad
def con(ρ : En)(i:Nat):Rs (List Tr):=match ρ[i]? with
 |some (.ow ts)=>.ok ts
 |some (.rf ts)=>.ok ts
 |_=>.bad
theorem Cu(ρ : En)(i:Nat)(c:Str):con ρ i ≠ .ex c:=by
 unfold con
 split <;> (intro z; cases z)
def bO(i:Nat)(us:List Tr)(ρ : En):En:=match ρ[i]? with
 |some (.ow _)=>ρ.set i (.ow us)
 |some (.rf _)=>ρ.set i (.rf us)
 |_=>ρ
theorem aH.con{W:Addr->Prop}{ρ : En}{σ : St}{H:Hp}{i:Nat}{ts:List Tr}(e:aH t W ρ σ H)(q:con ρ i=.ok ts):Mu ρ i/\∃a xs,σ[i]?=some (some (.ref a))/\W a/\H a=some (.lst xs)/\aF t.K (aC W H) xs ts/\(∀o,t.H0 a=some o->t.R a):=by
 unfold L2.con at q
 split at q
 ·rename_i us h
  cases q
  obtain⟨a,xs,h1,h2,h3,h4,h5⟩:=e.ow i ts h
  exact⟨⟨ts,.inl h⟩,a,xs,h1,h2,h4,h5,λo z=>by rw[h3]at z; cases z⟩
 ·rename_i us h
  cases q
  obtain⟨a,xs,h1,h2,h3,h4,h5⟩:=e.rf i ts h
  exact⟨⟨ts,.inr h⟩,a,xs,h1,h2,h4,h5,λo z=>h3⟩
 ·cases q
theorem tu{ρ : En}{i j:Nat}{us:List Tr}(h:Mu (bO i us ρ) j):Mu ρ j:=by
 unfold bO at h
 split at h
 ·rename_i ws q
  obtain⟨ts,h|h⟩:=h <;> rcases get_set h with⟨rfl,z,_⟩|⟨ne,h⟩
  ·exact⟨_,.inl q⟩
  ·exact⟨_,.inl h⟩
  ·exact⟨_,.inl q⟩
  ·exact⟨_,.inr h⟩
 ·rename_i ws q
  obtain⟨ts,h|h⟩:=h <;> rcases get_set h with⟨rfl,z,_⟩|⟨ne,h⟩
  ·exact⟨_,.inr q⟩
  ·exact⟨_,.inl h⟩
  ·exact⟨_,.inr q⟩
  ·exact⟨_,.inr h⟩
 ·exact h
theorem Cv{ρ : En}{i:Nat}{us:List Tr}:(bO i us ρ).length = ρ.length:=by
 unfold bO
 split
 ·rw[List.length_set]
 ·rw[List.length_set]
 ·rfl
theorem qF{ρ : En}{i j:Nat}{us:List Tr}{s:Sl}(h:(bO i us ρ)[j]?=some s):(j≠i/\ρ[j]?=some s)\/(j=i/\((∃ts,ρ[i]?=some (.ow ts)/\s=.ow us)\/(∃ts,ρ[i]?=some (.rf ts)/\s=.rf us)\/(¬Mu ρ i/\ρ[i]?=some s))):=by
 unfold bO at h
 split at h
 ·rename_i ws q
  rcases get_set h with⟨rfl,z,_⟩|⟨ne,h⟩
  ·exact .inr ⟨rfl,.inl ⟨ws,q,z⟩⟩
  ·exact .inl ⟨ne,h⟩
 ·rename_i ws q
  rcases get_set h with⟨rfl,z,_⟩|⟨ne,h⟩
  ·exact .inr ⟨rfl,.inr (.inl ⟨ws,q,z⟩)⟩
  ·exact .inl ⟨ne,h⟩
 ·rename_i n1 n2
  by_cases e:j=i
  ·subst e
   refine .inr ⟨rfl,.inr (.inr ⟨?_,h⟩)⟩
   rintro⟨ts,z|z⟩
   ·exact n1 ts z
   ·exact n2 ts z
  ·exact .inl ⟨e,h⟩
theorem o9{ρ : En}{i j:Nat}{us ws:List Tr}(h:(bO i us ρ)[j]?=some (.dp ws)) : ρ[j]?=some (.dp ws):=by
 rcases qF h with⟨_,h⟩|⟨rfl,⟨_,_,z⟩|⟨_,_,z⟩|⟨_,h⟩⟩
 ·exact h
 ·cases z
 ·cases z
 ·exact h
theorem DR.lst{K:FZ}{G H:Hp}:∀{xs:List V} {ts:List Tr} {bs:List Addr},DR K G H xs ts bs->∀b∈bs,∃ys,H b=some (.lst ys)
 |_,_,_,.nil,_,h=>by cases h
 |_,_,_,.cl _ _ r,b,h=>DR.lst r b h
 |_,_,_,.rw q _ r,b,h=>by
  rcases List.mem_cons.mp h with rfl|h
  ·exact⟨_,q⟩
  ·exact DR.lst r b h
theorem oV.lst{t:Tx}{W:Addr->Prop}{H:Hp}{a:Addr}{xs:List V}{ts:List Tr}{fp:List Addr}(d:oV t W H a xs ts fp):∀b∈fp,∃ys,H b=some (.lst ys):=λb hb=>by
 obtain⟨bs,e,_,_,ha,r⟩:=d
 rw[e]at hb
 rcases List.mem_cons.mp hb with rfl|hb
 ·exact⟨_,ha⟩
 ·exact r.lst b hb
theorem oV.nt{t:Tx}{K:FZ}{W:Addr->Prop}{H:Hp}{a:Addr}{xs:List V}{ts:List Tr}{fp:List Addr}(d:oV t W H a xs ts fp)(tb:cX K H){b:Addr}(z:Tb K b)(hb:b∈fp):False:=by
 obtain⟨ys,e⟩:=d.lst b hb
 exact tb.ne z e rfl
theorem aH.K8{W:Addr->Prop}{ρ : En}{σ : St}{H:Hp}{i:Nat}{a:Addr}(e:aH t W ρ σ H)(m:Mu ρ i)(q : σ[i]?=some (some (.ref a))):∃xs,H a=some (.lst xs):=by
 obtain⟨ts,h|h⟩:=m
 ·obtain⟨b,xs,h1,_,_,h4,_⟩:=e.ow i ts h
  rw[q]at h1
  cases h1
  exact⟨xs,h4⟩
 ·obtain⟨b,xs,h1,_,_,h4,_⟩:=e.rf i ts h
  rw[q]at h1
  cases h1
  exact⟨xs,h4⟩
theorem EOF.move{W W':Addr->Prop}{ρ : En}{σ : St}{H H':Hp}{i:Nat}{a:Addr}{xs:List V}{us:List Tr}{F:Nat->List Addr}(e:EOF t W ρ σ H F)(mi:Mu ρ i)(hi : σ[i]?=some (some (.ref a)))(m:Same (aC W H) (aC W' H'))(sub:∀b,W b->W' b)(wl:∀b,W' b->Lt H' b)
  (tb:cX t.K H') (fr:∀b o,H b=some o->b≠a->¬Tb t.K b->H' b=some o) (dom:∀b,H' b=none->H b=none) (h0:∀o,t.H0 a=some o->t.R a) (ha:H' a=some (.lst xs)) (r:aF t.K (aC W' H') xs us):EOF t W' (bO i us ρ) σ H' F:=by
 have ne:∀j c,j≠i->Mu ρ j -> σ[j]?=some (some (.ref c))->c≠a:=λj c n mj q z=>by
  subst z
  exact n (e.dis j i c mj mi q hi)
 have nt:∀{c:Addr} {ys:List V},H c=some (.lst ys)->¬Tb t.K c:=λq z=>e.tab.ok.ne z q rfl
 refine⟨by rw[Cv]; exact e.len,λb z=>sub b (e.zw b z),e.z0,wl,λb o h n=>?_,λb h=>e.n0 b (dom b h),λj u h=>?_,λj ts h=>?_,λj ts h=>?_,λj k c h1 h2=>e.dis j k c (tu h1) (tu h2),λb o h=>fr b o (e.pn b o h) (λz=>by subst z; rw[e.pd i b mi hi]at h; cases h) (λz=>by rw[e.tab.B b z]at h; cases h),λj c m q=>e.pd j c (tu m) q,λj ws h=>?_,λj k ws zs n h1 h2=>e.dd j k ws zs n (o9 h1) (o9 h2),λj k ws c h1 m q=>e.dm j k ws c (o9 h1) (tu m) q,λj ws h=>e.db j ws (o9 h),⟨tb,λb z=>sub b (e.tab.w b z),e.tab.r,e.tab.B⟩⟩
 ·refine fr b o (e.f0 b o h n) (λz=>?_) λz=>n (e.tab.r b z)
  subst z
  exact n (h0 o h)
 ·rcases qF h with⟨n,h⟩|⟨rfl,⟨ts,q,z⟩|⟨ts,q,z⟩|⟨nm,h⟩⟩
  ·obtain⟨w,h1,h2⟩:=e.sh j u h
   exact⟨w,h1,h2.mono m⟩
  ·cases z
  ·cases z
  ·exact(nm mi).elim
 ·rcases qF h with⟨n,h⟩|⟨rfl,⟨ts',q,z⟩|⟨ts',q,z⟩|⟨nm,h⟩⟩
  ·obtain⟨c,ys,h1,h2,h3,h4,h5⟩:=e.ow j ts h
   exact⟨c,ys,h1,sub c h2,h3,fr c _ h4 (ne j c n ⟨ts,.inl h⟩ h1) (nt h4),h5.mono m⟩
  ·cases z
   obtain⟨c,ys,h1,h2,h3,h4,h5⟩:=e.ow j ts' q
   rw[hi]at h1
   cases h1
   exact⟨a,xs,hi,sub a h2,h3,ha,r⟩
  ·cases z
  ·exact(nm mi).elim
 ·rcases qF h with⟨n,h⟩|⟨rfl,⟨ts',q,z⟩|⟨ts',q,z⟩|⟨nm,h⟩⟩
  ·obtain⟨c,ys,h1,h2,h3,h4,h5⟩:=e.rf j ts h
   exact⟨c,ys,h1,sub c h2,h3,fr c _ h4 (ne j c n ⟨ts,.inr h⟩ h1) (nt h4),h5.mono m⟩
  ·cases z
  ·cases z
   obtain⟨c,ys,h1,h2,h3,h4,h5⟩:=e.rf j ts' q
   rw[hi]at h1
   cases h1
   exact⟨a,xs,hi,sub a h2,h3,ha,r⟩
  ·exact(nm mi).elim
 ·obtain⟨c,ys,h1,d⟩:=e.dp j ws (o9 h)
  exact⟨c,ys,h1,d.move rfl rfl m (λb hb=>sub b (by obtain⟨_,_,_,ww,_⟩:=d; exact(ww b hb).1)) λb o hb q=>fr b o q (λz=>by subst z; exact e.dm j i ws b (o9 h) mi hi hb) λz=>d.nt e.tab.ok z hb⟩
theorem aH.move{W W':Addr->Prop}{ρ : En}{σ : St}{H H':Hp}{i:Nat}{a:Addr}{xs:List V}{us:List Tr}(e:aH t W ρ σ H)(mi:Mu ρ i)(hi : σ[i]?=some (some (.ref a)))(m:Same (aC W H) (aC W' H'))(sub:∀b,W b->W' b)(wl:∀b,W' b->Lt H' b)
  (tb:cX t.K H') (fr:∀b o,H b=some o->b≠a->¬Tb t.K b->H' b=some o) (dom:∀b,H' b=none->H b=none) (h0:∀o,t.H0 a=some o->t.R a) (ha:H' a=some (.lst xs)) (r:aF t.K (aC W' H') xs us):aH t W' (bO i us ρ) σ H':=by
 obtain⟨F,e⟩:=e
 exact⟨F,e.move mi hi m sub wl tb fr dom h0 ha r⟩
theorem aH.put{W:Addr->Prop}{ρ : En}{σ : St}{H:Hp}{i:Nat}{a:Addr}{xs:List V}{us:List Tr}(e:aH t W ρ σ H)(mi:Mu ρ i)(hi : σ[i]?=some (some (.ref a)))(h0:∀o,t.H0 a=some o->t.R a)(r:aF t.K (aC W H) xs us):aH t W (bO i us ρ) σ (upd H a (.lst xs))/\bA W H (upd H a (.lst xs)):=by
 have w:=e.addr mi hi
 obtain⟨zs,hz⟩:=e.K8 mi hi
 refine⟨e.move mi hi (by rw[qm w]; exact Same.refl _) (λ_ h=>h) (λb z=>?_) (e.tab.ok.upd hz) (λb o h n _=>by rw[bQ n]; exact h) (λb h=>?_) h0 fD (by rw[qm w]; exact r),⟨λb o n h=>?_,λb h=>?_⟩⟩
 ·by_cases q:b=a
  ·subst q; exact .inl ⟨xs,fD⟩
  ·unfold Lt; rw[bQ q]; exact e.wl b z
 ·by_cases q:b=a
  ·subst q; rw[fD]at h; cases h
  ·rw[bQ q]at h; exact h
 ·rw[bQ (λz=>n (by rw[z]; exact w))]; exact h
 ·by_cases q:b=a
  ·subst q; rw[fD]at h; cases h
  ·rw[bQ q]at h; exact h
abbrev GM:=List Tr->List Tr->Rs (List Tr × Tr)
def Wm(i:Nat)(m:GM)(fa:AF):EF:=λρ=>(con ρ i).bind λ_=>(fa ρ).bind λp=>(cls p.1).bind λas=>(con p.2 i).bind λts=>(m ts as).bind λz=>.ok (.v z.2 false,bO i z.1 p.2)
def Wn(i:Nat)(m:GM):EF:=λρ=>(con ρ i).bind λts=>(m ts []).bind λz=>.ok (.v z.2 false,bO i z.1 ρ)
theorem aF.set{K:FZ}{H:Hp}{v:V}{T:Tr}(h:Rep K H v T):∀{xs:List V} {ts:List Tr} (j:Nat),aF K H xs ts->aF K H (xs.set j v) (ts.set j T)
 |_,_,_,.nil=>.nil
 |_,_,0,.cons _ r=>.cons h r
 |_,_,j+1,.cons h1 r=>.cons h1 (aF.set h j r)
noncomputable def Cw(i:Nat)(fk fe:EF):SF:=λρ=>(fe ρ).bind λp=>(cls [p.1]).bind λTs=>(con p.2 i).bind λ_=>(fk p.2).bind λq=>(dr q.2 q.1).bind λkT=>(dO kT).bind λk=>(con q.2 i).bind λts=>match Ts,fG ts.length k with
 | [T],some j=>.ok (.nx,bO i (ts.set j T) q.2)
 |_,_=>.bad
theorem Wq{te ti:TE}{fk fe:EF}(i:Nat)(he:SE t te fe)(hk:SE t ti fk):SS t (jJ te (zX (mZ i) ti Aw)) (Cw i fk fe):=λW ρ σ H D e h=>by
 refine he W ρ σ H _ e (Rs.aO (Rs.aG h) λp h v H1 e1 s1 v1=>?_)
 obtain⟨Ts,k1,h⟩:=cA (Rs.aG h) (uW _)
 obtain⟨us,k2,h⟩:=cA (Rs.aG h) (Cu _ _)
 obtain⟨_,a,xs,hi,_,hx,_⟩:=e1.con k2
 refine⟨_,hi,hk W p.2 σ H1 _ e1 (Rs.aO (Rs.aG h) λq h w H2 e2 s2 v2=>?_)⟩
 obtain⟨kT,k3,h⟩:=cA (Rs.aG h) (gY _ _)
 obtain⟨k,k4,h⟩:=cA (Rs.aG h) (KJ _)
 obtain⟨ts,k5,h⟩:=cA (Rs.aG h) (Cu _ _)
 obtain⟨mi,a',ys,hi',wa,hy,ry,h0⟩:=e2.con k5
 rw[hi]at hi'
 cases hi'
 have kk:∃T j,Ts=[T]/\fG ts.length k=some j/\nJ t W H D (.nx,bO i (ts.set j T) q.2):=by
  cases Ts with
  |nil=>exact h.elim
  |cons T r =>
   cases r with
   |cons _ _=>exact h.elim
   |nil =>
    cases kj:fG ts.length k with
    |none=>rw[kj]at h; exact h.elim
    |some j=>rw[kj]at h; exact⟨T,j,rfl,rfl,h⟩
 obtain⟨T,j,rfl,k6,h⟩:=kk
 ·have rv:Rep t.K (aC W H2) v T:=by
   have r1:=uX (vs:=[v]) e.wn (.cons v1.1 .nil) k1
   cases r1 with
   |cons r1 _=>exact r1.mono s2.off
  obtain⟨e3,s3⟩:=e2.put mi hi h0 (ry.set rv j)
  refine⟨a,ys,k,j,rfl,KN (gU e2 e1.wn v2.1 k3) k4,hy,by rw[ry.length]; exact k6,h W σ _ e3 ?_⟩
  exact((s1.trans s2).trans s3).nxt
def Wr(i:Nat)(p:Int->Int->Int)(f:EF):SF:=λρ=>match ρ[i]? with
 |some (.sh (.int x))=>(f ρ).bind λq=>(dr q.2 q.1).bind λyT=>(dO yT).bind λy=>.ok (.nx,q.2.set i (.sh (.int (p x y))))
 |_=>.bad
def u6(i j:Nat)(fa:AF):SF:=λρ=>(fa ρ).bind λp=>(cls p.1).bind λTs=>match Ts with
 | [T,U]=>.ok (.nx,(p.2.set i (.sh T)).set j (.sh U))
 |_=>.bad
theorem Ws{ta:TA}{fa:AF}(i j:Nat)(ha:SA t ta fa):SS t (Il i j ta) (u6 i j fa):=λW ρ σ H D e h=>by
 refine ha W ρ σ H _ e (Rs.aO (Rs.aG h) λp h vs H1 e1 s1 v1=>?_)
 obtain⟨Ts,k1,h⟩:=cA (Rs.aG h) (uW _)
 have r:=uX e.wn v1 k1
 split at h
 ·cases r with
  |cons h1 r1 =>
   cases r1 with
   |cons h2 r2 =>
    cases r2
    exact⟨_,_,rfl,h W _ H1 ((e1.j4 h1).j4 h2) s1.nxt⟩
 ·exact h.elim
def u9(c:Str)(f:EF):SF:=λρ=>(f ρ).bind λ_=>.ex c
def F0(t:Tx)(H':Hp):Prop:=(∀b o,t.H0 b=some o->¬t.R b->H' b=some o)/\cX t.K H'
theorem Cy{E:XK}{C:Addr}{te:TE}{f:EF}{c:Str}(hx:∀H',F0 t H'->t.EX c->E (.ref C) none H')(he:SE t te f):SS t (Ke E C te) (u9 c f):=λW ρ σ H D e h =>
 he W ρ σ H _ e (Rs.aO (Rs.aG h) λp h v H1 e1 s1 v1=>⟨rfl,hx H1 ⟨e1.f0,e1.tab.ok⟩ h⟩)
end
end L2
end
section
namespace L2
open PySem PySem.Spec PyProof.Rows
mutual
noncomputable def jk:Tr->Bool
 |.tup ts=>dU ts
 |.lst _=>false
 |_=>true
noncomputable def dU:List Tr->Bool
 | []=>true
 |t::r=>jk t&&dU r
end
def xW(G G':Hp):Prop:=(∀b xs,(G b=some (.tup xs)->G' b=some (.tup xs))/\∀o,G b=some (.cY o (.tup xs))->G' b=some (.cY o (.tup xs)))/\∀b C,G b=some (uJ b C)->G' b=some (uJ b C)
mutual
theorem Rep.flat{K:FZ}{G G':Hp}(m:xW G G'):∀{v:V} {T:Tr},Rep K G v T->jk T=true->Rep K G' v T
 |_,_,.non,_=>.non
 |_,_,.bl b,_=>.bl b
 |_,_,.int i,_=>.int i
 |_,_,.str x,_=>.str x
 |_,_,.tup h r,n=>by
  refine .tup ?_ (aF.flat m r (by unfold jk at n; exact n))
  rcases h with(h|⟨o,h⟩)|h
  ·exact .inl (.inl ((m.1 _ _).1 h))
  ·exact .inl (.inr ⟨o,(m.1 _ _).2 o h⟩)
  ·exact .inr h
 |_,_,.lst h r,n=>by unfold jk at n; cases n
 |_,_,.bY h k n,_=>.bY (m.2 _ _ h) k n
theorem aF.flat{K:FZ}{G G':Hp}(m:xW G G'):∀{v:List V} {T:List Tr},aF K G v T->dU T=true->aF K G' v T
 |_,_,.nil,_=>.nil
 |_,_,.cons h r,n=>by
  unfold dU at n
  rw[Bool.and_eq_true]at n
  exact .cons (Rep.flat m h n.1) (aF.flat m r n.2)
end
theorem Cz{W W':Addr->Prop}{H:Hp}(wl:∀b,W' b->Lt H b):xW (aC W H) (aC W' H):=by
 have key:∀b o,aC W H b=some o->(∀ys,o ≠ .lst ys)->(∀ys,o ≠ .dj ys)->aC W' H b=some o:=λb o h n n'=>by
  obtain⟨_,h⟩:=gF h
  rw[cQ]
  ·exact h
  ·intro w
   rcases wl b w with⟨ys,e⟩|⟨ys,e⟩ <;> (rw[h]at e; cases e)
   ·exact n ys rfl
   ·exact n' ys rfl
 exact⟨λb xs=>⟨λh=>key _ _ h (λys z=>by cases z) (λys z=>by cases z),λo h=>key _ _ h (λys z=>by cases z) (λys z=>by cases z)⟩,λb C h=>key _ _ h (λys z=>by cases z) (λys z=>by cases z)⟩
theorem Wt{a:Addr}{W:Addr->Prop}{H:Hp}{xs:List V}(wl:∀b,W b->Lt H b)(ha:H a=some (.lst xs))(G:Hp)(hG:∀b o,G b=some o->H b=some o):xW G (off a (aC W H)):=by
 have key:∀b o,G b=some o->(∀ys,o ≠ .lst ys)->(∀ys,o ≠ .dj ys)->off a (aC W H) b=some o:=λb o h n n'=>by
  have h:=hG b o h
  rw[off_ne,cQ]
  ·exact h
  ·intro w
   rcases wl b w with⟨ys,e⟩|⟨ys,e⟩ <;> (rw[h]at e; cases e)
   ·exact n ys rfl
   ·exact n' ys rfl
  ·rintro rfl
   rw[h]at ha
   cases ha
   exact n _ rfl
 exact⟨λb xs=>⟨λh=>key _ _ h (λys z=>by cases z) (λys z=>by cases z),λo h=>key _ _ h (λys z=>by cases z) (λys z=>by cases z)⟩,λb C h=>key _ _ h (λys z=>by cases z) (λys z=>by cases z)⟩
def pq(K:FZ)(Z:Addr->Prop)(H H':Hp)(v:V)(T:Tr):Bool->Prop
 |false=>Rep K (aC Z H') v T
 |true=>∃a xs ts,v=.ref a/\T=.lst ts/\H a=none/\H' a=some (.lst xs)/\aF K (off a (aC Z H')) xs ts
def gH(K:FZ)(H H':Hp):Prop:=(∀b o,H b=some o->¬Tb K b->H' b=some o)/\cX K H'
theorem gH.dom{K:FZ}{H H':Hp}(s:gH K H H'):∀b,H' b=none->H b=none:=λb h=>by
 cases q:H b with
 |none=>rfl
 |some o =>
  by_cases z:Tb K b
  ·obtain⟨ps,e⟩:=s.2.dj z
   rw[h]at e
   cases e
  ·rw[s.1 b o q z]at h
   cases h
def xX(G G':Hp):Prop:=∀b o,(∀ps,o ≠ .dj ps)->G b=some o->G' b=some o
theorem Rd.jQ{G G':Hp}(m:xX G G'){a:Addr}{u:HO}(n:∀ps,u ≠ .dj ps)(h:Rd G a u):Rd G' a u:=by
 rcases h with h|⟨o,h⟩
 ·exact .inl (m _ _ n h)
 ·exact .inr ⟨o,m _ _ (λ_ z=>by cases z) h⟩
mutual
theorem Rep.jQ{K:FZ}{G G':Hp}(m:xX G G'):∀{v:V} {T:Tr},Rep K G v T->Rep K G' v T
 |_,_,.non=>.non
 |_,_,.bl b=>.bl b
 |_,_,.int i=>.int i
 |_,_,.str x=>.str x
 |_,_,.tup h r=>by
  refine .tup ?_ (aF.jQ m r)
  rcases h with h|h
  ·exact .inl (Rd.jQ m (λ_ z=>by cases z) h)
  ·exact .inr h
 |_,_,.lst h r=>by
  refine .lst ?_ (aF.jQ m r)
  rcases h with h|h
  ·exact .inl (Rd.jQ m (λ_ z=>by cases z) h)
  ·exact .inr h
 |_,_,.bY h k n=>.bY (m _ _ (λ_ z=>by cases z) h) k n
theorem aF.jQ{K:FZ}{G G':Hp}(m:xX G G'):∀{v:List V} {T:List Tr},aF K G v T->aF K G' v T
 |_,_,.nil=>.nil
 |_,_,.cons h r=>.cons (Rep.jQ m h) (aF.jQ m r)
end
theorem vd{K:FZ}{Z:Addr->Prop}{H:Hp}(tb:cX K H):xX (aC Z H) (aC (λb=>Z b\/Tb K b) H):=λb o n h=>by
 obtain⟨nz,h⟩:=gF h
 rw[cQ]
 ·exact h
 ·rintro(z|z)
  ·exact nz z
  ·obtain⟨ps,e⟩:=tb.dj z
   rw[h]at e
   cases e
   exact n _ rfl
theorem aH.vf{t:Tx}{W:Addr->Prop}{ρ : En}{σ : St}{H H':Hp}(e:aH t W ρ σ H)(s:gH t.K H H'):aH t W ρ σ H'/\bA W H H':=by
 have st:bA W H H':=⟨λb o n q=>s.1 b o q λz=>n (e.tab.w b z),s.dom⟩
 refine⟨?_,st⟩
 have m:=st.off
 obtain⟨F,e⟩:=e
 have ls:∀{a:Addr} {xs:List V},H a=some (.lst xs)->H' a=some (.lst xs):=λq=>s.1 _ _ q λz=>e.tab.ok.ne z q rfl
 refine⟨F,e.len,e.zw,e.z0,λb w=>?_,λb o h n=>s.1 b o (e.f0 b o h n) λz=>n (e.tab.r b z),λb h=>e.n0 b (s.dom b h),λi u h=>?_,λi ts h=>?_,λi ts h=>?_,e.dis,λb o h=>s.1 b o (e.pn b o h) λz=>(by rw[e.tab.B b z]at h; cases h),e.pd,λi ts h=>?_,e.dd,e.dm,e.db,⟨s.2,e.tab.w,e.tab.r,e.tab.B⟩⟩
 ·rcases e.wl b w with⟨xs,q⟩|⟨ps,q⟩
  ·exact .inl ⟨xs,ls q⟩
  ·by_cases z:Tb t.K b
   ·exact .inr (s.2.dj z)
   ·exact .inr ⟨ps,s.1 b _ q z⟩
 ·obtain⟨v,h1,h2⟩:=e.sh i u h
  exact⟨v,h1,h2.mono m⟩
 ·obtain⟨a,xs,h1,h2,h3,h4,h5⟩:=e.ow i ts h
  exact⟨a,xs,h1,h2,h3,ls h4,h5.mono m⟩
 ·obtain⟨a,xs,h1,h2,h3,h4,h5⟩:=e.rf i ts h
  exact⟨a,xs,h1,h2,h3,ls h4,h5.mono m⟩
 ·obtain⟨a,xs,h1,d⟩:=e.dp i ts h
  exact⟨a,xs,h1,d.move rfl rfl m (λb hb=>by obtain⟨_,_,_,ww,_⟩:=d; exact(ww b hb).1) λb o hb q=>s.1 b o q λz=>d.nt e.tab.ok z hb⟩
theorem aH.K9{t:Tx}{W:Addr->Prop}{ρ : En}{σ : St}{H H':Hp}{a:Addr}{xs:List V}(e:aH t W ρ σ H)(s:gH t.K H H')(n:H a=none)(q:H' a=some (.lst xs)):oX t W a ρ σ H':=by
 have na:∀b,W b->b≠a:=λb w z=>by subst z; exact e.wn b w n
 obtain⟨e',st⟩:=e.vf s
 have m:Same (aC W H') (aC (λb=>W b\/b=a) H')->True:=λ_=>trivial
 have mm:∀{v:V} {T:Tr},Rep t.K (aC W H) v T->Rep t.K (aC (λb=>W b\/b=a) H') v T:=λr=>r.mono λb o h=>by
  obtain⟨w,h⟩:=gF h
  rw[cQ]
  ·exact st.keep b o w h
  ·rintro(z|rfl)
   ·exact w z
   ·rw[n]at h; cases h
 have CG:Same (aC W H) (aC (λb=>W b\/b=a) H'):=λb o h=>by
  obtain⟨w,h⟩:=gF h
  rw[cQ]
  ·exact st.keep b o w h
  ·rintro(z|rfl)
   ·exact w z
   ·rw[n]at h; cases h
 obtain⟨F,e⟩:=e
 have ls:∀{a:Addr} {xs:List V},H a=some (.lst xs)->H' a=some (.lst xs):=λq=>s.1 _ _ q λz=>e.tab.ok.ne z q rfl
 refine⟨F,⟨e.len,λb z=>.inl (e.zw b z),e.z0,λb w=>?_,e'.f0,e'.n0,λi u h=>?_,λi ts h=>?_,λi ts h=>?_,e.dis,e'.pn,e.pd,λi ts h=>?_,e.dd,e.dm,e.db,e'.tab.Ko λb w=>.inl w⟩,λi ts h z=>?_⟩
 ·rcases w with w|rfl
  ·exact e'.wl b w
  ·exact .inl ⟨xs,q⟩
 ·obtain⟨v,h1,h2⟩:=e.sh i u h
  exact⟨v,h1,mm h2⟩
 ·obtain⟨c,ys,h1,h2,h3,h4,h5⟩:=e.ow i ts h
  exact⟨c,ys,h1,.inl h2,h3,ls h4,h5.mono CG⟩
 ·obtain⟨c,ys,h1,h2,h3,h4,h5⟩:=e.rf i ts h
  exact⟨c,ys,h1,.inl h2,h3,ls h4,h5.mono CG⟩
 ·obtain⟨c,ys,h1,d⟩:=e.dp i ts h
  exact⟨c,ys,h1,d.move rfl rfl CG (λb hb=>by obtain⟨_,_,_,ww,_⟩:=d; exact .inl (ww b hb).1) λb o hb q=>s.1 b o q λz=>d.nt e.tab.ok z hb⟩
 ·obtain⟨c,ys,h1,bs,_,_,ww,_⟩:=e.dp i ts h
  exact na a (ww a z).1 rfl
abbrev FP:=List Tr->Rs (Tr × Bool)
noncomputable def bx(K:FZ)(cl:Str->Addr)(n:Nat)(F:FP):Sp:=λvs H Q E=>∃Z ts,vs.length=n/\aF (aA K) (aC Z H) vs ts/\(∀b,Z b->Lt H b)/\cX (aA K) H /\
 (F ts).post (λc=>∀H',gH (aA K) H H'->E (.ref (cl c)) none H') (λp=>∀v H',gH (aA K) H H'->pq (aA K) Z H H' v p.1 p.2->Q v H')
def aV(nl:Nat)(ts:List Tr):En:=ts.map Sl.sh++List.replicate (nl-ts.length) Sl.un
def aN(nl:Nat)(b:SF):FP:=λts=>(b (aV nl ts)).bind λq=>match q.1 with
 |.rt T fr=>.ok (T,fr)
 |.nx=>.ok (.non,false)
 |_=>.bad
theorem fJ{nl:Nat}{ts:List Tr}{i:Nat}{s:Sl}(h:(aV nl ts)[i]?=some s):(∃u,ts[i]?=some u/\s=.sh u)\/s=.un:=by
 unfold aV at h
 by_cases l:i<ts.length
 ·rw[List.getElem?_append_left (by simpa using l),List.getElem?_map]at h
  rw[List.getElem?_eq_getElem l]at h ⊢
  cases h
  exact .inl ⟨_,rfl,rfl⟩
 ·rw[List.getElem?_append_right (by simpa using Nat.le_of_not_lt l)]at h
  rw[List.getElem?_replicate]at h
  split at h
  ·cases h; exact .inr rfl
  ·cases h
theorem vg{N:List Str}{vs:List V}{i:Nat}{v:V}(h:vs[i]?=some v):(start N vs)[i]?=some (some v):=by
 unfold start
 have l:i<vs.length:=(List.getElem?_eq_some_iff.mp h).1
 rw[List.getElem?_append_left (by simpa using l),List.getElem?_map,h]
 rfl
section
variable {P:Program}{w:World}{K:FZ}{mg:Str->Option Value}{base:Heap}
theorem At.d8{k:Nat}{x:Str}{st:Stmt}{N ps:List Str}{cl:Str->Addr}{b:SF}(a:At K mg x st)(S:oK N ps (bL st))(hn:ps.length<=N.length)
  (hb:∀(kV doc pm:Value) (an:Option Addr) (cdv ct:Value) (us:List Value),us.length=ps.length->bindArgs (PySem.W.fnOf x x (m7 st) (jy st) (bL st) .none kV doc pm an cdv ct) ⟨us,[]⟩=pure (ps.zip us))
  (hbody:∀(f:Addr) (cdv:Value) (A:Around) (outer:List Env) (s:Shared) (H:Hp) (E:XK),dN k (A.deeper (envOfC x (bL st) s.heap.objs.size f cdv)) ->
   ∃ts,iB (jx (iH P w) P w K mg base N x (bL st) f cdv A outer s H E) (jy st) ts/\∀t:Tx,t.K=aA K->(∀c H',F0 t H'->t.EX c->E (.ref (cl c)) none H')->SS t ts b) :
  aX P w K mg base (k+1) x ps (bx K cl ps.length (aN N.length b)):=by
 refine a.BL S hb (λvs H Q E h=>?_) (λf cdv A outer s H vs Q E hr h=>?_)
 ·obtain⟨_,_,h,_⟩:=h; exact h
 obtain⟨Z,as,hl,r,zl,tb,h⟩:=h
 obtain⟨ts,h1,h2⟩:=hbody f cdv A outer s H E hr
 refine⟨ts,h1,?_⟩
 have sm:∀(b:Addr) (W:Addr->Prop) ρ σ H',aH ⟨aA K,Z,Tb (aA K),H,λ_=>none,λc=>∀H',gH (aA K) H H'->E (.ref (cl c)) none H'⟩ W ρ σ H'->gH (aA K) H H':=λ_ W ρ σ H' e=>⟨λb o q n=>e.f0 b o q n,e.tab.ok⟩
 have r:=r.jQ (vd tb)
 refine h2 ⟨aA K,Z,Tb (aA K),H,λ_=>none,λc=>∀H',gH (aA K) H H'->E (.ref (cl c)) none H'⟩ rfl (λc H' f0 q=>q H' ⟨λb o z n=>f0.1 b o z n,f0.2⟩) (λb=>Z b\/Tb (aA K) b) (aV N.length as) (start N vs) H _ ?_ (Rs.aO (Rs.aG h) λq h=>?_)
 ·have la:=r.length
  have gA:∀(i:Nat) (us:List Tr),(aV N.length as)[i]?=some (.dp us)->False:=λi us q=>by
   rcases fJ q with⟨u',q1,z⟩|z <;> cases z
  refine⟨λ_=>[],?_,λ_ z=>.inl z,λb z=>?_,λb z=>z.elim (zl b) (λz=>.inr (tb.dj z)),λb o q _=>q,λb q=>q,λi u q=>?_,λi us q=>?_,λi us q=>?_,λi j c m1 m2=>?_,λb o z=>(by cases z),λ_ _ _ _=>rfl,λi us q=>(gA i us q).elim,λi _ us _ _ q=>(gA i us q).elim,λi _ us _ q=>(gA i us q).elim,λi us q=>(gA i us q).elim,⟨tb,λ_ z=>.inr z,λ_ z=>z,λ_ _=>rfl⟩⟩
  ·unfold aV start
   simp only[List.length_append,List.length_map,List.length_replicate]
   omega
  ·exact(zl b z).ne
  ·rcases fJ q with⟨u',q1,z⟩|z
   ·cases z
    obtain⟨v,e1,e2⟩:=r.nC q1
    exact⟨v,vg e1,e2⟩
   ·cases z
  ·rcases fJ q with⟨u',q1,z⟩|z <;> cases z
  ·rcases fJ q with⟨u',q1,z⟩|z <;> cases z
  ·obtain⟨us,q|q⟩:=m1 <;> rcases fJ q with⟨u',q1,z⟩|z <;> cases z
 ·obtain⟨fl,ρ'⟩:=q
  cases fl with
  |nx=>exact λW' σ' H' e n=>h .non H' (sm 0 W' ρ' σ' H' e) .non
  |rt T fr =>
   refine λv W' σ' H' e n=>h v H' (sm 0 W' ρ' σ' H' e) ?_
   cases fr <;> exact n
  |bk=>exact h.elim
  |ct=>exact h.elim
end
section
variable {X:Cx}{k:Nat}{x:Str}{ps:List Str}{sp:Sp}{p pos:Pos}{e:Expr}{es:List Expr}{ta:TA}{E:XK}
theorem Wu(D:aX X.prog X.w X.K X.mg X.base k x ps sp)(hr:dN k X.A)(hx:Passes (iH X.prog X.w) X E)(ha:PA X (e::es) ta)(hg:Gl X x:=by rfl)(hdb:(x == ("__debug__" : Str))=false:=by decide)
  (he:starEach (e::es) X.env=(false,eval e X.env)::starEach es X.env:=by rfl) (hpl:(backTo pos (starEach es X.env)).any (·.1)=false:=by rfl):PE X (.Call (.Name x p) (e::es) [] pos) (iD sp [] E ta):=by
 obtain⟨f,fd,h1,h2,h3,h4⟩:=D
 exact RZ h1 hr hg h4 h3 h2 .nil hx ha hdb he hpl
end
section
variable {t:Tx}{K:FZ}
def aW:Rv->Bool
 |.s _=>true
 |_=>false
def gJ(z:Tr × Bool):Bool:=jk z.1 || (z.2&&(match z.1 with
 |.lst us=>dU us
 |_=>false))
theorem pq.CJ{W W0:Addr->Prop}{ρ : En}{σ : St}{H H':Hp}{v:V}{z:Tr × Bool}{Z:Addr->Prop}(wn:∀b,W b->H b≠none)(wl:∀b,W b->Lt H' b)(zs:(∀b,W b->Z b)\/gJ z=true)(h:pq t.K Z H H' v z.1 z.2)
  (ex:z.2=true->∀a xs,H a=none->H' a=some (.lst xs)->oX t W a ρ σ H'):eN t W ρ σ H H' v (.v z.1 z.2):=by
 obtain⟨T,fr⟩:=z
 cases fr with
 |false =>
  refine .low ?_
  rcases zs with zs|zs
  ·exact Rep.mono (nq (λb _ _ z=>zs b z) λ_ _ _ h=>h) h
  ·unfold gJ at zs
   simp only[Bool.false_and,Bool.or_false]at zs
   exact Rep.flat (Cz wl) h zs
 |true =>
  obtain⟨a,xs,ts,rfl,e1,n,q,r⟩:=h
  have e1:T=.lst ts:=e1
  subst e1
  refine⟨⟨a,xs,ts,rfl,rfl,n,q,?_⟩,λU b z eb=>?_⟩
  ·rcases zs with zs|zs
   ·refine r.mono λb o q=>?_
    obtain⟨ne,q⟩:=oR q
    rw[off_ne ne]
    exact nq (λb _ _ z=>zs b z) (λ_ _ _ h=>h) b o q
   ·unfold gJ at zs
    have zs:dU ts=true:=by
     rw[Bool.or_eq_true]at zs
     rcases zs with zs|zs
     ·unfold jk at zs; cases zs
     ·exact zs
    exact r.flat (Wt wl q _ λb o h=>gR _ _ b o (xu _ _ b o h)) zs
  ·cases eb
   exact ex rfl a xs n q
theorem eO.length{W:Addr->Prop}{σ : St}{H H':Hp}:∀{vs:List V} {rs:List Rv},eO K W σ H H' vs rs->vs.length=rs.length
 |_,_,.nil=>rfl
 |_,_,.cons _ r=>by rw[List.length_cons,List.length_cons,eO.length r]
theorem post_eq{α : Type}{r:Rs α}{a : α}{EX:Str->Prop}{P : α -> Prop}(h:r=.ok a)(q:P a):r.post EX P:=by
 rw[h]
 exact q
def aU(F:FP)(fa:AF):EF:=λρ=>(fa ρ).bind λp=>(drs p.2 p.1).bind λas=>(F as).bind λz=>if p.1.any aW=true/\gJ z=false then .bad else .ok (.v z.1 z.2,p.2)
theorem vh{W:Addr->Prop}{σ : St}{ρ : En}{H H':Hp}(wn:∀b,W b->H b≠none):∀{vs:List V} {rs:List Rv} {as:List Tr},eO t.K W σ H H' vs rs->drs ρ rs=.ok as->rs.any aW=false->aF t.K (aC W H') vs as
 |_,_,_,.nil,q,_=>by cases q; exact .nil
 |_,.v T fr::_,_,.cons h r,q,n=>by
  unfold drs at q
  obtain⟨a,q1,q⟩:=jh q
  obtain⟨as,q2,q⟩:=jh q
  cases q
  cases q1
  exact .cons (h.rep wn) (vh wn r q2 (by simpa[List.any_cons,aW]using n))
 |_,.s i::_,_,.cons h r,q,n=>by simp[aW]at n
theorem oZ.reps{W:Addr->Prop}{H:Hp}:∀{vs:List V} {as:List Tr},oZ K W H vs as->aF K (aC (λ_=>False) H) vs as
 |_,_,.nil=>.nil
 |_,_,.cons h r=>.cons (h.rep.mono λb o q=>by rw[cQ id]; exact q) (oZ.reps r)
theorem La(hK:t.K=aA K){cl:Str->Addr}{n:Nat}{F:FP}{E:XK}{ta:TA}{fa:AF}(hx:∀c H',F0 t H'->t.EX c->E (.ref (cl c)) none H')(hn:∀ρ p,fa ρ=.ok p->p.1.length=n)(ha:SA t ta fa):SE t (iD (bx K cl n F) [] E ta) (aU F fa):=λW ρ σ H Q e h=>by
 have h:=Rs.aG h
 cases ek:fa ρ with
 |bad=>rw[ek]at h; exact h.elim
 |ex c=>exact ha W ρ σ H _ e (by rw[ek]at h ⊢; exact h)
 |ok p =>
 have hl:=hn ρ p ek
 rw[ek]at h
 refine ha W ρ σ H _ e (post_eq ek ?_)
 intro vs H1 e1 s1 v1
 have h:((drs p.2 p.1).bind _).post _ _:=h
 obtain⟨as,k1,h⟩:=cA (Rs.aG h) (o7 _ _)
 have r:=uV e1 e.wn v1 k1
 have lv:vs.length=n:=v1.length.trans hl
 have fin:∀Z:Addr->Prop,(∀b,Z b->W b)->(∀z,F as=.ok z->¬(p.1.any aW=true/\gJ z=false)->(∀b,W b->Z b)\/gJ z=true)->aF (aA K) (aC Z H1) vs as->bx K cl n F (vs++[]) H1 Q E:=λZ zw zs rr=>by
  rw[List.append_nil]
  refine⟨Z,as,lv,rr,λb z=>e1.wl b (zw b z),by rw[<-hK]; exact e1.tab.ok,?_⟩
  have h:=Rs.aG h
  cases ef:F as with
  |bad=>rw[ef]at h; exact h.elim
  |ex c =>
   rw[ef]at h
   exact λH' sm=>hx c H' ⟨λb o q nr=>sm.1 b o (e1.f0 b o q nr) λz=>nr (e1.tab.r b (by rw[hK]; exact z)),by rw[hK]; exact sm.2⟩ h
  |ok z =>
   rw[ef]at h
   have h:(if p.1.any aW=true/\gJ z=false then Rs.bad else .ok (.v z.1 z.2,p.2):Rs (Rv × En)).post _ _:=h
   split at h
   ·exact h.elim
   ·rename_i c
    intro v H' sm vr
    rw[<-hK]at vr sm
    obtain⟨eg,sg⟩:=e1.vf sm
    refine h v H' eg (s1.trans sg) (eN.back (H:=H1) ?_ s1.dom)
    exact pq.CJ (W0:=W) e1.wn eg.wl (zs z ef c) vr λ_ a xs na qa=>e1.K9 sm na qa
 by_cases an:p.1.any aW=true
 ·refine fin (λ_=>False) (λ_ z=>z.elim) (λz ez c=>.inr ?_) ?_
  ·cases fz:gJ z with
   |true=>rfl
   |false=>exact(c ⟨an,fz⟩).elim
  ·rw[<-hK]
   exact r.reps
 ·refine fin W (λ_ z=>z) (λz ez c=>.inl λ_ z=>z) ?_
  rw[<-hK]
  exact vh e.wn v1 k1 (by simpa using an)
end
end L2
end
section
namespace L2
open PySem PySem.Spec PyProof.Rows
abbrev FR:=List Tr->Rs ((Tr × Bool) × List Tr)
noncomputable def j6(K:FZ)(n r:Nat)(F:FR):Sp:=λvs H Q E=>∃(Z:Addr->Prop) (ts:List Tr) (a:Addr) (xs:List V) (us:List Tr),vs.length=n/\ts.length=n/\vs[r]?=some (.ref a)/\ts[r]?=some (.lst us)/\Z a/\H a=some (.lst xs)/\aF (aA K) (aC Z H) xs us /\
 (∀j v u,j≠r->vs[j]?=some v->ts[j]?=some u->Rep (aA K) (aC Z H) v u)/\(∀b,Z b->Lt H b)/\cX (aA K) H /\
 (F ts).post (λ_=>False) (λp=>∀v H' ys,(∀b o,H b=some o->b≠a->¬Tb (aA K) b->H' b=some o)->cX (aA K) H'->(∀b,H' b=none->H b=none)->H' a=some (.lst ys)->aF (aA K) (aC Z H') ys p.2->pq (aA K) Z H H' v p.1.1 p.1.2->Q v H')
def bW{α : Type}:Rs α -> Rs α
 |.bad=>.bad
 |.ex _=>.bad
 |.ok a=>.ok a
theorem CK{α : Type}{r:Rs α}{EX:Str->Prop}{P : α -> Prop}(h:(bW r).post EX P):r.post (λ_=>False) P:=by
 cases r <;> exact h
theorem Lb{α : Type}(r:Rs α)(c:Str):bW r ≠ .ex c:=by
 cases r <;> (intro z; cases z)
theorem Ld{α β : Type}{r:Rs α}{f : α -> Rs β}(h1:∀c,r ≠ .ex c)(h2:∀a c,f a ≠ .ex c)(c:Str):r.bind f ≠ .ex c:=by
 cases r with
 |bad=>intro z; cases z
 |ex d=>exact(h1 d rfl).elim
 |ok a=>exact h2 a c
noncomputable def gK(nl r:Nat)(b:SF):FR:=λts=>match ts[r]? with
 | some (.lst us)=>(bW (b ((aV nl ts).set r (.rf us)))).bind λq=>(match q.2[r]? with
  | some (.rf ws)=>(match q.1 with
   |.rt T fr=>.ok ((T,fr),ws)
   |.nx=>.ok ((.non,false),ws)
   |_=>.bad)
  |_=>.bad)
 |_=>.bad
theorem Wv(nl r:Nat)(b:SF)(as:List Tr)(c:Str):gK nl r b as ≠ .ex c:=by
 unfold gK
 split
 ·refine Ld (Lb _) (λq c=>?_) c
  split
  ·split <;> (intro z; cases z)
  ·intro z; cases z
 ·intro z; cases z
section
variable {P:Program}{w:World}{K:FZ}{mg:Str->Option Value}{base:Heap}
theorem At.CN{k:Nat}{x:Str}{st:Stmt}{N ps:List Str}{cl:Str->Addr}{b:SF}(r:Nat)(a:At K mg x st)(S:oK N ps (bL st))(hn:ps.length<=N.length)
  (hb:∀(kV doc pm:Value) (an:Option Addr) (cdv ct:Value) (us:List Value),us.length=ps.length->bindArgs (PySem.W.fnOf x x (m7 st) (jy st) (bL st) .none kV doc pm an cdv ct) ⟨us,[]⟩=pure (ps.zip us))
  (hbody:∀(f:Addr) (cdv:Value) (A:Around) (outer:List Env) (s:Shared) (H:Hp) (E:XK),dN k (A.deeper (envOfC x (bL st) s.heap.objs.size f cdv)) ->
   ∃ts,iB (jx (iH P w) P w K mg base N x (bL st) f cdv A outer s H E) (jy st) ts/\∀t:Tx,t.K=aA K->(∀c H',F0 t H'->t.EX c->E (.ref (cl c)) none H')->SS t ts b) :
  aX P w K mg base (k+1) x ps (j6 K ps.length r (gK N.length r b)):=by
 refine a.BL S hb (λvs H Q E h=>?_) (λf cdv A outer s H vs Q E hr h=>?_)
 ·obtain⟨_,_,_,_,_,h,_⟩:=h; exact h
 obtain⟨Z,as,ad,xs,us,hl,hl2,hv,ht,hz,hx,rx,ra,zl,tb,h⟩:=h
 have rx:=rx.jQ (vd tb)
 have ra:∀j v u,j≠r->vs[j]?=some v->as[j]?=some u->Rep (aA K) (aC (λb=>Z b\/Tb (aA K) b) H) v u:=λj v u n q1 q2=>(ra j v u n q1 q2).jQ (vd tb)
 obtain⟨ts,h1,h2⟩:=hbody f cdv A outer s H E hr
 refine⟨ts,h1,?_⟩
 unfold gK at h
 rw[ht]at h
 have h:((bW (b ((aV N.length as).set r (.rf us)))).bind _).post _ _:=h
 refine h2 ⟨aA K,Z,λb=>b=ad\/Tb (aA K) b,H,λ_=>none,λ_=>False⟩ rfl (λc H' f0 q=>q.elim) (λb=>Z b\/Tb (aA K) b) ((aV N.length as).set r (.rf us)) (start N vs) H _ ?_ (Rs.aO (CK (Rs.aG h)) λq h=>?_)
 ·have lr:r<as.length:=(List.getElem?_eq_some_iff.mp ht).1
  have mu:∀j,Mu ((aV N.length as).set r (.rf us)) j->j=r:=λj m=>by
   obtain⟨ws,q|q⟩:=m <;> rcases get_set q with⟨rfl,_,_⟩|⟨ne,q⟩
   ·rfl
   ·rcases fJ q with⟨u',q1,z⟩|z <;> cases z
   ·rfl
   ·rcases fJ q with⟨u',q1,z⟩|z <;> cases z
  have gA:∀(i:Nat) (ws:List Tr),((aV N.length as).set r (.rf us))[i]?=some (.dp ws)->False:=λi ws q=>by
   rcases get_set q with⟨rfl,z,_⟩|⟨ne,q⟩
   ·cases z
   ·rcases fJ q with⟨u',q1,z⟩|z <;> cases z
  refine⟨λ_=>[],?_,λ_ z=>.inl z,λb z=>?_,λb z=>z.elim (zl b) (λz=>.inr (tb.dj z)),λb o q _=>q,λb q=>q,λi u q=>?_,λi ws q=>?_,λi ws q=>?_,λi j c m1 m2 _ _=>(mu i m1).trans (mu j m2).symm,λb o z=>(by cases z),λ_ _ _ _=>rfl,λi us q=>(gA i us q).elim,λi _ us _ _ q=>(gA i us q).elim,λi _ us _ q=>(gA i us q).elim,λi us q=>(gA i us q).elim,⟨tb,λ_ z=>.inr z,λ_ z=>.inr z,λ_ _=>rfl⟩⟩
  ·unfold aV start
   simp only[List.length_append,List.length_map,List.length_replicate,List.length_set]
   omega
  ·exact(zl b z).ne
  ·rcases get_set q with⟨rfl,z,_⟩|⟨ne,q⟩
   ·cases z
   ·rcases fJ q with⟨u',q1,z⟩|z
    ·cases z
     have lj:i<vs.length:=by
      rw[hl,<-hl2]
      exact(List.getElem?_eq_some_iff.mp q1).1
     exact⟨vs[i],vg (List.getElem?_eq_getElem lj),ra i _ _ ne (List.getElem?_eq_getElem lj) q1⟩
    ·cases z
  ·rcases get_set q with⟨rfl,z,_⟩|⟨ne,q⟩
   ·cases z
   ·rcases fJ q with⟨u',q1,z⟩|z <;> cases z
  ·rcases get_set q with⟨rfl,z,_⟩|⟨ne,q⟩
   ·cases z
    exact⟨ad,xs,vg hv,.inl hz,.inl rfl,hx,rx⟩
   ·rcases fJ q with⟨u',q1,z⟩|z <;> cases z
 ·obtain⟨fl,ρ'⟩:=q
  dsimp only at h
  split at h
  ·rename_i ws q
   ·have key:∀W' σ' H',aH ⟨aA K,Z,λb=>b=ad\/Tb (aA K) b,H,λ_=>none,λ_=>False⟩ W' ρ' σ' H'->(∀b o,H b=some o->b≠ad->¬Tb (aA K) b->H' b=some o)/\cX (aA K) H'/\(∀b,H' b=none->H b=none)/\∃ys,H' ad=some (.lst ys)/\aF (aA K) (aC Z H') ys ws:=λW' σ' H' e=>by
     obtain⟨c,ys,q1,q2,q3,q4,q5⟩:=e.rf r ws q
     have q3:c=ad:=q3.elim id λz=>(e.tab.ok.ne z q4 rfl).elim
     subst q3
     exact⟨λb o z n n'=>e.f0 b o z λy=>y.elim n n',e.tab.ok,e.n0,ys,q4,q5.mono (xU e)⟩
    cases fl with
    |nx =>
     intro W' σ' H' e n
     obtain⟨k1,CP,k2,ys,k3,k4⟩:=key W' σ' H' e
     exact h .non H' ys k1 CP k2 k3 k4 .non
    |rt T fr =>
     intro v W' σ' H' e n
     obtain⟨k1,CP,k2,ys,k3,k4⟩:=key W' σ' H' e
     refine h v H' ys k1 CP k2 k3 k4 ?_
     cases fr <;> exact n
    |bk=>exact h.elim
    |ct=>exact h.elim
  ·exact h.elim
end
section
variable {t:Tx}{K:FZ}
theorem eO.get{W:Addr->Prop}{σ : St}{H H':Hp}:∀{vs:List V} {rs:List Rv} {j:Nat} {v:V} {r:Rv},eO K W σ H H' vs rs->vs[j]?=some v->rs[j]?=some r->cV K W σ H H' v r
 |_,_,_,_,_,.nil,e,_=>by simp at e
 |_,_,0,_,_,.cons h _,e,q=>by simp at e q; subst e q; exact h
 |_,_,j+1,_,_,.cons _ t,e,q=>eO.get (j:=j) t (by simpa using e) (by simpa using q)
theorem CQ{ρ : En}:∀{rs:List Rv} {as:List Tr} {j:Nat} {u:Tr},drs ρ rs=.ok as->as[j]?=some u->∃r,rs[j]?=some r/\dr ρ r=.ok u
 | [],_,_,_,h,e=>by cases h; simp at e
 |r::rs,as,j,u,h,e=>by
  unfold drs at h
  obtain⟨a,q1,h⟩:=jh h
  obtain⟨bs,q2,h⟩:=jh h
  cases h
  cases j with
  |zero=>simp at e; subst e; exact⟨r,rfl,q1⟩
  |succ j =>
   obtain⟨r',k1,k2⟩:=CQ (j:=j) q2 (by simpa using e)
   exact⟨r',by simpa using k1,k2⟩
theorem Le{ρ : En}:∀{rs:List Rv} {as:List Tr},drs ρ rs=.ok as->as.length=rs.length
 | [],_,h=>by cases h; rfl
 |r::rs,as,h=>by
  unfold drs at h
  obtain⟨a,q1,h⟩:=jh h
  obtain⟨bs,q2,h⟩:=jh h
  cases h
  rw[List.length_cons,List.length_cons,Le q2]
theorem Lf{ρ : En}:∀{rs:List Rv} {as:List Tr} {j:Nat} {r:Rv},drs ρ rs=.ok as->rs[j]?=some r->∃u,as[j]?=some u/\dr ρ r=.ok u
 | [],_,_,_,h,e=>by simp at e
 |r::rs,as,j,u,h,e=>by
  unfold drs at h
  obtain⟨a,q1,h⟩:=jh h
  obtain⟨bs,q2,h⟩:=jh h
  cases h
  cases j with
  |zero=>simp at e; subst e; exact⟨a,rfl,q1⟩
  |succ j =>
   obtain⟨r',k1,k2⟩:=Lf (j:=j) q2 (by simpa using e)
   exact⟨r',by simpa using k1,k2⟩
def others(r i:Nat)(rs:List Rv):Bool:=(rs.eraseIdx r).all λx=>match x with
 |.s j=>j != i
 |_=>true
noncomputable def dW(r:Nat)(F:FR)(fa:AF):EF:=λρ=>(fa ρ).bind λp=>match p.1[r]? with
 |some (.s i)=>if others r i p.1=true then((con p.2 i).bind λ_=>(drs p.2 p.1).bind λas=>(F as).bind λz=>if((p.1.eraseIdx r).any aW=true/\gJ z.1=false)\/(((p.1.eraseIdx r).any aW=true\/z.1.2=true)/\dU z.2=false)then .bad else .ok (.v z.1.1 z.1.2,bO i z.2 p.2))else .bad
 |_=>.bad
theorem Lg{α : Type}{l:List α}{r j:Nat}{x : α}(n:j≠r)(h:l[j]?=some x):x∈l.eraseIdx r:=by
 rw[List.mem_eraseIdx_iff_getElem?]
 exact⟨j,n,h⟩
theorem Ww(hK:t.K=aA K){n r:Nat}{F:FR}{E:XK}{ta:TA}{fa:AF}(nF:∀as c,F as ≠ .ex c)(hn:∀ρ p,fa ρ=.ok p->p.1.length=n)(ha:SA t ta fa):SE t (iD (j6 K n r F) [] E ta) (dW r F fa):=λW ρ σ H Q e h=>by
 have h:=Rs.aG h
 cases ek:fa ρ with
 |bad=>rw[ek]at h; exact h.elim
 |ex c=>exact ha W ρ σ H _ e (by rw[ek]at h ⊢; exact h)
 |ok p =>
 have hl:=hn ρ p ek
 rw[ek]at h
 refine ha W ρ σ H _ e (post_eq ek ?_)
 intro vs H1 e1 s1 v1
 have h:(match p.1[r]? with
  |some (.s i)=>if others r i p.1=true then((con p.2 i).bind λ_=>(drs p.2 p.1).bind λas=>(F as).bind λz=>if((p.1.eraseIdx r).any aW=true/\gJ z.1=false)\/(((p.1.eraseIdx r).any aW=true\/z.1.2=true)/\dU z.2=false)then .bad else .ok (.v z.1.1 z.1.2,bO i z.2 p.2))else .bad
  |_=>.bad:Rs (Rv × En)).post _ _:=h
 split at h
 ·rename_i i er
  split at h
  ·rename_i ho
   obtain⟨us,k0,h⟩:=cA (Rs.aG h) (Cu _ _)
   obtain⟨as,k1,h⟩:=cA (Rs.aG h) (o7 _ _)
   obtain⟨z,k2,h⟩:=cA (Rs.aG h) (nF _)
   obtain⟨mi,a,xs,hi,wa,hx,rx,h0⟩:=e1.con k0
   have lr:r<vs.length:=by rw[v1.length]; exact(List.getElem?_eq_some_iff.mp er).1
   have Wy:vs[r]?=some (.ref a):=by
    have q:=v1.get (List.getElem?_eq_getElem lr) er
    have q : σ[i]?=some (some vs[r]):=q
    rw[hi]at q
    rw[List.getElem?_eq_getElem lr,Option.some.inj (Option.some.inj q)]
   have Wz:as[r]?=some (.lst us):=by
    obtain⟨u,q1,q2⟩:=Lf k1 er
    rw[q1]
    unfold L2.con at k0
    dsimp only[dr]at q2
    split at k0 <;> rename_i q3
    ·rw[q3]at q2; cases q2; cases k0; rfl
    ·rw[q3]at q2; cases q2; cases k0; rfl
    ·cases k0
   split at h
   ·exact h.elim
   ·rename_i c
    have nl:((p.1.eraseIdx r).any aW=true\/z.1.2=true)->dU z.2=true:=λy=>by
     cases q:dU z.2 with
     |true=>rfl
     |false=>exact(c (.inr ⟨y,q⟩)).elim
    have nf:z.1.2=true->dU z.2=true:=λy=>nl (.inr y)
    have fin:∀Z:Addr->Prop,Z a->(∀b,Z b->W b)->((∀b,W b->Z b)\/gJ z.1=true)->((∀b,W b->Z b)\/dU z.2=true)->(∀j v u,j≠r->vs[j]?=some v->as[j]?=some u->Rep (aA K) (aC Z H1) v u)->j6 K n r F (vs++[]) H1 Q E:=λZ za zw zs fq rr=>by
     rw[List.append_nil]
     refine⟨Z,as,a,xs,us,v1.length.trans hl,(Le k1).trans hl,Wy,Wz,za,hx,?_,rr,λb z=>e1.wl b (zw b z),by rw[<-hK]; exact e1.tab.ok,?_⟩
     ·rw[<-hK]
      exact rx.mono (nq (λb _ _ z=>zw b z) λ_ _ _ h=>h)
     rw[k2]
     intro v H' ys fr tb dm hy ry vr
     rw[<-hK]at ry vr fr tb
     have kp:∀b o,¬W b->H1 b=some o->H' b=some o:=λb o nw q=>fr b o q (λz=>by subst z; exact nw wa) λz=>nw (e1.tab.w b z)
     have xY:∀b,W b->Lt H' b:=λb wb=>by
      by_cases q:b=a
      ·subst q; exact .inl ⟨ys,hy⟩
      ·by_cases z:Tb t.K b
       ·exact .inr (tb.dj z)
       ·rcases e1.wl b wb with⟨zs,q2⟩|⟨zs,q2⟩
        ·exact .inl ⟨zs,fr b _ q2 q z⟩
        ·exact .inr ⟨zs,fr b _ q2 q z⟩
     have st:bA W H1 H':=⟨kp,dm⟩
     have WD:aF t.K (aC W H') ys z.2:=by
      rcases fq with q|q
      ·exact ry.mono (nq (λb _ _ z=>q b z) λ_ _ _ h=>h)
      ·exact ry.flat (Cz xY) q
     have e2:aH t W (bO i z.2 p.2) σ H':=e1.move mi hi st.off (λ_ h=>h) xY tb fr dm h0 hy WD
     refine h v H' e2 (s1.trans st) (eN.back (H:=H1) ?_ s1.dom)
     refine pq.CJ (W0:=W) (z:=z.1) e1.wn xY zs vr λfz b zs nb qb=>?_
     have Lh:∀c,(W c\/c=b)->Lt H' c:=λc wc=>by
      rcases wc with wc|rfl
      ·exact xY c wc
      ·exact .inl ⟨zs,qb⟩
     obtain⟨F,dD⟩:=id e1
     refine⟨F,dD.move mi hi (λc o q=>?_) (λ_ h=>.inl h) Lh tb fr dm h0 hy (ry.flat (Cz Lh) (nf fz)),λj us hj zj=>?_⟩
     rotate_left
     ·obtain⟨c,ys,h1,bs,_,_,ww,_⟩:=dD.dp j us (o9 hj)
      exact e1.wn b (ww b zj).1 nb
     obtain⟨nc,q⟩:=gF q
     rw[cQ]
     ·exact kp c o nc q
     ·rintro(z|rfl)
      ·exact nc z
      ·rw[nb]at q; cases q
    by_cases an:(p.1.eraseIdx r).any aW=true
    ·refine fin (λb=>b=a) rfl (λb z=>by subst z; exact wa) (.inr ?_) (.inr (nl (.inl an))) λj v u nj qv qu=>?_
     ·cases fz:gJ z.1 with
      |true=>rfl
      |false=>exact(c (.inl ⟨an,fz⟩)).elim
     ·obtain⟨x,q1,q2⟩:=CQ k1 qu
      have ok:=v1.get qv q1
      rw[<-hK]
      cases x with
      |v T fr =>
       cases q2
       exact(ok.rep e.wn).mono (nq (λb _ _ z=>by subst z; exact wa) λ_ _ _ h=>h)
      |s j' =>
       have WK:j'≠i:=by
        have:=List.all_eq_true.mp ho _ (Lg nj q1)
        simpa using this
       have ok : σ[j']?=some (some v):=ok
       have q2:dr p.2 (.s j')=.ok u:=q2
       have q3:∃ws,L2.con p.2 j'=.ok ws/\u=.lst ws:=by
        dsimp only[dr]at q2
        unfold L2.con
        split at q2 <;> rename_i q3
        ·cases q2; (try rw[q3]); exact⟨_,rfl,rfl⟩
        ·cases q2; (try rw[q3]); exact⟨_,rfl,rfl⟩
        ·cases q2
       obtain⟨ws,q3,rfl⟩:=q3
       obtain⟨mj,a',zs,hj,wj,hz,rz,_⟩:=e1.con q3
       rw[ok]at hj
       cases hj
       have na:a'≠a:=λy=>by
        subst y
        exact WK (e1.dis j' i a' mj mi ok hi)
       refine .lst (bG.of ?_) (rz.mono (nq (λb _ _ z=>by subst z; exact wa) λ_ _ _ h=>h))
       rw[cQ (W:=λb=>b=a) na]
       exact hz
    ·refine fin W wa (λ_ z=>z) (.inl λ_ z=>z) (.inl λ_ z=>z) λj v u nj qv qu=>?_
     obtain⟨x,q1,q2⟩:=CQ k1 qu
     have ok:=v1.get qv q1
     rw[<-hK]
     cases x with
     |v T fr=>cases q2; exact ok.rep e.wn
     |s j' =>
      refine(an ?_).elim
      exact List.any_eq_true.mpr ⟨_,Lg nj q1,rfl⟩
  ·exact h.elim
 ·exact h.elim
end
end L2
end
section
namespace L2
open PySem PySem.Spec PyProof.Rows
section
variable {prog:Program}{w:World}{A:Around}{R:Result->Shared->Prop}{s:Shared}
end
noncomputable def CT(wi:TI)(g:TG)(src:List (Option Nat))(tc:TT)(te:TE):TE:=λσ H Q=>wi σ H λJ H1=>∀D,H1 D=none ->
 ∃W:Nat->Nat->St->Hp->Prop,(∃m,W 0 m (gP src σ) (upd H1 D (.lst [])))/\∀i m σ' H',W i m σ' H' ->
  (J.stop i H'/\JZ Q D H')\/(J.go i H'/\∀x gj,J.rR i H' x gj->g x σ' gj λσ2 H2=>tc σ2 H2 λb Li=>if b=true then te σ2 Li λv H3=>∃xs,H3 D=some (.lst xs)/\xs.length<sizeLine/\∃m',m'<m/\W (i+1) m' σ2 (upd H3 D (.lst (xs++[v])))else ∃m',m'<m/\W (i+1) m' σ2 Li)
section
variable {X:Cx}{elt tg iter cnd:Expr}{scope sc:Scope}{pos:Pos}{No N:List Str}{src:List (Option Nat)}{wi:TI}{g:TG}{te:TE}{tc:TT}
end
end L2
end
section
namespace L2
open PySem PySem.Spec PyProof.Rows
def gC:Sl->Sl
 |.dp _=>.un
 |s=>s
def cW(src:List (Option Nat))(ρ : En):En:=src.map λo=>match o with
 |some j=>gC ((ρ[j]?).getD .un)
 |none=>.un
def bU:List (Option Nat)->En->En->En
 |some j::src,.ow ts::ρi,ρ=>bU src ρi (bO j ts ρ)
 |some j::src,.rf ts::ρi,ρ=>bU src ρi (bO j ts ρ)
 |_::src,_::ρi,ρ=>bU src ρi ρ
 |_,_,ρ=>ρ
def fK:Option Sl->Bool
 |some (.ow _)=>true
 |some (.rf _)=>true
 |_=>false
def dh:List (Option Nat)->En->En->Bool
 |some j::src,s::ρi,ρ=>(!fK ρ[j]? || fK (some s))&&dh src ρi ρ
 |none::src,_::ρi,ρ=>dh src ρi ρ
 | [],_,_=>true
 |_,[],_=>false
theorem Lj{ρ : En}{i:Nat}:fK ρ[i]?=true↔Mu ρ i:=by
 constructor
 ·intro h
  unfold fK at h
  split at h <;> rename_i q
  ·exact⟨_,.inl q⟩
  ·exact⟨_,.inr q⟩
  ·cases h
 ·rintro⟨ts,h|h⟩ <;> rw[h] <;> rfl
theorem CV:∀{src:List (Option Nat)} {ρi ρ : En} {k j:Nat},dh src ρi ρ = true->src[k]?=some (some j)->Mu ρ j->Mu ρi k
 | [],_,_,_,_,_,h,_=>by simp at h
 |some j'::src,s::ρi,ρ,k,j,h,hk,m=>by
  unfold dh at h
  rw[Bool.and_eq_true]at h
  cases k with
  |zero =>
   simp at hk
   subst hk
   have h1:=h.1
   rw[Lj.mpr m]at h1
   have h1:fK (some s)=true:=by simpa using h1
   cases s with
   |un=>cases h1
   |sh _=>cases h1
   |dp _=>cases h1
   |ow ts=>exact⟨ts,.inl rfl⟩
   |rf ts=>exact⟨ts,.inr rfl⟩
  |succ k =>
   obtain⟨ts,q⟩:=CV (k:=k) h.2 (by simpa using hk) m
   exact⟨ts,by simpa using q⟩
 |none::src,s::ρi,ρ,k,j,h,hk,m=>by
  unfold dh at h
  cases k with
  |zero=>simp at hk
  |succ k =>
   obtain⟨ts,q⟩:=CV (k:=k) h (by simpa using hk) m
   exact⟨ts,by simpa using q⟩
 |some j'::src,[],ρ,k,j,h,hk,m=>by unfold dh at h; cases h
 |none::src,[],ρ,k,j,h,hk,m=>by unfold dh at h; cases h
def Inj(src:List (Option Nat)):Prop:=∀(k k' j:Nat),src[k]?=some (some j)->src[k']?=some (some j)->k=k'
theorem WL{src:List (Option Nat)}(h:(src.filterMap id).Nodup):Inj src:=by
 induction src with
 |nil=>intro k k' j h1; simp at h1
 |cons o src ih =>
  have tail:Inj src:=by
   cases o with
   |none=>exact ih (by simpa using h)
   |some j=>exact ih (by simpa using(List.nodup_cons.mp (by simpa using h)).2)
  intro k k' j h1 h2
  have no:∀{m:Nat},o=some j->src[m]?=some (some j)->False:=λ{m} e q=>by
   subst e
   have n:=(List.nodup_cons.mp (show(j::src.filterMap id).Nodup by simpa using h)).1
   exact n (List.mem_filterMap.mpr ⟨some j,List.mem_of_getElem? q,rfl⟩)
  cases k with
  |zero =>
   have e1:o=some j:=by simpa using h1
   cases k' with
   |zero=>rfl
   |succ k'=>exact(no e1 (by simpa using h2)).elim
  |succ k =>
   cases k' with
   |zero=>exact(no (by simpa using h2) (by simpa using h1)).elim
   |succ k'=>rw[tail k k' j (by simpa using h1) (by simpa using h2)]
theorem Lk{ρ : En}{i j:Nat}{ts:List Tr}(h:j≠i):(bO i ts ρ)[j]?=ρ[j]? := by
 unfold bO
 split
 ·exact List.getElem?_set_ne (Ne.symm h)
 ·exact List.getElem?_set_ne (Ne.symm h)
 ·rfl
theorem WM{ρ ρ':En}{i:Nat}{ts:List Tr}(h : ρ[i]?=ρ'[i]?):(bO i ts ρ)[i]?=(bO i ts ρ')[i]? := by
 unfold bO
 rw[h]
 cases q : ρ'[i]? with
 |none=>dsimp only; rw[h,q]
 |some s =>
  have l':i < ρ'.length:=(List.getElem?_eq_some_iff.mp q).1
  have l:i < ρ.length:=(List.getElem?_eq_some_iff.mp (h.trans q)).1
  cases s with
  |un=>dsimp only; rw[h,q]
  |sh _=>dsimp only; rw[h,q]
  |dp _=>dsimp only; rw[h,q]
  |ow _=>dsimp only; rw[sX l,sX l']
  |rf _=>dsimp only; rw[sX l,sX l']
theorem qG:∀(src:List (Option Nat)) (ρi ρ : En),(bU src ρi ρ).length = ρ.length
 | [],ρi,ρ=>by unfold bU; rfl
 |o::src,[],ρ=>by cases o <;> (unfold bU; rfl)
 |none::src,s::ρi,ρ=>by unfold bU; exact qG src ρi ρ
 |some j::src,.un::ρi,ρ=>by unfold bU; exact qG src ρi ρ
 |some j::src,.sh _::ρi,ρ=>by unfold bU; exact qG src ρi ρ
 |some j::src,.dp _::ρi,ρ=>by unfold bU; exact qG src ρi ρ
 |some j::src,.ow ts::ρi,ρ=>by unfold bU; rw[qG src ρi,Cv]
 |some j::src,.rf ts::ρi,ρ=>by unfold bU; rw[qG src ρi,Cv]
theorem qH:∀{src:List (Option Nat)} {ρi ρ : En} {j:Nat} {s:Sl},Inj src->(bU src ρi ρ)[j]?=some s ->
  (∃(k:Nat) (ts:List Tr),src[k]?=some (some j)/\(ρi[k]?=some (.ow ts)\/ρi[k]?=some (.rf ts))/\(bO j ts ρ)[j]?=some s)\/((∀k:Nat,src[k]?=some (some j)->¬Mu ρi k)/\ρ[j]?=some s)
 | [],ρi,ρ,j,s,_,h=>by
  unfold bU at h
  exact .inr ⟨λk q=>by simp at q,h⟩
 |o::src,[],ρ,j,s,_,h=>by
  have h : ρ[j]?=some s:=by cases o <;> (unfold bU at h; exact h)
  refine .inr ⟨λk _ m=>?_,h⟩
  obtain⟨_,q|q⟩:=m <;> simp at q
 |o::src,x::ρi,ρ,j,s,I,h=>by
  have It:Inj src:=λk k' j h1 h2=>by
   have:=I (k+1) (k'+1) j (by simpa using h1) (by simpa using h2)
   omega
  have keep:(o=none\/fK (some x)=false)->(bU src ρi ρ)[j]?=some s->(∃(k:Nat) (ts:List Tr),(o::src)[k]?=some (some j)/\((x::ρi)[k]?=some (.ow ts)\/(x::ρi)[k]?=some (.rf ts))/\(bO j ts ρ)[j]?=some s)\/((∀k:Nat,(o::src)[k]?=some (some j)->¬Mu (x::ρi) k)/\ρ[j]?=some s):=λc h=>by
   rcases qH It h with⟨k,ts,q1,q2,q3⟩|⟨n,q⟩
   ·exact .inl ⟨k+1,ts,by simpa using q1,by simpa using q2,q3⟩
   ·refine .inr ⟨λk qk m=>?_,q⟩
    cases k with
    |zero =>
     rcases c with c|c
     ·subst c; simp at qk
     ·rw[<-Lj]at m
      have m:fK (some x)=true:=m
      rw[c]at m
      cases m
    |succ k =>
     obtain⟨ts,m⟩:=m
     exact n k (by simpa using qk) ⟨ts,by simpa using m⟩
  have put:∀(i:Nat) (ts:List Tr),o=some i->(x=.ow ts\/x=.rf ts)->(bU src ρi (bO i ts ρ))[j]?=some s->(∃(k:Nat) (ts:List Tr),(o::src)[k]?=some (some j)/\((x::ρi)[k]?=some (.ow ts)\/(x::ρi)[k]?=some (.rf ts))/\(bO j ts ρ)[j]?=some s)\/((∀k:Nat,(o::src)[k]?=some (some j)->¬Mu (x::ρi) k)/\ρ[j]?=some s):=λi ts eo ex h=>by
   rcases qH It h with⟨k,us,q1,q2,q3⟩|⟨n,q⟩
   ·have ne:j≠i:=λz=>by
     subst z
     have:=I 0 (k+1) j (by simpa using eo) (by simpa using q1)
     omega
    refine .inl ⟨k+1,us,by simpa using q1,by simpa using q2,?_⟩
    rw[<-WM (Lk ne)]
    exact q3
   ·by_cases e:j=i
    ·subst e
     refine .inl ⟨0,ts,by simpa using eo,?_,q⟩
     rcases ex with rfl|rfl
     ·exact .inl rfl
     ·exact .inr rfl
    ·rw[Lk e]at q
     refine .inr ⟨λk qk m=>?_,q⟩
     cases k with
     |zero =>
      rw[eo]at qk
      simp at qk
      exact e qk.symm
     |succ k =>
      obtain⟨ts,m⟩:=m
      exact n k (by simpa using qk) ⟨ts,by simpa using m⟩
  cases o with
  |none=>unfold bU at h; exact keep (.inl rfl) h
  |some i =>
   cases x with
   |un=>unfold bU at h; exact keep (.inr rfl) h
   |sh _=>unfold bU at h; exact keep (.inr rfl) h
   |dp _=>unfold bU at h; exact keep (.inr rfl) h
   |ow ts=>unfold bU at h; exact put i ts rfl (.inl rfl) h
   |rf ts=>unfold bU at h; exact put i ts rfl (.inr rfl) h
theorem vm{src:List (Option Nat)}{ρ : En}{k:Nat}{s:Sl}(h:(cW src ρ)[k]?=some s)(n:s ≠ .un):∃j,src[k]?=some (some j)/\ρ[j]?=some s:=by
 unfold cW at h
 rw[List.getElem?_map]at h
 cases q:src[k]? with
 |none=>rw[q]at h; cases h
 |some o =>
  rw[q]at h
  cases o with
  |none=>cases h; exact(n rfl).elim
  |some j =>
   refine⟨j,rfl,?_⟩
   have h:gC ((ρ[j]?).getD .un)=s:=Option.some.inj h
   cases z : ρ[j]? with
   |none=>rw[z]at h; exact(n h.symm).elim
   |some s' =>
    rw[z]at h
    have h:gC s'=s:=h
    cases s' <;> first|exact congrArg some h|exact(n h.symm).elim
theorem xZ{src:List (Option Nat)}{ρ : En}{k:Nat}{ts:List Tr}(h:(cW src ρ)[k]?=some (.dp ts)):False:=by
 unfold cW at h
 rw[List.getElem?_map]at h
 cases q:src[k]? with
 |none=>rw[q]at h; cases h
 |some o =>
  rw[q]at h
  cases o with
  |none=>cases h
  |some j =>
   have h:gC ((ρ[j]?).getD .un)=.dp ts:=Option.some.inj h
   cases z:(ρ[j]?).getD Sl.un <;> rw[z]at h <;> cases h
theorem tB{src:List (Option Nat)}{ρi ρ : En}{j:Nat}{ts:List Tr}(I:Inj src)(h:(bU src ρi ρ)[j]?=some (.dp ts)) : ρ[j]?=some (.dp ts):=by
 rcases qH I h with⟨k,us,_,_,q⟩|⟨_,q⟩
 ·exact o9 q
 ·exact q
theorem Ln{src:List (Option Nat)}{σ : St}{k j:Nat}(h:src[k]?=some (some j)):(gP src σ)[k]?=some ((σ[j]?).join):=by
 unfold gP
 rw[List.getElem?_map,h]
 rfl
end L2
end
section
namespace L2
open PySem PySem.Spec PyProof.Rows
def OU(src:List (Option Nat))(ρ : En)(σ : St)(F:Nat->List Addr)(b:Addr):Prop:=(∃j:Nat,Mu ρ j/\σ[j]?=some (some (.ref b))/\∀k:Nat,src[k]? ≠ some (some j))\/∃(j:Nat) (ts:List Tr),ρ[j]?=some (.dp ts)/\b∈F j
open Classical in
def fZ(t:Tx)(src:List (Option Nat))(ρ : En)(σ : St)(F:Nat->List Addr)(H1:Hp)(D:Addr)(xs:List V):Tx:=⟨t.K,t.Z,t.R,t.H0,λb=>if b=D then some (.lst xs)else if OU src ρ σ F b then H1 b else t.B b,λ_=>False⟩
section
variable {t:Tx}{src:List (Option Nat)}{ρ1:En}{σ : St}{F:Nat->List Addr}{H1:Hp}{D:Addr}{W:Addr->Prop}
theorem pA{xs:List V}:(fZ t src ρ1 σ F H1 D xs).B D=some (.lst xs):=if_pos rfl
theorem pB{xs:List V}{b:Addr}(h1:b≠D)(h2:¬OU src ρ1 σ F b):(fZ t src ρ1 σ F H1 D xs).B b=t.B b:=by
 unfold fZ
 dsimp only
 rw[if_neg h1,if_neg h2]
theorem qI{xs:List V}{b:Addr}(h1:b≠D)(h2:OU src ρ1 σ F b):(fZ t src ρ1 σ F H1 D xs).B b=H1 b:=by
 unfold fZ
 dsimp only
 rw[if_neg h1,if_pos h2]
theorem CW{k:Nat}(h:Mu (cW src ρ1) k):∃j,src[k]?=some (some j)/\Mu ρ1 j:=by
 obtain⟨ts,q|q⟩:=h
 ·obtain⟨j,h1,h2⟩:=vm q (by intro z; cases z)
  exact⟨j,h1,ts,.inl h2⟩
 ·obtain⟨j,h1,h2⟩:=vm q (by intro z; cases z)
  exact⟨j,h1,ts,.inr h2⟩
theorem CZ{k j:Nat}{v:V}(h:src[k]?=some (some j))(q:(gP src σ)[k]?=some (some v)) : σ[j]?=some (some v):=by
 rw[Ln h]at q
 have q:=Option.some.inj q
 cases z : σ[j]? with
 |none=>rw[z]at q; cases q
 |some o =>
  rw[z]at q
  have q:o=some v:=q
  rw[q]
theorem yc{k j:Nat}{v:V}(h:src[k]?=some (some j))(q : σ[j]?=some (some v)):(gP src σ)[k]?=some (some v):=by
 rw[Ln h,q]
 rfl
theorem OU.tab{b:Addr}(dD:EOF t W ρ1 σ H1 F)(z:Tb t.K b):¬OU src ρ1 σ F b:=by
 rintro(⟨j,m,q,_⟩|⟨j,ts,d',y⟩)
 ·obtain⟨xs,h⟩:=aH.K8 ⟨F,dD⟩ m q
  exact dD.tab.ok.ne z h rfl
 ·obtain⟨a,xs,_,d⟩:=dD.dp j ts d'
  exact d.nt dD.tab.ok z y
theorem WQ{xs:List V}{b:Addr}(dD:EOF t W ρ1 σ H1 F)(hD:H1 D=none)(z:Tb t.K b):(fZ t src ρ1 σ F H1 D xs).B b=none:=by
 have nD:b≠D:=λy=>by
  obtain⟨ps,h⟩:=dD.tab.ok.dj z
  rw[y,hD]at h
  cases h
 rw[pB nD (OU.tab dD z)]
 exact dD.tab.B b z
theorem EOF.enter(I:Inj src)(dD:EOF t W ρ1 σ H1 F)(hD:H1 D=none):aH (fZ t src ρ1 σ F H1 D []) (λb=>W b\/b=D) (cW src ρ1) (gP src σ) (upd H1 D (.lst [])):=by
 have e1:aH t W ρ1 σ H1:=⟨F,dD⟩
 have e2:=(e1.hide (cU hD (.lst [])) hD fD).ok
 have tf:=e2.tab
 refine⟨λ_=>[],?_,e2.zw,e2.z0,e2.wl,e2.f0,e2.n0,λk u h=>?_,λk ts h=>?_,λk ts h=>?_,λk k' a m1 m2 q1 q2=>?_,λb o h=>?_,λk a m q=>?_,λk ts h=>(xZ h).elim,λk _ ts _ _ h=>(xZ h).elim,λk _ ts _ h=>(xZ h).elim,λk ts h=>(xZ h).elim,⟨tf.ok,tf.w,tf.r,λb z=>WQ dD hD z⟩⟩
 ·unfold cW gP
  rw[List.length_map,List.length_map]
 ·obtain⟨j,h1,h2⟩:=vm h (by intro z; cases z)
  obtain⟨v,q1,q2⟩:=e2.sh j u h2
  exact⟨v,yc h1 q1,q2⟩
 ·obtain⟨j,h1,h2⟩:=vm h (by intro z; cases z)
  obtain⟨a,xs,q1,q2⟩:=e2.ow j ts h2
  exact⟨a,xs,yc h1 q1,q2⟩
 ·obtain⟨j,h1,h2⟩:=vm h (by intro z; cases z)
  obtain⟨a,xs,q1,q2⟩:=e2.rf j ts h2
  exact⟨a,xs,yc h1 q1,q2⟩
 ·obtain⟨j,h1,n1⟩:=CW m1
  obtain⟨j',h2,n2⟩:=CW m2
  have:=e2.dis j j' a n1 n2 (CZ h1 q1) (CZ h2 q2)
  subst this
  exact I k k' j h1 h2
 ·by_cases h1:b=D
  ·subst h1
   rw[pA]at h
   rw[fD]
   exact h
  ·by_cases h2:OU src ρ1 σ F b
   ·rw[qI h1 h2]at h
    rw[bQ h1]
    exact h
   ·rw[pB h1 h2]at h
    exact e2.pn b o h
 ·obtain⟨j,h1,n1⟩:=CW m
  have q:=CZ h1 q
  have wa:=e1.addr n1 q
  have nD:a≠D:=λz=>by subst z; exact e1.wn a wa hD
  have nO:¬OU src ρ1 σ F a:=by
   rintro(⟨j',m',q',u'⟩|⟨j',ts,d',z⟩)
   ·have:=e1.dis j j' a n1 m' q q'
    subst this
    exact u' k h1
   ·exact dD.dm j' j ts a d' n1 q z
  rw[pB nD nO]
  exact e1.pd j a n1 q
theorem aH.WR{xs ys:List V}{ρ : En}{τ : St}{H:Hp}{W':Addr->Prop}(e:aH (fZ t src ρ1 σ F H1 D xs) W' ρ τ H)(w:W' D)(h0:t.H0 D=none):aH (fZ t src ρ1 σ F H1 D ys) W' ρ τ (upd H D (.lst ys)):=by
 have ne:∀i a,Mu ρ i -> τ[i]?=some (some (.ref a))->a≠D:=λi a m q z=>by
  subst z
  have:=e.pd i a m q
  rw[pA]at this
  cases this
 obtain⟨F',e⟩:=e
 have Lp:∀i ts,ρ[i]?=some (Sl.dp ts)->∀b∈F' i,b≠D:=λi ts h b hb z=>by
  subst z
  have:=e.db i ts h b hb
  rw[pA]at this
  cases this
 refine⟨F',e.len,e.zw,e.z0,λb z=>?_,λb o h n=>?_,λb h=>?_,λi u h=>?_,λi ts h=>?_,λi ts h=>?_,e.dis,λb o h=>?_,λi a m q=>?_,λi ts h=>?_,e.dd,e.dm,λi ts h b hb=>?_,⟨e.tab.ok.upd (e.pn D _ pA),e.tab.w,e.tab.r,λb z=>?_⟩⟩
 ·by_cases q:b=D
  ·subst q; exact .inl ⟨ys,fD⟩
  ·unfold Lt; rw[bQ q]; exact e.wl b z
 ·rw[bQ]
  ·exact e.f0 b o h n
  ·rintro rfl
   have h:t.H0 b=some o:=h
   rw[h0]at h
   cases h
 ·by_cases q:b=D
  ·subst q; exact h0
  ·rw[bQ q]at h; exact e.n0 b h
 ·rw[qm w]
  exact e.sh i u h
 ·obtain⟨a,zs,q1,q2,q3,q4,q5⟩:=e.ow i ts h
  rw[qm w]
  exact⟨a,zs,q1,q2,q3,by rw[bQ (ne i a ⟨ts,.inl h⟩ q1)]; exact q4,q5⟩
 ·obtain⟨a,zs,q1,q2,q3,q4,q5⟩:=e.rf i ts h
  rw[qm w]
  exact⟨a,zs,q1,q2,q3,by rw[bQ (ne i a ⟨ts,.inr h⟩ q1)]; exact q4,q5⟩
 ·by_cases h1:b=D
  ·subst h1
   rw[pA]at h
   rw[fD]
   exact h
  ·rw[bQ h1]
   refine e.pn b o ?_
   by_cases h2:OU src ρ1 σ F b
   ·rw[qI h1 h2]at h ⊢; exact h
   ·rw[pB h1 h2]at h ⊢; exact h
 ·have nD:=ne i a m q
  have z:=e.pd i a m q
  by_cases h2:OU src ρ1 σ F a
  ·rw[qI nD h2]at z ⊢; exact z
  ·rw[pB nD h2]at z ⊢; exact z
 ·obtain⟨a,zs,q1,d⟩:=e.dp i ts h
  exact⟨a,zs,q1,d.move rfl rfl (by rw[qm w]; exact Same.refl _) (λb hb=>by obtain⟨_,_,_,ww,_⟩:=d; exact(ww b hb).1) λb o hb q=>by rw[bQ (Lp i ts h b hb)]; exact q⟩
 ·have nD:=Lp i ts h b hb
  have z:=e.db i ts h b hb
  by_cases h2:OU src ρ1 σ F b
  ·rw[qI nD h2]at z ⊢; exact z
  ·rw[pB nD h2]at z ⊢; exact z
 ·have y:=e.tab.B b z
  have nD:b≠D:=λq=>by
   subst q
   rw[pA]at y
   cases y
  by_cases h2:OU src ρ1 σ F b
  ·rw[qI nD h2]at y ⊢; exact y
  ·rw[pB nD h2]at y ⊢; exact y
theorem EOF.leave{xs:List V}{ρ : En}{τ : St}{H:Hp}{Wx:Addr->Prop}{js:List Nat}(I:Inj src)(dD:EOF t W ρ1 σ H1 F)(hD:H1 D=none)(e:aH (fZ t src ρ1 σ F H1 D xs) (λb=>W b\/b=D) ρ τ H)(nx:∀b o,¬W b->H1 b=some o->H b=some o)
  (hj:∀k j:Nat,src[k]?=some (some j)->k∉js) (ag:∀k,k∉js -> τ[k]?=(gP src σ)[k]?) (so:dh src ρ ρ1=true) (w1:∀b,W b->Wx b) (w2:∀b,Wx b->W b\/b=D):EOF t Wx (bU src ρ ρ1) σ H F:=by
 have e1:aH t W ρ1 σ H1:=⟨F,dD⟩
 have m1:Same (aC W H1) (aC Wx H):=λb o h=>by
  obtain⟨n,h⟩:=gF h
  rw[cQ]
  ·exact nx b o n h
  ·intro z
   rcases w2 b z with z|rfl
   ·exact n z
   ·rw[hD]at h; cases h
 have m2:Same (aC (λb=>W b\/b=D) H) (aC Wx H):=nq (λb _ _ z=>w2 b z) λ_ _ _ h=>h
 have yd:∀j,Mu (bU src ρ ρ1) j->Mu ρ1 j:=λj m=>by
  obtain⟨ts,m|m⟩:=m <;> rcases qH I m with⟨k,us,q1,q2,q3⟩|⟨n,q⟩
  ·exact tu ⟨ts,.inl q3⟩
  ·exact⟨ts,.inl q⟩
  ·exact tu ⟨ts,.inr q3⟩
  ·exact⟨ts,.inr q⟩
 have inner:∀(k j:Nat) (ts:List Tr) (a:Addr),src[k]?=some (some j)->(ρ[k]?=some (.ow ts)\/ρ[k]?=some (.rf ts)) -> σ[j]?=some (some (.ref a))->∃ys,H a=some (.lst ys)/\aF t.K (aC Wx H) ys ts:=λk j ts a q1 q2 q3=>by
  have z:=ag k (hj k j q1)
  rw[yc q1 q3]at z
  rcases q2 with q2|q2
  ·obtain⟨c,ys,h1,h2,h3,h4,h5⟩:=e.ow k ts q2
   rw[z]at h1
   cases h1
   exact⟨ys,h4,h5.mono m2⟩
  ·obtain⟨c,ys,h1,h2,h3,h4,h5⟩:=e.rf k ts q2
   rw[z]at h1
   cases h1
   exact⟨ys,h4,h5.mono m2⟩
 have outer:∀(j:Nat) (a:Addr) (ys:List V),Mu ρ1 j->(∀k,src[k]?=some (some j)->¬Mu ρ k) -> σ[j]?=some (some (.ref a))->H1 a=some (.lst ys)->H a=some (.lst ys):=λj a ys m n q h=>by
  have wa:=e1.addr m q
  have nD:a≠D:=λz=>by subst z; exact e1.wn a wa hD
  refine e.pn a _ ?_
  rw[qI nD (.inl ⟨j,m,q,λk z=>n k z (CV so z m)⟩)]
  exact h
 refine⟨by rw[qG]; exact e1.len,λb z=>w1 b (e1.zw b z),e1.z0,λb z=>e.wl b (w2 b z),e.f0,e.n0,λj u h=>?_,λj ts h=>?_,λj ts h=>?_,λj k a n1 n2=>e1.dis j k a (yd j n1) (yd k n2),λb o h=>?_,λj a m=>e1.pd j a (yd j m),λj ts h=>?_,λj k ts us n h1 h2=>dD.dd j k ts us n (tB I h1) (tB I h2),λj k ts c h1 m q=>dD.dm j k ts c (tB I h1) (yd k m) q,λj ts h=>dD.db j ts (tB I h),⟨e.tab.ok,λb z=>w1 b (e1.tab.w b z),e1.tab.r,e1.tab.B⟩⟩
 ·have h' : ρ1[j]?=some (.sh u):=by
   rcases qH I h with⟨k,us,q1,q2,q3⟩|⟨n,q⟩
   ·rcases qF q3 with⟨ne,_⟩|⟨_,⟨_,_,z⟩|⟨_,_,z⟩|⟨_,q⟩⟩
    ·exact(ne rfl).elim
    ·cases z
    ·cases z
    ·exact q
   ·exact q
  obtain⟨v,q1,q2⟩:=e1.sh j u h'
  exact⟨v,q1,q2.mono m1⟩
 ·rcases qH I h with⟨k,us,q1,q2,q3⟩|⟨n,q⟩
  ·rcases qF q3 with⟨ne,_⟩|⟨_,⟨ts0,q0,z⟩|⟨_,_,z⟩|⟨nm,q⟩⟩
   ·exact(ne rfl).elim
   ·cases z
    obtain⟨a,ys,h1,h2,h3,h4,h5⟩:=e1.ow j ts0 q0
    obtain⟨zs,k1,k2⟩:=inner k j ts a q1 q2 h1
    exact⟨a,zs,h1,w1 a h2,h3,k1,k2⟩
   ·cases z
   ·exact(nm ⟨ts,.inl q⟩).elim
  ·obtain⟨a,ys,h1,h2,h3,h4,h5⟩:=e1.ow j ts q
   exact⟨a,ys,h1,w1 a h2,h3,outer j a ys ⟨ts,.inl q⟩ n h1 h4,h5.mono m1⟩
 ·rcases qH I h with⟨k,us,q1,q2,q3⟩|⟨n,q⟩
  ·rcases qF q3 with⟨ne,_⟩|⟨_,⟨_,_,z⟩|⟨ts0,q0,z⟩|⟨nm,q⟩⟩
   ·exact(ne rfl).elim
   ·cases z
   ·cases z
    obtain⟨a,ys,h1,h2,h3,h4,h5⟩:=e1.rf j ts0 q0
    obtain⟨zs,k1,k2⟩:=inner k j ts a q1 q2 h1
    exact⟨a,zs,h1,w1 a h2,h3,k1,k2⟩
   ·exact(nm ⟨ts,.inr q⟩).elim
  ·obtain⟨a,ys,h1,h2,h3,h4,h5⟩:=e1.rf j ts q
   exact⟨a,ys,h1,w1 a h2,h3,outer j a ys ⟨ts,.inr q⟩ n h1 h4,h5.mono m1⟩
 ·have nD:b≠D:=λz=>by
   subst z
   rw[e1.K1 hD]at h
   cases h
  have nO:¬OU src ρ1 σ F b:=by
   rintro(⟨j,m,q,_⟩|⟨j,ts,d',z⟩)
   ·rw[e1.pd j b m q]at h
    cases h
   ·rw[dD.db j ts d' b z]at h
    cases h
  refine e.pn b o ?_
  rw[pB nD nO]
  exact h
 ·have hd:=tB I h
  obtain⟨a,ys,q1,d⟩:=dD.dp j ts hd
  have ww:∀b∈F j,W b:=λb hb=>by obtain⟨_,_,_,ww,_⟩:=d; exact(ww b hb).1
  refine⟨a,ys,q1,d.move rfl rfl m1 (λb hb=>w1 b (ww b hb)) λb o hb q=>?_⟩
  have nD:b≠D:=λz=>by subst z; exact e1.wn b (ww b hb) hD
  refine e.pn b o ?_
  rw[qI nD (.inr ⟨j,ts,hd,hb⟩)]
  exact q
end
def cN:Rv->Rs Tr
 |.v T _=>.ok T
 |.s _=>.bad
theorem WT(r:Rv)(c:Str):cN r ≠ .ex c:=by cases r <;> (intro z; cases z)
def nP(g:GF)(c:BF)(f:EF):List Tr->En->Rs (List Tr × En)
 | [],ρ=>.ok ([],ρ)
 |u::us,ρ=>(g u ρ).bind λρ1=>(c ρ1).bind λb=>if b.1=true then(f b.2).bind λp=>(cN p.1).bind λT=>(nP g c f us p.2).bind λz=>.ok (T::z.1,z.2)else nP g c f us b.2
def jl(src:List (Option Nat))(fi:IF)(g:GF)(c:BF)(f:EF):EF:=λρ=>(fi ρ).bind λp=>if p.1.length<=100000 then(bW (nP g c f p.1 (cW src p.2))).bind λz=>if dh src z.2 p.2=true then .ok (.v (.lst z.1) true,bU src z.2 p.2)else .bad else .bad
theorem WW{t:Tx}{wi:TI}{g:TG}{src:List (Option Nat)}{tc:TT}{te:TE}{fi:IF}{gf:GF}{c:BF}{f:EF}{js:List Nat}(hi:SI t wi fi)(I:Inj src)(hj:∀k j:Nat,src[k]?=some (some j)->k∉js)(ng:∀T ρ c,gf T ρ ≠ .ex c)
  (hg:∀t':Tx,t'.K=t.K->(∀c,¬t'.EX c)->SG t' g gf js) (hc:∀t':Tx,t'.K=t.K->(∀c,¬t'.EX c)->ST t' tc c) (he:∀t':Tx,t'.K=t.K->(∀c,¬t'.EX c)->SE t' te f):SE t (CT wi g src tc te) (jl src fi gf c f):=λW ρ σ H Q e h=>by
 refine hi W ρ σ H _ e (Rs.aO (Rs.aG h) λp h J H1 e1 s1 it=>?_)
 obtain⟨us,ρ1⟩:=p
 dsimp only at h it e1
 split at h
 case isFalse=>exact h.elim
 rename_i hlen
 intro D hD
 have h:=CK (Rs.aG h)
 obtain⟨F,dD⟩:=id e1
 have wD:∀b,W b->b≠D:=λb w z=>by subst z; exact e1.wn b w hD
 have WX:t.H0 D=none:=e1.n0 D hD
 refine⟨λi m τ H'=>m=us.length-i/\i<=us.length/\∃ρ' xs acc,aH (fZ t src ρ1 σ F H1 D xs) (λb=>W b\/b=D) ρ' τ H'/\aF t.K (aC (λb=>W b\/b=D) H') xs acc/\xs.length<=i/\(∀b o,¬W b->H1 b=some o->H' b=some o)/\(∀k,k∉js -> τ[k]?=(gP src σ)[k]?) /\
   (nP gf c f (us.drop i) ρ').post (λ_=>False) (λz=>(if dh src z.2 ρ1=true then .ok (.v (.lst (acc++z.1)) true,bU src z.2 ρ1)else .bad:Rs (Rv × En)).post t.EX (λp=>∀v H',aH t W p.2 σ H'->bA W H H'->eN t W p.2 σ H H' v p.1->Q v H')),?_,?_⟩
 ·refine⟨us.length,by simp,Nat.zero_le _,cW src ρ1,[],[],dD.enter I hD,.nil,Nat.le_refl _,λb o _ q=>?_,λ_ _=>rfl,?_⟩
  ·rw[bQ (lR q hD)]; exact q
  ·rw[List.drop_zero]; exact h
 ·rintro i m τ H2 ⟨rfl,hi,ρ2,xs,acc,e2,r2,l2,n2,a2,h2⟩
  have sm:Same (aC W H1) (aC (λb=>W b\/b=D) H2):=λb o q=>by
   obtain⟨nw,q⟩:=gF q
   rw[cQ]
   ·exact n2 b o nw q
   ·rintro(z|rfl)
    ·exact nw z
    ·rw[hD]at q; cases q
  have q:=it _ H2 sm e2.wl i
  by_cases hlt:i<us.length
  ·rw[List.drop_eq_getElem_cons hlt]at h2
   obtain⟨go,y⟩:=q.2 us[i] (by simp[hlt])
   refine .inr ⟨go,λx H3 yl=>?_⟩
   obtain⟨s3,r3⟩:=y x H3 yl
   have e3:=e2.grow s3
   refine hg (fZ t src ρ1 σ F H1 D xs) rfl (λ_=>id) _ ρ2 τ H3 x us[i] _ e3 r3 (Rs.aO (iV (Rs.aG h2) (ng _ _)) λρ4 h σ4 e4 a4=>?_)
   refine hc (fZ t src ρ1 σ F H1 D xs) rfl (λ_=>id) _ ρ4 σ4 H3 _ e4 (Rs.aO (Rs.aG h) λb h H5 e5 s5=>?_)
   have lX:bA (λb=>W b\/b=D) H2 H5:=(bA.of s3).trans s5
   have n5:∀b o,¬W b->H1 b=some o->H5 b=some o:=λb o nw qb=>by
    have nD:b≠D:=lR qb hD
    refine lX.keep b o ?_ (n2 b o nw qb)
    rintro(z|z)
    ·exact nw z
    ·exact nD z
   have a5:∀k,k∉js -> σ4[k]?=(gP src σ)[k]? := λk nk=>(a4 k nk).trans (a2 k nk)
   split at h
   ·rename_i cb
    rw[if_pos cb]
    refine he (fZ t src ρ1 σ F H1 D xs) rfl (λ_=>id) _ b.2 σ4 H5 _ e5 (Rs.aO (Rs.aG h) λp h v H6 e6 s6 v6=>?_)
    obtain⟨T,kT,h⟩:=cA (Rs.aG h) (WT _)
    have rv:Rep t.K (aC (λb=>W b\/b=D) H6) v T:=by
     obtain⟨r,ρ7⟩:=p
     cases r with
     |s i=>cases kT
     |v U fr =>
      cases kT
      exact cV.rep (K:=t.K) e5.wn v6.1
    refine⟨xs,e6.pn D _ pA,Nat.lt_of_le_of_lt (show xs.length<=100000 by omega) (by decide),us.length-(i+1),by omega,rfl,hlt,p.2,xs++[v],acc++[T],e6.WR (.inr rfl) WX,?_,by rw[List.length_append]; simp; omega,λb o nw q=>?_,a5,?_⟩
    ·rw[qm (.inr rfl)]
     exact(r2.mono (lX.trans s6).off).app (.cons rv .nil)
    ·have nD:b≠D:=lR q hD
     rw[bQ nD]
     refine s6.keep b o ?_ (n5 b o nw q)
     rintro(z|z)
     ·exact nw z
     ·exact nD z
    ·refine Rs.aO (Rs.aG h) λz h=>?_
     rw[List.append_assoc]
     exact h
   ·rename_i cb
    rw[if_neg cb]
    exact⟨us.length-(i+1),by omega,rfl,hlt,b.2,xs,acc,e5,r2.mono lX.off,by omega,n5,a5,h⟩
  ·have z:i=us.length:=by omega
   subst z
   rw[List.drop_length]at h2
   have h2:(if dh src ρ2 ρ1=true then .ok (.v (.lst (acc++[])) true,bU src ρ2 ρ1)else .bad:Rs (Rv × En)).post t.EX _:=h2
   refine .inl ⟨q.1 rfl,?_⟩
   split at h2
   ·rename_i so
    rw[List.append_nil]at h2
    have hxs:H2 D=some (.lst xs):=e2.pn D _ pA
    have eW:aH t W (bU src ρ2 ρ1) σ H2:=⟨F,dD.leave (Wx:=W) I hD e2 n2 hj a2 so (λ_ w=>w) λ_ w=>.inl w⟩
    have eD:oX t W D (bU src ρ2 ρ1) σ H2:=⟨F,dD.leave (Wx:=λb=>W b\/b=D) I hD e2 n2 hj a2 so (λ_ w=>.inl w) λ_ w=>w,λi ts hi z=>by
     obtain⟨c,ys,_,bs,_,_,ww,_⟩:=dD.dp i ts (tB I hi)
     exact wD D (ww D z).1 rfl⟩
    have st:bA W H1 H2:=⟨n2,λb q=>by
     cases z:H1 b with
     |none=>rfl
     |some o =>
      by_cases w:W b
      ·exact((e2.wl b (.inl w)).ne q).elim
      ·rw[n2 b o w z]at q
       cases q⟩
    refine h2 (.ref D) H2 eW (s1.trans st) ⟨⟨D,xs,acc,rfl,rfl,s1.dom D hD,hxs,r2.mono λb o q=>?_⟩,λU a _ ea=>?_⟩
    ·obtain⟨nb,q⟩:=gF q
     rw[off_ne λz=>nb (.inr z),cQ λz=>nb (.inl z)]
     exact q
    ·cases ea
     exact eD
   ·exact h2.elim
def jm:BF:=λρ=>.ok (true,ρ)
theorem WY{wi:TI}{g:TG}{src:List (Option Nat)}{te:TE}:qd wi g src te=CT wi g src (λ_ H Q=>Q true H) te:=by
 funext σ H Q
 simp only[qd,CT,if_true]
theorem W4{t:Tx}{wi:TI}{g:TG}{src:List (Option Nat)}{te:TE}{fi:IF}{gf:GF}{f:EF}{js:List Nat}(hi:SI t wi fi)(I:Inj src)(hj:∀k j:Nat,src[k]?=some (some j)->k∉js)(ng:∀T ρ c,gf T ρ ≠ .ex c)
  (hg:∀t':Tx,t'.K=t.K->(∀c,¬t'.EX c)->SG t' g gf js) (he:∀t':Tx,t'.K=t.K->(∀c,¬t'.EX c)->SE t' te f):SE t (qd wi g src te) (jl src fi gf jm f):=by
 rw[WY]
 exact WW hi I hj ng hg (λt' _ _ W ρ σ H Q e h=>h H e (bA.refl _ _)) he
end L2
end
section
namespace L2
open PySem PySem.Spec PyProof.Rows
theorem PS.oE{X:Cx}{st:Stmt}{t:TS}(h:PS X.oE st t):PS X st t:=⟨λpins s σ H D I hw =>
 wpAny_mono (h pins s σ H D (I.wish _) hw) (λ_ _ q=>q.oF) λ_ _ z=>False.elim z⟩
theorem aH.ex{t:Tx}{EX:Str->Prop}{W:Addr->Prop}{ρ : En}{σ : St}{H:Hp}(e:aH t W ρ σ H):aH {t with EX:=EX } W ρ σ H:=e.elim λF e=>⟨F,e.len,e.zw,e.z0,e.wl,e.f0,e.n0,e.sh,e.ow,e.rf,e.dis,e.pn,e.pd,e.dp,e.dd,e.dm,e.db,⟨e.tab.ok,e.tab.w,e.tab.r,e.tab.B⟩⟩
theorem aH.yg{t:Tx}{EX:Str->Prop}{W:Addr->Prop}{ρ : En}{σ : St}{H:Hp}(e:aH {t with EX:=EX } W ρ σ H):aH t W ρ σ H:=e.elim λF e=>⟨F,e.len,e.zw,e.z0,e.wl,e.f0,e.n0,e.sh,e.ow,e.rf,e.dis,e.pn,e.pd,e.dp,e.dd,e.dm,e.db,⟨e.tab.ok,e.tab.w,e.tab.r,e.tab.B⟩⟩
def eE(f:SF):SF:=λρ=>bW (f ρ)
theorem Lq{t:Tx}{ts:TS}{f:SF}(h:∀t':Tx,t'.K=t.K->(∀c,¬t'.EX c)->SS t' ts f):SS t ts (eE f):=λW ρ σ H D e q=>by
 refine h {t with EX:=λ_=>False } rfl (λ_=>id) W ρ σ H D e.ex (Rs.aO (CK q) λp q=>?_)
 obtain⟨fl,ρ'⟩:=p
 cases fl with
 |nx=>exact λW' σ' H' e' n=>q W' σ' H' e'.yg n
 |rt T fr =>
  refine λv W' σ' H' e' n=>q v W' σ' H' e'.yg ?_
  cases fr <;> exact n
 |bk=>exact λW' σ' H' e' n=>q W' σ' H' e'.yg n
 |ct=>exact λW' σ' H' e' n=>q W' σ' H' e'.yg n
theorem W6{p:Int->Int->Int}(a b:Tr)(c:Str):gI p a b ≠ .ex c:=by
 cases a <;> cases b <;> (intro z; cases z)
theorem Dc{q:Int->Int->Bool}{p:Int->Int->Int}(a b:Tr)(c:Str):eU q p a b ≠ .ex c:=by
 cases a <;> cases b <;> first|(intro z; cases z; done)|(dsimp only[eU]; split <;> (intro z; cases z))
theorem Dd{p:Int->Int->Bool}(a b:Tr)(c:Str):gB p a b ≠ .ex c:=by
 cases a <;> cases b <;> (intro z; cases z)
theorem W7(a b:Tr)(c:Str):aK a b ≠ .ex c:=by unfold aK; split <;> (intro z; cases z)
theorem W8(a b:Tr)(c:Str):bB a b ≠ .ex c:=by unfold bB; split <;> (intro z; cases z)
theorem W9{f:Bool->Bool}(a b:Tr)(c:Str):dR f a b ≠ .ex c:=by
 cases b <;> first|(intro z; cases z; done)|(dsimp only[dR]; split <;> (intro z; cases z))
theorem Xa{f:Bool->Bool}(a b:Tr)(c:Str):je f a b ≠ .ex c:=by
 cases b <;> (intro z; cases z)
theorem Xb(a b:Tr)(c:Str):bR a b ≠ .ex c:=by
 cases a <;> cases b <;> first|(intro z; cases z; done)|(dsimp only[bR]; split <;> (intro z; cases z))
theorem Xc(a b:Tr)(c:Str):eV a b ≠ .ex c:=by
 cases a <;> cases b <;> first|(intro z; cases z; done)|(dsimp only[eV]; split <;> (intro z; cases z))
theorem Xd(a b:Tr)(c:Str):mq a b ≠ .ex c:=Dc a b c
theorem Xe(a b:Tr)(c:Str):dM a b ≠ .ex c:=Dc a b c
theorem Xf(a b:Tr)(c:Str):jM a b ≠ .ex c:=Dc a b c
theorem Xg(a b:Tr)(c:Str):dw a b ≠ .ex c:=W6 a b c
theorem Xh(a b:Tr)(c:Str):gq a b ≠ .ex c:=Dd a b c
theorem Xi(a b:Tr)(c:Str):lD a b ≠ .ex c:=Dd a b c
theorem Xj(a b:Tr)(c:Str):gZ a b ≠ .ex c:=Dd a b c
theorem Xk(a b:Tr)(c:Str):cJ a b ≠ .ex c:=by
 cases a <;> cases b <;> first|(intro z; cases z; done)|(dsimp only[cJ]; split <;> (intro z; cases z))
theorem Xl(a b:Tr)(c:Str):aB a b ≠ .ex c:=by
 cases a <;> cases b <;> first|(intro z; cases z; done)|(dsimp only[aB]; split <;> first|(intro z; cases z; done)|(split <;> (intro z; cases z)))
theorem Xm(a:Tr)(c:Str):bM a ≠ .ex c:=by
 cases a <;> first|(intro z; cases z; done)|(dsimp only[bM]; split <;> (intro z; cases z))
theorem Xn(a:Tr)(c:Str):mJ a ≠ .ex c:=by cases a <;> (intro z; cases z)
theorem Xo(a:Tr)(c:Str):fH a ≠ .ex c:=by cases a <;> (intro z; cases z)
theorem Xp(a:Tr)(c:Str):dZ a ≠ .ex c:=by cases a <;> (intro z; cases z)
theorem Xq(a:Tr)(c:Str):ig a ≠ .ex c:=by unfold ig; split <;> (intro z; cases z)
theorem Xr(a b:Tr)(c:Str):jB a b ≠ .ex c:=by cases a <;> cases b <;> (intro z; cases z)
theorem Xu(a b:Tr)(c:Str):jC a b ≠ .ex c:=by cases a <;> cases b <;> (intro z; cases z)
theorem Xv(a:Tr)(c:Str):ji a ≠ .ex c:=by
 cases a <;> first|(intro z; cases z; done)|(dsimp only[ji]; split <;> (intro z; cases z))
theorem mK{i:Nat}(T:Tr)(ρ : En)(c:Str):gN i T ρ ≠ .ex c:=by intro z; cases z
theorem Xw(Ts:List Tr)(ρ : En)(c:Str):lH Ts ρ ≠ .ex c:=by cases Ts <;> (intro z; cases z)
theorem Xx{f:GF}{g:lG}(h1:∀T ρ c,f T ρ ≠ .ex c)(h2:∀T ρ c,g T ρ ≠ .ex c)(Ts:List Tr)(ρ : En)(c:Str):fV f g Ts ρ ≠ .ex c:=by
 cases Ts with
 |nil=>intro z; cases z
 |cons T r=>exact Ld (h1 T ρ) (λρ'=>h2 r ρ') c
theorem Xy{n:Nat}{f:lG}(h:∀T ρ c,f T ρ ≠ .ex c)(T:Tr)(ρ : En)(c:Str):gT n f T ρ ≠ .ex c:=by
 cases T <;> first|(intro z; cases z; done)|(dsimp only[gT]; split <;> first|exact h _ _ _|(intro z; cases z))
def qJ(f:AF)(n:Nat):Prop:=∀ρ p,f ρ=.ok p->p.1.length=n
theorem cP:qJ au 0:=λρ p h=>by cases h; rfl
theorem bH{f:EF}{g:AF}{n:Nat}(h:qJ g n):qJ (ak f g) (n+1):=λρ p q=>by
 unfold ak at q
 obtain⟨a,q1,q⟩:=jh q
 obtain⟨b,q2,q⟩:=jh q
 cases q
 rw[List.length_cons,h _ _ q2]
def Gk(K:FZ)(mg:Str->Option Value)(x:Str)(v:V)(T:Tr):Prop:=∃u,mg x=some u/\RelV v u/\∀H,Rep (aA K) H v T
theorem Xz{X:Cx}{x:Str}{v:V}{T:Tr}{pos:Pos}(h:Gk X.K X.mg x v T)(hg:Gl X x:=by rfl)(hd:(x == ("__debug__" : Str))=false:=by decide):PE X (.Name x pos) (tC v):=by
 obtain⟨u,h1,h2,_⟩:=h
 exact Ra hg h1 h2 hd
theorem yh{t:Tx}{K:FZ}{mg:Str->Option Value}{x:Str}{v:V}{T:Tr}(hK:t.K=aA K)(h:Gk K mg x v T):SE t (tC v) (eC T):=by
 obtain⟨u,_,_,h⟩:=h
 exact uQ λH=>by rw[hK]; exact h H
end L2
end
section
namespace L2
open PySem PySem.Spec PyProof.Rows
section
variable {t:Tx}{K:FZ}{ta tb tc:TE}{fa fb fc:EF}
theorem Lr(hK:t.K=aA K)(ha:SE t ta fa)(hb:SE t tb fb):SE t (eG (Cd K) ta tb) (ao bR fa fb):=jz (by rw[hK]; exact Vt) Xb ha hb
theorem XC(hK:t.K=aA K)(ha:SE t ta fa)(hb:SE t tb fb):SE t (eG (f9 λi j=>.int (i-j)) ta tb) (ao dw fa fb):=jz (by rw[hK]; exact Vy) Xg ha hb
theorem XD(hK:t.K=aA K)(ha:SE t ta fa)(hb:SE t tb fb):SE t (eG (Ce K) ta tb) (ao eV fa fb):=jz (by rw[hK]; exact Vu (K:=K)) Xc ha hb
theorem XF(hK:t.K=aA K)(ha:SE t ta fa)(hb:SE t tb fb):SE t (eG (rI xH λi j=>.int (i.fdiv j)) ta tb) (ao mq fa fb):=jz (by rw[hK]; exact Vv) Xd ha hb
theorem XH(hK:t.K=aA K)(ha:SE t ta fa)(hb:SE t tb fb):SE t (eG (rI (λ_ j=>j≠0) λi j=>.int (i.fmod j)) ta tb) (ao dM fa fb):=jz (by rw[hK]; exact Vw) Xe ha hb
theorem XJ(hK:t.K=aA K)(ha:SE t ta fa)(hb:SE t tb fb):SE t (eG (rI Af λi j=>.int (i ^ j.toNat)) ta tb) (ao jM fa fb):=jz (by rw[hK]; exact Vx) Xf ha hb
theorem x_eq(hK:t.K=aA K)(ha:SE t ta fa)(hb:SE t tb fb):SE t (eG (Bk K) ta tb) (ao aK fa fb):=jz (by rw[hK]; exact Vo) W7 ha hb
theorem tD(hK:t.K=aA K)(ha:SE t ta fa)(hb:SE t tb fb):SE t (eG (BR K) ta tb) (ao bB fa fb):=jz (by rw[hK]; exact Vp) W8 ha hb
theorem Ls(hK:t.K=aA K)(ha:SE t ta fa)(hb:SE t tb fb):SE t (eG (Bl K) ta tb) (ao (dR id) fa fb):=jz (by rw[hK]; exact Vq) W9 ha hb
theorem yj(hK:t.K=aA K)(ha:SE t ta fa)(hb:SE t tb fb):SE t (eG (λx y H Q=>y=.non/\Q (.bl (decide (x=.non))) H) ta tb) (ao (je id) fa fb):=jz (by rw[hK]; exact Vs) Xa ha hb
theorem x_lt(hK:t.K=aA K)(ha:SE t ta fa)(hb:SE t tb fb):SE t (eG (Ci K) ta tb) (ao cJ fa fb):=jz (by rw[hK]; exact VF) Xk ha hb
theorem XM(hK:t.K=aA K)(ha:SE t ta fa)(hb:SE t tb fb):SE t (eG (f9 λi j=>.bl (decide (j<i))) ta tb) (ao gq fa fb):=jz (by rw[hK]; exact Vz) Xh ha hb
theorem x_ge(hK:t.K=aA K)(ha:SE t ta fa)(hb:SE t tb fb):SE t (eG (f9 λi j=>.bl (decide (j<=i))) ta tb) (ao gZ fa fb):=jz (by rw[hK]; exact VD) Xj ha hb
theorem jR(hK:t.K=aA K)(ha:SE t ta fa)(hb:SE t tb fb):SE t (eG (rY K) ta tb) (ao aB fa fb):=jz (by rw[hK]; exact VG) Xl ha hb
theorem XQ(hK:t.K=aA K){r r':R2}{g g':G2}(o:dI (aA K) r g)(o':dI (aA K) r' g')(n:∀a b c,g a b ≠ .ex c)(n':∀a b c,g' a b ≠ .ex c)(ha:SE t ta fa)(hb:SE t tb fb)(hc:SE t tc fc):SE t (Ai r r' ta tb tc) (xP g g' fa fb fc):=V1 (by rw[hK]; exact o) (by rw[hK]; exact o') n n' ha hb hc
variable {tl:TA}{fl:AF}
theorem x_len(hK:t.K=aA K)(ha:SA t tl fl):SE t (gO (Cp K) tl) (bC (g1 bM) fl):=nH (by rw[hK]; exact qy V4) (qx Xm) ha
theorem XR(hK:t.K=aA K)(ha:SA t tl fl):SE t (gO (λxs H Q=>∃i,xs=[.int i]/\Q (.int (if i<0 then -i else i)) H) tl) (bC (g1 mJ) fl):=nH (by rw[hK]; exact qy V5) (qx Xn) ha
theorem Df(hK:t.K=aA K)(ha:SA t tl fl):SE t (gO (λxs H Q=>∃p ys,xs=[.ref p]/\(bG K H p ys\/cj K H p ys)/\∀l,H l=none->Q (.ref l) (upd H l (.lst ys))) tl) (bC (g1 fH) fl):=nH (by rw[hK]; exact qy V6) (qx Xo) ha
theorem Dg(hK:t.K=aA K)(ha:SA t tl fl):SE t (gO (λxs H Q=>∃p ys,xs=[.ref p]/\((bG K H p ys/\∀l,H l=none->Q (.ref l) (upd H l (.tup ys)))\/(cj K H p ys/\Q (.ref p) H))) tl) (bC (g1 dZ) fl):=nH (by rw[hK]; exact qy V7) (qx Xp) ha
theorem XS(hK:t.K=aA K)(ha:SA t tl fl):SE t (gO (Bw K) tl) (bC (g1 ig) fl):=nH (by rw[hK]; exact qy V8) (qx Xq) ha
theorem X3(hK:t.K=aA K)(ha:SA t tl fl):SE t (gO (Bp K) tl) (bC (g1 ji) fl):=nH (by rw[hK]; exact qy Wb) (qx Xv) ha
theorem X4(hK:t.K=aA K)(ha:SA t tl fl):SE t (gO (λxs H Q=>∃i j,xs=[.int i,.int j]/\Q (.int (if j<i then j else i)) H) tl) (bC (g2 jB) fl):=nH (by rw[hK]; exact KY V9) (KR Xr) ha
theorem X5(hK:t.K=aA K)(ha:SA t tl fl):SE t (gO (λxs H Q=>∃i j,xs=[.int i,.int j]/\Q (.int (if j > i then j else i)) H) tl) (bC (g2 jC) fl):=nH (by rw[hK]; exact KY Wa) (KR Xu) ha
theorem eZ(hK:t.K=aA K){cl:Str->Addr}{n:Nat}{F:FP}{E:XK}(hx:∀c H',F0 t H'->t.EX c->E (.ref (cl c)) none H')(hn:qJ fl n)(ha:SA t tl fl):SE t (iD (bx K cl n F) [] E tl) (aU F fl):=La hK hx hn ha
theorem Dh(hK:t.K=aA K){cl:Str->Addr}{n:Nat}{F:FP}{E:XK}(hx:∀c,¬t.EX c)(hn:qJ fl n)(ha:SA t tl fl):SE t (iD (bx K cl n F) [] E tl) (aU F fl):=La hK (λc H' _ q=>(hx c q).elim) hn ha
theorem Di(hK:t.K=aA K){n r nl:Nat}{b:SF}{E:XK}(hn:qJ fl n)(ha:SA t tl fl):SE t (iD (j6 K n r (gK nl r b)) [] E tl) (dW r (gK nl r b) fl):=Ww hK (Wv nl r b) hn ha
end
end L2
end
section
namespace L2
open PySem PySem.Spec PyProof.Rows
def vo(i:Nat)(ρ : En):Nat:=match ρ[i]? with
 |some (.sh (.int n))=>n.natAbs+1
 |_=>0
theorem X6{src:List (Option Nat)}{js:List Nat}(h:js.all (λk=>(src[k]?).join.isNone)=true):∀k j:Nat,src[k]?=some (some j)->k∉js:=λk j q m=>by
 have:=List.all_eq_true.mp h k m
 rw[q]at this
 cases this
abbrev vp:List Value:=[.type "ValueError",.type "Exception",.type "BaseException",.type "object"]
def Lw:G1
 |.lst ts=>.ok (.lst ts.reverse,true)
 |_=>.bad
def X7(fa:EF):EF:=λρ=>(fa ρ).bind λp=>(dr p.2 p.1).bind λa=>(Lw a).bind λz=>.ok (.v z.1 z.2,p.2)
end L2
end
section
namespace L2
open PySem PySem.Spec PyProof.Rows
def qK(i:Int):TE:=λ_ H Q=>Q (.int i) H
def kI:Const->Option Int
 |.int i=>some i
 |_=>none
def bI(o:Operator)(i j:Int):Option Int:=match o with
 |.Sub=>some (i-j)
 |.Add=>some (i+j)
 |.Pow=>if 0<=j/\j<=100/\i.natAbs<=1000 then some (i ^ j.toNat)else none
 |_=>none
def uI(o:UnaryOp)(i:Int):Option Int:=match o with
 |.USub=>some (-i)
 |_=>none
def cI:Expr->Option Int
 |.Constant c _ _=>kI c
 |.UnaryOp o e _=>(cI e).bind (uI o)
 |.BinOp a o b _=>(cI a).bind λi=>(cI b).bind λj=>bI o i j
 |_=>none
theorem X8{X:Cx}{c:Const}{k:Nat}{p:Pos}{i:Int}(h:kI c=some i):PE X (.Constant c k p) (qK i):=by
 cases c <;> first|(cases h; exact aP)|cases h
theorem Yb{X:Cx}{o:UnaryOp}{e:Expr}{p:Pos}{i k:Int}(h:uI o i=some k)(he:PE X e (qK i)):PE X (.UnaryOp o e p) (qK k):=by
 cases o <;> first|(cases h; exact(RD RJ he).imp λσ H Q q=>⟨i,rfl,q⟩)|cases h
theorem Yc{X:Cx}{o:Operator}{a b:Expr}{p:Pos}{i j k:Int}(h:bI o i j=some k)(ha:PE X a (qK i))(hb:PE X b (qK j)):PE X (.BinOp a o b p) (qK k):=by
 cases o <;> try cases h
 ·exact(cu IK ha hb).imp λσ H Q q=>⟨i,j,rfl,rfl,q⟩
 ·exact(cu rT ha hb).imp λσ H Q q=>⟨i,j,rfl,rfl,q⟩
 ·dsimp only[bI]at h
  split at h
  ·rename_i c
   cases h
   have z:(2:Nat) ^ 64=18446744073709551616:=by decide
   exact(cu Ag ha hb).imp λσ H Q q=>⟨i,j,rfl,rfl,⟨c.1,by omega,by omega⟩,q⟩
  ·cases h
theorem yp{X:Cx}(e:Expr)(k:Int)(h:cI e=some k):PE X e (qK k):=by
 cases e with
 |Constant c _ _=>exact X8 h
 |UnaryOp o a _ =>
  have h:(cI a).bind (uI o)=some k:=h
  cases e1:cI a with
  |none=>rw[e1]at h; cases h
  |some i=>rw[e1]at h; exact Yb h (yp a i e1)
 |BinOp a o b _ =>
  have h:((cI a).bind λi=>(cI b).bind λj=>bI o i j)=some k:=h
  cases e1:cI a with
  |none=>rw[e1]at h; cases h
  |some i =>
   cases e2:cI b with
   |none=>rw[e1,e2]at h; cases h
   |some j=>rw[e1,e2]at h; exact Yc h (yp a i e1) (yp b j e2)
 |_=>cases h
def kT:Const->Option Tr
 |.none=>some .non
 |.bool b=>some (.bl b)
 |.str x=>some (.str x)
 |.int i=>some (.int i)
 |_=>none
mutual
noncomputable def cT:Expr->Option Tr
 |.Constant c _ _=>kT c
 |.Tuple es _ _=>(jE es).map .tup
 |.List es _=>(jE es).map .lst
 |.UnaryOp o a p=>(cI (.UnaryOp o a p)).map .int
 |.BinOp a o b p=>(cI (.BinOp a o b p)).map .int
 |_=>none
noncomputable def jE:List Expr->Option (List Tr)
 | []=>some []
 |e::r=>match cT e,jE r with
  |some T,some Ts=>if Ts.length<1000 then some (T::Ts)else none
  |_,_=>none
end
theorem yq:∀{es:List Expr} {Ts:List Tr},jE es=some Ts->Ts.length<=1000
 | [],Ts,h=>by
  unfold jE at h
  cases h
  decide
 |e::r,Ts,h=>by
  unfold jE at h
  split at h
  ·split at h
   ·cases h
    rename_i h1
    rw[List.length_cons]
    omega
   ·cases h
  ·cases h
section
variable {X:Cx}{e:Expr}{es:List Expr}{T:Tr}{Ts:List Tr}{pos:Pos}{k:Nat}{G:FZ}
theorem Yd:PA X [] (sJ G []):=aM.imp λσ H Q q=>q [] H (Same.refl _) λ_ _=>.nil
theorem Ye(h:PE X e (oU G T))(r:PA X es (sJ G Ts))(hs:starEach (e::es) X.env=(false,eval e X.env)::starEach es X.env):PA X (e::es) (sJ G (T::Ts)) :=
 (uD h r hs).imp λσ H Q q v H1 s1 rv vs H2 s2 rs=>q (v::vs) H2 (s1.trans s2) λPr p=>.cons ((rv Pr p).mono (p.mono s2)) (rs Pr (p.le s1))
theorem Lx(h:PA X es (sJ G Ts))(hl:Ts.length<=1000):PE X (.Tuple es k pos) (oU G (.tup Ts)) :=
 (m5 h).imp λσ H Q q vs H1 s1 rs=>by
  by_cases hv:vs.length<=sizeLine
  ·exact⟨hv,λa ha=>q (.ref a) _ (s1.trans (cU ha _)) λPr p=>.tup (cj.of ((p.le s1).new (Same.refl _) ha)) ((rs Pr p).mono (p.mono (cU ha _)))⟩
  ·exact absurd (Nat.le_of_lt (Ba (by rw[(rs _ (Pj.id H)).length]; exact hl))) hv
theorem Ly(h:PA X es (sJ G Ts))(hl:Ts.length<=1000):PE X (.List es pos) (xg G Ts) :=
 (Aj h).imp λσ H Q q vs H1 s1 rs=>by
  have e:=(rs _ (Pj.id H)).length
  exact⟨Nat.le_of_lt (Ba (by rw[e]; exact hl)),λa ha=>q a vs H1 s1 ha rs e⟩
theorem Yg(h:PE X e (xg G Ts)):PE X e (oU G (.lst Ts)) :=
 h.imp λσ H Q q a xs H1 s1 ha rs _=>q (.ref a) _ (s1.trans (cU ha _)) λPr p=>.lst (bG.of ((p.le s1).new (Same.refl _) ha)) ((rs Pr p).mono (p.mono (cU ha _)))
theorem Lz(h:(cI e).map Tr.int=some T):PE X e (oU G T):=by
 cases e1:cI e with
 |none=>rw[e1]at h; cases h
 |some i =>
  rw[e1]at h; cases h
  exact(yp e i e1).imp λσ H Q q=>q _ H (Same.refl _) λ_ _=>.int i
end
theorem Yh{e:Expr}{es:List Expr}{env:Env}{T:Tr}(h:cT e=some T):starEach (e::es) env=(false,eval e env)::starEach es env:=by
 cases e <;> first|rfl|(unfold cT at h; cases h)
theorem Yi{X:Cx}{G:FZ}{c:Const}{k:Nat}{p:Pos}{T:Tr}(h:kT c=some T):PE X (.Constant c k p) (oU G T):=by
 cases c <;> try cases h
 ·exact lq.imp λσ H Q q=>q _ H (Same.refl _) λ_ _=>.non
 ·exact iW.imp λσ H Q q=>q _ H (Same.refl _) λ_ _=>.bl _
 ·exact aP.imp λσ H Q q=>q _ H (Same.refl _) λ_ _=>.int _
 ·exact cZ.imp λσ H Q q=>q _ H (Same.refl _) λ_ _=>.str _
mutual
theorem Yj{X:Cx}{G:FZ}(e:Expr)(T:Tr)(h:cT e=some T):PE X e (oU G T):=by
 cases e with
 |Constant c _ _=>exact Yi (by unfold cT at h; exact h)
 |Tuple es _ _ =>
  unfold cT at h
  cases e:jE es with
  |none=>rw[e]at h; cases h
  |some Ts =>
   rw[e]at h
   cases h
   exact Lx (vq es Ts e) (yq e)
 |List es _ =>
  unfold cT at h
  cases e:jE es with
  |none=>rw[e]at h; cases h
  |some Ts =>
   rw[e]at h
   cases h
   exact Yg (Ly (vq es Ts e) (yq e))
 |UnaryOp o a p=>exact Lz (by unfold cT at h; exact h)
 |BinOp a o b p=>exact Lz (by unfold cT at h; exact h)
 |_=>unfold cT at h; cases h
theorem vq{X:Cx}{G:FZ}:∀(es:List Expr) (Ts:List Tr),jE es=some Ts->PA X es (sJ G Ts)
 | [],Ts,h=>by
  unfold jE at h; cases h
  exact Yd
 |e::r,Ts,h=>by
  unfold jE at h
  cases e1:cT e with
  |none=>rw[e1]at h; cases h
  |some T =>
   cases e2:jE r with
   |none=>rw[e1,e2]at h; cases h
   |some Us =>
    rw[e1,e2]at h
    dsimp only at h
    split at h
    ·cases h
     exact Ye (Yj e T e1) (vq r Us e2) (Yh e1)
    ·cases h
end
theorem tE{X:Cx}{G:FZ}{es:List Expr}{pos:Pos}{Ts:List Tr}(h:jE es=some Ts):PE X (.List es pos) (xg G Ts):=Ly (vq es Ts h) (yq h)
theorem Yk{X:Cx}{G:FZ}{es:List Expr}{k:Nat}{pos:Pos}{Ts:List Tr}(h:jE es=some Ts):PE X (.Tuple es k pos) (oU G (.tup Ts)):=Lx (vq es Ts h) (yq h)
end L2
end
section
namespace L2
open PySem PySem.Spec PyProof.Rows
theorem Pj.aC{W:Addr->Prop}{H:Hp}(hw:∀b,W b->H b≠none):Pj (L2.aC W) H where
 mono:=λs=>(bA.of s).off
 sub:=λH=>gR W H
 new:=λ{H' r o} s h=>by
  rw[cQ λw=>hw r w (s.free h)]
  exact fD
def iJ(Ts:List Tr):EF:=λρ=>.ok (.v (.lst Ts) true,ρ)
theorem yr{t:Tx}{K:FZ}(hK:t.K=aA K){Ts:List Tr}:SE t (xg (aA K) Ts) (iJ Ts):=λW ρ σ H Q e h=>λa xs H1 s ha r _=>by
 rw[<-hK]at r
 have e1:=e.grow s
 exact h _ _ (e1.grow (cU ha _)) ((bA.of s).trans (bA.of (cU ha _))) ((eN.of (σ' := σ) e1 (cU ha _) (cV.new ha (r _ (Pj.aC e.wn)))).back λb q=>s.free q)
end L2
end
section
namespace L2
open PySem PySem.Spec PyProof.Rows
def yt:Expr->Bool
 |.ListComp .. => false
 |.SetComp .. => false
 |.DictComp .. => false
 |_=>true
theorem LC{e:Expr}{t:Option Expr}{l:Nat}{env:Env}(h:yt e=true):swapsWith e t l env=pure false:=by
 cases e <;> first|rfl|(unfold yt at h; cases h)
section
variable {X:Cx}{x:Str}{e:Expr}{es:List Expr}{te:TE}{ta:TA}{pos pos' p:Pos}{k:Nat}{ps:List Str}{sp:Sp}{E:XK}
theorem aq(i:Nat)(hN:X.N[i]?=some x:=by kernel_rfl)(hv:X.env.scope.names.lookup x=some .local:=by kernel_rfl)(hd:(x == ("__debug__" : Str))=false:=by kernel_rfl) (hc:(x == ("__classdict__" : Str))=false:=by kernel_rfl):PE X (.Name x pos) (mZ i):=HF hN (.inl hv) hd hc
theorem yu(i:Nat)(hN:X.N[i]?=some x:=by kernel_rfl)(hv:X.env.scope.names.lookup x=some .cell:=by kernel_rfl)(hd:(x == ("__debug__" : Str))=false:=by kernel_rfl) (hc:(x == ("__classdict__" : Str))=false:=by kernel_rfl):PE X (.Name x pos) (mZ i):=HF hN (.inr (.inl hv)) hd hc
theorem dF(i:Nat)(hN:X.N.Nodup)(he:PE X e te)(hi:X.N[i]?=some x:=by kernel_rfl)(hx:X.env.scope.names.lookup x=some .local:=by kernel_rfl)(h:yt e=true:=by kernel_rfl):PS X (.Assign [.Name x pos'] e pos) (jJ te (iC i)):=Rk hN hi (.inl hx) he (LC h) (.inr hx)
theorem psE(he:PE X e te)(h:yt e=true:=by kernel_rfl):PS X (.Expr e pos) (wB te):=Ri he (LC h)
theorem gM(i:Nat)(hN:X.N.Nodup)(hi:X.N[i]?=some x:=by kernel_rfl)(hx:X.env.scope.names.lookup x=some .local:=by kernel_rfl):PG X (.Name x pos) (iC i):=Rj hN hi (.inl hx) (.inr hx)
theorem LK(D:aX X.prog X.w X.K X.mg X.base k x ps sp)(hr:dN k X.A)(hx:Passes (iH X.prog X.w) X E)(ha:PA X (e::es) ta)(hg:X.env.kindOf x=some .globalImplicit:=by kernel_rfl)(hdb:(x == ("__debug__" : Str))=false:=by kernel_rfl)
  (he:notStar e=true:=by kernel_rfl) (hpl:(backTo pos (starEach es X.env)).any (·.1)=false:=by kernel_rfl):PE X (.Call (.Name x p) (e::es) [] pos) (iD sp [] E ta):=Wu D hr hx ha hg hdb (sI he) hpl
theorem iw{r:List V->Hp->VK->Prop}{id:String}(hc:eF X (.builtin id) r)(hm:X.mg x=none)(ha:PA X (e::es) ta)(hv:bootBuiltins x=some (.builtin id):=by decide +kernel)(hg:X.env.kindOf x=some .globalImplicit:=by kernel_rfl)(hn:x ≠ "__name__" := by decide +kernel) (hdb:(x == ("__debug__" : Str))=false:=by kernel_rfl)
  (he:notStar e=true:=by kernel_rfl) (hpl:(backTo pos (starEach es X.env)).any (·.1)=false:=by kernel_rfl):PE X (.Call (.Name x p) (e::es) [] pos) (gO r ta):=Jm hc hg hm hv ha hn hdb (sI he) hpl
theorem nQ{r:List V->Hp->VK->Prop}{T:String}(hc:eF X (.type T) r)(hm:X.mg x=none)(ha:PA X (e::es) ta)(hv:bootBuiltins x=some (.type T):=by decide +kernel)(hg:X.env.kindOf x=some .globalImplicit:=by kernel_rfl)(hn:x ≠ "__name__" := by decide +kernel) (hdb:(x == ("__debug__" : Str))=false:=by kernel_rfl)
  (he:notStar e=true:=by kernel_rfl) (hpl:(backTo pos (starEach es X.env)).any (·.1)=false:=by kernel_rfl):PE X (.Call (.Name x p) (e::es) [] pos) (gO r ta):=R4 hc hg hm hv ha hn hdb (sI he) hpl
theorem j7(hX:w6 X.K)(c:Ty){q:Pos}(he:PE X e te)(h1:X.mg "isinstance" = none) (h2:X.mg x=none) (hb:bootBuiltins x=some (.type c.name):=by decide +kernel) (hg1:X.env.kindOf "isinstance" = some .globalImplicit:=by kernel_rfl) (hg2:X.env.kindOf x=some .globalImplicit:=by kernel_rfl) (hn:x ≠ "__name__" := by decide +kernel) (hd:(x == ("__debug__" : Str))=false:=by kernel_rfl)
  (hs:notStar e=true:=by kernel_rfl):PE X (.Call (.Name "isinstance" p) [e,.Name x q] [] pos) (gO (wZ X.K) (gD te (gD (tC (.ty c.name)) jV))):=Uk hX c he h1 h2 hb hg1 hg2 hn hd (sI hs)
theorem aD{t:TA}(ha:PE X e te)(hr:PA X es t)(h:notStar e=true:=by kernel_rfl):PA X (e::es) (gD te t):=uD ha hr (sI h)
theorem Dj{v:V}{T:Tr}(h:Gk X.K X.mg x v T)(hg:X.env.kindOf x=some .globalImplicit:=by kernel_rfl)(hd:(x == ("__debug__" : Str))=false:=by kernel_rfl):PE X (.Name x pos) (tC v):=Xz h hg hd
theorem Dk{a tg:Expr}(hm:X.mg "range" = none) (ha:PA X [a] ta) (hg:X.env.kindOf "range" = some .globalImplicit:=by kernel_rfl) (hs:notStar a=true:=by kernel_rfl):PI X tg (.Call (.Name "range" p) [a] [] pos) (Ac ta):=Rw hg hm ha (sI hs)
end
end L2
end
section
namespace L2
open PySem PySem.Spec PyProof.Rows
section
variable {t:Tx}{W:Addr->Prop}{ρ : En}{σ : St}{H:Hp}
def fX(ρ : En)(i:Nat):Rs (List Tr):=match ρ[i]? with
 |some (.dp ts)=>.ok ts
 |_=>.bad
end
end L2
end
section
namespace L2
open PySem PySem.Spec PyProof.Rows
abbrev QF:=En->Rs Tr
section
variable {t:Tx}{K:FZ}
def Yl(i:Nat):QF:=λρ=>match ρ[i]? with
 |some (.sh T)=>.ok T
 |_=>.bad
def qC(T:Tr):QF:=λ_=>.ok T
def mL(ts:List Tr)(k:Tr):Rs (Nat × Tr):=match k with
 | .int i=>(match fG ts.length i with
  | some j=>(match ts[j]? with
   |some u=>.ok (j,u)
   |none=>.bad)
  |none=>.bad)
 |_=>.bad
def Ym(i:Nat)(fk fj:QF):QF:=λρ=>(fX ρ i).bind λts=>(fk ρ).bind λk=>(mL ts k).bind λz=>match z.2 with
 |.lst us=>(fj ρ).bind λj=>(mL us j).bind λy=>.ok y.2
 |_=>.bad
def Yn(i:Nat)(fk:QF)(m:GM)(fa:QF):SF:=λρ=>(fX ρ i).bind λts=>(bW (fk ρ)).bind λk=>(mL ts k).bind λz=>match z.2 with
 |.lst us=>(bW (fa ρ)).bind λT=>(m us [T]).bind λy=>.ok (.nx,ρ.set i (.dp (ts.set z.1 (.lst y.1))))
 |_=>.bad
noncomputable def Yo(i:Nat)(fk fj:QF)(fe:EF):SF:=λρ=>(fe ρ).bind λp=>(cN p.1).bind λT=>(fX p.2 i).bind λts=>(bW (fk p.2)).bind λk=>(mL ts k).bind λz=>match z.2 with
 |.lst us=>(bW (fj p.2)).bind λj=>(mL us j).bind λy=>.ok (.nx,p.2.set i (.dp (ts.set z.1 (.lst (us.set y.1 T)))))
 |_=>.bad
def iK(i:Nat)(ρ : En):En:=match ρ[i]? with
 |some (.dp ts)=>ρ.set i (.ow ts)
 |_=>ρ
def Yp(i:Nat)(f:SF):SF:=λρ=>f (iK i ρ)
end
end L2
end
section
namespace L2
open PySem PySem.Spec PyProof.Rows
section
variable {t:Tx}{src:List (Option Nat)}{ρ1:En}{σ : St}{F:Nat->List Addr}{H1 P:Hp}{D:Addr}{W:Addr->Prop}
end
end L2
end
section
namespace L2
open PySem PySem.Spec PyProof.Rows
def jo:Rv->Rs Tr
 |.v (.lst us) true=>.ok (.lst us)
 |_=>.bad
def yw(g:GF)(c:BF)(f:EF):List Tr->En->Rs (List Tr × En)
 | [],ρ=>.ok ([],ρ)
 |u::us,ρ=>(g u ρ).bind λρ1=>(c ρ1).bind λb=>if b.1=true then(f b.2).bind λp=>(jo p.1).bind λT=>(yw g c f us p.2).bind λz=>.ok (T::z.1,z.2)else yw g c f us b.2
def Yq(i:Nat)(src:List (Option Nat))(fi:IF)(g:GF)(c:BF)(f:EF):SF:=λρ=>(fi ρ).bind λp=>if p.1.length<=100000 then(bW (yw g c f p.1 (cW src p.2))).bind λz=>if dh src z.2 p.2=true then .ok (.nx,(bU src z.2 p.2).set i (.dp z.1))else .bad else .bad
end L2
end
section
namespace L2
open PySem PySem.Spec PyProof.Rows
variable {t:Tx}
def nR(us vs:List Tr):List Tr:=(us.zip vs).map λp=>.tup [p.1,p.2]
theorem Yr{K:FZ}{W:Addr->Prop}{H:Hp}{a b:Addr}{xs ys:List V}{us vs:List Tr}(q1:bG (aA K) (aC W H) a xs)(r1:aF (aA K) (aC W H) xs us)(q2:bG (aA K) (aC W H) b ys)(r2:aF (aA K) (aC W H) ys vs):sZ (aA K) W H (BP K a b) (nR us vs):=λW' H' m hw i=>by
 have Dl:bG K H' a xs:=((gR W' H').seq (m.seq q1)).toK
 have Dm:bG K H' b ys:=((gR W' H').seq (m.seq q2)).toK
 refine⟨λz=>⟨xs,ys,Dl,Dm,by rw[r1.length,r2.length,z]; simp[nR]⟩,λu hu=>?_⟩
 unfold nR at hu
 rw[List.getElem?_map]at hu
 obtain⟨p,hp,rfl⟩:=Option.map_eq_some_iff.mp hu
 obtain⟨h1,h2⟩:=List.getElem?_zip_eq_some.mp hp
 obtain⟨x,hx,rx⟩:=r1.nC h1
 obtain⟨y,hy,ry⟩:=r2.nC h2
 refine⟨⟨xs,ys,x,y,Dl,Dm,hx,hy⟩,λv gj yl=>?_⟩
 obtain⟨T,x',y',rfl,fT,rfl,z⟩:=yl
 obtain⟨z1,z2⟩:=z xs ys Dl Dm
 rw[hx]at z1
 rw[hy]at z2
 cases z1
 cases z2
 have nW:¬W' T:=λw=>(hw T w).ne fT
 have sm:Same H' (upd H' T (.tup [x,y])):=cU fT _
 have so:Same (aC W' H') (aC W' (upd H' T (.tup [x,y]))):=λb u q=>(BX (o:=.tup [x,y]) fT b u q |> λz=>(xu _ _ b u z))
 refine⟨sm,.tup (xs:=[x,y]) (.inl (.inl ?_)) (.cons ((rx.mono m).mono so) (.cons ((ry.mono m).mono so) .nil))⟩
 unfold aC
 rw[if_neg nW,fD]
def tG(fa:AF):IF:=λρ=>(fa ρ).bind λp=>match p.1 with
 | [.v (.lst us) _,.v (.lst vs) _]=>.ok (nR us vs,p.2)
 |_=>.bad
theorem Ys{K:FZ}(hK:t.K=aA K){ta:TA}{fa:AF}(ha:SA t ta fa):SI t (Km K ta) (tG fa):=λW ρ σ H R e h=>by
 refine ha W ρ σ H _ e (Rs.aO (Rs.aG h) λp h vs H1 e1 s1 v1=>?_)
 split at h
 ·rename_i us _ ws _ ep
  rw[ep]at v1
  cases v1 with
  |cons h1 r1 =>
   cases r1 with
   |cons h2 r2 =>
    cases r2
    have h1:=h1.rep e.wn
    have h2:=h2.rep e.wn
    rw[hK]at h1 h2
    cases h1 with
    |lst q1 p1 =>
     cases h2 with
     |lst q2 p2 =>
      refine⟨_,_,rfl,⟨_,((gR _ _).seq q1).toK⟩,⟨_,((gR _ _).seq q2).toK⟩,h _ H1 e1 s1 ?_⟩
      rw[hK]
      exact Yr q1 p1 q2 p2
 ·exact h.elim
end L2
end
section
namespace L2
open PySem PySem.Spec PyProof.Rows
section
variable {K:FZ}
end
end L2
end
section
namespace L2
open PySem PySem.Spec PyProof.Rows
section
variable {kf:Value->Int × Int}
def q1(kf:Value->Int × Int)(xs:Array Keyed)(i:Nat):Int:=match xs[i]? with|some p=>(kf p.1).1|none=>0
def q2(kf:Value->Int × Int)(xs:Array Keyed)(i:Nat):Int:=match xs[i]? with|some p=>(kf p.1).2|none=>0
def Kl(kf:Value->Int × Int)(xs:Array Keyed)(i j:Nat):Prop:=q1 kf xs i<q1 kf xs j\/(q1 kf xs i=q1 kf xs j/\q2 kf xs i<q2 kf xs j)
instance {kf:Value->Int × Int}{xs:Array Keyed}{i j:Nat}:Decidable (Kl kf xs i j):=by unfold Kl; infer_instance
end
section
variable {prog:Program}{w:World}{A:Around}{E:Value->Shared->Prop}{s:Shared}{N:Nat}{kd:SortKind}{kf:Value->Int × Int}
structure SB(a₀ : Array Keyed)(kd:SortKind)(st:SortSt):Prop where
 pm:(arrOf st).Perm a₀
 kn:kindOf st=kd
 fl:failedOf st=none
 pd:pendingOf st = #[]
noncomputable def Asks(prog:Program)(w:World)(A:Around)(E:Value->Shared->Prop)(s:Shared)(a₀ : Array Keyed)(kd:SortKind)(kf:Value->Int × Int):Prop :=
 ∀(st:SortSt) (i j:Nat) (Q:Option Bool->SortSt->Prop),SB a₀ kd st->i<a₀.size->j<a₀.size->Q (some (decide (Kl kf (arrOf st) i j))) st->wpS (model prog w) A E s (ltAt' i j) Q st
variable {a₀ : Array Keyed}(ask:Asks prog w A E s a₀ kd kf)
include ask
end
end L2
end
section
namespace L2
open PySem PySem.Spec PyProof.Rows PySem.W
section
variable {X:Cx}{pins:List (Addr × Obj)}{σ : St}{H:Hp}{s:Shared}
end
section
variable {X:Cx}
end
section
variable {X:Cx}{pins:List (Addr × Obj)}{σ : St}{H:Hp}{s:Shared}{Kv:Hp->Value->Int × Int->Prop}{kd:SortKind}{a kS:Addr}{n:Nat}{kz:Nat->Int × Int}{vs:List Value}
end
end L2
end
section
namespace L2
open PySem PySem.Spec PyProof.Rows PySem.W
section
variable {X:Cx}{pins:List (Addr × Obj)}{σ : St}{H:Hp}{s:Shared}{Kv:Hp->Value->Int × Int->Prop}{kd:SortKind}{n:Nat}{kz:Nat->Int × Int}{vs:List Value}{f:Value}
end
end L2
end
section
namespace L2
open PySem PySem.Spec PyProof.Rows PySem.W
section
variable {X:Cx}{pins:List (Addr × Obj)}{σ : St}{H:Hp}{s:Shared}{sc scope:Scope}{No Ns:List Str}{src:List (Option Nat)}{x qual:Str}
end
end L2
end
section
namespace L2
open PySem PySem.Spec PyProof.Rows PySem.W
def vA(mg:Str→Option Value)(base:Heap):Prop:=∃bm ob,mg "__builtins__" = some (.ref bm)∧bm≠builtinsNs∧bm≠mainGlobals∧base.get? bm=some ob∧ob.cls=.type "module" ∧ ob.dict=some builtinsNs∧ob.data=.plain
section
variable {X:Cx}{pins:List (Addr × Obj)}{σ : St}{H:Hp}{s:Shared}{sc scope:Scope}{No Ns:List Str}{src:List (Option Nat)}{x:Str}
end
end L2
end
section
namespace L2
open PySem PySem.Spec PyProof.Rows PySem.W
abbrev KW:=Hp->V->Int × Int->Prop
section
variable {X:Cx}{sc scope:Scope}{No Ns:List Str}{src:List (Option Nat)}{x:Str}{Kw:KW}{kd:SortKind}
end
end L2
end
section
namespace L2
open PySem PySem.Spec PyProof.Rows PySem.W
def Dn(kz:Nat->Int × Int)(i j:Nat):Prop:=((kz i).1<(kz j).1\/((kz i).1=(kz j).1/\(kz i).2<(kz j).2))\/(((kz i).1=(kz j).1/\(kz i).2=(kz j).2)/\i<j)
instance {kz:Nat->Int × Int}{i j:Nat}:Decidable (Dn kz i j):=by unfold Dn; infer_instance
def yx(kz:Nat->Int × Int)(i:Nat):List Nat->List Nat
 | []=>[i]
 |j::r=>if Dn kz i j then i::j::r else j::yx kz i r
def LQ(n:Nat)(kz:Nat->Int × Int):List Nat:=(List.range n).foldr (yx kz) []
theorem Yt(kz:Nat->Int × Int)(i:Nat):∀l,(yx kz i l).Perm (i::l)
 | []=>.refl _
 |j::r=>by
  unfold yx
  split
  ·exact .refl _
  ·exact((Yt kz i r).cons j).trans (.swap i j r)
abbrev RF:=List (Option Tr)->Rs Tr
section
variable {K:FZ}{ta tb:TE}{fa fb:RF}
end
def Yu(ρ : En)(j:Nat):Option Tr:=match ρ[j]? with
 |some (.sh T)=>some T
 |some (.ow ts)=>some (.lst ts)
 |some (.rf ts)=>some (.lst ts)
 |_=>none
def LR(src:List (Option Nat))(ρ : En):List (Option Tr):=src.map λo=>o.bind (Yu ρ)
def Dp(kt:Tr->Option (Int × Int))(fb:RF)(ts:List (Option Tr)):List Nat->Rs (List (Int × Int))
 | []=>.ok []
 |i::r=>(fb (some (Tr.int i)::ts)).bind λT=>match kt T with
  |some k=>(Dp kt fb ts r).bind λks=>.ok (k::ks)
  |none=>.bad
noncomputable def Yv(kt:Tr->Option (Int × Int))(src:List (Option Nat))(fa:AF)(fb:RF):EF:=λρ=>(fa ρ).bind λp=>match p.1 with
 | [.v (.int n) _]=>if 0<=n/\n<64 then(bW (Dp kt fb (LR src p.2) (List.range n.toNat))).bind λks=>.ok (.v (.lst ((LQ n.toNat λi=>ks.getD i (0,0)).map λi:Nat=>Tr.int i)) true,p.2)else .bad
 |_=>.bad
end L2
end
section
namespace L2
open PySem PySem.Spec PyProof.Rows PySem.W
section
variable {P:Program}{w:World}{K:FZ}{mg:Str->Option Value}{base:Heap}
end
theorem Dq{o:Obj}{d:Data}(h:(dJ o).data=d)(n:d ≠ .fields #[]):dJ o=o:=by
 unfold dJ at h ⊢
 split at h
 ·exact(n h.symm).elim
 ·rename_i q
  rw[if_neg q]
theorem Yw{K:FZ}{x:Str}{z:Addr × Addr}(h:tabIn (aA K) x=some z):tabIn K x=some z:=by
 unfold tabIn at h
 split at h
 ·rename_i f hf
  have g1:nsIn K mainGlobals x=some (some (.ref f)):=by
   unfold nsIn at hf
   rw[nA]at hf
   cases e:K.lookup mainGlobals with
   |none=>rw[e]at hf; cases hf
   |some o =>
    rw[e]at hf
    unfold nsIn
    rw[e]
    have q:dJ o=o:=by
     dsimp only[Option.map]at hf
     split at hf
     ·rename_i a b es ep c eq
      have eq:dJ o=⟨a,b,.dict es ep,c⟩:=Option.some.inj eq
      exact Dq (d:=.dict es ep) (by rw[eq]) (by intro z; cases z)
     ·cases hf
    dsimp only[Option.map]at hf
    rw[q]at hf
    exact hf
  split at h
  ·rename_i a b fd osl hfo
   have g2:K.lookup f=some ⟨a,b,.func fd,osl⟩:=by
    rw[nA]at hfo
    cases e:K.lookup f with
    |none=>rw[e]at hfo; cases hfo
    |some o =>
     rw[e]at hfo
     have eq:dJ o=⟨a,b,.func fd,osl⟩:=Option.some.inj hfo
     rw[Dq (d:=.func fd) (by rw[eq]) (by intro z; cases z)]at eq
     rw[eq]
   split at h
   ·rename_i c hc
    split at h
    ·rename_i a' b' vs Ma hco
     split at h
     ·rename_i Pp hv
      cases h
      have g3:K.lookup c=some ⟨a',b',.fields vs,Ma⟩:=by
       rw[nA]at hco
       cases e:K.lookup c with
       |none=>rw[e]at hco; cases hco
       |some o =>
        rw[e]at hco
        have eq:dJ o=⟨a',b',.fields vs,Ma⟩:=Option.some.inj hco
        rw[Dq (d:=.fields vs) (by rw[eq]) (by intro z; injection z with z; subst z; simp at hv)]at eq
        rw[eq]
      unfold tabIn
      rw[g1]
      dsimp only
      rw[g2]
      dsimp only
      rw[hc]
      dsimp only
      rw[g3]
      dsimp only
      rw[hv]
     ·cases h
    ·cases h
   ·cases h
  ·cases h
 ·cases h
theorem Yx{K:FZ}{x:Str}(a:nsIn K mainGlobals x=some none):tabIn K x=none:=by
 unfold tabIn
 rw[a]
end L2
end
section
namespace L2
open PySem PySem.Spec PyProof.Rows PySem.W
section
variable {X:Cx}
end
def Yy(fa:AF):EF:=λρ=>(fa ρ).bind λp=>match p.1 with
 | [.v (.int n) _]=>if 0<=n/\n<=1000 then .ok (.v (.lst ((List.range n.toNat).map λi:Nat=>Tr.int i)) true,p.2)else .bad
 |_=>.bad
end L2
end
section
namespace L2
open PySem PySem.Spec PyProof.Rows
section
variable {t:Tx}{K:FZ}
def Yz(F:FR)(fa:EF):EF:=λρ=>(fa ρ).bind λp=>match p.1 with
 |.v (.lst us) true=>(F [.lst us]).bind λz=>.ok (.v z.1.1 z.1.2,p.2)
 |_=>.bad
end
end L2
end
section
namespace L2
open PySem PySem.Spec PyProof.Rows
section
variable {X:Cx}
end
end L2
end
section
namespace L2
open PySem PySem.Spec PyProof.Rows
section
variable {P:Program}{w:World}{K:FZ}
end
section
variable {X:Cx}
end
section
variable {t:Tx}
end
section
variable {X:Cx}
end
section
variable {K:FZ}
end
end L2
end
section
namespace L2
open PySem PySem.Spec PyProof.Rows
end L2
end
section
namespace L2
open PySem PySem.Spec PyProof.Rows PySem.W
def yC:List Str := "HeadError" :: lC
def isub(c d:Str):Bool:=c == d || d == ("HeadError" : Str)
def Mf:List Ty:=[.int,.bool,.str,.tuple,.list]
def yD(K:Frag)(cs:List Str)(p:Str->Addr->Bool):Bool:=cs.all λc=>match nsIn K mainGlobals c with
 |some (some (.ref C))=>p c C
 |_=>true
theorem Dr{K:Frag}{cs:List Str}{p:Str->Addr->Bool}(h:yD K cs p=true){c:Str}(m:c∈cs){C:Addr}(n:nsIn K mainGlobals c=some (some (.ref C))):p c C=true:=by
 have:=List.all_eq_true.mp h c m
 rw[n]at this
 exact this
noncomputable def Ds(K:Frag)(C:Addr):Bool:=findIn K (.ref C) "__getattribute__" == some (some (.builtin "BaseException.__getattribute__"))&&findIn K (.ref C) "__getattr__" == some none&&findIn K (.ref C) "__class__" == some (some (.builtin "object.__class__"))&&mroIn K C (.type "object") == some true&&mroIn K C (.type "BaseException") == some true&&(clsIn K C).isSome
theorem YB{K:Frag}{C:Addr}(h:Ds K C=true):lZ K C:=by
 unfold Ds at h
 simp only[Bool.and_eq_true]at h
 obtain⟨⟨⟨⟨⟨h1,h2⟩,h3⟩,h4⟩,h5⟩,h6⟩:=h
 exact⟨beq_iff_eq.mp h1,beq_iff_eq.mp h2,beq_iff_eq.mp h3,beq_iff_eq.mp h4,beq_iff_eq.mp h5,h6⟩
noncomputable def Mg(K:Frag):Bool :=
 yD K lC (λ_ C=>Ds K C&&Mf.all (λy=>kitOne K (.ref C) (.type y.name) == some false)&&kitOne K (.ref C) (.type "ValueError") == some true) &&
 yD K yC (λd D=>kitOne K (.type "NoneType") (.ref D) == some false&&yD K lC (λc C=>kitOne K (.ref C) (.ref D) == some (isub c d)&&(!(d == ("HeadError" : Str)) || exmOne K (.ref C) (.ref D) == some true))) &&
 kitOne K (.type "NoneType") (.type "ValueError") == some false&&(match K.lookup mainGlobals with
  |some o=>o.cls != .type "list"
  |none=>true)
structure jT(K:Frag):Prop where
 o:w6 K
 n:∀d∈yC,∀D,nsIn K mainGlobals d=some (some (.ref D))->kitOne K (.type "NoneType") (.ref D)=some false
 k:∀d∈yC,∀D,nsIn K mainGlobals d=some (some (.ref D))->∀c∈lC,∀C,nsIn K mainGlobals c=some (some (.ref C))->kitOne K (.ref C) (.ref D)=some (isub c d)
 v:∀c∈lC,∀C,nsIn K mainGlobals c=some (some (.ref C))->kitOne K (.ref C) (.type "ValueError")=some true
 vn:kitOne K (.type "NoneType") (.type "ValueError")=some false
 h:∀D,nsIn K mainGlobals "HeadError" = some (some (.ref D))->∀c∈lC,∀C,nsIn K mainGlobals c=some (some (.ref C))->exmOne K (.ref C) (.ref D)=some true
 x:∀c∈lC,∀C,nsIn K mainGlobals c=some (some (.ref C))->lZ K C
 mc:∀o,K.lookup mainGlobals=some o->o.cls ≠ .type "list"
theorem jT.of{K:Frag}(h:Mg K=true):jT K:=by
 unfold Mg at h
 simp only[Bool.and_eq_true]at h
 obtain⟨⟨⟨h1,h2⟩,h3⟩,h4⟩:=h
 have a1:∀c∈lC,∀C,nsIn K mainGlobals c=some (some (.ref C))->lZ K C/\(∀y:Ty,kitOne K (.ref C) (.type y.name)=some false)/\kitOne K (.ref C) (.type "ValueError")=some true:=λc m C n=>by
  have:=Dr h1 m n
  simp only[Bool.and_eq_true]at this
  obtain⟨⟨x1,x2⟩,x3⟩:=this
  refine⟨YB x1,λy=>?_,beq_iff_eq.mp x3⟩
  have:=List.all_eq_true.mp x2 y (by cases y <;> simp[Mf])
  exact beq_iff_eq.mp this
 have a2:∀d∈yC,∀D,nsIn K mainGlobals d=some (some (.ref D))→kitOne K (.type "NoneType") (.ref D)=some false∧∀c∈lC,∀C,nsIn K mainGlobals c=some (some (.ref C))→kitOne K (.ref C) (.ref D)=some (isub c d)∧(d = "HeadError" → exmOne K (.ref C) (.ref D)=some true):=λd m D n=>by
  have:=Dr h2 m n
  rw[Bool.and_eq_true]at this
  refine⟨beq_iff_eq.mp this.1,λc mc C nc=>?_⟩
  have:=Dr this.2 mc nc
  rw[Bool.and_eq_true]at this
  refine⟨beq_iff_eq.mp this.1,λe=>?_⟩
  have z:=this.2
  rw[Bool.or_eq_true]at z
  rcases z with z|z
  ·rw[e]at z; cases z
  ·exact beq_iff_eq.mp z
 refine⟨λc m C n=>⟨λa=>Uz (a1 c m C n).1,(a1 c m C n).2.1⟩,λd m D n=>(a2 d m D n).1,λd m D n c mc C nc=>((a2 d m D n).2 c mc C nc).1,λc m C n=>(a1 c m C n).2.2,beq_iff_eq.mp h3,λD n c mc C nc=>((a2 "HeadError" (List.mem_cons_self ..) D n).2 c mc C nc).2 rfl,λc m C n=>(a1 c m C n).1,λo e=>?_⟩
 rw[e]at h4
 simpa using h4
def Mh:Tr->Str->Option Bool
 |.bY c,d=>some (isub c d)
 |.non,_=>some false
 |_,_=>none
def Mi:Tr->Option Bool
 |.bY _=>some true
 |.non=>some false
 |_=>none
section
variable {X:Cx}
variable {e:Expr}{te:TE}{x:Str}{p q pos:Pos}
end
section
variable {t:Tx}{K:Frag}
def YC(d:Str)(fa:EF):EF:=λρ=>(fa ρ).bind λp=>(dr p.2 p.1).bind λa=>match Mh a d with
 |some b=>.ok (eB b,p.2)
 |none=>.bad
def YD(fa:EF):EF:=λρ=>(fa ρ).bind λp=>(dr p.2 p.1).bind λa=>match Mi a with
 |some b=>.ok (eB b,p.2)
 |none=>.bad
def Pr{α : Type}(f:En->Rs (α × En)):Prop:=∀ρ,(∀p,f ρ=.ok p->p.2 = ρ)/\∀c,f ρ ≠ .ex c
end
section
variable {X:Cx}{e:Expr}{te:TEX}{pos:Pos}
end
end L2
end
section
namespace BH
open PySem L2
def Mj:SF:=(aJ (eE (sY (vo 1) (aR (ao bB (aj 1) (eC (.int 0)))) (u6 0 1 (ak (aj 1) (ak (ao dM (aj 0) (aj 1)) au))))) (aL (bC (g1 mJ) (ak (aj 0) au))))
def yE:FP:=aN 2 Mj
def Ml:SF:=(aL (g8 (d7 .int (aj 0)) (xM (d7 .bool (aj 0)))))
def qL:FP:=aN 1 Ml
noncomputable def Dt:SF:=(aJ (bF (cR (cF (cB (d7 .tuple (aj 0)))) (aR (ao bB (bC (g1 bM) (ak (aj 0) au)) (eC (.int 2))))) (aL (eC (.bl false))) bD) (aJ (bT (aj 0) (gT 2 (fV (gN 1) (fV (gN 2) lH)))) (aJ (bF (cR (cF (cB (aU qL (ak (aj 1) au)))) (cF (cB (aU qL (ak (aj 2) au))))) (aL (eC (.bl false))) bD) (aL (g8 (ao gZ (aj 2) (eC (.int 1))) (ao aK (aU yE (ak (aj 1) (ak (aj 2) au))) (eC (.int 1))))))))
def mO:FP:=aN 3 Dt
noncomputable def Mp:SF:=(aJ (bF (cR (cF (cB (d7 .list (aj 0)))) (aR (ao bB (bC (g1 bM) (ak (aj 0) au)) (aj 1)))) (aL (eC (.bl false))) bD) (aL (bC (g1 ji) (ak (jl [none] (jP (aj 0)) (gN 0) jm (g8 (aU mO (ak (aj 0) au)) (ao gZ (ao aB (aj 0) (eC (.int 0))) (eC (.int 0))))) au))))
def yF:FP:=aN 2 Mp
noncomputable def vB:SF:=(aJ (bF (cF (cB (d7 .tuple (aj 0)))) (aL (eC (.bl false))) bD) (aJ (bF (aR (ao bB (bC (g1 bM) (ak (aj 0) au)) (eC (.int 2)))) (aL (ao (dR id) (aj 0) (eC (.tup [(.tup [(.str "least")]),(.tup [(.str "greatest")]),(.tup [(.str "product")])])))) bD) (aJ (bT (aj 0) (gT 2 (fV (gN 2) (fV (gN 3) lH)))) (aJ (bF (aR (ao aK (aj 2) (eC (.str "shares")))) (aL (aU yF (ak (aj 3) (ak (aj 1) au)))) bD) (aL (g8 (ao aK (aj 2) (eC (.str "middle"))) (g8 (aU qL (ak (aj 3) au)) (xP lD lD (eC (.int 1)) (aj 3) (aj 1)))))))))
def fB:FP:=aN 4 vB
def Mq:SF:=(bF (cF (cB (d7 .str (aj 0)))) (u9 "NoText" (eC (.str "this is no text"))) bD)
def pC:FP:=aN 1 Mq
end BH
end
section
namespace L2
open PySem PySem.Spec PyProof.Rows
section
variable {X:Cx}{k j:Nat}{x:Str}{ps:List Str}{sp:Sp}{p pos:Pos}{a b e:Expr}{es:List Expr}{ta tb:TE}{tl:TA}{E:XK}
theorem cG(ha:PE X a ta)(hb:PE X b tb)(hs:Jy b:=by exact λ_ _=>rfl):PE X (.Subscript a b pos) (eG (rY X.K) ta tb):=JB JG ha hb hs
theorem pc1(D:aX X.prog X.w X.K X.mg X.base j x ps sp)(hr:dN k X.A)(hx:Passes (iH X.prog X.w) X E)(ha:PA X (e::es) tl)(hk:j<=k:=by decide)(hg:X.env.kindOf x=some .globalImplicit:=by kernel_rfl)(hdb:(x == ("__debug__" : Str))=false:=by kernel_rfl)
  (he:notStar e=true:=by kernel_rfl) (hpl:(backTo pos (starEach es X.env)).any (·.1)=false:=by kernel_rfl):PE X (.Call (.Name x p) (e::es) [] pos) (iD sp [] E tl):=LK (D.mono hk) hr hx ha hg hdb he hpl
theorem j8(D:aX X.prog X.w X.K X.mg X.base j x ps sp)(hr:dN k X.A)(ha:PA X (e::es) tl)(hk:j<=k:=by decide)(hg:X.env.kindOf x=some .globalImplicit:=by kernel_rfl)(hdb:(x == ("__debug__" : Str))=false:=by kernel_rfl)
  (he:notStar e=true:=by kernel_rfl) (hpl:(backTo pos (starEach es X.env)).any (·.1)=false:=by kernel_rfl):PE X (.Call (.Name x p) (e::es) [] pos) (iD sp [] E0 tl):=LK (D.mono hk) hr U4 ha hg hdb he hpl
end
theorem fS(N P:List Str)(sc:Scope)(kind:sc.kind=.function:=by rfl)(co:sc.isCoroutine=false:=by rfl)(gen:sc.isGenerator=false:=by rfl)(nd:N.Nodup:=by decide +kernel)(pre:N.take P.length=P:=by rfl)(par:∀x∈P,sc.names.lookup x=some .local\/sc.names.lookup x=some .cell:=by decide +kernel)(Ak:∀y∈sc.names,y.2 ≠ .free:=by decide +kernel):oK N P sc:=⟨kind,co,gen,nd,pre,par,Ak⟩
section
variable {t:Tx}{K:FZ}
theorem YF(hK:t.K=aA K){ta:TE}{fa:EF}(ha:SE t ta fa):L2.ST t (λσ H Q=>ta σ H λx H'=>∃k,uz K x H' k/\Q k H') (cB fa):=mz hK ha
theorem YG(hK:t.K=aA K){ts:TS}{f:SF}(h:∀t':Tx,t'.K=aA K->(∀c,¬t'.EX c)->SS t' ts f):SS t ts (eE f):=Lq λt' h' k=>h t' (h'.trans hK) k
theorem YH(hK:t.K=aA K){wi:TI}{g:TG}{src:List (Option Nat)}{te:TE}{fi:IF}{gf:GF}{f:EF}{js:List Nat}(hi:SI t wi fi)(ng:∀T ρ c,gf T ρ ≠ .ex c)(hg:∀t':Tx,t'.K=aA K->(∀c,¬t'.EX c)->SG t' g gf js)(he:∀t':Tx,t'.K=aA K->(∀c,¬t'.EX c)->SE t' te f)(hj:∀k j:Nat,src[k]?=some (some j)->k∉js)(I:(src.filterMap id).Nodup):SE t (qd wi g src te) (jl src fi gf jm f) :=
 W4 hi (WL I) hj ng (λt' h k=>hg t' (h.trans hK) k) (λt' h k=>he t' (h.trans hK) k)
end
end L2
end
section
namespace L2
open PySem PySem.Spec PyProof.Rows PySem.Builtin PySem.Builtin.Str
section
variable {X:Cx}
def yG(g:Str->Bool):V->List V->Hp->VK->Prop:=λx vs H Q=>∃z,x=.str z/\vs=[]/\Q (.bl (g z)) H
theorem YJ:p8 X "str.isdigit" (yG Txt.isdigit):=by
 intro pins s σ H x vs v us Q I rx rv h
 obtain⟨z,rfl,rfl,q⟩:=h
 obtain⟨t,rfl⟩:=rx
 cases rv
 exact SC.isdigit ⟨.bl _,H,I,rfl,q⟩
theorem YK:p8 X "str.isascii" (yG Txt.isascii):=by
 intro pins s σ H x vs v us Q I rx rv h
 obtain⟨z,rfl,rfl,q⟩:=h
 obtain⟨t,rfl⟩:=rx
 cases rv
 exact SC.isascii ⟨.bl _,H,I,rfl,q⟩
theorem jF(z:Str)(t:Tok):RelV (.str z) (.str z t):=⟨t,rfl⟩
theorem Inv.Mr{pins:List (Addr × Obj)}{σ : St}{H:Hp}{s:Shared}{ys:List V}{its:List Value}{t':Nat}(I:Inv X pins σ H s)(hv:Vals ys its)(hz:ys.length<=sizeLine):Inv X pins σ (upd H s.heap.objs.size (.tup ys)) {s with heap:=s.heap.push {cls:=.type "tuple",data:=.seq its.toArray },toks:=t' } :=
 I.laid (λ_ _ q=>Heap.get?_push_of_some _ q) (Nat.le_refl _) (show iU X.prog X.w _ _ _ (.tup ys)from⟨hz,its,hv,IsTup.new _ _⟩)
def pD(z y:Str):List Str:=match occurrences z y 0 z.length 1 with
 |i::_=>[strSub z 0 i,y,strSub z (i+y.length) z.length]
 | []=>[z,Str.empty,Str.empty]
def Du:V->List V->Hp->VK->Prop:=λx vs H Q=>∃z y:Str,x=.str z/\vs=[.str y]/\(y.length == 0)=false/\z.length<=sizeLine /\
 ∀a,H a=none->Q (.ref a) (upd H a (.tup ((pD z y).map .str)))
theorem YL:p8 X "str.partition" Du:=by
 intro pins s σ H x vs v us Q I rx rv h
 obtain⟨z,y,rfl,rfl,hy,hz,q⟩:=h
 obtain⟨t,rfl⟩:=rx
 obtain⟨u,rfl,t2,rfl⟩:=rv.one
 refine call_meets F.slot_str_partition (typeIs_str _ _ _) F.entry_str_partition (F.args_str_partition_2 _ _) (meets_str_partition z y t t2 hy hz) ?_
 have q:=q s.heap.objs.size I.fresh
 unfold pD at q
 split <;> rename_i e <;> rw[e]at q
 ·exact⟨.ref _,_,I.Mr (.cons (jF _ _) (.cons (jF _ _) (.cons (jF _ _) .nil))) (show 3<=sizeLine by decide),rfl,q⟩
 ·exact⟨.ref _,_,I.Mr (.cons (jF _ _) (.cons (jF _ _) (.cons (jF _ _) .nil))) (show 3<=sizeLine by decide),rfl,q⟩
theorem Ms:∀l:List (Str × Tok),Vals ((l.map (·.1)).map .str) (strValues l)
 | []=>.nil
 |p::r=>.cons (jF _ _) (Ms r)
theorem Mt:∀{ts:List Str} {its:List Value},Vals (ts.map .str) its->∃l:List (Str × Tok),its=strValues l/\l.map (·.1)=ts
 | [],_,.nil=>⟨[],rfl,rfl⟩
 |z::ts,_,.cons r h=>by
  obtain⟨l,rfl,q⟩:=Mt h
  obtain⟨t,rfl⟩:=r
  exact⟨(z,t)::l,rfl,by rw[List.map_cons,q]⟩
def Dv:V->List V->Hp->VK->Prop:=λx vs H Q=>∃z y:Str,x=.str z/\vs=[.str y]/\(y.length == 0)=false/\z.length<=sizeLine/\(Txt.split z y).length<=sizeLine /\
 ∀a,H a=none->Q (.ref a) (upd H a (.lst ((Txt.split z y).map .str)))
theorem YM:p8 X "str.split" Dv:=by
 intro pins s σ H x vs v us Q I rx rv h
 obtain⟨z,y,rfl,rfl,hy,hz,hn,q⟩:=h
 obtain⟨t,rfl⟩:=rx
 obtain⟨u,rfl,t2,rfl⟩:=rv.one
 have q:=q s.heap.objs.size I.fresh
 cases h1:(decide (z.length<y.length) || decide (strKind z<strKind y))
 ·cases hf:(occurrences z y 0 z.length (z.length+1)).isEmpty
  ·have e:Txt.split z y=partsBetween z (occurrences z y 0 z.length (z.length+1)) y.length:=(if_neg (ne_true_of_eq_false h1)).trans (if_neg (ne_true_of_eq_false hf))
   rw[e]at q hn
   refine call_meets F.slot_str_split (typeIs_str _ _ _) F.entry_str_split (F.args_str_split_2 _ _) (meets_str_split_sep z y t t2 h1 hy hf hz hn) ?_
   show wants _ _ _ {s with toks:=_,heap:=s.heap.push {cls:=.type "list",data:=.seq (strsFrom s.toks (partsBetween z (occurrences z y 0 z.length (z.length+1)) y.length)).toArray } }
   rw[strsFrom_eq]
   have w:=Ms (numbered s.toks (partsBetween z (occurrences z y 0 z.length (z.length+1)) y.length))
   rw[numbered_texts]at w
   exact⟨.ref _,_,I.rZ w (by rw[List.length_map]; exact hn),rfl,q⟩
  ·have e:Txt.split z y=[z]:=(if_neg (ne_true_of_eq_false h1)).trans (if_pos hf)
   rw[e]at q
   exact call_meets F.slot_str_split (typeIs_str _ _ _) F.entry_str_split (F.args_str_split_2 _ _) (meets_str_split_not_found z y t t2 h1 hy hf) ⟨.ref _,_,I.rZ (.cons (jF _ _) .nil) (show 1<=sizeLine by decide),rfl,q⟩
 ·have e:Txt.split z y=[z]:=if_pos h1
  rw[e]at q
  exact call_meets F.slot_str_split (typeIs_str _ _ _) F.entry_str_split (F.args_str_split_2 _ _) (meets_str_split_cannot_occur z y t t2 h1) ⟨.ref _,_,I.rZ (.cons (jF _ _) .nil) (show 1<=sizeLine by decide),rfl,q⟩
def rJoin(K:FZ):V->List V->Hp->VK->Prop:=λx vs H Q=>∃(z:Str) (a:Addr) (ts:List Str),x=.str z/\vs=[.ref a]/\bG K H a (ts.map .str)/\JoinOk z ts=true/\Q (.str (Txt.join z ts)) H
theorem YQ:p8 X "str.join" (rJoin X.K):=by
 intro pins s σ H x vs v us Q I rx rv h
 obtain⟨z,a,ts,rfl,rfl,hH,hj,q⟩:=h
 obtain⟨t,rfl⟩:=rx
 obtain⟨u,rfl,ru⟩:=rv.one
 cases ru
 obtain⟨its,r,pl,hz⟩:=I.list hH
 obtain⟨l,rfl,hl2⟩:=Mt r
 exact SC.join pl.isList hl2 hj λt' k=>⟨.str _,H,I.tok k,jF _ _,q⟩
end
section
variable {t:Tx}{K:FZ}{ta tb:TE}{fa fb:EF}
def pF(g:Str->Bool):G1
 |.str z=>.ok (.bl (g z),false)
 |_=>.bad
theorem YS(g:Str->Bool)(a:Tr)(c:Str):pF g a ≠ .ex c:=by cases a <;> (intro z; cases z)
theorem YT{K':FZ}(g:Str->Bool):lE K' (λx H Q=>wV K "str" x H/\yG g x [] H Q) (pF g):=λW x a H Q hw rx h=>by
 cases a <;> try exact h.elim
 rw[rx.str]
 exact⟨rfl,_,rfl,rfl,h _ H (Same.refl _) (.dg (.bl _))⟩
theorem YW(g:Str->Bool)(ha:SE t ta fa):SE t (Ax K "str" (yG g) ta) (jX (pF g) fa):=Ky (YT g) (YS g) ha
def strOf:Tr->Rs Str
 |.str z=>.ok z
 |_=>.bad
theorem Mv(a:Tr)(c:Str):strOf a ≠ .ex c:=by cases a <;> (intro z; cases z)
def yH(K:FZ)(r:V->List V->Hp->VK->Prop)(g:Str->G1):Prop:=∀W z y b H Q,(∀b,W b->Lt H b)->Rp K W H y b->(g z b).post (λ_=>False) (λp=>∀v H',Same H H'->cV K W [] H H' v (.v p.1 p.2)->Q v H')->r (.str z) [y] H Q
def mQ(g:Str->G1)(fa fb:EF):EF:=λρ=>(fa ρ).bind λp=>(dr p.2 p.1).bind λa=>(strOf a).bind λz=>(fb p.2).bind λq=>(dr q.2 q.1).bind λb=>(g z b).bind λw=>.ok (.v w.1 w.2,q.2)
theorem Dw{r:V->List V->Hp->VK->Prop}{g:Str->G1}(o:yH t.K r g)(ng:∀z b c,g z b ≠ .ex c)(ha:SE t ta fa)(hb:SE t tb fb):SE t (uF K "str" r ta (gD tb jV)) (mQ g fa fb):=λW ρ σ H Q e h=>by
 refine ha W ρ σ H _ e (Rs.aO (Rs.aG h) λp h x H1 e1 s1 v1=>?_)
 obtain⟨a,k1,h⟩:=cA (Rs.aG h) (gY _ _)
 obtain⟨z,k2,h⟩:=cA (Rs.aG h) (Mv _)
 have r1:=gU e1 e.wn v1.1 k1
 cases a <;> cases k2
 rw[r1.str]
 refine⟨rfl,hb W p.2 σ H1 _ e1 (Rs.aO (Rs.aG h) λq h y H2 e2 s2 v2=>?_)⟩
 obtain⟨b,k3,h⟩:=cA (Rs.aG h) (gY _ _)
 refine o W z y b H2 Q e2.wl (gU e2 e1.wn v2.1 k3) (Rs.aO (iV (Rs.aG h) (ng z b)) λw h v H3 s3 v3=>?_)
 exact h v H3 (e2.grow s3) ((s1.trans s2).trans (bA.of s3)) ((eN.of e2 s3 v3).back λb q=>(s1.trans s2).dom b q)
theorem Dy{H:Hp}:∀l:List Str,aF K H (l.map .str) (l.map .str)
 | []=>.nil
 |z::r=>.cons (.str z) (Dy r)
def strsOf:List Tr->Rs (List Str)
 | []=>.ok []
 |.str z::r=>(strsOf r).bind λl=>.ok (z::l)
 |_=>.bad
theorem Mw:∀{ts:List Tr} {l:List Str},strsOf ts=.ok l->ts=l.map .str
 | [],_,h=>by cases h; rfl
 |t::r,l,h=>by
  cases t <;> try cases h
  dsimp only[strsOf]at h
  cases q:strsOf r with
  |bad=>rw[q]at h; cases h
  |ex c=>rw[q]at h; cases h
  |ok l'=>rw[q]at h; cases h; rw[Mw q]; rfl
theorem Dz:∀(ts:List Tr) (c:Str),strsOf ts ≠ .ex c
 | [],_,h=>by cases h
 |t::r,c,h=>by
  cases t <;> try cases h
  dsimp only[strsOf]at h
  cases q:strsOf r with
  |bad=>rw[q]at h; cases h
  |ex c'=>exact Dz r _ q
  |ok l'=>rw[q]at h; cases h
theorem Mx{H:Hp}:∀{l:List Str} {xs:List V},aF K H xs (l.map .str)->xs=l.map .str
 | [],_,.nil=>rfl
 |z::r,_,.cons (.str _) h=>by rw[Mx h]; rfl
def lJ(z:Str):G1
 |.str y=>if(y.length == 0)=false/\z.length<=100000/\(Txt.split z y).length<=100000 then .ok (.lst ((Txt.split z y).map .str),true)else .bad
 |_=>.bad
def nU(z:Str):G1
 |.str y=>if(y.length == 0)=false/\z.length<=100000 then .ok (.tup ((pD z y).map .str),false)else .bad
 |_=>.bad
def mR(z:Str):G1
 |.lst ts=>(strsOf ts).bind λl=>if JoinOk z l=true then .ok (.str (Txt.join z l),false)else .bad
 |_=>.bad
theorem YX(z:Str)(b:Tr)(c:Str):lJ z b ≠ .ex c:=by
 cases b <;> dsimp only[lJ] <;> (try split) <;> (intro z; cases z)
theorem YZ(z:Str)(b:Tr)(c:Str):nU z b ≠ .ex c:=by
 cases b <;> dsimp only[nU] <;> (try split) <;> (intro z; cases z)
theorem Y0(z:Str)(b:Tr)(c:Str):mR z b ≠ .ex c:=by
 cases b <;> dsimp only[mR] <;> try(intro z; cases z)
 rename_i ts
 cases q:strsOf ts with
 |bad=>intro z; cases z
 |ex c'=>exact(Dz _ _ q).elim
 |ok l=>show(if _ then _ else _)≠_; split <;> (intro z; cases z)
theorem Y4{K':FZ}:yH K' Dv lJ:=λW z y b H Q hw ry h=>by
 cases b <;> try exact h.elim
 rw[ry.str]
 dsimp only[lJ]at h
 split at h
 ·rename_i w
  exact⟨z,_,rfl,rfl,w.1,Nat.le_trans w.2.1 (by decide),Nat.le_trans w.2.2 (by decide),λa ha=>h _ _ (cU ha _) (cV.new ha (Dy _))⟩
 ·exact h.elim
theorem Y5{K':FZ}:yH K' Du nU:=λW z y b H Q hw ry h=>by
 cases b <;> try exact h.elim
 rw[ry.str]
 dsimp only[nU]at h
 split at h
 ·rename_i w
  exact⟨z,_,rfl,rfl,w.1,Nat.le_trans w.2 (by decide),λa ha=>h _ _ (cU ha _) (cV.newT hw ha (Dy _))⟩
 ·exact h.elim
theorem Y6{K':FZ}:yH (aA K') (rJoin K') mR:=λW z y b H Q hw ry h=>by
 cases b <;> try exact h.elim
 rename_i ts
 obtain⟨a,xs,rfl,sq,r⟩:=ry.lst
 dsimp only[mR]at h
 obtain⟨l,k,h⟩:=cA (Rs.aG h) (Dz _)
 rw[Mw k]at r
 rw[Mx r]at sq
 split at h
 ·rename_i w
  exact⟨z,a,l,rfl,rfl,sq.toK,w,h _ H (Same.refl _) (.dg (.str _))⟩
 ·exact h.elim
theorem Mz(ha:SE t ta fa)(hb:SE t tb fb):SE t (uF K "str" Dv ta (gD tb jV)) (mQ lJ fa fb):=Dw Y4 YX ha hb
theorem Y7(ha:SE t ta fa)(hb:SE t tb fb):SE t (uF K "str" Du ta (gD tb jV)) (mQ nU fa fb):=Dw Y5 YZ ha hb
theorem Y8{K':FZ}(hK:t.K=aA K')(ha:SE t ta fa)(hb:SE t tb fb):SE t (uF K "str" (rJoin K') ta (gD tb jV)) (mQ mR fa fb):=Dw (by rw[hK]; exact Y6) Y0 ha hb
end
end L2
end
section
namespace L2
open PySem PySem.Spec PyProof.Rows
section
variable {X:Cx}
def DG:V->Hp->VK->Prop:=λx H Q=>(∃i:Int,x=.int i/\i.natAbs.log2<1920/\Q (.str (toString i)) H)\/∃z:Str,x=.str z/\z.length<=sizeLine/\Q (.str z) H
theorem yI{e:Expr}{pos:Pos}{te:TE}(h:PE X e te):PE X (.FormattedValue e (-1) none pos) (wM DG te):=by
 refine⟨λpins s σ H Q I k=>wpAny_FormattedValue_plain (bf (h pins s σ H _ I k) λv s1 ⟨x,H1,I1,r1,q⟩=>?_)⟩
 rcases q with⟨i,rfl,hd,q⟩|⟨z,rfl,hz,q⟩
 ·obtain⟨t,rfl⟩:=r1
  exact wpAny_formatField_int hd ⟨.str _,H1,I1.tok _,jF _ _,q⟩
 ·obtain⟨t,rfl⟩:=r1
  exact wpAny_formatField_str ⟨.str _,H1,I1,jF _ _,q⟩ ⟨.str _,H1,I1.tok _,jF _ _,q⟩ hz
def yJ:List TE->Str->TE
 | [],acc=>λ_ H Q=>acc.length<=sizeLine/\Q (.str acc) H
 |ta::r,acc=>λσ H Q=>ta σ H λx H1=>∃y,x=.str y/\(acc++y).length<=sizeLine/\yJ r (acc++y) σ H1 Q
inductive nY(X:Cx):List Expr->List TE->Prop
 |nil:nY X [] []
 |cons {e:Expr} {es:List Expr} {te:TE} {ts:List TE} (h:PE X e te) (r:nY X es ts):nY X (e::es) (te::ts)
theorem DK:nY X [] []:=.nil
theorem qN{e:Expr}{es:List Expr}{te:TE}{ts:List TE}(h:PE X e te)(r:nY X es ts):nY X (e::es) (te::ts):=.cons h r
theorem nY.joins{es:List Expr}{ts:List TE}(h:nY X es ts):∀(acc:Str) (pins:List (Addr × Obj)) (s:Shared) (σ : St) (H:Hp) (Q:VK),Inv X pins σ H s->yJ ts acc σ H Q ->
  Joins (model X.prog X.w) X.A X.xe (evalEach es X.env) acc (λout s₁=>out.length<=sizeLine/\EP X pins σ Q (.str out s₁.toks) {s₁ with toks:=s₁.toks+1 }) s:=by
 induction h with
 |nil=>exact λacc pins s σ H Q I k=>⟨k.1,.str _,H,I.tok _,jF _ _,k.2⟩
 |cons h r ih =>
  refine λacc pins s σ H Q I k=>bf (h pins s σ H _ I k) λv s1 ⟨x,H1,I1,r1,y,e,hl,q⟩=>?_
  subst e
  obtain⟨t,rfl⟩:=r1
  exact⟨y,t,rfl,hl,ih _ pins s1 σ H1 Q I1 q⟩
theorem DN{e1 e2:Expr}{es:List Expr}{ts:List TE}{pos:Pos}(h:nY X (e1::e2::es) ts):PE X (.JoinedStr (e1::e2::es) pos) (yJ ts Str.empty) :=
 ⟨λpins s σ H Q I k=>wpAny_JoinedStr (h.joins _ pins s σ H Q I k)⟩
end
section
variable {t:Tx}{K:FZ}{ta tb:TE}{fa fb:EF}
def jq:G1
 |.int i=>if i.natAbs.log2<1920 then .ok (.str (toString i),false)else .bad
 |.str z=>if z.length<=100000 then .ok (.str z,false)else .bad
 |_=>.bad
theorem Y9(a:Tr)(c:Str):jq a ≠ .ex c:=by
 cases a <;> dsimp only[jq] <;> (try split) <;> (intro z; cases z)
theorem Za:lE K DG jq:=λW x a H Q hw rx h=>by
 cases a <;> try exact h.elim
 ·rw[rx.int]
  dsimp only[jq]at h
  split at h
  ·exact .inl ⟨_,rfl,by assumption,h _ H (Same.refl _) (.dg (.str _))⟩
  ·exact h.elim
 ·rw[rx.str]
  dsimp only[jq]at h
  split at h
  ·rename_i w
   exact .inr ⟨_,rfl,Nat.le_trans w (by decide),h _ H (Same.refl _) (.dg (.str _))⟩
  ·exact h.elim
theorem DP(ha:SE t ta fa):SE t (wM DG ta) (jX jq fa):=Ky Za Y9 ha
def mU:List EF->Str->EF
 | [],acc=>λρ=>if acc.length<=100000 then .ok (.v (.str acc) false,ρ)else .bad
 |f::r,acc=>λρ=>(f ρ).bind λp=>(dr p.2 p.1).bind λa=>(strOf a).bind λy=>if(acc++y).length<=100000 then mU r (acc++y) p.2 else .bad
inductive qO(t:Tx):List TE->List EF->Prop
 |nil:qO t [] []
 |cons {te:TE} {f:EF} {ts:List TE} {fs:List EF} (h:SE t te f) (r:qO t ts fs):qO t (te::ts) (f::fs)
theorem DQ:qO t [] []:=.nil
theorem vC{te:TE}{f:EF}{ts:List TE}{fs:List EF}(h:SE t te f)(r:qO t ts fs):qO t (te::ts) (f::fs):=.cons h r
theorem DW{ts:List TE}{fs:List EF}(h:qO t ts fs):∀acc:Str,SE t (yJ ts acc) (mU fs acc):=by
 induction h with
 |nil =>
  intro acc W ρ σ H Q e h
  dsimp only[mU]at h
  split at h
  ·rename_i w
   exact⟨Nat.le_trans w (by decide),h _ H e (bA.of (Same.refl _)) (eN.of (σ' := σ) e (Same.refl _) (.dg (.str _)))⟩
  ·exact h.elim
 |cons ha r ih =>
  intro acc W ρ σ H Q e h
  refine ha W ρ σ H _ e (Rs.aO (Rs.aG h) λp h x H1 e1 s1 v1=>?_)
  obtain⟨a,k1,h⟩:=cA (Rs.aG h) (gY _ _)
  obtain⟨y,k2,h⟩:=cA (Rs.aG h) (Mv _)
  have r1:=gU e1 e.wn v1.1 k1
  cases a <;> cases k2
  rw[r1.str]
  have h:(if(acc++y).length<=100000 then mU _ (acc++y) p.2 else .bad:Rs (Rv × En)).post _ _:=h
  split at h
  ·rename_i w
   exact⟨y,rfl,Nat.le_trans w (by decide),ih _ W p.2 σ H1 Q e1 (Rs.aO h λq h v H2 e2 s2 v2=>h v H2 e2 (s1.trans s2) (v2.back s1.dom))⟩
  ·exact h.elim
end
end L2
end
section
namespace L2
open PySem PySem.Spec PyProof.Rows
section
variable {X:Cx}{t:Tx}{K:FZ}{tl:TA}{fl:AF}
def DX:List V->Hp->VK->Prop:=λxs H Q=>(∃i,xs=[.int i]/\Q (.int i) H)\/(∃k,xs=[.bl k]/\Q (.int (if k then 1 else 0)) H)\/∃(z:Str) (n:Int),xs=[.str z]/\intText? z=some n/\z.length<=640/\Q (.int n) H
theorem Zb:eF X (.type "int") DX:=by
 intro pins s σ H xs us Q I r h
 rcases h with⟨i,rfl,q⟩|⟨k,rfl,q⟩|⟨z,n,rfl,e,hl,q⟩
 ·exact Jd pins s σ H _ us Q I r (.inl ⟨i,rfl,q⟩)
 ·exact Jd pins s σ H _ us Q I r (.inr ⟨k,rfl,q⟩)
 ·obtain⟨u,rfl,t,rfl⟩:=vals1 r
  exact PySem.W.KIN.call_text e hl ⟨.int n,H,I.tok _,⟨_,rfl⟩,q⟩
def j9:G1
 |.int i=>.ok (.int i,false)
 |.bl b=>.ok (.int (if b then 1 else 0),false)
 |.str z=>if z.length<=640 then(match intText? z with|some n=>.ok (.int n,false)|none=>.bad)else .bad
 |_=>.bad
theorem Zc(a:Tr)(c:Str):j9 a ≠ .ex c:=by
 cases a <;> dsimp only[j9] <;> (try split) <;> (try split) <;> (intro z; cases z)
theorem Zd:lE K (λx=>DX [x]) j9:=λW x a H Q hw rx h=>by
 cases a <;> try exact h.elim
 ·rw[rx.bl]
  exact .inr (.inl ⟨_,rfl,h _ H (Same.refl _) (.dg (.int _))⟩)
 ·rw[rx.int]
  exact .inl ⟨_,rfl,h _ H (Same.refl _) (.dg (.int _))⟩
 ·rw[rx.str]
  dsimp only[j9]at h
  split at h
  ·rename_i hl
   split at h
   ·rename_i n e
    exact .inr (.inr ⟨_,n,rfl,e,hl,h _ H (Same.refl _) (.dg (.int _))⟩)
   ·exact h.elim
  ·exact h.elim
theorem Ze(hK:t.K=aA K)(ha:SA t tl fl):SE t (gO DX tl) (bC (g1 j9) fl):=nH (by rw[hK]; exact qy Zd) (qx Zc) ha
end
end L2
end
section
namespace L2
open PySem PySem.Spec PyProof.Rows
section
variable {X:Cx}{t:Tx}{K:FZ}{ta tb:TE}{fa fb:EF}
end
end L2
end
section
namespace L2
open PySem PySem.Spec PyProof.Rows
section
variable {X:Cx}{tg:Expr}
end
section
variable {t:Tx}{K:FZ}
end
end L2
end
section
namespace L2
open PySem PySem.Spec PyProof.Rows PySem.W
section
variable {X:Cx}
end
def qg(a:Int)(n:Nat):List Tr:=(List.range' 0 n).map λi:Nat=>Tr.int (a+i)
end L2
end
section
namespace L2
open PySem PySem.Spec PyProof.Rows
section
variable {t:Tx}{W W':Addr->Prop}{ρ ρ':En}{σ : St}{H H':Hp}{F:Nat->List Addr}
theorem EOF.weak(e:EOF t W ρ σ H F)(hs:∀(i:Nat) (s:Sl),ρ'[i]?=some s->s=.un\/ρ[i]?=some s)(hl : ρ'.length = ρ.length)(m:Same (aC W H) (aC W' H'))(sub:∀b,W b->W' b)(wl:∀b,W' b->Lt H' b)(tb:cX t.K H')
  (f0:∀b o,t.H0 b=some o->¬t.R b->H' b=some o) (dom:∀b,H' b=none->t.H0 b=none) (pn:∀b o,t.B b=some o->H' b=some o)
  (km:∀(i:Nat) (a:Addr) (o:HO),Mu ρ' i -> σ[i]?=some (some (.ref a))->H a=some o->H' a=some o) (kd:∀(i:Nat) (ts:List Tr) (b:Addr) (o:HO),ρ'[i]?=some (.dp ts)->b∈F i->H b=some o->H' b=some o):EOF t W' ρ' σ H' F:=by
 have mu:∀j,Mu ρ' j->Mu ρ j:=λj h=>by
  obtain⟨ts,h|h⟩:=h <;> rcases hs j _ h with z|h
  ·cases z
  ·exact⟨ts,.inl h⟩
  ·cases z
  ·exact⟨ts,.inr h⟩
 have iu:∀(j:Nat) (us:List Tr),ρ'[j]?=some (Sl.dp us) -> ρ[j]?=some (Sl.dp us):=λj us h=>by
  rcases hs j _ h with z|h
  ·cases z
  ·exact h
 refine⟨by rw[hl]; exact e.len,λb z=>sub b (e.zw b z),e.z0,wl,f0,dom,λj u h=>?_,λj ts h=>?_,λj ts h=>?_,λj k a h1 h2 q1 q2=>e.dis j k a (mu j h1) (mu k h2) q1 q2,pn,λj a m q=>e.pd j a (mu j m) q,λj us h=>?_,λj k us ws n h1 h2=>e.dd j k us ws n (iu j us h1) (iu k ws h2),λj k us c h1 m q=>e.dm j k us c (iu j us h1) (mu k m) q,λj us h=>e.db j us (iu j us h),⟨tb,λb z=>sub b (e.tab.w b z),e.tab.r,e.tab.B⟩⟩
 ·rcases hs j _ h with z|h
  ·cases z
  ·obtain⟨w,h1,h2⟩:=e.sh j u h
   exact⟨w,h1,h2.mono m⟩
 ·rcases hs j _ h with z|q
  ·cases z
  ·obtain⟨a,xs,h1,h2,h3,h4,h5⟩:=e.ow j ts q
   exact⟨a,xs,h1,sub a h2,h3,km j a _ ⟨ts,.inl h⟩ h1 h4,h5.mono m⟩
 ·rcases hs j _ h with z|q
  ·cases z
  ·obtain⟨a,xs,h1,h2,h3,h4,h5⟩:=e.rf j ts q
   exact⟨a,xs,h1,sub a h2,h3,km j a _ ⟨ts,.inr h⟩ h1 h4,h5.mono m⟩
 ·obtain⟨c,ys,h1,d⟩:=e.dp j us (iu j us h)
  exact⟨c,ys,h1,d.move rfl rfl m (λb hb=>sub b (by obtain⟨_,_,_,ww,_⟩:=d; exact(ww b hb).1)) λb o hb q=>kd j us b o h hb q⟩
end
end L2
end
section
namespace L2
open PySem PySem.Spec PyProof.Rows
section
variable {t:Tx}
end
section
variable {P:Program}{w:World}{K:FZ}{mg:Str->Option Value}{base:Heap}
end
section
variable {t:Tx}{K:FZ}
end
end L2
end
section
namespace L2
open PySem PySem.Spec PyProof.Rows
section
variable {t:Tx}{K:FZ}{W:Addr->Prop}{ρ : En}{σ : St}{H:Hp}{F:Nat->List Addr}
end
end L2
end
section
namespace L2
open PySem PySem.Spec PyProof.Rows
section
variable {t:Tx}{K:FZ}
end
end L2
end
section
namespace L2
open PySem PySem.Spec PyProof.Rows
abbrev FU:=List Tr->Rs (Str × List Tr)
def VT(K:FZ)(Z:Addr->Prop)(H H':Hp)(v:V)(w:Str)(ts:List Tr):Prop:=∃a b xs,v=.ref a/\a≠b/\H a=none/\H b=none/\H' a=some (.tup [.str w,.ref b])/\H' b=some (.lst xs)/\aF K (off b (aC Z H')) xs ts
noncomputable def lK(K:FZ)(cl:Str->Addr)(n:Nat)(F:FU):Sp:=λvs H Q E=>∃Z ts,vs.length=n/\aF (aA K) (aC Z H) vs ts/\(∀b,Z b->Lt H b)/\cX (aA K) H /\
 (F ts).post (λc=>∀H',gH (aA K) H H'->E (.ref (cl c)) none H') (λp=>∀v H',gH (aA K) H H'->VT (aA K) Z H H' v p.1 p.2->Q v H')
abbrev UF:=En->Rs (Str × List Tr)
def SU(t:Tx)(ts:TS)(f:UF):Prop:=∀W ρ σ H D,aH t W ρ σ H->(f ρ).post t.EX (λp=>∀v W' ρ' σ' H',aH t W' ρ' σ' H'->VT t.K t.Z t.H0 H' v p.1 p.2->D.rt v H')->ts D σ H
def tH(nl:Nat)(b:UF):FU:=λts=>b (aV nl ts)
section
variable {P:Program}{w:World}{K:FZ}{mg:Str->Option Value}{base:Heap}
end
section
variable {t:Tx}{K:FZ}
def tK(f:SF)(g:UF):UF:=λρ=>(f ρ).bind λp=>match p.1 with
 |.nx=>g p.2
 |_=>.bad
theorem MF{ta tb:TS}{f:SF}{g:UF}(h1:SS t ta f)(h2:SU t tb g):SU t (iZ ta tb) (tK f g):=λW ρ σ H D e h=>by
 refine h1 W ρ σ H _ e (Rs.aO (Rs.aG h) λp h=>?_)
 obtain⟨fl,ρ1⟩:=p
 cases fl with
 |nx=>exact λW1 σ1 H1 e1 n1=>h2 W1 ρ1 σ1 H1 D e1 h
 |rt T fr=>exact h.elim
 |bk=>exact h.elim
 |ct=>exact h.elim
def tL(c:BF)(f:UF):UF:=λρ=>(c ρ).bind λp=>if p.1=true then f p.2 else .bad
theorem MJ{tc:TT}{ta tb tr:TS}{c:BF}{f:UF}(hc:ST t tc c)(h1:SU t ta f):SU t (iZ (oG tc ta tb) tr) (tL c f):=λW ρ σ H D e h=>by
 refine hc W ρ σ H _ e (Rs.aO (Rs.aG h) λp h H1 e1 s1=>?_)
 obtain⟨b,ρ1⟩:=p
 cases b with
 |false=>exact h.elim
 |true =>
  show(if true=true then ta {D with nx:=tr D } σ H1 else _)
  rw[if_pos rfl]
  exact h1 W ρ1 σ H1 _ e1 h
theorem MK{W W':Addr->Prop}{H H':Hp}{b:Addr}(hw:∀c,W' c->W c)(s:∀c o,¬W c->H c=some o->H' c=some o):Same (off b (aC W H)) (off b (aC W' H')):=λc o h=>by
 obtain⟨n,h⟩:=oR h
 obtain⟨m,h⟩:=gF h
 show(if c=b then none else aC W' H' c)=some o
 rw[if_neg n,cQ λz=>m (hw c z)]
 exact s c o m h
def DY(w:Str)(f:EF):UF:=λρ=>(f ρ).bind λp=>match p.1 with
 |.v (.lst ts) true=>.ok (w,ts)
 |_=>.bad
theorem Zf(w:Str){te:TE}{f:EF}(h1:SE t te f):SU t (rP (wQ (gD (tC (.str w)) (gD te jV)))) (DY w f):=λW ρ σ H D e h=>by
 refine h1 W ρ σ H _ e (Rs.aO (Rs.aG h) λp h v H1 e1 s1 v1=>?_)
 obtain⟨r,ρ1⟩:=p
 dsimp only at h v1 e1
 split at h
 case h_2=>exact h.elim
 rename_i ts
 refine⟨by rw[sizeLine_eq]; show 2<=16777216; decide,λp hp=>?_⟩
 obtain⟨b,xs,us,rfl,z,n0,hb,rp⟩:=v1.1
 cases z
 have vD:p≠b:=λz=>by rw[z,hb]at hp; cases hp
 refine h (.ref p) W ρ1 σ _ (e1.grow (cU hp _)) ⟨p,b,xs,rfl,vD,e1.n0 p hp,?_,fD,by rw[bQ (Ne.symm vD)]; exact hb,rp.mono ?_⟩
 ·exact e.n0 b n0
 ·exact MK (λc z=>e.zw c z) λc o n q=>cU hp _ c o q
def Ea(i:Nat)(F:FU)(fa:AF)(c:BF):UF:=λρ=>(fa ρ).bind λp=>if p.1.any aW=true\/p.2.length<=i then .bad else(drs p.2 p.1).bind λas=>(F as).bind λq=>(bW (c (p.2.set i (.sh (.tup [.str q.1,.lst q.2]))))).bind λz=>if z.1=true then .bad else .ok q
theorem VT.rep{Z:Addr->Prop}{H H':Hp}{v:V}{w:Str}{ts:List Tr}(h:VT K Z H H' v w ts)(hz:∀b,Z b->H b≠none):Rep K (aC Z H') v (.tup [.str w,.lst ts]):=by
 obtain⟨a,b,xs,rfl,ne,na,nb,ha,hb,r⟩:=h
 have za:¬Z a:=λz=>hz a z na
 have zb:¬Z b:=λz=>hz b z nb
 exact .tup (cj.of (by rw[cQ za]; exact ha)) (.cons (.str w) (.cons (.lst (bG.of (by rw[cQ zb]; exact hb)) (r.mono (xu b _))) .nil))
theorem Zg(hK:t.K=aA K){sp:Sp}{cl:Str->Addr}{n:Nat}{F:FU}{E:XK}{ta:TA}{fa:AF}{tc:TT}{tr tn:TS}{c:BF}(i:Nat)(hx:∀c H',F0 t H'->t.EX c->E (.ref (cl c)) none H')(hn:∀ρ p,fa ρ=.ok p->p.1.length=n)(hsp:∀vs H Q E,lK K cl n F vs H Q E->sp vs H Q E)(ha:SA t ta fa)(hc:ST t tc c)(htn:∀D,tn D=D.nx):SU t (iZ (jJ (iD sp [] E ta) (iC i)) (iZ (oG tc tr tn) (rP (mZ i)))) (Ea i F fa c):=λW ρ σ H D e h=>by
 have h:=Rs.aG h
 cases ek:fa ρ with
 |bad=>rw[ek]at h; exact h.elim
 |ex c=>exact ha W ρ σ H _ e (by rw[ek]at h ⊢; exact h)
 |ok p =>
 have hl:=hn ρ p ek
 rw[ek]at h
 refine ha W ρ σ H _ e (post_eq ek ?_)
 intro vs H1 e1 s1 v1
 have h:(if p.1.any aW=true\/p.2.length<=i then Rs.bad else((drs p.2 p.1).bind λas=>(F as).bind λq=>(bW (c (p.2.set i (.sh (.tup [.str q.1,.lst q.2]))))).bind λz=>if z.1=true then .bad else .ok q):Rs (Str × List Tr)).post _ _:=h
 split at h
 ·exact h.elim
 rename_i an
 obtain⟨as,k1,h⟩:=cA (Rs.aG h) (o7 _ _)
 have rr:aF (aA K) (aC W H1) vs as:=by
  rw[<-hK]
  exact vh e.wn v1 k1 (by cases w:p.1.any aW with|false=>rfl|true=>exact absurd (.inl w) an)
 refine hsp _ _ _ _ ?_
 rw[List.append_nil]
 refine⟨W,as,v1.length.trans hl,rr,e1.wl,by rw[<-hK]; exact e1.tab.ok,?_⟩
 have h:=Rs.aG h
 cases ef:F as with
 |bad=>rw[ef]at h; exact h.elim
 |ex c =>
  rw[ef]at h
  exact λH' sm=>hx c H' ⟨λb o q nr=>sm.1 b o (e1.f0 b o q nr) λz=>nr (e1.tab.r b (by rw[hK]; exact z)),by rw[hK]; exact sm.2⟩ h
 |ok q =>
  rw[ef]at h
  intro v H2 sm vt
  rw[<-hK]at vt sm
  obtain⟨e2,s2⟩:=e1.vf sm
  have e3:=e2.j4 (i:=i) (vt.rep e1.wn)
  obtain⟨z,kz,h⟩:=cA (Rs.aG h) (Lb _)
  have kz:c (p.2.set i (.sh (.tup [.str q.1,.lst q.2])))=.ok z:=by
   revert kz
   cases c (p.2.set i (.sh (.tup [.str q.1,.lst q.2]))) <;> intro kz <;> first|exact kz|cases kz
  have h:(if z.1=true then Rs.bad else Rs.ok q:Rs (Str × List Tr)).post _ _:=h
  refine hc W _ _ H2 _ e3 (post_eq kz ?_)
  intro H3 e4 s3
  split at h
  ·exact h.elim
  rename_i zf
  have zf:z.1=false:=by simpa using zf
  rw[zf]
  show(if false=true then _ else tn _ _ H3)
  rw[if_neg (by decide),htn]
  obtain⟨a,b,xs,rfl,ne,na,nb,Zh,Zi,r⟩:=vt
  have wa:¬W a:=λz=>e1.wn a z na
  have wb:¬W b:=λz=>e1.wn b z nb
  have li:i < σ.length:=by
   rw[<-e1.len]
   exact Nat.lt_of_not_le λz=>an (.inr z)
  refine⟨.ref a,by rw[List.getElem?_set_self li],h _ W z.2 _ H3 e4 ⟨a,b,xs,rfl,ne,e1.n0 a na,e1.n0 b nb,s3.keep a _ wa Zh,s3.keep b _ wb Zi,r.mono (MK (λc z=>e1.zw c z) λc o n q=>s3.keep c o n q)⟩⟩
end
end L2
end
section
namespace L2
open PySem PySem.Spec PyProof.Rows
def pG(s1 s2:Sp):Sp:=λvs H Q E=>s1 vs H Q E\/s2 vs H Q E
section
variable {t:Tx}{K:FZ}
theorem Zj(hK:t.K=aA K){sp:Sp}{cl:Str->Addr}{n:Nat}{F:FP}{E:XK}{ta:TA}{fa:AF}(hx:∀c H',F0 t H'->t.EX c->E (.ref (cl c)) none H')(hn:∀ρ p,fa ρ=.ok p->p.1.length=n)(hsp:∀vs H Q E,bx K cl n F vs H Q E->sp vs H Q E)(ha:SA t ta fa):SE t (iD sp [] E ta) (aU F fa):=λW ρ σ H Q e h=>by
 have h:=Rs.aG h
 cases ek:fa ρ with
 |bad=>rw[ek]at h; exact h.elim
 |ex c=>exact ha W ρ σ H _ e (by rw[ek]at h ⊢; exact h)
 |ok p =>
 have hl:=hn ρ p ek
 rw[ek]at h
 refine ha W ρ σ H _ e (post_eq ek ?_)
 intro vs H1 e1 s1 v1
 refine hsp _ _ _ _ ?_
 have h:((drs p.2 p.1).bind _).post _ _:=h
 obtain⟨as,k1,h⟩:=cA (Rs.aG h) (o7 _ _)
 have r:=uV e1 e.wn v1 k1
 have lv:vs.length=n:=v1.length.trans hl
 have fin:∀Z:Addr->Prop,(∀b,Z b->W b)->(∀z,F as=.ok z->¬(p.1.any aW=true/\gJ z=false)->(∀b,W b->Z b)\/gJ z=true)->aF (aA K) (aC Z H1) vs as->bx K cl n F (vs++[]) H1 Q E:=λZ zw zs rr=>by
  rw[List.append_nil]
  refine⟨Z,as,lv,rr,λb z=>e1.wl b (zw b z),by rw[<-hK]; exact e1.tab.ok,?_⟩
  have h:=Rs.aG h
  cases ef:F as with
  |bad=>rw[ef]at h; exact h.elim
  |ex c =>
   rw[ef]at h
   exact λH' sm=>hx c H' ⟨λb o q nr=>sm.1 b o (e1.f0 b o q nr) λz=>nr (e1.tab.r b (by rw[hK]; exact z)),by rw[hK]; exact sm.2⟩ h
  |ok z =>
   rw[ef]at h
   have h:(if p.1.any aW=true/\gJ z=false then Rs.bad else .ok (.v z.1 z.2,p.2):Rs (Rv × En)).post _ _:=h
   split at h
   ·exact h.elim
   ·rename_i c
    intro v H' sm vr
    rw[<-hK]at vr sm
    obtain⟨eg,sg⟩:=e1.vf sm
    refine h v H' eg (s1.trans sg) (eN.back (H:=H1) ?_ s1.dom)
    exact pq.CJ (W0:=W) e1.wn eg.wl (zs z ef c) vr λ_ a xs na qa=>e1.K9 sm na qa
 by_cases an:p.1.any aW=true
 ·refine fin (λ_=>False) (λ_ z=>z.elim) (λz ez c=>.inr ?_) ?_
  ·cases fz:gJ z with
   |true=>rfl
   |false=>exact(c ⟨an,fz⟩).elim
  ·rw[<-hK]
   exact r.reps
 ·refine fin W (λ_ z=>z) (λz ez c=>.inl λ_ z=>z) ?_
  rw[<-hK]
  exact vh e.wn v1 k1 (by simpa using an)
end
section
variable {P:Program}{w:World}{K:FZ}{mg:Str->Option Value}{base:Heap}
theorem At.Eb{k:Nat}{x:Str}{st:Stmt}{N ps:List Str}{cl:Str->Addr}{b:SF}{b2:UF}(a:At K mg x st)(S:oK N ps (bL st))(hn:ps.length<=N.length)
  (hb:∀(kV doc pm:Value) (an:Option Addr) (cdv ct:Value) (us:List Value),us.length=ps.length->bindArgs (PySem.W.fnOf x x (m7 st) (jy st) (bL st) .none kV doc pm an cdv ct) ⟨us,[]⟩=pure (ps.zip us))
  (hbody:∀(f:Addr) (cdv:Value) (A:Around) (outer:List Env) (s:Shared) (H:Hp) (E:XK),dN k (A.deeper (envOfC x (bL st) s.heap.objs.size f cdv)) ->
   ∃ts,iB (jx (iH P w) P w K mg base N x (bL st) f cdv A outer s H E) (jy st) ts/\∀t:Tx,t.K=aA K->(∀c H',F0 t H'->t.EX c->E (.ref (cl c)) none H')->SS t ts b/\SU t ts b2) :
  aX P w K mg base (k+1) x ps (pG (bx K cl ps.length (aN N.length b)) (lK K cl ps.length (tH N.length b2))):=by
 refine a.BL S hb (λvs H Q E h=>?_) (λf cdv A outer s H vs Q E hr h=>?_)
 ·rcases h with h|h <;> (obtain⟨_,_,h,_⟩:=h; exact h)
 rcases h with h|h
 ·obtain⟨Z,as,hl,r,zl,tb,h⟩:=h
  obtain⟨ts,h1,h2⟩:=hbody f cdv A outer s H E hr
  have h2:=λt a b=>(h2 t a b).1
  refine⟨ts,h1,?_⟩
  have sm:∀(b:Addr) (W:Addr->Prop) ρ σ H',aH ⟨aA K,Z,Tb (aA K),H,λ_=>none,λc=>∀H',gH (aA K) H H'->E (.ref (cl c)) none H'⟩ W ρ σ H'->gH (aA K) H H':=λ_ W ρ σ H' e=>⟨λb o q n=>e.f0 b o q n,e.tab.ok⟩
  have r:=r.jQ (vd tb)
  refine h2 ⟨aA K,Z,Tb (aA K),H,λ_=>none,λc=>∀H',gH (aA K) H H'->E (.ref (cl c)) none H'⟩ rfl (λc H' f0 q=>q H' ⟨λb o z n=>f0.1 b o z n,f0.2⟩) (λb=>Z b\/Tb (aA K) b) (aV N.length as) (start N vs) H _ ?_ (Rs.aO (Rs.aG h) λq h=>?_)
  ·have la:=r.length
   have gA:∀(i:Nat) (us:List Tr),(aV N.length as)[i]?=some (.dp us)->False:=λi us q=>by
    rcases fJ q with⟨u',q1,z⟩|z <;> cases z
   refine⟨λ_=>[],?_,λ_ z=>.inl z,λb z=>?_,λb z=>z.elim (zl b) (λz=>.inr (tb.dj z)),λb o q _=>q,λb q=>q,λi u q=>?_,λi us q=>?_,λi us q=>?_,λi j c m1 m2=>?_,λb o z=>(by cases z),λ_ _ _ _=>rfl,λi us q=>(gA i us q).elim,λi _ us _ _ q=>(gA i us q).elim,λi _ us _ q=>(gA i us q).elim,λi us q=>(gA i us q).elim,⟨tb,λ_ z=>.inr z,λ_ z=>z,λ_ _=>rfl⟩⟩
   ·unfold aV start
    simp only[List.length_append,List.length_map,List.length_replicate]
    omega
   ·exact(zl b z).ne
   ·rcases fJ q with⟨u',q1,z⟩|z
    ·cases z
     obtain⟨v,e1,e2⟩:=r.nC q1
     exact⟨v,vg e1,e2⟩
    ·cases z
   ·rcases fJ q with⟨u',q1,z⟩|z <;> cases z
   ·rcases fJ q with⟨u',q1,z⟩|z <;> cases z
   ·obtain⟨us,q|q⟩:=m1 <;> rcases fJ q with⟨u',q1,z⟩|z <;> cases z
  ·obtain⟨fl,ρ'⟩:=q
   cases fl with
   |nx=>exact λW' σ' H' e n=>h .non H' (sm 0 W' ρ' σ' H' e) .non
   |rt T fr =>
    refine λv W' σ' H' e n=>h v H' (sm 0 W' ρ' σ' H' e) ?_
    cases fr <;> exact n
   |bk=>exact h.elim
   |ct=>exact h.elim
 ·obtain⟨Z,as,hl,r,zl,tb,h⟩:=h
  obtain⟨ts,h1,h2⟩:=hbody f cdv A outer s H E hr
  have h2:=λt a b=>(h2 t a b).2
  refine⟨ts,h1,?_⟩
  have sm:∀(W:Addr->Prop) ρ σ H',aH ⟨aA K,Z,Tb (aA K),H,λ_=>none,λc=>∀H',gH (aA K) H H'->E (.ref (cl c)) none H'⟩ W ρ σ H'->gH (aA K) H H':=λW ρ σ H' e=>⟨λb o q n=>e.f0 b o q n,e.tab.ok⟩
  have r:=r.jQ (vd tb)
  refine h2 ⟨aA K,Z,Tb (aA K),H,λ_=>none,λc=>∀H',gH (aA K) H H'->E (.ref (cl c)) none H'⟩ rfl (λc H' f0 q=>q H' ⟨λb o z n=>f0.1 b o z n,f0.2⟩) (λb=>Z b\/Tb (aA K) b) (aV N.length as) (start N vs) H _ ?_ (Rs.aO h λq h=>?_)
  ·have la:=r.length
   have gA:∀(i:Nat) (us:List Tr),(aV N.length as)[i]?=some (.dp us)->False:=λi us q=>by
    rcases fJ q with⟨u',q1,z⟩|z <;> cases z
   refine⟨λ_=>[],?_,λ_ z=>.inl z,λb z=>?_,λb z=>z.elim (zl b) (λz=>.inr (tb.dj z)),λb o q _=>q,λb q=>q,λi u q=>?_,λi us q=>?_,λi us q=>?_,λi j c m1 m2=>?_,λb o z=>(by cases z),λ_ _ _ _=>rfl,λi us q=>(gA i us q).elim,λi _ us _ _ q=>(gA i us q).elim,λi _ us _ q=>(gA i us q).elim,λi us q=>(gA i us q).elim,⟨tb,λ_ z=>.inr z,λ_ z=>z,λ_ _=>rfl⟩⟩
   ·unfold aV start
    simp only[List.length_append,List.length_map,List.length_replicate]
    omega
   ·exact(zl b z).ne
   ·rcases fJ q with⟨u',q1,z⟩|z
    ·cases z
     obtain⟨v,e1,e2⟩:=r.nC q1
     exact⟨v,vg e1,e2⟩
    ·cases z
   ·rcases fJ q with⟨u',q1,z⟩|z <;> cases z
   ·rcases fJ q with⟨u',q1,z⟩|z <;> cases z
   ·obtain⟨us,q|q⟩:=m1 <;> rcases fJ q with⟨u',q1,z⟩|z <;> cases z
  ·exact λv W' ρ' σ' H' e n=>h v H' (sm W' ρ' σ' H' e) n
end
end L2
end
section
namespace L2
open PySem PySem.Spec PyProof.Rows
section
variable {t:Tx}{K:FZ}
def qP:Rv->Rs Str
 |.v (.str z) false=>.ok z
 |_=>.bad
theorem MN(r:Rv)(c:Str):qP r ≠ .ex c:=by
 unfold qP
 split <;> (intro z; cases z)
theorem MP{r:Rv}{z:Str}(h:qP r=.ok z):r=.v (.str z) false:=by
 unfold qP at h
 split at h
 ·cases h; rfl
 ·cases h
theorem Zk{n k:Nat}(h:k<n):fG n (k:Int)=some k:=by
 unfold fG
 simp
 omega
theorem M4{K:FZ}{G G':Hp}{v:V}{z:Str}(h:Rep K G v (.str z)):Rep K G' v (.str z):=by
 cases h
 exact .str _
def pH(w:Str)(ts:List Tr):Tr:=.tup [.str w,.lst ts]
noncomputable def yK(R M:Tr)(q1:Str × List Tr)(z2 z3:Str)(c6 c7:BF)(T7:Tr)(c9:BF)(f8:EF)(ρ : En)(q5:Str × List Tr):Rs (Fl × En) :=
 (c6 (ρ.set 5 (.sh (pH q5.1 q5.2)))).bind λp6=>if p6.1=true then .bad else(c7 p6.2).bind λp7=>if p7.1=false\/q1.2=[]then .bad else
  (c9 [.sh R,.sh M,.sh (pH q1.1 (q1.2.set 0 T7)),.sh (.str z2),.sh (.str z3),.sh (pH q5.1 [])]).bind λp9=>if p9.1=true then .bad else aL f8 p9.2
noncomputable def yL(R M:Tr)(f2 f3:EF)(c4:BF)(F5:FU)(pI:AF)(c6 c7:BF)(T7:Tr)(c9:BF)(f8:EF)(ρ : En)(q1:Str × List Tr):Rs (Fl × En) :=
 (f2 (ρ.set 2 (.sh (pH q1.1 q1.2)))).bind λp2=>(qP p2.1).bind λz2=>(f3 (p2.2.set 3 (.sh (.str z2)))).bind λp3=>(qP p3.1).bind λz3 =>
  (c4 (p3.2.set 4 (.sh (.str z3)))).bind λp4=>if p4.1=true then .bad else(pI p4.2).bind λp5=>if p5.1.any aW=true then .bad else(drs p5.2 p5.1).bind λZm=>(F5 Zm).bind λq5=>yK R M q1 z2 z3 c6 c7 T7 c9 f8 p5.2 q5
noncomputable def vG(F1:FU)(vH:AF)(f2 f3:EF)(c4:BF)(F5:FU)(pI:AF)(c6 c7:BF)(T7:Tr)(c9:BF)(f8:EF):SF:=λρ=>match ρ with
 | [.sh R,.sh M,.un,.un,.un,.un]=>(vH ρ).bind λp1=>if p1.1.any aW=true then .bad else(drs p1.2 p1.1).bind λas1=>(F1 as1).bind λq1=>yL R M f2 f3 c4 F5 pI c6 c7 T7 c9 f8 p1.2 q1
 |_=>.bad
theorem M5(hK:t.K=aA K){sp:Sp}{cl:Str->Addr}{n:Nat}{F:FU}{E:XK}{ta:TA}{fa:AF}(hx:∀c H',F0 t H'->t.EX c->E (.ref (cl c)) none H')(hn:∀ρ p,fa ρ=.ok p->p.1.length=n)(hsp:∀vs H Q E,lK K cl n F vs H Q E->sp vs H Q E)(ha:SA t ta fa)
  {W:Addr->Prop} {ρ : En} {σ : St} {H:Hp} {Q:VK} {α : Type} {G:En->Str × List Tr->Rs α} {PP : α -> Prop} (e:aH t W ρ σ H) (h:((fa ρ).bind λp=>if p.1.any aW=true then Rs.bad else(drs p.2 p.1).bind λas=>(F as).bind λq=>G p.2 q).post t.EX PP)
  (k:∀p q v H1 H2,(G p q).post t.EX PP->aH t W p σ H2->bA W H H1->bA W H1 H2->aH t W p σ H1->VT t.K W H1 H2 v q.1 q.2->Q v H2):iD sp [] E ta σ H Q:=by
 have h:=Rs.aG h
 cases ek:fa ρ with
 |bad=>rw[ek]at h; exact h.elim
 |ex c=>exact ha W ρ σ H _ e (by rw[ek]at h ⊢; exact h)
 |ok p =>
 have hl:=hn ρ p ek
 rw[ek]at h
 refine ha W ρ σ H _ e (post_eq ek ?_)
 intro vs H1 e1 s1 v1
 have h:(if p.1.any aW=true then Rs.bad else((drs p.2 p.1).bind λas=>(F as).bind λq=>G p.2 q):Rs α).post _ _:=h
 split at h
 ·exact h.elim
 rename_i an
 obtain⟨as,k1,h⟩:=cA (Rs.aG h) (o7 _ _)
 have rr:aF (aA K) (aC W H1) vs as:=by
  rw[<-hK]
  exact vh e.wn v1 k1 (by simpa using an)
 refine hsp _ _ _ _ ?_
 rw[List.append_nil]
 refine⟨W,as,v1.length.trans hl,rr,e1.wl,by rw[<-hK]; exact e1.tab.ok,?_⟩
 have h:=Rs.aG h
 cases ef:F as with
 |bad=>rw[ef]at h; exact h.elim
 |ex c =>
  rw[ef]at h
  exact λH' sm=>hx c H' ⟨λb o q nr=>sm.1 b o (e1.f0 b o q nr) λz=>nr (e1.tab.r b (by rw[hK]; exact z)),by rw[hK]; exact sm.2⟩ h
 |ok q =>
  rw[ef]at h
  intro v H2 sm vt
  rw[<-hK]at vt sm
  obtain⟨e2,s2⟩:=e1.vf sm
  exact k p.2 q v H1 H2 h e2 s1 s2 e1 vt
theorem Zn(hK:t.K=aA K){M6 M7:Sp}{cl:Str->Addr}{n1 n5:Nat}{F1 F5:FU}{E1 E5:XK}{M8 M9:TA}{vH pI:AF}{Nb Nf Ng:TE}{f2 f3 f8:EF}{Nh Ni Nj Nk:TT}{c4 c6 c7 c9:BF}{Zo Ec Zq Ed Zr Zt Ef:TS}{T7:Tr}
  (hx1:∀c H',F0 t H'->t.EX c->E1 (.ref (cl c)) none H') (Zu:∀c H',F0 t H'->t.EX c->E5 (.ref (cl c)) none H') (hn1:∀ρ p,vH ρ=.ok p->p.1.length=n1) (Zv:∀ρ p,pI ρ=.ok p->p.1.length=n5) (hs1:∀vs H Q E,lK K cl n1 F1 vs H Q E->M6 vs H Q E) (Zw:∀vs H Q E,lK K cl n5 F5 vs H Q E->M7 vs H Q E)
  (ha1:SA t M8 vH) (h2:SE t Nb f2) (h3:SE t Nf f3) (h4:ST t Nh c4) (Zx:SA t M9 pI) (h6:ST t Ni c6) (h7:ST t Nj c7) (h9:ST t Nk c9) (h8:SE t Ng f8) (Zy:∀D,Ec D=D.nx) (Zz:∀D,Ed D=D.nx) (ZC:∀D,Ef D=D.nx) :
  SS t (iZ (jJ (iD M6 [] E1 M8) (iC 2)) (iZ (jJ Nb (iC 3)) (iZ (jJ Nf (iC 4)) (iZ (oG Nh Zo Ec) (iZ (jJ (iD M7 [] E5 M9) (iC 5)) (iZ (oG Ni Zq Ed) (iZ (oG Nj (iZ (wB (Ax K "list" JQ (eG (rY K) (mZ 5) (tC (.int 1))))) (iZ (jJ (oU (aA K) T7) (zX (eG (rY K) (mZ 2) (tC (.int 1))) (tC (.int 0)) Aw)) (oG Nk Zt Ef))) Zr) (rP Ng)))))))) (vG F1 vH f2 f3 c4 F5 pI c6 c7 T7 c9 f8):=λW ρ σ H D e h=>by
 unfold vG at h
 split at h
 case h_2=>exact h.elim
 rename_i R M
 refine M5 (G:=yL R M f2 f3 c4 F5 pI c6 c7 T7 c9 f8) hK hx1 hn1 hs1 ha1 e h λp1 q1 v1 Ha H1 h ep s0 s1 ea Np=>?_
 unfold yL at h
 have r1:=Np.rep ea.wn
 have e1:=ep.j4 (i:=2) r1
 refine h2 W _ _ H1 _ e1 (Rs.aO (Rs.aG h) λp2 h v2 H2 e2 s2 w2=>?_)
 obtain⟨z2,k2,h⟩:=cA (Rs.aG h) (MN _)
 have k2:=MP k2
 rw[k2]at w2
 have Nq:Rep t.K (aC W H2) v2 (.str z2):=w2.1
 have e2:=e2.j4 (i:=3) Nq
 refine h3 W _ _ H2 _ e2 (Rs.aO (Rs.aG h) λp3 h v3 H3 e3 s3 w3=>?_)
 obtain⟨z3,k3,h⟩:=cA (Rs.aG h) (MN _)
 have k3:=MP k3
 rw[k3]at w3
 have Nr:Rep t.K (aC W H3) v3 (.str z3):=w3.1
 have e3:=e3.j4 (i:=4) Nr
 refine h4 W _ _ H3 _ e3 (Rs.aO (Rs.aG h) λp4 h H4 e4 s4=>?_)
 split at h
 ·exact h.elim
 rename_i b4
 have b4:p4.1=false:=by simpa using b4
 rw[b4]
 show(if false=true then _ else Ec _ _ H4)
 rw[if_neg (by decide),Zy]
 refine M5 (G:=yK R M q1 z2 z3 c6 c7 T7 c9 f8) hK Zu Zv Zw Zx e4 h λp5 q5 v5 Hb H5 h ZD ZF s5 eb Nt=>?_
 unfold yK at h
 have r5:=Nt.rep eb.wn
 have e5:=ZD.j4 (i:=5) r5
 refine h6 W _ _ H5 _ e5 (Rs.aO (Rs.aG h) λp6 h H6 e6 s6=>?_)
 split at h
 ·exact h.elim
 rename_i b6
 have b6:p6.1=false:=by simpa using b6
 rw[b6]
 show(if false=true then _ else Ed _ _ H6)
 rw[if_neg (by decide),Zz]
 refine h7 W _ _ H6 _ e6 (Rs.aO (Rs.aG h) λp7 h H7 e7 s7=>?_)
 split at h
 ·exact h.elim
 rename_i b7
 have ZG:p7.1=true:=by
  cases w:p7.1 with
  |true=>rfl
  |false=>exact absurd (.inl w) b7
 have ZJ:q1.2≠[]:=λz=>b7 (.inr z)
 rw[ZG]
 show(if true=true then _ else _)
 rw[if_pos rfl]
 obtain⟨a,b,xs,rfl,nab,ZK,Nu,ZL,ZM,rx⟩:=Np
 obtain⟨a',b',xs',rfl,ZP,Eh,vI,ZQ,ZR,rx5⟩:=Nt
 have wa:¬W a:=λz=>ea.wn a z ZK
 have wb:¬W b:=λz=>ea.wn b z Nu
 have Nv:¬W a':=λz=>eb.wn a' z Eh
 have yM:¬W b':=λz=>eb.wn b' z vI
 have vJ:bA W H1 Hb:=((s2.trans s3).trans s4).trans ZF
 have hba:Hb a=some (.tup [.str q1.1,.ref b]):=vJ.keep a _ wa ZL
 have hbb:Hb b=some (.lst xs):=vJ.keep b _ wb ZM
 have tM:bA W H5 H7:=s6.trans s7
 have Nx:H7 a=some (.tup [.str q1.1,.ref b]):=tM.keep a _ wa (s5.keep a _ wa hba)
 have Ny:H7 b=some (.lst xs):=tM.keep b _ wb (s5.keep b _ wb hbb)
 have Nz:H7 a'=some (.tup [.str q5.1,.ref b']):=tM.keep a' _ Nv ZQ
 have Ei:H7 b'=some (.lst xs'):=tM.keep b' _ yM ZR
 have NK:b≠b':=λz=>by rw[z,vI]at hbb; cases hbb
 have NP:a≠b':=λz=>by rw[z,vI]at hba; cases hba
 have ZS:a'≠b:=λz=>by rw[z]at Eh; rw[Eh]at hbb; cases hbb
 have l3 : σ.length=6:=e.len.symm
 have g2:((((σ.set 2 (some (.ref a))).set 3 (some v2)).set 4 (some v3)).set 5 (some (.ref a')))[2]?=some (some (.ref a)):=by
  rw[List.getElem?_set_ne (by decide),List.getElem?_set_ne (by decide),List.getElem?_set_ne (by decide),List.getElem?_set_self (by omega)]
 have g5:((((σ.set 2 (some (.ref a))).set 3 (some v2)).set 4 (some v3)).set 5 (some (.ref a')))[5]?=some (some (.ref a')):=by
  rw[List.getElem?_set_self (by simp only[List.length_set]; omega)]
 refine⟨_,g5,.inr (.inl ⟨a',_,1,.ref b',rfl,rfl,cj.of Nz,by simp[dz,fG],.inl ⟨rfl,xs',bG.of Ei⟩,b',xs',rfl,rfl,Ei,?_⟩)⟩
 intro v9 H9 s9 r9
 have ZV:upd H7 b' (.lst []) a=some (.tup [.str q1.1,.ref b]):=by rw[bQ NP]; exact Nx
 have NQ:upd H7 b' (.lst []) b=some (.lst xs):=by rw[bQ NK]; exact Ny
 have lx:0<xs.length:=by
  rw[rx.length]
  exact List.length_pos_iff.mpr ZJ
 refine⟨_,g2,.inr (.inl ⟨a,_,1,.ref b,rfl,rfl,cj.of (s9 a _ ZV),by simp[dz,fG],b,xs,0,0,rfl,rfl,s9 b _ NQ,Zk (k:=0) lx,?_⟩)⟩
 generalize hX:upd H9 b (.lst (xs.set 0 v9))=X
 have ZW:H9 b'=some (.lst []):=s9 b' _ fD
 have k7:∀c o,c≠b->c≠b'->H7 c=some o->X c=some o:=λc o n1 n2 w=>by
  rw[<-hX,bQ n1]
  exact s9 c o (by rw[bQ n2]; exact w)
 have xb:X b=some (.lst (xs.set 0 v9)):=by rw[<-hX,fD]
 have NT:X b'=some (.lst []):=by rw[<-hX,bQ (Ne.symm NK)]; exact ZW
 have xa:X a=some (.tup [.str q1.1,.ref b]):=k7 a _ nab NP Nx
 have ZX:X a'=some (.tup [.str q5.1,.ref b']):=k7 a' _ ZS ZP Nz
 have NZ:bA W H H7:=(((s0.trans s1).trans vJ).trans s5).trans tM
 have hb0:H b=none:=s0.dom b Nu
 have Ej:H b'=none:=(s0.trans (s1.trans vJ)).dom b' vI
 have n7:∀c,X c=none->H7 c=none:=λc w=>by
  cases z:H7 c with
  |none=>rfl
  |some o =>
   by_cases z1:c=b
   ·rw[z1,xb]at w; cases w
   ·by_cases z2:c=b'
    ·rw[z2,NT]at w; cases w
    ·rw[k7 c o z1 z2 z]at w; cases w
 have N5:bA W H X:=⟨λc o n w=>k7 c o (λz=>by rw[z,hb0]at w; cases w) (λz=>by rw[z,Ej]at w; cases w) (NZ.keep c o n w),λc w=>NZ.dom c (n7 c w)⟩
 have eX:aH t W [.sh R,.sh M,.un,.un,.un,.un] σ X:=by
  obtain⟨F,e⟩:=e
  refine⟨F,e.weak (λ_ _ w=>.inr w) rfl N5.off (λ_ w=>w) (λc w=>?_) (e7.tab.ok.fr λc o n w=>?_) (λc o w n=>?_) (λc w=>e7.n0 c (n7 c w)) (λc o w=>?_) (λj c o m w k=>?_) (λj us c o w m k=>?_)⟩
  ·have n1:c≠b:=λz=>wb (z▸w)
   have n2:c≠b':=λz=>yM (z▸w)
   rcases e7.wl c w with⟨l,k⟩|⟨l,k⟩
   ·exact .inl ⟨l,k7 c _ n1 n2 k⟩
   ·exact .inr ⟨l,k7 c _ n1 n2 k⟩
  ·refine k7 c o (λz=>?_) (λz=>?_) w
   ·rw[z,Ny]at w; cases w; exact n _ rfl
   ·rw[z,Ei]at w; cases w; exact n _ rfl
  ·refine k7 c o (λz=>?_) (λz=>?_) (e7.f0 c o w n)
   ·rw[z,e.n0 b hb0]at w; cases w
   ·rw[z,e.n0 b' Ej]at w; cases w
  ·have q:=e.pn c o w
   refine k7 c o (λz=>?_) (λz=>?_) (e7.pn c o w)
   ·rw[z,hb0]at q; cases q
   ·rw[z,Ej]at q; cases q
  ·exfalso
   obtain⟨ts,q|q⟩:=m <;> rcases j with _|_|_|_|_|_|j <;> simp at q
  ·exfalso
   rcases j with _|_|_|_|_|_|j <;> simp at w
 have Z0:∀c,(W c\/c=b\/c=b')->upd H7 b' (.lst []) c≠none:=λc w z=>by
  rcases w with w|rfl|rfl
  ·have n2:c≠b':=λq=>yM (q▸w)
   rw[bQ n2]at z
   exact e7.wn c w z
  ·rw[NQ]at z; cases z
  ·rw[fD]at z; cases z
 have Z1:Rep t.K (aC W X) v9 T7:=by
  rw[hK]
  refine(r9 _ (Pj.aC Z0)).mono λc o q=>?_
  obtain⟨n,q⟩:=gF q
  have n1:¬W c:=λz=>n (.inl z)
  have n2:c≠b:=λz=>n (.inr (.inl z))
  rw[cQ n1,<-hX,bQ n2]
  exact q
 have Z2:aF t.K (aC W X) xs q1.2:=rx.mono λc o q=>by
  obtain⟨n,q⟩:=oR q
  obtain⟨m,q⟩:=gF q
  rw[cQ m]
  have qb:=vJ.keep c o m q
  exact k7 c o n (λz=>by rw[z,vI]at qb; cases qb) (tM.keep c o m (s5.keep c o m qb))
 have rA:Rep t.K (aC W X) (.ref a) (pH q1.1 (q1.2.set 0 T7)):=.tup (cj.of (by rw[cQ wa]; exact xa)) (.cons (.str _) (.cons (.lst (bG.of (by rw[cQ wb]; exact xb)) (Z2.set Z1 0)) .nil))
 have rB:Rep t.K (aC W X) (.ref a') (pH q5.1 []):=.tup (cj.of (by rw[cQ Nv]; exact ZX)) (.cons (.str _) (.cons (.lst (bG.of (by rw[cQ yM]; exact NT)) .nil) .nil))
 have Z4:Rep t.K (aC W X) v2 (.str z2):=M4 Nq
 have Z5:Rep t.K (aC W X) v3 (.str z3):=M4 Nr
 have e10:=(((eX.j4 (i:=2) rA).j4 (i:=3) Z4).j4 (i:=4) Z5).j4 (i:=5) rB
 refine h9 W _ _ X _ e10 (Rs.aO (Rs.aG h) λp9 h N6 Z6 Z7=>?_)
 split at h
 ·exact h.elim
 rename_i b9
 have b9:p9.1=false:=by simpa using b9
 rw[b9]
 show(if false=true then _ else Ef _ _ N6)
 rw[if_neg (by decide),ZC]
 exact iI h8 W p9.2 _ N6 D Z6 (Rs.aO h λp hp=>hp.back (N5.trans Z7).nxt)
theorem vK(hK:t.K=aA K){cl:Str->Addr}{n:Nat}{F:FP}{s2:Sp}{E:XK}{tl:TA}{fl:AF}(hx:∀c H',F0 t H'->t.EX c->E (.ref (cl c)) none H')(hn:qJ fl n)(ha:SA t tl fl):SE t (iD (pG (bx K cl n F) s2) [] E tl) (aU F fl):=Zj hK hx hn (λ_ _ _ _=>.inl) ha
theorem Z8{ts:TS}:SS t ts (λ_=>.bad):=λ_ _ _ _ _ _ h=>h.elim
theorem Z9{ts:TS}{f g:SF}(c:En->Bool)(h1:SS t ts f)(h2:SS t ts g):SS t ts (λρ=>if c ρ = true then f ρ else g ρ):=λW ρ σ H D e h=>by
 dsimp only at h
 split at h
 ·exact h1 W ρ σ H D e h
 ·exact h2 W ρ σ H D e h
def yN(w:Str)(i:Nat)(c:BF):UF:=λρ=>(c ρ).bind λp=>if p.1=true then .bad else match p.2[i]? with
 |some (.ow ts)=>.ok (w,ts)
 |_=>.bad
theorem aac(w:Str)(i:Nat){tc:TT}{c:BF}{te:TE}(hc:ST t tc c):SU t (rP (zV tc te (wQ (gD (tC (.str w)) (gD (mZ i) jV))))) (yN w i c):=λW ρ σ H D e h=>by
 refine hc W ρ σ H _ e (Rs.aO (Rs.aG h) λp h H1 e1 s1=>?_)
 split at h
 ·exact h.elim
 rename_i b
 have b:p.1=false:=by simpa using b
 rw[b]
 show(if false=true then _ else _)
 rw[if_neg (by decide)]
 split at h
 case h_2=>exact h.elim
 rename_i ts q
 obtain⟨b,xs,q1,wb,h0,hb,rp⟩:=e1.ow i ts q
 refine⟨_,q1,by rw[sizeLine_eq]; show 2<=16777216; decide,λp hp=>?_⟩
 have vD:p≠b:=λz=>by rw[z,hb]at hp; cases hp
 refine h (.ref p) W _ σ _ (e1.grow (cU hp _)) ⟨p,b,xs,rfl,vD,e1.n0 p hp,h0,fD,by rw[bQ (Ne.symm vD)]; exact hb,rp.mono λc o q=>?_⟩
 obtain⟨n,q⟩:=gF q
 show(if c=b then none else aC t.Z (upd H1 p _) c)=some o
 rw[if_neg (λz:c=b=>n (by rw[z]; exact wb)),cQ λz=>n (e1.zw c z)]
 exact cU hp _ c o q
end
end L2
end
section
namespace K69
open PySem L2 BH
def top(i:Nat):Stmt:=PySem.Challenge.pw_bestheads_k69_rules_as_texts.main.body.getD i (.Pass ⟨0,0,0,0⟩)
abbrev Ek:Stmt:=top 5
abbrev El:Stmt:=top 6
abbrev Em:Stmt:=top 7
abbrev yO:Stmt:=top 10
abbrev Eo:Stmt:=top 11
abbrev Ep:Stmt:=top 14
abbrev yP:Stmt:=top 15
abbrev Er:Stmt:=top 16
abbrev Es:Stmt:=top 17
abbrev Et:Stmt:=top 18
abbrev yQ:Stmt:=top 19
abbrev Eu:Stmt:=top 20
abbrev Ew:Stmt:=top 21
abbrev Ey:Stmt:=top 22
abbrev Ez:Stmt:=top 24
abbrev EY:Stmt:=top 25
abbrev Fb:Stmt:=top 26
abbrev Fd:Stmt:=top 27
abbrev Fe:Stmt:=top 28
abbrev Fg:Stmt:=top 29
abbrev Fi:Stmt:=top 30
abbrev yR:Stmt:=top 31
abbrev Fj:Stmt:=top 32
abbrev Fo:Stmt:=top 33
abbrev Fp:Stmt:=top 34
abbrev Ft:Stmt:=top 35
abbrev Fv:Stmt:=top 36
abbrev Fw:Stmt:=top 37
abbrev Fx:Stmt:=top 38
structure Nm(mg:Str->Option Value):Prop where
 N7:mg "abs" = none
 aad:mg "all" = none
 N8:mg "bool" = none
 Fy:mg "int" = none
 kh:mg "isinstance" = none
 kE:mg "len" = none
 Fz:mg "list" = none
 aae:mg "max" = none
 aaf:mg "min" = none
 FJ:mg "range" = none
 qQ:mg "str" = none
 tO:mg "tuple" = none
 aag:mg "zip" = none
def FN:SF:=(aJ (bT (aj 0) (gT 2 (fV (gN 1) (fV (gN 2) lH)))) (aL (jY (aR (ao aK (aj 2) (eC (.int 1)))) (bC (g1 ig) (ak (aj 1) au)) (mU [(jX jq (aj 1)),(eC (.str "/")),(jX jq (aj 2))] Str.empty))))
def qR:FP:=aN 3 FN
def Oa:SF:=(aL (mQ mR (eC (.str " ")) (jl [none] (jP (aj 0)) (gN 0) jm (aU qR (ak (aj 0) au)))))
def vL:FP:=aN 1 Oa
noncomputable def yS:SF:=(aJ (bF (cF (cB (aU fB (ak (aj 0) (ak (aj 1) au))))) (u9 "NoRule" (eC (.str "this is no rule for so many lists"))) bD) (aJ (bF (aR (ao aK (ao aB (aj 0) (eC (.int 0))) (eC (.str "shares")))) (aL (mU [(eC (.str "shares ")),(jX jq (aU vL (ak (ao aB (aj 0) (eC (.int 1))) au)))] Str.empty)) bD) (aJ (bF (aR (ao aK (ao aB (aj 0) (eC (.int 0))) (eC (.str "middle")))) (aL (mU [(eC (.str "middle ")),(jX jq (ao aB (aj 0) (eC (.int 1))))] Str.empty)) bD) (aL (ao aB (aj 0) (eC (.int 0)))))))
def fL:FP:=aN 2 yS
noncomputable def Ob:SF:=(aJ (bF (cR (cF (cB (jX (pF Txt.isascii) (aj 0)))) (cR (cF (cB (jX (pF Txt.isdigit) (aj 0)))) (aR (ao gq (bC (g1 bM) (ak (aj 0) au)) (aj 1))))) (aL (eC .non)) bD) (aJ (bF (qw (aR (ao aK (ao aB (aj 0) (eC (.int 0))) (eC (.str "0")))) (aR (ao bB (aj 0) (eC (.str "0"))))) (aL (eC .non)) bD) (aL (bC (g1 j9) (ak (aj 0) au)))))
def iM:FP:=aN 2 Ob
noncomputable def FQ:SF:=(aJ (bT (mQ nU (aj 0) (eC (.str "/"))) (gT 3 (fV (gN 2) (fV (gN 3) (fV (gN 4) lH))))) (aJ (bT (aU iM (ak (aj 2) (ak (aj 1) au))) (gN 5)) (aJ (bT (jY (cB (aj 3)) (aU iM (ak (aj 4) (ak (aj 1) au))) (eC (.int 1))) (gN 6)) (aJ (bF (cR (qw (cB (aj 3)) (aR (ao aK (aj 6) (eC (.int 1))))) (cF (cB (aU mO (ak (jA (ak (aj 5) (ak (aj 6) au))) au))))) (aL (eC .non)) bD) (aL (jA (ak (aj 5) (ak (aj 6) au))))))))
def nZ:FP:=aN 7 FQ
def Oc:SF:=(aJ (o8 2 (jl [none,some 1] (jP (aj 0)) (gN 0) jm (aU nZ (ak (aj 0) (ak (aj 1) au))))) (aL (jY (cR (cF (cB (aj 2))) (aR (ao (dR id) (eC .non) (aj 2)))) (eC .non) (aj 2))))
def qT:FP:=aN 3 Oc
noncomputable def aah:SF:=(aJ (bF (aR (ao aK (mH (aj 0) mF (mG (eC (.int 1)))) (iJ [.str "shares"]))) (aJ (bT (aU qT (ak (mH (aj 0) (mG (eC (.int 1))) mF) (ak (aj 1) au))) (gN 2)) (aL (jY (aR (ao (je id) (aj 2) (eC .non))) (eC .non) (jA (ak (eC (.str "shares")) (ak (aj 2) au)))))) bD) (aJ (bF (qw (aR (ao aK (mH (aj 0) mF (mG (eC (.int 1)))) (iJ [.str "middle"]))) (aR (ao aK (bC (g1 bM) (ak (aj 0) au)) (eC (.int 2))))) (aJ (bT (aU iM (ak (ao aB (aj 0) (eC (.int 1))) (ak (aj 1) au))) (gN 3)) (aL (jY (aR (ao (je id) (aj 3) (eC .non))) (eC .non) (jA (ak (eC (.str "middle")) (ak (aj 3) au)))))) bD) (aL (jY (aR (ao (dR id) (bC (g1 dZ) (ak (aj 0) au)) (eC (.tup [(.tup [(.str "least")]),(.tup [(.str "greatest")]),(.tup [(.str "product")])])))) (bC (g1 dZ) (ak (aj 0) au)) (eC .non)))))
def pJ:FP:=aN 4 aah
noncomputable def Od:SF:=(aJ (xT (aU pC (ak (aj 0) au))) (aJ (bT (aU pJ (ak (mQ lJ (aj 0) (eC (.str " "))) (ak (eC (.int 40)) au))) (gN 2)) (aJ (bF (cF (cB (aU fB (ak (aj 2) (ak (aj 1) au))))) (u9 "NoText" (eC (.str "this is no text of a rule for so many lists"))) bD) (aL (aj 2)))))
def kJ:FP:=aN 3 Od
noncomputable def FT:SF:=(aJ (bT (ao bR (ao eV (ao dM (aj 0) (eC (.int 2147483629))) (eC (.int 69621))) (ao eV (ao eV (eC (.int 40503)) (aj 1)) (aj 1))) (gN 2)) (aJ (bT (ao dM (ao bR (ao bR (aj 2) (ao eV (eC (.int 16807)) (aj 1))) (eC (.int 1048583))) (eC (.int 2147483647))) (gN 2)) (aJ (bT (ao dM (ao eV (aj 2) (aj 2)) (eC (.int 2147483629))) (gN 2)) (aL (ao dM (ao eV (aj 2) (ao bR (aj 2) (eC (.int 2)))) (eC (.int 2147483587)))))))
def tQ:FP:=aN 3 FT
noncomputable def FW:SF:=(aJ (bT (eC (.int 0)) (gN 2)) (aJ (bF (aR (ao cJ (aj 1) (bC (g1 bM) (ak (aj 0) au)))) (bT (ao aB (aj 0) (aj 1)) (gN 2)) bD) (aJ (bF (aR (ao gZ (aj 2) (ao jM (eC (.int 10)) (eC (.int 18))))) (aL (sO (ak (ao dw (aj 2) (ao jM (eC (.int 10)) (eC (.int 18)))) au))) bD) (aJ (bT (eC (.int 0)) (gN 3)) (aJ (eE (jD (j5 (ak (eC (.int 20)) au)) (gN 4) (bT (ao bR (ao eV (aj 3) (eC (.int 2147483587))) (aU tQ (ak (aj 2) (ak (ao bR (ao eV (eC (.int 31)) (aj 1)) (aj 4)) au)))) (gN 3)))) (aL (sO (ak (aj 3) au))))))))
def qU:FP:=aN 5 FW
def Ga:SF:=(aJ (bT (ao dM (ao aB (aj 0) (eC (.int 0))) (aj 1)) (gN 2)) (aJ (Cw 0 (eC (.int 0)) (ao mq (ao aB (aj 0) (eC (.int 0))) (aj 1))) (aL (aj 2))))
def fY:FR:=gK 3 0 Ga
def Oe:SF:=(aJ (eE (sY (vo 1) (aR (ao bB (aj 1) (eC (.int 0)))) (u6 0 1 (ak (aj 1) (ak (ao dM (aj 0) (aj 1)) au))))) (aL (bC (g1 mJ) (ak (aj 0) au))))
def yU:FP:=aN 2 Oe
def Gb:SF:=(aJ (bT (aU yU (ak (aj 0) (ak (aj 1) au))) (gN 2)) (aJ (bF (aR (ao cJ (aj 1) (eC (.int 0)))) (bT (ao dw (eC (.int 0)) (aj 2)) (gN 2)) bD) (aL (jA (ak (ao mq (aj 0) (aj 2)) (ak (ao mq (aj 1) (aj 2)) au))))))
def tR:FP:=aN 3 Gb
def Og:SF:=(aL (g8 (d7 .int (aj 0)) (xM (d7 .bool (aj 0)))))
def jr:FP:=aN 1 Og
noncomputable def Oh:SF:=(aJ (bT (dW 0 fY (ak (aj 0) (ak (eC (.int 6)) au))) (gN 1)) (aJ (bF (aR (ao cJ (aj 1) (eC (.int 2)))) (aL (ao aB (iJ [.tup [.int 0,.int 1],.tup [.int 1,.int 1]]) (aj 1))) bD) (aJ (bT (dW 0 fY (ak (aj 0) (ak (ao aB (iJ [.int 4,.int 13,.int 100,.int 1000000000000]) (ao dw (aj 1) (eC (.int 2)))) au))) (gN 2)) (aL (aU tR (ak (aj 2) (ak (ao bR (eC (.int 1)) (dW 0 fY (ak (aj 0) (ak (ao aB (iJ [.int 4,.int 12,.int 99,.int 999999999999]) (ao dw (aj 1) (eC (.int 2)))) au)))) au)))))))
def mV:FR:=gK 3 0 Oh
noncomputable def Oi:SF:=(aJ (bT (dW 0 fY (ak (aj 0) (ak (eC (.int 8)) au))) (gN 2)) (aJ (bF (aR (ao cJ (aj 2) (eC (.int 3)))) (aL (jA (ak (eC (.str "shares")) (ak (jl [none,some 0] (j5 (ak (aj 1) au)) (gN 0) jm (dW 0 mV (ak (aj 1) au))) au)))) bD) (aJ (bF (aR (ao cJ (aj 2) (eC (.int 5)))) (aL (jA (ak (eC (.str "middle")) (ak (ao bR (eC (.int 1)) (dW 0 fY (ak (aj 0) (ak (aj 1) au)))) au)))) bD) (aL (ao aB (iJ [.tup [.str "least"],.tup [.str "greatest"],.tup [.str "product"]]) (ao dw (aj 2) (eC (.int 5))))))))
def tU:FR:=gK 3 0 Oi
noncomputable def Gd:SF:=(aJ (bF (aR (ao aK (ao aB (aj 0) (eC (.int 1))) (eC (.int 1)))) (aL (bC (g1 ig) (ak (ao aB (aj 0) (eC (.int 0))) au))) bD) (aL (ao bR (ao bR (bC (g1 ig) (ak (ao aB (aj 0) (eC (.int 0))) au)) (eC (.str "/"))) (bC (g1 ig) (ak (ao aB (aj 0) (eC (.int 1))) au)))))
def qW:FP:=aN 1 Gd
noncomputable def Oj:SF:=(aJ (bT (ao aB (aj 0) (eC (.int 0))) (gN 1)) (aJ (bF (aR (ao aK (ao aB (aj 0) (eC (.int 0))) (eC (.str "shares")))) (eE (jD (jP (ao aB (aj 0) (eC (.int 1)))) (gN 2) (bT (ao bR (ao bR (aj 1) (eC (.str " "))) (aU qW (ak (aj 2) au))) (gN 1)))) bD) (aJ (bF (aR (ao aK (ao aB (aj 0) (eC (.int 0))) (eC (.str "middle")))) (bT (ao bR (ao bR (aj 1) (eC (.str " "))) (bC (g1 ig) (ak (ao aB (aj 0) (eC (.int 1))) au))) (gN 1)) bD) (aL (aj 1)))))
def jG:FP:=aN 3 Oj
noncomputable def Ol:SF:=(aJ (bF (cR (cF (cB (d7 .list (aj 0)))) (aR (ao bB (bC (g1 bM) (ak (aj 0) au)) (bC (g1 bM) (ak (aj 1) au))))) (aL (eC (.bl false))) bD) (aJ (eE (jD (tG (ak (aj 0) (ak (aj 1) au))) (gT 2 (fV (gN 2) (fV (gN 3) lH))) (aJ (bF (cR (cF (cB (d7 .tuple (aj 2)))) (cR (aR (ao bB (bC (g1 bM) (ak (aj 2) au)) (eC (.int 2)))) (cR (cF (cB (aU jr (ak (ao aB (aj 2) (eC (.int 0))) au)))) (cF (cB (aU jr (ak (ao aB (aj 2) (eC (.int 1))) au))))))) (aL (eC (.bl false))) bD) (bF (aR (ao bB (aj 2) (aj 3))) (aL (eC (.bl false))) bD)))) (aL (eC (.bl true)))))
def mW:FP:=aN 4 Ol
noncomputable def Om:SF:=(aJ (bF (cR (cF (cB (d7 .tuple (aj 0)))) (cR (aR (ao bB (bC (g1 bM) (ak (aj 0) au)) (bC (g1 bM) (ak (aj 1) au)))) (aR (ao bB (ao aB (aj 0) (eC (.int 0))) (ao aB (aj 1) (eC (.int 0))))))) (aL (eC (.bl false))) bD) (aJ (bF (aR (ao aK (ao aB (aj 1) (eC (.int 0))) (eC (.str "shares")))) (aL (aU mW (ak (ao aB (aj 0) (eC (.int 1))) (ak (ao aB (aj 1) (eC (.int 1))) au)))) bD) (aL (sS (ao bB (ao aB (aj 1) (eC (.int 0))) (eC (.str "middle"))) (g8 (aU jr (ak (ao aB (aj 0) (eC (.int 1))) au)) (ao aK (ao aB (aj 0) (eC (.int 1))) (ao aB (aj 1) (eC (.int 1)))))))))
def iQ:FP:=aN 2 Om
def Oo:SF:=(aJ (bF (aR (ao aK (ao aB (aj 0) (eC (.int 0))) (eC (.str "shares")))) (aL (jA (ak (eC (.str "shares")) (ak (bC (g1 fH) (ak (ao aB (aj 0) (eC (.int 1))) au)) au)))) bD) (aL (aj 0)))
def qX:FP:=aN 1 Oo
def Oq:UF:=tL (aR (ao aK (ao aB (aj 0) (eC (.int 0))) (eC (.str "shares")))) (DY "shares" (bC (g1 fH) (ak (ao aB (aj 0) (eC (.int 1))) au)))
def qY:FU:=tH 1 Oq
def aai:UF:=tL (aR (ao aK (mH (aj 0) mF (mG (eC (.int 1)))) (iJ [.str "shares"]))) (tK (o8 2 (aU qT (ak (mH (aj 0) (mG (eC (.int 1))) mF) (ak (aj 1) au)))) (yN "shares" 2 (aR (ao (je id) (aj 2) (eC .non)))))
def vM:FU:=tH 4 aai
def Ot:UF:=tK (xT (aU pC (ak (aj 0) au))) (Ea 2 vM (ak (mQ lJ (aj 0) (eC (.str " "))) (ak (eC (.int 40)) au)) (cF (cB (aU fB (ak (aj 2) (ak (aj 1) au))))))
def qZ:FU:=tH 3 Ot
def lM:En->Bool
 |.sh (.tup (.str w::_))::_=>w == "shares"
 |_=>false
noncomputable def yV:SF:=λρ=>if lM ρ = true then(vG qY (ak (aj 0) au) (aU jG (ak (aj 0) au)) (aU fL (ak (aj 2) (ak (aj 1) au))) (cR (cF (cB (d7 .str (aj 4)))) (cR (aR (ao bB (aj 4) (aj 3))) (aR (ao bB (aj 2) (aj 0))))) qZ (ak (aj 3) (ak (aj 1) au)) (cF (cB (aU iQ (ak (aj 5) (ak (aj 0) au))))) (aR (ao aK (ao aB (aj 0) (eC (.int 0))) (eC (.str "shares")))) (.tup [.int 7,.int 3]) (aR (ao bB (aU fL (ak (aj 2) (ak (aj 1) au))) (aU jG (ak (aj 2) au)))) (g8 (aU iQ (ak (aU kJ (ak (aj 3) (ak (aj 1) au))) (ak (aj 0) au))) (ao aK (aU fL (ak (aj 0) (ak (aj 1) au))) (aj 3))) ρ)else(aJ (bT (aU qX (ak (aj 0) au)) (gN 2)) (aJ (bT (aU jG (ak (aj 0) au)) (gN 3)) (aJ (bT (aU fL (ak (aj 2) (ak (aj 1) au))) (gN 4)) (aJ (bF (cR (cF (cB (d7 .str (aj 4)))) (cR (aR (ao bB (aj 4) (aj 3))) (aR (ao bB (aj 2) (aj 0))))) (aL (eC (.bl false))) bD) (aJ (bT (aU kJ (ak (aj 3) (ak (aj 1) au))) (gN 5)) (aJ (bF (cF (cB (aU iQ (ak (aj 5) (ak (aj 0) au))))) (aL (eC (.bl false))) bD) (aJ (bF (aR (ao aK (ao aB (aj 0) (eC (.int 0))) (eC (.str "shares")))) (λ_=>.bad) bD) (aL (g8 (aU iQ (ak (aU kJ (ak (aj 3) (ak (aj 1) au))) (ak (aj 0) au))) (ao aK (aU fL (ak (aj 0) (ak (aj 1) au))) (aj 3))))))))))) ρ
def pK:FP:=aN 6 yV
noncomputable def aaj:SF:=(aJ (eE (jD (j5 (ak (bC (g2 jC) (ak (bC (g2 jB) (ak (bC (g1 bM) (ak (aj 0) au)) (ak (eC (.int 40)) au))) (ak (eC (.int 1)) au))) au)) (gN 1) (aJ (o8 2 (aU qU (ak (aj 0) (ak (aj 1) au)))) (aJ (bT (ao bR (eC (.int 1)) (dW 0 fY (ak (aj 2) (ak (eC (.int 4)) au)))) (gN 3)) (bF (cF (cB (aU pK (ak (dW 0 tU (ak (aj 2) (ak (aj 3) au))) (ak (aj 3) au))))) (aL (eC (.bl false))) bD))))) (aL (eC (.bl true))))
def vN:FP:=aN 4 aaj
end K69
end
section
namespace K69
open PySem L2 BH
local macro_rules | `(tactic| walk_at "1")=>`(tactic| exact λ_ _ _ _ _ _ us hl=>match us,hl with | [_],_=>by kernel_rfl)
local macro_rules | `(tactic| walk_at "2")=>`(tactic| exact λ_ _ _ _ _ _ us hl=>match us,hl with | [_,_],_=>by kernel_rfl)
local macro_rules | `(tactic| walk_at "s")=>`(tactic| first|refine Di (by assumption) ?_ ?_|(refine K4 (by assumption) ?_; exact uZ (jj _) (uZ (jj _) (uZ (jj _) K3)))|(refine K4 (by assumption) ?_; exact uZ (jj _) (uZ (jj _) K3)))
local macro_rules | `(tactic| walk_at "s")=>`(tactic| with_reducible first|exact aQ _|refine aY ?_ ?_|exact bZ|refine bH ?_|exact cP|exact dX _|refine eY ?_ ?_|exact jj _|exact mK|refine jR (by assumption) ?_ ?_|refine iI ?_|refine nM (js:=?_) ?_ ?_ ?_|refine Dh (by assumption) (by assumption) ?_ ?_|refine eZ (by assumption) (by assumption) ?_ ?_|refine Xy ?_|refine Xx ?_ ?_|exact Xw|exact Xi|exact VB|refine Cj ?_ ?_|exact uR _|exact yr (by assumption)|refine YH (js:=?_) (by assumption) ?_ ?_ (λ_ _ _=>?_) (λ_ _ _=>?_) ?_ (by decide)|exact yh (by assumption) (by assumption)|refine xO ?_ ?_ ?_|refine xQ (by assumption) _ ?_|refine VH ?_|exact qp|refine V0 ?_|refine VP ?_ ?_|refine sW (by assumption) ?_ ?_ ?_|exact gW _|refine xK ?_|refine vC ?_ ?_|exact DQ|refine K7 ?_|refine Wi (by assumption) ?_|refine Ys (by assumption) ?_|exact sU|refine sV ?_|exact X6 (by decide)|refine K6 (js:=?_) ?_ ?_ ?_ ?_|refine jO ?_ ?_ ?_|exact jN|refine YG (by assumption) (λ_ _ _=>?_)|refine Cq _ ?_|refine Ws _ _ ?_|refine Wq _ ?_ ?_|refine Wf _ ?_ ?_|refine KH ?_ ?_|refine mD ?_|refine uY ?_ ?_|refine dY ?_|refine YF (by assumption) ?_|refine YW _ ?_|refine XR (by assumption) ?_|refine Lr (by assumption) ?_ ?_|refine X3 (by assumption) ?_|refine XQ (by assumption) ?_ ?_ ?_ ?_ ?_ ?_ ?_|refine XF (by assumption) ?_ ?_|refine x_eq (by assumption) ?_ ?_|refine DW ?_ _|refine DP ?_|refine x_ge (by assumption) ?_ ?_|refine XM (by assumption) ?_ ?_|refine Ls (by assumption) ?_ ?_|refine Ze (by assumption) ?_|refine yj (by assumption) ?_ ?_|refine Y8 (by assumption) ?_ ?_|refine x_len (by assumption) ?_|refine Df (by assumption) ?_|refine x_lt (by assumption) ?_ ?_|refine XH (by assumption) ?_ ?_|refine XD (by assumption) ?_ ?_|refine tD (by assumption) ?_ ?_|refine Y7 ?_ ?_|refine XJ (by assumption) ?_ ?_|refine XS (by assumption) ?_|refine XC (by assumption) ?_ ?_|refine Dg (by assumption) ?_)
local macro_rules | `(tactic| walk_at "t")=>`(tactic| ((try dsimp only[jx]); repeat' walk_at "s"))
section
variable {P:Program}{w:World}{K:FZ}{mg:Str->Option Value}{base:Heap}{cl:Str->Addr}
theorem aak(a:At K mg "_law_copied" Fv) (M:Nm mg):aX P w K mg base 1 "_law_copied" (["_law_rule_here"]:List Str) (pG (bx K cl 1 qX) (lK K cl 1 qY)):=by
 have S:=fS (["_law_rule_here"]:List Str) (["_law_rule_here"]:List Str) (bL Fv)
 exact a.Eb S (cl:=cl) (by decide) (by walk_at "1") (λf cdv A outer s H E hr=>⟨_,(bw (cM (cC (gk hr.units) (cG (aq 0) aP) cZ (cg _)) (aZ (bN (m5 (aD cZ (aD (nQ Tp M.Fz (aD (cG (aq 0) aP) aM)) aM))))) cL) (aZ (bN (aq 0)))),λt hK hx=>⟨(eY (jO (dY (x_eq hK (jR hK (aQ 0) (dX _)) (gW _))) (iI (xK (aY (gW _) (aY (Df hK (aY (jR hK (aQ 0) (dX _)) bZ)) bZ)))) jN) (iI (aQ 0))),MJ (dY (x_eq hK (jR hK (aQ 0) (dX _)) (gW _))) (Zf _ (Df hK (aY (jR hK (aQ 0) (dX _)) bZ)))⟩⟩)
theorem aal(a:At K mg "_law_frac" Fe) (M:Nm mg) (aam:aX P w K mg base 1 "_law_shared" (["_law_one", "_law_other"]:List Str) (bx K cl 2 yU)):aX P w K mg base 2 "_law_frac" (["_law_top", "_law_bottom"]:List Str) (bx K cl 2 tR):=by
 have S:=fS (["_law_top", "_law_bottom", "_law_by"]:List Str) (["_law_top", "_law_bottom"]:List Str) (bL Fe)
 exact a.d8 S (cl:=cl) (by decide) (by walk_at "2") (λf cdv A outer s H E hr=>⟨_,(bw (dF 2 S.nd (pc1 (E:=E) aam hr cO (aD (aq 0) (aD (aq 1) aM)))) (bw (cM (cC (uU hr.units) (aq 1) aP (cg _)) (aZ (dF 2 S.nd (cu rT aP (aq 2)))) cL) (aZ (bN (m5 (aD (cu Cg (aq 0) (aq 2)) (aD (cu Cg (aq 1) (aq 2)) aM))))))),λt hK hx=>by delta Gb; walk_at "t"⟩)
theorem aan(a:At K mg "_law_frac_text" Fj) (M:Nm mg):aX P w K mg base 1 "_law_frac_text" (["_law_some"]:List Str) (bx K cl 1 qW):=by
 have S:=fS (["_law_some"]:List Str) (["_law_some"]:List Str) (bL Fj)
 exact a.d8 S (cl:=cl) (by decide) (by walk_at "1") (λf cdv A outer s H E hr=>⟨_,(bw (cM (cC (gk hr.units) (cG (aq 0) aP) aP (cg _)) (aZ (bN (nQ (uO hr.gd hr.units) M.qQ (aD (cG (aq 0) aP) aM)))) cL) (aZ (bN (cu jf (cu jf (nQ (uO hr.gd hr.units) M.qQ (aD (cG (aq 0) aP) aM)) cZ) (nQ (uO hr.gd hr.units) M.qQ (aD (cG (aq 0) aP) aM)))))),λt hK hx=>by delta Gd; walk_at "t"⟩)
theorem aao(a:At K mg "_law_fracs" Fp) (M:Nm mg) (XT:jT K) (yW:aX P w K mg base 1 "_law_whole" (["_law_found"]:List Str) (bx K cl 1 jr)):aX P w K mg base 2 "_law_fracs" (["_law_found", "_law_due"]:List Str) (bx K cl 2 mW):=by
 have S:=fS (["_law_found", "_law_due", "_law_one", "_law_other"]:List Str) (["_law_found", "_law_due"]:List Str) (bL Fp)
 exact a.d8 S (cl:=cl) (by decide) (by walk_at "2") (λf cdv A outer s H E hr=>⟨_,(bw (cM (PW.pt (iY (fQ (eH (j7 XT.o .list (aq 0) M.kh M.Fz) (by intro _; rfl))) (lV (cC (jd hr.units) (iw jZ M.kE (aD (aq 0) aM)) (iw jZ M.kE (aD (aq 1) aM)) (cg _))))) (aZ (bN iW)) cL) (bw (PS.oE (wK PassesOwn.never rfl (Vb M.aag (aD (aq 0) (aD (aq 1) aM))) (uy rfl (lu (gM 2 S.nd) (lu (gM 3 S.nd) ux))) (bw (cM (PW.pt (iY (fQ (eH (j7 XT.o .tuple (aq 2) M.kh M.tO) (by intro _; rfl))) (iY (cC (jd hr.units) (iw jZ M.kE (aD (aq 2) aM)) aP (cg _)) (iY (fQ (eH (j8 yW hr (aD (cG (aq 2) aP) aM)) (by intro _; rfl))) (lV (fQ (eH (j8 yW hr (aD (cG (aq 2) aP) aM)) (by intro _; rfl)))))))) (aZ (bN iW)) cL) (aZ (cM (cC (jd hr.units) (aq 2) (aq 3) (cg _)) (aZ (bN iW)) cL))))) (aZ (bN iW)))),λt hK hx=>by delta Ol; walk_at "t"⟩)
theorem aap(a:At K mg "_law_good" Fw) (M:Nm mg) (XT:jT K) (aaq:aX P w K mg base 1 "_law_copied" (["_law_rule_here"]:List Str) (pG (bx K cl 1 qX) (lK K cl 1 qY))) (Ou:aX P w K mg base 2 "_law_rule_text" (["_law_rule_here"]:List Str) (bx K cl 1 jG)) (Ge:aX P w K mg base 5 "shown_rule" (["rule", "many"]:List Str) (bx K cl 2 fL)) (Ov:aX P w K mg base 6 "read_rule" (["text", "many"]:List Str) (pG (bx K cl 2 kJ) (lK K cl 2 qZ))) (Ow:aX P w K mg base 3 "_law_same_rule" (["_law_found", "_law_rule_here"]:List Str) (bx K cl 2 iQ)):aX P w K mg base 7 "_law_good" (["_law_rule_here", "_law_many"]:List Str) (bx K cl 2 pK):=by
 have S:=fS (["_law_rule_here", "_law_many", "_law_handed", "_law_text", "_law_found", "_law_told"]:List Str) (["_law_rule_here", "_law_many"]:List Str) (bL Fw)
 exact a.d8 S (cl:=cl) (by decide) (by walk_at "2") (λf cdv A outer s H E hr=>⟨_,(bw (dF 2 S.nd (pc1 (E:=E) aaq hr cO (aD (aq 0) aM))) (bw (dF 3 S.nd (pc1 (E:=E) Ou hr cO (aD (aq 0) aM))) (bw (dF 4 S.nd (pc1 (E:=E) Ge hr cO (aD (aq 2) (aD (aq 1) aM)))) (bw (cM (PW.pt (iY (fQ (eH (j7 XT.o .str (aq 4) M.kh M.qQ) (by intro _; rfl))) (iY (cC (jd hr.units) (aq 4) (aq 3) (cg _)) (lV (cC (jd hr.units) (aq 2) (aq 0) (cg _)))))) (aZ (bN iW)) cL) (bw (dF 5 S.nd (pc1 (E:=E) Ov hr cO (aD (aq 3) (aD (aq 1) aM)))) (bw (cM (fQ (eH (pc1 (E:=E) Ow hr cO (aD (aq 5) (aD (aq 0) aM))) (by intro _; rfl))) (aZ (bN iW)) cL) (bw (cM (cC (gk hr.units) (cG (aq 0) aP) cZ (cg _)) (bw (psE (Ay PySem.F.plainAttrs_list PySem.F.slot_list_clear PySem.F.type_list_clear Tw (cG (aq 5) aP))) (bw (rQ (Yk (G:=aA K) (Ts:=[.int 7,.int 3]) (by kernel_rfl)) (Ik (cG (aq 2) aP) aP set_list)) (aZ (cM (cC (jd hr.units) (pc1 (E:=E) Ge hr cO (aD (aq 2) (aD (aq 1) aM))) (pc1 (E:=E) Ou hr cO (aD (aq 2) aM)) (cg _)) (aZ (bN iW)) cL)))) cL) (aZ (bN (oA (pc1 (E:=E) Ow hr cO (aD (pc1 (E:=E) Ov hr cO (aD (aq 3) (aD (aq 1) aM))) (aD (aq 0) aM))) (ou (oH (gk hr.units) (pc1 (E:=E) Ge hr cO (aD (aq 0) (aD (aq 1) aM))) (aq 3) (cg _))))))))))))),λt hK hx=>Z9 lM (Zn hK hx hx (bH cP) (bH (bH cP)) (λ_ _ _ _=>.inr) (λ_ _ _ _=>.inr) (aY (aQ 0) bZ) (eZ hK hx (bH cP) (aY (aQ 0) bZ)) (eZ hK hx (bH (bH cP)) (aY (aQ 2) (aY (aQ 1) bZ))) (uY (mD (mz hK (xQ hK .str (aQ 4)))) (uY (dY (tD hK (aQ 4) (aQ 3))) (dY (tD hK (aQ 2) (aQ 0))))) (aY (aQ 3) (aY (aQ 1) bZ)) (mD (mz hK (eZ hK hx (bH (bH cP)) (aY (aQ 5) (aY (aQ 0) bZ))))) (dY (x_eq hK (jR hK (aQ 0) (dX _)) (gW _))) (dY (tD hK (eZ hK hx (bH (bH cP)) (aY (aQ 2) (aY (aQ 1) bZ))) (eZ hK hx (bH cP) (aY (aQ 2) bZ)))) (Cj (eZ hK hx (bH (bH cP)) (aY (vK hK hx (bH (bH cP)) (aY (aQ 3) (aY (aQ 1) bZ))) (aY (aQ 0) bZ))) (x_eq hK (eZ hK hx (bH (bH cP)) (aY (aQ 0) (aY (aQ 1) bZ))) (aQ 3))) (λ_=>rfl) (λ_=>rfl) (λ_=>rfl)) (eY (nM (vK hK hx (bH cP) (aY (aQ 0) bZ)) (jj 2) mK) (eY (nM (eZ hK hx (bH cP) (aY (aQ 0) bZ)) (jj 3) mK) (eY (nM (eZ hK hx (bH (bH cP)) (aY (aQ 2) (aY (aQ 1) bZ))) (jj 4) mK) (eY (jO (uY (mD (mz hK (xQ hK .str (aQ 4)))) (uY (dY (tD hK (aQ 4) (aQ 3))) (dY (tD hK (aQ 2) (aQ 0))))) (iI (uR _)) jN) (eY (nM (vK hK hx (bH (bH cP)) (aY (aQ 3) (aY (aQ 1) bZ))) (jj 5) mK) (eY (jO (mD (mz hK (eZ hK hx (bH (bH cP)) (aY (aQ 5) (aY (aQ 0) bZ))))) (iI (uR _)) jN) (eY (jO (dY (x_eq hK (jR hK (aQ 0) (dX _)) (gW _))) Z8 jN) (iI (Cj (eZ hK hx (bH (bH cP)) (aY (vK hK hx (bH (bH cP)) (aY (aQ 3) (aY (aQ 1) bZ))) (aY (aQ 0) bZ))) (x_eq hK (eZ hK hx (bH (bH cP)) (aY (aQ 0) (aY (aQ 1) bZ))) (aQ 3)))))))))))⟩)
theorem aar(a:At K mg "_law_mixed" Ez) (M:Nm mg):aX P w K mg base 1 "_law_mixed" (["_law_cell", "_law_k"]:List Str) (bx K cl 2 tQ):=by
 have S:=fS (["_law_cell", "_law_k", "_law_number"]:List Str) (["_law_cell", "_law_k"]:List Str) (bL Ez)
 exact a.d8 S (cl:=cl) (by decide) (by walk_at "2") (λf cdv A outer s H E hr=>⟨_,(bw (dF 2 S.nd (cu jf (cu oY (cu pY (aq 0) aP) aP) (cu oY (cu oY aP (aq 1)) (aq 1)))) (bw (dF 2 S.nd (cu pY (cu jf (cu jf (aq 2) (cu oY aP (aq 1))) aP) aP)) (bw (dF 2 S.nd (cu pY (cu oY (aq 2) (aq 2)) aP)) (aZ (bN (cu pY (cu oY (aq 2) (cu jf (aq 2) aP)) aP)))))),λt hK hx=>by delta FT; walk_at "t"⟩)
theorem aas(a:At K mg "_law_pile" EY) (M:Nm mg) (aat:aX P w K mg base 1 "_law_mixed" (["_law_cell", "_law_k"]:List Str) (bx K cl 2 tQ)):aX P w K mg base 2 "_law_pile" (["_law_script", "_law_k"]:List Str) (bx K cl 2 qU):=by
 have S:=fS (["_law_script", "_law_k", "_law_cell", "_law_found", "_law_j"]:List Str) (["_law_script", "_law_k"]:List Str) (bL EY)
 exact a.d8 S (cl:=cl) (by decide) (by walk_at "2") (λf cdv A outer s H E hr=>⟨_,(bw (dF 2 S.nd aP) (bw (cM (cC (uU hr.units) (aq 1) (iw jZ M.kE (aD (aq 0) aM)) (cg _)) (aZ (dF 2 S.nd (cG (aq 0) (aq 1)))) cL) (bw (cM (cC Ah (aq 2) (cu Ag aP aP) (cg _)) (aZ (bN (Aj (aD (cu rT (aq 2) (cu Ag aP aP)) aM)))) cL) (bw (dF 3 S.nd aP) (bw (PS.oE (wK PassesOwn.never rfl (Dk M.FJ (aD aP aM)) (gM 4 S.nd) (aZ (dF 3 S.nd (cu jf (cu oY (aq 3) aP) (j8 aat hr (aD (aq 2) (aD (cu jf (cu oY aP (aq 1)) (aq 4)) aM)))))))) (aZ (bN (Aj (aD (aq 3) aM))))))))),λt hK hx=>by delta FW; walk_at "t"⟩)
theorem aau(a:At K mg "_law_rule" yR) (M:Nm mg) (pL:aX P w K mg base 1 "_law_take" (["_law_pile_here", "_law_size"]:List Str) (j6 K 2 0 fY)) (aav:aX P w K mg base 3 "_law_weight" (["_law_pile_here"]:List Str) (j6 K 1 0 mV)):aX P w K mg base 4 "_law_rule" (["_law_pile_here", "_law_many"]:List Str) (j6 K 2 0 tU):=by
 have S:=fS (["_law_pile_here", "_law_many", "_law_way"]:List Str) (["_law_pile_here", "_law_many"]:List Str) (bL yR)
 exact a.CN 0 S (cl:=λ_=>0) (by decide) (by walk_at "2") (λf cdv A outer s H E hr=>⟨_,(bw (dF 2 S.nd (pc1 (E:=E) pL hr cO (aD (yu 0) (aD aP aM)))) (bw (cM (cC (uU hr.units) (aq 2) aP (cg _)) (aZ (bN (m5 (aD cZ (aD (Bf (sc:=bL yR) (No:=(["_law_pile_here", "_law_many", "_law_way"]:List Str)) (N:=(["_law_k", "_law_pile_here"]:List Str)) (src:=[none,some 0]) (g:=(iC 0)) rfl rfl ⟨by rfl,by decide +kernel,by decide +kernel,by decide +kernel,by rfl,by decide +kernel⟩ rfl (Dk M.FJ (aD (aq 1) aM)) (λC s H ex=>(gM 0 (show List.Nodup (["_law_k", "_law_pile_here"]:List Str) by decide +kernel))) (λC s H ex=>(j8 aav hr (aD (yu 1) aM)))) aM))))) cL) (bw (cM (cC (uU hr.units) (aq 2) aP (cg _)) (aZ (bN (m5 (aD cZ (aD (cu jf aP (pc1 (E:=E) pL hr cO (aD (yu 0) (aD (aq 1) aM)))) aM))))) cL) (aZ (bN (cG (tE (G:=aA K) (Ts:=[.tup [.str "least"],.tup [.str "greatest"],.tup [.str "product"]]) (by kernel_rfl)) (cu rT (aq 2) aP))))))),λt hK hx=>by delta Oi; walk_at "t"⟩)
theorem aaw(a:At K mg "_law_rule_text" Fo) (M:Nm mg) (aax:aX P w K mg base 1 "_law_frac_text" (["_law_some"]:List Str) (bx K cl 1 qW)):aX P w K mg base 2 "_law_rule_text" (["_law_rule_here"]:List Str) (bx K cl 1 jG):=by
 have S:=fS (["_law_rule_here", "_law_text", "_law_weight_here"]:List Str) (["_law_rule_here"]:List Str) (bL Fo)
 exact a.d8 S (cl:=cl) (by decide) (by walk_at "1") (λf cdv A outer s H E hr=>⟨_,(bw (dF 1 S.nd (cG (aq 0) aP)) (bw (cM (cC (gk hr.units) (cG (aq 0) aP) cZ (cg _)) (aZ (PS.oE (wK PassesOwn.never rfl (xV (cG (aq 0) aP)) (gM 2 S.nd) (aZ (dF 1 S.nd (cu jf (cu jf (aq 1) cZ) (j8 aax hr (aD (aq 2) aM)))))))) cL) (bw (cM (cC (gk hr.units) (cG (aq 0) aP) cZ (cg _)) (aZ (dF 1 S.nd (cu jf (cu jf (aq 1) cZ) (nQ (uO hr.gd hr.units) M.qQ (aD (cG (aq 0) aP) aM))))) cL) (aZ (bN (aq 1)))))),λt hK hx=>by delta Oj; walk_at "t"⟩)
theorem aay(a:At K mg "_law_same_rule" Ft) (M:Nm mg) (XT:jT K) (aaz:aX P w K mg base 2 "_law_fracs" (["_law_found", "_law_due"]:List Str) (bx K cl 2 mW)) (yW:aX P w K mg base 1 "_law_whole" (["_law_found"]:List Str) (bx K cl 1 jr)):aX P w K mg base 3 "_law_same_rule" (["_law_found", "_law_rule_here"]:List Str) (bx K cl 2 iQ):=by
 have S:=fS (["_law_found", "_law_rule_here"]:List Str) (["_law_found", "_law_rule_here"]:List Str) (bL Ft)
 exact a.d8 S (cl:=cl) (by decide) (by walk_at "2") (λf cdv A outer s H E hr=>⟨_,(bw (cM (PW.pt (iY (fQ (eH (j7 XT.o .tuple (aq 0) M.kh M.tO) (by intro _; rfl))) (iY (cC (jd hr.units) (iw jZ M.kE (aD (aq 0) aM)) (iw jZ M.kE (aD (aq 1) aM)) (cg _)) (lV (cC (jd hr.units) (cG (aq 0) aP) (cG (aq 1) aP) (cg _)))))) (aZ (bN iW)) cL) (bw (cM (cC (gk hr.units) (cG (aq 1) aP) cZ (cg _)) (aZ (bN (pc1 (E:=E) aaz hr cO (aD (cG (aq 0) aP) (aD (cG (aq 1) aP) aM))))) cL) (aZ (bN (Rg (oH (jd hr.units) (cG (aq 1) aP) cZ (cg _)) (ou (oA (pc1 (E:=E) yW hr cO (aD (cG (aq 0) aP) aM)) (ou (oH (gk hr.units) (cG (aq 0) aP) (cG (aq 1) aP) (cg _)))))))))),λt hK hx=>by delta Om; walk_at "t"⟩)
theorem aaA(a:At K mg "_law_shared" Fd) (M:Nm mg):aX P w K mg base 1 "_law_shared" (["_law_one", "_law_other"]:List Str) (bx K cl 2 yU):=by
 have S:=fS (["_law_one", "_law_other"]:List Str) (["_law_one", "_law_other"]:List Str) (bL Fd)
 exact a.d8 S (cl:=cl) (by decide) (by walk_at "2") (λf cdv A outer s H E hr=>⟨_,(bw (PS.oE (Ip PassesOwn.never (cC (jd hr.units) (aq 1) aP (cg _)) (aZ (Im (i:=0) (j:=1) rfl S.nd rfl rfl (by decide) rfl rfl (aD (aq 1) (aD (cu pY (aq 0) (aq 1)) aM)) rfl)))) (aZ (bN (iw Jc M.N7 (aD (aq 0) aM))))),λt hK hx=>by delta Oe; walk_at "t"⟩)
theorem aaB(a:At K mg "_law_take" Fb) (M:Nm mg):aX P w K mg base 1 "_law_take" (["_law_pile_here", "_law_size"]:List Str) (j6 K 2 0 fY):=by
 have S:=fS (["_law_pile_here", "_law_size", "_law_digit"]:List Str) (["_law_pile_here", "_law_size"]:List Str) (bL Fb)
 exact a.CN 0 S (cl:=λ_=>0) (by decide) (by walk_at "2") (λf cdv A outer s H E hr=>⟨_,(bw (dF 2 S.nd (cu pY (cG (aq 0) aP) (aq 1))) (bw (rQ (cu Cg (cG (aq 0) aP) (aq 1)) (Ik (aq 0) aP set_list)) (aZ (bN (aq 2))))),λt hK hx=>by delta Ga; walk_at "t"⟩)
theorem aaC(a:At K mg "_law_weight" Fi) (M:Nm mg) (pL:aX P w K mg base 1 "_law_take" (["_law_pile_here", "_law_size"]:List Str) (j6 K 2 0 fY)) (aaD:aX P w K mg base 2 "_law_frac" (["_law_top", "_law_bottom"]:List Str) (bx K cl 2 tR)):aX P w K mg base 3 "_law_weight" (["_law_pile_here"]:List Str) (j6 K 1 0 mV):=by
 have S:=fS (["_law_pile_here", "_law_way", "_law_top"]:List Str) (["_law_pile_here"]:List Str) (bL Fi)
 exact a.CN 0 S (cl:=cl) (by decide) (by walk_at "1") (λf cdv A outer s H E hr=>⟨_,(bw (dF 1 S.nd (pc1 (E:=E) pL hr cO (aD (aq 0) (aD aP aM)))) (bw (cM (cC (uU hr.units) (aq 1) aP (cg _)) (aZ (bN (cG (tE (G:=aA K) (Ts:=[.tup [.int 0,.int 1],.tup [.int 1,.int 1]]) (by kernel_rfl)) (aq 1)))) cL) (bw (dF 2 S.nd (pc1 (E:=E) pL hr cO (aD (aq 0) (aD (cG (tE (G:=aA K) (Ts:=[.int 4,.int 13,.int 100,.int 1000000000000]) (by kernel_rfl)) (cu rT (aq 1) aP)) aM)))) (aZ (bN (pc1 (E:=E) aaD hr cO (aD (aq 2) (aD (cu jf aP (pc1 (E:=E) pL hr cO (aD (aq 0) (aD (cG (tE (G:=aA K) (Ts:=[.int 4,.int 12,.int 99,.int 999999999999]) (by kernel_rfl)) (cu rT (aq 1) aP)) aM)))) aM)))))))),λt hK hx=>by delta Oh; walk_at "t"⟩)
theorem aaE(a:At K mg "_law_whole" Fg) (M:Nm mg) (XT:jT K):aX P w K mg base 1 "_law_whole" (["_law_found"]:List Str) (bx K cl 1 jr):=by
 have S:=fS (["_law_found"]:List Str) (["_law_found"]:List Str) (bL Fg)
 exact a.d8 S (cl:=cl) (by decide) (by walk_at "1") (λf cdv A outer s H E hr=>⟨_,(aZ (bN (oA (j7 XT.o .int (aq 0) M.kh M.Fy) (ou (Ia (j7 XT.o .bool (aq 0) M.kh M.N8)))))),λt hK hx=>by delta Og; walk_at "t"⟩)
theorem aaF(a:At K mg "are_weights" yO) (M:Nm mg) (XT:jT K) (Gf:aX P w K mg base 2 "is_fraction" (["thing"]:List Str) (bx K cl 1 mO)):aX P w K mg base 3 "are_weights" (["thing", "many"]:List Str) (bx K cl 2 yF):=by
 have S:=fS (["thing", "many"]:List Str) (["thing", "many"]:List Str) (bL yO)
 exact a.d8 S (cl:=cl) (by decide) (by walk_at "2") (λf cdv A outer s H E hr=>⟨_,(bw (cM (PW.pt (iY (fQ (eH (j7 XT.o .list (aq 0) M.kh M.Fz) (by intro _; rfl))) (lV (cC (jd hr.units) (iw jZ M.kE (aD (aq 0) aM)) (aq 1) (cg _))))) (aZ (bN iW)) cL) (aZ (bN (iw (Uj rfl) M.aad (aD (Bf (sc:=bL yO) (No:=(["thing", "many"]:List Str)) (N:=(["part"]:List Str)) (src:=[none]) (g:=(iC 0)) rfl rfl ⟨by rfl,by decide +kernel,by decide +kernel,by decide +kernel,by rfl,by decide +kernel⟩ rfl (xV (aq 0)) (λC s H ex=>(gM 0 (show List.Nodup (["part"]:List Str) by decide +kernel))) (λC s H ex=>(oA (j8 Gf hr (aD (aq 0) aM)) (ou (oH Ah (JB JG (aq 0) aP (λ_ _=>rfl)) aP (cg _)))))) aM))))),λt hK hx=>by delta Mp; walk_at "t"⟩)
theorem aaG(a:At K mg "common_divisor" El) (M:Nm mg):aX P w K mg base 1 "common_divisor" (["one", "other"]:List Str) (bx K cl 2 yE):=by
 have S:=fS (["one", "other"]:List Str) (["one", "other"]:List Str) (bL El)
 exact a.d8 S (cl:=cl) (by decide) (by walk_at "2") (λf cdv A outer s H E hr=>⟨_,(bw (PS.oE (Ip PassesOwn.never (cC (jd hr.units) (aq 1) aP (cg _)) (aZ (Im (i:=0) (j:=1) rfl S.nd rfl rfl (by decide) rfl rfl (aD (aq 1) (aD (cu pY (aq 0) (aq 1)) aM)) rfl)))) (aZ (bN (iw Jc M.N7 (aD (aq 0) aM))))),λt hK hx=>by delta Mj; walk_at "t"⟩)
theorem aaH(a:At K mg "fraction_from" Et) (M:Nm mg) (yX:aX P w K mg base 1 "whole_from" (["word", "figures"]:List Str) (bx K cl 2 iM)) (Gf:aX P w K mg base 2 "is_fraction" (["thing"]:List Str) (bx K cl 1 mO)):aX P w K mg base 3 "fraction_from" (["word", "figures"]:List Str) (bx K cl 2 nZ):=by
 have S:=fS (["word", "figures", "above", "sign", "below", "top", "bottom"]:List Str) (["word", "figures"]:List Str) (bL Et)
 exact a.d8 S (cl:=cl) (by decide) (by walk_at "2") (λf cdv A outer s H E hr=>⟨_,(bw (rQ (Az PySem.F.plainAttrs_str PySem.F.slot_str_partition PySem.F.type_str_partition YL (aq 0) (aD cZ aM)) (uy rfl (lu (gM 2 S.nd) (lu (gM 3 S.nd) (lu (gM 4 S.nd) ux))))) (bw (dF 5 S.nd (pc1 (E:=E) yX hr cO (aD (aq 2) (aD (aq 1) aM)))) (bw (dF 6 S.nd (rO (eH (aq 3) (by intro _; rfl)) (pc1 (E:=E) yX hr cO (aD (aq 4) (aD (aq 1) aM))) aP)) (bw (cM (PW.pt (iY (PW.pt (zU (eH (aq 3) (by intro _; rfl)) (zT (cC (gk hr.units) (aq 6) aP (cg _))))) (lV (fQ (eH (pc1 (E:=E) Gf hr cO (aD (m5 (aD (aq 5) (aD (aq 6) aM))) aM)) (by intro _; rfl)))))) (aZ (bN lq)) cL) (aZ (bN (m5 (aD (aq 5) (aD (aq 6) aM))))))))),λt hK hx=>by delta FQ; walk_at "t"⟩)
theorem aaI(a:At K mg "fractions_from" yQ) (M:Nm mg) (aaJ:aX P w K mg base 3 "fraction_from" (["word", "figures"]:List Str) (bx K cl 2 nZ)):aX P w K mg base 4 "fractions_from" (["words", "figures"]:List Str) (bx K cl 2 qT):=by
 have S:=fS (["words", "figures", "fractions"]:List Str) (["words", "figures"]:List Str) (bL yQ)
 exact a.d8 S (cl:=cl) (by decide) (by walk_at "2") (λf cdv A outer s H E hr=>⟨_,(bw (Ub (i:=2) (sc:=bL yQ) (No:=(["words", "figures", "fractions"]:List Str)) (N:=(["word", "figures"]:List Str)) (src:=[none,some 1]) (g:=(iC 0)) S.nd rfl (Or.inl rfl) rfl rfl ⟨by rfl,by decide +kernel,by decide +kernel,by decide +kernel,by rfl,by decide +kernel⟩ rfl (xV (aq 0)) (λC s H ex=>(gM 0 (show List.Nodup (["word", "figures"]:List Str) by decide +kernel))) (λC s H ex=>(j8 aaJ hr (aD (aq 0) (aD (yu 1) aM))))) (aZ (bN (rO (PW.pt (iY (fQ (eH (aq 2) (by intro _; rfl))) (lV (cC (Bo hr.units) lq (aq 2) (by with_unfolding_all rfl))))) lq (aq 2))))),λt hK hx=>by delta Oc; walk_at "t"⟩)
theorem aaK(a:At K mg "is_fraction" Em) (M:Nm mg) (XT:jT K) (yZ:aX P w K mg base 1 "is_whole" (["thing"]:List Str) (bx K cl 1 qL)) (aaL:aX P w K mg base 1 "common_divisor" (["one", "other"]:List Str) (bx K cl 2 yE)):aX P w K mg base 2 "is_fraction" (["thing"]:List Str) (bx K cl 1 mO):=by
 have S:=fS (["thing", "top", "bottom"]:List Str) (["thing"]:List Str) (bL Em)
 exact a.d8 S (cl:=cl) (by decide) (by walk_at "1") (λf cdv A outer s H E hr=>⟨_,(bw (cM (PW.pt (iY (fQ (eH (j7 XT.o .tuple (aq 0) M.kh M.tO) (by intro _; rfl))) (lV (cC (jd hr.units) (iw jZ M.kE (aD (aq 0) aM)) aP (cg _))))) (aZ (bN iW)) cL) (bw (rQ (aq 0) (uy rfl (lu (gM 1 S.nd) (lu (gM 2 S.nd) ux)))) (bw (cM (PW.pt (iY (fQ (eH (pc1 (E:=E) yZ hr cO (aD (aq 1) aM)) (by intro _; rfl))) (lV (fQ (eH (pc1 (E:=E) yZ hr cO (aD (aq 2) aM)) (by intro _; rfl)))))) (aZ (bN iW)) cL) (aZ (bN (oA (oH Ah (aq 2) aP (cg _)) (ou (oH (gk hr.units) (pc1 (E:=E) aaL hr cO (aD (aq 1) (aD (aq 2) aM))) aP (cg _))))))))),λt hK hx=>by delta Dt; walk_at "t"⟩)
theorem aaM(a:At K mg "is_rule" Eo) (M:Nm mg) {vO:V} (rm:Gk K mg "BARE_RULES" vO (.tup [(.tup [(.str "least")]),(.tup [(.str "greatest")]),(.tup [(.str "product")])])) (XT:jT K) (aaN:aX P w K mg base 3 "are_weights" (["thing", "many"]:List Str) (bx K cl 2 yF)) (yZ:aX P w K mg base 1 "is_whole" (["thing"]:List Str) (bx K cl 1 qL)):aX P w K mg base 4 "is_rule" (["thing", "many"]:List Str) (bx K cl 2 fB):=by
 have S:=fS (["thing", "many", "word", "rest"]:List Str) (["thing", "many"]:List Str) (bL Eo)
 exact a.d8 S (cl:=cl) (by decide) (by walk_at "2") (λf cdv A outer s H E hr=>⟨_,(bw (cM (fQ (eH (j7 XT.o .tuple (aq 0) M.kh M.tO) (by intro _; rfl))) (aZ (bN iW)) cL) (bw (cM (cC (jd hr.units) (iw jZ M.kE (aD (aq 0) aM)) aP (cg _)) (aZ (bN (oH (Bo hr.units) (aq 0) (Dj rm) (by with_unfolding_all rfl)))) cL) (bw (rQ (aq 0) (uy rfl (lu (gM 2 S.nd) (lu (gM 3 S.nd) ux)))) (bw (cM (cC (gk hr.units) (aq 2) cZ (cg _)) (aZ (bN (pc1 (E:=E) aaN hr cO (aD (aq 3) (aD (aq 1) aM))))) cL) (aZ (bN (oA (oH (gk hr.units) (aq 2) cZ (cg _)) (oA (pc1 (E:=E) yZ hr cO (aD (aq 3) aM)) (ou (RN IV IV aP (aq 3) (aq 1))))))))))),λt hK hx=>by delta vB; walk_at "t"⟩)
theorem aaO(a:At K mg "is_whole" Ek) (M:Nm mg) (XT:jT K):aX P w K mg base 1 "is_whole" (["thing"]:List Str) (bx K cl 1 qL):=by
 have S:=fS (["thing"]:List Str) (["thing"]:List Str) (bL Ek)
 exact a.d8 S (cl:=cl) (by decide) (by walk_at "1") (λf cdv A outer s H E hr=>⟨_,(aZ (bN (oA (j7 XT.o .int (aq 0) M.kh M.Fy) (ou (Ia (j7 XT.o .bool (aq 0) M.kh M.N8)))))),λt hK hx=>by delta Ml; walk_at "t"⟩)
theorem aaP(a:At K mg "law" Fx) (M:Nm mg) (aaQ:aX P w K mg base 2 "_law_pile" (["_law_script", "_law_k"]:List Str) (bx K cl 2 qU)) (pL:aX P w K mg base 1 "_law_take" (["_law_pile_here", "_law_size"]:List Str) (j6 K 2 0 fY)) (aaR:aX P w K mg base 7 "_law_good" (["_law_rule_here", "_law_many"]:List Str) (bx K cl 2 pK)) (aaS:aX P w K mg base 4 "_law_rule" (["_law_pile_here", "_law_many"]:List Str) (j6 K 2 0 tU)):aX P w K mg base 8 "law" (["_law_script"]:List Str) (bx K cl 1 vN):=by
 have S:=fS (["_law_script", "_law_k", "_law_pile_here", "_law_many"]:List Str) (["_law_script"]:List Str) (bL Fx)
 exact a.d8 S (cl:=cl) (by decide) (by walk_at "1") (λf cdv A outer s H E hr=>⟨_,(bw (PS.oE (wK PassesOwn.never rfl (Dk M.FJ (aD (iw (RV rfl) M.aae (aD (iw (RW rfl) M.aaf (aD (iw jZ M.kE (aD (aq 0) aM)) (aD aP aM))) (aD aP aM))) aM)) (gM 1 S.nd) (bw (dF 2 S.nd (j8 aaQ hr (aD (aq 0) (aD (aq 1) aM)))) (bw (dF 3 S.nd (cu jf aP (j8 pL hr (aD (aq 2) (aD aP aM))))) (aZ (cM (fQ (eH (j8 aaR hr (aD (j8 aaS hr (aD (aq 2) (aD (aq 3) aM))) (aD (aq 3) aM))) (by intro _; rfl))) (aZ (bN iW)) cL)))))) (aZ (bN iW))),λt hK hx=>(eY (Lq (λt1 h1 k1=>(K6 (K7 (aY (X5 (h1.trans hK) (aY (X4 (h1.trans hK) (aY (x_len (h1.trans hK) (aY (aQ 0) bZ)) (aY (dX _) bZ))) (aY (dX _) bZ))) bZ)) (jj 1) mK (eY (Cq 2 (Dh (h1.trans hK) k1 (bH (bH cP)) (aY (aQ 0) (aY (aQ 1) bZ)))) (eY (nM (Lr (h1.trans hK) (dX _) (Di (h1.trans hK) (bH (bH cP)) (aY (aQ 2) (aY (dX _) bZ)))) (jj 3) mK) (jO (mD (mz (h1.trans hK) (Dh (h1.trans hK) k1 (bH (bH cP)) (aY (Di (h1.trans hK) (bH (bH cP)) (aY (aQ 2) (aY (aQ 3) bZ))) (aY (aQ 3) bZ))))) (iI (uR _)) jN)))))) (iI (uR _)))⟩)
theorem aaT(a:At K mg "need_text" Ew) (M:Nm mg) (rC:PyProof.Rows.OwnCls "NoText" (cl "NoText") vp "ValueError.__new__" mg base) (XT:jT K):aX P w K mg base 1 "need_text" (["text"]:List Str) (bx K cl 1 pC):=by
 have S:=fS (["text"]:List Str) (["text"]:List Str) (bL Ew)
 exact a.d8 S (cl:=cl) (by decide) (by walk_at "1") (λf cdv A outer s H E hr=>⟨_,(aZ (cM (fQ (eH (j7 XT.o .str (aq 0) M.kh M.qQ) (by intro _; rfl))) (aZ (BK BJ rC PySem.F.excBase_ValueError rfl cZ)) cL)),λt hK hx=>(jO (mD (mz hK (xQ hK .str (aQ 0)))) (Cy (λH'=>hx "NoText" H') (gW _)) jN)⟩)
theorem aaU(a:At K mg "read_rule" Ey) (M:Nm mg) {Gg:V} (vP:Gk K mg "MOST_FIGURES" Gg (.int 40)) (rC:PyProof.Rows.OwnCls "NoText" (cl "NoText") vp "ValueError.__new__" mg base) (aaV:aX P w K mg base 1 "need_text" (["text"]:List Str) (bx K cl 1 pC)) (aaW:aX P w K mg base 5 "rule_from" (["words", "figures"]:List Str) (pG (bx K cl 2 pJ) (lK K cl 2 vM))) (Gh:aX P w K mg base 4 "is_rule" (["thing", "many"]:List Str) (bx K cl 2 fB)):aX P w K mg base 6 "read_rule" (["text", "many"]:List Str) (pG (bx K cl 2 kJ) (lK K cl 2 qZ)):=by
 have S:=fS (["text", "many", "rule"]:List Str) (["text", "many"]:List Str) (bL Ey)
 exact a.Eb S (cl:=cl) (by decide) (by walk_at "2") (λf cdv A outer s H E hr=>⟨_,(bw (psE (pc1 (E:=E) aaV hr cO (aD (aq 0) aM))) (bw (dF 2 S.nd (pc1 (E:=E) aaW hr cO (aD (Az PySem.F.plainAttrs_str PySem.F.slot_str_split PySem.F.type_str_split YM (aq 0) (aD cZ aM)) (aD (Dj vP) aM)))) (bw (cM (fQ (eH (pc1 (E:=E) Gh hr cO (aD (aq 2) (aD (aq 1) aM))) (by intro _; rfl))) (aZ (BK BJ rC PySem.F.excBase_ValueError rfl cZ)) cL) (aZ (bN (aq 2)))))),λt hK hx=>⟨(eY (K5 (eZ hK hx (bH cP) (aY (aQ 0) bZ))) (eY (nM (vK hK hx (bH (bH cP)) (aY (Mz (aQ 0) (gW _)) (aY (yh hK vP) bZ))) (jj 2) mK) (eY (jO (mD (mz hK (eZ hK hx (bH (bH cP)) (aY (aQ 2) (aY (aQ 1) bZ))))) (Cy (λH'=>hx "NoText" H') (gW _)) jN) (iI (aQ 2))))),MF (K5 (eZ hK hx (bH cP) (aY (aQ 0) bZ))) (Zg hK 2 hx (bH (bH cP)) (λ_ _ _ _=>.inr) (aY (Mz (aQ 0) (gW _)) (aY (yh hK vP) bZ)) (mD (mz hK (eZ hK hx (bH (bH cP)) (aY (aQ 2) (aY (aQ 1) bZ))))) (λ_=>rfl))⟩⟩)
theorem aaX(a:At K mg "rule_from" Eu) (M:Nm mg) {vO:V} (rm:Gk K mg "BARE_RULES" vO (.tup [(.tup [(.str "least")]),(.tup [(.str "greatest")]),(.tup [(.str "product")])])) (aaY:aX P w K mg base 4 "fractions_from" (["words", "figures"]:List Str) (bx K cl 2 qT)) (yX:aX P w K mg base 1 "whole_from" (["word", "figures"]:List Str) (bx K cl 2 iM)):aX P w K mg base 5 "rule_from" (["words", "figures"]:List Str) (pG (bx K cl 2 pJ) (lK K cl 2 vM)):=by
 have S:=fS (["words", "figures", "weights", "place"]:List Str) (["words", "figures"]:List Str) (bL Eu)
 exact a.Eb S (cl:=cl) (by decide) (by walk_at "2") (λf cdv A outer s H E hr=>⟨_,(bw (cM (cC (gk hr.units) (Aq Ck (aq 0) Am (Ao aP)) (tE (G:=aA K) (Ts:=[.str "shares"]) (by kernel_rfl)) (cg _)) (bw (dF 2 S.nd (pc1 (E:=E) aaY hr cO (aD (Aq Ck (aq 0) (Ao aP) Am) (aD (aq 1) aM)))) (aZ (bN (rO (cC IW (aq 2) lq (cg _)) lq (m5 (aD cZ (aD (aq 2) aM))))))) cL) (bw (cM (PW.pt (zU (cC (gk hr.units) (Aq Ck (aq 0) Am (Ao aP)) (tE (G:=aA K) (Ts:=[.str "middle"]) (by kernel_rfl)) (cg _)) (zT (cC (gk hr.units) (iw jZ M.kE (aD (aq 0) aM)) aP (cg _))))) (bw (dF 3 S.nd (pc1 (E:=E) yX hr cO (aD (cG (aq 0) aP) (aD (aq 1) aM)))) (aZ (bN (rO (cC IW (aq 3) lq (cg _)) lq (m5 (aD cZ (aD (aq 3) aM))))))) cL) (aZ (bN (rO (cC (Bo hr.units) (nQ JK M.tO (aD (aq 0) aM)) (Dj rm) (by with_unfolding_all rfl)) (nQ JK M.tO (aD (aq 0) aM)) lq))))),λt hK hx=>⟨(eY (jO (dY (x_eq hK (sW hK (aQ 0) sU (sV (dX _))) (yr hK))) (eY (nM (eZ hK hx (bH (bH cP)) (aY (sW hK (aQ 0) (sV (dX _)) sU) (aY (aQ 1) bZ))) (jj 2) mK) (iI (xO (dY (yj hK (aQ 2) qp)) qp (xK (aY (gW _) (aY (aQ 2) bZ)))))) jN) (eY (jO (KH (dY (x_eq hK (sW hK (aQ 0) sU (sV (dX _))) (yr hK))) (dY (x_eq hK (x_len hK (aY (aQ 0) bZ)) (dX _)))) (eY (nM (eZ hK hx (bH (bH cP)) (aY (jR hK (aQ 0) (dX _)) (aY (aQ 1) bZ))) (jj 3) mK) (iI (xO (dY (yj hK (aQ 3) qp)) qp (xK (aY (gW _) (aY (aQ 3) bZ)))))) jN) (iI (xO (dY (Ls hK (Dg hK (aY (aQ 0) bZ)) (yh hK rm))) (Dg hK (aY (aQ 0) bZ)) qp)))),MJ (dY (x_eq hK (sW hK (aQ 0) sU (sV (dX _))) (yr hK))) (MF (Cq 2 (eZ hK hx (bH (bH cP)) (aY (sW hK (aQ 0) (sV (dX _)) sU) (aY (aQ 1) bZ)))) (aac _ 2 (dY (yj hK (aQ 2) qp))))⟩⟩)
theorem aaZ(a:At K mg "shown_fraction" Ep) (M:Nm mg):aX P w K mg base 1 "shown_fraction" (["fraction"]:List Str) (bx K cl 1 qR):=by
 have S:=fS (["fraction", "top", "bottom"]:List Str) (["fraction"]:List Str) (bL Ep)
 exact a.d8 S (cl:=cl) (by decide) (by walk_at "1") (λf cdv A outer s H E hr=>⟨_,(bw (rQ (aq 0) (uy rfl (lu (gM 1 S.nd) (lu (gM 2 S.nd) ux)))) (aZ (bN (rO (cC (gk hr.units) (aq 2) aP (cg _)) (nQ (uO hr.gd hr.units) M.qQ (aD (aq 1) aM)) (DN (qN (yI (aq 1)) (qN cZ (qN (yI (aq 2)) DK)))))))),λt hK hx=>by delta FN; walk_at "t"⟩)
theorem aa0(a:At K mg "shown_fractions" yP) (M:Nm mg) (aa1:aX P w K mg base 1 "shown_fraction" (["fraction"]:List Str) (bx K cl 1 qR)):aX P w K mg base 2 "shown_fractions" (["fractions"]:List Str) (bx K cl 1 vL):=by
 have S:=fS (["fractions"]:List Str) (["fractions"]:List Str) (bL yP)
 exact a.d8 S (cl:=cl) (by decide) (by walk_at "1") (λf cdv A outer s H E hr=>⟨_,(aZ (bN (Az PySem.F.plainAttrs_str PySem.F.slot_str_join PySem.F.type_str_join YQ cZ (aD (Bf (sc:=bL yP) (No:=(["fractions"]:List Str)) (N:=(["fraction"]:List Str)) (src:=[none]) (g:=(iC 0)) rfl rfl ⟨by rfl,by decide +kernel,by decide +kernel,by decide +kernel,by rfl,by decide +kernel⟩ rfl (xV (aq 0)) (λC s H ex=>(gM 0 (show List.Nodup (["fraction"]:List Str) by decide +kernel))) (λC s H ex=>(j8 aa1 hr (aD (aq 0) aM)))) aM)))),λt hK hx=>by delta Oa; walk_at "t"⟩)
theorem aa2(a:At K mg "shown_rule" Er) (M:Nm mg) (zm:PyProof.Rows.OwnCls "NoRule" (cl "NoRule") vp "ValueError.__new__" mg base) (Gh:aX P w K mg base 4 "is_rule" (["thing", "many"]:List Str) (bx K cl 2 fB)) (aa3:aX P w K mg base 2 "shown_fractions" (["fractions"]:List Str) (bx K cl 1 vL)):aX P w K mg base 5 "shown_rule" (["rule", "many"]:List Str) (bx K cl 2 fL):=by
 have S:=fS (["rule", "many"]:List Str) (["rule", "many"]:List Str) (bL Er)
 exact a.d8 S (cl:=cl) (by decide) (by walk_at "2") (λf cdv A outer s H E hr=>⟨_,(bw (cM (fQ (eH (pc1 (E:=E) Gh hr cO (aD (aq 0) (aD (aq 1) aM))) (by intro _; rfl))) (aZ (BK BJ zm PySem.F.excBase_ValueError rfl cZ)) cL) (bw (cM (cC (gk hr.units) (cG (aq 0) aP) cZ (cg _)) (aZ (bN (DN (qN cZ (qN (yI (pc1 (E:=E) aa3 hr cO (aD (cG (aq 0) aP) aM))) DK))))) cL) (bw (cM (cC (gk hr.units) (cG (aq 0) aP) cZ (cg _)) (aZ (bN (DN (qN cZ (qN (yI (cG (aq 0) aP)) DK))))) cL) (aZ (bN (cG (aq 0) aP)))))),λt hK hx=>(eY (jO (mD (mz hK (eZ hK hx (bH (bH cP)) (aY (aQ 0) (aY (aQ 1) bZ))))) (Cy (λH'=>hx "NoRule" H') (gW _)) jN) (eY (jO (dY (x_eq hK (jR hK (aQ 0) (dX _)) (gW _))) (iI (DW (vC (gW _) (vC (DP (eZ hK hx (bH cP) (aY (jR hK (aQ 0) (dX _)) bZ))) DQ)) _)) jN) (eY (jO (dY (x_eq hK (jR hK (aQ 0) (dX _)) (gW _))) (iI (DW (vC (gW _) (vC (DP (jR hK (aQ 0) (dX _))) DQ)) _)) jN) (iI (jR hK (aQ 0) (dX _))))))⟩)
theorem aa4(a:At K mg "whole_from" Es) (M:Nm mg):aX P w K mg base 1 "whole_from" (["word", "figures"]:List Str) (bx K cl 2 iM):=by
 have S:=fS (["word", "figures"]:List Str) (["word", "figures"]:List Str) (bL Es)
 exact a.d8 S (cl:=cl) (by decide) (by walk_at "2") (λf cdv A outer s H E hr=>⟨_,(bw (cM (PW.pt (iY (fQ (eH (Ay PySem.F.plainAttrs_str PySem.F.slot_str_isascii PySem.F.type_str_isascii YK (aq 0)) (by intro _; rfl))) (iY (fQ (eH (Ay PySem.F.plainAttrs_str PySem.F.slot_str_isdigit PySem.F.type_str_isdigit YJ (aq 0)) (by intro _; rfl))) (lV (cC RM (iw jZ M.kE (aD (aq 0) aM)) (aq 1) (cg _)))))) (aZ (bN lq)) cL) (bw (cM (PW.pt (zU (cC (gk hr.units) (cG (aq 0) aP) cZ (cg _)) (zT (cC (jd hr.units) (aq 0) cZ (cg _))))) (aZ (bN lq)) cL) (aZ (bN (nQ Zb M.Fy (aD (aq 0) aM)))))),λt hK hx=>by delta Ob; walk_at "t"⟩)
end
end K69
end
section
namespace K70
open PySem L2
def kO(c:Nat):Bool:=decide (48<=c)&&decide (c<=57)
theorem Ox:∀c:Nat,c<128->Unicode.isDigit c=kO c:=by decide +kernel
theorem aa5(z:Str):(Txt.isascii z&&Txt.isdigit z)=(decide (0<z.length)&&z.cps.toList.all kO):=by
 unfold Txt.isascii Txt.isdigit
 rw[Bool.eq_iff_iff]
 simp only[Bool.and_eq_true,decide_eq_true_eq,Array.all_eq_true_iff_forall_mem,List.all_eq_true,Array.mem_toList_iff]
 constructor
 ·rintro⟨h1,h2,h3⟩
  exact⟨h2,λc hc=>by rw[<-Ox c (h1 c hc)]; exact h3 c hc⟩
 ·rintro⟨h2,h3⟩
  have h1:∀c∈z.cps,c<128:=λc hc=>by
   have:=h3 c hc
   unfold kO at this
   rw[Bool.and_eq_true,decide_eq_true_eq,decide_eq_true_eq]at this
   omega
  exact⟨h1,h2,λc hc=>by rw[Ox c (h1 c hc)]; exact h3 c hc⟩
end K70
namespace K70
open PySem L2
end K70
end
section
namespace K70
open PySem L2 PySem.Builtin PySem.Builtin.Str
theorem rD{a b:Str}(h:a.cps.toList=b.cps.toList):a=b:=PySem.Str.ext' (Array.toList_inj.mp h)
theorem aa6(z:Str)(c:Nat):(c∉z.cps.toList/\pD z ⟨#[c]⟩=[z,Str.empty,Str.empty])\/∃a b:List Nat,z.cps.toList=a++c::b/\c∉a/\pD z ⟨#[c]⟩=[⟨a.toArray⟩,⟨#[c]⟩,⟨b.toArray⟩]:=by
 rcases StrLaws.occ_head z ⟨#[c]⟩ 1 (Nat.le_refl _)with⟨h0,hn⟩|⟨i,r,h0,ha,hn⟩
 ·refine .inl ⟨λhc=>?_,by unfold pD; rw[h0]⟩
  obtain⟨i,hi⟩:=List.mem_iff_getElem?.mp hc
  exact hn i ((StrLaws.subAt_one z c i).mpr hi)
 ·have hi:=(StrLaws.subAt_one z c i).mp ha
  obtain⟨hl,hx⟩:=List.getElem?_eq_some_iff.mp hi
  refine .inr ⟨z.cps.toList.take i,z.cps.toList.drop (i+1),?_,λhc=>?_,?_⟩
  ·rw[<-hx,List.getElem_cons_drop,List.take_append_drop]
  ·obtain⟨k,hk⟩:=List.mem_iff_getElem?.mp hc
   rw[List.getElem?_take]at hk
   split at hk
   ·rename_i lt
    exact hn k lt ((StrLaws.subAt_one z c k).mpr hk)
   ·cases hk
  ·unfold pD
   rw[h0]
   have e1:strSub z 0 i=⟨(z.cps.toList.take i).toArray⟩:=rD (by rw[StrLaws.strSub_toList]; simp)
   have e2:strSub z (i+(⟨#[c]⟩:Str).length) z.length=⟨(z.cps.toList.drop (i+1)).toArray⟩:=rD (by
    rw[StrLaws.strSub_toList]
    show List.take (z.length-(i+1)) (List.drop (i+1) z.cps.toList)=List.drop (i+1) z.cps.toList
    exact List.take_of_length_le (by rw[List.length_drop]; show z.cps.toList.length-(i+1)<=z.cps.size-(i+1); rw[Array.length_toList]; exact Nat.le_refl _))
   dsimp only
   rw[e1,e2]
end K70
end
section
namespace K70
open PySem L2 PySem.Builtin PySem.Builtin.Str
def spl(c:Nat):List Nat->List (List Nat)
 | []=>[[]]
 |x::r=>if x=c then []::spl c r else match spl c r with
  | []=>[[x]]
  |p::q=>(x::p)::q
def tV(c:Nat):List (List Nat)->List Nat
 | []=>[]
 | [p]=>p
 |p::q::r=>p++c::tV c (q::r)
theorem tW{c:Nat}:∀{p:List Nat},c∉p->spl c p=[p]
 | [],_=>rfl
 |x::r,h=>by
  rw[List.mem_cons,not_or]at h
  unfold spl
  rw[if_neg (Ne.symm h.1),tW h.2]
theorem vQ{c:Nat}(l:List Nat):∀{p:List Nat},c∉p->spl c (p++c::l)=p::spl c l
 | [],_=>by
  show spl c (c::l)=_
  rw[spl,if_pos rfl]
 |x::r,h=>by
  rw[List.mem_cons,not_or]at h
  show spl c (x::(r++c::l))=_
  rw[spl,if_neg (Ne.symm h.1),vQ l h.2]
theorem Gi{c:Nat}:∀(ps:List (List Nat)),ps≠[]->(∀p∈ps,c∉p)->spl c (tV c ps)=ps
 | [],h,_=>(h rfl).elim
 | [p],_,h=>tW (h p (List.mem_singleton.mpr rfl))
 |p::q::r,_,h=>by
  show spl c (p++c::tV c (q::r))=_
  rw[vQ _ (h p (List.mem_cons_self ..)),Gi (q::r) (List.cons_ne_nil _ _) λz hz=>h z (List.mem_cons_of_mem _ hz)]
theorem Gj(c:Nat):∀ts:List Str,(Str.join ⟨#[c]⟩ ts).cps.toList=tV c (ts.map (·.cps.toList))
 | []=>rfl
 | [x]=>rfl
 |x::y::r=>by
  show(x++⟨#[c]⟩++Str.join ⟨#[c]⟩ (y::r)).cps.toList=x.cps.toList++c::tV c ((y::r).map (·.cps.toList))
  rw[<-Gj c (y::r),Str.cps_append,Str.cps_append]
  simp
theorem aa7(z y:Str):Txt.split z y≠[]:=by
 unfold Txt.split
 split
 ·exact List.cons_ne_nil _ _
 ·split
  ·exact List.cons_ne_nil _ _
  ·rw[StrLaws.partsBetween_eq]
   obtain⟨p,r,e⟩:=StrLaws.partsFrom_ne z y.length 0 (occurrences z y 0 z.length (z.length+1))
   rw[e]
   exact List.cons_ne_nil _ _
theorem Oz(z:Str)(c:Nat):(Txt.split z ⟨#[c]⟩).map (·.cps.toList)=spl c z.cps.toList:=by
 have h:=StrLaws.join_split z ⟨#[c]⟩
 have e:z.cps.toList=tV c ((Txt.split z ⟨#[c]⟩).map (·.cps.toList)):=by
  rw[<-Gj,h]
 rw[e,Gi]
 ·intro n
  exact aa7 z _ (List.map_eq_nil_iff.mp n)
 ·intro p hp
  obtain⟨q,hq,rfl⟩:=List.mem_map.mp hp
  exact StrLaws.split_free z c q hq
end K70
end
section
namespace K70
open PySem L2 PySem.NumText
end K70
end
section
namespace L2
open PySem
@[simp] theorem Rs.jh{α β : Type}(a : α)(f : α -> Rs β):(Rs.ok a).bind f=f a:=rfl
@[simp] theorem Rs.aed{α β : Type}(f : α -> Rs β):(Rs.bad:Rs α).bind f=.bad:=rfl
@[simp] theorem Rs.aee{α β : Type}(c:Str)(f : α -> Rs β):(Rs.ex c:Rs α).bind f=.ex c:=rfl
inductive Tg{α β : Type}(f : α -> Rs β):Type
 |mk
def bd{α β : Type}(r:Rs α)(f : α -> Rs β)(_:Tg f):Rs β := r.bind f
@[simp] theorem OD{α β : Type}(f : α -> Rs β)(a : α)(u:Tg f):bd (.ok a) f u=f a:=rfl
@[simp] theorem aef{α β : Type}(f : α -> Rs β)(u:Tg f):bd .bad f u=.bad:=rfl
@[simp] theorem aeg{α β : Type}(f : α -> Rs β)(c:Str)(u:Tg f):bd (.ex c) f u=.ex c:=rfl
@[simp] theorem aeh(f g:SF)(ρ : En):aJ f g ρ = ((bd (f ρ) (λp=>match p.1 with
 |.nx=>g p.2
 |fl=>.ok (fl,p.2)) .mk)):=rfl
@[simp] theorem aei(c:BF)(f g:SF)(ρ : En):bF c f g ρ = ((bd (c ρ) (λp=>if p.1=true then f p.2 else g p.2) .mk)):=rfl
@[simp] theorem aej(f:EF)(ρ : En):aL f ρ = ((bd (f ρ) (λp=>match p.1 with
 |.v T fr=>.ok (.rt T fr,p.2)
 |.s i=>match p.2[i]? with
  |some (.ow ts)=>.ok (.rt (.lst ts) true,p.2)
  |_=>.bad) .mk)):=rfl
@[simp] theorem aek(f:EF)(g:GF)(ρ : En):bT f g ρ = ((bd (f ρ) (λp=>match p.1 with
 |.v T _=>(bd (g T p.2) (λρ'=>.ok (.nx,ρ')) .mk)
 |.s _=>.bad) .mk)):=rfl
@[simp] theorem ael(i:Nat)(f:EF)(ρ : En):o8 i f ρ = ((bd (f ρ) (λp=>match p.1 with
 |.v (.lst ts) true=>.ok (.nx,p.2.set i (.ow ts))
 |_=>.bad) .mk)):=rfl
@[simp] theorem aem  (ρ : En):bD  ρ = (.ok (.nx,ρ)):=rfl
@[simp] theorem aen(f:SF)(ρ : En):eE f ρ = (bW (f ρ)):=rfl
@[simp] theorem aeo(i j:Nat)(fa:AF)(ρ : En):u6 i j fa ρ = ((bd (fa ρ) (λp=>(bd (cls p.1) (λTs=>match Ts with
 | [T,U]=>.ok (.nx,(p.2.set i (.sh T)).set j (.sh U))
 |_=>.bad) .mk)) .mk)):=rfl
@[simp] theorem aep(i:Nat)(fk fe:EF)(ρ : En):Cw i fk fe ρ = ((bd (fe ρ) (λp=>(bd (cls [p.1]) (λTs=>(bd (con p.2 i) (λ_=>(bd (fk p.2) (λq=>(bd (dr q.2 q.1) (λkT=>(bd (dO kT) (λk=>(bd (con q.2 i) (λts=>match Ts,fG ts.length k with
 | [T],some j=>.ok (.nx,bO i (ts.set j T) q.2)
 |_,_=>.bad) .mk)) .mk)) .mk)) .mk)) .mk)) .mk)) .mk)):=rfl
@[simp] theorem aer(f:EF)(ρ : En):xT f ρ = ((bd (f ρ) (λp=>.ok (.nx,p.2)) .mk)):=rfl
@[simp] theorem aes(fi:IF)(g:GF)(b:SF)(ρ : En):jD fi g b ρ = ((bd (fi ρ) (λp=>gG g b p.1 p.2) .mk)):=rfl
@[simp] theorem aeu(i:Nat)(f:SF)(ρ : En):Wd i f ρ = (f (cY i ρ)):=rfl
@[simp] theorem aev(i:Nat)(f:SF)(ρ : En):Yp i f ρ = (f (iK i ρ)):=rfl
@[simp] theorem aew(i:Nat)(p:Int->Int->Int)(f:EF)(ρ : En):Wr i p f ρ = (match ρ[i]? with
 |some (.sh (.int x))=>(bd (f ρ) (λq=>(bd (dr q.2 q.1) (λyT=>(bd (dO yT) (λy=>.ok (.nx,q.2.set i (.sh (.int (p x y))))) .mk)) .mk)) .mk)
 |_=>.bad):=rfl
@[simp] theorem aex(i:Nat)(fk:QF)(m:GM)(fa:QF)(ρ : En):Yn i fk m fa ρ = ((bd (fX ρ i) (λts=>(bd (bW (fk ρ)) (λk=>(bd (mL ts k) (λz=>match z.2 with
 |.lst us=>(bd (bW (fa ρ)) (λT=>(bd (m us [T]) (λy=>.ok (.nx,ρ.set i (.dp (ts.set z.1 (.lst y.1))))) .mk)) .mk)
 |_=>.bad) .mk)) .mk)) .mk)):=rfl
@[simp] theorem aey(i:Nat)(fk fj:QF)(fe:EF)(ρ : En):Yo i fk fj fe ρ = ((bd (fe ρ) (λp=>(bd (cN p.1) (λT=>(bd (fX p.2 i) (λts=>(bd (bW (fk p.2)) (λk=>(bd (mL ts k) (λz=>match z.2 with
 |.lst us=>(bd (bW (fj p.2)) (λj=>(bd (mL us j) (λy=>.ok (.nx,p.2.set i (.dp (ts.set z.1 (.lst (us.set y.1 T)))))) .mk)) .mk)
 |_=>.bad) .mk)) .mk)) .mk)) .mk)) .mk)):=rfl
@[simp] theorem aez(i:Nat)(src:List (Option Nat))(fi:IF)(g:GF)(c:BF)(f:EF)(ρ : En):Yq i src fi g c f ρ = ((bd (fi ρ) (λp=>if p.1.length<=100000 then(bd (bW (yw g c f p.1 (cW src p.2))) (λz=>if dh src z.2 p.2=true then .ok (.nx,(bU src z.2 p.2).set i (.dp z.1))else .bad) .mk)else .bad) .mk)):=rfl
@[simp] theorem aeA(i:Nat)(ρ : En):Yl i ρ = (match ρ[i]? with
 |some (.sh T)=>.ok T
 |_=>.bad):=rfl
@[simp] theorem aeB(T:Tr)(ρ : En):qC T ρ=.ok T:=rfl
@[simp] theorem aeC(i:Nat)(fk fj:QF)(ρ : En):Ym i fk fj ρ = ((bd (fX ρ i) (λts=>(bd (fk ρ) (λk=>(bd (mL ts k) (λz=>match z.2 with
 |.lst us=>(bd (fj ρ) (λj=>(bd (mL us j) (λy=>.ok y.2) .mk)) .mk)
 |_=>.bad) .mk)) .mk)) .mk)):=rfl
@[simp] theorem aeD(i:Nat)(ρ : En):aj i ρ = (match ρ[i]? with
 |some (.sh T)=>.ok (.v T false,ρ)
 |some (.ow _)=>.ok (.s i,ρ)
 |some (.rf _)=>.ok (.s i,ρ)
 |_=>.bad):=rfl
@[simp] theorem aeE(T:Tr)(ρ : En):eC T ρ = (.ok (.v T false,ρ)):=rfl
@[simp] theorem aeF(Ts:List Tr)(ρ : En):iJ Ts ρ=.ok (.v (.lst Ts) true,ρ):=rfl
@[simp] theorem aeG(g:G2)(fa fb:EF)(ρ : En):ao g fa fb ρ = ((bd (fa ρ) (λp=>(bd (fb p.2) (λq=>(bd (dr q.2 p.1) (λa=>(bd (dr q.2 q.1) (λb=>(bd (g a b) (λz=>.ok (.v z.1 z.2,q.2)) .mk)) .mk)) .mk)) .mk)) .mk)):=rfl
@[simp] theorem aeH(g:G1)(fa:EF)(ρ : En):jX g fa ρ = ((bd (fa ρ) (λp=>(bd (dr p.2 p.1) (λa=>(bd (g a) (λz=>.ok (.v z.1 z.2,p.2)) .mk)) .mk)) .mk)):=rfl
@[simp] theorem aeI(g:GN)(fa:AF)(ρ : En):bC g fa ρ = ((bd (fa ρ) (λp=>(bd (drs p.2 p.1) (λas=>(bd (g as) (λz=>.ok (.v z.1 z.2,p.2)) .mk)) .mk)) .mk)):=rfl
@[simp] theorem aeJ(F:FP)(fa:AF)(ρ : En):aU F fa ρ = ((bd (fa ρ) (λp=>(bd (drs p.2 p.1) (λas=>(bd (F as) (λz=>if p.1.any aW=true/\gJ z=false then .bad else .ok (.v z.1 z.2,p.2)) .mk)) .mk)) .mk)):=rfl
@[simp] theorem aeK(r:Nat)(F:FR)(fa:AF)(ρ : En):dW r F fa ρ = ((bd (fa ρ) (λp=>match p.1[r]? with
 |some (.s i)=>if others r i p.1=true then((bd (con p.2 i) (λ_=>(bd (drs p.2 p.1) (λas=>(bd (F as) (λz=>if((p.1.eraseIdx r).any aW=true/\gJ z.1=false)\/(((p.1.eraseIdx r).any aW=true\/z.1.2=true)/\dU z.2=false)then .bad else .ok (.v z.1.1 z.1.2,bO i z.2 p.2)) .mk)) .mk)) .mk))else .bad
 |_=>.bad) .mk)):=rfl
@[simp] theorem aeL(a:Int):dU [.int a]=true:=rfl
@[simp] theorem aeM(a b:Int):dU [.int a,.int b]=true:=rfl
@[simp] theorem aeN(g:AF)(ρ : En):sO g ρ = ((bd (g ρ) (λp=>(bd (cls p.1) (λts=>if ts.length<=1000 then .ok (.v (.lst ts) true,p.2)else .bad) .mk)) .mk)):=rfl
@[simp] theorem aeO(g:AF)(ρ : En):jA g ρ = ((bd (g ρ) (λp=>(bd (cls p.1) (λts=>if ts.length<=1000 then .ok (.v (.tup ts) false,p.2)else .bad) .mk)) .mk)):=rfl
@[simp] theorem aeP(f g:EF)(ρ : En):g8 f g ρ = ((bd (aR f ρ) (λp=>if p.1=true then g p.2 else .ok (eB false,p.2)) .mk)):=rfl
@[simp] theorem aeQ(f g:EF)(ρ : En):sS f g ρ = ((bd (aR f ρ) (λp=>if p.1=true then .ok (eB true,p.2)else g p.2) .mk)):=rfl
@[simp] theorem aeR(f:EF)(ρ : En):xM f ρ = ((bd (aR f ρ) (λp=>.ok (eB (!p.1),p.2)) .mk)):=rfl
@[simp] theorem aeS(c:BF)(f g:EF)(ρ : En):jY c f g ρ = ((bd (c ρ) (λp=>if p.1=true then f p.2 else g p.2) .mk)):=rfl
@[simp] theorem aeT(c:Ty)(fa:EF)(ρ : En):d7 c fa ρ = ((bd (fa ρ) (λp=>(bd (dr p.2 p.1) (λa=>.ok (eB (fU a c),p.2)) .mk)) .mk)):=rfl
@[simp] theorem aeU(g g':G2)(fa fb fc:EF)(ρ : En):xP g g' fa fb fc ρ = ((bd (fa ρ) (λp=>(bd (fb p.2) (λq=>(bd (dr q.2 p.1) (λa=>(bd (dr q.2 q.1) (λb=>(bd (g a b) (λz=>(bd (bh z.1) (λk=>if k=true then(bd (fc q.2) (λs=>(bd (dr s.2 q.1) (λb=>(bd (dr s.2 s.1) (λc=>(bd (g' b c) (λz=>.ok (.v z.1 z.2,s.2)) .mk)) .mk)) .mk)) .mk)else .ok (eB false,q.2)) .mk)) .mk)) .mk)) .mk)) .mk)) .mk)):=rfl
@[simp] theorem aeV(fa:EF)(fl fh:OF)(ρ : En):mH fa fl fh ρ = ((bd (fa ρ) (λp=>(bd (fl p.2) (λl=>(bd (fh l.2) (λh=>(bd (dr h.2 p.1) (λa=>(bd (lF l.1 h.1 a) (λz=>.ok (.v z.1 z.2,h.2)) .mk)) .mk)) .mk)) .mk)) .mk)):=rfl
@[simp] theorem aa8(src:List (Option Nat))(fi:IF)(g:GF)(c:BF)(f:EF)(ρ : En):jl src fi g c f ρ = ((bd (fi ρ) (λp=>if p.1.length<=100000 then(bd (bW (nP g c f p.1 (cW src p.2))) (λz=>if dh src z.2 p.2=true then .ok (.v (.lst z.1) true,bU src z.2 p.2)else .bad) .mk)else .bad) .mk)):=rfl
@[simp] theorem aeW(i:Nat)(m:GM)(fa:AF)(ρ : En):Wm i m fa ρ = ((bd (con ρ i) (λ_=>(bd (fa ρ) (λp=>(bd (cls p.1) (λas=>(bd (con p.2 i) (λts=>(bd (m ts as) (λz=>.ok (.v z.2 false,bO i z.1 p.2)) .mk)) .mk)) .mk)) .mk)) .mk)):=rfl
@[simp] theorem aeX(i:Nat)(m:GM)(ρ : En):Wn i m ρ = ((bd (con ρ i) (λts=>(bd (m ts []) (λz=>.ok (.v z.2 false,bO i z.1 ρ)) .mk)) .mk)):=rfl
@[simp] theorem aeY(fa:EF)(ρ : En):aR fa ρ = ((bd (fa ρ) (λp=>(bd (dr p.2 p.1) (λa=>(bd (bh a) (λb=>.ok (b,p.2)) .mk)) .mk)) .mk)):=rfl
@[simp] theorem aeZ(fa:EF)(ρ : En):cB fa ρ = ((bd (fa ρ) (λp=>(bd (dr p.2 p.1) (λa=>(bd (dB a) (λb=>.ok (b,p.2)) .mk)) .mk)) .mk)):=rfl
@[simp] theorem ae0(f g:BF)(ρ : En):qw f g ρ = ((bd (f ρ) (λp=>if p.1=true then g p.2 else .ok (false,p.2)) .mk)):=rfl
@[simp] theorem ae1(f g:BF)(ρ : En):cR f g ρ = ((bd (f ρ) (λp=>if p.1=true then .ok (true,p.2)else g p.2) .mk)):=rfl
@[simp] theorem ae2(f:BF)(ρ : En):cF f ρ = ((bd (f ρ) (λp=>.ok (!p.1,p.2)) .mk)):=rfl
@[simp] theorem ae3  (ρ : En):jm  ρ = (.ok (true,ρ)):=rfl
@[simp] theorem ae4  (ρ : En):au  ρ = (.ok ([],ρ)):=rfl
@[simp] theorem ae5(f:EF)(g:AF)(ρ : En):ak f g ρ = ((bd (f ρ) (λp=>(bd (g p.2) (λq=>.ok (p.1::q.1,q.2)) .mk)) .mk)):=rfl
@[simp] theorem ae6(f:EF)(ρ : En):jP f ρ = ((bd (f ρ) (λp=>(bd (fW p.1) (λz=>.ok (z.1,p.2)) .mk)) .mk)):=rfl
@[simp] theorem ae7(fa:AF)(ρ : En):j5 fa ρ = ((bd (fa ρ) (λp=>(bd (drs p.2 p.1) (λas=>match as with
 | [.int j]=>if okR j=true then .ok (upTo 0 j.toNat,p.2)else .bad
 |_=>.bad) .mk)) .mk)):=rfl
@[simp] theorem ae8(fa:AF)(ρ : En):Wl fa ρ = ((bd (fa ρ) (λp=>(bd (drs p.2 p.1) (λas=>match as with
 | [.int i,.int j]=>if okR i=true/\okR j=true then .ok (upTo i (j-i).toNat,p.2)else .bad
 |_=>.bad) .mk)) .mk)):=rfl
@[simp] theorem ae9(fa:AF)(ρ : En):tG fa ρ = ((bd (fa ρ) (λp=>match p.1 with
 | [.v (.lst us) _,.v (.lst vs) _]=>.ok (nR us vs,p.2)
 |_=>.bad) .mk)):=rfl
@[simp] theorem afa  (ρ : En):mF  ρ = (.ok (none,ρ)):=rfl
@[simp] theorem afb(fa:EF)(ρ : En):mG fa ρ = ((bd (fa ρ) (λp=>(bd (dr p.2 p.1) (λa=>(bd (dO a) (λb=>.ok (some b,p.2)) .mk)) .mk)) .mk)):=rfl
@[simp] theorem afc(i:Nat)(T:Tr)(ρ : En):gN i T ρ = (.ok (ρ.set i (.sh T))):=rfl
@[simp] theorem afd(n:Nat)(f:lG)(T:Tr)(ρ : En):gT n f T ρ = (match T with
 |.tup Ts=>if Ts.length=n then f Ts ρ else .bad
 |_=>.bad):=rfl
@[simp] theorem afe  (Ts:List Tr)(ρ : En):lH  Ts ρ = (match Ts with
 | []=>.ok ρ
 |_=>.bad):=rfl
@[simp] theorem afg(f:GF)(g:lG)(Ts:List Tr)(ρ : En):fV f g Ts ρ = (match Ts with
 |T::r=>(bd (f T ρ) (λρ'=>g r ρ') .mk)
 | []=>.bad):=rfl
@[simp] theorem afh(a:Tr):aV 1 [a]=[.sh a]:=rfl
end L2
end
section
namespace BH
open PySem L2
theorem fC(i:Int):dep (.int i)=0:=rfl
theorem zp(i:Bool):dep (.bl i)=0:=rfl
theorem dG(i:Str):dep (.str i)=0:=rfl
theorem rE:dep .non=0:=rfl
theorem lN(ts:List Tr):dep (.tup ts)=deps ts+1:=by simp only[dep]
theorem rF(ts:List Tr):dep (.lst ts)=deps ts+1:=by simp only[dep]
theorem jH:deps []=0:=rfl
theorem iy(t:Tr)(ts:List Tr):deps (t::ts)=max (dep t) (deps ts):=by simp only[deps]
theorem iR(i j:Int):eqT (.int i) (.int j)=(i == j):=by simp only[eqT]
theorem zq(i j:Bool):eqT (.bl i) (.bl j)=(i == j):=by simp only[eqT]
theorem rG(i j:Str):eqT (.str i) (.str j)=(i == j):=by simp only[eqT]
def isW:Tr->Bool
 |.int _=>true
 |_=>false
theorem OJ(T:Tr):qL [T]=.ok (.bl (isW T),false):=by cases T <;> rfl
def wc:BF:=aR (ao bB (aj 1) (eC (.int 0)))
def wb:SF:=u6 0 1 (ak (aj 1) (ak (ao dM (aj 0) (aj 1)) au))
theorem aa9(a b:Int):wc [.sh (.int a),.sh (.int b)]=.ok (!(b == 0),[.sh (.int a),.sh (.int b)]):=rfl
theorem abb(a b:Int)(h:b≠0):wb [.sh (.int a),.sh (.int b)]=.ok (.nx,[.sh (.int b),.sh (.int (a.fmod b))]):=by
 unfold wb; simp -dsimp[dr,cls,eU,dM,h]
theorem O1:∀(n:Nat) (a b:Int),b.natAbs<n->∃g:Int,qD wc wb n [.sh (.int a),.sh (.int b)]=.ok (.nx,[.sh (.int g),.sh (.int 0)])/\(if g<0 then -g else g)=((Int.gcd a b:Nat):Int)
 | 0,a,b,h=>by omega
 |n+1,a,b,h=>by
  unfold qD
  rw[aa9]
  by_cases z:b=0
  ·subst z
   exact⟨a,rfl,UW a⟩
  ·obtain⟨g,h1,h2⟩:=O1 n b (a.fmod b) (by have:=UJ a b z; omega)
   refine⟨g,?_,by rw[h2,UL]⟩
   have e:(!(b == 0))=true:=by simp[z]
   simp only[Rs.bind,e,if_true]
   rw[abb a b z]
   exact h1
def O2:SF:=(aJ (eE (sY (vo 1) wc wb)) (aL (bC (g1 mJ) (ak (aj 0) au))))
theorem O3(a b:Int):aN 2 O2 [.int a,.int b]=.ok (.int (Int.gcd a b:Nat),false):=by
 obtain⟨g,h1,h2⟩:=O1 (b.natAbs+1) a b (by omega)
 have h0:aV 2 [.int a,.int b]=[.sh (.int a),.sh (.int b)]:=rfl
 have h3:eE (sY (vo 1) wc wb) [.sh (.int a),.sh (.int b)]=.ok (.nx,[.sh (.int g),.sh (.int 0)]):=by
  unfold eE sY
  rw[show vo 1 [.sh (.int a),.sh (.int b)]=b.natAbs+1 from rfl,h1]
  rfl
 rw[<-h2]
 unfold aN O2 aJ
 rw[h0,h3]
 rfl
theorem abd(a b:Int):yE [.int a,.int b]=.ok (.int (Int.gcd a b:Nat),false):=O3 a b
def n6:Tr->Tr->Bool
 |.int p,.int q=>decide (1<=q)&&(Int.gcd p q == 1)
 |_,_=>false
def zu:Tr->Bool
 |.tup [a,b]=>n6 a b
 |_=>false
theorem abe(n:Nat):((n:Int) == 1)=(n == 1):=by
 rw[Bool.eq_iff_iff]; simp; omega
theorem O4(T:Tr):mO [T]=.ok (.bl (zu T),false):=by
 unfold mO Dt aN
 cases T with
 |tup ts =>
  match ts with
  | []=>rfl
  | [_]=>rfl
  | [a,b] =>
   cases a <;> cases b <;> try rfl
   rename_i p q
   simp -dsimp[eB,bh,dB,dr,drs,g1,gB,aK,bB,gZ,bM,aW,fC,iR,fU,aV,OJ,isW,abd,zu,n6,abe]
   by_cases h:1<=q <;> simp[h]
  |a::b::c::r =>
   have:((r.length:Int)+1+1+1 == 2)=false:=by simp; omega
   simp -dsimp[eB,bh,dB,dr,drs,g1,bB,gZ,bM,fC,iR,fU,aV,zu,this]
 |_=>rfl
end BH
end
section
namespace BH
open PySem L2
end BH
end
section
namespace L2
open PySem
@[simp] theorem afi(fa:AF)(ρ : En):Yy fa ρ = bd (fa ρ) (λp=>match p.1 with
 | [.v (.int n) _]=>if 0<=n/\n<=1000 then .ok (.v (.lst ((List.range n.toNat).map λi:Nat=>Tr.int i)) true,p.2)else .bad
 |_=>.bad) .mk:=rfl
@[simp] theorem afj(F:FR)(fa:EF)(ρ : En):Yz F fa ρ = bd (fa ρ) (λp=>match p.1 with
 |.v (.lst us) true=>bd (F [.lst us]) (λz=>.ok (.v z.1.1 z.1.2,p.2)) .mk
 |_=>.bad) .mk:=rfl
@[simp] theorem afk(kt:Tr->Option (Int × Int))(src:List (Option Nat))(fa:AF)(fb:RF)(ρ : En):Yv kt src fa fb ρ = bd (fa ρ) (λp=>match p.1 with
 | [.v (.int n) _]=>if 0<=n/\n<64 then bd (bW (Dp kt fb (LR src p.2) (List.range n.toNat))) (λks=>.ok (.v (.lst ((LQ n.toNat λi=>ks.getD i (0,0)).map λi:Nat=>Tr.int i)) true,p.2)) .mk else .bad
 |_=>.bad) .mk:=rfl
end L2
namespace BH
open PySem L2
def fT(x:Int × Int):Tr:=.tup [.int x.1,.int x.2]
theorem O5{k:Int}{M:Nat}(h:k.natAbs<2 ^ M)(hM:M<=8000):k.natAbs.log2<9000:=by
 by_cases z:k.natAbs=0
 ·rw[z]; decide
 ·have:=(Nat.log2_lt (n:=k.natAbs) (k:=M) z).mpr h
  omega
theorem O6{i j:Int}{M:Nat}(h0:j≠0)(h:j.natAbs<2 ^ M)(hM:M<=8000):nG i j=true:=by
 unfold nG
 rw[Bool.and_eq_true,decide_eq_true_eq,decide_eq_true_eq]
 exact⟨h0,O5 h hM⟩
theorem O7{xs:List Tr}{i:Nat}{T:Tr}(h:xs[i]?=some T):aB (.lst xs) (.int i)=.ok (T,false):=by
 obtain⟨hi,e⟩:=List.getElem?_eq_some_iff.mp h
 show(match dz xs i with
  |some t=>Rs.ok (t,false)
  |none=>.bad)=_
 have:dz xs (i:Int)=some T:=by
  unfold dz fG
  simp[hi,e]
 rw[this]
theorem abf{xs:List Tr}{i:Nat}{T:Tr}(h:xs[i]?=some T):aB (.lst xs) (.int i)=.ok (T,false):=O7 h
end BH
namespace BH
open PySem L2
def Wo(x:Int × Int):Prop:=0<=x.1/\x.1<=x.2/\1<=x.2/\x.2<=1000000000000/\Int.gcd x.1 x.2=1
instance (x:Int × Int):Decidable (Wo x):=by unfold Wo; infer_instance
def bJ(l:List (Int × Int)):Tr:=.lst (l.map fT)
end BH
end
section
namespace L2
open PySem
@[simp] theorem afl(fa:EF)(ρ : En):X7 fa ρ = bd (fa ρ) (λp=>bd (dr p.2 p.1) (λa=>bd (Lw a) (λz=>.ok (.v z.1 z.2,p.2)) .mk) .mk) .mk:=rfl
end L2
namespace BH
open PySem L2
theorem abg{α : Type}(xs:List α)(k:Nat):L2.cut xs (some (k:Int)) none=xs.drop k:=by
 unfold L2.cut HT.bK
 by_cases h:(k:Int)<0
 ·omega
 ·simp only[h,if_false,Int.toNat_natCast]
  by_cases z:k<=xs.length
  ·rw[Nat.min_eq_left z]
   exact List.take_of_length_le (by simp)
  ·rw[Nat.min_eq_right (by omega),List.drop_eq_nil_of_le (by omega),List.drop_eq_nil_of_le (by omega)]
   simp
theorem abh{α : Type}(xs:List α)(k:Nat):L2.cut xs none (some (k:Int))=xs.take k:=by
 unfold L2.cut HT.bK
 by_cases h:(k:Int)<0
 ·omega
 ·simp only[h,if_false,Int.toNat_natCast,Nat.sub_zero,List.drop_zero]
  by_cases z:k<=xs.length
  ·rw[Nat.min_eq_left z]
  ·rw[Nat.min_eq_right (by omega),List.take_of_length_le (by omega),List.take_of_length_le (by omega)]
def nT(ys:List Nat):Tr:=.lst (ys.map λi:Nat=>Tr.int i)
theorem Gm{n:Nat}:∀{ts:List Tr},(∀t∈ts,dep t<=n)->deps ts<=n
 | [],_=>by rw[jH]; omega
 |t::ts,h=>by
  rw[iy]
  have h1:=h t (by simp)
  have h2:=Gm (ts:=ts) λu hu=>h u (by simp[hu])
  omega
theorem Gn(x:Int × Int):dep (fT x)=1:=by unfold fT; rw[lN,iy,iy,fC,fC,jH]; rfl
theorem abj(l:List (Int × Int)):dep (bJ l)<=2:=by
 unfold bJ
 rw[rF]
 have:=Gm (n:=1) (ts:=l.map fT) λt ht=>by
  obtain⟨x,_,rfl⟩:=List.mem_map.mp ht
  rw[Gn]; omega
 omega
theorem n8{T:Tr}(h:dep T<=40):bB T T=.ok (.bl false,false):=by
 unfold bB
 rw[if_pos ⟨h,h⟩,wX]
 rfl
theorem zx{T:Tr}(h:dep T<=40):aK T T=.ok (.bl true,false):=by
 unfold aK
 rw[if_pos ⟨h,h⟩,wX]
end BH
end
section
namespace K69
open K70 PySem L2 BH PySem.NumText
def rH(l:List Nat)(k:Nat):Tr:=if l≠[]/\(∀c∈l,kO c=true)/\l.length<=k/\(l=[48]\/l[0]? ≠ some 48)then .int (digitsVal l)else .non
def tX:BF:=cR (cF (cB (jX (pF Txt.isascii) (aj 0)))) (cR (cF (cB (jX (pF Txt.isdigit) (aj 0)))) (aR (ao gq (bC (g1 bM) (ak (aj 0) au)) (aj 1))))
theorem abk(z:Str)(k:Int)(hz:z.length<=100000):tX [.sh (.str z),.sh (.int k)]=.ok (!(Txt.isascii z&&Txt.isdigit z) || decide (k<z.length),[.sh (.str z),.sh (.int k)]):=by
 unfold tX
 cases h1:Txt.isascii z <;> cases h2:Txt.isdigit z <;> simp -dsimp[bW,cY,iK,bO,con,fX,eB,bh,dB,dr,drs,cls,cN,jo,g1,g2,gI,eU,gB,aK,bB,dR,bR,eV,mq,dM,jM,dw,cJ,gq,lD,gZ,aB,bM,mJ,fH,dZ,jB,jC,ji,fW,okR,dO,aW,others,cW,bU,dh,fK,gC,fC,zp,dG,rE,lN,rF,jH,iy,iR,zq,rG,fU,dz,fG,aV,pF,h1,h2,hz]
def pN:BF:=qw (aR (ao aK (ao aB (aj 0) (eC (.int 0))) (eC (.str "0")))) (aR (ao bB (aj 0) (eC (.str "0"))))
theorem abl(z:Str)(k:Int)(c:Nat)(hz:z.length<=100000)(hc:dz z.cps.toList 0=some c):pN [.sh (.str z),.sh (.int k)]=.ok ((⟨#[c]⟩:Str) == "0" && !(z == "0"),[.sh (.str z),.sh (.int k)]):=by
 have e:aB (.str z) (.int 0)=.ok (.str ⟨#[c]⟩,false):=by
  dsimp only[aB]
  rw[if_pos hz,hc]
 unfold pN
 cases h1:((⟨#[c]⟩:Str) == "0") <;> cases h2:(z == "0") <;> simp -dsimp[bh,dr,aK,bB,dG,rG,e,h1,h2]
theorem abm(z:Str)(k:Int)(hz:z.length<=100000):iM [.str z,.int k] =
  if(!(Txt.isascii z&&Txt.isdigit z) || decide (k<z.length))=true then .ok (.non,false)else
  match dz z.cps.toList 0 with
  |none=>.bad
  | some c=>if ((⟨#[c]⟩:Str) == "0" && !(z == "0"))=true then .ok (.non,false)else(j9 (.str z)).bind λp=>.ok (p.1,p.2):=by
 have e1:=abk z k hz
 show aN 2 (aJ (bF tX (aL (eC .non)) bD) (aJ (bF pN (aL (eC .non)) bD) (aL (bC (g1 j9) (ak (aj 0) au))))) _=_
 cases h:(!(Txt.isascii z&&Txt.isdigit z) || decide (k<z.length))
 ·rw[h]at e1
  cases hc:dz z.cps.toList 0 with
  |none =>
   have e2:pN [.sh (.str z),.sh (.int k)]=.bad:=by
    have e:aB (.str z) (.int 0)=.bad:=by
     dsimp only[aB]
     rw[if_pos hz,hc]
    unfold pN
    simp -dsimp[bh,dr,aK,bB,e]
   generalize pN=B,tX=A at *
   simp -dsimp[aN,aV,e1,e2]
  |some c =>
   have e2:=abl z k c hz hc
   show _=if false=true then _ else(if((⟨#[c]⟩:Str) == "0" && !(z == "0"))=true then .ok (.non,false)else(j9 (.str z)).bind λp=>.ok (p.1,p.2))
   generalize j9=G,((⟨#[c]⟩:Str) == "0" && !(z == "0"))=b,pN=B,tX=A at *
   cases b
   ·cases q:G (.str z) <;> simp -dsimp[aN,aV,dr,drs,cls,cN,g1,aW,e1,e2,q]
   ·simp -dsimp[aN,aV,dr,drs,cls,cN,g1,aW,e1,e2]
 ·rw[h]at e1
  generalize pN=B,tX=A at *
  simp -dsimp[aN,aV,e1,dr,cls,cN]
end K69
end
section
namespace K69
open K70 PySem L2 BH PySem.NumText
theorem zy:("0" : Str).cps.toList=[48]:=by decide +kernel
theorem sign_zero(c:Nat):((⟨#[c]⟩:Str) == "0")=decide (c=48):=by
 rw[Bool.eq_iff_iff,beq_iff_eq,decide_eq_true_eq]
 constructor
 ·intro h
  have:=congrArg (λs:Str=>s.cps.toList) h
  dsimp only at this
  rw[zy]at this
  simpa using this
 ·rintro rfl
  exact rD (by rw[zy])
theorem abn(z:Str):(z == "0")=decide (z.cps.toList=[48]):=by
 rw[Bool.eq_iff_iff,beq_iff_eq,decide_eq_true_eq]
 constructor
 ·rintro rfl
  exact zy
 ·intro h
  exact rD (by rw[zy,h])
theorem O8(z:Str)(k:Nat)(hk:k<=640)(hz:z.length<=100000):iM [.str z,.int (k:Nat)]=.ok (rH z.cps.toList k,false):=by
 rw[abm z k hz,aa5]
 have hl:z.length=z.cps.toList.length:=Array.length_toList.symm
 by_cases h1:z.cps.toList≠[]/\(∀c∈z.cps.toList,kO c=true)/\z.cps.toList.length<=k
 ·obtain⟨h1,h2,h3⟩:=h1
  obtain⟨c,r,e⟩:=List.exists_cons_of_ne_nil h1
  have p:0<z.length:=by rw[hl,e]; simp
  have b:(!(decide (0<z.length)&&z.cps.toList.all kO) || decide ((k:Int)<z.length))=false:=by
   rw[decide_eq_true p,List.all_eq_true.mpr h2,decide_eq_false (by omega)]
   rfl
  have hd:AllDigits z.cps.toList:=λc hc=>by
   have:=h2 c hc
   unfold kO at this
   simpa using this
  have e3:j9 (.str z)=.ok (.int (digitsVal z.cps.toList:Nat),false):=by
   dsimp only[j9]
   rw[if_pos (by omega),intText_digits hd h1 (by omega)]
  have hc:dz z.cps.toList 0=some c:=by rw[e]; simp[dz,fG]
  rw[b,if_neg (by decide),hc,e3]
  dsimp only
  rw[sign_zero,abn]
  by_cases h4:z.cps.toList=[48]
  ·have n:rH z.cps.toList k=.int (digitsVal z.cps.toList:Nat):=if_pos ⟨h1,h2,h3,.inl h4⟩
   rw[n,decide_eq_true h4,Bool.not_true,Bool.and_false]
   rfl
  ·rw[decide_eq_false h4]
   by_cases h5:c=48
   ·have n:rH z.cps.toList k=.non:=if_neg λq=>q.2.2.2.elim h4 λq=>q (by rw[e,h5]; rfl)
    rw[n,decide_eq_true h5]
    rfl
   ·have n:rH z.cps.toList k=.int (digitsVal z.cps.toList:Nat):=if_pos ⟨h1,h2,h3,.inr (by rw[e]; simpa using h5)⟩
    rw[n,decide_eq_false h5]
    rfl
 ·have b:(!(decide (0<z.length)&&z.cps.toList.all kO) || decide ((k:Int)<z.length))=true:=by
   rw[Bool.or_eq_true,Bool.not_eq_true',decide_eq_true_eq]
   by_cases q:(decide (0<z.length)&&z.cps.toList.all kO)=true
   ·rw[Bool.and_eq_true,decide_eq_true_eq,List.all_eq_true]at q
    right
    have:¬z.cps.toList.length<=k:=λw=>h1 ⟨λn=>by rw[hl,n]at q; exact absurd q.1 (by simp),q.2,w⟩
    omega
   ·left
    simpa using q
  have n:rH z.cps.toList k=.non:=if_neg λq=>h1 ⟨q.1,q.2.1,q.2.2.1⟩
  rw[b,if_pos rfl,n]
end K69
end
section
namespace BH
open PySem L2
theorem O9{i:Nat}{b:SF}{u:Tr}{us:List Tr}{ρ ρ1:En}{r:Rs (Fl × En)}(h:b (ρ.set i (.sh u))=.ok (.nx,ρ1))(h':gG (gN i) b us ρ1=r):gG (gN i) b (u::us) ρ = r:=by
 unfold gG
 show(b (ρ.set i (.sh u))).bind _=_
 rw[h]
 exact h'
theorem Pa{α : Type}{r h : α -> Tr}{f:EF}{τ : En}:∀(xs:List α) (s:Sl),(∀x∈xs,∃fr,f (.sh (r x)::τ)=.ok (.v (h x) fr,.sh (r x)::τ))->∃s',nP (gN 0) jm f (xs.map r) (s::τ)=.ok (xs.map h,s'::τ)
 | [],s,_=>⟨s,rfl⟩
 |x::xs,s,q=>by
  obtain⟨fr,e⟩:=q x (by simp)
  obtain⟨s',e'⟩:=Pa xs (.sh (r x)) λv hv=>q v (by simp[hv])
  refine⟨s',?_⟩
  rw[List.map_cons]
  unfold nP
  simp[e,cN,e']
theorem Pb{α : Type}{p : α -> Bool}:∀xs:List α,qz (xs.map λx=>.bl (p x))=some (xs.map p)
 | []=>rfl
 |x::xs=>by simp[qz,Pb xs]
theorem Gp{α : Type}{r h : α -> Tr}{xs:List α}{ρ τ : En}{rest:List (Option Nat)}{i:IF}{fe:EF}(hl:xs.length<=100000)(hi:i ρ=.ok (xs.map r,ρ))(hτ : cW rest ρ = τ)(hs:∀s',dh (none::rest) (s'::τ) ρ = true)(hd:∀s',bU (none::rest) (s'::τ) ρ = ρ)
  (hf:∀x∈xs,∃fr,fe (.sh (r x)::τ)=.ok (.v (h x) fr,.sh (r x)::τ)):jl (none::rest) i (gN 0) jm fe ρ=.ok (.v (.lst (xs.map h)) true,ρ):=by
 obtain⟨s',e⟩:=Pa xs .un hf
 have hu:cW (none::rest) ρ=.un::τ := by rw[<-hτ]; rfl
 have hl':(xs.map r).length<=100000:=by rw[List.length_map]; exact hl
 rw[aa8,hi]
 simp only[OD]
 rw[if_pos hl',hu,e]
 simp only[bW,OD]
 rw[if_pos (hs s'),hd s']
def Kg(x y:Int × Int):Bool:=decide (x.1*y.2<y.1*x.2)
theorem Gq(i j:Int):bR (.int i) (.int j)=.ok (.int (i+j),false):=rfl
end BH
end
section
namespace K69
open PySem L2 BH PySem.NumText
theorem Gs(T:Tr):jr [T]=.ok (.bl (isW T),false):=by cases T <;> rfl
theorem abo(a b:Int):yU [.int a,.int b]=.ok (.int (Int.gcd a b:Nat),false):=O3 a b
theorem abp(n k:Int)(h:0<k)(hk:k.natAbs.log2<9000):fY [.lst [.int n],.int k]=.ok ((.int (n.fmod k),false),[.int (n.fdiv k)]):=by
 unfold fY Ga gK
 have h0:k≠0:=by omega
 have h1:nG n k=true:=by unfold nG; simp[h0,hk]
 simp -dsimp[bW,cY,iK,bO,con,fX,eB,bh,dB,dr,drs,cls,cN,jo,g1,g2,gI,eU,gB,aK,bB,dR,bR,eV,mq,dM,jM,dw,cJ,gq,lD,gZ,aB,bM,mJ,fH,dZ,jB,jC,ji,fW,okR,dO,aW,others,cW,bU,dh,fK,gC,fC,zp,dG,rE,lN,rF,jH,iy,iR,zq,rG,fU,dz,fG,aV,h0,h1,dU,jk]
theorem lg{k:Int}(h:k.natAbs<2 ^ 60):k.natAbs.log2<9000:=O5 h (by omega)
theorem Gu(n k:Int)(h:0<k):0<=n.fmod k/\n.fmod k<k:=⟨Int.fmod_nonneg_of_pos n h,Int.fmod_lt_of_pos n h⟩
theorem u5:∀(n:Nat) (lo:Int),(upTo lo n).length=n
 | 0,_=>rfl
 |n+1,lo=>by unfold L2.upTo; rw[List.length_cons,u5 n]
theorem Pg{i:Int}(h : -1000000000000000000<i/\i<1000000000000000000):tiny i=true:=by
 unfold tiny
 rw[Bool.and_eq_true]
 exact⟨decide_eq_true (by omega),decide_eq_true (by omega)⟩
theorem vR{i j:Int}(h : -1000000000000000000<i/\i<1000000000000000000):jg i j=true:=by unfold jg; rw[Pg h]; simp
theorem Gv{i j:Int}(h : -1000000000000000000<j/\j<1000000000000000000):jg i j=true:=by unfold jg; rw[Pg h]; simp
theorem abq(a k:Int)(h0:0<=k)(h1:k<100000):∃x,tQ [.int a,.int k]=.ok (.int x,false):=by
 have c1:jg (a.fmod 2147483629) 69621=true:=Gv (by omega)
 have c2:jg 40503 k=true:=vR (by omega)
 have c3:jg (40503*k) k=true:=Gv (by omega)
 have c4:jg 16807 k=true:=vR (by omega)
 generalize hA:a.fmod 2147483629*69621+40503*k*k+16807*k+1048583=A
 have rA:=Gu A 2147483647 (by omega)
 generalize hB:A.fmod 2147483647=B at rA
 have c5:jg B B=true:=vR (by omega)
 have rB:=Gu (B*B) 2147483629 (by omega)
 generalize hC:(B*B).fmod 2147483629=C at rB
 have c6:jg C (C+2)=true:=vR (by omega)
 refine⟨(C*(C+2)).fmod 2147483587,?_⟩
 unfold tQ FT aN
 simp -dsimp[bW,cY,iK,bO,con,fX,eB,bh,dB,dr,drs,cls,cN,jo,g1,g2,gI,eU,gB,aK,bR,dM,dw,cJ,gq,bM,fH,dZ,fW,okR,dO,aW,others,cW,bU,dh,fK,gC,fC,iR,aV,eV,c1,c2,c3,c4,hA,hB,c5,hC,c6]
def rJ:SF:=(bT (ao bR (ao eV (aj 3) (eC (.int 2147483587))) (aU tQ (ak (aj 2) (ak (ao bR (ao eV (eC (.int 31)) (aj 1)) (aj 4)) au)))) (gN 3))
theorem Ph(S:Tr)(k cell:Int)(h0:0<=k)(h1:k<1000):∀(us:List Tr) (pO:Int) (s:Sl),(∀u∈us,∃j:Int,u=.int j/\0<=j/\j<1000)->∃x s',gG (gN 4) rJ us [.sh S,.sh (.int k),.sh (.int cell),.sh (.int pO),s]=.ok (.nx,[.sh S,.sh (.int k),.sh (.int cell),.sh (.int x),s'])
 | [],pO,s,_=>⟨pO,s,rfl⟩
 |u::us,pO,s,h=>by
  obtain⟨j,rfl,j0,j1⟩:=h u (by simp)
  obtain⟨y,e⟩:=abq cell (31*k+j) (by omega) (by omega)
  obtain⟨x,s',e'⟩:=Ph S k cell h0 h1 us (pO*2147483587+y) (.sh (.int j)) λv hv=>h v (by simp[hv])
  have c1:jg pO 2147483587=true:=Gv (by omega)
  have c2:jg 31 k=true:=vR (by omega)
  have e2:rJ [.sh S,.sh (.int k),.sh (.int cell),.sh (.int pO),.sh (.int j)]=.ok (.nx,[.sh S,.sh (.int k),.sh (.int cell),.sh (.int (pO*2147483587+y)),.sh (.int j)]):=by
   unfold rJ
   simp -dsimp[bW,cY,iK,bO,con,fX,eB,bh,dB,dr,drs,cls,cN,jo,g1,g2,gI,eU,gB,aK,bR,dM,dw,cJ,gq,bM,fH,dZ,fW,okR,dO,aW,others,cW,bU,dh,fK,gC,fC,iR,eV,c1,c2,e]
  refine⟨x,s',?_⟩
  unfold gG
  simp[e2,e']
theorem Gw:∀(n:Nat) (lo:Int) (u:Tr),u∈L2.upTo lo n->∃j:Int,u=.int j/\lo<=j/\j<lo+n
 | 0,_,u,h=>by simp[L2.upTo]at h
 |n+1,lo,u,h=>by
  unfold L2.upTo at h
  rcases List.mem_cons.mp h with rfl|h
  ·exact⟨lo,rfl,by omega,by omega⟩
  ·obtain⟨j,rfl,h1,h2⟩:=Gw n (lo+1) u h
   exact⟨j,rfl,by omega,by omega⟩
noncomputable def tY:SF:=(aJ (bF (aR (ao gZ (aj 2) (ao jM (eC (.int 10)) (eC (.int 18))))) (aL (sO (ak (ao dw (aj 2) (ao jM (eC (.int 10)) (eC (.int 18)))) au))) bD) (aJ (bT (eC (.int 0)) (gN 3)) (aJ (eE (jD (j5 (ak (eC (.int 20)) au)) (gN 4) rJ)) (aL (sO (ak (aj 3) au))))))
theorem Pk(S:Tr)(k:Nat)(hk:k<1000)(cell:Int):∃x ρ,tY [.sh S,.sh (.int k),.sh (.int cell),.un,.un]=.ok (.rt (.lst [.int x]) true,ρ):=by
 by_cases h:1000000000000000000<=cell
 ·refine⟨cell-1000000000000000000,[.sh S,.sh (.int k),.sh (.int cell),.un,.un],?_⟩
  unfold tY
  simp -dsimp[bW,cY,iK,bO,con,fX,eB,bh,dB,dr,drs,cls,cN,jo,g1,g2,gI,eU,gB,aK,bR,dM,dw,cJ,gq,bM,fH,dZ,fW,okR,dO,aW,others,cW,bU,dh,fK,gC,fC,iR,gZ,jM,xJ,tiny,h]
 ·obtain⟨x,s',e⟩:=Ph S k cell (by omega) (by omega) (L2.upTo 0 20) 0 .un λu hu=>by
   obtain⟨j,rfl,h1,h2⟩:=Gw _ _ _ hu
   exact⟨j,rfl,h1,by omega⟩
  have e1:eE (jD (j5 (ak (eC (.int 20)) au)) (gN 4) rJ) [.sh S,.sh (.int k),.sh (.int cell),.sh (.int 0),.un]=.ok (.nx,[.sh S,.sh (.int k),.sh (.int cell),.sh (.int x),s']):=by
   show bW (gG (gN 4) rJ (L2.upTo 0 20) _)=_
   rw[e]
   rfl
  refine⟨x,[.sh S,.sh (.int k),.sh (.int cell),.sh (.int x),s'],?_⟩
  unfold tY
  generalize eE (jD (j5 (ak (eC (.int 20)) au)) (gN 4) rJ)=G at e1 ⊢
  simp -dsimp[bW,cY,iK,bO,con,fX,eB,bh,dB,dr,drs,cls,cN,jo,g1,g2,gI,eU,gB,aK,bR,dM,dw,cJ,gq,bM,fH,dZ,fW,okR,dO,aW,others,cW,bU,dh,fK,gC,fC,iR,gZ,jM,xJ,tiny,h,e1]
theorem abr(ns:List Int)(k:Nat)(hk:k<1000):∃x:Int,qU [.lst (ns.map .int),.int k]=.ok (.lst [.int x],true):=by
 have hd:FW=(aJ (bT (eC (.int 0)) (gN 2)) (aJ (bF (aR (ao cJ (aj 1) (bC (g1 bM) (ak (aj 0) au)))) (bT (ao aB (aj 0) (aj 1)) (gN 2)) bD) tY)):=rfl
 unfold qU
 rw[hd]
 by_cases h:k<ns.length
 ·have e:=abf (xs:=ns.map .int) (i:=k) (T:=.int ns[k]) (by simp[h])
  obtain⟨x,ρ,e1⟩:=Pk (.lst (ns.map .int)) k hk ns[k]
  refine⟨x,?_⟩
  unfold aN
  generalize tY=G at e1 ⊢
  generalize ns[k]=cell at e e1
  simp -dsimp[bW,cY,iK,bO,con,fX,eB,bh,dB,dr,drs,cls,cN,jo,g1,g2,gI,eU,gB,aK,bR,dM,dw,cJ,gq,bM,fH,dZ,fW,okR,dO,aW,others,cW,bU,dh,fK,gC,fC,iR,aV,h,e,e1]
 ·obtain⟨x,ρ,e1⟩:=Pk (.lst (ns.map .int)) k hk 0
  refine⟨x,?_⟩
  unfold aN
  generalize tY=G at e1 ⊢
  simp -dsimp[bW,cY,iK,bO,con,fX,eB,bh,dB,dr,drs,cls,cN,jo,g1,g2,gI,eU,gB,aK,bR,dM,dw,cJ,gq,bM,fH,dZ,fW,okR,dO,aW,others,cW,bU,dh,fK,gC,fC,iR,aV,h,e1]
end K69
end
section
namespace K69
open K70 PySem L2 BH PySem.NumText
@[simp] theorem afm(g:Str->G1)(fa fb:EF)(ρ : En):mQ g fa fb ρ = bd (fa ρ) (λp=>bd (dr p.2 p.1) (λa=>bd (strOf a) (λz=>bd (fb p.2) (λq=>bd (dr q.2 q.1) (λb=>bd (g z b) (λw=>.ok (.v w.1 w.2,q.2)) .mk) .mk) .mk) .mk) .mk) .mk:=rfl
@[simp] theorem strOf_str(z:Str):strOf (.str z)=.ok z:=rfl
def jt(l:List Nat):Option Nat:=if l≠[]/\(∀c∈l,kO c=true)/\l.length<=40/\(l=[48]\/l[0]? ≠ some 48)then some (digitsVal l)else none
def oT:Option Nat->Tr
 |some n=>.int (n:Nat)
 |none=>.non
theorem Pn(l:List Nat):rH l 40=oT (jt l):=by
 unfold rH jt
 split <;> rfl
def fO:Option (Int × Int)->Tr
 |some x=>fT x
 |none=>.non
def lO:Option Nat->Option (Int × Int)
 |some p=>some ((p:Int),(1:Int))
 |none=>none
def kW:Option Nat->Option Nat->Option (Int × Int)
 |some p,some q=>if 2<=q/\Nat.gcd p q=1 then some ((p:Int),(q:Int))else none
 |_,_=>none
def Pq:List (List Nat)->Option (Int × Int)
 | [a]=>lO (jt a)
 | [a,b]=>kW (jt a) (jt b)
 |_=>none
def vU(l:List Nat):Option (Int × Int):=Pq (spl 47 l)
theorem fM(b:Bool):dB (.bl b)=.ok b:=rfl
theorem slash:("/" : Str)=⟨#[47]⟩:=by decide +kernel
theorem Pu{z a s b:Str}{x y:Option Nat}{t:Bool}(hp:nU z (.str "/")=.ok (.tup [.str a,.str s,.str b],false)) (ha:iM [.str a,.int 40]=.ok (oT x,false)) (hb:iM [.str b,.int 40]=.ok (oT y,false)) (ht:dB (.str s)=.ok t) :
  nZ [.str z,.int 40]=.ok (fO (if t=true then kW x y else lO x),false):=by
 have e0:∀P Q,mO [.tup [P,Q]]=.ok (.bl (n6 P Q),false):=λP Q=>O4 _
 have g1:∀P:Nat,n6 (.int P) (.int 1)=true:=λP=>by simp[n6]
 have eqn:aK .non (.int 1)=.ok (.bl false,false):=by rfl
 unfold nZ FQ
 generalize nU=GP,mO=I,iM=W at *
 cases t
 ·cases x with
  |none =>
   have g2:n6 .non (.int 1)=false:=rfl
   simp -dsimp[aN,aV,dr,drs,cls,cN,aW,fM,bh,hp,ha,ht,oT,e0,g2,fO,lO,kW]
  |some p =>
   have g2:=g1 p
   simp -dsimp[aN,aV,dr,drs,cls,cN,aW,fM,bh,hp,ha,ht,oT,e0,g2,fO,lO,kW,fT]
 ·cases x with
  |none =>
   have g2:∀Q,n6 .non Q=false:=λQ=>rfl
   cases y with
   |none=>simp -dsimp[aN,aV,dr,drs,cls,cN,aW,fM,bh,hp,ha,hb,ht,oT,e0,g2,fO,lO,kW,eqn]
   |some q =>
    have eq1:aK (.int q) (.int 1)=.ok (.bl ((q:Int) == 1),false):=rfl
    generalize ((q:Int) == 1)=v at eq1
    cases v <;> simp -dsimp[aN,aV,dr,drs,cls,cN,aW,fM,bh,hp,ha,hb,ht,oT,e0,g2,fO,lO,kW,eq1]
  |some p =>
   cases y with
   |none =>
    have g2:n6 (.int p) .non=false:=rfl
    simp -dsimp[aN,aV,dr,drs,cls,cN,aW,fM,bh,hp,ha,hb,ht,oT,e0,g2,fO,lO,kW,eqn]
   |some q =>
    have eq1:aK (.int q) (.int 1)=.ok (.bl (decide (q=1)),false):=by
     show Rs.ok (Tr.bl ((q:Int) == 1),false)=_
     congr 3
     rw[Bool.eq_iff_iff,beq_iff_eq,decide_eq_true_eq]
     omega
    have g2:n6 (.int p) (.int q)=(decide (1<=q)&&(Nat.gcd p q == 1)):=by
     show(decide (1<=(q:Int))&&(Int.gcd p q == 1))=_
     rw[Int.gcd_natCast_natCast]
     congr 1
     rw[Bool.eq_iff_iff,decide_eq_true_eq,decide_eq_true_eq]
     omega
    by_cases h1:2<=q/\Nat.gcd p q=1
    ·obtain⟨h1,h2⟩:=h1
     have h3:¬q=1:=by omega
     have h4:1<=q:=by omega
     rw[decide_eq_false h3]at eq1
     rw[decide_eq_true h4,h2]at g2
     simp -dsimp[aN,aV,dr,drs,cls,cN,aW,fM,bh,hp,ha,hb,ht,oT,e0,g2,fO,lO,kW,eq1,fT,h1,h2]
    ·by_cases h3:q=1
     ·rw[decide_eq_true h3]at eq1
      simp -dsimp[aN,aV,dr,drs,cls,cN,aW,fM,bh,hp,ha,hb,ht,oT,e0,g2,fO,lO,kW,eq1,h1]
     ·have g3:(decide (1<=q)&&(Nat.gcd p q == 1))=false:=by
       by_cases h4:1<=q
       ·have:¬Nat.gcd p q=1:=λh=>h1 ⟨by omega,h⟩
        simp[this]
       ·simp[h4]
      rw[decide_eq_false h3]at eq1
      rw[g3]at g2
      simp -dsimp[aN,aV,dr,drs,cls,cN,aW,fM,bh,hp,ha,hb,ht,oT,e0,g2,fO,lO,kW,eq1,h1]
theorem abt(c:Nat):∀l:List Nat,spl c l≠[]
 | []=>List.cons_ne_nil _ _
 |x::r=>by
  unfold spl
  split
  ·exact List.cons_ne_nil _ _
  ·split <;> exact List.cons_ne_nil _ _
theorem Px{c:Nat}:∀{l:List Nat},c∈l->∃i j,l=i++c::j/\c∉i
 |x::r,h=>by
  by_cases e:x=c
  ·exact⟨[],r,by rw[e]; rfl,List.not_mem_nil⟩
  ·rcases List.mem_cons.mp h with h|h
   ·exact absurd h.symm e
   ·obtain⟨i,j,h1,h2⟩:=Px h
    exact⟨x::i,j,by rw[h1]; rfl,by rw[List.mem_cons,not_or]; exact⟨Ne.symm e,h2⟩⟩
theorem abu(z:Str)(hz:z.length<=100000):nZ [.str z,.int 40]=.ok (fO (vU z.cps.toList),false):=by
 have gp:nU z (.str "/")=.ok (.tup ((pD z "/").map .str),false):=if_pos ⟨by decide +kernel,hz⟩
 have wf:∀w:Str,w.length<=100000->iM [.str w,.int 40]=.ok (oT (jt w.cps.toList),false):=λw hw=>by
  rw[<-Pn]
  exact O8 w 40 (by decide) hw
 have hl:z.length=z.cps.toList.length:=Array.length_toList.symm
 rcases aa6 z 47 with⟨h1,h2⟩|⟨a,b,h1,h2,h3⟩
 ·rw[slash,h2]at gp
  rw[<-slash]at gp
  refine(Pu gp (wf z hz) (wf _ (by decide)) rfl).trans ?_
  unfold vU
  rw[tW h1]
  rfl
 ·rw[slash,h3]at gp
  rw[<-slash]at gp
  have ll:=congrArg List.length h1
  rw[List.length_append,List.length_cons,<-hl]at ll
  refine(Pu gp (wf _ ?_) (wf _ ?_) rfl).trans ?_
  ·show a.toArray.size<=_; rw[List.size_toArray]; omega
  ·show b.toArray.size<=_; rw[List.size_toArray]; omega
  ·unfold vU
   rw[h1,vQ b h2]
   show Rs.ok (fO (kW (jt a) (jt b)),false)=_
   by_cases hb:47∈b
   ·have n:jt b=none:=if_neg λq=>absurd (q.2.1 47 hb) (by decide)
    have m:∃p q r,spl 47 b=p::q::r:=by
     obtain⟨i,j,e,k⟩:∃i j,b=i++47::j/\47∉i:=Px hb
     rw[e,vQ j k]
     cases w:spl 47 j with
     |nil=>exact absurd w (abt 47 j)
     |cons q r=>exact⟨i,q,r,rfl⟩
    obtain⟨p,q,r,m⟩:=m
    rw[m,n]
    cases jt a <;> rfl
   ·rw[tW hb]
    rfl
end K69
end
section
namespace BH
open PySem L2
def Fq(M:Nat)(x:Int × Int):Prop:=0<=x.1/\x.1<2 ^ M/\1<=x.2/\x.2<2 ^ M/\Int.gcd x.1 x.2=1
end BH
end
section
namespace BH
open PySem L2
def ov(t x:Int × Int):Bool:=Kg t x
end BH
end
section
namespace BH
open PySem L2
inductive Ru where
 |sh (ws:List (Int × Int))|mid (k:Nat)|least|greatest|product
def cD:Ru->Tr
 |.sh ws=>.tup [.str "shares",bJ ws]
 |.mid k=>.tup [.str "middle",.int k]
 |.least=>.tup [.str "least"]
 |.greatest=>.tup [.str "greatest"]
 |.product=>.tup [.str "product"]
def afn(n:Nat):Ru->Prop
 |.sh ws=>ws.length=n/\∀w∈ws,Fq 45 w
 |.mid k=>1<=k/\k<=n
 |_=>True
theorem sEq(a:Str):aK (.str a) (.str a)=.ok (.bl true,false):=zx (T:=.str a) (by rw[dG]; omega)
theorem sNe{a b:Str}(h:(a == b)=false):aK (.str a) (.str b)=.ok (.bl false,false):=by
 unfold aK
 rw[if_pos ⟨by rw[dG]; omega,by rw[dG]; omega⟩,rG,h]
theorem abv{α : Type}{r : α -> Tr}{xs:List α}{ρ τ : En}{rest:List (Option Nat)}{i:IF}{fe:EF}(hl:xs.length<=100000)(hi:i ρ=.ok (xs.map r,ρ))(hτ : cW rest ρ = τ)(hs:∀s',dh (none::rest) (s'::τ) ρ = true)(hd:∀s',bU (none::rest) (s'::τ) ρ = ρ)
  (hf:∀x∈xs,∃fr,fe (.sh (r x)::τ)=.ok (.v (.bl true) fr,.sh (r x)::τ)):bC (g1 ji) (ak (jl (none::rest) i (gN 0) jm fe) au) ρ=.ok (.v (.bl true) false,ρ):=by
 have e:=Gp (h:=λx=>.bl ((λ_ : α=>true) x)) hl hi hτ hs hd hf
 have eg:ji (.lst (xs.map λx=>.bl ((λ_ : α=>true) x)))=.ok (.bl true,false):=by
  unfold ji
  simp only[Pb]
  rw[show(xs.map λ_=>true).all id=true by simp]
 generalize jl _ _ _ _ _=G at e ⊢
 generalize Tr.lst (xs.map λx=>.bl ((λ_ : α=>true) x))=T at e eg
 simp[e,eg,drs,dr,g1]
def Gx:EF:=(g8 (aU mO (ak (aj 0) au)) (ao gZ (ao aB (aj 0) (eC (.int 0))) (eC (.int 0))))
theorem abw{T:Tr}(h:T=.tup [.str "least"]∨T=.tup [.str "greatest"]∨T=.tup [.str "product"]):dR id T (.tup [(.tup [(.str "least")]),(.tup [(.str "greatest")]),(.tup [(.str "product")])])=.ok (.bl true,false):=by
 rcases h with rfl|rfl|rfl <;> kernel_rfl
end BH
end
section
namespace L2
open PySem
@[simp] theorem afo(d:Str)(fa:EF)(ρ : En):YC d fa ρ = bd (fa ρ) (λp=>bd (dr p.2 p.1) (λa=>match Mh a d with
 |some b=>.ok (eB b,p.2)
 |none=>.bad) .mk) .mk:=rfl
@[simp] theorem afp(fa:EF)(ρ : En):YD fa ρ = bd (fa ρ) (λp=>bd (dr p.2 p.1) (λa=>match Mi a with
 |some b=>.ok (eB b,p.2)
 |none=>.bad) .mk) .mk:=rfl
@[simp] theorem afq(c:Str)(f:EF)(ρ : En):u9 c f ρ = bd (f ρ) (λ_=>.ex c) .mk:=rfl
end L2
namespace BH
open PySem L2
end BH
end
section
namespace BH
open PySem L2
theorem Py(L:List Tr)(k:Nat):lF none (some (k:Int)) (.lst L)=.ok (.lst (L.take k),true):=by
 show Rs.ok (Tr.lst (L2.cut L none (some (k:Int))),true)=_
 rw[abh]
theorem abx(L:List Tr)(k:Nat):lF (some (k:Int)) none (.lst L)=.ok (.lst (L.drop k),true):=by
 show Rs.ok (Tr.lst (L2.cut L (some (k:Int)) none),true)=_
 rw[abg]
end BH
end
section
namespace K69
open K70 PySem L2 BH PySem.NumText
theorem Pz(c:Nat):∀l:List Nat,(spl c l).length<=l.length+1
 | []=>Nat.le_refl _
 |x::r=>by
  have h:=Pz c r
  unfold spl
  split
  ·simp only[List.length_cons]; omega
  ·split
   ·simp
   ·rename_i e
    rw[e]at h
    simp only[List.length_cons]at h ⊢
    omega
theorem PB(c:Nat):∀(l:List Nat),∀p∈spl c l,p.length<=l.length
 | [],p,h=>by rw[List.mem_singleton.mp h]; exact Nat.le_refl _
 |x::r,p,h=>by
  have ih:=PB c r
  unfold spl at h
  rw[List.length_cons]
  split at h
  ·rcases List.mem_cons.mp h with rfl|h
   ·exact Nat.zero_le _
   ·have:=ih p h; omega
  ·split at h
   ·rw[List.mem_singleton.mp h]; simp
   ·rename_i q s e
    rcases List.mem_cons.mp h with rfl|h
    ·have:=ih q (by rw[e]; simp)
     rw[List.length_cons]; omega
    ·have:=ih p (by rw[e]; simp[h])
     omega
theorem zA(z:Str):z.length=z.cps.toList.length:=Array.length_toList.symm
theorem aby(z:Str)(c:Nat)(hz:z.length<=50000):lJ z (.str ⟨#[c]⟩)=.ok (.lst ((Txt.split z ⟨#[c]⟩).map .str),true)/\(Txt.split z ⟨#[c]⟩).length<=50001/\∀p∈Txt.split z ⟨#[c]⟩,p.length<=z.length:=by
 have e:=Oz z c
 have h1:(Txt.split z ⟨#[c]⟩).length<=z.length+1:=by
  have:=congrArg List.length e
  rw[List.length_map]at this
  rw[this,zA z]
  exact Pz c _
 refine⟨if_pos ⟨rfl,by omega,by omega⟩,by omega,λp hp=>?_⟩
 rw[zA p,zA z]
 exact PB c _ _ (by rw[<-e]; exact List.mem_map_of_mem hp)
theorem abz{α : Type}{r:Option α -> Tr}(h0:r none=.non)(h1:∀a,eqT (r (some a)) .non=false)(h2:∀a,dep (r (some a))<=40)(P:List (Option α)):dR id .non (.lst (P.map r))=.ok (.bl (P.any Option.isNone),false):=by
 have d:deps (P.map r)<=40:=Gm λt ht=>by
  obtain⟨a,_,rfl⟩:=List.mem_map.mp ht
  cases a with
  |none=>rw[h0,rE]; omega
  |some a=>exact h2 a
 have i:sH .non (P.map r)=P.any Option.isNone:=by
  unfold sH
  rw[List.any_map]
  congr 1
  funext a
  cases a with
  |none=>show eqT (r none) .non=_; rw[h0]; rfl
  |some a=>exact h1 a
 unfold dR
 dsimp only
 rw[if_pos ⟨d,by rw[rE]; omega⟩,i]
 rfl
def Rd(x:Int × Int):Prop:=0<=x.1/\1<=x.2/\Int.gcd x.1 x.2=1
theorem abA(x:Option (Int × Int)):dep (fO x)<=1:=by
 cases x with
 |none=>show dep .non<=1; rw[rE]; omega
 |some x=>show dep (fT x)<=1; rw[Gn]; omega
theorem abB(P:List (Option (Int × Int))):dR id .non (.lst (P.map fO))=.ok (.bl (P.any Option.isNone),false):=abz rfl (λa=>rfl) (λa=>by have:=abA (some a); omega) P
theorem blank:(" " : Str)=⟨#[32]⟩:=by decide +kernel
theorem PJ(z:Str):pC [.str z]=.ok (.non,false):=by
 unfold pC Mq
 simp -dsimp[aN,aV,dr,eB,fU,fM]
theorem abC(s:Str)(l:List Str):Txt.join s l=Str.join s l:=eq_of_beq (PyProof.Rows.join_closes rfl)
def nS(p:Int):Str:=toString p
theorem PK{p:Int}(h0:0<=p)(h:p<10 ^ 40):p.natAbs.log2<1920:=by
 rcases Nat.eq_zero_or_pos p.natAbs with e|e
 ·rw[e]; decide
 ·exact Nat.lt_of_lt_of_le ((Nat.log2_lt (by omega)).mpr (show p.natAbs<2 ^ 140 by omega)) (by decide)
theorem zB{p:Int}(h0:0<=p)(h:p<10 ^ 40):ig (.int p)=.ok (.str (nS p),false):=by
 unfold ig
 rw[if_pos ⟨by unfold gQ; exact decide_eq_true (PK h0 h),by unfold blk; omega,by rw[fC]; omega⟩]
 rfl
theorem Gy{p:Int}(h0:0<=p)(h:p<10 ^ 40):jq (.int p)=.ok (.str (nS p),false):=if_pos (PK h0 h)
theorem lQ{p:Int}(h0:0<=p)(h:p<10 ^ 40):(nS p).length<=40:=PyProof.Rows.toString_length_le h0 (by decide) h
def Rb(x:Int × Int):Prop:=0<=x.1/\x.1<10 ^ 40/\1<=x.2/\x.2<10 ^ 40
def bV(x:Int × Int):Str:=if x.2=1 then nS x.1 else nS x.1 ++ "/" ++ nS x.2
theorem len_app(a b:Str):(a++b).length=a.length+b.length:=by
 show(a++b).cps.size=a.cps.size+b.cps.size
 rw[Str.cps_append,Array.size_append]
theorem vV{x:Int × Int}(h:Rb x):(bV x).length<=81:=by
 obtain⟨h1,h2,h3,h4⟩:=h
 have a:=lQ h1 h2
 have b:=lQ (p:=x.2) (by omega) h4
 have c:("/" : Str).length=1:=by decide +kernel
 unfold bV
 split
 ·omega
 ·rw[len_app,len_app]; omega
@[simp] theorem afr(acc:Str)(ρ : En):mU [] acc ρ = if acc.length<=100000 then .ok (.v (.str acc) false,ρ)else .bad:=rfl
@[simp] theorem afs(f:EF)(r:List EF)(acc:Str)(ρ : En):mU (f::r) acc ρ = bd (f ρ) (λp=>bd (dr p.2 p.1) (λa=>bd (strOf a) (λy=>if(acc++y).length<=100000 then mU r (acc++y) p.2 else .bad) .mk) .mk) .mk:=rfl
theorem empty_app(a:Str):Str.empty++a=a:=rD (by rw[Str.cps_append]; simp[Str.empty])
theorem abD{x:Int × Int}(h:Rb x):qR [fT x]=.ok (.str (bV x),false):=by
 have ln:=vV h
 obtain⟨h1,h2,h3,h4⟩:=h
 have a1:=zB h1 h2
 have a2:=Gy h1 h2
 have a3:=Gy (p:=x.2) (by omega) h4
 have eq1:aK (.int x.2) (.int 1)=.ok (.bl (decide (x.2=1)),false):=rfl
 have l1:=lQ h1 h2
 have l2:=lQ (p:=x.2) (by omega) h4
 have c:("/" : Str).length=1:=by decide +kernel
 have q1:(Str.empty++nS x.1).length<=100000:=by rw[empty_app]; omega
 have q2:(nS x.1 ++ "/" : Str).length<=100000:=by rw[len_app]; omega
 have q3:(nS x.1 ++ "/" ++ nS x.2:Str).length<=100000:=by rw[len_app,len_app]; omega
 unfold qR FN bV fT
 generalize aK=E,jq=F,ig=S at *
 by_cases k:x.2=1
 ·rw[decide_eq_true k]at eq1
  rw[if_pos k]
  generalize x.2=q,x.1=p,nS x.1=n1 at *
  simp -dsimp[aN,aV,dr,drs,bh,g1,eq1,a1]
 ·rw[decide_eq_false k]at eq1
  rw[if_neg k]
  generalize x.2=q,x.1=p,nS x.2=n2,nS x.1=n1 at *
  generalize hs:("/" : Str)=sl at *
  rw[empty_app]at q1
  simp -dsimp[aN,aV,dr,drs,bh,g1,eq1,a2,a3,empty_app,q1,q2,q3]
theorem PL:("/" : Str).cps.toList=[47]:=by decide +kernel
theorem abE{s:Str}{ts:List Str}{M:Nat}(h:∀t∈ts,t.length<=M)(hs:s.length<=1)(hb:ts.length*(M+1)<=16777216):JoinOk s ts=true:=by
 refine PyProof.Rows.joinOk_of ?_
 have:(ts.map λx=>x.length).sum<=ts.length*M:=by
  clear hb
  induction ts with
  |nil=>simp
  |cons t r ih =>
   rw[List.map_cons,List.sum_cons,List.length_cons,Nat.succ_mul]
   have:=ih λt ht=>h t (by simp[ht])
   have:=h t (by simp)
   omega
 have:ts.length*s.length<=ts.length:=by
  have:=Nat.mul_le_mul_left ts.length hs
  omega
 rw[Nat.mul_add]at hb
 omega
theorem abF(l:List Str):strsOf (l.map Tr.str)=.ok l:=by
 induction l with
 |nil=>rfl
 |cons z r ih=>rw[List.map_cons]; unfold strsOf; rw[ih]; rfl
theorem abG{s:Str}{ts:List Str}(h:JoinOk s ts=true):mR s (.lst (ts.map .str))=.ok (.str (Str.join s ts),false):=by
 dsimp only[mR]
 rw[abF,Rs.jh,if_pos h,abC]
def rS(l:List (Int × Int)):Str:=Str.join " " (l.map bV)
theorem PN:(" " : Str).length<=1:=by decide +kernel
theorem abH{l:List (Int × Int)}(h:∀x∈l,Rb x)(hl:l.length<=1000):JoinOk " " (l.map bV)=true:=abE (M:=81) (λt ht=>by
 obtain⟨x,hx,rfl⟩:=List.mem_map.mp ht
 exact vV (h x hx)) PN (by rw[List.length_map]; omega)
theorem PX(s:Str){M:Nat}(hs:s.length<=1):∀{ts:List Str},(∀t∈ts,t.length<=M)->(Str.join s ts).length<=ts.length*(M+1)
 | [],_=>by show(0:Nat)<=_; omega
 | [x],h=>by
  have:=h x (by simp)
  show x.length<=1*(M+1)
  omega
 |x::y::r,h=>by
  have a:=h x (by simp)
  have b:=PX s hs (ts:=y::r) λt ht=>h t (List.mem_cons_of_mem _ ht)
  show(x++s++Str.join s (y::r)).length<=_
  rw[len_app,len_app,List.length_cons,Nat.succ_mul]
  omega
theorem P0{l:List (Int × Int)}(h:∀x∈l,Rb x):(rS l).length<=l.length*82:=by
 have:=PX " " (M:=81) PN (ts:=l.map bV) (λt ht=>by
  obtain⟨x,hx,rfl⟩:=List.mem_map.mp ht
  exact vV (h x hx))
 rw[List.length_map]at this
 exact this
def Gz:EF:=jl [none] (jP (aj 0)) (gN 0) jm (aU qR (ak (aj 0) au))
theorem abI{l:List (Int × Int)}(h:∀x∈l,Rb x)(hl:l.length<=1000):vL [bJ l]=.ok (.str (rS l),false):=by
 have e:Gz [.sh (bJ l)]=.ok (.v (.lst ((l.map bV).map .str)) true,[.sh (bJ l)]):=by
  rw[List.map_map]
  refine Gp (r:=fT) (by omega) rfl rfl (λ_=>rfl) (λ_=>rfl) λx hx=>⟨false,?_⟩
  have n:=abD (h x hx)
  show _=Rs.ok (Rv.v (.str (bV x)) false,_)
  generalize fT x=T,qR=F at *
  simp -dsimp[cW,dr,drs,aW,n]
 have j:=abG (abH h hl)
 show aN 1 (aL (mQ mR (eC (.str " ")) Gz)) _=Rs.ok (Tr.str (Str.join " " (l.map bV)),false)
 generalize bJ l=T,mR=J,Gz=C,(l.map bV).map Tr.str=L,Str.join " " (l.map bV)=S at *
 simp -dsimp[aN,aV,dr,e,j]
theorem abJ(a b:Nat):bB (.int a) (.int b)=.ok (.bl (!(a == b)),false):=by
 show Rs.ok (Tr.bl (!((a:Int) == (b:Int))),false)=_
 congr 4
 rw[Bool.eq_iff_iff,beq_iff_eq,beq_iff_eq]
 omega
theorem Qa(l:List (Int × Int)):bM (bJ l)=.ok (.int (l.length:Nat),false):=by
 show Rs.ok (Tr.int ((l.map fT).length:Nat),false)=_
 rw[List.length_map]
noncomputable def rK:SF:=aJ (bF (cR (cF (cB (d7 .tuple (aj 2)))) (cR (aR (ao bB (bC (g1 bM) (ak (aj 2) au)) (eC (.int 2)))) (cR (cF (cB (aU jr (ak (ao aB (aj 2) (eC (.int 0))) au)))) (cF (cB (aU jr (ak (ao aB (aj 2) (eC (.int 1))) au))))))) (aL (eC (.bl false))) bD) (bF (aR (ao bB (aj 2) (aj 3))) (aL (eC (.bl false))) bD)
theorem abK(s0 s1:Sl)(x:Int × Int):rK [s0,s1,.sh (fT x),.sh (fT x)]=.ok (.nx,[s0,s1,.sh (fT x),.sh (fT x)]):=by
 have i0:aB (fT x) (.int 0)=.ok (.int x.1,false):=rfl
 have i1:aB (fT x) (.int 1)=.ok (.int x.2,false):=rfl
 have w0:=Gs (.int x.1)
 have w1:=Gs (.int x.2)
 have l2:bM (fT x)=.ok (.int 2,false):=rfl
 have n2:bB (.int 2) (.int 2)=.ok (.bl false,false):=rfl
 have ns:=n8 (T:=fT x) (by rw[Gn]; omega)
 have ty:fU (fT x) .tuple=true:=rfl
 unfold rK
 generalize bB=N,bM=L,aB=I,jr=W,fT x=T at *
 simp -dsimp[dr,drs,aW,eB,fM,bh,g1,i0,i1,w0,w1,isW,l2,n2,ns,ty]
theorem Qc(s0 s1:Sl):∀(l:List (Int × Int)) (s2 s3:Sl),∃t2 t3,gG (gT 2 (fV (gN 2) (fV (gN 3) lH))) rK (nR (l.map fT) (l.map fT)) [s0,s1,s2,s3]=.ok (.nx,[s0,s1,t2,t3])
 | [],s2,s3=>⟨s2,s3,rfl⟩
 |x::l,s2,s3=>by
  obtain⟨t2,t3,e⟩:=Qc s0 s1 l (.sh (fT x)) (.sh (fT x))
  refine⟨t2,t3,?_⟩
  have e2:=abK s0 s1 x
  show gG (gT 2 (fV (gN 2) (fV (gN 3) lH))) rK (.tup [fT x,fT x]::nR (l.map fT) (l.map fT)) [s0,s1,s2,s3]=_
  generalize rK=B,fT x=T at *
  unfold gG
  simp -dsimp[e2,e]
theorem abL(l:List (Int × Int)):mW [bJ l,bJ l]=.ok (.bl true,false):=by
 obtain⟨t2,t3,e⟩:=Qc (.sh (bJ l)) (.sh (bJ l)) l .un .un
 have gl:=Qa l
 have gn:=n8 (T:=.int (l.length:Nat)) (by rw[fC]; omega)
 have ty:fU (bJ l) .list=true:=rfl
 have fz:∀s2 s3,tG (ak (aj 0) (ak (aj 1) au)) [.sh (bJ l),.sh (bJ l),s2,s3]=.ok (nR (l.map fT) (l.map fT),[.sh (bJ l),.sh (bJ l),s2,s3]):=λ_ _=>rfl
 show aN 4 (aJ (bF (cR (cF (cB (d7 .list (aj 0)))) (aR (ao bB (bC (g1 bM) (ak (aj 0) au)) (bC (g1 bM) (ak (aj 1) au))))) (aL (eC (.bl false))) bD) (aJ (eE (jD (tG (ak (aj 0) (ak (aj 1) au))) (gT 2 (fV (gN 2) (fV (gN 3) lH))) rK)) (aL (eC (.bl true))))) _=_
 generalize bB=N,bM=L,tG _=I,rK=B,bJ l=T,nR (l.map fT) (l.map fT)=Z at *
 simp -dsimp[aN,aV,bW,dr,drs,eB,fM,bh,g1,gl,gn,ty,fz,e]
theorem abM(a b:Nat):aK (.int a) (.int b)=.ok (.bl (a == b),false):=by
 show Rs.ok (Tr.bl ((a:Int) == (b:Int)),false)=_
 congr 3
 rw[Bool.eq_iff_iff,beq_iff_eq,beq_iff_eq]
 omega
theorem Qd(a b:Str):aK (.str a) (.str b)=.ok (.bl (a == b),false):=by
 unfold aK
 rw[if_pos ⟨by rw[dG]; omega,by rw[dG]; omega⟩]
 rfl
theorem abN{ws:List (Int × Int)}(hw:∀w∈ws,Rd w)(hl:ws.length<=60000)(n:Nat):yF [bJ ws,.int n]=.ok (.bl (ws.length == n),false):=by
 have e1:=abv (r:=fT) (xs:=ws) (ρ:=[.sh (bJ ws),.sh (.int n)]) (rest:=[]) (i:=jP (aj 0)) (fe:=Gx) (by omega) rfl rfl (λs'=>rfl) (λs'=>rfl) (λw hw'=>⟨false,by
  obtain⟨h0,h1,h2⟩:=hw w hw'
  have e:=O4 (fT w)
  have hf:zu (fT w)=true:=by
   show(decide (1<=w.2)&&(Int.gcd w.1 w.2 == 1))=true
   rw[decide_eq_true h1,h2]
   rfl
  rw[hf]at e
  unfold Gx
  dsimp only[cW,List.map]
  have g0:aB (fT w) (.int 0)=.ok (.int w.1,false):=rfl
  generalize fT w=T at *
  simp -dsimp[drs,dr,aW,e,bh,g0,gZ,gB,h0]⟩)
 have el:=Qa ws
 have ei:d7 .list (aj 0) [.sh (bJ ws),.sh (.int n)]=.ok (.v (.bl true) false,[.sh (bJ ws),.sh (.int n)]):=by
  simp[bJ,fU,dr,eB]
 have en:=abJ ws.length n
 show aN 2 (aJ (bF (cR (cF (cB (d7 .list (aj 0)))) (aR (ao bB (bC (g1 bM) (ak (aj 0) au)) (aj 1)))) (aL (eC (.bl false))) bD) (aL (bC (g1 ji) (ak (jl [none] (jP (aj 0)) (gN 0) jm Gx) au)))) [bJ ws,.int n]=_
 generalize bC (g1 ji) _=G at e1 ⊢
 generalize d7 _ _=G2 at ei ⊢
 generalize bM=L,bB=NE,(n:Int)=M,((ws.length:Nat):Int)=N,(ws.length == n)=b,bJ ws=T at *
 unfold aN
 cases b <;> simp -dsimp[aV,e1,ei,dr,drs,g1,el,en,bh,fM]
theorem GC(n:Int){T:Tr}(hT:T=.tup [.str "least"]∨T=.tup [.str "greatest"]∨T=.tup [.str "product"]):fB [T,.int n]=.ok (.bl true,false):=by
 have e:=abw hT
 have e1:fU T .tuple=true:=by rcases hT with rfl|rfl|rfl <;> rfl
 have e2:bM T=.ok (.int 1,false):=by rcases hT with rfl|rfl|rfl <;> rfl
 have e3:bB (.int 1) (.int 2)=.ok (.bl true,false):=rfl
 unfold fB vB aN
 simp -dsimp[aV,eB,e1,e2,e3,e,dr,drs,g1,bh,dB]
theorem abO{ws:List (Int × Int)}(hw:∀w∈ws,Rd w)(hl:ws.length<=60000)(n:Nat):fB [.tup [.str "shares",bJ ws],.int n]=.ok (.bl (ws.length == n),false):=by
 have e:=abN hw hl n
 have e2:∀N:Tr,bM (.tup [.str "shares",N])=.ok (.int 2,false):=λ_=>rfl
 have e3:bB (.int 2) (.int 2)=.ok (.bl false,false):=rfl
 have e4:=sEq "shares"
 unfold fB vB aN
 generalize (n:Int)=N,(ws.length == n)=b,bJ ws=T at *
 simp -dsimp[aV,eB,fU,e2,e3,e4,e,aW,dr,drs,g1,bh,dB]
theorem abP(k n:Nat):fB [.tup [.str "middle",.int k],.int n]=.ok (.bl (decide (1<=k)&&decide (k<=n)),false):=by
 have e2:∀N:Tr,bM (.tup [.str "middle",N])=.ok (.int 2,false):=λ_=>rfl
 have e3:bB (.int 2) (.int 2)=.ok (.bl false,false):=rfl
 have e4:aK (.str "middle") (.str "shares")=.ok (.bl false,false):=sNe (by decide +kernel)
 have e5:=sEq "middle"
 have e6:=OJ (.int k)
 have l1:lD (.int 1) (.int k)=.ok (.bl (decide (1<=k)),false):=by
  show Rs.ok (Tr.bl (decide ((1:Int)<=k)),false)=_
  congr 3
  rw[Bool.eq_iff_iff,decide_eq_true_eq,decide_eq_true_eq]
  omega
 have l2:lD (.int k) (.int n)=.ok (.bl (decide (k<=n)),false):=by
  show Rs.ok (Tr.bl (decide ((k:Int)<=n)),false)=_
  congr 3
  rw[Bool.eq_iff_iff,decide_eq_true_eq,decide_eq_true_eq]
  omega
 unfold fB vB aN
 generalize lD=LE,(n:Int)=N,(k:Int)=K,decide (k<=n)=b,decide (1<=k)=a at *
 cases a <;> simp -dsimp[aV,eB,fU,e2,e3,e4,e5,e6,isW,aW,dr,drs,g1,bh,dB,l1,l2]
def bare(w:Str):Bool:=(w == "least") || (w == "greatest") || (w == "product")
theorem Qe(w v:Str):aK (.lst [.str w]) (.lst [.str v])=.ok (.bl (w == v),false):=by
 unfold aK
 rw[if_pos ⟨by rw[rF,iy,dG,jH]; decide,by rw[rF,iy,dG,jH]; decide⟩]
 show Rs.ok (Tr.bl ((w == v)&&true),false)=_
 rw[Bool.and_true]
def Qf:List Str->Bool
 | [w]=>bare w
 |_=>false
theorem abQ(ws:List Str):dR id (.tup (ws.map .str)) (.tup [(.tup [(.str "least")]),(.tup [(.str "greatest")]),(.tup [(.str "product")])])=.ok (.bl (Qf ws),false):=by
 have d:deps (ws.map Tr.str)=0:=by
  induction ws with
  |nil=>exact jH
  |cons w r ih=>rw[List.map_cons,iy,dG,ih]; rfl
 unfold dR
 dsimp only
 rw[if_pos ⟨by decide +kernel,by rw[lN,d]; decide⟩]
 congr 3
 unfold sH
 match ws with
 | []=>rfl
 | [w] =>
  have c:∀a:Str,eqT (.tup [.str a]) (.tup ([w].map .str))=(a == w):=λa=>by
   show((a == w)&&true)=_
   rw[Bool.and_true]
  show id (eqT (.tup [.str "least"]) (.tup ([w].map .str)) || (eqT (.tup [.str "greatest"]) (.tup ([w].map .str)) || (eqT (.tup [.str "product"]) (.tup ([w].map .str)) || false)))=bare w
  rw[c,c,c]
  unfold bare
  have s:∀a b:Str,(a == b)=(b == a):=λa b=>Bool.eq_iff_iff.mpr (by rw[beq_iff_eq,beq_iff_eq]; exact eq_comm)
  rw[s "least",s "greatest",s "product"]
  simp[Bool.or_assoc]
 |w::v::r =>
  have c:∀a:Str,eqT (.tup [.str a]) (.tup ((w::v::r).map .str))=false:=λa=>by
   show((a == w)&&false)=_
   rw[Bool.and_false]
  show id (eqT (.tup [.str "least"]) (.tup ((w::v::r).map .str)) || (eqT (.tup [.str "greatest"]) (.tup ((w::v::r).map .str)) || (eqT (.tup [.str "product"]) (.tup ((w::v::r).map .str)) || false)))=false
  rw[c,c,c]
  rfl
def pP:BF:=cR (cF (cB (d7 .tuple (aj 0)))) (cR (aR (ao bB (bC (g1 bM) (ak (aj 0) au)) (bC (g1 bM) (ak (aj 1) au)))) (aR (ao bB (ao aB (aj 0) (eC (.int 0))) (ao aB (aj 1) (eC (.int 0))))))
theorem GD{T N:Tr}{w:Str}(ht:fU T .tuple=true)(hl:bM T=.ok (N,false))(hN:bB N N=.ok (.bl false,false))(h0:aB T (.int 0)=.ok (.str w,false)):pP [.sh T,.sh T]=.ok (false,[.sh T,.sh T]):=by
 have hw:=n8 (T:=.str w) (by rw[dG]; omega)
 unfold pP
 generalize bM=G,bB=E,aB=I at *
 simp -dsimp[dr,drs,g1,bh,eB,fM,ht,hl,hN,h0,hw]
theorem abR(ws:List (Int × Int)):iQ [.tup [.str "shares",bJ ws],.tup [.str "shares",bJ ws]]=.ok (.bl true,false):=by
 have e1:=GD (T:=.tup [.str "shares",bJ ws]) (N:=.int 2) (w := "shares") rfl rfl rfl rfl
 have e2:=sEq "shares"
 have e3:=abL ws
 have i0:aB (.tup [.str "shares",bJ ws]) (.int 0)=.ok (.str "shares",false):=rfl
 have i1:aB (.tup [.str "shares",bJ ws]) (.int 1)=.ok (bJ ws,false):=rfl
 show aN 2 (aJ (bF pP (aL (eC (.bl false))) bD) (aJ (bF (aR (ao aK (ao aB (aj 1) (eC (.int 0))) (eC (.str "shares")))) (aL (aU mW (ak (ao aB (aj 0) (eC (.int 1))) (ak (ao aB (aj 1) (eC (.int 1))) au)))) bD) (aL (sS (ao bB (ao aB (aj 1) (eC (.int 0))) (eC (.str "middle"))) (g8 (aU jr (ak (ao aB (aj 0) (eC (.int 1))) au)) (ao aK (ao aB (aj 0) (eC (.int 1))) (ao aB (aj 1) (eC (.int 1))))))))) _=_
 generalize mW=F,aK=E,aB=I,pP=C,Tr.str "shares" = W,bJ ws=R,Tr.tup [.str "shares",bJ ws]=T at *
 simp -dsimp[aN,aV,dr,drs,bh,aW,e1,e2,e3,i0,i1]
theorem abS(k:Int):iQ [.tup [.str "middle",.int k],.tup [.str "middle",.int k]]=.ok (.bl true,false):=by
 have e1:=GD (T:=.tup [.str "middle",.int k]) (N:=.int 2) (w := "middle") rfl rfl rfl rfl
 have e2:aK (.str "middle") (.str "shares")=.ok (.bl false,false):=sNe (by decide +kernel)
 have e3:=n8 (T:=.str "middle") (by rw[dG]; omega)
 have e4:=Gs (.int k)
 have e5:=zx (T:=.int k) (by rw[fC]; omega)
 have i0:aB (.tup [.str "middle",.int k]) (.int 0)=.ok (.str "middle",false):=rfl
 have i1:aB (.tup [.str "middle",.int k]) (.int 1)=.ok (.int k,false):=rfl
 show aN 2 (aJ (bF pP (aL (eC (.bl false))) bD) (aJ (bF (aR (ao aK (ao aB (aj 1) (eC (.int 0))) (eC (.str "shares")))) (aL (aU mW (ak (ao aB (aj 0) (eC (.int 1))) (ak (ao aB (aj 1) (eC (.int 1))) au)))) bD) (aL (sS (ao bB (ao aB (aj 1) (eC (.int 0))) (eC (.str "middle"))) (g8 (aU jr (ak (ao aB (aj 0) (eC (.int 1))) au)) (ao aK (ao aB (aj 0) (eC (.int 1))) (ao aB (aj 1) (eC (.int 1))))))))) _=_
 generalize jr=H,mW=F,bB=N,aK=E,aB=I,pP=C,Tr.str "shares" = V,Tr.str "middle" = W,Tr.tup [.str "middle",.int k]=T at *
 simp -dsimp[aN,aV,dr,drs,bh,aW,e1,e2,e3,e4,e5,isW,i0,i1]
theorem rM{w:Str}(h:bare w=true):w = "least" ∨ w = "greatest" ∨ w = "product" := by
 unfold bare at h
 rw[Bool.or_eq_true,Bool.or_eq_true,beq_iff_eq,beq_iff_eq,beq_iff_eq]at h
 rcases h with(h|h)|h
 ·exact .inl h
 ·exact .inr (.inl h)
 ·exact .inr (.inr h)
theorem GJ{w:Str}(h:bare w=true):iQ [.tup [.str w],.tup [.str w]]=.ok (.bl true,false):=by
 have e1:=GD (T:=.tup [.str w]) (N:=.int 1) (w:=w) rfl rfl rfl rfl
 have e2:aK (.str w) (.str "shares")=.ok (.bl false,false):=sNe (by rcases rM h with rfl|rfl|rfl <;> decide +kernel)
 have e3:bB (.str w) (.str "middle")=.ok (.bl true,false):=by
  have q:(w == "middle")=false:=by rcases rM h with rfl|rfl|rfl <;> decide +kernel
  unfold bB
  rw[if_pos ⟨by rw[dG]; omega,by rw[dG]; omega⟩,rG,q]
  rfl
 have i0:aB (.tup [.str w]) (.int 0)=.ok (.str w,false):=rfl
 show aN 2 (aJ (bF pP (aL (eC (.bl false))) bD) (aJ (bF (aR (ao aK (ao aB (aj 1) (eC (.int 0))) (eC (.str "shares")))) (aL (aU mW (ak (ao aB (aj 0) (eC (.int 1))) (ak (ao aB (aj 1) (eC (.int 1))) au)))) bD) (aL (sS (ao bB (ao aB (aj 1) (eC (.int 0))) (eC (.str "middle"))) (g8 (aU jr (ak (ao aB (aj 0) (eC (.int 1))) au)) (ao aK (ao aB (aj 0) (eC (.int 1))) (ao aB (aj 1) (eC (.int 1))))))))) _=_
 generalize jr=H,mW=F,bB=N,aK=E,aB=I,pP=C,Tr.str "shares" = V,Tr.str "middle" = W,Tr.tup [.str w]=T at *
 simp -dsimp[aN,aV,dr,drs,bh,eB,aW,e1,e2,e3,i0]
theorem Qg:("shares " : Str) = "shares" ++ " " := by decide +kernel
theorem GK:("middle " : Str) = "middle" ++ " " := by decide +kernel
theorem abT{ws:List (Int × Int)}{n:Int}(hr:fB [.tup [.str "shares",bJ ws],.int n]=.ok (.bl true,false)) (hw:∀x∈ws,Rb x) (hl:ws.length≤1000):fL [.tup [.str "shares",bJ ws],.int n]=.ok (.str ("shares " ++ rS ws),false):=by
 have e2:=sEq "shares"
 have e3:=abI hw hl
 have ln:=P0 hw
 have lc:("shares " : Str).length<=7:=by decide +kernel
 have i0:aB (.tup [.str "shares",bJ ws]) (.int 0)=.ok (.str "shares",false):=rfl
 have i1:aB (.tup [.str "shares",bJ ws]) (.int 1)=.ok (bJ ws,false):=rfl
 have f:jq (.str (rS ws))=.ok (.str (rS ws),false):=if_pos (by omega)
 have q1:(Str.empty ++ "shares " : Str).length<=100000:=by rw[empty_app]; omega
 rw[empty_app]at q1
 have q2:("shares " ++ rS ws:Str).length<=100000:=by rw[len_app]; omega
 unfold fL yS
 generalize jq=G,aK=E,aB=I,vL=SF,fB=IR,Tr.str "shares" = W,("shares " : Str)=S0,rS ws=S,bJ ws=R,Tr.tup [.str "shares",bJ ws]=T at *
 simp -dsimp[aN,aV,dr,drs,bh,aW,fM,hr,e2,e3,i0,i1,f,empty_app,q1,q2]
theorem abU{k:Nat}{n:Int}(hr:fB [.tup [.str "middle",.int k],.int n]=.ok (.bl true,false)) (hk:k<10 ^ 40):fL [.tup [.str "middle",.int k],.int n]=.ok (.str ("middle " ++ nS k),false):=by
 have e1:aK (.str "middle") (.str "shares")=.ok (.bl false,false):=sNe (by decide +kernel)
 have e2:=sEq "middle"
 have ln:=lQ (p:=k) (by omega) (by omega)
 have f:=Gy (p:=k) (by omega) (by omega)
 have lc:("middle " : Str).length<=7:=by decide +kernel
 have i0:aB (.tup [.str "middle",.int k]) (.int 0)=.ok (.str "middle",false):=rfl
 have i1:aB (.tup [.str "middle",.int k]) (.int 1)=.ok (.int k,false):=rfl
 have q1:(Str.empty ++ "middle " : Str).length<=100000:=by rw[empty_app]; omega
 rw[empty_app]at q1
 have q2:("middle " ++ nS k:Str).length<=100000:=by rw[len_app]; omega
 unfold fL yS
 generalize jq=G,aK=E,aB=I,fB=IR,Tr.str "shares" = W2,Tr.str "middle" = W,("middle " : Str)=S0,nS k=S,Tr.tup [.str "middle",.int k]=T at *
 simp -dsimp[aN,aV,dr,drs,bh,aW,fM,hr,e1,e2,i0,i1,f,empty_app,q1,q2]
theorem GQ{w:Str}{n:Int}(h:bare w=true)(hr:fB [.tup [.str w],.int n]=.ok (.bl true,false)):fL [.tup [.str w],.int n]=.ok (.str w,false):=by
 have e1:aK (.str w) (.str "shares")=.ok (.bl false,false):=sNe (by rcases rM h with rfl|rfl|rfl <;> decide +kernel)
 have e2:aK (.str w) (.str "middle")=.ok (.bl false,false):=sNe (by rcases rM h with rfl|rfl|rfl <;> decide +kernel)
 have i0:aB (.tup [.str w]) (.int 0)=.ok (.str w,false):=rfl
 unfold fL yS
 generalize aK=E,aB=I,fB=IR,Tr.str "shares" = W2,Tr.str "middle" = W,Tr.tup [.str w]=T at *
 simp -dsimp[aN,aV,dr,drs,bh,aW,fM,hr,e1,e2,i0]
theorem tZ{a b:Str}(h:a.length+b.length<=100000):bR (.str a) (.str b)=.ok (.str (a++b),false):=if_pos h
theorem len1:("/" : Str).length=1∧(" " : Str).length=1∧("\n" : Str).length=1∧("" : Str).length=0:=by decide +kernel
def iT(p:Nat):List Nat:=(Nat.toDigits 10 p).map Char.toNat
theorem GR{p:Nat}(h:p<10):iT p=[p+48]:=by
 unfold iT
 rw[Nat.toDigits_of_lt_base h]
 have:∀d:Nat,d<10->(Nat.digitChar d).toNat=d+48:=by decide
 show [(Nat.digitChar p).toNat]=_
 rw[this p h]
theorem abV{p:Nat}(h:10<=p):iT p=iT (p / 10)++[p%10+48]:=by
 have e:p=10*(p / 10)+p%10:=by omega
 have a:=Nat.toDigits_append_toDigits (b:=10) (n:=p / 10) (d:=p%10) (by decide) (by omega) (by omega)
 rw[<-e]at a
 rw[<-GR (p:=p%10) (by omega)]
 unfold iT
 rw[<-List.map_append,a]
theorem Qh:∀p:Nat,(∀c∈iT p,48<=c/\c<=57)/\(1<=p->∃a r,iT p=a::r/\a≠48):=by
 intro p
 induction p using Nat.strongRecOn with
 |ind p ih =>
  by_cases h:p<10
  ·rw[GR h]
   refine⟨λc hc=>?_,λh1=>⟨_,_,rfl,by omega⟩⟩
   rw[List.mem_singleton.mp hc]
   omega
  ·obtain⟨a1,a2⟩:=ih (p / 10) (by omega)
   rw[abV (by omega)]
   refine⟨λc hc=>?_,λ_=>?_⟩
   ·rcases List.mem_append.mp hc with hc|hc
    ·exact a1 c hc
    ·rw[List.mem_singleton.mp hc]; omega
   ·obtain⟨a,r,e,n⟩:=a2 (by omega)
    exact⟨a,r++[p%10+48],by rw[e]; rfl,n⟩
theorem GX(p:Nat):(nS p).cps.toList=iT p:=W.KIN.signs_num p
theorem GZ{p:Nat}(h:p<10 ^ 40):jt (nS p).cps.toList=some p:=by
 obtain⟨a1,a2⟩:=Qh p
 have v:digitsVal (iT p)=p:=W.KIN.val_back p
 have ln:(iT p).length<=40:=by
  have:=lQ (p:=(p:Int)) (by omega) (by omega)
  rw[zA,GX]at this
  exact this
 rw[GX]
 have c:iT p≠[]/\(∀c∈iT p,kO c=true)/\(iT p).length<=40/\(iT p=[48]\/(iT p)[0]? ≠ some 48):=by
  refine⟨λz=>?_,λc hc=>?_,ln,?_⟩
  ·unfold iT at z
   exact Nat.toDigits_ne_nil (List.map_eq_nil_iff.mp z)
  ·have:=a1 c hc
   unfold kO
   rw[decide_eq_true this.1,decide_eq_true this.2]
   rfl
  ·by_cases z:p=0
   ·subst z
    exact .inl (GR (by decide))
   ·obtain⟨a,r,e,n⟩:=a2 (by omega)
    right
    rw[e]
    simpa using n
 unfold jt
 rw[if_pos c,v]
theorem vW{p:Int}(h:0<=p){c:Nat}(hc:c<48):c∉(nS p).cps.toList:=by
 obtain⟨q,rfl⟩:∃q:Nat,p=q:=⟨p.toNat,by omega⟩
 rw[GX]
 intro m
 have:=(Qh q).1 c m
 omega
def Rx(x:Int × Int):Prop:=Rb x/\Int.gcd x.1 x.2=1
theorem abW{x:Int × Int}(h:Rx x):vU (bV x).cps.toList=some x:=by
 obtain⟨⟨h1,h2,h3,h4⟩,h5⟩:=h
 obtain⟨p,q⟩:=x
 obtain⟨p,rfl⟩:∃k:Nat,p=k:=⟨p.toNat,by have:(0:Int)<=p:=h1; omega⟩
 obtain⟨q,rfl⟩:∃k:Nat,q=k:=⟨q.toNat,by have:(1:Int)<=q:=h3; omega⟩
 have h2:(p:Int)<10 ^ 40:=h2
 have h4:(q:Int)<10 ^ 40:=h4
 have h3:(1:Int)<=q:=h3
 have n1:=GZ (p:=p) (by omega)
 have n2:=GZ (p:=q) (by omega)
 have f1:=vW (p:=(p:Int)) (by omega) (c:=47) (by omega)
 have f2:=vW (p:=(q:Int)) (by omega) (c:=47) (by omega)
 unfold vU bV
 by_cases z:(q:Int)=1
 ·rw[if_pos z,tW f1]
  show lO (jt (nS p).cps.toList)=_
  rw[n1]
  show some ((p:Int),(1:Int))=some ((p:Int),(q:Int))
  rw[z]
 ·rw[if_neg z,Str.cps_append,Str.cps_append,Array.toList_append,Array.toList_append,PL]
  show Pq (spl 47 ((nS p).cps.toList++[47]++(nS q).cps.toList))=_
  rw[List.append_assoc,List.singleton_append,vQ _ f1,tW f2]
  show kW (jt (nS p).cps.toList) (jt (nS q).cps.toList)=_
  rw[n1,n2]
  show(if 2<=q/\Nat.gcd p q=1 then some ((p:Int),(q:Int))else none)=_
  have h5:Int.gcd (p:Int) (q:Int)=1:=h5
  rw[Int.gcd_natCast_natCast]at h5
  rw[if_pos ⟨by omega,h5⟩]
theorem abX{x:Int × Int}(h:Rb x){c:Nat}(hc:c<47):c∉(bV x).cps.toList:=by
 obtain⟨h1,h2,h3,h4⟩:=h
 have f1:=vW (p:=x.1) h1 (c:=c) (by omega)
 have f2:=vW (p:=x.2) (by omega) (c:=c) (by omega)
 unfold bV
 split
 ·exact f1
 ·rw[Str.cps_append,Str.cps_append,Array.toList_append,Array.toList_append,PL]
  intro m
  rcases List.mem_append.mp m with m|m
  ·rcases List.mem_append.mp m with m|m
   ·exact f1 m
   ·have:=List.mem_singleton.mp m; omega
  ·exact f2 m
theorem Qi:∀{a b:List Str},a.map (·.cps.toList)=b.map (·.cps.toList)->a=b
 | [],[],_=>rfl
 | [],_::_,h=>by cases h
 |_::_,[],h=>by cases h
 |x::a,y::b,h=>by
  rw[List.map_cons,List.map_cons,List.cons.injEq]at h
  rw[rD h.1,Qi h.2]
theorem abY{c:Nat}{ws:List Str}(hn:ws≠[])(hf:∀w∈ws,c∉w.cps.toList):Txt.split (Str.join ⟨#[c]⟩ ws) ⟨#[c]⟩=ws:=by
 apply Qi
 rw[Oz,Gj,Gi]
 ·exact λz=>hn (List.map_eq_nil_iff.mp z)
 ·intro p hp
  obtain⟨s,hs,rfl⟩:=List.mem_map.mp hp
  exact hf s hs
def G3:EF:=jl [none,some 1] (jP (aj 0)) (gN 0) jm (aU nZ (ak (aj 0) (ak (aj 1) au)))
theorem abZ{l:List (Int × Int)}(h:∀x∈l,Rx x)(hn:l≠[])(hl:l.length<=1000):qT [.lst ((l.map bV).map .str),.int 40]=.ok (bJ l,true):=by
 have e:G3 [.sh (.lst ((l.map bV).map .str)),.sh (.int 40),.un]=.ok (.v (.lst (l.map fT)) true,[.sh (.lst ((l.map bV).map .str)),.sh (.int 40),.un]):=by
  refine Gp (r:=λx=>.str (bV x)) (by omega) ?_ rfl (λ_=>rfl) (λ_=>rfl) λx hx=>⟨false,?_⟩
  ·rw[List.map_map]
   rfl
  ·have n:=abu (bV x) (by have:=vV (h x hx).1; omega)
   rw[abW (h x hx)]at n
   have n:nZ [.str (bV x),.int 40]=.ok (fT x,false):=n
   generalize fT x=T,nZ=F at *
   simp -dsimp[cW,gC,dr,drs,aW,n]
 have ni:dR id .non (.lst (l.map fT))=.ok (.bl false,false):=by
  have:=abB (l.map some)
  rw[List.map_map]at this
  have a:(l.map some).any Option.isNone=false:=by simp
  rw[a]at this
  exact this
 have tl:dB (.lst (l.map fT))=.ok true:=by
  obtain⟨x,r,rfl⟩:=List.exists_cons_of_ne_nil hn
  rfl
 show aN 3 (aJ (o8 2 G3) (aL (jY (cR (cF (cB (aj 2))) (aR (ao (dR id) (eC .non) (aj 2)))) (eC .non) (aj 2)))) _=Rs.ok (Tr.lst (l.map fT),true)
 generalize l.map fT=M,(l.map bV).map Tr.str=L,dR id=G,G3=C at *
 simp -dsimp[aN,aV,dr,bh,e,tl,ni]
theorem zE(a b:Str):(a++b).cps.toList=a.cps.toList++b.cps.toList:=by rw[Str.cps_append,Array.toList_append]
theorem ab0(a b c:Str):a++b++c=a++(b++c):=rD (by rw[zE,zE,zE,zE,List.append_assoc])
theorem ab1{x:Int × Int}(h:Rb x):qW [fT x]=.ok (.str (bV x),false):=by
 obtain⟨h1,h2,h3,h4⟩:=h
 have a1:=zB h1 h2
 have a2:=zB (p:=x.2) (by omega) h4
 have l1:=lQ h1 h2
 have l2:=lQ (p:=x.2) (by omega) h4
 have c:=len1.1
 have eq1:aK (.int x.2) (.int 1)=.ok (.bl (decide (x.2=1)),false):=rfl
 have i0:aB (fT x) (.int 0)=.ok (.int x.1,false):=rfl
 have i1:aB (fT x) (.int 1)=.ok (.int x.2,false):=rfl
 have s1:=tZ (a:=nS x.1) (b := "/") (by omega)
 have s2:=tZ (a:=nS x.1 ++ "/") (b:=nS x.2) (by rw[len_app]; omega)
 unfold qW Gd bV
 by_cases k:x.2=1
 ·rw[decide_eq_true k]at eq1
  rw[if_pos k]
  generalize aB=I,aK=E,ig=S,x.2=q,x.1=p,fT x=T,nS x.1=n1 at *
  simp -dsimp[aN,aV,dr,drs,bh,g1,eq1,i0,i1,a1]
 ·rw[decide_eq_false k]at eq1
  rw[if_neg k]
  generalize bR=A,aB=I,aK=E,ig=S,x.2=q,x.1=p,fT x=T,nS x.2=n2,nS x.1=n1,nS x.1 ++ "/" = n11,nS x.1 ++ "/" ++ nS x.2=n12 at *
  simp -dsimp[aN,aV,dr,drs,bh,g1,eq1,i0,i1,a1,a2,s1,s2]
theorem tk(n k:Int)(h:0<k)(hk:k.natAbs<2 ^ 60):∃x m,fY [.lst [.int n],.int k]=.ok ((.int x,false),[.int m])/\0<=x/\x<k :=
 ⟨_,_,abp n k h (lg hk),Gu n k h⟩
theorem lfr{x b:Int}(hx:0<=x)(hb:1<=b)(h2:b<=1000000000000)(h3:x<=1000000000000):∃y,tR [.int x,.int b]=.ok (fT y,false)/\Rx y:=by
 obtain⟨g1,g2,g3,g4,g5,g6,g7⟩:=U0 (a:=x) (b:=b) (by omega)
 have e1:x.fdiv (Int.gcd x b:Nat)=x / (Int.gcd x b:Nat):=Int.fdiv_eq_ediv_of_nonneg _ (by omega)
 have e2:b.fdiv (Int.gcd x b:Nat)=b / (Int.gcd x b:Nat):=Int.fdiv_eq_ediv_of_nonneg _ (by omega)
 refine⟨(x.fdiv (Int.gcd x b:Nat),b.fdiv (Int.gcd x b:Nat)),?_,?_⟩
 ·unfold tR Gb aN fT
  generalize hg:((Int.gcd x b:Nat):Int)=g at g1 g2
  have hs:=abo x b
  rw[hg]at hs
  have h3:¬b<0:=by omega
  have c1:nG x g=true:=O6 (M:=60) (by omega) (by omega) (by omega)
  have c2:nG b g=true:=O6 (M:=60) (by omega) (by omega) (by omega)
  simp -dsimp[bW,cY,iK,bO,con,fX,eB,bh,dB,dr,drs,cls,cN,jo,g1,g2,gI,eU,gB,aK,bB,dR,bR,eV,mq,dM,jM,dw,cJ,gq,lD,gZ,aB,bM,mJ,fH,dZ,jB,jC,ji,fW,okR,dO,aW,others,cW,bU,dh,fK,gC,fC,zp,dG,rE,lN,rF,jH,iy,iR,zq,rG,fU,dz,fG,aV,hs,h3,c1,c2]
 ·rw[e1,e2]
  have d1:=Int.ediv_le_self (a:=b) ((Int.gcd x b:Nat):Int) (by omega)
  have d2:=Int.ediv_le_self (a:=x) ((Int.gcd x b:Nat):Int) (by omega)
  exact⟨⟨g5 hx,by show x / ((Int.gcd x b:Nat):Int)<10 ^ 40; omega,g3,by show b / ((Int.gcd x b:Nat):Int)<10 ^ 40; omega⟩,g4⟩
noncomputable def uc:SF:=aJ (bT (dW 0 fY (ak (aj 0) (ak (ao aB (iJ [.int 4,.int 13,.int 100,.int 1000000000000]) (ao dw (aj 1) (eC (.int 2)))) au))) (gN 2)) (aL (aU tR (ak (aj 2) (ak (ao bR (eC (.int 1)) (dW 0 fY (ak (aj 0) (ak (ao aB (iJ [.int 4,.int 12,.int 99,.int 999999999999]) (ao dw (aj 1) (eC (.int 2)))) au)))) au))))
theorem ab2(n w a b:Int)(ha:0<a/\a<=1000000000000)(hb:0<b/\b<=999999999999)(i1:aB (.lst [.int 4,.int 13,.int 100,.int 1000000000000]) (.int (w-2))=.ok (.int a,false))(i2:aB (.lst [.int 4,.int 12,.int 99,.int 999999999999]) (.int (w-2))=.ok (.int b,false)) :
  ∃y m ρ,uc [.rf [.int n],.sh (.int w),.un]=.ok (.rt (fT y) false,.rf [.int m]::ρ)/\Rx y:=by
 obtain⟨x,n1,e1,x0,x1⟩:=tk n a ha.1 (by omega)
 obtain⟨u,n2,e2,u0,u1⟩:=tk n1 b hb.1 (by omega)
 obtain⟨y,e3,hy⟩:=lfr (x:=x) (b:=1+u) x0 (by omega) (by omega) (by omega)
 refine⟨y,n2,[.sh (.int w),.sh (.int x)],?_,hy⟩
 unfold uc
 generalize ([.int 4,.int 12,.int 99,.int 999999999999]:List Tr)=L2',([.int 4,.int 13,.int 100,.int 1000000000000]:List Tr)=L1,fT y=Y at *
 have g1:dw (.int w) (.int 2)=.ok (.int (w-2),false):=rfl
 generalize aB=I,w-2=w2 at *
 simp -dsimp[con,drs,dr,aW,others,bO,dU,jk,g1,i1,i2,e1,e2,e3,Gq]
theorem ab3(n:Int):∃y m,mV [.lst [.int n]]=.ok ((fT y,false),[.int m])/\Rx y:=by
 obtain⟨w,n1,e1,w0,w1⟩:=tk n 6 (by omega) (by decide)
 have lt:cJ (.int w) (.int 2)=.ok (.bl (decide (w<2)),false):=rfl
 by_cases h:w<2
 ·obtain⟨y,hy,rb⟩:∃y,aB (.lst [.tup [.int 0,.int 1],.tup [.int 1,.int 1]]) (.int w)=.ok (fT y,false)/\Rx y:=by
   rcases(show w=0\/w=1 by omega)with rfl|rfl
   ·exact⟨(0,1),rfl,by unfold Rx Rb; decide⟩
   ·exact⟨(1,1),rfl,by unfold Rx Rb; decide⟩
  refine⟨y,n1,?_,rb⟩
  rw[decide_eq_true h]at lt
  show gK 3 0 (aJ (bT (dW 0 fY (ak (aj 0) (ak (eC (.int 6)) au))) (gN 1)) (aJ (bF (aR (ao cJ (aj 1) (eC (.int 2)))) (aL (ao aB (iJ [.tup [.int 0,.int 1],.tup [.int 1,.int 1]]) (aj 1))) bD) uc)) _=_
  generalize cJ=G,aB=I,uc=W,([.tup [.int 0,.int 1],.tup [.int 1,.int 1]]:List Tr)=L,fT y=Y at *
  unfold gK
  simp -dsimp[aV,con,drs,dr,aW,others,bO,bW,dU,jk,bh,e1,lt,hy]
 ·obtain⟨a,b,i1,i2,ha,hb⟩:∃a b:Int,aB (.lst [.int 4,.int 13,.int 100,.int 1000000000000]) (.int (w-2))=.ok (.int a,false)/\aB (.lst [.int 4,.int 12,.int 99,.int 999999999999]) (.int (w-2))=.ok (.int b,false)/\(0<a/\a<=1000000000000)/\(0<b/\b<=999999999999):=by
   rcases(show w=2\/w=3\/w=4\/w=5 by omega)with rfl|rfl|rfl|rfl
   ·exact⟨4,4,rfl,rfl,by omega,by omega⟩
   ·exact⟨13,12,rfl,rfl,by omega,by omega⟩
   ·exact⟨100,99,rfl,rfl,by omega,by omega⟩
   ·exact⟨1000000000000,999999999999,rfl,rfl,by omega,by omega⟩
  obtain⟨y,m,ρ,e2,rb⟩:=ab2 n1 w a b ha hb i1 i2
  refine⟨y,m,?_,rb⟩
  rw[decide_eq_false h]at lt
  show gK 3 0 (aJ (bT (dW 0 fY (ak (aj 0) (ak (eC (.int 6)) au))) (gN 1)) (aJ (bF (aR (ao cJ (aj 1) (eC (.int 2)))) (aL (ao aB (iJ [.tup [.int 0,.int 1],.tup [.int 1,.int 1]]) (aj 1))) bD) uc)) _=_
  generalize cJ=G,aB=I,uc=W,([.tup [.int 0,.int 1],.tup [.int 1,.int 1]]:List Tr)=L,fT y=Y at *
  unfold gK
  simp -dsimp[aV,con,drs,dr,aW,others,bO,bW,dU,jk,bh,e1,lt,e2]
theorem Qj:∀(us:List Tr) (s:Sl) (n:Int),∃(ws:List (Int × Int)) (s':Sl) (m:Int),nP (gN 0) jm (dW 0 mV (ak (aj 1) au)) us [s,.rf [.int n]]=.ok (ws.map fT,[s',.rf [.int m]])/\ws.length=us.length/\∀w∈ws,Rx w
 | [],s,n=>⟨[],s,n,rfl,rfl,by simp⟩
 |u::us,s,n=>by
  obtain⟨y,m1,e,p⟩:=ab3 n
  obtain⟨ws,s',m,e',hl,hp⟩:=Qj us (.sh u) m1
  refine⟨y::ws,s',m,?_,by simp[hl],λw hw=>(List.mem_cons.mp hw).elim (λz=>z▸p) (hp w)⟩
  have e1:dW 0 mV (ak (aj 1) au) [.sh u,.rf [.int n]]=.ok (.v (fT y) false,[.sh u,.rf [.int m1]]):=by
   generalize mV=W,fT y=Y at *
   simp -dsimp[con,drs,dr,aW,others,bO,dU,jk,e]
  rw[List.map_cons]
  generalize dW 0 mV (ak (aj 1) au)=G at e1 e' ⊢
  generalize fT y=Y at *
  unfold nP
  simp -dsimp[e1,cN,e']
def vX(n:Nat):Ru->Prop
 |.sh ws=>ws.length=n/\∀w∈ws,Rx w
 |.mid k=>1<=k/\k<=n
 |_=>True
def ud:EF:=jl [none,some 0] (j5 (ak (aj 1) au)) (gN 0) jm (dW 0 mV (ak (aj 1) au))
theorem ab4(n:Int)(k:Nat)(hk:k<=4)(s2:Sl):∃ws m,ud [.rf [.int n],.sh (.int k),s2]=.ok (.v (bJ ws) true,[.rf [.int m],.sh (.int k),s2])/\ws.length=k/\∀w∈ws,Rx w:=by
 obtain⟨ws,s',m,e,hl,hp⟩:=Qj (L2.upTo 0 k) .un n
 rw[u5]at hl
 refine⟨ws,m,?_,hl,hp⟩
 unfold ud bJ
 generalize dW 0 mV (ak (aj 1) au)=G at e ⊢
 have h1:(-1000000:Int)<=k:=by omega
 have h2:(k:Int)<=1000000:=by omega
 have h3:k<=100000:=by omega
 simp -dsimp[bW,cY,iK,bO,con,fX,eB,bh,dB,dr,drs,cls,cN,jo,g1,g2,gI,eU,gB,aK,bB,dR,bR,eV,mq,dM,jM,dw,cJ,gq,lD,gZ,aB,bM,mJ,fH,dZ,jB,jC,ji,fW,okR,dO,aW,others,cW,bU,dh,fK,gC,fC,zp,dG,rE,lN,rF,jH,iy,iR,zq,rG,fU,dz,fG,aV,h1,h2,h3,e,u5]
theorem ab5(n:Int){k:Nat}(h1:1<=k)(hk:k<=4):∃r m,tU [.lst [.int n],.int k]=.ok ((cD r,false),[.int m])/\vX k r:=by
 obtain⟨w,n1,e1,w0,w1⟩:=tk n 8 (by omega) (by decide)
 have m8:cJ (.int w) (.int 3)=.ok (.bl (decide (w<3)),false):=rfl
 have zF:cJ (.int w) (.int 5)=.ok (.bl (decide (w<5)),false):=rfl
 have df:dw (.int w) (.int 5)=.ok (.int (w-5),false):=rfl
 show ∃r m,gK 3 0 (aJ (bT (dW 0 fY (ak (aj 0) (ak (eC (.int 8)) au))) (gN 2)) (aJ (bF (aR (ao cJ (aj 2) (eC (.int 3)))) (aL (jA (ak (eC (.str "shares")) (ak ud au)))) bD) (aJ (bF (aR (ao cJ (aj 2) (eC (.int 5)))) (aL (jA (ak (eC (.str "middle")) (ak (ao bR (eC (.int 1)) (dW 0 fY (ak (aj 0) (ak (aj 1) au)))) au)))) bD) (aL (ao aB (iJ [.tup [.str "least"],.tup [.str "greatest"],.tup [.str "product"]]) (ao dw (aj 2) (eC (.int 5)))))))) [.lst [.int n],.int k]=.ok ((cD r,false),[.int m])/\vX k r
 by_cases h3:w<3
 ·obtain⟨ws,m,e2,a1,a2⟩:=ab4 n1 k hk (.sh (.int w))
  refine⟨.sh ws,m,?_,a1,a2⟩
  rw[decide_eq_true h3]at m8
  show _=Rs.ok ((Tr.tup [.str "shares",bJ ws],false),_)
  generalize (k:Int)=k',cJ=G,ud=S,bJ ws=R at *
  unfold gK
  simp -dsimp[aV,con,drs,dr,cls,cN,aW,others,bO,bW,dU,jk,bh,e1,m8,e2]
 ·rw[decide_eq_false h3]at m8
  by_cases h5:w<5
  ·obtain⟨y,n2,e2,y0,y1⟩:=tk n1 k (by omega) (by omega)
   obtain⟨j,hj⟩:∃j:Nat,(j:Int)=1+y:=⟨(1+y).toNat,by omega⟩
   refine⟨.mid j,n2,?_,by omega,by omega⟩
   rw[decide_eq_true h5]at zF
   show _=Rs.ok ((Tr.tup [.str "middle",.int j],false),_)
   generalize (k:Int)=k',cJ=G,ud=S at *
   unfold gK
   simp -dsimp[aV,con,drs,dr,cls,cN,aW,others,bO,bW,dU,jk,bh,e1,m8,zF,e2,Gq,hj]
  ·rw[decide_eq_false h5]at zF
   obtain⟨r,er,hr⟩:∃r,aB (.lst [.tup [.str "least"],.tup [.str "greatest"],.tup [.str "product"]]) (.int (w-5))=.ok (cD r,false)/\vX k r:=by
    rcases(show w=5\/w=6\/w=7 by omega)with rfl|rfl|rfl
    ·exact⟨.least,rfl,trivial⟩
    ·exact⟨.greatest,rfl,trivial⟩
    ·exact⟨.product,rfl,trivial⟩
   refine⟨r,n1,?_,hr⟩
   generalize (k:Int)=k',aB=I,dw=D,cJ=G,ud=S,w-5=w5,cD r=R,([.tup [.str "least"],.tup [.str "greatest"],.tup [.str "product"]]:List Tr)=L at *
   unfold gK
   simp -dsimp[aV,con,drs,dr,cls,cN,aW,others,bO,bW,dU,jk,bh,e1,m8,zF,df,er]
end K69
end
section
namespace K69
open K70 PySem L2 BH PySem.NumText
def fP:Ru->Str
 |.sh ws => "shares " ++ rS ws
 |.mid k => "middle " ++ nS k
 |.least => "least"
 |.greatest => "greatest"
 |.product => "product"
def uf:Ru->List Str
 |.sh ws => "shares" :: ws.map bV
 |.mid k=>["middle",nS k]
 |.least=>["least"]
 |.greatest=>["greatest"]
 |.product=>["product"]
def iz(n:Nat):Ru->Prop
 |.sh ws=>ws.length=n/\1<=n/\n<=4/\∀w∈ws,Rx w
 |.mid k=>1<=k/\k<=n/\n<=4
 |_=>1<=n/\n<=4
theorem ab6{r:Ru}{n:Nat}(h:iz n r):(fP r).length<=1000:=by
 cases r with
 |sh ws =>
  have l:=P0 λx hx=>(h.2.2.2 x hx).1
  have c:("shares " : Str).length<=7:=by decide +kernel
  have:=h.1
  have:=h.2.2.1
  show("shares " ++ rS ws).length<=_
  rw[len_app]; omega
 |mid k =>
  have l:=lQ (p:=(k:Int)) (by omega) (by have:=h.2.1; have:=h.2.2; omega)
  have c:("middle " : Str).length<=7:=by decide +kernel
  show("middle " ++ nS k).length<=_
  rw[len_app]; omega
 | least=>show ("least" : Str).length<=_; decide +kernel
 | greatest=>show ("greatest" : Str).length<=_; decide +kernel
 | product=>show ("product" : Str).length<=_; decide +kernel
theorem ab7{r:Ru}{n:Nat}(h:iz n r):Txt.split (fP r) " " = uf r:=by
 have s:∀{ws:List Str},ws≠[]->(∀w∈ws,32∉w.cps.toList)->Txt.split (Str.join " " ws) " " = ws:=λa b=>by
  rw[blank]
  exact abY a b
 cases r with
 |sh ws =>
  have ne:ws≠[]:=λz=>by have:=h.1; rw[z]at this; simp at this; have:=h.2.1; omega
  have e:fP (.sh ws)=Str.join " " ("shares" :: ws.map bV):=by
   obtain⟨x,l,rfl⟩:=List.exists_cons_of_ne_nil ne
   show "shares " ++ rS (x::l) = "shares" ++ " " ++ rS (x::l)
   rw[Qg]
  rw[e]
  refine s (List.cons_ne_nil _ _) λw hw=>?_
  rcases List.mem_cons.mp hw with rfl|hw
  ·decide +kernel
  ·obtain⟨x,hx,rfl⟩:=List.mem_map.mp hw
   exact abX (h.2.2.2 x hx).1 (by omega)
 |mid k =>
  have e:fP (.mid k)=Str.join " " ["middle",nS k]:=by
   show "middle " ++ nS k = "middle" ++ " " ++ nS k
   rw[GK]
  rw[e]
  refine s (List.cons_ne_nil _ _) λw hw=>?_
  rcases List.mem_cons.mp hw with rfl|hw
  ·decide +kernel
  ·rw[List.mem_singleton.mp hw]
   exact vW (by omega) (by omega)
 | least=>exact s (ws := ["least"]) (List.cons_ne_nil _ _) λw hw=>by rw[List.mem_singleton.mp hw]; decide +kernel
 | greatest=>exact s (ws := ["greatest"]) (List.cons_ne_nil _ _) λw hw=>by rw[List.mem_singleton.mp hw]; decide +kernel
 | product=>exact s (ws := ["product"]) (List.cons_ne_nil _ _) λw hw=>by rw[List.mem_singleton.mp hw]; decide +kernel
def pQ:BF:=aR (ao aK (mH (aj 0) mF (mG (eC (.int 1)))) (iJ [.str "shares"]))
def ug:BF:=qw (aR (ao aK (mH (aj 0) mF (mG (eC (.int 1)))) (iJ [.str "middle"]))) (aR (ao aK (bC (g1 bM) (ak (aj 0) au)) (eC (.int 2))))
def oh:EF:=aU qT (ak (mH (aj 0) (mG (eC (.int 1))) mF) (ak (aj 1) au))
def zG:EF:=aU iM (ak (ao aB (aj 0) (eC (.int 1))) (ak (aj 1) au))
def zH:SF:=aL (jY (aR (ao (dR id) (bC (g1 dZ) (ak (aj 0) au)) (eC (.tup [(.tup [(.str "least")]),(.tup [(.str "greatest")]),(.tup [(.str "product")])])))) (bC (g1 dZ) (ak (aj 0) au)) (eC .non))
noncomputable def uh:SF:=aJ (bF pQ (aJ (bT oh (gN 2)) (aL (jY (aR (ao (je id) (aj 2) (eC .non))) (eC .non) (jA (ak (eC (.str "shares")) (ak (aj 2) au)))))) bD) (aJ (bF ug (aJ (bT zG (gN 3)) (aL (jY (aR (ao (je id) (aj 3) (eC .non))) (eC .non) (jA (ak (eC (.str "middle")) (ak (aj 3) au)))))) bD) zH)
theorem zJ(w:Str)(ws:List Str)(τ : En):pQ (.sh (.lst ((w::ws).map .str))::τ)=.ok (w == "shares",.sh (.lst ((w::ws).map .str))::τ):=by
 have h1:lF none (some 1) (.lst ((w::ws).map .str))=.ok (.lst [.str w],true):=Py _ 1
 have h2:=Qe w "shares"
 unfold pQ
 generalize aK=E,Tr.lst ((w::ws).map .str)=T,(w == "shares")=a at *
 simp -dsimp[dr,dO,bh,h1,h2]
theorem Qk(w:Str)(ws:List Str)(τ : En):ug (.sh (.lst ((w::ws).map .str))::τ)=.ok ((w == "middle")&&((w::ws).length == 2),.sh (.lst ((w::ws).map .str))::τ):=by
 have h1:lF none (some 1) (.lst ((w::ws).map .str))=.ok (.lst [.str w],true):=Py _ 1
 have h2:=Qe w "middle"
 have h3:bM (.lst ((w::ws).map .str))=.ok (.int ((w::ws).length:Nat),false):=by
  show Rs.ok (Tr.int (((w::ws).map Tr.str).length:Nat),false)=_
  rw[List.length_map]
 have h4:aK (.int ((w::ws).length:Nat)) (.int 2)=_:=abM (w::ws).length 2
 unfold ug
 generalize bM=LL,aK=E,Tr.lst ((w::ws).map .str)=T,(((w::ws).length:Nat):Int)=N,((w::ws).length == 2)=b,(w == "middle")=a at *
 cases a <;> simp -dsimp[dr,drs,dO,g1,bh,h1,h2,h3,h4]
theorem Ql{ws:List (Int × Int)}(w:Str)(hw:∀x∈ws,Rx x)(hn:ws≠[])(hl:ws.length<=4)(s2 s3:Sl):oh [.sh (.lst ((w::ws.map bV).map .str)),.sh (.int 40),s2,s3]=.ok (.v (bJ ws) true,[.sh (.lst ((w::ws.map bV).map .str)),.sh (.int 40),s2,s3]):=by
 have h1:lF (some 1) none (.lst ((w::ws.map bV).map .str))=.ok (.lst ((ws.map bV).map .str),true):=abx _ 1
 have n:=abZ hw hn (by omega)
 unfold oh
 generalize qT=F,bJ ws=R,Tr.lst ((ws.map bV).map .str)=M,Tr.lst ((w::ws.map bV).map .str)=L at *
 simp -dsimp[dr,drs,dO,aW,h1,n]
theorem ab8{ws:List (Int × Int)}(hw:∀x∈ws,Rx x)(hn:ws≠[])(hl:ws.length<=4):pJ [.lst ((("shares" : Str)::ws.map bV).map .str),.int 40]=.ok (.tup [.str "shares",bJ ws],false):=by
 have c1:=zJ "shares" (ws.map bV) [.sh (.int 40),.un,.un]
 rw[show(("shares" : Str) == "shares")=true from beq_self_eq_true _]at c1
 have e1:=Ql "shares" hw hn hl .un .un
 have i1:je id (bJ ws) .non=.ok (.bl false,false):=rfl
 show aN 4 uh _=_
 unfold uh
 generalize je id=I,zH=T,zG=E2,oh=E1,ug=C2,pQ=C1,bJ ws=R,Tr.lst ((("shares" : Str)::ws.map bV).map .str)=L at *
 simp -dsimp[aN,aV,dr,cls,cN,bh,c1,e1,i1]
theorem ab9{k:Nat}(hk:k<=4):pJ [.lst ((["middle",nS k]:List Str).map .str),.int 40]=.ok (.tup [.str "middle",.int k],false):=by
 have c1:=zJ "middle" [nS k] [.sh (.int 40),.un,.un]
 rw[show(("middle" : Str) == "shares")=false by decide +kernel]at c1
 have c2:=Qk "middle" [nS k] [.sh (.int 40),.un,.un]
 rw[show(("middle" : Str) == "middle")=true from beq_self_eq_true _,show((("middle" : Str)::[nS k]).length == 2)=true from rfl,Bool.true_and]at c2
 have i0:aB (.lst ((["middle",nS k]:List Str).map .str)) (.int 1)=.ok (.str (nS k),false):=O7 (xs:=(["middle",nS k]:List Str).map .str) (i:=1) rfl
 have ln:=lQ (p:=(k:Int)) (by omega) (by omega)
 have n:iM [.str (nS k),.int 40]=_:=O8 (nS k) 40 (by decide) (by omega)
 rw[Pn,GZ (by omega)]at n
 have n:iM [.str (nS k),.int 40]=.ok (.int k,false):=n
 have i1:je id (.int (k:Int)) .non=.ok (.bl false,false):=rfl
 show aN 4 uh _=_
 unfold uh zG
 generalize iM=F,aB=X,je id=I,zH=T,oh=E1,ug=C2,pQ=C1,(k:Int)=k',nS k=z,Tr.lst ((["middle",nS k]:List Str).map .str)=L at *
 simp -dsimp[aN,aV,dr,drs,aW,cls,cN,bh,c1,c2,i0,n,i1]
theorem G4{w:Str}(h:bare w=true):pJ [.lst (([w]:List Str).map .str),.int 40]=.ok (.tup [.str w],false):=by
 have c1:=zJ w [] [.sh (.int 40),.un,.un]
 have s1:(w == "shares")=false:=by rcases rM h with rfl|rfl|rfl <;> decide +kernel
 rw[s1]at c1
 have c2:=Qk w [] [.sh (.int 40),.un,.un]
 have s2:((w == "middle")&&(([w]:List Str).length == 2))=false:=by rw[show(([w]:List Str).length == 2)=false from rfl,Bool.and_false]
 rw[s2]at c2
 have g:=abQ [w]
 have b:Qf [w]=true:=h
 rw[b]at g
 have gt:dZ (.lst (([w]:List Str).map .str))=.ok (.tup (([w]:List Str).map .str),false):=rfl
 show aN 4 uh _=Rs.ok (Tr.tup (([w]:List Str).map .str),false)
 unfold uh zH
 generalize dZ=G,dR id=I,zG=E2,oh=E1,ug=C2,pQ=C1,Tr.tup (([w]:List Str).map .str)=U,Tr.lst (([w]:List Str).map .str)=L at *
 simp -dsimp[aN,aV,dr,drs,g1,bh,c1,c2,g,gt]
theorem acd{r:Ru}{n:Nat}(h:iz n r):pJ [.lst ((uf r).map .str),.int 40]=.ok (cD r,false):=by
 cases r with
 |sh ws=>exact ab8 h.2.2.2 (λz=>by have:=h.1; rw[z]at this; simp at this; have:=h.2.1; omega) (by have:=h.1; have:=h.2.2.1; omega)
 |mid k=>exact ab9 (by have:=h.2.1; have:=h.2.2; omega)
 |least=>exact G4 (by decide +kernel)
 |greatest=>exact G4 (by decide +kernel)
 |product=>exact G4 (by decide +kernel)
theorem G5{r:Ru}{n:Nat}(h:iz n r):fB [cD r,.int n]=.ok (.bl true,false):=by
 cases r with
 |sh ws =>
  have:=abO (ws:=ws) (λw hw=>⟨(h.2.2.2 w hw).1.1,(h.2.2.2 w hw).1.2.2.1,(h.2.2.2 w hw).2⟩) (by have:=h.1; have:=h.2.2.1; omega) n
  rw[h.1,beq_self_eq_true]at this
  exact this
 |mid k =>
  have:=abP k n
  rw[decide_eq_true h.1,decide_eq_true h.2.1]at this
  exact this
 |least=>exact GC n (.inl rfl)
 |greatest=>exact GC n (.inr (.inl rfl))
 |product=>exact GC n (.inr (.inr rfl))
theorem Qm{r:Ru}{n:Nat}(h:iz n r):lJ (fP r) (.str " ")=.ok (.lst ((uf r).map .str),true):=by
 have l:=ab6 h
 obtain⟨h1,_,_⟩:=aby (fP r) 32 (by omega)
 rw[<-blank,ab7 h]at h1
 exact h1
theorem Qn{r:Ru}{n:Nat}(h:iz n r):kJ [.str (fP r),.int n]=.ok (cD r,false):=by
 have h1:=Qm h
 have e1:=acd h
 have e2:=PJ (fP r)
 have e3:=G5 h
 unfold kJ Od
 generalize (n:Int)=k,lJ=G,pC=N,fB=I,pJ=F,Tr.lst ((uf r).map .str)=L,cD r=R at *
 simp -dsimp[aN,aV,dr,drs,aW,fM,h1,e1,e2,e3]
end K69
end
section
namespace K69
open K70 PySem L2 BH PySem.NumText
theorem G6{r:Ru}{n:Nat}(h:iz n r):fL [cD r,.int n]=.ok (.str (fP r),false):=by
 have ir:=G5 h
 cases r with
 |sh ws=>exact abT ir (λx hx=>(h.2.2.2 x hx).1) (by have:=h.1; have:=h.2.2.1; omega)
 |mid k=>exact abU ir (by have:=h.2.1; have:=h.2.2; omega)
 |least=>exact GQ (by decide +kernel) ir
 |greatest=>exact GQ (by decide +kernel) ir
 |product=>exact GQ (by decide +kernel) ir
theorem Qo{r:Ru}:iQ [cD r,cD r]=.ok (.bl true,false):=by
 cases r with
 |sh ws=>exact abR ws
 |mid k=>exact abS k
 |least=>exact GJ (by decide +kernel)
 |greatest=>exact GJ (by decide +kernel)
 |product=>exact GJ (by decide +kernel)
def vY:SF:=bT (ao bR (ao bR (aj 1) (eC (.str " "))) (aU qW (ak (aj 2) au))) (gN 1)
def tS:List (Int × Int)->Str->Str
 | [],t=>t
 | x :: l,t=>tS l (t ++ " " ++ bV x)
theorem Qp:∀(l:List (Int × Int)) (t:Str),l≠[]->tS l t=t ++ " " ++ rS l
 | [],_,h=>absurd rfl h
 | [x],t,_=>rfl
 |x::y::r,t,_=>by
  show tS (y::r) (t ++ " " ++ bV x)=t ++ " " ++ (bV x ++ " " ++ rS (y::r))
  rw[Qp (y::r) _ (List.cons_ne_nil _ _)]
  simp only[ab0]
theorem Qq(s0:Sl):∀(ws:List (Int × Int)) (t:Str) (s2:Sl),(∀w∈ws,Rb w)->t.length+ws.length*82<=90000->∃(s':Sl),gG (gN 2) vY (ws.map fT) [s0,.sh (.str t),s2]=.ok (.nx,[s0,.sh (.str (tS ws t)),s'])
 | [],t,s2,_,_=>⟨s2,rfl⟩
 |w::ws,t,s2,hw,hl=>by
  rw[List.length_cons]at hl
  have e:=ab1 (hw w (by simp))
  have ls:=vV (hw w (by simp))
  have c:=len1.2.1
  have a1:=tZ (a:=t) (b := " ") (by omega)
  have a2:=tZ (a:=t ++ " ") (b:=bV w) (by rw[len_app]; omega)
  have q:(t ++ " " ++ bV w:Str).length=t.length+1+(bV w).length:=by rw[len_app,len_app,c]
  obtain⟨s',e'⟩:=Qq s0 ws (t ++ " " ++ bV w) (.sh (fT w)) (λv hv=>hw v (by simp[hv])) (by omega)
  refine⟨s',?_⟩
  have eb:vY [s0,.sh (.str t),.sh (fT w)]=.ok (.nx,[s0,.sh (.str (t ++ " " ++ bV w)),.sh (fT w)]):=by
   unfold vY
   generalize bR=A,qW=F,fT w=T,t ++ " " = u1,t ++ " " ++ bV w=u2 at *
   simp -dsimp[dr,drs,aW,e,a1,a2]
  rw[List.map_cons]
  exact O9 eb e'
noncomputable def um:SF:=aJ (bT (ao aB (aj 0) (eC (.int 0))) (gN 1)) (aJ (bF (aR (ao aK (ao aB (aj 0) (eC (.int 0))) (eC (.str "shares")))) (eE (jD (jP (ao aB (aj 0) (eC (.int 1)))) (gN 2) vY)) bD) (aJ (bF (aR (ao aK (ao aB (aj 0) (eC (.int 0))) (eC (.str "middle")))) (bT (ao bR (ao bR (aj 1) (eC (.str " "))) (bC (g1 ig) (ak (ao aB (aj 0) (eC (.int 1))) au))) (gN 1)) bD) (aL (aj 1))))
theorem ace{ws:List (Int × Int)}(hw:∀w∈ws,Rb w)(hn:ws≠[])(hl:ws.length<=4):jG [.tup [.str "shares",bJ ws]]=.ok (.str ("shares " ++ rS ws),false):=by
 have lc:("shares" : Str).length=6:=by decide +kernel
 obtain⟨s',e⟩:=Qq (.sh (.tup [.str "shares",bJ ws])) ws "shares" .un hw (by omega)
 rw[Qp ws _ hn,<-Qg]at e
 have e1:=sEq "shares"
 have e2:aK (.str "shares") (.str "middle")=.ok (.bl false,false):=sNe (by decide +kernel)
 have i0:aB (.tup [.str "shares",bJ ws]) (.int 0)=.ok (.str "shares",false):=rfl
 have fs:∀s1 s2,jP (ao aB (aj 0) (eC (.int 1))) [.sh (.tup [.str "shares",bJ ws]),s1,s2]=.ok (ws.map fT,[.sh (.tup [.str "shares",bJ ws]),s1,s2]):=λ_ _=>rfl
 show aN 3 um _=_
 unfold um
 generalize aB=I,aK=E,vY=B,jP _=I',("middle" : Str)=M,("shares" : Str)=S,Tr.tup [.str "shares",bJ ws]=T,ws.map fT=L,("shares " ++ rS ws:Str)=z at *
 simp -dsimp[aN,aV,dr,bW,bh,i0,e1,e2,fs,e]
theorem acf{k:Nat}(hk:k<=4):jG [.tup [.str "middle",.int k]]=.ok (.str ("middle " ++ nS k),false):=by
 have lc:("middle" : Str).length=6:=by decide +kernel
 have a1:=zB (p:=k) (by omega) (by omega)
 have l1:=lQ (p:=k) (by omega) (by omega)
 have c:=len1.2.1
 have s1:=tZ (a := "middle") (b := " ") (by omega)
 rw[<-GK]at s1
 have s2:=tZ (a := "middle ") (b:=nS k) (by rw[GK,len_app]; omega)
 have e1:=sEq "middle"
 have e2:aK (.str "middle") (.str "shares")=.ok (.bl false,false):=sNe (by decide +kernel)
 have i0:aB (.tup [.str "middle",.int k]) (.int 0)=.ok (.str "middle",false):=rfl
 have i1:aB (.tup [.str "middle",.int k]) (.int 1)=.ok (.int k,false):=rfl
 show aN 3 um _=_
 unfold um
 generalize ig=St,bR=A,aB=I,aK=E,eE _=X,("middle" : Str)=M,("shares" : Str)=S,Tr.tup [.str "middle",.int k]=T,nS k=n1,("middle " : Str)=u1,("middle " ++ nS k:Str)=u2 at *
 simp -dsimp[aN,aV,dr,drs,g1,bh,i0,i1,e1,e2,a1,s1,s2]
theorem G7{w:Str}(h:bare w=true):jG [.tup [.str w]]=.ok (.str w,false):=by
 have e1:aK (.str w) (.str "middle")=.ok (.bl false,false):=sNe (by rcases rM h with rfl|rfl|rfl <;> decide +kernel)
 have e2:aK (.str w) (.str "shares")=.ok (.bl false,false):=sNe (by rcases rM h with rfl|rfl|rfl <;> decide +kernel)
 have i0:aB (.tup [.str w]) (.int 0)=.ok (.str w,false):=rfl
 show aN 3 um _=_
 unfold um
 generalize aB=I,aK=E,eE _=X,("middle" : Str)=M,("shares" : Str)=S,Tr.tup [.str w]=T at *
 simp -dsimp[aN,aV,dr,drs,g1,bh,i0,e1,e2]
theorem iz.ne{ws:List (Int × Int)}{n:Nat}(h:iz n (.sh ws)):ws≠[]:=λz=>by
 have:=h.1
 rw[z]at this
 simp at this
 have:=h.2.1
 omega
theorem G8{r:Ru}{n:Nat}(h:iz n r):jG [cD r]=.ok (.str (fP r),false):=by
 cases r with
 |sh ws=>exact ace (λx hx=>(h.2.2.2 x hx).1) h.ne (by have:=h.1; have:=h.2.2.1; omega)
 |mid k=>exact acf (by have:=h.2.1; have:=h.2.2; omega)
 |least=>exact G7 (by decide +kernel)
 |greatest=>exact G7 (by decide +kernel)
 |product=>exact G7 (by decide +kernel)
theorem G9(r:Ru):∃w:Str,aB (cD r) (.int 0)=.ok (.str w,false)∧lM [.sh (cD r)]=(w == "shares")∧((w == "shares")=false∨∃ws,r=.sh ws):=by
 cases r with
 |sh ws=>exact⟨"shares",rfl,rfl,.inr ⟨ws,rfl⟩⟩
 |mid k=>exact⟨"middle",rfl,rfl,.inl (by decide +kernel)⟩
 |least=>exact⟨"least",rfl,rfl,.inl (by decide +kernel)⟩
 |greatest=>exact⟨"greatest",rfl,rfl,.inl (by decide +kernel)⟩
 |product=>exact⟨"product",rfl,rfl,.inl (by decide +kernel)⟩
theorem acg{r:Ru}(h:lM [.sh (cD r)]=false):qX [cD r]=.ok (cD r,false):=by
 obtain⟨w,i0,e,_⟩:=G9 r
 rw[h]at e
 have q:=Qd w "shares"
 rw[<-e]at q
 unfold qX Oo
 generalize aK=E,aB=I,cD r=R at *
 simp -dsimp[aN,aV,dr,bh,i0,q]
theorem ach(ws:List (Int × Int)):qY [cD (.sh ws)]=.ok ("shares",ws.map fT):=by
 have i0:aB (cD (.sh ws)) (.int 0)=.ok (.str "shares",false):=rfl
 have i1:aB (cD (.sh ws)) (.int 1)=.ok (.lst (ws.map fT),false):=rfl
 have gl:fH (.lst (ws.map fT))=.ok (.lst (ws.map fT),true):=rfl
 have q:=sEq "shares"
 unfold qY Oq tH tL DY
 generalize fH=G,aK=E,aB=I,("shares" : Str)=S,ws.map fT=L,cD (.sh ws)=R at *
 simp -dsimp[aV,dr,drs,g1,bh,i0,i1,gl,q]
theorem aci{ws:List (Int × Int)}{n:Nat}(h:iz n (.sh ws)):vM [.lst ((uf (.sh ws)).map .str),.int 40]=.ok ("shares",ws.map fT):=by
 have c1:=zJ "shares" (ws.map bV) [.sh (.int 40),.un,.un]
 rw[show(("shares" : Str) == "shares")=true from beq_self_eq_true _]at c1
 have e1:=Ql "shares" h.2.2.2 h.ne (by have:=h.1; have:=h.2.2.1; omega) .un .un
 have i1:je id (.lst (ws.map fT)) .non=.ok (.bl false,false):=rfl
 show tL pQ (tK (o8 2 oh) (yN "shares" 2 (aR (ao (je id) (aj 2) (eC .non))))) [.sh (.lst (((("shares" : Str))::ws.map bV).map .str)),.sh (.int 40),.un,.un]=_
 change oh _=Rs.ok (Rv.v (.lst (ws.map fT)) true,_)at e1
 unfold tL tK yN
 generalize je id=I,oh=E1,pQ=C1,("shares" : Str)=S,ws.map fT=M,Tr.lst ((("shares" : Str)::ws.map bV).map .str)=L at *
 simp -dsimp[dr,bh,c1,e1,i1]
theorem acj{ws:List (Int × Int)}{n:Nat}(h:iz n (.sh ws)):qZ [.str (fP (.sh ws)),.int n]=.ok ("shares",ws.map fT):=by
 have h1:=Qm h
 have e1:=aci h
 have e2:=PJ (fP (.sh ws))
 have e3:fB [.tup [.str "shares",.lst (ws.map fT)],.int n]=_:=G5 h
 unfold qZ Ot tH tK Ea
 generalize (n:Int)=k,lJ=G,pC=N,fB=I,vM=F,("shares" : Str)=S,ws.map fT=M,Tr.lst ((uf (.sh ws)).map .str)=L,fP (.sh ws)=z at *
 simp -dsimp[aV,bW,dr,drs,aW,fM,h1,e1,e2,e3]
end K69
end
section
namespace K69
open K70 PySem L2 BH PySem.NumText
theorem Qs(s:Sl)(l:En):lM (s::l)=lM [s]:=by
 unfold lM
 cases s <;> try rfl
 rename_i T
 cases T <;> try rfl
 rename_i ts
 cases ts <;> try rfl
 rename_i u us
 cases u <;> rfl
theorem Qt(r:Ru):dep (cD r)<=40:=by
 cases r with
 |sh ws =>
  have:=abj ws
  show dep (.tup [.str "shares",bJ ws])<=40
  rw[lN,iy,iy,jH,dG]
  omega
 |mid k =>
  show dep (.tup [.str "middle",.int k])<=40
  rw[lN,iy,iy,jH,dG,fC]
  decide
 | least=>show dep (.tup [.str "least"])<=40; rw[lN,iy,jH,dG]; decide
 | greatest=>show dep (.tup [.str "greatest"])<=40; rw[lN,iy,jH,dG]; decide
 | product=>show dep (.tup [.str "product"])<=40; rw[lN,iy,jH,dG]; decide
noncomputable def Hf:SF:=(aJ (bT (aU qX (ak (aj 0) au)) (gN 2)) (aJ (bT (aU jG (ak (aj 0) au)) (gN 3)) (aJ (bT (aU fL (ak (aj 2) (ak (aj 1) au))) (gN 4)) (aJ (bF (cR (cF (cB (d7 .str (aj 4)))) (cR (aR (ao bB (aj 4) (aj 3))) (aR (ao bB (aj 2) (aj 0))))) (aL (eC (.bl false))) bD) (aJ (bT (aU kJ (ak (aj 3) (ak (aj 1) au))) (gN 5)) (aJ (bF (cF (cB (aU iQ (ak (aj 5) (ak (aj 0) au))))) (aL (eC (.bl false))) bD) (aJ (bF (aR (ao aK (ao aB (aj 0) (eC (.int 0))) (eC (.str "shares")))) (λ_=>.bad) bD) (aL (g8 (aU iQ (ak (aU kJ (ak (aj 3) (ak (aj 1) au))) (ak (aj 0) au))) (ao aK (aU fL (ak (aj 0) (ak (aj 1) au))) (aj 3)))))))))))
noncomputable def Hg:SF:=vG qY (ak (aj 0) au) (aU jG (ak (aj 0) au)) (aU fL (ak (aj 2) (ak (aj 1) au))) (cR (cF (cB (d7 .str (aj 4)))) (cR (aR (ao bB (aj 4) (aj 3))) (aR (ao bB (aj 2) (aj 0))))) qZ (ak (aj 3) (ak (aj 1) au)) (cF (cB (aU iQ (ak (aj 5) (ak (aj 0) au))))) (aR (ao aK (ao aB (aj 0) (eC (.int 0))) (eC (.str "shares")))) (.tup [.int 7,.int 3]) (aR (ao bB (aU fL (ak (aj 2) (ak (aj 1) au))) (aU jG (ak (aj 2) au)))) (g8 (aU iQ (ak (aU kJ (ak (aj 3) (ak (aj 1) au))) (ak (aj 0) au))) (ao aK (aU fL (ak (aj 0) (ak (aj 1) au))) (aj 3)))
theorem Qu(ρ : En):yV ρ = if lM ρ = true then Hg ρ else Hf ρ := rfl
theorem acn{r:Ru}{n:Nat}(h:iz n r)(hs:lM [.sh (cD r)]=false):pK [cD r,.int n]=.ok (.bl true,false):=by
 obtain⟨w,i0,e,_⟩:=G9 r
 rw[hs]at e
 have q:=Qd w "shares"
 rw[<-e]at q
 have a1:=acg hs
 have a2:=G8 h
 have a3:=G6 h
 have a4:=Qn h
 have a5:=Qo (r:=r)
 have n1:=n8 (T:=.str (fP r)) (by rw[dG]; omega)
 have n2:=n8 (Qt r)
 have n3:=zx (T:=.str (fP r)) (by rw[dG]; omega)
 show(yV [.sh (cD r),.sh (.int n),.un,.un,.un,.un]).bind _=_
 rw[Qu,Qs,hs,if_neg (by decide)]
 show aN 6 Hf [cD r,.int n]=_
 unfold Hf
 generalize aB=I,bB=N,aK=E,iQ=f5,kJ=f4,fL=f3,jG=f2,qX=f1,(n:Int)=n',fP r=z,cD r=R at *
 simp -dsimp[aN,aV,dr,drs,aW,bh,eB,fU,fM,a1,a2,a3,a4,a5,n1,n2,n3,i0,q]
theorem aco:Rx (7,3):=by unfold Rx Rb; decide
theorem acp{ws:List (Int × Int)}{n:Nat}(h:iz n (.sh ws)):pK [cD (.sh ws),.int n]=.ok (.bl true,false):=by
 have hs:lM [.sh (cD (.sh ws))]=true:=by
  show(("shares" : Str) == "shares")=true
  exact beq_self_eq_true _
 obtain⟨x,wr,rfl⟩:=List.exists_cons_of_ne_nil h.ne
 have h':iz n (.sh ((7,3)::wr)):=by
  obtain⟨b1,b2,b3,b4⟩:=h
  refine⟨b1,b2,b3,λw m=>?_⟩
  rcases List.mem_cons.mp m with rfl|m
  ·exact aco
  ·exact b4 w (by simp[m])
 have i0:aB (cD (.sh (x::wr))) (.int 0)=.ok (.str "shares",false):=rfl
 have q:=sEq "shares"
 have a1:=ach (x::wr)
 have a2:=G8 h
 have a3:=G6 h
 have a4:=Qn h
 have a5:=Qo (r:=.sh (x::wr))
 have a6:=acj h
 have c2:=G8 h'
 have c3:=G6 h'
 have n1:=n8 (T:=.str (fP (.sh (x::wr)))) (by rw[dG]; omega)
 have n2:=n8 (Qt (.sh (x::wr)))
 have n3:=zx (T:=.str (fP (.sh (x::wr)))) (by rw[dG]; omega)
 have n4:=n8 (T:=.str (fP (.sh ((7,3)::wr)))) (by rw[dG]; omega)
 have t1:pH "shares" ((x::wr).map fT)=cD (.sh (x::wr)):=rfl
 have t2:pH "shares" (((x::wr).map fT).set 0 (.tup [.int 7,.int 3]))=cD (.sh ((7,3)::wr)):=rfl
 have ne:(x::wr).map fT≠[]:=List.cons_ne_nil _ _
 show(yV [.sh (cD (.sh (x::wr))),.sh (.int n),.un,.un,.un,.un]).bind _=_
 rw[Qu,Qs,hs,if_pos rfl]
 show aN 6 Hg [cD (.sh (x::wr)),.int n]=_
 unfold Hg
 generalize aB=I,bB=N,aK=E,qZ=f6,iQ=f5,kJ=f4,fL=f3,jG=f2,qY=f1,("shares" : Str)=S,(n:Int)=n',fP (.sh ((7,3)::wr))=z',fP (.sh (x::wr))=z,cD (.sh ((7,3)::wr))=R2,cD (.sh (x::wr))=R,(x::wr).map fT=L,Tr.tup [.int 7,.int 3]=T7 at *
 simp -dsimp[aN,aV,vG,yL,yK,qP,dr,drs,aW,bh,eB,fU,fM,a1,a2,a3,a4,a5,a6,c2,c3,n1,n2,n3,n4,t1,t2,ne,i0,q]
theorem acq{r:Ru}{n:Nat}(h:iz n r):pK [cD r,.int n]=.ok (.bl true,false):=by
 cases hs:lM [.sh (cD r)]
 ·exact acn h hs
 ·obtain⟨w,_,e,k|⟨ws,rfl⟩⟩:=G9 r
  ·rw[hs,k]at e; cases e
  ·exact acp h
end K69
end
section
namespace K69
open K70 PySem L2 BH PySem.NumText
theorem vX.x{r:Ru}{n:Nat}(h:vX n r)(h1:1<=n)(h4:n<=4):iz n r:=by
 cases r with
 |sh ws=>exact⟨h.1,h1,h4,h.2⟩
 |mid k=>exact⟨h.1,h.2,h4⟩
 |least=>exact⟨h1,h4⟩
 |greatest=>exact⟨h1,h4⟩
 |product=>exact⟨h1,h4⟩
noncomputable def uo:SF:=(aJ (o8 2 (aU qU (ak (aj 0) (ak (aj 1) au)))) (aJ (bT (ao bR (eC (.int 1)) (dW 0 fY (ak (aj 2) (ak (eC (.int 4)) au)))) (gN 3)) (bF (cF (cB (aU pK (ak (dW 0 tU (ak (aj 2) (ak (aj 3) au))) (ak (aj 3) au))))) (aL (eC (.bl false))) bD)))
theorem acr(ns:List Int)(k:Nat)(hk:k<1000)(s2 s3:Sl):∃t2 t3,uo [.sh (.lst (ns.map .int)),.sh (.int k),s2,s3]=.ok (.nx,[.sh (.lst (ns.map .int)),.sh (.int k),t2,t3]):=by
 obtain⟨n,e0⟩:=abr ns k hk
 obtain⟨x,n1,e1,x0,x1⟩:=tk n 4 (by omega) (by decide)
 obtain⟨j,hj⟩:∃j:Nat,(j:Int)=1+x:=⟨(1+x).toNat,by omega⟩
 obtain⟨r,n2,e2,hr⟩:=ab5 n1 (k:=j) (by omega) (by omega)
 have e3:=acq (hr.x (by omega) (by omega))
 refine⟨.ow [.int n2],.sh (.int j),?_⟩
 have ai:=Gq 1 x
 rw[<-hj]at ai
 unfold uo
 generalize bR=A,pK=V,tU=U,qU=P,(j:Int)=j',(k:Int)=k',cD r=R,Tr.lst (ns.map .int)=S at *
 simp -dsimp[con,drs,dr,aW,others,bO,dU,jk,fM,e0,e1,e2,e3,ai]
theorem Qv(ns:List Int):∀(us:List Tr) (s1 s2 s3:Sl),(∀u∈us,∃j:Int,u=.int j/\0<=j/\j<1000)->∃t1 t2 t3,gG (gN 1) uo us [.sh (.lst (ns.map .int)),s1,s2,s3]=.ok (.nx,[.sh (.lst (ns.map .int)),t1,t2,t3])
 | [],s1,s2,s3,_=>⟨s1,s2,s3,rfl⟩
 |u::us,s1,s2,s3,h=>by
  obtain⟨j,rfl,j0,j1⟩:=h u (by simp)
  obtain⟨k,rfl⟩:∃k:Nat,j=k:=⟨j.toNat,by omega⟩
  obtain⟨t2,t3,e⟩:=acr ns k (by omega) s2 s3
  obtain⟨r1,r2,r3,e'⟩:=Qv ns us (.sh (.int k)) t2 t3 λv hv=>h v (by simp[hv])
  exact⟨r1,r2,r3,O9 e e'⟩
theorem acs(ns:List Int)(ρ : En):∃n:Nat,n<=40/\j5 (ak (bC (g2 jC) (ak (bC (g2 jB) (ak (bC (g1 bM) (ak (aj 0) au)) (ak (eC (.int 40)) au))) (ak (eC (.int 1)) au))) au) (.sh (.lst (ns.map .int))::ρ)=.ok (L2.upTo 0 n,.sh (.lst (ns.map .int))::ρ):=by
 by_cases h:(40:Int)<ns.length
 ·exact⟨40,by omega,by simp -dsimp[bW,cY,iK,bO,con,fX,eB,bh,dB,dr,drs,cls,cN,jo,g1,g2,gI,eU,gB,aK,bR,dM,dw,cJ,gq,bM,fH,dZ,fW,okR,dO,aW,others,cW,bU,dh,fK,gC,fC,iR,jB,jC,h]⟩
 ·by_cases h':(ns.length:Int)<1
  ·exact⟨1,by omega,by simp -dsimp[bW,cY,iK,bO,con,fX,eB,bh,dB,dr,drs,cls,cN,jo,g1,g2,gI,eU,gB,aK,bR,dM,dw,cJ,gq,bM,fH,dZ,fW,okR,dO,aW,others,cW,bU,dh,fK,gC,fC,iR,jB,jC,h,h']⟩
  ·refine⟨ns.length,by omega,?_⟩
   have q1:(-1000000:Int)<=ns.length:=by omega
   have q2:(ns.length:Int)<=1000000:=by omega
   simp -dsimp[bW,cY,iK,bO,con,fX,eB,bh,dB,dr,drs,cls,cN,jo,g1,g2,gI,eU,gB,aK,bR,dM,dw,cJ,gq,bM,fH,dZ,fW,okR,dO,aW,others,cW,bU,dh,fK,gC,fC,iR,jB,jC,h,h',q1,q2]
theorem acu(ns:List Int):vN [.lst (ns.map .int)]=.ok (.bl true,false):=by
 obtain⟨n,hn',er⟩:=acs ns [.un,.un,.un]
 obtain⟨t1,t2,t3,e⟩:=Qv ns (L2.upTo 0 n) .un .un .un λu hu=>by
  obtain⟨j,rfl,h1,h2⟩:=Gw _ _ _ hu
  exact⟨j,rfl,h1,by omega⟩
 show aN 4 (aJ (eE (jD (j5 (ak (bC (g2 jC) (ak (bC (g2 jB) (ak (bC (g1 bM) (ak (aj 0) au)) (ak (eC (.int 40)) au))) (ak (eC (.int 1)) au))) au)) (gN 1) uo)) (aL (eC (.bl true)))) _=_
 have e1:eE (jD (j5 (ak (bC (g2 jC) (ak (bC (g2 jB) (ak (bC (g1 bM) (ak (aj 0) au)) (ak (eC (.int 40)) au))) (ak (eC (.int 1)) au))) au)) (gN 1) uo) [.sh (.lst (ns.map .int)),.un,.un,.un]=.ok (.nx,[.sh (.lst (ns.map .int)),t1,t2,t3]):=by
  unfold eE jD
  rw[er]
  show bW (gG (gN 1) uo (L2.upTo 0 n) _)=_
  rw[e]
  rfl
 generalize eE _=G at e1 ⊢
 unfold aN
 simp -dsimp[bW,cY,iK,bO,con,fX,eB,bh,dB,dr,drs,cls,cN,jo,g1,g2,gI,eU,gB,aK,bR,dM,dw,cJ,gq,bM,fH,dZ,fW,okR,dO,aW,others,cW,bU,dh,fK,gC,fC,iR,aV,e1]
end K69
end
section
namespace L2
open PySem PySem.Spec PyProof.Rows PySem.W
theorem acv{P:Program}{w:World}{K:FZ}{mg mb:Str->Option Value}{CX:jw}{k:Nat}{fa a:Addr}{x:Str}{sp:Sp}{s₁ : Shared}{vs:List Value}{ns:List Int}
  (KX:K.In s₁.heap) (hns:s₁.heap.Ns mainGlobals mg) (hb:s₁.heap.Ns builtinsNs mb) (hbb:∀x:Str,x ≠ "__name__" -> mb x=bootBuiltins x) (hlim:s₁.heap.NoLimit) (hg:s₁.gens = #[])
  (ha:s₁.heap.get? a=some {cls:=.type "list",data:=.seq vs.toArray }) (hi:IntsAre vs ns) (hl:ns.length<=sizeLine) (hr:dN k callerA)
  (hT:∀x∈nu,∀c b,tabIn K x=some (c,b)->CodeHd s₁.heap c b/\s₁.heap.get? b=some (tabObj #[])) (rN:noTabs K=true) (hB:vA mg s₁.heap)
  (F:∀base:Heap,K.In base->base.Ns mainGlobals mg->(∀x∈nu,∀c b,tabIn K x=some (c,b)->CodeHd base c b)->vA mg base->∃fd:FuncData,(∀(s:Shared) (u:Value),K.In s.heap->BindsTo s fd ⟨[u],[]⟩ [(x,u)])/\jK P w K mg base CX k fa fd [x] sp)
  (hsp:∀H:Hp,cX (aA K) H->jW K H a (ns.map V.int)->sp [.ref a] H (λv _=>v=.bl true) λ_ _ _=>False)
  (Hh:∀H e s',CX [] H s₁ (λ_ _ _=>False) e s'->False) :
  codeAny (model P w) callerA (.call (.ref fa) ⟨[.ref a],[]⟩) (λr s'=>r=.ok (.ret (.bool true))/\OldK s₁.heap s'.heap/\s'.os=s₁.os/\AllBare s'.gens) s₁ := by
 have rv:=JT hi
 have lenV:=hi.length
 -- from an abstract heap in which nothing but the script may be tracked
 have hT':∀b,Tb (aA K) b->∃c,CodeHd s₁.heap c b/\s₁.heap.get? b=some (tabObj #[]):=λb ⟨x,hx,c,e⟩=>⟨c,hT x hx c b (Yw e)⟩
 have core:∀H:Hp,(∀b,H b=none\/(∃o xs,H b=some (.cY o (.lst xs)))\/(H b=some (.dj #[])/\Tb (aA K) b))->cX (aA K) H->jW K H a (ns.map V.int)->dH P w H s₁.heap->(∀b,H b≠none->b=a\/Tb (aA K) b)->(H a≠none->K.lookup a=none) ->
   codeAny (model P w) callerA (.call (.ref fa) ⟨[.ref a],[]⟩) (λr s'=>r=.ok (.ret (.bool true))/\OldK s₁.heap s'.heap/\s'.os=s₁.os/\AllBare s'.gens) s₁ := by
  intro H hO hTb hS hok hA hK
  have zK:∀{b:Addr} {o:Obj},s₁.heap.get? b=some o->H b=none->(mY s₁.heap H).get? b=some o:=λe n=>Q0 e n
  have uE:∀{b:Addr} {o:Obj} {es:Array DictEntry} {ep:Nat},s₁.heap.get? b=some o->o.data=.dict es ep->H b=none:=λ{b o es ep} e d=>by
   cases q:H b with
   |none=>rfl
   |some u =>
    rcases hA b (by rw[q]; simp)with e'|e'
    ·subst e'
     rw[ha]at e; cases e
     have d':Data.seq vs.toArray _=Data.dict es ep:=d
     cases d'
    ·obtain⟨c,_,z⟩:=hT' b e'
     rw[z]at e; cases e
     cases d
  have zL:∀{b:Addr} {m:Str->Option Value},s₁.heap.Ns b m->(mY s₁.heap H).Ns b m:=λ{b m} ⟨o,es,ep,e,d,r⟩=>⟨o,es,ep,zK e (uE e d),d,r⟩
  have Qw:K.In (mY s₁.heap H):=λb o e=>zK (KX b o e) (by
   cases q:H b with
   |none=>rfl
   |some u =>
    rcases hA b (by rw[q]; simp)with e'|e'
    ·subst e'
     rw[hK (by rw[q]; simp)]at e; cases e
    ·obtain⟨c,_,z⟩:=hT' b e'
     have z2:=KX b o e
     rw[z]at z2
     cases z2
     have h2:=List.all_eq_true.mp rN (b,_) (mem_of_lookupK e)
     exact absurd (show false=true from h2) Bool.false_ne_true)
  have hM:Mod K mg (mY s₁.heap H):=⟨Qw,zL hns,⟨mb,zL hb,hbb⟩,let⟨mc,h1,h2⟩:=hlim; ⟨mc,zL h1,h2⟩⟩
  have e0:wR P w K mg (mY s₁.heap H) callerA [] s₁ H:=⟨rfl,hM,λb o e=>Q5 e,Nat.le_of_eq (QZ _ _),trivial,λb hb=>absurd (show b∈([]:List Addr)from hb) (by simp),hok,.of_eq hg⟩
  have free:∀{b:Addr} {o:Obj},s₁.heap.get? b=some o->o.cls ≠ .none->(∀its n,o.data ≠ .seq its n)->H b=none:=λ{b o} e n1 n2=>by
   cases q:H b with
   |none=>rfl
   |some u =>
    rcases hA b (by rw[q]; simp)with e'|e'
    ·subst e'
     rw[ha]at e; cases e
     exact(n2 _ _ rfl).elim
    ·obtain⟨c,_,z⟩:=hT' b e'
     rw[z]at e; cases e
     exact(n1 rfl).elim
  obtain⟨fd,hbind,F1⟩:=F _ Qw (zL hns) (λx hx c b e=>by
   obtain⟨o,vs',file,tf,flags,tg,inF,text,tt,e1,r1,r2,r3⟩:=(hT x hx c b e).1
   exact⟨o,vs',file,tf,flags,tg,inF,text,tt,zK e1 (free e1 (by rw[r1]; intro z; cases z) (λ_ _ z=>by rw[r2]at z; cases z)),r1,r2,r3⟩) (by
   obtain⟨bm,ob,b1,b2,b3,b4,b5,b6,b7⟩:=hB
   exact⟨bm,ob,b1,b2,b3,zK b4 (free b4 (by rw[b5]; intro z; cases z) (λ_ _ z=>by rw[b7]at z; cases z)),b5,b6,b7⟩)
  refine codeAny_mono (F1.run callerA [] s₁ H ⟨[.ref a],[]⟩ [.ref a] [.ref a] _ _ hr e0 (hbind s₁ (.ref a) KX) (.cons rfl .nil) (hsp H hTb hS)) λr s' h=>?_
  cases r with
  |error e=>exact(Hh H e s' h).elim
  |ok fl =>
   cases fl with
   |next=>exact False.elim h
   |brk=>exact False.elim h
   |cont=>exact False.elim h
   |ret u =>
    obtain⟨v,H',os,bare,un,hok',r',q⟩:=h
    have q':v=.bl true:=q
    subst q'
    obtain rfl:u=Value.bool true:=r'
    refine⟨rfl,⟨λb o e=>?_,λb o e=>un.there b o e (by simp)⟩,os,bare⟩
    cases q:H b with
    |none=>exact .inl (un.keep b o e q (by intro z; exact absurd (show b∈([]:List Addr)from z) (by simp)) (by simp))
    |some u =>
     rcases hO b with z|⟨ob,xs,z⟩|⟨z,zt⟩
     ·rw[q]at z; cases z
     ·have z2:=un.kY b ob _ z
      obtain⟨e1,_⟩:=hok b _ z
      obtain⟨e2,_⟩:=hok' b _ z2
      rw[e]at e1; cases e1
      exact .inl e2
     ·obtain⟨more,z2⟩:=un.kZ b _ z
      have e1:s₁.heap.get? b=some (tabObj #[]):=hok b _ z
      have e2:s'.heap.get? b=some (tabObj (#[]++more)):=hok' b _ z2
      rw[e]at e1; cases e1
      obtain⟨c,hc,_⟩:=hT' b zt
      exact .inr (.inl ⟨(hc.tab e).isCodeTable,rfl,#[],more,rfl,e2⟩)
 classical
 have Qx:∀H:Hp,(∀b,Tb (aA K) b->H b=some (.dj #[]))->cX (aA K) H:=λH h x hx c b e=>⟨#[],h b ⟨x,hx,c,e⟩,trivial,λpos v z=>by cases z⟩
 have Qy:¬Tb (aA K) a:=λz=>by
  obtain⟨c,_,e⟩:=hT' a z
  rw[ha]at e
  cases e
 cases hk:K.lookup a with
 |some o =>
  have e:=KX a o hk
  rw[ha]at e
  cases e
  refine core (λb=>if Tb (aA K) b then some (.dj #[])else none) (λb=>?_) (Qx _ λb z=>if_pos z) (.inr ⟨vs.toArray,_,hk,by rw[List.size_toArray,lenV]; exact hl,by simpa using rv⟩) (λb u z=>?_) (λb z=>?_) λz=>?_
  ·by_cases q:Tb (aA K) b
   ·exact .inr (.inr ⟨if_pos q,q⟩)
   ·exact .inl (if_neg q)
  ·by_cases q:Tb (aA K) b
   ·have z':=(if_pos q).symm.trans z
    cases z'
    obtain⟨c,_,e⟩:=hT' b q
    exact e
   ·have z':=(if_neg q).symm.trans z
    cases z'
  ·by_cases q:Tb (aA K) b
   ·exact .inr q
   ·exact absurd (if_neg q) z
  ·exact absurd (if_neg Qy) z
 |none =>
  refine core (λb=>if b=a then some (.cY {cls:=.type "list",data:=.seq vs.toArray } (.lst (ns.map V.int)))else if Tb (aA K) b then some (.dj #[])else none) (λb=>?_) (Qx _ λb z=>by
   have nb:¬b=a:=λq=>Qy (by rw[<-q]; exact z)
   exact(if_neg nb).trans (if_pos z)) (.inl (.inr ⟨{cls:=.type "list",data:=.seq vs.toArray },if_pos rfl⟩)) (λb u z=>?_) (λb z=>?_) λ_=>hk
  ·by_cases hb:b=a
   ·exact .inr (.inl ⟨_,_,if_pos hb⟩)
   ·by_cases q:Tb (aA K) b
    ·exact .inr (.inr ⟨(if_neg hb).trans (if_pos q),q⟩)
    ·exact .inl ((if_neg hb).trans (if_neg q))
  ·by_cases hb:b=a
   ·have z':=(if_pos hb).symm.trans z
    cases z'
    subst hb
    exact⟨ha,by rw[List.length_map]; exact hl,vs,_,rv,ha⟩
   ·have z':=(if_neg hb).symm.trans z
    by_cases q:Tb (aA K) b
    ·have z':=(if_pos q).symm.trans z'
     cases z'
     obtain⟨c,_,e⟩:=hT' b q
     exact e
    ·have z':=(if_neg q).symm.trans z'
     cases z'
  ·by_cases hb:b=a
   ·exact .inl hb
   ·by_cases q:Tb (aA K) b
    ·exact .inr q
    ·exact absurd ((if_neg hb).trans (if_neg q)) z
theorem acw{l:PySem.W.OpenLaw}{n k:Nat}{q:Program}{loose:List Str}{XP:(Str->Option Value)->Heap->Prop}{YP:World->Heap->Prop}{d:DefRec}{K:Params->FZ}{CX:World->jw}{sp:World->Sp}{x:Str}
  (hn:l.most=some n) (hn2:n<=sizeLine) (hdf:d.params.defaults=[]) (hr:dN k callerA)
  (vZ:∀x∈nu,((recsOf q).find? (λe=>e.name == x)).isSome=true\/∀w:World,nsIn (K w.params) mainGlobals x=some none) (rN:∀w:World,noTabs (K w.params)=true)
  (hY:∀(w:World) (h:Heap),YP w h->(K w.params).In h)
  (F:∀(w:World) (mg:Str->Option Value) (fa:Addr) (h:Heap),(K w.params).In h->h.Ns mainGlobals mg->mg d.name=some (.ref fa) ->
   ∀base:Heap,(K w.params).In base->base.Ns mainGlobals mg->(∀x∈nu,∀c b,tabIn (K w.params) x=some (c,b)->CodeHd base c b)->vA mg base->∃fd:FuncData,(∀(s:Shared) (u:Value),(K w.params).In s.heap->BindsTo s fd ⟨[u],[]⟩ [(x,u)])/\jK l.prog w (K w.params) mg base (CX w) k fa fd [x] (sp w))
  (hsp:∀(w:World) (H:Hp) (a:Addr) (ns:List Int),ns.length<=n->cX (aA (K w.params)) H->jW (K w.params) H a (ns.map V.int)->sp w [.ref a] H (λv _=>v=.bl true) λ_ _ _=>False)
  (Hh:∀(w:World) (H:Hp) (s:Shared) (e:Value) (s':Shared),CX w [] H s (λ_ _ _=>False) e s'->False) :
  PySem.W.WalkO q loose XP YP l.row.toRowW d [] (λf vs=>PySem.call f vs):=by
 refine JR.TQ hn hdf λw s₀ s₁ mg mb fa o pm cd doc a vs ns G Y ho hd hcd hmg hobj hints hlen hg=>?_
 have KX:=hY w _ Y
 have hT:∀x∈nu,∀c b,tabIn (K w.params) x=some (c,b)->CodeHd s₁.heap c b/\s₁.heap.get? b=some (tabObj #[]):=λx hx c b e=>by
  rcases vZ x hx with z|z
  ·obtain⟨d,z⟩:=Option.isSome_iff_exists.mp z
   exact tab_of G.T KX z e
  ·rw[Yx (z w)]at e; cases e
 have hB:vA mg s₁.heap:=by
  obtain⟨bm,ob,b1,b2,b3,b4,b5,b6⟩:=G.T.bmain
  refine⟨bm,ob,b1,b2,λz=>?_,b3,b4,b5,b6⟩
  obtain⟨o,es,ep,e,hd,_⟩:=G.T.g
  rw[z,e]at b3; cases b3
  rw[hd]at b6; cases b6
 exact acv KX G.T.g G.T.b G.T.builtins G.T.nolimit hg hobj hints (Nat.le_trans hlen hn2) hr hT (rN w) hB (F w mg fa _ KX G.T.g hmg) (λH hO hS=>hsp w H a ns hlen hO hS) λH e s'=>Hh w H s₁ e s'
end L2
end
section
namespace K69
open PySem L2 BH PySem.W
section
variable {K:Frag}{mg:Str->Option Value}{h:Heap}
theorem acy{x:Str}{st:Stmt}(X:K.In h)(G:h.Ns mainGlobals mg){f:Addr}{od an:Option Addr}{sl:Array (Option Value)}{oc kV dc pm cd ct:Value}
  (a:nsIn K mainGlobals x=some (some (.ref f))) (l:K.lookup f=some ⟨oc,od,.func (fnOf x x (m7 st) (jy st) (bL st) .none kV dc pm an cd ct),sl⟩) (c:codeIn K cd x=true) (k:keepIn K (.ref f)=true):At K mg x st :=
 ⟨f,_,TV (st:=st) l c k,mg_of X G a⟩
theorem acz{x:Str}{i:Int}{tk:Tok}(X:K.In h)(G:h.Ns mainGlobals mg)(a:nsIn K mainGlobals x=some (some (.int i tk))):Gk K mg x (.int i) (.int i):=⟨.int i tk,mg_of X G a,by first|exact rfl|exact⟨_,rfl⟩,λ_=>.int i⟩
theorem zM{H:Hp}{a:Addr}{od:Option Addr}{its:Array Value}{n:Nat}{sl:Array (Option Value)}{xs:List V}{vs:List Value}{ts:List Tr}(l:K.lookup a=some ⟨.type "tuple",od,.seq its n,sl⟩) (e:its.toList=vs) (hl:vs.length<=1000) (r:Vals xs vs) (rr:aF (aA K) H xs ts):Rep (aA K) H (.ref a) (.tup ts):=by
 refine .tup (xs:=xs) (.inr ⟨_,its,n,Vi l rfl,rfl,rfl,?_,by rw[e]; exact r⟩) rr
 rw[<-Array.length_toList,e]
 exact Nat.le_of_lt (Ba hl)
theorem acA(X:K.In h)(G:h.Ns mainGlobals mg){a r1 r2 r3:Addr}{od o1 o2 o3:Option Addr}{its i1 i2 i3:Array Value}{n n1 n2 n3:Nat}{sl Ka sl2 Bx:Array (Option Value)}{t1 t2 t3:Tok}
  (m:nsIn K mainGlobals "BARE_RULES" = some (some (.ref a))) (l:K.lookup a=some ⟨.type "tuple",od,.seq its n,sl⟩) (e:its.toList=[.ref r1,.ref r2,.ref r3])
  (l1:K.lookup r1=some ⟨.type "tuple",o1,.seq i1 n1,Ka⟩) (e1:i1.toList=[.str "least" t1]) (l2:K.lookup r2=some ⟨.type "tuple",o2,.seq i2 n2,sl2⟩) (e2:i2.toList=[.str "greatest" t2]) (l3:K.lookup r3=some ⟨.type "tuple",o3,.seq i3 n3,Bx⟩) (e3:i3.toList=[.str "product" t3]):Gk K mg "BARE_RULES" (.ref a) (.tup [(.tup [(.str "least")]),(.tup [(.str "greatest")]),(.tup [(.str "product")])]):=by
 refine⟨_,mg_of X G m,rfl,λH=>zM (xs:=[.ref r1,.ref r2,.ref r3]) l e (Nat.le_of_ble_eq_true rfl) (.cons rfl (.cons rfl (.cons rfl .nil))) ?_⟩
 exact .cons (zM (xs:=[.str "least"]) l1 e1 (Nat.le_of_ble_eq_true rfl) (.cons ⟨_,rfl⟩ .nil) (.cons (.str _) .nil)) (.cons (zM (xs:=[.str "greatest"]) l2 e2 (Nat.le_of_ble_eq_true rfl) (.cons ⟨_,rfl⟩ .nil) (.cons (.str _) .nil)) (.cons (zM (xs:=[.str "product"]) l3 e3 (Nat.le_of_ble_eq_true rfl) (.cons ⟨_,rfl⟩ .nil) (.cons (.str _) .nil)) .nil))
theorem acB(H:Hp):aC (λ_=>False) H=H:=by
 funext b
 exact cQ (λz=>z)
theorem Qz{K:Frag}{H:Hp}:∀ns:List Int,aF K H (ns.map V.int) (ns.map Tr.int)
 | []=>.nil
 |n::ns=>.cons (.int n) (Qz ns)
def zN(K:Frag)(n:Nat)(F:FP):Sp:=λvs H Q E=>∃Z ts,vs.length=n/\aF (aA K) (aC Z H) vs ts/\(∀b,Z b->Lt H b)/\cX (aA K) H/\∃p,F ts=.ok p/\∀v H',gH (aA K) H H'->pq (aA K) Z H H' v p.1 p.2->Q v H'
theorem acC{K:Frag}{cl:Str->Addr}{n:Nat}{F:FP}(vs:List V)(H:Hp)(Q:VK)(E:XK)(h:zN K n F vs H Q E):bx K cl n F vs H Q E:=by
 obtain⟨Z,ts,h1,h2,h3,h4,p,h5,h6⟩:=h
 refine⟨Z,ts,h1,h2,h3,h4,?_⟩
 rw[h5]
 exact h6
theorem acD(X:K.In h)(G:h.Ns mainGlobals mg)(z0:nsIn K mainGlobals "abs" = some none) (z1:nsIn K mainGlobals "all" = some none) (z2:nsIn K mainGlobals "bool" = some none) (z3:nsIn K mainGlobals "int" = some none) (z4:nsIn K mainGlobals "isinstance" = some none) (z5:nsIn K mainGlobals "len" = some none) (z6:nsIn K mainGlobals "list" = some none) (z7:nsIn K mainGlobals "max" = some none) (z8:nsIn K mainGlobals "min" = some none) (z9:nsIn K mainGlobals "range" = some none) (QB:nsIn K mainGlobals "str" = some none) (QC:nsIn K mainGlobals "tuple" = some none) (QD:nsIn K mainGlobals "zip" = some none):Nm mg :=
 ⟨mg_none_of X G z0,mg_none_of X G z1,mg_none_of X G z2,mg_none_of X G z3,mg_none_of X G z4,mg_none_of X G z5,mg_none_of X G z6,mg_none_of X G z7,mg_none_of X G z8,mg_none_of X G z9,mg_none_of X G QB,mg_none_of X G QC,mg_none_of X G QD⟩
end
section
variable {P:Program}{w:World}{K:Frag}{mg:Str->Option Value}{base:Heap}
theorem acE(M:Nm mg){Hi:Addr}(zm:PyProof.Rows.OwnCls "NoRule" Hi vp "ValueError.__new__" mg base) {Hj:Addr} (rC:PyProof.Rows.OwnCls "NoText" Hj vp "ValueError.__new__" mg base) (XT:jT K) (acF:At K mg "is_whole" Ek) (acG:At K mg "common_divisor" El) (acH:At K mg "is_fraction" Em) (acI:At K mg "are_weights" yO) (acJ:At K mg "is_rule" Eo) (acK:At K mg "shown_fraction" Ep) (acL:At K mg "shown_fractions" yP) (acM:At K mg "shown_rule" Er) (acN:At K mg "whole_from" Es) (acO:At K mg "fraction_from" Et) (acP:At K mg "fractions_from" yQ) (acQ:At K mg "rule_from" Eu) (acR:At K mg "need_text" Ew) (acS:At K mg "read_rule" Ey) (acT:At K mg "_law_mixed" Ez) (acU:At K mg "_law_pile" EY) (acV:At K mg "_law_take" Fb) (acW:At K mg "_law_shared" Fd) (acX:At K mg "_law_frac" Fe) (acY:At K mg "_law_whole" Fg) (acZ:At K mg "_law_weight" Fi) (ac0:At K mg "_law_rule" yR) (ac1:At K mg "_law_frac_text" Fj) (ac2:At K mg "_law_rule_text" Fo) (ac3:At K mg "_law_fracs" Fp) (ac4:At K mg "_law_same_rule" Ft) (ac5:At K mg "_law_copied" Fv) (ac6:At K mg "_law_good" Fw) (ac7:At K mg "law" Fx) {vO:V} (rm:Gk K mg "BARE_RULES" vO (.tup [(.tup [(.str "least")]),(.tup [(.str "greatest")]),(.tup [(.str "product")])])) {Gg:V} (vP:Gk K mg "MOST_FIGURES" Gg (.int 40)):aX P w K mg base 8 "law" (["_law_script"]:List Str) (zN K 1 vN):=by
 obtain⟨cl,ac8,ac9⟩:∃cl:Str→Addr,cl "NoRule" = Hi∧cl "NoText" = Hj:=⟨λx=>if x=("NoRule" : Str)then Hi else if x=("NoText" : Str)then Hj else 0,if_pos rfl,(if_neg (by decide +kernel)).trans (if_pos rfl)⟩
 rw[<-ac8]at zm
 rw[<-ac9]at rC
 have QG:=aaO (P:=P) (w:=w) (base:=base) (cl:=cl) acF M XT
 have ada:=aaG (P:=P) (w:=w) (base:=base) (cl:=cl) acG M
 have QH:=aaK (P:=P) (w:=w) (base:=base) (cl:=cl) acH M XT QG ada
 have adb:=aaF (P:=P) (w:=w) (base:=base) (cl:=cl) acI M XT QH
 have QJ:=aaM (P:=P) (w:=w) (base:=base) (cl:=cl) acJ M rm XT adb QG
 have ade:=aaZ (P:=P) (w:=w) (base:=base) (cl:=cl) acK M
 have adf:=aa0 (P:=P) (w:=w) (base:=base) (cl:=cl) acL M ade
 have adg:=aa2 (P:=P) (w:=w) (base:=base) (cl:=cl) acM M zm QJ adf
 have QK:=aa4 (P:=P) (w:=w) (base:=base) (cl:=cl) acN M
 have adh:=aaH (P:=P) (w:=w) (base:=base) (cl:=cl) acO M QK QH
 have adi:=aaI (P:=P) (w:=w) (base:=base) (cl:=cl) acP M adh
 have adk:=aaX (P:=P) (w:=w) (base:=base) (cl:=cl) acQ M rm adi QK
 have adl:=aaT (P:=P) (w:=w) (base:=base) (cl:=cl) acR M rC XT
 have adn:=aaU (P:=P) (w:=w) (base:=base) (cl:=cl) acS M vP rC adl adk QJ
 have ado:=aar (P:=P) (w:=w) (base:=base) (cl:=cl) acT M
 have adp:=aas (P:=P) (w:=w) (base:=base) (cl:=cl) acU M ado
 have Hl:=aaB (P:=P) (w:=w) (base:=base) acV M
 have adq:=aaA (P:=P) (w:=w) (base:=base) (cl:=cl) acW M
 have adt:=aal (P:=P) (w:=w) (base:=base) (cl:=cl) acX M adq
 have QL:=aaE (P:=P) (w:=w) (base:=base) (cl:=cl) acY M XT
 have adu:=aaC (P:=P) (w:=w) (base:=base) (cl:=cl) acZ M Hl adt
 have adv:=aau (P:=P) (w:=w) (base:=base) ac0 M Hl adu
 have adw:=aan (P:=P) (w:=w) (base:=base) (cl:=cl) ac1 M
 have adx:=aaw (P:=P) (w:=w) (base:=base) (cl:=cl) ac2 M adw
 have ady:=aao (P:=P) (w:=w) (base:=base) (cl:=cl) ac3 M XT QL
 have adz:=aay (P:=P) (w:=w) (base:=base) (cl:=cl) ac4 M XT ady QL
 have adA:=aak (P:=P) (w:=w) (base:=base) (cl:=cl) ac5 M
 have adB:=aap (P:=P) (w:=w) (base:=base) (cl:=cl) ac6 M XT adA adx adg adn adz
 have adC:=aaP (P:=P) (w:=w) (base:=base) (cl:=cl) ac7 M adp Hl adB adv
 obtain⟨f,fd,h1,h2⟩:=adC
 exact⟨f,fd,h1.imp acC,h2⟩
end
theorem walk{l:OpenLaw}{q:Program}{loose:List Str}{XP:(Str->Option Value)->Heap->Prop}{YP:World->Heap->Prop}{d:DefRec}{K:Params->Frag}(hn:l.most=some 63)(hdf:d.params.defaults=[])(hd:d.name = "law")
  (vZ:∀x∈nu,((PyProof.Rows.recsOf q).find? (λe=>e.name == x)).isSome=true\/∀w:World,nsIn (K w.params) mainGlobals x=some none) (rN:∀w:World,noTabs (K w.params)=true)
  (hY:∀(w:World) (h:Heap),YP w h->(K w.params).In h)
  (F:∀(w:World) (mg:Str->Option Value) (h:Heap),(K w.params).In h->h.Ns mainGlobals mg->∀base:Heap,(K w.params).In base->base.Ns mainGlobals mg->(∀x∈nu,∀c b,tabIn (K w.params) x=some (c,b)->CodeHd base c b)->vA mg base->aX l.prog w (K w.params) mg base 8 "law" (["_law_script"]:List Str) (zN (K w.params) 1 vN)) :
  WalkO q loose XP YP l.row.toRowW d [] (λf vs=>PySem.call f vs) :=
 L2.acw (n:=63) (k:=8) (x := "_law_script") (CX:=λw=>iH l.prog w) (sp:=λw=>zN (K w.params) 1 vN) hn (by decide) hdf ⟨rfl,by decide,by decide,rfl⟩ vZ rN hY
  (λw mg fa h KX G hm base kb gb hc bm=>by
   obtain⟨f,fd,h1,h2,_,h4⟩:=F w mg h KX G base kb gb hc bm
   rw[hd]at hm
   cases h4.symm.trans hm
   exact⟨fd,λs u ks=>h2 s [u] ks rfl,h1⟩)
  (λw H a ns hl hTb hS=>⟨λ_=>False,[.lst (ns.map .int)],rfl,.cons (.lst ((acB H).symm▸hS.toN) (Qz ns)) .nil,λb z=>z.elim,hTb,_,acu ns,λv H' _ r=>by
   cases r
   rfl⟩)
  λw H s e s' h=>by
   obtain⟨_,_,_,_,_,_,z,_⟩:=h
   exact z
end K69
end
section
namespace PySem.W.Fast
end PySem.W.Fast
namespace PySem.W.Fast
end PySem.W.Fast
namespace PySem.W.Fast
theorem tw10568159384768141871:True:=⟨⟩
theorem tw10865138156042376806:True:=⟨⟩
theorem tw10957353417308318913:True:=⟨⟩
theorem tw11100899864187044223:True:=⟨⟩
theorem tw1121716970631364978:True:=⟨⟩
theorem tw11333233434568062774:True:=⟨⟩
theorem tw11675497591811556957:True:=⟨⟩
theorem tw11783116572529397202:True:=⟨⟩
theorem tw11842238661678173741:True:=⟨⟩
theorem tw12434094644258986027:True:=⟨⟩
theorem tw12617529467179206410:True:=⟨⟩
theorem tw12837267157223775557:True:=⟨⟩
theorem tw1297544862707749899:True:=⟨⟩
theorem tw13248282566357507306:True:=⟨⟩
theorem tw13701727598775777012:True:=⟨⟩
theorem tw13856529634152292133:True:=⟨⟩
theorem tw14082326857496267767:True:=⟨⟩
theorem tw14167418197670323487:True:=⟨⟩
theorem tw14225810157368862716:True:=⟨⟩
theorem tw14330976119618651022:True:=⟨⟩
theorem tw14568249222323913321:True:=⟨⟩
theorem tw14762436304485934433:True:=⟨⟩
theorem tw149313659048138056:True:=⟨⟩
theorem tw15179789049709589066:True:=⟨⟩
theorem tw15342472121721282408:True:=⟨⟩
theorem tw15356297333767149119:True:=⟨⟩
theorem tw15464940311590200599:True:=⟨⟩
theorem tw15520653529150058772:True:=⟨⟩
theorem tw15631356284634010267:True:=⟨⟩
theorem tw15850009544553958311:True:=⟨⟩
theorem tw16079849156300752344:True:=⟨⟩
theorem tw16333841706834757926:True:=⟨⟩
theorem tw16914906579520788826:True:=⟨⟩
theorem tw16996319734809272173:True:=⟨⟩
theorem tw17007176546934930308:True:=⟨⟩
theorem tw17132569548521953574:True:=⟨⟩
theorem tw17911580395820773921:True:=⟨⟩
theorem tw18261546737676252122:True:=⟨⟩
theorem tw18288156924563038743:True:=⟨⟩
theorem tw1938603459279712949:True:=⟨⟩
theorem tw1962750672348636880:True:=⟨⟩
theorem tw1966672801040102255:True:=⟨⟩
theorem tw1977887263525428385:True:=⟨⟩
theorem tw2302079248872173220:True:=⟨⟩
theorem tw2476112166346903219:True:=⟨⟩
theorem tw340668448766542919:True:=⟨⟩
theorem tw4030514500994151803:True:=⟨⟩
theorem tw4067642624173630379:True:=⟨⟩
theorem tw4284104027119975393:True:=⟨⟩
theorem tw4414901520521393272:True:=⟨⟩
theorem tw4642106342511902934:True:=⟨⟩
theorem tw5060297146037228963:True:=⟨⟩
theorem tw5146958915911784260:True:=⟨⟩
theorem tw5220375697933024726:True:=⟨⟩
theorem tw5232008946546050555:True:=⟨⟩
theorem tw5408871976666960602:True:=⟨⟩
theorem tw5484575896630383728:True:=⟨⟩
theorem tw5978823437221842674:True:=⟨⟩
theorem tw6404334958340569773:True:=⟨⟩
theorem tw6476748001975238986:True:=⟨⟩
theorem tw6528789755388703339:True:=⟨⟩
theorem tw6561769940040715692:True:=⟨⟩
theorem tw679874997677830701:True:=⟨⟩
theorem tw6974429952513791379:True:=⟨⟩
theorem tw7275533245813368809:True:=⟨⟩
theorem tw7419702427156791807:True:=⟨⟩
theorem tw7671518719048565341:True:=⟨⟩
theorem tw8025255416774733376:True:=⟨⟩
theorem tw9007413556892868136:True:=⟨⟩
theorem tw908191126374392348:True:=⟨⟩
theorem tw9156720420270992547:True:=⟨⟩
theorem tw915743111891711675:True:=⟨⟩
theorem tw9198943480628229101:True:=⟨⟩
theorem tw9672703763471273014:True:=⟨⟩
theorem tw9810784389883707390:True:=⟨⟩
theorem tw990919665089959841:True:=⟨⟩
end PySem.W.Fast
open PySem PySem.W PyProof.Rows
set_option maxRecDepth 100000 in
set_option maxHeartbeats 0 in
theorem PySem.Challenge.cw_bestheads_k69_rules_as_texts_holds : PySem.Challenge.rw_bestheads_k69_rules_as_texts.Holds := by
 w_on; o_law; k_head; (case hw=>w_witness2)
 k_fill
 refine K69.walk (l:=PySem.Challenge.rw_bestheads_k69_rules_as_texts) rfl rfl rfl ?vZ ?rN (λw h Y=>by first|exact PySem.W.km_in_of Y|exact PySem.W.kIn_of Y) ?F
 case vZ =>
  intro x hx
  rcases(List.mem_cons.mp hx)with rfl|hx
  ·exact .inr λw=>by k_is
  ·rw[List.mem_singleton.mp hx]
   exact .inr λw=>by k_is
 case rN=>intro w; kernel_rfl
 case F =>
  intro w mg h KX G base kb gb hcd hbm
  refine' K69.acE ?qM ?adD ?adE ?qXT ?qd1 ?qd2 ?qd3 ?qd4 ?qd5 ?qd6 ?qd7 ?qd8 ?qd9 ?adF ?adG ?adH ?adI ?adJ ?adK ?adL ?adM ?adN ?adO ?adP ?adQ ?adR ?adS ?adT ?adU ?adV ?adW ?adX ?adY ?adZ ?ad0
  case qM =>
   refine' K69.acD KX G ?z0 ?z1 ?z2 ?z3 ?z4 ?z5 ?z6 ?z7 ?z8 ?z9 ?QB ?QC ?QD
   all_goals k_is
  case qd1|qd2|qd3|qd4|qd5|qd6|qd7|qd8|qd9|adF|adG|adH|adI|adJ|adK|adL|adM|adN|adO|adP|adQ|adR|adS|adT|adU|adV|adW|adX|adY=>exact K69.acy KX G (by k_is) (by k_is) (by k_is) (by k_is)
  case adZ =>
   refine' K69.acA KX G ?qbm ?qbl ?qbe ?ad1 ?ad2 ?ad3 ?ad4 ?ad5 ?ad6
   (case qbm=>k_is); (case qbl=>k_is); (case qbe=>rfl); (case ad1=>k_is); (case ad2=>rfl); (case ad3=>k_is); (case ad4=>rfl); (case ad5=>k_is); (case ad6=>rfl)
  case ad0 =>
   refine' K69.acz KX G ?ad7
   (case ad7=>k_is)
  case qXT=>exact L2.jT.of (by kernel_rfl)
  case adD =>
   refine' L2.Kf kb gb ?ad8 ?ad9
   (case ad8=>k_is); (case ad9=>k_exc)
  case adE =>
   refine' L2.Kf kb gb ?aea ?aeb
   (case aea=>k_is); (case aeb=>k_exc)
#print axioms PySem.Challenge.cw_bestheads_k69_rules_as_texts_holds
end
end
