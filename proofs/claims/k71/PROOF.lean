import PyProof.Rows.All
import Wide.All
import OpenK.AllK
import Wide.FinOn
import Lean
import PyProof.EqAt
import PyProof.EqKinds
import PyProof.TupleCall
import PyProof.ReprRoads
import PyProof.ReprBulk
import PyProof.Rows.RegStrFacts
import PyProof.StrBlockH
import PyProof.FitsBits
import KE.KTurns
import PyProof.NeKinds
import KE.KNest
import KE.KSortKey
import PyProof.ListRange
import PyProof.Rows.SortWalk
import KE.KListMore
import KE.KIntText
import PyProof.StrLawsJoin
import PySem.Challenge.RW_bestheads_k71_refused_books_and_rules
noncomputable section
abbrev FZ:=PySem.W.Frag
set_option exponentiation.threshold 6000
set_option Elab.async false
set_option linter.all false
set_option maxRecDepth 100000
set_option maxHeartbeats 4000000
section
namespace L2
open PySem PySem.Spec PyProof.Rows
abbrev Key:=Sum Int Str
def J7:Key->Value->Bool
 |.inl k,v=>Value.isInt k v
 |.inr x,v=>Value.isStrOf x v
def Ua(w:World):Key->Int
 |.inl k=>hashInt k
 |.inr x=>hashStr w x
theorem pQ:∀{k:Key} {v:Value},J7 k v=true->(∃i t,k=Sum.inl i/\v=Value.int i t)\/(∃x t,k=Sum.inr x/\v=Value.str x t)
 |.inl i,v,h=>by
  obtain⟨t,e⟩:=Value.isInt_shape (k:=i) (v:=v) h
  exact .inl ⟨i,t,rfl,e⟩
 |.inr x,v,h=>by
  obtain⟨t,e⟩:=Value.isStrOf_shape (x:=x) (v:=v) h
  exact .inr ⟨x,t,rfl,e⟩
theorem Ub(a b:Int):decide ((Sum.inl a:Key)=Sum.inl b)=(a == b):=by
 by_cases e:a=b
 ·subst e; simp
 ·have h:¬(Sum.inl a:Key)=Sum.inl b:=λq=>e (Sum.inl.inj q)
  rw[decide_eq_false h]
  exact(beq_eq_false_iff_ne.mpr e).symm
theorem Uc(a b:Str):decide ((Sum.inr a:Key)=Sum.inr b)=decide (a=b):=by
 by_cases e:a=b
 ·subst e; simp
 ·have h:¬(Sum.inr a:Key)=Sum.inr b:=λq=>e (Sum.inr.inj q)
  rw[decide_eq_false h,decide_eq_false e]
theorem Ud(a:Int)(b:Str):decide ((Sum.inl a:Key)=Sum.inr b)=false:=decide_eq_false (λq=>nomatch q)
theorem Ue(a:Str)(b:Int):decide ((Sum.inr a:Key)=Sum.inl b)=false:=decide_eq_false (λq=>nomatch q)
noncomputable def CW(prog:Program)(w:World):PySem.KeyKind prog w Key where
 is:=J7
 hash:=Ua w
 inj:=λv a b ha hb=>by
  rcases pQ ha with⟨i,t,rfl,rfl⟩|⟨x,t,rfl,rfl⟩
  ·rcases pQ hb with⟨j,u,rfl,e⟩|⟨y,u,rfl,e⟩
   ·injection e with e1 _; rw[e1]
   ·exact nomatch e
  ·rcases pQ hb with⟨j,u,rfl,e⟩|⟨y,u,rfl,e⟩
   ·exact nomatch e
   ·injection e with e1 _; rw[e1]
 byValue:=λk v h=>by
  rcases pQ h with⟨i,t,rfl,rfl⟩|⟨x,t,rfl,rfl⟩ <;> rfl
 pyHash:=λhv h=>by
  rcases pQ hv with⟨i,t,rfl,rfl⟩|⟨x,t,rfl,rfl⟩
  ·exact wpAny_pyHash_int h
  ·exact wpAny_pyHash_str h
 eqBool:=λhu hv h=>by
  rcases pQ hu with⟨i,t,rfl,rfl⟩|⟨x,t,rfl,rfl⟩
  ·rcases pQ hv with⟨j,u,rfl,rfl⟩|⟨y,u,rfl,rfl⟩
   ·rw[Ub]at h; exact wpAny_eqBool_int h
   ·rw[Ud]at h; exact SeqAt.EqAt.int_str i t y u _ _ _ _ h
  ·rcases pQ hv with⟨j,u,rfl,rfl⟩|⟨y,u,rfl,rfl⟩
   ·rw[Ue]at h; exact SeqAt.EqAt.str_int x t j u _ _ _ _ h
   ·rw[Uc]at h; exact wpAny_eqBool_str h
 «strs» := λk x t v h=>by
  rcases pQ h with⟨i,u,rfl,e⟩|⟨y,u,rfl,e⟩
  ·exact nomatch e
  ·injection e with e1 _
   subst e1
   cases v <;> rfl
end L2
namespace L2
open PySem PySem.Spec PyProof.Rows
inductive V where
 |non|bl (b:Bool)|int (i:Int)|str (x:Str)|vD (b:Array UInt8)|flt (b:UInt64)|ref (a:Addr)|ty (n:String)
 deriving DecidableEq
noncomputable def RelV:V->Value->Prop
 |.non,u=>u=Value.none
 |.bl b,u=>u=Value.bool b
 |.int i,u=>∃t,u=Value.int i t
 |.str x,u=>∃t,u=Value.str x t
 |.vD b,u=>∃t,u=Value.bytes b t
 |.flt b,u=>∃t,u=Value.float b t
 |.ref a,u=>u=Value.ref a
 |.ty n,u=>u=Value.type n
abbrev Vals:List V->List Value->Prop:=Paired RelV
theorem Vals.length{xs:List V}{us:List Value}(r:Vals xs us):xs.length=us.length:=Paired.length r
theorem Vals.get:∀{xs:List V} {us:List Value} {i:Nat} {x:V},Vals xs us->xs[i]?=some x->∃u,us[i]?=some u/\RelV x u
 |_,_,_,_,.nil,e=>by simp at e
 |_,_,0,_,.cons r _,e=>by simp at e; subst e; exact⟨_,rfl,r⟩
 |_,_,i+1,x,.cons _ t,e=>by
  obtain⟨u,h1,h2⟩:=Vals.get (i:=i) (x:=x) t (by simpa using e)
  exact⟨u,by simpa using h1,h2⟩
theorem Vals.set{x:V}{u:Value}(r:RelV x u):∀{xs:List V} {us:List Value} (i:Nat),Vals xs us->Vals (xs.set i x) (us.set i u)
 |_,_,_,.nil=>.nil
 |_,_,0,.cons _ t=>.cons r t
 |_,_,i+1,.cons q t=>.cons q (Vals.set r i t)
theorem Vals.append:∀{xs ys:List V} {us ws:List Value},Vals xs us->Vals ys ws->Vals (xs++ys) (us++ws)
 |_,_,_,_,.nil,s=>s
 |_,_,_,_,.cons r t,s=>.cons r (Vals.append t s)
theorem Vals.take:∀{xs:List V} {us:List Value} (n:Nat),Vals xs us->Vals (xs.take n) (us.take n)
 |_,_,0,_=>.nil
 |_,_,_+1,.nil=>.nil
 |_,_,n+1,.cons r t=>.cons r (Vals.take n t)
theorem Vals.drop:∀{xs:List V} {us:List Value} (n:Nat),Vals xs us->Vals (xs.drop n) (us.drop n)
 |_,_,0,r=>r
 |_,_,_+1,.nil=>.nil
 |_,_,n+1,.cons _ t=>Vals.drop n t
def J8:Option V->Option Value->Prop
 |some v,some u=>RelV v u
 |none,none=>True
 |_,_=>False
def KV{κ : Type}:List (κ × V)->List (κ × Value)->Prop:=Paired λ(p : κ × V) (q : κ × Value)=>p.1=q.1/\RelV p.2 q.2
def kV:Key->V
 |.inl i=>.int i
 |.inr x=>.str x
inductive HO where
 |lst (xs:List V)
 |tup (xs:List V)
 |dK (kvs:List (Key × V))|dT (kvs:List (List Key × V))
 |set (S:Int->Bool) (n:Nat)
 |ins (C dx:Addr) (fs:List (Str × V))
 |own (x:Addr)
 |xd (fs:List (Str × V))
 |met (f x:Addr)
 |rng (lo hi:Int)
 |bB (o:Obj) (u:HO)
 |gQ (ps:Array Value)
 |ext (φ : Heap->Prop)
abbrev Hp:=Addr->Option HO
def upd(H:Hp)(a:Addr)(o:HO):Hp:=λb=>if b=a then some o else H b
theorem gk{H:Hp}{a:Addr}{o:HO}:upd H a o a=some o:=by unfold upd; rw[if_pos rfl]
theorem cL{H:Hp}{a b:Addr}{o:HO}(h:b≠a):upd H a o b=H b:=by unfold upd; rw[if_neg h]
theorem mq{H:Hp}{a b:Addr}{o:HO}(h:H a=some o)(h':H b=none):a≠b:=by
 intro e; subst e; rw[h]at h'; cases h'
section
variable (P:Program)(w:World)
noncomputable def jR(H:Hp)(h:Heap)(a:Addr):HO->Prop
 |.lst xs=>xs.length<=sizeLine/\∃(its:List Value) (n:Nat),Vals xs its/\h.get? a=some {cls:=.type "list",data:=.seq its.toArray n }
 |.tup xs=>xs.length<=sizeLine/\∃its:List Value,Vals xs its/\IsTup h a its.toArray
 |.dK kvs=>kvs.length<=sizeLine/\(a == sysModules)=false/\∃vs,KV kvs vs/\h.DictOf (CW P w) a vs
 |.dT kvs=>kvs.length<=sizeLine/\(a == sysModules)=false/\∃xs:List (List Key × Addr × Value),
   Paired (λ(p:List Key × V) (q:List Key × Addr × Value)=>p.1=q.1/\H q.2.1=some (.tup (p.1.map kV))/\RelV p.2 q.2.2) kvs xs /\
   ∃o es ep,h.get? a=some o/\o.ExactDict/\o.data=.dict es ep/\es.toList=xs.map (entryOfKey (tupleKind (CW P w)))/\(xs.map (·.1)).Nodup
 |.set S n=>h.SetOf (intKind P w) a S n
 |.ins C dx fs=>H dx=some (.own a)/\fs.length<=1000/\dx≠a/\h.get? a=some (PySem.W.instObj C dx) /\
   ∃mA,h.Ns1 dx mA/\(∀f,J8 (fs.lookup f) (mA f))/\PySem.Within mA (fs.map (·.1))
 |.own _=>∃o,h.get? a=some o
 |.xd fs=>∃mA,h.Ns1 a mA/\∀f,J8 (fs.lookup f) (mA f)
 |.rng lo hi=>∃t u v,h.get? a=some {cls:=.type "range",data:=.fields #[.int lo t,.int hi u,.int 1 v] }
 |.bB o u=>h.get? a=some o/\jR H h a u
 |.gQ ps=>h.get? a=some {cls:=.none,data:=.fields ps }
 |.met f x=>h.get? a=some (PySem.W.methodObj (.ref f) (.ref x))
 |.ext φ=>φ h/\(∃o,h.get? a=some o)/\∀h1 h2:Heap,φ h1->(∀o,h1.get? a=some o->h2.get? a=some o) -> φ h2
def gR(H:Hp)(h:Heap):Prop:=∀a o,H a=some o->jR P w H h a o
end
section
variable {P:Program}{w:World}{H H':Hp}{h h':Heap}{a:Addr}{o:HO}
theorem jR.lt(x:jR P w H h a o):a<h.objs.size:=by
 cases o with
 |lst xs=>obtain⟨_,_,_,_,e⟩:=x; exact Heap.lt_size e
 |tup xs=>obtain⟨_,_,_,p⟩:=x; exact p.lt
 |dK kvs=>obtain⟨_,_,_,_,o,_,_,e,_⟩:=x; exact Heap.lt_size e
 |dT kvs=>obtain⟨_,_,_,_,o,_,_,e,_⟩:=x; exact Heap.lt_size e
 |set S n=>obtain⟨o,_,_,_,e,_⟩:=x; exact Heap.lt_size e
 |ins C dx fs=>obtain⟨_,_,_,e,_⟩:=x; exact Heap.lt_size e
 |own y=>obtain⟨_,e⟩:=x; exact Heap.lt_size e
 |xd fs=>obtain⟨_,⟨_,_,_,e,_⟩,_⟩:=x; exact Heap.lt_size e
 |rng lo hi=>obtain⟨_,_,_,e⟩:=x; exact Heap.lt_size e
 |bB ob u=>obtain⟨e,_⟩:=x; exact Heap.lt_size e
 |gQ ps=>exact Heap.lt_size (show h.get? a=some _ from x)
 |met f y=>exact Heap.lt_size (show h.get? a=some _ from x)
 |ext φ=>obtain⟨_,⟨_,e⟩,_⟩:=x; exact Heap.lt_size e
theorem Paired.J9{α β : Type}{F G : α -> β -> Prop}:∀{l₁ : List α} {l₂ : List β},Paired F l₁ l₂ -> (∀a b,F a b->G a b)->Paired G l₁ l₂
 |_,_,.nil,_=>.nil
 |_,_,.cons r t,f=>.cons (f _ _ r) (Paired.J9 t f)
theorem jR.stay(x:jR P w H h a o)(k:∀b u,(b=a\/H b=some (.own a))->h.get? b=some u->h'.get? b=some u)
  (ho:∀b,H b=some (.own a)->H' b=some (.own a)) (ht:∀b xs,H b=some (.tup xs)->H' b=some (.tup xs)):jR P w H' h' a o:=by
 induction o with
 |lst xs=>obtain⟨z,its,n,r,e⟩:=x; exact⟨z,its,n,r,k _ _ (.inl rfl) e⟩
 |tup xs=>obtain⟨z,its,r,ob,e,c⟩:=x; exact⟨z,its,r,ob,k _ _ (.inl rfl) e,c⟩
 |dK kvs=>obtain⟨z,y,vs,r,ob,es,ep,e,c⟩:=x; exact⟨z,y,vs,r,ob,es,ep,k _ _ (.inl rfl) e,c⟩
 |dT kvs =>
  obtain⟨z,y,xs,r,ob,es,ep,e,c⟩:=x
  exact⟨z,y,xs,Paired.J9 r λp q z=>⟨z.1,ht _ _ z.2.1,z.2.2⟩,ob,es,ep,k _ _ (.inl rfl) e,c⟩
 |set S n=>obtain⟨ob,es,ep,t,e,c⟩:=x; exact⟨ob,es,ep,t,k _ _ (.inl rfl) e,c⟩
 |ins C dx fs =>
  obtain⟨d,z,ne,e,mA,⟨od,es,ep,e2,c⟩,r⟩:=x
  exact⟨ho _ d,z,ne,k _ _ (.inl rfl) e,mA,⟨od,es,ep,k _ _ (.inr d) e2,c⟩,r⟩
 |own y=>obtain⟨ob,e⟩:=x; exact⟨ob,k _ _ (.inl rfl) e⟩
 |xd fs=>obtain⟨mA,⟨od,es,ep,e,c⟩,r⟩:=x; exact⟨mA,⟨od,es,ep,k _ _ (.inl rfl) e,c⟩,r⟩
 |rng lo hi=>obtain⟨t,u,v,e⟩:=x; exact⟨t,u,v,k _ _ (.inl rfl) e⟩
 |bB ob u ih=>obtain⟨e,q⟩:=x; exact⟨k _ _ (.inl rfl) e,ih q⟩
 |gQ ps =>
  have e:h.get? a=some {cls:=.none,data:=.fields ps }:=x
  show h'.get? a=some {cls:=.none,data:=.fields ps }
  exact k a _ (.inl rfl) e
 |met f y =>
  have e:h.get? a=some (PySem.W.methodObj (.ref f) (.ref y)):=x
  show h'.get? a=some (PySem.W.methodObj (.ref f) (.ref y))
  exact k a _ (.inl rfl) e
 |ext φ=>obtain⟨p,⟨o,e⟩,st⟩:=x; exact⟨st _ _ p λo q=>k _ _ (.inl rfl) q,⟨o,k _ _ (.inl rfl) e⟩,st⟩
theorem gR.lt(x:gR P w H h)(e:H a=some o):a<h.objs.size:=(x a o e).lt
theorem gR.fresh(x:gR P w H h)(e:h.objs.size<=a):H a=none:=by
 cases q:H a with
 |none=>rfl
 |some u=>exact absurd (Nat.lt_of_lt_of_le (x.lt q) e) (Nat.lt_irrefl _)
theorem gR.kept(x:gR P w H h)(k:∀b u,h.get? b=some u->h'.get? b=some u):gR P w H h':=λa o e =>
 (x a o e).stay (λb u _ q=>k b u q) (λ_ q=>q) λ_ _ q=>q
theorem gR.laid(x:gR P w H h)(k:∀b u,h.get? b=some u->h'.get? b=some u)(hp:h.objs.size<=a)(new:jR P w (upd H a o) h' a o):gR P w (upd H a o) h':=λb u e=>by
 have hn:=x.fresh hp
 by_cases hb:b=a
 ·subst hb; rw[gk]at e; cases e; exact new
 ·rw[cL hb]at e
  exact(x b u e).stay (λc v _ q=>k c v q) (λc q=>by rw[cL (mq q hn)]; exact q) λc xs q=>by rw[cL (mq q hn)]; exact q
end
def Rd(H:Hp)(a:Addr)(u:HO):Prop:=H a=some u\/∃o,H a=some (.bB o u)
theorem Rd.ok{P:Program}{w:World}{H:Hp}{h:Heap}{a:Addr}{u:HO}(r:Rd H a u)(x:gR P w H h):jR P w H h a u:=by
 rcases r with r|⟨o,r⟩
 ·exact x a u r
 ·obtain⟨_,q⟩:=x a _ r
  exact q
def yt:Option HO->Prop
 |some (.lst _)=>True
 |some (.dK _)=>True
 |some (.dT _)=>True
 |some (.set _ _)=>True
 |some (.ins _ _ _)=>True
 |some (.ext _)=>True
 |_=>False
section
variable {P:Program}{w:World}{H:Hp}{h h':Heap}{x e:Addr}{o':HO}
theorem gR.write(ok:gR P w H h)(mu:yt (H x))(he:e=x\/H e=some (.own x))(k:∀b u,b≠e->h.get? b=some u->h'.get? b=some u)(heo:∃u,h'.get? e=some u)
  (new:jR P w (upd H x o') h' x o'):gR P w (upd H x o') h':=λb u q=>by
 have Ka:∀c y,H c=some (.own y)->c≠x:=λc y r z=>by subst z; rw[r]at mu; exact mu
 have Ug:∀c xs,H c=some (.tup xs)->c≠x:=λc xs r z=>by subst z; rw[r]at mu; exact mu
 by_cases hb:b=x
 ·subst hb; rw[gk]at q; cases q; exact new
 ·rw[cL hb]at q
  by_cases hbe:b=e
  ·have q':H b=some (.own x):=by
    rcases he with z|z
    ·exact absurd (hbe.trans z) hb
    ·rw[hbe]; exact z
   rw[q]at q'; cases q'
   obtain⟨v,hv⟩:=heo
   exact⟨v,by rw[hbe]; exact hv⟩
  ·refine(ok b u q).stay (λc v hc r=>k c v ?_ r) (λc r=>by rw[cL (Ka c b r)]; exact r) λc xs r=>by rw[cL (Ug c xs r)]; exact r
   rcases hc with rfl|hc
   ·exact hbe
   ·rintro rfl
    rcases he with z|z
    ·exact Ka c b hc z
    ·rw[hc]at z; cases z; exact hb rfl
end
structure Un(fs ex:List Addr)(H H':Hp)(h h':Heap):Prop where
 keep:∀b o,h.get? b=some o->H b=none->b∉fs->b∉ex->h'.get? b=some o
 slot:∀b o,h.get? b=some o->H b=none->b∈fs->b∉ex->∃sl,h'.get? b=some {o with slots:=sl }
 free:∀b o,h.get? b=some o->H b=none->b∉ex->H' b=none
 there:∀b o,h.get? b=some o->b∉ex->∃o',h'.get? b=some o'
 tups:∀b xs,H b=some (.tup xs)->H' b=some (.tup xs)
 lK:∀b o u,H b=some (.bB o u)->H' b=some (.bB o u)
 lM:∀b ps,H b=some (.gQ ps)->∃more,H' b=some (.gQ (ps++more))
section
variable {fs fs' ex ex':List Addr}{H H1 H2:Hp}{h h1 h2 h':Heap}{a x e:Addr}{o:HO}
theorem Un.any(u:Un fs ex H H1 h h1){b:Addr}{ob:Obj}(q:h.get? b=some ob)(n:H b=none)(hx:b∉ex):∃sl,h1.get? b=some {ob with slots:=sl }:=by
 by_cases hb:b∈fs
 ·exact u.slot b ob q n hb hx
 ·exact⟨ob.slots,u.keep b ob q n hb hx⟩
theorem Un.kept(k:∀b u,h.get? b=some u->h'.get? b=some u):Un fs ex H H h h' :=
 ⟨λb ob q _ _ _=>k b ob q,λb ob q _ _ _=>⟨ob.slots,k b ob q⟩,λ_ _ _ n _=>n,λb ob q _=>⟨ob,k b ob q⟩,λ_ _ q=>q,λ_ _ _ q=>q,λ_ ps q=>⟨#[],by rw[q]; simp⟩⟩
theorem Un.refl:Un fs ex H H h h:=Un.kept λ_ _ q=>q
theorem Un.laid(k:∀b u,h.get? b=some u->h'.get? b=some u)(hp:h.objs.size<=a)(hn:H a=none):Un fs ex H (upd H a o) h h' where
 keep:=λb u q _ _ _=>k b u q
 slot:=λb u q _ _ _=>⟨u.slots,k b u q⟩
 free:=λb u q n _=>by rw[cL (Nat.ne_of_lt (Nat.lt_of_lt_of_le (Heap.lt_size q) hp))]; exact n
 there:=λb u q _=>⟨u,k b u q⟩
 tups:=λb xs q=>by rw[cL (mq q hn)]; exact q
 lK:=λb u xs q=>by rw[cL (mq q hn)]; exact q
 lM:=λb ps q=>⟨#[],by rw[cL (mq q hn),q]; simp⟩
theorem Un.write(mu:yt (H x))(he:e=x\/H e=some (.own x))(k:∀b u,b≠e->h.get? b=some u->h'.get? b=some u)(heo:∃u,h'.get? e=some u):Un fs ex H (upd H x o) h h':=by
 have hx:∀b,H b=none->b≠x:=λb n z=>by subst z; rw[n]at mu; exact mu
 have hb:∀b,H b=none->b≠e:=λb n z=>by
  subst z
  rcases he with r|r
  ·exact hx b n r
  ·rw[n]at r; cases r
 have hm:∀b u,H b=some u->¬yt (some u)->b≠x:=λb u q nm z=>by subst z; rw[q]at mu; exact nm mu
 refine⟨λb u q n _ _=>k b u (hb b n) q,λb u q n _ _=>⟨u.slots,k b u (hb b n) q⟩,λb u q n _=>by rw[cL (hx b n)]; exact n,λb u q _=>?_,
  λb xs q=>by rw[cL (hm b _ q λz=>z)]; exact q,λb u xs q=>by rw[cL (hm b _ q λz=>z)]; exact q,λb ps q=>⟨#[],by rw[cL (hm b _ q λz=>z),q]; simp⟩⟩
 by_cases hbe:b=e
 ·subst hbe; exact heo
 ·exact⟨u,k b u hbe q⟩
end
def yu(h:Heap)(H:Hp):List Addr:=(List.range h.objs.size).filter λa=>(H a).isSome
def pR(h:Heap)(H:Hp):Heap:=PySem.W.hideAll h (yu h H)
theorem Uh(h:Heap)(H:Hp):(pR h H).objs.size=h.objs.size:=PySem.W.hideAll_size _ _
theorem Ui{h:Heap}{H:Hp}{b:Addr}{o:Obj}(e:h.get? b=some o)(n:H b=none):(pR h H).get? b=some o :=
 PySem.W.hideAll_get _ e λhm=>by
  have q:(H b).isSome=true:=(List.mem_filter.mp hm).2
  rw[n]at q; simp at q
theorem Uj{h:Heap}{H:Hp}{b:Addr}{o:Obj}(e:(pR h H).get? b=some o):h.get? b=some o/\H b=none:=by
 have e':h.get? b=some o:=PySem.W.of_hideAll (yu h H) e
 refine⟨e',?_⟩
 cases q:H b with
 |none=>rfl
 |some x =>
  have hm:b∈yu h H:=List.mem_filter.mpr ⟨List.mem_range.mpr (Heap.lt_size e'),by simp[q]⟩
  have z:(pR h H).get? b=none:=PySem.W.hideAll_none (yu h H) hm
  rw[z]at e; cases e
def Uk(g h:Heap)(L:Addr):List (Addr × Obj):=(List.range h.objs.size).filterMap λa=>if a=L\/(g.get? a).isSome=true then none else(h.get? a).map λo=>(a,o)
def rest(g h:Heap)(L d:Addr):List (Addr × Obj):=(Uk g h L).filter λp=>decide (p.1≠d)
end L2
namespace L2
open PySem PySem.Spec PyProof.Rows
structure Mod(K:FZ)(mg:Str->Option Value)(base:Heap):Prop where
 yw:K.In base
 glob:base.Ns mainGlobals mg
 blt:∃mb,base.Ns builtinsNs mb/\∀x:Str,x ≠ "__name__" -> mb x=bootBuiltins x
 nolimit:base.NoLimit
structure Cx where
 prog:Program
 w:World
 K:FZ
 mg:Str->Option Value
 base:Heap
 A:Around
 N:List Str
 s₀ : Shared
 H₀ : Hp
 env:Env
 outer:List Env
 stack:List Env
 ex:List Addr
 fn:Str->Bool
 calm:Bool
 pn:List (Addr × Obj)
 xe:Value->Shared->Prop
def frs(l:List Env):List Addr:=l.filterMap (·.frame)
abbrev Cx.fs(X:Cx):List Addr:=frs X.outer
def Kc(sc:Scope)(x:Str):Prop:=sc.names.lookup x=some .local\/sc.names.lookup x=some .cell\/sc.names.lookup x=some .free
def Loc(sc:Scope)(x:Str):Prop:=sc.names.lookup x=some .local\/sc.names.lookup x=some .cell
def Look(env:Env)(h:Heap)(m:Str->Option Value)(x:Str)(u:Value):Prop :=
 (env.kindOf x=some .local/\m x=some u)\/((env.kindOf x=some .cell\/env.kindOf x=some .free)/\∃c,env.cells.lookup x=some c/\h.IsCell c (some u))
structure Cx.Ok(X:Cx):Prop where
 mod:Mod X.K X.mg X.base
 kind:X.env.scope.kind=.function
 glob:X.env.globals=mainGlobals
 blt:X.env.builtins=builtinsNs
 above:X.s₀.heap.objs.size<=X.env.locals
 inj:∀x y c,X.env.cells.lookup x=some c->X.env.cells.lookup y=some c->x=y
 has:∀x,(X.env.kindOf x=some .cell\/X.env.kindOf x=some .free)->∃c,X.env.cells.lookup x=some c
 cab:∀x c,X.fn x=true->X.env.cells.lookup x=some c->X.s₀.heap.objs.size<=c
 hd:X.calm=true->X.A.handled=none
 frames:X.A.frames=some X.stack
 stk:X.stack=X.outer\/(X.stack=X.env::X.outer/\X.env.frame=some X.env.locals)
 CZ:∀b∈X.ex,b≠X.env.locals/\∀x c,X.env.cells.lookup x=some c->c≠b
 bs:∀b o,X.base.get? b=some o->X.s₀.heap.get? b=some o/\X.H₀ b=none
 qH:X.base.objs.size<=X.s₀.heap.objs.size
 jT:∀b o,X.base.get? b=some o->b∉X.ex
 vG:∀b∈X.ex,b∉X.fs
 mz:X.s₀.heap.FunFrames X.base X.outer
 qI:∀b∈X.fs,X.H₀ b=none
structure Inv(X:Cx)(pins:List (Addr × Obj))(σ : List (Option V))(H:Hp)(s:Shared):Prop where
 ok:X.Ok
 os:s.os=X.s₀.os
 bare:AllBare s.gens
 base:Un X.fs X.ex X.H₀ H X.s₀.heap s.heap
 loc:∃m,s.heap.Ns X.env.locals m/\∀(i:Nat) (x:Str) (v:V),X.N[i]?=some x -> σ[i]?=some (some v)->Kc X.env.scope x->∃u,RelV v u/\Look X.env s.heap m x u
 cell:∀x c,X.env.cells.lookup x=some c->∃v,s.heap.IsCell c v
 free:H X.env.locals=none
 mD:∀x c,X.env.cells.lookup x=some c->H c=none
 pin:∀p∈X.pn++pins,s.heap.get? p.1=some p.2/\H p.1=none/\p.1≠X.env.locals/\p.1∉X.fs/\∀v,p.2.data ≠ .cell v
 hok:gR X.prog X.w H s.heap
 len : σ.length=X.N.length
section
variable {X:Cx}{pins:List (Addr × Obj)}{σ : List (Option V)}{H H':Hp}{s:Shared}{h':Heap}
theorem Cx.Ok.Ul(ok:X.Ok){b:Addr}{o:Obj}(e:X.base.get? b=some o):b∉X.fs:=λhb=>by
 have:=(ok.mz.mem hb).1
 rw[e]at this; cases this
theorem Inv.bs(I:Inv X pins σ H s):∀b o,X.base.get? b=some o->s.heap.get? b=some o/\H b=none:=λb o e =>
 ⟨I.base.keep b o (I.ok.bs b o e).1 (I.ok.bs b o e).2 (I.ok.Ul e) (I.ok.jT b o e),I.base.free b o (I.ok.bs b o e).1 (I.ok.bs b o e).2 (I.ok.jT b o e)⟩
theorem Inv.bk(I:Inv X pins σ H s):∀b o,X.base.get? b=some o->s.heap.get? b=some o:=λb o e=>(I.bs b o e).1
theorem Inv.mod(I:Inv X pins σ H s):Mod X.K X.mg X.base:=I.ok.mod
theorem Inv.jA(I:Inv X pins σ H s):X.K.In s.heap:=I.ok.mod.yw.keeps I.bk
theorem Inv.lt(I:Inv X pins σ H s):X.env.locals<s.heap.objs.size:=let⟨_,hn,_⟩:=I.loc; hn.lt
theorem Inv.sz(I:Inv X pins σ H s):X.s₀.heap.objs.size<=s.heap.objs.size:=Nat.le_trans I.ok.above (Nat.le_of_lt I.lt)
theorem Inv.Um(I:Inv X pins σ H s){a:Addr}(h:s.heap.objs.size<=a):a∉X.fs:=λhb=>by
 obtain⟨_,o,ho,_⟩:=I.ok.mz.mem hb
 exact absurd (Nat.lt_of_lt_of_le (Heap.lt_size ho) (Nat.le_trans I.sz h)) (Nat.lt_irrefl _)
theorem Inv.pU(I:Inv X pins σ H s):∀x c,X.env.cells.lookup x=some c->c≠X.env.locals:=λx c e z=>by
 obtain⟨v,o,ho,hd⟩:=I.cell x c e
 obtain⟨m,⟨o',es,ep,ho',hd',_⟩,_⟩:=I.loc
 rw[z,ho']at ho; cases ho; rw[hd']at hd; cases hd
theorem Inv.mz(I:Inv X pins σ H s):s.heap.FunFrames X.base X.outer:=by
 have all:∀(l:List Env),(∀b∈frs l,b∈X.fs)->X.s₀.heap.FunFrames X.base l->s.heap.FunFrames X.base l:=by
  intro l
  induction l with
  |nil=>intro _ _; trivial
  |cons env r ih =>
   intro hs hl
   obtain⟨hk,⟨L,o,hf,hn,ho,hd⟩,hr⟩:=hl
   have hL:L∈X.fs:=hs L (by unfold frs; rw[List.filterMap_cons,hf]; exact List.mem_cons_self)
   obtain⟨sl,e⟩:=I.base.slot L o ho (I.ok.qI L hL) hL λz=>I.ok.vG L z hL
   exact⟨hk,⟨L,_,hf,hn,e,hd⟩,ih (λb hb=>hs b (by unfold frs; rw[List.filterMap_cons,hf]; exact List.mem_cons_of_mem _ hb)) hr⟩
 exact all X.outer (λ_ hb=>hb) I.ok.mz
theorem Inv.stack(I:Inv X pins σ H s):s.heap.FunFrames X.base X.stack:=by
 rcases I.ok.stk with e|⟨e,hf⟩
 ·rw[e]; exact I.mz
 ·rw[e]
  obtain⟨m,hn,_⟩:=I.loc
  refine .cons (by rw[I.ok.kind]; decide) hf hn ?_ I.mz
  exact Heap.get?_none_of_le (Nat.le_trans I.ok.qH I.ok.above)
theorem Inv.yx(I:Inv X pins σ H s):∀b∈frs X.stack,b∈X.env.locals::X.fs:=λb hb=>by
 rcases I.ok.stk with e|⟨e,hf⟩
 ·rw[e]at hb; exact List.mem_cons_of_mem _ hb
 ·rw[e]at hb
  unfold frs at hb
  rw[List.filterMap_cons,hf]at hb
  exact hb
theorem Inv.vH(I:Inv X pins σ H s):∀b∈frs X.stack,H b=none:=λb hb=>by
 rcases List.mem_cons.mp (I.yx b hb)with e|hb
 ·rw[e]; exact I.free
 ·obtain⟨_,o,ho,_⟩:=I.ok.mz.mem hb
  exact I.base.free b o ho (I.ok.qI b hb) λz=>I.ok.vG b z hb
theorem Inv.step{g':Array GenState}{t':Nat}{d':Drawn}{ch:List Addr}(I:Inv X pins σ H s)
  (hch:∀b∈ch,(b∈X.ex\/X.s₀.heap.objs.size<=b)/\b≠X.env.locals/\(∀x c,X.env.cells.lookup x=some c->c≠b)/\∀p∈X.pn++pins,p.1≠b)
  (keep:∀b o,b≠X.env.locals->b∉X.fs->b∉ch->s.heap.get? b=some o->H b=none->h'.get? b=some o)
  (slot:∀b o,b≠X.env.locals->b∈X.fs->b∉ch->s.heap.get? b=some o->H b=none->∃sl,h'.get? b=some {o with slots:=sl }) (free:∀b o,b∉ch->s.heap.get? b=some o->H b=none->H' b=none)
  (there:∀b o,b∉ch->s.heap.get? b=some o->∃o',h'.get? b=some o')
  (tups:∀b xs,H b=some (.tup xs)->H' b=some (.tup xs)) (lK:∀b o u,H b=some (.bB o u)->H' b=some (.bB o u)) (lM:∀b ps,H b=some (.gQ ps)->∃more,H' b=some (.gQ (ps++more)))
  (ns:∀m,s.heap.Ns X.env.locals m->h'.Ns X.env.locals m) (hok:gR X.prog X.w H' h') (hg:AllBare g') :
  Inv X pins σ H' {s with heap:=h',gens:=g',drawn:=d',toks:=t' }:=by
 have ur:∀b o,X.s₀.heap.get? b=some o->b≠X.env.locals:=λb o e=>Nat.ne_of_lt (Nat.lt_of_lt_of_le (Heap.lt_size e) I.ok.above)
 have yC:∀b o,X.s₀.heap.get? b=some o->b∉X.ex->b∉ch:=λb o e hx hb=>by
  rcases(hch b hb).1 with z|z
  ·exact hx z
  ·exact absurd (Nat.lt_of_lt_of_le (Heap.lt_size e) z) (Nat.lt_irrefl _)
 have cellK:∀x c,X.env.cells.lookup x=some c->∀v,s.heap.IsCell c v->h'.IsCell c v:=λx c e v ⟨o,ho,hd⟩=>by
  have vI:c∉ch:=λz=>(hch c z).2.2.1 x c e rfl
  by_cases hc:c∈X.fs
  ·obtain⟨sl,q⟩:=slot c o (I.pU x c e) hc vI ho (I.mD x c e)
   exact⟨_,q,hd⟩
  ·exact⟨o,keep c o (I.pU x c e) hc vI ho (I.mD x c e),hd⟩
 refine⟨I.ok,I.os,hg,⟨λb o e n hb hx=>?_,λb o e n hb hx=>?_,λb o e n hx=>?_,λb o e hx=>?_,λb xs e=>tups b xs (I.base.tups b xs e),λb o xs e=>lK b o xs (I.base.lK b o xs e),λb ps e=>?_⟩,?_,λx c e=>?_,?_,λx c e=>?_,λp hp=>?_,hok,I.len⟩
 ·exact keep b o (ur b o e) hb (yC b o e hx) (I.base.keep b o e n hb hx) (I.base.free b o e n hx)
 ·obtain⟨sl,e1⟩:=I.base.slot b o e n hb hx
  obtain⟨sl',e2⟩:=slot b _ (ur b o e) hb (yC b o e hx) e1 (I.base.free b o e n hx)
  exact⟨sl',e2⟩
 ·obtain⟨o',e1⟩:=I.base.there b o e hx
  exact free b o' (yC b o e hx) e1 (I.base.free b o e n hx)
 ·obtain⟨o',e1⟩:=I.base.there b o e hx
  exact there b o' (yC b o e hx) e1
 ·obtain⟨m1,e1⟩:=I.base.lM b ps e
  obtain⟨m2,e2⟩:=lM b _ e1
  exact⟨m1++m2,by rw[e2,Array.append_assoc]⟩
 ·obtain⟨m,hn,hl⟩:=I.loc
  refine⟨m,ns m hn,λi x v e1 e2 e3=>?_⟩
  obtain⟨u,r,l⟩:=hl i x v e1 e2 e3
  refine⟨u,r,?_⟩
  rcases l with l|⟨k,c,e,z⟩
  ·exact .inl l
  ·exact .inr ⟨k,c,e,cellK x c e _ z⟩
 ·obtain⟨v,z⟩:=I.cell x c e
  exact⟨v,cellK x c e v z⟩
 ·obtain⟨m,⟨o,_,_,ho,_⟩,_⟩:=I.loc
  exact free _ o (λz=>(hch _ z).2.1 rfl) ho I.free
 ·obtain⟨v,o,ho,hd⟩:=I.cell x c e
  exact free c o (λz=>(hch c z).2.2.1 x c e rfl) ho (I.mD x c e)
 ·obtain⟨e,n,ne,nf,d⟩:=I.pin p hp
  have vI:p.1∉ch:=λz=>(hch p.1 z).2.2.2 p hp rfl
  exact⟨keep p.1 p.2 ne nf vI e n,free p.1 p.2 vI e n,ne,nf,d⟩
theorem Inv.un{t':Nat}(I:Inv X pins σ H s)(u:Un X.fs [] H H' s.heap h')(hok:gR X.prog X.w H' h'):Inv X pins σ H' {s with heap:=h',toks:=t' }:=by
 obtain⟨m,⟨o,es,ep,ho,r⟩,_⟩:=id I.loc
 obtain⟨sl,hL⟩:=u.any ho I.free (by simp)
 exact I.step (g':=s.gens) (d':=s.drawn) (ch:=[]) (λ_ z=>nomatch z) (λb o _ hb _ e n=>u.keep b o e n hb (by simp)) (λb o _ hb _ e n=>u.slot b o e n hb (by simp)) (λb o _ e n=>u.free b o e n (by simp)) (λb o _ e=>u.there b o e (by simp)) u.tups u.lK u.lM (λm' hm=>by
  obtain⟨o',es',ep',ho',r'⟩:=hm
  rw[ho]at ho'; cases ho'
  exact⟨_,es',ep',hL,r'⟩) hok I.bare
theorem Inv.call{g':Array GenState}{t':Nat}{d':Drawn}{ch:List Addr}(I:Inv X pins σ H s)(u:Un (frs X.stack) ch H H' s.heap h')(hok:gR X.prog X.w H' h')(hg:AllBare g')
  (hch:∀b∈ch,(b∈X.ex\/X.s₀.heap.objs.size<=b)/\b≠X.env.locals/\(∀x c,X.env.cells.lookup x=some c->c≠b)/\∀p∈X.pn++pins,p.1≠b) :
  Inv X pins σ H' {s with heap:=h',gens:=g',drawn:=d',toks:=t' }:=by
 obtain⟨m,⟨o,es,ep,ho,r⟩,_⟩:=id I.loc
 obtain⟨sl,hL⟩:=u.any ho I.free λz=>(hch _ z).2.1 rfl
 exact I.step (ch:=ch) hch (λb o hL hb hc e n=>u.keep b o e n (λz=>(List.mem_cons.mp (I.yx b z)).elim hL hb) hc) (λb o _ _ hc e n=>u.any e n hc) (λb o hc e n=>u.free b o e n hc) (λb o hc e=>u.there b o e hc) u.tups u.lK u.lM (λm' hm=>by
  obtain⟨o',es',ep',ho',r'⟩:=hm
  rw[ho]at ho'; cases ho'
  exact⟨_,es',ep',hL,r'⟩) hok hg
theorem Inv.turned{t':Nat}{it:Addr}(I:Inv X pins σ H s)(k:∀b o,b≠it->s.heap.get? b=some o->h'.get? b=some o)(hn:H it=none)(hL:it≠X.env.locals)
  (h1:it∈X.ex\/X.s₀.heap.objs.size<=it) (h2:∀x c,X.env.cells.lookup x=some c->c≠it) (h3:∀p∈X.pn++pins,p.1≠it):Inv X pins σ H {s with heap:=h',toks:=t' }:=by
 have Kd:∀b u,H b=some u->b≠it:=λb u e z=>by rw[z,hn]at e; cases e
 refine I.step (g':=s.gens) (d':=s.drawn) (ch:=[it]) (λb hb=>?_) (λb o _ _ hc e _=>k b o (λz=>hc (by simp[z])) e) (λb o _ _ hc e _=>⟨o.slots,k b o (λz=>hc (by simp[z])) e⟩) (λ_ _ _ _ n=>n)
  (λb o hc e=>⟨o,k b o (λz=>hc (by simp[z])) e⟩) (λ_ _ e=>e) (λ_ _ _ e=>e) (λb ps e=>⟨#[],by rw[e]; simp⟩) (λm hm=>?_) (λb u e=>?_) I.bare
 ·have e:b=it:=by simpa using hb
  subst e
  exact⟨h1,hL,h2,h3⟩
 ·obtain⟨o,es,ep,ho,r⟩:=hm
  exact⟨o,es,ep,k _ o (Ne.symm hL) ho,r⟩
 ·refine(I.hok b u e).stay (λc v hc q=>k c v ?_ q) (λ_ q=>q) λ_ _ q=>q
  rcases hc with z|z
  ·rw[z]; exact Kd b u e
  ·exact Kd c _ z
theorem Inv.tok(I:Inv X pins σ H s)(t:Nat):Inv X pins σ H {s with toks:=t }:=I.un (h':=s.heap) (t':=t) Un.refl I.hok
theorem Inv.kept{t':Nat}(I:Inv X pins σ H s)(k:∀b u,s.heap.get? b=some u->h'.get? b=some u):Inv X pins σ H {s with heap:=h',toks:=t' }:=I.un (Un.kept k) (I.hok.kept k)
theorem Inv.laid{a:Addr}{o:HO}{t':Nat}(I:Inv X pins σ H s)(k:∀b u,s.heap.get? b=some u->h'.get? b=some u)(hp:s.heap.objs.size<=a)(new:jR X.prog X.w (upd H a o) h' a o) :
  Inv X pins σ (upd H a o) {s with heap:=h',toks:=t' }:=I.un (Un.laid k hp (I.hok.fresh hp)) (I.hok.laid k hp new)
theorem Inv.write{x e:Addr}{o:HO}{t':Nat}(I:Inv X pins σ H s)(mu:yt (H x))(he:e=x\/H e=some (.own x))(k:∀b u,b≠e->s.heap.get? b=some u->h'.get? b=some u)(heo:∃u,h'.get? e=some u)
  (new:jR X.prog X.w (upd H x o) h' x o):Inv X pins σ (upd H x o) {s with heap:=h',toks:=t' }:=I.un (Un.write mu he k heo) (I.hok.write mu he k heo new)
theorem Inv.Ke{Kf:List (Addr × Obj)}(I:Inv X pins σ H s)(h:∀p∈Kf,s.heap.get? p.1=some p.2/\H p.1=none/\p.1≠X.env.locals/\p.1∉X.fs/\∀v,p.2.data ≠ .cell v):Inv X Kf σ H s :=
 ⟨I.ok,I.os,I.bare,I.base,I.loc,I.cell,I.free,I.mD,λp hp=>(List.mem_append.mp hp).elim (λz=>I.pin p (List.mem_append_left _ z)) (h p),I.hok,I.len⟩
theorem Dc{N:List Str}(hN:N.Nodup){i j:Nat}{x:Str}(a:N[i]?=some x)(b:N[j]?=some x):i=j:=by
 obtain⟨h1,e1⟩:=List.getElem?_eq_some_iff.mp a
 obtain⟨h2,e2⟩:=List.getElem?_eq_some_iff.mp b
 exact(List.getElem_inj hN).mp (e1.trans e2.symm)
theorem Kg{M:Model}{A:Around}{E:Value->Shared->Prop}{i:Nat}{x:Str}{v:V}{u:Value}{Q:Unit->Shared->Prop}(I:Inv X pins σ H s)(hN:X.N.Nodup)(hi:X.N[i]?=some x)(hx:Loc X.env.scope x)(r:RelV v u)
  (h:∀s',Inv X pins (σ.set i (some v)) H s'->(∃a,Heap.SameBut a s.heap s'.heap/\(a=X.env.locals\/X.env.cells.lookup x=some a))->Q () s') (hf:X.fn x=true\/X.env.scope.names.lookup x=some .local:=by first|exact .inl rfl|exact .inr rfl|assumption):wpAny M A (storeName X.env x u) Q E s:=by
 obtain⟨m,hn,hl⟩:=id I.loc
 have hcls:(X.env.scope.kind == .class || (X.env.scope.kind == .module&&X.env.locals != X.env.globals))=false:=by rw[I.ok.kind]; rfl
 have Kh:i < σ.length:=by rw[I.len]; exact(List.getElem?_eq_some_iff.mp hi).1
 have pU:=I.pU
 have tracked:∀{a:Addr} {h':Heap},(∃o,s.heap.get? a=some o/\H a=none)->Heap.SameBut a s.heap h'->gR X.prog X.w H h':=λ{a h'} ha hs b ob e=>by
  obtain⟨_,_,hfree⟩:=ha
  refine(I.hok b ob e).stay (λc w' hc q=>(hs.2 c ?_).trans q) (λ_ q=>q) λ_ _ q=>q
  rintro rfl
  rcases hc with rfl|hc
  ·rw[hfree]at e; cases e
  ·rw[hfree]at hc; cases hc
 rcases hx with hk|hk
 ·refine wpAny_storeName_local hk hn (λh' hn' hs=>?_) hcls
  obtain⟨oL,_,_,hoL,_⟩:=id hn
  refine h _ ⟨I.ok,I.os,I.bare,⟨λb o e n hb hx=>?_,λb o e n hb hx=>?_,I.base.free,λb o e hx=>?_,I.base.tups,I.base.lK,I.base.lM⟩,⟨_,hn',λj y v' e1 e2 e3=>?_⟩,λy c e=>?_,I.free,I.mD,λp hp=>?_,tracked ⟨oL,hoL,I.free⟩ hs,by simpa using I.len⟩ ⟨_,hs,.inl rfl⟩
  ·exact(hs.2 b (Nat.ne_of_lt (Nat.lt_of_lt_of_le (Heap.lt_size e) I.ok.above))).trans (I.base.keep b o e n hb hx)
  ·obtain⟨sl,e1⟩:=I.base.slot b o e n hb hx
   exact⟨sl,(hs.2 b (Nat.ne_of_lt (Nat.lt_of_lt_of_le (Heap.lt_size e) I.ok.above))).trans e1⟩
  ·obtain⟨o',e1⟩:=I.base.there b o e hx
   exact⟨o',(hs.2 b (Nat.ne_of_lt (Nat.lt_of_lt_of_le (Heap.lt_size e) I.ok.above))).trans e1⟩
  ·by_cases hj:j=i
   ·subst hj
    rw[hi]at e1; cases e1
    rw[List.getElem?_set_self Kh]at e2
    cases e2
    exact⟨u,r,.inl ⟨hk,by simp⟩⟩
   ·rw[List.getElem?_set_ne (Ne.symm hj)]at e2
    obtain⟨u',r',q⟩:=hl j y v' e1 e2 e3
    refine⟨u',r',?_⟩
    rcases q with⟨k,e⟩|⟨k,c,e,z⟩
    ·refine .inl ⟨k,?_⟩
     have:y≠x:=λe=>hj (Dc hN e1 (e▸hi))
     simp[this,e]
    ·exact .inr ⟨k,c,e,z.sameBut hs (pU y c e)⟩
  ·obtain⟨w',z⟩:=I.cell y c e
   exact⟨w',z.sameBut hs (pU y c e)⟩
  ·obtain⟨e,n,ne,nf,d⟩:=I.pin p hp
   exact⟨(hs.2 p.1 ne).trans e,n,ne,nf,d⟩
 ·have hfn:X.fn x=true:=by
   rcases hf with z|z
   ·exact z
   ·rw[z]at hk; cases hk
  obtain⟨c,hc⟩:=I.ok.has x (.inl hk)
  obtain⟨w',z⟩:=I.cell x c hc
  refine wpAny_storeName_cell I.ok.kind hk hc z (λh' hc' hs=>?_)
  obtain⟨oc,hoc,Uo⟩:=id z
  refine h {s with heap:=h' } ⟨I.ok,I.os,I.bare,⟨λb o e n hb hx=>?_,λb o e n hb hx=>?_,I.base.free,λb o e hx=>?_,I.base.tups,I.base.lK,I.base.lM⟩,⟨m,hn.sameBut hs (Ne.symm (pU x c hc)),λj y v' e1 e2 e3=>?_⟩,λy c' e=>?_,I.free,I.mD,λp hp=>?_,tracked ⟨oc,hoc,I.mD x c hc⟩ hs,by simpa using I.len⟩ ⟨c,hs,.inr hc⟩
  ·exact(hs.2 b (Nat.ne_of_lt (Nat.lt_of_lt_of_le (Heap.lt_size e) (I.ok.cab x c hfn hc)))).trans (I.base.keep b o e n hb hx)
  ·obtain⟨sl,e1⟩:=I.base.slot b o e n hb hx
   exact⟨sl,(hs.2 b (Nat.ne_of_lt (Nat.lt_of_lt_of_le (Heap.lt_size e) (I.ok.cab x c hfn hc)))).trans e1⟩
  ·obtain⟨o',e1⟩:=I.base.there b o e hx
   exact⟨o',(hs.2 b (Nat.ne_of_lt (Nat.lt_of_lt_of_le (Heap.lt_size e) (I.ok.cab x c hfn hc)))).trans e1⟩
  ·by_cases hj:j=i
   ·subst hj
    rw[hi]at e1; cases e1
    rw[List.getElem?_set_self Kh]at e2
    cases e2
    exact⟨u,r,.inr ⟨.inl hk,c,hc,hc'⟩⟩
   ·rw[List.getElem?_set_ne (Ne.symm hj)]at e2
    obtain⟨u',r',q⟩:=hl j y v' e1 e2 e3
    refine⟨u',r',?_⟩
    rcases q with q|⟨k,c',e,z'⟩
    ·exact .inl q
    ·refine .inr ⟨k,c',e,z'.sameBut hs ?_⟩
     rintro rfl
     exact hj (Dc hN e1 (I.ok.inj _ _ _ e hc▸hi))
  ·by_cases hcc:c'=c
   ·subst hcc; exact⟨_,hc'⟩
   ·obtain⟨w2,z2⟩:=I.cell y c' e
    exact⟨w2,z2.sameBut hs hcc⟩
  ·obtain⟨e,n,ne,nf,d⟩:=I.pin p hp
   refine⟨(hs.2 p.1 ?_).trans e,n,ne,nf,d⟩
   intro q
   rw[q,hoc]at e
   have q':oc=p.2:=Option.some.inj e
   exact d w' (by rw[<-q']; exact Uo)
theorem uw{M:Model}{A:Around}{E:Value->Shared->Prop}{i:Nat}{x:Str}{v:V}{u:Value}{Q:Unit->Shared->Prop}(I:Inv X pins σ H s)(hN:X.N.Nodup)(hi:X.N[i]?=some x)(hx:Loc X.env.scope x)(r:RelV v u)
  (h:∀s',Inv X pins (σ.set i (some v)) H s'->Q () s') (hf:X.fn x=true\/X.env.scope.names.lookup x=some .local:=by first|exact .inl rfl|exact .inr rfl|assumption):wpAny M A (storeName X.env x u) Q E s :=
 Kg I hN hi hx r (λs' I' _=>h s' I') hf
theorem Inv.call'{s':Shared}{ch:List Addr}(I:Inv X pins σ H s)(ho:s'.os=s.os)(u:Un (frs X.stack) ch H H' s.heap s'.heap)(hok:gR X.prog X.w H' s'.heap)(hg:AllBare s'.gens)
  (hch:∀b∈ch,(b∈X.ex\/X.s₀.heap.objs.size<=b)/\b≠X.env.locals/\(∀x c,X.env.cells.lookup x=some c->c≠b)/\∀p∈X.pn++pins,p.1≠b):Inv X pins σ H' s':=by
 obtain⟨h',g',d',t',o'⟩:=s'
 have e:o'=s.os:=ho
 subst e
 exact I.call (g':=g') (t':=t') (d':=d') u hok hg hch
end
abbrev XK:=Value->Option Addr->Hp->Prop
abbrev St:=List (Option V)
abbrev VK:=V->Hp->Prop
abbrev TE:=St->Hp->VK->Prop
abbrev TT:=St->Hp->(Bool->Hp->Prop)->Prop
abbrev TA:=St->Hp->(List V->Hp->Prop)->Prop
structure Ends where
 nx:St->Hp->Prop
 rt:VK
 bk:St->Hp->Prop:=λ_ _=>False
 ct:St->Hp->Prop:=λ_ _=>False
abbrev TS:=Ends->St->Hp->Prop
def EP(X:Cx)(pins:List (Addr × Obj))(σ : St)(Q:VK)(u:Value)(s':Shared):Prop:=∃v H',Inv X pins σ H' s'/\RelV v u/\Q v H'
def TP(X:Cx)(pins:List (Addr × Obj))(σ : St)(Q:Bool->Hp->Prop)(b:Bool)(s':Shared):Prop:=∃H',Inv X pins σ H' s'/\Q b H'
def AP(X:Cx)(pins:List (Addr × Obj))(σ : St)(Q:List V->Hp->Prop)(us:List Value)(s':Shared):Prop:=∃vs H',Inv X pins σ H' s'/\Vals vs us/\Q vs H'
noncomputable def SP(X:Cx)(pins:List (Addr × Obj))(D:Ends)(f:Flow)(s':Shared):Prop :=
 match f with
 |.next=>∃σ' H',Inv X pins σ' H' s'/\D.nx σ' H'
 |.brk=>∃σ' H',Inv X pins σ' H' s'/\D.bk σ' H'
 |.cont=>∃σ' H',Inv X pins σ' H' s'/\D.ct σ' H'
 |.ret u=>∃v σ' H',Inv X pins σ' H' s'/\RelV v u/\D.rt v H'
structure PE(X:Cx)(e:Expr)(t:TE):Prop where
 run:∀(pins:List (Addr × Obj)) (s:Shared) (σ : St) (H:Hp) (Q:VK),Inv X pins σ H s->t σ H Q->wpAny (model X.prog X.w) X.A (eval e X.env) (EP X pins σ Q) X.xe s
instance {X:Cx}{e:Expr}{t:TE}:CoeFun (PE X e t) λ_=>∀(pins:List (Addr × Obj)) (s:Shared) (σ : St) (H:Hp) (Q:VK),Inv X pins σ H s->t σ H Q->wpAny (model X.prog X.w) X.A (eval e X.env) (EP X pins σ Q) X.xe s:=⟨PE.run⟩
structure PT(X:Cx)(e:Expr)(t:TT):Prop where
 run:∀(pins:List (Addr × Obj)) (s:Shared) (σ : St) (H:Hp) (Q:Bool->Hp->Prop),Inv X pins σ H s->t σ H Q->wpAny (model X.prog X.w) X.A (isTrue e X.env (eval e X.env)) (TP X pins σ Q) X.xe s
instance {X:Cx}{e:Expr}{t:TT}:CoeFun (PT X e t) λ_=>∀(pins:List (Addr × Obj)) (s:Shared) (σ : St) (H:Hp) (Q:Bool->Hp->Prop),Inv X pins σ H s->t σ H Q->wpAny (model X.prog X.w) X.A (isTrue e X.env (eval e X.env)) (TP X pins σ Q) X.xe s:=⟨PT.run⟩
structure PW(X:Cx)(e:Expr)(t:TT):Prop where
 run:∀(whole:Sem Value) (pins:List (Addr × Obj)) (s:Shared) (σ : St) (H:Hp) (Q:Bool->Hp->Prop),Inv X pins σ H s->t σ H Q->wpAny (model X.prog X.w) X.A (isTrue e X.env whole) (TP X pins σ Q) X.xe s
noncomputable instance {X:Cx}{e:Expr}{t:TT}:CoeFun (PW X e t) λ_=>∀(whole:Sem Value) (pins:List (Addr × Obj)) (s:Shared) (σ : St) (H:Hp) (Q:Bool->Hp->Prop),Inv X pins σ H s->t σ H Q->wpAny (model X.prog X.w) X.A (isTrue e X.env whole) (TP X pins σ Q) X.xe s:=⟨PW.run⟩
theorem PW.pt{X:Cx}{e:Expr}{t:TT}(h:PW X e t):PT X e t:=⟨h.run _⟩
structure PA(X:Cx)(es:List Expr)(t:TA):Prop where
 run:∀(pos:Pos) (pins:List (Addr × Obj)) (s:Shared) (σ : St) (H:Hp) (Q:List V->Hp->Prop),Inv X pins σ H s->t σ H Q->wpAny (model X.prog X.w) X.A (spliced (backTo pos (starEach es X.env))) (AP X pins σ Q) X.xe s
noncomputable instance {X:Cx}{es:List Expr}{t:TA}:CoeFun (PA X es t) λ_=>∀(pos:Pos) (pins:List (Addr × Obj)) (s:Shared) (σ : St) (H:Hp) (Q:List V->Hp->Prop),Inv X pins σ H s->t σ H Q->wpAny (model X.prog X.w) X.A (spliced (backTo pos (starEach es X.env))) (AP X pins σ Q) X.xe s:=⟨PA.run⟩
structure PS(X:Cx)(st:Stmt)(t:TS):Prop where
 run:∀(pins:List (Addr × Obj)) (s:Shared) (σ : St) (H:Hp) (D:Ends),Inv X pins σ H s->t D σ H->wpAny (model X.prog X.w) X.A (exec st X.env) (SP X pins D) X.xe s
instance {X:Cx}{st:Stmt}{t:TS}:CoeFun (PS X st t) λ_=>∀(pins:List (Addr × Obj)) (s:Shared) (σ : St) (H:Hp) (D:Ends),Inv X pins σ H s->t D σ H->wpAny (model X.prog X.w) X.A (exec st X.env) (SP X pins D) X.xe s:=⟨PS.run⟩
structure j7(X:Cx)(st:List Stmt)(t:TS):Prop where
 run:∀(pins:List (Addr × Obj)) (s:Shared) (σ : St) (H:Hp) (D:Ends),Inv X pins σ H s->t D σ H->wpAny (model X.prog X.w) X.A (execs st X.env) (SP X pins D) X.xe s
instance {X:Cx}{st:List Stmt}{t:TS}:CoeFun (j7 X st t) λ_=>∀(pins:List (Addr × Obj)) (s:Shared) (σ : St) (H:Hp) (D:Ends),Inv X pins σ H s->t D σ H->wpAny (model X.prog X.w) X.A (execs st X.env) (SP X pins D) X.xe s:=⟨j7.run⟩
theorem cW{α : Type}{t:Sem α}{Q Q' : α -> Shared->Prop}{M:Model}{A:Around}{E:Value->Shared->Prop}{s:Shared}(h:wpAny M A t Q E s)(hQ:∀a s,Q a s->Q' a s):wpAny M A t Q' E s:=wpAny_mono h hQ λ_ _ x=>x
end L2
namespace L2
open PySem PySem.Spec PyProof.Rows
section
variable {X:Cx}
def mF(i:Nat):TE:=λσ H Q=>∃v,σ[i]?=some (some v)/\Q v H
def tC(v:V):TE:=λ_ H Q=>Q v H
theorem Km{i:Nat}{x:Str}{pos:Pos}(hN:X.N[i]?=some x)(hv:Kc X.env.scope x)(hd:(x == ("__debug__" : Str))=false:=by decide) (hcd:(x == ("__classdict__" : Str))=false:=by decide):PE X (.Name x pos) (mF i):=by
 refine⟨λpins s σ H Q I h=>?_⟩
 obtain⟨v,e,h⟩:=h
 obtain⟨m,hn,hl⟩:=I.loc
 obtain⟨u,r,l⟩:=hl i x v hN e hv
 have fin:EP X pins σ Q u s:=⟨v,H,I,r,h⟩
 rcases l with⟨hk,hm⟩|⟨hk,c,hc,hcell⟩
 ·exact wpAny_Name (wpAny_loadName_local I.ok.kind hk hn hm fin) hd
 ·rcases hk with hk|hk
  ·exact wpAny_Name (wpAny_loadName_cell I.ok.kind hk hc hcell fin) hd
  ·exact wpAny_Name (wpAny_loadName_free I.ok.kind hk hc hcell fin hcd) hd
theorem aL{i j pos}:PE X (.Constant (.int i) j pos) (tC (.int i)):=⟨λ_ _ _ H _ I h=>wpAny_Constant_int ⟨.int i,H,I.tok _,⟨_,rfl⟩,h⟩⟩
theorem gC{b j pos}:PE X (.Constant (.bool b) j pos) (tC (.bl b)):=⟨λ_ _ _ H _ I h=>Constant_bool ⟨.bl b,H,I,rfl,h⟩⟩
theorem pW{j pos}:PE X (.Constant .none j pos) (tC .non):=⟨λ_ _ _ H _ I h=>Constant_none ⟨.non,H,I,rfl,h⟩⟩
theorem iC{x j pos}:PE X (.Constant (.str x) j pos) (tC (.str x)):=⟨λ_ _ _ H _ I h=>Calls.Constant_str ⟨.str x,H,I.tok _,⟨_,rfl⟩,h⟩⟩
def Gl(X:Cx)(x:Str):Prop:=X.env.kindOf x=some .globalImplicit
theorem vJ{E:Value->Shared->Prop}{pins:List (Addr × Obj)}{s:Shared}{σ : St}{H:Hp}{x:Str}{u:Value}{pos:Pos}{Q:Value->Shared->Prop}(I:Inv X pins σ H s)(hg:Gl X x)(hm:X.mg x=some u)(h:Q u s)
  (hd:(x == ("__debug__" : Str))=false:=by decide):wpAny (model X.prog X.w) X.A (eval (.Name x pos) X.env) Q E s :=
 Calls.Name_function_global I.ok.kind hg (Calls.loadGlobal_global (by rw[I.ok.glob]; exact I.mod.glob.keeps I.bk) hm h) hd
theorem ux{E:Value->Shared->Prop}{pins:List (Addr × Obj)}{s:Shared}{σ : St}{H:Hp}{x:Str}{u:Value}{pos:Pos}{Q:Value->Shared->Prop}(I:Inv X pins σ H s)(hg:Gl X x)(hm:X.mg x=none)(hv:bootBuiltins x=some u)(h:Q u s)
  (hn:x ≠ "__name__" := by decide) (hd:(x == ("__debug__" : Str))=false:=by decide):wpAny (model X.prog X.w) X.A (eval (.Name x pos) X.env) Q E s:=by
 obtain⟨mb,h1,h2⟩:=I.mod.blt
 exact Calls.Name_function_global I.ok.kind hg (Calls.loadGlobal_builtin (by rw[I.ok.glob]; exact I.mod.glob.keeps I.bk) hm (by rw[I.ok.blt]; exact h1.keeps I.bk) ((h2 x hn).trans hv) h) hd
theorem Ko{x:Str}{v:V}{u:Value}{pos:Pos}(hg:Gl X x)(hm:X.mg x=some u)(r:RelV v u)(hd:(x == ("__debug__" : Str))=false:=by decide):PE X (.Name x pos) (tC v) :=
 ⟨λ_ _ _ H _ I h=>vJ I hg hm ⟨v,H,I,r,h⟩ hd⟩
theorem Kp{x:Str}{v:V}{u:Value}{pos:Pos}(hg:Gl X x)(hm:X.mg x=none)(hv:bootBuiltins x=some u)(r:RelV v u)(hn:x ≠ "__name__" := by decide) (hd:(x == ("__debug__" : Str))=false:=by decide):PE X (.Name x pos) (tC v) :=
 ⟨λ_ _ _ H _ I h=>ux I hg hm hv ⟨v,H,I,r,h⟩ hn hd⟩
variable {a b:Expr}{ta tb:TE}{pos:Pos}
variable {tA jg:TT}{rest:List Expr}
def Kq(t u:TT):TT:=λσ H Q=>t σ H λc H1=>if c=true then u σ H1 Q else Q false H1
def Kr(t u:TT):TT:=λσ H Q=>t σ H λc H1=>if c=true then Q true H1 else u σ H1 Q
def Ks(t:TT):TT:=λσ H Q=>t σ H λc H1=>Q (!c) H1
theorem Dd(ha:PT X a tA):PW X (.BoolOp .And [a] pos) tA:=by
 refine⟨λwh pins s σ H Q I h=>?_⟩
 refine isTrue_and (cW (ha pins s σ H Q I h) λc s1 e=>?_)
 cases c with
 |true=>exact isTrue_and_nil e
 |false=>exact e
theorem j8(ha:PT X a tA):PW X (.BoolOp .Or [a] pos) tA:=by
 refine⟨λwh pins s σ H Q I h=>?_⟩
 refine isTrue_or (cW (ha pins s σ H Q I h) λc s1 e=>?_)
 cases c with
 |false=>exact isTrue_or_nil e
 |true=>exact e
theorem Df(ha:PT X a tA)(hb:PW X (.BoolOp .And (b::rest) pos) jg):PW X (.BoolOp .And (a::b::rest) pos) (Kq tA jg):=by
 refine⟨λwh pins s σ H Q I h=>?_⟩
 refine isTrue_and (cW (ha pins s σ H _ I h) λc s1 ⟨H1,I1,q1⟩=>?_)
 cases c with
 |true=>exact hb wh pins s1 σ H1 Q I1 q1
 |false=>exact⟨H1,I1,q1⟩
theorem jh(ha:PT X a tA)(hb:PW X (.BoolOp .Or (b::rest) pos) jg):PW X (.BoolOp .Or (a::b::rest) pos) (Kr tA jg):=by
 refine⟨λwh pins s σ H Q I h=>?_⟩
 refine isTrue_or (cW (ha pins s σ H _ I h) λc s1 ⟨H1,I1,q1⟩=>?_)
 cases c with
 |true=>exact⟨H1,I1,q1⟩
 |false=>exact hb wh pins s1 σ H1 Q I1 q1
theorem fY(ha:PT X a tA):PT X (.UnaryOp .Not a pos) (Ks tA):=by
 refine⟨λpins s σ H Q I h=>?_⟩
 exact isTrue_not (ha pins s σ H (λc H1=>Q (!c) H1) I h)
def Ku(ta tb:TE):TE:=λσ H Q=>ta σ H λx H1=>∃c,x=.bl c/\if c=true then tb σ H1 Q else Q (.bl false) H1
def Ky(ta:TE):TE:=λσ H Q=>ta σ H λx H1=>∃c,x=.bl c/\Q (.bl (!c)) H1
theorem oH{op}{t:TE}(h:PE X a t):PE X (.BoolOp op [a] pos) t:=⟨λpins s σ H Q I hw=>BoolOp_one (h pins s σ H Q I hw)⟩
theorem mG(ha:PE X a ta)(hb:PE X (.BoolOp .And (b::rest) pos) tb):PE X (.BoolOp .And (a::b::rest) pos) (Ku ta tb):=by
 refine⟨λpins s σ H Q I h=>?_⟩
 refine BoolOp_and (cW (ha pins s σ H _ I h) λv s1 ⟨x,H1,I1,r1,q1⟩=>?_)
 obtain⟨c,rfl,q1⟩:=q1
 cases r1
 refine wpAny_truthy_bool ?_
 cases c with
 |true=>exact hb pins s1 σ H1 Q I1 q1
 |false=>exact⟨.bl false,H1,I1,rfl,q1⟩
theorem Kz(ha:PE X a ta):PE X (.UnaryOp .Not a pos) (Ky ta):=by
 refine⟨λpins s σ H Q I h=>?_⟩
 refine UnaryOp_ (cW (ha pins s σ H _ I h) λv s1 ⟨x,H1,I1,r1,q1⟩=>?_)
 obtain⟨c,rfl,q1⟩:=q1
 cases r1
 exact not_of (wpAny_truthy_bool ⟨.bl (!c),H1,I1,rfl,q1⟩)
def KC(t:TT)(ta tb:TE):TE:=λσ H Q=>t σ H λc H1=>if c=true then ta σ H1 Q else tb σ H1 Q
theorem Uq{c:Expr}(hc:PT X c tA)(ha:PE X a ta)(hb:PE X b tb):PE X (.IfExp c a b pos) (KC tA ta tb):=by
 refine⟨λpins s σ H Q I h=>?_⟩
 refine wpAny_IfExp (cW (hc pins s σ H _ I h) λd s1 ⟨H1,I1,q1⟩=>?_)
 cases d with
 |true=>exact ha pins s1 σ H1 Q I1 q1
 |false=>exact hb pins s1 σ H1 Q I1 q1
end
end L2
namespace L2
open PySem PySem.Spec PyProof.Rows
def eF(K:FZ)(H:Hp)(a:Addr)(xs:List V):Prop :=
 Rd H a (.lst xs) \/
  ∃(o:Obj) (its:Array Value) (n:Nat),K.lookup a=some o/\o.cls=.type "list" /\ o.dict=none/\o.data=.seq its n/\its.size<=sizeLine/\Vals xs its.toList
def fM(K:FZ)(H:Hp)(a:Addr)(xs:List V):Prop :=
 Rd H a (.tup xs) \/
  ∃(o:Obj) (its:Array Value) (n:Nat),K.lookup a=some o/\o.cls=.type "tuple" /\ o.data=.seq its n/\its.size<=sizeLine/\Vals xs its.toList
def Ur:Value->Option V
 |.none=>some .non
 |.bool b=>some (.bl b)
 |.int i _=>some (.int i)
 |.str x _=>some (.str x)
 |.bytes b _=>some (.vD b)
 |.float b _=>some (.flt b)
 |.ref a=>some (.ref a)
 |.type n=>some (.ty n)
 |_=>none
theorem RelV.abs{x:V}{u:Value}(r:RelV x u):Ur u=some x:=by
 cases x with
 |non=>cases r; rfl
 |bl _=>cases r; rfl
 |int _=>obtain⟨t,rfl⟩:=r; rfl
 |str _=>obtain⟨t,rfl⟩:=r; rfl
 |vD _=>obtain⟨t,rfl⟩:=r; rfl
 |flt _=>obtain⟨t,rfl⟩:=r; rfl
 |ref _=>cases r; rfl
 |ty _=>cases r; rfl
theorem RelV.inj{x y:V}{u:Value}(r:RelV x u)(q:RelV y u):x=y:=Option.some.inj (r.abs.symm.trans q.abs)
theorem Vals.inj:∀{xs ys:List V} {us:List Value},Vals xs us->Vals ys us->xs=ys
 |_,_,_,.nil,.nil=>rfl
 |_,_,_,.cons r t,.cons r' t'=>by rw[r.inj r',Vals.inj t t']
section
variable {X:Cx}{pins:List (Addr × Obj)}{σ : St}{H:Hp}{s:Shared}{a:Addr}{xs ys:List V}
theorem eF.of{K:FZ}(h:H a=some (.lst xs)):eF K H a xs:=.inl (.inl h)
theorem fM.of{K:FZ}(h:H a=some (.tup xs)):fM K H a xs:=.inl (.inl h)
theorem Inv.list(I:Inv X pins σ H s)(h:eF X.K H a xs):∃its:List Value,Vals xs its/\PlainL s.heap a its.toArray/\xs.length<=sizeLine:=by
 rcases h with h|⟨o,its,n,hk,hc,hd,hs,hz,r⟩
 ·obtain⟨z,its,n,r,e⟩:=h.ok I.hok
  exact⟨its,r,⟨_,n,e,rfl,rfl,rfl⟩,z⟩
 ·refine⟨its.toList,r,⟨o,n,I.jA a o hk,hc,hd,by simpa using hs⟩,?_⟩
  have e:=r.length
  simp only[Array.length_toList]at e
  omega
theorem Inv.tuple(I:Inv X pins σ H s)(h:fM X.K H a xs):∃its:List Value,Vals xs its/\IsTup s.heap a its.toArray/\xs.length<=sizeLine:=by
 rcases h with h|⟨o,its,n,hk,hc,hs,hz,r⟩
 ·obtain⟨z,its,r,p⟩:=h.ok I.hok
  exact⟨its,r,p,z⟩
 ·refine⟨its.toList,r,⟨o,I.jA a o hk,hc,n,by simpa using hs⟩,?_⟩
  have e:=r.length
  simp only[Array.length_toList]at e
  omega
theorem Inv.KD(I:Inv X pins σ H s)(h:eF X.K H a xs)(h':eF X.K H a ys):xs=ys:=by
 obtain⟨its,r,⟨o,n,e,_,_,d⟩,_⟩:=I.list h
 obtain⟨its',r',⟨o',n',e',_,_,d'⟩,_⟩:=I.list h'
 rw[e]at e'; cases e'
 rw[d]at d'
 injection d' with d1 _
 have:its=its':=by simpa using congrArg Array.toList d1
 subst this
 exact r.inj r'
theorem Inv.KH(I:Inv X pins σ H s)(h:fM X.K H a xs)(h':fM X.K H a ys):xs=ys:=by
 obtain⟨its,r,⟨o,e,_,n,d⟩,_⟩:=I.tuple h
 obtain⟨its',r',⟨o',e',_,n',d'⟩,_⟩:=I.tuple h'
 rw[e]at e'; cases e'
 rw[d]at d'
 injection d' with d1 _
 have:its=its':=by simpa using congrArg Array.toList d1
 subst this
 exact r.inj r'
end
abbrev Cx.wish(X:Cx)(E:Value->Shared->Prop):Cx:={X with xe:=E }
abbrev Cx.oJ(X:Cx):Cx:=X.wish λ_ _=>False
theorem Cx.Ok.wish{X:Cx}(ok:X.Ok)(E:Value->Shared->Prop):(X.wish E).Ok :=
 ⟨ok.mod,ok.kind,ok.glob,ok.blt,ok.above,ok.inj,ok.has,ok.cab,ok.hd,ok.frames,ok.stk,ok.CZ,ok.bs,ok.qH,ok.jT,ok.vG,ok.mz,ok.qI⟩
theorem Cx.Ok.ni{X:Cx}{E:Value->Shared->Prop}(ok:(X.wish E).Ok):X.Ok :=
 ⟨ok.mod,ok.kind,ok.glob,ok.blt,ok.above,ok.inj,ok.has,ok.cab,ok.hd,ok.frames,ok.stk,ok.CZ,ok.bs,ok.qH,ok.jT,ok.vG,ok.mz,ok.qI⟩
section
variable {X:Cx}{pins:List (Addr × Obj)}{σ : St}{H:Hp}{s:Shared}{E:Value->Shared->Prop}
theorem Inv.wish(I:Inv X pins σ H s)(E:Value->Shared->Prop):Inv (X.wish E) pins σ H s:=⟨I.ok.wish E,I.os,I.bare,I.base,I.loc,I.cell,I.free,I.mD,I.pin,I.hok,I.len⟩
theorem Inv.ni(I:Inv (X.wish E) pins σ H s):Inv X pins σ H s:=⟨I.ok.ni,I.os,I.bare,I.base,I.loc,I.cell,I.free,I.mD,I.pin,I.hok,I.len⟩
theorem SP.ni{D:Ends}{f:Flow}{s':Shared}(h:SP (X.wish E) pins D f s'):SP X pins D f s':=by
 cases f with
 |next=>obtain⟨σ',H',I,q⟩:=h; exact⟨σ',H',I.ni,q⟩
 |brk=>obtain⟨σ',H',I,q⟩:=h; exact⟨σ',H',I.ni,q⟩
 |cont=>obtain⟨σ',H',I,q⟩:=h; exact⟨σ',H',I.ni,q⟩
 |ret u=>obtain⟨v,σ',H',I,r,q⟩:=h; exact⟨v,σ',H',I.ni,r,q⟩
end
section
variable {X:Cx}{st:Stmt}{rest:List Stmt}{t u:TS}{e:Expr}{te:TE}{pos:Pos}
def KJ:TS:=λD σ H=>D.nx σ H
def KN(t u:TS):TS:=λD σ H=>t {D with nx:=u D } σ H
theorem dY:j7 X [] KJ:=⟨λ_ _ σ H _ I h=>wpAny_execs_nil ⟨σ,H,I,h⟩⟩
theorem bC(h1:PS X st t)(h2:j7 X rest u):j7 X (st::rest) (KN t u):=by
 refine⟨λpins s σ H D I h=>?_⟩
 refine wpAny_execs_cons (cW (h1 pins s σ H {D with nx:=u D } I h) λf s1 q=>?_)
 cases f with
 |next =>
  obtain⟨σ',H',I',q⟩:=q
  exact h2 pins s1 σ' H' D I' q
 |ret v=>exact q
 |brk=>exact q
 |cont=>exact q
theorem bO(h1:PS X st t):j7 X [st] t:=by
 refine⟨λpins s σ H D I h=>?_⟩
 refine wpAny_execs_cons (cW (h1 pins s σ H D I h) λf s1 q=>?_)
 cases f with
 |next=>exact wpAny_execs_nil q
 |ret v=>exact q
 |brk=>exact q
 |cont=>exact q
theorem Inv.quiet{pins:List (Addr × Obj)}{σ : St}{H:Hp}{s:Shared}(I:Inv X pins σ H s):interactive X.env=false:=by simp[interactive,I.ok.kind]
def yD(te:TE):TS:=λD σ H=>te σ H λ_ H1=>D.nx σ H1
theorem Ut(he:PE X e te)(hs:swapsWith e none pos.line X.env=pure false:=by rfl):PS X (.Expr e pos) (yD te):=by
 refine⟨λpins s σ H D I h=>?_⟩
 exact wpAny_Expr_any (cW (he pins s σ H _ I h) λv s1 ⟨x,H1,I1,r1,q1⟩=>⟨σ,H1,I1,q1⟩) I.quiet hs
def KQ(te:TE):TS:=λD σ H=>te σ H D.rt
theorem cQ(he:PE X e te):PS X (.Return (some e) pos) (KQ te):=by
 refine⟨λpins s σ H D I h=>?_⟩
 exact wpAny_Return_some (cW (he pins s σ H _ I h) λv s1 ⟨x,H1,I1,r1,q1⟩=>⟨x,σ,H1,I1,r1,q1⟩)
def KR(c:TT)(t u:TS):TS:=λD σ H=>c σ H λb H1=>if b=true then t D σ H1 else u D σ H1
theorem dZ{c:Expr}{a b:List Stmt}{tc:TT}(hc:PT X c tc)(ha:j7 X a t)(hb:j7 X b u):PS X (.If c a b pos) (KR tc t u):=by
 refine⟨λpins s σ H D I h=>?_⟩
 refine wpAny_If (cW (hc pins s σ H _ I h) λd s1 ⟨H1,I1,q1⟩=>?_)
 cases d with
 |true=>exact ha pins s1 σ H1 D I1 q1
 |false=>exact hb pins s1 σ H1 D I1 q1
end
abbrev TG:=V->St->Hp->(St->Hp->Prop)->Prop
abbrev oK:=List V->St->Hp->(St->Hp->Prop)->Prop
noncomputable def PG(X:Cx)(target:Expr)(t:TG):Prop :=
 ∀(pins:List (Addr × Obj)) (s:Shared) (σ : St) (H:Hp) (v:V) (u:Value) (Q:St->Hp->Prop),Inv X pins σ H s->RelV v u->t v σ H Q ->
  wpAny (model X.prog X.w) X.A (assign target X.env u) (λ_ s'=>∃σ' H',Inv X pins σ' H' s'/\Q σ' H') X.xe s
noncomputable def yE(X:Cx)(ts:List Expr)(t:oK):Prop :=
 ∀(pins:List (Addr × Obj)) (s:Shared) (σ : St) (H:Hp) (vs:List V) (us:List Value) (Q:St->Hp->Prop),Inv X pins σ H s->Vals vs us->t vs σ H Q ->
  wpAny (model X.prog X.w) X.A (assignInOrder ((assignEach ts X.env).map (·.2)) us) (λ_ s'=>∃σ' H',Inv X pins σ' H' s'/\Q σ' H') X.xe s
abbrev Dg:=V->V->V->Hp->(Hp->Prop)->Prop
noncomputable def KY(X:Cx)(t:Dg):Prop :=
 ∀(pins:List (Addr × Obj)) (s:Shared) (σ : St) (H:Hp) (o i v:V) (ov iv u:Value) (Q:Hp->Prop),Inv X pins σ H s->RelV o ov->RelV i iv->RelV v u->t o i v H Q ->
  wpAny (model X.prog X.w) X.A (setItem ov iv u) (λ_ s'=>∃H',Inv X pins σ H' s'/\Q H') X.xe s
section
variable {X:Cx}{pos:Pos}
def iy(i:Nat):TG:=λv σ H Q=>Q (σ.set i (some v)) H
theorem Uu{i:Nat}{x:Str}(hN:X.N.Nodup)(hi:X.N[i]?=some x)(hx:Loc X.env.scope x)(hf:X.fn x=true\/X.env.scope.names.lookup x=some .local:=by first|exact .inl rfl|exact .inr rfl|assumption):PG X (.Name x pos) (iy i):=by
 intro pins s σ H v u Q I r h
 exact wpAny_assign_Name (uw I hN hi hx r (λs' I'=>⟨_,H,I',h⟩) hf)
def KZ:oK:=λvs σ H Q=>vs=[]/\Q σ H
def K1(t:TG)(u:oK):oK:=λvs σ H Q=>∃v r,vs=v::r/\t v σ H λσ' H'=>u r σ' H' Q
theorem yF:yE X [] KZ:=by
 intro pins s σ H vs us Q I r h
 obtain⟨e,h⟩:=h
 subst e
 cases r
 exact assignInOrder_nil ⟨σ,H,I,h⟩
theorem qJ{e:Expr}{es:List Expr}{t:TG}{u:oK}(h1:PG X e t)(h2:yE X es u)
  (hs:(assignEach (e::es) X.env).map (·.2)=assign e X.env::(assignEach es X.env).map (·.2):=by rfl):yE X (e::es) (K1 t u):=by
 intro pins s σ H vs us Q I r h
 obtain⟨v,vr,e1,h⟩:=h
 subst e1
 cases r with
 |cons r rr =>
  rw[hs]
  refine assignInOrder_cons (cW (h1 pins s σ H _ _ _ I r h) λ_ s1 ⟨σ1,H1,I1,q1⟩=>?_)
  exact h2 pins s1 σ1 H1 _ _ Q I1 rr q1
def K3(K:FZ)(n:Nat)(t:oK):TG:=λv σ H Q=>∃a xs,v=.ref a/\fM K H a xs/\xs.length=n/\t xs σ H Q
theorem yG{es:List Expr}{k:Nat}{t:oK}{n:Nat}(hc:X.calm=true)(h:yE X es t)
  (hn:(assignEach es X.env).length=n:=by rfl) (hst:(assignEach es X.env).findIdx? (·.1)=none:=by rfl):PG X (.Tuple es k pos) (K3 X.K n t):=by
 intro pins s σ H v u Q I r hw
 obtain⟨a,xs,e1,hq,hl,hw⟩:=hw
 subst e1
 cases r
 obtain⟨its,rv,ht,hz⟩:=I.tuple hq
 refine assign_Tuple_tuple (I.ok.hd hc) ht (by simp[hn,<-hl,rv.length]) hst λh' hx=>?_
 have I1:Inv X pins σ H {s with heap:=h' }:=I.kept (t':=s.toks) λb o e=>hx b o (Nat.ne_of_lt (Heap.lt_size e)) e
 exact h pins _ σ H xs _ Q I1 (by simpa using rv) hw
def Dh(to ti:TE)(t:Dg):TG:=λv σ H Q=>to σ H λo H1=>ti σ H1 λi H2=>t o i v H2 λH3=>Q σ H3
theorem Di{o i:Expr}{to ti:TE}{t:Dg}(ho:PE X o to)(hi:PE X i ti)(hs:KY X t)
  (ha:∀v,assign (.Subscript o i pos) X.env v=(do
   let ov <-holding [v] (eval o X.env)
   let iv <-holding [v,ov] (eval i X.env)
   standAt pos
   holding [v,ov,iv] (setItem ov iv v)
   release [v,ov,iv] []):=by intro _; rfl):PG X (.Subscript o i pos) (Dh to ti t):=by
 intro pins s σ H v u Q I r h
 rw[ha]
 refine wpAny_bind (wpAny_holding (cW (ho pins s σ H _ I h) λov s1 ⟨x,H1,I1,r1,q1⟩=>?_))
 refine wpAny_bind (wpAny_holding (cW (hi pins s1 σ H1 _ I1 q1) λiv s2 ⟨y,H2,I2,r2,q2⟩=>?_))
 refine wpAny_bind (wpAny_standAt (wpAny_bind (wpAny_holding (cW (hs pins s2 σ H2 x y v ov iv u _ I2 r1 r2 r q2) λ_ s3 ⟨H3,I3,q3⟩=>?_))))
 exact wpAny_release ⟨σ,H3,I3,q3⟩
def nq(te:TE)(g:TG):TS:=λD σ H=>te σ H λx H1=>g x σ H1 D.nx
theorem sE{tg e:Expr}{te:TE}{g:TG}(he:PE X e te)(hg:PG X tg g)(hs:swapsWithSole [tg] e pos.line X.env=pure false:=by rfl)(hw:swappedStores [tg] e X.env=pure none:=by rfl)
  (h1:(assignEach [tg] X.env).map (·.2)=[assign tg X.env]:=by rfl):PS X (.Assign [tg] e pos) (nq te g):=by
 refine⟨λpins s σ H D I h=>?_⟩
 refine wpAny_Assign_stores (cW (he pins s σ H _ I h) λv s1 ⟨x,H1,I1,r1,q1⟩=>?_) hs hw
 rw[h1]
 exact cW (hg pins s1 σ H1 x v _ I1 r1 q1) λ_ s2 q=>q
theorem Dj{i:Nat}{x:Str}{e:Expr}{te:TE}{pos':Pos}(hN:X.N.Nodup)(hi:X.N[i]?=some x)(hx:Loc X.env.scope x)(he:PE X e te)(hs:swapsWith e (some (.Name x pos')) pos.line X.env=pure false:=by rfl)(hf:X.fn x=true\/X.env.scope.names.lookup x=some .local:=by first|exact .inl rfl|exact .inr rfl|assumption) :
  PS X (.Assign [.Name x pos'] e pos) (nq te (iy i)):=by
 refine⟨λpins s σ H D I h=>?_⟩
 refine wpAny_Assign_Name (cW (he pins s σ H _ I h) λv s1 ⟨y,H1,I1,r1,q1⟩=>?_) hs
 exact uw I1 hN hi hx r1 (λs2 I2=>⟨_,H1,I2,q1⟩) hf
def K4(i j:Nat)(ta:TA):TS:=λD σ H=>ta σ H λvs H1=>∃v w,vs=[v,w]/\D.nx ((σ.set i (some v)).set j (some w)) H1
theorem K5{i j:Nat}{x y:Str}{a b:Expr}{ta:TA}{px py pt:Pos}{kt k2 Dk}(hc:X.calm=true)(hN:X.N.Nodup)(hi:X.N[i]?=some x)(hj:X.N[j]?=some y)(hij:i≠j)
  (hx:X.env.scope.names.lookup x=some .local) (hy:X.env.scope.names.lookup y=some .local) (ha:PA X [a,b] ta)
  (hw:swappedStores [.Tuple [.Name x px,.Name y py] kt pt] (.Tuple [a,b] k2 Dk) X.env=pure (some [x,y]))
  (hs:swapsWithSole [.Tuple [.Name x px,.Name y py] kt pt] (.Tuple [a,b] k2 Dk) pos.line X.env=pure false:=by rfl) :
  PS X (.Assign [.Tuple [.Name x px,.Name y py] kt pt] (.Tuple [a,b] k2 Dk) pos) (K4 i j ta):=by
 refine⟨λpins s σ H D I h=>?_⟩
 rw[exec_Assign_arm]
 refine wpAny_bind (wpAny_standAt ?_)
 rw[hs]
 refine wpAny_bind (wpAny_pure ?_)
 rw[if_neg (by decide)]
 refine wpAny_bind (Tuple_ (cW (ha _ pins s σ H _ I h) λus s1 ⟨vs,H1,I1,r1,q1⟩=>?_))
 obtain⟨v,w,e1,q1⟩:=q1
 subst e1
 obtain⟨u1,u2,rfl,rv,kZ⟩:∃u1 u2,us=[u1,u2]/\RelV v u1/\RelV w u2:=by
  cases r1 with
  |cons p q =>
   cases q with
   |cons p' q' =>
    cases q'
    exact⟨_,_,rfl,p,p'⟩
 refine wpAny_newObj_type ?_ (by show 2<=sizeLine; decide)
 have I2:Inv X pins σ H1 {s1 with heap:=s1.heap.push {cls:=.type "tuple",data:=.seq [u1,u2].toArray } }:=I1.kept (t':=s1.toks) λb o e=>Heap.get?_push_of_some _ e
 rw[hw]
 refine wpAny_bind (wpAny_pure ?_)
 show wpAny (model X.prog X.w) X.A (do rule "assign.swapped-stores"; let items <-unpackItems (.ref s1.heap.objs.size) 2 none; assignInOrder [λv=>bindName X.env y v,λv=>bindName X.env x v] items.reverse; pure Flow.next) _ _ _
 refine wpAny_bind (wpAny_rule (wpAny_bind (unpackItems_tuple (items:=#[u1,u2]) (I.ok.hd hc) (IsTup.new s1.heap _) λh' hx'=>?_)))
 have I3:=I2.kept (h':=h') (t':=s1.toks) λb o e=>hx' b o (Nat.ne_of_lt (Heap.lt_size e)) e
 show wpAny _ _ (assignInOrder [λv=>bindName X.env y v,λv=>bindName X.env x v] [u2,u1] >>= λ_=>pure Flow.next) _ _ _
 refine wpAny_bind (assignInOrder_cons (wpAny_bindName (uw I3 hN hj (.inl hy) kZ (λs2 I4=>?_) (.inr hy))))
 refine assignInOrder_cons (wpAny_bindName (uw I4 hN hi (.inl hx) rv (λs3 I5=>assignInOrder_nil (wpAny_pure ?_)) (.inr hx)))
 rw[List.set_comm _ _ (Ne.symm hij)]at I5
 exact⟨_,H1,I5,q1⟩
end
section
variable {X:Cx}{pos:Pos}
def K6(c:TT)(tb:TS):TS:=λD σ H=>∃W:Nat->St->Hp->Prop,(∃m,W m σ H)/\∀m σ H,W m σ H ->
 c σ H λb H1=>if b=true then ∃N:St->Hp->Prop,(∀σ' H',N σ' H'->∃m',m'<m/\W m' σ' H')/\tb {D with nx:=N,ct:=N,bk:=D.nx } σ H1 else D.nx σ H1
theorem K7{c:Expr}{body:List Stmt}{tc:TT}{tb:TS}(hp:PassesOwn (model X.prog X.w) X.A X.env X.xe)(hc:PT X c tc)(hb:j7 X body tb):PS X (.While c body [] pos) (K6 tc tb):=by
 refine⟨λpins s σ H D I h=>?_⟩
 obtain⟨W,⟨m0,w0⟩,turn⟩:=h
 refine wpAny_While (codeAny_whileLoop (λn s'=>∃σ' H',Inv X pins σ' H' s'/\W n σ' H') ?_ m0 ⟨σ,H,I,w0⟩)
 rintro n s1 ⟨σ1,H1,I1,w1⟩
 refine wpAny_passesOwn hp (cW (hc pins s1 σ1 H1 _ I1 (turn n σ1 H1 w1)) λb s2 ⟨H2,I2,q2⟩=>?_)
 cases b with
 |true =>
  obtain⟨N,hN,q2⟩:=q2
  rw[if_pos rfl]
  refine wpAny_passesOwn hp (cW (hb pins s2 σ1 H2 _ I2 q2) λf s3 q3=>?_)
  cases f with
  |next =>
   obtain⟨σ3,H3,I3,n3⟩:=q3
   obtain⟨m',hm,w3⟩:=hN σ3 H3 n3
   exact⟨m',hm,σ3,H3,I3,w3⟩
  |cont =>
   obtain⟨σ3,H3,I3,n3⟩:=q3
   obtain⟨m',hm,w3⟩:=hN σ3 H3 n3
   exact⟨m',hm,σ3,H3,I3,w3⟩
  |brk=>exact q3
  |ret v=>exact q3
 |false =>
  rw[if_neg Bool.false_ne_true]
  exact wpAny_execs_nil ⟨σ1,H2,I2,q2⟩
end
structure It where
 go:Nat->Hp->Prop
 vK:Nat->Hp->V->Hp->Prop
 stop:Nat->Hp->Prop
def pX(X:Cx)(pins:List (Addr × Obj))(H:Hp)(b:Addr):Prop :=
 H b=none/\b≠X.env.locals/\b∉X.fs/\(b∈X.ex\/X.s₀.heap.objs.size<=b)/\(∀x c,X.env.cells.lookup x=some c->c≠b)/\∀p∈X.pn++pins,p.1≠b
theorem Inv.Dl{X:Cx}{pins:List (Addr × Obj)}{σ : St}{H H':Hp}{s:Shared}{b:Addr}(I:Inv X pins σ H s)(hb:s.heap.objs.size<=b)(hn:H' b=none):pX X pins H' b:=by
 refine⟨hn,Nat.ne_of_gt (Nat.lt_of_lt_of_le I.lt hb),I.Um hb,.inr (Nat.le_trans I.sz hb),λx c e z=>?_,λp hp z=>?_⟩
 ·obtain⟨v,q⟩:=I.cell x c e
  exact absurd (Nat.lt_of_lt_of_le q.lt (by rw[z]; exact hb)) (Nat.lt_irrefl _)
 ·exact absurd (Nat.lt_of_lt_of_le (Heap.lt_size (I.pin p hp).1) (by rw[z]; exact hb)) (Nat.lt_irrefl _)
structure Turn(P:Program)(w:World)(K:FZ)(tg:Expr)(J:It)(fp:List Addr)(it:Addr)(tn:Nat->Heap->Prop):Prop where
 mem:it∈fp
 obj:∀i h,tn i h->∀b∈fp,∃o,h.get? b=some o/\∀v,o.data ≠ .cell v
 keep:∀i h h',tn i h->(∀b∈fp,∀o,h.get? b=some o->h'.get? b=some o)->tn i h'
 item:∀(X:Cx),X.prog=P->X.w=w->X.K=K->X.calm=true->∀(i:Nat) (pins:List (Addr × Obj)) (s:Shared) (σ : St) (H:Hp) (E:Value->Shared->Prop),Inv X pins σ H s->(∀b∈fp,pX X pins H b)->tn i s.heap->J.go i H ->
  wpAny (model P w) X.A (pyNext (.ref it)) (λr s1=>∃u,r=some u /\
   wpAny (model P w) X.A (letOwnedTupleGo tg (.ref it) u) (λ_ s2=>∃x H',Inv X pins σ H' s2/\RelV x u/\J.vK i H x H'/\tn (i+1) s2.heap/\∀b∈fp,H' b=none) E s1) E s
 done:∀(X:Cx),X.prog=P->X.w=w->X.K=K->X.calm=true->∀(i:Nat) (pins:List (Addr × Obj)) (s:Shared) (σ : St) (H:Hp) (E:Value->Shared->Prop),Inv X pins σ H s->(∀b∈fp,pX X pins H b)->tn i s.heap->J.stop i H ->
  wpAny (model P w) X.A (pyNext (.ref it)) (λr s1=>r=none/\Inv X pins σ H s1) E s
 self:∀(A:Around) (i:Nat) (s:Shared) (Q:Value->Shared->Prop) (E:Value->Shared->Prop),tn i s.heap->Q (.ref it) s->wpAny (model P w) A (pyIter (.ref it)) Q E s
abbrev TI:=St->Hp->(It->Hp->Prop)->Prop
noncomputable def PIE(X:Cx)(pins:List (Addr × Obj))(σ : St)(tg:Expr)(R:It->Hp->Prop)(itv:Value)(s2:Shared):Prop :=
 ∃(it:Addr) (fp:List Addr) (tn:Nat->Heap->Prop) (J:It) (H':Hp),itv=.ref it/\Inv X pins σ H' s2/\Turn X.prog X.w X.K tg J fp it tn/\tn 0 s2.heap/\(∀b∈fp,pX X pins H' b)/\R J H'
noncomputable def PI(X:Cx)(tg iter:Expr)(wi:TI):Prop :=
 ∀(pins:List (Addr × Obj)) (s:Shared) (σ : St) (H:Hp) (R:It->Hp->Prop),Inv X pins σ H s->wi σ H R ->
  wpAny (model X.prog X.w) X.A (eval iter X.env) (λv s1=>wpAny (model X.prog X.w) X.A (pyIter v) (PIE X pins σ tg R) X.xe s1) X.xe s
theorem Dm{M:Model}{A:Around}{E:Value→Shared→Prop}{s:Shared}{tg:Expr}{it:Addr}{u:Value}{o:Obj}{n:String}{vs:Array Value}{Q:Unit→Shared→Prop}(ho:s.heap.get? it=some o)(hc:o.cls=.type n)(hd:o.data=.fields vs)
    (hn : ["enumerate", "zip", "dict_itemiterator", "dict_reverseitemiterator", "odict_iterator", "itertools.zip_longest", "itertools.pairwise"].contains n=false) (hQ:Q () s):wpAny M A (letOwnedTupleGo tg (.ref it) u) Q E s:=by
  unfold letOwnedTupleGo
  cases tg <;> first
    |exact wpAny_pure hQ
    | (cases u <;> first
        |exact wpAny_pure hQ
        | (refine wpAny_bind (wpAny_load ho ?_)
           rw[hc,hd]
           show wpAny M A (if(["enumerate", "zip", "dict_itemiterator", "dict_reverseitemiterator", "odict_iterator", "itertools.zip_longest", "itertools.pairwise"].contains n&&vs[0]? == some (rawInt _))=true then _ else _) Q E s
           rw[if_neg (by intro h; rw[hn,Bool.false_and]at h; cases h)]
           exact wpAny_pure hQ))
def Dn(K:FZ)(a:Addr):It :=
 ⟨λi H=>∃xs x,eF K H a xs/\xs[i]?=some x,λi H x H'=>H'=H/\∀xs,eF K H a xs->xs[i]?=some x,λi H=>∃xs,eF K H a xs/\xs.length<=i⟩
def Dp(K:FZ)(a:Addr):It :=
 ⟨λi H=>∃xs x,fM K H a xs/\xs[i]?=some x,λi H x H'=>H'=H/\∀xs,fM K H a xs->xs[i]?=some x,λi H=>∃xs,fM K H a xs/\xs.length<=i⟩
def yH(lo:Int)(n:Nat):It:=⟨λi _=>i<n,λi H x H'=>H'=H/\x=.int (lo+i),λi _=>n<=i⟩
theorem Uv{P:Program}{w:World}{K:FZ}{tg:Expr}(a it:Addr):Turn P w K tg (Dn K a) [it] it (λi h=>h.IsListIter it a i) where
 mem:=by simp
 obj:=λi h st b hb=>by
  have e:b=it:=by simpa using hb
  subst e
  obtain⟨o,e,c,d⟩:=st
  exact⟨o,e,λv z=>by rw[d]at z; cases z⟩
 keep:=λi h h' st k=>st.at λo e=>k it (by simp) o e
 item:=by
  intro X hP hw hK hc i pins s σ H E I hf st hg
  subst hP hw hK
  obtain⟨xs,x,hq,hx⟩:=hg
  obtain⟨its,rv,p,hz⟩:=I.list hq
  obtain⟨u,hu,ru⟩:=rv.get hx
  obtain⟨f0,f1,f2,f3,f4,f5⟩:=hf it (by simp)
  refine wpAny_pyNext_list_item st p.isList (x:=u) (by simpa using hu) λh' st' sb=>?_
  have I1:Inv X pins σ H {s with heap:=h' }:=I.turned (t':=s.toks) (λb o hb e=>(sb.2 b hb).trans e) f0 f1 f3 f4 f5
  obtain⟨o,e,c,d⟩:=id st'
  exact⟨u,rfl,Dm (s:={s with heap:=h' }) e c d (by decide) ⟨x,H,I1,ru,⟨rfl,λys hy=>by rw[I.KD hy hq]; exact hx⟩,st',λb hb=>(hf b hb).1⟩⟩
 done:=by
  intro X hP hw hK hc i pins s σ H E I hf st hg
  subst hP hw hK
  obtain⟨xs,hq,hx⟩:=hg
  obtain⟨its,rv,p,hz⟩:=I.list hq
  obtain⟨f0,f1,f2,f3,f4,f5⟩:=hf it (by simp)
  have hl:=rv.length
  exact wpAny_pyNext_list_end (I.ok.hd hc) st p.isList (by simp; omega) λh' eb=>⟨rfl,I.turned (t':=s.toks) (λb o hb e=>eb b o hb e) f0 f1 f3 f4 f5⟩
 self:=λ_ _ _ _ _ st h=>wpAny_pyIter_listiter st h
theorem Uw{P:Program}{w:World}{K:FZ}{tg:Expr}(a it:Addr):Turn P w K tg (Dp K a) [it] it (λi h=>h.IsTupleIter it a i) where
 mem:=by simp
 obj:=λi h st b hb=>by
  have e:b=it:=by simpa using hb
  subst e
  obtain⟨o,e,c,d⟩:=st
  exact⟨o,e,λv z=>by rw[d]at z; cases z⟩
 keep:=λi h h' st k=>st.at λo e=>k it (by simp) o e
 item:=by
  intro X hP hw hK hc i pins s σ H E I hf st hg
  subst hP hw hK
  obtain⟨xs,x,hq,hx⟩:=hg
  obtain⟨its,rv,p,hz⟩:=I.tuple hq
  obtain⟨u,hu,ru⟩:=rv.get hx
  obtain⟨f0,f1,f2,f3,f4,f5⟩:=hf it (by simp)
  refine wpAny_pyNext_tuple_item st (show s.heap.IsTuple a its.toArray from p) (x:=u) (by simpa using hu) λh' st' sb=>?_
  have I1:Inv X pins σ H {s with heap:=h' }:=I.turned (t':=s.toks) (λb o hb e=>(sb.2 b hb).trans e) f0 f1 f3 f4 f5
  obtain⟨o,e,c,d⟩:=id st'
  exact⟨u,rfl,Dm (s:={s with heap:=h' }) e c d (by decide) ⟨x,H,I1,ru,⟨rfl,λys hy=>by rw[I.KH hy hq]; exact hx⟩,st',λb hb=>(hf b hb).1⟩⟩
 done:=by
  intro X hP hw hK hc i pins s σ H E I hf st hg
  subst hP hw hK
  obtain⟨xs,hq,hx⟩:=hg
  obtain⟨its,rv,p,hz⟩:=I.tuple hq
  obtain⟨f0,f1,f2,f3,f4,f5⟩:=hf it (by simp)
  have hl:=rv.length
  exact wpAny_pyNext_tuple_end (I.ok.hd hc) st (show s.heap.IsTuple a its.toArray from p) (by simp; omega) λh' eb=>⟨rfl,I.turned (t':=s.toks) (λb o hb e=>eb b o hb e) f0 f1 f3 f4 f5⟩
 self:=λ_ _ _ _ _ st h=>wpAny_pyIter_tupleiter st h
theorem Ux{P:Program}{w:World}{K:FZ}{tg:Expr}(it:Addr)(lo:Int)(n:Nat):Turn P w K tg (yH lo n) [it] it (λi h=>IsRangeIter h it (lo+(i:Nat)*1) ((n:Int)-(i:Nat)) 1) where
 mem:=by simp
 obj:=λi h st b hb=>by
  have e:b=it:=by simpa using hb
  subst e
  exact⟨_,st,λv z=>by
   have z':Data.fields _=Data.cell v:=z
   cases z'⟩
 keep:=λi h h' st k=>k it (by simp) _ st
 item:=by
  intro X hP hw hK hc i pins s σ H E I hf st hg
  subst hP hw hK
  obtain⟨f0,f1,f2,f3,f4,f5⟩:=hf it (by simp)
  have W:=Walks.range (prog:=X.prog) (w:=X.w) (I.ok.hd hc) it lo 1 n
  refine W.item i s _ _ hg st λv h' tk hv st' kk=>?_
  obtain⟨t,rfl⟩:=hv
  have I1:Inv X pins σ H {s with heap:=h',toks:=tk }:=I.turned (λb o hb e=>kk b o (by simpa using hb) e) f0 f1 f3 f4 f5
  refine⟨_,rfl,Dm (s:={s with heap:=h',toks:=tk }) (n := "range_iterator") st' rfl rfl (by decide) ⟨.int (lo+i),H,I1,⟨t,?_⟩,⟨rfl,rfl⟩,st',λb hb=>(hf b hb).1⟩⟩
  rw[Int.mul_one]
 done:=by
  intro X hP hw hK hc i pins s σ H E I hf st hg
  subst hP hw hK
  obtain⟨f0,f1,f2,f3,f4,f5⟩:=hf it (by simp)
  exact wpAny_pyNext_range_end (I.ok.hd hc) st (by have:n<=i:=hg; omega) λh' eb=>⟨rfl,I.turned (t':=s.toks) (λb o hb e=>eb b o hb e) f0 f1 f3 f4 f5⟩
 self:=λ_ _ _ _ _ st h=>wpAny_pyIter_rangeiter st h
end L2
namespace L2
open PySem PySem.Spec PyProof.Rows
section
variable {X:Cx}{tg:Expr}
def K8(K:FZ)(tl:TE):TI:=λσ H R=>tl σ H λx H1=>∃a,x=.ref a/\(∃xs,eF K H1 a xs)/\R (Dn K a) H1
def K9(K:FZ)(tl:TE):TI:=λσ H R=>tl σ H λx H1=>∃a,x=.ref a/\(∃xs,fM K H1 a xs)/\R (Dp K a) H1
theorem Uy{l:Expr}{tl:TE}(hl:PE X l tl):PI X tg l (K8 X.K tl):=by
 intro pins s σ H R I h
 refine cW (hl pins s σ H _ I h) λv s1 ⟨x,H1,I1,r1,q1⟩=>?_
 obtain⟨a,e,⟨xs,hq⟩,q⟩:=q1
 subst e
 cases r1
 obtain⟨its,rv,p,hz⟩:=I1.list hq
 refine wpAny_pyIter_list p.isList ?_
 refine⟨s1.heap.objs.size,[s1.heap.objs.size],_,_,H1,rfl,I1.kept (t':=s1.toks) λb o e=>Heap.get?_push_of_some _ e,Uv a _,⟨_,Heap.get?_push_size _ rfl,rfl,rfl⟩,λb hb=>?_,q⟩
 have e:b=s1.heap.objs.size:=by simpa using hb
 subst e
 exact I1.Dl (Nat.le_refl _) (I1.hok.fresh (Nat.le_refl _))
theorem Uz{l:Expr}{tl:TE}(hl:PE X l tl):PI X tg l (K9 X.K tl):=by
 intro pins s σ H R I h
 refine cW (hl pins s σ H _ I h) λv s1 ⟨x,H1,I1,r1,q1⟩=>?_
 obtain⟨a,e,⟨xs,hq⟩,q⟩:=q1
 subst e
 cases r1
 obtain⟨its,rv,p,hz⟩:=I1.tuple hq
 refine wpAny_pyIter_tuple (show s1.heap.IsTuple a its.toArray from p) ?_
 refine⟨s1.heap.objs.size,[s1.heap.objs.size],_,_,H1,rfl,I1.kept (t':=s1.toks) λb o e=>Heap.get?_push_of_some _ e,Uw a _,⟨_,Heap.get?_push_size _ rfl,rfl,rfl⟩,λb hb=>?_,q⟩
 have e:b=s1.heap.objs.size:=by simpa using hb
 subst e
 exact I1.Dl (Nat.le_refl _) (I1.hok.fresh (Nat.le_refl _))
theorem UG{pins:List (Addr × Obj)}{σ : St}{H:Hp}{s:Shared}{R:It->Hp->Prop}{E:Value->Shared->Prop}{lo hi:Int}{t u v:Tok}{tk:Nat}(I:Inv X pins σ H s)(h1 : -(2 ^ 62)<=lo)(h2:lo<2 ^ 62)(h3 : -(2 ^ 62)<=hi)(h4:hi<2 ^ 62)
  (q:R (yH lo (hi-lo).toNat) H):wpAny (model X.prog X.w) X.A (pyIter (.ref s.heap.objs.size)) (PIE X pins σ tg R) E {s with heap:=s.heap.push {cls:=.type "range",data:=.fields #[.int lo t,.int hi u,.int 1 v] },toks:=tk }:=by
 refine wpAny_pyIter_range (IsRange.new ..) (small_one h1 h2 h3 h4) ?_
 have I1:Inv X pins σ H {s with heap:=s.heap.push {cls:=.type "range",data:=.fields #[.int lo t,.int hi u,.int 1 v] },toks:=tk }:=I.kept λb o e=>Heap.get?_push_of_some _ e
 refine⟨(s.heap.push {cls:=.type "range",data:=.fields #[.int lo t,.int hi u,.int 1 v] }).objs.size,[(s.heap.push {cls:=.type "range",data:=.fields #[.int lo t,.int hi u,.int 1 v] }).objs.size],_,_,H,rfl,
  I1.kept (t':=tk) λb o e=>Heap.get?_push_of_some _ e,Ux _ lo (hi-lo).toNat,?_,λb hb=>?_,q⟩
 ·have e1:lo+((0:Nat):Int)*1=lo:=by simp
  have e2:(((hi-lo).toNat:Nat):Int)-((0:Nat):Int)=Builtin.Range.rangeSize lo hi 1:=by rw[rangeSize_one]; split <;> omega
  show IsRangeIter _ _ (lo+((0:Nat):Int)*1) ((((hi-lo).toNat:Nat):Int)-((0:Nat):Int)) 1
  rw[e1,e2]
  exact Heap.get?_push_size _ rfl
 ·have e:b=(s.heap.push {cls:=.type "range",data:=.fields #[.int lo t,.int hi u,.int 1 v] }).objs.size:=by simpa using hb
  subst e
  exact I1.Dl (Nat.le_refl _) (I1.hok.fresh (Nat.le_refl _))
def Dq(ta:TA):TI:=λσ H R=>ta σ H λvs H1=>∃j:Int,vs=[.int j] /\ -(2 ^ 62)<=j/\j<2 ^ 62/\R (yH 0 j.toNat) H1
theorem UJ{a:Expr}{ta:TA}{p pos:Pos}(hg:Gl X "range") (hm:X.mg "range" = none) (ha:PA X [a] ta) (hs:starEach [a] X.env=[(false,eval a X.env)]:=by rfl):PI X tg (.Call (.Name "range" p) [a] [] pos) (Dq ta):=by
 intro pins s σ H R I h
 refine Call_ (ux I hg hm boot_range (PyProof.Rows.callWith_type1 (cW (ha pos pins s σ H _ I h) λus s1 ⟨vs,H1,I1,r1,q1⟩=>?_) hs rfl))
 obtain⟨j,e,q1,q2,q⟩:=q1
 subst e
 cases r1 with
 |cons r rr =>
  cases rr
  obtain⟨t,rfl⟩:=r
  exact call_range_1 (UG I1 (by omega) (by omega) q1 q2 (by simpa using q))
noncomputable def La(wi:TI)(g:TG)(tb:TS):TS:=λD σ H=>wi σ H λJ H1=>∃W:Nat->Nat->St->Hp->Prop,(∃m,W 0 m σ H1)/\∀i m σ H,W i m σ H ->
 (J.stop i H/\D.nx σ H)\/(J.go i H/\∃N:St->Hp->Prop,(∀σ' H',N σ' H'->∃m',m'<m/\W (i+1) m' σ' H')/\∀x H',J.vK i H x H'->g x σ H' λσ2 H2=>tb {D with nx:=N,ct:=N,bk:=D.nx } σ2 H2)
def yI(fp:List Addr)(h:Heap):List (Addr × Obj):=fp.filterMap λb=>(h.get? b).map λo=>(b,o)
theorem yJ{fp:List Addr}{h:Heap}{b:Addr}{o:Obj}(hb:b∈fp)(e:h.get? b=some o):(b,o)∈yI fp h:=List.mem_filterMap.mpr ⟨b,hb,by rw[e]; rfl⟩
theorem UL{fp:List Addr}{h:Heap}{p:Addr × Obj}(hp:p∈yI fp h):p.1∈fp/\h.get? p.1=some p.2:=by
 obtain⟨b,hb,e⟩:=List.mem_filterMap.mp hp
 cases q:h.get? b with
 |none=>rw[q]at e; cases e
 |some o =>
  rw[q]at e
  have e':(b,o)=p:=Option.some.inj e
  subst e'
  exact⟨hb,q⟩
theorem Inv.pinned{pins:List (Addr × Obj)}{σ : St}{H:Hp}{s:Shared}{fp:List Addr}(I:Inv X pins σ H s)(hf:∀b∈fp,pX X pins H b)(ho:∀b∈fp,∃o,s.heap.get? b=some o/\∀v,o.data ≠ .cell v):Inv X (pins++yI fp s.heap) σ H s :=
 I.Ke λp hp=>(List.mem_append.mp hp).elim (λz=>I.pin p (List.mem_append_right _ z)) λz=>by
  obtain⟨hb,e⟩:=UL z
  obtain⟨f0,f1,f2,_⟩:=hf p.1 hb
  obtain⟨o,e',d⟩:=ho p.1 hb
  rw[e]at e'; cases e'
  exact⟨e,f0,f1,f2,d⟩
theorem Inv.yK{pins pl:List (Addr × Obj)}{σ : St}{H:Hp}{s:Shared}(I:Inv X (pins++pl) σ H s):Inv X pins σ H s:=I.Ke λp hp=>I.pin p (List.mem_append_right _ (List.mem_append_left _ hp))
theorem yL{iter:Expr}{body:List Stmt}{wi:TI}{g:TG}{tb:TS}{pos:Pos}(hp:PassesOwn (model X.prog X.w) X.A X.env X.xe)(hc:X.calm=true)(hi:PI X tg iter wi)(hg:PG X tg g)(hb:j7 X body tb)
  (hs:∀x,foldedSetIterable iter X.env x=pure x:=by intro _; rfl):PS X (.For tg iter body [] pos) (La wi g tb):=by
 refine⟨λpins s σ H D I h=>?_⟩
 refine wpAny_For (cW (hi pins s σ H _ I h) λv s1 h1=>cW h1 λitv s2 h2=>?_) hs
 obtain⟨it,fp,tn,J,H2,e,I2,T,st2,f2,W,⟨m0,w0⟩,turn⟩:=h2
 subst e
 -- what stays true of the iterator's objects through the loop
 have stat:∀{H':Hp},(∀b∈fp,H' b=none)->∀b∈fp,pX X pins H' b:=λhn b hb=>⟨hn b hb,(f2 b hb).2⟩
 refine codeAny_forLoop_any (λn s'=>∃i σ' H',Inv X pins σ' H' s'/\tn i s'.heap/\(∀b∈fp,H' b=none)/\W i n σ' H') ?_ m0 ⟨0,σ,H2,I2,st2,λb hb=>(f2 b hb).1,w0⟩
 rintro n s3 ⟨i,σ3,H3,I3,st3,Lb,w3⟩
 rcases turn i n σ3 H3 w3 with⟨stop,qn⟩|⟨go,N,hN,step⟩
 ·refine wpAny_passesOwn hp (cW (T.done X rfl rfl rfl hc i pins s3 σ3 H3 X.xe I3 (stat Lb) st3 stop) λr s4 ⟨hr,I4⟩=>?_)
  subst hr
  exact wpAny_execs_nil ⟨σ3,H3,I4,qn⟩
 ·refine wpAny_passesOwn hp (cW (T.item X rfl rfl rfl hc i pins s3 σ3 H3 X.xe I3 (stat Lb) st3 go) λr s4 ⟨u,hr,h4⟩=>?_)
  subst hr
  refine wpAny_passesOwn hp (cW h4 λ_ s5 ⟨x,H5,I5,r5,y5,lq,yM⟩=>?_)
  have UW:=I5.pinned (stat yM) (T.obj _ _ lq)
  refine wpAny_passesOwn hp (cW (hg _ s5 σ3 H5 x u _ UW r5 (step x H5 y5)) λ_ s6 ⟨σ6,H6,I6,q6⟩=>?_)
  refine wpAny_passesOwn hp (cW (hb _ s6 σ6 H6 _ I6 q6) λf s7 q7=>?_)
  have again:∀{σ7:St} {H7:Hp},Inv X (pins++yI fp s5.heap) σ7 H7 s7->N σ7 H7->∃m,m<n/\∃i σ' H',Inv X pins σ' H' s7/\tn i s7.heap/\(∀b∈fp,H' b=none)/\W i m σ' H':=λ{σ7 H7} I7 n7=>by
   obtain⟨m',hm,w7⟩:=hN σ7 H7 n7
   refine⟨m',hm,i+1,σ7,H7,I7.yK,T.keep _ _ _ lq λb hb o e=>(I7.pin (b,o) (List.mem_append_right _ (List.mem_append_right _ (yJ hb e)))).1,λb hb=>?_,w7⟩
   obtain⟨o,e,d⟩:=T.obj _ _ lq b hb
   exact(I7.pin (b,o) (List.mem_append_right _ (List.mem_append_right _ (yJ hb e)))).2.1
  cases f with
  |next=>obtain⟨σ7,H7,I7,n7⟩:=q7; exact again I7 n7
  |cont=>obtain⟨σ7,H7,I7,n7⟩:=q7; exact again I7 n7
  |brk=>obtain⟨σ7,H7,I7,q7⟩:=q7; exact⟨σ7,H7,I7.yK,q7⟩
  |ret v=>obtain⟨x7,σ7,H7,I7,r7,q7⟩:=q7; exact⟨x7,σ7,H7,I7.yK,r7,q7⟩
end
end L2
namespace L2
open PySem PySem.Spec PyProof.Rows
abbrev R2:=V->V->Hp->VK->Prop
noncomputable def fH(X:Cx)(f:Value->Value->Sem Value)(r:R2):Prop :=
 ∀(pins:List (Addr × Obj)) (s:Shared) (σ : St) (H:Hp) (x y:V) (v u:Value) (Q:VK),Inv X pins σ H s->RelV x v->RelV y u->r x y H Q ->
  wpAny (model X.prog X.w) X.A (f v u) (EP X pins σ Q) X.xe s
def Dr(X:Cx)(f:Value->Sem Value)(r:V->Hp->VK->Prop):Prop :=
 ∀(pins:List (Addr × Obj)) (s:Shared) (σ : St) (H:Hp) (x:V) (v:Value) (Q:VK),Inv X pins σ H s->RelV x v->r x H Q ->
  wpAny (model X.prog X.w) X.A (f v) (EP X pins σ Q) X.xe s
noncomputable def iK(X:Cx)(f:Value)(r:List V->Hp->VK->Prop):Prop :=
 ∀(pins:List (Addr × Obj)) (s:Shared) (σ : St) (H:Hp) (xs:List V) (us:List Value) (Q:VK),Inv X pins σ H s->Vals xs us->r xs H Q ->
  wpAny (model X.prog X.w) X.A (call f us) (EP X pins σ Q) X.xe s
noncomputable def U0(X:Cx)(r:V->Hp->(Bool->Hp->Prop)->Prop):Prop :=
 ∀(pins:List (Addr × Obj)) (s:Shared) (σ : St) (H:Hp) (x:V) (v:Value) (Q:Bool->Hp->Prop),Inv X pins σ H s->RelV x v->r x H Q ->
  wpAny (model X.prog X.w) X.A (truthy v) (TP X pins σ Q) X.xe s
def gF(r:R2)(ta tb:TE):TE:=λσ H Q=>ta σ H λx H1=>tb σ H1 λy H2=>r x y H2 Q
def yN(r:V->Hp->VK->Prop)(ta:TE):TE:=λσ H Q=>ta σ H λx H1=>r x H1 Q
def rI(C:Int->Int->Prop)(g:Int->Int->V):R2:=λx y H Q=>∃i j,x=.int i/\y=.int j/\C i j/\Q (g i j) H
def jq(g:Int->Int->V):R2:=λx y H Q=>∃i j,x=.int i/\y=.int j/\Q (g i j) H
def rU(g:Int->V):V->Hp->VK->Prop:=λx H Q=>∃i,x=.int i/\Q (g i) H
section
variable {X:Cx}{a b c:Expr}{ta tb tc:TE}{pos:Pos}
theorem Ds(ha:PE X a ta)(hb:PE X b tb){pins:List (Addr × Obj)}{s:Shared}{σ : St}{H:Hp}{R:V->V->Hp->Prop}(I:Inv X pins σ H s)
  (h:ta σ H λx H1=>tb σ H1 λy H2=>R x y H2) {Q:Value->Shared->Prop} {f:Value->Value->Sem Value}
  (hf:∀v u s2 x y H2,Inv X pins σ H2 s2->RelV x v->RelV y u->R x y H2->wpAny (model X.prog X.w) X.A (f v u) Q X.xe s2) :
  wpAny (model X.prog X.w) X.A (eval a X.env) (λv s₁=>wpAny (model X.prog X.w) X.A (eval b X.env) (λu s₂=>wpAny (model X.prog X.w) X.A (f v u) Q X.xe s₂) X.xe s₁) X.xe s:=by
 refine cW (ha pins s σ H _ I h) λv s1 ⟨x,H1,I1,r1,q1⟩=>?_
 refine cW (hb pins s1 σ H1 _ I1 q1) λu s2 ⟨y,H2,I2,r2,q2⟩=>?_
 exact hf v u s2 x y H2 I2 r1 r2 q2
theorem dh{op:Operator}{r:R2}(ho:fH X (binaryOp op) r)(ha:PE X a ta)(hb:PE X b tb):PE X (.BinOp a op b pos) (gF r ta tb):=by
 refine⟨λpins s σ H Q I h=>?_⟩
 exact wpAny_BinOp (Ds ha hb I h λv u s2 x y H2 I2 rx ry q=>ho pins s2 σ H2 x y v u Q I2 rx ry q)
theorem U3{op:UnaryOp}{r:V->Hp->VK->Prop}(ho:Dr X (unaryOp op) r)(ha:PE X a ta):PE X (.UnaryOp op a pos) (yN r ta):=by
 refine⟨λpins s σ H Q I h=>?_⟩
 exact UnaryOp_ (cW (ha pins s σ H _ I h) λv s1 ⟨x,H1,I1,r1,q1⟩=>ho pins s1 σ H1 x v Q I1 r1 q1)
theorem yO{f:Value->Value->Sem Value}{C:Int->Int->Prop}{g:Int->Int->Int}
  (rule:∀(i j:Int) (t u:Tok) (s:Shared) (Q:Value->Shared->Prop) (E:Value->Shared->Prop),C i j->Q (.int (g i j) s.toks) {s with toks:=s.toks+1 }->wpAny (model X.prog X.w) X.A (f (.int i t) (.int j u)) Q E s) :
  fH X f (rI C λi j=>.int (g i j)):=by
 intro pins s σ H x y v u Q I rx ry h
 obtain⟨i,j,rfl,rfl,hc,q⟩:=h
 obtain⟨t,rfl⟩:=rx
 obtain⟨t',rfl⟩:=ry
 exact rule i j t t' s _ _ hc ⟨.int (g i j),H,I.tok _,⟨_,rfl⟩,q⟩
theorem Ld{f:Value->Value->Sem Value}{g:Int->Int->Int}
  (rule:∀(i j:Int) (t u:Tok) (s:Shared) (Q:Value->Shared->Prop) (E:Value->Shared->Prop),Q (.int (g i j) s.toks) {s with toks:=s.toks+1 }->wpAny (model X.prog X.w) X.A (f (.int i t) (.int j u)) Q E s) :
  fH X f (jq λi j=>.int (g i j)):=by
 intro pins s σ H x y v u Q I rx ry h
 obtain⟨i,j,rfl,rfl,q⟩:=h
 obtain⟨t,rfl⟩:=rx
 obtain⟨t',rfl⟩:=ry
 exact rule i j t t' s _ _ ⟨.int (g i j),H,I.tok _,⟨_,rfl⟩,q⟩
theorem yP{f:Value->Value->Sem Value}{g:Int->Int->Bool}
  (rule:∀(i j:Int) (t u:Tok) (s:Shared) (Q:Value->Shared->Prop) (E:Value->Shared->Prop),Q (.bool (g i j)) s->wpAny (model X.prog X.w) X.A (f (.int i t) (.int j u)) Q E s) :
  fH X f (jq λi j=>.bl (g i j)):=by
 intro pins s σ H x y v u Q I rx ry h
 obtain⟨i,j,rfl,rfl,q⟩:=h
 obtain⟨t,rfl⟩:=rx
 obtain⟨t',rfl⟩:=ry
 exact rule i j t t' s _ _ ⟨.bl (g i j),H,I,rfl,q⟩
def Dt(i j:Int):Prop:=0<=j/\j<=1000000/\i.natAbs<2 ^ 64
theorem Le:fH X (binaryOp .Add) (jq λi j=>.int (i+j)):=Ld λ_ _ _ _ _ _ _ q=>add_int q
theorem pY:fH X (binaryOp .Sub) (jq λi j=>.int (i-j)):=Ld λ_ _ _ _ _ _ _ q=>sub_int q
theorem pZ:fH X (binaryOp .Mod) (rI (λ_ j=>j≠0) λi j=>.int (i.fmod j)):=yO λ_ _ _ _ _ _ _ hc q=>mod_int' hc q
theorem vL:fH X (binaryOp .Pow) (rI Dt λi j=>.int (i ^ j.toNat)):=yO λ_ _ _ _ _ _ _ hc q=>pow_int_small hc.1 hc.2.1 hc.2.2 q
theorem U4{f:Value->Sem Value}{g:Int->Int}
  (rule:∀(i:Int) (t:Tok) (s:Shared) (Q:Value->Shared->Prop) (E:Value->Shared->Prop),Q (.int (g i) s.toks) {s with toks:=s.toks+1 }->wpAny (model X.prog X.w) X.A (f (.int i t)) Q E s) :
  Dr X f (rU λi=>.int (g i)):=by
 intro pins s σ H x v Q I rx h
 obtain⟨i,rfl,q⟩:=h
 obtain⟨t,rfl⟩:=rx
 exact rule i t s _ _ ⟨.int (g i),H,I.tok _,⟨_,rfl⟩,q⟩
theorem U5:Dr X (unaryOp .USub) (rU λi=>.int (-i)):=U4 λ_ _ _ _ _ q=>neg_int q
end
section
variable {X:Cx}{a b c:Expr}{ta tb tc:TE}{pos:Pos}
theorem U6{pins:List (Addr × Obj)}{σ : St}{H:Hp}{s:Shared}{Q:VK}{k k':Bool}(I:Inv X pins σ H s)(q:Q (.bl k) H)(e:k=k'):EP X pins σ Q (.bool k') s:=by
 subst e
 exact⟨.bl k,H,I,rfl,q⟩
theorem U7:fH X (compareOp .Lt) (jq λi j=>.bl (decide (i<j))):=yP λ_ _ _ _ _ _ _ q=>lt_int q
theorem oM:fH X (compareOp .LtE) (jq λi j=>.bl (decide (i<=j))):=yP λ_ _ _ _ _ _ _ q=>le_int q
theorem Du:fH X (compareOp .Gt) (jq λi j=>.bl (decide (j<i))):=yP λ_ _ _ _ _ _ _ q=>gt_int q
theorem yQ:fH X (compareOp .GtE) (jq λi j=>.bl (decide (j<=i))):=yP λ_ _ _ _ _ _ _ q=>ge_int q
theorem U8:fH X (compareOp .Is) (λx y H Q=>y=.non/\Q (.bl (decide (x=.non))) H):=by
 intro pins s σ H x y v u Q I rx ry h
 obtain⟨rfl,q⟩:=h
 cases ry
 refine is_none_gen (U6 I q ?_)
 cases x <;> first
  |(cases rx; rfl)
  |(obtain⟨t,rfl⟩:=rx; rfl)
theorem fH.or{f:Value->Value->Sem Value}{r r':R2}(h:fH X f r)(h':fH X f r'):fH X f (λx y H Q=>r x y H Q\/r' x y H Q):=by
 intro pins s σ H x y v u Q I rx ry q
 rcases q with q|q
 ·exact h pins s σ H x y v u Q I rx ry q
 ·exact h' pins s σ H x y v u Q I rx ry q
theorem dI(b:Expr){op:CmpOp}(h:op ≠ .In:=by decide)(h2:op ≠ .NotIn:=by decide):behindInMarks op b=false:=by
 have e1:(op == CmpOp.In)=false:=by cases op <;> first|rfl|exact absurd rfl h
 have e2:(op == CmpOp.NotIn)=false:=by cases op <;> first|rfl|exact absurd rfl h2
 cases b <;> simp[behindInMarks,e1,e2]
theorem jU{op:CmpOp}{r:R2}(ho:fH X (compareOp op) r)(ha:PE X a ta)(hb:PE X b tb)(hm:behindInMarks op b=false):PE X (.Compare a [op] [b] pos) (gF r ta tb):=by
 refine⟨λpins s σ H Q I h=>?_⟩
 exact wpAny_Compare1 (Ds ha hb I h λv u s2 x y H2 I2 rx ry q=>ho pins s2 σ H2 x y v u Q I2 rx ry q) hm
def Dv(t:TE):TT:=λσ H Q=>t σ H λx H'=>∃k,x=.bl k/\Q k H'
theorem fB{op:CmpOp}{r:R2}(ho:fH X (compareOp op) r)(ha:PE X a ta)(hb:PE X b tb)(hm:behindInMarks op b=false):PT X (.Compare a [op] [b] pos) (Dv (gF r ta tb)):=by
 refine⟨λpins s σ H Q I h=>?_⟩
 refine wpAny_isTrue_Compare1 (cW (ha pins s σ H _ I h) λv s1 ⟨x,H1,I1,r1,q1⟩=>cW (hb pins s1 σ H1 _ I1 q1) λu s2 ⟨y,H2,I2,r2,q2⟩ =>
  cW (ho pins s2 σ H2 x y v u _ I2 r1 r2 q2) λc s3 ⟨z,H3,I3,r3,k,e,q3⟩=>?_) hm
 subst e
 cases r3
 exact wpAny_truthy_bool ⟨H3,I3,q3⟩
def yR(r r':R2)(ta tb tc:TE):TE:=λσ H Q=>ta σ H λx H1=>tb σ H1 λy H2=>r x y H2 λz H3=>∃k,z=.bl k /\
 (if k=true then tc σ H3 λw' H4=>r' y w' H4 Q else Q (.bl false) H3)
theorem Lf{op op':CmpOp}{r r':R2}(ho:fH X (compareOp op) r)(ho':fH X (compareOp op') r')(ha:PE X a ta)(hb:PE X b tb)(hc:PE X c tc)
  (hm:lastMarks [op,op'] [b,c]=false:=by with_unfolding_all rfl):PE X (.Compare a [op,op'] [b,c] pos) (yR r r' ta tb tc):=by
 refine⟨λpins s σ H Q I h=>?_⟩
 refine Compare_chain (cW (ha pins s σ H _ I h) λv s1 ⟨x,H1,I1,r1,q1⟩=>chain_link (cW (hb pins s1 σ H1 _ I1 q1) λu s2 ⟨y,H2,I2,r2,q2⟩ =>
  cW (ho pins s2 σ H2 x y v u _ I2 r1 r2 q2) λd s3 ⟨z,H3,I3,r3,k,e,q3⟩=>?_)) hm
 subst e
 cases r3
 refine wpAny_truthy_bool ?_
 cases k with
 |false=>exact ite_ff ⟨.bl false,H3,I3,rfl,q3⟩
 |true=>exact ite_tt (chain_last (cW (hc pins s3 σ H3 _ I3 q3) λw' s4 ⟨z',H4,I4,r4,q4⟩=>ho' pins s4 σ H4 y z' u w' Q I4 r2 r4 q4))
theorem Lg{op op':CmpOp}{r r':R2}(ho:fH X (compareOp op) r)(ho':fH X (compareOp op') r')(ha:PE X a ta)(hb:PE X b tb)(hc:PE X c tc)
  (hm:lastMarks [op,op'] [b,c]=false:=by with_unfolding_all rfl):PT X (.Compare a [op,op'] [b,c] pos) (Dv (yR r r' ta tb tc)):=by
 refine⟨λpins s σ H Q I h=>?_⟩
 refine isTrue_chain (cW (ha pins s σ H _ I h) λv s1 ⟨x,H1,I1,r1,q1⟩=>test_link (cW (hb pins s1 σ H1 _ I1 q1) λu s2 ⟨y,H2,I2,r2,q2⟩ =>
  cW (ho pins s2 σ H2 x y v u _ I2 r1 r2 q2) λd s3 ⟨z,H3,I3,r3,k,e,q3⟩=>?_)) hm
 subst e
 cases r3
 refine wpAny_truthy_bool ?_
 cases k with
 |false =>
  obtain⟨k',e',q'⟩:=q3
  cases e'
  exact ite_ff ⟨H3,I3,q'⟩
 |true =>
  refine ite_tt (test_last (cW (hc pins s3 σ H3 _ I3 q3) λw' s4 ⟨z',H4,I4,r4,q4⟩=>cW (ho' pins s4 σ H4 y z' u w' _ I4 r2 r4 q4) λd' s5 ⟨z2,H5,I5,r5,k2,e2,q5⟩=>?_))
  subst e2
  cases r5
  exact wpAny_truthy_bool ⟨H5,I5,q5⟩
noncomputable def vM(K:FZ)(x:V)(H:Hp)(k:Bool):Prop :=
 match x with
 |.non=>k=false
 |.bl b=>k=b
 |.int i=>k=(i != 0)
 |.str y=>y.length<=sizeLine/\k=((y.length:Int) != 0)
 |.vD y=>y.size<=sizeLine/\k=((y.size:Int) != 0)
 |.ref p=>(∃xs,eF K H p xs/\k = !xs.isEmpty)\/(∃xs,fM K H p xs/\k = !xs.isEmpty)\/∃kvs,H p=some (.dK kvs)/\k = !kvs.isEmpty
 |_=>False
theorem U9{κ : Type}{kvs:List (κ × V)}{vs:List (κ × Value)}(r:KV kvs vs):(!vs.isEmpty) = !kvs.isEmpty:=by
 cases r <;> rfl
theorem Lh{xs:List V}{its:List Value}(r:Vals xs its):(!its.toArray.isEmpty) = !xs.isEmpty:=by
 cases r <;> simp
theorem sG:(sizeLine:Nat)<2 ^ 63:=by rw[sizeLine_eq]; decide
theorem Va:U0 X (λx H Q=>∃k,vM X.K x H k/\Q k H):=by
 intro pins s σ H x v Q I rx h
 obtain⟨k,e,q⟩:=h
 have hl:=sG
 have hs:sizeLine=16777216:=sizeLine_eq
 cases x with
 |non =>
  cases rx
  have e':k=false:=e
  subst e'
  exact truthy_none ⟨H,I,q⟩
 |bl b =>
  cases rx
  have e':k=b:=e
  subst e'
  exact wpAny_truthy_bool ⟨H,I,q⟩
 |int i =>
  obtain⟨t,rfl⟩:=rx
  have e':k=(i != 0):=e
  subst e'
  exact PySem.P.truthy_int ⟨H,I,q⟩
 |str y =>
  obtain⟨t,rfl⟩:=rx
  obtain⟨hy,e'⟩:y.length<=sizeLine/\k=((y.length:Int) != 0):=e
  subst e'
  exact PySem.P.truthy_str (by omega) ⟨H,I.tok _,q⟩
 |vD y =>
  obtain⟨t,rfl⟩:=rx
  obtain⟨hy,e'⟩:y.size<=sizeLine/\k=((y.size:Int) != 0):=e
  subst e'
  exact PySem.W.truthy_bytes (by omega) ⟨H,I.tok _,q⟩
 |ref p =>
  cases rx
  have e':(∃xs,eF X.K H p xs/\k = !xs.isEmpty)\/(∃xs,fM X.K H p xs/\k = !xs.isEmpty)\/∃kvs,H p=some (.dK kvs)/\k = !kvs.isEmpty:=e
  rcases e' with⟨xs,hx,e'⟩|⟨xs,hx,e'⟩|⟨kvs,hx,e'⟩
  ·subst e'
   obtain⟨its,r,pl,hz⟩:=I.list hx
   have hlen:=r.length
   exact wpAny_truthy_list pl.isList (by simp only[List.size_toArray]; omega) ⟨H,I.tok _,by rw[Lh r]; exact q⟩
  ·subst e'
   obtain⟨its,r,pl,hz⟩:=I.tuple hx
   have hlen:=r.length
   exact truthy_tuple pl (by simp only[List.size_toArray]; omega) ⟨H,I.tok _,by rw[Lh r]; exact q⟩
  ·subst e'
   obtain⟨hz,hS,vs,r,m⟩:kvs.length<=sizeLine/\(p == sysModules)=false/\∃vs,KV kvs vs/\s.heap.DictOf (CW X.prog X.w) p vs:=I.hok p _ hx
   have hlen:kvs.length=vs.length:=Paired.length r
   exact wpAny_truthy_dict hS m (by omega) ⟨H,I.tok _,by rw[U9 r]; exact q⟩
 |_=>exact(show False from e).elim
theorem fZ(ha:PE X a ta)(he:∀whole,isTrue a X.env whole=(do let v <-whole; standAt a.pos; holding [v] (truthy v))) :
  PT X a (λσ H Q=>ta σ H λx H'=>∃k,vM X.K x H' k/\Q k H'):=by
 refine⟨λpins s σ H Q I h=>?_⟩
 exact isTrue_plain (cW (ha pins s σ H _ I h) λv s1 ⟨x,H1,I1,r1,q1⟩=>Va pins s1 σ H1 x v Q I1 r1 q1) (he _)
theorem Vb:fH X (binaryOp .Add) (λx y H Q=>∃i j,x=.str i/\y=.str j/\i.length+j.length<=sizeLine/\Q (.str (i++j)) H):=by
 intro pins s σ H x y v u Q I rx ry h
 obtain⟨i,j,rfl,rfl,hz,q⟩:=h
 obtain⟨t,rfl⟩:=rx
 obtain⟨t',rfl⟩:=ry
 exact add_str (λt' tk=>⟨.str (i++j),H,I.tok _,⟨_,rfl⟩,q⟩) hz
theorem vals1{x:V}{us:List Value}(r:Vals [x] us):∃u,us=[u]/\RelV x u:=by
 cases r with
 |cons r1 r2=>cases r2; exact⟨_,rfl,r1⟩
theorem vals2{x y:V}{us:List Value}(r:Vals [x,y] us):∃u w',us=[u,w']/\RelV x u/\RelV y w':=by
 cases r with
 |cons r1 r2 =>
  cases r2 with
  |cons r3 r4=>cases r4; exact⟨_,_,rfl,r1,r3⟩
theorem Li:iK X (.builtin "abs") (λxs H Q=>∃i,xs=[.int i]/\Q (.int (if i<0 then -i else i)) H):=by
 intro pins s σ H xs us Q I r h
 obtain⟨i,rfl,q⟩:=h
 obtain⟨u,rfl,t,rfl⟩:=vals1 r
 exact call_abs_int λu tk=>⟨.int (if i<0 then -i else i),H,I.tok _,⟨_,rfl⟩,q⟩
theorem Vc(hc:X.calm=true):iK X (.builtin "max") (λxs H Q=>∃i j,xs=[.int i,.int j]/\Q (.int (if j > i then j else i)) H):=by
 intro pins s σ H xs us Q I r h
 obtain⟨i,j,rfl,q⟩:=h
 obtain⟨u,w',rfl,⟨t,rfl⟩,⟨t',rfl⟩⟩:=vals2 r
 refine max_two_ints (I.ok.hd hc) λh' tk k=>⟨_,H,I.kept k,?_,q⟩
 by_cases hj:j > i
 ·rw[if_pos hj,if_pos hj]; exact⟨_,rfl⟩
 ·rw[if_neg hj,if_neg hj]; exact⟨_,rfl⟩
theorem Vd(hc:X.calm=true):iK X (.builtin "min") (λxs H Q=>∃i j,xs=[.int i,.int j]/\Q (.int (if j<i then j else i)) H):=by
 intro pins s σ H xs us Q I r h
 obtain⟨i,j,rfl,q⟩:=h
 obtain⟨u,w',rfl,⟨t,rfl⟩,⟨t',rfl⟩⟩:=vals2 r
 refine min_two_ints (I.ok.hd hc) λh' tk k=>⟨_,H,I.kept k,?_,q⟩
 by_cases hj:j<i
 ·rw[if_pos hj,if_pos hj]; exact⟨_,rfl⟩
 ·rw[if_neg hj,if_neg hj]; exact⟨_,rfl⟩
end
end L2
namespace L2
open PySem PySem.Spec PyProof.Rows
section
variable {prog:Program}{w:World}{A:Around}{E:Value->Shared->Prop}{s:Shared}{K:FZ}{x dx C f:Addr}{mA:Str->Option Value}{name:Str}{v:Value}
end
section
variable {P:Program}{w:World}{H H':Hp}{h h':Heap}{a C dx:Addr}{fs fs':List (Str × V)}
end
section
variable {X:Cx}{pins:List (Addr × Obj)}{σ : St}{H:Hp}{s:Shared}{a C dx:Addr}{fs:List (Str × V)}{f:Str}{v:V}{A:Around}{E:Value->Shared->Prop}
end
section
variable {X:Cx}{o e value:Expr}{f:Str}{pos pos' tpos:Pos}{ta tv:TE}
end
section
variable {X:Cx}{pins:List (Addr × Obj)}{σ : St}{H:Hp}{s:Shared}{A:Around}{E:Value->Shared->Prop}{Q:Value->Shared->Prop}{c:Value}{b:Bool}
end
end L2
namespace L2
open PySem PySem.Spec PyProof.Rows
structure gZ(k:Nat)(A:Around):Prop where
 hd:A.handled=none
 dp:A.depth+3*k+5<recursionLimit
 un:A.units+16*k+200<cLine
 gd:A.guards=some []:=by rfl
theorem gZ.mono{j k:Nat}{A:Around}(r:gZ k A)(h:j<=k):gZ j A:=⟨r.hd,by have:=r.dp; omega,by have:=r.un; omega,r.gd⟩
theorem gZ.deeper{k:Nat}{A:Around}(r:gZ (k+1) A)(env:Env):gZ k (A.deeper env) :=
 ⟨r.hd,by have:=r.dp; show A.depth+1+3*k+5<_; omega,by have:=r.un; show A.units+3+16*k+200<_; omega,r.gd⟩
theorem gZ.depth{k:Nat}{A:Around}(r:gZ k A):A.depth<recursionLimit:=by have:=r.dp; omega
theorem gZ.units{k:Nat}{A:Around}(r:gZ k A):A.units+64<cLine:=by have:=r.un; omega
def mH:TA:=λ_ H Q=>Q [] H
def ji(ta:TE)(tr:TA):TA:=λσ H Q=>ta σ H λx H1=>tr σ H1 λxs H2=>Q (x::xs) H2
section
variable {X:Cx}{e:Expr}{es:List Expr}{te:TE}{t:TA}{pos:Pos}
theorem aH:PA X [] mH:=⟨λ_ _ _ _ H Q I h=>Calls.spliced_nil ⟨[],H,I,.nil,h⟩⟩
theorem nu(ha:PE X e te)(hr:PA X es t)(hs:starEach (e::es) X.env=(false,eval e X.env)::starEach es X.env:=by rfl):PA X (e::es) (ji te t):=by
 refine⟨λpos pins s σ H Q I h=>?_⟩
 rw[hs]
 show wpAny _ _ (spliced ((false,eval e X.env)::backTo pos (starEach es X.env))) _ _ s
 refine Calls.spliced_cons (cW (ha pins s σ H _ I h) λu s1 ⟨x,H1,I1,r1,q1⟩=>?_)
 exact cW (hr pos pins s1 σ H1 _ I1 q1) λus s2 ⟨xs,H2,I2,r2,q2⟩=>⟨x::xs,H2,I2,.cons r1 r2,q2⟩
def Lj(t:TA):TE:=λσ H Q=>t σ H λxs H1=>xs.length<=sizeLine/\∀p,H1 p=none->Q (.ref p) (upd H1 p (.tup xs))
def Lk(t:TA):TE:=λσ H Q=>t σ H λxs H1=>xs.length<=sizeLine/\∀p,H1 p=none->Q (.ref p) (upd H1 p (.lst xs))
theorem nA{x1}(h:PA X es t):PE X (.Tuple es x1 pos) (Lj t):=by
 refine⟨λpins s σ H Q I hq=>?_⟩
 refine wpAny_Tuple_spliced (cW (h pos pins s σ H _ I hq) λus s1 ⟨xs,H1,I1,r,z,q⟩=>⟨by rw[<-r.length]; exact z,?_⟩)
 have hf:H1 s1.heap.objs.size=none:=I1.hok.fresh (Nat.le_refl _)
 refine⟨.ref s1.heap.objs.size,upd H1 s1.heap.objs.size (.tup xs),I1.laid (t':=s1.toks) (λb u e=>Heap.get?_push_of_some _ e) (Nat.le_refl _) ?_,rfl,q _ hf⟩
 exact⟨z,us,r,⟨_,Heap.get?_push_size _ rfl,rfl,_,rfl⟩⟩
theorem jd(h:PA X es t):PE X (.List es pos) (Lk t):=by
 refine⟨λpins s σ H Q I hq=>?_⟩
 refine wpAny_List_spliced (cW (h pos pins s σ H _ I hq) λus s1 ⟨xs,H1,I1,r,z,q⟩=>⟨by rw[<-r.length]; exact z,?_⟩)
 have hf:H1 s1.heap.objs.size=none:=I1.hok.fresh (Nat.le_refl _)
 refine⟨.ref s1.heap.objs.size,upd H1 s1.heap.objs.size (.lst xs),I1.laid (t':=s1.toks) (λb u e=>Heap.get?_push_of_some _ e) (Nat.le_refl _) ?_,rfl,q _ hf⟩
 exact⟨z,us,0,r,Heap.get?_push_size _ rfl⟩
end
abbrev Sp:=List V->Hp->VK->XK->Prop
abbrev lN:=List Env->Hp->Shared->XK->Value->Shared->Prop
structure yS(P:Program)(w:World)(K:FZ)(mg:Str->Option Value)(base:Heap)(A:Around)(outer:List Env)(s:Shared)(H:Hp):Prop where
 frames:A.frames=some outer
 mod:Mod K mg base
 bs:∀b o,base.get? b=some o->s.heap.get? b=some o/\H b=none
 qH:base.objs.size<=s.heap.objs.size
 mz:s.heap.FunFrames base outer
 qI:∀b∈frs outer,H b=none
 hok:gR P w H s.heap
 bare:AllBare s.gens
def CE(outer:List Env)(P:Program)(w:World)(H:Hp)(s:Shared)(Q:VK)(u:Value)(s':Shared):Prop :=
 ∃v H',s'.os=s.os/\AllBare s'.gens/\Un (frs outer) [] H H' s.heap s'.heap/\gR P w H' s'.heap/\RelV v u/\Q v H'
def CR(CX:lN)(outer:List Env)(P:Program)(w:World)(H:Hp)(s:Shared)(Q:VK)(E:XK)(r:Result)(s':Shared):Prop :=
 match r with
 |.ok (.ret u)=>CE outer P w H s Q u s'
 |.ok _=>False
 |.error e=>CX outer H s E e s'
structure lO(P:Program)(w:World)(K:FZ)(mg:Str->Option Value)(base:Heap)(CX:lN)(k:Nat)(f:Addr)(fd:FuncData)(ps:List Str)(sp:Sp):Prop where
 len:∀vs H Q E,sp vs H Q E->vs.length=ps.length
 run:∀(A:Around) (outer:List Env) (s:Shared) (H:Hp) (args:Args) (us:List Value) (vs:List V) (Q:VK) (E:XK),gZ k A->yS P w K mg base A outer s H->BindsTo s fd args (ps.zip us)->Vals vs us->sp vs H Q E ->
  codeAny (model P w) A (.call (.ref f) args) (CR CX outer P w H s Q E) s
theorem lO.mono{P:Program}{w:World}{K:FZ}{mg:Str->Option Value}{base:Heap}{CX:lN}{j k:Nat}{f:Addr}{fd:FuncData}{ps:List Str}{sp:Sp}(F:lO P w K mg base CX j f fd ps sp)(h:j<=k) :
  lO P w K mg base CX k f fd ps sp:=⟨F.len,λA outer s H args us vs Q E hr=>F.run A outer s H args us vs Q E (hr.mono h)⟩
theorem lO.imp{P:Program}{w:World}{K:FZ}{mg:Str->Option Value}{base:Heap}{CX:lN}{k:Nat}{f:Addr}{fd:FuncData}{ps:List Str}{sp Ln:Sp}(F:lO P w K mg base CX k f fd ps sp)
  (h:∀vs H Q E,Ln vs H Q E->sp vs H Q E):lO P w K mg base CX k f fd ps Ln :=
 ⟨λvs H Q E q=>F.len vs H Q E (h _ _ _ _ q),λA outer s H args us vs Q E hr he hb hv hs=>F.run A outer s H args us vs Q E hr he hb hv (h _ _ _ _ hs)⟩
section
variable {X:Cx}{pins:List (Addr × Obj)}{σ : St}{H:Hp}{s s':Shared}
theorem Inv.env0(I:Inv X pins σ H s):yS X.prog X.w X.K X.mg X.base X.A X.stack s H :=
 ⟨I.ok.frames,I.ok.mod,I.bs,Nat.le_trans I.ok.qH I.sz,I.stack,I.vH,I.hok,I.bare⟩
theorem Inv.after{Q:VK}{u:Value}(I:Inv X pins σ H s)(h:CE X.stack X.prog X.w H s Q u s'):EP X pins σ Q u s':=by
 obtain⟨v,H',os,bare,un,hok,r,q⟩:=h
 obtain⟨hh,g,d,t,os'⟩:=s'
 obtain rfl:os'=s.os:=os
 exact⟨v,H',I.call (h':=hh) (g':=g) (d':=d) (t':=t) (ch:=[]) un hok bare (λb z=>absurd z (by simp)),r,q⟩
end
def oN(sp:Sp)(qK:List V)(E:XK)(t:TA):TE:=λσ H Q=>t σ H λvs H1=>sp (vs++qK) H1 Q E
def Binds(K:FZ)(fd:FuncData)(ps:List Str)(ds:List Value):Prop :=
 ∀(s:Shared) (us:List Value),K.In s.heap->(us++ds).length=ps.length->BindsTo s fd ⟨us,[]⟩ (ps.zip (us++ds))
theorem Binds.all{K:FZ}{fd:FuncData}{ps:List Str}(h:∀us:List Value,us.length=ps.length->bindArgs fd ⟨us,[]⟩=pure (ps.zip us)):Binds K fd ps []:=λs us _ hl=>by
 rw[List.append_nil]at hl ⊢
 exact .of_eq (h us hl)
def Passes(CX:lN)(X:Cx)(E:XK):Prop:=∀(pins:List (Addr × Obj)) (σ : St) (H:Hp) (s:Shared) (e:Value) (s':Shared),Inv X pins σ H s->CX X.stack H s E e s'->X.xe e s'
section
variable {X:Cx}{CX:lN}{k:Nat}{f C:Addr}{fd:FuncData}{ps:List Str}{sp:Sp}{qK:List V}{ds:List Value}{E:XK}{x m:Str}{p pos apos:Pos}{e o:Expr}{es:List Expr}{ta:TE}{t:TA}
theorem Ve{pins:List (Addr × Obj)}{σ : St}{H:Hp}{s:Shared}{Q:VK}{us:List Value}{vs:List V}(F:lO X.prog X.w X.K X.mg X.base CX k f fd ps sp)(hr:gZ k X.A)(hb:Binds X.K fd ps ds)(hd:Vals qK ds)(hx:Passes CX X E)
  (I:Inv X pins σ H s) (r:Vals vs us) (h:sp (vs++qK) H Q E):wpAny (model X.prog X.w) X.A (call (.ref f) us) (EP X pins σ Q) X.xe s:=by
 have r2:Vals (vs++qK) (us++ds):=r.append hd
 have hl:(us++ds).length=ps.length:=by rw[<-r2.length]; exact F.len _ _ _ _ h
 refine wpAny_call (codeAny_mono (F.run X.A X.stack s H ⟨us,[]⟩ (us++ds) (vs++qK) Q E hr I.env0 (hb s us I.jA hl) r2 h) λr s' hq=>?_)
 cases r with
 |error e=>exact hx pins σ H s e s' I hq
 |ok fl =>
  cases fl with
  |ret u=>exact I.after hq
  |next=>exact False.elim hq
  |brk=>exact False.elim hq
  |cont=>exact False.elim hq
theorem Vf(F:lO X.prog X.w X.K X.mg X.base CX k f fd ps sp)(hr:gZ k X.A)(hg:Gl X x)(hm:X.mg x=some (.ref f))(hk:PySem.W.keepIn X.K (.ref f)=true)(hb:Binds X.K fd ps ds)(hd:Vals qK ds)(hx:Passes CX X E)
  (ha:PA X (e::es) t) (hdb:(x == ("__debug__" : Str))=false:=by decide) (he:starEach (e::es) X.env=(false,eval e X.env)::starEach es X.env:=by rfl) (hpl:(backTo pos (starEach es X.env)).any (·.1)=false:=by rfl) :
  PE X (.Call (.Name x p) (e::es) [] pos) (oN sp qK E t):=by
 refine⟨λpins s σ H Q I h=>?_⟩
 refine wpAny_Call_Name_kw (vJ I hg hm ?_ hdb)
 refine PySem.W.callWith_K (h₀ := X.base) I.ok.mod.yw hk (cW (ha pos pins s σ H _ I h) λus s1 ⟨vs,H1,I1,r,q⟩=>⟨I1.jA,?_⟩) he hpl
 exact Ve F hr hb hd hx I1 r q
end
section
variable {X:Cx}{CX:lN}{k:Nat}{f C:Addr}{fd:FuncData}{ps ks:List Str}{sp:Sp}{E:XK}{x m:Str}{p pos apos kpos:Pos}{e o:Expr}{es:List Expr}{kws:List Keyword}{te ta:TE}{t tk:TA}{nm:Option Str}
variable {g:List Value->List Value->List Value}{gV:List V->List V->List V}
end
structure sH(N P:List Str)(sc:Scope):Prop where
 kind:sc.kind=.function
 co:sc.isCoroutine=false
 gen:sc.isGenerator=false
 nd:N.Nodup
 pre:N.take P.length=P
 par:∀x∈P,sc.names.lookup x=some .local\/sc.names.lookup x=some .cell
 Dw:∀y∈sc.names,y.2 ≠ .free
theorem Lp{kindOf:Str->Option NameKind}{x:Str}:∀{binds:List (Str × Value)} {m:Str->Option Value},(∀v,(x,v)∉binds)->bindL kindOf binds m x=m x
 | [],_,_=>rfl
 |(n,v)::r,m,h=>by
  unfold bindL
  rw[Lp λw hw=>h w (List.mem_cons_of_mem _ hw)]
  split
  ·have:x≠n:=by rintro rfl; exact h v List.mem_cons_self
   simp[this]
  ·rfl
theorem Lq{kindOf:Str->Option NameKind}{x:Str}:∀{binds:List (Str × Value)} {m:Str->Option Value},(∀v,(x,v)∉binds)->bindC kindOf binds m x=m x
 | [],_,_=>rfl
 |(n,v)::r,m,h=>by
  unfold bindC
  rw[Lq λw hw=>h w (List.mem_cons_of_mem _ hw)]
  split
  ·rfl
  ·have:x≠n:=by rintro rfl; exact h v List.mem_cons_self
   simp[this]
theorem Lr{kindOf:Str->Option NameKind}{x:Str}{v:Value}:∀{P:List Str} {vs:List Value} {i:Nat} {m:Str->Option Value},P.Nodup->P[i]?=some x->vs[i]?=some v->kindOf x=some .local ->
  bindL kindOf (P.zip vs) m x=some v
 | [],_,_,_,_,h,_,_=>by simp at h
 |_::_,[],_,_,_,_,h,_=>by simp at h
 |p::P,w::vs,0,m,nd,h1,h2,hk=>by
  simp at h1 h2; subst h1; subst h2
  show bindL kindOf ((p,w)::P.zip vs) m p=_
  unfold bindL
  rw[Lp λv hv=>(List.nodup_cons.mp nd).1 (List.of_mem_zip hv).1,if_pos hk]
  simp
 |p::P,w::vs,i+1,m,nd,h1,h2,hk=>by
  show bindL kindOf ((p,w)::P.zip vs) m x=_
  unfold bindL
  exact Lr (i:=i) (List.nodup_cons.mp nd).2 (by simpa using h1) (by simpa using h2) hk
theorem Ls{kindOf:Str->Option NameKind}{x:Str}{v:Value}:∀{P:List Str} {vs:List Value} {i:Nat} {m:Str->Option Value},P.Nodup->P[i]?=some x->vs[i]?=some v->kindOf x≠some .local ->
  bindC kindOf (P.zip vs) m x=some v
 | [],_,_,_,_,h,_,_=>by simp at h
 |_::_,[],_,_,_,_,h,_=>by simp at h
 |p::P,w::vs,0,m,nd,h1,h2,hk=>by
  simp at h1 h2; subst h1; subst h2
  show bindC kindOf ((p,w)::P.zip vs) m p=_
  unfold bindC
  rw[Lq λv hv=>(List.nodup_cons.mp nd).1 (List.of_mem_zip hv).1,if_neg hk]
  simp
 |p::P,w::vs,i+1,m,nd,h1,h2,hk=>by
  show bindC kindOf ((p,w)::P.zip vs) m x=_
  unfold bindC
  exact Ls (i:=i) (List.nodup_cons.mp nd).2 (by simpa using h1) (by simpa using h2) hk
def start(N:List Str)(vs:List V):St:=vs.map some++List.replicate (N.length-vs.length) none
noncomputable def mJ(CX:lN)(P:Program)(w:World)(K:FZ)(mg:Str->Option Value)(base:Heap)(N:List Str)(qual:Str)(scope:Scope)(f:Addr)(cd:Value)(A:Around)(outer:List Env)(s:Shared)(H:Hp)(E:XK):Cx where
 prog:=P
 w:=w
 K:=K
 mg:=mg
 base:=base
 A:=A.deeper (envOfC qual scope s.heap.objs.size f cd)
 N:=N
 s₀ := s
 H₀ := H
 env:=envOfC qual scope s.heap.objs.size f cd
 outer:=outer
 stack:=envOfC qual scope s.heap.objs.size f cd::outer
 ex:=[]
 calm:=true
 fn:=λ_=>true
 pn:=[]
 xe:=λe s'=>wpAny (model P w) (A.deeper (envOfC qual scope s.heap.objs.size f cd)) (leaving (envOfC qual scope s.heap.objs.size f cd) e) (λ_ s''=>CX outer H s E e s'') (λe' s''=>CX outer H s E e' s'') s'
theorem Lw{sc:Scope}{n:Nat}{x:Str}(h:sc.names.lookup x=some .cell):∃c,(cellsFrom n sc.names []).lookup x=some c:=by
 have q:=PySem.W.cellsFrom_some sc.names n [] (.inl h)
 exact Option.isSome_iff_exists.mp q
theorem Vg{CX:lN}{P:Program}{w:World}{K:FZ}{mg:Str->Option Value}{base:Heap}{N ps:List Str}{qual:Str}{scope:Scope}{f:Addr}{cd:Value}{A:Around}{outer:List Env}{s s1:Shared}{H:Hp}{E:XK}{us:List Value}{vs:List V}
  (S:sH N ps scope) (hd:A.handled=none) (e0:yS P w K mg base A outer s H) (hl:vs.length=ps.length) (r:Vals vs us)
  (x:InCallC s s.heap.objs.size (bindL (envOfC qual scope s.heap.objs.size f cd).kindOf (ps.zip us) λ_=>none) (cellsFrom (s.heap.objs.size+1) scope.names []) (bindC (envOfC qual scope s.heap.objs.size f cd).kindOf (ps.zip us) λ_=>none) s1) :
  Inv (mJ CX P w K mg base N qual scope f cd A outer s H E) [] (start N vs) H s1:=by
 have hpl:ps.length<=N.length:=by have:=congrArg List.length S.pre; rw[List.length_take]at this; omega
 obtain⟨h1,tk,rfl,hk⟩:=x.done
 have vN:∀b:Addr,b∉(mJ CX P w K mg base N qual scope f cd A outer s H E).ex:=λb z=>absurd (show b∈([]:List Addr)from z) (by simp)
 refine⟨⟨e0.mod,S.kind,rfl,rfl,Nat.le_refl _,λy z c h1 h2=>?_,λy hy=>?_,λy c _ h=>?_,λ_=>hd,Around.frames_deeper e0.frames,.inr ⟨rfl,rfl⟩,λb z=>absurd z (vN b),e0.bs,e0.qH,λb _ _=>vN b,λb z=>absurd z (vN b),e0.mz,e0.qI⟩,
  rfl,e0.bare,Un.kept hk,⟨_,x.toInCall.ns,λi y v h1 h2 h3=>?_⟩,λy c h=>⟨_,x.cell y c h⟩,e0.hok.fresh (Nat.le_refl _),λy c h=>?_,λp hp=>absurd (show p∈([]:List (Addr × Obj))from hp) (by simp),e0.hok.kept hk,?_⟩
 ·exact name_of_addr x.apart (PySem.mem_of_lookup h1) (PySem.mem_of_lookup h2)
 ·have hy:scope.names.lookup y=some .cell\/scope.names.lookup y=some .free:=hy
  rcases hy with hy|hy
  ·exact Lw hy
  ·exact absurd rfl (S.Dw _ (PySem.mem_of_lookup hy))
 ·exact Nat.le_of_lt (x.above y c (PySem.mem_of_lookup h))
 ·have hi:i<vs.length:=by
   unfold start at h2
   by_cases hi:i<vs.length
   ·exact hi
   ·rw[List.getElem?_append_right (by simpa using hi)]at h2
    rw[List.getElem?_replicate]at h2
    split at h2 <;> cases h2
  have ha:vs[i]?=some v:=by
   unfold start at h2
   rw[List.getElem?_append_left (by simpa using hi),List.getElem?_map]at h2
   cases e:vs[i]? with
   |none=>rw[e]at h2; cases h2
   |some a=>rw[e]at h2; cases h2; rfl
  obtain⟨u,hu,rv⟩:=r.get ha
  have hp:ps[i]?=some y:=by
   rw[<-S.pre,List.getElem?_take_of_lt (by omega)]; exact h1
  have Lx:ps.Nodup:=by rw[<-S.pre]; exact S.nd.sublist (List.take_sublist _ _)
  refine⟨u,rv,?_⟩
  rcases S.par y (List.mem_of_getElem? hp)with k|k
  ·exact .inl ⟨k,Lr Lx hp hu k⟩
  ·obtain⟨c,e⟩:=Lw (n:=s.heap.objs.size+1) k
   refine .inr ⟨.inl k,c,e,?_⟩
   have q:=x.cell y c e
   rw[Ls Lx hp hu (by show scope.names.lookup y≠_; rw[k]; decide)]at q
   exact q
 ·exact e0.hok.fresh (Nat.le_of_lt (x.above y c (PySem.mem_of_lookup h)))
 ·unfold start
  show _=N.length
  rw[List.length_append,List.length_map,List.length_replicate]
  omega
theorem Vh{CX:lN}{P:Program}{w:World}{K:FZ}{mg:Str->Option Value}{base:Heap}{k:Nat}{f:Addr}{name qual:Str}{params:Arguments}{body:List Stmt}{scope:Scope}{dV kV doc pm cdv ct oc:Value}{an od:Option Addr}
  {osl:Array (Option Value)} {N ps:List Str} {sp:Sp} (lk:K.lookup f=some ⟨oc,od,.func (PySem.W.fnOf name qual params body scope dV kV doc pm an cdv ct),osl⟩) (hcd:PySem.W.codeIn K cdv qual=true) (S:sH N ps scope)
  (len:∀vs H Q E,sp vs H Q E->vs.length=ps.length)
  (hbody:∀(A:Around) (outer:List Env) (s:Shared) (H:Hp) (vs:List V) (Q:VK) (E:XK),gZ k (A.deeper (envOfC qual scope s.heap.objs.size f cdv))->sp vs H Q E ->
   ∃t,j7 (mJ CX P w K mg base N qual scope f cdv A outer s H E) body t/\t {nx:=λ_ H'=>Q .non H',rt:=Q } (start N vs) H) :
  lO P w K mg base CX (k+1) f (PySem.W.fnOf name qual params body scope dV kV doc pm an cdv ct) ps sp:=by
 refine⟨len,λA outer s H args us vs Q E hr e0 hb r hsp=>?_⟩
 have hl:=len _ _ _ _ hsp
 have KX:K.In s.heap:=e0.mod.yw.keeps λb o e=>(e0.bs b o e).1
 have lim:s.heap.NoLimit:=e0.mod.nolimit.keeps λb o e=>(e0.bs b o e).1
 have hkind:∀y∈ps.zip us,scope.names.lookup y.1=some .local\/(scope.names.lookup y.1=some .cell/\((cellsFrom (s.heap.objs.size+1) scope.names []).lookup y.1).isSome=true):=λ⟨n,v⟩ hy=>by
  rcases S.par n (List.of_mem_zip hy).1 with q|q
  ·exact .inl q
  ·exact .inr ⟨q,PySem.W.cellsFrom_some _ _ _ (.inl q)⟩
 refine codeAny_call_function hr.depth (KX _ _ lk) rfl S.co S.gen rfl (PySem.W.codeRec_of KX hcd) (hb _ _ _ _ ?_)
 refine wpAny_newFunctionEnv_cells S.kind hkind λenv he s1 x=>?_
 subst he
 refine⟨lim.keeps x.toInCall.keep,codeAny_func ?_⟩
 obtain⟨t,ht,hq⟩:=hbody A outer s H vs Q E (hr.deeper _) hsp
 have I:Inv (mJ CX P w K mg base N qual scope f cdv A outer s H E) [] (start N vs) H s1:=Vg S hr.hd e0 hl r x
 refine wpAny_mono (ht [] s1 (start N vs) H _ I hq) (λfl s' hs=>?_) λe s' hs=>hs
 have fin:∀{σ':St} {H':Hp} {v:V} {u:Value},Inv (mJ CX P w K mg base N qual scope f cdv A outer s H E) [] σ' H' s'->RelV v u->Q v H'->CE outer P w H s Q u s' :=
  λ{σ' H' v u} J rv q=>⟨v,H',J.os,J.bare,J.base,J.hok,rv,q⟩
 cases fl with
 |ret u =>
  obtain⟨v,σ',H',J,rv,q⟩:=hs
  exact fin J rv q
 |next =>
  obtain⟨σ',H',J,q⟩:=hs
  exact fin (v:=V.non) (u:=Value.none) J rfl q
 |brk =>
  obtain⟨_,_,_,q⟩:=hs
  exact False.elim q
 |cont =>
  obtain⟨_,_,_,q⟩:=hs
  exact False.elim q
end L2
namespace L2
open PySem PySem.Spec PyProof.Rows
section
variable {X:Cx}{x:Str}{p pos:Pos}{e:Expr}{es:List Expr}{t:TA}{id T:String}{r:List V->Hp->VK->Prop}
def jr(r:List V->Hp->VK->Prop)(t:TA):TE:=λσ H Q=>t σ H λvs H1=>r vs H1 Q
theorem yU(hc:iK X (.builtin id) r)(hg:Gl X x)(hm:X.mg x=none)(hv:bootBuiltins x=some (.builtin id))(ha:PA X (e::es) t)(hn:x ≠ "__name__" := by decide) (hdb:(x == ("__debug__" : Str))=false:=by decide)
  (he:starEach (e::es) X.env=(false,eval e X.env)::starEach es X.env:=by rfl) (hpl:(backTo pos (starEach es X.env)).any (·.1)=false:=by rfl):PE X (.Call (.Name x p) (e::es) [] pos) (jr r t):=by
 refine⟨λpins s σ H Q I h=>?_⟩
 refine wpAny_Call_Name_kw (ux I hg hm hv ?_ hn hdb)
 exact PyProof.Rows.callWith_builtin1 (cW (ha pos pins s σ H _ I h) λus s1 ⟨vs,H1,I1,r1,q1⟩=>hc pins s1 σ H1 vs us Q I1 r1 q1) he hpl
theorem Vi(hc:iK X (.type T) r)(hg:Gl X x)(hm:X.mg x=none)(hv:bootBuiltins x=some (.type T))(ha:PA X (e::es) t)(hn:x ≠ "__name__" := by decide) (hdb:(x == ("__debug__" : Str))=false:=by decide)
  (he:starEach (e::es) X.env=(false,eval e X.env)::starEach es X.env:=by rfl) (hpl:(backTo pos (starEach es X.env)).any (·.1)=false:=by rfl):PE X (.Call (.Name x p) (e::es) [] pos) (jr r t):=by
 refine⟨λpins s σ H Q I h=>?_⟩
 refine wpAny_Call_Name_kw (ux I hg hm hv ?_ hn hdb)
 exact PyProof.Rows.callWith_type1 (cW (ha pos pins s σ H _ I h) λus s1 ⟨vs,H1,I1,r1,q1⟩=>hc pins s1 σ H1 vs us Q I1 r1 q1) he hpl
end
end L2
namespace HT
open PySem PyProof.Rows
def lexLt:List Int->List Int->Bool
 | [],[]=>false
 | [],_::_=>true
 |_::_,[]=>false
 |x::xs,y::ys=>if x=y then lexLt xs ys else decide (x<y)
theorem Vj(x y:Int)(xs ys:List Int):lexLt (x::xs) (y::ys)=if x=y then lexLt xs ys else decide (x<y):=rfl
theorem Vk:lexLt [] []=false:=rfl
theorem Vl(y:Int)(ys:List Int):lexLt [] (y::ys)=true:=rfl
theorem Vm(x:Int)(xs:List Int):lexLt (x::xs) []=false:=rfl
theorem Vn(A:Around)(s:Shared)(a:Int)(t:Tok)(c:Int)(u:Tok):∃e,SeqAt.EqAt A s (.int a t) (.int c u) e/\(e=true↔a=c) :=
 ⟨(a == c),SeqAt.EqAt.int_int a t c u,by simp⟩
theorem Vo(A:Around)(s:Shared)(a:Int)(t:Tok)(c:Int)(u:Tok)(prog:Program)(w:World)(E:Value->Shared->Prop)(Q:Value->Shared->Prop)(h:Q (.bool (decide (a<c))) s) :
  wpAny (model prog w) A (richCompare .Lt (.int a t) (.int c u)) Q E s :=
 (PyProof.Rows.lt_int h:wpAny (model prog w) A (compareOp .Lt (.int a t) (.int c u)) Q E s)
section
open PySem.SeqAt
open PySem.AutoSeq1 (wpAny_loadPart')
open PySem.MeetsSeq PySem.MeetsSeq2 PySem.MeetsSeq3
theorem Vp(l b:Addr)(items items2:Array Value)(n n2:Nat)(dd dd2:Option Addr)(sl sl2:Array (Option Value))(ns ms:List Int)(hi:IntsAre items.toList ns)(hj:IntsAre items2.toList ms) :
  Meets (Builtin.«tuple.__lt__» ⟨[.ref l,.ref b],[]⟩)
   (λ_ R s=>s.heap.get? l=some {cls:=.type "tuple",dict:=dd,data:=.seq items n,slots:=sl }∧s.heap.get? b=some {cls:=.type "tuple",dict:=dd2,data:=.seq items2 n2,slots:=sl2 } ∧
    R (.ok (.ret (.bool (lexLt ns ms)))) s) :=
 .of_wp λprog w A R s h=>by
  obtain⟨hp,g,d,tk,os⟩:=s; obtain⟨hl,hb,h⟩:=h
  have f2:=AutoSeq1.sub_tuple_tuple
  have z1:items.size=ns.length:=by rw[<-hi.length]; simp
  have z2:items2.size=ms.length:=by rw[<-hj.length]; simp
  wp_walk using wpAny_loadPart' hl,wpAny_loadPart' hb,wpAny_forIn_list _ (λrest b s'=>b.1=none/\s'=⟨hp,g,d,tk,os⟩/\∃(vs ws:List Value) (ns' uy:List Int),rest=vs.zip ws /\
   IntsAre vs ns'/\IntsAre ws uy/\ns'.length+items2.size=uy.length+items.size/\R (.ok (.ret (.bool (lexLt ns' uy)))) ⟨hp,g,d,tk,os⟩) _
  case turn =>
   rintro⟨y,x⟩ rest b s' ⟨hb',rfl,vs,ws,ns',uy,hz,Dy,hwi,hlen,hR⟩
   cases Dy with
   |nil=>rw[List.zip_nil_left]at hz; cases hz
   |cons a t Vq =>
    cases hwi with
    |nil=>rw[List.zip_nil_right]at hz; cases hz
    |cons c u Vr =>
     rw[List.zip_cons_cons]at hz
     injection hz with hyx hrest
     injection hyx with hy hx
     subst hy hx
     rw[Vj]at hR
     simp only[List.length_cons]at hlen
     obtain⟨e,he,hiff⟩:=Vn A.in1 ⟨hp,g,d,tk,os⟩ a t c u
     refine wpAny_bind (he prog w _ _ ?_)
     cases e with
     |true =>
      rw[if_pos (hiff.mp rfl)]at hR
      wp_walk
      exact⟨rfl,rfl,_,_,_,_,hrest,Vq,Vr,by omega,hR⟩
     |false =>
      rw[if_neg (λq=>absurd (hiff.mpr q) Bool.false_ne_true)]at hR
      have Vs:=Vo A.in1 ⟨hp,g,d,tk,os⟩ a t c u prog w
      wp_walk using Vs
      exact⟨_,rfl,by simpa using hR⟩
  case fin =>
   rintro⟨b1,b2⟩ s' ⟨hb',rfl,vs,ws,ns',uy,hz,Dy,hwi,hlen,hR⟩
   simp only at hb'
   subst hb'
   have hv:lexLt ns' uy=decide (items.size<items2.size):=by
    cases Dy with
    |nil =>
     cases hwi with
     |nil =>
      simp only[List.length_nil]at hlen
      rw[Vk]
      exact(decide_eq_false (by omega)).symm
     |cons c u hw =>
      simp only[List.length_nil,List.length_cons]at hlen
      rw[Vl]
      exact(decide_eq_true (by omega)).symm
    |cons a t hv =>
     cases hwi with
     |nil =>
      simp only[List.length_nil,List.length_cons]at hlen
      rw[Vm]
      exact(decide_eq_false (by omega)).symm
     |cons c u hw =>
      rw[List.zip_cons_cons]at hz
      cases hz
   rw[hv]at hR
   wp_walk
   exact⟨_,rfl,by simpa[Builtin.Tuple.tupleCompareSizes]using hR⟩
  case h =>
   exact⟨rfl,rfl,items.toList,items2.toList,ns,ms,rfl,hi,hj,by omega,h⟩
end
section
variable {prog:Program}{w:World}{A:Around}{E:Value->Shared->Prop}{s:Shared}
theorem Vt{l b:Addr}{items items2:Array Value}{ns ms:List Int}{Q:Value->Shared->Prop}(hl:IsTup s.heap l items)(hb:IsTup s.heap b items2)(hi:IntsAre items.toList ns)(hj:IntsAre items2.toList ms)
  (hu:A.units<cLine) (h:Q (.bool (lexLt ns ms)) s):wpAny (model prog w) A (compareOp .Lt (.ref l) (.ref b)) Q E s:=by
 obtain⟨⟨cls,dd,data,sl⟩,ho,hc,n,hd⟩:=id hl
 obtain⟨⟨cls2,dd2,data2,sl2⟩,ho2,hc2,n2,hd2⟩:=id hb
 simp only at hc hd hc2 hd2
 subst hc hd hc2 hd2
 exact richCompare_meets_room (op:=.Lt) ⟨_,ho,rfl⟩ ⟨_,ho2,rfl⟩ PySem.F.slot_tuple_lt PySem.F.entry_tuple_lt (PySem.F.args_tuple_lt_2 _ _) (Vp l b items items2 n n2 dd dd2 sl sl2 ns ms hi hj)
  ⟨ho,ho2,show Value.bool (lexLt ns ms)≠Value.notImplemented/\Q (.bool (lexLt ns ms)) s from⟨(λx=>nomatch x),h⟩⟩ hu
theorem Vu{t b:Addr}{vs ws:List Value}{Q:Value->Shared->Prop}(ht:IsTup s.heap t vs.toArray)(hb:IsTup s.heap b ws.toArray)(hv:vs≠[])
  (h1:ws=[]->Q (.ref t) s) (h2:ws≠[]->Q (.ref s.heap.objs.size) {s with heap:=s.heap.push {cls:=.type "tuple",data:=.seq (vs++ws).toArray } })
  (hsz:vs.length+ws.length<=sizeLine):wpAny (model prog w) A (binaryOp .Add (.ref t) (.ref b)) Q E s:=by
 obtain⟨⟨cls,dd,data,sl⟩,ho,hc,n,hd⟩:=id ht
 obtain⟨⟨cls2,dd2,data2,sl2⟩,ho2,hc2,n2,hd2⟩:=id hb
 simp only at hc hd hc2 hd2
 subst hc hd hc2 hd2
 have e:vs.toArray++ws.toArray=(vs++ws).toArray:=by simp
 by_cases hw:ws=[]
 ·exact concat_meets ⟨_,ho,rfl⟩ ⟨_,ho2,rfl⟩ noFill_tuple_add seq_tuple_add PySem.F.slot_tuple_add PySem.F.entry_tuple_add (PySem.F.args_tuple_add_2 _ _)
   (tuple_addW1 t b vs.toArray ws.toArray n n2 dd dd2 sl sl2 (by simpa using hv) (by simp[hw])) ⟨ho,ho2,h1 hw⟩
 ·refine concat_meets ⟨_,ho,rfl⟩ ⟨_,ho2,rfl⟩ noFill_tuple_add seq_tuple_add PySem.F.slot_tuple_add PySem.F.entry_tuple_add (PySem.F.args_tuple_add_2 _ _)
   (tuple_addW2 t b vs.toArray ws.toArray n n2 dd dd2 sl sl2 (by simpa using hv) (by simpa using hw) (by rw[List.size_toArray,List.size_toArray]; exact hsz)) ⟨ho,ho2,?_⟩
  rw[e]
  exact h2 hw
def dF(n d:Nat):Option Int->Nat
 |none=>d
 |some v=>if v<0 then(v+(n:Int)).toNat else min v.toNat n
theorem Vv(n d:Nat)(hd:d<=n)(o:Option Int):dF n d o<=n:=by
 cases o with
 |none=>exact hd
 |some v =>
  show(if v<0 then(v+(n:Int)).toNat else min v.toNat n)<=n
  by_cases hv:v<0
  ·rw[if_pos hv]; omega
  ·rw[if_neg hv]; exact Nat.min_le_right _ _
theorem Ly(v:Int)(n d:Nat):(if v<0 then max (v+(n:Int)) 0 else min v (n:Int))=((dF n d (some v):Nat):Int):=by
 show(if v<0 then max (v+(n:Int)) 0 else min v (n:Int))=(((if v<0 then(v+(n:Int)).toNat else min v.toNat n):Nat):Int)
 by_cases hv:v<0
 ·simp only[if_pos hv]; omega
 ·simp only[if_neg hv]; omega
theorem Vw(lo hi:Option Int)(n:Nat):Builtin.Slice.sliceAdjust lo hi 1 (n:Int)=(((dF n 0 lo:Nat):Int),((dF n n hi:Nat):Int)):=by
 have h1:¬((1:Int)<0):=by omega
 unfold Builtin.Slice.sliceAdjust
 simp only[h1,if_false]
 refine Prod.ext ?_ ?_
 ·cases lo with
  |none=>rfl
  |some v=>exact Ly v n 0
 ·cases hi with
  |none=>rfl
  |some v=>exact Ly v n n
theorem Vx(i j:Nat):Builtin.Slice.slicePlaces (i:Int) (j:Int) 1=j-i:=by
 unfold Builtin.Slice.slicePlaces
 have h1:(1:Int) > 0:=by omega
 simp only[h1,if_true,Int.ediv_one]
 split <;> omega
theorem Lz{v:Value}{o:Option Int}{Q:Option Int->Shared->Prop}(p:IsPart v o)(h:Q o s):wpAny (model prog w) A (Builtin.Slice.slicePartIndex v) Q E s:=by
 cases p with
 |none=>exact slicePart_none h
 |int i t=>exact slicePart_int h
theorem Vy{sl:Addr}{vl vu:Value}{lo hi:Option Int}{n:Nat}{Q:Int × Int × Nat->Shared->Prop}(hs:s.heap.IsSliceOf sl vl vu .none)(pl:IsPart vl lo)(pu:IsPart vu hi)
  (h:Q (((dF n 0 lo:Nat):Int),1,dF n n hi-dF n 0 lo) s):wpAny (model prog w) A (Builtin.Slice.sliceApplied (.ref sl) (pure (n:Int))) Q E s:=by
 obtain⟨os,hos,hcs,hds⟩:=id hs
 unfold Builtin.Slice.sliceApplied Builtin.Slice.sliceFields
 refine wpAny_bind (wpAny_bind (wpAny_field hos hds (x:=vl) rfl (wpAny_bind (wpAny_field hos hds (x:=vu) rfl (wpAny_bind (wpAny_field hos hds (x:=.none) rfl (wpAny_pure ?_)))))))
 refine wpAny_bind (slicePart_none ?_)
 show wpAny _ _ (if((1:Int) == 0)=true then _ else _) _ _ s
 rw[if_neg (by decide)]
 refine wpAny_bind (Lz pl (wpAny_bind (Lz pu (wpAny_bind (wpAny_pure ?_)))))
 show wpAny _ _ (match Builtin.Slice.sliceAdjust lo hi 1 (n:Int)with|(lo,hi)=>pure (lo,(1:Int),Builtin.Slice.slicePlaces lo hi 1)) _ _ s
 rw[Vw lo hi n]
 show wpAny _ _ (pure (((dF n 0 lo:Nat):Int),(1:Int),Builtin.Slice.slicePlaces ((dF n 0 lo:Nat):Int) ((dF n n hi:Nat):Int) 1)) _ _ s
 rw[Vx]
 exact wpAny_pure h
theorem Vz(xs:Array Value)(i k:Nat):((List.range k).filterMap λ(m:Nat)=>xs[((i:Int)+(m:Int)*1).toNat]?).toArray=((xs.toList.drop i).take k).toArray:=by
 have e:(λ(m:Nat)=>xs[((i:Int)+(m:Int)*1).toNat]?)=λm=>xs[i+m]? := by
  funext m
  have:((i:Int)+(m:Int)*1).toNat=i+m:=by omega
  rw[this]
 rw[e]
 have:=pick_run xs i k
 rw[List.filterMap_map]at this
 have e2:((λx=>xs[x]?) ∘ λx=>i+x)=λm=>xs[i+m]? := rfl
 rw[e2]at this
 rw[this]
theorem VB{t sl:Addr}{items:Array Value}{vl vu:Value}{lo hi:Option Int}{Q:Value->Shared->Prop}(ht:IsTup s.heap t items)(hs:s.heap.IsSliceOf sl vl vu .none)(pl:IsPart vl lo)(pu:IsPart vu hi)
  (hw:¬(dF items.size 0 lo=0/\dF items.size items.size hi=items.size))
  (h:Q (.ref s.heap.objs.size) {s with heap:=s.heap.push {cls:=.type "tuple",data:=.seq ((items.toList.drop (dF items.size 0 lo)).take (dF items.size items.size hi-dF items.size 0 lo)).toArray } })
  (hsz:items.size<=sizeLine):wpAny (model prog w) A (getItem (.ref t) (.ref sl)) Q E s:=by
 have yV:sizeOk (.seq ((items.toList.drop (dF items.size 0 lo)).take (dF items.size items.size hi-dF items.size 0 lo)).toArray):=by
  show((items.toList.drop (dF items.size 0 lo)).take (dF items.size items.size hi-dF items.size 0 lo)).toArray.size<=sizeLine
  rw[List.size_toArray,List.length_take,List.length_drop,Array.length_toList]
  omega
 have hj:dF items.size items.size hi<=items.size:=Vv _ _ (Nat.le_refl _) hi
 obtain⟨os,hos,hcs,hds⟩:=id hs
 have hTs:s.TypeIs (.ref sl) "slice" := ⟨os,hos,hcs⟩
 unfold getItem
 try with_reducible refine wpAny_holding ?_
 first|refine wpAny_bind (wpAny_pure ?_)|skip
 refine wpAny_bind (wpAny_sequenceKey ht.typeIs (by decide) ?_)
 refine wpAny_bind (wpAny_callSpecial?_slot (name:=Str.ofString "__getitem__") ht.typeIs PyProof.Rows.slot_tuple_getitem
  (wpAny_call_entry PyProof.Rows.slot_tuple_getitem ht.typeIs entry_tuple_getitem ?_ (args_tuple_getitem _ _)))
 show wpAny _ _ (Builtin.Tuple.tupleItemsOf (.ref t) >>= _) _ _ s
 refine wpAny_bind (tupleItemsOf_ ht ?_)
 refine wpAny_bind (wpAny_typeOf hTs ?_)
 rw[if_pos (by decide)]
 refine wpAny_bind (Vy hs pl pu ?_)
 have hno:¬((((dF items.size 0 lo:Nat):Int) == 0&&(1:Int) == 1&&(dF items.size items.size hi-dF items.size 0 lo) == items.size)=true):=by
  intro q
  rw[Bool.and_eq_true,Bool.and_eq_true]at q
  have q1:((dF items.size 0 lo:Nat):Int)=0:=eq_of_beq q.1.1
  have q2:dF items.size items.size hi-dF items.size 0 lo=items.size:=eq_of_beq q.2
  exact hw ⟨by omega,by omega⟩
 show wpAny _ _ (if(((dF items.size 0 lo:Nat):Int) == 0&&(1:Int) == 1&&(dF items.size items.size hi-dF items.size 0 lo) == items.size)=true then _ else _) _ _ s
 rw[if_neg hno,Vz]
 first
  |exact wpAny_bind (m:=Builtin.Tuple.tupleExact _) (wpAny_newObj_type (wpAny_pure ⟨_,rfl,wpAny_pure h⟩) yV)
  |exact wpAny_bind (m:=Builtin.Tuple.tupleExact _) (wpAny_newObj_type (wpAny_bind (wpAny_pure (wpAny_pure ⟨_,rfl,wpAny_pure h⟩))) yV)
  |exact wpAny_bind (wpAny_bind (m:=Builtin.Tuple.tupleExact _) (wpAny_newObj_type (wpAny_pure (wpAny_pure ⟨_,rfl,wpAny_pure h⟩)) yV))
  |exact wpAny_bind (wpAny_bind (m:=Builtin.Tuple.tupleExact _) (wpAny_newObj_type (wpAny_pure ⟨_,rfl,wpAny_pure h⟩) yV))
end
end HT
namespace L2
open PySem PySem.Spec PyProof.Rows
abbrev TO:=St->Hp->(Option Int->Hp->Prop)->Prop
noncomputable def PO(X:Cx)(e:Option Expr)(t:TO):Prop :=
 ∀(pins:List (Addr × Obj)) (s:Shared) (σ : St) (H:Hp) (Q:Option Int->Hp->Prop),Inv X pins σ H s->t σ H Q ->
  wpAny (model X.prog X.w) X.A (evalPart e X.env) (λu s'=>∃o H',Inv X pins σ H' s'/\IsPart u o/\Q o H') X.xe s
def LC:TO:=λ_ H Q=>Q none H
def LK(t:TE):TO:=λσ H Q=>t σ H λx H1=>∃i,x=.int i/\Q (some i) H1
theorem intsAre_of{ns:List Int}:∀{us:List Value},Vals (ns.map V.int) us->IntsAre us ns:=by
 induction ns with
 |nil=>intro us r; rw[List.map_nil]at r; cases r; exact .nil
 |cons n ns ih =>
  intro us r
  rw[List.map_cons]at r
  cases r with
  |cons r1 r2 =>
   obtain⟨t,e⟩:=r1
   subst e
   exact .cons n t (ih r2)
section
variable {X:Cx}{e:Expr}{te:TE}{lo hi:Option Expr}{tl th:TO}{pos p2:Pos}
theorem Dz:PO X none LC:=by
 intro pins s σ H Q I h
 rw[evalPart_none]
 exact wpAny_pure ⟨none,H,I,.none,h⟩
theorem DG(h:PE X e te):PO X (some e) (LK te):=by
 intro pins s σ H Q I hw
 rw[evalPart_some]
 refine cW (h pins s σ H _ I hw) λu s1 ⟨x,H1,I1,r1,q1⟩=>?_
 obtain⟨i,rfl,q⟩:=q1
 obtain⟨t,rfl⟩:=r1
 exact⟨some i,H1,I1,.int i t,q⟩
noncomputable def nC(X:Cx)(r:V->Option Int->Option Int->Hp->VK->Prop):Prop :=
 ∀(pins:List (Addr × Obj)) (s:Shared) (σ : St) (H:Hp) (x:V) (v vl vu:Value) (lo hi:Option Int) (sl:Addr) (Q:VK),Inv X pins σ H s->RelV x v->s.heap.IsSliceOf sl vl vu .none->IsPart vl lo->IsPart vu hi->r x lo hi H Q ->
  ∃T id,typeLookup (.type T) "__getitem__" = pure (some (.builtin id))/\s.TypeIs v T/\wpAny (model X.prog X.w) X.A (getItem v (.ref sl)) (EP X pins σ Q) X.xe s
theorem nC.or{r r':V->Option Int->Option Int->Hp->VK->Prop}(h:nC X r)(h':nC X r'):nC X (λx lo hi H Q=>r x lo hi H Q\/r' x lo hi H Q):=by
 intro pins s σ H x v vl vu lo hi sl Q I rx hs pl pu q
 rcases q with q|q
 ·exact h pins s σ H x v vl vu lo hi sl Q I rx hs pl pu q
 ·exact h' pins s σ H x v vl vu lo hi sl Q I rx hs pl pu q
def LQ(r:V->Option Int->Option Int->Hp->VK->Prop)(te:TE)(tl th:TO):TE:=λσ H Q=>te σ H λx H1=>tl σ H1 λl H2=>th σ H2 λu H3=>r x l u H3 Q
theorem DK{r:V->Option Int->Option Int->Hp->VK->Prop}(hr:nC X r)(he:PE X e te)(hl:PO X lo tl)(hu:PO X hi th):PE X (.Subscript e (.Slice lo hi none p2) pos) (LQ r te tl th):=by
 refine⟨λpins s σ H Q I h=>?_⟩
 refine Subscript_ (cW (he pins s σ H _ I h) λv s1 ⟨x,H1,I1,r1,q1⟩=>?_)
 refine wpAny_Slice (cW (hl pins s1 σ H1 _ I1 q1) λvl s2 ⟨l,H2,I2,pl,q2⟩=>cW (hu pins s2 σ H2 _ I2 q2) λvu s3 ⟨u,H3,I3,pu,q3⟩=>?_)
 rw[evalPart_none]
 refine wpAny_pure ?_
 have I4:Inv X pins σ H3 {s3 with heap:=s3.heap.push {cls:=.type "slice",data:=.fields #[vl,vu,.none] } }:=I3.kept (t':=s3.toks) λb ob q=>Heap.get?_push_of_some _ q
 obtain⟨T,id,hT,ht,hg⟩:=hr pins {s3 with heap:=s3.heap.push {cls:=.type "slice",data:=.fields #[vl,vu,.none] } } σ H3 x v vl vu l u s3.heap.objs.size Q I4 r1 (Heap.IsSliceOf.new ..) pl pu q3
 show wpAny (model X.prog X.w) X.A (subscriptTail e (.Slice lo hi none p2) v (.ref s3.heap.objs.size)) (EP X pins σ Q) X.xe {s3 with heap:=s3.heap.push {cls:=.type "slice",data:=.fields #[vl,vu,.none] } }
 exact tail_any (ops:=[.ref s3.heap.objs.size,v]) ht hT hg (by with_unfolding_all rfl)
def qL(xs:List V)(lo hi:Option Int):List V:=(xs.drop (HT.dF xs.length 0 lo)).take (HT.dF xs.length xs.length hi-HT.dF xs.length 0 lo)
theorem LR(xs:List V)(lo hi:Option Int):(qL xs lo hi).length<=xs.length:=by
 unfold qL
 rw[List.length_take,List.length_drop]
 omega
def Ma(K:FZ):V->Option Int->Option Int->Hp->VK->Prop:=λx lo hi H Q=>∃a xs,x=.ref a/\fM K H a xs /\
 ¬(HT.dF xs.length 0 lo=0/\HT.dF xs.length xs.length hi=xs.length)/\∀p,H p=none->Q (.ref p) (upd H p (.tup (qL xs lo hi)))
theorem VD:nC X (Ma X.K):=by
 intro pins s σ H x v vl vu lo hi sl Q I rx hs pl pu h
 obtain⟨a,xs,rfl,hx,hw,q⟩:=h
 cases rx
 obtain⟨its,r,ht,hz⟩:=I.tuple hx
 have hlen:its.toArray.size=xs.length:=by rw[List.size_toArray]; exact r.length.symm
 refine⟨"tuple",_,PyProof.Rows.slot_tuple_getitem.lookup,ht.typeIs,?_⟩
 refine HT.VB ht hs pl pu (by rw[hlen]; exact hw) ?_ (by rw[hlen]; exact hz)
 rw[hlen]
 refine⟨.ref s.heap.objs.size,_,I.laid (t':=s.toks) (o:=.tup (qL xs lo hi)) (λb ob q=>Heap.get?_push_of_some _ q) (Nat.le_refl _) ?_,rfl,q _ (I.hok.fresh (Nat.le_refl _))⟩
 exact⟨Nat.le_trans (LR xs lo hi) hz,_,(r.drop (HT.dF xs.length 0 lo)).take (HT.dF xs.length xs.length hi-HT.dF xs.length 0 lo),IsTup.new _ _⟩
def Mf(K:FZ):R2:=λx y H Q=>∃a b ns ms,x=.ref a/\y=.ref b/\fM K H a (ns.map V.int)/\fM K H b (ms.map V.int)/\Q (.bl (HT.lexLt ns ms)) H
theorem VF(hu:X.A.units<cLine):fH X (compareOp .Lt) (Mf X.K):=by
 intro pins s σ H x y v u Q I rx ry h
 obtain⟨a,b,ns,ms,rfl,rfl,ha,hb,q⟩:=h
 cases rx
 cases ry
 obtain⟨its,r1,p1,_⟩:=I.tuple ha
 obtain⟨its2,r2,p2,_⟩:=I.tuple hb
 have i1:IntsAre its.toArray.toList ns:=intsAre_of r1
 have i2:IntsAre its2.toArray.toList ms:=intsAre_of r2
 exact HT.Vt p1 p2 i1 i2 hu ⟨.bl (HT.lexLt ns ms),H,I,rfl,q⟩
def Mg(K:FZ):R2:=λx y H Q=>∃a b xs ys,x=.ref a/\y=.ref b/\fM K H a xs/\fM K H b ys/\xs≠[]/\xs.length+ys.length<=sizeLine /\
 (ys=[]->Q (.ref a) H)/\(ys≠[]->∀p,H p=none->Q (.ref p) (upd H p (.tup (xs++ys))))
theorem Vals.DN{xs:List V}{us:List Value}(r:Vals xs us):us=[]↔xs=[]:=by
 cases r with
 |nil=>simp
 |cons _ _=>simp
theorem VG:fH X (binaryOp .Add) (Mg X.K):=by
 intro pins s σ H x y v u Q I rx ry h
 obtain⟨a,b,xs,ys,rfl,rfl,ha,hb,hx,hz,q1,q2⟩:=h
 cases rx
 cases ry
 obtain⟨its,r1,p1,_⟩:=I.tuple ha
 obtain⟨its2,r2,p2,_⟩:=I.tuple hb
 refine HT.Vu p1 p2 (λz=>hx (r1.DN.mp z)) (λz=>⟨.ref a,H,I,rfl,q1 (r2.DN.mp z)⟩) (λz=>?_) (by rw[<-r1.length,<-r2.length]; exact hz)
 refine⟨.ref s.heap.objs.size,_,I.laid (t':=s.toks) (o:=.tup (xs++ys)) (λb ob q=>Heap.get?_push_of_some _ q) (Nat.le_refl _) ?_,rfl,q2 (λw=>z (r2.DN.mpr w)) _ (I.hok.fresh (Nat.le_refl _))⟩
 exact⟨by rw[List.length_append]; exact hz,_,r1.append r2,IsTup.new _ _⟩
end
end L2
namespace L2
open PySem PySem.Spec PyProof.Rows
def dg(n:Nat)(i:Int):Option Nat:=if 0<=i then(if i<n then some i.toNat else none)else if -(n:Int)<=i then some (i+n).toNat else none
def cR{α : Type}(xs:List α)(i:Int):Option α := (dg xs.length i).bind λj=>xs[j]?
theorem DP{n:Nat}{i:Int}{j:Nat}(h:dg n i=some j):seqIndex? i n=some j/\j<n /\ -(n:Int)<=i/\i<n:=by
 unfold dg at h
 by_cases h0:0<=i
 ·rw[if_pos h0]at h
  by_cases h1:i<n
  ·rw[if_pos h1]at h
   have e:i.toNat=j:=Option.some.inj h
   exact⟨by rw[seqIndex_of h0 h1,e],by omega,by omega,h1⟩
  ·rw[if_neg h1]at h; cases h
 ·rw[if_neg h0]at h
  by_cases h1 : -(n:Int)<=i
  ·rw[if_pos h1]at h
   have e:(i+n).toNat=j:=Option.some.inj h
   exact⟨by rw[seqIndex_neg (by omega) h1,e],by omega,h1,by omega⟩
  ·rw[if_neg h1]at h; cases h
theorem DQ{α : Type}{xs:List α}{i:Int}{v : α}(h:cR xs i=some v):∃j,seqIndex? i xs.length=some j/\xs[j]?=some v/\j<xs.length /\ -(xs.length:Int)<=i/\i<xs.length:=by
 unfold cR at h
 cases e:dg xs.length i with
 |none=>rw[e]at h; cases h
 |some j =>
  rw[e]at h
  obtain⟨h1,h2,h3,h4⟩:=DP e
  exact⟨j,h1,h,h2,h3,h4⟩
theorem Mh{α : Type}{xs:List α}{j:Nat}{v : α}(h:xs[j]?=some v):cR xs (j:Int)=some v:=by
 have hj:j<xs.length:=(List.getElem?_eq_some_iff.mp h).1
 have e:dg xs.length (j:Int)=some j:=by
  unfold dg
  rw[if_pos (by omega),if_pos (by omega)]; simp
 unfold cR; rw[e]; exact h
def Mi(b:Expr):Prop:=∀o i,subscripted b false o i=operate [o,i] (getItem o i)
noncomputable def p7(X:Cx)(r:R2):Prop :=
 ∀(value slice:Expr) (pins:List (Addr × Obj)) (s:Shared) (σ : St) (H:Hp) (x y:V) (v u:Value) (Q:VK),Inv X pins σ H s->RelV x v->RelV y u->r x y H Q ->
  subscripted slice false v u=operate [v,u] (getItem v u)->wpAny (model X.prog X.w) X.A (subscriptTail value slice v u) (EP X pins σ Q) X.xe s
noncomputable def VH(X:Cx)(id:String)(r:V->List V->Hp->VK->Prop):Prop :=
 ∀(pins:List (Addr × Obj)) (s:Shared) (σ : St) (H:Hp) (x:V) (xs:List V) (v:Value) (us:List Value) (Q:VK),Inv X pins σ H s->RelV x v->Vals xs us->r x xs H Q ->
  wpAny (model X.prog X.w) X.A (call (.builtin id) (v::us)) (EP X pins σ Q) X.xe s
section
variable {X:Cx}{a b:Expr}{ta tb:TE}{pos:Pos}
theorem p7.or{r r':R2}(h:p7 X r)(h':p7 X r'):p7 X (λx y H Q=>r x y H Q\/r' x y H Q):=by
 intro value slice pins s σ H x y v u Q I rx ry q hs
 rcases q with q|q
 ·exact h value slice pins s σ H x y v u Q I rx ry q hs
 ·exact h' value slice pins s σ H x y v u Q I rx ry q hs
theorem vO{r:R2}(hr:p7 X r)(ha:PE X a ta)(hb:PE X b tb)(hs:Mi b):PE X (.Subscript a b pos) (gF r ta tb):=by
 refine⟨λpins s σ H Q I h=>?_⟩
 exact Subscript_ (Ds ha hb I h λv u s2 x y H2 I2 rx ry q=>hr a b pins s2 σ H2 x y v u Q I2 rx ry q (hs _ _))
def Mj(K:FZ):R2:=λx y H Q=>∃p xs i v,x=.ref p/\y=.int i/\eF K H p xs/\cR xs i=some v/\Q v H
def Ml(K:FZ):R2:=λx y H Q=>∃p xs i v,x=.ref p/\y=.int i/\fM K H p xs/\cR xs i=some v/\Q v H
def Mp:R2:=λx y H Q=>∃z i c,x=.str z/\y=.int i/\z.length<=sizeLine/\cR z.cps.toList i=some c/\Q (.str ⟨#[c]⟩) H
theorem VJ:p7 X (Mj X.K):=by
 intro value slice pins s σ H x y v u Q I rx ry h hs
 obtain⟨p,xs,i,z,rfl,rfl,hq,he,q⟩:=h
 cases rx
 obtain⟨t,rfl⟩:=ry
 obtain⟨its,r,pl,hz⟩:=I.list hq
 obtain⟨j,h1,h2,h3,h4,h5⟩:=DQ he
 obtain⟨w,ew,kZ⟩:=r.get h2
 have hl:=r.length
 have hn:=sG
 have fin:EP X pins σ Q w s:=⟨z,H,I,kZ,q⟩
 by_cases h0:0<=i
 ·have hj:i.toNat=j:=by
   rw[seqIndex_of h0 h5]at h1
   exact Option.some.inj h1
  exact item_listR pl.isList h0 (by omega) (by rw[hj]; simpa using ew) fin hs
 ·have hj:(i+(its.toArray.size:Int)).toNat=j:=by
   rw[seqIndex_neg (by omega) h4]at h1
   rw[List.size_toArray,<-hl]
   exact Option.some.inj h1
  exact subscriptTail_builtinR (x:=w) pl.isList.typeIs slot_list_getitem.lookup
   (wpAny_getItem_list_neg (Q:=λr s'=>r=w/\EP X pins σ Q r s') pl.isList (by omega) (by rw[List.size_toArray] <;> omega) (by omega) (by rw[hj]; simpa using ew) ⟨rfl,fin⟩) hs
theorem VL:p7 X (Ml X.K):=by
 intro value slice pins s σ H x y v u Q I rx ry h hs
 obtain⟨p,xs,i,z,rfl,rfl,hq,he,q⟩:=h
 cases rx
 obtain⟨t,rfl⟩:=ry
 obtain⟨its,r,pl,hz⟩:=I.tuple hq
 obtain⟨j,h1,h2,h3,h4,h5⟩:=DQ he
 obtain⟨w,ew,kZ⟩:=r.get h2
 have hl:=r.length
 have hn:=sG
 have fin:EP X pins σ Q w s:=⟨z,H,I,kZ,q⟩
 exact subscriptTail_builtinR (x:=w) pl.typeIs slot_tuple_getitem.lookup
  (getItem_tuple (j:=j) (Q:=λr s'=>r=w/\EP X pins σ Q r s') pl (by omega) (by omega) (by rw[List.size_toArray,<-hl]; exact h1) (by simpa using ew) ⟨rfl,fin⟩) hs
theorem VN:p7 X Mp:=by
 intro value slice pins s σ H x y v u Q I rx ry h hs
 obtain⟨z,i,c,rfl,rfl,hz,he,q⟩:=h
 obtain⟨t,rfl⟩:=rx
 obtain⟨t',rfl⟩:=ry
 obtain⟨j,h1,h2,h3,h4,h5⟩:=DQ he
 have hl:z.cps.toList.length=z.length:=by simp[Str.length]
 rw[hl]at h1 h4 h5
 have hn:=sG
 exact tail_any (typeIs_str s z t) slot_str_getitem.lookup (getItem_str (c:=c) (by
  have e1:decide (i < -(2 ^ 63:Int))=false:=decide_eq_false (by omega)
  have e2:decide (i >= 2 ^ 63)=false:=decide_eq_false (by omega)
  rw[e1,e2,Bool.or_false]) (by rw[h1]; simpa using h2) ⟨.str ⟨#[c]⟩,H,I.tok _,⟨_,rfl⟩,q⟩) hs
def mK(K:FZ):R2:=λx y H Q=>Mj K x y H Q\/Ml K x y H Q\/Mp x y H Q
theorem vP:p7 X (mK X.K):=VJ.or (VL.or VN)
theorem VP(its:List Value)(n j:Nat)(u:Value):Obj.mapSeq (·.setIfInBounds j u) {cls:=.type "list",data:=.seq its.toArray n }={cls:=.type "list",data:=.seq (its.set j u).toArray n }:=by
 simp[Obj.mapSeq]
theorem Inv.lst{pins:List (Addr × Obj)}{σ : St}{H:Hp}{s:Shared}{p:Addr}{xs:List V}(I:Inv X pins σ H s)(h:H p=some (.lst xs)) :
  ∃(its:List Value) (n:Nat),Vals xs its/\s.heap.get? p=some {cls:=.type "list",data:=.seq its.toArray n }/\xs.length<=sizeLine:=by
 obtain⟨z,its,n,r,e⟩:=I.hok p _ h
 exact⟨its,n,r,e,z⟩
theorem Inv.V0{pins:List (Addr × Obj)}{σ : St}{H:Hp}{s:Shared}{p:Addr}{xs ys:List V}{its its':List Value}{n n':Nat}{f:Obj->Obj}(I:Inv X pins σ H s)(h:H p=some (.lst xs))
  (ho:s.heap.get? p=some {cls:=.type "list",data:=.seq its.toArray n }) (hf:f {cls:=.type "list",data:=.seq its.toArray n }={cls:=.type "list",data:=.seq its'.toArray n' }) (r:Vals ys its') (hz:ys.length<=sizeLine) (t:Nat) :
  Inv X pins σ (upd H p (.lst ys)) {s with heap:=s.heap.update p f,toks:=t }:=by
 have e:(s.heap.update p f).get? p=some {cls:=.type "list",data:=.seq its'.toArray n' }:=by
  rw[Heap.get?_update_self f ho (by rw[hf] <;> rfl),hf]
 refine I.write (x:=p) (e:=p) (by rw[h]; trivial) (.inl rfl) (λb u hb q=>(Heap.get?_update_other _ _ (Ne.symm hb)).trans q) ⟨_,e⟩ ?_
 exact⟨hz,its',n',r,e⟩
def DW:V->V->V->Hp->(Hp->Prop)->Prop:=λo i v H Q=>∃p xs k j,o=.ref p/\i=.int k/\H p=some (.lst xs)/\dg xs.length k=some j/\Q (upd H p (.lst (xs.set j v)))
theorem set_list:KY X DW:=by
 intro pins s σ H o i v ov iv u Q I ro ri rv h
 obtain⟨p,xs,k,j,rfl,rfl,hp,hj,q⟩:=h
 cases ro
 obtain⟨t,rfl⟩:=ri
 obtain⟨its,n,r,ho,hz⟩:=I.lst hp
 obtain⟨h1,h2,h3,h4⟩:=DP hj
 have hl:=r.length
 have hn:=sG
 have I':Inv X pins σ (upd H p (.lst (xs.set j v))) {s with heap:=s.heap.update p (Obj.mapSeq (·.setIfInBounds j u)) } :=
  I.V0 hp ho (VP its n j u) (r.set rv j) (by rw[List.length_set]; exact hz) s.toks
 by_cases h0:0<=k
 ·have hk:k.toNat=j:=by
   rw[seqIndex_of h0 h4]at h1
   exact Option.some.inj h1
  exact PySem.W.ki_setAt ho h0 (by omega) (by rw[List.size_toArray,<-hl]; exact h4) (by rw[hk]; exact⟨_,I',q⟩)
 ·have hk:(k+(its.toArray.size:Int)).toNat=j:=by
   rw[seqIndex_neg (by omega) h3]at h1
   rw[List.size_toArray,<-hl]
   exact Option.some.inj h1
  exact PySem.W.ki_setBack ho (by omega) (by rw[List.size_toArray,<-hl]; exact h3) (by omega) (by rw[hk]; exact⟨_,I',q⟩)
theorem V1(lo hi:Option Int)(n:Nat):(sliceBounds lo hi none n).1=((HT.dF n 0 lo:Nat):Int)/\(sliceBounds lo hi none n).2.1=((HT.dF n n hi:Nat):Int)/\(sliceBounds lo hi none n).2.2=1:=by
 refine⟨?_,?_,rfl⟩
 ·cases lo with
  |none=>simp[sliceBounds,HT.dF]
  |some i =>
   simp only[sliceBounds,HT.dF,Option.getD_none,show(1:Int) > 0 by decide,if_true]
   by_cases h:i<0
   ·simp only[h,if_true] <;> omega
   ·simp only[h,if_false] <;> omega
 ·cases hi with
  |none=>simp[sliceBounds,HT.dF]
  |some i =>
   simp only[sliceBounds,HT.dF,Option.getD_none,show(1:Int) > 0 by decide,if_true]
   by_cases h:i<0
   ·simp only[h,if_true] <;> omega
   ·simp only[h,if_false] <;> omega
theorem V2(its:List Value)(lo hi:Option Int):slicePick its.toArray lo hi none=((its.drop (HT.dF its.length 0 lo)).take (HT.dF its.length its.length hi-HT.dF its.length 0 lo)).toArray:=by
 obtain⟨h1,h2,h3⟩:=V1 lo hi its.toArray.size
 unfold slicePick
 rw[h1,h2,h3]
 simp only[sliceRange_one,pick_run,List.size_toArray] <;> rfl
def Mq(K:FZ):V->Option Int->Option Int->Hp->VK->Prop:=λx lo hi H Q=>∃a xs,x=.ref a/\eF K H a xs/\∀p,H p=none->Q (.ref p) (upd H p (.lst (qL xs lo hi)))
theorem V3:nC X (Mq X.K):=by
 intro pins s σ H x v vl vu lo hi sl Q I rx hs pl pu h
 obtain⟨a,xs,rfl,hx,q⟩:=h
 cases rx
 obtain⟨its,r,ht,hz⟩:=I.list hx
 have hlen:=r.length
 refine⟨"list",_,slot_list_getitem.lookup,ht.isList.typeIs,?_⟩
 refine wpAny_getItem_list_slice ht.isList hs pl pu .none (by simp) ?_ (by rw[List.size_toArray] <;> omega)
 rw[V2,<-hlen]
 refine⟨.ref s.heap.objs.size,_,I.laid (t':=s.toks) (o:=.lst (qL xs lo hi)) (λb ob q=>Heap.get?_push_of_some _ q) (Nat.le_refl _) ?_,rfl,q _ (I.hok.fresh (Nat.le_refl _))⟩
 exact⟨Nat.le_trans (LR xs lo hi) hz,_,0,(r.drop (HT.dF xs.length 0 lo)).take (HT.dF xs.length xs.length hi-HT.dF xs.length 0 lo),Heap.get?_push_size _ rfl⟩
theorem V4:iK X (.builtin "len") (λxs H Q=>∃p ys,xs=[.ref p]/\(eF X.K H p ys\/fM X.K H p ys)/\Q (.int ys.length) H):=by
 intro pins s σ H xs us Q I r h
 obtain⟨p,ys,rfl,hq,q⟩:=h
 obtain⟨u,rfl,rx⟩:=vals1 r
 cases rx
 have hn:=sG
 rcases hq with hq|hq
 ·obtain⟨its,r',pl,hz⟩:=I.list hq
  have hlen:=r'.length
  exact Calls.call_len_list pl.isList (by simp only[List.size_toArray] <;> omega) ⟨.int ys.length,H,I.tok _,⟨s.toks+1,by rw[List.size_toArray,hlen]⟩,q⟩
 ·obtain⟨its,r',pl,hz⟩:=I.tuple hq
  have hlen:=r'.length
  exact len_tuple pl (by simp only[List.size_toArray] <;> omega) ⟨.int ys.length,H,I.tok _,⟨s.toks+1,by rw[List.size_toArray,hlen]⟩,q⟩
theorem V5:iK X (.builtin "len") (λxs H Q=>∃z,xs=[.str z]/\z.length<=sizeLine/\Q (.int z.length) H):=by
 intro pins s σ H xs us Q I r h
 obtain⟨z,rfl,hz,q⟩:=h
 obtain⟨u,rfl,t,rfl⟩:=vals1 r
 have hn:=sG
 exact len_str (by omega) ⟨.int z.length,H,I.tok _,⟨_,rfl⟩,q⟩
theorem iK.or{f:Value}{r r':List V->Hp->VK->Prop}(h:iK X f r)(h':iK X f r'):iK X f (λxs H Q=>r xs H Q\/r' xs H Q):=by
 intro pins s σ H xs us Q I rs q
 rcases q with q|q
 ·exact h pins s σ H xs us Q I rs q
 ·exact h' pins s σ H xs us Q I rs q
theorem DX:iK X (.type "list") (λxs H Q=>∃p ys,xs=[.ref p]/\(eF X.K H p ys\/fM X.K H p ys)/\∀l,H l=none->Q (.ref l) (upd H l (.lst ys))):=by
 intro pins s σ H xs us Q I r h
 obtain⟨p,ys,rfl,hq,q⟩:=h
 obtain⟨u,rfl,rx⟩:=vals1 r
 cases rx
 have fin:∀(its:List Value),Vals ys its->ys.length<=sizeLine->∀(h':Heap) (c':Nat),(∀b o',s.heap.get? b=some o'->h'.get? b=some o') ->
   h'.get? s.heap.objs.size=some {cls:=.type "list",dict:=none,data:=.seq its.toArray c',slots:=#[] }->EP X pins σ Q (.ref s.heap.objs.size) {s with heap:=h' }:=λits r' hz h' c' kp e =>
  ⟨.ref s.heap.objs.size,_,I.laid (t':=s.toks) kp (Nat.le_refl _) (show jR X.prog X.w _ h' _ (.lst ys)from⟨hz,its,c',r',e⟩),rfl,q _ (I.hok.fresh (Nat.le_refl _))⟩
 rcases hq with hq|hq
 ·obtain⟨its,r',pl,hz⟩:=I.list hq
  have hlen:=r'.length
  obtain⟨o,ho,hc,n,hd⟩:=pl.isList
  exact call_list_seq p (.inl rfl) ho hc hd (λh' c' kp e=>fin its r' hz h' c' kp e) (by simp only[List.size_toArray] <;> omega)
 ·obtain⟨its,r',pl,hz⟩:=I.tuple hq
  have hlen:=r'.length
  obtain⟨o,ho,hc,n,hd⟩:=pl
  exact call_list_seq p (.inr rfl) ho hc hd (λh' c' kp e=>fin its r' hz h' c' kp e) (by simp only[List.size_toArray] <;> omega)
theorem DY:iK X (.type "tuple") (λxs H Q=>∃p ys,xs=[.ref p]/\((eF X.K H p ys/\∀l,H l=none->Q (.ref l) (upd H l (.tup ys)))\/(fM X.K H p ys/\Q (.ref p) H))):=by
 intro pins s σ H xs us Q I r h
 obtain⟨p,ys,rfl,h⟩:=h
 obtain⟨u,rfl,rx⟩:=vals1 r
 cases rx
 rcases h with⟨hq,q⟩|⟨hq,q⟩
 ·obtain⟨its,r',pl,hz⟩:=I.list hq
  have hlen:=r'.length
  refine call_tuple_list pl.isList (λh' kp=>?_) (by simp only[List.size_toArray] <;> omega)
  have I1:Inv X pins σ H {s with heap:=h' }:=I.kept (t':=s.toks) kp
  have I2:Inv X pins σ (upd H h'.objs.size (.tup ys)) {s with heap:=h'.push {cls:=.type "tuple",data:=.seq its.toArray } } :=
   I1.laid (t':=s.toks) (λb o e=>Heap.get?_push_of_some _ e) (Nat.le_refl _) (show jR X.prog X.w _ _ _ (.tup ys)from⟨hz,its,r',IsTup.new _ _⟩)
  exact⟨.ref h'.objs.size,_,I2,rfl,q _ (I1.hok.fresh (Nat.le_refl _))⟩
 ·obtain⟨its,r',pl,hz⟩:=I.tuple hq
  exact call_tuple_same pl ⟨.ref p,H,I,rfl,q⟩
noncomputable def Mr(K:FZ)(T:String)(x:V)(H:Hp):Prop:=match x with
 |.str _=>T = "str"
 |.int _=>T = "int"
 | .ref p=>(T = "list" ∧ ∃xs,eF K H p xs)∨(T = "tuple" ∧ ∃o,K.lookup p=some o∧o.cls=.type "tuple" ∧ o.dict=none) ∨
   (T = "dict" ∧ ((∃kvs,H p=some (.dK kvs))∨∃kvs,H p=some (.dT kvs)))∨(T = "set" ∧ ∃S n,H p=some (.set S n))
 |_=>False
theorem V6{pins:List (Addr × Obj)}{σ : St}{H:Hp}{s:Shared}{T:String}{x:V}{v:Value}(I:Inv X pins σ H s)(r:RelV x v)(ty:Mr X.K T x H) :
  s.TypeIs v T/\∀a,v=.ref a->∃ob,s.heap.get? a=some ob/\ob.dict=none:=by
 cases x with
 |str z =>
  obtain⟨t,rfl⟩:=r
  cases(show T = "str" from ty)
  exact⟨typeIs_str s z t,λ_ e=>nomatch e⟩
 |int i =>
  obtain⟨t,rfl⟩:=r
  cases(show T = "int" from ty)
  exact⟨typeIs_int s i t,λ_ e=>nomatch e⟩
 |ref p =>
  cases r
  rcases ty with⟨rfl,xs,hq⟩|⟨rfl,o,hk,hc,hd⟩|⟨rfl,hk⟩|⟨rfl,S,n,hk⟩
  ·obtain⟨its,_,pl,_⟩:=I.list hq
   refine⟨pl.isList.typeIs,λa e=>?_⟩
   cases e
   obtain⟨o,n,e,c,hd,_⟩:=pl
   exact⟨o,e,hd⟩
  ·refine⟨⟨o,I.jA p o hk,hc⟩,λa e=>?_⟩
   cases e
   exact⟨o,I.jA _ o hk,hd⟩
  ·have z:∃o,s.heap.get? p=some o/\o.ExactDict:=by
    rcases hk with⟨kvs,hk⟩|⟨kvs,hk⟩
    ·obtain⟨_,_,_,_,o,_,_,e,ex,_⟩:=I.hok p _ hk
     exact⟨o,e,ex⟩
    ·obtain⟨_,_,_,_,o,_,_,e,ex,_⟩:=I.hok p _ hk
     exact⟨o,e,ex⟩
   obtain⟨o,e,ex⟩:=z
   refine⟨⟨o,e,ex.1⟩,λa e2=>?_⟩
   cases e2
   exact⟨o,e,ex.2.1⟩
  ·obtain⟨o,_,_,_,e,ex,_⟩:=I.hok p _ hk
   refine⟨⟨o,e,ex.1⟩,λa e2=>?_⟩
   cases e2
   exact⟨o,e,ex.2.1⟩
 |_=>exact False.elim ty
def yW(K:FZ)(T:String)(r:V->List V->Hp->VK->Prop)(to:TE)(t:TA):TE:=λσ H Q=>to σ H λx H1=>Mr K T x H1/\t σ H1 λxs H2=>r x xs H2 Q
variable {o e:Expr}{es:List Expr}{to:TE}{t:TA}{name:Str}{apos cpos:Pos}{T id:String}{r:V->List V->Hp->VK->Prop}
theorem yX(pa:PlainAttrs T)(slot:Slot T name id)(hty:typeOf (.builtin id)=pure (.type "method_descriptor")) (hm:VH X id r) (ho:PE X o to) (ha:PA X (e::es) t)
  (hbase:attributeBase o name X.env (eval o X.env)=eval o X.env:=by rfl)
  (hfew:((backTo cpos (starEach (e::es) X.env)).all (λx=>!x.1)&&(backToKw cpos (keywordEach [] X.env)).all (λx=>x.1.isSome)
   && decide ((e::es).length+([]:List Keyword).length+(if([]:List Keyword).isEmpty then 0 else 1)<30))=true:=by rfl)
  (hline:(apos.endLine == cpos.line)=true:=by rfl) (hs:starEach (e::es) X.env=(false,eval e X.env)::starEach es X.env:=by rfl) (hplain:(backTo cpos (starEach es X.env)).any (·.1)=false:=by rfl) :
  PE X (.Call (.Attribute o name apos) (e::es) [] cpos) (yW X.K T r to t):=by
 refine⟨λpins s σ H Q I h=>?_⟩
 refine wpAny_Call_method_late hbase hfew hline rfl (cW (ho pins s σ H _ I h) λv s1 ⟨x,H1,I1,r1,ty,q1⟩=>?_)
 obtain⟨h1,h2⟩:=V6 I1 r1 ty
 refine⟨T,id,pa,slot,hty,h1,h2,?_⟩
 have hA:=ha cpos pins s1 σ H1 _ I1 q1
 rw[hs]at hA ⊢
 refine Calls.callWith_builtin (by show(false || (backTo cpos (starEach es X.env)).any (·.1))=false; rw[hplain] <;> rfl) (Calls.evalArgs_plain ?_)
 exact cW hA λus s2 ⟨vs,H2,I2,r2,q2⟩=>hm pins s2 σ H2 x vs v us Q I2 r1 r2 q2
end
end L2
namespace L2
open PySem PySem.Spec PyProof.Rows
noncomputable def Ea(X:Cx)(id:String)(r:V->List V->Hp->VK->Prop):Prop :=
 ∀(pins:List (Addr × Obj)) (s:Shared) (σ : St) (H:Hp) (x:V) (xs:List V) (v:Value) (us:List Value) (Q:VK),Inv X pins σ H s->RelV x v->Vals xs us->r x xs H Q ->
  wpAny (model X.prog X.w) X.A (call (.builtin id) (v::us)) (EP X pins σ Q) X.xe s
theorem Vals.one:∀{x:V} {us:List Value},Vals [x] us->∃u,us=[u]/\RelV x u
 |_,_,.cons r .nil=>⟨_,rfl,r⟩
theorem Vals.eraseIdx:∀{xs:List V} {us:List Value} (i:Nat),Vals xs us->Vals (xs.eraseIdx i) (us.eraseIdx i)
 |_,_,_,.nil=>.nil
 |_,_,0,.cons _ t=>t
 |_,_,i+1,.cons r t=>.cons r (Vals.eraseIdx i t)
theorem Vals.rep{xs:List V}{us:List Value}(h:Vals xs us):∀k:Nat,Vals (List.replicate k xs).flatten (List.replicate k us).flatten
 | 0=>.nil
 |k+1=>by
  rw[List.replicate_succ,List.replicate_succ,List.flatten_cons,List.flatten_cons]
  exact Vals.append h (Vals.rep h k)
theorem Ms{α : Type}:∀(l:List α) (i:Nat),(l.eraseIdx i).length<=l.length
 | [],_=>Nat.le_refl _
 |_::_,0=>Nat.le_succ _
 |_::r,i+1=>Nat.succ_le_succ (Ms r i)
theorem foldl_rep(its:List Value):∀(k:Nat) (acc:List Value),
  List.foldl (λx1 x2=>x1++x2) acc.toArray (List.replicate k its.toArray)=(acc++(List.replicate k its).flatten).toArray
 | 0,acc=>by simp
 |k+1,acc=>by
  have e:acc.toArray++its.toArray=(acc++its).toArray:=by simp
  have e2:(acc++its)++(List.replicate k its).flatten=acc++(List.replicate (k+1) its).flatten:=by
   rw[List.replicate_succ,List.flatten_cons,List.append_assoc]
  rw[<-e2,<-foldl_rep its k (acc++its),<-e,List.replicate_succ,List.foldl_cons]
section
variable {X:Cx}{pins:List (Addr × Obj)}{σ : St}{H:Hp}{s:Shared}{l b:Addr}{xs ys zs:List V}
theorem Inv.Mt{its its':List Value}{n:Nat}{f:Array Value->Array Value}{t':Nat}(I:Inv X pins σ H s)(hH:H l=some (.lst xs))
  (e:s.heap.get? l=some {cls:=.type "list",data:=.seq its.toArray n }) (hf:f its.toArray=its'.toArray) (hv:Vals ys its') (hz:ys.length<=sizeLine) :
  Inv X pins σ (upd H l (.lst ys)) {s with heap:=s.heap.update l (Obj.mapSeq f),toks:=t' }:=by
 have q:=PySem.IsL.update e f
 rw[hf]at q
 refine I.write (x:=l) (e:=l) (by rw[hH]; exact trivial) (.inl rfl) (λb' u hb hu=>(Heap.get?_update_other s.heap (Obj.mapSeq f) (Ne.symm hb)).trans hu) ⟨_,q⟩ ?_
 exact⟨hz,its',_,hv,q⟩
theorem Inv.Eb{its:List Value}{t':Nat}(I:Inv X pins σ H s)(hv:Vals ys its)(hz:ys.length<=sizeLine) :
  Inv X pins σ (upd H s.heap.objs.size (.lst ys)) {s with heap:=s.heap.push {cls:=.type "list",data:=.seq its.toArray },toks:=t' } :=
 I.laid (λ_ _ q=>Heap.get?_push_of_some _ q) (Nat.le_refl _) ⟨hz,its,0,hv,Heap.get?_push_size _ rfl⟩
theorem Inv.fresh(I:Inv X pins σ H s):H s.heap.objs.size=none:=I.hok.fresh (Nat.le_refl _)
theorem Inv.Mv(I:Inv X pins σ H s)(hH:H l=some (.lst xs)):xs.length<=sizeLine/\∃(its:List Value) (n:Nat),Vals xs its/\xs.length=its.length/\s.heap.get? l=some {cls:=.type "list",data:=.seq its.toArray n }:=by
 obtain⟨z,its,n,r,e⟩:=I.hok l _ hH
 exact⟨z,its,n,r,r.length,e⟩
theorem V7{n:Nat}(h:n<=sizeLine):Builtin.List.listTooLong n=false:=by
 unfold Builtin.List.listTooLong
 exact decide_eq_false (by omega)
end
section
variable {X:Cx}
def Mw:V->List V->Hp->VK->Prop:=λx vs H Q=>∃l xs y,x=.ref l/\vs=[y]/\H l=some (.lst xs)/\xs.length<sizeLine/\Q .non (upd H l (.lst (xs++[y])))
theorem Mx:Ea X "list.append" Mw:=by
 intro pins s σ H x vs v us Q I rx rv h
 obtain⟨l,xs,y,rfl,rfl,hH,hz,q⟩:=h
 cases rx
 obtain⟨u,rfl,ru⟩:=rv.one
 obtain⟨z,its,n,r,hl,e⟩:=I.Mv hH
 refine call_meets F.slot_list_append ⟨_,e,rfl⟩ F.entry_list_append (F.args_list_append_2 _ _) (PySem.list_append l its.toArray n u (by rw[List.size_toArray]; omega)) ⟨e,?_⟩
 refine⟨.non,_,I.Mt (its':=its++[u]) hH e (by simp) (r.append (.cons ru .nil)) ?_,rfl,q⟩
 rw[List.length_append,List.length_singleton]
 omega
def Mz:V->List V->Hp->VK->Prop:=λx vs H Q=>∃l xs i k y,x=.ref l/\vs=[.int i]/\H l=some (.lst xs) /\ -(2 ^ 63)<=i/\i<2 ^ 63/\seqIndex? i xs.length=some k/\xs[k]?=some y/\Q y (upd H l (.lst (xs.eraseIdx k)))
theorem V8:Ea X "list.pop" Mz:=by
 intro pins s σ H x vs v us Q I rx rv h
 obtain⟨l,xs,i,k,y,rfl,rfl,hH,h1,h2,hk,hy,q⟩:=h
 cases rx
 obtain⟨u,rfl,ru⟩:=rv.one
 obtain⟨t,rfl⟩:=ru
 obtain⟨z,its,n,r,hl,e⟩:=I.Mv hH
 obtain⟨w,hw,kZ⟩:=r.get hy
 refine call_meets F.slot_list_pop ⟨_,e,rfl⟩ F.entry_list_pop (F.args_list_pop_2 _ _)
  (MeetsSeq.list_pop_at l its.toArray n i t k w (fitsIndex_both h1 h2) (by rw[List.size_toArray,<-hl]; exact hk) (by rw[<-Array.getElem?_toList]; exact hw) (by rw[List.size_toArray]; omega)) ⟨e,?_⟩
 refine⟨y,_,I.Mt (its':=its.eraseIdx k) hH e ?_ (r.eraseIdx k) ?_,kZ,q⟩
 ·show its.toArray.eraseIdxIfInBounds k=(its.eraseIdx k).toArray
  rw[List.eraseIdxIfInBounds_toArray]
 ·have:=Ms xs k
  omega
theorem len_rep{α : Type}(xs:List α)(k:Nat):(List.replicate k xs).flatten.length=k*xs.length:=by
 induction k with
 |zero=>simp
 |succ k ih=>rw[List.replicate_succ,List.flatten_cons,List.length_append,ih,Nat.succ_mul,Nat.add_comm]
end
section
variable {prog:Program}{w:World}{A:Around}{E:Value->Shared->Prop}{s:Shared}
end
section
variable {X:Cx}
end
end L2
namespace MF
open PySem PySem.W PySem.Calls PyProof.Rows
theorem V9{P:Params}{h:Heap}:∀(ns:List Int) (vs:List Value),WellAll P h vs (ns.map WData.int)->IntsAre vs ns:=by
 intro ns
 induction ns with
 |nil =>
  intro vs w
  rw[List.map_nil]at w
  cases w
  exact .nil
 |cons n ns ih =>
  intro vs w
  rw[List.map_cons]at w
  cases w with
  |cons a b =>
   cases a
   exact .cons _ _ (ih _ b)
theorem Wa{l:OpenLaw}{n:Nat}(hn:l.most=some n){P:Params}{h:Heap}{args:List WData}{vals:List Value}
  (hpre:l.row.toRowW.claim.pre args=true) (hwl:WellAll P h vals args) :
  ∃a vs ns,vals=[Value.ref a]/\args=[WData.list (ns.map WData.int)]/\h.get? a=some {cls:=.type "list",data:=.seq vs.toArray }/\IntsAre vs ns/\ns.length<=n:=by
 have hsh:WShape.hasAll [] args [.list .int]=true:=(pre_splitW hpre).1
 have hc:l.pre.holds [] {args:=args }=true:=(pre_splitW hpre).2
 obtain⟨d,r,rfl,h1,h2⟩:=hasAllW_cons hsh
 obtain rfl:=hasAllW_nil h2
 obtain⟨xs,rfl,h3⟩:=hasW_list h1
 obtain⟨ns,rfl⟩:=items_int h3
 have hlen:ns.length<=n:=by
  unfold OpenLaw.pre at hc
  have h4:(WTm.not (.lt (.lit (.int (n:Int))) (.len (.arg 0)))).holds [] {args:=[.list (ns.map .int)] }=true:=by
   have h4:=(holds_andW hc).1
   rw[hn]at h4
   exact h4
  have h5:=condW_of h4 (w_not (w_lt w_lit (w_len_list (w_arg rfl))))
  rw[List.length_map]at h5
  refine Nat.le_of_not_lt λq=>?_
  have q':(n:Int)<((ns.length:Nat):Int):=by omega
  first
   |(rw[decide_eq_true q']at h5; exact absurd h5 (by decide))
   |(simp at h5; omega)
 cases hwl with
 |cons w1 w2 =>
  cases w2
  cases w1 with
  |list ho hall=>exact⟨_,_,ns,rfl,rfl,ho,V9 ns _ hall,hlen⟩
theorem Wb(l:OpenLaw)(args:List WData):l.row.toRowW.claim.post args (.bool true) args=true :=
 postW_of (r:=l.row.toRowW) (X:=(true == true))
  (show WShape.has [] (.bool true) .bool=true by first|rfl|decide|simp[WShape.has,WShape.arms,WShape.armsAll])
  (show(WTm.eq .res (.lit (.bool true))).value [] {args:=args,res:=some (.bool true),after:=args }=some (.bool (true == true))from w_eq_bool (w_res rfl) w_lit) rfl
theorem Wc{l:OpenLaw}{n:Nat}{q:Program}{loose:List Str}{XP:(Str->Option Value)->Heap->Prop}{YP:World->Heap->Prop}{d:DefRec}
  (hn:l.most=some n) (hdf:d.params.defaults=[])
  (call:∀(w:World) (s₀ s₁ : Shared) (mg mb:Str->Option Value) (fa:Addr) (o:Obj) (pm cd doc:Value) (a:Addr) (vs:List Value) (ns:List Int),
   Ground q loose [] XP w s₀ mg mb s₁.heap->YP w s₁.heap ->
   s₁.heap.get? fa=some o->o.data=.func (docDef d.name d.params d.body d.scope pm cd doc)->s₁.heap.CodeRec cd d.name->mg d.name=some (.ref fa) ->
   s₁.heap.get? a=some {cls:=.type "list",data:=.seq vs.toArray }->IntsAre vs ns->ns.length<=n->s₁.gens = #[] ->
   codeAny (model l.prog w) callerA (.call (.ref fa) ⟨[.ref a],[]⟩) (λr s'=>r=.ok (.ret (.bool true))/\OldK s₁.heap s'.heap/\s'.os=s₁.os/\AllBare s'.gens) s₁) :
  WalkO q loose XP YP l.row.toRowW d [] (λf vs=>PySem.call f vs):=by
 intro w s₀ s₁ mg mb G Y fa o pm cd doc dV kV ho hd hcd hD hmg hg args vals as hpre hlay hrd hwl hlo
 obtain rfl:dV=.none:=Dflts.none hD hdf
 obtain rfl:kV=.none:=Dflts.noKw hD
 obtain⟨a,vs,ns,rfl,rfl,hobj,hints,hlen⟩:=Wa hn hpre hwl
 refine enter_call (codeAny_mono (call w s₀ s₁ mg mb fa o pm cd doc a vs ns G Y ho (fd_plain hd) hcd hmg hobj hints hlen hg) λr s' hq=>?_)
 obtain⟨rfl,h2,h3,h4⟩:=hq
 exact⟨.inl ⟨.bool true,.bool true,[],rfl,λ_=>rfl,.bool true,Wb l _,λ_=>⟨List.Pairwise.nil,λ_ hm=>(nomatch hm)⟩⟩,h2,h3,h4⟩
section
variable {prog:Program}{w:World}{A:Around}{E:Value->Shared->Prop}{s:Shared}{K:Frag}
end
end MF
namespace L2
open PySem PySem.Spec PyProof.Rows
theorem MJ:∀{vs:List Value} {ns:List Int},IntsAre vs ns->Vals (ns.map V.int) vs
 |_,_,.nil=>.nil
 |_,_,.cons n t h=>.cons ⟨t,rfl⟩ (MJ h)
end L2
namespace L2
open PySem PySem.Spec PyProof.Rows
end L2
namespace L2
open PySem PySem.Spec PyProof.Rows
def qN(s:Stmt):Arguments:=match s with
 |.FunctionDef _ a _ _ _ _ _ _ _ _=>a
 |_=>{posonlyargs:=[],args:=[],vararg:=none,kwonlyargs:=[],kw_defaults:=[],kwarg:=none,defaults:=[] }
def mU(s:Stmt):List Stmt:=match s with
 |.FunctionDef _ _ b _ _ _ _ _ _ _=>b
 |_=>[]
def cY(s:Stmt):Scope:=match s with
 |.FunctionDef _ _ _ _ _ _ sc _ _ _=>sc
 |_=>{kind:=.function,names:=[],isGenerator:=false,isCoroutine:=false }
abbrev E0:XK:=λ_ _ _=>False
structure uz(K:FZ)(x qual:Str)(st:Stmt)(f:Addr)(fd:FuncData):Prop where
 ex:∃(oc:Value) (od:Option Addr) (kV doc pm:Value) (an:Option Addr) (cdv ct:Value) (osl:Array (Option Value)),
  fd=PySem.W.fnOf x qual (qN st) (mU st) (cY st) .none kV doc pm an cdv ct/\K.lookup f=some ⟨oc,od,.func fd,osl⟩/\PySem.W.codeIn K cdv qual=true
 kp:PySem.W.keepIn K (.ref f)=true
section
variable {P:Program}{w:World}{K:FZ}{mg:Str->Option Value}{base:Heap}
theorem uz.binds{x qual:Str}{st:Stmt}{f:Addr}{fd:FuncData}{ps:List Str}(F:uz K x qual st f fd)
  (h:∀(kV doc pm:Value) (an:Option Addr) (cdv ct:Value) (us:List Value),us.length=ps.length->bindArgs (PySem.W.fnOf x qual (qN st) (mU st) (cY st) .none kV doc pm an cdv ct) ⟨us,[]⟩=pure (ps.zip us)):Binds K fd ps []:=by
 obtain⟨oc,od,kV,doc,pm,an,cdv,ct,osl,rfl,lk,hcd⟩:=F.ex
 exact .all (h kV doc pm an cdv ct)
theorem Wd{x qual:Str}{st:Stmt}{f:Addr}{oc:Value}{od an:Option Addr}{osl:Array (Option Value)}{kV doc pm cdv ct:Value}(l:K.lookup f=some ⟨oc,od,.func (PySem.W.fnOf x qual (qN st) (mU st) (cY st) .none kV doc pm an cdv ct),osl⟩)
  (c:PySem.W.codeIn K cdv qual=true) (k:PySem.W.keepIn K (.ref f)=true):uz K x qual st f (PySem.W.fnOf x qual (qN st) (mU st) (cY st) .none kV doc pm an cdv ct):=⟨⟨oc,od,kV,doc,pm,an,cdv,ct,osl,rfl,l,c⟩,k⟩
end
theorem Ec{n:Nat}(h:n<=1000):n<sizeLine:=Nat.lt_of_le_of_lt h (by decide)
section
variable {X:Cx}
end
def Same(H H':Hp):Prop:=∀b o,H b=some o->H' b=some o
theorem Same.refl(H:Hp):Same H H:=λ_ _ h=>h
theorem Same.trans{H H1 H2:Hp}(a:Same H H1)(b:Same H1 H2):Same H H2:=λc o h=>b c o (a c o h)
theorem Same.free{H H':Hp}(e:Same H H'){l:Addr}(h:H' l=Option.none):H l=Option.none:=by
 cases q:H l with
 |none=>rfl
 |some o =>
  rw[e l o q]at h
  cases h
theorem Same.seq{K:FZ}{H H':Hp}{a:Addr}{xs:List V}(e:Same H H')(h:eF K H a xs):eF K H' a xs:=by
 rcases h with(h|⟨o,h⟩)|h
 ·exact .inl (.inl (e _ _ h))
 ·exact .inl (.inr ⟨o,e _ _ h⟩)
 ·exact .inr h
end L2
end
section
namespace L2
open PySem PySem.Spec PyProof.Rows
section
variable {prog:Program}{w:World}{A:Around}{R:Result->Shared->Prop}{s:Shared}
theorem Wf{elt target iter:Expr}{scope:Scope}{pos:Pos}{it acc:Value}{env:Env}(I:Nat->Shared->Prop)
  (turn:∀n s,I n s->wpAny (model prog w) A (pyNext it) (λr s₁=>match r with
   |none=>R (.ok .next) s₁
   | some v=>wpAny (model prog w) A (letOwnedTupleGo target it v) (λ_ s₁'=>wpAny (model prog w) A (assign target env v) (λ_ s₂ => wpAny (model prog w) A (eval elt env) (λx s₃ =>
     wpAny (model prog w) A (call (.builtin "list.append") [acc,x]) (λ_ s₄=>∃m,m<n/\I m s₄) (λ_ _=>False) s₃) (λ_ _=>False) s₂) (λ_ _=>False) s₁') (λ_ _=>False) s₁) (λ_ _=>False) s)
  (n:Nat) (h:I n s) :
  codeAny (model prog w) A (.compLoop (.ListComp elt [⟨target,iter,[],0⟩] scope pos) 0 it acc env) R s:=by
 refine codeAny_loop rfl I (λn s hI=>?_) n h
 show wpAny _ _ ((compTurn (.ListComp elt [⟨target,iter,[],0⟩] scope pos) 0 it acc env).onRaise (λx=>do noteFrame x env; theTreesLotGoes x)) _ _ s
 refine wpAny_noted (wpAny_noRaise ?_)
 rw[compTurn_list1]
 refine wpAny_bind (wpAny_standAt (wpAny_bind (wpAny_mono (turn n s hI) (λr s₁ h₁=>?_) λ_ _ h'=>h')))
 cases r with
 |none=>exact wpAny_pure h₁
 |some v =>
  refine wpAny_bind (wpAny_mono h₁ (λ_ s₁' h₁'=>?_) λ_ _ h'=>h')
  exact wpAny_bind (wpAny_mono h₁' (λ_ s₂ h₂=>wpAny_bind (wpAny_bind (wpAny_mono h₂ (λx s₃ h₃=>wpAny_bind (wpAny_mono h₃
   (λ_ s₄ h₄=>wpAny_pure (wpAny_pure ⟨rfl,h₄⟩)) λ_ _ h'=>h')) λ_ _ h'=>h'))) λ_ _ h'=>h')
end
def jB(cells:List (Str × Addr)):List (Str × NameKind)->List (Str × Addr)->List (Str × Addr)
 | [],acc=>acc
 |(n,k)::r,acc=>if k=.free then(match cells.lookup n with|some a=>jB cells r ((n,a)::acc)|none=>jB cells r acc)else jB cells r acc
theorem uD{cells:List (Str × Addr)}{x:Str}{c:Addr}:∀{names:List (Str × NameKind)} {acc:List (Str × Addr)},(jB cells names acc).lookup x=some c->acc.lookup x=some c\/cells.lookup x=some c
 | [],acc,h=>.inl h
 |(n,k)::r,acc,h=>by
  unfold jB at h
  split at h
  ·split at h
   ·rename_i a ha
    rcases uD h with q|q
    ·by_cases e:x=n
     ·subst e
      rw[List.lookup_cons,beq_self_eq_true]at q
      cases q
      exact .inr ha
     ·rw[List.lookup_cons,beq_false_of_ne e]at q
      exact .inl q
    ·exact .inr q
   ·exact uD h
  ·exact uD h
theorem vQ{cells:List (Str × Addr)}{x:Str}:∀{names:List (Str × NameKind)} {acc:List (Str × Addr)},((acc.lookup x).isSome=true\/((x,NameKind.free)∈names/\(cells.lookup x).isSome=true))->((jB cells names acc).lookup x).isSome=true
 | [],acc,h=>by
  rcases h with h|⟨h,_⟩
  ·exact h
  ·cases h
 |(n,k)::r,acc,h=>by
  have up:∀a,(acc.lookup x).isSome=true->(List.lookup x ((n,a)::acc)).isSome=true:=λa q=>by
   rw[List.lookup_cons]
   split
   ·rfl
   ·exact q
  unfold jB
  split
  ·rename_i hk
   split
   ·rename_i a ha
    refine vQ ?_
    rcases h with h|⟨h,hc⟩
    ·exact .inl (up a h)
    ·rcases List.mem_cons.mp h with e|e
     ·cases e
      refine .inl ?_
      rw[List.lookup_cons,beq_self_eq_true]
      rfl
     ·exact .inr ⟨e,hc⟩
   ·rename_i hn
    refine vQ ?_
    rcases h with h|⟨h,hc⟩
    ·exact .inl h
    ·rcases List.mem_cons.mp h with e|e
     ·cases e
      rw[hn]at hc; cases hc
     ·exact .inr ⟨e,hc⟩
  ·rename_i hk
   refine vQ ?_
   rcases h with h|⟨h,hc⟩
   ·exact .inl h
   ·rcases List.mem_cons.mp h with e|e
    ·cases e; exact absurd rfl hk
    ·exact .inr ⟨e,hc⟩
theorem MK{scope:Scope}{env:Env}(h:∀y∈scope.names,y.2=.free->(env.cells.lookup y.1).isSome=true):closureFor scope env=pure (jB env.cells scope.names []):=by
 unfold closureFor
 suffices q:∀(names:List (Str × NameKind)) (acc:List (Str × Addr)),(∀y∈names,y.2=.free->(env.cells.lookup y.1).isSome=true) ->
   (forIn names acc λx r=>do
    match x with
    |(name,kind)=>if(kind == NameKind.free)=true then do let a <-cellOf env name; pure (ForInStep.yield ((name,a)::r))else pure (ForInStep.yield r):Sem _)=pure (jB env.cells names acc) by
  have z:=q scope.names [] h
  exact(congrArg (λm=>m >>= λcs=>pure cs) z)
 intro names
 induction names with
 |nil=>intro acc _; rfl
 |cons y r ih =>
  intro acc hy
  obtain⟨n,k⟩:=y
  rw[List.forIn_cons]
  unfold jB
  by_cases hk:k=.free
  ·subst hk
   rw[if_pos rfl]
   have q:=hy (n,.free) List.mem_cons_self rfl
   cases e:env.cells.lookup n with
   |none=>rw[e]at q; cases q
   |some a =>
    have ec:cellOf env n=pure a:=by unfold cellOf; rw[e]
    simp only[ec]
    exact ih _ λz hz=>hy z (List.mem_cons_of_mem _ hz)
  ·rw[if_neg hk]
   have hb:(k == NameKind.free)=false:=by simpa using hk
   simp only[hb]
   exact ih _ λz hz=>hy z (List.mem_cons_of_mem _ hz)
def Wg(scope sc:Scope):Scope :=
 {scope with names:=scope.names.map λ(n,k)=>if(k == .free&&sc.kind == .function&&sc.names.lookup n == some .cell)then(n,.cell)else(n,k) }
theorem MN{env:Env}:∀{names:List (Str × NameKind)} {x:Str},names.lookup x=some .free ->
  (names.map λ(n,k)=>if(k == NameKind.free&&env.scope.kind == .function&&env.kindOf n == some .cell)then(n,NameKind.cell)else(n,k)).lookup x=some .cell \/
  (names.map λ(n,k)=>if(k == NameKind.free&&env.scope.kind == .function&&env.kindOf n == some .cell)then(n,NameKind.cell)else(n,k)).lookup x=some .free
 | [],_,h=>by simp at h
 |(n,k)::r,x,h=>by
  have ih:=@MN env r x
  rw[List.map_cons]
  dsimp only
  cases hx:x == n with
  |true =>
   simp only[List.lookup_cons,hx]at h
   cases h
   by_cases hc:(NameKind.free == NameKind.free&&env.scope.kind == .function&&env.kindOf n == some .cell)=true
   ·rw[if_pos hc]; simp[List.lookup_cons,hx]
   ·rw[if_neg hc]; simp[List.lookup_cons,hx]
  |false =>
   simp only[List.lookup_cons,hx]at h
   by_cases hc:(k == NameKind.free&&env.scope.kind == .function&&env.kindOf n == some .cell)=true
   ·rw[if_pos hc]; simp only[List.lookup_cons,hx]; exact ih h
   ·rw[if_neg hc]; simp only[List.lookup_cons,hx]; exact ih h
theorem MP{env:Env}:∀{names:List (Str × NameKind)} {x:Str},
  ((names.map λ(n,k)=>if(k == NameKind.free&&env.scope.kind == .function&&env.kindOf n == some .cell)then(n,NameKind.cell)else(n,k)).lookup x=some .cell \/
  (names.map λ(n,k)=>if(k == NameKind.free&&env.scope.kind == .function&&env.kindOf n == some .cell)then(n,NameKind.cell)else(n,k)).lookup x=some .free)->names.lookup x=some .cell\/names.lookup x=some .free
 | [],_,h=>by simp at h
 |(n,k)::r,x,h=>by
  have ih:=@MP env r x
  rw[List.map_cons]at h
  dsimp only at h
  cases hx:x == n with
  |true =>
   by_cases hcc:(k == NameKind.free&&env.scope.kind == .function&&env.kindOf n == some .cell)=true
   ·have hk:k=.free:=by
     simp only[Bool.and_eq_true,beq_iff_eq]at hcc
     exact hcc.1.1
    subst hk
    exact .inr (by simp only[List.lookup_cons,hx])
   ·rw[if_neg hcc]at h
    simp only[List.lookup_cons,hx]at h ⊢
    exact h
  |false =>
   have q:=ih (by
    by_cases hcc:(k == NameKind.free&&env.scope.kind == .function&&env.kindOf n == some .cell)=true
    ·rw[if_pos hcc]at h; simp only[List.lookup_cons,hx]at h; exact h
    ·rw[if_neg hcc]at h; simp only[List.lookup_cons,hx]at h; exact h)
   simp only[List.lookup_cons,hx]
   exact q
theorem qO:∀(names:List (Str × NameKind)) (n:Nat) (acc:List (Str × Addr)),cellsFrom n names acc=cellsFrom n names []++acc
 | [],_,_=>rfl
 |(x,k)::r,n,acc=>by
  unfold cellsFrom
  split
  ·rw[qO r (n+1) ((x,n)::acc),qO r (n+1) [(x,n)],List.append_assoc]
   rfl
  ·exact qO r n acc
theorem Ed:∀(names:List (Str × NameKind)) (n:Nat) {x:Str} {c:Addr},(x,c)∈cellsFrom n names []->(x,NameKind.cell)∈names
 | [],_,_,_,h=>by cases h
 |(y,k)::r,n,x,c,h=>by
  unfold cellsFrom at h
  split at h
  ·rename_i hk
   have hk:k=.cell:=by simpa using hk
   rw[qO]at h
   rcases List.mem_append.mp h with z|z
   ·exact List.mem_cons_of_mem _ (Ed r _ z)
   ·have z:=List.mem_singleton.mp z
    cases z
    rw[hk]
    exact List.mem_cons_self
  ·exact List.mem_cons_of_mem _ (Ed r _ h)
theorem vR(x:Str):∀(a b:List (Str × Addr)),(a++b).lookup x=(match a.lookup x with|some c=>some c|none=>b.lookup x)
 | [],_=>rfl
 |(y,c)::r,b=>by
  have ih:=vR x r b
  rw[List.cons_append,List.lookup_cons,List.lookup_cons]
  cases h:x == y with
  |true=>rfl
  |false=>exact ih
theorem Wh{M:Model}{A:Around}{E:Value->Shared->Prop}{s:Shared}{scope:Scope}{globals:Addr}{cl:List (Str × Addr)}{qual:Str}{env:Env}{Q:Env->Shared->Prop}
  (hQ:∀h',h'.Ns s.heap.objs.size (λ_=>none)->(∀b o,s.heap.get? b=some o->h'.get? b=some o)->CellsOk h' (s.heap.objs.size+1) (cellsFrom (s.heap.objs.size+1) scope.names []) ->
   Q {scope:=scope,locals:=s.heap.objs.size,globals:=globals,cells:=cellsFrom (s.heap.objs.size+1) scope.names cl,qual:=qual,func:=none,code:=env.code,frame:=env.frame,builtins:=env.builtins } {s with heap:=h',toks:=s.toks+([]:List (Str × Value)).length }) :
  wpAny M A (newFunctionEnv scope globals cl [] qual none .none (some env)) Q E s:=by
 simp only[newFunctionEnv,Option.isSome_some,if_true]
 refine wpAny_bind (wpAny_alloc ?_)
 refine wpAny_bind (wpAny_layCells _ (λname kind cells=>by cases hkc:kind == NameKind.cell <;> simp[hkc]) _ _ _ _ ?_)
 have ok:=cellsFrom_ok scope.names (s.heap.push {cls:=.type "dict",data:=.dict #[] }) (s.heap.objs.size+1) [] ⟨λ_ _ hm=>(nomatch hm),List.Pairwise.nil⟩ (by rw[Heap.size_push]; exact Nat.le_refl _)
 rw[Heap.size_push]at ok
 rw[show({s with heap:=s.heap.push {cls:=.type "dict",data:=.dict #[] } }:Shared).heap.objs.size=s.heap.objs.size+1 from Heap.size_push ..]
 rw[List.forIn_nil]
 exact wpAny_bind (wpAny_pure (wpAny_pure (hQ _ ((Heap.Ns.new s.heap (.type "dict")).keeps (pushCells_keeps _ _)) (λb o e=>pushCells_keeps _ _ b o (Heap.get?_push_of_some _ e)) ok)))
structure yZ(sc:Scope)(No N:List Str)(src:List (Option Nat))(scope:Scope):Prop where
 kind:scope.kind=.function
 cells:∀y∈scope.names,y.2=.cell->scope.names.lookup y.1=some .cell
 names:∀y∈scope.names,y.2=.local->scope.names.lookup y.1=some .local
 free:∀y∈scope.names,y.2=.free->sc.names.lookup y.1=some .cell\/sc.names.lookup y.1=some .free
 len:src.length=N.length
 up:∀p∈N.zip src,∀j∈p.2,No[j]?=some p.1/\scope.names.lookup p.1=some .free
def jt(src:List (Option Nat))(σ : St):St:=src.map λo=>o.bind λj=>(σ[j]?).join
noncomputable def mL(X:Cx)(N:List Str)(scope:Scope)(C:Addr)(s:Shared)(H:Hp)(ex:List Addr):Cx where
 prog:=X.prog
 w:=X.w
 K:=X.K
 mg:=X.mg
 base:=X.base
 A:=X.A
 N:=N
 s₀ := s
 H₀ := H
 env:=compEnvC scope (cellsFrom (C+1) scope.names (jB X.env.cells scope.names [])) C X.env
 outer:=X.stack
 stack:=X.stack
 ex:=ex
 fn:=λx=>scope.names.lookup x == some .cell
 calm:=X.calm
 pn:=[]
 xe:=λ_ _=>False
def M4(Q:VK)(D:Addr)(H:Hp):Prop:=Q (.ref D) H
noncomputable def qP(wi:TI)(g:TG)(src:List (Option Nat))(te:TE):TE:=λσ H Q=>wi σ H λJ H1=>∀D,H1 D=none ->
 ∃W:Nat->Nat->St->Hp->Prop,(∃m,W 0 m (jt src σ) (upd H1 D (.lst [])))/\∀i m σ' H',W i m σ' H' ->
  (J.stop i H'/\M4 Q D H')\/(J.go i H'/\∀x jK,J.vK i H' x jK->g x σ' jK λσ2 H2=>te σ2 H2 λv H3=>∃xs,H3 D=some (.lst xs)/\xs.length<sizeLine/\∃m',m'<m/\W (i+1) m' σ2 (upd H3 D (.lst (xs++[v]))))
section
variable {X:Cx}{elt tg iter:Expr}{scope sc:Scope}{pos:Pos}{No N:List Str}{src:List (Option Nat)}{wi:TI}{g:TG}{te:TE}
theorem Wi{pins:List (Addr × Obj)}{σ : St}{H:Hp}{s:Shared}{h₁ : Heap}{fp:List Addr}{tk:Nat}(hsc:X.env.scope=sc)(sI:X.N=No)(S:yZ sc No N src scope)(I:Inv X pins σ H s)
  (hf:∀b∈fp,pX X pins H b) (hlt:∀b∈fp,b<s.heap.objs.size)
  (hns:h₁.Ns s.heap.objs.size (λ_=>none)) (old:∀b o,s.heap.get? b=some o->h₁.get? b=some o) (ck:CellsOk h₁ (s.heap.objs.size+1) (cellsFrom (s.heap.objs.size+1) scope.names [])) :
  Inv (mL X N scope s.heap.objs.size s H fp) [] (jt src σ) H {s with heap:=h₁,toks:=tk }:=by
 subst hsc
 subst sI
 have uE:∀x c,(cellsFrom (s.heap.objs.size+1) scope.names (jB X.env.cells scope.names [])).lookup x=some c->(cellsFrom (s.heap.objs.size+1) scope.names []).lookup x=some c\/X.env.cells.lookup x=some c:=λx c h=>by
  rw[qO,vR]at h
  split at h
  ·rename_i e
   exact .inl (e.trans h)
  ·rcases uD h with q|q
   ·simp at q
   ·exact .inr q
 have big:∀x c,(cellsFrom (s.heap.objs.size+1) scope.names []).lookup x=some c->s.heap.objs.size+1<=c:=λx c h=>(ck.empty x c (PySem.mem_of_lookup h)).2
 have M5:∀x c,X.env.cells.lookup x=some c->c<s.heap.objs.size:=λx c e=>by
  obtain⟨v,q⟩:=I.cell x c e
  exact q.lt
 have af7:∀b∈frs X.stack,b<s.heap.objs.size:=λb hb=>by
  obtain⟨_,o,ho,_⟩:=I.stack.mem hb
  exact Heap.lt_size ho
 refine⟨⟨I.ok.mod,S.kind,I.ok.glob,I.ok.blt,Nat.le_refl _,λx y c h1 h2=>?_,λx hx=>?_,λx c hfn h=>?_,I.ok.hd,I.ok.frames,.inl rfl,λb hb=>⟨Nat.ne_of_lt (hlt b hb),λx c e=>?_⟩,
   I.bs,Nat.le_trans I.ok.qH I.sz,λb o e hb=>?_,λb hb hb'=>?_,I.stack,I.vH⟩,
  rfl,I.bare,Un.kept old,⟨_,hns,λi x v h1 h2 h3=>?_⟩,λx c e=>?_,I.hok.fresh (Nat.le_refl _),λx c e=>?_,λp hp=>absurd (show p∈([]:List (Addr × Obj))from hp) (by simp),I.hok.kept old,?_⟩
 ·rcases uE _ _ h1 with z1|z1
  ·rcases uE _ _ h2 with z2|z2
   ·exact name_of_addr ck.apart (PySem.mem_of_lookup z1) (PySem.mem_of_lookup z2)
   ·exact absurd (Nat.le_trans (big _ _ z1) (Nat.le_of_lt (M5 _ _ z2))) (Nat.not_succ_le_self _)
  ·rcases uE _ _ h2 with z2|z2
   ·exact absurd (Nat.le_trans (big _ _ z2) (Nat.le_of_lt (M5 _ _ z1))) (Nat.not_succ_le_self _)
   ·exact I.ok.inj x y c z1 z2
 ·-- every cell or free name has its cell
  rcases MP hx with m|m
  ·exact Option.isSome_iff_exists.mp (PySem.W.cellsFrom_some _ _ _ (.inl m))
  ·have m:=PySem.mem_of_lookup m
   have q:=vQ (cells:=X.env.cells) (acc:=[]) (.inr ⟨m,by
    obtain⟨c,e⟩:=I.ok.has x (S.free _ m rfl)
    rw[e]; rfl⟩)
   exact Option.isSome_iff_exists.mp (PySem.W.cellsFrom_some _ _ _ (.inr q))
 ·have hfn:scope.names.lookup x=some .cell:=by
   have z:(scope.names.lookup x == some .cell)=true:=hfn
   simpa using z
  obtain⟨c',e'⟩:=Option.isSome_iff_exists.mp (PySem.W.cellsFrom_some _ (s.heap.objs.size+1) [] (.inl hfn))
  have h:(cellsFrom (s.heap.objs.size+1) scope.names (jB X.env.cells scope.names [])).lookup x=some c:=h
  rw[qO,vR,e']at h
  cases h
  exact Nat.le_of_succ_le (big _ _ e')
 ·rcases uE _ _ e with z|z
  ·exact λy=>absurd (Nat.le_trans (big _ _ z) (y▸Nat.le_of_lt (hlt b hb))) (Nat.not_succ_le_self _)
  ·exact(hf b hb).2.2.2.2.1 x c z
 ·obtain⟨f0,f1,f2,f3,f4,f5⟩:=hf b hb
  rcases f3 with z|z
  ·exact I.ok.jT b o e z
  ·have q:=Heap.lt_size (I.ok.bs b o e).1
   exact absurd q (Nat.not_lt.mpr z)
 ·obtain⟨f0,f1,f2,_⟩:=hf b hb
  rcases List.mem_cons.mp (I.yx b hb')with z|z
  ·exact f1 z
  ·exact f2 z
 ·have hi:i<src.length:=by
   unfold jt at h2
   have:=(List.getElem?_eq_some_iff.mp h2).1
   simpa using this
  have h2':((src[i]).bind λj=>(σ[j]?).join)=some v:=by
   unfold jt at h2
   rw[List.getElem?_map,List.getElem?_eq_getElem hi]at h2
   exact Option.some.inj h2
  cases es:src[i]with
  |none=>rw[es]at h2'; cases h2'
  |some j =>
   rw[es]at h2'
   have hj : σ[j]?=some (some v):=by
    have z:(σ[j]?).join=some v:=h2'
    cases q : σ[j]? with
    |none=>rw[q]at z; cases z
    |some o=>rw[q]at z; have z':o=some v:=z; rw[z']
   have hz:(x,some j)∈N.zip src:=by
    refine List.mem_of_getElem? (i:=i) ?_
    rw[List.getElem?_zip_eq_some]
    exact⟨h1,by rw[List.getElem?_eq_getElem hi,es]⟩
   obtain⟨u1,u2⟩:=S.up _ hz j rfl
   have m:(x,NameKind.free)∈scope.names:=PySem.mem_of_lookup u2
   have kx:=S.free _ m rfl
   obtain⟨m0,hn0,hl0⟩:=id I.loc
   obtain⟨u,r,lk⟩:=hl0 j x v u1 hj (kx.elim (λz=>.inr (.inl z)) λz=>.inr (.inr z))
   refine⟨u,r,?_⟩
   rcases lk with⟨k,_⟩|⟨_,c,e,ic⟩
   ·have k':X.env.scope.names.lookup x=some .local:=k
    rcases kx with z|z
    ·rw[z]at k'; cases k'
    ·rw[z]at k'; cases k'
   ·refine .inr ⟨MN u2,c,?_,?_⟩
    ·have q:=vQ (cells:=X.env.cells) (acc:=[]) (.inr ⟨m,by rw[e]; rfl⟩)
     obtain⟨c',e'⟩:=Option.isSome_iff_exists.mp q
     have e2:X.env.cells.lookup x=some c':=by
      rcases uD e' with q|q
      ·simp at q
      ·exact q
     rw[e]at e2; cases e2
     show(cellsFrom (s.heap.objs.size+1) scope.names (jB X.env.cells scope.names [])).lookup x=some c
     rw[qO,vR]
     split
     ·rename_i c2 z
      have y:=S.cells _ (Ed _ _ (PySem.mem_of_lookup z)) rfl
      rw[u2]at y; cases y
     ·exact e'
    ·obtain⟨o,ho,hd⟩:=ic
     exact⟨o,old _ _ ho,hd⟩
 ·rcases uE _ _ e with z|z
  ·exact⟨_,(ck.empty x c (PySem.mem_of_lookup z)).1⟩
  ·obtain⟨v,o,ho,hd⟩:=I.cell x c z
   exact⟨v,o,old _ _ ho,hd⟩
 ·rcases uE _ _ e with z|z
  ·exact I.hok.fresh (Nat.le_of_succ_le (big _ _ z))
  ·exact I.mD x c z
 ·unfold jt
  rw[List.length_map]
  exact S.len
theorem M6{pins:List (Addr × Obj)}{σ : St}{H:Hp}{s:Shared}{Q:VK}{RR:Value->Addr->Result->Shared->Prop}(hsc:X.env.scope=sc)(sI:X.N=No)(S:yZ sc No N src scope)(hc:X.calm=true)
  (hi:PI X tg iter wi) (hg:∀C s H ex,PG (mL X N scope C s H ex) tg g) (he:∀C s H ex,PE (mL X N scope C s H ex) elt te) (I:Inv X pins σ H s) (h:qP wi g src te σ H Q)
  (hRR:∀D C H' s' m,Inv X pins σ H' s'->H' C=none->C≠X.env.locals->X.s₀.heap.objs.size<=C->(∀x c,X.env.cells.lookup x=some c->c≠C)->(∀p∈X.pn++pins,p.1≠C)->s'.heap.Ns C m->Q (.ref D) H'->RR (.ref D) C (.ok .next) s') :
  wpAny (model X.prog X.w) X.A (eval iter X.env) (λx s₁=>wpAny (model X.prog X.w) X.A (pyIter x) (λit s₂=>wpAny (model X.prog X.w) X.A (newList []) (λacc s₃ =>
   wpAny (model X.prog X.w) X.A (newFunctionEnv scope X.env.globals (jB X.env.cells scope.names []) [] X.env.qual none .none (some X.env)) (λcenv s₄ =>
    codeAny (model X.prog X.w) X.A (.compStart (.ListComp elt [⟨tg,iter,[],0⟩] scope pos) 0 it acc {cenv with scope:=relabel scope X.env }) (RR acc cenv.locals) s₄) X.xe s₃) X.xe s₂) X.xe s₁) X.xe s:=by
 refine cW (hi pins s σ H _ I h) λv s1 h1=>cW h1 λitv s2 h2=>?_
 obtain⟨it,fp,tn,J,H2,e,I2,T,st2,f2,hW⟩:=h2
 subst e
 have Wj:H2 s2.heap.objs.size=none:=I2.hok.fresh (Nat.le_refl _)
 obtain⟨W,⟨m0,w0⟩,turn⟩:=hW s2.heap.objs.size Wj
 have M7:∀b∈fp,b<s2.heap.objs.size:=λb hb=>by
  obtain⟨o,e,_⟩:=T.obj 0 _ st2 b hb
  exact Heap.lt_size e
 refine wpAny_newObj_type ?_
 have I3:Inv X pins σ (upd H2 s2.heap.objs.size (.lst [])) {s2 with heap:=s2.heap.push {cls:=.type "list",dict:=none,data:=.seq ([]:List Value).toArray } }:=I2.Eb (t':=s2.toks) (ys:=[]) .nil (Nat.zero_le _)
 have f3:∀b∈fp,pX X pins (upd H2 s2.heap.objs.size (.lst [])) b:=λb hb=>by
  obtain⟨q,r⟩:=f2 b hb
  exact⟨by rw[cL (Nat.ne_of_lt (M7 b hb))]; exact q,r⟩
 have st3:tn 0 (s2.heap.push {cls:=.type "list",dict:=none,data:=.seq ([]:List Value).toArray }):=T.keep _ _ _ st2 λb hb o e=>Heap.get?_push_of_some _ e
 have p8:∀b∈fp,b<(s2.heap.push {cls:=.type "list",dict:=none,data:=.seq ([]:List Value).toArray }).objs.size:=λb hb=>by
  rw[Heap.size_push]; exact Nat.lt_succ_of_lt (M7 b hb)
 generalize hD:s2.heap.objs.size=D at *
 generalize hh3:s2.heap.push {cls:=.type "list",dict:=none,data:=.seq ([]:List Value).toArray }=h3 at *
 generalize hH3:upd H2 D (.lst [])=H3 at *
 refine Wh λh₁ hns old ck=>?_
 dsimp only at hns old ck ⊢
 have I4:Inv (mL X N scope h3.objs.size {s2 with heap:=h3 } H3 fp) [] (jt src σ) H3 {s2 with heap:=h₁,toks:=s2.toks+([]:List (Str × Value)).length }:=Wi (s:={s2 with heap:=h3 }) hsc sI S I3 f3 p8 hns old ck
 have M8:tn 0 h₁ := T.keep _ _ _ st3 λb hb o e=>old b o e
 have loop:codeAny (model X.prog X.w) X.A (.compLoop (.ListComp elt [⟨tg,iter,[],0⟩] scope pos) 0 (.ref it) (.ref D) (compEnvC scope (cellsFrom (h3.objs.size+1) scope.names (jB X.env.cells scope.names [])) h3.objs.size X.env)) (RR (.ref D) h3.objs.size) {s2 with heap:=h₁,toks:=s2.toks+([]:List (Str × Value)).length }:=by
  have stat:∀{H':Hp},(∀b∈fp,H' b=none)->∀b∈fp,pX (mL X N scope h3.objs.size {s2 with heap:=h3 } H3 fp) [] H' b:=λhn b hb=>by
   obtain⟨g0,g1,g2,g3,g4,g5⟩:=f3 b hb
   refine⟨hn b hb,Nat.ne_of_lt (p8 b hb),λz=>?_,.inl hb,λx c e=>?_,λp hp=>absurd (show p∈([]:List (Addr × Obj))from hp) (by simp)⟩
   ·rcases List.mem_cons.mp (I3.yx b z)with z|z
    ·exact g1 z
    ·exact g2 z
   ·have e:(cellsFrom (h3.objs.size+1) scope.names (jB X.env.cells scope.names [])).lookup x=some c:=e
    rw[qO,vR]at e
    split at e
    ·rename_i z
     cases e
     exact λy=>absurd (Nat.le_trans (ck.empty x c (PySem.mem_of_lookup z)).2 (y▸Nat.le_of_lt (p8 b hb))) (Nat.not_succ_le_self _)
    ·rcases uD e with q|q
     ·simp at q
     ·exact g4 x c q
  refine Wf (λn s'=>∃i σ' H',Inv (mL X N scope h3.objs.size {s2 with heap:=h3 } H3 fp) [] σ' H' s'/\tn i s'.heap/\(∀b∈fp,H' b=none)/\W i n σ' H') ?_ m0 ⟨0,jt src σ,H3,I4,M8,λb hb=>(f3 b hb).1,w0⟩
  rintro n s5 ⟨i,σ5,H5,I5,lq,yM,w5⟩
  rcases turn i n σ5 H5 w5 with⟨stop,qn⟩|⟨go,step⟩
  ·refine cW (T.done (mL X N scope h3.objs.size {s2 with heap:=h3 } H3 fp) rfl rfl rfl hc i [] s5 σ5 H5 (λ_ _=>False) I5 (stat yM) lq stop) λr s6 ⟨hr,I6⟩=>?_
   subst hr
   obtain⟨mC,hnC,_⟩:=id I6.loc
   have I7:Inv X pins σ H5 s6:=I3.call' (ch:=fp) I6.os I6.base I6.hok I6.bare λb hb=>by
    obtain⟨g0,g1,g2,g3,g4,g5⟩:=f3 b hb
    exact⟨g3,g1,g4,g5⟩
   refine hRR D h3.objs.size H5 s6 mC I7 I6.free (Nat.ne_of_gt I3.lt) I3.sz (λx c e z=>?_) (λp hp z=>?_) hnC qn
   ·obtain⟨v,q⟩:=I3.cell x c e
    exact absurd q.lt (by rw[z]; exact Nat.lt_irrefl _)
   ·exact absurd (Heap.lt_size (I3.pin p hp).1) (by rw[z]; exact Nat.lt_irrefl _)
  ·refine cW (T.item (mL X N scope h3.objs.size {s2 with heap:=h3 } H3 fp) rfl rfl rfl hc i [] s5 σ5 H5 (λ_ _=>False) I5 (stat yM) lq go) λr s6 ⟨u,hr,h6⟩=>?_
   subst hr
   refine cW h6 λ_ s7 ⟨x,H7,I7,r7,y7,Ef,Wk⟩=>?_
   have Wl:=I7.pinned (stat Wk) (T.obj _ _ Ef)
   refine cW (hg _ _ _ _ _ s7 σ5 H7 x u _ Wl r7 (step x H7 y7)) λ_ s8 ⟨σ8,H8,I8,q8⟩=>?_
   refine cW (he _ _ _ _ _ s8 σ8 H8 _ I8 q8) λyv s9 ⟨y,H9,I9,r9,q9⟩=>?_
   obtain⟨xs,e9,l9,m',hm,w9⟩:=q9
   refine cW (Mx (X:=mL X N scope h3.objs.size {s2 with heap:=h3 } H3 fp) _ s9 σ8 H9 (.ref D) [y] (.ref D) [yv] (λ_ H'=>W (i+1) m' σ8 H') I9 rfl (.cons r9 .nil) ⟨D,xs,y,rfl,rfl,e9,l9,w9⟩) λ_ s10 ⟨_,Wm,Eh,_,Wn⟩=>?_
   refine⟨m',hm,i+1,σ8,Wm,Eh.yK (pins:=[]),T.keep _ _ _ Ef λb hb o e=>(Eh.pin (b,o) (List.mem_append_right _ (List.mem_append_right _ (yJ hb e)))).1,λb hb=>?_,Wn⟩
   obtain⟨o,e,d⟩:=T.obj _ _ Ef b hb
   exact(Eh.pin (b,o) (List.mem_append_right _ (List.mem_append_right _ (yJ hb e)))).2.1
 exact codeAny_compStart_list loop (T.self _ _ _ _ _ M8 loop)
theorem lu(hsc:X.env.scope=sc)(sI:X.N=No)(S:yZ sc No N src scope)(hc:X.calm=true)
  (hi:PI X tg iter wi) (hg:∀C s H ex,PG (mL X N scope C s H ex) tg g) (he:∀C s H ex,PE (mL X N scope C s H ex) elt te)
  (hs:∀x,foldedSetIterable iter X.env x=pure x:=by intro _; rfl):PE X (.ListComp elt [⟨tg,iter,[],0⟩] scope pos) (qP wi g src te):=by
 refine⟨λpins s σ H Q I h=>?_⟩
 rw[eval_ListComp]
 have hcl:closureFor scope X.env=pure (jB X.env.cells scope.names []):=MK λy hy e=>by
  have k:=S.free y hy e
  rw[<-hsc]at k
  obtain⟨c,q⟩:=I.ok.has y.1 k
  rw[q]; rfl
 refine wpAny_comprehension_free (use:=none) rfl hs hcl S.kind S.names (M6 (RR:=λacc C=>compPost (model X.prog X.w) X.A X.xe none (EP X pins σ Q) acc C) hsc sI S hc hi hg he I h ?_)
 intro D C H' s' m I' n1 n2 n3 n4 n5 hn q
 refine⟨m,hn,λh' hs'=>⟨.ref D,H',?_,rfl,q⟩⟩
 exact I'.turned (t':=s'.toks) (λb o hb e=>(hs'.2 b hb).trans e) n1 (Ne.symm (Ne.symm n2)) (.inr n3) n4 n5
theorem Wq{i:Nat}{y:Str}{py spos:Pos}(hN:X.N.Nodup)(Wr:X.N[i]?=some y)(hy:Loc X.env.scope y)(hsc:X.env.scope=sc)(sI:X.N=No)(S:yZ sc No N src scope)(hc:X.calm=true)
  (hi:PI X tg iter wi) (hg:∀C s H ex,PG (mL X N scope C s H ex) tg g) (he:∀C s H ex,PE (mL X N scope C s H ex) elt te)
  (hsw:swapsWith (.ListComp elt [⟨tg,iter,[],0⟩] scope pos) (some (.Name y py)) spos.line X.env=pure true:=by rfl) (hs:∀x,foldedSetIterable iter X.env x=pure x:=by intro _; rfl)
  (hf:X.fn y=true\/X.env.scope.names.lookup y=some .local:=by first|exact .inl rfl|exact .inr rfl|assumption) :
  PS X (.Assign [.Name y py] (.ListComp elt [⟨tg,iter,[],0⟩] scope pos) spos) (nq (qP wi g src te) (iy i)):=by
 refine⟨λpins s σ H D I h=>?_⟩
 rw[exec_Assign_Name_used _ _ _ _ hsw]
 have hcl:closureFor scope X.env=pure (jB X.env.cells scope.names []):=MK λy hy e=>by
  have k:=S.free y hy e
  rw[<-hsc]at k
  obtain⟨c,q⟩:=I.ok.has y.1 k
  rw[q]; rfl
 refine wpAny_bind (wpAny_standAt (wpAny_bind ?_))
 show wpAny _ X.A (do let _ <-comprehension (.ListComp elt [⟨tg,iter,[],0⟩] scope pos) scope X.env _ (newList []) false (eval iter X.env) (some (assign (.Name y py) X.env))) _ _ s
 refine wpAny_bind (wpAny_mono (wpAny_comprehension_free (use:=some (assign (.Name y py) X.env)) (Q:=λ_ s'=>SP X pins D .next s') rfl hs hcl S.kind S.names
  (M6 (Q:=λv H'=>D.nx (σ.set i (some v)) H') (RR:=λacc C=>compPost (model X.prog X.w) X.A X.xe (some (assign (.Name y py) X.env)) (λ_ s'=>SP X pins D .next s') acc C) hsc sI S hc hi hg he I h ?_)) (λ_ s' hq=>wpAny_pure (wpAny_pure hq)) λ_ _ e=>e)
 intro Da C H' s' m I' n1 n2 n3 n4 n5 hn q
 show wpAny _ X.A (assign (.Name y py) X.env (.ref Da)) _ _ _
 refine wpAny_assign_Name (Kg I' hN Wr hy (v:=.ref Da) rfl (λs2 I2 hsame=>?_) hf)
 obtain⟨a,hsb,ha⟩:=hsame
 have Ws:C≠a:=by
  rcases ha with z|z
  ·rw[z]; exact n2
  ·exact λe=>n4 y a z e.symm
 refine⟨m,hn.sameBut hsb Ws,λh' hs'=>⟨σ.set i (some (.ref Da)),H',?_,q⟩⟩
 exact I2.turned (t':=s2.toks) (λb o hb e=>(hs'.2 b hb).trans e) n1 n2 (.inr n3) n4 n5
end
section
variable {K:FZ}{g:TG}{te:TE}{Q:VK}
end
end L2
end
section
namespace L2
open PySem PySem.Spec PyProof.Rows
def zc(e C:Addr)(h:Heap):Prop:=∃o vs,h.get? e=some o/\o.cls=.ref C/\o.data=.fields vs
def mV(e C:Addr):HO:=.ext (zc e C)
def mW:List Str:=["NoBottom", "NoBook", "NoList", "NoRule", "NoCount", "NoLooks", "NoThings", "NotSure", "NoSlack", "NoThing", "NoWorth", "TooMany", "NoText", "NoLine"]
inductive Tr where
 |non|bl (b:Bool)|int (i:Int)|str (x:Str)|tup (ts:List Tr)|lst (ts:List Tr)|dD (c:Str)
mutual
inductive Rep(K:FZ)(H:Hp):V->Tr->Prop
 |non:Rep K H .non .non
 |bl (b:Bool):Rep K H (.bl b) (.bl b)
 |int (i:Int):Rep K H (.int i) (.int i)
 |str (x:Str):Rep K H (.str x) (.str x)
 |tup {a:Addr} {xs:List V} {ts:List Tr} (h:fM K H a xs) (r:aQ K H xs ts):Rep K H (.ref a) (.tup ts)
 |lst {a:Addr} {xs:List V} {ts:List Tr} (h:eF K H a xs) (r:aQ K H xs ts):Rep K H (.ref a) (.lst ts)
 |dD {a C:Addr} {c:Str} (h:H a=some (mV a C)) (m:c∈mW) (n:PySem.W.nsIn K mainGlobals c=some (some (.ref C))):Rep K H (.ref a) (.dD c)
inductive aQ(K:FZ)(H:Hp):List V->List Tr->Prop
 |nil:aQ K H [] []
 |cons {x:V} {t:Tr} {xs:List V} {ts:List Tr} (h:Rep K H x t) (r:aQ K H xs ts):aQ K H (x::xs) (t::ts)
end
theorem Same.jV{K:FZ}{H H':Hp}{a:Addr}{xs:List V}(e:Same H H')(h:fM K H a xs):fM K H' a xs:=by
 rcases h with(h|⟨o,h⟩)|h
 ·exact .inl (.inl (e _ _ h))
 ·exact .inl (.inr ⟨o,e _ _ h⟩)
 ·exact .inr h
mutual
theorem Rep.mono{K:FZ}{H H':Hp}(e:Same H H'):∀{v:V} {t:Tr},Rep K H v t->Rep K H' v t
 |_,_,.non=>.non
 |_,_,.bl b=>.bl b
 |_,_,.int i=>.int i
 |_,_,.str x=>.str x
 |_,_,.tup h r=>.tup (e.jV h) (aQ.mono e r)
 |_,_,.lst h r=>.lst (e.seq h) (aQ.mono e r)
 |_,_,.dD h m n=>.dD (e _ _ h) m n
theorem aQ.mono{K:FZ}{H H':Hp}(e:Same H H'):∀{v:List V} {t:List Tr},aQ K H v t->aQ K H' v t
 |_,_,.nil=>.nil
 |_,_,.cons h r=>.cons (Rep.mono e h) (aQ.mono e r)
end
theorem aQ.length{K:FZ}{H:Hp}:∀{v:List V} {t:List Tr},aQ K H v t->v.length=t.length
 |_,_,.nil=>rfl
 |_,_,.cons _ r=>by rw[List.length_cons,List.length_cons,aQ.length r]
theorem aQ.get{K:FZ}{H:Hp}:∀{v:List V} {t:List Tr} {i:Nat} {x:V},aQ K H v t->v[i]?=some x->∃u,t[i]?=some u/\Rep K H x u
 |_,_,_,_,.nil,e=>by simp at e
 |_,_,0,_,.cons h _,e=>by
  simp at e
  subst e
  exact⟨_,rfl,h⟩
 |_,_,i+1,x,.cons _ r,e=>by
  obtain⟨u,h1,h2⟩:=aQ.get (i:=i) (x:=x) r (by simpa using e)
  exact⟨u,by simpa using h1,h2⟩
theorem aQ.app{K:FZ}{H:Hp}:∀{v w:List V} {t u:List Tr},aQ K H v t->aQ K H w u->aQ K H (v++w) (t++u)
 |_,_,_,_,.nil,s=>s
 |_,_,_,_,.cons h r,s=>.cons h (aQ.app r s)
theorem aQ.take{K:FZ}{H:Hp}:∀{v:List V} {t:List Tr} (n:Nat),aQ K H v t->aQ K H (v.take n) (t.take n)
 |_,_,0,_=>by rw[List.take_zero,List.take_zero]; exact .nil
 |_,_,n+1,.nil=>by simpa using aQ.nil
 |_,_,n+1,.cons h r=>by
  rw[List.take_succ_cons,List.take_succ_cons]
  exact .cons h (aQ.take n r)
theorem aQ.drop{K:FZ}{H:Hp}:∀{v:List V} {t:List Tr} (n:Nat),aQ K H v t->aQ K H (v.drop n) (t.drop n)
 |_,_,0,r=>by rw[List.drop_zero,List.drop_zero]; exact r
 |_,_,n+1,.nil=>by simpa using aQ.nil
 |_,_,n+1,.cons h r=>by
  rw[List.drop_succ_cons,List.drop_succ_cons]
  exact aQ.drop n r
mutual
noncomputable def dep:Tr->Nat
 |.tup ts=>deps ts+1
 |.lst ts=>deps ts+1
 |.dD _=>100
 |_=>0
noncomputable def deps:List Tr->Nat
 | []=>0
 |t::r=>max (dep t) (deps r)
end
mutual
noncomputable def eqT:Tr->Tr->Bool
 |.non,.non=>true
 |.bl a,.bl b=>a == b
 |.bl a,.int b=>(if a then 1 else 0) == b
 |.int a,.bl b=>a == (if b then 1 else 0)
 |.int a,.int b=>a == b
 |.str a,.str b=>a == b
 |.tup a,.tup b=>oO a b
 |.lst a,.lst b=>oO a b
 |.dD a,.dD b=>a == b
 |_,_=>false
noncomputable def oO:List Tr->List Tr->Bool
 | [],[]=>true
 |a::x,b::y=>eqT a b&&oO x y
 |_,_=>false
end
mutual
theorem zf:∀t:Tr,eqT t t=true
 |.non=>rfl
 |.bl b=>by unfold eqT; exact beq_self_eq_true b
 |.int i=>by unfold eqT; exact beq_self_eq_true i
 |.str x=>by unfold eqT; exact beq_self_eq_true x
 |.tup ts=>by unfold eqT; exact Ei ts
 |.lst ts=>by unfold eqT; exact Ei ts
 |.dD c=>by unfold eqT; exact beq_self_eq_true c
theorem Ei:∀ts:List Tr,oO ts ts=true
 | []=>rfl
 |t::r=>by unfold oO; rw[zf t,Ei r]; rfl
end
theorem vU:∀{a b:List Tr},a.length≠b.length->oO a b=false
 | [],[],h=>absurd rfl h
 | [],_::_,_=>rfl
 |_::_,[],_=>rfl
 |x::a,y::b,h=>by
  unfold oO
  rw[vU (a:=a) (b:=b) (by simpa using h),Bool.and_false]
def qd(a b:List Tr)(j:Nat):Bool:=match a[j]?,b[j]? with
 |some x,some y=>eqT x y
 |_,_=>true
theorem vV:∀{a b:List Tr},a.length=b.length->(List.range a.length).all (qd a b)=oO a b
 | [],[],_=>rfl
 | [],_::_,h=>by cases h
 |_::_,[],h=>by cases h
 |x::a,y::b,h=>by
  have ih:=vV (a:=a) (b:=b) (by simpa using h)
  rw[List.length_cons,List.range_succ_eq_map,List.all_cons,List.all_map]
  unfold oO
  rw[<-ih]
  rfl
section
variable {X:Cx}{pins:List (Addr × Obj)}{σ : St}{H:Hp}{s:Shared}
theorem Inv.Wt(I:Inv X pins σ H s){a C:Addr}{its:Array Value}(h:H a=some (mV a C))(p:IsTup s.heap a its):False:=by
 obtain⟨o,_,e1,e2,_⟩:=(I.hok a _ h).1
 obtain⟨o',e1',e2',_⟩:=p
 rw[e1]at e1'
 cases e1'
 rw[e2]at e2'
 cases e2'
theorem Inv.Wu(I:Inv X pins σ H s){a C:Addr}{its:Array Value}(h:H a=some (mV a C))(p:PlainL s.heap a its):False:=by
 obtain⟨o,_,e1,e2,_⟩:=(I.hok a _ h).1
 obtain⟨o',_,e1',e2',_⟩:=p
 rw[e1]at e1'
 cases e1'
 rw[e2]at e2'
 cases e2'
mutual
theorem Rep.inj(I:Inv X pins σ H s):∀{v:V} {t u:Tr},dep t<=99->Rep X.K H v t->Rep X.K H v u->t=u
 |_,_,_,_,.non,.non=>rfl
 |_,_,_,_,.bl _,.bl _=>rfl
 |_,_,_,_,.int _,.int _=>rfl
 |_,_,_,_,.str _,.str _=>rfl
 |_,_,_,d,.tup h r,.tup h' r'=>by
  have e:=I.KH h h'
  subst e
  rw[aQ.inj I (by unfold dep at d; omega) r r']
 |_,_,_,d,.lst h r,.lst h' r'=>by
  have e:=I.KD h h'
  subst e
  rw[aQ.inj I (by unfold dep at d; omega) r r']
 |_,_,_,_,.tup h r,.lst h' r'=>by
  obtain⟨_,_,p,_⟩:=I.tuple h
  obtain⟨_,_,p',_⟩:=I.list h'
  exact absurd rfl (SeqAt.ne_of_list_tuple p'.isList p)
 |_,_,_,_,.lst h r,.tup h' r'=>by
  obtain⟨_,_,p,_⟩:=I.tuple h'
  obtain⟨_,_,p',_⟩:=I.list h
  exact absurd rfl (SeqAt.ne_of_list_tuple p'.isList p)
 |_,_,_,d,.dD h _ n,_=>by unfold dep at d; omega
 |_,_,_,_,.tup h r,.dD h' _ _=>by
  obtain⟨_,_,p,_⟩:=I.tuple h
  exact(I.Wt h' p).elim
 |_,_,_,_,.lst h r,.dD h' _ _=>by
  obtain⟨_,_,p,_⟩:=I.list h
  exact(I.Wu h' p).elim
theorem aQ.inj(I:Inv X pins σ H s):∀{v:List V} {t u:List Tr},deps t<=99->aQ X.K H v t->aQ X.K H v u->t=u
 |_,_,_,_,.nil,.nil=>rfl
 |_,_,_,d,.cons h r,.cons h' r'=>by
  unfold deps at d
  rw[Rep.inj I (by omega) h h',aQ.inj I (by omega) r r']
end
theorem in1_units(A:Around):A.in1.units<=A.units+1:=by
 show A.units+1<=_
 omega
theorem zm{xs:List V}{its:List Value}{j:Nat}(r:Vals xs its)(h:j<its.toArray.size):∃x,xs[j]?=some x/\RelV x its.toArray[j]:=by
 have h':j<its.length:=by simpa using h
 have hx:j<xs.length:=by rw[r.length]; exact h'
 obtain⟨u,h1,h2⟩:=r.get (List.getElem?_eq_getElem hx)
 refine⟨xs[j],List.getElem?_eq_getElem hx,?_⟩
 have e:u=its.toArray[j]:=by
  rw[List.getElem?_eq_getElem h']at h1
  have:=Option.some.inj h1
  simpa using this.symm
 rw[<-e]; exact h2
theorem M9{a b:List Tr}{j:Nat}{x y:Tr}(h1:a[j]?=some x)(h2:b[j]?=some y):qd a b j=eqT x y:=by
 unfold qd
 rw[h1,h2]
theorem qQ:∀{ts:List Tr} {j:Nat} {t:Tr},ts[j]?=some t->dep t<=deps ts
 | [],_,_,h=>by simp at h
 |x::r,0,t,h=>by
  simp at h
  subst h
  unfold deps
  exact Nat.le_max_left _ _
 |x::r,j+1,t,h=>by
  have:=qQ (ts:=r) (j:=j) (t:=t) (by simpa using h)
  unfold deps
  exact Nat.le_trans this (Nat.le_max_right _ _)
theorem vW(I:Inv X pins σ H s)(A:Around)(t u:Tr)(x y:V)(xv yv:Value)(hu:A.units+0<cLine)(hd:dep t<=0)(du:dep u<=99)(rx:Rep X.K H x t)(ry:Rep X.K H y u)(vx:RelV x xv)(vy:RelV y yv) :
  SeqAt.RcAt A s xv yv (eqT t u)/\SeqAt.EqAt A s xv yv (eqT t u):=by
 have hu0:A.units<cLine:=by omega
 cases rx with
 |tup h r=>unfold dep at hd; omega
 |lst h r=>unfold dep at hd; omega
 |dD h m n=>unfold dep at hd; omega
 |non =>
  cases vx
  cases ry with
  |non=>cases vy; unfold eqT; exact⟨SeqAt.RcAt.none_none,.same _⟩
  |bl b2=>cases vy; unfold eqT; exact⟨SeqAt.RcAt.none_bool _,SeqAt.EqAt.none_bool _⟩
  |int i2=>obtain⟨_,rfl⟩:=vy; unfold eqT; exact⟨SeqAt.RcAt.none_int _ _,SeqAt.EqAt.none_int _ _⟩
  |str z2=>obtain⟨_,rfl⟩:=vy; unfold eqT; exact⟨SeqAt.RcAt.none_str _ _,SeqAt.EqAt.none_str _ _⟩
  |tup h r=>cases vy; obtain⟨_,_,p,_⟩:=I.tuple h; unfold eqT; exact⟨SeqAt.RcAt.none_tuple p hu0,SeqAt.EqAt.none_tuple p hu0⟩
  |lst h r=>cases vy; obtain⟨_,_,p,_⟩:=I.list h; unfold eqT; exact⟨SeqAt.RcAt.none_list p.isList hu0,SeqAt.EqAt.none_list p.isList hu0⟩
  |dD h m n=>unfold dep at du; omega
 |bl b =>
  cases vx
  cases ry with
  |non=>cases vy; unfold eqT; exact⟨SeqAt.RcAt.bool_none _,SeqAt.EqAt.bool_none _⟩
  |bl b2=>cases vy; unfold eqT; exact⟨SeqAt.RcAt.bool_bool _ _,SeqAt.EqAt.bool_bool _ _⟩
  |int i2=>obtain⟨_,rfl⟩:=vy; unfold eqT; exact⟨SeqAt.RcAt.bool_int _ _ _,SeqAt.EqAt.bool_int _ _ _⟩
  |str z2=>obtain⟨_,rfl⟩:=vy; unfold eqT; exact⟨SeqAt.RcAt.bool_str _ _ _,SeqAt.EqAt.bool_str _ _ _⟩
  |tup h r=>cases vy; obtain⟨_,_,p,_⟩:=I.tuple h; unfold eqT; exact⟨SeqAt.RcAt.bool_tuple _ p hu0,SeqAt.EqAt.bool_tuple _ p hu0⟩
  |lst h r=>cases vy; obtain⟨_,_,p,_⟩:=I.list h; unfold eqT; exact⟨SeqAt.RcAt.bool_list _ p.isList hu0,SeqAt.EqAt.bool_list _ p.isList hu0⟩
  |dD h m n=>unfold dep at du; omega
 |int i =>
  obtain⟨_,rfl⟩:=vx
  cases ry with
  |non=>cases vy; unfold eqT; exact⟨SeqAt.RcAt.int_none _ _,SeqAt.EqAt.int_none _ _⟩
  |bl b2=>cases vy; unfold eqT; exact⟨SeqAt.RcAt.int_bool _ _ _,SeqAt.EqAt.int_bool _ _ _⟩
  |int i2=>obtain⟨_,rfl⟩:=vy; unfold eqT; exact⟨SeqAt.RcAt.int_int _ _ _ _,SeqAt.EqAt.int_int _ _ _ _⟩
  |str z2=>obtain⟨_,rfl⟩:=vy; unfold eqT; exact⟨SeqAt.RcAt.int_str _ _ _ _,SeqAt.EqAt.int_str _ _ _ _⟩
  |tup h r=>cases vy; obtain⟨_,_,p,_⟩:=I.tuple h; unfold eqT; exact⟨SeqAt.RcAt.int_tuple _ _ p hu0,SeqAt.EqAt.int_tuple _ _ p hu0⟩
  |lst h r=>cases vy; obtain⟨_,_,p,_⟩:=I.list h; unfold eqT; exact⟨SeqAt.RcAt.int_list _ _ p.isList hu0,SeqAt.EqAt.int_list _ _ p.isList hu0⟩
  |dD h m n=>unfold dep at du; omega
 |str z =>
  obtain⟨_,rfl⟩:=vx
  cases ry with
  |non=>cases vy; unfold eqT; exact⟨SeqAt.RcAt.str_none _ _,SeqAt.EqAt.str_none _ _⟩
  |bl b2=>cases vy; unfold eqT; exact⟨SeqAt.RcAt.str_bool _ _ _,SeqAt.EqAt.str_bool _ _ _⟩
  |int i2=>obtain⟨_,rfl⟩:=vy; unfold eqT; exact⟨SeqAt.RcAt.str_int _ _ _ _,SeqAt.EqAt.str_int _ _ _ _⟩
  |str z2=>obtain⟨_,rfl⟩:=vy; unfold eqT; exact⟨SeqAt.RcAt.str_str _ _ _ _,SeqAt.EqAt.str_str _ _ _ _⟩
  |tup h r=>cases vy; obtain⟨_,_,p,_⟩:=I.tuple h; unfold eqT; exact⟨SeqAt.RcAt.str_tuple _ _ p hu0,SeqAt.EqAt.str_tuple _ _ p hu0⟩
  |lst h r=>cases vy; obtain⟨_,_,p,_⟩:=I.list h; unfold eqT; exact⟨SeqAt.RcAt.str_list _ _ p.isList hu0,SeqAt.EqAt.str_list _ _ p.isList hu0⟩
  |dD h m n=>unfold dep at du; omega
theorem zp(I:Inv X pins σ H s):∀(n:Nat) (A:Around) (t u:Tr) (x y:V) (xv yv:Value),A.units+n<cLine->dep t<=n->dep t<=99->dep u<=99->Rep X.K H x t->Rep X.K H y u->RelV x xv->RelV y yv ->
  SeqAt.RcAt A s xv yv (eqT t u)/\SeqAt.EqAt A s xv yv (eqT t u):=by
 intro n
 induction n with
 |zero=>exact λA t u x y xv yv hu hd _ du rx ry vx vy=>vW I A t u x y xv yv hu hd du rx ry vx vy
 |succ n ih =>
  intro A t u x y xv yv hu hd uF du rx ry vx vy
  have hu0:A.units<cLine:=by omega
  have hu1:A.in1.units+n<cLine:=by
   have:=in1_units A
   omega
  have he:∀{xs ys:List V} {ts us:List Tr} {its its2:List Value},Vals xs its->Vals ys its2->aQ X.K H xs ts->aQ X.K H ys us->deps ts<=n->deps ts<=99->deps us<=99->∀j (h1:j<its.toArray.size) (h2:j<its2.toArray.size),SeqAt.EqAt A.in1 s its.toArray[j] its2.toArray[j] (qd ts us j):=by
   intro xs ys ts us its its2 r1 r2 q1 q2 hde Wv Nb j h1 h2
   obtain⟨a,ea,ra⟩:=zm r1 h1
   obtain⟨b,eb,rb⟩:=zm r2 h2
   obtain⟨ta,eta,qa⟩:=q1.get ea
   obtain⟨tb,vX,qb⟩:=q2.get eb
   rw[M9 eta vX]
   exact(ih A.in1 ta tb a b _ _ hu1 (Nat.le_trans (qQ eta) hde) (Nat.le_trans (qQ eta) Wv) (Nat.le_trans (qQ vX) Nb) qa qb ra rb).2
  have dt:∀{ts:List Tr},dep (.tup ts)<=n+1->deps ts<=n:=λ{ts} h=>by unfold dep at h; omega
  have dl:∀{ts:List Tr},dep (.lst ts)<=n+1->deps ts<=n:=λ{ts} h=>by unfold dep at h; omega
  have nt:∀{ts:List Tr},dep (.tup ts)<=99->deps ts<=99:=λ{ts} h=>by unfold dep at h; omega
  have nl:∀{ts:List Tr},dep (.lst ts)<=99->deps ts<=99:=λ{ts} h=>by unfold dep at h; omega
  have refs:∀{a b:Addr} {t u:Tr} {k:Bool},dep t<=99->Rep X.K H (.ref a) t->Rep X.K H (.ref b) u->k=eqT t u->SeqAt.RcAt A s (.ref a) (.ref b) k->SeqAt.EqAt A s (.ref a) (.ref b) k:=λ{a b t u k} d9 r1 r2 ek h=>by
   by_cases e:a=b
   ·subst e
    have:=Rep.inj I d9 r1 r2
    subst this
    rw[ek,zf]
    exact .same _
   ·exact .of_refs e h
  cases rx with
  | @tup a1 xs1 ts h r =>
   cases vx
   obtain⟨its,rv,p,_⟩:=I.tuple h
   cases ry with
   | @tup a2 xs2 us h' r' =>
    cases vy
    obtain⟨its2,nG,p2,_⟩:=I.tuple h'
    have R:=SeqAt.RcAt.tuples p p2 hu0 (he rv nG r r' (dt hd) (nt uF) (nt du))
    have el:its.toArray.size=ts.length:=by simpa using(rv.length.symm.trans r.length)
    have el2:its2.toArray.size=us.length:=by simpa using(nG.length.symm.trans r'.length)
    rw[el,el2]at R
    have eb:((List.range (min ts.length us.length)).all (qd ts us)&&ts.length == us.length)=eqT (.tup ts) (.tup us):=by
     unfold eqT
     by_cases e:ts.length=us.length
     ·rw[e,Nat.min_self,<-e,vV e,beq_self_eq_true,Bool.and_true]
     ·rw[beq_false_of_ne e,Bool.and_false,vU e]
    rw[eb]at R
    exact⟨R,refs uF (.tup h r) (.tup h' r') rfl R⟩
   |lst h' r' =>
    cases vy
    obtain⟨_,_,p2,_⟩:=I.list h'
    unfold eqT
    exact⟨SeqAt.RcAt.tuple_list p p2.isList hu0,.tuple_list p p2.isList hu0⟩
   |dD h' m n=>unfold dep at du; omega
   |non=>cases vy; unfold eqT; exact⟨SeqAt.RcAt.tuple_none p hu0,.tuple_none p hu0⟩
   |bl b=>cases vy; unfold eqT; exact⟨SeqAt.RcAt.tuple_bool _ p hu0,.tuple_bool _ p hu0⟩
   |int i=>obtain⟨_,rfl⟩:=vy; unfold eqT; exact⟨SeqAt.RcAt.tuple_int _ _ p hu0,.tuple_int _ _ p hu0⟩
   |str z=>obtain⟨_,rfl⟩:=vy; unfold eqT; exact⟨SeqAt.RcAt.tuple_str _ _ p hu0,.tuple_str _ _ p hu0⟩
  | @lst a1 xs1 ts h r =>
   cases vx
   obtain⟨its,rv,p,_⟩:=I.list h
   cases ry with
   | @lst a2 xs2 us h' r' =>
    cases vy
    obtain⟨its2,nG,p2,_⟩:=I.list h'
    have el:its.toArray.size=ts.length:=by simpa using(rv.length.symm.trans r.length)
    have el2:its2.toArray.size=us.length:=by simpa using(nG.length.symm.trans r'.length)
    by_cases e:ts.length=us.length
    ·have R:=SeqAt.RcAt.lists p.isList p2.isList (by rw[el,el2,e]) hu0 (he rv nG r r' (dl hd) (nl uF) (nl du))
     rw[el,vV e]at R
     have eb:oO ts us=eqT (.lst ts) (.lst us):=by unfold eqT; rfl
     rw[eb]at R
     exact⟨R,refs uF (.lst h r) (.lst h' r') rfl R⟩
    ·have R:SeqAt.RcAt A s _ _ false:=SeqAt.RcAt.lists_lengths p.isList p2.isList (by rw[el,el2]; simpa using e) hu0
     have eb:false=eqT (.lst ts) (.lst us):=by unfold eqT; rw[vU e]
     rw[eb]at R
     exact⟨R,refs uF (.lst h r) (.lst h' r') rfl R⟩
   |tup h' r' =>
    cases vy
    obtain⟨_,_,p2,_⟩:=I.tuple h'
    unfold eqT
    exact⟨SeqAt.RcAt.list_tuple p.isList p2 hu0,.list_tuple p.isList p2 hu0⟩
   |dD h' m n=>unfold dep at du; omega
   |non=>cases vy; unfold eqT; exact⟨SeqAt.RcAt.list_none p.isList hu0,.list_none p.isList hu0⟩
   |bl b=>cases vy; unfold eqT; exact⟨SeqAt.RcAt.list_bool _ p.isList hu0,.list_bool _ p.isList hu0⟩
   |int i=>obtain⟨_,rfl⟩:=vy; unfold eqT; exact⟨SeqAt.RcAt.list_int _ _ p.isList hu0,.list_int _ _ p.isList hu0⟩
   |str z=>obtain⟨_,rfl⟩:=vy; unfold eqT; exact⟨SeqAt.RcAt.list_str _ _ p.isList hu0,.list_str _ _ p.isList hu0⟩
  |dD h m n=>unfold dep at uF; omega
  |non=>exact vW I A _ _ _ _ _ _ (by omega) (by unfold dep; omega) du .non ry vx vy
  |bl b=>exact vW I A _ _ _ _ _ _ (by omega) (by unfold dep; omega) du (.bl b) ry vx vy
  |int i=>exact vW I A _ _ _ _ _ _ (by omega) (by unfold dep; omega) du (.int i) ry vx vy
  |str z=>exact vW I A _ _ _ _ _ _ (by omega) (by unfold dep; omega) du (.str z) ry vx vy
end
end L2
end
section
namespace L2
open PySem PySem.Spec PyProof.Rows
section
variable {X:Cx}{a b:Expr}{ta tb:TE}{pos:Pos}
def Ej(K:FZ):R2:=λx y H Q=>∃t u,Rep K H x t/\Rep K H y u/\dep t<=40/\dep u<=40/\Q (.bl (eqT t u)) H
theorem iM(hu:X.A.units+64<cLine):fH X (compareOp .Eq) (Ej X.K):=by
 intro pins s σ H x y v u Q I rx ry h
 obtain⟨t,t',q1,q2,hd,hd2,q⟩:=h
 exact(zp I 40 X.A t t' x y v u (by omega) hd (by omega) (by omega) q1 q2 rx ry).1 _ _ _ _ ⟨.bl _,H,I,rfl,q⟩
def nH(t:Tr)(ts:List Tr):Bool:=ts.any λu=>eqT u t
def Ek(K:FZ):R2:=λx y H Q=>∃t ts p xs,Rep K H x t/\y=.ref p/\(eF K H p xs\/fM K H p xs)/\aQ K H xs ts/\deps ts<=40/\dep t<=40/\Q (.bl (nH t ts)) H
theorem zq{xs:List V}{its:List Value}{ts:List Tr}{K:FZ}{H:Hp}(f:Tr->Bool)(e:Value->Bool)(r:Vals xs its)(q:aQ K H xs ts)(h:∀x v t,x∈xs->RelV x v->Rep K H x t->t∈ts->e v=f t):its.any e=ts.any f:=by
 induction r generalizing ts with
 |nil=>cases q; rfl
 |cons r1 r2 ih =>
  cases q with
  |cons q1 q2 =>
   rw[List.any_cons,List.any_cons,h _ _ _ List.mem_cons_self r1 q1 List.mem_cons_self,ih q2 λx v t hx hr hq ht=>h x v t (List.mem_cons_of_mem _ hx) hr hq (List.mem_cons_of_mem _ ht)]
theorem uG:∀{ts:List Tr} {t:Tr},t∈ts->dep t<=deps ts:=λ{ts t} h=>by
 obtain⟨i,hi,e⟩:=List.mem_iff_getElem.mp h
 exact qQ (j:=i) (by rw[List.getElem?_eq_getElem hi,e])
open Classical in
theorem El(hu:X.A.units+64<cLine):fH X (compareOp .In) (Ek X.K):=by
 intro pins s σ H x y v u Q I rx ry h
 obtain⟨t,ts,p,xs,q1,rfl,hq,qs,hd,hd2,q⟩:=h
 cases ry
 have hu1:X.A.in1.units+40<cLine:=by
  have:=in1_units X.A
  omega
 -- what == tells of an item,by the item itself
 let e:Value->Bool:=λw'=>if h:∃z tz,z∈xs/\RelV z w'/\Rep X.K H z tz/\tz∈ts then eqT (Classical.choose (Classical.choose_spec h)) t else false
 have ee:∀z w' tz,z∈xs->RelV z w'->Rep X.K H z tz->tz∈ts->e w'=eqT tz t:=λz w' tz h1 h2 h3 h4=>by
  have hx:∃z tz,z∈xs/\RelV z w'/\Rep X.K H z tz/\tz∈ts:=⟨z,tz,h1,h2,h3,h4⟩
  show(if h:_ then _ else _)=_
  rw[dif_pos hx]
  have sp:=Classical.choose_spec (Classical.choose_spec hx)
  have key:∀z z' t1 t2,RelV z w'->RelV z' w'->dep t1<=99->Rep X.K H z t1->Rep X.K H z' t2->t1=t2:=λz z' t1 t2 a1 a2 d9 a3 a4=>by
   obtain rfl:=RelV.inj a1 a2
   exact Rep.inj I d9 a3 a4
  rw[key _ _ _ _ sp.2.1 h2 (by have:=uG sp.2.2.2; omega) sp.2.2.1 h3]
 have mem:∀{its:List Value},Vals xs its->∀w'∈its,SeqAt.EqAt X.A.in1 s w' v (e w'):=by
  intro its r w' hw
  obtain⟨j,hj,ej⟩:=List.mem_iff_getElem.mp hw
  have hjx:j<xs.length:=by rw[r.length]; exact hj
  obtain⟨u',h1,h2⟩:=r.get (List.getElem?_eq_getElem hjx)
  rw[List.getElem?_eq_getElem hj,ej]at h1
  cases h1
  obtain⟨tz,h3,h4⟩:=qs.get (List.getElem?_eq_getElem hjx)
  have hm:=List.mem_of_getElem? h3
  rw[ee _ _ tz (List.getElem_mem hjx) h2 h4 hm]
  exact(zp I 40 X.A.in1 tz t _ x _ v hu1 (Nat.le_trans (uG hm) hd) (by have:=uG hm; omega) (by omega) h4 q1 h2 rx).2
 rcases hq with hq|hq
 ·obtain⟨its,r,pl,hz⟩:=I.list hq
  refine SeqAt.in_listAt e pl.isList (λw hw=>mem r w (by simpa using hw)) ⟨.bl _,H,I,rfl,?_⟩
  rw[show its.toArray.any e=its.any e by simp,zq (λz=>eqT z t) e r qs λz w' tz h1 h2 h3 h4=>ee z w' tz h1 h2 h3 h4]
  exact q
 ·obtain⟨its,r,pl,hz⟩:=I.tuple hq
  refine SeqAt.in_tupleAt e pl (λw hw=>mem r w (by simpa using hw)) ⟨.bl _,H,I,rfl,?_⟩
  rw[show its.toArray.any e=its.any e by simp,zq (λz=>eqT z t) e r qs λz w' tz h1 h2 h3 h4=>ee z w' tz h1 h2 h3 h4]
  exact q
inductive Ty where|int|bool|str|tuple|list
def Ty.name:Ty->String
 |.int => "int" |.bool => "bool" |.str => "str" |.tuple => "tuple" |.list => "list"
def cV:Tr->Ty->Bool
 |.bl _,.bool=>true|.bl _,.int=>true|.int _,.int=>true|.str _,.str=>true|.tup _,.tuple=>true|.lst _,.list=>true
 |_,_=>false
def zu(K:FZ):List V->Hp->VK->Prop:=λxs H Q=>∃v t c,xs=[v,.ty (Ty.name c)]/\Rep K H v t/\Q (.bl (cV t c)) H
def zx(K:FZ):Prop:=∀c∈mW,∀C,PySem.W.nsIn K mainGlobals c=some (some (.ref C))->(∀a,PySem.W.KitX K (.ref a) (.ref C) (zc a C))/\∀y:Ty,PySem.W.kitOne K (.ref C) (.type y.name)=some false
theorem Ww(hX:zx X.K):iK X (.builtin "isinstance") (zu X.K):=by
 intro pins s σ H xs us Q I r h
 obtain⟨v,t,c,rfl,q1,q⟩:=h
 obtain⟨u,w',rfl,ru,kZ⟩:=vals2 r
 obtain rfl:w'=Value.type (Ty.name c):=kZ
 have fin:∀tk,EP X pins σ Q (.bool (cV t c)) {s with toks:=tk }:=λtk=>⟨.bl _,H,I.tok tk,rfl,q⟩
 cases q1 with
 |non=>cases ru; cases c <;> exact PySem.W.kia_one PySem.W.kitx_none I.jA True.intro (by kernel_rfl) (λz=>nomatch z) fin
 |bl y=>cases ru; cases c <;> exact PySem.W.kia_one PySem.W.kitx_bool I.jA True.intro (by kernel_rfl) (λz=>nomatch z) fin
 |int i=>obtain⟨_,rfl⟩:=ru; cases c <;> exact PySem.W.kia_one PySem.W.kitx_int I.jA True.intro (by kernel_rfl) (λz=>nomatch z) fin
 |str y=>obtain⟨_,rfl⟩:=ru; cases c <;> exact PySem.W.kia_one PySem.W.kitx_str I.jA True.intro (by kernel_rfl) (λz=>nomatch z) fin
 |tup h r =>
  cases ru
  obtain⟨_,_,⟨o,h1,h2,_⟩,_⟩:=I.tuple h
  cases c <;> exact PySem.W.kia_one PySem.W.kitx_tuple I.jA ⟨o,h1,h2⟩ (by kernel_rfl) (λz=>nomatch z) fin
 |lst h r =>
  cases ru
  obtain⟨_,_,p,_⟩:=I.list h
  obtain⟨o,h1,h2,_⟩:=p.isList
  cases c <;> exact PySem.W.kia_one PySem.W.kitx_list I.jA ⟨o,h1,h2⟩ (by kernel_rfl) (λz=>nomatch z) fin
 |dD h m n =>
  cases ru
  obtain⟨z1,z2⟩:=hX _ m _ n
  exact PySem.W.kia_one (z1 _) I.jA (I.hok _ _ h).1 (z2 c) (λz=>nomatch z) fin
def Em(K:FZ):List V->Hp->VK->Prop:=λxs H Q=>∃(p:Addr) (bs:List Bool),xs=[.ref p]/\eF K H p (bs.map V.bl)/\Q (.bl (bs.all id)) H
theorem uH(hc:X.calm=true):iK X (.builtin "all") (Em X.K):=by
 intro pins s σ H xs us Q I r h
 obtain⟨p,bs,rfl,hq,q⟩:=h
 obtain⟨u,rfl,ru⟩:=vals1 r
 cases ru
 obtain⟨its,rv,pl,hz⟩:=I.list hq
 refine call_all_walk (wpAny_pyIter_list pl.isList ?_)
 obtain⟨ol,hol,hol'⟩:=id pl.isList
 have hlt:p<s.heap.objs.size:=Heap.lt_size hol
 have hlen:its.toArray.size=bs.length:=by simpa using rv.length.symm
 have at_:∀(i:Nat) (v:Value),its.toArray[i]?=some v->∃k,bs[i]?=some k/\v=Value.bool k:=λi v e=>by
  have e':its[i]?=some v:=by simpa using e
  have hi:i<its.length:=(List.getElem?_eq_some_iff.mp e').1
  have hb:i<(bs.map V.bl).length:=by rw[rv.length]; exact hi
  obtain⟨u',h1,h2⟩:=rv.get (List.getElem?_eq_getElem hb)
  rw[e']at h1
  cases h1
  have hb':i<bs.length:=by simpa using hb
  refine⟨bs[i],List.getElem?_eq_getElem hb',?_⟩
  rw[List.getElem_map]at h2
  exact h2
 refine⟨s.heap.objs.size,_,_,_,_,_,λi=>bs.getD i true,rfl,Walks.list (A:=X.A.in1) (I.ok.hd hc) s.heap.objs.size p (Nat.ne_of_lt hlt) its.toArray,⟨⟨_,Heap.get?_push_size _ rfl,rfl,rfl⟩,⟨ol,Heap.get?_push_of_some _ hol,hol'⟩⟩,?_,?_⟩
 ·intro i v s' Q' E' hP hQ'
  obtain⟨k,h1,rfl⟩:=at_ i v hP
  have:bs.getD i true=k:=by rw[List.getD_eq_getElem?_getD,h1]; rfl
  dsimp only at hQ'
  rw[this]at hQ'
  exact wpAny_truthy_bool hQ'
 ·intro h' tk hk
  have I1:Inv X pins σ H {s with heap:=h',toks:=tk }:=I.kept λb o e=>hk b o (by
   have:=Heap.lt_size e
   simp
   exact Nat.ne_of_lt this) (Heap.get?_push_of_some _ e)
  refine⟨.bl _,H,I1,rfl,?_⟩
  have eq:(List.range its.toArray.size).all (λi=>bs.getD i true)=bs.all id:=by
   rw[hlen]
   clear q hq rv at_ hlen hz
   induction bs with
   |nil=>rfl
   |cons b r ih =>
    rw[List.length_cons,List.range_succ_eq_map,List.all_cons,List.all_map,List.all_cons]
    exact congrArg (b && ·) ih
  rw[eq]
  exact q
end
end L2
end
section
namespace L2
open PySem PySem.Spec PyProof.Rows
def At(K:FZ)(mg:Str->Option Value)(x:Str)(st:Stmt):Prop:=∃f fd,uz K x x st f fd/\mg x=some (.ref f)
section
variable {X:Cx}{k:Nat}{x:Str}{ps:List Str}{sp:Sp}{p q pos:Pos}{e:Expr}{es:List Expr}{te:TE}{t:TA}
theorem Wy(hX:zx X.K)(c:Ty)(he:PE X e te)(h1:X.mg "isinstance" = none) (h2:X.mg x=none) (hb:bootBuiltins x=some (.type c.name):=by decide +kernel) (hg1:Gl X "isinstance" := by rfl) (hg2:Gl X x:=by rfl) (hn:x ≠ "__name__" := by decide) (hd:(x == ("__debug__" : Str))=false:=by decide)
  (hs:starEach (e::[.Name x q]) X.env=(false,eval e X.env)::starEach [.Name x q] X.env:=by rfl):PE X (.Call (.Name "isinstance" p) [e,.Name x q] [] pos) (jr (zu X.K) (ji te (ji (tC (.ty c.name)) mH))) :=
 yU (Ww hX) hg1 h1 PyProof.Rows.boot_isinstance (nu he (nu (Kp hg2 h2 hb rfl hn hd) aH) hs) (he:=hs)
end
end L2
end
section
namespace L2
open PySem PySem.Spec PyProof.Rows
def off(a:Addr)(H:Hp):Hp:=λb=>if b=a then none else H b
theorem off_ne{a b:Addr}{H:Hp}(h:b≠a):off a H b=H b:=if_neg h
theorem sJ{a b:Addr}{H:Hp}{o:HO}(h:off a H b=some o):b≠a/\H b=some o:=by
 unfold off at h
 split at h
 ·cases h
 ·rename_i e; exact⟨e,h⟩
structure Pj(Pr:Hp->Hp)(H0:Hp):Prop where
 mono:∀{H H':Hp},Same H H'->Same (Pr H) (Pr H')
 sub:∀H,Same (Pr H) H
 new:∀{H:Hp} {r:Addr} {o:HO},Same H0 H->H r=none->Pr (upd H r o) r=some o
theorem Pj.id(H0:Hp):Pj (λH=>H) H0:=⟨λs=>s,λH=>Same.refl H,λ_ _=>gk⟩
theorem Pj.le{Pr:Hp->Hp}{H0 H1:Hp}(p:Pj Pr H0)(s:Same H0 H1):Pj Pr H1:=⟨p.mono,p.sub,λs' h=>p.new (s.trans s') h⟩
theorem gK{H:Hp}{p:Addr}(h:H p=none)(o:HO):Same H (upd H p o):=λb u q=>by rw[cL (mq q h)]; exact q
section
variable (K:FZ)(Pr:Hp->Hp)(σ : St)(H0:Hp)
end
section
variable {K:FZ}{Pr:Hp->Hp}{σ : St}{H0:Hp}{te tb:TE}{ta:TA}{T:Tr}{Ts Us:List Tr}
end
end L2
end
section
namespace L2
open PySem PySem.Spec PyProof.Rows
def notStar:Expr->Bool
 |.Starred _ _=>false
 |_=>true
theorem oR{e:Expr}{es:List Expr}{env:Env}(h:notStar e=true):starEach (e::es) env=(false,eval e env)::starEach es env:=by
 cases e <;> first|rfl|(unfold notStar at h; cases h)
def qR(K:FZ)(T:Tr):TE:=λ_ H Q=>∀v H',Same H H'->(∀Pr,Pj Pr H->Rep K (Pr H') v T)->Q v H'
def uJ(K:FZ)(Ts:List Tr):TA:=λ_ H Q=>∀vs H',Same H H'->(∀Pr,Pj Pr H->aQ K (Pr H') vs Ts)->Q vs H'
def zy(K:FZ)(Ts:List Tr):TE:=λ_ H Q=>∀a xs H1,Same H H1->H1 a=none->(∀Pr,Pj Pr H->aQ K (Pr H1) xs Ts)->xs.length=Ts.length->Q (.ref a) (upd H1 a (.lst xs))
theorem PE.imp{X:Cx}{e:Expr}{t u:TE}(h:PE X e t)(i:∀σ H Q,u σ H Q->t σ H Q):PE X e u:=⟨λpins s σ H Q I q=>h pins s σ H Q I (i σ H Q q)⟩
theorem PA.imp{X:Cx}{e:List Expr}{t u:TA}(h:PA X e t)(i:∀σ H Q,u σ H Q->t σ H Q):PA X e u:=⟨λpos pins s σ H Q I q=>h pos pins s σ H Q I (i σ H Q q)⟩
section
variable {X:Cx}{e:Expr}{es:List Expr}{T:Tr}{Ts:List Tr}{pos:Pos}{k:Nat}
end
end L2
end
section
namespace L2
open PySem PySem.Spec PyProof.Rows
mutual
noncomputable def pd:Tr->PyData
 |.non=>.none
 |.bl b=>.bool b
 |.int i=>.int i
 |.str x=>.str x
 |.tup ts=>.tuple (lA ts)
 |.lst ts=>.list (lA ts)
 |.dD _=>.none
noncomputable def lA:List Tr->List PyData
 | []=>[]
 |t::r=>pd t::lA r
end
mutual
noncomputable def iQ:Tr->Bool
 |.int i=>decide (i.natAbs.log2<1920)
 |.str x=>x.cps.toList.all λc=>decide (c<16 ^ 8)
 |.tup ts=>oU ts
 |.lst ts=>oU ts
 |.dD _=>false
 |_=>true
noncomputable def oU:List Tr->Bool
 | []=>true
 |t::r=>iQ t&&oU r
end
mutual
noncomputable def blk:Tr->Nat
 |.str x=>x.cps.size
 |.tup ts=>blks ts
 |.lst ts=>blks ts
 |_=>0
noncomputable def blks:List Tr->Nat
 | []=>0
 |t::r=>blk t+1+blks r
end
mutual
theorem Nf:∀t:Tr,(pd t).bulk=blk t
 |.non=>rfl
 |.bl _=>rfl
 |.int _=>rfl
 |.str _=>rfl
 |.tup ts=>by simp only[pd,PyData.bulk,blk]; exact Eo ts
 |.lst ts=>by simp only[pd,PyData.bulk,blk]; exact Eo ts
 |.dD _=>rfl
theorem Eo:∀ts:List Tr,PyData.bulkAll (lA ts)=blks ts
 | []=>rfl
 |t::r=>by simp only[lA,PyData.bulkAll,blks]; rw[Nf t,Eo r]
end
mutual
theorem Ep:∀t:Tr,(pd t).hasDict=false
 |.non=>rfl
 |.bl _=>rfl
 |.int _=>rfl
 |.str _=>rfl
 |.tup ts=>by simp only[pd,PyData.hasDict]; exact Er ts
 |.lst ts=>by simp only[pd,PyData.hasDict]; exact Er ts
 |.dD _=>rfl
theorem Er:∀ts:List Tr,PyData.hasDictAll (lA ts)=false
 | []=>rfl
 |t::r=>by simp only[lA,PyData.hasDictAll]; rw[Ep t,Er r]; rfl
end
mutual
theorem Ng:∀t:Tr,(pd t).depth<=dep t
 |.non=>Nat.le_of_eq rfl
 |.bl _=>Nat.le_of_eq rfl
 |.int _=>Nat.le_of_eq rfl
 |.str _=>Nat.le_of_eq rfl
 |.tup ts=>by
  have:=Es ts
  simp only[pd,PyData.depth,dep]
  omega
 |.lst ts=>by
  have:=Es ts
  simp only[pd,PyData.depth,dep]
  omega
 |.dD _=>by simp only[pd,PyData.depth,dep]; omega
theorem Es:∀ts:List Tr,PyData.depthAll (lA ts)<=deps ts
 | []=>Nat.le_of_eq rfl
 |t::r=>by
  have h1:=Ng t
  have h2:=Es r
  simp only[lA,PyData.depthAll,deps]
  omega
end
mutual
theorem Et:∀t:Tr,iQ t=true->(pd t).showable=true/\(pd t).leavesShort 1921=true
 |.non,_=>⟨rfl,rfl⟩
 |.bl _,_=>⟨rfl,rfl⟩
 |.int i,h=>by
  have h1:i.natAbs.log2<1920:=by simpa only[iQ,decide_eq_true_eq]using h
  refine⟨by simpa only[pd,PyData.showable,decide_eq_true_eq]using h1,?_⟩
  simp only[pd,PyData.leavesShort,decide_eq_true_eq]
  exact int_text_len_1921 h1
 |.str x,h=>⟨rfl,by simpa only[pd,PyData.leavesShort,iQ]using h⟩
 |.tup ts,h=>by
  have:=Eu ts (by simpa only[iQ]using h)
  simp only[pd,PyData.showable,PyData.leavesShort]
  exact this
 |.lst ts,h=>by
  have:=Eu ts (by simpa only[iQ]using h)
  simp only[pd,PyData.showable,PyData.leavesShort]
  exact this
 |.dD _,h=>by simp only[iQ]at h; cases h
theorem Eu:∀ts:List Tr,oU ts=true->PyData.showableAll (lA ts)=true/\PyData.leavesShortAll 1921 (lA ts)=true
 | [],_=>⟨rfl,rfl⟩
 |t::r,h=>by
  simp only[oU,Bool.and_eq_true]at h
  have h1:=Et t h.1
  have h2:=Eu r h.2
  simp only[lA,PyData.showableAll,PyData.leavesShortAll,Bool.and_eq_true]
  exact⟨⟨h1.1,h2.1⟩,⟨h1.2,h2.2⟩⟩
end
theorem Wz{t:Tr}(h:iQ t=true)(hb:blk t<=8000):(pd t).shown.length<=sizeLine:=by
 have h1:=PyData.shown_le_bulk 1921 (by decide) (pd t) (Et t h).2
 rw[Nf]at h1
 have h2:sizeLine=16777216:=by decide
 omega
section
variable {X:Cx}{pins:List (Addr × Obj)}{σ : St}{H:Hp}{s:Shared}
mutual
theorem Rep.reads(I:Inv X pins σ H s):∀{v:V} {t:Tr} {u:Value},iQ t=true->Rep X.K H v t->RelV v u->∃as,Reads s.heap u (pd t) as
 |_,_,_,_,.non,r=>by
  cases r
  exact⟨_,by simp only[pd]; exact .none⟩
 |_,_,_,_,.bl b,r=>by
  cases r
  exact⟨_,by simp only[pd]; exact .bool b⟩
 |_,_,_,_,.int i,r=>by
  obtain⟨_,rfl⟩:=r
  exact⟨_,by simp only[pd]; exact .int i _⟩
 |_,_,_,_,.str x,r=>by
  obtain⟨_,rfl⟩:=r
  exact⟨_,by simp only[pd]; exact .str x _⟩
 |_,_,_,k,.tup h q,r=>by
  cases r
  obtain⟨its,rv,⟨o,h1,h2,n,h3⟩,_⟩:=I.tuple h
  obtain⟨as,ha⟩:=aQ.reads I (by simpa only[iQ]using k) q rv
  exact⟨_,by simp only[pd]; exact .tuple h1 h2 h3 ha⟩
 |_,_,_,k,.lst h q,r=>by
  cases r
  obtain⟨its,rv,⟨o,n,h1,h2,_,h3⟩,_⟩:=I.list h
  obtain⟨as,ha⟩:=aQ.reads I (by simpa only[iQ]using k) q rv
  exact⟨_,by simp only[pd]; exact .list h1 h2 h3 ha⟩
 |_,_,_,k,.dD h _ _,r=>by simp only[iQ]at k; cases k
theorem aQ.reads(I:Inv X pins σ H s):∀{v:List V} {t:List Tr} {u:List Value},oU t=true->aQ X.K H v t->Vals v u->∃as,ReadsAll s.heap u (lA t) as
 |_,_,_,_,.nil,r=>by
  cases r
  exact⟨_,by simp only[lA]; exact .nil⟩
 |_,_,_,k,.cons h q,r=>by
  cases r with
  |cons r1 r2 =>
   simp only[oU,Bool.and_eq_true]at k
   obtain⟨a,h1⟩:=Rep.reads I k.1 h r1
   obtain⟨b,h2⟩:=aQ.reads I k.2 q r2
   exact⟨_,by simp only[lA]; exact .cons h1 h2⟩
end
end
def txt:Tr->Str
 |.str x=>x
 |t=>(pd t).shown
def Ew(K:FZ):List V->Hp->VK->Prop:=λxs H Q=>∃v t,xs=[v]/\Rep K H v t/\iQ t=true/\blk t<=8000/\dep t<=40/\Q (.str (txt t)) H
theorem Ey{X:Cx}(hg:X.A.guards=some [])(hu:X.A.units+64<cLine):iK X (.type "str") (Ew X.K):=by
 intro pins s σ H xs us Q I r h
 obtain⟨v,t,rfl,q1,hok,hb,hd,q⟩:=h
 obtain⟨u,rfl,ru⟩:=vals1 r
 have hl:=Wz hok hb
 have hdp:=Ng t
 have hx:=Et t hok
 cases q1 with
 |dD h m n=>simp only[iQ]at hok; cases hok
 |non=>cases ru; exact P.str_of_none ⟨.str _,H,I.tok _,⟨_,rfl⟩,q⟩
 |bl b=>cases ru; exact P.str_of_bool ⟨.str _,H,I.tok _,⟨_,rfl⟩,q⟩
 |int i =>
  obtain⟨_,rfl⟩:=ru
  exact P.str_of_int (by simpa only[iQ,decide_eq_true_eq]using hok) ⟨.str _,H,I.tok _,⟨_,rfl⟩,q⟩
 |str x=>obtain⟨_,rfl⟩:=ru; exact P.str_of_str ⟨.str _,H,I,⟨_,rfl⟩,q⟩
 |tup hh rr =>
  cases ru
  obtain⟨as,ha⟩:=Rep.reads I hok (.tup hh rr) (u:=.ref _) rfl
  exact str_of_reads ha hx.1 (PyData.noDict_hsm (Ep _)) hg (by omega) (λ_ _ e=>e) (λh' u tk hk=>⟨.str _,H,I.kept hk,⟨_,rfl⟩,q⟩) hl
 |lst hh rr =>
  cases ru
  obtain⟨as,ha⟩:=Rep.reads I hok (.lst hh rr) (u:=.ref _) rfl
  exact str_of_reads ha hx.1 (PyData.noDict_hsm (Ep _)) hg (by omega) (λ_ _ e=>e) (λh' u tk hk=>⟨.str _,H,I.kept hk,⟨_,rfl⟩,q⟩) hl
end L2
end
section
namespace L2
open PySem PySem.Spec PyProof.Rows
def Nh:V->Option Int->Option Int->Hp->VK->Prop:=λx lo hi H Q=>∃z,x=.str z/\z.length<=sizeLine/\Q (.str (Txt.slice z lo hi)) H
theorem WD{X:Cx}:nC X Nh:=by
 intro pins s σ H x v vl vu lo hi sl Q I rx hs pl pu h
 obtain⟨z,rfl,hz,q⟩:=h
 obtain⟨t,rfl⟩:=rx
 obtain⟨o,h1,h2,h3⟩:=hs
 have fin:∀(t':Tok) (k:Nat),EP X pins σ Q (.str (Txt.slice z lo hi) t') {s with toks:=k }:=λt' k=>⟨.str _,H,I.tok k,⟨_,rfl⟩,q⟩
 have hl:=Nat.le_trans (Txt.slice_le z lo hi) hz
 refine⟨"str",_,F.slot_str_getitem.lookup,typeIs_str _ _ _,?_⟩
 cases pl with
 |none =>
  cases pu with
  |none=>exact wpAny_getItem_str_slice (l:=none) (u:=none) (st:=none) ⟨o,h1,h2,h3⟩ rfl (post_val_or_str ⟨hl,λt' k=>fin t' k⟩)
  |int j uj=>exact wpAny_getItem_str_slice (l:=none) (u:=some (j,uj)) (st:=none) ⟨o,h1,h2,h3⟩ rfl (post_val_or_str ⟨hl,λt' k=>fin t' k⟩)
 |int i ui =>
  cases pu with
  |none=>exact wpAny_getItem_str_slice (l:=some (i,ui)) (u:=none) (st:=none) ⟨o,h1,h2,h3⟩ rfl (post_val_or_str ⟨hl,λt' k=>fin t' k⟩)
  |int j uj=>exact wpAny_getItem_str_slice (l:=some (i,ui)) (u:=some (j,uj)) (st:=none) ⟨o,h1,h2,h3⟩ rfl (post_val_or_str ⟨hl,λt' k=>fin t' k⟩)
def nw(H H':Hp):Hp:=λb=>match H b with
 |none=>H' b
 |some _=>none
end L2
end
section
namespace L2
open PySem PySem.Spec PyProof.Rows
noncomputable def j9(P:Program)(w:World):lN:=λouter H s E e s'=>∃ea cls a0 H' B,e=.ref ea/\E cls none H'/\s'.os=s.os/\AllBare s'.gens/\Un (frs outer) [] H H' s.heap s'.heap/\gR P w H' B /\
 Heap.FlyingW B outer ea cls a0 s'.heap/\∀b o,s.heap.get? b=some o->b∉frs outer->∃o',B.get? b=some o'
theorem WK{env:Env}{outer:List Env}{L b:Addr}(hf:env.frame=some L)(h:b∈frs (env::outer)):b=L\/b∈frs outer:=by
 unfold frs at h
 rw[List.filterMap_cons_some hf]at h
 exact List.mem_cons.mp h
theorem WL{env:Env}{outer:List Env}{b:Addr}(h:b∈frs outer):b∈frs (env::outer):=by
 obtain⟨e,he,q⟩:=List.mem_filterMap.mp h
 exact List.mem_filterMap.mpr ⟨e,List.mem_cons_of_mem _ he,q⟩
theorem WM{P:Program}{w:World}{H:Hp}{h:Heap}{l:List Addr}(x:gR P w H h)(fr:∀b∈l,H b=none):gR P w H (PySem.W.hideAll h l):=λa o e =>
 (x a o e).stay (λb u hb q=>PySem.W.hideAll_get _ q λhm=>by
  rcases hb with rfl|hb
  ·rw[fr _ hm]at e; cases e
  ·rw[fr _ hm]at hb; cases hb) (λ_ q=>q) λ_ _ q=>q
section
variable {P:Program}{w:World}{K:FZ}{mg:Str->Option Value}{base:Heap}{N:List Str}{qual:Str}{scope:Scope}{f:Addr}{cd:Value}{A:Around}{outer:List Env}{s:Shared}{H:Hp}{E:XK}{CX:lN}
theorem Un.left{pins:List (Addr × Obj)}{σ : St}{H1 H2:Hp}{s1:Shared}{h2 h3 B:Heap}(I:Inv (mJ CX P w K mg base N qual scope f cd A outer s H E) pins σ H1 s1)
  (u:Un (frs (envOfC qual scope s.heap.objs.size f cd::outer)) [] H1 H2 s1.heap h2) (st:B.StaysIn h2) (kb:∀b o,s1.heap.get? b=some o->b∉frs (envOfC qual scope s.heap.objs.size f cd::outer)->∃o',B.get? b=some o')
  (fl:B.StaysIn h3) (sl:h2.UpToSlots h3):Un (frs outer) [] H H2 s.heap h3/\∀b o,s.heap.get? b=some o->b∉frs outer->∃o',B.get? b=some o':=by
 have ub:=I.base
 have hf:(envOfC qual scope s.heap.objs.size f cd).frame=some s.heap.objs.size:=by
  rcases I.ok.stk with z|z
  ·exact absurd (congrArg List.length z) (by show outer.length+1≠outer.length; omega)
  ·exact z.2
 have no:∀b o,s.heap.get? b=some o->b∉frs outer->b∉frs (envOfC qual scope s.heap.objs.size f cd::outer):=λb o e n z=>by
  rcases WK hf z with rfl|z
  ·exact absurd (Heap.lt_size e) (Nat.lt_irrefl _)
  ·exact n z
 have nx:∀b:Addr,b∉([]:List Addr):=λb z=>nomatch z
 have inB:∀b o,s.heap.get? b=some o->b∉frs outer->∃o',B.get? b=some o':=λb o e n=>by
  obtain⟨o1,e1⟩:=ub.there b o e (nx b)
  exact kb b o1 e1 (no b o e n)
 have slots:∀b o,s.heap.get? b=some o->H b=none->b∈frs outer->∃sl,h3.get? b=some {o with slots:=sl }:=λb o e n z=>by
  obtain⟨Ez,e1⟩:=ub.slot b o e n z (nx b)
  obtain⟨sl2,e2⟩:=u.slot b _ e1 (ub.free b o e n (nx b)) (WL z) (nx b)
  obtain⟨_,o',e',nf⟩:=I.ok.mz.mem z
  have e'':s.heap.get? b=some o':=e'
  rw[e]at e''
  cases e''
  obtain⟨EY,e3⟩:=sl b _ e2 nf
  exact⟨EY,e3⟩
 refine⟨⟨λb o e n z _=>?_,λb o e n z _=>slots b o e n z,λb o e n _=>?_,λb o e _=>?_,λb xs q=>u.tups b xs (ub.tups b xs q),λb o q z=>u.lK b o q (ub.lK b o q z),λb ps q=>?_⟩,inB⟩
 ·have e1:=ub.keep b o e n z (nx b)
  have e2:=u.keep b o e1 (ub.free b o e n (nx b)) (no b o e z) (nx b)
  obtain⟨o',e3⟩:=inB b o e z
  have e4:=st b o' e3
  rw[e2]at e4
  cases e4
  exact fl b o e3
 ·obtain⟨o1,e1⟩:=ub.there b o e (nx b)
  exact u.free b o1 e1 (ub.free b o e n (nx b)) (nx b)
 ·by_cases z:b∈frs outer
  ·obtain⟨sl,e1⟩:=slots b o e (I.ok.qI b z) z
   exact⟨_,e1⟩
  ·obtain⟨o',e1⟩:=inB b o e z
   exact⟨o',fl b o' e1⟩
 ·obtain⟨m1,e1⟩:=ub.lM b ps q
  obtain⟨m2,e2⟩:=u.lM b _ e1
  exact⟨m1++m2,by rw[e2,Array.append_assoc]⟩
end
def Raises(X:Cx)(E:XK):Prop:=∀(pins:List (Addr × Obj)) (σ : St) (H:Hp) (s:Shared) (h':Heap) (e C:Addr) (us:List Value),Inv X pins σ H s->Heap.MadeExcOf s.heap h' e (.ref C) us->E (.ref C) none H->X.xe (.ref e) {s with heap:=h' }
theorem Ni{P:Program}{w:World}{K:FZ}{mg:Str->Option Value}{base:Heap}{N:List Str}{qual:Str}{scope:Scope}{f:Addr}{cd:Value}{A:Around}{outer:List Env}{s:Shared}{H:Hp}{E:XK} :
  Raises (mJ (j9 P w) P w K mg base N qual scope f cd A outer s H E) E:=by
 intro pins σ H1 s1 h' e C us I hx q
 have hs:=I.stack
 have hf:(envOfC qual scope s.heap.objs.size f cd).frame=some s.heap.objs.size:=by
  rcases I.ok.stk with z|z
  ·exact absurd (congrArg List.length z) (by show outer.length+1≠outer.length; omega)
  ·exact z.2
 have hin:∀env∈(envOfC qual scope s.heap.objs.size f cd::outer),∀a,env.frame=some a->a∈frs (envOfC qual scope s.heap.objs.size f cd::outer):=λenv he b hb=>List.mem_filterMap.mpr ⟨env,he,hb⟩
 have Nj:(PySem.W.hideAll s1.heap (frs (envOfC qual scope s.heap.objs.size f cd::outer))).StaysIn s1.heap:=λb o z=>PySem.W.of_hideAll _ z
 have stH:(PySem.W.hideAll s1.heap (frs (envOfC qual scope s.heap.objs.size f cd::outer))).StaysIn h':=λb o z=>hx.keeps b o (Nj b o z)
 refine wpAny_leaves_madeW (base:=PySem.W.hideAll s1.heap (frs (envOfC qual scope s.heap.objs.size f cd::outer))) (h:=s1.heap) I.ok.frames hf Nj (PySem.W.funFrames_hide hs hin) hx λh'' t fl _ _ sl=>?_
 obtain⟨un,ib⟩:=Un.left (B:=PySem.W.hideAll s1.heap (frs (envOfC qual scope s.heap.objs.size f cd::outer))) I (Un.kept (h':=h') hx.keeps) stH (λb o z n=>⟨o,PySem.W.hideAll_get _ z n⟩) fl.1 sl
 exact⟨e,.ref C,.ref t,H1,_,rfl,q,I.os,I.bare,un,WM I.hok I.vH,fl,ib⟩
theorem d7{P:Program}{w:World}{K:FZ}{mg:Str->Option Value}{base:Heap}{N:List Str}{qual:Str}{scope:Scope}{f:Addr}{cd:Value}{A:Around}{outer:List Env}{s:Shared}{H:Hp}{E:XK} :
  Passes (j9 P w) (mJ (j9 P w) P w K mg base N qual scope f cd A outer s H E) E:=by
 intro pins σ H1 s1 e s' I h
 obtain⟨ea,cls,a0,H2,B,rfl,q,os,bare,un,hok,fl,kb⟩:=h
 have hf:(envOfC qual scope s.heap.objs.size f cd).frame=some s.heap.objs.size:=by
  rcases I.ok.stk with z|z
  ·exact absurd (congrArg List.length z) (by show outer.length+1≠outer.length; omega)
  ·exact z.2
 refine wpAny_leaves_onW (base:=B) I.ok.frames hf fl λh'' uK sl=>?_
 obtain⟨un',ib⟩:=Un.left (B:=B) I un fl.1 kb uK.1 sl
 exact⟨ea,cls,a0,H2,B,rfl,q,os.trans I.os,bare,un',hok,uK,ib⟩
def Nk(E:XK)(C:Addr)(te:TE):TS:=λ_ σ H=>te σ H λv H1=>[v].length=1/\E (.ref C) none H1
theorem Np{X:Cx}{E:XK}{x:Str}{C:Addr}{B newId initId:String}{bm:List Value}{np cpos pos:Pos}{e:Expr}{te:TE}(R:Raises X E)(O:OwnCls x C bm newId X.mg X.base)(FB:ExcBaseFacts B newId initId bm)(hc:X.calm=true)(ha:PE X e te)
  (hg:Gl X x:=by rfl) (hd:(x == ("__debug__" : Str))=false:=by decide) (hs:starEach [e] X.env=[(false,eval e X.env)]:=by rfl) :
  PS X (.Raise (some (.Call (.Name x np) [e] [] cpos)) none pos) (Nk E C te):=by
 refine⟨λpins s σ H D I h=>?_⟩
 obtain⟨tl,N,nm,q,bs,hdct,sn,sub,ab,col,dd,k0,k1,k2,k3,k5,mN,hC,hN,hni,T⟩:=O.obj
 refine wpAny_Raise_call_subT (C:=C) (nm:=nm) (q:=q) (N:=N) (bs:=bs) (bm:=tl) (hdct:=hdct) (sn:=sn) (sub:=sub) (ab:=ab) (col:=col) (dd:=dd) (k0:=k0) (k1:=k1) (k2:=k2) (k3:=k3) (k5:=k5)
  FB (mN:=mN) (T.hasType FB.hasBase) (I.ok.hd hc) (by rw[hs]; rfl) hni (vJ I hg O.bound ⟨rfl,?_⟩ hd)
 have ga:PA X [e] (ji te mH):=nu ha aH (by rw[hs]; rfl)
 have z:=ga cpos pins s σ H (λvs H1=>vs.length=1/\E (.ref C) none H1) I (by
  show te σ H λv H1=>_
  exact h)
 rw[hs]at z ⊢
 refine Calls.evalArgs_plain (wpAny_mono z (λus s₂ h₂=>?_) λ_ _ y=>y)
 obtain⟨vs,H2,I2,rv,hl,hE⟩:=h₂
 refine⟨rfl,?_,I2.bk _ _ hC,hN.keeps I2.bk,T.keeps I2.bk,λh' e' hm=>R pins σ H2 s₂ h' e' C us I2 hm hE⟩
 rw[<-rv.length,hl]
 decide
end L2
end
section
namespace L2
open PySem PySem.Spec PyProof.Rows
def XP(X:Cx)(pins:List (Addr × Obj))(EX:St->XK)(e:Value)(s':Shared):Prop:=∃σ H s,Inv X pins σ H s/\j9 X.prog X.w X.stack H s (EX σ) e s'
abbrev TX:=Ends->(St->XK)->St->Hp->Prop
abbrev TEX:=(St->XK)->TE
def PX(X:Cx)(st:Stmt)(t:TX):Prop :=
 ∀(pins:List (Addr × Obj)) (s:Shared) (σ : St) (H:Hp) (D:Ends) (EX:St->XK),Inv X pins σ H s->t D EX σ H->wpAny (model X.prog X.w) X.A (exec st X.env) (SP X pins D) (XP X pins EX) s
def zA(X:Cx)(st:List Stmt)(t:TX):Prop :=
 ∀(pins:List (Addr × Obj)) (s:Shared) (σ : St) (H:Hp) (D:Ends) (EX:St->XK),Inv X pins σ H s->t D EX σ H->wpAny (model X.prog X.w) X.A (execs st X.env) (SP X pins D) (XP X pins EX) s
def Fb(X:Cx)(e:Expr)(t:TEX):Prop :=
 ∀(pins:List (Addr × Obj)) (s:Shared) (σ : St) (H:Hp) (Q:VK) (EX:St->XK),Inv X pins σ H s->t EX σ H Q->wpAny (model X.prog X.w) X.A (eval e X.env) (EP X pins σ Q) (XP X pins EX) s
section
variable {X:Cx}{k:Nat}{f:Addr}{fd:FuncData}{x:Str}{ps:List Str}{sp:Sp}{p pos:Pos}{e:Expr}{es:List Expr}{te:TEX}{t:TA}{st:Stmt}{rest:List Stmt}{a b:TX}
theorem Fd(h1:PX X st a):zA X [st] a:=by
 intro pins s σ H D EX I h
 refine wpAny_execs_cons (wpAny_mono (h1 pins s σ H D EX I h) (λf s1 q=>?_) λ_ _ z=>z)
 cases f with
 |next=>exact wpAny_execs_nil q
 |ret u=>exact q
 |brk=>exact q
 |cont=>exact q
theorem WQ{c:Expr}{l r:List Stmt}{tc:TT}(hc:PT X.oJ c tc)(ha:zA X l a)(hb:zA X r b):PX X (.If c l r pos) (λD EX σ H=>tc σ H λd H1=>if d=true then a D EX σ H1 else b D EX σ H1):=by
 intro pins s σ H D EX I h
 refine wpAny_If (wpAny_mono (hc pins s σ H _ (I.wish _) h) (λd s1 ⟨H1,I1,q1⟩=>?_) λ_ _ z=>False.elim z)
 cases d with
 |true=>exact ha pins s1 σ H1 D EX I1.ni (by simpa using q1)
 |false=>exact hb pins s1 σ H1 D EX I1.ni (by simpa using q1)
def Fe(sp:Sp)(t:TA):TEX:=λEX σ H Q=>t σ H λvs H1=>sp vs H1 Q (EX σ)
theorem WR(F:lO X.prog X.w X.K X.mg X.base (j9 X.prog X.w) k f fd ps sp)(hr:gZ k X.A)(hm:X.mg x=some (.ref f))(hk:PySem.W.keepIn X.K (.ref f)=true)(hb:Binds X.K fd ps [])(ha:PA X.oJ (e::es) t)(hg:Gl X x:=by rfl)
  (hdb:(x == ("__debug__" : Str))=false:=by decide) (he:starEach (e::es) X.env=(false,eval e X.env)::starEach es X.env:=by rfl) (hpl:(backTo pos (starEach es X.env)).any (·.1)=false:=by rfl) :
  Fb X (.Call (.Name x p) (e::es) [] pos) (Fe sp t):=by
 intro pins s σ H Q EX I h
 refine wpAny_Call_Name_kw (vJ I hg hm ?_ hdb)
 refine PySem.W.callWith_K (h₀ := X.base) I.ok.mod.yw hk (wpAny_mono (ha pos pins s σ H _ (I.wish _) h) (λus s1 ⟨vs,H1,WT,r,q⟩=>?_) λ_ _ z=>False.elim z) he hpl
 have I1:=WT.ni
 refine⟨I1.jA,?_⟩
 have hl:(us++[]).length=ps.length:=by rw[List.append_nil,<-r.length]; exact F.len _ _ _ _ q
 have hb':=hb s1 us I1.jA hl
 rw[List.append_nil]at hb'
 refine wpAny_call (codeAny_mono (F.run X.A X.stack s1 H1 ⟨us,[]⟩ us vs Q (EX σ) hr I1.env0 hb' r q) λr s' hq=>?_)
 cases r with
 |error e=>exact⟨σ,H1,s1,I1,hq⟩
 |ok fl =>
  cases fl with
  |ret u=>exact I1.after hq
  |next=>exact False.elim hq
  |brk=>exact False.elim hq
  |cont=>exact False.elim hq
theorem Nq{i:Nat}{y:Str}{py:Pos}(hN:X.N.Nodup)(hi:X.N[i]?=some y)(hy:Loc X.env.scope y)(he:Fb X e te)(hs:swapsWith e (some (.Name y py)) pos.line X.env=pure false:=by rfl)
  (hf:X.fn y=true\/X.env.scope.names.lookup y=some .local:=by first|exact .inl rfl|exact .inr rfl|assumption):PX X (.Assign [.Name y py] e pos) (λD EX σ H=>te EX σ H λv H1=>D.nx (σ.set i (some v)) H1):=by
 intro pins s σ H D EX I h
 refine wpAny_Assign_Name (wpAny_mono (he pins s σ H _ EX I h) (λv s1 ⟨u,H1,I1,r1,q1⟩=>?_) λ_ _ z=>z) hs
 exact uw I1 hN hi hy r1 (λs2 I2=>⟨_,H1,I2,q1⟩) hf
end
end L2
end
section
namespace L2
open PySem PySem.Spec PyProof.Rows
theorem jR.here{P:Program}{w:World}{H:Hp}{h:Heap}{a:Addr}{o:HO}(x:jR P w H h a o):∃u,h.get? a=some u:=by
 cases o with
 |lst xs=>obtain⟨_,_,_,_,e⟩:=x; exact⟨_,e⟩
 |tup xs=>obtain⟨_,_,_,_,e,_⟩:=x; exact⟨_,e⟩
 |dK kvs=>obtain⟨_,_,_,_,o,_,_,e,_⟩:=x; exact⟨_,e⟩
 |dT kvs=>obtain⟨_,_,_,_,o,_,_,e,_⟩:=x; exact⟨_,e⟩
 |set S n=>obtain⟨o,_,_,_,e,_⟩:=x; exact⟨_,e⟩
 |ins C dx fs=>obtain⟨_,_,_,e,_⟩:=x; exact⟨_,e⟩
 |own y=>exact x
 |xd fs=>obtain⟨_,⟨_,_,_,e,_⟩,_⟩:=x; exact⟨_,e⟩
 |rng lo hi=>obtain⟨_,_,_,e⟩:=x; exact⟨_,e⟩
 |bB ob u=>obtain⟨e,_⟩:=x; exact⟨_,e⟩
 |gQ ps=>exact⟨_,(show h.get? a=some _ from x)⟩
 |met f y=>exact⟨_,(show h.get? a=some _ from x)⟩
 |ext φ=>exact x.2.1
theorem Un.flown{fs:List Addr}{H1 H2:Hp}{h0 h1 h6 B:Heap}(un:Un fs [] H1 H2 h0 h1)(kb:∀b o,h0.get? b=some o->b∉fs->∃o',B.get? b=some o')(st1:B.StaysIn h1)(Nr:B.StaysIn h6)(sl:h1.UpToSlots h6)
  (nf:∀b∈fs,∀o,h0.get? b=some o->∀vs,o.data ≠ .fields vs) (fr:∀b∈fs,H1 b=none):Un fs [] H1 H2 h0 h6:=by
 have slots:∀b o,h0.get? b=some o->H1 b=none->b∈fs->∃sl,h6.get? b=some {o with slots:=sl }:=λb o e n z=>by
  obtain⟨s1,e1⟩:=un.slot b o e n z (λz=>nomatch z)
  obtain⟨s2,e2⟩:=sl b _ e1 (nf b z o e)
  exact⟨s2,e2⟩
 refine⟨λb o e n z _=>?_,λb o e n z _=>slots b o e n z,un.free,λb o e _=>?_,un.tups,un.lK,un.lM⟩
 ·have e1:=un.keep b o e n z (λz=>nomatch z)
  obtain⟨o',e2⟩:=kb b o e z
  have e3:=st1 b o' e2
  rw[e1]at e3
  cases e3
  exact Nr b o e2
 ·by_cases z:b∈fs
  ·obtain⟨s1,e1⟩:=slots b o e (fr b z) z
   exact⟨_,e1⟩
  ·obtain⟨o',e1⟩:=kb b o e z
   exact⟨o',Nr b o' e1⟩
section
variable {X:Cx}{pins:List (Addr × Obj)}{σ : St}{H1 H2:Hp}{s0 s1:Shared}{B h6:Heap}{ea:Addr}{cls a0:Value}
theorem Inv.flown(I:Inv X pins σ H1 s0)(un:Un (frs X.stack) [] H1 H2 s0.heap s1.heap)(os:s1.os=s0.os)(bare:AllBare s1.gens)(hok:gR X.prog X.w H2 B)(fl:Heap.FlyingW B X.stack ea cls a0 s1.heap)
  (kb:∀b o,s0.heap.get? b=some o->b∉frs X.stack->∃o',B.get? b=some o') (vY:Heap.FlyingW B X.stack ea cls a0 h6) (sl:s1.heap.UpToSlots h6) :
  H2 ea=none/\Inv X pins σ H2 {s1 with heap:=h6 }/\∀C,cls=.ref C->Inv X pins σ (upd H2 ea (mV ea C)) {s1 with heap:=h6 }:=by
 have nf:∀b∈frs X.stack,∀o,s0.heap.get? b=some o->∀vs,o.data ≠ .fields vs:=λb hb o e=>by
  obtain⟨_,o',e',q⟩:=I.stack.mem hb
  rw[e]at e'
  cases e'
  exact q
 have u6:=un.flown kb fl.1 vY.1 sl nf I.vH
 have k6:gR X.prog X.w H2 h6:=hok.kept vY.1
 have fe:H2 ea=none:=by
  cases q:H2 ea with
  |none=>rfl
  |some u =>
   obtain⟨o,e⟩:=(hok ea u q).here
   rw[fl.2.1]at e
   cases e
 have ne0:s0.heap.get? ea=none:=by
  cases q:s0.heap.get? ea with
  |none=>rfl
  |some o =>
   by_cases z:ea∈frs X.stack
   ·obtain⟨Ez,e1⟩:=un.slot ea o q (I.vH ea z) z (λz=>nomatch z)
    obtain⟨oe,vs,e2,_,d,_⟩:=fl.first
    rw[e1]at e2
    cases e2
    exact absurd d (nf ea z o q vs)
   ·obtain⟨o',e1⟩:=kb ea o q z
    rw[fl.2.1]at e1
    cases e1
 refine⟨fe,I.call' (s':={s1 with heap:=h6 }) (ch:=[]) os u6 k6 bare (λb z=>nomatch z),λC hC=>?_⟩
 obtain⟨oe,vs,e2,c2,d2,_⟩:=vY.first
 have WW:∀b o,s0.heap.get? b=some o->b≠ea:=λb o e z=>by rw[z,ne0]at e; cases e
 have vZ:∀b o,H2 b=some o->b≠ea:=λb o e z=>by rw[z,fe]at e; cases e
 refine I.call' (s':={s1 with heap:=h6 }) (H':=upd H2 ea (mV ea C)) (ch:=[]) os ⟨u6.keep,u6.slot,λb o e n hx=>?_,u6.there,λb xs e=>?_,λb o u e=>?_,λb ps e=>?_⟩ (λb u e=>?_) bare (λb z=>nomatch z)
 ·rw[cL (WW b o e)]
  exact u6.free b o e n hx
 ·have:=u6.tups b xs e
  rw[cL (vZ b _ this)]
  exact this
 ·have:=u6.lK b o u e
  rw[cL (vZ b _ this)]
  exact this
 ·obtain⟨m,q⟩:=u6.lM b ps e
  exact⟨m,by rw[cL (vZ b _ q)]; exact q⟩
 ·by_cases z:b=ea
  ·subst z
   rw[gk]at e
   cases e
   exact⟨⟨oe,vs,e2,c2.trans hC,d2⟩,⟨oe,e2⟩,λh1 h2 ⟨o,ws,q1,q2,q3⟩ k=>⟨o,ws,k o q1,q2,q3⟩⟩
  ·rw[cL z]at e
   exact(k6 b u e).stay (λ_ _ _ q=>q) (λc q=>by rw[cL (vZ c _ q)]; exact q) λc xs q=>by rw[cL (vZ c _ q)]; exact q
end
theorem zB{X:Cx}{pins:List (Addr × Obj)}{σ : St}{H:Hp}{s:Shared}{M:Model}{A:Around}{E:Value->Shared->Prop}{j:Nat}{n:Str}{pos:Pos}{Q:Unit->Shared->Prop}(I:Inv X pins σ H s)(hN:X.N.Nodup)(hj:X.N[j]?=some n)(hl:X.env.kindOf n=some .local)
  (h:∀s',Inv X pins (σ.set j none) H s'->Q () s'):wpAny M A (do bindName X.env n .none; unbindBehindTheSuite X.env n pos) Q E s:=by
 obtain⟨m,hn,hv⟩:=id I.loc
 refine wpAny_nameGoes_keeps hl hn (by rw[I.ok.kind]; rfl) λh' v hn' hs=>?_
 have ur:∀b o,X.s₀.heap.get? b=some o->b≠X.env.locals:=λb o e=>Nat.ne_of_lt (Nat.lt_of_lt_of_le (Heap.lt_size e) I.ok.above)
 refine h _ ⟨I.ok,I.os,I.bare,⟨λb o e n hb hx=>(hs.2 b (ur b o e)).trans (I.base.keep b o e n hb hx),λb o e n hb hx=>?_,I.base.free,λb o e hx=>?_,I.base.tups,I.base.lK,I.base.lM⟩,
  ⟨_,hn',λi y v' e1 e2 e3=>?_⟩,λy c e=>?_,I.free,I.mD,λp hp=>?_,λb o e=>?_,by rw[List.length_set]; exact I.len⟩
 ·obtain⟨sl,e1⟩:=I.base.slot b o e n hb hx
  exact⟨sl,(hs.2 b (ur b o e)).trans e1⟩
 ·obtain⟨o',e1⟩:=I.base.there b o e hx
  exact⟨o',(hs.2 b (ur b o e)).trans e1⟩
 ·by_cases hi:i=j
  ·subst hi
   rw[List.getElem?_set]at e2
   split at e2
   ·split at e2 <;> cases e2
   ·rename_i z; exact absurd rfl z
  ·rw[List.getElem?_set_ne (Ne.symm hi)]at e2
   obtain⟨u',r',q⟩:=hv i y v' e1 e2 e3
   refine⟨u',r',?_⟩
   rcases q with⟨k,e⟩|⟨k,c,e,z⟩
   ·refine .inl ⟨k,?_⟩
    have:y≠n:=λe=>hi (Dc hN e1 (e▸hj))
    simp[this,e]
   ·exact .inr ⟨k,c,e,z.sameBut hs (I.pU y c e)⟩
 ·obtain⟨w',z⟩:=I.cell y c e
  exact⟨w',z.sameBut hs (I.pU y c e)⟩
 ·obtain⟨e,n,ne,nf,d⟩:=I.pin p hp
  exact⟨(hs.2 p.1 ne).trans e,n,ne,nf,d⟩
 ·refine(I.hok b o e).stay (λc u hc q=>(hs.2 c ?_).trans q) (λ_ q=>q) λ_ _ q=>q
  rintro rfl
  rcases hc with rfl|hc
  ·rw[I.free]at e; cases e
  ·rw[I.free]at hc; cases hc
end L2
end
section
namespace L2
open PySem PySem.Spec PyProof.Rows
abbrev Cx.caught(X:Cx)(e:Value):Cx:={X with A:=X.A.mark (some e),calm:=false,xe:=λ_ _=>False }
section
variable {X:Cx}{pins:List (Addr × Obj)}{σ : St}{H:Hp}{s:Shared}{e:Value}
theorem Inv.caught(I:Inv X pins σ H s)(e:Value):Inv (X.caught e) pins σ H s :=
 ⟨⟨I.ok.mod,I.ok.kind,I.ok.glob,I.ok.blt,I.ok.above,I.ok.inj,I.ok.has,I.ok.cab,(λz=>nomatch z),I.ok.frames,I.ok.stk,I.ok.CZ,I.ok.bs,I.ok.qH,I.ok.jT,I.ok.vG,I.ok.mz,I.ok.qI⟩,I.os,I.bare,I.base,I.loc,I.cell,I.free,I.mD,I.pin,I.hok,I.len⟩
theorem Inv.uncaught(ok:X.Ok)(I:Inv (X.caught e) pins σ H s):Inv X pins σ H s:=⟨ok,I.os,I.bare,I.base,I.loc,I.cell,I.free,I.mD,I.pin,I.hok,I.len⟩
theorem SP.uncaught{D:Ends}{f:Flow}{s':Shared}(ok:X.Ok)(h:SP (X.caught e) pins D f s'):SP X pins D f s':=by
 cases f with
 |next=>obtain⟨σ',H',I,q⟩:=h; exact⟨σ',H',I.uncaught ok,q⟩
 |brk=>obtain⟨σ',H',I,q⟩:=h; exact⟨σ',H',I.uncaught ok,q⟩
 |cont=>obtain⟨σ',H',I,q⟩:=h; exact⟨σ',H',I.uncaught ok,q⟩
 |ret u=>obtain⟨v,σ',H',I,r,q⟩:=h; exact⟨v,σ',H',I.uncaught ok,r,q⟩
end
def goes(j:Nat)(D:Ends):Ends where
 nx:=λσ H=>D.nx (σ.set j none) H
 rt:=D.rt
 bk:=λσ H=>D.bk (σ.set j none) H
 ct:=λσ H=>D.ct (σ.set j none) H
def zE(K:FZ)(cH:Addr)(j:Nat)(ts:TS)(D:Ends):St->XK:=λσ cls _ H=>∃C,cls=.ref C/\PySem.W.exmOne K (.ref C) (.ref cH)=some true/\∀ea,H ea=none->ts (goes j D) (σ.set j (some (.ref ea))) (upd H ea (mV ea C))
def Nt(K:FZ)(cH:Addr)(j:Nat)(tb:TX)(ts:TS):TS:=λD σ H=>tb D (zE K cH j ts D) σ H
theorem WX{X:Cx}{body:List Stmt}{tb:TX}{hn n:Str}{hp hpos pos:Pos}{b₀ : Stmt}{suite:List Stmt}{ts:TS}{cH:Addr}{j:Nat}(hst:X.stack=X.env::X.outer)(hN:X.N.Nodup)(hj:X.N[j]?=some n)(hloc:X.env.kindOf n=some .local)
  (hb:zA X body tb) (hm:X.mg hn=some (.ref cH)) (WY:∀e,j7 (X.caught e) (b₀::suite) ts) (hg:Gl X hn:=by rfl) (hd:(hn == ("__debug__" : Str))=false:=by decide) :
  PS X (.Try body [.ExceptHandler (some (.Name hn hp)) (some n) (b₀::suite) hpos] [] [] pos) (Nt X.K cH j tb ts):=by
 refine⟨λpins s σ H D I h=>?_⟩
 refine wpAny_Try_except (wpAny_mono (hb pins s σ H D (zE X.K cH j ts D) I h) (λf s1 q=>?_) λe s1 hx=>?_)
 ·cases f with
  |next=>exact wpAny_execs_nil q
  |ret u=>exact q
  |brk=>exact q
  |cont=>exact q
 obtain⟨σ1,H1,s0,I1,ea,cls,a0,H2,B,rfl,⟨C,rfl,hit,q⟩,os,bare,un,hok,fl,kb⟩:=hx
 have hf:X.env.frame=some X.env.locals:=by
  rcases I1.ok.stk with z|z
  ·rw[hst]at z
   exact absurd (congrArg List.length z) (by simp)
  ·exact z.2
 have hfr:X.A.frames=some (X.env::X.outer):=by rw[<-hst]; exact I1.ok.frames
 rw[hst]at fl
 refine wpAny_looks_onW (base:=B) hfr hf fl λh4 held Nu=>?_
 refine wpAny_landsW held λh5 Fg Nv=>?_
 have uK:=fl
 rw[<-hst]at uK
 have Nx:=Fg
 rw[<-hst]at Nx
 obtain⟨fe,I5,_⟩:=I1.flown un os bare hok uK kb Nx (Nu.trans Nv)
 refine wpAny_handleBy_cons (codeAny_handlers_test (A:=X.A.mark (some (.ref ea))) ?_) (by intro z; cases z)
 refine vJ (X:=X.caught (.ref ea)) (I5.caught (.ref ea)) hg hm ?_ hd
 have lt:PySem.W.Looks (model X.prog X.w) h5 (typeOf (.ref ea)) (.ref C):=by
  obtain⟨ob,hob,hc⟩:=Fg.there
  rw[<-hc]
  exact(PySem.W.Looks.ld hob).andThen .now
 refine PySem.W.exm_one I5.jA lt hit _ _ _ _ (λb o z=>z) ?_
 refine codeAny_handlers_suite_as ?_
 refine lands_againW Fg λh6 vY W4=>?_
 have Ny:=vY
 rw[<-hst]at Ny
 obtain⟨_,_,I6⟩:=I1.flown un os bare hok uK kb Ny ((Nu.trans Nv).trans W4)
 refine uw (X:=X.caught (.ref ea)) (i:=j) (v:=.ref ea) ((I6 C rfl).caught (.ref ea)) hN hj (.inl hloc) rfl (λs7 I7=>?_) (.inr hloc)
 refine wpAny_mono (WY (.ref ea) pins s7 _ _ (goes j D) I7 (q ea fe)) (λf s8 h8=>?_) λ_ _ z=>False.elim z
 have zF:=h8.uncaught I1.ok
 cases f with
 |next =>
  obtain⟨σ',H',I',q'⟩:=zF
  exact zB I' hN hj hloc λs9 I9=>⟨_,_,I9,q'⟩
 |brk =>
  obtain⟨σ',H',I',q'⟩:=zF
  exact zB I' hN hj hloc λs9 I9=>⟨_,_,I9,q'⟩
 |cont =>
  obtain⟨σ',H',I',q'⟩:=zF
  exact zB I' hN hj hloc λs9 I9=>⟨_,_,I9,q'⟩
 |ret u =>
  obtain⟨v,σ',H',I',r,q'⟩:=zF
  exact zB I' hN hj hloc λs9 I9=>⟨v,_,_,I9,r,q'⟩
end L2
end
section
namespace L2
open PySem PySem.Spec PyProof.Rows PySem.W PySem.Builtin PySem.Builtin.ObjectAttr PySem.Builtin.Getset_descriptor
structure nJ(K:Frag)(C:Addr):Prop where
 ga:findIn K (.ref C) "__getattribute__" = some (some (.builtin "BaseException.__getattribute__"))
 gn:findIn K (.ref C) "__getattr__" = some none
 cl:findIn K (.ref C) "__class__" = some (some (.builtin "object.__class__"))
 ob:mroIn K C (.type "object")=some true
 be:mroIn K C (.type "BaseException")=some true
 is:(clsIn K C).isSome=true
section
variable {prog:Program}{w:World}{A:Around}{E:Value->Shared->Prop}{h:Heap}{g:Array GenState}{d:Drawn}{t:Nat}{os:OsState}{a C:Addr}{o:Obj}{K:Frag}
theorem W6{R:Result->Shared->Prop}(X:K.In h)(Z:nJ K C)(hx:h.get? a=some o)(hc:o.cls=.ref C)(hq:R (.ok (.ret (.ref C))) ⟨h,g,d,t,os⟩) :
  codeAny (model prog w) A (.call (.builtin "getset_descriptor.__get__") ⟨[.builtin "object.__class__",.ref a,.ref C],[]⟩) R ⟨h,g,d,t,os⟩:=by
 have ty:Looks (model prog w) h (typeOf (.ref a)) (.ref C):=hc▸(Looks.ld hx).andThen .now
 have ms:=looks_mroIn (M:=model prog w) X Z.ob
 refine codeAny_call_builtin KF.slot_gs.plain KF.entry_gs (KF.slot_gs.check _ _ _ _ _ _ _ _ KF.type_class (KF.args_gs _ _ _) ?_)
 unfold Builtin.«getset_descriptor.__get__»
 unfold Builtin.Getset_descriptor.descrGet
 rw[dga_obj]
 refine wpAny_bind (wpAny_pure ?_)
 unfold Builtin.Getset_descriptor.descrGetter
 unfold Builtin.Getset_descriptor.descrCheckInstance
 unfold Builtin.Getset_descriptor.descrNameAndClass
 unfold isInstance
 simp only[KF.owner_class]
 repeat lk
 refine⟨Code.quiet_builtin _ (by decide +kernel),codeAny_builtin KF.entry_class ?_⟩
 unfold Builtin.«object.__class__»
 unfold shownTypeOf
 repeat lk
 all_goals first|exact hq|assumption
theorem W7{tk:Tok}{Q:Fin->Shared->Prop}(X:K.In h)(Z:nJ K C)(hx:h.get? a=some o)(hc:o.cls=.ref C)(hq:Q (.done (.ret (.ref C))) ⟨h,g,d,t,os⟩) :
  wpAny (model prog w) A (Builtin.«object.__getattribute__» ⟨[.ref a,.str "__class__" tk],[]⟩) Q E ⟨h,g,d,t,os⟩:=by
 have hT5:(⟨h,g,d,t,os⟩:Shared).TypeIs (.builtin "object.__class__") "getset_descriptor" := KF.type_class
 have f6:=F.slot_gs_get.lookup
 have f7:=F.slot_gs_set.lookup
 have lc:=λA (Q:Option Value->Shared->Prop) E (q:Q (some (.builtin "object.__class__")) ⟨h,g,d,t,os⟩)=>looks_findIn (M:=model prog w) X Z.cl A Q E ⟨h,g,d,t,os⟩ (λ_ _ z=>z) q
 repeat(any_goals (first|assumption|(with_reducible refine wpAny_loadPart_at hx ?_; rw[hc])|with_reducible refine lc _ _ _ ?_|wp_step))
 refine W6 X Z hx hc ?_
 repeat(any_goals (first|assumption|wp_step))
theorem W8{nameV:Value}{Q:Unit->Shared->Prop}(X:K.In h)(Z:nJ K C)(hx:h.get? a=some o)(hc:o.cls=.ref C)(hq:Q () ⟨h,g,d,t,os⟩) :
  wpAny (model prog w) A (checkBuiltinCall "BaseException.__getattribute__" ⟨[.ref a,nameV],[]⟩) Q E ⟨h,g,d,t,os⟩:=by
 have b1:builtinKind "BaseException.__getattribute__" = some .slot:=by decide +kernel
 have b2:splitId "BaseException.__getattribute__" = some ("BaseException", "__getattribute__"):=by decide +kernel
 have ha:=F.args_bexc_ga (.ref a) nameV
 have lc:=λA (Q:Bool->Shared->Prop) E (q:Q true ⟨h,g,d,t,os⟩)=>looks_mroIn (M:=model prog w) X Z.be A Q E ⟨h,g,d,t,os⟩ (λ_ _ z=>z) q
 simp only[checkBuiltinCall,b1,b2]
 refine wpAny_bind ?_
 unfold isInstance
 repeat(first|(with_reducible refine wpAny_loadPart_at hx ?_; rw[hc])|with_reducible refine lc _ _ _ ?_|wp_step)
 exact hq
theorem W9{tk:Tok}{R:Result->Shared->Prop}(X:K.In h)(Z:nJ K C)(hx:h.get? a=some o)(hc:o.cls=.ref C)(hq:R (.ok (.ret (.ref C))) ⟨h,g,d,t,os⟩) :
  codeAny (model prog w) A (.call (.builtin "BaseException.__getattribute__") ⟨[.ref a,.str "__class__" tk],[]⟩) R ⟨h,g,d,t,os⟩ :=
 codeAny_call_builtin PySem.F.attr_ValueError.ga.plain F.entry_bexc_ga (W8 X Z hx hc (W7 X Z hx hc hq))
theorem Xa{tk:Tok}{Q:Value->Shared->Prop}(X:K.In h)(Z:nJ K C)(hx:h.get? a=some o)(hc:o.cls=.ref C)(hq:Q (.ref C) ⟨h,g,d,t,os⟩) :
  wpAny (model prog w) A (getAttrBy (.ref a) (.str "__class__" tk) false) Q E ⟨h,g,d,t,os⟩:=by
 have f3:=PySem.F.attr_ValueError.ga.bind (.ref a)
 have hx2:(Value.builtin "BaseException.__getattribute__" == Value.builtin "object.__getattribute__")=false:=by decide +kernel
 have hx1:(onTheHeap (Value.ref C)&&Value.builtin "BaseException.__getattribute__" == Value.builtin "object.__getattribute__")=false:=by rw[hx2]; rfl
 have l1:=λA (Q:Option Value->Shared->Prop) E (q:Q (some (.builtin "BaseException.__getattribute__")) ⟨h,g,d,t,os⟩)=>looks_findIn (M:=model prog w) X Z.ga A Q E ⟨h,g,d,t,os⟩ (λ_ _ z=>z) q
 have l2:=λA (Q:Option Value->Shared->Prop) E (q:Q none ⟨h,g,d,t,os⟩)=>looks_findIn (M:=model prog w) X Z.gn A Q E ⟨h,g,d,t,os⟩ (λ_ _ z=>z) q
 repeat(any_goals (first|assumption|(with_reducible refine wpAny_loadPart_at hx ?_; rw[hc])|with_reducible refine l1 _ _ _ ?_|with_reducible refine l2 _ _ _ ?_|wp_step))
 refine W9 X Z hx hc ?_
 repeat(any_goals (first|assumption|wp_step))
theorem Xb{Q:Option Value->Shared->Prop}(X:K.In h)(Z:nJ K C)(hx:h.get? a=some o)(hc:o.cls=.ref C)(hq:Q (some (.ref C)) ⟨h,g,d,t+1,os⟩) :
  wpAny (model prog w) A (getAttr? (.ref a) "__class__") Q E ⟨h,g,d,t,os⟩:=by
 unfold getAttr? getAttrBy?
 repeat(any_goals (first|assumption|with_reducible apply Xa X Z hx hc|wp_step))
theorem Nz(Z:nJ K C):KitX K (.ref a) (.ref C) (zc a C) where
 ty:=λ_ _ _ ⟨o,_,h1,h2,_⟩=>h2▸(Looks.ld h1).andThen .now
 it:=λ_ _ X _=>by
  obtain⟨cd,e⟩:=Option.isSome_iff_exists.mp Z.is
  unfold clsIn at e
  split at e
  ·rename_i ho
   intro A' Q' E' s' k q
   unfold isType loadHead
   exact wpAny_bind (wpAny_loadPart (k _ _ (X _ _ ho)) (wpAny_pure q))
  ·cases e
 ne:=λh tp dd its n sl X htp=>by
  obtain⟨cd,e⟩:=Option.isSome_iff_exists.mp Z.is
  refine Bool.eq_false_iff.mpr λq=>?_
  have q':C=tp:=Value.ref.inj (beq_iff_eq.mp q)
  subst q'
  unfold clsIn at e
  split at e
  ·rename_i ho
   have z:=(X _ _ ho).symm.trans htp
   cases z
  ·cases e
 ca:=λ{_ _ _ _ _ s} X p k=>by
  obtain⟨h,g,d,t,os⟩:=s
  obtain⟨o,_,h1,h2,_⟩:=p
  exact Xb X Z h1 h2 k
end
section
variable {X:Cx}
def Xc(K:Frag):List V->Hp->VK->Prop:=λxs H Q=>∃(ea C:Addr) (d:Value) (dv:V) (b:Bool),xs=[.ref ea,dv]/\H ea=some (mV ea C)/\nJ K C/\(∀u,RelV dv u->u=d)/\kitOne K (.ref C) d=some b/\Q (.bl b) H
theorem NK:iK X (.builtin "isinstance") (Xc X.K):=by
 intro pins s σ H xs us Q I r h
 obtain⟨ea,C,d,dv,b,rfl,he,Z,hd,hk,q⟩:=h
 obtain⟨u,w',rfl,ru,kZ⟩:=vals2 r
 cases ru
 cases hd w' kZ
 have p:zc ea C s.heap:=(I.hok ea _ he).1
 exact kia_one (Nz Z) I.jA p hk (λz=>nomatch z) λtk=>⟨.bl b,H,I.tok tk,rfl,q⟩
def Xd(K:Frag):List V->Hp->VK->Prop:=λxs H Q=>∃(d:Value) (dv:V) (b:Bool),xs=[.non,dv]/\(∀u,RelV dv u->u=d)/\kitOne K (.type "NoneType") d=some b/\Q (.bl b) H
theorem NP:iK X (.builtin "isinstance") (Xd X.K):=by
 intro pins s σ H xs us Q I r h
 obtain⟨d,dv,b,rfl,hd,hk,q⟩:=h
 obtain⟨u,w',rfl,ru,kZ⟩:=vals2 r
 cases ru
 cases hd w' kZ
 exact kia_one kitx_none I.jA True.intro hk (λz=>nomatch z) λtk=>⟨.bl b,H,I.tok tk,rfl,q⟩
end
end L2
end
section
namespace L2
open PySem
theorem Xe(a b:Int):a=b*a.fdiv b+a.fmod b:=by
 have:=Int.mul_fdiv_add_fmod a b
 omega
theorem Xf(a b:Int)(h:b≠0):(a.fmod b).natAbs<b.natAbs:=by
 have h1:=Int.emod_nonneg a h
 have h2:=Int.emod_lt a h
 rw[Int.fmod_eq_emod]
 split
 ·omega
 ·rename_i hn
  have hb:¬0<=b:=λz=>hn (.inl z)
  have hd:¬b∣a:=λz=>hn (.inr z)
  have h3:a%b≠0:=λz=>hd (Int.dvd_of_emod_eq_zero z)
  omega
theorem Xg(a b:Int):Int.gcd b (a.fmod b)=Int.gcd a b:=by
 have e:=Xe a b
 apply Nat.dvd_antisymm
 ·refine Int.dvd_gcd ?_ ?_
  ·have h1:(Int.gcd b (a.fmod b):Int)∣b:=Int.gcd_dvd_left ..
   have h2:(Int.gcd b (a.fmod b):Int)∣a.fmod b:=Int.gcd_dvd_right ..
   have h3:=Int.dvd_add (Int.dvd_mul_of_dvd_left (c:=a.fdiv b) h1) h2
   rw[<-e]at h3
   exact h3
  ·exact Int.gcd_dvd_left ..
 ·refine Int.dvd_gcd ?_ ?_
  ·exact Int.gcd_dvd_right ..
  ·have h1:(Int.gcd a b:Int)∣a:=Int.gcd_dvd_left ..
   have h2:(Int.gcd a b:Int)∣b:=Int.gcd_dvd_right ..
   have e2:a.fmod b=a-b*a.fdiv b:=by omega
   rw[e2]
   exact Int.dvd_sub h1 (Int.dvd_mul_of_dvd_left h2)
theorem Xh(a:Int):(if a<0 then -a else a)=((Int.gcd a 0:Nat):Int):=by
 rw[Int.gcd_zero_right]
 split <;> omega
theorem Fi{a b:Int}(hb:0<b):0<((Int.gcd a b:Nat):Int)/\((Int.gcd a b:Nat):Int)<=b/\1<=b / (Int.gcd a b:Nat)/\Int.gcd (a / (Int.gcd a b:Nat)) (b / (Int.gcd a b:Nat))=1/\(0<=a->0<=a / (Int.gcd a b:Nat)) /\
  a=(a / (Int.gcd a b:Nat))*(Int.gcd a b:Nat)/\b=(b / (Int.gcd a b:Nat))*(Int.gcd a b:Nat):=by
 have hg:0<Int.gcd a b:=Int.gcd_pos_of_ne_zero_right a (by omega)
 have hgi:0<((Int.gcd a b:Nat):Int):=by omega
 have d1:(Int.gcd a b:Int)∣a:=Int.gcd_dvd_left ..
 have d2:(Int.gcd a b:Int)∣b:=Int.gcd_dvd_right ..
 have e1:=Int.ediv_mul_cancel d1
 have e2:=Int.ediv_mul_cancel d2
 refine⟨hgi,Int.le_of_dvd hb d2,?_,Int.gcd_ediv_gcd_ediv_gcd hg,λh=>Int.ediv_nonneg h (by omega),e1.symm,e2.symm⟩
 have:0<b / (Int.gcd a b:Nat):=Int.ediv_pos_of_pos_of_dvd hb (by omega) d2
 omega
end L2
end
section
namespace L2
open PySem PySem.Spec PyProof.Rows
section
variable {X:Cx}
end
end L2
end
section
namespace L2
open PySem PySem.Spec PyProof.Rows PySem.W
theorem NQ{K:Frag}{h:Heap}{mg:Str->Option Value}{x:Str}{C:Addr}{bmB:List Value}{newId:String}(X:K.In h)(G:h.Ns mainGlobals mg)(e:nsIn K mainGlobals x=some (some (.ref C)))(q:excIn K C bmB newId=true):OwnCls x C bmB newId mg h:=by
 constructor
 ·exact mg_of X G e
 unfold excIn at q
 split at q
 case h_2=>cases q
 rename_i dd cd sl lk
 split at q
 case h_2=>cases q
 rename_i c0 bm y0 y1 y2 y3 nid y5 hm hl
 rw[Bool.and_eq_true,Bool.and_eq_true,Bool.and_eq_true,Bool.and_eq_true,Bool.and_eq_true]at q
 obtain⟨⟨⟨⟨⟨q1,q2⟩,q3⟩,q4⟩,q5⟩,q6⟩:=q
 have r1:=beq_iff_eq.mp q1
 have r2:=beq_iff_eq.mp q2
 have r6:=beq_iff_eq.mp q6
 have r3:cd.hasDel=false:=by simpa using q3
 subst r1 r2
 have hsl:sl = #[y0,y1,y2,y3,some (.builtin nid),y5]:=by
  cases sl with
  |mk l=>exact congrArg Array.mk hl
 subst hsl
 cases cd with
 |mk nm bs mro ns qn hd sn sub ab col del =>
  dsimp only at hm r3 q5 r6
  subst hm r3
  exact⟨bm,ns,nm,qn,bs,hd,sn,sub,ab,col,dd,y0,y1,y2,y3,y5,_,X _ _ lk,.of_isNs (isNs_of_in X q5),nsMap_none_of_in X q5 r6,tail_of_in X q4⟩
section
variable {P:Program}{w:World}{K:Frag}{mg:Str->Option Value}{base:Heap}
theorem uz.Xi{x qual:Str}{st:Stmt}{f:Addr}{fd:FuncData}{N ps:List Str}{k:Nat}{sp:Sp}(F:uz K x qual st f fd)(S:sH N ps (cY st))(len:∀vs H Q E,sp vs H Q E->vs.length=ps.length)
  (hbody:∀(cdv:Value) (A:Around) (outer:List Env) (s:Shared) (H:Hp) (vs:List V) (Q:VK) (E:XK),gZ k (A.deeper (envOfC qual (cY st) s.heap.objs.size f cdv))->sp vs H Q E ->
   ∃t,j7 (mJ (j9 P w) P w K mg base N qual (cY st) f cdv A outer s H E) (mU st) t/\t {nx:=λ_ H'=>Q .non H',rt:=Q } (start N vs) H):lO P w K mg base (j9 P w) (k+1) f fd ps sp:=by
 obtain⟨oc,od,kV,doc,pm,an,cdv,ct,osl,rfl,lk,hcd⟩:=F.ex
 exact Vh lk hcd S len λA outer s H vs Q E hr h=>hbody cdv A outer s H vs Q E hr h
def bJ(P:Program)(w:World)(K:Frag)(mg:Str->Option Value)(base:Heap)(k:Nat)(x:Str)(ps:List Str)(sp:Sp):Prop :=
 ∃f fd,lO P w K mg base (j9 P w) k f fd ps sp/\Binds K fd ps []/\keepIn K (.ref f)=true/\mg x=some (.ref f)
theorem bJ.mono{j k:Nat}{x:Str}{ps:List Str}{sp:Sp}(D:bJ P w K mg base j x ps sp)(h:j<=k):bJ P w K mg base k x ps sp:=by
 obtain⟨f,fd,h1,h2⟩:=D
 exact⟨f,fd,h1.mono h,h2⟩
theorem At.NT{k:Nat}{x:Str}{st:Stmt}{N ps:List Str}{sp:Sp}(a:At K mg x st)(S:sH N ps (cY st))
  (hb:∀(kV doc pm:Value) (an:Option Addr) (cdv ct:Value) (us:List Value),us.length=ps.length->bindArgs (fnOf x x (qN st) (mU st) (cY st) .none kV doc pm an cdv ct) ⟨us,[]⟩=pure (ps.zip us))
  (len:∀vs H Q E,sp vs H Q E->vs.length=ps.length)
  (hbody:∀(f:Addr) (cdv:Value) (A:Around) (outer:List Env) (s:Shared) (H:Hp) (vs:List V) (Q:VK) (E:XK),gZ k (A.deeper (envOfC x (cY st) s.heap.objs.size f cdv))->sp vs H Q E ->
   ∃t,j7 (mJ (j9 P w) P w K mg base N x (cY st) f cdv A outer s H E) (mU st) t/\t {nx:=λ_ H'=>Q .non H',rt:=Q } (start N vs) H):bJ P w K mg base (k+1) x ps sp:=by
 obtain⟨f,fd,F,m⟩:=a
 exact⟨f,fd,F.Xi S len λcdv A outer s H vs Q E hr h=>hbody f cdv A outer s H vs Q E hr h,F.binds hb,F.kp,m⟩
end
section
variable {X:Cx}{k:Nat}{x:Str}{ps:List Str}{sp:Sp}{p pos:Pos}{e:Expr}{es:List Expr}{t:TA}
theorem Xj{P:Program}{w:World}:Passes (j9 P w) X E0:=λ_ _ _ _ _ _ _ h=>by
 obtain⟨_,_,_,_,_,_,q,_⟩:=h
 exact q.elim
theorem NZ(D:bJ X.prog X.w X.K X.mg X.base k x ps sp)(hr:gZ k X.A)(ha:PA X.oJ (e::es) t)(hg:Gl X x:=by rfl)(hdb:(x == ("__debug__" : Str))=false:=by decide)
  (he:starEach (e::es) X.env=(false,eval e X.env)::starEach es X.env:=by rfl) (hpl:(backTo pos (starEach es X.env)).any (·.1)=false:=by rfl):Fb X (.Call (.Name x p) (e::es) [] pos) (Fe sp t):=by
 obtain⟨f,fd,h1,h2,h3,h4⟩:=D
 exact WR h1 hr h4 h3 h2 ha hg hdb he hpl
end
end L2
end
section
namespace L2
open PySem PySem.Spec PyProof.Rows
section
variable {P:Program}{w:World}{K:FZ}
end
section
variable {X:Cx}
end
end L2
end
section
namespace L2
open PySem
end L2
end
section
namespace L2
open PySem PySem.Spec PyProof.Rows
section
variable {X:Cx}{e:Expr}{te:TE}{th:TO}{pos p2:Pos}
end
end L2
end
section
namespace L2
open PySem PySem.Spec PyProof.Rows
section
variable {X:Cx}
def Fj(K:FZ):R2:=λx y H Q=>∃t ts p xs,Rep K H x t/\y=.ref p/\(eF K H p xs\/fM K H p xs)/\aQ K H xs ts/\deps ts<=40/\dep t<=40/\Q (.bl (!nH t ts)) H
open Classical in
theorem N5(hu:X.A.units+64<cLine):fH X (compareOp .NotIn) (Fj X.K):=by
 intro pins s σ H x y v u Q I rx ry h
 obtain⟨t,ts,p,xs,q1,rfl,hq,qs,hd,hd2,q⟩:=h
 cases ry
 have hu1:X.A.in1.units+40<cLine:=by
  have:=in1_units X.A
  omega
 -- what == tells of an item,by the item itself
 let e:Value->Bool:=λw'=>if h:∃z tz,z∈xs/\RelV z w'/\Rep X.K H z tz/\tz∈ts then eqT (Classical.choose (Classical.choose_spec h)) t else false
 have ee:∀z w' tz,z∈xs->RelV z w'->Rep X.K H z tz->tz∈ts->e w'=eqT tz t:=λz w' tz h1 h2 h3 h4=>by
  have hx:∃z tz,z∈xs/\RelV z w'/\Rep X.K H z tz/\tz∈ts:=⟨z,tz,h1,h2,h3,h4⟩
  show(if h:_ then _ else _)=_
  rw[dif_pos hx]
  have sp:=Classical.choose_spec (Classical.choose_spec hx)
  have key:∀z z' t1 t2,RelV z w'->RelV z' w'->dep t1<=99->Rep X.K H z t1->Rep X.K H z' t2->t1=t2:=λz z' t1 t2 a1 a2 d9 a3 a4=>by
   obtain rfl:=RelV.inj a1 a2
   exact Rep.inj I d9 a3 a4
  rw[key _ _ _ _ sp.2.1 h2 (by have:=uG sp.2.2.2; omega) sp.2.2.1 h3]
 have mem:∀{its:List Value},Vals xs its->∀w'∈its,SeqAt.EqAt X.A.in1 s w' v (e w'):=by
  intro its r w' hw
  obtain⟨j,hj,ej⟩:=List.mem_iff_getElem.mp hw
  have hjx:j<xs.length:=by rw[r.length]; exact hj
  obtain⟨u',h1,h2⟩:=r.get (List.getElem?_eq_getElem hjx)
  rw[List.getElem?_eq_getElem hj,ej]at h1
  cases h1
  obtain⟨tz,h3,h4⟩:=qs.get (List.getElem?_eq_getElem hjx)
  have hm:=List.mem_of_getElem? h3
  rw[ee _ _ tz (List.getElem_mem hjx) h2 h4 hm]
  exact(zp I 40 X.A.in1 tz t _ x _ v hu1 (Nat.le_trans (uG hm) hd) (by have:=uG hm; omega) (by omega) h4 q1 h2 rx).2
 rcases hq with hq|hq
 ·obtain⟨its,r,pl,hz⟩:=I.list hq
  refine SeqAt.notIn_listAt e pl.isList (λw hw=>mem r w (by simpa using hw)) ⟨.bl _,H,I,rfl,?_⟩
  rw[show its.toArray.any e=its.any e by simp,zq (λz=>eqT z t) e r qs λz w' tz h1 h2 h3 h4=>ee z w' tz h1 h2 h3 h4]
  exact q
 ·obtain⟨its,r,pl,hz⟩:=I.tuple hq
  refine SeqAt.notIn_tupleAt e pl (λw hw=>mem r w (by simpa using hw)) ⟨.bl _,H,I,rfl,?_⟩
  rw[show its.toArray.any e=its.any e by simp,zq (λz=>eqT z t) e r qs λz w' tz h1 h2 h3 h4=>ee z w' tz h1 h2 h3 h4]
  exact q
end
section
variable {X:Cx}{tg:Expr}
end
end L2
end
section
namespace L2
open PySem PySem.Spec PyProof.Rows
section
variable {X:Cx}
end
end L2
end
section
namespace L2
open PySem PySem.Spec PyProof.Rows
inductive Rs(α : Type) where
 |bad|ex (c:Str)|ok (a : α)
def Rs.bind{α β : Type}:Rs α -> (α -> Rs β)->Rs β
 |.bad,_=>.bad
 |.ex c,_=>.ex c
 |.ok a,f=>f a
instance:Monad Rs where
 pure:=.ok
 bind:=Rs.bind
def Rs.post{α : Type}(r:Rs α)(EX:Str->Prop)(P : α -> Prop):Prop:=match r with
 |.bad=>False
 |.ex c=>EX c
 |.ok a=>P a
theorem Rs.aR{α β : Type}{r:Rs α}{f : α -> Rs β}{EX:Str->Prop}{P : β -> Prop}(h:(r.bind f).post EX P):r.post EX λa=>(f a).post EX P:=by
 cases r <;> exact h
theorem Rs.cg{α : Type}{r:Rs α}{EX:Str->Prop}{P P' : α -> Prop}(h:r.post EX P)(i:∀a,P a->P' a):r.post EX P':=by
 cases r with
 |bad=>exact h
 |ex c=>exact h
 |ok a=>exact i a h
open Classical in
def aU(W:Addr->Prop)(H:Hp):Hp:=λb=>if W b then none else H b
theorem zG{W:Addr->Prop}{H:Hp}{b:Addr}(h:W b):aU W H b=none:=if_pos h
theorem gG{W:Addr->Prop}{H:Hp}{b:Addr}(h:¬W b):aU W H b=H b:=if_neg h
theorem jL{W:Addr->Prop}{H:Hp}{b:Addr}{o:HO}(h:aU W H b=some o):¬W b/\H b=some o:=by
 by_cases w:W b
 ·rw[zG w]at h; cases h
 ·rw[gG w]at h; exact⟨w,h⟩
theorem lB(W:Addr->Prop)(H:Hp):Same (aU W H) H:=λ_ _ h=>(jL h).2
theorem nM{W W':Addr->Prop}{H H':Hp}(hw:∀b o,H b=some o->W' b->W b)(s:∀b o,¬W b->H b=some o->H' b=some o):Same (aU W H) (aU W' H'):=λb o h=>by
 obtain⟨n,e⟩:=jL h
 rw[gG λw=>n (hw b o e w)]
 exact s b o n e
theorem mX{W:Addr->Prop}{H:Hp}{a:Addr}{o:HO}(h:W a):aU W (upd H a o)=aU W H:=by
 funext b
 by_cases w:W b
 ·rw[zG w,zG w]
 ·rw[gG w,gG w]
  exact cL λe=>w (e▸h)
inductive Sl where
 |un|sh (t:Tr)|ow (ts:List Tr)|rf (ts:List Tr)|dp (ts:List Tr)
abbrev En:=List Sl
inductive Rv where
 |v (T:Tr) (fr:Bool)|s (i:Nat)
abbrev EF:=En->Rs (Rv × En)
structure Tx where
 K:FZ
 Z:Addr->Prop
 R:Addr->Prop
 H0:Hp
 B:Hp
 EX:Str->Prop
def Mu(ρ : En)(i:Nat):Prop:=∃ts,ρ[i]?=some (Sl.ow ts)\/ρ[i]?=some (Sl.rf ts)
def Xk:Tr->Bool
 |.lst _=>true
 |_=>false
inductive DR(K:FZ)(G H:Hp):List V->List Tr->List Addr->Prop
 |nil:DR K G H [] [] []
 |cl {x:V} {u:Tr} {xs:List V} {ts:List Tr} {bs:List Addr} (n:Xk u=false) (h:Rep K G x u) (r:DR K G H xs ts bs):DR K G H (x::xs) (u::ts) bs
 |rw {b:Addr} {ys:List V} {us:List Tr} {xs:List V} {ts:List Tr} {bs:List Addr} (h:H b=some (.lst ys)) (q:aQ K G ys us) (r:DR K G H xs ts bs):DR K G H (.ref b::xs) (.lst us::ts) (b::bs)
def qT(t:Tx)(W:Addr->Prop)(H:Hp)(a:Addr)(xs:List V)(ts:List Tr)(fp:List Addr):Prop :=
 ∃bs,fp=a::bs/\fp.Nodup/\(∀b∈fp,W b/\t.H0 b=none)/\H a=some (.lst xs)/\DR t.K (aU W H) H xs ts bs
theorem DR.move{K:FZ}{G G' H H':Hp}(m:Same G G'):∀{xs:List V} {ts:List Tr} {bs:List Addr},DR K G H xs ts bs->(∀b o,b∈bs->H b=some o->H' b=some o)->DR K G' H' xs ts bs
 |_,_,_,.nil,_=>.nil
 |_,_,_,.cl n h r,k=>.cl n (h.mono m) (DR.move m r k)
 |_,_,_,.rw h q r,k=>.rw (k _ _ (List.mem_cons_self ..) h) (q.mono m) (DR.move m r λb o hb=>k b o (List.mem_cons_of_mem _ hb))
theorem qT.move{t t':Tx}{W W':Addr->Prop}{H H':Hp}{a:Addr}{xs:List V}{ts:List Tr}{fp:List Addr}(d:qT t W H a xs ts fp)(hK:t'.K=t.K)(h0:t'.H0=t.H0)(m:Same (aU W H) (aU W' H'))(w:∀b∈fp,W' b)(k:∀b o,b∈fp->H b=some o->H' b=some o):qT t' W' H' a xs ts fp:=by
 obtain⟨bs,e,nd,ww,ha,r⟩:=d
 refine⟨bs,e,nd,λb hb=>⟨w b hb,by rw[h0]; exact(ww b hb).2⟩,k a _ (by rw[e]; exact List.mem_cons_self ..) ha,?_⟩
 rw[hK]
 exact r.move m λb o hb=>k b o (by rw[e]; exact List.mem_cons_of_mem _ hb)
def Lt(H:Hp)(b:Addr):Prop:=(∃xs,H b=some (.lst xs))\/∃ps,H b=some (.gQ ps)
theorem Lt.ne{H:Hp}{b:Addr}(h:Lt H b):H b≠none:=by
 rcases h with⟨_,h⟩|⟨_,h⟩ <;> (rw[h]; intro z; cases z)
theorem Lt.grow{H H':Hp}{b:Addr}(h:Lt H b)(s:∀b o,H b=some o->H' b=some o):Lt H' b:=by
 rcases h with⟨_,h⟩|⟨_,h⟩
 ·exact .inl ⟨_,s _ _ h⟩
 ·exact .inr ⟨_,s _ _ h⟩
def qe:List Str:=["falling_places", "order_of_bounds"]
def Tb(K:FZ)(b:Addr):Prop:=∃x∈qe,∃c,PySem.W.tabIn K x=some (c,b)
def Xl(o:Obj)(q:Str):Prop:=∃vs t,o.data=.fields vs/\vs[1]?=some (.str q t)
def Xm(x:Str):Str:=x++(".<locals>." : Str)++("<lambda>" : Str)
def Xn(H:Hp)(q:Str)(ps:Array Value):Prop:=TriplesOk ps.toList/\∀pos v,codeAmong pos ps.toList=some v->∃c o,v=.ref c/\H c=some (.bB o (.own 0))/\Xl o q
def gM(K:FZ)(H:Hp):Prop:=∀x∈qe,∀c b,PySem.W.tabIn K x=some (c,b)->∃ps,H b=some (.gQ ps)/\Xn H (Xm x) ps
theorem gM.gQ{K:FZ}{H:Hp}(h:gM K H){b:Addr}(t:Tb K b):∃ps,H b=some (.gQ ps):=by
 obtain⟨x,hx,c,e⟩:=t
 obtain⟨ps,q,_⟩:=h x hx c b e
 exact⟨ps,q⟩
theorem gM.ne{K:FZ}{H:Hp}(h:gM K H){a b:Addr}{xs:List V}(t:Tb K b)(e:H a=some (.lst xs)):b≠a:=λz=>by
 obtain⟨ps,q⟩:=h.gQ t
 rw[z,e]at q
 cases q
theorem gM.fr{K:FZ}{H H':Hp}(h:gM K H)(s:∀b o,(∀xs,o ≠ .lst xs)->H b=some o->H' b=some o):gM K H':=λx hx c b e=>by
 obtain⟨ps,q,t1,t2⟩:=h x hx c b e
 refine⟨ps,s _ _ (λ_ z=>by cases z) q,t1,λpos v k=>?_⟩
 obtain⟨c,o,e1,e2,e3⟩:=t2 pos v k
 exact⟨c,o,e1,s _ _ (λ_ z=>by cases z) e2,e3⟩
theorem gM.same{K:FZ}{H H':Hp}(h:gM K H)(s:Same H H'):gM K H':=h.fr λb o _=>s b o
theorem gM.upd{K:FZ}{H:Hp}(h:gM K H){a:Addr}{xs:List V}{o:HO}(e:H a=some (.lst xs)):gM K (L2.upd H a o):=h.fr λb u n q=>by
 rw[cL]
 ·exact q
 ·rintro rfl
  rw[e]at q
  cases q
  exact n _ rfl
structure lQ(t:Tx)(W:Addr->Prop)(H:Hp):Prop where
 ok:gM t.K H
 w:∀b,Tb t.K b->W b
 r:∀b,Tb t.K b->t.R b
 B:∀b,Tb t.K b->t.B b=none
theorem lQ.same{t:Tx}{W:Addr->Prop}{H H':Hp}(f:lQ t W H)(s:Same H H'):lQ t W H':=⟨f.ok.same s,f.w,f.r,f.B⟩
theorem lQ.N6{t:Tx}{W W':Addr->Prop}{H:Hp}(f:lQ t W H)(h:∀b,W b->W' b):lQ t W' H:=⟨f.ok,λb z=>h b (f.w b z),f.r,f.B⟩
theorem lQ.cut{t:Tx}{W:Addr->Prop}{H:Hp}(f:lQ t W H){D:Addr->Prop}(h:∀b,D b->∃xs,H b=some (.lst xs)):lQ t (λb=>W b/\¬D b) H:=⟨f.ok,λb z=>⟨f.w b z,λd=>by
 obtain⟨xs,e⟩:=h b d
 exact f.ok.ne z e rfl⟩,f.r,f.B⟩
theorem lQ.upd{t:Tx}{W:Addr->Prop}{H:Hp}(f:lQ t W H){a:Addr}{xs:List V}{o:HO}(e:H a=some (.lst xs)):lQ t W (L2.upd H a o):=⟨f.ok.upd e,f.w,f.r,f.B⟩
structure EOF(t:Tx)(W:Addr->Prop)(ρ : En)(σ : St)(H:Hp)(F:Nat->List Addr):Prop where
 len : ρ.length = σ.length
 zw:∀b,t.Z b->W b
 z0:∀b,t.Z b->t.H0 b≠none
 wl:∀b,W b->Lt H b
 f0:∀b o,t.H0 b=some o->¬t.R b->H b=some o
 n0:∀b,H b=none->t.H0 b=none
 sh:∀(i:Nat) (u:Tr),ρ[i]?=some (.sh u)->∃v,σ[i]?=some (some v)/\Rep t.K (aU W H) v u
 ow:∀(i:Nat) (ts:List Tr),ρ[i]?=some (Sl.ow ts)->∃a xs,σ[i]?=some (some (V.ref a))/\W a/\t.H0 a=none/\H a=some (.lst xs)/\aQ t.K (aU W H) xs ts
 rf:∀(i:Nat) (ts:List Tr),ρ[i]?=some (Sl.rf ts)->∃a xs,σ[i]?=some (some (V.ref a))/\W a/\t.R a/\H a=some (.lst xs)/\aQ t.K (aU W H) xs ts
 dis:∀(i j:Nat) (a:Addr),Mu ρ i->Mu ρ j -> σ[i]?=some (some (V.ref a)) -> σ[j]?=some (some (V.ref a))->i=j
 pn:∀b o,t.B b=some o->H b=some o
 pd:∀(i:Nat) (a:Addr),Mu ρ i -> σ[i]?=some (some (V.ref a))->t.B a=none
 dp:∀(i:Nat) (ts:List Tr),ρ[i]?=some (Sl.dp ts)->∃a xs,σ[i]?=some (some (V.ref a))/\qT t W H a xs ts (F i)
 dd:∀(i j:Nat) (ts us:List Tr),i≠j -> ρ[i]?=some (Sl.dp ts) -> ρ[j]?=some (Sl.dp us)->∀b∈F i,b∉F j
 dm:∀(i j:Nat) (ts:List Tr) (c:Addr),ρ[i]?=some (Sl.dp ts)->Mu ρ j -> σ[j]?=some (some (V.ref c))->c∉F i
 db:∀(i:Nat) (ts:List Tr),ρ[i]?=some (Sl.dp ts)->∀b∈F i,t.B b=none
 tab:lQ t W H
def aP(t:Tx)(W:Addr->Prop)(ρ : En)(σ : St)(H:Hp):Prop:=∃F,EOF t W ρ σ H F
def qg(t:Tx)(W:Addr->Prop)(a:Addr)(ρ : En)(σ : St)(H:Hp):Prop:=∃F,EOF t (λb=>W b\/b=a) ρ σ H F/\∀(i:Nat) (ts:List Tr),ρ[i]?=some (Sl.dp ts)->a∉F i
theorem qg.ok{t:Tx}{W:Addr->Prop}{a:Addr}{ρ : En}{σ : St}{H:Hp}(e:qg t W a ρ σ H):aP t (λb=>W b\/b=a) ρ σ H:=e.elim λF e=>⟨F,e.1⟩
section
variable {t:Tx}{W:Addr->Prop}{ρ : En}{σ : St}{H:Hp}
theorem aP.len(e:aP t W ρ σ H) : ρ.length = σ.length:=e.elim λ_ e=>e.len
theorem aP.zw(e:aP t W ρ σ H):∀b,t.Z b->W b:=e.elim λ_ e=>e.zw
theorem aP.z0(e:aP t W ρ σ H):∀b,t.Z b->t.H0 b≠none:=e.elim λ_ e=>e.z0
theorem aP.wl(e:aP t W ρ σ H):∀b,W b->Lt H b:=e.elim λ_ e=>e.wl
theorem aP.tab(e:aP t W ρ σ H):lQ t W H:=e.elim λ_ e=>e.tab
theorem aP.f0(e:aP t W ρ σ H):∀b o,t.H0 b=some o->¬t.R b->H b=some o:=e.elim λ_ e=>e.f0
theorem aP.n0(e:aP t W ρ σ H):∀b,H b=none->t.H0 b=none:=e.elim λ_ e=>e.n0
theorem aP.sh(e:aP t W ρ σ H):∀(i:Nat) (u:Tr),ρ[i]?=some (.sh u)->∃v,σ[i]?=some (some v)/\Rep t.K (aU W H) v u:=e.elim λ_ e=>e.sh
theorem aP.ow(e:aP t W ρ σ H):∀(i:Nat) (ts:List Tr),ρ[i]?=some (Sl.ow ts)->∃a xs,σ[i]?=some (some (V.ref a))/\W a/\t.H0 a=none/\H a=some (.lst xs)/\aQ t.K (aU W H) xs ts:=e.elim λ_ e=>e.ow
theorem aP.rf(e:aP t W ρ σ H):∀(i:Nat) (ts:List Tr),ρ[i]?=some (Sl.rf ts)->∃a xs,σ[i]?=some (some (V.ref a))/\W a/\t.R a/\H a=some (.lst xs)/\aQ t.K (aU W H) xs ts:=e.elim λ_ e=>e.rf
theorem aP.dis(e:aP t W ρ σ H):∀(i j:Nat) (a:Addr),Mu ρ i->Mu ρ j -> σ[i]?=some (some (V.ref a)) -> σ[j]?=some (some (V.ref a))->i=j:=e.elim λ_ e=>e.dis
theorem aP.pn(e:aP t W ρ σ H):∀b o,t.B b=some o->H b=some o:=e.elim λ_ e=>e.pn
theorem aP.pd(e:aP t W ρ σ H):∀(i:Nat) (a:Addr),Mu ρ i -> σ[i]?=some (some (V.ref a))->t.B a=none:=e.elim λ_ e=>e.pd
end
structure cX(W:Addr->Prop)(H H':Hp):Prop where
 keep:∀b o,¬W b->H b=some o->H' b=some o
 dom:∀b,H' b=none->H b=none
theorem cX.refl(W:Addr->Prop)(H:Hp):cX W H H:=⟨λ_ _ _ h=>h,λ_ h=>h⟩
theorem cX.trans{W:Addr->Prop}{H H1 H2:Hp}(a:cX W H H1)(b:cX W H1 H2):cX W H H2:=⟨λc o n h=>b.keep c o n (a.keep c o n h),λc h=>a.dom c (b.dom c h)⟩
theorem cX.of{W:Addr->Prop}{H H':Hp}(s:Same H H'):cX W H H':=⟨λb o _ h=>s b o h,λ_ h=>s.free h⟩
theorem cX.off{W:Addr->Prop}{H H':Hp}(s:cX W H H'):Same (aU W H) (aU W H'):=nM (λ_ _ _ h=>h) s.keep
theorem aP.grow{t:Tx}{W:Addr->Prop}{ρ : En}{σ : St}{H H':Hp}(e:aP t W ρ σ H)(s:Same H H'):aP t W ρ σ H':=by
 have m:Same (aU W H) (aU W H'):=(cX.of s).off
 obtain⟨F,e⟩:=e
 refine⟨F,e.len,e.zw,e.z0,λb w=>?_,λb o h n=>s b o (e.f0 b o h n),λb h=>e.n0 b (s.free h),λi u h=>?_,λi ts h=>?_,λi ts h=>?_,e.dis,λb o h=>s b o (e.pn b o h),e.pd,λi ts h=>?_,e.dd,e.dm,e.db,e.tab.same s⟩
 ·exact(e.wl b w).grow s
 ·obtain⟨v,h1,h2⟩:=e.sh i u h
  exact⟨v,h1,h2.mono m⟩
 ·obtain⟨a,xs,h1,h2,h3,h4,h5⟩:=e.ow i ts h
  exact⟨a,xs,h1,h2,h3,s _ _ h4,h5.mono m⟩
 ·obtain⟨a,xs,h1,h2,h3,h4,h5⟩:=e.rf i ts h
  exact⟨a,xs,h1,h2,h3,s _ _ h4,h5.mono m⟩
 ·obtain⟨a,xs,h1,d⟩:=e.dp i ts h
  exact⟨a,xs,h1,d.move rfl rfl m (λb hb=>by obtain⟨_,_,_,ww,_⟩:=d; exact(ww b hb).1) λb o _ q=>s b o q⟩
def gq(K:FZ)(W:Addr->Prop)(σ : St)(H H':Hp)(v:V):Rv->Prop
 |.v T false=>Rep K (aU W H') v T
 |.v T true=>∃a xs ts,v=.ref a/\T=.lst ts/\H a=none/\H' a=some (.lst xs)/\aQ K (off a (aU W H')) xs ts
 |.s i=>σ[i]?=some (some v)
theorem N7(a:Addr)(H:Hp):Same (off a H) H:=λ_ _ h=>(sJ h).2
theorem gq.step{K:FZ}{W:Addr->Prop}{σ : St}{H H' jK:Hp}{v:V}{r:Rv}(hw:∀b,W b->H b≠none)(h:gq K W σ H H' v r)(s:cX W H' jK):gq K W σ H jK v r:=by
 cases r with
 |s i=>exact h
 |v T fr =>
  cases fr with
  |false=>exact Rep.mono s.off h
  |true =>
   obtain⟨a,xs,ts,rfl,rfl,e1,e2,r⟩:=h
   refine⟨a,xs,ts,rfl,rfl,e1,s.keep a _ (λw=>hw a w e1) e2,r.mono λb o q=>?_⟩
   obtain⟨n,q⟩:=sJ q
   rw[off_ne n]
   exact s.off b o q
theorem gq.back{K:FZ}{W:Addr->Prop}{σ : St}{G H H':Hp}{v:V}{r:Rv}(h:gq K W σ H H' v r)(d:∀b,H b=none->G b=none):gq K W σ G H' v r:=by
 cases r with
 |s i=>exact h
 |v T fr =>
  cases fr with
  |false=>exact h
  |true =>
   obtain⟨a,xs,ts,e0,e1,e2,r⟩:=h
   exact⟨a,xs,ts,e0,e1,d _ e2,r⟩
theorem gq.rep{K:FZ}{W:Addr->Prop}{σ : St}{H H':Hp}{v:V}{T:Tr}{fr:Bool}(hw:∀b,W b->H b≠none)(h:gq K W σ H H' v (.v T fr)):Rep K (aU W H') v T:=by
 cases fr with
 |false=>exact h
 |true =>
  obtain⟨a,xs,ts,rfl,rfl,e1,e2,r⟩:=h
  refine .lst (eF.of ?_) (r.mono (N7 _ _))
  rw[gG λw=>hw a w e1]
  exact e2
def Rp(K:FZ)(W:Addr->Prop)(H:Hp)(v:V)(T:Tr):Prop :=
 Rep K (aU W H) v T\/∃a xs ts,v=.ref a/\T=.lst ts/\H a=some (.lst xs)/\aQ K (aU W H) xs ts
theorem Rp.rep{K:FZ}{W:Addr->Prop}{H:Hp}{v:V}{T:Tr}(h:Rp K W H v T):Rep K H v T:=by
 rcases h with h|⟨a,xs,ts,rfl,rfl,e,r⟩
 ·exact h.mono (lB _ _)
 ·exact .lst (eF.of e) (r.mono (lB _ _))
theorem Rp.lst{K:FZ}{W:Addr->Prop}{H:Hp}{v:V}{ts:List Tr}(h:Rp K W H v (.lst ts)):∃a xs,v=.ref a/\eF K H a xs/\aQ K (aU W H) xs ts:=by
 rcases h with h|⟨a,xs,us,rfl,e0,e,r⟩
 ·cases h with
  |lst h r=>exact⟨_,_,rfl,(lB _ _).seq h,r⟩
 ·cases e0
  exact⟨a,xs,rfl,eF.of e,r⟩
theorem Rp.tup{K:FZ}{W:Addr->Prop}{H:Hp}{v:V}{ts:List Tr}(h:Rp K W H v (.tup ts)):∃a xs,v=.ref a/\fM K H a xs/\aQ K (aU W H) xs ts:=by
 rcases h with h|⟨a,xs,us,rfl,e0,e,r⟩
 ·cases h with
  |tup h r=>exact⟨_,_,rfl,(lB _ _).jV h,r⟩
 ·cases e0
theorem Rp.int{K:FZ}{W:Addr->Prop}{H:Hp}{v:V}{i:Int}(h:Rp K W H v (.int i)):v=.int i:=by
 cases h.rep; rfl
theorem Rp.bl{K:FZ}{W:Addr->Prop}{H:Hp}{v:V}{i:Bool}(h:Rp K W H v (.bl i)):v=.bl i:=by
 cases h.rep; rfl
theorem Rp.str{K:FZ}{W:Addr->Prop}{H:Hp}{v:V}{i:Str}(h:Rp K W H v (.str i)):v=.str i:=by
 cases h.rep; rfl
theorem Rp.non{K:FZ}{W:Addr->Prop}{H:Hp}{v:V}(h:Rp K W H v .non):v=.non:=by
 cases h.rep; rfl
def dr(ρ : En):Rv->Rs Tr
 |.v T _=>.ok T
 |.s i=>match ρ[i]? with
  |some (Sl.ow ts)=>.ok (.lst ts)
  |some (Sl.rf ts)=>.ok (.lst ts)
  |_=>.bad
theorem jC{t:Tx}{W:Addr->Prop}{ρ : En}{σ : St}{H H':Hp}{v:V}{r:Rv}{T:Tr}(e:aP t W ρ σ H')(hw:∀b,W b->H b≠none)(h:gq t.K W σ H H' v r)(q:dr ρ r=.ok T):Rp t.K W H' v T:=by
 cases r with
 |v U fr =>
  cases q
  exact .inl (h.rep hw)
 |s i =>
  have h : σ[i]?=some (some v):=h
  dsimp only[dr]at q
  split at q
  ·rename_i ts e1
   cases q
   obtain⟨a,xs,h1,h2,h3,h4,h5⟩:=e.ow i ts e1
   rw[h]at h1
   cases h1
   exact .inr ⟨a,xs,ts,rfl,rfl,h4,h5⟩
  ·rename_i ts e1
   cases q
   obtain⟨a,xs,h1,h2,h3,h4,h5⟩:=e.rf i ts e1
   rw[h]at h1
   cases h1
   exact .inr ⟨a,xs,ts,rfl,rfl,h4,h5⟩
  ·cases q
theorem aP.wn{t:Tx}{W:Addr->Prop}{ρ : En}{σ : St}{H:Hp}(e:aP t W ρ σ H):∀b,W b->H b≠none:=λb w=>by
 exact(e.wl b w).ne
theorem aP.hide{t:Tx}{W:Addr->Prop}{ρ : En}{σ : St}{H H':Hp}{a:Addr}{xs:List V}(e:aP t W ρ σ H)(s:Same H H')(n:H a=none)(q:H' a=some (.lst xs)):qg t W a ρ σ H':=by
 have m:Same (aU W H) (aU (λb=>W b\/b=a) H'):=λb o h=>by
  obtain⟨w,h⟩:=jL h
  rw[gG]
  ·exact s b o h
  ·rintro(z|rfl)
   ·exact w z
   ·rw[n]at h; cases h
 have na:∀b,W b->b≠a:=λb w z=>by subst z; exact e.wn b w n
 obtain⟨F,e⟩:=e
 refine⟨F,⟨e.len,λb z=>.inl (e.zw b z),e.z0,λb w=>?_,λb o h nr=>s b o (e.f0 b o h nr),λb h=>e.n0 b (s.free h),λi u h=>?_,λi ts h=>?_,λi ts h=>?_,e.dis,λb o h=>s b o (e.pn b o h),e.pd,λi ts h=>?_,e.dd,e.dm,e.db,(e.tab.same s).N6 λb w=>.inl w⟩,λi ts h z=>?_⟩
 ·rcases w with w|rfl
  ·exact(e.wl b w).grow s
  ·exact .inl ⟨xs,q⟩
 ·obtain⟨v,h1,h2⟩:=e.sh i u h
  exact⟨v,h1,h2.mono m⟩
 ·obtain⟨c,ys,h1,h2,h3,h4,h5⟩:=e.ow i ts h
  exact⟨c,ys,h1,.inl h2,h3,s _ _ h4,h5.mono m⟩
 ·obtain⟨c,ys,h1,h2,h3,h4,h5⟩:=e.rf i ts h
  exact⟨c,ys,h1,.inl h2,h3,s _ _ h4,h5.mono m⟩
 ·obtain⟨c,ys,h1,d⟩:=e.dp i ts h
  exact⟨c,ys,h1,d.move rfl rfl m (λb hb=>by obtain⟨_,_,_,ww,_⟩:=d; exact .inl (ww b hb).1) λb o _ q=>s b o q⟩
 ·obtain⟨c,ys,h1,bs,_,_,ww,_⟩:=e.dp i ts h
  exact na a (ww a z).1 rfl
def iD(t:Tx)(W:Addr->Prop)(ρ : En)(σ : St)(H H':Hp)(v:V)(r:Rv):Prop:=gq t.K W σ H H' v r/\∀T a,r=.v T true->v=.ref a->qg t W a ρ σ H'
theorem iD.of{t:Tx}{W:Addr->Prop}{ρ : En}{σ σ':St}{H H':Hp}{v:V}{T:Tr}{fr:Bool}(e:aP t W ρ σ H)(s:Same H H')(h:gq t.K W σ' H H' v (.v T fr)):iD t W ρ σ H H' v (.v T fr):=by
 refine⟨by cases fr <;> exact h,λU a z ev=>?_⟩
 cases z
 obtain⟨b,xs,ts,rfl,_,n,q,_⟩:=h
 cases ev
 exact e.hide s n q
theorem iD.low{t:Tx}{W:Addr->Prop}{ρ : En}{σ : St}{H H':Hp}{v:V}{T:Tr}(h:Rep t.K (aU W H') v T):iD t W ρ σ H H' v (.v T false):=⟨h,λ_ _ z=>by cases z⟩
theorem iD.back{t:Tx}{W:Addr->Prop}{ρ : En}{σ : St}{G H H':Hp}{v:V}{r:Rv}(h:iD t W ρ σ H H' v r)(d:∀b,H b=none->G b=none):iD t W ρ σ G H' v r:=⟨h.1.back d,h.2⟩
def SE(t:Tx)(te:TE)(f:EF):Prop:=∀W ρ σ H Q,aP t W ρ σ H->(f ρ).post t.EX (λp=>∀v H',aP t W p.2 σ H'->cX W H H'->iD t W p.2 σ H H' v p.1->Q v H')->te σ H Q
abbrev BF:=En->Rs (Bool × En)
def ST(t:Tx)(te:TT)(f:BF):Prop:=∀W ρ σ H Q,aP t W ρ σ H->(f ρ).post t.EX (λp=>∀H',aP t W p.2 σ H'->cX W H H'->Q p.1 H')->te σ H Q
abbrev AF:=En->Rs (List Rv × En)
inductive iT(K:FZ)(W:Addr->Prop)(σ : St)(H H':Hp):List V->List Rv->Prop
 |nil:iT K W σ H H' [] []
 |cons {v:V} {r:Rv} {vs:List V} {rs:List Rv} (h:gq K W σ H H' v r) (q:iT K W σ H H' vs rs):iT K W σ H H' (v::vs) (r::rs)
def SA(t:Tx)(te:TA)(f:AF):Prop:=∀W ρ σ H Q,aP t W ρ σ H->(f ρ).post t.EX (λp=>∀vs H',aP t W p.2 σ H'->cX W H H'->iT t.K W σ H H' vs p.1->Q vs H')->te σ H Q
section
variable {t:Tx}
def aj(i:Nat):EF:=λρ=>match ρ[i]? with
 |some (.sh T)=>.ok (.v T false,ρ)
 |some (.ow _)=>.ok (.s i,ρ)
 |some (.rf _)=>.ok (.s i,ρ)
 |_=>.bad
theorem bK(i:Nat):SE t (mF i) (aj i):=λW ρ σ H Q e h=>by
 unfold aj at h
 split at h
 ·rename_i T q
  obtain⟨v,h1,h2⟩:=e.sh i T q
  exact⟨v,h1,h v H e (cX.refl _ _) (.low h2)⟩
 ·rename_i ts q
  obtain⟨a,xs,h1,_⟩:=e.ow i ts q
  exact⟨_,h1,h _ H e (cX.refl _ _) ⟨h1,λ_ _ z=>by cases z⟩⟩
 ·rename_i ts q
  obtain⟨a,xs,h1,_⟩:=e.rf i ts q
  exact⟨_,h1,h _ H e (cX.refl _ _) ⟨h1,λ_ _ z=>by cases z⟩⟩
 ·exact h.elim
def eC(T:Tr):EF:=λρ=>.ok (.v T false,ρ)
theorem v7{v:V}{T:Tr}(h:∀H,Rep t.K H v T):SE t (tC v) (eC T):=λW ρ σ H Q e q=>q v H e (cX.refl _ _) (.low (h _))
theorem fJ(i:Int):SE t (tC (.int i)) (eC (.int i)):=v7 λ_=>.int i
theorem sO(i:Bool):SE t (tC (.bl i)) (eC (.bl i)):=v7 λ_=>.bl i
theorem nQ(i:Str):SE t (tC (.str i)) (eC (.str i)):=v7 λ_=>.str i
theorem v8:SE t (tC .non) (eC .non):=v7 λ_=>.non
abbrev G2:=Tr->Tr->Rs (Tr × Bool)
def g8(K:FZ)(r:R2)(g:G2):Prop:=∀W x y a b H Q,(∀b,W b->Lt H b)->Rp K W H x a->Rp K W H y b ->
 (g a b).post (λ_=>False) (λp=>∀v H',Same H H'->gq K W [] H H' v (.v p.1 p.2)->Q v H')->r x y H Q
def aq(g:G2)(fa fb:EF):EF:=λρ=>(fa ρ).bind λp=>(fb p.2).bind λq=>(dr q.2 p.1).bind λa=>(dr q.2 q.1).bind λb=>(g a b).bind λz=>.ok (.v z.1 z.2,q.2)
theorem jT{α : Type}{r:Rs α}{EX:Str->Prop}{P : α -> Prop}(h:r.post EX P)(n:∀c,r ≠ .ex c):r.post (λ_=>False) P:=by
 cases r with
 |bad=>exact h
 |ex c=>exact(n c rfl).elim
 |ok a=>exact h
theorem ju(ρ : En)(r:Rv)(c:Str):dr ρ r ≠ .ex c:=by
 cases r with
 |v T fr=>intro z; cases z
 |s i =>
  dsimp only[dr]
  split <;> (intro z; cases z)
theorem kh{r:R2}{g:G2}{ta tb:TE}{fa fb:EF}(o:g8 t.K r g)(ng:∀a b c,g a b ≠ .ex c)(ha:SE t ta fa)(hb:SE t tb fb):SE t (gF r ta tb) (aq g fa fb):=λW ρ σ H Q e h=>by
 refine ha W ρ σ H _ e (Rs.cg (Rs.aR h) λp h x H1 e1 s1 v1=>?_)
 refine hb W p.2 σ H1 _ e1 (Rs.cg (Rs.aR h) λq h y H2 e2 s2 v2=>?_)
 have h:=Rs.aR h
 cases k1:dr q.2 p.1 with
 |bad=>rw[k1]at h; exact h.elim
 |ex c=>exact(ju _ _ _ k1).elim
 |ok a =>
  rw[k1]at h
  have h:((dr q.2 q.1).bind _).post _ _:=h
  have h:=Rs.aR h
  cases k2:dr q.2 q.1 with
  |bad=>rw[k2]at h; exact h.elim
  |ex c=>exact(ju _ _ _ k2).elim
  |ok b =>
   rw[k2]at h
   have h:((g a b).bind _).post _ _:=h
   have r1:=jC e2 e.wn (v1.1.step e.wn s2) k1
   have r2:=jC e2 e1.wn v2.1 k2
   refine o W x y a b H2 Q e2.wl r1 r2 (Rs.cg (jT (Rs.aR h) (ng a b)) λz h v H3 s3 v3=>?_)
   have st:cX W H H3:=(s1.trans s2).trans (cX.of s3)
   exact h v H3 (e2.grow s3) st ((iD.of e2 s3 v3).back λb q=>(s1.trans s2).dom b q)
inductive sS:V->Tr->Prop
 |non:sS .non .non
 |bl (b:Bool):sS (.bl b) (.bl b)
 |int (b:Int):sS (.int b) (.int b)
 |str (b:Str):sS (.str b) (.str b)
theorem sS.rep{K:FZ}{H:Hp}{v:V}{T:Tr}(h:sS v T):Rep K H v T:=by
 cases h <;> constructor
end
end L2
end
section
namespace L2
open PySem PySem.Spec PyProof.Rows
section
variable {X:Cx}
def Fo(K:FZ):R2:=λx y H Q=>∃t u,Rep K H x t/\Rep K H y u/\dep t<=40/\dep u<=40/\Q (.bl (!eqT t u)) H
theorem mY(hu:X.A.units+64<cLine):fH X (compareOp .NotEq) (Fo X.K):=by
 intro pins s σ H x y v u Q I vx vy h
 obtain⟨t,t',rx,ry,hd,du,q⟩:=h
 have hu0:X.A.units<cLine:=by omega
 have hu1:X.A.in1.units+40<cLine:=by
  have:=in1_units X.A
  omega
 have fin:SeqAt.RcNeAt X.A s v u (!eqT t t')->wpAny (model X.prog X.w) X.A (compareOp .NotEq v u) (EP X pins σ Q) X.xe s:=λh=>h _ _ _ _ ⟨.bl _,H,I,rfl,q⟩
 have items:∀{xs ys:List V} {ts us:List Tr} {its its2:List Value},Vals xs its->Vals ys its2->aQ X.K H xs ts->aQ X.K H ys us->deps ts<=40->deps us<=40->∀j (h1:j<its.toArray.size) (h2:j<its2.toArray.size),SeqAt.EqAt X.A.in1 s its.toArray[j] its2.toArray[j] (qd ts us j):=by
  intro xs ys ts us its its2 r1 r2 q1 q2 hde Nb j h1 h2
  obtain⟨a,ea,ra⟩:=zm r1 h1
  obtain⟨b,eb,rb⟩:=zm r2 h2
  obtain⟨ta,eta,qa⟩:=q1.get ea
  obtain⟨tb,vX,qb⟩:=q2.get eb
  rw[M9 eta vX]
  exact(zp I 40 X.A.in1 ta tb a b _ _ hu1 (Nat.le_trans (qQ eta) hde) (by have:=qQ eta; omega) (by have:=qQ vX; omega) qa qb ra rb).2
 cases rx with
 |dD h m n=>unfold dep at hd; omega
 |non =>
  cases vx
  cases ry with
  |non=>cases vy; unfold eqT at fin; exact fin .none_none
  |bl b2=>cases vy; unfold eqT at fin; exact fin (.none_bool _)
  |int i2=>obtain⟨_,rfl⟩:=vy; unfold eqT at fin; exact fin (.none_int _ _)
  |str z2=>obtain⟨_,rfl⟩:=vy; unfold eqT at fin; exact fin (.none_str _ _)
  |tup h r=>cases vy; obtain⟨_,_,p,_⟩:=I.tuple h; unfold eqT at fin; exact fin (.none_tuple p hu0)
  |lst h r=>cases vy; obtain⟨_,_,p,_⟩:=I.list h; unfold eqT at fin; exact fin (.none_list p.isList hu0)
  |dD h m n=>unfold dep at du; omega
 |bl b =>
  cases vx
  cases ry with
  |non=>cases vy; unfold eqT at fin; exact fin (.bool_none _)
  |bl b2=>cases vy; unfold eqT at fin; exact fin (.bool_bool _ _)
  |int i2=>obtain⟨_,rfl⟩:=vy; unfold eqT at fin; exact fin (.bool_int _ _ _)
  |str z2=>obtain⟨_,rfl⟩:=vy; unfold eqT at fin; exact fin (.bool_str _ _ _)
  |tup h r=>cases vy; obtain⟨_,_,p,_⟩:=I.tuple h; unfold eqT at fin; exact fin (.bool_tuple _ p hu0)
  |lst h r=>cases vy; obtain⟨_,_,p,_⟩:=I.list h; unfold eqT at fin; exact fin (.bool_list _ p.isList hu0)
  |dD h m n=>unfold dep at du; omega
 |int i =>
  obtain⟨_,rfl⟩:=vx
  cases ry with
  |non=>cases vy; unfold eqT at fin; exact fin (.int_none _ _)
  |bl b2=>cases vy; unfold eqT at fin; exact fin (.int_bool _ _ _)
  |int i2=>obtain⟨_,rfl⟩:=vy; unfold eqT at fin; exact fin (.int_int _ _ _ _)
  |str z2=>obtain⟨_,rfl⟩:=vy; unfold eqT at fin; exact fin (.int_str _ _ _ _)
  |tup h r=>cases vy; obtain⟨_,_,p,_⟩:=I.tuple h; unfold eqT at fin; exact fin (.int_tuple _ _ p hu0)
  |lst h r=>cases vy; obtain⟨_,_,p,_⟩:=I.list h; unfold eqT at fin; exact fin (.int_list _ _ p.isList hu0)
  |dD h m n=>unfold dep at du; omega
 |str z =>
  obtain⟨_,rfl⟩:=vx
  cases ry with
  |non=>cases vy; unfold eqT at fin; exact fin (.str_none _ _)
  |bl b2=>cases vy; unfold eqT at fin; exact fin (.str_bool _ _ _)
  |int i2=>obtain⟨_,rfl⟩:=vy; unfold eqT at fin; exact fin (.str_int _ _ _ _)
  |str z2=>obtain⟨_,rfl⟩:=vy; unfold eqT at fin; exact fin (.str_str _ _ _ _)
  |tup h r=>cases vy; obtain⟨_,_,p,_⟩:=I.tuple h; unfold eqT at fin; exact fin (.str_tuple _ _ p hu0)
  |lst h r=>cases vy; obtain⟨_,_,p,_⟩:=I.list h; unfold eqT at fin; exact fin (.str_list _ _ p.isList hu0)
  |dD h m n=>unfold dep at du; omega
 | @tup a1 xs1 ts h1 r1 =>
  cases vx
  obtain⟨its,rv,p,_⟩:=I.tuple h1
  have hd':deps ts<=40:=by unfold dep at hd; omega
  cases ry with
  |non=>cases vy; unfold eqT at fin; exact fin (.tuple_none p hu0)
  |bl b2=>cases vy; unfold eqT at fin; exact fin (.tuple_bool _ p hu0)
  |int i2=>obtain⟨_,rfl⟩:=vy; unfold eqT at fin; exact fin (.tuple_int _ _ p hu0)
  |str z2=>obtain⟨_,rfl⟩:=vy; unfold eqT at fin; exact fin (.tuple_str _ _ p hu0)
  |lst h r=>cases vy; obtain⟨_,_,p2,_⟩:=I.list h; unfold eqT at fin; exact fin (.tuple_list p p2.isList hu0)
  |dD h m n=>unfold dep at du; omega
  | @tup a2 xs2 us h2 r2 =>
   cases vy
   obtain⟨its2,nG,p2,_⟩:=I.tuple h2
   have R:=SeqAt.RcNeAt.tuples (A:=X.A) (e:=qd ts us) p p2 (by omega) λj k1 k2=>items rv nG r1 r2 hd' (by unfold dep at du; omega) j k1 k2
   have el:its.toArray.size=ts.length:=by simpa using(rv.length.symm.trans r1.length)
   have el2:its2.toArray.size=us.length:=by simpa using(nG.length.symm.trans r2.length)
   rw[el,el2]at R
   have eb:((List.range (min ts.length us.length)).all (qd ts us)&&ts.length == us.length)=eqT (.tup ts) (.tup us):=by
    unfold eqT
    by_cases e:ts.length=us.length
    ·rw[e,Nat.min_self,<-e,vV e,beq_self_eq_true,Bool.and_true]
    ·rw[beq_false_of_ne e,Bool.and_false,vU e]
   rw[eb]at R
   exact fin R
 | @lst a1 xs1 ts h1 r1 =>
  cases vx
  obtain⟨its,rv,p,_⟩:=I.list h1
  have hd':deps ts<=40:=by unfold dep at hd; omega
  cases ry with
  |non=>cases vy; unfold eqT at fin; exact fin (.list_none p.isList hu0)
  |bl b2=>cases vy; unfold eqT at fin; exact fin (.list_bool _ p.isList hu0)
  |int i2=>obtain⟨_,rfl⟩:=vy; unfold eqT at fin; exact fin (.list_int _ _ p.isList hu0)
  |str z2=>obtain⟨_,rfl⟩:=vy; unfold eqT at fin; exact fin (.list_str _ _ p.isList hu0)
  |dD h m n=>unfold dep at du; omega
  |tup h r=>cases vy; obtain⟨_,_,p2,_⟩:=I.tuple h; unfold eqT at fin; exact fin (.list_tuple p.isList p2 hu0)
  | @lst a2 xs2 us h2 r2 =>
   cases vy
   obtain⟨its2,nG,p2,_⟩:=I.list h2
   have el:its.toArray.size=ts.length:=by simpa using(rv.length.symm.trans r1.length)
   have el2:its2.toArray.size=us.length:=by simpa using(nG.length.symm.trans r2.length)
   by_cases e:ts.length=us.length
   ·have R:=SeqAt.RcNeAt.lists (A:=X.A) (e:=qd ts us) p.isList p2.isList (by omega) (by omega) λj k1 k2=>items rv nG r1 r2 hd' (by unfold dep at du; omega) j k1 k2
    rw[el]at R
    rw[vV e]at R
    unfold eqT at fin
    exact fin R
   ·have R:=SeqAt.RcNeAt.lists_lengths (A:=X.A) p.isList p2.isList (by rw[el,el2]; simpa using e) (by omega)
    unfold eqT at fin
    rw[vU e]at fin
    exact fin R
end
open Classical in
def gH(o:Obj):Obj:=if o.cls=.type "list" ∧ ¬(∃its n,o={cls:=.type "list",data:=.seq its n })then{cls:=.none,data:=.fields #[] }else o
def aG(K:FZ):FZ:=K.map λp=>(p.1,gH p.2)
theorem oV:∀(K:FZ) (a:Addr),(aG K).lookup a=(K.lookup a).map gH
 | [],a=>rfl
 |(c,q)::r,a=>by
  show((c,gH q)::aG r).lookup a=_
  rw[List.lookup_cons,List.lookup_cons]
  cases a == c with
  |true=>rfl
  |false=>exact oV r a
theorem Xo{K:FZ}{a:Addr}{o:Obj}(h:(aG K).lookup a=some o)(c:o.cls=.type "tuple"):K.lookup a=some o:=by
 rw[oV]at h
 cases e:K.lookup a with
 |none=>rw[e]at h; cases h
 |some q =>
  rw[e]at h
  have h:gH q=o:=Option.some.inj h
  unfold gH at h
  split at h
  ·subst h; cases c
  ·rw[h]
theorem Xp{K:FZ}{a:Addr}{o:Obj}(h:(aG K).lookup a=some o)(c:o.cls=.type "list"):K.lookup a=some o∧∃its n,o={cls:=.type "list",data:=.seq its n }:=by
 rw[oV]at h
 cases e:K.lookup a with
 |none=>rw[e]at h; cases h
 |some q =>
  rw[e]at h
  have h:gH q=o:=Option.some.inj h
  unfold gH at h
  split at h
  ·subst h; cases c
  ·rename_i n
   subst h
   refine⟨rfl,?_⟩
   by_cases z:∃its n,q={cls:=.type "list",data:=.seq its n }
   ·exact z
   ·exact(n ⟨c,z⟩).elim
theorem Xq{K:FZ}{a:Addr}{o:Obj}(h:K.lookup a=some o)(c:o.cls=.type "tuple"):(aG K).lookup a=some o:=by
 rw[oV,h]
 show some (gH o)=some o
 unfold gH
 rw[if_neg (by rintro⟨z,_⟩; rw[c]at z; injection z with z; exact absurd z (by decide))]
theorem fM.toK{K:FZ}{H:Hp}{a:Addr}{xs:List V}(h:fM (aG K) H a xs):fM K H a xs:=by
 rcases h with h|⟨o,its,n,e,c,r⟩
 ·exact .inl h
 ·exact .inr ⟨o,its,n,Xo e c,c,r⟩
def mZ(K:FZ)(H:Hp)(a:Addr)(xs:List V):Prop:=Rd H a (.lst xs)\/∃(its:Array Value) (n:Nat),K.lookup a=some {cls:=.type "list",data:=.seq its n }/\its.size<=sizeLine/\Vals xs its.toList
theorem eF.v9{K:FZ}{H:Hp}{a:Addr}{xs:List V}(h:eF (aG K) H a xs):mZ K H a xs:=by
 rcases h with h|⟨o,its,n,e,c,_,d,r⟩
 ·exact .inl h
 ·obtain⟨e2,its',n',rfl⟩:=Xp e c
  have d:Data.seq its' n'=.seq its n:=d
  injection d with d1 d2
  subst d1 d2
  exact .inr ⟨its',n',e2,r⟩
theorem mZ.toK{K:FZ}{H:Hp}{a:Addr}{xs:List V}(h:mZ K H a xs):eF K H a xs:=by
 rcases h with h|⟨its,n,e,r⟩
 ·exact .inl h
 ·exact .inr ⟨_,its,n,e,rfl,rfl,rfl,r⟩
theorem mZ.toN{K:FZ}{H:Hp}{a:Addr}{xs:List V}(h:mZ K H a xs):eF (aG K) H a xs:=by
 rcases h with h|⟨its,n,e,r⟩
 ·exact .inl h
 ·refine .inr ⟨{cls:=.type "list",data:=.seq its n },its,n,?_,rfl,rfl,rfl,r⟩
  rw[oV,e]
  show some (gH _)=_
  unfold gH
  rw[if_neg λz=>z.2 ⟨its,n,rfl⟩]
theorem eF.toK{K:FZ}{H:Hp}{a:Addr}{xs:List V}(h:eF (aG K) H a xs):eF K H a xs:=h.v9.toK
theorem Xr{K:FZ}{N:Addr}{c:Str}{v:Value}(h:PySem.W.nsIn (aG K) N c=some (some v)):PySem.W.nsIn K N c=some (some v):=by
 unfold PySem.W.nsIn at h ⊢
 rw[oV]at h
 cases e:K.lookup N with
 |none=>rw[e]at h; cases h
 |some q =>
  rw[e]at h
  by_cases z:q.cls=.type "list" ∧ ¬(∃its n,q={cls:=.type "list",data:=.seq its n })
  ·have:gH q={cls:=.none,data:=.fields #[] }:=by unfold gH; rw[if_pos z]
   rw[show(some q).map gH=some (gH q)from rfl,this]at h
   cases h
  ·have:gH q=q:=by unfold gH; rw[if_neg z]
   rw[show(some q).map gH=some (gH q)from rfl,this]at h
   exact h
theorem Xu{K:FZ}{N:Addr}{c:Str}{v:Value}(m:∀o,K.lookup N=some o->o.cls ≠ .type "list") (h:PySem.W.nsIn K N c=some (some v)):PySem.W.nsIn (aG K) N c=some (some v):=by
 unfold PySem.W.nsIn at h ⊢
 rw[oV]
 cases e:K.lookup N with
 |none=>rw[e]at h; cases h
 |some q =>
  rw[e]at h
  have:gH q=q:=by unfold gH; rw[if_neg λz=>m q e z.1]
  rw[show(some q).map gH=some (gH q)from rfl,this]
  exact h
mutual
theorem Rep.toK{K:FZ}{H:Hp}:∀{v:V} {t:Tr},Rep (aG K) H v t->Rep K H v t
 |_,_,.non=>.non
 |_,_,.bl b=>.bl b
 |_,_,.int i=>.int i
 |_,_,.str x=>.str x
 |_,_,.tup h r=>.tup h.toK (aQ.toK r)
 |_,_,.lst h r=>.lst h.toK (aQ.toK r)
 |_,_,.dD h m n=>.dD h m (Xr n)
theorem aQ.toK{K:FZ}{H:Hp}:∀{v:List V} {t:List Tr},aQ (aG K) H v t->aQ K H v t
 |_,_,.nil=>.nil
 |_,_,.cons h r=>.cons (Rep.toK h) (aQ.toK r)
end
section
variable {X:Cx}
theorem Inv.Fp{pins:List (Addr × Obj)}{σ : St}{H:Hp}{s:Shared}{l:Addr}{xs:List V}(I:Inv X pins σ H s)(hH:mZ X.K H l xs):xs.length<=sizeLine/\∃(its:List Value) (n:Nat),Vals xs its/\xs.length=its.length/\s.heap.get? l=some {cls:=.type "list",data:=.seq its.toArray n }:=by
 rcases hH with hH|⟨its,n,e,z,r⟩
 ·obtain⟨z,its,n,r,e⟩:=hH.ok I.hok
  exact⟨z,its,n,r,r.length,e⟩
 ·have l':xs.length=its.size:=r.length.trans Array.length_toList
  exact⟨by rw[l']; exact z,its.toList,n,r,r.length,I.jA _ _ e⟩
def N8(K:FZ):R2:=λx y H Q=>∃l b xs zs,x=.ref l/\y=.ref b/\mZ K H l xs/\mZ K H b zs/\xs.length+zs.length<=sizeLine/\∀p,H p=none->Q (.ref p) (upd H p (.lst (xs++zs)))
theorem Xv:fH X (binaryOp .Add) (N8 X.K):=by
 intro pins s σ H x y v u Q I rx ry h
 obtain⟨l,b,xs,zs,rfl,rfl,hH,hB,hz,q⟩:=h
 cases rx
 cases ry
 obtain⟨z,its,n,r,hl,e⟩:=I.Fp hH
 obtain⟨z2,its2,n2,r2,hl2,e2⟩:=I.Fp hB
 refine PySem.P.add_list e e2 ?_ (by rw[List.size_toArray,List.size_toArray]; omega)
 have ea:its.toArray++its2.toArray=(its++its2).toArray:=by simp
 rw[ea]
 exact⟨.ref _,_,I.Eb (t':=s.toks) (r.append r2) (by rw[List.length_append]; omega),rfl,q _ I.fresh⟩
end
end L2
end
section
namespace L2
open PySem PySem.Spec PyProof.Rows
def Oa(K:FZ):R2:=λx y H Q=>∃l k xs,x=.ref l/\y=.int k/\mZ K H l xs /\ -(2 ^ 63)<=k/\k<2 ^ 63/\xs.length*k.toNat<=sizeLine/\∀p,H p=none->Q (.ref p) (upd H p (.lst (List.replicate k.toNat xs).flatten))
theorem Xw{X:Cx}:fH X (binaryOp .Mult) (Oa X.K):=by
 intro pins s σ H x y v u Q I rx ry h
 obtain⟨l,k,xs,rfl,rfl,hH,h1,h2,hz,q⟩:=h
 cases rx
 obtain⟨t,rfl⟩:=ry
 obtain⟨z,its,n,r,hl,e⟩:=I.Fp hH
 have hlen:its.toArray.size*k.toNat<=sizeLine:=by rw[List.size_toArray,<-hl]; exact hz
 have hcap:¬its.toArray.size*k.toNat > (2 ^ 63-1) / 8:=by
  have:(sizeLine:Nat)<=(2 ^ 63-1) / 8:=by decide
  omega
 have hfit:¬(!Builtin.List.listFitsIndex k)=true:=by
  rw[fitsIndex_both h1 h2]
  exact Bool.false_ne_true
 have Xx:¬Builtin.List.listTooLong (its.toArray.size*k.toNat)=true:=by
  rw[V7 hlen]
  exact Bool.false_ne_true
 have hnew:List.foldl (λx1 x2=>x1++x2) #[] (List.replicate (if its.toArray.isEmpty=true then 0 else k.toNat) its.toArray)=(List.replicate k.toNat its).flatten.toArray:=by
  have f0:∀m:Nat,List.foldl (λx1 x2=>x1++x2) #[] (List.replicate m its.toArray)=(List.replicate m its).flatten.toArray:=λm=>by
   have:=foldl_rep its m []
   rw[List.nil_append]at this
   exact this
  rw[f0]
  cases its with
  |nil=>simp
  |cons a r'=>rw[if_neg (by simp)]
 refine wpAny_binaryOp_repeat_ref (T := "list") (U := "int") (by decide) ⟨_,e,rfl⟩ (λs'=>typeIs_int s' k t) noFill_list_mul F.fills_int_mul F.slot_int_rmul repeat_list F.slot_int_index.lookup
  (call_meets F.slot_int_rmul (typeIs_int s k t) F.entry_int_rmul (F.args_int_rmul_2 _ _) (int___rmul___int_list k t l its.toArray n)
   ⟨e,rfl,⟨_,e,rfl⟩,call_meets F.slot_list_mul ⟨_,e,rfl⟩ F.entry_list_mul (F.args_list_mul_2 _ _) (AutoListH.list___mul___list_int_3 l its.toArray n k t hfit hcap Xx) ⟨e,?_⟩⟩)
 rw[hnew]
 exact⟨.ref _,_,I.Eb (t':=s.toks) (r.rep k.toNat) (by rw[len_rep,Nat.mul_comm]; exact hz),rfl,q _ I.fresh⟩
end L2
end
section
namespace L2
open PySem PySem.Spec PyProof.Rows
section
variable {K:FZ}{W:Addr->Prop}{σ : St}{H:Hp}{p:Addr}{xs:List V}{ts:List Tr}
theorem Ob{o:HO}(hp:H p=none):Same (aU W H) (off p (aU W (upd H p o))):=λb u q=>by
 obtain⟨n,e⟩:=jL q
 have ne:b≠p:=mq e hp
 rw[off_ne ne,gG n,cL ne]
 exact e
theorem gq.new(hp:H p=none)(r:aQ K (aU W H) xs ts):gq K W σ H (upd H p (.lst xs)) (.ref p) (.v (.lst ts) true) :=
 ⟨p,xs,ts,rfl,rfl,hp,gk,r.mono (Ob hp)⟩
theorem gq.newT(hw:∀b,W b->Lt H b)(hp:H p=none)(r:aQ K (aU W H) xs ts):gq K W σ H (upd H p (.tup xs)) (.ref p) (.v (.tup ts) false):=by
 have nw:¬W p:=λw=>by
  exact(hw p w).ne hp
 refine .tup (fM.of ?_) (r.mono λb u q=>(sJ (Ob (o:=.tup xs) hp b u q)).2)
 rw[gG nw]
 exact gk
theorem gq.gU{H':Hp}{v:V}{T:Tr}(h:sS v T):gq K W σ H H' v (.v T false):=h.rep
theorem aQ.sU{H:Hp}:∀{v:List V} {t:List Tr} {i:Nat} {u:Tr},aQ K H v t->t[i]?=some u->∃x,v[i]?=some x/\Rep K H x u
 |_,_,_,_,.nil,e=>by simp at e
 |_,_,0,_,.cons h _,e=>by
  simp at e
  subst e
  exact⟨_,rfl,h⟩
 |_,_,i+1,x,.cons _ r,e=>by
  obtain⟨u,h1,h2⟩:=aQ.sU (i:=i) (u:=x) r (by simpa using e)
  exact⟨u,by simpa using h1,h2⟩
theorem aQ.cR(r:aQ K H xs ts){i:Int}{t:Tr}(h:cR ts i=some t):∃x,L2.cR xs i=some x/\Rep K H x t:=by
 unfold L2.cR at h ⊢
 rw[r.length]
 cases e:dg ts.length i with
 |none=>rw[e]at h; cases h
 |some j =>
  rw[e]at h
  exact r.sU h
theorem Rp.Oc{v:V}(h:Rp K W H v (.tup ts)):Rep K (aU W H) v (.tup ts):=by
 rcases h with h|⟨a,xs,us,rfl,e0,e,r⟩
 ·exact h
 ·cases e0
theorem big{n:Nat}(h:n<=100000):n<=sizeLine:=Nat.le_trans h (by decide)
end
section
variable {K:FZ}
def gI(p:Int->Int->Int):G2
 |.int i,.int j=>.ok (.int (p i j),false)
 |_,_=>.bad
theorem Xy{p:Int->Int->Int}:g8 K (jq λi j=>.int (p i j)) (gI p):=λW x y a b H Q hw rx ry h=>by
 cases a <;> try exact h.elim
 cases b <;> try exact h.elim
 rw[rx.int,ry.int]
 exact⟨_,_,rfl,rfl,h _ H (Same.refl _) (.gU (.int _))⟩
def bW(c:Int->Int->Bool)(p:Int->Int->Int):G2
 |.int i,.int j=>if c i j=true then .ok (.int (p i j),false)else .bad
 |_,_=>.bad
theorem Ft{C:Int->Int->Prop}{c:Int->Int->Bool}{p:Int->Int->Int}(hc:∀i j,c i j=true->C i j):g8 K (rI C λi j=>.int (p i j)) (bW c p):=λW x y a b H Q hw rx ry h=>by
 cases a <;> try exact h.elim
 cases b <;> try exact h.elim
 rw[rx.int,ry.int]
 dsimp only[bW]at h
 split at h
 ·rename_i e
  exact⟨_,_,rfl,rfl,hc _ _ e,h _ H (Same.refl _) (.gU (.int _))⟩
 ·exact h.elim
def gB(p:Int->Int->Bool):G2
 |.int i,.int j=>.ok (.bl (p i j),false)
 |_,_=>.bad
theorem Fv{p:Int->Int->Bool}:g8 K (jq λi j=>.bl (p i j)) (gB p):=λW x y a b H Q hw rx ry h=>by
 cases a <;> try exact h.elim
 cases b <;> try exact h.elim
 rw[rx.int,ry.int]
 exact⟨_,_,rfl,rfl,h _ H (Same.refl _) (.gU (.bl _))⟩
def aM:G2:=λt u=>if dep t<=40/\dep u<=40 then .ok (.bl (eqT t u),false)else .bad
theorem Xz:g8 (aG K) (Ej K) aM:=λW x y a b H Q hw rx ry h=>by
 unfold aM at h
 split at h
 ·rename_i e
  exact⟨a,b,rx.rep.toK,ry.rep.toK,e.1,e.2,h _ H (Same.refl _) (.gU (.bl _))⟩
 ·exact h.elim
def bQ:G2:=λt u=>if dep t<=40/\dep u<=40 then .ok (.bl (!eqT t u),false)else .bad
theorem XD:g8 (aG K) (Fo K) bQ:=λW x y a b H Q hw rx ry h=>by
 unfold bQ at h
 split at h
 ·rename_i e
  exact⟨a,b,rx.rep.toK,ry.rep.toK,e.1,e.2,h _ H (Same.refl _) (.gU (.bl _))⟩
 ·exact h.elim
def cM(f:Bool->Bool):G2:=λt u=>match u with
 |.lst us=>if deps us<=40/\dep t<=40 then .ok (.bl (f (nH t us)),false)else .bad
 |.tup us=>if deps us<=40/\dep t<=40 then .ok (.bl (f (nH t us)),false)else .bad
 |_=>.bad
theorem XF:g8 (aG K) (Ek K) (cM id):=λW x y a b H Q hw rx ry h=>by
 cases b <;> try exact h.elim
 ·rename_i us
  dsimp only[cM]at h
  split at h
  ·rename_i e
   obtain⟨p,xs,rfl,q,r⟩:=ry.tup
   exact⟨a,us,p,xs,rx.rep.toK,rfl,.inr q.toK,(r.mono (lB _ _)).toK,e.1,e.2,h _ H (Same.refl _) (.gU (.bl _))⟩
  ·exact h.elim
 ·rename_i us
  dsimp only[cM]at h
  split at h
  ·rename_i e
   obtain⟨p,xs,rfl,q,r⟩:=ry.lst
   exact⟨a,us,p,xs,rx.rep.toK,rfl,.inl q.toK,(r.mono (lB _ _)).toK,e.1,e.2,h _ H (Same.refl _) (.gU (.bl _))⟩
  ·exact h.elim
theorem XH:g8 (aG K) (Fj K) (cM not):=λW x y a b H Q hw rx ry h=>by
 cases b <;> try exact h.elim
 ·rename_i us
  dsimp only[cM]at h
  split at h
  ·rename_i e
   obtain⟨p,xs,rfl,q,r⟩:=ry.tup
   exact⟨a,us,p,xs,rx.rep.toK,rfl,.inr q.toK,(r.mono (lB _ _)).toK,e.1,e.2,h _ H (Same.refl _) (.gU (.bl _))⟩
  ·exact h.elim
 ·rename_i us
  dsimp only[cM]at h
  split at h
  ·rename_i e
   obtain⟨p,xs,rfl,q,r⟩:=ry.lst
   exact⟨a,us,p,xs,rx.rep.toK,rfl,.inl q.toK,(r.mono (lB _ _)).toK,e.1,e.2,h _ H (Same.refl _) (.gU (.bl _))⟩
  ·exact h.elim
def Od:Tr->Bool
 |.non=>true
 |_=>false
def sV(f:Bool->Bool):G2:=λt u=>match u with
 |.non=>.ok (.bl (f (Od t)),false)
 |_=>.bad
theorem XJ{H:Hp}{x:V}{t:Tr}(h:Rep K H x t):decide (x=.non)=Od t:=by
 cases h <;> rfl
theorem XM:g8 K (λx y H Q=>y=.non/\Q (.bl (decide (x=.non))) H) (sV id):=λW x y a b H Q hw rx ry h=>by
 cases b <;> try exact h.elim
 rw[ry.non,XJ rx.rep]
 exact⟨rfl,h _ H (Same.refl _) (.gU (.bl _))⟩
def Fw(K:FZ):R2:=λx y H Q=>(jq λi j=>.int (i+j)) x y H Q\/N8 K x y H Q\/(∃i j,x=.str i/\y=.str j/\i.length+j.length<=sizeLine/\Q (.str (i++j)) H)\/Mg K x y H Q
theorem gO{X:Cx}:fH X (binaryOp .Add) (Fw X.K):=fH.or Le (fH.or Xv (fH.or Vb VG))
noncomputable def aN:G2
 |.int i,.int j=>.ok (.int (i+j),false)
 |.lst a,.lst b=>if a.length+b.length<=100000 then .ok (.lst (a++b),true)else .bad
 |.str a,.str b=>if a.length+b.length<=100000 then .ok (.str (a++b),false)else .bad
 |.tup a,.tup b=>if 0<a.length/\a.length+b.length<=100000 then .ok (.tup (a++b),false)else .bad
 |_,_=>.bad
theorem XQ:g8 (aG K) (Fw K) aN:=λW x y a b H Q hw rx ry h=>by
 cases a <;> cases b <;> try exact h.elim
 ·rw[rx.int,ry.int]
  exact .inl ⟨_,_,rfl,rfl,h _ H (Same.refl _) (.gU (.int _))⟩
 ·rename_i i j
  rw[rx.str,ry.str]
  dsimp only[aN]at h
  split at h
  ·rename_i e
   exact .inr (.inr (.inl ⟨i,j,rfl,rfl,big e,h _ H (Same.refl _) (.gU (.str _))⟩))
  ·exact h.elim
 ·rename_i us ws
  dsimp only[aN]at h
  split at h
  ·rename_i e
   have rt:=rx.Oc
   obtain⟨p,xs,rfl,q,r⟩:=rx.tup
   obtain⟨p',ys,rfl,q',r'⟩:=ry.tup
   have l1:=r.length
   have l2:=r'.length
   refine .inr (.inr (.inr ⟨p,p',xs,ys,rfl,rfl,q.toK,q'.toK,?_,by rw[l1,l2]; exact big e.2,λz=>h _ H (Same.refl _) ?_,λ_ z hz=>h _ _ (gK hz _) (.newT hw hz (r.app r'))⟩))
   ·rintro rfl
    have e1:=e.1
    rw[<-l1]at e1
    cases e1
   ·subst z
    cases r'
    rw[List.append_nil]
    exact rt
  ·exact h.elim
 ·rename_i us ws
  dsimp only[aN]at h
  split at h
  ·rename_i e
   obtain⟨p,xs,rfl,q,r⟩:=rx.lst
   obtain⟨p',ys,rfl,q',r'⟩:=ry.lst
   refine .inr (.inl ⟨p,p',xs,ys,rfl,rfl,q.v9,q'.v9,by rw[r.length,r'.length]; exact big e,λz hz=>h _ _ (gK hz _) (.new hz (r.app r'))⟩)
  ·exact h.elim
end
end L2
end
section
namespace L2
open PySem PySem.Spec PyProof.Rows
def fit(i:Int):Bool:=decide (i.natAbs.log2<1048575)
theorem Oe{i:Int}(h:fit i=true):Builtin.Int.intBits i<=2 ^ 20:=by
 have h:=of_decide_eq_true h
 unfold Builtin.Int.intBits
 have e:(2:Nat) ^ 20=1048576:=by decide
 split
 ·decide
 ·omega
def tiny(i:Int):Bool:=decide (-18446744073709551616<i)&&decide (i<18446744073709551616)
def ig(i j:Int):Bool:=(fit i&&fit j) || tiny i || tiny j
def zH(i j:Int):Prop:=ig i j=true
theorem zH.ok{i j:Int}(h:zH i j):IntMulOk i j:=by
 unfold zH ig at h
 rw[Bool.or_eq_true,Bool.or_eq_true,Bool.and_eq_true]at h
 have e:(2:Int) ^ 64=18446744073709551616:=by decide
 have tn:∀{k:Int},tiny k=true -> -(2 ^ 64)<k/\k<2 ^ 64:=λ{k} h=>by
  unfold tiny at h
  rw[Bool.and_eq_true]at h
  have h1:=of_decide_eq_true h.1
  have h2:=of_decide_eq_true h.2
  omega
 rcases h with(⟨h1,h2⟩|h)|h
 ·exact .of_bits (Oe h1) (Oe h2)
 ·exact .of_left (intBits_le_64 (tn h).1 (tn h).2)
 ·exact .of_right (intBits_le_64 (tn h).1 (tn h).2)
def Fx(K:FZ):R2:=λx y H Q=>(rI zH λi j=>.int (i*j)) x y H Q\/Oa K x y H Q
theorem oW{X:Cx}:fH X (binaryOp .Mult) (Fx X.K):=fH.or (yO λ_ _ _ _ _ _ _ hc q=>mul_int q hc.ok) Xw
def cO:G2
 |.int i,.int j=>if ig i j=true then .ok (.int (i*j),false)else .bad
 |.lst a,.int k=>if(-1000<=k/\k<=1000)/\a.length<=100 then .ok (.lst (List.replicate k.toNat a).flatten,true)else .bad
 |_,_=>.bad
def jW(_ j:Int):Bool:=decide (j≠0)&&decide (j.natAbs.log2<9000)
def zJ(i j:Int):Prop:=jW i j=true
theorem Fy{X:Cx}:fH X (binaryOp .FloorDiv) (rI zJ λi j=>.int (i.fdiv j)):=yO λi j _ _ _ _ _ hc q=>by
 unfold zJ jW at hc
 rw[Bool.and_eq_true]at hc
 exact floordiv_int (of_decide_eq_true hc.1) q (.inl (PyProof.noPylong_of_log2 (of_decide_eq_true hc.2)))
def dU:G2:=bW jW Int.fdiv
def bD:G2:=bW (λ_ j=>decide (j≠0)) Int.fmod
def qU(i j:Int):Bool:=decide (0<=j)&&decide (j<=1000)&&tiny i
def dz:G2:=bW qU λi j=>i ^ j.toNat
def bA:G2:=gI λi j=>i-j
section
variable {K:FZ}
theorem aQ.rep{H:Hp}{xs:List V}{ts:List Tr}(r:aQ K H xs ts):∀n,aQ K H (List.replicate n xs).flatten (List.replicate n ts).flatten
 | 0=>.nil
 |n+1=>by
  rw[List.replicate_succ,List.replicate_succ,List.flatten_cons,List.flatten_cons]
  exact r.app (aQ.rep r n)
theorem XR:g8 (aG K) (Fx K) cO:=λW x y a b H Q hw rx ry h=>by
 cases a <;> cases b <;> try exact h.elim
 ·rw[rx.int,ry.int]
  dsimp only[cO]at h
  split at h
  ·rename_i e
   exact .inl ⟨_,_,rfl,rfl,e,h _ H (Same.refl _) (.gU (.int _))⟩
  ·exact h.elim
 ·rename_i us k
  rw[ry.int]
  dsimp only[cO]at h
  split at h
  ·rename_i e
   obtain⟨p,xs,rfl,q,r⟩:=rx.lst
   by_cases k0:0<=k
   ·refine .inr ⟨p,k,xs,rfl,rfl,q.v9,by omega,by omega,?_,λz hz=>h _ _ (gK hz _) (.new hz (r.rep _))⟩
    rw[r.length]
    refine Nat.le_trans (Nat.mul_le_mul e.2 (show k.toNat<=1000 by omega)) (by decide)
   ·have e0:k.toNat=0:=by omega
    by_cases k1 : -(2 ^ 63)<=k
    ·refine .inr ⟨p,k,xs,rfl,rfl,q.v9,k1,by omega,?_,λz hz=>h _ _ (gK hz _) (.new hz (r.rep _))⟩
     rw[e0,Nat.mul_zero]
     exact Nat.zero_le _
    ·omega
  ·exact h.elim
theorem XS:g8 K (rI zJ λi j=>.int (i.fdiv j)) dU:=Ft λ_ _ h=>h
theorem X3:g8 K (rI (λ_ j=>j≠0) λi j=>.int (i.fmod j)) bD:=Ft λ_ _ h=>of_decide_eq_true h
theorem Yb:g8 K (rI Dt λi j=>.int (i ^ j.toNat)) dz:=Ft λi j h=>by
 unfold qU tiny at h
 rw[Bool.and_eq_true,Bool.and_eq_true,Bool.and_eq_true]at h
 have h1:=of_decide_eq_true h.1.1
 have h2:=of_decide_eq_true h.1.2
 have h3:=of_decide_eq_true h.2.1
 have h4:=of_decide_eq_true h.2.2
 have e:(2:Nat) ^ 64=18446744073709551616:=by decide
 exact⟨h1,by omega,by omega⟩
theorem Yc:g8 K (jq λi j=>.int (i-j)) bA:=Xy
def bR:G2:=gB λi j=>decide (j<i)
def cN:G2:=gB λi j=>decide (i<=j)
def dw:G2:=gB λi j=>decide (j<=i)
theorem Yd:g8 K (jq λi j=>.bl (decide (j<i))) bR:=Fv
theorem zK:g8 K (jq λi j=>.bl (decide (i<=j))) cN:=Fv
theorem Ye:g8 K (jq λi j=>.bl (decide (j<=i))) dw:=Fv
def intsOf:List Tr->Option (List Int)
 | []=>some []
 |.int i::r=>(intsOf r).map (i :: ·)
 |_::_=>none
theorem ints_of{H:Hp}:∀{ts:List Tr} {ns:List Int} {xs:List V},intsOf ts=some ns->aQ K H xs ts->xs=ns.map V.int
 | [],ns,xs,h,r=>by cases h; cases r; rfl
 |.int i::q,ns,xs,h,r=>by
  unfold intsOf at h
  cases e:intsOf q with
  |none=>rw[e]at h; cases h
  |some ms =>
   rw[e]at h
   cases h
   cases r with
   |cons h1 r1 =>
    cases h1
    rw[ints_of e r1]
    rfl
 |.non::q,ns,xs,h,r=>by cases h
 |.bl _::q,ns,xs,h,r=>by cases h
 |.str _::q,ns,xs,h,r=>by cases h
 |.tup _::q,ns,xs,h,r=>by cases h
 |.lst _::q,ns,xs,h,r=>by cases h
def Fz(K:FZ):R2:=λx y H Q=>(jq λi j=>.bl (decide (i<j))) x y H Q\/Mf K x y H Q
theorem oX{X:Cx}(hu:X.A.units+64<cLine):fH X (compareOp .Lt) (Fz X.K):=fH.or U7 (VF (by omega))
def bf:G2
 |.int i,.int j=>.ok (.bl (decide (i<j)),false)
 |.tup a,.tup b=>match intsOf a,intsOf b with
  |some ns,some ms=>.ok (.bl (HT.lexLt ns ms),false)
  |_,_=>.bad
 |_,_=>.bad
theorem Yg:g8 (aG K) (Fz K) bf:=λW x y a b H Q hw rx ry h=>by
 cases a <;> cases b <;> try exact h.elim
 ·rw[rx.int,ry.int]
  exact .inl ⟨_,_,rfl,rfl,h _ H (Same.refl _) (.gU (.bl _))⟩
 ·rename_i us ws
  dsimp only[bf]at h
  split at h
  ·rename_i ns ms e1 e2
   obtain⟨p,xs,rfl,q,r⟩:=rx.tup
   obtain⟨p',ys,rfl,q',r'⟩:=ry.tup
   have z1:=ints_of e1 r
   have z2:=ints_of e2 r'
   subst z1 z2
   exact .inr ⟨p,p',ns,ms,rfl,rfl,q.toK,q'.toK,h _ H (Same.refl _) (.gU (.bl _))⟩
  ·exact h.elim
noncomputable def aB:G2
 |.lst ts,.int i=>match cR ts i with
  |some t=>.ok (t,false)
  |none=>.bad
 |.tup ts,.int i=>match cR ts i with
  |some t=>.ok (t,false)
  |none=>.bad
 | .str z,.int i=>if z.length<=100000 then (match cR z.cps.toList i with
  |some c=>.ok (.str ⟨#[c]⟩,false)
  |none=>.bad)else .bad
 |_,_=>.bad
theorem Yh:g8 (aG K) (mK K) aB:=λW x y a b H Q hw rx ry h=>by
 cases a <;> cases b <;> try exact h.elim
 ·rename_i z i
  rw[rx.str,ry.int]
  dsimp only[aB]at h
  split at h
  ·rename_i e
   split at h
   ·rename_i c ec
    exact .inr (.inr ⟨z,i,c,rfl,rfl,big e,ec,h _ H (Same.refl _) (.gU (.str _))⟩)
   ·exact h.elim
  ·exact h.elim
 ·rename_i ts i
  rw[ry.int]
  dsimp only[aB]at h
  split at h
  ·rename_i t et
   obtain⟨p,xs,rfl,q,r⟩:=rx.tup
   obtain⟨v,ev,rv⟩:=r.cR et
   exact .inr (.inl ⟨p,xs,i,v,rfl,rfl,q.toK,ev,h _ H (Same.refl _) rv⟩)
  ·exact h.elim
 ·rename_i ts i
  rw[ry.int]
  dsimp only[aB]at h
  split at h
  ·rename_i t et
   obtain⟨p,xs,rfl,q,r⟩:=rx.lst
   obtain⟨v,ev,rv⟩:=r.cR et
   exact .inl ⟨p,xs,i,v,rfl,rfl,q.toK,ev,h _ H (Same.refl _) rv⟩
  ·exact h.elim
end
end L2
end
section
namespace L2
open PySem PySem.Spec PyProof.Rows
section
variable {K:FZ}{W:Addr->Prop}{σ : St}
theorem iT.step{H H' jK:Hp}(hw:∀b,W b->H b≠none)(s:cX W H' jK):∀{vs:List V} {rs:List Rv},iT K W σ H H' vs rs->iT K W σ H jK vs rs
 |_,_,.nil=>.nil
 |_,_,.cons h q=>.cons (h.step hw s) (iT.step hw s q)
theorem iT.back{G H H':Hp}(d:∀b,H b=none->G b=none):∀{vs:List V} {rs:List Rv},iT K W σ H H' vs rs->iT K W σ G H' vs rs
 |_,_,.nil=>.nil
 |_,_,.cons h q=>.cons (h.back d) (iT.back d q)
inductive qW(K:FZ)(W:Addr->Prop)(H:Hp):List V->List Tr->Prop
 |nil:qW K W H [] []
 |cons {v:V} {t:Tr} {vs:List V} {ts:List Tr} (h:Rp K W H v t) (q:qW K W H vs ts):qW K W H (v::vs) (t::ts)
def drs(ρ : En):List Rv->Rs (List Tr)
 | []=>.ok []
 |r::rs=>(dr ρ r).bind λt=>(drs ρ rs).bind λts=>.ok (t::ts)
theorem uL(ρ : En):∀(rs:List Rv) (c:Str),drs ρ rs ≠ .ex c
 | [],c=>by intro z; cases z
 |r::rs,c=>by
  unfold drs
  cases e:dr ρ r with
  |bad=>intro z; cases z
  |ex d=>exact(ju _ _ _ e).elim
  |ok t =>
   show(drs ρ rs).bind _≠_
   cases e2:drs ρ rs with
   |bad=>intro z; cases z
   |ex d=>exact(uL ρ rs d e2).elim
   |ok ts=>intro z; cases z
theorem jM{α β : Type}{r:Rs α}{f : α -> Rs β}{b : β}(h:r.bind f=.ok b):∃a,r=.ok a/\f a=.ok b:=by
 cases r with
 |bad=>cases h
 |ex c=>cases h
 |ok a=>exact⟨a,rfl,h⟩
theorem wg{t:Tx}{ρ : En}{H H':Hp}(e:aP t W ρ σ H')(hw:∀b,W b->H b≠none):∀{vs:List V} {rs:List Rv} {ts:List Tr},iT t.K W σ H H' vs rs->drs ρ rs=.ok ts->qW t.K W H' vs ts
 |_,_,_,.nil,q=>by cases q; exact .nil
 |_,_,_,.cons h r,q=>by
  unfold drs at q
  obtain⟨a,q1,q⟩:=jM q
  obtain⟨as,q2,q⟩:=jM q
  cases q
  exact .cons (jC e hw h q1) (wg e hw r q2)
def cls:List Rv->Rs (List Tr)
 | []=>.ok []
 |.v t _::rs=>(cls rs).bind λts=>.ok (t::ts)
 |.s _::_=>.bad
theorem wk:∀(rs:List Rv) (c:Str),cls rs ≠ .ex c
 | [],c=>by intro z; cases z
 |.v t fr::rs,c=>by
  unfold cls
  cases e2:cls rs with
  |bad=>intro z; cases z
  |ex d=>exact(wk rs d e2).elim
  |ok ts=>intro z; cases z
 |.s i::rs,c=>by intro z; cases z
theorem wu{H H':Hp}(hw:∀b,W b->H b≠none):∀{vs:List V} {rs:List Rv} {ts:List Tr},iT K W σ H H' vs rs->cls rs=.ok ts->aQ K (aU W H') vs ts
 |_,_,_,.nil,q=>by cases q; exact .nil
 |_,.v t fr::_,_,.cons h r,q=>by
  unfold cls at q
  obtain⟨as,q2,q⟩:=jM q
  cases q
  exact .cons (h.rep hw) (wu hw r q2)
 |_,.s i::_,_,.cons h r,q=>by cases q
end
section
variable {t:Tx}
def ao:AF:=λρ=>.ok ([],ρ)
def ak(f:EF)(g:AF):AF:=λρ=>(f ρ).bind λp=>(g p.2).bind λq=>.ok (p.1::q.1,q.2)
theorem fD:SA t mH ao:=λW ρ σ H Q e h=>h [] H e (cX.refl _ _) .nil
theorem cU{te:TE}{ta:TA}{f:EF}{g:AF}(h1:SE t te f)(h2:SA t ta g):SA t (ji te ta) (ak f g):=λW ρ σ H Q e h=>by
 refine h1 W ρ σ H _ e (Rs.cg (Rs.aR h) λp h v H1 e1 s1 v1=>?_)
 refine h2 W p.2 σ H1 _ e1 (Rs.cg (Rs.aR h) λq h vs H2 e2 s2 v2=>?_)
 exact h (v::vs) H2 e2 (s1.trans s2) (.cons (v1.1.step e.wn s2) (iT.back s1.dom v2))
def fK(g:AF):EF:=λρ=>(g ρ).bind λp=>(cls p.1).bind λts=>if ts.length<=1000 then .ok (.v (.lst ts) true,p.2)else .bad
def jj(g:AF):EF:=λρ=>(g ρ).bind λp=>(cls p.1).bind λts=>if ts.length<=1000 then .ok (.v (.tup ts) false,p.2)else .bad
theorem dO{α : Type}{r:Rs α}{EX:Str->Prop}{P : α -> Prop}(h:r.post EX P)(n:∀c,r ≠ .ex c):∃a,r=.ok a/\P a:=by
 cases r with
 |bad=>exact h.elim
 |ex c=>exact(n c rfl).elim
 |ok a=>exact⟨a,rfl,h⟩
theorem oY{ta:TA}{g:AF}(h1:SA t ta g):SE t (Lk ta) (fK g):=λW ρ σ H Q e h=>by
 refine h1 W ρ σ H _ e (Rs.cg (Rs.aR h) λp h vs H1 e1 s1 v1=>?_)
 obtain⟨ts,q,h⟩:=dO (Rs.aR h) (wk _)
 have r:=wu e.wn v1 q
 split at h
 ·rename_i hl
  refine⟨by rw[r.length]; exact Nat.le_trans hl (by decide),λz hz=>h _ _ (e1.grow (gK hz _)) (s1.trans (cX.of (gK hz _))) ?_⟩
  exact(iD.of (σ' := σ) e1 (gK hz _) (gq.new hz r)).back s1.dom
 ·exact h.elim
theorem Og{ta:TA}{g:AF}(h1:SA t ta g):SE t (Lj ta) (jj g):=λW ρ σ H Q e h=>by
 refine h1 W ρ σ H _ e (Rs.cg (Rs.aR h) λp h vs H1 e1 s1 v1=>?_)
 obtain⟨ts,q,h⟩:=dO (Rs.aR h) (wk _)
 have r:=wu e.wn v1 q
 split at h
 ·rename_i hl
  refine⟨by rw[r.length]; exact Nat.le_trans hl (by decide),λz hz=>h _ _ (e1.grow (gK hz _)) (s1.trans (cX.of (gK hz _))) ?_⟩
  exact .low ((gq.newT (σ := σ) (W:=W) e1.wl hz r))
 ·exact h.elim
abbrev G1:=Tr->Rs (Tr × Bool)
def ql(K:FZ)(r:V->Hp->VK->Prop)(g:G1):Prop:=∀W x a H Q,(∀b,W b->Lt H b)->Rp K W H x a->(g a).post (λ_=>False) (λp=>∀v H',Same H H'->gq K W [] H H' v (.v p.1 p.2)->Q v H')->r x H Q
def sW(g:G1)(fa:EF):EF:=λρ=>(fa ρ).bind λp=>(dr p.2 p.1).bind λa=>(g a).bind λz=>.ok (.v z.1 z.2,p.2)
theorem Yi{r:V->Hp->VK->Prop}{g:G1}{ta:TE}{fa:EF}(o:ql t.K r g)(ng:∀a c,g a ≠ .ex c)(ha:SE t ta fa):SE t (yN r ta) (sW g fa):=λW ρ σ H Q e h=>by
 refine ha W ρ σ H _ e (Rs.cg (Rs.aR h) λp h x H1 e1 s1 v1=>?_)
 obtain⟨a,k1,h⟩:=dO (Rs.aR h) (ju _ _)
 refine o W x a H1 Q e1.wl (jC e1 e.wn v1.1 k1) (Rs.cg (jT (Rs.aR h) (ng a)) λz h v H2 s2 v2=>?_)
 exact h v H2 (e1.grow s2) (s1.trans (cX.of s2)) ((iD.of e1 s2 v2).back s1.dom)
def aO:Tr->Rs Bool
 |.bl b=>.ok b
 |_=>.bad
theorem Oh(a:Tr)(c:Str):aO a ≠ .ex c:=by cases a <;> (intro z; cases z)
def bY(fa:EF):BF:=λρ=>(fa ρ).bind λp=>(dr p.2 p.1).bind λa=>(aO a).bind λb=>.ok (b,p.2)
theorem Oi{K:FZ}{W:Addr->Prop}{H:Hp}{v:V}{a:Tr}{b:Bool}(h:Rp K W H v a)(q:aO a=.ok b):v=.bl b:=by
 cases a <;> cases q
 exact h.bl
theorem jD{ta:TE}{fa:EF}(ha:SE t ta fa):ST t (Dv ta) (bY fa):=λW ρ σ H Q e h=>by
 refine ha W ρ σ H _ e (Rs.cg (Rs.aR h) λp h x H1 e1 s1 v1=>?_)
 obtain⟨a,k1,h⟩:=dO (Rs.aR h) (ju _ _)
 obtain⟨b,k2,h⟩:=dO (Rs.aR h) (Oh _)
 exact⟨b,Oi (jC e1 e.wn v1.1 k1) k2,h H1 e1 s1⟩
def bh:Tr->Rs Bool
 |.non=>.ok false
 |.bl b=>.ok b
 |.int i=>.ok (i != 0)
 |.lst ts=>.ok (!ts.isEmpty)
 |.tup ts=>.ok (!ts.isEmpty)
 |.str x=>if x.length<=100000 then .ok ((x.length:Int) != 0)else .bad
 |.dD _=>.bad
theorem Oj(a:Tr)(c:Str):bh a ≠ .ex c:=by
 cases a <;> try(intro z; cases z; done)
 dsimp only[bh]
 split <;> (intro z; cases z)
theorem Ol{α β : Type}{a:List α}{b:List β}(h:a.length=b.length):a.isEmpty=b.isEmpty:=by
 cases a <;> cases b <;> first|rfl|cases h
theorem Yj{K:FZ}{W:Addr->Prop}{H:Hp}{v:V}{a:Tr}{b:Bool}(h:Rp (aG K) W H v a)(q:bh a=.ok b):vM K v H b:=by
 cases a with
 |non=>cases q; rw[h.non]; rfl
 |bl i=>cases q; rw[h.bl]; rfl
 |int i=>cases q; rw[h.int]; rfl
 |str i =>
  dsimp only[bh]at q
  split at q
  ·rename_i e
   cases q
   rw[h.str]
   exact⟨big e,rfl⟩
  ·cases q
 |tup ts =>
  cases q
  obtain⟨p,xs,rfl,q,r⟩:=h.tup
  exact .inr (.inl ⟨xs,q.toK,by rw[Ol r.length]⟩)
 |lst ts =>
  cases q
  obtain⟨p,xs,rfl,q,r⟩:=h.lst
  exact .inl ⟨xs,q.toK,by rw[Ol r.length]⟩
 |dD c=>cases q
def dN(fa:EF):BF:=λρ=>(fa ρ).bind λp=>(dr p.2 p.1).bind λa=>(bh a).bind λb=>.ok (b,p.2)
def Yk(K:FZ)(ta:TE):TT:=λσ H Q=>ta σ H λx H'=>∃k,vM K x H' k/\Q k H'
theorem nR{K:FZ}(hK:t.K=aG K){ta:TE}{fa:EF}(ha:SE t ta fa):ST t (Yk K ta) (dN fa):=λW ρ σ H Q e h=>by
 refine ha W ρ σ H _ e (Rs.cg (Rs.aR h) λp h x H1 e1 s1 v1=>?_)
 obtain⟨a,k1,h⟩:=dO (Rs.aR h) (ju _ _)
 obtain⟨b,k2,h⟩:=dO (Rs.aR h) (Oj _)
 have r:=jC e1 e.wn v1.1 k1
 rw[hK]at r
 exact⟨b,Yj r k2,h H1 e1 s1⟩
def qX(f g:BF):BF:=λρ=>(f ρ).bind λp=>if p.1=true then g p.2 else .ok (false,p.2)
def f9(f g:BF):BF:=λρ=>(f ρ).bind λp=>if p.1=true then .ok (true,p.2)else g p.2
def eE(f:BF):BF:=λρ=>(f ρ).bind λp=>.ok (!p.1,p.2)
theorem Om{ta tb:TT}{f g:BF}(ha:ST t ta f)(hb:ST t tb g):ST t (Kq ta tb) (qX f g):=λW ρ σ H Q e h=>by
 refine ha W ρ σ H _ e (Rs.cg (Rs.aR h) λp h H1 e1 s1=>?_)
 split at h
 ·rename_i c
  refine if_pos c▸hb W p.2 σ H1 _ e1 (Rs.cg h λq h H2 e2 s2=>h H2 e2 (s1.trans s2))
 ·rename_i c
  exact if_neg c▸h H1 e1 s1
theorem sX{ta tb:TT}{f g:BF}(ha:ST t ta f)(hb:ST t tb g):ST t (Kr ta tb) (f9 f g):=λW ρ σ H Q e h=>by
 refine ha W ρ σ H _ e (Rs.cg (Rs.aR h) λp h H1 e1 s1=>?_)
 split at h
 ·rename_i c
  exact if_pos c▸h H1 e1 s1
 ·rename_i c
  refine if_neg c▸hb W p.2 σ H1 _ e1 (Rs.cg h λq h H2 e2 s2=>h H2 e2 (s1.trans s2))
theorem nT{ta:TT}{f:BF}(ha:ST t ta f):ST t (Ks ta) (eE f):=λW ρ σ H Q e h =>
 ha W ρ σ H _ e (Rs.cg (Rs.aR h) λp h H1 e1 s1=>h H1 e1 s1)
def eB(b:Bool):Rv:=.v (.bl b) false
def jw(f g:EF):EF:=λρ=>(bY f ρ).bind λp=>if p.1=true then g p.2 else .ok (eB false,p.2)
def Yl(f g:EF):EF:=λρ=>(bY f ρ).bind λp=>if p.1=true then .ok (eB true,p.2)else g p.2
def zL(f:EF):EF:=λρ=>(bY f ρ).bind λp=>.ok (eB (!p.1),p.2)
theorem Oo{ta tb:TE}{f g:EF}(ha:SE t ta f)(hb:SE t tb g):SE t (Ku ta tb) (jw f g):=λW ρ σ H Q e h=>by
 refine jD ha W ρ σ H _ e (Rs.cg (Rs.aR h) λp h H1 e1 s1=>?_)
 split at h
 ·rename_i c
  refine if_pos c▸hb W p.2 σ H1 _ e1 (Rs.cg h λq h v H2 e2 s2 v2=>h v H2 e2 (s1.trans s2) (v2.back s1.dom))
 ·rename_i c
  exact if_neg c▸h _ H1 e1 s1 (.low (.bl false))
theorem Ym{ta:TE}{f:EF}(ha:SE t ta f):SE t (Ky ta) (zL f):=λW ρ σ H Q e h =>
 jD ha W ρ σ H _ e (Rs.cg (Rs.aR h) λp h H1 e1 s1=>h _ H1 e1 s1 (.low (.bl _)))
def FJ(c:BF)(f g:EF):EF:=λρ=>(c ρ).bind λp=>if p.1=true then f p.2 else g p.2
theorem Yn{tc:TT}{ta tb:TE}{c:BF}{f g:EF}(hc:ST t tc c)(ha:SE t ta f)(hb:SE t tb g):SE t (KC tc ta tb) (FJ c f g):=λW ρ σ H Q e h=>by
 refine hc W ρ σ H _ e (Rs.cg (Rs.aR h) λp h H1 e1 s1=>?_)
 split at h
 ·rename_i d
  refine if_pos d▸ha W p.2 σ H1 _ e1 (Rs.cg h λq h v H2 e2 s2 v2=>h v H2 e2 (s1.trans s2) (v2.back s1.dom))
 ·rename_i d
  refine if_neg d▸hb W p.2 σ H1 _ e1 (Rs.cg h λq h v H2 e2 s2 v2=>h v H2 e2 (s1.trans s2) (v2.back s1.dom))
end
end L2
end
section
namespace L2
open PySem PySem.Spec PyProof.Rows
section
variable {t:Tx}
noncomputable def qY(g g':G2)(fa fb fc:EF):EF:=λρ=>(fa ρ).bind λp=>(fb p.2).bind λq=>(dr q.2 p.1).bind λa=>(dr q.2 q.1).bind λb=>(g a b).bind λz=>(aO z.1).bind λk =>
 if k=true then(fc q.2).bind λs=>(dr s.2 q.1).bind λb=>(dr s.2 s.1).bind λc=>(g' b c).bind λz=>.ok (.v z.1 z.2,s.2)else .ok (eB false,q.2)
theorem Yo{r r':R2}{g g':G2}{ta tb tc:TE}{fa fb fc:EF}(o:g8 t.K r g)(o':g8 t.K r' g')(ng:∀a b c,g a b ≠ .ex c)(Yp:∀a b c,g' a b ≠ .ex c)(ha:SE t ta fa)(hb:SE t tb fb)(hc:SE t tc fc):SE t (yR r r' ta tb tc) (qY g g' fa fb fc):=λW ρ σ H Q e h=>by
 refine ha W ρ σ H _ e (Rs.cg (Rs.aR h) λp h x H1 e1 s1 v1=>?_)
 refine hb W p.2 σ H1 _ e1 (Rs.cg (Rs.aR h) λq h y H2 e2 s2 v2=>?_)
 obtain⟨a,k1,h⟩:=dO (Rs.aR h) (ju _ _)
 obtain⟨b,k2,h⟩:=dO (Rs.aR h) (ju _ _)
 refine o W x y a b H2 _ e2.wl (jC e2 e.wn (v1.1.step e.wn s2) k1) (jC e2 e1.wn v2.1 k2) (Rs.cg (jT (Rs.aR h) (ng a b)) λz h v H3 s3 v3=>?_)
 obtain⟨k,k3,h⟩:=dO (Rs.aR h) (Oh _)
 have e3:=e2.grow s3
 have b3:v=.bl k:=Oi (.inl (gq.rep (σ:=[]) e2.wn v3)) k3
 refine⟨k,b3,?_⟩
 split at h
 ·rename_i c
  rw[if_pos c]
  refine hc W q.2 σ H3 _ e3 (Rs.cg (Rs.aR h) λu h w H4 e4 s4 v4=>?_)
  obtain⟨b',k4,h⟩:=dO (Rs.aR h) (ju _ _)
  obtain⟨c',k5,h⟩:=dO (Rs.aR h) (ju _ _)
  refine o' W y w b' c' H4 _ e4.wl (jC e4 e1.wn ((v2.1.step e1.wn (cX.of s3)).step e1.wn s4) k4) (jC e4 e3.wn v4.1 k5) (Rs.cg (jT (Rs.aR h) (Yp b' c')) λz h v H5 s5 v5=>?_)
  have st:cX W H H4:=(s1.trans (s2.trans (cX.of s3))).trans s4
  exact h v H5 (e4.grow s5) (st.trans (cX.of s5)) ((iD.of e4 s5 v5).back st.dom)
 ·rename_i c
  rw[if_neg c]
  exact h _ H3 e3 ((s1.trans s2).trans (cX.of s3)) (.low (.bl false))
abbrev OF:=En->Rs (Option Int × En)
def SO(t:Tx)(te:TO)(f:OF):Prop:=∀W ρ σ H Q,aP t W ρ σ H->(f ρ).post t.EX (λp=>∀H',aP t W p.2 σ H'->cX W H H'->Q p.1 H')->te σ H Q
def oZ:OF:=λρ=>.ok (none,ρ)
theorem Oq:SO t LC oZ:=λW ρ σ H Q e h=>h H e (cX.refl _ _)
def bU:Tr->Rs Int
 |.int i=>.ok i
 |_=>.bad
theorem Ot(a:Tr)(c:Str):bU a ≠ .ex c:=by cases a <;> (intro z; cases z)
theorem Ou{K:FZ}{W:Addr->Prop}{H:Hp}{v:V}{a:Tr}{b:Int}(h:Rp K W H v a)(q:bU a=.ok b):v=.int b:=by
 cases a <;> cases q
 exact h.int
def o7(fa:EF):OF:=λρ=>(fa ρ).bind λp=>(dr p.2 p.1).bind λa=>(bU a).bind λb=>.ok (some b,p.2)
theorem Ov{ta:TE}{fa:EF}(ha:SE t ta fa):SO t (LK ta) (o7 fa):=λW ρ σ H Q e h=>by
 refine ha W ρ σ H _ e (Rs.cg (Rs.aR h) λp h x H1 e1 s1 v1=>?_)
 obtain⟨a,k1,h⟩:=dO (Rs.aR h) (ju _ _)
 obtain⟨b,k2,h⟩:=dO (Rs.aR h) (Ot _)
 exact⟨b,Ou (jC e1 e.wn v1.1 k1) k2,h H1 e1 s1⟩
def cut{α : Type}(xs:List α)(lo hi:Option Int):List α := (xs.drop (HT.dF xs.length 0 lo)).take (HT.dF xs.length xs.length hi-HT.dF xs.length 0 lo)
theorem aQ.cut{K:FZ}{H:Hp}{xs:List V}{ts:List Tr}(r:aQ K H xs ts)(lo hi:Option Int):aQ K H (qL xs lo hi) (L2.cut ts lo hi):=by
 unfold qL L2.cut
 rw[r.length]
 exact(r.drop _).take _
def Ow(K:FZ):V->Option Int->Option Int->Hp->VK->Prop:=λx lo hi H Q=>Mq K x lo hi H Q\/Ma K x lo hi H Q\/Nh x lo hi H Q
theorem FN{X:Cx}:nC X (Ow X.K):=nC.or V3 (nC.or VD WD)
noncomputable def nU(lo hi:Option Int):G1
 |.lst ts=>.ok (.lst (cut ts lo hi),true)
 |.tup ts=>if ¬(HT.dF ts.length 0 lo=0/\HT.dF ts.length ts.length hi=ts.length)then .ok (.tup (cut ts lo hi),false)else .bad
 |.str z=>if z.length<=100000 then .ok (.str (Txt.slice z lo hi),false)else .bad
 |_=>.bad
theorem Yq(lo hi:Option Int)(a:Tr)(c:Str):nU lo hi a ≠ .ex c:=by
 cases a <;> dsimp only[nU] <;> (try split) <;> (intro z; cases z)
def o8(fa:EF)(fl fh:OF):EF:=λρ=>(fa ρ).bind λp=>(fl p.2).bind λl=>(fh l.2).bind λh=>(dr h.2 p.1).bind λa=>(nU l.1 h.1 a).bind λz=>.ok (.v z.1 z.2,h.2)
theorem Ox{K:FZ}(hK:t.K=aG K){ta:TE}{tl th:TO}{fa:EF}{fl fh:OF}(ha:SE t ta fa)(hl:SO t tl fl)(hh:SO t th fh):SE t (LQ (Ow K) ta tl th) (o8 fa fl fh):=λW ρ σ H Q e h=>by
 refine ha W ρ σ H _ e (Rs.cg (Rs.aR h) λp h x H1 e1 s1 v1=>?_)
 refine hl W p.2 σ H1 _ e1 (Rs.cg (Rs.aR h) λl h H2 e2 s2=>?_)
 refine hh W l.2 σ H2 _ e2 (Rs.cg (Rs.aR h) λu h H3 e3 s3=>?_)
 obtain⟨a,k1,h⟩:=dO (Rs.aR h) (ju _ _)
 obtain⟨z,k2,h⟩:=dO (Rs.aR h) (Yq _ _ _)
 have st:cX W H H3:=s1.trans (s2.trans s3)
 have rx:=jC e3 e.wn (v1.1.step e.wn (s2.trans s3)) k1
 rw[hK]at rx
 cases a with
 |dD c=>cases k2
 |lst ts =>
  cases k2
  obtain⟨b,xs,rfl,q,r⟩:=rx.lst
  refine .inl ⟨b,xs,rfl,q.toK,λy hy=>h _ _ (e3.grow (gK hy _)) (st.trans (cX.of (gK hy _))) ?_⟩
  rw[<-hK]at r
  exact(iD.of (σ' := σ) e3 (gK hy _) (gq.new hy (r.cut _ _))).back st.dom
 |tup ts =>
  dsimp only[nU]at k2
  split at k2
  ·rename_i c
   cases k2
   obtain⟨b,xs,rfl,q,r⟩:=rx.tup
   refine .inr (.inl ⟨b,xs,rfl,q.toK,by rw[r.length]; exact c,λy hy=>h _ _ (e3.grow (gK hy _)) (st.trans (cX.of (gK hy _))) ?_⟩)
   rw[<-hK]at r
   exact .low (gq.newT (σ := σ) (W:=W) e3.wl hy (r.cut _ _))
  ·cases k2
 |str i =>
  dsimp only[nU]at k2
  split at k2
  ·rename_i c
   cases k2
   rw[rx.str]
   exact .inr (.inr ⟨i,rfl,big c,h _ H3 e3 st (.low (.str _))⟩)
  ·cases k2
 |non=>cases k2
 |bl i=>cases k2
 |int i=>cases k2
abbrev GN:=List Tr->Rs (Tr × Bool)
def FQ(K:FZ)(r:List V->Hp->VK->Prop)(g:GN):Prop:=∀W xs as H Q,(∀b,W b->Lt H b)->qW K W H xs as->(g as).post (λ_=>False) (λp=>∀v H',Same H H'->gq K W [] H H' v (.v p.1 p.2)->Q v H')->r xs H Q
def bw(g:GN)(fa:AF):EF:=λρ=>(fa ρ).bind λp=>(drs p.2 p.1).bind λas=>(g as).bind λz=>.ok (.v z.1 z.2,p.2)
theorem qZ{r:List V->Hp->VK->Prop}{g:GN}{ta:TA}{fa:AF}(o:FQ t.K r g)(ng:∀as c,g as ≠ .ex c)(ha:SA t ta fa):SE t (jr r ta) (bw g fa):=λW ρ σ H Q e h=>by
 refine ha W ρ σ H _ e (Rs.cg (Rs.aR h) λp h xs H1 e1 s1 v1=>?_)
 obtain⟨as,k1,h⟩:=dO (Rs.aR h) (uL _ _)
 refine o W xs as H1 Q e1.wl (wg e1 e.wn v1 k1) (Rs.cg (jT (Rs.aR h) (ng as)) λz h v H2 s2 v2=>?_)
 exact h v H2 (e1.grow s2) (s1.trans (cX.of s2)) ((iD.of e1 s2 v2).back s1.dom)
def g1(g:G1):GN
 | [a]=>g a
 |_=>.bad
theorem uM{g:G1}(h:∀a c,g a ≠ .ex c)(as:List Tr)(c:Str):g1 g as ≠ .ex c:=by
 match as with
 | []=>intro z; cases z
 | [a]=>exact h a c
 |_::_::_=>intro z; cases z
theorem uN{K:FZ}{r:List V->Hp->VK->Prop}{g:G1}(h:ql K (λx=>r [x]) g):FQ K r (g1 g):=λW xs as H Q hw rs q=>by
 cases rs with
 |nil=>exact q.elim
 |cons h1 r1 =>
  cases r1 with
  |nil=>exact h W _ _ H Q hw h1 q
  |cons _ _=>exact q.elim
def g2(g:G2):GN
 | [a,b]=>g a b
 |_=>.bad
theorem Oz{g:G2}(h:∀a b c,g a b ≠ .ex c)(as:List Tr)(c:Str):g2 g as ≠ .ex c:=by
 match as with
 | []=>intro z; cases z
 | [a]=>intro z; cases z
 | [a,b]=>exact h a b c
 |_::_::_::_=>intro z; cases z
theorem OD{K:FZ}{r:List V->Hp->VK->Prop}{g:G2}(h:g8 K (λx y=>r [x,y]) g):FQ K r (g2 g):=λW xs as H Q hw rs q=>by
 cases rs with
 |nil=>exact q.elim
 |cons h1 r1 =>
  cases r1 with
  |nil=>exact q.elim
  |cons h2 r2 =>
   cases r2 with
   |nil=>exact h W _ _ _ _ H Q hw h1 h2 q
   |cons _ _=>exact q.elim
end
section
variable {K:FZ}
def FT(K:FZ):List V->Hp->VK->Prop:=λxs H Q=>(∃p ys,xs=[.ref p]/\(eF K H p ys\/fM K H p ys)/\Q (.int ys.length) H)\/(∃z,xs=[.str z]/\z.length<=sizeLine/\Q (.int z.length) H)
theorem jk{X:Cx}:iK X (.builtin "len") (FT X.K):=iK.or V4 V5
def aJ:G1
 |.lst ts=>.ok (.int ts.length,false)
 |.tup ts=>.ok (.int ts.length,false)
 |.str z=>if z.length<=100000 then .ok (.int z.length,false)else .bad
 |_=>.bad
theorem Yr:ql (aG K) (λx=>FT K [x]) aJ:=λW x a H Q hw rx h=>by
 cases a <;> try exact h.elim
 ·rename_i z
  dsimp only[aJ]at h
  split at h
  ·rename_i e
   rw[rx.str]
   exact .inr ⟨z,rfl,big e,h _ H (Same.refl _) (.gU (.int _))⟩
  ·exact h.elim
 ·obtain⟨p,xs,rfl,q,r⟩:=rx.tup
  refine .inl ⟨p,xs,rfl,.inr q.toK,?_⟩
  rw[r.length]
  exact h _ H (Same.refl _) (.gU (.int _))
 ·obtain⟨p,xs,rfl,q,r⟩:=rx.lst
  refine .inl ⟨p,xs,rfl,.inl q.toK,?_⟩
  rw[r.length]
  exact h _ H (Same.refl _) (.gU (.int _))
def dW:G1
 |.int i=>.ok (.int (if i<0 then -i else i),false)
 |_=>.bad
theorem Ys:ql K (λx H Q=>∃i,[x]=[V.int i]/\Q (.int (if i<0 then -i else i)) H) dW:=λW x a H Q hw rx h=>by
 cases a <;> try exact h.elim
 rw[rx.int]
 exact⟨_,rfl,h _ H (Same.refl _) (.gU (.int _))⟩
def bG:G1
 |.lst ts=>.ok (.lst ts,true)
 |.tup ts=>.ok (.lst ts,true)
 |_=>.bad
theorem Yt:ql (aG K) (λx H Q=>∃p ys,[x]=[V.ref p]/\(eF K H p ys\/fM K H p ys)/\∀l,H l=none->Q (.ref l) (upd H l (.lst ys))) bG:=λW x a H Q hw rx h=>by
 cases a <;> try exact h.elim
 ·obtain⟨p,xs,rfl,q,r⟩:=rx.tup
  exact⟨p,xs,rfl,.inr q.toK,λz hz=>h _ _ (gK hz _) (.new hz r)⟩
 ·obtain⟨p,xs,rfl,q,r⟩:=rx.lst
  exact⟨p,xs,rfl,.inl q.toK,λz hz=>h _ _ (gK hz _) (.new hz r)⟩
def bN:G1
 |.lst ts=>.ok (.tup ts,false)
 |.tup ts=>.ok (.tup ts,false)
 |_=>.bad
theorem Yu:ql (aG K) (λx H Q=>∃p ys,[x]=[V.ref p]/\((eF K H p ys/\∀l,H l=none->Q (.ref l) (upd H l (.tup ys)))\/(fM K H p ys/\Q (.ref p) H))) bN:=λW x a H Q hw rx h=>by
 cases a <;> try exact h.elim
 ·have rt:=rx.Oc
  obtain⟨p,xs,rfl,q,r⟩:=rx.tup
  exact⟨p,xs,rfl,.inr ⟨q.toK,h _ H (Same.refl _) rt⟩⟩
 ·obtain⟨p,xs,rfl,q,r⟩:=rx.lst
  exact⟨p,xs,rfl,.inl ⟨q.toK,λz hz=>h _ _ (gK hz _) (.newT hw hz r)⟩⟩
def kE:G1:=λt=>if iQ t=true/\blk t<=8000/\dep t<=40 then .ok (.str (txt t),false)else .bad
theorem Yv:ql (aG K) (λx=>Ew K [x]) kE:=λW x a H Q hw rx h=>by
 unfold kE at h
 split at h
 ·rename_i e
  exact⟨x,a,rfl,rx.rep.toK,e.1,e.2.1,e.2.2,h _ H (Same.refl _) (.gU (.str _))⟩
 ·exact h.elim
def dJ:G2
 |.int i,.int j=>.ok (.int (if j<i then j else i),false)
 |_,_=>.bad
def dM:G2
 |.int i,.int j=>.ok (.int (if j > i then j else i),false)
 |_,_=>.bad
theorem Yw:g8 K (λx y H Q=>∃i j,[x,y]=[V.int i,V.int j]/\Q (.int (if j<i then j else i)) H) dJ:=λW x y a b H Q hw rx ry h=>by
 cases a <;> cases b <;> try exact h.elim
 rw[rx.int,ry.int]
 exact⟨_,_,rfl,h _ H (Same.refl _) (.gU (.int _))⟩
theorem Yx:g8 K (λx y H Q=>∃i j,[x,y]=[V.int i,V.int j]/\Q (.int (if j > i then j else i)) H) dM:=λW x y a b H Q hw rx ry h=>by
 cases a <;> cases b <;> try exact h.elim
 rw[rx.int,ry.int]
 exact⟨_,_,rfl,h _ H (Same.refl _) (.gU (.int _))⟩
def sY:List Tr->Option (List Bool)
 | []=>some []
 |.bl i::r=>(sY r).map (i :: ·)
 |_::_=>none
theorem OJ{H:Hp}:∀{ts:List Tr} {ns:List Bool} {xs:List V},sY ts=some ns->aQ K H xs ts->xs=ns.map V.bl
 | [],ns,xs,h,r=>by cases h; cases r; rfl
 |.bl i::q,ns,xs,h,r=>by
  unfold sY at h
  cases e:sY q with
  |none=>rw[e]at h; cases h
  |some ms =>
   rw[e]at h
   cases h
   cases r with
   |cons h1 r1 =>
    cases h1
    rw[OJ e r1]
    rfl
 |.non::q,ns,xs,h,r=>by cases h
 |.int _::q,ns,xs,h,r=>by cases h
 |.str _::q,ns,xs,h,r=>by cases h
 |.tup _::q,ns,xs,h,r=>by cases h
 |.lst _::q,ns,xs,h,r=>by cases h
def cZ:G1
 |.lst ts=>match sY ts with
  |some bs=>.ok (.bl (bs.all id),false)
  |none=>.bad
 |_=>.bad
theorem Yy:ql (aG K) (λx=>Em K [x]) cZ:=λW x a H Q hw rx h=>by
 cases a <;> try exact h.elim
 dsimp only[cZ]at h
 split at h
 ·rename_i bs e
  obtain⟨p,xs,rfl,q,r⟩:=rx.lst
  have z:=OJ e r
  subst z
  exact⟨p,bs,rfl,q.toK,h _ H (Same.refl _) (.gU (.bl _))⟩
 ·exact h.elim
def gJ(c:Ty)(fa:EF):EF:=λρ=>(fa ρ).bind λp=>(dr p.2 p.1).bind λa=>.ok (eB (cV a c),p.2)
theorem wz{t:Tx}(hK:t.K=aG K)(c:Ty){ta:TE}{fa:EF}(ha:SE t ta fa):SE t (jr (zu K) (ji ta (ji (tC (.ty c.name)) mH))) (gJ c fa):=λW ρ σ H Q e h=>by
 refine ha W ρ σ H _ e (Rs.cg (Rs.aR h) λp h x H1 e1 s1 v1=>?_)
 obtain⟨a,k1,h⟩:=dO (Rs.aR h) (ju _ _)
 have r:=jC e1 e.wn v1.1 k1
 rw[hK]at r
 exact⟨x,a,c,rfl,r.rep.toK,h _ H1 e1 s1 (.low (.bl _))⟩
end
end L2
end
section
namespace L2
open PySem PySem.Spec PyProof.Rows
inductive Fl where
 |nx|rt (T:Tr) (fr:Bool)|bk|ct
abbrev SF:=En->Rs (Fl × En)
def iU(W:Addr->Prop)(H:Hp)(W':Addr->Prop)(H':Hp):Prop:=∀b o,¬W b->H b=some o->¬W' b/\H' b=some o
theorem iU.refl(W:Addr->Prop)(H:Hp):iU W H W H:=λ_ _ n h=>⟨n,h⟩
theorem iU.trans{W W1 W2:Addr->Prop}{H H1 H2:Hp}(a:iU W H W1 H1)(b:iU W1 H1 W2 H2):iU W H W2 H2:=λc o n h=>by
 obtain⟨n1,h1⟩:=a c o n h
 exact b c o n1 h1
theorem cX.nxt{W:Addr->Prop}{H H':Hp}(s:cX W H H'):iU W H W H':=λb o n h=>⟨n,s.keep b o n h⟩
theorem iU.same{W W':Addr->Prop}{H H':Hp}(a:iU W H W' H'):Same (aU W H) (aU W' H'):=λb o h=>by
 obtain⟨n,h⟩:=jL h
 obtain⟨n',h'⟩:=a b o n h
 rw[gG n']
 exact h'
def VR(t:Tx)(H':Hp)(v:V)(T:Tr):Bool->Prop
 |false=>Rep t.K (aU t.Z H') v T
 |true=>∃a xs ts,v=.ref a/\T=.lst ts/\t.H0 a=none/\H' a=some (.lst xs)/\aQ t.K (off a (aU t.Z H')) xs ts
noncomputable def lR(t:Tx)(W:Addr->Prop)(H:Hp)(D:Ends)(p:Fl × En):Prop:=match p.1 with
 |.nx=>∀W' σ' H',aP t W' p.2 σ' H'->iU W H W' H'->D.nx σ' H'
 |.rt T fr=>∀v W' σ' H',aP t W' p.2 σ' H'->VR t H' v T fr->D.rt v H'
 |.bk=>∀W' σ' H',aP t W' p.2 σ' H'->iU W H W' H'->D.bk σ' H'
 |.ct=>∀W' σ' H',aP t W' p.2 σ' H'->iU W H W' H'->D.ct σ' H'
def SS(t:Tx)(ts:TS)(f:SF):Prop:=∀W ρ σ H D,aP t W ρ σ H->(f ρ).post t.EX (lR t W H D)->ts D σ H
theorem lR.back{t:Tx}{W W':Addr->Prop}{H H':Hp}{D:Ends}{p:Fl × En}(h:lR t W H D p)(n:iU W H W' H'):lR t W' H' D p:=by
 obtain⟨fl,ρ⟩:=p
 cases fl with
 |nx=>exact λW2 σ2 H2 e m=>h W2 σ2 H2 e (n.trans m)
 |rt T fr=>exact h
 |bk=>exact λW2 σ2 H2 e m=>h W2 σ2 H2 e (n.trans m)
 |ct=>exact λW2 σ2 H2 e m=>h W2 σ2 H2 e (n.trans m)
section
variable {t:Tx}
def bV:SF:=λρ=>.ok (.nx,ρ)
theorem jE:SS t KJ bV:=λW ρ σ H D e h=>h W σ H e (iU.refl _ _)
def aC(f g:SF):SF:=λρ=>(f ρ).bind λp=>match p.1 with
 |.nx=>g p.2
 |fl=>.ok (fl,p.2)
theorem gw{ta tb:TS}{f g:SF}(h1:SS t ta f)(h2:SS t tb g):SS t (KN ta tb) (aC f g):=λW ρ σ H D e h=>by
 refine h1 W ρ σ H _ e (Rs.cg (Rs.aR h) λp h=>?_)
 obtain⟨fl,ρ1⟩:=p
 cases fl with
 |nx=>exact λW1 σ1 H1 e1 n1=>h2 W1 ρ1 σ1 H1 D e1 (Rs.cg h λq h=>h.back n1)
 |rt T fr=>exact h
 |bk=>exact h
 |ct=>exact h
theorem get_set{α : Type}{l:List α}{i j:Nat}{a b : α}(h:(l.set i a)[j]?=some b):(j=i/\b=a/\i<l.length)\/(j≠i/\l[j]?=some b):=by
 by_cases e:i=j
 ·subst e
  rw[List.getElem?_set_self']at h
  cases q:l[i]? with
  |none=>rw[q]at h; cases h
  |some c =>
   rw[q]at h
   cases h
   exact .inl ⟨rfl,rfl,(List.getElem?_eq_some_iff.mp q).1⟩
 ·rw[List.getElem?_set_ne e]at h
  exact .inr ⟨Ne.symm e,h⟩
theorem sZ{α : Type}{l:List α}{i:Nat}{a : α}(h:i<l.length):(l.set i a)[i]?=some a:=by
 rw[List.getElem?_set_self' ,List.getElem?_eq_getElem h]
 rfl
theorem aP.wA{W:Addr->Prop}{ρ : En}{σ : St}{H:Hp}{i:Nat}{v:V}{T:Tr}(e:aP t W ρ σ H)(r:Rep t.K (aU W H) v T):aP t W (ρ.set i (.sh T)) (σ.set i (some v)) H:=by
 have mu:∀j,Mu (ρ.set i (.sh T)) j->j≠i/\Mu ρ j:=λj h=>by
  obtain⟨ts,h|h⟩:=h <;> rcases get_set h with⟨rfl,z,_⟩|⟨ne,h⟩
  ·cases z
  ·exact⟨ne,ts,.inl h⟩
  ·cases z
  ·exact⟨ne,ts,.inr h⟩
 have fW:∀j us,(ρ.set i (.sh T))[j]?=some (.dp us)->j≠i/\ρ[j]?=some (.dp us):=λj us h=>by
  rcases get_set h with⟨rfl,z,_⟩|⟨ne,h⟩
  ·cases z
  ·exact⟨ne,h⟩
 obtain⟨F,e⟩:=e
 refine⟨F,by rw[List.length_set,List.length_set]; exact e.len,e.zw,e.z0,e.wl,e.f0,e.n0,λj u h=>?_,λj ts h=>?_,λj ts h=>?_,λj k a h1 h2 q1 q2=>?_,e.pn,λj a m q=>e.pd j a (mu j m).2 (by rw[List.getElem?_set_ne (Ne.symm (mu j m).1)]at q; exact q),
  λj us h=>?_,λj k us ws n h1 h2=>e.dd j k us ws n (fW j us h1).2 (fW k ws h2).2,λj k us c h1 m q=>e.dm j k us c (fW j us h1).2 (mu k m).2 (by rw[List.getElem?_set_ne (Ne.symm (mu k m).1)]at q; exact q),λj us h=>e.db j us (fW j us h).2,e.tab⟩
 ·rcases get_set h with⟨rfl,z,l⟩|⟨ne,h⟩
  ·cases z
   exact⟨v,sZ (by rw[<-e.len]; exact l),r⟩
  ·obtain⟨w,h1,h2⟩:=e.sh j u h
   exact⟨w,by rw[List.getElem?_set_ne (Ne.symm ne)]; exact h1,h2⟩
 ·rcases get_set h with⟨rfl,z,l⟩|⟨ne,h⟩
  ·cases z
  ·obtain⟨a,xs,h1,h2⟩:=e.ow j ts h
   exact⟨a,xs,by rw[List.getElem?_set_ne (Ne.symm ne)]; exact h1,h2⟩
 ·rcases get_set h with⟨rfl,z,l⟩|⟨ne,h⟩
  ·cases z
  ·obtain⟨a,xs,h1,h2⟩:=e.rf j ts h
   exact⟨a,xs,by rw[List.getElem?_set_ne (Ne.symm ne)]; exact h1,h2⟩
 ·obtain⟨n1,m1⟩:=mu j h1
  obtain⟨n2,m2⟩:=mu k h2
  rw[List.getElem?_set_ne (Ne.symm n1)]at q1
  rw[List.getElem?_set_ne (Ne.symm n2)]at q2
  exact e.dis j k a m1 m2 q1 q2
 ·obtain⟨ne,h⟩:=fW j us h
  obtain⟨c,ys,h1,d⟩:=e.dp j us h
  exact⟨c,ys,by rw[List.getElem?_set_ne (Ne.symm ne)]; exact h1,d⟩
theorem aP.addr{W:Addr->Prop}{ρ : En}{σ : St}{H:Hp}{i:Nat}{a:Addr}(e:aP t W ρ σ H)(m:Mu ρ i)(q : σ[i]?=some (some (.ref a))):W a:=by
 obtain⟨ts,h|h⟩:=m
 ·obtain⟨b,xs,h1,h2,_⟩:=e.ow i ts h
  rw[q]at h1
  cases h1
  exact h2
 ·obtain⟨b,xs,h1,h2,_⟩:=e.rf i ts h
  rw[q]at h1
  cases h1
  exact h2
theorem aP.Yz{W:Addr->Prop}{ρ : En}{σ : St}{H:Hp}{i:Nat}{a:Addr}{xs:List V}{ts:List Tr}(e0:aP t W ρ σ H)(nw:¬W a)(e:qg t W a ρ σ H)(h0:t.H0 a=none)(hB:t.B a=none)(ha:H a=some (.lst xs))(r:aQ t.K (off a (aU W H)) xs ts) :
  aP t (λb=>W b\/b=a) (ρ.set i (.ow ts)) (σ.set i (some (.ref a))) H:=by
 have mu:∀j,Mu (ρ.set i (.ow ts)) j->j=i\/(j≠i/\Mu ρ j):=λj h=>by
  obtain⟨ts,h|h⟩:=h <;> rcases get_set h with⟨rfl,z,_⟩|⟨ne,h⟩
  ·exact .inl rfl
  ·exact .inr ⟨ne,ts,.inl h⟩
  ·exact .inl rfl
  ·exact .inr ⟨ne,ts,.inr h⟩
 have m:Same (off a (aU W H)) (aU (λb=>W b\/b=a) H):=λb o q=>by
  obtain⟨ne,q⟩:=sJ q
  obtain⟨n,q⟩:=jL q
  rw[gG]
  ·exact q
  ·rintro(z|z)
   ·exact n z
   ·exact ne z
 have fW:∀j us,(ρ.set i (.ow ts))[j]?=some (.dp us)->j≠i/\ρ[j]?=some (.dp us):=λj us h=>by
  rcases get_set h with⟨rfl,z,_⟩|⟨ne,h⟩
  ·cases z
  ·exact⟨ne,h⟩
 obtain⟨F,e,na⟩:=e
 refine⟨F,by rw[List.length_set,List.length_set]; exact e.len,e.zw,e.z0,e.wl,e.f0,e.n0,λj u h=>?_,λj us h=>?_,λj us h=>?_,λj k c h1 h2 q1 q2=>?_,e.pn,λj c m q=>?_,
  λj us h=>?_,λj k us ws n h1 h2=>e.dd j k us ws n (fW j us h1).2 (fW k ws h2).2,λj k us c h1 m q=>?_,λj us h=>e.db j us (fW j us h).2,e.tab⟩
 ·rcases get_set h with⟨rfl,z,l⟩|⟨ne,h⟩
  ·cases z
  ·obtain⟨w,h1,h2⟩:=e.sh j u h
   exact⟨w,by rw[List.getElem?_set_ne (Ne.symm ne)]; exact h1,h2⟩
 ·rcases get_set h with⟨rfl,z,l⟩|⟨ne,h⟩
  ·cases z
   exact⟨a,xs,sZ (by rw[<-e.len]; exact l),.inr rfl,h0,ha,r.mono m⟩
  ·obtain⟨c,ys,h1,h2⟩:=e.ow j us h
   exact⟨c,ys,by rw[List.getElem?_set_ne (Ne.symm ne)]; exact h1,h2⟩
 ·rcases get_set h with⟨rfl,z,l⟩|⟨ne,h⟩
  ·cases z
  ·obtain⟨c,ys,h1,h2⟩:=e.rf j us h
   exact⟨c,ys,by rw[List.getElem?_set_ne (Ne.symm ne)]; exact h1,h2⟩
 ·have old:∀j,j≠i->Mu ρ j->(σ.set i (some (.ref a)))[j]? ≠ some (some (.ref a)):=λj ne m q=>by
   rw[List.getElem?_set_ne (Ne.symm ne)]at q
   exact nw (e0.addr m q)
  have self:∀c,(σ.set i (some (V.ref a)))[i]?=some (some (.ref c))->c=a:=λc q=>by
   rcases get_set q with⟨_,z,_⟩|⟨ne,_⟩
   ·cases z; rfl
   ·exact absurd rfl ne
  rcases mu j h1 with rfl|⟨n1,m1⟩ <;> rcases mu k h2 with rfl|⟨n2,m2⟩
  ·rfl
  ·have:=self c q1
   subst this
   exact(old k n2 m2 q2).elim
  ·have:=self c q2
   subst this
   exact(old j n1 m1 q1).elim
  ·rw[List.getElem?_set_ne (Ne.symm n1)]at q1
   rw[List.getElem?_set_ne (Ne.symm n2)]at q2
   exact e.dis j k c m1 m2 q1 q2
 ·rcases mu j m with rfl|⟨n1,m1⟩
  ·rcases get_set q with⟨_,z,_⟩|⟨ne,_⟩
   ·cases z; exact hB
   ·exact absurd rfl ne
  ·rw[List.getElem?_set_ne (Ne.symm n1)]at q
   exact e.pd j c m1 q
 ·obtain⟨ne,h⟩:=fW j us h
  obtain⟨c,ys,h1,d⟩:=e.dp j us h
  exact⟨c,ys,by rw[List.getElem?_set_ne (Ne.symm ne)]; exact h1,d⟩
 ·obtain⟨nj,hj⟩:=fW j us h1
  rcases mu k m with rfl|⟨n2,m2⟩
  ·rcases get_set q with⟨_,z,_⟩|⟨nk,_⟩
   ·cases z
    exact na j us hj
   ·exact absurd rfl nk
  ·rw[List.getElem?_set_ne (Ne.symm n2)]at q
   exact e.dm j k us c hj m2 q
theorem aP.zM{W:Addr->Prop}{ρ : En}{σ : St}{H:Hp}{a:Addr}(e:aP t W ρ σ H)(n:H a=none):t.B a=none:=by
 cases q:t.B a with
 |none=>rfl
 |some o=>rw[e.pn a o q]at n; cases n
abbrev GF:=Tr->En->Rs En
def SG(t:Tx)(g:TG)(f:GF)(js:List Nat):Prop:=∀W ρ σ H v T Q,aP t W ρ σ H->Rep t.K (aU W H) v T->(f T ρ).post (λ_=>False) (λρ'=>∀σ',aP t W ρ' σ' H->(∀k,k∉js -> σ'[k]?=σ[k]?)->Q σ' H)->g v σ H Q
def gN(i:Nat):GF:=λT ρ=>.ok (ρ.set i (.sh T))
theorem iV(i:Nat):SG t (iy i) (gN i) [i]:=λW ρ σ H v T Q e r h=>h _ (e.wA r) λk n=>List.getElem?_set_ne (λz=>n (by rw[z]; exact List.mem_singleton.mpr rfl))
abbrev nW:=List Tr->En->Rs En
def zN(t:Tx)(g:oK)(f:nW)(js:List Nat):Prop:=∀W ρ σ H vs Ts Q,aP t W ρ σ H->aQ t.K (aU W H) vs Ts->(f Ts ρ).post (λ_=>False) (λρ'=>∀σ',aP t W ρ' σ' H->(∀k,k∉js -> σ'[k]?=σ[k]?)->Q σ' H)->g vs σ H Q
def o9:nW:=λTs ρ=>match Ts with
 | []=>.ok ρ
 |_=>.bad
def jX(f:GF)(g:nW):nW:=λTs ρ=>match Ts with
 |T::r=>(f T ρ).bind λρ'=>g r ρ'
 | []=>.bad
theorem YB:zN t KZ o9 []:=λW ρ σ H vs Ts Q e r h=>by
 cases r with
 |nil=>exact⟨rfl,h σ e λ_ _=>rfl⟩
 |cons _ _=>exact h.elim
theorem O1{g:TG}{u:oK}{f:GF}{fs:nW}{js ks:List Nat}(h1:SG t g f js)(h2:zN t u fs ks):zN t (K1 g u) (jX f fs) (js++ks):=λW ρ σ H vs Ts Q e r h=>by
 cases r with
 |nil=>exact h.elim
 | @cons x T xs Ts r1 r2 =>
  refine⟨x,xs,rfl,h1 W ρ σ H x T _ e r1 (Rs.cg (Rs.aR h) λρ' h σ' e' n1=>?_)⟩
  refine h2 W ρ' σ' H xs Ts _ e' r2 (Rs.cg h λρ2 h σ2 e2 n2=>h σ2 e2 λk n=>?_)
  rw[List.mem_append,not_or]at n
  rw[n2 k n.2,n1 k n.1]
def gT(n:Nat)(f:nW):GF:=λT ρ=>match T with
 |.tup Ts=>if Ts.length=n then f Ts ρ else .bad
 |_=>.bad
theorem YC{K:FZ}(hK:t.K=aG K){n:Nat}{u:oK}{fs:nW}{js:List Nat}(h2:zN t u fs js):SG t (K3 K n u) (gT n fs) js:=λW ρ σ H v T Q e r h=>by
 cases T <;> try exact h.elim
 rename_i Ts
 dsimp only[gT]at h
 split at h
 ·rename_i c
  cases r with
  | @tup a xs _ q r =>
   have q':=(lB W H).jV q
   rw[hK]at q'
   exact⟨a,xs,rfl,q'.toK,by rw[r.length]; exact c,h2 W ρ σ H xs Ts Q e r h⟩
 ·exact h.elim
def bL(f:EF)(g:GF):SF:=λρ=>(f ρ).bind λp=>match p.1 with
 |.v T _=>(g T p.2).bind λρ'=>.ok (.nx,ρ')
 |.s _=>.bad
theorem lU{te:TE}{g:TG}{f:EF}{gf:GF}{js:List Nat}(h1:SE t te f)(h2:SG t g gf js)(ng:∀T ρ c,gf T ρ ≠ .ex c):SS t (nq te g) (bL f gf):=λW ρ σ H D e h=>by
 refine h1 W ρ σ H _ e (Rs.cg (Rs.aR h) λp h v H1 e1 s1 v1=>?_)
 obtain⟨r,ρ1⟩:=p
 cases r with
 |s i=>exact h.elim
 |v T fr=>exact h2 W ρ1 σ H1 v T _ e1 (v1.1.rep e.wn) (Rs.cg (jT (Rs.aR h) (ng T ρ1)) λρ' h σ' e' _=>h W σ' H1 e' s1.nxt)
def zO(i:Nat)(f:EF):SF:=λρ=>(f ρ).bind λp=>match p.1 with
 |.v (.lst ts) true=>.ok (.nx,p.2.set i (.ow ts))
 |_=>.bad
theorem YD{te:TE}{f:EF}(i:Nat)(h1:SE t te f):SS t (nq te (iy i)) (zO i f):=λW ρ σ H D e h=>by
 refine h1 W ρ σ H _ e (Rs.cg (Rs.aR h) λp h v H1 e1 s1 v1=>?_)
 obtain⟨r,ρ1⟩:=p
 dsimp only at h
 split at h
 ·rename_i ts
  obtain⟨⟨a,xs,us,rfl,z,n,q,rr⟩,he⟩:=v1
  cases z
  have nw:¬W a:=λw=>e.wn a w n
  refine h _ _ H1 (e1.Yz nw (he _ a rfl rfl) (e.n0 a n) (e.zM n) q rr) λb o nb hb=>⟨?_,s1.keep b o nb hb⟩
  rintro(z|rfl)
  ·exact nb z
  ·rw[n]at hb; cases hb
 ·exact h.elim
def wB(f:EF):SF:=λρ=>(f ρ).bind λp=>.ok (.nx,p.2)
theorem YF{te:TE}{f:EF}(h1:SE t te f):SS t (yD te) (wB f):=λW ρ σ H D e h =>
 h1 W ρ σ H _ e (Rs.cg (Rs.aR h) λp h v H1 e1 s1 v1=>h W σ H1 e1 s1.nxt)
def aW(f:EF):SF:=λρ=>(f ρ).bind λp=>match p.1 with
 |.v T fr=>.ok (.rt T fr,p.2)
 |.s i=>match p.2[i]? with
  |some (.ow ts)=>.ok (.rt (.lst ts) true,p.2)
  |_=>.bad
theorem zQ{W:Addr->Prop}{ρ : En}{σ : St}{H:Hp}(e:aP t W ρ σ H):Same (aU W H) (aU t.Z H):=nM (λb _ _ z=>e.zw b z) λ_ _ _ h=>h
theorem jF{te:TE}{f:EF}(h1:SE t te f):SS t (KQ te) (aW f):=λW ρ σ H D e h=>by
 refine h1 W ρ σ H _ e (Rs.cg (Rs.aR h) λp h v H1 e1 s1 v1=>?_)
 obtain⟨r,ρ1⟩:=p
 cases r with
 |v T fr =>
  refine h v W σ H1 e1 ?_
  cases fr with
  |false=>exact Rep.mono (zQ e1) v1.1
  |true =>
   obtain⟨a,xs,us,rfl,z,n,q,rr⟩:=v1.1
   refine⟨a,xs,us,rfl,z,e.n0 a n,q,rr.mono λb o q=>?_⟩
   obtain⟨ne,q⟩:=sJ q
   rw[off_ne ne]
   exact zQ e1 b o q
 |s i =>
  dsimp only at h
  split at h
  ·rename_i ts q
   obtain⟨a,xs,h1,h2,h3,h4,h5⟩:=e1.ow i ts q
   have ev : σ[i]?=some (some v):=v1.1
   rw[ev]at h1
   cases h1
   refine h _ W σ H1 e1 ⟨a,xs,ts,rfl,rfl,h3,h4,h5.mono λb o q=>?_⟩
   have ne:b≠a:=λz=>by subst z; rw[zG h2]at q; cases q
   rw[off_ne ne]
   exact zQ e1 b o q
  ·exact h.elim
def bM(c:BF)(f g:SF):SF:=λρ=>(c ρ).bind λp=>if p.1=true then f p.2 else g p.2
theorem jG{tc:TT}{ta tb:TS}{c:BF}{f g:SF}(hc:ST t tc c)(ha:SS t ta f)(hb:SS t tb g):SS t (KR tc ta tb) (bM c f g):=λW ρ σ H D e h=>by
 refine hc W ρ σ H _ e (Rs.cg (Rs.aR h) λp h H1 e1 s1=>?_)
 split at h
 ·rename_i d
  refine if_pos d▸ha W p.2 σ H1 D e1 (Rs.cg h λq h=>h.back s1.nxt)
 ·rename_i d
  refine if_neg d▸hb W p.2 σ H1 D e1 (Rs.cg h λq h=>h.back s1.nxt)
def bB(i:Nat)(ρ : En):En:=match ρ[i]? with
 |some (.ow ts)=>ρ.set i (.sh (.lst ts))
 |_=>ρ
end
end L2
end
section
namespace L2
open PySem PySem.Spec PyProof.Rows
section
variable {t:Tx}
theorem aP.bB{W:Addr->Prop}{ρ : En}{σ : St}{H:Hp}(e:aP t W ρ σ H)(i:Nat):∃W',aP t W' (L2.bB i ρ) σ H/\iU W H W' H:=by
 unfold L2.bB
 split
 ·rename_i ts q
  obtain⟨a,xs,h1,h2,h3,h4,h5⟩:=e.ow i ts q
  have m:Same (aU W H) (aU (λb=>W b/\b≠a) H):=nM (λ_ _ _ z=>z.1) λ_ _ _ h=>h
  have mi:Mu ρ i:=⟨ts,.inl q⟩
  have mu:∀j,Mu (ρ.set i (.sh (.lst ts))) j->j≠i/\Mu ρ j:=λj h=>by
   obtain⟨us,h|h⟩:=h <;> rcases get_set h with⟨rfl,z,_⟩|⟨ne,h⟩
   ·cases z
   ·exact⟨ne,us,.inl h⟩
   ·cases z
   ·exact⟨ne,us,.inr h⟩
  have O2:∀j c,j≠i->Mu ρ j -> σ[j]?=some (some (.ref c))->c≠a:=λj c ne mj qj z=>by
   subst z
   exact ne (e.dis j i c mj mi qj h1)
  have fW:∀(j:Nat) (us:List Tr),(ρ.set i (.sh (.lst ts)))[j]?=some (Sl.dp us) -> ρ[j]?=some (Sl.dp us):=λj us h=>by
   rcases get_set h with⟨rfl,z,_⟩|⟨ne,h⟩
   ·cases z
   ·exact h
  obtain⟨F,e⟩:=e
  refine⟨λb=>W b/\b≠a,⟨F,by rw[List.length_set]; exact e.len,λb z=>⟨e.zw b z,λy=>?_⟩,e.z0,λb w=>e.wl b w.1,e.f0,e.n0,λj u h=>?_,λj us h=>?_,λj us h=>?_,λj k c m1 m2 q1 q2=>e.dis j k c (mu j m1).2 (mu k m2).2 q1 q2,e.pn,λj c m q=>e.pd j c (mu j m).2 q,λj us h=>?_,λj k us ws n h1 h2=>e.dd j k us ws n (fW j us h1) (fW k ws h2),λj k us c h1 m q=>e.dm j k us c (fW j us h1) (mu k m).2 q,λj us h=>e.db j us (fW j us h),e.tab.cut (D:=λb=>b=a) (λb z=>⟨xs,by rw[z]; exact h4⟩)⟩,λb o n h=>⟨λz=>n z.1,h⟩⟩
  ·subst y
   exact e.z0 b z h3
  ·rcases get_set h with⟨rfl,z,l⟩|⟨ne,h⟩
   ·cases z
    refine⟨.ref a,h1,.lst (eF.of ?_) (h5.mono m)⟩
    rw[gG λz=>z.2 rfl]
    exact h4
   ·obtain⟨w,q1,q2⟩:=e.sh j u h
    exact⟨w,q1,q2.mono m⟩
  ·rcases get_set h with⟨rfl,z,l⟩|⟨ne,h⟩
   ·cases z
   ·obtain⟨c,ys,q1,q2,q3,q4,q5⟩:=e.ow j us h
    exact⟨c,ys,q1,⟨q2,O2 j c ne ⟨us,.inl h⟩ q1⟩,q3,q4,q5.mono m⟩
  ·rcases get_set h with⟨rfl,z,l⟩|⟨ne,h⟩
   ·cases z
   ·obtain⟨c,ys,q1,q2,q3,q4,q5⟩:=e.rf j us h
    exact⟨c,ys,q1,⟨q2,O2 j c ne ⟨us,.inr h⟩ q1⟩,q3,q4,q5.mono m⟩
  ·obtain⟨c,ys,q1,d⟩:=e.dp j us (fW j us h)
   exact⟨c,ys,q1,d.move rfl rfl m (λb hb=>⟨by obtain⟨_,_,_,ww,_⟩:=d; exact(ww b hb).1,λz=>by subst z; exact e.dm j i us b (fW j us h) mi h1 hb⟩) λ_ _ _ q=>q⟩
 ·exact⟨W,e,iU.refl _ _⟩
def zR(i:Nat)(f:SF):SF:=λρ=>f (bB i ρ)
theorem YG{ts:TS}{f:SF}(i:Nat)(h:SS t ts f):SS t ts (zR i f):=λW ρ σ H D e q=>by
 obtain⟨W',e',n⟩:=e.bB i
 exact h W' _ σ H D e' (Rs.cg q λp q=>q.back n)
def tu(c:BF)(b:SF):Nat->SF
 | 0=>λ_=>.bad
 | n + 1=>λρ => (c ρ).bind λp=>if p.1=true then (b p.2).bind λq=>(match q.1 with
  |.nx=>tu c b n q.2
  |.ct=>tu c b n q.2
  |.bk=>.ok (.nx,q.2)
  |.rt T fr=>.ok (.rt T fr,q.2))else .ok (.nx,p.2)
def uO(fu:En->Nat)(c:BF)(b:SF):SF:=λρ=>tu c b (fu ρ) ρ
theorem YH{tc:TT}{tb:TS}{c:BF}{b:SF}(fu:En->Nat)(hc:ST t tc c)(hb:SS t tb b):SS t (K6 tc tb) (uO fu c b):=λW ρ σ H D e h=>by
 refine⟨λm σ' H'=>∃ρ' W',aP t W' ρ' σ' H'/\(tu c b m ρ').post t.EX (lR t W' H' D),⟨fu ρ,ρ,W,e,h⟩,?_⟩
 rintro m σ1 H1 ⟨ρ1,W1,e1,h1⟩
 cases m with
 |zero=>exact h1.elim
 |succ n =>
  refine hc W1 ρ1 σ1 H1 _ e1 (Rs.cg (Rs.aR h1) λp h H2 e2 s2=>?_)
  split at h
  ·rename_i d
   rw[if_pos d]
   refine⟨λσ' H'=>∃ρ' W',aP t W' ρ' σ' H'/\(tu c b n ρ').post t.EX (lR t W' H' D),λσ' H' q=>⟨n,Nat.lt_succ_self n,q⟩,?_⟩
   refine hb W1 p.2 σ1 H2 _ e2 (Rs.cg (Rs.aR h) λq h=>?_)
   obtain⟨fl,ρ3⟩:=q
   cases fl with
   |nx=>exact λW3 σ3 H3 e3 n3=>⟨ρ3,W3,e3,Rs.cg h λr h=>h.back (s2.nxt.trans n3)⟩
   |ct=>exact λW3 σ3 H3 e3 n3=>⟨ρ3,W3,e3,Rs.cg h λr h=>h.back (s2.nxt.trans n3)⟩
   |bk=>exact λW3 σ3 H3 e3 n3=>h W3 σ3 H3 e3 (s2.nxt.trans n3)
   |rt T fr=>exact h
  ·rename_i d
   rw[if_neg d]
   exact h W1 σ1 H2 e2 s2.nxt
def wC(K:FZ)(W:Addr->Prop)(H:Hp)(J:It)(us:List Tr):Prop:=∀W' H',Same (aU W H) (aU W' H')->(∀b,W' b->Lt H' b)->∀i,(i=us.length->J.stop i H')/\∀u,us[i]?=some u->J.go i H'/\∀x jK,J.vK i H' x jK->Same H' jK/\Rep K (aU W' jK) x u
abbrev IF:=En->Rs (List Tr × En)
def SI(t:Tx)(wi:TI)(f:IF):Prop:=∀W ρ σ H R,aP t W ρ σ H->(f ρ).post t.EX (λp=>∀J H',aP t W p.2 σ H'->cX W H H'->wC t.K W H' J p.1->R J H')->wi σ H R
def je(g:GF)(b:SF):List Tr->SF
 | []=>λρ=>.ok (.nx,ρ)
 | u :: us=>λρ => (g u ρ).bind λρ1=>(b ρ1).bind λq=>(match q.1 with
  |.nx=>je g b us q.2
  |.ct=>je g b us q.2
  |.bk=>.ok (.nx,q.2)
  |.rt T fr=>.ok (.rt T fr,q.2))
def jN(fi:IF)(g:GF)(b:SF):SF:=λρ=>(fi ρ).bind λp=>je g b p.1 p.2
theorem YJ{wi:TI}{g:TG}{tb:TS}{fi:IF}{gf:GF}{b:SF}{js:List Nat}(hi:SI t wi fi)(hg:SG t g gf js)(ng:∀T ρ c,gf T ρ ≠ .ex c)(hb:SS t tb b):SS t (La wi g tb) (jN fi gf b):=λW ρ σ H D e h=>by
 refine hi W ρ σ H _ e (Rs.cg (Rs.aR h) λp h J H1 e1 s1 it=>?_)
 obtain⟨us,ρ1⟩:=p
 dsimp only at h it e1
 refine⟨λi m σ' H'=>m=us.length-i/\i<=us.length/\∃ρ' W',aP t W' ρ' σ' H'/\iU W H1 W' H'/\(je gf b (us.drop i) ρ').post t.EX (lR t W' H' D),⟨us.length,by simp,Nat.zero_le _,ρ1,W,e1,iU.refl _ _,by rw[List.drop_zero]; exact Rs.cg h λr h=>h.back s1.nxt⟩,?_⟩
 rintro i m σ2 H2 ⟨rfl,hi,ρ2,W2,e2,n2,h2⟩
 have q:=it W2 H2 n2.same e2.wl i
 by_cases hlt:i<us.length
 ·rw[List.drop_eq_getElem_cons hlt]at h2
  obtain⟨go,y⟩:=q.2 us[i] (by simp[hlt])
  refine .inr ⟨go,λσ' H'=>∃ρ' W',aP t W' ρ' σ' H'/\iU W H1 W' H'/\(je gf b (us.drop (i+1)) ρ').post t.EX (lR t W' H' D),λσ' H' z=>⟨us.length-(i+1),by omega,rfl,hlt,z⟩,λx H3 yl=>?_⟩
  obtain⟨s3,r3⟩:=y x H3 yl
  have e3:=e2.grow s3
  have n3:iU W H1 W2 H3:=n2.trans (cX.of s3).nxt
  refine hg W2 ρ2 σ2 H3 x us[i] _ e3 r3 (Rs.cg (jT (Rs.aR h2) (ng _ _)) λρ4 h σ4 e4 _=>?_)
  refine hb W2 ρ4 σ4 H3 _ e4 (Rs.cg (Rs.aR h) λr h=>?_)
  obtain⟨fl,ρ5⟩:=r
  cases fl with
  |nx=>exact λW5 σ5 H5 e5 n5=>⟨ρ5,W5,e5,n3.trans n5,Rs.cg h λr h=>h.back ((cX.of s3).nxt.trans n5)⟩
  |ct=>exact λW5 σ5 H5 e5 n5=>⟨ρ5,W5,e5,n3.trans n5,Rs.cg h λr h=>h.back ((cX.of s3).nxt.trans n5)⟩
  |bk=>exact λW5 σ5 H5 e5 n5=>h W5 σ5 H5 e5 ((cX.of s3).nxt.trans n5)
  |rt T fr=>exact h
 ·have z:i=us.length:=by omega
  subst z
  rw[List.drop_length]at h2
  exact .inl ⟨q.1 rfl,h2 W2 σ2 H2 e2 (iU.refl _ _)⟩
def FW(K:FZ)(tl:TE):TI:=λσ H R=>K8 K tl σ H R\/K9 K tl σ H R
theorem mO{X:Cx}{tg l:Expr}{tl:TE}(hl:PE X l tl):PI X tg l (FW X.K tl):=λpins s σ H R I h=>by
 rcases h with h|h
 ·exact Uy hl pins s σ H R I h
 ·exact Uz hl pins s σ H R I h
def cj:Rv->Rs (List Tr × Bool)
 |.v (.lst ts) _=>.ok (ts,true)
 |.v (.tup ts) _=>.ok (ts,false)
 |_=>.bad
def fV(f:EF):IF:=λρ=>(f ρ).bind λp=>(cj p.1).bind λz=>.ok (z.1,p.2)
theorem YK{K:FZ}{W:Addr->Prop}{H:Hp}{a:Addr}{xs:List V}{us:List Tr}(q:eF (aG K) (aU W H) a xs)(r:aQ (aG K) (aU W H) xs us):wC (aG K) W H (Dn K a) us:=λW' H' m hw i=>by
 have q':eF K H' a xs:=((lB W' H').seq (m.seq q)).toK
 refine⟨λz=>⟨xs,q',by rw[r.length]; omega⟩,λu hu=>?_⟩
 obtain⟨x,hx,rx⟩:=r.sU hu
 refine⟨⟨xs,x,q',hx⟩,λy jK yl=>?_⟩
 obtain⟨rfl,z⟩:=yl
 have:=z xs q'
 rw[hx]at this
 cases this
 exact⟨Same.refl _,rx.mono m⟩
theorem YL{K:FZ}{W:Addr->Prop}{H:Hp}{a:Addr}{xs:List V}{us:List Tr}(q:fM (aG K) (aU W H) a xs)(r:aQ (aG K) (aU W H) xs us):wC (aG K) W H (Dp K a) us:=λW' H' m hw i=>by
 have q':fM K H' a xs:=((lB W' H').jV (m.jV q)).toK
 refine⟨λz=>⟨xs,q',by rw[r.length]; omega⟩,λu hu=>?_⟩
 obtain⟨x,hx,rx⟩:=r.sU hu
 refine⟨⟨xs,x,q',hx⟩,λy jK yl=>?_⟩
 obtain⟨rfl,z⟩:=yl
 have:=z xs q'
 rw[hx]at this
 cases this
 exact⟨Same.refl _,rx.mono m⟩
theorem tB{K:FZ}(hK:t.K=aG K){tl:TE}{f:EF}(h1:SE t tl f):SI t (FW K tl) (fV f):=λW ρ σ H R e h=>by
 have h:=Rs.aR h
 have key:∀b:Bool,(f ρ).post t.EX (λp=>∃us,cj p.1=.ok (us,b)/\∀J H',aP t W p.2 σ H'->cX W H H'->wC t.K W H' J us->R J H')->FW K tl σ H R:=λb h=>by
  cases b with
  |true =>
   refine .inl (h1 W ρ σ H _ e (Rs.cg h λp h v H1 e1 s1 v1=>?_))
   obtain⟨us,q,h⟩:=h
   obtain⟨r,ρ1⟩:=p
   cases r with
   |s i=>cases q
   |v T fr =>
    cases T <;> cases q
    have rr:=v1.1.rep e.wn
    cases rr with
    | @lst a xs _ q r =>
     refine⟨a,rfl,⟨xs,?_⟩,h _ H1 e1 s1 ?_⟩
     ·rw[hK]at q
      exact((lB _ _).seq q).toK
     ·rw[hK]at q r ⊢
      exact YK q r
  |false =>
   refine .inr (h1 W ρ σ H _ e (Rs.cg h λp h v H1 e1 s1 v1=>?_))
   obtain⟨us,q,h⟩:=h
   obtain⟨r,ρ1⟩:=p
   cases r with
   |s i=>cases q
   |v T fr =>
    cases T <;> cases q
    have rr:=v1.1.rep e.wn
    cases rr with
    | @tup a xs _ q r =>
     refine⟨a,rfl,⟨xs,?_⟩,h _ H1 e1 s1 ?_⟩
     ·rw[hK]at q
      exact((lB _ _).jV q).toK
     ·rw[hK]at q r ⊢
      exact YL q r
 cases k:f ρ with
 |bad=>rw[k]at h; exact h.elim
 |ex c =>
  refine key true ?_
  rw[k]at h ⊢
  exact h
 |ok p =>
  rw[k]at h
  have h:((cj p.1).bind _).post _ _:=h
  cases k2:cj p.1 with
  |bad=>rw[k2]at h; exact h.elim
  |ex c =>
   exfalso
   revert k2
   unfold cj
   split <;> (intro z; cases z)
  |ok z =>
   rw[k2]at h
   refine key z.2 ?_
   rw[k]
   exact⟨z.1,k2,h⟩
def upTo(lo:Int):Nat->List Tr
 | 0=>[]
 |n+1=>.int lo::upTo (lo+1) n
theorem jO(lo:Int):∀n,(upTo lo n).length=n:=λn=>by
 induction n generalizing lo with
 |zero=>rfl
 |succ n ih=>rw[upTo,List.length_cons,ih]
theorem YM{lo:Int}{n i:Nat}{u:Tr}(h:(upTo lo n)[i]?=some u):i<n/\u=.int (lo+i):=by
 induction n generalizing lo i with
 |zero=>simp[upTo]at h
 |succ n ih =>
  rw[upTo]at h
  cases i with
  |zero =>
   simp at h
   subst h
   exact⟨Nat.zero_lt_succ _,by simp⟩
  |succ i =>
   obtain⟨h1,h2⟩:=ih (lo:=lo+1) (i:=i) (by simpa using h)
   refine⟨Nat.succ_lt_succ h1,h2.trans ?_⟩
   congr 1
   omega
theorem YQ{K:FZ}{W:Addr->Prop}{H:Hp}(lo:Int)(n:Nat):wC K W H (yH lo n) (upTo lo n):=λW' H' m hw i=>by
 refine⟨λz=>?_,λu hu=>?_⟩
 ·rw[jO]at z
  exact Nat.le_of_eq z.symm
 ·obtain⟨h1,rfl⟩:=YM hu
  refine⟨h1,λx jK yl=>?_⟩
  obtain⟨rfl,rfl⟩:=yl
  exact⟨Same.refl _,.int _⟩
def okR(i:Int):Bool:=decide (-1000000<=i)&&decide (i<=1000000)
def iG(fa:AF):IF:=λρ=>(fa ρ).bind λp=>(drs p.2 p.1).bind λas=>match as with
 | [.int j]=>if okR j=true then .ok (upTo 0 j.toNat,p.2)else .bad
 |_=>.bad
theorem O3{ta:TA}{fa:AF}(ha:SA t ta fa):SI t (Dq ta) (iG fa):=λW ρ σ H R e h=>by
 refine ha W ρ σ H _ e (Rs.cg (Rs.aR h) λp h vs H1 e1 s1 v1=>?_)
 obtain⟨as,k1,h⟩:=dO (Rs.aR h) (uL _ _)
 have r:=wg e1 e.wn v1 k1
 split at h
 ·rename_i j
  split at h
  ·rename_i c
   unfold okR at c
   rw[Bool.and_eq_true]at c
   have c1:=of_decide_eq_true c.1
   have c2:=of_decide_eq_true c.2
   cases r with
   |cons h1 r1 =>
    cases r1
    rw[h1.int]
    exact⟨j,rfl,by omega,by omega,h _ H1 e1 s1 (YQ 0 _)⟩
  ·exact h.elim
 ·exact h.elim
def YS(fa:AF):IF:=λρ=>(fa ρ).bind λp=>(drs p.2 p.1).bind λas=>match as with
 | [.int i,.int j]=>if okR i=true/\okR j=true then .ok (upTo i (j-i).toNat,p.2)else .bad
 |_=>.bad
def con(ρ : En)(i:Nat):Rs (List Tr):=match ρ[i]? with
 |some (.ow ts)=>.ok ts
 |some (.rf ts)=>.ok ts
 |_=>.bad
theorem Ga(ρ : En)(i:Nat)(c:Str):con ρ i ≠ .ex c:=by
 unfold con
 split <;> (intro z; cases z)
def aV(i:Nat)(us:List Tr)(ρ : En):En:=match ρ[i]? with
 |some (.ow _)=>ρ.set i (.ow us)
 |some (.rf _)=>ρ.set i (.rf us)
 |_=>ρ
theorem aP.con{W:Addr->Prop}{ρ : En}{σ : St}{H:Hp}{i:Nat}{ts:List Tr}(e:aP t W ρ σ H)(q:con ρ i=.ok ts):Mu ρ i/\∃a xs,σ[i]?=some (some (.ref a))/\W a/\H a=some (.lst xs)/\aQ t.K (aU W H) xs ts/\(∀o,t.H0 a=some o->t.R a):=by
 unfold L2.con at q
 split at q
 ·rename_i us h
  cases q
  obtain⟨a,xs,h1,h2,h3,h4,h5⟩:=e.ow i ts h
  exact⟨⟨ts,.inl h⟩,a,xs,h1,h2,h4,h5,λo z=>by rw[h3]at z; cases z⟩
 ·rename_i us h
  cases q
  obtain⟨a,xs,h1,h2,h3,h4,h5⟩:=e.rf i ts h
  exact⟨⟨ts,.inr h⟩,a,xs,h1,h2,h4,h5,λo z=>h3⟩
 ·cases q
theorem pq{ρ : En}{i j:Nat}{us:List Tr}(h:Mu (aV i us ρ) j):Mu ρ j:=by
 unfold aV at h
 split at h
 ·rename_i ws q
  obtain⟨ts,h|h⟩:=h <;> rcases get_set h with⟨rfl,z,_⟩|⟨ne,h⟩
  ·exact⟨_,.inl q⟩
  ·exact⟨_,.inl h⟩
  ·exact⟨_,.inl q⟩
  ·exact⟨_,.inr h⟩
 ·rename_i ws q
  obtain⟨ts,h|h⟩:=h <;> rcases get_set h with⟨rfl,z,_⟩|⟨ne,h⟩
  ·exact⟨_,.inr q⟩
  ·exact⟨_,.inl h⟩
  ·exact⟨_,.inr q⟩
  ·exact⟨_,.inr h⟩
 ·exact h
theorem Gb{ρ : En}{i:Nat}{us:List Tr}:(aV i us ρ).length = ρ.length:=by
 unfold aV
 split
 ·rw[List.length_set]
 ·rw[List.length_set]
 ·rfl
theorem pA{ρ : En}{i j:Nat}{us:List Tr}{s:Sl}(h:(aV i us ρ)[j]?=some s):(j≠i/\ρ[j]?=some s)\/(j=i/\((∃ts,ρ[i]?=some (.ow ts)/\s=.ow us)\/(∃ts,ρ[i]?=some (.rf ts)/\s=.rf us)\/(¬Mu ρ i/\ρ[i]?=some s))):=by
 unfold aV at h
 split at h
 ·rename_i ws q
  rcases get_set h with⟨rfl,z,_⟩|⟨ne,h⟩
  ·exact .inr ⟨rfl,.inl ⟨ws,q,z⟩⟩
  ·exact .inl ⟨ne,h⟩
 ·rename_i ws q
  rcases get_set h with⟨rfl,z,_⟩|⟨ne,h⟩
  ·exact .inr ⟨rfl,.inr (.inl ⟨ws,q,z⟩)⟩
  ·exact .inl ⟨ne,h⟩
 ·rename_i n1 n2
  by_cases e:j=i
  ·subst e
   refine .inr ⟨rfl,.inr (.inr ⟨?_,h⟩)⟩
   rintro⟨ts,z|z⟩
   ·exact n1 ts z
   ·exact n2 ts z
  ·exact .inl ⟨e,h⟩
theorem rm{ρ : En}{i j:Nat}{us ws:List Tr}(h:(aV i us ρ)[j]?=some (.dp ws)) : ρ[j]?=some (.dp ws):=by
 rcases pA h with⟨_,h⟩|⟨rfl,⟨_,_,z⟩|⟨_,_,z⟩|⟨_,h⟩⟩
 ·exact h
 ·cases z
 ·cases z
 ·exact h
theorem DR.lst{K:FZ}{G H:Hp}:∀{xs:List V} {ts:List Tr} {bs:List Addr},DR K G H xs ts bs->∀b∈bs,∃ys,H b=some (.lst ys)
 |_,_,_,.nil,_,h=>by cases h
 |_,_,_,.cl _ _ r,b,h=>DR.lst r b h
 |_,_,_,.rw q _ r,b,h=>by
  rcases List.mem_cons.mp h with rfl|h
  ·exact⟨_,q⟩
  ·exact DR.lst r b h
theorem qT.lst{t:Tx}{W:Addr->Prop}{H:Hp}{a:Addr}{xs:List V}{ts:List Tr}{fp:List Addr}(d:qT t W H a xs ts fp):∀b∈fp,∃ys,H b=some (.lst ys):=λb hb=>by
 obtain⟨bs,e,_,_,ha,r⟩:=d
 rw[e]at hb
 rcases List.mem_cons.mp hb with rfl|hb
 ·exact⟨_,ha⟩
 ·exact r.lst b hb
theorem qT.nt{t:Tx}{K:FZ}{W:Addr->Prop}{H:Hp}{a:Addr}{xs:List V}{ts:List Tr}{fp:List Addr}(d:qT t W H a xs ts fp)(tb:gM K H){b:Addr}(z:Tb K b)(hb:b∈fp):False:=by
 obtain⟨ys,e⟩:=d.lst b hb
 exact tb.ne z e rfl
theorem aP.O4{W:Addr->Prop}{ρ : En}{σ : St}{H:Hp}{i:Nat}{a:Addr}(e:aP t W ρ σ H)(m:Mu ρ i)(q : σ[i]?=some (some (.ref a))):∃xs,H a=some (.lst xs):=by
 obtain⟨ts,h|h⟩:=m
 ·obtain⟨b,xs,h1,_,_,h4,_⟩:=e.ow i ts h
  rw[q]at h1
  cases h1
  exact⟨xs,h4⟩
 ·obtain⟨b,xs,h1,_,_,h4,_⟩:=e.rf i ts h
  rw[q]at h1
  cases h1
  exact⟨xs,h4⟩
theorem EOF.move{W W':Addr->Prop}{ρ : En}{σ : St}{H H':Hp}{i:Nat}{a:Addr}{xs:List V}{us:List Tr}{F:Nat->List Addr}(e:EOF t W ρ σ H F)(mi:Mu ρ i)(hi : σ[i]?=some (some (.ref a)))(m:Same (aU W H) (aU W' H'))(sub:∀b,W b->W' b)(wl:∀b,W' b->Lt H' b)
  (tb:gM t.K H') (fr:∀b o,H b=some o->b≠a->¬Tb t.K b->H' b=some o) (dom:∀b,H' b=none->H b=none) (h0:∀o,t.H0 a=some o->t.R a) (ha:H' a=some (.lst xs)) (r:aQ t.K (aU W' H') xs us):EOF t W' (aV i us ρ) σ H' F:=by
 have ne:∀j c,j≠i->Mu ρ j -> σ[j]?=some (some (.ref c))->c≠a:=λj c n mj q z=>by
  subst z
  exact n (e.dis j i c mj mi q hi)
 have nt:∀{c:Addr} {ys:List V},H c=some (.lst ys)->¬Tb t.K c:=λq z=>e.tab.ok.ne z q rfl
 refine⟨by rw[Gb]; exact e.len,λb z=>sub b (e.zw b z),e.z0,wl,λb o h n=>?_,λb h=>e.n0 b (dom b h),λj u h=>?_,λj ts h=>?_,λj ts h=>?_,λj k c h1 h2=>e.dis j k c (pq h1) (pq h2),λb o h=>fr b o (e.pn b o h) (λz=>by subst z; rw[e.pd i b mi hi]at h; cases h) (λz=>by rw[e.tab.B b z]at h; cases h),λj c m q=>e.pd j c (pq m) q,λj ws h=>?_,λj k ws zs n h1 h2=>e.dd j k ws zs n (rm h1) (rm h2),λj k ws c h1 m q=>e.dm j k ws c (rm h1) (pq m) q,λj ws h=>e.db j ws (rm h),⟨tb,λb z=>sub b (e.tab.w b z),e.tab.r,e.tab.B⟩⟩
 ·refine fr b o (e.f0 b o h n) (λz=>?_) λz=>n (e.tab.r b z)
  subst z
  exact n (h0 o h)
 ·rcases pA h with⟨n,h⟩|⟨rfl,⟨ts,q,z⟩|⟨ts,q,z⟩|⟨nm,h⟩⟩
  ·obtain⟨w,h1,h2⟩:=e.sh j u h
   exact⟨w,h1,h2.mono m⟩
  ·cases z
  ·cases z
  ·exact(nm mi).elim
 ·rcases pA h with⟨n,h⟩|⟨rfl,⟨ts',q,z⟩|⟨ts',q,z⟩|⟨nm,h⟩⟩
  ·obtain⟨c,ys,h1,h2,h3,h4,h5⟩:=e.ow j ts h
   exact⟨c,ys,h1,sub c h2,h3,fr c _ h4 (ne j c n ⟨ts,.inl h⟩ h1) (nt h4),h5.mono m⟩
  ·cases z
   obtain⟨c,ys,h1,h2,h3,h4,h5⟩:=e.ow j ts' q
   rw[hi]at h1
   cases h1
   exact⟨a,xs,hi,sub a h2,h3,ha,r⟩
  ·cases z
  ·exact(nm mi).elim
 ·rcases pA h with⟨n,h⟩|⟨rfl,⟨ts',q,z⟩|⟨ts',q,z⟩|⟨nm,h⟩⟩
  ·obtain⟨c,ys,h1,h2,h3,h4,h5⟩:=e.rf j ts h
   exact⟨c,ys,h1,sub c h2,h3,fr c _ h4 (ne j c n ⟨ts,.inr h⟩ h1) (nt h4),h5.mono m⟩
  ·cases z
  ·cases z
   obtain⟨c,ys,h1,h2,h3,h4,h5⟩:=e.rf j ts' q
   rw[hi]at h1
   cases h1
   exact⟨a,xs,hi,sub a h2,h3,ha,r⟩
  ·exact(nm mi).elim
 ·obtain⟨c,ys,h1,d⟩:=e.dp j ws (rm h)
  exact⟨c,ys,h1,d.move rfl rfl m (λb hb=>sub b (by obtain⟨_,_,_,ww,_⟩:=d; exact(ww b hb).1)) λb o hb q=>fr b o q (λz=>by subst z; exact e.dm j i ws b (rm h) mi hi hb) λz=>d.nt e.tab.ok z hb⟩
theorem aP.move{W W':Addr->Prop}{ρ : En}{σ : St}{H H':Hp}{i:Nat}{a:Addr}{xs:List V}{us:List Tr}(e:aP t W ρ σ H)(mi:Mu ρ i)(hi : σ[i]?=some (some (.ref a)))(m:Same (aU W H) (aU W' H'))(sub:∀b,W b->W' b)(wl:∀b,W' b->Lt H' b)
  (tb:gM t.K H') (fr:∀b o,H b=some o->b≠a->¬Tb t.K b->H' b=some o) (dom:∀b,H' b=none->H b=none) (h0:∀o,t.H0 a=some o->t.R a) (ha:H' a=some (.lst xs)) (r:aQ t.K (aU W' H') xs us):aP t W' (aV i us ρ) σ H':=by
 obtain⟨F,e⟩:=e
 exact⟨F,e.move mi hi m sub wl tb fr dom h0 ha r⟩
theorem aP.put{W:Addr->Prop}{ρ : En}{σ : St}{H:Hp}{i:Nat}{a:Addr}{xs:List V}{us:List Tr}(e:aP t W ρ σ H)(mi:Mu ρ i)(hi : σ[i]?=some (some (.ref a)))(h0:∀o,t.H0 a=some o->t.R a)(r:aQ t.K (aU W H) xs us):aP t W (aV i us ρ) σ (upd H a (.lst xs))/\cX W H (upd H a (.lst xs)):=by
 have w:=e.addr mi hi
 obtain⟨zs,hz⟩:=e.O4 mi hi
 refine⟨e.move mi hi (by rw[mX w]; exact Same.refl _) (λ_ h=>h) (λb z=>?_) (e.tab.ok.upd hz) (λb o h n _=>by rw[cL n]; exact h) (λb h=>?_) h0 gk (by rw[mX w]; exact r),⟨λb o n h=>?_,λb h=>?_⟩⟩
 ·by_cases q:b=a
  ·subst q; exact .inl ⟨xs,gk⟩
  ·unfold Lt; rw[cL q]; exact e.wl b z
 ·by_cases q:b=a
  ·subst q; rw[gk]at h; cases h
  ·rw[cL q]at h; exact h
 ·rw[cL (λz=>n (by rw[z]; exact w))]; exact h
 ·by_cases q:b=a
  ·subst q; rw[gk]at h; cases h
  ·rw[cL q]at h; exact h
abbrev GM:=List Tr->List Tr->Rs (List Tr × Tr)
noncomputable def Gd(r:V->List V->Hp->VK->Prop)(m:GM):Prop:=∀(K:FZ) (G:Hp) a xs ts vs as H Q ts' T,H a=some (.lst xs)->aQ K G xs ts->aQ K G vs as->m ts as=.ok (ts',T)->(∀xs' v,aQ K G xs' ts'->Rep K G v T->Q v (upd H a (.lst xs')))->r (.ref a) vs H Q
def YT(i:Nat)(m:GM)(fa:AF):EF:=λρ=>(con ρ i).bind λ_=>(fa ρ).bind λp=>(cls p.1).bind λas=>(con p.2 i).bind λts=>(m ts as).bind λz=>.ok (.v z.2 false,aV i z.1 p.2)
def YW(i:Nat)(m:GM):EF:=λρ=>(con ρ i).bind λts=>(m ts []).bind λz=>.ok (.v z.2 false,aV i z.1 ρ)
def rC:GM:=λts as=>match as with
 | [T]=>if ts.length<=100000 then .ok (ts++[T],.non)else .bad
 |_=>.bad
theorem YX:Gd Mw rC:=λK G a xs ts vs as H Q ts' T hx r ra q h=>by
 unfold rC at q
 split at q
 ·rename_i U
  split at q
  ·rename_i c
   cases q
   cases ra with
   |cons h1 r1 =>
    cases r1
    exact⟨a,xs,_,rfl,rfl,hx,Nat.lt_of_le_of_lt (by rw[r.length]; exact c) (by decide),h _ _ (r.app (.cons h1 .nil)) .non⟩
  ·cases q
 ·cases q
theorem YZ(ts as:List Tr)(c:Str):rC ts as ≠ .ex c:=by
 unfold rC
 split <;> (try split) <;> (intro z; cases z)
theorem aQ.set{K:FZ}{H:Hp}{v:V}{T:Tr}(h:Rep K H v T):∀{xs:List V} {ts:List Tr} (j:Nat),aQ K H xs ts->aQ K H (xs.set j v) (ts.set j T)
 |_,_,_,.nil=>.nil
 |_,_,0,.cons _ r=>.cons h r
 |_,_,j+1,.cons h1 r=>.cons h1 (aQ.set h j r)
noncomputable def wF(i:Nat)(fk fe:EF):SF:=λρ=>(fe ρ).bind λp=>(cls [p.1]).bind λTs=>(con p.2 i).bind λ_=>(fk p.2).bind λq=>(dr q.2 q.1).bind λkT=>(bU kT).bind λk=>(con q.2 i).bind λts=>match Ts,dg ts.length k with
 | [T],some j=>.ok (.nx,aV i (ts.set j T) q.2)
 |_,_=>.bad
theorem O5{te ti:TE}{fk fe:EF}(i:Nat)(he:SE t te fe)(hk:SE t ti fk):SS t (nq te (Dh (mF i) ti DW)) (wF i fk fe):=λW ρ σ H D e h=>by
 refine he W ρ σ H _ e (Rs.cg (Rs.aR h) λp h v H1 e1 s1 v1=>?_)
 obtain⟨Ts,k1,h⟩:=dO (Rs.aR h) (wk _)
 obtain⟨us,k2,h⟩:=dO (Rs.aR h) (Ga _ _)
 obtain⟨_,a,xs,hi,_,hx,_⟩:=e1.con k2
 refine⟨_,hi,hk W p.2 σ H1 _ e1 (Rs.cg (Rs.aR h) λq h w H2 e2 s2 v2=>?_)⟩
 obtain⟨kT,k3,h⟩:=dO (Rs.aR h) (ju _ _)
 obtain⟨k,k4,h⟩:=dO (Rs.aR h) (Ot _)
 obtain⟨ts,k5,h⟩:=dO (Rs.aR h) (Ga _ _)
 obtain⟨mi,a',ys,hi',wa,hy,ry,h0⟩:=e2.con k5
 rw[hi]at hi'
 cases hi'
 have kk:∃T j,Ts=[T]/\dg ts.length k=some j/\lR t W H D (.nx,aV i (ts.set j T) q.2):=by
  cases Ts with
  |nil=>exact h.elim
  |cons T r =>
   cases r with
   |cons _ _=>exact h.elim
   |nil =>
    cases kj:dg ts.length k with
    |none=>rw[kj]at h; exact h.elim
    |some j=>rw[kj]at h; exact⟨T,j,rfl,rfl,h⟩
 obtain⟨T,j,rfl,k6,h⟩:=kk
 ·have rv:Rep t.K (aU W H2) v T:=by
   have r1:=wu (vs:=[v]) e.wn (.cons v1.1 .nil) k1
   cases r1 with
   |cons r1 _=>exact r1.mono s2.off
  obtain⟨e3,s3⟩:=e2.put mi hi h0 (ry.set rv j)
  refine⟨a,ys,k,j,rfl,Ou (jC e2 e1.wn v2.1 k3) k4,hy,by rw[ry.length]; exact k6,h W σ _ e3 ?_⟩
  exact((s1.trans s2).trans s3).nxt
def Y0(i:Nat)(p:Int->Int->Int)(f:EF):SF:=λρ=>match ρ[i]? with
 |some (.sh (.int x))=>(f ρ).bind λq=>(dr q.2 q.1).bind λyT=>(bU yT).bind λy=>.ok (.nx,q.2.set i (.sh (.int (p x y))))
 |_=>.bad
def wG(i j:Nat)(fa:AF):SF:=λρ=>(fa ρ).bind λp=>(cls p.1).bind λTs=>match Ts with
 | [T,U]=>.ok (.nx,(p.2.set i (.sh T)).set j (.sh U))
 |_=>.bad
theorem Y4{ta:TA}{fa:AF}(i j:Nat)(ha:SA t ta fa):SS t (K4 i j ta) (wG i j fa):=λW ρ σ H D e h=>by
 refine ha W ρ σ H _ e (Rs.cg (Rs.aR h) λp h vs H1 e1 s1 v1=>?_)
 obtain⟨Ts,k1,h⟩:=dO (Rs.aR h) (wk _)
 have r:=wu e.wn v1 k1
 split at h
 ·cases r with
  |cons h1 r1 =>
   cases r1 with
   |cons h2 r2 =>
    cases r2
    exact⟨_,_,rfl,h W _ H1 ((e1.wA h1).wA h2) s1.nxt⟩
 ·exact h.elim
def zT(c:Str)(f:EF):SF:=λρ=>(f ρ).bind λ_=>.ex c
def F0(t:Tx)(H':Hp):Prop:=(∀b o,t.H0 b=some o->¬t.R b->H' b=some o)/\gM t.K H'
theorem O6{E:XK}{C:Addr}{te:TE}{f:EF}{c:Str}(hx:∀H',F0 t H'->t.EX c->E (.ref C) none H')(he:SE t te f):SS t (Nk E C te) (zT c f):=λW ρ σ H D e h =>
 he W ρ σ H _ e (Rs.cg (Rs.aR h) λp h v H1 e1 s1 v1=>⟨rfl,hx H1 ⟨e1.f0,e1.tab.ok⟩ h⟩)
end
end L2
end
section
namespace L2
open PySem PySem.Spec PyProof.Rows
mutual
noncomputable def fC:Tr->Bool
 |.tup ts=>dR ts
 |.lst _=>false
 |_=>true
noncomputable def dR:List Tr->Bool
 | []=>true
 |t::r=>fC t&&dR r
end
def zU(G G':Hp):Prop:=(∀b xs,(G b=some (.tup xs)->G' b=some (.tup xs))/\∀o,G b=some (.bB o (.tup xs))->G' b=some (.bB o (.tup xs)))/\∀b C,G b=some (mV b C)->G' b=some (mV b C)
mutual
theorem Rep.flat{K:FZ}{G G':Hp}(m:zU G G'):∀{v:V} {T:Tr},Rep K G v T->fC T=true->Rep K G' v T
 |_,_,.non,_=>.non
 |_,_,.bl b,_=>.bl b
 |_,_,.int i,_=>.int i
 |_,_,.str x,_=>.str x
 |_,_,.tup h r,n=>by
  refine .tup ?_ (aQ.flat m r (by unfold fC at n; exact n))
  rcases h with(h|⟨o,h⟩)|h
  ·exact .inl (.inl ((m.1 _ _).1 h))
  ·exact .inl (.inr ⟨o,(m.1 _ _).2 o h⟩)
  ·exact .inr h
 |_,_,.lst h r,n=>by unfold fC at n; cases n
 |_,_,.dD h k n,_=>.dD (m.2 _ _ h) k n
theorem aQ.flat{K:FZ}{G G':Hp}(m:zU G G'):∀{v:List V} {T:List Tr},aQ K G v T->dR T=true->aQ K G' v T
 |_,_,.nil,_=>.nil
 |_,_,.cons h r,n=>by
  unfold dR at n
  rw[Bool.and_eq_true]at n
  exact .cons (Rep.flat m h n.1) (aQ.flat m r n.2)
end
theorem Ge{W W':Addr->Prop}{H:Hp}(wl:∀b,W' b->Lt H b):zU (aU W H) (aU W' H):=by
 have key:∀b o,aU W H b=some o->(∀ys,o ≠ .lst ys)->(∀ys,o ≠ .gQ ys)->aU W' H b=some o:=λb o h n n'=>by
  obtain⟨_,h⟩:=jL h
  rw[gG]
  ·exact h
  ·intro w
   rcases wl b w with⟨ys,e⟩|⟨ys,e⟩ <;> (rw[h]at e; cases e)
   ·exact n ys rfl
   ·exact n' ys rfl
 exact⟨λb xs=>⟨λh=>key _ _ h (λys z=>by cases z) (λys z=>by cases z),λo h=>key _ _ h (λys z=>by cases z) (λys z=>by cases z)⟩,λb C h=>key _ _ h (λys z=>by cases z) (λys z=>by cases z)⟩
theorem Y5{a:Addr}{W:Addr->Prop}{H:Hp}{xs:List V}(wl:∀b,W b->Lt H b)(ha:H a=some (.lst xs))(G:Hp)(hG:∀b o,G b=some o->H b=some o):zU G (off a (aU W H)):=by
 have key:∀b o,G b=some o->(∀ys,o ≠ .lst ys)->(∀ys,o ≠ .gQ ys)->off a (aU W H) b=some o:=λb o h n n'=>by
  have h:=hG b o h
  rw[off_ne,gG]
  ·exact h
  ·intro w
   rcases wl b w with⟨ys,e⟩|⟨ys,e⟩ <;> (rw[h]at e; cases e)
   ·exact n ys rfl
   ·exact n' ys rfl
  ·rintro rfl
   rw[h]at ha
   cases ha
   exact n _ rfl
 exact⟨λb xs=>⟨λh=>key _ _ h (λys z=>by cases z) (λys z=>by cases z),λo h=>key _ _ h (λys z=>by cases z) (λys z=>by cases z)⟩,λb C h=>key _ _ h (λys z=>by cases z) (λys z=>by cases z)⟩
def rD(K:FZ)(Z:Addr->Prop)(H H':Hp)(v:V)(T:Tr):Bool->Prop
 |false=>Rep K (aU Z H') v T
 |true=>∃a xs ts,v=.ref a/\T=.lst ts/\H a=none/\H' a=some (.lst xs)/\aQ K (off a (aU Z H')) xs ts
def pB(K:FZ)(H H':Hp):Prop:=(∀b o,H b=some o->¬Tb K b->H' b=some o)/\gM K H'
theorem pB.dom{K:FZ}{H H':Hp}(s:pB K H H'):∀b,H' b=none->H b=none:=λb h=>by
 cases q:H b with
 |none=>rfl
 |some o =>
  by_cases z:Tb K b
  ·obtain⟨ps,e⟩:=s.2.gQ z
   rw[h]at e
   cases e
  ·rw[s.1 b o q z]at h
   cases h
def zV(G G':Hp):Prop:=∀b o,(∀ps,o ≠ .gQ ps)->G b=some o->G' b=some o
theorem Rd.nY{G G':Hp}(m:zV G G'){a:Addr}{u:HO}(n:∀ps,u ≠ .gQ ps)(h:Rd G a u):Rd G' a u:=by
 rcases h with h|⟨o,h⟩
 ·exact .inl (m _ _ n h)
 ·exact .inr ⟨o,m _ _ (λ_ z=>by cases z) h⟩
mutual
theorem Rep.nY{K:FZ}{G G':Hp}(m:zV G G'):∀{v:V} {T:Tr},Rep K G v T->Rep K G' v T
 |_,_,.non=>.non
 |_,_,.bl b=>.bl b
 |_,_,.int i=>.int i
 |_,_,.str x=>.str x
 |_,_,.tup h r=>by
  refine .tup ?_ (aQ.nY m r)
  rcases h with h|h
  ·exact .inl (Rd.nY m (λ_ z=>by cases z) h)
  ·exact .inr h
 |_,_,.lst h r=>by
  refine .lst ?_ (aQ.nY m r)
  rcases h with h|h
  ·exact .inl (Rd.nY m (λ_ z=>by cases z) h)
  ·exact .inr h
 |_,_,.dD h k n=>.dD (m _ _ (λ_ z=>by cases z) h) k n
theorem aQ.nY{K:FZ}{G G':Hp}(m:zV G G'):∀{v:List V} {T:List Tr},aQ K G v T->aQ K G' v T
 |_,_,.nil=>.nil
 |_,_,.cons h r=>.cons (Rep.nY m h) (aQ.nY m r)
end
theorem Gf{K:FZ}{Z:Addr->Prop}{H:Hp}(tb:gM K H):zV (aU Z H) (aU (λb=>Z b\/Tb K b) H):=λb o n h=>by
 obtain⟨nz,h⟩:=jL h
 rw[gG]
 ·exact h
 ·rintro(z|z)
  ·exact nz z
  ·obtain⟨ps,e⟩:=tb.gQ z
   rw[h]at e
   cases e
   exact n _ rfl
theorem aP.zW{t:Tx}{W:Addr->Prop}{ρ : En}{σ : St}{H H':Hp}(e:aP t W ρ σ H)(s:pB t.K H H'):aP t W ρ σ H'/\cX W H H':=by
 have st:cX W H H':=⟨λb o n q=>s.1 b o q λz=>n (e.tab.w b z),s.dom⟩
 refine⟨?_,st⟩
 have m:=st.off
 obtain⟨F,e⟩:=e
 have ls:∀{a:Addr} {xs:List V},H a=some (.lst xs)->H' a=some (.lst xs):=λq=>s.1 _ _ q λz=>e.tab.ok.ne z q rfl
 refine⟨F,e.len,e.zw,e.z0,λb w=>?_,λb o h n=>s.1 b o (e.f0 b o h n) λz=>n (e.tab.r b z),λb h=>e.n0 b (s.dom b h),λi u h=>?_,λi ts h=>?_,λi ts h=>?_,e.dis,λb o h=>s.1 b o (e.pn b o h) λz=>(by rw[e.tab.B b z]at h; cases h),e.pd,λi ts h=>?_,e.dd,e.dm,e.db,⟨s.2,e.tab.w,e.tab.r,e.tab.B⟩⟩
 ·rcases e.wl b w with⟨xs,q⟩|⟨ps,q⟩
  ·exact .inl ⟨xs,ls q⟩
  ·by_cases z:Tb t.K b
   ·exact .inr (s.2.gQ z)
   ·exact .inr ⟨ps,s.1 b _ q z⟩
 ·obtain⟨v,h1,h2⟩:=e.sh i u h
  exact⟨v,h1,h2.mono m⟩
 ·obtain⟨a,xs,h1,h2,h3,h4,h5⟩:=e.ow i ts h
  exact⟨a,xs,h1,h2,h3,ls h4,h5.mono m⟩
 ·obtain⟨a,xs,h1,h2,h3,h4,h5⟩:=e.rf i ts h
  exact⟨a,xs,h1,h2,h3,ls h4,h5.mono m⟩
 ·obtain⟨a,xs,h1,d⟩:=e.dp i ts h
  exact⟨a,xs,h1,d.move rfl rfl m (λb hb=>by obtain⟨_,_,_,ww,_⟩:=d; exact(ww b hb).1) λb o hb q=>s.1 b o q λz=>d.nt e.tab.ok z hb⟩
theorem aP.O7{t:Tx}{W:Addr->Prop}{ρ : En}{σ : St}{H H':Hp}{a:Addr}{xs:List V}(e:aP t W ρ σ H)(s:pB t.K H H')(n:H a=none)(q:H' a=some (.lst xs)):qg t W a ρ σ H':=by
 have na:∀b,W b->b≠a:=λb w z=>by subst z; exact e.wn b w n
 obtain⟨e',st⟩:=e.zW s
 have m:Same (aU W H') (aU (λb=>W b\/b=a) H')->True:=λ_=>trivial
 have mm:∀{v:V} {T:Tr},Rep t.K (aU W H) v T->Rep t.K (aU (λb=>W b\/b=a) H') v T:=λr=>r.mono λb o h=>by
  obtain⟨w,h⟩:=jL h
  rw[gG]
  ·exact st.keep b o w h
  ·rintro(z|rfl)
   ·exact w z
   ·rw[n]at h; cases h
 have Gg:Same (aU W H) (aU (λb=>W b\/b=a) H'):=λb o h=>by
  obtain⟨w,h⟩:=jL h
  rw[gG]
  ·exact st.keep b o w h
  ·rintro(z|rfl)
   ·exact w z
   ·rw[n]at h; cases h
 obtain⟨F,e⟩:=e
 have ls:∀{a:Addr} {xs:List V},H a=some (.lst xs)->H' a=some (.lst xs):=λq=>s.1 _ _ q λz=>e.tab.ok.ne z q rfl
 refine⟨F,⟨e.len,λb z=>.inl (e.zw b z),e.z0,λb w=>?_,e'.f0,e'.n0,λi u h=>?_,λi ts h=>?_,λi ts h=>?_,e.dis,e'.pn,e.pd,λi ts h=>?_,e.dd,e.dm,e.db,e'.tab.N6 λb w=>.inl w⟩,λi ts h z=>?_⟩
 ·rcases w with w|rfl
  ·exact e'.wl b w
  ·exact .inl ⟨xs,q⟩
 ·obtain⟨v,h1,h2⟩:=e.sh i u h
  exact⟨v,h1,mm h2⟩
 ·obtain⟨c,ys,h1,h2,h3,h4,h5⟩:=e.ow i ts h
  exact⟨c,ys,h1,.inl h2,h3,ls h4,h5.mono Gg⟩
 ·obtain⟨c,ys,h1,h2,h3,h4,h5⟩:=e.rf i ts h
  exact⟨c,ys,h1,.inl h2,h3,ls h4,h5.mono Gg⟩
 ·obtain⟨c,ys,h1,d⟩:=e.dp i ts h
  exact⟨c,ys,h1,d.move rfl rfl Gg (λb hb=>by obtain⟨_,_,_,ww,_⟩:=d; exact .inl (ww b hb).1) λb o hb q=>s.1 b o q λz=>d.nt e.tab.ok z hb⟩
 ·obtain⟨c,ys,h1,bs,_,_,ww,_⟩:=e.dp i ts h
  exact na a (ww a z).1 rfl
abbrev FP:=List Tr->Rs (Tr × Bool)
noncomputable def c7(K:FZ)(cl:Str->Addr)(n:Nat)(F:FP):Sp:=λvs H Q E=>∃Z ts,vs.length=n/\aQ (aG K) (aU Z H) vs ts/\(∀b,Z b->Lt H b)/\gM (aG K) H /\
 (F ts).post (λc=>∀H',pB (aG K) H H'->E (.ref (cl c)) none H') (λp=>∀v H',pB (aG K) H H'->rD (aG K) Z H H' v p.1 p.2->Q v H')
def aZ(nl:Nat)(ts:List Tr):En:=ts.map Sl.sh++List.replicate (nl-ts.length) Sl.un
def cG(nl:Nat)(b:SF):FP:=λts=>(b (aZ nl ts)).bind λq=>match q.1 with
 |.rt T fr=>.ok (T,fr)
 |.nx=>.ok (.non,false)
 |_=>.bad
theorem nZ{nl:Nat}{ts:List Tr}{i:Nat}{s:Sl}(h:(aZ nl ts)[i]?=some s):(∃u,ts[i]?=some u/\s=.sh u)\/s=.un:=by
 unfold aZ at h
 by_cases l:i<ts.length
 ·rw[List.getElem?_append_left (by simpa using l),List.getElem?_map]at h
  rw[List.getElem?_eq_getElem l]at h ⊢
  cases h
  exact .inl ⟨_,rfl,rfl⟩
 ·rw[List.getElem?_append_right (by simpa using Nat.le_of_not_lt l)]at h
  rw[List.getElem?_replicate]at h
  split at h
  ·cases h; exact .inr rfl
  ·cases h
theorem Gh{N:List Str}{vs:List V}{i:Nat}{v:V}(h:vs[i]?=some v):(start N vs)[i]?=some (some v):=by
 unfold start
 have l:i<vs.length:=(List.getElem?_eq_some_iff.mp h).1
 rw[List.getElem?_append_left (by simpa using l),List.getElem?_map,h]
 rfl
section
variable {P:Program}{w:World}{K:FZ}{mg:Str->Option Value}{base:Heap}
theorem At.iz{k:Nat}{x:Str}{st:Stmt}{N ps:List Str}{cl:Str->Addr}{b:SF}(a:At K mg x st)(S:sH N ps (cY st))(hn:ps.length<=N.length)
  (hb:∀(kV doc pm:Value) (an:Option Addr) (cdv ct:Value) (us:List Value),us.length=ps.length->bindArgs (PySem.W.fnOf x x (qN st) (mU st) (cY st) .none kV doc pm an cdv ct) ⟨us,[]⟩=pure (ps.zip us))
  (hbody:∀(f:Addr) (cdv:Value) (A:Around) (outer:List Env) (s:Shared) (H:Hp) (E:XK),gZ k (A.deeper (envOfC x (cY st) s.heap.objs.size f cdv)) ->
   ∃ts,j7 (mJ (j9 P w) P w K mg base N x (cY st) f cdv A outer s H E) (mU st) ts/\∀t:Tx,t.K=aG K->(∀c H',F0 t H'->t.EX c->E (.ref (cl c)) none H')->SS t ts b) :
  bJ P w K mg base (k+1) x ps (c7 K cl ps.length (cG N.length b)):=by
 refine a.NT S hb (λvs H Q E h=>?_) (λf cdv A outer s H vs Q E hr h=>?_)
 ·obtain⟨_,_,h,_⟩:=h; exact h
 obtain⟨Z,as,hl,r,zl,tb,h⟩:=h
 obtain⟨ts,h1,h2⟩:=hbody f cdv A outer s H E hr
 refine⟨ts,h1,?_⟩
 have sm:∀(b:Addr) (W:Addr->Prop) ρ σ H',aP ⟨aG K,Z,Tb (aG K),H,λ_=>none,λc=>∀H',pB (aG K) H H'->E (.ref (cl c)) none H'⟩ W ρ σ H'->pB (aG K) H H':=λ_ W ρ σ H' e=>⟨λb o q n=>e.f0 b o q n,e.tab.ok⟩
 have r:=r.nY (Gf tb)
 refine h2 ⟨aG K,Z,Tb (aG K),H,λ_=>none,λc=>∀H',pB (aG K) H H'->E (.ref (cl c)) none H'⟩ rfl (λc H' f0 q=>q H' ⟨λb o z n=>f0.1 b o z n,f0.2⟩) (λb=>Z b\/Tb (aG K) b) (aZ N.length as) (start N vs) H _ ?_ (Rs.cg (Rs.aR h) λq h=>?_)
 ·have la:=r.length
  have qm:∀(i:Nat) (us:List Tr),(aZ N.length as)[i]?=some (.dp us)->False:=λi us q=>by
   rcases nZ q with⟨u',q1,z⟩|z <;> cases z
  refine⟨λ_=>[],?_,λ_ z=>.inl z,λb z=>?_,λb z=>z.elim (zl b) (λz=>.inr (tb.gQ z)),λb o q _=>q,λb q=>q,λi u q=>?_,λi us q=>?_,λi us q=>?_,λi j c m1 m2=>?_,λb o z=>(by cases z),λ_ _ _ _=>rfl,λi us q=>(qm i us q).elim,λi _ us _ _ q=>(qm i us q).elim,λi _ us _ q=>(qm i us q).elim,λi us q=>(qm i us q).elim,⟨tb,λ_ z=>.inr z,λ_ z=>z,λ_ _=>rfl⟩⟩
  ·unfold aZ start
   simp only[List.length_append,List.length_map,List.length_replicate]
   omega
  ·exact(zl b z).ne
  ·rcases nZ q with⟨u',q1,z⟩|z
   ·cases z
    obtain⟨v,e1,e2⟩:=r.sU q1
    exact⟨v,Gh e1,e2⟩
   ·cases z
  ·rcases nZ q with⟨u',q1,z⟩|z <;> cases z
  ·rcases nZ q with⟨u',q1,z⟩|z <;> cases z
  ·obtain⟨us,q|q⟩:=m1 <;> rcases nZ q with⟨u',q1,z⟩|z <;> cases z
 ·obtain⟨fl,ρ'⟩:=q
  cases fl with
  |nx=>exact λW' σ' H' e n=>h .non H' (sm 0 W' ρ' σ' H' e) .non
  |rt T fr =>
   refine λv W' σ' H' e n=>h v H' (sm 0 W' ρ' σ' H' e) ?_
   cases fr <;> exact n
  |bk=>exact h.elim
  |ct=>exact h.elim
end
section
variable {X:Cx}{k:Nat}{x:Str}{ps:List Str}{sp:Sp}{p pos:Pos}{e:Expr}{es:List Expr}{ta:TA}{E:XK}
theorem Y6(D:bJ X.prog X.w X.K X.mg X.base k x ps sp)(hr:gZ k X.A)(hx:Passes (j9 X.prog X.w) X E)(ha:PA X (e::es) ta)(hg:Gl X x:=by rfl)(hdb:(x == ("__debug__" : Str))=false:=by decide)
  (he:starEach (e::es) X.env=(false,eval e X.env)::starEach es X.env:=by rfl) (hpl:(backTo pos (starEach es X.env)).any (·.1)=false:=by rfl):PE X (.Call (.Name x p) (e::es) [] pos) (oN sp [] E ta):=by
 obtain⟨f,fd,h1,h2,h3,h4⟩:=D
 exact Vf h1 hr hg h4 h3 h2 .nil hx ha hdb he hpl
end
section
variable {t:Tx}{K:FZ}
def aK:Rv->Bool
 |.s _=>true
 |_=>false
def jP(z:Tr × Bool):Bool:=fC z.1 || (z.2&&(match z.1 with
 |.lst us=>dR us
 |_=>false))
theorem rD.Gi{W W0:Addr->Prop}{ρ : En}{σ : St}{H H':Hp}{v:V}{z:Tr × Bool}{Z:Addr->Prop}(wn:∀b,W b->H b≠none)(wl:∀b,W b->Lt H' b)(zs:(∀b,W b->Z b)\/jP z=true)(h:rD t.K Z H H' v z.1 z.2)
  (ex:z.2=true->∀a xs,H a=none->H' a=some (.lst xs)->qg t W a ρ σ H'):iD t W ρ σ H H' v (.v z.1 z.2):=by
 obtain⟨T,fr⟩:=z
 cases fr with
 |false =>
  refine .low ?_
  rcases zs with zs|zs
  ·exact Rep.mono (nM (λb _ _ z=>zs b z) λ_ _ _ h=>h) h
  ·unfold jP at zs
   simp only[Bool.false_and,Bool.or_false]at zs
   exact Rep.flat (Ge wl) h zs
 |true =>
  obtain⟨a,xs,ts,rfl,e1,n,q,r⟩:=h
  have e1:T=.lst ts:=e1
  subst e1
  refine⟨⟨a,xs,ts,rfl,rfl,n,q,?_⟩,λU b z eb=>?_⟩
  ·rcases zs with zs|zs
   ·refine r.mono λb o q=>?_
    obtain⟨ne,q⟩:=sJ q
    rw[off_ne ne]
    exact nM (λb _ _ z=>zs b z) (λ_ _ _ h=>h) b o q
   ·unfold jP at zs
    have zs:dR ts=true:=by
     rw[Bool.or_eq_true]at zs
     rcases zs with zs|zs
     ·unfold fC at zs; cases zs
     ·exact zs
    exact r.flat (Y5 wl q _ λb o h=>lB _ _ b o (N7 _ _ b o h)) zs
  ·cases eb
   exact ex rfl a xs n q
theorem iT.length{W:Addr->Prop}{σ : St}{H H':Hp}:∀{vs:List V} {rs:List Rv},iT K W σ H H' vs rs->vs.length=rs.length
 |_,_,.nil=>rfl
 |_,_,.cons _ r=>by rw[List.length_cons,List.length_cons,iT.length r]
theorem post_eq{α : Type}{r:Rs α}{a : α}{EX:Str->Prop}{P : α -> Prop}(h:r=.ok a)(q:P a):r.post EX P:=by
 rw[h]
 exact q
def cJ(F:FP)(fa:AF):EF:=λρ=>(fa ρ).bind λp=>(drs p.2 p.1).bind λas=>(F as).bind λz=>if p.1.any aK=true/\jP z=false then .bad else .ok (.v z.1 z.2,p.2)
theorem Gj{W:Addr->Prop}{σ : St}{ρ : En}{H H':Hp}(wn:∀b,W b->H b≠none):∀{vs:List V} {rs:List Rv} {as:List Tr},iT t.K W σ H H' vs rs->drs ρ rs=.ok as->rs.any aK=false->aQ t.K (aU W H') vs as
 |_,_,_,.nil,q,_=>by cases q; exact .nil
 |_,.v T fr::_,_,.cons h r,q,n=>by
  unfold drs at q
  obtain⟨a,q1,q⟩:=jM q
  obtain⟨as,q2,q⟩:=jM q
  cases q
  cases q1
  exact .cons (h.rep wn) (Gj wn r q2 (by simpa[List.any_cons,aK]using n))
 |_,.s i::_,_,.cons h r,q,n=>by simp[aK]at n
theorem qW.reps{W:Addr->Prop}{H:Hp}:∀{vs:List V} {as:List Tr},qW K W H vs as->aQ K (aU (λ_=>False) H) vs as
 |_,_,.nil=>.nil
 |_,_,.cons h r=>.cons (h.rep.mono λb o q=>by rw[gG id]; exact q) (qW.reps r)
theorem O8(hK:t.K=aG K){cl:Str->Addr}{n:Nat}{F:FP}{E:XK}{ta:TA}{fa:AF}(hx:∀c H',F0 t H'->t.EX c->E (.ref (cl c)) none H')(hn:∀ρ p,fa ρ=.ok p->p.1.length=n)(ha:SA t ta fa):SE t (oN (c7 K cl n F) [] E ta) (cJ F fa):=λW ρ σ H Q e h=>by
 have h:=Rs.aR h
 cases ek:fa ρ with
 |bad=>rw[ek]at h; exact h.elim
 |ex c=>exact ha W ρ σ H _ e (by rw[ek]at h ⊢; exact h)
 |ok p =>
 have hl:=hn ρ p ek
 rw[ek]at h
 refine ha W ρ σ H _ e (post_eq ek ?_)
 intro vs H1 e1 s1 v1
 have h:((drs p.2 p.1).bind _).post _ _:=h
 obtain⟨as,k1,h⟩:=dO (Rs.aR h) (uL _ _)
 have r:=wg e1 e.wn v1 k1
 have lv:vs.length=n:=v1.length.trans hl
 have fin:∀Z:Addr->Prop,(∀b,Z b->W b)->(∀z,F as=.ok z->¬(p.1.any aK=true/\jP z=false)->(∀b,W b->Z b)\/jP z=true)->aQ (aG K) (aU Z H1) vs as->c7 K cl n F (vs++[]) H1 Q E:=λZ zw zs rr=>by
  rw[List.append_nil]
  refine⟨Z,as,lv,rr,λb z=>e1.wl b (zw b z),by rw[<-hK]; exact e1.tab.ok,?_⟩
  have h:=Rs.aR h
  cases ef:F as with
  |bad=>rw[ef]at h; exact h.elim
  |ex c =>
   rw[ef]at h
   exact λH' sm=>hx c H' ⟨λb o q nr=>sm.1 b o (e1.f0 b o q nr) λz=>nr (e1.tab.r b (by rw[hK]; exact z)),by rw[hK]; exact sm.2⟩ h
  |ok z =>
   rw[ef]at h
   have h:(if p.1.any aK=true/\jP z=false then Rs.bad else .ok (.v z.1 z.2,p.2):Rs (Rv × En)).post _ _:=h
   split at h
   ·exact h.elim
   ·rename_i c
    intro v H' sm vr
    rw[<-hK]at vr sm
    obtain⟨eg,sg⟩:=e1.zW sm
    refine h v H' eg (s1.trans sg) (iD.back (H:=H1) ?_ s1.dom)
    exact rD.Gi (W0:=W) e1.wn eg.wl (zs z ef c) vr λ_ a xs na qa=>e1.O7 sm na qa
 by_cases an:p.1.any aK=true
 ·refine fin (λ_=>False) (λ_ z=>z.elim) (λz ez c=>.inr ?_) ?_
  ·cases fz:jP z with
   |true=>rfl
   |false=>exact(c ⟨an,fz⟩).elim
  ·rw[<-hK]
   exact r.reps
 ·refine fin W (λ_ z=>z) (λz ez c=>.inl λ_ z=>z) ?_
  rw[<-hK]
  exact Gj e.wn v1 k1 (by simpa using an)
end
end L2
end
section
namespace L2
open PySem PySem.Spec PyProof.Rows
abbrev FR:=List Tr->Rs ((Tr × Bool) × List Tr)
noncomputable def gW(K:FZ)(n r:Nat)(F:FR):Sp:=λvs H Q E=>∃(Z:Addr->Prop) (ts:List Tr) (a:Addr) (xs:List V) (us:List Tr),vs.length=n/\ts.length=n/\vs[r]?=some (.ref a)/\ts[r]?=some (.lst us)/\Z a/\H a=some (.lst xs)/\aQ (aG K) (aU Z H) xs us /\
 (∀j v u,j≠r->vs[j]?=some v->ts[j]?=some u->Rep (aG K) (aU Z H) v u)/\(∀b,Z b->Lt H b)/\gM (aG K) H /\
 (F ts).post (λ_=>False) (λp=>∀v H' ys,(∀b o,H b=some o->b≠a->¬Tb (aG K) b->H' b=some o)->gM (aG K) H'->(∀b,H' b=none->H b=none)->H' a=some (.lst ys)->aQ (aG K) (aU Z H') ys p.2->rD (aG K) Z H H' v p.1.1 p.1.2->Q v H')
def aY{α : Type}:Rs α -> Rs α
 |.bad=>.bad
 |.ex _=>.bad
 |.ok a=>.ok a
theorem wH{α : Type}{r:Rs α}{EX:Str->Prop}{P : α -> Prop}(h:(aY r).post EX P):r.post (λ_=>False) P:=by
 cases r <;> exact h
theorem wI{α : Type}(r:Rs α)(c:Str):aY r ≠ .ex c:=by
 cases r <;> (intro z; cases z)
theorem O9{α β : Type}{r:Rs α}{f : α -> Rs β}(h1:∀c,r ≠ .ex c)(h2:∀a c,f a ≠ .ex c)(c:Str):r.bind f ≠ .ex c:=by
 cases r with
 |bad=>intro z; cases z
 |ex d=>exact(h1 d rfl).elim
 |ok a=>exact h2 a c
noncomputable def fX(nl r:Nat)(b:SF):FR:=λts=>match ts[r]? with
 | some (.lst us)=>(aY (b ((aZ nl ts).set r (.rf us)))).bind λq=>(match q.2[r]? with
  | some (.rf ws)=>(match q.1 with
   |.rt T fr=>.ok ((T,fr),ws)
   |.nx=>.ok ((.non,false),ws)
   |_=>.bad)
  |_=>.bad)
 |_=>.bad
theorem Y7(nl r:Nat)(b:SF)(as:List Tr)(c:Str):fX nl r b as ≠ .ex c:=by
 unfold fX
 split
 ·refine O9 (wI _) (λq c=>?_) c
  split
  ·split <;> (intro z; cases z)
  ·intro z; cases z
 ·intro z; cases z
section
variable {P:Program}{w:World}{K:FZ}{mg:Str->Option Value}{base:Heap}
theorem At.rE{k:Nat}{x:Str}{st:Stmt}{N ps:List Str}{cl:Str->Addr}{b:SF}(r:Nat)(a:At K mg x st)(S:sH N ps (cY st))(hn:ps.length<=N.length)
  (hb:∀(kV doc pm:Value) (an:Option Addr) (cdv ct:Value) (us:List Value),us.length=ps.length->bindArgs (PySem.W.fnOf x x (qN st) (mU st) (cY st) .none kV doc pm an cdv ct) ⟨us,[]⟩=pure (ps.zip us))
  (hbody:∀(f:Addr) (cdv:Value) (A:Around) (outer:List Env) (s:Shared) (H:Hp) (E:XK),gZ k (A.deeper (envOfC x (cY st) s.heap.objs.size f cdv)) ->
   ∃ts,j7 (mJ (j9 P w) P w K mg base N x (cY st) f cdv A outer s H E) (mU st) ts/\∀t:Tx,t.K=aG K->(∀c H',F0 t H'->t.EX c->E (.ref (cl c)) none H')->SS t ts b) :
  bJ P w K mg base (k+1) x ps (gW K ps.length r (fX N.length r b)):=by
 refine a.NT S hb (λvs H Q E h=>?_) (λf cdv A outer s H vs Q E hr h=>?_)
 ·obtain⟨_,_,_,_,_,h,_⟩:=h; exact h
 obtain⟨Z,as,ad,xs,us,hl,hl2,hv,ht,hz,hx,rx,ra,zl,tb,h⟩:=h
 have rx:=rx.nY (Gf tb)
 have ra:∀j v u,j≠r->vs[j]?=some v->as[j]?=some u->Rep (aG K) (aU (λb=>Z b\/Tb (aG K) b) H) v u:=λj v u n q1 q2=>(ra j v u n q1 q2).nY (Gf tb)
 obtain⟨ts,h1,h2⟩:=hbody f cdv A outer s H E hr
 refine⟨ts,h1,?_⟩
 unfold fX at h
 rw[ht]at h
 have h:((aY (b ((aZ N.length as).set r (.rf us)))).bind _).post _ _:=h
 refine h2 ⟨aG K,Z,λb=>b=ad\/Tb (aG K) b,H,λ_=>none,λ_=>False⟩ rfl (λc H' f0 q=>q.elim) (λb=>Z b\/Tb (aG K) b) ((aZ N.length as).set r (.rf us)) (start N vs) H _ ?_ (Rs.cg (wH (Rs.aR h)) λq h=>?_)
 ·have lr:r<as.length:=(List.getElem?_eq_some_iff.mp ht).1
  have mu:∀j,Mu ((aZ N.length as).set r (.rf us)) j->j=r:=λj m=>by
   obtain⟨ws,q|q⟩:=m <;> rcases get_set q with⟨rfl,_,_⟩|⟨ne,q⟩
   ·rfl
   ·rcases nZ q with⟨u',q1,z⟩|z <;> cases z
   ·rfl
   ·rcases nZ q with⟨u',q1,z⟩|z <;> cases z
  have qm:∀(i:Nat) (ws:List Tr),((aZ N.length as).set r (.rf us))[i]?=some (.dp ws)->False:=λi ws q=>by
   rcases get_set q with⟨rfl,z,_⟩|⟨ne,q⟩
   ·cases z
   ·rcases nZ q with⟨u',q1,z⟩|z <;> cases z
  refine⟨λ_=>[],?_,λ_ z=>.inl z,λb z=>?_,λb z=>z.elim (zl b) (λz=>.inr (tb.gQ z)),λb o q _=>q,λb q=>q,λi u q=>?_,λi ws q=>?_,λi ws q=>?_,λi j c m1 m2 _ _=>(mu i m1).trans (mu j m2).symm,λb o z=>(by cases z),λ_ _ _ _=>rfl,λi us q=>(qm i us q).elim,λi _ us _ _ q=>(qm i us q).elim,λi _ us _ q=>(qm i us q).elim,λi us q=>(qm i us q).elim,⟨tb,λ_ z=>.inr z,λ_ z=>.inr z,λ_ _=>rfl⟩⟩
  ·unfold aZ start
   simp only[List.length_append,List.length_map,List.length_replicate,List.length_set]
   omega
  ·exact(zl b z).ne
  ·rcases get_set q with⟨rfl,z,_⟩|⟨ne,q⟩
   ·cases z
   ·rcases nZ q with⟨u',q1,z⟩|z
    ·cases z
     have lj:i<vs.length:=by
      rw[hl,<-hl2]
      exact(List.getElem?_eq_some_iff.mp q1).1
     exact⟨vs[i],Gh (List.getElem?_eq_getElem lj),ra i _ _ ne (List.getElem?_eq_getElem lj) q1⟩
    ·cases z
  ·rcases get_set q with⟨rfl,z,_⟩|⟨ne,q⟩
   ·cases z
   ·rcases nZ q with⟨u',q1,z⟩|z <;> cases z
  ·rcases get_set q with⟨rfl,z,_⟩|⟨ne,q⟩
   ·cases z
    exact⟨ad,xs,Gh hv,.inl hz,.inl rfl,hx,rx⟩
   ·rcases nZ q with⟨u',q1,z⟩|z <;> cases z
 ·obtain⟨fl,ρ'⟩:=q
  dsimp only at h
  split at h
  ·rename_i ws q
   ·have key:∀W' σ' H',aP ⟨aG K,Z,λb=>b=ad\/Tb (aG K) b,H,λ_=>none,λ_=>False⟩ W' ρ' σ' H'->(∀b o,H b=some o->b≠ad->¬Tb (aG K) b->H' b=some o)/\gM (aG K) H'/\(∀b,H' b=none->H b=none)/\∃ys,H' ad=some (.lst ys)/\aQ (aG K) (aU Z H') ys ws:=λW' σ' H' e=>by
     obtain⟨c,ys,q1,q2,q3,q4,q5⟩:=e.rf r ws q
     have q3:c=ad:=q3.elim id λz=>(e.tab.ok.ne z q4 rfl).elim
     subst q3
     exact⟨λb o z n n'=>e.f0 b o z λy=>y.elim n n',e.tab.ok,e.n0,ys,q4,q5.mono (zQ e)⟩
    cases fl with
    |nx =>
     intro W' σ' H' e n
     obtain⟨k1,Gm,k2,ys,k3,k4⟩:=key W' σ' H' e
     exact h .non H' ys k1 Gm k2 k3 k4 .non
    |rt T fr =>
     intro v W' σ' H' e n
     obtain⟨k1,Gm,k2,ys,k3,k4⟩:=key W' σ' H' e
     refine h v H' ys k1 Gm k2 k3 k4 ?_
     cases fr <;> exact n
    |bk=>exact h.elim
    |ct=>exact h.elim
  ·exact h.elim
end
section
variable {t:Tx}{K:FZ}
theorem iT.get{W:Addr->Prop}{σ : St}{H H':Hp}:∀{vs:List V} {rs:List Rv} {j:Nat} {v:V} {r:Rv},iT K W σ H H' vs rs->vs[j]?=some v->rs[j]?=some r->gq K W σ H H' v r
 |_,_,_,_,_,.nil,e,_=>by simp at e
 |_,_,0,_,_,.cons h _,e,q=>by simp at e q; subst e q; exact h
 |_,_,j+1,_,_,.cons _ t,e,q=>iT.get (j:=j) t (by simpa using e) (by simpa using q)
theorem Gn{ρ : En}:∀{rs:List Rv} {as:List Tr} {j:Nat} {u:Tr},drs ρ rs=.ok as->as[j]?=some u->∃r,rs[j]?=some r/\dr ρ r=.ok u
 | [],_,_,_,h,e=>by cases h; simp at e
 |r::rs,as,j,u,h,e=>by
  unfold drs at h
  obtain⟨a,q1,h⟩:=jM h
  obtain⟨bs,q2,h⟩:=jM h
  cases h
  cases j with
  |zero=>simp at e; subst e; exact⟨r,rfl,q1⟩
  |succ j =>
   obtain⟨r',k1,k2⟩:=Gn (j:=j) q2 (by simpa using e)
   exact⟨r',by simpa using k1,k2⟩
theorem Pa{ρ : En}:∀{rs:List Rv} {as:List Tr},drs ρ rs=.ok as->as.length=rs.length
 | [],_,h=>by cases h; rfl
 |r::rs,as,h=>by
  unfold drs at h
  obtain⟨a,q1,h⟩:=jM h
  obtain⟨bs,q2,h⟩:=jM h
  cases h
  rw[List.length_cons,List.length_cons,Pa q2]
theorem Pb{ρ : En}:∀{rs:List Rv} {as:List Tr} {j:Nat} {r:Rv},drs ρ rs=.ok as->rs[j]?=some r->∃u,as[j]?=some u/\dr ρ r=.ok u
 | [],_,_,_,h,e=>by simp at e
 |r::rs,as,j,u,h,e=>by
  unfold drs at h
  obtain⟨a,q1,h⟩:=jM h
  obtain⟨bs,q2,h⟩:=jM h
  cases h
  cases j with
  |zero=>simp at e; subst e; exact⟨a,rfl,q1⟩
  |succ j =>
   obtain⟨r',k1,k2⟩:=Pb (j:=j) q2 (by simpa using e)
   exact⟨r',by simpa using k1,k2⟩
def others(r i:Nat)(rs:List Rv):Bool:=(rs.eraseIdx r).all λx=>match x with
 |.s j=>j != i
 |_=>true
noncomputable def cu(r:Nat)(F:FR)(fa:AF):EF:=λρ=>(fa ρ).bind λp=>match p.1[r]? with
 |some (.s i)=>if others r i p.1=true then((con p.2 i).bind λ_=>(drs p.2 p.1).bind λas=>(F as).bind λz=>if((p.1.eraseIdx r).any aK=true/\jP z.1=false)\/(((p.1.eraseIdx r).any aK=true\/z.1.2=true)/\dR z.2=false)then .bad else .ok (.v z.1.1 z.1.2,aV i z.2 p.2))else .bad
 |_=>.bad
theorem Pg{α : Type}{l:List α}{r j:Nat}{x : α}(n:j≠r)(h:l[j]?=some x):x∈l.eraseIdx r:=by
 rw[List.mem_eraseIdx_iff_getElem?]
 exact⟨j,n,h⟩
theorem Y8(hK:t.K=aG K){n r:Nat}{F:FR}{E:XK}{ta:TA}{fa:AF}(nF:∀as c,F as ≠ .ex c)(hn:∀ρ p,fa ρ=.ok p->p.1.length=n)(ha:SA t ta fa):SE t (oN (gW K n r F) [] E ta) (cu r F fa):=λW ρ σ H Q e h=>by
 have h:=Rs.aR h
 cases ek:fa ρ with
 |bad=>rw[ek]at h; exact h.elim
 |ex c=>exact ha W ρ σ H _ e (by rw[ek]at h ⊢; exact h)
 |ok p =>
 have hl:=hn ρ p ek
 rw[ek]at h
 refine ha W ρ σ H _ e (post_eq ek ?_)
 intro vs H1 e1 s1 v1
 have h:(match p.1[r]? with
  |some (.s i)=>if others r i p.1=true then((con p.2 i).bind λ_=>(drs p.2 p.1).bind λas=>(F as).bind λz=>if((p.1.eraseIdx r).any aK=true/\jP z.1=false)\/(((p.1.eraseIdx r).any aK=true\/z.1.2=true)/\dR z.2=false)then .bad else .ok (.v z.1.1 z.1.2,aV i z.2 p.2))else .bad
  |_=>.bad:Rs (Rv × En)).post _ _:=h
 split at h
 ·rename_i i er
  split at h
  ·rename_i ho
   obtain⟨us,k0,h⟩:=dO (Rs.aR h) (Ga _ _)
   obtain⟨as,k1,h⟩:=dO (Rs.aR h) (uL _ _)
   obtain⟨z,k2,h⟩:=dO (Rs.aR h) (nF _)
   obtain⟨mi,a,xs,hi,wa,hx,rx,h0⟩:=e1.con k0
   have lr:r<vs.length:=by rw[v1.length]; exact(List.getElem?_eq_some_iff.mp er).1
   have Y9:vs[r]?=some (.ref a):=by
    have q:=v1.get (List.getElem?_eq_getElem lr) er
    have q : σ[i]?=some (some vs[r]):=q
    rw[hi]at q
    rw[List.getElem?_eq_getElem lr,Option.some.inj (Option.some.inj q)]
   have Za:as[r]?=some (.lst us):=by
    obtain⟨u,q1,q2⟩:=Pb k1 er
    rw[q1]
    unfold L2.con at k0
    dsimp only[dr]at q2
    split at k0 <;> rename_i q3
    ·rw[q3]at q2; cases q2; cases k0; rfl
    ·rw[q3]at q2; cases q2; cases k0; rfl
    ·cases k0
   split at h
   ·exact h.elim
   ·rename_i c
    have nl:((p.1.eraseIdx r).any aK=true\/z.1.2=true)->dR z.2=true:=λy=>by
     cases q:dR z.2 with
     |true=>rfl
     |false=>exact(c (.inr ⟨y,q⟩)).elim
    have nf:z.1.2=true->dR z.2=true:=λy=>nl (.inr y)
    have fin:∀Z:Addr->Prop,Z a->(∀b,Z b->W b)->((∀b,W b->Z b)\/jP z.1=true)->((∀b,W b->Z b)\/dR z.2=true)->(∀j v u,j≠r->vs[j]?=some v->as[j]?=some u->Rep (aG K) (aU Z H1) v u)->gW K n r F (vs++[]) H1 Q E:=λZ za zw zs fq rr=>by
     rw[List.append_nil]
     refine⟨Z,as,a,xs,us,v1.length.trans hl,(Pa k1).trans hl,Y9,Za,za,hx,?_,rr,λb z=>e1.wl b (zw b z),by rw[<-hK]; exact e1.tab.ok,?_⟩
     ·rw[<-hK]
      exact rx.mono (nM (λb _ _ z=>zw b z) λ_ _ _ h=>h)
     rw[k2]
     intro v H' ys fr tb dm hy ry vr
     rw[<-hK]at ry vr fr tb
     have kp:∀b o,¬W b->H1 b=some o->H' b=some o:=λb o nw q=>fr b o q (λz=>by subst z; exact nw wa) λz=>nw (e1.tab.w b z)
     have zX:∀b,W b->Lt H' b:=λb wb=>by
      by_cases q:b=a
      ·subst q; exact .inl ⟨ys,hy⟩
      ·by_cases z:Tb t.K b
       ·exact .inr (tb.gQ z)
       ·rcases e1.wl b wb with⟨zs,q2⟩|⟨zs,q2⟩
        ·exact .inl ⟨zs,fr b _ q2 q z⟩
        ·exact .inr ⟨zs,fr b _ q2 q z⟩
     have st:cX W H1 H':=⟨kp,dm⟩
     have Zb:aQ t.K (aU W H') ys z.2:=by
      rcases fq with q|q
      ·exact ry.mono (nM (λb _ _ z=>q b z) λ_ _ _ h=>h)
      ·exact ry.flat (Ge zX) q
     have e2:aP t W (aV i z.2 p.2) σ H':=e1.move mi hi st.off (λ_ h=>h) zX tb fr dm h0 hy Zb
     refine h v H' e2 (s1.trans st) (iD.back (H:=H1) ?_ s1.dom)
     refine rD.Gi (W0:=W) (z:=z.1) e1.wn zX zs vr λfz b zs nb qb=>?_
     have Ph:∀c,(W c\/c=b)->Lt H' c:=λc wc=>by
      rcases wc with wc|rfl
      ·exact zX c wc
      ·exact .inl ⟨zs,qb⟩
     obtain⟨F,fQ⟩:=id e1
     refine⟨F,fQ.move mi hi (λc o q=>?_) (λ_ h=>.inl h) Ph tb fr dm h0 hy (ry.flat (Ge Ph) (nf fz)),λj us hj zj=>?_⟩
     rotate_left
     ·obtain⟨c,ys,h1,bs,_,_,ww,_⟩:=fQ.dp j us (rm hj)
      exact e1.wn b (ww b zj).1 nb
     obtain⟨nc,q⟩:=jL q
     rw[gG]
     ·exact kp c o nc q
     ·rintro(z|rfl)
      ·exact nc z
      ·rw[nb]at q; cases q
    by_cases an:(p.1.eraseIdx r).any aK=true
    ·refine fin (λb=>b=a) rfl (λb z=>by subst z; exact wa) (.inr ?_) (.inr (nl (.inl an))) λj v u nj qv qu=>?_
     ·cases fz:jP z.1 with
      |true=>rfl
      |false=>exact(c (.inl ⟨an,fz⟩)).elim
     ·obtain⟨x,q1,q2⟩:=Gn k1 qu
      have ok:=v1.get qv q1
      rw[<-hK]
      cases x with
      |v T fr =>
       cases q2
       exact(ok.rep e.wn).mono (nM (λb _ _ z=>by subst z; exact wa) λ_ _ _ h=>h)
      |s j' =>
       have Zc:j'≠i:=by
        have:=List.all_eq_true.mp ho _ (Pg nj q1)
        simpa using this
       have ok : σ[j']?=some (some v):=ok
       have q2:dr p.2 (.s j')=.ok u:=q2
       have q3:∃ws,L2.con p.2 j'=.ok ws/\u=.lst ws:=by
        dsimp only[dr]at q2
        unfold L2.con
        split at q2 <;> rename_i q3
        ·cases q2; (try rw[q3]); exact⟨_,rfl,rfl⟩
        ·cases q2; (try rw[q3]); exact⟨_,rfl,rfl⟩
        ·cases q2
       obtain⟨ws,q3,rfl⟩:=q3
       obtain⟨mj,a',zs,hj,wj,hz,rz,_⟩:=e1.con q3
       rw[ok]at hj
       cases hj
       have na:a'≠a:=λy=>by
        subst y
        exact Zc (e1.dis j' i a' mj mi ok hi)
       refine .lst (eF.of ?_) (rz.mono (nM (λb _ _ z=>by subst z; exact wa) λ_ _ _ h=>h))
       rw[gG (W:=λb=>b=a) na]
       exact hz
    ·refine fin W wa (λ_ z=>z) (.inl λ_ z=>z) (.inl λ_ z=>z) λj v u nj qv qu=>?_
     obtain⟨x,q1,q2⟩:=Gn k1 qu
     have ok:=v1.get qv q1
     rw[<-hK]
     cases x with
     |v T fr=>cases q2; exact ok.rep e.wn
     |s j' =>
      refine(an ?_).elim
      exact List.any_eq_true.mpr ⟨_,Pg nj q1,rfl⟩
  ·exact h.elim
 ·exact h.elim
end
end L2
end
section
namespace L2
open PySem PySem.Spec PyProof.Rows
section
variable {prog:Program}{w:World}{A:Around}{R:Result->Shared->Prop}{s:Shared}
end
noncomputable def zY(wi:TI)(g:TG)(src:List (Option Nat))(tc:TT)(te:TE):TE:=λσ H Q=>wi σ H λJ H1=>∀D,H1 D=none ->
 ∃W:Nat->Nat->St->Hp->Prop,(∃m,W 0 m (jt src σ) (upd H1 D (.lst [])))/\∀i m σ' H',W i m σ' H' ->
  (J.stop i H'/\M4 Q D H')\/(J.go i H'/\∀x jK,J.vK i H' x jK->g x σ' jK λσ2 H2=>tc σ2 H2 λb Pk=>if b=true then te σ2 Pk λv H3=>∃xs,H3 D=some (.lst xs)/\xs.length<sizeLine/\∃m',m'<m/\W (i+1) m' σ2 (upd H3 D (.lst (xs++[v])))else ∃m',m'<m/\W (i+1) m' σ2 Pk)
section
variable {X:Cx}{elt tg iter cnd:Expr}{scope sc:Scope}{pos:Pos}{No N:List Str}{src:List (Option Nat)}{wi:TI}{g:TG}{te:TE}{tc:TT}
end
end L2
end
section
namespace L2
open PySem PySem.Spec PyProof.Rows
def cB:Sl->Sl
 |.dp _=>.un
 |s=>s
def bH(src:List (Option Nat))(ρ : En):En:=src.map λo=>match o with
 |some j=>cB ((ρ[j]?).getD .un)
 |none=>.un
def aX:List (Option Nat)->En->En->En
 |some j::src,.ow ts::ρi,ρ=>aX src ρi (aV j ts ρ)
 |some j::src,.rf ts::ρi,ρ=>aX src ρi (aV j ts ρ)
 |_::src,_::ρi,ρ=>aX src ρi ρ
 |_,_,ρ=>ρ
def bZ:Option Sl->Bool
 |some (.ow _)=>true
 |some (.rf _)=>true
 |_=>false
def bF:List (Option Nat)->En->En->Bool
 |some j::src,s::ρi,ρ=>(!bZ ρ[j]? || bZ (some s))&&bF src ρi ρ
 |none::src,_::ρi,ρ=>bF src ρi ρ
 | [],_,_=>true
 |_,[],_=>false
theorem Pn{ρ : En}{i:Nat}:bZ ρ[i]?=true↔Mu ρ i:=by
 constructor
 ·intro h
  unfold bZ at h
  split at h <;> rename_i q
  ·exact⟨_,.inl q⟩
  ·exact⟨_,.inr q⟩
  ·cases h
 ·rintro⟨ts,h|h⟩ <;> rw[h] <;> rfl
theorem zZ:∀{src:List (Option Nat)} {ρi ρ : En} {k j:Nat},bF src ρi ρ = true->src[k]?=some (some j)->Mu ρ j->Mu ρi k
 | [],_,_,_,_,_,h,_=>by simp at h
 |some j'::src,s::ρi,ρ,k,j,h,hk,m=>by
  unfold bF at h
  rw[Bool.and_eq_true]at h
  cases k with
  |zero =>
   simp at hk
   subst hk
   have h1:=h.1
   rw[Pn.mpr m]at h1
   have h1:bZ (some s)=true:=by simpa using h1
   cases s with
   |un=>cases h1
   |sh _=>cases h1
   |dp _=>cases h1
   |ow ts=>exact⟨ts,.inl rfl⟩
   |rf ts=>exact⟨ts,.inr rfl⟩
  |succ k =>
   obtain⟨ts,q⟩:=zZ (k:=k) h.2 (by simpa using hk) m
   exact⟨ts,by simpa using q⟩
 |none::src,s::ρi,ρ,k,j,h,hk,m=>by
  unfold bF at h
  cases k with
  |zero=>simp at hk
  |succ k =>
   obtain⟨ts,q⟩:=zZ (k:=k) h (by simpa using hk) m
   exact⟨ts,by simpa using q⟩
 |some j'::src,[],ρ,k,j,h,hk,m=>by unfold bF at h; cases h
 |none::src,[],ρ,k,j,h,hk,m=>by unfold bF at h; cases h
def Inj(src:List (Option Nat)):Prop:=∀(k k' j:Nat),src[k]?=some (some j)->src[k']?=some (some j)->k=k'
theorem rF{src:List (Option Nat)}(h:(src.filterMap id).Nodup):Inj src:=by
 induction src with
 |nil=>intro k k' j h1; simp at h1
 |cons o src ih =>
  have tail:Inj src:=by
   cases o with
   |none=>exact ih (by simpa using h)
   |some j=>exact ih (by simpa using(List.nodup_cons.mp (by simpa using h)).2)
  intro k k' j h1 h2
  have no:∀{m:Nat},o=some j->src[m]?=some (some j)->False:=λ{m} e q=>by
   subst e
   have n:=(List.nodup_cons.mp (show(j::src.filterMap id).Nodup by simpa using h)).1
   exact n (List.mem_filterMap.mpr ⟨some j,List.mem_of_getElem? q,rfl⟩)
  cases k with
  |zero =>
   have e1:o=some j:=by simpa using h1
   cases k' with
   |zero=>rfl
   |succ k'=>exact(no e1 (by simpa using h2)).elim
  |succ k =>
   cases k' with
   |zero=>exact(no (by simpa using h2) (by simpa using h1)).elim
   |succ k'=>rw[tail k k' j (by simpa using h1) (by simpa using h2)]
theorem Pq{ρ : En}{i j:Nat}{ts:List Tr}(h:j≠i):(aV i ts ρ)[j]?=ρ[j]? := by
 unfold aV
 split
 ·exact List.getElem?_set_ne (Ne.symm h)
 ·exact List.getElem?_set_ne (Ne.symm h)
 ·rfl
theorem Zd{ρ ρ':En}{i:Nat}{ts:List Tr}(h : ρ[i]?=ρ'[i]?):(aV i ts ρ)[i]?=(aV i ts ρ')[i]? := by
 unfold aV
 rw[h]
 cases q : ρ'[i]? with
 |none=>dsimp only; rw[h,q]
 |some s =>
  have l':i < ρ'.length:=(List.getElem?_eq_some_iff.mp q).1
  have l:i < ρ.length:=(List.getElem?_eq_some_iff.mp (h.trans q)).1
  cases s with
  |un=>dsimp only; rw[h,q]
  |sh _=>dsimp only; rw[h,q]
  |dp _=>dsimp only; rw[h,q]
  |ow _=>dsimp only; rw[sZ l,sZ l']
  |rf _=>dsimp only; rw[sZ l,sZ l']
theorem rG:∀(src:List (Option Nat)) (ρi ρ : En),(aX src ρi ρ).length = ρ.length
 | [],ρi,ρ=>by unfold aX; rfl
 |o::src,[],ρ=>by cases o <;> (unfold aX; rfl)
 |none::src,s::ρi,ρ=>by unfold aX; exact rG src ρi ρ
 |some j::src,.un::ρi,ρ=>by unfold aX; exact rG src ρi ρ
 |some j::src,.sh _::ρi,ρ=>by unfold aX; exact rG src ρi ρ
 |some j::src,.dp _::ρi,ρ=>by unfold aX; exact rG src ρi ρ
 |some j::src,.ow ts::ρi,ρ=>by unfold aX; rw[rG src ρi,Gb]
 |some j::src,.rf ts::ρi,ρ=>by unfold aX; rw[rG src ρi,Gb]
theorem m5:∀{src:List (Option Nat)} {ρi ρ : En} {j:Nat} {s:Sl},Inj src->(aX src ρi ρ)[j]?=some s ->
  (∃(k:Nat) (ts:List Tr),src[k]?=some (some j)/\(ρi[k]?=some (.ow ts)\/ρi[k]?=some (.rf ts))/\(aV j ts ρ)[j]?=some s)\/((∀k:Nat,src[k]?=some (some j)->¬Mu ρi k)/\ρ[j]?=some s)
 | [],ρi,ρ,j,s,_,h=>by
  unfold aX at h
  exact .inr ⟨λk q=>by simp at q,h⟩
 |o::src,[],ρ,j,s,_,h=>by
  have h : ρ[j]?=some s:=by cases o <;> (unfold aX at h; exact h)
  refine .inr ⟨λk _ m=>?_,h⟩
  obtain⟨_,q|q⟩:=m <;> simp at q
 |o::src,x::ρi,ρ,j,s,I,h=>by
  have It:Inj src:=λk k' j h1 h2=>by
   have:=I (k+1) (k'+1) j (by simpa using h1) (by simpa using h2)
   omega
  have keep:(o=none\/bZ (some x)=false)->(aX src ρi ρ)[j]?=some s->(∃(k:Nat) (ts:List Tr),(o::src)[k]?=some (some j)/\((x::ρi)[k]?=some (.ow ts)\/(x::ρi)[k]?=some (.rf ts))/\(aV j ts ρ)[j]?=some s)\/((∀k:Nat,(o::src)[k]?=some (some j)->¬Mu (x::ρi) k)/\ρ[j]?=some s):=λc h=>by
   rcases m5 It h with⟨k,ts,q1,q2,q3⟩|⟨n,q⟩
   ·exact .inl ⟨k+1,ts,by simpa using q1,by simpa using q2,q3⟩
   ·refine .inr ⟨λk qk m=>?_,q⟩
    cases k with
    |zero =>
     rcases c with c|c
     ·subst c; simp at qk
     ·rw[<-Pn]at m
      have m:bZ (some x)=true:=m
      rw[c]at m
      cases m
    |succ k =>
     obtain⟨ts,m⟩:=m
     exact n k (by simpa using qk) ⟨ts,by simpa using m⟩
  have put:∀(i:Nat) (ts:List Tr),o=some i->(x=.ow ts\/x=.rf ts)->(aX src ρi (aV i ts ρ))[j]?=some s->(∃(k:Nat) (ts:List Tr),(o::src)[k]?=some (some j)/\((x::ρi)[k]?=some (.ow ts)\/(x::ρi)[k]?=some (.rf ts))/\(aV j ts ρ)[j]?=some s)\/((∀k:Nat,(o::src)[k]?=some (some j)->¬Mu (x::ρi) k)/\ρ[j]?=some s):=λi ts eo ex h=>by
   rcases m5 It h with⟨k,us,q1,q2,q3⟩|⟨n,q⟩
   ·have ne:j≠i:=λz=>by
     subst z
     have:=I 0 (k+1) j (by simpa using eo) (by simpa using q1)
     omega
    refine .inl ⟨k+1,us,by simpa using q1,by simpa using q2,?_⟩
    rw[<-Zd (Pq ne)]
    exact q3
   ·by_cases e:j=i
    ·subst e
     refine .inl ⟨0,ts,by simpa using eo,?_,q⟩
     rcases ex with rfl|rfl
     ·exact .inl rfl
     ·exact .inr rfl
    ·rw[Pq e]at q
     refine .inr ⟨λk qk m=>?_,q⟩
     cases k with
     |zero =>
      rw[eo]at qk
      simp at qk
      exact e qk.symm
     |succ k =>
      obtain⟨ts,m⟩:=m
      exact n k (by simpa using qk) ⟨ts,by simpa using m⟩
  cases o with
  |none=>unfold aX at h; exact keep (.inl rfl) h
  |some i =>
   cases x with
   |un=>unfold aX at h; exact keep (.inr rfl) h
   |sh _=>unfold aX at h; exact keep (.inr rfl) h
   |dp _=>unfold aX at h; exact keep (.inr rfl) h
   |ow ts=>unfold aX at h; exact put i ts rfl (.inl rfl) h
   |rf ts=>unfold aX at h; exact put i ts rfl (.inr rfl) h
theorem wJ{src:List (Option Nat)}{ρ : En}{k:Nat}{s:Sl}(h:(bH src ρ)[k]?=some s)(n:s ≠ .un):∃j,src[k]?=some (some j)/\ρ[j]?=some s:=by
 unfold bH at h
 rw[List.getElem?_map]at h
 cases q:src[k]? with
 |none=>rw[q]at h; cases h
 |some o =>
  rw[q]at h
  cases o with
  |none=>cases h; exact(n rfl).elim
  |some j =>
   refine⟨j,rfl,?_⟩
   have h:cB ((ρ[j]?).getD .un)=s:=Option.some.inj h
   cases z : ρ[j]? with
   |none=>rw[z]at h; exact(n h.symm).elim
   |some s' =>
    rw[z]at h
    have h:cB s'=s:=h
    cases s' <;> first|exact congrArg some h|exact(n h.symm).elim
theorem Aa{src:List (Option Nat)}{ρ : En}{k:Nat}{ts:List Tr}(h:(bH src ρ)[k]?=some (.dp ts)):False:=by
 unfold bH at h
 rw[List.getElem?_map]at h
 cases q:src[k]? with
 |none=>rw[q]at h; cases h
 |some o =>
  rw[q]at h
  cases o with
  |none=>cases h
  |some j =>
   have h:cB ((ρ[j]?).getD .un)=.dp ts:=Option.some.inj h
   cases z:(ρ[j]?).getD Sl.un <;> rw[z]at h <;> cases h
theorem m6{src:List (Option Nat)}{ρi ρ : En}{j:Nat}{ts:List Tr}(I:Inj src)(h:(aX src ρi ρ)[j]?=some (.dp ts)) : ρ[j]?=some (.dp ts):=by
 rcases m5 I h with⟨k,us,_,_,q⟩|⟨_,q⟩
 ·exact rm q
 ·exact q
theorem Pu{src:List (Option Nat)}{σ : St}{k j:Nat}(h:src[k]?=some (some j)):(jt src σ)[k]?=some ((σ[j]?).join):=by
 unfold jt
 rw[List.getElem?_map,h]
 rfl
end L2
end
section
namespace L2
open PySem PySem.Spec PyProof.Rows
def OU(src:List (Option Nat))(ρ : En)(σ : St)(F:Nat->List Addr)(b:Addr):Prop:=(∃j:Nat,Mu ρ j/\σ[j]?=some (some (.ref b))/\∀k:Nat,src[k]? ≠ some (some j))\/∃(j:Nat) (ts:List Tr),ρ[j]?=some (.dp ts)/\b∈F j
open Classical in
def jg(t:Tx)(src:List (Option Nat))(ρ : En)(σ : St)(F:Nat->List Addr)(H1:Hp)(D:Addr)(xs:List V):Tx:=⟨t.K,t.Z,t.R,t.H0,λb=>if b=D then some (.lst xs)else if OU src ρ σ F b then H1 b else t.B b,λ_=>False⟩
section
variable {t:Tx}{src:List (Option Nat)}{ρ1:En}{σ : St}{F:Nat->List Addr}{H1:Hp}{D:Addr}{W:Addr->Prop}
theorem rH{xs:List V}:(jg t src ρ1 σ F H1 D xs).B D=some (.lst xs):=if_pos rfl
theorem rJ{xs:List V}{b:Addr}(h1:b≠D)(h2:¬OU src ρ1 σ F b):(jg t src ρ1 σ F H1 D xs).B b=t.B b:=by
 unfold jg
 dsimp only
 rw[if_neg h1,if_neg h2]
theorem tD{xs:List V}{b:Addr}(h1:b≠D)(h2:OU src ρ1 σ F b):(jg t src ρ1 σ F H1 D xs).B b=H1 b:=by
 unfold jg
 dsimp only
 rw[if_neg h1,if_pos h2]
theorem Gp{k:Nat}(h:Mu (bH src ρ1) k):∃j,src[k]?=some (some j)/\Mu ρ1 j:=by
 obtain⟨ts,q|q⟩:=h
 ·obtain⟨j,h1,h2⟩:=wJ q (by intro z; cases z)
  exact⟨j,h1,ts,.inl h2⟩
 ·obtain⟨j,h1,h2⟩:=wJ q (by intro z; cases z)
  exact⟨j,h1,ts,.inr h2⟩
theorem Gq{k j:Nat}{v:V}(h:src[k]?=some (some j))(q:(jt src σ)[k]?=some (some v)) : σ[j]?=some (some v):=by
 rw[Pu h]at q
 have q:=Option.some.inj q
 cases z : σ[j]? with
 |none=>rw[z]at q; cases q
 |some o =>
  rw[z]at q
  have q:o=some v:=q
  rw[q]
theorem wK{k j:Nat}{v:V}(h:src[k]?=some (some j))(q : σ[j]?=some (some v)):(jt src σ)[k]?=some (some v):=by
 rw[Pu h,q]
 rfl
theorem OU.tab{b:Addr}(fQ:EOF t W ρ1 σ H1 F)(z:Tb t.K b):¬OU src ρ1 σ F b:=by
 rintro(⟨j,m,q,_⟩|⟨j,ts,d',y⟩)
 ·obtain⟨xs,h⟩:=aP.O4 ⟨F,fQ⟩ m q
  exact fQ.tab.ok.ne z h rfl
 ·obtain⟨a,xs,_,d⟩:=fQ.dp j ts d'
  exact d.nt fQ.tab.ok z y
theorem Ze{xs:List V}{b:Addr}(fQ:EOF t W ρ1 σ H1 F)(hD:H1 D=none)(z:Tb t.K b):(jg t src ρ1 σ F H1 D xs).B b=none:=by
 have nD:b≠D:=λy=>by
  obtain⟨ps,h⟩:=fQ.tab.ok.gQ z
  rw[y,hD]at h
  cases h
 rw[rJ nD (OU.tab fQ z)]
 exact fQ.tab.B b z
theorem EOF.enter(I:Inj src)(fQ:EOF t W ρ1 σ H1 F)(hD:H1 D=none):aP (jg t src ρ1 σ F H1 D []) (λb=>W b\/b=D) (bH src ρ1) (jt src σ) (upd H1 D (.lst [])):=by
 have e1:aP t W ρ1 σ H1:=⟨F,fQ⟩
 have e2:=(e1.hide (gK hD (.lst [])) hD gk).ok
 have tf:=e2.tab
 refine⟨λ_=>[],?_,e2.zw,e2.z0,e2.wl,e2.f0,e2.n0,λk u h=>?_,λk ts h=>?_,λk ts h=>?_,λk k' a m1 m2 q1 q2=>?_,λb o h=>?_,λk a m q=>?_,λk ts h=>(Aa h).elim,λk _ ts _ _ h=>(Aa h).elim,λk _ ts _ h=>(Aa h).elim,λk ts h=>(Aa h).elim,⟨tf.ok,tf.w,tf.r,λb z=>Ze fQ hD z⟩⟩
 ·unfold bH jt
  rw[List.length_map,List.length_map]
 ·obtain⟨j,h1,h2⟩:=wJ h (by intro z; cases z)
  obtain⟨v,q1,q2⟩:=e2.sh j u h2
  exact⟨v,wK h1 q1,q2⟩
 ·obtain⟨j,h1,h2⟩:=wJ h (by intro z; cases z)
  obtain⟨a,xs,q1,q2⟩:=e2.ow j ts h2
  exact⟨a,xs,wK h1 q1,q2⟩
 ·obtain⟨j,h1,h2⟩:=wJ h (by intro z; cases z)
  obtain⟨a,xs,q1,q2⟩:=e2.rf j ts h2
  exact⟨a,xs,wK h1 q1,q2⟩
 ·obtain⟨j,h1,n1⟩:=Gp m1
  obtain⟨j',h2,n2⟩:=Gp m2
  have:=e2.dis j j' a n1 n2 (Gq h1 q1) (Gq h2 q2)
  subst this
  exact I k k' j h1 h2
 ·by_cases h1:b=D
  ·subst h1
   rw[rH]at h
   rw[gk]
   exact h
  ·by_cases h2:OU src ρ1 σ F b
   ·rw[tD h1 h2]at h
    rw[cL h1]
    exact h
   ·rw[rJ h1 h2]at h
    exact e2.pn b o h
 ·obtain⟨j,h1,n1⟩:=Gp m
  have q:=Gq h1 q
  have wa:=e1.addr n1 q
  have nD:a≠D:=λz=>by subst z; exact e1.wn a wa hD
  have nO:¬OU src ρ1 σ F a:=by
   rintro(⟨j',m',q',u'⟩|⟨j',ts,d',z⟩)
   ·have:=e1.dis j j' a n1 m' q q'
    subst this
    exact u' k h1
   ·exact fQ.dm j' j ts a d' n1 q z
  rw[rJ nD nO]
  exact e1.pd j a n1 q
theorem aP.Zf{xs ys:List V}{ρ : En}{τ : St}{H:Hp}{W':Addr->Prop}(e:aP (jg t src ρ1 σ F H1 D xs) W' ρ τ H)(w:W' D)(h0:t.H0 D=none):aP (jg t src ρ1 σ F H1 D ys) W' ρ τ (upd H D (.lst ys)):=by
 have ne:∀i a,Mu ρ i -> τ[i]?=some (some (.ref a))->a≠D:=λi a m q z=>by
  subst z
  have:=e.pd i a m q
  rw[rH]at this
  cases this
 obtain⟨F',e⟩:=e
 have wL:∀i ts,ρ[i]?=some (Sl.dp ts)->∀b∈F' i,b≠D:=λi ts h b hb z=>by
  subst z
  have:=e.db i ts h b hb
  rw[rH]at this
  cases this
 refine⟨F',e.len,e.zw,e.z0,λb z=>?_,λb o h n=>?_,λb h=>?_,λi u h=>?_,λi ts h=>?_,λi ts h=>?_,e.dis,λb o h=>?_,λi a m q=>?_,λi ts h=>?_,e.dd,e.dm,λi ts h b hb=>?_,⟨e.tab.ok.upd (e.pn D _ rH),e.tab.w,e.tab.r,λb z=>?_⟩⟩
 ·by_cases q:b=D
  ·subst q; exact .inl ⟨ys,gk⟩
  ·unfold Lt; rw[cL q]; exact e.wl b z
 ·rw[cL]
  ·exact e.f0 b o h n
  ·rintro rfl
   have h:t.H0 b=some o:=h
   rw[h0]at h
   cases h
 ·by_cases q:b=D
  ·subst q; exact h0
  ·rw[cL q]at h; exact e.n0 b h
 ·rw[mX w]
  exact e.sh i u h
 ·obtain⟨a,zs,q1,q2,q3,q4,q5⟩:=e.ow i ts h
  rw[mX w]
  exact⟨a,zs,q1,q2,q3,by rw[cL (ne i a ⟨ts,.inl h⟩ q1)]; exact q4,q5⟩
 ·obtain⟨a,zs,q1,q2,q3,q4,q5⟩:=e.rf i ts h
  rw[mX w]
  exact⟨a,zs,q1,q2,q3,by rw[cL (ne i a ⟨ts,.inr h⟩ q1)]; exact q4,q5⟩
 ·by_cases h1:b=D
  ·subst h1
   rw[rH]at h
   rw[gk]
   exact h
  ·rw[cL h1]
   refine e.pn b o ?_
   by_cases h2:OU src ρ1 σ F b
   ·rw[tD h1 h2]at h ⊢; exact h
   ·rw[rJ h1 h2]at h ⊢; exact h
 ·have nD:=ne i a m q
  have z:=e.pd i a m q
  by_cases h2:OU src ρ1 σ F a
  ·rw[tD nD h2]at z ⊢; exact z
  ·rw[rJ nD h2]at z ⊢; exact z
 ·obtain⟨a,zs,q1,d⟩:=e.dp i ts h
  exact⟨a,zs,q1,d.move rfl rfl (by rw[mX w]; exact Same.refl _) (λb hb=>by obtain⟨_,_,_,ww,_⟩:=d; exact(ww b hb).1) λb o hb q=>by rw[cL (wL i ts h b hb)]; exact q⟩
 ·have nD:=wL i ts h b hb
  have z:=e.db i ts h b hb
  by_cases h2:OU src ρ1 σ F b
  ·rw[tD nD h2]at z ⊢; exact z
  ·rw[rJ nD h2]at z ⊢; exact z
 ·have y:=e.tab.B b z
  have nD:b≠D:=λq=>by
   subst q
   rw[rH]at y
   cases y
  by_cases h2:OU src ρ1 σ F b
  ·rw[tD nD h2]at y ⊢; exact y
  ·rw[rJ nD h2]at y ⊢; exact y
theorem EOF.leave{xs:List V}{ρ : En}{τ : St}{H:Hp}{Wx:Addr->Prop}{js:List Nat}(I:Inj src)(fQ:EOF t W ρ1 σ H1 F)(hD:H1 D=none)(e:aP (jg t src ρ1 σ F H1 D xs) (λb=>W b\/b=D) ρ τ H)(nx:∀b o,¬W b->H1 b=some o->H b=some o)
  (hj:∀k j:Nat,src[k]?=some (some j)->k∉js) (ag:∀k,k∉js -> τ[k]?=(jt src σ)[k]?) (so:bF src ρ ρ1=true) (w1:∀b,W b->Wx b) (w2:∀b,Wx b->W b\/b=D):EOF t Wx (aX src ρ ρ1) σ H F:=by
 have e1:aP t W ρ1 σ H1:=⟨F,fQ⟩
 have m1:Same (aU W H1) (aU Wx H):=λb o h=>by
  obtain⟨n,h⟩:=jL h
  rw[gG]
  ·exact nx b o n h
  ·intro z
   rcases w2 b z with z|rfl
   ·exact n z
   ·rw[hD]at h; cases h
 have m2:Same (aU (λb=>W b\/b=D) H) (aU Wx H):=nM (λb _ _ z=>w2 b z) λ_ _ _ h=>h
 have qp:∀j,Mu (aX src ρ ρ1) j->Mu ρ1 j:=λj m=>by
  obtain⟨ts,m|m⟩:=m <;> rcases m5 I m with⟨k,us,q1,q2,q3⟩|⟨n,q⟩
  ·exact pq ⟨ts,.inl q3⟩
  ·exact⟨ts,.inl q⟩
  ·exact pq ⟨ts,.inr q3⟩
  ·exact⟨ts,.inr q⟩
 have inner:∀(k j:Nat) (ts:List Tr) (a:Addr),src[k]?=some (some j)->(ρ[k]?=some (.ow ts)\/ρ[k]?=some (.rf ts)) -> σ[j]?=some (some (.ref a))->∃ys,H a=some (.lst ys)/\aQ t.K (aU Wx H) ys ts:=λk j ts a q1 q2 q3=>by
  have z:=ag k (hj k j q1)
  rw[wK q1 q3]at z
  rcases q2 with q2|q2
  ·obtain⟨c,ys,h1,h2,h3,h4,h5⟩:=e.ow k ts q2
   rw[z]at h1
   cases h1
   exact⟨ys,h4,h5.mono m2⟩
  ·obtain⟨c,ys,h1,h2,h3,h4,h5⟩:=e.rf k ts q2
   rw[z]at h1
   cases h1
   exact⟨ys,h4,h5.mono m2⟩
 have outer:∀(j:Nat) (a:Addr) (ys:List V),Mu ρ1 j->(∀k,src[k]?=some (some j)->¬Mu ρ k) -> σ[j]?=some (some (.ref a))->H1 a=some (.lst ys)->H a=some (.lst ys):=λj a ys m n q h=>by
  have wa:=e1.addr m q
  have nD:a≠D:=λz=>by subst z; exact e1.wn a wa hD
  refine e.pn a _ ?_
  rw[tD nD (.inl ⟨j,m,q,λk z=>n k z (zZ so z m)⟩)]
  exact h
 refine⟨by rw[rG]; exact e1.len,λb z=>w1 b (e1.zw b z),e1.z0,λb z=>e.wl b (w2 b z),e.f0,e.n0,λj u h=>?_,λj ts h=>?_,λj ts h=>?_,λj k a n1 n2=>e1.dis j k a (qp j n1) (qp k n2),λb o h=>?_,λj a m=>e1.pd j a (qp j m),λj ts h=>?_,λj k ts us n h1 h2=>fQ.dd j k ts us n (m6 I h1) (m6 I h2),λj k ts c h1 m q=>fQ.dm j k ts c (m6 I h1) (qp k m) q,λj ts h=>fQ.db j ts (m6 I h),⟨e.tab.ok,λb z=>w1 b (e1.tab.w b z),e1.tab.r,e1.tab.B⟩⟩
 ·have h' : ρ1[j]?=some (.sh u):=by
   rcases m5 I h with⟨k,us,q1,q2,q3⟩|⟨n,q⟩
   ·rcases pA q3 with⟨ne,_⟩|⟨_,⟨_,_,z⟩|⟨_,_,z⟩|⟨_,q⟩⟩
    ·exact(ne rfl).elim
    ·cases z
    ·cases z
    ·exact q
   ·exact q
  obtain⟨v,q1,q2⟩:=e1.sh j u h'
  exact⟨v,q1,q2.mono m1⟩
 ·rcases m5 I h with⟨k,us,q1,q2,q3⟩|⟨n,q⟩
  ·rcases pA q3 with⟨ne,_⟩|⟨_,⟨ts0,q0,z⟩|⟨_,_,z⟩|⟨nm,q⟩⟩
   ·exact(ne rfl).elim
   ·cases z
    obtain⟨a,ys,h1,h2,h3,h4,h5⟩:=e1.ow j ts0 q0
    obtain⟨zs,k1,k2⟩:=inner k j ts a q1 q2 h1
    exact⟨a,zs,h1,w1 a h2,h3,k1,k2⟩
   ·cases z
   ·exact(nm ⟨ts,.inl q⟩).elim
  ·obtain⟨a,ys,h1,h2,h3,h4,h5⟩:=e1.ow j ts q
   exact⟨a,ys,h1,w1 a h2,h3,outer j a ys ⟨ts,.inl q⟩ n h1 h4,h5.mono m1⟩
 ·rcases m5 I h with⟨k,us,q1,q2,q3⟩|⟨n,q⟩
  ·rcases pA q3 with⟨ne,_⟩|⟨_,⟨_,_,z⟩|⟨ts0,q0,z⟩|⟨nm,q⟩⟩
   ·exact(ne rfl).elim
   ·cases z
   ·cases z
    obtain⟨a,ys,h1,h2,h3,h4,h5⟩:=e1.rf j ts0 q0
    obtain⟨zs,k1,k2⟩:=inner k j ts a q1 q2 h1
    exact⟨a,zs,h1,w1 a h2,h3,k1,k2⟩
   ·exact(nm ⟨ts,.inr q⟩).elim
  ·obtain⟨a,ys,h1,h2,h3,h4,h5⟩:=e1.rf j ts q
   exact⟨a,ys,h1,w1 a h2,h3,outer j a ys ⟨ts,.inr q⟩ n h1 h4,h5.mono m1⟩
 ·have nD:b≠D:=λz=>by
   subst z
   rw[e1.zM hD]at h
   cases h
  have nO:¬OU src ρ1 σ F b:=by
   rintro(⟨j,m,q,_⟩|⟨j,ts,d',z⟩)
   ·rw[e1.pd j b m q]at h
    cases h
   ·rw[fQ.db j ts d' b z]at h
    cases h
  refine e.pn b o ?_
  rw[rJ nD nO]
  exact h
 ·have hd:=m6 I h
  obtain⟨a,ys,q1,d⟩:=fQ.dp j ts hd
  have ww:∀b∈F j,W b:=λb hb=>by obtain⟨_,_,_,ww,_⟩:=d; exact(ww b hb).1
  refine⟨a,ys,q1,d.move rfl rfl m1 (λb hb=>w1 b (ww b hb)) λb o hb q=>?_⟩
  have nD:b≠D:=λz=>by subst z; exact e1.wn b (ww b hb) hD
  refine e.pn b o ?_
  rw[tD nD (.inr ⟨j,ts,hd,hb⟩)]
  exact q
end
def bx:Rv->Rs Tr
 |.v T _=>.ok T
 |.s _=>.bad
theorem Px(r:Rv)(c:Str):bx r ≠ .ex c:=by cases r <;> (intro z; cases z)
def jH(g:GF)(c:BF)(f:EF):List Tr->En->Rs (List Tr × En)
 | [],ρ=>.ok ([],ρ)
 |u::us,ρ=>(g u ρ).bind λρ1=>(c ρ1).bind λb=>if b.1=true then(f b.2).bind λp=>(bx p.1).bind λT=>(jH g c f us p.2).bind λz=>.ok (T::z.1,z.2)else jH g c f us b.2
def fO(src:List (Option Nat))(fi:IF)(g:GF)(c:BF)(f:EF):EF:=λρ=>(fi ρ).bind λp=>if p.1.length<=100000 then(aY (jH g c f p.1 (bH src p.2))).bind λz=>if bF src z.2 p.2=true then .ok (.v (.lst z.1) true,aX src z.2 p.2)else .bad else .bad
theorem Zg{t:Tx}{wi:TI}{g:TG}{src:List (Option Nat)}{tc:TT}{te:TE}{fi:IF}{gf:GF}{c:BF}{f:EF}{js:List Nat}(hi:SI t wi fi)(I:Inj src)(hj:∀k j:Nat,src[k]?=some (some j)->k∉js)(ng:∀T ρ c,gf T ρ ≠ .ex c)
  (hg:∀t':Tx,t'.K=t.K->(∀c,¬t'.EX c)->SG t' g gf js) (hc:∀t':Tx,t'.K=t.K->(∀c,¬t'.EX c)->ST t' tc c) (he:∀t':Tx,t'.K=t.K->(∀c,¬t'.EX c)->SE t' te f):SE t (zY wi g src tc te) (fO src fi gf c f):=λW ρ σ H Q e h=>by
 refine hi W ρ σ H _ e (Rs.cg (Rs.aR h) λp h J H1 e1 s1 it=>?_)
 obtain⟨us,ρ1⟩:=p
 dsimp only at h it e1
 split at h
 case isFalse=>exact h.elim
 rename_i hlen
 intro D hD
 have h:=wH (Rs.aR h)
 obtain⟨F,fQ⟩:=id e1
 have wD:∀b,W b->b≠D:=λb w z=>by subst z; exact e1.wn b w hD
 have uP:t.H0 D=none:=e1.n0 D hD
 refine⟨λi m τ H'=>m=us.length-i/\i<=us.length/\∃ρ' xs acc,aP (jg t src ρ1 σ F H1 D xs) (λb=>W b\/b=D) ρ' τ H'/\aQ t.K (aU (λb=>W b\/b=D) H') xs acc/\xs.length<=i/\(∀b o,¬W b->H1 b=some o->H' b=some o)/\(∀k,k∉js -> τ[k]?=(jt src σ)[k]?) /\
   (jH gf c f (us.drop i) ρ').post (λ_=>False) (λz=>(if bF src z.2 ρ1=true then .ok (.v (.lst (acc++z.1)) true,aX src z.2 ρ1)else .bad:Rs (Rv × En)).post t.EX (λp=>∀v H',aP t W p.2 σ H'->cX W H H'->iD t W p.2 σ H H' v p.1->Q v H')),?_,?_⟩
 ·refine⟨us.length,by simp,Nat.zero_le _,bH src ρ1,[],[],fQ.enter I hD,.nil,Nat.le_refl _,λb o _ q=>?_,λ_ _=>rfl,?_⟩
  ·rw[cL (mq q hD)]; exact q
  ·rw[List.drop_zero]; exact h
 ·rintro i m τ H2 ⟨rfl,hi,ρ2,xs,acc,e2,r2,l2,n2,a2,h2⟩
  have sm:Same (aU W H1) (aU (λb=>W b\/b=D) H2):=λb o q=>by
   obtain⟨nw,q⟩:=jL q
   rw[gG]
   ·exact n2 b o nw q
   ·rintro(z|rfl)
    ·exact nw z
    ·rw[hD]at q; cases q
  have q:=it _ H2 sm e2.wl i
  by_cases hlt:i<us.length
  ·rw[List.drop_eq_getElem_cons hlt]at h2
   obtain⟨go,y⟩:=q.2 us[i] (by simp[hlt])
   refine .inr ⟨go,λx H3 yl=>?_⟩
   obtain⟨s3,r3⟩:=y x H3 yl
   have e3:=e2.grow s3
   refine hg (jg t src ρ1 σ F H1 D xs) rfl (λ_=>id) _ ρ2 τ H3 x us[i] _ e3 r3 (Rs.cg (jT (Rs.aR h2) (ng _ _)) λρ4 h σ4 e4 a4=>?_)
   refine hc (jg t src ρ1 σ F H1 D xs) rfl (λ_=>id) _ ρ4 σ4 H3 _ e4 (Rs.cg (Rs.aR h) λb h H5 e5 s5=>?_)
   have lq:cX (λb=>W b\/b=D) H2 H5:=(cX.of s3).trans s5
   have n5:∀b o,¬W b->H1 b=some o->H5 b=some o:=λb o nw qb=>by
    have nD:b≠D:=mq qb hD
    refine lq.keep b o ?_ (n2 b o nw qb)
    rintro(z|z)
    ·exact nw z
    ·exact nD z
   have a5:∀k,k∉js -> σ4[k]?=(jt src σ)[k]? := λk nk=>(a4 k nk).trans (a2 k nk)
   split at h
   ·rename_i cb
    rw[if_pos cb]
    refine he (jg t src ρ1 σ F H1 D xs) rfl (λ_=>id) _ b.2 σ4 H5 _ e5 (Rs.cg (Rs.aR h) λp h v H6 e6 s6 v6=>?_)
    obtain⟨T,kT,h⟩:=dO (Rs.aR h) (Px _)
    have rv:Rep t.K (aU (λb=>W b\/b=D) H6) v T:=by
     obtain⟨r,ρ7⟩:=p
     cases r with
     |s i=>cases kT
     |v U fr =>
      cases kT
      exact gq.rep (K:=t.K) e5.wn v6.1
    refine⟨xs,e6.pn D _ rH,Nat.lt_of_le_of_lt (show xs.length<=100000 by omega) (by decide),us.length-(i+1),by omega,rfl,hlt,p.2,xs++[v],acc++[T],e6.Zf (.inr rfl) uP,?_,by rw[List.length_append]; simp; omega,λb o nw q=>?_,a5,?_⟩
    ·rw[mX (.inr rfl)]
     exact(r2.mono (lq.trans s6).off).app (.cons rv .nil)
    ·have nD:b≠D:=mq q hD
     rw[cL nD]
     refine s6.keep b o ?_ (n5 b o nw q)
     rintro(z|z)
     ·exact nw z
     ·exact nD z
    ·refine Rs.cg (Rs.aR h) λz h=>?_
     rw[List.append_assoc]
     exact h
   ·rename_i cb
    rw[if_neg cb]
    exact⟨us.length-(i+1),by omega,rfl,hlt,b.2,xs,acc,e5,r2.mono lq.off,by omega,n5,a5,h⟩
  ·have z:i=us.length:=by omega
   subst z
   rw[List.drop_length]at h2
   have h2:(if bF src ρ2 ρ1=true then .ok (.v (.lst (acc++[])) true,aX src ρ2 ρ1)else .bad:Rs (Rv × En)).post t.EX _:=h2
   refine .inl ⟨q.1 rfl,?_⟩
   split at h2
   ·rename_i so
    rw[List.append_nil]at h2
    have hxs:H2 D=some (.lst xs):=e2.pn D _ rH
    have eW:aP t W (aX src ρ2 ρ1) σ H2:=⟨F,fQ.leave (Wx:=W) I hD e2 n2 hj a2 so (λ_ w=>w) λ_ w=>.inl w⟩
    have eD:qg t W D (aX src ρ2 ρ1) σ H2:=⟨F,fQ.leave (Wx:=λb=>W b\/b=D) I hD e2 n2 hj a2 so (λ_ w=>.inl w) λ_ w=>w,λi ts hi z=>by
     obtain⟨c,ys,_,bs,_,_,ww,_⟩:=fQ.dp i ts (m6 I hi)
     exact wD D (ww D z).1 rfl⟩
    have st:cX W H1 H2:=⟨n2,λb q=>by
     cases z:H1 b with
     |none=>rfl
     |some o =>
      by_cases w:W b
      ·exact((e2.wl b (.inl w)).ne q).elim
      ·rw[n2 b o w z]at q
       cases q⟩
    refine h2 (.ref D) H2 eW (s1.trans st) ⟨⟨D,xs,acc,rfl,rfl,s1.dom D hD,hxs,r2.mono λb o q=>?_⟩,λU a _ ea=>?_⟩
    ·obtain⟨nb,q⟩:=jL q
     rw[off_ne λz=>nb (.inr z),gG λz=>nb (.inl z)]
     exact q
    ·cases ea
     exact eD
   ·exact h2.elim
def d8:BF:=λρ=>.ok (true,ρ)
theorem Py{wi:TI}{g:TG}{src:List (Option Nat)}{te:TE}:qP wi g src te=zY wi g src (λ_ H Q=>Q true H) te:=by
 funext σ H Q
 simp only[qP,zY,if_true]
theorem tE{t:Tx}{wi:TI}{g:TG}{src:List (Option Nat)}{te:TE}{fi:IF}{gf:GF}{f:EF}{js:List Nat}(hi:SI t wi fi)(I:Inj src)(hj:∀k j:Nat,src[k]?=some (some j)->k∉js)(ng:∀T ρ c,gf T ρ ≠ .ex c)
  (hg:∀t':Tx,t'.K=t.K->(∀c,¬t'.EX c)->SG t' g gf js) (he:∀t':Tx,t'.K=t.K->(∀c,¬t'.EX c)->SE t' te f):SE t (qP wi g src te) (fO src fi gf d8 f):=by
 rw[Py]
 exact Zg hi I hj ng hg (λt' _ _ W ρ σ H Q e h=>h H e (cX.refl _ _)) he
end L2
end
section
namespace L2
open PySem PySem.Spec PyProof.Rows
theorem PS.oJ{X:Cx}{st:Stmt}{t:TS}(h:PS X.oJ st t):PS X st t:=⟨λpins s σ H D I hw =>
 wpAny_mono (h pins s σ H D (I.wish _) hw) (λ_ _ q=>q.ni) λ_ _ z=>False.elim z⟩
theorem aP.ex{t:Tx}{EX:Str->Prop}{W:Addr->Prop}{ρ : En}{σ : St}{H:Hp}(e:aP t W ρ σ H):aP {t with EX:=EX } W ρ σ H:=e.elim λF e=>⟨F,e.len,e.zw,e.z0,e.wl,e.f0,e.n0,e.sh,e.ow,e.rf,e.dis,e.pn,e.pd,e.dp,e.dd,e.dm,e.db,⟨e.tab.ok,e.tab.w,e.tab.r,e.tab.B⟩⟩
theorem aP.Ab{t:Tx}{EX:Str->Prop}{W:Addr->Prop}{ρ : En}{σ : St}{H:Hp}(e:aP {t with EX:=EX } W ρ σ H):aP t W ρ σ H:=e.elim λF e=>⟨F,e.len,e.zw,e.z0,e.wl,e.f0,e.n0,e.sh,e.ow,e.rf,e.dis,e.pn,e.pd,e.dp,e.dd,e.dm,e.db,⟨e.tab.ok,e.tab.w,e.tab.r,e.tab.B⟩⟩
def iW(f:SF):SF:=λρ=>aY (f ρ)
theorem Zh{t:Tx}{ts:TS}{f:SF}(h:∀t':Tx,t'.K=t.K->(∀c,¬t'.EX c)->SS t' ts f):SS t ts (iW f):=λW ρ σ H D e q=>by
 refine h {t with EX:=λ_=>False } rfl (λ_=>id) W ρ σ H D e.ex (Rs.cg (wH q) λp q=>?_)
 obtain⟨fl,ρ'⟩:=p
 cases fl with
 |nx=>exact λW' σ' H' e' n=>q W' σ' H' e'.Ab n
 |rt T fr =>
  refine λv W' σ' H' e' n=>q v W' σ' H' e'.Ab ?_
  cases fr <;> exact n
 |bk=>exact λW' σ' H' e' n=>q W' σ' H' e'.Ab n
 |ct=>exact λW' σ' H' e' n=>q W' σ' H' e'.Ab n
theorem Zi{p:Int->Int->Int}(a b:Tr)(c:Str):gI p a b ≠ .ex c:=by
 cases a <;> cases b <;> (intro z; cases z)
theorem Gs{q:Int->Int->Bool}{p:Int->Int->Int}(a b:Tr)(c:Str):bW q p a b ≠ .ex c:=by
 cases a <;> cases b <;> first|(intro z; cases z; done)|(dsimp only[bW]; split <;> (intro z; cases z))
theorem Gu{p:Int->Int->Bool}(a b:Tr)(c:Str):gB p a b ≠ .ex c:=by
 cases a <;> cases b <;> (intro z; cases z)
theorem Zj(a b:Tr)(c:Str):aM a b ≠ .ex c:=by unfold aM; split <;> (intro z; cases z)
theorem Zk(a b:Tr)(c:Str):bQ a b ≠ .ex c:=by unfold bQ; split <;> (intro z; cases z)
theorem Pz{f:Bool->Bool}(a b:Tr)(c:Str):cM f a b ≠ .ex c:=by
 cases b <;> first|(intro z; cases z; done)|(dsimp only[cM]; split <;> (intro z; cases z))
theorem Zm{f:Bool->Bool}(a b:Tr)(c:Str):sV f a b ≠ .ex c:=by
 cases b <;> (intro z; cases z)
theorem Zn(a b:Tr)(c:Str):aN a b ≠ .ex c:=by
 cases a <;> cases b <;> first|(intro z; cases z; done)|(dsimp only[aN]; split <;> (intro z; cases z))
theorem Zo(a b:Tr)(c:Str):cO a b ≠ .ex c:=by
 cases a <;> cases b <;> first|(intro z; cases z; done)|(dsimp only[cO]; split <;> (intro z; cases z))
theorem Zq(a b:Tr)(c:Str):dU a b ≠ .ex c:=Gs a b c
theorem Zr(a b:Tr)(c:Str):bD a b ≠ .ex c:=Gs a b c
theorem Zt(a b:Tr)(c:Str):dz a b ≠ .ex c:=Gs a b c
theorem Zu(a b:Tr)(c:Str):bA a b ≠ .ex c:=Zi a b c
theorem Zv(a b:Tr)(c:Str):bR a b ≠ .ex c:=Gu a b c
theorem Ac(a b:Tr)(c:Str):cN a b ≠ .ex c:=Gu a b c
theorem Zw(a b:Tr)(c:Str):dw a b ≠ .ex c:=Gu a b c
theorem Zx(a b:Tr)(c:Str):bf a b ≠ .ex c:=by
 cases a <;> cases b <;> first|(intro z; cases z; done)|(dsimp only[bf]; split <;> (intro z; cases z))
theorem Zy(a b:Tr)(c:Str):aB a b ≠ .ex c:=by
 cases a <;> cases b <;> first|(intro z; cases z; done)|(dsimp only[aB]; split <;> first|(intro z; cases z; done)|(split <;> (intro z; cases z)))
theorem Zz(a:Tr)(c:Str):aJ a ≠ .ex c:=by
 cases a <;> first|(intro z; cases z; done)|(dsimp only[aJ]; split <;> (intro z; cases z))
theorem ZC(a:Tr)(c:Str):dW a ≠ .ex c:=by cases a <;> (intro z; cases z)
theorem ZD(a:Tr)(c:Str):bG a ≠ .ex c:=by cases a <;> (intro z; cases z)
theorem ZF(a:Tr)(c:Str):bN a ≠ .ex c:=by cases a <;> (intro z; cases z)
theorem ZG(a:Tr)(c:Str):kE a ≠ .ex c:=by unfold kE; split <;> (intro z; cases z)
theorem ZJ(a b:Tr)(c:Str):dJ a b ≠ .ex c:=by cases a <;> cases b <;> (intro z; cases z)
theorem ZK(a b:Tr)(c:Str):dM a b ≠ .ex c:=by cases a <;> cases b <;> (intro z; cases z)
theorem ZL(a:Tr)(c:Str):cZ a ≠ .ex c:=by
 cases a <;> first|(intro z; cases z; done)|(dsimp only[cZ]; split <;> (intro z; cases z))
theorem jl{i:Nat}(T:Tr)(ρ : En)(c:Str):gN i T ρ ≠ .ex c:=by intro z; cases z
theorem ZM(Ts:List Tr)(ρ : En)(c:Str):o9 Ts ρ ≠ .ex c:=by cases Ts <;> (intro z; cases z)
theorem ZP{f:GF}{g:nW}(h1:∀T ρ c,f T ρ ≠ .ex c)(h2:∀T ρ c,g T ρ ≠ .ex c)(Ts:List Tr)(ρ : En)(c:Str):jX f g Ts ρ ≠ .ex c:=by
 cases Ts with
 |nil=>intro z; cases z
 |cons T r=>exact O9 (h1 T ρ) (λρ'=>h2 r ρ') c
theorem ZQ{n:Nat}{f:nW}(h:∀T ρ c,f T ρ ≠ .ex c)(T:Tr)(ρ : En)(c:Str):gT n f T ρ ≠ .ex c:=by
 cases T <;> first|(intro z; cases z; done)|(dsimp only[gT]; split <;> first|exact h _ _ _|(intro z; cases z))
def uQ(f:AF)(n:Nat):Prop:=∀ρ p,f ρ=.ok p->p.1.length=n
theorem kJ:uQ ao 0:=λρ p h=>by cases h; rfl
theorem iH{f:EF}{g:AF}{n:Nat}(h:uQ g n):uQ (ak f g) (n+1):=λρ p q=>by
 unfold ak at q
 obtain⟨a,q1,q⟩:=jM q
 obtain⟨b,q2,q⟩:=jM q
 cases q
 rw[List.length_cons,h _ _ q2]
def Gk(K:FZ)(mg:Str->Option Value)(x:Str)(v:V)(T:Tr):Prop:=∃u,mg x=some u/\RelV v u/\∀H,Rep (aG K) H v T
theorem ZR{X:Cx}{x:Str}{v:V}{T:Tr}{pos:Pos}(h:Gk X.K X.mg x v T)(hg:Gl X x:=by rfl)(hd:(x == ("__debug__" : Str))=false:=by decide):PE X (.Name x pos) (tC v):=by
 obtain⟨u,h1,h2,_⟩:=h
 exact Ko hg h1 h2 hd
theorem Gv{t:Tx}{K:FZ}{mg:Str->Option Value}{x:Str}{v:V}{T:Tr}(hK:t.K=aG K)(h:Gk K mg x v T):SE t (tC v) (eC T):=by
 obtain⟨u,_,_,h⟩:=h
 exact v7 λH=>by rw[hK]; exact h H
end L2
end
section
namespace L2
open PySem PySem.Spec PyProof.Rows
section
variable {t:Tx}{K:FZ}{ta tb tc:TE}{fa fb fc:EF}
theorem pC(hK:t.K=aG K)(ha:SE t ta fa)(hb:SE t tb fb):SE t (gF (Fw K) ta tb) (aq aN fa fb):=kh (by rw[hK]; exact XQ) Zn ha hb
theorem ZS(hK:t.K=aG K)(ha:SE t ta fa)(hb:SE t tb fb):SE t (gF (jq λi j=>.int (i-j)) ta tb) (aq bA fa fb):=kh (by rw[hK]; exact Yc) Zu ha hb
theorem PB(hK:t.K=aG K)(ha:SE t ta fa)(hb:SE t tb fb):SE t (gF (Fx K) ta tb) (aq cO fa fb):=kh (by rw[hK]; exact XR (K:=K)) Zo ha hb
theorem ZV(hK:t.K=aG K)(ha:SE t ta fa)(hb:SE t tb fb):SE t (gF (rI zJ λi j=>.int (i.fdiv j)) ta tb) (aq dU fa fb):=kh (by rw[hK]; exact XS) Zq ha hb
theorem PJ(hK:t.K=aG K)(ha:SE t ta fa)(hb:SE t tb fb):SE t (gF (rI (λ_ j=>j≠0) λi j=>.int (i.fmod j)) ta tb) (aq bD fa fb):=kh (by rw[hK]; exact X3) Zr ha hb
theorem ZW(hK:t.K=aG K)(ha:SE t ta fa)(hb:SE t tb fb):SE t (gF (rI Dt λi j=>.int (i ^ j.toNat)) ta tb) (aq dz fa fb):=kh (by rw[hK]; exact Yb) Zt ha hb
theorem x_eq(hK:t.K=aG K)(ha:SE t ta fa)(hb:SE t tb fb):SE t (gF (Ej K) ta tb) (aq aM fa fb):=kh (by rw[hK]; exact Xz) Zj ha hb
theorem Gw(hK:t.K=aG K)(ha:SE t ta fa)(hb:SE t tb fb):SE t (gF (Fo K) ta tb) (aq bQ fa fb):=kh (by rw[hK]; exact XD) Zk ha hb
theorem Gx(hK:t.K=aG K)(ha:SE t ta fa)(hb:SE t tb fb):SE t (gF (Ek K) ta tb) (aq (cM id) fa fb):=kh (by rw[hK]; exact XF) Pz ha hb
theorem PK(hK:t.K=aG K)(ha:SE t ta fa)(hb:SE t tb fb):SE t (gF (Fj K) ta tb) (aq (cM not) fa fb):=kh (by rw[hK]; exact XH) Pz ha hb
theorem ZX(hK:t.K=aG K)(ha:SE t ta fa)(hb:SE t tb fb):SE t (gF (λx y H Q=>y=.non/\Q (.bl (decide (x=.non))) H) ta tb) (aq (sV id) fa fb):=kh (by rw[hK]; exact XM) Zm ha hb
theorem x_lt(hK:t.K=aG K)(ha:SE t ta fa)(hb:SE t tb fb):SE t (gF (Fz K) ta tb) (aq bf fa fb):=kh (by rw[hK]; exact Yg) Zx ha hb
theorem Z0(hK:t.K=aG K)(ha:SE t ta fa)(hb:SE t tb fb):SE t (gF (jq λi j=>.bl (decide (i<=j))) ta tb) (aq cN fa fb):=kh (by rw[hK]; exact zK) Ac ha hb
theorem PL(hK:t.K=aG K)(ha:SE t ta fa)(hb:SE t tb fb):SE t (gF (jq λi j=>.bl (decide (j<i))) ta tb) (aq bR fa fb):=kh (by rw[hK]; exact Yd) Zv ha hb
theorem x_ge(hK:t.K=aG K)(ha:SE t ta fa)(hb:SE t tb fb):SE t (gF (jq λi j=>.bl (decide (j<=i))) ta tb) (aq dw fa fb):=kh (by rw[hK]; exact Ye) Zw ha hb
theorem iI(hK:t.K=aG K)(ha:SE t ta fa)(hb:SE t tb fb):SE t (gF (mK K) ta tb) (aq aB fa fb):=kh (by rw[hK]; exact Yh) Zy ha hb
theorem PN(hK:t.K=aG K){r r':R2}{g g':G2}(o:g8 (aG K) r g)(o':g8 (aG K) r' g')(n:∀a b c,g a b ≠ .ex c)(n':∀a b c,g' a b ≠ .ex c)(ha:SE t ta fa)(hb:SE t tb fb)(hc:SE t tc fc):SE t (yR r r' ta tb tc) (qY g g' fa fb fc):=Yo (by rw[hK]; exact o) (by rw[hK]; exact o') n n' ha hb hc
variable {tl:TA}{fl:AF}
theorem x_len(hK:t.K=aG K)(ha:SA t tl fl):SE t (jr (FT K) tl) (bw (g1 aJ) fl):=qZ (by rw[hK]; exact uN Yr) (uM Zz) ha
theorem Z1(hK:t.K=aG K)(ha:SA t tl fl):SE t (jr (λxs H Q=>∃i,xs=[.int i]/\Q (.int (if i<0 then -i else i)) H) tl) (bw (g1 dW) fl):=qZ (by rw[hK]; exact uN Ys) (uM ZC) ha
theorem Gy(hK:t.K=aG K)(ha:SA t tl fl):SE t (jr (λxs H Q=>∃p ys,xs=[.ref p]/\(eF K H p ys\/fM K H p ys)/\∀l,H l=none->Q (.ref l) (upd H l (.lst ys))) tl) (bw (g1 bG) fl):=qZ (by rw[hK]; exact uN Yt) (uM ZD) ha
theorem Gz(hK:t.K=aG K)(ha:SA t tl fl):SE t (jr (λxs H Q=>∃p ys,xs=[.ref p]/\((eF K H p ys/\∀l,H l=none->Q (.ref l) (upd H l (.tup ys)))\/(fM K H p ys/\Q (.ref p) H))) tl) (bw (g1 bN) fl):=qZ (by rw[hK]; exact uN Yu) (uM ZF) ha
theorem Z2(hK:t.K=aG K)(ha:SA t tl fl):SE t (jr (Ew K) tl) (bw (g1 kE) fl):=qZ (by rw[hK]; exact uN Yv) (uM ZG) ha
theorem Ad(hK:t.K=aG K)(ha:SA t tl fl):SE t (jr (Em K) tl) (bw (g1 cZ) fl):=qZ (by rw[hK]; exact uN Yy) (uM ZL) ha
theorem Z4(hK:t.K=aG K)(ha:SA t tl fl):SE t (jr (λxs H Q=>∃i j,xs=[.int i,.int j]/\Q (.int (if j<i then j else i)) H) tl) (bw (g2 dJ) fl):=qZ (by rw[hK]; exact OD Yw) (Oz ZJ) ha
theorem Z5(hK:t.K=aG K)(ha:SA t tl fl):SE t (jr (λxs H Q=>∃i j,xs=[.int i,.int j]/\Q (.int (if j > i then j else i)) H) tl) (bw (g2 dM) fl):=qZ (by rw[hK]; exact OD Yx) (Oz ZK) ha
theorem wM(hK:t.K=aG K){cl:Str->Addr}{n:Nat}{F:FP}{E:XK}(hx:∀c H',F0 t H'->t.EX c->E (.ref (cl c)) none H')(hn:uQ fl n)(ha:SA t tl fl):SE t (oN (c7 K cl n F) [] E tl) (cJ F fl):=O8 hK hx hn ha
theorem GC(hK:t.K=aG K){cl:Str->Addr}{n:Nat}{F:FP}{E:XK}(hx:∀c,¬t.EX c)(hn:uQ fl n)(ha:SA t tl fl):SE t (oN (c7 K cl n F) [] E tl) (cJ F fl):=O8 hK (λc H' _ q=>(hx c q).elim) hn ha
theorem rK(hK:t.K=aG K){n r nl:Nat}{b:SF}{E:XK}(hn:uQ fl n)(ha:SA t tl fl):SE t (oN (gW K n r (fX nl r b)) [] E tl) (cu r (fX nl r b) fl):=Y8 hK (Y7 nl r b) hn ha
end
end L2
end
section
namespace L2
open PySem PySem.Spec PyProof.Rows
def wN(i:Nat)(ρ : En):Nat:=match ρ[i]? with
 |some (.sh (.int n))=>n.natAbs+1
 |_=>0
theorem rM{src:List (Option Nat)}{js:List Nat}(h:js.all (λk=>(src[k]?).join.isNone)=true):∀k j:Nat,src[k]?=some (some j)->k∉js:=λk j q m=>by
 have:=List.all_eq_true.mp h k m
 rw[q]at this
 cases this
abbrev Ae:List Value:=[.type "ValueError",.type "Exception",.type "BaseException",.type "object"]
def rN:GM:=λts as=>match as with
 | [.int i]=>if okR i=true then (match seqIndex? i ts.length with
  | some k=>(match ts[k]? with
   |some T=>.ok (ts.eraseIdx k,T)
   |none=>.bad)
  |none=>.bad)else .bad
 |_=>.bad
theorem aQ.erase{K:FZ}{H:Hp}:∀{xs:List V} {ts:List Tr} (k:Nat),aQ K H xs ts->aQ K H (xs.eraseIdx k) (ts.eraseIdx k)
 |_,_,_,.nil=>.nil
 |_,_,0,.cons _ r=>r
 |_,_,k+1,.cons h r=>.cons h (aQ.erase k r)
theorem Z6:Gd Mz rN:=λK G a xs ts vs as H Q ts' T hx r ra q h=>by
 unfold rN at q
 split at q
 ·rename_i i
  split at q
  ·rename_i c
   split at q
   ·rename_i k ek
    split at q
    ·rename_i U eU
     cases q
     cases ra with
     |cons h1 r1 =>
      cases r1
      cases h1
      unfold okR at c
      rw[Bool.and_eq_true]at c
      have c1:=of_decide_eq_true c.1
      have c2:=of_decide_eq_true c.2
      obtain⟨y,ey,ry⟩:=r.sU eU
      exact⟨a,xs,i,k,y,rfl,rfl,hx,by omega,by omega,by rw[r.length]; exact ek,ey,h _ _ (r.erase k) ry⟩
    ·cases q
   ·cases q
  ·cases q
 ·cases q
theorem Z7(ts as:List Tr)(c:Str):rN ts as ≠ .ex c:=by
 unfold rN
 split <;> (try split) <;> (try split) <;> (try split) <;> (intro z; cases z)
def P0:G1
 |.lst ts=>.ok (.lst ts.reverse,true)
 |_=>.bad
def Z8(fa:EF):EF:=λρ=>(fa ρ).bind λp=>(dr p.2 p.1).bind λa=>(P0 a).bind λz=>.ok (.v z.1 z.2,p.2)
end L2
end
section
namespace L2
open PySem PySem.Spec PyProof.Rows
def tG(i:Int):TE:=λ_ H Q=>Q (.int i) H
def kI:Const->Option Int
 |.int i=>some i
 |_=>none
def bI(o:Operator)(i j:Int):Option Int:=match o with
 |.Sub=>some (i-j)
 |.Add=>some (i+j)
 |.Pow=>if 0<=j/\j<=100/\i.natAbs<=1000 then some (i ^ j.toNat)else none
 |_=>none
def uI(o:UnaryOp)(i:Int):Option Int:=match o with
 |.USub=>some (-i)
 |_=>none
def cI:Expr->Option Int
 |.Constant c _ _=>kI c
 |.UnaryOp o e _=>(cI e).bind (uI o)
 |.BinOp a o b _=>(cI a).bind λi=>(cI b).bind λj=>bI o i j
 |_=>none
theorem Z9{X:Cx}{c:Const}{k:Nat}{p:Pos}{i:Int}(h:kI c=some i):PE X (.Constant c k p) (tG i):=by
 cases c <;> first|(cases h; exact aL)|cases h
theorem aac{X:Cx}{o:UnaryOp}{e:Expr}{p:Pos}{i k:Int}(h:uI o i=some k)(he:PE X e (tG i)):PE X (.UnaryOp o e p) (tG k):=by
 cases o <;> first|(cases h; exact(U3 U5 he).imp λσ H Q q=>⟨i,rfl,q⟩)|cases h
theorem aad{X:Cx}{o:Operator}{a b:Expr}{p:Pos}{i j k:Int}(h:bI o i j=some k)(ha:PE X a (tG i))(hb:PE X b (tG j)):PE X (.BinOp a o b p) (tG k):=by
 cases o <;> try cases h
 ·exact(dh Le ha hb).imp λσ H Q q=>⟨i,j,rfl,rfl,q⟩
 ·exact(dh pY ha hb).imp λσ H Q q=>⟨i,j,rfl,rfl,q⟩
 ·dsimp only[bI]at h
  split at h
  ·rename_i c
   cases h
   have z:(2:Nat) ^ 64=18446744073709551616:=by decide
   exact(dh vL ha hb).imp λσ H Q q=>⟨i,j,rfl,rfl,⟨c.1,by omega,by omega⟩,q⟩
  ·cases h
theorem Af{X:Cx}(e:Expr)(k:Int)(h:cI e=some k):PE X e (tG k):=by
 cases e with
 |Constant c _ _=>exact Z9 h
 |UnaryOp o a _ =>
  have h:(cI a).bind (uI o)=some k:=h
  cases e1:cI a with
  |none=>rw[e1]at h; cases h
  |some i=>rw[e1]at h; exact aac h (Af a i e1)
 |BinOp a o b _ =>
  have h:((cI a).bind λi=>(cI b).bind λj=>bI o i j)=some k:=h
  cases e1:cI a with
  |none=>rw[e1]at h; cases h
  |some i =>
   cases e2:cI b with
   |none=>rw[e1,e2]at h; cases h
   |some j=>rw[e1,e2]at h; exact aad h (Af a i e1) (Af b j e2)
 |_=>cases h
def kT:Const->Option Tr
 |.none=>some .non
 |.bool b=>some (.bl b)
 |.str x=>some (.str x)
 |.int i=>some (.int i)
 |_=>none
mutual
noncomputable def cT:Expr->Option Tr
 |.Constant c _ _=>kT c
 |.Tuple es _ _=>(lV es).map .tup
 |.List es _=>(lV es).map .lst
 |.UnaryOp o a p=>(cI (.UnaryOp o a p)).map .int
 |.BinOp a o b p=>(cI (.BinOp a o b p)).map .int
 |_=>none
noncomputable def lV:List Expr->Option (List Tr)
 | []=>some []
 |e::r=>match cT e,lV r with
  |some T,some Ts=>if Ts.length<1000 then some (T::Ts)else none
  |_,_=>none
end
theorem Ag:∀{es:List Expr} {Ts:List Tr},lV es=some Ts->Ts.length<=1000
 | [],Ts,h=>by
  unfold lV at h
  cases h
  decide
 |e::r,Ts,h=>by
  unfold lV at h
  split at h
  ·split at h
   ·cases h
    rename_i h1
    rw[List.length_cons]
    omega
   ·cases h
  ·cases h
section
variable {X:Cx}{e:Expr}{es:List Expr}{T:Tr}{Ts:List Tr}{pos:Pos}{k:Nat}{G:FZ}
theorem aae:PA X [] (uJ G []):=aH.imp λσ H Q q=>q [] H (Same.refl _) λ_ _=>.nil
theorem aaf(h:PE X e (qR G T))(r:PA X es (uJ G Ts))(hs:starEach (e::es) X.env=(false,eval e X.env)::starEach es X.env):PA X (e::es) (uJ G (T::Ts)) :=
 (nu h r hs).imp λσ H Q q v H1 s1 rv vs H2 s2 rs=>q (v::vs) H2 (s1.trans s2) λPr p=>.cons ((rv Pr p).mono (p.mono s2)) (rs Pr (p.le s1))
theorem Qa(h:PA X es (uJ G Ts))(hl:Ts.length<=1000):PE X (.Tuple es k pos) (qR G (.tup Ts)) :=
 (nA h).imp λσ H Q q vs H1 s1 rs=>by
  by_cases hv:vs.length<=sizeLine
  ·exact⟨hv,λa ha=>q (.ref a) _ (s1.trans (gK ha _)) λPr p=>.tup (fM.of ((p.le s1).new (Same.refl _) ha)) ((rs Pr p).mono (p.mono (gK ha _)))⟩
  ·exact absurd (Nat.le_of_lt (Ec (by rw[(rs _ (Pj.id H)).length]; exact hl))) hv
theorem Qc(h:PA X es (uJ G Ts))(hl:Ts.length<=1000):PE X (.List es pos) (zy G Ts) :=
 (jd h).imp λσ H Q q vs H1 s1 rs=>by
  have e:=(rs _ (Pj.id H)).length
  exact⟨Nat.le_of_lt (Ec (by rw[e]; exact hl)),λa ha=>q a vs H1 s1 ha rs e⟩
theorem aag(h:PE X e (zy G Ts)):PE X e (qR G (.lst Ts)) :=
 h.imp λσ H Q q a xs H1 s1 ha rs _=>q (.ref a) _ (s1.trans (gK ha _)) λPr p=>.lst (eF.of ((p.le s1).new (Same.refl _) ha)) ((rs Pr p).mono (p.mono (gK ha _)))
theorem Qd(h:(cI e).map Tr.int=some T):PE X e (qR G T):=by
 cases e1:cI e with
 |none=>rw[e1]at h; cases h
 |some i =>
  rw[e1]at h; cases h
  exact(Af e i e1).imp λσ H Q q=>q _ H (Same.refl _) λ_ _=>.int i
end
theorem aah{e:Expr}{es:List Expr}{env:Env}{T:Tr}(h:cT e=some T):starEach (e::es) env=(false,eval e env)::starEach es env:=by
 cases e <;> first|rfl|(unfold cT at h; cases h)
theorem aai{X:Cx}{G:FZ}{c:Const}{k:Nat}{p:Pos}{T:Tr}(h:kT c=some T):PE X (.Constant c k p) (qR G T):=by
 cases c <;> try cases h
 ·exact pW.imp λσ H Q q=>q _ H (Same.refl _) λ_ _=>.non
 ·exact gC.imp λσ H Q q=>q _ H (Same.refl _) λ_ _=>.bl _
 ·exact aL.imp λσ H Q q=>q _ H (Same.refl _) λ_ _=>.int _
 ·exact iC.imp λσ H Q q=>q _ H (Same.refl _) λ_ _=>.str _
mutual
theorem aaj{X:Cx}{G:FZ}(e:Expr)(T:Tr)(h:cT e=some T):PE X e (qR G T):=by
 cases e with
 |Constant c _ _=>exact aai (by unfold cT at h; exact h)
 |Tuple es _ _ =>
  unfold cT at h
  cases e:lV es with
  |none=>rw[e]at h; cases h
  |some Ts =>
   rw[e]at h
   cases h
   exact Qa (wO es Ts e) (Ag e)
 |List es _ =>
  unfold cT at h
  cases e:lV es with
  |none=>rw[e]at h; cases h
  |some Ts =>
   rw[e]at h
   cases h
   exact aag (Qc (wO es Ts e) (Ag e))
 |UnaryOp o a p=>exact Qd (by unfold cT at h; exact h)
 |BinOp a o b p=>exact Qd (by unfold cT at h; exact h)
 |_=>unfold cT at h; cases h
theorem wO{X:Cx}{G:FZ}:∀(es:List Expr) (Ts:List Tr),lV es=some Ts->PA X es (uJ G Ts)
 | [],Ts,h=>by
  unfold lV at h; cases h
  exact aae
 |e::r,Ts,h=>by
  unfold lV at h
  cases e1:cT e with
  |none=>rw[e1]at h; cases h
  |some T =>
   cases e2:lV r with
   |none=>rw[e1,e2]at h; cases h
   |some Us =>
    rw[e1,e2]at h
    dsimp only at h
    split at h
    ·cases h
     exact aaf (aaj e T e1) (wO r Us e2) (aah e1)
    ·cases h
end
theorem jx{X:Cx}{G:FZ}{es:List Expr}{pos:Pos}{Ts:List Tr}(h:lV es=some Ts):PE X (.List es pos) (zy G Ts):=Qc (wO es Ts h) (Ag h)
theorem Ah{X:Cx}{G:FZ}{es:List Expr}{k:Nat}{pos:Pos}{Ts:List Tr}(h:lV es=some Ts):PE X (.Tuple es k pos) (qR G (.tup Ts)):=Qa (wO es Ts h) (Ag h)
end L2
end
section
namespace L2
open PySem PySem.Spec PyProof.Rows
theorem Pj.aU{W:Addr->Prop}{H:Hp}(hw:∀b,W b->H b≠none):Pj (L2.aU W) H where
 mono:=λs=>(cX.of s).off
 sub:=λH=>lB W H
 new:=λ{H' r o} s h=>by
  rw[gG λw=>hw r w (s.free h)]
  exact gk
def fU(Ts:List Tr):EF:=λρ=>.ok (.v (.lst Ts) true,ρ)
theorem aak{t:Tx}{K:FZ}(hK:t.K=aG K){T:Tr}:SE t (qR (aG K) T) (eC T):=λW ρ σ H Q e h=>λv H' s r=>by
 rw[<-hK]at r
 exact h v H' (e.grow s) (cX.of s) (.low (r _ (Pj.aU e.wn)))
theorem tH{t:Tx}{K:FZ}(hK:t.K=aG K){Ts:List Tr}:SE t (zy (aG K) Ts) (fU Ts):=λW ρ σ H Q e h=>λa xs H1 s ha r _=>by
 rw[<-hK]at r
 have e1:=e.grow s
 exact h _ _ (e1.grow (gK ha _)) ((cX.of s).trans (cX.of (gK ha _))) ((iD.of (σ' := σ) e1 (gK ha _) (gq.new ha (r _ (Pj.aU e.wn)))).back λb q=>s.free q)
end L2
end
section
namespace L2
open PySem PySem.Spec PyProof.Rows
def wQ:Expr->Bool
 |.ListComp .. => false
 |.SetComp .. => false
 |.DictComp .. => false
 |_=>true
theorem GD{e:Expr}{t:Option Expr}{l:Nat}{env:Env}(h:wQ e=true):swapsWith e t l env=pure false:=by
 cases e <;> first|rfl|(unfold wQ at h; cases h)
section
variable {X:Cx}{x:Str}{e:Expr}{es:List Expr}{te:TE}{ta:TA}{pos pos' p:Pos}{k:Nat}{ps:List Str}{sp:Sp}{E:XK}
theorem au(i:Nat)(hN:X.N[i]?=some x:=by kernel_rfl)(hv:X.env.scope.names.lookup x=some .local:=by kernel_rfl)(hd:(x == ("__debug__" : Str))=false:=by kernel_rfl) (hc:(x == ("__classdict__" : Str))=false:=by kernel_rfl):PE X (.Name x pos) (mF i):=Km hN (.inl hv) hd hc
theorem fL(i:Nat)(hN:X.N[i]?=some x:=by kernel_rfl)(hv:X.env.scope.names.lookup x=some .cell:=by kernel_rfl)(hd:(x == ("__debug__" : Str))=false:=by kernel_rfl) (hc:(x == ("__classdict__" : Str))=false:=by kernel_rfl):PE X (.Name x pos) (mF i):=Km hN (.inr (.inl hv)) hd hc
theorem fG(i:Nat)(hN:X.N.Nodup)(he:PE X e te)(hi:X.N[i]?=some x:=by kernel_rfl)(hx:X.env.scope.names.lookup x=some .local:=by kernel_rfl)(h:wQ e=true:=by kernel_rfl):PS X (.Assign [.Name x pos'] e pos) (nq te (iy i)):=Dj hN hi (.inl hx) he (GD h) (.inr hx)
theorem Qe(i:Nat)(hN:X.N.Nodup)(hf:X.fn x=true)(he:PE X e te)(hi:X.N[i]?=some x:=by kernel_rfl)(hx:X.env.scope.names.lookup x=some .cell:=by kernel_rfl)(h:wQ e=true:=by kernel_rfl):PS X (.Assign [.Name x pos'] e pos) (nq te (iy i)):=Dj hN hi (.inr hx) he (GD h) (.inl hf)
theorem psE(he:PE X e te)(h:wQ e=true:=by kernel_rfl):PS X (.Expr e pos) (yD te):=Ut he (GD h)
theorem gY(i:Nat)(hN:X.N.Nodup)(hi:X.N[i]?=some x:=by kernel_rfl)(hx:X.env.scope.names.lookup x=some .local:=by kernel_rfl):PG X (.Name x pos) (iy i):=Uu hN hi (.inl hx) (.inr hx)
theorem Qf(D:bJ X.prog X.w X.K X.mg X.base k x ps sp)(hr:gZ k X.A)(hx:Passes (j9 X.prog X.w) X E)(ha:PA X (e::es) ta)(hg:X.env.kindOf x=some .globalImplicit:=by kernel_rfl)(hdb:(x == ("__debug__" : Str))=false:=by kernel_rfl)
  (he:notStar e=true:=by kernel_rfl) (hpl:(backTo pos (starEach es X.env)).any (·.1)=false:=by kernel_rfl):PE X (.Call (.Name x p) (e::es) [] pos) (oN sp [] E ta):=Y6 D hr hx ha hg hdb (oR he) hpl
theorem gD{r:List V->Hp->VK->Prop}{id:String}(hc:iK X (.builtin id) r)(hm:X.mg x=none)(ha:PA X (e::es) ta)(hv:bootBuiltins x=some (.builtin id):=by decide +kernel)(hg:X.env.kindOf x=some .globalImplicit:=by kernel_rfl)(hn:x ≠ "__name__" := by decide +kernel) (hdb:(x == ("__debug__" : Str))=false:=by kernel_rfl)
  (he:notStar e=true:=by kernel_rfl) (hpl:(backTo pos (starEach es X.env)).any (·.1)=false:=by kernel_rfl):PE X (.Call (.Name x p) (e::es) [] pos) (jr r ta):=yU hc hg hm hv ha hn hdb (oR he) hpl
theorem qt{r:List V->Hp->VK->Prop}{T:String}(hc:iK X (.type T) r)(hm:X.mg x=none)(ha:PA X (e::es) ta)(hv:bootBuiltins x=some (.type T):=by decide +kernel)(hg:X.env.kindOf x=some .globalImplicit:=by kernel_rfl)(hn:x ≠ "__name__" := by decide +kernel) (hdb:(x == ("__debug__" : Str))=false:=by kernel_rfl)
  (he:notStar e=true:=by kernel_rfl) (hpl:(backTo pos (starEach es X.env)).any (·.1)=false:=by kernel_rfl):PE X (.Call (.Name x p) (e::es) [] pos) (jr r ta):=Vi hc hg hm hv ha hn hdb (oR he) hpl
theorem jY(hX:zx X.K)(c:Ty){q:Pos}(he:PE X e te)(h1:X.mg "isinstance" = none) (h2:X.mg x=none) (hb:bootBuiltins x=some (.type c.name):=by decide +kernel) (hg1:X.env.kindOf "isinstance" = some .globalImplicit:=by kernel_rfl) (hg2:X.env.kindOf x=some .globalImplicit:=by kernel_rfl) (hn:x ≠ "__name__" := by decide +kernel) (hd:(x == ("__debug__" : Str))=false:=by kernel_rfl)
  (hs:notStar e=true:=by kernel_rfl):PE X (.Call (.Name "isinstance" p) [e,.Name x q] [] pos) (jr (zu X.K) (ji te (ji (tC (.ty c.name)) mH))):=Wy hX c he h1 h2 hb hg1 hg2 hn hd (oR hs)
theorem aA{t:TA}(ha:PE X e te)(hr:PA X es t)(h:notStar e=true:=by kernel_rfl):PA X (e::es) (ji te t):=nu ha hr (oR h)
theorem GJ{v:V}{T:Tr}(h:Gk X.K X.mg x v T)(hg:X.env.kindOf x=some .globalImplicit:=by kernel_rfl)(hd:(x == ("__debug__" : Str))=false:=by kernel_rfl):PE X (.Name x pos) (tC v):=ZR h hg hd
theorem tK{a tg:Expr}(hm:X.mg "range" = none) (ha:PA X [a] ta) (hg:X.env.kindOf "range" = some .globalImplicit:=by kernel_rfl) (hs:notStar a=true:=by kernel_rfl):PI X tg (.Call (.Name "range" p) [a] [] pos) (Dq ta):=UJ hg hm ha (oR hs)
end
end L2
end
section
namespace L2
open PySem PySem.Spec PyProof.Rows
section
variable {t:Tx}{W:Addr->Prop}{ρ : En}{σ : St}{H:Hp}
theorem DR.len{K:FZ}{G H:Hp}:∀{xs:List V} {ts:List Tr} {bs:List Addr},DR K G H xs ts bs->xs.length=ts.length
 |_,_,_,.nil=>rfl
 |_,_,_,.cl _ _ r=>by rw[List.length_cons,List.length_cons,r.len]
 |_,_,_,.rw _ _ r=>by rw[List.length_cons,List.length_cons,r.len]
theorem DR.reps{K:FZ}{G G' H:Hp}(m:Same G G'):∀{xs:List V} {ts:List Tr} {bs:List Addr},DR K G H xs ts bs->(∀b ys,b∈bs->H b=some (.lst ys)->G' b=some (.lst ys))->aQ K G' xs ts
 |_,_,_,.nil,_=>.nil
 |_,_,_,.cl _ h r,k=>.cons (h.mono m) (DR.reps m r k)
 |_,_,_,.rw h q r,k=>.cons (.lst (eF.of (k _ _ (List.mem_cons_self ..) h)) (q.mono m)) (DR.reps m r λb ys hb=>k b ys (List.mem_cons_of_mem _ hb))
theorem DR.row{K:FZ}{G H:Hp}:∀{xs:List V} {ts:List Tr} {bs:List Addr} {k:Nat} {us:List Tr},DR K G H xs ts bs->ts[k]?=some (.lst us)->bs.Nodup->∃b ys,xs[k]?=some (.ref b)/\b∈bs/\H b=some (.lst ys)/\aQ K G ys us /\
  ∀(ys':List V) (us':List Tr),aQ K G ys' us'->DR K G (upd H b (.lst ys')) xs (ts.set k (.lst us')) bs
 |_,_,_,_,_,.nil,h,_=>by simp at h
 |_,_,_,0,_,.cl n h r,e,nd=>by
  simp at e
  subst e
  cases n
 |_,_,_,0,us,.rw (b:=b) (ys:=ys) (us:=vs) (xs:=xs) (ts:=ts) (bs:=bs) h q r,e,nd=>by
  have e:Tr.lst vs=.lst us:=by simpa using e
  cases e
  refine⟨b,ys,rfl,List.mem_cons_self ..,h,q,λys' us' r'=>?_⟩
  refine .rw gk r' (r.move (Same.refl _) λc o hc z=>?_)
  rw[cL (show c≠b from λy=>(List.nodup_cons.mp nd).1 (by rw[<-y]; exact hc))]
  exact z
 |_,_,_,k+1,us,.cl n h r,e,nd=>by
  obtain⟨b,ys,h1,h2,h3,h4,h5⟩:=DR.row (k:=k) r (by simpa using e) nd
  exact⟨b,ys,by simpa using h1,h2,h3,h4,λys' us' r'=>.cl n h (h5 ys' us' r')⟩
 |_,_,_,k+1,us,.rw (b:=c) h q r,e,nd=>by
  obtain⟨b,ys,h1,h2,h3,h4,h5⟩:=DR.row (k:=k) r (by simpa using e) (List.nodup_cons.mp nd).2
  refine⟨b,ys,by simpa using h1,List.mem_cons_of_mem _ h2,h3,h4,λys' us' r'=>.rw ?_ q (h5 ys' us' r')⟩
  rw[cL λy=>(List.nodup_cons.mp nd).1 (by rw[y]; exact h2)]
  exact h
def bT(ρ : En)(i:Nat):Rs (List Tr):=match ρ[i]? with
 |some (.dp ts)=>.ok ts
 |_=>.bad
theorem GK(ρ : En)(i:Nat)(c:Str):bT ρ i ≠ .ex c:=by
 unfold bT
 split <;> (intro z; cases z)
theorem GP{i:Nat}{ts:List Tr}(h:bT ρ i=.ok ts) : ρ[i]?=some (.dp ts):=by
 unfold bT at h
 split at h
 ·rename_i q; cases h; exact q
 ·cases h
theorem aP.putD{i k:Nat}{ts us:List Tr}(e:aP t W ρ σ H)(hi : ρ[i]?=some (.dp ts))(hk:ts[k]?=some (.lst us)):∃a xs b ys,σ[i]?=some (some (.ref a))/\H a=some (.lst xs)/\xs.length=ts.length/\xs[k]?=some (.ref b)/\H b=some (.lst ys)/\aQ t.K (aU W H) ys us /\
  ∀ys' us',aQ t.K (aU W H) ys' us'->aP t W (ρ.set i (.dp (ts.set k (.lst us')))) σ (upd H b (.lst ys'))/\cX W H (upd H b (.lst ys'))/\aU W (upd H b (.lst ys'))=aU W H:=by
 obtain⟨F,e⟩:=e
 obtain⟨a,xs,h1,d⟩:=e.dp i ts hi
 have d':=d
 obtain⟨bs,ef,nd,ww,ha,r⟩:=d
 rw[ef]at nd
 have nd':=List.nodup_cons.mp nd
 obtain⟨b,ys,k1,k2,k3,k4,k5⟩:=r.row hk nd'.2
 have hb:b∈F i:=by rw[ef]; exact List.mem_cons_of_mem _ k2
 have wb:=(ww b hb).1
 have nab:a≠b:=λz=>nd'.1 (z▸k2)
 have lt:i < ρ.length:=(List.getElem?_eq_some_iff.mp hi).1
 refine⟨a,xs,b,ys,h1,ha,r.len,k1,k3,k4,λys' us' r'=>?_⟩
 have o:aU W (upd H b (.lst ys'))=aU W H:=mX wb
 have kO:∀(j:Nat) (s:Sl),(ρ.set i (.dp (ts.set k (.lst us'))))[j]?=some s->(j=i/\s=.dp (ts.set k (.lst us')))\/(j≠i/\ρ[j]?=some s):=λj s h=>by
  rcases get_set h with⟨z1,z2,_⟩|z
  ·exact .inl ⟨z1,z2⟩
  ·exact .inr z
 have mu:∀j,Mu (ρ.set i (.dp (ts.set k (.lst us')))) j->j≠i/\Mu ρ j:=λj m=>by
  obtain⟨zs,q|q⟩:=m <;> rcases kO _ _ q with⟨_,z⟩|⟨n,q⟩
  ·cases z
  ·exact⟨n,zs,.inl q⟩
  ·cases z
  ·exact⟨n,zs,.inr q⟩
 have ne:∀j c,Mu ρ j -> σ[j]?=some (some (V.ref c))->c≠b:=λj c m q z=>by
  subst z
  exact e.dm i j ts c hi m q hb
 have fW:∀(j:Nat) (zs:List Tr),(ρ.set i (.dp (ts.set k (.lst us'))))[j]?=some (Sl.dp zs)->∃zs',ρ[j]?=some (Sl.dp zs'):=λj zs h=>by
  rcases kO _ _ h with⟨rfl,_⟩|⟨_,h⟩
  ·exact⟨ts,hi⟩
  ·exact⟨zs,h⟩
 refine⟨⟨F,by rw[List.length_set]; exact e.len,e.zw,e.z0,λc w=>?_,λc q h n=>?_,λc h=>?_,λj u h=>?_,λj zs h=>?_,λj zs h=>?_,λj l c m1 m2=>e.dis j l c (mu j m1).2 (mu l m2).2,λc q h=>?_,λj c m=>e.pd j c (mu j m).2,λj zs h=>?_,λj l zs vs n q1 q2=>?_,λj l zs c q1 m q=>?_,λj zs h=>?_,e.tab.upd k3⟩,⟨λc q n h=>?_,λc h=>?_⟩,o⟩
 ·by_cases z:c=b
  ·subst z; exact .inl ⟨ys',gk⟩
  ·unfold Lt; rw[cL z]; exact e.wl c w
 ·rw[cL]
  ·exact e.f0 c q h n
  ·rintro rfl
   rw[(ww c hb).2]at h
   cases h
 ·by_cases z:c=b
  ·subst z; exact(ww c hb).2
  ·rw[cL z]at h; exact e.n0 c h
 ·rw[o]
  rcases kO _ _ h with⟨_,z⟩|⟨_,h⟩
  ·cases z
  ·exact e.sh j u h
 ·rw[o]
  rcases kO _ _ h with⟨_,z⟩|⟨_,h⟩
  ·cases z
  ·obtain⟨c,vs,q1,q2,q3,q4,q5⟩:=e.ow j zs h
   exact⟨c,vs,q1,q2,q3,by rw[cL (ne j c ⟨zs,.inl h⟩ q1)]; exact q4,q5⟩
 ·rw[o]
  rcases kO _ _ h with⟨_,z⟩|⟨_,h⟩
  ·cases z
  ·obtain⟨c,vs,q1,q2,q3,q4,q5⟩:=e.rf j zs h
   exact⟨c,vs,q1,q2,q3,by rw[cL (ne j c ⟨zs,.inr h⟩ q1)]; exact q4,q5⟩
 ·rw[cL]
  ·exact e.pn c q h
  ·rintro rfl
   rw[e.db i ts hi c hb]at h
   cases h
 ·rcases kO _ _ h with⟨rfl,z⟩|⟨nj,h⟩
  ·cases z
   refine⟨a,xs,h1,bs,ef,by rw[ef]; exact nd,ww,by rw[cL nab]; exact ha,?_⟩
   rw[o]
   exact k5 ys' us' r'
  ·obtain⟨c,vs,q1,dj⟩:=e.dp j zs h
   refine⟨c,vs,q1,dj.move rfl rfl (by rw[o]; exact Same.refl _) (λx hx=>by obtain⟨_,_,_,w2,_⟩:=dj; exact(w2 x hx).1) λx q hx z=>?_⟩
   rw[cL (show x≠b from λy=>e.dd i j ts zs (Ne.symm nj) hi h b hb (by rw[<-y]; exact hx))]
   exact z
 ·obtain⟨_,z1⟩:=fW j zs q1
  obtain⟨_,z2⟩:=fW l vs q2
  exact e.dd j l _ _ n z1 z2
 ·obtain⟨_,z1⟩:=fW j zs q1
  exact e.dm j l _ c z1 (mu l m).2 q
 ·obtain⟨_,z1⟩:=fW j zs h
  exact e.db j _ z1
 ·rw[cL λz=>n (by rw[z]; exact wb)]; exact h
 ·by_cases z:c=b
  ·subst z; rw[gk]at h; cases h
  ·rw[cL z]at h; exact h
end
end L2
end
section
namespace L2
open PySem PySem.Spec PyProof.Rows
abbrev QF:=En->Rs Tr
def SQ(t:Tx)(te:TE)(f:QF):Prop:=∀W ρ σ H Q,aP t W ρ σ H->(f ρ).post (λ_=>False) (λT=>∀v,Rep t.K (aU W H) v T->Q v H)->te σ H Q
section
variable {t:Tx}{K:FZ}
def jZ(i:Nat):QF:=λρ=>match ρ[i]? with
 |some (.sh T)=>.ok T
 |_=>.bad
theorem tL(i:Nat):SQ t (mF i) (jZ i):=λW ρ σ H Q e h=>by
 unfold jZ at h
 split at h
 ·rename_i T q
  obtain⟨v,h1,h2⟩:=e.sh i T q
  exact⟨v,h1,h v h2⟩
 ·exact h.elim
def qC(T:Tr):QF:=λ_=>.ok T
def jJ(ts:List Tr)(k:Tr):Rs (Nat × Tr):=match k with
 | .int i=>(match dg ts.length i with
  | some j=>(match ts[j]? with
   |some u=>.ok (j,u)
   |none=>.bad)
  |none=>.bad)
 |_=>.bad
theorem GQ{ts:List Tr}{k:Tr}{j:Nat}{u:Tr}(h:jJ ts k=.ok (j,u)):∃i,k=.int i/\dg ts.length i=some j/\ts[j]?=some u:=by
 unfold jJ at h
 split at h
 ·rename_i i
  split at h
  ·rename_i j' e
   split at h
   ·rename_i u' e2
    cases h
    exact⟨i,rfl,e,e2⟩
   ·cases h
  ·cases h
 ·cases h
theorem wR(ts:List Tr)(k:Tr)(c:Str):jJ ts k ≠ .ex c:=by
 unfold jJ
 split <;> (try split) <;> (try split) <;> (intro z; cases z)
theorem GR(hK:t.K=aG K){W:Addr->Prop}{ρ : En}{σ : St}{H:Hp}{i j:Nat}{ts us:List Tr}{tk:TE}{fk:QF}{kT:Tr}{Q:VK}(e:aP t W ρ σ H)(hi : ρ[i]?=some (.dp ts))(hk:SQ t tk fk)(h1:fk ρ=.ok kT)(h2:jJ ts kT=.ok (j,.lst us))
  (q:∀a xs b ys,σ[i]?=some (some (.ref a))->H a=some (.lst xs)->xs[j]?=some (.ref b)->H b=some (.lst ys)->aQ t.K (aU W H) ys us->(∀ys' us',aQ t.K (aU W H) ys' us'->aP t W (ρ.set i (.dp (ts.set j (.lst us')))) σ (upd H b (.lst ys'))/\cX W H (upd H b (.lst ys'))/\aU W (upd H b (.lst ys'))=aU W H)->Q (.ref b) H):gF (mK K) (mF i) tk σ H Q:=by
 obtain⟨k,rfl,h3,h4⟩:=GQ h2
 obtain⟨a,xs,b,ys,k1,k2,k3,k4,k5,k6,k7⟩:=e.putD hi h4
 refine⟨_,k1,hk W ρ σ H _ e ?_⟩
 rw[h1]
 intro v rv
 cases rv
 refine .inl ⟨a,xs,k,.ref b,rfl,rfl,eF.of k2,?_,q a xs b ys k1 k2 k4 k5 k6 k7⟩
 unfold cR
 rw[k3,h3]
 exact k4
def Ai(i:Nat)(fk fj:QF):QF:=λρ=>(bT ρ i).bind λts=>(fk ρ).bind λk=>(jJ ts k).bind λz=>match z.2 with
 |.lst us=>(fj ρ).bind λj=>(jJ us j).bind λy=>.ok y.2
 |_=>.bad
theorem aal(hK:t.K=aG K)(i:Nat){tk tj:TE}{fk fj:QF}(hk:SQ t tk fk)(hj:SQ t tj fj):SQ t (gF (mK K) (gF (mK K) (mF i) tk) tj) (Ai i fk fj):=λW ρ σ H Q e h=>by
 obtain⟨ts,k0,h⟩:=dO (Rs.aR h) (GK _ _)
 cases e1:fk ρ with
 |bad=>have h:=Rs.aR h; rw[e1]at h; exact h.elim
 |ex c=>have h:=Rs.aR h; rw[e1]at h; exact h.elim
 |ok k =>
 have h:=Rs.aR h
 rw[e1]at h
 have h:((jJ ts k).bind _).post _ _:=h
 obtain⟨⟨m,u⟩,k2,h⟩:=dO (Rs.aR h) (wR _ _)
 cases u <;> try exact h.elim
 rename_i us
 have h:=Rs.aR h
 cases e2:fj ρ with
 |bad=>rw[e2]at h; exact h.elim
 |ex c=>rw[e2]at h; exact h.elim
 |ok j =>
 rw[e2]at h
 have h:((jJ us j).bind _).post _ _:=h
 obtain⟨⟨m',u'⟩,k3,hf⟩:=dO (Rs.aR h) (wR _ _)
 obtain⟨z,rfl,h5,h6⟩:=GQ k3
 show gF (mK K) (mF i) tk σ H λx H1=>tj σ H1 λy H2=>mK K x y H2 Q
 refine GR hK e (GP k0) hk e1 k2 λa xs b ys q1 q2 q3 q4 q5 _=>?_
 refine hj W ρ σ H _ e ?_
 rw[e2]
 intro v rv
 cases rv
 obtain⟨x,hx,rx⟩:=q5.sU h6
 refine .inl ⟨b,ys,z,x,rfl,rfl,eF.of q4,?_,hf x rx⟩
 unfold cR
 rw[q5.length,h5]
 exact hx
def uR(i:Nat)(fk:QF)(m:GM)(fa:QF):SF:=λρ=>(bT ρ i).bind λts=>(aY (fk ρ)).bind λk=>(jJ ts k).bind λz=>match z.2 with
 |.lst us=>(aY (fa ρ)).bind λT=>(m us [T]).bind λy=>.ok (.nx,ρ.set i (.dp (ts.set z.1 (.lst y.1))))
 |_=>.bad
theorem Qg(hK:t.K=aG K){r:V->List V->Hp->VK->Prop}{m:GM}(i:Nat){tk ta:TE}{fk fa:QF}(hm:Gd r m)(ng:∀ts as c,m ts as ≠ .ex c)(hk:SQ t tk fk)(ha:SQ t ta fa):SS t (yD (yW K "list" r (gF (mK K) (mF i) tk) (ji ta mH))) (uR i fk m fa):=λW ρ σ H D e h=>by
 obtain⟨ts,k0,h⟩:=dO (Rs.aR h) (GK _ _)
 obtain⟨k,e1,h⟩:=dO (Rs.aR h) (wI _)
 obtain⟨⟨j,u⟩,k2,h⟩:=dO (Rs.aR h) (wR _ _)
 cases u <;> try exact h.elim
 rename_i us
 obtain⟨T,e2,h⟩:=dO (Rs.aR h) (wI _)
 obtain⟨⟨us',U⟩,k3,h⟩:=dO (Rs.aR h) (ng _ _)
 have un:∀{α : Type} {x:Rs α} {a : α},aY x=.ok a->x=.ok a:=λ{α x a} z=>by cases x <;> first|exact z|cases z
 have e1:=un e1
 have e2:=un e2
 show gF (mK K) (mF i) tk σ H λx H1=>_
 refine GR hK e (GP k0) hk e1 k2 λa xs b ys q1 q2 q3 q4 q5 q6=>⟨.inl ⟨rfl,ys,eF.of q4⟩,?_⟩
 refine ha W ρ σ H _ e ?_
 rw[e2]
 intro v rv
 refine hm t.K (aU W H) b ys us [v] [T] H _ us' U q4 q5 (.cons rv .nil) k3 λys' w ry _=>?_
 obtain⟨e3,s3,_⟩:=q6 ys' us' ry
 exact h W σ _ e3 s3.nxt
noncomputable def Aj(i:Nat)(fk fj:QF)(fe:EF):SF:=λρ=>(fe ρ).bind λp=>(bx p.1).bind λT=>(bT p.2 i).bind λts=>(aY (fk p.2)).bind λk=>(jJ ts k).bind λz=>match z.2 with
 |.lst us=>(aY (fj p.2)).bind λj=>(jJ us j).bind λy=>.ok (.nx,p.2.set i (.dp (ts.set z.1 (.lst (us.set y.1 T)))))
 |_=>.bad
theorem aam(hK:t.K=aG K)(i:Nat){te tk tj:TE}{fk fj:QF}{fe:EF}(he:SE t te fe)(hk:SQ t tk fk)(hj:SQ t tj fj):SS t (nq te (Dh (gF (mK K) (mF i) tk) tj DW)) (Aj i fk fj fe):=λW ρ σ H D e h=>by
 refine he W ρ σ H _ e (Rs.cg (Rs.aR h) λp h v H1 e1 s1 v1=>?_)
 obtain⟨T,kT,h⟩:=dO (Rs.aR h) (Px _)
 have rv:Rep t.K (aU W H1) v T:=by
  obtain⟨r,ρ1⟩:=p
  cases r with
  |s i=>cases kT
  |v U fr=>cases kT; exact v1.1.rep e.wn
 obtain⟨ts,k0,h⟩:=dO (Rs.aR h) (GK _ _)
 obtain⟨k,g1,h⟩:=dO (Rs.aR h) (wI _)
 obtain⟨⟨m,u⟩,k2,h⟩:=dO (Rs.aR h) (wR _ _)
 cases u <;> try exact h.elim
 rename_i us
 obtain⟨j,g2,h⟩:=dO (Rs.aR h) (wI _)
 obtain⟨⟨m',u'⟩,k3,hf⟩:=dO (Rs.aR h) (wR _ _)
 obtain⟨z,rfl,h5,h6⟩:=GQ k3
 have un:∀{α : Type} {x:Rs α} {a : α},aY x=.ok a->x=.ok a:=λ{α x a} z=>by cases x <;> first|exact z|cases z
 have g1:=un g1
 have g2:=un g2
 show gF (mK K) (mF i) tk σ H1 λo H1=>_
 refine GR hK e1 (GP k0) hk g1 k2 λa xs b ys q1 q2 q3 q4 q5 q6=>?_
 refine hj W p.2 σ H1 _ e1 ?_
 rw[g2]
 intro w kZ
 cases kZ
 obtain⟨e3,s3,_⟩:=q6 _ _ (q5.set rv m')
 exact⟨b,ys,z,m',rfl,rfl,q4,by rw[q5.length]; exact h5,hf W σ _ e3 (s1.trans s3).nxt⟩
def cC(i:Nat)(ρ : En):En:=match ρ[i]? with
 |some (.dp ts)=>ρ.set i (.ow ts)
 |_=>ρ
theorem aP.cC{W:Addr->Prop}{ρ : En}{σ : St}{H:Hp}(e:aP t W ρ σ H)(i:Nat):∃W',aP t W' (L2.cC i ρ) σ H/\iU W H W' H:=by
 unfold L2.cC
 split
 ·rename_i ts q
  obtain⟨F,e⟩:=e
  obtain⟨a,xs,h1,bs,ef,nd,ww,ha,r⟩:=e.dp i ts q
  have nd':=nd
  rw[ef]at nd'
  have nab:=(List.nodup_cons.mp nd').1
  have m:Same (aU W H) (aU (λb=>W b/\b∉bs) H):=nM (λ_ _ _ z=>z.1) λ_ _ _ h=>h
  have inF:∀b∈bs,b∈F i:=λb hb=>by rw[ef]; exact List.mem_cons_of_mem _ hb
  have aF:a∈F i:=by rw[ef]; exact List.mem_cons_self ..
  have lt:i < ρ.length:=(List.getElem?_eq_some_iff.mp q).1
  have mu:∀j,Mu (ρ.set i (.ow ts)) j->j=i\/(j≠i/\Mu ρ j):=λj h=>by
   obtain⟨us,h|h⟩:=h <;> rcases get_set h with⟨rfl,z,_⟩|⟨ne,h⟩
   ·exact .inl rfl
   ·exact .inr ⟨ne,us,.inl h⟩
   ·exact .inl rfl
   ·exact .inr ⟨ne,us,.inr h⟩
  have fW:∀(j:Nat) (us:List Tr),(ρ.set i (.ow ts))[j]?=some (Sl.dp us)->j≠i/\ρ[j]?=some (Sl.dp us):=λj us h=>by
   rcases get_set h with⟨rfl,z,_⟩|⟨ne,h⟩
   ·cases z
   ·exact⟨ne,h⟩
  have Qh:∀j c,Mu ρ j -> σ[j]?=some (some (V.ref c))->c∉bs:=λj c mj qj z=>e.dm i j ts c q mj qj (inF c z)
  refine⟨λb=>W b/\b∉bs,⟨F,by rw[List.length_set]; exact e.len,λb z=>⟨e.zw b z,λhb=>e.z0 b z (ww b (inF b hb)).2⟩,e.z0,λb w=>e.wl b w.1,e.f0,e.n0,λj u h=>?_,λj us h=>?_,λj us h=>?_,λj k c m1 m2 q1 q2=>?_,e.pn,λj c m1 q1=>?_,λj us h=>?_,λj k us vs n g1 g2=>e.dd j k us vs n (fW j us g1).2 (fW k vs g2).2,λj k us c g1 m1 q1=>?_,λj us h=>e.db j us (fW j us h).2,e.tab.cut (D:=λb=>b∈bs) (λb hb=>r.lst b hb)⟩,λb o n h=>⟨λz=>n z.1,h⟩⟩
  ·rcases get_set h with⟨rfl,z,l⟩|⟨ne,h⟩
   ·cases z
   ·obtain⟨w,g1,g2⟩:=e.sh j u h
    exact⟨w,g1,g2.mono m⟩
  ·rcases get_set h with⟨rfl,z,l⟩|⟨ne,h⟩
   ·cases z
    refine⟨a,xs,h1,⟨(ww a aF).1,nab⟩,(ww a aF).2,ha,r.reps m λb ys hb hy=>?_⟩
    rw[gG λz=>z.2 hb]
    exact hy
   ·obtain⟨c,ys,g1,g2,g3,g4,g5⟩:=e.ow j us h
    exact⟨c,ys,g1,⟨g2,Qh j c ⟨us,.inl h⟩ g1⟩,g3,g4,g5.mono m⟩
  ·rcases get_set h with⟨rfl,z,l⟩|⟨ne,h⟩
   ·cases z
   ·obtain⟨c,ys,g1,g2,g3,g4,g5⟩:=e.rf j us h
    exact⟨c,ys,g1,⟨g2,Qh j c ⟨us,.inr h⟩ g1⟩,g3,g4,g5.mono m⟩
  ·have self:∀c,σ[i]?=some (some (V.ref c))->c=a:=λc z=>by rw[h1]at z; cases z; rfl
   rcases mu j m1 with y1|⟨n1,v1⟩ <;> rcases mu k m2 with y2|⟨n2,v2⟩
   ·rw[y1,y2]
   ·rw[y1]at q1
    have:=self c q1
    subst this
    exact(e.dm i k ts c q v2 q2 aF).elim
   ·rw[y2]at q2
    have:=self c q2
    subst this
    exact(e.dm i j ts c q v1 q1 aF).elim
   ·exact e.dis j k c v1 v2 q1 q2
  ·rcases mu j m1 with y1|⟨n1,v1⟩
   ·rw[y1,h1]at q1
    cases q1
    exact e.db i ts q a aF
   ·exact e.pd j c v1 q1
  ·obtain⟨nj,h⟩:=fW j us h
   obtain⟨c,ys,g1,d⟩:=e.dp j us h
   refine⟨c,ys,g1,d.move rfl rfl m (λb hb=>⟨by obtain⟨_,_,_,w2,_⟩:=d; exact(w2 b hb).1,λz=>e.dd j i us ts nj h q b hb (inF b z)⟩) λ_ _ _ z=>z⟩
  ·obtain⟨nj,g2⟩:=fW j us g1
   rcases mu k m1 with y1|⟨n1,v1⟩
   ·rw[y1,h1]at q1
    cases q1
    exact λz=>e.dd i j ts us (Ne.symm nj) q g2 a aF z
   ·exact e.dm j k us c g2 v1 q1
 ·exact⟨W,e,iU.refl _ _⟩
def m7(i:Nat)(f:SF):SF:=λρ=>f (cC i ρ)
theorem wU{ts:TS}{f:SF}(i:Nat)(h:SS t ts f):SS t ts (m7 i f):=λW ρ σ H D e q=>by
 obtain⟨W',e',n⟩:=e.cC i
 exact h W' _ σ H D e' (Rs.cg q λp q=>q.back n)
end
end L2
end
section
namespace L2
open PySem PySem.Spec PyProof.Rows
open Classical in
def tP(t:Tx)(src:List (Option Nat))(ρ : En)(σ : St)(F:Nat->List Addr)(H1 P:Hp):Tx:=⟨t.K,t.Z,t.R,t.H0,λb=>if P b=none then(if OU src ρ σ F b then H1 b else t.B b)else P b,λ_=>False⟩
section
variable {t:Tx}{src:List (Option Nat)}{ρ1:En}{σ : St}{F:Nat->List Addr}{H1 P:Hp}{D:Addr}{W:Addr->Prop}
theorem mQ{b:Addr}{o:HO}(h:P b=some o):(tP t src ρ1 σ F H1 P).B b=some o:=by
 unfold tP
 dsimp only
 rw[if_neg (by rw[h]; intro z; cases z),h]
theorem wV{b:Addr}(h1:P b=none)(h2:¬OU src ρ1 σ F b):(tP t src ρ1 σ F H1 P).B b=t.B b:=by
 unfold tP
 dsimp only
 rw[if_pos h1,if_neg h2]
theorem uT{b:Addr}(h1:P b=none)(h2:OU src ρ1 σ F b):(tP t src ρ1 σ F H1 P).B b=H1 b:=by
 unfold tP
 dsimp only
 rw[if_pos h1,if_pos h2]
theorem aan:tP t src ρ1 σ F H1 (upd (λ_=>none) D (.lst []))=jg t src ρ1 σ F H1 D []:=by
 unfold tP jg
 congr 1
 funext b
 by_cases e:b=D
 ·subst e
  rw[gk,if_neg (by intro z; cases z),if_pos rfl]
 ·rw[cL e,if_pos rfl,if_neg e]
theorem EOF.aao{P:Hp}{ρ : En}{τ : St}{H:Hp}{js:List Nat}(I:Inj src)(fQ:EOF t W ρ1 σ H1 F)(hP:∀b,P b≠none->H1 b=none)(e:aP (tP t src ρ1 σ F H1 P) (λb=>W b\/P b≠none) ρ τ H)(nx:∀b o,¬W b->H1 b=some o->H b=some o)
  (hj:∀k j:Nat,src[k]?=some (some j)->k∉js) (ag:∀k,k∉js -> τ[k]?=(jt src σ)[k]?) (so:bF src ρ ρ1=true):EOF t (λb=>W b\/P b≠none) (aX src ρ ρ1) σ H F:=by
 have w1:∀b,W b->W b\/P b≠none:=λ_ w=>.inl w
 have e1:aP t W ρ1 σ H1:=⟨F,fQ⟩
 have m1:Same (aU W H1) (aU (λb=>W b\/P b≠none) H):=λb o h=>by
  obtain⟨n,h⟩:=jL h
  rw[gG]
  ·exact nx b o n h
  ·rintro(z|z)
   ·exact n z
   ·rw[hP b z]at h; cases h
 have m2:Same (aU (λb=>W b\/P b≠none) H) (aU (λb=>W b\/P b≠none) H):=Same.refl _
 have nP:∀b,H1 b≠none->P b=none:=λb n=>by
  cases z:P b with
  |none=>rfl
  |some o=>exact(n (hP b (by rw[z]; intro y; cases y))).elim
 have qp:∀j,Mu (aX src ρ ρ1) j->Mu ρ1 j:=λj m=>by
  obtain⟨ts,m|m⟩:=m <;> rcases m5 I m with⟨k,us,q1,q2,q3⟩|⟨n,q⟩
  ·exact pq ⟨ts,.inl q3⟩
  ·exact⟨ts,.inl q⟩
  ·exact pq ⟨ts,.inr q3⟩
  ·exact⟨ts,.inr q⟩
 have inner:∀(k j:Nat) (ts:List Tr) (a:Addr),src[k]?=some (some j)->(ρ[k]?=some (.ow ts)\/ρ[k]?=some (.rf ts)) -> σ[j]?=some (some (.ref a))->∃ys,H a=some (.lst ys)/\aQ t.K (aU (λb=>W b\/P b≠none) H) ys ts:=λk j ts a q1 q2 q3=>by
  have z:=ag k (hj k j q1)
  rw[wK q1 q3]at z
  rcases q2 with q2|q2
  ·obtain⟨c,ys,h1,h2,h3,h4,h5⟩:=e.ow k ts q2
   rw[z]at h1
   cases h1
   exact⟨ys,h4,h5.mono m2⟩
  ·obtain⟨c,ys,h1,h2,h3,h4,h5⟩:=e.rf k ts q2
   rw[z]at h1
   cases h1
   exact⟨ys,h4,h5.mono m2⟩
 have outer:∀(j:Nat) (a:Addr) (ys:List V),Mu ρ1 j->(∀k,src[k]?=some (some j)->¬Mu ρ k) -> σ[j]?=some (some (.ref a))->H1 a=some (.lst ys)->H a=some (.lst ys):=λj a ys m n q h=>by
  have wa:=e1.addr m q
  have nD:P a=none:=nP a (e1.wn a wa)
  refine e.pn a _ ?_
  rw[uT nD (.inl ⟨j,m,q,λk z=>n k z (zZ so z m)⟩)]
  exact h
 refine⟨by rw[rG]; exact e1.len,λb z=>w1 b (e1.zw b z),e1.z0,e.wl,e.f0,e.n0,λj u h=>?_,λj ts h=>?_,λj ts h=>?_,λj k a n1 n2=>e1.dis j k a (qp j n1) (qp k n2),λb o h=>?_,λj a m=>e1.pd j a (qp j m),λj ts h=>?_,λj k ts us n h1 h2=>fQ.dd j k ts us n (m6 I h1) (m6 I h2),λj k ts c h1 m q=>fQ.dm j k ts c (m6 I h1) (qp k m) q,λj ts h=>fQ.db j ts (m6 I h),⟨e.tab.ok,λb z=>w1 b (e1.tab.w b z),e1.tab.r,e1.tab.B⟩⟩
 ·have h' : ρ1[j]?=some (.sh u):=by
   rcases m5 I h with⟨k,us,q1,q2,q3⟩|⟨n,q⟩
   ·rcases pA q3 with⟨ne,_⟩|⟨_,⟨_,_,z⟩|⟨_,_,z⟩|⟨_,q⟩⟩
    ·exact(ne rfl).elim
    ·cases z
    ·cases z
    ·exact q
   ·exact q
  obtain⟨v,q1,q2⟩:=e1.sh j u h'
  exact⟨v,q1,q2.mono m1⟩
 ·rcases m5 I h with⟨k,us,q1,q2,q3⟩|⟨n,q⟩
  ·rcases pA q3 with⟨ne,_⟩|⟨_,⟨ts0,q0,z⟩|⟨_,_,z⟩|⟨nm,q⟩⟩
   ·exact(ne rfl).elim
   ·cases z
    obtain⟨a,ys,h1,h2,h3,h4,h5⟩:=e1.ow j ts0 q0
    obtain⟨zs,k1,k2⟩:=inner k j ts a q1 q2 h1
    exact⟨a,zs,h1,w1 a h2,h3,k1,k2⟩
   ·cases z
   ·exact(nm ⟨ts,.inl q⟩).elim
  ·obtain⟨a,ys,h1,h2,h3,h4,h5⟩:=e1.ow j ts q
   exact⟨a,ys,h1,w1 a h2,h3,outer j a ys ⟨ts,.inl q⟩ n h1 h4,h5.mono m1⟩
 ·rcases m5 I h with⟨k,us,q1,q2,q3⟩|⟨n,q⟩
  ·rcases pA q3 with⟨ne,_⟩|⟨_,⟨_,_,z⟩|⟨ts0,q0,z⟩|⟨nm,q⟩⟩
   ·exact(ne rfl).elim
   ·cases z
   ·cases z
    obtain⟨a,ys,h1,h2,h3,h4,h5⟩:=e1.rf j ts0 q0
    obtain⟨zs,k1,k2⟩:=inner k j ts a q1 q2 h1
    exact⟨a,zs,h1,w1 a h2,h3,k1,k2⟩
   ·exact(nm ⟨ts,.inr q⟩).elim
  ·obtain⟨a,ys,h1,h2,h3,h4,h5⟩:=e1.rf j ts q
   exact⟨a,ys,h1,w1 a h2,h3,outer j a ys ⟨ts,.inr q⟩ n h1 h4,h5.mono m1⟩
 ·have nD:P b=none:=nP b λz=>by
   rw[e1.zM z]at h
   cases h
  have nO:¬OU src ρ1 σ F b:=by
   rintro(⟨j,m,q,_⟩|⟨j,ts,d',z⟩)
   ·rw[e1.pd j b m q]at h
    cases h
   ·rw[fQ.db j ts d' b z]at h
    cases h
  refine e.pn b o ?_
  rw[wV nD nO]
  exact h
 ·have hd:=m6 I h
  obtain⟨a,ys,q1,d⟩:=fQ.dp j ts hd
  have ww:∀b∈F j,W b:=λb hb=>by obtain⟨_,_,_,ww,_⟩:=d; exact(ww b hb).1
  refine⟨a,ys,q1,d.move rfl rfl m1 (λb hb=>w1 b (ww b hb)) λb o hb q=>?_⟩
  have nD:P b=none:=nP b (e1.wn b (ww b hb))
  refine e.pn b o ?_
  rw[uT nD (.inr ⟨j,ts,hd,hb⟩)]
  exact q
theorem aP.aap{ρ : En}{τ : St}{H:Hp}{W':Addr->Prop}{a:Addr}{ys zs:List V}(e0:aP (tP t src ρ1 σ F H1 P) W' ρ τ H)(na:¬W' a)(e:qg (tP t src ρ1 σ F H1 P) W' a ρ τ H)(wD:W' D)(pD:∃o:List V,P D=some (.lst o))(uP:t.H0 D=none)(Qi:t.H0 a=none)(ha:H a=some (.lst ys)) :
  aP (tP t src ρ1 σ F H1 (upd (upd P a (.lst ys)) D (.lst zs))) (λb=>W' b\/b=a) ρ τ (upd H D (.lst zs)):=by
 obtain⟨oD,pD⟩:=pD
 have aD:a≠D:=λz=>na (by rw[z]; exact wD)
 have wa:∀i c,Mu ρ i -> τ[i]?=some (some (V.ref c))->c≠a:=λi c m q z=>na (by rw[<-z]; exact e0.addr m q)
 obtain⟨F2,e,nF⟩:=e
 have GX:∀i c,Mu ρ i -> τ[i]?=some (some (V.ref c))->c≠D:=λi c m q z=>by
  subst z
  have:=e.pd i c m q
  rw[mQ pD]at this
  cases this
 have wL:∀i ts,ρ[i]?=some (Sl.dp ts)->∀b∈F2 i,b≠D:=λi ts h b hb z=>by
  subst z
  have:=e.db i ts h b hb
  rw[mQ pD]at this
  cases this
 have Bn:∀c,c≠D->c≠a->(tP t src ρ1 σ F H1 P).B c=none->(tP t src ρ1 σ F H1 (upd (upd P a (.lst ys)) D (.lst zs))).B c=none:=λc h1 h2 z=>by
  have pc:(upd (upd P a (.lst ys)) D (.lst zs)) c=P c:=by rw[cL h1,cL h2]
  cases q:P c with
  |some o=>rw[mQ q]at z; cases z
  |none =>
   by_cases ou:OU src ρ1 σ F c
   ·rw[uT q ou]at z
    rw[uT (pc.trans q) ou]
    exact z
   ·rw[wV q ou]at z
    rw[wV (pc.trans q) ou]
    exact z
 have w:W' D\/D=a:=.inl wD
 refine⟨F2,e.len,e.zw,e.z0,λb z=>?_,λb o h n=>?_,λb h=>?_,λi u h=>?_,λi ts h=>?_,λi ts h=>?_,e.dis,λb o h=>?_,λi c m q=>Bn c (GX i c m q) (wa i c m q) (e.pd i c m q),λi ts h=>?_,e.dd,e.dm,λi ts h b hb=>Bn b (wL i ts h b hb) (λz=>nF i ts h (by rw[<-z]; exact hb)) (e.db i ts h b hb),⟨?_,e.tab.w,e.tab.r,λb z=>Bn b (λy=>?_) (λy=>?_) (e.tab.B b z)⟩⟩
 ·by_cases q:b=D
  ·subst q; exact .inl ⟨zs,gk⟩
  ·unfold Lt; rw[cL q]; exact e.wl b z
 ·rw[cL]
  ·exact e.f0 b o h n
  ·rintro rfl
   have h:t.H0 b=some o:=h
   rw[uP]at h
   cases h
 ·by_cases q:b=D
  ·subst q; exact uP
  ·rw[cL q]at h; exact e.n0 b h
 ·rw[mX w]
  exact e.sh i u h
 ·obtain⟨c,vs,q1,q2,q3,q4,q5⟩:=e.ow i ts h
  rw[mX w]
  exact⟨c,vs,q1,q2,q3,by rw[cL (GX i c ⟨ts,.inl h⟩ q1)]; exact q4,q5⟩
 ·obtain⟨c,vs,q1,q2,q3,q4,q5⟩:=e.rf i ts h
  rw[mX w]
  exact⟨c,vs,q1,q2,q3,by rw[cL (GX i c ⟨ts,.inr h⟩ q1)]; exact q4,q5⟩
 ·by_cases h1:b=D
  ·subst h1
   rw[mQ gk]at h
   rw[gk]
   exact h
  ·rw[cL h1]
   by_cases h2:b=a
   ·subst h2
    rw[mQ (by rw[cL h1]; exact gk)]at h
    rw[ha]
    exact h
   ·refine e.pn b o ?_
    have pc:(upd (upd P a (.lst ys)) D (.lst zs)) b=P b:=by rw[cL h1,cL h2]
    cases q:P b with
    |some o'=>rw[mQ (pc.trans q)]at h; rw[mQ q]; exact h
    |none =>
     by_cases ou:OU src ρ1 σ F b
     ·rw[uT (pc.trans q) ou]at h; rw[uT q ou]; exact h
     ·rw[wV (pc.trans q) ou]at h; rw[wV q ou]; exact h
 ·obtain⟨c,vs,q1,d⟩:=e.dp i ts h
  exact⟨c,vs,q1,d.move rfl rfl (by rw[mX w]; exact Same.refl _) (λb hb=>by obtain⟨_,_,_,ww,_⟩:=d; exact(ww b hb).1) λb o hb q=>by rw[cL (wL i ts h b hb)]; exact q⟩
 ·exact e.tab.ok.upd (e.pn D _ (mQ pD))
 ·subst y
  have y:=e.tab.B b z
  rw[mQ pD]at y
  cases y
 ·subst y
  exact e.tab.ok.ne z ha rfl
theorem EOF.aaq{ρ : En}{H:Hp}{i:Nat}{xs:List V}{ts:List Tr}{bs:List Addr}(e:EOF t W ρ σ H F)(nd:(D::bs).Nodup)(ww:∀b∈D::bs,W b/\t.H0 b=none)(hB:∀b∈D::bs,t.B b=none)(hF:∀(j:Nat) (us:List Tr),ρ[j]?=some (Sl.dp us)->∀b∈D::bs,b∉F j)
  (hM:∀(j:Nat) (c:Addr),Mu ρ j -> σ[j]?=some (some (V.ref c))->c∉D::bs) (ha:H D=some (.lst xs)) (r:DR t.K (aU W H) H xs ts bs):aP t W (ρ.set i (.dp ts)) (σ.set i (some (.ref D))) H:=by
 have kO:∀(j:Nat) (s:Sl),(ρ.set i (.dp ts))[j]?=some s->(j=i/\s=.dp ts/\i < ρ.length)\/(j≠i/\ρ[j]?=some s):=λj s h=>get_set h
 have mu:∀j,Mu (ρ.set i (.dp ts)) j->j≠i/\Mu ρ j:=λj m=>by
  obtain⟨zs,q|q⟩:=m <;> rcases kO _ _ q with⟨_,z,_⟩|⟨n,q⟩
  ·cases z
  ·exact⟨n,zs,.inl q⟩
  ·cases z
  ·exact⟨n,zs,.inr q⟩
 have keep:∀(j:Nat),j≠i->(σ.set i (some (V.ref D)))[j]?=σ[j]? := λj n=>List.getElem?_set_ne (Ne.symm n)
 refine⟨λj=>if j=i then D::bs else F j,by rw[List.length_set,List.length_set]; exact e.len,e.zw,e.z0,e.wl,e.f0,e.n0,λj u h=>?_,λj zs h=>?_,λj zs h=>?_,λj k c m1 m2 q1 q2=>?_,e.pn,λj c m q=>?_,λj zs h=>?_,λj k zs vs n q1 q2=>?_,λj k zs c q1 m q=>?_,λj zs h=>?_,e.tab⟩
 ·rcases kO _ _ h with⟨_,z,_⟩|⟨n,h⟩
  ·cases z
  ·rw[keep j n]; exact e.sh j u h
 ·rcases kO _ _ h with⟨_,z,_⟩|⟨n,h⟩
  ·cases z
  ·rw[keep j n]; exact e.ow j zs h
 ·rcases kO _ _ h with⟨_,z,_⟩|⟨n,h⟩
  ·cases z
  ·rw[keep j n]; exact e.rf j zs h
 ·obtain⟨n1,v1⟩:=mu j m1
  obtain⟨n2,v2⟩:=mu k m2
  rw[keep j n1]at q1
  rw[keep k n2]at q2
  exact e.dis j k c v1 v2 q1 q2
 ·obtain⟨n1,v1⟩:=mu j m
  rw[keep j n1]at q
  exact e.pd j c v1 q
 ·rcases kO _ _ h with⟨y,z,l⟩|⟨n,h⟩
  ·cases z
   subst y
   refine⟨D,xs,sZ (by rw[<-e.len]; exact l),?_⟩
   rw[if_pos rfl]
   exact⟨bs,rfl,nd,ww,ha,r⟩
  ·rw[keep j n,if_neg n]
   exact e.dp j zs h
 ·rcases kO _ _ q1 with⟨y1,_,_⟩|⟨n1,q1⟩ <;> rcases kO _ _ q2 with⟨y2,_,_⟩|⟨n2,q2⟩
  ·exact(n (y1.trans y2.symm)).elim
  ·rw[if_pos y1,if_neg n2]
   exact λb hb=>hF k vs q2 b hb
  ·rw[if_neg n1,if_pos y2]
   exact λb hb z=>hF j zs q1 b z hb
  ·rw[if_neg n1,if_neg n2]
   exact e.dd j k zs vs n q1 q2
 ·obtain⟨n2,v2⟩:=mu k m
  rw[keep k n2]at q
  rcases kO _ _ q1 with⟨y1,_,_⟩|⟨n1,q1⟩
  ·rw[if_pos y1]
   exact hM k c v2 q
  ·rw[if_neg n1]
   exact e.dm j k zs c q1 v2 q
 ·rcases kO _ _ h with⟨y1,_,_⟩|⟨n1,q1⟩
  ·rw[if_pos y1]
   exact hB
  ·rw[if_neg n1]
   exact e.db j zs q1
theorem DR.app{K:FZ}{G H:Hp}:∀{xs ys:List V} {ts us:List Tr} {bs cs:List Addr},DR K G H xs ts bs->DR K G H ys us cs->DR K G H (xs++ys) (ts++us) (bs++cs)
 |_,_,_,_,_,_,.nil,s=>s
 |_,_,_,_,_,_,.cl n h r,s=>.cl n h (DR.app r s)
 |_,_,_,_,_,_,.rw h q r,s=>.rw h q (DR.app r s)
end
end L2
end
section
namespace L2
open PySem PySem.Spec PyProof.Rows
def cF:Rv->Rs Tr
 |.v (.lst us) true=>.ok (.lst us)
 |_=>.bad
theorem aar(r:Rv)(c:Str):cF r ≠ .ex c:=by
 unfold cF
 split <;> (intro z; cases z)
def tM(g:GF)(c:BF)(f:EF):List Tr->En->Rs (List Tr × En)
 | [],ρ=>.ok ([],ρ)
 |u::us,ρ=>(g u ρ).bind λρ1=>(c ρ1).bind λb=>if b.1=true then(f b.2).bind λp=>(cF p.1).bind λT=>(tM g c f us p.2).bind λz=>.ok (T::z.1,z.2)else tM g c f us b.2
def tO(i:Nat)(src:List (Option Nat))(fi:IF)(g:GF)(c:BF)(f:EF):SF:=λρ=>(fi ρ).bind λp=>if p.1.length<=100000 then(aY (tM g c f p.1 (bH src p.2))).bind λz=>if bF src z.2 p.2=true then .ok (.nx,(aX src z.2 p.2).set i (.dp z.1))else .bad else .bad
theorem aas{t:Tx}{wi:TI}{g:TG}{src:List (Option Nat)}{tc:TT}{te:TE}{fi:IF}{gf:GF}{c:BF}{f:EF}{js:List Nat}(n:Nat)(hi:SI t wi fi)(I:Inj src)(hj:∀k j:Nat,src[k]?=some (some j)->k∉js)(ng:∀T ρ c,gf T ρ ≠ .ex c)
  (hg:∀t':Tx,t'.K=t.K->(∀c,¬t'.EX c)->SG t' g gf js) (hc:∀t':Tx,t'.K=t.K->(∀c,¬t'.EX c)->ST t' tc c) (he:∀t':Tx,t'.K=t.K->(∀c,¬t'.EX c)->SE t' te f):SS t (nq (zY wi g src tc te) (iy n)) (tO n src fi gf c f):=λW ρ σ H E e h=>by
 refine hi W ρ σ H _ e (Rs.cg (Rs.aR h) λp h J H1 e1 s1 it=>?_)
 obtain⟨us,ρ1⟩:=p
 dsimp only at h it e1
 split at h
 case isFalse=>exact h.elim
 rename_i hlen
 intro D hD
 have h:=wH (Rs.aR h)
 obtain⟨F,fQ⟩:=id e1
 have uP:t.H0 D=none:=e1.n0 D hD
 refine⟨λi m τ H'=>m=us.length-i/\i<=us.length/\∃ρ' xs acc bs P,aP (tP t src ρ1 σ F H1 P) (λb=>W b\/P b≠none) ρ' τ H'/\P D=some (.lst xs)/\(∀b,P b≠none↔b∈D::bs)/\(D::bs).Nodup/\DR t.K (aU (λb=>W b\/P b≠none) H') H' xs acc bs/\(∀b∈D::bs,H1 b=none)/\xs.length<=i/\(∀b o,¬W b->H1 b=some o->H' b=some o)/\(∀k,k∉js -> τ[k]?=(jt src σ)[k]?) /\
   (tM gf c f (us.drop i) ρ').post (λ_=>False) (λz=>(if bF src z.2 ρ1=true then .ok (.nx,(aX src z.2 ρ1).set n (.dp (acc++z.1)))else .bad:Rs (Fl × En)).post t.EX (lR t W H E)),?_,?_⟩
 ·have hs:(λb=>W b\/(upd (λ_=>none) D (HO.lst []):Hp) b≠none)=λb=>W b\/b=D:=by
   funext b
   by_cases z:b=D
   ·subst z; rw[gk]; simp
   ·rw[cL z]; simp[z]
  refine⟨us.length,by simp,Nat.zero_le _,bH src ρ1,[],[],[],upd (λ_=>none) D (.lst []),?_,gk,λb=>?_,List.nodup_cons.mpr ⟨by simp,List.nodup_nil⟩,.nil,λb hb=>?_,Nat.le_refl _,λb o _ q=>?_,λ_ _=>rfl,?_⟩
  ·rw[aan,hs]
   exact fQ.enter I hD
  ·by_cases z:b=D
   ·subst z; rw[gk]; simp
   ·rw[cL z]; simp[z]
  ·have:b=D:=by simpa using hb
   rw[this]
   exact hD
  ·rw[cL (mq q hD)]; exact q
  ·rw[List.drop_zero]; exact h
 ·rintro i m τ H2 ⟨rfl,hi,ρ2,xs,acc,bs,P,e2,pD,pb,nd,r2,new,l2,n2,a2,h2⟩
  have wD:W D\/P D≠none:=.inr (by rw[pD]; intro z; cases z)
  have sm:Same (aU W H1) (aU (λb=>W b\/P b≠none) H2):=λb o q=>by
   obtain⟨nw,q⟩:=jL q
   rw[gG]
   ·exact n2 b o nw q
   ·rintro(z|z)
    ·exact nw z
    ·rw[new b ((pb b).mp z)]at q; cases q
  have q:=it _ H2 sm e2.wl i
  by_cases hlt:i<us.length
  ·rw[List.drop_eq_getElem_cons hlt]at h2
   obtain⟨go,y⟩:=q.2 us[i] (by simp[hlt])
   refine .inr ⟨go,λx H3 yl=>?_⟩
   obtain⟨s3,r3⟩:=y x H3 yl
   have e3:=e2.grow s3
   refine hg (tP t src ρ1 σ F H1 P) rfl (λ_=>id) _ ρ2 τ H3 x us[i] _ e3 r3 (Rs.cg (jT (Rs.aR h2) (ng _ _)) λρ4 h σ4 e4 a4=>?_)
   refine hc (tP t src ρ1 σ F H1 P) rfl (λ_=>id) _ ρ4 σ4 H3 _ e4 (Rs.cg (Rs.aR h) λb h H5 e5 s5=>?_)
   have lq:cX (λb=>W b\/P b≠none) H2 H5:=(cX.of s3).trans s5
   have n5:∀b o,¬W b->H1 b=some o->H5 b=some o:=λb o nw qb=>by
    refine lq.keep b o ?_ (n2 b o nw qb)
    rintro(z|z)
    ·exact nw z
    ·rw[new b ((pb b).mp z)]at qb; cases qb
   have a5:∀k,k∉js -> σ4[k]?=(jt src σ)[k]? := λk nk=>(a4 k nk).trans (a2 k nk)
   have pin:∀{Hx:Hp} {ρx:En} {τx:St},aP (tP t src ρ1 σ F H1 P) (λb=>W b\/P b≠none) ρx τx Hx->∀b o,b∈bs->H2 b=some o->Hx b=some o:=λ{Hx ρx τx} ex b o hb z=>by
    have pe:P b≠none:=(pb b).mpr (List.mem_cons_of_mem _ hb)
    cases zP:P b with
    |none=>exact(pe zP).elim
    |some o' =>
     have z1:=e2.pn b o' (mQ zP)
     rw[z1]at z
     rw[<-z]
     exact ex.pn b o' (mQ zP)
   split at h
   ·rename_i cb
    rw[if_pos cb]
    refine he (tP t src ρ1 σ F H1 P) rfl (λ_=>id) _ b.2 σ4 H5 _ e5 (Rs.cg (Rs.aR h) λp h v H6 e6 s6 v6=>?_)
    obtain⟨T,kT,h⟩:=dO (Rs.aR h) (aar _)
    obtain⟨r,ρ7⟩:=p
    have sh:∃vs,r=.v (.lst vs) true/\T=.lst vs:=by
     cases r with
     |s i=>cases kT
     |v U fr =>
      cases U <;> cases fr <;> first|(cases kT; exact⟨_,rfl,rfl⟩)|cases kT
    obtain⟨vs,rfl,rfl⟩:=sh
    obtain⟨⟨a,ys,vs',rfl,ev,na,qa,ra⟩,eh⟩:=v6
    cases ev
    have eh:=eh _ a rfl rfl
    have Ak:¬(W a\/P a≠none):=λz=>e5.wn a z na
    have GZ:H2 a=none:=lq.dom a na
    have Qj:H1 a=none:=by
     cases z:H1 a with
     |none=>rfl
     |some o=>rw[n2 a o (λw=>Ak (.inl w)) z]at GZ; cases GZ
    have aD:a≠D:=λz=>Ak (by rw[z]; exact wD)
    have abs:a∉D::bs:=λz=>Ak (.inr ((pb a).mpr z))
    have Qi:t.H0 a=none:=e1.n0 a Qj
    have eN:=e6.aap (zs:=xs++[.ref a]) (D:=D) Ak eh wD ⟨_,pD⟩ uP Qi qa
    have ws:(λb=>(W b\/P b≠none)\/b=a)=λb=>W b\/(upd (upd P a (HO.lst ys)) D (HO.lst (xs++[.ref a])):Hp) b≠none:=by
     funext b
     by_cases z1:b=D
     ·subst z1; rw[gk]; simp[wD]
     ·rw[cL z1]
      by_cases z2:b=a
      ·subst z2; rw[gk]; simp
      ·rw[cL z2]; simp[z2]
    rw[ws]at eN
    have mv:Same (aU (λb=>W b\/P b≠none) H2) (aU (λb=>W b\/(upd (upd P a (HO.lst ys)) D (HO.lst (xs++[.ref a])):Hp) b≠none) (upd H6 D (.lst (xs++[.ref a])))):=λb o z=>by
     obtain⟨nb,z⟩:=jL z
     have b1:b≠D:=λy=>nb (by rw[y]; exact wD)
     have b2:b≠a:=mq z GZ
     rw[gG]
     ·rw[cL b1]
      exact s6.keep b o nb (lq.keep b o nb z)
     ·rw[cL b1,cL b2]
      exact nb
    refine⟨xs,e6.pn D _ (mQ pD),Nat.lt_of_le_of_lt (show xs.length<=100000 by omega) (by decide),us.length-(i+1),by omega,rfl,hlt,ρ7,xs++[.ref a],acc++[.lst vs],bs++[a],_,eN,gk,λb=>?_,?_,?_,λb hb=>?_,by rw[List.length_append]; simp; omega,λb o nw q=>?_,a5,?_⟩
    ·by_cases z1:b=D
     ·subst z1; rw[gk]; simp
     ·rw[cL z1]
      by_cases z2:b=a
      ·subst z2; rw[gk]; simp
      ·rw[cL z2,pb b]; simp[z1,z2]
    ·rw[<-List.cons_append]
     exact List.nodup_append.mpr ⟨nd,by simp,λx hx y hy z=>by
      have:y=a:=by simpa using hy
      subst this
      subst z
      exact abs hx⟩
    ·refine DR.app (r2.move mv λb o hb z=>?_) (.rw (by rw[cL aD]; exact qa) (ra.mono λb o z=>?_) .nil)
     ·have b1:b≠D:=λy=>by
       subst y
       exact(List.nodup_cons.mp nd).1 hb
      rw[cL b1]
      exact pin e6 b o hb z
     ·obtain⟨b2,z⟩:=sJ z
      obtain⟨nb,z⟩:=jL z
      have b1:b≠D:=λy=>nb (by rw[y]; exact wD)
      rw[gG]
      ·rw[cL b1]; exact z
      ·rw[cL b1,cL b2]; exact nb
    ·rw[<-List.cons_append,List.mem_append]at hb
     rcases hb with hb|hb
     ·exact new b hb
     ·have:b=a:=by simpa using hb
      rw[this]; exact Qj
    ·have nD:b≠D:=mq q hD
     rw[cL nD]
     refine s6.keep b o ?_ (n5 b o nw q)
     rintro(z|z)
     ·exact nw z
     ·rw[new b ((pb b).mp z)]at q; cases q
    ·refine Rs.cg (Rs.aR h) λz h=>?_
     rw[List.append_assoc]
     exact h
   ·rename_i cb
    rw[if_neg cb]
    exact⟨us.length-(i+1),by omega,rfl,hlt,b.2,xs,acc,bs,P,e5,pD,pb,nd,r2.move lq.off (pin e5),new,by omega,n5,a5,h⟩
  ·have z:i=us.length:=by omega
   subst z
   rw[List.drop_length]at h2
   have h2:(if bF src ρ2 ρ1=true then .ok (.nx,(aX src ρ2 ρ1).set n (.dp (acc++[])))else .bad:Rs (Fl × En)).post t.EX _:=h2
   refine .inl ⟨q.1 rfl,?_⟩
   split at h2
   ·rename_i so
    rw[List.append_nil]at h2
    have eW:=fQ.aao I (λb z=>new b ((pb b).mp z)) e2 n2 hj a2 so
    have mu1:∀j,Mu (aX src ρ2 ρ1) j->Mu ρ1 j:=λj m=>by
     obtain⟨ts,m|m⟩:=m <;> rcases m5 I m with⟨k,us,q1,q2,q3⟩|⟨n,q⟩
     ·exact pq ⟨ts,.inl q3⟩
     ·exact⟨ts,.inl q⟩
     ·exact pq ⟨ts,.inr q3⟩
     ·exact⟨ts,.inr q⟩
    refine h2 _ _ H2 (eW.aaq (bs:=bs) nd (λb hb=>⟨.inr ((pb b).mpr hb),e1.n0 b (new b hb)⟩) (λb hb=>e1.zM (new b hb)) (λj us hj b hb z=>?_) (λj c m q z=>?_) (e2.pn D _ (mQ pD)) r2) λb o nb hb=>?_
    ·obtain⟨c,ys,_,cs,_,_,ww,_⟩:=fQ.dp j us (m6 I hj)
     exact e1.wn b (ww b z).1 (new b hb)
    ·exact e1.wn c (e1.addr (mu1 j m) q) (new c z)
    ·have hb1:=s1.keep b o nb hb
     refine⟨?_,n2 b o nb hb1⟩
     rintro(z|z)
     ·exact nb z
     ·rw[new b ((pb b).mp z)]at hb1; cases hb1
   ·exact h2.elim
theorem aat{t:Tx}{wi:TI}{g:TG}{src:List (Option Nat)}{te:TE}{fi:IF}{gf:GF}{f:EF}{js:List Nat}(n:Nat)(hi:SI t wi fi)(I:Inj src)(hj:∀k j:Nat,src[k]?=some (some j)->k∉js)(ng:∀T ρ c,gf T ρ ≠ .ex c)
  (hg:∀t':Tx,t'.K=t.K->(∀c,¬t'.EX c)->SG t' g gf js) (he:∀t':Tx,t'.K=t.K->(∀c,¬t'.EX c)->SE t' te f):SS t (nq (qP wi g src te) (iy n)) (tO n src fi gf d8 f):=by
 rw[Py]
 exact aas n hi I hj ng hg (λt' _ _ W ρ σ H Q e h=>h H e (cX.refl _ _)) he
end L2
end
section
namespace L2
open PySem PySem.Spec PyProof.Rows
variable {t:Tx}
def Qk(us vs:List Tr):List Tr:=(us.zip vs).map λp=>.tup [p.1,p.2]
def aau(fa:AF):IF:=λρ=>(fa ρ).bind λp=>match p.1 with
 | [.v (.lst us) _,.v (.lst vs) _]=>.ok (Qk us vs,p.2)
 |_=>.bad
end L2
end
section
namespace L2
open PySem PySem.Spec PyProof.Rows
section
variable {K:FZ}
end
end L2
end
section
namespace L2
open PySem PySem.Spec PyProof.Rows
section
variable {kf:Value->Int × Int}
def q1(kf:Value->Int × Int)(xs:Array Keyed)(i:Nat):Int:=match xs[i]? with|some p=>(kf p.1).1|none=>0
def q2(kf:Value->Int × Int)(xs:Array Keyed)(i:Nat):Int:=match xs[i]? with|some p=>(kf p.1).2|none=>0
def Kl(kf:Value->Int × Int)(xs:Array Keyed)(i j:Nat):Prop:=q1 kf xs i<q1 kf xs j\/(q1 kf xs i=q1 kf xs j/\q2 kf xs i<q2 kf xs j)
instance {kf:Value->Int × Int}{xs:Array Keyed}{i j:Nat}:Decidable (Kl kf xs i j):=by unfold Kl; infer_instance
end
section
variable {prog:Program}{w:World}{A:Around}{E:Value->Shared->Prop}{s:Shared}{N:Nat}{kd:SortKind}{kf:Value->Int × Int}
structure SB(a₀ : Array Keyed)(kd:SortKind)(st:SortSt):Prop where
 pm:(arrOf st).Perm a₀
 kn:kindOf st=kd
 fl:failedOf st=none
 pd:pendingOf st = #[]
noncomputable def Asks(prog:Program)(w:World)(A:Around)(E:Value->Shared->Prop)(s:Shared)(a₀ : Array Keyed)(kd:SortKind)(kf:Value->Int × Int):Prop :=
 ∀(st:SortSt) (i j:Nat) (Q:Option Bool->SortSt->Prop),SB a₀ kd st->i<a₀.size->j<a₀.size->Q (some (decide (Kl kf (arrOf st) i j))) st->wpS (model prog w) A E s (ltAt' i j) Q st
variable {a₀ : Array Keyed}(ask:Asks prog w A E s a₀ kd kf)
include ask
end
end L2
end
section
namespace L2
open PySem PySem.Spec PyProof.Rows PySem.W
section
variable {X:Cx}{pins:List (Addr × Obj)}{σ : St}{H:Hp}{s:Shared}
end
section
variable {X:Cx}
end
section
variable {X:Cx}{pins:List (Addr × Obj)}{σ : St}{H:Hp}{s:Shared}{Kv:Hp->Value->Int × Int->Prop}{kd:SortKind}{a kS:Addr}{n:Nat}{kz:Nat->Int × Int}{vs:List Value}
end
end L2
end
section
namespace L2
open PySem PySem.Spec PyProof.Rows PySem.W
section
variable {X:Cx}{pins:List (Addr × Obj)}{σ : St}{H:Hp}{s:Shared}{Kv:Hp->Value->Int × Int->Prop}{kd:SortKind}{n:Nat}{kz:Nat->Int × Int}{vs:List Value}{f:Value}
end
end L2
end
section
namespace L2
open PySem PySem.Spec PyProof.Rows PySem.W
section
variable {X:Cx}{pins:List (Addr × Obj)}{σ : St}{H:Hp}{s:Shared}{sc scope:Scope}{No Ns:List Str}{src:List (Option Nat)}{x qual:Str}
end
end L2
end
section
namespace L2
open PySem PySem.Spec PyProof.Rows PySem.W
def wW(mg:Str→Option Value)(base:Heap):Prop:=∃bm ob,mg "__builtins__" = some (.ref bm)∧bm≠builtinsNs∧bm≠mainGlobals∧base.get? bm=some ob∧ob.cls=.type "module" ∧ ob.dict=some builtinsNs∧ob.data=.plain
section
variable {X:Cx}{pins:List (Addr × Obj)}{σ : St}{H:Hp}{s:Shared}{sc scope:Scope}{No Ns:List Str}{src:List (Option Nat)}{x:Str}
end
end L2
end
section
namespace L2
open PySem PySem.Spec PyProof.Rows PySem.W
abbrev KW:=Hp->V->Int × Int->Prop
section
variable {X:Cx}{sc scope:Scope}{No Ns:List Str}{src:List (Option Nat)}{x:Str}{Kw:KW}{kd:SortKind}
end
end L2
end
section
namespace L2
open PySem PySem.Spec PyProof.Rows PySem.W
def G3(kz:Nat->Int × Int)(i j:Nat):Prop:=((kz i).1<(kz j).1\/((kz i).1=(kz j).1/\(kz i).2<(kz j).2))\/(((kz i).1=(kz j).1/\(kz i).2=(kz j).2)/\i<j)
instance {kz:Nat->Int × Int}{i j:Nat}:Decidable (G3 kz i j):=by unfold G3; infer_instance
def Ql(kz:Nat->Int × Int)(i:Nat):List Nat->List Nat
 | []=>[i]
 |j::r=>if G3 kz i j then i::j::r else j::Ql kz i r
def Qm(n:Nat)(kz:Nat->Int × Int):List Nat:=(List.range n).foldr (Ql kz) []
abbrev RF:=List (Option Tr)->Rs Tr
section
variable {K:FZ}{ta tb:TE}{fa fb:RF}
end
def slT(ρ : En)(j:Nat):Option Tr:=match ρ[j]? with
 |some (.sh T)=>some T
 |some (.ow ts)=>some (.lst ts)
 |some (.rf ts)=>some (.lst ts)
 |_=>none
def Qn(src:List (Option Nat))(ρ : En):List (Option Tr):=src.map λo=>o.bind (slT ρ)
def G4(kt:Tr->Option (Int × Int))(fb:RF)(ts:List (Option Tr)):List Nat->Rs (List (Int × Int))
 | []=>.ok []
 |i::r=>(fb (some (Tr.int i)::ts)).bind λT=>match kt T with
  |some k=>(G4 kt fb ts r).bind λks=>.ok (k::ks)
  |none=>.bad
noncomputable def aav(kt:Tr->Option (Int × Int))(src:List (Option Nat))(fa:AF)(fb:RF):EF:=λρ=>(fa ρ).bind λp=>match p.1 with
 | [.v (.int n) _]=>if 0<=n/\n<64 then(aY (G4 kt fb (Qn src p.2) (List.range n.toNat))).bind λks=>.ok (.v (.lst ((Qm n.toNat λi=>ks.getD i (0,0)).map λi:Nat=>Tr.int i)) true,p.2)else .bad
 |_=>.bad
end L2
end
section
namespace L2
open PySem PySem.Spec PyProof.Rows PySem.W
section
variable {P:Program}{w:World}{K:FZ}{mg:Str->Option Value}{base:Heap}
end
theorem G5{o:Obj}{d:Data}(h:(gH o).data=d)(n:d ≠ .fields #[]):gH o=o:=by
 unfold gH at h ⊢
 split at h
 ·exact(n h.symm).elim
 ·rename_i q
  rw[if_neg q]
theorem aaw{K:FZ}{x:Str}{z:Addr × Addr}(h:tabIn (aG K) x=some z):tabIn K x=some z:=by
 unfold tabIn at h
 split at h
 ·rename_i f hf
  have g1:nsIn K mainGlobals x=some (some (.ref f)):=by
   unfold nsIn at hf
   rw[oV]at hf
   cases e:K.lookup mainGlobals with
   |none=>rw[e]at hf; cases hf
   |some o =>
    rw[e]at hf
    unfold nsIn
    rw[e]
    have q:gH o=o:=by
     dsimp only[Option.map]at hf
     split at hf
     ·rename_i a b es ep c eq
      have eq:gH o=⟨a,b,.dict es ep,c⟩:=Option.some.inj eq
      exact G5 (d:=.dict es ep) (by rw[eq]) (by intro z; cases z)
     ·cases hf
    dsimp only[Option.map]at hf
    rw[q]at hf
    exact hf
  split at h
  ·rename_i a b fd osl hfo
   have g2:K.lookup f=some ⟨a,b,.func fd,osl⟩:=by
    rw[oV]at hfo
    cases e:K.lookup f with
    |none=>rw[e]at hfo; cases hfo
    |some o =>
     rw[e]at hfo
     have eq:gH o=⟨a,b,.func fd,osl⟩:=Option.some.inj hfo
     rw[G5 (d:=.func fd) (by rw[eq]) (by intro z; cases z)]at eq
     rw[eq]
   split at h
   ·rename_i c hc
    split at h
    ·rename_i a' b' vs Qo hco
     split at h
     ·rename_i Pp hv
      cases h
      have g3:K.lookup c=some ⟨a',b',.fields vs,Qo⟩:=by
       rw[oV]at hco
       cases e:K.lookup c with
       |none=>rw[e]at hco; cases hco
       |some o =>
        rw[e]at hco
        have eq:gH o=⟨a',b',.fields vs,Qo⟩:=Option.some.inj hco
        rw[G5 (d:=.fields vs) (by rw[eq]) (by intro z; injection z with z; subst z; simp at hv)]at eq
        rw[eq]
      unfold tabIn
      rw[g1]
      dsimp only
      rw[g2]
      dsimp only
      rw[hc]
      dsimp only
      rw[g3]
      dsimp only
      rw[hv]
     ·cases h
    ·cases h
   ·cases h
  ·cases h
 ·cases h
theorem aax{K:FZ}{x:Str}(a:nsIn K mainGlobals x=some none):tabIn K x=none:=by
 unfold tabIn
 rw[a]
end L2
end
section
namespace L2
open PySem PySem.Spec PyProof.Rows PySem.W
section
variable {X:Cx}
end
def eLR(fa:AF):EF:=λρ=>(fa ρ).bind λp=>match p.1 with
 | [.v (.int n) _]=>if 0<=n/\n<=1000 then .ok (.v (.lst ((List.range n.toNat).map λi:Nat=>Tr.int i)) true,p.2)else .bad
 |_=>.bad
end L2
end
section
namespace L2
open PySem PySem.Spec PyProof.Rows
section
variable {t:Tx}{K:FZ}
def aay(F:FR)(fa:EF):EF:=λρ=>(fa ρ).bind λp=>match p.1 with
 |.v (.lst us) true=>(F [.lst us]).bind λz=>.ok (.v z.1.1 z.1.2,p.2)
 |_=>.bad
end
end L2
end
section
namespace L2
open PySem PySem.Spec PyProof.Rows
section
variable {X:Cx}
end
end L2
end
section
namespace L2
open PySem PySem.Spec PyProof.Rows
section
variable {P:Program}{w:World}{K:FZ}
end
section
variable {X:Cx}
end
section
variable {t:Tx}
end
section
variable {X:Cx}
end
section
variable {K:FZ}
end
end L2
end
section
namespace L2
open PySem PySem.Spec PyProof.Rows
end L2
end
section
namespace L2
open PySem PySem.Spec PyProof.Rows PySem.W
def uU:List Str := "HeadError" :: mW
def isub(c d:Str):Bool:=c == d || d == ("HeadError" : Str)
def Qp:List Ty:=[.int,.bool,.str,.tuple,.list]
def Al(K:Frag)(cs:List Str)(p:Str->Addr->Bool):Bool:=cs.all λc=>match nsIn K mainGlobals c with
 |some (some (.ref C))=>p c C
 |_=>true
theorem G6{K:Frag}{cs:List Str}{p:Str->Addr->Bool}(h:Al K cs p=true){c:Str}(m:c∈cs){C:Addr}(n:nsIn K mainGlobals c=some (some (.ref C))):p c C=true:=by
 have:=List.all_eq_true.mp h c m
 rw[n]at this
 exact this
noncomputable def G7(K:Frag)(C:Addr):Bool:=findIn K (.ref C) "__getattribute__" == some (some (.builtin "BaseException.__getattribute__"))&&findIn K (.ref C) "__getattr__" == some none&&findIn K (.ref C) "__class__" == some (some (.builtin "object.__class__"))&&mroIn K C (.type "object") == some true&&mroIn K C (.type "BaseException") == some true&&(clsIn K C).isSome
theorem aaz{K:Frag}{C:Addr}(h:G7 K C=true):nJ K C:=by
 unfold G7 at h
 simp only[Bool.and_eq_true]at h
 obtain⟨⟨⟨⟨⟨h1,h2⟩,h3⟩,h4⟩,h5⟩,h6⟩:=h
 exact⟨beq_iff_eq.mp h1,beq_iff_eq.mp h2,beq_iff_eq.mp h3,beq_iff_eq.mp h4,beq_iff_eq.mp h5,h6⟩
noncomputable def Qq(K:Frag):Bool :=
 Al K mW (λ_ C=>G7 K C&&Qp.all (λy=>kitOne K (.ref C) (.type y.name) == some false)&&kitOne K (.ref C) (.type "ValueError") == some true) &&
 Al K uU (λd D=>kitOne K (.type "NoneType") (.ref D) == some false&&Al K mW (λc C=>kitOne K (.ref C) (.ref D) == some (isub c d)&&(!(d == ("HeadError" : Str)) || exmOne K (.ref C) (.ref D) == some true))) &&
 kitOne K (.type "NoneType") (.type "ValueError") == some false&&(match K.lookup mainGlobals with
  |some o=>o.cls != .type "list"
  |none=>true)
structure iY(K:Frag):Prop where
 o:zx K
 n:∀d∈uU,∀D,nsIn K mainGlobals d=some (some (.ref D))->kitOne K (.type "NoneType") (.ref D)=some false
 k:∀d∈uU,∀D,nsIn K mainGlobals d=some (some (.ref D))->∀c∈mW,∀C,nsIn K mainGlobals c=some (some (.ref C))->kitOne K (.ref C) (.ref D)=some (isub c d)
 v:∀c∈mW,∀C,nsIn K mainGlobals c=some (some (.ref C))->kitOne K (.ref C) (.type "ValueError")=some true
 vn:kitOne K (.type "NoneType") (.type "ValueError")=some false
 h:∀D,nsIn K mainGlobals "HeadError" = some (some (.ref D))->∀c∈mW,∀C,nsIn K mainGlobals c=some (some (.ref C))->exmOne K (.ref C) (.ref D)=some true
 x:∀c∈mW,∀C,nsIn K mainGlobals c=some (some (.ref C))->nJ K C
 mc:∀o,K.lookup mainGlobals=some o->o.cls ≠ .type "list"
theorem iY.of{K:Frag}(h:Qq K=true):iY K:=by
 unfold Qq at h
 simp only[Bool.and_eq_true]at h
 obtain⟨⟨⟨h1,h2⟩,h3⟩,h4⟩:=h
 have a1:∀c∈mW,∀C,nsIn K mainGlobals c=some (some (.ref C))->nJ K C/\(∀y:Ty,kitOne K (.ref C) (.type y.name)=some false)/\kitOne K (.ref C) (.type "ValueError")=some true:=λc m C n=>by
  have:=G6 h1 m n
  simp only[Bool.and_eq_true]at this
  obtain⟨⟨x1,x2⟩,x3⟩:=this
  refine⟨aaz x1,λy=>?_,beq_iff_eq.mp x3⟩
  have:=List.all_eq_true.mp x2 y (by cases y <;> simp[Qp])
  exact beq_iff_eq.mp this
 have a2:∀d∈uU,∀D,nsIn K mainGlobals d=some (some (.ref D))→kitOne K (.type "NoneType") (.ref D)=some false∧∀c∈mW,∀C,nsIn K mainGlobals c=some (some (.ref C))→kitOne K (.ref C) (.ref D)=some (isub c d)∧(d = "HeadError" → exmOne K (.ref C) (.ref D)=some true):=λd m D n=>by
  have:=G6 h2 m n
  rw[Bool.and_eq_true]at this
  refine⟨beq_iff_eq.mp this.1,λc mc C nc=>?_⟩
  have:=G6 this.2 mc nc
  rw[Bool.and_eq_true]at this
  refine⟨beq_iff_eq.mp this.1,λe=>?_⟩
  have z:=this.2
  rw[Bool.or_eq_true]at z
  rcases z with z|z
  ·rw[e]at z; cases z
  ·exact beq_iff_eq.mp z
 refine⟨λc m C n=>⟨λa=>Nz (a1 c m C n).1,(a1 c m C n).2.1⟩,λd m D n=>(a2 d m D n).1,λd m D n c mc C nc=>((a2 d m D n).2 c mc C nc).1,λc m C n=>(a1 c m C n).2.2,beq_iff_eq.mp h3,λD n c mc C nc=>((a2 "HeadError" (List.mem_cons_self ..) D n).2 c mc C nc).2 rfl,λc m C n=>(a1 c m C n).1,λo e=>?_⟩
 rw[e]at h4
 simpa using h4
def Am:Tr->Str->Option Bool
 |.dD c,d=>some (isub c d)
 |.non,_=>some false
 |_,_=>none
def Ao:Tr->Option Bool
 |.dD _=>some true
 |.non=>some false
 |_=>none
def G8(K:Frag)(d:Str)(D:Addr):List V->Hp->VK->Prop:=λxs H Q=>∃v T b,xs=[v,.ref D]/\Rep K H v T/\Am T d=some b/\Q (.bl b) H
def G9(K:Frag):List V->Hp->VK->Prop:=λxs H Q=>∃v T b,xs=[v,.ty "ValueError"]/\Rep K H v T/\Ao T=some b/\Q (.bl b) H
section
variable {X:Cx}
theorem aaA(hX:iY X.K){d:Str}{D:Addr}(hd:d∈uU)(hn:nsIn X.K mainGlobals d=some (some (.ref D))):iK X (.builtin "isinstance") (G8 X.K d D):=by
 intro pins s σ H xs us Q I r h
 obtain⟨v,T,b,rfl,q1,hb,q⟩:=h
 cases q1 with
 |dD h m n =>
  cases hb
  exact NK pins s σ H _ us Q I r ⟨_,_,.ref D,_,_,rfl,h,hX.x _ m _ n,λu h=>h,hX.k d hd D hn _ m _ n,q⟩
 |non =>
  cases hb
  exact NP pins s σ H _ us Q I r ⟨.ref D,_,_,rfl,λu h=>h,hX.n d hd D hn,q⟩
 |bl y=>cases hb
 |int i=>cases hb
 |str y=>cases hb
 |tup h r=>cases hb
 |lst h r=>cases hb
theorem aaB(hX:iY X.K):iK X (.builtin "isinstance") (G9 X.K):=by
 intro pins s σ H xs us Q I r h
 obtain⟨v,T,b,rfl,q1,hb,q⟩:=h
 cases q1 with
 |dD h m n =>
  cases hb
  exact NK pins s σ H _ us Q I r ⟨_,_,.type "ValueError",_,_,rfl,h,hX.x _ m _ n,λu h=>h,hX.v _ m _ n,q⟩
 |non =>
  cases hb
  exact NP pins s σ H _ us Q I r ⟨.type "ValueError",_,_,rfl,λu h=>h,hX.vn,q⟩
 |bl y=>cases hb
 |int i=>cases hb
 |str y=>cases hb
 |tup h r=>cases hb
 |lst h r=>cases hb
variable {e:Expr}{te:TE}{x:Str}{p q pos:Pos}
theorem lC(hX:iY X.K){D:Addr}(hd:x∈uU)(hn:nsIn X.K mainGlobals x=some (some (.ref D)))(hm:X.mg x=some (.ref D))(he:PE X e te)(h1:X.mg "isinstance" = none) (hg1:X.env.kindOf "isinstance" = some .globalImplicit:=by kernel_rfl) (hg2:X.env.kindOf x=some .globalImplicit:=by kernel_rfl) (hdb:(x == ("__debug__" : Str))=false:=by kernel_rfl)
  (hs:notStar e=true:=by kernel_rfl):PE X (.Call (.Name "isinstance" p) [e,.Name x q] [] pos) (jr (G8 X.K x D) (ji te (ji (tC (.ref D)) mH))) :=
 yU (aaA hX hd hn) hg1 h1 PyProof.Rows.boot_isinstance (nu he (nu (Ko (v:=.ref D) hg2 hm rfl hdb) aH) (oR hs)) (by decide +kernel) (by kernel_rfl) (oR hs)
theorem pcV(hX:iY X.K)(he:PE X e te)(h1:X.mg "isinstance" = none) (h2:X.mg "ValueError" = none) (hg1:X.env.kindOf "isinstance" = some .globalImplicit:=by kernel_rfl) (hg2:X.env.kindOf "ValueError" = some .globalImplicit:=by kernel_rfl)
  (hs:notStar e=true:=by kernel_rfl):PE X (.Call (.Name "isinstance" p) [e,.Name "ValueError" q] [] pos) (jr (G9 X.K) (ji te (ji (tC (.ty "ValueError")) mH))) :=
 yU (aaB hX) hg1 h1 PyProof.Rows.boot_isinstance (nu he (nu (Kp (v:=.ty "ValueError") hg2 h2 (by decide +kernel) rfl (by decide +kernel) (by kernel_rfl)) aH) (oR hs)) (by decide +kernel) (by kernel_rfl) (oR hs)
end
section
variable {t:Tx}{K:Frag}
def j4(d:Str)(fa:EF):EF:=λρ=>(fa ρ).bind λp=>(dr p.2 p.1).bind λa=>match Am a d with
 |some b=>.ok (eB b,p.2)
 |none=>.bad
def Hf(fa:EF):EF:=λρ=>(fa ρ).bind λp=>(dr p.2 p.1).bind λa=>match Ao a with
 |some b=>.ok (eB b,p.2)
 |none=>.bad
theorem lD(hK:t.K=aG K){d:Str}{D:Addr}{ta:TE}{fa:EF}(ha:SE t ta fa):SE t (jr (G8 K d D) (ji ta (ji (tC (.ref D)) mH))) (j4 d fa):=λW ρ σ H Q e h=>by
 refine ha W ρ σ H _ e (Rs.cg (Rs.aR h) λp h x H1 e1 s1 v1=>?_)
 obtain⟨a,k1,h⟩:=dO (Rs.aR h) (ju _ _)
 have r:=jC e1 e.wn v1.1 k1
 rw[hK]at r
 cases z:Am a d with
 |none=>rw[z]at h; exact h.elim
 |some b =>
  rw[z]at h
  exact⟨x,a,b,rfl,r.rep.toK,z,h _ H1 e1 s1 (.low (.bl _))⟩
theorem aaC(hK:t.K=aG K){ta:TE}{fa:EF}(ha:SE t ta fa):SE t (jr (G9 K) (ji ta (ji (tC (.ty "ValueError")) mH))) (Hf fa):=λW ρ σ H Q e h=>by
 refine ha W ρ σ H _ e (Rs.cg (Rs.aR h) λp h x H1 e1 s1 v1=>?_)
 obtain⟨a,k1,h⟩:=dO (Rs.aR h) (ju _ _)
 have r:=jC e1 e.wn v1.1 k1
 rw[hK]at r
 cases z:Ao a with
 |none=>rw[z]at h; exact h.elim
 |some b =>
  rw[z]at h
  exact⟨x,a,b,rfl,r.rep.toK,z,h _ H1 e1 s1 (.low (.bl _))⟩
def Pr{α : Type}(f:En->Rs (α × En)):Prop:=∀ρ,(∀p,f ρ=.ok p->p.2 = ρ)/\∀c,f ρ ≠ .ex c
theorem Aq(i:Nat):Pr (aj i):=λρ=>by
 unfold aj
 refine⟨λp h=>?_,λc h=>?_⟩ <;> (split at h <;> cases h)
 all_goals rfl
theorem Qs:Pr ao:=λρ=>⟨λp h=>by cases h; rfl,λc h=>by cases h⟩
theorem Hg{f:EF}{g:AF}(h1:Pr f)(h2:Pr g):Pr (ak f g):=λρ=>by
 unfold ak
 cases e1:f ρ with
 |bad=>exact⟨λp h=>(by cases h),λc h=>(by cases h)⟩
 |ex c=>exact absurd e1 ((h1 ρ).2 c)
 |ok p =>
  have z:=(h1 ρ).1 p e1
  obtain⟨r,ρ1⟩:=p
  dsimp only at z
  subst z
  show(∀p,((g ρ1).bind _)=.ok p->_)/\∀c,((g ρ1).bind _) ≠ .ex c
  cases e2:g ρ1 with
  |bad=>exact⟨λp h=>(by cases h),λc h=>(by cases h)⟩
  |ex c=>exact absurd e2 ((h2 ρ1).2 c)
  |ok q =>
   have z:=(h2 ρ1).1 q e2
   exact⟨λp h=>by cases h; exact z,λc h=>by cases h⟩
def SEX(t:Tx)(cl:Str->Addr)(te:TEX)(f:EF):Prop:=∀W ρ σ H Q (EX:St->XK),aP t W ρ σ H->(f ρ).post (λc=>∀H',aP t W ρ σ H'->cX W H H'->EX σ (.ref (cl c)) none H') (λp=>∀v H',aP t W p.2 σ H'->cX W H H'->iD t W p.2 σ H H' v p.1->Q v H')->te EX σ H Q
def SX(t:Tx)(cl:Str->Addr)(tb:TX)(f:SF):Prop:=∀W ρ σ H D (EX:St->XK),aP t W ρ σ H->(f ρ).post (λc=>∀H',aP t W ρ σ H'->cX W H H'->EX σ (.ref (cl c)) none H') (lR t W H D)->tb D EX σ H
theorem Qt(hK:t.K=aG K){cl:Str->Addr}{n:Nat}{F:FP}{ta:TA}{fa:AF}(pr:Pr fa)(hn:∀ρ p,fa ρ=.ok p->p.1.length=n)(ha:SA t ta fa):SEX t cl (Fe (c7 K cl n F) ta) (cJ F fa):=λW ρ σ H Q EX e h=>by
 have h:=Rs.aR h
 cases ek:fa ρ with
 |bad=>rw[ek]at h; exact h.elim
 |ex c=>exact absurd ek ((pr ρ).2 c)
 |ok p =>
 have hl:=hn ρ p ek
 have h2:=(pr ρ).1 p ek
 rw[ek]at h
 refine ha W ρ σ H _ e (post_eq ek ?_)
 intro vs H1 e1 s1 v1
 have h:((drs p.2 p.1).bind _).post _ _:=h
 obtain⟨as,k1,h⟩:=dO (Rs.aR h) (uL _ _)
 have r:=wg e1 e.wn v1 k1
 have lv:vs.length=n:=v1.length.trans hl
 have fin:∀Z:Addr->Prop,(∀b,Z b->W b)->(∀z,F as=.ok z->¬(p.1.any aK=true/\jP z=false)->(∀b,W b->Z b)\/jP z=true)->aQ (aG K) (aU Z H1) vs as->c7 K cl n F vs H1 Q (EX σ):=λZ zw zs rr=>by
  refine⟨Z,as,lv,rr,λb z=>e1.wl b (zw b z),by rw[<-hK]; exact e1.tab.ok,?_⟩
  have h:=Rs.aR h
  cases ef:F as with
  |bad=>rw[ef]at h; exact h.elim
  |ex c =>
   rw[ef]at h
   intro H' sm
   rw[<-hK]at sm
   obtain⟨eg,sg⟩:=e1.zW sm
   exact h H' (h2▸eg) (s1.trans sg)
  |ok z =>
   rw[ef]at h
   have h:(if p.1.any aK=true/\jP z=false then Rs.bad else .ok (.v z.1 z.2,p.2):Rs (Rv × En)).post _ _:=h
   split at h
   ·exact h.elim
   ·rename_i c
    intro v H' sm vr
    rw[<-hK]at vr sm
    obtain⟨eg,sg⟩:=e1.zW sm
    refine h v H' eg (s1.trans sg) (iD.back (H:=H1) ?_ s1.dom)
    exact rD.Gi (W0:=W) e1.wn eg.wl (zs z ef c) vr λ_ a xs na qa=>e1.O7 sm na qa
 by_cases an:p.1.any aK=true
 ·refine fin (λ_=>False) (λ_ z=>z.elim) (λz ez c=>.inr ?_) ?_
  ·cases fz:jP z with
   |true=>rfl
   |false=>exact(c ⟨an,fz⟩).elim
  ·rw[<-hK]
   exact r.reps
 ·refine fin W (λ_ z=>z) (λz ez c=>.inl λ_ z=>z) ?_
  rw[<-hK]
  exact Gj e.wn v1 k1 (by simpa using an)
theorem Qu{cl:Str->Addr}{te:TEX}{f:EF}(i:Nat)(h1:SEX t cl te f):SX t cl (λD EX σ H=>te EX σ H λv H1=>D.nx (σ.set i (some v)) H1) (bL f (gN i)):=λW ρ σ H D EX e h=>by
 refine h1 W ρ σ H _ EX e (Rs.cg (Rs.aR h) λp h v H1 e1 s1 v1=>?_)
 obtain⟨r,ρ1⟩:=p
 cases r with
 |s i=>exact h.elim
 |v T fr=>exact h W _ H1 (e1.wA (v1.1.rep e.wn)) s1.nxt
theorem aaD{cl:Str->Addr}{tc:TT}{a b:TX}{c:BF}{f g:SF}(hp:Pr c)(hc:ST t tc c)(hf:SX t cl a f)(hg:SX t cl b g):SX t cl (λD EX σ H=>tc σ H λd H1=>if d=true then a D EX σ H1 else b D EX σ H1) (bM c f g):=λW ρ σ H D EX e h=>by
 have h:=Rs.aR h
 cases ek:c ρ with
 |bad=>rw[ek]at h; exact h.elim
 |ex c=>exact absurd ek ((hp ρ).2 c)
 |ok p =>
  have z:=(hp ρ).1 p ek
  rw[ek]at h
  refine hc W ρ σ H _ e (post_eq ek ?_)
  intro H1 e1 s1
  obtain⟨d,ρ1⟩:=p
  dsimp only at z
  subst z
  cases d with
  |true =>
   have h:(f ρ1).post _ _:=h
   refine hf W ρ1 σ H1 D EX e1 ?_
   cases er:f ρ1 with
   |bad=>rw[er]at h; exact h
   |ex c=>rw[er]at h; exact λH' e' s'=>h H' e' (s1.trans s')
   |ok q=>rw[er]at h; exact lR.back h s1.nxt
  |false =>
   have h:(g ρ1).post _ _:=h
   refine hg W ρ1 σ H1 D EX e1 ?_
   cases er:g ρ1 with
   |bad=>rw[er]at h; exact h
   |ex c=>rw[er]at h; exact λH' e' s'=>h H' e' (s1.trans s')
   |ok q=>rw[er]at h; exact lR.back h s1.nxt
theorem aP.unset{W:Addr->Prop}{ρ : En}{σ : St}{H:Hp}{i:Nat}(e:aP t W ρ σ H):aP t W (ρ.set i .un) (σ.set i none) H:=by
 have mu:∀j,Mu (ρ.set i .un) j->j≠i/\Mu ρ j:=λj h=>by
  obtain⟨ts,h|h⟩:=h <;> rcases get_set h with⟨rfl,z,_⟩|⟨ne,h⟩
  ·cases z
  ·exact⟨ne,ts,.inl h⟩
  ·cases z
  ·exact⟨ne,ts,.inr h⟩
 have fW:∀j us,(ρ.set i .un)[j]?=some (.dp us)->j≠i/\ρ[j]?=some (.dp us):=λj us h=>by
  rcases get_set h with⟨rfl,z,_⟩|⟨ne,h⟩
  ·cases z
  ·exact⟨ne,h⟩
 obtain⟨F,e⟩:=e
 refine⟨F,by rw[List.length_set,List.length_set]; exact e.len,e.zw,e.z0,e.wl,e.f0,e.n0,λj u h=>?_,λj ts h=>?_,λj ts h=>?_,λj k a h1 h2 q1 q2=>?_,e.pn,λj a m q=>e.pd j a (mu j m).2 (by rw[List.getElem?_set_ne (Ne.symm (mu j m).1)]at q; exact q),
  λj us h=>?_,λj k us ws n h1 h2=>e.dd j k us ws n (fW j us h1).2 (fW k ws h2).2,λj k us c h1 m q=>e.dm j k us c (fW j us h1).2 (mu k m).2 (by rw[List.getElem?_set_ne (Ne.symm (mu k m).1)]at q; exact q),λj us h=>e.db j us (fW j us h).2,e.tab⟩
 ·rcases get_set h with⟨rfl,z,l⟩|⟨ne,h⟩
  ·cases z
  ·obtain⟨w,h1,h2⟩:=e.sh j u h
   exact⟨w,by rw[List.getElem?_set_ne (Ne.symm ne)]; exact h1,h2⟩
 ·rcases get_set h with⟨rfl,z,l⟩|⟨ne,h⟩
  ·cases z
  ·obtain⟨a,xs,h1,h2⟩:=e.ow j ts h
   exact⟨a,xs,by rw[List.getElem?_set_ne (Ne.symm ne)]; exact h1,h2⟩
 ·rcases get_set h with⟨rfl,z,l⟩|⟨ne,h⟩
  ·cases z
  ·obtain⟨a,xs,h1,h2⟩:=e.rf j ts h
   exact⟨a,xs,by rw[List.getElem?_set_ne (Ne.symm ne)]; exact h1,h2⟩
 ·obtain⟨n1,m1⟩:=mu j h1
  obtain⟨n2,m2⟩:=mu k h2
  rw[List.getElem?_set_ne (Ne.symm n1)]at q1
  rw[List.getElem?_set_ne (Ne.symm n2)]at q2
  exact e.dis j k a m1 m2 q1 q2
 ·obtain⟨ne,h⟩:=fW j us h
  obtain⟨c,ys,h1,d⟩:=e.dp j us h
  exact⟨c,ys,by rw[List.getElem?_set_ne (Ne.symm ne)]; exact h1,d⟩
def Cg(K:Frag)(mg:Str->Option Value)(x:Str)(k:Addr):Prop:=nsIn K mainGlobals x=some (some (.ref k))/\mg x=some (.ref k)
def Hh(K:Frag)(cl:Str->Addr)(cs:List Str):Prop:=∀c∈cs,c∈mW/\nsIn K mainGlobals c=some (some (.ref (cl c)))
def pF(cs:List Str)(j:Nat)(fb fh:SF):SF:=λρ=>match fb ρ with
 |.bad=>.bad
 |.ok q=>.ok q
 |.ex c=>if c∈cs then(aY (fh (ρ.set j (.sh (.dD c))))).bind λq=>.ok (q.1,q.2.set j .un)else .bad
theorem aaE(hK:t.K=aG K){cl:Str->Addr}{cs:List Str}{cH:Addr}{j:Nat}{tb:TX}{ts:TS}{fb fh:SF}(hX:iY K)(hC:Hh K cl cs)(hn:nsIn K mainGlobals "HeadError" = some (some (.ref cH))) (hb:SX t cl tb fb)
  (hh:∀t':Tx,t'.K=t.K->(∀c,¬t'.EX c)->SS t' ts fh):SS t (Nt K cH j tb ts) (pF cs j fb fh):=λW ρ σ H D e h=>by
 show tb D (zE K cH j ts D) σ H
 refine hb W ρ σ H D (zE K cH j ts D) e ?_
 unfold pF at h
 cases ek:fb ρ with
 |bad=>rw[ek]at h; exact h.elim
 |ok q=>rw[ek]at h; exact h
 |ex c =>
  rw[ek]at h
  dsimp only at h
  split at h
  ·rename_i mc
   obtain⟨me,nc⟩:=hC c mc
   intro H' e' s'
   refine⟨cl c,rfl,hX.h cH hn c me (cl c) nc,λea fe=>?_⟩
   have sm:=gK fe (mV ea (cl c))
   have e1:=e'.grow sm
   have nw:¬W ea:=λw=>e'.wn ea w fe
   have e2:aP t W (ρ.set j (.sh (.dD c))) (σ.set j (some (.ref ea))) (upd H' ea (mV ea (cl c))):=e1.wA (by
    refine .dD (C:=cl c) ?_ me (by rw[hK]; exact Xu hX.mc nc)
    rw[gG nw,gk])
   refine hh {t with EX:=λ_=>False } rfl (λ_=>id) W _ _ _ (goes j D) e2.ex (Rs.cg (wH (Rs.aR h)) λq h=>?_)
   have Ar:∀{W2:Addr->Prop} {ρ2:En} {σ2:St} {H2:Hp},aP {t with EX:=λ_=>False } W2 ρ2 σ2 H2->aP t W2 ρ2 σ2 H2:=λe=>aP.ex (t:={t with EX:=λ_=>False }) (EX:=t.EX) e
   have st:cX W H (upd H' ea (mV ea (cl c))):=s'.trans (cX.of sm)
   obtain⟨fl,ρ'⟩:=q
   have h:lR t W H D (fl,ρ'.set j .un):=h
   cases fl with
   |nx=>exact λW2 σ2 H2 e3 n3=>h W2 _ H2 (aP.unset (Ar e3)) (st.nxt.trans n3)
   |rt T fr=>exact λv W2 σ2 H2 e3 r3=>h v W2 _ H2 (aP.unset (Ar e3)) (by cases fr <;> exact r3)
   |bk=>exact λW2 σ2 H2 e3 n3=>h W2 _ H2 (aP.unset (Ar e3)) (st.nxt.trans n3)
   |ct=>exact λW2 σ2 H2 e3 n3=>h W2 _ H2 (aP.unset (Ar e3)) (st.nxt.trans n3)
  ·exact h.elim
end
section
variable {X:Cx}{e:Expr}{te:TEX}{pos:Pos}
end
end L2
end
section
namespace BH
open PySem L2
def Qv:SF:=(aC (iW (uO (wN 1) (bY (aq bQ (aj 1) (eC (.int 0)))) (wG 0 1 (ak (aj 1) (ak (aq bD (aj 0) (aj 1)) ao))))) (aW (bw (g1 dW) (ak (aj 0) ao))))
def Av:FP:=cG 2 Qv
def Qw:SF:=(aW (jw (gJ .int (aj 0)) (zL (gJ .bool (aj 0)))))
def pG:FP:=cG 1 Qw
noncomputable def Hi:SF:=(aC (bM (f9 (eE (dN (gJ .tuple (aj 0)))) (bY (aq bQ (bw (g1 aJ) (ak (aj 0) ao)) (eC (.int 2))))) (aW (eC (.bl false))) bV) (aC (bL (aj 0) (gT 2 (jX (gN 1) (jX (gN 2) o9)))) (aC (bM (f9 (eE (dN (cJ pG (ak (aj 1) ao)))) (eE (dN (cJ pG (ak (aj 2) ao))))) (aW (eC (.bl false))) bV) (aW (jw (aq dw (aj 2) (eC (.int 1))) (aq aM (cJ Av (ak (aj 1) (ak (aj 2) ao))) (eC (.int 1))))))))
def m8:FP:=cG 3 Hi
def Hj:SF:=(aW (jw (cJ m8 (ak (aj 0) ao)) (qY cN cN (eC (.int 0)) (aq aB (aj 0) (eC (.int 0))) (aq aB (aj 0) (eC (.int 1))))))
def qw:FP:=cG 1 Hj
def Hl:SF:=(aC (bM (f9 (eE (dN (gJ .list (aj 0)))) (eE (bY (qY cN cN (eC (.int 1)) (bw (g1 aJ) (ak (aj 0) ao)) (aj 1))))) (aW (eC (.bl false))) bV) (aW (bw (g1 cZ) (ak (fO [none] (fV (aj 0)) (gN 0) d8 (cJ qw (ak (aj 0) ao))) ao))))
def tQ:FP:=cG 2 Hl
noncomputable def Qx:SF:=(aC (bM (f9 (eE (dN (gJ .list (aj 0)))) (eE (bY (qY cN cN (eC (.int 1)) (bw (g1 aJ) (ak (aj 0) ao)) (eC (.int 4)))))) (aW (eC (.bl false))) bV) (aC (bM (eE (dN (bw (g1 cZ) (ak (fO [none] (fV (aj 0)) (gN 0) d8 (cJ tQ (ak (aj 0) (ak (eC (.int 12)) ao)))) ao)))) (aW (eC (.bl false))) bV) (aW (bw (g1 cZ) (ak (fO [none,some 0] (fV (aj 0)) (gN 0) d8 (aq aM (bw (g1 aJ) (ak (aj 0) ao)) (bw (g1 aJ) (ak (aq aB (aj 1) (eC (.int 0))) ao)))) ao)))))
def wX:FP:=cG 1 Qx
def Ho:SF:=(bM (eE (dN (cJ wX (ak (aj 0) ao)))) (zT "NoBook" (eC (.str "this is no book"))) bV)
def n6:FP:=cG 1 Ho
noncomputable def Qy:SF:=(aC (bM (f9 (eE (dN (gJ .list (aj 0)))) (bY (aq bQ (bw (g1 aJ) (ak (aj 0) ao)) (aj 1)))) (aW (eC (.bl false))) bV) (aW (bw (g1 cZ) (ak (fO [none] (fV (aj 0)) (gN 0) d8 (jw (cJ m8 (ak (aj 0) ao)) (aq dw (aq aB (aj 0) (eC (.int 0))) (eC (.int 0))))) ao))))
def uV:FP:=cG 2 Qy
noncomputable def Qz:SF:=(aC (bM (eE (dN (gJ .tuple (aj 0)))) (aW (eC (.bl false))) bV) (aC (bM (bY (aq bQ (bw (g1 aJ) (ak (aj 0) ao)) (eC (.int 2)))) (aW (aq (cM id) (aj 0) (eC (.tup [(.tup [(.str "least")]),(.tup [(.str "greatest")]),(.tup [(.str "product")])])))) bV) (aC (bL (aj 0) (gT 2 (jX (gN 2) (jX (gN 3) o9)))) (aC (bM (bY (aq aM (aj 2) (eC (.str "shares")))) (aW (cJ uV (ak (aj 3) (ak (aj 1) ao)))) bV) (aW (jw (aq aM (aj 2) (eC (.str "middle"))) (jw (cJ pG (ak (aj 3) ao)) (qY cN cN (eC (.int 1)) (aj 3) (aj 1)))))))))
def lW:FP:=cG 4 Qz
end BH
end
section
namespace L2
open PySem PySem.Spec PyProof.Rows
section
variable {X:Cx}{k j:Nat}{x:Str}{ps:List Str}{sp:Sp}{p pos:Pos}{a b e:Expr}{es:List Expr}{ta tb:TE}{tl:TA}{E:XK}
theorem dB(ha:PE X a ta)(hb:PE X b tb)(hs:Mi b:=by exact λ_ _=>rfl):PE X (.Subscript a b pos) (gF (mK X.K) ta tb):=vO vP ha hb hs
theorem pc1(D:bJ X.prog X.w X.K X.mg X.base j x ps sp)(hr:gZ k X.A)(hx:Passes (j9 X.prog X.w) X E)(ha:PA X (e::es) tl)(hk:j<=k:=by decide)(hg:X.env.kindOf x=some .globalImplicit:=by kernel_rfl)(hdb:(x == ("__debug__" : Str))=false:=by kernel_rfl)
  (he:notStar e=true:=by kernel_rfl) (hpl:(backTo pos (starEach es X.env)).any (·.1)=false:=by kernel_rfl):PE X (.Call (.Name x p) (e::es) [] pos) (oN sp [] E tl):=Qf (D.mono hk) hr hx ha hg hdb he hpl
theorem iu(D:bJ X.prog X.w X.K X.mg X.base j x ps sp)(hr:gZ k X.A)(ha:PA X (e::es) tl)(hk:j<=k:=by decide)(hg:X.env.kindOf x=some .globalImplicit:=by kernel_rfl)(hdb:(x == ("__debug__" : Str))=false:=by kernel_rfl)
  (he:notStar e=true:=by kernel_rfl) (hpl:(backTo pos (starEach es X.env)).any (·.1)=false:=by kernel_rfl):PE X (.Call (.Name x p) (e::es) [] pos) (oN sp [] E0 tl):=Qf (D.mono hk) hr Xj ha hg hdb he hpl
end
theorem fS(N P:List Str)(sc:Scope)(kind:sc.kind=.function:=by rfl)(co:sc.isCoroutine=false:=by rfl)(gen:sc.isGenerator=false:=by rfl)(nd:N.Nodup:=by decide +kernel)(pre:N.take P.length=P:=by rfl)(par:∀x∈P,sc.names.lookup x=some .local\/sc.names.lookup x=some .cell:=by decide +kernel)(Dw:∀y∈sc.names,y.2 ≠ .free:=by decide +kernel):sH N P sc:=⟨kind,co,gen,nd,pre,par,Dw⟩
section
variable {t:Tx}{K:FZ}
theorem aaF(hK:t.K=aG K){ta:TE}{fa:EF}(ha:SE t ta fa):L2.ST t (λσ H Q=>ta σ H λx H'=>∃k,vM K x H' k/\Q k H') (dN fa):=nR hK ha
theorem aaG(hK:t.K=aG K){ts:TS}{f:SF}(h:∀t':Tx,t'.K=aG K->(∀c,¬t'.EX c)->SS t' ts f):SS t ts (iW f):=Zh λt' h' k=>h t' (h'.trans hK) k
theorem aaH(hK:t.K=aG K){wi:TI}{g:TG}{src:List (Option Nat)}{te:TE}{fi:IF}{gf:GF}{f:EF}{js:List Nat}(hi:SI t wi fi)(ng:∀T ρ c,gf T ρ ≠ .ex c)(hg:∀t':Tx,t'.K=aG K->(∀c,¬t'.EX c)->SG t' g gf js)(he:∀t':Tx,t'.K=aG K->(∀c,¬t'.EX c)->SE t' te f)(hj:∀k j:Nat,src[k]?=some (some j)->k∉js)(I:(src.filterMap id).Nodup):SE t (qP wi g src te) (fO src fi gf d8 f) :=
 tE hi (rF I) hj ng (λt' h k=>hg t' (h.trans hK) k) (λt' h k=>he t' (h.trans hK) k)
end
end L2
end
section
namespace L2
open PySem PySem.Spec PyProof.Rows PySem.Builtin PySem.Builtin.Str
section
variable {X:Cx}
theorem wY(z:Str)(t:Tok):RelV (.str z) (.str z t):=⟨t,rfl⟩
theorem QB:∀{ts:List Str} {its:List Value},Vals (ts.map .str) its->∃l:List (Str × Tok),its=strValues l/\l.map (·.1)=ts
 | [],_,.nil=>⟨[],rfl,rfl⟩
 |z::ts,_,.cons r h=>by
  obtain⟨l,rfl,q⟩:=QB h
  obtain⟨t,rfl⟩:=r
  exact⟨(z,t)::l,rfl,by rw[List.map_cons,q]⟩
def rJoin(K:FZ):V->List V->Hp->VK->Prop:=λx vs H Q=>∃(z:Str) (a:Addr) (ts:List Str),x=.str z/\vs=[.ref a]/\eF K H a (ts.map .str)/\JoinOk z ts=true/\Q (.str (Txt.join z ts)) H
theorem QC:Ea X "str.join" (rJoin X.K):=by
 intro pins s σ H x vs v us Q I rx rv h
 obtain⟨z,a,ts,rfl,rfl,hH,hj,q⟩:=h
 obtain⟨t,rfl⟩:=rx
 obtain⟨u,rfl,ru⟩:=rv.one
 cases ru
 obtain⟨its,r,pl,hz⟩:=I.list hH
 obtain⟨l,rfl,hl2⟩:=QB r
 exact SC.join pl.isList hl2 hj λt' k=>⟨.str _,H,I.tok k,wY _ _,q⟩
end
section
variable {t:Tx}{K:FZ}{ta tb:TE}{fa fb:EF}
def strOf:Tr->Rs Str
 |.str z=>.ok z
 |_=>.bad
theorem QD(a:Tr)(c:Str):strOf a ≠ .ex c:=by cases a <;> (intro z; cases z)
def QG(K:FZ)(r:V->List V->Hp->VK->Prop)(g:Str->G1):Prop:=∀W z y b H Q,(∀b,W b->Lt H b)->Rp K W H y b->(g z b).post (λ_=>False) (λp=>∀v H',Same H H'->gq K W [] H H' v (.v p.1 p.2)->Q v H')->r (.str z) [y] H Q
def rO(g:Str->G1)(fa fb:EF):EF:=λρ=>(fa ρ).bind λp=>(dr p.2 p.1).bind λa=>(strOf a).bind λz=>(fb p.2).bind λq=>(dr q.2 q.1).bind λb=>(g z b).bind λw=>.ok (.v w.1 w.2,q.2)
theorem aaI{r:V->List V->Hp->VK->Prop}{g:Str->G1}(o:QG t.K r g)(ng:∀z b c,g z b ≠ .ex c)(ha:SE t ta fa)(hb:SE t tb fb):SE t (yW K "str" r ta (ji tb mH)) (rO g fa fb):=λW ρ σ H Q e h=>by
 refine ha W ρ σ H _ e (Rs.cg (Rs.aR h) λp h x H1 e1 s1 v1=>?_)
 obtain⟨a,k1,h⟩:=dO (Rs.aR h) (ju _ _)
 obtain⟨z,k2,h⟩:=dO (Rs.aR h) (QD _)
 have r1:=jC e1 e.wn v1.1 k1
 cases a <;> cases k2
 rw[r1.str]
 refine⟨rfl,hb W p.2 σ H1 _ e1 (Rs.cg (Rs.aR h) λq h y H2 e2 s2 v2=>?_)⟩
 obtain⟨b,k3,h⟩:=dO (Rs.aR h) (ju _ _)
 refine o W z y b H2 Q e2.wl (jC e2 e1.wn v2.1 k3) (Rs.cg (jT (Rs.aR h) (ng z b)) λw h v H3 s3 v3=>?_)
 exact h v H3 (e2.grow s3) ((s1.trans s2).trans (cX.of s3)) ((iD.of e2 s3 v3).back λb q=>(s1.trans s2).dom b q)
def strsOf:List Tr->Rs (List Str)
 | []=>.ok []
 |.str z::r=>(strsOf r).bind λl=>.ok (z::l)
 |_=>.bad
theorem QH:∀{ts:List Tr} {l:List Str},strsOf ts=.ok l->ts=l.map .str
 | [],_,h=>by cases h; rfl
 |t::r,l,h=>by
  cases t <;> try cases h
  dsimp only[strsOf]at h
  cases q:strsOf r with
  |bad=>rw[q]at h; cases h
  |ex c=>rw[q]at h; cases h
  |ok l'=>rw[q]at h; cases h; rw[QH q]; rfl
theorem Hq:∀(ts:List Tr) (c:Str),strsOf ts ≠ .ex c
 | [],_,h=>by cases h
 |t::r,c,h=>by
  cases t <;> try cases h
  dsimp only[strsOf]at h
  cases q:strsOf r with
  |bad=>rw[q]at h; cases h
  |ex c'=>exact Hq r _ q
  |ok l'=>rw[q]at h; cases h
theorem QJ{H:Hp}:∀{l:List Str} {xs:List V},aQ K H xs (l.map .str)->xs=l.map .str
 | [],_,.nil=>rfl
 |z::r,_,.cons (.str _) h=>by rw[QJ h]; rfl
def kW(z:Str):G1
 |.lst ts=>(strsOf ts).bind λl=>if JoinOk z l=true then .ok (.str (Txt.join z l),false)else .bad
 |_=>.bad
theorem aaJ(z:Str)(b:Tr)(c:Str):kW z b ≠ .ex c:=by
 cases b <;> dsimp only[kW] <;> try(intro z; cases z)
 rename_i ts
 cases q:strsOf ts with
 |bad=>intro z; cases z
 |ex c'=>exact(Hq _ _ q).elim
 |ok l=>show(if _ then _ else _)≠_; split <;> (intro z; cases z)
theorem aaK{K':FZ}:QG (aG K') (rJoin K') kW:=λW z y b H Q hw ry h=>by
 cases b <;> try exact h.elim
 rename_i ts
 obtain⟨a,xs,rfl,sq,r⟩:=ry.lst
 dsimp only[kW]at h
 obtain⟨l,k,h⟩:=dO (Rs.aR h) (Hq _)
 rw[QH k]at r
 rw[QJ r]at sq
 split at h
 ·rename_i w
  exact⟨z,a,l,rfl,rfl,sq.toK,w,h _ H (Same.refl _) (.gU (.str _))⟩
 ·exact h.elim
theorem aaL{K':FZ}(hK:t.K=aG K')(ha:SE t ta fa)(hb:SE t tb fb):SE t (yW K "str" (rJoin K') ta (ji tb mH)) (rO kW fa fb):=aaI (by rw[hK]; exact aaK) aaJ ha hb
theorem aaM{f:EF}(h1:Pr f):Pr (dN f):=λρ=>by
 unfold dN
 cases e1:f ρ with
 |bad=>exact⟨λp h=>(by cases h),λc h=>(by cases h)⟩
 |ex c=>exact absurd e1 ((h1 ρ).2 c)
 |ok p =>
  have z:=(h1 ρ).1 p e1
  obtain⟨r,ρ1⟩:=p
  dsimp only at z
  subst z
  show(∀p,((dr ρ1 r).bind _)=.ok p->_)/\∀c,((dr ρ1 r).bind _) ≠ .ex c
  cases e3:dr ρ1 r with
  |bad=>exact⟨λp h=>(by cases h),λc h=>(by cases h)⟩
  |ex c=>exact absurd e3 (ju _ _ c)
  |ok a =>
   show(∀p,((bh a).bind _)=.ok p->_)/\∀c,((bh a).bind _) ≠ .ex c
   cases e5:bh a with
   |bad=>exact⟨λp h=>(by cases h),λc h=>(by cases h)⟩
   |ex c=>exact absurd e5 (Oj _ c)
   |ok z=>exact⟨λp h=>(by cases h; rfl),λc h=>(by cases h)⟩
end
end L2
end
section
namespace L2
open PySem PySem.Spec PyProof.Rows
section
variable {X:Cx}
def Hr:V->Hp->VK->Prop:=λx H Q=>(∃i:Int,x=.int i/\i.natAbs.log2<1920/\Q (.str (toString i)) H)\/∃z:Str,x=.str z/\z.length<=sizeLine/\Q (.str z) H
theorem Aw{e:Expr}{pos:Pos}{te:TE}(h:PE X e te):PE X (.FormattedValue e (-1) none pos) (yN Hr te):=by
 refine⟨λpins s σ H Q I k=>wpAny_FormattedValue_plain (cW (h pins s σ H _ I k) λv s1 ⟨x,H1,I1,r1,q⟩=>?_)⟩
 rcases q with⟨i,rfl,hd,q⟩|⟨z,rfl,hz,q⟩
 ·obtain⟨t,rfl⟩:=r1
  exact wpAny_formatField_int hd ⟨.str _,H1,I1.tok _,wY _ _,q⟩
 ·obtain⟨t,rfl⟩:=r1
  exact wpAny_formatField_str ⟨.str _,H1,I1,wY _ _,q⟩ ⟨.str _,H1,I1.tok _,wY _ _,q⟩ hz
def Ax:List TE->Str->TE
 | [],acc=>λ_ H Q=>acc.length<=sizeLine/\Q (.str acc) H
 |ta::r,acc=>λσ H Q=>ta σ H λx H1=>∃y,x=.str y/\(acc++y).length<=sizeLine/\Ax r (acc++y) σ H1 Q
inductive qx(X:Cx):List Expr->List TE->Prop
 |nil:qx X [] []
 |cons {e:Expr} {es:List Expr} {te:TE} {ts:List TE} (h:PE X e te) (r:qx X es ts):qx X (e::es) (te::ts)
theorem Hs:qx X [] []:=.nil
theorem tR{e:Expr}{es:List Expr}{te:TE}{ts:List TE}(h:PE X e te)(r:qx X es ts):qx X (e::es) (te::ts):=.cons h r
theorem qx.joins{es:List Expr}{ts:List TE}(h:qx X es ts):∀(acc:Str) (pins:List (Addr × Obj)) (s:Shared) (σ : St) (H:Hp) (Q:VK),Inv X pins σ H s->Ax ts acc σ H Q ->
  Joins (model X.prog X.w) X.A X.xe (evalEach es X.env) acc (λout s₁=>out.length<=sizeLine/\EP X pins σ Q (.str out s₁.toks) {s₁ with toks:=s₁.toks+1 }) s:=by
 induction h with
 |nil=>exact λacc pins s σ H Q I k=>⟨k.1,.str _,H,I.tok _,wY _ _,k.2⟩
 |cons h r ih =>
  refine λacc pins s σ H Q I k=>cW (h pins s σ H _ I k) λv s1 ⟨x,H1,I1,r1,y,e,hl,q⟩=>?_
  subst e
  obtain⟨t,rfl⟩:=r1
  exact⟨y,t,rfl,hl,ih _ pins s1 σ H1 Q I1 q⟩
theorem Ht{e1 e2:Expr}{es:List Expr}{ts:List TE}{pos:Pos}(h:qx X (e1::e2::es) ts):PE X (.JoinedStr (e1::e2::es) pos) (Ax ts Str.empty) :=
 ⟨λpins s σ H Q I k=>wpAny_JoinedStr (h.joins _ pins s σ H Q I k)⟩
end
section
variable {t:Tx}{K:FZ}{ta tb:TE}{fa fb:EF}
def lE:G1
 |.int i=>if i.natAbs.log2<1920 then .ok (.str (toString i),false)else .bad
 |.str z=>if z.length<=100000 then .ok (.str z,false)else .bad
 |_=>.bad
theorem aaN(a:Tr)(c:Str):lE a ≠ .ex c:=by
 cases a <;> dsimp only[lE] <;> (try split) <;> (intro z; cases z)
theorem aaO:ql K Hr lE:=λW x a H Q hw rx h=>by
 cases a <;> try exact h.elim
 ·rw[rx.int]
  dsimp only[lE]at h
  split at h
  ·exact .inl ⟨_,rfl,by assumption,h _ H (Same.refl _) (.gU (.str _))⟩
  ·exact h.elim
 ·rw[rx.str]
  dsimp only[lE]at h
  split at h
  ·rename_i w
   exact .inr ⟨_,rfl,Nat.le_trans w (by decide),h _ H (Same.refl _) (.gU (.str _))⟩
  ·exact h.elim
theorem Hu(ha:SE t ta fa):SE t (yN Hr ta) (sW lE fa):=Yi aaO aaN ha
def pH:List EF->Str->EF
 | [],acc=>λρ=>if acc.length<=100000 then .ok (.v (.str acc) false,ρ)else .bad
 |f::r,acc=>λρ=>(f ρ).bind λp=>(dr p.2 p.1).bind λa=>(strOf a).bind λy=>if(acc++y).length<=100000 then pH r (acc++y) p.2 else .bad
inductive tU(t:Tx):List TE->List EF->Prop
 |nil:tU t [] []
 |cons {te:TE} {f:EF} {ts:List TE} {fs:List EF} (h:SE t te f) (r:tU t ts fs):tU t (te::ts) (f::fs)
theorem Hv:tU t [] []:=.nil
theorem wZ{te:TE}{f:EF}{ts:List TE}{fs:List EF}(h:SE t te f)(r:tU t ts fs):tU t (te::ts) (f::fs):=.cons h r
theorem Hw{ts:List TE}{fs:List EF}(h:tU t ts fs):∀acc:Str,SE t (Ax ts acc) (pH fs acc):=by
 induction h with
 |nil =>
  intro acc W ρ σ H Q e h
  dsimp only[pH]at h
  split at h
  ·rename_i w
   exact⟨Nat.le_trans w (by decide),h _ H e (cX.of (Same.refl _)) (iD.of (σ' := σ) e (Same.refl _) (.gU (.str _)))⟩
  ·exact h.elim
 |cons ha r ih =>
  intro acc W ρ σ H Q e h
  refine ha W ρ σ H _ e (Rs.cg (Rs.aR h) λp h x H1 e1 s1 v1=>?_)
  obtain⟨a,k1,h⟩:=dO (Rs.aR h) (ju _ _)
  obtain⟨y,k2,h⟩:=dO (Rs.aR h) (QD _)
  have r1:=jC e1 e.wn v1.1 k1
  cases a <;> cases k2
  rw[r1.str]
  have h:(if(acc++y).length<=100000 then pH _ (acc++y) p.2 else .bad:Rs (Rv × En)).post _ _:=h
  split at h
  ·rename_i w
   exact⟨y,rfl,Nat.le_trans w (by decide),ih _ W p.2 σ H1 Q e1 (Rs.cg h λq h v H2 e2 s2 v2=>h v H2 e2 (s1.trans s2) (v2.back s1.dom))⟩
  ·exact h.elim
end
end L2
end
section
namespace L2
open PySem PySem.Spec PyProof.Rows
section
variable {X:Cx}{t:Tx}{K:FZ}{tl:TA}{fl:AF}
end
end L2
end
section
namespace L2
open PySem PySem.Spec PyProof.Rows
section
variable {X:Cx}{t:Tx}{K:FZ}{ta tb:TE}{fa fb:EF}
end
end L2
end
section
namespace L2
open PySem PySem.Spec PyProof.Rows
section
variable {X:Cx}{tg:Expr}
end
section
variable {t:Tx}{K:FZ}
end
end L2
end
section
namespace L2
open PySem PySem.Spec PyProof.Rows PySem.W
section
variable {X:Cx}
def uW(a:Int)(n:Nat):List V:=(List.range' 0 n).map λi:Nat=>V.int (a+i)
def QK(ta:TA):TE:=λσ H Q=>ta σ H λvs H1=>∃(a b:Int) (n:Nat),vs=[.int a,.int b]/\(-1000<=a/\a<=1000)/\(-1000<=b/\b<=1000)/\n=(b-a).toNat/\∀D,H1 D=none->Q (.ref D) (upd H1 D (.lst (uW a n)))
theorem aaP{k:Nat}{e e2:Expr}{p p2 pos pos2:Pos}{ta:TA}(hr:gZ k X.A)(h1:X.mg "list" = none) (h2:X.mg "range" = none) (ha:PA X [e,e2] ta)
  (hg:X.env.kindOf "list" = some .globalImplicit:=by kernel_rfl) (hg2:X.env.kindOf "range" = some .globalImplicit:=by kernel_rfl) (hs:starEach [e,e2] X.env=[(false,eval e X.env),(false,eval e2 X.env)]:=by rfl) (hs2:starEach [e2] X.env=[(false,eval e2 X.env)]:=by rfl) :
  PE X (.Call (.Name "list" p) [.Call (.Name "range" p2) [e,e2] [] pos2] [] pos) (QK ta):=by
 refine⟨λpins s σ H Q I h=>?_⟩
 refine wpAny_Call_Name_kw (ux I hg h1 (by decide +kernel:bootBuiltins "list" = some (.type "list")) ?_ (by decide +kernel) (by kernel_rfl))
 refine PyProof.Rows.callWith_type1 (Calls.spliced_cons (wpAny_Call_Name_kw (ux I hg2 h2 boot_range (PyProof.Rows.callWith_type1 (cW (ha pos2 pins s σ H _ I h) λus s1 ⟨vs,H1,I1,r1,q1⟩=>?_) (by rw[hs,hs2]) (by rw[hs2]; rfl)) (by decide +kernel) (by kernel_rfl)))) rfl rfl
 obtain⟨a,b,n,rfl,ha,hb,hn,q⟩:=q1
 obtain⟨u1,u2,rfl,⟨t1,rfl⟩,⟨t2,rfl⟩⟩:=vals2 r1
 refine call_range_2 ?_
 have I2:Inv X pins σ H1 {s1 with heap:=s1.heap.push {cls:=.type "range",data:=.fields #[.int a t1,.int b t2,.int 1 s1.toks] },toks:=s1.toks+1 }:=I1.kept λb o e=>Heap.get?_push_of_some _ e
 refine Calls.spliced_nil ?_
 have sz1:Builtin.Range.rangeSize a b 1=n:=by rw[rangeSize_one]; split <;> omega
 refine call_list_range hr.hd (Heap.get?_push_size _ rfl) (small_one (by omega) (by omega) (by omega) (by omega)) sz1 (by omega) λh' tk acc c keep hS hi=>?_
 have va:Vals (uW a n) acc.toList:=by
  have go:∀(l:List Value) (m:Nat),(∀(j:Nat) v,l[j]?=some v->∃t,v=Value.int (a+((m+j:Nat):Int)) t)->Vals ((List.range' m l.length).map λi:Nat=>V.int (a+i)) l:=λl=>by
   induction l with
   |nil=>intro m _; exact .nil
   |cons v r ih =>
    intro m hv
    refine .cons ?_ (ih (m+1) λj w hw=>?_)
    ·obtain⟨t,z⟩:=hv 0 v (by simp)
     exact⟨t,by simpa using z⟩
    ·obtain⟨t,z⟩:=hv (j+1) w (by simpa using hw)
     exact⟨t,by rw[z]; congr 2; omega⟩
  have:=go acc.toList 0 λj v hv=>by
   obtain⟨t,z⟩:=hi.2 j v (by rw[<-Array.getElem?_toList]; exact hv)
   exact⟨t,by rw[z]; simp⟩
  rw[Array.length_toList,hi.1]at this
  exact this
 refine⟨.ref _,_,I2.laid (t':=tk) keep (Nat.le_refl _) (show jR X.prog X.w _ _ _ (.lst (uW a n))from⟨by unfold uW; rw[List.length_map,List.length_range',sizeLine_eq]; omega,acc.toList,c,va,by rw[Array.toArray_toList]; exact hS⟩),rfl,q _ (I2.hok.fresh (Nat.le_refl _))⟩
end
def jV(a:Int)(n:Nat):List Tr:=(List.range' 0 n).map λi:Nat=>Tr.int (a+i)
def w6(fa:AF):EF:=λρ=>(fa ρ).bind λp=>match p.1 with
 | [.v (.int a) _,.v (.int b) _]=>if(-1000<=a/\a<=1000)/\(-1000<=b/\b<=1000)then .ok (.v (.lst (jV a (b-a).toNat)) true,p.2)else .bad
 |_=>.bad
theorem QL{K:FZ}{W:Addr->Prop}{σ : St}{H H':Hp}{v:V}{n:Int}{fr:Bool}(h:gq K W σ H H' v (.v (.int n) fr)):v=.int n:=by
 cases fr with
 |false =>
  have h1:Rep _ _ _ (Tr.int n):=h
  cases h1
  rfl
 |true =>
  obtain⟨_,_,_,_,z,_⟩:=h
  cases z
theorem aaQ{K:FZ}{W:Addr->Prop}{σ : St}{H H':Hp}{vs:List V}{a b:Int}{fr QM:Bool}(h:iT K W σ H H' vs [.v (.int a) fr,.v (.int b) QM]):vs=[.int a,.int b]:=by
 cases h with
 |cons h1 r1 =>
  cases r1 with
  |cons h2 r2 =>
   cases r2
   rw[QL h1,QL h2]
theorem aaR{K:FZ}{H:Hp}(a:Int)(n:Nat):aQ K H (uW a n) (jV a n):=by
 unfold uW jV
 generalize List.range' 0 n=l
 induction l with
 |nil=>exact .nil
 |cons i r ih=>exact .cons (.int _) ih
theorem aaS{t:Tx}{ta:TA}{fa:AF}(ha:SA t ta fa):SE t (QK ta) (w6 fa):=λW ρ σ H Q e h=>by
 refine ha W ρ σ H _ e (Rs.cg (Rs.aR h) λp h vs H1 e1 s1 v1=>?_)
 obtain⟨rs,ρ1⟩:=p
 dsimp only at h e1 v1
 split at h
 case h_2=>exact h.elim
 rename_i a fr b QM
 split at h
 case isFalse=>exact h.elim
 rename_i hn
 refine⟨a,b,_,aaQ v1,hn.1,hn.2,rfl,λD nD=>?_⟩
 exact h (.ref D) _ (e1.grow (gK nD _)) (s1.trans (cX.of (gK nD _))) (iD.back (H:=H1) (iD.of (σ' := σ) e1 (gK nD _) (gq.new nD (aaR _ _))) λb q=>s1.dom b q)
end L2
end
section
namespace K71
open PySem L2 BH
def top(i:Nat):Stmt:=PySem.Challenge.pw_bestheads_k71_refused_books_and_rules.main.body.getD i (.Pass ⟨0,0,0,0⟩)
abbrev Hy:Stmt:=top 17
abbrev Hz:Stmt:=top 18
abbrev HB:Stmt:=top 19
abbrev HD:Stmt:=top 23
abbrev Ay:Stmt:=top 24
abbrev xg:Stmt:=top 25
abbrev HF:Stmt:=top 26
abbrev Az:Stmt:=top 29
abbrev HJ:Stmt:=top 30
abbrev HN:Stmt:=top 32
abbrev Ba:Stmt:=top 33
abbrev Bb:Stmt:=top 34
abbrev HS:Stmt:=top 35
abbrev HW:Stmt:=top 37
abbrev HX:Stmt:=top 38
abbrev HY:Stmt:=top 39
abbrev Ia:Stmt:=top 40
abbrev Ib:Stmt:=top 41
abbrev Ie:Stmt:=top 42
abbrev Bc:Stmt:=top 43
abbrev Ig:Stmt:=top 44
abbrev xq:Stmt:=top 45
abbrev Ih:Stmt:=top 46
abbrev Bf:Stmt:=top 47
abbrev Ii:Stmt:=top 48
abbrev Bg:Stmt:=top 49
abbrev Ij:Stmt:=top 50
abbrev uX:Stmt:=top 51
abbrev Ik:Stmt:=top 52
abbrev Bh:Stmt:=top 53
abbrev Bj:Stmt:=top 54
abbrev Il:Stmt:=top 55
abbrev Im:Stmt:=top 56
abbrev Io:Stmt:=top 57
structure Nm(mg:Str->Option Value):Prop where
 aaT:mg "ValueError" = none
 QS:mg "abs" = none
 uY:mg "all" = none
 QT:mg "bool" = none
 QV:mg "int" = none
 gh:mg "isinstance" = none
 jm:mg "len" = none
 pI:mg "list" = none
 aaU:mg "max" = none
 aaV:mg "min" = none
 rP:mg "range" = none
 xr:mg "str" = none
 rQ:mg "tuple" = none
def Ip:SF:=(aC (bL (aj 0) (gT 2 (jX (gN 1) (jX (gN 2) o9)))) (aW (FJ (bY (aq aM (aj 2) (eC (.int 1)))) (bw (g1 kE) (ak (aj 1) ao)) (pH [(sW lE (aj 1)),(eC (.str "/")),(sW lE (aj 2))] Str.empty))))
def tV:FP:=cG 3 Ip
def QW:SF:=(aW (rO kW (eC (.str " ")) (fO [none] (fV (aj 0)) (gN 0) d8 (cJ tV (ak (aj 0) ao)))))
def pJ:FP:=cG 1 QW
def QX:SF:=(aC (wB (cJ n6 (ak (aj 0) ao))) (aW (rO kW (eC (.str "\n")) (fO [none] (fV (aj 0)) (gN 0) d8 (cJ pJ (ak (aj 0) ao))))))
def lF:FP:=cG 1 QX
noncomputable def xu:SF:=(aC (bM (eE (dN (cJ lW (ak (aj 0) (ak (aj 1) ao))))) (zT "NoRule" (eC (.str "this is no rule for so many lists"))) bV) (aC (bM (bY (aq aM (aq aB (aj 0) (eC (.int 0))) (eC (.str "shares")))) (aW (pH [(eC (.str "shares ")),(sW lE (cJ pJ (ak (aq aB (aj 0) (eC (.int 1))) ao)))] Str.empty)) bV) (aC (bM (bY (aq aM (aq aB (aj 0) (eC (.int 0))) (eC (.str "middle")))) (aW (pH [(eC (.str "middle ")),(sW lE (aq aB (aj 0) (eC (.int 1))))] Str.empty)) bV) (aW (aq aB (aj 0) (eC (.int 0)))))))
def jo:FP:=cG 2 xu
noncomputable def Bl:SF:=(aC (bL (aq aN (aq cO (aq bD (aj 0) (eC (.int 2147483629))) (eC (.int 69621))) (aq cO (aq cO (eC (.int 40503)) (aj 1)) (aj 1))) (gN 2)) (aC (bL (aq bD (aq aN (aq aN (aj 2) (aq cO (eC (.int 16807)) (aj 1))) (eC (.int 1048583))) (eC (.int 2147483647))) (gN 2)) (aC (bL (aq bD (aq cO (aj 2) (aj 2)) (eC (.int 2147483629))) (gN 2)) (aW (aq bD (aq cO (aj 2) (aq aN (aj 2) (eC (.int 2)))) (eC (.int 2147483587)))))))
def qy:FP:=cG 3 Bl
noncomputable def Bm:SF:=(aC (bL (eC (.int 0)) (gN 2)) (aC (bM (bY (aq bf (aj 1) (bw (g1 aJ) (ak (aj 0) ao)))) (bL (aq aB (aj 0) (aj 1)) (gN 2)) bV) (aC (bM (bY (aq dw (aj 2) (aq dz (eC (.int 10)) (eC (.int 18))))) (aW (fK (ak (aq bA (aj 2) (aq dz (eC (.int 10)) (eC (.int 18)))) ao))) bV) (aC (bL (eC (.int 0)) (gN 3)) (aC (iW (jN (iG (ak (eC (.int 20)) ao)) (gN 4) (bL (aq aN (aq cO (aj 3) (eC (.int 2147483587))) (cJ qy (ak (aj 2) (ak (aq aN (aq cO (eC (.int 31)) (aj 1)) (aj 4)) ao)))) (gN 3)))) (aW (fK (ak (aj 3) ao))))))))
def qz:FP:=cG 5 Bm
def Bo:SF:=(aC (bL (aq bD (aq aB (aj 0) (eC (.int 0))) (aj 1)) (gN 2)) (aC (wF 0 (eC (.int 0)) (aq dU (aq aB (aj 0) (eC (.int 0))) (aj 1))) (aW (aj 2))))
def cP:FR:=fX 3 0 Bo
def QZ:SF:=(aC (iW (uO (wN 1) (bY (aq bQ (aj 1) (eC (.int 0)))) (wG 0 1 (ak (aj 1) (ak (aq bD (aj 0) (aj 1)) ao))))) (aW (bw (g1 dW) (ak (aj 0) ao))))
def pK:FP:=cG 2 QZ
def xG:SF:=(aC (bL (cJ pK (ak (aj 0) (ak (aj 1) ao))) (gN 2)) (aC (bM (bY (aq bf (aj 1) (eC (.int 0)))) (bL (aq bA (eC (.int 0)) (aj 2)) (gN 2)) bV) (aW (jj (ak (aq dU (aj 0) (aj 2)) (ak (aq dU (aj 1) (aj 2)) ao))))))
def lX:FP:=cG 3 xG
def Q0:SF:=(aW (jw (gJ .int (aj 0)) (zL (gJ .bool (aj 0)))))
def lG:FP:=cG 1 Q0
noncomputable def aaW:SF:=(aC (bM (f9 (eE (dN (j4 "HeadError" (aj 0)))) (eE (dN (Hf (aj 0))))) (aW (eC (.bl false))) bV) (aC (bL (fK (ak (j4 "NoBottom" (aj 0)) (ak (j4 "NoBook" (aj 0)) (ak (j4 "NoList" (aj 0)) ao)))) (gN 2)) (aC (bL (aq aN (aj 2) (fK (ak (j4 "NoRule" (aj 0)) (ak (j4 "NoCount" (aj 0)) (ak (j4 "NoLooks" (aj 0)) ao))))) (gN 2)) (aC (bL (aq aN (aj 2) (fK (ak (j4 "NoThings" (aj 0)) (ak (j4 "NotSure" (aj 0)) (ak (j4 "NoSlack" (aj 0)) ao))))) (gN 2)) (aC (bL (aq aN (aj 2) (fK (ak (j4 "NoThing" (aj 0)) (ak (j4 "NoWorth" (aj 0)) (ak (j4 "TooMany" (aj 0)) ao))))) (gN 2)) (aC (bL (aq aN (aj 2) (fK (ak (j4 "NoText" (aj 0)) (ak (j4 "NoLine" (aj 0)) ao)))) (gN 2)) (aC (bL (fU [.str "NoBottom",.str "NoBook",.str "NoList",.str "NoRule",.str "NoCount",.str "NoLooks",.str "NoThings",.str "NotSure",.str "NoSlack"]) (gN 3)) (aC (bL (aq aN (aj 3) (fU [.str "NoThing",.str "NoWorth",.str "TooMany",.str "NoText",.str "NoLine"])) (gN 3)) (aW (aq aM (aj 2) (fO [none,some 1] (fV (aj 3)) (gN 0) d8 (aq aM (aj 0) (aj 1)))))))))))))
def n8:FP:=cG 4 aaW
noncomputable def Bp:SF:=(aC (bL (cu 0 cP (ak (aj 0) (ak (eC (.int 8)) ao))) (gN 1)) (aC (bM (bY (aq bf (aj 1) (eC (.int 2)))) (aW (aq aB (fU [.tup [.int 0,.int 1],.tup [.int 1,.int 1]]) (aj 1))) bV) (aC (bL (aq aB (fU [.int 2,.int 3,.int 4,.int 6,.int 12,.int 0]) (aq bA (aj 1) (eC (.int 2)))) (gN 2)) (aC (bM (bY (aq aM (aj 2) (eC (.int 0)))) (bL (aq aN (eC (.int 1)) (cu 0 cP (ak (aj 0) (ak (aq bA (aq dz (eC (.int 10)) (eC (.int 12))) (eC (.int 1))) ao)))) (gN 2)) bV) (aW (cJ lX (ak (cu 0 cP (ak (aj 0) (ak (aq aN (aj 2) (eC (.int 1))) ao))) (ak (aj 2) ao))))))))
def j5:FR:=fX 3 0 Bp
noncomputable def Q5:SF:=(aC (bL (aq aN (eC (.int 1)) (cu 0 cP (ak (aj 0) (ak (eC (.int 4)) ao)))) (gN 1)) (aC (bL (aq aN (eC (.int 1)) (cu 0 cP (ak (aj 0) (ak (eC (.int 12)) ao)))) (gN 2)) (aW (fO [none,some 2,some 0] (iG (ak (aj 1) ao)) (gN 0) d8 (fO [none,some 2] (iG (ak (aj 1) ao)) (gN 0) d8 (cu 0 j5 (ak (aj 1) ao)))))))
def tW:FR:=fX 3 0 Q5
noncomputable def Q6:SF:=(aC (bL (cu 0 cP (ak (aj 0) (ak (eC (.int 6)) ao))) (gN 1)) (aC (bM (bY (aq bf (aj 1) (eC (.int 2)))) (aW (aq aB (fU [.tup [.int 0,.int 1],.tup [.int 1,.int 1]]) (aj 1))) bV) (aC (bL (cu 0 cP (ak (aj 0) (ak (aq aB (fU [.int 4,.int 13,.int 100,.int 1000000000000]) (aq bA (aj 1) (eC (.int 2)))) ao))) (gN 2)) (aW (cJ lX (ak (aj 2) (ak (aq aN (eC (.int 1)) (cu 0 cP (ak (aj 0) (ak (aq aB (fU [.int 4,.int 12,.int 99,.int 999999999999]) (aq bA (aj 1) (eC (.int 2)))) ao)))) ao)))))))
def lY:FR:=fX 3 0 Q6
noncomputable def Q7:SF:=(aC (bL (cu 0 cP (ak (aj 0) (ak (eC (.int 8)) ao))) (gN 2)) (aC (bM (bY (aq bf (aj 2) (eC (.int 3)))) (aW (jj (ak (eC (.str "shares")) (ak (fO [none,some 0] (iG (ak (aj 1) ao)) (gN 0) d8 (cu 0 lY (ak (aj 1) ao))) ao)))) bV) (aC (bM (bY (aq bf (aj 2) (eC (.int 5)))) (aW (jj (ak (eC (.str "middle")) (ak (aq aN (eC (.int 1)) (cu 0 cP (ak (aj 0) (ak (aj 1) ao)))) ao)))) bV) (aW (aq aB (fU [.tup [.str "least"],.tup [.str "greatest"],.tup [.str "product"]]) (aq bA (aj 2) (eC (.int 5))))))))
def uZ:FR:=fX 3 0 Q7
noncomputable def Ir:SF:=(aC (bM (f9 (eE (dN (gJ .tuple (aj 0)))) (bY (aq bQ (bw (g1 aJ) (ak (aj 0) ao)) (eC (.int 2))))) (aW (eC (.bl false))) bV) (aC (bM (f9 (eE (dN (cJ lG (ak (aq aB (aj 0) (eC (.int 0))) ao)))) (f9 (eE (dN (cJ lG (ak (aq aB (aj 0) (eC (.int 1))) ao)))) (bY (aq bf (aq aB (aj 0) (eC (.int 1))) (eC (.int 1)))))) (aW (eC (.bl false))) bV) (aW (jw (aq cN (eC (.int 0)) (aq aB (aj 0) (eC (.int 0)))) (jw (aq cN (aq aB (aj 0) (eC (.int 0))) (aq aB (aj 0) (eC (.int 1)))) (aq aM (cJ pK (ak (aq aB (aj 0) (eC (.int 0))) (ak (aq aB (aj 0) (eC (.int 1))) ao))) (eC (.int 1))))))))
def qD:FP:=cG 1 Ir
noncomputable def Iu:SF:=(aC (bM (f9 (eE (dN (gJ .list (aj 0)))) (bY (aq (cM not) (bw (g1 aJ) (ak (aj 0) ao)) (fU [.int 1,.int 2,.int 3,.int 4])))) (aW (eC (.bl false))) bV) (aC (iW (jN (fV (aj 0)) (gN 1) (aC (bM (f9 (eE (dN (gJ .list (aj 1)))) (f9 (bY (aq bf (bw (g1 aJ) (ak (aj 1) ao)) (eC (.int 1)))) (f9 (bY (aq bR (bw (g1 aJ) (ak (aj 1) ao)) (eC (.int 12)))) (bY (aq bQ (bw (g1 aJ) (ak (aj 1) ao)) (bw (g1 aJ) (ak (aq aB (aj 0) (eC (.int 0))) ao))))))) (aW (eC (.bl false))) bV) (bM (eE (dN (bw (g1 cZ) (ak (fO [none] (fV (aj 1)) (gN 0) d8 (cJ qD (ak (aj 0) ao))) ao)))) (aW (eC (.bl false))) bV)))) (aW (eC (.bl true)))))
def rR:FP:=cG 2 Iu
noncomputable def Q8:SF:=(aC (bL (fU [.tup [.int 3,.int 2],.tup [.int (-1),.int 2],.tup [.int 2,.int 4],.tup [.int 0,.int 2],.tup [.int 1,.int 0],.tup [.int 0,.int 0],.tup [.int 1,.int (-1)],.tup [.bl true,.int 1],.tup [.int 1,.bl true],.tup [.int 0],.tup [.int 1,.int 2,.int 3],.tup []]) (gN 1)) (aC (bL (aq aN (aj 1) (fU [.lst [.int 1,.int 2],.int 1,.int 0,.non,.str "1/2",.bl true,.tup [.tup [.int 0,.int 1],.tup [.int 1,.int 1]],.tup [.int 1000000000000,.int 1000000000000],.tup [.str "0",.int 1],.tup [.non,.int 1],.lst []])) (gN 1)) (aW (aq aB (aj 1) (cu 0 cP (ak (aj 0) (ak (eC (.int 23)) ao)))))))
def xH:FR:=fX 2 0 Q8
noncomputable def Q9:SF:=(aC (tO 2 [none] (fV (aj 0)) (gN 0) d8 (bw (g1 bG) (ak (aj 0) ao))) (aC (bL (cu 0 cP (ak (aj 1) (ak (eC (.int 12)) ao))) (gN 3)) (aC (bL (cu 0 cP (ak (aj 1) (ak (bw (g1 aJ) (ak (aj 0) ao)) ao))) (gN 4)) (aC (bL (cu 0 cP (ak (aj 1) (ak (bw (g1 aJ) (ak (aq aB (aj 0) (eC (.int 0))) ao)) ao))) (gN 5)) (aC (bM (bY (aq aM (aj 3) (eC (.int 0)))) (m7 2 (aW (aq aB (fK (ak (fK ao) (ak (bw (g1 bN) (ak (aj 2) ao)) (ak (aq aB (aj 2) (eC (.int 0))) (ak (eC .non) (ak (eC (.str "1 1/2")) (ak (eC (.bl true)) (ak (eC (.int 7)) (ak (fU [.lst []]) (ak (fU [.lst [],.lst []]) ao)))))))))) (cu 0 cP (ak (aj 1) (ak (eC (.int 9)) ao)))))) bV) (aC (bM (bY (aq aM (aj 3) (eC (.int 1)))) (m7 2 (aW (aq aN (aj 2) (fO [none,some 2] (iG (ak (aq aN (eC (.int 1)) (cu 0 cP (ak (aj 1) (ak (eC (.int 4)) ao)))) ao)) (gN 0) d8 (bw (g1 bG) (ak (aq aB (aj 1) (eC (.int 0))) ao)))))) bV) (aC (bM (bY (aq aM (aj 3) (eC (.int 2)))) (m7 2 (zR 2 (aW (fO [none,some 5] (fV (aj 2)) (gN 0) d8 (o8 (aq cO (aj 0) (eC (.int 13))) oZ (o7 (aq aN (eC (.int 12)) (aq bD (aj 1) (eC (.int 2)))))))))) bV) (aC (bM (bY (aq aM (aj 3) (eC (.int 3)))) (uR 2 (jZ 4) rN (jZ 5)) bV) (aC (bM (bY (aq aM (aj 3) (eC (.int 4)))) (uR 2 (jZ 4) rC (Ai 2 (jZ 4) (jZ 5))) bV) (aC (bM (bY (aq aM (aj 3) (eC (.int 5)))) (m7 2 (wF 2 (aj 4) (aq aB (fK (ak (bw (g1 bN) (ak (aq aB (aj 2) (aj 4)) ao)) (ak (eC .non) (ak (aq aB (aq aB (aj 2) (aj 4)) (eC (.int 0))) (ak (fK (ak (aq aB (aj 2) (aj 4)) ao)) (ak (eC (.str "1")) ao)))))) (cu 0 cP (ak (aj 1) (ak (eC (.int 5)) ao)))))) bV) (aC (bM (qX (bY (aq bR (aj 3) (eC (.int 5)))) (bY (aq bf (aj 3) (eC (.int 11))))) (Aj 2 (jZ 4) (jZ 5) (cu 0 xH (ak (aj 1) ao))) bV) (m7 2 (aW (aj 2))))))))))))))
def oh:FR:=fX 6 1 Q9
noncomputable def Iv:SF:=(aC (bM (f9 (eE (dN (gJ .tuple (aj 0)))) (bY (aq bQ (bw (g1 aJ) (ak (aj 0) ao)) (eC (.int 2))))) (aW (eC (.bl false))) bV) (aC (bM (f9 (eE (dN (cJ lG (ak (aq aB (aj 0) (eC (.int 0))) ao)))) (eE (dN (cJ lG (ak (aq aB (aj 0) (eC (.int 1))) ao))))) (aW (eC (.bl false))) bV) (aW (jw (aq dw (aq aB (aj 0) (eC (.int 0))) (eC (.int 0))) (jw (aq bR (aq aB (aj 0) (eC (.int 1))) (eC (.int 0))) (aq aM (cJ pK (ak (aq aB (aj 0) (eC (.int 0))) (ak (aq aB (aj 0) (eC (.int 1))) ao))) (eC (.int 1))))))))
def rT:FP:=cG 1 Iv
noncomputable def aaX:SF:=(aC (bM (f9 (eE (dN (gJ .tuple (aj 0)))) (f9 (bY (aq (cM not) (bw (g1 aJ) (ak (aj 0) ao)) (fU [.int 1,.int 2]))) (eE (dN (gJ .str (aq aB (aj 0) (eC (.int 0)))))))) (aW (eC (.bl false))) bV) (aC (bM (bY (aq aM (bw (g1 aJ) (ak (aj 0) ao)) (eC (.int 1)))) (aW (aq (cM id) (aq aB (aj 0) (eC (.int 0))) (fU [.str "least",.str "greatest",.str "product"]))) bV) (aC (bM (bY (aq aM (aq aB (aj 0) (eC (.int 0))) (eC (.str "middle")))) (aW (jw (cJ lG (ak (aq aB (aj 0) (eC (.int 1))) ao)) (aq (cM id) (aq aB (aj 0) (eC (.int 1))) (w6 (ak (eC (.int 1)) (ak (aq aN (aj 1) (eC (.int 1))) ao)))))) bV) (aC (bM (f9 (bY (aq bQ (aq aB (aj 0) (eC (.int 0))) (eC (.str "shares")))) (f9 (eE (dN (gJ .list (aq aB (aj 0) (eC (.int 1)))))) (bY (aq bQ (bw (g1 aJ) (ak (aq aB (aj 0) (eC (.int 1))) ao)) (aj 1))))) (aW (eC (.bl false))) bV) (aW (bw (g1 cZ) (ak (fO [none] (fV (aq aB (aj 0) (eC (.int 1)))) (gN 0) d8 (cJ rT (ak (aj 0) ao))) ao)))))))
def tX:FP:=cG 2 aaX
noncomputable def Ra:SF:=(aC (bL (cu 0 cP (ak (aj 2) (ak (eC (.int 8)) ao))) (gN 3)) (aC (bL (fO [none,some 2] (iG (ak (aj 1) ao)) (gN 0) d8 (cu 0 lY (ak (aj 1) ao))) (gN 4)) (aC (bL (cu 0 cP (ak (aj 2) (ak (aj 1) ao))) (gN 5)) (aC (bL (fU [.tup [.int (-1),.int 2],.tup [.int 2,.int 4],.tup [.int 1,.int 0],.tup [.bl true,.int 1],.lst [.int 1,.int 2],.non,.int 1,.str "1",.tup [.int 1,.int 2,.int 3],.tup [.int 5,.int 3]]) (gN 6)) (aC (bL (aq aB (aj 6) (cu 0 cP (ak (aj 2) (ak (eC (.int 10)) ao)))) (gN 6)) (aC (bM (bY (aq bf (aj 3) (eC (.int 3)))) (aW (jj (ak (eC (.str "shares")) (ak (aq aN (aq aN (o8 (aj 4) oZ (o7 (aj 5))) (aq cO (fK (ak (aj 6) ao)) (aq aB (fU [.int 1,.int 2,.int 1]) (aj 3)))) (o8 (aj 4) (o7 (aq aN (aj 5) (aq aB (fU [.int 1,.int 1,.int 0]) (aj 3)))) oZ)) ao)))) bV) (aC (bM (bY (aq aM (aj 3) (eC (.int 3)))) (aW (jj (ak (eC (.str "shares")) (ak (aq aB (fK (ak (bw (g1 bN) (ak (aj 4) ao)) (ak (aq aB (aj 4) (eC (.int 0))) (ak (eC .non) (ak (jj ao) (ak (eC (.str "1")) ao)))))) (cu 0 cP (ak (aj 2) (ak (eC (.int 5)) ao)))) ao)))) bV) (aC (bM (bY (aq aM (aj 3) (eC (.int 4)))) (aC (bL (fK (ak (eC (.int 0)) (ak (aq aN (aj 1) (eC (.int 1))) (ak (aq bA (eC (.int 0)) (eC (.int 1))) (ak (eC (.bl true)) (ak (eC .non) (ak (eC (.str "1")) (ak (eC (.tup [.int 1,.int 1])) (ak (fU [.int 1]) (ak (aq dz (eC (.int 10)) (eC (.int 50))) ao)))))))))) (gN 7)) (aW (jj (ak (eC (.str "middle")) (ak (aq aB (aj 7) (cu 0 cP (ak (aj 2) (ak (eC (.int 9)) ao)))) ao))))) bV) (aC (bM (bY (aq aM (aj 3) (eC (.int 5)))) (aW (aq aN (aj 0) (aq aB (fK (ak (eC (.tup [.int 1])) (ak (eC (.tup [.non])) (ak (eC (.tup [.lst []])) (ak (jj (ak (aj 4) ao)) ao))))) (cu 0 cP (ak (aj 2) (ak (eC (.int 4)) ao)))))) bV) (aC (bM (bY (aq aM (aj 3) (eC (.int 6)))) (aC (bL (fU [.tup [.str "most"],.tup [.str "least "],.tup [.str "Least"],.tup [.str "shares"],.tup [.str "middle"],.tup [],.tup [.str ""],.tup [.int 0]]) (gN 7)) (aW (aq aB (aj 7) (cu 0 cP (ak (aj 2) (ak (eC (.int 8)) ao)))))) bV) (aW (aq aB (fK (ak (bw (g1 bG) (ak (aj 0) ao)) (ak (aq aB (aj 0) (eC (.int 0))) (ak (eC .non) (ak (eC (.bl true)) (ak (eC (.int 3)) (ak (fK ao) (ak (jj (ak (aj 0) ao)) (ak (fK (ak (aj 0) ao)) ao))))))))) (cu 0 cP (ak (aj 2) (ak (eC (.int 8)) ao)))))))))))))))
def rW:FR:=fX 8 2 Ra
noncomputable def aaY:SF:=(aC (bL (eC .non) (gN 3)) (aC (bL (eC .non) (gN 4)) (aC (pF ["NoBook", "NoRule"] 5 (bM (dN (aj 0)) (bL (cJ lF (ak (aj 1) ao)) (gN 3)) (bL (cJ jo (ak (aj 1) (ak (aj 2) ao))) (gN 3))) (bL (aj 5) (gN 4))) (aW (jj (ak (aj 3) (ak (aj 4) ao)))))))
def qF:FP:=cG 6 aaY
noncomputable def Rf:SF:=(aC (bL (bw (g1 kE) (ak (aj 1) ao)) (gN 3)) (aC (bL (cJ qF (ak (aj 0) (ak (aj 1) (ak (aj 2) ao)))) (gT 2 (jX (gN 4) (jX (gN 5) o9)))) (aC (bM (bY (aq bQ (bw (g1 kE) (ak (aj 1) ao)) (aj 3))) (aW (eC (.bl false))) bV) (aC (bM (qX (dN (aj 0)) (eE (dN (cJ rR (ak (aj 1) ao))))) (aW (cJ n8 (ak (aj 5) (ak (eC (.str "NoBook")) ao)))) bV) (aC (bM (qX (eE (dN (aj 0))) (eE (dN (cJ tX (ak (aj 1) (ak (aj 2) ao)))))) (aW (cJ n8 (ak (aj 5) (ak (eC (.str "NoRule")) ao)))) bV) (aW (jw (aq (sV id) (aj 5) (eC .non)) (gJ .str (aj 4)))))))))
def lH:FP:=cG 6 Rf
noncomputable def Rg:SF:=(aC (iW (jN (iG (ak (bw (g2 dM) (ak (bw (g2 dJ) (ak (bw (g1 aJ) (ak (aj 0) ao)) (ak (eC (.int 30)) ao))) (ak (eC (.int 1)) ao))) ao)) (gN 1) (aC (zO 2 (cJ qz (ak (aj 0) (ak (aj 1) ao)))) (aC (bL (cu 0 tW (ak (aj 2) ao)) (gN 3)) (aC (bL (aq aN (eC (.int 1)) (cu 0 cP (ak (aj 2) (ak (eC (.int 4)) ao)))) (gN 4)) (aC (bL (cu 0 uZ (ak (aj 2) (ak (aj 4) ao))) (gN 5)) (aC (bL (fK (ak (cJ lF (ak (aj 3) ao)) (ak (cJ jo (ak (aj 5) (ak (aj 4) ao))) ao))) (gN 6)) (aC (bM (f9 (eE (dN (cJ lH (ak (eC (.bl true)) (ak (cu 1 oh (ak (aj 3) (ak (aj 2) ao))) (ak (aj 4) ao)))))) (eE (dN (cJ lH (ak (eC (.bl true)) (ak (cu 1 oh (ak (aj 3) (ak (aj 2) ao))) (ak (aj 4) ao))))))) (aW (eC (.bl false))) bV) (aC (jN (fV (fK (ak (aj 5) (ak (cu 2 rW (ak (aj 5) (ak (aj 4) (ak (aj 2) ao)))) (ak (cu 2 rW (ak (aj 5) (ak (aj 4) (ak (aj 2) ao)))) ao))))) (gN 7) (bM (f9 (eE (dN (cJ lH (ak (eC (.bl false)) (ak (aj 7) (ak (aj 4) ao)))))) (eE (dN (cJ lH (ak (eC (.bl false)) (ak (aj 7) (ak (aq aN (eC (.int 1)) (aq bD (aj 4) (eC (.int 4)))) ao))))))) (aW (eC (.bl false))) bV)) (bM (bY (aq bQ (fK (ak (cJ lF (ak (aj 3) ao)) (ak (cJ jo (ak (aj 5) (ak (aj 4) ao))) ao))) (aj 6))) (aW (eC (.bl false))) bV)))))))))) (aW (eC (.bl true))))
def xJ:FP:=cG 8 Rg
end K71
end
section
namespace K71
open PySem L2 BH
local macro_rules | `(tactic| walk_at "1")=>`(tactic| exact λ_ _ _ _ _ _ us hl=>match us,hl with | [_],_=>by kernel_rfl)
local macro_rules | `(tactic| walk_at "2")=>`(tactic| exact λ_ _ _ _ _ _ us hl=>match us,hl with | [_,_],_=>by kernel_rfl)
local macro_rules | `(tactic| walk_at "3")=>`(tactic| exact λ_ _ _ _ _ _ us hl=>match us,hl with | [_,_,_],_=>by kernel_rfl)
local macro_rules | `(tactic| walk_at "s")=>`(tactic| first|refine rK (by assumption) ?_ ?_|(refine YC (by assumption) ?_; exact O1 (iV _) (O1 (iV _) YB)))
local macro_rules | `(tactic| walk_at "s")=>`(tactic| with_reducible first|exact bK _|refine cU ?_ ?_|exact fD|refine iH ?_|exact kJ|exact fJ _|refine gw ?_ ?_|exact iV _|exact jl|refine iI (by assumption) ?_ ?_|refine jF ?_|refine lU (js:=?_) ?_ ?_ ?_|refine GC (by assumption) (by assumption) ?_ ?_|refine wM (by assumption) (by assumption) ?_ ?_|refine ZQ ?_|refine ZP ?_ ?_|exact ZM|exact Ac|exact zK|refine Oo ?_ ?_|exact sO _|exact tH (by assumption)|exact aak (by assumption)|refine aaH (js:=?_) (by assumption) ?_ ?_ (λ_ _ _=>?_) (λ_ _ _=>?_) ?_ (by decide)|exact Gv (by assumption) (by assumption)|refine Yn ?_ ?_ ?_|refine wz (by assumption) _ ?_|refine oY ?_|exact v8|refine Ym ?_|refine Ox (by assumption) ?_ ?_ ?_|exact nQ _|refine Og ?_|refine wZ ?_ ?_|exact Hv|refine O3 ?_|refine tB (by assumption) ?_|exact Oq|refine Ov ?_|exact rM (by decide)|refine YF ?_|refine YJ (js:=?_) ?_ ?_ ?_ ?_|refine jG ?_ ?_ ?_|exact jE|refine aaG (by assumption) (λ_ _ _=>?_)|refine YD _ ?_|refine Y4 _ _ ?_|refine O5 _ ?_ ?_|refine YH _ ?_ ?_|refine Om ?_ ?_|refine nT ?_|refine sX ?_ ?_|refine jD ?_|refine aaF (by assumption) ?_|refine Z1 (by assumption) ?_|refine pC (by assumption) ?_ ?_|refine Ad (by assumption) ?_|refine PN (by assumption) ?_ ?_ ?_ ?_ ?_ ?_ ?_|refine ZV (by assumption) ?_ ?_|refine x_eq (by assumption) ?_ ?_|refine Hw ?_ _|refine Hu ?_|refine x_ge (by assumption) ?_ ?_|refine PL (by assumption) ?_ ?_|refine Gx (by assumption) ?_ ?_|refine ZX (by assumption) ?_ ?_|refine aaL (by assumption) ?_ ?_|refine Z0 (by assumption) ?_ ?_|refine x_len (by assumption) ?_|refine Gy (by assumption) ?_|refine x_lt (by assumption) ?_ ?_|refine Z5 (by assumption) ?_|refine Z4 (by assumption) ?_|refine PJ (by assumption) ?_ ?_|refine PB (by assumption) ?_ ?_|refine Gw (by assumption) ?_ ?_|refine PK (by assumption) ?_ ?_|refine ZW (by assumption) ?_ ?_|refine Z2 (by assumption) ?_|refine ZS (by assumption) ?_ ?_|refine Gz (by assumption) ?_)
local macro_rules | `(tactic| walk_at "t")=>`(tactic| ((try dsimp only[mJ]); repeat' walk_at "s"))
section
variable {P:Program}{w:World}{K:FZ}{mg:Str->Option Value}{base:Heap}{cl:Str->Addr}
theorem aaZ(a:At K mg "_law_asked" Il) (M:Nm mg) (XT:iY K) (XC:Hh K cl (["NoBook", "NoRule"]:List Str)) {xK:Addr} (rY:Cg K mg "HeadError" xK) (Bq:bJ P w K mg base 7 "shown_book" (["book"]:List Str) (c7 K cl 1 lF)) (Br:bJ P w K mg base 5 "shown_rule" (["rule", "many"]:List Str) (c7 K cl 2 jo)):bJ P w K mg base 8 "_law_asked" (["_law_of_book", "_law_thing", "_law_many"]:List Str) (c7 K cl 3 qF):=by
 have S:=fS (["_law_of_book", "_law_thing", "_law_many", "_law_found", "_law_caught", "e"]:List Str) (["_law_of_book", "_law_thing", "_law_many"]:List Str) (cY Il)
 exact a.iz S (cl:=cl) (by decide) (by walk_at "3") (λf cdv A outer s H E hr=>⟨_,(bC (fG 3 S.nd pW) (bC (fG 4 S.nd pW) (bC (WX (j:=5) rfl S.nd rfl rfl (Fd (WQ (fZ (au 0) (by intro _; rfl)) (Fd (Nq (i:=3) S.nd rfl (Or.inl rfl) (NZ (Bq.mono (by decide)) hr (aA (au 1) aH)))) (Fd (Nq (i:=3) S.nd rfl (Or.inl rfl) (NZ (Br.mono (by decide)) hr (aA (au 1) (aA (au 2) aH))))))) rY.2 (λe=>(bO (fG 4 S.nd (au 5))))) (bO (cQ (nA (aA (au 3) (aA (au 4) aH)))))))),λt hK hx=>(gw (lU v8 (iV 3) jl) (gw (lU v8 (iV 4) jl) (gw (aaE hK XT XC rY.1 (aaD (aaM (Aq 0)) (nR hK (bK 0)) (Qu 3 (Qt hK (Hg (Aq 1) Qs) (iH kJ) (cU (bK 1) fD))) (Qu 3 (Qt hK (Hg (Aq 1) (Hg (Aq 2) Qs)) (iH (iH kJ)) (cU (bK 1) (cU (bK 2) fD))))) (λt1 h1 k1=>(lU (bK 5) (iV 4) jl))) (jF (Og (cU (bK 3) (cU (bK 4) fD)))))))⟩)
theorem aa0(a:At K mg "_law_bent" uX) (M:Nm mg) (gj:bJ P w K mg base 1 "_law_take" (["_law_pile_here", "_law_size"]:List Str) (gW K 2 0 cP)) (aa1:bJ P w K mg base 2 "_law_odd" (["_law_pile_here"]:List Str) (gW K 1 0 xH)):bJ P w K mg base 3 "_law_bent" (["_law_book_here", "_law_pile_here"]:List Str) (gW K 2 1 oh):=by
 have S:=fS (["_law_book_here", "_law_pile_here", "_law_found", "_law_way", "_law_at", "_law_thing"]:List Str) (["_law_book_here", "_law_pile_here"]:List Str) (cY uX)
 exact a.rE 1 S (cl:=λ_=>0) (by decide) (by walk_at "2") (λf cdv A outer s H E hr=>⟨_,(bC (Dj (i:=2) S.nd rfl (Or.inr rfl) (lu (sc:=cY uX) (No:=(["_law_book_here", "_law_pile_here", "_law_found", "_law_way", "_law_at", "_law_thing"]:List Str)) (N:=(["_law_worths"]:List Str)) (src:=[none]) (g:=(iy 0)) rfl rfl ⟨by rfl,by decide +kernel,by decide +kernel,by decide +kernel,by rfl,by decide +kernel⟩ rfl (mO (au 0)) (λC s H ex=>(gY 0 (show List.Nodup (["_law_worths"]:List Str) by decide +kernel))) (λC s H ex=>(qt DX M.pI (aA (au 0) aH))))) (bC (fG 3 S.nd (pc1 (E:=E) gj hr d7 (aA (au 1) (aA aL aH)))) (bC (fG 4 S.nd (pc1 (E:=E) gj hr d7 (aA (au 1) (aA (gD jk M.jm (aA (au 0) aH)) aH)))) (bC (Qe 5 S.nd rfl (pc1 (E:=E) gj hr d7 (aA (au 1) (aA (gD jk M.jm (aA (dB (au 0) aL) aH)) aH)))) (bC (dZ (fB (iM hr.units) (au 3) aL (dI _)) (bO (cQ (dB (jd (aA (jd aH) (aA (qt DY M.rQ (aA (fL 2) aH)) (aA (dB (fL 2) aL) (aA pW (aA iC (aA gC (aA aL (aA (jx (G:=aG K) (Ts:=[.lst []]) (by kernel_rfl)) (aA (jx (G:=aG K) (Ts:=[.lst [],.lst []]) (by kernel_rfl)) aH)))))))))) (pc1 (E:=E) gj hr d7 (aA (au 1) (aA aL aH)))))) dY) (bC (dZ (fB (iM hr.units) (au 3) aL (dI _)) (bO (cQ (dh gO (fL 2) (lu (sc:=cY uX) (No:=(["_law_book_here", "_law_pile_here", "_law_found", "_law_way", "_law_at", "_law_thing"]:List Str)) (N:=(["_law_k", "_law_found"]:List Str)) (src:=[none,some 2]) (g:=(iy 0)) rfl rfl ⟨by rfl,by decide +kernel,by decide +kernel,by decide +kernel,by rfl,by decide +kernel⟩ rfl (tK M.rP (aA (dh gO aL (pc1 (E:=E) gj hr d7 (aA (au 1) (aA aL aH)))) aH)) (λC s H ex=>(gY 0 (show List.Nodup (["_law_k", "_law_found"]:List Str) by decide +kernel))) (λC s H ex=>(qt DX M.pI (aA (vO vP (fL 1) aL (λ_ _=>rfl)) aH))))))) dY) (bC (dZ (fB (iM hr.units) (au 3) aL (dI _)) (bO (cQ (lu (sc:=cY uX) (No:=(["_law_book_here", "_law_pile_here", "_law_found", "_law_way", "_law_at", "_law_thing"]:List Str)) (N:=(["_law_worths", "_law_thing"]:List Str)) (src:=[none,some 5]) (g:=(iy 0)) rfl rfl ⟨by rfl,by decide +kernel,by decide +kernel,by decide +kernel,by rfl,by decide +kernel⟩ rfl (mO (fL 2)) (λC s H ex=>(gY 0 (show List.Nodup (["_law_worths", "_law_thing"]:List Str) by decide +kernel))) (λC s H ex=>(DK FN (dh oW (au 0) aL) Dz (DG (dh gO aL (dh pZ (fL 1) aL)))))))) dY) (bC (dZ (fB (iM hr.units) (au 3) aL (dI _)) (bO (psE (yX PySem.F.plainAttrs_list PySem.F.slot_list_pop PySem.F.type_list_pop V8 (dB (fL 2) (au 4)) (nu (fL 5) aH)))) dY) (bC (dZ (fB (iM hr.units) (au 3) aL (dI _)) (bO (psE (yX PySem.F.plainAttrs_list PySem.F.slot_list_append PySem.F.type_list_append Mx (dB (fL 2) (au 4)) (nu (vO vP (dB (fL 2) (au 4)) (fL 5) (λ_ _=>rfl)) aH)))) dY) (bC (dZ (fB (iM hr.units) (au 3) aL (dI _)) (bO (sE (dB (jd (aA (qt DY M.rQ (aA (dB (fL 2) (au 4)) aH)) (aA pW (aA (dB (dB (fL 2) (au 4)) aL) (aA (jd (aA (dB (fL 2) (au 4)) aH)) (aA iC aH)))))) (pc1 (E:=E) gj hr d7 (aA (au 1) (aA aL aH)))) (Di (fL 2) (au 4) set_list))) dY) (bC (dZ (PW.pt (Df (fB Du (au 3) aL (dI _)) (Dd (fB (oX hr.units) (au 3) aL (dI _))))) (bO (sE (pc1 (E:=E) aa1 hr d7 (aA (au 1) aH)) (Di (dB (fL 2) (au 4)) (fL 5) set_list))) dY) (bO (cQ (fL 2)))))))))))))),λt hK hx=>(gw (aat 2 (tB hK (bK 0)) (rF (by decide)) (rM (js:=[0]) (by decide)) jl (λt1 h1 k1=>(iV 0)) (λt1 h1 k1=>(Gy (h1.trans hK) (cU (bK 0) fD)))) (gw (lU (rK hK (iH (iH kJ)) (cU (bK 1) (cU (fJ _) fD))) (iV 3) jl) (gw (lU (rK hK (iH (iH kJ)) (cU (bK 1) (cU (x_len hK (cU (bK 0) fD)) fD))) (iV 4) jl) (gw (lU (rK hK (iH (iH kJ)) (cU (bK 1) (cU (x_len hK (cU (iI hK (bK 0) (fJ _)) fD)) fD))) (iV 5) jl) (gw (jG (jD (x_eq hK (bK 3) (fJ _))) (wU 2 (jF (iI hK (oY (cU (oY fD) (cU (Gz hK (cU (bK 2) fD)) (cU (iI hK (bK 2) (fJ _)) (cU v8 (cU (nQ _) (cU (sO _) (cU (fJ _) (cU (tH hK) (cU (tH hK) fD)))))))))) (rK hK (iH (iH kJ)) (cU (bK 1) (cU (fJ _) fD)))))) jE) (gw (jG (jD (x_eq hK (bK 3) (fJ _))) (wU 2 (jF (pC hK (bK 2) (tE (O3 (cU (pC hK (fJ _) (rK hK (iH (iH kJ)) (cU (bK 1) (cU (fJ _) fD)))) fD)) (rF (by decide)) (rM (js:=[0]) (by decide)) jl (λt2 h2 k2=>(iV 0)) (λt2 h2 k2=>(Gy (h2.trans hK) (cU (iI (h2.trans hK) (bK 1) (fJ _)) fD))))))) jE) (gw (jG (jD (x_eq hK (bK 3) (fJ _))) (wU 2 (YG 2 (jF (tE (tB hK (bK 2)) (rF (by decide)) (rM (js:=[0]) (by decide)) jl (λt3 h3 k3=>(iV 0)) (λt3 h3 k3=>(Ox (h3.trans hK) (PB (h3.trans hK) (bK 0) (fJ _)) Oq (Ov (pC (h3.trans hK) (fJ _) (PJ (h3.trans hK) (bK 1) (fJ _)))))))))) jE) (gw (jG (jD (x_eq hK (bK 3) (fJ _))) (Qg hK 2 Z6 Z7 (tL 4) (tL 5)) jE) (gw (jG (jD (x_eq hK (bK 3) (fJ _))) (Qg hK 2 YX YZ (tL 4) (aal hK 2 (tL 4) (tL 5))) jE) (gw (jG (jD (x_eq hK (bK 3) (fJ _))) (wU 2 (O5 2 (iI hK (oY (cU (Gz hK (cU (iI hK (bK 2) (bK 4)) fD)) (cU v8 (cU (iI hK (iI hK (bK 2) (bK 4)) (fJ _)) (cU (oY (cU (iI hK (bK 2) (bK 4)) fD)) (cU (nQ _) fD)))))) (rK hK (iH (iH kJ)) (cU (bK 1) (cU (fJ _) fD)))) (bK 4))) jE) (gw (jG (Om (jD (PL hK (bK 3) (fJ _))) (jD (x_lt hK (bK 3) (fJ _)))) (aam hK 2 (rK hK (iH kJ) (cU (bK 1) fD)) (tL 4) (tL 5)) jE) (wU 2 (jF (bK 2))))))))))))))⟩)
theorem aa2(a:At K mg "_law_book" xq) (M:Nm mg) (gj:bJ P w K mg base 1 "_law_take" (["_law_pile_here", "_law_size"]:List Str) (gW K 2 0 cP)) (aa3:bJ P w K mg base 3 "_law_worth" (["_law_pile_here"]:List Str) (gW K 1 0 j5)):bJ P w K mg base 4 "_law_book" (["_law_pile_here"]:List Str) (gW K 1 0 tW):=by
 have S:=fS (["_law_pile_here", "_law_lists", "_law_many"]:List Str) (["_law_pile_here"]:List Str) (cY xq)
 exact a.rE 0 S (cl:=λ_=>0) (by decide) (by walk_at "1") (λf cdv A outer s H E hr=>⟨_,(bC (fG 1 S.nd (dh gO aL (pc1 (E:=E) gj hr d7 (aA (fL 0) (aA aL aH))))) (bC (Qe 2 S.nd rfl (dh gO aL (pc1 (E:=E) gj hr d7 (aA (fL 0) (aA aL aH))))) (bO (cQ (lu (sc:=cY xq) (No:=(["_law_pile_here", "_law_lists", "_law_many"]:List Str)) (N:=(["_law_j", "_law_many", "_law_pile_here"]:List Str)) (src:=[none,some 2,some 0]) (g:=(iy 0)) rfl rfl ⟨by rfl,by decide +kernel,by decide +kernel,by decide +kernel,by rfl,by decide +kernel⟩ rfl (tK M.rP (aA (au 1) aH)) (λC s H ex=>(gY 0 (show List.Nodup (["_law_j", "_law_many", "_law_pile_here"]:List Str) by decide +kernel))) (λC s H ex=>(lu (sc:=Wg _ (cY xq)) (No:=(["_law_j", "_law_many", "_law_pile_here"]:List Str)) (N:=(["_law_k", "_law_pile_here"]:List Str)) (src:=[none,some 2]) (g:=(iy 0)) rfl rfl ⟨by rfl,by decide +kernel,by decide +kernel,by decide +kernel,by rfl,by decide +kernel⟩ rfl (tK M.rP (aA (fL 1) aH)) (λC s H ex=>(gY 0 (show List.Nodup (["_law_k", "_law_pile_here"]:List Str) by decide +kernel))) (λC s H ex=>(iu aa3 hr (aA (fL 1) aH)))))))))),λt hK hx=>by delta Q5; walk_at "t"⟩)
theorem aa4(a:At K mg "_law_frac" Ib) (M:Nm mg) (xM:bJ P w K mg base 1 "_law_shared" (["_law_one", "_law_other"]:List Str) (c7 K cl 2 pK)):bJ P w K mg base 2 "_law_frac" (["_law_top", "_law_bottom"]:List Str) (c7 K cl 2 lX):=by
 have S:=fS (["_law_top", "_law_bottom", "_law_by"]:List Str) (["_law_top", "_law_bottom"]:List Str) (cY Ib)
 exact a.iz S (cl:=cl) (by decide) (by walk_at "2") (λf cdv A outer s H E hr=>⟨_,(bC (fG 2 S.nd (pc1 (E:=E) xM hr d7 (aA (au 0) (aA (au 1) aH)))) (bC (dZ (fB (oX hr.units) (au 1) aL (dI _)) (bO (fG 2 S.nd (dh pY aL (au 2)))) dY) (bO (cQ (nA (aA (dh Fy (au 0) (au 2)) (aA (dh Fy (au 1) (au 2)) aH))))))),λt hK hx=>by delta xG; walk_at "t"⟩)
theorem aa5(a:At K mg "_law_good" Im) (M:Nm mg) (XT:iY K) (aa6:bJ P w K mg base 8 "_law_asked" (["_law_of_book", "_law_thing", "_law_many"]:List Str) (c7 K cl 3 qF)) (Rh:bJ P w K mg base 1 "_law_only" (["_law_caught", "_law_name"]:List Str) (c7 K cl 2 n8)) (aa7:bJ P w K mg base 3 "_law_is_book" (["_law_thing"]:List Str) (c7 K cl 1 rR)) (aa8:bJ P w K mg base 3 "_law_is_rule" (["_law_thing", "_law_many"]:List Str) (c7 K cl 2 tX)):bJ P w K mg base 9 "_law_good" (["_law_of_book", "_law_thing", "_law_many"]:List Str) (c7 K cl 3 lH):=by
 have S:=fS (["_law_of_book", "_law_thing", "_law_many", "_law_kept", "_law_found", "_law_caught"]:List Str) (["_law_of_book", "_law_thing", "_law_many"]:List Str) (cY Im)
 exact a.iz S (cl:=cl) (by decide) (by walk_at "3") (λf cdv A outer s H E hr=>⟨_,(bC (fG 3 S.nd (qt (Ey hr.gd hr.units) M.xr (aA (au 1) aH))) (bC (sE (pc1 (E:=E) aa6 hr d7 (aA (au 0) (aA (au 1) (aA (au 2) aH)))) (yG rfl (qJ (gY 4 S.nd) (qJ (gY 5 S.nd) yF)))) (bC (dZ (fB (mY hr.units) (qt (Ey hr.gd hr.units) M.xr (aA (au 1) aH)) (au 3) (dI _)) (bO (cQ gC)) dY) (bC (dZ (PW.pt (Df (fZ (au 0) (by intro _; rfl)) (Dd (fY (fZ (pc1 (E:=E) aa7 hr d7 (aA (au 1) aH)) (by intro _; rfl)))))) (bO (cQ (pc1 (E:=E) Rh hr d7 (aA (au 5) (aA iC aH))))) dY) (bC (dZ (PW.pt (Df (fY (fZ (au 0) (by intro _; rfl))) (Dd (fY (fZ (pc1 (E:=E) aa8 hr d7 (aA (au 1) (aA (au 2) aH))) (by intro _; rfl)))))) (bO (cQ (pc1 (E:=E) Rh hr d7 (aA (au 5) (aA iC aH))))) dY) (bO (cQ (mG (jU U8 (au 5) pW (dI _)) (oH (jY XT.o .str (au 4) M.gh M.xr)))))))))),λt hK hx=>by delta Rf; walk_at "t"⟩)
theorem aa9(a:At K mg "_law_is_book" Bg) (M:Nm mg) (XT:iY K) (abb:bJ P w K mg base 2 "_law_is_worth" (["_law_thing"]:List Str) (c7 K cl 1 qD)):bJ P w K mg base 3 "_law_is_book" (["_law_thing"]:List Str) (c7 K cl 1 rR):=by
 have S:=fS (["_law_thing", "_law_worths"]:List Str) (["_law_thing"]:List Str) (cY Bg)
 exact a.iz S (cl:=cl) (by decide) (by walk_at "1") (λf cdv A outer s H E hr=>⟨_,(bC (dZ (PW.pt (jh (fY (fZ (jY XT.o .list (au 0) M.gh M.pI) (by intro _; rfl))) (j8 (fB (N5 hr.units) (gD jk M.jm (aA (au 0) aH)) (jx (G:=aG K) (Ts:=[.int 1,.int 2,.int 3,.int 4]) (by kernel_rfl)) (by with_unfolding_all rfl))))) (bO (cQ gC)) dY) (bC (PS.oJ (yL PassesOwn.never rfl (mO (au 0)) (gY 1 S.nd) (bC (dZ (PW.pt (jh (fY (fZ (jY XT.o .list (au 1) M.gh M.pI) (by intro _; rfl))) (jh (fB (oX hr.units) (gD jk M.jm (aA (au 1) aH)) aL (dI _)) (jh (fB Du (gD jk M.jm (aA (au 1) aH)) aL (dI _)) (j8 (fB (mY hr.units) (gD jk M.jm (aA (au 1) aH)) (gD jk M.jm (aA (dB (au 0) aL) aH)) (dI _))))))) (bO (cQ gC)) dY) (bO (dZ (fY (fZ (gD (uH rfl) M.uY (aA (lu (sc:=cY Bg) (No:=(["_law_thing", "_law_worths"]:List Str)) (N:=(["_law_worth_here"]:List Str)) (src:=[none]) (g:=(iy 0)) rfl rfl ⟨by rfl,by decide +kernel,by decide +kernel,by decide +kernel,by rfl,by decide +kernel⟩ rfl (mO (au 1)) (λC s H ex=>(gY 0 (show List.Nodup (["_law_worth_here"]:List Str) by decide +kernel))) (λC s H ex=>(iu abb hr (aA (au 0) aH)))) aH)) (by intro _; rfl))) (bO (cQ gC)) dY))))) (bO (cQ gC)))),λt hK hx=>by delta Iu; walk_at "t"⟩)
theorem abd(a:At K mg "_law_is_rule" Bh) (M:Nm mg) (XT:iY K) (tY:bJ P w K mg base 1 "_law_whole" (["_law_found"]:List Str) (c7 K cl 1 lG)) (abe:bJ P w K mg base 2 "_law_is_weight" (["_law_thing"]:List Str) (c7 K cl 1 rT)):bJ P w K mg base 3 "_law_is_rule" (["_law_thing", "_law_many"]:List Str) (c7 K cl 2 tX):=by
 have S:=fS (["_law_thing", "_law_many"]:List Str) (["_law_thing", "_law_many"]:List Str) (cY Bh)
 exact a.iz S (cl:=cl) (by decide) (by walk_at "2") (λf cdv A outer s H E hr=>⟨_,(bC (dZ (PW.pt (jh (fY (fZ (jY XT.o .tuple (au 0) M.gh M.rQ) (by intro _; rfl))) (jh (fB (N5 hr.units) (gD jk M.jm (aA (au 0) aH)) (jx (G:=aG K) (Ts:=[.int 1,.int 2]) (by kernel_rfl)) (by with_unfolding_all rfl)) (j8 (fY (fZ (jY XT.o .str (dB (au 0) aL) M.gh M.xr) (by intro _; rfl))))))) (bO (cQ gC)) dY) (bC (dZ (fB (iM hr.units) (gD jk M.jm (aA (au 0) aH)) aL (dI _)) (bO (cQ (jU (El hr.units) (dB (au 0) aL) (jx (G:=aG K) (Ts:=[.str "least",.str "greatest",.str "product"]) (by kernel_rfl)) (by with_unfolding_all rfl)))) dY) (bC (dZ (fB (iM hr.units) (dB (au 0) aL) iC (dI _)) (bO (cQ (mG (pc1 (E:=E) tY hr d7 (aA (dB (au 0) aL) aH)) (oH (jU (El hr.units) (dB (au 0) aL) (aaP hr M.pI M.rP (aA aL (aA (dh gO (au 1) aL) aH))) (by with_unfolding_all rfl)))))) dY) (bC (dZ (PW.pt (jh (fB (mY hr.units) (dB (au 0) aL) iC (dI _)) (jh (fY (fZ (jY XT.o .list (dB (au 0) aL) M.gh M.pI) (by intro _; rfl))) (j8 (fB (mY hr.units) (gD jk M.jm (aA (dB (au 0) aL) aH)) (au 1) (dI _)))))) (bO (cQ gC)) dY) (bO (cQ (gD (uH rfl) M.uY (aA (lu (sc:=cY Bh) (No:=(["_law_thing", "_law_many"]:List Str)) (N:=(["_law_weight_here"]:List Str)) (src:=[none]) (g:=(iy 0)) rfl rfl ⟨by rfl,by decide +kernel,by decide +kernel,by decide +kernel,by rfl,by decide +kernel⟩ rfl (mO (dB (au 0) aL)) (λC s H ex=>(gY 0 (show List.Nodup (["_law_weight_here"]:List Str) by decide +kernel))) (λC s H ex=>(iu abe hr (aA (au 0) aH)))) aH)))))))),λt hK hx=>(gw (jG (sX (nT (nR hK (wz hK .tuple (bK 0)))) (sX (jD (PK hK (x_len hK (cU (bK 0) fD)) (tH hK))) (nT (nR hK (wz hK .str (iI hK (bK 0) (fJ _))))))) (jF (sO _)) jE) (gw (jG (jD (x_eq hK (x_len hK (cU (bK 0) fD)) (fJ _))) (jF (Gx hK (iI hK (bK 0) (fJ _)) (tH hK))) jE) (gw (jG (jD (x_eq hK (iI hK (bK 0) (fJ _)) (nQ _))) (jF (Oo (wM hK hx (iH kJ) (cU (iI hK (bK 0) (fJ _)) fD)) (Gx hK (iI hK (bK 0) (fJ _)) (aaS (cU (fJ _) (cU (pC hK (bK 1) (fJ _)) fD)))))) jE) (gw (jG (sX (jD (Gw hK (iI hK (bK 0) (fJ _)) (nQ _))) (sX (nT (nR hK (wz hK .list (iI hK (bK 0) (fJ _))))) (jD (Gw hK (x_len hK (cU (iI hK (bK 0) (fJ _)) fD)) (bK 1))))) (jF (sO _)) jE) (jF (Ad hK (cU (tE (tB hK (iI hK (bK 0) (fJ _))) (rF (by decide)) (rM (js:=[0]) (by decide)) jl (λt1 h1 k1=>(iV 0)) (λt1 h1 k1=>(GC (h1.trans hK) k1 (iH kJ) (cU (bK 0) fD)))) fD)))))))⟩)
theorem abf(a:At K mg "_law_is_weight" Ik) (M:Nm mg) (XT:iY K) (tY:bJ P w K mg base 1 "_law_whole" (["_law_found"]:List Str) (c7 K cl 1 lG)) (xM:bJ P w K mg base 1 "_law_shared" (["_law_one", "_law_other"]:List Str) (c7 K cl 2 pK)):bJ P w K mg base 2 "_law_is_weight" (["_law_thing"]:List Str) (c7 K cl 1 rT):=by
 have S:=fS (["_law_thing"]:List Str) (["_law_thing"]:List Str) (cY Ik)
 exact a.iz S (cl:=cl) (by decide) (by walk_at "1") (λf cdv A outer s H E hr=>⟨_,(bC (dZ (PW.pt (jh (fY (fZ (jY XT.o .tuple (au 0) M.gh M.rQ) (by intro _; rfl))) (j8 (fB (mY hr.units) (gD jk M.jm (aA (au 0) aH)) aL (dI _))))) (bO (cQ gC)) dY) (bC (dZ (PW.pt (jh (fY (fZ (pc1 (E:=E) tY hr d7 (aA (dB (au 0) aL) aH)) (by intro _; rfl))) (j8 (fY (fZ (pc1 (E:=E) tY hr d7 (aA (dB (au 0) aL) aH)) (by intro _; rfl)))))) (bO (cQ gC)) dY) (bO (cQ (mG (jU yQ (dB (au 0) aL) aL (dI _)) (mG (jU Du (dB (au 0) aL) aL (dI _)) (oH (jU (iM hr.units) (pc1 (E:=E) xM hr d7 (aA (dB (au 0) aL) (aA (dB (au 0) aL) aH))) aL (dI _))))))))),λt hK hx=>by delta Iv; walk_at "t"⟩)
theorem abg(a:At K mg "_law_is_worth" Ii) (M:Nm mg) (XT:iY K) (tY:bJ P w K mg base 1 "_law_whole" (["_law_found"]:List Str) (c7 K cl 1 lG)) (xM:bJ P w K mg base 1 "_law_shared" (["_law_one", "_law_other"]:List Str) (c7 K cl 2 pK)):bJ P w K mg base 2 "_law_is_worth" (["_law_thing"]:List Str) (c7 K cl 1 qD):=by
 have S:=fS (["_law_thing"]:List Str) (["_law_thing"]:List Str) (cY Ii)
 exact a.iz S (cl:=cl) (by decide) (by walk_at "1") (λf cdv A outer s H E hr=>⟨_,(bC (dZ (PW.pt (jh (fY (fZ (jY XT.o .tuple (au 0) M.gh M.rQ) (by intro _; rfl))) (j8 (fB (mY hr.units) (gD jk M.jm (aA (au 0) aH)) aL (dI _))))) (bO (cQ gC)) dY) (bC (dZ (PW.pt (jh (fY (fZ (pc1 (E:=E) tY hr d7 (aA (dB (au 0) aL) aH)) (by intro _; rfl))) (jh (fY (fZ (pc1 (E:=E) tY hr d7 (aA (dB (au 0) aL) aH)) (by intro _; rfl))) (j8 (fB (oX hr.units) (dB (au 0) aL) aL (dI _)))))) (bO (cQ gC)) dY) (bO (cQ (mG (jU oM aL (dB (au 0) aL) (dI _)) (mG (jU oM (dB (au 0) aL) (dB (au 0) aL) (dI _)) (oH (jU (iM hr.units) (pc1 (E:=E) xM hr d7 (aA (dB (au 0) aL) (aA (dB (au 0) aL) aH))) aL (dI _))))))))),λt hK hx=>by delta Ir; walk_at "t"⟩)
theorem abh(a:At K mg "_law_mixed" HW) (M:Nm mg):bJ P w K mg base 1 "_law_mixed" (["_law_cell", "_law_k"]:List Str) (c7 K cl 2 qy):=by
 have S:=fS (["_law_cell", "_law_k", "_law_number"]:List Str) (["_law_cell", "_law_k"]:List Str) (cY HW)
 exact a.iz S (cl:=cl) (by decide) (by walk_at "2") (λf cdv A outer s H E hr=>⟨_,(bC (fG 2 S.nd (dh gO (dh oW (dh pZ (au 0) aL) aL) (dh oW (dh oW aL (au 1)) (au 1)))) (bC (fG 2 S.nd (dh pZ (dh gO (dh gO (au 2) (dh oW aL (au 1))) aL) aL)) (bC (fG 2 S.nd (dh pZ (dh oW (au 2) (au 2)) aL)) (bO (cQ (dh pZ (dh oW (au 2) (dh gO (au 2) aL)) aL)))))),λt hK hx=>by delta Bl; walk_at "t"⟩)
theorem abj(a:At K mg "_law_odd" Ij) (M:Nm mg) (gj:bJ P w K mg base 1 "_law_take" (["_law_pile_here", "_law_size"]:List Str) (gW K 2 0 cP)):bJ P w K mg base 2 "_law_odd" (["_law_pile_here"]:List Str) (gW K 1 0 xH):=by
 have S:=fS (["_law_pile_here", "_law_some"]:List Str) (["_law_pile_here"]:List Str) (cY Ij)
 exact a.rE 0 S (cl:=λ_=>0) (by decide) (by walk_at "1") (λf cdv A outer s H E hr=>⟨_,(bC (fG 1 S.nd (jx (G:=aG K) (Ts:=[.tup [.int 3,.int 2],.tup [.int (-1),.int 2],.tup [.int 2,.int 4],.tup [.int 0,.int 2],.tup [.int 1,.int 0],.tup [.int 0,.int 0],.tup [.int 1,.int (-1)],.tup [.bl true,.int 1],.tup [.int 1,.bl true],.tup [.int 0],.tup [.int 1,.int 2,.int 3],.tup []]) (by kernel_rfl))) (bC (fG 1 S.nd (dh gO (au 1) (jx (G:=aG K) (Ts:=[.lst [.int 1,.int 2],.int 1,.int 0,.non,.str "1/2",.bl true,.tup [.tup [.int 0,.int 1],.tup [.int 1,.int 1]],.tup [.int 1000000000000,.int 1000000000000],.tup [.str "0",.int 1],.tup [.non,.int 1],.lst []]) (by kernel_rfl)))) (bO (cQ (dB (au 1) (pc1 (E:=E) gj hr d7 (aA (au 0) (aA aL aH)))))))),λt hK hx=>by delta Q8; walk_at "t"⟩)
theorem abk(a:At K mg "_law_only" Bc) (M:Nm mg) (XT:iY K) {xK:Addr} (rY:Cg K mg "HeadError" xK) {u5:Addr} (xO:Cg K mg "NoBook" u5) {Iw:Addr} (Bs:Cg K mg "NoBottom" Iw) {Iz:Addr} (Bt:Cg K mg "NoCount" Iz) {IK:Addr} (Bu:Cg K mg "NoLine" IK) {IV:Addr} (Bv:Cg K mg "NoList" IV) {IW:Addr} (Bw:Cg K mg "NoLooks" IW) {u9:Addr} (xP:Cg K mg "NoRule" u9) {Ja:Addr} (Bx:Cg K mg "NoSlack" Ja) {Jb:Addr} (BJ:Cg K mg "NoText" Jb) {Jc:Addr} (BK:Cg K mg "NoThing" Jc) {Jd:Addr} (BL:Cg K mg "NoThings" Jd) {Je:Addr} (BP:Cg K mg "NoWorth" Je) {Jf:Addr} (BR:Cg K mg "NotSure" Jf) {Jg:Addr} (BW:Cg K mg "TooMany" Jg):bJ P w K mg base 1 "_law_only" (["_law_caught", "_law_name"]:List Str) (c7 K cl 2 n8):=by
 have S:=fS (["_law_caught", "_law_name", "_law_found", "_law_names"]:List Str) (["_law_caught", "_law_name"]:List Str) (cY Bc)
 exact a.iz S (cl:=cl) (by decide) (by walk_at "2") (λf cdv A outer s H E hr=>⟨_,(bC (dZ (PW.pt (jh (fY (fZ (lC XT (by decide +kernel) rY.1 rY.2 (au 0) M.gh) (by intro _; rfl))) (j8 (fY (fZ (pcV XT (au 0) M.gh M.aaT) (by intro _; rfl)))))) (bO (cQ gC)) dY) (bC (fG 2 S.nd (jd (aA (lC XT (by decide +kernel) Bs.1 Bs.2 (au 0) M.gh) (aA (lC XT (by decide +kernel) xO.1 xO.2 (au 0) M.gh) (aA (lC XT (by decide +kernel) Bv.1 Bv.2 (au 0) M.gh) aH))))) (bC (fG 2 S.nd (dh gO (au 2) (jd (aA (lC XT (by decide +kernel) xP.1 xP.2 (au 0) M.gh) (aA (lC XT (by decide +kernel) Bt.1 Bt.2 (au 0) M.gh) (aA (lC XT (by decide +kernel) Bw.1 Bw.2 (au 0) M.gh) aH)))))) (bC (fG 2 S.nd (dh gO (au 2) (jd (aA (lC XT (by decide +kernel) BL.1 BL.2 (au 0) M.gh) (aA (lC XT (by decide +kernel) BR.1 BR.2 (au 0) M.gh) (aA (lC XT (by decide +kernel) Bx.1 Bx.2 (au 0) M.gh) aH)))))) (bC (fG 2 S.nd (dh gO (au 2) (jd (aA (lC XT (by decide +kernel) BK.1 BK.2 (au 0) M.gh) (aA (lC XT (by decide +kernel) BP.1 BP.2 (au 0) M.gh) (aA (lC XT (by decide +kernel) BW.1 BW.2 (au 0) M.gh) aH)))))) (bC (fG 2 S.nd (dh gO (au 2) (jd (aA (lC XT (by decide +kernel) BJ.1 BJ.2 (au 0) M.gh) (aA (lC XT (by decide +kernel) Bu.1 Bu.2 (au 0) M.gh) aH))))) (bC (fG 3 S.nd (jx (G:=aG K) (Ts:=[.str "NoBottom",.str "NoBook",.str "NoList",.str "NoRule",.str "NoCount",.str "NoLooks",.str "NoThings",.str "NotSure",.str "NoSlack"]) (by kernel_rfl))) (bC (fG 3 S.nd (dh gO (au 3) (jx (G:=aG K) (Ts:=[.str "NoThing",.str "NoWorth",.str "TooMany",.str "NoText",.str "NoLine"]) (by kernel_rfl)))) (bO (cQ (jU (iM hr.units) (au 2) (lu (sc:=cY Bc) (No:=(["_law_caught", "_law_name", "_law_found", "_law_names"]:List Str)) (N:=(["_law_one", "_law_name"]:List Str)) (src:=[none,some 1]) (g:=(iy 0)) rfl rfl ⟨by rfl,by decide +kernel,by decide +kernel,by decide +kernel,by rfl,by decide +kernel⟩ rfl (mO (au 3)) (λC s H ex=>(gY 0 (show List.Nodup (["_law_one", "_law_name"]:List Str) by decide +kernel))) (λC s H ex=>(jU (iM hr.units) (au 0) (fL 1) (dI _)))) (dI _)))))))))))),λt hK hx=>(gw (jG (sX (nT (nR hK (lD hK (bK 0)))) (nT (nR hK (aaC hK (bK 0))))) (jF (sO _)) jE) (gw (lU (oY (cU (lD hK (bK 0)) (cU (lD hK (bK 0)) (cU (lD hK (bK 0)) fD)))) (iV 2) jl) (gw (lU (pC hK (bK 2) (oY (cU (lD hK (bK 0)) (cU (lD hK (bK 0)) (cU (lD hK (bK 0)) fD))))) (iV 2) jl) (gw (lU (pC hK (bK 2) (oY (cU (lD hK (bK 0)) (cU (lD hK (bK 0)) (cU (lD hK (bK 0)) fD))))) (iV 2) jl) (gw (lU (pC hK (bK 2) (oY (cU (lD hK (bK 0)) (cU (lD hK (bK 0)) (cU (lD hK (bK 0)) fD))))) (iV 2) jl) (gw (lU (pC hK (bK 2) (oY (cU (lD hK (bK 0)) (cU (lD hK (bK 0)) fD)))) (iV 2) jl) (gw (lU (tH hK) (iV 3) jl) (gw (lU (pC hK (bK 3) (tH hK)) (iV 3) jl) (jF (x_eq hK (bK 2) (tE (tB hK (bK 3)) (rF (by decide)) (rM (js:=[0]) (by decide)) jl (λt1 h1 k1=>(iV 0)) (λt1 h1 k1=>(x_eq (h1.trans hK) (bK 0) (bK 1))))))))))))))⟩)
theorem abl(a:At K mg "_law_pile" HX) (M:Nm mg) (abm:bJ P w K mg base 1 "_law_mixed" (["_law_cell", "_law_k"]:List Str) (c7 K cl 2 qy)):bJ P w K mg base 2 "_law_pile" (["_law_script", "_law_k"]:List Str) (c7 K cl 2 qz):=by
 have S:=fS (["_law_script", "_law_k", "_law_cell", "_law_found", "_law_j"]:List Str) (["_law_script", "_law_k"]:List Str) (cY HX)
 exact a.iz S (cl:=cl) (by decide) (by walk_at "2") (λf cdv A outer s H E hr=>⟨_,(bC (fG 2 S.nd aL) (bC (dZ (fB (oX hr.units) (au 1) (gD jk M.jm (aA (au 0) aH)) (dI _)) (bO (fG 2 S.nd (dB (au 0) (au 1)))) dY) (bC (dZ (fB yQ (au 2) (dh vL aL aL) (dI _)) (bO (cQ (jd (aA (dh pY (au 2) (dh vL aL aL)) aH)))) dY) (bC (fG 3 S.nd aL) (bC (PS.oJ (yL PassesOwn.never rfl (tK M.rP (aA aL aH)) (gY 4 S.nd) (bO (fG 3 S.nd (dh gO (dh oW (au 3) aL) (iu abm hr (aA (au 2) (aA (dh gO (dh oW aL (au 1)) (au 4)) aH)))))))) (bO (cQ (jd (aA (au 3) aH))))))))),λt hK hx=>by delta Bm; walk_at "t"⟩)
theorem abn(a:At K mg "_law_rule" Bf) (M:Nm mg) (gj:bJ P w K mg base 1 "_law_take" (["_law_pile_here", "_law_size"]:List Str) (gW K 2 0 cP)) (Jh:bJ P w K mg base 3 "_law_weight" (["_law_pile_here"]:List Str) (gW K 1 0 lY)):bJ P w K mg base 4 "_law_rule" (["_law_pile_here", "_law_many"]:List Str) (gW K 2 0 uZ):=by
 have S:=fS (["_law_pile_here", "_law_many", "_law_way"]:List Str) (["_law_pile_here", "_law_many"]:List Str) (cY Bf)
 exact a.rE 0 S (cl:=λ_=>0) (by decide) (by walk_at "2") (λf cdv A outer s H E hr=>⟨_,(bC (fG 2 S.nd (pc1 (E:=E) gj hr d7 (aA (fL 0) (aA aL aH)))) (bC (dZ (fB (oX hr.units) (au 2) aL (dI _)) (bO (cQ (nA (aA iC (aA (lu (sc:=cY Bf) (No:=(["_law_pile_here", "_law_many", "_law_way"]:List Str)) (N:=(["_law_k", "_law_pile_here"]:List Str)) (src:=[none,some 0]) (g:=(iy 0)) rfl rfl ⟨by rfl,by decide +kernel,by decide +kernel,by decide +kernel,by rfl,by decide +kernel⟩ rfl (tK M.rP (aA (au 1) aH)) (λC s H ex=>(gY 0 (show List.Nodup (["_law_k", "_law_pile_here"]:List Str) by decide +kernel))) (λC s H ex=>(iu Jh hr (aA (fL 1) aH)))) aH))))) dY) (bC (dZ (fB (oX hr.units) (au 2) aL (dI _)) (bO (cQ (nA (aA iC (aA (dh gO aL (pc1 (E:=E) gj hr d7 (aA (fL 0) (aA (au 1) aH)))) aH))))) dY) (bO (cQ (dB (jx (G:=aG K) (Ts:=[.tup [.str "least"],.tup [.str "greatest"],.tup [.str "product"]]) (by kernel_rfl)) (dh pY (au 2) aL))))))),λt hK hx=>by delta Q7; walk_at "t"⟩)
theorem abo(a:At K mg "_law_rule_bent" Bj) (M:Nm mg) (gj:bJ P w K mg base 1 "_law_take" (["_law_pile_here", "_law_size"]:List Str) (gW K 2 0 cP)) (Jh:bJ P w K mg base 3 "_law_weight" (["_law_pile_here"]:List Str) (gW K 1 0 lY)):bJ P w K mg base 4 "_law_rule_bent" (["_law_rule_here", "_law_many", "_law_pile_here"]:List Str) (gW K 3 2 rW):=by
 have S:=fS (["_law_rule_here", "_law_many", "_law_pile_here", "_law_way", "_law_weights", "_law_at", "_law_odd_here", "_law_some"]:List Str) (["_law_rule_here", "_law_many", "_law_pile_here"]:List Str) (cY Bj)
 exact a.rE 2 S (cl:=λ_=>0) (by decide) (by walk_at "3") (λf cdv A outer s H E hr=>⟨_,(bC (fG 3 S.nd (pc1 (E:=E) gj hr d7 (aA (fL 2) (aA aL aH)))) (bC (Wq (i:=4) (sc:=cY Bj) (No:=(["_law_rule_here", "_law_many", "_law_pile_here", "_law_way", "_law_weights", "_law_at", "_law_odd_here", "_law_some"]:List Str)) (N:=(["_law_k", "_law_pile_here"]:List Str)) (src:=[none,some 2]) (g:=(iy 0)) S.nd rfl (Or.inl rfl) rfl rfl ⟨by rfl,by decide +kernel,by decide +kernel,by decide +kernel,by rfl,by decide +kernel⟩ rfl (tK M.rP (aA (au 1) aH)) (λC s H ex=>(gY 0 (show List.Nodup (["_law_k", "_law_pile_here"]:List Str) by decide +kernel))) (λC s H ex=>(iu Jh hr (aA (fL 1) aH)))) (bC (fG 5 S.nd (pc1 (E:=E) gj hr d7 (aA (fL 2) (aA (au 1) aH)))) (bC (fG 6 S.nd (jx (G:=aG K) (Ts:=[.tup [.int (-1),.int 2],.tup [.int 2,.int 4],.tup [.int 1,.int 0],.tup [.bl true,.int 1],.lst [.int 1,.int 2],.non,.int 1,.str "1",.tup [.int 1,.int 2,.int 3],.tup [.int 5,.int 3]]) (by kernel_rfl))) (bC (fG 6 S.nd (dB (au 6) (pc1 (E:=E) gj hr d7 (aA (fL 2) (aA aL aH))))) (bC (dZ (fB (oX hr.units) (au 3) aL (dI _)) (bO (cQ (nA (aA iC (aA (dh gO (dh gO (DK FN (au 4) Dz (DG (au 5))) (dh oW (jd (aA (au 6) aH)) (dB (jx (G:=aG K) (Ts:=[.int 1,.int 2,.int 1]) (by kernel_rfl)) (au 3)))) (DK FN (au 4) (DG (dh gO (au 5) (dB (jx (G:=aG K) (Ts:=[.int 1,.int 1,.int 0]) (by kernel_rfl)) (au 3)))) Dz)) aH))))) dY) (bC (dZ (fB (iM hr.units) (au 3) aL (dI _)) (bO (cQ (nA (aA iC (aA (dB (jd (aA (qt DY M.rQ (aA (au 4) aH)) (aA (dB (au 4) aL) (aA pW (aA (nA aH) (aA iC aH)))))) (pc1 (E:=E) gj hr d7 (aA (fL 2) (aA aL aH)))) aH))))) dY) (bC (dZ (fB (iM hr.units) (au 3) aL (dI _)) (bC (fG 7 S.nd (jd (aA aL (aA (dh gO (au 1) aL) (aA (dh pY aL aL) (aA gC (aA pW (aA iC (aA (Ah (G:=aG K) (Ts:=[.int 1,.int 1]) (by kernel_rfl)) (aA (jx (G:=aG K) (Ts:=[.int 1]) (by kernel_rfl)) (aA (dh vL aL aL) aH))))))))))) (bO (cQ (nA (aA iC (aA (dB (au 7) (pc1 (E:=E) gj hr d7 (aA (fL 2) (aA aL aH)))) aH)))))) dY) (bC (dZ (fB (iM hr.units) (au 3) aL (dI _)) (bO (cQ (dh gO (au 0) (dB (jd (aA (Ah (G:=aG K) (Ts:=[.int 1]) (by kernel_rfl)) (aA (Ah (G:=aG K) (Ts:=[.non]) (by kernel_rfl)) (aA (Ah (G:=aG K) (Ts:=[.lst []]) (by kernel_rfl)) (aA (nA (aA (au 4) aH)) aH))))) (pc1 (E:=E) gj hr d7 (aA (fL 2) (aA aL aH))))))) dY) (bC (dZ (fB (iM hr.units) (au 3) aL (dI _)) (bC (fG 7 S.nd (jx (G:=aG K) (Ts:=[.tup [.str "most"],.tup [.str "least "],.tup [.str "Least"],.tup [.str "shares"],.tup [.str "middle"],.tup [],.tup [.str ""],.tup [.int 0]]) (by kernel_rfl))) (bO (cQ (dB (au 7) (pc1 (E:=E) gj hr d7 (aA (fL 2) (aA aL aH))))))) dY) (bO (cQ (dB (jd (aA (qt DX M.pI (aA (au 0) aH)) (aA (dB (au 0) aL) (aA pW (aA gC (aA aL (aA (jd aH) (aA (nA (aA (au 0) aH)) (aA (jd (aA (au 0) aH)) aH))))))))) (pc1 (E:=E) gj hr d7 (aA (fL 2) (aA aL aH)))))))))))))))),λt hK hx=>by delta Ra; walk_at "t"⟩)
theorem abp(a:At K mg "_law_shared" Ia) (M:Nm mg):bJ P w K mg base 1 "_law_shared" (["_law_one", "_law_other"]:List Str) (c7 K cl 2 pK):=by
 have S:=fS (["_law_one", "_law_other"]:List Str) (["_law_one", "_law_other"]:List Str) (cY Ia)
 exact a.iz S (cl:=cl) (by decide) (by walk_at "2") (λf cdv A outer s H E hr=>⟨_,(bC (PS.oJ (K7 PassesOwn.never (fB (mY hr.units) (au 1) aL (dI _)) (bO (K5 (i:=0) (j:=1) rfl S.nd rfl rfl (by decide) rfl rfl (aA (au 1) (aA (dh pZ (au 0) (au 1)) aH)) rfl)))) (bO (cQ (gD Li M.QS (aA (au 0) aH))))),λt hK hx=>by delta QZ; walk_at "t"⟩)
theorem abq(a:At K mg "_law_take" HY) (M:Nm mg):bJ P w K mg base 1 "_law_take" (["_law_pile_here", "_law_size"]:List Str) (gW K 2 0 cP):=by
 have S:=fS (["_law_pile_here", "_law_size", "_law_digit"]:List Str) (["_law_pile_here", "_law_size"]:List Str) (cY HY)
 exact a.rE 0 S (cl:=λ_=>0) (by decide) (by walk_at "2") (λf cdv A outer s H E hr=>⟨_,(bC (fG 2 S.nd (dh pZ (dB (au 0) aL) (au 1))) (bC (sE (dh Fy (dB (au 0) aL) (au 1)) (Di (au 0) aL set_list)) (bO (cQ (au 2))))),λt hK hx=>by delta Bo; walk_at "t"⟩)
theorem abr(a:At K mg "_law_weight" Ih) (M:Nm mg) (gj:bJ P w K mg base 1 "_law_take" (["_law_pile_here", "_law_size"]:List Str) (gW K 2 0 cP)) (Ji:bJ P w K mg base 2 "_law_frac" (["_law_top", "_law_bottom"]:List Str) (c7 K cl 2 lX)):bJ P w K mg base 3 "_law_weight" (["_law_pile_here"]:List Str) (gW K 1 0 lY):=by
 have S:=fS (["_law_pile_here", "_law_way", "_law_top"]:List Str) (["_law_pile_here"]:List Str) (cY Ih)
 exact a.rE 0 S (cl:=cl) (by decide) (by walk_at "1") (λf cdv A outer s H E hr=>⟨_,(bC (fG 1 S.nd (pc1 (E:=E) gj hr d7 (aA (au 0) (aA aL aH)))) (bC (dZ (fB (oX hr.units) (au 1) aL (dI _)) (bO (cQ (dB (jx (G:=aG K) (Ts:=[.tup [.int 0,.int 1],.tup [.int 1,.int 1]]) (by kernel_rfl)) (au 1)))) dY) (bC (fG 2 S.nd (pc1 (E:=E) gj hr d7 (aA (au 0) (aA (dB (jx (G:=aG K) (Ts:=[.int 4,.int 13,.int 100,.int 1000000000000]) (by kernel_rfl)) (dh pY (au 1) aL)) aH)))) (bO (cQ (pc1 (E:=E) Ji hr d7 (aA (au 2) (aA (dh gO aL (pc1 (E:=E) gj hr d7 (aA (au 0) (aA (dB (jx (G:=aG K) (Ts:=[.int 4,.int 12,.int 99,.int 999999999999]) (by kernel_rfl)) (dh pY (au 1) aL)) aH)))) aH)))))))),λt hK hx=>by delta Q6; walk_at "t"⟩)
theorem abt(a:At K mg "_law_whole" Ie) (M:Nm mg) (XT:iY K):bJ P w K mg base 1 "_law_whole" (["_law_found"]:List Str) (c7 K cl 1 lG):=by
 have S:=fS (["_law_found"]:List Str) (["_law_found"]:List Str) (cY Ie)
 exact a.iz S (cl:=cl) (by decide) (by walk_at "1") (λf cdv A outer s H E hr=>⟨_,(bO (cQ (mG (jY XT.o .int (au 0) M.gh M.QV) (oH (Kz (jY XT.o .bool (au 0) M.gh M.QT)))))),λt hK hx=>by delta Q0; walk_at "t"⟩)
theorem abu(a:At K mg "_law_worth" Ig) (M:Nm mg) (gj:bJ P w K mg base 1 "_law_take" (["_law_pile_here", "_law_size"]:List Str) (gW K 2 0 cP)) (Ji:bJ P w K mg base 2 "_law_frac" (["_law_top", "_law_bottom"]:List Str) (c7 K cl 2 lX)):bJ P w K mg base 3 "_law_worth" (["_law_pile_here"]:List Str) (gW K 1 0 j5):=by
 have S:=fS (["_law_pile_here", "_law_way", "_law_bottom"]:List Str) (["_law_pile_here"]:List Str) (cY Ig)
 exact a.rE 0 S (cl:=cl) (by decide) (by walk_at "1") (λf cdv A outer s H E hr=>⟨_,(bC (fG 1 S.nd (pc1 (E:=E) gj hr d7 (aA (au 0) (aA aL aH)))) (bC (dZ (fB (oX hr.units) (au 1) aL (dI _)) (bO (cQ (dB (jx (G:=aG K) (Ts:=[.tup [.int 0,.int 1],.tup [.int 1,.int 1]]) (by kernel_rfl)) (au 1)))) dY) (bC (fG 2 S.nd (dB (jx (G:=aG K) (Ts:=[.int 2,.int 3,.int 4,.int 6,.int 12,.int 0]) (by kernel_rfl)) (dh pY (au 1) aL))) (bC (dZ (fB (iM hr.units) (au 2) aL (dI _)) (bO (fG 2 S.nd (dh gO aL (pc1 (E:=E) gj hr d7 (aA (au 0) (aA (dh pY (dh vL aL aL) aL) aH)))))) dY) (bO (cQ (pc1 (E:=E) Ji hr d7 (aA (pc1 (E:=E) gj hr d7 (aA (au 0) (aA (dh gO (au 2) aL) aH))) (aA (au 2) aH))))))))),λt hK hx=>by delta Bp; walk_at "t"⟩)
theorem abv(a:At K mg "are_weights" Az) (M:Nm mg) (XT:iY K) (Jj:bJ P w K mg base 2 "is_fraction" (["thing"]:List Str) (c7 K cl 1 m8)):bJ P w K mg base 3 "are_weights" (["thing", "many"]:List Str) (c7 K cl 2 uV):=by
 have S:=fS (["thing", "many"]:List Str) (["thing", "many"]:List Str) (cY Az)
 exact a.iz S (cl:=cl) (by decide) (by walk_at "2") (λf cdv A outer s H E hr=>⟨_,(bC (dZ (PW.pt (jh (fY (fZ (jY XT.o .list (au 0) M.gh M.pI) (by intro _; rfl))) (j8 (fB (mY hr.units) (gD jk M.jm (aA (au 0) aH)) (au 1) (dI _))))) (bO (cQ gC)) dY) (bO (cQ (gD (uH rfl) M.uY (aA (lu (sc:=cY Az) (No:=(["thing", "many"]:List Str)) (N:=(["part"]:List Str)) (src:=[none]) (g:=(iy 0)) rfl rfl ⟨by rfl,by decide +kernel,by decide +kernel,by decide +kernel,by rfl,by decide +kernel⟩ rfl (mO (au 0)) (λC s H ex=>(gY 0 (show List.Nodup (["part"]:List Str) by decide +kernel))) (λC s H ex=>(mG (iu Jj hr (aA (au 0) aH)) (oH (jU yQ (vO vP (au 0) aL (λ_ _=>rfl)) aL (dI _)))))) aH))))),λt hK hx=>by delta Qy; walk_at "t"⟩)
theorem abw(a:At K mg "are_worths" Ay) (M:Nm mg) (XT:iY K) (abx:bJ P w K mg base 3 "is_worth" (["thing"]:List Str) (c7 K cl 1 qw)):bJ P w K mg base 4 "are_worths" (["thing", "most"]:List Str) (c7 K cl 2 tQ):=by
 have S:=fS (["thing", "most"]:List Str) (["thing", "most"]:List Str) (cY Ay)
 exact a.iz S (cl:=cl) (by decide) (by walk_at "2") (λf cdv A outer s H E hr=>⟨_,(bC (dZ (PW.pt (jh (fY (fZ (jY XT.o .list (au 0) M.gh M.pI) (by intro _; rfl))) (j8 (fY (Lg oM oM aL (gD jk M.jm (aA (au 0) aH)) (au 1)))))) (bO (cQ gC)) dY) (bO (cQ (gD (uH rfl) M.uY (aA (lu (sc:=cY Ay) (No:=(["thing", "most"]:List Str)) (N:=(["part"]:List Str)) (src:=[none]) (g:=(iy 0)) rfl rfl ⟨by rfl,by decide +kernel,by decide +kernel,by decide +kernel,by rfl,by decide +kernel⟩ rfl (mO (au 0)) (λC s H ex=>(gY 0 (show List.Nodup (["part"]:List Str) by decide +kernel))) (λC s H ex=>(iu abx hr (aA (au 0) aH)))) aH))))),λt hK hx=>by delta Hl; walk_at "t"⟩)
theorem aby(a:At K mg "common_divisor" Hz) (M:Nm mg):bJ P w K mg base 1 "common_divisor" (["one", "other"]:List Str) (c7 K cl 2 Av):=by
 have S:=fS (["one", "other"]:List Str) (["one", "other"]:List Str) (cY Hz)
 exact a.iz S (cl:=cl) (by decide) (by walk_at "2") (λf cdv A outer s H E hr=>⟨_,(bC (PS.oJ (K7 PassesOwn.never (fB (mY hr.units) (au 1) aL (dI _)) (bO (K5 (i:=0) (j:=1) rfl S.nd rfl rfl (by decide) rfl rfl (aA (au 1) (aA (dh pZ (au 0) (au 1)) aH)) rfl)))) (bO (cQ (gD Li M.QS (aA (au 0) aH))))),λt hK hx=>by delta Qv; walk_at "t"⟩)
theorem abz(a:At K mg "is_book" xg) (M:Nm mg) {Jk:V} (BX:Gk K mg "MOST_LISTS" Jk (.int 4)) {Jl:V} (BZ:Gk K mg "MOST_THINGS" Jl (.int 12)) (XT:iY K) (abA:bJ P w K mg base 4 "are_worths" (["thing", "most"]:List Str) (c7 K cl 2 tQ)):bJ P w K mg base 5 "is_book" (["thing"]:List Str) (c7 K cl 1 wX):=by
 have S:=fS (["thing"]:List Str) (["thing"]:List Str) (cY xg)
 exact a.iz S (cl:=cl) (by decide) (by walk_at "1") (λf cdv A outer s H E hr=>⟨_,(bC (dZ (PW.pt (jh (fY (fZ (jY XT.o .list (fL 0) M.gh M.pI) (by intro _; rfl))) (j8 (fY (Lg oM oM aL (gD jk M.jm (aA (fL 0) aH)) (GJ BX)))))) (bO (cQ gC)) dY) (bC (dZ (fY (fZ (gD (uH rfl) M.uY (aA (lu (sc:=cY xg) (No:=(["thing"]:List Str)) (N:=(["row"]:List Str)) (src:=[none]) (g:=(iy 0)) rfl rfl ⟨by rfl,by decide +kernel,by decide +kernel,by decide +kernel,by rfl,by decide +kernel⟩ rfl (mO (fL 0)) (λC s H ex=>(gY 0 (show List.Nodup (["row"]:List Str) by decide +kernel))) (λC s H ex=>(iu abA hr (aA (au 0) (aA (GJ BZ) aH))))) aH)) (by intro _; rfl))) (bO (cQ gC)) dY) (bO (cQ (gD (uH rfl) M.uY (aA (lu (sc:=cY xg) (No:=(["thing"]:List Str)) (N:=(["row", "thing"]:List Str)) (src:=[none,some 0]) (g:=(iy 0)) rfl rfl ⟨by rfl,by decide +kernel,by decide +kernel,by decide +kernel,by rfl,by decide +kernel⟩ rfl (mO (fL 0)) (λC s H ex=>(gY 0 (show List.Nodup (["row", "thing"]:List Str) by decide +kernel))) (λC s H ex=>(jU (iM hr.units) (gD jk M.jm (aA (au 0) aH)) (gD jk M.jm (aA (vO vP (fL 1) aL (λ_ _=>rfl)) aH)) (dI _)))) aH)))))),λt hK hx=>(gw (jG (sX (nT (nR hK (wz hK .list (bK 0)))) (nT (jD (PN hK zK zK Ac Ac (fJ _) (x_len hK (cU (bK 0) fD)) (Gv hK BX))))) (jF (sO _)) jE) (gw (jG (nT (nR hK (Ad hK (cU (tE (tB hK (bK 0)) (rF (by decide)) (rM (js:=[0]) (by decide)) jl (λt1 h1 k1=>(iV 0)) (λt1 h1 k1=>(GC (h1.trans hK) k1 (iH (iH kJ)) (cU (bK 0) (cU (Gv (h1.trans hK) BZ) fD))))) fD)))) (jF (sO _)) jE) (jF (Ad hK (cU (tE (tB hK (bK 0)) (rF (by decide)) (rM (js:=[0]) (by decide)) jl (λt2 h2 k2=>(iV 0)) (λt2 h2 k2=>(x_eq (h2.trans hK) (x_len (h2.trans hK) (cU (bK 0) fD)) (x_len (h2.trans hK) (cU (iI (h2.trans hK) (bK 1) (fJ _)) fD))))) fD)))))⟩)
theorem abB(a:At K mg "is_fraction" HB) (M:Nm mg) (XT:iY K) (Ca:bJ P w K mg base 1 "is_whole" (["thing"]:List Str) (c7 K cl 1 pG)) (abC:bJ P w K mg base 1 "common_divisor" (["one", "other"]:List Str) (c7 K cl 2 Av)):bJ P w K mg base 2 "is_fraction" (["thing"]:List Str) (c7 K cl 1 m8):=by
 have S:=fS (["thing", "top", "bottom"]:List Str) (["thing"]:List Str) (cY HB)
 exact a.iz S (cl:=cl) (by decide) (by walk_at "1") (λf cdv A outer s H E hr=>⟨_,(bC (dZ (PW.pt (jh (fY (fZ (jY XT.o .tuple (au 0) M.gh M.rQ) (by intro _; rfl))) (j8 (fB (mY hr.units) (gD jk M.jm (aA (au 0) aH)) aL (dI _))))) (bO (cQ gC)) dY) (bC (sE (au 0) (yG rfl (qJ (gY 1 S.nd) (qJ (gY 2 S.nd) yF)))) (bC (dZ (PW.pt (jh (fY (fZ (pc1 (E:=E) Ca hr d7 (aA (au 1) aH)) (by intro _; rfl))) (j8 (fY (fZ (pc1 (E:=E) Ca hr d7 (aA (au 2) aH)) (by intro _; rfl)))))) (bO (cQ gC)) dY) (bO (cQ (mG (jU yQ (au 2) aL (dI _)) (oH (jU (iM hr.units) (pc1 (E:=E) abC hr d7 (aA (au 1) (aA (au 2) aH))) aL (dI _))))))))),λt hK hx=>by delta Hi; walk_at "t"⟩)
theorem abD(a:At K mg "is_rule" HJ) (M:Nm mg) {Jm:V} (Jo:Gk K mg "BARE_RULES" Jm (.tup [(.tup [(.str "least")]),(.tup [(.str "greatest")]),(.tup [(.str "product")])])) (XT:iY K) (abE:bJ P w K mg base 3 "are_weights" (["thing", "many"]:List Str) (c7 K cl 2 uV)) (Ca:bJ P w K mg base 1 "is_whole" (["thing"]:List Str) (c7 K cl 1 pG)):bJ P w K mg base 4 "is_rule" (["thing", "many"]:List Str) (c7 K cl 2 lW):=by
 have S:=fS (["thing", "many", "word", "rest"]:List Str) (["thing", "many"]:List Str) (cY HJ)
 exact a.iz S (cl:=cl) (by decide) (by walk_at "2") (λf cdv A outer s H E hr=>⟨_,(bC (dZ (fY (fZ (jY XT.o .tuple (au 0) M.gh M.rQ) (by intro _; rfl))) (bO (cQ gC)) dY) (bC (dZ (fB (mY hr.units) (gD jk M.jm (aA (au 0) aH)) aL (dI _)) (bO (cQ (jU (El hr.units) (au 0) (GJ Jo) (by with_unfolding_all rfl)))) dY) (bC (sE (au 0) (yG rfl (qJ (gY 2 S.nd) (qJ (gY 3 S.nd) yF)))) (bC (dZ (fB (iM hr.units) (au 2) iC (dI _)) (bO (cQ (pc1 (E:=E) abE hr d7 (aA (au 3) (aA (au 1) aH))))) dY) (bO (cQ (mG (jU (iM hr.units) (au 2) iC (dI _)) (mG (pc1 (E:=E) Ca hr d7 (aA (au 3) aH)) (oH (Lf oM oM aL (au 3) (au 1))))))))))),λt hK hx=>by delta Qz; walk_at "t"⟩)
theorem abF(a:At K mg "is_whole" Hy) (M:Nm mg) (XT:iY K):bJ P w K mg base 1 "is_whole" (["thing"]:List Str) (c7 K cl 1 pG):=by
 have S:=fS (["thing"]:List Str) (["thing"]:List Str) (cY Hy)
 exact a.iz S (cl:=cl) (by decide) (by walk_at "1") (λf cdv A outer s H E hr=>⟨_,(bO (cQ (mG (jY XT.o .int (au 0) M.gh M.QV) (oH (Kz (jY XT.o .bool (au 0) M.gh M.QT)))))),λt hK hx=>by delta Qw; walk_at "t"⟩)
theorem abG(a:At K mg "is_worth" HD) (M:Nm mg) (Jj:bJ P w K mg base 2 "is_fraction" (["thing"]:List Str) (c7 K cl 1 m8)):bJ P w K mg base 3 "is_worth" (["thing"]:List Str) (c7 K cl 1 qw):=by
 have S:=fS (["thing"]:List Str) (["thing"]:List Str) (cY HD)
 exact a.iz S (cl:=cl) (by decide) (by walk_at "1") (λf cdv A outer s H E hr=>⟨_,(bO (cQ (mG (pc1 (E:=E) Jj hr d7 (aA (au 0) aH)) (oH (Lf oM oM aL (dB (au 0) aL) (dB (au 0) aL)))))),λt hK hx=>by delta Hj; walk_at "t"⟩)
theorem abH(a:At K mg "law" Io) (M:Nm mg) (abI:bJ P w K mg base 2 "_law_pile" (["_law_script", "_law_k"]:List Str) (c7 K cl 2 qz)) (abJ:bJ P w K mg base 4 "_law_book" (["_law_pile_here"]:List Str) (gW K 1 0 tW)) (abK:bJ P w K mg base 4 "_law_rule" (["_law_pile_here", "_law_many"]:List Str) (gW K 2 0 uZ)) (gj:bJ P w K mg base 1 "_law_take" (["_law_pile_here", "_law_size"]:List Str) (gW K 2 0 cP)) (Bq:bJ P w K mg base 7 "shown_book" (["book"]:List Str) (c7 K cl 1 lF)) (Br:bJ P w K mg base 5 "shown_rule" (["rule", "many"]:List Str) (c7 K cl 2 jo)) (Ri:bJ P w K mg base 4 "_law_rule_bent" (["_law_rule_here", "_law_many", "_law_pile_here"]:List Str) (gW K 3 2 rW)) (Cd:bJ P w K mg base 9 "_law_good" (["_law_of_book", "_law_thing", "_law_many"]:List Str) (c7 K cl 3 lH)) (Rj:bJ P w K mg base 3 "_law_bent" (["_law_book_here", "_law_pile_here"]:List Str) (gW K 2 1 oh)):bJ P w K mg base 10 "law" (["_law_script"]:List Str) (c7 K cl 1 xJ):=by
 have S:=fS (["_law_script", "_law_k", "_law_pile_here", "_law_book_here", "_law_many", "_law_rule_here", "_law_first", "_law_thing"]:List Str) (["_law_script"]:List Str) (cY Io)
 exact a.iz S (cl:=cl) (by decide) (by walk_at "1") (λf cdv A outer s H E hr=>⟨_,(bC (PS.oJ (yL PassesOwn.never rfl (tK M.rP (aA (gD (Vc rfl) M.aaU (aA (gD (Vd rfl) M.aaV (aA (gD jk M.jm (aA (au 0) aH)) (aA aL aH))) (aA aL aH))) aH)) (gY 1 S.nd) (bC (fG 2 S.nd (iu abI hr (aA (au 0) (aA (au 1) aH)))) (bC (fG 3 S.nd (iu abJ hr (aA (au 2) aH))) (bC (fG 4 S.nd (dh gO aL (iu gj hr (aA (au 2) (aA aL aH))))) (bC (fG 5 S.nd (iu abK hr (aA (au 2) (aA (au 4) aH)))) (bC (fG 6 S.nd (jd (aA (iu Bq hr (aA (au 3) aH)) (aA (iu Br hr (aA (au 5) (aA (au 4) aH))) aH)))) (bC (dZ (PW.pt (jh (fY (fZ (iu Cd hr (aA gC (aA (iu Rj hr (aA (au 3) (aA (au 2) aH))) (aA (au 4) aH)))) (by intro _; rfl))) (j8 (fY (fZ (iu Cd hr (aA gC (aA (iu Rj hr (aA (au 3) (aA (au 2) aH))) (aA (au 4) aH)))) (by intro _; rfl)))))) (bO (cQ gC)) dY) (bC (yL PassesOwn.never rfl (mO (jd (aA (au 5) (aA (iu Ri hr (aA (au 5) (aA (au 4) (aA (au 2) aH)))) (aA (iu Ri hr (aA (au 5) (aA (au 4) (aA (au 2) aH)))) aH))))) (gY 7 S.nd) (bO (dZ (PW.pt (jh (fY (fZ (iu Cd hr (aA gC (aA (au 7) (aA (au 4) aH)))) (by intro _; rfl))) (j8 (fY (fZ (iu Cd hr (aA gC (aA (au 7) (aA (dh gO aL (dh pZ (au 4) aL)) aH)))) (by intro _; rfl)))))) (bO (cQ gC)) dY))) (bO (dZ (fB (mY hr.units) (jd (aA (iu Bq hr (aA (au 3) aH)) (aA (iu Br hr (aA (au 5) (aA (au 4) aH))) aH))) (au 6) (dI _)) (bO (cQ gC)) dY))))))))))) (bO (cQ gC))),λt hK hx=>by delta Rg; walk_at "t"⟩)
theorem abL(a:At K mg "need_book" HF) (M:Nm mg) (Ce:PyProof.Rows.OwnCls "NoBook" (cl "NoBook") Ae "ValueError.__new__" mg base) (abM:bJ P w K mg base 5 "is_book" (["thing"]:List Str) (c7 K cl 1 wX)):bJ P w K mg base 6 "need_book" (["book"]:List Str) (c7 K cl 1 n6):=by
 have S:=fS (["book"]:List Str) (["book"]:List Str) (cY HF)
 exact a.iz S (cl:=cl) (by decide) (by walk_at "1") (λf cdv A outer s H E hr=>⟨_,(bO (dZ (fY (fZ (pc1 (E:=E) abM hr d7 (aA (au 0) aH)) (by intro _; rfl))) (bO (Np Ni Ce PySem.F.excBase_ValueError rfl iC)) dY)),λt hK hx=>(jG (nT (nR hK (wM hK hx (iH kJ) (cU (bK 0) fD)))) (O6 (λH'=>hx "NoBook" H') (nQ _)) jE)⟩)
theorem abN(a:At K mg "shown_book" Bb) (M:Nm mg) (abO:bJ P w K mg base 6 "need_book" (["book"]:List Str) (c7 K cl 1 n6)) (Jp:bJ P w K mg base 2 "shown_fractions" (["fractions"]:List Str) (c7 K cl 1 pJ)):bJ P w K mg base 7 "shown_book" (["book"]:List Str) (c7 K cl 1 lF):=by
 have S:=fS (["book"]:List Str) (["book"]:List Str) (cY Bb)
 exact a.iz S (cl:=cl) (by decide) (by walk_at "1") (λf cdv A outer s H E hr=>⟨_,(bC (psE (pc1 (E:=E) abO hr d7 (aA (au 0) aH))) (bO (cQ (yX PySem.F.plainAttrs_str PySem.F.slot_str_join PySem.F.type_str_join QC iC (aA (lu (sc:=cY Bb) (No:=(["book"]:List Str)) (N:=(["row"]:List Str)) (src:=[none]) (g:=(iy 0)) rfl rfl ⟨by rfl,by decide +kernel,by decide +kernel,by decide +kernel,by rfl,by decide +kernel⟩ rfl (mO (au 0)) (λC s H ex=>(gY 0 (show List.Nodup (["row"]:List Str) by decide +kernel))) (λC s H ex=>(iu Jp hr (aA (au 0) aH)))) aH))))),λt hK hx=>by delta QX; walk_at "t"⟩)
theorem abP(a:At K mg "shown_fraction" HN) (M:Nm mg):bJ P w K mg base 1 "shown_fraction" (["fraction"]:List Str) (c7 K cl 1 tV):=by
 have S:=fS (["fraction", "top", "bottom"]:List Str) (["fraction"]:List Str) (cY HN)
 exact a.iz S (cl:=cl) (by decide) (by walk_at "1") (λf cdv A outer s H E hr=>⟨_,(bC (sE (au 0) (yG rfl (qJ (gY 1 S.nd) (qJ (gY 2 S.nd) yF)))) (bO (cQ (Uq (fB (iM hr.units) (au 2) aL (dI _)) (qt (Ey hr.gd hr.units) M.xr (aA (au 1) aH)) (Ht (tR (Aw (au 1)) (tR iC (tR (Aw (au 2)) Hs)))))))),λt hK hx=>by delta Ip; walk_at "t"⟩)
theorem abQ(a:At K mg "shown_fractions" Ba) (M:Nm mg) (abR:bJ P w K mg base 1 "shown_fraction" (["fraction"]:List Str) (c7 K cl 1 tV)):bJ P w K mg base 2 "shown_fractions" (["fractions"]:List Str) (c7 K cl 1 pJ):=by
 have S:=fS (["fractions"]:List Str) (["fractions"]:List Str) (cY Ba)
 exact a.iz S (cl:=cl) (by decide) (by walk_at "1") (λf cdv A outer s H E hr=>⟨_,(bO (cQ (yX PySem.F.plainAttrs_str PySem.F.slot_str_join PySem.F.type_str_join QC iC (aA (lu (sc:=cY Ba) (No:=(["fractions"]:List Str)) (N:=(["fraction"]:List Str)) (src:=[none]) (g:=(iy 0)) rfl rfl ⟨by rfl,by decide +kernel,by decide +kernel,by decide +kernel,by rfl,by decide +kernel⟩ rfl (mO (au 0)) (λC s H ex=>(gY 0 (show List.Nodup (["fraction"]:List Str) by decide +kernel))) (λC s H ex=>(iu abR hr (aA (au 0) aH)))) aH)))),λt hK hx=>by delta QW; walk_at "t"⟩)
theorem abS(a:At K mg "shown_rule" HS) (M:Nm mg) (Ci:PyProof.Rows.OwnCls "NoRule" (cl "NoRule") Ae "ValueError.__new__" mg base) (abT:bJ P w K mg base 4 "is_rule" (["thing", "many"]:List Str) (c7 K cl 2 lW)) (Jp:bJ P w K mg base 2 "shown_fractions" (["fractions"]:List Str) (c7 K cl 1 pJ)):bJ P w K mg base 5 "shown_rule" (["rule", "many"]:List Str) (c7 K cl 2 jo):=by
 have S:=fS (["rule", "many"]:List Str) (["rule", "many"]:List Str) (cY HS)
 exact a.iz S (cl:=cl) (by decide) (by walk_at "2") (λf cdv A outer s H E hr=>⟨_,(bC (dZ (fY (fZ (pc1 (E:=E) abT hr d7 (aA (au 0) (aA (au 1) aH))) (by intro _; rfl))) (bO (Np Ni Ci PySem.F.excBase_ValueError rfl iC)) dY) (bC (dZ (fB (iM hr.units) (dB (au 0) aL) iC (dI _)) (bO (cQ (Ht (tR iC (tR (Aw (pc1 (E:=E) Jp hr d7 (aA (dB (au 0) aL) aH))) Hs))))) dY) (bC (dZ (fB (iM hr.units) (dB (au 0) aL) iC (dI _)) (bO (cQ (Ht (tR iC (tR (Aw (dB (au 0) aL)) Hs))))) dY) (bO (cQ (dB (au 0) aL)))))),λt hK hx=>(gw (jG (nT (nR hK (wM hK hx (iH (iH kJ)) (cU (bK 0) (cU (bK 1) fD))))) (O6 (λH'=>hx "NoRule" H') (nQ _)) jE) (gw (jG (jD (x_eq hK (iI hK (bK 0) (fJ _)) (nQ _))) (jF (Hw (wZ (nQ _) (wZ (Hu (wM hK hx (iH kJ) (cU (iI hK (bK 0) (fJ _)) fD))) Hv)) _)) jE) (gw (jG (jD (x_eq hK (iI hK (bK 0) (fJ _)) (nQ _))) (jF (Hw (wZ (nQ _) (wZ (Hu (iI hK (bK 0) (fJ _))) Hv)) _)) jE) (jF (iI hK (bK 0) (fJ _))))))⟩)
end
end K71
end
section
namespace L2
open PySem
@[simp] theorem Rs.jM{α β : Type}(a : α)(f : α -> Rs β):(Rs.ok a).bind f=f a:=rfl
@[simp] theorem Rs.af8{α β : Type}(f : α -> Rs β):(Rs.bad:Rs α).bind f=.bad:=rfl
@[simp] theorem Rs.af9{α β : Type}(c:Str)(f : α -> Rs β):(Rs.ex c:Rs α).bind f=.ex c:=rfl
inductive Tg{α β : Type}(f : α -> Rs β):Type
 |mk
def bd{α β : Type}(r:Rs α)(f : α -> Rs β)(_:Tg f):Rs β := r.bind f
@[simp] theorem Jq{α β : Type}(f : α -> Rs β)(a : α)(u:Tg f):bd (.ok a) f u=f a:=rfl
@[simp] theorem aga{α β : Type}(f : α -> Rs β)(u:Tg f):bd .bad f u=.bad:=rfl
@[simp] theorem agb{α β : Type}(f : α -> Rs β)(c:Str)(u:Tg f):bd (.ex c) f u=.ex c:=rfl
@[simp] theorem agc(f g:SF)(ρ : En):aC f g ρ = ((bd (f ρ) (λp=>match p.1 with
 |.nx=>g p.2
 |fl=>.ok (fl,p.2)) .mk)):=rfl
@[simp] theorem agd(c:BF)(f g:SF)(ρ : En):bM c f g ρ = ((bd (c ρ) (λp=>if p.1=true then f p.2 else g p.2) .mk)):=rfl
@[simp] theorem agf(f:EF)(ρ : En):aW f ρ = ((bd (f ρ) (λp=>match p.1 with
 |.v T fr=>.ok (.rt T fr,p.2)
 |.s i=>match p.2[i]? with
  |some (.ow ts)=>.ok (.rt (.lst ts) true,p.2)
  |_=>.bad) .mk)):=rfl
@[simp] theorem agg(f:EF)(g:GF)(ρ : En):bL f g ρ = ((bd (f ρ) (λp=>match p.1 with
 |.v T _=>(bd (g T p.2) (λρ'=>.ok (.nx,ρ')) .mk)
 |.s _=>.bad) .mk)):=rfl
@[simp] theorem agh(i:Nat)(f:EF)(ρ : En):zO i f ρ = ((bd (f ρ) (λp=>match p.1 with
 |.v (.lst ts) true=>.ok (.nx,p.2.set i (.ow ts))
 |_=>.bad) .mk)):=rfl
@[simp] theorem agi  (ρ : En):bV  ρ = (.ok (.nx,ρ)):=rfl
@[simp] theorem abU(f:SF)(ρ : En):iW f ρ = (aY (f ρ)):=rfl
@[simp] theorem agj(i j:Nat)(fa:AF)(ρ : En):wG i j fa ρ = ((bd (fa ρ) (λp=>(bd (cls p.1) (λTs=>match Ts with
 | [T,U]=>.ok (.nx,(p.2.set i (.sh T)).set j (.sh U))
 |_=>.bad) .mk)) .mk)):=rfl
@[simp] theorem agk(i:Nat)(fk fe:EF)(ρ : En):wF i fk fe ρ = ((bd (fe ρ) (λp=>(bd (cls [p.1]) (λTs=>(bd (con p.2 i) (λ_=>(bd (fk p.2) (λq=>(bd (dr q.2 q.1) (λkT=>(bd (bU kT) (λk=>(bd (con q.2 i) (λts=>match Ts,dg ts.length k with
 | [T],some j=>.ok (.nx,aV i (ts.set j T) q.2)
 |_,_=>.bad) .mk)) .mk)) .mk)) .mk)) .mk)) .mk)) .mk)):=rfl
@[simp] theorem agl(f:EF)(ρ : En):wB f ρ = ((bd (f ρ) (λp=>.ok (.nx,p.2)) .mk)):=rfl
@[simp] theorem abV(fi:IF)(g:GF)(b:SF)(ρ : En):jN fi g b ρ = ((bd (fi ρ) (λp=>je g b p.1 p.2) .mk)):=rfl
@[simp] theorem agm(i:Nat)(f:SF)(ρ : En):zR i f ρ = (f (bB i ρ)):=rfl
@[simp] theorem agn(i:Nat)(f:SF)(ρ : En):m7 i f ρ = (f (cC i ρ)):=rfl
@[simp] theorem ago(i:Nat)(p:Int->Int->Int)(f:EF)(ρ : En):Y0 i p f ρ = (match ρ[i]? with
 |some (.sh (.int x))=>(bd (f ρ) (λq=>(bd (dr q.2 q.1) (λyT=>(bd (bU yT) (λy=>.ok (.nx,q.2.set i (.sh (.int (p x y))))) .mk)) .mk)) .mk)
 |_=>.bad):=rfl
@[simp] theorem agp(i:Nat)(fk:QF)(m:GM)(fa:QF)(ρ : En):uR i fk m fa ρ = ((bd (bT ρ i) (λts=>(bd (aY (fk ρ)) (λk=>(bd (jJ ts k) (λz=>match z.2 with
 |.lst us=>(bd (aY (fa ρ)) (λT=>(bd (m us [T]) (λy=>.ok (.nx,ρ.set i (.dp (ts.set z.1 (.lst y.1))))) .mk)) .mk)
 |_=>.bad) .mk)) .mk)) .mk)):=rfl
@[simp] theorem agq(i:Nat)(fk fj:QF)(fe:EF)(ρ : En):Aj i fk fj fe ρ = ((bd (fe ρ) (λp=>(bd (bx p.1) (λT=>(bd (bT p.2 i) (λts=>(bd (aY (fk p.2)) (λk=>(bd (jJ ts k) (λz=>match z.2 with
 |.lst us=>(bd (aY (fj p.2)) (λj=>(bd (jJ us j) (λy=>.ok (.nx,p.2.set i (.dp (ts.set z.1 (.lst (us.set y.1 T)))))) .mk)) .mk)
 |_=>.bad) .mk)) .mk)) .mk)) .mk)) .mk)):=rfl
@[simp] theorem agr(i:Nat)(src:List (Option Nat))(fi:IF)(g:GF)(c:BF)(f:EF)(ρ : En):tO i src fi g c f ρ = ((bd (fi ρ) (λp=>if p.1.length<=100000 then(bd (aY (tM g c f p.1 (bH src p.2))) (λz=>if bF src z.2 p.2=true then .ok (.nx,(aX src z.2 p.2).set i (.dp z.1))else .bad) .mk)else .bad) .mk)):=rfl
@[simp] theorem ags(i:Nat)(ρ : En):jZ i ρ = (match ρ[i]? with
 |some (.sh T)=>.ok T
 |_=>.bad):=rfl
@[simp] theorem agt(T:Tr)(ρ : En):qC T ρ=.ok T:=rfl
@[simp] theorem agu(i:Nat)(fk fj:QF)(ρ : En):Ai i fk fj ρ = ((bd (bT ρ i) (λts=>(bd (fk ρ) (λk=>(bd (jJ ts k) (λz=>match z.2 with
 |.lst us=>(bd (fj ρ) (λj=>(bd (jJ us j) (λy=>.ok y.2) .mk)) .mk)
 |_=>.bad) .mk)) .mk)) .mk)):=rfl
@[simp] theorem agv(i:Nat)(ρ : En):aj i ρ = (match ρ[i]? with
 |some (.sh T)=>.ok (.v T false,ρ)
 |some (.ow _)=>.ok (.s i,ρ)
 |some (.rf _)=>.ok (.s i,ρ)
 |_=>.bad):=rfl
@[simp] theorem agw(T:Tr)(ρ : En):eC T ρ = (.ok (.v T false,ρ)):=rfl
@[simp] theorem agx(Ts:List Tr)(ρ : En):fU Ts ρ=.ok (.v (.lst Ts) true,ρ):=rfl
@[simp] theorem agy(g:G2)(fa fb:EF)(ρ : En):aq g fa fb ρ = ((bd (fa ρ) (λp=>(bd (fb p.2) (λq=>(bd (dr q.2 p.1) (λa=>(bd (dr q.2 q.1) (λb=>(bd (g a b) (λz=>.ok (.v z.1 z.2,q.2)) .mk)) .mk)) .mk)) .mk)) .mk)):=rfl
@[simp] theorem agz(g:G1)(fa:EF)(ρ : En):sW g fa ρ = ((bd (fa ρ) (λp=>(bd (dr p.2 p.1) (λa=>(bd (g a) (λz=>.ok (.v z.1 z.2,p.2)) .mk)) .mk)) .mk)):=rfl
@[simp] theorem agA(g:GN)(fa:AF)(ρ : En):bw g fa ρ = ((bd (fa ρ) (λp=>(bd (drs p.2 p.1) (λas=>(bd (g as) (λz=>.ok (.v z.1 z.2,p.2)) .mk)) .mk)) .mk)):=rfl
@[simp] theorem agB(F:FP)(fa:AF)(ρ : En):cJ F fa ρ = ((bd (fa ρ) (λp=>(bd (drs p.2 p.1) (λas=>(bd (F as) (λz=>if p.1.any aK=true/\jP z=false then .bad else .ok (.v z.1 z.2,p.2)) .mk)) .mk)) .mk)):=rfl
@[simp] theorem agC(r:Nat)(F:FR)(fa:AF)(ρ : En):cu r F fa ρ = ((bd (fa ρ) (λp=>match p.1[r]? with
 |some (.s i)=>if others r i p.1=true then((bd (con p.2 i) (λ_=>(bd (drs p.2 p.1) (λas=>(bd (F as) (λz=>if((p.1.eraseIdx r).any aK=true/\jP z.1=false)\/(((p.1.eraseIdx r).any aK=true\/z.1.2=true)/\dR z.2=false)then .bad else .ok (.v z.1.1 z.1.2,aV i z.2 p.2)) .mk)) .mk)) .mk))else .bad
 |_=>.bad) .mk)):=rfl
@[simp] theorem agD(a:Int):dR [.int a]=true:=rfl
@[simp] theorem agE(a b:Int):dR [.int a,.int b]=true:=rfl
@[simp] theorem agF(g:AF)(ρ : En):fK g ρ = ((bd (g ρ) (λp=>(bd (cls p.1) (λts=>if ts.length<=1000 then .ok (.v (.lst ts) true,p.2)else .bad) .mk)) .mk)):=rfl
@[simp] theorem agG(g:AF)(ρ : En):jj g ρ = ((bd (g ρ) (λp=>(bd (cls p.1) (λts=>if ts.length<=1000 then .ok (.v (.tup ts) false,p.2)else .bad) .mk)) .mk)):=rfl
@[simp] theorem agH(f g:EF)(ρ : En):jw f g ρ = ((bd (bY f ρ) (λp=>if p.1=true then g p.2 else .ok (eB false,p.2)) .mk)):=rfl
@[simp] theorem agI(f g:EF)(ρ : En):Yl f g ρ = ((bd (bY f ρ) (λp=>if p.1=true then .ok (eB true,p.2)else g p.2) .mk)):=rfl
@[simp] theorem agJ(f:EF)(ρ : En):zL f ρ = ((bd (bY f ρ) (λp=>.ok (eB (!p.1),p.2)) .mk)):=rfl
@[simp] theorem agK(c:BF)(f g:EF)(ρ : En):FJ c f g ρ = ((bd (c ρ) (λp=>if p.1=true then f p.2 else g p.2) .mk)):=rfl
@[simp] theorem agL(c:Ty)(fa:EF)(ρ : En):gJ c fa ρ = ((bd (fa ρ) (λp=>(bd (dr p.2 p.1) (λa=>.ok (eB (cV a c),p.2)) .mk)) .mk)):=rfl
@[simp] theorem agM(g g':G2)(fa fb fc:EF)(ρ : En):qY g g' fa fb fc ρ = ((bd (fa ρ) (λp=>(bd (fb p.2) (λq=>(bd (dr q.2 p.1) (λa=>(bd (dr q.2 q.1) (λb=>(bd (g a b) (λz=>(bd (aO z.1) (λk=>if k=true then(bd (fc q.2) (λs=>(bd (dr s.2 q.1) (λb=>(bd (dr s.2 s.1) (λc=>(bd (g' b c) (λz=>.ok (.v z.1 z.2,s.2)) .mk)) .mk)) .mk)) .mk)else .ok (eB false,q.2)) .mk)) .mk)) .mk)) .mk)) .mk)) .mk)):=rfl
@[simp] theorem agN(fa:EF)(fl fh:OF)(ρ : En):o8 fa fl fh ρ = ((bd (fa ρ) (λp=>(bd (fl p.2) (λl=>(bd (fh l.2) (λh=>(bd (dr h.2 p.1) (λa=>(bd (nU l.1 h.1 a) (λz=>.ok (.v z.1 z.2,h.2)) .mk)) .mk)) .mk)) .mk)) .mk)):=rfl
@[simp] theorem abW(src:List (Option Nat))(fi:IF)(g:GF)(c:BF)(f:EF)(ρ : En):fO src fi g c f ρ = ((bd (fi ρ) (λp=>if p.1.length<=100000 then(bd (aY (jH g c f p.1 (bH src p.2))) (λz=>if bF src z.2 p.2=true then .ok (.v (.lst z.1) true,aX src z.2 p.2)else .bad) .mk)else .bad) .mk)):=rfl
@[simp] theorem agO(i:Nat)(m:GM)(fa:AF)(ρ : En):YT i m fa ρ = ((bd (con ρ i) (λ_=>(bd (fa ρ) (λp=>(bd (cls p.1) (λas=>(bd (con p.2 i) (λts=>(bd (m ts as) (λz=>.ok (.v z.2 false,aV i z.1 p.2)) .mk)) .mk)) .mk)) .mk)) .mk)):=rfl
@[simp] theorem agP(i:Nat)(m:GM)(ρ : En):YW i m ρ = ((bd (con ρ i) (λts=>(bd (m ts []) (λz=>.ok (.v z.2 false,aV i z.1 ρ)) .mk)) .mk)):=rfl
@[simp] theorem agQ(fa:EF)(ρ : En):bY fa ρ = ((bd (fa ρ) (λp=>(bd (dr p.2 p.1) (λa=>(bd (aO a) (λb=>.ok (b,p.2)) .mk)) .mk)) .mk)):=rfl
@[simp] theorem agR(fa:EF)(ρ : En):dN fa ρ = ((bd (fa ρ) (λp=>(bd (dr p.2 p.1) (λa=>(bd (bh a) (λb=>.ok (b,p.2)) .mk)) .mk)) .mk)):=rfl
@[simp] theorem agS(f g:BF)(ρ : En):qX f g ρ = ((bd (f ρ) (λp=>if p.1=true then g p.2 else .ok (false,p.2)) .mk)):=rfl
@[simp] theorem agT(f g:BF)(ρ : En):f9 f g ρ = ((bd (f ρ) (λp=>if p.1=true then .ok (true,p.2)else g p.2) .mk)):=rfl
@[simp] theorem agU(f:BF)(ρ : En):eE f ρ = ((bd (f ρ) (λp=>.ok (!p.1,p.2)) .mk)):=rfl
@[simp] theorem agV  (ρ : En):d8  ρ = (.ok (true,ρ)):=rfl
@[simp] theorem agW  (ρ : En):ao  ρ = (.ok ([],ρ)):=rfl
@[simp] theorem agX(f:EF)(g:AF)(ρ : En):ak f g ρ = ((bd (f ρ) (λp=>(bd (g p.2) (λq=>.ok (p.1::q.1,q.2)) .mk)) .mk)):=rfl
@[simp] theorem abX(f:EF)(ρ : En):fV f ρ = ((bd (f ρ) (λp=>(bd (cj p.1) (λz=>.ok (z.1,p.2)) .mk)) .mk)):=rfl
@[simp] theorem agY(fa:AF)(ρ : En):iG fa ρ = ((bd (fa ρ) (λp=>(bd (drs p.2 p.1) (λas=>match as with
 | [.int j]=>if okR j=true then .ok (upTo 0 j.toNat,p.2)else .bad
 |_=>.bad) .mk)) .mk)):=rfl
@[simp] theorem agZ(fa:AF)(ρ : En):YS fa ρ = ((bd (fa ρ) (λp=>(bd (drs p.2 p.1) (λas=>match as with
 | [.int i,.int j]=>if okR i=true/\okR j=true then .ok (upTo i (j-i).toNat,p.2)else .bad
 |_=>.bad) .mk)) .mk)):=rfl
@[simp] theorem ag0(fa:AF)(ρ : En):aau fa ρ = ((bd (fa ρ) (λp=>match p.1 with
 | [.v (.lst us) _,.v (.lst vs) _]=>.ok (Qk us vs,p.2)
 |_=>.bad) .mk)):=rfl
@[simp] theorem ag1  (ρ : En):oZ  ρ = (.ok (none,ρ)):=rfl
@[simp] theorem ag2(fa:EF)(ρ : En):o7 fa ρ = ((bd (fa ρ) (λp=>(bd (dr p.2 p.1) (λa=>(bd (bU a) (λb=>.ok (some b,p.2)) .mk)) .mk)) .mk)):=rfl
@[simp] theorem Jr(i:Nat)(T:Tr)(ρ : En):gN i T ρ = (.ok (ρ.set i (.sh T))):=rfl
@[simp] theorem ag3(n:Nat)(f:nW)(T:Tr)(ρ : En):gT n f T ρ = (match T with
 |.tup Ts=>if Ts.length=n then f Ts ρ else .bad
 |_=>.bad):=rfl
@[simp] theorem ag4  (Ts:List Tr)(ρ : En):o9  Ts ρ = (match Ts with
 | []=>.ok ρ
 |_=>.bad):=rfl
@[simp] theorem ag5(f:GF)(g:nW)(Ts:List Tr)(ρ : En):jX f g Ts ρ = (match Ts with
 |T::r=>(bd (f T ρ) (λρ'=>g r ρ') .mk)
 | []=>.bad):=rfl
@[simp] theorem ag6(a:Tr):aZ 1 [a]=[.sh a]:=rfl
end L2
end
section
namespace BH
open PySem L2
theorem cA(i:Int):dep (.int i)=0:=rfl
theorem eX(i:Bool):dep (.bl i)=0:=rfl
theorem dG(i:Str):dep (.str i)=0:=rfl
theorem eY:dep .non=0:=rfl
theorem eG(ts:List Tr):dep (.tup ts)=deps ts+1:=by simp only[dep]
theorem eO(ts:List Tr):dep (.lst ts)=deps ts+1:=by simp only[dep]
theorem eH:deps []=0:=rfl
theorem dX(t:Tr)(ts:List Tr):deps (t::ts)=max (dep t) (deps ts):=by simp only[deps]
theorem cD(i j:Int):eqT (.int i) (.int j)=(i == j):=by simp only[eqT]
theorem eZ(i j:Bool):eqT (.bl i) (.bl j)=(i == j):=by simp only[eqT]
theorem eV(i j:Str):eqT (.str i) (.str j)=(i == j):=by simp only[eqT]
def isW:Tr->Bool
 |.int _=>true
 |_=>false
theorem Rk(T:Tr):pG [T]=.ok (.bl (isW T),false):=by cases T <;> rfl
def wc:BF:=bY (aq bQ (aj 1) (eC (.int 0)))
def wb:SF:=wG 0 1 (ak (aj 1) (ak (aq bD (aj 0) (aj 1)) ao))
theorem abY(a b:Int):wc [.sh (.int a),.sh (.int b)]=.ok (!(b == 0),[.sh (.int a),.sh (.int b)]):=rfl
theorem abZ(a b:Int)(h:b≠0):wb [.sh (.int a),.sh (.int b)]=.ok (.nx,[.sh (.int b),.sh (.int (a.fmod b))]):=by
 unfold wb; simp -dsimp[dr,cls,bW,bD,h]
theorem Rm:∀(n:Nat) (a b:Int),b.natAbs<n->∃g:Int,tu wc wb n [.sh (.int a),.sh (.int b)]=.ok (.nx,[.sh (.int g),.sh (.int 0)])/\(if g<0 then -g else g)=((Int.gcd a b:Nat):Int)
 | 0,a,b,h=>by omega
 |n+1,a,b,h=>by
  unfold tu
  rw[abY]
  by_cases z:b=0
  ·subst z
   exact⟨a,rfl,Xh a⟩
  ·obtain⟨g,h1,h2⟩:=Rm n b (a.fmod b) (by have:=Xf a b z; omega)
   refine⟨g,?_,by rw[h2,Xg]⟩
   have e:(!(b == 0))=true:=by simp[z]
   simp only[Rs.bind,e,if_true]
   rw[abZ a b z]
   exact h1
def Rn:SF:=(aC (iW (uO (wN 1) wc wb)) (aW (bw (g1 dW) (ak (aj 0) ao))))
theorem Js(a b:Int):cG 2 Rn [.int a,.int b]=.ok (.int (Int.gcd a b:Nat),false):=by
 obtain⟨g,h1,h2⟩:=Rm (b.natAbs+1) a b (by omega)
 have h0:aZ 2 [.int a,.int b]=[.sh (.int a),.sh (.int b)]:=rfl
 have h3:iW (uO (wN 1) wc wb) [.sh (.int a),.sh (.int b)]=.ok (.nx,[.sh (.int g),.sh (.int 0)]):=by
  unfold iW uO
  rw[show wN 1 [.sh (.int a),.sh (.int b)]=b.natAbs+1 from rfl,h1]
  rfl
 rw[<-h2]
 unfold cG Rn aC
 rw[h0,h3]
 rfl
theorem ab0(a b:Int):Av [.int a,.int b]=.ok (.int (Int.gcd a b:Nat),false):=Js a b
def Cj:Tr->Tr->Bool
 |.int p,.int q=>decide (1<=q)&&(Int.gcd p q == 1)
 |_,_=>false
def pL:Tr->Bool
 |.tup [a,b]=>Cj a b
 |_=>false
theorem Jt(n:Nat):((n:Int) == 1)=(n == 1):=by
 rw[Bool.eq_iff_iff]; simp; omega
theorem tZ(T:Tr):m8 [T]=.ok (.bl (pL T),false):=by
 unfold m8 Hi cG
 cases T with
 |tup ts =>
  match ts with
  | []=>rfl
  | [_]=>rfl
  | [a,b] =>
   cases a <;> cases b <;> try rfl
   rename_i p q
   simp -dsimp[eB,aO,bh,dr,drs,g1,gB,aM,bQ,dw,aJ,aK,cA,cD,cV,aZ,Rk,isW,ab0,pL,Cj,Jt]
   by_cases h:1<=q <;> simp[h]
  |a::b::c::r =>
   have:((r.length:Int)+1+1+1 == 2)=false:=by simp; omega
   simp -dsimp[eB,aO,bh,dr,drs,g1,bQ,dw,aJ,cA,cD,cV,aZ,pL,this]
 |_=>rfl
def uc:Tr->Tr->Bool
 |.int p,.int q=>decide (0<=p)&&decide (p<=q)&&decide (1<=q)&&(Int.gcd p q == 1)
 |_,_=>false
def iR:Tr->Bool
 |.tup [a,b]=>uc a b
 |_=>false
theorem ab1(T:Tr):qw [T]=.ok (.bl (iR T),false):=by
 unfold qw Hj cG
 cases T with
 |tup ts =>
  match ts with
  | []=>simp -dsimp[eB,aO,dr,drs,cN,aK,aZ,tZ,pL,iR]
  | [_]=>simp -dsimp[eB,aO,dr,drs,cN,aK,aZ,tZ,pL,iR]
  | [a,b] =>
   by_cases w:isW a=true/\isW b=true
   case neg =>
    have w1:Cj a b=false:=by cases a <;> cases b <;> first|rfl|exact absurd ⟨rfl,rfl⟩ w
    have w2:uc a b=false:=by cases a <;> cases b <;> first|rfl|exact absurd ⟨rfl,rfl⟩ w
    simp -dsimp[eB,aO,dr,drs,cN,aK,aZ,tZ,pL,iR,w1,w2]
   cases a <;> try cases w.1
   cases b <;> try cases w.2
   rename_i p q
   simp -dsimp[eB,aO,dr,drs,gB,cN,aB,aK,cR,dg,aZ,tZ,pL,iR,Cj,uc]
   by_cases h:1<=q <;> by_cases h2:p.gcd q=1 <;> by_cases h3:0<=p <;> simp[h,h2,h3]
  |a::b::c::r=>simp -dsimp[eB,aO,dr,drs,cN,aK,aZ,tZ,pL,iR]
 |_=>simp -dsimp[eB,aO,dr,drs,cN,aK,aZ,tZ,pL,iR]
end BH
end
section
namespace BH
open PySem L2
theorem comp_map{f:EF}{h:Tr->Tr}{τ : En}:∀(us:List Tr) (s:Sl),(∀u∈us,∃fr,f (.sh u::τ)=.ok (.v (h u) fr,.sh u::τ))->∃s',jH (gN 0) d8 f us (s::τ)=.ok (us.map h,s'::τ)
 | [],s,_=>⟨s,rfl⟩
 |u::us,s,q=>by
  obtain⟨fr,e⟩:=q u (by simp)
  obtain⟨s',e'⟩:=comp_map us (.sh u) λv hv=>q v (by simp[hv])
  refine⟨s',?_⟩
  unfold jH
  simp[e,bx,e']
theorem Ju{p:Tr->Bool}:∀us:List Tr,sY (us.map λu=>.bl (p u))=some (us.map p)
 | []=>rfl
 |u::us=>by simp[sY,Ju us]
theorem xQ{F:FP}{p:Tr->Bool}{us:List Tr}{ρ : En}{i:IF}{fe:EF}(hl:us.length<=100000)(hi:i ρ=.ok (us,ρ))(hf:∀u∈us,∃fr,fe [.sh u]=.ok (.v (.bl (p u)) fr,[.sh u])):bw (g1 cZ) (ak (fO [none] i (gN 0) d8 fe) ao) ρ=.ok (.v (.bl (us.all p)) false,ρ):=by
 obtain⟨s',e⟩:=comp_map (h:=λu=>.bl (p u)) us .un hf
 simp -dsimp[aY,dr,drs,g1,cZ,bH,aX,bF,cB,hi,hl,e,Ju]
theorem ab2{p:Tr->Bool}{us:List Tr}{ρ : En}{i:IF}{fe:EF}{j:Nat}{T:Tr}(hl:us.length<=100000)(hi:i ρ=.ok (us,ρ))(hj : ρ[j]?=some (.sh T))(hf:∀u∈us,∃fr,fe [.sh u,.sh T]=.ok (.v (.bl (p u)) fr,[.sh u,.sh T])):bw (g1 cZ) (ak (fO [none,some j] i (gN 0) d8 fe) ao) ρ=.ok (.v (.bl (us.all p)) false,ρ):=by
 obtain⟨s',e⟩:=comp_map (h:=λu=>.bl (p u)) us .un hf
 simp -dsimp[aY,dr,drs,g1,cZ,bH,aX,bF,bZ,cB,hi,hl,hj,e,Ju]
def iJ(m:Int):Tr->Bool
 |.lst ts=>decide (1<=(ts.length:Int))&&decide ((ts.length:Int)<=m)&&ts.all iR
 |_=>false
theorem ab3(T:Tr)(m:Int)(hm:m<=1000):tQ [T,.int m]=.ok (.bl (iJ m T),false):=by
 unfold tQ Hl cG
 cases T with
 |lst ts =>
  by_cases h1:1<=(ts.length:Int)
  ·by_cases h2:(ts.length:Int)<=m
   ·have e:=xQ (F:=qw) (p:=iR) (us:=ts) (ρ:=[.sh (.lst ts),.sh (.int m)]) (i:=fV (aj 0)) (fe:=cJ qw (ak (aj 0) ao)) (by omega) rfl (λu _=>⟨false,by simp -dsimp[dr,drs,aK,ab1]⟩)
    generalize bw (g1 cZ) (ak (fO [none] (fV (aj 0)) (gN 0) d8 (cJ qw (ak (aj 0) ao))) ao)=G at e ⊢
    simp -dsimp[eB,aO,bh,dr,drs,g1,gB,cN,aJ,cV,aZ,h1,h2,e,iJ]
   ·simp -dsimp[eB,aO,bh,dr,drs,g1,gB,cN,aJ,cV,aZ,h1,h2,iJ]
  ·simp -dsimp[eB,aO,bh,dr,drs,g1,gB,cN,aJ,cV,aZ,h1,iJ]
 |_=>simp -dsimp[eB,bh,dr,cN,cV,aZ,iJ]
def iB:Tr->Int
 |.lst ts=>ts.length
 |_=>-1
def iZ:Tr->Bool
 |.lst rs=>decide (1<=(rs.length:Int))&&decide ((rs.length:Int)<=4)&&rs.all (iJ 12)&&rs.all λr=>iB r == iB (rs.headD .non)
 |_=>false
theorem Jv{m:Int}{T:Tr}(h:iJ m T=true):∃ts,T=.lst ts:=by
 cases T <;> first|exact⟨_,rfl⟩|cases h
theorem Ro(T:Tr):wX [T]=.ok (.bl (iZ T),false):=by
 unfold wX Qx cG
 cases T with
 |lst ts =>
  by_cases h1:1<=(ts.length:Int)
  ·by_cases h2:(ts.length:Int)<=4
   ·have e:=xQ (F:=qw) (p:=iJ 12) (us:=ts) (ρ:=[.sh (.lst ts)]) (i:=fV (aj 0)) (fe:=(cJ tQ (ak (aj 0) (ak (eC (.int 12)) ao)))) (by omega) rfl (λu _=>⟨false,by simp -dsimp[dr,drs,aK,ab3]⟩)
    generalize bw (g1 cZ) (ak (fO [none] (fV (aj 0)) (gN 0) d8 (cJ tQ (ak (aj 0) (ak (eC (.int 12)) ao)))) ao)=G at e ⊢
    cases h3:ts.all (iJ 12)with
    |false=>rw[h3]at e; simp -dsimp[eB,aO,bh,dr,drs,g1,gB,cN,aJ,cV,aZ,h1,h2,e,iZ,h3]
    |true =>
     have h4:=List.all_eq_true.mp h3
     obtain⟨r0,rs,rfl⟩:∃r0 rs,ts=r0::rs:=by cases ts with
      |nil=>simp at h1
      |cons a b=>exact⟨a,b,rfl⟩
     obtain⟨l0,rfl⟩:=Jv (h4 r0 (by simp))
     have e2:=ab2 (p:=λr=>iB r == (l0.length:Int)) (us:=.lst l0::rs) (ρ:=[.sh (.lst (.lst l0::rs))]) (j:=0) (T:=.lst (.lst l0::rs)) (i:=fV (aj 0)) (fe:=(aq aM (bw (g1 aJ) (ak (aj 0) ao)) (bw (g1 aJ) (ak (aq aB (aj 1) (eC (.int 0))) ao)))) (by omega) rfl rfl (λu hu=>⟨false,by
      obtain⟨l,rfl⟩:=Jv (h4 u hu)
      have:(0:Int)<(rs.length:Int)+1:=by omega
      simp -dsimp[dr,drs,g1,aM,aB,aJ,cA,cD,cR,dg,iB,this]⟩)
     generalize bw (g1 cZ) (ak (fO [none,some 0] (fV (aj 0)) (gN 0) d8 (aq aM (bw (g1 aJ) (ak (aj 0) ao)) (bw (g1 aJ) (ak (aq aB (aj 1) (eC (.int 0))) ao)))) ao)=G2 at e2 ⊢
     rw[h3]at e
     have e3:iZ (.lst (.lst l0::rs))=(Tr.lst l0::rs).all (λr=>iB r == (l0.length:Int)):=by
      show(decide (1<=((Tr.lst l0::rs).length:Int))&&decide (((Tr.lst l0::rs).length:Int)<=4)&&(Tr.lst l0::rs).all (iJ 12)&&(Tr.lst l0::rs).all λr=>iB r == iB (.lst l0))=_
      rw[h3,decide_eq_true h1,decide_eq_true h2]
      rfl
     rw[e3]
     generalize (Tr.lst l0::rs).all (λr=>iB r == (l0.length:Int))=bb at e2
     have h1':(1:Int)<=(rs.length:Int)+1:=by omega
     have h2':(rs.length:Int)+1<=4:=by simp only[List.length_cons]at h2; omega
     simp -dsimp[eB,aO,bh,dr,drs,g1,gB,cN,aJ,cV,aZ,h1',h2',e,e2]
   ·simp -dsimp[eB,aO,bh,dr,drs,g1,gB,cN,aJ,cV,aZ,h1,h2,iZ]
  ·simp -dsimp[eB,aO,bh,dr,drs,g1,gB,cN,aJ,cV,aZ,h1,iZ]
 |_=>simp -dsimp[eB,bh,dr,cN,cV,aZ,iZ]
end BH
end
section
namespace L2
open PySem
@[simp] theorem ag7(fa:AF)(ρ : En):eLR fa ρ = bd (fa ρ) (λp=>match p.1 with
 | [.v (.int n) _]=>if 0<=n/\n<=1000 then .ok (.v (.lst ((List.range n.toNat).map λi:Nat=>Tr.int i)) true,p.2)else .bad
 |_=>.bad) .mk:=rfl
@[simp] theorem ag8(F:FR)(fa:EF)(ρ : En):aay F fa ρ = bd (fa ρ) (λp=>match p.1 with
 |.v (.lst us) true=>bd (F [.lst us]) (λz=>.ok (.v z.1.1 z.1.2,p.2)) .mk
 |_=>.bad) .mk:=rfl
@[simp] theorem ag9(kt:Tr->Option (Int × Int))(src:List (Option Nat))(fa:AF)(fb:RF)(ρ : En):aav kt src fa fb ρ = bd (fa ρ) (λp=>match p.1 with
 | [.v (.int n) _]=>if 0<=n/\n<64 then bd (aY (G4 kt fb (Qn src p.2) (List.range n.toNat))) (λks=>.ok (.v (.lst ((Qm n.toNat λi=>ks.getD i (0,0)).map λi:Nat=>Tr.int i)) true,p.2)) .mk else .bad
 |_=>.bad) .mk:=rfl
end L2
namespace BH
open PySem L2
def fT(x:Int × Int):Tr:=.tup [.int x.1,.int x.2]
theorem Rq{k:Int}{M:Nat}(h:k.natAbs<2 ^ M)(hM:M<=8000):k.natAbs.log2<9000:=by
 by_cases z:k.natAbs=0
 ·rw[z]; decide
 ·have:=(Nat.log2_lt (n:=k.natAbs) (k:=M) z).mpr h
  omega
theorem Ck{i j:Int}{M:Nat}(h0:j≠0)(h:j.natAbs<2 ^ M)(hM:M<=8000):jW i j=true:=by
 unfold jW
 rw[Bool.and_eq_true,decide_eq_true_eq,decide_eq_true_eq]
 exact⟨h0,Rq h hM⟩
theorem ab4{T:Tr}(h:iZ T=true):n6 [T]=.ok (.non,false):=by
 unfold n6 Ho cG
 simp -dsimp[bh,dr,drs,aK,aZ,Ro,h]
theorem Rr{xs:List Tr}{i:Nat}{T:Tr}(h:xs[i]?=some T):aB (.lst xs) (.int i)=.ok (T,false):=by
 obtain⟨hi,e⟩:=List.getElem?_eq_some_iff.mp h
 show(match cR xs i with
  |some t=>Rs.ok (t,false)
  |none=>.bad)=_
 have:cR xs (i:Int)=some T:=by
  unfold cR dg
  simp[hi,e]
 rw[this]
theorem xR{xs:List Tr}{i:Nat}{T:Tr}(h:xs[i]?=some T):aB (.lst xs) (.int i)=.ok (T,false):=Rr h
end BH
namespace BH
open PySem L2
def Wo(x:Int × Int):Prop:=0<=x.1/\x.1<=x.2/\1<=x.2/\x.2<=1000000000000/\Int.gcd x.1 x.2=1
instance (x:Int × Int):Decidable (Wo x):=by unfold Wo; infer_instance
def dH(l:List (Int × Int)):Tr:=.lst (l.map fT)
def jy(ls:List (List (Int × Int))):Tr:=.lst (ls.map dH)
def Rt(c:Nat)(ls:List (List (Int × Int))):Prop:=∀l∈ls,l.length=c/\∀x∈l,Wo x
def Bk(c:Nat)(ls:List (List (Int × Int))):Prop:=1<=ls.length/\ls.length<=4/\1<=c/\c<=12/\Rt c ls
theorem Wo.iR{x:Int × Int}(h:Wo x):iR (fT x)=true:=by
 obtain⟨h1,h2,h3,h4,h5⟩:=h
 show(decide (0<=x.1)&&decide (x.1<=x.2)&&decide (1<=x.2)&&(Int.gcd x.1 x.2 == 1))=true
 simp[h1,h2,h3,h5]
theorem ab5{l:List (Int × Int)}(h:∀x∈l,Wo x)(h1:1<=l.length)(h2:l.length<=12):iJ 12 (dH l)=true:=by
 show(decide (1<=((l.map fT).length:Int))&&decide (((l.map fT).length:Int)<=12)&&(l.map fT).all iR)=true
 rw[List.length_map,decide_eq_true (by omega),decide_eq_true (by omega)]
 simp only[Bool.true_and,List.all_eq_true]
 intro t ht
 obtain⟨x,hx,rfl⟩:=List.mem_map.mp ht
 exact(h x hx).iR
theorem Bk.iZ{c:Nat}{ls:List (List (Int × Int))}(h:Bk c ls):iZ (jy ls)=true:=by
 obtain⟨h1,h2,h3,h4,h5⟩:=h
 show(decide (1<=((ls.map dH).length:Int))&&decide (((ls.map dH).length:Int)<=4)&&(ls.map dH).all (iJ 12)&&(ls.map dH).all λr=>iB r == iB ((ls.map dH).headD .non))=true
 rw[List.length_map,decide_eq_true (by omega),decide_eq_true (by omega)]
 simp only[Bool.true_and,Bool.and_eq_true,List.all_eq_true]
 refine⟨λt ht=>?_,λt ht=>?_⟩
 ·obtain⟨l,hl,rfl⟩:=List.mem_map.mp ht
  exact ab5 (h5 l hl).2 (by have:=(h5 l hl).1; omega) (by have:=(h5 l hl).1; omega)
 ·obtain⟨l,hl,rfl⟩:=List.mem_map.mp ht
  cases ls with
  |nil=>simp at hl
  |cons l0 r =>
   show(iB (dH l) == iB (dH l0))=true
   show(((l.map fT).length:Int) == ((l0.map fT).length:Int))=true
   rw[List.length_map,List.length_map,(h5 l hl).1,(h5 l0 (by simp)).1]
   simp
end BH
end
section
namespace L2
open PySem
@[simp] theorem aha(fa:EF)(ρ : En):Z8 fa ρ = bd (fa ρ) (λp=>bd (dr p.2 p.1) (λa=>bd (P0 a) (λz=>.ok (.v z.1 z.2,p.2)) .mk) .mk) .mk:=rfl
end L2
namespace BH
open PySem L2
theorem ab6{α : Type}(xs:List α)(k:Nat):L2.cut xs (some (k:Int)) none=xs.drop k:=by
 unfold L2.cut HT.dF
 by_cases h:(k:Int)<0
 ·omega
 ·simp only[h,if_false,Int.toNat_natCast]
  by_cases z:k<=xs.length
  ·rw[Nat.min_eq_left z]
   exact List.take_of_length_le (by simp)
  ·rw[Nat.min_eq_right (by omega),List.drop_eq_nil_of_le (by omega),List.drop_eq_nil_of_le (by omega)]
   simp
theorem ab7{α : Type}(xs:List α)(k:Nat):L2.cut xs none (some (k:Int))=xs.take k:=by
 unfold L2.cut HT.dF
 by_cases h:(k:Int)<0
 ·omega
 ·simp only[h,if_false,Int.toNat_natCast,Nat.sub_zero,List.drop_zero]
  by_cases z:k<=xs.length
  ·rw[Nat.min_eq_left z]
  ·rw[Nat.min_eq_right (by omega),List.take_of_length_le (by omega),List.take_of_length_le (by omega)]
theorem Rw{n:Nat}:∀{ts:List Tr},(∀t∈ts,dep t<=n)->deps ts<=n
 | [],_=>by rw[eH]; omega
 |t::ts,h=>by
  rw[dX]
  have h1:=h t (by simp)
  have h2:=Rw (ts:=ts) λu hu=>h u (by simp[hu])
  omega
theorem Rx{T:Tr}(h:dep T<=40):bQ T T=.ok (.bl false,false):=by
 unfold bQ
 rw[if_pos ⟨h,h⟩,zf]
 rfl
theorem ab8{T:Tr}(h:dep T<=40):aM T T=.ok (.bl true,false):=by
 unfold aM
 rw[if_pos ⟨h,h⟩,zf]
end BH
end
section
namespace BH
open PySem L2
theorem Ry{i:Nat}{b:SF}{u:Tr}{us:List Tr}{ρ ρ1:En}{r:Rs (Fl × En)}(h:b (ρ.set i (.sh u))=.ok (.nx,ρ1))(h':je (gN i) b us ρ1=r):je (gN i) b (u::us) ρ = r:=by
 unfold je
 show(b (ρ.set i (.sh u))).bind _=_
 rw[h]
 exact h'
theorem Rz{α : Type}{r h : α -> Tr}{f:EF}{τ : En}:∀(xs:List α) (s:Sl),(∀x∈xs,∃fr,f (.sh (r x)::τ)=.ok (.v (h x) fr,.sh (r x)::τ))->∃s',jH (gN 0) d8 f (xs.map r) (s::τ)=.ok (xs.map h,s'::τ)
 | [],s,_=>⟨s,rfl⟩
 |x::xs,s,q=>by
  obtain⟨fr,e⟩:=q x (by simp)
  obtain⟨s',e'⟩:=Rz xs (.sh (r x)) λv hv=>q v (by simp[hv])
  refine⟨s',?_⟩
  rw[List.map_cons]
  unfold jH
  simp[e,bx,e']
theorem RB{α : Type}{r h : α -> Tr}{xs:List α}{ρ τ : En}{rest:List (Option Nat)}{i:IF}{fe:EF}(hl:xs.length<=100000)(hi:i ρ=.ok (xs.map r,ρ))(hτ : bH rest ρ = τ)(hs:∀s',bF (none::rest) (s'::τ) ρ = true)(hd:∀s',aX (none::rest) (s'::τ) ρ = ρ)
  (hf:∀x∈xs,∃fr,fe (.sh (r x)::τ)=.ok (.v (h x) fr,.sh (r x)::τ)):fO (none::rest) i (gN 0) d8 fe ρ=.ok (.v (.lst (xs.map h)) true,ρ):=by
 obtain⟨s',e⟩:=Rz xs .un hf
 have hu:bH (none::rest) ρ=.un::τ := by rw[<-hτ]; rfl
 have hl':(xs.map r).length<=100000:=by rw[List.length_map]; exact hl
 rw[abW,hi]
 simp only[Jq]
 rw[if_pos hl',hu,e]
 simp only[aY,Jq]
 rw[if_pos (hs s'),hd s']
def lt2(x y:Int × Int):Bool:=decide (x.1*y.2<y.1*x.2)
theorem ud(i j:Int):aN (.int i) (.int j)=.ok (.int (i+j),false):=rfl
end BH
end
section
namespace BH
open PySem L2
def Fq(M:Nat)(x:Int × Int):Prop:=0<=x.1/\x.1<2 ^ M/\1<=x.2/\x.2<2 ^ M/\Int.gcd x.1 x.2=1
end BH
end
section
namespace BH
open PySem L2
def LT(xs:List (Int × Int)):Prop:=∀x∈xs,1<=x.2/\Int.gcd x.1 x.2=1
def ov(t x:Int × Int):Bool:=lt2 t x
end BH
end
section
namespace BH
open PySem L2
inductive Ru where
 |sh (ws:List (Int × Int))|mid (k:Nat)|least|greatest|product
def fP:Ru->Tr
 |.sh ws=>.tup [.str "shares",dH ws]
 |.mid k=>.tup [.str "middle",.int k]
 |.least=>.tup [.str "least"]
 |.greatest=>.tup [.str "greatest"]
 |.product=>.tup [.str "product"]
def ahb(n:Nat):Ru->Prop
 |.sh ws=>ws.length=n/\∀w∈ws,Fq 45 w
 |.mid k=>1<=k/\k<=n
 |_=>True
theorem sEq(a:Str):aM (.str a) (.str a)=.ok (.bl true,false):=ab8 (T:=.str a) (by rw[dG]; omega)
theorem sNe{a b:Str}(h:(a == b)=false):aM (.str a) (.str b)=.ok (.bl false,false):=by
 unfold aM
 rw[if_pos ⟨by rw[dG]; omega,by rw[dG]; omega⟩,eV,h]
def xT:EF:=(jw (cJ m8 (ak (aj 0) ao)) (aq dw (aq aB (aj 0) (eC (.int 0))) (eC (.int 0))))
end BH
end
section
namespace L2
open PySem
@[simp] theorem ahc(d:Str)(fa:EF)(ρ : En):j4 d fa ρ = bd (fa ρ) (λp=>bd (dr p.2 p.1) (λa=>match Am a d with
 |some b=>.ok (eB b,p.2)
 |none=>.bad) .mk) .mk:=rfl
@[simp] theorem ahd(fa:EF)(ρ : En):Hf fa ρ = bd (fa ρ) (λp=>bd (dr p.2 p.1) (λa=>match Ao a with
 |some b=>.ok (eB b,p.2)
 |none=>.bad) .mk) .mk:=rfl
@[simp] theorem ahe(c:Str)(f:EF)(ρ : En):zT c f ρ = bd (f ρ) (λ_=>.ex c) .mk:=rfl
theorem ab9{cs:List Str}{j:Nat}{fb fh:SF}{ρ : En}{q:Fl × En}(h:fb ρ=.ok q):pF cs j fb fh ρ=.ok q:=by
 unfold pF
 rw[h]
theorem acd{cs:List Str}{j:Nat}{fb fh:SF}{ρ : En}{c:Str}(h:fb ρ=.ex c)(hc:c∈cs):pF cs j fb fh ρ = bd (aY (fh (ρ.set j (.sh (.dD c))))) (λq=>.ok (q.1,q.2.set j .un)) .mk:=by
 unfold pF
 rw[h]
 exact if_pos hc
end L2
namespace BH
open PySem L2
theorem ace{T:Tr}(h:iZ T=false):n6 [T]=.ex "NoBook" := by
 have e:=Ro T
 rw[h]at e
 unfold n6 Ho cG
 simp -dsimp[aZ,drs,dr,aK,e,bh]
end BH
end
section
namespace BH
open PySem L2
theorem acf{α : Type}(n:Nat)(l:List α):(List.replicate n l).flatten.length=n*l.length:=by
 rw[List.length_flatten,List.map_replicate,List.sum_replicate_nat]
theorem acg(L:List Tr)(k:Nat):nU none (some (k:Int)) (.lst L)=.ok (.lst (L.take k),true):=by
 show Rs.ok (Tr.lst (L2.cut L none (some (k:Int))),true)=_
 rw[ab7]
theorem ach(L:List Tr)(k:Nat):nU (some (k:Int)) none (.lst L)=.ok (.lst (L.drop k),true):=by
 show Rs.ok (Tr.lst (L2.cut L (some (k:Int)) none),true)=_
 rw[ab6]
theorem RD{A B:List Tr}(h:A.length+B.length<=100000):aN (.lst A) (.lst B)=.ok (.lst (A++B),true):=by
 show(if A.length+B.length<=100000 then Rs.ok (Tr.lst (A++B),true)else .bad)=_
 rw[if_pos h]
theorem aci{A:List Tr}{k:Nat}(h:A.length<=100)(hk:k<=1000):cO (.lst A) (.int (k:Nat))=.ok (.lst (List.replicate k A).flatten,true):=by
 show(if(-1000<=(k:Int)/\(k:Int)<=1000)/\A.length<=100 then Rs.ok (Tr.lst (List.replicate (k:Int).toNat A).flatten,true)else .bad)=_
 rw[if_pos (by omega),Int.toNat_natCast]
end BH
end
section
namespace RG
open PySem L2 BH K71
theorem RJ{α : Type}(a : α):aY (.ok a)=.ok a:=rfl
theorem pN(T:Tr):lG [T]=.ok (.bl (isW T),false):=by cases T <;> rfl
theorem vd(a b:Int):pK [.int a,.int b]=.ok (.int (Int.gcd a b:Nat),false):=Js a b
theorem lZ(n k:Int)(h:0<k)(hk:k.natAbs.log2<9000):cP [.lst [.int n],.int k]=.ok ((.int (n.fmod k),false),[.int (n.fdiv k)]):=by
 unfold cP Bo fX
 have h0:k≠0:=by omega
 have h1:jW n k=true:=by unfold jW; simp[h0,hk]
 simp -dsimp[aY,bB,cC,aV,con,bT,eB,aO,bh,dr,drs,cls,bx,cF,g1,g2,gI,bW,gB,aM,bQ,cM,aN,cO,dU,bD,dz,bA,bf,bR,cN,dw,aB,aJ,dW,bG,bN,dJ,dM,cZ,cj,okR,bU,aK,others,bH,aX,bF,bZ,cB,cA,eX,dG,eY,eG,eO,eH,dX,cD,eZ,eV,cV,cR,dg,aZ,h0,h1,dR,fC]
theorem lg{k:Int}(h:k.natAbs<2 ^ 60):k.natAbs.log2<9000:=Rq h (by omega)
theorem jQ(n k:Int)(h:0<k):0<=n.fmod k/\n.fmod k<k:=⟨Int.fmod_nonneg_of_pos n h,Int.fmod_lt_of_pos n h⟩
theorem Jw(x b:Int)(hx:0<=x)(hb:1<=b)(h1:x<=b)(h2:b<=1000000000000):∃y,lX [.int x,.int b]=.ok (fT y,false)/\Wo y:=by
 obtain⟨g1,g2,g3,g4,g5,g6,g7⟩:=Fi (a:=x) (b:=b) (by omega)
 have e1:x.fdiv (Int.gcd x b:Nat)=x / (Int.gcd x b:Nat):=Int.fdiv_eq_ediv_of_nonneg _ (by omega)
 have e2:b.fdiv (Int.gcd x b:Nat)=b / (Int.gcd x b:Nat):=Int.fdiv_eq_ediv_of_nonneg _ (by omega)
 refine⟨(x.fdiv (Int.gcd x b:Nat),b.fdiv (Int.gcd x b:Nat)),?_,?_⟩
 ·unfold lX xG cG fT
  generalize hg:((Int.gcd x b:Nat):Int)=g at g1 g2
  have hs:=vd x b
  rw[hg]at hs
  have h3:¬b<0:=by omega
  have c1:jW x g=true:=Ck (M:=60) (by omega) (by omega) (by omega)
  have c2:jW b g=true:=Ck (M:=60) (by omega) (by omega) (by omega)
  simp -dsimp[aY,bB,cC,aV,con,bT,eB,aO,bh,dr,drs,cls,bx,cF,g1,g2,gI,bW,gB,aM,bQ,cM,aN,cO,dU,bD,dz,bA,bf,bR,cN,dw,aB,aJ,dW,bG,bN,dJ,dM,cZ,cj,okR,bU,aK,others,bH,aX,bF,bZ,cB,cA,eX,dG,eY,eG,eO,eH,dX,cD,eZ,eV,cV,cR,dg,aZ,hs,h3,c1,c2]
 ·rw[e1,e2]
  refine⟨g5 hx,Int.ediv_le_ediv g1 h1,g3,?_,g4⟩
  have:=Int.ediv_le_self (a:=b) ((Int.gcd x b:Nat):Int) (by omega)
  show b / ((Int.gcd x b:Nat):Int)<=1000000000000
  omega
theorem Jx(n:Int):∃y m,j5 [.lst [.int n]]=.ok ((fT y,false),[.int m])/\Wo y:=by
 have hr:=jQ n 8 (by omega)
 have ht:=lZ n 8 (by omega) (by decide)
 have ff:∀(b c m:Int),c=b+1->1<=b->b<=1000000000000->∃y x m',cP [.lst [.int m],.int c]=.ok ((.int x,false),[.int m'])/\lX [.int x,.int b]=.ok (fT y,false)/\Wo y:=λb c m hc h1 h2=>by
  subst hc
  have hh:=jQ m (b+1) (by omega)
  obtain⟨T,e,p⟩:=Jw (m.fmod (b+1)) b hh.1 h1 (by omega) h2
  exact⟨T,_,_,lZ m (b+1) (by omega) (lg (by omega)),e,p⟩
 generalize n.fmod 8=k at hr ht
 generalize n.fdiv 8=m at ht
 unfold j5 Bp fX
 have hc:k=0\/k=1\/k=2\/k=3\/k=4\/k=5\/k=6\/k=7:=by omega
 rcases hc with rfl|rfl|rfl|rfl|rfl|rfl|rfl|rfl
 ·exact⟨(0,1),m,by simp -dsimp[aY,bB,cC,aV,con,bT,eB,aO,bh,dr,drs,cls,bx,cF,g1,g2,gI,bW,gB,aM,bQ,cM,aN,cO,dU,bD,dz,bA,bf,bR,cN,dw,aB,aJ,dW,bG,bN,dJ,dM,cZ,cj,okR,bU,aK,others,bH,aX,bF,bZ,cB,cA,eX,dG,eY,eG,eO,eH,dX,cD,eZ,eV,cV,cR,dg,aZ,ht,dR,fC,fT],by decide⟩
 ·exact⟨(1,1),m,by simp -dsimp[aY,bB,cC,aV,con,bT,eB,aO,bh,dr,drs,cls,bx,cF,g1,g2,gI,bW,gB,aM,bQ,cM,aN,cO,dU,bD,dz,bA,bf,bR,cN,dw,aB,aJ,dW,bG,bN,dJ,dM,cZ,cj,okR,bU,aK,others,bH,aX,bF,bZ,cB,cA,eX,dG,eY,eG,eO,eH,dX,cD,eZ,eV,cV,cR,dg,aZ,ht,dR,fC,fT],by decide⟩
 ·obtain⟨T,x,m',e1,e2,p⟩:=ff 2 3 m (by omega) (by omega) (by omega)
  exact⟨T,m',by simp -dsimp[aY,bB,cC,aV,con,bT,eB,aO,bh,dr,drs,cls,bx,cF,g1,g2,gI,bW,gB,aM,bQ,cM,aN,cO,dU,bD,dz,bA,bf,bR,cN,dw,aB,aJ,dW,bG,bN,dJ,dM,cZ,cj,okR,bU,aK,others,bH,aX,bF,bZ,cB,cA,eX,dG,eY,eG,eO,eH,dX,cD,eZ,eV,cV,cR,dg,aZ,ht,dR,fC,e1,e2],p⟩
 ·obtain⟨T,x,m',e1,e2,p⟩:=ff 3 4 m (by omega) (by omega) (by omega)
  exact⟨T,m',by simp -dsimp[aY,bB,cC,aV,con,bT,eB,aO,bh,dr,drs,cls,bx,cF,g1,g2,gI,bW,gB,aM,bQ,cM,aN,cO,dU,bD,dz,bA,bf,bR,cN,dw,aB,aJ,dW,bG,bN,dJ,dM,cZ,cj,okR,bU,aK,others,bH,aX,bF,bZ,cB,cA,eX,dG,eY,eG,eO,eH,dX,cD,eZ,eV,cV,cR,dg,aZ,ht,dR,fC,e1,e2],p⟩
 ·obtain⟨T,x,m',e1,e2,p⟩:=ff 4 5 m (by omega) (by omega) (by omega)
  exact⟨T,m',by simp -dsimp[aY,bB,cC,aV,con,bT,eB,aO,bh,dr,drs,cls,bx,cF,g1,g2,gI,bW,gB,aM,bQ,cM,aN,cO,dU,bD,dz,bA,bf,bR,cN,dw,aB,aJ,dW,bG,bN,dJ,dM,cZ,cj,okR,bU,aK,others,bH,aX,bF,bZ,cB,cA,eX,dG,eY,eG,eO,eH,dX,cD,eZ,eV,cV,cR,dg,aZ,ht,dR,fC,e1,e2],p⟩
 ·obtain⟨T,x,m',e1,e2,p⟩:=ff 6 7 m (by omega) (by omega) (by omega)
  exact⟨T,m',by simp -dsimp[aY,bB,cC,aV,con,bT,eB,aO,bh,dr,drs,cls,bx,cF,g1,g2,gI,bW,gB,aM,bQ,cM,aN,cO,dU,bD,dz,bA,bf,bR,cN,dw,aB,aJ,dW,bG,bN,dJ,dM,cZ,cj,okR,bU,aK,others,bH,aX,bF,bZ,cB,cA,eX,dG,eY,eG,eO,eH,dX,cD,eZ,eV,cV,cR,dg,aZ,ht,dR,fC,e1,e2],p⟩
 ·obtain⟨T,x,m',e1,e2,p⟩:=ff 12 13 m (by omega) (by omega) (by omega)
  exact⟨T,m',by simp -dsimp[aY,bB,cC,aV,con,bT,eB,aO,bh,dr,drs,cls,bx,cF,g1,g2,gI,bW,gB,aM,bQ,cM,aN,cO,dU,bD,dz,bA,bf,bR,cN,dw,aB,aJ,dW,bG,bN,dJ,dM,cZ,cj,okR,bU,aK,others,bH,aX,bF,bZ,cB,cA,eX,dG,eY,eG,eO,eH,dX,cD,eZ,eV,cV,cR,dg,aZ,ht,dR,fC,e1,e2],p⟩
 ·have h9:=lZ m 999999999999 (by omega) (by decide)
  have hr:=jQ m 999999999999 (by omega)
  generalize m.fmod 999999999999=b0 at h9 hr
  generalize m.fdiv 999999999999=m1 at h9
  obtain⟨T,x,m',e1,e2,p⟩:=ff (1+b0) (1+b0+1) m1 (by omega) (by omega) (by omega)
  exact⟨T,m',by simp -dsimp[aY,bB,cC,aV,con,bT,eB,aO,bh,dr,drs,cls,bx,cF,g1,g2,gI,bW,gB,aM,bQ,cM,aN,cO,dU,bD,dz,bA,bf,bR,cN,dw,aB,aJ,dW,bG,bN,dJ,dM,cZ,cj,okR,bU,aK,others,bH,aX,bF,bZ,cB,cA,eX,dG,eY,eG,eO,eH,dX,cD,eZ,eV,cV,cR,dg,aZ,ht,dR,fC,qU,tiny,h9,e1,e2],p⟩
theorem jO:∀(n:Nat) (lo:Int),(upTo lo n).length=n
 | 0,_=>rfl
 |n+1,lo=>by unfold L2.upTo; rw[List.length_cons,jO n]
theorem xU:∀(us:List Tr) (s:Sl) (n:Int),∃(ws:List (Int × Int)) (s':Sl) (m:Int),jH (gN 0) d8 (cu 0 j5 (ak (aj 1) ao)) us [s,.rf [.int n]]=.ok (ws.map fT,[s',.rf [.int m]])/\ws.length=us.length/\∀w∈ws,Wo w
 | [],s,n=>⟨[],s,n,rfl,rfl,by simp⟩
 |u::us,s,n=>by
  obtain⟨T,m1,e,p⟩:=Jx n
  obtain⟨ws,s',m,e',hl,hp⟩:=xU us (.sh u) m1
  refine⟨T::ws,s',m,?_,by simp[hl],λw hw=>(List.mem_cons.mp hw).elim (λz=>z▸p) (hp w)⟩
  have e1:cu 0 j5 (ak (aj 1) ao) [.sh u,.rf [.int n]]=.ok (.v (fT T) false,[.sh u,.rf [.int m1]]):=by simp -dsimp[aY,bB,cC,aV,con,bT,eB,aO,bh,dr,drs,cls,bx,cF,g1,g2,gI,bW,gB,aM,bQ,cM,aN,cO,dU,bD,dz,bA,bf,bR,cN,dw,aB,aJ,dW,bG,bN,dJ,dM,cZ,cj,okR,bU,aK,others,bH,aX,bF,bZ,cB,cA,eX,dG,eY,eG,eO,eH,dX,cD,eZ,eV,cV,cR,dg,aZ,e]
  generalize cu 0 j5 (ak (aj 1) ao)=G at e1 e' ⊢
  unfold jH
  simp[e1,bx,e']
def qG:EF:=(fO [none,some 2] (iG (ak (aj 1) ao)) (gN 0) d8 (cu 0 j5 (ak (aj 1) ao)))
theorem Jy(u:Tr)(c:Nat)(hc:c<=12)(n:Int):∃l m,qG [.sh u,.sh (.int c),.rf [.int n]]=.ok (.v (dH l) true,[.sh u,.sh (.int c),.rf [.int m]])/\l.length=c/\∀e∈l,Wo e:=by
 obtain⟨ws,s',m,e,hl,hp⟩:=xU (upTo 0 c) .un n
 rw[jO]at hl
 refine⟨ws,m,?_,hl,hp⟩
 unfold qG dH
 generalize cu 0 j5 (ak (aj 1) ao)=G at e ⊢
 have h1:(-1000000:Int)<=c:=by omega
 have h2:(c:Int)<=1000000:=by omega
 have h3:c<=100000:=by omega
 simp -dsimp[aY,bB,cC,aV,con,bT,eB,aO,bh,dr,drs,cls,bx,cF,g1,g2,gI,bW,gB,aM,bQ,cM,aN,cO,dU,bD,dz,bA,bf,bR,cN,dw,aB,aJ,dW,bG,bN,dJ,dM,cZ,cj,okR,bU,aK,others,bH,aX,bF,bZ,cB,cA,eX,dG,eY,eG,eO,eH,dX,cD,eZ,eV,cV,cR,dg,aZ,h1,h2,h3,e,jO]
theorem xV(c:Nat)(hc:c<=12):∀(us:List Tr) (s:Sl) (n:Int),∃(rows:List (List (Int × Int))) (s':Sl) (m:Int),jH (gN 0) d8 qG us [s,.sh (.int c),.rf [.int n]]=.ok (rows.map dH,[s',.sh (.int c),.rf [.int m]])/\rows.length=us.length/\Rt c rows
 | [],s,n=>⟨[],s,n,rfl,rfl,by intro r hr; simp at hr⟩
 |u::us,s,n=>by
  obtain⟨l,m1,e,hl,p⟩:=Jy u c hc n
  obtain⟨rows,s',m,e',hl',hp⟩:=xV c hc us (.sh u) m1
  refine⟨l::rows,s',m,?_,by simp[hl'],?_⟩
  ·unfold jH
   simp[e,bx,e']
  ·intro r hr
   rcases List.mem_cons.mp hr with rfl|hr
   ·exact⟨hl,p⟩
   ·exact hp r hr
theorem RK(n:Int):∃rows c m,tW [.lst [.int n]]=.ok ((jy rows,true),[.int m])/\Bk c rows:=by
 have t1:=lZ n 4 (by omega) (by decide)
 have r1:=jQ n 4 (by omega)
 generalize n.fmod 4=a at t1 r1
 generalize n.fdiv 4=n1 at t1
 have t2:=lZ n1 12 (by omega) (by decide)
 have r2:=jQ n1 12 (by omega)
 generalize n1.fmod 12=b at t2 r2
 generalize n1.fdiv 12=n2 at t2
 obtain⟨c,hc⟩:∃c:Nat,(c:Int)=1+b:=⟨(1+b).toNat,by omega⟩
 obtain⟨k,hk⟩:∃c:Nat,(c:Int)=1+a:=⟨(1+a).toNat,by omega⟩
 obtain⟨rows,s',m,e,hl,hs⟩:=xV c (by omega) (upTo 0 k) .un n2
 rw[jO]at hl
 refine⟨rows,c,m,?_,by omega,by omega,by omega,by omega,hs⟩
 show fX 3 0 (aC (bL (aq aN (eC (.int 1)) (cu 0 cP (ak (aj 0) (ak (eC (.int 4)) ao)))) (gN 1)) (aC (bL (aq aN (eC (.int 1)) (cu 0 cP (ak (aj 0) (ak (eC (.int 12)) ao)))) (gN 2)) (aW (fO [none,some 2,some 0] (iG (ak (aj 1) ao)) (gN 0) d8 qG)))) _=_
 unfold fX jy
 have h1:(-1000000:Int)<=k:=by omega
 have h2:(k:Int)<=1000000:=by omega
 have h3:k<=100000:=by omega
 simp -dsimp[aY,bB,cC,aV,con,bT,eB,aO,bh,dr,drs,cls,bx,cF,g1,g2,gI,bW,gB,aM,bQ,cM,aN,cO,dU,bD,dz,bA,bf,bR,cN,dw,aB,aJ,dW,bG,bN,dJ,dM,cZ,cj,okR,bU,aK,others,bH,aX,bF,bZ,cB,cA,eX,dG,eY,eG,eO,eH,dX,cD,eZ,eV,cV,cR,dg,aZ,t1,t2,<-hc,<-hk,h1,h2,h3,jO,e,dR,fC]
theorem xW{i:Int}(h : -1000000000000000000<i/\i<1000000000000000000):tiny i=true:=by
 unfold tiny
 rw[Bool.and_eq_true]
 exact⟨decide_eq_true (by omega),decide_eq_true (by omega)⟩
theorem oA{i j:Int}(h : -1000000000000000000<i/\i<1000000000000000000):ig i j=true:=by unfold ig; rw[xW h]; simp
theorem uf{i j:Int}(h : -1000000000000000000<j/\j<1000000000000000000):ig i j=true:=by unfold ig; rw[xW h]; simp
theorem Jz(a k:Int)(h0:0<=k)(h1:k<100000):∃x,qy [.int a,.int k]=.ok (.int x,false):=by
 have c1:ig (a.fmod 2147483629) 69621=true:=uf (by omega)
 have c2:ig 40503 k=true:=oA (by omega)
 have c3:ig (40503*k) k=true:=uf (by omega)
 have c4:ig 16807 k=true:=oA (by omega)
 generalize hA:a.fmod 2147483629*69621+40503*k*k+16807*k+1048583=A
 have rA:=jQ A 2147483647 (by omega)
 generalize hB:A.fmod 2147483647=B at rA
 have c5:ig B B=true:=oA (by omega)
 have rB:=jQ (B*B) 2147483629 (by omega)
 generalize hC:(B*B).fmod 2147483629=C at rB
 have c6:ig C (C+2)=true:=oA (by omega)
 refine⟨(C*(C+2)).fmod 2147483587,?_⟩
 unfold qy Bl cG
 simp -dsimp[aY,bB,cC,aV,con,bT,eB,aO,bh,dr,drs,cls,bx,cF,g1,g2,gI,bW,gB,aM,aN,bD,bA,bf,bR,aJ,bG,bN,cj,okR,bU,aK,others,bH,aX,bF,bZ,cB,cA,cD,aZ,cO,c1,c2,c3,c4,hA,hB,c5,hC,c6]
def lJ:SF:=(bL (aq aN (aq cO (aj 3) (eC (.int 2147483587))) (cJ qy (ak (aj 2) (ak (aq aN (aq cO (eC (.int 31)) (aj 1)) (aj 4)) ao)))) (gN 3))
theorem xX(S:Tr)(k cell:Int)(h0:0<=k)(h1:k<1000):∀(us:List Tr) (j6:Int) (s:Sl),(∀u∈us,∃j:Int,u=.int j/\0<=j/\j<1000)->∃x s',je (gN 4) lJ us [.sh S,.sh (.int k),.sh (.int cell),.sh (.int j6),s]=.ok (.nx,[.sh S,.sh (.int k),.sh (.int cell),.sh (.int x),s'])
 | [],j6,s,_=>⟨j6,s,rfl⟩
 |u::us,j6,s,h=>by
  obtain⟨j,rfl,j0,j1⟩:=h u (by simp)
  obtain⟨y,e⟩:=Jz cell (31*k+j) (by omega) (by omega)
  obtain⟨x,s',e'⟩:=xX S k cell h0 h1 us (j6*2147483587+y) (.sh (.int j)) λv hv=>h v (by simp[hv])
  have c1:ig j6 2147483587=true:=uf (by omega)
  have c2:ig 31 k=true:=oA (by omega)
  have e2:lJ [.sh S,.sh (.int k),.sh (.int cell),.sh (.int j6),.sh (.int j)]=.ok (.nx,[.sh S,.sh (.int k),.sh (.int cell),.sh (.int (j6*2147483587+y)),.sh (.int j)]):=by
   unfold lJ
   simp -dsimp[aY,bB,cC,aV,con,bT,eB,aO,bh,dr,drs,cls,bx,cF,g1,g2,gI,bW,gB,aM,aN,bD,bA,bf,bR,aJ,bG,bN,cj,okR,bU,aK,others,bH,aX,bF,bZ,cB,cA,cD,cO,c1,c2,e]
  refine⟨x,s',?_⟩
  unfold je
  simp[e2,e']
theorem vf:∀(n:Nat) (lo:Int) (u:Tr),u∈L2.upTo lo n->∃j:Int,u=.int j/\lo<=j/\j<lo+n
 | 0,_,u,h=>by simp[L2.upTo]at h
 |n+1,lo,u,h=>by
  unfold L2.upTo at h
  rcases List.mem_cons.mp h with rfl|h
  ·exact⟨lo,rfl,by omega,by omega⟩
  ·obtain⟨j,rfl,h1,h2⟩:=vf n (lo+1) u h
   exact⟨j,rfl,by omega,by omega⟩
noncomputable def mR:SF:=(aC (bM (bY (aq dw (aj 2) (aq dz (eC (.int 10)) (eC (.int 18))))) (aW (fK (ak (aq bA (aj 2) (aq dz (eC (.int 10)) (eC (.int 18)))) ao))) bV) (aC (bL (eC (.int 0)) (gN 3)) (aC (iW (jN (iG (ak (eC (.int 20)) ao)) (gN 4) lJ)) (aW (fK (ak (aj 3) ao))))))
theorem xY(S:Tr)(k:Nat)(hk:k<1000)(cell:Int):∃x ρ,mR [.sh S,.sh (.int k),.sh (.int cell),.un,.un]=.ok (.rt (.lst [.int x]) true,ρ):=by
 by_cases h:1000000000000000000<=cell
 ·refine⟨cell-1000000000000000000,[.sh S,.sh (.int k),.sh (.int cell),.un,.un],?_⟩
  unfold mR
  simp -dsimp[aY,bB,cC,aV,con,bT,eB,aO,bh,dr,drs,cls,bx,cF,g1,g2,gI,bW,gB,aM,aN,bD,bA,bf,bR,aJ,bG,bN,cj,okR,bU,aK,others,bH,aX,bF,bZ,cB,cA,cD,dw,dz,qU,tiny,h]
 ·obtain⟨x,s',e⟩:=xX S k cell (by omega) (by omega) (L2.upTo 0 20) 0 .un λu hu=>by
   obtain⟨j,rfl,h1,h2⟩:=vf _ _ _ hu
   exact⟨j,rfl,h1,by omega⟩
  have e1:iW (jN (iG (ak (eC (.int 20)) ao)) (gN 4) lJ) [.sh S,.sh (.int k),.sh (.int cell),.sh (.int 0),.un]=.ok (.nx,[.sh S,.sh (.int k),.sh (.int cell),.sh (.int x),s']):=by
   show aY (je (gN 4) lJ (L2.upTo 0 20) _)=_
   rw[e]
   rfl
  refine⟨x,[.sh S,.sh (.int k),.sh (.int cell),.sh (.int x),s'],?_⟩
  unfold mR
  generalize iW (jN (iG (ak (eC (.int 20)) ao)) (gN 4) lJ)=G at e1 ⊢
  simp -dsimp[aY,bB,cC,aV,con,bT,eB,aO,bh,dr,drs,cls,bx,cF,g1,g2,gI,bW,gB,aM,aN,bD,bA,bf,bR,aJ,bG,bN,cj,okR,bU,aK,others,bH,aX,bF,bZ,cB,cA,cD,dw,dz,qU,tiny,h,e1]
theorem RL(ns:List Int)(k:Nat)(hk:k<1000):∃x:Int,qz [.lst (ns.map .int),.int k]=.ok (.lst [.int x],true):=by
 have hd:Bm=(aC (bL (eC (.int 0)) (gN 2)) (aC (bM (bY (aq bf (aj 1) (bw (g1 aJ) (ak (aj 0) ao)))) (bL (aq aB (aj 0) (aj 1)) (gN 2)) bV) mR)):=rfl
 unfold qz
 rw[hd]
 by_cases h:k<ns.length
 ·have e:=BH.xR (xs:=ns.map .int) (i:=k) (T:=.int ns[k]) (by simp[h])
  obtain⟨x,ρ,e1⟩:=xY (.lst (ns.map .int)) k hk ns[k]
  refine⟨x,?_⟩
  unfold cG
  generalize mR=G at e1 ⊢
  generalize ns[k]=cell at e e1
  simp -dsimp[aY,bB,cC,aV,con,bT,eB,aO,bh,dr,drs,cls,bx,cF,g1,g2,gI,bW,gB,aM,aN,bD,bA,bf,bR,aJ,bG,bN,cj,okR,bU,aK,others,bH,aX,bF,bZ,cB,cA,cD,aZ,h,e,e1]
 ·obtain⟨x,ρ,e1⟩:=xY (.lst (ns.map .int)) k hk 0
  refine⟨x,?_⟩
  unfold cG
  generalize mR=G at e1 ⊢
  simp -dsimp[aY,bB,cC,aV,con,bT,eB,aO,bh,dr,drs,cls,bx,cF,g1,g2,gI,bW,gB,aM,aN,bD,bA,bf,bR,aJ,bG,bN,cj,okR,bU,aK,others,bH,aX,bF,bZ,cB,cA,cD,aZ,h,e1]
end RG
end
section
namespace K71
open PySem L2 BH
theorem RJ{α : Type}(a : α):aY (.ok a)=.ok a:=rfl
theorem pN(T:Tr):lG [T]=.ok (.bl (isW T),false):=by cases T <;> rfl
theorem vd(a b:Int):pK [.int a,.int b]=.ok (.int (Int.gcd a b:Nat),false):=Js a b
theorem acj(T:Tr):qD [T]=.ok (.bl (iR T),false):=by
 unfold qD Ir cG
 cases T with
 |tup ts =>
  match ts with
  | []=>rfl
  | [_]=>rfl
  | [a,b] =>
   by_cases w:isW a=true
   case neg =>
    have w2:uc a b=false:=by cases a <;> first|rfl|exact absurd rfl w
    rw[Bool.not_eq_true]at w
    simp -dsimp[aY,bB,cC,aV,con,bT,eB,aO,bh,dr,drs,cls,bx,cF,g1,g2,gI,bW,gB,aM,bQ,cM,aN,cO,dU,bD,dz,bA,bf,bR,cN,dw,aB,aJ,dW,bG,bN,dJ,dM,cZ,cj,okR,bU,aK,others,bH,aX,bF,bZ,cB,cA,eX,dG,eY,eG,eO,eH,dX,cD,eZ,eV,cV,cR,dg,aZ,iR,w,w2,pN]
   by_cases w':isW b=true
   case neg =>
    have w2:uc a b=false:=by cases a <;> cases b <;> first|rfl|exact absurd rfl w'
    rw[Bool.not_eq_true]at w'
    simp -dsimp[aY,bB,cC,aV,con,bT,eB,aO,bh,dr,drs,cls,bx,cF,g1,g2,gI,bW,gB,aM,bQ,cM,aN,cO,dU,bD,dz,bA,bf,bR,cN,dw,aB,aJ,dW,bG,bN,dJ,dM,cZ,cj,okR,bU,aK,others,bH,aX,bF,bZ,cB,cA,eX,dG,eY,eG,eO,eH,dX,cD,eZ,eV,cV,cR,dg,aZ,iR,w,w',w2,pN]
   cases a <;> try cases w
   cases b <;> try cases w'
   rename_i p q
   by_cases h:q<1
   ·have h1:¬1<=q:=by omega
    simp -dsimp[aY,bB,cC,aV,con,bT,eB,aO,bh,dr,drs,cls,bx,cF,g1,g2,gI,bW,gB,aM,bQ,cM,aN,cO,dU,bD,dz,bA,bf,bR,cN,dw,aB,aJ,dW,bG,bN,dJ,dM,cZ,cj,okR,bU,aK,others,bH,aX,bF,bZ,cB,cA,eX,dG,eY,eG,eO,eH,dX,cD,eZ,eV,cV,cR,dg,aZ,iR,uc,pN,isW,h,h1]
   ·have h1:1<=q:=by omega
    simp -dsimp[aY,bB,cC,aV,con,bT,eB,aO,bh,dr,drs,cls,bx,cF,g1,g2,gI,bW,gB,aM,bQ,cM,aN,cO,dU,bD,dz,bA,bf,bR,cN,dw,aB,aJ,dW,bG,bN,dJ,dM,cZ,cj,okR,bU,aK,others,bH,aX,bF,bZ,cB,cA,eX,dG,eY,eG,eO,eH,dX,cD,eZ,eV,cV,cR,dg,aZ,iR,uc,pN,isW,h,h1,vd,Jt]
    by_cases h2:0<=p <;> by_cases h3:p<=q <;> simp[h2,h3]
  |a::b::c::r =>
   have:((r.length:Int)+1+1+1 == 2)=false:=by simp; omega
   simp -dsimp[aY,bB,cC,aV,con,bT,eB,aO,bh,dr,drs,cls,bx,cF,g1,g2,gI,bW,gB,aM,bQ,cM,aN,cO,dU,bD,dz,bA,bf,bR,cN,dw,aB,aJ,dW,bG,bN,dJ,dM,cZ,cj,okR,bU,aK,others,bH,aX,bF,bZ,cB,cA,eX,dG,eY,eG,eO,eH,dX,cD,eZ,eV,cV,cR,dg,aZ,iR,this]
 |_=>rfl
theorem RM{p:Tr->Bool}{b:SF}{s0:Sl}:∀(us:List Tr) (s:Sl),(∀u∈us,b [s0,.sh u]=.ok (if p u=true then .nx else .rt (.bl false) false,[s0,.sh u]))->∃s',je (gN 1) b us [s0,s]=.ok (if us.all p=true then .nx else .rt (.bl false) false,[s0,s'])
 | [],s,_=>⟨s,rfl⟩
 |u::us,s,q=>by
  have e:=q u (by simp)
  obtain⟨s',e'⟩:=RM us (.sh u) λv hv=>q v (by simp[hv])
  unfold je
  cases h:p u with
  |true =>
   rw[h]at e
   refine⟨s',?_⟩
   simp only[Jr,Rs.jM]
   rw[show List.set [s0,s] 1 (.sh u)=[s0,.sh u]from rfl,e,List.all_cons,h]
   exact e'
  |false =>
   rw[h]at e
   refine⟨.sh u,?_⟩
   simp only[Jr,Rs.jM]
   rw[show List.set [s0,s] 1 (.sh u)=[s0,.sh u]from rfl,e,List.all_cons,h]
   rfl
noncomputable def ug:SF:=(aC (bM (f9 (eE (dN (gJ .list (aj 1)))) (f9 (bY (aq bf (bw (g1 aJ) (ak (aj 1) ao)) (eC (.int 1)))) (f9 (bY (aq bR (bw (g1 aJ) (ak (aj 1) ao)) (eC (.int 12)))) (bY (aq bQ (bw (g1 aJ) (ak (aj 1) ao)) (bw (g1 aJ) (ak (aq aB (aj 0) (eC (.int 0))) ao))))))) (aW (eC (.bl false))) bV) (bM (eE (dN (bw (g1 cZ) (ak (fO [none] (fV (aj 1)) (gN 0) d8 (cJ qD (ak (aj 0) ao))) ao)))) (aW (eC (.bl false))) bV))
theorem RN(T u:Tr)(h:cV u .list=false):ug [.sh T,.sh u]=.ok (.rt (.bl false) false,[.sh T,.sh u]):=by
 unfold ug
 cases u <;> first|rfl|cases h
theorem acn(l0 rs:List Tr)(u:Tr):ug [.sh (.lst (.lst l0::rs)),.sh u]=.ok (if(iJ 12 u&&iB u == iB (.lst l0))=true then .nx else .rt (.bl false) false,[.sh (.lst (.lst l0::rs)),.sh u]):=by
 cases u with
 |lst l =>
  have h0:(0:Int)<(rs.length:Int)+1:=by omega
  unfold ug
  by_cases h1:(l.length:Int)<1
  ·have h1':¬(1:Int)<=l.length:=by omega
   simp -dsimp[aY,bB,cC,aV,con,bT,eB,aO,bh,dr,drs,cls,bx,cF,g1,g2,gI,bW,gB,aM,bQ,cM,aN,cO,dU,bD,dz,bA,bf,bR,cN,dw,aB,aJ,dW,bG,bN,dJ,dM,cZ,cj,okR,bU,aK,others,bH,aX,bF,bZ,cB,cA,eX,dG,eY,eG,eO,eH,dX,cD,eZ,eV,cV,cR,dg,aZ,h1,iJ,h1']
  by_cases h2:12<(l.length:Int)
  ·have h2':¬(l.length:Int)<=12:=by omega
   simp -dsimp[aY,bB,cC,aV,con,bT,eB,aO,bh,dr,drs,cls,bx,cF,g1,g2,gI,bW,gB,aM,bQ,cM,aN,cO,dU,bD,dz,bA,bf,bR,cN,dw,aB,aJ,dW,bG,bN,dJ,dM,cZ,cj,okR,bU,aK,others,bH,aX,bF,bZ,cB,cA,eX,dG,eY,eG,eO,eH,dX,cD,eZ,eV,cV,cR,dg,aZ,h1,h2,iJ,h2']
  by_cases h3:(l.length:Int)=l0.length
  ·have e:=xQ (F:=qD) (p:=iR) (us:=l) (ρ:=[.sh (.lst (.lst l0::rs)),.sh (.lst l)]) (i:=fV (aj 1)) (fe:=cJ qD (ak (aj 0) ao)) (by omega) rfl (λu _=>⟨false,by simp -dsimp[aY,bB,cC,aV,con,bT,eB,aO,bh,dr,drs,cls,bx,cF,g1,g2,gI,bW,gB,aM,bQ,cM,aN,cO,dU,bD,dz,bA,bf,bR,cN,dw,aB,aJ,dW,bG,bN,dJ,dM,cZ,cj,okR,bU,aK,others,bH,aX,bF,bZ,cB,cA,eX,dG,eY,eG,eO,eH,dX,cD,eZ,eV,cV,cR,dg,aZ,acj]⟩)
   generalize bw (g1 cZ) (ak (fO [none] (fV (aj 1)) (gN 0) d8 (cJ qD (ak (aj 0) ao))) ao)=G at e ⊢
   have h4:(iJ 12 (.lst l)&&iB (.lst l) == iB (.lst l0))=l.all iR:=by
    show(decide (1<=(l.length:Int))&&decide ((l.length:Int)<=12)&&l.all iR&&((l.length:Int) == l0.length))=_
    rw[decide_eq_true (by omega),decide_eq_true (by omega),h3]
    simp
   rw[h4]
   generalize l.all iR=bb at e
   have h3':((l.length:Int) == l0.length)=true:=by simp[h3]
   cases bb <;> simp -dsimp[aY,bB,cC,aV,con,bT,eB,aO,bh,dr,drs,cls,bx,cF,g1,g2,gI,bW,gB,aM,bQ,cM,aN,cO,dU,bD,dz,bA,bf,bR,cN,dw,aB,aJ,dW,bG,bN,dJ,dM,cZ,cj,okR,bU,aK,others,bH,aX,bF,bZ,cB,cA,eX,dG,eY,eG,eO,eH,dX,cD,eZ,eV,cV,cR,dg,aZ,h1,h2,h0,h3',e]
  ·have h4:(iJ 12 (.lst l)&&iB (.lst l) == iB (.lst l0))=false:=by
    show(iJ 12 (.lst l)&&((l.length:Int) == l0.length))=_
    rw[show((l.length:Int) == l0.length)=false by simpa using λz=>h3 (by omega)]
    simp
   rw[h4]
   have h3':((l.length:Int) == l0.length)=false:=by simpa using λz=>h3 (by omega)
   simp -dsimp[aY,bB,cC,aV,con,bT,eB,aO,bh,dr,drs,cls,bx,cF,g1,g2,gI,bW,gB,aM,bQ,cM,aN,cO,dU,bD,dz,bA,bf,bR,cN,dw,aB,aJ,dW,bG,bN,dJ,dM,cZ,cj,okR,bU,aK,others,bH,aX,bF,bZ,cB,cA,eX,dG,eY,eG,eO,eH,dX,cD,eZ,eV,cV,cR,dg,aZ,h1,h2,h0,h3']
 |_=>exact RN _ _ rfl
theorem RP(T:Tr):rR [T]=.ok (.bl (iZ T),false):=by
 unfold rR Iu cG
 cases T with
 |lst ts =>
  by_cases hl:1<=(ts.length:Int)/\(ts.length:Int)<=4
  case neg =>
   have h1:nH (.int (ts.length:Int)) [.int 1,.int 2,.int 3,.int 4]=false:=by
    simp[nH,cD]; omega
   have h2:iZ (.lst ts)=false:=by
    unfold iZ
    simp only[Bool.and_eq_false_iff,decide_eq_false_iff_not]
    by_cases h:1<=(ts.length:Int)
    ·exact .inl (.inl (.inr λz=>hl ⟨h,z⟩))
    ·exact .inl (.inl (.inl h))
   rw[h2]
   simp -dsimp[aY,bB,cC,aV,con,bT,eB,aO,bh,dr,drs,cls,bx,cF,g1,g2,gI,bW,gB,aM,bQ,cM,aN,cO,dU,bD,dz,bA,bf,bR,cN,dw,aB,aJ,dW,bG,bN,dJ,dM,cZ,cj,okR,bU,aK,others,bH,aX,bF,bZ,cB,cA,eX,dG,eY,eG,eO,eH,dX,cD,eZ,eV,cV,cR,dg,aZ,h1]
  obtain⟨r0,rs,rfl⟩:∃r0 rs,ts=r0::rs:=by cases ts with
   |nil=>simp at hl
   |cons a b=>exact⟨a,b,rfl⟩
  have h1:nH (.int ((r0::rs).length:Int)) [.int 1,.int 2,.int 3,.int 4]=true:=by
   simp only[nH,List.any_cons,List.any_nil,cD,Bool.or_eq_true,beq_iff_eq]; omega
  generalize hL:(iW (jN _ _ _))=L
  have key:∃s',L [.sh (.lst (r0::rs)),.un]=.ok (if iZ (.lst (r0::rs))=true then .nx else .rt (.bl false) false,[.sh (.lst (r0::rs)),s']):=by
   have hb1:iZ (.lst (r0::rs))=((r0::rs).all λr=>iJ 12 r&&iB r == iB r0):=by
    show(decide (1<=((r0::rs).length:Int))&&decide (((r0::rs).length:Int)<=4)&&(r0::rs).all (iJ 12)&&(r0::rs).all λr=>iB r == iB r0)=_
    rw[decide_eq_true hl.1,decide_eq_true hl.2]
    generalize (r0::rs)=l
    induction l with
    |nil=>rfl
    |cons a l ih=>simp only[List.all_cons,Bool.true_and]at ih ⊢; rw[<-ih]; cases iJ 12 a <;> cases(iB a == iB r0) <;> simp
   subst hL
   show ∃s',iW (jN (fV (aj 0)) (gN 1) ug) [.sh (.lst (r0::rs)),.un]=_
   by_cases hr:cV r0 .list=true
   ·cases r0 <;> try cases hr
    rename_i l0
    obtain⟨s',e⟩:=RM (p:=λr=>iJ 12 r&&iB r == iB (.lst l0)) (b:=ug) (s0:=.sh (.lst (.lst l0::rs))) (.lst l0::rs) .un λu _=>acn l0 rs u
    refine⟨s',?_⟩
    rw[hb1,<-RJ,<-e]
    rfl
   ·rw[Bool.not_eq_true]at hr
    have w:iJ 12 r0=false:=by cases r0 <;> first|rfl|cases hr
    refine⟨.sh r0,?_⟩
    rw[hb1,List.all_cons,w]
    have e:=RN (.lst (r0::rs)) r0 hr
    simp only[abU,abV,abX]
    show aY (je (gN 1) ug (r0::rs) [.sh (.lst (r0::rs)),.un])=_
    unfold je
    simp only[Jr,Rs.jM]
    rw[show List.set [Sl.sh (.lst (r0::rs)),.un] 1 (.sh r0)=[.sh (.lst (r0::rs)),.sh r0]from rfl,e]
    rfl
  obtain⟨s',e⟩:=key
  cases hb:iZ (.lst (r0::rs))with
  |true =>
   rw[hb]at e
   simp only[List.length_cons]at h1
   push_cast at h1
   simp -dsimp[aY,bB,cC,aV,con,bT,eB,aO,bh,dr,drs,cls,bx,cF,g1,g2,gI,bW,gB,aM,bQ,cM,aN,cO,dU,bD,dz,bA,bf,bR,cN,dw,aB,aJ,dW,bG,bN,dJ,dM,cZ,cj,okR,bU,aK,others,bH,aX,bF,bZ,cB,cA,eX,dG,eY,eG,eO,eH,dX,cD,eZ,eV,cV,cR,dg,aZ,h1,e]
  |false =>
   rw[hb]at e
   simp only[List.length_cons]at h1
   push_cast at h1
   simp -dsimp[aY,bB,cC,aV,con,bT,eB,aO,bh,dr,drs,cls,bx,cF,g1,g2,gI,bW,gB,aM,bQ,cM,aN,cO,dU,bD,dz,bA,bf,bR,cN,dw,aB,aJ,dW,bG,bN,dJ,dM,cZ,cj,okR,bU,aK,others,bH,aX,bF,bZ,cB,cA,eX,dG,eY,eG,eO,eH,dX,cD,eZ,eV,cV,cR,dg,aZ,h1,e]
 |_=>simp -dsimp[aY,bB,cC,aV,con,bT,eB,aO,bh,dr,drs,cls,bx,cF,g1,g2,gI,bW,gB,aM,bQ,cM,aN,cO,dU,bD,dz,bA,bf,bR,cN,dw,aB,aJ,dW,bG,bN,dJ,dM,cZ,cj,okR,bU,aK,others,bH,aX,bF,bZ,cB,cA,eX,dG,eY,eG,eO,eH,dX,cD,eZ,eV,cV,cR,dg,aZ,iZ]
end K71
end
section
namespace K71
open PySem L2 BH
mutual
noncomputable def jf:Tr->Bool
 |.int i=>decide (i.natAbs<10 ^ 60)
 |.str x=>x.cps.toList.all λc=>decide (c<16 ^ 8)
 |.tup ts=>kY ts
 |.lst ts=>kY ts
 |.dD _=>false
 |_=>true
noncomputable def kY:List Tr->Bool
 | []=>true
 |t::r=>jf t&&kY r
end
theorem lgS{k:Int}(h:k.natAbs<10 ^ 60):k.natAbs.log2<1920:=by
 by_cases z:k.natAbs=0
 ·rw[z]; decide
 ·have:=(Nat.log2_lt (n:=k.natAbs) (k:=200) z).mpr (by omega)
  omega
mutual
theorem RQ:∀t:Tr,jf t=true->iQ t=true
 |.non,_=>by simp only[iQ]
 |.bl _,_=>by simp only[iQ]
 |.int i,h=>by
  simp only[jf,decide_eq_true_eq]at h
  simp only[iQ,decide_eq_true_eq]
  exact lgS h
 |.str x,h=>by simpa only[iQ,jf]using h
 |.tup ts,h=>by
  simp only[jf]at h
  simp only[iQ]
  exact JB ts h
 |.lst ts,h=>by
  simp only[jf]at h
  simp only[iQ]
  exact JB ts h
 |.dD _,h=>by simp only[jf]at h; cases h
theorem JB:∀ts:List Tr,kY ts=true->oU ts=true
 | [],_=>by simp only[oU]
 |t::r,h=>by
  simp only[kY,Bool.and_eq_true]at h
  simp only[oU,Bool.and_eq_true]
  exact⟨RQ t h.1,JB r h.2⟩
end
theorem lZ(n k:Int)(h:0<k)(hk:k.natAbs.log2<9000):cP [.lst [.int n],.int k]=.ok ((.int (n.fmod k),false),[.int (n.fdiv k)]):=by
 unfold cP Bo fX
 have h0:k≠0:=by omega
 have h1:jW n k=true:=by unfold jW; simp[h0,hk]
 simp -dsimp[aY,bB,cC,aV,con,bT,eB,aO,bh,dr,drs,cls,bx,cF,g1,g2,gI,bW,gB,aM,bQ,cM,aN,cO,dU,bD,dz,bA,bf,bR,cN,dw,aB,aJ,dW,bG,bN,dJ,dM,cZ,cj,okR,bU,aK,others,bH,aX,bF,bZ,cB,cA,eX,dG,eY,eG,eO,eH,dX,cD,eZ,eV,cV,cR,dg,aZ,h0,h1,dR,fC]
theorem lg{k:Int}(h:k.natAbs<2 ^ 60):k.natAbs.log2<9000:=by
 by_cases z:k.natAbs=0
 ·rw[z]; decide
 ·have:=(Nat.log2_lt (n:=k.natAbs) (k:=200) z).mpr (by omega)
  omega
def Pr(T:Tr):Prop:=∃p q,T=.tup [.int p,.int q]/\p.natAbs<10 ^ 60/\q.natAbs<10 ^ 60
theorem Jw(x b:Int)(hx:0<=x)(hb:1<=b)(h1:x<=b)(h2:b<=1000000000000):∃T,lX [.int x,.int b]=.ok (T,false)/\Pr T:=by
 obtain⟨g1,g2,-,-⟩:=Fi (a:=x) (b:=b) (by omega)
 refine⟨.tup [.int (x.fdiv (Int.gcd x b:Nat)),.int (b.fdiv (Int.gcd x b:Nat))],?_,_,_,rfl,?_,?_⟩
 ·unfold lX xG cG
  generalize hg:((Int.gcd x b:Nat):Int)=g at g1 g2
  have hs:=vd x b
  rw[hg]at hs
  have h3:¬b<0:=by omega
  have c1:jW x g=true:=by unfold jW; simp only[Bool.and_eq_true,decide_eq_true_eq]; exact⟨by omega,lg (by omega)⟩
  have c2:jW b g=true:=by unfold jW; simp only[Bool.and_eq_true,decide_eq_true_eq]; exact⟨by omega,lg (by omega)⟩
  simp -dsimp[aY,bB,cC,aV,con,bT,eB,aO,bh,dr,drs,cls,bx,cF,g1,g2,gI,bW,gB,aM,bQ,cM,aN,cO,dU,bD,dz,bA,bf,bR,cN,dw,aB,aJ,dW,bG,bN,dJ,dM,cZ,cj,okR,bU,aK,others,bH,aX,bF,bZ,cB,cA,eX,dG,eY,eG,eO,eH,dX,cD,eZ,eV,cV,cR,dg,aZ,hs,h3,c1,c2]
 ·generalize ((Int.gcd x b:Nat):Int)=g at g1 g2
  rw[Int.fdiv_eq_ediv_of_nonneg x (by omega)]
  have:=Int.ediv_le_self (a:=x) g (by omega)
  have:=Int.ediv_nonneg (a:=x) (b:=g) (by omega) (by omega)
  omega
 ·generalize ((Int.gcd x b:Nat):Int)=g at g1 g2
  rw[Int.fdiv_eq_ediv_of_nonneg b (by omega)]
  have:=Int.ediv_le_self (a:=b) g (by omega)
  have:=Int.ediv_nonneg (a:=b) (b:=g) (by omega) (by omega)
  omega
theorem jQ(n k:Int)(h:0<k):0<=n.fmod k/\n.fmod k<k:=⟨Int.fmod_nonneg_of_pos n h,Int.fmod_lt_of_pos n h⟩
theorem Jx(n:Int):∃T m,j5 [.lst [.int n]]=.ok ((T,false),[.int m])/\Pr T:=by
 have hr:=jQ n 8 (by omega)
 have ht:=lZ n 8 (by omega) (by decide)
 have ff:∀(b c m:Int),c=b+1->1<=b->b<=1000000000000->∃T x m',cP [.lst [.int m],.int c]=.ok ((.int x,false),[.int m'])/\lX [.int x,.int b]=.ok (T,false)/\Pr T:=λb c m hc h1 h2=>by
  subst hc
  have hh:=jQ m (b+1) (by omega)
  obtain⟨T,e,p⟩:=Jw (m.fmod (b+1)) b hh.1 h1 (by omega) h2
  exact⟨T,_,_,lZ m (b+1) (by omega) (lg (by omega)),e,p⟩
 generalize n.fmod 8=k at hr ht
 generalize n.fdiv 8=m at ht
 unfold j5 Bp fX
 have hc:k=0\/k=1\/k=2\/k=3\/k=4\/k=5\/k=6\/k=7:=by omega
 rcases hc with rfl|rfl|rfl|rfl|rfl|rfl|rfl|rfl
 ·exact⟨.tup [.int 0,.int 1],m,by simp -dsimp[aY,bB,cC,aV,con,bT,eB,aO,bh,dr,drs,cls,bx,cF,g1,g2,gI,bW,gB,aM,bQ,cM,aN,cO,dU,bD,dz,bA,bf,bR,cN,dw,aB,aJ,dW,bG,bN,dJ,dM,cZ,cj,okR,bU,aK,others,bH,aX,bF,bZ,cB,cA,eX,dG,eY,eG,eO,eH,dX,cD,eZ,eV,cV,cR,dg,aZ,ht,dR,fC],0,1,rfl,by decide,by decide⟩
 ·exact⟨.tup [.int 1,.int 1],m,by simp -dsimp[aY,bB,cC,aV,con,bT,eB,aO,bh,dr,drs,cls,bx,cF,g1,g2,gI,bW,gB,aM,bQ,cM,aN,cO,dU,bD,dz,bA,bf,bR,cN,dw,aB,aJ,dW,bG,bN,dJ,dM,cZ,cj,okR,bU,aK,others,bH,aX,bF,bZ,cB,cA,eX,dG,eY,eG,eO,eH,dX,cD,eZ,eV,cV,cR,dg,aZ,ht,dR,fC],1,1,rfl,by decide,by decide⟩
 ·obtain⟨T,x,m',e1,e2,p⟩:=ff 2 3 m (by omega) (by omega) (by omega)
  exact⟨T,m',by simp -dsimp[aY,bB,cC,aV,con,bT,eB,aO,bh,dr,drs,cls,bx,cF,g1,g2,gI,bW,gB,aM,bQ,cM,aN,cO,dU,bD,dz,bA,bf,bR,cN,dw,aB,aJ,dW,bG,bN,dJ,dM,cZ,cj,okR,bU,aK,others,bH,aX,bF,bZ,cB,cA,eX,dG,eY,eG,eO,eH,dX,cD,eZ,eV,cV,cR,dg,aZ,ht,dR,fC,e1,e2],p⟩
 ·obtain⟨T,x,m',e1,e2,p⟩:=ff 3 4 m (by omega) (by omega) (by omega)
  exact⟨T,m',by simp -dsimp[aY,bB,cC,aV,con,bT,eB,aO,bh,dr,drs,cls,bx,cF,g1,g2,gI,bW,gB,aM,bQ,cM,aN,cO,dU,bD,dz,bA,bf,bR,cN,dw,aB,aJ,dW,bG,bN,dJ,dM,cZ,cj,okR,bU,aK,others,bH,aX,bF,bZ,cB,cA,eX,dG,eY,eG,eO,eH,dX,cD,eZ,eV,cV,cR,dg,aZ,ht,dR,fC,e1,e2],p⟩
 ·obtain⟨T,x,m',e1,e2,p⟩:=ff 4 5 m (by omega) (by omega) (by omega)
  exact⟨T,m',by simp -dsimp[aY,bB,cC,aV,con,bT,eB,aO,bh,dr,drs,cls,bx,cF,g1,g2,gI,bW,gB,aM,bQ,cM,aN,cO,dU,bD,dz,bA,bf,bR,cN,dw,aB,aJ,dW,bG,bN,dJ,dM,cZ,cj,okR,bU,aK,others,bH,aX,bF,bZ,cB,cA,eX,dG,eY,eG,eO,eH,dX,cD,eZ,eV,cV,cR,dg,aZ,ht,dR,fC,e1,e2],p⟩
 ·obtain⟨T,x,m',e1,e2,p⟩:=ff 6 7 m (by omega) (by omega) (by omega)
  exact⟨T,m',by simp -dsimp[aY,bB,cC,aV,con,bT,eB,aO,bh,dr,drs,cls,bx,cF,g1,g2,gI,bW,gB,aM,bQ,cM,aN,cO,dU,bD,dz,bA,bf,bR,cN,dw,aB,aJ,dW,bG,bN,dJ,dM,cZ,cj,okR,bU,aK,others,bH,aX,bF,bZ,cB,cA,eX,dG,eY,eG,eO,eH,dX,cD,eZ,eV,cV,cR,dg,aZ,ht,dR,fC,e1,e2],p⟩
 ·obtain⟨T,x,m',e1,e2,p⟩:=ff 12 13 m (by omega) (by omega) (by omega)
  exact⟨T,m',by simp -dsimp[aY,bB,cC,aV,con,bT,eB,aO,bh,dr,drs,cls,bx,cF,g1,g2,gI,bW,gB,aM,bQ,cM,aN,cO,dU,bD,dz,bA,bf,bR,cN,dw,aB,aJ,dW,bG,bN,dJ,dM,cZ,cj,okR,bU,aK,others,bH,aX,bF,bZ,cB,cA,eX,dG,eY,eG,eO,eH,dX,cD,eZ,eV,cV,cR,dg,aZ,ht,dR,fC,e1,e2],p⟩
 ·have h9:=lZ m 999999999999 (by omega) (by decide)
  have hr:=jQ m 999999999999 (by omega)
  generalize m.fmod 999999999999=b0 at h9 hr
  generalize m.fdiv 999999999999=m1 at h9
  obtain⟨T,x,m',e1,e2,p⟩:=ff (1+b0) (1+b0+1) m1 (by omega) (by omega) (by omega)
  exact⟨T,m',by simp -dsimp[aY,bB,cC,aV,con,bT,eB,aO,bh,dr,drs,cls,bx,cF,g1,g2,gI,bW,gB,aM,bQ,cM,aN,cO,dU,bD,dz,bA,bf,bR,cN,dw,aB,aJ,dW,bG,bN,dJ,dM,cZ,cj,okR,bU,aK,others,bH,aX,bF,bZ,cB,cA,eX,dG,eY,eG,eO,eH,dX,cD,eZ,eV,cV,cR,dg,aZ,ht,dR,fC,qU,tiny,h9,e1,e2],p⟩
end K71
end
section
namespace K71
open PySem L2 BH
theorem jO:∀(n:Nat) (lo:Int),(upTo lo n).length=n
 | 0,_=>rfl
 |n+1,lo=>by unfold L2.upTo; rw[List.length_cons,jO n]
def Sh(c:Nat)(rows:List Tr):Prop:=∀r∈rows,∃l,r=.lst l/\l.length=c/\∀e∈l,Pr e
theorem xU:∀(us:List Tr) (s:Sl) (n:Int),∃ws s' m,jH (gN 0) d8 (cu 0 j5 (ak (aj 1) ao)) us [s,.rf [.int n]]=.ok (ws,[s',.rf [.int m]])/\ws.length=us.length/\∀w∈ws,Pr w
 | [],s,n=>⟨[],s,n,rfl,rfl,by simp⟩
 |u::us,s,n=>by
  obtain⟨T,m1,e,p⟩:=Jx n
  obtain⟨ws,s',m,e',hl,hp⟩:=xU us (.sh u) m1
  refine⟨T::ws,s',m,?_,by simp[hl],by simpa using⟨p,hp⟩⟩
  have e1:cu 0 j5 (ak (aj 1) ao) [.sh u,.rf [.int n]]=.ok (.v T false,[.sh u,.rf [.int m1]]):=by simp -dsimp[aY,bB,cC,aV,con,bT,eB,aO,bh,dr,drs,cls,bx,cF,g1,g2,gI,bW,gB,aM,bQ,cM,aN,cO,dU,bD,dz,bA,bf,bR,cN,dw,aB,aJ,dW,bG,bN,dJ,dM,cZ,cj,okR,bU,aK,others,bH,aX,bF,bZ,cB,cA,eX,dG,eY,eG,eO,eH,dX,cD,eZ,eV,cV,cR,dg,aZ,e]
  generalize cu 0 j5 (ak (aj 1) ao)=G at e1 e' ⊢
  unfold jH
  simp[e1,bx,e']
def qG:EF:=(fO [none,some 2] (iG (ak (aj 1) ao)) (gN 0) d8 (cu 0 j5 (ak (aj 1) ao)))
theorem Jy(u:Tr)(c:Nat)(hc:c<=12)(n:Int):∃l m,qG [.sh u,.sh (.int c),.rf [.int n]]=.ok (.v (.lst l) true,[.sh u,.sh (.int c),.rf [.int m]])/\l.length=c/\∀e∈l,Pr e:=by
 obtain⟨ws,s',m,e,hl,hp⟩:=xU (upTo 0 c) .un n
 rw[jO]at hl
 refine⟨ws,m,?_,hl,hp⟩
 unfold qG
 generalize cu 0 j5 (ak (aj 1) ao)=G at e ⊢
 have h1:(-1000000:Int)<=c:=by omega
 have h2:(c:Int)<=1000000:=by omega
 have h3:c<=100000:=by omega
 simp -dsimp[aY,bB,cC,aV,con,bT,eB,aO,bh,dr,drs,cls,bx,cF,g1,g2,gI,bW,gB,aM,bQ,cM,aN,cO,dU,bD,dz,bA,bf,bR,cN,dw,aB,aJ,dW,bG,bN,dJ,dM,cZ,cj,okR,bU,aK,others,bH,aX,bF,bZ,cB,cA,eX,dG,eY,eG,eO,eH,dX,cD,eZ,eV,cV,cR,dg,aZ,h1,h2,h3,e,jO]
theorem xV(c:Nat)(hc:c<=12):∀(us:List Tr) (s:Sl) (n:Int),∃rows s' m,jH (gN 0) d8 qG us [s,.sh (.int c),.rf [.int n]]=.ok (rows,[s',.sh (.int c),.rf [.int m]])/\rows.length=us.length/\Sh c rows
 | [],s,n=>⟨[],s,n,rfl,rfl,by intro r hr; simp at hr⟩
 |u::us,s,n=>by
  obtain⟨l,m1,e,hl,p⟩:=Jy u c hc n
  obtain⟨rows,s',m,e',hl',hp⟩:=xV c hc us (.sh u) m1
  refine⟨.lst l::rows,s',m,?_,by simp[hl'],?_⟩
  ·unfold jH
   simp[e,bx,e']
  ·intro r hr
   rcases List.mem_cons.mp hr with rfl|hr
   ·exact⟨l,rfl,hl,p⟩
   ·exact hp r hr
theorem RK(n:Int):∃rows c m,tW [.lst [.int n]]=.ok ((.lst rows,true),[.int m])/\1<=rows.length/\rows.length<=4/\1<=c/\c<=12/\Sh c rows:=by
 have t1:=lZ n 4 (by omega) (by decide)
 have r1:=jQ n 4 (by omega)
 generalize n.fmod 4=a at t1 r1
 generalize n.fdiv 4=n1 at t1
 have t2:=lZ n1 12 (by omega) (by decide)
 have r2:=jQ n1 12 (by omega)
 generalize n1.fmod 12=b at t2 r2
 generalize n1.fdiv 12=n2 at t2
 obtain⟨c,hc⟩:∃c:Nat,(c:Int)=1+b:=⟨(1+b).toNat,by omega⟩
 obtain⟨k,hk⟩:∃c:Nat,(c:Int)=1+a:=⟨(1+a).toNat,by omega⟩
 obtain⟨rows,s',m,e,hl,hs⟩:=xV c (by omega) (upTo 0 k) .un n2
 rw[jO]at hl
 refine⟨rows,c,m,?_,by omega,by omega,by omega,by omega,hs⟩
 show fX 3 0 (aC (bL (aq aN (eC (.int 1)) (cu 0 cP (ak (aj 0) (ak (eC (.int 4)) ao)))) (gN 1)) (aC (bL (aq aN (eC (.int 1)) (cu 0 cP (ak (aj 0) (ak (eC (.int 12)) ao)))) (gN 2)) (aW (fO [none,some 2,some 0] (iG (ak (aj 1) ao)) (gN 0) d8 qG)))) _=_
 unfold fX
 have h1:(-1000000:Int)<=k:=by omega
 have h2:(k:Int)<=1000000:=by omega
 have h3:k<=100000:=by omega
 simp -dsimp[aY,bB,cC,aV,con,bT,eB,aO,bh,dr,drs,cls,bx,cF,g1,g2,gI,bW,gB,aM,bQ,cM,aN,cO,dU,bD,dz,bA,bf,bR,cN,dw,aB,aJ,dW,bG,bN,dJ,dM,cZ,cj,okR,bU,aK,others,bH,aX,bF,bZ,cB,cA,eX,dG,eY,eG,eO,eH,dX,cD,eZ,eV,cV,cR,dg,aZ,t1,t2,<-hc,<-hk,h1,h2,h3,jO,e,dR,fC]
end K71
end
section
namespace K71
open PySem L2 BH
def Sm(B D:Nat)(T:Tr):Prop:=jf T=true/\blk T<=B/\dep T<=D
theorem Sm.mono{B D B' D':Nat}{T:Tr}(h:Sm B D T)(hB:B<=B')(hD:D<=D'):Sm B' D' T:=⟨h.1,by have:=h.2.1; omega,by have:=h.2.2; omega⟩
theorem JC{B D:Nat}:∀{l:List Tr},(∀t∈l,Sm B D t)->kY l=true/\blks l<=l.length*(B+1)/\deps l<=D
 | [],_=>⟨by simp only[kY],by simp[blks],by simp[deps]⟩
 |t::l,h=>by
  obtain⟨a1,a2,a3⟩:=h t (by simp)
  obtain⟨b1,b2,b3⟩:=JC (l:=l) λu hu=>h u (by simp[hu])
  refine⟨by simp only[kY]; rw[a1,b1]; rfl,?_,?_⟩
  ·simp only[blks,List.length_cons]
   rw[Nat.succ_mul]
   omega
  ·simp only[deps]
   omega
theorem Sm.lst{B D N:Nat}{l:List Tr}(h:∀t∈l,Sm B D t)(hn:l.length*(B+1)<=N):Sm N (D+1) (.lst l):=by
 obtain⟨a,b,c⟩:=JC h
 exact⟨by simp only[jf]; exact a,by simp only[blk]; omega,by simp only[dep]; omega⟩
theorem Sm.tup{B D N:Nat}{l:List Tr}(h:∀t∈l,Sm B D t)(hn:l.length*(B+1)<=N):Sm N (D+1) (.tup l):=by
 obtain⟨a,b,c⟩:=JC h
 exact⟨by simp only[jf]; exact a,by simp only[blk]; omega,by simp only[dep]; omega⟩
theorem Sm.int{i:Int}(h:i.natAbs<10 ^ 60):Sm 0 0 (.int i):=⟨by simp only[jf]; exact decide_eq_true h,by simp[blk],by simp[dep]⟩
theorem Pr.sm{T:Tr}(h:Pr T):Sm 2 1 T:=by
 obtain⟨p,q,rfl,h1,h2⟩:=h
 exact Sm.tup (B:=0) (D:=0) (by intro t ht; rcases List.mem_cons.mp ht with rfl|ht; exact .int h1; rcases List.mem_cons.mp ht with rfl|ht; exact .int h2; simp at ht) (by simp)
def JD(B D:Nat)(T:Tr):Bool:=jf T&&decide (blk T<=B)&&decide (dep T<=D)
theorem gP{B D:Nat}{T:Tr}(h:JD B D T=true):Sm B D T:=by
 unfold JD at h
 rw[Bool.and_eq_true,Bool.and_eq_true]at h
 exact⟨h.1.1,of_decide_eq_true h.1.2,of_decide_eq_true h.2⟩
theorem Mh{xs:List Tr}{i:Nat}(h:i<xs.length):cR xs (i:Int)=some xs[i]:=by
 unfold cR dg
 simp[h]
theorem JF{xs:List Tr}{i:Nat}(h:i<xs.length):aB (.lst xs) (.int i)=.ok (xs[i],false):=by
 show(match cR xs i with
  |some t=>Rs.ok (t,false)
  |none=>.bad)=_
 rw[Mh h]
theorem aco(A B:List Tr)(hA:A.length=12)(hB:B.length=11)(n:Int):∃T m,fX 2 0 (aC (bL (fU A) (gN 1)) (aC (bL (aq aN (aj 1) (fU B)) (gN 1)) (aW (aq aB (aj 1) (cu 0 cP (ak (aj 0) (ak (eC (.int 23)) ao))))))) [.lst [.int n]]=.ok ((T,false),[.int m])/\T∈A++B:=by
 have t1:=lZ n 23 (by omega) (by decide)
 have r1:=jQ n 23 (by omega)
 generalize n.fmod 23=a at t1 r1
 generalize n.fdiv 23=m at t1
 obtain⟨i,rfl⟩:∃i:Nat,(i:Int)=a:=⟨a.toNat,by omega⟩
 have hi:i<(A++B).length:=by simp[hA,hB]; omega
 refine⟨(A++B)[i],m,?_,List.getElem_mem _⟩
 have e':=JF hi
 generalize (A++B)[i]=T at e'
 have hl:A.length+B.length<=100000:=by omega
 unfold fX
 simp -dsimp[aY,bB,cC,aV,con,bT,eB,aO,bh,dr,drs,cls,bx,cF,g1,g2,gI,bW,gB,aM,aN,bD,bA,bf,bR,aJ,bG,bN,cj,okR,bU,aK,others,bH,aX,bF,bZ,cB,cA,cD,aZ,hl,t1,dR,fC,e']
theorem acp(n:Int):∃T m,xH [.lst [.int n]]=.ok ((T,false),[.int m])/\Sm 12 4 T:=by
 obtain⟨T,m,e,ht⟩:=aco [.tup [.int 3,.int 2],.tup [.int (-1),.int 2],.tup [.int 2,.int 4],.tup [.int 0,.int 2],.tup [.int 1,.int 0],.tup [.int 0,.int 0],.tup [.int 1,.int (-1)],.tup [.bl true,.int 1],.tup [.int 1,.bl true],.tup [.int 0],.tup [.int 1,.int 2,.int 3],.tup []] [.lst [.int 1,.int 2],.int 1,.int 0,.non,.str "1/2",.bl true,.tup [.tup [.int 0,.int 1],.tup [.int 1,.int 1]],.tup [.int 1000000000000,.int 1000000000000],.tup [.str "0",.int 1],.tup [.non,.int 1],.lst []] rfl rfl n
 refine⟨T,m,e,gP (List.all_eq_true.mp ?_ T ht)⟩
 decide +kernel
theorem RT{c:Nat}:∀(rows:List Tr) (s:Sl),Sh c rows->∃s',tM (gN 0) d8 (bw (g1 bG) (ak (aj 0) ao)) rows [s]=.ok (rows,[s'])
 | [],s,_=>⟨s,rfl⟩
 |r::rows,s,h=>by
  obtain⟨l,rfl,hl,hp⟩:=h r (by simp)
  obtain⟨s',e⟩:=RT rows (.sh (.lst l)) λu hu=>h u (by simp[hu])
  refine⟨s',?_⟩
  have e1:bw (g1 bG) (ak (aj 0) ao) [.sh (.lst l)]=.ok (.v (.lst l) true,[.sh (.lst l)]):=rfl
  generalize bw (g1 bG) (ak (aj 0) ao)=G at e e1 ⊢
  unfold tM
  simp[e1,cF,e]
theorem acq{c:Nat}(rows:List Tr)(h:Sh c rows)(hn:rows.length<=100000)(σ : En):tO 2 [none] (fV (aj 0)) (gN 0) d8 (bw (g1 bG) (ak (aj 0) ao)) (.sh (.lst rows)::σ)=.ok (.nx,(Sl.sh (.lst rows)::σ).set 2 (.dp rows)):=by
 obtain⟨s',e⟩:=RT rows .un h
 generalize bw (g1 bG) (ak (aj 0) ao)=G at e ⊢
 simp -dsimp[aY,bB,cC,aV,con,bT,eB,aO,bh,dr,drs,cls,bx,cF,g1,g2,gI,bW,gB,aM,aN,bD,bA,bf,bR,aJ,bG,bN,cj,okR,bU,aK,others,bH,aX,bF,bZ,cB,cA,cD,e,hn]
end K71
end
section
namespace K71
open PySem L2 BH
noncomputable def X4:SF:=(m7 2 (aW (aq aB (fK (ak (fK ao) (ak (bw (g1 bN) (ak (aj 2) ao)) (ak (aq aB (aj 2) (eC (.int 0))) (ak (eC .non) (ak (eC (.str "1 1/2")) (ak (eC (.bl true)) (ak (eC (.int 7)) (ak (fU [.lst []]) (ak (fU [.lst [],.lst []]) ao)))))))))) (cu 0 cP (ak (aj 1) (ak (eC (.int 9)) ao))))))
def X5:SF:=(m7 2 (aW (aq aN (aj 2) (fO [none,some 2] (iG (ak (aq aN (eC (.int 1)) (cu 0 cP (ak (aj 1) (ak (eC (.int 4)) ao)))) ao)) (gN 0) d8 (bw (g1 bG) (ak (aq aB (aj 1) (eC (.int 0))) ao))))))
def X6:SF:=(m7 2 (zR 2 (aW (fO [none,some 5] (fV (aj 2)) (gN 0) d8 (o8 (aq cO (aj 0) (eC (.int 13))) oZ (o7 (aq aN (eC (.int 12)) (aq bD (aj 1) (eC (.int 2))))))))))
def X7:SF:=(uR 2 (jZ 4) rN (jZ 5))
def X8:SF:=(uR 2 (jZ 4) rC (Ai 2 (jZ 4) (jZ 5)))
noncomputable def X9:SF:=(m7 2 (wF 2 (aj 4) (aq aB (fK (ak (bw (g1 bN) (ak (aq aB (aj 2) (aj 4)) ao)) (ak (eC .non) (ak (aq aB (aq aB (aj 2) (aj 4)) (eC (.int 0))) (ak (fK (ak (aq aB (aj 2) (aj 4)) ao)) (ak (eC (.str "1")) ao)))))) (cu 0 cP (ak (aj 1) (ak (eC (.int 5)) ao))))))
def JG:SF:=(Aj 2 (jZ 4) (jZ 5) (cu 0 xH (ak (aj 1) ao)))
noncomputable def tl:SF:=(aC (bM (bY (aq aM (aj 3) (eC (.int 0)))) X4 bV) (aC (bM (bY (aq aM (aj 3) (eC (.int 1)))) X5 bV) (aC (bM (bY (aq aM (aj 3) (eC (.int 2)))) X6 bV) (aC (bM (bY (aq aM (aj 3) (eC (.int 3)))) X7 bV) (aC (bM (bY (aq aM (aj 3) (eC (.int 4)))) X8 bV) (aC (bM (bY (aq aM (aj 3) (eC (.int 5)))) X9 bV) (aC (bM (qX (bY (aq bR (aj 3) (eC (.int 5)))) (bY (aq bf (aj 3) (eC (.int 11))))) JG bV) (m7 2 (aW (aj 2))))))))))
theorem acr:Q9=(aC (tO 2 [none] (fV (aj 0)) (gN 0) d8 (bw (g1 bG) (ak (aj 0) ao))) (aC (bL (cu 0 cP (ak (aj 1) (ak (eC (.int 12)) ao))) (gN 3)) (aC (bL (cu 0 cP (ak (aj 1) (ak (bw (g1 aJ) (ak (aj 0) ao)) ao))) (gN 4)) (aC (bL (cu 0 cP (ak (aj 1) (ak (bw (g1 aJ) (ak (aq aB (aj 0) (eC (.int 0))) ao)) ao))) (gN 5)) tl)))):=rfl
theorem rZ(n k:Int)(h:0<k)(hk:k.natAbs<2 ^ 60):∃(i:Nat) (m:Int),cP [.lst [.int n],.int k]=.ok ((.int i,false),[.int m])/\(i:Int)<k:=by
 have r:=jQ n k h
 refine⟨(n.fmod k).toNat,n.fdiv k,?_,by omega⟩
 rw[lZ n k h (lg hk),show(((n.fmod k).toNat:Nat):Int)=n.fmod k by omega]
theorem xR{xs:List Tr}{i:Nat}{T:Tr}(h:xs[i]?=some T):aB (.lst xs) (.int i)=.ok (T,false):=by
 obtain⟨h1,h2⟩:=List.getElem?_eq_some_iff.mp h
 rw[JF h1,h2]
theorem JH{xs:List Tr}{i:Nat}(h:i<xs.length):∃T,T∈xs/\aB (.lst xs) (.int i)=.ok (T,false):=⟨xs[i],List.getElem_mem _,JF h⟩
theorem Cm(r:Tr)(rs:List Tr):aB (.lst (r::rs)) (.int 0)=.ok (r,false):=xR (i:=0) rfl
theorem JK{n i:Nat}(h:i<n):dg n (i:Int)=some i:=by unfold dg; simp[h]
theorem xZ{xs:List Tr}{i:Nat}{T:Tr}(h:xs[i]?=some T):jJ xs (.int i)=.ok (i,T):=by
 obtain⟨h1,h2⟩:=List.getElem?_eq_some_iff.mp h
 simp only[jJ,JK h1,h]
theorem Sh.sm{c:Nat}{rows:List Tr}(hc:c<=12)(h:Sh c rows):∀r∈rows,Sm 36 2 r:=λr hr=>by
 obtain⟨l,rfl,hl,hp⟩:=h r hr
 exact Sm.lst (B:=2) (D:=1) (λe he=>(hp e he).sm) (by omega)
def JL(hi:Option Int):Tr->Tr
 |.lst l=>.lst (cut (List.replicate 13 l).flatten none hi)
 |t=>t
section
variable {rows:List Tr}{c:Nat}(hs:Sh c rows)(hc:1<=c)(hc':c<=12)(h1:1<=rows.length)(h4:rows.length<=4)(n:Int)(s3 s4 s5:Sl)
include hs hc hc' h1 h4
theorem x4:∃T ρ m,X4 [.sh (.lst rows),.rf [.int n],.dp rows,s3,s4,s5]=.ok (.rt T false,ρ)/\ρ[1]?=some (.rf [.int m])/\Sm 4100 8 T:=by
 obtain⟨r0,rs,rfl⟩:∃r0 rs,rows=r0::rs:=by cases rows with
  |nil=>simp at h1
  |cons a b=>exact⟨a,b,rfl⟩
 obtain⟨i,m,t1,hi⟩:=rZ n 9 (by omega) (by decide)
 obtain⟨T,ht,e⟩:=JH (xs:=[.lst [],.tup (r0::rs),r0,.non,.str "1 1/2",.bl true,.int 7,.lst [.lst []],.lst [.lst [],.lst []]]) (i:=i) (by simp; omega)
 refine⟨T,[.sh (.lst (r0::rs)),.rf [.int m],.ow (r0::rs),s3,s4,s5],m,?_,rfl,?_⟩
 ·unfold X4
  simp -dsimp[aY,bB,cC,aV,con,bT,eB,aO,bh,dr,drs,cls,bx,cF,g1,g2,gI,bW,gB,aM,aN,bD,bA,bf,bR,aJ,bG,bN,cj,okR,bU,aK,others,bH,aX,bF,bZ,cB,cA,cD,t1,Cm,e]
 ·have hm:=hs.sm hc'
  simp only[List.mem_cons,List.not_mem_nil,or_false]at ht
  rcases ht with rfl|rfl|rfl|rfl|rfl|rfl|rfl|rfl|rfl
  ·exact gP (by decide +kernel)
  ·exact(Sm.tup hm (N:=148) (by omega)).mono (by omega) (by omega)
  ·exact(hm _ (by simp)).mono (by omega) (by omega)
  all_goals exact gP (by decide +kernel)
theorem x5:∃T fr ρ m,X5 [.sh (.lst rows),.rf [.int n],.dp rows,s3,s4,s5]=.ok (.rt T fr,ρ)/\ρ[1]?=some (.rf [.int m])/\Sm 4100 8 T:=by
 have hm:=hs.sm hc'
 obtain⟨l0,rs,rfl⟩:∃l0 rs,rows=.lst l0::rs:=by cases rows with
  |nil=>simp at h1
  |cons a b=>obtain⟨l,rfl,_⟩:=hs a (by simp); exact⟨l,b,rfl⟩
 obtain⟨i,m,t1,hi⟩:=rZ n 4 (by omega) (by decide)
 obtain⟨s',e⟩:=comp_map (f:=bw (g1 bG) (ak (aq aB (aj 1) (eC (.int 0))) ao)) (h:=λ_=>.lst l0) (τ:=[.ow (.lst l0::rs)]) (L2.upTo 0 (1+(i:Int)).toNat) .un λu _=>⟨true,by simp -dsimp[aY,bB,cC,aV,con,bT,eB,aO,bh,dr,drs,cls,bx,cF,g1,g2,gI,bW,gB,aM,aN,bD,bA,bf,bR,aJ,bG,bN,cj,okR,bU,aK,others,bH,aX,bF,bZ,cB,cA,cD,Cm]⟩
 have hl:=jO (1+(i:Int)).toNat 0
 refine⟨.lst ((.lst l0::rs)++(L2.upTo 0 (1+(i:Int)).toNat).map λ_=>.lst l0),true,[.sh (.lst (.lst l0::rs)),.rf [.int m],.ow (.lst l0::rs),s3,s4,s5],m,?_,rfl,?_⟩
 ·unfold X5
  generalize bw (g1 bG) (ak (aq aB (aj 1) (eC (.int 0))) ao)=G at e ⊢
  have q1:(-1000000:Int)<=1+i:=by omega
  have q2:(1+i:Int)<=1000000:=by omega
  have q3:(1+(i:Int)).toNat<=100000:=by omega
  have q4:rs.length+1+(1+(i:Int)).toNat<=100000:=by simp only[List.length_cons]at h4; omega
  simp -dsimp[aY,bB,cC,aV,con,bT,eB,aO,bh,dr,drs,cls,bx,cF,g1,g2,gI,bW,gB,aM,aN,bD,bA,bf,bR,aJ,bG,bN,cj,okR,bU,aK,others,bH,aX,bF,bZ,cB,cA,cD,t1,q1,q2,q3,q4,e,hl]
 ·refine(Sm.lst (B:=36) (D:=2) (N:=400) (λt ht=>?_) ?_).mono (by omega) (by omega)
  ·rcases List.mem_append.mp ht with ht|ht
   ·exact hm t ht
   ·obtain⟨_,_,rfl⟩:=List.mem_map.mp ht
    exact hm _ (by simp)
  ·simp only[List.length_append,List.length_map,hl]
   omega
omit hc h1 in
theorem x6(j:Nat):∃T fr ρ m,X6 [.sh (.lst rows),.rf [.int n],.dp rows,s3,s4,.sh (.int j)]=.ok (.rt T fr,ρ)/\ρ[1]?=some (.rf [.int m])/\Sm 4100 8 T:=by
 obtain⟨s',e⟩:=comp_map (f:=o8 (aq cO (aj 0) (eC (.int 13))) oZ (o7 (aq aN (eC (.int 12)) (aq bD (aj 1) (eC (.int 2)))))) (h:=λu=>JL (some (12+Int.fmod j 2)) u) (τ:=[.sh (.int j)]) rows .un λu hu=>by
  obtain⟨l,rfl,hl,hp⟩:=hs u hu
  have q:l.length<=100:=by omega
  exact⟨true,by simp -dsimp[aY,bB,cC,aV,con,bT,eB,aO,bh,dr,drs,cls,bx,cF,g1,g2,gI,bW,gB,aM,aN,bD,bA,bf,bR,aJ,bG,bN,cj,okR,bU,aK,others,bH,aX,bF,bZ,cB,cA,cD,cO,nU,q,JL]⟩
 refine⟨.lst (rows.map λu=>JL (some (12+Int.fmod j 2)) u),true,[.sh (.lst rows),.rf [.int n],.sh (.lst rows),s3,s4,.sh (.int j)],n,?_,rfl,?_⟩
 ·unfold X6
  generalize o8 (aq cO (aj 0) (eC (.int 13))) oZ (o7 (aq aN (eC (.int 12)) (aq bD (aj 1) (eC (.int 2)))))=G at e ⊢
  have q:rows.length<=100000:=by omega
  simp -dsimp[aY,bB,cC,aV,con,bT,eB,aO,bh,dr,drs,cls,bx,cF,g1,g2,gI,bW,gB,aM,aN,bD,bA,bf,bR,aJ,bG,bN,cj,okR,bU,aK,others,bH,aX,bF,bZ,cB,cA,cD,e,q]
 ·refine(Sm.lst (B:=468) (D:=2) (N:=1876) (λt ht=>?_) ?_).mono (by omega) (by omega)
  ·obtain⟨u,hu,rfl⟩:=List.mem_map.mp ht
   obtain⟨l,rfl,hl,hp⟩:=hs u hu
   refine Sm.lst (B:=2) (D:=1) (λe he=>?_) ?_
   ·have h2:=List.mem_of_mem_drop (List.mem_of_mem_take he)
    obtain⟨l',q1,q2⟩:=List.mem_flatten.mp h2
    rw[List.eq_of_mem_replicate q1]at q2
    exact(hp e q2).sm
   ·have:(cut (List.replicate 13 l).flatten none (some (12+Int.fmod j 2))).length<=13*l.length:=by
     unfold cut
     simp only[List.length_take,List.length_drop]
     have:(List.replicate 13 l).flatten.length=13*l.length:=by simp; omega
     omega
    have e:13*l.length<=156:=by omega
    exact Nat.le_trans (Nat.mul_le_mul_right 3 (Nat.le_trans this e)) (by omega)
  ·simp only[List.length_map]
   omega
theorem x7(i j:Nat)(hi:i<rows.length)(hj:j<c):∃jc,X7 [.sh (.lst rows),.rf [.int n],.dp rows,s3,.sh (.int i),.sh (.int j)]=.ok (.nx,[.sh (.lst rows),.rf [.int n],.dp jc,s3,.sh (.int i),.sh (.int j)])/\Sm 4100 8 (.lst jc):=by
 have hm:=hs.sm hc'
 obtain⟨l,el,hl,hp⟩:=hs rows[i] (List.getElem_mem _)
 have ei:rows[i]?=some (.lst l):=by rw[List.getElem?_eq_getElem hi,el]
 have hjl:j<l.length:=by omega
 have e1:=xZ ei
 have e2:rN l [.int j]=.ok (l.eraseIdx j,l[j]):=by
  have o:okR (j:Int)=true:=by unfold okR; simp; omega
  simp only[rN,o,(DP (JK hjl)).1,List.getElem?_eq_getElem hjl,if_true]
 refine⟨rows.set i (.lst (l.eraseIdx j)),?_,?_⟩
 ·unfold X7
  simp -dsimp[aY,bB,cC,aV,con,bT,eB,aO,bh,dr,drs,cls,bx,cF,g1,g2,gI,bW,gB,aM,aN,bD,bA,bf,bR,aJ,bG,bN,cj,okR,bU,aK,others,bH,aX,bF,bZ,cB,cA,cD,e1,e2]
 ·refine(Sm.lst (B:=36) (D:=2) (N:=400) (λt ht=>?_) (by simp; omega)).mono (by omega) (by omega)
  rcases List.mem_or_eq_of_mem_set ht with ht|rfl
  ·exact hm t ht
  ·exact Sm.lst (B:=2) (D:=1) (λe he=>(hp e (List.mem_of_mem_eraseIdx he)).sm) (by have:=List.length_eraseIdx_le l j; omega)
theorem x8(i j:Nat)(hi:i<rows.length)(hj:j<c):∃jc,X8 [.sh (.lst rows),.rf [.int n],.dp rows,s3,.sh (.int i),.sh (.int j)]=.ok (.nx,[.sh (.lst rows),.rf [.int n],.dp jc,s3,.sh (.int i),.sh (.int j)])/\Sm 4100 8 (.lst jc):=by
 have hm:=hs.sm hc'
 obtain⟨l,el,hl,hp⟩:=hs rows[i] (List.getElem_mem _)
 have ei:rows[i]?=some (.lst l):=by rw[List.getElem?_eq_getElem hi,el]
 have hjl:j<l.length:=by omega
 have e1:=xZ ei
 have e2:=xZ (List.getElem?_eq_getElem hjl)
 have hpe:Pr l[j]:=hp _ (List.getElem_mem _)
 generalize l[j]=T at e2 hpe
 have e3:rC l [T]=.ok (l++[T],.non):=by unfold rC; simp; omega
 refine⟨rows.set i (.lst (l++[T])),?_,?_⟩
 ·unfold X8
  simp -dsimp[aY,bB,cC,aV,con,bT,eB,aO,bh,dr,drs,cls,bx,cF,g1,g2,gI,bW,gB,aM,aN,bD,bA,bf,bR,aJ,bG,bN,cj,okR,bU,aK,others,bH,aX,bF,bZ,cB,cA,cD,e1,e2,e3]
 ·refine(Sm.lst (B:=39) (D:=2) (N:=400) (λt ht=>?_) (by simp; omega)).mono (by omega) (by omega)
  rcases List.mem_or_eq_of_mem_set ht with ht|rfl
  ·exact(hm t ht).mono (by omega) (by omega)
  ·refine Sm.lst (B:=2) (D:=1) (λe he=>?_) (by simp; omega)
   rcases List.mem_append.mp he with he|he
   ·exact(hp e he).sm
   ·rw[List.mem_singleton.mp he]; exact hpe.sm
theorem x9(i:Nat)(hi:i<rows.length):∃jc m,X9 [.sh (.lst rows),.rf [.int n],.dp rows,s3,.sh (.int i),s5]=.ok (.nx,[.sh (.lst rows),.rf [.int m],.ow jc,s3,.sh (.int i),s5])/\Sm 4100 8 (.lst jc):=by
 have hm:=hs.sm hc'
 obtain⟨l,el,hl,hp⟩:=hs rows[i] (List.getElem_mem _)
 have hml:=hm _ (List.getElem_mem hi)
 rw[el]at hml
 have ei:rows[i]?=some (.lst l):=by rw[List.getElem?_eq_getElem hi,el]
 have e1:=xR ei
 have e2:=JK hi
 obtain⟨a,l',rfl⟩:∃a l',l=a::l':=by cases l with
  |nil=>simp at hl; omega
  |cons a b=>exact⟨a,b,rfl⟩
 obtain⟨k,m,t1,hk⟩:=rZ n 5 (by omega) (by decide)
 obtain⟨T,ht,e⟩:=JH (xs:=[.tup (a::l'),.non,a,.lst [.lst (a::l')],.str "1"]) (i:=k) (by simp; omega)
 refine⟨rows.set i T,m,?_,?_⟩
 ·unfold X9
  simp -dsimp[aY,bB,cC,aV,con,bT,eB,aO,bh,dr,drs,cls,bx,cF,g1,g2,gI,bW,gB,aM,aN,bD,bA,bf,bR,aJ,bG,bN,cj,okR,bU,aK,others,bH,aX,bF,bZ,cB,cA,cD,e1,e2,Cm,t1,e]
 ·refine(Sm.lst (B:=400) (D:=4) (N:=2000) (λt hu=>?_) (by simp; omega)).mono (by omega) (by omega)
  rcases List.mem_or_eq_of_mem_set hu with hu|rfl
  ·exact(hm t hu).mono (by omega) (by omega)
  ·simp only[List.mem_cons,List.not_mem_nil,or_false]at ht
   rcases ht with rfl|rfl|rfl|rfl|rfl
   ·exact(Sm.tup (B:=2) (D:=1) (N:=36) (λe he=>(hp e he).sm) (by omega)).mono (by omega) (by omega)
   ·exact gP (by decide +kernel)
   ·exact((hp _ (by simp)).sm).mono (by omega) (by omega)
   ·exact(Sm.lst (B:=36) (D:=2) (N:=37) (λe he=>by rw[List.mem_singleton.mp he]; exact hml) (by simp)).mono (by omega) (by omega)
   ·exact gP (by decide +kernel)
theorem x10(i j:Nat)(hi:i<rows.length)(hj:j<c):∃jc m,JG [.sh (.lst rows),.rf [.int n],.dp rows,s3,.sh (.int i),.sh (.int j)]=.ok (.nx,[.sh (.lst rows),.rf [.int m],.dp jc,s3,.sh (.int i),.sh (.int j)])/\Sm 4100 8 (.lst jc):=by
 have hm:=hs.sm hc'
 obtain⟨l,el,hl,hp⟩:=hs rows[i] (List.getElem_mem _)
 have ei:rows[i]?=some (.lst l):=by rw[List.getElem?_eq_getElem hi,el]
 have hjl:j<l.length:=by omega
 have e1:=xZ ei
 have e2:=xZ (List.getElem?_eq_getElem hjl)
 obtain⟨T,m,t1,hT⟩:=acp n
 refine⟨rows.set i (.lst (l.set j T)),m,?_,?_⟩
 ·unfold JG
  simp -dsimp[aY,bB,cC,aV,con,bT,eB,aO,bh,dr,drs,cls,bx,cF,g1,g2,gI,bW,gB,aM,aN,bD,bA,bf,bR,aJ,bG,bN,cj,okR,bU,aK,others,bH,aX,bF,bZ,cB,cA,cD,e1,e2,t1]
 ·refine(Sm.lst (B:=200) (D:=5) (N:=2000) (λt ht=>?_) (by simp; omega)).mono (by omega) (by omega)
  rcases List.mem_or_eq_of_mem_set ht with ht|rfl
  ·exact(hm t ht).mono (by omega) (by omega)
  ·refine Sm.lst (B:=12) (D:=4) (λe he=>?_) (by simp; omega)
   rcases List.mem_or_eq_of_mem_set he with he|rfl
   ·exact((hp e he).sm).mono (by omega) (by omega)
   ·exact hT
end
end K71
end
section
namespace K71
open PySem L2 BH
section
variable {rows:List Tr}{c:Nat}(hs:Sh c rows)(hc:1<=c)(hc':c<=12)(h1:1<=rows.length)(h4:rows.length<=4)(n:Int)
include hs hc hc' h1 h4
theorem acs(w i j:Nat)(hw:w<12)(hi:i<rows.length)(hj:j<c):∃T fr ρ m,tl [.sh (.lst rows),.rf [.int n],.dp rows,.sh (.int w),.sh (.int i),.sh (.int j)]=.ok (.rt T fr,ρ)/\ρ[1]?=some (.rf [.int m])/\Sm 4100 8 T:=by
 have hz:w=0\/w=1\/w=2\/w=3\/w=4\/w=5\/(5<w/\w<11)\/w=11:=by omega
 rcases hz with rfl|rfl|rfl|rfl|rfl|rfl|hz|rfl
 ·obtain⟨T,ρ,m,e,e1,sm⟩:=x4 hs hc hc' h1 h4 n (.sh (.int 0)) (.sh (.int i)) (.sh (.int j))
  exact⟨T,false,ρ,m,by unfold tl; simp -dsimp[aY,bB,cC,aV,con,bT,eB,aO,bh,dr,drs,cls,bx,cF,g1,g2,gI,bW,gB,aM,aN,bD,bA,bf,bR,aJ,bG,bN,cj,okR,bU,aK,others,bH,aX,bF,bZ,cB,cA,cD,e],e1,sm⟩
 ·obtain⟨T,fr,ρ,m,e,e1,sm⟩:=x5 hs hc hc' h1 h4 n (.sh (.int 1)) (.sh (.int i)) (.sh (.int j))
  exact⟨T,fr,ρ,m,by unfold tl; simp -dsimp[aY,bB,cC,aV,con,bT,eB,aO,bh,dr,drs,cls,bx,cF,g1,g2,gI,bW,gB,aM,aN,bD,bA,bf,bR,aJ,bG,bN,cj,okR,bU,aK,others,bH,aX,bF,bZ,cB,cA,cD,e],e1,sm⟩
 ·obtain⟨T,fr,ρ,m,e,e1,sm⟩:=x6 hs hc' h4 n (.sh (.int 2)) (.sh (.int i)) j
  exact⟨T,fr,ρ,m,by unfold tl; simp -dsimp[aY,bB,cC,aV,con,bT,eB,aO,bh,dr,drs,cls,bx,cF,g1,g2,gI,bW,gB,aM,aN,bD,bA,bf,bR,aJ,bG,bN,cj,okR,bU,aK,others,bH,aX,bF,bZ,cB,cA,cD,e],e1,sm⟩
 ·obtain⟨jc,e,sm⟩:=x7 hs hc hc' h1 h4 n (.sh (.int 3)) i j hi hj
  exact⟨.lst jc,true,[.sh (.lst rows),.rf [.int n],.ow jc,.sh (.int 3),.sh (.int i),.sh (.int j)],n,by unfold tl; simp -dsimp[aY,bB,cC,aV,con,bT,eB,aO,bh,dr,drs,cls,bx,cF,g1,g2,gI,bW,gB,aM,aN,bD,bA,bf,bR,aJ,bG,bN,cj,okR,bU,aK,others,bH,aX,bF,bZ,cB,cA,cD,e],rfl,sm⟩
 ·obtain⟨jc,e,sm⟩:=x8 hs hc hc' h1 h4 n (.sh (.int 4)) i j hi hj
  exact⟨.lst jc,true,[.sh (.lst rows),.rf [.int n],.ow jc,.sh (.int 4),.sh (.int i),.sh (.int j)],n,by unfold tl; simp -dsimp[aY,bB,cC,aV,con,bT,eB,aO,bh,dr,drs,cls,bx,cF,g1,g2,gI,bW,gB,aM,aN,bD,bA,bf,bR,aJ,bG,bN,cj,okR,bU,aK,others,bH,aX,bF,bZ,cB,cA,cD,e],rfl,sm⟩
 ·obtain⟨jc,m,e,sm⟩:=x9 hs hc hc' h1 h4 n (.sh (.int 5)) (.sh (.int j)) i hi
  exact⟨.lst jc,true,[.sh (.lst rows),.rf [.int m],.ow jc,.sh (.int 5),.sh (.int i),.sh (.int j)],m,by unfold tl; simp -dsimp[aY,bB,cC,aV,con,bT,eB,aO,bh,dr,drs,cls,bx,cF,g1,g2,gI,bW,gB,aM,aN,bD,bA,bf,bR,aJ,bG,bN,cj,okR,bU,aK,others,bH,aX,bF,bZ,cB,cA,cD,e],rfl,sm⟩
 ·obtain⟨jc,m,e,sm⟩:=x10 hs hc hc' h1 h4 n (.sh (.int w)) i j hi hj
  have q0:((w:Int) == 0)=false:=by simp; omega
  have q1:((w:Int) == 1)=false:=by simp; omega
  have q2:((w:Int) == 2)=false:=by simp; omega
  have q3:((w:Int) == 3)=false:=by simp; omega
  have q4:((w:Int) == 4)=false:=by simp; omega
  have q5:((w:Int) == 5)=false:=by simp; omega
  have q6:5<(w:Int):=by omega
  have q7:(w:Int)<11:=by omega
  exact⟨.lst jc,true,[.sh (.lst rows),.rf [.int m],.ow jc,.sh (.int w),.sh (.int i),.sh (.int j)],m,by unfold tl; simp -dsimp[aY,bB,cC,aV,con,bT,eB,aO,bh,dr,drs,cls,bx,cF,g1,g2,gI,bW,gB,aM,aN,bD,bA,bf,bR,aJ,bG,bN,cj,okR,bU,aK,others,bH,aX,bF,bZ,cB,cA,cD,q0,q1,q2,q3,q4,q5,q6,q7,e],rfl,sm⟩
 ·refine⟨.lst rows,true,[.sh (.lst rows),.rf [.int n],.ow rows,.sh (.int 11),.sh (.int i),.sh (.int j)],n,by unfold tl; simp -dsimp[aY,bB,cC,aV,con,bT,eB,aO,bh,dr,drs,cls,bx,cF,g1,g2,gI,bW,gB,aM,aN,bD,bA,bf,bR,aJ,bG,bN,cj,okR,bU,aK,others,bH,aX,bF,bZ,cB,cA,cD],rfl,?_⟩
  exact(Sm.lst (B:=36) (D:=2) (N:=400) (hs.sm hc') (by omega)).mono (by omega) (by omega)
theorem RV:∃T fr m,oh [.lst rows,.lst [.int n]]=.ok ((T,fr),[.int m])/\Sm 4100 8 T:=by
 obtain⟨l0,rs,hr,hl0⟩:∃l0 rs,rows=.lst l0::rs/\l0.length=c:=by cases rows with
  |nil=>simp at h1
  |cons a b=>obtain⟨l,rfl,q,_⟩:=hs a (by simp); exact⟨l,b,rfl,q⟩
 obtain⟨w,m1,t1,hw⟩:=rZ n 12 (by omega) (by decide)
 obtain⟨i,m2,t2,hi⟩:=rZ m1 (rows.length:Int) (by omega) (by omega)
 obtain⟨j,m3,t3,hj⟩:=rZ m2 (l0.length:Int) (by omega) (by omega)
 obtain⟨T,fr,ρ,m,e,e1,sm⟩:=acs hs hc hc' h1 h4 m3 w i j (by omega) (by omega) (by omega)
 refine⟨T,fr,m,?_,sm⟩
 have ec:=acq rows hs (by omega) [.rf [.int n],.un,.un,.un,.un]
 have eg:aB (.lst rows) (.int 0)=.ok (.lst l0,false):=by rw[hr]; exact Cm _ _
 unfold oh
 rw[acr]
 unfold fX
 generalize tO 2 [none] (fV (aj 0)) (gN 0) d8 (bw (g1 bG) (ak (aj 0) ao))=S at ec ⊢
 generalize tl=TL at e ⊢
 simp -dsimp[aY,bB,cC,aV,con,bT,eB,aO,bh,dr,drs,cls,bx,cF,g1,g2,gI,bW,gB,aM,aN,bD,bA,bf,bR,aJ,bG,bN,cj,okR,bU,aK,others,bH,aX,bF,bZ,cB,cA,cD,aZ,ec,t1,t2,t3,eg,e,e1,dR,fC]
end
end K71
end
section
namespace K71
open PySem L2 BH
theorem xW{i:Int}(h : -1000000000000000000<i/\i<1000000000000000000):tiny i=true:=by
 unfold tiny
 rw[Bool.and_eq_true]
 exact⟨decide_eq_true (by omega),decide_eq_true (by omega)⟩
theorem oA{i j:Int}(h : -1000000000000000000<i/\i<1000000000000000000):ig i j=true:=by unfold ig; rw[xW h]; simp
theorem uf{i j:Int}(h : -1000000000000000000<j/\j<1000000000000000000):ig i j=true:=by unfold ig; rw[xW h]; simp
theorem Jz(a k:Int)(h0:0<=k)(h1:k<100000):∃x,qy [.int a,.int k]=.ok (.int x,false):=by
 have c1:ig (a.fmod 2147483629) 69621=true:=uf (by omega)
 have c2:ig 40503 k=true:=oA (by omega)
 have c3:ig (40503*k) k=true:=uf (by omega)
 have c4:ig 16807 k=true:=oA (by omega)
 generalize hA:a.fmod 2147483629*69621+40503*k*k+16807*k+1048583=A
 have rA:=jQ A 2147483647 (by omega)
 generalize hB:A.fmod 2147483647=B at rA
 have c5:ig B B=true:=oA (by omega)
 have rB:=jQ (B*B) 2147483629 (by omega)
 generalize hC:(B*B).fmod 2147483629=C at rB
 have c6:ig C (C+2)=true:=oA (by omega)
 refine⟨(C*(C+2)).fmod 2147483587,?_⟩
 unfold qy Bl cG
 simp -dsimp[aY,bB,cC,aV,con,bT,eB,aO,bh,dr,drs,cls,bx,cF,g1,g2,gI,bW,gB,aM,aN,bD,bA,bf,bR,aJ,bG,bN,cj,okR,bU,aK,others,bH,aX,bF,bZ,cB,cA,cD,aZ,cO,c1,c2,c3,c4,hA,hB,c5,hC,c6]
def lJ:SF:=(bL (aq aN (aq cO (aj 3) (eC (.int 2147483587))) (cJ qy (ak (aj 2) (ak (aq aN (aq cO (eC (.int 31)) (aj 1)) (aj 4)) ao)))) (gN 3))
theorem xX(S:Tr)(k cell:Int)(h0:0<=k)(h1:k<1000):∀(us:List Tr) (j6:Int) (s:Sl),(∀u∈us,∃j:Int,u=.int j/\0<=j/\j<1000)->∃x s',je (gN 4) lJ us [.sh S,.sh (.int k),.sh (.int cell),.sh (.int j6),s]=.ok (.nx,[.sh S,.sh (.int k),.sh (.int cell),.sh (.int x),s'])
 | [],j6,s,_=>⟨j6,s,rfl⟩
 |u::us,j6,s,h=>by
  obtain⟨j,rfl,j0,j1⟩:=h u (by simp)
  obtain⟨y,e⟩:=Jz cell (31*k+j) (by omega) (by omega)
  obtain⟨x,s',e'⟩:=xX S k cell h0 h1 us (j6*2147483587+y) (.sh (.int j)) λv hv=>h v (by simp[hv])
  have c1:ig j6 2147483587=true:=uf (by omega)
  have c2:ig 31 k=true:=oA (by omega)
  have e2:lJ [.sh S,.sh (.int k),.sh (.int cell),.sh (.int j6),.sh (.int j)]=.ok (.nx,[.sh S,.sh (.int k),.sh (.int cell),.sh (.int (j6*2147483587+y)),.sh (.int j)]):=by
   unfold lJ
   simp -dsimp[aY,bB,cC,aV,con,bT,eB,aO,bh,dr,drs,cls,bx,cF,g1,g2,gI,bW,gB,aM,aN,bD,bA,bf,bR,aJ,bG,bN,cj,okR,bU,aK,others,bH,aX,bF,bZ,cB,cA,cD,cO,c1,c2,e]
  refine⟨x,s',?_⟩
  unfold je
  simp[e2,e']
theorem vf:∀(n:Nat) (lo:Int) (u:Tr),u∈L2.upTo lo n->∃j:Int,u=.int j/\lo<=j/\j<lo+n
 | 0,_,u,h=>by simp[L2.upTo]at h
 |n+1,lo,u,h=>by
  unfold L2.upTo at h
  rcases List.mem_cons.mp h with rfl|h
  ·exact⟨lo,rfl,by omega,by omega⟩
  ·obtain⟨j,rfl,h1,h2⟩:=vf n (lo+1) u h
   exact⟨j,rfl,by omega,by omega⟩
noncomputable def mR:SF:=(aC (bM (bY (aq dw (aj 2) (aq dz (eC (.int 10)) (eC (.int 18))))) (aW (fK (ak (aq bA (aj 2) (aq dz (eC (.int 10)) (eC (.int 18)))) ao))) bV) (aC (bL (eC (.int 0)) (gN 3)) (aC (iW (jN (iG (ak (eC (.int 20)) ao)) (gN 4) lJ)) (aW (fK (ak (aj 3) ao))))))
theorem xY(S:Tr)(k:Nat)(hk:k<1000)(cell:Int):∃x ρ,mR [.sh S,.sh (.int k),.sh (.int cell),.un,.un]=.ok (.rt (.lst [.int x]) true,ρ):=by
 by_cases h:1000000000000000000<=cell
 ·refine⟨cell-1000000000000000000,[.sh S,.sh (.int k),.sh (.int cell),.un,.un],?_⟩
  unfold mR
  simp -dsimp[aY,bB,cC,aV,con,bT,eB,aO,bh,dr,drs,cls,bx,cF,g1,g2,gI,bW,gB,aM,aN,bD,bA,bf,bR,aJ,bG,bN,cj,okR,bU,aK,others,bH,aX,bF,bZ,cB,cA,cD,dw,dz,qU,tiny,h]
 ·obtain⟨x,s',e⟩:=xX S k cell (by omega) (by omega) (L2.upTo 0 20) 0 .un λu hu=>by
   obtain⟨j,rfl,h1,h2⟩:=vf _ _ _ hu
   exact⟨j,rfl,h1,by omega⟩
  have e1:iW (jN (iG (ak (eC (.int 20)) ao)) (gN 4) lJ) [.sh S,.sh (.int k),.sh (.int cell),.sh (.int 0),.un]=.ok (.nx,[.sh S,.sh (.int k),.sh (.int cell),.sh (.int x),s']):=by
   show aY (je (gN 4) lJ (L2.upTo 0 20) _)=_
   rw[e]
   rfl
  refine⟨x,[.sh S,.sh (.int k),.sh (.int cell),.sh (.int x),s'],?_⟩
  unfold mR
  generalize iW (jN (iG (ak (eC (.int 20)) ao)) (gN 4) lJ)=G at e1 ⊢
  simp -dsimp[aY,bB,cC,aV,con,bT,eB,aO,bh,dr,drs,cls,bx,cF,g1,g2,gI,bW,gB,aM,aN,bD,bA,bf,bR,aJ,bG,bN,cj,okR,bU,aK,others,bH,aX,bF,bZ,cB,cA,cD,dw,dz,qU,tiny,h,e1]
theorem RL(ns:List Int)(k:Nat)(hk:k<1000):∃x:Int,qz [.lst (ns.map .int),.int k]=.ok (.lst [.int x],true):=by
 have hd:Bm=(aC (bL (eC (.int 0)) (gN 2)) (aC (bM (bY (aq bf (aj 1) (bw (g1 aJ) (ak (aj 0) ao)))) (bL (aq aB (aj 0) (aj 1)) (gN 2)) bV) mR)):=rfl
 unfold qz
 rw[hd]
 by_cases h:k<ns.length
 ·have e:=xR (xs:=ns.map .int) (i:=k) (T:=.int ns[k]) (by simp[h])
  obtain⟨x,ρ,e1⟩:=xY (.lst (ns.map .int)) k hk ns[k]
  refine⟨x,?_⟩
  unfold cG
  generalize mR=G at e1 ⊢
  generalize ns[k]=cell at e e1
  simp -dsimp[aY,bB,cC,aV,con,bT,eB,aO,bh,dr,drs,cls,bx,cF,g1,g2,gI,bW,gB,aM,aN,bD,bA,bf,bR,aJ,bG,bN,cj,okR,bU,aK,others,bH,aX,bF,bZ,cB,cA,cD,aZ,h,e,e1]
 ·obtain⟨x,ρ,e1⟩:=xY (.lst (ns.map .int)) k hk 0
  refine⟨x,?_⟩
  unfold cG
  generalize mR=G at e1 ⊢
  simp -dsimp[aY,bB,cC,aV,con,bT,eB,aO,bh,dr,drs,cls,bx,cF,g1,g2,gI,bW,gB,aM,aN,bD,bA,bf,bR,aJ,bG,bN,cj,okR,bU,aK,others,bH,aX,bF,bZ,cB,cA,cD,aZ,h,e1]
end K71
end
section
namespace K71
open PySem L2 BH PySem.NumText
theorem acu{a b:Str}(h:a.cps.toList=b.cps.toList):a=b:=PySem.Str.ext' (Array.toList_inj.mp h)
@[simp] theorem ahf(g:Str->G1)(fa fb:EF)(ρ : En):rO g fa fb ρ = bd (fa ρ) (λp=>bd (dr p.2 p.1) (λa=>bd (strOf a) (λz=>bd (fb p.2) (λq=>bd (dr q.2 q.1) (λb=>bd (g z b) (λw=>.ok (.v w.1 w.2,q.2)) .mk) .mk) .mk) .mk) .mk) .mk:=rfl
@[simp] theorem strOf_str(z:Str):strOf (.str z)=.ok z:=rfl
theorem iw(b:Bool):bh (.bl b)=.ok b:=rfl
theorem acv(s:Str)(l:List Str):Txt.join s l=Str.join s l:=eq_of_beq (PyProof.Rows.join_closes rfl)
def nS(p:Int):Str:=toString p
theorem RW{p:Int}(h0:0<=p)(h:p<10 ^ 60):p.natAbs.log2<1920:=by
 rcases Nat.eq_zero_or_pos p.natAbs with e|e
 ·rw[e]; decide
 ·exact Nat.lt_of_lt_of_le ((Nat.log2_lt (by omega)).mpr (show p.natAbs<2 ^ 200 by omega)) (by decide)
theorem acw{p:Int}(h0:0<=p)(h:p<10 ^ 60):kE (.int p)=.ok (.str (nS p),false):=by
 unfold kE
 rw[if_pos ⟨by unfold iQ; exact decide_eq_true (RW h0 h),by unfold blk; omega,by rw[cA]; omega⟩]
 rfl
theorem JM{p:Int}(h0:0<=p)(h:p<10 ^ 60):lE (.int p)=.ok (.str (nS p),false):=if_pos (RW h0 h)
theorem yc{p:Int}(h0:0<=p)(h:p<10 ^ 60):(nS p).length<=60:=PyProof.Rows.toString_length_le h0 (by decide) h
def Rb(x:Int × Int):Prop:=0<=x.1/\x.1<10 ^ 60/\1<=x.2/\x.2<10 ^ 60/\Int.gcd x.1 x.2=1
def m9(x:Int × Int):Str:=if x.2=1 then nS x.1 else nS x.1 ++ "/" ++ nS x.2
theorem len_app(a b:Str):(a++b).length=a.length+b.length:=by
 show(a++b).cps.size=a.cps.size+b.cps.size
 rw[Str.cps_append,Array.size_append]
theorem JN{x:Int × Int}(h:Rb x):(m9 x).length<=121:=by
 obtain⟨h1,h2,h3,h4,_⟩:=h
 have a:=yc h1 h2
 have b:=yc (p:=x.2) (by omega) h4
 have c:("/" : Str).length=1:=by decide +kernel
 unfold m9
 split
 ·omega
 ·rw[len_app,len_app]; omega
@[simp] theorem ahg(acc:Str)(ρ : En):pH [] acc ρ = if acc.length<=100000 then .ok (.v (.str acc) false,ρ)else .bad:=rfl
@[simp] theorem ahh(f:EF)(r:List EF)(acc:Str)(ρ : En):pH (f::r) acc ρ = bd (f ρ) (λp=>bd (dr p.2 p.1) (λa=>bd (strOf a) (λy=>if(acc++y).length<=100000 then pH r (acc++y) p.2 else .bad) .mk) .mk) .mk:=rfl
theorem empty_app(a:Str):Str.empty++a=a:=acu (by rw[Str.cps_append]; simp[Str.empty])
theorem acy{x:Int × Int}(h:Rb x):tV [fT x]=.ok (.str (m9 x),false):=by
 have ln:=JN h
 obtain⟨h1,h2,h3,h4,_⟩:=h
 have a1:=acw h1 h2
 have a2:=JM h1 h2
 have a3:=JM (p:=x.2) (by omega) h4
 have eq1:aM (.int x.2) (.int 1)=.ok (.bl (decide (x.2=1)),false):=rfl
 have l1:=yc h1 h2
 have l2:=yc (p:=x.2) (by omega) h4
 have c:("/" : Str).length=1:=by decide +kernel
 have q1:(Str.empty++nS x.1).length<=100000:=by rw[empty_app]; omega
 have q2:(nS x.1 ++ "/" : Str).length<=100000:=by rw[len_app]; omega
 have q3:(nS x.1 ++ "/" ++ nS x.2:Str).length<=100000:=by rw[len_app,len_app]; omega
 unfold tV Ip m9 fT
 generalize aM=E,lE=F,kE=S at *
 by_cases k:x.2=1
 ·rw[decide_eq_true k]at eq1
  rw[if_pos k]
  generalize x.2=q,x.1=p,nS x.1=n1 at *
  simp -dsimp[cG,aZ,dr,drs,aO,g1,eq1,a1]
 ·rw[decide_eq_false k]at eq1
  rw[if_neg k]
  generalize x.2=q,x.1=p,nS x.2=n2,nS x.1=n1 at *
  generalize hs:("/" : Str)=sl at *
  rw[empty_app]at q1
  simp -dsimp[cG,aZ,dr,drs,aO,g1,eq1,a2,a3,empty_app,q1,q2,q3]
theorem RX{s:Str}{ts:List Str}{M:Nat}(h:∀t∈ts,t.length<=M)(hs:s.length<=1)(hb:ts.length*(M+1)<=16777216):JoinOk s ts=true:=by
 refine PyProof.Rows.joinOk_of ?_
 have:(ts.map λx=>x.length).sum<=ts.length*M:=by
  clear hb
  induction ts with
  |nil=>simp
  |cons t r ih =>
   rw[List.map_cons,List.sum_cons,List.length_cons,Nat.succ_mul]
   have:=ih λt ht=>h t (by simp[ht])
   have:=h t (by simp)
   omega
 have:ts.length*s.length<=ts.length:=by
  have:=Nat.mul_le_mul_left ts.length hs
  omega
 rw[Nat.mul_add]at hb
 omega
theorem acz(l:List Str):strsOf (l.map Tr.str)=.ok l:=by
 induction l with
 |nil=>rfl
 |cons z r ih=>rw[List.map_cons]; unfold strsOf; rw[ih]; rfl
theorem RZ{s:Str}{ts:List Str}(h:JoinOk s ts=true):kW s (.lst (ts.map .str))=.ok (.str (Str.join s ts),false):=by
 dsimp only[kW]
 rw[acz,Rs.jM,if_pos h,acv]
def rS(l:List (Int × Int)):Str:=Str.join " " (l.map m9)
theorem R0:(" " : Str).length<=1:=by decide +kernel
theorem acA:("\n" : Str).length<=1:=by decide +kernel
theorem acB{l:List (Int × Int)}(h:∀x∈l,Rb x)(hl:l.length<=1000):JoinOk " " (l.map m9)=true:=RX (M:=121) (λt ht=>by
 obtain⟨x,hx,rfl⟩:=List.mem_map.mp ht
 exact JN (h x hx)) R0 (by rw[List.length_map]; omega)
theorem R3(s:Str){M:Nat}(hs:s.length<=1):∀{ts:List Str},(∀t∈ts,t.length<=M)->(Str.join s ts).length<=ts.length*(M+1)
 | [],_=>by show(0:Nat)<=_; omega
 | [x],h=>by
  have:=h x (by simp)
  show x.length<=1*(M+1)
  omega
 |x::y::r,h=>by
  have a:=h x (by simp)
  have b:=R3 s hs (ts:=y::r) λt ht=>h t (List.mem_cons_of_mem _ ht)
  show(x++s++Str.join s (y::r)).length<=_
  rw[len_app,len_app,List.length_cons,Nat.succ_mul]
  omega
theorem R4{l:List (Int × Int)}(h:∀x∈l,Rb x):(rS l).length<=l.length*122:=by
 have:=R3 " " (M:=121) R0 (ts:=l.map m9) (λt ht=>by
  obtain⟨x,hx,rfl⟩:=List.mem_map.mp ht
  exact JN (h x hx))
 rw[List.length_map]at this
 exact this
def JQ:EF:=fO [none] (fV (aj 0)) (gN 0) d8 (cJ tV (ak (aj 0) ao))
theorem R5{l:List (Int × Int)}(h:∀x∈l,Rb x)(hl:l.length<=1000):pJ [dH l]=.ok (.str (rS l),false):=by
 have e:JQ [.sh (dH l)]=.ok (.v (.lst ((l.map m9).map .str)) true,[.sh (dH l)]):=by
  rw[List.map_map]
  refine RB (r:=fT) (by omega) rfl rfl (λ_=>rfl) (λ_=>rfl) λx hx=>⟨false,?_⟩
  have n:=acy (h x hx)
  show _=Rs.ok (Rv.v (.str (m9 x)) false,_)
  generalize fT x=T,tV=F at *
  simp -dsimp[bH,dr,drs,aK,n]
 have j:=RZ (acB h hl)
 show cG 1 (aW (rO kW (eC (.str " ")) JQ)) _=Rs.ok (Tr.str (Str.join " " (l.map m9)),false)
 generalize dH l=T,kW=J,JQ=C,(l.map m9).map Tr.str=L,Str.join " " (l.map m9)=S at *
 simp -dsimp[cG,aZ,dr,e,j]
def yd:EF:=fO [none] (fV (aj 0)) (gN 0) d8 (cJ pJ (ak (aj 0) ao))
theorem R6{ls:List (List (Int × Int))}(h:∀l∈ls,l.length<=12/\∀x∈l,Rb x)(hl:ls.length<=4)(hb:iZ (jy ls)=true):lF [jy ls]=.ok (.str (Str.join "\n" (ls.map rS)),false):=by
 have e:yd [.sh (jy ls)]=.ok (.v (.lst ((ls.map rS).map .str)) true,[.sh (jy ls)]):=by
  rw[List.map_map]
  refine RB (r:=dH) (by omega) rfl rfl (λ_=>rfl) (λ_=>rfl) λl hl'=>⟨false,?_⟩
  have hh:=h l hl'
  have n:=R5 hh.2 (by omega)
  show _=Rs.ok (Rv.v (.str (rS l)) false,_)
  generalize dH l=T,pJ=F at *
  simp -dsimp[bH,dr,drs,aK,n]
 have j:kW "\n" (.lst ((ls.map rS).map .str))=_:=RZ (RX (M:=2000) (λt ht=>by
  obtain⟨l,hl',rfl⟩:=List.mem_map.mp ht
  have hh:=h l hl'
  have:=R4 hh.2
  omega) acA (by rw[List.length_map]; omega))
 have nb:=ab4 hb
 show cG 1 (aC (wB (cJ n6 (ak (aj 0) ao))) (aW (rO kW (eC (.str "\n")) yd))) _=_
 generalize n6=N,jy ls=T,kW=J,yd=C,(ls.map rS).map Tr.str=L,Str.join "\n" (ls.map rS)=S at *
 simp -dsimp[cG,aZ,dr,drs,aK,e,j,nb]
theorem JR(a b:Nat):bQ (.int a) (.int b)=.ok (.bl (!(a == b)),false):=by
 show Rs.ok (Tr.bl (!((a:Int) == (b:Int))),false)=_
 congr 4
 rw[Bool.eq_iff_iff,beq_iff_eq,beq_iff_eq]
 omega
def bare(w:Str):Bool:=(w == "least") || (w == "greatest") || (w == "product")
theorem acC(w:Str):cM id (.str w) (.lst [.str "least",.str "greatest",.str "product"])=.ok (.bl (bare w),false):=by
 unfold cM
 dsimp only
 rw[if_pos ⟨by decide +kernel,by rw[dG]; omega⟩]
 congr 3
 show id (("least" == w) || (("greatest" == w) || (("product" == w) || false)))=bare w
 unfold bare
 have s:∀a b:Str,(a == b)=(b == a):=λa b=>Bool.eq_iff_iff.mpr (by rw[beq_iff_eq,beq_iff_eq]; exact eq_comm)
 rw[s "least",s "greatest",s "product"]
 simp[Bool.or_assoc]
theorem R7{w:Str}(h:bare w=true):w = "least" ∨ w = "greatest" ∨ w = "product" := by
 unfold bare at h
 rw[Bool.or_eq_true,Bool.or_eq_true,beq_iff_eq,beq_iff_eq,beq_iff_eq]at h
 rcases h with(h|h)|h
 ·exact .inl h
 ·exact .inr (.inl h)
 ·exact .inr (.inr h)
theorem acD{ws:List (Int × Int)}{n:Int}(hr:lW [.tup [.str "shares",dH ws],.int n]=.ok (.bl true,false)) (hw:∀x∈ws,Rb x) (hl:ws.length≤500):jo [.tup [.str "shares",dH ws],.int n]=.ok (.str ("shares " ++ rS ws),false):=by
 have e2:=sEq "shares"
 have e3:=R5 hw (by omega)
 have ln:=R4 hw
 have lc:("shares " : Str).length<=7:=by decide +kernel
 have i0:aB (.tup [.str "shares",dH ws]) (.int 0)=.ok (.str "shares",false):=rfl
 have i1:aB (.tup [.str "shares",dH ws]) (.int 1)=.ok (dH ws,false):=rfl
 have f:lE (.str (rS ws))=.ok (.str (rS ws),false):=if_pos (by omega)
 have q1:(Str.empty ++ "shares " : Str).length<=100000:=by rw[empty_app]; omega
 rw[empty_app]at q1
 have q2:("shares " ++ rS ws:Str).length<=100000:=by rw[len_app]; omega
 unfold jo xu
 generalize lE=G,aM=E,aB=I,pJ=SF,lW=IR,Tr.str "shares" = W,("shares " : Str)=S0,rS ws=S,dH ws=R,Tr.tup [.str "shares",dH ws]=T at *
 simp -dsimp[cG,aZ,dr,drs,aO,aK,iw,hr,e2,e3,i0,i1,f,empty_app,q1,q2]
theorem acE{k:Nat}{n:Int}(hr:lW [.tup [.str "middle",.int k],.int n]=.ok (.bl true,false)) (hk:k<10 ^ 60):jo [.tup [.str "middle",.int k],.int n]=.ok (.str ("middle " ++ nS k),false):=by
 have e1:aM (.str "middle") (.str "shares")=.ok (.bl false,false):=sNe (by decide +kernel)
 have e2:=sEq "middle"
 have ln:=yc (p:=k) (by omega) (by omega)
 have f:=JM (p:=k) (by omega) (by omega)
 have lc:("middle " : Str).length<=7:=by decide +kernel
 have i0:aB (.tup [.str "middle",.int k]) (.int 0)=.ok (.str "middle",false):=rfl
 have i1:aB (.tup [.str "middle",.int k]) (.int 1)=.ok (.int k,false):=rfl
 have q1:(Str.empty ++ "middle " : Str).length<=100000:=by rw[empty_app]; omega
 rw[empty_app]at q1
 have q2:("middle " ++ nS k:Str).length<=100000:=by rw[len_app]; omega
 unfold jo xu
 generalize lE=G,aM=E,aB=I,lW=IR,Tr.str "shares" = W2,Tr.str "middle" = W,("middle " : Str)=S0,nS k=S,Tr.tup [.str "middle",.int k]=T at *
 simp -dsimp[cG,aZ,dr,drs,aO,aK,iw,hr,e1,e2,i0,i1,f,empty_app,q1,q2]
theorem acF{w:Str}{n:Int}(h:bare w=true)(hr:lW [.tup [.str w],.int n]=.ok (.bl true,false)):jo [.tup [.str w],.int n]=.ok (.str w,false):=by
 have e1:aM (.str w) (.str "shares")=.ok (.bl false,false):=sNe (by rcases R7 h with rfl|rfl|rfl <;> decide +kernel)
 have e2:aM (.str w) (.str "middle")=.ok (.bl false,false):=sNe (by rcases R7 h with rfl|rfl|rfl <;> decide +kernel)
 have i0:aB (.tup [.str w]) (.int 0)=.ok (.str w,false):=rfl
 unfold jo xu
 generalize aM=E,aB=I,lW=IR,Tr.str "shares" = W2,Tr.str "middle" = W,Tr.tup [.str w]=T at *
 simp -dsimp[cG,aZ,dr,drs,aO,aK,iw,hr,e1,e2,i0]
theorem tk(n k:Int)(h:0<k)(hk:k.natAbs<2 ^ 60):∃x m,cP [.lst [.int n],.int k]=.ok ((.int x,false),[.int m])/\0<=x/\x<k :=
 ⟨_,_,lZ n k h (lg hk),jQ n k h⟩
theorem lfr{x b:Int}(hx:0<=x)(hb:1<=b)(h2:b<=1000000000000)(h3:x<=1000000000000):∃y,lX [.int x,.int b]=.ok (fT y,false)/\Rb y:=by
 obtain⟨g1,g2,g3,g4,g5,g6,g7⟩:=Fi (a:=x) (b:=b) (by omega)
 have e1:x.fdiv (Int.gcd x b:Nat)=x / (Int.gcd x b:Nat):=Int.fdiv_eq_ediv_of_nonneg _ (by omega)
 have e2:b.fdiv (Int.gcd x b:Nat)=b / (Int.gcd x b:Nat):=Int.fdiv_eq_ediv_of_nonneg _ (by omega)
 refine⟨(x.fdiv (Int.gcd x b:Nat),b.fdiv (Int.gcd x b:Nat)),?_,?_⟩
 ·unfold lX xG cG fT
  generalize hg:((Int.gcd x b:Nat):Int)=g at g1 g2
  have hs:=vd x b
  rw[hg]at hs
  have h3:¬b<0:=by omega
  have c1:jW x g=true:=Ck (M:=60) (by omega) (by omega) (by omega)
  have c2:jW b g=true:=Ck (M:=60) (by omega) (by omega) (by omega)
  simp -dsimp[aY,bB,cC,aV,con,bT,eB,aO,bh,dr,drs,cls,bx,cF,g1,g2,gI,bW,gB,aM,bQ,cM,aN,cO,dU,bD,dz,bA,bf,bR,cN,dw,aB,aJ,dW,bG,bN,dJ,dM,cZ,cj,okR,bU,aK,others,bH,aX,bF,bZ,cB,cA,eX,dG,eY,eG,eO,eH,dX,cD,eZ,eV,cV,cR,dg,aZ,hs,h3,c1,c2]
 ·rw[e1,e2]
  have d1:=Int.ediv_le_self (a:=b) ((Int.gcd x b:Nat):Int) (by omega)
  have d2:=Int.ediv_le_self (a:=x) ((Int.gcd x b:Nat):Int) (by omega)
  exact⟨g5 hx,by show x / ((Int.gcd x b:Nat):Int)<10 ^ 60; omega,g3,by show b / ((Int.gcd x b:Nat):Int)<10 ^ 60; omega,g4⟩
theorem Wo.rb{x:Int × Int}(h:Wo x):Rb x:=⟨h.1,by have:=h.2.1; have:=h.2.2.2.1; omega,h.2.2.1,by have:=h.2.2.2.1; omega,h.2.2.2.2⟩
noncomputable def vg:SF:=aC (bL (cu 0 cP (ak (aj 0) (ak (aq aB (fU [.int 4,.int 13,.int 100,.int 1000000000000]) (aq bA (aj 1) (eC (.int 2)))) ao))) (gN 2)) (aW (cJ lX (ak (aj 2) (ak (aq aN (eC (.int 1)) (cu 0 cP (ak (aj 0) (ak (aq aB (fU [.int 4,.int 12,.int 99,.int 999999999999]) (aq bA (aj 1) (eC (.int 2)))) ao)))) ao))))
theorem acG(n w a b:Int)(ha:0<a/\a<=1000000000000)(hb:0<b/\b<=999999999999)(i1:aB (.lst [.int 4,.int 13,.int 100,.int 1000000000000]) (.int (w-2))=.ok (.int a,false))(i2:aB (.lst [.int 4,.int 12,.int 99,.int 999999999999]) (.int (w-2))=.ok (.int b,false)) :
  ∃y m ρ,vg [.rf [.int n],.sh (.int w),.un]=.ok (.rt (fT y) false,.rf [.int m]::ρ)/\Rb y:=by
 obtain⟨x,n1,e1,x0,x1⟩:=tk n a ha.1 (by omega)
 obtain⟨u,n2,e2,u0,u1⟩:=tk n1 b hb.1 (by omega)
 obtain⟨y,e3,hy⟩:=lfr (x:=x) (b:=1+u) x0 (by omega) (by omega) (by omega)
 refine⟨y,n2,[.sh (.int w),.sh (.int x)],?_,hy⟩
 unfold vg
 generalize ([.int 4,.int 12,.int 99,.int 999999999999]:List Tr)=L2',([.int 4,.int 13,.int 100,.int 1000000000000]:List Tr)=L1,fT y=Y at *
 have g1:bA (.int w) (.int 2)=.ok (.int (w-2),false):=rfl
 generalize aB=I,w-2=w2 at *
 simp -dsimp[con,drs,dr,aK,others,aV,dR,fC,g1,i1,i2,e1,e2,e3,ud]
theorem acH(n:Int):∃y m,lY [.lst [.int n]]=.ok ((fT y,false),[.int m])/\Rb y:=by
 obtain⟨w,n1,e1,w0,w1⟩:=tk n 6 (by omega) (by decide)
 have lt:bf (.int w) (.int 2)=.ok (.bl (decide (w<2)),false):=rfl
 by_cases h:w<2
 ·obtain⟨y,hy,rb⟩:∃y,aB (.lst [.tup [.int 0,.int 1],.tup [.int 1,.int 1]]) (.int w)=.ok (fT y,false)/\Rb y:=by
   rcases(show w=0\/w=1 by omega)with rfl|rfl
   ·exact⟨(0,1),rfl,by unfold Rb; decide⟩
   ·exact⟨(1,1),rfl,by unfold Rb; decide⟩
  refine⟨y,n1,?_,rb⟩
  rw[decide_eq_true h]at lt
  show fX 3 0 (aC (bL (cu 0 cP (ak (aj 0) (ak (eC (.int 6)) ao))) (gN 1)) (aC (bM (bY (aq bf (aj 1) (eC (.int 2)))) (aW (aq aB (fU [.tup [.int 0,.int 1],.tup [.int 1,.int 1]]) (aj 1))) bV) vg)) _=_
  generalize bf=G,aB=I,vg=W,([.tup [.int 0,.int 1],.tup [.int 1,.int 1]]:List Tr)=L,fT y=Y at *
  unfold fX
  simp -dsimp[aZ,con,drs,dr,aK,others,aV,aY,dR,fC,aO,e1,lt,hy]
 ·obtain⟨a,b,i1,i2,ha,hb⟩:∃a b:Int,aB (.lst [.int 4,.int 13,.int 100,.int 1000000000000]) (.int (w-2))=.ok (.int a,false)/\aB (.lst [.int 4,.int 12,.int 99,.int 999999999999]) (.int (w-2))=.ok (.int b,false)/\(0<a/\a<=1000000000000)/\(0<b/\b<=999999999999):=by
   rcases(show w=2\/w=3\/w=4\/w=5 by omega)with rfl|rfl|rfl|rfl
   ·exact⟨4,4,rfl,rfl,by omega,by omega⟩
   ·exact⟨13,12,rfl,rfl,by omega,by omega⟩
   ·exact⟨100,99,rfl,rfl,by omega,by omega⟩
   ·exact⟨1000000000000,999999999999,rfl,rfl,by omega,by omega⟩
  obtain⟨y,m,ρ,e2,rb⟩:=acG n1 w a b ha hb i1 i2
  refine⟨y,m,?_,rb⟩
  rw[decide_eq_false h]at lt
  show fX 3 0 (aC (bL (cu 0 cP (ak (aj 0) (ak (eC (.int 6)) ao))) (gN 1)) (aC (bM (bY (aq bf (aj 1) (eC (.int 2)))) (aW (aq aB (fU [.tup [.int 0,.int 1],.tup [.int 1,.int 1]]) (aj 1))) bV) vg)) _=_
  generalize bf=G,aB=I,vg=W,([.tup [.int 0,.int 1],.tup [.int 1,.int 1]]:List Tr)=L,fT y=Y at *
  unfold fX
  simp -dsimp[aZ,con,drs,dr,aK,others,aV,aY,dR,fC,aO,e1,lt,e2]
theorem JT:∀(us:List Tr) (s:Sl) (n:Int),∃(ws:List (Int × Int)) (s':Sl) (m:Int),jH (gN 0) d8 (cu 0 lY (ak (aj 1) ao)) us [s,.rf [.int n]]=.ok (ws.map fT,[s',.rf [.int m]])/\ws.length=us.length/\∀w∈ws,Rb w
 | [],s,n=>⟨[],s,n,rfl,rfl,by simp⟩
 |u::us,s,n=>by
  obtain⟨y,m1,e,p⟩:=acH n
  obtain⟨ws,s',m,e',hl,hp⟩:=JT us (.sh u) m1
  refine⟨y::ws,s',m,?_,by simp[hl],λw hw=>(List.mem_cons.mp hw).elim (λz=>z▸p) (hp w)⟩
  have e1:cu 0 lY (ak (aj 1) ao) [.sh u,.rf [.int n]]=.ok (.v (fT y) false,[.sh u,.rf [.int m1]]):=by
   generalize lY=W,fT y=Y at *
   simp -dsimp[con,drs,dr,aK,others,aV,dR,fC,e]
  rw[List.map_cons]
  generalize cu 0 lY (ak (aj 1) ao)=G at e1 e' ⊢
  generalize fT y=Y at *
  unfold jH
  simp -dsimp[e1,bx,e']
def oE(n:Nat):Ru->Prop
 |.sh ws=>ws.length=n/\∀w∈ws,Rb w
 |.mid k=>1<=k/\k<=n
 |_=>True
def vh:EF:=fO [none,some 0] (iG (ak (aj 1) ao)) (gN 0) d8 (cu 0 lY (ak (aj 1) ao))
theorem acI(n:Int)(k:Nat)(hk:k<=4)(s2:Sl):∃ws m,vh [.rf [.int n],.sh (.int k),s2]=.ok (.v (dH ws) true,[.rf [.int m],.sh (.int k),s2])/\ws.length=k/\∀w∈ws,Rb w:=by
 obtain⟨ws,s',m,e,hl,hp⟩:=JT (L2.upTo 0 k) .un n
 rw[jO]at hl
 refine⟨ws,m,?_,hl,hp⟩
 unfold vh dH
 generalize cu 0 lY (ak (aj 1) ao)=G at e ⊢
 have h1:(-1000000:Int)<=k:=by omega
 have h2:(k:Int)<=1000000:=by omega
 have h3:k<=100000:=by omega
 simp -dsimp[aY,bB,cC,aV,con,bT,eB,aO,bh,dr,drs,cls,bx,cF,g1,g2,gI,bW,gB,aM,bQ,cM,aN,cO,dU,bD,dz,bA,bf,bR,cN,dw,aB,aJ,dW,bG,bN,dJ,dM,cZ,cj,okR,bU,aK,others,bH,aX,bF,bZ,cB,cA,eX,dG,eY,eG,eO,eH,dX,cD,eZ,eV,cV,cR,dg,aZ,h1,h2,h3,e,jO]
theorem acJ(n:Int){k:Nat}(h1:1<=k)(hk:k<=4):∃r m,uZ [.lst [.int n],.int k]=.ok ((fP r,false),[.int m])/\oE k r:=by
 obtain⟨w,n1,e1,w0,w1⟩:=tk n 8 (by omega) (by decide)
 have p8:bf (.int w) (.int 3)=.ok (.bl (decide (w<3)),false):=rfl
 have Cp:bf (.int w) (.int 5)=.ok (.bl (decide (w<5)),false):=rfl
 have df:bA (.int w) (.int 5)=.ok (.int (w-5),false):=rfl
 show ∃r m,fX 3 0 (aC (bL (cu 0 cP (ak (aj 0) (ak (eC (.int 8)) ao))) (gN 2)) (aC (bM (bY (aq bf (aj 2) (eC (.int 3)))) (aW (jj (ak (eC (.str "shares")) (ak vh ao)))) bV) (aC (bM (bY (aq bf (aj 2) (eC (.int 5)))) (aW (jj (ak (eC (.str "middle")) (ak (aq aN (eC (.int 1)) (cu 0 cP (ak (aj 0) (ak (aj 1) ao)))) ao)))) bV) (aW (aq aB (fU [.tup [.str "least"],.tup [.str "greatest"],.tup [.str "product"]]) (aq bA (aj 2) (eC (.int 5)))))))) [.lst [.int n],.int k]=.ok ((fP r,false),[.int m])/\oE k r
 by_cases h3:w<3
 ·obtain⟨ws,m,e2,a1,a2⟩:=acI n1 k hk (.sh (.int w))
  refine⟨.sh ws,m,?_,a1,a2⟩
  rw[decide_eq_true h3]at p8
  show _=Rs.ok ((Tr.tup [.str "shares",dH ws],false),_)
  generalize (k:Int)=k',bf=G,vh=S,dH ws=R at *
  unfold fX
  simp -dsimp[aZ,con,drs,dr,cls,bx,aK,others,aV,aY,dR,fC,aO,e1,p8,e2]
 ·rw[decide_eq_false h3]at p8
  by_cases h5:w<5
  ·obtain⟨y,n2,e2,y0,y1⟩:=tk n1 k (by omega) (by omega)
   obtain⟨j,hj⟩:∃j:Nat,(j:Int)=1+y:=⟨(1+y).toNat,by omega⟩
   refine⟨.mid j,n2,?_,by omega,by omega⟩
   rw[decide_eq_true h5]at Cp
   show _=Rs.ok ((Tr.tup [.str "middle",.int j],false),_)
   generalize (k:Int)=k',bf=G,vh=S at *
   unfold fX
   simp -dsimp[aZ,con,drs,dr,cls,bx,aK,others,aV,aY,dR,fC,aO,e1,p8,Cp,e2,ud,hj]
  ·rw[decide_eq_false h5]at Cp
   obtain⟨r,er,hr⟩:∃r,aB (.lst [.tup [.str "least"],.tup [.str "greatest"],.tup [.str "product"]]) (.int (w-5))=.ok (fP r,false)/\oE k r:=by
    rcases(show w=5\/w=6\/w=7 by omega)with rfl|rfl|rfl
    ·exact⟨.least,rfl,trivial⟩
    ·exact⟨.greatest,rfl,trivial⟩
    ·exact⟨.product,rfl,trivial⟩
   refine⟨r,n1,?_,hr⟩
   generalize (k:Int)=k',aB=I,bA=D,bf=G,vh=S,w-5=w5,fP r=R,([.tup [.str "least"],.tup [.str "greatest"],.tup [.str "product"]]:List Tr)=L at *
   unfold fX
   simp -dsimp[aZ,con,drs,dr,cls,bx,aK,others,aV,aY,dR,fC,aO,e1,p8,Cp,df,er]
end K71
end
section
namespace K71
open PySem L2 BH PySem.NumText
def JV:Tr->Tr->Bool
 |.int p,.int q=>decide (0<=p)&&(decide (1<=q)&&(Int.gcd p q == 1))
 |_,_=>false
def jz:Tr->Bool
 |.tup [a,b]=>JV a b
 |_=>false
theorem acK(T:Tr):rT [T]=.ok (.bl (jz T),false):=by
 unfold rT Iv cG
 cases T with
 |tup ts =>
  match ts with
  | []=>rfl
  | [_]=>rfl
  | [a,b] =>
   by_cases w:isW a=true
   case neg =>
    have w2:JV a b=false:=by cases a <;> first|rfl|exact absurd rfl w
    rw[Bool.not_eq_true]at w
    simp -dsimp[aY,bB,cC,aV,con,bT,eB,aO,bh,dr,drs,cls,bx,cF,g1,g2,gI,bW,gB,aM,bQ,cM,aN,cO,dU,bD,dz,bA,bf,bR,cN,dw,aB,aJ,dW,bG,bN,dJ,dM,cZ,cj,okR,bU,aK,others,bH,aX,bF,bZ,cB,cA,eX,dG,eY,eG,eO,eH,dX,cD,eZ,eV,cV,cR,dg,aZ,jz,w,w2,pN]
   by_cases w':isW b=true
   case neg =>
    have w2:JV a b=false:=by cases a <;> cases b <;> first|rfl|exact absurd rfl w'
    rw[Bool.not_eq_true]at w'
    simp -dsimp[aY,bB,cC,aV,con,bT,eB,aO,bh,dr,drs,cls,bx,cF,g1,g2,gI,bW,gB,aM,bQ,cM,aN,cO,dU,bD,dz,bA,bf,bR,cN,dw,aB,aJ,dW,bG,bN,dJ,dM,cZ,cj,okR,bU,aK,others,bH,aX,bF,bZ,cB,cA,eX,dG,eY,eG,eO,eH,dX,cD,eZ,eV,cV,cR,dg,aZ,jz,w,w',w2,pN]
   cases a <;> try cases w
   cases b <;> try cases w'
   rename_i p q
   have e:jz (.tup [.int p,.int q])=(decide (0<=p)&&(decide (1<=q)&&(Int.gcd p q == 1))):=rfl
   have g0:bR (.int q) (.int 0)=.ok (.bl (decide (1<=q)),false):=by
    show Rs.ok (Tr.bl (decide (0<q)),false)=_
    congr 3
   have uh:dw (.int p) (.int 0)=.ok (.bl (decide (0<=p)),false):=rfl
   have sh:=vd p q
   have q1:aM (.int (Int.gcd p q:Nat)) (.int 1)=.ok (.bl (Int.gcd p q == 1),false):=by
    show Rs.ok (Tr.bl (((Int.gcd p q:Nat):Int) == 1),false)=_
    rw[Jt]
   have l2:aJ (.tup [.int p,.int q])=.ok (.int 2,false):=rfl
   have n2:bQ (.int 2) (.int 2)=.ok (.bl false,false):=rfl
   have i0:aB (.tup [.int p,.int q]) (.int 0)=.ok (.int p,false):=rfl
   have i1:aB (.tup [.int p,.int q]) (.int 1)=.ok (.int q,false):=rfl
   have w1:=pN (.int p)
   have w2:=pN (.int q)
   have ty:cV (.tup [.int p,.int q]) .tuple=true:=rfl
   rw[e]
   generalize pK=S,lG=W,aB=I,aJ=L,bQ=NE,aM=EQ,dw=GE,bR=GT,Tr.tup [.int p,.int q]=T,decide (1<=q)=b,decide (0<=p)=a,((Int.gcd p q:Nat):Int)=G,(Int.gcd p q == 1)=c at *
   cases a <;> cases b <;> simp -dsimp[aZ,dr,drs,eB,aK,g1,aO,iw,isW,ty,l2,n2,i0,i1,w1,w2,g0,uh,sh,q1]
  |a::b::c::r =>
   have:((r.length:Int)+1+1+1 == 2)=false:=by simp; omega
   simp -dsimp[aY,bB,cC,aV,con,bT,eB,aO,bh,dr,drs,cls,bx,cF,g1,g2,gI,bW,gB,aM,bQ,cM,aN,cO,dU,bD,dz,bA,bf,bR,cN,dw,aB,aJ,dW,bG,bN,dJ,dM,cZ,cj,okR,bU,aK,others,bH,aX,bF,bZ,cB,cA,eX,dG,eY,eG,eO,eH,dX,cD,eZ,eV,cV,cR,dg,aZ,jz,this]
 |_=>rfl
theorem acL(u:Tr):xT [.sh u]=.ok (.v (.bl (jz u)) false,[.sh u]):=by
 have e:=tZ u
 cases hf:pL u with
 |false =>
  have w:jz u=false:=by
   match u with
   |.tup [a,b] =>
    cases a <;> cases b <;> try rfl
    rename_i p q
    have hf:(decide (1<=q)&&(Int.gcd p q == 1))=false:=hf
    show(decide (0<=p)&&(decide (1<=q)&&(Int.gcd p q == 1)))=false
    rw[hf,Bool.and_false]
   |.tup []=>rfl
   |.tup [_]=>rfl
   |.tup (_::_::_::_)=>rfl
   |.int _=>rfl
   |.non=>rfl
   |.bl _=>rfl
   |.str _=>rfl
   |.lst _=>rfl
   |.dD _=>rfl
  rw[hf]at e
  rw[w]
  unfold xT
  generalize m8=F at *
  simp -dsimp[dr,drs,aK,aO,eB,e]
 |true =>
  obtain⟨p,q,rfl⟩:∃p q,u=.tup [.int p,.int q]:=by
   match u with
   |.tup [.int p,.int q]=>exact⟨p,q,rfl⟩
   |.tup [.int _,.non]=>cases hf
   |.tup [.int _,.bl _]=>cases hf
   |.tup [.int _,.str _]=>cases hf
   |.tup [.int _,.tup _]=>cases hf
   |.tup [.int _,.lst _]=>cases hf
   |.tup [.int _,.dD _]=>cases hf
   |.tup [.non,_]=>cases hf
   |.tup [.bl _,_]=>cases hf
   |.tup [.str _,_]=>cases hf
   |.tup [.tup _,_]=>cases hf
   |.tup [.lst _,_]=>cases hf
   |.tup [.dD _,_]=>cases hf
   |.tup []=>cases hf
   |.tup [_]=>cases hf
   |.tup (_::_::_::_)=>cases hf
   |.int _=>cases hf
   |.non=>cases hf
   |.bl _=>cases hf
   |.str _=>cases hf
   |.lst _=>cases hf
   |.dD _=>cases hf
  have w:jz (.tup [.int p,.int q])=decide (0<=p):=by
   have hf:(decide (1<=q)&&(Int.gcd p q == 1))=true:=hf
   show(decide (0<=p)&&(decide (1<=q)&&(Int.gcd p q == 1)))=_
   rw[hf,Bool.and_true]
  rw[hf]at e
  rw[w]
  have i0:aB (.tup [.int p,.int q]) (.int 0)=.ok (.int p,false):=rfl
  have uh:dw (.int p) (.int 0)=.ok (.bl (decide (0<=p)),false):=rfl
  unfold xT
  generalize dw=GE,aB=I,m8=F,Tr.tup [.int p,.int q]=T,decide (0<=p)=a at *
  simp -dsimp[dr,drs,aK,aO,eB,e,i0,uh]
def oF(n:Nat):Tr->Bool
 |.lst us=>(us.length == n)&&us.all jz
 |_=>false
theorem R8(us:List Tr):aJ (.lst us)=.ok (.int (us.length:Nat),false):=rfl
theorem acM(T:Tr){n:Nat}(hn:n<=1000):uV [T,.int n]=.ok (.bl (oF n T),false):=by
 cases T with
 |lst us =>
  have el:=R8 us
  have en:=JR us.length n
  have w:oF n (.lst us)=((us.length == n)&&us.all jz):=rfl
  rw[w]
  show cG 2 (aC (bM (f9 (eE (dN (gJ .list (aj 0)))) (bY (aq bQ (bw (g1 aJ) (ak (aj 0) ao)) (aj 1)))) (aW (eC (.bl false))) bV) (aW (bw (g1 cZ) (ak (fO [none] (fV (aj 0)) (gN 0) d8 xT) ao)))) [.lst us,.int n]=_
  have ei:gJ .list (aj 0) [.sh (.lst us),.sh (.int n)]=.ok (.v (.bl true) false,[.sh (.lst us),.sh (.int n)]):=rfl
  cases q:(us.length == n)
  ·rw[q]at en
   generalize bw (g1 cZ) _=G
   generalize gJ _ _=G2 at ei ⊢
   generalize aJ=L,bQ=NE,((us.length:Nat):Int)=N,Tr.lst us=T at *
   simp -dsimp[cG,aZ,ei,dr,drs,g1,el,en,aO,iw]
  ·have e1:=xQ (F:=m8) (p:=jz) (us:=us) (ρ:=[.sh (.lst us),.sh (.int n)]) (i:=fV (aj 0)) (fe:=xT) (by rw[beq_iff_eq]at q; omega) rfl (λu _=>⟨false,acL u⟩)
   rw[q]at en
   generalize bw (g1 cZ) _=G at e1 ⊢
   generalize gJ _ _=G2 at ei ⊢
   generalize aJ=L,bQ=NE,((us.length:Nat):Int)=N,Tr.lst us=T,us.all jz=b at *
   simp -dsimp[cG,aZ,ei,dr,drs,g1,el,en,aO,iw,e1]
 |_=>rfl
end K71
end
section
namespace K71
open PySem L2 BH PySem.NumText
def pO(n:Nat):Tr->Bool
 |.int k=>decide (1<=k)&&decide (k<=n)
 |_=>false
def gA(v:Str):Tr->Bool
 |.str w=>w == v
 |_=>false
def su(n:Nat)(a b:Tr):Bool:=if gA "shares" a=true then oF n b else gA "middle" a&&pO n b
def Cq:Tr->Bool
 |.str w=>bare w
 |_=>false
def um(n:Nat):Tr->Bool
 |.tup [a]=>Cq a
 |.tup [a,b]=>su n a b
 |_=>false
theorem JW{a:Tr}(v:Str)(h:dep a<=40):aM a (.str v)=.ok (.bl (gA v a),false):=by
 unfold aM
 rw[if_pos ⟨h,by rw[dG]; omega⟩]
 cases a <;> rfl
theorem acN{a:Tr}(v:Str)(h:dep a<=40):bQ a (.str v)=.ok (.bl (!gA v a),false):=by
 unfold bQ
 rw[if_pos ⟨h,by rw[dG]; omega⟩]
 cases a <;> rfl
theorem acO(a b:Str):(a == b)=(b == a):=Bool.eq_iff_iff.mpr (by rw[beq_iff_eq,beq_iff_eq]; exact eq_comm)
theorem acP(v:Str)(a:Tr):eqT (.str v) a=gA v a:=by
 cases a <;> try rfl
 rename_i w
 show(v == w)=(w == v)
 exact acO v w
def vm:Tr:=.tup [(.tup [(.str "least")]),(.tup [(.str "greatest")]),(.tup [(.str "product")])]
theorem acQ(a:Tr):Cq a=(gA "least" a || (gA "greatest" a || gA "product" a)):=by
 cases a <;> try rfl
 rename_i w
 show bare w=((w == "least") || ((w == "greatest") || (w == "product")))
 unfold bare
 rw[Bool.or_assoc]
def R9:List Tr->Bool
 | [a]=>Cq a
 |_=>false
theorem acR{ts:List Tr}(h:dep (.tup ts)<=40):cM id (.tup ts) vm=.ok (.bl (R9 ts),false):=by
 unfold cM vm
 dsimp only
 rw[if_pos ⟨by decide +kernel,h⟩]
 congr 3
 unfold nH
 match ts with
 | []=>rfl
 | [a] =>
  have c:∀v:Str,eqT (.tup [.str v]) (.tup [a])=gA v a:=λv=>by
   show(eqT (.str v) a&&true)=_
   rw[Bool.and_true,acP]
  show id (eqT (.tup [.str "least"]) (.tup [a]) || (eqT (.tup [.str "greatest"]) (.tup [a]) || (eqT (.tup [.str "product"]) (.tup [a]) || false)))=Cq a
  rw[c,c,c,acQ,Bool.or_false]
  rfl
 |a::b::r =>
  have c:∀v:Str,eqT (.tup [.str v]) (.tup (a::b::r))=false:=λv=>by
   show(eqT (.str v) a&&false)=_
   rw[Bool.and_false]
  show id (eqT (.tup [.str "least"]) (.tup (a::b::r)) || (eqT (.tup [.str "greatest"]) (.tup (a::b::r)) || (eqT (.tup [.str "product"]) (.tup (a::b::r)) || false)))=false
  rw[c,c,c]
  rfl
noncomputable def Cr:SF:=aC (bL (aj 0) (gT 2 (jX (gN 2) (jX (gN 3) o9)))) (aC (bM (bY (aq aM (aj 2) (eC (.str "shares")))) (aW (cJ uV (ak (aj 3) (ak (aj 1) ao)))) bV) (aW (jw (aq aM (aj 2) (eC (.str "middle"))) (jw (cJ pG (ak (aj 3) ao)) (qY cN cN (eC (.int 1)) (aj 3) (aj 1))))))
theorem JX{ts:List Tr}{n:Int}(h:dep (.tup ts)<=40)(h2:(ts.length == 2)=false):lW [.tup ts,.int n]=.ok (.bl (R9 ts),false):=by
 have e:=acR h
 have gl:aJ (.tup ts)=.ok (.int (ts.length:Nat),false):=rfl
 have gn:bQ (.int (ts.length:Nat)) (.int 2)=.ok (.bl true,false):=by
  have:=JR ts.length 2
  rw[h2]at this
  exact this
 have ty:cV (.tup ts) .tuple=true:=rfl
 show cG 4 (aC (bM (eE (dN (gJ .tuple (aj 0)))) (aW (eC (.bl false))) bV) (aC (bM (bY (aq bQ (bw (g1 aJ) (ak (aj 0) ao)) (eC (.int 2)))) (aW (aq (cM id) (aj 0) (eC vm))) bV) Cr)) _=_
 generalize aJ=L,bQ=NE,cM id=I,((ts.length:Nat):Int)=N,Tr.tup ts=T,vm=B,Cr=A at *
 simp -dsimp[cG,aZ,eB,dr,drs,g1,aO,iw,ty,gl,gn,e]
theorem acS{a b:Tr}{n:Nat}(hn:n<=1000)(h:dep a<=40):lW [.tup [a,b],.int n]=.ok (.bl (su n a b),false):=by
 have e1:=JW "shares" h
 have e2:=JW "middle" h
 have e3:=acM b hn
 have e4:=Rk b
 have gl:aJ (.tup [a,b])=.ok (.int 2,false):=rfl
 have gn:bQ (.int 2) (.int 2)=.ok (.bl false,false):=rfl
 have gt:∀ρ,(gT 2 (jX (gN 2) (jX (gN 3) o9))) (.tup [a,b]) ρ=.ok ((ρ.set 2 (.sh a)).set 3 (.sh b)):=λρ=>rfl
 have ty:cV (.tup [a,b]) .tuple=true:=rfl
 unfold su
 show cG 4 (aC (bM (eE (dN (gJ .tuple (aj 0)))) (aW (eC (.bl false))) bV) (aC (bM (bY (aq bQ (bw (g1 aJ) (ak (aj 0) ao)) (eC (.int 2)))) (aW (aq (cM id) (aj 0) (eC vm))) bV) Cr)) _=_
 unfold Cr
 generalize uV=AW,aM=E,aJ=L,bQ=NE,gT 2 _=G2,Tr.tup [a,b]=T,vm=B,oF n b=v,gA "middle" a=y,gA "shares" a=x at *
 cases x
 ·cases y
  ·simp -dsimp[cG,aZ,eB,dr,drs,g1,aO,aK,iw,ty,gl,gn,gt,e1,e2]
  ·cases b with
   |int k =>
    have l1:cN (.int 1) (.int k)=.ok (.bl (decide (1<=k)),false):=rfl
    have l2:cN (.int k) (.int n)=.ok (.bl (decide (k<=n)),false):=rfl
    have p:pO n (.int k)=(decide (1<=k)&&decide (k<=n)):=rfl
    rw[p]
    generalize pG=W,cN=LE,(n:Int)=n',decide (k<=n)=d,decide (1<=k)=c at *
    cases c <;> simp -dsimp[cG,aZ,eB,dr,drs,g1,aO,aK,iw,isW,ty,gl,gn,gt,e1,e2,e4,l1,l2]
   |_ =>
    generalize pG=W at *
    simp -dsimp[cG,aZ,eB,dr,drs,g1,aO,aK,iw,isW,pO,ty,gl,gn,gt,e1,e2,e4]
 ·simp -dsimp[cG,aZ,eB,dr,drs,g1,aO,aK,iw,ty,gl,gn,gt,e1,e3]
theorem acT{a b:Tr}{k:Nat}(h:dep (.tup [a,b])<=k):dep a<=k/\dep b<=k:=by
 rw[eG,dX,dX,eH]at h
 omega
theorem Sd{T:Tr}{n:Nat}(hn:n<=1000)(h:dep T<=40):lW [T,.int n]=.ok (.bl (um n T),false):=by
 cases T with
 |tup ts =>
  rcases ts with _|⟨a,_|⟨b,_|⟨c,r⟩⟩⟩
  ·exact JX h rfl
  ·exact JX h rfl
  ·exact acS hn (acT h).1
  ·exact JX h (beq_false_of_ne (by simp))
 |_=>rfl
end K71
end
section
namespace K71
open PySem L2 BH PySem.NumText
@[simp] theorem acU(fa:AF)(ρ : En):w6 fa ρ = bd (fa ρ) (λp=>match p.1 with
 | [.v (.int a) _,.v (.int b) _]=>if(-1000<=a/\a<=1000)/\(-1000<=b/\b<=1000)then .ok (.v (.lst (jV a (b-a).toNat)) true,p.2)else .bad
 |_=>.bad) .mk:=rfl
def Cu:EF:=w6 (ak (eC (.int 1)) (ak (aq aN (aj 1) (eC (.int 1))) ao))
theorem lr2(ρ : En)(fa:AF)(a b:Int)(o:(-1000<=a/\a<=1000)/\(-1000<=b/\b<=1000))(h:fa ρ=.ok ([.v (.int a) false,.v (.int b) false],ρ)):w6 fa ρ=.ok (.v (.lst (jV a (b-a).toNat)) true,ρ):=by
 rw[acU,h]
 simp only[Jq]
 rw[if_pos o]
theorem lp2(s0:Sl)(n:Int):ak (eC (.int 1)) (ak (aq aN (aj 1) (eC (.int 1))) ao) [s0,.sh (.int n)]=.ok ([.v (.int 1) false,.v (.int (n+1)) false],[s0,.sh (.int n)]):=by
 simp -dsimp[dr,ud]
theorem acV(s0:Sl){n:Nat}(hn:n<=100):Cu [s0,.sh (.int n)]=.ok (.v (.lst (jV 1 n)) true,[s0,.sh (.int n)]):=by
 have e:((n:Int)+1-1).toNat=n:=by omega
 have:=lr2 [s0,.sh (.int n)] _ 1 ((n:Int)+1) (by omega) (lp2 s0 n)
 rw[e]at this
 exact this
theorem acW(a:Int)(n:Nat):deps (jV a n)<=0:=Rw λt ht=>by
 obtain⟨i,_,rfl⟩:=List.mem_map.mp ht
 rw[cA]; omega
theorem acX(k:Int)(n:Nat):cM id (.int k) (.lst (jV 1 n))=.ok (.bl (decide (1<=k)&&decide (k<=n)),false):=by
 unfold cM
 dsimp only
 rw[if_pos ⟨by have:=acW 1 n; omega,by rw[cA]; omega⟩]
 congr 3
 show nH _ _=_
 unfold nH jV
 rw[List.any_map,Bool.eq_iff_iff,List.any_eq_true,Bool.and_eq_true,decide_eq_true_eq,decide_eq_true_eq]
 constructor
 ·rintro⟨i,hi,e⟩
  have e:((1+(i:Int)) == k)=true:=e
  rw[beq_iff_eq]at e
  have:=List.mem_range'_1.mp hi
  omega
 ·rintro⟨h1,h2⟩
  refine⟨(k-1).toNat,List.mem_range'_1.mpr ⟨by omega,by omega⟩,?_⟩
  show((1+((k-1).toNat:Int)) == k)=true
  rw[beq_iff_eq]
  omega
def Sg:BF:=f9 (bY (aq bQ (aq aB (aj 0) (eC (.int 0))) (eC (.str "shares")))) (f9 (eE (dN (gJ .list (aq aB (aj 0) (eC (.int 1)))))) (bY (aq bQ (bw (g1 aJ) (ak (aq aB (aj 0) (eC (.int 1))) ao)) (aj 1))))
def yg:EF:=bw (g1 cZ) (ak (fO [none] (fV (aq aB (aj 0) (eC (.int 1)))) (gN 0) d8 (cJ rT (ak (aj 0) ao))) ao)
def vo:SF:=aC (bM Sg (aW (eC (.bl false))) bV) (aW yg)
theorem acY{a b:Tr}{n:Nat}(hn:n<=1000)(ha:dep a<=40):vo [.sh (.tup [a,b]),.sh (.int n)]=.ok (.rt (.bl (gA "shares" a&&oF n b)) false,[.sh (.tup [a,b]),.sh (.int n)]):=by
 have e1:=acN "shares" ha
 have i0:aB (.tup [a,b]) (.int 0)=.ok (a,false):=rfl
 have i1:aB (.tup [a,b]) (.int 1)=.ok (b,false):=rfl
 unfold vo Sg
 cases hl:cV b .list with
 |false =>
  have w:oF n b=false:=by cases b <;> first|rfl|cases hl
  rw[w,Bool.and_false]
  generalize bQ=NE,aB=I,yg=E,Tr.tup [a,b]=T,gA "shares" a=x at *
  cases x <;> simp -dsimp[eB,dr,drs,aO,iw,e1,i0,i1,hl]
 |true =>
  obtain⟨us,rfl⟩:∃us,b=.lst us:=by cases b <;> first|exact⟨_,rfl⟩|cases hl
  have w:oF n (.lst us)=((us.length == n)&&us.all jz):=rfl
  rw[w]
  have el:=R8 us
  have en:=JR us.length n
  cases q:(us.length == n)
  ·rw[q]at en
   generalize aJ=G,bQ=NE,aB=I,yg=E,((us.length:Nat):Int)=N,Tr.lst us=U,Tr.tup [a,.lst us]=T,gA "shares" a=x at *
   cases x <;> simp -dsimp[eB,dr,drs,g1,aO,iw,e1,i0,i1,hl,el,en]
  ·have e2:yg [.sh (.tup [a,.lst us]),.sh (.int n)]=_:=xQ (F:=m8) (p:=jz) (us:=us) (ρ:=[.sh (.tup [a,.lst us]),.sh (.int n)]) (i:=fV (aq aB (aj 0) (eC (.int 1)))) (fe:=cJ rT (ak (aj 0) ao)) (by rw[beq_iff_eq]at q; omega) rfl (λu _=>⟨false,by
    have:=acK u
    generalize rT=F at *
    simp -dsimp[dr,drs,aK,this]⟩)
   rw[q]at en
   generalize aJ=G,bQ=NE,aB=I,yg=E,((us.length:Nat):Int)=N,Tr.lst us=U,Tr.tup [a,.lst us]=T,gA "shares" a=x,us.all jz=b at *
   cases x <;> simp -dsimp[eB,dr,drs,g1,aO,iw,e1,e2,i0,i1,hl,el,en]
def vp:EF:=jw (cJ lG (ak (aq aB (aj 0) (eC (.int 1))) ao)) (aq (cM id) (aq aB (aj 0) (eC (.int 1))) Cu)
theorem acZ{a b:Tr}{n:Nat}(hn:n<=100):vp [.sh (.tup [a,b]),.sh (.int n)]=.ok (.v (.bl (pO n b)) false,[.sh (.tup [a,b]),.sh (.int n)]):=by
 have e1:=pN b
 have e2:=acV (.sh (.tup [a,b])) hn
 have i1:aB (.tup [a,b]) (.int 1)=.ok (b,false):=rfl
 unfold vp
 cases hw:isW b with
 |false =>
  have w:pO n b=false:=by cases b <;> first|rfl|cases hw
  rw[hw]at e1
  rw[w]
  generalize Cu=E,lG=F,aB=I,Tr.tup [a,b]=T at *
  simp -dsimp[eB,dr,drs,aK,aO,e1,i1]
 |true =>
  obtain⟨k,rfl⟩:∃k,b=.int k:=by cases b <;> first|exact⟨_,rfl⟩|cases hw
  have e3:=acX k n
  have w:pO n (.int k)=(decide (1<=k)&&decide (k<=n)):=rfl
  rw[hw]at e1
  rw[w]
  generalize Cu=E,lG=F,cM id=G,aB=I,(n:Int)=n',Tr.lst (jV 1 n)=L,Tr.tup [a,.int k]=T,(decide (1<=k)&&decide (k<=n))=c at *
  simp -dsimp[eB,dr,drs,aK,aO,e1,e2,e3,i1]
end K71
end
section
namespace K71
open PySem L2 BH PySem.NumText
def oG:BF:=f9 (eE (dN (gJ .tuple (aj 0)))) (f9 (bY (aq (cM not) (bw (g1 aJ) (ak (aj 0) ao)) (fU [.int 1,.int 2]))) (eE (dN (gJ .str (aq aB (aj 0) (eC (.int 0)))))))
noncomputable def uo:SF:=aC (bM oG (aW (eC (.bl false))) bV) (aC (bM (bY (aq aM (bw (g1 aJ) (ak (aj 0) ao)) (eC (.int 1)))) (aW (aq (cM id) (aq aB (aj 0) (eC (.int 0))) (fU [.str "least",.str "greatest",.str "product"]))) bV) (aC (bM (bY (aq aM (aq aB (aj 0) (eC (.int 0))) (eC (.str "middle")))) (aW vp) bV) vo))
theorem Cv{T:Tr}{n:Int}(h:oG [.sh T,.sh (.int n)]=.ok (true,[.sh T,.sh (.int n)])):cG 2 uo [T,.int n]=.ok (.bl false,false):=by
 unfold uo
 generalize vo=S,vp=M,oG=G at *
 simp -dsimp[cG,aZ,h]
theorem Sq{ts:List Tr}{n:Int}(h:cM not (.int (ts.length:Nat)) (.lst [.int 1,.int 2])=.ok (.bl true,false)):oG [.sh (.tup ts),.sh (.int n)]=.ok (true,[.sh (.tup ts),.sh (.int n)]):=by
 have ty:cV (.tup ts) .tuple=true:=rfl
 have gl:aJ (.tup ts)=.ok (.int (ts.length:Nat),false):=rfl
 unfold oG
 generalize aJ=L,cM not=I,((ts.length:Nat):Int)=N,Tr.tup ts=T at *
 simp -dsimp[eB,dr,drs,g1,aO,iw,ty,gl,h]
theorem Cw{ts:List Tr}{a:Tr}{n:Int}(h:cM not (.int (ts.length:Nat)) (.lst [.int 1,.int 2])=.ok (.bl false,false))(h0:aB (.tup ts) (.int 0)=.ok (a,false)):oG [.sh (.tup ts),.sh (.int n)]=.ok (!cV a .str,[.sh (.tup ts),.sh (.int n)]):=by
 have ty:cV (.tup ts) .tuple=true:=rfl
 have gl:aJ (.tup ts)=.ok (.int (ts.length:Nat),false):=rfl
 unfold oG
 generalize aB=X,aJ=L,cM not=I,((ts.length:Nat):Int)=N,Tr.tup ts=T at *
 simp -dsimp[eB,dr,drs,g1,aO,iw,ty,gl,h,h0]
theorem ac0(w:Str)(n:Int):cG 2 uo [.tup [.str w],.int n]=.ok (.bl (bare w),false):=by
 have g:=Cw (ts:=[.str w]) (a:=.str w) (n:=n) rfl rfl
 have g:oG [.sh (.tup [.str w]),.sh (.int n)]=.ok (false,[.sh (.tup [.str w]),.sh (.int n)]):=g
 have gl:aJ (.tup [.str w])=.ok (.int 1,false):=rfl
 have ge:aM (.int 1) (.int 1)=.ok (.bl true,false):=rfl
 have i0:aB (.tup [.str w]) (.int 0)=.ok (.str w,false):=rfl
 have b:=acC w
 unfold uo
 generalize cM id=I,aB=X,aM=E,aJ=L,vo=S,vp=M,oG=G,([.str "least",.str "greatest",.str "product"]:List Tr)=B,Tr.tup [.str w]=T,bare w=bb at *
 simp -dsimp[cG,aZ,dr,drs,g1,aO,g,gl,ge,i0,b]
theorem ac1(w:Str)(b:Tr){n:Nat}(hn:n<=100):cG 2 uo [.tup [.str w,b],.int n]=.ok (.bl (su n (.str w) b),false):=by
 have g:=Cw (ts:=[.str w,b]) (a:=.str w) (n:=n) rfl rfl
 have g:oG [.sh (.tup [.str w,b]),.sh (.int n)]=.ok (false,[.sh (.tup [.str w,b]),.sh (.int n)]):=g
 have gl:aJ (.tup [.str w,b])=.ok (.int 2,false):=rfl
 have ge:aM (.int 2) (.int 1)=.ok (.bl false,false):=rfl
 have i0:aB (.tup [.str w,b]) (.int 0)=.ok (.str w,false):=rfl
 have e1:=JW (a:=.str w) "middle" (by rw[dG]; omega)
 have e2:=acZ (a:=.str w) (b:=b) hn
 have e3:=acY (a:=.str w) (b:=b) (n:=n) (by omega) (by rw[dG]; omega)
 have r:su n (.str w) b=if gA "middle" (.str w)=true then pO n b else gA "shares" (.str w)&&oF n b:=by
  unfold su
  by_cases hs:w = "shares"
  ·subst hs
   rw[if_pos (show gA "shares" (.str "shares")=true from beq_self_eq_true _),if_neg (show ¬gA "middle" (.str "shares")=true by decide +kernel),show gA "shares" (.str "shares")=true from beq_self_eq_true _,Bool.true_and]
  ·have h1:gA "shares" (.str w)=false:=beq_false_of_ne hs
   rw[if_neg (by rw[h1]; decide),h1,Bool.false_and]
   cases gA "middle" (.str w)
   ·rfl
   ·rfl
 rw[r]
 unfold uo
 generalize cM id=I,aB=X,aM=E,aJ=L,vo=S,vp=M,oG=G,(n:Int)=n',Tr.tup [.str w,b]=T,pO n b=pc,(gA "shares" (.str w)&&oF n b)=v,gA "middle" (.str w)=m at *
 cases m <;> simp -dsimp[cG,aZ,dr,drs,g1,aO,g,gl,ge,i0,e1,e2,e3]
theorem Ss(T:Tr){n:Nat}(hn:n<=100):tX [T,.int n]=.ok (.bl (um n T),false):=by
 show cG 2 uo [T,.int n]=_
 cases T with
 |tup ts =>
  rcases ts with _|⟨a,_|⟨b,_|⟨c,r⟩⟩⟩
  ·exact Cv (Sq rfl)
  ·cases h:cV a .str with
   |false =>
    have w:um n (.tup [a])=false:=by cases a <;> first|rfl|cases h
    rw[w]
    have g:=Cw (ts:=[a]) (a:=a) (n:=n) rfl rfl
    rw[h]at g
    exact Cv g
   |true =>
    obtain⟨w,rfl⟩:∃w,a=.str w:=by cases a <;> first|exact⟨_,rfl⟩|cases h
    exact ac0 w n
  ·cases h:cV a .str with
   |false =>
    have w:um n (.tup [a,b])=false:=by cases a <;> first|rfl|cases h
    rw[w]
    have g:=Cw (ts:=[a,b]) (a:=a) (n:=n) rfl rfl
    rw[h]at g
    exact Cv g
   |true =>
    obtain⟨w,rfl⟩:∃w,a=.str w:=by cases a <;> first|exact⟨_,rfl⟩|cases h
    exact ac1 w b hn
  ·refine Cv (Sq ?_)
   have l:((a::b::c::r).length:Nat)=r.length+3:=rfl
   unfold cM
   dsimp only
   rw[if_pos ⟨by decide,by rw[cA]; omega⟩,l]
   show Rs.ok (Tr.bl (not ((1 == ((r.length+3:Nat):Int)) || ((2 == ((r.length+3:Nat):Int)) || false))),false)=_
   have h1:(1 == ((r.length+3:Nat):Int))=false:=beq_false_of_ne (by omega)
   have h2:(2 == ((r.length+3:Nat):Int))=false:=beq_false_of_ne (by omega)
   rw[h1,h2]
   rfl
 |_=>rfl
end K71
end
section
namespace K71
open PySem L2 BH PySem.NumText
theorem ac2:n8 [.dD "NoBook",.str "NoBook"]=.ok (.bl true,false):=by kernel_rfl
theorem ac3:n8 [.dD "NoRule",.str "NoRule"]=.ok (.bl true,false):=by kernel_rfl
theorem Sv:∀{ts:List Tr},kY ts=true->∀t∈ts,jf t=true
 | [],_,t,ht=>by simp at ht
 |a::b,q,t,ht=>by
  simp only[kY,Bool.and_eq_true]at q
  rcases List.mem_cons.mp ht with rfl|ht
  ·exact q.1
  ·exact Sv q.2 t ht
theorem ac4{u:Tr}(h:jz u=true)(ho:jf u=true):∃x,u=fT x/\Rb x:=by
 have:∃p q,u=.tup [.int p,.int q]:=by
  cases u with
  |tup ts =>
   rcases ts with _|⟨a,_|⟨b,_|⟨c,r⟩⟩⟩
   ·cases h
   ·cases h
   ·cases a <;> try cases h
    cases b <;> try cases h
    exact⟨_,_,rfl⟩
   ·cases h
  |_=>cases h
 obtain⟨p,q,rfl⟩:=this
 have h:(decide (0<=p)&&(decide (1<=q)&&(Int.gcd p q == 1)))=true:=h
 simp only[Bool.and_eq_true,decide_eq_true_eq,beq_iff_eq]at h
 simp only[jf,kY,Bool.and_eq_true,decide_eq_true_eq]at ho
 exact⟨(p,q),rfl,h.1,by show p<10 ^ 60; omega,h.2.1,by show q<10 ^ 60; omega,h.2.2⟩
theorem ac5{u:Tr}(h:iR u=true):jz u=true:=by
 have:∃p q,u=.tup [.int p,.int q]:=by
  cases u with
  |tup ts =>
   rcases ts with _|⟨a,_|⟨b,_|⟨c,r⟩⟩⟩
   ·cases h
   ·cases h
   ·cases a <;> try cases h
    cases b <;> try cases h
    exact⟨_,_,rfl⟩
   ·cases h
  |_=>cases h
 obtain⟨p,q,rfl⟩:=this
 have h:(decide (0<=p)&&decide (p<=q)&&decide (1<=q)&&(Int.gcd p q == 1))=true:=h
 simp only[Bool.and_eq_true]at h
 show(decide (0<=p)&&(decide (1<=q)&&(Int.gcd p q == 1)))=true
 simp only[Bool.and_eq_true]
 exact⟨h.1.1.1,h.1.2,h.2⟩
theorem JZ:∀{us:List Tr},us.all jz=true->kY us=true->∃ws:List (Int × Int),us=ws.map fT/\∀w∈ws,Rb w
 | [],_,_=>⟨[],rfl,by simp⟩
 |u::us,h,ho=>by
  simp only[kY,Bool.and_eq_true]at ho
  rw[List.all_cons,Bool.and_eq_true]at h
  obtain⟨x,rfl,hx⟩:=ac4 h.1 ho.1
  obtain⟨ws,rfl,hw⟩:=JZ h.2 ho.2
  exact⟨x::ws,rfl,λw m=>(List.mem_cons.mp m).elim (λe=>e▸hx) (hw w)⟩
theorem Sw:∀{rs:List Tr},(∀r∈rs,iJ 12 r=true)->kY rs=true->∃ls:List (List (Int × Int)),rs=ls.map dH/\∀l∈ls,l.length<=12/\∀w∈l,Rb w
 | [],_,_=>⟨[],rfl,by simp⟩
 |r::rs,h,ho=>by
  simp only[kY,Bool.and_eq_true]at ho
  obtain⟨ls,rfl,hl⟩:=Sw (λr m=>h r (by simp[m])) ho.2
  have h0:=h r (by simp)
  obtain⟨us,rfl⟩:=Jv h0
  simp only[iJ,Bool.and_eq_true,decide_eq_true_eq,List.all_eq_true]at h0
  have o:=ho.1
  simp only[jf]at o
  obtain⟨ws,rfl,hw⟩:=JZ (us:=us) (List.all_eq_true.mpr λu m=>ac5 (h0.2 u m)) o
  refine⟨ws::ls,rfl,λl m=>?_⟩
  rcases List.mem_cons.mp m with rfl|m
  ·exact⟨by have:=h0.1.2; rw[List.length_map]at this; omega,hw⟩
  ·exact hl l m
theorem ac6{T:Tr}(h:iZ T=true)(ho:jf T=true):∃s:Str,lF [T]=.ok (.str s,false):=by
 cases T with
 |lst rs =>
  have h':=h
  unfold iZ at h'
  simp only[Bool.and_eq_true,decide_eq_true_eq,List.all_eq_true]at h'
  simp only[jf]at ho
  obtain⟨ls,rfl,hl⟩:=Sw h'.1.2 ho
  have:=h'.1.1.2
  rw[List.length_map]at this
  exact⟨_,R6 hl (by omega) h⟩
 |_=>cases h
theorem ac7{T:Tr}(h:iZ T=false):lF [T]=.ex "NoBook" := by
 have e:=ace h
 show cG 1 (aC (wB (cJ n6 (ak (aj 0) ao))) (aW (rO kW (eC (.str "\n")) yd))) _=_
 generalize kW=G,yd=C,n6=F at *
 simp -dsimp[cG,aZ,dr,drs,aK,e]
theorem ac8{T:Tr}{n:Int}(h:lW [T,.int n]=.ok (.bl false,false)):jo [T,.int n]=.ex "NoRule" := by
 unfold jo xu
 generalize pJ=G,lW=F at *
 simp -dsimp[cG,aZ,dr,drs,aK,iw,h]
theorem Sx{v:Str}{a:Tr}(h:gA v a=true):a=.str v:=by
 cases a with
 |str w=>exact congrArg Tr.str (beq_iff_eq.mp h)
 |_=>cases h
theorem Sy{T:Tr}{n:Nat}(hn:n<=4)(h:um n T=true)(ho:jf T=true)(hd:dep T<=40):∃s:Str,jo [T,.int n]=.ok (.str s,false):=by
 have ir:=Sd (n:=n) (by omega) hd
 rw[h]at ir
 cases T with
 |tup ts =>
  rcases ts with _|⟨a,_|⟨b,_|⟨c,r⟩⟩⟩
  ·cases h
  ·cases a with
   |str w=>exact⟨w,acF h ir⟩
   |_=>cases h
  ·have h2:su n a b=true:=h
   unfold su at h2
   split at h2
   ·rename_i hs
    have e:=Sx hs
    subst e
    cases b with
    |lst us =>
     have h3:((us.length == n)&&us.all jz)=true:=h2
     rw[Bool.and_eq_true,beq_iff_eq]at h3
     simp only[jf,kY,Bool.and_eq_true]at ho
     obtain⟨ws,rfl,hw⟩:=JZ h3.2 ho.2.1
     rw[List.length_map]at h3
     exact⟨_,acD ir hw (by omega)⟩
    |_=>cases h2
   ·rw[Bool.and_eq_true]at h2
    have e:=Sx h2.1
    subst e
    cases b with
    |int k =>
     have h3:(decide (1<=k)&&decide (k<=(n:Int)))=true:=h2.2
     rw[Bool.and_eq_true,decide_eq_true_eq,decide_eq_true_eq]at h3
     obtain⟨j,rfl⟩:∃j:Nat,k=j:=⟨k.toNat,by omega⟩
     exact⟨_,acE ir (by omega)⟩
    |_=>cases h2.2
  ·cases h
 |_=>cases h
def vq:SF:=bM (dN (aj 0)) (bL (cJ lF (ak (aj 1) ao)) (gN 3)) (bL (cJ jo (ak (aj 1) (ak (aj 2) ao))) (gN 3))
def vA(b:Bool)(z n:Tr):Rs (Tr × Bool):=if b=true then lF [z]else jo [z,n]
theorem ac9{b:Bool}{z n T:Tr}(h:vA b z n=.ok (T,false)):vq [.sh (.bl b),.sh z,.sh n,.sh .non,.sh .non,.un]=.ok (.nx,[.sh (.bl b),.sh z,.sh n,.sh T,.sh .non,.un]):=by
 unfold vA at h
 unfold vq
 generalize jo=R,lF=B at *
 cases b
 ·have h:R [z,n]=.ok (T,false):=h
  simp -dsimp[dr,drs,aK,iw,h]
 ·have h:B [z]=.ok (T,false):=h
  simp -dsimp[dr,drs,aK,iw,h]
theorem ada{b:Bool}{z n:Tr}{c:Str}(h:vA b z n=.ex c):vq [.sh (.bl b),.sh z,.sh n,.sh .non,.sh .non,.un]=.ex c:=by
 unfold vA at h
 unfold vq
 generalize jo=R,lF=B at *
 cases b
 ·have h:R [z,n]=.ex c:=h
  simp -dsimp[dr,drs,aK,iw,h]
 ·have h:B [z]=.ex c:=h
  simp -dsimp[dr,drs,aK,iw,h]
theorem SJ{b z n X Y:Tr}(e:pF ["NoBook", "NoRule"] 5 vq (bL (aj 5) (gN 4)) [.sh b,.sh z,.sh n,.sh .non,.sh .non,.un]=.ok (.nx,[.sh b,.sh z,.sh n,.sh X,.sh Y,.un])):qF [b,z,n]=.ok (.tup [X,Y],false):=by
 show cG 6 (aC (bL (eC .non) (gN 3)) (aC (bL (eC .non) (gN 4)) (aC (pF ["NoBook", "NoRule"] 5 vq (bL (aj 5) (gN 4))) (aW (jj (ak (aj 3) (ak (aj 4) ao))))))) _=_
 generalize pF _ _ _ _=G at e ⊢
 simp -dsimp[cG,aZ,dr,cls,bx,e]
theorem SM{b:Bool}{z n T:Tr}(h:vA b z n=.ok (T,false)):qF [.bl b,z,n]=.ok (.tup [T,.non],false):=SJ (ab9 (ac9 h))
theorem SN{b:Bool}{z n:Tr}{c:Str}(h:vA b z n=.ex c)(hc:c∈(["NoBook", "NoRule"]:List Str)):qF [.bl b,z,n]=.ok (.tup [.non,.dD c],false):=SJ ((acd (ada h) hc).trans (by
 simp -dsimp[aY]))
def S5:SF:=aW (jw (aq (sV id) (aj 5) (eC .non)) (gJ .str (aj 4)))
theorem Cy{T X Y:Tr}{n:Nat}{b p q:Bool}(hs:kE T=.ok (.str (txt T),false))(ha:qF [.bl b,T,.int n]=.ok (.tup [X,Y],false))(hp:rR [T]=.ok (.bl p,false))(hq:tX [T,.int n]=.ok (.bl q,false))
  (h1:b=true→p=false→n8 [Y,.str "NoBook"]=.ok (.bl true,false)) (h2:b=false→q=false→n8 [Y,.str "NoRule"]=.ok (.bl true,false)) (h3:(b=true→p=true)→(b=false→q=true)→sV id Y .non=.ok (.bl true,false)∧cV X .str=true):lH [.bl b,T,.int n]=.ok (.bl true,false):=by
 have en:=Rx (T:=.str (txt T)) (by rw[dG]; omega)
 show cG 6 (aC (bL (bw (g1 kE) (ak (aj 1) ao)) (gN 3)) (aC (bL (cJ qF (ak (aj 0) (ak (aj 1) (ak (aj 2) ao)))) (gT 2 (jX (gN 4) (jX (gN 5) o9)))) (aC (bM (bY (aq bQ (bw (g1 kE) (ak (aj 1) ao)) (aj 3))) (aW (eC (.bl false))) bV) (aC (bM (qX (dN (aj 0)) (eE (dN (cJ rR (ak (aj 1) ao))))) (aW (cJ n8 (ak (aj 5) (ak (eC (.str "NoBook")) ao)))) bV) (aC (bM (qX (eE (dN (aj 0))) (eE (dN (cJ tX (ak (aj 1) (ak (aj 2) ao)))))) (aW (cJ n8 (ak (aj 5) (ak (eC (.str "NoRule")) ao)))) bV) S5))))) _=_
 unfold S5
 generalize Tr.str "NoRule" = N2,Tr.str "NoBook" = N1,sV id=I,bQ=N,kE=S,n8=f4,tX=f3,rR=f2,qF=f1,(n:Int)=n',Tr.str (txt T)=Z at *
 cases b
 ·cases q
  ·have a:=h2 rfl rfl
   simp -dsimp[cG,aZ,dr,drs,g1,aK,aO,iw,hs,ha,hp,hq,en,a]
  ·obtain⟨a1,a2⟩:=h3 nofun (λ_=>rfl)
   simp -dsimp[cG,aZ,dr,drs,g1,aK,aO,eB,iw,hs,ha,hp,hq,en,a1,a2]
 ·cases p
  ·have a:=h1 rfl rfl
   simp -dsimp[cG,aZ,dr,drs,g1,aK,aO,iw,hs,ha,hp,hq,en,a]
  ·obtain⟨a1,a2⟩:=h3 (λ_=>rfl) nofun
   simp -dsimp[cG,aZ,dr,drs,g1,aK,aO,eB,iw,hs,ha,hp,hq,en,a1,a2]
theorem good_str{T:Tr}(h:Sm 4100 8 T):kE T=.ok (.str (txt T),false):=by
 obtain⟨a,b,c⟩:=h
 exact if_pos ⟨RQ T a,by omega,by omega⟩
theorem S6{T:Tr}{n:Nat}(h:Sm 4100 8 T)(hn:n<=4):lH [.bl true,T,.int n]=.ok (.bl true,false):=by
 have lb:=RP T
 have lr:=Ss T (n:=n) (by omega)
 cases hb:iZ T with
 |false =>
  rw[hb]at lb
  exact Cy (good_str h) (SN (b:=true) (ac7 hb) (by simp)) lb lr (λ_ _=>ac2) nofun (λa=>by cases a rfl)
 |true =>
  rw[hb]at lb
  obtain⟨s,e⟩:=ac6 hb h.1
  exact Cy (good_str h) (SM (b:=true) e) lb lr nofun nofun (λ_ _=>⟨rfl,rfl⟩)
theorem S7{T:Tr}{n:Nat}(h:Sm 4100 8 T)(hn:n<=4):lH [.bl false,T,.int n]=.ok (.bl true,false):=by
 have lb:=RP T
 have lr:=Ss T (n:=n) (by omega)
 have hd:dep T<=40:=by have:=h.2.2; omega
 cases hb:um n T with
 |false =>
  rw[hb]at lr
  have ir:=Sd (n:=n) (by omega) hd
  rw[hb]at ir
  exact Cy (good_str h) (SN (b:=false) (ac8 ir) (by simp)) lb lr nofun (λ_ _=>ac3) (λ_ a=>by cases a rfl)
 |true =>
  rw[hb]at lr
  obtain⟨s,e⟩:=Sy hn hb h.1 hd
  exact Cy (good_str h) (SM (b:=false) e) lb lr nofun nofun (λ_ _=>⟨rfl,rfl⟩)
end K71
end
section
namespace K71
open PySem L2 BH PySem.NumText
theorem pick(xs:List Tr){N:Nat}(hN:xs.length=N)(h0:0<N)(h9:N<1000){P:Tr->Prop}(hP:∀t∈xs,P t)(n:Int):∃(i:Nat) (m:Int) (T:Tr),cP [.lst [.int n],.int (N:Nat)]=.ok ((.int (i:Nat),false),[.int m])/\aB (.lst xs) (.int (i:Nat))=.ok (T,false)/\P T:=by
 obtain⟨i,m,e,hi⟩:=rZ n (N:Nat) (by omega) (by omega)
 obtain⟨T,mem,g⟩:=JH (xs:=xs) (i:=i) (by omega)
 exact⟨i,m,T,e,g,hP T mem⟩
theorem S8{B D:Nat}{xs:List Tr}(h:xs.all (JD B D)=true):∀t∈xs,Sm B D t:=λt m=>gP (List.all_eq_true.mp h t m)
theorem Rb.sm{x:Int × Int}(h:Rb x):Sm 2 1 (fT x):=Pr.sm ⟨x.1,x.2,rfl,by have:=h.1; have:=h.2.1; omega,by have:=h.2.2.1; have:=h.2.2.2.1; omega⟩
theorem S9{ws:List (Int × Int)}(h:∀w∈ws,Rb w)(hl:ws.length<=12):Sm 36 2 (dH ws):=Sm.lst (B:=2) (D:=1) (λt m=>by
 obtain⟨w,hw,rfl⟩:=List.mem_map.mp m
 exact Rb.sm (h w hw)) (by rw[List.length_map]; omega)
theorem yh{a b:Tr}{B D N:Nat}(ha:Sm B D a)(hb:Sm B D b)(hN:2*(B+1)<=N):Sm N (D+1) (.tup [a,b]):=Sm.tup (B:=B) (D:=D) (λt m=>by
 rcases List.mem_cons.mp m with rfl|m
 ·exact ha
 ·rw[List.mem_singleton.mp m]; exact hb) hN
theorem Tc{a:Tr}{B D N:Nat}(ha:Sm B D a)(hN:B+1<=N):Sm N (D+1) (.tup [a]):=Sm.tup (B:=B) (D:=D) (λt m=>by
 rw[List.mem_singleton.mp m]; exact ha) (by show 1*(B+1)<=N; omega)
theorem J0:Sm 10 0 (.str "shares"):=gP (by decide +kernel)
theorem Td:Sm 10 0 (.str "middle"):=gP (by decide +kernel)
theorem yj{r:Ru}{k:Nat}(h:oE k r)(hk:k<=4):Sm 100 3 (fP r):=by
 cases r with
 |sh ws=>exact yh (J0.mono (by omega) (by omega)) (S9 h.2 (by have:=h.1; omega)) (by omega)
 |mid j=>exact(yh (D:=1) (B:=10) (Td.mono (by omega) (by omega)) ((Sm.int (i:=(j:Int)) (by have:=h.2; omega)).mono (by omega) (by omega)) (N:=100) (by omega)).mono (by omega) (by omega)
 |least=>exact gP (by decide +kernel)
 |greatest=>exact gP (by decide +kernel)
 |product=>exact gP (by decide +kernel)
theorem Te(r:Ru):∃w rest,fP r=.tup (.str w::rest)/\rest.length<=1:=by
 cases r
 ·exact⟨_,_,rfl,Nat.le_refl _⟩
 ·exact⟨_,_,rfl,Nat.le_refl _⟩
 ·exact⟨_,_,rfl,Nat.zero_le _⟩
 ·exact⟨_,_,rfl,Nat.zero_le _⟩
 ·exact⟨_,_,rfl,Nat.zero_le _⟩
section
variable {R O:Tr}{k:Nat}{n w:Int}{ws:List (Int × Int)}{i:Nat}(hR:Sm 100 3 R)(hk:1<=k/\k<=4)(hw:∀x∈ws,Rb x)(hl:ws.length=k)(hO:Sm 12 4 O)(hi:i<k)
abbrev pP(R:Tr)(k:Nat)(n w:Int)(ws:List (Int × Int))(i:Nat)(O:Tr):En:=[.sh R,.sh (.int k),.rf [.int n],.sh (.int w),.sh (dH ws),.sh (.int i),.sh O,.un]
def Bd(F:SF)(R:Tr)(k:Nat)(n w:Int)(ws:List (Int × Int))(i:Nat)(O:Tr):Prop:=∃T fr m ρ,F (pP R k n w ws i O)=.ok (.rt T fr,ρ)/\ρ[2]?=some (.rf [.int m])/\Sm 4100 8 T
def b0:SF:=aW (jj (ak (eC (.str "shares")) (ak (aq aN (aq aN (o8 (aj 4) oZ (o7 (aj 5))) (aq cO (fK (ak (aj 6) ao)) (aq aB (fU [.int 1,.int 2,.int 1]) (aj 3)))) (o8 (aj 4) (o7 (aq aN (aj 5) (aq aB (fU [.int 1,.int 1,.int 0]) (aj 3)))) oZ)) ao)))
include hw hl hO hi hk in
theorem adb(h0:0<=w)(h3:w<3):Bd b0 R k n w ws i O:=by
 obtain⟨c,d,e1,e2,hc,hd⟩:∃c d:Nat,aB (.lst [.int 1,.int 2,.int 1]) (.int w)=.ok (.int (c:Nat),false)/\aB (.lst [.int 1,.int 1,.int 0]) (.int w)=.ok (.int (d:Nat),false)/\c<=2/\d<=1:=by
  rcases(show w=0\/w=1\/w=2 by omega)with rfl|rfl|rfl
  ·exact⟨1,1,rfl,rfl,by omega,by omega⟩
  ·exact⟨2,1,rfl,rfl,by omega,by omega⟩
  ·exact⟨1,0,rfl,rfl,by omega,by omega⟩
 have s1:nU none (some (i:Int)) (dH ws)=.ok (.lst ((ws.map fT).take i),true):=acg _ i
 have s2:nU (some ((i+d:Nat):Int)) none (dH ws)=.ok (.lst ((ws.map fT).drop (i+d)),true):=ach _ (i+d)
 have ml:=aci (A:=[O]) (k:=c) (by simp) (by omega)
 have lc:(List.replicate c [O]).flatten.length=c:=by rw[acf]; simp
 have lt:((ws.map fT).take i).length<=4:=by rw[List.length_take,List.length_map]; omega
 have ld:((ws.map fT).drop (i+d)).length<=4:=by rw[List.length_drop,List.length_map]; omega
 have a1:=RD (A:=(ws.map fT).take i) (B:=(List.replicate c [O]).flatten) (by omega)
 have a2:=RD (A:=(ws.map fT).take i++(List.replicate c [O]).flatten) (B:=(ws.map fT).drop (i+d)) (by rw[List.length_append]; omega)
 have ai:aN (.int (i:Int)) (.int (d:Int))=.ok (.int ((i+d:Nat):Int),false):=by rw[ud]; rfl
 have Tf:∀t∈ws.map fT,Sm 12 4 t:=λt m=>by
  obtain⟨x,hx,rfl⟩:=List.mem_map.mp m
  exact(Rb.sm (hw x hx)).mono (by omega) (by omega)
 have sml:Sm 200 5 (.lst ((ws.map fT).take i++(List.replicate c [O]).flatten++(ws.map fT).drop (i+d))):=by
  refine Sm.lst (B:=12) (D:=4) (λt m=>?_) (by rw[List.length_append,List.length_append]; omega)
  rcases List.mem_append.mp m with m|m
  ·rcases List.mem_append.mp m with m|m
   ·exact Tf t (List.mem_of_mem_take m)
   ·obtain⟨l,h1,h2⟩:=List.mem_flatten.mp m
    rw[(List.mem_replicate.mp h1).2]at h2
    rw[List.mem_singleton.mp h2]
    exact hO
  ·exact Tf t (List.mem_of_mem_drop m)
 refine⟨.tup [.str "shares",.lst ((ws.map fT).take i++(List.replicate c [O]).flatten++(ws.map fT).drop (i+d))],false,n,pP R k n w ws i O,?_,rfl,(yh (J0.mono (by omega) (by omega)) sml (N:=4100) (by omega)).mono (by omega) (by omega)⟩
 unfold b0 pP
 generalize aN=A,cO=M,aB=I,([.int 1,.int 1,.int 0]:List Tr)=A2,([.int 1,.int 2,.int 1]:List Tr)=A1,(k:Int)=k',(c:Int)=c',(d:Int)=d',(i:Int)=i',((i+d:Nat):Int)=id',dH ws=L0,Tr.lst (List.replicate c [O]).flatten=L1,Tr.lst ((ws.map fT).drop (i+d))=L2,Tr.lst ((ws.map fT).take i)=L3,Tr.lst ((ws.map fT).take i++(List.replicate c [O]).flatten)=L4,Tr.lst ((ws.map fT).take i++(List.replicate c [O]).flatten++(ws.map fT).drop (i+d))=L5 at *
 simp -dsimp[dr,cls,bx,bU,s1,s2,e1,e2,ml,a1,a2,ai]
def b3:SF:=aW (jj (ak (eC (.str "shares")) (ak (aq aB (fK (ak (bw (g1 bN) (ak (aj 4) ao)) (ak (aq aB (aj 4) (eC (.int 0))) (ak (eC .non) (ak (jj ao) (ak (eC (.str "1")) ao)))))) (cu 0 cP (ak (aj 2) (ak (eC (.int 5)) ao)))) ao)))
include hw hl hk in
theorem ade:Bd b3 R k n w ws i O:=by
 obtain⟨x,xs,rfl⟩:∃x xs,ws=x::xs:=List.exists_cons_of_ne_nil (λq=>by rw[q]at hl; simp at hl; omega)
 have gt:bN (dH (x::xs))=.ok (.tup ((x::xs).map fT),false):=rfl
 have i0:aB (dH (x::xs)) (.int 0)=.ok (fT x,false):=Rr (xs:=(x::xs).map fT) (i:=0) rfl
 have smt:Sm 36 2 (.tup ((x::xs).map fT)):=Sm.tup (B:=2) (D:=1) (λt m=>by
  obtain⟨w,hw',rfl⟩:=List.mem_map.mp m
  exact Rb.sm (hw w hw')) (by rw[List.length_map]; omega)
 obtain⟨j,m,T,e,g,hT⟩:=pick [.tup ((x::xs).map fT),fT x,.non,.tup [],.str "1"] (N:=5) rfl (by omega) (by omega) (P:=Sm 36 2) (λt m=>by
  simp only[List.mem_cons,List.not_mem_nil,or_false]at m
  rcases m with rfl|rfl|rfl|rfl|rfl
  ·exact smt
  ·exact(Rb.sm (hw x (by simp))).mono (by omega) (by omega)
  ·exact gP (by decide +kernel)
  ·exact gP (by decide +kernel)
  ·exact gP (by decide +kernel)) n
 refine⟨.tup [.str "shares",T],false,m,[.sh R,.sh (.int k),.rf [.int m],.sh (.int w),.sh (dH (x::xs)),.sh (.int i),.sh O,.un],?_,rfl,(yh (J0.mono (by omega) (by omega)) hT (N:=4100) (by omega)).mono (by omega) (by omega)⟩
 unfold b3 pP
 change cP [.lst [.int n],.int 5]=_ at e
 generalize bN=G,aB=I,(k:Int)=k',(j:Int)=j',(i:Int)=i',fT x=X,dH (x::xs)=L0,Tr.tup ((x::xs).map fT)=L1 at *
 simp -dsimp[con,drs,dr,cls,bx,aK,others,aV,dR,fC,g1,gt,i0,e,g]
end
end K71
end
section
namespace K71
open PySem L2 BH PySem.NumText
section
variable {R O:Tr}{k:Nat}{n w:Int}{ws:List (Int × Int)}{i:Nat}(hR:Sm 100 3 R)(hk:1<=k/\k<=4)(hw:∀x∈ws,Rb x)(hl:ws.length=k)(hO:Sm 12 4 O)(hi:i<k)
noncomputable def b4:SF:=aC (bL (fK (ak (eC (.int 0)) (ak (aq aN (aj 1) (eC (.int 1))) (ak (aq bA (eC (.int 0)) (eC (.int 1))) (ak (eC (.bl true)) (ak (eC .non) (ak (eC (.str "1")) (ak (eC (.tup [.int 1,.int 1])) (ak (fU [.int 1]) (ak (aq dz (eC (.int 10)) (eC (.int 50))) ao)))))))))) (gN 7)) (aW (jj (ak (eC (.str "middle")) (ak (aq aB (aj 7) (cu 0 cP (ak (aj 2) (ak (eC (.int 9)) ao)))) ao))))
include hk in
theorem adf:Bd b4 R k n w ws i O:=by
 have p50:dz (.int 10) (.int 50)=.ok (.int (10 ^ 50),false):=by kernel_rfl
 obtain⟨j,m,T,e,g,hT⟩:=pick [.int 0,.int ((k:Int)+1),.int (-1),.bl true,.non,.str "1",.tup [.int 1,.int 1],.lst [.int 1],.int (10 ^ 50)] (N:=9) rfl (by omega) (by omega) (P:=Sm 20 2) (λt m=>by
  simp only[List.mem_cons,List.not_mem_nil,or_false]at m
  rcases m with rfl|rfl|rfl|rfl|rfl|rfl|rfl|rfl|rfl
  ·exact gP (by decide +kernel)
  ·exact(Sm.int (by omega)).mono (by omega) (by omega)
  ·exact gP (by decide +kernel)
  ·exact gP (by decide +kernel)
  ·exact gP (by decide +kernel)
  ·exact gP (by decide +kernel)
  ·exact gP (by decide +kernel)
  ·exact gP (by decide +kernel)
  ·exact(Sm.int (by omega)).mono (by omega) (by omega)) n
 have d1:bA (.int 0) (.int 1)=.ok (.int (-1),false):=rfl
 have a1:=ud (k:Int) 1
 change cP [.lst [.int n],.int 9]=_ at e
 refine⟨.tup [.str "middle",T],false,m,[.sh R,.sh (.int k),.rf [.int m],.sh (.int w),.sh (dH ws),.sh (.int i),.sh O,.sh (.lst [.int 0,.int ((k:Int)+1),.int (-1),.bl true,.non,.str "1",.tup [.int 1,.int 1],.lst [.int 1],.int (10 ^ 50)])],?_,rfl,(yh (Td.mono (by omega) (by omega)) hT (N:=4100) (by omega)).mono (by omega) (by omega)⟩
 unfold b4 pP
 generalize aN=A,bA=D,dz=G,aB=I,(-1:Int)=m1,(k:Int)=k',(j:Int)=j',(i:Int)=i',dH ws=L0,(k:Int)+1=k1,(10 ^ 50:Int)=P at *
 simp -dsimp[con,drs,dr,cls,bx,aK,others,aV,dR,fC,p50,d1,a1,e,g]
def b5:SF:=aW (aq aN (aj 0) (aq aB (fK (ak (eC (.tup [.int 1])) (ak (eC (.tup [.non])) (ak (eC (.tup [.lst []])) (ak (jj (ak (aj 4) ao)) ao))))) (cu 0 cP (ak (aj 2) (ak (eC (.int 4)) ao)))))
include hk hw hl in
theorem adg{r:Ru}(hr:oE k r):Bd b5 (fP r) k n w ws i O:=by
 have hR:=yj hr hk.2
 obtain⟨w0,rest,er,lr⟩:=Te r
 have smr:=S9 hw (by omega)
 obtain⟨j,m,T,e,g,t,rfl,hT⟩:=pick [.tup [.int 1],.tup [.non],.tup [.lst []],.tup [dH ws]] (N:=4) rfl (by omega) (by omega) (P:=λT=>∃t,T=.tup [t]/\Sm 36 2 t) (λt m=>by
  simp only[List.mem_cons,List.not_mem_nil,or_false]at m
  rcases m with rfl|rfl|rfl|rfl
  ·exact⟨_,rfl,gP (by decide +kernel)⟩
  ·exact⟨_,rfl,gP (by decide +kernel)⟩
  ·exact⟨_,rfl,gP (by decide +kernel)⟩
  ·exact⟨_,rfl,smr⟩) n
 have a1:aN (fP r) (.tup [t])=.ok (.tup (.str w0::rest++[t]),false):=by
  rw[er]
  exact if_pos ⟨by simp,by rw[List.length_cons]; simp only[List.length_cons,List.length_nil]; omega⟩
 have sm:Sm 4100 8 (.tup (.str w0::rest++[t])):=by
  rw[er]at hR
  have hm:∀u ∈ .str w0::rest,Sm 100 3 u:=λu m=>by
   obtain⟨o1,o2,o3⟩:=hR
   simp only[jf]at o1
   rw[eG]at o3
   have bl:∀(l:List Tr),u∈l->blk u<=blks l/\dep u<=deps l:=λl=>by
    induction l with
    |nil=>intro z; simp at z
    |cons a l ih =>
     intro z
     rw[dX]
     simp only[blks]
     rcases List.mem_cons.mp z with rfl|z
     ·omega
     ·have:=ih z; omega
   have:=bl _ m
   have o2:blks (.str w0::rest)<=100:=by simpa only[blk]using o2
   exact⟨Sv o1 u m,by omega,by omega⟩
  refine(Sm.tup (B:=100) (D:=3) (N:=4100) (λu m=>?_) (by rw[List.length_append]; simp only[List.length_cons,List.length_nil]; omega)).mono (by omega) (by omega)
  rcases List.mem_append.mp m with m|m
  ·exact hm u m
  ·rw[List.mem_singleton.mp m]
   exact hT.mono (by omega) (by omega)
 change cP [.lst [.int n],.int 4]=_ at e
 refine⟨.tup (.str w0::rest++[t]),false,m,[.sh (fP r),.sh (.int k),.rf [.int m],.sh (.int w),.sh (dH ws),.sh (.int i),.sh O,.un],?_,rfl,sm⟩
 unfold b5 pP
 generalize aN=A,aB=I,(k:Int)=k',(j:Int)=j',(i:Int)=i',fP r=R,dH ws=L0,Tr.tup (.str w0::rest++[t])=U at *
 simp -dsimp[con,drs,dr,cls,bx,aK,others,aV,dR,fC,a1,e,g]
def b6:SF:=aC (bL (fU [.tup [.str "most"],.tup [.str "least "],.tup [.str "Least"],.tup [.str "shares"],.tup [.str "middle"],.tup [],.tup [.str ""],.tup [.int 0]]) (gN 7)) (aW (aq aB (aj 7) (cu 0 cP (ak (aj 2) (ak (eC (.int 8)) ao)))))
theorem adh:Bd b6 R k n w ws i O:=by
 obtain⟨j,m,T,e,g,hT⟩:=pick [.tup [.str "most"],.tup [.str "least "],.tup [.str "Least"],.tup [.str "shares"],.tup [.str "middle"],.tup [],.tup [.str ""],.tup [.int 0]] (N:=8) rfl (by omega) (by omega) (P:=Sm 4100 8) (S8 (by decide +kernel)) n
 change cP [.lst [.int n],.int 8]=_ at e
 refine⟨T,false,m,[.sh R,.sh (.int k),.rf [.int m],.sh (.int w),.sh (dH ws),.sh (.int i),.sh O,.sh (.lst [.tup [.str "most"],.tup [.str "least "],.tup [.str "Least"],.tup [.str "shares"],.tup [.str "middle"],.tup [],.tup [.str ""],.tup [.int 0]])],?_,rfl,hT⟩
 unfold b6 pP
 generalize aB=I,(k:Int)=k',(j:Int)=j',(i:Int)=i',dH ws=L0,([.tup [.str "most"],.tup [.str "least "],.tup [.str "Least"],.tup [.str "shares"],.tup [.str "middle"],.tup [],.tup [.str ""],.tup [.int 0]]:List Tr)=B at *
 simp -dsimp[con,drs,dr,cls,bx,aK,others,aV,dR,fC,e,g]
noncomputable def b7:SF:=aW (aq aB (fK (ak (bw (g1 bG) (ak (aj 0) ao)) (ak (aq aB (aj 0) (eC (.int 0))) (ak (eC .non) (ak (eC (.bl true)) (ak (eC (.int 3)) (ak (fK ao) (ak (jj (ak (aj 0) ao)) (ak (fK (ak (aj 0) ao)) ao))))))))) (cu 0 cP (ak (aj 2) (ak (eC (.int 8)) ao))))
theorem adi(a:Tr)(l:List Tr):aB (.tup (a::l)) (.int 0)=.ok (a,false):=by
 have h:cR (a::l) 0=some a:=by simp[cR,dg]
 dsimp only[aB]
 rw[h]
theorem Ti{ts:List Tr}{B D:Nat}(h:Sm B D (.tup ts)):Sm B D (.lst ts):=by
 obtain⟨a,b,c⟩:=h
 refine⟨by simpa only[jf]using a,by simpa only[blk]using b,?_⟩
 rw[eG]at c
 rw[eO]
 exact c
include hk in
theorem adk{r:Ru}(hr:oE k r):Bd b7 (fP r) k n w ws i O:=by
 have hR:=yj hr hk.2
 obtain⟨w0,rest,er,lr⟩:=Te r
 have gl:bG (fP r)=.ok (.lst (.str w0::rest),true):=by rw[er]; rfl
 have i0:aB (fP r) (.int 0)=.ok (.str w0,false):=by rw[er]; exact adi _ _
 have sw:Sm 100 3 (.str w0):=by
  cases r <;> cases er <;> exact gP (by decide +kernel)
 obtain⟨j,m,T,e,g,hT⟩:=pick [.lst (.str w0::rest),.str w0,.non,.bl true,.int 3,.lst [],.tup [fP r],.lst [fP r]] (N:=8) rfl (by omega) (by omega) (P:=Sm 4100 8) (λt m=>by
  simp only[List.mem_cons,List.not_mem_nil,or_false]at m
  rcases m with rfl|rfl|rfl|rfl|rfl|rfl|rfl|rfl
  ·rw[er]at hR
   exact(Ti hR).mono (by omega) (by omega)
  ·exact sw.mono (by omega) (by omega)
  ·exact gP (by decide +kernel)
  ·exact gP (by decide +kernel)
  ·exact gP (by decide +kernel)
  ·exact gP (by decide +kernel)
  ·exact(Tc hR (N:=4100) (by omega)).mono (by omega) (by omega)
  ·exact(Ti (Tc hR (N:=4100) (by omega))).mono (by omega) (by omega)) n
 change cP [.lst [.int n],.int 8]=_ at e
 refine⟨T,false,m,[.sh (fP r),.sh (.int k),.rf [.int m],.sh (.int w),.sh (dH ws),.sh (.int i),.sh O,.un],?_,rfl,hT⟩
 unfold b7 pP
 generalize bG=G,aB=I,(k:Int)=k',(j:Int)=j',(i:Int)=i',fP r=R,dH ws=L0,Tr.lst (.str w0::rest)=U at *
 simp -dsimp[con,drs,dr,cls,bx,aK,others,aV,dR,fC,g1,gl,i0,e,g]
end
end K71
end
section
namespace K71
open PySem L2 BH PySem.NumText
noncomputable def Cz:SF:=aC (bM (bY (aq bf (aj 3) (eC (.int 3)))) b0 bV) (aC (bM (bY (aq aM (aj 3) (eC (.int 3)))) b3 bV) (aC (bM (bY (aq aM (aj 3) (eC (.int 4)))) b4 bV) (aC (bM (bY (aq aM (aj 3) (eC (.int 5)))) b5 bV) (aC (bM (bY (aq aM (aj 3) (eC (.int 6)))) b6 bV) b7))))
theorem adl{r:Ru}{O:Tr}{k:Nat}{n w:Int}{ws:List (Int × Int)}{i:Nat}(hr:oE k r)(hk:1<=k/\k<=4)(hw:∀x∈ws,Rb x)(hl:ws.length=k)(hO:Sm 12 4 O)(hi:i<k)(w0:0<=w)(w8:w<8):Bd Cz (fP r) k n w ws i O:=by
 have hR:=yj hr hk.2
 have l3:bf (.int w) (.int 3)=.ok (.bl (decide (w<3)),false):=rfl
 have q:∀j:Int,aM (.int w) (.int j)=.ok (.bl (decide (w=j)),false):=λ_=>rfl
 have q3:=q 3
 have q4:=q 4
 have q5:=q 5
 have q6:=q 6
 clear q
 have z0:=adb (R:=fP r) (n:=n) (w:=w) hk hw hl hO hi w0
 have z3:=ade (R:=fP r) (O:=O) (n:=n) (w:=w) (i:=i) hk hw hl
 have z4:=adf (R:=fP r) (O:=O) (n:=n) (w:=w) (ws:=ws) (i:=i) hk
 have z5:=adg (O:=O) (n:=n) (w:=w) (i:=i) hk hw hl hr
 have z6:=adh (R:=fP r) (O:=O) (k:=k) (n:=n) (w:=w) (ws:=ws) (i:=i)
 have z7:=adk (O:=O) (n:=n) (w:=w) (ws:=ws) (i:=i) hk hr
 unfold Bd Cz pP at *
 generalize aM=EQ,bf=LT,b7=B7,b6=B6,b5=B5,b4=B4,b3=B3,b0=B0 at *
 by_cases h3:w<3
 ·rw[decide_eq_true h3]at l3
  obtain⟨T,fr,m,ρ,e,h⟩:=z0 h3
  exact⟨T,fr,m,ρ,by simp -dsimp[dr,aO,l3,e],h⟩
 rw[decide_eq_false h3]at l3
 by_cases h4:w=3
 ·rw[decide_eq_true h4]at q3
  obtain⟨T,fr,m,ρ,e,h⟩:=z3
  exact⟨T,fr,m,ρ,by simp -dsimp[dr,aO,l3,q3,e],h⟩
 rw[decide_eq_false h4]at q3
 by_cases h5:w=4
 ·rw[decide_eq_true h5]at q4
  obtain⟨T,fr,m,ρ,e,h⟩:=z4
  exact⟨T,fr,m,ρ,by simp -dsimp[dr,aO,l3,q3,q4,e],h⟩
 rw[decide_eq_false h5]at q4
 by_cases h6:w=5
 ·rw[decide_eq_true h6]at q5
  obtain⟨T,fr,m,ρ,e,h⟩:=z5
  exact⟨T,fr,m,ρ,by simp -dsimp[dr,aO,l3,q3,q4,q5,e],h⟩
 rw[decide_eq_false h6]at q5
 by_cases h7:w=6
 ·rw[decide_eq_true h7]at q6
  obtain⟨T,fr,m,ρ,e,h⟩:=z6
  exact⟨T,fr,m,ρ,by simp -dsimp[dr,aO,l3,q3,q4,q5,q6,e],h⟩
 rw[decide_eq_false h7]at q6
 obtain⟨T,fr,m,ρ,e,h⟩:=z7
 exact⟨T,fr,m,ρ,by simp -dsimp[dr,aO,l3,q3,q4,q5,q6,e],h⟩
def CG:EF:=fO [none,some 2] (iG (ak (aj 1) ao)) (gN 0) d8 (cu 0 lY (ak (aj 1) ao))
theorem adn(n:Int)(k:Nat)(hk:k<=4)(s0 s3 s4 s5 s6 s7:Sl):∃ws m,CG [s0,.sh (.int k),.rf [.int n],s3,s4,s5,s6,s7]=.ok (.v (dH ws) true,[s0,.sh (.int k),.rf [.int m],s3,s4,s5,s6,s7])/\ws.length=k/\∀w∈ws,Rb w:=by
 obtain⟨ws,s',m,e,hl,hp⟩:=JT (L2.upTo 0 k) .un n
 rw[jO]at hl
 refine⟨ws,m,?_,hl,hp⟩
 unfold CG dH
 generalize cu 0 lY (ak (aj 1) ao)=G at e ⊢
 have h1:(-1000000:Int)<=k:=by omega
 have h2:(k:Int)<=1000000:=by omega
 have h3:k<=100000:=by omega
 simp -dsimp[aY,bB,cC,aV,con,bT,eB,aO,bh,dr,drs,cls,bx,cF,g1,g2,gI,bW,gB,aM,bQ,cM,aN,cO,dU,bD,dz,bA,bf,bR,cN,dw,aB,aJ,dW,bG,bN,dJ,dM,cZ,cj,okR,bU,aK,others,bH,aX,bF,bZ,cB,cA,eX,dG,eY,eG,eO,eH,dX,cD,eZ,eV,cV,cR,dg,aZ,h1,h2,h3,e,jO]
def CJ:List Tr:=[.tup [.int (-1),.int 2],.tup [.int 2,.int 4],.tup [.int 1,.int 0],.tup [.bl true,.int 1],.lst [.int 1,.int 2],.non,.int 1,.str "1",.tup [.int 1,.int 2,.int 3],.tup [.int 5,.int 3]]
theorem ado:∀t∈CJ,Sm 12 4 t:=S8 (by decide +kernel)
theorem Tj{r:Ru}{k:Nat}(hr:oE k r)(hk:1<=k/\k<=4)(n:Int):∃T fr m,rW [fP r,.int k,.lst [.int n]]=.ok ((T,fr),[.int m])/\Sm 4100 8 T:=by
 obtain⟨w,n1,e1,w0,w8⟩:=tk n 8 (by omega) (by decide)
 obtain⟨ws,n2,e2,hl,hw⟩:=adn n1 k hk.2 (.sh (fP r)) (.sh (.int w)) .un .un .un .un
 obtain⟨i,n3,e3,hi⟩:=rZ n2 (k:Nat) (by omega) (by omega)
 obtain⟨j,n4,O,e4,g4,hO⟩:=pick CJ (N:=10) rfl (by omega) (by omega) ado n3
 obtain⟨T,fr,m,ρ,e5,hρ,hT⟩:=adl (n:=n4) (w:=w) hr hk hw hl hO (i:=i) (by omega) w0 w8
 refine⟨T,fr,m,?_,hT⟩
 change cP [.lst [.int n3],.int 10]=_ at e4
 show fX 8 2 (aC (bL (cu 0 cP (ak (aj 2) (ak (eC (.int 8)) ao))) (gN 3)) (aC (bL CG (gN 4)) (aC (bL (cu 0 cP (ak (aj 2) (ak (aj 1) ao))) (gN 5)) (aC (bL (fU CJ) (gN 6)) (aC (bL (aq aB (aj 6) (cu 0 cP (ak (aj 2) (ak (eC (.int 10)) ao)))) (gN 6)) Cz))))) _=_
 unfold pP at e5
 generalize aB=I,CG=Y,Cz=Z,(k:Int)=k',(j:Int)=j',(i:Int)=i',fP r=R,dH ws=W,CJ=L at *
 unfold fX
 simp -dsimp[aZ,aY,con,drs,dr,aK,others,aV,dR,fC,e1,e2,e3,e4,g4,e5,hρ]
end K71
end
section
namespace K71
open PySem L2 BH PySem.NumText
theorem adp{c:Nat}{rows:List (List (Int × Int))}(h:Bk c rows):Sh c (rows.map dH):=λr hr=>by
 obtain⟨l,hl,rfl⟩:=List.mem_map.mp hr
 obtain⟨h1,h2⟩:=h.2.2.2.2 l hl
 refine⟨l.map fT,rfl,by rw[List.length_map]; exact h1,λe he=>?_⟩
 obtain⟨x,hx,rfl⟩:=List.mem_map.mp he
 obtain⟨a1,a2,a3,a4,_⟩:=h2 x hx
 exact⟨x.1,x.2,rfl,by omega,by omega⟩
theorem adq{r:Ru}{k:Nat}(h:oE k r):um k (fP r)=true:=by
 cases r with
 |sh ws =>
  show(if gA "shares" (.str "shares")=true then oF k (dH ws)else gA "middle" (.str "shares")&&pO k (dH ws))=true
  rw[if_pos (show gA "shares" (.str "shares")=true from beq_self_eq_true _)]
  show(((ws.map fT).length == k)&&(ws.map fT).all jz)=true
  rw[Bool.and_eq_true,beq_iff_eq,List.length_map,List.all_map,List.all_eq_true]
  refine⟨h.1,λw m=>?_⟩
  obtain⟨h1,_,h3,_,h5⟩:=h.2 w m
  show(decide (0<=w.1)&&(decide (1<=w.2)&&(Int.gcd w.1 w.2 == 1)))=true
  rw[decide_eq_true h1,decide_eq_true h3,h5]
  rfl
 |mid j =>
  obtain⟨h1,h2⟩:=h
  show(if gA "shares" (.str "middle")=true then oF k (.int j)else gA "middle" (.str "middle")&&pO k (.int j))=true
  rw[if_neg (show ¬gA "shares" (.str "middle")=true by decide +kernel),show gA "middle" (.str "middle")=true from beq_self_eq_true _,Bool.true_and]
  show(decide (1<=(j:Int))&&decide ((j:Int)<=k))=true
  rw[decide_eq_true (by omega),decide_eq_true (by omega)]
  rfl
 |least=>show bare "least" = true; decide +kernel
 |greatest=>show bare "greatest" = true; decide +kernel
 |product=>show bare "product" = true; decide +kernel
def yp:SF:=bM (f9 (eE (dN (cJ lH (ak (eC (.bl false)) (ak (aj 7) (ak (aj 4) ao)))))) (eE (dN (cJ lH (ak (eC (.bl false)) (ak (aj 7) (ak (aq aN (eC (.int 1)) (aq bD (aj 4) (eC (.int 4)))) ao))))))) (aW (eC (.bl false))) bV
theorem adt{T:Tr}{k:Nat}(h:Sm 4100 8 T)(hk:1<=k/\k<=4)(s0 s1 s2 s3 s5 s6:Sl):yp [s0,s1,s2,s3,.sh (.int k),s5,s6,.sh T]=.ok (.nx,[s0,s1,s2,s3,.sh (.int k),s5,s6,.sh T]):=by
 obtain⟨j,hj,hj4,gm⟩:∃j:Nat,(j:Int)=1+(k:Int).fmod 4/\j<=4/\bD (.int k) (.int 4)=.ok (.int ((k:Int).fmod 4),false):=by
  rcases(show k=1\/k=2\/k=3\/k=4 by omega)with rfl|rfl|rfl|rfl
  ·exact⟨2,rfl,by omega,rfl⟩
  ·exact⟨3,rfl,by omega,rfl⟩
  ·exact⟨4,rfl,by omega,rfl⟩
  ·exact⟨1,rfl,by omega,rfl⟩
 have uh:=S7 (n:=k) h hk.2
 have J1:=S7 (n:=j) h hj4
 have a:=ud 1 ((k:Int).fmod 4)
 rw[<-hj]at a
 unfold yp
 generalize aN=A,bD=M,lH=G,(j:Int)=j',(k:Int)=k',(k:Int).fmod 4=km at *
 simp -dsimp[dr,drs,aK,iw,aO,uh,J1,gm,a]
theorem Tn{k:Nat}(hk:1<=k/\k<=4)(s0 s1 s2 s3 s5 s6:Sl):∀(ts:List Tr) (s7:Sl),(∀t∈ts,Sm 4100 8 t)->∃t7,je (gN 7) yp ts [s0,s1,s2,s3,.sh (.int k),s5,s6,s7]=.ok (.nx,[s0,s1,s2,s3,.sh (.int k),s5,s6,t7])
 | [],s7,_=>⟨s7,rfl⟩
 |t::ts,s7,h=>by
  have e:=adt (h t (by simp)) hk s0 s1 s2 s3 s5 s6
  obtain⟨t7,e'⟩:=Tn hk s0 s1 s2 s3 s5 s6 ts (.sh t) λu m=>h u (by simp[m])
  exact⟨t7,Ry e e'⟩
def CK:BF:=f9 (eE (dN (cJ lH (ak (eC (.bl true)) (ak (cu 1 oh (ak (aj 3) (ak (aj 2) ao))) (ak (aj 4) ao)))))) (eE (dN (cJ lH (ak (eC (.bl true)) (ak (cu 1 oh (ak (aj 3) (ak (aj 2) ao))) (ak (aj 4) ao))))))
theorem adu{c:Nat}{rows:List (List (Int × Int))}(hb:Bk c rows){k:Nat}(hk:k<=4)(n:Int)(s0 s1 s5 s6 s7:Sl):∃m:Int,CK [s0,s1,.ow [.int n],.sh (jy rows),.sh (.int k),s5,s6,s7]=.ok (false,[s0,s1,.ow [.int m],.sh (jy rows),.sh (.int k),s5,s6,s7]):=by
 have hs:=adp hb
 obtain⟨h1,h2,h3,h4,_⟩:=id hb
 have l1:1<=(rows.map dH).length:=by rw[List.length_map]; exact h1
 have l2:(rows.map dH).length<=4:=by rw[List.length_map]; exact h2
 obtain⟨T1,f1,m1,e1,J2⟩:=RV hs h3 h4 l1 l2 n
 obtain⟨T2,f2,m2,e2,J3⟩:=RV hs h3 h4 l1 l2 m1
 have uh:=S6 (n:=k) J2 hk
 have J1:=S6 (n:=k) J3 hk
 have e1:oh [jy rows,.lst [.int n]]=.ok ((T1,f1),[.int m1]):=e1
 have e2:oh [jy rows,.lst [.int m1]]=.ok ((T2,f2),[.int m2]):=e2
 refine⟨m2,?_⟩
 unfold CK
 generalize oh=F,lH=G,(k:Int)=k',jy rows=B at *
 cases f1 <;> cases f2 <;> simp -dsimp[con,drs,dr,aK,others,aV,dR,fC,iw,e1,e2,uh,J1]
def CN:EF:=fK (ak (aj 5) (ak (cu 2 rW (ak (aj 5) (ak (aj 4) (ak (aj 2) ao)))) (ak (cu 2 rW (ak (aj 5) (ak (aj 4) (ak (aj 2) ao)))) ao)))
theorem adv{r:Ru}{k:Nat}(hr:oE k r)(hk:1<=k/\k<=4)(n:Int)(s0 s1 s3 s6 s7:Sl):∃(T1 T2:Tr) (m:Int),CN [s0,s1,.ow [.int n],s3,.sh (.int k),.sh (fP r),s6,s7]=.ok (.v (.lst [fP r,T1,T2]) true,[s0,s1,.ow [.int m],s3,.sh (.int k),.sh (fP r),s6,s7])/\∀t∈[fP r,T1,T2],Sm 4100 8 t:=by
 obtain⟨T1,f1,m1,e1,J2⟩:=Tj hr hk n
 obtain⟨T2,f2,m2,e2,J3⟩:=Tj hr hk m1
 refine⟨T1,T2,m2,?_,λt m=>?_⟩
 ·unfold CN
  generalize rW=F,(k:Int)=k',fP r=R at *
  cases f1 <;> cases f2 <;> simp -dsimp[con,drs,dr,cls,bx,aK,others,aV,dR,fC,e1,e2]
 ·simp only[List.mem_cons,List.not_mem_nil,or_false]at m
  rcases m with rfl|rfl|rfl
  ·exact(yj hr hk.2).mono (by omega) (by omega)
  ·exact J2
  ·exact J3
def yq:EF:=fK (ak (cJ lF (ak (aj 3) ao)) (ak (cJ jo (ak (aj 5) (ak (aj 4) ao))) ao))
theorem adw{c:Nat}{rows:List (List (Int × Int))}(hb:Bk c rows){r:Ru}{k:Nat}(hr:oE k r)(hk:1<=k/\k<=4):∃a b:Str,∀s0 s1 s2 s6 s7,yq [s0,s1,s2,.sh (jy rows),.sh (.int k),.sh (fP r),s6,s7]=.ok (.v (.lst [.str a,.str b]) true,[s0,s1,s2,.sh (jy rows),.sh (.int k),.sh (fP r),s6,s7]):=by
 have e1:=R6 (ls:=rows) (λl m=>⟨by have:=hb.2.2.2.2 l m; have:=hb.2.2.2.1; omega,λw hw=>Wo.rb ((hb.2.2.2.2 l m).2 w hw)⟩) hb.2.1 hb.iZ
 have sm:=yj hr hk.2
 obtain⟨b,e2⟩:=Sy hk.2 (adq hr) sm.1 (by have:=sm.2.2; omega)
 refine⟨Str.join "\n" (rows.map rS),b,λs0 s1 s2 s6 s7=>?_⟩
 ·unfold yq
  generalize jo=G,lF=F,(k:Int)=k',fP r=R,jy rows=B,Str.join "\n" (rows.map rS)=a at *
  simp -dsimp[drs,dr,cls,bx,aK,e1,e2]
noncomputable def vB:SF:=aC (zO 2 (cJ qz (ak (aj 0) (ak (aj 1) ao)))) (aC (bL (cu 0 tW (ak (aj 2) ao)) (gN 3)) (aC (bL (aq aN (eC (.int 1)) (cu 0 cP (ak (aj 2) (ak (eC (.int 4)) ao)))) (gN 4)) (aC (bL (cu 0 uZ (ak (aj 2) (ak (aj 4) ao))) (gN 5)) (aC (bL yq (gN 6)) (aC (bM CK (aW (eC (.bl false))) bV) (aC (jN (fV CN) (gN 7) yp) (bM (bY (aq bQ yq (aj 6))) (aW (eC (.bl false))) bV)))))))
theorem adx(ns:List Int)(j:Nat)(hj:j<1000)(s2 s3 s4 s5 s6 s7:Sl):∃t2 t3 t4 t5 t6 t7,vB [.sh (.lst (ns.map .int)),.sh (.int j),s2,s3,s4,s5,s6,s7]=.ok (.nx,[.sh (.lst (ns.map .int)),.sh (.int j),t2,t3,t4,t5,t6,t7]):=by
 obtain⟨n,e0⟩:=RL ns j hj
 obtain⟨rows,c,n1,e1,hb⟩:=RG.RK n
 obtain⟨x,n2,e2,x0,x1⟩:=tk n1 4 (by omega) (by decide)
 obtain⟨k,hk⟩:∃k:Nat,(k:Int)=1+x:=⟨(1+x).toNat,by omega⟩
 have vC:1<=k/\k<=4:=by omega
 obtain⟨r,n3,e3,hr⟩:=acJ n2 (k:=k) vC.1 vC.2
 obtain⟨a,b,e4⟩:=adw hb hr vC
 obtain⟨n4,e5⟩:=adu hb vC.2 n3 (.sh (.lst (ns.map .int))) (.sh (.int j)) (.sh (fP r)) (.sh (.lst [.str a,.str b])) s7
 obtain⟨T1,T2,n5,e6,hs⟩:=adv hr vC n4 (.sh (.lst (ns.map .int))) (.sh (.int j)) (.sh (jy rows)) (.sh (.lst [.str a,.str b])) s7
 obtain⟨t7,e7⟩:=Tn vC (.sh (.lst (ns.map .int))) (.sh (.int j)) (.ow [.int n5]) (.sh (jy rows)) (.sh (fP r)) (.sh (.lst [.str a,.str b])) [fP r,T1,T2] s7 hs
 have ai:=ud 1 x
 rw[<-hk]at ai
 have en:=Rx (T:=.lst [.str a,.str b]) (by rw[eO,dX,dX,eH,dG,dG]; decide)
 refine⟨.ow [.int n5],.sh (jy rows),.sh (.int k),.sh (fP r),.sh (.lst [.str a,.str b]),t7,?_⟩
 unfold vB
 generalize bQ=N,aN=A,uZ=f7,tW=f6,qz=f5,yp=f4,CN=f3,CK=f2,yq=f1,(k:Int)=k',(j:Int)=j',Tr.lst (ns.map .int)=S,fP r=R,jy rows=B,Tr.lst [.str a,.str b]=AB at *
 simp -dsimp[con,drs,dr,aK,others,aV,dR,fC,cj,aO,e0,e1,e2,e3,e4,e5,e6,e7,ai,en]
theorem Tp(ns:List Int):∀(us:List Tr) (s1 s2 s3 s4 s5 s6 s7:Sl),(∀u∈us,∃j:Int,u=.int j/\0<=j/\j<1000)->∃t1 t2 t3 t4 t5 t6 t7,je (gN 1) vB us [.sh (.lst (ns.map .int)),s1,s2,s3,s4,s5,s6,s7]=.ok (.nx,[.sh (.lst (ns.map .int)),t1,t2,t3,t4,t5,t6,t7])
 | [],s1,s2,s3,s4,s5,s6,s7,_=>⟨s1,s2,s3,s4,s5,s6,s7,rfl⟩
 |u::us,s1,s2,s3,s4,s5,s6,s7,h=>by
  obtain⟨j,rfl,j0,j1⟩:=h u (by simp)
  obtain⟨k,rfl⟩:∃k:Nat,j=k:=⟨j.toNat,by omega⟩
  obtain⟨t2,t3,t4,t5,t6,t7,e⟩:=adx ns k (by omega) s2 s3 s4 s5 s6 s7
  obtain⟨r1,r2,r3,r4,r5,r6,r7,e'⟩:=Tp ns us (.sh (.int k)) t2 t3 t4 t5 t6 t7 λv hv=>h v (by simp[hv])
  exact⟨r1,r2,r3,r4,r5,r6,r7,Ry e e'⟩
theorem ady(ns:List Int)(ρ : En):∃n:Nat,n<=30/\iG (ak (bw (g2 dM) (ak (bw (g2 dJ) (ak (bw (g1 aJ) (ak (aj 0) ao)) (ak (eC (.int 30)) ao))) (ak (eC (.int 1)) ao))) ao) (.sh (.lst (ns.map .int))::ρ)=.ok (L2.upTo 0 n,.sh (.lst (ns.map .int))::ρ):=by
 by_cases h:(30:Int)<ns.length
 ·exact⟨30,by omega,by simp -dsimp[aY,bB,cC,aV,con,bT,eB,aO,bh,dr,drs,cls,bx,cF,g1,g2,gI,bW,gB,aM,aN,bD,bA,bf,bR,aJ,bG,bN,cj,okR,bU,aK,others,bH,aX,bF,bZ,cB,cA,cD,dJ,dM,h]⟩
 ·by_cases h':(ns.length:Int)<1
  ·exact⟨1,by omega,by simp -dsimp[aY,bB,cC,aV,con,bT,eB,aO,bh,dr,drs,cls,bx,cF,g1,g2,gI,bW,gB,aM,aN,bD,bA,bf,bR,aJ,bG,bN,cj,okR,bU,aK,others,bH,aX,bF,bZ,cB,cA,cD,dJ,dM,h,h']⟩
  ·refine⟨ns.length,by omega,?_⟩
   have q1:(-1000000:Int)<=ns.length:=by omega
   have q2:(ns.length:Int)<=1000000:=by omega
   simp -dsimp[aY,bB,cC,aV,con,bT,eB,aO,bh,dr,drs,cls,bx,cF,g1,g2,gI,bW,gB,aM,aN,bD,bA,bf,bR,aJ,bG,bN,cj,okR,bU,aK,others,bH,aX,bF,bZ,cB,cA,cD,dJ,dM,h,h',q1,q2]
theorem adz(ns:List Int):xJ [.lst (ns.map .int)]=.ok (.bl true,false):=by
 obtain⟨n,hn',er⟩:=ady ns [.un,.un,.un,.un,.un,.un,.un]
 obtain⟨t1,t2,t3,t4,t5,t6,t7,e⟩:=Tp ns (L2.upTo 0 n) .un .un .un .un .un .un .un λu hu=>by
  obtain⟨j,rfl,h1,h2⟩:=vf _ _ _ hu
  exact⟨j,rfl,h1,by omega⟩
 show cG 8 (aC (iW (jN (iG (ak (bw (g2 dM) (ak (bw (g2 dJ) (ak (bw (g1 aJ) (ak (aj 0) ao)) (ak (eC (.int 30)) ao))) (ak (eC (.int 1)) ao))) ao)) (gN 1) vB)) (aW (eC (.bl true)))) _=_
 have e1:iW (jN (iG (ak (bw (g2 dM) (ak (bw (g2 dJ) (ak (bw (g1 aJ) (ak (aj 0) ao)) (ak (eC (.int 30)) ao))) (ak (eC (.int 1)) ao))) ao)) (gN 1) vB) [.sh (.lst (ns.map .int)),.un,.un,.un,.un,.un,.un,.un]=.ok (.nx,[.sh (.lst (ns.map .int)),t1,t2,t3,t4,t5,t6,t7]):=by
  unfold iW jN
  rw[er]
  show aY (je (gN 1) vB (L2.upTo 0 n) _)=_
  rw[e]
  rfl
 generalize iW _=G at e1 ⊢
 unfold cG
 simp -dsimp[aY,bB,cC,aV,con,bT,eB,aO,bh,dr,drs,cls,bx,cF,g1,g2,gI,bW,gB,aM,aN,bD,bA,bf,bR,aJ,bG,bN,cj,okR,bU,aK,others,bH,aX,bF,bZ,cB,cA,cD,aZ,e1]
end K71
end
section
namespace L2
open PySem PySem.Spec PyProof.Rows PySem.W
theorem adA{P:Program}{w:World}{K:FZ}{mg mb:Str->Option Value}{CX:lN}{k:Nat}{fa a:Addr}{x:Str}{sp:Sp}{s₁ : Shared}{vs:List Value}{ns:List Int}
  (KX:K.In s₁.heap) (hns:s₁.heap.Ns mainGlobals mg) (hb:s₁.heap.Ns builtinsNs mb) (hbb:∀x:Str,x ≠ "__name__" -> mb x=bootBuiltins x) (hlim:s₁.heap.NoLimit) (hg:s₁.gens = #[])
  (ha:s₁.heap.get? a=some {cls:=.type "list",data:=.seq vs.toArray }) (hi:IntsAre vs ns) (hl:ns.length<=sizeLine) (hr:gZ k callerA)
  (hT:∀x∈qe,∀c b,tabIn K x=some (c,b)->CodeHd s₁.heap c b/\s₁.heap.get? b=some (tabObj #[])) (uq:noTabs K=true) (hB:wW mg s₁.heap)
  (F:∀base:Heap,K.In base->base.Ns mainGlobals mg->(∀x∈qe,∀c b,tabIn K x=some (c,b)->CodeHd base c b)->wW mg base->∃fd:FuncData,(∀(s:Shared) (u:Value),K.In s.heap->BindsTo s fd ⟨[u],[]⟩ [(x,u)])/\lO P w K mg base CX k fa fd [x] sp)
  (hsp:∀H:Hp,gM (aG K) H->mZ K H a (ns.map V.int)->sp [.ref a] H (λv _=>v=.bl true) λ_ _ _=>False)
  (J4:∀H e s',CX [] H s₁ (λ_ _ _=>False) e s'->False) :
  codeAny (model P w) callerA (.call (.ref fa) ⟨[.ref a],[]⟩) (λr s'=>r=.ok (.ret (.bool true))/\OldK s₁.heap s'.heap/\s'.os=s₁.os/\AllBare s'.gens) s₁ := by
 have rv:=MJ hi
 have lenV:=hi.length
 -- from an abstract heap in which nothing but the script may be tracked
 have hT':∀b,Tb (aG K) b->∃c,CodeHd s₁.heap c b/\s₁.heap.get? b=some (tabObj #[]):=λb ⟨x,hx,c,e⟩=>⟨c,hT x hx c b (aaw e)⟩
 have core:∀H:Hp,(∀b,H b=none\/(∃o xs,H b=some (.bB o (.lst xs)))\/(H b=some (.gQ #[])/\Tb (aG K) b))->gM (aG K) H->mZ K H a (ns.map V.int)->gR P w H s₁.heap->(∀b,H b≠none->b=a\/Tb (aG K) b)->(H a≠none->K.lookup a=none) ->
   codeAny (model P w) callerA (.call (.ref fa) ⟨[.ref a],[]⟩) (λr s'=>r=.ok (.ret (.bool true))/\OldK s₁.heap s'.heap/\s'.os=s₁.os/\AllBare s'.gens) s₁ := by
  intro H hO hTb hS hok hA hK
  have CP:∀{b:Addr} {o:Obj},s₁.heap.get? b=some o->H b=none->(pR s₁.heap H).get? b=some o:=λe n=>Ui e n
  have vN:∀{b:Addr} {o:Obj} {es:Array DictEntry} {ep:Nat},s₁.heap.get? b=some o->o.data=.dict es ep->H b=none:=λ{b o es ep} e d=>by
   cases q:H b with
   |none=>rfl
   |some u =>
    rcases hA b (by rw[q]; simp)with e'|e'
    ·subst e'
     rw[ha]at e; cases e
     have d':Data.seq vs.toArray _=Data.dict es ep:=d
     cases d'
    ·obtain⟨c,_,z⟩:=hT' b e'
     rw[z]at e; cases e
     cases d
  have CQ:∀{b:Addr} {m:Str->Option Value},s₁.heap.Ns b m->(pR s₁.heap H).Ns b m:=λ{b m} ⟨o,es,ep,e,d,r⟩=>⟨o,es,ep,CP e (vN e d),d,r⟩
  have Tq:K.In (pR s₁.heap H):=λb o e=>CP (KX b o e) (by
   cases q:H b with
   |none=>rfl
   |some u =>
    rcases hA b (by rw[q]; simp)with e'|e'
    ·subst e'
     rw[hK (by rw[q]; simp)]at e; cases e
    ·obtain⟨c,_,z⟩:=hT' b e'
     have z2:=KX b o e
     rw[z]at z2
     cases z2
     have h2:=List.all_eq_true.mp uq (b,_) (mem_of_lookupK e)
     exact absurd (show false=true from h2) Bool.false_ne_true)
  have hM:Mod K mg (pR s₁.heap H):=⟨Tq,CQ hns,⟨mb,CQ hb,hbb⟩,let⟨mc,h1,h2⟩:=hlim; ⟨mc,CQ h1,h2⟩⟩
  have e0:yS P w K mg (pR s₁.heap H) callerA [] s₁ H:=⟨rfl,hM,λb o e=>Uj e,Nat.le_of_eq (Uh _ _),trivial,λb hb=>absurd (show b∈([]:List Addr)from hb) (by simp),hok,.of_eq hg⟩
  have free:∀{b:Addr} {o:Obj},s₁.heap.get? b=some o->o.cls ≠ .none->(∀its n,o.data ≠ .seq its n)->H b=none:=λ{b o} e n1 n2=>by
   cases q:H b with
   |none=>rfl
   |some u =>
    rcases hA b (by rw[q]; simp)with e'|e'
    ·subst e'
     rw[ha]at e; cases e
     exact(n2 _ _ rfl).elim
    ·obtain⟨c,_,z⟩:=hT' b e'
     rw[z]at e; cases e
     exact(n1 rfl).elim
  obtain⟨fd,hbind,F1⟩:=F _ Tq (CQ hns) (λx hx c b e=>by
   obtain⟨o,vs',file,tf,flags,tg,inF,text,tt,e1,r1,r2,r3⟩:=(hT x hx c b e).1
   exact⟨o,vs',file,tf,flags,tg,inF,text,tt,CP e1 (free e1 (by rw[r1]; intro z; cases z) (λ_ _ z=>by rw[r2]at z; cases z)),r1,r2,r3⟩) (by
   obtain⟨bm,ob,b1,b2,b3,b4,b5,b6,b7⟩:=hB
   exact⟨bm,ob,b1,b2,b3,CP b4 (free b4 (by rw[b5]; intro z; cases z) (λ_ _ z=>by rw[b7]at z; cases z)),b5,b6,b7⟩)
  refine codeAny_mono (F1.run callerA [] s₁ H ⟨[.ref a],[]⟩ [.ref a] [.ref a] _ _ hr e0 (hbind s₁ (.ref a) KX) (.cons rfl .nil) (hsp H hTb hS)) λr s' h=>?_
  cases r with
  |error e=>exact(J4 H e s' h).elim
  |ok fl =>
   cases fl with
   |next=>exact False.elim h
   |brk=>exact False.elim h
   |cont=>exact False.elim h
   |ret u =>
    obtain⟨v,H',os,bare,un,hok',r',q⟩:=h
    have q':v=.bl true:=q
    subst q'
    obtain rfl:u=Value.bool true:=r'
    refine⟨rfl,⟨λb o e=>?_,λb o e=>un.there b o e (by simp)⟩,os,bare⟩
    cases q:H b with
    |none=>exact .inl (un.keep b o e q (by intro z; exact absurd (show b∈([]:List Addr)from z) (by simp)) (by simp))
    |some u =>
     rcases hO b with z|⟨ob,xs,z⟩|⟨z,zt⟩
     ·rw[q]at z; cases z
     ·have z2:=un.lK b ob _ z
      obtain⟨e1,_⟩:=hok b _ z
      obtain⟨e2,_⟩:=hok' b _ z2
      rw[e]at e1; cases e1
      exact .inl e2
     ·obtain⟨more,z2⟩:=un.lM b _ z
      have e1:s₁.heap.get? b=some (tabObj #[]):=hok b _ z
      have e2:s'.heap.get? b=some (tabObj (#[]++more)):=hok' b _ z2
      rw[e]at e1; cases e1
      obtain⟨c,hc,_⟩:=hT' b zt
      exact .inr (.inl ⟨(hc.tab e).isCodeTable,rfl,#[],more,rfl,e2⟩)
 classical
 have Tt:∀H:Hp,(∀b,Tb (aG K) b->H b=some (.gQ #[]))->gM (aG K) H:=λH h x hx c b e=>⟨#[],h b ⟨x,hx,c,e⟩,trivial,λpos v z=>by cases z⟩
 have Tv:¬Tb (aG K) a:=λz=>by
  obtain⟨c,_,e⟩:=hT' a z
  rw[ha]at e
  cases e
 cases hk:K.lookup a with
 |some o =>
  have e:=KX a o hk
  rw[ha]at e
  cases e
  refine core (λb=>if Tb (aG K) b then some (.gQ #[])else none) (λb=>?_) (Tt _ λb z=>if_pos z) (.inr ⟨vs.toArray,_,hk,by rw[List.size_toArray,lenV]; exact hl,by simpa using rv⟩) (λb u z=>?_) (λb z=>?_) λz=>?_
  ·by_cases q:Tb (aG K) b
   ·exact .inr (.inr ⟨if_pos q,q⟩)
   ·exact .inl (if_neg q)
  ·by_cases q:Tb (aG K) b
   ·have z':=(if_pos q).symm.trans z
    cases z'
    obtain⟨c,_,e⟩:=hT' b q
    exact e
   ·have z':=(if_neg q).symm.trans z
    cases z'
  ·by_cases q:Tb (aG K) b
   ·exact .inr q
   ·exact absurd (if_neg q) z
  ·exact absurd (if_neg Tv) z
 |none =>
  refine core (λb=>if b=a then some (.bB {cls:=.type "list",data:=.seq vs.toArray } (.lst (ns.map V.int)))else if Tb (aG K) b then some (.gQ #[])else none) (λb=>?_) (Tt _ λb z=>by
   have nb:¬b=a:=λq=>Tv (by rw[<-q]; exact z)
   exact(if_neg nb).trans (if_pos z)) (.inl (.inr ⟨{cls:=.type "list",data:=.seq vs.toArray },if_pos rfl⟩)) (λb u z=>?_) (λb z=>?_) λ_=>hk
  ·by_cases hb:b=a
   ·exact .inr (.inl ⟨_,_,if_pos hb⟩)
   ·by_cases q:Tb (aG K) b
    ·exact .inr (.inr ⟨(if_neg hb).trans (if_pos q),q⟩)
    ·exact .inl ((if_neg hb).trans (if_neg q))
  ·by_cases hb:b=a
   ·have z':=(if_pos hb).symm.trans z
    cases z'
    subst hb
    exact⟨ha,by rw[List.length_map]; exact hl,vs,_,rv,ha⟩
   ·have z':=(if_neg hb).symm.trans z
    by_cases q:Tb (aG K) b
    ·have z':=(if_pos q).symm.trans z'
     cases z'
     obtain⟨c,_,e⟩:=hT' b q
     exact e
    ·have z':=(if_neg q).symm.trans z'
     cases z'
  ·by_cases hb:b=a
   ·exact .inl hb
   ·by_cases q:Tb (aG K) b
    ·exact .inr q
    ·exact absurd ((if_neg hb).trans (if_neg q)) z
theorem adB{l:PySem.W.OpenLaw}{n k:Nat}{q:Program}{loose:List Str}{XP:(Str->Option Value)->Heap->Prop}{YP:World->Heap->Prop}{d:DefRec}{K:Params->FZ}{CX:World->lN}{sp:World->Sp}{x:Str}
  (hn:l.most=some n) (hn2:n<=sizeLine) (hdf:d.params.defaults=[]) (hr:gZ k callerA)
  (yr:∀x∈qe,((recsOf q).find? (λe=>e.name == x)).isSome=true\/∀w:World,nsIn (K w.params) mainGlobals x=some none) (uq:∀w:World,noTabs (K w.params)=true)
  (hY:∀(w:World) (h:Heap),YP w h->(K w.params).In h)
  (F:∀(w:World) (mg:Str->Option Value) (fa:Addr) (h:Heap),(K w.params).In h->h.Ns mainGlobals mg->mg d.name=some (.ref fa) ->
   ∀base:Heap,(K w.params).In base->base.Ns mainGlobals mg->(∀x∈qe,∀c b,tabIn (K w.params) x=some (c,b)->CodeHd base c b)->wW mg base->∃fd:FuncData,(∀(s:Shared) (u:Value),(K w.params).In s.heap->BindsTo s fd ⟨[u],[]⟩ [(x,u)])/\lO l.prog w (K w.params) mg base (CX w) k fa fd [x] (sp w))
  (hsp:∀(w:World) (H:Hp) (a:Addr) (ns:List Int),ns.length<=n->gM (aG (K w.params)) H->mZ (K w.params) H a (ns.map V.int)->sp w [.ref a] H (λv _=>v=.bl true) λ_ _ _=>False)
  (J4:∀(w:World) (H:Hp) (s:Shared) (e:Value) (s':Shared),CX w [] H s (λ_ _ _=>False) e s'->False) :
  PySem.W.WalkO q loose XP YP l.row.toRowW d [] (λf vs=>PySem.call f vs):=by
 refine MF.Wc hn hdf λw s₀ s₁ mg mb fa o pm cd doc a vs ns G Y ho hd hcd hmg hobj hints hlen hg=>?_
 have KX:=hY w _ Y
 have hT:∀x∈qe,∀c b,tabIn (K w.params) x=some (c,b)->CodeHd s₁.heap c b/\s₁.heap.get? b=some (tabObj #[]):=λx hx c b e=>by
  rcases yr x hx with z|z
  ·obtain⟨d,z⟩:=Option.isSome_iff_exists.mp z
   exact tab_of G.T KX z e
  ·rw[aax (z w)]at e; cases e
 have hB:wW mg s₁.heap:=by
  obtain⟨bm,ob,b1,b2,b3,b4,b5,b6⟩:=G.T.bmain
  refine⟨bm,ob,b1,b2,λz=>?_,b3,b4,b5,b6⟩
  obtain⟨o,es,ep,e,hd,_⟩:=G.T.g
  rw[z,e]at b3; cases b3
  rw[hd]at b6; cases b6
 exact adA KX G.T.g G.T.b G.T.builtins G.T.nolimit hg hobj hints (Nat.le_trans hlen hn2) hr hT (uq w) hB (F w mg fa _ KX G.T.g hmg) (λH hO hS=>hsp w H a ns hlen hO hS) λH e s'=>J4 w H s₁ e s'
end L2
end
section
namespace K71
open PySem L2 BH PySem.W
section
variable {K:Frag}{mg:Str->Option Value}{h:Heap}
theorem adC{x:Str}{st:Stmt}(X:K.In h)(G:h.Ns mainGlobals mg){f:Addr}{od an:Option Addr}{sl:Array (Option Value)}{oc kV dc pm cd ct:Value}
  (a:nsIn K mainGlobals x=some (some (.ref f))) (l:K.lookup f=some ⟨oc,od,.func (fnOf x x (qN st) (mU st) (cY st) .none kV dc pm an cd ct),sl⟩) (c:codeIn K cd x=true) (k:keepIn K (.ref f)=true):At K mg x st :=
 ⟨f,_,Wd (st:=st) l c k,mg_of X G a⟩
theorem Tw{x:Str}{i:Int}{tk:Tok}(X:K.In h)(G:h.Ns mainGlobals mg)(a:nsIn K mainGlobals x=some (some (.int i tk))):Gk K mg x (.int i) (.int i):=⟨.int i tk,mg_of X G a,by first|exact rfl|exact⟨_,rfl⟩,λ_=>.int i⟩
theorem CT{H:Hp}{a:Addr}{od:Option Addr}{its:Array Value}{n:Nat}{sl:Array (Option Value)}{xs:List V}{vs:List Value}{ts:List Tr}(l:K.lookup a=some ⟨.type "tuple",od,.seq its n,sl⟩) (e:its.toList=vs) (hl:vs.length<=1000) (r:Vals xs vs) (rr:aQ (aG K) H xs ts):Rep (aG K) H (.ref a) (.tup ts):=by
 refine .tup (xs:=xs) (.inr ⟨_,its,n,Xq l rfl,rfl,rfl,?_,by rw[e]; exact r⟩) rr
 rw[<-Array.length_toList,e]
 exact Nat.le_of_lt (Ec hl)
theorem adD(X:K.In h)(G:h.Ns mainGlobals mg){a r1 r2 r3:Addr}{od o1 o2 o3:Option Addr}{its i1 i2 i3:Array Value}{n n1 n2 n3:Nat}{sl Ez sl2 EY:Array (Option Value)}{t1 t2 t3:Tok}
  (m:nsIn K mainGlobals "BARE_RULES" = some (some (.ref a))) (l:K.lookup a=some ⟨.type "tuple",od,.seq its n,sl⟩) (e:its.toList=[.ref r1,.ref r2,.ref r3])
  (l1:K.lookup r1=some ⟨.type "tuple",o1,.seq i1 n1,Ez⟩) (e1:i1.toList=[.str "least" t1]) (l2:K.lookup r2=some ⟨.type "tuple",o2,.seq i2 n2,sl2⟩) (e2:i2.toList=[.str "greatest" t2]) (l3:K.lookup r3=some ⟨.type "tuple",o3,.seq i3 n3,EY⟩) (e3:i3.toList=[.str "product" t3]):Gk K mg "BARE_RULES" (.ref a) (.tup [(.tup [(.str "least")]),(.tup [(.str "greatest")]),(.tup [(.str "product")])]):=by
 refine⟨_,mg_of X G m,rfl,λH=>CT (xs:=[.ref r1,.ref r2,.ref r3]) l e (Nat.le_of_ble_eq_true rfl) (.cons rfl (.cons rfl (.cons rfl .nil))) ?_⟩
 exact .cons (CT (xs:=[.str "least"]) l1 e1 (Nat.le_of_ble_eq_true rfl) (.cons ⟨_,rfl⟩ .nil) (.cons (.str _) .nil)) (.cons (CT (xs:=[.str "greatest"]) l2 e2 (Nat.le_of_ble_eq_true rfl) (.cons ⟨_,rfl⟩ .nil) (.cons (.str _) .nil)) (.cons (CT (xs:=[.str "product"]) l3 e3 (Nat.le_of_ble_eq_true rfl) (.cons ⟨_,rfl⟩ .nil) (.cons (.str _) .nil)) .nil))
theorem adE(H:Hp):aU (λ_=>False) H=H:=by
 funext b
 exact gG (λz=>z)
theorem Tz{K:Frag}{H:Hp}:∀ns:List Int,aQ K H (ns.map V.int) (ns.map Tr.int)
 | []=>.nil
 |n::ns=>.cons (.int n) (Tz ns)
def CV(K:Frag)(n:Nat)(F:FP):Sp:=λvs H Q E=>∃Z ts,vs.length=n/\aQ (aG K) (aU Z H) vs ts/\(∀b,Z b->Lt H b)/\gM (aG K) H/\∃p,F ts=.ok p/\∀v H',pB (aG K) H H'->rD (aG K) Z H H' v p.1 p.2->Q v H'
theorem adF{K:Frag}{cl:Str->Addr}{n:Nat}{F:FP}(vs:List V)(H:Hp)(Q:VK)(E:XK)(h:CV K n F vs H Q E):c7 K cl n F vs H Q E:=by
 obtain⟨Z,ts,h1,h2,h3,h4,p,h5,h6⟩:=h
 refine⟨Z,ts,h1,h2,h3,h4,?_⟩
 rw[h5]
 exact h6
theorem adG(X:K.In h)(G:h.Ns mainGlobals mg)(z0:nsIn K mainGlobals "ValueError" = some none) (z1:nsIn K mainGlobals "abs" = some none) (z2:nsIn K mainGlobals "all" = some none) (z3:nsIn K mainGlobals "bool" = some none) (z4:nsIn K mainGlobals "int" = some none) (z5:nsIn K mainGlobals "isinstance" = some none) (z6:nsIn K mainGlobals "len" = some none) (z7:nsIn K mainGlobals "list" = some none) (z8:nsIn K mainGlobals "max" = some none) (z9:nsIn K mainGlobals "min" = some none) (TF:nsIn K mainGlobals "range" = some none) (TJ:nsIn K mainGlobals "str" = some none) (TQ:nsIn K mainGlobals "tuple" = some none):Nm mg :=
 ⟨mg_none_of X G z0,mg_none_of X G z1,mg_none_of X G z2,mg_none_of X G z3,mg_none_of X G z4,mg_none_of X G z5,mg_none_of X G z6,mg_none_of X G z7,mg_none_of X G z8,mg_none_of X G z9,mg_none_of X G TF,mg_none_of X G TJ,mg_none_of X G TQ⟩
end
section
variable {P:Program}{w:World}{K:Frag}{mg:Str->Option Value}{base:Heap}
theorem adH(M:Nm mg){u5:Addr}(Ce:PyProof.Rows.OwnCls "NoBook" u5 Ae "ValueError.__new__" mg base) {u9:Addr} (Ci:PyProof.Rows.OwnCls "NoRule" u9 Ae "ValueError.__new__" mg base) (XT:iY K) {xK:Addr} (rY:Cg K mg "HeadError" xK) (xO:Cg K mg "NoBook" u5) {Iw:Addr} (Bs:Cg K mg "NoBottom" Iw) {Iz:Addr} (Bt:Cg K mg "NoCount" Iz) {IK:Addr} (Bu:Cg K mg "NoLine" IK) {IV:Addr} (Bv:Cg K mg "NoList" IV) {IW:Addr} (Bw:Cg K mg "NoLooks" IW) (xP:Cg K mg "NoRule" u9) {Ja:Addr} (Bx:Cg K mg "NoSlack" Ja) {Jb:Addr} (BJ:Cg K mg "NoText" Jb) {Jc:Addr} (BK:Cg K mg "NoThing" Jc) {Jd:Addr} (BL:Cg K mg "NoThings" Jd) {Je:Addr} (BP:Cg K mg "NoWorth" Je) {Jf:Addr} (BR:Cg K mg "NotSure" Jf) {Jg:Addr} (BW:Cg K mg "TooMany" Jg) (adI:At K mg "is_whole" Hy) (adJ:At K mg "common_divisor" Hz) (adK:At K mg "is_fraction" HB) (adL:At K mg "is_worth" HD) (adM:At K mg "are_worths" Ay) (adN:At K mg "is_book" xg) (adO:At K mg "need_book" HF) (adP:At K mg "are_weights" Az) (adQ:At K mg "is_rule" HJ) (adR:At K mg "shown_fraction" HN) (adS:At K mg "shown_fractions" Ba) (adT:At K mg "shown_book" Bb) (adU:At K mg "shown_rule" HS) (adV:At K mg "_law_mixed" HW) (adW:At K mg "_law_pile" HX) (adX:At K mg "_law_take" HY) (adY:At K mg "_law_shared" Ia) (adZ:At K mg "_law_frac" Ib) (ad0:At K mg "_law_whole" Ie) (ad1:At K mg "_law_only" Bc) (ad2:At K mg "_law_worth" Ig) (ad3:At K mg "_law_book" xq) (ad4:At K mg "_law_weight" Ih) (ad5:At K mg "_law_rule" Bf) (ad6:At K mg "_law_is_worth" Ii) (ad7:At K mg "_law_is_book" Bg) (ad8:At K mg "_law_odd" Ij) (ad9:At K mg "_law_bent" uX) (aea:At K mg "_law_is_weight" Ik) (aeb:At K mg "_law_is_rule" Bh) (aec:At K mg "_law_rule_bent" Bj) (aed:At K mg "_law_asked" Il) (aee:At K mg "_law_good" Im) (aef:At K mg "law" Io) {Jk:V} (BX:Gk K mg "MOST_LISTS" Jk (.int 4)) {Jl:V} (BZ:Gk K mg "MOST_THINGS" Jl (.int 12)) {Jm:V} (Jo:Gk K mg "BARE_RULES" Jm (.tup [(.tup [(.str "least")]),(.tup [(.str "greatest")]),(.tup [(.str "product")])])):bJ P w K mg base 10 "law" (["_law_script"]:List Str) (CV K 1 xJ):=by
 obtain⟨cl,TV,TY⟩:∃cl:Str→Addr,cl "NoBook" = u5∧cl "NoRule" = u9:=⟨λx=>if x=("NoBook" : Str)then u5 else if x=("NoRule" : Str)then u9 else 0,if_pos rfl,(if_neg (by decide +kernel)).trans (if_pos rfl)⟩
 rw[<-TV]at Ce
 rw[<-TY]at Ci
 have XC:Hh K cl (["NoBook", "NoRule"]:List Str):=List.forall_mem_cons.mpr ⟨⟨by decide +kernel,by rw[TV]; exact xO.1⟩,List.forall_mem_cons.mpr ⟨⟨by decide +kernel,by rw[TY]; exact xP.1⟩,λ_ h=>nomatch h⟩⟩
 have T3:=abF (P:=P) (w:=w) (base:=base) (cl:=cl) adI M XT
 have aeg:=aby (P:=P) (w:=w) (base:=base) (cl:=cl) adJ M
 have T4:=abB (P:=P) (w:=w) (base:=base) (cl:=cl) adK M XT T3 aeg
 have aeh:=abG (P:=P) (w:=w) (base:=base) (cl:=cl) adL M T4
 have aei:=abw (P:=P) (w:=w) (base:=base) (cl:=cl) adM M XT aeh
 have aej:=abz (P:=P) (w:=w) (base:=base) (cl:=cl) adN M BX BZ XT aei
 have aek:=abL (P:=P) (w:=w) (base:=base) (cl:=cl) adO M Ce aej
 have ael:=abv (P:=P) (w:=w) (base:=base) (cl:=cl) adP M XT T4
 have aem:=abD (P:=P) (w:=w) (base:=base) (cl:=cl) adQ M Jo XT ael T3
 have aen:=abP (P:=P) (w:=w) (base:=base) (cl:=cl) adR M
 have T5:=abQ (P:=P) (w:=w) (base:=base) (cl:=cl) adS M aen
 have T6:=abN (P:=P) (w:=w) (base:=base) (cl:=cl) adT M aek T5
 have T7:=abS (P:=P) (w:=w) (base:=base) (cl:=cl) adU M Ci aem T5
 have aeo:=abh (P:=P) (w:=w) (base:=base) (cl:=cl) adV M
 have aep:=abl (P:=P) (w:=w) (base:=base) (cl:=cl) adW M aeo
 have sy:=abq (P:=P) (w:=w) (base:=base) adX M
 have J5:=abp (P:=P) (w:=w) (base:=base) (cl:=cl) adY M
 have T8:=aa4 (P:=P) (w:=w) (base:=base) (cl:=cl) adZ M J5
 have J6:=abt (P:=P) (w:=w) (base:=base) (cl:=cl) ad0 M XT
 have aer:=abk (P:=P) (w:=w) (base:=base) (cl:=cl) ad1 M XT rY xO Bs Bt Bu Bv Bw xP Bx BJ BK BL BP BR BW
 have aes:=abu (P:=P) (w:=w) (base:=base) (cl:=cl) ad2 M sy T8
 have aeu:=aa2 (P:=P) (w:=w) (base:=base) ad3 M sy aes
 have T9:=abr (P:=P) (w:=w) (base:=base) (cl:=cl) ad4 M sy T8
 have aev:=abn (P:=P) (w:=w) (base:=base) ad5 M sy T9
 have aew:=abg (P:=P) (w:=w) (base:=base) (cl:=cl) ad6 M XT J6 J5
 have aex:=aa9 (P:=P) (w:=w) (base:=base) (cl:=cl) ad7 M XT aew
 have aey:=abj (P:=P) (w:=w) (base:=base) ad8 M sy
 have aez:=aa0 (P:=P) (w:=w) (base:=base) ad9 M sy aey
 have aeA:=abf (P:=P) (w:=w) (base:=base) (cl:=cl) aea M XT J6 J5
 have aeB:=abd (P:=P) (w:=w) (base:=base) (cl:=cl) aeb M XT J6 aeA
 have aeC:=abo (P:=P) (w:=w) (base:=base) aec M sy T9
 have aeD:=aaZ (P:=P) (w:=w) (base:=base) (cl:=cl) aed M XT XC rY T6 T7
 have aeE:=aa5 (P:=P) (w:=w) (base:=base) (cl:=cl) aee M XT aeD aer aex aeB
 have aeF:=abH (P:=P) (w:=w) (base:=base) (cl:=cl) aef M aep aeu aev sy T6 T7 aeC aeE aez
 obtain⟨f,fd,h1,h2⟩:=aeF
 exact⟨f,fd,h1.imp adF,h2⟩
end
theorem walk{l:OpenLaw}{q:Program}{loose:List Str}{XP:(Str->Option Value)->Heap->Prop}{YP:World->Heap->Prop}{d:DefRec}{K:Params->Frag}(hn:l.most=some 63)(hdf:d.params.defaults=[])(hd:d.name = "law")
  (yr:∀x∈qe,((PyProof.Rows.recsOf q).find? (λe=>e.name == x)).isSome=true\/∀w:World,nsIn (K w.params) mainGlobals x=some none) (uq:∀w:World,noTabs (K w.params)=true)
  (hY:∀(w:World) (h:Heap),YP w h->(K w.params).In h)
  (F:∀(w:World) (mg:Str->Option Value) (h:Heap),(K w.params).In h->h.Ns mainGlobals mg->∀base:Heap,(K w.params).In base->base.Ns mainGlobals mg->(∀x∈qe,∀c b,tabIn (K w.params) x=some (c,b)->CodeHd base c b)->wW mg base->bJ l.prog w (K w.params) mg base 10 "law" (["_law_script"]:List Str) (CV (K w.params) 1 xJ)) :
  WalkO q loose XP YP l.row.toRowW d [] (λf vs=>PySem.call f vs) :=
 L2.adB (n:=63) (k:=10) (x := "_law_script") (CX:=λw=>j9 l.prog w) (sp:=λw=>CV (K w.params) 1 xJ) hn (by decide) hdf ⟨rfl,by decide,by decide,rfl⟩ yr uq hY
  (λw mg fa h KX G hm base kb gb hc bm=>by
   obtain⟨f,fd,h1,h2,_,h4⟩:=F w mg h KX G base kb gb hc bm
   rw[hd]at hm
   cases h4.symm.trans hm
   exact⟨fd,λs u ks=>h2 s [u] ks rfl,h1⟩)
  (λw H a ns hl hTb hS=>⟨λ_=>False,[.lst (ns.map .int)],rfl,.cons (.lst ((adE H).symm▸hS.toN) (Tz ns)) .nil,λb z=>z.elim,hTb,_,adz ns,λv H' _ r=>by
   cases r
   rfl⟩)
  λw H s e s' h=>by
   obtain⟨_,_,_,_,_,_,z,_⟩:=h
   exact z
end K71
end
section
namespace PySem.W.Fast
end PySem.W.Fast
namespace PySem.W.Fast
end PySem.W.Fast
namespace PySem.W.Fast
theorem tw10028351365770909249:True:=⟨⟩
theorem tw1006275095453457673:True:=⟨⟩
theorem tw10180436619679781719:True:=⟨⟩
theorem tw10520639130359395927:True:=⟨⟩
theorem tw10739922584734068497:True:=⟨⟩
theorem tw10912305785357517256:True:=⟨⟩
theorem tw10997156627158419260:True:=⟨⟩
theorem tw11005642367994870600:True:=⟨⟩
theorem tw11028929713599868817:True:=⟨⟩
theorem tw11249806414623880936:True:=⟨⟩
theorem tw11653391130513584621:True:=⟨⟩
theorem tw11692063736465654758:True:=⟨⟩
theorem tw11788286616277956696:True:=⟨⟩
theorem tw11793725922036809851:True:=⟨⟩
theorem tw118688578029470804:True:=⟨⟩
theorem tw12034750641188481522:True:=⟨⟩
theorem tw12354535008694452484:True:=⟨⟩
theorem tw12675410252048824441:True:=⟨⟩
theorem tw13085600080914420136:True:=⟨⟩
theorem tw13097455197855669203:True:=⟨⟩
theorem tw13116473383729334088:True:=⟨⟩
theorem tw13126137797577220884:True:=⟨⟩
theorem tw13204665550001111818:True:=⟨⟩
theorem tw1324628002535739557:True:=⟨⟩
theorem tw13832379579485162043:True:=⟨⟩
theorem tw13954447173253084312:True:=⟨⟩
theorem tw1408982818521210691:True:=⟨⟩
theorem tw14260636104249649853:True:=⟨⟩
theorem tw14328887569943154597:True:=⟨⟩
theorem tw14359963761058514903:True:=⟨⟩
theorem tw14387492575104150723:True:=⟨⟩
theorem tw14521075813023020030:True:=⟨⟩
theorem tw14571458516333656242:True:=⟨⟩
theorem tw14623732560236042963:True:=⟨⟩
theorem tw1485145760565634554:True:=⟨⟩
theorem tw15036950795440859751:True:=⟨⟩
theorem tw15058192144950700351:True:=⟨⟩
theorem tw15140244941185864820:True:=⟨⟩
theorem tw15216276286170414996:True:=⟨⟩
theorem tw15235823131032154603:True:=⟨⟩
theorem tw15412540488213345291:True:=⟨⟩
theorem tw15497495083988468557:True:=⟨⟩
theorem tw15553104764899305503:True:=⟨⟩
theorem tw15820421120479600982:True:=⟨⟩
theorem tw15910470947259182798:True:=⟨⟩
theorem tw16335819216979143357:True:=⟨⟩
theorem tw16354870047360063785:True:=⟨⟩
theorem tw16552527873909729028:True:=⟨⟩
theorem tw16683337612790867890:True:=⟨⟩
theorem tw16765682958362450230:True:=⟨⟩
theorem tw16776858475323996960:True:=⟨⟩
theorem tw17093254110783577926:True:=⟨⟩
theorem tw17162283979784624208:True:=⟨⟩
theorem tw17275993375662916387:True:=⟨⟩
theorem tw17486540497600890623:True:=⟨⟩
theorem tw17507856238957224642:True:=⟨⟩
theorem tw17540938188881591219:True:=⟨⟩
theorem tw1761925843844734055:True:=⟨⟩
theorem tw17677779973991136809:True:=⟨⟩
theorem tw17739805070652734406:True:=⟨⟩
theorem tw17932688855273743754:True:=⟨⟩
theorem tw17960367700997416620:True:=⟨⟩
theorem tw18116780247656920037:True:=⟨⟩
theorem tw18198967271972590369:True:=⟨⟩
theorem tw18278697104792037142:True:=⟨⟩
theorem tw18423141344960849503:True:=⟨⟩
theorem tw1867351007053680712:True:=⟨⟩
theorem tw220893386346093113:True:=⟨⟩
theorem tw2342379391304913751:True:=⟨⟩
theorem tw2377444590028376393:True:=⟨⟩
theorem tw2380277655361236089:True:=⟨⟩
theorem tw2406431171118460271:True:=⟨⟩
theorem tw2496931558175696527:True:=⟨⟩
theorem tw2636741480585955324:True:=⟨⟩
theorem tw2698657758690359513:True:=⟨⟩
theorem tw2739324318726509755:True:=⟨⟩
theorem tw33098062471478268:True:=⟨⟩
theorem tw4237603612655695841:True:=⟨⟩
theorem tw4372222152737864819:True:=⟨⟩
theorem tw4672066404393560063:True:=⟨⟩
theorem tw4727423858029110976:True:=⟨⟩
theorem tw4836854253492016822:True:=⟨⟩
theorem tw485214066384031354:True:=⟨⟩
theorem tw4980186877746101082:True:=⟨⟩
theorem tw5002736974040965237:True:=⟨⟩
theorem tw5239074154743269040:True:=⟨⟩
theorem tw545344254475398890:True:=⟨⟩
theorem tw5559217105462916844:True:=⟨⟩
theorem tw5586181870950073558:True:=⟨⟩
theorem tw571867094598927868:True:=⟨⟩
theorem tw5876968871480744252:True:=⟨⟩
theorem tw6014072340803751204:True:=⟨⟩
theorem tw6210764970698370085:True:=⟨⟩
theorem tw6315526685685011960:True:=⟨⟩
theorem tw6485378530502611128:True:=⟨⟩
theorem tw6825013328391277056:True:=⟨⟩
theorem tw6929576298388279094:True:=⟨⟩
theorem tw7065679498671294309:True:=⟨⟩
theorem tw7636690970341278494:True:=⟨⟩
theorem tw7930482836139039706:True:=⟨⟩
theorem tw8063633126165536947:True:=⟨⟩
theorem tw8527127352265583232:True:=⟨⟩
theorem tw8627257153650914134:True:=⟨⟩
theorem tw8680475137579865840:True:=⟨⟩
theorem tw8695263532444695049:True:=⟨⟩
theorem tw8829624226290744730:True:=⟨⟩
theorem tw8914695874326505233:True:=⟨⟩
theorem tw8932585416428197330:True:=⟨⟩
theorem tw9340394248709446640:True:=⟨⟩
theorem tw9566268408666629283:True:=⟨⟩
theorem tw9640489183660486015:True:=⟨⟩
theorem tw9681042121047374280:True:=⟨⟩
theorem tw9910136138415929497:True:=⟨⟩
end PySem.W.Fast
open PySem PySem.W PyProof.Rows
set_option maxRecDepth 100000 in
set_option maxHeartbeats 0 in
theorem PySem.Challenge.cw_bestheads_k71_refused_books_and_rules_holds : PySem.Challenge.rw_bestheads_k71_refused_books_and_rules.Holds := by
 w_on; o_law; k_head; (case hw=>w_witness2)
 k_fill
 refine K71.walk (l:=PySem.Challenge.rw_bestheads_k71_refused_books_and_rules) rfl rfl rfl ?yr ?uq (λw h Y=>by first|exact PySem.W.km_in_of Y|exact PySem.W.kIn_of Y) ?F
 case yr =>
  intro x hx
  rcases(List.mem_cons.mp hx)with rfl|hx
  ·exact .inr λw=>by k_is
  ·rw[List.mem_singleton.mp hx]
   exact .inr λw=>by k_is
 case uq=>intro w; kernel_rfl
 case F =>
  intro w mg h KX G base kb gb hcd hbm
  refine' K71.adH ?qM ?aeG ?aeH ?qXT ?aeI ?aeJ ?aeK ?aeL ?aeM ?aeN ?aeO ?aeP ?aeQ ?aeR ?aeS ?aeT ?aeU ?aeV ?aeW ?qd1 ?qd2 ?qd3 ?qd4 ?qd5 ?qd6 ?qd7 ?qd8 ?qd9 ?aeX ?aeY ?aeZ ?ae0 ?ae1 ?ae2 ?ae3 ?ae4 ?ae5 ?ae6 ?ae7 ?ae8 ?ae9 ?afa ?afb ?afc ?afd ?afe ?afg ?afh ?afi ?afj ?afk ?afl ?afm ?afn ?afo ?afp
  case qM =>
   refine' K71.adG KX G ?z0 ?z1 ?z2 ?z3 ?z4 ?z5 ?z6 ?z7 ?z8 ?z9 ?TF ?TJ ?TQ
   all_goals k_is
  case qd1|qd2|qd3|qd4|qd5|qd6|qd7|qd8|qd9|aeX|aeY|aeZ|ae0|ae1|ae2|ae3|ae4|ae5|ae6|ae7|ae8|ae9|afa|afb|afc|afd|afe|afg|afh|afi|afj|afk|afl|afm=>exact K71.adC KX G (by k_is) (by k_is) (by k_is) (by k_is)
  case afn =>
   refine' K71.Tw KX G ?afq
   (case afq=>k_is)
  case afo =>
   refine' K71.Tw KX G ?afr
   (case afr=>k_is)
  case afp =>
   refine' K71.adD KX G ?qbm ?qbl ?qbe ?afs ?aft ?afu ?afv ?afw ?afx
   (case qbm=>k_is); (case qbl=>k_is); (case qbe=>rfl); (case afs=>k_is); (case aft=>rfl); (case afu=>k_is); (case afv=>rfl); (case afw=>k_is); (case afx=>rfl)
  case qXT=>exact L2.iY.of (by kernel_rfl)
  case aeI =>
   refine' ⟨?afy,mg_of KX G ?afz⟩
   (case afy=>k_is); (case afz=>k_is)
  case aeJ =>
   refine' ⟨?afA,mg_of KX G ?afB⟩
   (case afA=>k_is); (case afB=>k_is)
  case aeK =>
   refine' ⟨?afC,mg_of KX G ?afD⟩
   (case afC=>k_is); (case afD=>k_is)
  case aeL =>
   refine' ⟨?afE,mg_of KX G ?afF⟩
   (case afE=>k_is); (case afF=>k_is)
  case aeM =>
   refine' ⟨?afG,mg_of KX G ?afH⟩
   (case afG=>k_is); (case afH=>k_is)
  case aeN =>
   refine' ⟨?afI,mg_of KX G ?afJ⟩
   (case afI=>k_is); (case afJ=>k_is)
  case aeO =>
   refine' ⟨?afK,mg_of KX G ?afL⟩
   (case afK=>k_is); (case afL=>k_is)
  case aeP =>
   refine' ⟨?afM,mg_of KX G ?afN⟩
   (case afM=>k_is); (case afN=>k_is)
  case aeQ =>
   refine' ⟨?afO,mg_of KX G ?afP⟩
   (case afO=>k_is); (case afP=>k_is)
  case aeR =>
   refine' ⟨?afQ,mg_of KX G ?afR⟩
   (case afQ=>k_is); (case afR=>k_is)
  case aeS =>
   refine' ⟨?afS,mg_of KX G ?afT⟩
   (case afS=>k_is); (case afT=>k_is)
  case aeT =>
   refine' ⟨?afU,mg_of KX G ?afV⟩
   (case afU=>k_is); (case afV=>k_is)
  case aeU =>
   refine' ⟨?afW,mg_of KX G ?afX⟩
   (case afW=>k_is); (case afX=>k_is)
  case aeV =>
   refine' ⟨?afY,mg_of KX G ?afZ⟩
   (case afY=>k_is); (case afZ=>k_is)
  case aeW =>
   refine' ⟨?af0,mg_of KX G ?af2⟩
   (case af0=>k_is); (case af2=>k_is)
  case aeG =>
   refine' L2.NQ kb gb ?af3 ?af4
   (case af3=>k_is); (case af4=>k_exc)
  case aeH =>
   refine' L2.NQ kb gb ?af5 ?af6
   (case af5=>k_is); (case af6=>k_exc)
#print axioms PySem.Challenge.cw_bestheads_k71_refused_books_and_rules_holds
end
end
