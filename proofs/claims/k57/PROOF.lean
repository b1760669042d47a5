import PyProof.Rows.All
import Wide.All
import OpenK.AllK
import Wide.FinOn
import Lean
import PyProof.EqAt
import PyProof.EqKinds
import PyProof.TupleCall
import PyProof.ReprRoads
import PyProof.ReprBulk
import PyProof.Rows.RegStrFacts
import PyProof.StrBlockH
import PyProof.FitsBits
import KE.KTurns
import PyProof.NeKinds
import KE.KNest
import KE.KSortKey
import PyProof.ListRange
import PyProof.Rows.SortWalk
import KE.KListMore
import PySem.Challenge.RW_bestheads_k57_rooms_of_worths
noncomputable section
abbrev FZ:=PySem.W.Frag
set_option exponentiation.threshold 6000
set_option Elab.async false
set_option linter.all false
set_option maxRecDepth 100000
set_option maxHeartbeats 4000000
section
namespace L2
open PySem PySem.Spec PyProof.Rows
abbrev Key:=Sum Int Str
def Pg:Key->Value->Bool
 |.inl k,v=>Value.isInt k v
 |.inr x,v=>Value.isStrOf x v
def Y9(w:World):Key->Int
 |.inl k=>hashInt k
 |.inr x=>hashStr w x
theorem pN:∀{k:Key} {v:Value},Pg k v=true->(∃i t,k=Sum.inl i/\v=Value.int i t)\/(∃x t,k=Sum.inr x/\v=Value.str x t)
 |.inl i,v,h=>by
  obtain⟨t,e⟩:=Value.isInt_shape (k:=i) (v:=v) h
  exact .inl ⟨i,t,rfl,e⟩
 |.inr x,v,h=>by
  obtain⟨t,e⟩:=Value.isStrOf_shape (x:=x) (v:=v) h
  exact .inr ⟨x,t,rfl,e⟩
theorem Za(a b:Int):decide ((Sum.inl a:Key)=Sum.inl b)=(a == b):=by
 by_cases e:a=b
 ·subst e; simp
 ·have h:¬(Sum.inl a:Key)=Sum.inl b:=λq=>e (Sum.inl.inj q)
  rw[decide_eq_false h]
  exact(beq_eq_false_iff_ne.mpr e).symm
theorem Zb(a b:Str):decide ((Sum.inr a:Key)=Sum.inr b)=decide (a=b):=by
 by_cases e:a=b
 ·subst e; simp
 ·have h:¬(Sum.inr a:Key)=Sum.inr b:=λq=>e (Sum.inr.inj q)
  rw[decide_eq_false h,decide_eq_false e]
theorem Zc(a:Int)(b:Str):decide ((Sum.inl a:Key)=Sum.inr b)=false:=decide_eq_false (λq=>nomatch q)
theorem Zd(a:Str)(b:Int):decide ((Sum.inr a:Key)=Sum.inl b)=false:=decide_eq_false (λq=>nomatch q)
noncomputable def Hf(prog:Program)(w:World):PySem.KeyKind prog w Key where
 is:=Pg
 hash:=Y9 w
 inj:=λv a b ha hb=>by
  rcases pN ha with⟨i,t,rfl,rfl⟩|⟨x,t,rfl,rfl⟩
  ·rcases pN hb with⟨j,u,rfl,e⟩|⟨y,u,rfl,e⟩
   ·injection e with e1 _; rw[e1]
   ·exact nomatch e
  ·rcases pN hb with⟨j,u,rfl,e⟩|⟨y,u,rfl,e⟩
   ·exact nomatch e
   ·injection e with e1 _; rw[e1]
 byValue:=λk v h=>by
  rcases pN h with⟨i,t,rfl,rfl⟩|⟨x,t,rfl,rfl⟩ <;> rfl
 pyHash:=λhv h=>by
  rcases pN hv with⟨i,t,rfl,rfl⟩|⟨x,t,rfl,rfl⟩
  ·exact wpAny_pyHash_int h
  ·exact wpAny_pyHash_str h
 eqBool:=λhu hv h=>by
  rcases pN hu with⟨i,t,rfl,rfl⟩|⟨x,t,rfl,rfl⟩
  ·rcases pN hv with⟨j,u,rfl,rfl⟩|⟨y,u,rfl,rfl⟩
   ·rw[Za]at h; exact wpAny_eqBool_int h
   ·rw[Zc]at h; exact SeqAt.EqAt.int_str i t y u _ _ _ _ h
  ·rcases pN hv with⟨j,u,rfl,rfl⟩|⟨y,u,rfl,rfl⟩
   ·rw[Zd]at h; exact SeqAt.EqAt.str_int x t j u _ _ _ _ h
   ·rw[Zb]at h; exact wpAny_eqBool_str h
 «strs» := λk x t v h=>by
  rcases pN h with⟨i,u,rfl,e⟩|⟨y,u,rfl,e⟩
  ·exact nomatch e
  ·injection e with e1 _
   subst e1
   cases v <;> rfl
end L2
namespace L2
open PySem PySem.Spec PyProof.Rows
inductive V where
 |non|bl (b:Bool)|int (i:Int)|str (x:Str)|yE (b:Array UInt8)|flt (b:UInt64)|ref (a:Addr)|ty (n:String)
 deriving DecidableEq
noncomputable def RelV:V->Value->Prop
 |.non,u=>u=Value.none
 |.bl b,u=>u=Value.bool b
 |.int i,u=>∃t,u=Value.int i t
 |.str x,u=>∃t,u=Value.str x t
 |.yE b,u=>∃t,u=Value.bytes b t
 |.flt b,u=>∃t,u=Value.float b t
 |.ref a,u=>u=Value.ref a
 |.ty n,u=>u=Value.type n
abbrev Vals:List V->List Value->Prop:=Paired RelV
theorem Vals.length{xs:List V}{us:List Value}(r:Vals xs us):xs.length=us.length:=Paired.length r
theorem Vals.get:∀{xs:List V} {us:List Value} {i:Nat} {x:V},Vals xs us->xs[i]?=some x->∃u,us[i]?=some u/\RelV x u
 |_,_,_,_,.nil,e=>by simp at e
 |_,_,0,_,.cons r _,e=>by simp at e; subst e; exact⟨_,rfl,r⟩
 |_,_,i+1,x,.cons _ t,e=>by
  obtain⟨u,h1,h2⟩:=Vals.get (i:=i) (x:=x) t (by simpa using e)
  exact⟨u,by simpa using h1,h2⟩
theorem Vals.set{x:V}{u:Value}(r:RelV x u):∀{xs:List V} {us:List Value} (i:Nat),Vals xs us->Vals (xs.set i x) (us.set i u)
 |_,_,_,.nil=>.nil
 |_,_,0,.cons _ t=>.cons r t
 |_,_,i+1,.cons q t=>.cons q (Vals.set r i t)
theorem Vals.append:∀{xs ys:List V} {us ws:List Value},Vals xs us->Vals ys ws->Vals (xs++ys) (us++ws)
 |_,_,_,_,.nil,s=>s
 |_,_,_,_,.cons r t,s=>.cons r (Vals.append t s)
theorem Vals.take:∀{xs:List V} {us:List Value} (n:Nat),Vals xs us->Vals (xs.take n) (us.take n)
 |_,_,0,_=>.nil
 |_,_,_+1,.nil=>.nil
 |_,_,n+1,.cons r t=>.cons r (Vals.take n t)
theorem Vals.drop:∀{xs:List V} {us:List Value} (n:Nat),Vals xs us->Vals (xs.drop n) (us.drop n)
 |_,_,0,r=>r
 |_,_,_+1,.nil=>.nil
 |_,_,n+1,.cons _ t=>Vals.drop n t
def Ph:Option V->Option Value->Prop
 |some v,some u=>RelV v u
 |none,none=>True
 |_,_=>False
def KV{κ : Type}:List (κ × V)->List (κ × Value)->Prop:=Paired λ(p : κ × V) (q : κ × Value)=>p.1=q.1/\RelV p.2 q.2
def kV:Key->V
 |.inl i=>.int i
 |.inr x=>.str x
inductive HO where
 |lst (xs:List V)
 |tup (xs:List V)
 |dK (kvs:List (Key × V))|dT (kvs:List (List Key × V))
 |set (S:Int->Bool) (n:Nat)
 |ins (C dx:Addr) (fs:List (Str × V))
 |own (x:Addr)
 |xd (fs:List (Str × V))
 |met (f x:Addr)
 |rng (lo hi:Int)
 |ig (o:Obj) (u:HO)
 |dM (ps:Array Value)
 |ext (φ : Heap->Prop)
abbrev Hp:=Addr->Option HO
def upd(H:Hp)(a:Addr)(o:HO):Hp:=λb=>if b=a then some o else H b
theorem dI{H:Hp}{a:Addr}{o:HO}:upd H a o a=some o:=by unfold upd; rw[if_pos rfl]
theorem bB{H:Hp}{a b:Addr}{o:HO}(h:b≠a):upd H a o b=H b:=by unfold upd; rw[if_neg h]
theorem iR{H:Hp}{a b:Addr}{o:HO}(h:H a=some o)(h':H b=none):a≠b:=by
 intro e; subst e; rw[h]at h'; cases h'
section
variable (P:Program)(w:World)
noncomputable def jU(H:Hp)(h:Heap)(a:Addr):HO->Prop
 |.lst xs=>xs.length<=sizeLine/\∃(its:List Value) (n:Nat),Vals xs its/\h.get? a=some {cls:=.type "list",data:=.seq its.toArray n }
 |.tup xs=>xs.length<=sizeLine/\∃its:List Value,Vals xs its/\IsTup h a its.toArray
 |.dK kvs=>kvs.length<=sizeLine/\(a == sysModules)=false/\∃vs,KV kvs vs/\h.DictOf (Hf P w) a vs
 |.dT kvs=>kvs.length<=sizeLine/\(a == sysModules)=false/\∃xs:List (List Key × Addr × Value),
   Paired (λ(p:List Key × V) (q:List Key × Addr × Value)=>p.1=q.1/\H q.2.1=some (.tup (p.1.map kV))/\RelV p.2 q.2.2) kvs xs /\
   ∃o es ep,h.get? a=some o/\o.ExactDict/\o.data=.dict es ep/\es.toList=xs.map (entryOfKey (tupleKind (Hf P w)))/\(xs.map (·.1)).Nodup
 |.set S n=>h.SetOf (intKind P w) a S n
 |.ins C dx fs=>H dx=some (.own a)/\fs.length<=1000/\dx≠a/\h.get? a=some (PySem.W.instObj C dx) /\
   ∃mA,h.Ns1 dx mA/\(∀f,Ph (fs.lookup f) (mA f))/\PySem.Within mA (fs.map (·.1))
 |.own _=>∃o,h.get? a=some o
 |.xd fs=>∃mA,h.Ns1 a mA/\∀f,Ph (fs.lookup f) (mA f)
 |.rng lo hi=>∃t u v,h.get? a=some {cls:=.type "range",data:=.fields #[.int lo t,.int hi u,.int 1 v] }
 |.ig o u=>h.get? a=some o/\jU H h a u
 |.dM ps=>h.get? a=some {cls:=.none,data:=.fields ps }
 |.met f x=>h.get? a=some (PySem.W.methodObj (.ref f) (.ref x))
 |.ext φ=>φ h/\(∃o,h.get? a=some o)/\∀h1 h2:Heap,φ h1->(∀o,h1.get? a=some o->h2.get? a=some o) -> φ h2
def fJ(H:Hp)(h:Heap):Prop:=∀a o,H a=some o->jU P w H h a o
end
section
variable {P:Program}{w:World}{H H':Hp}{h h':Heap}{a:Addr}{o:HO}
theorem jU.lt(x:jU P w H h a o):a<h.objs.size:=by
 cases o with
 |lst xs=>obtain⟨_,_,_,_,e⟩:=x; exact Heap.lt_size e
 |tup xs=>obtain⟨_,_,_,p⟩:=x; exact p.lt
 |dK kvs=>obtain⟨_,_,_,_,o,_,_,e,_⟩:=x; exact Heap.lt_size e
 |dT kvs=>obtain⟨_,_,_,_,o,_,_,e,_⟩:=x; exact Heap.lt_size e
 |set S n=>obtain⟨o,_,_,_,e,_⟩:=x; exact Heap.lt_size e
 |ins C dx fs=>obtain⟨_,_,_,e,_⟩:=x; exact Heap.lt_size e
 |own y=>obtain⟨_,e⟩:=x; exact Heap.lt_size e
 |xd fs=>obtain⟨_,⟨_,_,_,e,_⟩,_⟩:=x; exact Heap.lt_size e
 |rng lo hi=>obtain⟨_,_,_,e⟩:=x; exact Heap.lt_size e
 |ig ob u=>obtain⟨e,_⟩:=x; exact Heap.lt_size e
 |dM ps=>exact Heap.lt_size (show h.get? a=some _ from x)
 |met f y=>exact Heap.lt_size (show h.get? a=some _ from x)
 |ext φ=>obtain⟨_,⟨_,e⟩,_⟩:=x; exact Heap.lt_size e
theorem Paired.Pk{α β : Type}{F G : α -> β -> Prop}:∀{l₁ : List α} {l₂ : List β},Paired F l₁ l₂ -> (∀a b,F a b->G a b)->Paired G l₁ l₂
 |_,_,.nil,_=>.nil
 |_,_,.cons r t,f=>.cons (f _ _ r) (Paired.Pk t f)
theorem jU.stay(x:jU P w H h a o)(k:∀b u,(b=a\/H b=some (.own a))->h.get? b=some u->h'.get? b=some u)
  (ho:∀b,H b=some (.own a)->H' b=some (.own a)) (ht:∀b xs,H b=some (.tup xs)->H' b=some (.tup xs)):jU P w H' h' a o:=by
 induction o with
 |lst xs=>obtain⟨z,its,n,r,e⟩:=x; exact⟨z,its,n,r,k _ _ (.inl rfl) e⟩
 |tup xs=>obtain⟨z,its,r,ob,e,c⟩:=x; exact⟨z,its,r,ob,k _ _ (.inl rfl) e,c⟩
 |dK kvs=>obtain⟨z,y,vs,r,ob,es,ep,e,c⟩:=x; exact⟨z,y,vs,r,ob,es,ep,k _ _ (.inl rfl) e,c⟩
 |dT kvs =>
  obtain⟨z,y,xs,r,ob,es,ep,e,c⟩:=x
  exact⟨z,y,xs,Paired.Pk r λp q z=>⟨z.1,ht _ _ z.2.1,z.2.2⟩,ob,es,ep,k _ _ (.inl rfl) e,c⟩
 |set S n=>obtain⟨ob,es,ep,t,e,c⟩:=x; exact⟨ob,es,ep,t,k _ _ (.inl rfl) e,c⟩
 |ins C dx fs =>
  obtain⟨d,z,ne,e,mA,⟨od,es,ep,e2,c⟩,r⟩:=x
  exact⟨ho _ d,z,ne,k _ _ (.inl rfl) e,mA,⟨od,es,ep,k _ _ (.inr d) e2,c⟩,r⟩
 |own y=>obtain⟨ob,e⟩:=x; exact⟨ob,k _ _ (.inl rfl) e⟩
 |xd fs=>obtain⟨mA,⟨od,es,ep,e,c⟩,r⟩:=x; exact⟨mA,⟨od,es,ep,k _ _ (.inl rfl) e,c⟩,r⟩
 |rng lo hi=>obtain⟨t,u,v,e⟩:=x; exact⟨t,u,v,k _ _ (.inl rfl) e⟩
 |ig ob u ih=>obtain⟨e,q⟩:=x; exact⟨k _ _ (.inl rfl) e,ih q⟩
 |dM ps =>
  have e:h.get? a=some {cls:=.none,data:=.fields ps }:=x
  show h'.get? a=some {cls:=.none,data:=.fields ps }
  exact k a _ (.inl rfl) e
 |met f y =>
  have e:h.get? a=some (PySem.W.methodObj (.ref f) (.ref y)):=x
  show h'.get? a=some (PySem.W.methodObj (.ref f) (.ref y))
  exact k a _ (.inl rfl) e
 |ext φ=>obtain⟨p,⟨o,e⟩,st⟩:=x; exact⟨st _ _ p λo q=>k _ _ (.inl rfl) q,⟨o,k _ _ (.inl rfl) e⟩,st⟩
theorem fJ.lt(x:fJ P w H h)(e:H a=some o):a<h.objs.size:=(x a o e).lt
theorem fJ.fresh(x:fJ P w H h)(e:h.objs.size<=a):H a=none:=by
 cases q:H a with
 |none=>rfl
 |some u=>exact absurd (Nat.lt_of_lt_of_le (x.lt q) e) (Nat.lt_irrefl _)
theorem fJ.kept(x:fJ P w H h)(k:∀b u,h.get? b=some u->h'.get? b=some u):fJ P w H h':=λa o e =>
 (x a o e).stay (λb u _ q=>k b u q) (λ_ q=>q) λ_ _ q=>q
theorem fJ.laid(x:fJ P w H h)(k:∀b u,h.get? b=some u->h'.get? b=some u)(hp:h.objs.size<=a)(new:jU P w (upd H a o) h' a o):fJ P w (upd H a o) h':=λb u e=>by
 have hn:=x.fresh hp
 by_cases hb:b=a
 ·subst hb; rw[dI]at e; cases e; exact new
 ·rw[bB hb]at e
  exact(x b u e).stay (λc v _ q=>k c v q) (λc q=>by rw[bB (iR q hn)]; exact q) λc xs q=>by rw[bB (iR q hn)]; exact q
end
def Rd(H:Hp)(a:Addr)(u:HO):Prop:=H a=some u\/∃o,H a=some (.ig o u)
theorem Rd.ok{P:Program}{w:World}{H:Hp}{h:Heap}{a:Addr}{u:HO}(r:Rd H a u)(x:fJ P w H h):jU P w H h a u:=by
 rcases r with r|⟨o,r⟩
 ·exact x a u r
 ·obtain⟨_,q⟩:=x a _ r
  exact q
def Bu:Option HO->Prop
 |some (.lst _)=>True
 |some (.dK _)=>True
 |some (.dT _)=>True
 |some (.set _ _)=>True
 |some (.ins _ _ _)=>True
 |some (.ext _)=>True
 |_=>False
section
variable {P:Program}{w:World}{H:Hp}{h h':Heap}{x e:Addr}{o':HO}
theorem fJ.write(ok:fJ P w H h)(mu:Bu (H x))(he:e=x\/H e=some (.own x))(k:∀b u,b≠e->h.get? b=some u->h'.get? b=some u)(heo:∃u,h'.get? e=some u)
  (new:jU P w (upd H x o') h' x o'):fJ P w (upd H x o') h':=λb u q=>by
 have Pn:∀c y,H c=some (.own y)->c≠x:=λc y r z=>by subst z; rw[r]at mu; exact mu
 have Ze:∀c xs,H c=some (.tup xs)->c≠x:=λc xs r z=>by subst z; rw[r]at mu; exact mu
 by_cases hb:b=x
 ·subst hb; rw[dI]at q; cases q; exact new
 ·rw[bB hb]at q
  by_cases hbe:b=e
  ·have q':H b=some (.own x):=by
    rcases he with z|z
    ·exact absurd (hbe.trans z) hb
    ·rw[hbe]; exact z
   rw[q]at q'; cases q'
   obtain⟨v,hv⟩:=heo
   exact⟨v,by rw[hbe]; exact hv⟩
  ·refine(ok b u q).stay (λc v hc r=>k c v ?_ r) (λc r=>by rw[bB (Pn c b r)]; exact r) λc xs r=>by rw[bB (Ze c xs r)]; exact r
   rcases hc with rfl|hc
   ·exact hbe
   ·rintro rfl
    rcases he with z|z
    ·exact Pn c b hc z
    ·rw[hc]at z; cases z; exact hb rfl
end
structure Un(fs ex:List Addr)(H H':Hp)(h h':Heap):Prop where
 keep:∀b o,h.get? b=some o->H b=none->b∉fs->b∉ex->h'.get? b=some o
 slot:∀b o,h.get? b=some o->H b=none->b∈fs->b∉ex->∃sl,h'.get? b=some {o with slots:=sl }
 free:∀b o,h.get? b=some o->H b=none->b∉ex->H' b=none
 there:∀b o,h.get? b=some o->b∉ex->∃o',h'.get? b=some o'
 tups:∀b xs,H b=some (.tup xs)->H' b=some (.tup xs)
 mK:∀b o u,H b=some (.ig o u)->H' b=some (.ig o u)
 mL:∀b ps,H b=some (.dM ps)->∃more,H' b=some (.dM (ps++more))
section
variable {fs fs' ex ex':List Addr}{H H1 H2:Hp}{h h1 h2 h':Heap}{a x e:Addr}{o:HO}
theorem Un.any(u:Un fs ex H H1 h h1){b:Addr}{ob:Obj}(q:h.get? b=some ob)(n:H b=none)(hx:b∉ex):∃sl,h1.get? b=some {ob with slots:=sl }:=by
 by_cases hb:b∈fs
 ·exact u.slot b ob q n hb hx
 ·exact⟨ob.slots,u.keep b ob q n hb hx⟩
theorem Un.kept(k:∀b u,h.get? b=some u->h'.get? b=some u):Un fs ex H H h h' :=
 ⟨λb ob q _ _ _=>k b ob q,λb ob q _ _ _=>⟨ob.slots,k b ob q⟩,λ_ _ _ n _=>n,λb ob q _=>⟨ob,k b ob q⟩,λ_ _ q=>q,λ_ _ _ q=>q,λ_ ps q=>⟨#[],by rw[q]; simp⟩⟩
theorem Un.refl:Un fs ex H H h h:=Un.kept λ_ _ q=>q
theorem Un.laid(k:∀b u,h.get? b=some u->h'.get? b=some u)(hp:h.objs.size<=a)(hn:H a=none):Un fs ex H (upd H a o) h h' where
 keep:=λb u q _ _ _=>k b u q
 slot:=λb u q _ _ _=>⟨u.slots,k b u q⟩
 free:=λb u q n _=>by rw[bB (Nat.ne_of_lt (Nat.lt_of_lt_of_le (Heap.lt_size q) hp))]; exact n
 there:=λb u q _=>⟨u,k b u q⟩
 tups:=λb xs q=>by rw[bB (iR q hn)]; exact q
 mK:=λb u xs q=>by rw[bB (iR q hn)]; exact q
 mL:=λb ps q=>⟨#[],by rw[bB (iR q hn),q]; simp⟩
theorem Un.write(mu:Bu (H x))(he:e=x\/H e=some (.own x))(k:∀b u,b≠e->h.get? b=some u->h'.get? b=some u)(heo:∃u,h'.get? e=some u):Un fs ex H (upd H x o) h h':=by
 have hx:∀b,H b=none->b≠x:=λb n z=>by subst z; rw[n]at mu; exact mu
 have hb:∀b,H b=none->b≠e:=λb n z=>by
  subst z
  rcases he with r|r
  ·exact hx b n r
  ·rw[n]at r; cases r
 have hm:∀b u,H b=some u->¬Bu (some u)->b≠x:=λb u q nm z=>by subst z; rw[q]at mu; exact nm mu
 refine⟨λb u q n _ _=>k b u (hb b n) q,λb u q n _ _=>⟨u.slots,k b u (hb b n) q⟩,λb u q n _=>by rw[bB (hx b n)]; exact n,λb u q _=>?_,
  λb xs q=>by rw[bB (hm b _ q λz=>z)]; exact q,λb u xs q=>by rw[bB (hm b _ q λz=>z)]; exact q,λb ps q=>⟨#[],by rw[bB (hm b _ q λz=>z),q]; simp⟩⟩
 by_cases hbe:b=e
 ·subst hbe; exact heo
 ·exact⟨u,k b u hbe q⟩
end
def Bv(h:Heap)(H:Hp):List Addr:=(List.range h.objs.size).filter λa=>(H a).isSome
def pO(h:Heap)(H:Hp):Heap:=PySem.W.hideAll h (Bv h H)
theorem Zf(h:Heap)(H:Hp):(pO h H).objs.size=h.objs.size:=PySem.W.hideAll_size _ _
theorem Zg{h:Heap}{H:Hp}{b:Addr}{o:Obj}(e:h.get? b=some o)(n:H b=none):(pO h H).get? b=some o :=
 PySem.W.hideAll_get _ e λhm=>by
  have q:(H b).isSome=true:=(List.mem_filter.mp hm).2
  rw[n]at q; simp at q
theorem Zh{h:Heap}{H:Hp}{b:Addr}{o:Obj}(e:(pO h H).get? b=some o):h.get? b=some o/\H b=none:=by
 have e':h.get? b=some o:=PySem.W.of_hideAll (Bv h H) e
 refine⟨e',?_⟩
 cases q:H b with
 |none=>rfl
 |some x =>
  have hm:b∈Bv h H:=List.mem_filter.mpr ⟨List.mem_range.mpr (Heap.lt_size e'),by simp[q]⟩
  have z:(pO h H).get? b=none:=PySem.W.hideAll_none (Bv h H) hm
  rw[z]at e; cases e
def Zi(g h:Heap)(L:Addr):List (Addr × Obj):=(List.range h.objs.size).filterMap λa=>if a=L\/(g.get? a).isSome=true then none else(h.get? a).map λo=>(a,o)
def rest(g h:Heap)(L d:Addr):List (Addr × Obj):=(Zi g h L).filter λp=>decide (p.1≠d)
end L2
namespace L2
open PySem PySem.Spec PyProof.Rows
structure Mod(K:FZ)(mg:Str->Option Value)(base:Heap):Prop where
 Hg:K.In base
 glob:base.Ns mainGlobals mg
 blt:∃mb,base.Ns builtinsNs mb/\∀x:Str,x ≠ "__name__" -> mb x=bootBuiltins x
 nolimit:base.NoLimit
structure Cx where
 prog:Program
 w:World
 K:FZ
 mg:Str->Option Value
 base:Heap
 A:Around
 N:List Str
 s₀ : Shared
 H₀ : Hp
 env:Env
 outer:List Env
 stack:List Env
 ex:List Addr
 fn:Str->Bool
 calm:Bool
 pn:List (Addr × Obj)
 xe:Value->Shared->Prop
def frs(l:List Env):List Addr:=l.filterMap (·.frame)
abbrev Cx.fs(X:Cx):List Addr:=frs X.outer
def Pq(sc:Scope)(x:Str):Prop:=sc.names.lookup x=some .local\/sc.names.lookup x=some .cell\/sc.names.lookup x=some .free
def Loc(sc:Scope)(x:Str):Prop:=sc.names.lookup x=some .local\/sc.names.lookup x=some .cell
def Look(env:Env)(h:Heap)(m:Str->Option Value)(x:Str)(u:Value):Prop :=
 (env.kindOf x=some .local/\m x=some u)\/((env.kindOf x=some .cell\/env.kindOf x=some .free)/\∃c,env.cells.lookup x=some c/\h.IsCell c (some u))
structure Cx.Ok(X:Cx):Prop where
 mod:Mod X.K X.mg X.base
 kind:X.env.scope.kind=.function
 glob:X.env.globals=mainGlobals
 blt:X.env.builtins=builtinsNs
 above:X.s₀.heap.objs.size<=X.env.locals
 inj:∀x y c,X.env.cells.lookup x=some c->X.env.cells.lookup y=some c->x=y
 has:∀x,(X.env.kindOf x=some .cell\/X.env.kindOf x=some .free)->∃c,X.env.cells.lookup x=some c
 cab:∀x c,X.fn x=true->X.env.cells.lookup x=some c->X.s₀.heap.objs.size<=c
 hd:X.calm=true->X.A.handled=none
 frames:X.A.frames=some X.stack
 stk:X.stack=X.outer\/(X.stack=X.env::X.outer/\X.env.frame=some X.env.locals)
 Pu:∀b∈X.ex,b≠X.env.locals/\∀x c,X.env.cells.lookup x=some c->c≠b
 bs:∀b o,X.base.get? b=some o->X.s₀.heap.get? b=some o/\X.H₀ b=none
 qY:X.base.objs.size<=X.s₀.heap.objs.size
 jK:∀b o,X.base.get? b=some o->b∉X.ex
 Bw:∀b∈X.ex,b∉X.fs
 lM:X.s₀.heap.FunFrames X.base X.outer
 tE:∀b∈X.fs,X.H₀ b=none
structure Inv(X:Cx)(pins:List (Addr × Obj))(σ : List (Option V))(H:Hp)(s:Shared):Prop where
 ok:X.Ok
 os:s.os=X.s₀.os
 bare:AllBare s.gens
 base:Un X.fs X.ex X.H₀ H X.s₀.heap s.heap
 loc:∃m,s.heap.Ns X.env.locals m/\∀(i:Nat) (x:Str) (v:V),X.N[i]?=some x -> σ[i]?=some (some v)->Pq X.env.scope x->∃u,RelV v u/\Look X.env s.heap m x u
 cell:∀x c,X.env.cells.lookup x=some c->∃v,s.heap.IsCell c v
 free:H X.env.locals=none
 mO:∀x c,X.env.cells.lookup x=some c->H c=none
 pin:∀p∈X.pn++pins,s.heap.get? p.1=some p.2/\H p.1=none/\p.1≠X.env.locals/\p.1∉X.fs/\∀v,p.2.data ≠ .cell v
 hok:fJ X.prog X.w H s.heap
 len : σ.length=X.N.length
section
variable {X:Cx}{pins:List (Addr × Obj)}{σ : List (Option V)}{H H':Hp}{s:Shared}{h':Heap}
theorem Cx.Ok.vN(ok:X.Ok){b:Addr}{o:Obj}(e:X.base.get? b=some o):b∉X.fs:=λhb=>by
 have:=(ok.lM.mem hb).1
 rw[e]at this; cases this
theorem Inv.bs(I:Inv X pins σ H s):∀b o,X.base.get? b=some o->s.heap.get? b=some o/\H b=none:=λb o e =>
 ⟨I.base.keep b o (I.ok.bs b o e).1 (I.ok.bs b o e).2 (I.ok.vN e) (I.ok.jK b o e),I.base.free b o (I.ok.bs b o e).1 (I.ok.bs b o e).2 (I.ok.jK b o e)⟩
theorem Inv.bk(I:Inv X pins σ H s):∀b o,X.base.get? b=some o->s.heap.get? b=some o:=λb o e=>(I.bs b o e).1
theorem Inv.mod(I:Inv X pins σ H s):Mod X.K X.mg X.base:=I.ok.mod
theorem Inv.jV(I:Inv X pins σ H s):X.K.In s.heap:=I.ok.mod.Hg.keeps I.bk
theorem Inv.nolimit(I:Inv X pins σ H s):s.heap.NoLimit:=I.ok.mod.nolimit.keeps I.bk
theorem Inv.lt(I:Inv X pins σ H s):X.env.locals<s.heap.objs.size:=let⟨_,hn,_⟩:=I.loc; hn.lt
theorem Inv.sz(I:Inv X pins σ H s):X.s₀.heap.objs.size<=s.heap.objs.size:=Nat.le_trans I.ok.above (Nat.le_of_lt I.lt)
theorem Inv.Zj(I:Inv X pins σ H s){a:Addr}(h:s.heap.objs.size<=a):a∉X.fs:=λhb=>by
 obtain⟨_,o,ho,_⟩:=I.ok.lM.mem hb
 exact absurd (Nat.lt_of_lt_of_le (Heap.lt_size ho) (Nat.le_trans I.sz h)) (Nat.lt_irrefl _)
theorem Inv.tG(I:Inv X pins σ H s):∀x c,X.env.cells.lookup x=some c->c≠X.env.locals:=λx c e z=>by
 obtain⟨v,o,ho,hd⟩:=I.cell x c e
 obtain⟨m,⟨o',es,ep,ho',hd',_⟩,_⟩:=I.loc
 rw[z,ho']at ho; cases ho; rw[hd']at hd; cases hd
theorem Inv.lM(I:Inv X pins σ H s):s.heap.FunFrames X.base X.outer:=by
 have all:∀(l:List Env),(∀b∈frs l,b∈X.fs)->X.s₀.heap.FunFrames X.base l->s.heap.FunFrames X.base l:=by
  intro l
  induction l with
  |nil=>intro _ _; trivial
  |cons env r ih =>
   intro hs hl
   obtain⟨hk,⟨L,o,hf,hn,ho,hd⟩,hr⟩:=hl
   have hL:L∈X.fs:=hs L (by unfold frs; rw[List.filterMap_cons,hf]; exact List.mem_cons_self)
   obtain⟨sl,e⟩:=I.base.slot L o ho (I.ok.tE L hL) hL λz=>I.ok.Bw L z hL
   exact⟨hk,⟨L,_,hf,hn,e,hd⟩,ih (λb hb=>hs b (by unfold frs; rw[List.filterMap_cons,hf]; exact List.mem_cons_of_mem _ hb)) hr⟩
 exact all X.outer (λ_ hb=>hb) I.ok.lM
theorem Inv.stack(I:Inv X pins σ H s):s.heap.FunFrames X.base X.stack:=by
 rcases I.ok.stk with e|⟨e,hf⟩
 ·rw[e]; exact I.lM
 ·rw[e]
  obtain⟨m,hn,_⟩:=I.loc
  refine .cons (by rw[I.ok.kind]; decide) hf hn ?_ I.lM
  exact Heap.get?_none_of_le (Nat.le_trans I.ok.qY I.ok.above)
theorem Inv.yF(I:Inv X pins σ H s):∀b∈frs X.stack,b∈X.env.locals::X.fs:=λb hb=>by
 rcases I.ok.stk with e|⟨e,hf⟩
 ·rw[e]at hb; exact List.mem_cons_of_mem _ hb
 ·rw[e]at hb
  unfold frs at hb
  rw[List.filterMap_cons,hf]at hb
  exact hb
theorem Inv.Bx(I:Inv X pins σ H s):∀b∈frs X.stack,H b=none:=λb hb=>by
 rcases List.mem_cons.mp (I.yF b hb)with e|hb
 ·rw[e]; exact I.free
 ·obtain⟨_,o,ho,_⟩:=I.ok.lM.mem hb
  exact I.base.free b o ho (I.ok.tE b hb) λz=>I.ok.Bw b z hb
theorem Inv.step{g':Array GenState}{t':Nat}{d':Drawn}{ch:List Addr}(I:Inv X pins σ H s)
  (hch:∀b∈ch,(b∈X.ex\/X.s₀.heap.objs.size<=b)/\b≠X.env.locals/\(∀x c,X.env.cells.lookup x=some c->c≠b)/\∀p∈X.pn++pins,p.1≠b)
  (keep:∀b o,b≠X.env.locals->b∉X.fs->b∉ch->s.heap.get? b=some o->H b=none->h'.get? b=some o)
  (slot:∀b o,b≠X.env.locals->b∈X.fs->b∉ch->s.heap.get? b=some o->H b=none->∃sl,h'.get? b=some {o with slots:=sl }) (free:∀b o,b∉ch->s.heap.get? b=some o->H b=none->H' b=none)
  (there:∀b o,b∉ch->s.heap.get? b=some o->∃o',h'.get? b=some o')
  (tups:∀b xs,H b=some (.tup xs)->H' b=some (.tup xs)) (mK:∀b o u,H b=some (.ig o u)->H' b=some (.ig o u)) (mL:∀b ps,H b=some (.dM ps)->∃more,H' b=some (.dM (ps++more)))
  (ns:∀m,s.heap.Ns X.env.locals m->h'.Ns X.env.locals m) (hok:fJ X.prog X.w H' h') (hg:AllBare g') :
  Inv X pins σ H' {s with heap:=h',gens:=g',drawn:=d',toks:=t' }:=by
 have Px:∀b o,X.s₀.heap.get? b=some o->b≠X.env.locals:=λb o e=>Nat.ne_of_lt (Nat.lt_of_lt_of_le (Heap.lt_size e) I.ok.above)
 have BJ:∀b o,X.s₀.heap.get? b=some o->b∉X.ex->b∉ch:=λb o e hx hb=>by
  rcases(hch b hb).1 with z|z
  ·exact hx z
  ·exact absurd (Nat.lt_of_lt_of_le (Heap.lt_size e) z) (Nat.lt_irrefl _)
 have cellK:∀x c,X.env.cells.lookup x=some c->∀v,s.heap.IsCell c v->h'.IsCell c v:=λx c e v ⟨o,ho,hd⟩=>by
  have yG:c∉ch:=λz=>(hch c z).2.2.1 x c e rfl
  by_cases hc:c∈X.fs
  ·obtain⟨sl,q⟩:=slot c o (I.tG x c e) hc yG ho (I.mO x c e)
   exact⟨_,q,hd⟩
  ·exact⟨o,keep c o (I.tG x c e) hc yG ho (I.mO x c e),hd⟩
 refine⟨I.ok,I.os,hg,⟨λb o e n hb hx=>?_,λb o e n hb hx=>?_,λb o e n hx=>?_,λb o e hx=>?_,λb xs e=>tups b xs (I.base.tups b xs e),λb o xs e=>mK b o xs (I.base.mK b o xs e),λb ps e=>?_⟩,?_,λx c e=>?_,?_,λx c e=>?_,λp hp=>?_,hok,I.len⟩
 ·exact keep b o (Px b o e) hb (BJ b o e hx) (I.base.keep b o e n hb hx) (I.base.free b o e n hx)
 ·obtain⟨sl,e1⟩:=I.base.slot b o e n hb hx
  obtain⟨sl',e2⟩:=slot b _ (Px b o e) hb (BJ b o e hx) e1 (I.base.free b o e n hx)
  exact⟨sl',e2⟩
 ·obtain⟨o',e1⟩:=I.base.there b o e hx
  exact free b o' (BJ b o e hx) e1 (I.base.free b o e n hx)
 ·obtain⟨o',e1⟩:=I.base.there b o e hx
  exact there b o' (BJ b o e hx) e1
 ·obtain⟨m1,e1⟩:=I.base.mL b ps e
  obtain⟨m2,e2⟩:=mL b _ e1
  exact⟨m1++m2,by rw[e2,Array.append_assoc]⟩
 ·obtain⟨m,hn,hl⟩:=I.loc
  refine⟨m,ns m hn,λi x v e1 e2 e3=>?_⟩
  obtain⟨u,r,l⟩:=hl i x v e1 e2 e3
  refine⟨u,r,?_⟩
  rcases l with l|⟨k,c,e,z⟩
  ·exact .inl l
  ·exact .inr ⟨k,c,e,cellK x c e _ z⟩
 ·obtain⟨v,z⟩:=I.cell x c e
  exact⟨v,cellK x c e v z⟩
 ·obtain⟨m,⟨o,_,_,ho,_⟩,_⟩:=I.loc
  exact free _ o (λz=>(hch _ z).2.1 rfl) ho I.free
 ·obtain⟨v,o,ho,hd⟩:=I.cell x c e
  exact free c o (λz=>(hch c z).2.2.1 x c e rfl) ho (I.mO x c e)
 ·obtain⟨e,n,ne,nf,d⟩:=I.pin p hp
  have yG:p.1∉ch:=λz=>(hch p.1 z).2.2.2 p hp rfl
  exact⟨keep p.1 p.2 ne nf yG e n,free p.1 p.2 yG e n,ne,nf,d⟩
theorem Inv.un{t':Nat}(I:Inv X pins σ H s)(u:Un X.fs [] H H' s.heap h')(hok:fJ X.prog X.w H' h'):Inv X pins σ H' {s with heap:=h',toks:=t' }:=by
 obtain⟨m,⟨o,es,ep,ho,r⟩,_⟩:=id I.loc
 obtain⟨sl,hL⟩:=u.any ho I.free (by simp)
 exact I.step (g':=s.gens) (d':=s.drawn) (ch:=[]) (λ_ z=>nomatch z) (λb o _ hb _ e n=>u.keep b o e n hb (by simp)) (λb o _ hb _ e n=>u.slot b o e n hb (by simp)) (λb o _ e n=>u.free b o e n (by simp)) (λb o _ e=>u.there b o e (by simp)) u.tups u.mK u.mL (λm' hm=>by
  obtain⟨o',es',ep',ho',r'⟩:=hm
  rw[ho]at ho'; cases ho'
  exact⟨_,es',ep',hL,r'⟩) hok I.bare
theorem Inv.call{g':Array GenState}{t':Nat}{d':Drawn}{ch:List Addr}(I:Inv X pins σ H s)(u:Un (frs X.stack) ch H H' s.heap h')(hok:fJ X.prog X.w H' h')(hg:AllBare g')
  (hch:∀b∈ch,(b∈X.ex\/X.s₀.heap.objs.size<=b)/\b≠X.env.locals/\(∀x c,X.env.cells.lookup x=some c->c≠b)/\∀p∈X.pn++pins,p.1≠b) :
  Inv X pins σ H' {s with heap:=h',gens:=g',drawn:=d',toks:=t' }:=by
 obtain⟨m,⟨o,es,ep,ho,r⟩,_⟩:=id I.loc
 obtain⟨sl,hL⟩:=u.any ho I.free λz=>(hch _ z).2.1 rfl
 exact I.step (ch:=ch) hch (λb o hL hb hc e n=>u.keep b o e n (λz=>(List.mem_cons.mp (I.yF b z)).elim hL hb) hc) (λb o _ _ hc e n=>u.any e n hc) (λb o hc e n=>u.free b o e n hc) (λb o hc e=>u.there b o e hc) u.tups u.mK u.mL (λm' hm=>by
  obtain⟨o',es',ep',ho',r'⟩:=hm
  rw[ho]at ho'; cases ho'
  exact⟨_,es',ep',hL,r'⟩) hok hg
theorem Inv.turned{t':Nat}{it:Addr}(I:Inv X pins σ H s)(k:∀b o,b≠it->s.heap.get? b=some o->h'.get? b=some o)(hn:H it=none)(hL:it≠X.env.locals)
  (h1:it∈X.ex\/X.s₀.heap.objs.size<=it) (h2:∀x c,X.env.cells.lookup x=some c->c≠it) (h3:∀p∈X.pn++pins,p.1≠it):Inv X pins σ H {s with heap:=h',toks:=t' }:=by
 have Py:∀b u,H b=some u->b≠it:=λb u e z=>by rw[z,hn]at e; cases e
 refine I.step (g':=s.gens) (d':=s.drawn) (ch:=[it]) (λb hb=>?_) (λb o _ _ hc e _=>k b o (λz=>hc (by simp[z])) e) (λb o _ _ hc e _=>⟨o.slots,k b o (λz=>hc (by simp[z])) e⟩) (λ_ _ _ _ n=>n)
  (λb o hc e=>⟨o,k b o (λz=>hc (by simp[z])) e⟩) (λ_ _ e=>e) (λ_ _ _ e=>e) (λb ps e=>⟨#[],by rw[e]; simp⟩) (λm hm=>?_) (λb u e=>?_) I.bare
 ·have e:b=it:=by simpa using hb
  subst e
  exact⟨h1,hL,h2,h3⟩
 ·obtain⟨o,es,ep,ho,r⟩:=hm
  exact⟨o,es,ep,k _ o (Ne.symm hL) ho,r⟩
 ·refine(I.hok b u e).stay (λc v hc q=>k c v ?_ q) (λ_ q=>q) λ_ _ q=>q
  rcases hc with z|z
  ·rw[z]; exact Py b u e
  ·exact Py c _ z
theorem Inv.tok(I:Inv X pins σ H s)(t:Nat):Inv X pins σ H {s with toks:=t }:=I.un (h':=s.heap) (t':=t) Un.refl I.hok
theorem Inv.kept{t':Nat}(I:Inv X pins σ H s)(k:∀b u,s.heap.get? b=some u->h'.get? b=some u):Inv X pins σ H {s with heap:=h',toks:=t' }:=I.un (Un.kept k) (I.hok.kept k)
theorem Inv.laid{a:Addr}{o:HO}{t':Nat}(I:Inv X pins σ H s)(k:∀b u,s.heap.get? b=some u->h'.get? b=some u)(hp:s.heap.objs.size<=a)(new:jU X.prog X.w (upd H a o) h' a o) :
  Inv X pins σ (upd H a o) {s with heap:=h',toks:=t' }:=I.un (Un.laid k hp (I.hok.fresh hp)) (I.hok.laid k hp new)
theorem Inv.write{x e:Addr}{o:HO}{t':Nat}(I:Inv X pins σ H s)(mu:Bu (H x))(he:e=x\/H e=some (.own x))(k:∀b u,b≠e->s.heap.get? b=some u->h'.get? b=some u)(heo:∃u,h'.get? e=some u)
  (new:jU X.prog X.w (upd H x o) h' x o):Inv X pins σ (upd H x o) {s with heap:=h',toks:=t' }:=I.un (Un.write mu he k heo) (I.hok.write mu he k heo new)
theorem Inv.BK{n8:List (Addr × Obj)}(I:Inv X pins σ H s)(h:∀p∈n8,s.heap.get? p.1=some p.2/\H p.1=none/\p.1≠X.env.locals/\p.1∉X.fs/\∀v,p.2.data ≠ .cell v):Inv X n8 σ H s :=
 ⟨I.ok,I.os,I.bare,I.base,I.loc,I.cell,I.free,I.mO,λp hp=>(List.mem_append.mp hp).elim (λz=>I.pin p (List.mem_append_left _ z)) (h p),I.hok,I.len⟩
theorem Pz{N:List Str}(hN:N.Nodup){i j:Nat}{x:Str}(a:N[i]?=some x)(b:N[j]?=some x):i=j:=by
 obtain⟨h1,e1⟩:=List.getElem?_eq_some_iff.mp a
 obtain⟨h2,e2⟩:=List.getElem?_eq_some_iff.mp b
 exact(List.getElem_inj hN).mp (e1.trans e2.symm)
theorem Hh{M:Model}{A:Around}{E:Value->Shared->Prop}{i:Nat}{x:Str}{v:V}{u:Value}{Q:Unit->Shared->Prop}(I:Inv X pins σ H s)(hN:X.N.Nodup)(hi:X.N[i]?=some x)(hx:Loc X.env.scope x)(r:RelV v u)
  (h:∀s',Inv X pins (σ.set i (some v)) H s'->(∃a,Heap.SameBut a s.heap s'.heap/\(a=X.env.locals\/X.env.cells.lookup x=some a))->Q () s') (hf:X.fn x=true\/X.env.scope.names.lookup x=some .local:=by first|exact .inl rfl|exact .inr rfl|assumption):wpAny M A (storeName X.env x u) Q E s:=by
 obtain⟨m,hn,hl⟩:=id I.loc
 have hcls:(X.env.scope.kind == .class || (X.env.scope.kind == .module&&X.env.locals != X.env.globals))=false:=by rw[I.ok.kind]; rfl
 have PB:i < σ.length:=by rw[I.len]; exact(List.getElem?_eq_some_iff.mp hi).1
 have tG:=I.tG
 have tracked:∀{a:Addr} {h':Heap},(∃o,s.heap.get? a=some o/\H a=none)->Heap.SameBut a s.heap h'->fJ X.prog X.w H h':=λ{a h'} ha hs b ob e=>by
  obtain⟨_,_,hfree⟩:=ha
  refine(I.hok b ob e).stay (λc w' hc q=>(hs.2 c ?_).trans q) (λ_ q=>q) λ_ _ q=>q
  rintro rfl
  rcases hc with rfl|hc
  ·rw[hfree]at e; cases e
  ·rw[hfree]at hc; cases hc
 rcases hx with hk|hk
 ·refine wpAny_storeName_local hk hn (λh' hn' hs=>?_) hcls
  obtain⟨oL,_,_,hoL,_⟩:=id hn
  refine h _ ⟨I.ok,I.os,I.bare,⟨λb o e n hb hx=>?_,λb o e n hb hx=>?_,I.base.free,λb o e hx=>?_,I.base.tups,I.base.mK,I.base.mL⟩,⟨_,hn',λj y v' e1 e2 e3=>?_⟩,λy c e=>?_,I.free,I.mO,λp hp=>?_,tracked ⟨oL,hoL,I.free⟩ hs,by simpa using I.len⟩ ⟨_,hs,.inl rfl⟩
  ·exact(hs.2 b (Nat.ne_of_lt (Nat.lt_of_lt_of_le (Heap.lt_size e) I.ok.above))).trans (I.base.keep b o e n hb hx)
  ·obtain⟨sl,e1⟩:=I.base.slot b o e n hb hx
   exact⟨sl,(hs.2 b (Nat.ne_of_lt (Nat.lt_of_lt_of_le (Heap.lt_size e) I.ok.above))).trans e1⟩
  ·obtain⟨o',e1⟩:=I.base.there b o e hx
   exact⟨o',(hs.2 b (Nat.ne_of_lt (Nat.lt_of_lt_of_le (Heap.lt_size e) I.ok.above))).trans e1⟩
  ·by_cases hj:j=i
   ·subst hj
    rw[hi]at e1; cases e1
    rw[List.getElem?_set_self PB]at e2
    cases e2
    exact⟨u,r,.inl ⟨hk,by simp⟩⟩
   ·rw[List.getElem?_set_ne (Ne.symm hj)]at e2
    obtain⟨u',r',q⟩:=hl j y v' e1 e2 e3
    refine⟨u',r',?_⟩
    rcases q with⟨k,e⟩|⟨k,c,e,z⟩
    ·refine .inl ⟨k,?_⟩
     have:y≠x:=λe=>hj (Pz hN e1 (e▸hi))
     simp[this,e]
    ·exact .inr ⟨k,c,e,z.sameBut hs (tG y c e)⟩
  ·obtain⟨w',z⟩:=I.cell y c e
   exact⟨w',z.sameBut hs (tG y c e)⟩
  ·obtain⟨e,n,ne,nf,d⟩:=I.pin p hp
   exact⟨(hs.2 p.1 ne).trans e,n,ne,nf,d⟩
 ·have hfn:X.fn x=true:=by
   rcases hf with z|z
   ·exact z
   ·rw[z]at hk; cases hk
  obtain⟨c,hc⟩:=I.ok.has x (.inl hk)
  obtain⟨w',z⟩:=I.cell x c hc
  refine wpAny_storeName_cell I.ok.kind hk hc z (λh' hc' hs=>?_)
  obtain⟨oc,hoc,Zk⟩:=id z
  refine h {s with heap:=h' } ⟨I.ok,I.os,I.bare,⟨λb o e n hb hx=>?_,λb o e n hb hx=>?_,I.base.free,λb o e hx=>?_,I.base.tups,I.base.mK,I.base.mL⟩,⟨m,hn.sameBut hs (Ne.symm (tG x c hc)),λj y v' e1 e2 e3=>?_⟩,λy c' e=>?_,I.free,I.mO,λp hp=>?_,tracked ⟨oc,hoc,I.mO x c hc⟩ hs,by simpa using I.len⟩ ⟨c,hs,.inr hc⟩
  ·exact(hs.2 b (Nat.ne_of_lt (Nat.lt_of_lt_of_le (Heap.lt_size e) (I.ok.cab x c hfn hc)))).trans (I.base.keep b o e n hb hx)
  ·obtain⟨sl,e1⟩:=I.base.slot b o e n hb hx
   exact⟨sl,(hs.2 b (Nat.ne_of_lt (Nat.lt_of_lt_of_le (Heap.lt_size e) (I.ok.cab x c hfn hc)))).trans e1⟩
  ·obtain⟨o',e1⟩:=I.base.there b o e hx
   exact⟨o',(hs.2 b (Nat.ne_of_lt (Nat.lt_of_lt_of_le (Heap.lt_size e) (I.ok.cab x c hfn hc)))).trans e1⟩
  ·by_cases hj:j=i
   ·subst hj
    rw[hi]at e1; cases e1
    rw[List.getElem?_set_self PB]at e2
    cases e2
    exact⟨u,r,.inr ⟨.inl hk,c,hc,hc'⟩⟩
   ·rw[List.getElem?_set_ne (Ne.symm hj)]at e2
    obtain⟨u',r',q⟩:=hl j y v' e1 e2 e3
    refine⟨u',r',?_⟩
    rcases q with q|⟨k,c',e,z'⟩
    ·exact .inl q
    ·refine .inr ⟨k,c',e,z'.sameBut hs ?_⟩
     rintro rfl
     exact hj (Pz hN e1 (I.ok.inj _ _ _ e hc▸hi))
  ·by_cases hcc:c'=c
   ·subst hcc; exact⟨_,hc'⟩
   ·obtain⟨w2,z2⟩:=I.cell y c' e
    exact⟨w2,z2.sameBut hs hcc⟩
  ·obtain⟨e,n,ne,nf,d⟩:=I.pin p hp
   refine⟨(hs.2 p.1 ?_).trans e,n,ne,nf,d⟩
   intro q
   rw[q,hoc]at e
   have q':oc=p.2:=Option.some.inj e
   exact d w' (by rw[<-q']; exact Zk)
theorem BL{M:Model}{A:Around}{E:Value->Shared->Prop}{i:Nat}{x:Str}{v:V}{u:Value}{Q:Unit->Shared->Prop}(I:Inv X pins σ H s)(hN:X.N.Nodup)(hi:X.N[i]?=some x)(hx:Loc X.env.scope x)(r:RelV v u)
  (h:∀s',Inv X pins (σ.set i (some v)) H s'->Q () s') (hf:X.fn x=true\/X.env.scope.names.lookup x=some .local:=by first|exact .inl rfl|exact .inr rfl|assumption):wpAny M A (storeName X.env x u) Q E s :=
 Hh I hN hi hx r (λs' I' _=>h s' I') hf
theorem Inv.call'{s':Shared}{ch:List Addr}(I:Inv X pins σ H s)(ho:s'.os=s.os)(u:Un (frs X.stack) ch H H' s.heap s'.heap)(hok:fJ X.prog X.w H' s'.heap)(hg:AllBare s'.gens)
  (hch:∀b∈ch,(b∈X.ex\/X.s₀.heap.objs.size<=b)/\b≠X.env.locals/\(∀x c,X.env.cells.lookup x=some c->c≠b)/\∀p∈X.pn++pins,p.1≠b):Inv X pins σ H' s':=by
 obtain⟨h',g',d',t',o'⟩:=s'
 have e:o'=s.os:=ho
 subst e
 exact I.call (g':=g') (t':=t') (d':=d') u hok hg hch
end
abbrev XK:=Value->Option Addr->Hp->Prop
abbrev St:=List (Option V)
abbrev VK:=V->Hp->Prop
abbrev TE:=St->Hp->VK->Prop
abbrev TT:=St->Hp->(Bool->Hp->Prop)->Prop
abbrev TA:=St->Hp->(List V->Hp->Prop)->Prop
structure Ends where
 nx:St->Hp->Prop
 rt:VK
 bk:St->Hp->Prop:=λ_ _=>False
 ct:St->Hp->Prop:=λ_ _=>False
abbrev TS:=Ends->St->Hp->Prop
def EP(X:Cx)(pins:List (Addr × Obj))(σ : St)(Q:VK)(u:Value)(s':Shared):Prop:=∃v H',Inv X pins σ H' s'/\RelV v u/\Q v H'
def TP(X:Cx)(pins:List (Addr × Obj))(σ : St)(Q:Bool->Hp->Prop)(b:Bool)(s':Shared):Prop:=∃H',Inv X pins σ H' s'/\Q b H'
def AP(X:Cx)(pins:List (Addr × Obj))(σ : St)(Q:List V->Hp->Prop)(us:List Value)(s':Shared):Prop:=∃vs H',Inv X pins σ H' s'/\Vals vs us/\Q vs H'
noncomputable def SP(X:Cx)(pins:List (Addr × Obj))(D:Ends)(f:Flow)(s':Shared):Prop :=
 match f with
 |.next=>∃σ' H',Inv X pins σ' H' s'/\D.nx σ' H'
 |.brk=>∃σ' H',Inv X pins σ' H' s'/\D.bk σ' H'
 |.cont=>∃σ' H',Inv X pins σ' H' s'/\D.ct σ' H'
 |.ret u=>∃v σ' H',Inv X pins σ' H' s'/\RelV v u/\D.rt v H'
structure PE(X:Cx)(e:Expr)(t:TE):Prop where
 run:∀(pins:List (Addr × Obj)) (s:Shared) (σ : St) (H:Hp) (Q:VK),Inv X pins σ H s->t σ H Q->wpAny (model X.prog X.w) X.A (eval e X.env) (EP X pins σ Q) X.xe s
instance {X:Cx}{e:Expr}{t:TE}:CoeFun (PE X e t) λ_=>∀(pins:List (Addr × Obj)) (s:Shared) (σ : St) (H:Hp) (Q:VK),Inv X pins σ H s->t σ H Q->wpAny (model X.prog X.w) X.A (eval e X.env) (EP X pins σ Q) X.xe s:=⟨PE.run⟩
structure PT(X:Cx)(e:Expr)(t:TT):Prop where
 run:∀(pins:List (Addr × Obj)) (s:Shared) (σ : St) (H:Hp) (Q:Bool->Hp->Prop),Inv X pins σ H s->t σ H Q->wpAny (model X.prog X.w) X.A (isTrue e X.env (eval e X.env)) (TP X pins σ Q) X.xe s
instance {X:Cx}{e:Expr}{t:TT}:CoeFun (PT X e t) λ_=>∀(pins:List (Addr × Obj)) (s:Shared) (σ : St) (H:Hp) (Q:Bool->Hp->Prop),Inv X pins σ H s->t σ H Q->wpAny (model X.prog X.w) X.A (isTrue e X.env (eval e X.env)) (TP X pins σ Q) X.xe s:=⟨PT.run⟩
structure PW(X:Cx)(e:Expr)(t:TT):Prop where
 run:∀(whole:Sem Value) (pins:List (Addr × Obj)) (s:Shared) (σ : St) (H:Hp) (Q:Bool->Hp->Prop),Inv X pins σ H s->t σ H Q->wpAny (model X.prog X.w) X.A (isTrue e X.env whole) (TP X pins σ Q) X.xe s
noncomputable instance {X:Cx}{e:Expr}{t:TT}:CoeFun (PW X e t) λ_=>∀(whole:Sem Value) (pins:List (Addr × Obj)) (s:Shared) (σ : St) (H:Hp) (Q:Bool->Hp->Prop),Inv X pins σ H s->t σ H Q->wpAny (model X.prog X.w) X.A (isTrue e X.env whole) (TP X pins σ Q) X.xe s:=⟨PW.run⟩
theorem PW.pt{X:Cx}{e:Expr}{t:TT}(h:PW X e t):PT X e t:=⟨h.run _⟩
structure PA(X:Cx)(es:List Expr)(t:TA):Prop where
 run:∀(pos:Pos) (pins:List (Addr × Obj)) (s:Shared) (σ : St) (H:Hp) (Q:List V->Hp->Prop),Inv X pins σ H s->t σ H Q->wpAny (model X.prog X.w) X.A (spliced (backTo pos (starEach es X.env))) (AP X pins σ Q) X.xe s
noncomputable instance {X:Cx}{es:List Expr}{t:TA}:CoeFun (PA X es t) λ_=>∀(pos:Pos) (pins:List (Addr × Obj)) (s:Shared) (σ : St) (H:Hp) (Q:List V->Hp->Prop),Inv X pins σ H s->t σ H Q->wpAny (model X.prog X.w) X.A (spliced (backTo pos (starEach es X.env))) (AP X pins σ Q) X.xe s:=⟨PA.run⟩
structure PS(X:Cx)(st:Stmt)(t:TS):Prop where
 run:∀(pins:List (Addr × Obj)) (s:Shared) (σ : St) (H:Hp) (D:Ends),Inv X pins σ H s->t D σ H->wpAny (model X.prog X.w) X.A (exec st X.env) (SP X pins D) X.xe s
instance {X:Cx}{st:Stmt}{t:TS}:CoeFun (PS X st t) λ_=>∀(pins:List (Addr × Obj)) (s:Shared) (σ : St) (H:Hp) (D:Ends),Inv X pins σ H s->t D σ H->wpAny (model X.prog X.w) X.A (exec st X.env) (SP X pins D) X.xe s:=⟨PS.run⟩
structure jo(X:Cx)(st:List Stmt)(t:TS):Prop where
 run:∀(pins:List (Addr × Obj)) (s:Shared) (σ : St) (H:Hp) (D:Ends),Inv X pins σ H s->t D σ H->wpAny (model X.prog X.w) X.A (execs st X.env) (SP X pins D) X.xe s
instance {X:Cx}{st:List Stmt}{t:TS}:CoeFun (jo X st t) λ_=>∀(pins:List (Addr × Obj)) (s:Shared) (σ : St) (H:Hp) (D:Ends),Inv X pins σ H s->t D σ H->wpAny (model X.prog X.w) X.A (execs st X.env) (SP X pins D) X.xe s:=⟨jo.run⟩
theorem bH{α : Type}{t:Sem α}{Q Q' : α -> Shared->Prop}{M:Model}{A:Around}{E:Value->Shared->Prop}{s:Shared}(h:wpAny M A t Q E s)(hQ:∀a s,Q a s->Q' a s):wpAny M A t Q' E s:=wpAny_mono h hQ λ_ _ x=>x
end L2
namespace L2
open PySem PySem.Spec PyProof.Rows
section
variable {X:Cx}
def jW(i:Nat):TE:=λσ H Q=>∃v,σ[i]?=some (some v)/\Q v H
def tC(v:V):TE:=λ_ H Q=>Q v H
theorem Hi{i:Nat}{x:Str}{pos:Pos}(hN:X.N[i]?=some x)(hv:Pq X.env.scope x)(hd:(x == ("__debug__" : Str))=false:=by decide) (hcd:(x == ("__classdict__" : Str))=false:=by decide):PE X (.Name x pos) (jW i):=by
 refine⟨λpins s σ H Q I h=>?_⟩
 obtain⟨v,e,h⟩:=h
 obtain⟨m,hn,hl⟩:=I.loc
 obtain⟨u,r,l⟩:=hl i x v hN e hv
 have fin:EP X pins σ Q u s:=⟨v,H,I,r,h⟩
 rcases l with⟨hk,hm⟩|⟨hk,c,hc,hcell⟩
 ·exact wpAny_Name (wpAny_loadName_local I.ok.kind hk hn hm fin) hd
 ·rcases hk with hk|hk
  ·exact wpAny_Name (wpAny_loadName_cell I.ok.kind hk hc hcell fin) hd
  ·exact wpAny_Name (wpAny_loadName_free I.ok.kind hk hc hcell fin hcd) hd
theorem aL{i j pos}:PE X (.Constant (.int i) j pos) (tC (.int i)):=⟨λ_ _ _ H _ I h=>wpAny_Constant_int ⟨.int i,H,I.tok _,⟨_,rfl⟩,h⟩⟩
theorem iU{b j pos}:PE X (.Constant (.bool b) j pos) (tC (.bl b)):=⟨λ_ _ _ H _ I h=>Constant_bool ⟨.bl b,H,I,rfl,h⟩⟩
theorem Zm{j pos}:PE X (.Constant .none j pos) (tC .non):=⟨λ_ _ _ H _ I h=>Constant_none ⟨.non,H,I,rfl,h⟩⟩
theorem iu{x j pos}:PE X (.Constant (.str x) j pos) (tC (.str x)):=⟨λ_ _ _ H _ I h=>Calls.Constant_str ⟨.str x,H,I.tok _,⟨_,rfl⟩,h⟩⟩
def Gl(X:Cx)(x:Str):Prop:=X.env.kindOf x=some .globalImplicit
theorem Hj{E:Value->Shared->Prop}{pins:List (Addr × Obj)}{s:Shared}{σ : St}{H:Hp}{x:Str}{u:Value}{pos:Pos}{Q:Value->Shared->Prop}(I:Inv X pins σ H s)(hg:Gl X x)(hm:X.mg x=some u)(h:Q u s)
  (hd:(x == ("__debug__" : Str))=false:=by decide):wpAny (model X.prog X.w) X.A (eval (.Name x pos) X.env) Q E s :=
 Calls.Name_function_global I.ok.kind hg (Calls.loadGlobal_global (by rw[I.ok.glob]; exact I.mod.glob.keeps I.bk) hm h) hd
theorem tH{E:Value->Shared->Prop}{pins:List (Addr × Obj)}{s:Shared}{σ : St}{H:Hp}{x:Str}{u:Value}{pos:Pos}{Q:Value->Shared->Prop}(I:Inv X pins σ H s)(hg:Gl X x)(hm:X.mg x=none)(hv:bootBuiltins x=some u)(h:Q u s)
  (hn:x ≠ "__name__" := by decide) (hd:(x == ("__debug__" : Str))=false:=by decide):wpAny (model X.prog X.w) X.A (eval (.Name x pos) X.env) Q E s:=by
 obtain⟨mb,h1,h2⟩:=I.mod.blt
 exact Calls.Name_function_global I.ok.kind hg (Calls.loadGlobal_builtin (by rw[I.ok.glob]; exact I.mod.glob.keeps I.bk) hm (by rw[I.ok.blt]; exact h1.keeps I.bk) ((h2 x hn).trans hv) h) hd
theorem Zn{x:Str}{v:V}{u:Value}{pos:Pos}(hg:Gl X x)(hm:X.mg x=some u)(r:RelV v u)(hd:(x == ("__debug__" : Str))=false:=by decide):PE X (.Name x pos) (tC v) :=
 ⟨λ_ _ _ H _ I h=>Hj I hg hm ⟨v,H,I,r,h⟩ hd⟩
theorem Zo{x:Str}{v:V}{u:Value}{pos:Pos}(hg:Gl X x)(hm:X.mg x=none)(hv:bootBuiltins x=some u)(r:RelV v u)(hn:x ≠ "__name__" := by decide) (hd:(x == ("__debug__" : Str))=false:=by decide):PE X (.Name x pos) (tC v) :=
 ⟨λ_ _ _ H _ I h=>tH I hg hm hv ⟨v,H,I,r,h⟩ hn hd⟩
variable {a b:Expr}{ta tb:TE}{pos:Pos}
variable {tA iw:TT}{rest:List Expr}
def PJ(t u:TT):TT:=λσ H Q=>t σ H λc H1=>if c=true then u σ H1 Q else Q false H1
def PK(t u:TT):TT:=λσ H Q=>t σ H λc H1=>if c=true then Q true H1 else u σ H1 Q
def PL(t:TT):TT:=λσ H Q=>t σ H λc H1=>Q (!c) H1
theorem BP(ha:PT X a tA):PW X (.BoolOp .And [a] pos) tA:=by
 refine⟨λwh pins s σ H Q I h=>?_⟩
 refine isTrue_and (bH (ha pins s σ H Q I h) λc s1 e=>?_)
 cases c with
 |true=>exact isTrue_and_nil e
 |false=>exact e
theorem mQ(ha:PT X a tA):PW X (.BoolOp .Or [a] pos) tA:=by
 refine⟨λwh pins s σ H Q I h=>?_⟩
 refine isTrue_or (bH (ha pins s σ H Q I h) λc s1 e=>?_)
 cases c with
 |false=>exact isTrue_or_nil e
 |true=>exact e
theorem BR(ha:PT X a tA)(hb:PW X (.BoolOp .And (b::rest) pos) iw):PW X (.BoolOp .And (a::b::rest) pos) (PJ tA iw):=by
 refine⟨λwh pins s σ H Q I h=>?_⟩
 refine isTrue_and (bH (ha pins s σ H _ I h) λc s1 ⟨H1,I1,q1⟩=>?_)
 cases c with
 |true=>exact hb wh pins s1 σ H1 Q I1 q1
 |false=>exact⟨H1,I1,q1⟩
theorem jX(ha:PT X a tA)(hb:PW X (.BoolOp .Or (b::rest) pos) iw):PW X (.BoolOp .Or (a::b::rest) pos) (PK tA iw):=by
 refine⟨λwh pins s σ H Q I h=>?_⟩
 refine isTrue_or (bH (ha pins s σ H _ I h) λc s1 ⟨H1,I1,q1⟩=>?_)
 cases c with
 |true=>exact⟨H1,I1,q1⟩
 |false=>exact hb wh pins s1 σ H1 Q I1 q1
theorem gk(ha:PT X a tA):PT X (.UnaryOp .Not a pos) (PL tA):=by
 refine⟨λpins s σ H Q I h=>?_⟩
 exact isTrue_not (ha pins s σ H (λc H1=>Q (!c) H1) I h)
def PN(ta tb:TE):TE:=λσ H Q=>ta σ H λx H1=>∃c,x=.bl c/\if c=true then tb σ H1 Q else Q (.bl false) H1
def PX(ta:TE):TE:=λσ H Q=>ta σ H λx H1=>∃c,x=.bl c/\Q (.bl (!c)) H1
theorem qZ{op}{t:TE}(h:PE X a t):PE X (.BoolOp op [a] pos) t:=⟨λpins s σ H Q I hw=>BoolOp_one (h pins s σ H Q I hw)⟩
theorem pP(ha:PE X a ta)(hb:PE X (.BoolOp .And (b::rest) pos) tb):PE X (.BoolOp .And (a::b::rest) pos) (PN ta tb):=by
 refine⟨λpins s σ H Q I h=>?_⟩
 refine BoolOp_and (bH (ha pins s σ H _ I h) λv s1 ⟨x,H1,I1,r1,q1⟩=>?_)
 obtain⟨c,rfl,q1⟩:=q1
 cases r1
 refine wpAny_truthy_bool ?_
 cases c with
 |true=>exact hb pins s1 σ H1 Q I1 q1
 |false=>exact⟨.bl false,H1,I1,rfl,q1⟩
theorem Zq(ha:PE X a ta):PE X (.UnaryOp .Not a pos) (PX ta):=by
 refine⟨λpins s σ H Q I h=>?_⟩
 refine UnaryOp_ (bH (ha pins s σ H _ I h) λv s1 ⟨x,H1,I1,r1,q1⟩=>?_)
 obtain⟨c,rfl,q1⟩:=q1
 cases r1
 exact not_of (wpAny_truthy_bool ⟨.bl (!c),H1,I1,rfl,q1⟩)
def Qa(t:TT)(ta tb:TE):TE:=λσ H Q=>t σ H λc H1=>if c=true then ta σ H1 Q else tb σ H1 Q
theorem Qc{c:Expr}(hc:PT X c tA)(ha:PE X a ta)(hb:PE X b tb):PE X (.IfExp c a b pos) (Qa tA ta tb):=by
 refine⟨λpins s σ H Q I h=>?_⟩
 refine wpAny_IfExp (bH (hc pins s σ H _ I h) λd s1 ⟨H1,I1,q1⟩=>?_)
 cases d with
 |true=>exact ha pins s1 σ H1 Q I1 q1
 |false=>exact hb pins s1 σ H1 Q I1 q1
end
end L2
namespace L2
open PySem PySem.Spec PyProof.Rows
def cJ(K:FZ)(H:Hp)(a:Addr)(xs:List V):Prop :=
 Rd H a (.lst xs) \/
  ∃(o:Obj) (its:Array Value) (n:Nat),K.lookup a=some o/\o.cls=.type "list" /\ o.dict=none/\o.data=.seq its n/\its.size<=sizeLine/\Vals xs its.toList
def dN(K:FZ)(H:Hp)(a:Addr)(xs:List V):Prop :=
 Rd H a (.tup xs) \/
  ∃(o:Obj) (its:Array Value) (n:Nat),K.lookup a=some o/\o.cls=.type "tuple" /\ o.data=.seq its n/\its.size<=sizeLine/\Vals xs its.toList
def Zr:Value->Option V
 |.none=>some .non
 |.bool b=>some (.bl b)
 |.int i _=>some (.int i)
 |.str x _=>some (.str x)
 |.bytes b _=>some (.yE b)
 |.float b _=>some (.flt b)
 |.ref a=>some (.ref a)
 |.type n=>some (.ty n)
 |_=>none
theorem RelV.abs{x:V}{u:Value}(r:RelV x u):Zr u=some x:=by
 cases x with
 |non=>cases r; rfl
 |bl _=>cases r; rfl
 |int _=>obtain⟨t,rfl⟩:=r; rfl
 |str _=>obtain⟨t,rfl⟩:=r; rfl
 |yE _=>obtain⟨t,rfl⟩:=r; rfl
 |flt _=>obtain⟨t,rfl⟩:=r; rfl
 |ref _=>cases r; rfl
 |ty _=>cases r; rfl
theorem RelV.inj{x y:V}{u:Value}(r:RelV x u)(q:RelV y u):x=y:=Option.some.inj (r.abs.symm.trans q.abs)
theorem Vals.inj:∀{xs ys:List V} {us:List Value},Vals xs us->Vals ys us->xs=ys
 |_,_,_,.nil,.nil=>rfl
 |_,_,_,.cons r t,.cons r' t'=>by rw[r.inj r',Vals.inj t t']
section
variable {X:Cx}{pins:List (Addr × Obj)}{σ : St}{H:Hp}{s:Shared}{a:Addr}{xs ys:List V}
theorem cJ.of{K:FZ}(h:H a=some (.lst xs)):cJ K H a xs:=.inl (.inl h)
theorem dN.of{K:FZ}(h:H a=some (.tup xs)):dN K H a xs:=.inl (.inl h)
theorem Inv.list(I:Inv X pins σ H s)(h:cJ X.K H a xs):∃its:List Value,Vals xs its/\PlainL s.heap a its.toArray/\xs.length<=sizeLine:=by
 rcases h with h|⟨o,its,n,hk,hc,hd,hs,hz,r⟩
 ·obtain⟨z,its,n,r,e⟩:=h.ok I.hok
  exact⟨its,r,⟨_,n,e,rfl,rfl,rfl⟩,z⟩
 ·refine⟨its.toList,r,⟨o,n,I.jV a o hk,hc,hd,by simpa using hs⟩,?_⟩
  have e:=r.length
  simp only[Array.length_toList]at e
  omega
theorem Inv.tuple(I:Inv X pins σ H s)(h:dN X.K H a xs):∃its:List Value,Vals xs its/\IsTup s.heap a its.toArray/\xs.length<=sizeLine:=by
 rcases h with h|⟨o,its,n,hk,hc,hs,hz,r⟩
 ·obtain⟨z,its,r,p⟩:=h.ok I.hok
  exact⟨its,r,p,z⟩
 ·refine⟨its.toList,r,⟨o,I.jV a o hk,hc,n,by simpa using hs⟩,?_⟩
  have e:=r.length
  simp only[Array.length_toList]at e
  omega
theorem Inv.BW(I:Inv X pins σ H s)(h:cJ X.K H a xs)(h':cJ X.K H a ys):xs=ys:=by
 obtain⟨its,r,⟨o,n,e,_,_,d⟩,_⟩:=I.list h
 obtain⟨its',r',⟨o',n',e',_,_,d'⟩,_⟩:=I.list h'
 rw[e]at e'; cases e'
 rw[d]at d'
 injection d' with d1 _
 have:its=its':=by simpa using congrArg Array.toList d1
 subst this
 exact r.inj r'
theorem Inv.Qd(I:Inv X pins σ H s)(h:dN X.K H a xs)(h':dN X.K H a ys):xs=ys:=by
 obtain⟨its,r,⟨o,e,_,n,d⟩,_⟩:=I.tuple h
 obtain⟨its',r',⟨o',e',_,n',d'⟩,_⟩:=I.tuple h'
 rw[e]at e'; cases e'
 rw[d]at d'
 injection d' with d1 _
 have:its=its':=by simpa using congrArg Array.toList d1
 subst this
 exact r.inj r'
end
abbrev Cx.wish(X:Cx)(E:Value->Shared->Prop):Cx:={X with xe:=E }
abbrev Cx.jg(X:Cx):Cx:=X.wish λ_ _=>False
theorem Cx.Ok.wish{X:Cx}(ok:X.Ok)(E:Value->Shared->Prop):(X.wish E).Ok :=
 ⟨ok.mod,ok.kind,ok.glob,ok.blt,ok.above,ok.inj,ok.has,ok.cab,ok.hd,ok.frames,ok.stk,ok.Pu,ok.bs,ok.qY,ok.jK,ok.Bw,ok.lM,ok.tE⟩
theorem Cx.Ok.rB{X:Cx}{E:Value->Shared->Prop}(ok:(X.wish E).Ok):X.Ok :=
 ⟨ok.mod,ok.kind,ok.glob,ok.blt,ok.above,ok.inj,ok.has,ok.cab,ok.hd,ok.frames,ok.stk,ok.Pu,ok.bs,ok.qY,ok.jK,ok.Bw,ok.lM,ok.tE⟩
section
variable {X:Cx}{pins:List (Addr × Obj)}{σ : St}{H:Hp}{s:Shared}{E:Value->Shared->Prop}
theorem Inv.wish(I:Inv X pins σ H s)(E:Value->Shared->Prop):Inv (X.wish E) pins σ H s:=⟨I.ok.wish E,I.os,I.bare,I.base,I.loc,I.cell,I.free,I.mO,I.pin,I.hok,I.len⟩
theorem Inv.rB(I:Inv (X.wish E) pins σ H s):Inv X pins σ H s:=⟨I.ok.rB,I.os,I.bare,I.base,I.loc,I.cell,I.free,I.mO,I.pin,I.hok,I.len⟩
theorem SP.rB{D:Ends}{f:Flow}{s':Shared}(h:SP (X.wish E) pins D f s'):SP X pins D f s':=by
 cases f with
 |next=>obtain⟨σ',H',I,q⟩:=h; exact⟨σ',H',I.rB,q⟩
 |brk=>obtain⟨σ',H',I,q⟩:=h; exact⟨σ',H',I.rB,q⟩
 |cont=>obtain⟨σ',H',I,q⟩:=h; exact⟨σ',H',I.rB,q⟩
 |ret u=>obtain⟨v,σ',H',I,r,q⟩:=h; exact⟨v,σ',H',I.rB,r,q⟩
end
section
variable {X:Cx}{st:Stmt}{rest:List Stmt}{t u:TS}{e:Expr}{te:TE}{pos:Pos}
def Qe:TS:=λD σ H=>D.nx σ H
def Qf(t u:TS):TS:=λD σ H=>t {D with nx:=u D } σ H
theorem c7:jo X [] Qe:=⟨λ_ _ σ H _ I h=>wpAny_execs_nil ⟨σ,H,I,h⟩⟩
theorem bf(h1:PS X st t)(h2:jo X rest u):jo X (st::rest) (Qf t u):=by
 refine⟨λpins s σ H D I h=>?_⟩
 refine wpAny_execs_cons (bH (h1 pins s σ H {D with nx:=u D } I h) λf s1 q=>?_)
 cases f with
 |next =>
  obtain⟨σ',H',I',q⟩:=q
  exact h2 pins s1 σ' H' D I' q
 |ret v=>exact q
 |brk=>exact q
 |cont=>exact q
theorem aZ(h1:PS X st t):jo X [st] t:=by
 refine⟨λpins s σ H D I h=>?_⟩
 refine wpAny_execs_cons (bH (h1 pins s σ H D I h) λf s1 q=>?_)
 cases f with
 |next=>exact wpAny_execs_nil q
 |ret v=>exact q
 |brk=>exact q
 |cont=>exact q
theorem Inv.quiet{pins:List (Addr × Obj)}{σ : St}{H:Hp}{s:Shared}(I:Inv X pins σ H s):interactive X.env=false:=by simp[interactive,I.ok.kind]
def Hl(te:TE):TS:=λD σ H=>te σ H λ_ H1=>D.nx σ H1
theorem Zt(he:PE X e te)(hs:swapsWith e none pos.line X.env=pure false:=by rfl):PS X (.Expr e pos) (Hl te):=by
 refine⟨λpins s σ H D I h=>?_⟩
 exact wpAny_Expr_any (bH (he pins s σ H _ I h) λv s1 ⟨x,H1,I1,r1,q1⟩=>⟨σ,H1,I1,q1⟩) I.quiet hs
def Qg(te:TE):TS:=λD σ H=>te σ H D.rt
theorem bJ(he:PE X e te):PS X (.Return (some e) pos) (Qg te):=by
 refine⟨λpins s σ H D I h=>?_⟩
 exact wpAny_Return_some (bH (he pins s σ H _ I h) λv s1 ⟨x,H1,I1,r1,q1⟩=>⟨x,σ,H1,I1,r1,q1⟩)
def Qh(c:TT)(t u:TS):TS:=λD σ H=>c σ H λb H1=>if b=true then t D σ H1 else u D σ H1
theorem dg{c:Expr}{a b:List Stmt}{tc:TT}(hc:PT X c tc)(ha:jo X a t)(hb:jo X b u):PS X (.If c a b pos) (Qh tc t u):=by
 refine⟨λpins s σ H D I h=>?_⟩
 refine wpAny_If (bH (hc pins s σ H _ I h) λd s1 ⟨H1,I1,q1⟩=>?_)
 cases d with
 |true=>exact ha pins s1 σ H1 D I1 q1
 |false=>exact hb pins s1 σ H1 D I1 q1
end
abbrev TG:=V->St->Hp->(St->Hp->Prop)->Prop
abbrev oh:=List V->St->Hp->(St->Hp->Prop)->Prop
noncomputable def PG(X:Cx)(target:Expr)(t:TG):Prop :=
 ∀(pins:List (Addr × Obj)) (s:Shared) (σ : St) (H:Hp) (v:V) (u:Value) (Q:St->Hp->Prop),Inv X pins σ H s->RelV v u->t v σ H Q ->
  wpAny (model X.prog X.w) X.A (assign target X.env u) (λ_ s'=>∃σ' H',Inv X pins σ' H' s'/\Q σ' H') X.xe s
noncomputable def BX(X:Cx)(ts:List Expr)(t:oh):Prop :=
 ∀(pins:List (Addr × Obj)) (s:Shared) (σ : St) (H:Hp) (vs:List V) (us:List Value) (Q:St->Hp->Prop),Inv X pins σ H s->Vals vs us->t vs σ H Q ->
  wpAny (model X.prog X.w) X.A (assignInOrder ((assignEach ts X.env).map (·.2)) us) (λ_ s'=>∃σ' H',Inv X pins σ' H' s'/\Q σ' H') X.xe s
abbrev Ho:=V->V->V->Hp->(Hp->Prop)->Prop
noncomputable def Qi(X:Cx)(t:Ho):Prop :=
 ∀(pins:List (Addr × Obj)) (s:Shared) (σ : St) (H:Hp) (o i v:V) (ov iv u:Value) (Q:Hp->Prop),Inv X pins σ H s->RelV o ov->RelV i iv->RelV v u->t o i v H Q ->
  wpAny (model X.prog X.w) X.A (setItem ov iv u) (λ_ s'=>∃H',Inv X pins σ H' s'/\Q H') X.xe s
section
variable {X:Cx}{pos:Pos}
def dW(i:Nat):TG:=λv σ H Q=>Q (σ.set i (some v)) H
theorem Qj{i:Nat}{x:Str}(hN:X.N.Nodup)(hi:X.N[i]?=some x)(hx:Loc X.env.scope x)(hf:X.fn x=true\/X.env.scope.names.lookup x=some .local:=by first|exact .inl rfl|exact .inr rfl|assumption):PG X (.Name x pos) (dW i):=by
 intro pins s σ H v u Q I r h
 exact wpAny_assign_Name (BL I hN hi hx r (λs' I'=>⟨_,H,I',h⟩) hf)
def vO:oh:=λvs σ H Q=>vs=[]/\Q σ H
def oA(t:TG)(u:oh):oh:=λvs σ H Q=>∃v r,vs=v::r/\t v σ H λσ' H'=>u r σ' H' Q
theorem mR:BX X [] vO:=by
 intro pins s σ H vs us Q I r h
 obtain⟨e,h⟩:=h
 subst e
 cases r
 exact assignInOrder_nil ⟨σ,H,I,h⟩
theorem gG{e:Expr}{es:List Expr}{t:TG}{u:oh}(h1:PG X e t)(h2:BX X es u)
  (hs:(assignEach (e::es) X.env).map (·.2)=assign e X.env::(assignEach es X.env).map (·.2):=by rfl):BX X (e::es) (oA t u):=by
 intro pins s σ H vs us Q I r h
 obtain⟨v,vr,e1,h⟩:=h
 subst e1
 cases r with
 |cons r rr =>
  rw[hs]
  refine assignInOrder_cons (bH (h1 pins s σ H _ _ _ I r h) λ_ s1 ⟨σ1,H1,I1,q1⟩=>?_)
  exact h2 pins s1 σ1 H1 _ _ Q I1 rr q1
def vP(K:FZ)(n:Nat)(t:oh):TG:=λv σ H Q=>∃a xs,v=.ref a/\dN K H a xs/\xs.length=n/\t xs σ H Q
theorem mU{es:List Expr}{k:Nat}{t:oh}{n:Nat}(hc:X.calm=true)(h:BX X es t)
  (hn:(assignEach es X.env).length=n:=by rfl) (hst:(assignEach es X.env).findIdx? (·.1)=none:=by rfl):PG X (.Tuple es k pos) (vP X.K n t):=by
 intro pins s σ H v u Q I r hw
 obtain⟨a,xs,e1,hq,hl,hw⟩:=hw
 subst e1
 cases r
 obtain⟨its,rv,ht,hz⟩:=I.tuple hq
 refine assign_Tuple_tuple (I.ok.hd hc) ht (by simp[hn,<-hl,rv.length]) hst λh' hx=>?_
 have I1:Inv X pins σ H {s with heap:=h' }:=I.kept (t':=s.toks) λb o e=>hx b o (Nat.ne_of_lt (Heap.lt_size e)) e
 exact h pins _ σ H xs _ Q I1 (by simpa using rv) hw
def Hq(to ti:TE)(t:Ho):TG:=λv σ H Q=>to σ H λo H1=>ti σ H1 λi H2=>t o i v H2 λH3=>Q σ H3
theorem Hr{o i:Expr}{to ti:TE}{t:Ho}(ho:PE X o to)(hi:PE X i ti)(hs:Qi X t)
  (ha:∀v,assign (.Subscript o i pos) X.env v=(do
   let ov <-holding [v] (eval o X.env)
   let iv <-holding [v,ov] (eval i X.env)
   standAt pos
   holding [v,ov,iv] (setItem ov iv v)
   release [v,ov,iv] []):=by intro _; rfl):PG X (.Subscript o i pos) (Hq to ti t):=by
 intro pins s σ H v u Q I r h
 rw[ha]
 refine wpAny_bind (wpAny_holding (bH (ho pins s σ H _ I h) λov s1 ⟨x,H1,I1,r1,q1⟩=>?_))
 refine wpAny_bind (wpAny_holding (bH (hi pins s1 σ H1 _ I1 q1) λiv s2 ⟨y,H2,I2,r2,q2⟩=>?_))
 refine wpAny_bind (wpAny_standAt (wpAny_bind (wpAny_holding (bH (hs pins s2 σ H2 x y v ov iv u _ I2 r1 r2 r q2) λ_ s3 ⟨H3,I3,q3⟩=>?_))))
 exact wpAny_release ⟨σ,H3,I3,q3⟩
def lN(te:TE)(g:TG):TS:=λD σ H=>te σ H λx H1=>g x σ H1 D.nx
theorem vQ{tg e:Expr}{te:TE}{g:TG}(he:PE X e te)(hg:PG X tg g)(hs:swapsWithSole [tg] e pos.line X.env=pure false:=by rfl)(hw:swappedStores [tg] e X.env=pure none:=by rfl)
  (h1:(assignEach [tg] X.env).map (·.2)=[assign tg X.env]:=by rfl):PS X (.Assign [tg] e pos) (lN te g):=by
 refine⟨λpins s σ H D I h=>?_⟩
 refine wpAny_Assign_stores (bH (he pins s σ H _ I h) λv s1 ⟨x,H1,I1,r1,q1⟩=>?_) hs hw
 rw[h1]
 exact bH (hg pins s1 σ H1 x v _ I1 r1 q1) λ_ s2 q=>q
theorem Qk{i:Nat}{x:Str}{e:Expr}{te:TE}{pos':Pos}(hN:X.N.Nodup)(hi:X.N[i]?=some x)(hx:Loc X.env.scope x)(he:PE X e te)(hs:swapsWith e (some (.Name x pos')) pos.line X.env=pure false:=by rfl)(hf:X.fn x=true\/X.env.scope.names.lookup x=some .local:=by first|exact .inl rfl|exact .inr rfl|assumption) :
  PS X (.Assign [.Name x pos'] e pos) (lN te (dW i)):=by
 refine⟨λpins s σ H D I h=>?_⟩
 refine wpAny_Assign_Name (bH (he pins s σ H _ I h) λv s1 ⟨y,H1,I1,r1,q1⟩=>?_) hs
 exact BL I1 hN hi hx r1 (λs2 I2=>⟨_,H1,I2,q1⟩) hf
def Ql(i j:Nat)(ta:TA):TS:=λD σ H=>ta σ H λvs H1=>∃v w,vs=[v,w]/\D.nx ((σ.set i (some v)).set j (some w)) H1
theorem Qm{i j:Nat}{x y:Str}{a b:Expr}{ta:TA}{px py pt:Pos}{kt k2 Hs}(hc:X.calm=true)(hN:X.N.Nodup)(hi:X.N[i]?=some x)(hj:X.N[j]?=some y)(hij:i≠j)
  (hx:X.env.scope.names.lookup x=some .local) (hy:X.env.scope.names.lookup y=some .local) (ha:PA X [a,b] ta)
  (hw:swappedStores [.Tuple [.Name x px,.Name y py] kt pt] (.Tuple [a,b] k2 Hs) X.env=pure (some [x,y]))
  (hs:swapsWithSole [.Tuple [.Name x px,.Name y py] kt pt] (.Tuple [a,b] k2 Hs) pos.line X.env=pure false:=by rfl) :
  PS X (.Assign [.Tuple [.Name x px,.Name y py] kt pt] (.Tuple [a,b] k2 Hs) pos) (Ql i j ta):=by
 refine⟨λpins s σ H D I h=>?_⟩
 rw[exec_Assign_arm]
 refine wpAny_bind (wpAny_standAt ?_)
 rw[hs]
 refine wpAny_bind (wpAny_pure ?_)
 rw[if_neg (by decide)]
 refine wpAny_bind (Tuple_ (bH (ha _ pins s σ H _ I h) λus s1 ⟨vs,H1,I1,r1,q1⟩=>?_))
 obtain⟨v,w,e1,q1⟩:=q1
 subst e1
 obtain⟨u1,u2,rfl,rv,pQ⟩:∃u1 u2,us=[u1,u2]/\RelV v u1/\RelV w u2:=by
  cases r1 with
  |cons p q =>
   cases q with
   |cons p' q' =>
    cases q'
    exact⟨_,_,rfl,p,p'⟩
 refine wpAny_newObj_type ?_ (by show 2<=sizeLine; decide)
 have I2:Inv X pins σ H1 {s1 with heap:=s1.heap.push {cls:=.type "tuple",data:=.seq [u1,u2].toArray } }:=I1.kept (t':=s1.toks) λb o e=>Heap.get?_push_of_some _ e
 rw[hw]
 refine wpAny_bind (wpAny_pure ?_)
 show wpAny (model X.prog X.w) X.A (do rule "assign.swapped-stores"; let items <-unpackItems (.ref s1.heap.objs.size) 2 none; assignInOrder [λv=>bindName X.env y v,λv=>bindName X.env x v] items.reverse; pure Flow.next) _ _ _
 refine wpAny_bind (wpAny_rule (wpAny_bind (unpackItems_tuple (items:=#[u1,u2]) (I.ok.hd hc) (IsTup.new s1.heap _) λh' hx'=>?_)))
 have I3:=I2.kept (h':=h') (t':=s1.toks) λb o e=>hx' b o (Nat.ne_of_lt (Heap.lt_size e)) e
 show wpAny _ _ (assignInOrder [λv=>bindName X.env y v,λv=>bindName X.env x v] [u2,u1] >>= λ_=>pure Flow.next) _ _ _
 refine wpAny_bind (assignInOrder_cons (wpAny_bindName (BL I3 hN hj (.inl hy) pQ (λs2 I4=>?_) (.inr hy))))
 refine assignInOrder_cons (wpAny_bindName (BL I4 hN hi (.inl hx) rv (λs3 I5=>assignInOrder_nil (wpAny_pure ?_)) (.inr hx)))
 rw[List.set_comm _ _ (Ne.symm hij)]at I5
 exact⟨_,H1,I5,q1⟩
end
section
variable {X:Cx}{pos:Pos}
def Qn(c:TT)(tb:TS):TS:=λD σ H=>∃W:Nat->St->Hp->Prop,(∃m,W m σ H)/\∀m σ H,W m σ H ->
 c σ H λb H1=>if b=true then ∃N:St->Hp->Prop,(∀σ' H',N σ' H'->∃m',m'<m/\W m' σ' H')/\tb {D with nx:=N,ct:=N,bk:=D.nx } σ H1 else D.nx σ H1
theorem BZ{c:Expr}{body:List Stmt}{tc:TT}{tb:TS}(hp:PassesOwn (model X.prog X.w) X.A X.env X.xe)(hc:PT X c tc)(hb:jo X body tb):PS X (.While c body [] pos) (Qn tc tb):=by
 refine⟨λpins s σ H D I h=>?_⟩
 obtain⟨W,⟨m0,w0⟩,turn⟩:=h
 refine wpAny_While (codeAny_whileLoop (λn s'=>∃σ' H',Inv X pins σ' H' s'/\W n σ' H') ?_ m0 ⟨σ,H,I,w0⟩)
 rintro n s1 ⟨σ1,H1,I1,w1⟩
 refine wpAny_passesOwn hp (bH (hc pins s1 σ1 H1 _ I1 (turn n σ1 H1 w1)) λb s2 ⟨H2,I2,q2⟩=>?_)
 cases b with
 |true =>
  obtain⟨N,hN,q2⟩:=q2
  rw[if_pos rfl]
  refine wpAny_passesOwn hp (bH (hb pins s2 σ1 H2 _ I2 q2) λf s3 q3=>?_)
  cases f with
  |next =>
   obtain⟨σ3,H3,I3,n3⟩:=q3
   obtain⟨m',hm,w3⟩:=hN σ3 H3 n3
   exact⟨m',hm,σ3,H3,I3,w3⟩
  |cont =>
   obtain⟨σ3,H3,I3,n3⟩:=q3
   obtain⟨m',hm,w3⟩:=hN σ3 H3 n3
   exact⟨m',hm,σ3,H3,I3,w3⟩
  |brk=>exact q3
  |ret v=>exact q3
 |false =>
  rw[if_neg Bool.false_ne_true]
  exact wpAny_execs_nil ⟨σ1,H2,I2,q2⟩
end
structure It where
 go:Nat->Hp->Prop
 vR:Nat->Hp->V->Hp->Prop
 stop:Nat->Hp->Prop
def eU(X:Cx)(pins:List (Addr × Obj))(H:Hp)(b:Addr):Prop :=
 H b=none/\b≠X.env.locals/\b∉X.fs/\(b∈X.ex\/X.s₀.heap.objs.size<=b)/\(∀x c,X.env.cells.lookup x=some c->c≠b)/\∀p∈X.pn++pins,p.1≠b
theorem Inv.pR{X:Cx}{pins:List (Addr × Obj)}{σ : St}{H H':Hp}{s:Shared}{b:Addr}(I:Inv X pins σ H s)(hb:s.heap.objs.size<=b)(hn:H' b=none):eU X pins H' b:=by
 refine⟨hn,Nat.ne_of_gt (Nat.lt_of_lt_of_le I.lt hb),I.Zj hb,.inr (Nat.le_trans I.sz hb),λx c e z=>?_,λp hp z=>?_⟩
 ·obtain⟨v,q⟩:=I.cell x c e
  exact absurd (Nat.lt_of_lt_of_le q.lt (by rw[z]; exact hb)) (Nat.lt_irrefl _)
 ·exact absurd (Nat.lt_of_lt_of_le (Heap.lt_size (I.pin p hp).1) (by rw[z]; exact hb)) (Nat.lt_irrefl _)
structure Turn(P:Program)(w:World)(K:FZ)(tg:Expr)(J:It)(fp:List Addr)(it:Addr)(tn:Nat->Heap->Prop):Prop where
 mem:it∈fp
 obj:∀i h,tn i h->∀b∈fp,∃o,h.get? b=some o/\∀v,o.data ≠ .cell v
 keep:∀i h h',tn i h->(∀b∈fp,∀o,h.get? b=some o->h'.get? b=some o)->tn i h'
 item:∀(X:Cx),X.prog=P->X.w=w->X.K=K->X.calm=true->∀(i:Nat) (pins:List (Addr × Obj)) (s:Shared) (σ : St) (H:Hp) (E:Value->Shared->Prop),Inv X pins σ H s->(∀b∈fp,eU X pins H b)->tn i s.heap->J.go i H ->
  wpAny (model P w) X.A (pyNext (.ref it)) (λr s1=>∃u,r=some u /\
   wpAny (model P w) X.A (letOwnedTupleGo tg (.ref it) u) (λ_ s2=>∃x H',Inv X pins σ H' s2/\RelV x u/\J.vR i H x H'/\tn (i+1) s2.heap/\∀b∈fp,H' b=none) E s1) E s
 done:∀(X:Cx),X.prog=P->X.w=w->X.K=K->X.calm=true->∀(i:Nat) (pins:List (Addr × Obj)) (s:Shared) (σ : St) (H:Hp) (E:Value->Shared->Prop),Inv X pins σ H s->(∀b∈fp,eU X pins H b)->tn i s.heap->J.stop i H ->
  wpAny (model P w) X.A (pyNext (.ref it)) (λr s1=>r=none/\Inv X pins σ H s1) E s
 self:∀(A:Around) (i:Nat) (s:Shared) (Q:Value->Shared->Prop) (E:Value->Shared->Prop),tn i s.heap->Q (.ref it) s->wpAny (model P w) A (pyIter (.ref it)) Q E s
abbrev TI:=St->Hp->(It->Hp->Prop)->Prop
noncomputable def PIE(X:Cx)(pins:List (Addr × Obj))(σ : St)(tg:Expr)(R:It->Hp->Prop)(itv:Value)(s2:Shared):Prop :=
 ∃(it:Addr) (fp:List Addr) (tn:Nat->Heap->Prop) (J:It) (H':Hp),itv=.ref it/\Inv X pins σ H' s2/\Turn X.prog X.w X.K tg J fp it tn/\tn 0 s2.heap/\(∀b∈fp,eU X pins H' b)/\R J H'
noncomputable def PI(X:Cx)(tg iter:Expr)(wi:TI):Prop :=
 ∀(pins:List (Addr × Obj)) (s:Shared) (σ : St) (H:Hp) (R:It->Hp->Prop),Inv X pins σ H s->wi σ H R ->
  wpAny (model X.prog X.w) X.A (eval iter X.env) (λv s1=>wpAny (model X.prog X.w) X.A (pyIter v) (PIE X pins σ tg R) X.xe s1) X.xe s
theorem Ht{M:Model}{A:Around}{E:Value→Shared→Prop}{s:Shared}{tg:Expr}{it:Addr}{u:Value}{o:Obj}{n:String}{vs:Array Value}{Q:Unit→Shared→Prop}(ho:s.heap.get? it=some o)(hc:o.cls=.type n)(hd:o.data=.fields vs)
    (hn : ["enumerate", "zip", "dict_itemiterator", "dict_reverseitemiterator", "odict_iterator", "itertools.zip_longest", "itertools.pairwise"].contains n=false) (hQ:Q () s):wpAny M A (letOwnedTupleGo tg (.ref it) u) Q E s:=by
  unfold letOwnedTupleGo
  cases tg <;> first
    |exact wpAny_pure hQ
    | (cases u <;> first
        |exact wpAny_pure hQ
        | (refine wpAny_bind (wpAny_load ho ?_)
           rw[hc,hd]
           show wpAny M A (if(["enumerate", "zip", "dict_itemiterator", "dict_reverseitemiterator", "odict_iterator", "itertools.zip_longest", "itertools.pairwise"].contains n&&vs[0]? == some (rawInt _))=true then _ else _) Q E s
           rw[if_neg (by intro h; rw[hn,Bool.false_and]at h; cases h)]
           exact wpAny_pure hQ))
def Hu(K:FZ)(a:Addr):It :=
 ⟨λi H=>∃xs x,cJ K H a xs/\xs[i]?=some x,λi H x H'=>H'=H/\∀xs,cJ K H a xs->xs[i]?=some x,λi H=>∃xs,cJ K H a xs/\xs.length<=i⟩
def Hv(K:FZ)(a:Addr):It :=
 ⟨λi H=>∃xs x,dN K H a xs/\xs[i]?=some x,λi H x H'=>H'=H/\∀xs,dN K H a xs->xs[i]?=some x,λi H=>∃xs,dN K H a xs/\xs.length<=i⟩
def Ca(lo:Int)(n:Nat):It:=⟨λi _=>i<n,λi H x H'=>H'=H/\x=.int (lo+i),λi _=>n<=i⟩
theorem Zu{P:Program}{w:World}{K:FZ}{tg:Expr}(a it:Addr):Turn P w K tg (Hu K a) [it] it (λi h=>h.IsListIter it a i) where
 mem:=by simp
 obj:=λi h st b hb=>by
  have e:b=it:=by simpa using hb
  subst e
  obtain⟨o,e,c,d⟩:=st
  exact⟨o,e,λv z=>by rw[d]at z; cases z⟩
 keep:=λi h h' st k=>st.at λo e=>k it (by simp) o e
 item:=by
  intro X hP hw hK hc i pins s σ H E I hf st hg
  subst hP hw hK
  obtain⟨xs,x,hq,hx⟩:=hg
  obtain⟨its,rv,p,hz⟩:=I.list hq
  obtain⟨u,hu,ru⟩:=rv.get hx
  obtain⟨f0,f1,f2,f3,f4,f5⟩:=hf it (by simp)
  refine wpAny_pyNext_list_item st p.isList (x:=u) (by simpa using hu) λh' st' sb=>?_
  have I1:Inv X pins σ H {s with heap:=h' }:=I.turned (t':=s.toks) (λb o hb e=>(sb.2 b hb).trans e) f0 f1 f3 f4 f5
  obtain⟨o,e,c,d⟩:=id st'
  exact⟨u,rfl,Ht (s:={s with heap:=h' }) e c d (by decide) ⟨x,H,I1,ru,⟨rfl,λys hy=>by rw[I.BW hy hq]; exact hx⟩,st',λb hb=>(hf b hb).1⟩⟩
 done:=by
  intro X hP hw hK hc i pins s σ H E I hf st hg
  subst hP hw hK
  obtain⟨xs,hq,hx⟩:=hg
  obtain⟨its,rv,p,hz⟩:=I.list hq
  obtain⟨f0,f1,f2,f3,f4,f5⟩:=hf it (by simp)
  have hl:=rv.length
  exact wpAny_pyNext_list_end (I.ok.hd hc) st p.isList (by simp; omega) λh' eb=>⟨rfl,I.turned (t':=s.toks) (λb o hb e=>eb b o hb e) f0 f1 f3 f4 f5⟩
 self:=λ_ _ _ _ _ st h=>wpAny_pyIter_listiter st h
theorem Zv{P:Program}{w:World}{K:FZ}{tg:Expr}(a it:Addr):Turn P w K tg (Hv K a) [it] it (λi h=>h.IsTupleIter it a i) where
 mem:=by simp
 obj:=λi h st b hb=>by
  have e:b=it:=by simpa using hb
  subst e
  obtain⟨o,e,c,d⟩:=st
  exact⟨o,e,λv z=>by rw[d]at z; cases z⟩
 keep:=λi h h' st k=>st.at λo e=>k it (by simp) o e
 item:=by
  intro X hP hw hK hc i pins s σ H E I hf st hg
  subst hP hw hK
  obtain⟨xs,x,hq,hx⟩:=hg
  obtain⟨its,rv,p,hz⟩:=I.tuple hq
  obtain⟨u,hu,ru⟩:=rv.get hx
  obtain⟨f0,f1,f2,f3,f4,f5⟩:=hf it (by simp)
  refine wpAny_pyNext_tuple_item st (show s.heap.IsTuple a its.toArray from p) (x:=u) (by simpa using hu) λh' st' sb=>?_
  have I1:Inv X pins σ H {s with heap:=h' }:=I.turned (t':=s.toks) (λb o hb e=>(sb.2 b hb).trans e) f0 f1 f3 f4 f5
  obtain⟨o,e,c,d⟩:=id st'
  exact⟨u,rfl,Ht (s:={s with heap:=h' }) e c d (by decide) ⟨x,H,I1,ru,⟨rfl,λys hy=>by rw[I.Qd hy hq]; exact hx⟩,st',λb hb=>(hf b hb).1⟩⟩
 done:=by
  intro X hP hw hK hc i pins s σ H E I hf st hg
  subst hP hw hK
  obtain⟨xs,hq,hx⟩:=hg
  obtain⟨its,rv,p,hz⟩:=I.tuple hq
  obtain⟨f0,f1,f2,f3,f4,f5⟩:=hf it (by simp)
  have hl:=rv.length
  exact wpAny_pyNext_tuple_end (I.ok.hd hc) st (show s.heap.IsTuple a its.toArray from p) (by simp; omega) λh' eb=>⟨rfl,I.turned (t':=s.toks) (λb o hb e=>eb b o hb e) f0 f1 f3 f4 f5⟩
 self:=λ_ _ _ _ _ st h=>wpAny_pyIter_tupleiter st h
theorem Zw{P:Program}{w:World}{K:FZ}{tg:Expr}(it:Addr)(lo:Int)(n:Nat):Turn P w K tg (Ca lo n) [it] it (λi h=>IsRangeIter h it (lo+(i:Nat)*1) ((n:Int)-(i:Nat)) 1) where
 mem:=by simp
 obj:=λi h st b hb=>by
  have e:b=it:=by simpa using hb
  subst e
  exact⟨_,st,λv z=>by
   have z':Data.fields _=Data.cell v:=z
   cases z'⟩
 keep:=λi h h' st k=>k it (by simp) _ st
 item:=by
  intro X hP hw hK hc i pins s σ H E I hf st hg
  subst hP hw hK
  obtain⟨f0,f1,f2,f3,f4,f5⟩:=hf it (by simp)
  have W:=Walks.range (prog:=X.prog) (w:=X.w) (I.ok.hd hc) it lo 1 n
  refine W.item i s _ _ hg st λv h' tk hv st' kk=>?_
  obtain⟨t,rfl⟩:=hv
  have I1:Inv X pins σ H {s with heap:=h',toks:=tk }:=I.turned (λb o hb e=>kk b o (by simpa using hb) e) f0 f1 f3 f4 f5
  refine⟨_,rfl,Ht (s:={s with heap:=h',toks:=tk }) (n := "range_iterator") st' rfl rfl (by decide) ⟨.int (lo+i),H,I1,⟨t,?_⟩,⟨rfl,rfl⟩,st',λb hb=>(hf b hb).1⟩⟩
  rw[Int.mul_one]
 done:=by
  intro X hP hw hK hc i pins s σ H E I hf st hg
  subst hP hw hK
  obtain⟨f0,f1,f2,f3,f4,f5⟩:=hf it (by simp)
  exact wpAny_pyNext_range_end (I.ok.hd hc) st (by have:n<=i:=hg; omega) λh' eb=>⟨rfl,I.turned (t':=s.toks) (λb o hb e=>eb b o hb e) f0 f1 f3 f4 f5⟩
 self:=λ_ _ _ _ _ st h=>wpAny_pyIter_rangeiter st h
end L2
namespace L2
open PySem PySem.Spec PyProof.Rows
section
variable {X:Cx}{tg:Expr}
def Qo(K:FZ)(tl:TE):TI:=λσ H R=>tl σ H λx H1=>∃a,x=.ref a/\(∃xs,cJ K H1 a xs)/\R (Hu K a) H1
def Qp(K:FZ)(tl:TE):TI:=λσ H R=>tl σ H λx H1=>∃a,x=.ref a/\(∃xs,dN K H1 a xs)/\R (Hv K a) H1
theorem Zx{l:Expr}{tl:TE}(hl:PE X l tl):PI X tg l (Qo X.K tl):=by
 intro pins s σ H R I h
 refine bH (hl pins s σ H _ I h) λv s1 ⟨x,H1,I1,r1,q1⟩=>?_
 obtain⟨a,e,⟨xs,hq⟩,q⟩:=q1
 subst e
 cases r1
 obtain⟨its,rv,p,hz⟩:=I1.list hq
 refine wpAny_pyIter_list p.isList ?_
 refine⟨s1.heap.objs.size,[s1.heap.objs.size],_,_,H1,rfl,I1.kept (t':=s1.toks) λb o e=>Heap.get?_push_of_some _ e,Zu a _,⟨_,Heap.get?_push_size _ rfl,rfl,rfl⟩,λb hb=>?_,q⟩
 have e:b=s1.heap.objs.size:=by simpa using hb
 subst e
 exact I1.pR (Nat.le_refl _) (I1.hok.fresh (Nat.le_refl _))
theorem Zy{l:Expr}{tl:TE}(hl:PE X l tl):PI X tg l (Qp X.K tl):=by
 intro pins s σ H R I h
 refine bH (hl pins s σ H _ I h) λv s1 ⟨x,H1,I1,r1,q1⟩=>?_
 obtain⟨a,e,⟨xs,hq⟩,q⟩:=q1
 subst e
 cases r1
 obtain⟨its,rv,p,hz⟩:=I1.tuple hq
 refine wpAny_pyIter_tuple (show s1.heap.IsTuple a its.toArray from p) ?_
 refine⟨s1.heap.objs.size,[s1.heap.objs.size],_,_,H1,rfl,I1.kept (t':=s1.toks) λb o e=>Heap.get?_push_of_some _ e,Zv a _,⟨_,Heap.get?_push_size _ rfl,rfl,rfl⟩,λb hb=>?_,q⟩
 have e:b=s1.heap.objs.size:=by simpa using hb
 subst e
 exact I1.pR (Nat.le_refl _) (I1.hok.fresh (Nat.le_refl _))
theorem Zz{pins:List (Addr × Obj)}{σ : St}{H:Hp}{s:Shared}{R:It->Hp->Prop}{E:Value->Shared->Prop}{lo hi:Int}{t u v:Tok}{tk:Nat}(I:Inv X pins σ H s)(h1 : -(2 ^ 62)<=lo)(h2:lo<2 ^ 62)(h3 : -(2 ^ 62)<=hi)(h4:hi<2 ^ 62)
  (q:R (Ca lo (hi-lo).toNat) H):wpAny (model X.prog X.w) X.A (pyIter (.ref s.heap.objs.size)) (PIE X pins σ tg R) E {s with heap:=s.heap.push {cls:=.type "range",data:=.fields #[.int lo t,.int hi u,.int 1 v] },toks:=tk }:=by
 refine wpAny_pyIter_range (IsRange.new ..) (small_one h1 h2 h3 h4) ?_
 have I1:Inv X pins σ H {s with heap:=s.heap.push {cls:=.type "range",data:=.fields #[.int lo t,.int hi u,.int 1 v] },toks:=tk }:=I.kept λb o e=>Heap.get?_push_of_some _ e
 refine⟨(s.heap.push {cls:=.type "range",data:=.fields #[.int lo t,.int hi u,.int 1 v] }).objs.size,[(s.heap.push {cls:=.type "range",data:=.fields #[.int lo t,.int hi u,.int 1 v] }).objs.size],_,_,H,rfl,
  I1.kept (t':=tk) λb o e=>Heap.get?_push_of_some _ e,Zw _ lo (hi-lo).toNat,?_,λb hb=>?_,q⟩
 ·have e1:lo+((0:Nat):Int)*1=lo:=by simp
  have e2:(((hi-lo).toNat:Nat):Int)-((0:Nat):Int)=Builtin.Range.rangeSize lo hi 1:=by rw[rangeSize_one]; split <;> omega
  show IsRangeIter _ _ (lo+((0:Nat):Int)*1) ((((hi-lo).toNat:Nat):Int)-((0:Nat):Int)) 1
  rw[e1,e2]
  exact Heap.get?_push_size _ rfl
 ·have e:b=(s.heap.push {cls:=.type "range",data:=.fields #[.int lo t,.int hi u,.int 1 v] }).objs.size:=by simpa using hb
  subst e
  exact I1.pR (Nat.le_refl _) (I1.hok.fresh (Nat.le_refl _))
def Hw(ta:TA):TI:=λσ H R=>ta σ H λvs H1=>∃j:Int,vs=[.int j] /\ -(2 ^ 62)<=j/\j<2 ^ 62/\R (Ca 0 j.toNat) H1
theorem ZC{a:Expr}{ta:TA}{p pos:Pos}(hg:Gl X "range") (hm:X.mg "range" = none) (ha:PA X [a] ta) (hs:starEach [a] X.env=[(false,eval a X.env)]:=by rfl):PI X tg (.Call (.Name "range" p) [a] [] pos) (Hw ta):=by
 intro pins s σ H R I h
 refine Call_ (tH I hg hm boot_range (PyProof.Rows.callWith_type1 (bH (ha pos pins s σ H _ I h) λus s1 ⟨vs,H1,I1,r1,q1⟩=>?_) hs rfl))
 obtain⟨j,e,q1,q2,q⟩:=q1
 subst e
 cases r1 with
 |cons r rr =>
  cases rr
  obtain⟨t,rfl⟩:=r
  exact call_range_1 (Zz I1 (by omega) (by omega) q1 q2 (by simpa using q))
noncomputable def Qq(wi:TI)(g:TG)(tb:TS):TS:=λD σ H=>wi σ H λJ H1=>∃W:Nat->Nat->St->Hp->Prop,(∃m,W 0 m σ H1)/\∀i m σ H,W i m σ H ->
 (J.stop i H/\D.nx σ H)\/(J.go i H/\∃N:St->Hp->Prop,(∀σ' H',N σ' H'->∃m',m'<m/\W (i+1) m' σ' H')/\∀x H',J.vR i H x H'->g x σ H' λσ2 H2=>tb {D with nx:=N,ct:=N,bk:=D.nx } σ2 H2)
def Cd(fp:List Addr)(h:Heap):List (Addr × Obj):=fp.filterMap λb=>(h.get? b).map λo=>(b,o)
theorem rC{fp:List Addr}{h:Heap}{b:Addr}{o:Obj}(hb:b∈fp)(e:h.get? b=some o):(b,o)∈Cd fp h:=List.mem_filterMap.mpr ⟨b,hb,by rw[e]; rfl⟩
theorem ZD{fp:List Addr}{h:Heap}{p:Addr × Obj}(hp:p∈Cd fp h):p.1∈fp/\h.get? p.1=some p.2:=by
 obtain⟨b,hb,e⟩:=List.mem_filterMap.mp hp
 cases q:h.get? b with
 |none=>rw[q]at e; cases e
 |some o =>
  rw[q]at e
  have e':(b,o)=p:=Option.some.inj e
  subst e'
  exact⟨hb,q⟩
theorem Inv.pinned{pins:List (Addr × Obj)}{σ : St}{H:Hp}{s:Shared}{fp:List Addr}(I:Inv X pins σ H s)(hf:∀b∈fp,eU X pins H b)(ho:∀b∈fp,∃o,s.heap.get? b=some o/\∀v,o.data ≠ .cell v):Inv X (pins++Cd fp s.heap) σ H s :=
 I.BK λp hp=>(List.mem_append.mp hp).elim (λz=>I.pin p (List.mem_append_right _ z)) λz=>by
  obtain⟨hb,e⟩:=ZD z
  obtain⟨f0,f1,f2,_⟩:=hf p.1 hb
  obtain⟨o,e',d⟩:=ho p.1 hb
  rw[e]at e'; cases e'
  exact⟨e,f0,f1,f2,d⟩
theorem Inv.vU{pins pl:List (Addr × Obj)}{σ : St}{H:Hp}{s:Shared}(I:Inv X (pins++pl) σ H s):Inv X pins σ H s:=I.BK λp hp=>I.pin p (List.mem_append_right _ (List.mem_append_left _ hp))
theorem jC{iter:Expr}{body:List Stmt}{wi:TI}{g:TG}{tb:TS}{pos:Pos}(hp:PassesOwn (model X.prog X.w) X.A X.env X.xe)(hc:X.calm=true)(hi:PI X tg iter wi)(hg:PG X tg g)(hb:jo X body tb)
  (hs:∀x,foldedSetIterable iter X.env x=pure x:=by intro _; rfl):PS X (.For tg iter body [] pos) (Qq wi g tb):=by
 refine⟨λpins s σ H D I h=>?_⟩
 refine wpAny_For (bH (hi pins s σ H _ I h) λv s1 h1=>bH h1 λitv s2 h2=>?_) hs
 obtain⟨it,fp,tn,J,H2,e,I2,T,st2,f2,W,⟨m0,w0⟩,turn⟩:=h2
 subst e
 -- what stays true of the iterator's objects through the loop
 have stat:∀{H':Hp},(∀b∈fp,H' b=none)->∀b∈fp,eU X pins H' b:=λhn b hb=>⟨hn b hb,(f2 b hb).2⟩
 refine codeAny_forLoop_any (λn s'=>∃i σ' H',Inv X pins σ' H' s'/\tn i s'.heap/\(∀b∈fp,H' b=none)/\W i n σ' H') ?_ m0 ⟨0,σ,H2,I2,st2,λb hb=>(f2 b hb).1,w0⟩
 rintro n s3 ⟨i,σ3,H3,I3,st3,Qs,w3⟩
 rcases turn i n σ3 H3 w3 with⟨stop,qn⟩|⟨go,N,hN,step⟩
 ·refine wpAny_passesOwn hp (bH (T.done X rfl rfl rfl hc i pins s3 σ3 H3 X.xe I3 (stat Qs) st3 stop) λr s4 ⟨hr,I4⟩=>?_)
  subst hr
  exact wpAny_execs_nil ⟨σ3,H3,I4,qn⟩
 ·refine wpAny_passesOwn hp (bH (T.item X rfl rfl rfl hc i pins s3 σ3 H3 X.xe I3 (stat Qs) st3 go) λr s4 ⟨u,hr,h4⟩=>?_)
  subst hr
  refine wpAny_passesOwn hp (bH h4 λ_ s5 ⟨x,H5,I5,r5,y5,jh,tK⟩=>?_)
  have ZF:=I5.pinned (stat tK) (T.obj _ _ jh)
  refine wpAny_passesOwn hp (bH (hg _ s5 σ3 H5 x u _ ZF r5 (step x H5 y5)) λ_ s6 ⟨σ6,H6,I6,q6⟩=>?_)
  refine wpAny_passesOwn hp (bH (hb _ s6 σ6 H6 _ I6 q6) λf s7 q7=>?_)
  have again:∀{σ7:St} {H7:Hp},Inv X (pins++Cd fp s5.heap) σ7 H7 s7->N σ7 H7->∃m,m<n/\∃i σ' H',Inv X pins σ' H' s7/\tn i s7.heap/\(∀b∈fp,H' b=none)/\W i m σ' H':=λ{σ7 H7} I7 n7=>by
   obtain⟨m',hm,w7⟩:=hN σ7 H7 n7
   refine⟨m',hm,i+1,σ7,H7,I7.vU,T.keep _ _ _ jh λb hb o e=>(I7.pin (b,o) (List.mem_append_right _ (List.mem_append_right _ (rC hb e)))).1,λb hb=>?_,w7⟩
   obtain⟨o,e,d⟩:=T.obj _ _ jh b hb
   exact(I7.pin (b,o) (List.mem_append_right _ (List.mem_append_right _ (rC hb e)))).2.1
  cases f with
  |next=>obtain⟨σ7,H7,I7,n7⟩:=q7; exact again I7 n7
  |cont=>obtain⟨σ7,H7,I7,n7⟩:=q7; exact again I7 n7
  |brk=>obtain⟨σ7,H7,I7,q7⟩:=q7; exact⟨σ7,H7,I7.vU,q7⟩
  |ret v=>obtain⟨x7,σ7,H7,I7,r7,q7⟩:=q7; exact⟨x7,σ7,H7,I7.vU,r7,q7⟩
end
end L2
namespace L2
open PySem PySem.Spec PyProof.Rows
abbrev R2:=V->V->Hp->VK->Prop
noncomputable def dz(X:Cx)(f:Value->Value->Sem Value)(r:R2):Prop :=
 ∀(pins:List (Addr × Obj)) (s:Shared) (σ : St) (H:Hp) (x y:V) (v u:Value) (Q:VK),Inv X pins σ H s->RelV x v->RelV y u->r x y H Q ->
  wpAny (model X.prog X.w) X.A (f v u) (EP X pins σ Q) X.xe s
def Hy(X:Cx)(f:Value->Sem Value)(r:V->Hp->VK->Prop):Prop :=
 ∀(pins:List (Addr × Obj)) (s:Shared) (σ : St) (H:Hp) (x:V) (v:Value) (Q:VK),Inv X pins σ H s->RelV x v->r x H Q ->
  wpAny (model X.prog X.w) X.A (f v) (EP X pins σ Q) X.xe s
noncomputable def iV(X:Cx)(f:Value)(r:List V->Hp->VK->Prop):Prop :=
 ∀(pins:List (Addr × Obj)) (s:Shared) (σ : St) (H:Hp) (xs:List V) (us:List Value) (Q:VK),Inv X pins σ H s->Vals xs us->r xs H Q ->
  wpAny (model X.prog X.w) X.A (call f us) (EP X pins σ Q) X.xe s
noncomputable def ZG(X:Cx)(r:V->Hp->(Bool->Hp->Prop)->Prop):Prop :=
 ∀(pins:List (Addr × Obj)) (s:Shared) (σ : St) (H:Hp) (x:V) (v:Value) (Q:Bool->Hp->Prop),Inv X pins σ H s->RelV x v->r x H Q ->
  wpAny (model X.prog X.w) X.A (truthy v) (TP X pins σ Q) X.xe s
def gq(r:R2)(ta tb:TE):TE:=λσ H Q=>ta σ H λx H1=>tb σ H1 λy H2=>r x y H2 Q
def Ce(r:V->Hp->VK->Prop)(ta:TE):TE:=λσ H Q=>ta σ H λx H1=>r x H1 Q
def rI(C:Int->Int->Prop)(g:Int->Int->V):R2:=λx y H Q=>∃i j,x=.int i/\y=.int j/\C i j/\Q (g i j) H
def iW(g:Int->Int->V):R2:=λx y H Q=>∃i j,x=.int i/\y=.int j/\Q (g i j) H
def rU(g:Int->V):V->Hp->VK->Prop:=λx H Q=>∃i,x=.int i/\Q (g i) H
section
variable {X:Cx}{a b c:Expr}{ta tb tc:TE}{pos:Pos}
theorem Hz(ha:PE X a ta)(hb:PE X b tb){pins:List (Addr × Obj)}{s:Shared}{σ : St}{H:Hp}{R:V->V->Hp->Prop}(I:Inv X pins σ H s)
  (h:ta σ H λx H1=>tb σ H1 λy H2=>R x y H2) {Q:Value->Shared->Prop} {f:Value->Value->Sem Value}
  (hf:∀v u s2 x y H2,Inv X pins σ H2 s2->RelV x v->RelV y u->R x y H2->wpAny (model X.prog X.w) X.A (f v u) Q X.xe s2) :
  wpAny (model X.prog X.w) X.A (eval a X.env) (λv s₁=>wpAny (model X.prog X.w) X.A (eval b X.env) (λu s₂=>wpAny (model X.prog X.w) X.A (f v u) Q X.xe s₂) X.xe s₁) X.xe s:=by
 refine bH (ha pins s σ H _ I h) λv s1 ⟨x,H1,I1,r1,q1⟩=>?_
 refine bH (hb pins s1 σ H1 _ I1 q1) λu s2 ⟨y,H2,I2,r2,q2⟩=>?_
 exact hf v u s2 x y H2 I2 r1 r2 q2
theorem bC{op:Operator}{r:R2}(ho:dz X (binaryOp op) r)(ha:PE X a ta)(hb:PE X b tb):PE X (.BinOp a op b pos) (gq r ta tb):=by
 refine⟨λpins s σ H Q I h=>?_⟩
 exact wpAny_BinOp (Hz ha hb I h λv u s2 x y H2 I2 rx ry q=>ho pins s2 σ H2 x y v u Q I2 rx ry q)
theorem Cg{op:UnaryOp}{r:V->Hp->VK->Prop}(ho:Hy X (unaryOp op) r)(ha:PE X a ta):PE X (.UnaryOp op a pos) (Ce r ta):=by
 refine⟨λpins s σ H Q I h=>?_⟩
 exact UnaryOp_ (bH (ha pins s σ H _ I h) λv s1 ⟨x,H1,I1,r1,q1⟩=>ho pins s1 σ H1 x v Q I1 r1 q1)
theorem Ci{f:Value->Value->Sem Value}{C:Int->Int->Prop}{g:Int->Int->Int}
  (rule:∀(i j:Int) (t u:Tok) (s:Shared) (Q:Value->Shared->Prop) (E:Value->Shared->Prop),C i j->Q (.int (g i j) s.toks) {s with toks:=s.toks+1 }->wpAny (model X.prog X.w) X.A (f (.int i t) (.int j u)) Q E s) :
  dz X f (rI C λi j=>.int (g i j)):=by
 intro pins s σ H x y v u Q I rx ry h
 obtain⟨i,j,rfl,rfl,hc,q⟩:=h
 obtain⟨t,rfl⟩:=rx
 obtain⟨t',rfl⟩:=ry
 exact rule i j t t' s _ _ hc ⟨.int (g i j),H,I.tok _,⟨_,rfl⟩,q⟩
theorem Qt{f:Value->Value->Sem Value}{g:Int->Int->Int}
  (rule:∀(i j:Int) (t u:Tok) (s:Shared) (Q:Value->Shared->Prop) (E:Value->Shared->Prop),Q (.int (g i j) s.toks) {s with toks:=s.toks+1 }->wpAny (model X.prog X.w) X.A (f (.int i t) (.int j u)) Q E s) :
  dz X f (iW λi j=>.int (g i j)):=by
 intro pins s σ H x y v u Q I rx ry h
 obtain⟨i,j,rfl,rfl,q⟩:=h
 obtain⟨t,rfl⟩:=rx
 obtain⟨t',rfl⟩:=ry
 exact rule i j t t' s _ _ ⟨.int (g i j),H,I.tok _,⟨_,rfl⟩,q⟩
theorem Cj{f:Value->Value->Sem Value}{g:Int->Int->Bool}
  (rule:∀(i j:Int) (t u:Tok) (s:Shared) (Q:Value->Shared->Prop) (E:Value->Shared->Prop),Q (.bool (g i j)) s->wpAny (model X.prog X.w) X.A (f (.int i t) (.int j u)) Q E s) :
  dz X f (iW λi j=>.bl (g i j)):=by
 intro pins s σ H x y v u Q I rx ry h
 obtain⟨i,j,rfl,rfl,q⟩:=h
 obtain⟨t,rfl⟩:=rx
 obtain⟨t',rfl⟩:=ry
 exact rule i j t t' s _ _ ⟨.bl (g i j),H,I,rfl,q⟩
def HB(i j:Int):Prop:=0<=j/\j<=1000000/\i.natAbs<2 ^ 64
theorem Qu:dz X (binaryOp .Add) (iW λi j=>.int (i+j)):=Qt λ_ _ _ _ _ _ _ q=>add_int q
theorem oE:dz X (binaryOp .Sub) (iW λi j=>.int (i-j)):=Qt λ_ _ _ _ _ _ _ q=>sub_int q
theorem lO:dz X (binaryOp .Mod) (rI (λ_ j=>j≠0) λi j=>.int (i.fmod j)):=Ci λ_ _ _ _ _ _ _ hc q=>mod_int' hc q
theorem rD:dz X (binaryOp .Pow) (rI HB λi j=>.int (i ^ j.toNat)):=Ci λ_ _ _ _ _ _ _ hc q=>pow_int_small hc.1 hc.2.1 hc.2.2 q
theorem ZJ{f:Value->Sem Value}{g:Int->Int}
  (rule:∀(i:Int) (t:Tok) (s:Shared) (Q:Value->Shared->Prop) (E:Value->Shared->Prop),Q (.int (g i) s.toks) {s with toks:=s.toks+1 }->wpAny (model X.prog X.w) X.A (f (.int i t)) Q E s) :
  Hy X f (rU λi=>.int (g i)):=by
 intro pins s σ H x v Q I rx h
 obtain⟨i,rfl,q⟩:=h
 obtain⟨t,rfl⟩:=rx
 exact rule i t s _ _ ⟨.int (g i),H,I.tok _,⟨_,rfl⟩,q⟩
theorem Ck:Hy X (unaryOp .USub) (rU λi=>.int (-i)):=ZJ λ_ _ _ _ _ q=>neg_int q
end
section
variable {X:Cx}{a b c:Expr}{ta tb tc:TE}{pos:Pos}
theorem ZK:dz X (compareOp .Lt) (iW λi j=>.bl (decide (i<j))):=Cj λ_ _ _ _ _ _ _ q=>lt_int q
theorem mV:dz X (compareOp .LtE) (iW λi j=>.bl (decide (i<=j))):=Cj λ_ _ _ _ _ _ _ q=>le_int q
theorem ZL:dz X (compareOp .Gt) (iW λi j=>.bl (decide (j<i))):=Cj λ_ _ _ _ _ _ _ q=>gt_int q
theorem HD:dz X (compareOp .GtE) (iW λi j=>.bl (decide (j<=i))):=Cj λ_ _ _ _ _ _ _ q=>ge_int q
theorem dz.or{f:Value->Value->Sem Value}{r r':R2}(h:dz X f r)(h':dz X f r'):dz X f (λx y H Q=>r x y H Q\/r' x y H Q):=by
 intro pins s σ H x y v u Q I rx ry q
 rcases q with q|q
 ·exact h pins s σ H x y v u Q I rx ry q
 ·exact h' pins s σ H x y v u Q I rx ry q
theorem dw(b:Expr){op:CmpOp}(h:op ≠ .In:=by decide)(h2:op ≠ .NotIn:=by decide):behindInMarks op b=false:=by
 have e1:(op == CmpOp.In)=false:=by cases op <;> first|rfl|exact absurd rfl h
 have e2:(op == CmpOp.NotIn)=false:=by cases op <;> first|rfl|exact absurd rfl h2
 cases b <;> simp[behindInMarks,e1,e2]
theorem lQ{op:CmpOp}{r:R2}(ho:dz X (compareOp op) r)(ha:PE X a ta)(hb:PE X b tb)(hm:behindInMarks op b=false):PE X (.Compare a [op] [b] pos) (gq r ta tb):=by
 refine⟨λpins s σ H Q I h=>?_⟩
 exact wpAny_Compare1 (Hz ha hb I h λv u s2 x y H2 I2 rx ry q=>ho pins s2 σ H2 x y v u Q I2 rx ry q) hm
def HF(t:TE):TT:=λσ H Q=>t σ H λx H'=>∃k,x=.bl k/\Q k H'
theorem dZ{op:CmpOp}{r:R2}(ho:dz X (compareOp op) r)(ha:PE X a ta)(hb:PE X b tb)(hm:behindInMarks op b=false):PT X (.Compare a [op] [b] pos) (HF (gq r ta tb)):=by
 refine⟨λpins s σ H Q I h=>?_⟩
 refine wpAny_isTrue_Compare1 (bH (ha pins s σ H _ I h) λv s1 ⟨x,H1,I1,r1,q1⟩=>bH (hb pins s1 σ H1 _ I1 q1) λu s2 ⟨y,H2,I2,r2,q2⟩ =>
  bH (ho pins s2 σ H2 x y v u _ I2 r1 r2 q2) λc s3 ⟨z,H3,I3,r3,k,e,q3⟩=>?_) hm
 subst e
 cases r3
 exact wpAny_truthy_bool ⟨H3,I3,q3⟩
def Cm(r r':R2)(ta tb tc:TE):TE:=λσ H Q=>ta σ H λx H1=>tb σ H1 λy H2=>r x y H2 λz H3=>∃k,z=.bl k /\
 (if k=true then tc σ H3 λw' H4=>r' y w' H4 Q else Q (.bl false) H3)
theorem Cp{op op':CmpOp}{r r':R2}(ho:dz X (compareOp op) r)(ho':dz X (compareOp op') r')(ha:PE X a ta)(hb:PE X b tb)(hc:PE X c tc)
  (hm:lastMarks [op,op'] [b,c]=false:=by with_unfolding_all rfl):PE X (.Compare a [op,op'] [b,c] pos) (Cm r r' ta tb tc):=by
 refine⟨λpins s σ H Q I h=>?_⟩
 refine Compare_chain (bH (ha pins s σ H _ I h) λv s1 ⟨x,H1,I1,r1,q1⟩=>chain_link (bH (hb pins s1 σ H1 _ I1 q1) λu s2 ⟨y,H2,I2,r2,q2⟩ =>
  bH (ho pins s2 σ H2 x y v u _ I2 r1 r2 q2) λd s3 ⟨z,H3,I3,r3,k,e,q3⟩=>?_)) hm
 subst e
 cases r3
 refine wpAny_truthy_bool ?_
 cases k with
 |false=>exact ite_ff ⟨.bl false,H3,I3,rfl,q3⟩
 |true=>exact ite_tt (chain_last (bH (hc pins s3 σ H3 _ I3 q3) λw' s4 ⟨z',H4,I4,r4,q4⟩=>ho' pins s4 σ H4 y z' u w' Q I4 r2 r4 q4))
theorem Qv{op op':CmpOp}{r r':R2}(ho:dz X (compareOp op) r)(ho':dz X (compareOp op') r')(ha:PE X a ta)(hb:PE X b tb)(hc:PE X c tc)
  (hm:lastMarks [op,op'] [b,c]=false:=by with_unfolding_all rfl):PT X (.Compare a [op,op'] [b,c] pos) (HF (Cm r r' ta tb tc)):=by
 refine⟨λpins s σ H Q I h=>?_⟩
 refine isTrue_chain (bH (ha pins s σ H _ I h) λv s1 ⟨x,H1,I1,r1,q1⟩=>test_link (bH (hb pins s1 σ H1 _ I1 q1) λu s2 ⟨y,H2,I2,r2,q2⟩ =>
  bH (ho pins s2 σ H2 x y v u _ I2 r1 r2 q2) λd s3 ⟨z,H3,I3,r3,k,e,q3⟩=>?_)) hm
 subst e
 cases r3
 refine wpAny_truthy_bool ?_
 cases k with
 |false =>
  obtain⟨k',e',q'⟩:=q3
  cases e'
  exact ite_ff ⟨H3,I3,q'⟩
 |true =>
  refine ite_tt (test_last (bH (hc pins s3 σ H3 _ I3 q3) λw' s4 ⟨z',H4,I4,r4,q4⟩=>bH (ho' pins s4 σ H4 y z' u w' _ I4 r2 r4 q4) λd' s5 ⟨z2,H5,I5,r5,k2,e2,q5⟩=>?_))
  subst e2
  cases r5
  exact wpAny_truthy_bool ⟨H5,I5,q5⟩
noncomputable def yH(K:FZ)(x:V)(H:Hp)(k:Bool):Prop :=
 match x with
 |.non=>k=false
 |.bl b=>k=b
 |.int i=>k=(i != 0)
 |.str y=>y.length<=sizeLine/\k=((y.length:Int) != 0)
 |.yE y=>y.size<=sizeLine/\k=((y.size:Int) != 0)
 |.ref p=>(∃xs,cJ K H p xs/\k = !xs.isEmpty)\/(∃xs,dN K H p xs/\k = !xs.isEmpty)\/∃kvs,H p=some (.dK kvs)/\k = !kvs.isEmpty
 |_=>False
theorem ZM{κ : Type}{kvs:List (κ × V)}{vs:List (κ × Value)}(r:KV kvs vs):(!vs.isEmpty) = !kvs.isEmpty:=by
 cases r <;> rfl
theorem Qw{xs:List V}{its:List Value}(r:Vals xs its):(!its.toArray.isEmpty) = !xs.isEmpty:=by
 cases r <;> simp
theorem tL:(sizeLine:Nat)<2 ^ 63:=by rw[sizeLine_eq]; decide
theorem ZP:ZG X (λx H Q=>∃k,yH X.K x H k/\Q k H):=by
 intro pins s σ H x v Q I rx h
 obtain⟨k,e,q⟩:=h
 have hl:=tL
 have hs:sizeLine=16777216:=sizeLine_eq
 cases x with
 |non =>
  cases rx
  have e':k=false:=e
  subst e'
  exact truthy_none ⟨H,I,q⟩
 |bl b =>
  cases rx
  have e':k=b:=e
  subst e'
  exact wpAny_truthy_bool ⟨H,I,q⟩
 |int i =>
  obtain⟨t,rfl⟩:=rx
  have e':k=(i != 0):=e
  subst e'
  exact PySem.P.truthy_int ⟨H,I,q⟩
 |str y =>
  obtain⟨t,rfl⟩:=rx
  obtain⟨hy,e'⟩:y.length<=sizeLine/\k=((y.length:Int) != 0):=e
  subst e'
  exact PySem.P.truthy_str (by omega) ⟨H,I.tok _,q⟩
 |yE y =>
  obtain⟨t,rfl⟩:=rx
  obtain⟨hy,e'⟩:y.size<=sizeLine/\k=((y.size:Int) != 0):=e
  subst e'
  exact PySem.W.truthy_bytes (by omega) ⟨H,I.tok _,q⟩
 |ref p =>
  cases rx
  have e':(∃xs,cJ X.K H p xs/\k = !xs.isEmpty)\/(∃xs,dN X.K H p xs/\k = !xs.isEmpty)\/∃kvs,H p=some (.dK kvs)/\k = !kvs.isEmpty:=e
  rcases e' with⟨xs,hx,e'⟩|⟨xs,hx,e'⟩|⟨kvs,hx,e'⟩
  ·subst e'
   obtain⟨its,r,pl,hz⟩:=I.list hx
   have hlen:=r.length
   exact wpAny_truthy_list pl.isList (by simp only[List.size_toArray]; omega) ⟨H,I.tok _,by rw[Qw r]; exact q⟩
  ·subst e'
   obtain⟨its,r,pl,hz⟩:=I.tuple hx
   have hlen:=r.length
   exact truthy_tuple pl (by simp only[List.size_toArray]; omega) ⟨H,I.tok _,by rw[Qw r]; exact q⟩
  ·subst e'
   obtain⟨hz,hS,vs,r,m⟩:kvs.length<=sizeLine/\(p == sysModules)=false/\∃vs,KV kvs vs/\s.heap.DictOf (Hf X.prog X.w) p vs:=I.hok p _ hx
   have hlen:kvs.length=vs.length:=Paired.length r
   exact wpAny_truthy_dict hS m (by omega) ⟨H,I.tok _,by rw[ZM r]; exact q⟩
 |_=>exact(show False from e).elim
theorem eV(ha:PE X a ta)(he:∀whole,isTrue a X.env whole=(do let v <-whole; standAt a.pos; holding [v] (truthy v))) :
  PT X a (λσ H Q=>ta σ H λx H'=>∃k,yH X.K x H' k/\Q k H'):=by
 refine⟨λpins s σ H Q I h=>?_⟩
 exact isTrue_plain (bH (ha pins s σ H _ I h) λv s1 ⟨x,H1,I1,r1,q1⟩=>ZP pins s1 σ H1 x v Q I1 r1 q1) (he _)
theorem ZQ:dz X (binaryOp .Add) (λx y H Q=>∃i j,x=.str i/\y=.str j/\i.length+j.length<=sizeLine/\Q (.str (i++j)) H):=by
 intro pins s σ H x y v u Q I rx ry h
 obtain⟨i,j,rfl,rfl,hz,q⟩:=h
 obtain⟨t,rfl⟩:=rx
 obtain⟨t',rfl⟩:=ry
 exact add_str (λt' tk=>⟨.str (i++j),H,I.tok _,⟨_,rfl⟩,q⟩) hz
theorem vals1{x:V}{us:List Value}(r:Vals [x] us):∃u,us=[u]/\RelV x u:=by
 cases r with
 |cons r1 r2=>cases r2; exact⟨_,rfl,r1⟩
theorem vals2{x y:V}{us:List Value}(r:Vals [x,y] us):∃u w',us=[u,w']/\RelV x u/\RelV y w':=by
 cases r with
 |cons r1 r2 =>
  cases r2 with
  |cons r3 r4=>cases r4; exact⟨_,_,rfl,r1,r3⟩
theorem Qx:iV X (.builtin "abs") (λxs H Q=>∃i,xs=[.int i]/\Q (.int (if i<0 then -i else i)) H):=by
 intro pins s σ H xs us Q I r h
 obtain⟨i,rfl,q⟩:=h
 obtain⟨u,rfl,t,rfl⟩:=vals1 r
 exact call_abs_int λu tk=>⟨.int (if i<0 then -i else i),H,I.tok _,⟨_,rfl⟩,q⟩
theorem ZR(hc:X.calm=true):iV X (.builtin "max") (λxs H Q=>∃i j,xs=[.int i,.int j]/\Q (.int (if j > i then j else i)) H):=by
 intro pins s σ H xs us Q I r h
 obtain⟨i,j,rfl,q⟩:=h
 obtain⟨u,w',rfl,⟨t,rfl⟩,⟨t',rfl⟩⟩:=vals2 r
 refine max_two_ints (I.ok.hd hc) λh' tk k=>⟨_,H,I.kept k,?_,q⟩
 by_cases hj:j > i
 ·rw[if_pos hj,if_pos hj]; exact⟨_,rfl⟩
 ·rw[if_neg hj,if_neg hj]; exact⟨_,rfl⟩
theorem ZS(hc:X.calm=true):iV X (.builtin "min") (λxs H Q=>∃i j,xs=[.int i,.int j]/\Q (.int (if j<i then j else i)) H):=by
 intro pins s σ H xs us Q I r h
 obtain⟨i,j,rfl,q⟩:=h
 obtain⟨u,w',rfl,⟨t,rfl⟩,⟨t',rfl⟩⟩:=vals2 r
 refine min_two_ints (I.ok.hd hc) λh' tk k=>⟨_,H,I.kept k,?_,q⟩
 by_cases hj:j<i
 ·rw[if_pos hj,if_pos hj]; exact⟨_,rfl⟩
 ·rw[if_neg hj,if_neg hj]; exact⟨_,rfl⟩
end
end L2
namespace L2
open PySem PySem.Spec PyProof.Rows
section
variable {prog:Program}{w:World}{A:Around}{E:Value->Shared->Prop}{s:Shared}{K:FZ}{x dx C f:Addr}{mA:Str->Option Value}{name:Str}{v:Value}
end
section
variable {P:Program}{w:World}{H H':Hp}{h h':Heap}{a C dx:Addr}{fs fs':List (Str × V)}
end
section
variable {X:Cx}{pins:List (Addr × Obj)}{σ : St}{H:Hp}{s:Shared}{a C dx:Addr}{fs:List (Str × V)}{f:Str}{v:V}{A:Around}{E:Value->Shared->Prop}
end
section
variable {X:Cx}{o e value:Expr}{f:Str}{pos pos' tpos:Pos}{ta tv:TE}
end
section
variable {X:Cx}{pins:List (Addr × Obj)}{σ : St}{H:Hp}{s:Shared}{A:Around}{E:Value->Shared->Prop}{Q:Value->Shared->Prop}{c:Value}{b:Bool}
end
end L2
namespace L2
open PySem PySem.Spec PyProof.Rows
structure fO(k:Nat)(A:Around):Prop where
 hd:A.handled=none
 dp:A.depth+3*k+5<recursionLimit
 un:A.units+16*k+200<cLine
 gd:A.guards=some []:=by rfl
theorem fO.mono{j k:Nat}{A:Around}(r:fO k A)(h:j<=k):fO j A:=⟨r.hd,by have:=r.dp; omega,by have:=r.un; omega,r.gd⟩
theorem fO.deeper{k:Nat}{A:Around}(r:fO (k+1) A)(env:Env):fO k (A.deeper env) :=
 ⟨r.hd,by have:=r.dp; show A.depth+1+3*k+5<_; omega,by have:=r.un; show A.units+3+16*k+200<_; omega,r.gd⟩
theorem fO.depth{k:Nat}{A:Around}(r:fO k A):A.depth<recursionLimit:=by have:=r.dp; omega
theorem fO.units{k:Nat}{A:Around}(r:fO k A):A.units+64<cLine:=by have:=r.un; omega
def rE:TA:=λ_ H Q=>Q [] H
def kZ(ta:TE)(tr:TA):TA:=λσ H Q=>ta σ H λx H1=>tr σ H1 λxs H2=>Q (x::xs) H2
section
variable {X:Cx}{e:Expr}{es:List Expr}{te:TE}{t:TA}{pos:Pos}
theorem aH:PA X [] rE:=⟨λ_ _ _ _ H Q I h=>Calls.spliced_nil ⟨[],H,I,.nil,h⟩⟩
theorem oF(ha:PE X e te)(hr:PA X es t)(hs:starEach (e::es) X.env=(false,eval e X.env)::starEach es X.env:=by rfl):PA X (e::es) (kZ te t):=by
 refine⟨λpos pins s σ H Q I h=>?_⟩
 rw[hs]
 show wpAny _ _ (spliced ((false,eval e X.env)::backTo pos (starEach es X.env))) _ _ s
 refine Calls.spliced_cons (bH (ha pins s σ H _ I h) λu s1 ⟨x,H1,I1,r1,q1⟩=>?_)
 exact bH (hr pos pins s1 σ H1 _ I1 q1) λus s2 ⟨xs,H2,I2,r2,q2⟩=>⟨x::xs,H2,I2,.cons r1 r2,q2⟩
def Qy(t:TA):TE:=λσ H Q=>t σ H λxs H1=>xs.length<=sizeLine/\∀p,H1 p=none->Q (.ref p) (upd H1 p (.tup xs))
def Qz(t:TA):TE:=λσ H Q=>t σ H λxs H1=>xs.length<=sizeLine/\∀p,H1 p=none->Q (.ref p) (upd H1 p (.lst xs))
theorem jL{x1}(h:PA X es t):PE X (.Tuple es x1 pos) (Qy t):=by
 refine⟨λpins s σ H Q I hq=>?_⟩
 refine wpAny_Tuple_spliced (bH (h pos pins s σ H _ I hq) λus s1 ⟨xs,H1,I1,r,z,q⟩=>⟨by rw[<-r.length]; exact z,?_⟩)
 have hf:H1 s1.heap.objs.size=none:=I1.hok.fresh (Nat.le_refl _)
 refine⟨.ref s1.heap.objs.size,upd H1 s1.heap.objs.size (.tup xs),I1.laid (t':=s1.toks) (λb u e=>Heap.get?_push_of_some _ e) (Nat.le_refl _) ?_,rfl,q _ hf⟩
 exact⟨z,us,r,⟨_,Heap.get?_push_size _ rfl,rfl,_,rfl⟩⟩
theorem rF(h:PA X es t):PE X (.List es pos) (Qz t):=by
 refine⟨λpins s σ H Q I hq=>?_⟩
 refine wpAny_List_spliced (bH (h pos pins s σ H _ I hq) λus s1 ⟨xs,H1,I1,r,z,q⟩=>⟨by rw[<-r.length]; exact z,?_⟩)
 have hf:H1 s1.heap.objs.size=none:=I1.hok.fresh (Nat.le_refl _)
 refine⟨.ref s1.heap.objs.size,upd H1 s1.heap.objs.size (.lst xs),I1.laid (t':=s1.toks) (λb u e=>Heap.get?_push_of_some _ e) (Nat.le_refl _) ?_,rfl,q _ hf⟩
 exact⟨z,us,0,r,Heap.get?_push_size _ rfl⟩
end
abbrev Sp:=List V->Hp->VK->XK->Prop
abbrev jY:=List Env->Hp->Shared->XK->Value->Shared->Prop
structure Cq(P:Program)(w:World)(K:FZ)(mg:Str->Option Value)(base:Heap)(A:Around)(outer:List Env)(s:Shared)(H:Hp):Prop where
 frames:A.frames=some outer
 mod:Mod K mg base
 bs:∀b o,base.get? b=some o->s.heap.get? b=some o/\H b=none
 qY:base.objs.size<=s.heap.objs.size
 lM:s.heap.FunFrames base outer
 tE:∀b∈frs outer,H b=none
 hok:fJ P w H s.heap
 bare:AllBare s.gens
def CE(outer:List Env)(P:Program)(w:World)(H:Hp)(s:Shared)(Q:VK)(u:Value)(s':Shared):Prop :=
 ∃v H',s'.os=s.os/\AllBare s'.gens/\Un (frs outer) [] H H' s.heap s'.heap/\fJ P w H' s'.heap/\RelV v u/\Q v H'
def CR(CX:jY)(outer:List Env)(P:Program)(w:World)(H:Hp)(s:Shared)(Q:VK)(E:XK)(r:Result)(s':Shared):Prop :=
 match r with
 |.ok (.ret u)=>CE outer P w H s Q u s'
 |.ok _=>False
 |.error e=>CX outer H s E e s'
structure lg(P:Program)(w:World)(K:FZ)(mg:Str->Option Value)(base:Heap)(CX:jY)(k:Nat)(f:Addr)(fd:FuncData)(ps:List Str)(sp:Sp):Prop where
 len:∀vs H Q E,sp vs H Q E->vs.length=ps.length
 run:∀(A:Around) (outer:List Env) (s:Shared) (H:Hp) (args:Args) (us:List Value) (vs:List V) (Q:VK) (E:XK),fO k A->Cq P w K mg base A outer s H->BindsTo s fd args (ps.zip us)->Vals vs us->sp vs H Q E ->
  codeAny (model P w) A (.call (.ref f) args) (CR CX outer P w H s Q E) s
theorem lg.mono{P:Program}{w:World}{K:FZ}{mg:Str->Option Value}{base:Heap}{CX:jY}{j k:Nat}{f:Addr}{fd:FuncData}{ps:List Str}{sp:Sp}(F:lg P w K mg base CX j f fd ps sp)(h:j<=k) :
  lg P w K mg base CX k f fd ps sp:=⟨F.len,λA outer s H args us vs Q E hr=>F.run A outer s H args us vs Q E (hr.mono h)⟩
theorem lg.imp{P:Program}{w:World}{K:FZ}{mg:Str->Option Value}{base:Heap}{CX:jY}{k:Nat}{f:Addr}{fd:FuncData}{ps:List Str}{sp QB:Sp}(F:lg P w K mg base CX k f fd ps sp)
  (h:∀vs H Q E,QB vs H Q E->sp vs H Q E):lg P w K mg base CX k f fd ps QB :=
 ⟨λvs H Q E q=>F.len vs H Q E (h _ _ _ _ q),λA outer s H args us vs Q E hr he hb hv hs=>F.run A outer s H args us vs Q E hr he hb hv (h _ _ _ _ hs)⟩
section
variable {X:Cx}{pins:List (Addr × Obj)}{σ : St}{H:Hp}{s s':Shared}
theorem Inv.env0(I:Inv X pins σ H s):Cq X.prog X.w X.K X.mg X.base X.A X.stack s H :=
 ⟨I.ok.frames,I.ok.mod,I.bs,Nat.le_trans I.ok.qY I.sz,I.stack,I.Bx,I.hok,I.bare⟩
theorem Inv.after{Q:VK}{u:Value}(I:Inv X pins σ H s)(h:CE X.stack X.prog X.w H s Q u s'):EP X pins σ Q u s':=by
 obtain⟨v,H',os,bare,un,hok,r,q⟩:=h
 obtain⟨hh,g,d,t,os'⟩:=s'
 obtain rfl:os'=s.os:=os
 exact⟨v,H',I.call (h':=hh) (g':=g) (d':=d) (t':=t) (ch:=[]) un hok bare (λb z=>absurd z (by simp)),r,q⟩
end
def oG(sp:Sp)(rG:List V)(E:XK)(t:TA):TE:=λσ H Q=>t σ H λvs H1=>sp (vs++rG) H1 Q E
def Binds(K:FZ)(fd:FuncData)(ps:List Str)(ds:List Value):Prop :=
 ∀(s:Shared) (us:List Value),K.In s.heap->(us++ds).length=ps.length->BindsTo s fd ⟨us,[]⟩ (ps.zip (us++ds))
theorem Binds.all{K:FZ}{fd:FuncData}{ps:List Str}(h:∀us:List Value,us.length=ps.length->bindArgs fd ⟨us,[]⟩=pure (ps.zip us)):Binds K fd ps []:=λs us _ hl=>by
 rw[List.append_nil]at hl ⊢
 exact .of_eq (h us hl)
def Passes(CX:jY)(X:Cx)(E:XK):Prop:=∀(pins:List (Addr × Obj)) (σ : St) (H:Hp) (s:Shared) (e:Value) (s':Shared),Inv X pins σ H s->CX X.stack H s E e s'->X.xe e s'
section
variable {X:Cx}{CX:jY}{k:Nat}{f C:Addr}{fd:FuncData}{ps:List Str}{sp:Sp}{rG:List V}{ds:List Value}{E:XK}{x m:Str}{p pos apos:Pos}{e o:Expr}{es:List Expr}{ta:TE}{t:TA}
theorem ZV{pins:List (Addr × Obj)}{σ : St}{H:Hp}{s:Shared}{Q:VK}{us:List Value}{vs:List V}(F:lg X.prog X.w X.K X.mg X.base CX k f fd ps sp)(hr:fO k X.A)(hb:Binds X.K fd ps ds)(hd:Vals rG ds)(hx:Passes CX X E)
  (I:Inv X pins σ H s) (r:Vals vs us) (h:sp (vs++rG) H Q E):wpAny (model X.prog X.w) X.A (call (.ref f) us) (EP X pins σ Q) X.xe s:=by
 have r2:Vals (vs++rG) (us++ds):=r.append hd
 have hl:(us++ds).length=ps.length:=by rw[<-r2.length]; exact F.len _ _ _ _ h
 refine wpAny_call (codeAny_mono (F.run X.A X.stack s H ⟨us,[]⟩ (us++ds) (vs++rG) Q E hr I.env0 (hb s us I.jV hl) r2 h) λr s' hq=>?_)
 cases r with
 |error e=>exact hx pins σ H s e s' I hq
 |ok fl =>
  cases fl with
  |ret u=>exact I.after hq
  |next=>exact False.elim hq
  |brk=>exact False.elim hq
  |cont=>exact False.elim hq
theorem ZW(F:lg X.prog X.w X.K X.mg X.base CX k f fd ps sp)(hr:fO k X.A)(hg:Gl X x)(hm:X.mg x=some (.ref f))(hk:PySem.W.keepIn X.K (.ref f)=true)(hb:Binds X.K fd ps ds)(hd:Vals rG ds)(hx:Passes CX X E)
  (ha:PA X (e::es) t) (hdb:(x == ("__debug__" : Str))=false:=by decide) (he:starEach (e::es) X.env=(false,eval e X.env)::starEach es X.env:=by rfl) (hpl:(backTo pos (starEach es X.env)).any (·.1)=false:=by rfl) :
  PE X (.Call (.Name x p) (e::es) [] pos) (oG sp rG E t):=by
 refine⟨λpins s σ H Q I h=>?_⟩
 refine wpAny_Call_Name_kw (Hj I hg hm ?_ hdb)
 refine PySem.W.callWith_K (h₀ := X.base) I.ok.mod.Hg hk (bH (ha pos pins s σ H _ I h) λus s1 ⟨vs,H1,I1,r,q⟩=>⟨I1.jV,?_⟩) he hpl
 exact ZV F hr hb hd hx I1 r q
end
section
variable {X:Cx}{CX:jY}{k:Nat}{f C:Addr}{fd:FuncData}{ps ks:List Str}{sp:Sp}{E:XK}{x m:Str}{p pos apos kpos:Pos}{e o:Expr}{es:List Expr}{kws:List Keyword}{te ta:TE}{t tk:TA}{nm:Option Str}
variable {g:List Value->List Value->List Value}{gV:List V->List V->List V}
end
structure pU(N P:List Str)(sc:Scope):Prop where
 kind:sc.kind=.function
 co:sc.isCoroutine=false
 gen:sc.isGenerator=false
 nd:N.Nodup
 pre:N.take P.length=P
 par:∀x∈P,sc.names.lookup x=some .local\/sc.names.lookup x=some .cell
 HJ:∀y∈sc.names,y.2 ≠ .free
theorem QC{kindOf:Str->Option NameKind}{x:Str}:∀{binds:List (Str × Value)} {m:Str->Option Value},(∀v,(x,v)∉binds)->bindL kindOf binds m x=m x
 | [],_,_=>rfl
 |(n,v)::r,m,h=>by
  unfold bindL
  rw[QC λw hw=>h w (List.mem_cons_of_mem _ hw)]
  split
  ·have:x≠n:=by rintro rfl; exact h v List.mem_cons_self
   simp[this]
  ·rfl
theorem QD{kindOf:Str->Option NameKind}{x:Str}:∀{binds:List (Str × Value)} {m:Str->Option Value},(∀v,(x,v)∉binds)->bindC kindOf binds m x=m x
 | [],_,_=>rfl
 |(n,v)::r,m,h=>by
  unfold bindC
  rw[QD λw hw=>h w (List.mem_cons_of_mem _ hw)]
  split
  ·rfl
  ·have:x≠n:=by rintro rfl; exact h v List.mem_cons_self
   simp[this]
theorem QG{kindOf:Str->Option NameKind}{x:Str}{v:Value}:∀{P:List Str} {vs:List Value} {i:Nat} {m:Str->Option Value},P.Nodup->P[i]?=some x->vs[i]?=some v->kindOf x=some .local ->
  bindL kindOf (P.zip vs) m x=some v
 | [],_,_,_,_,h,_,_=>by simp at h
 |_::_,[],_,_,_,_,h,_=>by simp at h
 |p::P,w::vs,0,m,nd,h1,h2,hk=>by
  simp at h1 h2; subst h1; subst h2
  show bindL kindOf ((p,w)::P.zip vs) m p=_
  unfold bindL
  rw[QC λv hv=>(List.nodup_cons.mp nd).1 (List.of_mem_zip hv).1,if_pos hk]
  simp
 |p::P,w::vs,i+1,m,nd,h1,h2,hk=>by
  show bindL kindOf ((p,w)::P.zip vs) m x=_
  unfold bindL
  exact QG (i:=i) (List.nodup_cons.mp nd).2 (by simpa using h1) (by simpa using h2) hk
theorem QH{kindOf:Str->Option NameKind}{x:Str}{v:Value}:∀{P:List Str} {vs:List Value} {i:Nat} {m:Str->Option Value},P.Nodup->P[i]?=some x->vs[i]?=some v->kindOf x≠some .local ->
  bindC kindOf (P.zip vs) m x=some v
 | [],_,_,_,_,h,_,_=>by simp at h
 |_::_,[],_,_,_,_,h,_=>by simp at h
 |p::P,w::vs,0,m,nd,h1,h2,hk=>by
  simp at h1 h2; subst h1; subst h2
  show bindC kindOf ((p,w)::P.zip vs) m p=_
  unfold bindC
  rw[QD λv hv=>(List.nodup_cons.mp nd).1 (List.of_mem_zip hv).1,if_neg hk]
  simp
 |p::P,w::vs,i+1,m,nd,h1,h2,hk=>by
  show bindC kindOf ((p,w)::P.zip vs) m x=_
  unfold bindC
  exact QH (i:=i) (List.nodup_cons.mp nd).2 (by simpa using h1) (by simpa using h2) hk
def start(N:List Str)(vs:List V):St:=vs.map some++List.replicate (N.length-vs.length) none
noncomputable def jM(CX:jY)(P:Program)(w:World)(K:FZ)(mg:Str->Option Value)(base:Heap)(N:List Str)(qual:Str)(scope:Scope)(f:Addr)(cd:Value)(A:Around)(outer:List Env)(s:Shared)(H:Hp)(E:XK):Cx where
 prog:=P
 w:=w
 K:=K
 mg:=mg
 base:=base
 A:=A.deeper (envOfC qual scope s.heap.objs.size f cd)
 N:=N
 s₀ := s
 H₀ := H
 env:=envOfC qual scope s.heap.objs.size f cd
 outer:=outer
 stack:=envOfC qual scope s.heap.objs.size f cd::outer
 ex:=[]
 calm:=true
 fn:=λ_=>true
 pn:=[]
 xe:=λe s'=>wpAny (model P w) (A.deeper (envOfC qual scope s.heap.objs.size f cd)) (leaving (envOfC qual scope s.heap.objs.size f cd) e) (λ_ s''=>CX outer H s E e s'') (λe' s''=>CX outer H s E e' s'') s'
theorem QJ{sc:Scope}{n:Nat}{x:Str}(h:sc.names.lookup x=some .cell):∃c,(cellsFrom n sc.names []).lookup x=some c:=by
 have q:=PySem.W.cellsFrom_some sc.names n [] (.inl h)
 exact Option.isSome_iff_exists.mp q
theorem ZX{CX:jY}{P:Program}{w:World}{K:FZ}{mg:Str->Option Value}{base:Heap}{N ps:List Str}{qual:Str}{scope:Scope}{f:Addr}{cd:Value}{A:Around}{outer:List Env}{s s1:Shared}{H:Hp}{E:XK}{us:List Value}{vs:List V}
  (S:pU N ps scope) (hd:A.handled=none) (e0:Cq P w K mg base A outer s H) (hl:vs.length=ps.length) (r:Vals vs us)
  (x:InCallC s s.heap.objs.size (bindL (envOfC qual scope s.heap.objs.size f cd).kindOf (ps.zip us) λ_=>none) (cellsFrom (s.heap.objs.size+1) scope.names []) (bindC (envOfC qual scope s.heap.objs.size f cd).kindOf (ps.zip us) λ_=>none) s1) :
  Inv (jM CX P w K mg base N qual scope f cd A outer s H E) [] (start N vs) H s1:=by
 have hpl:ps.length<=N.length:=by have:=congrArg List.length S.pre; rw[List.length_take]at this; omega
 obtain⟨h1,tk,rfl,hk⟩:=x.done
 have yI:∀b:Addr,b∉(jM CX P w K mg base N qual scope f cd A outer s H E).ex:=λb z=>absurd (show b∈([]:List Addr)from z) (by simp)
 refine⟨⟨e0.mod,S.kind,rfl,rfl,Nat.le_refl _,λy z c h1 h2=>?_,λy hy=>?_,λy c _ h=>?_,λ_=>hd,Around.frames_deeper e0.frames,.inr ⟨rfl,rfl⟩,λb z=>absurd z (yI b),e0.bs,e0.qY,λb _ _=>yI b,λb z=>absurd z (yI b),e0.lM,e0.tE⟩,
  rfl,e0.bare,Un.kept hk,⟨_,x.toInCall.ns,λi y v h1 h2 h3=>?_⟩,λy c h=>⟨_,x.cell y c h⟩,e0.hok.fresh (Nat.le_refl _),λy c h=>?_,λp hp=>absurd (show p∈([]:List (Addr × Obj))from hp) (by simp),e0.hok.kept hk,?_⟩
 ·exact name_of_addr x.apart (PySem.mem_of_lookup h1) (PySem.mem_of_lookup h2)
 ·have hy:scope.names.lookup y=some .cell\/scope.names.lookup y=some .free:=hy
  rcases hy with hy|hy
  ·exact QJ hy
  ·exact absurd rfl (S.HJ _ (PySem.mem_of_lookup hy))
 ·exact Nat.le_of_lt (x.above y c (PySem.mem_of_lookup h))
 ·have hi:i<vs.length:=by
   unfold start at h2
   by_cases hi:i<vs.length
   ·exact hi
   ·rw[List.getElem?_append_right (by simpa using hi)]at h2
    rw[List.getElem?_replicate]at h2
    split at h2 <;> cases h2
  have ha:vs[i]?=some v:=by
   unfold start at h2
   rw[List.getElem?_append_left (by simpa using hi),List.getElem?_map]at h2
   cases e:vs[i]? with
   |none=>rw[e]at h2; cases h2
   |some a=>rw[e]at h2; cases h2; rfl
  obtain⟨u,hu,rv⟩:=r.get ha
  have hp:ps[i]?=some y:=by
   rw[<-S.pre,List.getElem?_take_of_lt (by omega)]; exact h1
  have QK:ps.Nodup:=by rw[<-S.pre]; exact S.nd.sublist (List.take_sublist _ _)
  refine⟨u,rv,?_⟩
  rcases S.par y (List.mem_of_getElem? hp)with k|k
  ·exact .inl ⟨k,QG QK hp hu k⟩
  ·obtain⟨c,e⟩:=QJ (n:=s.heap.objs.size+1) k
   refine .inr ⟨.inl k,c,e,?_⟩
   have q:=x.cell y c e
   rw[QH QK hp hu (by show scope.names.lookup y≠_; rw[k]; decide)]at q
   exact q
 ·exact e0.hok.fresh (Nat.le_of_lt (x.above y c (PySem.mem_of_lookup h)))
 ·unfold start
  show _=N.length
  rw[List.length_append,List.length_map,List.length_replicate]
  omega
theorem QL{CX:jY}{P:Program}{w:World}{K:FZ}{mg:Str->Option Value}{base:Heap}{k:Nat}{f:Addr}{name qual:Str}{params:Arguments}{body:List Stmt}{scope:Scope}{dV kV doc pm cdv ct oc:Value}{an od:Option Addr}
  {osl:Array (Option Value)} {N ps:List Str} {sp:Sp} (lk:K.lookup f=some ⟨oc,od,.func (PySem.W.fnOf name qual params body scope dV kV doc pm an cdv ct),osl⟩) (hcd:PySem.W.codeIn K cdv qual=true) (S:pU N ps scope)
  (len:∀vs H Q E,sp vs H Q E->vs.length=ps.length)
  (hbody:∀(A:Around) (outer:List Env) (s:Shared) (H:Hp) (vs:List V) (Q:VK) (E:XK),fO k (A.deeper (envOfC qual scope s.heap.objs.size f cdv))->sp vs H Q E ->
   ∃t,jo (jM CX P w K mg base N qual scope f cdv A outer s H E) body t/\t {nx:=λ_ H'=>Q .non H',rt:=Q } (start N vs) H) :
  lg P w K mg base CX (k+1) f (PySem.W.fnOf name qual params body scope dV kV doc pm an cdv ct) ps sp:=by
 refine⟨len,λA outer s H args us vs Q E hr e0 hb r hsp=>?_⟩
 have hl:=len _ _ _ _ hsp
 have KX:K.In s.heap:=e0.mod.Hg.keeps λb o e=>(e0.bs b o e).1
 have lim:s.heap.NoLimit:=e0.mod.nolimit.keeps λb o e=>(e0.bs b o e).1
 have hkind:∀y∈ps.zip us,scope.names.lookup y.1=some .local\/(scope.names.lookup y.1=some .cell/\((cellsFrom (s.heap.objs.size+1) scope.names []).lookup y.1).isSome=true):=λ⟨n,v⟩ hy=>by
  rcases S.par n (List.of_mem_zip hy).1 with q|q
  ·exact .inl q
  ·exact .inr ⟨q,PySem.W.cellsFrom_some _ _ _ (.inl q)⟩
 refine codeAny_call_function hr.depth (KX _ _ lk) rfl S.co S.gen rfl (PySem.W.codeRec_of KX hcd) (hb _ _ _ _ ?_)
 refine wpAny_newFunctionEnv_cells S.kind hkind λenv he s1 x=>?_
 subst he
 refine⟨lim.keeps x.toInCall.keep,codeAny_func ?_⟩
 obtain⟨t,ht,hq⟩:=hbody A outer s H vs Q E (hr.deeper _) hsp
 have I:Inv (jM CX P w K mg base N qual scope f cdv A outer s H E) [] (start N vs) H s1:=ZX S hr.hd e0 hl r x
 refine wpAny_mono (ht [] s1 (start N vs) H _ I hq) (λfl s' hs=>?_) λe s' hs=>hs
 have fin:∀{σ':St} {H':Hp} {v:V} {u:Value},Inv (jM CX P w K mg base N qual scope f cdv A outer s H E) [] σ' H' s'->RelV v u->Q v H'->CE outer P w H s Q u s' :=
  λ{σ' H' v u} J rv q=>⟨v,H',J.os,J.bare,J.base,J.hok,rv,q⟩
 cases fl with
 |ret u =>
  obtain⟨v,σ',H',J,rv,q⟩:=hs
  exact fin J rv q
 |next =>
  obtain⟨σ',H',J,q⟩:=hs
  exact fin (v:=V.non) (u:=Value.none) J rfl q
 |brk =>
  obtain⟨_,_,_,q⟩:=hs
  exact False.elim q
 |cont =>
  obtain⟨_,_,_,q⟩:=hs
  exact False.elim q
end L2
namespace L2
open PySem PySem.Spec PyProof.Rows
section
variable {X:Cx}{x:Str}{p pos:Pos}{e:Expr}{es:List Expr}{t:TA}{id T:String}{r:List V->Hp->VK->Prop}
def jN(r:List V->Hp->VK->Prop)(t:TA):TE:=λσ H Q=>t σ H λvs H1=>r vs H1 Q
theorem QM(hc:iV X (.builtin id) r)(hg:Gl X x)(hm:X.mg x=none)(hv:bootBuiltins x=some (.builtin id))(ha:PA X (e::es) t)(hn:x ≠ "__name__" := by decide) (hdb:(x == ("__debug__" : Str))=false:=by decide)
  (he:starEach (e::es) X.env=(false,eval e X.env)::starEach es X.env:=by rfl) (hpl:(backTo pos (starEach es X.env)).any (·.1)=false:=by rfl):PE X (.Call (.Name x p) (e::es) [] pos) (jN r t):=by
 refine⟨λpins s σ H Q I h=>?_⟩
 refine wpAny_Call_Name_kw (tH I hg hm hv ?_ hn hdb)
 exact PyProof.Rows.callWith_builtin1 (bH (ha pos pins s σ H _ I h) λus s1 ⟨vs,H1,I1,r1,q1⟩=>hc pins s1 σ H1 vs us Q I1 r1 q1) he hpl
theorem Z0(hc:iV X (.type T) r)(hg:Gl X x)(hm:X.mg x=none)(hv:bootBuiltins x=some (.type T))(ha:PA X (e::es) t)(hn:x ≠ "__name__" := by decide) (hdb:(x == ("__debug__" : Str))=false:=by decide)
  (he:starEach (e::es) X.env=(false,eval e X.env)::starEach es X.env:=by rfl) (hpl:(backTo pos (starEach es X.env)).any (·.1)=false:=by rfl):PE X (.Call (.Name x p) (e::es) [] pos) (jN r t):=by
 refine⟨λpins s σ H Q I h=>?_⟩
 refine wpAny_Call_Name_kw (tH I hg hm hv ?_ hn hdb)
 exact PyProof.Rows.callWith_type1 (bH (ha pos pins s σ H _ I h) λus s1 ⟨vs,H1,I1,r1,q1⟩=>hc pins s1 σ H1 vs us Q I1 r1 q1) he hpl
end
end L2
namespace HT
open PySem PyProof.Rows
def lexLt:List Int->List Int->Bool
 | [],[]=>false
 | [],_::_=>true
 |_::_,[]=>false
 |x::xs,y::ys=>if x=y then lexLt xs ys else decide (x<y)
theorem Z1(x y:Int)(xs ys:List Int):lexLt (x::xs) (y::ys)=if x=y then lexLt xs ys else decide (x<y):=rfl
theorem Z2:lexLt [] []=false:=rfl
theorem Z4(y:Int)(ys:List Int):lexLt [] (y::ys)=true:=rfl
theorem Z5(x:Int)(xs:List Int):lexLt (x::xs) []=false:=rfl
theorem Z6(A:Around)(s:Shared)(a:Int)(t:Tok)(c:Int)(u:Tok):∃e,SeqAt.EqAt A s (.int a t) (.int c u) e/\(e=true↔a=c) :=
 ⟨(a == c),SeqAt.EqAt.int_int a t c u,by simp⟩
theorem Z7(A:Around)(s:Shared)(a:Int)(t:Tok)(c:Int)(u:Tok)(prog:Program)(w:World)(E:Value->Shared->Prop)(Q:Value->Shared->Prop)(h:Q (.bool (decide (a<c))) s) :
  wpAny (model prog w) A (richCompare .Lt (.int a t) (.int c u)) Q E s :=
 (PyProof.Rows.lt_int h:wpAny (model prog w) A (compareOp .Lt (.int a t) (.int c u)) Q E s)
section
open PySem.SeqAt
open PySem.AutoSeq1 (wpAny_loadPart')
open PySem.MeetsSeq PySem.MeetsSeq2 PySem.MeetsSeq3
theorem Z8(l b:Addr)(items items2:Array Value)(n n2:Nat)(dd dd2:Option Addr)(sl sl2:Array (Option Value))(ns ms:List Int)(hi:IntsAre items.toList ns)(hj:IntsAre items2.toList ms) :
  Meets (Builtin.«tuple.__lt__» ⟨[.ref l,.ref b],[]⟩)
   (λ_ R s=>s.heap.get? l=some {cls:=.type "tuple",dict:=dd,data:=.seq items n,slots:=sl }∧s.heap.get? b=some {cls:=.type "tuple",dict:=dd2,data:=.seq items2 n2,slots:=sl2 } ∧
    R (.ok (.ret (.bool (lexLt ns ms)))) s) :=
 .of_wp λprog w A R s h=>by
  obtain⟨hp,g,d,tk,os⟩:=s; obtain⟨hl,hb,h⟩:=h
  have f2:=AutoSeq1.sub_tuple_tuple
  have z1:items.size=ns.length:=by rw[<-hi.length]; simp
  have z2:items2.size=ms.length:=by rw[<-hj.length]; simp
  wp_walk using wpAny_loadPart' hl,wpAny_loadPart' hb,wpAny_forIn_list _ (λrest b s'=>b.1=none/\s'=⟨hp,g,d,tk,os⟩/\∃(vs ws:List Value) (ns' vV:List Int),rest=vs.zip ws /\
   IntsAre vs ns'/\IntsAre ws vV/\ns'.length+items2.size=vV.length+items.size/\R (.ok (.ret (.bool (lexLt ns' vV)))) ⟨hp,g,d,tk,os⟩) _
  case turn =>
   rintro⟨y,x⟩ rest b s' ⟨hb',rfl,vs,ws,ns',vV,hz,HN,hwi,hlen,hR⟩
   cases HN with
   |nil=>rw[List.zip_nil_left]at hz; cases hz
   |cons a t Z9 =>
    cases hwi with
    |nil=>rw[List.zip_nil_right]at hz; cases hz
    |cons c u aac =>
     rw[List.zip_cons_cons]at hz
     injection hz with hyx hrest
     injection hyx with hy hx
     subst hy hx
     rw[Z1]at hR
     simp only[List.length_cons]at hlen
     obtain⟨e,he,hiff⟩:=Z6 A.in1 ⟨hp,g,d,tk,os⟩ a t c u
     refine wpAny_bind (he prog w _ _ ?_)
     cases e with
     |true =>
      rw[if_pos (hiff.mp rfl)]at hR
      wp_walk
      exact⟨rfl,rfl,_,_,_,_,hrest,Z9,aac,by omega,hR⟩
     |false =>
      rw[if_neg (λq=>absurd (hiff.mpr q) Bool.false_ne_true)]at hR
      have hri:=Z7 A.in1 ⟨hp,g,d,tk,os⟩ a t c u prog w
      wp_walk using hri
      exact⟨_,rfl,by simpa using hR⟩
  case fin =>
   rintro⟨b1,b2⟩ s' ⟨hb',rfl,vs,ws,ns',vV,hz,HN,hwi,hlen,hR⟩
   simp only at hb'
   subst hb'
   have hv:lexLt ns' vV=decide (items.size<items2.size):=by
    cases HN with
    |nil =>
     cases hwi with
     |nil =>
      simp only[List.length_nil]at hlen
      rw[Z2]
      exact(decide_eq_false (by omega)).symm
     |cons c u hw =>
      simp only[List.length_nil,List.length_cons]at hlen
      rw[Z4]
      exact(decide_eq_true (by omega)).symm
    |cons a t hv =>
     cases hwi with
     |nil =>
      simp only[List.length_nil,List.length_cons]at hlen
      rw[Z5]
      exact(decide_eq_false (by omega)).symm
     |cons c u hw =>
      rw[List.zip_cons_cons]at hz
      cases hz
   rw[hv]at hR
   wp_walk
   exact⟨_,rfl,by simpa[Builtin.Tuple.tupleCompareSizes]using hR⟩
  case h =>
   exact⟨rfl,rfl,items.toList,items2.toList,ns,ms,rfl,hi,hj,by omega,h⟩
end
section
variable {prog:Program}{w:World}{A:Around}{E:Value->Shared->Prop}{s:Shared}
theorem aad{l b:Addr}{items items2:Array Value}{ns ms:List Int}{Q:Value->Shared->Prop}(hl:IsTup s.heap l items)(hb:IsTup s.heap b items2)(hi:IntsAre items.toList ns)(hj:IntsAre items2.toList ms)
  (hu:A.units<cLine) (h:Q (.bool (lexLt ns ms)) s):wpAny (model prog w) A (compareOp .Lt (.ref l) (.ref b)) Q E s:=by
 obtain⟨⟨cls,dd,data,sl⟩,ho,hc,n,hd⟩:=id hl
 obtain⟨⟨cls2,dd2,data2,sl2⟩,ho2,hc2,n2,hd2⟩:=id hb
 simp only at hc hd hc2 hd2
 subst hc hd hc2 hd2
 exact richCompare_meets_room (op:=.Lt) ⟨_,ho,rfl⟩ ⟨_,ho2,rfl⟩ PySem.F.slot_tuple_lt PySem.F.entry_tuple_lt (PySem.F.args_tuple_lt_2 _ _) (Z8 l b items items2 n n2 dd dd2 sl sl2 ns ms hi hj)
  ⟨ho,ho2,show Value.bool (lexLt ns ms)≠Value.notImplemented/\Q (.bool (lexLt ns ms)) s from⟨(λx=>nomatch x),h⟩⟩ hu
theorem aae{t b:Addr}{vs ws:List Value}{Q:Value->Shared->Prop}(ht:IsTup s.heap t vs.toArray)(hb:IsTup s.heap b ws.toArray)(hv:vs≠[])
  (h1:ws=[]->Q (.ref t) s) (h2:ws≠[]->Q (.ref s.heap.objs.size) {s with heap:=s.heap.push {cls:=.type "tuple",data:=.seq (vs++ws).toArray } })
  (hsz:vs.length+ws.length<=sizeLine):wpAny (model prog w) A (binaryOp .Add (.ref t) (.ref b)) Q E s:=by
 obtain⟨⟨cls,dd,data,sl⟩,ho,hc,n,hd⟩:=id ht
 obtain⟨⟨cls2,dd2,data2,sl2⟩,ho2,hc2,n2,hd2⟩:=id hb
 simp only at hc hd hc2 hd2
 subst hc hd hc2 hd2
 have e:vs.toArray++ws.toArray=(vs++ws).toArray:=by simp
 by_cases hw:ws=[]
 ·exact concat_meets ⟨_,ho,rfl⟩ ⟨_,ho2,rfl⟩ noFill_tuple_add seq_tuple_add PySem.F.slot_tuple_add PySem.F.entry_tuple_add (PySem.F.args_tuple_add_2 _ _)
   (tuple_addW1 t b vs.toArray ws.toArray n n2 dd dd2 sl sl2 (by simpa using hv) (by simp[hw])) ⟨ho,ho2,h1 hw⟩
 ·refine concat_meets ⟨_,ho,rfl⟩ ⟨_,ho2,rfl⟩ noFill_tuple_add seq_tuple_add PySem.F.slot_tuple_add PySem.F.entry_tuple_add (PySem.F.args_tuple_add_2 _ _)
   (tuple_addW2 t b vs.toArray ws.toArray n n2 dd dd2 sl sl2 (by simpa using hv) (by simpa using hw) (by rw[List.size_toArray,List.size_toArray]; exact hsz)) ⟨ho,ho2,?_⟩
  rw[e]
  exact h2 hw
def cG(n d:Nat):Option Int->Nat
 |none=>d
 |some v=>if v<0 then(v+(n:Int)).toNat else min v.toNat n
theorem aaf(n d:Nat)(hd:d<=n)(o:Option Int):cG n d o<=n:=by
 cases o with
 |none=>exact hd
 |some v =>
  show(if v<0 then(v+(n:Int)).toNat else min v.toNat n)<=n
  by_cases hv:v<0
  ·rw[if_pos hv]; omega
  ·rw[if_neg hv]; exact Nat.min_le_right _ _
theorem QT(v:Int)(n d:Nat):(if v<0 then max (v+(n:Int)) 0 else min v (n:Int))=((cG n d (some v):Nat):Int):=by
 show(if v<0 then max (v+(n:Int)) 0 else min v (n:Int))=(((if v<0 then(v+(n:Int)).toNat else min v.toNat n):Nat):Int)
 by_cases hv:v<0
 ·simp only[if_pos hv]; omega
 ·simp only[if_neg hv]; omega
theorem aag(lo hi:Option Int)(n:Nat):Builtin.Slice.sliceAdjust lo hi 1 (n:Int)=(((cG n 0 lo:Nat):Int),((cG n n hi:Nat):Int)):=by
 have h1:¬((1:Int)<0):=by omega
 unfold Builtin.Slice.sliceAdjust
 simp only[h1,if_false]
 refine Prod.ext ?_ ?_
 ·cases lo with
  |none=>rfl
  |some v=>exact QT v n 0
 ·cases hi with
  |none=>rfl
  |some v=>exact QT v n n
theorem aah(i j:Nat):Builtin.Slice.slicePlaces (i:Int) (j:Int) 1=j-i:=by
 unfold Builtin.Slice.slicePlaces
 have h1:(1:Int) > 0:=by omega
 simp only[h1,if_true,Int.ediv_one]
 split <;> omega
theorem QV{v:Value}{o:Option Int}{Q:Option Int->Shared->Prop}(p:IsPart v o)(h:Q o s):wpAny (model prog w) A (Builtin.Slice.slicePartIndex v) Q E s:=by
 cases p with
 |none=>exact slicePart_none h
 |int i t=>exact slicePart_int h
theorem aai{sl:Addr}{vl vu:Value}{lo hi:Option Int}{n:Nat}{Q:Int × Int × Nat->Shared->Prop}(hs:s.heap.IsSliceOf sl vl vu .none)(pl:IsPart vl lo)(pu:IsPart vu hi)
  (h:Q (((cG n 0 lo:Nat):Int),1,cG n n hi-cG n 0 lo) s):wpAny (model prog w) A (Builtin.Slice.sliceApplied (.ref sl) (pure (n:Int))) Q E s:=by
 obtain⟨os,hos,hcs,hds⟩:=id hs
 unfold Builtin.Slice.sliceApplied Builtin.Slice.sliceFields
 refine wpAny_bind (wpAny_bind (wpAny_field hos hds (x:=vl) rfl (wpAny_bind (wpAny_field hos hds (x:=vu) rfl (wpAny_bind (wpAny_field hos hds (x:=.none) rfl (wpAny_pure ?_)))))))
 refine wpAny_bind (slicePart_none ?_)
 show wpAny _ _ (if((1:Int) == 0)=true then _ else _) _ _ s
 rw[if_neg (by decide)]
 refine wpAny_bind (QV pl (wpAny_bind (QV pu (wpAny_bind (wpAny_pure ?_)))))
 show wpAny _ _ (match Builtin.Slice.sliceAdjust lo hi 1 (n:Int)with|(lo,hi)=>pure (lo,(1:Int),Builtin.Slice.slicePlaces lo hi 1)) _ _ s
 rw[aag lo hi n]
 show wpAny _ _ (pure (((cG n 0 lo:Nat):Int),(1:Int),Builtin.Slice.slicePlaces ((cG n 0 lo:Nat):Int) ((cG n n hi:Nat):Int) 1)) _ _ s
 rw[aah]
 exact wpAny_pure h
theorem aaj(xs:Array Value)(i k:Nat):((List.range k).filterMap λ(m:Nat)=>xs[((i:Int)+(m:Int)*1).toNat]?).toArray=((xs.toList.drop i).take k).toArray:=by
 have e:(λ(m:Nat)=>xs[((i:Int)+(m:Int)*1).toNat]?)=λm=>xs[i+m]? := by
  funext m
  have:((i:Int)+(m:Int)*1).toNat=i+m:=by omega
  rw[this]
 rw[e]
 have:=pick_run xs i k
 rw[List.filterMap_map]at this
 have e2:((λx=>xs[x]?) ∘ λx=>i+x)=λm=>xs[i+m]? := rfl
 rw[e2]at this
 rw[this]
theorem aak{t sl:Addr}{items:Array Value}{vl vu:Value}{lo hi:Option Int}{Q:Value->Shared->Prop}(ht:IsTup s.heap t items)(hs:s.heap.IsSliceOf sl vl vu .none)(pl:IsPart vl lo)(pu:IsPart vu hi)
  (hw:¬(cG items.size 0 lo=0/\cG items.size items.size hi=items.size))
  (h:Q (.ref s.heap.objs.size) {s with heap:=s.heap.push {cls:=.type "tuple",data:=.seq ((items.toList.drop (cG items.size 0 lo)).take (cG items.size items.size hi-cG items.size 0 lo)).toArray } })
  (hsz:items.size<=sizeLine):wpAny (model prog w) A (getItem (.ref t) (.ref sl)) Q E s:=by
 have Cr:sizeOk (.seq ((items.toList.drop (cG items.size 0 lo)).take (cG items.size items.size hi-cG items.size 0 lo)).toArray):=by
  show((items.toList.drop (cG items.size 0 lo)).take (cG items.size items.size hi-cG items.size 0 lo)).toArray.size<=sizeLine
  rw[List.size_toArray,List.length_take,List.length_drop,Array.length_toList]
  omega
 have hj:cG items.size items.size hi<=items.size:=aaf _ _ (Nat.le_refl _) hi
 obtain⟨os,hos,hcs,hds⟩:=id hs
 have hTs:s.TypeIs (.ref sl) "slice" := ⟨os,hos,hcs⟩
 unfold getItem
 try with_reducible refine wpAny_holding ?_
 first|refine wpAny_bind (wpAny_pure ?_)|skip
 refine wpAny_bind (wpAny_sequenceKey ht.typeIs (by decide) ?_)
 refine wpAny_bind (wpAny_callSpecial?_slot (name:=Str.ofString "__getitem__") ht.typeIs PyProof.Rows.slot_tuple_getitem
  (wpAny_call_entry PyProof.Rows.slot_tuple_getitem ht.typeIs entry_tuple_getitem ?_ (args_tuple_getitem _ _)))
 show wpAny _ _ (Builtin.Tuple.tupleItemsOf (.ref t) >>= _) _ _ s
 refine wpAny_bind (tupleItemsOf_ ht ?_)
 refine wpAny_bind (wpAny_typeOf hTs ?_)
 rw[if_pos (by decide)]
 refine wpAny_bind (aai hs pl pu ?_)
 have hno:¬((((cG items.size 0 lo:Nat):Int) == 0&&(1:Int) == 1&&(cG items.size items.size hi-cG items.size 0 lo) == items.size)=true):=by
  intro q
  rw[Bool.and_eq_true,Bool.and_eq_true]at q
  have q1:((cG items.size 0 lo:Nat):Int)=0:=eq_of_beq q.1.1
  have q2:cG items.size items.size hi-cG items.size 0 lo=items.size:=eq_of_beq q.2
  exact hw ⟨by omega,by omega⟩
 show wpAny _ _ (if(((cG items.size 0 lo:Nat):Int) == 0&&(1:Int) == 1&&(cG items.size items.size hi-cG items.size 0 lo) == items.size)=true then _ else _) _ _ s
 rw[if_neg hno,aaj]
 first
  |exact wpAny_bind (m:=Builtin.Tuple.tupleExact _) (wpAny_newObj_type (wpAny_pure ⟨_,rfl,wpAny_pure h⟩) Cr)
  |exact wpAny_bind (m:=Builtin.Tuple.tupleExact _) (wpAny_newObj_type (wpAny_bind (wpAny_pure (wpAny_pure ⟨_,rfl,wpAny_pure h⟩))) Cr)
  |exact wpAny_bind (wpAny_bind (m:=Builtin.Tuple.tupleExact _) (wpAny_newObj_type (wpAny_pure (wpAny_pure ⟨_,rfl,wpAny_pure h⟩)) Cr))
  |exact wpAny_bind (wpAny_bind (m:=Builtin.Tuple.tupleExact _) (wpAny_newObj_type (wpAny_pure ⟨_,rfl,wpAny_pure h⟩) Cr))
end
end HT
namespace L2
open PySem PySem.Spec PyProof.Rows
abbrev TO:=St->Hp->(Option Int->Hp->Prop)->Prop
noncomputable def PO(X:Cx)(e:Option Expr)(t:TO):Prop :=
 ∀(pins:List (Addr × Obj)) (s:Shared) (σ : St) (H:Hp) (Q:Option Int->Hp->Prop),Inv X pins σ H s->t σ H Q ->
  wpAny (model X.prog X.w) X.A (evalPart e X.env) (λu s'=>∃o H',Inv X pins σ H' s'/\IsPart u o/\Q o H') X.xe s
def QW:TO:=λ_ H Q=>Q none H
def QX(t:TE):TO:=λσ H Q=>t σ H λx H1=>∃i,x=.int i/\Q (some i) H1
theorem intsAre_of{ns:List Int}:∀{us:List Value},Vals (ns.map V.int) us->IntsAre us ns:=by
 induction ns with
 |nil=>intro us r; rw[List.map_nil]at r; cases r; exact .nil
 |cons n ns ih =>
  intro us r
  rw[List.map_cons]at r
  cases r with
  |cons r1 r2 =>
   obtain⟨t,e⟩:=r1
   subst e
   exact .cons n t (ih r2)
section
variable {X:Cx}{e:Expr}{te:TE}{lo hi:Option Expr}{tl th:TO}{pos p2:Pos}
theorem QZ:PO X none QW:=by
 intro pins s σ H Q I h
 rw[evalPart_none]
 exact wpAny_pure ⟨none,H,I,.none,h⟩
theorem Q0(h:PE X e te):PO X (some e) (QX te):=by
 intro pins s σ H Q I hw
 rw[evalPart_some]
 refine bH (h pins s σ H _ I hw) λu s1 ⟨x,H1,I1,r1,q1⟩=>?_
 obtain⟨i,rfl,q⟩:=q1
 obtain⟨t,rfl⟩:=r1
 exact⟨some i,H1,I1,.int i t,q⟩
noncomputable def mW(X:Cx)(r:V->Option Int->Option Int->Hp->VK->Prop):Prop :=
 ∀(pins:List (Addr × Obj)) (s:Shared) (σ : St) (H:Hp) (x:V) (v vl vu:Value) (lo hi:Option Int) (sl:Addr) (Q:VK),Inv X pins σ H s->RelV x v->s.heap.IsSliceOf sl vl vu .none->IsPart vl lo->IsPart vu hi->r x lo hi H Q ->
  ∃T id,typeLookup (.type T) "__getitem__" = pure (some (.builtin id))/\s.TypeIs v T/\wpAny (model X.prog X.w) X.A (getItem v (.ref sl)) (EP X pins σ Q) X.xe s
theorem mW.or{r r':V->Option Int->Option Int->Hp->VK->Prop}(h:mW X r)(h':mW X r'):mW X (λx lo hi H Q=>r x lo hi H Q\/r' x lo hi H Q):=by
 intro pins s σ H x v vl vu lo hi sl Q I rx hs pl pu q
 rcases q with q|q
 ·exact h pins s σ H x v vl vu lo hi sl Q I rx hs pl pu q
 ·exact h' pins s σ H x v vl vu lo hi sl Q I rx hs pl pu q
def Q5(r:V->Option Int->Option Int->Hp->VK->Prop)(te:TE)(tl th:TO):TE:=λσ H Q=>te σ H λx H1=>tl σ H1 λl H2=>th σ H2 λu H3=>r x l u H3 Q
theorem Q6{r:V->Option Int->Option Int->Hp->VK->Prop}(hr:mW X r)(he:PE X e te)(hl:PO X lo tl)(hu:PO X hi th):PE X (.Subscript e (.Slice lo hi none p2) pos) (Q5 r te tl th):=by
 refine⟨λpins s σ H Q I h=>?_⟩
 refine Subscript_ (bH (he pins s σ H _ I h) λv s1 ⟨x,H1,I1,r1,q1⟩=>?_)
 refine wpAny_Slice (bH (hl pins s1 σ H1 _ I1 q1) λvl s2 ⟨l,H2,I2,pl,q2⟩=>bH (hu pins s2 σ H2 _ I2 q2) λvu s3 ⟨u,H3,I3,pu,q3⟩=>?_)
 rw[evalPart_none]
 refine wpAny_pure ?_
 have I4:Inv X pins σ H3 {s3 with heap:=s3.heap.push {cls:=.type "slice",data:=.fields #[vl,vu,.none] } }:=I3.kept (t':=s3.toks) λb ob q=>Heap.get?_push_of_some _ q
 obtain⟨T,id,hT,ht,hg⟩:=hr pins {s3 with heap:=s3.heap.push {cls:=.type "slice",data:=.fields #[vl,vu,.none] } } σ H3 x v vl vu l u s3.heap.objs.size Q I4 r1 (Heap.IsSliceOf.new ..) pl pu q3
 show wpAny (model X.prog X.w) X.A (subscriptTail e (.Slice lo hi none p2) v (.ref s3.heap.objs.size)) (EP X pins σ Q) X.xe {s3 with heap:=s3.heap.push {cls:=.type "slice",data:=.fields #[vl,vu,.none] } }
 exact tail_any (ops:=[.ref s3.heap.objs.size,v]) ht hT hg (by with_unfolding_all rfl)
def rH(xs:List V)(lo hi:Option Int):List V:=(xs.drop (HT.cG xs.length 0 lo)).take (HT.cG xs.length xs.length hi-HT.cG xs.length 0 lo)
theorem Q7(xs:List V)(lo hi:Option Int):(rH xs lo hi).length<=xs.length:=by
 unfold rH
 rw[List.length_take,List.length_drop]
 omega
def Q8(K:FZ):V->Option Int->Option Int->Hp->VK->Prop:=λx lo hi H Q=>∃a xs,x=.ref a/\dN K H a xs /\
 ¬(HT.cG xs.length 0 lo=0/\HT.cG xs.length xs.length hi=xs.length)/\∀p,H p=none->Q (.ref p) (upd H p (.tup (rH xs lo hi)))
theorem aal:mW X (Q8 X.K):=by
 intro pins s σ H x v vl vu lo hi sl Q I rx hs pl pu h
 obtain⟨a,xs,rfl,hx,hw,q⟩:=h
 cases rx
 obtain⟨its,r,ht,hz⟩:=I.tuple hx
 have hlen:its.toArray.size=xs.length:=by rw[List.size_toArray]; exact r.length.symm
 refine⟨"tuple",_,PyProof.Rows.slot_tuple_getitem.lookup,ht.typeIs,?_⟩
 refine HT.aak ht hs pl pu (by rw[hlen]; exact hw) ?_ (by rw[hlen]; exact hz)
 rw[hlen]
 refine⟨.ref s.heap.objs.size,_,I.laid (t':=s.toks) (o:=.tup (rH xs lo hi)) (λb ob q=>Heap.get?_push_of_some _ q) (Nat.le_refl _) ?_,rfl,q _ (I.hok.fresh (Nat.le_refl _))⟩
 exact⟨Nat.le_trans (Q7 xs lo hi) hz,_,(r.drop (HT.cG xs.length 0 lo)).take (HT.cG xs.length xs.length hi-HT.cG xs.length 0 lo),IsTup.new _ _⟩
def Q9(K:FZ):R2:=λx y H Q=>∃a b ns ms,x=.ref a/\y=.ref b/\dN K H a (ns.map V.int)/\dN K H b (ms.map V.int)/\Q (.bl (HT.lexLt ns ms)) H
theorem aam(hu:X.A.units<cLine):dz X (compareOp .Lt) (Q9 X.K):=by
 intro pins s σ H x y v u Q I rx ry h
 obtain⟨a,b,ns,ms,rfl,rfl,ha,hb,q⟩:=h
 cases rx
 cases ry
 obtain⟨its,r1,p1,_⟩:=I.tuple ha
 obtain⟨its2,r2,p2,_⟩:=I.tuple hb
 have i1:IntsAre its.toArray.toList ns:=intsAre_of r1
 have i2:IntsAre its2.toArray.toList ms:=intsAre_of r2
 exact HT.aad p1 p2 i1 i2 hu ⟨.bl (HT.lexLt ns ms),H,I,rfl,q⟩
def Ra(K:FZ):R2:=λx y H Q=>∃a b xs ys,x=.ref a/\y=.ref b/\dN K H a xs/\dN K H b ys/\xs≠[]/\xs.length+ys.length<=sizeLine /\
 (ys=[]->Q (.ref a) H)/\(ys≠[]->∀p,H p=none->Q (.ref p) (upd H p (.tup (xs++ys))))
theorem Vals.HS{xs:List V}{us:List Value}(r:Vals xs us):us=[]↔xs=[]:=by
 cases r with
 |nil=>simp
 |cons _ _=>simp
theorem aan:dz X (binaryOp .Add) (Ra X.K):=by
 intro pins s σ H x y v u Q I rx ry h
 obtain⟨a,b,xs,ys,rfl,rfl,ha,hb,hx,hz,q1,q2⟩:=h
 cases rx
 cases ry
 obtain⟨its,r1,p1,_⟩:=I.tuple ha
 obtain⟨its2,r2,p2,_⟩:=I.tuple hb
 refine HT.aae p1 p2 (λz=>hx (r1.HS.mp z)) (λz=>⟨.ref a,H,I,rfl,q1 (r2.HS.mp z)⟩) (λz=>?_) (by rw[<-r1.length,<-r2.length]; exact hz)
 refine⟨.ref s.heap.objs.size,_,I.laid (t':=s.toks) (o:=.tup (xs++ys)) (λb ob q=>Heap.get?_push_of_some _ q) (Nat.le_refl _) ?_,rfl,q2 (λw=>z (r2.HS.mpr w)) _ (I.hok.fresh (Nat.le_refl _))⟩
 exact⟨by rw[List.length_append]; exact hz,_,r1.append r2,IsTup.new _ _⟩
end
end L2
namespace L2
open PySem PySem.Spec PyProof.Rows
def eH(n:Nat)(i:Int):Option Nat:=if 0<=i then(if i<n then some i.toNat else none)else if -(n:Int)<=i then some (i+n).toNat else none
def dX{α : Type}(xs:List α)(i:Int):Option α := (eH xs.length i).bind λj=>xs[j]?
theorem Rb{n:Nat}{i:Int}{j:Nat}(h:eH n i=some j):seqIndex? i n=some j/\j<n /\ -(n:Int)<=i/\i<n:=by
 unfold eH at h
 by_cases h0:0<=i
 ·rw[if_pos h0]at h
  by_cases h1:i<n
  ·rw[if_pos h1]at h
   have e:i.toNat=j:=Option.some.inj h
   exact⟨by rw[seqIndex_of h0 h1,e],by omega,by omega,h1⟩
  ·rw[if_neg h1]at h; cases h
 ·rw[if_neg h0]at h
  by_cases h1 : -(n:Int)<=i
  ·rw[if_pos h1]at h
   have e:(i+n).toNat=j:=Option.some.inj h
   exact⟨by rw[seqIndex_neg (by omega) h1,e],by omega,h1,by omega⟩
  ·rw[if_neg h1]at h; cases h
theorem HW{α : Type}{xs:List α}{i:Int}{v : α}(h:dX xs i=some v):∃j,seqIndex? i xs.length=some j/\xs[j]?=some v/\j<xs.length /\ -(xs.length:Int)<=i/\i<xs.length:=by
 unfold dX at h
 cases e:eH xs.length i with
 |none=>rw[e]at h; cases h
 |some j =>
  rw[e]at h
  obtain⟨h1,h2,h3,h4⟩:=Rb e
  exact⟨j,h1,h,h2,h3,h4⟩
def Rf(b:Expr):Prop:=∀o i,subscripted b false o i=operate [o,i] (getItem o i)
noncomputable def pW(X:Cx)(r:R2):Prop :=
 ∀(value slice:Expr) (pins:List (Addr × Obj)) (s:Shared) (σ : St) (H:Hp) (x y:V) (v u:Value) (Q:VK),Inv X pins σ H s->RelV x v->RelV y u->r x y H Q ->
  subscripted slice false v u=operate [v,u] (getItem v u)->wpAny (model X.prog X.w) X.A (subscriptTail value slice v u) (EP X pins σ Q) X.xe s
noncomputable def MtR(X:Cx)(id:String)(r:V->List V->Hp->VK->Prop):Prop :=
 ∀(pins:List (Addr × Obj)) (s:Shared) (σ : St) (H:Hp) (x:V) (xs:List V) (v:Value) (us:List Value) (Q:VK),Inv X pins σ H s->RelV x v->Vals xs us->r x xs H Q ->
  wpAny (model X.prog X.w) X.A (call (.builtin id) (v::us)) (EP X pins σ Q) X.xe s
section
variable {X:Cx}{a b:Expr}{ta tb:TE}{pos:Pos}
theorem pW.or{r r':R2}(h:pW X r)(h':pW X r'):pW X (λx y H Q=>r x y H Q\/r' x y H Q):=by
 intro value slice pins s σ H x y v u Q I rx ry q hs
 rcases q with q|q
 ·exact h value slice pins s σ H x y v u Q I rx ry q hs
 ·exact h' value slice pins s σ H x y v u Q I rx ry q hs
theorem tM{r:R2}(hr:pW X r)(ha:PE X a ta)(hb:PE X b tb)(hs:Rf b):PE X (.Subscript a b pos) (gq r ta tb):=by
 refine⟨λpins s σ H Q I h=>?_⟩
 exact Subscript_ (Hz ha hb I h λv u s2 x y H2 I2 rx ry q=>hr a b pins s2 σ H2 x y v u Q I2 rx ry q (hs _ _))
def Rg(K:FZ):R2:=λx y H Q=>∃p xs i v,x=.ref p/\y=.int i/\cJ K H p xs/\dX xs i=some v/\Q v H
def Rh(K:FZ):R2:=λx y H Q=>∃p xs i v,x=.ref p/\y=.int i/\dN K H p xs/\dX xs i=some v/\Q v H
def Ri:R2:=λx y H Q=>∃z i c,x=.str z/\y=.int i/\z.length<=sizeLine/\dX z.cps.toList i=some c/\Q (.str ⟨#[c]⟩) H
theorem aao:pW X (Rg X.K):=by
 intro value slice pins s σ H x y v u Q I rx ry h hs
 obtain⟨p,xs,i,z,rfl,rfl,hq,he,q⟩:=h
 cases rx
 obtain⟨t,rfl⟩:=ry
 obtain⟨its,r,pl,hz⟩:=I.list hq
 obtain⟨j,h1,h2,h3,h4,h5⟩:=HW he
 obtain⟨w,ew,pQ⟩:=r.get h2
 have hl:=r.length
 have hn:=tL
 have fin:EP X pins σ Q w s:=⟨z,H,I,pQ,q⟩
 by_cases h0:0<=i
 ·have hj:i.toNat=j:=by
   rw[seqIndex_of h0 h5]at h1
   exact Option.some.inj h1
  exact item_listR pl.isList h0 (by omega) (by rw[hj]; simpa using ew) fin hs
 ·have hj:(i+(its.toArray.size:Int)).toNat=j:=by
   rw[seqIndex_neg (by omega) h4]at h1
   rw[List.size_toArray,<-hl]
   exact Option.some.inj h1
  exact subscriptTail_builtinR (x:=w) pl.isList.typeIs slot_list_getitem.lookup
   (wpAny_getItem_list_neg (Q:=λr s'=>r=w/\EP X pins σ Q r s') pl.isList (by omega) (by rw[List.size_toArray] <;> omega) (by omega) (by rw[hj]; simpa using ew) ⟨rfl,fin⟩) hs
theorem aap:pW X (Rh X.K):=by
 intro value slice pins s σ H x y v u Q I rx ry h hs
 obtain⟨p,xs,i,z,rfl,rfl,hq,he,q⟩:=h
 cases rx
 obtain⟨t,rfl⟩:=ry
 obtain⟨its,r,pl,hz⟩:=I.tuple hq
 obtain⟨j,h1,h2,h3,h4,h5⟩:=HW he
 obtain⟨w,ew,pQ⟩:=r.get h2
 have hl:=r.length
 have hn:=tL
 have fin:EP X pins σ Q w s:=⟨z,H,I,pQ,q⟩
 exact subscriptTail_builtinR (x:=w) pl.typeIs slot_tuple_getitem.lookup
  (getItem_tuple (j:=j) (Q:=λr s'=>r=w/\EP X pins σ Q r s') pl (by omega) (by omega) (by rw[List.size_toArray,<-hl]; exact h1) (by simpa using ew) ⟨rfl,fin⟩) hs
theorem aaq:pW X Ri:=by
 intro value slice pins s σ H x y v u Q I rx ry h hs
 obtain⟨z,i,c,rfl,rfl,hz,he,q⟩:=h
 obtain⟨t,rfl⟩:=rx
 obtain⟨t',rfl⟩:=ry
 obtain⟨j,h1,h2,h3,h4,h5⟩:=HW he
 have hl:z.cps.toList.length=z.length:=by simp[Str.length]
 rw[hl]at h1 h4 h5
 have hn:=tL
 exact tail_any (typeIs_str s z t) slot_str_getitem.lookup (getItem_str (c:=c) (by
  have e1:decide (i < -(2 ^ 63:Int))=false:=decide_eq_false (by omega)
  have e2:decide (i >= 2 ^ 63)=false:=decide_eq_false (by omega)
  rw[e1,e2,Bool.or_false]) (by rw[h1]; simpa using h2) ⟨.str ⟨#[c]⟩,H,I.tok _,⟨_,rfl⟩,q⟩) hs
def tO(K:FZ):R2:=λx y H Q=>Rg K x y H Q\/Rh K x y H Q\/Ri x y H Q
theorem tQ:pW X (tO X.K):=aao.or (aap.or aaq)
theorem aar(its:List Value)(n j:Nat)(u:Value):Obj.mapSeq (·.setIfInBounds j u) {cls:=.type "list",data:=.seq its.toArray n }={cls:=.type "list",data:=.seq (its.set j u).toArray n }:=by
 simp[Obj.mapSeq]
theorem Inv.lst{pins:List (Addr × Obj)}{σ : St}{H:Hp}{s:Shared}{p:Addr}{xs:List V}(I:Inv X pins σ H s)(h:H p=some (.lst xs)) :
  ∃(its:List Value) (n:Nat),Vals xs its/\s.heap.get? p=some {cls:=.type "list",data:=.seq its.toArray n }/\xs.length<=sizeLine:=by
 obtain⟨z,its,n,r,e⟩:=I.hok p _ h
 exact⟨its,n,r,e,z⟩
theorem Inv.aas{pins:List (Addr × Obj)}{σ : St}{H:Hp}{s:Shared}{p:Addr}{xs ys:List V}{its its':List Value}{n n':Nat}{f:Obj->Obj}(I:Inv X pins σ H s)(h:H p=some (.lst xs))
  (ho:s.heap.get? p=some {cls:=.type "list",data:=.seq its.toArray n }) (hf:f {cls:=.type "list",data:=.seq its.toArray n }={cls:=.type "list",data:=.seq its'.toArray n' }) (r:Vals ys its') (hz:ys.length<=sizeLine) (t:Nat) :
  Inv X pins σ (upd H p (.lst ys)) {s with heap:=s.heap.update p f,toks:=t }:=by
 have e:(s.heap.update p f).get? p=some {cls:=.type "list",data:=.seq its'.toArray n' }:=by
  rw[Heap.get?_update_self f ho (by rw[hf] <;> rfl),hf]
 refine I.write (x:=p) (e:=p) (by rw[h]; trivial) (.inl rfl) (λb u hb q=>(Heap.get?_update_other _ _ (Ne.symm hb)).trans q) ⟨_,e⟩ ?_
 exact⟨hz,its',n',r,e⟩
def HX:V->V->V->Hp->(Hp->Prop)->Prop:=λo i v H Q=>∃p xs k j,o=.ref p/\i=.int k/\H p=some (.lst xs)/\eH xs.length k=some j/\Q (upd H p (.lst (xs.set j v)))
theorem set_list:Qi X HX:=by
 intro pins s σ H o i v ov iv u Q I ro ri rv h
 obtain⟨p,xs,k,j,rfl,rfl,hp,hj,q⟩:=h
 cases ro
 obtain⟨t,rfl⟩:=ri
 obtain⟨its,n,r,ho,hz⟩:=I.lst hp
 obtain⟨h1,h2,h3,h4⟩:=Rb hj
 have hl:=r.length
 have hn:=tL
 have I':Inv X pins σ (upd H p (.lst (xs.set j v))) {s with heap:=s.heap.update p (Obj.mapSeq (·.setIfInBounds j u)) } :=
  I.aas hp ho (aar its n j u) (r.set rv j) (by rw[List.length_set]; exact hz) s.toks
 by_cases h0:0<=k
 ·have hk:k.toNat=j:=by
   rw[seqIndex_of h0 h4]at h1
   exact Option.some.inj h1
  exact PySem.W.ki_setAt ho h0 (by omega) (by rw[List.size_toArray,<-hl]; exact h4) (by rw[hk]; exact⟨_,I',q⟩)
 ·have hk:(k+(its.toArray.size:Int)).toNat=j:=by
   rw[seqIndex_neg (by omega) h3]at h1
   rw[List.size_toArray,<-hl]
   exact Option.some.inj h1
  exact PySem.W.ki_setBack ho (by omega) (by rw[List.size_toArray,<-hl]; exact h3) (by omega) (by rw[hk]; exact⟨_,I',q⟩)
theorem aat(lo hi:Option Int)(n:Nat):(sliceBounds lo hi none n).1=((HT.cG n 0 lo:Nat):Int)/\(sliceBounds lo hi none n).2.1=((HT.cG n n hi:Nat):Int)/\(sliceBounds lo hi none n).2.2=1:=by
 refine⟨?_,?_,rfl⟩
 ·cases lo with
  |none=>simp[sliceBounds,HT.cG]
  |some i =>
   simp only[sliceBounds,HT.cG,Option.getD_none,show(1:Int) > 0 by decide,if_true]
   by_cases h:i<0
   ·simp only[h,if_true] <;> omega
   ·simp only[h,if_false] <;> omega
 ·cases hi with
  |none=>simp[sliceBounds,HT.cG]
  |some i =>
   simp only[sliceBounds,HT.cG,Option.getD_none,show(1:Int) > 0 by decide,if_true]
   by_cases h:i<0
   ·simp only[h,if_true] <;> omega
   ·simp only[h,if_false] <;> omega
theorem aau(its:List Value)(lo hi:Option Int):slicePick its.toArray lo hi none=((its.drop (HT.cG its.length 0 lo)).take (HT.cG its.length its.length hi-HT.cG its.length 0 lo)).toArray:=by
 obtain⟨h1,h2,h3⟩:=aat lo hi its.toArray.size
 unfold slicePick
 rw[h1,h2,h3]
 simp only[sliceRange_one,pick_run,List.size_toArray] <;> rfl
def Rj(K:FZ):V->Option Int->Option Int->Hp->VK->Prop:=λx lo hi H Q=>∃a xs,x=.ref a/\cJ K H a xs/\∀p,H p=none->Q (.ref p) (upd H p (.lst (rH xs lo hi)))
theorem aav:mW X (Rj X.K):=by
 intro pins s σ H x v vl vu lo hi sl Q I rx hs pl pu h
 obtain⟨a,xs,rfl,hx,q⟩:=h
 cases rx
 obtain⟨its,r,ht,hz⟩:=I.list hx
 have hlen:=r.length
 refine⟨"list",_,slot_list_getitem.lookup,ht.isList.typeIs,?_⟩
 refine wpAny_getItem_list_slice ht.isList hs pl pu .none (by simp) ?_ (by rw[List.size_toArray] <;> omega)
 rw[aau,<-hlen]
 refine⟨.ref s.heap.objs.size,_,I.laid (t':=s.toks) (o:=.lst (rH xs lo hi)) (λb ob q=>Heap.get?_push_of_some _ q) (Nat.le_refl _) ?_,rfl,q _ (I.hok.fresh (Nat.le_refl _))⟩
 exact⟨Nat.le_trans (Q7 xs lo hi) hz,_,0,(r.drop (HT.cG xs.length 0 lo)).take (HT.cG xs.length xs.length hi-HT.cG xs.length 0 lo),Heap.get?_push_size _ rfl⟩
theorem aaw:iV X (.builtin "len") (λxs H Q=>∃p ys,xs=[.ref p]/\(cJ X.K H p ys\/dN X.K H p ys)/\Q (.int ys.length) H):=by
 intro pins s σ H xs us Q I r h
 obtain⟨p,ys,rfl,hq,q⟩:=h
 obtain⟨u,rfl,rx⟩:=vals1 r
 cases rx
 have hn:=tL
 rcases hq with hq|hq
 ·obtain⟨its,r',pl,hz⟩:=I.list hq
  have hlen:=r'.length
  exact Calls.call_len_list pl.isList (by simp only[List.size_toArray] <;> omega) ⟨.int ys.length,H,I.tok _,⟨s.toks+1,by rw[List.size_toArray,hlen]⟩,q⟩
 ·obtain⟨its,r',pl,hz⟩:=I.tuple hq
  have hlen:=r'.length
  exact len_tuple pl (by simp only[List.size_toArray] <;> omega) ⟨.int ys.length,H,I.tok _,⟨s.toks+1,by rw[List.size_toArray,hlen]⟩,q⟩
theorem aax:iV X (.builtin "len") (λxs H Q=>∃z,xs=[.str z]/\z.length<=sizeLine/\Q (.int z.length) H):=by
 intro pins s σ H xs us Q I r h
 obtain⟨z,rfl,hz,q⟩:=h
 obtain⟨u,rfl,t,rfl⟩:=vals1 r
 have hn:=tL
 exact len_str (by omega) ⟨.int z.length,H,I.tok _,⟨_,rfl⟩,q⟩
theorem iV.or{f:Value}{r r':List V->Hp->VK->Prop}(h:iV X f r)(h':iV X f r'):iV X f (λxs H Q=>r xs H Q\/r' xs H Q):=by
 intro pins s σ H xs us Q I rs q
 rcases q with q|q
 ·exact h pins s σ H xs us Q I rs q
 ·exact h' pins s σ H xs us Q I rs q
theorem Rk:iV X (.type "list") (λxs H Q=>∃p ys,xs=[.ref p]/\(cJ X.K H p ys\/dN X.K H p ys)/\∀l,H l=none->Q (.ref l) (upd H l (.lst ys))):=by
 intro pins s σ H xs us Q I r h
 obtain⟨p,ys,rfl,hq,q⟩:=h
 obtain⟨u,rfl,rx⟩:=vals1 r
 cases rx
 have fin:∀(its:List Value),Vals ys its->ys.length<=sizeLine->∀(h':Heap) (c':Nat),(∀b o',s.heap.get? b=some o'->h'.get? b=some o') ->
   h'.get? s.heap.objs.size=some {cls:=.type "list",dict:=none,data:=.seq its.toArray c',slots:=#[] }->EP X pins σ Q (.ref s.heap.objs.size) {s with heap:=h' }:=λits r' hz h' c' kp e =>
  ⟨.ref s.heap.objs.size,_,I.laid (t':=s.toks) kp (Nat.le_refl _) (show jU X.prog X.w _ h' _ (.lst ys)from⟨hz,its,c',r',e⟩),rfl,q _ (I.hok.fresh (Nat.le_refl _))⟩
 rcases hq with hq|hq
 ·obtain⟨its,r',pl,hz⟩:=I.list hq
  have hlen:=r'.length
  obtain⟨o,ho,hc,n,hd⟩:=pl.isList
  exact call_list_seq p (.inl rfl) ho hc hd (λh' c' kp e=>fin its r' hz h' c' kp e) (by simp only[List.size_toArray] <;> omega)
 ·obtain⟨its,r',pl,hz⟩:=I.tuple hq
  have hlen:=r'.length
  obtain⟨o,ho,hc,n,hd⟩:=pl
  exact call_list_seq p (.inr rfl) ho hc hd (λh' c' kp e=>fin its r' hz h' c' kp e) (by simp only[List.size_toArray] <;> omega)
noncomputable def Rn(K:FZ)(T:String)(x:V)(H:Hp):Prop:=match x with
 |.str _=>T = "str"
 |.int _=>T = "int"
 | .ref p=>(T = "list" ∧ ∃xs,cJ K H p xs)∨(T = "tuple" ∧ ∃o,K.lookup p=some o∧o.cls=.type "tuple" ∧ o.dict=none) ∨
   (T = "dict" ∧ ((∃kvs,H p=some (.dK kvs))∨∃kvs,H p=some (.dT kvs)))∨(T = "set" ∧ ∃S n,H p=some (.set S n))
 |_=>False
theorem aay{pins:List (Addr × Obj)}{σ : St}{H:Hp}{s:Shared}{T:String}{x:V}{v:Value}(I:Inv X pins σ H s)(r:RelV x v)(ty:Rn X.K T x H) :
  s.TypeIs v T/\∀a,v=.ref a->∃ob,s.heap.get? a=some ob/\ob.dict=none:=by
 cases x with
 |str z =>
  obtain⟨t,rfl⟩:=r
  cases(show T = "str" from ty)
  exact⟨typeIs_str s z t,λ_ e=>nomatch e⟩
 |int i =>
  obtain⟨t,rfl⟩:=r
  cases(show T = "int" from ty)
  exact⟨typeIs_int s i t,λ_ e=>nomatch e⟩
 |ref p =>
  cases r
  rcases ty with⟨rfl,xs,hq⟩|⟨rfl,o,hk,hc,hd⟩|⟨rfl,hk⟩|⟨rfl,S,n,hk⟩
  ·obtain⟨its,_,pl,_⟩:=I.list hq
   refine⟨pl.isList.typeIs,λa e=>?_⟩
   cases e
   obtain⟨o,n,e,c,hd,_⟩:=pl
   exact⟨o,e,hd⟩
  ·refine⟨⟨o,I.jV p o hk,hc⟩,λa e=>?_⟩
   cases e
   exact⟨o,I.jV _ o hk,hd⟩
  ·have z:∃o,s.heap.get? p=some o/\o.ExactDict:=by
    rcases hk with⟨kvs,hk⟩|⟨kvs,hk⟩
    ·obtain⟨_,_,_,_,o,_,_,e,ex,_⟩:=I.hok p _ hk
     exact⟨o,e,ex⟩
    ·obtain⟨_,_,_,_,o,_,_,e,ex,_⟩:=I.hok p _ hk
     exact⟨o,e,ex⟩
   obtain⟨o,e,ex⟩:=z
   refine⟨⟨o,e,ex.1⟩,λa e2=>?_⟩
   cases e2
   exact⟨o,e,ex.2.1⟩
  ·obtain⟨o,_,_,_,e,ex,_⟩:=I.hok p _ hk
   refine⟨⟨o,e,ex.1⟩,λa e2=>?_⟩
   cases e2
   exact⟨o,e,ex.2.1⟩
 |_=>exact False.elim ty
def Cu(K:FZ)(T:String)(r:V->List V->Hp->VK->Prop)(to:TE)(t:TA):TE:=λσ H Q=>to σ H λx H1=>Rn K T x H1/\t σ H1 λxs H2=>r x xs H2 Q
variable {o e:Expr}{es:List Expr}{to:TE}{t:TA}{name:Str}{apos cpos:Pos}{T id:String}{r:V->List V->Hp->VK->Prop}
theorem HY(pa:PlainAttrs T)(slot:Slot T name id)(hty:typeOf (.builtin id)=pure (.type "method_descriptor")) (hm:MtR X id r) (ho:PE X o to) (ha:PA X (e::es) t)
  (hbase:attributeBase o name X.env (eval o X.env)=eval o X.env:=by rfl)
  (hfew:((backTo cpos (starEach (e::es) X.env)).all (λx=>!x.1)&&(backToKw cpos (keywordEach [] X.env)).all (λx=>x.1.isSome)
   && decide ((e::es).length+([]:List Keyword).length+(if([]:List Keyword).isEmpty then 0 else 1)<30))=true:=by rfl)
  (hline:(apos.endLine == cpos.line)=true:=by rfl) (hs:starEach (e::es) X.env=(false,eval e X.env)::starEach es X.env:=by rfl) (hplain:(backTo cpos (starEach es X.env)).any (·.1)=false:=by rfl) :
  PE X (.Call (.Attribute o name apos) (e::es) [] cpos) (Cu X.K T r to t):=by
 refine⟨λpins s σ H Q I h=>?_⟩
 refine wpAny_Call_method_late hbase hfew hline rfl (bH (ho pins s σ H _ I h) λv s1 ⟨x,H1,I1,r1,ty,q1⟩=>?_)
 obtain⟨h1,h2⟩:=aay I1 r1 ty
 refine⟨T,id,pa,slot,hty,h1,h2,?_⟩
 have hA:=ha cpos pins s1 σ H1 _ I1 q1
 rw[hs]at hA ⊢
 refine Calls.callWith_builtin (by show(false || (backTo cpos (starEach es X.env)).any (·.1))=false; rw[hplain] <;> rfl) (Calls.evalArgs_plain ?_)
 exact bH hA λus s2 ⟨vs,H2,I2,r2,q2⟩=>hm pins s2 σ H2 x vs v us Q I2 r1 r2 q2
end
end L2
namespace L2
open PySem PySem.Spec PyProof.Rows
noncomputable def Ro(X:Cx)(id:String)(r:V->List V->Hp->VK->Prop):Prop :=
 ∀(pins:List (Addr × Obj)) (s:Shared) (σ : St) (H:Hp) (x:V) (xs:List V) (v:Value) (us:List Value) (Q:VK),Inv X pins σ H s->RelV x v->Vals xs us->r x xs H Q ->
  wpAny (model X.prog X.w) X.A (call (.builtin id) (v::us)) (EP X pins σ Q) X.xe s
theorem Vals.one:∀{x:V} {us:List Value},Vals [x] us->∃u,us=[u]/\RelV x u
 |_,_,.cons r .nil=>⟨_,rfl,r⟩
theorem Vals.rep{xs:List V}{us:List Value}(h:Vals xs us):∀k:Nat,Vals (List.replicate k xs).flatten (List.replicate k us).flatten
 | 0=>.nil
 |k+1=>by
  rw[List.replicate_succ,List.replicate_succ,List.flatten_cons,List.flatten_cons]
  exact Vals.append h (Vals.rep h k)
theorem foldl_rep(its:List Value):∀(k:Nat) (acc:List Value),
  List.foldl (λx1 x2=>x1++x2) acc.toArray (List.replicate k its.toArray)=(acc++(List.replicate k its).flatten).toArray
 | 0,acc=>by simp
 |k+1,acc=>by
  have e:acc.toArray++its.toArray=(acc++its).toArray:=by simp
  have e2:(acc++its)++(List.replicate k its).flatten=acc++(List.replicate (k+1) its).flatten:=by
   rw[List.replicate_succ,List.flatten_cons,List.append_assoc]
  rw[<-e2,<-foldl_rep its k (acc++its),<-e,List.replicate_succ,List.foldl_cons]
section
variable {X:Cx}{pins:List (Addr × Obj)}{σ : St}{H:Hp}{s:Shared}{l b:Addr}{xs ys zs:List V}
theorem Inv.Rq{its its':List Value}{n:Nat}{f:Array Value->Array Value}{t':Nat}(I:Inv X pins σ H s)(hH:H l=some (.lst xs))
  (e:s.heap.get? l=some {cls:=.type "list",data:=.seq its.toArray n }) (hf:f its.toArray=its'.toArray) (hv:Vals ys its') (hz:ys.length<=sizeLine) :
  Inv X pins σ (upd H l (.lst ys)) {s with heap:=s.heap.update l (Obj.mapSeq f),toks:=t' }:=by
 have q:=PySem.IsL.update e f
 rw[hf]at q
 refine I.write (x:=l) (e:=l) (by rw[hH]; exact trivial) (.inl rfl) (λb' u hb hu=>(Heap.get?_update_other s.heap (Obj.mapSeq f) (Ne.symm hb)).trans hu) ⟨_,q⟩ ?_
 exact⟨hz,its',_,hv,q⟩
theorem Inv.Cv{its:List Value}{t':Nat}(I:Inv X pins σ H s)(hv:Vals ys its)(hz:ys.length<=sizeLine) :
  Inv X pins σ (upd H s.heap.objs.size (.lst ys)) {s with heap:=s.heap.push {cls:=.type "list",data:=.seq its.toArray },toks:=t' } :=
 I.laid (λ_ _ q=>Heap.get?_push_of_some _ q) (Nat.le_refl _) ⟨hz,its,0,hv,Heap.get?_push_size _ rfl⟩
theorem Inv.fresh(I:Inv X pins σ H s):H s.heap.objs.size=none:=I.hok.fresh (Nat.le_refl _)
theorem Inv.Rr(I:Inv X pins σ H s)(hH:H l=some (.lst xs)):xs.length<=sizeLine/\∃(its:List Value) (n:Nat),Vals xs its/\xs.length=its.length/\s.heap.get? l=some {cls:=.type "list",data:=.seq its.toArray n }:=by
 obtain⟨z,its,n,r,e⟩:=I.hok l _ hH
 exact⟨z,its,n,r,r.length,e⟩
theorem aaz{n:Nat}(h:n<=sizeLine):Builtin.List.listTooLong n=false:=by
 unfold Builtin.List.listTooLong
 exact decide_eq_false (by omega)
end
section
variable {X:Cx}
def Ia:V->List V->Hp->VK->Prop:=λx vs H Q=>∃l xs y,x=.ref l/\vs=[y]/\H l=some (.lst xs)/\xs.length<sizeLine/\Q .non (upd H l (.lst (xs++[y])))
theorem Ib:Ro X "list.append" Ia:=by
 intro pins s σ H x vs v us Q I rx rv h
 obtain⟨l,xs,y,rfl,rfl,hH,hz,q⟩:=h
 cases rx
 obtain⟨u,rfl,ru⟩:=rv.one
 obtain⟨z,its,n,r,hl,e⟩:=I.Rr hH
 refine call_meets F.slot_list_append ⟨_,e,rfl⟩ F.entry_list_append (F.args_list_append_2 _ _) (PySem.list_append l its.toArray n u (by rw[List.size_toArray]; omega)) ⟨e,?_⟩
 refine⟨.non,_,I.Rq (its':=its++[u]) hH e (by simp) (r.append (.cons ru .nil)) ?_,rfl,q⟩
 rw[List.length_append,List.length_singleton]
 omega
theorem len_rep{α : Type}(xs:List α)(k:Nat):(List.replicate k xs).flatten.length=k*xs.length:=by
 induction k with
 |zero=>simp
 |succ k ih=>rw[List.replicate_succ,List.flatten_cons,List.length_append,ih,Nat.succ_mul,Nat.add_comm]
end
section
variable {prog:Program}{w:World}{A:Around}{E:Value->Shared->Prop}{s:Shared}
end
section
variable {X:Cx}
end
end L2
namespace Rt
open PySem PySem.W PySem.Calls PyProof.Rows
theorem aaA{P:Params}{h:Heap}:∀(ns:List Int) (vs:List Value),WellAll P h vs (ns.map WData.int)->IntsAre vs ns:=by
 intro ns
 induction ns with
 |nil =>
  intro vs w
  rw[List.map_nil]at w
  cases w
  exact .nil
 |cons n ns ih =>
  intro vs w
  rw[List.map_cons]at w
  cases w with
  |cons a b =>
   cases a
   exact .cons _ _ (ih _ b)
theorem aaB{l:OpenLaw}{n:Nat}(hn:l.most=some n){P:Params}{h:Heap}{args:List WData}{vals:List Value}
  (hpre:l.row.toRowW.claim.pre args=true) (hwl:WellAll P h vals args) :
  ∃a vs ns,vals=[Value.ref a]/\args=[WData.list (ns.map WData.int)]/\h.get? a=some {cls:=.type "list",data:=.seq vs.toArray }/\IntsAre vs ns/\ns.length<=n:=by
 have hsh:WShape.hasAll [] args [.list .int]=true:=(pre_splitW hpre).1
 have hc:l.pre.holds [] {args:=args }=true:=(pre_splitW hpre).2
 obtain⟨d,r,rfl,h1,h2⟩:=hasAllW_cons hsh
 obtain rfl:=hasAllW_nil h2
 obtain⟨xs,rfl,h3⟩:=hasW_list h1
 obtain⟨ns,rfl⟩:=items_int h3
 have hlen:ns.length<=n:=by
  unfold OpenLaw.pre at hc
  have h4:(WTm.not (.lt (.lit (.int (n:Int))) (.len (.arg 0)))).holds [] {args:=[.list (ns.map .int)] }=true:=by
   have h4:=(holds_andW hc).1
   rw[hn]at h4
   exact h4
  have h5:=condW_of h4 (w_not (w_lt w_lit (w_len_list (w_arg rfl))))
  rw[List.length_map]at h5
  refine Nat.le_of_not_lt λq=>?_
  have q':(n:Int)<((ns.length:Nat):Int):=by omega
  first
   |(rw[decide_eq_true q']at h5; exact absurd h5 (by decide))
   |(simp at h5; omega)
 cases hwl with
 |cons w1 w2 =>
  cases w2
  cases w1 with
  |list ho hall=>exact⟨_,_,ns,rfl,rfl,ho,aaA ns _ hall,hlen⟩
theorem aaC(l:OpenLaw)(args:List WData):l.row.toRowW.claim.post args (.bool true) args=true :=
 postW_of (r:=l.row.toRowW) (X:=(true == true))
  (show WShape.has [] (.bool true) .bool=true by first|rfl|decide|simp[WShape.has,WShape.arms,WShape.armsAll])
  (show(WTm.eq .res (.lit (.bool true))).value [] {args:=args,res:=some (.bool true),after:=args }=some (.bool (true == true))from w_eq_bool (w_res rfl) w_lit) rfl
theorem aaD{l:OpenLaw}{n:Nat}{q:Program}{loose:List Str}{XP:(Str->Option Value)->Heap->Prop}{YP:World->Heap->Prop}{d:DefRec}
  (hn:l.most=some n) (hdf:d.params.defaults=[])
  (call:∀(w:World) (s₀ s₁ : Shared) (mg mb:Str->Option Value) (fa:Addr) (o:Obj) (pm cd doc:Value) (a:Addr) (vs:List Value) (ns:List Int),
   Ground q loose [] XP w s₀ mg mb s₁.heap->YP w s₁.heap ->
   s₁.heap.get? fa=some o->o.data=.func (docDef d.name d.params d.body d.scope pm cd doc)->s₁.heap.CodeRec cd d.name->mg d.name=some (.ref fa) ->
   s₁.heap.get? a=some {cls:=.type "list",data:=.seq vs.toArray }->IntsAre vs ns->ns.length<=n->s₁.gens = #[] ->
   codeAny (model l.prog w) callerA (.call (.ref fa) ⟨[.ref a],[]⟩) (λr s'=>r=.ok (.ret (.bool true))/\OldK s₁.heap s'.heap/\s'.os=s₁.os/\AllBare s'.gens) s₁) :
  WalkO q loose XP YP l.row.toRowW d [] (λf vs=>PySem.call f vs):=by
 intro w s₀ s₁ mg mb G Y fa o pm cd doc dV kV ho hd hcd hD hmg hg args vals as hpre hlay hrd hwl hlo
 obtain rfl:dV=.none:=Dflts.none hD hdf
 obtain rfl:kV=.none:=Dflts.noKw hD
 obtain⟨a,vs,ns,rfl,rfl,hobj,hints,hlen⟩:=aaB hn hpre hwl
 refine enter_call (codeAny_mono (call w s₀ s₁ mg mb fa o pm cd doc a vs ns G Y ho (fd_plain hd) hcd hmg hobj hints hlen hg) λr s' hq=>?_)
 obtain⟨rfl,h2,h3,h4⟩:=hq
 exact⟨.inl ⟨.bool true,.bool true,[],rfl,λ_=>rfl,.bool true,aaC l _,λ_=>⟨List.Pairwise.nil,λ_ hm=>(nomatch hm)⟩⟩,h2,h3,h4⟩
section
variable {prog:Program}{w:World}{A:Around}{E:Value->Shared->Prop}{s:Shared}{K:Frag}
end
end Rt
namespace L2
open PySem PySem.Spec PyProof.Rows
theorem Ie:∀{vs:List Value} {ns:List Int},IntsAre vs ns->Vals (ns.map V.int) vs
 |_,_,.nil=>.nil
 |_,_,.cons n t h=>.cons ⟨t,rfl⟩ (Ie h)
end L2
namespace L2
open PySem PySem.Spec PyProof.Rows
end L2
namespace L2
open PySem PySem.Spec PyProof.Rows
def mX(s:Stmt):Arguments:=match s with
 |.FunctionDef _ a _ _ _ _ _ _ _ _=>a
 |_=>{posonlyargs:=[],args:=[],vararg:=none,kwonlyargs:=[],kw_defaults:=[],kwarg:=none,defaults:=[] }
def jq(s:Stmt):List Stmt:=match s with
 |.FunctionDef _ _ b _ _ _ _ _ _ _=>b
 |_=>[]
def bx(s:Stmt):Scope:=match s with
 |.FunctionDef _ _ _ _ _ _ sc _ _ _=>sc
 |_=>{kind:=.function,names:=[],isGenerator:=false,isCoroutine:=false }
abbrev E0:XK:=λ_ _ _=>False
structure tR(K:FZ)(x qual:Str)(st:Stmt)(f:Addr)(fd:FuncData):Prop where
 ex:∃(oc:Value) (od:Option Addr) (kV doc pm:Value) (an:Option Addr) (cdv ct:Value) (osl:Array (Option Value)),
  fd=PySem.W.fnOf x qual (mX st) (jq st) (bx st) .none kV doc pm an cdv ct/\K.lookup f=some ⟨oc,od,.func fd,osl⟩/\PySem.W.codeIn K cdv qual=true
 kp:PySem.W.keepIn K (.ref f)=true
section
variable {P:Program}{w:World}{K:FZ}{mg:Str->Option Value}{base:Heap}
theorem tR.binds{x qual:Str}{st:Stmt}{f:Addr}{fd:FuncData}{ps:List Str}(F:tR K x qual st f fd)
  (h:∀(kV doc pm:Value) (an:Option Addr) (cdv ct:Value) (us:List Value),us.length=ps.length->bindArgs (PySem.W.fnOf x qual (mX st) (jq st) (bx st) .none kV doc pm an cdv ct) ⟨us,[]⟩=pure (ps.zip us)):Binds K fd ps []:=by
 obtain⟨oc,od,kV,doc,pm,an,cdv,ct,osl,rfl,lk,hcd⟩:=F.ex
 exact .all (h kV doc pm an cdv ct)
theorem Rw{x qual:Str}{st:Stmt}{f:Addr}{oc:Value}{od an:Option Addr}{osl:Array (Option Value)}{kV doc pm cdv ct:Value}(l:K.lookup f=some ⟨oc,od,.func (PySem.W.fnOf x qual (mX st) (jq st) (bx st) .none kV doc pm an cdv ct),osl⟩)
  (c:PySem.W.codeIn K cdv qual=true) (k:PySem.W.keepIn K (.ref f)=true):tR K x qual st f (PySem.W.fnOf x qual (mX st) (jq st) (bx st) .none kV doc pm an cdv ct):=⟨⟨oc,od,kV,doc,pm,an,cdv,ct,osl,rfl,l,c⟩,k⟩
end
theorem Ig{n:Nat}(h:n<=1000):n<sizeLine:=Nat.lt_of_le_of_lt h (by decide)
section
variable {X:Cx}
end
def Same(H H':Hp):Prop:=∀b o,H b=some o->H' b=some o
theorem Same.refl(H:Hp):Same H H:=λ_ _ h=>h
theorem Same.trans{H H1 H2:Hp}(a:Same H H1)(b:Same H1 H2):Same H H2:=λc o h=>b c o (a c o h)
theorem Same.free{H H':Hp}(e:Same H H'){l:Addr}(h:H' l=Option.none):H l=Option.none:=by
 cases q:H l with
 |none=>rfl
 |some o =>
  rw[e l o q]at h
  cases h
theorem Same.seq{K:FZ}{H H':Hp}{a:Addr}{xs:List V}(e:Same H H')(h:cJ K H a xs):cJ K H' a xs:=by
 rcases h with(h|⟨o,h⟩)|h
 ·exact .inl (.inl (e _ _ h))
 ·exact .inl (.inr ⟨o,e _ _ h⟩)
 ·exact .inr h
end L2
end
section
namespace L2
open PySem PySem.Spec PyProof.Rows
section
variable {prog:Program}{w:World}{A:Around}{R:Result->Shared->Prop}{s:Shared}
theorem aaE{elt target iter:Expr}{scope:Scope}{pos:Pos}{it acc:Value}{env:Env}(I:Nat->Shared->Prop)
  (turn:∀n s,I n s->wpAny (model prog w) A (pyNext it) (λr s₁=>match r with
   |none=>R (.ok .next) s₁
   | some v=>wpAny (model prog w) A (letOwnedTupleGo target it v) (λ_ s₁'=>wpAny (model prog w) A (assign target env v) (λ_ s₂ => wpAny (model prog w) A (eval elt env) (λx s₃ =>
     wpAny (model prog w) A (call (.builtin "list.append") [acc,x]) (λ_ s₄=>∃m,m<n/\I m s₄) (λ_ _=>False) s₃) (λ_ _=>False) s₂) (λ_ _=>False) s₁') (λ_ _=>False) s₁) (λ_ _=>False) s)
  (n:Nat) (h:I n s) :
  codeAny (model prog w) A (.compLoop (.ListComp elt [⟨target,iter,[],0⟩] scope pos) 0 it acc env) R s:=by
 refine codeAny_loop rfl I (λn s hI=>?_) n h
 show wpAny _ _ ((compTurn (.ListComp elt [⟨target,iter,[],0⟩] scope pos) 0 it acc env).onRaise (λx=>do noteFrame x env; theTreesLotGoes x)) _ _ s
 refine wpAny_noted (wpAny_noRaise ?_)
 rw[compTurn_list1]
 refine wpAny_bind (wpAny_standAt (wpAny_bind (wpAny_mono (turn n s hI) (λr s₁ h₁=>?_) λ_ _ h'=>h')))
 cases r with
 |none=>exact wpAny_pure h₁
 |some v =>
  refine wpAny_bind (wpAny_mono h₁ (λ_ s₁' h₁'=>?_) λ_ _ h'=>h')
  exact wpAny_bind (wpAny_mono h₁' (λ_ s₂ h₂=>wpAny_bind (wpAny_bind (wpAny_mono h₂ (λx s₃ h₃=>wpAny_bind (wpAny_mono h₃
   (λ_ s₄ h₄=>wpAny_pure (wpAny_pure ⟨rfl,h₄⟩)) λ_ _ h'=>h')) λ_ _ h'=>h'))) λ_ _ h'=>h')
end
def dY(cells:List (Str × Addr)):List (Str × NameKind)->List (Str × Addr)->List (Str × Addr)
 | [],acc=>acc
 |(n,k)::r,acc=>if k=.free then(match cells.lookup n with|some a=>dY cells r ((n,a)::acc)|none=>dY cells r acc)else dY cells r acc
theorem rJ{cells:List (Str × Addr)}{x:Str}{c:Addr}:∀{names:List (Str × NameKind)} {acc:List (Str × Addr)},(dY cells names acc).lookup x=some c->acc.lookup x=some c\/cells.lookup x=some c
 | [],acc,h=>.inl h
 |(n,k)::r,acc,h=>by
  unfold dY at h
  split at h
  ·split at h
   ·rename_i a ha
    rcases rJ h with q|q
    ·by_cases e:x=n
     ·subst e
      rw[List.lookup_cons,beq_self_eq_true]at q
      cases q
      exact .inr ha
     ·rw[List.lookup_cons,beq_false_of_ne e]at q
      exact .inl q
    ·exact .inr q
   ·exact rJ h
  ·exact rJ h
theorem tU{cells:List (Str × Addr)}{x:Str}:∀{names:List (Str × NameKind)} {acc:List (Str × Addr)},((acc.lookup x).isSome=true\/((x,NameKind.free)∈names/\(cells.lookup x).isSome=true))->((dY cells names acc).lookup x).isSome=true
 | [],acc,h=>by
  rcases h with h|⟨h,_⟩
  ·exact h
  ·cases h
 |(n,k)::r,acc,h=>by
  have up:∀a,(acc.lookup x).isSome=true->(List.lookup x ((n,a)::acc)).isSome=true:=λa q=>by
   rw[List.lookup_cons]
   split
   ·rfl
   ·exact q
  unfold dY
  split
  ·rename_i hk
   split
   ·rename_i a ha
    refine tU ?_
    rcases h with h|⟨h,hc⟩
    ·exact .inl (up a h)
    ·rcases List.mem_cons.mp h with e|e
     ·cases e
      refine .inl ?_
      rw[List.lookup_cons,beq_self_eq_true]
      rfl
     ·exact .inr ⟨e,hc⟩
   ·rename_i hn
    refine tU ?_
    rcases h with h|⟨h,hc⟩
    ·exact .inl h
    ·rcases List.mem_cons.mp h with e|e
     ·cases e
      rw[hn]at hc; cases hc
     ·exact .inr ⟨e,hc⟩
  ·rename_i hk
   refine tU ?_
   rcases h with h|⟨h,hc⟩
   ·exact .inl h
   ·rcases List.mem_cons.mp h with e|e
    ·cases e; exact absurd rfl hk
    ·exact .inr ⟨e,hc⟩
theorem Cw{scope:Scope}{env:Env}(h:∀y∈scope.names,y.2=.free->(env.cells.lookup y.1).isSome=true):closureFor scope env=pure (dY env.cells scope.names []):=by
 unfold closureFor
 suffices q:∀(names:List (Str × NameKind)) (acc:List (Str × Addr)),(∀y∈names,y.2=.free->(env.cells.lookup y.1).isSome=true) ->
   (forIn names acc λx r=>do
    match x with
    |(name,kind)=>if(kind == NameKind.free)=true then do let a <-cellOf env name; pure (ForInStep.yield ((name,a)::r))else pure (ForInStep.yield r):Sem _)=pure (dY env.cells names acc) by
  have z:=q scope.names [] h
  exact(congrArg (λm=>m >>= λcs=>pure cs) z)
 intro names
 induction names with
 |nil=>intro acc _; rfl
 |cons y r ih =>
  intro acc hy
  obtain⟨n,k⟩:=y
  rw[List.forIn_cons]
  unfold dY
  by_cases hk:k=.free
  ·subst hk
   rw[if_pos rfl]
   have q:=hy (n,.free) List.mem_cons_self rfl
   cases e:env.cells.lookup n with
   |none=>rw[e]at q; cases q
   |some a =>
    have ec:cellOf env n=pure a:=by unfold cellOf; rw[e]
    simp only[ec]
    exact ih _ λz hz=>hy z (List.mem_cons_of_mem _ hz)
  ·rw[if_neg hk]
   have hb:(k == NameKind.free)=false:=by simpa using hk
   simp only[hb]
   exact ih _ λz hz=>hy z (List.mem_cons_of_mem _ hz)
def aaF(scope sc:Scope):Scope :=
 {scope with names:=scope.names.map λ(n,k)=>if(k == .free&&sc.kind == .function&&sc.names.lookup n == some .cell)then(n,.cell)else(n,k) }
theorem Rx{env:Env}:∀{names:List (Str × NameKind)} {x:Str},names.lookup x=some .free ->
  (names.map λ(n,k)=>if(k == NameKind.free&&env.scope.kind == .function&&env.kindOf n == some .cell)then(n,NameKind.cell)else(n,k)).lookup x=some .cell \/
  (names.map λ(n,k)=>if(k == NameKind.free&&env.scope.kind == .function&&env.kindOf n == some .cell)then(n,NameKind.cell)else(n,k)).lookup x=some .free
 | [],_,h=>by simp at h
 |(n,k)::r,x,h=>by
  have ih:=@Rx env r x
  rw[List.map_cons]
  dsimp only
  cases hx:x == n with
  |true =>
   simp only[List.lookup_cons,hx]at h
   cases h
   by_cases hc:(NameKind.free == NameKind.free&&env.scope.kind == .function&&env.kindOf n == some .cell)=true
   ·rw[if_pos hc]; simp[List.lookup_cons,hx]
   ·rw[if_neg hc]; simp[List.lookup_cons,hx]
  |false =>
   simp only[List.lookup_cons,hx]at h
   by_cases hc:(k == NameKind.free&&env.scope.kind == .function&&env.kindOf n == some .cell)=true
   ·rw[if_pos hc]; simp only[List.lookup_cons,hx]; exact ih h
   ·rw[if_neg hc]; simp only[List.lookup_cons,hx]; exact ih h
theorem Ry{env:Env}:∀{names:List (Str × NameKind)} {x:Str},
  ((names.map λ(n,k)=>if(k == NameKind.free&&env.scope.kind == .function&&env.kindOf n == some .cell)then(n,NameKind.cell)else(n,k)).lookup x=some .cell \/
  (names.map λ(n,k)=>if(k == NameKind.free&&env.scope.kind == .function&&env.kindOf n == some .cell)then(n,NameKind.cell)else(n,k)).lookup x=some .free)->names.lookup x=some .cell\/names.lookup x=some .free
 | [],_,h=>by simp at h
 |(n,k)::r,x,h=>by
  have ih:=@Ry env r x
  rw[List.map_cons]at h
  dsimp only at h
  cases hx:x == n with
  |true =>
   by_cases hcc:(k == NameKind.free&&env.scope.kind == .function&&env.kindOf n == some .cell)=true
   ·have hk:k=.free:=by
     simp only[Bool.and_eq_true,beq_iff_eq]at hcc
     exact hcc.1.1
    subst hk
    exact .inr (by simp only[List.lookup_cons,hx])
   ·rw[if_neg hcc]at h
    simp only[List.lookup_cons,hx]at h ⊢
    exact h
  |false =>
   have q:=ih (by
    by_cases hcc:(k == NameKind.free&&env.scope.kind == .function&&env.kindOf n == some .cell)=true
    ·rw[if_pos hcc]at h; simp only[List.lookup_cons,hx]at h; exact h
    ·rw[if_neg hcc]at h; simp only[List.lookup_cons,hx]at h; exact h)
   simp only[List.lookup_cons,hx]
   exact q
theorem pX:∀(names:List (Str × NameKind)) (n:Nat) (acc:List (Str × Addr)),cellsFrom n names acc=cellsFrom n names []++acc
 | [],_,_=>rfl
 |(x,k)::r,n,acc=>by
  unfold cellsFrom
  split
  ·rw[pX r (n+1) ((x,n)::acc),pX r (n+1) [(x,n)],List.append_assoc]
   rfl
  ·exact pX r n acc
theorem Ih:∀(names:List (Str × NameKind)) (n:Nat) {x:Str} {c:Addr},(x,c)∈cellsFrom n names []->(x,NameKind.cell)∈names
 | [],_,_,_,h=>by cases h
 |(y,k)::r,n,x,c,h=>by
  unfold cellsFrom at h
  split at h
  ·rename_i hk
   have hk:k=.cell:=by simpa using hk
   rw[pX]at h
   rcases List.mem_append.mp h with z|z
   ·exact List.mem_cons_of_mem _ (Ih r _ z)
   ·have z:=List.mem_singleton.mp z
    cases z
    rw[hk]
    exact List.mem_cons_self
  ·exact List.mem_cons_of_mem _ (Ih r _ h)
theorem vW(x:Str):∀(a b:List (Str × Addr)),(a++b).lookup x=(match a.lookup x with|some c=>some c|none=>b.lookup x)
 | [],_=>rfl
 |(y,c)::r,b=>by
  have ih:=vW x r b
  rw[List.cons_append,List.lookup_cons,List.lookup_cons]
  cases h:x == y with
  |true=>rfl
  |false=>exact ih
theorem Rz{M:Model}{A:Around}{E:Value->Shared->Prop}{s:Shared}{scope:Scope}{globals:Addr}{cl:List (Str × Addr)}{qual:Str}{env:Env}{Q:Env->Shared->Prop}
  (hQ:∀h',h'.Ns s.heap.objs.size (λ_=>none)->(∀b o,s.heap.get? b=some o->h'.get? b=some o)->CellsOk h' (s.heap.objs.size+1) (cellsFrom (s.heap.objs.size+1) scope.names []) ->
   Q {scope:=scope,locals:=s.heap.objs.size,globals:=globals,cells:=cellsFrom (s.heap.objs.size+1) scope.names cl,qual:=qual,func:=none,code:=env.code,frame:=env.frame,builtins:=env.builtins } {s with heap:=h',toks:=s.toks+([]:List (Str × Value)).length }) :
  wpAny M A (newFunctionEnv scope globals cl [] qual none .none (some env)) Q E s:=by
 simp only[newFunctionEnv,Option.isSome_some,if_true]
 refine wpAny_bind (wpAny_alloc ?_)
 refine wpAny_bind (wpAny_layCells _ (λname kind cells=>by cases hkc:kind == NameKind.cell <;> simp[hkc]) _ _ _ _ ?_)
 have ok:=cellsFrom_ok scope.names (s.heap.push {cls:=.type "dict",data:=.dict #[] }) (s.heap.objs.size+1) [] ⟨λ_ _ hm=>(nomatch hm),List.Pairwise.nil⟩ (by rw[Heap.size_push]; exact Nat.le_refl _)
 rw[Heap.size_push]at ok
 rw[show({s with heap:=s.heap.push {cls:=.type "dict",data:=.dict #[] } }:Shared).heap.objs.size=s.heap.objs.size+1 from Heap.size_push ..]
 rw[List.forIn_nil]
 exact wpAny_bind (wpAny_pure (wpAny_pure (hQ _ ((Heap.Ns.new s.heap (.type "dict")).keeps (pushCells_keeps _ _)) (λb o e=>pushCells_keeps _ _ b o (Heap.get?_push_of_some _ e)) ok)))
structure tV(sc:Scope)(No N:List Str)(src:List (Option Nat))(scope:Scope):Prop where
 kind:scope.kind=.function
 cells:∀y∈scope.names,y.2=.cell->scope.names.lookup y.1=some .cell
 names:∀y∈scope.names,y.2=.local->scope.names.lookup y.1=some .local
 free:∀y∈scope.names,y.2=.free->sc.names.lookup y.1=some .cell\/sc.names.lookup y.1=some .free
 len:src.length=N.length
 up:∀p∈N.zip src,∀j∈p.2,No[j]?=some p.1/\scope.names.lookup p.1=some .free
def eZ(src:List (Option Nat))(σ : St):St:=src.map λo=>o.bind λj=>(σ[j]?).join
noncomputable def fZ(X:Cx)(N:List Str)(scope:Scope)(C:Addr)(s:Shared)(H:Hp)(ex:List Addr):Cx where
 prog:=X.prog
 w:=X.w
 K:=X.K
 mg:=X.mg
 base:=X.base
 A:=X.A
 N:=N
 s₀ := s
 H₀ := H
 env:=compEnvC scope (cellsFrom (C+1) scope.names (dY X.env.cells scope.names [])) C X.env
 outer:=X.stack
 stack:=X.stack
 ex:=ex
 fn:=λx=>scope.names.lookup x == some .cell
 calm:=X.calm
 pn:=[]
 xe:=λ_ _=>False
def RB(Q:VK)(D:Addr)(H:Hp):Prop:=Q (.ref D) H
noncomputable def rK(wi:TI)(g:TG)(src:List (Option Nat))(te:TE):TE:=λσ H Q=>wi σ H λJ H1=>∀D,H1 D=none ->
 ∃W:Nat->Nat->St->Hp->Prop,(∃m,W 0 m (eZ src σ) (upd H1 D (.lst [])))/\∀i m σ' H',W i m σ' H' ->
  (J.stop i H'/\RB Q D H')\/(J.go i H'/\∀x fW,J.vR i H' x fW->g x σ' fW λσ2 H2=>te σ2 H2 λv H3=>∃xs,H3 D=some (.lst xs)/\xs.length<sizeLine/\∃m',m'<m/\W (i+1) m' σ2 (upd H3 D (.lst (xs++[v]))))
section
variable {X:Cx}{elt tg iter:Expr}{scope sc:Scope}{pos:Pos}{No N:List Str}{src:List (Option Nat)}{wi:TI}{g:TG}{te:TE}
theorem RD{pins:List (Addr × Obj)}{σ : St}{H:Hp}{s:Shared}{h₁ : Heap}{fp:List Addr}{tk:Nat}(hsc:X.env.scope=sc)(jr:X.N=No)(S:tV sc No N src scope)(I:Inv X pins σ H s)
  (hf:∀b∈fp,eU X pins H b) (hlt:∀b∈fp,b<s.heap.objs.size)
  (hns:h₁.Ns s.heap.objs.size (λ_=>none)) (old:∀b o,s.heap.get? b=some o->h₁.get? b=some o) (ck:CellsOk h₁ (s.heap.objs.size+1) (cellsFrom (s.heap.objs.size+1) scope.names [])) :
  Inv (fZ X N scope s.heap.objs.size s H fp) [] (eZ src σ) H {s with heap:=h₁,toks:=tk }:=by
 subst hsc
 subst jr
 have vX:∀x c,(cellsFrom (s.heap.objs.size+1) scope.names (dY X.env.cells scope.names [])).lookup x=some c->(cellsFrom (s.heap.objs.size+1) scope.names []).lookup x=some c\/X.env.cells.lookup x=some c:=λx c h=>by
  rw[pX,vW]at h
  split at h
  ·rename_i e
   exact .inl (e.trans h)
  ·rcases rJ h with q|q
   ·simp at q
   ·exact .inr q
 have big:∀x c,(cellsFrom (s.heap.objs.size+1) scope.names []).lookup x=some c->s.heap.objs.size+1<=c:=λx c h=>(ck.empty x c (PySem.mem_of_lookup h)).2
 have RG:∀x c,X.env.cells.lookup x=some c->c<s.heap.objs.size:=λx c e=>by
  obtain⟨v,q⟩:=I.cell x c e
  exact q.lt
 have ak2:∀b∈frs X.stack,b<s.heap.objs.size:=λb hb=>by
  obtain⟨_,o,ho,_⟩:=I.stack.mem hb
  exact Heap.lt_size ho
 refine⟨⟨I.ok.mod,S.kind,I.ok.glob,I.ok.blt,Nat.le_refl _,λx y c h1 h2=>?_,λx hx=>?_,λx c hfn h=>?_,I.ok.hd,I.ok.frames,.inl rfl,λb hb=>⟨Nat.ne_of_lt (hlt b hb),λx c e=>?_⟩,
   I.bs,Nat.le_trans I.ok.qY I.sz,λb o e hb=>?_,λb hb hb'=>?_,I.stack,I.Bx⟩,
  rfl,I.bare,Un.kept old,⟨_,hns,λi x v h1 h2 h3=>?_⟩,λx c e=>?_,I.hok.fresh (Nat.le_refl _),λx c e=>?_,λp hp=>absurd (show p∈([]:List (Addr × Obj))from hp) (by simp),I.hok.kept old,?_⟩
 ·rcases vX _ _ h1 with z1|z1
  ·rcases vX _ _ h2 with z2|z2
   ·exact name_of_addr ck.apart (PySem.mem_of_lookup z1) (PySem.mem_of_lookup z2)
   ·exact absurd (Nat.le_trans (big _ _ z1) (Nat.le_of_lt (RG _ _ z2))) (Nat.not_succ_le_self _)
  ·rcases vX _ _ h2 with z2|z2
   ·exact absurd (Nat.le_trans (big _ _ z2) (Nat.le_of_lt (RG _ _ z1))) (Nat.not_succ_le_self _)
   ·exact I.ok.inj x y c z1 z2
 ·-- every cell or free name has its cell
  rcases Ry hx with m|m
  ·exact Option.isSome_iff_exists.mp (PySem.W.cellsFrom_some _ _ _ (.inl m))
  ·have m:=PySem.mem_of_lookup m
   have q:=tU (cells:=X.env.cells) (acc:=[]) (.inr ⟨m,by
    obtain⟨c,e⟩:=I.ok.has x (S.free _ m rfl)
    rw[e]; rfl⟩)
   exact Option.isSome_iff_exists.mp (PySem.W.cellsFrom_some _ _ _ (.inr q))
 ·have hfn:scope.names.lookup x=some .cell:=by
   have z:(scope.names.lookup x == some .cell)=true:=hfn
   simpa using z
  obtain⟨c',e'⟩:=Option.isSome_iff_exists.mp (PySem.W.cellsFrom_some _ (s.heap.objs.size+1) [] (.inl hfn))
  have h:(cellsFrom (s.heap.objs.size+1) scope.names (dY X.env.cells scope.names [])).lookup x=some c:=h
  rw[pX,vW,e']at h
  cases h
  exact Nat.le_of_succ_le (big _ _ e')
 ·rcases vX _ _ e with z|z
  ·exact λy=>absurd (Nat.le_trans (big _ _ z) (y▸Nat.le_of_lt (hlt b hb))) (Nat.not_succ_le_self _)
  ·exact(hf b hb).2.2.2.2.1 x c z
 ·obtain⟨f0,f1,f2,f3,f4,f5⟩:=hf b hb
  rcases f3 with z|z
  ·exact I.ok.jK b o e z
  ·have q:=Heap.lt_size (I.ok.bs b o e).1
   exact absurd q (Nat.not_lt.mpr z)
 ·obtain⟨f0,f1,f2,_⟩:=hf b hb
  rcases List.mem_cons.mp (I.yF b hb')with z|z
  ·exact f1 z
  ·exact f2 z
 ·have hi:i<src.length:=by
   unfold eZ at h2
   have:=(List.getElem?_eq_some_iff.mp h2).1
   simpa using this
  have h2':((src[i]).bind λj=>(σ[j]?).join)=some v:=by
   unfold eZ at h2
   rw[List.getElem?_map,List.getElem?_eq_getElem hi]at h2
   exact Option.some.inj h2
  cases es:src[i]with
  |none=>rw[es]at h2'; cases h2'
  |some j =>
   rw[es]at h2'
   have hj : σ[j]?=some (some v):=by
    have z:(σ[j]?).join=some v:=h2'
    cases q : σ[j]? with
    |none=>rw[q]at z; cases z
    |some o=>rw[q]at z; have z':o=some v:=z; rw[z']
   have hz:(x,some j)∈N.zip src:=by
    refine List.mem_of_getElem? (i:=i) ?_
    rw[List.getElem?_zip_eq_some]
    exact⟨h1,by rw[List.getElem?_eq_getElem hi,es]⟩
   obtain⟨u1,u2⟩:=S.up _ hz j rfl
   have m:(x,NameKind.free)∈scope.names:=PySem.mem_of_lookup u2
   have kx:=S.free _ m rfl
   obtain⟨m0,hn0,hl0⟩:=id I.loc
   obtain⟨u,r,lk⟩:=hl0 j x v u1 hj (kx.elim (λz=>.inr (.inl z)) λz=>.inr (.inr z))
   refine⟨u,r,?_⟩
   rcases lk with⟨k,_⟩|⟨_,c,e,ic⟩
   ·have k':X.env.scope.names.lookup x=some .local:=k
    rcases kx with z|z
    ·rw[z]at k'; cases k'
    ·rw[z]at k'; cases k'
   ·refine .inr ⟨Rx u2,c,?_,?_⟩
    ·have q:=tU (cells:=X.env.cells) (acc:=[]) (.inr ⟨m,by rw[e]; rfl⟩)
     obtain⟨c',e'⟩:=Option.isSome_iff_exists.mp q
     have e2:X.env.cells.lookup x=some c':=by
      rcases rJ e' with q|q
      ·simp at q
      ·exact q
     rw[e]at e2; cases e2
     show(cellsFrom (s.heap.objs.size+1) scope.names (dY X.env.cells scope.names [])).lookup x=some c
     rw[pX,vW]
     split
     ·rename_i c2 z
      have y:=S.cells _ (Ih _ _ (PySem.mem_of_lookup z)) rfl
      rw[u2]at y; cases y
     ·exact e'
    ·obtain⟨o,ho,hd⟩:=ic
     exact⟨o,old _ _ ho,hd⟩
 ·rcases vX _ _ e with z|z
  ·exact⟨_,(ck.empty x c (PySem.mem_of_lookup z)).1⟩
  ·obtain⟨v,o,ho,hd⟩:=I.cell x c z
   exact⟨v,o,old _ _ ho,hd⟩
 ·rcases vX _ _ e with z|z
  ·exact I.hok.fresh (Nat.le_of_succ_le (big _ _ z))
  ·exact I.mO x c z
 ·unfold eZ
  rw[List.length_map]
  exact S.len
theorem RJ{pins:List (Addr × Obj)}{σ : St}{H:Hp}{s:Shared}{Q:VK}{RR:Value->Addr->Result->Shared->Prop}(hsc:X.env.scope=sc)(jr:X.N=No)(S:tV sc No N src scope)(hc:X.calm=true)
  (hi:PI X tg iter wi) (hg:∀C s H ex,PG (fZ X N scope C s H ex) tg g) (he:∀C s H ex,PE (fZ X N scope C s H ex) elt te) (I:Inv X pins σ H s) (h:rK wi g src te σ H Q)
  (hRR:∀D C H' s' m,Inv X pins σ H' s'->H' C=none->C≠X.env.locals->X.s₀.heap.objs.size<=C->(∀x c,X.env.cells.lookup x=some c->c≠C)->(∀p∈X.pn++pins,p.1≠C)->s'.heap.Ns C m->Q (.ref D) H'->RR (.ref D) C (.ok .next) s') :
  wpAny (model X.prog X.w) X.A (eval iter X.env) (λx s₁=>wpAny (model X.prog X.w) X.A (pyIter x) (λit s₂=>wpAny (model X.prog X.w) X.A (newList []) (λacc s₃ =>
   wpAny (model X.prog X.w) X.A (newFunctionEnv scope X.env.globals (dY X.env.cells scope.names []) [] X.env.qual none .none (some X.env)) (λcenv s₄ =>
    codeAny (model X.prog X.w) X.A (.compStart (.ListComp elt [⟨tg,iter,[],0⟩] scope pos) 0 it acc {cenv with scope:=relabel scope X.env }) (RR acc cenv.locals) s₄) X.xe s₃) X.xe s₂) X.xe s₁) X.xe s:=by
 refine bH (hi pins s σ H _ I h) λv s1 h1=>bH h1 λitv s2 h2=>?_
 obtain⟨it,fp,tn,J,H2,e,I2,T,st2,f2,hW⟩:=h2
 subst e
 have Ii:H2 s2.heap.objs.size=none:=I2.hok.fresh (Nat.le_refl _)
 obtain⟨W,⟨m0,w0⟩,turn⟩:=hW s2.heap.objs.size Ii
 have yJ:∀b∈fp,b<s2.heap.objs.size:=λb hb=>by
  obtain⟨o,e,_⟩:=T.obj 0 _ st2 b hb
  exact Heap.lt_size e
 refine wpAny_newObj_type ?_
 have I3:Inv X pins σ (upd H2 s2.heap.objs.size (.lst [])) {s2 with heap:=s2.heap.push {cls:=.type "list",dict:=none,data:=.seq ([]:List Value).toArray } }:=I2.Cv (t':=s2.toks) (ys:=[]) .nil (Nat.zero_le _)
 have f3:∀b∈fp,eU X pins (upd H2 s2.heap.objs.size (.lst [])) b:=λb hb=>by
  obtain⟨q,r⟩:=f2 b hb
  exact⟨by rw[bB (Nat.ne_of_lt (yJ b hb))]; exact q,r⟩
 have st3:tn 0 (s2.heap.push {cls:=.type "list",dict:=none,data:=.seq ([]:List Value).toArray }):=T.keep _ _ _ st2 λb hb o e=>Heap.get?_push_of_some _ e
 have tW:∀b∈fp,b<(s2.heap.push {cls:=.type "list",dict:=none,data:=.seq ([]:List Value).toArray }).objs.size:=λb hb=>by
  rw[Heap.size_push]; exact Nat.lt_succ_of_lt (yJ b hb)
 generalize hD:s2.heap.objs.size=D at *
 generalize hh3:s2.heap.push {cls:=.type "list",dict:=none,data:=.seq ([]:List Value).toArray }=h3 at *
 generalize hH3:upd H2 D (.lst [])=H3 at *
 refine Rz λh₁ hns old ck=>?_
 dsimp only at hns old ck ⊢
 have I4:Inv (fZ X N scope h3.objs.size {s2 with heap:=h3 } H3 fp) [] (eZ src σ) H3 {s2 with heap:=h₁,toks:=s2.toks+([]:List (Str × Value)).length }:=RD (s:={s2 with heap:=h3 }) hsc jr S I3 f3 tW hns old ck
 have yK:tn 0 h₁ := T.keep _ _ _ st3 λb hb o e=>old b o e
 have loop:codeAny (model X.prog X.w) X.A (.compLoop (.ListComp elt [⟨tg,iter,[],0⟩] scope pos) 0 (.ref it) (.ref D) (compEnvC scope (cellsFrom (h3.objs.size+1) scope.names (dY X.env.cells scope.names [])) h3.objs.size X.env)) (RR (.ref D) h3.objs.size) {s2 with heap:=h₁,toks:=s2.toks+([]:List (Str × Value)).length }:=by
  have stat:∀{H':Hp},(∀b∈fp,H' b=none)->∀b∈fp,eU (fZ X N scope h3.objs.size {s2 with heap:=h3 } H3 fp) [] H' b:=λhn b hb=>by
   obtain⟨g0,g1,g2,g3,g4,g5⟩:=f3 b hb
   refine⟨hn b hb,Nat.ne_of_lt (tW b hb),λz=>?_,.inl hb,λx c e=>?_,λp hp=>absurd (show p∈([]:List (Addr × Obj))from hp) (by simp)⟩
   ·rcases List.mem_cons.mp (I3.yF b z)with z|z
    ·exact g1 z
    ·exact g2 z
   ·have e:(cellsFrom (h3.objs.size+1) scope.names (dY X.env.cells scope.names [])).lookup x=some c:=e
    rw[pX,vW]at e
    split at e
    ·rename_i z
     cases e
     exact λy=>absurd (Nat.le_trans (ck.empty x c (PySem.mem_of_lookup z)).2 (y▸Nat.le_of_lt (tW b hb))) (Nat.not_succ_le_self _)
    ·rcases rJ e with q|q
     ·simp at q
     ·exact g4 x c q
  refine aaE (λn s'=>∃i σ' H',Inv (fZ X N scope h3.objs.size {s2 with heap:=h3 } H3 fp) [] σ' H' s'/\tn i s'.heap/\(∀b∈fp,H' b=none)/\W i n σ' H') ?_ m0 ⟨0,eZ src σ,H3,I4,yK,λb hb=>(f3 b hb).1,w0⟩
  rintro n s5 ⟨i,σ5,H5,I5,jh,tK,w5⟩
  rcases turn i n σ5 H5 w5 with⟨stop,qn⟩|⟨go,step⟩
  ·refine bH (T.done (fZ X N scope h3.objs.size {s2 with heap:=h3 } H3 fp) rfl rfl rfl hc i [] s5 σ5 H5 (λ_ _=>False) I5 (stat tK) jh stop) λr s6 ⟨hr,I6⟩=>?_
   subst hr
   obtain⟨mC,hnC,_⟩:=id I6.loc
   have I7:Inv X pins σ H5 s6:=I3.call' (ch:=fp) I6.os I6.base I6.hok I6.bare λb hb=>by
    obtain⟨g0,g1,g2,g3,g4,g5⟩:=f3 b hb
    exact⟨g3,g1,g4,g5⟩
   refine hRR D h3.objs.size H5 s6 mC I7 I6.free (Nat.ne_of_gt I3.lt) I3.sz (λx c e z=>?_) (λp hp z=>?_) hnC qn
   ·obtain⟨v,q⟩:=I3.cell x c e
    exact absurd q.lt (by rw[z]; exact Nat.lt_irrefl _)
   ·exact absurd (Heap.lt_size (I3.pin p hp).1) (by rw[z]; exact Nat.lt_irrefl _)
  ·refine bH (T.item (fZ X N scope h3.objs.size {s2 with heap:=h3 } H3 fp) rfl rfl rfl hc i [] s5 σ5 H5 (λ_ _=>False) I5 (stat tK) jh go) λr s6 ⟨u,hr,h6⟩=>?_
   subst hr
   refine bH h6 λ_ s7 ⟨x,H7,I7,r7,y7,pY,Ij⟩=>?_
   have Ik:=I7.pinned (stat Ij) (T.obj _ _ pY)
   refine bH (hg _ _ _ _ _ s7 σ5 H7 x u _ Ik r7 (step x H7 y7)) λ_ s8 ⟨σ8,H8,I8,q8⟩=>?_
   refine bH (he _ _ _ _ _ s8 σ8 H8 _ I8 q8) λyv s9 ⟨y,H9,I9,r9,q9⟩=>?_
   obtain⟨xs,e9,l9,m',hm,w9⟩:=q9
   refine bH (Ib (X:=fZ X N scope h3.objs.size {s2 with heap:=h3 } H3 fp) _ s9 σ8 H9 (.ref D) [y] (.ref D) [yv] (λ_ H'=>W (i+1) m' σ8 H') I9 rfl (.cons r9 .nil) ⟨D,xs,y,rfl,rfl,e9,l9,w9⟩) λ_ bM ⟨_,Il,tX,_,Im⟩=>?_
   refine⟨m',hm,i+1,σ8,Il,tX.vU (pins:=[]),T.keep _ _ _ pY λb hb o e=>(tX.pin (b,o) (List.mem_append_right _ (List.mem_append_right _ (rC hb e)))).1,λb hb=>?_,Im⟩
   obtain⟨o,e,d⟩:=T.obj _ _ pY b hb
   exact(tX.pin (b,o) (List.mem_append_right _ (List.mem_append_right _ (rC hb e)))).2.1
 exact codeAny_compStart_list loop (T.self _ _ _ _ _ yK loop)
theorem jZ(hsc:X.env.scope=sc)(jr:X.N=No)(S:tV sc No N src scope)(hc:X.calm=true)
  (hi:PI X tg iter wi) (hg:∀C s H ex,PG (fZ X N scope C s H ex) tg g) (he:∀C s H ex,PE (fZ X N scope C s H ex) elt te)
  (hs:∀x,foldedSetIterable iter X.env x=pure x:=by intro _; rfl):PE X (.ListComp elt [⟨tg,iter,[],0⟩] scope pos) (rK wi g src te):=by
 refine⟨λpins s σ H Q I h=>?_⟩
 rw[eval_ListComp]
 have hcl:closureFor scope X.env=pure (dY X.env.cells scope.names []):=Cw λy hy e=>by
  have k:=S.free y hy e
  rw[<-hsc]at k
  obtain⟨c,q⟩:=I.ok.has y.1 k
  rw[q]; rfl
 refine wpAny_comprehension_free (use:=none) rfl hs hcl S.kind S.names (RJ (RR:=λacc C=>compPost (model X.prog X.w) X.A X.xe none (EP X pins σ Q) acc C) hsc jr S hc hi hg he I h ?_)
 intro D C H' s' m I' n1 n2 n3 n4 n5 hn q
 refine⟨m,hn,λh' hs'=>⟨.ref D,H',?_,rfl,q⟩⟩
 exact I'.turned (t':=s'.toks) (λb o hb e=>(hs'.2 b hb).trans e) n1 (Ne.symm (Ne.symm n2)) (.inr n3) n4 n5
theorem Cy{i:Nat}{y:Str}{py spos:Pos}(hN:X.N.Nodup)(Io:X.N[i]?=some y)(hy:Loc X.env.scope y)(hsc:X.env.scope=sc)(jr:X.N=No)(S:tV sc No N src scope)(hc:X.calm=true)
  (hi:PI X tg iter wi) (hg:∀C s H ex,PG (fZ X N scope C s H ex) tg g) (he:∀C s H ex,PE (fZ X N scope C s H ex) elt te)
  (hsw:swapsWith (.ListComp elt [⟨tg,iter,[],0⟩] scope pos) (some (.Name y py)) spos.line X.env=pure true:=by rfl) (hs:∀x,foldedSetIterable iter X.env x=pure x:=by intro _; rfl)
  (hf:X.fn y=true\/X.env.scope.names.lookup y=some .local:=by first|exact .inl rfl|exact .inr rfl|assumption) :
  PS X (.Assign [.Name y py] (.ListComp elt [⟨tg,iter,[],0⟩] scope pos) spos) (lN (rK wi g src te) (dW i)):=by
 refine⟨λpins s σ H D I h=>?_⟩
 rw[exec_Assign_Name_used _ _ _ _ hsw]
 have hcl:closureFor scope X.env=pure (dY X.env.cells scope.names []):=Cw λy hy e=>by
  have k:=S.free y hy e
  rw[<-hsc]at k
  obtain⟨c,q⟩:=I.ok.has y.1 k
  rw[q]; rfl
 refine wpAny_bind (wpAny_standAt (wpAny_bind ?_))
 show wpAny _ X.A (do let _ <-comprehension (.ListComp elt [⟨tg,iter,[],0⟩] scope pos) scope X.env _ (newList []) false (eval iter X.env) (some (assign (.Name y py) X.env))) _ _ s
 refine wpAny_bind (wpAny_mono (wpAny_comprehension_free (use:=some (assign (.Name y py) X.env)) (Q:=λ_ s'=>SP X pins D .next s') rfl hs hcl S.kind S.names
  (RJ (Q:=λv H'=>D.nx (σ.set i (some v)) H') (RR:=λacc C=>compPost (model X.prog X.w) X.A X.xe (some (assign (.Name y py) X.env)) (λ_ s'=>SP X pins D .next s') acc C) hsc jr S hc hi hg he I h ?_)) (λ_ s' hq=>wpAny_pure (wpAny_pure hq)) λ_ _ e=>e)
 intro Da C H' s' m I' n1 n2 n3 n4 n5 hn q
 show wpAny _ X.A (assign (.Name y py) X.env (.ref Da)) _ _ _
 refine wpAny_assign_Name (Hh I' hN Io hy (v:=.ref Da) rfl (λs2 I2 hsame=>?_) hf)
 obtain⟨a,hsb,ha⟩:=hsame
 have Ip:C≠a:=by
  rcases ha with z|z
  ·rw[z]; exact n2
  ·exact λe=>n4 y a z e.symm
 refine⟨m,hn.sameBut hsb Ip,λh' hs'=>⟨σ.set i (some (.ref Da)),H',?_,q⟩⟩
 exact I2.turned (t':=s2.toks) (λb o hb e=>(hs'.2 b hb).trans e) n1 n2 (.inr n3) n4 n5
end
section
variable {K:FZ}{g:TG}{te:TE}{Q:VK}
end
end L2
end
section
namespace L2
open PySem PySem.Spec PyProof.Rows
def Ir(e C:Addr)(h:Heap):Prop:=∃o vs,h.get? e=some o/\o.cls=.ref C/\o.data=.fields vs
def yL(e C:Addr):HO:=.ext (Ir e C)
def mY:List Str:=["NoBottom", "NoBook", "NoList", "NoRule", "NoCount", "NoLooks", "NoThings", "NotSure", "NoSlack", "NoThing", "NoWorth", "TooMany", "NoText", "NoLine"]
inductive Tr where
 |non|bl (b:Bool)|int (i:Int)|str (x:Str)|tup (ts:List Tr)|lst (ts:List Tr)|dB (c:Str)
mutual
inductive Rep(K:FZ)(H:Hp):V->Tr->Prop
 |non:Rep K H .non .non
 |bl (b:Bool):Rep K H (.bl b) (.bl b)
 |int (i:Int):Rep K H (.int i) (.int i)
 |str (x:Str):Rep K H (.str x) (.str x)
 |tup {a:Addr} {xs:List V} {ts:List Tr} (h:dN K H a xs) (r:aR K H xs ts):Rep K H (.ref a) (.tup ts)
 |lst {a:Addr} {xs:List V} {ts:List Tr} (h:cJ K H a xs) (r:aR K H xs ts):Rep K H (.ref a) (.lst ts)
 |dB {a C:Addr} {c:Str} (h:H a=some (yL a C)) (m:c∈mY) (n:PySem.W.nsIn K mainGlobals c=some (some (.ref C))):Rep K H (.ref a) (.dB c)
inductive aR(K:FZ)(H:Hp):List V->List Tr->Prop
 |nil:aR K H [] []
 |cons {x:V} {t:Tr} {xs:List V} {ts:List Tr} (h:Rep K H x t) (r:aR K H xs ts):aR K H (x::xs) (t::ts)
end
theorem Same.vY{K:FZ}{H H':Hp}{a:Addr}{xs:List V}(e:Same H H')(h:dN K H a xs):dN K H' a xs:=by
 rcases h with(h|⟨o,h⟩)|h
 ·exact .inl (.inl (e _ _ h))
 ·exact .inl (.inr ⟨o,e _ _ h⟩)
 ·exact .inr h
mutual
theorem Rep.mono{K:FZ}{H H':Hp}(e:Same H H'):∀{v:V} {t:Tr},Rep K H v t->Rep K H' v t
 |_,_,.non=>.non
 |_,_,.bl b=>.bl b
 |_,_,.int i=>.int i
 |_,_,.str x=>.str x
 |_,_,.tup h r=>.tup (e.vY h) (aR.mono e r)
 |_,_,.lst h r=>.lst (e.seq h) (aR.mono e r)
 |_,_,.dB h m n=>.dB (e _ _ h) m n
theorem aR.mono{K:FZ}{H H':Hp}(e:Same H H'):∀{v:List V} {t:List Tr},aR K H v t->aR K H' v t
 |_,_,.nil=>.nil
 |_,_,.cons h r=>.cons (Rep.mono e h) (aR.mono e r)
end
theorem aR.length{K:FZ}{H:Hp}:∀{v:List V} {t:List Tr},aR K H v t->v.length=t.length
 |_,_,.nil=>rfl
 |_,_,.cons _ r=>by rw[List.length_cons,List.length_cons,aR.length r]
theorem aR.get{K:FZ}{H:Hp}:∀{v:List V} {t:List Tr} {i:Nat} {x:V},aR K H v t->v[i]?=some x->∃u,t[i]?=some u/\Rep K H x u
 |_,_,_,_,.nil,e=>by simp at e
 |_,_,0,_,.cons h _,e=>by
  simp at e
  subst e
  exact⟨_,rfl,h⟩
 |_,_,i+1,x,.cons _ r,e=>by
  obtain⟨u,h1,h2⟩:=aR.get (i:=i) (x:=x) r (by simpa using e)
  exact⟨u,by simpa using h1,h2⟩
theorem aR.app{K:FZ}{H:Hp}:∀{v w:List V} {t u:List Tr},aR K H v t->aR K H w u->aR K H (v++w) (t++u)
 |_,_,_,_,.nil,s=>s
 |_,_,_,_,.cons h r,s=>.cons h (aR.app r s)
theorem aR.take{K:FZ}{H:Hp}:∀{v:List V} {t:List Tr} (n:Nat),aR K H v t->aR K H (v.take n) (t.take n)
 |_,_,0,_=>by rw[List.take_zero,List.take_zero]; exact .nil
 |_,_,n+1,.nil=>by simpa using aR.nil
 |_,_,n+1,.cons h r=>by
  rw[List.take_succ_cons,List.take_succ_cons]
  exact .cons h (aR.take n r)
theorem aR.drop{K:FZ}{H:Hp}:∀{v:List V} {t:List Tr} (n:Nat),aR K H v t->aR K H (v.drop n) (t.drop n)
 |_,_,0,r=>by rw[List.drop_zero,List.drop_zero]; exact r
 |_,_,n+1,.nil=>by simpa using aR.nil
 |_,_,n+1,.cons h r=>by
  rw[List.drop_succ_cons,List.drop_succ_cons]
  exact aR.drop n r
mutual
noncomputable def dep:Tr->Nat
 |.tup ts=>deps ts+1
 |.lst ts=>deps ts+1
 |.dB _=>100
 |_=>0
noncomputable def deps:List Tr->Nat
 | []=>0
 |t::r=>max (dep t) (deps r)
end
mutual
noncomputable def eqT:Tr->Tr->Bool
 |.non,.non=>true
 |.bl a,.bl b=>a == b
 |.bl a,.int b=>(if a then 1 else 0) == b
 |.int a,.bl b=>a == (if b then 1 else 0)
 |.int a,.int b=>a == b
 |.str a,.str b=>a == b
 |.tup a,.tup b=>oH a b
 |.lst a,.lst b=>oH a b
 |.dB a,.dB b=>a == b
 |_,_=>false
noncomputable def oH:List Tr->List Tr->Bool
 | [],[]=>true
 |a::x,b::y=>eqT a b&&oH x y
 |_,_=>false
end
mutual
theorem Cz:∀t:Tr,eqT t t=true
 |.non=>rfl
 |.bl b=>by unfold eqT; exact beq_self_eq_true b
 |.int i=>by unfold eqT; exact beq_self_eq_true i
 |.str x=>by unfold eqT; exact beq_self_eq_true x
 |.tup ts=>by unfold eqT; exact Iu ts
 |.lst ts=>by unfold eqT; exact Iu ts
 |.dB c=>by unfold eqT; exact beq_self_eq_true c
theorem Iu:∀ts:List Tr,oH ts ts=true
 | []=>rfl
 |t::r=>by unfold oH; rw[Cz t,Iu r]; rfl
end
theorem yM:∀{a b:List Tr},a.length≠b.length->oH a b=false
 | [],[],h=>absurd rfl h
 | [],_::_,_=>rfl
 |_::_,[],_=>rfl
 |x::a,y::b,h=>by
  unfold oH
  rw[yM (a:=a) (b:=b) (by simpa using h),Bool.and_false]
def pZ(a b:List Tr)(j:Nat):Bool:=match a[j]?,b[j]? with
 |some x,some y=>eqT x y
 |_,_=>true
theorem yN:∀{a b:List Tr},a.length=b.length->(List.range a.length).all (pZ a b)=oH a b
 | [],[],_=>rfl
 | [],_::_,h=>by cases h
 |_::_,[],h=>by cases h
 |x::a,y::b,h=>by
  have ih:=yN (a:=a) (b:=b) (by simpa using h)
  rw[List.length_cons,List.range_succ_eq_map,List.all_cons,List.all_map]
  unfold oH
  rw[<-ih]
  rfl
section
variable {X:Cx}{pins:List (Addr × Obj)}{σ : St}{H:Hp}{s:Shared}
theorem Inv.aaG(I:Inv X pins σ H s){a C:Addr}{its:Array Value}(h:H a=some (yL a C))(p:IsTup s.heap a its):False:=by
 obtain⟨o,_,e1,e2,_⟩:=(I.hok a _ h).1
 obtain⟨o',e1',e2',_⟩:=p
 rw[e1]at e1'
 cases e1'
 rw[e2]at e2'
 cases e2'
theorem Inv.aaH(I:Inv X pins σ H s){a C:Addr}{its:Array Value}(h:H a=some (yL a C))(p:PlainL s.heap a its):False:=by
 obtain⟨o,_,e1,e2,_⟩:=(I.hok a _ h).1
 obtain⟨o',_,e1',e2',_⟩:=p
 rw[e1]at e1'
 cases e1'
 rw[e2]at e2'
 cases e2'
mutual
theorem Rep.inj(I:Inv X pins σ H s):∀{v:V} {t u:Tr},dep t<=99->Rep X.K H v t->Rep X.K H v u->t=u
 |_,_,_,_,.non,.non=>rfl
 |_,_,_,_,.bl _,.bl _=>rfl
 |_,_,_,_,.int _,.int _=>rfl
 |_,_,_,_,.str _,.str _=>rfl
 |_,_,_,d,.tup h r,.tup h' r'=>by
  have e:=I.Qd h h'
  subst e
  rw[aR.inj I (by unfold dep at d; omega) r r']
 |_,_,_,d,.lst h r,.lst h' r'=>by
  have e:=I.BW h h'
  subst e
  rw[aR.inj I (by unfold dep at d; omega) r r']
 |_,_,_,_,.tup h r,.lst h' r'=>by
  obtain⟨_,_,p,_⟩:=I.tuple h
  obtain⟨_,_,p',_⟩:=I.list h'
  exact absurd rfl (SeqAt.ne_of_list_tuple p'.isList p)
 |_,_,_,_,.lst h r,.tup h' r'=>by
  obtain⟨_,_,p,_⟩:=I.tuple h'
  obtain⟨_,_,p',_⟩:=I.list h
  exact absurd rfl (SeqAt.ne_of_list_tuple p'.isList p)
 |_,_,_,d,.dB h _ n,_=>by unfold dep at d; omega
 |_,_,_,_,.tup h r,.dB h' _ _=>by
  obtain⟨_,_,p,_⟩:=I.tuple h
  exact(I.aaG h' p).elim
 |_,_,_,_,.lst h r,.dB h' _ _=>by
  obtain⟨_,_,p,_⟩:=I.list h
  exact(I.aaH h' p).elim
theorem aR.inj(I:Inv X pins σ H s):∀{v:List V} {t u:List Tr},deps t<=99->aR X.K H v t->aR X.K H v u->t=u
 |_,_,_,_,.nil,.nil=>rfl
 |_,_,_,d,.cons h r,.cons h' r'=>by
  unfold deps at d
  rw[Rep.inj I (by omega) h h',aR.inj I (by omega) r r']
end
theorem in1_units(A:Around):A.in1.units<=A.units+1:=by
 show A.units+1<=_
 omega
theorem CG{xs:List V}{its:List Value}{j:Nat}(r:Vals xs its)(h:j<its.toArray.size):∃x,xs[j]?=some x/\RelV x its.toArray[j]:=by
 have h':j<its.length:=by simpa using h
 have hx:j<xs.length:=by rw[r.length]; exact h'
 obtain⟨u,h1,h2⟩:=r.get (List.getElem?_eq_getElem hx)
 refine⟨xs[j],List.getElem?_eq_getElem hx,?_⟩
 have e:u=its.toArray[j]:=by
  rw[List.getElem?_eq_getElem h']at h1
  have:=Option.some.inj h1
  simpa using this.symm
 rw[<-e]; exact h2
theorem RK{a b:List Tr}{j:Nat}{x y:Tr}(h1:a[j]?=some x)(h2:b[j]?=some y):pZ a b j=eqT x y:=by
 unfold pZ
 rw[h1,h2]
theorem rM:∀{ts:List Tr} {j:Nat} {t:Tr},ts[j]?=some t->dep t<=deps ts
 | [],_,_,h=>by simp at h
 |x::r,0,t,h=>by
  simp at h
  subst h
  unfold deps
  exact Nat.le_max_left _ _
 |x::r,j+1,t,h=>by
  have:=rM (ts:=r) (j:=j) (t:=t) (by simpa using h)
  unfold deps
  exact Nat.le_trans this (Nat.le_max_right _ _)
theorem yO(I:Inv X pins σ H s)(A:Around)(t u:Tr)(x y:V)(xv yv:Value)(hu:A.units+0<cLine)(hd:dep t<=0)(du:dep u<=99)(rx:Rep X.K H x t)(ry:Rep X.K H y u)(vx:RelV x xv)(vy:RelV y yv) :
  SeqAt.RcAt A s xv yv (eqT t u)/\SeqAt.EqAt A s xv yv (eqT t u):=by
 have hu0:A.units<cLine:=by omega
 cases rx with
 |tup h r=>unfold dep at hd; omega
 |lst h r=>unfold dep at hd; omega
 |dB h m n=>unfold dep at hd; omega
 |non =>
  cases vx
  cases ry with
  |non=>cases vy; unfold eqT; exact⟨SeqAt.RcAt.none_none,.same _⟩
  |bl b2=>cases vy; unfold eqT; exact⟨SeqAt.RcAt.none_bool _,SeqAt.EqAt.none_bool _⟩
  |int i2=>obtain⟨_,rfl⟩:=vy; unfold eqT; exact⟨SeqAt.RcAt.none_int _ _,SeqAt.EqAt.none_int _ _⟩
  |str z2=>obtain⟨_,rfl⟩:=vy; unfold eqT; exact⟨SeqAt.RcAt.none_str _ _,SeqAt.EqAt.none_str _ _⟩
  |tup h r=>cases vy; obtain⟨_,_,p,_⟩:=I.tuple h; unfold eqT; exact⟨SeqAt.RcAt.none_tuple p hu0,SeqAt.EqAt.none_tuple p hu0⟩
  |lst h r=>cases vy; obtain⟨_,_,p,_⟩:=I.list h; unfold eqT; exact⟨SeqAt.RcAt.none_list p.isList hu0,SeqAt.EqAt.none_list p.isList hu0⟩
  |dB h m n=>unfold dep at du; omega
 |bl b =>
  cases vx
  cases ry with
  |non=>cases vy; unfold eqT; exact⟨SeqAt.RcAt.bool_none _,SeqAt.EqAt.bool_none _⟩
  |bl b2=>cases vy; unfold eqT; exact⟨SeqAt.RcAt.bool_bool _ _,SeqAt.EqAt.bool_bool _ _⟩
  |int i2=>obtain⟨_,rfl⟩:=vy; unfold eqT; exact⟨SeqAt.RcAt.bool_int _ _ _,SeqAt.EqAt.bool_int _ _ _⟩
  |str z2=>obtain⟨_,rfl⟩:=vy; unfold eqT; exact⟨SeqAt.RcAt.bool_str _ _ _,SeqAt.EqAt.bool_str _ _ _⟩
  |tup h r=>cases vy; obtain⟨_,_,p,_⟩:=I.tuple h; unfold eqT; exact⟨SeqAt.RcAt.bool_tuple _ p hu0,SeqAt.EqAt.bool_tuple _ p hu0⟩
  |lst h r=>cases vy; obtain⟨_,_,p,_⟩:=I.list h; unfold eqT; exact⟨SeqAt.RcAt.bool_list _ p.isList hu0,SeqAt.EqAt.bool_list _ p.isList hu0⟩
  |dB h m n=>unfold dep at du; omega
 |int i =>
  obtain⟨_,rfl⟩:=vx
  cases ry with
  |non=>cases vy; unfold eqT; exact⟨SeqAt.RcAt.int_none _ _,SeqAt.EqAt.int_none _ _⟩
  |bl b2=>cases vy; unfold eqT; exact⟨SeqAt.RcAt.int_bool _ _ _,SeqAt.EqAt.int_bool _ _ _⟩
  |int i2=>obtain⟨_,rfl⟩:=vy; unfold eqT; exact⟨SeqAt.RcAt.int_int _ _ _ _,SeqAt.EqAt.int_int _ _ _ _⟩
  |str z2=>obtain⟨_,rfl⟩:=vy; unfold eqT; exact⟨SeqAt.RcAt.int_str _ _ _ _,SeqAt.EqAt.int_str _ _ _ _⟩
  |tup h r=>cases vy; obtain⟨_,_,p,_⟩:=I.tuple h; unfold eqT; exact⟨SeqAt.RcAt.int_tuple _ _ p hu0,SeqAt.EqAt.int_tuple _ _ p hu0⟩
  |lst h r=>cases vy; obtain⟨_,_,p,_⟩:=I.list h; unfold eqT; exact⟨SeqAt.RcAt.int_list _ _ p.isList hu0,SeqAt.EqAt.int_list _ _ p.isList hu0⟩
  |dB h m n=>unfold dep at du; omega
 |str z =>
  obtain⟨_,rfl⟩:=vx
  cases ry with
  |non=>cases vy; unfold eqT; exact⟨SeqAt.RcAt.str_none _ _,SeqAt.EqAt.str_none _ _⟩
  |bl b2=>cases vy; unfold eqT; exact⟨SeqAt.RcAt.str_bool _ _ _,SeqAt.EqAt.str_bool _ _ _⟩
  |int i2=>obtain⟨_,rfl⟩:=vy; unfold eqT; exact⟨SeqAt.RcAt.str_int _ _ _ _,SeqAt.EqAt.str_int _ _ _ _⟩
  |str z2=>obtain⟨_,rfl⟩:=vy; unfold eqT; exact⟨SeqAt.RcAt.str_str _ _ _ _,SeqAt.EqAt.str_str _ _ _ _⟩
  |tup h r=>cases vy; obtain⟨_,_,p,_⟩:=I.tuple h; unfold eqT; exact⟨SeqAt.RcAt.str_tuple _ _ p hu0,SeqAt.EqAt.str_tuple _ _ p hu0⟩
  |lst h r=>cases vy; obtain⟨_,_,p,_⟩:=I.list h; unfold eqT; exact⟨SeqAt.RcAt.str_list _ _ p.isList hu0,SeqAt.EqAt.str_list _ _ p.isList hu0⟩
  |dB h m n=>unfold dep at du; omega
theorem CJ(I:Inv X pins σ H s):∀(n:Nat) (A:Around) (t u:Tr) (x y:V) (xv yv:Value),A.units+n<cLine->dep t<=n->dep t<=99->dep u<=99->Rep X.K H x t->Rep X.K H y u->RelV x xv->RelV y yv ->
  SeqAt.RcAt A s xv yv (eqT t u)/\SeqAt.EqAt A s xv yv (eqT t u):=by
 intro n
 induction n with
 |zero=>exact λA t u x y xv yv hu hd _ du rx ry vx vy=>yO I A t u x y xv yv hu hd du rx ry vx vy
 |succ n ih =>
  intro A t u x y xv yv hu hd vZ du rx ry vx vy
  have hu0:A.units<cLine:=by omega
  have hu1:A.in1.units+n<cLine:=by
   have:=in1_units A
   omega
  have he:∀{xs ys:List V} {ts us:List Tr} {its its2:List Value},Vals xs its->Vals ys its2->aR X.K H xs ts->aR X.K H ys us->deps ts<=n->deps ts<=99->deps us<=99->∀j (h1:j<its.toArray.size) (h2:j<its2.toArray.size),SeqAt.EqAt A.in1 s its.toArray[j] its2.toArray[j] (pZ ts us j):=by
   intro xs ys ts us its its2 r1 r2 q1 q2 hde hd9 RL j h1 h2
   obtain⟨a,ea,ra⟩:=CG r1 h1
   obtain⟨b,eb,rb⟩:=CG r2 h2
   obtain⟨ta,eta,qa⟩:=q1.get ea
   obtain⟨tb,yP,qb⟩:=q2.get eb
   rw[RK eta yP]
   exact(ih A.in1 ta tb a b _ _ hu1 (Nat.le_trans (rM eta) hde) (Nat.le_trans (rM eta) hd9) (Nat.le_trans (rM yP) RL) qa qb ra rb).2
  have dt:∀{ts:List Tr},dep (.tup ts)<=n+1->deps ts<=n:=λ{ts} h=>by unfold dep at h; omega
  have dl:∀{ts:List Tr},dep (.lst ts)<=n+1->deps ts<=n:=λ{ts} h=>by unfold dep at h; omega
  have nt:∀{ts:List Tr},dep (.tup ts)<=99->deps ts<=99:=λ{ts} h=>by unfold dep at h; omega
  have nl:∀{ts:List Tr},dep (.lst ts)<=99->deps ts<=99:=λ{ts} h=>by unfold dep at h; omega
  have refs:∀{a b:Addr} {t u:Tr} {k:Bool},dep t<=99->Rep X.K H (.ref a) t->Rep X.K H (.ref b) u->k=eqT t u->SeqAt.RcAt A s (.ref a) (.ref b) k->SeqAt.EqAt A s (.ref a) (.ref b) k:=λ{a b t u k} d9 r1 r2 ek h=>by
   by_cases e:a=b
   ·subst e
    have:=Rep.inj I d9 r1 r2
    subst this
    rw[ek,Cz]
    exact .same _
   ·exact .of_refs e h
  cases rx with
  | @tup a1 xs1 ts h r =>
   cases vx
   obtain⟨its,rv,p,_⟩:=I.tuple h
   cases ry with
   | @tup a2 xs2 us h' r' =>
    cases vy
    obtain⟨its2,jD,p2,_⟩:=I.tuple h'
    have R:=SeqAt.RcAt.tuples p p2 hu0 (he rv jD r r' (dt hd) (nt vZ) (nt du))
    have el:its.toArray.size=ts.length:=by simpa using(rv.length.symm.trans r.length)
    have el2:its2.toArray.size=us.length:=by simpa using(jD.length.symm.trans r'.length)
    rw[el,el2]at R
    have eb:((List.range (min ts.length us.length)).all (pZ ts us)&&ts.length == us.length)=eqT (.tup ts) (.tup us):=by
     unfold eqT
     by_cases e:ts.length=us.length
     ·rw[e,Nat.min_self,<-e,yN e,beq_self_eq_true,Bool.and_true]
     ·rw[beq_false_of_ne e,Bool.and_false,yM e]
    rw[eb]at R
    exact⟨R,refs vZ (.tup h r) (.tup h' r') rfl R⟩
   |lst h' r' =>
    cases vy
    obtain⟨_,_,p2,_⟩:=I.list h'
    unfold eqT
    exact⟨SeqAt.RcAt.tuple_list p p2.isList hu0,.tuple_list p p2.isList hu0⟩
   |dB h' m n=>unfold dep at du; omega
   |non=>cases vy; unfold eqT; exact⟨SeqAt.RcAt.tuple_none p hu0,.tuple_none p hu0⟩
   |bl b=>cases vy; unfold eqT; exact⟨SeqAt.RcAt.tuple_bool _ p hu0,.tuple_bool _ p hu0⟩
   |int i=>obtain⟨_,rfl⟩:=vy; unfold eqT; exact⟨SeqAt.RcAt.tuple_int _ _ p hu0,.tuple_int _ _ p hu0⟩
   |str z=>obtain⟨_,rfl⟩:=vy; unfold eqT; exact⟨SeqAt.RcAt.tuple_str _ _ p hu0,.tuple_str _ _ p hu0⟩
  | @lst a1 xs1 ts h r =>
   cases vx
   obtain⟨its,rv,p,_⟩:=I.list h
   cases ry with
   | @lst a2 xs2 us h' r' =>
    cases vy
    obtain⟨its2,jD,p2,_⟩:=I.list h'
    have el:its.toArray.size=ts.length:=by simpa using(rv.length.symm.trans r.length)
    have el2:its2.toArray.size=us.length:=by simpa using(jD.length.symm.trans r'.length)
    by_cases e:ts.length=us.length
    ·have R:=SeqAt.RcAt.lists p.isList p2.isList (by rw[el,el2,e]) hu0 (he rv jD r r' (dl hd) (nl vZ) (nl du))
     rw[el,yN e]at R
     have eb:oH ts us=eqT (.lst ts) (.lst us):=by unfold eqT; rfl
     rw[eb]at R
     exact⟨R,refs vZ (.lst h r) (.lst h' r') rfl R⟩
    ·have R:SeqAt.RcAt A s _ _ false:=SeqAt.RcAt.lists_lengths p.isList p2.isList (by rw[el,el2]; simpa using e) hu0
     have eb:false=eqT (.lst ts) (.lst us):=by unfold eqT; rw[yM e]
     rw[eb]at R
     exact⟨R,refs vZ (.lst h r) (.lst h' r') rfl R⟩
   |tup h' r' =>
    cases vy
    obtain⟨_,_,p2,_⟩:=I.tuple h'
    unfold eqT
    exact⟨SeqAt.RcAt.list_tuple p.isList p2 hu0,.list_tuple p.isList p2 hu0⟩
   |dB h' m n=>unfold dep at du; omega
   |non=>cases vy; unfold eqT; exact⟨SeqAt.RcAt.list_none p.isList hu0,.list_none p.isList hu0⟩
   |bl b=>cases vy; unfold eqT; exact⟨SeqAt.RcAt.list_bool _ p.isList hu0,.list_bool _ p.isList hu0⟩
   |int i=>obtain⟨_,rfl⟩:=vy; unfold eqT; exact⟨SeqAt.RcAt.list_int _ _ p.isList hu0,.list_int _ _ p.isList hu0⟩
   |str z=>obtain⟨_,rfl⟩:=vy; unfold eqT; exact⟨SeqAt.RcAt.list_str _ _ p.isList hu0,.list_str _ _ p.isList hu0⟩
  |dB h m n=>unfold dep at vZ; omega
  |non=>exact yO I A _ _ _ _ _ _ (by omega) (by unfold dep; omega) du .non ry vx vy
  |bl b=>exact yO I A _ _ _ _ _ _ (by omega) (by unfold dep; omega) du (.bl b) ry vx vy
  |int i=>exact yO I A _ _ _ _ _ _ (by omega) (by unfold dep; omega) du (.int i) ry vx vy
  |str z=>exact yO I A _ _ _ _ _ _ (by omega) (by unfold dep; omega) du (.str z) ry vx vy
end
end L2
end
section
namespace L2
open PySem PySem.Spec PyProof.Rows
section
variable {X:Cx}{a b:Expr}{ta tb:TE}{pos:Pos}
def Iv(K:FZ):R2:=λx y H Q=>∃t u,Rep K H x t/\Rep K H y u/\dep t<=40/\dep u<=40/\Q (.bl (eqT t u)) H
theorem iY(hu:X.A.units+64<cLine):dz X (compareOp .Eq) (Iv X.K):=by
 intro pins s σ H x y v u Q I rx ry h
 obtain⟨t,t',q1,q2,hd,hd2,q⟩:=h
 exact(CJ I 40 X.A t t' x y v u (by omega) hd (by omega) (by omega) q1 q2 rx ry).1 _ _ _ _ ⟨.bl _,H,I,rfl,q⟩
def rN(t:Tr)(ts:List Tr):Bool:=ts.any λu=>eqT u t
def Iw(K:FZ):R2:=λx y H Q=>∃t ts p xs,Rep K H x t/\y=.ref p/\(cJ K H p xs\/dN K H p xs)/\aR K H xs ts/\deps ts<=40/\dep t<=40/\Q (.bl (rN t ts)) H
theorem CK{xs:List V}{its:List Value}{ts:List Tr}{K:FZ}{H:Hp}(f:Tr->Bool)(e:Value->Bool)(r:Vals xs its)(q:aR K H xs ts)(h:∀x v t,x∈xs->RelV x v->Rep K H x t->t∈ts->e v=f t):its.any e=ts.any f:=by
 induction r generalizing ts with
 |nil=>cases q; rfl
 |cons r1 r2 ih =>
  cases q with
  |cons q1 q2 =>
   rw[List.any_cons,List.any_cons,h _ _ _ List.mem_cons_self r1 q1 List.mem_cons_self,ih q2 λx v t hx hr hq ht=>h x v t (List.mem_cons_of_mem _ hx) hr hq (List.mem_cons_of_mem _ ht)]
theorem v7:∀{ts:List Tr} {t:Tr},t∈ts->dep t<=deps ts:=λ{ts t} h=>by
 obtain⟨i,hi,e⟩:=List.mem_iff_getElem.mp h
 exact rM (j:=i) (by rw[List.getElem?_eq_getElem hi,e])
open Classical in
theorem CN(hu:X.A.units+64<cLine):dz X (compareOp .In) (Iw X.K):=by
 intro pins s σ H x y v u Q I rx ry h
 obtain⟨t,ts,p,xs,q1,rfl,hq,qs,hd,hd2,q⟩:=h
 cases ry
 have hu1:X.A.in1.units+40<cLine:=by
  have:=in1_units X.A
  omega
 -- what == tells of an item,by the item itself
 let e:Value->Bool:=λw'=>if h:∃z tz,z∈xs/\RelV z w'/\Rep X.K H z tz/\tz∈ts then eqT (Classical.choose (Classical.choose_spec h)) t else false
 have ee:∀z w' tz,z∈xs->RelV z w'->Rep X.K H z tz->tz∈ts->e w'=eqT tz t:=λz w' tz h1 h2 h3 h4=>by
  have hx:∃z tz,z∈xs/\RelV z w'/\Rep X.K H z tz/\tz∈ts:=⟨z,tz,h1,h2,h3,h4⟩
  show(if h:_ then _ else _)=_
  rw[dif_pos hx]
  have sp:=Classical.choose_spec (Classical.choose_spec hx)
  have key:∀z z' t1 t2,RelV z w'->RelV z' w'->dep t1<=99->Rep X.K H z t1->Rep X.K H z' t2->t1=t2:=λz z' t1 t2 a1 a2 d9 a3 a4=>by
   obtain rfl:=RelV.inj a1 a2
   exact Rep.inj I d9 a3 a4
  rw[key _ _ _ _ sp.2.1 h2 (by have:=v7 sp.2.2.2; omega) sp.2.2.1 h3]
 have mem:∀{its:List Value},Vals xs its->∀w'∈its,SeqAt.EqAt X.A.in1 s w' v (e w'):=by
  intro its r w' hw
  obtain⟨j,hj,ej⟩:=List.mem_iff_getElem.mp hw
  have hjx:j<xs.length:=by rw[r.length]; exact hj
  obtain⟨u',h1,h2⟩:=r.get (List.getElem?_eq_getElem hjx)
  rw[List.getElem?_eq_getElem hj,ej]at h1
  cases h1
  obtain⟨tz,h3,h4⟩:=qs.get (List.getElem?_eq_getElem hjx)
  have hm:=List.mem_of_getElem? h3
  rw[ee _ _ tz (List.getElem_mem hjx) h2 h4 hm]
  exact(CJ I 40 X.A.in1 tz t _ x _ v hu1 (Nat.le_trans (v7 hm) hd) (by have:=v7 hm; omega) (by omega) h4 q1 h2 rx).2
 rcases hq with hq|hq
 ·obtain⟨its,r,pl,hz⟩:=I.list hq
  refine SeqAt.in_listAt e pl.isList (λw hw=>mem r w (by simpa using hw)) ⟨.bl _,H,I,rfl,?_⟩
  rw[show its.toArray.any e=its.any e by simp,CK (λz=>eqT z t) e r qs λz w' tz h1 h2 h3 h4=>ee z w' tz h1 h2 h3 h4]
  exact q
 ·obtain⟨its,r,pl,hz⟩:=I.tuple hq
  refine SeqAt.in_tupleAt e pl (λw hw=>mem r w (by simpa using hw)) ⟨.bl _,H,I,rfl,?_⟩
  rw[show its.toArray.any e=its.any e by simp,CK (λz=>eqT z t) e r qs λz w' tz h1 h2 h3 h4=>ee z w' tz h1 h2 h3 h4]
  exact q
inductive Ty where|int|bool|str|tuple|list
def Ty.name:Ty->String
 |.int => "int" |.bool => "bool" |.str => "str" |.tuple => "tuple" |.list => "list"
def iy:Tr->Ty->Bool
 |.bl _,.bool=>true|.bl _,.int=>true|.int _,.int=>true|.str _,.str=>true|.tup _,.tuple=>true|.lst _,.list=>true
 |_,_=>false
def CP(K:FZ):List V->Hp->VK->Prop:=λxs H Q=>∃v t c,xs=[v,.ty (Ty.name c)]/\Rep K H v t/\Q (.bl (iy t c)) H
def CQ(K:FZ):Prop:=∀c∈mY,∀C,PySem.W.nsIn K mainGlobals c=some (some (.ref C))->(∀a,PySem.W.KitX K (.ref a) (.ref C) (Ir a C))/\∀y:Ty,PySem.W.kitOne K (.ref C) (.type y.name)=some false
theorem aaI(hX:CQ X.K):iV X (.builtin "isinstance") (CP X.K):=by
 intro pins s σ H xs us Q I r h
 obtain⟨v,t,c,rfl,q1,q⟩:=h
 obtain⟨u,w',rfl,ru,pQ⟩:=vals2 r
 obtain rfl:w'=Value.type (Ty.name c):=pQ
 have fin:∀tk,EP X pins σ Q (.bool (iy t c)) {s with toks:=tk }:=λtk=>⟨.bl _,H,I.tok tk,rfl,q⟩
 cases q1 with
 |non=>cases ru; cases c <;> exact PySem.W.kia_one PySem.W.kitx_none I.jV True.intro (by kernel_rfl) (λz=>nomatch z) fin
 |bl y=>cases ru; cases c <;> exact PySem.W.kia_one PySem.W.kitx_bool I.jV True.intro (by kernel_rfl) (λz=>nomatch z) fin
 |int i=>obtain⟨_,rfl⟩:=ru; cases c <;> exact PySem.W.kia_one PySem.W.kitx_int I.jV True.intro (by kernel_rfl) (λz=>nomatch z) fin
 |str y=>obtain⟨_,rfl⟩:=ru; cases c <;> exact PySem.W.kia_one PySem.W.kitx_str I.jV True.intro (by kernel_rfl) (λz=>nomatch z) fin
 |tup h r =>
  cases ru
  obtain⟨_,_,⟨o,h1,h2,_⟩,_⟩:=I.tuple h
  cases c <;> exact PySem.W.kia_one PySem.W.kitx_tuple I.jV ⟨o,h1,h2⟩ (by kernel_rfl) (λz=>nomatch z) fin
 |lst h r =>
  cases ru
  obtain⟨_,_,p,_⟩:=I.list h
  obtain⟨o,h1,h2,_⟩:=p.isList
  cases c <;> exact PySem.W.kia_one PySem.W.kitx_list I.jV ⟨o,h1,h2⟩ (by kernel_rfl) (λz=>nomatch z) fin
 |dB h m n =>
  cases ru
  obtain⟨z1,z2⟩:=hX _ m _ n
  exact PySem.W.kia_one (z1 _) I.jV (I.hok _ _ h).1 (z2 c) (λz=>nomatch z) fin
def Iz(K:FZ):List V->Hp->VK->Prop:=λxs H Q=>∃(p:Addr) (bs:List Bool),xs=[.ref p]/\cJ K H p (bs.map V.bl)/\Q (.bl (bs.all id)) H
theorem yQ(hc:X.calm=true):iV X (.builtin "all") (Iz X.K):=by
 intro pins s σ H xs us Q I r h
 obtain⟨p,bs,rfl,hq,q⟩:=h
 obtain⟨u,rfl,ru⟩:=vals1 r
 cases ru
 obtain⟨its,rv,pl,hz⟩:=I.list hq
 refine call_all_walk (wpAny_pyIter_list pl.isList ?_)
 obtain⟨ol,hol,hol'⟩:=id pl.isList
 have hlt:p<s.heap.objs.size:=Heap.lt_size hol
 have hlen:its.toArray.size=bs.length:=by simpa using rv.length.symm
 have at_:∀(i:Nat) (v:Value),its.toArray[i]?=some v->∃k,bs[i]?=some k/\v=Value.bool k:=λi v e=>by
  have e':its[i]?=some v:=by simpa using e
  have hi:i<its.length:=(List.getElem?_eq_some_iff.mp e').1
  have hb:i<(bs.map V.bl).length:=by rw[rv.length]; exact hi
  obtain⟨u',h1,h2⟩:=rv.get (List.getElem?_eq_getElem hb)
  rw[e']at h1
  cases h1
  have hb':i<bs.length:=by simpa using hb
  refine⟨bs[i],List.getElem?_eq_getElem hb',?_⟩
  rw[List.getElem_map]at h2
  exact h2
 refine⟨s.heap.objs.size,_,_,_,_,_,λi=>bs.getD i true,rfl,Walks.list (A:=X.A.in1) (I.ok.hd hc) s.heap.objs.size p (Nat.ne_of_lt hlt) its.toArray,⟨⟨_,Heap.get?_push_size _ rfl,rfl,rfl⟩,⟨ol,Heap.get?_push_of_some _ hol,hol'⟩⟩,?_,?_⟩
 ·intro i v s' Q' E' hP hQ'
  obtain⟨k,h1,rfl⟩:=at_ i v hP
  have:bs.getD i true=k:=by rw[List.getD_eq_getElem?_getD,h1]; rfl
  dsimp only at hQ'
  rw[this]at hQ'
  exact wpAny_truthy_bool hQ'
 ·intro h' tk hk
  have I1:Inv X pins σ H {s with heap:=h',toks:=tk }:=I.kept λb o e=>hk b o (by
   have:=Heap.lt_size e
   simp
   exact Nat.ne_of_lt this) (Heap.get?_push_of_some _ e)
  refine⟨.bl _,H,I1,rfl,?_⟩
  have eq:(List.range its.toArray.size).all (λi=>bs.getD i true)=bs.all id:=by
   rw[hlen]
   clear q hq rv at_ hlen hz
   induction bs with
   |nil=>rfl
   |cons b r ih =>
    rw[List.length_cons,List.range_succ_eq_map,List.all_cons,List.all_map,List.all_cons]
    exact congrArg (b && ·) ih
  rw[eq]
  exact q
end
end L2
end
section
namespace L2
open PySem PySem.Spec PyProof.Rows
def At(K:FZ)(mg:Str->Option Value)(x:Str)(st:Stmt):Prop:=∃f fd,tR K x x st f fd/\mg x=some (.ref f)
section
variable {X:Cx}{k:Nat}{x:Str}{ps:List Str}{sp:Sp}{p q pos:Pos}{e:Expr}{es:List Expr}{te:TE}{t:TA}
theorem aaJ(hX:CQ X.K)(c:Ty)(he:PE X e te)(h1:X.mg "isinstance" = none) (h2:X.mg x=none) (hb:bootBuiltins x=some (.type c.name):=by decide +kernel) (hg1:Gl X "isinstance" := by rfl) (hg2:Gl X x:=by rfl) (hn:x ≠ "__name__" := by decide) (hd:(x == ("__debug__" : Str))=false:=by decide)
  (hs:starEach (e::[.Name x q]) X.env=(false,eval e X.env)::starEach [.Name x q] X.env:=by rfl):PE X (.Call (.Name "isinstance" p) [e,.Name x q] [] pos) (jN (CP X.K) (kZ te (kZ (tC (.ty c.name)) rE))) :=
 QM (aaI hX) hg1 h1 PyProof.Rows.boot_isinstance (oF he (oF (Zo hg2 h2 hb rfl hn hd) aH) hs) (he:=hs)
end
end L2
end
section
namespace L2
open PySem PySem.Spec PyProof.Rows
def off(a:Addr)(H:Hp):Hp:=λb=>if b=a then none else H b
theorem off_ne{a b:Addr}{H:Hp}(h:b≠a):off a H b=H b:=if_neg h
theorem tY{a b:Addr}{H:Hp}{o:HO}(h:off a H b=some o):b≠a/\H b=some o:=by
 unfold off at h
 split at h
 ·cases h
 ·rename_i e; exact⟨e,h⟩
structure Pj(Pr:Hp->Hp)(H0:Hp):Prop where
 mono:∀{H H':Hp},Same H H'->Same (Pr H) (Pr H')
 sub:∀H,Same (Pr H) H
 new:∀{H:Hp} {r:Addr} {o:HO},Same H0 H->H r=none->Pr (upd H r o) r=some o
theorem Pj.id(H0:Hp):Pj (λH=>H) H0:=⟨λs=>s,λH=>Same.refl H,λ_ _=>dI⟩
theorem Pj.le{Pr:Hp->Hp}{H0 H1:Hp}(p:Pj Pr H0)(s:Same H0 H1):Pj Pr H1:=⟨p.mono,p.sub,λs' h=>p.new (s.trans s') h⟩
theorem fG{H:Hp}{p:Addr}(h:H p=none)(o:HO):Same H (upd H p o):=λb u q=>by rw[bB (iR q h)]; exact q
section
variable (K:FZ)(Pr:Hp->Hp)(σ : St)(H0:Hp)
end
section
variable {K:FZ}{Pr:Hp->Hp}{σ : St}{H0:Hp}{te tb:TE}{ta:TA}{T:Tr}{Ts Us:List Tr}
end
end L2
end
section
namespace L2
open PySem PySem.Spec PyProof.Rows
def notStar:Expr->Bool
 |.Starred _ _=>false
 |_=>true
theorem tZ{e:Expr}{es:List Expr}{env:Env}(h:notStar e=true):starEach (e::es) env=(false,eval e env)::starEach es env:=by
 cases e <;> first|rfl|(unfold notStar at h; cases h)
def rO(K:FZ)(T:Tr):TE:=λ_ H Q=>∀v H',Same H H'->(∀Pr,Pj Pr H->Rep K (Pr H') v T)->Q v H'
def v8(K:FZ)(Ts:List Tr):TA:=λ_ H Q=>∀vs H',Same H H'->(∀Pr,Pj Pr H->aR K (Pr H') vs Ts)->Q vs H'
def CT(K:FZ)(Ts:List Tr):TE:=λ_ H Q=>∀a xs H1,Same H H1->H1 a=none->(∀Pr,Pj Pr H->aR K (Pr H1) xs Ts)->xs.length=Ts.length->Q (.ref a) (upd H1 a (.lst xs))
theorem PE.imp{X:Cx}{e:Expr}{t u:TE}(h:PE X e t)(i:∀σ H Q,u σ H Q->t σ H Q):PE X e u:=⟨λpins s σ H Q I q=>h pins s σ H Q I (i σ H Q q)⟩
theorem PA.imp{X:Cx}{e:List Expr}{t u:TA}(h:PA X e t)(i:∀σ H Q,u σ H Q->t σ H Q):PA X e u:=⟨λpos pins s σ H Q I q=>h pos pins s σ H Q I (i σ H Q q)⟩
section
variable {X:Cx}{e:Expr}{es:List Expr}{T:Tr}{Ts:List Tr}{pos:Pos}{k:Nat}
end
end L2
end
section
namespace L2
open PySem PySem.Spec PyProof.Rows
mutual
noncomputable def pd:Tr->PyData
 |.non=>.none
 |.bl b=>.bool b
 |.int i=>.int i
 |.str x=>.str x
 |.tup ts=>.tuple (IK ts)
 |.lst ts=>.list (IK ts)
 |.dB _=>.none
noncomputable def IK:List Tr->List PyData
 | []=>[]
 |t::r=>pd t::IK r
end
section
variable {X:Cx}{pins:List (Addr × Obj)}{σ : St}{H:Hp}{s:Shared}
end
end L2
end
section
namespace L2
open PySem PySem.Spec PyProof.Rows
def RM:V->Option Int->Option Int->Hp->VK->Prop:=λx lo hi H Q=>∃z,x=.str z/\z.length<=sizeLine/\Q (.str (Txt.slice z lo hi)) H
theorem aaK{X:Cx}:mW X RM:=by
 intro pins s σ H x v vl vu lo hi sl Q I rx hs pl pu h
 obtain⟨z,rfl,hz,q⟩:=h
 obtain⟨t,rfl⟩:=rx
 obtain⟨o,h1,h2,h3⟩:=hs
 have fin:∀(t':Tok) (k:Nat),EP X pins σ Q (.str (Txt.slice z lo hi) t') {s with toks:=k }:=λt' k=>⟨.str _,H,I.tok k,⟨_,rfl⟩,q⟩
 have hl:=Nat.le_trans (Txt.slice_le z lo hi) hz
 refine⟨"str",_,F.slot_str_getitem.lookup,typeIs_str _ _ _,?_⟩
 cases pl with
 |none =>
  cases pu with
  |none=>exact wpAny_getItem_str_slice (l:=none) (u:=none) (st:=none) ⟨o,h1,h2,h3⟩ rfl (post_val_or_str ⟨hl,λt' k=>fin t' k⟩)
  |int j uj=>exact wpAny_getItem_str_slice (l:=none) (u:=some (j,uj)) (st:=none) ⟨o,h1,h2,h3⟩ rfl (post_val_or_str ⟨hl,λt' k=>fin t' k⟩)
 |int i ui =>
  cases pu with
  |none=>exact wpAny_getItem_str_slice (l:=some (i,ui)) (u:=none) (st:=none) ⟨o,h1,h2,h3⟩ rfl (post_val_or_str ⟨hl,λt' k=>fin t' k⟩)
  |int j uj=>exact wpAny_getItem_str_slice (l:=some (i,ui)) (u:=some (j,uj)) (st:=none) ⟨o,h1,h2,h3⟩ rfl (post_val_or_str ⟨hl,λt' k=>fin t' k⟩)
def nw(H H':Hp):Hp:=λb=>match H b with
 |none=>H' b
 |some _=>none
end L2
end
section
namespace L2
open PySem PySem.Spec PyProof.Rows
noncomputable def jt(P:Program)(w:World):jY:=λouter H s E e s'=>∃ea cls a0 H' B,e=.ref ea/\E cls none H'/\s'.os=s.os/\AllBare s'.gens/\Un (frs outer) [] H H' s.heap s'.heap/\fJ P w H' B /\
 Heap.FlyingW B outer ea cls a0 s'.heap/\∀b o,s.heap.get? b=some o->b∉frs outer->∃o',B.get? b=some o'
theorem aaL{env:Env}{outer:List Env}{L b:Addr}(hf:env.frame=some L)(h:b∈frs (env::outer)):b=L\/b∈frs outer:=by
 unfold frs at h
 rw[List.filterMap_cons_some hf]at h
 exact List.mem_cons.mp h
theorem aaM{env:Env}{outer:List Env}{b:Addr}(h:b∈frs outer):b∈frs (env::outer):=by
 obtain⟨e,he,q⟩:=List.mem_filterMap.mp h
 exact List.mem_filterMap.mpr ⟨e,List.mem_cons_of_mem _ he,q⟩
theorem aaN{P:Program}{w:World}{H:Hp}{h:Heap}{l:List Addr}(x:fJ P w H h)(fr:∀b∈l,H b=none):fJ P w H (PySem.W.hideAll h l):=λa o e =>
 (x a o e).stay (λb u hb q=>PySem.W.hideAll_get _ q λhm=>by
  rcases hb with rfl|hb
  ·rw[fr _ hm]at e; cases e
  ·rw[fr _ hm]at hb; cases hb) (λ_ q=>q) λ_ _ q=>q
section
variable {P:Program}{w:World}{K:FZ}{mg:Str->Option Value}{base:Heap}{N:List Str}{qual:Str}{scope:Scope}{f:Addr}{cd:Value}{A:Around}{outer:List Env}{s:Shared}{H:Hp}{E:XK}{CX:jY}
theorem Un.left{pins:List (Addr × Obj)}{σ : St}{H1 H2:Hp}{s1:Shared}{h2 h3 B:Heap}(I:Inv (jM CX P w K mg base N qual scope f cd A outer s H E) pins σ H1 s1)
  (u:Un (frs (envOfC qual scope s.heap.objs.size f cd::outer)) [] H1 H2 s1.heap h2) (st:B.StaysIn h2) (kb:∀b o,s1.heap.get? b=some o->b∉frs (envOfC qual scope s.heap.objs.size f cd::outer)->∃o',B.get? b=some o')
  (fl:B.StaysIn h3) (sl:h2.UpToSlots h3):Un (frs outer) [] H H2 s.heap h3/\∀b o,s.heap.get? b=some o->b∉frs outer->∃o',B.get? b=some o':=by
 have ub:=I.base
 have hf:(envOfC qual scope s.heap.objs.size f cd).frame=some s.heap.objs.size:=by
  rcases I.ok.stk with z|z
  ·exact absurd (congrArg List.length z) (by show outer.length+1≠outer.length; omega)
  ·exact z.2
 have no:∀b o,s.heap.get? b=some o->b∉frs outer->b∉frs (envOfC qual scope s.heap.objs.size f cd::outer):=λb o e n z=>by
  rcases aaL hf z with rfl|z
  ·exact absurd (Heap.lt_size e) (Nat.lt_irrefl _)
  ·exact n z
 have nx:∀b:Addr,b∉([]:List Addr):=λb z=>nomatch z
 have inB:∀b o,s.heap.get? b=some o->b∉frs outer->∃o',B.get? b=some o':=λb o e n=>by
  obtain⟨o1,e1⟩:=ub.there b o e (nx b)
  exact kb b o1 e1 (no b o e n)
 have slots:∀b o,s.heap.get? b=some o->H b=none->b∈frs outer->∃sl,h3.get? b=some {o with slots:=sl }:=λb o e n z=>by
  obtain⟨RN,e1⟩:=ub.slot b o e n z (nx b)
  obtain⟨sl2,e2⟩:=u.slot b _ e1 (ub.free b o e n (nx b)) (aaM z) (nx b)
  obtain⟨_,o',e',nf⟩:=I.ok.lM.mem z
  have e'':s.heap.get? b=some o':=e'
  rw[e]at e''
  cases e''
  obtain⟨IV,e3⟩:=sl b _ e2 nf
  exact⟨IV,e3⟩
 refine⟨⟨λb o e n z _=>?_,λb o e n z _=>slots b o e n z,λb o e n _=>?_,λb o e _=>?_,λb xs q=>u.tups b xs (ub.tups b xs q),λb o q z=>u.mK b o q (ub.mK b o q z),λb ps q=>?_⟩,inB⟩
 ·have e1:=ub.keep b o e n z (nx b)
  have e2:=u.keep b o e1 (ub.free b o e n (nx b)) (no b o e z) (nx b)
  obtain⟨o',e3⟩:=inB b o e z
  have e4:=st b o' e3
  rw[e2]at e4
  cases e4
  exact fl b o e3
 ·obtain⟨o1,e1⟩:=ub.there b o e (nx b)
  exact u.free b o1 e1 (ub.free b o e n (nx b)) (nx b)
 ·by_cases z:b∈frs outer
  ·obtain⟨sl,e1⟩:=slots b o e (I.ok.tE b z) z
   exact⟨_,e1⟩
  ·obtain⟨o',e1⟩:=inB b o e z
   exact⟨o',fl b o' e1⟩
 ·obtain⟨m1,e1⟩:=ub.mL b ps q
  obtain⟨m2,e2⟩:=u.mL b _ e1
  exact⟨m1++m2,by rw[e2,Array.append_assoc]⟩
end
def Raises(X:Cx)(E:XK):Prop:=∀(pins:List (Addr × Obj)) (σ : St) (H:Hp) (s:Shared) (h':Heap) (e C:Addr) (us:List Value),Inv X pins σ H s->Heap.MadeExcOf s.heap h' e (.ref C) us->E (.ref C) none H->X.xe (.ref e) {s with heap:=h' }
theorem v9{P:Program}{w:World}{K:FZ}{mg:Str->Option Value}{base:Heap}{N:List Str}{qual:Str}{scope:Scope}{f:Addr}{cd:Value}{A:Around}{outer:List Env}{s:Shared}{H:Hp}{E:XK} :
  Raises (jM (jt P w) P w K mg base N qual scope f cd A outer s H E) E:=by
 intro pins σ H1 s1 h' e C us I hx q
 have hs:=I.stack
 have hf:(envOfC qual scope s.heap.objs.size f cd).frame=some s.heap.objs.size:=by
  rcases I.ok.stk with z|z
  ·exact absurd (congrArg List.length z) (by show outer.length+1≠outer.length; omega)
  ·exact z.2
 have hin:∀env∈(envOfC qual scope s.heap.objs.size f cd::outer),∀a,env.frame=some a->a∈frs (envOfC qual scope s.heap.objs.size f cd::outer):=λenv he b hb=>List.mem_filterMap.mpr ⟨env,he,hb⟩
 have RP:(PySem.W.hideAll s1.heap (frs (envOfC qual scope s.heap.objs.size f cd::outer))).StaysIn s1.heap:=λb o z=>PySem.W.of_hideAll _ z
 have stH:(PySem.W.hideAll s1.heap (frs (envOfC qual scope s.heap.objs.size f cd::outer))).StaysIn h':=λb o z=>hx.keeps b o (RP b o z)
 refine wpAny_leaves_madeW (base:=PySem.W.hideAll s1.heap (frs (envOfC qual scope s.heap.objs.size f cd::outer))) (h:=s1.heap) I.ok.frames hf RP (PySem.W.funFrames_hide hs hin) hx λh'' t fl _ _ sl=>?_
 obtain⟨un,ib⟩:=Un.left (B:=PySem.W.hideAll s1.heap (frs (envOfC qual scope s.heap.objs.size f cd::outer))) I (Un.kept (h':=h') hx.keeps) stH (λb o z n=>⟨o,PySem.W.hideAll_get _ z n⟩) fl.1 sl
 exact⟨e,.ref C,.ref t,H1,_,rfl,q,I.os,I.bare,un,aaN I.hok I.Bx,fl,ib⟩
theorem bN{P:Program}{w:World}{K:FZ}{mg:Str->Option Value}{base:Heap}{N:List Str}{qual:Str}{scope:Scope}{f:Addr}{cd:Value}{A:Around}{outer:List Env}{s:Shared}{H:Hp}{E:XK} :
  Passes (jt P w) (jM (jt P w) P w K mg base N qual scope f cd A outer s H E) E:=by
 intro pins σ H1 s1 e s' I h
 obtain⟨ea,cls,a0,H2,B,rfl,q,os,bare,un,hok,fl,kb⟩:=h
 have hf:(envOfC qual scope s.heap.objs.size f cd).frame=some s.heap.objs.size:=by
  rcases I.ok.stk with z|z
  ·exact absurd (congrArg List.length z) (by show outer.length+1≠outer.length; omega)
  ·exact z.2
 refine wpAny_leaves_onW (base:=B) I.ok.frames hf fl λh'' RQ sl=>?_
 obtain⟨un',ib⟩:=Un.left (B:=B) I un fl.1 kb RQ.1 sl
 exact⟨ea,cls,a0,H2,B,rfl,q,os.trans I.os,bare,un',hok,RQ,ib⟩
def RT(E:XK)(C:Addr)(te:TE):TS:=λ_ σ H=>te σ H λv H1=>[v].length=1/\E (.ref C) none H1
theorem wg{X:Cx}{E:XK}{x:Str}{C:Addr}{B newId initId:String}{bm:List Value}{np cpos pos:Pos}{e:Expr}{te:TE}(R:Raises X E)(O:OwnCls x C bm newId X.mg X.base)(FB:ExcBaseFacts B newId initId bm)(hc:X.calm=true)(ha:PE X e te)
  (hg:Gl X x:=by rfl) (hd:(x == ("__debug__" : Str))=false:=by decide) (hs:starEach [e] X.env=[(false,eval e X.env)]:=by rfl) :
  PS X (.Raise (some (.Call (.Name x np) [e] [] cpos)) none pos) (RT E C te):=by
 refine⟨λpins s σ H D I h=>?_⟩
 obtain⟨tl,N,nm,q,bs,hdct,sn,sub,ab,col,dd,k0,k1,k2,k3,k5,mN,hC,hN,hni,T⟩:=O.obj
 refine wpAny_Raise_call_subT (C:=C) (nm:=nm) (q:=q) (N:=N) (bs:=bs) (bm:=tl) (hdct:=hdct) (sn:=sn) (sub:=sub) (ab:=ab) (col:=col) (dd:=dd) (k0:=k0) (k1:=k1) (k2:=k2) (k3:=k3) (k5:=k5)
  FB (mN:=mN) (T.hasType FB.hasBase) (I.ok.hd hc) (by rw[hs]; rfl) hni (Hj I hg O.bound ⟨rfl,?_⟩ hd)
 have ga:PA X [e] (kZ te rE):=oF ha aH (by rw[hs]; rfl)
 have z:=ga cpos pins s σ H (λvs H1=>vs.length=1/\E (.ref C) none H1) I (by
  show te σ H λv H1=>_
  exact h)
 rw[hs]at z ⊢
 refine Calls.evalArgs_plain (wpAny_mono z (λus s₂ h₂=>?_) λ_ _ y=>y)
 obtain⟨vs,H2,I2,rv,hl,hE⟩:=h₂
 refine⟨rfl,?_,I2.bk _ _ hC,hN.keeps I2.bk,T.keeps I2.bk,λh' e' hm=>R pins σ H2 s₂ h' e' C us I2 hm hE⟩
 rw[<-rv.length,hl]
 decide
end L2
end
section
namespace L2
open PySem PySem.Spec PyProof.Rows
def XP(X:Cx)(pins:List (Addr × Obj))(EX:St->XK)(e:Value)(s':Shared):Prop:=∃σ H s,Inv X pins σ H s/\jt X.prog X.w X.stack H s (EX σ) e s'
abbrev TX:=Ends->(St->XK)->St->Hp->Prop
abbrev TEX:=(St->XK)->TE
section
variable {X:Cx}{k:Nat}{f:Addr}{fd:FuncData}{x:Str}{ps:List Str}{sp:Sp}{p pos:Pos}{e:Expr}{es:List Expr}{te:TEX}{t:TA}{st:Stmt}{rest:List Stmt}{a b:TX}
end
end L2
end
section
namespace L2
open PySem PySem.Spec PyProof.Rows
section
variable {X:Cx}{pins:List (Addr × Obj)}{σ : St}{H1 H2:Hp}{s0 s1:Shared}{B h6:Heap}{ea:Addr}{cls a0:Value}
end
end L2
end
section
namespace L2
open PySem PySem.Spec PyProof.Rows
section
variable {X:Cx}{pins:List (Addr × Obj)}{σ : St}{H:Hp}{s:Shared}{e:Value}
end
end L2
end
section
namespace L2
open PySem PySem.Spec PyProof.Rows PySem.W PySem.Builtin PySem.Builtin.ObjectAttr PySem.Builtin.Getset_descriptor
structure oJ(K:Frag)(C:Addr):Prop where
 ga:findIn K (.ref C) "__getattribute__" = some (some (.builtin "BaseException.__getattribute__"))
 gn:findIn K (.ref C) "__getattr__" = some none
 cl:findIn K (.ref C) "__class__" = some (some (.builtin "object.__class__"))
 ob:mroIn K C (.type "object")=some true
 be:mroIn K C (.type "BaseException")=some true
 is:(clsIn K C).isSome=true
section
variable {prog:Program}{w:World}{A:Around}{E:Value->Shared->Prop}{h:Heap}{g:Array GenState}{d:Drawn}{t:Nat}{os:OsState}{a C:Addr}{o:Obj}{K:Frag}
theorem aaO{R:Result->Shared->Prop}(X:K.In h)(Z:oJ K C)(hx:h.get? a=some o)(hc:o.cls=.ref C)(hq:R (.ok (.ret (.ref C))) ⟨h,g,d,t,os⟩) :
  codeAny (model prog w) A (.call (.builtin "getset_descriptor.__get__") ⟨[.builtin "object.__class__",.ref a,.ref C],[]⟩) R ⟨h,g,d,t,os⟩:=by
 have ty:Looks (model prog w) h (typeOf (.ref a)) (.ref C):=hc▸(Looks.ld hx).andThen .now
 have ms:=looks_mroIn (M:=model prog w) X Z.ob
 refine codeAny_call_builtin KF.slot_gs.plain KF.entry_gs (KF.slot_gs.check _ _ _ _ _ _ _ _ KF.type_class (KF.args_gs _ _ _) ?_)
 unfold Builtin.«getset_descriptor.__get__»
 unfold Builtin.Getset_descriptor.descrGet
 rw[dga_obj]
 refine wpAny_bind (wpAny_pure ?_)
 unfold Builtin.Getset_descriptor.descrGetter
 unfold Builtin.Getset_descriptor.descrCheckInstance
 unfold Builtin.Getset_descriptor.descrNameAndClass
 unfold isInstance
 simp only[KF.owner_class]
 repeat lk
 refine⟨Code.quiet_builtin _ (by decide +kernel),codeAny_builtin KF.entry_class ?_⟩
 unfold Builtin.«object.__class__»
 unfold shownTypeOf
 repeat lk
 all_goals first|exact hq|assumption
theorem aaP{tk:Tok}{Q:Fin->Shared->Prop}(X:K.In h)(Z:oJ K C)(hx:h.get? a=some o)(hc:o.cls=.ref C)(hq:Q (.done (.ret (.ref C))) ⟨h,g,d,t,os⟩) :
  wpAny (model prog w) A (Builtin.«object.__getattribute__» ⟨[.ref a,.str "__class__" tk],[]⟩) Q E ⟨h,g,d,t,os⟩:=by
 have hT5:(⟨h,g,d,t,os⟩:Shared).TypeIs (.builtin "object.__class__") "getset_descriptor" := KF.type_class
 have f6:=F.slot_gs_get.lookup
 have f7:=F.slot_gs_set.lookup
 have lc:=λA (Q:Option Value->Shared->Prop) E (q:Q (some (.builtin "object.__class__")) ⟨h,g,d,t,os⟩)=>looks_findIn (M:=model prog w) X Z.cl A Q E ⟨h,g,d,t,os⟩ (λ_ _ z=>z) q
 repeat(any_goals (first|assumption|(with_reducible refine wpAny_loadPart_at hx ?_; rw[hc])|with_reducible refine lc _ _ _ ?_|wp_step))
 refine aaO X Z hx hc ?_
 repeat(any_goals (first|assumption|wp_step))
theorem aaQ{nameV:Value}{Q:Unit->Shared->Prop}(X:K.In h)(Z:oJ K C)(hx:h.get? a=some o)(hc:o.cls=.ref C)(hq:Q () ⟨h,g,d,t,os⟩) :
  wpAny (model prog w) A (checkBuiltinCall "BaseException.__getattribute__" ⟨[.ref a,nameV],[]⟩) Q E ⟨h,g,d,t,os⟩:=by
 have b1:builtinKind "BaseException.__getattribute__" = some .slot:=by decide +kernel
 have b2:splitId "BaseException.__getattribute__" = some ("BaseException", "__getattribute__"):=by decide +kernel
 have ha:=F.args_bexc_ga (.ref a) nameV
 have lc:=λA (Q:Bool->Shared->Prop) E (q:Q true ⟨h,g,d,t,os⟩)=>looks_mroIn (M:=model prog w) X Z.be A Q E ⟨h,g,d,t,os⟩ (λ_ _ z=>z) q
 simp only[checkBuiltinCall,b1,b2]
 refine wpAny_bind ?_
 unfold isInstance
 repeat(first|(with_reducible refine wpAny_loadPart_at hx ?_; rw[hc])|with_reducible refine lc _ _ _ ?_|wp_step)
 exact hq
theorem aaR{tk:Tok}{R:Result->Shared->Prop}(X:K.In h)(Z:oJ K C)(hx:h.get? a=some o)(hc:o.cls=.ref C)(hq:R (.ok (.ret (.ref C))) ⟨h,g,d,t,os⟩) :
  codeAny (model prog w) A (.call (.builtin "BaseException.__getattribute__") ⟨[.ref a,.str "__class__" tk],[]⟩) R ⟨h,g,d,t,os⟩ :=
 codeAny_call_builtin PySem.F.attr_ValueError.ga.plain F.entry_bexc_ga (aaQ X Z hx hc (aaP X Z hx hc hq))
theorem aaS{tk:Tok}{Q:Value->Shared->Prop}(X:K.In h)(Z:oJ K C)(hx:h.get? a=some o)(hc:o.cls=.ref C)(hq:Q (.ref C) ⟨h,g,d,t,os⟩) :
  wpAny (model prog w) A (getAttrBy (.ref a) (.str "__class__" tk) false) Q E ⟨h,g,d,t,os⟩:=by
 have f3:=PySem.F.attr_ValueError.ga.bind (.ref a)
 have hx2:(Value.builtin "BaseException.__getattribute__" == Value.builtin "object.__getattribute__")=false:=by decide +kernel
 have hx1:(onTheHeap (Value.ref C)&&Value.builtin "BaseException.__getattribute__" == Value.builtin "object.__getattribute__")=false:=by rw[hx2]; rfl
 have l1:=λA (Q:Option Value->Shared->Prop) E (q:Q (some (.builtin "BaseException.__getattribute__")) ⟨h,g,d,t,os⟩)=>looks_findIn (M:=model prog w) X Z.ga A Q E ⟨h,g,d,t,os⟩ (λ_ _ z=>z) q
 have l2:=λA (Q:Option Value->Shared->Prop) E (q:Q none ⟨h,g,d,t,os⟩)=>looks_findIn (M:=model prog w) X Z.gn A Q E ⟨h,g,d,t,os⟩ (λ_ _ z=>z) q
 repeat(any_goals (first|assumption|(with_reducible refine wpAny_loadPart_at hx ?_; rw[hc])|with_reducible refine l1 _ _ _ ?_|with_reducible refine l2 _ _ _ ?_|wp_step))
 refine aaR X Z hx hc ?_
 repeat(any_goals (first|assumption|wp_step))
theorem aaT{Q:Option Value->Shared->Prop}(X:K.In h)(Z:oJ K C)(hx:h.get? a=some o)(hc:o.cls=.ref C)(hq:Q (some (.ref C)) ⟨h,g,d,t+1,os⟩) :
  wpAny (model prog w) A (getAttr? (.ref a) "__class__") Q E ⟨h,g,d,t,os⟩:=by
 unfold getAttr? getAttrBy?
 repeat(any_goals (first|assumption|with_reducible apply aaS X Z hx hc|wp_step))
theorem aaU(Z:oJ K C):KitX K (.ref a) (.ref C) (Ir a C) where
 ty:=λ_ _ _ ⟨o,_,h1,h2,_⟩=>h2▸(Looks.ld h1).andThen .now
 it:=λ_ _ X _=>by
  obtain⟨cd,e⟩:=Option.isSome_iff_exists.mp Z.is
  unfold clsIn at e
  split at e
  ·rename_i ho
   intro A' Q' E' s' k q
   unfold isType loadHead
   exact wpAny_bind (wpAny_loadPart (k _ _ (X _ _ ho)) (wpAny_pure q))
  ·cases e
 ne:=λh tp dd its n sl X htp=>by
  obtain⟨cd,e⟩:=Option.isSome_iff_exists.mp Z.is
  refine Bool.eq_false_iff.mpr λq=>?_
  have q':C=tp:=Value.ref.inj (beq_iff_eq.mp q)
  subst q'
  unfold clsIn at e
  split at e
  ·rename_i ho
   have z:=(X _ _ ho).symm.trans htp
   cases z
  ·cases e
 ca:=λ{_ _ _ _ _ s} X p k=>by
  obtain⟨h,g,d,t,os⟩:=s
  obtain⟨o,_,h1,h2,_⟩:=p
  exact aaT X Z h1 h2 k
end
section
variable {X:Cx}
end
end L2
end
section
namespace L2
open PySem
theorem aaV(a b:Int):a=b*a.fdiv b+a.fmod b:=by
 have:=Int.mul_fdiv_add_fmod a b
 omega
theorem aaW(a b:Int)(h:b≠0):(a.fmod b).natAbs<b.natAbs:=by
 have h1:=Int.emod_nonneg a h
 have h2:=Int.emod_lt a h
 rw[Int.fmod_eq_emod]
 split
 ·omega
 ·rename_i hn
  have hb:¬0<=b:=λz=>hn (.inl z)
  have hd:¬b∣a:=λz=>hn (.inr z)
  have h3:a%b≠0:=λz=>hd (Int.dvd_of_emod_eq_zero z)
  omega
theorem aaX(a b:Int):Int.gcd b (a.fmod b)=Int.gcd a b:=by
 have e:=aaV a b
 apply Nat.dvd_antisymm
 ·refine Int.dvd_gcd ?_ ?_
  ·have h1:(Int.gcd b (a.fmod b):Int)∣b:=Int.gcd_dvd_left ..
   have h2:(Int.gcd b (a.fmod b):Int)∣a.fmod b:=Int.gcd_dvd_right ..
   have h3:=Int.dvd_add (Int.dvd_mul_of_dvd_left (c:=a.fdiv b) h1) h2
   rw[<-e]at h3
   exact h3
  ·exact Int.gcd_dvd_left ..
 ·refine Int.dvd_gcd ?_ ?_
  ·exact Int.gcd_dvd_right ..
  ·have h1:(Int.gcd a b:Int)∣a:=Int.gcd_dvd_left ..
   have h2:(Int.gcd a b:Int)∣b:=Int.gcd_dvd_right ..
   have e2:a.fmod b=a-b*a.fdiv b:=by omega
   rw[e2]
   exact Int.dvd_sub h1 (Int.dvd_mul_of_dvd_left h2)
theorem aaY(a:Int):(if a<0 then -a else a)=((Int.gcd a 0:Nat):Int):=by
 rw[Int.gcd_zero_right]
 split <;> omega
theorem yR{a b:Int}(hb:0<b):0<((Int.gcd a b:Nat):Int)/\((Int.gcd a b:Nat):Int)<=b/\1<=b / (Int.gcd a b:Nat)/\Int.gcd (a / (Int.gcd a b:Nat)) (b / (Int.gcd a b:Nat))=1/\(0<=a->0<=a / (Int.gcd a b:Nat)) /\
  a=(a / (Int.gcd a b:Nat))*(Int.gcd a b:Nat)/\b=(b / (Int.gcd a b:Nat))*(Int.gcd a b:Nat):=by
 have hg:0<Int.gcd a b:=Int.gcd_pos_of_ne_zero_right a (by omega)
 have hgi:0<((Int.gcd a b:Nat):Int):=by omega
 have d1:(Int.gcd a b:Int)∣a:=Int.gcd_dvd_left ..
 have d2:(Int.gcd a b:Int)∣b:=Int.gcd_dvd_right ..
 have e1:=Int.ediv_mul_cancel d1
 have e2:=Int.ediv_mul_cancel d2
 refine⟨hgi,Int.le_of_dvd hb d2,?_,Int.gcd_ediv_gcd_ediv_gcd hg,λh=>Int.ediv_nonneg h (by omega),e1.symm,e2.symm⟩
 have:0<b / (Int.gcd a b:Nat):=Int.ediv_pos_of_pos_of_dvd hb (by omega) d2
 omega
end L2
end
section
namespace L2
open PySem PySem.Spec PyProof.Rows
section
variable {X:Cx}
end
theorem aaZ{p q p' q':Int}(h1:1<=q)(h2:1<=q')(g1:Int.gcd p q=1)(g2:Int.gcd p' q'=1)(e:p*q'=p'*q):p=p'/\q=q':=by
 have en:p.natAbs*q'.natAbs=p'.natAbs*q.natAbs:=by rw[<-Int.natAbs_mul,<-Int.natAbs_mul,e]
 have c1:Nat.Coprime q.natAbs p.natAbs:=by rw[Nat.coprime_comm]; exact g1
 have c2:Nat.Coprime q'.natAbs p'.natAbs:=by rw[Nat.coprime_comm]; exact g2
 have d1:q.natAbs∣q'.natAbs:=c1.dvd_of_dvd_mul_left ⟨p'.natAbs,by rw[en,Nat.mul_comm]⟩
 have d2:q'.natAbs∣q.natAbs:=c2.dvd_of_dvd_mul_left ⟨p.natAbs,by rw[<-en,Nat.mul_comm]⟩
 have ea:=Nat.dvd_antisymm d1 d2
 have eq:q=q':=by omega
 refine⟨?_,eq⟩
 rw[<-eq]at e
 exact Int.eq_of_mul_eq_mul_right (by omega) e
end L2
end
section
namespace L2
open PySem PySem.Spec PyProof.Rows PySem.W
theorem wk{K:Frag}{h:Heap}{mg:Str->Option Value}{x:Str}{C:Addr}{bmB:List Value}{newId:String}(X:K.In h)(G:h.Ns mainGlobals mg)(e:nsIn K mainGlobals x=some (some (.ref C)))(q:excIn K C bmB newId=true):OwnCls x C bmB newId mg h:=by
 constructor
 ·exact mg_of X G e
 unfold excIn at q
 split at q
 case h_2=>cases q
 rename_i dd cd sl lk
 split at q
 case h_2=>cases q
 rename_i c0 bm y0 y1 y2 y3 nid y5 hm hl
 rw[Bool.and_eq_true,Bool.and_eq_true,Bool.and_eq_true,Bool.and_eq_true,Bool.and_eq_true]at q
 obtain⟨⟨⟨⟨⟨q1,q2⟩,q3⟩,q4⟩,q5⟩,q6⟩:=q
 have r1:=beq_iff_eq.mp q1
 have r2:=beq_iff_eq.mp q2
 have r6:=beq_iff_eq.mp q6
 have r3:cd.hasDel=false:=by simpa using q3
 subst r1 r2
 have hsl:sl = #[y0,y1,y2,y3,some (.builtin nid),y5]:=by
  cases sl with
  |mk l=>exact congrArg Array.mk hl
 subst hsl
 cases cd with
 |mk nm bs mro ns qn hd sn sub ab col del =>
  dsimp only at hm r3 q5 r6
  subst hm r3
  exact⟨bm,ns,nm,qn,bs,hd,sn,sub,ab,col,dd,y0,y1,y2,y3,y5,_,X _ _ lk,.of_isNs (isNs_of_in X q5),nsMap_none_of_in X q5 r6,tail_of_in X q4⟩
section
variable {P:Program}{w:World}{K:Frag}{mg:Str->Option Value}{base:Heap}
theorem tR.okX{x qual:Str}{st:Stmt}{f:Addr}{fd:FuncData}{N ps:List Str}{k:Nat}{sp:Sp}(F:tR K x qual st f fd)(S:pU N ps (bx st))(len:∀vs H Q E,sp vs H Q E->vs.length=ps.length)
  (hbody:∀(cdv:Value) (A:Around) (outer:List Env) (s:Shared) (H:Hp) (vs:List V) (Q:VK) (E:XK),fO k (A.deeper (envOfC qual (bx st) s.heap.objs.size f cdv))->sp vs H Q E ->
   ∃t,jo (jM (jt P w) P w K mg base N qual (bx st) f cdv A outer s H E) (jq st) t/\t {nx:=λ_ H'=>Q .non H',rt:=Q } (start N vs) H):lg P w K mg base (jt P w) (k+1) f fd ps sp:=by
 obtain⟨oc,od,kV,doc,pm,an,cdv,ct,osl,rfl,lk,hcd⟩:=F.ex
 exact QL lk hcd S len λA outer s H vs Q E hr h=>hbody cdv A outer s H vs Q E hr h
def aM(P:Program)(w:World)(K:Frag)(mg:Str->Option Value)(base:Heap)(k:Nat)(x:Str)(ps:List Str)(sp:Sp):Prop :=
 ∃f fd,lg P w K mg base (jt P w) k f fd ps sp/\Binds K fd ps []/\keepIn K (.ref f)=true/\mg x=some (.ref f)
theorem aM.mono{j k:Nat}{x:Str}{ps:List Str}{sp:Sp}(D:aM P w K mg base j x ps sp)(h:j<=k):aM P w K mg base k x ps sp:=by
 obtain⟨f,fd,h1,h2⟩:=D
 exact⟨f,fd,h1.mono h,h2⟩
theorem At.RV{k:Nat}{x:Str}{st:Stmt}{N ps:List Str}{sp:Sp}(a:At K mg x st)(S:pU N ps (bx st))
  (hb:∀(kV doc pm:Value) (an:Option Addr) (cdv ct:Value) (us:List Value),us.length=ps.length->bindArgs (fnOf x x (mX st) (jq st) (bx st) .none kV doc pm an cdv ct) ⟨us,[]⟩=pure (ps.zip us))
  (len:∀vs H Q E,sp vs H Q E->vs.length=ps.length)
  (hbody:∀(f:Addr) (cdv:Value) (A:Around) (outer:List Env) (s:Shared) (H:Hp) (vs:List V) (Q:VK) (E:XK),fO k (A.deeper (envOfC x (bx st) s.heap.objs.size f cdv))->sp vs H Q E ->
   ∃t,jo (jM (jt P w) P w K mg base N x (bx st) f cdv A outer s H E) (jq st) t/\t {nx:=λ_ H'=>Q .non H',rt:=Q } (start N vs) H):aM P w K mg base (k+1) x ps sp:=by
 obtain⟨f,fd,F,m⟩:=a
 exact⟨f,fd,F.okX S len λcdv A outer s H vs Q E hr h=>hbody f cdv A outer s H vs Q E hr h,F.binds hb,F.kp,m⟩
end
section
variable {X:Cx}{k:Nat}{x:Str}{ps:List Str}{sp:Sp}{p pos:Pos}{e:Expr}{es:List Expr}{t:TA}
theorem aa0{P:Program}{w:World}:Passes (jt P w) X E0:=λ_ _ _ _ _ _ _ h=>by
 obtain⟨_,_,_,_,_,_,q,_⟩:=h
 exact q.elim
end
end L2
end
section
namespace L2
open PySem PySem.Spec PyProof.Rows
noncomputable def IW(K:FZ)(l1 l2:Addr):It where
 go:=λi H=>∃xs ys x y,cJ K H l1 xs/\cJ K H l2 ys/\xs[i]?=some x/\ys[i]?=some y
 vR:=λi H v H'=>∃T x y,v=.ref T/\H T=none/\H'=upd H T (.tup [x,y])/\∀xs ys,cJ K H l1 xs->cJ K H l2 ys->xs[i]?=some x/\ys[i]?=some y
 stop:=λi H=>∃xs ys,cJ K H l1 xs/\cJ K H l2 ys/\i=min xs.length ys.length
def aa1(l1 l2 z TI TO i1 i2:Addr)(i:Nat)(h:Heap):Prop:=IsZip h z TI TO .none/\IsPair h TI (.ref i1) (.ref i2)/\(∃a b,IsPair h TO a b)/\h.IsListIter i1 l1 i/\h.IsListIter i2 l2 i
section
variable {P:Program}{w:World}{K:FZ}
theorem Inv.aa2{X:Cx}{pins:List (Addr × Obj)}{σ : St}{H:Hp}{s:Shared}{h':Heap}{tk:Nat}{fp:List Addr}{T:Addr}{xs:List V}{its:List Value}(I:Inv X pins σ H s)(hf:∀b∈fp,eU X pins H b)(k:∀b o,b∉fp->s.heap.get? b=some o->h'.get? b=some o)
  (th:∀b∈fp,∃o,h'.get? b=some o) (hT:s.heap.objs.size<=T) (ht:IsTup h' T its.toArray) (rv:Vals xs its) (hz:xs.length<=sizeLine):Inv X pins σ (upd H T (.tup xs)) {s with heap:=h',toks:=tk }:=by
 have fT:H T=none:=I.hok.fresh hT
 have neT:∀b o,s.heap.get? b=some o->b≠T:=λb o e z=>by rw[z]at e; exact absurd (Heap.lt_size e) (Nat.not_lt.mpr hT)
 have yS:∀b o,H b=some o->b≠T:=λb o e z=>by rw[z,fT]at e; cases e
 refine I.step (g':=s.gens) (d':=s.drawn) (ch:=fp) (λb hb=>?_) (λb o _ _ hc e _=>k b o hc e) (λb o _ _ hc e _=>⟨o.slots,k b o hc e⟩) (λb o _ e n=>by rw[bB (neT b o e)]; exact n) (λb o hc e=>⟨o,k b o hc e⟩)
  (λb ys e=>by rw[bB (yS b _ e)]; exact e) (λb o u e=>by rw[bB (yS b _ e)]; exact e) (λb ps e=>⟨#[],by rw[bB (yS b _ e)]; simpa using e⟩) (λm hm=>?_) (λb u e=>?_) I.bare
 ·obtain⟨f0,f1,f2,f3,f4,f5⟩:=hf b hb
  exact⟨f3,f1,f4,f5⟩
 ·obtain⟨o,es,ep,ho,r⟩:=hm
  exact⟨o,es,ep,k _ o (λz=>(hf _ z).2.1 rfl) ho,r⟩
 ·by_cases z:b=T
  ·subst z
   rw[dI]at e
   cases e
   exact⟨hz,its,rv,ht⟩
  ·rw[bB z]at e
   refine(I.hok b u e).stay (λc o hc q=>k c o (λzc=>?_) q) (λc q=>by rw[bB (yS c _ q)]; exact q) λc ys q=>by rw[bB (yS c _ q)]; exact q
   have:=(hf c zc).1
   rcases hc with rfl|hc
   ·rw[this]at e; cases e
   ·rw[this]at hc; cases hc
theorem Inv.aa3{X:Cx}{pins:List (Addr × Obj)}{σ : St}{H:Hp}{s:Shared}{h':Heap}{tk:Nat}{fp:List Addr}(I:Inv X pins σ H s)(hf:∀b∈fp,eU X pins H b)(k:∀b o,b∉fp->s.heap.get? b=some o->h'.get? b=some o):Inv X pins σ H {s with heap:=h',toks:=tk }:=by
 refine I.step (g':=s.gens) (d':=s.drawn) (ch:=fp) (λb hb=>?_) (λb o _ _ hc e _=>k b o hc e) (λb o _ _ hc e _=>⟨o.slots,k b o hc e⟩) (λb o _ e n=>n) (λb o hc e=>⟨o,k b o hc e⟩)
  (λb ys e=>e) (λb o u e=>e) (λb ps e=>⟨#[],by simpa using e⟩) (λm hm=>?_) (λb u e=>?_) I.bare
 ·obtain⟨f0,f1,f2,f3,f4,f5⟩:=hf b hb
  exact⟨f3,f1,f4,f5⟩
 ·obtain⟨o,es,ep,ho,r⟩:=hm
  exact⟨o,es,ep,k _ o (λz=>(hf _ z).2.1 rfl) ho,r⟩
 ·refine(I.hok b u e).stay (λc o hc q=>k c o (λzc=>?_) q) (λc q=>q) λc ys q=>q
  have:=(hf c zc).1
  rcases hc with rfl|hc
  ·rw[this]at e; cases e
  ·rw[this]at hc; cases hc
theorem aa4{elts:List Expr}{k:Nat}{pos:Pos}(l1 l2 z TI TO i1 i2:Addr)(D:ZipApart z TI TO i1 i2 l1 l2):Turn P w K (.Tuple elts k pos) (IW K l1 l2) [z,TI,TO,i1,i2] z (aa1 l1 l2 z TI TO i1 i2) where
 mem:=by simp
 obj:=λi h st b hb=>by
  obtain⟨hz,hTI,⟨a,c,hTO⟩,⟨o1,e1,_,d1⟩,⟨o2,e2,_,d2⟩⟩:=st
  have hb':b=z\/b=TI\/b=TO\/b=i1\/b=i2:=by simpa using hb
  rcases hb' with rfl|rfl|rfl|rfl|rfl
  ·exact⟨_,hz,λv q=>nomatch q⟩
  ·exact⟨_,hTI,λv q=>nomatch q⟩
  ·exact⟨_,hTO,λv q=>nomatch q⟩
  ·exact⟨o1,e1,λv q=>by rw[d1]at q; cases q⟩
  ·exact⟨o2,e2,λv q=>by rw[d2]at q; cases q⟩
 keep:=λi h h' st kp=>by
  obtain⟨hz,hTI,⟨a,c,hTO⟩,h1,h2⟩:=st
  exact⟨kp z (by simp) _ hz,kp TI (by simp) _ hTI,⟨a,c,kp TO (by simp) _ hTO⟩,h1.at λo e=>kp i1 (by simp) o e,h2.at λo e=>kp i2 (by simp) o e⟩
 item:=by
  intro X hP hw hK hc i pins s σ H E I hf st hg
  subst hP hw hK
  obtain⟨xs,ys,x,y,q1,q2,hx,hy⟩:=hg
  obtain⟨uc,CV,p1,_⟩:=I.list q1
  obtain⟨its2,jD,p2,_⟩:=I.list q2
  obtain⟨u,hu,ru⟩:=CV.get hx
  obtain⟨v,hv,rv⟩:=jD.get hy
  have W:=WalksT.zip2 (prog:=X.prog) (w:=X.w) (A:=X.A) (I.ok.hd hc) z TI TO i1 i2 l1 l2 D uc.toArray its2.toArray
  have lt1:i<uc.length:=(List.getElem?_eq_some_iff.mp hu).1
  have fB:i<its2.length:=(List.getElem?_eq_some_iff.mp hv).1
  refine W.item i s _ E (by simp; omega) ⟨st.1,st.2.1,st.2.2.1,st.2.2.2.1,st.2.2.2.2,p1.isList,p2.isList⟩ λT vals h' tk hp hT ht mid kk=>?_
  obtain⟨u',v',e1,e2,rfl⟩:=hp
  have eu:u'=u:=by
   have:uc[i]?=some u':=by simpa using e1
   rw[hu]at this; cases this; rfl
  have ev:v'=v:=by
   have:its2[i]?=some v':=by simpa using e2
   rw[hv]at this; cases this; rfl
  subst eu ev
  refine⟨.ref T,rfl,?_⟩
  refine W.go elts k pos i T _ _ E mid λh'' st' RW=>?_
  have nT:=W.apart i T _ mid
  have ob:=(λb hb=>(by
   obtain⟨hz,hTI,⟨a,c,hTO⟩,⟨o1,e1,_,d1⟩,⟨o2,e2,_,d2⟩⟩:=st
   have hb':b=z\/b=TI\/b=TO\/b=i1\/b=i2:=by simpa using hb
   rcases hb' with rfl|rfl|rfl|rfl|rfl
   ·exact Heap.lt_size hz
   ·exact Heap.lt_size hTI
   ·exact Heap.lt_size hTO
   ·exact Heap.lt_size e1
   ·exact Heap.lt_size e2:b<s.heap.objs.size):∀b∈[z,TI,TO,i1,i2],b<s.heap.objs.size)
  have nTf:T∉[z,TI,TO,i1,i2]:=λm=>absurd (ob T m) (Nat.not_lt.mpr hT)
  have sub:∀b,b∉[z,TI,TO,i1,i2]->b∉[z,TO,i1,i2]:=λb n m=>n (by simp at m ⊢; rcases m with rfl|rfl|rfl|rfl <;> simp)
  have aa5:IsTup h'' T #[u',v']:=by
   obtain⟨o,e,r⟩:=ht
   exact⟨o,RW T o nT e,r⟩
  have th:∀b∈[z,TI,TO,i1,i2],∃o,h''.get? b=some o:=λb hb=>by
   obtain⟨hz,hTI,⟨a,c,hTO⟩,⟨o1,e1,_,d1⟩,⟨o2,e2,_,d2⟩,_⟩:=st'
   have hb':b=z\/b=TI\/b=TO\/b=i1\/b=i2:=by simpa using hb
   rcases hb' with rfl|rfl|rfl|rfl|rfl
   ·exact⟨_,hz⟩
   ·exact⟨_,hTI⟩
   ·exact⟨_,hTO⟩
   ·exact⟨_,e1⟩
   ·exact⟨_,e2⟩
  have I':Inv X pins σ (upd H T (.tup [x,y])) {s with heap:=h'',toks:=tk }:=I.aa2 (its:=[u',v']) hf (λb o n e=>RW b o (sub b n) (kk b o (sub b n) e)) th hT aa5 (.cons ru (.cons rv .nil)) (by show 2<=sizeLine; decide)
  refine⟨.ref T,_,I',rfl,⟨T,x,y,rfl,I.hok.fresh hT,rfl,λxs' ys' a1 a2=>?_⟩,⟨st'.1,st'.2.1,st'.2.2.1,st'.2.2.2.1,st'.2.2.2.2.1⟩,λb hb=>?_⟩
  ·rw[I.BW a1 q1,I.BW a2 q2]
   exact⟨hx,hy⟩
  ·have nb:b≠T:=by
    intro e0
    rw[e0]at hb
    exact nTf hb
   rw[bB nb]
   exact(hf b hb).1
 done:=by
  intro X hP hw hK hc i pins s σ H E I hf st hg
  subst hP hw hK
  obtain⟨xs,ys,q1,q2,e⟩:=hg
  obtain⟨uc,CV,p1,_⟩:=I.list q1
  obtain⟨its2,jD,p2,_⟩:=I.list q2
  have W:=WalksT.zip2 (prog:=X.prog) (w:=X.w) (A:=X.A) (I.ok.hd hc) z TI TO i1 i2 l1 l2 D uc.toArray its2.toArray
  have ei:i=min uc.toArray.size its2.toArray.size:=by simp[e,CV.length,jD.length]
  subst ei
  have sub:∀b,b∉[z,TI,TO,i1,i2]->b∉[z,TO,i1,i2]:=λb n m=>n (by simp at m ⊢; rcases m with rfl|rfl|rfl|rfl <;> simp)
  exact W.done s _ E ⟨st.1,st.2.1,st.2.2.1,st.2.2.2.1,st.2.2.2.2,p1.isList,p2.isList⟩ λh' tk kk=>⟨rfl,I.aa3 hf λb o n e=>kk b o (sub b n) e⟩
 self:=λA i s Q E st h=>wpAny_pyIter_zip st.1 h
end
section
variable {X:Cx}
def RX(K:FZ)(ta:TA):TI:=λσ H R=>ta σ H λvs H1=>∃l1 l2,vs=[.ref l1,.ref l2]/\(∃xs,cJ K H1 l1 xs)/\(∃ys,cJ K H1 l2 ys)/\R (IW K l1 l2) H1
theorem RZ{elts:List Expr}{k:Nat}{tpos:Pos}{a b:Expr}{ta:TA}{p pos:Pos}(hm:X.mg "zip" = none) (ha:PA X [a,b] ta) (hg:Gl X "zip" := by rfl) (hs:starEach [a,b] X.env=[(false,eval a X.env),(false,eval b X.env)]:=by rfl) (hs2:starEach [b] X.env=[(false,eval b X.env)]:=by rfl) :
  PI X (.Tuple elts k tpos) (.Call (.Name "zip" p) [a,b] [] pos) (RX X.K ta):=by
 intro pins s σ H R I h
 refine Call_ (tH I hg hm (show bootBuiltins "zip" = some (.type "zip") by decide +kernel) (PyProof.Rows.callWith_type1 (bH (ha pos pins s σ H _ I h) λus s1 ⟨vs,H1,I1,r1,q1⟩=>?_) (by rw[hs,hs2]) (by rw[hs2]; rfl)))
 obtain⟨l1,l2,e,⟨xs,h1⟩,⟨ys,h2⟩,q⟩:=q1
 subst e
 cases r1 with
 |cons r rr =>
  cases rr with
  |cons r' rr =>
   cases rr
   cases r
   cases r'
   obtain⟨uc,CV,p1,_⟩:=I1.list h1
   obtain⟨its2,jD,p2,_⟩:=I1.list h2
   obtain⟨o1,e1,_⟩:=p1.isList
   obtain⟨o2,e2,_⟩:=p2.isList
   refine call_zip_2 p1.isList p2.isList λh' hz hTI hTO hi1 hi2 hsz hk=>?_
   refine wpAny_pyIter_zip hz ?_
   refine⟨_,[_,_,_,_,_],_,_,H1,rfl,I1.kept (t':=s1.toks) hk,aa4 l1 l2 _ _ _ _ _ (PySem.W.ktu_apart _ _ _ (Heap.lt_size e1) (Heap.lt_size e2)),⟨hz,hTI,⟨_,_,hTO⟩,hi1,hi2⟩,λc hc=>?_,q⟩
   have hc':c=s1.heap.objs.size+4\/c=s1.heap.objs.size+2\/c=s1.heap.objs.size+3\/c=s1.heap.objs.size\/c=s1.heap.objs.size+1:=by simpa using hc
   have hge:s1.heap.objs.size<=c:=by rcases hc' with rfl|rfl|rfl|rfl|rfl <;> omega
   exact I1.pR hge (I1.hok.fresh hge)
end
end L2
end
section
namespace L2
open PySem
theorem aa6(r:Rat):Rat.divInt r.num (r.den:Int)=r:=Rat.num_divInt_den r
theorem div_eq{r s:Rat}(hs:s.num≠0):Rat.divInt (r.num*s.den) (r.den*s.num)=r / s:=by
 have h:Rat.divInt s.den s.num=s⁻¹ := by
  rw[Rat.inv_def]
 have h2:=Rat.divInt_mul_divInt r.num (s.den:Int) (d₁ := r.den) (d₂ := s.num)
 rw[aa6,h]at h2
 rw[Rat.div_def]
 exact h2.symm
end L2
end
section
namespace L2
open PySem PySem.Spec PyProof.Rows
section
variable {X:Cx}{e:Expr}{te:TE}{th:TO}{pos p2:Pos}
end
end L2
end
section
namespace L2
open PySem PySem.Spec PyProof.Rows
section
variable {X:Cx}
def Ja(K:FZ):R2:=λx y H Q=>∃t ts p xs,Rep K H x t/\y=.ref p/\(cJ K H p xs\/dN K H p xs)/\aR K H xs ts/\deps ts<=40/\dep t<=40/\Q (.bl (!rN t ts)) H
open Classical in
theorem aa7(hu:X.A.units+64<cLine):dz X (compareOp .NotIn) (Ja X.K):=by
 intro pins s σ H x y v u Q I rx ry h
 obtain⟨t,ts,p,xs,q1,rfl,hq,qs,hd,hd2,q⟩:=h
 cases ry
 have hu1:X.A.in1.units+40<cLine:=by
  have:=in1_units X.A
  omega
 -- what == tells of an item,by the item itself
 let e:Value->Bool:=λw'=>if h:∃z tz,z∈xs/\RelV z w'/\Rep X.K H z tz/\tz∈ts then eqT (Classical.choose (Classical.choose_spec h)) t else false
 have ee:∀z w' tz,z∈xs->RelV z w'->Rep X.K H z tz->tz∈ts->e w'=eqT tz t:=λz w' tz h1 h2 h3 h4=>by
  have hx:∃z tz,z∈xs/\RelV z w'/\Rep X.K H z tz/\tz∈ts:=⟨z,tz,h1,h2,h3,h4⟩
  show(if h:_ then _ else _)=_
  rw[dif_pos hx]
  have sp:=Classical.choose_spec (Classical.choose_spec hx)
  have key:∀z z' t1 t2,RelV z w'->RelV z' w'->dep t1<=99->Rep X.K H z t1->Rep X.K H z' t2->t1=t2:=λz z' t1 t2 a1 a2 d9 a3 a4=>by
   obtain rfl:=RelV.inj a1 a2
   exact Rep.inj I d9 a3 a4
  rw[key _ _ _ _ sp.2.1 h2 (by have:=v7 sp.2.2.2; omega) sp.2.2.1 h3]
 have mem:∀{its:List Value},Vals xs its->∀w'∈its,SeqAt.EqAt X.A.in1 s w' v (e w'):=by
  intro its r w' hw
  obtain⟨j,hj,ej⟩:=List.mem_iff_getElem.mp hw
  have hjx:j<xs.length:=by rw[r.length]; exact hj
  obtain⟨u',h1,h2⟩:=r.get (List.getElem?_eq_getElem hjx)
  rw[List.getElem?_eq_getElem hj,ej]at h1
  cases h1
  obtain⟨tz,h3,h4⟩:=qs.get (List.getElem?_eq_getElem hjx)
  have hm:=List.mem_of_getElem? h3
  rw[ee _ _ tz (List.getElem_mem hjx) h2 h4 hm]
  exact(CJ I 40 X.A.in1 tz t _ x _ v hu1 (Nat.le_trans (v7 hm) hd) (by have:=v7 hm; omega) (by omega) h4 q1 h2 rx).2
 rcases hq with hq|hq
 ·obtain⟨its,r,pl,hz⟩:=I.list hq
  refine SeqAt.notIn_listAt e pl.isList (λw hw=>mem r w (by simpa using hw)) ⟨.bl _,H,I,rfl,?_⟩
  rw[show its.toArray.any e=its.any e by simp,CK (λz=>eqT z t) e r qs λz w' tz h1 h2 h3 h4=>ee z w' tz h1 h2 h3 h4]
  exact q
 ·obtain⟨its,r,pl,hz⟩:=I.tuple hq
  refine SeqAt.notIn_tupleAt e pl (λw hw=>mem r w (by simpa using hw)) ⟨.bl _,H,I,rfl,?_⟩
  rw[show its.toArray.any e=its.any e by simp,CK (λz=>eqT z t) e r qs λz w' tz h1 h2 h3 h4=>ee z w' tz h1 h2 h3 h4]
  exact q
end
section
variable {X:Cx}{tg:Expr}
end
end L2
end
section
namespace L2
open PySem PySem.Spec PyProof.Rows
section
variable {X:Cx}
end
end L2
end
section
namespace L2
open PySem PySem.Spec PyProof.Rows
inductive Rs(α : Type) where
 |bad|ex (c:Str)|ok (a : α)
def Rs.bind{α β : Type}:Rs α -> (α -> Rs β)->Rs β
 |.bad,_=>.bad
 |.ex c,_=>.ex c
 |.ok a,f=>f a
instance:Monad Rs where
 pure:=.ok
 bind:=Rs.bind
def Rs.post{α : Type}(r:Rs α)(EX:Str->Prop)(P : α -> Prop):Prop:=match r with
 |.bad=>False
 |.ex c=>EX c
 |.ok a=>P a
theorem Rs.bh{α β : Type}{r:Rs α}{f : α -> Rs β}{EX:Str->Prop}{P : β -> Prop}(h:(r.bind f).post EX P):r.post EX λa=>(f a).post EX P:=by
 cases r <;> exact h
theorem Rs.bG{α : Type}{r:Rs α}{EX:Str->Prop}{P P' : α -> Prop}(h:r.post EX P)(i:∀a,P a->P' a):r.post EX P':=by
 cases r with
 |bad=>exact h
 |ex c=>exact h
 |ok a=>exact i a h
open Classical in
def aO(W:Addr->Prop)(H:Hp):Hp:=λb=>if W b then none else H b
theorem CW{W:Addr->Prop}{H:Hp}{b:Addr}(h:W b):aO W H b=none:=if_pos h
theorem fK{W:Addr->Prop}{H:Hp}{b:Addr}(h:¬W b):aO W H b=H b:=if_neg h
theorem ji{W:Addr->Prop}{H:Hp}{b:Addr}{o:HO}(h:aO W H b=some o):¬W b/\H b=some o:=by
 by_cases w:W b
 ·rw[CW w]at h; cases h
 ·rw[fK w]at h; exact⟨w,h⟩
theorem iZ(W:Addr->Prop)(H:Hp):Same (aO W H) H:=λ_ _ h=>(ji h).2
theorem oK{W W':Addr->Prop}{H H':Hp}(hw:∀b o,H b=some o->W' b->W b)(s:∀b o,¬W b->H b=some o->H' b=some o):Same (aO W H) (aO W' H'):=λb o h=>by
 obtain⟨n,e⟩:=ji h
 rw[fK λw=>n (hw b o e w)]
 exact s b o n e
theorem lu{W:Addr->Prop}{H:Hp}{a:Addr}{o:HO}(h:W a):aO W (upd H a o)=aO W H:=by
 funext b
 by_cases w:W b
 ·rw[CW w,CW w]
 ·rw[fK w,fK w]
  exact bB λe=>w (e▸h)
inductive Sl where
 |un|sh (t:Tr)|ow (ts:List Tr)|rf (ts:List Tr)|dp (ts:List Tr)
abbrev En:=List Sl
inductive Rv where
 |v (T:Tr) (fr:Bool)|s (i:Nat)
abbrev EF:=En->Rs (Rv × En)
structure Tx where
 K:FZ
 Z:Addr->Prop
 R:Addr->Prop
 H0:Hp
 B:Hp
 EX:Str->Prop
def Mu(ρ : En)(i:Nat):Prop:=∃ts,ρ[i]?=some (Sl.ow ts)\/ρ[i]?=some (Sl.rf ts)
def aa8:Tr->Bool
 |.lst _=>true
 |_=>false
inductive DR(K:FZ)(G H:Hp):List V->List Tr->List Addr->Prop
 |nil:DR K G H [] [] []
 |cl {x:V} {u:Tr} {xs:List V} {ts:List Tr} {bs:List Addr} (n:aa8 u=false) (h:Rep K G x u) (r:DR K G H xs ts bs):DR K G H (x::xs) (u::ts) bs
 |rw {b:Addr} {ys:List V} {us:List Tr} {xs:List V} {ts:List Tr} {bs:List Addr} (h:H b=some (.lst ys)) (q:aR K G ys us) (r:DR K G H xs ts bs):DR K G H (.ref b::xs) (.lst us::ts) (b::bs)
def rP(t:Tx)(W:Addr->Prop)(H:Hp)(a:Addr)(xs:List V)(ts:List Tr)(fp:List Addr):Prop :=
 ∃bs,fp=a::bs/\fp.Nodup/\(∀b∈fp,W b/\t.H0 b=none)/\H a=some (.lst xs)/\DR t.K (aO W H) H xs ts bs
theorem DR.move{K:FZ}{G G' H H':Hp}(m:Same G G'):∀{xs:List V} {ts:List Tr} {bs:List Addr},DR K G H xs ts bs->(∀b o,b∈bs->H b=some o->H' b=some o)->DR K G' H' xs ts bs
 |_,_,_,.nil,_=>.nil
 |_,_,_,.cl n h r,k=>.cl n (h.mono m) (DR.move m r k)
 |_,_,_,.rw h q r,k=>.rw (k _ _ (List.mem_cons_self ..) h) (q.mono m) (DR.move m r λb o hb=>k b o (List.mem_cons_of_mem _ hb))
theorem rP.move{t t':Tx}{W W':Addr->Prop}{H H':Hp}{a:Addr}{xs:List V}{ts:List Tr}{fp:List Addr}(d:rP t W H a xs ts fp)(hK:t'.K=t.K)(h0:t'.H0=t.H0)(m:Same (aO W H) (aO W' H'))(w:∀b∈fp,W' b)(k:∀b o,b∈fp->H b=some o->H' b=some o):rP t' W' H' a xs ts fp:=by
 obtain⟨bs,e,nd,ww,ha,r⟩:=d
 refine⟨bs,e,nd,λb hb=>⟨w b hb,by rw[h0]; exact(ww b hb).2⟩,k a _ (by rw[e]; exact List.mem_cons_self ..) ha,?_⟩
 rw[hK]
 exact r.move m λb o hb=>k b o (by rw[e]; exact List.mem_cons_of_mem _ hb)
def Lt(H:Hp)(b:Addr):Prop:=(∃xs,H b=some (.lst xs))\/∃ps,H b=some (.dM ps)
theorem Lt.ne{H:Hp}{b:Addr}(h:Lt H b):H b≠none:=by
 rcases h with⟨_,h⟩|⟨_,h⟩ <;> (rw[h]; intro z; cases z)
theorem Lt.grow{H H':Hp}{b:Addr}(h:Lt H b)(s:∀b o,H b=some o->H' b=some o):Lt H' b:=by
 rcases h with⟨_,h⟩|⟨_,h⟩
 ·exact .inl ⟨_,s _ _ h⟩
 ·exact .inr ⟨_,s _ _ h⟩
def jj:List Str:=["falling_places", "order_of_bounds"]
def Tb(K:FZ)(b:Addr):Prop:=∃x∈jj,∃c,PySem.W.tabIn K x=some (c,b)
def R0(o:Obj)(q:Str):Prop:=∃vs t,o.data=.fields vs/\vs[1]?=some (.str q t)
def CZ(x:Str):Str:=x++(".<locals>." : Str)++("<lambda>" : Str)
def Dc(H:Hp)(q:Str)(ps:Array Value):Prop:=TriplesOk ps.toList/\∀pos v,codeAmong pos ps.toList=some v->∃c o,v=.ref c/\H c=some (.ig o (.own 0))/\R0 o q
def fC(K:FZ)(H:Hp):Prop:=∀x∈jj,∀c b,PySem.W.tabIn K x=some (c,b)->∃ps,H b=some (.dM ps)/\Dc H (CZ x) ps
theorem fC.dM{K:FZ}{H:Hp}(h:fC K H){b:Addr}(t:Tb K b):∃ps,H b=some (.dM ps):=by
 obtain⟨x,hx,c,e⟩:=t
 obtain⟨ps,q,_⟩:=h x hx c b e
 exact⟨ps,q⟩
theorem fC.ne{K:FZ}{H:Hp}(h:fC K H){a b:Addr}{xs:List V}(t:Tb K b)(e:H a=some (.lst xs)):b≠a:=λz=>by
 obtain⟨ps,q⟩:=h.dM t
 rw[z,e]at q
 cases q
theorem fC.fr{K:FZ}{H H':Hp}(h:fC K H)(s:∀b o,(∀xs,o ≠ .lst xs)->H b=some o->H' b=some o):fC K H':=λx hx c b e=>by
 obtain⟨ps,q,t1,t2⟩:=h x hx c b e
 refine⟨ps,s _ _ (λ_ z=>by cases z) q,t1,λpos v k=>?_⟩
 obtain⟨c,o,e1,e2,e3⟩:=t2 pos v k
 exact⟨c,o,e1,s _ _ (λ_ z=>by cases z) e2,e3⟩
theorem fC.same{K:FZ}{H H':Hp}(h:fC K H)(s:Same H H'):fC K H':=h.fr λb o _=>s b o
theorem fC.upd{K:FZ}{H:Hp}(h:fC K H){a:Addr}{xs:List V}{o:HO}(e:H a=some (.lst xs)):fC K (L2.upd H a o):=h.fr λb u n q=>by
 rw[bB]
 ·exact q
 ·rintro rfl
  rw[e]at q
  cases q
  exact n _ rfl
structure j4(t:Tx)(W:Addr->Prop)(H:Hp):Prop where
 ok:fC t.K H
 w:∀b,Tb t.K b->W b
 r:∀b,Tb t.K b->t.R b
 B:∀b,Tb t.K b->t.B b=none
theorem j4.same{t:Tx}{W:Addr->Prop}{H H':Hp}(f:j4 t W H)(s:Same H H'):j4 t W H':=⟨f.ok.same s,f.w,f.r,f.B⟩
theorem j4.R3{t:Tx}{W W':Addr->Prop}{H:Hp}(f:j4 t W H)(h:∀b,W b->W' b):j4 t W' H:=⟨f.ok,λb z=>h b (f.w b z),f.r,f.B⟩
theorem j4.cut{t:Tx}{W:Addr->Prop}{H:Hp}(f:j4 t W H){D:Addr->Prop}(h:∀b,D b->∃xs,H b=some (.lst xs)):j4 t (λb=>W b/\¬D b) H:=⟨f.ok,λb z=>⟨f.w b z,λd=>by
 obtain⟨xs,e⟩:=h b d
 exact f.ok.ne z e rfl⟩,f.r,f.B⟩
theorem j4.upd{t:Tx}{W:Addr->Prop}{H:Hp}(f:j4 t W H){a:Addr}{xs:List V}{o:HO}(e:H a=some (.lst xs)):j4 t W (L2.upd H a o):=⟨f.ok.upd e,f.w,f.r,f.B⟩
structure EOF(t:Tx)(W:Addr->Prop)(ρ : En)(σ : St)(H:Hp)(F:Nat->List Addr):Prop where
 len : ρ.length = σ.length
 zw:∀b,t.Z b->W b
 z0:∀b,t.Z b->t.H0 b≠none
 wl:∀b,W b->Lt H b
 f0:∀b o,t.H0 b=some o->¬t.R b->H b=some o
 n0:∀b,H b=none->t.H0 b=none
 sh:∀(i:Nat) (u:Tr),ρ[i]?=some (.sh u)->∃v,σ[i]?=some (some v)/\Rep t.K (aO W H) v u
 ow:∀(i:Nat) (ts:List Tr),ρ[i]?=some (Sl.ow ts)->∃a xs,σ[i]?=some (some (V.ref a))/\W a/\t.H0 a=none/\H a=some (.lst xs)/\aR t.K (aO W H) xs ts
 rf:∀(i:Nat) (ts:List Tr),ρ[i]?=some (Sl.rf ts)->∃a xs,σ[i]?=some (some (V.ref a))/\W a/\t.R a/\H a=some (.lst xs)/\aR t.K (aO W H) xs ts
 dis:∀(i j:Nat) (a:Addr),Mu ρ i->Mu ρ j -> σ[i]?=some (some (V.ref a)) -> σ[j]?=some (some (V.ref a))->i=j
 pn:∀b o,t.B b=some o->H b=some o
 pd:∀(i:Nat) (a:Addr),Mu ρ i -> σ[i]?=some (some (V.ref a))->t.B a=none
 dp:∀(i:Nat) (ts:List Tr),ρ[i]?=some (Sl.dp ts)->∃a xs,σ[i]?=some (some (V.ref a))/\rP t W H a xs ts (F i)
 dd:∀(i j:Nat) (ts us:List Tr),i≠j -> ρ[i]?=some (Sl.dp ts) -> ρ[j]?=some (Sl.dp us)->∀b∈F i,b∉F j
 dm:∀(i j:Nat) (ts:List Tr) (c:Addr),ρ[i]?=some (Sl.dp ts)->Mu ρ j -> σ[j]?=some (some (V.ref c))->c∉F i
 db:∀(i:Nat) (ts:List Tr),ρ[i]?=some (Sl.dp ts)->∀b∈F i,t.B b=none
 tab:j4 t W H
def aV(t:Tx)(W:Addr->Prop)(ρ : En)(σ : St)(H:Hp):Prop:=∃F,EOF t W ρ σ H F
def p7(t:Tx)(W:Addr->Prop)(a:Addr)(ρ : En)(σ : St)(H:Hp):Prop:=∃F,EOF t (λb=>W b\/b=a) ρ σ H F/\∀(i:Nat) (ts:List Tr),ρ[i]?=some (Sl.dp ts)->a∉F i
theorem p7.ok{t:Tx}{W:Addr->Prop}{a:Addr}{ρ : En}{σ : St}{H:Hp}(e:p7 t W a ρ σ H):aV t (λb=>W b\/b=a) ρ σ H:=e.elim λF e=>⟨F,e.1⟩
section
variable {t:Tx}{W:Addr->Prop}{ρ : En}{σ : St}{H:Hp}
theorem aV.len(e:aV t W ρ σ H) : ρ.length = σ.length:=e.elim λ_ e=>e.len
theorem aV.zw(e:aV t W ρ σ H):∀b,t.Z b->W b:=e.elim λ_ e=>e.zw
theorem aV.z0(e:aV t W ρ σ H):∀b,t.Z b->t.H0 b≠none:=e.elim λ_ e=>e.z0
theorem aV.wl(e:aV t W ρ σ H):∀b,W b->Lt H b:=e.elim λ_ e=>e.wl
theorem aV.tab(e:aV t W ρ σ H):j4 t W H:=e.elim λ_ e=>e.tab
theorem aV.f0(e:aV t W ρ σ H):∀b o,t.H0 b=some o->¬t.R b->H b=some o:=e.elim λ_ e=>e.f0
theorem aV.n0(e:aV t W ρ σ H):∀b,H b=none->t.H0 b=none:=e.elim λ_ e=>e.n0
theorem aV.sh(e:aV t W ρ σ H):∀(i:Nat) (u:Tr),ρ[i]?=some (.sh u)->∃v,σ[i]?=some (some v)/\Rep t.K (aO W H) v u:=e.elim λ_ e=>e.sh
theorem aV.ow(e:aV t W ρ σ H):∀(i:Nat) (ts:List Tr),ρ[i]?=some (Sl.ow ts)->∃a xs,σ[i]?=some (some (V.ref a))/\W a/\t.H0 a=none/\H a=some (.lst xs)/\aR t.K (aO W H) xs ts:=e.elim λ_ e=>e.ow
theorem aV.rf(e:aV t W ρ σ H):∀(i:Nat) (ts:List Tr),ρ[i]?=some (Sl.rf ts)->∃a xs,σ[i]?=some (some (V.ref a))/\W a/\t.R a/\H a=some (.lst xs)/\aR t.K (aO W H) xs ts:=e.elim λ_ e=>e.rf
theorem aV.dis(e:aV t W ρ σ H):∀(i j:Nat) (a:Addr),Mu ρ i->Mu ρ j -> σ[i]?=some (some (V.ref a)) -> σ[j]?=some (some (V.ref a))->i=j:=e.elim λ_ e=>e.dis
theorem aV.pn(e:aV t W ρ σ H):∀b o,t.B b=some o->H b=some o:=e.elim λ_ e=>e.pn
theorem aV.pd(e:aV t W ρ σ H):∀(i:Nat) (a:Addr),Mu ρ i -> σ[i]?=some (some (V.ref a))->t.B a=none:=e.elim λ_ e=>e.pd
end
structure bT(W:Addr->Prop)(H H':Hp):Prop where
 keep:∀b o,¬W b->H b=some o->H' b=some o
 dom:∀b,H' b=none->H b=none
theorem bT.refl(W:Addr->Prop)(H:Hp):bT W H H:=⟨λ_ _ _ h=>h,λ_ h=>h⟩
theorem bT.trans{W:Addr->Prop}{H H1 H2:Hp}(a:bT W H H1)(b:bT W H1 H2):bT W H H2:=⟨λc o n h=>b.keep c o n (a.keep c o n h),λc h=>a.dom c (b.dom c h)⟩
theorem bT.of{W:Addr->Prop}{H H':Hp}(s:Same H H'):bT W H H':=⟨λb o _ h=>s b o h,λ_ h=>s.free h⟩
theorem bT.off{W:Addr->Prop}{H H':Hp}(s:bT W H H'):Same (aO W H) (aO W H'):=oK (λ_ _ _ h=>h) s.keep
theorem aV.grow{t:Tx}{W:Addr->Prop}{ρ : En}{σ : St}{H H':Hp}(e:aV t W ρ σ H)(s:Same H H'):aV t W ρ σ H':=by
 have m:Same (aO W H) (aO W H'):=(bT.of s).off
 obtain⟨F,e⟩:=e
 refine⟨F,e.len,e.zw,e.z0,λb w=>?_,λb o h n=>s b o (e.f0 b o h n),λb h=>e.n0 b (s.free h),λi u h=>?_,λi ts h=>?_,λi ts h=>?_,e.dis,λb o h=>s b o (e.pn b o h),e.pd,λi ts h=>?_,e.dd,e.dm,e.db,e.tab.same s⟩
 ·exact(e.wl b w).grow s
 ·obtain⟨v,h1,h2⟩:=e.sh i u h
  exact⟨v,h1,h2.mono m⟩
 ·obtain⟨a,xs,h1,h2,h3,h4,h5⟩:=e.ow i ts h
  exact⟨a,xs,h1,h2,h3,s _ _ h4,h5.mono m⟩
 ·obtain⟨a,xs,h1,h2,h3,h4,h5⟩:=e.rf i ts h
  exact⟨a,xs,h1,h2,h3,s _ _ h4,h5.mono m⟩
 ·obtain⟨a,xs,h1,d⟩:=e.dp i ts h
  exact⟨a,xs,h1,d.move rfl rfl m (λb hb=>by obtain⟨_,_,_,ww,_⟩:=d; exact(ww b hb).1) λb o _ q=>s b o q⟩
def eG(K:FZ)(W:Addr->Prop)(σ : St)(H H':Hp)(v:V):Rv->Prop
 |.v T false=>Rep K (aO W H') v T
 |.v T true=>∃a xs ts,v=.ref a/\T=.lst ts/\H a=none/\H' a=some (.lst xs)/\aR K (off a (aO W H')) xs ts
 |.s i=>σ[i]?=some (some v)
theorem Jb(a:Addr)(H:Hp):Same (off a H) H:=λ_ _ h=>(tY h).2
theorem eG.step{K:FZ}{W:Addr->Prop}{σ : St}{H H' fW:Hp}{v:V}{r:Rv}(hw:∀b,W b->H b≠none)(h:eG K W σ H H' v r)(s:bT W H' fW):eG K W σ H fW v r:=by
 cases r with
 |s i=>exact h
 |v T fr =>
  cases fr with
  |false=>exact Rep.mono s.off h
  |true =>
   obtain⟨a,xs,ts,rfl,rfl,e1,e2,r⟩:=h
   refine⟨a,xs,ts,rfl,rfl,e1,s.keep a _ (λw=>hw a w e1) e2,r.mono λb o q=>?_⟩
   obtain⟨n,q⟩:=tY q
   rw[off_ne n]
   exact s.off b o q
theorem eG.back{K:FZ}{W:Addr->Prop}{σ : St}{G H H':Hp}{v:V}{r:Rv}(h:eG K W σ H H' v r)(d:∀b,H b=none->G b=none):eG K W σ G H' v r:=by
 cases r with
 |s i=>exact h
 |v T fr =>
  cases fr with
  |false=>exact h
  |true =>
   obtain⟨a,xs,ts,e0,e1,e2,r⟩:=h
   exact⟨a,xs,ts,e0,e1,d _ e2,r⟩
theorem eG.rep{K:FZ}{W:Addr->Prop}{σ : St}{H H':Hp}{v:V}{T:Tr}{fr:Bool}(hw:∀b,W b->H b≠none)(h:eG K W σ H H' v (.v T fr)):Rep K (aO W H') v T:=by
 cases fr with
 |false=>exact h
 |true =>
  obtain⟨a,xs,ts,rfl,rfl,e1,e2,r⟩:=h
  refine .lst (cJ.of ?_) (r.mono (Jb _ _))
  rw[fK λw=>hw a w e1]
  exact e2
def Rp(K:FZ)(W:Addr->Prop)(H:Hp)(v:V)(T:Tr):Prop :=
 Rep K (aO W H) v T\/∃a xs ts,v=.ref a/\T=.lst ts/\H a=some (.lst xs)/\aR K (aO W H) xs ts
theorem Rp.rep{K:FZ}{W:Addr->Prop}{H:Hp}{v:V}{T:Tr}(h:Rp K W H v T):Rep K H v T:=by
 rcases h with h|⟨a,xs,ts,rfl,rfl,e,r⟩
 ·exact h.mono (iZ _ _)
 ·exact .lst (cJ.of e) (r.mono (iZ _ _))
theorem Rp.lst{K:FZ}{W:Addr->Prop}{H:Hp}{v:V}{ts:List Tr}(h:Rp K W H v (.lst ts)):∃a xs,v=.ref a/\cJ K H a xs/\aR K (aO W H) xs ts:=by
 rcases h with h|⟨a,xs,us,rfl,e0,e,r⟩
 ·cases h with
  |lst h r=>exact⟨_,_,rfl,(iZ _ _).seq h,r⟩
 ·cases e0
  exact⟨a,xs,rfl,cJ.of e,r⟩
theorem Rp.tup{K:FZ}{W:Addr->Prop}{H:Hp}{v:V}{ts:List Tr}(h:Rp K W H v (.tup ts)):∃a xs,v=.ref a/\dN K H a xs/\aR K (aO W H) xs ts:=by
 rcases h with h|⟨a,xs,us,rfl,e0,e,r⟩
 ·cases h with
  |tup h r=>exact⟨_,_,rfl,(iZ _ _).vY h,r⟩
 ·cases e0
theorem Rp.int{K:FZ}{W:Addr->Prop}{H:Hp}{v:V}{i:Int}(h:Rp K W H v (.int i)):v=.int i:=by
 cases h.rep; rfl
theorem Rp.bl{K:FZ}{W:Addr->Prop}{H:Hp}{v:V}{i:Bool}(h:Rp K W H v (.bl i)):v=.bl i:=by
 cases h.rep; rfl
theorem Rp.str{K:FZ}{W:Addr->Prop}{H:Hp}{v:V}{i:Str}(h:Rp K W H v (.str i)):v=.str i:=by
 cases h.rep; rfl
theorem Rp.non{K:FZ}{W:Addr->Prop}{H:Hp}{v:V}(h:Rp K W H v .non):v=.non:=by
 cases h.rep; rfl
def dr(ρ : En):Rv->Rs Tr
 |.v T _=>.ok T
 |.s i=>match ρ[i]? with
  |some (Sl.ow ts)=>.ok (.lst ts)
  |some (Sl.rf ts)=>.ok (.lst ts)
  |_=>.bad
theorem j5{t:Tx}{W:Addr->Prop}{ρ : En}{σ : St}{H H':Hp}{v:V}{r:Rv}{T:Tr}(e:aV t W ρ σ H')(hw:∀b,W b->H b≠none)(h:eG t.K W σ H H' v r)(q:dr ρ r=.ok T):Rp t.K W H' v T:=by
 cases r with
 |v U fr =>
  cases q
  exact .inl (h.rep hw)
 |s i =>
  have h : σ[i]?=some (some v):=h
  dsimp only[dr]at q
  split at q
  ·rename_i ts e1
   cases q
   obtain⟨a,xs,h1,h2,h3,h4,h5⟩:=e.ow i ts e1
   rw[h]at h1
   cases h1
   exact .inr ⟨a,xs,ts,rfl,rfl,h4,h5⟩
  ·rename_i ts e1
   cases q
   obtain⟨a,xs,h1,h2,h3,h4,h5⟩:=e.rf i ts e1
   rw[h]at h1
   cases h1
   exact .inr ⟨a,xs,ts,rfl,rfl,h4,h5⟩
  ·cases q
theorem aV.wn{t:Tx}{W:Addr->Prop}{ρ : En}{σ : St}{H:Hp}(e:aV t W ρ σ H):∀b,W b->H b≠none:=λb w=>by
 exact(e.wl b w).ne
theorem aV.hide{t:Tx}{W:Addr->Prop}{ρ : En}{σ : St}{H H':Hp}{a:Addr}{xs:List V}(e:aV t W ρ σ H)(s:Same H H')(n:H a=none)(q:H' a=some (.lst xs)):p7 t W a ρ σ H':=by
 have m:Same (aO W H) (aO (λb=>W b\/b=a) H'):=λb o h=>by
  obtain⟨w,h⟩:=ji h
  rw[fK]
  ·exact s b o h
  ·rintro(z|rfl)
   ·exact w z
   ·rw[n]at h; cases h
 have na:∀b,W b->b≠a:=λb w z=>by subst z; exact e.wn b w n
 obtain⟨F,e⟩:=e
 refine⟨F,⟨e.len,λb z=>.inl (e.zw b z),e.z0,λb w=>?_,λb o h nr=>s b o (e.f0 b o h nr),λb h=>e.n0 b (s.free h),λi u h=>?_,λi ts h=>?_,λi ts h=>?_,e.dis,λb o h=>s b o (e.pn b o h),e.pd,λi ts h=>?_,e.dd,e.dm,e.db,(e.tab.same s).R3 λb w=>.inl w⟩,λi ts h z=>?_⟩
 ·rcases w with w|rfl
  ·exact(e.wl b w).grow s
  ·exact .inl ⟨xs,q⟩
 ·obtain⟨v,h1,h2⟩:=e.sh i u h
  exact⟨v,h1,h2.mono m⟩
 ·obtain⟨c,ys,h1,h2,h3,h4,h5⟩:=e.ow i ts h
  exact⟨c,ys,h1,.inl h2,h3,s _ _ h4,h5.mono m⟩
 ·obtain⟨c,ys,h1,h2,h3,h4,h5⟩:=e.rf i ts h
  exact⟨c,ys,h1,.inl h2,h3,s _ _ h4,h5.mono m⟩
 ·obtain⟨c,ys,h1,d⟩:=e.dp i ts h
  exact⟨c,ys,h1,d.move rfl rfl m (λb hb=>by obtain⟨_,_,_,ww,_⟩:=d; exact .inl (ww b hb).1) λb o _ q=>s b o q⟩
 ·obtain⟨c,ys,h1,bs,_,_,ww,_⟩:=e.dp i ts h
  exact na a (ww a z).1 rfl
def iz(t:Tx)(W:Addr->Prop)(ρ : En)(σ : St)(H H':Hp)(v:V)(r:Rv):Prop:=eG t.K W σ H H' v r/\∀T a,r=.v T true->v=.ref a->p7 t W a ρ σ H'
theorem iz.of{t:Tx}{W:Addr->Prop}{ρ : En}{σ σ':St}{H H':Hp}{v:V}{T:Tr}{fr:Bool}(e:aV t W ρ σ H)(s:Same H H')(h:eG t.K W σ' H H' v (.v T fr)):iz t W ρ σ H H' v (.v T fr):=by
 refine⟨by cases fr <;> exact h,λU a z ev=>?_⟩
 cases z
 obtain⟨b,xs,ts,rfl,_,n,q,_⟩:=h
 cases ev
 exact e.hide s n q
theorem iz.low{t:Tx}{W:Addr->Prop}{ρ : En}{σ : St}{H H':Hp}{v:V}{T:Tr}(h:Rep t.K (aO W H') v T):iz t W ρ σ H H' v (.v T false):=⟨h,λ_ _ z=>by cases z⟩
theorem iz.back{t:Tx}{W:Addr->Prop}{ρ : En}{σ : St}{G H H':Hp}{v:V}{r:Rv}(h:iz t W ρ σ H H' v r)(d:∀b,H b=none->G b=none):iz t W ρ σ G H' v r:=⟨h.1.back d,h.2⟩
def SE(t:Tx)(te:TE)(f:EF):Prop:=∀W ρ σ H Q,aV t W ρ σ H->(f ρ).post t.EX (λp=>∀v H',aV t W p.2 σ H'->bT W H H'->iz t W p.2 σ H H' v p.1->Q v H')->te σ H Q
abbrev BF:=En->Rs (Bool × En)
def ST(t:Tx)(te:TT)(f:BF):Prop:=∀W ρ σ H Q,aV t W ρ σ H->(f ρ).post t.EX (λp=>∀H',aV t W p.2 σ H'->bT W H H'->Q p.1 H')->te σ H Q
abbrev AF:=En->Rs (List Rv × En)
inductive gP(K:FZ)(W:Addr->Prop)(σ : St)(H H':Hp):List V->List Rv->Prop
 |nil:gP K W σ H H' [] []
 |cons {v:V} {r:Rv} {vs:List V} {rs:List Rv} (h:eG K W σ H H' v r) (q:gP K W σ H H' vs rs):gP K W σ H H' (v::vs) (r::rs)
def SA(t:Tx)(te:TA)(f:AF):Prop:=∀W ρ σ H Q,aV t W ρ σ H->(f ρ).post t.EX (λp=>∀vs H',aV t W p.2 σ H'->bT W H H'->gP t.K W σ H H' vs p.1->Q vs H')->te σ H Q
section
variable {t:Tx}
def aj(i:Nat):EF:=λρ=>match ρ[i]? with
 |some (.sh T)=>.ok (.v T false,ρ)
 |some (.ow _)=>.ok (.s i,ρ)
 |some (.rf _)=>.ok (.s i,ρ)
 |_=>.bad
theorem bR(i:Nat):SE t (jW i) (aj i):=λW ρ σ H Q e h=>by
 unfold aj at h
 split at h
 ·rename_i T q
  obtain⟨v,h1,h2⟩:=e.sh i T q
  exact⟨v,h1,h v H e (bT.refl _ _) (.low h2)⟩
 ·rename_i ts q
  obtain⟨a,xs,h1,_⟩:=e.ow i ts q
  exact⟨_,h1,h _ H e (bT.refl _ _) ⟨h1,λ_ _ z=>by cases z⟩⟩
 ·rename_i ts q
  obtain⟨a,xs,h1,_⟩:=e.rf i ts q
  exact⟨_,h1,h _ H e (bT.refl _ _) ⟨h1,λ_ _ z=>by cases z⟩⟩
 ·exact h.elim
def eC(T:Tr):EF:=λρ=>.ok (.v T false,ρ)
theorem Dd{v:V}{T:Tr}(h:∀H,Rep t.K H v T):SE t (tC v) (eC T):=λW ρ σ H Q e q=>q v H e (bT.refl _ _) (.low (h _))
theorem iB(i:Int):SE t (tC (.int i)) (eC (.int i)):=Dd λ_=>.int i
theorem yU(i:Bool):SE t (tC (.bl i)) (eC (.bl i)):=Dd λ_=>.bl i
theorem ud(i:Str):SE t (tC (.str i)) (eC (.str i)):=Dd λ_=>.str i
abbrev G2:=Tr->Tr->Rs (Tr × Bool)
def fP(K:FZ)(r:R2)(g:G2):Prop:=∀W x y a b H Q,(∀b,W b->Lt H b)->Rp K W H x a->Rp K W H y b ->
 (g a b).post (λ_=>False) (λp=>∀v H',Same H H'->eG K W [] H H' v (.v p.1 p.2)->Q v H')->r x y H Q
def aq(g:G2)(fa fb:EF):EF:=λρ=>(fa ρ).bind λp=>(fb p.2).bind λq=>(dr q.2 p.1).bind λa=>(dr q.2 q.1).bind λb=>(g a b).bind λz=>.ok (.v z.1 z.2,q.2)
theorem jK{α : Type}{r:Rs α}{EX:Str->Prop}{P : α -> Prop}(h:r.post EX P)(n:∀c,r ≠ .ex c):r.post (λ_=>False) P:=by
 cases r with
 |bad=>exact h
 |ex c=>exact(n c rfl).elim
 |ok a=>exact h
theorem j6(ρ : En)(r:Rv)(c:Str):dr ρ r ≠ .ex c:=by
 cases r with
 |v T fr=>intro z; cases z
 |s i =>
  dsimp only[dr]
  split <;> (intro z; cases z)
theorem j7{r:R2}{g:G2}{ta tb:TE}{fa fb:EF}(o:fP t.K r g)(ng:∀a b c,g a b ≠ .ex c)(ha:SE t ta fa)(hb:SE t tb fb):SE t (gq r ta tb) (aq g fa fb):=λW ρ σ H Q e h=>by
 refine ha W ρ σ H _ e (Rs.bG (Rs.bh h) λp h x H1 e1 s1 v1=>?_)
 refine hb W p.2 σ H1 _ e1 (Rs.bG (Rs.bh h) λq h y H2 e2 s2 v2=>?_)
 have h:=Rs.bh h
 cases k1:dr q.2 p.1 with
 |bad=>rw[k1]at h; exact h.elim
 |ex c=>exact(j6 _ _ _ k1).elim
 |ok a =>
  rw[k1]at h
  have h:((dr q.2 q.1).bind _).post _ _:=h
  have h:=Rs.bh h
  cases k2:dr q.2 q.1 with
  |bad=>rw[k2]at h; exact h.elim
  |ex c=>exact(j6 _ _ _ k2).elim
  |ok b =>
   rw[k2]at h
   have h:((g a b).bind _).post _ _:=h
   have r1:=j5 e2 e.wn (v1.1.step e.wn s2) k1
   have r2:=j5 e2 e1.wn v2.1 k2
   refine o W x y a b H2 Q e2.wl r1 r2 (Rs.bG (jK (Rs.bh h) (ng a b)) λz h v H3 s3 v3=>?_)
   have st:bT W H H3:=(s1.trans s2).trans (bT.of s3)
   exact h v H3 (e2.grow s3) st ((iz.of e2 s3 v3).back λb q=>(s1.trans s2).dom b q)
inductive ug:V->Tr->Prop
 |non:ug .non .non
 |bl (b:Bool):ug (.bl b) (.bl b)
 |int (b:Int):ug (.int b) (.int b)
 |str (b:Str):ug (.str b) (.str b)
theorem ug.rep{K:FZ}{H:Hp}{v:V}{T:Tr}(h:ug v T):Rep K H v T:=by
 cases h <;> constructor
end
end L2
end
section
namespace L2
open PySem PySem.Spec PyProof.Rows
section
variable {X:Cx}
def Jc(K:FZ):R2:=λx y H Q=>∃t u,Rep K H x t/\Rep K H y u/\dep t<=40/\dep u<=40/\Q (.bl (!eqT t u)) H
theorem oM(hu:X.A.units+64<cLine):dz X (compareOp .NotEq) (Jc X.K):=by
 intro pins s σ H x y v u Q I vx vy h
 obtain⟨t,t',rx,ry,hd,du,q⟩:=h
 have hu0:X.A.units<cLine:=by omega
 have hu1:X.A.in1.units+40<cLine:=by
  have:=in1_units X.A
  omega
 have fin:SeqAt.RcNeAt X.A s v u (!eqT t t')->wpAny (model X.prog X.w) X.A (compareOp .NotEq v u) (EP X pins σ Q) X.xe s:=λh=>h _ _ _ _ ⟨.bl _,H,I,rfl,q⟩
 have items:∀{xs ys:List V} {ts us:List Tr} {its its2:List Value},Vals xs its->Vals ys its2->aR X.K H xs ts->aR X.K H ys us->deps ts<=40->deps us<=40->∀j (h1:j<its.toArray.size) (h2:j<its2.toArray.size),SeqAt.EqAt X.A.in1 s its.toArray[j] its2.toArray[j] (pZ ts us j):=by
  intro xs ys ts us its its2 r1 r2 q1 q2 hde RL j h1 h2
  obtain⟨a,ea,ra⟩:=CG r1 h1
  obtain⟨b,eb,rb⟩:=CG r2 h2
  obtain⟨ta,eta,qa⟩:=q1.get ea
  obtain⟨tb,yP,qb⟩:=q2.get eb
  rw[RK eta yP]
  exact(CJ I 40 X.A.in1 ta tb a b _ _ hu1 (Nat.le_trans (rM eta) hde) (by have:=rM eta; omega) (by have:=rM yP; omega) qa qb ra rb).2
 cases rx with
 |dB h m n=>unfold dep at hd; omega
 |non =>
  cases vx
  cases ry with
  |non=>cases vy; unfold eqT at fin; exact fin .none_none
  |bl b2=>cases vy; unfold eqT at fin; exact fin (.none_bool _)
  |int i2=>obtain⟨_,rfl⟩:=vy; unfold eqT at fin; exact fin (.none_int _ _)
  |str z2=>obtain⟨_,rfl⟩:=vy; unfold eqT at fin; exact fin (.none_str _ _)
  |tup h r=>cases vy; obtain⟨_,_,p,_⟩:=I.tuple h; unfold eqT at fin; exact fin (.none_tuple p hu0)
  |lst h r=>cases vy; obtain⟨_,_,p,_⟩:=I.list h; unfold eqT at fin; exact fin (.none_list p.isList hu0)
  |dB h m n=>unfold dep at du; omega
 |bl b =>
  cases vx
  cases ry with
  |non=>cases vy; unfold eqT at fin; exact fin (.bool_none _)
  |bl b2=>cases vy; unfold eqT at fin; exact fin (.bool_bool _ _)
  |int i2=>obtain⟨_,rfl⟩:=vy; unfold eqT at fin; exact fin (.bool_int _ _ _)
  |str z2=>obtain⟨_,rfl⟩:=vy; unfold eqT at fin; exact fin (.bool_str _ _ _)
  |tup h r=>cases vy; obtain⟨_,_,p,_⟩:=I.tuple h; unfold eqT at fin; exact fin (.bool_tuple _ p hu0)
  |lst h r=>cases vy; obtain⟨_,_,p,_⟩:=I.list h; unfold eqT at fin; exact fin (.bool_list _ p.isList hu0)
  |dB h m n=>unfold dep at du; omega
 |int i =>
  obtain⟨_,rfl⟩:=vx
  cases ry with
  |non=>cases vy; unfold eqT at fin; exact fin (.int_none _ _)
  |bl b2=>cases vy; unfold eqT at fin; exact fin (.int_bool _ _ _)
  |int i2=>obtain⟨_,rfl⟩:=vy; unfold eqT at fin; exact fin (.int_int _ _ _ _)
  |str z2=>obtain⟨_,rfl⟩:=vy; unfold eqT at fin; exact fin (.int_str _ _ _ _)
  |tup h r=>cases vy; obtain⟨_,_,p,_⟩:=I.tuple h; unfold eqT at fin; exact fin (.int_tuple _ _ p hu0)
  |lst h r=>cases vy; obtain⟨_,_,p,_⟩:=I.list h; unfold eqT at fin; exact fin (.int_list _ _ p.isList hu0)
  |dB h m n=>unfold dep at du; omega
 |str z =>
  obtain⟨_,rfl⟩:=vx
  cases ry with
  |non=>cases vy; unfold eqT at fin; exact fin (.str_none _ _)
  |bl b2=>cases vy; unfold eqT at fin; exact fin (.str_bool _ _ _)
  |int i2=>obtain⟨_,rfl⟩:=vy; unfold eqT at fin; exact fin (.str_int _ _ _ _)
  |str z2=>obtain⟨_,rfl⟩:=vy; unfold eqT at fin; exact fin (.str_str _ _ _ _)
  |tup h r=>cases vy; obtain⟨_,_,p,_⟩:=I.tuple h; unfold eqT at fin; exact fin (.str_tuple _ _ p hu0)
  |lst h r=>cases vy; obtain⟨_,_,p,_⟩:=I.list h; unfold eqT at fin; exact fin (.str_list _ _ p.isList hu0)
  |dB h m n=>unfold dep at du; omega
 | @tup a1 xs1 ts h1 r1 =>
  cases vx
  obtain⟨its,rv,p,_⟩:=I.tuple h1
  have hd':deps ts<=40:=by unfold dep at hd; omega
  cases ry with
  |non=>cases vy; unfold eqT at fin; exact fin (.tuple_none p hu0)
  |bl b2=>cases vy; unfold eqT at fin; exact fin (.tuple_bool _ p hu0)
  |int i2=>obtain⟨_,rfl⟩:=vy; unfold eqT at fin; exact fin (.tuple_int _ _ p hu0)
  |str z2=>obtain⟨_,rfl⟩:=vy; unfold eqT at fin; exact fin (.tuple_str _ _ p hu0)
  |lst h r=>cases vy; obtain⟨_,_,p2,_⟩:=I.list h; unfold eqT at fin; exact fin (.tuple_list p p2.isList hu0)
  |dB h m n=>unfold dep at du; omega
  | @tup a2 xs2 us h2 r2 =>
   cases vy
   obtain⟨its2,jD,p2,_⟩:=I.tuple h2
   have R:=SeqAt.RcNeAt.tuples (A:=X.A) (e:=pZ ts us) p p2 (by omega) λj k1 k2=>items rv jD r1 r2 hd' (by unfold dep at du; omega) j k1 k2
   have el:its.toArray.size=ts.length:=by simpa using(rv.length.symm.trans r1.length)
   have el2:its2.toArray.size=us.length:=by simpa using(jD.length.symm.trans r2.length)
   rw[el,el2]at R
   have eb:((List.range (min ts.length us.length)).all (pZ ts us)&&ts.length == us.length)=eqT (.tup ts) (.tup us):=by
    unfold eqT
    by_cases e:ts.length=us.length
    ·rw[e,Nat.min_self,<-e,yN e,beq_self_eq_true,Bool.and_true]
    ·rw[beq_false_of_ne e,Bool.and_false,yM e]
   rw[eb]at R
   exact fin R
 | @lst a1 xs1 ts h1 r1 =>
  cases vx
  obtain⟨its,rv,p,_⟩:=I.list h1
  have hd':deps ts<=40:=by unfold dep at hd; omega
  cases ry with
  |non=>cases vy; unfold eqT at fin; exact fin (.list_none p.isList hu0)
  |bl b2=>cases vy; unfold eqT at fin; exact fin (.list_bool _ p.isList hu0)
  |int i2=>obtain⟨_,rfl⟩:=vy; unfold eqT at fin; exact fin (.list_int _ _ p.isList hu0)
  |str z2=>obtain⟨_,rfl⟩:=vy; unfold eqT at fin; exact fin (.list_str _ _ p.isList hu0)
  |dB h m n=>unfold dep at du; omega
  |tup h r=>cases vy; obtain⟨_,_,p2,_⟩:=I.tuple h; unfold eqT at fin; exact fin (.list_tuple p.isList p2 hu0)
  | @lst a2 xs2 us h2 r2 =>
   cases vy
   obtain⟨its2,jD,p2,_⟩:=I.list h2
   have el:its.toArray.size=ts.length:=by simpa using(rv.length.symm.trans r1.length)
   have el2:its2.toArray.size=us.length:=by simpa using(jD.length.symm.trans r2.length)
   by_cases e:ts.length=us.length
   ·have R:=SeqAt.RcNeAt.lists (A:=X.A) (e:=pZ ts us) p.isList p2.isList (by omega) (by omega) λj k1 k2=>items rv jD r1 r2 hd' (by unfold dep at du; omega) j k1 k2
    rw[el]at R
    rw[yN e]at R
    unfold eqT at fin
    exact fin R
   ·have R:=SeqAt.RcNeAt.lists_lengths (A:=X.A) p.isList p2.isList (by rw[el,el2]; simpa using e) (by omega)
    unfold eqT at fin
    rw[yM e]at fin
    exact fin R
end
open Classical in
def fH(o:Obj):Obj:=if o.cls=.type "list" ∧ ¬(∃its n,o={cls:=.type "list",data:=.seq its n })then{cls:=.none,data:=.fields #[] }else o
def aJ(K:FZ):FZ:=K.map λp=>(p.1,fH p.2)
theorem lR:∀(K:FZ) (a:Addr),(aJ K).lookup a=(K.lookup a).map fH
 | [],a=>rfl
 |(c,q)::r,a=>by
  show((c,fH q)::aJ r).lookup a=_
  rw[List.lookup_cons,List.lookup_cons]
  cases a == c with
  |true=>rfl
  |false=>exact lR r a
theorem aa9{K:FZ}{a:Addr}{o:Obj}(h:(aJ K).lookup a=some o)(c:o.cls=.type "tuple"):K.lookup a=some o:=by
 rw[lR]at h
 cases e:K.lookup a with
 |none=>rw[e]at h; cases h
 |some q =>
  rw[e]at h
  have h:fH q=o:=Option.some.inj h
  unfold fH at h
  split at h
  ·subst h; cases c
  ·rw[h]
theorem abb{K:FZ}{a:Addr}{o:Obj}(h:(aJ K).lookup a=some o)(c:o.cls=.type "list"):K.lookup a=some o∧∃its n,o={cls:=.type "list",data:=.seq its n }:=by
 rw[lR]at h
 cases e:K.lookup a with
 |none=>rw[e]at h; cases h
 |some q =>
  rw[e]at h
  have h:fH q=o:=Option.some.inj h
  unfold fH at h
  split at h
  ·subst h; cases c
  ·rename_i n
   subst h
   refine⟨rfl,?_⟩
   by_cases z:∃its n,q={cls:=.type "list",data:=.seq its n }
   ·exact z
   ·exact(n ⟨c,z⟩).elim
theorem abd{K:FZ}{a:Addr}{o:Obj}(h:K.lookup a=some o)(c:o.cls=.type "tuple"):(aJ K).lookup a=some o:=by
 rw[lR,h]
 show some (fH o)=some o
 unfold fH
 rw[if_neg (by rintro⟨z,_⟩; rw[c]at z; injection z with z; exact absurd z (by decide))]
theorem dN.toK{K:FZ}{H:Hp}{a:Addr}{xs:List V}(h:dN (aJ K) H a xs):dN K H a xs:=by
 rcases h with h|⟨o,its,n,e,c,r⟩
 ·exact .inl h
 ·exact .inr ⟨o,its,n,aa9 e c,c,r⟩
def lU(K:FZ)(H:Hp)(a:Addr)(xs:List V):Prop:=Rd H a (.lst xs)\/∃(its:Array Value) (n:Nat),K.lookup a=some {cls:=.type "list",data:=.seq its n }/\its.size<=sizeLine/\Vals xs its.toList
theorem cJ.yV{K:FZ}{H:Hp}{a:Addr}{xs:List V}(h:cJ (aJ K) H a xs):lU K H a xs:=by
 rcases h with h|⟨o,its,n,e,c,_,d,r⟩
 ·exact .inl h
 ·obtain⟨e2,its',n',rfl⟩:=abb e c
  have d:Data.seq its' n'=.seq its n:=d
  injection d with d1 d2
  subst d1 d2
  exact .inr ⟨its',n',e2,r⟩
theorem lU.toK{K:FZ}{H:Hp}{a:Addr}{xs:List V}(h:lU K H a xs):cJ K H a xs:=by
 rcases h with h|⟨its,n,e,r⟩
 ·exact .inl h
 ·exact .inr ⟨_,its,n,e,rfl,rfl,rfl,r⟩
theorem lU.toN{K:FZ}{H:Hp}{a:Addr}{xs:List V}(h:lU K H a xs):cJ (aJ K) H a xs:=by
 rcases h with h|⟨its,n,e,r⟩
 ·exact .inl h
 ·refine .inr ⟨{cls:=.type "list",data:=.seq its n },its,n,?_,rfl,rfl,rfl,r⟩
  rw[lR,e]
  show some (fH _)=_
  unfold fH
  rw[if_neg λz=>z.2 ⟨its,n,rfl⟩]
theorem cJ.toK{K:FZ}{H:Hp}{a:Addr}{xs:List V}(h:cJ (aJ K) H a xs):cJ K H a xs:=h.yV.toK
theorem abe{K:FZ}{N:Addr}{c:Str}{v:Value}(h:PySem.W.nsIn (aJ K) N c=some (some v)):PySem.W.nsIn K N c=some (some v):=by
 unfold PySem.W.nsIn at h ⊢
 rw[lR]at h
 cases e:K.lookup N with
 |none=>rw[e]at h; cases h
 |some q =>
  rw[e]at h
  by_cases z:q.cls=.type "list" ∧ ¬(∃its n,q={cls:=.type "list",data:=.seq its n })
  ·have:fH q={cls:=.none,data:=.fields #[] }:=by unfold fH; rw[if_pos z]
   rw[show(some q).map fH=some (fH q)from rfl,this]at h
   cases h
  ·have:fH q=q:=by unfold fH; rw[if_neg z]
   rw[show(some q).map fH=some (fH q)from rfl,this]at h
   exact h
mutual
theorem Rep.toK{K:FZ}{H:Hp}:∀{v:V} {t:Tr},Rep (aJ K) H v t->Rep K H v t
 |_,_,.non=>.non
 |_,_,.bl b=>.bl b
 |_,_,.int i=>.int i
 |_,_,.str x=>.str x
 |_,_,.tup h r=>.tup h.toK (aR.toK r)
 |_,_,.lst h r=>.lst h.toK (aR.toK r)
 |_,_,.dB h m n=>.dB h m (abe n)
theorem aR.toK{K:FZ}{H:Hp}:∀{v:List V} {t:List Tr},aR (aJ K) H v t->aR K H v t
 |_,_,.nil=>.nil
 |_,_,.cons h r=>.cons (Rep.toK h) (aR.toK r)
end
section
variable {X:Cx}
theorem Inv.Jd{pins:List (Addr × Obj)}{σ : St}{H:Hp}{s:Shared}{l:Addr}{xs:List V}(I:Inv X pins σ H s)(hH:lU X.K H l xs):xs.length<=sizeLine/\∃(its:List Value) (n:Nat),Vals xs its/\xs.length=its.length/\s.heap.get? l=some {cls:=.type "list",data:=.seq its.toArray n }:=by
 rcases hH with hH|⟨its,n,e,z,r⟩
 ·obtain⟨z,its,n,r,e⟩:=hH.ok I.hok
  exact⟨z,its,n,r,r.length,e⟩
 ·have l':xs.length=its.size:=r.length.trans Array.length_toList
  exact⟨by rw[l']; exact z,its.toList,n,r,r.length,I.jV _ _ e⟩
def R4(K:FZ):R2:=λx y H Q=>∃l b xs zs,x=.ref l/\y=.ref b/\lU K H l xs/\lU K H b zs/\xs.length+zs.length<=sizeLine/\∀p,H p=none->Q (.ref p) (upd H p (.lst (xs++zs)))
theorem abf:dz X (binaryOp .Add) (R4 X.K):=by
 intro pins s σ H x y v u Q I rx ry h
 obtain⟨l,b,xs,zs,rfl,rfl,hH,hB,hz,q⟩:=h
 cases rx
 cases ry
 obtain⟨z,its,n,r,hl,e⟩:=I.Jd hH
 obtain⟨z2,its2,n2,r2,hl2,e2⟩:=I.Jd hB
 refine PySem.P.add_list e e2 ?_ (by rw[List.size_toArray,List.size_toArray]; omega)
 have ea:its.toArray++its2.toArray=(its++its2).toArray:=by simp
 rw[ea]
 exact⟨.ref _,_,I.Cv (t':=s.toks) (r.append r2) (by rw[List.length_append]; omega),rfl,q _ I.fresh⟩
end
end L2
end
section
namespace L2
open PySem PySem.Spec PyProof.Rows
def R5(K:FZ):R2:=λx y H Q=>∃l k xs,x=.ref l/\y=.int k/\lU K H l xs /\ -(2 ^ 63)<=k/\k<2 ^ 63/\xs.length*k.toNat<=sizeLine/\∀p,H p=none->Q (.ref p) (upd H p (.lst (List.replicate k.toNat xs).flatten))
theorem abg{X:Cx}:dz X (binaryOp .Mult) (R5 X.K):=by
 intro pins s σ H x y v u Q I rx ry h
 obtain⟨l,k,xs,rfl,rfl,hH,h1,h2,hz,q⟩:=h
 cases rx
 obtain⟨t,rfl⟩:=ry
 obtain⟨z,its,n,r,hl,e⟩:=I.Jd hH
 have hlen:its.toArray.size*k.toNat<=sizeLine:=by rw[List.size_toArray,<-hl]; exact hz
 have hcap:¬its.toArray.size*k.toNat > (2 ^ 63-1) / 8:=by
  have:(sizeLine:Nat)<=(2 ^ 63-1) / 8:=by decide
  omega
 have hfit:¬(!Builtin.List.listFitsIndex k)=true:=by
  rw[fitsIndex_both h1 h2]
  exact Bool.false_ne_true
 have abh:¬Builtin.List.listTooLong (its.toArray.size*k.toNat)=true:=by
  rw[aaz hlen]
  exact Bool.false_ne_true
 have hnew:List.foldl (λx1 x2=>x1++x2) #[] (List.replicate (if its.toArray.isEmpty=true then 0 else k.toNat) its.toArray)=(List.replicate k.toNat its).flatten.toArray:=by
  have f0:∀m:Nat,List.foldl (λx1 x2=>x1++x2) #[] (List.replicate m its.toArray)=(List.replicate m its).flatten.toArray:=λm=>by
   have:=foldl_rep its m []
   rw[List.nil_append]at this
   exact this
  rw[f0]
  cases its with
  |nil=>simp
  |cons a r'=>rw[if_neg (by simp)]
 refine wpAny_binaryOp_repeat_ref (T := "list") (U := "int") (by decide) ⟨_,e,rfl⟩ (λs'=>typeIs_int s' k t) noFill_list_mul F.fills_int_mul F.slot_int_rmul repeat_list F.slot_int_index.lookup
  (call_meets F.slot_int_rmul (typeIs_int s k t) F.entry_int_rmul (F.args_int_rmul_2 _ _) (int___rmul___int_list k t l its.toArray n)
   ⟨e,rfl,⟨_,e,rfl⟩,call_meets F.slot_list_mul ⟨_,e,rfl⟩ F.entry_list_mul (F.args_list_mul_2 _ _) (AutoListH.list___mul___list_int_3 l its.toArray n k t hfit hcap abh) ⟨e,?_⟩⟩)
 rw[hnew]
 exact⟨.ref _,_,I.Cv (t':=s.toks) (r.rep k.toNat) (by rw[len_rep,Nat.mul_comm]; exact hz),rfl,q _ I.fresh⟩
end L2
end
section
namespace L2
open PySem PySem.Spec PyProof.Rows
section
variable {K:FZ}{W:Addr->Prop}{σ : St}{H:Hp}{p:Addr}{xs:List V}{ts:List Tr}
theorem Je{o:HO}(hp:H p=none):Same (aO W H) (off p (aO W (upd H p o))):=λb u q=>by
 obtain⟨n,e⟩:=ji q
 have ne:b≠p:=iR e hp
 rw[off_ne ne,fK n,bB ne]
 exact e
theorem eG.new(hp:H p=none)(r:aR K (aO W H) xs ts):eG K W σ H (upd H p (.lst xs)) (.ref p) (.v (.lst ts) true) :=
 ⟨p,xs,ts,rfl,rfl,hp,dI,r.mono (Je hp)⟩
theorem eG.newT(hw:∀b,W b->Lt H b)(hp:H p=none)(r:aR K (aO W H) xs ts):eG K W σ H (upd H p (.tup xs)) (.ref p) (.v (.tup ts) false):=by
 have nw:¬W p:=λw=>by
  exact(hw p w).ne hp
 refine .tup (dN.of ?_) (r.mono λb u q=>(tY (Je (o:=.tup xs) hp b u q)).2)
 rw[fK nw]
 exact dI
theorem eG.gH{H':Hp}{v:V}{T:Tr}(h:ug v T):eG K W σ H H' v (.v T false):=h.rep
theorem aR.rQ{H:Hp}:∀{v:List V} {t:List Tr} {i:Nat} {u:Tr},aR K H v t->t[i]?=some u->∃x,v[i]?=some x/\Rep K H x u
 |_,_,_,_,.nil,e=>by simp at e
 |_,_,0,_,.cons h _,e=>by
  simp at e
  subst e
  exact⟨_,rfl,h⟩
 |_,_,i+1,x,.cons _ r,e=>by
  obtain⟨u,h1,h2⟩:=aR.rQ (i:=i) (u:=x) r (by simpa using e)
  exact⟨u,by simpa using h1,h2⟩
theorem aR.dX(r:aR K H xs ts){i:Int}{t:Tr}(h:dX ts i=some t):∃x,L2.dX xs i=some x/\Rep K H x t:=by
 unfold L2.dX at h ⊢
 rw[r.length]
 cases e:eH ts.length i with
 |none=>rw[e]at h; cases h
 |some j =>
  rw[e]at h
  exact r.rQ h
theorem Rp.abj{v:V}(h:Rp K W H v (.tup ts)):Rep K (aO W H) v (.tup ts):=by
 rcases h with h|⟨a,xs,us,rfl,e0,e,r⟩
 ·exact h
 ·cases e0
theorem big{n:Nat}(h:n<=100000):n<=sizeLine:=Nat.le_trans h (by decide)
end
section
variable {K:FZ}
def gI(p:Int->Int->Int):G2
 |.int i,.int j=>.ok (.int (p i j),false)
 |_,_=>.bad
theorem abk{p:Int->Int->Int}:fP K (iW λi j=>.int (p i j)) (gI p):=λW x y a b H Q hw rx ry h=>by
 cases a <;> try exact h.elim
 cases b <;> try exact h.elim
 rw[rx.int,ry.int]
 exact⟨_,_,rfl,rfl,h _ H (Same.refl _) (.gH (.int _))⟩
def ju(c:Int->Int->Bool)(p:Int->Int->Int):G2
 |.int i,.int j=>if c i j=true then .ok (.int (p i j),false)else .bad
 |_,_=>.bad
theorem Jf{C:Int->Int->Prop}{c:Int->Int->Bool}{p:Int->Int->Int}(hc:∀i j,c i j=true->C i j):fP K (rI C λi j=>.int (p i j)) (ju c p):=λW x y a b H Q hw rx ry h=>by
 cases a <;> try exact h.elim
 cases b <;> try exact h.elim
 rw[rx.int,ry.int]
 dsimp only[ju]at h
 split at h
 ·rename_i e
  exact⟨_,_,rfl,rfl,hc _ _ e,h _ H (Same.refl _) (.gH (.int _))⟩
 ·exact h.elim
def gB(p:Int->Int->Bool):G2
 |.int i,.int j=>.ok (.bl (p i j),false)
 |_,_=>.bad
theorem Jg{p:Int->Int->Bool}:fP K (iW λi j=>.bl (p i j)) (gB p):=λW x y a b H Q hw rx ry h=>by
 cases a <;> try exact h.elim
 cases b <;> try exact h.elim
 rw[rx.int,ry.int]
 exact⟨_,_,rfl,rfl,h _ H (Same.refl _) (.gH (.bl _))⟩
def cj:G2:=λt u=>if dep t<=40/\dep u<=40 then .ok (.bl (eqT t u),false)else .bad
theorem abl:fP (aJ K) (Iv K) cj:=λW x y a b H Q hw rx ry h=>by
 unfold cj at h
 split at h
 ·rename_i e
  exact⟨a,b,rx.rep.toK,ry.rep.toK,e.1,e.2,h _ H (Same.refl _) (.gH (.bl _))⟩
 ·exact h.elim
def dO:G2:=λt u=>if dep t<=40/\dep u<=40 then .ok (.bl (!eqT t u),false)else .bad
theorem abm:fP (aJ K) (Jc K) dO:=λW x y a b H Q hw rx ry h=>by
 unfold dO at h
 split at h
 ·rename_i e
  exact⟨a,b,rx.rep.toK,ry.rep.toK,e.1,e.2,h _ H (Same.refl _) (.gH (.bl _))⟩
 ·exact h.elim
def fQ(f:Bool->Bool):G2:=λt u=>match u with
 |.lst us=>if deps us<=40/\dep t<=40 then .ok (.bl (f (rN t us)),false)else .bad
 |.tup us=>if deps us<=40/\dep t<=40 then .ok (.bl (f (rN t us)),false)else .bad
 |_=>.bad
theorem abn:fP (aJ K) (Iw K) (fQ id):=λW x y a b H Q hw rx ry h=>by
 cases b <;> try exact h.elim
 ·rename_i us
  dsimp only[fQ]at h
  split at h
  ·rename_i e
   obtain⟨p,xs,rfl,q,r⟩:=ry.tup
   exact⟨a,us,p,xs,rx.rep.toK,rfl,.inr q.toK,(r.mono (iZ _ _)).toK,e.1,e.2,h _ H (Same.refl _) (.gH (.bl _))⟩
  ·exact h.elim
 ·rename_i us
  dsimp only[fQ]at h
  split at h
  ·rename_i e
   obtain⟨p,xs,rfl,q,r⟩:=ry.lst
   exact⟨a,us,p,xs,rx.rep.toK,rfl,.inl q.toK,(r.mono (iZ _ _)).toK,e.1,e.2,h _ H (Same.refl _) (.gH (.bl _))⟩
  ·exact h.elim
theorem abo:fP (aJ K) (Ja K) (fQ not):=λW x y a b H Q hw rx ry h=>by
 cases b <;> try exact h.elim
 ·rename_i us
  dsimp only[fQ]at h
  split at h
  ·rename_i e
   obtain⟨p,xs,rfl,q,r⟩:=ry.tup
   exact⟨a,us,p,xs,rx.rep.toK,rfl,.inr q.toK,(r.mono (iZ _ _)).toK,e.1,e.2,h _ H (Same.refl _) (.gH (.bl _))⟩
  ·exact h.elim
 ·rename_i us
  dsimp only[fQ]at h
  split at h
  ·rename_i e
   obtain⟨p,xs,rfl,q,r⟩:=ry.lst
   exact⟨a,us,p,xs,rx.rep.toK,rfl,.inl q.toK,(r.mono (iZ _ _)).toK,e.1,e.2,h _ H (Same.refl _) (.gH (.bl _))⟩
  ·exact h.elim
def Jh(K:FZ):R2:=λx y H Q=>(iW λi j=>.int (i+j)) x y H Q\/R4 K x y H Q\/(∃i j,x=.str i/\y=.str j/\i.length+j.length<=sizeLine/\Q (.str (i++j)) H)\/Ra K x y H Q
theorem iJ{X:Cx}:dz X (binaryOp .Add) (Jh X.K):=dz.or Qu (dz.or abf (dz.or ZQ aan))
noncomputable def cB:G2
 |.int i,.int j=>.ok (.int (i+j),false)
 |.lst a,.lst b=>if a.length+b.length<=100000 then .ok (.lst (a++b),true)else .bad
 |.str a,.str b=>if a.length+b.length<=100000 then .ok (.str (a++b),false)else .bad
 |.tup a,.tup b=>if 0<a.length/\a.length+b.length<=100000 then .ok (.tup (a++b),false)else .bad
 |_,_=>.bad
theorem abp:fP (aJ K) (Jh K) cB:=λW x y a b H Q hw rx ry h=>by
 cases a <;> cases b <;> try exact h.elim
 ·rw[rx.int,ry.int]
  exact .inl ⟨_,_,rfl,rfl,h _ H (Same.refl _) (.gH (.int _))⟩
 ·rename_i i j
  rw[rx.str,ry.str]
  dsimp only[cB]at h
  split at h
  ·rename_i e
   exact .inr (.inr (.inl ⟨i,j,rfl,rfl,big e,h _ H (Same.refl _) (.gH (.str _))⟩))
  ·exact h.elim
 ·rename_i us ws
  dsimp only[cB]at h
  split at h
  ·rename_i e
   have rt:=rx.abj
   obtain⟨p,xs,rfl,q,r⟩:=rx.tup
   obtain⟨p',ys,rfl,q',r'⟩:=ry.tup
   have l1:=r.length
   have l2:=r'.length
   refine .inr (.inr (.inr ⟨p,p',xs,ys,rfl,rfl,q.toK,q'.toK,?_,by rw[l1,l2]; exact big e.2,λz=>h _ H (Same.refl _) ?_,λ_ z hz=>h _ _ (fG hz _) (.newT hw hz (r.app r'))⟩))
   ·rintro rfl
    have e1:=e.1
    rw[<-l1]at e1
    cases e1
   ·subst z
    cases r'
    rw[List.append_nil]
    exact rt
  ·exact h.elim
 ·rename_i us ws
  dsimp only[cB]at h
  split at h
  ·rename_i e
   obtain⟨p,xs,rfl,q,r⟩:=rx.lst
   obtain⟨p',ys,rfl,q',r'⟩:=ry.lst
   refine .inr (.inl ⟨p,p',xs,ys,rfl,rfl,q.yV,q'.yV,by rw[r.length,r'.length]; exact big e,λz hz=>h _ _ (fG hz _) (.new hz (r.app r'))⟩)
  ·exact h.elim
end
end L2
end
section
namespace L2
open PySem PySem.Spec PyProof.Rows
def fit(i:Int):Bool:=decide (i.natAbs.log2<1048575)
theorem R6{i:Int}(h:fit i=true):Builtin.Int.intBits i<=2 ^ 20:=by
 have h:=of_decide_eq_true h
 unfold Builtin.Int.intBits
 have e:(2:Nat) ^ 20=1048576:=by decide
 split
 ·decide
 ·omega
def tiny(i:Int):Bool:=decide (-18446744073709551616<i)&&decide (i<18446744073709551616)
def cW(i j:Int):Bool:=(fit i&&fit j) || tiny i || tiny j
def Df(i j:Int):Prop:=cW i j=true
theorem Df.ok{i j:Int}(h:Df i j):IntMulOk i j:=by
 unfold Df cW at h
 rw[Bool.or_eq_true,Bool.or_eq_true,Bool.and_eq_true]at h
 have e:(2:Int) ^ 64=18446744073709551616:=by decide
 have tn:∀{k:Int},tiny k=true -> -(2 ^ 64)<k/\k<2 ^ 64:=λ{k} h=>by
  unfold tiny at h
  rw[Bool.and_eq_true]at h
  have h1:=of_decide_eq_true h.1
  have h2:=of_decide_eq_true h.2
  omega
 rcases h with(⟨h1,h2⟩|h)|h
 ·exact .of_bits (R6 h1) (R6 h2)
 ·exact .of_left (intBits_le_64 (tn h).1 (tn h).2)
 ·exact .of_right (intBits_le_64 (tn h).1 (tn h).2)
def Ji(K:FZ):R2:=λx y H Q=>(rI Df λi j=>.int (i*j)) x y H Q\/R5 K x y H Q
theorem eX{X:Cx}:dz X (binaryOp .Mult) (Ji X.K):=dz.or (Ci λ_ _ _ _ _ _ _ hc q=>mul_int q hc.ok) abg
def bU:G2
 |.int i,.int j=>if cW i j=true then .ok (.int (i*j),false)else .bad
 |.lst a,.int k=>if(-1000<=k/\k<=1000)/\a.length<=100 then .ok (.lst (List.replicate k.toNat a).flatten,true)else .bad
 |_,_=>.bad
def lV(_ j:Int):Bool:=decide (j≠0)&&decide (j.natAbs.log2<9000)
def Dg(i j:Int):Prop:=lV i j=true
theorem oN{X:Cx}:dz X (binaryOp .FloorDiv) (rI Dg λi j=>.int (i.fdiv j)):=Ci λi j _ _ _ _ _ hc q=>by
 unfold Dg lV at hc
 rw[Bool.and_eq_true]at hc
 exact floordiv_int (of_decide_eq_true hc.1) q (.inl (PyProof.noPylong_of_log2 (of_decide_eq_true hc.2)))
def fU:G2:=ju lV Int.fdiv
def dR:G2:=ju (λ_ j=>decide (j≠0)) Int.fmod
def R7(i j:Int):Bool:=decide (0<=j)&&decide (j<=1000)&&tiny i
def gJ:G2:=ju R7 λi j=>i ^ j.toNat
def fD:G2:=gI λi j=>i-j
section
variable {K:FZ}
theorem aR.rep{H:Hp}{xs:List V}{ts:List Tr}(r:aR K H xs ts):∀n,aR K H (List.replicate n xs).flatten (List.replicate n ts).flatten
 | 0=>.nil
 |n+1=>by
  rw[List.replicate_succ,List.replicate_succ,List.flatten_cons,List.flatten_cons]
  exact r.app (aR.rep r n)
theorem abq:fP (aJ K) (Ji K) bU:=λW x y a b H Q hw rx ry h=>by
 cases a <;> cases b <;> try exact h.elim
 ·rw[rx.int,ry.int]
  dsimp only[bU]at h
  split at h
  ·rename_i e
   exact .inl ⟨_,_,rfl,rfl,e,h _ H (Same.refl _) (.gH (.int _))⟩
  ·exact h.elim
 ·rename_i us k
  rw[ry.int]
  dsimp only[bU]at h
  split at h
  ·rename_i e
   obtain⟨p,xs,rfl,q,r⟩:=rx.lst
   by_cases k0:0<=k
   ·refine .inr ⟨p,k,xs,rfl,rfl,q.yV,by omega,by omega,?_,λz hz=>h _ _ (fG hz _) (.new hz (r.rep _))⟩
    rw[r.length]
    refine Nat.le_trans (Nat.mul_le_mul e.2 (show k.toNat<=1000 by omega)) (by decide)
   ·have e0:k.toNat=0:=by omega
    by_cases k1 : -(2 ^ 63)<=k
    ·refine .inr ⟨p,k,xs,rfl,rfl,q.yV,k1,by omega,?_,λz hz=>h _ _ (fG hz _) (.new hz (r.rep _))⟩
     rw[e0,Nat.mul_zero]
     exact Nat.zero_le _
    ·omega
  ·exact h.elim
theorem abr:fP K (rI Dg λi j=>.int (i.fdiv j)) fU:=Jf λ_ _ h=>h
theorem abt:fP K (rI (λ_ j=>j≠0) λi j=>.int (i.fmod j)) dR:=Jf λ_ _ h=>of_decide_eq_true h
theorem abu:fP K (rI HB λi j=>.int (i ^ j.toNat)) gJ:=Jf λi j h=>by
 unfold R7 tiny at h
 rw[Bool.and_eq_true,Bool.and_eq_true,Bool.and_eq_true]at h
 have h1:=of_decide_eq_true h.1.1
 have h2:=of_decide_eq_true h.1.2
 have h3:=of_decide_eq_true h.2.1
 have h4:=of_decide_eq_true h.2.2
 have e:(2:Nat) ^ 64=18446744073709551616:=by decide
 exact⟨h1,by omega,by omega⟩
theorem abv:fP K (iW λi j=>.int (i-j)) fD:=abk
def wu:G2:=gB λi j=>decide (j<i)
def d7:G2:=gB λi j=>decide (i<=j)
def lA:G2:=gB λi j=>decide (j<=i)
theorem abw:fP K (iW λi j=>.bl (decide (j<i))) wu:=Jg
theorem Jj:fP K (iW λi j=>.bl (decide (i<=j))) d7:=Jg
theorem abx:fP K (iW λi j=>.bl (decide (j<=i))) lA:=Jg
def intsOf:List Tr->Option (List Int)
 | []=>some []
 |.int i::r=>(intsOf r).map (i :: ·)
 |_::_=>none
theorem ints_of{H:Hp}:∀{ts:List Tr} {ns:List Int} {xs:List V},intsOf ts=some ns->aR K H xs ts->xs=ns.map V.int
 | [],ns,xs,h,r=>by cases h; cases r; rfl
 |.int i::q,ns,xs,h,r=>by
  unfold intsOf at h
  cases e:intsOf q with
  |none=>rw[e]at h; cases h
  |some ms =>
   rw[e]at h
   cases h
   cases r with
   |cons h1 r1 =>
    cases h1
    rw[ints_of e r1]
    rfl
 |.non::q,ns,xs,h,r=>by cases h
 |.bl _::q,ns,xs,h,r=>by cases h
 |.str _::q,ns,xs,h,r=>by cases h
 |.tup _::q,ns,xs,h,r=>by cases h
 |.lst _::q,ns,xs,h,r=>by cases h
def Jk(K:FZ):R2:=λx y H Q=>(iW λi j=>.bl (decide (i<j))) x y H Q\/Q9 K x y H Q
theorem p8{X:Cx}(hu:X.A.units+64<cLine):dz X (compareOp .Lt) (Jk X.K):=dz.or ZK (aam (by omega))
def d8:G2
 |.int i,.int j=>.ok (.bl (decide (i<j)),false)
 |.tup a,.tup b=>match intsOf a,intsOf b with
  |some ns,some ms=>.ok (.bl (HT.lexLt ns ms),false)
  |_,_=>.bad
 |_,_=>.bad
theorem R8:fP (aJ K) (Jk K) d8:=λW x y a b H Q hw rx ry h=>by
 cases a <;> cases b <;> try exact h.elim
 ·rw[rx.int,ry.int]
  exact .inl ⟨_,_,rfl,rfl,h _ H (Same.refl _) (.gH (.bl _))⟩
 ·rename_i us ws
  dsimp only[d8]at h
  split at h
  ·rename_i ns ms e1 e2
   obtain⟨p,xs,rfl,q,r⟩:=rx.tup
   obtain⟨p',ys,rfl,q',r'⟩:=ry.tup
   have z1:=ints_of e1 r
   have z2:=ints_of e2 r'
   subst z1 z2
   exact .inr ⟨p,p',ns,ms,rfl,rfl,q.toK,q'.toK,h _ H (Same.refl _) (.gH (.bl _))⟩
  ·exact h.elim
noncomputable def aB:G2
 |.lst ts,.int i=>match dX ts i with
  |some t=>.ok (t,false)
  |none=>.bad
 |.tup ts,.int i=>match dX ts i with
  |some t=>.ok (t,false)
  |none=>.bad
 | .str z,.int i=>if z.length<=100000 then (match dX z.cps.toList i with
  |some c=>.ok (.str ⟨#[c]⟩,false)
  |none=>.bad)else .bad
 |_,_=>.bad
theorem R9:fP (aJ K) (tO K) aB:=λW x y a b H Q hw rx ry h=>by
 cases a <;> cases b <;> try exact h.elim
 ·rename_i z i
  rw[rx.str,ry.int]
  dsimp only[aB]at h
  split at h
  ·rename_i e
   split at h
   ·rename_i c ec
    exact .inr (.inr ⟨z,i,c,rfl,rfl,big e,ec,h _ H (Same.refl _) (.gH (.str _))⟩)
   ·exact h.elim
  ·exact h.elim
 ·rename_i ts i
  rw[ry.int]
  dsimp only[aB]at h
  split at h
  ·rename_i t et
   obtain⟨p,xs,rfl,q,r⟩:=rx.tup
   obtain⟨v,ev,rv⟩:=r.dX et
   exact .inr (.inl ⟨p,xs,i,v,rfl,rfl,q.toK,ev,h _ H (Same.refl _) rv⟩)
  ·exact h.elim
 ·rename_i ts i
  rw[ry.int]
  dsimp only[aB]at h
  split at h
  ·rename_i t et
   obtain⟨p,xs,rfl,q,r⟩:=rx.lst
   obtain⟨v,ev,rv⟩:=r.dX et
   exact .inl ⟨p,xs,i,v,rfl,rfl,q.toK,ev,h _ H (Same.refl _) rv⟩
  ·exact h.elim
end
end L2
end
section
namespace L2
open PySem PySem.Spec PyProof.Rows
section
variable {K:FZ}{W:Addr->Prop}{σ : St}
theorem gP.step{H H' fW:Hp}(hw:∀b,W b->H b≠none)(s:bT W H' fW):∀{vs:List V} {rs:List Rv},gP K W σ H H' vs rs->gP K W σ H fW vs rs
 |_,_,.nil=>.nil
 |_,_,.cons h q=>.cons (h.step hw s) (gP.step hw s q)
theorem gP.back{G H H':Hp}(d:∀b,H b=none->G b=none):∀{vs:List V} {rs:List Rv},gP K W σ H H' vs rs->gP K W σ G H' vs rs
 |_,_,.nil=>.nil
 |_,_,.cons h q=>.cons (h.back d) (gP.back d q)
inductive rR(K:FZ)(W:Addr->Prop)(H:Hp):List V->List Tr->Prop
 |nil:rR K W H [] []
 |cons {v:V} {t:Tr} {vs:List V} {ts:List Tr} (h:Rp K W H v t) (q:rR K W H vs ts):rR K W H (v::vs) (t::ts)
def drs(ρ : En):List Rv->Rs (List Tr)
 | []=>.ok []
 |r::rs=>(dr ρ r).bind λt=>(drs ρ rs).bind λts=>.ok (t::ts)
theorem yW(ρ : En):∀(rs:List Rv) (c:Str),drs ρ rs ≠ .ex c
 | [],c=>by intro z; cases z
 |r::rs,c=>by
  unfold drs
  cases e:dr ρ r with
  |bad=>intro z; cases z
  |ex d=>exact(j6 _ _ _ e).elim
  |ok t =>
   show(drs ρ rs).bind _≠_
   cases e2:drs ρ rs with
   |bad=>intro z; cases z
   |ex d=>exact(yW ρ rs d e2).elim
   |ok ts=>intro z; cases z
theorem dF{α β : Type}{r:Rs α}{f : α -> Rs β}{b : β}(h:r.bind f=.ok b):∃a,r=.ok a/\f a=.ok b:=by
 cases r with
 |bad=>cases h
 |ex c=>cases h
 |ok a=>exact⟨a,rfl,h⟩
theorem Dh{t:Tx}{ρ : En}{H H':Hp}(e:aV t W ρ σ H')(hw:∀b,W b->H b≠none):∀{vs:List V} {rs:List Rv} {ts:List Tr},gP t.K W σ H H' vs rs->drs ρ rs=.ok ts->rR t.K W H' vs ts
 |_,_,_,.nil,q=>by cases q; exact .nil
 |_,_,_,.cons h r,q=>by
  unfold drs at q
  obtain⟨a,q1,q⟩:=dF q
  obtain⟨as,q2,q⟩:=dF q
  cases q
  exact .cons (j5 e hw h q1) (Dh e hw r q2)
def cls:List Rv->Rs (List Tr)
 | []=>.ok []
 |.v t _::rs=>(cls rs).bind λts=>.ok (t::ts)
 |.s _::_=>.bad
theorem wz:∀(rs:List Rv) (c:Str),cls rs ≠ .ex c
 | [],c=>by intro z; cases z
 |.v t fr::rs,c=>by
  unfold cls
  cases e2:cls rs with
  |bad=>intro z; cases z
  |ex d=>exact(wz rs d e2).elim
  |ok ts=>intro z; cases z
 |.s i::rs,c=>by intro z; cases z
theorem wA{H H':Hp}(hw:∀b,W b->H b≠none):∀{vs:List V} {rs:List Rv} {ts:List Tr},gP K W σ H H' vs rs->cls rs=.ok ts->aR K (aO W H') vs ts
 |_,_,_,.nil,q=>by cases q; exact .nil
 |_,.v t fr::_,_,.cons h r,q=>by
  unfold cls at q
  obtain⟨as,q2,q⟩:=dF q
  cases q
  exact .cons (h.rep hw) (wA hw r q2)
 |_,.s i::_,_,.cons h r,q=>by cases q
end
section
variable {t:Tx}
def au:AF:=λρ=>.ok ([],ρ)
def ak(f:EF)(g:AF):AF:=λρ=>(f ρ).bind λp=>(g p.2).bind λq=>.ok (p.1::q.1,q.2)
theorem dJ:SA t rE au:=λW ρ σ H Q e h=>h [] H e (bT.refl _ _) .nil
theorem cC{te:TE}{ta:TA}{f:EF}{g:AF}(h1:SE t te f)(h2:SA t ta g):SA t (kZ te ta) (ak f g):=λW ρ σ H Q e h=>by
 refine h1 W ρ σ H _ e (Rs.bG (Rs.bh h) λp h v H1 e1 s1 v1=>?_)
 refine h2 W p.2 σ H1 _ e1 (Rs.bG (Rs.bh h) λq h vs H2 e2 s2 v2=>?_)
 exact h (v::vs) H2 e2 (s1.trans s2) (.cons (v1.1.step e.wn s2) (gP.back s1.dom v2))
def jk(g:AF):EF:=λρ=>(g ρ).bind λp=>(cls p.1).bind λts=>if ts.length<=1000 then .ok (.v (.lst ts) true,p.2)else .bad
def eY(g:AF):EF:=λρ=>(g ρ).bind λp=>(cls p.1).bind λts=>if ts.length<=1000 then .ok (.v (.tup ts) false,p.2)else .bad
theorem dh{α : Type}{r:Rs α}{EX:Str->Prop}{P : α -> Prop}(h:r.post EX P)(n:∀c,r ≠ .ex c):∃a,r=.ok a/\P a:=by
 cases r with
 |bad=>exact h.elim
 |ex c=>exact(n c rfl).elim
 |ok a=>exact⟨a,rfl,h⟩
theorem aby{ta:TA}{g:AF}(h1:SA t ta g):SE t (Qz ta) (jk g):=λW ρ σ H Q e h=>by
 refine h1 W ρ σ H _ e (Rs.bG (Rs.bh h) λp h vs H1 e1 s1 v1=>?_)
 obtain⟨ts,q,h⟩:=dh (Rs.bh h) (wz _)
 have r:=wA e.wn v1 q
 split at h
 ·rename_i hl
  refine⟨by rw[r.length]; exact Nat.le_trans hl (by decide),λz hz=>h _ _ (e1.grow (fG hz _)) (s1.trans (bT.of (fG hz _))) ?_⟩
  exact(iz.of (σ' := σ) e1 (fG hz _) (eG.new hz r)).back s1.dom
 ·exact h.elim
theorem Sd{ta:TA}{g:AF}(h1:SA t ta g):SE t (Qy ta) (eY g):=λW ρ σ H Q e h=>by
 refine h1 W ρ σ H _ e (Rs.bG (Rs.bh h) λp h vs H1 e1 s1 v1=>?_)
 obtain⟨ts,q,h⟩:=dh (Rs.bh h) (wz _)
 have r:=wA e.wn v1 q
 split at h
 ·rename_i hl
  refine⟨by rw[r.length]; exact Nat.le_trans hl (by decide),λz hz=>h _ _ (e1.grow (fG hz _)) (s1.trans (bT.of (fG hz _))) ?_⟩
  exact .low ((eG.newT (σ := σ) (W:=W) e1.wl hz r))
 ·exact h.elim
abbrev G1:=Tr->Rs (Tr × Bool)
def qd(K:FZ)(r:V->Hp->VK->Prop)(g:G1):Prop:=∀W x a H Q,(∀b,W b->Lt H b)->Rp K W H x a->(g a).post (λ_=>False) (λp=>∀v H',Same H H'->eG K W [] H H' v (.v p.1 p.2)->Q v H')->r x H Q
def wB(g:G1)(fa:EF):EF:=λρ=>(fa ρ).bind λp=>(dr p.2 p.1).bind λa=>(g a).bind λz=>.ok (.v z.1 z.2,p.2)
theorem abz{r:V->Hp->VK->Prop}{g:G1}{ta:TE}{fa:EF}(o:qd t.K r g)(ng:∀a c,g a ≠ .ex c)(ha:SE t ta fa):SE t (Ce r ta) (wB g fa):=λW ρ σ H Q e h=>by
 refine ha W ρ σ H _ e (Rs.bG (Rs.bh h) λp h x H1 e1 s1 v1=>?_)
 obtain⟨a,k1,h⟩:=dh (Rs.bh h) (j6 _ _)
 refine o W x a H1 Q e1.wl (j5 e1 e.wn v1.1 k1) (Rs.bG (jK (Rs.bh h) (ng a)) λz h v H2 s2 v2=>?_)
 exact h v H2 (e1.grow s2) (s1.trans (bT.of s2)) ((iz.of e1 s2 v2).back s1.dom)
def mZ:G1
 |.int i=>.ok (.int (-i),false)
 |_=>.bad
theorem Sg{K:FZ}:qd K (rU λi=>.int (-i)) mZ:=λW x a H Q hw rx h=>by
 cases a <;> try exact h.elim
 rw[rx.int]
 exact⟨_,rfl,h _ H (Same.refl _) (.gH (.int _))⟩
def bO:Tr->Rs Bool
 |.bl b=>.ok b
 |_=>.bad
theorem Sh(a:Tr)(c:Str):bO a ≠ .ex c:=by cases a <;> (intro z; cases z)
def bV(fa:EF):BF:=λρ=>(fa ρ).bind λp=>(dr p.2 p.1).bind λa=>(bO a).bind λb=>.ok (b,p.2)
theorem Sq{K:FZ}{W:Addr->Prop}{H:Hp}{v:V}{a:Tr}{b:Bool}(h:Rp K W H v a)(q:bO a=.ok b):v=.bl b:=by
 cases a <;> cases q
 exact h.bl
theorem um{ta:TE}{fa:EF}(ha:SE t ta fa):ST t (HF ta) (bV fa):=λW ρ σ H Q e h=>by
 refine ha W ρ σ H _ e (Rs.bG (Rs.bh h) λp h x H1 e1 s1 v1=>?_)
 obtain⟨a,k1,h⟩:=dh (Rs.bh h) (j6 _ _)
 obtain⟨b,k2,h⟩:=dh (Rs.bh h) (Sh _)
 exact⟨b,Sq (j5 e1 e.wn v1.1 k1) k2,h H1 e1 s1⟩
def cX:Tr->Rs Bool
 |.non=>.ok false
 |.bl b=>.ok b
 |.int i=>.ok (i != 0)
 |.lst ts=>.ok (!ts.isEmpty)
 |.tup ts=>.ok (!ts.isEmpty)
 |.str x=>if x.length<=100000 then .ok ((x.length:Int) != 0)else .bad
 |.dB _=>.bad
theorem abA(a:Tr)(c:Str):cX a ≠ .ex c:=by
 cases a <;> try(intro z; cases z; done)
 dsimp only[cX]
 split <;> (intro z; cases z)
theorem Ss{α β : Type}{a:List α}{b:List β}(h:a.length=b.length):a.isEmpty=b.isEmpty:=by
 cases a <;> cases b <;> first|rfl|cases h
theorem abD{K:FZ}{W:Addr->Prop}{H:Hp}{v:V}{a:Tr}{b:Bool}(h:Rp (aJ K) W H v a)(q:cX a=.ok b):yH K v H b:=by
 cases a with
 |non=>cases q; rw[h.non]; rfl
 |bl i=>cases q; rw[h.bl]; rfl
 |int i=>cases q; rw[h.int]; rfl
 |str i =>
  dsimp only[cX]at q
  split at q
  ·rename_i e
   cases q
   rw[h.str]
   exact⟨big e,rfl⟩
  ·cases q
 |tup ts =>
  cases q
  obtain⟨p,xs,rfl,q,r⟩:=h.tup
  exact .inr (.inl ⟨xs,q.toK,by rw[Ss r.length]⟩)
 |lst ts =>
  cases q
  obtain⟨p,xs,rfl,q,r⟩:=h.lst
  exact .inl ⟨xs,q.toK,by rw[Ss r.length]⟩
 |dB c=>cases q
def cL(fa:EF):BF:=λρ=>(fa ρ).bind λp=>(dr p.2 p.1).bind λa=>(cX a).bind λb=>.ok (b,p.2)
def abE(K:FZ)(ta:TE):TT:=λσ H Q=>ta σ H λx H'=>∃k,yH K x H' k/\Q k H'
theorem qe{K:FZ}(hK:t.K=aJ K){ta:TE}{fa:EF}(ha:SE t ta fa):ST t (abE K ta) (cL fa):=λW ρ σ H Q e h=>by
 refine ha W ρ σ H _ e (Rs.bG (Rs.bh h) λp h x H1 e1 s1 v1=>?_)
 obtain⟨a,k1,h⟩:=dh (Rs.bh h) (j6 _ _)
 obtain⟨b,k2,h⟩:=dh (Rs.bh h) (abA _)
 have r:=j5 e1 e.wn v1.1 k1
 rw[hK]at r
 exact⟨b,abD r k2,h H1 e1 s1⟩
def oO(f g:BF):BF:=λρ=>(f ρ).bind λp=>if p.1=true then g p.2 else .ok (false,p.2)
def f9(f g:BF):BF:=λρ=>(f ρ).bind λp=>if p.1=true then .ok (true,p.2)else g p.2
def dU(f:BF):BF:=λρ=>(f ρ).bind λp=>.ok (!p.1,p.2)
theorem abF{ta tb:TT}{f g:BF}(ha:ST t ta f)(hb:ST t tb g):ST t (PJ ta tb) (oO f g):=λW ρ σ H Q e h=>by
 refine ha W ρ σ H _ e (Rs.bG (Rs.bh h) λp h H1 e1 s1=>?_)
 split at h
 ·rename_i c
  refine if_pos c▸hb W p.2 σ H1 _ e1 (Rs.bG h λq h H2 e2 s2=>h H2 e2 (s1.trans s2))
 ·rename_i c
  exact if_neg c▸h H1 e1 s1
theorem Jl{ta tb:TT}{f g:BF}(ha:ST t ta f)(hb:ST t tb g):ST t (PK ta tb) (f9 f g):=λW ρ σ H Q e h=>by
 refine ha W ρ σ H _ e (Rs.bG (Rs.bh h) λp h H1 e1 s1=>?_)
 split at h
 ·rename_i c
  exact if_pos c▸h H1 e1 s1
 ·rename_i c
  refine if_neg c▸hb W p.2 σ H1 _ e1 (Rs.bG h λq h H2 e2 s2=>h H2 e2 (s1.trans s2))
theorem oR{ta:TT}{f:BF}(ha:ST t ta f):ST t (PL ta) (dU f):=λW ρ σ H Q e h =>
 ha W ρ σ H _ e (Rs.bG (Rs.bh h) λp h H1 e1 s1=>h H1 e1 s1)
def eB(b:Bool):Rv:=.v (.bl b) false
def lC(f g:EF):EF:=λρ=>(bV f ρ).bind λp=>if p.1=true then g p.2 else .ok (eB false,p.2)
def eOr(f g:EF):EF:=λρ=>(bV f ρ).bind λp=>if p.1=true then .ok (eB true,p.2)else g p.2
def Jm(f:EF):EF:=λρ=>(bV f ρ).bind λp=>.ok (eB (!p.1),p.2)
theorem abG{ta tb:TE}{f g:EF}(ha:SE t ta f)(hb:SE t tb g):SE t (PN ta tb) (lC f g):=λW ρ σ H Q e h=>by
 refine um ha W ρ σ H _ e (Rs.bG (Rs.bh h) λp h H1 e1 s1=>?_)
 split at h
 ·rename_i c
  refine if_pos c▸hb W p.2 σ H1 _ e1 (Rs.bG h λq h v H2 e2 s2 v2=>h v H2 e2 (s1.trans s2) (v2.back s1.dom))
 ·rename_i c
  exact if_neg c▸h _ H1 e1 s1 (.low (.bl false))
theorem abH{ta:TE}{f:EF}(ha:SE t ta f):SE t (PX ta) (Jm f):=λW ρ σ H Q e h =>
 um ha W ρ σ H _ e (Rs.bG (Rs.bh h) λp h H1 e1 s1=>h _ H1 e1 s1 (.low (.bl _)))
def wC(c:BF)(f g:EF):EF:=λρ=>(c ρ).bind λp=>if p.1=true then f p.2 else g p.2
theorem abI{tc:TT}{ta tb:TE}{c:BF}{f g:EF}(hc:ST t tc c)(ha:SE t ta f)(hb:SE t tb g):SE t (Qa tc ta tb) (wC c f g):=λW ρ σ H Q e h=>by
 refine hc W ρ σ H _ e (Rs.bG (Rs.bh h) λp h H1 e1 s1=>?_)
 split at h
 ·rename_i d
  refine if_pos d▸ha W p.2 σ H1 _ e1 (Rs.bG h λq h v H2 e2 s2 v2=>h v H2 e2 (s1.trans s2) (v2.back s1.dom))
 ·rename_i d
  refine if_neg d▸hb W p.2 σ H1 _ e1 (Rs.bG h λq h v H2 e2 s2 v2=>h v H2 e2 (s1.trans s2) (v2.back s1.dom))
end
end L2
end
section
namespace L2
open PySem PySem.Spec PyProof.Rows
section
variable {t:Tx}
noncomputable def qg(g g':G2)(fa fb fc:EF):EF:=λρ=>(fa ρ).bind λp=>(fb p.2).bind λq=>(dr q.2 p.1).bind λa=>(dr q.2 q.1).bind λb=>(g a b).bind λz=>(bO z.1).bind λk =>
 if k=true then(fc q.2).bind λs=>(dr s.2 q.1).bind λb=>(dr s.2 s.1).bind λc=>(g' b c).bind λz=>.ok (.v z.1 z.2,s.2)else .ok (eB false,q.2)
theorem abJ{r r':R2}{g g':G2}{ta tb tc:TE}{fa fb fc:EF}(o:fP t.K r g)(o':fP t.K r' g')(ng:∀a b c,g a b ≠ .ex c)(ng':∀a b c,g' a b ≠ .ex c)(ha:SE t ta fa)(hb:SE t tb fb)(hc:SE t tc fc):SE t (Cm r r' ta tb tc) (qg g g' fa fb fc):=λW ρ σ H Q e h=>by
 refine ha W ρ σ H _ e (Rs.bG (Rs.bh h) λp h x H1 e1 s1 v1=>?_)
 refine hb W p.2 σ H1 _ e1 (Rs.bG (Rs.bh h) λq h y H2 e2 s2 v2=>?_)
 obtain⟨a,k1,h⟩:=dh (Rs.bh h) (j6 _ _)
 obtain⟨b,k2,h⟩:=dh (Rs.bh h) (j6 _ _)
 refine o W x y a b H2 _ e2.wl (j5 e2 e.wn (v1.1.step e.wn s2) k1) (j5 e2 e1.wn v2.1 k2) (Rs.bG (jK (Rs.bh h) (ng a b)) λz h v H3 s3 v3=>?_)
 obtain⟨k,k3,h⟩:=dh (Rs.bh h) (Sh _)
 have e3:=e2.grow s3
 have b3:v=.bl k:=Sq (.inl (eG.rep (σ:=[]) e2.wn v3)) k3
 refine⟨k,b3,?_⟩
 split at h
 ·rename_i c
  rw[if_pos c]
  refine hc W q.2 σ H3 _ e3 (Rs.bG (Rs.bh h) λu h w H4 e4 s4 v4=>?_)
  obtain⟨b',k4,h⟩:=dh (Rs.bh h) (j6 _ _)
  obtain⟨c',k5,h⟩:=dh (Rs.bh h) (j6 _ _)
  refine o' W y w b' c' H4 _ e4.wl (j5 e4 e1.wn ((v2.1.step e1.wn (bT.of s3)).step e1.wn s4) k4) (j5 e4 e3.wn v4.1 k5) (Rs.bG (jK (Rs.bh h) (ng' b' c')) λz h v H5 s5 v5=>?_)
  have st:bT W H H4:=(s1.trans (s2.trans (bT.of s3))).trans s4
  exact h v H5 (e4.grow s5) (st.trans (bT.of s5)) ((iz.of e4 s5 v5).back st.dom)
 ·rename_i c
  rw[if_neg c]
  exact h _ H3 e3 ((s1.trans s2).trans (bT.of s3)) (.low (.bl false))
abbrev OF:=En->Rs (Option Int × En)
def SO(t:Tx)(te:TO)(f:OF):Prop:=∀W ρ σ H Q,aV t W ρ σ H->(f ρ).post t.EX (λp=>∀H',aV t W p.2 σ H'->bT W H H'->Q p.1 H')->te σ H Q
def uo:OF:=λρ=>.ok (none,ρ)
theorem abK:SO t QW uo:=λW ρ σ H Q e h=>h H e (bT.refl _ _)
def lW:Tr->Rs Int
 |.int i=>.ok i
 |_=>.bad
theorem Sv(a:Tr)(c:Str):lW a ≠ .ex c:=by cases a <;> (intro z; cases z)
theorem Sw{K:FZ}{W:Addr->Prop}{H:Hp}{v:V}{a:Tr}{b:Int}(h:Rp K W H v a)(q:lW a=.ok b):v=.int b:=by
 cases a <;> cases q
 exact h.int
def uq(fa:EF):OF:=λρ=>(fa ρ).bind λp=>(dr p.2 p.1).bind λa=>(lW a).bind λb=>.ok (some b,p.2)
theorem abL{ta:TE}{fa:EF}(ha:SE t ta fa):SO t (QX ta) (uq fa):=λW ρ σ H Q e h=>by
 refine ha W ρ σ H _ e (Rs.bG (Rs.bh h) λp h x H1 e1 s1 v1=>?_)
 obtain⟨a,k1,h⟩:=dh (Rs.bh h) (j6 _ _)
 obtain⟨b,k2,h⟩:=dh (Rs.bh h) (Sv _)
 exact⟨b,Sw (j5 e1 e.wn v1.1 k1) k2,h H1 e1 s1⟩
def cut{α : Type}(xs:List α)(lo hi:Option Int):List α := (xs.drop (HT.cG xs.length 0 lo)).take (HT.cG xs.length xs.length hi-HT.cG xs.length 0 lo)
theorem aR.cut{K:FZ}{H:Hp}{xs:List V}{ts:List Tr}(r:aR K H xs ts)(lo hi:Option Int):aR K H (rH xs lo hi) (L2.cut ts lo hi):=by
 unfold rH L2.cut
 rw[r.length]
 exact(r.drop _).take _
def Sx(K:FZ):V->Option Int->Option Int->Hp->VK->Prop:=λx lo hi H Q=>Rj K x lo hi H Q\/Q8 K x lo hi H Q\/RM x lo hi H Q
theorem Sy{X:Cx}:mW X (Sx X.K):=mW.or aav (mW.or aal aaK)
noncomputable def rT(lo hi:Option Int):G1
 |.lst ts=>.ok (.lst (cut ts lo hi),true)
 |.tup ts=>if ¬(HT.cG ts.length 0 lo=0/\HT.cG ts.length ts.length hi=ts.length)then .ok (.tup (cut ts lo hi),false)else .bad
 |.str z=>if z.length<=100000 then .ok (.str (Txt.slice z lo hi),false)else .bad
 |_=>.bad
theorem abM(lo hi:Option Int)(a:Tr)(c:Str):rT lo hi a ≠ .ex c:=by
 cases a <;> dsimp only[rT] <;> (try split) <;> (intro z; cases z)
def ur(fa:EF)(fl fh:OF):EF:=λρ=>(fa ρ).bind λp=>(fl p.2).bind λl=>(fh l.2).bind λh=>(dr h.2 p.1).bind λa=>(rT l.1 h.1 a).bind λz=>.ok (.v z.1 z.2,h.2)
theorem abN{K:FZ}(hK:t.K=aJ K){ta:TE}{tl th:TO}{fa:EF}{fl fh:OF}(ha:SE t ta fa)(hl:SO t tl fl)(hh:SO t th fh):SE t (Q5 (Sx K) ta tl th) (ur fa fl fh):=λW ρ σ H Q e h=>by
 refine ha W ρ σ H _ e (Rs.bG (Rs.bh h) λp h x H1 e1 s1 v1=>?_)
 refine hl W p.2 σ H1 _ e1 (Rs.bG (Rs.bh h) λl h H2 e2 s2=>?_)
 refine hh W l.2 σ H2 _ e2 (Rs.bG (Rs.bh h) λu h H3 e3 s3=>?_)
 obtain⟨a,k1,h⟩:=dh (Rs.bh h) (j6 _ _)
 obtain⟨z,k2,h⟩:=dh (Rs.bh h) (abM _ _ _)
 have st:bT W H H3:=s1.trans (s2.trans s3)
 have rx:=j5 e3 e.wn (v1.1.step e.wn (s2.trans s3)) k1
 rw[hK]at rx
 cases a with
 |dB c=>cases k2
 |lst ts =>
  cases k2
  obtain⟨b,xs,rfl,q,r⟩:=rx.lst
  refine .inl ⟨b,xs,rfl,q.toK,λy hy=>h _ _ (e3.grow (fG hy _)) (st.trans (bT.of (fG hy _))) ?_⟩
  rw[<-hK]at r
  exact(iz.of (σ' := σ) e3 (fG hy _) (eG.new hy (r.cut _ _))).back st.dom
 |tup ts =>
  dsimp only[rT]at k2
  split at k2
  ·rename_i c
   cases k2
   obtain⟨b,xs,rfl,q,r⟩:=rx.tup
   refine .inr (.inl ⟨b,xs,rfl,q.toK,by rw[r.length]; exact c,λy hy=>h _ _ (e3.grow (fG hy _)) (st.trans (bT.of (fG hy _))) ?_⟩)
   rw[<-hK]at r
   exact .low (eG.newT (σ := σ) (W:=W) e3.wl hy (r.cut _ _))
  ·cases k2
 |str i =>
  dsimp only[rT]at k2
  split at k2
  ·rename_i c
   cases k2
   rw[rx.str]
   exact .inr (.inr ⟨i,rfl,big c,h _ H3 e3 st (.low (.str _))⟩)
  ·cases k2
 |non=>cases k2
 |bl i=>cases k2
 |int i=>cases k2
abbrev GN:=List Tr->Rs (Tr × Bool)
def Jo(K:FZ)(r:List V->Hp->VK->Prop)(g:GN):Prop:=∀W xs as H Q,(∀b,W b->Lt H b)->rR K W H xs as->(g as).post (λ_=>False) (λp=>∀v H',Same H H'->eG K W [] H H' v (.v p.1 p.2)->Q v H')->r xs H Q
def bF(g:GN)(fa:AF):EF:=λρ=>(fa ρ).bind λp=>(drs p.2 p.1).bind λas=>(g as).bind λz=>.ok (.v z.1 z.2,p.2)
theorem uw{r:List V->Hp->VK->Prop}{g:GN}{ta:TA}{fa:AF}(o:Jo t.K r g)(ng:∀as c,g as ≠ .ex c)(ha:SA t ta fa):SE t (jN r ta) (bF g fa):=λW ρ σ H Q e h=>by
 refine ha W ρ σ H _ e (Rs.bG (Rs.bh h) λp h xs H1 e1 s1 v1=>?_)
 obtain⟨as,k1,h⟩:=dh (Rs.bh h) (yW _ _)
 refine o W xs as H1 Q e1.wl (Dh e1 e.wn v1 k1) (Rs.bG (jK (Rs.bh h) (ng as)) λz h v H2 s2 v2=>?_)
 exact h v H2 (e1.grow s2) (s1.trans (bT.of s2)) ((iz.of e1 s2 v2).back s1.dom)
def g1(g:G1):GN
 | [a]=>g a
 |_=>.bad
theorem yX{g:G1}(h:∀a c,g a ≠ .ex c)(as:List Tr)(c:Str):g1 g as ≠ .ex c:=by
 match as with
 | []=>intro z; cases z
 | [a]=>exact h a c
 |_::_::_=>intro z; cases z
theorem yZ{K:FZ}{r:List V->Hp->VK->Prop}{g:G1}(h:qd K (λx=>r [x]) g):Jo K r (g1 g):=λW xs as H Q hw rs q=>by
 cases rs with
 |nil=>exact q.elim
 |cons h1 r1 =>
  cases r1 with
  |nil=>exact h W _ _ H Q hw h1 q
  |cons _ _=>exact q.elim
def g2(g:G2):GN
 | [a,b]=>g a b
 |_=>.bad
theorem SJ{g:G2}(h:∀a b c,g a b ≠ .ex c)(as:List Tr)(c:Str):g2 g as ≠ .ex c:=by
 match as with
 | []=>intro z; cases z
 | [a]=>intro z; cases z
 | [a,b]=>exact h a b c
 |_::_::_::_=>intro z; cases z
theorem SM{K:FZ}{r:List V->Hp->VK->Prop}{g:G2}(h:fP K (λx y=>r [x,y]) g):Jo K r (g2 g):=λW xs as H Q hw rs q=>by
 cases rs with
 |nil=>exact q.elim
 |cons h1 r1 =>
  cases r1 with
  |nil=>exact q.elim
  |cons h2 r2 =>
   cases r2 with
   |nil=>exact h W _ _ _ _ H Q hw h1 h2 q
   |cons _ _=>exact q.elim
end
section
variable {K:FZ}
def Jp(K:FZ):List V->Hp->VK->Prop:=λxs H Q=>(∃p ys,xs=[.ref p]/\(cJ K H p ys\/dN K H p ys)/\Q (.int ys.length) H)\/(∃z,xs=[.str z]/\z.length<=sizeLine/\Q (.int z.length) H)
theorem gw{X:Cx}:iV X (.builtin "len") (Jp X.K):=iV.or aaw aax
def bK:G1
 |.lst ts=>.ok (.int ts.length,false)
 |.tup ts=>.ok (.int ts.length,false)
 |.str z=>if z.length<=100000 then .ok (.int z.length,false)else .bad
 |_=>.bad
theorem abP:qd (aJ K) (λx=>Jp K [x]) bK:=λW x a H Q hw rx h=>by
 cases a <;> try exact h.elim
 ·rename_i z
  dsimp only[bK]at h
  split at h
  ·rename_i e
   rw[rx.str]
   exact .inr ⟨z,rfl,big e,h _ H (Same.refl _) (.gH (.int _))⟩
  ·exact h.elim
 ·obtain⟨p,xs,rfl,q,r⟩:=rx.tup
  refine .inl ⟨p,xs,rfl,.inr q.toK,?_⟩
  rw[r.length]
  exact h _ H (Same.refl _) (.gH (.int _))
 ·obtain⟨p,xs,rfl,q,r⟩:=rx.lst
  refine .inl ⟨p,xs,rfl,.inl q.toK,?_⟩
  rw[r.length]
  exact h _ H (Same.refl _) (.gH (.int _))
def wF:G1
 |.int i=>.ok (.int (if i<0 then -i else i),false)
 |_=>.bad
theorem abQ:qd K (λx H Q=>∃i,[x]=[V.int i]/\Q (.int (if i<0 then -i else i)) H) wF:=λW x a H Q hw rx h=>by
 cases a <;> try exact h.elim
 rw[rx.int]
 exact⟨_,rfl,h _ H (Same.refl _) (.gH (.int _))⟩
def lD:G1
 |.lst ts=>.ok (.lst ts,true)
 |.tup ts=>.ok (.lst ts,true)
 |_=>.bad
theorem abS:qd (aJ K) (λx H Q=>∃p ys,[x]=[V.ref p]/\(cJ K H p ys\/dN K H p ys)/\∀l,H l=none->Q (.ref l) (upd H l (.lst ys))) lD:=λW x a H Q hw rx h=>by
 cases a <;> try exact h.elim
 ·obtain⟨p,xs,rfl,q,r⟩:=rx.tup
  exact⟨p,xs,rfl,.inr q.toK,λz hz=>h _ _ (fG hz _) (.new hz r)⟩
 ·obtain⟨p,xs,rfl,q,r⟩:=rx.lst
  exact⟨p,xs,rfl,.inl q.toK,λz hz=>h _ _ (fG hz _) (.new hz r)⟩
def wG:G2
 |.int i,.int j=>.ok (.int (if j<i then j else i),false)
 |_,_=>.bad
def wH:G2
 |.int i,.int j=>.ok (.int (if j > i then j else i),false)
 |_,_=>.bad
theorem abT:fP K (λx y H Q=>∃i j,[x,y]=[V.int i,V.int j]/\Q (.int (if j<i then j else i)) H) wG:=λW x y a b H Q hw rx ry h=>by
 cases a <;> cases b <;> try exact h.elim
 rw[rx.int,ry.int]
 exact⟨_,_,rfl,h _ H (Same.refl _) (.gH (.int _))⟩
theorem abU:fP K (λx y H Q=>∃i j,[x,y]=[V.int i,V.int j]/\Q (.int (if j > i then j else i)) H) wH:=λW x y a b H Q hw rx ry h=>by
 cases a <;> cases b <;> try exact h.elim
 rw[rx.int,ry.int]
 exact⟨_,_,rfl,h _ H (Same.refl _) (.gH (.int _))⟩
def ql:List Tr->Option (List Bool)
 | []=>some []
 |.bl i::r=>(ql r).map (i :: ·)
 |_::_=>none
theorem SN{H:Hp}:∀{ts:List Tr} {ns:List Bool} {xs:List V},ql ts=some ns->aR K H xs ts->xs=ns.map V.bl
 | [],ns,xs,h,r=>by cases h; cases r; rfl
 |.bl i::q,ns,xs,h,r=>by
  unfold ql at h
  cases e:ql q with
  |none=>rw[e]at h; cases h
  |some ms =>
   rw[e]at h
   cases h
   cases r with
   |cons h1 r1 =>
    cases h1
    rw[SN e r1]
    rfl
 |.non::q,ns,xs,h,r=>by cases h
 |.int _::q,ns,xs,h,r=>by cases h
 |.str _::q,ns,xs,h,r=>by cases h
 |.tup _::q,ns,xs,h,r=>by cases h
 |.lst _::q,ns,xs,h,r=>by cases h
def gA:G1
 |.lst ts=>match ql ts with
  |some bs=>.ok (.bl (bs.all id),false)
  |none=>.bad
 |_=>.bad
theorem abV:qd (aJ K) (λx=>Iz K [x]) gA:=λW x a H Q hw rx h=>by
 cases a <;> try exact h.elim
 dsimp only[gA]at h
 split at h
 ·rename_i bs e
  obtain⟨p,xs,rfl,q,r⟩:=rx.lst
  have z:=SN e r
  subst z
  exact⟨p,bs,rfl,q.toK,h _ H (Same.refl _) (.gH (.bl _))⟩
 ·exact h.elim
def iK(c:Ty)(fa:EF):EF:=λρ=>(fa ρ).bind λp=>(dr p.2 p.1).bind λa=>.ok (eB (iy a c),p.2)
theorem SX{t:Tx}(hK:t.K=aJ K)(c:Ty){ta:TE}{fa:EF}(ha:SE t ta fa):SE t (jN (CP K) (kZ ta (kZ (tC (.ty c.name)) rE))) (iK c fa):=λW ρ σ H Q e h=>by
 refine ha W ρ σ H _ e (Rs.bG (Rs.bh h) λp h x H1 e1 s1 v1=>?_)
 obtain⟨a,k1,h⟩:=dh (Rs.bh h) (j6 _ _)
 have r:=j5 e1 e.wn v1.1 k1
 rw[hK]at r
 exact⟨x,a,c,rfl,r.rep.toK,h _ H1 e1 s1 (.low (.bl _))⟩
end
end L2
end
section
namespace L2
open PySem PySem.Spec PyProof.Rows
inductive Fl where
 |nx|rt (T:Tr) (fr:Bool)|bk|ct
abbrev SF:=En->Rs (Fl × En)
def iC(W:Addr->Prop)(H:Hp)(W':Addr->Prop)(H':Hp):Prop:=∀b o,¬W b->H b=some o->¬W' b/\H' b=some o
theorem iC.refl(W:Addr->Prop)(H:Hp):iC W H W H:=λ_ _ n h=>⟨n,h⟩
theorem iC.trans{W W1 W2:Addr->Prop}{H H1 H2:Hp}(a:iC W H W1 H1)(b:iC W1 H1 W2 H2):iC W H W2 H2:=λc o n h=>by
 obtain⟨n1,h1⟩:=a c o n h
 exact b c o n1 h1
theorem bT.nxt{W:Addr->Prop}{H H':Hp}(s:bT W H H'):iC W H W H':=λb o n h=>⟨n,s.keep b o n h⟩
theorem iC.same{W W':Addr->Prop}{H H':Hp}(a:iC W H W' H'):Same (aO W H) (aO W' H'):=λb o h=>by
 obtain⟨n,h⟩:=ji h
 obtain⟨n',h'⟩:=a b o n h
 rw[fK n']
 exact h'
def VR(t:Tx)(H':Hp)(v:V)(T:Tr):Bool->Prop
 |false=>Rep t.K (aO t.Z H') v T
 |true=>∃a xs ts,v=.ref a/\T=.lst ts/\t.H0 a=none/\H' a=some (.lst xs)/\aR t.K (off a (aO t.Z H')) xs ts
noncomputable def oU(t:Tx)(W:Addr->Prop)(H:Hp)(D:Ends)(p:Fl × En):Prop:=match p.1 with
 |.nx=>∀W' σ' H',aV t W' p.2 σ' H'->iC W H W' H'->D.nx σ' H'
 |.rt T fr=>∀v W' σ' H',aV t W' p.2 σ' H'->VR t H' v T fr->D.rt v H'
 |.bk=>∀W' σ' H',aV t W' p.2 σ' H'->iC W H W' H'->D.bk σ' H'
 |.ct=>∀W' σ' H',aV t W' p.2 σ' H'->iC W H W' H'->D.ct σ' H'
def SS(t:Tx)(ts:TS)(f:SF):Prop:=∀W ρ σ H D,aV t W ρ σ H->(f ρ).post t.EX (oU t W H D)->ts D σ H
theorem oU.back{t:Tx}{W W':Addr->Prop}{H H':Hp}{D:Ends}{p:Fl × En}(h:oU t W H D p)(n:iC W H W' H'):oU t W' H' D p:=by
 obtain⟨fl,ρ⟩:=p
 cases fl with
 |nx=>exact λW2 σ2 H2 e m=>h W2 σ2 H2 e (n.trans m)
 |rt T fr=>exact h
 |bk=>exact λW2 σ2 H2 e m=>h W2 σ2 H2 e (n.trans m)
 |ct=>exact λW2 σ2 H2 e m=>h W2 σ2 H2 e (n.trans m)
section
variable {t:Tx}
def bW:SF:=λρ=>.ok (.nx,ρ)
theorem m5:SS t Qe bW:=λW ρ σ H D e h=>h W σ H e (iC.refl _ _)
def aG(f g:SF):SF:=λρ=>(f ρ).bind λp=>match p.1 with
 |.nx=>g p.2
 |fl=>.ok (fl,p.2)
theorem iD{ta tb:TS}{f g:SF}(h1:SS t ta f)(h2:SS t tb g):SS t (Qf ta tb) (aG f g):=λW ρ σ H D e h=>by
 refine h1 W ρ σ H _ e (Rs.bG (Rs.bh h) λp h=>?_)
 obtain⟨fl,ρ1⟩:=p
 cases fl with
 |nx=>exact λW1 σ1 H1 e1 n1=>h2 W1 ρ1 σ1 H1 D e1 (Rs.bG h λq h=>h.back n1)
 |rt T fr=>exact h
 |bk=>exact h
 |ct=>exact h
theorem get_set{α : Type}{l:List α}{i j:Nat}{a b : α}(h:(l.set i a)[j]?=some b):(j=i/\b=a/\i<l.length)\/(j≠i/\l[j]?=some b):=by
 by_cases e:i=j
 ·subst e
  rw[List.getElem?_set_self']at h
  cases q:l[i]? with
  |none=>rw[q]at h; cases h
  |some c =>
   rw[q]at h
   cases h
   exact .inl ⟨rfl,rfl,(List.getElem?_eq_some_iff.mp q).1⟩
 ·rw[List.getElem?_set_ne e]at h
  exact .inr ⟨Ne.symm e,h⟩
theorem ux{α : Type}{l:List α}{i:Nat}{a : α}(h:i<l.length):(l.set i a)[i]?=some a:=by
 rw[List.getElem?_set_self' ,List.getElem?_eq_getElem h]
 rfl
theorem aV.Jq{W:Addr->Prop}{ρ : En}{σ : St}{H:Hp}{i:Nat}{v:V}{T:Tr}(e:aV t W ρ σ H)(r:Rep t.K (aO W H) v T):aV t W (ρ.set i (.sh T)) (σ.set i (some v)) H:=by
 have mu:∀j,Mu (ρ.set i (.sh T)) j->j≠i/\Mu ρ j:=λj h=>by
  obtain⟨ts,h|h⟩:=h <;> rcases get_set h with⟨rfl,z,_⟩|⟨ne,h⟩
  ·cases z
  ·exact⟨ne,ts,.inl h⟩
  ·cases z
  ·exact⟨ne,ts,.inr h⟩
 have gQ:∀j us,(ρ.set i (.sh T))[j]?=some (.dp us)->j≠i/\ρ[j]?=some (.dp us):=λj us h=>by
  rcases get_set h with⟨rfl,z,_⟩|⟨ne,h⟩
  ·cases z
  ·exact⟨ne,h⟩
 obtain⟨F,e⟩:=e
 refine⟨F,by rw[List.length_set,List.length_set]; exact e.len,e.zw,e.z0,e.wl,e.f0,e.n0,λj u h=>?_,λj ts h=>?_,λj ts h=>?_,λj k a h1 h2 q1 q2=>?_,e.pn,λj a m q=>e.pd j a (mu j m).2 (by rw[List.getElem?_set_ne (Ne.symm (mu j m).1)]at q; exact q),
  λj us h=>?_,λj k us ws n h1 h2=>e.dd j k us ws n (gQ j us h1).2 (gQ k ws h2).2,λj k us c h1 m q=>e.dm j k us c (gQ j us h1).2 (mu k m).2 (by rw[List.getElem?_set_ne (Ne.symm (mu k m).1)]at q; exact q),λj us h=>e.db j us (gQ j us h).2,e.tab⟩
 ·rcases get_set h with⟨rfl,z,l⟩|⟨ne,h⟩
  ·cases z
   exact⟨v,ux (by rw[<-e.len]; exact l),r⟩
  ·obtain⟨w,h1,h2⟩:=e.sh j u h
   exact⟨w,by rw[List.getElem?_set_ne (Ne.symm ne)]; exact h1,h2⟩
 ·rcases get_set h with⟨rfl,z,l⟩|⟨ne,h⟩
  ·cases z
  ·obtain⟨a,xs,h1,h2⟩:=e.ow j ts h
   exact⟨a,xs,by rw[List.getElem?_set_ne (Ne.symm ne)]; exact h1,h2⟩
 ·rcases get_set h with⟨rfl,z,l⟩|⟨ne,h⟩
  ·cases z
  ·obtain⟨a,xs,h1,h2⟩:=e.rf j ts h
   exact⟨a,xs,by rw[List.getElem?_set_ne (Ne.symm ne)]; exact h1,h2⟩
 ·obtain⟨n1,m1⟩:=mu j h1
  obtain⟨n2,m2⟩:=mu k h2
  rw[List.getElem?_set_ne (Ne.symm n1)]at q1
  rw[List.getElem?_set_ne (Ne.symm n2)]at q2
  exact e.dis j k a m1 m2 q1 q2
 ·obtain⟨ne,h⟩:=gQ j us h
  obtain⟨c,ys,h1,d⟩:=e.dp j us h
  exact⟨c,ys,by rw[List.getElem?_set_ne (Ne.symm ne)]; exact h1,d⟩
theorem aV.addr{W:Addr->Prop}{ρ : En}{σ : St}{H:Hp}{i:Nat}{a:Addr}(e:aV t W ρ σ H)(m:Mu ρ i)(q : σ[i]?=some (some (.ref a))):W a:=by
 obtain⟨ts,h|h⟩:=m
 ·obtain⟨b,xs,h1,h2,_⟩:=e.ow i ts h
  rw[q]at h1
  cases h1
  exact h2
 ·obtain⟨b,xs,h1,h2,_⟩:=e.rf i ts h
  rw[q]at h1
  cases h1
  exact h2
theorem aV.abW{W:Addr->Prop}{ρ : En}{σ : St}{H:Hp}{i:Nat}{a:Addr}{xs:List V}{ts:List Tr}(e0:aV t W ρ σ H)(nw:¬W a)(e:p7 t W a ρ σ H)(h0:t.H0 a=none)(hB:t.B a=none)(ha:H a=some (.lst xs))(r:aR t.K (off a (aO W H)) xs ts) :
  aV t (λb=>W b\/b=a) (ρ.set i (.ow ts)) (σ.set i (some (.ref a))) H:=by
 have mu:∀j,Mu (ρ.set i (.ow ts)) j->j=i\/(j≠i/\Mu ρ j):=λj h=>by
  obtain⟨ts,h|h⟩:=h <;> rcases get_set h with⟨rfl,z,_⟩|⟨ne,h⟩
  ·exact .inl rfl
  ·exact .inr ⟨ne,ts,.inl h⟩
  ·exact .inl rfl
  ·exact .inr ⟨ne,ts,.inr h⟩
 have m:Same (off a (aO W H)) (aO (λb=>W b\/b=a) H):=λb o q=>by
  obtain⟨ne,q⟩:=tY q
  obtain⟨n,q⟩:=ji q
  rw[fK]
  ·exact q
  ·rintro(z|z)
   ·exact n z
   ·exact ne z
 have gQ:∀j us,(ρ.set i (.ow ts))[j]?=some (.dp us)->j≠i/\ρ[j]?=some (.dp us):=λj us h=>by
  rcases get_set h with⟨rfl,z,_⟩|⟨ne,h⟩
  ·cases z
  ·exact⟨ne,h⟩
 obtain⟨F,e,na⟩:=e
 refine⟨F,by rw[List.length_set,List.length_set]; exact e.len,e.zw,e.z0,e.wl,e.f0,e.n0,λj u h=>?_,λj us h=>?_,λj us h=>?_,λj k c h1 h2 q1 q2=>?_,e.pn,λj c m q=>?_,
  λj us h=>?_,λj k us ws n h1 h2=>e.dd j k us ws n (gQ j us h1).2 (gQ k ws h2).2,λj k us c h1 m q=>?_,λj us h=>e.db j us (gQ j us h).2,e.tab⟩
 ·rcases get_set h with⟨rfl,z,l⟩|⟨ne,h⟩
  ·cases z
  ·obtain⟨w,h1,h2⟩:=e.sh j u h
   exact⟨w,by rw[List.getElem?_set_ne (Ne.symm ne)]; exact h1,h2⟩
 ·rcases get_set h with⟨rfl,z,l⟩|⟨ne,h⟩
  ·cases z
   exact⟨a,xs,ux (by rw[<-e.len]; exact l),.inr rfl,h0,ha,r.mono m⟩
  ·obtain⟨c,ys,h1,h2⟩:=e.ow j us h
   exact⟨c,ys,by rw[List.getElem?_set_ne (Ne.symm ne)]; exact h1,h2⟩
 ·rcases get_set h with⟨rfl,z,l⟩|⟨ne,h⟩
  ·cases z
  ·obtain⟨c,ys,h1,h2⟩:=e.rf j us h
   exact⟨c,ys,by rw[List.getElem?_set_ne (Ne.symm ne)]; exact h1,h2⟩
 ·have old:∀j,j≠i->Mu ρ j->(σ.set i (some (.ref a)))[j]? ≠ some (some (.ref a)):=λj ne m q=>by
   rw[List.getElem?_set_ne (Ne.symm ne)]at q
   exact nw (e0.addr m q)
  have self:∀c,(σ.set i (some (V.ref a)))[i]?=some (some (.ref c))->c=a:=λc q=>by
   rcases get_set q with⟨_,z,_⟩|⟨ne,_⟩
   ·cases z; rfl
   ·exact absurd rfl ne
  rcases mu j h1 with rfl|⟨n1,m1⟩ <;> rcases mu k h2 with rfl|⟨n2,m2⟩
  ·rfl
  ·have:=self c q1
   subst this
   exact(old k n2 m2 q2).elim
  ·have:=self c q2
   subst this
   exact(old j n1 m1 q1).elim
  ·rw[List.getElem?_set_ne (Ne.symm n1)]at q1
   rw[List.getElem?_set_ne (Ne.symm n2)]at q2
   exact e.dis j k c m1 m2 q1 q2
 ·rcases mu j m with rfl|⟨n1,m1⟩
  ·rcases get_set q with⟨_,z,_⟩|⟨ne,_⟩
   ·cases z; exact hB
   ·exact absurd rfl ne
  ·rw[List.getElem?_set_ne (Ne.symm n1)]at q
   exact e.pd j c m1 q
 ·obtain⟨ne,h⟩:=gQ j us h
  obtain⟨c,ys,h1,d⟩:=e.dp j us h
  exact⟨c,ys,by rw[List.getElem?_set_ne (Ne.symm ne)]; exact h1,d⟩
 ·obtain⟨nj,hj⟩:=gQ j us h1
  rcases mu k m with rfl|⟨n2,m2⟩
  ·rcases get_set q with⟨_,z,_⟩|⟨nk,_⟩
   ·cases z
    exact na j us hj
   ·exact absurd rfl nk
  ·rw[List.getElem?_set_ne (Ne.symm n2)]at q
   exact e.dm j k us c hj m2 q
theorem aV.Di{W:Addr->Prop}{ρ : En}{σ : St}{H:Hp}{a:Addr}(e:aV t W ρ σ H)(n:H a=none):t.B a=none:=by
 cases q:t.B a with
 |none=>rfl
 |some o=>rw[e.pn a o q]at n; cases n
abbrev GF:=Tr->En->Rs En
def SG(t:Tx)(g:TG)(f:GF)(js:List Nat):Prop:=∀W ρ σ H v T Q,aV t W ρ σ H->Rep t.K (aO W H) v T->(f T ρ).post (λ_=>False) (λρ'=>∀σ',aV t W ρ' σ' H->(∀k,k∉js -> σ'[k]?=σ[k]?)->Q σ' H)->g v σ H Q
def gN(i:Nat):GF:=λT ρ=>.ok (ρ.set i (.sh T))
theorem fX(i:Nat):SG t (dW i) (gN i) [i]:=λW ρ σ H v T Q e r h=>h _ (e.Jq r) λk n=>List.getElem?_set_ne (λz=>n (by rw[z]; exact List.mem_singleton.mpr rfl))
abbrev m6:=List Tr->En->Rs En
def Dj(t:Tx)(g:oh)(f:m6)(js:List Nat):Prop:=∀W ρ σ H vs Ts Q,aV t W ρ σ H->aR t.K (aO W H) vs Ts->(f Ts ρ).post (λ_=>False) (λρ'=>∀σ',aV t W ρ' σ' H->(∀k,k∉js -> σ'[k]?=σ[k]?)->Q σ' H)->g vs σ H Q
def dD:m6:=λTs ρ=>match Ts with
 | []=>.ok ρ
 |_=>.bad
def bL(f:GF)(g:m6):m6:=λTs ρ=>match Ts with
 |T::r=>(f T ρ).bind λρ'=>g r ρ'
 | []=>.bad
theorem S5:Dj t vO dD []:=λW ρ σ H vs Ts Q e r h=>by
 cases r with
 |nil=>exact⟨rfl,h σ e λ_ _=>rfl⟩
 |cons _ _=>exact h.elim
theorem zm{g:TG}{u:oh}{f:GF}{fs:m6}{js ks:List Nat}(h1:SG t g f js)(h2:Dj t u fs ks):Dj t (oA g u) (bL f fs) (js++ks):=λW ρ σ H vs Ts Q e r h=>by
 cases r with
 |nil=>exact h.elim
 | @cons x T xs Ts r1 r2 =>
  refine⟨x,xs,rfl,h1 W ρ σ H x T _ e r1 (Rs.bG (Rs.bh h) λρ' h σ' e' n1=>?_)⟩
  refine h2 W ρ' σ' H xs Ts _ e' r2 (Rs.bG h λρ2 h σ2 e2 n2=>h σ2 e2 λk n=>?_)
  rw[List.mem_append,not_or]at n
  rw[n2 k n.2,n1 k n.1]
def gT(n:Nat)(f:m6):GF:=λT ρ=>match T with
 |.tup Ts=>if Ts.length=n then f Ts ρ else .bad
 |_=>.bad
theorem S6{K:FZ}(hK:t.K=aJ K){n:Nat}{u:oh}{fs:m6}{js:List Nat}(h2:Dj t u fs js):SG t (vP K n u) (gT n fs) js:=λW ρ σ H v T Q e r h=>by
 cases T <;> try exact h.elim
 rename_i Ts
 dsimp only[gT]at h
 split at h
 ·rename_i c
  cases r with
  | @tup a xs _ q r =>
   have q':=(iZ W H).vY q
   rw[hK]at q'
   exact⟨a,xs,rfl,q'.toK,by rw[r.length]; exact c,h2 W ρ σ H xs Ts Q e r h⟩
 ·exact h.elim
def aW(f:EF)(g:GF):SF:=λρ=>(f ρ).bind λp=>match p.1 with
 |.v T _=>(g T p.2).bind λρ'=>.ok (.nx,ρ')
 |.s _=>.bad
theorem j8{te:TE}{g:TG}{f:EF}{gf:GF}{js:List Nat}(h1:SE t te f)(h2:SG t g gf js)(ng:∀T ρ c,gf T ρ ≠ .ex c):SS t (lN te g) (aW f gf):=λW ρ σ H D e h=>by
 refine h1 W ρ σ H _ e (Rs.bG (Rs.bh h) λp h v H1 e1 s1 v1=>?_)
 obtain⟨r,ρ1⟩:=p
 cases r with
 |s i=>exact h.elim
 |v T fr=>exact h2 W ρ1 σ H1 v T _ e1 (v1.1.rep e.wn) (Rs.bG (jK (Rs.bh h) (ng T ρ1)) λρ' h σ' e' _=>h W σ' H1 e' s1.nxt)
def j9(i:Nat)(f:EF):SF:=λρ=>(f ρ).bind λp=>match p.1 with
 |.v (.lst ts) true=>.ok (.nx,p.2.set i (.ow ts))
 |_=>.bad
theorem abX{te:TE}{f:EF}(i:Nat)(h1:SE t te f):SS t (lN te (dW i)) (j9 i f):=λW ρ σ H D e h=>by
 refine h1 W ρ σ H _ e (Rs.bG (Rs.bh h) λp h v H1 e1 s1 v1=>?_)
 obtain⟨r,ρ1⟩:=p
 dsimp only at h
 split at h
 ·rename_i ts
  obtain⟨⟨a,xs,us,rfl,z,n,q,rr⟩,he⟩:=v1
  cases z
  have nw:¬W a:=λw=>e.wn a w n
  refine h _ _ H1 (e1.abW nw (he _ a rfl rfl) (e.n0 a n) (e.Di n) q rr) λb o nb hb=>⟨?_,s1.keep b o nb hb⟩
  rintro(z|rfl)
  ·exact nb z
  ·rw[n]at hb; cases hb
 ·exact h.elim
def jw(f:EF):SF:=λρ=>(f ρ).bind λp=>.ok (.nx,p.2)
theorem S7{te:TE}{f:EF}(h1:SE t te f):SS t (Hl te) (jw f):=λW ρ σ H D e h =>
 h1 W ρ σ H _ e (Rs.bG (Rs.bh h) λp h v H1 e1 s1 v1=>h W σ H1 e1 s1.nxt)
def aY(f:EF):SF:=λρ=>(f ρ).bind λp=>match p.1 with
 |.v T fr=>.ok (.rt T fr,p.2)
 |.s i=>match p.2[i]? with
  |some (.ow ts)=>.ok (.rt (.lst ts) true,p.2)
  |_=>.bad
theorem Dk{W:Addr->Prop}{ρ : En}{σ : St}{H:Hp}(e:aV t W ρ σ H):Same (aO W H) (aO t.Z H):=oK (λb _ _ z=>e.zw b z) λ_ _ _ h=>h
theorem oV{te:TE}{f:EF}(h1:SE t te f):SS t (Qg te) (aY f):=λW ρ σ H D e h=>by
 refine h1 W ρ σ H _ e (Rs.bG (Rs.bh h) λp h v H1 e1 s1 v1=>?_)
 obtain⟨r,ρ1⟩:=p
 cases r with
 |v T fr =>
  refine h v W σ H1 e1 ?_
  cases fr with
  |false=>exact Rep.mono (Dk e1) v1.1
  |true =>
   obtain⟨a,xs,us,rfl,z,n,q,rr⟩:=v1.1
   refine⟨a,xs,us,rfl,z,e.n0 a n,q,rr.mono λb o q=>?_⟩
   obtain⟨ne,q⟩:=tY q
   rw[off_ne ne]
   exact Dk e1 b o q
 |s i =>
  dsimp only at h
  split at h
  ·rename_i ts q
   obtain⟨a,xs,h1,h2,h3,h4,h5⟩:=e1.ow i ts q
   have ev : σ[i]?=some (some v):=v1.1
   rw[ev]at h1
   cases h1
   refine h _ W σ H1 e1 ⟨a,xs,ts,rfl,rfl,h3,h4,h5.mono λb o q=>?_⟩
   have ne:b≠a:=λz=>by subst z; rw[CW h2]at q; cases q
   rw[off_ne ne]
   exact Dk e1 b o q
  ·exact h.elim
def bY(c:BF)(f g:SF):SF:=λρ=>(c ρ).bind λp=>if p.1=true then f p.2 else g p.2
theorem m7{tc:TT}{ta tb:TS}{c:BF}{f g:SF}(hc:ST t tc c)(ha:SS t ta f)(hb:SS t tb g):SS t (Qh tc ta tb) (bY c f g):=λW ρ σ H D e h=>by
 refine hc W ρ σ H _ e (Rs.bG (Rs.bh h) λp h H1 e1 s1=>?_)
 split at h
 ·rename_i d
  refine if_pos d▸ha W p.2 σ H1 D e1 (Rs.bG h λq h=>h.back s1.nxt)
 ·rename_i d
  refine if_neg d▸hb W p.2 σ H1 D e1 (Rs.bG h λq h=>h.back s1.nxt)
def ig(i:Nat)(ρ : En):En:=match ρ[i]? with
 |some (.ow ts)=>ρ.set i (.sh (.lst ts))
 |_=>ρ
end
end L2
end
section
namespace L2
open PySem PySem.Spec PyProof.Rows
section
variable {t:Tx}
def abY(i:Nat)(f:SF):SF:=λρ=>f (ig i ρ)
def m8(c:BF)(b:SF):Nat->SF
 | 0=>λ_=>.bad
 | n + 1=>λρ => (c ρ).bind λp=>if p.1=true then (b p.2).bind λq=>(match q.1 with
  |.nx=>m8 c b n q.2
  |.ct=>m8 c b n q.2
  |.bk=>.ok (.nx,q.2)
  |.rt T fr=>.ok (.rt T fr,q.2))else .ok (.nx,p.2)
def jE(fu:En->Nat)(c:BF)(b:SF):SF:=λρ=>m8 c b (fu ρ) ρ
theorem abZ{tc:TT}{tb:TS}{c:BF}{b:SF}(fu:En->Nat)(hc:ST t tc c)(hb:SS t tb b):SS t (Qn tc tb) (jE fu c b):=λW ρ σ H D e h=>by
 refine⟨λm σ' H'=>∃ρ' W',aV t W' ρ' σ' H'/\(m8 c b m ρ').post t.EX (oU t W' H' D),⟨fu ρ,ρ,W,e,h⟩,?_⟩
 rintro m σ1 H1 ⟨ρ1,W1,e1,h1⟩
 cases m with
 |zero=>exact h1.elim
 |succ n =>
  refine hc W1 ρ1 σ1 H1 _ e1 (Rs.bG (Rs.bh h1) λp h H2 e2 s2=>?_)
  split at h
  ·rename_i d
   rw[if_pos d]
   refine⟨λσ' H'=>∃ρ' W',aV t W' ρ' σ' H'/\(m8 c b n ρ').post t.EX (oU t W' H' D),λσ' H' q=>⟨n,Nat.lt_succ_self n,q⟩,?_⟩
   refine hb W1 p.2 σ1 H2 _ e2 (Rs.bG (Rs.bh h) λq h=>?_)
   obtain⟨fl,ρ3⟩:=q
   cases fl with
   |nx=>exact λW3 σ3 H3 e3 n3=>⟨ρ3,W3,e3,Rs.bG h λr h=>h.back (s2.nxt.trans n3)⟩
   |ct=>exact λW3 σ3 H3 e3 n3=>⟨ρ3,W3,e3,Rs.bG h λr h=>h.back (s2.nxt.trans n3)⟩
   |bk=>exact λW3 σ3 H3 e3 n3=>h W3 σ3 H3 e3 (s2.nxt.trans n3)
   |rt T fr=>exact h
  ·rename_i d
   rw[if_neg d]
   exact h W1 σ1 H2 e2 s2.nxt
def wI(K:FZ)(W:Addr->Prop)(H:Hp)(J:It)(us:List Tr):Prop:=∀W' H',Same (aO W H) (aO W' H')->(∀b,W' b->Lt H' b)->∀i,(i=us.length->J.stop i H')/\∀u,us[i]?=some u->J.go i H'/\∀x fW,J.vR i H' x fW->Same H' fW/\Rep K (aO W' fW) x u
abbrev IF:=En->Rs (List Tr × En)
def SI(t:Tx)(wi:TI)(f:IF):Prop:=∀W ρ σ H R,aV t W ρ σ H->(f ρ).post t.EX (λp=>∀J H',aV t W p.2 σ H'->bT W H H'->wI t.K W H' J p.1->R J H')->wi σ H R
def cM(g:GF)(b:SF):List Tr->SF
 | []=>λρ=>.ok (.nx,ρ)
 | u :: us=>λρ => (g u ρ).bind λρ1=>(b ρ1).bind λq=>(match q.1 with
  |.nx=>cM g b us q.2
  |.ct=>cM g b us q.2
  |.bk=>.ok (.nx,q.2)
  |.rt T fr=>.ok (.rt T fr,q.2))
def cO(fi:IF)(g:GF)(b:SF):SF:=λρ=>(fi ρ).bind λp=>cM g b p.1 p.2
theorem S8{wi:TI}{g:TG}{tb:TS}{fi:IF}{gf:GF}{b:SF}{js:List Nat}(hi:SI t wi fi)(hg:SG t g gf js)(ng:∀T ρ c,gf T ρ ≠ .ex c)(hb:SS t tb b):SS t (Qq wi g tb) (cO fi gf b):=λW ρ σ H D e h=>by
 refine hi W ρ σ H _ e (Rs.bG (Rs.bh h) λp h J H1 e1 s1 it=>?_)
 obtain⟨us,ρ1⟩:=p
 dsimp only at h it e1
 refine⟨λi m σ' H'=>m=us.length-i/\i<=us.length/\∃ρ' W',aV t W' ρ' σ' H'/\iC W H1 W' H'/\(cM gf b (us.drop i) ρ').post t.EX (oU t W' H' D),⟨us.length,by simp,Nat.zero_le _,ρ1,W,e1,iC.refl _ _,by rw[List.drop_zero]; exact Rs.bG h λr h=>h.back s1.nxt⟩,?_⟩
 rintro i m σ2 H2 ⟨rfl,hi,ρ2,W2,e2,n2,h2⟩
 have q:=it W2 H2 n2.same e2.wl i
 by_cases hlt:i<us.length
 ·rw[List.drop_eq_getElem_cons hlt]at h2
  obtain⟨go,y⟩:=q.2 us[i] (by simp[hlt])
  refine .inr ⟨go,λσ' H'=>∃ρ' W',aV t W' ρ' σ' H'/\iC W H1 W' H'/\(cM gf b (us.drop (i+1)) ρ').post t.EX (oU t W' H' D),λσ' H' z=>⟨us.length-(i+1),by omega,rfl,hlt,z⟩,λx H3 yl=>?_⟩
  obtain⟨s3,r3⟩:=y x H3 yl
  have e3:=e2.grow s3
  have n3:iC W H1 W2 H3:=n2.trans (bT.of s3).nxt
  refine hg W2 ρ2 σ2 H3 x us[i] _ e3 r3 (Rs.bG (jK (Rs.bh h2) (ng _ _)) λρ4 h σ4 e4 _=>?_)
  refine hb W2 ρ4 σ4 H3 _ e4 (Rs.bG (Rs.bh h) λr h=>?_)
  obtain⟨fl,ρ5⟩:=r
  cases fl with
  |nx=>exact λW5 σ5 H5 e5 n5=>⟨ρ5,W5,e5,n3.trans n5,Rs.bG h λr h=>h.back ((bT.of s3).nxt.trans n5)⟩
  |ct=>exact λW5 σ5 H5 e5 n5=>⟨ρ5,W5,e5,n3.trans n5,Rs.bG h λr h=>h.back ((bT.of s3).nxt.trans n5)⟩
  |bk=>exact λW5 σ5 H5 e5 n5=>h W5 σ5 H5 e5 ((bT.of s3).nxt.trans n5)
  |rt T fr=>exact h
 ·have z:i=us.length:=by omega
  subst z
  rw[List.drop_length]at h2
  exact .inl ⟨q.1 rfl,h2 W2 σ2 H2 e2 (iC.refl _ _)⟩
def Jr(K:FZ)(tl:TE):TI:=λσ H R=>Qo K tl σ H R\/Qp K tl σ H R
theorem gC{X:Cx}{tg l:Expr}{tl:TE}(hl:PE X l tl):PI X tg l (Jr X.K tl):=λpins s σ H R I h=>by
 rcases h with h|h
 ·exact Zx hl pins s σ H R I h
 ·exact Zy hl pins s σ H R I h
def oW:Rv->Rs (List Tr × Bool)
 |.v (.lst ts) _=>.ok (ts,true)
 |.v (.tup ts) _=>.ok (ts,false)
 |_=>.bad
def bQ(f:EF):IF:=λρ=>(f ρ).bind λp=>(oW p.1).bind λz=>.ok (z.1,p.2)
theorem ab0{K:FZ}{W:Addr->Prop}{H:Hp}{a:Addr}{xs:List V}{us:List Tr}(q:cJ (aJ K) (aO W H) a xs)(r:aR (aJ K) (aO W H) xs us):wI (aJ K) W H (Hu K a) us:=λW' H' m hw i=>by
 have q':cJ K H' a xs:=((iZ W' H').seq (m.seq q)).toK
 refine⟨λz=>⟨xs,q',by rw[r.length]; omega⟩,λu hu=>?_⟩
 obtain⟨x,hx,rx⟩:=r.rQ hu
 refine⟨⟨xs,x,q',hx⟩,λy fW yl=>?_⟩
 obtain⟨rfl,z⟩:=yl
 have:=z xs q'
 rw[hx]at this
 cases this
 exact⟨Same.refl _,rx.mono m⟩
theorem ab1{K:FZ}{W:Addr->Prop}{H:Hp}{a:Addr}{xs:List V}{us:List Tr}(q:dN (aJ K) (aO W H) a xs)(r:aR (aJ K) (aO W H) xs us):wI (aJ K) W H (Hv K a) us:=λW' H' m hw i=>by
 have q':dN K H' a xs:=((iZ W' H').vY (m.vY q)).toK
 refine⟨λz=>⟨xs,q',by rw[r.length]; omega⟩,λu hu=>?_⟩
 obtain⟨x,hx,rx⟩:=r.rQ hu
 refine⟨⟨xs,x,q',hx⟩,λy fW yl=>?_⟩
 obtain⟨rfl,z⟩:=yl
 have:=z xs q'
 rw[hx]at this
 cases this
 exact⟨Same.refl _,rx.mono m⟩
theorem uy{K:FZ}(hK:t.K=aJ K){tl:TE}{f:EF}(h1:SE t tl f):SI t (Jr K tl) (bQ f):=λW ρ σ H R e h=>by
 have h:=Rs.bh h
 have key:∀b:Bool,(f ρ).post t.EX (λp=>∃us,oW p.1=.ok (us,b)/\∀J H',aV t W p.2 σ H'->bT W H H'->wI t.K W H' J us->R J H')->Jr K tl σ H R:=λb h=>by
  cases b with
  |true =>
   refine .inl (h1 W ρ σ H _ e (Rs.bG h λp h v H1 e1 s1 v1=>?_))
   obtain⟨us,q,h⟩:=h
   obtain⟨r,ρ1⟩:=p
   cases r with
   |s i=>cases q
   |v T fr =>
    cases T <;> cases q
    have rr:=v1.1.rep e.wn
    cases rr with
    | @lst a xs _ q r =>
     refine⟨a,rfl,⟨xs,?_⟩,h _ H1 e1 s1 ?_⟩
     ·rw[hK]at q
      exact((iZ _ _).seq q).toK
     ·rw[hK]at q r ⊢
      exact ab0 q r
  |false =>
   refine .inr (h1 W ρ σ H _ e (Rs.bG h λp h v H1 e1 s1 v1=>?_))
   obtain⟨us,q,h⟩:=h
   obtain⟨r,ρ1⟩:=p
   cases r with
   |s i=>cases q
   |v T fr =>
    cases T <;> cases q
    have rr:=v1.1.rep e.wn
    cases rr with
    | @tup a xs _ q r =>
     refine⟨a,rfl,⟨xs,?_⟩,h _ H1 e1 s1 ?_⟩
     ·rw[hK]at q
      exact((iZ _ _).vY q).toK
     ·rw[hK]at q r ⊢
      exact ab1 q r
 cases k:f ρ with
 |bad=>rw[k]at h; exact h.elim
 |ex c =>
  refine key true ?_
  rw[k]at h ⊢
  exact h
 |ok p =>
  rw[k]at h
  have h:((oW p.1).bind _).post _ _:=h
  cases k2:oW p.1 with
  |bad=>rw[k2]at h; exact h.elim
  |ex c =>
   exfalso
   revert k2
   unfold oW
   split <;> (intro z; cases z)
  |ok z =>
   rw[k2]at h
   refine key z.2 ?_
   rw[k]
   exact⟨z.1,k2,h⟩
def upTo(lo:Int):Nat->List Tr
 | 0=>[]
 |n+1=>.int lo::upTo (lo+1) n
theorem ab2(lo:Int):∀n,(upTo lo n).length=n:=λn=>by
 induction n generalizing lo with
 |zero=>rfl
 |succ n ih=>rw[upTo,List.length_cons,ih]
theorem ab3{lo:Int}{n i:Nat}{u:Tr}(h:(upTo lo n)[i]?=some u):i<n/\u=.int (lo+i):=by
 induction n generalizing lo i with
 |zero=>simp[upTo]at h
 |succ n ih =>
  rw[upTo]at h
  cases i with
  |zero =>
   simp at h
   subst h
   exact⟨Nat.zero_lt_succ _,by simp⟩
  |succ i =>
   obtain⟨h1,h2⟩:=ih (lo:=lo+1) (i:=i) (by simpa using h)
   refine⟨Nat.succ_lt_succ h1,h2.trans ?_⟩
   congr 1
   omega
theorem ab4{K:FZ}{W:Addr->Prop}{H:Hp}(lo:Int)(n:Nat):wI K W H (Ca lo n) (upTo lo n):=λW' H' m hw i=>by
 refine⟨λz=>?_,λu hu=>?_⟩
 ·rw[ab2]at z
  exact Nat.le_of_eq z.symm
 ·obtain⟨h1,rfl⟩:=ab3 hu
  refine⟨h1,λx fW yl=>?_⟩
  obtain⟨rfl,rfl⟩:=yl
  exact⟨Same.refl _,.int _⟩
def okR(i:Int):Bool:=decide (-1000000<=i)&&decide (i<=1000000)
def fL(fa:AF):IF:=λρ=>(fa ρ).bind λp=>(drs p.2 p.1).bind λas=>match as with
 | [.int j]=>if okR j=true then .ok (upTo 0 j.toNat,p.2)else .bad
 |_=>.bad
theorem S9{ta:TA}{fa:AF}(ha:SA t ta fa):SI t (Hw ta) (fL fa):=λW ρ σ H R e h=>by
 refine ha W ρ σ H _ e (Rs.bG (Rs.bh h) λp h vs H1 e1 s1 v1=>?_)
 obtain⟨as,k1,h⟩:=dh (Rs.bh h) (yW _ _)
 have r:=Dh e1 e.wn v1 k1
 split at h
 ·rename_i j
  split at h
  ·rename_i c
   unfold okR at c
   rw[Bool.and_eq_true]at c
   have c1:=of_decide_eq_true c.1
   have c2:=of_decide_eq_true c.2
   cases r with
   |cons h1 r1 =>
    cases r1
    rw[h1.int]
    exact⟨j,rfl,by omega,by omega,h _ H1 e1 s1 (ab4 0 _)⟩
  ·exact h.elim
 ·exact h.elim
def ab5(fa:AF):IF:=λρ=>(fa ρ).bind λp=>(drs p.2 p.1).bind λas=>match as with
 | [.int i,.int j]=>if okR i=true/\okR j=true then .ok (upTo i (j-i).toNat,p.2)else .bad
 |_=>.bad
def con(ρ : En)(i:Nat):Rs (List Tr):=match ρ[i]? with
 |some (.ow ts)=>.ok ts
 |some (.rf ts)=>.ok ts
 |_=>.bad
theorem zp(ρ : En)(i:Nat)(c:Str):con ρ i ≠ .ex c:=by
 unfold con
 split <;> (intro z; cases z)
def cR(i:Nat)(us:List Tr)(ρ : En):En:=match ρ[i]? with
 |some (.ow _)=>ρ.set i (.ow us)
 |some (.rf _)=>ρ.set i (.rf us)
 |_=>ρ
theorem aV.con{W:Addr->Prop}{ρ : En}{σ : St}{H:Hp}{i:Nat}{ts:List Tr}(e:aV t W ρ σ H)(q:con ρ i=.ok ts):Mu ρ i/\∃a xs,σ[i]?=some (some (.ref a))/\W a/\H a=some (.lst xs)/\aR t.K (aO W H) xs ts/\(∀o,t.H0 a=some o->t.R a):=by
 unfold L2.con at q
 split at q
 ·rename_i us h
  cases q
  obtain⟨a,xs,h1,h2,h3,h4,h5⟩:=e.ow i ts h
  exact⟨⟨ts,.inl h⟩,a,xs,h1,h2,h4,h5,λo z=>by rw[h3]at z; cases z⟩
 ·rename_i us h
  cases q
  obtain⟨a,xs,h1,h2,h3,h4,h5⟩:=e.rf i ts h
  exact⟨⟨ts,.inr h⟩,a,xs,h1,h2,h4,h5,λo z=>h3⟩
 ·cases q
theorem oX{ρ : En}{i j:Nat}{us:List Tr}(h:Mu (cR i us ρ) j):Mu ρ j:=by
 unfold cR at h
 split at h
 ·rename_i ws q
  obtain⟨ts,h|h⟩:=h <;> rcases get_set h with⟨rfl,z,_⟩|⟨ne,h⟩
  ·exact⟨_,.inl q⟩
  ·exact⟨_,.inl h⟩
  ·exact⟨_,.inl q⟩
  ·exact⟨_,.inr h⟩
 ·rename_i ws q
  obtain⟨ts,h|h⟩:=h <;> rcases get_set h with⟨rfl,z,_⟩|⟨ne,h⟩
  ·exact⟨_,.inr q⟩
  ·exact⟨_,.inl h⟩
  ·exact⟨_,.inr q⟩
  ·exact⟨_,.inr h⟩
 ·exact h
theorem Js{ρ : En}{i:Nat}{us:List Tr}:(cR i us ρ).length = ρ.length:=by
 unfold cR
 split
 ·rw[List.length_set]
 ·rw[List.length_set]
 ·rfl
theorem oY{ρ : En}{i j:Nat}{us:List Tr}{s:Sl}(h:(cR i us ρ)[j]?=some s):(j≠i/\ρ[j]?=some s)\/(j=i/\((∃ts,ρ[i]?=some (.ow ts)/\s=.ow us)\/(∃ts,ρ[i]?=some (.rf ts)/\s=.rf us)\/(¬Mu ρ i/\ρ[i]?=some s))):=by
 unfold cR at h
 split at h
 ·rename_i ws q
  rcases get_set h with⟨rfl,z,_⟩|⟨ne,h⟩
  ·exact .inr ⟨rfl,.inl ⟨ws,q,z⟩⟩
  ·exact .inl ⟨ne,h⟩
 ·rename_i ws q
  rcases get_set h with⟨rfl,z,_⟩|⟨ne,h⟩
  ·exact .inr ⟨rfl,.inr (.inl ⟨ws,q,z⟩)⟩
  ·exact .inl ⟨ne,h⟩
 ·rename_i n1 n2
  by_cases e:j=i
  ·subst e
   refine .inr ⟨rfl,.inr (.inr ⟨?_,h⟩)⟩
   rintro⟨ts,z|z⟩
   ·exact n1 ts z
   ·exact n2 ts z
  ·exact .inl ⟨e,h⟩
theorem rW{ρ : En}{i j:Nat}{us ws:List Tr}(h:(cR i us ρ)[j]?=some (.dp ws)) : ρ[j]?=some (.dp ws):=by
 rcases oY h with⟨_,h⟩|⟨rfl,⟨_,_,z⟩|⟨_,_,z⟩|⟨_,h⟩⟩
 ·exact h
 ·cases z
 ·cases z
 ·exact h
theorem DR.lst{K:FZ}{G H:Hp}:∀{xs:List V} {ts:List Tr} {bs:List Addr},DR K G H xs ts bs->∀b∈bs,∃ys,H b=some (.lst ys)
 |_,_,_,.nil,_,h=>by cases h
 |_,_,_,.cl _ _ r,b,h=>DR.lst r b h
 |_,_,_,.rw q _ r,b,h=>by
  rcases List.mem_cons.mp h with rfl|h
  ·exact⟨_,q⟩
  ·exact DR.lst r b h
theorem rP.lst{t:Tx}{W:Addr->Prop}{H:Hp}{a:Addr}{xs:List V}{ts:List Tr}{fp:List Addr}(d:rP t W H a xs ts fp):∀b∈fp,∃ys,H b=some (.lst ys):=λb hb=>by
 obtain⟨bs,e,_,_,ha,r⟩:=d
 rw[e]at hb
 rcases List.mem_cons.mp hb with rfl|hb
 ·exact⟨_,ha⟩
 ·exact r.lst b hb
theorem rP.nt{t:Tx}{K:FZ}{W:Addr->Prop}{H:Hp}{a:Addr}{xs:List V}{ts:List Tr}{fp:List Addr}(d:rP t W H a xs ts fp)(tb:fC K H){b:Addr}(z:Tb K b)(hb:b∈fp):False:=by
 obtain⟨ys,e⟩:=d.lst b hb
 exact tb.ne z e rfl
theorem aV.Tc{W:Addr->Prop}{ρ : En}{σ : St}{H:Hp}{i:Nat}{a:Addr}(e:aV t W ρ σ H)(m:Mu ρ i)(q : σ[i]?=some (some (.ref a))):∃xs,H a=some (.lst xs):=by
 obtain⟨ts,h|h⟩:=m
 ·obtain⟨b,xs,h1,_,_,h4,_⟩:=e.ow i ts h
  rw[q]at h1
  cases h1
  exact⟨xs,h4⟩
 ·obtain⟨b,xs,h1,_,_,h4,_⟩:=e.rf i ts h
  rw[q]at h1
  cases h1
  exact⟨xs,h4⟩
theorem EOF.move{W W':Addr->Prop}{ρ : En}{σ : St}{H H':Hp}{i:Nat}{a:Addr}{xs:List V}{us:List Tr}{F:Nat->List Addr}(e:EOF t W ρ σ H F)(mi:Mu ρ i)(hi : σ[i]?=some (some (.ref a)))(m:Same (aO W H) (aO W' H'))(sub:∀b,W b->W' b)(wl:∀b,W' b->Lt H' b)
  (tb:fC t.K H') (fr:∀b o,H b=some o->b≠a->¬Tb t.K b->H' b=some o) (dom:∀b,H' b=none->H b=none) (h0:∀o,t.H0 a=some o->t.R a) (ha:H' a=some (.lst xs)) (r:aR t.K (aO W' H') xs us):EOF t W' (cR i us ρ) σ H' F:=by
 have ne:∀j c,j≠i->Mu ρ j -> σ[j]?=some (some (.ref c))->c≠a:=λj c n mj q z=>by
  subst z
  exact n (e.dis j i c mj mi q hi)
 have nt:∀{c:Addr} {ys:List V},H c=some (.lst ys)->¬Tb t.K c:=λq z=>e.tab.ok.ne z q rfl
 refine⟨by rw[Js]; exact e.len,λb z=>sub b (e.zw b z),e.z0,wl,λb o h n=>?_,λb h=>e.n0 b (dom b h),λj u h=>?_,λj ts h=>?_,λj ts h=>?_,λj k c h1 h2=>e.dis j k c (oX h1) (oX h2),λb o h=>fr b o (e.pn b o h) (λz=>by subst z; rw[e.pd i b mi hi]at h; cases h) (λz=>by rw[e.tab.B b z]at h; cases h),λj c m q=>e.pd j c (oX m) q,λj ws h=>?_,λj k ws zs n h1 h2=>e.dd j k ws zs n (rW h1) (rW h2),λj k ws c h1 m q=>e.dm j k ws c (rW h1) (oX m) q,λj ws h=>e.db j ws (rW h),⟨tb,λb z=>sub b (e.tab.w b z),e.tab.r,e.tab.B⟩⟩
 ·refine fr b o (e.f0 b o h n) (λz=>?_) λz=>n (e.tab.r b z)
  subst z
  exact n (h0 o h)
 ·rcases oY h with⟨n,h⟩|⟨rfl,⟨ts,q,z⟩|⟨ts,q,z⟩|⟨nm,h⟩⟩
  ·obtain⟨w,h1,h2⟩:=e.sh j u h
   exact⟨w,h1,h2.mono m⟩
  ·cases z
  ·cases z
  ·exact(nm mi).elim
 ·rcases oY h with⟨n,h⟩|⟨rfl,⟨ts',q,z⟩|⟨ts',q,z⟩|⟨nm,h⟩⟩
  ·obtain⟨c,ys,h1,h2,h3,h4,h5⟩:=e.ow j ts h
   exact⟨c,ys,h1,sub c h2,h3,fr c _ h4 (ne j c n ⟨ts,.inl h⟩ h1) (nt h4),h5.mono m⟩
  ·cases z
   obtain⟨c,ys,h1,h2,h3,h4,h5⟩:=e.ow j ts' q
   rw[hi]at h1
   cases h1
   exact⟨a,xs,hi,sub a h2,h3,ha,r⟩
  ·cases z
  ·exact(nm mi).elim
 ·rcases oY h with⟨n,h⟩|⟨rfl,⟨ts',q,z⟩|⟨ts',q,z⟩|⟨nm,h⟩⟩
  ·obtain⟨c,ys,h1,h2,h3,h4,h5⟩:=e.rf j ts h
   exact⟨c,ys,h1,sub c h2,h3,fr c _ h4 (ne j c n ⟨ts,.inr h⟩ h1) (nt h4),h5.mono m⟩
  ·cases z
  ·cases z
   obtain⟨c,ys,h1,h2,h3,h4,h5⟩:=e.rf j ts' q
   rw[hi]at h1
   cases h1
   exact⟨a,xs,hi,sub a h2,h3,ha,r⟩
  ·exact(nm mi).elim
 ·obtain⟨c,ys,h1,d⟩:=e.dp j ws (rW h)
  exact⟨c,ys,h1,d.move rfl rfl m (λb hb=>sub b (by obtain⟨_,_,_,ww,_⟩:=d; exact(ww b hb).1)) λb o hb q=>fr b o q (λz=>by subst z; exact e.dm j i ws b (rW h) mi hi hb) λz=>d.nt e.tab.ok z hb⟩
theorem aV.move{W W':Addr->Prop}{ρ : En}{σ : St}{H H':Hp}{i:Nat}{a:Addr}{xs:List V}{us:List Tr}(e:aV t W ρ σ H)(mi:Mu ρ i)(hi : σ[i]?=some (some (.ref a)))(m:Same (aO W H) (aO W' H'))(sub:∀b,W b->W' b)(wl:∀b,W' b->Lt H' b)
  (tb:fC t.K H') (fr:∀b o,H b=some o->b≠a->¬Tb t.K b->H' b=some o) (dom:∀b,H' b=none->H b=none) (h0:∀o,t.H0 a=some o->t.R a) (ha:H' a=some (.lst xs)) (r:aR t.K (aO W' H') xs us):aV t W' (cR i us ρ) σ H':=by
 obtain⟨F,e⟩:=e
 exact⟨F,e.move mi hi m sub wl tb fr dom h0 ha r⟩
theorem aV.put{W:Addr->Prop}{ρ : En}{σ : St}{H:Hp}{i:Nat}{a:Addr}{xs:List V}{us:List Tr}(e:aV t W ρ σ H)(mi:Mu ρ i)(hi : σ[i]?=some (some (.ref a)))(h0:∀o,t.H0 a=some o->t.R a)(r:aR t.K (aO W H) xs us):aV t W (cR i us ρ) σ (upd H a (.lst xs))/\bT W H (upd H a (.lst xs)):=by
 have w:=e.addr mi hi
 obtain⟨zs,hz⟩:=e.Tc mi hi
 refine⟨e.move mi hi (by rw[lu w]; exact Same.refl _) (λ_ h=>h) (λb z=>?_) (e.tab.ok.upd hz) (λb o h n _=>by rw[bB n]; exact h) (λb h=>?_) h0 dI (by rw[lu w]; exact r),⟨λb o n h=>?_,λb h=>?_⟩⟩
 ·by_cases q:b=a
  ·subst q; exact .inl ⟨xs,dI⟩
  ·unfold Lt; rw[bB q]; exact e.wl b z
 ·by_cases q:b=a
  ·subst q; rw[dI]at h; cases h
  ·rw[bB q]at h; exact h
 ·rw[bB (λz=>n (by rw[z]; exact w))]; exact h
 ·by_cases q:b=a
  ·subst q; rw[dI]at h; cases h
  ·rw[bB q]at h; exact h
abbrev GM:=List Tr->List Tr->Rs (List Tr × Tr)
noncomputable def Jt(r:V->List V->Hp->VK->Prop)(m:GM):Prop:=∀(K:FZ) (G:Hp) a xs ts vs as H Q ts' T,H a=some (.lst xs)->aR K G xs ts->aR K G vs as->m ts as=.ok (ts',T)->(∀xs' v,aR K G xs' ts'->Rep K G v T->Q v (upd H a (.lst xs')))->r (.ref a) vs H Q
def oZ(i:Nat)(m:GM)(fa:AF):EF:=λρ=>(con ρ i).bind λ_=>(fa ρ).bind λp=>(cls p.1).bind λas=>(con p.2 i).bind λts=>(m ts as).bind λz=>.ok (.v z.2 false,cR i z.1 p.2)
theorem Td{K:FZ}{r:V->List V->Hp->VK->Prop}{m:GM}{ta:TA}{fa:AF}(i:Nat)(hm:Jt r m)(ng:∀ts as c,m ts as ≠ .ex c)(ha:SA t ta fa):SE t (Cu K "list" r (jW i) ta) (oZ i m fa):=λW ρ σ H Q e h=>by
 obtain⟨us,k0,h⟩:=dh (Rs.bh h) (zp _ _)
 obtain⟨_,a,xs,hi,_,hx,_⟩:=e.con k0
 refine⟨_,hi,.inl ⟨rfl,xs,cJ.of hx⟩,?_⟩
 refine ha W ρ σ H _ e (Rs.bG (Rs.bh h) λp h vs H1 e1 s1 v1=>?_)
 obtain⟨as,k1,h⟩:=dh (Rs.bh h) (wz _)
 obtain⟨ts,k2,h⟩:=dh (Rs.bh h) (zp _ _)
 obtain⟨⟨ts',T⟩,k3,h⟩:=dh (Rs.bh h) (ng _ _)
 obtain⟨mi,a',ys,hi',w,hy,ry,h0⟩:=e1.con k2
 rw[hi]at hi'
 cases hi'
 refine hm t.K (aO W H1) a ys ts vs as H1 Q ts' T hy ry (wA e.wn v1 k1) k3 λxs' v r' rv=>?_
 obtain⟨e2,s2⟩:=e1.put mi hi h0 r'
 refine h v _ e2 (s1.trans s2) (.low ?_)
 rw[lu w]
 exact rv
def ab6(i:Nat)(m:GM):EF:=λρ=>(con ρ i).bind λts=>(m ts []).bind λz=>.ok (.v z.2 false,cR i z.1 ρ)
def rY:GM:=λts as=>match as with
 | [T]=>if ts.length<=100000 then .ok (ts++[T],.non)else .bad
 |_=>.bad
theorem ab7:Jt Ia rY:=λK G a xs ts vs as H Q ts' T hx r ra q h=>by
 unfold rY at q
 split at q
 ·rename_i U
  split at q
  ·rename_i c
   cases q
   cases ra with
   |cons h1 r1 =>
    cases r1
    exact⟨a,xs,_,rfl,rfl,hx,Nat.lt_of_le_of_lt (by rw[r.length]; exact c) (by decide),h _ _ (r.app (.cons h1 .nil)) .non⟩
  ·cases q
 ·cases q
theorem ab8(ts as:List Tr)(c:Str):rY ts as ≠ .ex c:=by
 unfold rY
 split <;> (try split) <;> (intro z; cases z)
theorem aR.set{K:FZ}{H:Hp}{v:V}{T:Tr}(h:Rep K H v T):∀{xs:List V} {ts:List Tr} (j:Nat),aR K H xs ts->aR K H (xs.set j v) (ts.set j T)
 |_,_,_,.nil=>.nil
 |_,_,0,.cons _ r=>.cons h r
 |_,_,j+1,.cons h1 r=>.cons h1 (aR.set h j r)
noncomputable def Dl(i:Nat)(fk fe:EF):SF:=λρ=>(fe ρ).bind λp=>(cls [p.1]).bind λTs=>(con p.2 i).bind λ_=>(fk p.2).bind λq=>(dr q.2 q.1).bind λkT=>(lW kT).bind λk=>(con q.2 i).bind λts=>match Ts,eH ts.length k with
 | [T],some j=>.ok (.nx,cR i (ts.set j T) q.2)
 |_,_=>.bad
theorem ab9{te ti:TE}{fk fe:EF}(i:Nat)(he:SE t te fe)(hk:SE t ti fk):SS t (lN te (Hq (jW i) ti HX)) (Dl i fk fe):=λW ρ σ H D e h=>by
 refine he W ρ σ H _ e (Rs.bG (Rs.bh h) λp h v H1 e1 s1 v1=>?_)
 obtain⟨Ts,k1,h⟩:=dh (Rs.bh h) (wz _)
 obtain⟨us,k2,h⟩:=dh (Rs.bh h) (zp _ _)
 obtain⟨_,a,xs,hi,_,hx,_⟩:=e1.con k2
 refine⟨_,hi,hk W p.2 σ H1 _ e1 (Rs.bG (Rs.bh h) λq h w H2 e2 s2 v2=>?_)⟩
 obtain⟨kT,k3,h⟩:=dh (Rs.bh h) (j6 _ _)
 obtain⟨k,k4,h⟩:=dh (Rs.bh h) (Sv _)
 obtain⟨ts,k5,h⟩:=dh (Rs.bh h) (zp _ _)
 obtain⟨mi,a',ys,hi',wa,hy,ry,h0⟩:=e2.con k5
 rw[hi]at hi'
 cases hi'
 have kk:∃T j,Ts=[T]/\eH ts.length k=some j/\oU t W H D (.nx,cR i (ts.set j T) q.2):=by
  cases Ts with
  |nil=>exact h.elim
  |cons T r =>
   cases r with
   |cons _ _=>exact h.elim
   |nil =>
    cases kj:eH ts.length k with
    |none=>rw[kj]at h; exact h.elim
    |some j=>rw[kj]at h; exact⟨T,j,rfl,rfl,h⟩
 obtain⟨T,j,rfl,k6,h⟩:=kk
 ·have rv:Rep t.K (aO W H2) v T:=by
   have r1:=wA (vs:=[v]) e.wn (.cons v1.1 .nil) k1
   cases r1 with
   |cons r1 _=>exact r1.mono s2.off
  obtain⟨e3,s3⟩:=e2.put mi hi h0 (ry.set rv j)
  refine⟨a,ys,k,j,rfl,Sw (j5 e2 e1.wn v2.1 k3) k4,hy,by rw[ry.length]; exact k6,h W σ _ e3 ?_⟩
  exact((s1.trans s2).trans s3).nxt
def acd(i:Nat)(p:Int->Int->Int)(f:EF):SF:=λρ=>match ρ[i]? with
 |some (.sh (.int x))=>(f ρ).bind λq=>(dr q.2 q.1).bind λyT=>(lW yT).bind λy=>.ok (.nx,q.2.set i (.sh (.int (p x y))))
 |_=>.bad
def zq(i j:Nat)(fa:AF):SF:=λρ=>(fa ρ).bind λp=>(cls p.1).bind λTs=>match Ts with
 | [T,U]=>.ok (.nx,(p.2.set i (.sh T)).set j (.sh U))
 |_=>.bad
theorem ace{ta:TA}{fa:AF}(i j:Nat)(ha:SA t ta fa):SS t (Ql i j ta) (zq i j fa):=λW ρ σ H D e h=>by
 refine ha W ρ σ H _ e (Rs.bG (Rs.bh h) λp h vs H1 e1 s1 v1=>?_)
 obtain⟨Ts,k1,h⟩:=dh (Rs.bh h) (wz _)
 have r:=wA e.wn v1 k1
 split at h
 ·cases r with
  |cons h1 r1 =>
   cases r1 with
   |cons h2 r2 =>
    cases r2
    exact⟨_,_,rfl,h W _ H1 ((e1.Jq h1).Jq h2) s1.nxt⟩
 ·exact h.elim
def rZ(c:Str)(f:EF):SF:=λρ=>(f ρ).bind λ_=>.ex c
def F0(t:Tx)(H':Hp):Prop:=(∀b o,t.H0 b=some o->¬t.R b->H' b=some o)/\fC t.K H'
theorem wJ{E:XK}{C:Addr}{te:TE}{f:EF}{c:Str}(hx:∀H',F0 t H'->t.EX c->E (.ref C) none H')(he:SE t te f):SS t (RT E C te) (rZ c f):=λW ρ σ H D e h =>
 he W ρ σ H _ e (Rs.bG (Rs.bh h) λp h v H1 e1 s1 v1=>⟨rfl,hx H1 ⟨e1.f0,e1.tab.ok⟩ h⟩)
end
end L2
end
section
namespace L2
open PySem PySem.Spec PyProof.Rows
mutual
noncomputable def m9:Tr->Bool
 |.tup ts=>jx ts
 |.lst _=>false
 |_=>true
noncomputable def jx:List Tr->Bool
 | []=>true
 |t::r=>m9 t&&jx r
end
def Dm(G G':Hp):Prop:=(∀b xs,(G b=some (.tup xs)->G' b=some (.tup xs))/\∀o,G b=some (.ig o (.tup xs))->G' b=some (.ig o (.tup xs)))/\∀b C,G b=some (yL b C)->G' b=some (yL b C)
mutual
theorem Rep.flat{K:FZ}{G G':Hp}(m:Dm G G'):∀{v:V} {T:Tr},Rep K G v T->m9 T=true->Rep K G' v T
 |_,_,.non,_=>.non
 |_,_,.bl b,_=>.bl b
 |_,_,.int i,_=>.int i
 |_,_,.str x,_=>.str x
 |_,_,.tup h r,n=>by
  refine .tup ?_ (aR.flat m r (by unfold m9 at n; exact n))
  rcases h with(h|⟨o,h⟩)|h
  ·exact .inl (.inl ((m.1 _ _).1 h))
  ·exact .inl (.inr ⟨o,(m.1 _ _).2 o h⟩)
  ·exact .inr h
 |_,_,.lst h r,n=>by unfold m9 at n; cases n
 |_,_,.dB h k n,_=>.dB (m.2 _ _ h) k n
theorem aR.flat{K:FZ}{G G':Hp}(m:Dm G G'):∀{v:List V} {T:List Tr},aR K G v T->jx T=true->aR K G' v T
 |_,_,.nil,_=>.nil
 |_,_,.cons h r,n=>by
  unfold jx at n
  rw[Bool.and_eq_true]at n
  exact .cons (Rep.flat m h n.1) (aR.flat m r n.2)
end
theorem Ju{W W':Addr->Prop}{H:Hp}(wl:∀b,W' b->Lt H b):Dm (aO W H) (aO W' H):=by
 have key:∀b o,aO W H b=some o->(∀ys,o ≠ .lst ys)->(∀ys,o ≠ .dM ys)->aO W' H b=some o:=λb o h n n'=>by
  obtain⟨_,h⟩:=ji h
  rw[fK]
  ·exact h
  ·intro w
   rcases wl b w with⟨ys,e⟩|⟨ys,e⟩ <;> (rw[h]at e; cases e)
   ·exact n ys rfl
   ·exact n' ys rfl
 exact⟨λb xs=>⟨λh=>key _ _ h (λys z=>by cases z) (λys z=>by cases z),λo h=>key _ _ h (λys z=>by cases z) (λys z=>by cases z)⟩,λb C h=>key _ _ h (λys z=>by cases z) (λys z=>by cases z)⟩
theorem acf{a:Addr}{W:Addr->Prop}{H:Hp}{xs:List V}(wl:∀b,W b->Lt H b)(ha:H a=some (.lst xs))(G:Hp)(hG:∀b o,G b=some o->H b=some o):Dm G (off a (aO W H)):=by
 have key:∀b o,G b=some o->(∀ys,o ≠ .lst ys)->(∀ys,o ≠ .dM ys)->off a (aO W H) b=some o:=λb o h n n'=>by
  have h:=hG b o h
  rw[off_ne,fK]
  ·exact h
  ·intro w
   rcases wl b w with⟨ys,e⟩|⟨ys,e⟩ <;> (rw[h]at e; cases e)
   ·exact n ys rfl
   ·exact n' ys rfl
  ·rintro rfl
   rw[h]at ha
   cases ha
   exact n _ rfl
 exact⟨λb xs=>⟨λh=>key _ _ h (λys z=>by cases z) (λys z=>by cases z),λo h=>key _ _ h (λys z=>by cases z) (λys z=>by cases z)⟩,λb C h=>key _ _ h (λys z=>by cases z) (λys z=>by cases z)⟩
def uz(K:FZ)(Z:Addr->Prop)(H H':Hp)(v:V)(T:Tr):Bool->Prop
 |false=>Rep K (aO Z H') v T
 |true=>∃a xs ts,v=.ref a/\T=.lst ts/\H a=none/\H' a=some (.lst xs)/\aR K (off a (aO Z H')) xs ts
def kh(K:FZ)(H H':Hp):Prop:=(∀b o,H b=some o->¬Tb K b->H' b=some o)/\fC K H'
theorem kh.dom{K:FZ}{H H':Hp}(s:kh K H H'):∀b,H' b=none->H b=none:=λb h=>by
 cases q:H b with
 |none=>rfl
 |some o =>
  by_cases z:Tb K b
  ·obtain⟨ps,e⟩:=s.2.dM z
   rw[h]at e
   cases e
  ·rw[s.1 b o q z]at h
   cases h
def Dn(G G':Hp):Prop:=∀b o,(∀ps,o ≠ .dM ps)->G b=some o->G' b=some o
theorem Rd.lX{G G':Hp}(m:Dn G G'){a:Addr}{u:HO}(n:∀ps,u ≠ .dM ps)(h:Rd G a u):Rd G' a u:=by
 rcases h with h|⟨o,h⟩
 ·exact .inl (m _ _ n h)
 ·exact .inr ⟨o,m _ _ (λ_ z=>by cases z) h⟩
mutual
theorem Rep.lX{K:FZ}{G G':Hp}(m:Dn G G'):∀{v:V} {T:Tr},Rep K G v T->Rep K G' v T
 |_,_,.non=>.non
 |_,_,.bl b=>.bl b
 |_,_,.int i=>.int i
 |_,_,.str x=>.str x
 |_,_,.tup h r=>by
  refine .tup ?_ (aR.lX m r)
  rcases h with h|h
  ·exact .inl (Rd.lX m (λ_ z=>by cases z) h)
  ·exact .inr h
 |_,_,.lst h r=>by
  refine .lst ?_ (aR.lX m r)
  rcases h with h|h
  ·exact .inl (Rd.lX m (λ_ z=>by cases z) h)
  ·exact .inr h
 |_,_,.dB h k n=>.dB (m _ _ (λ_ z=>by cases z) h) k n
theorem aR.lX{K:FZ}{G G':Hp}(m:Dn G G'):∀{v:List V} {T:List Tr},aR K G v T->aR K G' v T
 |_,_,.nil=>.nil
 |_,_,.cons h r=>.cons (Rep.lX m h) (aR.lX m r)
end
theorem Dp{K:FZ}{Z:Addr->Prop}{H:Hp}(tb:fC K H):Dn (aO Z H) (aO (λb=>Z b\/Tb K b) H):=λb o n h=>by
 obtain⟨nz,h⟩:=ji h
 rw[fK]
 ·exact h
 ·rintro(z|z)
  ·exact nz z
  ·obtain⟨ps,e⟩:=tb.dM z
   rw[h]at e
   cases e
   exact n _ rfl
theorem aV.Jv{t:Tx}{W:Addr->Prop}{ρ : En}{σ : St}{H H':Hp}(e:aV t W ρ σ H)(s:kh t.K H H'):aV t W ρ σ H'/\bT W H H':=by
 have st:bT W H H':=⟨λb o n q=>s.1 b o q λz=>n (e.tab.w b z),s.dom⟩
 refine⟨?_,st⟩
 have m:=st.off
 obtain⟨F,e⟩:=e
 have ls:∀{a:Addr} {xs:List V},H a=some (.lst xs)->H' a=some (.lst xs):=λq=>s.1 _ _ q λz=>e.tab.ok.ne z q rfl
 refine⟨F,e.len,e.zw,e.z0,λb w=>?_,λb o h n=>s.1 b o (e.f0 b o h n) λz=>n (e.tab.r b z),λb h=>e.n0 b (s.dom b h),λi u h=>?_,λi ts h=>?_,λi ts h=>?_,e.dis,λb o h=>s.1 b o (e.pn b o h) λz=>(by rw[e.tab.B b z]at h; cases h),e.pd,λi ts h=>?_,e.dd,e.dm,e.db,⟨s.2,e.tab.w,e.tab.r,e.tab.B⟩⟩
 ·rcases e.wl b w with⟨xs,q⟩|⟨ps,q⟩
  ·exact .inl ⟨xs,ls q⟩
  ·by_cases z:Tb t.K b
   ·exact .inr (s.2.dM z)
   ·exact .inr ⟨ps,s.1 b _ q z⟩
 ·obtain⟨v,h1,h2⟩:=e.sh i u h
  exact⟨v,h1,h2.mono m⟩
 ·obtain⟨a,xs,h1,h2,h3,h4,h5⟩:=e.ow i ts h
  exact⟨a,xs,h1,h2,h3,ls h4,h5.mono m⟩
 ·obtain⟨a,xs,h1,h2,h3,h4,h5⟩:=e.rf i ts h
  exact⟨a,xs,h1,h2,h3,ls h4,h5.mono m⟩
 ·obtain⟨a,xs,h1,d⟩:=e.dp i ts h
  exact⟨a,xs,h1,d.move rfl rfl m (λb hb=>by obtain⟨_,_,_,ww,_⟩:=d; exact(ww b hb).1) λb o hb q=>s.1 b o q λz=>d.nt e.tab.ok z hb⟩
theorem aV.acg{t:Tx}{W:Addr->Prop}{ρ : En}{σ : St}{H H':Hp}{a:Addr}{xs:List V}(e:aV t W ρ σ H)(s:kh t.K H H')(n:H a=none)(q:H' a=some (.lst xs)):p7 t W a ρ σ H':=by
 have na:∀b,W b->b≠a:=λb w z=>by subst z; exact e.wn b w n
 obtain⟨e',st⟩:=e.Jv s
 have m:Same (aO W H') (aO (λb=>W b\/b=a) H')->True:=λ_=>trivial
 have mm:∀{v:V} {T:Tr},Rep t.K (aO W H) v T->Rep t.K (aO (λb=>W b\/b=a) H') v T:=λr=>r.mono λb o h=>by
  obtain⟨w,h⟩:=ji h
  rw[fK]
  ·exact st.keep b o w h
  ·rintro(z|rfl)
   ·exact w z
   ·rw[n]at h; cases h
 have Jw:Same (aO W H) (aO (λb=>W b\/b=a) H'):=λb o h=>by
  obtain⟨w,h⟩:=ji h
  rw[fK]
  ·exact st.keep b o w h
  ·rintro(z|rfl)
   ·exact w z
   ·rw[n]at h; cases h
 obtain⟨F,e⟩:=e
 have ls:∀{a:Addr} {xs:List V},H a=some (.lst xs)->H' a=some (.lst xs):=λq=>s.1 _ _ q λz=>e.tab.ok.ne z q rfl
 refine⟨F,⟨e.len,λb z=>.inl (e.zw b z),e.z0,λb w=>?_,e'.f0,e'.n0,λi u h=>?_,λi ts h=>?_,λi ts h=>?_,e.dis,e'.pn,e.pd,λi ts h=>?_,e.dd,e.dm,e.db,e'.tab.R3 λb w=>.inl w⟩,λi ts h z=>?_⟩
 ·rcases w with w|rfl
  ·exact e'.wl b w
  ·exact .inl ⟨xs,q⟩
 ·obtain⟨v,h1,h2⟩:=e.sh i u h
  exact⟨v,h1,mm h2⟩
 ·obtain⟨c,ys,h1,h2,h3,h4,h5⟩:=e.ow i ts h
  exact⟨c,ys,h1,.inl h2,h3,ls h4,h5.mono Jw⟩
 ·obtain⟨c,ys,h1,h2,h3,h4,h5⟩:=e.rf i ts h
  exact⟨c,ys,h1,.inl h2,h3,ls h4,h5.mono Jw⟩
 ·obtain⟨c,ys,h1,d⟩:=e.dp i ts h
  exact⟨c,ys,h1,d.move rfl rfl Jw (λb hb=>by obtain⟨_,_,_,ww,_⟩:=d; exact .inl (ww b hb).1) λb o hb q=>s.1 b o q λz=>d.nt e.tab.ok z hb⟩
 ·obtain⟨c,ys,h1,bs,_,_,ww,_⟩:=e.dp i ts h
  exact na a (ww a z).1 rfl
abbrev FP:=List Tr->Rs (Tr × Bool)
noncomputable def aP(K:FZ)(cl:Str->Addr)(n:Nat)(F:FP):Sp:=λvs H Q E=>∃Z ts,vs.length=n/\aR (aJ K) (aO Z H) vs ts/\(∀b,Z b->Lt H b)/\fC (aJ K) H /\
 (F ts).post (λc=>∀H',kh (aJ K) H H'->E (.ref (cl c)) none H') (λp=>∀v H',kh (aJ K) H H'->uz (aJ K) Z H H' v p.1 p.2->Q v H')
def bA(nl:Nat)(ts:List Tr):En:=ts.map Sl.sh++List.replicate (nl-ts.length) Sl.un
def aQ(nl:Nat)(b:SF):FP:=λts=>(b (bA nl ts)).bind λq=>match q.1 with
 |.rt T fr=>.ok (T,fr)
 |.nx=>.ok (.non,false)
 |_=>.bad
theorem jF{nl:Nat}{ts:List Tr}{i:Nat}{s:Sl}(h:(bA nl ts)[i]?=some s):(∃u,ts[i]?=some u/\s=.sh u)\/s=.un:=by
 unfold bA at h
 by_cases l:i<ts.length
 ·rw[List.getElem?_append_left (by simpa using l),List.getElem?_map]at h
  rw[List.getElem?_eq_getElem l]at h ⊢
  cases h
  exact .inl ⟨_,rfl,rfl⟩
 ·rw[List.getElem?_append_right (by simpa using Nat.le_of_not_lt l)]at h
  rw[List.getElem?_replicate]at h
  split at h
  ·cases h; exact .inr rfl
  ·cases h
theorem Dq{N:List Str}{vs:List V}{i:Nat}{v:V}(h:vs[i]?=some v):(start N vs)[i]?=some (some v):=by
 unfold start
 have l:i<vs.length:=(List.getElem?_eq_some_iff.mp h).1
 rw[List.getElem?_append_left (by simpa using l),List.getElem?_map,h]
 rfl
section
variable {P:Program}{w:World}{K:FZ}{mg:Str->Option Value}{base:Heap}
theorem At.cN{k:Nat}{x:Str}{st:Stmt}{N ps:List Str}{cl:Str->Addr}{b:SF}(a:At K mg x st)(S:pU N ps (bx st))(hn:ps.length<=N.length)
  (hb:∀(kV doc pm:Value) (an:Option Addr) (cdv ct:Value) (us:List Value),us.length=ps.length->bindArgs (PySem.W.fnOf x x (mX st) (jq st) (bx st) .none kV doc pm an cdv ct) ⟨us,[]⟩=pure (ps.zip us))
  (hbody:∀(f:Addr) (cdv:Value) (A:Around) (outer:List Env) (s:Shared) (H:Hp) (E:XK),fO k (A.deeper (envOfC x (bx st) s.heap.objs.size f cdv)) ->
   ∃ts,jo (jM (jt P w) P w K mg base N x (bx st) f cdv A outer s H E) (jq st) ts/\∀t:Tx,t.K=aJ K->(∀c H',F0 t H'->t.EX c->E (.ref (cl c)) none H')->SS t ts b) :
  aM P w K mg base (k+1) x ps (aP K cl ps.length (aQ N.length b)):=by
 refine a.RV S hb (λvs H Q E h=>?_) (λf cdv A outer s H vs Q E hr h=>?_)
 ·obtain⟨_,_,h,_⟩:=h; exact h
 obtain⟨Z,as,hl,r,zl,tb,h⟩:=h
 obtain⟨ts,h1,h2⟩:=hbody f cdv A outer s H E hr
 refine⟨ts,h1,?_⟩
 have sm:∀(b:Addr) (W:Addr->Prop) ρ σ H',aV ⟨aJ K,Z,Tb (aJ K),H,λ_=>none,λc=>∀H',kh (aJ K) H H'->E (.ref (cl c)) none H'⟩ W ρ σ H'->kh (aJ K) H H':=λ_ W ρ σ H' e=>⟨λb o q n=>e.f0 b o q n,e.tab.ok⟩
 have r:=r.lX (Dp tb)
 refine h2 ⟨aJ K,Z,Tb (aJ K),H,λ_=>none,λc=>∀H',kh (aJ K) H H'->E (.ref (cl c)) none H'⟩ rfl (λc H' f0 q=>q H' ⟨λb o z n=>f0.1 b o z n,f0.2⟩) (λb=>Z b\/Tb (aJ K) b) (bA N.length as) (start N vs) H _ ?_ (Rs.bG (Rs.bh h) λq h=>?_)
 ·have la:=r.length
  have kE:∀(i:Nat) (us:List Tr),(bA N.length as)[i]?=some (.dp us)->False:=λi us q=>by
   rcases jF q with⟨u',q1,z⟩|z <;> cases z
  refine⟨λ_=>[],?_,λ_ z=>.inl z,λb z=>?_,λb z=>z.elim (zl b) (λz=>.inr (tb.dM z)),λb o q _=>q,λb q=>q,λi u q=>?_,λi us q=>?_,λi us q=>?_,λi j c m1 m2=>?_,λb o z=>(by cases z),λ_ _ _ _=>rfl,λi us q=>(kE i us q).elim,λi _ us _ _ q=>(kE i us q).elim,λi _ us _ q=>(kE i us q).elim,λi us q=>(kE i us q).elim,⟨tb,λ_ z=>.inr z,λ_ z=>z,λ_ _=>rfl⟩⟩
  ·unfold bA start
   simp only[List.length_append,List.length_map,List.length_replicate]
   omega
  ·exact(zl b z).ne
  ·rcases jF q with⟨u',q1,z⟩|z
   ·cases z
    obtain⟨v,e1,e2⟩:=r.rQ q1
    exact⟨v,Dq e1,e2⟩
   ·cases z
  ·rcases jF q with⟨u',q1,z⟩|z <;> cases z
  ·rcases jF q with⟨u',q1,z⟩|z <;> cases z
  ·obtain⟨us,q|q⟩:=m1 <;> rcases jF q with⟨u',q1,z⟩|z <;> cases z
 ·obtain⟨fl,ρ'⟩:=q
  cases fl with
  |nx=>exact λW' σ' H' e n=>h .non H' (sm 0 W' ρ' σ' H' e) .non
  |rt T fr =>
   refine λv W' σ' H' e n=>h v H' (sm 0 W' ρ' σ' H' e) ?_
   cases fr <;> exact n
  |bk=>exact h.elim
  |ct=>exact h.elim
end
section
variable {X:Cx}{k:Nat}{x:Str}{ps:List Str}{sp:Sp}{p pos:Pos}{e:Expr}{es:List Expr}{ta:TA}{E:XK}
theorem ach(D:aM X.prog X.w X.K X.mg X.base k x ps sp)(hr:fO k X.A)(hx:Passes (jt X.prog X.w) X E)(ha:PA X (e::es) ta)(hg:Gl X x:=by rfl)(hdb:(x == ("__debug__" : Str))=false:=by decide)
  (he:starEach (e::es) X.env=(false,eval e X.env)::starEach es X.env:=by rfl) (hpl:(backTo pos (starEach es X.env)).any (·.1)=false:=by rfl):PE X (.Call (.Name x p) (e::es) [] pos) (oG sp [] E ta):=by
 obtain⟨f,fd,h1,h2,h3,h4⟩:=D
 exact ZW h1 hr hg h4 h3 h2 .nil hx ha hdb he hpl
end
section
variable {t:Tx}{K:FZ}
def aX:Rv->Bool
 |.s _=>true
 |_=>false
def jy(z:Tr × Bool):Bool:=m9 z.1 || (z.2&&(match z.1 with
 |.lst us=>jx us
 |_=>false))
theorem uz.Te{W W0:Addr->Prop}{ρ : En}{σ : St}{H H':Hp}{v:V}{z:Tr × Bool}{Z:Addr->Prop}(wn:∀b,W b->H b≠none)(wl:∀b,W b->Lt H' b)(zs:(∀b,W b->Z b)\/jy z=true)(h:uz t.K Z H H' v z.1 z.2)
  (ex:z.2=true->∀a xs,H a=none->H' a=some (.lst xs)->p7 t W a ρ σ H'):iz t W ρ σ H H' v (.v z.1 z.2):=by
 obtain⟨T,fr⟩:=z
 cases fr with
 |false =>
  refine .low ?_
  rcases zs with zs|zs
  ·exact Rep.mono (oK (λb _ _ z=>zs b z) λ_ _ _ h=>h) h
  ·unfold jy at zs
   simp only[Bool.false_and,Bool.or_false]at zs
   exact Rep.flat (Ju wl) h zs
 |true =>
  obtain⟨a,xs,ts,rfl,e1,n,q,r⟩:=h
  have e1:T=.lst ts:=e1
  subst e1
  refine⟨⟨a,xs,ts,rfl,rfl,n,q,?_⟩,λU b z eb=>?_⟩
  ·rcases zs with zs|zs
   ·refine r.mono λb o q=>?_
    obtain⟨ne,q⟩:=tY q
    rw[off_ne ne]
    exact oK (λb _ _ z=>zs b z) (λ_ _ _ h=>h) b o q
   ·unfold jy at zs
    have zs:jx ts=true:=by
     rw[Bool.or_eq_true]at zs
     rcases zs with zs|zs
     ·unfold m9 at zs; cases zs
     ·exact zs
    exact r.flat (acf wl q _ λb o h=>iZ _ _ b o (Jb _ _ b o h)) zs
  ·cases eb
   exact ex rfl a xs n q
theorem gP.length{W:Addr->Prop}{σ : St}{H H':Hp}:∀{vs:List V} {rs:List Rv},gP K W σ H H' vs rs->vs.length=rs.length
 |_,_,.nil=>rfl
 |_,_,.cons _ r=>by rw[List.length_cons,List.length_cons,gP.length r]
theorem post_eq{α : Type}{r:Rs α}{a : α}{EX:Str->Prop}{P : α -> Prop}(h:r=.ok a)(q:P a):r.post EX P:=by
 rw[h]
 exact q
def aK(F:FP)(fa:AF):EF:=λρ=>(fa ρ).bind λp=>(drs p.2 p.1).bind λas=>(F as).bind λz=>if p.1.any aX=true/\jy z=false then .bad else .ok (.v z.1 z.2,p.2)
theorem Tf{W:Addr->Prop}{σ : St}{ρ : En}{H H':Hp}(wn:∀b,W b->H b≠none):∀{vs:List V} {rs:List Rv} {as:List Tr},gP t.K W σ H H' vs rs->drs ρ rs=.ok as->rs.any aX=false->aR t.K (aO W H') vs as
 |_,_,_,.nil,q,_=>by cases q; exact .nil
 |_,.v T fr::_,_,.cons h r,q,n=>by
  unfold drs at q
  obtain⟨a,q1,q⟩:=dF q
  obtain⟨as,q2,q⟩:=dF q
  cases q
  cases q1
  exact .cons (h.rep wn) (Tf wn r q2 (by simpa[List.any_cons,aX]using n))
 |_,.s i::_,_,.cons h r,q,n=>by simp[aX]at n
theorem rR.reps{W:Addr->Prop}{H:Hp}:∀{vs:List V} {as:List Tr},rR K W H vs as->aR K (aO (λ_=>False) H) vs as
 |_,_,.nil=>.nil
 |_,_,.cons h r=>.cons (h.rep.mono λb o q=>by rw[fK id]; exact q) (rR.reps r)
theorem Ti(hK:t.K=aJ K){cl:Str->Addr}{n:Nat}{F:FP}{E:XK}{ta:TA}{fa:AF}(hx:∀c H',F0 t H'->t.EX c->E (.ref (cl c)) none H')(hn:∀ρ p,fa ρ=.ok p->p.1.length=n)(ha:SA t ta fa):SE t (oG (aP K cl n F) [] E ta) (aK F fa):=λW ρ σ H Q e h=>by
 have h:=Rs.bh h
 cases ek:fa ρ with
 |bad=>rw[ek]at h; exact h.elim
 |ex c=>exact ha W ρ σ H _ e (by rw[ek]at h ⊢; exact h)
 |ok p =>
 have hl:=hn ρ p ek
 rw[ek]at h
 refine ha W ρ σ H _ e (post_eq ek ?_)
 intro vs H1 e1 s1 v1
 have h:((drs p.2 p.1).bind _).post _ _:=h
 obtain⟨as,k1,h⟩:=dh (Rs.bh h) (yW _ _)
 have r:=Dh e1 e.wn v1 k1
 have lv:vs.length=n:=v1.length.trans hl
 have fin:∀Z:Addr->Prop,(∀b,Z b->W b)->(∀z,F as=.ok z->¬(p.1.any aX=true/\jy z=false)->(∀b,W b->Z b)\/jy z=true)->aR (aJ K) (aO Z H1) vs as->aP K cl n F (vs++[]) H1 Q E:=λZ zw zs rr=>by
  rw[List.append_nil]
  refine⟨Z,as,lv,rr,λb z=>e1.wl b (zw b z),by rw[<-hK]; exact e1.tab.ok,?_⟩
  have h:=Rs.bh h
  cases ef:F as with
  |bad=>rw[ef]at h; exact h.elim
  |ex c =>
   rw[ef]at h
   exact λH' sm=>hx c H' ⟨λb o q nr=>sm.1 b o (e1.f0 b o q nr) λz=>nr (e1.tab.r b (by rw[hK]; exact z)),by rw[hK]; exact sm.2⟩ h
  |ok z =>
   rw[ef]at h
   have h:(if p.1.any aX=true/\jy z=false then Rs.bad else .ok (.v z.1 z.2,p.2):Rs (Rv × En)).post _ _:=h
   split at h
   ·exact h.elim
   ·rename_i c
    intro v H' sm vr
    rw[<-hK]at vr sm
    obtain⟨eg,sg⟩:=e1.Jv sm
    refine h v H' eg (s1.trans sg) (iz.back (H:=H1) ?_ s1.dom)
    exact uz.Te (W0:=W) e1.wn eg.wl (zs z ef c) vr λ_ a xs na qa=>e1.acg sm na qa
 by_cases an:p.1.any aX=true
 ·refine fin (λ_=>False) (λ_ z=>z.elim) (λz ez c=>.inr ?_) ?_
  ·cases fz:jy z with
   |true=>rfl
   |false=>exact(c ⟨an,fz⟩).elim
  ·rw[<-hK]
   exact r.reps
 ·refine fin W (λ_ z=>z) (λz ez c=>.inl λ_ z=>z) ?_
  rw[<-hK]
  exact Tf e.wn v1 k1 (by simpa using an)
end
end L2
end
section
namespace L2
open PySem PySem.Spec PyProof.Rows
abbrev FR:=List Tr->Rs ((Tr × Bool) × List Tr)
noncomputable def qm(K:FZ)(n r:Nat)(F:FR):Sp:=λvs H Q E=>∃(Z:Addr->Prop) (ts:List Tr) (a:Addr) (xs:List V) (us:List Tr),vs.length=n/\ts.length=n/\vs[r]?=some (.ref a)/\ts[r]?=some (.lst us)/\Z a/\H a=some (.lst xs)/\aR (aJ K) (aO Z H) xs us /\
 (∀j v u,j≠r->vs[j]?=some v->ts[j]?=some u->Rep (aJ K) (aO Z H) v u)/\(∀b,Z b->Lt H b)/\fC (aJ K) H /\
 (F ts).post (λ_=>False) (λp=>∀v H' ys,(∀b o,H b=some o->b≠a->¬Tb (aJ K) b->H' b=some o)->fC (aJ K) H'->(∀b,H' b=none->H b=none)->H' a=some (.lst ys)->aR (aJ K) (aO Z H') ys p.2->uz (aJ K) Z H H' v p.1.1 p.1.2->Q v H')
def cV{α : Type}:Rs α -> Rs α
 |.bad=>.bad
 |.ex _=>.bad
 |.ok a=>.ok a
theorem Dr{α : Type}{r:Rs α}{EX:Str->Prop}{P : α -> Prop}(h:(cV r).post EX P):r.post (λ_=>False) P:=by
 cases r <;> exact h
theorem Ds{α : Type}(r:Rs α)(c:Str):cV r ≠ .ex c:=by
 cases r <;> (intro z; cases z)
theorem Tj{α β : Type}{r:Rs α}{f : α -> Rs β}(h1:∀c,r ≠ .ex c)(h2:∀a c,f a ≠ .ex c)(c:Str):r.bind f ≠ .ex c:=by
 cases r with
 |bad=>intro z; cases z
 |ex d=>exact(h1 d rfl).elim
 |ok a=>exact h2 a c
noncomputable def nq(nl r:Nat)(b:SF):FR:=λts=>match ts[r]? with
 | some (.lst us)=>(cV (b ((bA nl ts).set r (.rf us)))).bind λq=>(match q.2[r]? with
  | some (.rf ws)=>(match q.1 with
   |.rt T fr=>.ok ((T,fr),ws)
   |.nx=>.ok ((.non,false),ws)
   |_=>.bad)
  |_=>.bad)
 |_=>.bad
theorem aci(nl r:Nat)(b:SF)(as:List Tr)(c:Str):nq nl r b as ≠ .ex c:=by
 unfold nq
 split
 ·refine Tj (Ds _) (λq c=>?_) c
  split
  ·split <;> (intro z; cases z)
  ·intro z; cases z
 ·intro z; cases z
section
variable {P:Program}{w:World}{K:FZ}{mg:Str->Option Value}{base:Heap}
theorem At.Tn{k:Nat}{x:Str}{st:Stmt}{N ps:List Str}{cl:Str->Addr}{b:SF}(r:Nat)(a:At K mg x st)(S:pU N ps (bx st))(hn:ps.length<=N.length)
  (hb:∀(kV doc pm:Value) (an:Option Addr) (cdv ct:Value) (us:List Value),us.length=ps.length->bindArgs (PySem.W.fnOf x x (mX st) (jq st) (bx st) .none kV doc pm an cdv ct) ⟨us,[]⟩=pure (ps.zip us))
  (hbody:∀(f:Addr) (cdv:Value) (A:Around) (outer:List Env) (s:Shared) (H:Hp) (E:XK),fO k (A.deeper (envOfC x (bx st) s.heap.objs.size f cdv)) ->
   ∃ts,jo (jM (jt P w) P w K mg base N x (bx st) f cdv A outer s H E) (jq st) ts/\∀t:Tx,t.K=aJ K->(∀c H',F0 t H'->t.EX c->E (.ref (cl c)) none H')->SS t ts b) :
  aM P w K mg base (k+1) x ps (qm K ps.length r (nq N.length r b)):=by
 refine a.RV S hb (λvs H Q E h=>?_) (λf cdv A outer s H vs Q E hr h=>?_)
 ·obtain⟨_,_,_,_,_,h,_⟩:=h; exact h
 obtain⟨Z,as,ad,xs,us,hl,hl2,hv,ht,hz,hx,rx,ra,zl,tb,h⟩:=h
 have rx:=rx.lX (Dp tb)
 have ra:∀j v u,j≠r->vs[j]?=some v->as[j]?=some u->Rep (aJ K) (aO (λb=>Z b\/Tb (aJ K) b) H) v u:=λj v u n q1 q2=>(ra j v u n q1 q2).lX (Dp tb)
 obtain⟨ts,h1,h2⟩:=hbody f cdv A outer s H E hr
 refine⟨ts,h1,?_⟩
 unfold nq at h
 rw[ht]at h
 have h:((cV (b ((bA N.length as).set r (.rf us)))).bind _).post _ _:=h
 refine h2 ⟨aJ K,Z,λb=>b=ad\/Tb (aJ K) b,H,λ_=>none,λ_=>False⟩ rfl (λc H' f0 q=>q.elim) (λb=>Z b\/Tb (aJ K) b) ((bA N.length as).set r (.rf us)) (start N vs) H _ ?_ (Rs.bG (Dr (Rs.bh h)) λq h=>?_)
 ·have lr:r<as.length:=(List.getElem?_eq_some_iff.mp ht).1
  have mu:∀j,Mu ((bA N.length as).set r (.rf us)) j->j=r:=λj m=>by
   obtain⟨ws,q|q⟩:=m <;> rcases get_set q with⟨rfl,_,_⟩|⟨ne,q⟩
   ·rfl
   ·rcases jF q with⟨u',q1,z⟩|z <;> cases z
   ·rfl
   ·rcases jF q with⟨u',q1,z⟩|z <;> cases z
  have kE:∀(i:Nat) (ws:List Tr),((bA N.length as).set r (.rf us))[i]?=some (.dp ws)->False:=λi ws q=>by
   rcases get_set q with⟨rfl,z,_⟩|⟨ne,q⟩
   ·cases z
   ·rcases jF q with⟨u',q1,z⟩|z <;> cases z
  refine⟨λ_=>[],?_,λ_ z=>.inl z,λb z=>?_,λb z=>z.elim (zl b) (λz=>.inr (tb.dM z)),λb o q _=>q,λb q=>q,λi u q=>?_,λi ws q=>?_,λi ws q=>?_,λi j c m1 m2 _ _=>(mu i m1).trans (mu j m2).symm,λb o z=>(by cases z),λ_ _ _ _=>rfl,λi us q=>(kE i us q).elim,λi _ us _ _ q=>(kE i us q).elim,λi _ us _ q=>(kE i us q).elim,λi us q=>(kE i us q).elim,⟨tb,λ_ z=>.inr z,λ_ z=>.inr z,λ_ _=>rfl⟩⟩
  ·unfold bA start
   simp only[List.length_append,List.length_map,List.length_replicate,List.length_set]
   omega
  ·exact(zl b z).ne
  ·rcases get_set q with⟨rfl,z,_⟩|⟨ne,q⟩
   ·cases z
   ·rcases jF q with⟨u',q1,z⟩|z
    ·cases z
     have lj:i<vs.length:=by
      rw[hl,<-hl2]
      exact(List.getElem?_eq_some_iff.mp q1).1
     exact⟨vs[i],Dq (List.getElem?_eq_getElem lj),ra i _ _ ne (List.getElem?_eq_getElem lj) q1⟩
    ·cases z
  ·rcases get_set q with⟨rfl,z,_⟩|⟨ne,q⟩
   ·cases z
   ·rcases jF q with⟨u',q1,z⟩|z <;> cases z
  ·rcases get_set q with⟨rfl,z,_⟩|⟨ne,q⟩
   ·cases z
    exact⟨ad,xs,Dq hv,.inl hz,.inl rfl,hx,rx⟩
   ·rcases jF q with⟨u',q1,z⟩|z <;> cases z
 ·obtain⟨fl,ρ'⟩:=q
  dsimp only at h
  split at h
  ·rename_i ws q
   ·have key:∀W' σ' H',aV ⟨aJ K,Z,λb=>b=ad\/Tb (aJ K) b,H,λ_=>none,λ_=>False⟩ W' ρ' σ' H'->(∀b o,H b=some o->b≠ad->¬Tb (aJ K) b->H' b=some o)/\fC (aJ K) H'/\(∀b,H' b=none->H b=none)/\∃ys,H' ad=some (.lst ys)/\aR (aJ K) (aO Z H') ys ws:=λW' σ' H' e=>by
     obtain⟨c,ys,q1,q2,q3,q4,q5⟩:=e.rf r ws q
     have q3:c=ad:=q3.elim id λz=>(e.tab.ok.ne z q4 rfl).elim
     subst q3
     exact⟨λb o z n n'=>e.f0 b o z λy=>y.elim n n',e.tab.ok,e.n0,ys,q4,q5.mono (Dk e)⟩
    cases fl with
    |nx =>
     intro W' σ' H' e n
     obtain⟨k1,Jx,k2,ys,k3,k4⟩:=key W' σ' H' e
     exact h .non H' ys k1 Jx k2 k3 k4 .non
    |rt T fr =>
     intro v W' σ' H' e n
     obtain⟨k1,Jx,k2,ys,k3,k4⟩:=key W' σ' H' e
     refine h v H' ys k1 Jx k2 k3 k4 ?_
     cases fr <;> exact n
    |bk=>exact h.elim
    |ct=>exact h.elim
  ·exact h.elim
end
section
variable {t:Tx}{K:FZ}
theorem gP.get{W:Addr->Prop}{σ : St}{H H':Hp}:∀{vs:List V} {rs:List Rv} {j:Nat} {v:V} {r:Rv},gP K W σ H H' vs rs->vs[j]?=some v->rs[j]?=some r->eG K W σ H H' v r
 |_,_,_,_,_,.nil,e,_=>by simp at e
 |_,_,0,_,_,.cons h _,e,q=>by simp at e q; subst e q; exact h
 |_,_,j+1,_,_,.cons _ t,e,q=>gP.get (j:=j) t (by simpa using e) (by simpa using q)
theorem Jy{ρ : En}:∀{rs:List Rv} {as:List Tr} {j:Nat} {u:Tr},drs ρ rs=.ok as->as[j]?=some u->∃r,rs[j]?=some r/\dr ρ r=.ok u
 | [],_,_,_,h,e=>by cases h; simp at e
 |r::rs,as,j,u,h,e=>by
  unfold drs at h
  obtain⟨a,q1,h⟩:=dF h
  obtain⟨bs,q2,h⟩:=dF h
  cases h
  cases j with
  |zero=>simp at e; subst e; exact⟨r,rfl,q1⟩
  |succ j =>
   obtain⟨r',k1,k2⟩:=Jy (j:=j) q2 (by simpa using e)
   exact⟨r',by simpa using k1,k2⟩
theorem Tp{ρ : En}:∀{rs:List Rv} {as:List Tr},drs ρ rs=.ok as->as.length=rs.length
 | [],_,h=>by cases h; rfl
 |r::rs,as,h=>by
  unfold drs at h
  obtain⟨a,q1,h⟩:=dF h
  obtain⟨bs,q2,h⟩:=dF h
  cases h
  rw[List.length_cons,List.length_cons,Tp q2]
theorem Tq{ρ : En}:∀{rs:List Rv} {as:List Tr} {j:Nat} {r:Rv},drs ρ rs=.ok as->rs[j]?=some r->∃u,as[j]?=some u/\dr ρ r=.ok u
 | [],_,_,_,h,e=>by simp at e
 |r::rs,as,j,u,h,e=>by
  unfold drs at h
  obtain⟨a,q1,h⟩:=dF h
  obtain⟨bs,q2,h⟩:=dF h
  cases h
  cases j with
  |zero=>simp at e; subst e; exact⟨a,rfl,q1⟩
  |succ j =>
   obtain⟨r',k1,k2⟩:=Tq (j:=j) q2 (by simpa using e)
   exact⟨r',by simpa using k1,k2⟩
def others(r i:Nat)(rs:List Rv):Bool:=(rs.eraseIdx r).all λx=>match x with
 |.s j=>j != i
 |_=>true
noncomputable def gK(r:Nat)(F:FR)(fa:AF):EF:=λρ=>(fa ρ).bind λp=>match p.1[r]? with
 |some (.s i)=>if others r i p.1=true then((con p.2 i).bind λ_=>(drs p.2 p.1).bind λas=>(F as).bind λz=>if((p.1.eraseIdx r).any aX=true/\jy z.1=false)\/(((p.1.eraseIdx r).any aX=true\/z.1.2=true)/\jx z.2=false)then .bad else .ok (.v z.1.1 z.1.2,cR i z.2 p.2))else .bad
 |_=>.bad
theorem Tt{α : Type}{l:List α}{r j:Nat}{x : α}(n:j≠r)(h:l[j]?=some x):x∈l.eraseIdx r:=by
 rw[List.mem_eraseIdx_iff_getElem?]
 exact⟨j,n,h⟩
theorem acj(hK:t.K=aJ K){n r:Nat}{F:FR}{E:XK}{ta:TA}{fa:AF}(nF:∀as c,F as ≠ .ex c)(hn:∀ρ p,fa ρ=.ok p->p.1.length=n)(ha:SA t ta fa):SE t (oG (qm K n r F) [] E ta) (gK r F fa):=λW ρ σ H Q e h=>by
 have h:=Rs.bh h
 cases ek:fa ρ with
 |bad=>rw[ek]at h; exact h.elim
 |ex c=>exact ha W ρ σ H _ e (by rw[ek]at h ⊢; exact h)
 |ok p =>
 have hl:=hn ρ p ek
 rw[ek]at h
 refine ha W ρ σ H _ e (post_eq ek ?_)
 intro vs H1 e1 s1 v1
 have h:(match p.1[r]? with
  |some (.s i)=>if others r i p.1=true then((con p.2 i).bind λ_=>(drs p.2 p.1).bind λas=>(F as).bind λz=>if((p.1.eraseIdx r).any aX=true/\jy z.1=false)\/(((p.1.eraseIdx r).any aX=true\/z.1.2=true)/\jx z.2=false)then .bad else .ok (.v z.1.1 z.1.2,cR i z.2 p.2))else .bad
  |_=>.bad:Rs (Rv × En)).post _ _:=h
 split at h
 ·rename_i i er
  split at h
  ·rename_i ho
   obtain⟨us,k0,h⟩:=dh (Rs.bh h) (zp _ _)
   obtain⟨as,k1,h⟩:=dh (Rs.bh h) (yW _ _)
   obtain⟨z,k2,h⟩:=dh (Rs.bh h) (nF _)
   obtain⟨mi,a,xs,hi,wa,hx,rx,h0⟩:=e1.con k0
   have lr:r<vs.length:=by rw[v1.length]; exact(List.getElem?_eq_some_iff.mp er).1
   have hvr:vs[r]?=some (.ref a):=by
    have q:=v1.get (List.getElem?_eq_getElem lr) er
    have q : σ[i]?=some (some vs[r]):=q
    rw[hi]at q
    rw[List.getElem?_eq_getElem lr,Option.some.inj (Option.some.inj q)]
   have hur:as[r]?=some (.lst us):=by
    obtain⟨u,q1,q2⟩:=Tq k1 er
    rw[q1]
    unfold L2.con at k0
    dsimp only[dr]at q2
    split at k0 <;> rename_i q3
    ·rw[q3]at q2; cases q2; cases k0; rfl
    ·rw[q3]at q2; cases q2; cases k0; rfl
    ·cases k0
   split at h
   ·exact h.elim
   ·rename_i c
    have nl:((p.1.eraseIdx r).any aX=true\/z.1.2=true)->jx z.2=true:=λy=>by
     cases q:jx z.2 with
     |true=>rfl
     |false=>exact(c (.inr ⟨y,q⟩)).elim
    have nf:z.1.2=true->jx z.2=true:=λy=>nl (.inr y)
    have fin:∀Z:Addr->Prop,Z a->(∀b,Z b->W b)->((∀b,W b->Z b)\/jy z.1=true)->((∀b,W b->Z b)\/jx z.2=true)->(∀j v u,j≠r->vs[j]?=some v->as[j]?=some u->Rep (aJ K) (aO Z H1) v u)->qm K n r F (vs++[]) H1 Q E:=λZ za zw zs fq rr=>by
     rw[List.append_nil]
     refine⟨Z,as,a,xs,us,v1.length.trans hl,(Tp k1).trans hl,hvr,hur,za,hx,?_,rr,λb z=>e1.wl b (zw b z),by rw[<-hK]; exact e1.tab.ok,?_⟩
     ·rw[<-hK]
      exact rx.mono (oK (λb _ _ z=>zw b z) λ_ _ _ h=>h)
     rw[k2]
     intro v H' ys fr tb dm hy ry vr
     rw[<-hK]at ry vr fr tb
     have kp:∀b o,¬W b->H1 b=some o->H' b=some o:=λb o nw q=>fr b o q (λz=>by subst z; exact nw wa) λz=>nw (e1.tab.w b z)
     have Dt:∀b,W b->Lt H' b:=λb wb=>by
      by_cases q:b=a
      ·subst q; exact .inl ⟨ys,hy⟩
      ·by_cases z:Tb t.K b
       ·exact .inr (tb.dM z)
       ·rcases e1.wl b wb with⟨zs,q2⟩|⟨zs,q2⟩
        ·exact .inl ⟨zs,fr b _ q2 q z⟩
        ·exact .inr ⟨zs,fr b _ q2 q z⟩
     have st:bT W H1 H':=⟨kp,dm⟩
     have ryW:aR t.K (aO W H') ys z.2:=by
      rcases fq with q|q
      ·exact ry.mono (oK (λb _ _ z=>q b z) λ_ _ _ h=>h)
      ·exact ry.flat (Ju Dt) q
     have e2:aV t W (cR i z.2 p.2) σ H':=e1.move mi hi st.off (λ_ h=>h) Dt tb fr dm h0 hy ryW
     refine h v H' e2 (s1.trans st) (iz.back (H:=H1) ?_ s1.dom)
     refine uz.Te (W0:=W) (z:=z.1) e1.wn Dt zs vr λfz b zs nb qb=>?_
     have Tv:∀c,(W c\/c=b)->Lt H' c:=λc wc=>by
      rcases wc with wc|rfl
      ·exact Dt c wc
      ·exact .inl ⟨zs,qb⟩
     obtain⟨F,dG⟩:=id e1
     refine⟨F,dG.move mi hi (λc o q=>?_) (λ_ h=>.inl h) Tv tb fr dm h0 hy (ry.flat (Ju Tv) (nf fz)),λj us hj zj=>?_⟩
     rotate_left
     ·obtain⟨c,ys,h1,bs,_,_,ww,_⟩:=dG.dp j us (rW hj)
      exact e1.wn b (ww b zj).1 nb
     obtain⟨nc,q⟩:=ji q
     rw[fK]
     ·exact kp c o nc q
     ·rintro(z|rfl)
      ·exact nc z
      ·rw[nb]at q; cases q
    by_cases an:(p.1.eraseIdx r).any aX=true
    ·refine fin (λb=>b=a) rfl (λb z=>by subst z; exact wa) (.inr ?_) (.inr (nl (.inl an))) λj v u nj qv qu=>?_
     ·cases fz:jy z.1 with
      |true=>rfl
      |false=>exact(c (.inl ⟨an,fz⟩)).elim
     ·obtain⟨x,q1,q2⟩:=Jy k1 qu
      have ok:=v1.get qv q1
      rw[<-hK]
      cases x with
      |v T fr =>
       cases q2
       exact(ok.rep e.wn).mono (oK (λb _ _ z=>by subst z; exact wa) λ_ _ _ h=>h)
      |s j' =>
       have nj':j'≠i:=by
        have:=List.all_eq_true.mp ho _ (Tt nj q1)
        simpa using this
       have ok : σ[j']?=some (some v):=ok
       have q2:dr p.2 (.s j')=.ok u:=q2
       have q3:∃ws,L2.con p.2 j'=.ok ws/\u=.lst ws:=by
        dsimp only[dr]at q2
        unfold L2.con
        split at q2 <;> rename_i q3
        ·cases q2; (try rw[q3]); exact⟨_,rfl,rfl⟩
        ·cases q2; (try rw[q3]); exact⟨_,rfl,rfl⟩
        ·cases q2
       obtain⟨ws,q3,rfl⟩:=q3
       obtain⟨mj,a',zs,hj,wj,hz,rz,_⟩:=e1.con q3
       rw[ok]at hj
       cases hj
       have na:a'≠a:=λy=>by
        subst y
        exact nj' (e1.dis j' i a' mj mi ok hi)
       refine .lst (cJ.of ?_) (rz.mono (oK (λb _ _ z=>by subst z; exact wa) λ_ _ _ h=>h))
       rw[fK (W:=λb=>b=a) na]
       exact hz
    ·refine fin W wa (λ_ z=>z) (.inl λ_ z=>z) (.inl λ_ z=>z) λj v u nj qv qu=>?_
     obtain⟨x,q1,q2⟩:=Jy k1 qu
     have ok:=v1.get qv q1
     rw[<-hK]
     cases x with
     |v T fr=>cases q2; exact ok.rep e.wn
     |s j' =>
      refine(an ?_).elim
      exact List.any_eq_true.mpr ⟨_,Tt nj q1,rfl⟩
  ·exact h.elim
 ·exact h.elim
end
end L2
end
section
namespace L2
open PySem PySem.Spec PyProof.Rows
section
variable {prog:Program}{w:World}{A:Around}{R:Result->Shared->Prop}{s:Shared}
theorem acn{elt target iter c:Expr}{scope:Scope}{pos:Pos}{it acc:Value}{env:Env}(I:Nat->Shared->Prop)
  (turn:∀n s,I n s->wpAny (model prog w) A (pyNext it) (λr s₁=>match r with
   |none=>R (.ok .next) s₁
   | some v=>wpAny (model prog w) A (letOwnedTupleGo target it v) (λ_ s₁'=>wpAny (model prog w) A (assign target env v) (λ_ s₂ => wpAny (model prog w) A (isTrue c env (eval c env)) (λb s₂'=>if b=true then wpAny (model prog w) A (eval elt env) (λx s₃ =>
     wpAny (model prog w) A (call (.builtin "list.append") [acc,x]) (λ_ s₄=>∃m,m<n/\I m s₄) (λ_ _=>False) s₃) (λ_ _=>False) s₂' else ∃m,m<n/\I m s₂') (λ_ _=>False) s₂) (λ_ _=>False) s₁') (λ_ _=>False) s₁) (λ_ _=>False) s)
  (n:Nat) (h:I n s) :
  codeAny (model prog w) A (.compLoop (.ListComp elt [⟨target,iter,[c],0⟩] scope pos) 0 it acc env) R s:=by
 refine codeAny_loop rfl I (λn s hI=>?_) n h
 show wpAny _ _ ((compTurn (.ListComp elt [⟨target,iter,[c],0⟩] scope pos) 0 it acc env).onRaise (λx=>do noteFrame x env; theTreesLotGoes x)) _ _ s
 refine wpAny_noted (wpAny_noRaise ?_)
 rw[compTurn_list]
 refine wpAny_bind (wpAny_standAt (wpAny_bind (wpAny_mono (turn n s hI) (λr s₁ h₁=>?_) λ_ _ h'=>h')))
 cases r with
 |none=>exact wpAny_pure h₁
 |some v =>
  refine wpAny_bind (wpAny_mono h₁ (λ_ s₁' h₁'=>?_) λ_ _ h'=>h')
  refine wpAny_bind (wpAny_mono h₁' (λ_ s₂ h₂=>wpAny_bind (wpAny_tests_one (wpAny_mono h₂ (λok s₃ h₃=>?_) λ_ _ h'=>h'))) λ_ _ h'=>h')
  cases ok with
  |false=>exact wpAny_pure ⟨rfl,h₃⟩
  |true =>
   exact wpAny_bind (wpAny_bind (wpAny_mono h₃ (λx s₄ h₄=>wpAny_bind (wpAny_mono h₄ (λ_ s₅ h₅=>wpAny_pure (wpAny_pure ⟨rfl,h₅⟩)) λ_ _ h'=>h')) λ_ _ h'=>h'))
end
noncomputable def uD(wi:TI)(g:TG)(src:List (Option Nat))(tc:TT)(te:TE):TE:=λσ H Q=>wi σ H λJ H1=>∀D,H1 D=none ->
 ∃W:Nat->Nat->St->Hp->Prop,(∃m,W 0 m (eZ src σ) (upd H1 D (.lst [])))/\∀i m σ' H',W i m σ' H' ->
  (J.stop i H'/\RB Q D H')\/(J.go i H'/\∀x fW,J.vR i H' x fW->g x σ' fW λσ2 H2=>tc σ2 H2 λb Tw=>if b=true then te σ2 Tw λv H3=>∃xs,H3 D=some (.lst xs)/\xs.length<sizeLine/\∃m',m'<m/\W (i+1) m' σ2 (upd H3 D (.lst (xs++[v])))else ∃m',m'<m/\W (i+1) m' σ2 Tw)
section
variable {X:Cx}{elt tg iter uE:Expr}{scope sc:Scope}{pos:Pos}{No N:List Str}{src:List (Option Nat)}{wi:TI}{g:TG}{te:TE}{tc:TT}
theorem aco{pins:List (Addr × Obj)}{σ : St}{H:Hp}{s:Shared}{Q:VK}{RR:Value->Addr->Result->Shared->Prop}(hsc:X.env.scope=sc)(jr:X.N=No)(S:tV sc No N src scope)(hc:X.calm=true)
  (hi:PI X tg iter wi) (hg:∀C s H ex,PG (fZ X N scope C s H ex) tg g) (hq:∀C s H ex,PT (fZ X N scope C s H ex) uE tc) (he:∀C s H ex,PE (fZ X N scope C s H ex) elt te) (I:Inv X pins σ H s) (h:uD wi g src tc te σ H Q)
  (hRR:∀D C H' s' m,Inv X pins σ H' s'->H' C=none->C≠X.env.locals->X.s₀.heap.objs.size<=C->(∀x c,X.env.cells.lookup x=some c->c≠C)->(∀p∈X.pn++pins,p.1≠C)->s'.heap.Ns C m->Q (.ref D) H'->RR (.ref D) C (.ok .next) s') :
  wpAny (model X.prog X.w) X.A (eval iter X.env) (λx s₁=>wpAny (model X.prog X.w) X.A (pyIter x) (λit s₂=>wpAny (model X.prog X.w) X.A (newList []) (λacc s₃ =>
   wpAny (model X.prog X.w) X.A (newFunctionEnv scope X.env.globals (dY X.env.cells scope.names []) [] X.env.qual none .none (some X.env)) (λcenv s₄ =>
    codeAny (model X.prog X.w) X.A (.compStart (.ListComp elt [⟨tg,iter,[uE],0⟩] scope pos) 0 it acc {cenv with scope:=relabel scope X.env }) (RR acc cenv.locals) s₄) X.xe s₃) X.xe s₂) X.xe s₁) X.xe s:=by
 refine bH (hi pins s σ H _ I h) λv s1 h1=>bH h1 λitv s2 h2=>?_
 obtain⟨it,fp,tn,J,H2,e,I2,T,st2,f2,hW⟩:=h2
 subst e
 have Ii:H2 s2.heap.objs.size=none:=I2.hok.fresh (Nat.le_refl _)
 obtain⟨W,⟨m0,w0⟩,turn⟩:=hW s2.heap.objs.size Ii
 have yJ:∀b∈fp,b<s2.heap.objs.size:=λb hb=>by
  obtain⟨o,e,_⟩:=T.obj 0 _ st2 b hb
  exact Heap.lt_size e
 refine wpAny_newObj_type ?_
 have I3:Inv X pins σ (upd H2 s2.heap.objs.size (.lst [])) {s2 with heap:=s2.heap.push {cls:=.type "list",dict:=none,data:=.seq ([]:List Value).toArray } }:=I2.Cv (t':=s2.toks) (ys:=[]) .nil (Nat.zero_le _)
 have f3:∀b∈fp,eU X pins (upd H2 s2.heap.objs.size (.lst [])) b:=λb hb=>by
  obtain⟨q,r⟩:=f2 b hb
  exact⟨by rw[bB (Nat.ne_of_lt (yJ b hb))]; exact q,r⟩
 have st3:tn 0 (s2.heap.push {cls:=.type "list",dict:=none,data:=.seq ([]:List Value).toArray }):=T.keep _ _ _ st2 λb hb o e=>Heap.get?_push_of_some _ e
 have tW:∀b∈fp,b<(s2.heap.push {cls:=.type "list",dict:=none,data:=.seq ([]:List Value).toArray }).objs.size:=λb hb=>by
  rw[Heap.size_push]; exact Nat.lt_succ_of_lt (yJ b hb)
 generalize hD:s2.heap.objs.size=D at *
 generalize hh3:s2.heap.push {cls:=.type "list",dict:=none,data:=.seq ([]:List Value).toArray }=h3 at *
 generalize hH3:upd H2 D (.lst [])=H3 at *
 refine Rz λh₁ hns old ck=>?_
 dsimp only at hns old ck ⊢
 have I4:Inv (fZ X N scope h3.objs.size {s2 with heap:=h3 } H3 fp) [] (eZ src σ) H3 {s2 with heap:=h₁,toks:=s2.toks+([]:List (Str × Value)).length }:=RD (s:={s2 with heap:=h3 }) hsc jr S I3 f3 tW hns old ck
 have yK:tn 0 h₁ := T.keep _ _ _ st3 λb hb o e=>old b o e
 have loop:codeAny (model X.prog X.w) X.A (.compLoop (.ListComp elt [⟨tg,iter,[uE],0⟩] scope pos) 0 (.ref it) (.ref D) (compEnvC scope (cellsFrom (h3.objs.size+1) scope.names (dY X.env.cells scope.names [])) h3.objs.size X.env)) (RR (.ref D) h3.objs.size) {s2 with heap:=h₁,toks:=s2.toks+([]:List (Str × Value)).length }:=by
  have stat:∀{H':Hp},(∀b∈fp,H' b=none)->∀b∈fp,eU (fZ X N scope h3.objs.size {s2 with heap:=h3 } H3 fp) [] H' b:=λhn b hb=>by
   obtain⟨g0,g1,g2,g3,g4,g5⟩:=f3 b hb
   refine⟨hn b hb,Nat.ne_of_lt (tW b hb),λz=>?_,.inl hb,λx c e=>?_,λp hp=>absurd (show p∈([]:List (Addr × Obj))from hp) (by simp)⟩
   ·rcases List.mem_cons.mp (I3.yF b z)with z|z
    ·exact g1 z
    ·exact g2 z
   ·have e:(cellsFrom (h3.objs.size+1) scope.names (dY X.env.cells scope.names [])).lookup x=some c:=e
    rw[pX,vW]at e
    split at e
    ·rename_i z
     cases e
     exact λy=>absurd (Nat.le_trans (ck.empty x c (PySem.mem_of_lookup z)).2 (y▸Nat.le_of_lt (tW b hb))) (Nat.not_succ_le_self _)
    ·rcases rJ e with q|q
     ·simp at q
     ·exact g4 x c q
  refine acn (λn s'=>∃i σ' H',Inv (fZ X N scope h3.objs.size {s2 with heap:=h3 } H3 fp) [] σ' H' s'/\tn i s'.heap/\(∀b∈fp,H' b=none)/\W i n σ' H') ?_ m0 ⟨0,eZ src σ,H3,I4,yK,λb hb=>(f3 b hb).1,w0⟩
  rintro n s5 ⟨i,σ5,H5,I5,jh,tK,w5⟩
  rcases turn i n σ5 H5 w5 with⟨stop,qn⟩|⟨go,step⟩
  ·refine bH (T.done (fZ X N scope h3.objs.size {s2 with heap:=h3 } H3 fp) rfl rfl rfl hc i [] s5 σ5 H5 (λ_ _=>False) I5 (stat tK) jh stop) λr s6 ⟨hr,I6⟩=>?_
   subst hr
   obtain⟨mC,hnC,_⟩:=id I6.loc
   have I7:Inv X pins σ H5 s6:=I3.call' (ch:=fp) I6.os I6.base I6.hok I6.bare λb hb=>by
    obtain⟨g0,g1,g2,g3,g4,g5⟩:=f3 b hb
    exact⟨g3,g1,g4,g5⟩
   refine hRR D h3.objs.size H5 s6 mC I7 I6.free (Nat.ne_of_gt I3.lt) I3.sz (λx c e z=>?_) (λp hp z=>?_) hnC qn
   ·obtain⟨v,q⟩:=I3.cell x c e
    exact absurd q.lt (by rw[z]; exact Nat.lt_irrefl _)
   ·exact absurd (Heap.lt_size (I3.pin p hp).1) (by rw[z]; exact Nat.lt_irrefl _)
  ·refine bH (T.item (fZ X N scope h3.objs.size {s2 with heap:=h3 } H3 fp) rfl rfl rfl hc i [] s5 σ5 H5 (λ_ _=>False) I5 (stat tK) jh go) λr s6 ⟨u,hr,h6⟩=>?_
   subst hr
   refine bH h6 λ_ s7 ⟨x,H7,I7,r7,y7,pY,Ij⟩=>?_
   have Ik:=I7.pinned (stat Ij) (T.obj _ _ pY)
   refine bH (hg _ _ _ _ _ s7 σ5 H7 x u _ Ik r7 (step x H7 y7)) λ_ s8 ⟨σ8,H8,I8,q8⟩=>?_
   refine bH (hq _ _ _ _ _ s8 σ8 H8 _ I8 q8) λbb s8' ⟨Tz,Du,Dv⟩=>?_
   cases bb with
   |false =>
    rw[if_neg (by decide)]at Dv ⊢
    obtain⟨m',hm,w9⟩:=Dv
    refine⟨m',hm,i+1,σ8,Tz,Du.vU (pins:=[]),T.keep _ _ _ pY λb hb o e=>(Du.pin (b,o) (List.mem_append_right _ (List.mem_append_right _ (rC hb e)))).1,λb hb=>?_,w9⟩
    obtain⟨o,e,d⟩:=T.obj _ _ pY b hb
    exact(Du.pin (b,o) (List.mem_append_right _ (List.mem_append_right _ (rC hb e)))).2.1
   |true =>
   rw[if_pos rfl]at Dv ⊢
   refine bH (he _ _ _ _ _ s8' σ8 Tz _ Du Dv) λyv s9 ⟨y,H9,I9,r9,q9⟩=>?_
   obtain⟨xs,e9,l9,m',hm,w9⟩:=q9
   refine bH (Ib (X:=fZ X N scope h3.objs.size {s2 with heap:=h3 } H3 fp) _ s9 σ8 H9 (.ref D) [y] (.ref D) [yv] (λ_ H'=>W (i+1) m' σ8 H') I9 rfl (.cons r9 .nil) ⟨D,xs,y,rfl,rfl,e9,l9,w9⟩) λ_ bM ⟨_,Il,tX,_,Im⟩=>?_
   refine⟨m',hm,i+1,σ8,Il,tX.vU (pins:=[]),T.keep _ _ _ pY λb hb o e=>(tX.pin (b,o) (List.mem_append_right _ (List.mem_append_right _ (rC hb e)))).1,λb hb=>?_,Im⟩
   obtain⟨o,e,d⟩:=T.obj _ _ pY b hb
   exact(tX.pin (b,o) (List.mem_append_right _ (List.mem_append_right _ (rC hb e)))).2.1
 exact codeAny_compStart_list loop (T.self _ _ _ _ _ yK loop)
theorem acp{i:Nat}{y:Str}{py spos:Pos}(hN:X.N.Nodup)(Io:X.N[i]?=some y)(hy:Loc X.env.scope y)(hsc:X.env.scope=sc)(jr:X.N=No)(S:tV sc No N src scope)(hc:X.calm=true)
  (hi:PI X tg iter wi) (hg:∀C s H ex,PG (fZ X N scope C s H ex) tg g) (hq:∀C s H ex,PT (fZ X N scope C s H ex) uE tc) (he:∀C s H ex,PE (fZ X N scope C s H ex) elt te)
  (hsw:swapsWith (.ListComp elt [⟨tg,iter,[uE],0⟩] scope pos) (some (.Name y py)) spos.line X.env=pure true:=by rfl) (hs:∀x,foldedSetIterable iter X.env x=pure x:=by intro _; rfl)
  (hf:X.fn y=true\/X.env.scope.names.lookup y=some .local:=by first|exact .inl rfl|exact .inr rfl|assumption) :
  PS X (.Assign [.Name y py] (.ListComp elt [⟨tg,iter,[uE],0⟩] scope pos) spos) (lN (uD wi g src tc te) (dW i)):=by
 refine⟨λpins s σ H D I h=>?_⟩
 rw[exec_Assign_Name_used _ _ _ _ hsw]
 have hcl:closureFor scope X.env=pure (dY X.env.cells scope.names []):=Cw λy hy e=>by
  have k:=S.free y hy e
  rw[<-hsc]at k
  obtain⟨c,q⟩:=I.ok.has y.1 k
  rw[q]; rfl
 refine wpAny_bind (wpAny_standAt (wpAny_bind ?_))
 show wpAny _ X.A (do let _ <-comprehension (.ListComp elt [⟨tg,iter,[uE],0⟩] scope pos) scope X.env _ (newList []) false (eval iter X.env) (some (assign (.Name y py) X.env))) _ _ s
 refine wpAny_bind (wpAny_mono (wpAny_comprehension_free (use:=some (assign (.Name y py) X.env)) (Q:=λ_ s'=>SP X pins D .next s') rfl hs hcl S.kind S.names
  (aco (Q:=λv H'=>D.nx (σ.set i (some v)) H') (RR:=λacc C=>compPost (model X.prog X.w) X.A X.xe (some (assign (.Name y py) X.env)) (λ_ s'=>SP X pins D .next s') acc C) hsc jr S hc hi hg hq he I h ?_)) (λ_ s' hq=>wpAny_pure (wpAny_pure hq)) λ_ _ e=>e)
 intro Da C H' s' m I' n1 n2 n3 n4 n5 hn q
 show wpAny _ X.A (assign (.Name y py) X.env (.ref Da)) _ _ _
 refine wpAny_assign_Name (Hh I' hN Io hy (v:=.ref Da) rfl (λs2 I2 hsame=>?_) hf)
 obtain⟨a,hsb,ha⟩:=hsame
 have Ip:C≠a:=by
  rcases ha with z|z
  ·rw[z]; exact n2
  ·exact λe=>n4 y a z e.symm
 refine⟨m,hn.sameBut hsb Ip,λh' hs'=>⟨σ.set i (some (.ref Da)),H',?_,q⟩⟩
 exact I2.turned (t':=s2.toks) (λb o hb e=>(hs'.2 b hb).trans e) n1 n2 (.inr n3) n4 n5
end
end L2
end
section
namespace L2
open PySem PySem.Spec PyProof.Rows
def su:Sl->Sl
 |.dp _=>.un
 |s=>s
def fV(src:List (Option Nat))(ρ : En):En:=src.map λo=>match o with
 |some j=>su ((ρ[j]?).getD .un)
 |none=>.un
def cU:List (Option Nat)->En->En->En
 |some j::src,.ow ts::ρi,ρ=>cU src ρi (cR j ts ρ)
 |some j::src,.rf ts::ρi,ρ=>cU src ρi (cR j ts ρ)
 |_::src,_::ρi,ρ=>cU src ρi ρ
 |_,_,ρ=>ρ
def o7:Option Sl->Bool
 |some (.ow _)=>true
 |some (.rf _)=>true
 |_=>false
def gh:List (Option Nat)->En->En->Bool
 |some j::src,s::ρi,ρ=>(!o7 ρ[j]? || o7 (some s))&&gh src ρi ρ
 |none::src,_::ρi,ρ=>gh src ρi ρ
 | [],_,_=>true
 |_,[],_=>false
theorem TF{ρ : En}{i:Nat}:o7 ρ[i]?=true↔Mu ρ i:=by
 constructor
 ·intro h
  unfold o7 at h
  split at h <;> rename_i q
  ·exact⟨_,.inl q⟩
  ·exact⟨_,.inr q⟩
  ·cases h
 ·rintro⟨ts,h|h⟩ <;> rw[h] <;> rfl
theorem Dw:∀{src:List (Option Nat)} {ρi ρ : En} {k j:Nat},gh src ρi ρ = true->src[k]?=some (some j)->Mu ρ j->Mu ρi k
 | [],_,_,_,_,_,h,_=>by simp at h
 |some j'::src,s::ρi,ρ,k,j,h,hk,m=>by
  unfold gh at h
  rw[Bool.and_eq_true]at h
  cases k with
  |zero =>
   simp at hk
   subst hk
   have h1:=h.1
   rw[TF.mpr m]at h1
   have h1:o7 (some s)=true:=by simpa using h1
   cases s with
   |un=>cases h1
   |sh _=>cases h1
   |dp _=>cases h1
   |ow ts=>exact⟨ts,.inl rfl⟩
   |rf ts=>exact⟨ts,.inr rfl⟩
  |succ k =>
   obtain⟨ts,q⟩:=Dw (k:=k) h.2 (by simpa using hk) m
   exact⟨ts,by simpa using q⟩
 |none::src,s::ρi,ρ,k,j,h,hk,m=>by
  unfold gh at h
  cases k with
  |zero=>simp at hk
  |succ k =>
   obtain⟨ts,q⟩:=Dw (k:=k) h (by simpa using hk) m
   exact⟨ts,by simpa using q⟩
 |some j'::src,[],ρ,k,j,h,hk,m=>by unfold gh at h; cases h
 |none::src,[],ρ,k,j,h,hk,m=>by unfold gh at h; cases h
def Inj(src:List (Option Nat)):Prop:=∀(k k' j:Nat),src[k]?=some (some j)->src[k']?=some (some j)->k=k'
theorem sy{src:List (Option Nat)}(h:(src.filterMap id).Nodup):Inj src:=by
 induction src with
 |nil=>intro k k' j h1; simp at h1
 |cons o src ih =>
  have tail:Inj src:=by
   cases o with
   |none=>exact ih (by simpa using h)
   |some j=>exact ih (by simpa using(List.nodup_cons.mp (by simpa using h)).2)
  intro k k' j h1 h2
  have no:∀{m:Nat},o=some j->src[m]?=some (some j)->False:=λ{m} e q=>by
   subst e
   have n:=(List.nodup_cons.mp (show(j::src.filterMap id).Nodup by simpa using h)).1
   exact n (List.mem_filterMap.mpr ⟨some j,List.mem_of_getElem? q,rfl⟩)
  cases k with
  |zero =>
   have e1:o=some j:=by simpa using h1
   cases k' with
   |zero=>rfl
   |succ k'=>exact(no e1 (by simpa using h2)).elim
  |succ k =>
   cases k' with
   |zero=>exact(no (by simpa using h2) (by simpa using h1)).elim
   |succ k'=>rw[tail k k' j (by simpa using h1) (by simpa using h2)]
theorem TJ{ρ : En}{i j:Nat}{ts:List Tr}(h:j≠i):(cR i ts ρ)[j]?=ρ[j]? := by
 unfold cR
 split
 ·exact List.getElem?_set_ne (Ne.symm h)
 ·exact List.getElem?_set_ne (Ne.symm h)
 ·rfl
theorem acq{ρ ρ':En}{i:Nat}{ts:List Tr}(h : ρ[i]?=ρ'[i]?):(cR i ts ρ)[i]?=(cR i ts ρ')[i]? := by
 unfold cR
 rw[h]
 cases q : ρ'[i]? with
 |none=>dsimp only; rw[h,q]
 |some s =>
  have l':i < ρ'.length:=(List.getElem?_eq_some_iff.mp q).1
  have l:i < ρ.length:=(List.getElem?_eq_some_iff.mp (h.trans q)).1
  cases s with
  |un=>dsimp only; rw[h,q]
  |sh _=>dsimp only; rw[h,q]
  |dp _=>dsimp only; rw[h,q]
  |ow _=>dsimp only; rw[ux l,ux l']
  |rf _=>dsimp only; rw[ux l,ux l']
theorem sE:∀(src:List (Option Nat)) (ρi ρ : En),(cU src ρi ρ).length = ρ.length
 | [],ρi,ρ=>by unfold cU; rfl
 |o::src,[],ρ=>by cases o <;> (unfold cU; rfl)
 |none::src,s::ρi,ρ=>by unfold cU; exact sE src ρi ρ
 |some j::src,.un::ρi,ρ=>by unfold cU; exact sE src ρi ρ
 |some j::src,.sh _::ρi,ρ=>by unfold cU; exact sE src ρi ρ
 |some j::src,.dp _::ρi,ρ=>by unfold cU; exact sE src ρi ρ
 |some j::src,.ow ts::ρi,ρ=>by unfold cU; rw[sE src ρi,Js]
 |some j::src,.rf ts::ρi,ρ=>by unfold cU; rw[sE src ρi,Js]
theorem lY:∀{src:List (Option Nat)} {ρi ρ : En} {j:Nat} {s:Sl},Inj src->(cU src ρi ρ)[j]?=some s ->
  (∃(k:Nat) (ts:List Tr),src[k]?=some (some j)/\(ρi[k]?=some (.ow ts)\/ρi[k]?=some (.rf ts))/\(cR j ts ρ)[j]?=some s)\/((∀k:Nat,src[k]?=some (some j)->¬Mu ρi k)/\ρ[j]?=some s)
 | [],ρi,ρ,j,s,_,h=>by
  unfold cU at h
  exact .inr ⟨λk q=>by simp at q,h⟩
 |o::src,[],ρ,j,s,_,h=>by
  have h : ρ[j]?=some s:=by cases o <;> (unfold cU at h; exact h)
  refine .inr ⟨λk _ m=>?_,h⟩
  obtain⟨_,q|q⟩:=m <;> simp at q
 |o::src,x::ρi,ρ,j,s,I,h=>by
  have It:Inj src:=λk k' j h1 h2=>by
   have:=I (k+1) (k'+1) j (by simpa using h1) (by simpa using h2)
   omega
  have keep:(o=none\/o7 (some x)=false)->(cU src ρi ρ)[j]?=some s->(∃(k:Nat) (ts:List Tr),(o::src)[k]?=some (some j)/\((x::ρi)[k]?=some (.ow ts)\/(x::ρi)[k]?=some (.rf ts))/\(cR j ts ρ)[j]?=some s)\/((∀k:Nat,(o::src)[k]?=some (some j)->¬Mu (x::ρi) k)/\ρ[j]?=some s):=λc h=>by
   rcases lY It h with⟨k,ts,q1,q2,q3⟩|⟨n,q⟩
   ·exact .inl ⟨k+1,ts,by simpa using q1,by simpa using q2,q3⟩
   ·refine .inr ⟨λk qk m=>?_,q⟩
    cases k with
    |zero =>
     rcases c with c|c
     ·subst c; simp at qk
     ·rw[<-TF]at m
      have m:o7 (some x)=true:=m
      rw[c]at m
      cases m
    |succ k =>
     obtain⟨ts,m⟩:=m
     exact n k (by simpa using qk) ⟨ts,by simpa using m⟩
  have put:∀(i:Nat) (ts:List Tr),o=some i->(x=.ow ts\/x=.rf ts)->(cU src ρi (cR i ts ρ))[j]?=some s->(∃(k:Nat) (ts:List Tr),(o::src)[k]?=some (some j)/\((x::ρi)[k]?=some (.ow ts)\/(x::ρi)[k]?=some (.rf ts))/\(cR j ts ρ)[j]?=some s)\/((∀k:Nat,(o::src)[k]?=some (some j)->¬Mu (x::ρi) k)/\ρ[j]?=some s):=λi ts eo ex h=>by
   rcases lY It h with⟨k,us,q1,q2,q3⟩|⟨n,q⟩
   ·have ne:j≠i:=λz=>by
     subst z
     have:=I 0 (k+1) j (by simpa using eo) (by simpa using q1)
     omega
    refine .inl ⟨k+1,us,by simpa using q1,by simpa using q2,?_⟩
    rw[<-acq (TJ ne)]
    exact q3
   ·by_cases e:j=i
    ·subst e
     refine .inl ⟨0,ts,by simpa using eo,?_,q⟩
     rcases ex with rfl|rfl
     ·exact .inl rfl
     ·exact .inr rfl
    ·rw[TJ e]at q
     refine .inr ⟨λk qk m=>?_,q⟩
     cases k with
     |zero =>
      rw[eo]at qk
      simp at qk
      exact e qk.symm
     |succ k =>
      obtain⟨ts,m⟩:=m
      exact n k (by simpa using qk) ⟨ts,by simpa using m⟩
  cases o with
  |none=>unfold cU at h; exact keep (.inl rfl) h
  |some i =>
   cases x with
   |un=>unfold cU at h; exact keep (.inr rfl) h
   |sh _=>unfold cU at h; exact keep (.inr rfl) h
   |dp _=>unfold cU at h; exact keep (.inr rfl) h
   |ow ts=>unfold cU at h; exact put i ts rfl (.inl rfl) h
   |rf ts=>unfold cU at h; exact put i ts rfl (.inr rfl) h
theorem zu{src:List (Option Nat)}{ρ : En}{k:Nat}{s:Sl}(h:(fV src ρ)[k]?=some s)(n:s ≠ .un):∃j,src[k]?=some (some j)/\ρ[j]?=some s:=by
 unfold fV at h
 rw[List.getElem?_map]at h
 cases q:src[k]? with
 |none=>rw[q]at h; cases h
 |some o =>
  rw[q]at h
  cases o with
  |none=>cases h; exact(n rfl).elim
  |some j =>
   refine⟨j,rfl,?_⟩
   have h:su ((ρ[j]?).getD .un)=s:=Option.some.inj h
   cases z : ρ[j]? with
   |none=>rw[z]at h; exact(n h.symm).elim
   |some s' =>
    rw[z]at h
    have h:su s'=s:=h
    cases s' <;> first|exact congrArg some h|exact(n h.symm).elim
theorem Dy{src:List (Option Nat)}{ρ : En}{k:Nat}{ts:List Tr}(h:(fV src ρ)[k]?=some (.dp ts)):False:=by
 unfold fV at h
 rw[List.getElem?_map]at h
 cases q:src[k]? with
 |none=>rw[q]at h; cases h
 |some o =>
  rw[q]at h
  cases o with
  |none=>cases h
  |some j =>
   have h:su ((ρ[j]?).getD .un)=.dp ts:=Option.some.inj h
   cases z:(ρ[j]?).getD Sl.un <;> rw[z]at h <;> cases h
theorem lZ{src:List (Option Nat)}{ρi ρ : En}{j:Nat}{ts:List Tr}(I:Inj src)(h:(cU src ρi ρ)[j]?=some (.dp ts)) : ρ[j]?=some (.dp ts):=by
 rcases lY I h with⟨k,us,_,_,q⟩|⟨_,q⟩
 ·exact rW q
 ·exact q
theorem Jz{src:List (Option Nat)}{σ : St}{k j:Nat}(h:src[k]?=some (some j)):(eZ src σ)[k]?=some ((σ[j]?).join):=by
 unfold eZ
 rw[List.getElem?_map,h]
 rfl
end L2
end
section
namespace L2
open PySem PySem.Spec PyProof.Rows
def OU(src:List (Option Nat))(ρ : En)(σ : St)(F:Nat->List Addr)(b:Addr):Prop:=(∃j:Nat,Mu ρ j/\σ[j]?=some (some (.ref b))/\∀k:Nat,src[k]? ≠ some (some j))\/∃(j:Nat) (ts:List Tr),ρ[j]?=some (.dp ts)/\b∈F j
open Classical in
def iw(t:Tx)(src:List (Option Nat))(ρ : En)(σ : St)(F:Nat->List Addr)(H1:Hp)(D:Addr)(xs:List V):Tx:=⟨t.K,t.Z,t.R,t.H0,λb=>if b=D then some (.lst xs)else if OU src ρ σ F b then H1 b else t.B b,λ_=>False⟩
section
variable {t:Tx}{src:List (Option Nat)}{ρ1:En}{σ : St}{F:Nat->List Addr}{H1:Hp}{D:Addr}{W:Addr->Prop}
theorem sG{xs:List V}:(iw t src ρ1 σ F H1 D xs).B D=some (.lst xs):=if_pos rfl
theorem sH{xs:List V}{b:Addr}(h1:b≠D)(h2:¬OU src ρ1 σ F b):(iw t src ρ1 σ F H1 D xs).B b=t.B b:=by
 unfold iw
 dsimp only
 rw[if_neg h1,if_neg h2]
theorem uF{xs:List V}{b:Addr}(h1:b≠D)(h2:OU src ρ1 σ F b):(iw t src ρ1 σ F H1 D xs).B b=H1 b:=by
 unfold iw
 dsimp only
 rw[if_neg h1,if_pos h2]
theorem JB{k:Nat}(h:Mu (fV src ρ1) k):∃j,src[k]?=some (some j)/\Mu ρ1 j:=by
 obtain⟨ts,q|q⟩:=h
 ·obtain⟨j,h1,h2⟩:=zu q (by intro z; cases z)
  exact⟨j,h1,ts,.inl h2⟩
 ·obtain⟨j,h1,h2⟩:=zu q (by intro z; cases z)
  exact⟨j,h1,ts,.inr h2⟩
theorem JC{k j:Nat}{v:V}(h:src[k]?=some (some j))(q:(eZ src σ)[k]?=some (some v)) : σ[j]?=some (some v):=by
 rw[Jz h]at q
 have q:=Option.some.inj q
 cases z : σ[j]? with
 |none=>rw[z]at q; cases q
 |some o =>
  rw[z]at q
  have q:o=some v:=q
  rw[q]
theorem zx{k j:Nat}{v:V}(h:src[k]?=some (some j))(q : σ[j]?=some (some v)):(eZ src σ)[k]?=some (some v):=by
 rw[Jz h,q]
 rfl
theorem OU.tab{b:Addr}(dG:EOF t W ρ1 σ H1 F)(z:Tb t.K b):¬OU src ρ1 σ F b:=by
 rintro(⟨j,m,q,_⟩|⟨j,ts,d',y⟩)
 ·obtain⟨xs,h⟩:=aV.Tc ⟨F,dG⟩ m q
  exact dG.tab.ok.ne z h rfl
 ·obtain⟨a,xs,_,d⟩:=dG.dp j ts d'
  exact d.nt dG.tab.ok z y
theorem acr{xs:List V}{b:Addr}(dG:EOF t W ρ1 σ H1 F)(hD:H1 D=none)(z:Tb t.K b):(iw t src ρ1 σ F H1 D xs).B b=none:=by
 have nD:b≠D:=λy=>by
  obtain⟨ps,h⟩:=dG.tab.ok.dM z
  rw[y,hD]at h
  cases h
 rw[sH nD (OU.tab dG z)]
 exact dG.tab.B b z
theorem EOF.enter(I:Inj src)(dG:EOF t W ρ1 σ H1 F)(hD:H1 D=none):aV (iw t src ρ1 σ F H1 D []) (λb=>W b\/b=D) (fV src ρ1) (eZ src σ) (upd H1 D (.lst [])):=by
 have e1:aV t W ρ1 σ H1:=⟨F,dG⟩
 have e2:=(e1.hide (fG hD (.lst [])) hD dI).ok
 have tf:=e2.tab
 refine⟨λ_=>[],?_,e2.zw,e2.z0,e2.wl,e2.f0,e2.n0,λk u h=>?_,λk ts h=>?_,λk ts h=>?_,λk k' a m1 m2 q1 q2=>?_,λb o h=>?_,λk a m q=>?_,λk ts h=>(Dy h).elim,λk _ ts _ _ h=>(Dy h).elim,λk _ ts _ h=>(Dy h).elim,λk ts h=>(Dy h).elim,⟨tf.ok,tf.w,tf.r,λb z=>acr dG hD z⟩⟩
 ·unfold fV eZ
  rw[List.length_map,List.length_map]
 ·obtain⟨j,h1,h2⟩:=zu h (by intro z; cases z)
  obtain⟨v,q1,q2⟩:=e2.sh j u h2
  exact⟨v,zx h1 q1,q2⟩
 ·obtain⟨j,h1,h2⟩:=zu h (by intro z; cases z)
  obtain⟨a,xs,q1,q2⟩:=e2.ow j ts h2
  exact⟨a,xs,zx h1 q1,q2⟩
 ·obtain⟨j,h1,h2⟩:=zu h (by intro z; cases z)
  obtain⟨a,xs,q1,q2⟩:=e2.rf j ts h2
  exact⟨a,xs,zx h1 q1,q2⟩
 ·obtain⟨j,h1,n1⟩:=JB m1
  obtain⟨j',h2,n2⟩:=JB m2
  have:=e2.dis j j' a n1 n2 (JC h1 q1) (JC h2 q2)
  subst this
  exact I k k' j h1 h2
 ·by_cases h1:b=D
  ·subst h1
   rw[sG]at h
   rw[dI]
   exact h
  ·by_cases h2:OU src ρ1 σ F b
   ·rw[uF h1 h2]at h
    rw[bB h1]
    exact h
   ·rw[sH h1 h2]at h
    exact e2.pn b o h
 ·obtain⟨j,h1,n1⟩:=JB m
  have q:=JC h1 q
  have wa:=e1.addr n1 q
  have nD:a≠D:=λz=>by subst z; exact e1.wn a wa hD
  have nO:¬OU src ρ1 σ F a:=by
   rintro(⟨j',m',q',u'⟩|⟨j',ts,d',z⟩)
   ·have:=e1.dis j j' a n1 m' q q'
    subst this
    exact u' k h1
   ·exact dG.dm j' j ts a d' n1 q z
  rw[sH nD nO]
  exact e1.pd j a n1 q
theorem aV.acs{xs ys:List V}{ρ : En}{τ : St}{H:Hp}{W':Addr->Prop}(e:aV (iw t src ρ1 σ F H1 D xs) W' ρ τ H)(w:W' D)(h0:t.H0 D=none):aV (iw t src ρ1 σ F H1 D ys) W' ρ τ (upd H D (.lst ys)):=by
 have ne:∀i a,Mu ρ i -> τ[i]?=some (some (.ref a))->a≠D:=λi a m q z=>by
  subst z
  have:=e.pd i a m q
  rw[sG]at this
  cases this
 obtain⟨F',e⟩:=e
 have zy:∀i ts,ρ[i]?=some (Sl.dp ts)->∀b∈F' i,b≠D:=λi ts h b hb z=>by
  subst z
  have:=e.db i ts h b hb
  rw[sG]at this
  cases this
 refine⟨F',e.len,e.zw,e.z0,λb z=>?_,λb o h n=>?_,λb h=>?_,λi u h=>?_,λi ts h=>?_,λi ts h=>?_,e.dis,λb o h=>?_,λi a m q=>?_,λi ts h=>?_,e.dd,e.dm,λi ts h b hb=>?_,⟨e.tab.ok.upd (e.pn D _ sG),e.tab.w,e.tab.r,λb z=>?_⟩⟩
 ·by_cases q:b=D
  ·subst q; exact .inl ⟨ys,dI⟩
  ·unfold Lt; rw[bB q]; exact e.wl b z
 ·rw[bB]
  ·exact e.f0 b o h n
  ·rintro rfl
   have h:t.H0 b=some o:=h
   rw[h0]at h
   cases h
 ·by_cases q:b=D
  ·subst q; exact h0
  ·rw[bB q]at h; exact e.n0 b h
 ·rw[lu w]
  exact e.sh i u h
 ·obtain⟨a,zs,q1,q2,q3,q4,q5⟩:=e.ow i ts h
  rw[lu w]
  exact⟨a,zs,q1,q2,q3,by rw[bB (ne i a ⟨ts,.inl h⟩ q1)]; exact q4,q5⟩
 ·obtain⟨a,zs,q1,q2,q3,q4,q5⟩:=e.rf i ts h
  rw[lu w]
  exact⟨a,zs,q1,q2,q3,by rw[bB (ne i a ⟨ts,.inr h⟩ q1)]; exact q4,q5⟩
 ·by_cases h1:b=D
  ·subst h1
   rw[sG]at h
   rw[dI]
   exact h
  ·rw[bB h1]
   refine e.pn b o ?_
   by_cases h2:OU src ρ1 σ F b
   ·rw[uF h1 h2]at h ⊢; exact h
   ·rw[sH h1 h2]at h ⊢; exact h
 ·have nD:=ne i a m q
  have z:=e.pd i a m q
  by_cases h2:OU src ρ1 σ F a
  ·rw[uF nD h2]at z ⊢; exact z
  ·rw[sH nD h2]at z ⊢; exact z
 ·obtain⟨a,zs,q1,d⟩:=e.dp i ts h
  exact⟨a,zs,q1,d.move rfl rfl (by rw[lu w]; exact Same.refl _) (λb hb=>by obtain⟨_,_,_,ww,_⟩:=d; exact(ww b hb).1) λb o hb q=>by rw[bB (zy i ts h b hb)]; exact q⟩
 ·have nD:=zy i ts h b hb
  have z:=e.db i ts h b hb
  by_cases h2:OU src ρ1 σ F b
  ·rw[uF nD h2]at z ⊢; exact z
  ·rw[sH nD h2]at z ⊢; exact z
 ·have y:=e.tab.B b z
  have nD:b≠D:=λq=>by
   subst q
   rw[sG]at y
   cases y
  by_cases h2:OU src ρ1 σ F b
  ·rw[uF nD h2]at y ⊢; exact y
  ·rw[sH nD h2]at y ⊢; exact y
theorem EOF.leave{xs:List V}{ρ : En}{τ : St}{H:Hp}{Wx:Addr->Prop}{js:List Nat}(I:Inj src)(dG:EOF t W ρ1 σ H1 F)(hD:H1 D=none)(e:aV (iw t src ρ1 σ F H1 D xs) (λb=>W b\/b=D) ρ τ H)(nx:∀b o,¬W b->H1 b=some o->H b=some o)
  (hj:∀k j:Nat,src[k]?=some (some j)->k∉js) (ag:∀k,k∉js -> τ[k]?=(eZ src σ)[k]?) (so:gh src ρ ρ1=true) (w1:∀b,W b->Wx b) (w2:∀b,Wx b->W b\/b=D):EOF t Wx (cU src ρ ρ1) σ H F:=by
 have e1:aV t W ρ1 σ H1:=⟨F,dG⟩
 have m1:Same (aO W H1) (aO Wx H):=λb o h=>by
  obtain⟨n,h⟩:=ji h
  rw[fK]
  ·exact nx b o n h
  ·intro z
   rcases w2 b z with z|rfl
   ·exact n z
   ·rw[hD]at h; cases h
 have m2:Same (aO (λb=>W b\/b=D) H) (aO Wx H):=oK (λb _ _ z=>w2 b z) λ_ _ _ h=>h
 have qp:∀j,Mu (cU src ρ ρ1) j->Mu ρ1 j:=λj m=>by
  obtain⟨ts,m|m⟩:=m <;> rcases lY I m with⟨k,us,q1,q2,q3⟩|⟨n,q⟩
  ·exact oX ⟨ts,.inl q3⟩
  ·exact⟨ts,.inl q⟩
  ·exact oX ⟨ts,.inr q3⟩
  ·exact⟨ts,.inr q⟩
 have inner:∀(k j:Nat) (ts:List Tr) (a:Addr),src[k]?=some (some j)->(ρ[k]?=some (.ow ts)\/ρ[k]?=some (.rf ts)) -> σ[j]?=some (some (.ref a))->∃ys,H a=some (.lst ys)/\aR t.K (aO Wx H) ys ts:=λk j ts a q1 q2 q3=>by
  have z:=ag k (hj k j q1)
  rw[zx q1 q3]at z
  rcases q2 with q2|q2
  ·obtain⟨c,ys,h1,h2,h3,h4,h5⟩:=e.ow k ts q2
   rw[z]at h1
   cases h1
   exact⟨ys,h4,h5.mono m2⟩
  ·obtain⟨c,ys,h1,h2,h3,h4,h5⟩:=e.rf k ts q2
   rw[z]at h1
   cases h1
   exact⟨ys,h4,h5.mono m2⟩
 have outer:∀(j:Nat) (a:Addr) (ys:List V),Mu ρ1 j->(∀k,src[k]?=some (some j)->¬Mu ρ k) -> σ[j]?=some (some (.ref a))->H1 a=some (.lst ys)->H a=some (.lst ys):=λj a ys m n q h=>by
  have wa:=e1.addr m q
  have nD:a≠D:=λz=>by subst z; exact e1.wn a wa hD
  refine e.pn a _ ?_
  rw[uF nD (.inl ⟨j,m,q,λk z=>n k z (Dw so z m)⟩)]
  exact h
 refine⟨by rw[sE]; exact e1.len,λb z=>w1 b (e1.zw b z),e1.z0,λb z=>e.wl b (w2 b z),e.f0,e.n0,λj u h=>?_,λj ts h=>?_,λj ts h=>?_,λj k a n1 n2=>e1.dis j k a (qp j n1) (qp k n2),λb o h=>?_,λj a m=>e1.pd j a (qp j m),λj ts h=>?_,λj k ts us n h1 h2=>dG.dd j k ts us n (lZ I h1) (lZ I h2),λj k ts c h1 m q=>dG.dm j k ts c (lZ I h1) (qp k m) q,λj ts h=>dG.db j ts (lZ I h),⟨e.tab.ok,λb z=>w1 b (e1.tab.w b z),e1.tab.r,e1.tab.B⟩⟩
 ·have h' : ρ1[j]?=some (.sh u):=by
   rcases lY I h with⟨k,us,q1,q2,q3⟩|⟨n,q⟩
   ·rcases oY q3 with⟨ne,_⟩|⟨_,⟨_,_,z⟩|⟨_,_,z⟩|⟨_,q⟩⟩
    ·exact(ne rfl).elim
    ·cases z
    ·cases z
    ·exact q
   ·exact q
  obtain⟨v,q1,q2⟩:=e1.sh j u h'
  exact⟨v,q1,q2.mono m1⟩
 ·rcases lY I h with⟨k,us,q1,q2,q3⟩|⟨n,q⟩
  ·rcases oY q3 with⟨ne,_⟩|⟨_,⟨ts0,q0,z⟩|⟨_,_,z⟩|⟨nm,q⟩⟩
   ·exact(ne rfl).elim
   ·cases z
    obtain⟨a,ys,h1,h2,h3,h4,h5⟩:=e1.ow j ts0 q0
    obtain⟨zs,k1,k2⟩:=inner k j ts a q1 q2 h1
    exact⟨a,zs,h1,w1 a h2,h3,k1,k2⟩
   ·cases z
   ·exact(nm ⟨ts,.inl q⟩).elim
  ·obtain⟨a,ys,h1,h2,h3,h4,h5⟩:=e1.ow j ts q
   exact⟨a,ys,h1,w1 a h2,h3,outer j a ys ⟨ts,.inl q⟩ n h1 h4,h5.mono m1⟩
 ·rcases lY I h with⟨k,us,q1,q2,q3⟩|⟨n,q⟩
  ·rcases oY q3 with⟨ne,_⟩|⟨_,⟨_,_,z⟩|⟨ts0,q0,z⟩|⟨nm,q⟩⟩
   ·exact(ne rfl).elim
   ·cases z
   ·cases z
    obtain⟨a,ys,h1,h2,h3,h4,h5⟩:=e1.rf j ts0 q0
    obtain⟨zs,k1,k2⟩:=inner k j ts a q1 q2 h1
    exact⟨a,zs,h1,w1 a h2,h3,k1,k2⟩
   ·exact(nm ⟨ts,.inr q⟩).elim
  ·obtain⟨a,ys,h1,h2,h3,h4,h5⟩:=e1.rf j ts q
   exact⟨a,ys,h1,w1 a h2,h3,outer j a ys ⟨ts,.inr q⟩ n h1 h4,h5.mono m1⟩
 ·have nD:b≠D:=λz=>by
   subst z
   rw[e1.Di hD]at h
   cases h
  have nO:¬OU src ρ1 σ F b:=by
   rintro(⟨j,m,q,_⟩|⟨j,ts,d',z⟩)
   ·rw[e1.pd j b m q]at h
    cases h
   ·rw[dG.db j ts d' b z]at h
    cases h
  refine e.pn b o ?_
  rw[sH nD nO]
  exact h
 ·have hd:=lZ I h
  obtain⟨a,ys,q1,d⟩:=dG.dp j ts hd
  have ww:∀b∈F j,W b:=λb hb=>by obtain⟨_,_,_,ww,_⟩:=d; exact(ww b hb).1
  refine⟨a,ys,q1,d.move rfl rfl m1 (λb hb=>w1 b (ww b hb)) λb o hb q=>?_⟩
  have nD:b≠D:=λz=>by subst z; exact e1.wn b (ww b hb) hD
  refine e.pn b o ?_
  rw[uF nD (.inr ⟨j,ts,hd,hb⟩)]
  exact q
end
def mq:Rv->Rs Tr
 |.v T _=>.ok T
 |.s _=>.bad
theorem TQ(r:Rv)(c:Str):mq r ≠ .ex c:=by cases r <;> (intro z; cases z)
def gR(g:GF)(c:BF)(f:EF):List Tr->En->Rs (List Tr × En)
 | [],ρ=>.ok ([],ρ)
 |u::us,ρ=>(g u ρ).bind λρ1=>(c ρ1).bind λb=>if b.1=true then(f b.2).bind λp=>(mq p.1).bind λT=>(gR g c f us p.2).bind λz=>.ok (T::z.1,z.2)else gR g c f us b.2
def cD(src:List (Option Nat))(fi:IF)(g:GF)(c:BF)(f:EF):EF:=λρ=>(fi ρ).bind λp=>if p.1.length<=100000 then(cV (gR g c f p.1 (fV src p.2))).bind λz=>if gh src z.2 p.2=true then .ok (.v (.lst z.1) true,cU src z.2 p.2)else .bad else .bad
theorem TV{t:Tx}{wi:TI}{g:TG}{src:List (Option Nat)}{tc:TT}{te:TE}{fi:IF}{gf:GF}{c:BF}{f:EF}{js:List Nat}(hi:SI t wi fi)(I:Inj src)(hj:∀k j:Nat,src[k]?=some (some j)->k∉js)(ng:∀T ρ c,gf T ρ ≠ .ex c)
  (hg:∀t':Tx,t'.K=t.K->(∀c,¬t'.EX c)->SG t' g gf js) (hc:∀t':Tx,t'.K=t.K->(∀c,¬t'.EX c)->ST t' tc c) (he:∀t':Tx,t'.K=t.K->(∀c,¬t'.EX c)->SE t' te f):SE t (uD wi g src tc te) (cD src fi gf c f):=λW ρ σ H Q e h=>by
 refine hi W ρ σ H _ e (Rs.bG (Rs.bh h) λp h J H1 e1 s1 it=>?_)
 obtain⟨us,ρ1⟩:=p
 dsimp only at h it e1
 split at h
 case isFalse=>exact h.elim
 rename_i hlen
 intro D hD
 have h:=Dr (Rs.bh h)
 obtain⟨F,dG⟩:=id e1
 have wD:∀b,W b->b≠D:=λb w z=>by subst z; exact e1.wn b w hD
 have wK:t.H0 D=none:=e1.n0 D hD
 refine⟨λi m τ H'=>m=us.length-i/\i<=us.length/\∃ρ' xs acc,aV (iw t src ρ1 σ F H1 D xs) (λb=>W b\/b=D) ρ' τ H'/\aR t.K (aO (λb=>W b\/b=D) H') xs acc/\xs.length<=i/\(∀b o,¬W b->H1 b=some o->H' b=some o)/\(∀k,k∉js -> τ[k]?=(eZ src σ)[k]?) /\
   (gR gf c f (us.drop i) ρ').post (λ_=>False) (λz=>(if gh src z.2 ρ1=true then .ok (.v (.lst (acc++z.1)) true,cU src z.2 ρ1)else .bad:Rs (Rv × En)).post t.EX (λp=>∀v H',aV t W p.2 σ H'->bT W H H'->iz t W p.2 σ H H' v p.1->Q v H')),?_,?_⟩
 ·refine⟨us.length,by simp,Nat.zero_le _,fV src ρ1,[],[],dG.enter I hD,.nil,Nat.le_refl _,λb o _ q=>?_,λ_ _=>rfl,?_⟩
  ·rw[bB (iR q hD)]; exact q
  ·rw[List.drop_zero]; exact h
 ·rintro i m τ H2 ⟨rfl,hi,ρ2,xs,acc,e2,r2,l2,n2,a2,h2⟩
  have sm:Same (aO W H1) (aO (λb=>W b\/b=D) H2):=λb o q=>by
   obtain⟨nw,q⟩:=ji q
   rw[fK]
   ·exact n2 b o nw q
   ·rintro(z|rfl)
    ·exact nw z
    ·rw[hD]at q; cases q
  have q:=it _ H2 sm e2.wl i
  by_cases hlt:i<us.length
  ·rw[List.drop_eq_getElem_cons hlt]at h2
   obtain⟨go,y⟩:=q.2 us[i] (by simp[hlt])
   refine .inr ⟨go,λx H3 yl=>?_⟩
   obtain⟨s3,r3⟩:=y x H3 yl
   have e3:=e2.grow s3
   refine hg (iw t src ρ1 σ F H1 D xs) rfl (λ_=>id) _ ρ2 τ H3 x us[i] _ e3 r3 (Rs.bG (jK (Rs.bh h2) (ng _ _)) λρ4 h σ4 e4 a4=>?_)
   refine hc (iw t src ρ1 σ F H1 D xs) rfl (λ_=>id) _ ρ4 σ4 H3 _ e4 (Rs.bG (Rs.bh h) λb h H5 e5 s5=>?_)
   have jh:bT (λb=>W b\/b=D) H2 H5:=(bT.of s3).trans s5
   have n5:∀b o,¬W b->H1 b=some o->H5 b=some o:=λb o nw qb=>by
    have nD:b≠D:=iR qb hD
    refine jh.keep b o ?_ (n2 b o nw qb)
    rintro(z|z)
    ·exact nw z
    ·exact nD z
   have a5:∀k,k∉js -> σ4[k]?=(eZ src σ)[k]? := λk nk=>(a4 k nk).trans (a2 k nk)
   split at h
   ·rename_i cb
    rw[if_pos cb]
    refine he (iw t src ρ1 σ F H1 D xs) rfl (λ_=>id) _ b.2 σ4 H5 _ e5 (Rs.bG (Rs.bh h) λp h v H6 e6 s6 v6=>?_)
    obtain⟨T,kT,h⟩:=dh (Rs.bh h) (TQ _)
    have rv:Rep t.K (aO (λb=>W b\/b=D) H6) v T:=by
     obtain⟨r,ρ7⟩:=p
     cases r with
     |s i=>cases kT
     |v U fr =>
      cases kT
      exact eG.rep (K:=t.K) e5.wn v6.1
    refine⟨xs,e6.pn D _ sG,Nat.lt_of_le_of_lt (show xs.length<=100000 by omega) (by decide),us.length-(i+1),by omega,rfl,hlt,p.2,xs++[v],acc++[T],e6.acs (.inr rfl) wK,?_,by rw[List.length_append]; simp; omega,λb o nw q=>?_,a5,?_⟩
    ·rw[lu (.inr rfl)]
     exact(r2.mono (jh.trans s6).off).app (.cons rv .nil)
    ·have nD:b≠D:=iR q hD
     rw[bB nD]
     refine s6.keep b o ?_ (n5 b o nw q)
     rintro(z|z)
     ·exact nw z
     ·exact nD z
    ·refine Rs.bG (Rs.bh h) λz h=>?_
     rw[List.append_assoc]
     exact h
   ·rename_i cb
    rw[if_neg cb]
    exact⟨us.length-(i+1),by omega,rfl,hlt,b.2,xs,acc,e5,r2.mono jh.off,by omega,n5,a5,h⟩
  ·have z:i=us.length:=by omega
   subst z
   rw[List.drop_length]at h2
   have h2:(if gh src ρ2 ρ1=true then .ok (.v (.lst (acc++[])) true,cU src ρ2 ρ1)else .bad:Rs (Rv × En)).post t.EX _:=h2
   refine .inl ⟨q.1 rfl,?_⟩
   split at h2
   ·rename_i so
    rw[List.append_nil]at h2
    have hxs:H2 D=some (.lst xs):=e2.pn D _ sG
    have eW:aV t W (cU src ρ2 ρ1) σ H2:=⟨F,dG.leave (Wx:=W) I hD e2 n2 hj a2 so (λ_ w=>w) λ_ w=>.inl w⟩
    have eD:p7 t W D (cU src ρ2 ρ1) σ H2:=⟨F,dG.leave (Wx:=λb=>W b\/b=D) I hD e2 n2 hj a2 so (λ_ w=>.inl w) λ_ w=>w,λi ts hi z=>by
     obtain⟨c,ys,_,bs,_,_,ww,_⟩:=dG.dp i ts (lZ I hi)
     exact wD D (ww D z).1 rfl⟩
    have st:bT W H1 H2:=⟨n2,λb q=>by
     cases z:H1 b with
     |none=>rfl
     |some o =>
      by_cases w:W b
      ·exact((e2.wl b (.inl w)).ne q).elim
      ·rw[n2 b o w z]at q
       cases q⟩
    refine h2 (.ref D) H2 eW (s1.trans st) ⟨⟨D,xs,acc,rfl,rfl,s1.dom D hD,hxs,r2.mono λb o q=>?_⟩,λU a _ ea=>?_⟩
    ·obtain⟨nb,q⟩:=ji q
     rw[off_ne λz=>nb (.inr z),fK λz=>nb (.inl z)]
     exact q
    ·cases ea
     exact eD
   ·exact h2.elim
def cH:BF:=λρ=>.ok (true,ρ)
theorem TY{wi:TI}{g:TG}{src:List (Option Nat)}{te:TE}:rK wi g src te=uD wi g src (λ_ H Q=>Q true H) te:=by
 funext σ H Q
 simp only[rK,uD,if_true]
theorem wL{t:Tx}{wi:TI}{g:TG}{src:List (Option Nat)}{te:TE}{fi:IF}{gf:GF}{f:EF}{js:List Nat}(hi:SI t wi fi)(I:Inj src)(hj:∀k j:Nat,src[k]?=some (some j)->k∉js)(ng:∀T ρ c,gf T ρ ≠ .ex c)
  (hg:∀t':Tx,t'.K=t.K->(∀c,¬t'.EX c)->SG t' g gf js) (he:∀t':Tx,t'.K=t.K->(∀c,¬t'.EX c)->SE t' te f):SE t (rK wi g src te) (cD src fi gf cH f):=by
 rw[TY]
 exact TV hi I hj ng hg (λt' _ _ W ρ σ H Q e h=>h H e (bT.refl _ _)) he
end L2
end
section
namespace L2
open PySem PySem.Spec PyProof.Rows
theorem PS.jg{X:Cx}{st:Stmt}{t:TS}(h:PS X.jg st t):PS X st t:=⟨λpins s σ H D I hw =>
 wpAny_mono (h pins s σ H D (I.wish _) hw) (λ_ _ q=>q.rB) λ_ _ z=>False.elim z⟩
theorem aV.ex{t:Tx}{EX:Str->Prop}{W:Addr->Prop}{ρ : En}{σ : St}{H:Hp}(e:aV t W ρ σ H):aV {t with EX:=EX } W ρ σ H:=e.elim λF e=>⟨F,e.len,e.zw,e.z0,e.wl,e.f0,e.n0,e.sh,e.ow,e.rf,e.dis,e.pn,e.pd,e.dp,e.dd,e.dm,e.db,⟨e.tab.ok,e.tab.w,e.tab.r,e.tab.B⟩⟩
theorem aV.Dz{t:Tx}{EX:Str->Prop}{W:Addr->Prop}{ρ : En}{σ : St}{H:Hp}(e:aV {t with EX:=EX } W ρ σ H):aV t W ρ σ H:=e.elim λF e=>⟨F,e.len,e.zw,e.z0,e.wl,e.f0,e.n0,e.sh,e.ow,e.rf,e.dis,e.pn,e.pd,e.dp,e.dd,e.dm,e.db,⟨e.tab.ok,e.tab.w,e.tab.r,e.tab.B⟩⟩
def bZ(f:SF):SF:=λρ=>cV (f ρ)
theorem T3{t:Tx}{ts:TS}{f:SF}(h:∀t':Tx,t'.K=t.K->(∀c,¬t'.EX c)->SS t' ts f):SS t ts (bZ f):=λW ρ σ H D e q=>by
 refine h {t with EX:=λ_=>False } rfl (λ_=>id) W ρ σ H D e.ex (Rs.bG (Dr q) λp q=>?_)
 obtain⟨fl,ρ'⟩:=p
 cases fl with
 |nx=>exact λW' σ' H' e' n=>q W' σ' H' e'.Dz n
 |rt T fr =>
  refine λv W' σ' H' e' n=>q v W' σ' H' e'.Dz ?_
  cases fr <;> exact n
 |bk=>exact λW' σ' H' e' n=>q W' σ' H' e'.Dz n
 |ct=>exact λW' σ' H' e' n=>q W' σ' H' e'.Dz n
theorem acu{p:Int->Int->Int}(a b:Tr)(c:Str):gI p a b ≠ .ex c:=by
 cases a <;> cases b <;> (intro z; cases z)
theorem JD{q:Int->Int->Bool}{p:Int->Int->Int}(a b:Tr)(c:Str):ju q p a b ≠ .ex c:=by
 cases a <;> cases b <;> first|(intro z; cases z; done)|(dsimp only[ju]; split <;> (intro z; cases z))
theorem JF{p:Int->Int->Bool}(a b:Tr)(c:Str):gB p a b ≠ .ex c:=by
 cases a <;> cases b <;> (intro z; cases z)
theorem acv(a b:Tr)(c:Str):cj a b ≠ .ex c:=by unfold cj; split <;> (intro z; cases z)
theorem acw(a b:Tr)(c:Str):dO a b ≠ .ex c:=by unfold dO; split <;> (intro z; cases z)
theorem T4{f:Bool->Bool}(a b:Tr)(c:Str):fQ f a b ≠ .ex c:=by
 cases b <;> first|(intro z; cases z; done)|(dsimp only[fQ]; split <;> (intro z; cases z))
theorem acy(a b:Tr)(c:Str):cB a b ≠ .ex c:=by
 cases a <;> cases b <;> first|(intro z; cases z; done)|(dsimp only[cB]; split <;> (intro z; cases z))
theorem acz(a b:Tr)(c:Str):bU a b ≠ .ex c:=by
 cases a <;> cases b <;> first|(intro z; cases z; done)|(dsimp only[bU]; split <;> (intro z; cases z))
theorem acA(a b:Tr)(c:Str):fU a b ≠ .ex c:=JD a b c
theorem acB(a b:Tr)(c:Str):dR a b ≠ .ex c:=JD a b c
theorem acC(a b:Tr)(c:Str):gJ a b ≠ .ex c:=JD a b c
theorem acD(a b:Tr)(c:Str):fD a b ≠ .ex c:=acu a b c
theorem acE(a b:Tr)(c:Str):wu a b ≠ .ex c:=JF a b c
theorem JG(a b:Tr)(c:Str):d7 a b ≠ .ex c:=JF a b c
theorem acF(a b:Tr)(c:Str):lA a b ≠ .ex c:=JF a b c
theorem T5(a b:Tr)(c:Str):d8 a b ≠ .ex c:=by
 cases a <;> cases b <;> first|(intro z; cases z; done)|(dsimp only[d8]; split <;> (intro z; cases z))
theorem acG(a b:Tr)(c:Str):aB a b ≠ .ex c:=by
 cases a <;> cases b <;> first|(intro z; cases z; done)|(dsimp only[aB]; split <;> first|(intro z; cases z; done)|(split <;> (intro z; cases z)))
theorem acH(a:Tr)(c:Str):mZ a ≠ .ex c:=by cases a <;> (intro z; cases z)
theorem acI(a:Tr)(c:Str):bK a ≠ .ex c:=by
 cases a <;> first|(intro z; cases z; done)|(dsimp only[bK]; split <;> (intro z; cases z))
theorem acJ(a:Tr)(c:Str):wF a ≠ .ex c:=by cases a <;> (intro z; cases z)
theorem acK(a:Tr)(c:Str):lD a ≠ .ex c:=by cases a <;> (intro z; cases z)
theorem acL(a b:Tr)(c:Str):wG a b ≠ .ex c:=by cases a <;> cases b <;> (intro z; cases z)
theorem acM(a b:Tr)(c:Str):wH a b ≠ .ex c:=by cases a <;> cases b <;> (intro z; cases z)
theorem acN(a:Tr)(c:Str):gA a ≠ .ex c:=by
 cases a <;> first|(intro z; cases z; done)|(dsimp only[gA]; split <;> (intro z; cases z))
theorem iG{i:Nat}(T:Tr)(ρ : En)(c:Str):gN i T ρ ≠ .ex c:=by intro z; cases z
theorem acO(Ts:List Tr)(ρ : En)(c:Str):dD Ts ρ ≠ .ex c:=by cases Ts <;> (intro z; cases z)
theorem acP{f:GF}{g:m6}(h1:∀T ρ c,f T ρ ≠ .ex c)(h2:∀T ρ c,g T ρ ≠ .ex c)(Ts:List Tr)(ρ : En)(c:Str):bL f g Ts ρ ≠ .ex c:=by
 cases Ts with
 |nil=>intro z; cases z
 |cons T r=>exact Tj (h1 T ρ) (λρ'=>h2 r ρ') c
theorem acQ{n:Nat}{f:m6}(h:∀T ρ c,f T ρ ≠ .ex c)(T:Tr)(ρ : En)(c:Str):gT n f T ρ ≠ .ex c:=by
 cases T <;> first|(intro z; cases z; done)|(dsimp only[gT]; split <;> first|exact h _ _ _|(intro z; cases z))
def wM(f:AF)(n:Nat):Prop:=∀ρ p,f ρ=.ok p->p.1.length=n
theorem jc:wM au 0:=λρ p h=>by cases h; rfl
theorem cY{f:EF}{g:AF}{n:Nat}(h:wM g n):wM (ak f g) (n+1):=λρ p q=>by
 unfold ak at q
 obtain⟨a,q1,q⟩:=dF q
 obtain⟨b,q2,q⟩:=dF q
 cases q
 rw[List.length_cons,h _ _ q2]
def Gk(K:FZ)(mg:Str->Option Value)(x:Str)(v:V)(T:Tr):Prop:=∃u,mg x=some u/\RelV v u/\∀H,Rep (aJ K) H v T
theorem acR{X:Cx}{x:Str}{v:V}{T:Tr}{pos:Pos}(h:Gk X.K X.mg x v T)(hg:Gl X x:=by rfl)(hd:(x == ("__debug__" : Str))=false:=by decide):PE X (.Name x pos) (tC v):=by
 obtain⟨u,h1,h2,_⟩:=h
 exact Zn hg h1 h2 hd
theorem JH{t:Tx}{K:FZ}{mg:Str->Option Value}{x:Str}{v:V}{T:Tr}(hK:t.K=aJ K)(h:Gk K mg x v T):SE t (tC v) (eC T):=by
 obtain⟨u,_,_,h⟩:=h
 exact Dd λH=>by rw[hK]; exact h H
end L2
end
section
namespace L2
open PySem PySem.Spec PyProof.Rows
section
variable {t:Tx}{K:FZ}{ta tb tc:TE}{fa fb fc:EF}
theorem wN(hK:t.K=aJ K)(ha:SE t ta fa)(hb:SE t tb fb):SE t (gq (Jh K) ta tb) (aq cB fa fb):=j7 (by rw[hK]; exact abp) acy ha hb
theorem acS(hK:t.K=aJ K)(ha:SE t ta fa)(hb:SE t tb fb):SE t (gq (iW λi j=>.int (i-j)) ta tb) (aq fD fa fb):=j7 (by rw[hK]; exact abv) acD ha hb
theorem acT(hK:t.K=aJ K)(ha:SE t ta fa)(hb:SE t tb fb):SE t (gq (Ji K) ta tb) (aq bU fa fb):=j7 (by rw[hK]; exact abq (K:=K)) acz ha hb
theorem wO(hK:t.K=aJ K)(ha:SE t ta fa)(hb:SE t tb fb):SE t (gq (rI Dg λi j=>.int (i.fdiv j)) ta tb) (aq fU fa fb):=j7 (by rw[hK]; exact abr) acA ha hb
theorem wQ(hK:t.K=aJ K)(ha:SE t ta fa)(hb:SE t tb fb):SE t (gq (rI (λ_ j=>j≠0) λi j=>.int (i.fmod j)) ta tb) (aq dR fa fb):=j7 (by rw[hK]; exact abt) acB ha hb
theorem acU(hK:t.K=aJ K)(ha:SE t ta fa)(hb:SE t tb fb):SE t (gq (rI HB λi j=>.int (i ^ j.toNat)) ta tb) (aq gJ fa fb):=j7 (by rw[hK]; exact abu) acC ha hb
theorem x_eq(hK:t.K=aJ K)(ha:SE t ta fa)(hb:SE t tb fb):SE t (gq (Iv K) ta tb) (aq cj fa fb):=j7 (by rw[hK]; exact abl) acv ha hb
theorem T6(hK:t.K=aJ K)(ha:SE t ta fa)(hb:SE t tb fb):SE t (gq (Jc K) ta tb) (aq dO fa fb):=j7 (by rw[hK]; exact abm) acw ha hb
theorem acV(hK:t.K=aJ K)(ha:SE t ta fa)(hb:SE t tb fb):SE t (gq (Iw K) ta tb) (aq (fQ id) fa fb):=j7 (by rw[hK]; exact abn) T4 ha hb
theorem acW(hK:t.K=aJ K)(ha:SE t ta fa)(hb:SE t tb fb):SE t (gq (Ja K) ta tb) (aq (fQ not) fa fb):=j7 (by rw[hK]; exact abo) T4 ha hb
theorem x_lt(hK:t.K=aJ K)(ha:SE t ta fa)(hb:SE t tb fb):SE t (gq (Jk K) ta tb) (aq d8 fa fb):=j7 (by rw[hK]; exact R8) T5 ha hb
theorem acX(hK:t.K=aJ K)(ha:SE t ta fa)(hb:SE t tb fb):SE t (gq (iW λi j=>.bl (decide (j<i))) ta tb) (aq wu fa fb):=j7 (by rw[hK]; exact abw) acE ha hb
theorem x_ge(hK:t.K=aJ K)(ha:SE t ta fa)(hb:SE t tb fb):SE t (gq (iW λi j=>.bl (decide (j<=i))) ta tb) (aq lA fa fb):=j7 (by rw[hK]; exact abx) acF ha hb
theorem wR(hK:t.K=aJ K)(ha:SE t ta fa)(hb:SE t tb fb):SE t (gq (tO K) ta tb) (aq aB fa fb):=j7 (by rw[hK]; exact R9) acG ha hb
theorem T7(hK:t.K=aJ K){r r':R2}{g g':G2}(o:fP (aJ K) r g)(o':fP (aJ K) r' g')(n:∀a b c,g a b ≠ .ex c)(n':∀a b c,g' a b ≠ .ex c)(ha:SE t ta fa)(hb:SE t tb fb)(hc:SE t tc fc):SE t (Cm r r' ta tb tc) (qg g g' fa fb fc):=abJ (by rw[hK]; exact o) (by rw[hK]; exact o') n n' ha hb hc
theorem T8(ha:SE t ta fa):SE t (Ce (rU λi=>.int (-i)) ta) (wB mZ fa):=abz Sg acH ha
variable {tl:TA}{fl:AF}
theorem x_len(hK:t.K=aJ K)(ha:SA t tl fl):SE t (jN (Jp K) tl) (bF (g1 bK) fl):=uw (by rw[hK]; exact yZ abP) (yX acI) ha
theorem acY(hK:t.K=aJ K)(ha:SA t tl fl):SE t (jN (λxs H Q=>∃i,xs=[.int i]/\Q (.int (if i<0 then -i else i)) H) tl) (bF (g1 wF) fl):=uw (by rw[hK]; exact yZ abQ) (yX acJ) ha
theorem T9(hK:t.K=aJ K)(ha:SA t tl fl):SE t (jN (λxs H Q=>∃p ys,xs=[.ref p]/\(cJ K H p ys\/dN K H p ys)/\∀l,H l=none->Q (.ref l) (upd H l (.lst ys))) tl) (bF (g1 lD) fl):=uw (by rw[hK]; exact yZ abS) (yX acK) ha
theorem JK(hK:t.K=aJ K)(ha:SA t tl fl):SE t (jN (Iz K) tl) (bF (g1 gA) fl):=uw (by rw[hK]; exact yZ abV) (yX acN) ha
theorem acZ(hK:t.K=aJ K)(ha:SA t tl fl):SE t (jN (λxs H Q=>∃i j,xs=[.int i,.int j]/\Q (.int (if j<i then j else i)) H) tl) (bF (g2 wG) fl):=uw (by rw[hK]; exact SM abT) (SJ acL) ha
theorem ac0(hK:t.K=aJ K)(ha:SA t tl fl):SE t (jN (λxs H Q=>∃i j,xs=[.int i,.int j]/\Q (.int (if j > i then j else i)) H) tl) (bF (g2 wH) fl):=uw (by rw[hK]; exact SM abU) (SJ acM) ha
theorem lE(hK:t.K=aJ K){cl:Str->Addr}{n:Nat}{F:FP}{E:XK}(hx:∀c H',F0 t H'->t.EX c->E (.ref (cl c)) none H')(hn:wM fl n)(ha:SA t tl fl):SE t (oG (aP K cl n F) [] E tl) (aK F fl):=Ti hK hx hn ha
theorem uG(hK:t.K=aJ K){cl:Str->Addr}{n:Nat}{F:FP}{E:XK}(hx:∀c,¬t.EX c)(hn:wM fl n)(ha:SA t tl fl):SE t (oG (aP K cl n F) [] E tl) (aK F fl):=Ti hK (λc H' _ q=>(hx c q).elim) hn ha
theorem ac1(hK:t.K=aJ K){n r nl:Nat}{b:SF}{E:XK}(hn:wM fl n)(ha:SA t tl fl):SE t (oG (qm K n r (nq nl r b)) [] E tl) (gK r (nq nl r b) fl):=acj hK (aci nl r b) hn ha
theorem ac2{te:TE}{f:EF}(i:Nat)(h:SE t te f):SE t (Cu K "list" Ia (jW i) (kZ te rE)) (oZ i rY (ak f au)):=Td i ab7 ab8 (cC h dJ)
end
end L2
end
section
namespace L2
open PySem PySem.Spec PyProof.Rows
def zA(i:Nat)(ρ : En):Nat:=match ρ[i]? with
 |some (.sh (.int n))=>n.natAbs+1
 |_=>0
theorem uH{src:List (Option Nat)}{js:List Nat}(h:js.all (λk=>(src[k]?).join.isNone)=true):∀k j:Nat,src[k]?=some (some j)->k∉js:=λk j q m=>by
 have:=List.all_eq_true.mp h k m
 rw[q]at this
 cases this
abbrev mz:List Value:=[.type "ValueError",.type "Exception",.type "BaseException",.type "object"]
def Ua:G1
 |.lst ts=>.ok (.lst ts.reverse,true)
 |_=>.bad
def ac3(fa:EF):EF:=λρ=>(fa ρ).bind λp=>(dr p.2 p.1).bind λa=>(Ua a).bind λz=>.ok (.v z.1 z.2,p.2)
end L2
end
section
namespace L2
open PySem PySem.Spec PyProof.Rows
def uJ(i:Int):TE:=λ_ H Q=>Q (.int i) H
def kI:Const->Option Int
 |.int i=>some i
 |_=>none
def bI(o:Operator)(i j:Int):Option Int:=match o with
 |.Sub=>some (i-j)
 |.Add=>some (i+j)
 |.Pow=>if 0<=j/\j<=100/\i.natAbs<=1000 then some (i ^ j.toNat)else none
 |_=>none
def uI(o:UnaryOp)(i:Int):Option Int:=match o with
 |.USub=>some (-i)
 |_=>none
def cI:Expr->Option Int
 |.Constant c _ _=>kI c
 |.UnaryOp o e _=>(cI e).bind (uI o)
 |.BinOp a o b _=>(cI a).bind λi=>(cI b).bind λj=>bI o i j
 |_=>none
theorem ac4{X:Cx}{c:Const}{k:Nat}{p:Pos}{i:Int}(h:kI c=some i):PE X (.Constant c k p) (uJ i):=by
 cases c <;> first|(cases h; exact aL)|cases h
theorem ac5{X:Cx}{o:UnaryOp}{e:Expr}{p:Pos}{i k:Int}(h:uI o i=some k)(he:PE X e (uJ i)):PE X (.UnaryOp o e p) (uJ k):=by
 cases o <;> first|(cases h; exact(Cg Ck he).imp λσ H Q q=>⟨i,rfl,q⟩)|cases h
theorem ac6{X:Cx}{o:Operator}{a b:Expr}{p:Pos}{i j k:Int}(h:bI o i j=some k)(ha:PE X a (uJ i))(hb:PE X b (uJ j)):PE X (.BinOp a o b p) (uJ k):=by
 cases o <;> try cases h
 ·exact(bC Qu ha hb).imp λσ H Q q=>⟨i,j,rfl,rfl,q⟩
 ·exact(bC oE ha hb).imp λσ H Q q=>⟨i,j,rfl,rfl,q⟩
 ·dsimp only[bI]at h
  split at h
  ·rename_i c
   cases h
   have z:(2:Nat) ^ 64=18446744073709551616:=by decide
   exact(bC rD ha hb).imp λσ H Q q=>⟨i,j,rfl,rfl,⟨c.1,by omega,by omega⟩,q⟩
  ·cases h
theorem DG{X:Cx}(e:Expr)(k:Int)(h:cI e=some k):PE X e (uJ k):=by
 cases e with
 |Constant c _ _=>exact ac4 h
 |UnaryOp o a _ =>
  have h:(cI a).bind (uI o)=some k:=h
  cases e1:cI a with
  |none=>rw[e1]at h; cases h
  |some i=>rw[e1]at h; exact ac5 h (DG a i e1)
 |BinOp a o b _ =>
  have h:((cI a).bind λi=>(cI b).bind λj=>bI o i j)=some k:=h
  cases e1:cI a with
  |none=>rw[e1]at h; cases h
  |some i =>
   cases e2:cI b with
   |none=>rw[e1,e2]at h; cases h
   |some j=>rw[e1,e2]at h; exact ac6 h (DG a i e1) (DG b j e2)
 |_=>cases h
def kT:Const->Option Tr
 |.none=>some .non
 |.bool b=>some (.bl b)
 |.str x=>some (.str x)
 |.int i=>some (.int i)
 |_=>none
mutual
noncomputable def cT:Expr->Option Tr
 |.Constant c _ _=>kT c
 |.Tuple es _ _=>(kJ es).map .tup
 |.List es _=>(kJ es).map .lst
 |.UnaryOp o a p=>(cI (.UnaryOp o a p)).map .int
 |.BinOp a o b p=>(cI (.BinOp a o b p)).map .int
 |_=>none
noncomputable def kJ:List Expr->Option (List Tr)
 | []=>some []
 |e::r=>match cT e,kJ r with
  |some T,some Ts=>if Ts.length<1000 then some (T::Ts)else none
  |_,_=>none
end
theorem DK:∀{es:List Expr} {Ts:List Tr},kJ es=some Ts->Ts.length<=1000
 | [],Ts,h=>by
  unfold kJ at h
  cases h
  decide
 |e::r,Ts,h=>by
  unfold kJ at h
  split at h
  ·split at h
   ·cases h
    rename_i h1
    rw[List.length_cons]
    omega
   ·cases h
  ·cases h
section
variable {X:Cx}{e:Expr}{es:List Expr}{T:Tr}{Ts:List Tr}{pos:Pos}{k:Nat}{G:FZ}
theorem ac7:PA X [] (v8 G []):=aH.imp λσ H Q q=>q [] H (Same.refl _) λ_ _=>.nil
theorem ac8(h:PE X e (rO G T))(r:PA X es (v8 G Ts))(hs:starEach (e::es) X.env=(false,eval e X.env)::starEach es X.env):PA X (e::es) (v8 G (T::Ts)) :=
 (oF h r hs).imp λσ H Q q v H1 s1 rv vs H2 s2 rs=>q (v::vs) H2 (s1.trans s2) λPr p=>.cons ((rv Pr p).mono (p.mono s2)) (rs Pr (p.le s1))
theorem Ub(h:PA X es (v8 G Ts))(hl:Ts.length<=1000):PE X (.Tuple es k pos) (rO G (.tup Ts)) :=
 (jL h).imp λσ H Q q vs H1 s1 rs=>by
  by_cases hv:vs.length<=sizeLine
  ·exact⟨hv,λa ha=>q (.ref a) _ (s1.trans (fG ha _)) λPr p=>.tup (dN.of ((p.le s1).new (Same.refl _) ha)) ((rs Pr p).mono (p.mono (fG ha _)))⟩
  ·exact absurd (Nat.le_of_lt (Ig (by rw[(rs _ (Pj.id H)).length]; exact hl))) hv
theorem Uc(h:PA X es (v8 G Ts))(hl:Ts.length<=1000):PE X (.List es pos) (CT G Ts) :=
 (rF h).imp λσ H Q q vs H1 s1 rs=>by
  have e:=(rs _ (Pj.id H)).length
  exact⟨Nat.le_of_lt (Ig (by rw[e]; exact hl)),λa ha=>q a vs H1 s1 ha rs e⟩
theorem ac9(h:PE X e (CT G Ts)):PE X e (rO G (.lst Ts)) :=
 h.imp λσ H Q q a xs H1 s1 ha rs _=>q (.ref a) _ (s1.trans (fG ha _)) λPr p=>.lst (cJ.of ((p.le s1).new (Same.refl _) ha)) ((rs Pr p).mono (p.mono (fG ha _)))
theorem Ud(h:(cI e).map Tr.int=some T):PE X e (rO G T):=by
 cases e1:cI e with
 |none=>rw[e1]at h; cases h
 |some i =>
  rw[e1]at h; cases h
  exact(DG e i e1).imp λσ H Q q=>q _ H (Same.refl _) λ_ _=>.int i
end
theorem ada{e:Expr}{es:List Expr}{env:Env}{T:Tr}(h:cT e=some T):starEach (e::es) env=(false,eval e env)::starEach es env:=by
 cases e <;> first|rfl|(unfold cT at h; cases h)
theorem adb{X:Cx}{G:FZ}{c:Const}{k:Nat}{p:Pos}{T:Tr}(h:kT c=some T):PE X (.Constant c k p) (rO G T):=by
 cases c <;> try cases h
 ·exact Zm.imp λσ H Q q=>q _ H (Same.refl _) λ_ _=>.non
 ·exact iU.imp λσ H Q q=>q _ H (Same.refl _) λ_ _=>.bl _
 ·exact aL.imp λσ H Q q=>q _ H (Same.refl _) λ_ _=>.int _
 ·exact iu.imp λσ H Q q=>q _ H (Same.refl _) λ_ _=>.str _
mutual
theorem ade{X:Cx}{G:FZ}(e:Expr)(T:Tr)(h:cT e=some T):PE X e (rO G T):=by
 cases e with
 |Constant c _ _=>exact adb (by unfold cT at h; exact h)
 |Tuple es _ _ =>
  unfold cT at h
  cases e:kJ es with
  |none=>rw[e]at h; cases h
  |some Ts =>
   rw[e]at h
   cases h
   exact Ub (zB es Ts e) (DK e)
 |List es _ =>
  unfold cT at h
  cases e:kJ es with
  |none=>rw[e]at h; cases h
  |some Ts =>
   rw[e]at h
   cases h
   exact ac9 (Uc (zB es Ts e) (DK e))
 |UnaryOp o a p=>exact Ud (by unfold cT at h; exact h)
 |BinOp a o b p=>exact Ud (by unfold cT at h; exact h)
 |_=>unfold cT at h; cases h
theorem zB{X:Cx}{G:FZ}:∀(es:List Expr) (Ts:List Tr),kJ es=some Ts->PA X es (v8 G Ts)
 | [],Ts,h=>by
  unfold kJ at h; cases h
  exact ac7
 |e::r,Ts,h=>by
  unfold kJ at h
  cases e1:cT e with
  |none=>rw[e1]at h; cases h
  |some T =>
   cases e2:kJ r with
   |none=>rw[e1,e2]at h; cases h
   |some Us =>
    rw[e1,e2]at h
    dsimp only at h
    split at h
    ·cases h
     exact ac8 (ade e T e1) (zB r Us e2) (ada e1)
    ·cases h
end
theorem DN{X:Cx}{G:FZ}{es:List Expr}{pos:Pos}{Ts:List Tr}(h:kJ es=some Ts):PE X (.List es pos) (CT G Ts):=Uc (zB es Ts h) (DK h)
theorem qw{X:Cx}{G:FZ}{es:List Expr}{k:Nat}{pos:Pos}{Ts:List Tr}(h:kJ es=some Ts):PE X (.Tuple es k pos) (rO G (.tup Ts)):=Ub (zB es Ts h) (DK h)
end L2
end
section
namespace L2
open PySem PySem.Spec PyProof.Rows
theorem Pj.aO{W:Addr->Prop}{H:Hp}(hw:∀b,W b->H b≠none):Pj (L2.aO W) H where
 mono:=λs=>(bT.of s).off
 sub:=λH=>iZ W H
 new:=λ{H' r o} s h=>by
  rw[fK λw=>hw r w (s.free h)]
  exact dI
def nu(Ts:List Tr):EF:=λρ=>.ok (.v (.lst Ts) true,ρ)
theorem adf{t:Tx}{K:FZ}(hK:t.K=aJ K){T:Tr}:SE t (rO (aJ K) T) (eC T):=λW ρ σ H Q e h=>λv H' s r=>by
 rw[<-hK]at r
 exact h v H' (e.grow s) (bT.of s) (.low (r _ (Pj.aO e.wn)))
theorem Ue{t:Tx}{K:FZ}(hK:t.K=aJ K){Ts:List Tr}:SE t (CT (aJ K) Ts) (nu Ts):=λW ρ σ H Q e h=>λa xs H1 s ha r _=>by
 rw[<-hK]at r
 have e1:=e.grow s
 exact h _ _ (e1.grow (fG ha _)) ((bT.of s).trans (bT.of (fG ha _))) ((iz.of (σ' := σ) e1 (fG ha _) (eG.new ha (r _ (Pj.aO e.wn)))).back λb q=>s.free q)
end L2
end
section
namespace L2
open PySem PySem.Spec PyProof.Rows
def zE:Expr->Bool
 |.ListComp .. => false
 |.SetComp .. => false
 |.DictComp .. => false
 |_=>true
theorem JL{e:Expr}{t:Option Expr}{l:Nat}{env:Env}(h:zE e=true):swapsWith e t l env=pure false:=by
 cases e <;> first|rfl|(unfold zE at h; cases h)
section
variable {X:Cx}{x:Str}{e:Expr}{es:List Expr}{te:TE}{ta:TA}{pos pos' p:Pos}{k:Nat}{ps:List Str}{sp:Sp}{E:XK}
theorem ao(i:Nat)(hN:X.N[i]?=some x:=by kernel_rfl)(hv:X.env.scope.names.lookup x=some .local:=by kernel_rfl)(hd:(x == ("__debug__" : Str))=false:=by kernel_rfl) (hc:(x == ("__classdict__" : Str))=false:=by kernel_rfl):PE X (.Name x pos) (jW i):=Hi hN (.inl hv) hd hc
theorem eO(i:Nat)(hN:X.N[i]?=some x:=by kernel_rfl)(hv:X.env.scope.names.lookup x=some .cell:=by kernel_rfl)(hd:(x == ("__debug__" : Str))=false:=by kernel_rfl) (hc:(x == ("__classdict__" : Str))=false:=by kernel_rfl):PE X (.Name x pos) (jW i):=Hi hN (.inr (.inl hv)) hd hc
theorem pvF(i:Nat)(hN:X.N[i]?=some x:=by kernel_rfl)(hv:X.env.scope.names.lookup x=some .free:=by kernel_rfl)(hd:(x == ("__debug__" : Str))=false:=by kernel_rfl) (hc:(x == ("__classdict__" : Str))=false:=by kernel_rfl):PE X (.Name x pos) (jW i):=Hi hN (.inr (.inr hv)) hd hc
theorem cF(i:Nat)(hN:X.N.Nodup)(he:PE X e te)(hi:X.N[i]?=some x:=by kernel_rfl)(hx:X.env.scope.names.lookup x=some .local:=by kernel_rfl)(h:zE e=true:=by kernel_rfl):PS X (.Assign [.Name x pos'] e pos) (lN te (dW i)):=Qk hN hi (.inl hx) he (JL h) (.inr hx)
theorem wU(i:Nat)(hN:X.N.Nodup)(hf:X.fn x=true)(he:PE X e te)(hi:X.N[i]?=some x:=by kernel_rfl)(hx:X.env.scope.names.lookup x=some .cell:=by kernel_rfl)(h:zE e=true:=by kernel_rfl):PS X (.Assign [.Name x pos'] e pos) (lN te (dW i)):=Qk hN hi (.inr hx) he (JL h) (.inl hf)
theorem psE(he:PE X e te)(h:zE e=true:=by kernel_rfl):PS X (.Expr e pos) (Hl te):=Zt he (JL h)
theorem cQ(i:Nat)(hN:X.N.Nodup)(hi:X.N[i]?=some x:=by kernel_rfl)(hx:X.env.scope.names.lookup x=some .local:=by kernel_rfl):PG X (.Name x pos) (dW i):=Qj hN hi (.inl hx) (.inr hx)
theorem pgC(i:Nat)(hN:X.N.Nodup)(hf:X.fn x=true)(hi:X.N[i]?=some x:=by kernel_rfl)(hx:X.env.scope.names.lookup x=some .cell:=by kernel_rfl):PG X (.Name x pos) (dW i):=Qj hN hi (.inr hx) (.inl hf)
theorem Ug(D:aM X.prog X.w X.K X.mg X.base k x ps sp)(hr:fO k X.A)(hx:Passes (jt X.prog X.w) X E)(ha:PA X (e::es) ta)(hg:X.env.kindOf x=some .globalImplicit:=by kernel_rfl)(hdb:(x == ("__debug__" : Str))=false:=by kernel_rfl)
  (he:notStar e=true:=by kernel_rfl) (hpl:(backTo pos (starEach es X.env)).any (·.1)=false:=by kernel_rfl):PE X (.Call (.Name x p) (e::es) [] pos) (oG sp [] E ta):=ach D hr hx ha hg hdb (tZ he) hpl
theorem eE{r:List V->Hp->VK->Prop}{id:String}(hc:iV X (.builtin id) r)(hm:X.mg x=none)(ha:PA X (e::es) ta)(hv:bootBuiltins x=some (.builtin id):=by decide +kernel)(hg:X.env.kindOf x=some .globalImplicit:=by kernel_rfl)(hn:x ≠ "__name__" := by decide +kernel) (hdb:(x == ("__debug__" : Str))=false:=by kernel_rfl)
  (he:notStar e=true:=by kernel_rfl) (hpl:(backTo pos (starEach es X.env)).any (·.1)=false:=by kernel_rfl):PE X (.Call (.Name x p) (e::es) [] pos) (jN r ta):=QM hc hg hm hv ha hn hdb (tZ he) hpl
theorem Uh{r:List V->Hp->VK->Prop}{T:String}(hc:iV X (.type T) r)(hm:X.mg x=none)(ha:PA X (e::es) ta)(hv:bootBuiltins x=some (.type T):=by decide +kernel)(hg:X.env.kindOf x=some .globalImplicit:=by kernel_rfl)(hn:x ≠ "__name__" := by decide +kernel) (hdb:(x == ("__debug__" : Str))=false:=by kernel_rfl)
  (he:notStar e=true:=by kernel_rfl) (hpl:(backTo pos (starEach es X.env)).any (·.1)=false:=by kernel_rfl):PE X (.Call (.Name x p) (e::es) [] pos) (jN r ta):=Z0 hc hg hm hv ha hn hdb (tZ he) hpl
theorem nA(hX:CQ X.K)(c:Ty){q:Pos}(he:PE X e te)(h1:X.mg "isinstance" = none) (h2:X.mg x=none) (hb:bootBuiltins x=some (.type c.name):=by decide +kernel) (hg1:X.env.kindOf "isinstance" = some .globalImplicit:=by kernel_rfl) (hg2:X.env.kindOf x=some .globalImplicit:=by kernel_rfl) (hn:x ≠ "__name__" := by decide +kernel) (hd:(x == ("__debug__" : Str))=false:=by kernel_rfl)
  (hs:notStar e=true:=by kernel_rfl):PE X (.Call (.Name "isinstance" p) [e,.Name x q] [] pos) (jN (CP X.K) (kZ te (kZ (tC (.ty c.name)) rE))):=aaJ hX c he h1 h2 hb hg1 hg2 hn hd (tZ hs)
theorem aA{t:TA}(ha:PE X e te)(hr:PA X es t)(h:notStar e=true:=by kernel_rfl):PA X (e::es) (kZ te t):=oF ha hr (tZ h)
theorem nC{v:V}{T:Tr}(h:Gk X.K X.mg x v T)(hg:X.env.kindOf x=some .globalImplicit:=by kernel_rfl)(hd:(x == ("__debug__" : Str))=false:=by kernel_rfl):PE X (.Name x pos) (tC v):=acR h hg hd
theorem qx{a tg:Expr}(hm:X.mg "range" = none) (ha:PA X [a] ta) (hg:X.env.kindOf "range" = some .globalImplicit:=by kernel_rfl) (hs:notStar a=true:=by kernel_rfl):PI X tg (.Call (.Name "range" p) [a] [] pos) (Hw ta):=ZC hg hm ha (tZ hs)
end
end L2
end
section
namespace L2
open PySem PySem.Spec PyProof.Rows
section
variable {t:Tx}{W:Addr->Prop}{ρ : En}{σ : St}{H:Hp}
theorem DR.len{K:FZ}{G H:Hp}:∀{xs:List V} {ts:List Tr} {bs:List Addr},DR K G H xs ts bs->xs.length=ts.length
 |_,_,_,.nil=>rfl
 |_,_,_,.cl _ _ r=>by rw[List.length_cons,List.length_cons,r.len]
 |_,_,_,.rw _ _ r=>by rw[List.length_cons,List.length_cons,r.len]
theorem DR.reps{K:FZ}{G G' H:Hp}(m:Same G G'):∀{xs:List V} {ts:List Tr} {bs:List Addr},DR K G H xs ts bs->(∀b ys,b∈bs->H b=some (.lst ys)->G' b=some (.lst ys))->aR K G' xs ts
 |_,_,_,.nil,_=>.nil
 |_,_,_,.cl _ h r,k=>.cons (h.mono m) (DR.reps m r k)
 |_,_,_,.rw h q r,k=>.cons (.lst (cJ.of (k _ _ (List.mem_cons_self ..) h)) (q.mono m)) (DR.reps m r λb ys hb=>k b ys (List.mem_cons_of_mem _ hb))
theorem DR.row{K:FZ}{G H:Hp}:∀{xs:List V} {ts:List Tr} {bs:List Addr} {k:Nat} {us:List Tr},DR K G H xs ts bs->ts[k]?=some (.lst us)->bs.Nodup->∃b ys,xs[k]?=some (.ref b)/\b∈bs/\H b=some (.lst ys)/\aR K G ys us /\
  ∀(ys':List V) (us':List Tr),aR K G ys' us'->DR K G (upd H b (.lst ys')) xs (ts.set k (.lst us')) bs
 |_,_,_,_,_,.nil,h,_=>by simp at h
 |_,_,_,0,_,.cl n h r,e,nd=>by
  simp at e
  subst e
  cases n
 |_,_,_,0,us,.rw (b:=b) (ys:=ys) (us:=vs) (xs:=xs) (ts:=ts) (bs:=bs) h q r,e,nd=>by
  have e:Tr.lst vs=.lst us:=by simpa using e
  cases e
  refine⟨b,ys,rfl,List.mem_cons_self ..,h,q,λys' us' r'=>?_⟩
  refine .rw dI r' (r.move (Same.refl _) λc o hc z=>?_)
  rw[bB (show c≠b from λy=>(List.nodup_cons.mp nd).1 (by rw[<-y]; exact hc))]
  exact z
 |_,_,_,k+1,us,.cl n h r,e,nd=>by
  obtain⟨b,ys,h1,h2,h3,h4,h5⟩:=DR.row (k:=k) r (by simpa using e) nd
  exact⟨b,ys,by simpa using h1,h2,h3,h4,λys' us' r'=>.cl n h (h5 ys' us' r')⟩
 |_,_,_,k+1,us,.rw (b:=c) h q r,e,nd=>by
  obtain⟨b,ys,h1,h2,h3,h4,h5⟩:=DR.row (k:=k) r (by simpa using e) (List.nodup_cons.mp nd).2
  refine⟨b,ys,by simpa using h1,List.mem_cons_of_mem _ h2,h3,h4,λys' us' r'=>.rw ?_ q (h5 ys' us' r')⟩
  rw[bB λy=>(List.nodup_cons.mp nd).1 (by rw[y]; exact h2)]
  exact h
def o8(ρ : En)(i:Nat):Rs (List Tr):=match ρ[i]? with
 |some (.dp ts)=>.ok ts
 |_=>.bad
theorem adg(ρ : En)(i:Nat)(c:Str):o8 ρ i ≠ .ex c:=by
 unfold o8
 split <;> (intro z; cases z)
theorem adh{i:Nat}{ts:List Tr}(h:o8 ρ i=.ok ts) : ρ[i]?=some (.dp ts):=by
 unfold o8 at h
 split at h
 ·rename_i q; cases h; exact q
 ·cases h
theorem aV.putD{i k:Nat}{ts us:List Tr}(e:aV t W ρ σ H)(hi : ρ[i]?=some (.dp ts))(hk:ts[k]?=some (.lst us)):∃a xs b ys,σ[i]?=some (some (.ref a))/\H a=some (.lst xs)/\xs.length=ts.length/\xs[k]?=some (.ref b)/\H b=some (.lst ys)/\aR t.K (aO W H) ys us /\
  ∀ys' us',aR t.K (aO W H) ys' us'->aV t W (ρ.set i (.dp (ts.set k (.lst us')))) σ (upd H b (.lst ys'))/\bT W H (upd H b (.lst ys'))/\aO W (upd H b (.lst ys'))=aO W H:=by
 obtain⟨F,e⟩:=e
 obtain⟨a,xs,h1,d⟩:=e.dp i ts hi
 have d':=d
 obtain⟨bs,ef,nd,ww,ha,r⟩:=d
 rw[ef]at nd
 have nd':=List.nodup_cons.mp nd
 obtain⟨b,ys,k1,k2,k3,k4,k5⟩:=r.row hk nd'.2
 have hb:b∈F i:=by rw[ef]; exact List.mem_cons_of_mem _ k2
 have wb:=(ww b hb).1
 have nab:a≠b:=λz=>nd'.1 (z▸k2)
 have lt:i < ρ.length:=(List.getElem?_eq_some_iff.mp hi).1
 refine⟨a,xs,b,ys,h1,ha,r.len,k1,k3,k4,λys' us' r'=>?_⟩
 have o:aO W (upd H b (.lst ys'))=aO W H:=lu wb
 have jG:∀(j:Nat) (s:Sl),(ρ.set i (.dp (ts.set k (.lst us'))))[j]?=some s->(j=i/\s=.dp (ts.set k (.lst us')))\/(j≠i/\ρ[j]?=some s):=λj s h=>by
  rcases get_set h with⟨z1,z2,_⟩|z
  ·exact .inl ⟨z1,z2⟩
  ·exact .inr z
 have mu:∀j,Mu (ρ.set i (.dp (ts.set k (.lst us')))) j->j≠i/\Mu ρ j:=λj m=>by
  obtain⟨zs,q|q⟩:=m <;> rcases jG _ _ q with⟨_,z⟩|⟨n,q⟩
  ·cases z
  ·exact⟨n,zs,.inl q⟩
  ·cases z
  ·exact⟨n,zs,.inr q⟩
 have ne:∀j c,Mu ρ j -> σ[j]?=some (some (V.ref c))->c≠b:=λj c m q z=>by
  subst z
  exact e.dm i j ts c hi m q hb
 have gQ:∀(j:Nat) (zs:List Tr),(ρ.set i (.dp (ts.set k (.lst us'))))[j]?=some (Sl.dp zs)->∃zs',ρ[j]?=some (Sl.dp zs'):=λj zs h=>by
  rcases jG _ _ h with⟨rfl,_⟩|⟨_,h⟩
  ·exact⟨ts,hi⟩
  ·exact⟨zs,h⟩
 refine⟨⟨F,by rw[List.length_set]; exact e.len,e.zw,e.z0,λc w=>?_,λc q h n=>?_,λc h=>?_,λj u h=>?_,λj zs h=>?_,λj zs h=>?_,λj l c m1 m2=>e.dis j l c (mu j m1).2 (mu l m2).2,λc q h=>?_,λj c m=>e.pd j c (mu j m).2,λj zs h=>?_,λj l zs vs n q1 q2=>?_,λj l zs c q1 m q=>?_,λj zs h=>?_,e.tab.upd k3⟩,⟨λc q n h=>?_,λc h=>?_⟩,o⟩
 ·by_cases z:c=b
  ·subst z; exact .inl ⟨ys',dI⟩
  ·unfold Lt; rw[bB z]; exact e.wl c w
 ·rw[bB]
  ·exact e.f0 c q h n
  ·rintro rfl
   rw[(ww c hb).2]at h
   cases h
 ·by_cases z:c=b
  ·subst z; exact(ww c hb).2
  ·rw[bB z]at h; exact e.n0 c h
 ·rw[o]
  rcases jG _ _ h with⟨_,z⟩|⟨_,h⟩
  ·cases z
  ·exact e.sh j u h
 ·rw[o]
  rcases jG _ _ h with⟨_,z⟩|⟨_,h⟩
  ·cases z
  ·obtain⟨c,vs,q1,q2,q3,q4,q5⟩:=e.ow j zs h
   exact⟨c,vs,q1,q2,q3,by rw[bB (ne j c ⟨zs,.inl h⟩ q1)]; exact q4,q5⟩
 ·rw[o]
  rcases jG _ _ h with⟨_,z⟩|⟨_,h⟩
  ·cases z
  ·obtain⟨c,vs,q1,q2,q3,q4,q5⟩:=e.rf j zs h
   exact⟨c,vs,q1,q2,q3,by rw[bB (ne j c ⟨zs,.inr h⟩ q1)]; exact q4,q5⟩
 ·rw[bB]
  ·exact e.pn c q h
  ·rintro rfl
   rw[e.db i ts hi c hb]at h
   cases h
 ·rcases jG _ _ h with⟨rfl,z⟩|⟨nj,h⟩
  ·cases z
   refine⟨a,xs,h1,bs,ef,by rw[ef]; exact nd,ww,by rw[bB nab]; exact ha,?_⟩
   rw[o]
   exact k5 ys' us' r'
  ·obtain⟨c,vs,q1,dj⟩:=e.dp j zs h
   refine⟨c,vs,q1,dj.move rfl rfl (by rw[o]; exact Same.refl _) (λx hx=>by obtain⟨_,_,_,w2,_⟩:=dj; exact(w2 x hx).1) λx q hx z=>?_⟩
   rw[bB (show x≠b from λy=>e.dd i j ts zs (Ne.symm nj) hi h b hb (by rw[<-y]; exact hx))]
   exact z
 ·obtain⟨_,z1⟩:=gQ j zs q1
  obtain⟨_,z2⟩:=gQ l vs q2
  exact e.dd j l _ _ n z1 z2
 ·obtain⟨_,z1⟩:=gQ j zs q1
  exact e.dm j l _ c z1 (mu l m).2 q
 ·obtain⟨_,z1⟩:=gQ j zs h
  exact e.db j _ z1
 ·rw[bB λz=>n (by rw[z]; exact wb)]; exact h
 ·by_cases z:c=b
  ·subst z; rw[dI]at h; cases h
  ·rw[bB z]at h; exact h
end
end L2
end
section
namespace L2
open PySem PySem.Spec PyProof.Rows
abbrev QF:=En->Rs Tr
def SQ(t:Tx)(te:TE)(f:QF):Prop:=∀W ρ σ H Q,aV t W ρ σ H->(f ρ).post (λ_=>False) (λT=>∀v,Rep t.K (aO W H) v T->Q v H)->te σ H Q
section
variable {t:Tx}{K:FZ}
def qy(i:Nat):QF:=λρ=>match ρ[i]? with
 |some (.sh T)=>.ok T
 |_=>.bad
theorem Ui(i:Nat):SQ t (jW i) (qy i):=λW ρ σ H Q e h=>by
 unfold qy at h
 split at h
 ·rename_i T q
  obtain⟨v,h1,h2⟩:=e.sh i T q
  exact⟨v,h1,h v h2⟩
 ·exact h.elim
def qC(T:Tr):QF:=λ_=>.ok T
def jd(ts:List Tr)(k:Tr):Rs (Nat × Tr):=match k with
 | .int i=>(match eH ts.length i with
  | some j=>(match ts[j]? with
   |some u=>.ok (j,u)
   |none=>.bad)
  |none=>.bad)
 |_=>.bad
theorem Uj{ts:List Tr}{k:Tr}{j:Nat}{u:Tr}(h:jd ts k=.ok (j,u)):∃i,k=.int i/\eH ts.length i=some j/\ts[j]?=some u:=by
 unfold jd at h
 split at h
 ·rename_i i
  split at h
  ·rename_i j' e
   split at h
   ·rename_i u' e2
    cases h
    exact⟨i,rfl,e,e2⟩
   ·cases h
  ·cases h
 ·cases h
theorem Uk(ts:List Tr)(k:Tr)(c:Str):jd ts k ≠ .ex c:=by
 unfold jd
 split <;> (try split) <;> (try split) <;> (intro z; cases z)
theorem adi(hK:t.K=aJ K){W:Addr->Prop}{ρ : En}{σ : St}{H:Hp}{i j:Nat}{ts us:List Tr}{tk:TE}{fk:QF}{kT:Tr}{Q:VK}(e:aV t W ρ σ H)(hi : ρ[i]?=some (.dp ts))(hk:SQ t tk fk)(h1:fk ρ=.ok kT)(h2:jd ts kT=.ok (j,.lst us))
  (q:∀a xs b ys,σ[i]?=some (some (.ref a))->H a=some (.lst xs)->xs[j]?=some (.ref b)->H b=some (.lst ys)->aR t.K (aO W H) ys us->(∀ys' us',aR t.K (aO W H) ys' us'->aV t W (ρ.set i (.dp (ts.set j (.lst us')))) σ (upd H b (.lst ys'))/\bT W H (upd H b (.lst ys'))/\aO W (upd H b (.lst ys'))=aO W H)->Q (.ref b) H):gq (tO K) (jW i) tk σ H Q:=by
 obtain⟨k,rfl,h3,h4⟩:=Uj h2
 obtain⟨a,xs,b,ys,k1,k2,k3,k4,k5,k6,k7⟩:=e.putD hi h4
 refine⟨_,k1,hk W ρ σ H _ e ?_⟩
 rw[h1]
 intro v rv
 cases rv
 refine .inl ⟨a,xs,k,.ref b,rfl,rfl,cJ.of k2,?_,q a xs b ys k1 k2 k4 k5 k6 k7⟩
 unfold dX
 rw[k3,h3]
 exact k4
def adk(i:Nat)(fk fj:QF):QF:=λρ=>(o8 ρ i).bind λts=>(fk ρ).bind λk=>(jd ts k).bind λz=>match z.2 with
 |.lst us=>(fj ρ).bind λj=>(jd us j).bind λy=>.ok y.2
 |_=>.bad
def adl(i:Nat)(fk:QF)(m:GM)(fa:QF):SF:=λρ=>(o8 ρ i).bind λts=>(cV (fk ρ)).bind λk=>(jd ts k).bind λz=>match z.2 with
 |.lst us=>(cV (fa ρ)).bind λT=>(m us [T]).bind λy=>.ok (.nx,ρ.set i (.dp (ts.set z.1 (.lst y.1))))
 |_=>.bad
noncomputable def uK(i:Nat)(fk fj:QF)(fe:EF):SF:=λρ=>(fe ρ).bind λp=>(mq p.1).bind λT=>(o8 p.2 i).bind λts=>(cV (fk p.2)).bind λk=>(jd ts k).bind λz=>match z.2 with
 |.lst us=>(cV (fj p.2)).bind λj=>(jd us j).bind λy=>.ok (.nx,p.2.set i (.dp (ts.set z.1 (.lst (us.set y.1 T)))))
 |_=>.bad
theorem adn(hK:t.K=aJ K)(i:Nat){te tk tj:TE}{fk fj:QF}{fe:EF}(he:SE t te fe)(hk:SQ t tk fk)(hj:SQ t tj fj):SS t (lN te (Hq (gq (tO K) (jW i) tk) tj HX)) (uK i fk fj fe):=λW ρ σ H D e h=>by
 refine he W ρ σ H _ e (Rs.bG (Rs.bh h) λp h v H1 e1 s1 v1=>?_)
 obtain⟨T,kT,h⟩:=dh (Rs.bh h) (TQ _)
 have rv:Rep t.K (aO W H1) v T:=by
  obtain⟨r,ρ1⟩:=p
  cases r with
  |s i=>cases kT
  |v U fr=>cases kT; exact v1.1.rep e.wn
 obtain⟨ts,k0,h⟩:=dh (Rs.bh h) (adg _ _)
 obtain⟨k,g1,h⟩:=dh (Rs.bh h) (Ds _)
 obtain⟨⟨m,u⟩,k2,h⟩:=dh (Rs.bh h) (Uk _ _)
 cases u <;> try exact h.elim
 rename_i us
 obtain⟨j,g2,h⟩:=dh (Rs.bh h) (Ds _)
 obtain⟨⟨m',u'⟩,k3,hf⟩:=dh (Rs.bh h) (Uk _ _)
 obtain⟨z,rfl,h5,h6⟩:=Uj k3
 have un:∀{α : Type} {x:Rs α} {a : α},cV x=.ok a->x=.ok a:=λ{α x a} z=>by cases x <;> first|exact z|cases z
 have g1:=un g1
 have g2:=un g2
 show gq (tO K) (jW i) tk σ H1 λo H1=>_
 refine adi hK e1 (adh k0) hk g1 k2 λa xs b ys q1 q2 q3 q4 q5 q6=>?_
 refine hj W p.2 σ H1 _ e1 ?_
 rw[g2]
 intro w pQ
 cases pQ
 obtain⟨e3,s3,_⟩:=q6 _ _ (q5.set rv m')
 exact⟨b,ys,z,m',rfl,rfl,q4,by rw[q5.length]; exact h5,hf W σ _ e3 (s1.trans s3).nxt⟩
def uL(i:Nat)(ρ : En):En:=match ρ[i]? with
 |some (.dp ts)=>ρ.set i (.ow ts)
 |_=>ρ
theorem aV.uL{W:Addr->Prop}{ρ : En}{σ : St}{H:Hp}(e:aV t W ρ σ H)(i:Nat):∃W',aV t W' (L2.uL i ρ) σ H/\iC W H W' H:=by
 unfold L2.uL
 split
 ·rename_i ts q
  obtain⟨F,e⟩:=e
  obtain⟨a,xs,h1,bs,ef,nd,ww,ha,r⟩:=e.dp i ts q
  have nd':=nd
  rw[ef]at nd'
  have nab:=(List.nodup_cons.mp nd').1
  have m:Same (aO W H) (aO (λb=>W b/\b∉bs) H):=oK (λ_ _ _ z=>z.1) λ_ _ _ h=>h
  have inF:∀b∈bs,b∈F i:=λb hb=>by rw[ef]; exact List.mem_cons_of_mem _ hb
  have aF:a∈F i:=by rw[ef]; exact List.mem_cons_self ..
  have lt:i < ρ.length:=(List.getElem?_eq_some_iff.mp q).1
  have mu:∀j,Mu (ρ.set i (.ow ts)) j->j=i\/(j≠i/\Mu ρ j):=λj h=>by
   obtain⟨us,h|h⟩:=h <;> rcases get_set h with⟨rfl,z,_⟩|⟨ne,h⟩
   ·exact .inl rfl
   ·exact .inr ⟨ne,us,.inl h⟩
   ·exact .inl rfl
   ·exact .inr ⟨ne,us,.inr h⟩
  have gQ:∀(j:Nat) (us:List Tr),(ρ.set i (.ow ts))[j]?=some (Sl.dp us)->j≠i/\ρ[j]?=some (Sl.dp us):=λj us h=>by
   rcases get_set h with⟨rfl,z,_⟩|⟨ne,h⟩
   ·cases z
   ·exact⟨ne,h⟩
  have Ul:∀j c,Mu ρ j -> σ[j]?=some (some (V.ref c))->c∉bs:=λj c mj qj z=>e.dm i j ts c q mj qj (inF c z)
  refine⟨λb=>W b/\b∉bs,⟨F,by rw[List.length_set]; exact e.len,λb z=>⟨e.zw b z,λhb=>e.z0 b z (ww b (inF b hb)).2⟩,e.z0,λb w=>e.wl b w.1,e.f0,e.n0,λj u h=>?_,λj us h=>?_,λj us h=>?_,λj k c m1 m2 q1 q2=>?_,e.pn,λj c m1 q1=>?_,λj us h=>?_,λj k us vs n g1 g2=>e.dd j k us vs n (gQ j us g1).2 (gQ k vs g2).2,λj k us c g1 m1 q1=>?_,λj us h=>e.db j us (gQ j us h).2,e.tab.cut (D:=λb=>b∈bs) (λb hb=>r.lst b hb)⟩,λb o n h=>⟨λz=>n z.1,h⟩⟩
  ·rcases get_set h with⟨rfl,z,l⟩|⟨ne,h⟩
   ·cases z
   ·obtain⟨w,g1,g2⟩:=e.sh j u h
    exact⟨w,g1,g2.mono m⟩
  ·rcases get_set h with⟨rfl,z,l⟩|⟨ne,h⟩
   ·cases z
    refine⟨a,xs,h1,⟨(ww a aF).1,nab⟩,(ww a aF).2,ha,r.reps m λb ys hb hy=>?_⟩
    rw[fK λz=>z.2 hb]
    exact hy
   ·obtain⟨c,ys,g1,g2,g3,g4,g5⟩:=e.ow j us h
    exact⟨c,ys,g1,⟨g2,Ul j c ⟨us,.inl h⟩ g1⟩,g3,g4,g5.mono m⟩
  ·rcases get_set h with⟨rfl,z,l⟩|⟨ne,h⟩
   ·cases z
   ·obtain⟨c,ys,g1,g2,g3,g4,g5⟩:=e.rf j us h
    exact⟨c,ys,g1,⟨g2,Ul j c ⟨us,.inr h⟩ g1⟩,g3,g4,g5.mono m⟩
  ·have self:∀c,σ[i]?=some (some (V.ref c))->c=a:=λc z=>by rw[h1]at z; cases z; rfl
   rcases mu j m1 with y1|⟨n1,v1⟩ <;> rcases mu k m2 with y2|⟨n2,v2⟩
   ·rw[y1,y2]
   ·rw[y1]at q1
    have:=self c q1
    subst this
    exact(e.dm i k ts c q v2 q2 aF).elim
   ·rw[y2]at q2
    have:=self c q2
    subst this
    exact(e.dm i j ts c q v1 q1 aF).elim
   ·exact e.dis j k c v1 v2 q1 q2
  ·rcases mu j m1 with y1|⟨n1,v1⟩
   ·rw[y1,h1]at q1
    cases q1
    exact e.db i ts q a aF
   ·exact e.pd j c v1 q1
  ·obtain⟨nj,h⟩:=gQ j us h
   obtain⟨c,ys,g1,d⟩:=e.dp j us h
   refine⟨c,ys,g1,d.move rfl rfl m (λb hb=>⟨by obtain⟨_,_,_,w2,_⟩:=d; exact(w2 b hb).1,λz=>e.dd j i us ts nj h q b hb (inF b z)⟩) λ_ _ _ z=>z⟩
  ·obtain⟨nj,g2⟩:=gQ j us g1
   rcases mu k m1 with y1|⟨n1,v1⟩
   ·rw[y1,h1]at q1
    cases q1
    exact λz=>e.dd i j ts us (Ne.symm nj) q g2 a aF z
   ·exact e.dm j k us c g2 v1 q1
 ·exact⟨W,e,iC.refl _ _⟩
def DP(i:Nat)(f:SF):SF:=λρ=>f (uL i ρ)
theorem ado{ts:TS}{f:SF}(i:Nat)(h:SS t ts f):SS t ts (DP i f):=λW ρ σ H D e q=>by
 obtain⟨W',e',n⟩:=e.uL i
 exact h W' _ σ H D e' (Rs.bG q λp q=>q.back n)
end
end L2
end
section
namespace L2
open PySem PySem.Spec PyProof.Rows
open Classical in
def tP(t:Tx)(src:List (Option Nat))(ρ : En)(σ : St)(F:Nat->List Addr)(H1 P:Hp):Tx:=⟨t.K,t.Z,t.R,t.H0,λb=>if P b=none then(if OU src ρ σ F b then H1 b else t.B b)else P b,λ_=>False⟩
section
variable {t:Tx}{src:List (Option Nat)}{ρ1:En}{σ : St}{F:Nat->List Addr}{H1 P:Hp}{D:Addr}{W:Addr->Prop}
theorem lF{b:Addr}{o:HO}(h:P b=some o):(tP t src ρ1 σ F H1 P).B b=some o:=by
 unfold tP
 dsimp only
 rw[if_neg (by rw[h]; intro z; cases z),h]
theorem zF{b:Addr}(h1:P b=none)(h2:¬OU src ρ1 σ F b):(tP t src ρ1 σ F H1 P).B b=t.B b:=by
 unfold tP
 dsimp only
 rw[if_pos h1,if_neg h2]
theorem wV{b:Addr}(h1:P b=none)(h2:OU src ρ1 σ F b):(tP t src ρ1 σ F H1 P).B b=H1 b:=by
 unfold tP
 dsimp only
 rw[if_pos h1,if_pos h2]
theorem adp:tP t src ρ1 σ F H1 (upd (λ_=>none) D (.lst []))=iw t src ρ1 σ F H1 D []:=by
 unfold tP iw
 congr 1
 funext b
 by_cases e:b=D
 ·subst e
  rw[dI,if_neg (by intro z; cases z),if_pos rfl]
 ·rw[bB e,if_pos rfl,if_neg e]
theorem EOF.adq{P:Hp}{ρ : En}{τ : St}{H:Hp}{js:List Nat}(I:Inj src)(dG:EOF t W ρ1 σ H1 F)(hP:∀b,P b≠none->H1 b=none)(e:aV (tP t src ρ1 σ F H1 P) (λb=>W b\/P b≠none) ρ τ H)(nx:∀b o,¬W b->H1 b=some o->H b=some o)
  (hj:∀k j:Nat,src[k]?=some (some j)->k∉js) (ag:∀k,k∉js -> τ[k]?=(eZ src σ)[k]?) (so:gh src ρ ρ1=true):EOF t (λb=>W b\/P b≠none) (cU src ρ ρ1) σ H F:=by
 have w1:∀b,W b->W b\/P b≠none:=λ_ w=>.inl w
 have e1:aV t W ρ1 σ H1:=⟨F,dG⟩
 have m1:Same (aO W H1) (aO (λb=>W b\/P b≠none) H):=λb o h=>by
  obtain⟨n,h⟩:=ji h
  rw[fK]
  ·exact nx b o n h
  ·rintro(z|z)
   ·exact n z
   ·rw[hP b z]at h; cases h
 have m2:Same (aO (λb=>W b\/P b≠none) H) (aO (λb=>W b\/P b≠none) H):=Same.refl _
 have nP:∀b,H1 b≠none->P b=none:=λb n=>by
  cases z:P b with
  |none=>rfl
  |some o=>exact(n (hP b (by rw[z]; intro y; cases y))).elim
 have qp:∀j,Mu (cU src ρ ρ1) j->Mu ρ1 j:=λj m=>by
  obtain⟨ts,m|m⟩:=m <;> rcases lY I m with⟨k,us,q1,q2,q3⟩|⟨n,q⟩
  ·exact oX ⟨ts,.inl q3⟩
  ·exact⟨ts,.inl q⟩
  ·exact oX ⟨ts,.inr q3⟩
  ·exact⟨ts,.inr q⟩
 have inner:∀(k j:Nat) (ts:List Tr) (a:Addr),src[k]?=some (some j)->(ρ[k]?=some (.ow ts)\/ρ[k]?=some (.rf ts)) -> σ[j]?=some (some (.ref a))->∃ys,H a=some (.lst ys)/\aR t.K (aO (λb=>W b\/P b≠none) H) ys ts:=λk j ts a q1 q2 q3=>by
  have z:=ag k (hj k j q1)
  rw[zx q1 q3]at z
  rcases q2 with q2|q2
  ·obtain⟨c,ys,h1,h2,h3,h4,h5⟩:=e.ow k ts q2
   rw[z]at h1
   cases h1
   exact⟨ys,h4,h5.mono m2⟩
  ·obtain⟨c,ys,h1,h2,h3,h4,h5⟩:=e.rf k ts q2
   rw[z]at h1
   cases h1
   exact⟨ys,h4,h5.mono m2⟩
 have outer:∀(j:Nat) (a:Addr) (ys:List V),Mu ρ1 j->(∀k,src[k]?=some (some j)->¬Mu ρ k) -> σ[j]?=some (some (.ref a))->H1 a=some (.lst ys)->H a=some (.lst ys):=λj a ys m n q h=>by
  have wa:=e1.addr m q
  have nD:P a=none:=nP a (e1.wn a wa)
  refine e.pn a _ ?_
  rw[wV nD (.inl ⟨j,m,q,λk z=>n k z (Dw so z m)⟩)]
  exact h
 refine⟨by rw[sE]; exact e1.len,λb z=>w1 b (e1.zw b z),e1.z0,e.wl,e.f0,e.n0,λj u h=>?_,λj ts h=>?_,λj ts h=>?_,λj k a n1 n2=>e1.dis j k a (qp j n1) (qp k n2),λb o h=>?_,λj a m=>e1.pd j a (qp j m),λj ts h=>?_,λj k ts us n h1 h2=>dG.dd j k ts us n (lZ I h1) (lZ I h2),λj k ts c h1 m q=>dG.dm j k ts c (lZ I h1) (qp k m) q,λj ts h=>dG.db j ts (lZ I h),⟨e.tab.ok,λb z=>w1 b (e1.tab.w b z),e1.tab.r,e1.tab.B⟩⟩
 ·have h' : ρ1[j]?=some (.sh u):=by
   rcases lY I h with⟨k,us,q1,q2,q3⟩|⟨n,q⟩
   ·rcases oY q3 with⟨ne,_⟩|⟨_,⟨_,_,z⟩|⟨_,_,z⟩|⟨_,q⟩⟩
    ·exact(ne rfl).elim
    ·cases z
    ·cases z
    ·exact q
   ·exact q
  obtain⟨v,q1,q2⟩:=e1.sh j u h'
  exact⟨v,q1,q2.mono m1⟩
 ·rcases lY I h with⟨k,us,q1,q2,q3⟩|⟨n,q⟩
  ·rcases oY q3 with⟨ne,_⟩|⟨_,⟨ts0,q0,z⟩|⟨_,_,z⟩|⟨nm,q⟩⟩
   ·exact(ne rfl).elim
   ·cases z
    obtain⟨a,ys,h1,h2,h3,h4,h5⟩:=e1.ow j ts0 q0
    obtain⟨zs,k1,k2⟩:=inner k j ts a q1 q2 h1
    exact⟨a,zs,h1,w1 a h2,h3,k1,k2⟩
   ·cases z
   ·exact(nm ⟨ts,.inl q⟩).elim
  ·obtain⟨a,ys,h1,h2,h3,h4,h5⟩:=e1.ow j ts q
   exact⟨a,ys,h1,w1 a h2,h3,outer j a ys ⟨ts,.inl q⟩ n h1 h4,h5.mono m1⟩
 ·rcases lY I h with⟨k,us,q1,q2,q3⟩|⟨n,q⟩
  ·rcases oY q3 with⟨ne,_⟩|⟨_,⟨_,_,z⟩|⟨ts0,q0,z⟩|⟨nm,q⟩⟩
   ·exact(ne rfl).elim
   ·cases z
   ·cases z
    obtain⟨a,ys,h1,h2,h3,h4,h5⟩:=e1.rf j ts0 q0
    obtain⟨zs,k1,k2⟩:=inner k j ts a q1 q2 h1
    exact⟨a,zs,h1,w1 a h2,h3,k1,k2⟩
   ·exact(nm ⟨ts,.inr q⟩).elim
  ·obtain⟨a,ys,h1,h2,h3,h4,h5⟩:=e1.rf j ts q
   exact⟨a,ys,h1,w1 a h2,h3,outer j a ys ⟨ts,.inr q⟩ n h1 h4,h5.mono m1⟩
 ·have nD:P b=none:=nP b λz=>by
   rw[e1.Di z]at h
   cases h
  have nO:¬OU src ρ1 σ F b:=by
   rintro(⟨j,m,q,_⟩|⟨j,ts,d',z⟩)
   ·rw[e1.pd j b m q]at h
    cases h
   ·rw[dG.db j ts d' b z]at h
    cases h
  refine e.pn b o ?_
  rw[zF nD nO]
  exact h
 ·have hd:=lZ I h
  obtain⟨a,ys,q1,d⟩:=dG.dp j ts hd
  have ww:∀b∈F j,W b:=λb hb=>by obtain⟨_,_,_,ww,_⟩:=d; exact(ww b hb).1
  refine⟨a,ys,q1,d.move rfl rfl m1 (λb hb=>w1 b (ww b hb)) λb o hb q=>?_⟩
  have nD:P b=none:=nP b (e1.wn b (ww b hb))
  refine e.pn b o ?_
  rw[wV nD (.inr ⟨j,ts,hd,hb⟩)]
  exact q
theorem aV.adt{ρ : En}{τ : St}{H:Hp}{W':Addr->Prop}{a:Addr}{ys zs:List V}(e0:aV (tP t src ρ1 σ F H1 P) W' ρ τ H)(na:¬W' a)(e:p7 (tP t src ρ1 σ F H1 P) W' a ρ τ H)(wD:W' D)(pD:∃o:List V,P D=some (.lst o))(wK:t.H0 D=none)(Um:t.H0 a=none)(ha:H a=some (.lst ys)) :
  aV (tP t src ρ1 σ F H1 (upd (upd P a (.lst ys)) D (.lst zs))) (λb=>W' b\/b=a) ρ τ (upd H D (.lst zs)):=by
 obtain⟨oD,pD⟩:=pD
 have aD:a≠D:=λz=>na (by rw[z]; exact wD)
 have wa:∀i c,Mu ρ i -> τ[i]?=some (some (V.ref c))->c≠a:=λi c m q z=>na (by rw[<-z]; exact e0.addr m q)
 obtain⟨F2,e,nF⟩:=e
 have JM:∀i c,Mu ρ i -> τ[i]?=some (some (V.ref c))->c≠D:=λi c m q z=>by
  subst z
  have:=e.pd i c m q
  rw[lF pD]at this
  cases this
 have zy:∀i ts,ρ[i]?=some (Sl.dp ts)->∀b∈F2 i,b≠D:=λi ts h b hb z=>by
  subst z
  have:=e.db i ts h b hb
  rw[lF pD]at this
  cases this
 have Bn:∀c,c≠D->c≠a->(tP t src ρ1 σ F H1 P).B c=none->(tP t src ρ1 σ F H1 (upd (upd P a (.lst ys)) D (.lst zs))).B c=none:=λc h1 h2 z=>by
  have pc:(upd (upd P a (.lst ys)) D (.lst zs)) c=P c:=by rw[bB h1,bB h2]
  cases q:P c with
  |some o=>rw[lF q]at z; cases z
  |none =>
   by_cases ou:OU src ρ1 σ F c
   ·rw[wV q ou]at z
    rw[wV (pc.trans q) ou]
    exact z
   ·rw[zF q ou]at z
    rw[zF (pc.trans q) ou]
    exact z
 have w:W' D\/D=a:=.inl wD
 refine⟨F2,e.len,e.zw,e.z0,λb z=>?_,λb o h n=>?_,λb h=>?_,λi u h=>?_,λi ts h=>?_,λi ts h=>?_,e.dis,λb o h=>?_,λi c m q=>Bn c (JM i c m q) (wa i c m q) (e.pd i c m q),λi ts h=>?_,e.dd,e.dm,λi ts h b hb=>Bn b (zy i ts h b hb) (λz=>nF i ts h (by rw[<-z]; exact hb)) (e.db i ts h b hb),⟨?_,e.tab.w,e.tab.r,λb z=>Bn b (λy=>?_) (λy=>?_) (e.tab.B b z)⟩⟩
 ·by_cases q:b=D
  ·subst q; exact .inl ⟨zs,dI⟩
  ·unfold Lt; rw[bB q]; exact e.wl b z
 ·rw[bB]
  ·exact e.f0 b o h n
  ·rintro rfl
   have h:t.H0 b=some o:=h
   rw[wK]at h
   cases h
 ·by_cases q:b=D
  ·subst q; exact wK
  ·rw[bB q]at h; exact e.n0 b h
 ·rw[lu w]
  exact e.sh i u h
 ·obtain⟨c,vs,q1,q2,q3,q4,q5⟩:=e.ow i ts h
  rw[lu w]
  exact⟨c,vs,q1,q2,q3,by rw[bB (JM i c ⟨ts,.inl h⟩ q1)]; exact q4,q5⟩
 ·obtain⟨c,vs,q1,q2,q3,q4,q5⟩:=e.rf i ts h
  rw[lu w]
  exact⟨c,vs,q1,q2,q3,by rw[bB (JM i c ⟨ts,.inr h⟩ q1)]; exact q4,q5⟩
 ·by_cases h1:b=D
  ·subst h1
   rw[lF dI]at h
   rw[dI]
   exact h
  ·rw[bB h1]
   by_cases h2:b=a
   ·subst h2
    rw[lF (by rw[bB h1]; exact dI)]at h
    rw[ha]
    exact h
   ·refine e.pn b o ?_
    have pc:(upd (upd P a (.lst ys)) D (.lst zs)) b=P b:=by rw[bB h1,bB h2]
    cases q:P b with
    |some o'=>rw[lF (pc.trans q)]at h; rw[lF q]; exact h
    |none =>
     by_cases ou:OU src ρ1 σ F b
     ·rw[wV (pc.trans q) ou]at h; rw[wV q ou]; exact h
     ·rw[zF (pc.trans q) ou]at h; rw[zF q ou]; exact h
 ·obtain⟨c,vs,q1,d⟩:=e.dp i ts h
  exact⟨c,vs,q1,d.move rfl rfl (by rw[lu w]; exact Same.refl _) (λb hb=>by obtain⟨_,_,_,ww,_⟩:=d; exact(ww b hb).1) λb o hb q=>by rw[bB (zy i ts h b hb)]; exact q⟩
 ·exact e.tab.ok.upd (e.pn D _ (lF pD))
 ·subst y
  have y:=e.tab.B b z
  rw[lF pD]at y
  cases y
 ·subst y
  exact e.tab.ok.ne z ha rfl
theorem EOF.adu{ρ : En}{H:Hp}{i:Nat}{xs:List V}{ts:List Tr}{bs:List Addr}(e:EOF t W ρ σ H F)(nd:(D::bs).Nodup)(ww:∀b∈D::bs,W b/\t.H0 b=none)(hB:∀b∈D::bs,t.B b=none)(hF:∀(j:Nat) (us:List Tr),ρ[j]?=some (Sl.dp us)->∀b∈D::bs,b∉F j)
  (hM:∀(j:Nat) (c:Addr),Mu ρ j -> σ[j]?=some (some (V.ref c))->c∉D::bs) (ha:H D=some (.lst xs)) (r:DR t.K (aO W H) H xs ts bs):aV t W (ρ.set i (.dp ts)) (σ.set i (some (.ref D))) H:=by
 have jG:∀(j:Nat) (s:Sl),(ρ.set i (.dp ts))[j]?=some s->(j=i/\s=.dp ts/\i < ρ.length)\/(j≠i/\ρ[j]?=some s):=λj s h=>get_set h
 have mu:∀j,Mu (ρ.set i (.dp ts)) j->j≠i/\Mu ρ j:=λj m=>by
  obtain⟨zs,q|q⟩:=m <;> rcases jG _ _ q with⟨_,z,_⟩|⟨n,q⟩
  ·cases z
  ·exact⟨n,zs,.inl q⟩
  ·cases z
  ·exact⟨n,zs,.inr q⟩
 have keep:∀(j:Nat),j≠i->(σ.set i (some (V.ref D)))[j]?=σ[j]? := λj n=>List.getElem?_set_ne (Ne.symm n)
 refine⟨λj=>if j=i then D::bs else F j,by rw[List.length_set,List.length_set]; exact e.len,e.zw,e.z0,e.wl,e.f0,e.n0,λj u h=>?_,λj zs h=>?_,λj zs h=>?_,λj k c m1 m2 q1 q2=>?_,e.pn,λj c m q=>?_,λj zs h=>?_,λj k zs vs n q1 q2=>?_,λj k zs c q1 m q=>?_,λj zs h=>?_,e.tab⟩
 ·rcases jG _ _ h with⟨_,z,_⟩|⟨n,h⟩
  ·cases z
  ·rw[keep j n]; exact e.sh j u h
 ·rcases jG _ _ h with⟨_,z,_⟩|⟨n,h⟩
  ·cases z
  ·rw[keep j n]; exact e.ow j zs h
 ·rcases jG _ _ h with⟨_,z,_⟩|⟨n,h⟩
  ·cases z
  ·rw[keep j n]; exact e.rf j zs h
 ·obtain⟨n1,v1⟩:=mu j m1
  obtain⟨n2,v2⟩:=mu k m2
  rw[keep j n1]at q1
  rw[keep k n2]at q2
  exact e.dis j k c v1 v2 q1 q2
 ·obtain⟨n1,v1⟩:=mu j m
  rw[keep j n1]at q
  exact e.pd j c v1 q
 ·rcases jG _ _ h with⟨y,z,l⟩|⟨n,h⟩
  ·cases z
   subst y
   refine⟨D,xs,ux (by rw[<-e.len]; exact l),?_⟩
   rw[if_pos rfl]
   exact⟨bs,rfl,nd,ww,ha,r⟩
  ·rw[keep j n,if_neg n]
   exact e.dp j zs h
 ·rcases jG _ _ q1 with⟨y1,_,_⟩|⟨n1,q1⟩ <;> rcases jG _ _ q2 with⟨y2,_,_⟩|⟨n2,q2⟩
  ·exact(n (y1.trans y2.symm)).elim
  ·rw[if_pos y1,if_neg n2]
   exact λb hb=>hF k vs q2 b hb
  ·rw[if_neg n1,if_pos y2]
   exact λb hb z=>hF j zs q1 b z hb
  ·rw[if_neg n1,if_neg n2]
   exact e.dd j k zs vs n q1 q2
 ·obtain⟨n2,v2⟩:=mu k m
  rw[keep k n2]at q
  rcases jG _ _ q1 with⟨y1,_,_⟩|⟨n1,q1⟩
  ·rw[if_pos y1]
   exact hM k c v2 q
  ·rw[if_neg n1]
   exact e.dm j k zs c q1 v2 q
 ·rcases jG _ _ h with⟨y1,_,_⟩|⟨n1,q1⟩
  ·rw[if_pos y1]
   exact hB
  ·rw[if_neg n1]
   exact e.db j zs q1
theorem DR.app{K:FZ}{G H:Hp}:∀{xs ys:List V} {ts us:List Tr} {bs cs:List Addr},DR K G H xs ts bs->DR K G H ys us cs->DR K G H (xs++ys) (ts++us) (bs++cs)
 |_,_,_,_,_,_,.nil,s=>s
 |_,_,_,_,_,_,.cl n h r,s=>.cl n h (DR.app r s)
 |_,_,_,_,_,_,.rw h q r,s=>.rw h q (DR.app r s)
end
end L2
end
section
namespace L2
open PySem PySem.Spec PyProof.Rows
def DQ:Rv->Rs Tr
 |.v (.lst us) true=>.ok (.lst us)
 |_=>.bad
theorem adv(r:Rv)(c:Str):DQ r ≠ .ex c:=by
 unfold DQ
 split <;> (intro z; cases z)
def uM(g:GF)(c:BF)(f:EF):List Tr->En->Rs (List Tr × En)
 | [],ρ=>.ok ([],ρ)
 |u::us,ρ=>(g u ρ).bind λρ1=>(c ρ1).bind λb=>if b.1=true then(f b.2).bind λp=>(DQ p.1).bind λT=>(uM g c f us p.2).bind λz=>.ok (T::z.1,z.2)else uM g c f us b.2
def uN(i:Nat)(src:List (Option Nat))(fi:IF)(g:GF)(c:BF)(f:EF):SF:=λρ=>(fi ρ).bind λp=>if p.1.length<=100000 then(cV (uM g c f p.1 (fV src p.2))).bind λz=>if gh src z.2 p.2=true then .ok (.nx,(cU src z.2 p.2).set i (.dp z.1))else .bad else .bad
theorem adw{t:Tx}{wi:TI}{g:TG}{src:List (Option Nat)}{tc:TT}{te:TE}{fi:IF}{gf:GF}{c:BF}{f:EF}{js:List Nat}(n:Nat)(hi:SI t wi fi)(I:Inj src)(hj:∀k j:Nat,src[k]?=some (some j)->k∉js)(ng:∀T ρ c,gf T ρ ≠ .ex c)
  (hg:∀t':Tx,t'.K=t.K->(∀c,¬t'.EX c)->SG t' g gf js) (hc:∀t':Tx,t'.K=t.K->(∀c,¬t'.EX c)->ST t' tc c) (he:∀t':Tx,t'.K=t.K->(∀c,¬t'.EX c)->SE t' te f):SS t (lN (uD wi g src tc te) (dW n)) (uN n src fi gf c f):=λW ρ σ H E e h=>by
 refine hi W ρ σ H _ e (Rs.bG (Rs.bh h) λp h J H1 e1 s1 it=>?_)
 obtain⟨us,ρ1⟩:=p
 dsimp only at h it e1
 split at h
 case isFalse=>exact h.elim
 rename_i hlen
 intro D hD
 have h:=Dr (Rs.bh h)
 obtain⟨F,dG⟩:=id e1
 have wK:t.H0 D=none:=e1.n0 D hD
 refine⟨λi m τ H'=>m=us.length-i/\i<=us.length/\∃ρ' xs acc bs P,aV (tP t src ρ1 σ F H1 P) (λb=>W b\/P b≠none) ρ' τ H'/\P D=some (.lst xs)/\(∀b,P b≠none↔b∈D::bs)/\(D::bs).Nodup/\DR t.K (aO (λb=>W b\/P b≠none) H') H' xs acc bs/\(∀b∈D::bs,H1 b=none)/\xs.length<=i/\(∀b o,¬W b->H1 b=some o->H' b=some o)/\(∀k,k∉js -> τ[k]?=(eZ src σ)[k]?) /\
   (uM gf c f (us.drop i) ρ').post (λ_=>False) (λz=>(if gh src z.2 ρ1=true then .ok (.nx,(cU src z.2 ρ1).set n (.dp (acc++z.1)))else .bad:Rs (Fl × En)).post t.EX (oU t W H E)),?_,?_⟩
 ·have hs:(λb=>W b\/(upd (λ_=>none) D (HO.lst []):Hp) b≠none)=λb=>W b\/b=D:=by
   funext b
   by_cases z:b=D
   ·subst z; rw[dI]; simp
   ·rw[bB z]; simp[z]
  refine⟨us.length,by simp,Nat.zero_le _,fV src ρ1,[],[],[],upd (λ_=>none) D (.lst []),?_,dI,λb=>?_,List.nodup_cons.mpr ⟨by simp,List.nodup_nil⟩,.nil,λb hb=>?_,Nat.le_refl _,λb o _ q=>?_,λ_ _=>rfl,?_⟩
  ·rw[adp,hs]
   exact dG.enter I hD
  ·by_cases z:b=D
   ·subst z; rw[dI]; simp
   ·rw[bB z]; simp[z]
  ·have:b=D:=by simpa using hb
   rw[this]
   exact hD
  ·rw[bB (iR q hD)]; exact q
  ·rw[List.drop_zero]; exact h
 ·rintro i m τ H2 ⟨rfl,hi,ρ2,xs,acc,bs,P,e2,pD,pb,nd,r2,new,l2,n2,a2,h2⟩
  have wD:W D\/P D≠none:=.inr (by rw[pD]; intro z; cases z)
  have sm:Same (aO W H1) (aO (λb=>W b\/P b≠none) H2):=λb o q=>by
   obtain⟨nw,q⟩:=ji q
   rw[fK]
   ·exact n2 b o nw q
   ·rintro(z|z)
    ·exact nw z
    ·rw[new b ((pb b).mp z)]at q; cases q
  have q:=it _ H2 sm e2.wl i
  by_cases hlt:i<us.length
  ·rw[List.drop_eq_getElem_cons hlt]at h2
   obtain⟨go,y⟩:=q.2 us[i] (by simp[hlt])
   refine .inr ⟨go,λx H3 yl=>?_⟩
   obtain⟨s3,r3⟩:=y x H3 yl
   have e3:=e2.grow s3
   refine hg (tP t src ρ1 σ F H1 P) rfl (λ_=>id) _ ρ2 τ H3 x us[i] _ e3 r3 (Rs.bG (jK (Rs.bh h2) (ng _ _)) λρ4 h σ4 e4 a4=>?_)
   refine hc (tP t src ρ1 σ F H1 P) rfl (λ_=>id) _ ρ4 σ4 H3 _ e4 (Rs.bG (Rs.bh h) λb h H5 e5 s5=>?_)
   have jh:bT (λb=>W b\/P b≠none) H2 H5:=(bT.of s3).trans s5
   have n5:∀b o,¬W b->H1 b=some o->H5 b=some o:=λb o nw qb=>by
    refine jh.keep b o ?_ (n2 b o nw qb)
    rintro(z|z)
    ·exact nw z
    ·rw[new b ((pb b).mp z)]at qb; cases qb
   have a5:∀k,k∉js -> σ4[k]?=(eZ src σ)[k]? := λk nk=>(a4 k nk).trans (a2 k nk)
   have pin:∀{Hx:Hp} {ρx:En} {τx:St},aV (tP t src ρ1 σ F H1 P) (λb=>W b\/P b≠none) ρx τx Hx->∀b o,b∈bs->H2 b=some o->Hx b=some o:=λ{Hx ρx τx} ex b o hb z=>by
    have pe:P b≠none:=(pb b).mpr (List.mem_cons_of_mem _ hb)
    cases zP:P b with
    |none=>exact(pe zP).elim
    |some o' =>
     have z1:=e2.pn b o' (lF zP)
     rw[z1]at z
     rw[<-z]
     exact ex.pn b o' (lF zP)
   split at h
   ·rename_i cb
    rw[if_pos cb]
    refine he (tP t src ρ1 σ F H1 P) rfl (λ_=>id) _ b.2 σ4 H5 _ e5 (Rs.bG (Rs.bh h) λp h v H6 e6 s6 v6=>?_)
    obtain⟨T,kT,h⟩:=dh (Rs.bh h) (adv _)
    obtain⟨r,ρ7⟩:=p
    have sh:∃vs,r=.v (.lst vs) true/\T=.lst vs:=by
     cases r with
     |s i=>cases kT
     |v U fr =>
      cases U <;> cases fr <;> first|(cases kT; exact⟨_,rfl,rfl⟩)|cases kT
    obtain⟨vs,rfl,rfl⟩:=sh
    obtain⟨⟨a,ys,vs',rfl,ev,na,qa,ra⟩,eh⟩:=v6
    cases ev
    have eh:=eh _ a rfl rfl
    have DW:¬(W a\/P a≠none):=λz=>e5.wn a z na
    have JN:H2 a=none:=jh.dom a na
    have Uo:H1 a=none:=by
     cases z:H1 a with
     |none=>rfl
     |some o=>rw[n2 a o (λw=>DW (.inl w)) z]at JN; cases JN
    have aD:a≠D:=λz=>DW (by rw[z]; exact wD)
    have abs:a∉D::bs:=λz=>DW (.inr ((pb a).mpr z))
    have Um:t.H0 a=none:=e1.n0 a Uo
    have eN:=e6.adt (zs:=xs++[.ref a]) (D:=D) DW eh wD ⟨_,pD⟩ wK Um qa
    have ws:(λb=>(W b\/P b≠none)\/b=a)=λb=>W b\/(upd (upd P a (HO.lst ys)) D (HO.lst (xs++[.ref a])):Hp) b≠none:=by
     funext b
     by_cases z1:b=D
     ·subst z1; rw[dI]; simp[wD]
     ·rw[bB z1]
      by_cases z2:b=a
      ·subst z2; rw[dI]; simp
      ·rw[bB z2]; simp[z2]
    rw[ws]at eN
    have mv:Same (aO (λb=>W b\/P b≠none) H2) (aO (λb=>W b\/(upd (upd P a (HO.lst ys)) D (HO.lst (xs++[.ref a])):Hp) b≠none) (upd H6 D (.lst (xs++[.ref a])))):=λb o z=>by
     obtain⟨nb,z⟩:=ji z
     have b1:b≠D:=λy=>nb (by rw[y]; exact wD)
     have b2:b≠a:=iR z JN
     rw[fK]
     ·rw[bB b1]
      exact s6.keep b o nb (jh.keep b o nb z)
     ·rw[bB b1,bB b2]
      exact nb
    refine⟨xs,e6.pn D _ (lF pD),Nat.lt_of_le_of_lt (show xs.length<=100000 by omega) (by decide),us.length-(i+1),by omega,rfl,hlt,ρ7,xs++[.ref a],acc++[.lst vs],bs++[a],_,eN,dI,λb=>?_,?_,?_,λb hb=>?_,by rw[List.length_append]; simp; omega,λb o nw q=>?_,a5,?_⟩
    ·by_cases z1:b=D
     ·subst z1; rw[dI]; simp
     ·rw[bB z1]
      by_cases z2:b=a
      ·subst z2; rw[dI]; simp
      ·rw[bB z2,pb b]; simp[z1,z2]
    ·rw[<-List.cons_append]
     exact List.nodup_append.mpr ⟨nd,by simp,λx hx y hy z=>by
      have:y=a:=by simpa using hy
      subst this
      subst z
      exact abs hx⟩
    ·refine DR.app (r2.move mv λb o hb z=>?_) (.rw (by rw[bB aD]; exact qa) (ra.mono λb o z=>?_) .nil)
     ·have b1:b≠D:=λy=>by
       subst y
       exact(List.nodup_cons.mp nd).1 hb
      rw[bB b1]
      exact pin e6 b o hb z
     ·obtain⟨b2,z⟩:=tY z
      obtain⟨nb,z⟩:=ji z
      have b1:b≠D:=λy=>nb (by rw[y]; exact wD)
      rw[fK]
      ·rw[bB b1]; exact z
      ·rw[bB b1,bB b2]; exact nb
    ·rw[<-List.cons_append,List.mem_append]at hb
     rcases hb with hb|hb
     ·exact new b hb
     ·have:b=a:=by simpa using hb
      rw[this]; exact Uo
    ·have nD:b≠D:=iR q hD
     rw[bB nD]
     refine s6.keep b o ?_ (n5 b o nw q)
     rintro(z|z)
     ·exact nw z
     ·rw[new b ((pb b).mp z)]at q; cases q
    ·refine Rs.bG (Rs.bh h) λz h=>?_
     rw[List.append_assoc]
     exact h
   ·rename_i cb
    rw[if_neg cb]
    exact⟨us.length-(i+1),by omega,rfl,hlt,b.2,xs,acc,bs,P,e5,pD,pb,nd,r2.move jh.off (pin e5),new,by omega,n5,a5,h⟩
  ·have z:i=us.length:=by omega
   subst z
   rw[List.drop_length]at h2
   have h2:(if gh src ρ2 ρ1=true then .ok (.nx,(cU src ρ2 ρ1).set n (.dp (acc++[])))else .bad:Rs (Fl × En)).post t.EX _:=h2
   refine .inl ⟨q.1 rfl,?_⟩
   split at h2
   ·rename_i so
    rw[List.append_nil]at h2
    have eW:=dG.adq I (λb z=>new b ((pb b).mp z)) e2 n2 hj a2 so
    have mu1:∀j,Mu (cU src ρ2 ρ1) j->Mu ρ1 j:=λj m=>by
     obtain⟨ts,m|m⟩:=m <;> rcases lY I m with⟨k,us,q1,q2,q3⟩|⟨n,q⟩
     ·exact oX ⟨ts,.inl q3⟩
     ·exact⟨ts,.inl q⟩
     ·exact oX ⟨ts,.inr q3⟩
     ·exact⟨ts,.inr q⟩
    refine h2 _ _ H2 (eW.adu (bs:=bs) nd (λb hb=>⟨.inr ((pb b).mpr hb),e1.n0 b (new b hb)⟩) (λb hb=>e1.Di (new b hb)) (λj us hj b hb z=>?_) (λj c m q z=>?_) (e2.pn D _ (lF pD)) r2) λb o nb hb=>?_
    ·obtain⟨c,ys,_,cs,_,_,ww,_⟩:=dG.dp j us (lZ I hj)
     exact e1.wn b (ww b z).1 (new b hb)
    ·exact e1.wn c (e1.addr (mu1 j m) q) (new c z)
    ·have hb1:=s1.keep b o nb hb
     refine⟨?_,n2 b o nb hb1⟩
     rintro(z|z)
     ·exact nb z
     ·rw[new b ((pb b).mp z)]at hb1; cases hb1
   ·exact h2.elim
theorem adx{t:Tx}{wi:TI}{g:TG}{src:List (Option Nat)}{te:TE}{fi:IF}{gf:GF}{f:EF}{js:List Nat}(n:Nat)(hi:SI t wi fi)(I:Inj src)(hj:∀k j:Nat,src[k]?=some (some j)->k∉js)(ng:∀T ρ c,gf T ρ ≠ .ex c)
  (hg:∀t':Tx,t'.K=t.K->(∀c,¬t'.EX c)->SG t' g gf js) (he:∀t':Tx,t'.K=t.K->(∀c,¬t'.EX c)->SE t' te f):SS t (lN (rK wi g src te) (dW n)) (uN n src fi gf cH f):=by
 rw[TY]
 exact adw n hi I hj ng hg (λt' _ _ W ρ σ H Q e h=>h H e (bT.refl _ _)) he
end L2
end
section
namespace L2
open PySem PySem.Spec PyProof.Rows
variable {t:Tx}
def o9(us vs:List Tr):List Tr:=(us.zip vs).map λp=>.tup [p.1,p.2]
theorem ady{K:FZ}{W:Addr->Prop}{H:Hp}{a b:Addr}{xs ys:List V}{us vs:List Tr}(q1:cJ (aJ K) (aO W H) a xs)(r1:aR (aJ K) (aO W H) xs us)(q2:cJ (aJ K) (aO W H) b ys)(r2:aR (aJ K) (aO W H) ys vs):wI (aJ K) W H (IW K a b) (o9 us vs):=λW' H' m hw i=>by
 have JQ:cJ K H' a xs:=((iZ W' H').seq (m.seq q1)).toK
 have JR:cJ K H' b ys:=((iZ W' H').seq (m.seq q2)).toK
 refine⟨λz=>⟨xs,ys,JQ,JR,by rw[r1.length,r2.length,z]; simp[o9]⟩,λu hu=>?_⟩
 unfold o9 at hu
 rw[List.getElem?_map]at hu
 obtain⟨p,hp,rfl⟩:=Option.map_eq_some_iff.mp hu
 obtain⟨h1,h2⟩:=List.getElem?_zip_eq_some.mp hp
 obtain⟨x,hx,rx⟩:=r1.rQ h1
 obtain⟨y,hy,ry⟩:=r2.rQ h2
 refine⟨⟨xs,ys,x,y,JQ,JR,hx,hy⟩,λv fW yl=>?_⟩
 obtain⟨T,x',y',rfl,fT,rfl,z⟩:=yl
 obtain⟨z1,z2⟩:=z xs ys JQ JR
 rw[hx]at z1
 rw[hy]at z2
 cases z1
 cases z2
 have nW:¬W' T:=λw=>(hw T w).ne fT
 have sm:Same H' (upd H' T (.tup [x,y])):=fG fT _
 have so:Same (aO W' H') (aO W' (upd H' T (.tup [x,y]))):=λb u q=>(Je (o:=.tup [x,y]) fT b u q |> λz=>(Jb _ _ b u z))
 refine⟨sm,.tup (xs:=[x,y]) (.inl (.inl ?_)) (.cons ((rx.mono m).mono so) (.cons ((ry.mono m).mono so) .nil))⟩
 unfold aO
 rw[if_neg nW,dI]
def qz(fa:AF):IF:=λρ=>(fa ρ).bind λp=>match p.1 with
 | [.v (.lst us) _,.v (.lst vs) _]=>.ok (o9 us vs,p.2)
 |_=>.bad
theorem adz{K:FZ}(hK:t.K=aJ K){ta:TA}{fa:AF}(ha:SA t ta fa):SI t (RX K ta) (qz fa):=λW ρ σ H R e h=>by
 refine ha W ρ σ H _ e (Rs.bG (Rs.bh h) λp h vs H1 e1 s1 v1=>?_)
 split at h
 ·rename_i us _ ws _ ep
  rw[ep]at v1
  cases v1 with
  |cons h1 r1 =>
   cases r1 with
   |cons h2 r2 =>
    cases r2
    have h1:=h1.rep e.wn
    have h2:=h2.rep e.wn
    rw[hK]at h1 h2
    cases h1 with
    |lst q1 p1 =>
     cases h2 with
     |lst q2 p2 =>
      refine⟨_,_,rfl,⟨_,((iZ _ _).seq q1).toK⟩,⟨_,((iZ _ _).seq q2).toK⟩,h _ H1 e1 s1 ?_⟩
      rw[hK]
      exact ady q1 p1 q2 p2
 ·exact h.elim
end L2
end
section
namespace L2
open PySem PySem.Spec PyProof.Rows
section
variable {K:FZ}
end
end L2
end
section
namespace L2
open PySem PySem.Spec PyProof.Rows
section
variable {kf:Value->Int × Int}
def q1(kf:Value->Int × Int)(xs:Array Keyed)(i:Nat):Int:=match xs[i]? with|some p=>(kf p.1).1|none=>0
def q2(kf:Value->Int × Int)(xs:Array Keyed)(i:Nat):Int:=match xs[i]? with|some p=>(kf p.1).2|none=>0
def qr(xs:Array Keyed)(i:Nat):Int:=match xs[i]? with|some p=>numOf p.2|none=>0
def Kl(kf:Value->Int × Int)(xs:Array Keyed)(i j:Nat):Prop:=q1 kf xs i<q1 kf xs j\/(q1 kf xs i=q1 kf xs j/\q2 kf xs i<q2 kf xs j)
instance {kf:Value->Int × Int}{xs:Array Keyed}{i j:Nat}:Decidable (Kl kf xs i j):=by unfold Kl; infer_instance
def Ke(kf:Value->Int × Int)(xs:Array Keyed)(i j:Nat):Prop:=q1 kf xs i=q1 kf xs j/\q2 kf xs i=q2 kf xs j
def Lq(kf:Value->Int × Int)(xs:Array Keyed)(i j:Nat):Prop:=Kl kf xs i j\/(Ke kf xs i j/\qr xs i<qr xs j)
def jm(kf:Value->Int × Int)(xs:Array Keyed)(m:Nat):Prop:=∀i j,i<j->j<m->Lq kf xs i j
def je(kf:Value->Int × Int)(xs:Array Keyed)(m:Nat):Prop:=∀i j,i<j->j<m->Lq kf xs j i
def pq(kf:Value->Int × Int)(xs:Array Keyed)(m q:Nat):Prop:=(∀i j,i<j->j<m->i<q->Lq kf xs j i/\(q<=j->Kl kf xs j i))/\∀i j,q<=i->i<j->j<m->Ke kf xs i j/\qr xs i<qr xs j
def Pre(N:Nat)(xs:Array Keyed)(m:Nat):Prop:=(∀k:Nat,k<m->qr xs k<m)/\∀k:Nat,m<=k->k<N->qr xs k=k
theorem qD{xs ys:Array Keyed}{i j:Nat}(h:xs[i]?=ys[j]?):qr xs i=qr ys j:=by unfold qr; rw[h]
theorem DX{xs ys:Array Keyed}{i j:Nat}(h:xs[i]?=ys[j]?):q1 kf xs i=q1 kf ys j:=by unfold q1; rw[h]
theorem DY{xs ys:Array Keyed}{i j:Nat}(h:xs[i]?=ys[j]?):q2 kf xs i=q2 kf ys j:=by unfold q2; rw[h]
theorem jO{xs:Array Keyed}{i j:Nat}(hj:j<=xs.size)(k:Nat):(i<=k/\k<j/\(mirror xs i j ((j-i) / 2))[k]?=xs[i+j-1-k]?)\/(¬(i<=k/\k<j)/\(mirror xs i j ((j-i) / 2))[k]?=xs[k]?):=by
 have e:=getElem?_mirror_all (i:=i) hj k
 by_cases h:i<=k/\k<j
 ·rw[if_pos h]at e; exact .inl ⟨h.1,h.2,e⟩
 ·rw[if_neg h]at e; exact .inr ⟨h,e⟩
theorem qF{xs ys:Array Keyed}{i j i' j':Nat}(h1:xs[i]?=ys[i']?)(h2:xs[j]?=ys[j']?):Lq kf xs i j↔Lq kf ys i' j':=by
 unfold Lq Kl Ke; rw[qD h1,qD h2,DX h1,DX h2,DY h1,DY h2]
theorem Ea{xs ys:Array Keyed}{i j i' j':Nat}(h1:xs[i]?=ys[i']?)(h2:xs[j]?=ys[j']?):Kl kf xs i j↔Kl kf ys i' j':=by
 unfold Kl; rw[DX h1,DX h2,DY h1,DY h2]
theorem Kl.tr{xs:Array Keyed}{i j k:Nat}(a:Kl kf xs i j)(b:Kl kf xs j k):Kl kf xs i k:=by
 unfold Kl at *
 generalize q1 kf xs i=a1,q2 kf xs i=a2,q1 kf xs j=b1,q2 kf xs j=b2,q1 kf xs k=c1,q2 kf xs k=c2 at *
 omega
theorem Kl.no{xs:Array Keyed}{i j:Nat}(a:¬Kl kf xs i j)(b:¬Kl kf xs j i):Ke kf xs i j:=by
 unfold Kl at *
 unfold Ke
 generalize q1 kf xs i=a1,q2 kf xs i=a2,q1 kf xs j=b1,q2 kf xs j=b2 at *
 omega
theorem Ke.s{xs:Array Keyed}{i j:Nat}(a:Ke kf xs i j):Ke kf xs j i:=⟨a.1.symm,a.2.symm⟩
theorem Ke.t{xs:Array Keyed}{i j k:Nat}(a:Ke kf xs i j)(b:Ke kf xs j k):Ke kf xs i k:=⟨a.1.trans b.1,a.2.trans b.2⟩
theorem Ke.l{xs:Array Keyed}{i j k:Nat}(a:Ke kf xs i j)(b:Kl kf xs j k):Kl kf xs i k:=by
 unfold Kl at *
 rw[a.1,a.2]
 exact b
theorem Ke.r{xs:Array Keyed}{i j k:Nat}(a:Kl kf xs i j)(b:Ke kf xs j k):Kl kf xs i k:=by
 unfold Kl at *
 rw[<-b.1,<-b.2]
 exact a
theorem Kl.tq{xs:Array Keyed}{i j k:Nat}(a:Kl kf xs i j)(b:Lq kf xs j k):Kl kf xs i k:=b.elim a.tr λz=>Ke.r a z.1
theorem Kl.qt{xs:Array Keyed}{i j k:Nat}(a:Lq kf xs i j)(b:Kl kf xs j k):Kl kf xs i k:=a.elim (λz=>z.tr b) λz=>z.1.l b
theorem Lq.mk{xs:Array Keyed}{i j:Nat}(a:¬Kl kf xs j i)(b:qr xs i<qr xs j):Lq kf xs i j:=by
 by_cases h:Kl kf xs i j
 ·exact .inl h
 ·exact .inr ⟨Kl.no h a,b⟩
theorem Pre.jO{N:Nat}{xs:Array Keyed}{m i j:Nat}(h:Pre N xs m)(hj:j<=xs.size)(hm:j<=m):Pre N (mirror xs i j ((j-i) / 2)) m:=by
 refine⟨λk hk=>?_,λk hk hN=>?_⟩
 ·rcases L2.jO hj k with⟨a,b,e⟩|⟨n,e⟩
  ·rw[qD e]; exact h.1 _ (by omega)
  ·rw[qD e]; exact h.1 _ hk
 ·rcases L2.jO hj k with⟨a,b,e⟩|⟨n,e⟩
  ·omega
  ·rw[qD e]; exact h.2 _ hk hN
theorem je.turn{xs:Array Keyed}{m:Nat}(h:je kf xs m)(hm:m<=xs.size):jm kf (mirror xs 0 m ((m-0) / 2)) m:=λi j hij hj=>by
 rcases jO (i:=0) hm i with⟨_,_,e1⟩|⟨n,_⟩
 ·rcases jO (i:=0) hm j with⟨_,_,e2⟩|⟨n,_⟩
  ·rw[qF e1 e2]; exact h _ _ (by omega) (by omega)
  ·omega
 ·omega
theorem pq.turn{xs:Array Keyed}{m q:Nat}(h:pq kf xs m q)(hm:m<=xs.size)(hq:q<m):je kf (mirror xs q m ((m-q) / 2)) m:=λi j hij hj=>by
 rcases jO (i:=q) hm i with⟨a,b,e1⟩|⟨n,e1⟩ <;> rcases jO (i:=q) hm j with⟨a',b',e2⟩|⟨n',e2⟩
 ·rw[qF e2 e1]
  have z:=h.2 (q+m-1-j) (q+m-1-i) (by omega) (by omega) (by omega)
  exact .inr z
 ·omega
 ·rw[qF e2 e1]
  exact(h.1 i (q+m-1-j) (by omega) (by omega) (by omega)).1
 ·rw[qF e2 e1]
  exact(h.1 i j hij hj (by omega)).1
theorem pq.one{xs:Array Keyed}{m q:Nat}(h:pq kf xs m q)(hq:m<=q+1):je kf xs m:=λi j hij hj=>(h.1 i j hij hj (by omega)).1
end
section
variable {prog:Program}{w:World}{A:Around}{E:Value->Shared->Prop}{s:Shared}{N:Nat}{kd:SortKind}{kf:Value->Int × Int}
structure SB(a₀ : Array Keyed)(kd:SortKind)(st:SortSt):Prop where
 pm:(arrOf st).Perm a₀
 kn:kindOf st=kd
 fl:failedOf st=none
 pd:pendingOf st = #[]
theorem SB.sz{a₀ : Array Keyed}{st:SortSt}(h:SB a₀ kd st):(arrOf st).size=a₀.size:=h.pm.size_eq
theorem SB.put{a₀ : Array Keyed}{st:SortSt}(h:SB a₀ kd st){xs:Array Keyed}(p:xs.Perm (arrOf st)):SB a₀ kd (setArr st xs):=⟨p.trans h.pm,h.kn,h.fl,h.pd⟩
noncomputable def Asks(prog:Program)(w:World)(A:Around)(E:Value->Shared->Prop)(s:Shared)(a₀ : Array Keyed)(kd:SortKind)(kf:Value->Int × Int):Prop :=
 ∀(st:SortSt) (i j:Nat) (Q:Option Bool->SortSt->Prop),SB a₀ kd st->i<a₀.size->j<a₀.size->Q (some (decide (Kl kf (arrOf st) i j))) st->wpS (model prog w) A E s (ltAt' i j) Q st
variable {a₀ : Array Keyed}(ask:Asks prog w A E s a₀ kd kf)
include ask
theorem Uq{st:SortSt}{a n:Nat}{Q:AscSt->SortSt->Prop}(hn:n<=a₀.size)(ha:1<=a)(han:a<=n)(B:SB a₀ kd st)(p:Pre a₀.size (arrOf st) a)(h0:jm kf (arrOf st) a)
  (h:∀m,a<=m->m<=n->jm kf (arrOf st) m->Pre a₀.size (arrOf st) m->(m=n\/(m<n/\Kl kf (arrOf st) m (m-1)))->Q (none,m) st):wpS (model prog w) A E s (ascLoop a n) Q st:=by
 unfold ascLoop
 have up:∀x,a<=x->x<=n->Pre a₀.size (arrOf st) x:=λx h1 h2=>⟨λk hk=>by
  by_cases z:k<a
  ·have:=p.1 k z; omega
  ·rw[p.2 k (by omega) (by omega)]; omega,λk h3 h4=>p.2 k (by omega) h4⟩
 refine wpS_forRange (I:=λx c t=>t=st/\c=(none,x)/\x<=n/\jm kf (arrOf st) x) ?_ ?_ ⟨rfl,rfl,han,h0⟩
 ·rintro x c t h1 h2 ⟨rfl,rfl,_,hs⟩
  refine wpS_bind (ask _ _ _ _ B (by omega) (by omega) ?_)
  by_cases l:Kl kf (arrOf t) x (x-1)
  ·rw[decide_eq_true l]
   exact wpS_pure (h x h1 (by omega) hs (up x h1 (by omega)) (.inr ⟨h2,l⟩))
  ·rw[decide_eq_false l]
   refine wpS_pure ⟨rfl,rfl,h2,λi j hij hj=>?_⟩
   by_cases z:j<x
   ·exact hs i j hij z
   ·have ej:j=x:=by omega
    subst ej
    have r1:=(up j h1 (by omega)).1 i hij
    have r2:=(up j h1 (by omega)).2 j (Nat.le_refl _) (by omega)
    by_cases z:i=j-1
    ·subst z
     exact Lq.mk l (by rw[r2]; exact r1)
    ·have y:=hs i (j-1) (by omega) (by omega)
     exact Lq.mk (λz=>l (z.tq y)) (by rw[r2]; exact r1)
 ·rintro c t ⟨rfl,rfl,_,hs⟩
  rw[show max a n=n by omega]at hs ⊢
  exact h n han (Nat.le_refl _) hs (up n han (Nat.le_refl _)) (.inl rfl)
theorem Ur{st:SortSt}{m n:Nat}{Q:Option Nat->SortSt->Prop}(hn:n<=a₀.size)(h1:1<=m)(hm:m<=n)(B:SB a₀ kd st)(p:Pre a₀.size (arrOf st) m)(d:je kf (arrOf st) m)
  (h:∀m t,SB a₀ kd t->1<=m->m<=n->jm kf (arrOf t) m->Pre a₀.size (arrOf t) m->Q (some m) t):wpS (model prog w) A E s (tail3 m n) Q st:=by
 unfold tail3
 have z:m<=(arrOf st).size:=by rw[B.sz]; omega
 refine wpS_bind (wpS_reverse ?_)
 have B':SB a₀ kd (setArr st (mirror (arrOf st) 0 m ((m-0) / 2))):=B.put (mirror_perm _ _ _ _)
 exact wpS_bind (Uq ask hn h1 hm B' (p.jO z (Nat.le_refl _)) (d.turn z) λk k1 k2 k3 k4 _=>wpS_pure (h k _ B' (by omega) k2 k3 k4))
theorem adA{st:SortSt}{m n:Nat}{Q:DescSt->SortSt->Prop}(hn:n<=a₀.size)(h1:1<=m)(hm:m<=n)(B:SB a₀ kd st)(p:Pre a₀.size (arrOf st) m)(d:pq kf (arrOf st) m (m-1))
  (h:∀x e t,SB a₀ kd t->m<=x->x<=n->e+1<=x->pq kf (arrOf t) x (x-(e+1))->Pre a₀.size (arrOf t) x->Q (none,x,e) t):wpS (model prog w) A E s (descLoop m n) Q st:=by
 unfold descLoop
 refine wpS_forRange (I:=λx c t=>∃e,c=(none,x,e)/\SB a₀ kd t/\x<=n/\e+1<=x/\pq kf (arrOf t) x (x-(e+1))/\Pre a₀.size (arrOf t) x) ?_ ?_ ⟨0,rfl,B,hm,by omega,d,p⟩
 ·rintro x c t k1 k2 ⟨e,rfl,B',_,ke,d',p'⟩
  dsimp only
  have z:x<=(arrOf t).size:=by rw[B'.sz]; omega
  have pu:∀ys:Array Keyed,Pre a₀.size ys x->Pre a₀.size ys (x+1):=λys q=>⟨λk hk=>by
   by_cases y:k<x
   ·have:=q.1 k y; omega
   ·rw[q.2 k (by omega) (by omega)]; omega,λk h3 h4=>q.2 k (by omega) h4⟩
  refine wpS_bind (ask _ _ _ _ B' (by omega) (by omega) ?_)
  by_cases l:Kl kf (arrOf t) x (x-1)
  ·rw[decide_eq_true l]
   have next:∀ys:Array Keyed,je kf ys x->(∀i,i<x->Kl kf ys x i)->pq kf ys (x+1) x:=λys y1 y2=>⟨λi j hij hj hi=>by
    by_cases y:j<x
    ·exact⟨y1 i j hij y,λz=>by omega⟩
    ·have:j=x:=by omega
     subst this
     exact⟨.inl (y2 i hi),λ_=>y2 i hi⟩,λi j h1 h2 h3=>by omega⟩
   have low:∀i,i<x->Kl kf (arrOf t) x i:=λi hi=>by
    by_cases y:i=x-1
    ·rw[y]; exact l
    ·by_cases y2:i<x-(e+1)
     ·exact l.tq (d'.1 i (x-1) (by omega) (by omega) y2).1
     ·exact Ke.r l (d'.2 i (x-1) (by omega) (by omega) (by omega)).1.s
   show wpS _ _ _ _ (if e > 0 then _ else _) _ _
   by_cases g:e > 0
   ·rw[if_pos g]
    refine wpS_bind (wpS_reverse (wpS_pure ⟨0,rfl,B'.put (mirror_perm _ _ _ _),k2,by omega,?_,pu _ (p'.jO z (Nat.le_refl _))⟩))
    rw[show x+1-(0+1)=x by omega]
    refine next _ (d'.turn z (by omega)) λi hi=>?_
    rcases jO (i:=x-(e+1)) z x with⟨_,b,_⟩|⟨_,e1⟩
    ·omega
    ·rcases jO (i:=x-(e+1)) z i with⟨_,_,e2⟩|⟨_,e2⟩
     ·rw[Ea e1 e2]; exact low _ (by omega)
     ·rw[Ea e1 e2]; exact low _ hi
   ·rw[if_neg g]
    refine wpS_pure ⟨0,rfl,B',k2,by omega,?_,pu _ p'⟩
    rw[show x+1-(0+1)=x by omega]
    exact next _ (d'.one (by omega)) low
  ·rw[decide_eq_false l]
   show wpS _ _ _ _ (ltAt' (x-1) x >>= _) _ _
   refine wpS_bind (ask _ _ _ _ B' (by omega) (by omega) ?_)
   by_cases g:Kl kf (arrOf t) (x-1) x
   ·rw[decide_eq_true g]
    exact wpS_pure (h x e t B' k1 (by omega) ke d' p')
   ·rw[decide_eq_false g]
    have eq:Ke kf (arrOf t) (x-1) x:=Kl.no g l
    refine wpS_pure ⟨e+1,rfl,B',k2,by omega,?_,pu _ p'⟩
    rw[show x+1-(e+1+1)=x-(e+1) by omega]
    refine⟨λi j hij hj hi=>?_,λi j hi hij hj=>?_⟩
    ·by_cases y:j<x
     ·exact d'.1 i j hij y hi
     ·have:j=x:=by omega
      subst this
      have y:=(d'.1 i (j-1) (by omega) (by omega) hi).2 (by omega)
      have y':Kl kf (arrOf t) j i:=eq.s.l y
      exact⟨.inl y',λ_=>y'⟩
    ·by_cases y:j<x
     ·exact d'.2 i j hi hij y
     ·have:j=x:=by omega
      subst this
      have r1:=p'.1 i hij
      have r2:=p'.2 j (Nat.le_refl _) (by omega)
      refine⟨?_,by omega⟩
      by_cases y:i=j-1
      ·rw[y]; exact eq
      ·exact(d'.2 i (j-1) hi (by omega) (by omega)).1.t eq
 ·rintro c t ⟨e,rfl,B',_,ke,d',p'⟩
  rw[show max m n=n by omega]at ke d' p' ⊢
  exact h n e t B' hm (Nat.le_refl _) ke d' p'
theorem Ut{st:SortSt}{m n:Nat}{Q:Option Nat->SortSt->Prop}(hn:n<=a₀.size)(hm:m+1<=n)(B:SB a₀ kd st)(p:Pre a₀.size (arrOf st) (m+1))(d:pq kf (arrOf st) (m+1) m)
  (h:∀m t,SB a₀ kd t->1<=m->m<=n->jm kf (arrOf t) m->Pre a₀.size (arrOf t) m->Q (some m) t):wpS (model prog w) A E s (descPart m n) Q st:=by
 unfold descPart
 refine wpS_bind (wpS_lift (wpAny_rule ⟨rfl,?_⟩))
 refine wpS_bind (adA ask hn (by omega) hm B p (by rw[show m+1-1=m by omega]; exact d) λx e t B' k1 k2 ke d' p'=>?_)
 have z:x<=(arrOf t).size:=by rw[B'.sz]; omega
 show wpS _ _ _ _ (if e > 0 then(reverseSlice' (x-(e+1)) x >>= λ_=>tail3 x n)else tail3 x n) _ _
 by_cases g:e > 0
 ·rw[if_pos g]
  exact wpS_bind (wpS_reverse (Ur ask hn (by omega) k2 (B'.put (mirror_perm _ _ _ _)) (p'.jO z (Nat.le_refl _)) (d'.turn z (by omega)) h))
 ·rw[if_neg g]
  exact Ur ask hn (by omega) k2 B' p' (d'.one (by omega)) h
theorem adB{st:SortSt}{n:Nat}{Q:Option Nat->SortSt->Prop}(hn:n<=a₀.size)(h1:1<=n)(B:SB a₀ kd st)(p:Pre a₀.size (arrOf st) 0)
  (h:∀m t,SB a₀ kd t->1<=m->m<=n->jm kf (arrOf t) m->Pre a₀.size (arrOf t) m->Q (some m) t):wpS (model prog w) A E s (countRun' 0 n) Q st:=by
 rw[countRun0_eq]
 have p1:Pre a₀.size (arrOf st) 1:=⟨λk hk=>by rw[p.2 k (by omega) (by omega)]; omega,λk h3 h4=>p.2 k (by omega) h4⟩
 refine wpS_bind (Uq ask hn (Nat.le_refl 1) h1 B p1 (λi j _ _=>by omega) λm m1 m2 hs hp ho=>?_)
 show wpS _ _ _ _ (if(m == n)=true then _ else _) _ _
 by_cases e:m=n
 ·rw[if_pos (by simpa using e)]
  exact wpS_pure (h m st B m1 m2 hs hp)
 ·rw[if_neg (by simpa using e)]
  obtain⟨ml,l⟩:=ho.resolve_left e
  have pn:∀ys:Array Keyed,Pre a₀.size ys m->Pre a₀.size ys (m+1):=λys q=>⟨λk hk=>by
   by_cases y:k<m
   ·have:=q.1 k y; omega
   ·rw[q.2 k (by omega) (by omega)]; omega,λk h3 h4=>q.2 k (by omega) h4⟩
  by_cases g:m > 1
  ·rw[if_pos g]
   refine wpS_bind (ask _ _ _ _ B (by omega) (by omega) ?_)
   by_cases r:Kl kf (arrOf st) 0 (m-1)
   ·rw[decide_eq_true r]
    exact wpS_pure (h m st B m1 m2 hs hp)
   ·rw[decide_eq_false r]
    have z:m<=(arrOf st).size:=by rw[B.sz]; omega
    have all:∀i j,i<j->j<m->Ke kf (arrOf st) i j/\qr (arrOf st) i<qr (arrOf st) j:=λi j hij hj=>by
     have a1:=hs i j hij hj
     have a2:i=0\/Lq kf (arrOf st) 0 i:=by
      by_cases y:i=0
      ·exact .inl y
      ·exact .inr (hs 0 i (by omega) (by omega))
     have a3:j=m-1\/Lq kf (arrOf st) j (m-1):=by
      by_cases y:j=m-1
      ·exact .inl y
      ·exact .inr (hs j (m-1) (by omega) (by omega))
     rcases a1 with k1|k1
     ·have k2:Kl kf (arrOf st) 0 j:=by
       rcases a2 with y|y
       ·rw[y]at k1; exact k1
       ·exact Kl.qt y k1
      refine absurd ?_ r
      rcases a3 with y|y
      ·rw[y]at k2; exact k2
      ·exact k2.tq y
     ·exact k1
    have ds:pq kf (arrOf st) m 0:=⟨λi j _ _ hi=>by omega,λi j _ hij hj=>all i j hij hj⟩
    show wpS _ _ _ _ (reverseSlice' 0 m >>= λ_=>descPart m n) _ _
    refine wpS_bind (wpS_reverse (Ut ask hn (by omega) (B.put (mirror_perm _ _ _ _)) (pn _ (hp.jO z (Nat.le_refl _))) ?_ h))
    have dd:=ds.turn z (by omega)
    have low:∀i,i<m->Kl kf (arrOf st) m i:=λi hi=>by
     by_cases y:i=m-1
     ·rw[y]; exact l
     ·exact Ke.r l (all i (m-1) (by omega) (by omega)).1.s
    have Uu:∀i,i<m->Kl kf (mirror (arrOf st) 0 m ((m-0) / 2)) m i:=λi hi=>by
     rcases jO (i:=0) z m with⟨_,b,_⟩|⟨_,e1⟩
     ·omega
     ·rcases jO (i:=0) z i with⟨_,_,e2⟩|⟨_,e2⟩
      ·rw[Ea e1 e2]; exact low _ (by omega)
      ·rw[Ea e1 e2]; exact low _ hi
    refine⟨λi j hij hj hi=>?_,λi j _ _ _=>by omega⟩
    by_cases y:j<m
    ·exact⟨dd i j hij y,λz=>by omega⟩
    ·have:j=m:=by omega
     subst this
     exact⟨.inl (Uu i hi),λ_=>Uu i hi⟩
  ·rw[if_neg g]
   have e1:m=1:=by omega
   subst e1
   refine Ut ask hn (by omega) B (pn _ hp) ⟨λi j hij hj hi=>?_,λi j _ _ _=>by omega⟩ h
   have i0:i=0:=by omega
   have j1:j=1:=by omega
   subst i0 j1
   exact⟨.inl l,λ_=>l⟩
theorem adC{st:SortSt}{n ok:Nat}{Q:Bool->SortSt->Prop}(hn:n<=a₀.size)(h1:1<=ok)(hok:ok<=n)(B:SB a₀ kd st)(p:Pre a₀.size (arrOf st) ok)(d:jm kf (arrOf st) ok)
  (h:∀t,SB a₀ kd t->jm kf (arrOf t) n->Q true t):wpS (model prog w) A E s (binarySort' 0 n ok) Q st:=by
 rw[binarySort'_eq]
 simp only[Nat.zero_add]
 refine wpS_bind (wpS_mono (wpS_forRange (I:=λk c t=>c=(none,())/\SB a₀ kd t/\k<=n/\jm kf (arrOf t) k/\Pre a₀.size (arrOf t) k) (Q:=λc t=>c=(none,())/\SB a₀ kd t/\jm kf (arrOf t) n) ?_ ?_ ?_) ?_)
 ·rintro k c t k1 k2 ⟨rfl,B',_,d',p'⟩
  have hk:k<a₀.size:=by omega
  have rk:=p'.2 k (Nat.le_refl _) hk
  refine wpS_bind (wpS_mono (wpS_forRange (I:=λx c u=>u=t/\∃l r,c=(none,l,r)/\l<=r/\r<=k/\r-l<=k-x/\(∀i,i<l->¬Kl kf (arrOf t) k i)/\∀i,r<=i->i<k->Kl kf (arrOf t) k i)
   (Q:=λc u=>u=t/\∃l r,c=(none,l,r)/\l<=k/\(∀i,i<l->¬Kl kf (arrOf t) k i)/\∀i,l<=i->i<k->Kl kf (arrOf t) k i) ?_ ?_ ?_) ?_)
  ·rintro x c u _ hx ⟨rfl,l,r,rfl,g1,g2,g3,lo,hi⟩
   dsimp only
   by_cases g:l >= r
   ·rw[if_pos g]
    have:l=r:=by omega
    subst this
    exact wpS_pure ⟨rfl,l,l,rfl,g2,lo,hi⟩
   ·rw[if_neg g]
    refine wpS_bind (ask _ _ _ _ B' hk (by omega) ?_)
    by_cases le:Kl kf (arrOf u) k ((l+r) / 2)
    ·rw[decide_eq_true le]
     refine wpS_pure ⟨rfl,l,(l+r) / 2,rfl,by omega,by omega,by omega,lo,λi h1 h2=>?_⟩
     by_cases y:i=(l+r) / 2
     ·rw[y]; exact le
     ·exact le.tq (d' ((l+r) / 2) i (by omega) h2)
    ·rw[decide_eq_false le]
     refine wpS_pure ⟨rfl,(l+r) / 2+1,r,rfl,by omega,by omega,by omega,λi h1=>?_,hi⟩
     by_cases y:i=(l+r) / 2
     ·rw[y]; exact le
     ·exact λz=>le (z.tq (d' i ((l+r) / 2) (by omega) (by omega)))
  ·rintro c u ⟨rfl,l,r,rfl,g1,g2,g3,lo,hi⟩
   have:l=r:=by omega
   subst this
   exact⟨rfl,l,l,rfl,g2,lo,hi⟩
  ·exact⟨rfl,0,k,rfl,by omega,by omega,by omega,λi hi=>by omega,λi g1 g2=>by omega⟩
  ·rintro c u ⟨rfl,l,r,rfl,lk,lo,hi⟩
   show wpS _ _ _ _ (moveDown' k l >>= λ_=>pure (ForInStep.yield (none,()))) _ _
   rw[moveDown'_eq]
   refine wpS_bind (wpS_modify (wpS_pure ⟨rfl,B'.put (bubble_perm _ _ _),k2,?_,?_⟩))
   all_goals
    have ks:k<(arrOf u).size:=by rw[B'.sz]; exact hk
    have bb:=getElem?_bubble ks (k-l) (by omega)
    rw[show k-(k-l)=l by omega]at bb
    have b1:(bubble (arrOf u) k (k-l))[l]?=(arrOf u)[k]? := by rw[bb,if_pos rfl]
    have b2:∀i,l<i->i<=k->(bubble (arrOf u) k (k-l))[i]?=(arrOf u)[i-1]? := λi g1 g2=>by rw[bb,if_neg (by omega),if_pos ⟨g1,g2⟩]
    have b3:∀i,i<l->(bubble (arrOf u) k (k-l))[i]?=(arrOf u)[i]? := λi g1=>by rw[bb,if_neg (by omega),if_neg (by omega)]
    have b4:∀i,k<i->(bubble (arrOf u) k (k-l))[i]?=(arrOf u)[i]? := λi g1=>by rw[bb,if_neg (by omega),if_neg (by omega)]
   ·intro i j hij hj
    show Lq kf (bubble (arrOf u) k (k-l)) i j
    rcases Nat.lt_trichotomy i l with y|y|y <;> rcases Nat.lt_trichotomy j l with y'|y'|y'
    ·rw[qF (b3 i y) (b3 j y')]; exact d' i j hij (by omega)
    ·subst y'
     rw[qF (b3 i y) b1]
     exact Lq.mk (lo i y) (by rw[rk]; exact p'.1 i (by omega))
    ·rw[qF (b3 i y) (b2 j y' (by omega))]; exact d' i (j-1) (by omega) (by omega)
    ·omega
    ·omega
    ·subst y
     rw[qF b1 (b2 j y' (by omega))]
     exact .inl (hi _ (by omega) (by omega))
    ·omega
    ·omega
    ·rw[qF (b2 i y (by omega)) (b2 j y' (by omega))]; exact d' _ _ (by omega) (by omega)
   ·refine⟨λi hi'=>?_,λi g1 g2=>?_⟩
    ·show qr (bubble (arrOf u) k (k-l)) i<_
     rcases Nat.lt_trichotomy i l with y|y|y
     ·rw[qD (b3 i y)]; have:=p'.1 i (by omega); omega
     ·subst y; rw[qD b1,rk]; omega
     ·rw[qD (b2 i y (by omega))]; have:=p'.1 (i-1) (by omega); omega
    ·show qr (bubble (arrOf u) k (k-l)) i=_
     rw[qD (b4 i (by omega))]
     exact p'.2 i (by omega) g2
 ·rintro c t ⟨rfl,B',kn,d',p'⟩
  refine⟨rfl,B',?_⟩
  rwa[show max (max ok 1) n=n by omega]at d'
 ·rw[show max ok 1=ok by omega]
  exact⟨rfl,B,hok,d,p⟩
 ·rintro c t ⟨rfl,B',d'⟩
  exact wpS_pure (h t B' d')
theorem adD{st:SortSt}{Q:Unit->SortSt->Prop}(B:SB a₀ kd st)(h2:2<=a₀.size)(h64:a₀.size<64)(p:Pre a₀.size (arrOf st) 0)
  (h:∀t,(arrOf t).Perm a₀ -> failedOf t=none->jm kf (arrOf t) a₀.size->Q () t):wpS (model prog w) A E s sortRuns' Q st:=by
 rw[sortRuns'_eq]
 refine wpS_bind (wpS_get ?_)
 have mr:minRun' (arrOf st).size (arrOf st).size 0=a₀.size:=by
  rw[B.sz]
  obtain⟨f,hf⟩:∃f,a₀.size=f+1:=⟨a₀.size-1,by omega⟩
  have:minRun' (f+1) (f+1) 0=f+1:=by rw[minRun'_succ,if_pos (by omega)]
  rw[hf]; exact this
 dsimp only
 rw[mr,B.sz]
 have fin:∀t,SB a₀ kd t->jm kf (arrOf t) a₀.size->(arrOf (setPending t ((pendingOf t).push (0,a₀.size,0)))).Perm a₀/\failedOf (setPending t ((pendingOf t).push (0,a₀.size,0)))=none/\pendingOf (setPending t ((pendingOf t).push (0,a₀.size,0))) = #[(0,a₀.size,0)]/\jm kf (arrOf (setPending t ((pendingOf t).push (0,a₀.size,0)))) a₀.size :=
  λt B' d'=>⟨B'.pm,B'.fl,by show(pendingOf t).push _=_; rw[B'.pd]; rfl,d'⟩
 refine wpS_bind (wpS_mono (wpS_forRange (I:=λx c t=>(x=0/\c=(none,0)/\SB a₀ kd t/\Pre a₀.size (arrOf t) 0)\/(1<=x/\c=(none,a₀.size)/\(arrOf t).Perm a₀/\failedOf t=none/\pendingOf t = #[(0,a₀.size,0)]/\jm kf (arrOf t) a₀.size))
  (Q:=λc t=>c=(none,a₀.size)/\(arrOf t).Perm a₀/\failedOf t=none/\pendingOf t = #[(0,a₀.size,0)]/\jm kf (arrOf t) a₀.size) ?_ ?_ (.inl ⟨rfl,rfl,B,p⟩)) ?_)
 ·rintro x c t _ hx (⟨rfl,rfl,B',p'⟩|⟨hx1,rfl,D⟩)
  ·show wpS _ _ _ _ (if 0 >= a₀.size then _ else _) _ _
   rw[if_neg (by omega)]
   simp only[Nat.sub_zero,Nat.min_self,Nat.zero_add]
   refine wpS_bind (adB ask (Nat.le_refl _) (by omega) B' p' λm u B2 m1 m2 d2 p2=>?_)
   show wpS _ _ _ _ (if m<a₀.size then _ else _) _ _
   by_cases g:m<a₀.size
   ·rw[if_pos g]
    refine wpS_bind (wpS_lift (wpAny_rule ⟨rfl,?_⟩))
    refine wpS_bind (adC ask (Nat.le_refl _) m1 m2 B2 p2 d2 λv B3 d3=>?_)
    simp only[Bool.not_true,Bool.false_eq_true,if_false]
    refine wpS_bind (wpS_get ?_)
    rw[show(pendingOf v).back? = none by rw[B3.pd]; rfl]
    exact wpS_bind (wpS_modify (wpS_pure (.inr ⟨by omega,rfl,fin v B3 d3⟩)))
   ·rw[if_neg g]
    have e:m=a₀.size:=by omega
    subst e
    refine wpS_bind (wpS_get ?_)
    rw[show(pendingOf u).back? = none by rw[B2.pd]; rfl]
    exact wpS_bind (wpS_modify (wpS_pure (.inr ⟨by omega,rfl,fin u B2 d2⟩)))
  ·show wpS _ _ _ _ (if a₀.size >= a₀.size then _ else _) _ _
   rw[if_pos (Nat.le_refl _)]
   exact wpS_pure ⟨rfl,D⟩
 ·rintro c t (⟨hx,_,_⟩|⟨_,hc,D⟩)
  ·omega
  ·exact⟨hc,D⟩
 ·rintro c t ⟨rfl,D⟩
  refine wpS_bind (wpS_mono (wpS_forRange (I:=λ_ c u=>u=t/\c=(none,())) (Q:=λc u=>u=t/\c=(none,())) ?_ (λ_ _ z=>z) ⟨rfl,rfl⟩) ?_)
  ·rintro x c u _ _ ⟨rfl,rfl⟩
   refine wpS_bind (wpS_get ?_)
   rw[if_pos (by rw[D.2.2.1]; exact Nat.le_refl 1)]
   exact wpS_pure ⟨rfl,rfl⟩
  ·rintro c u ⟨rfl,rfl⟩
   exact wpS_pure (h _ D.1 D.2.1 D.2.2.2)
end
end L2
end
section
namespace L2
open PySem PySem.Spec PyProof.Rows PySem.W
section
variable {X:Cx}{pins:List (Addr × Obj)}{σ : St}{H:Hp}{s:Shared}
theorem Inv.track{a:Addr}{xs:List V}{its:List Value}{n:Nat}(I:Inv X pins σ H s)(f:eU X pins H a)(e:s.heap.get? a=some {cls:=.type "list",data:=.seq its.toArray n }) (r:Vals xs its) (hz:xs.length<=sizeLine):Inv X pins σ (upd H a (.lst xs)) s:=by
 obtain⟨f0,f1,f2,f3,f4,f5⟩:=f
 have ok:fJ X.prog X.w (upd H a (.lst xs)) s.heap:=λb u q=>by
  by_cases hb:b=a
  ·subst hb; rw[dI]at q; cases q; exact⟨hz,its,n,r,e⟩
  ·rw[bB hb]at q
   exact(I.hok b u q).stay (λc v _ z=>z) (λc z=>by rw[bB (iR z f0)]; exact z) λc ys z=>by rw[bB (iR z f0)]; exact z
 exact I.step (h':=s.heap) (g':=s.gens) (t':=s.toks) (d':=s.drawn) (ch:=[a]) (λb hb=>by
   have:b=a:=by simpa using hb
   subst this
   exact⟨f3,f1,f4,f5⟩) (λb o _ _ _ q _=>q) (λb o _ _ _ q _=>⟨o.slots,q⟩) (λb o hb _ q=>by rw[bB (by simpa using hb)]; exact q) (λb o _ q=>⟨o,q⟩)
  (λb ys q=>by rw[bB (iR q f0)]; exact q) (λb o u q=>by rw[bB (iR q f0)]; exact q) (λb ps q=>⟨#[],by rw[bB (iR q f0),q]; simp⟩) (λm q=>q) ok I.bare
theorem Inv.sub{n8:List (Addr × Obj)}(I:Inv X pins σ H s)(h:∀p∈n8,p∈pins):Inv X n8 σ H s:=I.BK λp hp=>I.pin p (List.mem_append_right _ (h p hp))
theorem Inv.uO{a:Addr}{o:Obj}(I:Inv X pins σ H s)(f:eU X pins H a)(e:s.heap.get? a=some o)(d:∀v,o.data ≠ .cell v):Inv X ((a,o)::pins) σ H s:=I.BK λp hp=>by
 rcases List.mem_cons.mp hp with rfl|hp
 ·exact⟨e,f.1,f.2.1,f.2.2.1,d⟩
 ·exact I.pin p (List.mem_append_right _ hp)
theorem eU.uO{a b:Addr}{o:Obj}(f:eU X pins H b)(n:a≠b):eU X ((a,o)::pins) H b:=⟨f.1,f.2.1,f.2.2.1,f.2.2.2.1,f.2.2.2.2.1,λp hp=>by
 rcases List.mem_append.mp hp with hp|hp
 ·exact f.2.2.2.2.2 p (List.mem_append_left _ hp)
 ·rcases List.mem_cons.mp hp with rfl|hp
  ·exact n
  ·exact f.2.2.2.2.2 p (List.mem_append_right _ hp)⟩
theorem Inv.wr{a:Addr}{g:Array Value->Array Value}{t':Nat}(I:Inv X pins σ H s)(f:eU X pins H a):Inv X pins σ H {s with heap:=s.heap.update a (Obj.mapSeq g),toks:=t' }:=by
 obtain⟨f0,f1,f2,f3,f4,f5⟩:=f
 exact I.turned (it:=a) (λb o hb e=>((Heap.SameBut.update s.heap a _).2 b hb).trans e) f0 f1 f3 f4 f5
end
def qG(n:Nat)(kz:Nat->Int × Int)(ys:List Nat):Prop:=ys.Perm (List.range n)/\ys.Pairwise λi j=>((kz i).1<(kz j).1\/((kz i).1=(kz j).1/\(kz i).2<(kz j).2))\/(((kz i).1=(kz j).1/\(kz i).2=(kz j).2)/\i<j)
structure uP(X:Cx)(Kv:Hp->Value->Int × Int->Prop)(kd:SortKind):Prop where
 kind:∀(H:Hp) (keys:Array Value) (kz:Nat->Int × Int),2<=keys.size->(∀i v,keys[i]?=some v->Kv H v (kz i))->∀{pins σ s Q E},Inv X pins σ H s->Q kd s->wpAny (model X.prog X.w) X.A.in1.in1 (keyKind' keys) Q E s
 ask:∀{pins σ H s} {E:Value->Shared->Prop} (a₀ : Array Keyed) (kf:Value->Int × Int),Inv X pins σ H s->(∀p,p∈a₀.toList->Kv H p.1 (kf p.1))->Asks X.prog X.w X.A.in1.in1 E s a₀ kd kf
section
variable {X:Cx}
theorem Uv:uP X (λ_ v k=>∃t,v=.int k.1 t/\k.2=0) oneType' where
 kind:=λH keys kz h2 hk pins σ s Q E I q=>by
  have hi:IntsAre keys.toList (keys.toList.map numOf):=by
   refine intsAre_map _ λv hv=>?_
   obtain⟨i,hi,e⟩:=List.getElem_of_mem hv
   obtain⟨t,z,_⟩:=hk i v (by rw[<-e]; simp[Array.getElem?_eq_getElem (show i<keys.size by simpa using hi)])
   exact⟨_,t,z⟩
  rw[ksk_kind hi h2]
  exact wpAny_pure q
 ask:=λa₀ kf I h st i j Q B hi hj q=>by
  have h0:IntKeys a₀ := λp hp=>by
   obtain⟨t,z,_⟩:=h p hp
   exact⟨_,t,z⟩
  have B':SBase a₀ st:=⟨B.pm,B.kn,B.fl,B.pd⟩
  have at_:∀i,i<a₀.size->q1 kf (arrOf st) i=K (arrOf st) i/\q2 kf (arrOf st) i=0:=λi hi=>by
   obtain⟨t,p,e⟩:=B'.at h0 hi
   have hi':i<(arrOf st).size:=by rw[B.sz]; exact hi
   have hm:(arrOf st)[i]∈a₀.toList:=(Array.perm_iff_toList_perm.mp B.pm).mem_iff.mp (by simp)
   obtain⟨t',z,z2⟩:=h _ hm
   have e':(arrOf st)[i]?=some (arrOf st)[i]:=getElem?_pos _ i hi'
   have e2:(arrOf st)[i]=(Value.int (K (arrOf st) i) t,p):=by rw[e']at e; exact Option.some.inj e
   rw[e2]at z z2
   unfold q1 q2
   rw[e]
   refine⟨?_,z2⟩
   have z:Value.int (K (arrOf st) i) t=Value.int (kf (Value.int (K (arrOf st) i) t)).1 t':=z
   injection z with z
   exact z.symm
  refine wpS_ltK B' h0 hi hj ?_
  have:decide (Kl kf (arrOf st) i j)=decide (K (arrOf st) i<K (arrOf st) j):=by
   rw[decide_eq_decide]
   unfold Kl
   rw[(at_ i hi).1,(at_ j hj).1,(at_ i hi).2,(at_ j hj).2]
   omega
  rw[this]at q
  exact q
end
section
variable {X:Cx}{pins:List (Addr × Obj)}{σ : St}{H:Hp}{s:Shared}{Kv:Hp->Value->Int × Int->Prop}{kd:SortKind}{a kS:Addr}{n:Nat}{kz:Nat->Int × Int}{vs:List Value}
theorem Uw{e1:Nat}{keys:Array Value}{e:Nat}{st:SortSt}{P:PySem.Fin->Shared->Prop}{E:Value->Shared->Prop}(I:Inv X pins σ H s)(fk:eU X pins H kS)(fa:eU X pins H a)(ne:kS≠a)(hk:s.heap.get? kS=some (seqObj "list" keys e)) (ha:s.heap.get? a=some (seqObj "list" #[] e1)) (hks:keys.size<=64) (hst:(arrOf st).size<=64) (fl:failedOf st=none)
  (h:∀s' c,Inv X pins σ H s'->s'.heap.get? a=some (seqObj "list" ((arrOf st).map (·.2)) c)->P (.done (.ret .none)) s'):wpAny (model X.prog X.w) X.A.in1.in1 (ksk_tail a false e1 (.ref kS) st) P E s:=by
 unfold ksk_tail
 refine wpAny_bind (listUpdate_at hk rfl ?_ (by rw[sizeLine_eq]; omega) (Nat.zero_le _))
 refine wpAny_bind (wpAny_letGo ?_)
 have I1:=I.wr (g:=λ_=>#[]) (t':=s.toks) fk
 have ha1:(s.heap.update kS (Obj.mapSeq λ_=>(#[]:Array Value))).get? a=some (seqObj "list" #[] e1):=((Heap.SameBut.update s.heap kS _).2 a (Ne.symm ne)).trans ha
 refine wpAny_bind (seqEpoch_at ha1 rfl ?_)
 refine wpAny_bind (listUpdate_at ha1 rfl ?_ (Nat.zero_le _) (by simp only[Bool.false_eq_true,if_false,Array.size_map]; rw[sizeLine_eq]; omega))
 rw[fl]
 simp only[bne_self_eq_false,Bool.false_eq_true,if_false]
 exact wpAny_pure (h _ _ (I1.wr (t':=s.toks) fa) (get?_update_seq ha1 _))
theorem adE{e1:Nat}{keys:Array Value}{e:Nat}{P:PySem.Fin->Shared->Prop}{E:Value->Shared->Prop}(T:uP X Kv kd)(I:Inv X pins σ H s)(fk:eU X pins H kS)(fa:eU X pins H a)(ne:kS≠a)(hk:s.heap.get? kS=some (seqObj "list" keys e)) (ha:s.heap.get? a=some (seqObj "list" #[] e1))
  (hv:∀(i:Nat) (v:Value),vs[i]?=some v->∃t,v=Value.int i t) (hl:vs.length=n) (hkn:keys.size=n) (h64:n<64) (hK:∀i v,keys[i]?=some v->Kv H v (kz i)) (inj:∀v k k',Kv H v k->Kv H v k'->k=k')
  (h:∀s' c out,Inv X pins σ H s'->s'.heap.get? a=some (seqObj "list" out c)->(∃ys,qG n kz ys/\Vals (ys.map λi:Nat=>V.int i) out.toList)->P (.done (.ret .none)) s'):wpAny (model X.prog X.w) X.A.in1.in1 (ksk_end a false vs.toArray e1 (.ref kS) keys) P E s:=by
 have wW:(keys.zip vs.toArray).size=n:=by rw[Array.size_zip,hkn,List.size_toArray,hl,Nat.min_self]
 have zG:∀i,i<n->∃v t,(keys.zip vs.toArray)[i]?=some (v,.int i t)/\Kv H v (kz i):=λi hi=>by
  obtain⟨t,e2⟩:=hv i vs[i] (by simp[hl,hi])
  have e1:keys[i]?=some keys[i]:=getElem?_pos _ _ (by omega)
  refine⟨keys[i],t,?_,hK i _ e1⟩
  rw[<-Array.getElem?_toList,ksk_zip,List.getElem?_zip_eq_some]
  refine⟨by simp[Array.getElem?_toList,e1],?_⟩
  show vs[i]?=some (Value.int i t)
  rw[List.getElem?_eq_getElem (by omega),e2]
 -- what the sorted array says
 have fin:∀(kf:Value->Int × Int) (xs:Array Keyed),(∀(i:Nat) v t,(keys.zip vs.toArray)[i]?=some (v,Value.int i t)->kf v=kz i)->xs.Perm (keys.zip vs.toArray)->jm kf xs n->∃ys,qG n kz ys/\Vals (ys.map λi:Nat=>V.int i) (xs.map (·.2)).toList:=λkf xs hkf hp hs=>by
  have hpl:=Array.perm_iff_toList_perm.mp hp
  have mem:∀p∈xs.toList,∃i t,i<n/\p.2=.int (i:Nat) t/\kf p.1=kz i:=λp hp'=>by
   obtain⟨i,hi,e⟩:=List.getElem_of_mem (hpl.mem_iff.mp hp')
   have hi':i<n:=by rw[Array.length_toList,wW]at hi; exact hi
   obtain⟨v,t,e1,_⟩:=zG i hi'
   have e2:(keys.zip vs.toArray)[i]?=some p:=by rw[<-Array.getElem?_toList,List.getElem?_eq_getElem hi,e]
   rw[e1]at e2
   cases e2
   exact⟨i,t,hi',rfl,hkf i v t e1⟩
  refine⟨xs.toList.map λp=>(numOf p.2).toNat,⟨?_,?_⟩,?_⟩
  ·have h1:=hpl.map λp:Keyed=>(numOf p.2).toNat
   refine h1.trans (List.Perm.of_eq ?_)
   refine List.ext_getElem? λi=>?_
   by_cases hi:i<n
   ·obtain⟨v,t,e1,_⟩:=zG i hi
    rw[List.getElem?_map,Array.getElem?_toList,e1,List.getElem?_range hi]
    simp[numOf]
   ·rw[List.getElem?_eq_none (by simp[wW]; omega),List.getElem?_eq_none (by simp; omega)]
  ·rw[List.pairwise_map,List.pairwise_iff_getElem]
   intro i j hi hj hij
   have sz:xs.size=n:=by rw[hp.size_eq,wW]
   have hi':i<xs.size:=by simpa using hi
   have hj':j<xs.size:=by simpa using hj
   have z:=hs i j hij (by omega)
   obtain⟨a1,t1,_,b1,c1⟩:=mem _ (List.getElem_mem hi)
   obtain⟨a2,t2,_,b2,c2⟩:=mem _ (List.getElem_mem hj)
   have x1:xs[i]?=some xs.toList[i]:=by rw[<-Array.getElem?_toList,List.getElem?_eq_getElem hi]
   have x2:xs[j]?=some xs.toList[j]:=by rw[<-Array.getElem?_toList,List.getElem?_eq_getElem hj]
   unfold Lq Kl Ke q1 q2 qr at z
   rw[x1,x2]at z
   dsimp only at z
   rw[b1,b2,c1,c2]at z
   rw[b1,b2]
   simp only[numOf,Int.toNat_natCast]at z ⊢
   omega
  ·rw[Array.toList_map,List.map_map]
   have go:∀l:List Keyed,(∀p∈l,∃i t,i<n/\p.2=.int (i:Nat) t/\kf p.1=kz i)->Vals (l.map ((λi:Nat=>V.int i) ∘ λp:Keyed=>(numOf p.2).toNat)) (l.map (·.2)):=λl=>by
    induction l with
    |nil=>intro _; exact .nil
    |cons p r ih =>
     intro hm
     refine .cons ?_ (ih λq hq=>hm q (List.mem_cons_of_mem _ hq))
     obtain⟨i,t,_,e,_⟩:=hm p (List.mem_cons_self ..)
     exact⟨t,by simp[e,numOf]⟩
   exact go _ mem
 -- a function of the keys
 obtain⟨kf,hkf⟩:∃kf:Value->Int × Int,∀v k,Kv H v k->kf v=k:=by
  classical
  refine⟨λv=>if q:∃k,Kv H v k then q.choose else(0,0),λv k hk=>?_⟩
  have q:∃k,Kv H v k:=⟨k,hk⟩
  dsimp only
  rw[dif_pos q]
  exact inj v _ _ q.choose_spec hk
 have Ux:∀(i:Nat) v t,(keys.zip vs.toArray)[i]?=some (v,Value.int i t)->kf v=kz i:=λi v t e=>by
  have hi:i<n:=by
   have:=(Array.getElem?_eq_some_iff.mp e).1
   omega
  obtain⟨v',t',e1,q⟩:=zG i hi
  rw[e1]at e
  cases e
  exact hkf _ _ q
 unfold ksk_end
 simp only[Bool.false_eq_true,if_false]
 rw[List.size_toArray,hl]
 by_cases h2:n<2
 ·rw[if_pos h2,if_pos h2]
  refine wpAny_bind (wpAny_pure ?_)
  rw[StateT.run_pure]
  refine wpAny_bind (wpAny_pure ?_)
  refine Uw (st:=SortSt.mk' general' (keys.zip vs.toArray) #[] 7 none) I fk fa ne hk ha (by omega) (by show(keys.zip vs.toArray).size<=64; omega) rfl λs' c I' e'=>h s' c _ I' e' (fin kf _ Ux (Array.Perm.refl _) λi j hij hj=>by omega)
 ·rw[if_neg h2,if_neg h2]
  refine wpAny_bind (T.kind H keys kz (by omega) hK I ?_)
  have ask:=T.ask (E:=E) (s:=s) (keys.zip vs.toArray) kf I (λp hp=>by
   obtain⟨i,hi,e⟩:=List.getElem_of_mem hp
   have hi':i<n:=by rw[Array.length_toList,wW]at hi; exact hi
   obtain⟨v,t,e1,q⟩:=zG i hi'
   have e2:(keys.zip vs.toArray)[i]?=some p:=by rw[<-Array.getElem?_toList,List.getElem?_eq_getElem hi,e]
   rw[e1]at e2
   cases e2
   rw[hkf _ _ q]
   exact q)
  have B:SB (keys.zip vs.toArray) kd (SortSt.mk' kd (keys.zip vs.toArray) #[] 7 none):=⟨Array.Perm.refl _,rfl,rfl,rfl⟩
  have p0:Pre (keys.zip vs.toArray).size (arrOf (SortSt.mk' kd (keys.zip vs.toArray) #[] 7 none)) 0:=⟨λk hk=>by omega,λk _ hk=>by
   obtain⟨v,t,e1,_⟩:=zG k (by omega)
   show qr (keys.zip vs.toArray) k=k
   unfold qr
   rw[e1]
   rfl⟩
  refine wpAny_bind (wpAny_mono (adD (Q:=λ_ t=>(arrOf t).Perm (keys.zip vs.toArray)/\failedOf t=none/\jm kf (arrOf t) (keys.zip vs.toArray).size) ask B (by omega) (by omega) p0 λt a1 a2 a3=>⟨a1,a2,a3⟩) ?_ λ_ _ z=>z)
  rintro⟨⟨⟩,t⟩ s' ⟨rfl,hp,hf,hs⟩
  rw[wW]at hs
  exact Uw I fk fa ne hk ha (by omega) (by rw[hp.size_eq,wW]; omega) hf λs' c I' e'=>h s' c _ I' e' (fin kf _ Ux hp hs)
end
end L2
end
section
namespace L2
open PySem PySem.Spec PyProof.Rows PySem.W
section
variable {X:Cx}{pins:List (Addr × Obj)}{σ : St}{H:Hp}{s:Shared}{Kv:Hp->Value->Int × Int->Prop}{kd:SortKind}{n:Nat}{kz:Nat->Int × Int}{vs:List Value}{f:Value}
theorem eU.up{H':Hp}{b:Addr}(h:eU X pins H b)(e:H' b=none):eU X pins H' b:=⟨e,h.2⟩
noncomputable def JT(X:Cx)(pins:List (Addr × Obj))(σ : St)(H:Hp)(Kv:Hp->Value->Int × Int->Prop)(n:Nat)(kz:Nat->Int × Int)(f:Value):Prop :=
 ∀(n8:List (Addr × Obj)) (i:Nat) (t:Tok) (s':Shared) (H':Hp),i<n->(∀p∈pins,p∈n8)->Same H H'->Inv X n8 σ H' s' ->
  wpAny (model X.prog X.w) X.A.in1.in1 (call f [.int i t]) (λv s''=>∃fW,Same H' fW/\Kv fW v (kz i)/\Inv X n8 σ fW s'') (λ_ _=>False) s'
theorem adF{a kS:Addr}{e1:Nat}{P:PySem.Fin->Shared->Prop}{E:Value->Shared->Prop}(T:uP X Kv kd)(mono:∀{H H':Hp} {v k},Same H H'->Kv H v k->Kv H' v k)(inj:∀(H:Hp) v k k',Kv H v k->Kv H v k'->k=k')
  (I:Inv X pins σ H s) (fk:eU X pins H kS) (fa:eU X pins H a) (ne:kS≠a) (hk:s.heap.get? kS=some (seqObj "list" #[] 0)) (ha:s.heap.get? a=some (seqObj "list" #[] e1))
  (hv:∀(i:Nat) (v:Value),vs[i]?=some v->∃t,v=Value.int i t) (hl:vs.length=n) (h64:n<64) (key:JT X pins σ H Kv n kz f)
  (h:∀s' c out H',Same H H'->H' a=none->Inv X pins σ H' s'->s'.heap.get? a=some (seqObj "list" out c)->(∃ys,qG n kz ys/\Vals (ys.map λi:Nat=>V.int i) out.toList)->P (.done (.ret .none)) s') :
  wpAny (model X.prog X.w) X.A.in1.in1 (ksk_rest a f false vs.toArray e1 (.ref kS)) P E s:=by
 unfold ksk_rest
 refine wpAny_bind (wpAny_rule ?_)
 rw[<-Array.forIn_toList]
 simp only[List.toList_toArray]
 refine wpAny_bind (ksk_fold (λi s'=>∃H' kA e,Same H H'∧H' kS=none∧H' a=none∧Inv X pins σ H' s'∧s'.heap.get? kS=some (seqObj "list" kA e)∧s'.heap.get? a=some (seqObj "list" #[] e1)∧kA.size=i∧∀(j:Nat) v,kA[j]?=some v→Kv H' v (kz j)) vs 0 s
  ⟨H,#[],0,Same.refl _,fk.1,fa.1,I,hk,ha,rfl,λj v z=>by simp at z⟩ ?_ ?_)
 ·rintro j x s' hx ⟨H',kA,e,sm,nk,na,I',hk',ha',sz,hK⟩
  rw[Nat.zero_add]at sz ⊢
  have hj:j<vs.length:=(List.getElem?_eq_some_iff.mp hx).1
  obtain⟨t,rfl⟩:=hv j x hx
  have fk':=fk.up nk
  have fa':=fa.up na
  have I2:Inv X ((kS,seqObj "list" kA e)::(a,seqObj "list" #[] e1)::pins) σ H' s':=(I'.uO fa' ha' (λv z=>by cases z)).uO (fk'.uO (Ne.symm ne)) hk' (λv z=>by cases z)
  refine wpAny_bind (wpAny_attempt (wpAny_mono (key _ j t s' H' (by omega) (λp hp=>List.mem_cons_of_mem _ (List.mem_cons_of_mem _ hp)) sm I2) (λv s'' he=>?_) λ_ _ z=>z.elim))
  obtain⟨fW,Uy,kv,I3⟩:=he
  have p1:=I3.pin (kS,seqObj "list" kA e) (List.mem_append_right _ (List.mem_cons_self ..))
  have p2:=I3.pin (a,seqObj "list" #[] e1) (List.mem_append_right _ (List.mem_cons_of_mem _ (List.mem_cons_self ..)))
  have I4:Inv X pins σ fW s'':=I3.sub λp hp=>List.mem_cons_of_mem _ (List.mem_cons_of_mem _ hp)
  show wpAny _ _ (Builtin.List.listUpdate (.ref kS) (·.push v) >>= λ_=>pure (ForInStep.yield PUnit.unit)) _ _ _
  refine wpAny_bind (listUpdate_at p1.1 rfl ?_ (by rw[sizeLine_eq]; omega) (Nat.le_trans (Nat.le_of_eq (Array.size_push ..)) (by rw[sizeLine_eq]; omega)))
  refine wpAny_pure ⟨rfl,fW,kA.push v,_,sm.trans Uy,p1.2.1,p2.2.1,I4.wr (t':=s''.toks) (fk.up p1.2.1),get?_update_seq p1.1 _,((Heap.SameBut.update s''.heap kS _).2 a (Ne.symm ne)).trans p2.1,by rw[Array.size_push,sz],λi u q=>?_⟩
  rw[Array.getElem?_push]at q
  split at q
  ·rename_i z
   cases q
   rw[z,sz]
   exact kv
  ·exact mono Uy (hK i u q)
 ·rintro s' ⟨H',kA,e,sm,nk,na,I',hk',ha',sz,hK⟩
  refine wpAny_bind (listItems_at hk' rfl ?_)
  exact adE T I' (fk.up nk) (fa.up na) ne hk' ha' hv hl (by omega) h64 hK (inj H') λs'' c out JV e'' q=>h s'' c out H' sm na JV e'' q
theorem adG{a:Addr}{c0:Nat}{P:PySem.Fin->Shared->Prop}{E:Value->Shared->Prop}(T:uP X Kv kd)(mono:∀{H H':Hp} {v k},Same H H'->Kv H v k->Kv H' v k)(inj:∀(H:Hp) v k k',Kv H v k->Kv H v k'->k=k')
  (I:Inv X pins σ H s) (fa:eU X pins H a) (ha:s.heap.get? a=some (seqObj "list" vs.toArray c0))
  (hv:∀(i:Nat) (v:Value),vs[i]?=some v->∃t,v=Value.int i t) (hl:vs.length=n) (h64:n<64) (key:JT X pins σ H Kv n kz f)
  (h:∀s' c out H',Same H H'->H' a=none->Inv X pins σ H' s'->s'.heap.get? a=some (seqObj "list" out c)->(∃ys,qG n kz ys/\Vals (ys.map λi:Nat=>V.int i) out.toList)->P (.done (.ret .none)) s') :
  wpAny (model X.prog X.w) X.A.in1.in1 (ksk_tree a f false) P E s:=by
 unfold ksk_tree
 refine wpAny_bind (listItems_at ha rfl ?_)
 refine wpAny_bind (listUpdate_at ha rfl ?_ (by rw[List.size_toArray,sizeLine_eq]; omega) (Nat.zero_le _))
 have I1:=I.wr (g:=λ_=>#[]) (t':=s.toks) fa
 obtain⟨e1,ha1⟩:∃e1,(s.heap.update a (Obj.mapSeq λ_=>(#[]:Array Value))).get? a=some (seqObj "list" #[] e1):=⟨_,get?_update_seq ha _⟩
 refine wpAny_bind (seqEpoch_at ha1 rfl ?_)
 refine wpAny_bind (wpAny_newTuple ?_ (by show vs.toArray.toList.length<=_; rw[List.toList_toArray,sizeLine_eq]; omega))
 refine wpAny_bind (wpAny_newList ?_ (Nat.zero_le _))
 have I2:Inv X pins σ H {s with heap:=(s.heap.update a (Obj.mapSeq λ_=>(#[]:Array Value))).push {cls:=.type "tuple",data:=.seq vs.toArray.toList.toArray } }:=I1.kept (t':=s.toks) λb o e=>Heap.get?_push_of_some _ e
 have I3:Inv X pins σ H {s with heap:=((s.heap.update a (Obj.mapSeq λ_=>(#[]:Array Value))).push {cls:=.type "tuple",data:=.seq vs.toArray.toList.toArray }).push {cls:=.type "list",data:=.seq ([]:List Value).toArray } }:=I2.kept (t':=s.toks) λb o e=>Heap.get?_push_of_some _ e
 have lt:a<((s.heap.update a (Obj.mapSeq λ_=>(#[]:Array Value))).push {cls:=.type "tuple",data:=.seq vs.toArray.toList.toArray }).objs.size:=by
  rw[size_push',Heap.size_update]
  exact Nat.lt_succ_of_lt (Heap.lt_size ha)
 refine wpAny_holding ?_
 exact adF T mono inj I3 (I2.pR (Nat.le_refl _) (I2.hok.fresh (Nat.le_refl _))) fa (Nat.ne_of_gt lt) (Heap.get?_push_size _ rfl) (Heap.get?_push_of_some _ (Heap.get?_push_of_some _ ha1)) hv hl h64 key h
theorem adH{A:Around}{r:Addr}{n:Nat}{t u v:Tok}{Q:List Value->Shared->Prop}{E:Value->Shared->Prop}{P:Program}{w:World}(hh:A.handled=none)(hr:IsRange s.heap r 0 n 1 t u v)(hn:n<=1000)
  (h:∀h' tk (vs:List Value),(∀b o,s.heap.get? b=some o->h'.get? b=some o)->vs.length=n->(∀(i:Nat) (v:Value),vs[i]?=some v->∃t,v=Value.int i t)->Q vs {s with heap:=h',toks:=tk }) :
  wpAny (model P w) A (collect (.ref r)) Q E s:=by
 unfold collect
 refine wpAny_bind (wpAny_runValue (codeAny_builtin F.entry_proto_collect ?_))
 rw[Around.under_plainId F.plain_proto_collect _]
 show wpAny _ A.in1 (newList [] >>= λl=>again (.builtin "list.__iadd__" ⟨[l,.ref r],[]⟩)) _ _ s
 refine wpAny_bind (wpAny_newList ?_ (Nat.zero_le _))
 refine wpAny_pure ⟨plainId_quiet F.plain_list_iadd _,codeAny_builtin F.entry_list_iadd ?_⟩
 rw[Around.under_plainId F.plain_list_iadd _]
 have sz1:Builtin.Range.rangeSize 0 (n:Int) 1=n:=by rw[rangeSize_one]; split <;> omega
 have keep:∀b o,s.heap.get? b=some o->(s.heap.push {cls:=.type "list",data:=.seq ([]:List Value).toArray }).get? b=some o:=λb o e=>Heap.get?_push_of_some _ e
 show wpAny _ A.in1 (Builtin.List.listExtendWith (.ref s.heap.objs.size) (.ref r) (.ref s.heap.objs.size)) _ _ {s with heap:=s.heap.push {cls:=.type "list",data:=.seq ([]:List Value).toArray } }
 refine wpAny_extend_range (A:=A) (R:=λr s'=>match r with
  | Except.ok (Flow.ret v)=>wpAny (model P w) A (match v with
   |Value.ref a=>do
    let __do_lift <-load a
    match __do_lift.data with
     |Data.seq xs epoch=>pure xs.toList
     |x=>unsupported "internal:collect"
   |x=>unsupported "internal:collect") Q E s'
  |Except.ok a=>False
  |Except.error e=>E e s') (s:={s with heap:=s.heap.push {cls:=.type "list",data:=.seq ([]:List Value).toArray } }) hh (keep _ _ hr) (small_one (by omega) (by omega) (by omega) (by omega)) sz1 (by omega) s.heap.objs.size (.ref s.heap.objs.size) 0 (Heap.get?_push_size _ rfl) λh' tk acc c hk hS hi=>?_
 show wpAny _ A (load s.heap.objs.size >>= _) _ _ _
 refine wpAny_bind (wpAny_load hS ?_)
 refine wpAny_pure (h h' tk acc.toList (λb o e=>hk b o (Nat.ne_of_lt (Heap.lt_size e)) (keep b o e)) (by rw[Array.length_toList]; exact hi.1) λi v e=>?_)
 rw[Array.getElem?_toList]at e
 obtain⟨t,z⟩:=hi.2 i v e
 exact⟨t,by rw[z]; simp⟩
theorem adI{r:Addr}{t u v:Tok}{q:Addr}{Q:Value->Shared->Prop}{E:Value->Shared->Prop}(T:uP X Kv kd)(mono:∀{H H':Hp} {v k},Same H H'->Kv H v k->Kv H' v k)(inj:∀(H:Hp) v k k',Kv H v k->Kv H v k'->k=k')
  (I:Inv X pins σ H s) (hh:X.A.handled=none) (hr:IsRange s.heap r 0 n 1 t u v) (h64:n<64) (key:JT X pins σ H Kv n kz (.ref q))
  (h:∀s' D ys H',Same H H'->H' D=none->Inv X pins σ (upd H' D (.lst (ys.map λi:Nat=>V.int i))) s'->qG n kz ys->Q (.ref D) s') :
  wpAny (model X.prog X.w) X.A (call (.builtin "sorted") [.ref r] [(Str.ofString "key",.ref q)]) Q E s:=by
 refine call_function_entry_kw kind_sorted plain_sorted entry_sorted (ksk_s1 _ _) ?_
 unfold Builtin.«sorted»
 refine wpAny_bind (m:=checkCount "sorted" 1 1 _) (wpAny_pure ?_)
 refine wpAny_bind (adH (A:=X.A.in1) hh hr (by omega) λh1 tk vs keep hl hv=>?_)
 have I1:Inv X pins σ H {s with heap:=h1,toks:=tk }:=I.kept keep
 refine wpAny_bind (wpAny_newList ?_ (by rw[sizeLine_eq]; omega))
 have I2:Inv X pins σ H {s with heap:=h1.push {cls:=.type "list",data:=.seq vs.toArray },toks:=tk }:=I1.kept (t':=tk) λb o e=>Heap.get?_push_of_some _ e
 have ha:(h1.push {cls:=.type "list",data:=.seq vs.toArray }).get? h1.objs.size=some (seqObj "list" vs.toArray 0):=Heap.get?_push_size _ rfl
 refine wpAny_bind (wpAny_holding (wpAny_call_entry_kw slot_list_sort ⟨_,ha,rfl⟩ entry_list_sort ?_ (ksk_l1 _ _)))
 show wpAny (model X.prog X.w) X.A.in1.in1 (Builtin.«list.sort» ⟨[.ref h1.objs.size],[(Str.ofString "key",.ref q)]⟩) _ _ _
 rw[ksk_t1]
 have fa:eU X pins H h1.objs.size:=I1.pR (Nat.le_refl _) (I1.hok.fresh (Nat.le_refl _))
 refine adG T mono inj I2 fa ha hv hl h64 key λs' c out H' sm na I' e' ⟨ys,hs,hv'⟩=>⟨_,rfl,?_⟩
 refine wpAny_pure ⟨_,rfl,h s' _ ys H' sm na (I'.track (its:=out.toList) (n:=c) (fa.up na) e' hv' ?_) hs⟩
 have:=hs.1.length_eq
 rw[List.length_map,this,List.length_range,sizeLine_eq]
 omega
end
end L2
end
section
namespace L2
open PySem PySem.Spec PyProof.Rows PySem.W
noncomputable def JW(X:Cx)(A:Around)(N:List Str)(qual:Str)(scope:Scope)(f:Addr)(cd:Value)(s:Shared)(H:Hp):Cx where
 prog:=X.prog
 w:=X.w
 K:=X.K
 mg:=X.mg
 base:=X.base
 A:=A.deeper (envX qual scope s.heap.objs.size f cd (dY X.env.cells scope.names []))
 N:=N
 s₀ := s
 H₀ := H
 env:=envX qual scope s.heap.objs.size f cd (dY X.env.cells scope.names [])
 outer:=X.stack
 stack:=envX qual scope s.heap.objs.size f cd (dY X.env.cells scope.names [])::X.stack
 ex:=[]
 fn:=λ_=>false
 calm:=true
 pn:=[]
 xe:=λ_ _=>False
structure Eb(sc:Scope)(No:List Str)(x:Str)(Ns:List Str)(src:List (Option Nat))(scope:Scope):Prop where
 c:tV sc No (x::Ns) (none::src) scope
 Uz:∀y∈scope.names,y.2 ≠ .cell
 par:scope.names.lookup x=some .local
 co:scope.isCoroutine=false
 gen:scope.isGenerator=false
section
variable {X:Cx}{pins:List (Addr × Obj)}{σ : St}{H:Hp}{s:Shared}{sc scope:Scope}{No Ns:List Str}{src:List (Option Nat)}{x qual:Str}
theorem adJ{A:Around}{f:Addr}{cd:Value}{h₁ : Heap}{tk:Nat}{v:V}{u:Value}(hsc:X.env.scope=sc)(jr:X.N=No)(S:Eb sc No x Ns src scope)(hfr:A.frames=some X.stack)(hhd:A.handled=none)(I:Inv X pins σ H s)(rv:RelV v u)
  (hns:h₁.Ns s.heap.objs.size (λy=>([(x,u)]:List (Str × Value)).reverse.lookup y)) (old:∀b o,s.heap.get? b=some o->h₁.get? b=some o) :
  Inv (JW X A (x::Ns) qual scope f cd s H) [] (some v::eZ src σ) H {s with heap:=h₁,toks:=tk }:=by
 subst hsc
 subst jr
 have zH:∀x c,(dY X.env.cells scope.names []).lookup x=some c->X.env.cells.lookup x=some c:=λx c h=>by
  rcases rJ h with q|q
  ·simp at q
  ·exact q
 refine⟨⟨I.ok.mod,S.c.kind,rfl,rfl,Nat.le_refl _,λx y c h1 h2=>I.ok.inj x y c (zH _ _ h1) (zH _ _ h2),λy hy=>?_,λx c h=>(Bool.false_ne_true h).elim,λ_=>hhd,Around.frames_deeper hfr,.inr ⟨rfl,rfl⟩,λb hb=>absurd (show b∈([]:List Addr)from hb) (by simp),
   I.bs,Nat.le_trans I.ok.qY I.sz,λb o e=>by intro hb; exact absurd (show b∈([]:List Addr)from hb) (by simp),λb hb=>absurd (show b∈([]:List Addr)from hb) (by simp),I.stack,I.Bx⟩,
  rfl,I.bare,Un.kept old,⟨_,hns,λi y w' h1 h2 h3=>?_⟩,λy c e=>?_,I.hok.fresh (Nat.le_refl _),λy c e=>I.mO y c (zH y c e),λp hp=>absurd (show p∈([]:List (Addr × Obj))from hp) (by simp),I.hok.kept old,?_⟩
 ·have hy:scope.names.lookup y=some .cell\/scope.names.lookup y=some .free:=hy
  have m:(y,NameKind.free)∈scope.names:=by
   rcases hy with z|z
   ·exact absurd rfl (S.Uz _ (PySem.mem_of_lookup z))
   ·exact PySem.mem_of_lookup z
  have q:=tU (cells:=X.env.cells) (acc:=[]) (.inr ⟨m,by
   obtain⟨c,e⟩:=I.ok.has y (S.c.free _ m rfl)
   rw[e]; rfl⟩)
  exact Option.isSome_iff_exists.mp q
 ·cases i with
  |zero =>
   have h1:some x=some y:=h1
   cases h1
   have h2:some (some v)=some (some w'):=h2
   cases h2
   exact⟨u,rv,.inl ⟨S.par,by show([(x,u)]:List (Str × Value)).reverse.lookup x=some u; simp⟩⟩
  |succ i =>
   have h1:Ns[i]?=some y:=h1
   have h2:(eZ src σ)[i]?=some (some w'):=h2
   have hi:i<src.length:=by
    unfold eZ at h2
    have:=(List.getElem?_eq_some_iff.mp h2).1
    simpa using this
   have h2':((src[i]).bind λj=>(σ[j]?).join)=some w':=by
    unfold eZ at h2
    rw[List.getElem?_map,List.getElem?_eq_getElem hi]at h2
    exact Option.some.inj h2
   cases es:src[i]with
   |none=>rw[es]at h2'; cases h2'
   |some j =>
    rw[es]at h2'
    have hj : σ[j]?=some (some w'):=by
     have z:(σ[j]?).join=some w':=h2'
     cases q : σ[j]? with
     |none=>rw[q]at z; cases z
     |some o=>rw[q]at z; have z':o=some w':=z; rw[z']
    have hz:(y,some j)∈(x::Ns).zip (none::src):=by
     refine List.mem_of_getElem? (i:=i+1) ?_
     rw[List.getElem?_zip_eq_some]
     exact⟨by simpa using h1,by simp[List.getElem?_eq_getElem hi,es]⟩
    obtain⟨u1,u2⟩:=S.c.up _ hz j rfl
    have m:(y,NameKind.free)∈scope.names:=PySem.mem_of_lookup u2
    have kx:=S.c.free _ m rfl
    obtain⟨m0,hn0,hl0⟩:=id I.loc
    obtain⟨u',r,lk⟩:=hl0 j y w' u1 hj (kx.elim (λz=>.inr (.inl z)) λz=>.inr (.inr z))
    refine⟨u',r,?_⟩
    rcases lk with⟨k,_⟩|⟨_,c,e,ic⟩
    ·have k':X.env.scope.names.lookup y=some .local:=k
     rcases kx with z|z <;> (rw[z]at k'; cases k')
    ·refine .inr ⟨.inr u2,c,?_,?_⟩
     ·have q:=tU (cells:=X.env.cells) (acc:=[]) (.inr ⟨m,by rw[e]; rfl⟩)
      obtain⟨c',e'⟩:=Option.isSome_iff_exists.mp q
      have e2:=zH y c' e'
      rw[e]at e2; cases e2
      exact e'
     ·obtain⟨o,ho,hd⟩:=ic
      exact⟨o,old _ _ ho,hd⟩
 ·obtain⟨v,o,ho,hd⟩:=I.cell y c (zH y c e)
  exact⟨v,o,old _ _ ho,hd⟩
 ·have:=S.c.len
  show _=(x::Ns).length
  rw[List.length_cons]at this ⊢
  rw[List.length_cons]
  unfold eZ
  rw[List.length_map]
  exact this
theorem adK{A:Around}{f c':Addr}{params:Arguments}{body:Expr}{pm ctv:Value}{v:V}{u:Value}{te:TE}{Q:VK}{E:Value->Shared->Prop}(hsc:X.env.scope=sc)(jr:X.N=No)(S:Eb sc No x Ns src scope)(hfr:A.frames=some X.stack)(hhd:A.handled=none)(hroom:A.depth<recursionLimit)
  (I:Inv X pins σ H s) (ho:s.heap.get? f=some (kla_obj "<lambda>" qual params body scope (dY X.env.cells scope.names []) pm c' ctv)) (hcd:s.heap.CodeRec (.ref c') qual) (rv:RelV v u)
  (hbind:bindArgs (kla_fn "<lambda>" qual params body scope (dY X.env.cells scope.names []) pm (.ref c') ctv) ⟨[u],[]⟩=pure [(x,u)])
  (he:∀s H,PE (JW X A (x::Ns) qual scope f (.ref c') s H) body te) (hq:te (some v::eZ src σ) H Q):wpAny (model X.prog X.w) A (call (.ref f) [u]) (EP X pins σ Q) E s:=by
 refine wpAny_call (kla_callFunE hroom ho rfl S.co S.gen rfl hcd ?_)
 rw[hbind]
 refine wpAny_pure (wpAny_newFunctionEnv S.Uz (λy hy=>?_) (λh₁ hns hsb=>⟨I.nolimit.fresh _ hsb,?_⟩) S.c.kind)
 ·have:y=(x,u):=by simpa using hy
  subst this
  exact S.par
 have old:∀b o,s.heap.get? b=some o->h₁.get? b=some o:=λb o e=>hsb.extBut b o (Nat.ne_of_lt (Heap.lt_size e)) (Heap.get?_push_of_some _ e)
 have J:=adJ (A:=A) (f:=f) (cd:=.ref c') (qual:=qual) (tk:=s.toks+[(x,u)].length) hsc jr S hfr hhd I rv hns old
 show codeAny _ _ (.expr body (envX qual scope s.heap.objs.size f (.ref c') (dY X.env.cells scope.names []))) _ _
 refine kla_codeExpr (wpAny_mono (he s H [] _ _ H Q J hq) (λw' s' hw=>?_) λ_ _ z=>z.elim)
 obtain⟨v',H',J',r',q'⟩:=hw
 exact⟨v',H',I.call' (ch:=[]) J'.os J'.base J'.hok J'.bare (λb hb=>absurd hb (by simp)),r',q'⟩
end
end L2
end
section
namespace L2
open PySem PySem.Spec PyProof.Rows PySem.W
def qH(mg:Str→Option Value)(base:Heap):Prop:=∃bm ob,mg "__builtins__" = some (.ref bm)∧bm≠builtinsNs∧bm≠mainGlobals∧base.get? bm=some ob∧ob.cls=.type "module" ∧ ob.dict=some builtinsNs∧ob.data=.plain
theorem UG{a b:Int}{t u:Tok}{c:Value}:∀{l:List Value},TriplesOk l->TriplesOk (l++[.int a t,.int b u,c])
 | [],_=>trivial
 |.int _ _ :: .int _ _::_::r,h=>UG (l:=r) h
theorem UJ{a b:Int}{t u:Tok}{c v:Value}{pos:Pos}:∀{l:List Value},TriplesOk l->codeAmong pos (l++[.int a t,.int b u,c])=some v->codeAmong pos l=some v\/v=c
 | [],_,h=>by
  have h:(if _ then some c else none)=some v:=h
  split at h
  ·cases h; exact .inr rfl
  ·cases h
 |.int x _ :: .int y _::z::r,o,h=>by
  have h:(if(x == pos.line&&y == pos.col)=true then some z else codeAmong pos (r++[.int a t,.int b u,c]))=some v:=h
  show(if(x == pos.line&&y == pos.col)=true then some z else codeAmong pos r)=some v\/_
  split at h
  ·rename_i q
   rw[if_pos q]
   exact .inl h
  ·rename_i q
   rw[if_neg q]
   exact UJ (l:=r) o h
section
variable {X:Cx}{pins:List (Addr × Obj)}{σ : St}{H:Hp}{s:Shared}{sc scope:Scope}{No Ns:List Str}{src:List (Option Nat)}{x:Str}
structure Ec(P:Addr)(q:Str)(H H':Hp):Prop where
 kp:∀b o,H b=some o->b≠P->H' b=some o
 tb:∃ps,H' P=some (.dM ps)/\Dc H' q ps
theorem adL{A:Around}{c P:Addr}{ps:Array Value}{params:Arguments}{body:Expr}{pos:Pos}{Q:Value->Shared->Prop}{E:Value->Shared->Prop}(hsc:X.env.scope=sc)(S:Eb sc No x Ns src scope)(hcode:X.env.code=.ref c)(C:CodeHd X.base c P)(B:qH X.mg X.base)
  (hdef:defaultsOf params X.env=([],[])) (I:Inv X pins σ H s) (hP:H P=some (.dM ps)) (ok:Dc H (X.env.qual++("<lambda>" : Str)) ps)
  (h:∀f c' ctv pm H' s' oc,Ec P (X.env.qual++("<lambda>" : Str)) H H'→Inv X ((f,kla_obj "<lambda>" (X.env.qual++("<lambda>" : Str)) params body scope (dY X.env.cells scope.names []) pm c' ctv)::pins) σ H' s'→H' c'=some (.ig oc (.own 0))→R0 oc (X.env.qual++("<lambda>" : Str))→Q (.ref f) s') :
  wpAny (model X.prog X.w) A (eval (.Lambda params body scope pos) X.env) Q E s:=by
 have hcl:closureFor scope X.env=pure (dY X.env.cells scope.names []):=Cw λy hy e=>by
  have k:=S.c.free y hy e
  rw[<-hsc]at k
  obtain⟨c,q⟩:=I.ok.has y.1 k
  rw[q]; rfl
 have oP:s.heap.get? P=some (tabObj ps):=I.hok P _ hP
 have nP:mainGlobals≠P:=λz=>by
  obtain⟨o,es,ep,e,hd,_⟩:=I.ok.mod.glob
  have:=(I.bs _ _ e).2
  rw[z,hP]at this
  cases this
 have hg:s.heap.Ns mainGlobals X.mg:=let⟨o,es,ep,e,r⟩:=I.ok.mod.glob; ⟨o,es,ep,I.bk _ _ e,r⟩
 have hB:s.heap.BuiltinsAt X.mg P:=by
  obtain⟨bm,ob,b1,b2,b3,b4,b5,b6,b7⟩:=B
  refine⟨bm,ob,b1,b2,b3,λz=>?_,I.bk _ _ b4,b5,b6,b7⟩
  have:=(I.bs _ _ b4).2
  rw[z,hP]at this
  cases this
 have C':CodeHd s.heap c P:=C.keeps I.bk
 refine kla_eval hdef ?_
 cases hf:codeAmong pos ps.toList with
 |some cv =>
  obtain⟨c',oc,rfl,e1,e2⟩:=ok.2 pos cv hf
  refine kla_makeFunctionHit (mg:=X.mg) hcl I.ok.glob hg hcode C' oP ok.1 hf hB λctv h' tk keep hsz=>?_
  have I1:Inv X pins σ H {s with heap:=h',toks:=tk }:=I.kept keep
  have I2:Inv X pins σ H {s with heap:=h'.push (kla_obj "<lambda>" (X.env.qual++("<lambda>" : Str)) params body scope (dY X.env.cells scope.names []) ((X.mg "__name__").getD .none) c' ctv),toks:=tk }:=I1.kept (t':=tk) λb o e=>Heap.get?_push_of_some _ e
  refine h _ c' ctv _ H _ oc ⟨λ_ _ q _=>q,ps,hP,ok⟩ (I2.uO (I1.pR (Nat.le_refl _) (I1.hok.fresh (Nat.le_refl _))) (Heap.get?_push_size _ rfl) (λv z=>by cases z)) e1 e2
 |none =>
  refine kla_makeFunction (mg:=X.mg) hcl I.ok.glob hg hcode C' oP ok.1 hf nP hB λc' ctv h' tk ext hge hlt hrec htb=>?_
  obtain⟨c2,oc,vs,t,e2,hoc,hd,hv⟩:=hrec
  cases e2
  have nc:H c'=none:=I.hok.fresh hge
  have cP:c'≠P:=λz=>by rw[z,hP]at nc; cases nc
  have ne:∀b u,H b=some u->b≠c':=λb u q=>iR q nc
  have up:∀b u,H b=some u->b≠P->(upd (upd H P (.dM (ps ++ #[rawInt pos.line,rawInt pos.col,.ref c']))) c' (.ig oc (.own 0))) b=some u:=λb u q z=>by rw[bB (ne b u q),bB z]; exact q
  have JX:(upd (upd H P (.dM (ps ++ #[rawInt pos.line,rawInt pos.col,.ref c']))) c' (.ig oc (.own 0))) P=some (.dM (ps ++ #[rawInt pos.line,rawInt pos.col,.ref c'])):=by rw[bB (Ne.symm cP)]; exact dI
  have keep:∀b o,b≠P->s.heap.get? b=some o->h'.get? b=some o:=λb o z e=>ext b o z e
  have hok:fJ X.prog X.w (upd (upd H P (.dM (ps ++ #[rawInt pos.line,rawInt pos.col,.ref c']))) c' (.ig oc (.own 0))) h':=λb u q=>by
   by_cases z1:b=c'
   ·subst z1
    rw[dI]at q
    cases q
    exact⟨hoc,oc,hoc⟩
   ·by_cases z2:b=P
    ·subst z2
     rw[JX]at q
     cases q
     exact htb
    ·rw[bB z1,bB z2]at q
     refine(I.hok b u q).stay (λd v hd' e=>keep d v ?_ e) (λd z=>up d _ z ?_) λd ys z=>up d _ z ?_
     ·rcases hd' with rfl|hd'
      ·exact z2
      ·rintro rfl
       rw[hP]at hd'
       cases hd'
     ·rintro rfl
      rw[hP]at z
      cases z
     ·rintro rfl
      rw[hP]at z
      cases z
  have vN:∀b,H b=none->b≠P:=λb n z=>by rw[z,hP]at n; cases n
  have I1:Inv X pins σ (upd (upd H P (.dM (ps ++ #[rawInt pos.line,rawInt pos.col,.ref c']))) c' (.ig oc (.own 0))) {s with heap:=h',toks:=tk } :=
   I.step (h':=h') (g':=s.gens) (d':=s.drawn) (t':=tk) (ch:=[]) (λ_ z=>nomatch z) (λb o _ _ _ e n=>keep b o (vN b n) e) (λb o _ _ _ e n=>⟨o.slots,keep b o (vN b n) e⟩)
    (λb o _ e n=>by
     rw[bB (λz=>by rw[z]at e; exact absurd (Heap.lt_size e) (Nat.not_lt.mpr hge)),bB (vN b n)]; exact n)
    (λb o _ e=>by
     by_cases z:b=P
     ·subst z; exact⟨_,htb⟩
     ·exact⟨o,keep b o z e⟩)
    (λb ys q=>up b _ q (by rintro rfl; rw[hP]at q; cases q)) (λb o u q=>up b _ q (by rintro rfl; rw[hP]at q; cases q))
    (λb qs q=>by
     by_cases z:b=P
     ·subst z
      rw[hP]at q
      cases q
      exact⟨_,JX⟩
     ·exact⟨#[],by rw[up b _ q z]; simp⟩)
    (λm q=>q.extBut ext (vN _ I.free)) hok I.bare
  have I2:=I1.kept (t':=tk) (h':=h'.push (kla_obj "<lambda>" (X.env.qual++("<lambda>" : Str)) params body scope (dY X.env.cells scope.names []) ((X.mg "__name__").getD .none) c' ctv)) λb o e=>Heap.get?_push_of_some _ e
  refine h _ c' ctv _ _ _ oc ⟨up,_,JX,?_,λpos' v q=>?_⟩ (I2.uO (I1.pR (Nat.le_refl _) (I1.hok.fresh (Nat.le_refl _))) (Heap.get?_push_size _ rfl) (λv z=>by cases z)) dI ⟨vs,t,hd,hv⟩
  ·have:(ps ++ #[rawInt pos.line,rawInt pos.col,.ref c']).toList=ps.toList++[rawInt pos.line,rawInt pos.col,.ref c']:=by simp
   rw[this]
   exact UG ok.1
  ·have:(ps ++ #[rawInt pos.line,rawInt pos.col,.ref c']).toList=ps.toList++[rawInt pos.line,rawInt pos.col,.ref c']:=by simp
   rw[this]at q
   rcases UJ ok.1 q with q|q
   ·obtain⟨d,o,z1,z2,z3⟩:=ok.2 pos' v q
    exact⟨d,o,z1,up d _ z2 (by rintro rfl; rw[hP]at z2; cases z2),z3⟩
   ·exact⟨c',oc,q,dI,vs,t,hd,hv⟩
end
end L2
end
section
namespace L2
open PySem PySem.Spec PyProof.Rows PySem.W
abbrev KW:=Hp->V->Int × Int->Prop
def zJ:KW:=λ_ v k=>v=.int k.1/\k.2=0
noncomputable def JZ(Kw:KW)(P:Addr)(q:Str)(src:List (Option Nat))(ta:TA)(te:TE):TE:=λσ H Q=>ta σ H λvs H1=>∃(n:Nat) (kz:Nat->Int × Int),vs=[.int n]/\n<64/\(∃ps,H1 P=some (.dM ps)/\Dc H1 q ps)/\∀H2,Ec P q H1 H2 ->
 (∀(i:Nat),i<n->∀H3,Same H2 H3->te (some (.int i)::eZ src σ) H3 λv H4=>Kw H4 v (kz i)/\Same H3 H4)/\∀D (ys:List Nat) H3,Same H2 H3->H3 D=none->qG n kz ys->Q (.ref D) (upd H3 D (.lst (ys.map λi:Nat=>V.int i)))
section
variable {X:Cx}{sc scope:Scope}{No Ns:List Str}{src:List (Option Nat)}{x:Str}{Kw:KW}{kd:SortKind}
theorem adM{k:Nat}{c P:Addr}{e:Expr}{params:Arguments}{body:Expr}{p p2 pos pos2 adN kp:Pos}{ta:TA}{te:TE}(T:uP X (λH u k=>∃v,RelV v u/\Kw H v k) kd)(mono:∀{H H':Hp} {v k},Same H H'->Kw H v k->Kw H' v k)(inj:∀(H:Hp) u k k',(∃v,RelV v u/\Kw H v k)->(∃v,RelV v u/\Kw H v k')->k=k')
  (hr:fO k X.A) (h1:X.mg "sorted" = none) (h2:X.mg "range" = none) (hsc:X.env.scope=sc) (jr:X.N=No) (S:Eb sc No x Ns src scope) (hcode:X.env.code=.ref c) (C:CodeHd X.base c P) (B:qH X.mg X.base) (hdef:defaultsOf params X.env=([],[]))
  (ha:PA X [e] ta) (hbind:∀(pm cd ctv u:Value),bindArgs (kla_fn "<lambda>" (X.env.qual++("<lambda>" : Str)) params body scope (dY X.env.cells scope.names []) pm cd ctv) ⟨[u],[]⟩=pure [(x,u)])
  (he:∀A f cd s H,PE (JW X A (x::Ns) (X.env.qual++("<lambda>" : Str)) scope f cd s H) body te)
  (hg:X.env.kindOf "sorted" = some .globalImplicit:=by kernel_rfl) (hg2:X.env.kindOf "range" = some .globalImplicit:=by kernel_rfl) (hs:notStar e=true:=by kernel_rfl) :
  PE X (.Call (.Name "sorted" p) [.Call (.Name "range" p2) [e] [] pos2] [⟨some (Str.ofString "key"),.Lambda params body scope adN,kp⟩] pos) (JZ Kw P (X.env.qual++("<lambda>" : Str)) src ta te):=by
 refine⟨λpins s σ H Q I h=>?_⟩
 refine wpAny_Call_Name_kw (tH I hg h1 (by decide +kernel:bootBuiltins "sorted" = some (.builtin "sorted")) ?_ (by decide +kernel) (by kernel_rfl))
 refine callWith_kw (Calls.spliced_cons (wpAny_Call_Name_kw (tH I hg2 h2 boot_range (PyProof.Rows.callWith_type1 (bH (ha pos2 pins s σ H _ I h) λus s1 ⟨vs,H1,I1,r1,q1⟩=>?_) (tZ hs) rfl) (by decide +kernel) (by kernel_rfl))))
 obtain⟨n,kz,rfl,h64,⟨ps,hP,ok⟩,hq⟩:=q1
 obtain⟨u1,rfl,t1,rfl⟩:=vals1 r1
 refine call_range_1 ?_
 have rfp:eU X pins H1 s1.heap.objs.size:=I1.pR (Nat.le_refl _) (I1.hok.fresh (Nat.le_refl _))
 have I2:Inv X pins σ H1 {s1 with heap:=s1.heap.push {cls:=.type "range",data:=.fields #[.int 0 s1.toks,.int n t1,.int 1 (s1.toks+1)] },toks:=s1.toks+1+1 }:=I1.kept λb o e=>Heap.get?_push_of_some _ e
 have I3:=I2.uO rfp (Heap.get?_push_size _ rfl) (λv z=>by cases z)
 refine Calls.spliced_nil ?_
 refine kws_cons (adL hsc S hcode C B hdef I3 hP ok λf c' ctv pm H2 s2 oc lh I4 e1 e2=>?_)
 refine kws_nil ?_
 have pr:=I4.pin _ (List.mem_append_right _ (List.mem_cons_of_mem _ (List.mem_cons_self ..)))
 obtain⟨key,fin⟩:=hq H2 lh
 show wpAny _ _ (call (.builtin "sorted") [.ref s1.heap.objs.size] [(Str.ofString "key",.ref f)]) _ _ _
 refine adI T (λ{H H' u k} sm ⟨v,a1,a2⟩=>⟨v,a1,mono sm a2⟩) inj I4 hr.hd pr.1 h64 (λn8 i t s' H' hi sub sm I'=>?_) λs' D ys H3 sm nD I' hs'=>⟨.ref D,_,I'.sub λp hp=>List.mem_cons_of_mem _ (List.mem_cons_of_mem _ hp),rfl,fin D ys H3 sm nD hs'⟩
 have pf:=I'.pin _ (List.mem_append_right _ (sub _ (List.mem_cons_self ..)))
 have hcd:s'.heap.CodeRec (.ref c') (X.env.qual++("<lambda>" : Str)):=by
  obtain⟨vs,t,a1,a2⟩:=e2
  exact⟨c',oc,vs,t,rfl,(I'.hok c' _ (sm _ _ e1)).1,a1,a2⟩
 refine bH (adK (A:=X.A.in1.in1) (v:=.int i) (te:=te) (Q:=λv H4=>Kw H4 v (kz i)/\Same H' H4) hsc jr S I.ok.frames hr.hd hr.depth I' pf.1 hcd ⟨t,rfl⟩ (hbind _ _ _ _) (λs H=>he _ _ _ _ _) (key i hi H' sm)) λu s'' ⟨v,H4,JV,rv,q1,q2⟩=>⟨H4,q2,⟨v,rv,q1⟩,JV⟩
theorem adO:uP X (λH u k=>∃v,RelV v u/\zJ H v k) oneType' where
 kind:=λH keys kz h2 hk pins σ s Q E I q=>Uv.kind H keys kz h2 (λi v e=>by
  obtain⟨w,r,rfl,z⟩:=hk i v e
  obtain⟨t,rfl⟩:=r
  exact⟨t,rfl,z⟩) I q
 ask:=λa₀ kf I h=>Uv.ask a₀ kf I λp hp=>by
  obtain⟨w,r,z1,z⟩:=h p hp
  subst z1
  obtain⟨t,r⟩:=r
  exact⟨t,r,z⟩
theorem adP(H:Hp)(u:Value)(k k':Int × Int)(h:∃v,RelV v u/\zJ H v k)(h':∃v,RelV v u/\zJ H v k'):k=k':=by
 obtain⟨v,r,rfl,z⟩:=h
 obtain⟨v',r',rfl,z'⟩:=h'
 obtain⟨t,rfl⟩:=r
 obtain⟨t',r'⟩:=r'
 injection r' with r' _
 exact Prod.ext r' (z.trans z'.symm)
end
end L2
end
section
namespace L2
open PySem PySem.Spec PyProof.Rows PySem.W
def pA(kz:Nat->Int × Int)(i j:Nat):Prop:=((kz i).1<(kz j).1\/((kz i).1=(kz j).1/\(kz i).2<(kz j).2))\/(((kz i).1=(kz j).1/\(kz i).2=(kz j).2)/\i<j)
instance {kz:Nat->Int × Int}{i j:Nat}:Decidable (pA kz i j):=by unfold pA; infer_instance
def qI(kz:Nat->Int × Int)(i:Nat):List Nat->List Nat
 | []=>[i]
 |j::r=>if pA kz i j then i::j::r else j::qI kz i r
def zK(n:Nat)(kz:Nat->Int × Int):List Nat:=(List.range n).foldr (qI kz) []
theorem J0(kz:Nat->Int × Int)(i:Nat):∀l,(qI kz i l).Perm (i::l)
 | []=>.refl _
 |j::r=>by
  unfold qI
  split
  ·exact .refl _
  ·exact((J0 kz i r).cons j).trans (.swap i j r)
theorem UL(kz:Nat->Int × Int)(i:Nat):∀l,(∀j∈l,i≠j)->l.Pairwise (pA kz)->(qI kz i l).Pairwise (pA kz)
 | [],_,_=>by simp[qI]
 |j::r,hn,hp=>by
  have hp':=List.pairwise_cons.mp hp
  unfold qI
  split
  ·rename_i b
   refine List.pairwise_cons.mpr ⟨λk hk=>?_,hp⟩
   rcases List.mem_cons.mp hk with rfl|hk
   ·exact b
   ·have:=hp'.1 k hk
    unfold pA at b this ⊢
    omega
  ·rename_i b
   refine List.pairwise_cons.mpr ⟨λk hk=>?_,UL kz i r (λk hk=>hn k (List.mem_cons_of_mem _ hk)) hp'.2⟩
   rcases List.mem_cons.mp ((J0 kz i r).mem_iff.mp hk)with rfl|hk
   ·have:=hn j (List.mem_cons_self ..)
    unfold pA at b ⊢
    omega
   ·exact hp'.1 k hk
theorem UW(kz:Nat->Int × Int):∀l:List Nat,l.Nodup->(l.foldr (qI kz) []).Perm l/\(l.foldr (qI kz) []).Pairwise (pA kz)
 | [],_=>⟨.refl _,.nil⟩
 |i::r,nd=>by
  have nd':=List.nodup_cons.mp nd
  obtain⟨h1,h2⟩:=UW kz r nd'.2
  exact⟨(J0 kz i _).trans (h1.cons i),UL kz i _ (λj hj z=>nd'.1 (by rw[z]; exact h1.mem_iff.mp hj)) h2⟩
theorem U0(n:Nat)(kz:Nat->Int × Int):qG n kz (zK n kz):=UW kz _ List.nodup_range
theorem U3{R:Nat->Nat->Prop}(as:∀a b,R a b->¬R b a):∀{l m:List Nat},l.Perm m->l.Pairwise R->m.Pairwise R->l=m
 | [],m,p,_,_=>by rw[List.nil_perm.mp p]
 |a::l,[],p,_,_=>by simpa using p.length_eq
 |a::l,b::m,p,h1,h2=>by
  have h1':=List.pairwise_cons.mp h1
  have h2':=List.pairwise_cons.mp h2
  have e:a=b:=by
   rcases List.mem_cons.mp (p.mem_iff.mp (List.mem_cons_self ..))with z|z
   ·exact z
   ·rcases List.mem_cons.mp (p.mem_iff.mpr (List.mem_cons_self (a:=b)))with y|y
    ·exact y.symm
    ·exact(as _ _ (h1'.1 b y) (h2'.1 a z)).elim
  subst e
  rw[U3 as p.cons_inv h1'.2 h2'.2]
theorem qG.eq{n:Nat}{kz:Nat->Int × Int}{ys:List Nat}(h:qG n kz ys):ys=zK n kz:=by
 have g:=U0 n kz
 refine U3 (R:=pA kz) (λa b h1 h2=>?_) (h.1.trans g.1.symm) h.2 g.2
 unfold pA at h1 h2
 omega
abbrev RF:=List (Option Tr)->Rs Tr
noncomputable def QS(K:FZ)(te:TE)(f:RF):Prop:=∀(W:Addr->Prop) (σ : St) (H:Hp) (Q:VK) (ts:List (Option Tr)) (T:Tr),(∀b,W b->Lt H b)->(∀(i:Nat) U,ts[i]?=some (some U)->∃v,σ[i]?=some (some v)/\Rp K W H v U)->f ts=.ok T ->
 (∀v H',Same H H'->Rp K W H' v T->Q v H')->te σ H Q
theorem Rp.up{K:FZ}{W:Addr->Prop}{H H':Hp}{v:V}{T:Tr}(h:Rp K W H v T)(s:Same H H'):Rp K W H' v T:=by
 have m:Same (aO W H) (aO W H'):=(bT.of s).off
 rcases h with h|⟨a,xs,ts,e1,e2,e,r⟩
 ·exact .inl (h.mono m)
 ·exact .inr ⟨a,xs,ts,e1,e2,s _ _ e,r.mono m⟩
section
variable {K:FZ}{ta tb:TE}{fa fb:RF}
def qJ(i:Nat):RF:=λts=>match ts[i]? with
 |some (some U)=>.ok U
 |_=>.bad
theorem U4(i:Nat):QS K (jW i) (qJ i):=λW σ H Q ts T hw h e q=>by
 unfold qJ at e
 split at e
 ·rename_i U z
  cases e
  obtain⟨v,h1,h2⟩:=h i _ z
  exact⟨v,h1,q v H (Same.refl _) h2⟩
 ·cases e
def wX(g:G2)(fa fb:RF):RF:=λts=>(fa ts).bind λa=>(fb ts).bind λb=>(g a b).bind λz=>.ok z.1
theorem adQ{r:R2}{g:G2}(o:fP K r g)(ha:QS K ta fa)(hb:QS K tb fb):QS K (gq r ta tb) (wX g fa fb):=λW σ H Q ts T hw h e q=>by
 unfold wX at e
 obtain⟨a,e1,e⟩:=dF e
 obtain⟨b,e2,e⟩:=dF e
 obtain⟨z,e3,e⟩:=dF e
 cases e
 refine ha W σ H _ ts a hw h e1 λx H1 s1 r1=>?_
 refine hb W σ H1 _ ts b (λb w=>(hw b w).grow s1) (λi U z=>let⟨v,h1,h2⟩:=h i U z; ⟨v,h1,h2.up s1⟩) e2 λy H2 s2 r2=>?_
 refine o W x y a b H2 Q (λb w=>(hw b w).grow (s1.trans s2)) (r1.up s2) r2 ?_
 rw[e3]
 intro v H3 s3 v3
 refine q v H3 ((s1.trans s2).trans s3) (.inl ?_)
 exact eG.rep (λb w=>((hw b w).grow (s1.trans s2)).ne) v3
def wY(g:G1)(fa:RF):RF:=λts=>(fa ts).bind λa=>(g a).bind λz=>.ok z.1
theorem adR{r:V->Hp->VK->Prop}{g:G1}(o:qd K r g)(ha:QS K ta fa):QS K (Ce r ta) (wY g fa):=λW σ H Q ts T hw h e q=>by
 unfold wY at e
 obtain⟨a,e1,e⟩:=dF e
 obtain⟨z,e3,e⟩:=dF e
 cases e
 refine ha W σ H _ ts a hw h e1 λx H1 s1 r1=>?_
 refine o W x a H1 Q (λb w=>(hw b w).grow s1) r1 ?_
 rw[e3]
 intro v H3 s3 v3
 refine q v H3 (s1.trans s3) (.inl ?_)
 exact eG.rep (λb w=>((hw b w).grow s1).ne) v3
end
def wZ(ρ : En)(j:Nat):Option Tr:=match ρ[j]? with
 |some (.sh T)=>some T
 |some (.ow ts)=>some (.lst ts)
 |some (.rf ts)=>some (.lst ts)
 |_=>none
def zL(src:List (Option Nat))(ρ : En):List (Option Tr):=src.map λo=>o.bind (wZ ρ)
def zM:Tr->Option (Int × Int)
 |.int i=>some (i,0)
 |_=>none
def uQ(kt:Tr->Option (Int × Int))(fb:RF)(ts:List (Option Tr)):List Nat->Rs (List (Int × Int))
 | []=>.ok []
 |i::r=>(fb (some (Tr.int i)::ts)).bind λT=>match kt T with
  |some k=>(uQ kt fb ts r).bind λks=>.ok (k::ks)
  |none=>.bad
theorem U5{kt:Tr->Option (Int × Int)}{fb:RF}{ts:List (Option Tr)}:∀{l:List Nat} {ks:List (Int × Int)},uQ kt fb ts l=.ok ks->ks.length=l.length/\∀(j i:Nat),l[j]?=some i->∃T k,fb (some (Tr.int i)::ts)=.ok T/\kt T=some k/\ks[j]?=some k
 | [],ks,h=>by cases h; exact⟨rfl,λj i z=>by simp at z⟩
 |a::l,ks,h=>by
  unfold uQ at h
  obtain⟨T,e1,h⟩:=dF h
  split at h
  ·rename_i k e2
   obtain⟨ks',e3,h⟩:=dF h
   cases h
   obtain⟨h1,h2⟩:=U5 e3
   refine⟨by simp[h1],λj i z=>?_⟩
   cases j with
   |zero=>simp at z; subst z; exact⟨T,k,e1,e2,by simp⟩
   |succ j=>simpa using h2 j i (by simpa using z)
  ·cases h
noncomputable def Ed(kt:Tr->Option (Int × Int))(src:List (Option Nat))(fa:AF)(fb:RF):EF:=λρ=>(fa ρ).bind λp=>match p.1 with
 | [.v (.int n) _]=>if 0<=n/\n<64 then(cV (uQ kt fb (zL src p.2) (List.range n.toNat))).bind λks=>.ok (.v (.lst ((zK n.toNat λi=>ks.getD i (0,0)).map λi:Nat=>Tr.int i)) true,p.2)else .bad
 |_=>.bad
theorem U6{K:FZ}{H:Hp}:∀l:List Nat,aR K H (l.map λi:Nat=>V.int i) (l.map λi:Nat=>Tr.int i)
 | []=>.nil
 |n::l=>.cons (.int n) (U6 l)
theorem adS{t:Tx}{W:Addr->Prop}{ρ : En}{σ : St}{H:Hp}{j:Nat}{U:Tr}(e:aV t W ρ σ H)(h:wZ ρ j=some U):∃v,σ[j]?=some (some v)/\Rp t.K W H v U:=by
 unfold wZ at h
 split at h
 ·rename_i T q
  cases h
  obtain⟨v,h1,h2⟩:=e.sh j _ q
  exact⟨v,h1,.inl h2⟩
 ·rename_i ts q
  cases h
  obtain⟨a,xs,h1,_,_,h4,h5⟩:=e.ow j _ q
  exact⟨_,h1,.inr ⟨a,xs,ts,rfl,rfl,h4,h5⟩⟩
 ·rename_i ts q
  cases h
  obtain⟨a,xs,h1,_,_,h4,h5⟩:=e.rf j _ q
  exact⟨_,h1,.inr ⟨a,xs,ts,rfl,rfl,h4,h5⟩⟩
 ·cases h
theorem Ec.smt{K:FZ}{P c:Addr}{x:Str}{H H':Hp}(tb:fC K H)(hx:x∈jj)(ht:tabIn K x=some (c,P))(hu:∀x'∈jj,∀c',tabIn K x'=some (c',P)->x'=x)(l:Ec P (CZ x) H H'):kh K H H':=by
 refine⟨λb o q n=>l.kp b o q λz=>n ?_,λx' hx' c' b e=>?_⟩
 ·subst z
  exact⟨x,hx,c,ht⟩
 ·by_cases z:b=P
  ·subst z
   have:=hu x' hx' c' e
   subst this
   exact l.tb
  ·obtain⟨ps,q,t1,t2⟩:=tb x' hx' c' b e
   refine⟨ps,l.kp _ _ q z,t1,λpos v k=>?_⟩
   obtain⟨d,o,e1,e2,e3⟩:=t2 pos v k
   refine⟨d,o,e1,l.kp _ _ e2 ?_,e3⟩
   rintro rfl
   obtain⟨qs,y,_⟩:=tb x hx c d ht
   rw[y]at e2
   cases e2
theorem adT{t:Tx}{Kw:KW}{kt:Tr->Option (Int × Int)}{c P:Addr}{x:Str}{src:List (Option Nat)}{ta:TA}{fa:AF}{te:TE}{fb:RF}(hx:x∈jj)(ht:tabIn t.K x=some (c,P))(hu:∀x'∈jj,∀c',tabIn t.K x'=some (c',P)->x'=x)
  (hkt:∀(W:Addr->Prop) (H:Hp) v T k,Rp t.K W H v T->kt T=some k->Kw H v k) (ha:SA t ta fa) (hb:QS t.K te fb):SE t (JZ Kw P (CZ x) src ta te) (Ed kt src fa fb):=λW ρ σ H Q e h=>by
 refine ha W ρ σ H _ e (Rs.bG (Rs.bh h) λp h vs H1 e1 s1 v1=>?_)
 obtain⟨rs,ρ1⟩:=p
 dsimp only at h e1 v1
 split at h
 case h_2=>exact h.elim
 rename_i n fr
 split at h
 case isFalse=>exact h.elim
 rename_i hn
 have ev:vs=[.int n]:=by
  cases v1 with
  |cons h1 r1 =>
   cases r1
   cases fr with
   |false =>
    have h1:Rep _ _ _ (Tr.int n):=h1
    cases h1
    rfl
   |true =>
    obtain⟨_,_,_,_,z,_⟩:=h1
    cases z
 obtain⟨ks,k1,h⟩:=dh (Rs.bh h) (Ds _)
 have un:∀{α : Type} {x:Rs α} {a : α},cV x=.ok a->x=.ok a:=λ{α x a} z=>by cases x <;> first|exact z|cases z
 obtain⟨kl,kg⟩:=U5 (un k1)
 have nn:((n.toNat:Nat):Int)=n:=by omega
 refine⟨n.toNat,λi=>ks.getD i (0,0),by rw[ev,nn],by omega,e1.tab.ok x hx c P ht,λH2 lh=>?_⟩
 obtain⟨e2,s2⟩:=e1.Jv (lh.smt e1.tab.ok hx ht hu)
 refine⟨λi hi H3 s3=>?_,λD ys H3 s3 nD hs=>?_⟩
 ·obtain⟨T,k,f1,f2,f3⟩:=kg i i (List.getElem?_range hi)
  have e3:=e2.grow s3
  refine hb W _ H3 _ _ T e3.wl (λj U z=>?_) f1 λv H4 s4 r4=>⟨hkt W H4 v T _ r4 ?_,s4⟩
  ·cases j with
   |zero=>simp at z; subst z; exact⟨.int i,by simp,.inl (.int i)⟩
   |succ j =>
    have z:(zL src ρ1)[j]?=some (some U):=z
    unfold zL at z
    rw[List.getElem?_map]at z
    cases eq:src[j]? with
    |none=>rw[eq]at z; cases z
    |some o =>
     rw[eq]at z
     have z:o.bind (wZ ρ1)=some U:=Option.some.inj z
     cases o with
     |none=>cases z
     |some l =>
      obtain⟨v,h1,h2⟩:=adS e3 (show wZ ρ1 l=some U from z)
      refine⟨v,?_,h2⟩
      show(eZ src σ)[j]?=some (some v)
      rw[Jz eq,h1]
      rfl
  ·rw[f2]
   show some k=some (ks.getD i (0,0))
   rw[List.getD_eq_getElem?_getD,f3]
   rfl
 ·have e3:=e2.grow s3
  have hs':=hs.eq
  have st:bT W H1 H3:=s2.trans (bT.of s3)
  refine h (.ref D) _ (e3.grow (fG nD _)) ((s1.trans st).trans (bT.of (fG nD _))) (iz.back (H:=H3) (iz.of (σ' := σ) e3 (fG nD _) (eG.new nD ?_)) λb q=>(s1.trans st).dom b q)
  rw[hs']
  exact U6 _
theorem adU(K:FZ)(W:Addr->Prop)(H:Hp)(v:V)(T:Tr)(k:Int × Int)(r:Rp K W H v T)(e:zM T=some k):zJ H v k:=by
 unfold zM at e
 split at e
 ·cases e
  exact⟨r.int,rfl⟩
 ·cases e
end L2
end
section
namespace L2
open PySem PySem.Spec PyProof.Rows PySem.W
def uR(K:FZ)(mg:Str->Option Value)(x:Str)(st:Stmt)(c:Addr):Prop:=∃f fd,tR K x x st f fd/\mg x=some (.ref f)/\fd.code=.ref c
section
variable {P:Program}{w:World}{K:FZ}{mg:Str->Option Value}{base:Heap}
theorem uR.adV{c:Addr}{k:Nat}{x:Str}{st:Stmt}{N ps:List Str}{sp:Sp}(a:uR K mg x st c)(S:pU N ps (bx st))
  (hb:∀(kV doc pm:Value) (an:Option Addr) (cdv ct:Value) (us:List Value),us.length=ps.length->bindArgs (fnOf x x (mX st) (jq st) (bx st) .none kV doc pm an cdv ct) ⟨us,[]⟩=pure (ps.zip us))
  (len:∀vs H Q E,sp vs H Q E->vs.length=ps.length)
  (hbody:∀(f:Addr) (A:Around) (outer:List Env) (s:Shared) (H:Hp) (vs:List V) (Q:VK) (E:XK),fO k (A.deeper (envOfC x (bx st) s.heap.objs.size f (.ref c)))->sp vs H Q E ->
   ∃t,jo (jM (jt P w) P w K mg base N x (bx st) f (.ref c) A outer s H E) (jq st) t/\t {nx:=λ_ H'=>Q .non H',rt:=Q } (start N vs) H):aM P w K mg base (k+1) x ps sp:=by
 obtain⟨f,fd,F,m,hc⟩:=a
 refine⟨f,fd,?_,F.binds hb,F.kp,m⟩
 obtain⟨oc,od,kV,doc,pm,an,cdv,ct,osl,rfl,lk,hcd⟩:=F.ex
 have hc:cdv=.ref c:=hc
 subst hc
 exact QL lk hcd S len λA outer s H vs Q E hr h=>hbody f A outer s H vs Q E hr h
theorem uR.adW{c:Addr}{k:Nat}{x:Str}{st:Stmt}{N ps:List Str}{cl:Str->Addr}{b:SF}(a:uR K mg x st c)(S:pU N ps (bx st))(hn:ps.length<=N.length)
  (hb:∀(kV doc pm:Value) (an:Option Addr) (cdv ct:Value) (us:List Value),us.length=ps.length->bindArgs (PySem.W.fnOf x x (mX st) (jq st) (bx st) .none kV doc pm an cdv ct) ⟨us,[]⟩=pure (ps.zip us))
  (hbody:∀(f:Addr) (A:Around) (outer:List Env) (s:Shared) (H:Hp) (E:XK),fO k (A.deeper (envOfC x (bx st) s.heap.objs.size f (.ref c))) ->
   ∃ts,jo (jM (jt P w) P w K mg base N x (bx st) f (.ref c) A outer s H E) (jq st) ts/\∀t:Tx,t.K=aJ K->(∀c H',F0 t H'->t.EX c->E (.ref (cl c)) none H')->SS t ts b) :
  aM P w K mg base (k+1) x ps (aP K cl ps.length (aQ N.length b)):=by
 refine a.adV S hb (λvs H Q E h=>?_) (λf A outer s H vs Q E hr h=>?_)
 ·obtain⟨_,_,h,_⟩:=h; exact h
 obtain⟨Z,as,hl,r,zl,tb,h⟩:=h
 obtain⟨ts,h1,h2⟩:=hbody f A outer s H E hr
 refine⟨ts,h1,?_⟩
 have sm:∀(b:Addr) (W:Addr->Prop) ρ σ H',aV ⟨aJ K,Z,Tb (aJ K),H,λ_=>none,λc=>∀H',kh (aJ K) H H'->E (.ref (cl c)) none H'⟩ W ρ σ H'->kh (aJ K) H H':=λ_ W ρ σ H' e=>⟨λb o q n=>e.f0 b o q n,e.tab.ok⟩
 have r:=r.lX (Dp tb)
 refine h2 ⟨aJ K,Z,Tb (aJ K),H,λ_=>none,λc=>∀H',kh (aJ K) H H'->E (.ref (cl c)) none H'⟩ rfl (λc H' f0 q=>q H' ⟨λb o z n=>f0.1 b o z n,f0.2⟩) (λb=>Z b\/Tb (aJ K) b) (bA N.length as) (start N vs) H _ ?_ (Rs.bG (Rs.bh h) λq h=>?_)
 ·have la:=r.length
  have kE:∀(i:Nat) (us:List Tr),(bA N.length as)[i]?=some (.dp us)->False:=λi us q=>by
   rcases jF q with⟨u',q1,z⟩|z <;> cases z
  refine⟨λ_=>[],?_,λ_ z=>.inl z,λb z=>?_,λb z=>z.elim (zl b) (λz=>.inr (tb.dM z)),λb o q _=>q,λb q=>q,λi u q=>?_,λi us q=>?_,λi us q=>?_,λi j c m1 m2=>?_,λb o z=>(by cases z),λ_ _ _ _=>rfl,λi us q=>(kE i us q).elim,λi _ us _ _ q=>(kE i us q).elim,λi _ us _ q=>(kE i us q).elim,λi us q=>(kE i us q).elim,⟨tb,λ_ z=>.inr z,λ_ z=>z,λ_ _=>rfl⟩⟩
  ·unfold bA start
   simp only[List.length_append,List.length_map,List.length_replicate]
   omega
  ·exact(zl b z).ne
  ·rcases jF q with⟨u',q1,z⟩|z
   ·cases z
    obtain⟨v,e1,e2⟩:=r.rQ q1
    exact⟨v,Dq e1,e2⟩
   ·cases z
  ·rcases jF q with⟨u',q1,z⟩|z <;> cases z
  ·rcases jF q with⟨u',q1,z⟩|z <;> cases z
  ·obtain⟨us,q|q⟩:=m1 <;> rcases jF q with⟨u',q1,z⟩|z <;> cases z
 ·obtain⟨fl,ρ'⟩:=q
  cases fl with
  |nx=>exact λW' σ' H' e n=>h .non H' (sm 0 W' ρ' σ' H' e) .non
  |rt T fr =>
   refine λv W' σ' H' e n=>h v H' (sm 0 W' ρ' σ' H' e) ?_
   cases fr <;> exact n
  |bk=>exact h.elim
  |ct=>exact h.elim
end
noncomputable def zN(K:FZ)(x:Str):Option (Addr × Addr):=match K.lookup mainGlobals with
 |some o=>if o.cls == .type "list" then none else(match nsIn K mainGlobals x with
  | some (some (.ref f))=>(match K.lookup f with
   |some o=>if o.cls == .type "list" then none else(match o.data with
    | .func fd=>(match fd.code with
     | .ref c=>(match K.lookup c with
      |some o=>if o.cls == .type "list" then none else tabIn K x
      |_=>none)
     |_=>none)
    |_=>none)
   |_=>none)
  |_=>none)
 |_=>none
theorem J1{o:Obj}(h:(o.cls == .type "list")=false):fH o=o:=by
 unfold fH
 rw[if_neg]
 rintro⟨z,_⟩
 rw[z]at h
 exact absurd h (by decide +kernel)
theorem adX{K:FZ}{x:Str}{o:Obj}(h:K.lookup mainGlobals=some o)(n:(o.cls == .type "list")=false):nsIn (aJ K) mainGlobals x=nsIn K mainGlobals x:=by
 have e:(aJ K).lookup mainGlobals=K.lookup mainGlobals:=by
  rw[lR,h]
  show some (fH o)=some o
  rw[J1 n]
 unfold nsIn
 rw[e]
theorem U7{K:FZ}{x:Str}{z:Addr × Addr}(h:zN K x=some z):tabIn K x=some z/\tabIn (aJ K) x=some z:=by
 unfold zN at h
 split at h
 ·rename_i o1 h1
  split at h
  ·cases h
  ·rename_i n1
   split at h
   ·rename_i f hf
    split at h
    ·rename_i o2 h2
     split at h
     ·cases h
     ·rename_i n2
      split at h
      ·rename_i fd hd
       split at h
       ·rename_i c hc
        split at h
        ·rename_i o3 h3
         split at h
         ·cases h
         ·rename_i n3
          refine⟨h,?_⟩
          rw[<-h]
          unfold tabIn
          rw[adX h1 (by simpa using n1),hf]
          dsimp only
          rw[lR,h2]
          dsimp only[Option.map]
          rw[J1 (by simpa using n2)]
          obtain⟨a1,a2,a3,a4⟩:=o2
          dsimp only at hd
          subst hd
          dsimp only
          rw[hc]
          dsimp only
          rw[lR,h3]
          dsimp only[Option.map]
          rw[J1 (by simpa using n3)]
        ·cases h
       ·cases h
      ·cases h
    ·cases h
   ·cases h
 ·cases h
theorem J3{o:Obj}{d:Data}(h:(fH o).data=d)(n:d ≠ .fields #[]):fH o=o:=by
 unfold fH at h ⊢
 split at h
 ·exact(n h.symm).elim
 ·rename_i q
  rw[if_neg q]
theorem U8{K:FZ}{x:Str}{z:Addr × Addr}(h:tabIn (aJ K) x=some z):tabIn K x=some z:=by
 unfold tabIn at h
 split at h
 ·rename_i f hf
  have g1:nsIn K mainGlobals x=some (some (.ref f)):=by
   unfold nsIn at hf
   rw[lR]at hf
   cases e:K.lookup mainGlobals with
   |none=>rw[e]at hf; cases hf
   |some o =>
    rw[e]at hf
    unfold nsIn
    rw[e]
    have q:fH o=o:=by
     dsimp only[Option.map]at hf
     split at hf
     ·rename_i a b es ep c eq
      have eq:fH o=⟨a,b,.dict es ep,c⟩:=Option.some.inj eq
      exact J3 (d:=.dict es ep) (by rw[eq]) (by intro z; cases z)
     ·cases hf
    dsimp only[Option.map]at hf
    rw[q]at hf
    exact hf
  split at h
  ·rename_i a b fd osl hfo
   have g2:K.lookup f=some ⟨a,b,.func fd,osl⟩:=by
    rw[lR]at hfo
    cases e:K.lookup f with
    |none=>rw[e]at hfo; cases hfo
    |some o =>
     rw[e]at hfo
     have eq:fH o=⟨a,b,.func fd,osl⟩:=Option.some.inj hfo
     rw[J3 (d:=.func fd) (by rw[eq]) (by intro z; cases z)]at eq
     rw[eq]
   split at h
   ·rename_i c hc
    split at h
    ·rename_i a' b' vs U9 hco
     split at h
     ·rename_i Pp hv
      cases h
      have g3:K.lookup c=some ⟨a',b',.fields vs,U9⟩:=by
       rw[lR]at hco
       cases e:K.lookup c with
       |none=>rw[e]at hco; cases hco
       |some o =>
        rw[e]at hco
        have eq:fH o=⟨a',b',.fields vs,U9⟩:=Option.some.inj hco
        rw[J3 (d:=.fields vs) (by rw[eq]) (by intro z; injection z with z; subst z; simp at hv)]at eq
        rw[eq]
      unfold tabIn
      rw[g1]
      dsimp only
      rw[g2]
      dsimp only
      rw[hc]
      dsimp only
      rw[g3]
      dsimp only
      rw[hv]
     ·cases h
    ·cases h
   ·cases h
  ·cases h
 ·cases h
structure Ef(K:FZ)(mg:Str->Option Value)(base:Heap)(x:Str)(c P:Addr):Prop where
 nm:x∈jj
 hd:CodeHd base c P
 bm:qH mg base
 tab:tabIn (aJ K) x=some (c,P)
 un:∀x'∈jj,∀c',tabIn (aJ K) x'=some (c',P)->x'=x
theorem adY{t:Tx}{K:FZ}{mg:Str->Option Value}{base:Heap}{x:Str}{c P:Addr}{src:List (Option Nat)}{ta:TA}{fa:AF}{te:TE}{fb:RF}(L:Ef K mg base x c P)(hK:t.K=aJ K)(ha:SA t ta fa)(hb:QS (aJ K) te fb):SE t (JZ zJ P (CZ x) src ta te) (Ed zM src fa fb) :=
 adT (c:=c) L.nm (by rw[hK]; exact L.tab) (by rw[hK]; exact L.un) (adU _) ha (by rw[hK]; exact hb)
theorem adZ{K:FZ}{x:Str}{f c P:Addr}{o1:Obj}{oc:Value}{od:Option Addr}{fd:FuncData}{sl:Array (Option Value)}{cc:Value}{cd:Option Addr}{vs:Array Value}{cs:Array (Option Value)}(a:nsIn K mainGlobals x=some (some (.ref f)))(l1:K.lookup mainGlobals=some o1)(n1:(o1.cls == .type "list")=false)
  (l2:K.lookup f=some ⟨oc,od,.func fd,sl⟩) (n2:(oc == .type "list")=false) (hc:fd.code=.ref c) (l3:K.lookup c=some ⟨cc,cd,.fields vs,cs⟩) (n3:(cc == .type "list")=false) (hv:vs[11]?=some (.ref P)):zN K x=some (c,P):=by
 unfold zN
 rw[l1]
 dsimp only
 rw[if_neg (by rw[n1]; exact Bool.false_ne_true),a]
 dsimp only
 rw[l2]
 dsimp only
 rw[if_neg (by rw[n2]; exact Bool.false_ne_true),hc]
 dsimp only
 rw[l3]
 dsimp only
 rw[if_neg (by rw[n3]; exact Bool.false_ne_true)]
 unfold tabIn
 rw[a]
 dsimp only
 rw[l2]
 dsimp only
 rw[hc]
 dsimp only
 rw[l3]
 dsimp only
 rw[hv]
theorem Va{K:FZ}{x:Str}(a:nsIn K mainGlobals x=some none):tabIn K x=none:=by
 unfold tabIn
 rw[a]
theorem ad0{K:FZ}{mg:Str->Option Value}{base:Heap}{x:Str}{c P:Addr}(nm:x∈jj)(hc:∀x∈jj,∀c b,tabIn K x=some (c,b)->CodeHd base c b)(bm:qH mg base)(q:zN K x=some (c,P))(ho:∀x'∈jj,x'=x\/∀c',tabIn K x'≠some (c',P)):Ef K mg base x c P :=
 ⟨nm,hc x nm c P (U7 q).1,bm,(U7 q).2,λx' hx' c' e=>(ho x' hx').elim id λz=>(z c' (U8 e)).elim⟩
end L2
end
section
namespace L2
open PySem PySem.Spec PyProof.Rows PySem.W
def insI(i:Int):List Int->List Int
 | []=>[i]
 |j::r=>if i<=j then i::j::r else j::insI i r
def w6(l:List Int):List Int:=l.foldr insI []
theorem insI_perm(i:Int):∀l,(insI i l).Perm (i::l)
 | []=>.refl _
 |j::r=>by
  unfold insI
  split
  ·exact .refl _
  ·exact((insI_perm i r).cons j).trans (.swap i j r)
theorem Vb(i:Int):∀l,l.Pairwise (· <= ·)->(insI i l).Pairwise (· <= ·)
 | [],_=>by simp[insI]
 |j::r,hp=>by
  have hp':=List.pairwise_cons.mp hp
  unfold insI
  split
  ·rename_i b
   refine List.pairwise_cons.mpr ⟨λk hk=>?_,hp⟩
   rcases List.mem_cons.mp hk with rfl|hk
   ·exact b
   ·have:=hp'.1 k hk; omega
  ·rename_i b
   refine List.pairwise_cons.mpr ⟨λk hk=>?_,Vb i r hp'.2⟩
   rcases List.mem_cons.mp ((insI_perm i r).mem_iff.mp hk)with rfl|hk
   ·omega
   ·exact hp'.1 k hk
theorem J4:∀l:List Int,(w6 l).Perm l/\(w6 l).Pairwise (· <= ·)
 | []=>⟨.refl _,.nil⟩
 |i::r=>by
  obtain⟨h1,h2⟩:=J4 r
  exact⟨(insI_perm i _).trans (h1.cons i),Vb i _ h2⟩
theorem Vc:∀{l m:List Int},l.Perm m->l.Pairwise (· <= ·)->m.Pairwise (· <= ·)->l=m
 | [],m,p,_,_=>by rw[List.nil_perm.mp p]
 |a::l,[],p,_,_=>by simpa using p.length_eq
 |a::l,b::m,p,h1,h2=>by
  have h1':=List.pairwise_cons.mp h1
  have h2':=List.pairwise_cons.mp h2
  have e:a=b:=by
   rcases List.mem_cons.mp (p.mem_iff.mp (List.mem_cons_self ..))with z|z
   ·exact z
   ·rcases List.mem_cons.mp (p.mem_iff.mpr (List.mem_cons_self (a:=b)))with y|y
    ·exact y.symm
    ·have a1:=h1'.1 b y
     have a2:=h2'.1 a z
     omega
  subst e
  rw[Vc p.cons_inv h1'.2 h2'.2]
theorem Vd{l m:List Int}(p:m.Perm l)(h:m.Pairwise (· <= ·)):m=w6 l:=Vc (p.trans (J4 l).1.symm) h (J4 l).2
theorem Ve:∀{ns:List Int} {vs:List Value},Vals (ns.map V.int) vs->IntsAre vs ns
 | [],_,h=>by cases h; exact .nil
 |n::ns,_,h=>by
  cases h with
  |cons h1 h2 =>
   obtain⟨t,rfl⟩:=h1
   exact .cons n t (Ve h2)
section
variable {X:Cx}
def J5(K:FZ):List V->Hp->VK->Prop:=λxs H Q=>∃p ns,xs=[.ref p]/\cJ K H p (ns.map V.int)/\ns.length<64/\∀l,H l=none->Q (.ref l) (upd H l (.lst ((w6 ns).map V.int)))
theorem ad1:iV X (.builtin "sorted") (J5 X.K):=by
 intro pins s σ H xs us Q I r h
 obtain⟨p,ns,rfl,hq,h64,q⟩:=h
 obtain⟨u,rfl,rx⟩:=vals1 r
 cases rx
 obtain⟨its,r',pl,hz⟩:=I.list hq
 have hl:=r'.length
 rw[List.length_map]at hl
 refine sorted_ints pl.isList (Ve r') (by omega) λout ns' a1 a2 a3=>?_
 obtain⟨e,he⟩:=sortedAll_at s.heap its out
 have e2:=Vd a2 a3
 subst e2
 have len:=a2.length_eq
 refine⟨.ref (s.heap.objs.size+1),_,I.laid (t':=s.toks) (λb o z=>sortedAll_old z) (Nat.le_succ _) (show jU X.prog X.w _ _ _ (.lst ((w6 ns).map V.int))from⟨by rw[List.length_map,sizeLine_eq]; omega,out.toList,e,Ie a1,by rw[Array.toArray_toList]; exact he⟩),rfl,q _ (I.hok.fresh (Nat.le_succ _))⟩
end
def uT:List Tr->Option (List Int)
 | []=>some []
 |.int i::r=>(uT r).map (i :: ·)
 |_::_=>none
theorem Vf:∀{ts:List Tr} {ns:List Int},uT ts=some ns->ts=ns.map Tr.int
 | [],_,h=>by cases h; rfl
 |.int i::r,ns,h=>by
  unfold uT at h
  cases e:uT r with
  |none=>rw[e]at h; cases h
  |some m=>rw[e]at h; cases h; rw[Vf e]; rfl
 |.non::_,_,h=>by cases h
 |.bl _::_,_,h=>by cases h
 |.str _::_,_,h=>by cases h
 |.tup _::_,_,h=>by cases h
 |.lst _::_,_,h=>by cases h
theorem Vg{K:FZ}{H:Hp}:∀{ns:List Int} {vs:List V},aR K H vs (ns.map Tr.int)->vs=ns.map V.int
 | [],_,h=>by cases h; rfl
 |n::ns,_,h=>by
  cases h with
  |cons h1 h2 =>
   cases h1
   rw[Vg h2]
   rfl
theorem Vh{K:FZ}{H:Hp}:∀ns:List Int,aR K H (ns.map V.int) (ns.map Tr.int)
 | []=>.nil
 |n::ns=>.cons (.int n) (Vh ns)
def qK:G1
 |.lst ts=>match uT ts with
  |some ns=>if ns.length<64 then .ok (.lst ((w6 ns).map Tr.int),true)else .bad
  |none=>.bad
 |_=>.bad
theorem ad2(a:Tr)(c:Str):qK a ≠ .ex c:=by
 unfold qK
 split
 ·split
  ·split <;> (intro z; cases z)
  ·intro z; cases z
 ·intro z; cases z
theorem ad3{K:FZ}:qd (aJ K) (λx=>J5 K [x]) qK:=λW x a H Q hw rx h=>by
 unfold qK at h
 split at h
 ·rename_i ts
  split at h
  ·rename_i ns e
   split at h
   ·rename_i hl
    rw[Vf e]at rx
    obtain⟨p,xs,rfl,q,r⟩:=rx.lst
    have e2:=Vg r
    subst e2
    refine⟨p,ns,rfl,q.toK,hl,λl nl=>h _ _ (fG nl _) (eG.new nl (Vh _))⟩
   ·exact h.elim
  ·exact h.elim
 ·exact h.elim
theorem ad4{t:Tx}{K:FZ}{tl:TA}{fl:AF}(hK:t.K=aJ K)(ha:SA t tl fl):SE t (jN (J5 K) tl) (bF (g1 qK) fl):=uw (by rw[hK]; exact yZ ad3) (yX ad2) ha
def eLR(fa:AF):EF:=λρ=>(fa ρ).bind λp=>match p.1 with
 | [.v (.int n) _]=>if 0<=n/\n<=1000 then .ok (.v (.lst ((List.range n.toNat).map λi:Nat=>Tr.int i)) true,p.2)else .bad
 |_=>.bad
end L2
end
section
namespace L2
open PySem PySem.Spec PyProof.Rows
section
variable {t:Tx}{K:FZ}
def ad5(F:FR)(fa:EF):EF:=λρ=>(fa ρ).bind λp=>match p.1 with
 |.v (.lst us) true=>(F [.lst us]).bind λz=>.ok (.v z.1.1 z.1.2,p.2)
 |_=>.bad
end
end L2
end
section
namespace L2
open PySem PySem.Spec PyProof.Rows
section
variable {X:Cx}
def J6:V->List V->Hp->VK->Prop:=λx vs H Q=>∃(l:Addr) (xs:List V) (k:Nat) (y:V),x=.ref l/\vs=[.int (k:Int),y]/\H l=some (.lst xs)/\k<=xs.length/\xs.length<=100000/\Q .non (upd H l (.lst (xs.take k++y::xs.drop k)))
theorem Vj:Ro X "list.insert" J6:=by
 intro pins s σ H x vs v us Q I rx rv h
 obtain⟨l,xs,k,y,rfl,rfl,hH,hk,hz,q⟩:=h
 cases rx
 cases rv with
 |cons r1 rv =>
 cases rv with
 |cons ru rv =>
 cases rv
 obtain⟨t,rfl⟩:=r1
 rename_i u
 obtain⟨z,its,n,r,hl,e⟩:=I.Rr hH
 have big:100000+1<=sizeLine:=Nat.le_of_lt (show 100001<sizeLine from by unfold sizeLine; omega)
 have hs1:its.toArray.size<=sizeLine:=by rw[List.size_toArray]; omega
 have hk':(if(k:Int)<0 then((k:Int)+(its.toArray.size:Int)).toNat else min (k:Int).toNat its.toArray.size)=k:=by
  rw[if_neg (by omega),Int.toNat_natCast,List.size_toArray]
  omega
 have h1 : -(2 ^ 63)<=(k:Int):=by omega
 have h2:(k:Int)<2 ^ 63:=by omega
 have hfit:¬(!Builtin.List.listFitsIndex (k:Int))=true:=by rw[fitsIndex_both h1 h2]; exact Bool.false_ne_true
 have hlen:(xs.take k++y::xs.drop k).length<=sizeLine:=by
  rw[List.length_append,List.length_cons,List.length_take,List.length_drop]
  omega
 clear h1 h2 big
 generalize (k:Int)=i at *
 refine call_meets F.slot_list_insert ⟨_,e,rfl⟩ F.entry_list_insert (F.args_list_insert_3 _ _ _)
  (AutoSeq1.list_insert_list_int_val_1 l its.toArray n i t u hfit hs1) ⟨e,?_⟩
 refine⟨.non,_,I.Rq (its':=its.take k++u::its.drop k) hH e ?_ (Vals.append (r.take _) (.cons ru (r.drop _))) hlen,rfl,q⟩
 show(its.toArray.extract 0 (if i<0 then(i+(its.toArray.size:Int)).toNat else min i.toNat its.toArray.size)).push u++its.toArray.extract (if i<0 then(i+(its.toArray.size:Int)).toNat else min i.toNat its.toArray.size)=_
 rw[hk']
 exact PySem.W.kl_ins_eq its k u
end
def nG:GM:=λts as=>match as with
 | [.int i,T]=>if 0<=i/\i.toNat<=ts.length/\ts.length<=100000 then .ok (ts.take i.toNat++T::ts.drop i.toNat,.non)else .bad
 |_=>.bad
theorem ad6:Jt J6 nG:=λK G a xs ts vs as H Q ts' T hx r ra q h=>by
 unfold nG at q
 split at q
 ·rename_i i U
  split at q
  ·rename_i c
   cases q
   cases ra with
   |cons h1 r1 =>
    cases r1 with
    |cons h2 r2 =>
     cases r2
     cases h1
     obtain⟨k,rfl⟩:∃k:Nat,(k:Int)=i:=⟨i.toNat,by omega⟩
     rw[Int.toNat_natCast]at c h
     exact⟨a,xs,k,_,rfl,rfl,hx,by rw[r.length]; exact c.2.1,by rw[r.length]; exact c.2.2,h _ _ ((r.take k).app (.cons h2 (r.drop k))) .non⟩
  ·cases q
 ·cases q
theorem ad7(ts as:List Tr)(c:Str):nG ts as ≠ .ex c:=by
 unfold nG
 split <;> (try split) <;> (intro z; cases z)
theorem ad8{t:Tx}{K:FZ}{te Vk:TE}{f f2:EF}(i:Nat)(h:SE t te f)(h2:SE t Vk f2):SE t (Cu K "list" J6 (jW i) (kZ te (kZ Vk rE))) (oZ i nG (ak f (ak f2 au))):=Td i ad6 ad7 (cC h (cC h2 dJ))
def sI(i:Nat)(ρ : En):Nat:=match ρ[i]? with
 |some (.sh (.lst ts))=>ts.length+1
 |some (.ow ts)=>ts.length+1
 |some (.rf ts)=>ts.length+1
 |_=>0
end L2
end
section
namespace L2
open PySem PySem.Spec PyProof.Rows
section
variable {P:Program}{w:World}{K:FZ}
end
section
variable {X:Cx}
end
section
variable {t:Tx}
end
section
variable {X:Cx}
end
section
variable {K:FZ}
end
end L2
end
section
namespace L2
open PySem PySem.Spec PyProof.Rows
end L2
end
section
namespace L2
open PySem PySem.Spec PyProof.Rows PySem.W
def Eh:List Str := "HeadError" :: mY
def isub(c d:Str):Bool:=c == d || d == ("HeadError" : Str)
def Vl:List Ty:=[.int,.bool,.str,.tuple,.list]
def Ei(K:Frag)(cs:List Str)(p:Str->Addr->Bool):Bool:=cs.all λc=>match nsIn K mainGlobals c with
 |some (some (.ref C))=>p c C
 |_=>true
theorem J7{K:Frag}{cs:List Str}{p:Str->Addr->Bool}(h:Ei K cs p=true){c:Str}(m:c∈cs){C:Addr}(n:nsIn K mainGlobals c=some (some (.ref C))):p c C=true:=by
 have:=List.all_eq_true.mp h c m
 rw[n]at this
 exact this
noncomputable def J8(K:Frag)(C:Addr):Bool:=findIn K (.ref C) "__getattribute__" == some (some (.builtin "BaseException.__getattribute__"))&&findIn K (.ref C) "__getattr__" == some none&&findIn K (.ref C) "__class__" == some (some (.builtin "object.__class__"))&&mroIn K C (.type "object") == some true&&mroIn K C (.type "BaseException") == some true&&(clsIn K C).isSome
theorem ad9{K:Frag}{C:Addr}(h:J8 K C=true):oJ K C:=by
 unfold J8 at h
 simp only[Bool.and_eq_true]at h
 obtain⟨⟨⟨⟨⟨h1,h2⟩,h3⟩,h4⟩,h5⟩,h6⟩:=h
 exact⟨beq_iff_eq.mp h1,beq_iff_eq.mp h2,beq_iff_eq.mp h3,beq_iff_eq.mp h4,beq_iff_eq.mp h5,h6⟩
noncomputable def Vm(K:Frag):Bool :=
 Ei K mY (λ_ C=>J8 K C&&Vl.all (λy=>kitOne K (.ref C) (.type y.name) == some false)&&kitOne K (.ref C) (.type "ValueError") == some true) &&
 Ei K Eh (λd D=>kitOne K (.type "NoneType") (.ref D) == some false&&Ei K mY (λc C=>kitOne K (.ref C) (.ref D) == some (isub c d)&&(!(d == ("HeadError" : Str)) || exmOne K (.ref C) (.ref D) == some true))) &&
 kitOne K (.type "NoneType") (.type "ValueError") == some false&&(match K.lookup mainGlobals with
  |some o=>o.cls != .type "list"
  |none=>true)
structure mD(K:Frag):Prop where
 o:CQ K
 n:∀d∈Eh,∀D,nsIn K mainGlobals d=some (some (.ref D))->kitOne K (.type "NoneType") (.ref D)=some false
 k:∀d∈Eh,∀D,nsIn K mainGlobals d=some (some (.ref D))->∀c∈mY,∀C,nsIn K mainGlobals c=some (some (.ref C))->kitOne K (.ref C) (.ref D)=some (isub c d)
 v:∀c∈mY,∀C,nsIn K mainGlobals c=some (some (.ref C))->kitOne K (.ref C) (.type "ValueError")=some true
 vn:kitOne K (.type "NoneType") (.type "ValueError")=some false
 h:∀D,nsIn K mainGlobals "HeadError" = some (some (.ref D))->∀c∈mY,∀C,nsIn K mainGlobals c=some (some (.ref C))->exmOne K (.ref C) (.ref D)=some true
 x:∀c∈mY,∀C,nsIn K mainGlobals c=some (some (.ref C))->oJ K C
 mc:∀o,K.lookup mainGlobals=some o->o.cls ≠ .type "list"
theorem mD.of{K:Frag}(h:Vm K=true):mD K:=by
 unfold Vm at h
 simp only[Bool.and_eq_true]at h
 obtain⟨⟨⟨h1,h2⟩,h3⟩,h4⟩:=h
 have a1:∀c∈mY,∀C,nsIn K mainGlobals c=some (some (.ref C))->oJ K C/\(∀y:Ty,kitOne K (.ref C) (.type y.name)=some false)/\kitOne K (.ref C) (.type "ValueError")=some true:=λc m C n=>by
  have:=J7 h1 m n
  simp only[Bool.and_eq_true]at this
  obtain⟨⟨x1,x2⟩,x3⟩:=this
  refine⟨ad9 x1,λy=>?_,beq_iff_eq.mp x3⟩
  have:=List.all_eq_true.mp x2 y (by cases y <;> simp[Vl])
  exact beq_iff_eq.mp this
 have a2:∀d∈Eh,∀D,nsIn K mainGlobals d=some (some (.ref D))→kitOne K (.type "NoneType") (.ref D)=some false∧∀c∈mY,∀C,nsIn K mainGlobals c=some (some (.ref C))→kitOne K (.ref C) (.ref D)=some (isub c d)∧(d = "HeadError" → exmOne K (.ref C) (.ref D)=some true):=λd m D n=>by
  have:=J7 h2 m n
  rw[Bool.and_eq_true]at this
  refine⟨beq_iff_eq.mp this.1,λc mc C nc=>?_⟩
  have:=J7 this.2 mc nc
  rw[Bool.and_eq_true]at this
  refine⟨beq_iff_eq.mp this.1,λe=>?_⟩
  have z:=this.2
  rw[Bool.or_eq_true]at z
  rcases z with z|z
  ·rw[e]at z; cases z
  ·exact beq_iff_eq.mp z
 refine⟨λc m C n=>⟨λa=>aaU (a1 c m C n).1,(a1 c m C n).2.1⟩,λd m D n=>(a2 d m D n).1,λd m D n c mc C nc=>((a2 d m D n).2 c mc C nc).1,λc m C n=>(a1 c m C n).2.2,beq_iff_eq.mp h3,λD n c mc C nc=>((a2 "HeadError" (List.mem_cons_self ..) D n).2 c mc C nc).2 rfl,λc m C n=>(a1 c m C n).1,λo e=>?_⟩
 rw[e]at h4
 simpa using h4
def Vn:Tr->Str->Option Bool
 |.dB c,d=>some (isub c d)
 |.non,_=>some false
 |_,_=>none
def Vo:Tr->Option Bool
 |.dB _=>some true
 |.non=>some false
 |_=>none
section
variable {X:Cx}
variable {e:Expr}{te:TE}{x:Str}{p q pos:Pos}
end
section
variable {t:Tx}{K:Frag}
def aea(d:Str)(fa:EF):EF:=λρ=>(fa ρ).bind λp=>(dr p.2 p.1).bind λa=>match Vn a d with
 |some b=>.ok (eB b,p.2)
 |none=>.bad
def aeb(fa:EF):EF:=λρ=>(fa ρ).bind λp=>(dr p.2 p.1).bind λa=>match Vo a with
 |some b=>.ok (eB b,p.2)
 |none=>.bad
def Pr{α : Type}(f:En->Rs (α × En)):Prop:=∀ρ,(∀p,f ρ=.ok p->p.2 = ρ)/\∀c,f ρ ≠ .ex c
end
section
variable {X:Cx}{e:Expr}{te:TEX}{pos:Pos}
end
end L2
end
section
namespace BH
open PySem L2
def Vp:SF:=(aG (bZ (jE (zA 1) (bV (aq dO (aj 1) (eC (.int 0)))) (zq 0 1 (ak (aj 1) (ak (aq dR (aj 0) (aj 1)) au))))) (aY (bF (g1 wF) (ak (aj 0) au))))
def qL:FP:=aQ 2 Vp
noncomputable def Vq:SF:=(aG (bY (bV (aq cj (aj 1) (eC (.int 0)))) (rZ "NoBottom" (eC (.str "a fraction has no bottom of 0"))) bW) (aG (aW (aK qL (ak (aj 0) (ak (aj 1) au))) (gN 2)) (aG (bY (bV (aq d8 (aj 1) (eC (.int 0)))) (aW (wB mZ (aj 2)) (gN 2)) bW) (aY (eY (ak (aq fU (aj 0) (aj 2)) (ak (aq fU (aj 1) (aj 2)) au)))))))
def nH:FP:=aQ 3 Vq
def J9:SF:=(aY (aK nH (ak (aq cB (aq bU (aq aB (aj 0) (eC (.int 0))) (aq aB (aj 1) (eC (.int 1)))) (aq bU (aq aB (aj 1) (eC (.int 0))) (aq aB (aj 0) (eC (.int 1))))) (ak (aq bU (aq aB (aj 0) (eC (.int 1))) (aq aB (aj 1) (eC (.int 1)))) au))))
def xg:FP:=aQ 2 J9
def Ka:SF:=(aY (aK nH (ak (aq fD (aq bU (aq aB (aj 0) (eC (.int 0))) (aq aB (aj 1) (eC (.int 1)))) (aq bU (aq aB (aj 1) (eC (.int 0))) (aq aB (aj 0) (eC (.int 1))))) (ak (aq bU (aq aB (aj 0) (eC (.int 1))) (aq aB (aj 1) (eC (.int 1)))) au))))
def xq:FP:=aQ 2 Ka
def Kc:SF:=(aY (aK nH (ak (aq bU (aq aB (aj 0) (eC (.int 0))) (aq aB (aj 1) (eC (.int 0)))) (ak (aq bU (aq aB (aj 0) (eC (.int 1))) (aq aB (aj 1) (eC (.int 1)))) au))))
def qN:FP:=aQ 2 Kc
def Kd:SF:=(aY (aK nH (ak (aq bU (aq aB (aj 0) (eC (.int 0))) (aq aB (aj 1) (eC (.int 1)))) (ak (aq bU (aq aB (aj 0) (eC (.int 1))) (aq aB (aj 1) (eC (.int 0)))) au))))
def zO:FP:=aQ 2 Kd
def Kf:SF:=(aY (aq d8 (aq bU (aq aB (aj 0) (eC (.int 0))) (aq aB (aj 1) (eC (.int 1)))) (aq bU (aq aB (aj 1) (eC (.int 0))) (aq aB (aj 0) (eC (.int 1))))))
def pB:FP:=aQ 2 Kf
def Vr:SF:=(aY (lC (iK .int (aj 0)) (Jm (iK .bool (aj 0)))))
def nJ:FP:=aQ 1 Vr
noncomputable def Kg:SF:=(aG (bY (f9 (dU (cL (iK .tuple (aj 0)))) (bV (aq dO (bF (g1 bK) (ak (aj 0) au)) (eC (.int 2))))) (aY (eC (.bl false))) bW) (aG (aW (aj 0) (gT 2 (bL (gN 1) (bL (gN 2) dD)))) (aG (bY (f9 (dU (cL (aK nJ (ak (aj 1) au)))) (dU (cL (aK nJ (ak (aj 2) au))))) (aY (eC (.bl false))) bW) (aY (lC (aq lA (aj 2) (eC (.int 1))) (aq cj (aK qL (ak (aj 1) (ak (aj 2) au))) (eC (.int 1))))))))
def sJ:FP:=aQ 3 Kg
def Kh:SF:=(aY (lC (aK sJ (ak (aj 0) au)) (qg d7 d7 (eC (.int 0)) (aq aB (aj 0) (eC (.int 0))) (aq aB (aj 0) (eC (.int 1))))))
def qO:FP:=aQ 1 Kh
def Km:SF:=(aG (bY (f9 (dU (cL (iK .list (aj 0)))) (dU (bV (qg d7 d7 (eC (.int 1)) (bF (g1 bK) (ak (aj 0) au)) (aj 1))))) (aY (eC (.bl false))) bW) (aY (bF (g1 gA) (ak (cD [none] (bQ (aj 0)) (gN 0) cH (aK qO (ak (aj 0) au))) au))))
def uU:FP:=aQ 2 Km
noncomputable def Vs:SF:=(aG (bY (f9 (dU (cL (iK .list (aj 0)))) (dU (bV (qg d7 d7 (eC (.int 1)) (bF (g1 bK) (ak (aj 0) au)) (eC (.int 4)))))) (aY (eC (.bl false))) bW) (aG (bY (dU (cL (bF (g1 gA) (ak (cD [none] (bQ (aj 0)) (gN 0) cH (aK uU (ak (aj 0) (ak (eC (.int 12)) au)))) au)))) (aY (eC (.bl false))) bW) (aY (bF (g1 gA) (ak (cD [none,some 0] (bQ (aj 0)) (gN 0) cH (aq cj (bF (g1 bK) (ak (aj 0) au)) (bF (g1 bK) (ak (aq aB (aj 1) (eC (.int 0))) au)))) au)))))
def zQ:FP:=aQ 1 Vs
def Vt:SF:=(aG (aW (eC (.int 1)) (gN 1)) (aG (bZ (cO (bQ (aj 0)) (gT 2 (bL (gN 2) (bL (gN 3) dD))) (aW (aq fU (aq bU (aj 1) (aj 3)) (aK qL (ak (aj 1) (ak (aj 3) au)))) (gN 1)))) (aY (aj 1))))
def zR:FP:=aQ 4 Vt
def Vu:SF:=(aG (aW (aK zR (ak (aj 0) au)) (gN 1)) (aY (cD [none,none,some 1] (bQ (aj 0)) (gT 2 (bL (gN 0) (bL (gN 1) dD))) cH (aq bU (aj 0) (aq fU (aj 2) (aj 1))))))
def Ej:FP:=aQ 2 Vu
def Vv:SF:=(aG (aW (aK Ej (ak (aj 0) au)) (gN 1)) (aY (Ed zM [some 1] (ak (bF (g1 bK) (ak (aj 1) au)) au) (wY mZ (wX aB (qJ 1) (qJ 0))))))
def jH:FP:=aQ 2 Vv
def Ek:SF:=(aY (lC (aK nJ (ak (aj 0) au)) (qg d7 d8 (eC (.int 0)) (aj 0) (aj 1))))
def qP:FP:=aQ 2 Ek
def Vw:SF:=(bY (dU (cL (aK zQ (ak (aj 0) au)))) (rZ "NoBook" (eC (.str "this is no book"))) bW)
def zT:FP:=aQ 1 Vw
def Ko:SF:=(bY (dU (cL (aK qP (ak (aj 1) (ak (bF (g1 bK) (ak (aj 0) au)) au))))) (rZ "NoList" (eC (.str "the book has no list of this number"))) bW)
def uV:FP:=aQ 2 Ko
noncomputable def Vx:SF:=(aG (bY (f9 (dU (cL (iK .list (aj 0)))) (bV (aq dO (bF (g1 bK) (ak (aj 0) au)) (aj 1)))) (aY (eC (.bl false))) bW) (aY (bF (g1 gA) (ak (cD [none] (bQ (aj 0)) (gN 0) cH (lC (aK sJ (ak (aj 0) au)) (aq lA (aq aB (aj 0) (eC (.int 0))) (eC (.int 0))))) au))))
def El:FP:=aQ 2 Vx
noncomputable def xr:SF:=(aG (bY (dU (cL (iK .tuple (aj 0)))) (aY (eC (.bl false))) bW) (aG (bY (bV (aq dO (bF (g1 bK) (ak (aj 0) au)) (eC (.int 2)))) (aY (aq (fQ id) (aj 0) (eC (.tup [(.tup [(.str "least")]),(.tup [(.str "greatest")]),(.tup [(.str "product")])])))) bW) (aG (aW (aj 0) (gT 2 (bL (gN 2) (bL (gN 3) dD)))) (aG (bY (bV (aq cj (aj 2) (eC (.str "shares")))) (aY (aK El (ak (aj 3) (ak (aj 1) au)))) bW) (aY (lC (aq cj (aj 2) (eC (.str "middle"))) (lC (aK nJ (ak (aj 3) au)) (qg d7 d7 (eC (.int 1)) (aj 3) (aj 1)))))))))
def uW:FP:=aQ 4 xr
def Vy:SF:=(aG (aW (eC (.tup [.int 0,.int 1])) (gN 2)) (aG (bZ (cO (qz (ak (aj 0) (ak (aj 1) au))) (gT 2 (bL (gN 3) (bL (gN 4) dD))) (aW (aK xg (ak (aj 2) (ak (aK qN (ak (aj 3) (ak (aj 4) au))) au))) (gN 2)))) (aY (aj 2))))
def Em:FP:=aQ 5 Vy
def Vz:SF:=(aG (aW (eC (.tup [.int 1,.int 1])) (gN 1)) (aG (bZ (cO (bQ (aj 0)) (gN 2) (aW (aK qN (ak (aj 1) (ak (aj 2) au))) (gN 1)))) (aY (aj 1))))
def Eo:FP:=aQ 3 Vz
def zU:SF:=(aG (bY (bV (aq cj (aq aB (aj 0) (eC (.int 0))) (eC (.str "greatest")))) (aY (eC (.int 1))) bW) (aG (bY (bV (aq cj (aq aB (aj 0) (eC (.int 0))) (eC (.str "least")))) (aY (aj 1)) bW) (aY (aq aB (aj 0) (eC (.int 1))))))
def uX:FP:=aQ 2 zU
noncomputable def zV:SF:=(aG (bY (bV (aq cj (aq aB (aj 0) (eC (.int 0))) (eC (.str "shares")))) (aY (aK Em (ak (aq aB (aj 0) (eC (.int 1))) (ak (aj 1) au)))) bW) (aG (bY (bV (aq cj (aq aB (aj 0) (eC (.int 0))) (eC (.str "product")))) (aY (aK Eo (ak (aj 1) au))) bW) (aY (aq aB (aj 1) (aq aB (aK jH (ak (aj 1) au)) (aq fD (aK uX (ak (aj 0) (ak (bF (g1 bK) (ak (aj 1) au)) au))) (eC (.int 1))))))))
def kO:FP:=aQ 2 zV
def Kp:SF:=(aG (jw (aK zT (ak (aj 0) au))) (bY (dU (cL (aK uW (ak (aj 1) (ak (bF (g1 bK) (ak (aj 0) au)) au))))) (rZ "NoRule" (eC (.str "this is no rule for the book's lists"))) bW))
def sO:FP:=aQ 2 Kp
def VB:SF:=(aY (cD [none,some 1] (bQ (aj 0)) (gN 0) cH (aq aB (aj 0) (aj 1))))
def uY:FP:=aQ 2 VB
def VD:SF:=(aY (cD [none,some 1,some 0] (fL (ak (bF (g1 bK) (ak (aq aB (aj 0) (eC (.int 0))) au)) au)) (gN 0) cH (aK kO (ak (aj 1) (ak (aK uY (ak (aj 2) (ak (aj 0) au))) au)))))
def lG:FP:=aQ 2 VD
def VF:SF:=(aG (jw (aK sO (ak (aj 0) (ak (aj 1) au)))) (aY (aK lG (ak (aj 0) (ak (aj 1) au)))))
def Kq:FP:=aQ 2 VF
def Kr:SF:=(aY (lC (aK nJ (ak (aj 0) au)) (qg d7 d7 (eC (.int 0)) (aj 0) (aj 1))))
def zW:FP:=aQ 2 Kr
def VG:SF:=(bY (dU (cL (aK zW (ak (aj 1) (ak (bF (g1 bK) (ak (aq aB (aj 0) (eC (.int 0))) au)) au))))) (rZ "NoCount" (eC (.str "this is no count of the book's things"))) bW)
def zX:FP:=aQ 2 VG
def Ks:SF:=(aG (jw (aK sO (ak (aj 0) (ak (aj 1) au)))) (jw (aK zX (ak (aj 0) (ak (aj 2) au)))))
def qQ:FP:=aQ 3 Ks
noncomputable def VH:SF:=(aG (jw (aK qQ (ak (aj 0) (ak (aj 1) (ak (aj 2) au))))) (aG (aW (aK lG (ak (aj 0) (ak (aj 1) au))) (gN 3)) (aY (cD [none,some 3] (bQ (ur (aK jH (ak (aj 3) au)) uo (uq (aj 2)))) (gN 0) cH (eY (ak (aj 0) (ak (aq aB (aj 1) (aj 0)) au)))))))
def uZ:FP:=aQ 4 VH
def VJ:SF:=(aY (bF (g1 qK) (ak (cD [none,none] (bQ (aK uZ (ak (aj 0) (ak (aj 1) (ak (aj 2) au))))) (gT 2 (bL (gN 0) (bL (gN 1) dD))) cH (aj 0)) au)))
def Ep:FP:=aQ 3 VJ
def VL:SF:=(bY (dU (cL (aK qP (ak (aj 1) (ak (bF (g1 bK) (ak (aq aB (aj 0) (eC (.int 0))) au)) au))))) (rZ "NoThing" (eC (.str "the book has no thing of this number"))) bW)
def zY:FP:=aQ 2 VL
def Ku:SF:=(aG (j9 5 (aK uY (ak (aj 0) (ak (aj 3) au)))) (aG (Dl 5 (aj 2) (aj 4)) (aY (aK kO (ak (aj 1) (ak (aj 5) au))))))
def pC:FP:=aQ 6 Ku
noncomputable def Er:SF:=(aG (bY (f9 (bV (aq cj (aq aB (aj 0) (eC (.int 0))) (eC (.str "shares")))) (bV (aq cj (aq aB (aj 0) (eC (.int 0))) (eC (.str "product"))))) (aY (aK zO (ak (aK xq (ak (aj 3) (ak (aj 1) au))) (ak (aK xq (ak (aj 2) (ak (aj 1) au))) au)))) bW) (aY (aj 3)))
def nQ:FP:=aQ 4 Er
noncomputable def u0:SF:=(aG (aW (aK lG (ak (aj 0) (ak (aj 1) au))) (gN 5)) (aG (aW (cD [none,some 2,some 4,some 5] (fL (ak (bF (g1 bK) (ak (aj 5) au)) au)) (gN 0) (bV (aq dO (aq (fQ id) (aj 0) (aj 1)) (aq (fQ id) (aj 2) (aj 1)))) (aq aB (aj 3) (aj 0))) (gN 6)) (aG (bY (dU (cL (aj 6))) (aY (eY (ak (eC (.tup [(.int 0),(.int 1)])) (ak (eC (.tup [(.int 1),(.int 1)])) au)))) bW) (aG (aW (aK jH (ak (aj 6) au)) (gN 7)) (aG (aW (aK pC (ak (aj 0) (ak (aj 1) (ak (aj 3) (ak (aj 4) (ak (eC (.tup [(.int 0),(.int 1)])) au)))))) (gN 8)) (aG (aW (aK pC (ak (aj 0) (ak (aj 1) (ak (aj 3) (ak (aj 4) (ak (eC (.tup [(.int 1),(.int 1)])) au)))))) (gN 9)) (aG (bY (bV (aq (fQ id) (aj 4) (aj 2))) (aG (aW (aq aB (aj 6) (aq aB (aj 7) (eC (.int 0)))) (gN 10)) (aY (eY (ak (wC (cL (aK pB (ak (aj 8) (ak (aj 10) au)))) (aK nQ (ak (aj 1) (ak (aj 8) (ak (aj 9) (ak (aj 10) au))))) (eC (.tup [(.int 0),(.int 1)]))) (ak (eC (.tup [(.int 1),(.int 1)])) au))))) bW) (aG (aW (aq aB (aj 6) (aq aB (aj 7) (wB mZ (eC (.int 1))))) (gN 10)) (aY (eY (ak (eC (.tup [(.int 0),(.int 1)])) (ak (wC (cL (aK pB (ak (aj 10) (ak (aj 9) au)))) (aK nQ (ak (aj 1) (ak (aj 8) (ak (aj 9) (ak (aj 10) au))))) (eC (.tup [(.int 1),(.int 1)]))) au))))))))))))
def Es:FP:=aQ 11 u0
noncomputable def Ky:SF:=(aG (jw (aK qQ (ak (aj 0) (ak (aj 1) (ak (aj 2) au))))) (aG (jw (aK uV (ak (aj 0) (ak (aj 3) au)))) (aG (jw (aK zY (ak (aj 0) (ak (aj 4) au)))) (aY (aK Es (ak (aj 0) (ak (aj 1) (ak (aK Ep (ak (aj 0) (ak (aj 1) (ak (aj 2) au)))) (ak (aj 3) (ak (aj 4) au))))))))))
def xu:FP:=aQ 5 Ky
end BH
end
section
namespace L2
open PySem PySem.Spec PyProof.Rows
section
variable {X:Cx}{k j:Nat}{x:Str}{ps:List Str}{sp:Sp}{p pos:Pos}{a b e:Expr}{es:List Expr}{ta tb:TE}{tl:TA}{E:XK}
theorem bD(ha:PE X a ta)(hb:PE X b tb)(hs:Rf b:=by exact λ_ _=>rfl):PE X (.Subscript a b pos) (gq (tO X.K) ta tb):=tM tQ ha hb hs
theorem pc1(D:aM X.prog X.w X.K X.mg X.base j x ps sp)(hr:fO k X.A)(hx:Passes (jt X.prog X.w) X E)(ha:PA X (e::es) tl)(hk:j<=k:=by decide)(hg:X.env.kindOf x=some .globalImplicit:=by kernel_rfl)(hdb:(x == ("__debug__" : Str))=false:=by kernel_rfl)
  (he:notStar e=true:=by kernel_rfl) (hpl:(backTo pos (starEach es X.env)).any (·.1)=false:=by kernel_rfl):PE X (.Call (.Name x p) (e::es) [] pos) (oG sp [] E tl):=Ug (D.mono hk) hr hx ha hg hdb he hpl
theorem eF(D:aM X.prog X.w X.K X.mg X.base j x ps sp)(hr:fO k X.A)(ha:PA X (e::es) tl)(hk:j<=k:=by decide)(hg:X.env.kindOf x=some .globalImplicit:=by kernel_rfl)(hdb:(x == ("__debug__" : Str))=false:=by kernel_rfl)
  (he:notStar e=true:=by kernel_rfl) (hpl:(backTo pos (starEach es X.env)).any (·.1)=false:=by kernel_rfl):PE X (.Call (.Name x p) (e::es) [] pos) (oG sp [] E0 tl):=Ug (D.mono hk) hr aa0 ha hg hdb he hpl
end
theorem fS(N P:List Str)(sc:Scope)(kind:sc.kind=.function:=by rfl)(co:sc.isCoroutine=false:=by rfl)(gen:sc.isGenerator=false:=by rfl)(nd:N.Nodup:=by decide +kernel)(pre:N.take P.length=P:=by rfl)(par:∀x∈P,sc.names.lookup x=some .local\/sc.names.lookup x=some .cell:=by decide +kernel)(HJ:∀y∈sc.names,y.2 ≠ .free:=by decide +kernel):pU N P sc:=⟨kind,co,gen,nd,pre,par,HJ⟩
section
variable {t:Tx}{K:FZ}
theorem aec(hK:t.K=aJ K){ta:TE}{fa:EF}(ha:SE t ta fa):L2.ST t (λσ H Q=>ta σ H λx H'=>∃k,yH K x H' k/\Q k H') (cL fa):=qe hK ha
theorem aed(hK:t.K=aJ K){ts:TS}{f:SF}(h:∀t':Tx,t'.K=aJ K->(∀c,¬t'.EX c)->SS t' ts f):SS t ts (bZ f):=T3 λt' h' k=>h t' (h'.trans hK) k
theorem aee(hK:t.K=aJ K){wi:TI}{g:TG}{src:List (Option Nat)}{te:TE}{fi:IF}{gf:GF}{f:EF}{js:List Nat}(hi:SI t wi fi)(ng:∀T ρ c,gf T ρ ≠ .ex c)(hg:∀t':Tx,t'.K=aJ K->(∀c,¬t'.EX c)->SG t' g gf js)(he:∀t':Tx,t'.K=aJ K->(∀c,¬t'.EX c)->SE t' te f)(hj:∀k j:Nat,src[k]?=some (some j)->k∉js)(I:(src.filterMap id).Nodup):SE t (rK wi g src te) (cD src fi gf cH f) :=
 wL hi (sy I) hj ng (λt' h k=>hg t' (h.trans hK) k) (λt' h k=>he t' (h.trans hK) k)
theorem aef(hK:t.K=aJ K){wi:TI}{g:TG}{src:List (Option Nat)}{tc:TT}{te:TE}{fi:IF}{gf:GF}{c:BF}{f:EF}{js:List Nat}(hi:SI t wi fi)(ng:∀T ρ c,gf T ρ ≠ .ex c)(hg:∀t':Tx,t'.K=aJ K->(∀c,¬t'.EX c)->SG t' g gf js)(hc:∀t':Tx,t'.K=aJ K->(∀c,¬t'.EX c)->ST t' tc c)(he:∀t':Tx,t'.K=aJ K->(∀c,¬t'.EX c)->SE t' te f)(hj:∀k j:Nat,src[k]?=some (some j)->k∉js)(I:(src.filterMap id).Nodup):SE t (uD wi g src tc te) (cD src fi gf c f) :=
 TV hi (sy I) hj ng (λt' h k=>hg t' (h.trans hK) k) (λt' h k=>hc t' (h.trans hK) k) (λt' h k=>he t' (h.trans hK) k)
end
end L2
end
section
namespace K57
open PySem L2 BH
def top(i:Nat):Stmt:=PySem.Challenge.pw_bestheads_k57_rooms_of_worths.main.body.getD i (.Pass ⟨0,0,0,0⟩)
abbrev Kz:Stmt:=top 9
abbrev KC:Stmt:=top 10
abbrev KD:Stmt:=top 11
abbrev KH:Stmt:=top 12
abbrev KJ:Stmt:=top 13
abbrev KN:Stmt:=top 14
abbrev KQ:Stmt:=top 15
abbrev KR:Stmt:=top 16
abbrev KY:Stmt:=top 17
abbrev KZ:Stmt:=top 18
abbrev Et:Stmt:=top 19
abbrev Eu:Stmt:=top 20
abbrev K1:Stmt:=top 24
abbrev Ew:Stmt:=top 25
abbrev zZ:Stmt:=top 26
abbrev K3:Stmt:=top 27
abbrev K4:Stmt:=top 28
abbrev K5:Stmt:=top 29
abbrev K6:Stmt:=top 30
abbrev K7:Stmt:=top 31
abbrev Ey:Stmt:=top 34
abbrev K8:Stmt:=top 35
abbrev K9:Stmt:=top 36
abbrev La:Stmt:=top 37
abbrev Lb:Stmt:=top 38
abbrev Ld:Stmt:=top 39
abbrev Le:Stmt:=top 40
abbrev Lf:Stmt:=top 42
abbrev Lg:Stmt:=top 43
abbrev Ez:Stmt:=top 44
abbrev EY:Stmt:=top 45
abbrev Fb:Stmt:=top 46
abbrev Fe:Stmt:=top 47
abbrev Lh:Stmt:=top 51
abbrev Li:Stmt:=top 52
abbrev Fg:Stmt:=top 53
abbrev Lj:Stmt:=top 54
abbrev Lk:Stmt:=top 56
abbrev Ln:Stmt:=top 57
abbrev Lp:Stmt:=top 58
abbrev Lr:Stmt:=top 59
abbrev Ls:Stmt:=top 60
abbrev Lw:Stmt:=top 61
abbrev Lx:Stmt:=top 62
abbrev Ly:Stmt:=top 63
abbrev Fi:Stmt:=top 64
abbrev xG:Stmt:=top 65
abbrev Lz:Stmt:=top 66
abbrev LC:Stmt:=top 67
abbrev Aa:Stmt:=top 68
abbrev LK:Stmt:=top 69
abbrev LQ:Stmt:=top 70
abbrev LR:Stmt:=top 71
abbrev Fj:Stmt:=top 72
abbrev Fo:Stmt:=top 73
abbrev Fp:Stmt:=top 74
structure Nm(mg:Str->Option Value):Prop where
 VN:mg "abs" = none
 Ab:mg "all" = none
 VP:mg "bool" = none
 V0:mg "int" = none
 nR:mg "isinstance" = none
 gD:mg "len" = none
 Ac:mg "list" = none
 aeg:mg "max" = none
 aeh:mg "min" = none
 pF:mg "range" = none
 V1:mg "sorted" = none
 Ft:mg "tuple" = none
 V2:mg "zip" = none
noncomputable def Ma:SF:=(aG (aW (eC (.int 0)) (gN 2)) (aG (bY (bV (aq d8 (aj 1) (bF (g1 bK) (ak (aj 0) au)))) (aW (aq aB (aj 0) (aj 1)) (gN 2)) bW) (aG (bY (bV (aq lA (aj 2) (aq gJ (eC (.int 10)) (eC (.int 18))))) (aY (aq dR (aq fD (aj 2) (aq gJ (eC (.int 10)) (eC (.int 18)))) (aq gJ (eC (.int 10)) (eC (.int 60))))) bW) (aG (aW (aq dR (aq cB (aq cB (aq bU (aj 2) (eC (.int 48271))) (aq bU (aj 1) (eC (.int 69621)))) (eC (.int 11))) (eC (.int 2147483629))) (gN 3)) (aG (aW (eC (.int 0)) (gN 4)) (aG (bZ (cO (fL (ak (eC (.int 8)) au)) (gN 5) (aG (aW (aq dR (aq cB (aq cB (aq bU (aj 3) (aj 3)) (aq bU (eC (.int 69621)) (aj 5))) (eC (.int 7))) (eC (.int 2147483587))) (gN 3)) (aW (aq cB (aq bU (aj 4) (eC (.int 2147483563))) (aq dR (aq bU (aj 3) (aj 3)) (eC (.int 2147483563)))) (gN 4))))) (aY (aj 4))))))))
def jf:FP:=aQ 6 Ma
def Mf:SF:=(aG (aW (aq dR (aq aB (aj 0) (eC (.int 0))) (aj 1)) (gN 2)) (aG (Dl 0 (eC (.int 0)) (aq fU (aq aB (aj 0) (eC (.int 0))) (aj 1))) (aY (aj 2))))
def gM:FR:=nq 3 0 Mf
def V3:SF:=(aG (bZ (jE (zA 1) (bV (aq dO (aj 1) (eC (.int 0)))) (zq 0 1 (ak (aj 1) (ak (aq dR (aj 0) (aj 1)) au))))) (aY (bF (g1 wF) (ak (aj 0) au))))
def vd:FP:=aQ 2 V3
def Mg:SF:=(aG (aW (aK vd (ak (aj 0) (ak (aj 1) au))) (gN 2)) (aG (bY (bV (aq d8 (aj 1) (eC (.int 0)))) (aW (aq fD (eC (.int 0)) (aj 2)) (gN 2)) bW) (aY (eY (ak (aq fU (aj 0) (aj 2)) (ak (aq fU (aj 1) (aj 2)) au))))))
def kW:FP:=aQ 3 Mg
def Fv:SF:=(aY (aK kW (ak (aq cB (aq bU (aq aB (aj 0) (eC (.int 0))) (aq aB (aj 1) (eC (.int 1)))) (aq bU (aq aB (aj 1) (eC (.int 0))) (aq aB (aj 0) (eC (.int 1))))) (ak (aq bU (aq aB (aj 0) (eC (.int 1))) (aq aB (aj 1) (eC (.int 1)))) au))))
def jP:FP:=aQ 2 Fv
def Mh:SF:=(aY (aK kW (ak (aq bU (aq aB (aj 0) (eC (.int 0))) (aq aB (aj 1) (eC (.int 0)))) (ak (aq bU (aq aB (aj 0) (eC (.int 1))) (aq aB (aj 1) (eC (.int 1)))) au))))
def jQ:FP:=aQ 2 Mh
def Mi:SF:=(aY (aq d8 (aq bU (aq aB (aj 0) (eC (.int 0))) (aq aB (aj 1) (eC (.int 1)))) (aq bU (aq aB (aj 1) (eC (.int 0))) (aq aB (aj 0) (eC (.int 1))))))
def fY:FP:=aQ 2 Mi
noncomputable def V4:SF:=(aG (aW (aq aB (nu [.int 1,.int 2,.int 3,.int 4,.int 6,.int 10,.int 12]) (gK 0 gM (ak (aj 0) (ak (eC (.int 7)) au)))) (gN 1)) (aG (aW (gK 0 gM (ak (aj 0) (ak (aq cB (aj 1) (eC (.int 1))) au))) (gN 2)) (aG (bY (bV (aq cj (gK 0 gM (ak (aj 0) (ak (eC (.int 8)) au))) (eC (.int 7)))) (aG (aW (aq fD (aq cB (aq bU (aj 2) (aq gJ (eC (.int 10)) (eC (.int 10)))) (gK 0 gM (ak (aj 0) (ak (eC (.int 5)) au)))) (eC (.int 2))) (gN 2)) (aW (aq bU (aj 1) (aq gJ (eC (.int 10)) (eC (.int 10)))) (gN 1))) bW) (aY (aK kW (ak (bF (g2 wH) (ak (eC (.int 0)) (ak (bF (g2 wG) (ak (aj 1) (ak (aj 2) au))) au))) (ak (aj 1) au)))))))
def Ad:FR:=nq 3 0 V4
noncomputable def V5:SF:=(aG (j9 4 (jk au)) (aG (bZ (cO (fL (ak (aj 2) au)) (gN 5) (aG (j9 6 (jk (ak (aK jf (ak (aj 0) (ak (aq cB (aj 1) (aj 5)) au))) au))) (jw (oZ 4 rY (ak (cD [none,some 6] (fL (ak (aj 3) au)) (gN 0) cH (gK 0 Ad (ak (aj 1) au))) au)))))) (aY (aj 4))))
def xH:FP:=aQ 7 V5
noncomputable def Mj:SF:=(aG (j9 2 (jk (ak (aj 0) au))) (aG (aW (gK 0 gM (ak (aj 2) (ak (eC (.int 6)) au))) (gN 3)) (aG (bY (bV (aq d8 (aj 3) (eC (.int 2)))) (aG (aW (cD [none,some 2] (fL (ak (aj 1) au)) (gN 0) cH (eY (ak (gK 0 gM (ak (aj 1) (ak (eC (.int 7)) au))) (ak (aq cB (eC (.int 1)) (gK 0 gM (ak (aj 1) (ak (eC (.int 4)) au)))) au)))) (gN 4)) (aG (bY (bV (aq cj (gK 0 gM (ak (aj 2) (ak (eC (.int 8)) au))) (eC (.int 7)))) (aW (cD [none,none] (bQ (aj 4)) (gT 2 (bL (gN 0) (bL (gN 1) dD))) cH (eY (ak (aq cB (aq bU (aj 0) (aq gJ (eC (.int 10)) (eC (.int 11)))) (eC (.int 1))) (ak (aq bU (aj 1) (aq gJ (eC (.int 10)) (eC (.int 11)))) au)))) (gN 4)) bW) (aY (eY (ak (eC (.str "shares")) (ak (cD [none,none] (bQ (aj 4)) (gT 2 (bL (gN 0) (bL (gN 1) dD))) cH (aK kW (ak (aj 0) (ak (aj 1) au)))) au)))))) bW) (aG (bY (bV (aq cj (aj 3) (eC (.int 2)))) (aY (eY (ak (eC (.str "middle")) (ak (aq cB (eC (.int 1)) (gK 0 gM (ak (aj 2) (ak (aj 1) au)))) au)))) bW) (aY (aq aB (nu [.tup [.str "least"],.tup [.str "greatest"],.tup [.str "product"]]) (aq fD (aj 3) (eC (.int 3)))))))))
def vf:FP:=aQ 5 Mj
noncomputable def V6:SF:=(aG (j9 1 (jk au)) (aG (bZ (cO (bQ (aj 0)) (gN 2) (aG (aW (eC (.int 0)) (gN 3)) (aG (jE (sI 1) (oO (bV (aq d8 (aj 3) (bF (g1 bK) (ak (aj 1) au)))) (dU (cL (aK fY (ak (aq aB (aj 1) (aj 3)) (ak (aj 2) au)))))) (aW (aq cB (aj 3) (eC (.int 1))) (gN 3))) (jw (oZ 1 nG (ak (aj 3) (ak (aj 2) au)))))))) (aY (aj 1))))
def Ae:FP:=aQ 4 V6
noncomputable def Ml:SF:=(aG (bY (bV (aq cj (aq aB (aj 0) (eC (.int 0))) (eC (.str "shares")))) (aG (aW (eC (.tup [.int 0,.int 1])) (gN 2)) (aG (bZ (cO (qz (ak (aq aB (aj 0) (eC (.int 1))) (ak (aj 1) au))) (gT 2 (bL (gN 3) (bL (gN 4) dD))) (aW (aK jP (ak (aj 2) (ak (aK jQ (ak (aj 3) (ak (aj 4) au))) au))) (gN 2)))) (aY (aj 2)))) bW) (aG (bY (bV (aq cj (aq aB (aj 0) (eC (.int 0))) (eC (.str "product")))) (aG (aW (eC (.tup [.int 1,.int 1])) (gN 2)) (aG (bZ (cO (bQ (aj 1)) (gN 4) (aW (aK jQ (ak (aj 2) (ak (aj 4) au))) (gN 2)))) (aY (aj 2)))) bW) (aG (aW (bF (g1 bK) (ak (aj 1) au)) (gN 5)) (aG (bY (bV (aq cj (aq aB (aj 0) (eC (.int 0))) (eC (.str "greatest")))) (aW (eC (.int 1)) (gN 5)) bW) (aG (bY (bV (aq cj (aq aB (aj 0) (eC (.int 0))) (eC (.str "middle")))) (aW (aq aB (aj 0) (eC (.int 1))) (gN 5)) bW) (aY (aq aB (aK Ae (ak (aj 1) au)) (aq fD (aj 5) (eC (.int 1))))))))))
def nU:FP:=aQ 6 Ml
def aei:SF:=(aY (cD [none,some 1,some 0] (fL (ak (bF (g1 bK) (ak (aq aB (aj 0) (eC (.int 0))) au)) au)) (gN 0) cH (aK nU (ak (aj 1) (ak (cD [none,some 0] (bQ (aj 2)) (gN 0) cH (aq aB (aj 0) (aj 1))) au)))))
def pG:FP:=aQ 2 aei
noncomputable def Mp:SF:=(aG (aW (aK pG (ak (aj 0) (ak (aj 1) au))) (gN 3)) (aG (bZ (cO (bQ (aj 2)) (gN 4) (cO (fL (ak (bF (g1 bK) (ak (aj 3) au)) au)) (gN 5) (bY (oO (bV (aq (fQ not) (aj 5) (aj 2))) (cL (aK fY (ak (aq aB (aj 3) (aj 4)) (ak (aq aB (aj 3) (aj 5)) au))))) (aY (eC (.bl false))) bW)))) (aY (eC (.bl true)))))
def jz:FP:=aQ 6 Mp
noncomputable def Mq:SF:=(aG (aW (aK pG (ak (aj 0) (ak (aj 1) au))) (gN 3)) (aG (j9 4 (jk au)) (aG (bZ (cO (fL (ak (bF (g1 bK) (ak (aj 3) au)) au)) (gN 5) (aG (aW (eC (.int 0)) (gN 6)) (aG (jE (sI 4) (oO (bV (aq d8 (aj 6) (bF (g1 bK) (ak (aj 4) au)))) (dU (cL (aK fY (ak (aq aB (aj 3) (aq aB (aj 4) (aj 6))) (ak (aq aB (aj 3) (aj 5)) au)))))) (aW (aq cB (aj 6) (eC (.int 1))) (gN 6))) (jw (oZ 4 nG (ak (aj 6) (ak (aj 5) au)))))))) (aY (ur (aj 4) uo (uq (aj 2)))))))
def vg:FP:=aQ 7 Mq
noncomputable def Mr:SF:=(aG (bY (f9 (dU (cL (iK .tuple (aj 0)))) (bV (aq dO (bF (g1 bK) (ak (aj 0) au)) (eC (.int 2))))) (aY (eC (.bl false))) bW) (aG (bZ (cO (bQ (aj 0)) (gN 1) (bY (f9 (dU (cL (iK .int (aj 1)))) (cL (iK .bool (aj 1)))) (aY (eC (.bl false))) bW))) (aY (lC (aq wu (aq aB (aj 0) (eC (.int 1))) (eC (.int 0))) (aq cj (aK vd (ak (aq aB (aj 0) (eC (.int 0))) (ak (aq aB (aj 0) (eC (.int 1))) au))) (eC (.int 1)))))))
def sS:FP:=aQ 2 Mr
def aej:SF:=(aG (uN 4 [none] (bQ (aj 0)) (gN 0) cH (bF (g1 lD) (ak (aj 0) au))) (aG (uK 4 (qy 1) (qy 2) (aj 3)) (DP 4 (aY (aj 4)))))
def kY:FP:=aQ 5 aej
noncomputable def Ms:SF:=(aG (bY (f9 (dU (cL (iK .tuple (aj 5)))) (f9 (bV (aq dO (bF (g1 bK) (ak (aj 5) au)) (eC (.int 2)))) (dU (cL (bF (g1 gA) (ak (cD [none] (bQ (aj 5)) (gN 0) cH (aK sS (ak (aj 0) au))) au)))))) (aY (eC (.bl false))) bW) (aG (aW (aj 5) (gT 2 (bL (gN 6) (bL (gN 7) dD)))) (aG (aW (aq aB (aq aB (aj 0) (aj 3)) (aj 4)) (gN 8)) (aG (bY (f9 (cL (aK fY (ak (aj 6) (ak (eC (.tup [.int 0,.int 1])) au)))) (f9 (cL (aK fY (ak (eC (.tup [.int 1,.int 1])) (ak (aj 7) au)))) (f9 (cL (aK fY (ak (aj 8) (ak (aj 6) au)))) (cL (aK fY (ak (aj 7) (ak (aj 8) au))))))) (aY (eC (.bl false))) bW) (aG (aW (aK vg (ak (aj 0) (ak (aj 1) (ak (aj 2) au)))) (gN 9)) (aG (bZ (cO (bQ (jk (ak (aj 6) (ak (aj 7) (ak (aj 8) au))))) (gN 10) (bY (dU (cL (aK jz (ak (aK kY (ak (aj 0) (ak (aj 3) (ak (aj 4) (ak (aj 10) au))))) (ak (aj 1) (ak (aj 9) au)))))) (aY (eC (.bl false))) bW))) (aG (bZ (cO (bQ (nu [.tup [.int 1,.int 2],.tup [.int 9,.int 10],.tup [.int 999999,.int 1000000]])) (gN 11) (aG (aW (aK jQ (ak (aj 6) (ak (aj 11) au))) (gN 12)) (aG (aW (aK jP (ak (aj 7) (ak (aK jQ (ak (aK jP (ak (eC (.tup [.int 1,.int 1])) (ak (eY (ak (aq fD (eC (.int 0)) (aq aB (aj 7) (eC (.int 0)))) (ak (aq aB (aj 7) (eC (.int 1))) au))) au))) (ak (eY (ak (aq fD (aq aB (aj 11) (eC (.int 1))) (aq aB (aj 11) (eC (.int 0)))) (ak (aq aB (aj 11) (eC (.int 1))) au))) au))) au))) (gN 13)) (cO (bQ (jk (ak (eY (ak (aj 6) (ak (eC (.tup [.int 0,.int 1])) (ak (aj 12) au)))) (ak (eY (ak (aj 7) (ak (eC (.tup [.int 1,.int 1])) (ak (aj 13) au)))) au)))) (gT 3 (bL (gN 14) (bL (gN 15) (bL (gN 10) dD)))) (aG (aW (aK kY (ak (aj 0) (ak (aj 3) (ak (aj 4) (ak (aj 10) au))))) (gN 16)) (bY (oO (bV (aq dO (aj 14) (aj 15))) (cL (aK jz (ak (aj 16) (ak (aj 1) (ak (aj 9) au)))))) (aY (eC (.bl false))) bW))))))) (aY (eC (.bl true))))))))))
def Af:FP:=aQ 17 Ms
noncomputable def V7:SF:=(aG (aW (aK jf (ak (aj 0) (ak (eC (.int 0)) au))) (gN 1)) (aG (aW (aq cB (eC (.int 1)) (aq dR (aj 1) (eC (.int 4)))) (gN 2)) (aG (aW (aq cB (eC (.int 1)) (aq dR (aq fU (aj 1) (eC (.int 4))) (eC (.int 12)))) (gN 3)) (aG (aW (aK xH (ak (aj 0) (ak (eC (.int 1)) (ak (aj 2) (ak (aj 3) au))))) (gN 4)) (aG (aW (aK vf (ak (aK jf (ak (aj 0) (ak (eC (.int 5)) au))) (ak (aj 2) au))) (gN 5)) (aG (aW (aq dR (aq fU (aj 1) (eC (.int 48))) (aq cB (aj 3) (eC (.int 1)))) (gN 6)) (aG (aW (cD [none] (bQ (aj 4)) (gN 0) cH (bF (g1 lD) (ak (aj 0) au))) (gN 7)) (aG (bZ (cO (bQ (nu [.int 0,.int 1,.int 2,.int 0])) (gN 8) (aG (aW (aq dR (aK jf (ak (aj 0) (ak (aq cB (eC (.int 6)) (aj 8)) au))) (aj 2)) (gN 9)) (aG (aW (aq dR (aq fU (aK jf (ak (aj 0) (ak (aq cB (eC (.int 6)) (aj 8)) au))) (eC (.int 4))) (aj 3)) (gN 10)) (aG (aW (aK xu (ak (aj 7) (ak (aj 5) (ak (aj 6) (ak (aj 9) (ak (aj 10) au)))))) (gN 11)) (bY (f9 (dU (cL (aK Af (ak (aj 4) (ak (aj 5) (ak (aj 6) (ak (aj 9) (ak (aj 10) (ak (aj 11) au))))))))) (bV (aq dO (aj 7) (aj 4)))) (aY (eC (.bl false))) bW)))))) (aY (eC (.bl true)))))))))))
def xJ:FP:=aQ 12 V7
end K57
end
section
namespace K57
open PySem L2 BH
local macro_rules | `(tactic| walk_at "1")=>`(tactic| exact λ_ _ _ _ _ _ us hl=>match us,hl with | [_],_=>by kernel_rfl)
local macro_rules | `(tactic| walk_at "2")=>`(tactic| exact λ_ _ _ _ _ _ us hl=>match us,hl with | [_,_],_=>by kernel_rfl)
local macro_rules | `(tactic| walk_at "3")=>`(tactic| exact λ_ _ _ _ _ _ us hl=>match us,hl with | [_,_,_],_=>by kernel_rfl)
local macro_rules | `(tactic| walk_at "4")=>`(tactic| exact λ_ _ _ _ _ _ us hl=>match us,hl with | [_,_,_,_],_=>by kernel_rfl)
local macro_rules | `(tactic| walk_at "5")=>`(tactic| exact λ_ _ _ _ _ _ us hl=>match us,hl with | [_,_,_,_,_],_=>by kernel_rfl)
local macro_rules | `(tactic| walk_at "6")=>`(tactic| exact λ_ _ _ _ _ _ us hl=>match us,hl with | [_,_,_,_,_,_],_=>by kernel_rfl)
local macro_rules | `(tactic| walk_at "s")=>`(tactic| first|refine ac1 (by assumption) ?_ ?_|(refine S6 (by assumption) ?_; exact zm (fX _) (zm (fX _) (zm (fX _) S5)))|(refine S6 (by assumption) ?_; exact zm (fX _) (zm (fX _) S5)))
local macro_rules | `(tactic| walk_at "s")=>`(tactic| with_reducible first|exact bR _|refine cC ?_ ?_|exact dJ|refine cY ?_|exact jc|exact iB _|refine iD ?_ ?_|exact fX _|exact iG|refine wR (by assumption) ?_ ?_|refine oV ?_|refine j8 (js:=?_) ?_ ?_ ?_|refine uG (by assumption) (by assumption) ?_ ?_|refine lE (by assumption) (by assumption) ?_ ?_|refine acQ ?_|refine acP ?_ ?_|exact acO|exact JG|exact T5|exact Jj|exact R8|refine abG ?_ ?_|exact yU _|exact Ue (by assumption)|exact adf (by assumption)|refine aee (js:=?_) (by assumption) ?_ ?_ (λ_ _ _=>?_) (λ_ _ _=>?_) ?_ (by decide)|refine aef (js:=?_) (by assumption) ?_ ?_ (λ_ _ _=>?_) (λ_ _ _=>?_) (λ_ _ _=>?_) ?_ (by decide)|exact JH (by assumption) (by assumption)|refine abI ?_ ?_ ?_|refine SX (by assumption) _ ?_|refine aby ?_|refine abH ?_|refine abN (by assumption) ?_ ?_ ?_|exact ud _|refine Sd ?_|refine S9 ?_|refine uy (by assumption) ?_|refine adz (by assumption) ?_|exact abK|refine abL ?_|exact uH (by decide)|refine S7 ?_|refine S8 (js:=?_) ?_ ?_ ?_ ?_|refine m7 ?_ ?_ ?_|exact m5|refine aed (by assumption) (λ_ _ _=>?_)|refine abX _ ?_|refine ace _ _ ?_|refine ab9 _ ?_ ?_|refine abZ _ ?_ ?_|refine abF ?_ ?_|refine oR ?_|refine Jl ?_ ?_|refine um ?_|refine aec (by assumption) ?_|refine acY (by assumption) ?_|refine wN (by assumption) ?_ ?_|refine JK (by assumption) ?_|refine ac2 _ ?_|refine T7 (by assumption) ?_ ?_ ?_ ?_ ?_ ?_ ?_|refine wO (by assumption) ?_ ?_|refine x_eq (by assumption) ?_ ?_|refine x_ge (by assumption) ?_ ?_|refine acX (by assumption) ?_ ?_|refine acV (by assumption) ?_ ?_|refine ad8 _ ?_ ?_|refine x_len (by assumption) ?_|refine x_lt (by assumption) ?_ ?_|refine ac0 (by assumption) ?_|refine acZ (by assumption) ?_|refine wQ (by assumption) ?_ ?_|refine acT (by assumption) ?_ ?_|refine T6 (by assumption) ?_ ?_|refine T8 ?_|refine acW (by assumption) ?_ ?_|refine acU (by assumption) ?_ ?_|refine ad4 (by assumption) ?_|refine acS (by assumption) ?_ ?_)
local macro_rules | `(tactic| walk_at "t")=>`(tactic| ((try dsimp only[jM]); repeat' walk_at "s"))
section
variable {P:Program}{w:World}{K:FZ}{mg:Str->Option Value}{base:Heap}{cl:Str->Addr}
theorem aek(a:At K mg "_law_are_best" LK) (M:Nm mg) (Mt:aM P w K mg base 5 "_law_of_things" (["_law_book_here", "_law_rule_here"]:List Str) (aP K cl 2 pG)) (pH:aM P w K mg base 1 "_law_below" (["_law_one", "_law_other"]:List Str) (aP K cl 2 fY)):aM P w K mg base 6 "_law_are_best" (["_law_book_here", "_law_rule_here", "_law_things"]:List Str) (aP K cl 3 jz):=by
 have S:=fS (["_law_book_here", "_law_rule_here", "_law_things", "_law_worths", "_law_thing", "_law_other"]:List Str) (["_law_book_here", "_law_rule_here", "_law_things"]:List Str) (bx LK)
 exact a.cN S (cl:=cl) (by decide) (by walk_at "3") (λf cdv A outer s H E hr=>⟨_,(bf (cF 3 S.nd (pc1 (E:=E) Mt hr bN (aA (ao 0) (aA (ao 1) aH)))) (bf (PS.jg (jC PassesOwn.never rfl (gC (ao 2)) (cQ 4 S.nd) (aZ (jC PassesOwn.never rfl (qx M.pF (aA (eE gw M.gD (aA (ao 3) aH)) aH)) (cQ 5 S.nd) (aZ (dg (PW.pt (BR (dZ (aa7 hr.units) (ao 5) (ao 2) (by with_unfolding_all rfl)) (BP (eV (eF pH hr (aA (bD (ao 3) (ao 4)) (aA (bD (ao 3) (ao 5)) aH))) (by intro _; rfl))))) (aZ (bJ iU)) c7)))))) (aZ (bJ iU)))),λt hK hx=>by delta Mp; walk_at "t"⟩)
theorem ael(a:At K mg "_law_below" Lx) (M:Nm mg):aM P w K mg base 1 "_law_below" (["_law_one", "_law_other"]:List Str) (aP K cl 2 fY):=by
 have S:=fS (["_law_one", "_law_other"]:List Str) (["_law_one", "_law_other"]:List Str) (bx Lx)
 exact a.cN S (cl:=cl) (by decide) (by walk_at "2") (λf cdv A outer s H E hr=>⟨_,(aZ (bJ (lQ (p8 hr.units) (bC eX (bD (ao 0) aL) (bD (ao 1) aL)) (bC eX (bD (ao 1) aL) (bD (ao 0) aL)) (dw _)))),λt hK hx=>by delta Mi; walk_at "t"⟩)
theorem aem(a:At K mg "_law_book" Fi) (M:Nm mg) (xK:aM P w K mg base 1 "_law_cell" (["_law_script", "_law_k"]:List Str) (aP K cl 2 jf)) (aen:aM P w K mg base 3 "_law_worth" (["_law_pile"]:List Str) (qm K 1 0 Ad)):aM P w K mg base 4 "_law_book" (["_law_script", "_law_start", "_law_lists", "_law_many"]:List Str) (aP K cl 4 xH):=by
 have S:=fS (["_law_script", "_law_start", "_law_lists", "_law_many", "_law_book_here", "_law_place", "_law_pile"]:List Str) (["_law_script", "_law_start", "_law_lists", "_law_many"]:List Str) (bx Fi)
 exact a.cN S (cl:=cl) (by decide) (by walk_at "4") (λf cdv A outer s H E hr=>⟨_,(bf (cF 4 S.nd (rF aH)) (bf (PS.jg (jC PassesOwn.never rfl (qx M.pF (aA (ao 2) aH)) (cQ 5 S.nd) (bf (wU 6 S.nd rfl (rF (aA (eF xK hr (aA (ao 0) (aA (bC iJ (ao 1) (ao 5)) aH))) aH))) (aZ (psE (HY PySem.F.plainAttrs_list PySem.F.slot_list_append PySem.F.type_list_append Ib (ao 4) (oF (jZ (sc:=bx Fi) (No:=(["_law_script", "_law_start", "_law_lists", "_law_many", "_law_book_here", "_law_place", "_law_pile"]:List Str)) (N:=(["_law_thing", "_law_pile"]:List Str)) (src:=[none,some 6]) (g:=(dW 0)) rfl rfl ⟨by rfl,by decide +kernel,by decide +kernel,by decide +kernel,by rfl,by decide +kernel⟩ rfl (qx M.pF (aA (ao 3) aH)) (λC s H ex=>(cQ 0 (show List.Nodup (["_law_thing", "_law_pile"]:List Str) by decide +kernel))) (λC s H ex=>(eF aen hr (aA (eO 1) aH)))) aH))))))) (aZ (bJ (ao 4))))),λt hK hx=>by delta V5; walk_at "t"⟩)
theorem aeo(a:At K mg "_law_by" Lw) (M:Nm mg) (vm:aM P w K mg base 2 "_law_frac" (["_law_top", "_law_bottom"]:List Str) (aP K cl 2 kW)):aM P w K mg base 3 "_law_by" (["_law_one", "_law_other"]:List Str) (aP K cl 2 jQ):=by
 have S:=fS (["_law_one", "_law_other"]:List Str) (["_law_one", "_law_other"]:List Str) (bx Lw)
 exact a.cN S (cl:=cl) (by decide) (by walk_at "2") (λf cdv A outer s H E hr=>⟨_,(aZ (bJ (pc1 (E:=E) vm hr bN (aA (bC eX (bD (ao 0) aL) (bD (ao 1) aL)) (aA (bC eX (bD (ao 0) aL) (bD (ao 1) aL)) aH))))),λt hK hx=>by delta Mh; walk_at "t"⟩)
theorem aep(a:At K mg "_law_cell" Lk) (M:Nm mg):aM P w K mg base 1 "_law_cell" (["_law_script", "_law_k"]:List Str) (aP K cl 2 jf):=by
 have S:=fS (["_law_script", "_law_k", "_law_cell_here", "_law_number", "_law_found", "_law_turn"]:List Str) (["_law_script", "_law_k"]:List Str) (bx Lk)
 exact a.cN S (cl:=cl) (by decide) (by walk_at "2") (λf cdv A outer s H E hr=>⟨_,(bf (cF 2 S.nd aL) (bf (dg (dZ (p8 hr.units) (ao 1) (eE gw M.gD (aA (ao 0) aH)) (dw _)) (aZ (cF 2 S.nd (bD (ao 0) (ao 1)))) c7) (bf (dg (dZ HD (ao 2) (bC rD aL aL) (dw _)) (aZ (bJ (bC lO (bC oE (ao 2) (bC rD aL aL)) (bC rD aL aL)))) c7) (bf (cF 3 S.nd (bC lO (bC iJ (bC iJ (bC eX (ao 2) aL) (bC eX (ao 1) aL)) aL) aL)) (bf (cF 4 S.nd aL) (bf (PS.jg (jC PassesOwn.never rfl (qx M.pF (aA aL aH)) (cQ 5 S.nd) (bf (cF 3 S.nd (bC lO (bC iJ (bC iJ (bC eX (ao 3) (ao 3)) (bC eX aL (ao 5))) aL) aL)) (aZ (cF 4 S.nd (bC iJ (bC eX (ao 4) aL) (bC lO (bC eX (ao 3) (ao 3)) aL))))))) (aZ (bJ (ao 4))))))))),λt hK hx=>by delta Ma; walk_at "t"⟩)
theorem aer(a:At K mg "_law_falling" Lz) (M:Nm mg) (pH:aM P w K mg base 1 "_law_below" (["_law_one", "_law_other"]:List Str) (aP K cl 2 fY)):aM P w K mg base 2 "_law_falling" (["_law_worths"]:List Str) (aP K cl 1 Ae):=by
 have S:=fS (["_law_worths", "_law_found", "_law_worth_here", "_law_place"]:List Str) (["_law_worths"]:List Str) (bx Lz)
 exact a.cN S (cl:=cl) (by decide) (by walk_at "1") (λf cdv A outer s H E hr=>⟨_,(bf (cF 1 S.nd (rF aH)) (bf (PS.jg (jC PassesOwn.never rfl (gC (ao 0)) (cQ 2 S.nd) (bf (cF 3 S.nd aL) (bf (BZ PassesOwn.never (PW.pt (BR (dZ (p8 hr.units) (ao 3) (eE gw M.gD (aA (ao 1) aH)) (dw _)) (BP (gk (eV (eF pH hr (aA (bD (ao 1) (ao 3)) (aA (ao 2) aH))) (by intro _; rfl)))))) (aZ (cF 3 S.nd (bC iJ (ao 3) aL)))) (aZ (psE (HY PySem.F.plainAttrs_list PySem.F.slot_list_insert PySem.F.type_list_insert Vj (ao 1) (oF (ao 3) (oF (ao 2) aH))))))))) (aZ (bJ (ao 1))))),λt hK hx=>by delta V6; walk_at "t"⟩)
theorem aes(a:At K mg "_law_few" LQ) (M:Nm mg) (Mt:aM P w K mg base 5 "_law_of_things" (["_law_book_here", "_law_rule_here"]:List Str) (aP K cl 2 pG)) (pH:aM P w K mg base 1 "_law_below" (["_law_one", "_law_other"]:List Str) (aP K cl 2 fY)):aM P w K mg base 6 "_law_few" (["_law_book_here", "_law_rule_here", "_law_count"]:List Str) (aP K cl 3 vg):=by
 have S:=fS (["_law_book_here", "_law_rule_here", "_law_count", "_law_worths", "_law_found", "_law_thing", "_law_place"]:List Str) (["_law_book_here", "_law_rule_here", "_law_count"]:List Str) (bx LQ)
 exact a.cN S (cl:=cl) (by decide) (by walk_at "3") (λf cdv A outer s H E hr=>⟨_,(bf (cF 3 S.nd (pc1 (E:=E) Mt hr bN (aA (ao 0) (aA (ao 1) aH)))) (bf (cF 4 S.nd (rF aH)) (bf (PS.jg (jC PassesOwn.never rfl (qx M.pF (aA (eE gw M.gD (aA (ao 3) aH)) aH)) (cQ 5 S.nd) (bf (cF 6 S.nd aL) (bf (BZ PassesOwn.never (PW.pt (BR (dZ (p8 hr.units) (ao 6) (eE gw M.gD (aA (ao 4) aH)) (dw _)) (BP (gk (eV (eF pH hr (aA (bD (ao 3) (bD (ao 4) (ao 6))) (aA (bD (ao 3) (ao 5)) aH))) (by intro _; rfl)))))) (aZ (cF 6 S.nd (bC iJ (ao 6) aL)))) (aZ (psE (HY PySem.F.plainAttrs_list PySem.F.slot_list_insert PySem.F.type_list_insert Vj (ao 4) (oF (ao 6) (oF (ao 5) aH))))))))) (aZ (bJ (Q6 Sy (ao 4) QZ (Q0 (ao 2)))))))),λt hK hx=>by delta Mq; walk_at "t"⟩)
theorem aeu(a:At K mg "_law_frac" Lr) (M:Nm mg) (Mv:aM P w K mg base 1 "_law_shared" (["_law_one", "_law_other"]:List Str) (aP K cl 2 vd)):aM P w K mg base 2 "_law_frac" (["_law_top", "_law_bottom"]:List Str) (aP K cl 2 kW):=by
 have S:=fS (["_law_top", "_law_bottom", "_law_by_here"]:List Str) (["_law_top", "_law_bottom"]:List Str) (bx Lr)
 exact a.cN S (cl:=cl) (by decide) (by walk_at "2") (λf cdv A outer s H E hr=>⟨_,(bf (cF 2 S.nd (pc1 (E:=E) Mv hr bN (aA (ao 0) (aA (ao 1) aH)))) (bf (dg (dZ (p8 hr.units) (ao 1) aL (dw _)) (aZ (cF 2 S.nd (bC oE aL (ao 2)))) c7) (aZ (bJ (jL (aA (bC oN (ao 0) (ao 2)) (aA (bC oN (ao 1) (ao 2)) aH))))))),λt hK hx=>by delta Mg; walk_at "t"⟩)
theorem aev(a:At K mg "_law_good" Fo) (M:Nm mg) (XT:mD K) (aew:aM P w K mg base 6 "_law_few" (["_law_book_here", "_law_rule_here", "_law_count"]:List Str) (aP K cl 3 vg)) (pH:aM P w K mg base 1 "_law_below" (["_law_one", "_law_other"]:List Str) (aP K cl 2 fY)) (Ag:aM P w K mg base 3 "_law_by" (["_law_one", "_law_other"]:List Str) (aP K cl 2 jQ)) (Fw:aM P w K mg base 3 "_law_plus" (["_law_one", "_law_other"]:List Str) (aP K cl 2 jP)) (V8:aM P w K mg base 6 "_law_are_best" (["_law_book_here", "_law_rule_here", "_law_things"]:List Str) (aP K cl 3 jz)) (V9:aM P w K mg base 1 "_law_moved" (["_law_book_here", "_law_place", "_law_thing", "_law_worth_here"]:List Str) (aP K cl 4 kY)) (aex:aM P w K mg base 2 "_law_is_fraction" (["_law_thing"]:List Str) (aP K cl 1 sS)):aM P w K mg base 7 "_law_good" (["_law_book_here", "_law_rule_here", "_law_count", "_law_place", "_law_thing", "_law_found"]:List Str) (aP K cl 6 Af):=by
 have S:=fS (["_law_book_here", "_law_rule_here", "_law_count", "_law_place", "_law_thing", "_law_found", "_law_low", "_law_high", "_law_here", "_law_things", "_law_worth_here", "_law_part", "_law_less", "_law_more", "_law_edge", "_law_end", "_law_bent"]:List Str) (["_law_book_here", "_law_rule_here", "_law_count", "_law_place", "_law_thing", "_law_found"]:List Str) (bx Fo)
 exact a.cN S (cl:=cl) (by decide) (by walk_at "6") (λf cdv A outer s H E hr=>⟨_,(bf (dg (PW.pt (jX (gk (eV (nA XT.o .tuple (ao 5) M.nR M.Ft) (by intro _; rfl))) (jX (dZ (oM hr.units) (eE gw M.gD (aA (ao 5) aH)) aL (dw _)) (mQ (gk (eV (eE (yQ rfl) M.Ab (aA (jZ (sc:=bx Fo) (No:=(["_law_book_here", "_law_rule_here", "_law_count", "_law_place", "_law_thing", "_law_found", "_law_low", "_law_high", "_law_here", "_law_things", "_law_worth_here", "_law_part", "_law_less", "_law_more", "_law_edge", "_law_end", "_law_bent"]:List Str)) (N:=(["_law_one"]:List Str)) (src:=[none]) (g:=(dW 0)) rfl rfl ⟨by rfl,by decide +kernel,by decide +kernel,by decide +kernel,by rfl,by decide +kernel⟩ rfl (gC (ao 5)) (λC s H ex=>(cQ 0 (show List.Nodup (["_law_one"]:List Str) by decide +kernel))) (λC s H ex=>(eF aex hr (aA (ao 0) aH)))) aH)) (by intro _; rfl))))))) (aZ (bJ iU)) c7) (bf (vQ (ao 5) (mU rfl (gG (cQ 6 S.nd) (gG (cQ 7 S.nd) mR)))) (bf (cF 8 S.nd (bD (bD (ao 0) (ao 3)) (ao 4))) (bf (dg (PW.pt (jX (eV (pc1 (E:=E) pH hr bN (aA (ao 6) (aA (qw (G:=aJ K) (Ts:=[.int 0,.int 1]) (by kernel_rfl)) aH))) (by intro _; rfl)) (jX (eV (pc1 (E:=E) pH hr bN (aA (qw (G:=aJ K) (Ts:=[.int 1,.int 1]) (by kernel_rfl)) (aA (ao 7) aH))) (by intro _; rfl)) (jX (eV (pc1 (E:=E) pH hr bN (aA (ao 8) (aA (ao 6) aH))) (by intro _; rfl)) (mQ (eV (pc1 (E:=E) pH hr bN (aA (ao 7) (aA (ao 8) aH))) (by intro _; rfl))))))) (aZ (bJ iU)) c7) (bf (cF 9 S.nd (pc1 (E:=E) aew hr bN (aA (ao 0) (aA (ao 1) (aA (ao 2) aH))))) (bf (PS.jg (jC PassesOwn.never rfl (gC (rF (aA (ao 6) (aA (ao 7) (aA (ao 8) aH))))) (cQ 10 S.nd) (aZ (dg (gk (eV (eF V8 hr (aA (eF V9 hr (aA (ao 0) (aA (ao 3) (aA (ao 4) (aA (ao 10) aH))))) (aA (ao 1) (aA (ao 9) aH)))) (by intro _; rfl))) (aZ (bJ iU)) c7)))) (bf (PS.jg (jC PassesOwn.never rfl (gC (DN (G:=aJ K) (Ts:=[.tup [.int 1,.int 2],.tup [.int 9,.int 10],.tup [.int 999999,.int 1000000]]) (by kernel_rfl))) (cQ 11 S.nd) (bf (cF 12 S.nd (eF Ag hr (aA (ao 6) (aA (ao 11) aH)))) (bf (cF 13 S.nd (eF Fw hr (aA (ao 7) (aA (eF Ag hr (aA (eF Fw hr (aA (qw (G:=aJ K) (Ts:=[.int 1,.int 1]) (by kernel_rfl)) (aA (jL (aA (bC oE aL (bD (ao 7) aL)) (aA (bD (ao 7) aL) aH))) aH))) (aA (jL (aA (bC oE (bD (ao 11) aL) (bD (ao 11) aL)) (aA (bD (ao 11) aL) aH))) aH))) aH)))) (aZ (jC PassesOwn.never rfl (gC (rF (aA (jL (aA (ao 6) (aA (qw (G:=aJ K) (Ts:=[.int 0,.int 1]) (by kernel_rfl)) (aA (ao 12) aH)))) (aA (jL (aA (ao 7) (aA (qw (G:=aJ K) (Ts:=[.int 1,.int 1]) (by kernel_rfl)) (aA (ao 13) aH)))) aH)))) (mU rfl (gG (cQ 14 S.nd) (gG (cQ 15 S.nd) (gG (cQ 10 S.nd) mR)))) (bf (cF 16 S.nd (eF V9 hr (aA (ao 0) (aA (ao 3) (aA (ao 4) (aA (ao 10) aH)))))) (aZ (dg (PW.pt (BR (dZ (oM hr.units) (ao 14) (ao 15) (dw _)) (BP (eV (eF V8 hr (aA (ao 16) (aA (ao 1) (aA (ao 9) aH)))) (by intro _; rfl))))) (aZ (bJ iU)) c7))))))))) (aZ (bJ iU))))))))),λt hK hx=>by delta Ms; walk_at "t"⟩)
theorem aey(a:At K mg "_law_is_fraction" LR) (M:Nm mg) (XT:mD K) (Mv:aM P w K mg base 1 "_law_shared" (["_law_one", "_law_other"]:List Str) (aP K cl 2 vd)):aM P w K mg base 2 "_law_is_fraction" (["_law_thing"]:List Str) (aP K cl 1 sS):=by
 have S:=fS (["_law_thing", "_law_number"]:List Str) (["_law_thing"]:List Str) (bx LR)
 exact a.cN S (cl:=cl) (by decide) (by walk_at "1") (λf cdv A outer s H E hr=>⟨_,(bf (dg (PW.pt (jX (gk (eV (nA XT.o .tuple (ao 0) M.nR M.Ft) (by intro _; rfl))) (mQ (dZ (oM hr.units) (eE gw M.gD (aA (ao 0) aH)) aL (dw _))))) (aZ (bJ iU)) c7) (bf (PS.jg (jC PassesOwn.never rfl (gC (ao 0)) (cQ 1 S.nd) (aZ (dg (PW.pt (jX (gk (eV (nA XT.o .int (ao 1) M.nR M.V0) (by intro _; rfl))) (mQ (eV (nA XT.o .bool (ao 1) M.nR M.VP) (by intro _; rfl))))) (aZ (bJ iU)) c7)))) (aZ (bJ (pP (lQ ZL (bD (ao 0) aL) aL (dw _)) (qZ (lQ (iY hr.units) (pc1 (E:=E) Mv hr bN (aA (bD (ao 0) aL) (aA (bD (ao 0) aL) aH))) aL (dw _)))))))),λt hK hx=>by delta Mr; walk_at "t"⟩)
theorem aez(a:At K mg "_law_made" LC) (M:Nm mg) (aeA:aM P w K mg base 2 "_law_falling" (["_law_worths"]:List Str) (aP K cl 1 Ae)) (Fw:aM P w K mg base 3 "_law_plus" (["_law_one", "_law_other"]:List Str) (aP K cl 2 jP)) (Ag:aM P w K mg base 3 "_law_by" (["_law_one", "_law_other"]:List Str) (aP K cl 2 jQ)):aM P w K mg base 4 "_law_made" (["_law_rule_here", "_law_worths"]:List Str) (aP K cl 2 nU):=by
 have S:=fS (["_law_rule_here", "_law_worths", "_law_total", "_law_weight", "_law_worth_here", "_law_place"]:List Str) (["_law_rule_here", "_law_worths"]:List Str) (bx LC)
 exact a.cN S (cl:=cl) (by decide) (by walk_at "2") (λf cdv A outer s H E hr=>⟨_,(bf (dg (dZ (iY hr.units) (bD (ao 0) aL) iu (dw _)) (bf (cF 2 S.nd (qw (G:=aJ K) (Ts:=[.int 0,.int 1]) (by kernel_rfl))) (bf (PS.jg (jC PassesOwn.never rfl (RZ M.V2 (aA (bD (ao 0) aL) (aA (ao 1) aH))) (mU rfl (gG (cQ 3 S.nd) (gG (cQ 4 S.nd) mR))) (aZ (cF 2 S.nd (eF Fw hr (aA (ao 2) (aA (eF Ag hr (aA (ao 3) (aA (ao 4) aH))) aH))))))) (aZ (bJ (ao 2))))) c7) (bf (dg (dZ (iY hr.units) (bD (ao 0) aL) iu (dw _)) (bf (cF 2 S.nd (qw (G:=aJ K) (Ts:=[.int 1,.int 1]) (by kernel_rfl))) (bf (PS.jg (jC PassesOwn.never rfl (gC (ao 1)) (cQ 4 S.nd) (aZ (cF 2 S.nd (eF Ag hr (aA (ao 2) (aA (ao 4) aH))))))) (aZ (bJ (ao 2))))) c7) (bf (cF 5 S.nd (eE gw M.gD (aA (ao 1) aH))) (bf (dg (dZ (iY hr.units) (bD (ao 0) aL) iu (dw _)) (aZ (cF 5 S.nd aL)) c7) (bf (dg (dZ (iY hr.units) (bD (ao 0) aL) iu (dw _)) (aZ (cF 5 S.nd (bD (ao 0) aL))) c7) (aZ (bJ (bD (pc1 (E:=E) aeA hr bN (aA (ao 1) aH)) (bC oE (ao 5) aL))))))))),λt hK hx=>by delta Ml; walk_at "t"⟩)
theorem aeB(a:At K mg "_law_moved" Fj) (M:Nm mg):aM P w K mg base 1 "_law_moved" (["_law_book_here", "_law_place", "_law_thing", "_law_worth_here"]:List Str) (aP K cl 4 kY):=by
 have S:=fS (["_law_book_here", "_law_place", "_law_thing", "_law_worth_here", "_law_found"]:List Str) (["_law_book_here", "_law_place", "_law_thing", "_law_worth_here"]:List Str) (bx Fj)
 exact a.cN S (cl:=cl) (by decide) (by walk_at "4") (λf cdv A outer s H E hr=>⟨_,(bf (Cy (i:=4) (sc:=bx Fj) (No:=(["_law_book_here", "_law_place", "_law_thing", "_law_worth_here", "_law_found"]:List Str)) (N:=(["_law_worths"]:List Str)) (src:=[none]) (g:=(dW 0)) S.nd rfl (Or.inl rfl) rfl rfl ⟨by rfl,by decide +kernel,by decide +kernel,by decide +kernel,by rfl,by decide +kernel⟩ rfl (gC (ao 0)) (λC s H ex=>(cQ 0 (show List.Nodup (["_law_worths"]:List Str) by decide +kernel))) (λC s H ex=>(Uh Rk M.Ac (aA (ao 0) aH)))) (bf (vQ (ao 3) (Hr (bD (ao 4) (ao 1)) (ao 2) set_list)) (aZ (bJ (ao 4))))),λt hK hx=>(iD (adx 4 (uy hK (bR 0)) (sy (by decide)) (uH (js:=[0]) (by decide)) iG (λt1 h1 k1=>(fX 0)) (λt1 h1 k1=>(T9 (h1.trans hK) (cC (bR 0) dJ)))) (iD (adn hK 4 (bR 3) (Ui 1) (Ui 2)) (ado 4 (oV (bR 4)))))⟩)
theorem aeC(a:At K mg "_law_of_things" Aa) (M:Nm mg) (aeD:aM P w K mg base 4 "_law_made" (["_law_rule_here", "_law_worths"]:List Str) (aP K cl 2 nU)):aM P w K mg base 5 "_law_of_things" (["_law_book_here", "_law_rule_here"]:List Str) (aP K cl 2 pG):=by
 have S:=fS (["_law_book_here", "_law_rule_here"]:List Str) (["_law_book_here", "_law_rule_here"]:List Str) (bx Aa)
 exact a.cN S (cl:=cl) (by decide) (by walk_at "2") (λf cdv A outer s H E hr=>⟨_,(aZ (bJ (jZ (sc:=bx Aa) (No:=(["_law_book_here", "_law_rule_here"]:List Str)) (N:=(["_law_thing", "_law_rule_here", "_law_book_here"]:List Str)) (src:=[none,some 1,some 0]) (g:=(dW 0)) rfl rfl ⟨by rfl,by decide +kernel,by decide +kernel,by decide +kernel,by rfl,by decide +kernel⟩ rfl (qx M.pF (aA (eE gw M.gD (aA (bD (eO 0) aL) aH)) aH)) (λC s H ex=>(pgC 0 (show List.Nodup (["_law_thing", "_law_rule_here", "_law_book_here"]:List Str) by decide +kernel) rfl)) (λC s H ex=>(eF aeD hr (aA (eO 1) (aA (jZ (sc:=aaF _ (bx Aa)) (No:=(["_law_thing", "_law_rule_here", "_law_book_here"]:List Str)) (N:=(["_law_worths", "_law_thing"]:List Str)) (src:=[none,some 0]) (g:=(dW 0)) rfl rfl ⟨by rfl,by decide +kernel,by decide +kernel,by decide +kernel,by rfl,by decide +kernel⟩ rfl (gC (eO 2)) (λC s H ex=>(cQ 0 (show List.Nodup (["_law_worths", "_law_thing"]:List Str) by decide +kernel))) (λC s H ex=>(tM tQ (ao 0) (eO 1) (λ_ _=>rfl)))) aH))))))),λt hK hx=>(oV (wL (S9 (cC (x_len hK (cC (wR hK (bR 0) (iB _)) dJ)) dJ)) (sy (by decide)) (uH (js:=[0]) (by decide)) iG (λt1 h1 k1=>(fX 0)) (λt1 h1 k1=>(uG (h1.trans hK) k1 (cY (cY jc)) (cC (bR 1) (cC (wL (uy (h1.trans hK) (bR 2)) (sy (by decide)) (uH (js:=[0]) (by decide)) iG (λt2 h2 k2=>(fX 0)) (λt2 h2 k2=>(wR (h2.trans (h1.trans hK)) (bR 0) (bR 1)))) dJ))))))⟩)
theorem aeE(a:At K mg "_law_plus" Ls) (M:Nm mg) (vm:aM P w K mg base 2 "_law_frac" (["_law_top", "_law_bottom"]:List Str) (aP K cl 2 kW)):aM P w K mg base 3 "_law_plus" (["_law_one", "_law_other"]:List Str) (aP K cl 2 jP):=by
 have S:=fS (["_law_one", "_law_other"]:List Str) (["_law_one", "_law_other"]:List Str) (bx Ls)
 exact a.cN S (cl:=cl) (by decide) (by walk_at "2") (λf cdv A outer s H E hr=>⟨_,(aZ (bJ (pc1 (E:=E) vm hr bN (aA (bC iJ (bC eX (bD (ao 0) aL) (bD (ao 1) aL)) (bC eX (bD (ao 1) aL) (bD (ao 0) aL))) (aA (bC eX (bD (ao 0) aL) (bD (ao 1) aL)) aH))))),λt hK hx=>by delta Fv; walk_at "t"⟩)
theorem aeF(a:At K mg "_law_rule" xG) (M:Nm mg) (pI:aM P w K mg base 1 "_law_take" (["_law_pile", "_law_size"]:List Str) (qm K 2 0 gM)) (vm:aM P w K mg base 2 "_law_frac" (["_law_top", "_law_bottom"]:List Str) (aP K cl 2 kW)):aM P w K mg base 3 "_law_rule" (["_law_cell_here", "_law_lists"]:List Str) (aP K cl 2 vf):=by
 have S:=fS (["_law_cell_here", "_law_lists", "_law_pile", "_law_way", "_law_weights"]:List Str) (["_law_cell_here", "_law_lists"]:List Str) (bx xG)
 exact a.cN S (cl:=cl) (by decide) (by walk_at "2") (λf cdv A outer s H E hr=>⟨_,(bf (wU 2 S.nd rfl (rF (aA (ao 0) aH))) (bf (cF 3 S.nd (pc1 (E:=E) pI hr bN (aA (eO 2) (aA aL aH)))) (bf (dg (dZ (p8 hr.units) (ao 3) aL (dw _)) (bf (Cy (i:=4) (sc:=bx xG) (No:=(["_law_cell_here", "_law_lists", "_law_pile", "_law_way", "_law_weights"]:List Str)) (N:=(["_law_place", "_law_pile"]:List Str)) (src:=[none,some 2]) (g:=(dW 0)) S.nd rfl (Or.inl rfl) rfl rfl ⟨by rfl,by decide +kernel,by decide +kernel,by decide +kernel,by rfl,by decide +kernel⟩ rfl (qx M.pF (aA (ao 1) aH)) (λC s H ex=>(cQ 0 (show List.Nodup (["_law_place", "_law_pile"]:List Str) by decide +kernel))) (λC s H ex=>(jL (aA (eF pI hr (aA (eO 1) (aA aL aH))) (aA (bC iJ aL (eF pI hr (aA (eO 1) (aA aL aH)))) aH))))) (bf (dg (dZ (iY hr.units) (pc1 (E:=E) pI hr bN (aA (eO 2) (aA aL aH))) aL (dw _)) (aZ (Cy (i:=4) (sc:=bx xG) (No:=(["_law_cell_here", "_law_lists", "_law_pile", "_law_way", "_law_weights"]:List Str)) (N:=(["_law_top", "_law_bottom"]:List Str)) (src:=[none,none]) (g:=(vP K 2 (oA (dW 0) (oA (dW 1) vO)))) S.nd rfl (Or.inl rfl) rfl rfl ⟨by rfl,by decide +kernel,by decide +kernel,by decide +kernel,by rfl,by decide +kernel⟩ rfl (gC (ao 4)) (λC s H ex=>(mU rfl (gG (cQ 0 (show List.Nodup (["_law_top", "_law_bottom"]:List Str) by decide +kernel)) (gG (cQ 1 (show List.Nodup (["_law_top", "_law_bottom"]:List Str) by decide +kernel)) mR)))) (λC s H ex=>(jL (aA (bC iJ (bC eX (ao 0) (bC rD aL aL)) aL) (aA (bC eX (ao 1) (bC rD aL aL)) aH)))))) c7) (aZ (bJ (jL (aA iu (aA (jZ (sc:=bx xG) (No:=(["_law_cell_here", "_law_lists", "_law_pile", "_law_way", "_law_weights"]:List Str)) (N:=(["_law_top", "_law_bottom"]:List Str)) (src:=[none,none]) (g:=(vP K 2 (oA (dW 0) (oA (dW 1) vO)))) rfl rfl ⟨by rfl,by decide +kernel,by decide +kernel,by decide +kernel,by rfl,by decide +kernel⟩ rfl (gC (ao 4)) (λC s H ex=>(mU rfl (gG (cQ 0 (show List.Nodup (["_law_top", "_law_bottom"]:List Str) by decide +kernel)) (gG (cQ 1 (show List.Nodup (["_law_top", "_law_bottom"]:List Str) by decide +kernel)) mR)))) (λC s H ex=>(eF vm hr (aA (ao 0) (aA (ao 1) aH))))) aH))))))) c7) (bf (dg (dZ (iY hr.units) (ao 3) aL (dw _)) (aZ (bJ (jL (aA iu (aA (bC iJ aL (pc1 (E:=E) pI hr bN (aA (eO 2) (aA (ao 1) aH)))) aH))))) c7) (aZ (bJ (bD (DN (G:=aJ K) (Ts:=[.tup [.str "least"],.tup [.str "greatest"],.tup [.str "product"]]) (by kernel_rfl)) (bC oE (ao 3) aL)))))))),λt hK hx=>by delta Mj; walk_at "t"⟩)
theorem aeG(a:At K mg "_law_shared" Lp) (M:Nm mg):aM P w K mg base 1 "_law_shared" (["_law_one", "_law_other"]:List Str) (aP K cl 2 vd):=by
 have S:=fS (["_law_one", "_law_other"]:List Str) (["_law_one", "_law_other"]:List Str) (bx Lp)
 exact a.cN S (cl:=cl) (by decide) (by walk_at "2") (λf cdv A outer s H E hr=>⟨_,(bf (PS.jg (BZ PassesOwn.never (dZ (oM hr.units) (ao 1) aL (dw _)) (aZ (Qm (i:=0) (j:=1) rfl S.nd rfl rfl (by decide) rfl rfl (aA (ao 1) (aA (bC lO (ao 0) (ao 1)) aH)) rfl)))) (aZ (bJ (eE Qx M.VN (aA (ao 0) aH))))),λt hK hx=>by delta V3; walk_at "t"⟩)
theorem aeH(a:At K mg "_law_take" Ln) (M:Nm mg):aM P w K mg base 1 "_law_take" (["_law_pile", "_law_size"]:List Str) (qm K 2 0 gM):=by
 have S:=fS (["_law_pile", "_law_size", "_law_digit"]:List Str) (["_law_pile", "_law_size"]:List Str) (bx Ln)
 exact a.Tn 0 S (cl:=λ_=>0) (by decide) (by walk_at "2") (λf cdv A outer s H E hr=>⟨_,(bf (cF 2 S.nd (bC lO (bD (ao 0) aL) (ao 1))) (bf (vQ (bC oN (bD (ao 0) aL) (ao 1)) (Hr (ao 0) aL set_list)) (aZ (bJ (ao 2))))),λt hK hx=>by delta Mf; walk_at "t"⟩)
theorem aeI(a:At K mg "_law_worth" Ly) (M:Nm mg) (pI:aM P w K mg base 1 "_law_take" (["_law_pile", "_law_size"]:List Str) (qm K 2 0 gM)) (vm:aM P w K mg base 2 "_law_frac" (["_law_top", "_law_bottom"]:List Str) (aP K cl 2 kW)):aM P w K mg base 3 "_law_worth" (["_law_pile"]:List Str) (qm K 1 0 Ad):=by
 have S:=fS (["_law_pile", "_law_bottom", "_law_top"]:List Str) (["_law_pile"]:List Str) (bx Ly)
 exact a.Tn 0 S (cl:=cl) (by decide) (by walk_at "1") (λf cdv A outer s H E hr=>⟨_,(bf (cF 1 S.nd (bD (DN (G:=aJ K) (Ts:=[.int 1,.int 2,.int 3,.int 4,.int 6,.int 10,.int 12]) (by kernel_rfl)) (pc1 (E:=E) pI hr bN (aA (ao 0) (aA aL aH))))) (bf (cF 2 S.nd (pc1 (E:=E) pI hr bN (aA (ao 0) (aA (bC iJ (ao 1) aL) aH)))) (bf (dg (dZ (iY hr.units) (pc1 (E:=E) pI hr bN (aA (ao 0) (aA aL aH))) aL (dw _)) (bf (cF 2 S.nd (bC oE (bC iJ (bC eX (ao 2) (bC rD aL aL)) (pc1 (E:=E) pI hr bN (aA (ao 0) (aA aL aH)))) aL)) (aZ (cF 1 S.nd (bC eX (ao 1) (bC rD aL aL))))) c7) (aZ (bJ (pc1 (E:=E) vm hr bN (aA (eE (ZR rfl) M.aeg (aA aL (aA (eE (ZS rfl) M.aeh (aA (ao 1) (aA (ao 2) aH))) aH))) (aA (ao 1) aH)))))))),λt hK hx=>by delta V4; walk_at "t"⟩)
theorem aeJ(a:At K mg "are_weights" Ey) (M:Nm mg) (XT:mD K) (Mw:aM P w K mg base 2 "is_fraction" (["thing"]:List Str) (aP K cl 1 sJ)):aM P w K mg base 3 "are_weights" (["thing", "many"]:List Str) (aP K cl 2 El):=by
 have S:=fS (["thing", "many"]:List Str) (["thing", "many"]:List Str) (bx Ey)
 exact a.cN S (cl:=cl) (by decide) (by walk_at "2") (λf cdv A outer s H E hr=>⟨_,(bf (dg (PW.pt (jX (gk (eV (nA XT.o .list (ao 0) M.nR M.Ac) (by intro _; rfl))) (mQ (dZ (oM hr.units) (eE gw M.gD (aA (ao 0) aH)) (ao 1) (dw _))))) (aZ (bJ iU)) c7) (aZ (bJ (eE (yQ rfl) M.Ab (aA (jZ (sc:=bx Ey) (No:=(["thing", "many"]:List Str)) (N:=(["part"]:List Str)) (src:=[none]) (g:=(dW 0)) rfl rfl ⟨by rfl,by decide +kernel,by decide +kernel,by decide +kernel,by rfl,by decide +kernel⟩ rfl (gC (ao 0)) (λC s H ex=>(cQ 0 (show List.Nodup (["part"]:List Str) by decide +kernel))) (λC s H ex=>(pP (eF Mw hr (aA (ao 0) aH)) (qZ (lQ HD (tM tQ (ao 0) aL (λ_ _=>rfl)) aL (dw _)))))) aH))))),λt hK hx=>by delta Vx; walk_at "t"⟩)
theorem aeK(a:At K mg "are_worths" Ew) (M:Nm mg) (XT:mD K) (aeL:aM P w K mg base 3 "is_worth" (["thing"]:List Str) (aP K cl 1 qO)):aM P w K mg base 4 "are_worths" (["thing", "most"]:List Str) (aP K cl 2 uU):=by
 have S:=fS (["thing", "most"]:List Str) (["thing", "most"]:List Str) (bx Ew)
 exact a.cN S (cl:=cl) (by decide) (by walk_at "2") (λf cdv A outer s H E hr=>⟨_,(bf (dg (PW.pt (jX (gk (eV (nA XT.o .list (ao 0) M.nR M.Ac) (by intro _; rfl))) (mQ (gk (Qv mV mV aL (eE gw M.gD (aA (ao 0) aH)) (ao 1)))))) (aZ (bJ iU)) c7) (aZ (bJ (eE (yQ rfl) M.Ab (aA (jZ (sc:=bx Ew) (No:=(["thing", "most"]:List Str)) (N:=(["part"]:List Str)) (src:=[none]) (g:=(dW 0)) rfl rfl ⟨by rfl,by decide +kernel,by decide +kernel,by decide +kernel,by rfl,by decide +kernel⟩ rfl (gC (ao 0)) (λC s H ex=>(cQ 0 (show List.Nodup (["part"]:List Str) by decide +kernel))) (λC s H ex=>(eF aeL hr (aA (ao 0) aH)))) aH))))),λt hK hx=>by delta Km; walk_at "t"⟩)
theorem aeM(a:At K mg "best_few" Fb) (M:Nm mg) (Mx:aM P w K mg base 8 "need_book_rule_and_count" (["book", "rule", "count"]:List Str) (aP K cl 3 qQ)) (Mz:aM P w K mg base 6 "worths_by" (["book", "rule"]:List Str) (aP K cl 2 lG)) (Ah:aM P w K mg base 4 "falling_places" (["fractions"]:List Str) (aP K cl 1 jH)):aM P w K mg base 9 "best_few" (["book", "rule", "count"]:List Str) (aP K cl 3 uZ):=by
 have S:=fS (["book", "rule", "count", "worths"]:List Str) (["book", "rule", "count"]:List Str) (bx Fb)
 exact a.cN S (cl:=cl) (by decide) (by walk_at "3") (λf cdv A outer s H E hr=>⟨_,(bf (psE (pc1 (E:=E) Mx hr bN (aA (ao 0) (aA (ao 1) (aA (ao 2) aH))))) (bf (wU 3 S.nd rfl (pc1 (E:=E) Mz hr bN (aA (ao 0) (aA (ao 1) aH)))) (aZ (bJ (jZ (sc:=bx Fb) (No:=(["book", "rule", "count", "worths"]:List Str)) (N:=(["thing", "worths"]:List Str)) (src:=[none,some 3]) (g:=(dW 0)) rfl rfl ⟨by rfl,by decide +kernel,by decide +kernel,by decide +kernel,by rfl,by decide +kernel⟩ rfl (gC (Q6 Sy (pc1 (E:=E) Ah hr bN (aA (eO 3) aH)) QZ (Q0 (ao 2)))) (λC s H ex=>(cQ 0 (show List.Nodup (["thing", "worths"]:List Str) by decide +kernel))) (λC s H ex=>(jL (aA (ao 0) (aA (tM tQ (eO 1) (ao 0) (λ_ _=>rfl)) aH))))))))),λt hK hx=>by delta VH; walk_at "t"⟩)
theorem aeN(a:At K mg "best_things" Fe) (M:Nm mg) (aeO:aM P w K mg base 9 "best_few" (["book", "rule", "count"]:List Str) (aP K cl 3 uZ)):aM P w K mg base 10 "best_things" (["book", "rule", "count"]:List Str) (aP K cl 3 Ep):=by
 have S:=fS (["book", "rule", "count"]:List Str) (["book", "rule", "count"]:List Str) (bx Fe)
 exact a.cN S (cl:=cl) (by decide) (by walk_at "3") (λf cdv A outer s H E hr=>⟨_,(aZ (bJ (eE ad1 M.V1 (aA (jZ (sc:=bx Fe) (No:=(["book", "rule", "count"]:List Str)) (N:=(["thing", "worth"]:List Str)) (src:=[none,none]) (g:=(vP K 2 (oA (dW 0) (oA (dW 1) vO)))) rfl rfl ⟨by rfl,by decide +kernel,by decide +kernel,by decide +kernel,by rfl,by decide +kernel⟩ rfl (gC (pc1 (E:=E) aeO hr bN (aA (ao 0) (aA (ao 1) (aA (ao 2) aH))))) (λC s H ex=>(mU rfl (gG (cQ 0 (show List.Nodup (["thing", "worth"]:List Str) by decide +kernel)) (gG (cQ 1 (show List.Nodup (["thing", "worth"]:List Str) by decide +kernel)) mR)))) (λC s H ex=>(ao 0))) aH)))),λt hK hx=>by delta VJ; walk_at "t"⟩)
theorem aeP(a:At K mg "common_bottom" KZ) (M:Nm mg) (Ai:aM P w K mg base 1 "common_divisor" (["one", "other"]:List Str) (aP K cl 2 qL)):aM P w K mg base 2 "common_bottom" (["fractions"]:List Str) (aP K cl 1 zR):=by
 have S:=fS (["fractions", "bottom", "top", "own"]:List Str) (["fractions"]:List Str) (bx KZ)
 exact a.cN S (cl:=cl) (by decide) (by walk_at "1") (λf cdv A outer s H E hr=>⟨_,(bf (cF 1 S.nd aL) (bf (PS.jg (jC PassesOwn.never rfl (gC (ao 0)) (mU rfl (gG (cQ 2 S.nd) (gG (cQ 3 S.nd) mR))) (aZ (cF 1 S.nd (bC oN (bC eX (ao 1) (ao 3)) (eF Ai hr (aA (ao 1) (aA (ao 3) aH)))))))) (aZ (bJ (ao 1))))),λt hK hx=>by delta Vt; walk_at "t"⟩)
theorem aeQ(a:At K mg "common_divisor" KC) (M:Nm mg):aM P w K mg base 1 "common_divisor" (["one", "other"]:List Str) (aP K cl 2 qL):=by
 have S:=fS (["one", "other"]:List Str) (["one", "other"]:List Str) (bx KC)
 exact a.cN S (cl:=cl) (by decide) (by walk_at "2") (λf cdv A outer s H E hr=>⟨_,(bf (PS.jg (BZ PassesOwn.never (dZ (oM hr.units) (ao 1) aL (dw _)) (aZ (Qm (i:=0) (j:=1) rfl S.nd rfl rfl (by decide) rfl rfl (aA (ao 1) (aA (bC lO (ao 0) (ao 1)) aH)) rfl)))) (aZ (bJ (eE Qx M.VN (aA (ao 0) aH))))),λt hK hx=>by delta Vp; walk_at "t"⟩)
theorem aeR{c_ P_:Addr}(a:uR K mg "falling_places" Eu c_) (L:Ef K mg base "falling_places" c_ P_) (M:Nm mg) (aeS:aM P w K mg base 3 "tops_on_one_bottom" (["fractions"]:List Str) (aP K cl 1 Ej)):aM P w K mg base 4 "falling_places" (["fractions"]:List Str) (aP K cl 1 jH):=by
 have S:=fS (["fractions", "tops"]:List Str) (["fractions"]:List Str) (bx Eu)
 exact a.adW S (cl:=cl) (by decide) (by walk_at "1") (λf A outer s H E hr=>⟨_,(bf (wU 1 S.nd rfl (pc1 (E:=E) aeS hr bN (aA (ao 0) aH))) (aZ (bJ (adM (sc:=bx Eu) (No:=(["fractions", "tops"]:List Str)) (x := "place") (Ns:=(["tops"]:List Str)) (src:=[some 1]) adO (λ_ h=>h) adP hr M.V1 M.pF rfl rfl ⟨⟨by rfl,by decide +kernel,by decide +kernel,by decide +kernel,by rfl,by decide +kernel⟩,by decide +kernel,by rfl,by rfl,by rfl⟩ rfl L.hd L.bm rfl (aA (eE gw M.gD (aA (eO 1) aH)) aH) (λ_ _ _ _=>by kernel_rfl) (λA f cd s H=>(Cg Ck (bD (pvF 1) (ao 0)))))))),λt hK hx=>(iD (j8 (lE hK hx (cY jc) (cC (bR 0) dJ)) (fX 1) iG) (oV (adY L hK (cC (x_len hK (cC (bR 1) dJ)) dJ) (adR Sg (adQ R9 (U4 1) (U4 0))))))⟩)
theorem aeT(a:At K mg "few_room" Lj) (M:Nm mg) (Mx:aM P w K mg base 8 "need_book_rule_and_count" (["book", "rule", "count"]:List Str) (aP K cl 3 qQ)) (aeU:aM P w K mg base 3 "need_list" (["book", "place"]:List Str) (aP K cl 2 uV)) (aeV:aM P w K mg base 3 "need_thing" (["book", "thing"]:List Str) (aP K cl 2 zY)) (aeW:aM P w K mg base 7 "room_by" (["book", "rule", "things", "place", "thing"]:List Str) (aP K cl 5 Es)) (aeX:aM P w K mg base 10 "best_things" (["book", "rule", "count"]:List Str) (aP K cl 3 Ep)):aM P w K mg base 11 "few_room" (["book", "rule", "count", "place", "thing"]:List Str) (aP K cl 5 xu):=by
 have S:=fS (["book", "rule", "count", "place", "thing"]:List Str) (["book", "rule", "count", "place", "thing"]:List Str) (bx Lj)
 exact a.cN S (cl:=cl) (by decide) (by walk_at "5") (λf cdv A outer s H E hr=>⟨_,(bf (psE (pc1 (E:=E) Mx hr bN (aA (ao 0) (aA (ao 1) (aA (ao 2) aH))))) (bf (psE (pc1 (E:=E) aeU hr bN (aA (ao 0) (aA (ao 3) aH)))) (bf (psE (pc1 (E:=E) aeV hr bN (aA (ao 0) (aA (ao 4) aH)))) (aZ (bJ (pc1 (E:=E) aeW hr bN (aA (ao 0) (aA (ao 1) (aA (pc1 (E:=E) aeX hr bN (aA (ao 0) (aA (ao 1) (aA (ao 2) aH)))) (aA (ao 3) (aA (ao 4) aH))))))))))),λt hK hx=>by delta Ky; walk_at "t"⟩)
theorem aeY(a:At K mg "frac_below" KR) (M:Nm mg):aM P w K mg base 1 "frac_below" (["one", "other"]:List Str) (aP K cl 2 pB):=by
 have S:=fS (["one", "other"]:List Str) (["one", "other"]:List Str) (bx KR)
 exact a.cN S (cl:=cl) (by decide) (by walk_at "2") (λf cdv A outer s H E hr=>⟨_,(aZ (bJ (lQ (p8 hr.units) (bC eX (bD (ao 0) aL) (bD (ao 1) aL)) (bC eX (bD (ao 1) aL) (bD (ao 0) aL)) (dw _)))),λt hK hx=>by delta Kf; walk_at "t"⟩)
theorem aeZ(a:At K mg "frac_by" KQ) (M:Nm mg) (vo:aM P w K mg base 2 "fraction_of" (["top", "bottom"]:List Str) (aP K cl 2 nH)):aM P w K mg base 3 "frac_by" (["one", "other"]:List Str) (aP K cl 2 zO):=by
 have S:=fS (["one", "other"]:List Str) (["one", "other"]:List Str) (bx KQ)
 exact a.cN S (cl:=cl) (by decide) (by walk_at "2") (λf cdv A outer s H E hr=>⟨_,(aZ (bJ (pc1 (E:=E) vo hr bN (aA (bC eX (bD (ao 0) aL) (bD (ao 1) aL)) (aA (bC eX (bD (ao 0) aL) (bD (ao 1) aL)) aH))))),λt hK hx=>by delta Kd; walk_at "t"⟩)
theorem ae0(a:At K mg "frac_less" KJ) (M:Nm mg) (vo:aM P w K mg base 2 "fraction_of" (["top", "bottom"]:List Str) (aP K cl 2 nH)):aM P w K mg base 3 "frac_less" (["one", "other"]:List Str) (aP K cl 2 xq):=by
 have S:=fS (["one", "other"]:List Str) (["one", "other"]:List Str) (bx KJ)
 exact a.cN S (cl:=cl) (by decide) (by walk_at "2") (λf cdv A outer s H E hr=>⟨_,(aZ (bJ (pc1 (E:=E) vo hr bN (aA (bC oE (bC eX (bD (ao 0) aL) (bD (ao 1) aL)) (bC eX (bD (ao 1) aL) (bD (ao 0) aL))) (aA (bC eX (bD (ao 0) aL) (bD (ao 1) aL)) aH))))),λt hK hx=>by delta Ka; walk_at "t"⟩)
theorem ae1(a:At K mg "frac_sum" KH) (M:Nm mg) (vo:aM P w K mg base 2 "fraction_of" (["top", "bottom"]:List Str) (aP K cl 2 nH)):aM P w K mg base 3 "frac_sum" (["one", "other"]:List Str) (aP K cl 2 xg):=by
 have S:=fS (["one", "other"]:List Str) (["one", "other"]:List Str) (bx KH)
 exact a.cN S (cl:=cl) (by decide) (by walk_at "2") (λf cdv A outer s H E hr=>⟨_,(aZ (bJ (pc1 (E:=E) vo hr bN (aA (bC iJ (bC eX (bD (ao 0) aL) (bD (ao 1) aL)) (bC eX (bD (ao 1) aL) (bD (ao 0) aL))) (aA (bC eX (bD (ao 0) aL) (bD (ao 1) aL)) aH))))),λt hK hx=>by delta J9; walk_at "t"⟩)
theorem ae2(a:At K mg "frac_times" KN) (M:Nm mg) (vo:aM P w K mg base 2 "fraction_of" (["top", "bottom"]:List Str) (aP K cl 2 nH)):aM P w K mg base 3 "frac_times" (["one", "other"]:List Str) (aP K cl 2 qN):=by
 have S:=fS (["one", "other"]:List Str) (["one", "other"]:List Str) (bx KN)
 exact a.cN S (cl:=cl) (by decide) (by walk_at "2") (λf cdv A outer s H E hr=>⟨_,(aZ (bJ (pc1 (E:=E) vo hr bN (aA (bC eX (bD (ao 0) aL) (bD (ao 1) aL)) (aA (bC eX (bD (ao 0) aL) (bD (ao 1) aL)) aH))))),λt hK hx=>by delta Kc; walk_at "t"⟩)
theorem ae3(a:At K mg "fraction_of" KD) (M:Nm mg) (Fx:PyProof.Rows.OwnCls "NoBottom" (cl "NoBottom") mz "ValueError.__new__" mg base) (Ai:aM P w K mg base 1 "common_divisor" (["one", "other"]:List Str) (aP K cl 2 qL)):aM P w K mg base 2 "fraction_of" (["top", "bottom"]:List Str) (aP K cl 2 nH):=by
 have S:=fS (["top", "bottom", "divisor"]:List Str) (["top", "bottom"]:List Str) (bx KD)
 exact a.cN S (cl:=cl) (by decide) (by walk_at "2") (λf cdv A outer s H E hr=>⟨_,(bf (dg (dZ (iY hr.units) (ao 1) aL (dw _)) (aZ (wg v9 Fx PySem.F.excBase_ValueError rfl iu)) c7) (bf (cF 2 S.nd (pc1 (E:=E) Ai hr bN (aA (ao 0) (aA (ao 1) aH)))) (bf (dg (dZ (p8 hr.units) (ao 1) aL (dw _)) (aZ (cF 2 S.nd (Cg Ck (ao 2)))) c7) (aZ (bJ (jL (aA (bC oN (ao 0) (ao 2)) (aA (bC oN (ao 1) (ao 2)) aH)))))))),λt hK hx=>(iD (m7 (um (x_eq hK (bR 1) (iB _))) (wJ (λH'=>hx "NoBottom" H') (ud _)) m5) (iD (j8 (lE hK hx (cY (cY jc)) (cC (bR 0) (cC (bR 1) dJ))) (fX 2) iG) (iD (m7 (um (x_lt hK (bR 1) (iB _))) (j8 (T8 (bR 2)) (fX 2) iG) m5) (oV (Sd (cC (wO hK (bR 0) (bR 2)) (cC (wO hK (bR 1) (bR 2)) dJ)))))))⟩)
theorem ae4(a:At K mg "is_book" zZ) (M:Nm mg) {MF:V} (Fy:Gk K mg "MOST_LISTS" MF (.int 4)) {MJ:V} (Fz:Gk K mg "MOST_THINGS" MJ (.int 12)) (XT:mD K) (ae5:aM P w K mg base 4 "are_worths" (["thing", "most"]:List Str) (aP K cl 2 uU)):aM P w K mg base 5 "is_book" (["thing"]:List Str) (aP K cl 1 zQ):=by
 have S:=fS (["thing"]:List Str) (["thing"]:List Str) (bx zZ)
 exact a.cN S (cl:=cl) (by decide) (by walk_at "1") (λf cdv A outer s H E hr=>⟨_,(bf (dg (PW.pt (jX (gk (eV (nA XT.o .list (eO 0) M.nR M.Ac) (by intro _; rfl))) (mQ (gk (Qv mV mV aL (eE gw M.gD (aA (eO 0) aH)) (nC Fy)))))) (aZ (bJ iU)) c7) (bf (dg (gk (eV (eE (yQ rfl) M.Ab (aA (jZ (sc:=bx zZ) (No:=(["thing"]:List Str)) (N:=(["row"]:List Str)) (src:=[none]) (g:=(dW 0)) rfl rfl ⟨by rfl,by decide +kernel,by decide +kernel,by decide +kernel,by rfl,by decide +kernel⟩ rfl (gC (eO 0)) (λC s H ex=>(cQ 0 (show List.Nodup (["row"]:List Str) by decide +kernel))) (λC s H ex=>(eF ae5 hr (aA (ao 0) (aA (nC Fz) aH))))) aH)) (by intro _; rfl))) (aZ (bJ iU)) c7) (aZ (bJ (eE (yQ rfl) M.Ab (aA (jZ (sc:=bx zZ) (No:=(["thing"]:List Str)) (N:=(["row", "thing"]:List Str)) (src:=[none,some 0]) (g:=(dW 0)) rfl rfl ⟨by rfl,by decide +kernel,by decide +kernel,by decide +kernel,by rfl,by decide +kernel⟩ rfl (gC (eO 0)) (λC s H ex=>(cQ 0 (show List.Nodup (["row", "thing"]:List Str) by decide +kernel))) (λC s H ex=>(lQ (iY hr.units) (eE gw M.gD (aA (ao 0) aH)) (eE gw M.gD (aA (tM tQ (eO 1) aL (λ_ _=>rfl)) aH)) (dw _)))) aH)))))),λt hK hx=>(iD (m7 (Jl (oR (qe hK (SX hK .list (bR 0)))) (oR (um (T7 hK Jj Jj JG JG (iB _) (x_len hK (cC (bR 0) dJ)) (JH hK Fy))))) (oV (yU _)) m5) (iD (m7 (oR (qe hK (JK hK (cC (wL (uy hK (bR 0)) (sy (by decide)) (uH (js:=[0]) (by decide)) iG (λt1 h1 k1=>(fX 0)) (λt1 h1 k1=>(uG (h1.trans hK) k1 (cY (cY jc)) (cC (bR 0) (cC (JH (h1.trans hK) Fz) dJ))))) dJ)))) (oV (yU _)) m5) (oV (JK hK (cC (wL (uy hK (bR 0)) (sy (by decide)) (uH (js:=[0]) (by decide)) iG (λt2 h2 k2=>(fX 0)) (λt2 h2 k2=>(x_eq (h2.trans hK) (x_len (h2.trans hK) (cC (bR 0) dJ)) (x_len (h2.trans hK) (cC (wR (h2.trans hK) (bR 1) (iB _)) dJ))))) dJ)))))⟩)
theorem ae6(a:At K mg "is_count" K4) (M:Nm mg) (sU:aM P w K mg base 1 "is_whole" (["thing"]:List Str) (aP K cl 1 nJ)):aM P w K mg base 2 "is_count" (["thing", "many"]:List Str) (aP K cl 2 zW):=by
 have S:=fS (["thing", "many"]:List Str) (["thing", "many"]:List Str) (bx K4)
 exact a.cN S (cl:=cl) (by decide) (by walk_at "2") (λf cdv A outer s H E hr=>⟨_,(aZ (bJ (pP (pc1 (E:=E) sU hr bN (aA (ao 0) aH)) (qZ (Cp mV mV aL (ao 0) (ao 1)))))),λt hK hx=>by delta Kr; walk_at "t"⟩)
theorem ae7(a:At K mg "is_fraction" KY) (M:Nm mg) (XT:mD K) (sU:aM P w K mg base 1 "is_whole" (["thing"]:List Str) (aP K cl 1 nJ)) (Ai:aM P w K mg base 1 "common_divisor" (["one", "other"]:List Str) (aP K cl 2 qL)):aM P w K mg base 2 "is_fraction" (["thing"]:List Str) (aP K cl 1 sJ):=by
 have S:=fS (["thing", "top", "bottom"]:List Str) (["thing"]:List Str) (bx KY)
 exact a.cN S (cl:=cl) (by decide) (by walk_at "1") (λf cdv A outer s H E hr=>⟨_,(bf (dg (PW.pt (jX (gk (eV (nA XT.o .tuple (ao 0) M.nR M.Ft) (by intro _; rfl))) (mQ (dZ (oM hr.units) (eE gw M.gD (aA (ao 0) aH)) aL (dw _))))) (aZ (bJ iU)) c7) (bf (vQ (ao 0) (mU rfl (gG (cQ 1 S.nd) (gG (cQ 2 S.nd) mR)))) (bf (dg (PW.pt (jX (gk (eV (pc1 (E:=E) sU hr bN (aA (ao 1) aH)) (by intro _; rfl))) (mQ (gk (eV (pc1 (E:=E) sU hr bN (aA (ao 2) aH)) (by intro _; rfl)))))) (aZ (bJ iU)) c7) (aZ (bJ (pP (lQ HD (ao 2) aL (dw _)) (qZ (lQ (iY hr.units) (pc1 (E:=E) Ai hr bN (aA (ao 1) (aA (ao 2) aH))) aL (dw _))))))))),λt hK hx=>by delta Kg; walk_at "t"⟩)
theorem ae8(a:At K mg "is_place" K3) (M:Nm mg) (sU:aM P w K mg base 1 "is_whole" (["thing"]:List Str) (aP K cl 1 nJ)):aM P w K mg base 2 "is_place" (["thing", "many"]:List Str) (aP K cl 2 qP):=by
 have S:=fS (["thing", "many"]:List Str) (["thing", "many"]:List Str) (bx K3)
 exact a.cN S (cl:=cl) (by decide) (by walk_at "2") (λf cdv A outer s H E hr=>⟨_,(aZ (bJ (pP (pc1 (E:=E) sU hr bN (aA (ao 0) aH)) (qZ (Cp mV (p8 hr.units) aL (ao 0) (ao 1)))))),λt hK hx=>by delta Ek; walk_at "t"⟩)
theorem ae9(a:At K mg "is_rule" K8) (M:Nm mg) {MK:V} (MN:Gk K mg "BARE_RULES" MK (.tup [(.tup [(.str "least")]),(.tup [(.str "greatest")]),(.tup [(.str "product")])])) (XT:mD K) (afa:aM P w K mg base 3 "are_weights" (["thing", "many"]:List Str) (aP K cl 2 El)) (sU:aM P w K mg base 1 "is_whole" (["thing"]:List Str) (aP K cl 1 nJ)):aM P w K mg base 4 "is_rule" (["thing", "many"]:List Str) (aP K cl 2 uW):=by
 have S:=fS (["thing", "many", "word", "rest"]:List Str) (["thing", "many"]:List Str) (bx K8)
 exact a.cN S (cl:=cl) (by decide) (by walk_at "2") (λf cdv A outer s H E hr=>⟨_,(bf (dg (gk (eV (nA XT.o .tuple (ao 0) M.nR M.Ft) (by intro _; rfl))) (aZ (bJ iU)) c7) (bf (dg (dZ (oM hr.units) (eE gw M.gD (aA (ao 0) aH)) aL (dw _)) (aZ (bJ (lQ (CN hr.units) (ao 0) (nC MN) (by with_unfolding_all rfl)))) c7) (bf (vQ (ao 0) (mU rfl (gG (cQ 2 S.nd) (gG (cQ 3 S.nd) mR)))) (bf (dg (dZ (iY hr.units) (ao 2) iu (dw _)) (aZ (bJ (pc1 (E:=E) afa hr bN (aA (ao 3) (aA (ao 1) aH))))) c7) (aZ (bJ (pP (lQ (iY hr.units) (ao 2) iu (dw _)) (pP (pc1 (E:=E) sU hr bN (aA (ao 3) aH)) (qZ (Cp mV mV aL (ao 3) (ao 1))))))))))),λt hK hx=>by delta xr; walk_at "t"⟩)
theorem afb(a:At K mg "is_whole" Kz) (M:Nm mg) (XT:mD K):aM P w K mg base 1 "is_whole" (["thing"]:List Str) (aP K cl 1 nJ):=by
 have S:=fS (["thing"]:List Str) (["thing"]:List Str) (bx Kz)
 exact a.cN S (cl:=cl) (by decide) (by walk_at "1") (λf cdv A outer s H E hr=>⟨_,(aZ (bJ (pP (nA XT.o .int (ao 0) M.nR M.V0) (qZ (Zq (nA XT.o .bool (ao 0) M.nR M.VP)))))),λt hK hx=>by delta Vr; walk_at "t"⟩)
theorem afc(a:At K mg "is_worth" K1) (M:Nm mg) (Mw:aM P w K mg base 2 "is_fraction" (["thing"]:List Str) (aP K cl 1 sJ)):aM P w K mg base 3 "is_worth" (["thing"]:List Str) (aP K cl 1 qO):=by
 have S:=fS (["thing"]:List Str) (["thing"]:List Str) (bx K1)
 exact a.cN S (cl:=cl) (by decide) (by walk_at "1") (λf cdv A outer s H E hr=>⟨_,(aZ (bJ (pP (pc1 (E:=E) Mw hr bN (aA (ao 0) aH)) (qZ (Cp mV mV aL (bD (ao 0) aL) (bD (ao 0) aL)))))),λt hK hx=>by delta Kh; walk_at "t"⟩)
theorem afd(a:At K mg "law" Fp) (M:Nm mg) (xK:aM P w K mg base 1 "_law_cell" (["_law_script", "_law_k"]:List Str) (aP K cl 2 jf)) (afe:aM P w K mg base 4 "_law_book" (["_law_script", "_law_start", "_law_lists", "_law_many"]:List Str) (aP K cl 4 xH)) (afg:aM P w K mg base 3 "_law_rule" (["_law_cell_here", "_law_lists"]:List Str) (aP K cl 2 vf)) (afh:aM P w K mg base 11 "few_room" (["book", "rule", "count", "place", "thing"]:List Str) (aP K cl 5 xu)) (afi:aM P w K mg base 7 "_law_good" (["_law_book_here", "_law_rule_here", "_law_count", "_law_place", "_law_thing", "_law_found"]:List Str) (aP K cl 6 Af)):aM P w K mg base 12 "law" (["_law_script"]:List Str) (aP K cl 1 xJ):=by
 have S:=fS (["_law_script", "_law_cell_here", "_law_lists", "_law_many", "_law_book_here", "_law_rule_here", "_law_count", "_law_handed", "_law_k", "_law_place", "_law_thing", "_law_found"]:List Str) (["_law_script"]:List Str) (bx Fp)
 exact a.cN S (cl:=cl) (by decide) (by walk_at "1") (λf cdv A outer s H E hr=>⟨_,(bf (cF 1 S.nd (pc1 (E:=E) xK hr bN (aA (ao 0) (aA aL aH)))) (bf (cF 2 S.nd (bC iJ aL (bC lO (ao 1) aL))) (bf (cF 3 S.nd (bC iJ aL (bC lO (bC oN (ao 1) aL) aL))) (bf (cF 4 S.nd (pc1 (E:=E) afe hr bN (aA (ao 0) (aA aL (aA (ao 2) (aA (ao 3) aH)))))) (bf (cF 5 S.nd (pc1 (E:=E) afg hr bN (aA (pc1 (E:=E) xK hr bN (aA (ao 0) (aA aL aH))) (aA (ao 2) aH)))) (bf (cF 6 S.nd (bC lO (bC oN (ao 1) aL) (bC iJ (ao 3) aL))) (bf (Cy (i:=7) (sc:=bx Fp) (No:=(["_law_script", "_law_cell_here", "_law_lists", "_law_many", "_law_book_here", "_law_rule_here", "_law_count", "_law_handed", "_law_k", "_law_place", "_law_thing", "_law_found"]:List Str)) (N:=(["_law_worths"]:List Str)) (src:=[none]) (g:=(dW 0)) S.nd rfl (Or.inl rfl) rfl rfl ⟨by rfl,by decide +kernel,by decide +kernel,by decide +kernel,by rfl,by decide +kernel⟩ rfl (gC (ao 4)) (λC s H ex=>(cQ 0 (show List.Nodup (["_law_worths"]:List Str) by decide +kernel))) (λC s H ex=>(Uh Rk M.Ac (aA (ao 0) aH)))) (bf (PS.jg (jC PassesOwn.never rfl (gC (DN (G:=aJ K) (Ts:=[.int 0,.int 1,.int 2,.int 0]) (by kernel_rfl))) (cQ 8 S.nd) (bf (cF 9 S.nd (bC lO (eF xK hr (aA (ao 0) (aA (bC iJ aL (ao 8)) aH))) (ao 2))) (bf (cF 10 S.nd (bC lO (bC oN (eF xK hr (aA (ao 0) (aA (bC iJ aL (ao 8)) aH))) aL) (ao 3))) (bf (cF 11 S.nd (eF afh hr (aA (ao 7) (aA (ao 5) (aA (ao 6) (aA (ao 9) (aA (ao 10) aH))))))) (aZ (dg (PW.pt (jX (gk (eV (eF afi hr (aA (ao 4) (aA (ao 5) (aA (ao 6) (aA (ao 9) (aA (ao 10) (aA (ao 11) aH))))))) (by intro _; rfl))) (mQ (dZ (oM hr.units) (ao 7) (ao 4) (dw _))))) (aZ (bJ iU)) c7))))))) (aZ (bJ iU)))))))))),λt hK hx=>(iD (j8 (lE hK hx (cY (cY jc)) (cC (bR 0) (cC (iB _) dJ))) (fX 1) iG) (iD (j8 (wN hK (iB _) (wQ hK (bR 1) (iB _))) (fX 2) iG) (iD (j8 (wN hK (iB _) (wQ hK (wO hK (bR 1) (iB _)) (iB _))) (fX 3) iG) (iD (j8 (lE hK hx (cY (cY (cY (cY jc)))) (cC (bR 0) (cC (iB _) (cC (bR 2) (cC (bR 3) dJ))))) (fX 4) iG) (iD (j8 (lE hK hx (cY (cY jc)) (cC (lE hK hx (cY (cY jc)) (cC (bR 0) (cC (iB _) dJ))) (cC (bR 2) dJ))) (fX 5) iG) (iD (j8 (wQ hK (wO hK (bR 1) (iB _)) (wN hK (bR 3) (iB _))) (fX 6) iG) (iD (j8 (wL (uy hK (bR 4)) (sy (by decide)) (uH (js:=[0]) (by decide)) iG (λt1 h1 k1=>(fX 0)) (λt1 h1 k1=>(T9 (h1.trans hK) (cC (bR 0) dJ)))) (fX 7) iG) (iD (T3 (λt2 h2 k2=>(S8 (uy (h2.trans hK) (Ue (h2.trans hK))) (fX 8) iG (iD (j8 (wQ (h2.trans hK) (uG (h2.trans hK) k2 (cY (cY jc)) (cC (bR 0) (cC (wN (h2.trans hK) (iB _) (bR 8)) dJ))) (bR 2)) (fX 9) iG) (iD (j8 (wQ (h2.trans hK) (wO (h2.trans hK) (uG (h2.trans hK) k2 (cY (cY jc)) (cC (bR 0) (cC (wN (h2.trans hK) (iB _) (bR 8)) dJ))) (iB _)) (bR 3)) (fX 10) iG) (iD (j8 (uG (h2.trans hK) k2 (cY (cY (cY (cY (cY jc))))) (cC (bR 7) (cC (bR 5) (cC (bR 6) (cC (bR 9) (cC (bR 10) dJ)))))) (fX 11) iG) (m7 (Jl (oR (qe (h2.trans hK) (uG (h2.trans hK) k2 (cY (cY (cY (cY (cY (cY jc)))))) (cC (bR 4) (cC (bR 5) (cC (bR 6) (cC (bR 9) (cC (bR 10) (cC (bR 11) dJ))))))))) (um (T6 (h2.trans hK) (bR 7) (bR 4)))) (oV (yU _)) m5))))))) (oV (yU _))))))))))⟩)
theorem afj(a:At K mg "need_book" K5) (M:Nm mg) (FJ:PyProof.Rows.OwnCls "NoBook" (cl "NoBook") mz "ValueError.__new__" mg base) (afk:aM P w K mg base 5 "is_book" (["thing"]:List Str) (aP K cl 1 zQ)):aM P w K mg base 6 "need_book" (["book"]:List Str) (aP K cl 1 zT):=by
 have S:=fS (["book"]:List Str) (["book"]:List Str) (bx K5)
 exact a.cN S (cl:=cl) (by decide) (by walk_at "1") (λf cdv A outer s H E hr=>⟨_,(aZ (dg (gk (eV (pc1 (E:=E) afk hr bN (aA (ao 0) aH)) (by intro _; rfl))) (aZ (wg v9 FJ PySem.F.excBase_ValueError rfl iu)) c7)),λt hK hx=>(m7 (oR (qe hK (lE hK hx (cY jc) (cC (bR 0) dJ)))) (wJ (λH'=>hx "NoBook" H') (ud _)) m5)⟩)
theorem afl(a:At K mg "need_book_and_rule" Le) (M:Nm mg) (FN:PyProof.Rows.OwnCls "NoRule" (cl "NoRule") mz "ValueError.__new__" mg base) (afm:aM P w K mg base 6 "need_book" (["book"]:List Str) (aP K cl 1 zT)) (afn:aM P w K mg base 4 "is_rule" (["thing", "many"]:List Str) (aP K cl 2 uW)):aM P w K mg base 7 "need_book_and_rule" (["book", "rule"]:List Str) (aP K cl 2 sO):=by
 have S:=fS (["book", "rule"]:List Str) (["book", "rule"]:List Str) (bx Le)
 exact a.cN S (cl:=cl) (by decide) (by walk_at "2") (λf cdv A outer s H E hr=>⟨_,(bf (psE (pc1 (E:=E) afm hr bN (aA (ao 0) aH))) (aZ (dg (gk (eV (pc1 (E:=E) afn hr bN (aA (ao 1) (aA (eE gw M.gD (aA (ao 0) aH)) aH))) (by intro _; rfl))) (aZ (wg v9 FN PySem.F.excBase_ValueError rfl iu)) c7))),λt hK hx=>(iD (S7 (lE hK hx (cY jc) (cC (bR 0) dJ))) (m7 (oR (qe hK (lE hK hx (cY (cY jc)) (cC (bR 1) (cC (x_len hK (cC (bR 0) dJ)) dJ))))) (wJ (λH'=>hx "NoRule" H') (ud _)) m5))⟩)
theorem afo(a:At K mg "need_book_rule_and_count" Lg) (M:Nm mg) (afp:aM P w K mg base 7 "need_book_and_rule" (["book", "rule"]:List Str) (aP K cl 2 sO)) (afq:aM P w K mg base 3 "need_count" (["book", "count"]:List Str) (aP K cl 2 zX)):aM P w K mg base 8 "need_book_rule_and_count" (["book", "rule", "count"]:List Str) (aP K cl 3 qQ):=by
 have S:=fS (["book", "rule", "count"]:List Str) (["book", "rule", "count"]:List Str) (bx Lg)
 exact a.cN S (cl:=cl) (by decide) (by walk_at "3") (λf cdv A outer s H E hr=>⟨_,(bf (psE (pc1 (E:=E) afp hr bN (aA (ao 0) (aA (ao 1) aH)))) (aZ (psE (pc1 (E:=E) afq hr bN (aA (ao 0) (aA (ao 2) aH)))))),λt hK hx=>by delta Ks; walk_at "t"⟩)
theorem afr(a:At K mg "need_count" Lf) (M:Nm mg) (FQ:PyProof.Rows.OwnCls "NoCount" (cl "NoCount") mz "ValueError.__new__" mg base) (afs:aM P w K mg base 2 "is_count" (["thing", "many"]:List Str) (aP K cl 2 zW)):aM P w K mg base 3 "need_count" (["book", "count"]:List Str) (aP K cl 2 zX):=by
 have S:=fS (["book", "count"]:List Str) (["book", "count"]:List Str) (bx Lf)
 exact a.cN S (cl:=cl) (by decide) (by walk_at "2") (λf cdv A outer s H E hr=>⟨_,(aZ (dg (gk (eV (pc1 (E:=E) afs hr bN (aA (ao 1) (aA (eE gw M.gD (aA (bD (ao 0) aL) aH)) aH))) (by intro _; rfl))) (aZ (wg v9 FQ PySem.F.excBase_ValueError rfl iu)) c7)),λt hK hx=>(m7 (oR (qe hK (lE hK hx (cY (cY jc)) (cC (bR 1) (cC (x_len hK (cC (wR hK (bR 0) (iB _)) dJ)) dJ))))) (wJ (λH'=>hx "NoCount" H') (ud _)) m5)⟩)
theorem aft(a:At K mg "need_list" K6) (M:Nm mg) (FT:PyProof.Rows.OwnCls "NoList" (cl "NoList") mz "ValueError.__new__" mg base) (MP:aM P w K mg base 2 "is_place" (["thing", "many"]:List Str) (aP K cl 2 qP)):aM P w K mg base 3 "need_list" (["book", "place"]:List Str) (aP K cl 2 uV):=by
 have S:=fS (["book", "place"]:List Str) (["book", "place"]:List Str) (bx K6)
 exact a.cN S (cl:=cl) (by decide) (by walk_at "2") (λf cdv A outer s H E hr=>⟨_,(aZ (dg (gk (eV (pc1 (E:=E) MP hr bN (aA (ao 1) (aA (eE gw M.gD (aA (ao 0) aH)) aH))) (by intro _; rfl))) (aZ (wg v9 FT PySem.F.excBase_ValueError rfl iu)) c7)),λt hK hx=>(m7 (oR (qe hK (lE hK hx (cY (cY jc)) (cC (bR 1) (cC (x_len hK (cC (bR 0) dJ)) dJ))))) (wJ (λH'=>hx "NoList" H') (ud _)) m5)⟩)
theorem afu(a:At K mg "need_thing" K7) (M:Nm mg) (FW:PyProof.Rows.OwnCls "NoThing" (cl "NoThing") mz "ValueError.__new__" mg base) (MP:aM P w K mg base 2 "is_place" (["thing", "many"]:List Str) (aP K cl 2 qP)):aM P w K mg base 3 "need_thing" (["book", "thing"]:List Str) (aP K cl 2 zY):=by
 have S:=fS (["book", "thing"]:List Str) (["book", "thing"]:List Str) (bx K7)
 exact a.cN S (cl:=cl) (by decide) (by walk_at "2") (λf cdv A outer s H E hr=>⟨_,(aZ (dg (gk (eV (pc1 (E:=E) MP hr bN (aA (ao 1) (aA (eE gw M.gD (aA (bD (ao 0) aL) aH)) aH))) (by intro _; rfl))) (aZ (wg v9 FW PySem.F.excBase_ValueError rfl iu)) c7)),λt hK hx=>(m7 (oR (qe hK (lE hK hx (cY (cY jc)) (cC (bR 1) (cC (x_len hK (cC (wR hK (bR 0) (iB _)) dJ)) dJ))))) (wJ (λH'=>hx "NoThing" H') (ud _)) m5)⟩)
theorem afv(a:At K mg "place_of" Lb) (M:Nm mg):aM P w K mg base 1 "place_of" (["rule", "many"]:List Str) (aP K cl 2 uX):=by
 have S:=fS (["rule", "many"]:List Str) (["rule", "many"]:List Str) (bx Lb)
 exact a.cN S (cl:=cl) (by decide) (by walk_at "2") (λf cdv A outer s H E hr=>⟨_,(bf (dg (dZ (iY hr.units) (bD (ao 0) aL) iu (dw _)) (aZ (bJ aL)) c7) (bf (dg (dZ (iY hr.units) (bD (ao 0) aL) iu (dw _)) (aZ (bJ (ao 1))) c7) (aZ (bJ (bD (ao 0) aL))))),λt hK hx=>by delta zU; walk_at "t"⟩)
theorem afw(a:At K mg "product_worth" La) (M:Nm mg) (M4:aM P w K mg base 3 "frac_times" (["one", "other"]:List Str) (aP K cl 2 qN)):aM P w K mg base 4 "product_worth" (["worths"]:List Str) (aP K cl 1 Eo):=by
 have S:=fS (["worths", "product", "worth"]:List Str) (["worths"]:List Str) (bx La)
 exact a.cN S (cl:=cl) (by decide) (by walk_at "1") (λf cdv A outer s H E hr=>⟨_,(bf (cF 1 S.nd (qw (G:=aJ K) (Ts:=[.int 1,.int 1]) (by kernel_rfl))) (bf (PS.jg (jC PassesOwn.never rfl (gC (ao 0)) (cQ 2 S.nd) (aZ (cF 1 S.nd (eF M4 hr (aA (ao 1) (aA (ao 2) aH))))))) (aZ (bJ (ao 1))))),λt hK hx=>by delta Vz; walk_at "t"⟩)
theorem afx(a:At K mg "room_by" Fg) (M:Nm mg) {M5:V} (xM:Gk K mg "FULL" M5 (.tup [(.int 1),(.int 1)])) {M6:V} (xO:Gk K mg "NOTHING" M6 (.tup [(.int 0),(.int 1)])) (Mz:aM P w K mg base 6 "worths_by" (["book", "rule"]:List Str) (aP K cl 2 lG)) (Ah:aM P w K mg base 4 "falling_places" (["fractions"]:List Str) (aP K cl 1 jH)) (Wa:aM P w K mg base 6 "worth_with" (["book", "rule", "place", "thing", "worth"]:List Str) (aP K cl 5 pC)) (Wb:aM P w K mg base 1 "frac_below" (["one", "other"]:List Str) (aP K cl 2 pB)) (Wc:aM P w K mg base 4 "worth_for" (["rule", "least", "most", "goal"]:List Str) (aP K cl 4 nQ)):aM P w K mg base 7 "room_by" (["book", "rule", "things", "place", "thing"]:List Str) (aP K cl 5 Es):=by
 have S:=fS (["book", "rule", "things", "place", "thing", "worths", "rivals", "order", "least", "most", "goal"]:List Str) (["book", "rule", "things", "place", "thing"]:List Str) (bx Fg)
 exact a.cN S (cl:=cl) (by decide) (by walk_at "5") (λf cdv A outer s H E hr=>⟨_,(bf (wU 5 S.nd rfl (pc1 (E:=E) Mz hr bN (aA (ao 0) (aA (ao 1) aH)))) (bf (acp (i:=6) (sc:=bx Fg) (No:=(["book", "rule", "things", "place", "thing", "worths", "rivals", "order", "least", "most", "goal"]:List Str)) (N:=(["other", "things", "thing", "worths"]:List Str)) (src:=[none,some 2,some 4,some 5]) (g:=(dW 0)) S.nd rfl (Or.inl rfl) rfl rfl ⟨by rfl,by decide +kernel,by decide +kernel,by decide +kernel,by rfl,by decide +kernel⟩ rfl (qx M.pF (aA (eE gw M.gD (aA (eO 5) aH)) aH)) (λC s H ex=>(cQ 0 (show List.Nodup (["other", "things", "thing", "worths"]:List Str) by decide +kernel))) (λC s H ex=>(dZ (oM hr.units) (lQ (CN hr.units) (ao 0) (eO 1) (by with_unfolding_all rfl)) (lQ (CN hr.units) (eO 2) (eO 1) (by with_unfolding_all rfl)) (dw _))) (λC s H ex=>(tM tQ (eO 3) (ao 0) (λ_ _=>rfl)))) (bf (dg (gk (eV (ao 6) (by intro _; rfl))) (aZ (bJ (jL (aA (nC xO) (aA (nC xM) aH))))) c7) (bf (cF 7 S.nd (pc1 (E:=E) Ah hr bN (aA (ao 6) aH))) (bf (cF 8 S.nd (pc1 (E:=E) Wa hr bN (aA (ao 0) (aA (ao 1) (aA (ao 3) (aA (eO 4) (aA (nC xO) aH))))))) (bf (cF 9 S.nd (pc1 (E:=E) Wa hr bN (aA (ao 0) (aA (ao 1) (aA (ao 3) (aA (eO 4) (aA (nC xM) aH))))))) (bf (dg (dZ (CN hr.units) (eO 4) (eO 2) (by with_unfolding_all rfl)) (bf (cF 10 S.nd (bD (ao 6) (bD (ao 7) aL))) (aZ (bJ (jL (aA (Qc (eV (pc1 (E:=E) Wb hr bN (aA (ao 8) (aA (ao 10) aH))) (by intro _; rfl)) (pc1 (E:=E) Wc hr bN (aA (ao 1) (aA (ao 8) (aA (ao 9) (aA (ao 10) aH))))) (nC xO)) (aA (nC xM) aH)))))) c7) (bf (cF 10 S.nd (bD (ao 6) (bD (ao 7) (Cg Ck aL)))) (aZ (bJ (jL (aA (nC xO) (aA (Qc (eV (pc1 (E:=E) Wb hr bN (aA (ao 10) (aA (ao 9) aH))) (by intro _; rfl)) (pc1 (E:=E) Wc hr bN (aA (ao 1) (aA (ao 8) (aA (ao 9) (aA (ao 10) aH))))) (nC xM)) aH))))))))))))),λt hK hx=>by delta u0; walk_at "t"⟩)
theorem afy(a:At K mg "shares_worth" K9) (M:Nm mg) (afz:aM P w K mg base 3 "frac_sum" (["one", "other"]:List Str) (aP K cl 2 xg)) (M4:aM P w K mg base 3 "frac_times" (["one", "other"]:List Str) (aP K cl 2 qN)):aM P w K mg base 4 "shares_worth" (["weights", "worths"]:List Str) (aP K cl 2 Em):=by
 have S:=fS (["weights", "worths", "total", "weight", "worth"]:List Str) (["weights", "worths"]:List Str) (bx K9)
 exact a.cN S (cl:=cl) (by decide) (by walk_at "2") (λf cdv A outer s H E hr=>⟨_,(bf (cF 2 S.nd (qw (G:=aJ K) (Ts:=[.int 0,.int 1]) (by kernel_rfl))) (bf (PS.jg (jC PassesOwn.never rfl (RZ M.V2 (aA (ao 0) (aA (ao 1) aH))) (mU rfl (gG (cQ 3 S.nd) (gG (cQ 4 S.nd) mR))) (aZ (cF 2 S.nd (eF afz hr (aA (ao 2) (aA (eF M4 hr (aA (ao 3) (aA (ao 4) aH))) aH))))))) (aZ (bJ (ao 2))))),λt hK hx=>by delta Vy; walk_at "t"⟩)
theorem afA(a:At K mg "tops_on_one_bottom" Et) (M:Nm mg) (afB:aM P w K mg base 2 "common_bottom" (["fractions"]:List Str) (aP K cl 1 zR)):aM P w K mg base 3 "tops_on_one_bottom" (["fractions"]:List Str) (aP K cl 1 Ej):=by
 have S:=fS (["fractions", "bottom"]:List Str) (["fractions"]:List Str) (bx Et)
 exact a.cN S (cl:=cl) (by decide) (by walk_at "1") (λf cdv A outer s H E hr=>⟨_,(bf (wU 1 S.nd rfl (pc1 (E:=E) afB hr bN (aA (ao 0) aH))) (aZ (bJ (jZ (sc:=bx Et) (No:=(["fractions", "bottom"]:List Str)) (N:=(["top", "own", "bottom"]:List Str)) (src:=[none,none,some 1]) (g:=(vP K 2 (oA (dW 0) (oA (dW 1) vO)))) rfl rfl ⟨by rfl,by decide +kernel,by decide +kernel,by decide +kernel,by rfl,by decide +kernel⟩ rfl (gC (ao 0)) (λC s H ex=>(mU rfl (gG (cQ 0 (show List.Nodup (["top", "own", "bottom"]:List Str) by decide +kernel)) (gG (cQ 1 (show List.Nodup (["top", "own", "bottom"]:List Str) by decide +kernel)) mR)))) (λC s H ex=>(bC eX (ao 0) (bC oN (eO 2) (ao 1)))))))),λt hK hx=>by delta Vu; walk_at "t"⟩)
theorem afC(a:At K mg "worth_by" Ld) (M:Nm mg) (afD:aM P w K mg base 4 "shares_worth" (["weights", "worths"]:List Str) (aP K cl 2 Em)) (afE:aM P w K mg base 4 "product_worth" (["worths"]:List Str) (aP K cl 1 Eo)) (Ah:aM P w K mg base 4 "falling_places" (["fractions"]:List Str) (aP K cl 1 jH)) (afF:aM P w K mg base 1 "place_of" (["rule", "many"]:List Str) (aP K cl 2 uX)):aM P w K mg base 5 "worth_by" (["rule", "worths"]:List Str) (aP K cl 2 kO):=by
 have S:=fS (["rule", "worths"]:List Str) (["rule", "worths"]:List Str) (bx Ld)
 exact a.cN S (cl:=cl) (by decide) (by walk_at "2") (λf cdv A outer s H E hr=>⟨_,(bf (dg (dZ (iY hr.units) (bD (ao 0) aL) iu (dw _)) (aZ (bJ (pc1 (E:=E) afD hr bN (aA (bD (ao 0) aL) (aA (ao 1) aH))))) c7) (bf (dg (dZ (iY hr.units) (bD (ao 0) aL) iu (dw _)) (aZ (bJ (pc1 (E:=E) afE hr bN (aA (ao 1) aH)))) c7) (aZ (bJ (bD (ao 1) (bD (pc1 (E:=E) Ah hr bN (aA (ao 1) aH)) (bC oE (pc1 (E:=E) afF hr bN (aA (ao 0) (aA (eE gw M.gD (aA (ao 1) aH)) aH))) aL))))))),λt hK hx=>by delta zV; walk_at "t"⟩)
theorem afG(a:At K mg "worth_for" Li) (M:Nm mg) (afH:aM P w K mg base 3 "frac_by" (["one", "other"]:List Str) (aP K cl 2 zO)) (Wd:aM P w K mg base 3 "frac_less" (["one", "other"]:List Str) (aP K cl 2 xq)):aM P w K mg base 4 "worth_for" (["rule", "least", "most", "goal"]:List Str) (aP K cl 4 nQ):=by
 have S:=fS (["rule", "least", "most", "goal"]:List Str) (["rule", "least", "most", "goal"]:List Str) (bx Li)
 exact a.cN S (cl:=cl) (by decide) (by walk_at "4") (λf cdv A outer s H E hr=>⟨_,(bf (dg (PW.pt (jX (dZ (iY hr.units) (bD (ao 0) aL) iu (dw _)) (mQ (dZ (iY hr.units) (bD (ao 0) aL) iu (dw _))))) (aZ (bJ (pc1 (E:=E) afH hr bN (aA (pc1 (E:=E) Wd hr bN (aA (ao 3) (aA (ao 1) aH))) (aA (pc1 (E:=E) Wd hr bN (aA (ao 2) (aA (ao 1) aH))) aH))))) c7) (aZ (bJ (ao 3)))),λt hK hx=>by delta Er; walk_at "t"⟩)
theorem afI(a:At K mg "worth_with" Lh) (M:Nm mg) (M7:aM P w K mg base 1 "worths_of" (["book", "thing"]:List Str) (aP K cl 2 uY)) (M8:aM P w K mg base 5 "worth_by" (["rule", "worths"]:List Str) (aP K cl 2 kO)):aM P w K mg base 6 "worth_with" (["book", "rule", "place", "thing", "worth"]:List Str) (aP K cl 5 pC):=by
 have S:=fS (["book", "rule", "place", "thing", "worth", "worths"]:List Str) (["book", "rule", "place", "thing", "worth"]:List Str) (bx Lh)
 exact a.cN S (cl:=cl) (by decide) (by walk_at "5") (λf cdv A outer s H E hr=>⟨_,(bf (cF 5 S.nd (pc1 (E:=E) M7 hr bN (aA (ao 0) (aA (ao 3) aH)))) (bf (vQ (ao 4) (Hr (ao 5) (ao 2) set_list)) (aZ (bJ (pc1 (E:=E) M8 hr bN (aA (ao 1) (aA (ao 5) aH))))))),λt hK hx=>by delta Ku; walk_at "t"⟩)
theorem afJ(a:At K mg "worths_by" EY) (M:Nm mg) (M8:aM P w K mg base 5 "worth_by" (["rule", "worths"]:List Str) (aP K cl 2 kO)) (M7:aM P w K mg base 1 "worths_of" (["book", "thing"]:List Str) (aP K cl 2 uY)):aM P w K mg base 6 "worths_by" (["book", "rule"]:List Str) (aP K cl 2 lG):=by
 have S:=fS (["book", "rule"]:List Str) (["book", "rule"]:List Str) (bx EY)
 exact a.cN S (cl:=cl) (by decide) (by walk_at "2") (λf cdv A outer s H E hr=>⟨_,(aZ (bJ (jZ (sc:=bx EY) (No:=(["book", "rule"]:List Str)) (N:=(["thing", "rule", "book"]:List Str)) (src:=[none,some 1,some 0]) (g:=(dW 0)) rfl rfl ⟨by rfl,by decide +kernel,by decide +kernel,by decide +kernel,by rfl,by decide +kernel⟩ rfl (qx M.pF (aA (eE gw M.gD (aA (bD (eO 0) aL) aH)) aH)) (λC s H ex=>(cQ 0 (show List.Nodup (["thing", "rule", "book"]:List Str) by decide +kernel))) (λC s H ex=>(eF M8 hr (aA (eO 1) (aA (eF M7 hr (aA (eO 2) (aA (ao 0) aH))) aH))))))),λt hK hx=>by delta VD; walk_at "t"⟩)
theorem afK(a:At K mg "worths_of" Ez) (M:Nm mg):aM P w K mg base 1 "worths_of" (["book", "thing"]:List Str) (aP K cl 2 uY):=by
 have S:=fS (["book", "thing"]:List Str) (["book", "thing"]:List Str) (bx Ez)
 exact a.cN S (cl:=cl) (by decide) (by walk_at "2") (λf cdv A outer s H E hr=>⟨_,(aZ (bJ (jZ (sc:=bx Ez) (No:=(["book", "thing"]:List Str)) (N:=(["row", "thing"]:List Str)) (src:=[none,some 1]) (g:=(dW 0)) rfl rfl ⟨by rfl,by decide +kernel,by decide +kernel,by decide +kernel,by rfl,by decide +kernel⟩ rfl (gC (ao 0)) (λC s H ex=>(cQ 0 (show List.Nodup (["row", "thing"]:List Str) by decide +kernel))) (λC s H ex=>(tM tQ (ao 0) (eO 1) (λ_ _=>rfl)))))),λt hK hx=>by delta VB; walk_at "t"⟩)
end
end K57
end
section
namespace L2
open PySem
@[simp] theorem Rs.dF{α β : Type}(a : α)(f : α -> Rs β):(Rs.ok a).bind f=f a:=rfl
@[simp] theorem Rs.ak3{α β : Type}(f : α -> Rs β):(Rs.bad:Rs α).bind f=.bad:=rfl
@[simp] theorem Rs.ak4{α β : Type}(c:Str)(f : α -> Rs β):(Rs.ex c:Rs α).bind f=.ex c:=rfl
inductive Tg{α β : Type}(f : α -> Rs β):Type
 |mk
def bd{α β : Type}(r:Rs α)(f : α -> Rs β)(_:Tg f):Rs β := r.bind f
@[simp] theorem vp{α β : Type}(f : α -> Rs β)(a : α)(u:Tg f):bd (.ok a) f u=f a:=rfl
@[simp] theorem ak5{α β : Type}(f : α -> Rs β)(u:Tg f):bd .bad f u=.bad:=rfl
@[simp] theorem ak6{α β : Type}(f : α -> Rs β)(c:Str)(u:Tg f):bd (.ex c) f u=.ex c:=rfl
@[simp] theorem Wf(f g:SF)(ρ : En):aG f g ρ = ((bd (f ρ) (λp=>match p.1 with
 |.nx=>g p.2
 |fl=>.ok (fl,p.2)) .mk)):=rfl
@[simp] theorem afL(c:BF)(f g:SF)(ρ : En):bY c f g ρ = ((bd (c ρ) (λp=>if p.1=true then f p.2 else g p.2) .mk)):=rfl
@[simp] theorem ak7(f:EF)(ρ : En):aY f ρ = ((bd (f ρ) (λp=>match p.1 with
 |.v T fr=>.ok (.rt T fr,p.2)
 |.s i=>match p.2[i]? with
  |some (.ow ts)=>.ok (.rt (.lst ts) true,p.2)
  |_=>.bad) .mk)):=rfl
@[simp] theorem ak8(f:EF)(g:GF)(ρ : En):aW f g ρ = ((bd (f ρ) (λp=>match p.1 with
 |.v T _=>(bd (g T p.2) (λρ'=>.ok (.nx,ρ')) .mk)
 |.s _=>.bad) .mk)):=rfl
@[simp] theorem ak9(i:Nat)(f:EF)(ρ : En):j9 i f ρ = ((bd (f ρ) (λp=>match p.1 with
 |.v (.lst ts) true=>.ok (.nx,p.2.set i (.ow ts))
 |_=>.bad) .mk)):=rfl
@[simp] theorem ala  (ρ : En):bW  ρ = (.ok (.nx,ρ)):=rfl
@[simp] theorem alb(f:SF)(ρ : En):bZ f ρ = (cV (f ρ)):=rfl
@[simp] theorem alc(i j:Nat)(fa:AF)(ρ : En):zq i j fa ρ = ((bd (fa ρ) (λp=>(bd (cls p.1) (λTs=>match Ts with
 | [T,U]=>.ok (.nx,(p.2.set i (.sh T)).set j (.sh U))
 |_=>.bad) .mk)) .mk)):=rfl
@[simp] theorem ald(i:Nat)(fk fe:EF)(ρ : En):Dl i fk fe ρ = ((bd (fe ρ) (λp=>(bd (cls [p.1]) (λTs=>(bd (con p.2 i) (λ_=>(bd (fk p.2) (λq=>(bd (dr q.2 q.1) (λkT=>(bd (lW kT) (λk=>(bd (con q.2 i) (λts=>match Ts,eH ts.length k with
 | [T],some j=>.ok (.nx,cR i (ts.set j T) q.2)
 |_,_=>.bad) .mk)) .mk)) .mk)) .mk)) .mk)) .mk)) .mk)):=rfl
@[simp] theorem ale(f:EF)(ρ : En):jw f ρ = ((bd (f ρ) (λp=>.ok (.nx,p.2)) .mk)):=rfl
@[simp] theorem alf(fi:IF)(g:GF)(b:SF)(ρ : En):cO fi g b ρ = ((bd (fi ρ) (λp=>cM g b p.1 p.2) .mk)):=rfl
@[simp] theorem alg(i:Nat)(f:SF)(ρ : En):abY i f ρ = (f (ig i ρ)):=rfl
@[simp] theorem alh(i:Nat)(f:SF)(ρ : En):DP i f ρ = (f (uL i ρ)):=rfl
@[simp] theorem ali(i:Nat)(p:Int->Int->Int)(f:EF)(ρ : En):acd i p f ρ = (match ρ[i]? with
 |some (.sh (.int x))=>(bd (f ρ) (λq=>(bd (dr q.2 q.1) (λyT=>(bd (lW yT) (λy=>.ok (.nx,q.2.set i (.sh (.int (p x y))))) .mk)) .mk)) .mk)
 |_=>.bad):=rfl
@[simp] theorem alj(i:Nat)(fk:QF)(m:GM)(fa:QF)(ρ : En):adl i fk m fa ρ = ((bd (o8 ρ i) (λts=>(bd (cV (fk ρ)) (λk=>(bd (jd ts k) (λz=>match z.2 with
 |.lst us=>(bd (cV (fa ρ)) (λT=>(bd (m us [T]) (λy=>.ok (.nx,ρ.set i (.dp (ts.set z.1 (.lst y.1))))) .mk)) .mk)
 |_=>.bad) .mk)) .mk)) .mk)):=rfl
@[simp] theorem alk(i:Nat)(fk fj:QF)(fe:EF)(ρ : En):uK i fk fj fe ρ = ((bd (fe ρ) (λp=>(bd (mq p.1) (λT=>(bd (o8 p.2 i) (λts=>(bd (cV (fk p.2)) (λk=>(bd (jd ts k) (λz=>match z.2 with
 |.lst us=>(bd (cV (fj p.2)) (λj=>(bd (jd us j) (λy=>.ok (.nx,p.2.set i (.dp (ts.set z.1 (.lst (us.set y.1 T)))))) .mk)) .mk)
 |_=>.bad) .mk)) .mk)) .mk)) .mk)) .mk)):=rfl
@[simp] theorem afM(i:Nat)(src:List (Option Nat))(fi:IF)(g:GF)(c:BF)(f:EF)(ρ : En):uN i src fi g c f ρ = ((bd (fi ρ) (λp=>if p.1.length<=100000 then(bd (cV (uM g c f p.1 (fV src p.2))) (λz=>if gh src z.2 p.2=true then .ok (.nx,(cU src z.2 p.2).set i (.dp z.1))else .bad) .mk)else .bad) .mk)):=rfl
@[simp] theorem alm(i:Nat)(ρ : En):qy i ρ = (match ρ[i]? with
 |some (.sh T)=>.ok T
 |_=>.bad):=rfl
@[simp] theorem aln(T:Tr)(ρ : En):qC T ρ=.ok T:=rfl
@[simp] theorem alo(i:Nat)(fk fj:QF)(ρ : En):adk i fk fj ρ = ((bd (o8 ρ i) (λts=>(bd (fk ρ) (λk=>(bd (jd ts k) (λz=>match z.2 with
 |.lst us=>(bd (fj ρ) (λj=>(bd (jd us j) (λy=>.ok y.2) .mk)) .mk)
 |_=>.bad) .mk)) .mk)) .mk)):=rfl
@[simp] theorem alp(i:Nat)(ρ : En):aj i ρ = (match ρ[i]? with
 |some (.sh T)=>.ok (.v T false,ρ)
 |some (.ow _)=>.ok (.s i,ρ)
 |some (.rf _)=>.ok (.s i,ρ)
 |_=>.bad):=rfl
@[simp] theorem alq(T:Tr)(ρ : En):eC T ρ = (.ok (.v T false,ρ)):=rfl
@[simp] theorem alr(Ts:List Tr)(ρ : En):nu Ts ρ=.ok (.v (.lst Ts) true,ρ):=rfl
@[simp] theorem als(g:G2)(fa fb:EF)(ρ : En):aq g fa fb ρ = ((bd (fa ρ) (λp=>(bd (fb p.2) (λq=>(bd (dr q.2 p.1) (λa=>(bd (dr q.2 q.1) (λb=>(bd (g a b) (λz=>.ok (.v z.1 z.2,q.2)) .mk)) .mk)) .mk)) .mk)) .mk)):=rfl
@[simp] theorem alu(g:G1)(fa:EF)(ρ : En):wB g fa ρ = ((bd (fa ρ) (λp=>(bd (dr p.2 p.1) (λa=>(bd (g a) (λz=>.ok (.v z.1 z.2,p.2)) .mk)) .mk)) .mk)):=rfl
@[simp] theorem alv(g:GN)(fa:AF)(ρ : En):bF g fa ρ = ((bd (fa ρ) (λp=>(bd (drs p.2 p.1) (λas=>(bd (g as) (λz=>.ok (.v z.1 z.2,p.2)) .mk)) .mk)) .mk)):=rfl
@[simp] theorem alw(F:FP)(fa:AF)(ρ : En):aK F fa ρ = ((bd (fa ρ) (λp=>(bd (drs p.2 p.1) (λas=>(bd (F as) (λz=>if p.1.any aX=true/\jy z=false then .bad else .ok (.v z.1 z.2,p.2)) .mk)) .mk)) .mk)):=rfl
@[simp] theorem alx(r:Nat)(F:FR)(fa:AF)(ρ : En):gK r F fa ρ = ((bd (fa ρ) (λp=>match p.1[r]? with
 |some (.s i)=>if others r i p.1=true then((bd (con p.2 i) (λ_=>(bd (drs p.2 p.1) (λas=>(bd (F as) (λz=>if((p.1.eraseIdx r).any aX=true/\jy z.1=false)\/(((p.1.eraseIdx r).any aX=true\/z.1.2=true)/\jx z.2=false)then .bad else .ok (.v z.1.1 z.1.2,cR i z.2 p.2)) .mk)) .mk)) .mk))else .bad
 |_=>.bad) .mk)):=rfl
@[simp] theorem aly(a:Int):jx [.int a]=true:=rfl
@[simp] theorem alz(a b:Int):jx [.int a,.int b]=true:=rfl
@[simp] theorem alA(g:AF)(ρ : En):jk g ρ = ((bd (g ρ) (λp=>(bd (cls p.1) (λts=>if ts.length<=1000 then .ok (.v (.lst ts) true,p.2)else .bad) .mk)) .mk)):=rfl
@[simp] theorem alB(g:AF)(ρ : En):eY g ρ = ((bd (g ρ) (λp=>(bd (cls p.1) (λts=>if ts.length<=1000 then .ok (.v (.tup ts) false,p.2)else .bad) .mk)) .mk)):=rfl
@[simp] theorem alC(f g:EF)(ρ : En):lC f g ρ = ((bd (bV f ρ) (λp=>if p.1=true then g p.2 else .ok (eB false,p.2)) .mk)):=rfl
@[simp] theorem alD(f g:EF)(ρ : En):eOr f g ρ = ((bd (bV f ρ) (λp=>if p.1=true then .ok (eB true,p.2)else g p.2) .mk)):=rfl
@[simp] theorem alE(f:EF)(ρ : En):Jm f ρ = ((bd (bV f ρ) (λp=>.ok (eB (!p.1),p.2)) .mk)):=rfl
@[simp] theorem alF(c:BF)(f g:EF)(ρ : En):wC c f g ρ = ((bd (c ρ) (λp=>if p.1=true then f p.2 else g p.2) .mk)):=rfl
@[simp] theorem alG(c:Ty)(fa:EF)(ρ : En):iK c fa ρ = ((bd (fa ρ) (λp=>(bd (dr p.2 p.1) (λa=>.ok (eB (iy a c),p.2)) .mk)) .mk)):=rfl
@[simp] theorem alH(g g':G2)(fa fb fc:EF)(ρ : En):qg g g' fa fb fc ρ = ((bd (fa ρ) (λp=>(bd (fb p.2) (λq=>(bd (dr q.2 p.1) (λa=>(bd (dr q.2 q.1) (λb=>(bd (g a b) (λz=>(bd (bO z.1) (λk=>if k=true then(bd (fc q.2) (λs=>(bd (dr s.2 q.1) (λb=>(bd (dr s.2 s.1) (λc=>(bd (g' b c) (λz=>.ok (.v z.1 z.2,s.2)) .mk)) .mk)) .mk)) .mk)else .ok (eB false,q.2)) .mk)) .mk)) .mk)) .mk)) .mk)) .mk)):=rfl
@[simp] theorem alI(fa:EF)(fl fh:OF)(ρ : En):ur fa fl fh ρ = ((bd (fa ρ) (λp=>(bd (fl p.2) (λl=>(bd (fh l.2) (λh=>(bd (dr h.2 p.1) (λa=>(bd (rT l.1 h.1 a) (λz=>.ok (.v z.1 z.2,h.2)) .mk)) .mk)) .mk)) .mk)) .mk)):=rfl
@[simp] theorem Ga(src:List (Option Nat))(fi:IF)(g:GF)(c:BF)(f:EF)(ρ : En):cD src fi g c f ρ = ((bd (fi ρ) (λp=>if p.1.length<=100000 then(bd (cV (gR g c f p.1 (fV src p.2))) (λz=>if gh src z.2 p.2=true then .ok (.v (.lst z.1) true,cU src z.2 p.2)else .bad) .mk)else .bad) .mk)):=rfl
@[simp] theorem alJ(i:Nat)(m:GM)(fa:AF)(ρ : En):oZ i m fa ρ = ((bd (con ρ i) (λ_=>(bd (fa ρ) (λp=>(bd (cls p.1) (λas=>(bd (con p.2 i) (λts=>(bd (m ts as) (λz=>.ok (.v z.2 false,cR i z.1 p.2)) .mk)) .mk)) .mk)) .mk)) .mk)):=rfl
@[simp] theorem alK(i:Nat)(m:GM)(ρ : En):ab6 i m ρ = ((bd (con ρ i) (λts=>(bd (m ts []) (λz=>.ok (.v z.2 false,cR i z.1 ρ)) .mk)) .mk)):=rfl
@[simp] theorem alL(fa:EF)(ρ : En):bV fa ρ = ((bd (fa ρ) (λp=>(bd (dr p.2 p.1) (λa=>(bd (bO a) (λb=>.ok (b,p.2)) .mk)) .mk)) .mk)):=rfl
@[simp] theorem alM(fa:EF)(ρ : En):cL fa ρ = ((bd (fa ρ) (λp=>(bd (dr p.2 p.1) (λa=>(bd (cX a) (λb=>.ok (b,p.2)) .mk)) .mk)) .mk)):=rfl
@[simp] theorem alN(f g:BF)(ρ : En):oO f g ρ = ((bd (f ρ) (λp=>if p.1=true then g p.2 else .ok (false,p.2)) .mk)):=rfl
@[simp] theorem alO(f g:BF)(ρ : En):f9 f g ρ = ((bd (f ρ) (λp=>if p.1=true then .ok (true,p.2)else g p.2) .mk)):=rfl
@[simp] theorem alP(f:BF)(ρ : En):dU f ρ = ((bd (f ρ) (λp=>.ok (!p.1,p.2)) .mk)):=rfl
@[simp] theorem Wg  (ρ : En):cH  ρ = (.ok (true,ρ)):=rfl
@[simp] theorem alQ  (ρ : En):au  ρ = (.ok ([],ρ)):=rfl
@[simp] theorem alR(f:EF)(g:AF)(ρ : En):ak f g ρ = ((bd (f ρ) (λp=>(bd (g p.2) (λq=>.ok (p.1::q.1,q.2)) .mk)) .mk)):=rfl
@[simp] theorem alS(f:EF)(ρ : En):bQ f ρ = ((bd (f ρ) (λp=>(bd (oW p.1) (λz=>.ok (z.1,p.2)) .mk)) .mk)):=rfl
@[simp] theorem alT(fa:AF)(ρ : En):fL fa ρ = ((bd (fa ρ) (λp=>(bd (drs p.2 p.1) (λas=>match as with
 | [.int j]=>if okR j=true then .ok (upTo 0 j.toNat,p.2)else .bad
 |_=>.bad) .mk)) .mk)):=rfl
@[simp] theorem alU(fa:AF)(ρ : En):ab5 fa ρ = ((bd (fa ρ) (λp=>(bd (drs p.2 p.1) (λas=>match as with
 | [.int i,.int j]=>if okR i=true/\okR j=true then .ok (upTo i (j-i).toNat,p.2)else .bad
 |_=>.bad) .mk)) .mk)):=rfl
@[simp] theorem alV(fa:AF)(ρ : En):qz fa ρ = ((bd (fa ρ) (λp=>match p.1 with
 | [.v (.lst us) _,.v (.lst vs) _]=>.ok (o9 us vs,p.2)
 |_=>.bad) .mk)):=rfl
@[simp] theorem alW  (ρ : En):uo  ρ = (.ok (none,ρ)):=rfl
@[simp] theorem alX(fa:EF)(ρ : En):uq fa ρ = ((bd (fa ρ) (λp=>(bd (dr p.2 p.1) (λa=>(bd (lW a) (λb=>.ok (some b,p.2)) .mk)) .mk)) .mk)):=rfl
@[simp] theorem alY(i:Nat)(T:Tr)(ρ : En):gN i T ρ = (.ok (ρ.set i (.sh T))):=rfl
@[simp] theorem alZ(n:Nat)(f:m6)(T:Tr)(ρ : En):gT n f T ρ = (match T with
 |.tup Ts=>if Ts.length=n then f Ts ρ else .bad
 |_=>.bad):=rfl
@[simp] theorem al0  (Ts:List Tr)(ρ : En):dD  Ts ρ = (match Ts with
 | []=>.ok ρ
 |_=>.bad):=rfl
@[simp] theorem al1(f:GF)(g:m6)(Ts:List Tr)(ρ : En):bL f g Ts ρ = (match Ts with
 |T::r=>(bd (f T ρ) (λρ'=>g r ρ') .mk)
 | []=>.bad):=rfl
@[simp] theorem al2(a:Tr):bA 1 [a]=[.sh a]:=rfl
end L2
end
section
namespace BH
open PySem L2
theorem jJ(i:Int):dep (.int i)=0:=rfl
theorem M9(i:Str):dep (.str i)=0:=rfl
theorem afN(ts:List Tr):dep (.tup ts)=deps ts+1:=by simp only[dep]
theorem Wh(ts:List Tr):dep (.lst ts)=deps ts+1:=by simp only[dep]
theorem Wi:deps []=0:=rfl
theorem Gb(t:Tr)(ts:List Tr):deps (t::ts)=max (dep t) (deps ts):=by simp only[deps]
theorem nY(i j:Int):eqT (.int i) (.int j)=(i == j):=by simp only[eqT]
theorem afO(i j:Str):eqT (.str i) (.str j)=(i == j):=by simp only[eqT]
def isW:Tr->Bool
 |.int _=>true
 |_=>false
theorem Aj(T:Tr):nJ [T]=.ok (.bl (isW T),false):=by cases T <;> rfl
def wc:BF:=bV (aq dO (aj 1) (eC (.int 0)))
def wb:SF:=zq 0 1 (ak (aj 1) (ak (aq dR (aj 0) (aj 1)) au))
theorem afP(a b:Int):wc [.sh (.int a),.sh (.int b)]=.ok (!(b == 0),[.sh (.int a),.sh (.int b)]):=rfl
theorem afQ(a b:Int)(h:b≠0):wb [.sh (.int a),.sh (.int b)]=.ok (.nx,[.sh (.int b),.sh (.int (a.fmod b))]):=by
 unfold wb; simp -dsimp[dr,cls,ju,dR,h]
theorem Wj:∀(n:Nat) (a b:Int),b.natAbs<n->∃g:Int,m8 wc wb n [.sh (.int a),.sh (.int b)]=.ok (.nx,[.sh (.int g),.sh (.int 0)])/\(if g<0 then -g else g)=((Int.gcd a b:Nat):Int)
 | 0,a,b,h=>by omega
 |n+1,a,b,h=>by
  unfold m8
  rw[afP]
  by_cases z:b=0
  ·subst z
   exact⟨a,rfl,aaY a⟩
  ·obtain⟨g,h1,h2⟩:=Wj n b (a.fmod b) (by have:=aaW a b z; omega)
   refine⟨g,?_,by rw[h2,aaX]⟩
   have e:(!(b == 0))=true:=by simp[z]
   simp only[Rs.bind,e,if_true]
   rw[afQ a b z]
   exact h1
def Wk:SF:=(aG (bZ (jE (zA 1) wc wb)) (aY (bF (g1 wF) (ak (aj 0) au))))
theorem Wl(a b:Int):aQ 2 Wk [.int a,.int b]=.ok (.int (Int.gcd a b:Nat),false):=by
 obtain⟨g,h1,h2⟩:=Wj (b.natAbs+1) a b (by omega)
 have h0:bA 2 [.int a,.int b]=[.sh (.int a),.sh (.int b)]:=rfl
 have h3:bZ (jE (zA 1) wc wb) [.sh (.int a),.sh (.int b)]=.ok (.nx,[.sh (.int g),.sh (.int 0)]):=by
  unfold bZ jE
  rw[show zA 1 [.sh (.int a),.sh (.int b)]=b.natAbs+1 from rfl,h1]
  rfl
 rw[<-h2]
 unfold aQ Wk aG
 rw[h0,h3]
 rfl
theorem Nb(a b:Int):qL [.int a,.int b]=.ok (.int (Int.gcd a b:Nat),false):=Wl a b
def Gd:Tr->Tr->Bool
 |.int p,.int q=>decide (1<=q)&&(Int.gcd p q == 1)
 |_,_=>false
def mF:Tr->Bool
 |.tup [a,b]=>Gd a b
 |_=>false
theorem afR(n:Nat):((n:Int) == 1)=(n == 1):=by
 rw[Bool.eq_iff_iff]; simp; omega
theorem vq(T:Tr):sJ [T]=.ok (.bl (mF T),false):=by
 unfold sJ Kg aQ
 cases T with
 |tup ts =>
  match ts with
  | []=>rfl
  | [_]=>rfl
  | [a,b] =>
   cases a <;> cases b <;> try rfl
   rename_i p q
   simp -dsimp[eB,bO,cX,dr,drs,g1,gB,cj,dO,lA,bK,aX,jJ,nY,iy,bA,Aj,isW,Nb,mF,Gd,afR]
   by_cases h:1<=q <;> simp[h]
  |a::b::c::r =>
   have:((r.length:Int)+1+1+1 == 2)=false:=by simp; omega
   simp -dsimp[eB,bO,cX,dr,drs,g1,dO,lA,bK,jJ,nY,iy,bA,mF,this]
 |_=>rfl
def Nf:Tr->Tr->Bool
 |.int p,.int q=>decide (0<=p)&&decide (p<=q)&&decide (1<=q)&&(Int.gcd p q == 1)
 |_,_=>false
def lH:Tr->Bool
 |.tup [a,b]=>Nf a b
 |_=>false
theorem afS(T:Tr):qO [T]=.ok (.bl (lH T),false):=by
 unfold qO Kh aQ
 cases T with
 |tup ts =>
  match ts with
  | []=>simp -dsimp[eB,bO,dr,drs,d7,aX,bA,vq,mF,lH]
  | [_]=>simp -dsimp[eB,bO,dr,drs,d7,aX,bA,vq,mF,lH]
  | [a,b] =>
   by_cases w:isW a=true/\isW b=true
   case neg =>
    have w1:Gd a b=false:=by cases a <;> cases b <;> first|rfl|exact absurd ⟨rfl,rfl⟩ w
    have w2:Nf a b=false:=by cases a <;> cases b <;> first|rfl|exact absurd ⟨rfl,rfl⟩ w
    simp -dsimp[eB,bO,dr,drs,d7,aX,bA,vq,mF,lH,w1,w2]
   cases a <;> try cases w.1
   cases b <;> try cases w.2
   rename_i p q
   simp -dsimp[eB,bO,dr,drs,gB,d7,aB,aX,dX,eH,bA,vq,mF,lH,Gd,Nf]
   by_cases h:1<=q <;> by_cases h2:p.gcd q=1 <;> by_cases h3:0<=p <;> simp[h,h2,h3]
  |a::b::c::r=>simp -dsimp[eB,bO,dr,drs,d7,aX,bA,vq,mF,lH]
 |_=>simp -dsimp[eB,bO,dr,drs,d7,aX,bA,vq,mF,lH]
end BH
end
section
namespace BH
open PySem L2
theorem comp_map{f:EF}{h:Tr->Tr}{τ : En}:∀(us:List Tr) (s:Sl),(∀u∈us,∃fr,f (.sh u::τ)=.ok (.v (h u) fr,.sh u::τ))->∃s',gR (gN 0) cH f us (s::τ)=.ok (us.map h,s'::τ)
 | [],s,_=>⟨s,rfl⟩
 |u::us,s,q=>by
  obtain⟨fr,e⟩:=q u (by simp)
  obtain⟨s',e'⟩:=comp_map us (.sh u) λv hv=>q v (by simp[hv])
  refine⟨s',?_⟩
  unfold gR
  simp[e,mq,e']
theorem Ng{p:Tr->Bool}:∀us:List Tr,ql (us.map λu=>.bl (p u))=some (us.map p)
 | []=>rfl
 |u::us=>by simp[ql,Ng us]
theorem Wm{F:FP}{p:Tr->Bool}{us:List Tr}{ρ : En}{i:IF}{fe:EF}(hl:us.length<=100000)(hi:i ρ=.ok (us,ρ))(hf:∀u∈us,∃fr,fe [.sh u]=.ok (.v (.bl (p u)) fr,[.sh u])):bF (g1 gA) (ak (cD [none] i (gN 0) cH fe) au) ρ=.ok (.v (.bl (us.all p)) false,ρ):=by
 obtain⟨s',e⟩:=comp_map (h:=λu=>.bl (p u)) us .un hf
 simp -dsimp[cV,dr,drs,g1,gA,fV,cU,gh,su,hi,hl,e,Ng]
theorem afT{p:Tr->Bool}{us:List Tr}{ρ : En}{i:IF}{fe:EF}{j:Nat}{T:Tr}(hl:us.length<=100000)(hi:i ρ=.ok (us,ρ))(hj : ρ[j]?=some (.sh T))(hf:∀u∈us,∃fr,fe [.sh u,.sh T]=.ok (.v (.bl (p u)) fr,[.sh u,.sh T])):bF (g1 gA) (ak (cD [none,some j] i (gN 0) cH fe) au) ρ=.ok (.v (.bl (us.all p)) false,ρ):=by
 obtain⟨s',e⟩:=comp_map (h:=λu=>.bl (p u)) us .un hf
 simp -dsimp[cV,dr,drs,g1,gA,fV,cU,gh,o7,su,hi,hl,hj,e,Ng]
def mG(m:Int):Tr->Bool
 |.lst ts=>decide (1<=(ts.length:Int))&&decide ((ts.length:Int)<=m)&&ts.all lH
 |_=>false
theorem afU(T:Tr)(m:Int)(hm:m<=1000):uU [T,.int m]=.ok (.bl (mG m T),false):=by
 unfold uU Km aQ
 cases T with
 |lst ts =>
  by_cases h1:1<=(ts.length:Int)
  ·by_cases h2:(ts.length:Int)<=m
   ·have e:=Wm (F:=qO) (p:=lH) (us:=ts) (ρ:=[.sh (.lst ts),.sh (.int m)]) (i:=bQ (aj 0)) (fe:=aK qO (ak (aj 0) au)) (by omega) rfl (λu _=>⟨false,by simp -dsimp[dr,drs,aX,afS]⟩)
    generalize bF (g1 gA) (ak (cD [none] (bQ (aj 0)) (gN 0) cH (aK qO (ak (aj 0) au))) au)=G at e ⊢
    simp -dsimp[eB,bO,cX,dr,drs,g1,gB,d7,bK,iy,bA,h1,h2,e,mG]
   ·simp -dsimp[eB,bO,cX,dr,drs,g1,gB,d7,bK,iy,bA,h1,h2,mG]
  ·simp -dsimp[eB,bO,cX,dr,drs,g1,gB,d7,bK,iy,bA,h1,mG]
 |_=>simp -dsimp[eB,cX,dr,d7,iy,bA,mG]
def mH:Tr->Int
 |.lst ts=>ts.length
 |_=>-1
def mJ:Tr->Bool
 |.lst rs=>decide (1<=(rs.length:Int))&&decide ((rs.length:Int)<=4)&&rs.all (mG 12)&&rs.all λr=>mH r == mH (rs.headD .non)
 |_=>false
theorem Wn{m:Int}{T:Tr}(h:mG m T=true):∃ts,T=.lst ts:=by
 cases T <;> first|exact⟨_,rfl⟩|cases h
theorem afV(T:Tr):zQ [T]=.ok (.bl (mJ T),false):=by
 unfold zQ Vs aQ
 cases T with
 |lst ts =>
  by_cases h1:1<=(ts.length:Int)
  ·by_cases h2:(ts.length:Int)<=4
   ·have e:=Wm (F:=qO) (p:=mG 12) (us:=ts) (ρ:=[.sh (.lst ts)]) (i:=bQ (aj 0)) (fe:=(aK uU (ak (aj 0) (ak (eC (.int 12)) au)))) (by omega) rfl (λu _=>⟨false,by simp -dsimp[dr,drs,aX,afU]⟩)
    generalize bF (g1 gA) (ak (cD [none] (bQ (aj 0)) (gN 0) cH (aK uU (ak (aj 0) (ak (eC (.int 12)) au)))) au)=G at e ⊢
    cases h3:ts.all (mG 12)with
    |false=>rw[h3]at e; simp -dsimp[eB,bO,cX,dr,drs,g1,gB,d7,bK,iy,bA,h1,h2,e,mJ,h3]
    |true =>
     have h4:=List.all_eq_true.mp h3
     obtain⟨r0,rs,rfl⟩:∃r0 rs,ts=r0::rs:=by cases ts with
      |nil=>simp at h1
      |cons a b=>exact⟨a,b,rfl⟩
     obtain⟨l0,rfl⟩:=Wn (h4 r0 (by simp))
     have e2:=afT (p:=λr=>mH r == (l0.length:Int)) (us:=.lst l0::rs) (ρ:=[.sh (.lst (.lst l0::rs))]) (j:=0) (T:=.lst (.lst l0::rs)) (i:=bQ (aj 0)) (fe:=(aq cj (bF (g1 bK) (ak (aj 0) au)) (bF (g1 bK) (ak (aq aB (aj 1) (eC (.int 0))) au)))) (by omega) rfl rfl (λu hu=>⟨false,by
      obtain⟨l,rfl⟩:=Wn (h4 u hu)
      have:(0:Int)<(rs.length:Int)+1:=by omega
      simp -dsimp[dr,drs,g1,cj,aB,bK,jJ,nY,dX,eH,mH,this]⟩)
     generalize bF (g1 gA) (ak (cD [none,some 0] (bQ (aj 0)) (gN 0) cH (aq cj (bF (g1 bK) (ak (aj 0) au)) (bF (g1 bK) (ak (aq aB (aj 1) (eC (.int 0))) au)))) au)=G2 at e2 ⊢
     rw[h3]at e
     have e3:mJ (.lst (.lst l0::rs))=(Tr.lst l0::rs).all (λr=>mH r == (l0.length:Int)):=by
      show(decide (1<=((Tr.lst l0::rs).length:Int))&&decide (((Tr.lst l0::rs).length:Int)<=4)&&(Tr.lst l0::rs).all (mG 12)&&(Tr.lst l0::rs).all λr=>mH r == mH (.lst l0))=_
      rw[h3,decide_eq_true h1,decide_eq_true h2]
      rfl
     rw[e3]
     generalize (Tr.lst l0::rs).all (λr=>mH r == (l0.length:Int))=bb at e2
     have h1':(1:Int)<=(rs.length:Int)+1:=by omega
     have h2':(rs.length:Int)+1<=4:=by simp only[List.length_cons]at h2; omega
     simp -dsimp[eB,bO,cX,dr,drs,g1,gB,d7,bK,iy,bA,h1',h2',e,e2]
   ·simp -dsimp[eB,bO,cX,dr,drs,g1,gB,d7,bK,iy,bA,h1,h2,mJ]
  ·simp -dsimp[eB,bO,cX,dr,drs,g1,gB,d7,bK,iy,bA,h1,mJ]
 |_=>simp -dsimp[eB,cX,dr,d7,iy,bA,mJ]
end BH
end
section
namespace L2
open PySem
@[simp] theorem al3(fa:AF)(ρ : En):eLR fa ρ = bd (fa ρ) (λp=>match p.1 with
 | [.v (.int n) _]=>if 0<=n/\n<=1000 then .ok (.v (.lst ((List.range n.toNat).map λi:Nat=>Tr.int i)) true,p.2)else .bad
 |_=>.bad) .mk:=rfl
@[simp] theorem al4(F:FR)(fa:EF)(ρ : En):ad5 F fa ρ = bd (fa ρ) (λp=>match p.1 with
 |.v (.lst us) true=>bd (F [.lst us]) (λz=>.ok (.v z.1.1 z.1.2,p.2)) .mk
 |_=>.bad) .mk:=rfl
@[simp] theorem al5(kt:Tr->Option (Int × Int))(src:List (Option Nat))(fa:AF)(fb:RF)(ρ : En):Ed kt src fa fb ρ = bd (fa ρ) (λp=>match p.1 with
 | [.v (.int n) _]=>if 0<=n/\n<64 then bd (cV (uQ kt fb (zL src p.2) (List.range n.toNat))) (λks=>.ok (.v (.lst ((zK n.toNat λi=>ks.getD i (0,0)).map λi:Nat=>Tr.int i)) true,p.2)) .mk else .bad
 |_=>.bad) .mk:=rfl
end L2
namespace BH
open PySem L2
def fT(x:Int × Int):Tr:=.tup [.int x.1,.int x.2]
theorem Wr{k:Int}{M:Nat}(h:k.natAbs<2 ^ M)(hM:M<=8000):k.natAbs.log2<9000:=by
 by_cases z:k.natAbs=0
 ·rw[z]; decide
 ·have:=(Nat.log2_lt (n:=k.natAbs) (k:=M) z).mpr h
  omega
theorem Ws{k:Int}{M:Nat}(h:k.natAbs<2 ^ M)(hM:M<=8000):fit k=true:=by
 have:=Wr h hM
 unfold fit
 rw[decide_eq_true_eq]
 omega
theorem iH{i j:Int}{M N:Nat}(h1:i.natAbs<2 ^ M)(hM:M<=8000)(h2:j.natAbs<2 ^ N)(hN:N<=8000):cW i j=true:=by
 unfold cW
 rw[Ws h1 hM,Ws h2 hN]
 rfl
theorem xP{i j:Int}{M:Nat}(h0:j≠0)(h:j.natAbs<2 ^ M)(hM:M<=8000):lV i j=true:=by
 unfold lV
 rw[Bool.and_eq_true,decide_eq_true_eq,decide_eq_true_eq]
 exact⟨h0,Wr h hM⟩
theorem afW{B q:Int}(hB:1<=B)(hq:1<=q):let B':=(B*q).fdiv ((Int.gcd B q:Nat):Int); 1<=B'/\B∣B'/\q∣B'/\B'<=B*q:=by
 have g0:0<Int.gcd B q:=Int.gcd_pos_of_ne_zero_left _ (by omega)
 obtain⟨b,hb⟩:=Int.gcd_dvd_left (a:=B) (b:=q)
 obtain⟨o,ho⟩:=Int.gcd_dvd_right (a:=B) (b:=q)
 generalize hg:((Int.gcd B q:Nat):Int)=g at hb ho
 have g1:0<g:=by omega
 have b1:0<b:=by
  rcases Int.lt_or_le 0 b with z|z
  ·exact z
  ·have:=Int.mul_nonpos_of_nonneg_of_nonpos (a:=g) (b:=b) (by omega) z; omega
 have o1:0<o:=by
  rcases Int.lt_or_le 0 o with z|z
  ·exact z
  ·have:=Int.mul_nonpos_of_nonneg_of_nonpos (a:=g) (b:=o) (by omega) z; omega
 have e:(B*q).fdiv g=B*o:=by
  rw[Int.fdiv_eq_ediv_of_nonneg _ (by omega)]
  have:B*q=g*(B*o):=by rw[ho]; ac_rfl
  rw[this]
  exact Int.mul_ediv_cancel_left _ (by omega)
 dsimp only
 rw[e]
 refine⟨?_,⟨o,rfl⟩,⟨b,?_⟩,?_⟩
 ·have:=Int.mul_pos (a:=B) (b:=o) (by omega) o1; omega
 ·conv=>lhs; rw[hb]
  conv=>rhs; rw[ho]
  ac_rfl
 ·refine Int.mul_le_mul_of_nonneg_left ?_ (by omega)
  rw[ho]
  have:=Int.mul_le_mul_of_nonneg_right (a:=1) (b:=g) (c:=o) (by omega) (by omega)
  omega
def vA:SF:=(aW (aq fU (aq bU (aj 1) (aj 3)) (aK qL (ak (aj 1) (ak (aj 3) au)))) (gN 1))
theorem afX(s0:Sl)(B p q:Int){M N:Nat}(hB:1<=B)(hq:1<=q)(hB2:B<2 ^ M)(hM:M<=8000)(hq2:q<2 ^ N)(hN:N<=8000):vA [s0,.sh (.int B),.sh (.int p),.sh (.int q)]=.ok (.nx,[s0,.sh (.int ((B*q).fdiv ((Int.gcd B q:Nat):Int))),.sh (.int p),.sh (.int q)]):=by
 have g0:0<Int.gcd B q:=Int.gcd_pos_of_ne_zero_left _ (by omega)
 have gl:Int.gcd B q<=q.natAbs:=Nat.le_of_dvd (by omega) (Int.gcd_dvd_natAbs_right ..)
 have eM:((2 ^ M:Nat):Int)=2 ^ M:=by push_cast; rfl
 have eN:((2 ^ N:Nat):Int)=2 ^ N:=by push_cast; rfl
 have c1:cW B q=true:=iH (M:=M) (N:=N) (by omega) hM (by omega) hN
 have c2:∀i,lV i ((Int.gcd B q:Nat):Int)=true:=λi=>xP (M:=N) (by omega) (by omega) hN
 unfold vA
 simp -dsimp[dr,drs,ju,bU,fU,aX,Nb,c1,c2]
def Fr(N:Nat)(l:List (Int × Int)):Prop:=∀x∈l,1<=x.2/\x.2<2 ^ N
theorem Wt{N:Nat}(s0:Sl):∀(l:List (Int × Int)) (B:Int) (M:Nat) (s2 s3:Sl),Fr N l->1<=B->B<2 ^ M->M+N*l.length<=8000->N<=8000->∃B' t2 t3,cM (gT 2 (bL (gN 2) (bL (gN 3) dD))) vA (l.map fT) [s0,.sh (.int B),s2,s3]=.ok (.nx,[s0,.sh (.int B'),t2,t3])/\1<=B'/\B'<2 ^ (M+N*l.length)/\B∣B'/\∀x∈l,x.2∣B'
 | [],B,M,s2,s3,_,h1,h2,_,_=>⟨B,s2,s3,rfl,h1,by simpa using h2,Int.dvd_refl _,by simp⟩
 |x::l,B,M,s2,s3,h,h1,h2,h3,h4=>by
  obtain⟨a1,a2⟩:=h x (by simp)
  obtain⟨b1,b2,b3,b4⟩:=afW h1 a1
  have e:=afX s0 B x.1 x.2 h1 a1 h2 (by omega) a2 h4
  generalize (B*x.2).fdiv ((Int.gcd B x.2:Nat):Int)=B1 at b1 b2 b3 b4 e
  have lt:B1<2 ^ (M+N):=by
   have p1:(0:Int)<2 ^ N:=Int.pow_pos (by omega)
   have q1:B*x.2<=B*2 ^ N:=Int.mul_le_mul_of_nonneg_left (by omega) (by omega)
   have q2:B*2 ^ N<2 ^ M*2 ^ N:=Int.mul_lt_mul_of_pos_right h2 p1
   rw[Int.pow_add]
   omega
  rw[List.length_cons]at h3
  have hm:M+N+N*l.length=M+N*(l.length+1):=by rw[Nat.mul_succ]; omega
  obtain⟨B',t2,t3,e',c1,c2,c3,c4⟩:=Wt s0 l B1 (M+N) (.sh (.int x.1)) (.sh (.int x.2)) (λy hy=>h y (by simp[hy])) b1 lt (by omega) h4
  refine⟨B',t2,t3,?_,c1,by rw[List.length_cons,<-hm]; exact c2,Int.dvd_trans b2 c3,λy hy=>?_⟩
  ·show cM _ vA (fT x::l.map fT) _=_
   unfold cM
   rw[show(gT 2 (bL (gN 2) (bL (gN 3) dD))) (fT x) [s0,.sh (.int B),s2,s3]=.ok [s0,.sh (.int B),.sh (.int x.1),.sh (.int x.2)]from rfl]
   simp only[Rs.dF]
   rw[e]
   exact e'
  ·rcases List.mem_cons.mp hy with rfl|hy
   ·exact Int.dvd_trans b3 c3
   ·exact c4 y hy
theorem afY{N:Nat}(l:List (Int × Int))(h:Fr N l)(hl:1+N*l.length<=8000)(hN:N<=8000):∃B,zR [.lst (l.map fT)]=.ok (.int B,false)/\1<=B/\B<2 ^ (1+N*l.length)/\∀x∈l,x.2∣B:=by
 obtain⟨B,t2,t3,e,h1,h2,_,h3⟩:=Wt (.sh (.lst (l.map fT))) l 1 1 .un .un h (by omega) (by omega) hl hN
 refine⟨B,?_,h1,h2,h3⟩
 show aQ 4 (aG (aW (eC (.int 1)) (gN 1)) (aG (bZ (cO (bQ (aj 0)) (gT 2 (bL (gN 2) (bL (gN 3) dD))) vA)) (aY (aj 1)))) [.lst (l.map fT)]=_
 have e1:bZ (cO (bQ (aj 0)) (gT 2 (bL (gN 2) (bL (gN 3) dD))) vA) [.sh (.lst (l.map fT)),.sh (.int 1),.un,.un]=.ok (.nx,[.sh (.lst (l.map fT)),.sh (.int B),t2,t3]):=by
  unfold bZ cO
  show cV (cM _ vA (l.map fT) _)=_
  rw[e]
  rfl
 generalize bZ _=G at e1 ⊢
 generalize Tr.lst (l.map fT)=T at e1 ⊢
 unfold aQ
 simp -dsimp[bA,e1]
def Ak:EF:=(aq bU (aj 0) (aq fU (aj 2) (aj 1)))
theorem Wu{B:Int}{M N:Nat}(hB:1<=B)(hB2:B<2 ^ M)(hM:M<=8000)(hN:N<=8000):∀(l:List (Int × Int)) (s0 s1:Sl),Fr N l->(∀x∈l,x.1.natAbs<2 ^ N)->∃t0 t1,gR (gT 2 (bL (gN 0) (bL (gN 1) dD))) cH Ak (l.map fT) [s0,s1,.sh (.int B)]=.ok (l.map λx=>.int (x.1*(B / x.2)),[t0,t1,.sh (.int B)])
 | [],s0,s1,_,_=>⟨s0,s1,rfl⟩
 |x::l,s0,s1,h,h'=>by
  obtain⟨a1,a2⟩:=h x (by simp)
  have a3:=h' x (by simp)
  obtain⟨t0,t1,e⟩:=Wu hB hB2 hM hN l (.sh (.int x.1)) (.sh (.int x.2)) (λy hy=>h y (by simp[hy])) (λy hy=>h' y (by simp[hy]))
  refine⟨t0,t1,?_⟩
  have eM:((2 ^ M:Nat):Int)=2 ^ M:=by push_cast; rfl
  have eN:((2 ^ N:Nat):Int)=2 ^ N:=by push_cast; rfl
  have d0:=Int.ediv_nonneg (a:=B) (b:=x.2) (by omega) (by omega)
  have d1:=Int.ediv_le_self (a:=B) x.2 (by omega)
  have c1:lV B x.2=true:=xP (M:=N) (by omega) (by omega) hN
  have c2:cW x.1 (B / x.2)=true:=iH (M:=N) (N:=M) a3 hN (by omega) hM
  have e1:Ak [.sh (.int x.1),.sh (.int x.2),.sh (.int B)]=.ok (.v (.int (x.1*(B / x.2))) false,[.sh (.int x.1),.sh (.int x.2),.sh (.int B)]):=by
   unfold Ak
   have fe:B.fdiv x.2=B / x.2:=Int.fdiv_eq_ediv_of_nonneg _ (by omega)
   simp -dsimp[dr,ju,bU,fU,c1,fe,c2]
  show gR _ cH Ak (fT x::l.map fT) _=_
  unfold gR
  rw[show(gT 2 (bL (gN 0) (bL (gN 1) dD))) (fT x) [s0,s1,.sh (.int B)]=.ok [.sh (.int x.1),.sh (.int x.2),.sh (.int B)]from rfl]
  simp only[Rs.dF,Wg,if_true]
  rw[e1]
  simp only[Rs.dF,mq]
  rw[e]
  rfl
def Frs(N:Nat)(l:List (Int × Int)):Prop:=∀x∈l,1<=x.2/\x.2<2 ^ N/\x.1.natAbs<2 ^ N
theorem Frs.fr{N:Nat}{l:List (Int × Int)}(h:Frs N l):Fr N l:=λx hx=>⟨(h x hx).1,(h x hx).2.1⟩
theorem afZ{N:Nat}(l:List (Int × Int))(h:Frs N l)(hl:1+N*l.length<=8000)(hN:N<=8000)(hl2:l.length<=1000):∃B,Ej [.lst (l.map fT)]=.ok (.lst (l.map λx=>.int (x.1*(B / x.2))),true)/\1<=B/\∀x∈l,x.2∣B:=by
 obtain⟨B,e,h1,h2,h3⟩:=afY l h.fr hl hN
 obtain⟨t0,t1,e2⟩:=Wu h1 h2 hl hN l .un .un h.fr λx hx=>(h x hx).2.2
 refine⟨B,?_,h1,h3⟩
 show aQ 2 (aG (aW (aK zR (ak (aj 0) au)) (gN 1)) (aY (cD [none,none,some 1] (bQ (aj 0)) (gT 2 (bL (gN 0) (bL (gN 1) dD))) cH Ak))) [.lst (l.map fT)]=_
 unfold aQ
 simp -dsimp[cV,dr,drs,oW,aX,fV,cU,gh,o7,su,bA,e,e2,show l.length<=100000 by omega]
def xQ(l:List (Int × Int))(i j:Nat):Prop:=(l.getD j (0,1)).1*(l.getD i (0,1)).2<(l.getD i (0,1)).1*(l.getD j (0,1)).2\/((l.getD j (0,1)).1*(l.getD i (0,1)).2=(l.getD i (0,1)).1*(l.getD j (0,1)).2/\i<j)
def Fall(l:List (Int × Int))(ys:List Nat):Prop:=ys.Perm (List.range l.length)/\ys.Pairwise (xQ l)
theorem Ww(ts:List Int):∀(is:List Nat),(∀i∈is,i<ts.length)->uQ zM (wY mZ (wX aB (qJ 1) (qJ 0))) [some (.lst (ts.map Tr.int))] is=.ok (is.map λi=>(-(ts.getD i 0),0))
 | [],_=>rfl
 |i::is,h=>by
  have hi:=h i (by simp)
  have e:(wY mZ (wX aB (qJ 1) (qJ 0))) [some (Tr.int i),some (.lst (ts.map Tr.int))]=.ok (.int (-(ts.getD i 0))):=by
   unfold wY wX qJ
   have a:dX (ts.map Tr.int) (i:Int)=some (.int (ts.getD i 0)):=by
    unfold dX eH
    simp[hi]
   simp[aB,a,mZ]
  unfold uQ
  rw[e,Ww ts is λj hj=>h j (by simp[hj])]
  rfl
theorem top_lt{B p q r s:Int}(hB:1<=B)(hq:1<=q)(hs:1<=s)(dq:q∣B)(ds:s∣B):(p*(B / q)<r*(B / s)↔p*s<r*q)/\(p*(B / q)=r*(B / s)↔p*s=r*q):=by
 obtain⟨a,ha⟩:=dq
 obtain⟨b,hb⟩:=ds
 have e1:B / q=a:=by rw[ha]; exact Int.mul_ediv_cancel_left _ (by omega)
 have e2:B / s=b:=by rw[hb]; exact Int.mul_ediv_cancel_left _ (by omega)
 rw[e1,e2]
 have x1:(p*a)*(q*s)=(p*s)*B:=by rw[ha]; ac_rfl
 have x2:(r*b)*(q*s)=(r*q)*B:=by rw[hb]; ac_rfl
 have qs:0<q*s:=Int.mul_pos (by omega) (by omega)
 constructor
 ·constructor
  ·intro h
   have:=Int.mul_lt_mul_of_pos_right h qs
   rw[x1,x2]at this
   exact Int.lt_of_mul_lt_mul_right this (by omega)
  ·intro h
   have:=Int.mul_lt_mul_of_pos_right h (show 0<B by omega)
   rw[<-x1,<-x2]at this
   exact Int.lt_of_mul_lt_mul_right this (by omega)
 ·constructor
  ·intro h
   rw[h,x2]at x1
   exact(Int.eq_of_mul_eq_mul_right (by omega) x1).symm
  ·intro h
   rw[h,<-x2]at x1
   exact Int.eq_of_mul_eq_mul_right (by omega) x1
theorem Ge{N:Nat}(l:List (Int × Int))(h:Frs N l)(hl:1+N*l.length<=8000)(hN:N<=8000)(h64:l.length<64):∃ys,jH [.lst (l.map fT)]=.ok (.lst (ys.map λi:Nat=>Tr.int i),true)/\Fall l ys:=by
 obtain⟨B,e,h1,h3⟩:=afZ l h hl hN (by omega)
 have ek:=Ww (l.map λx=>x.1*(B / x.2)) (List.range l.length) λi hi=>by simpa using hi
 refine⟨zK l.length λi=>((List.range l.length).map λi=>(-((l.map λx=>x.1*(B / x.2)).getD i 0),(0:Int))).getD i (0,0),?_,?_⟩
 ·unfold jH Vv aQ
  have z1:(l.map λx=>Tr.int (x.1*(B / x.2)))=(l.map λx=>x.1*(B / x.2)).map Tr.int:=by rw[List.map_map]; rfl
  rw[z1]at e
  generalize hts:(l.map λx=>x.1*(B / x.2))=ts at e ek ⊢
  have tl:ts.length=l.length:=by rw[<-hts,List.length_map]
  generalize Tr.lst (l.map fT)=T at e ⊢
  have q1:(l.length:Int)<64:=by omega
  simp -dsimp[cV,dr,drs,g1,bK,aX,bA,e,tl,q1,zL,wZ,ek]
 ·have hs:=U0 l.length λi=>((List.range l.length).map λi=>(-((l.map λx=>x.1*(B / x.2)).getD i 0),(0:Int))).getD i (0,0)
  refine⟨hs.1,?_⟩
  refine hs.2.imp_of_mem λ{i j} hi hj hb=>?_
  have hi':i<l.length:=by simpa using hs.1.mem_iff.mp hi
  have hj':j<l.length:=by simpa using hs.1.mem_iff.mp hj
  have k:∀i,i<l.length->((List.range l.length).map λi=>(-((l.map λx=>x.1*(B / x.2)).getD i 0),(0:Int))).getD i (0,0)=(-(l[i]!.1*(B / l[i]!.2)),0):=λi hi=>by
   rw[List.getD_eq_getElem?_getD,List.getElem?_map,List.getElem?_range hi]
   simp[hi]
  simp only[k i hi',k j hj']at hb
  have g:∀i,i<l.length->l.getD i (0,1)=l[i]! /\ l[i]! ∈ l:=λi hi=>by
   refine⟨by simp[hi],by simp[hi]⟩
  obtain⟨g1,m1⟩:=g i hi'
  obtain⟨g2,m2⟩:=g j hj'
  unfold xQ
  rw[g1,g2]
  have t:=top_lt (p:=l[j]!.1) (r:=l[i]!.1) h1 (h _ m2).1 (h _ m1).1 (h3 _ m2) (h3 _ m1)
  rw[<-t.1,<-t.2]
  omega
theorem Wy{T:Tr}(h:mJ T=true):zT [T]=.ok (.non,false):=by
 unfold zT Vw aQ
 simp -dsimp[cX,dr,drs,aX,bA,afV,h]
theorem Gf(k n:Int):qP [.int k,.int n]=.ok (.bl (decide (0<=k)&&decide (k<n)),false):=by
 unfold qP Ek aQ
 by_cases h:0<=k <;> simp -dsimp[eB,bO,dr,drs,gB,d8,d7,aX,bA,Aj,isW,h]
theorem Wz{rows:List Tr}{k:Nat}(h:k<rows.length):uV [.lst rows,.int k]=.ok (.non,false):=by
 unfold uV Ko aQ
 have h1:(k:Int)<rows.length:=by omega
 simp -dsimp[cX,dr,drs,g1,bK,aX,bA,Gf,h1]
theorem jR{xs:List Tr}{i:Nat}{T:Tr}(h:xs[i]?=some T):aB (.lst xs) (.int i)=.ok (T,false):=by
 obtain⟨hi,e⟩:=List.getElem?_eq_some_iff.mp h
 show(match dX xs i with
  |some t=>Rs.ok (t,false)
  |none=>.bad)=_
 have:dX xs (i:Int)=some T:=by
  unfold dX eH
  simp[hi,e]
 rw[this]
theorem af0{xs:List Tr}{i:Nat}{T:Tr}(h:xs[i]?=some T):aB (.lst xs) (.int i)=.ok (T,false):=jR h
end BH
namespace BH
open PySem L2
def Wo(x:Int × Int):Prop:=0<=x.1/\x.1<=x.2/\1<=x.2/\x.2<=1000000000000/\Int.gcd x.1 x.2=1
instance (x:Int × Int):Decidable (Wo x):=by unfold Wo; infer_instance
def aC(l:List (Int × Int)):Tr:=.lst (l.map fT)
def aN(ls:List (List (Int × Int))):Tr:=.lst (ls.map aC)
def Gg(c:Nat)(ls:List (List (Int × Int))):Prop:=∀l∈ls,l.length=c/\∀x∈l,Wo x
def Bk(c:Nat)(ls:List (List (Int × Int))):Prop:=1<=ls.length/\ls.length<=4/\1<=c/\c<=12/\Gg c ls
theorem Wo.lH{x:Int × Int}(h:Wo x):lH (fT x)=true:=by
 obtain⟨h1,h2,h3,h4,h5⟩:=h
 show(decide (0<=x.1)&&decide (x.1<=x.2)&&decide (1<=x.2)&&(Int.gcd x.1 x.2 == 1))=true
 simp[h1,h2,h3,h5]
theorem Wo.frs{l:List (Int × Int)}(h:∀x∈l,Wo x):Frs 40 l:=λx hx=>by
 obtain⟨h1,h2,h3,h4,h5⟩:=h x hx
 exact⟨h3,by omega,by omega⟩
theorem af2{l:List (Int × Int)}(h:∀x∈l,Wo x)(h1:1<=l.length)(h2:l.length<=12):mG 12 (aC l)=true:=by
 show(decide (1<=((l.map fT).length:Int))&&decide (((l.map fT).length:Int)<=12)&&(l.map fT).all lH)=true
 rw[List.length_map,decide_eq_true (by omega),decide_eq_true (by omega)]
 simp only[Bool.true_and,List.all_eq_true]
 intro t ht
 obtain⟨x,hx,rfl⟩:=List.mem_map.mp ht
 exact(h x hx).lH
theorem Bk.mJ{c:Nat}{ls:List (List (Int × Int))}(h:Bk c ls):mJ (aN ls)=true:=by
 obtain⟨h1,h2,h3,h4,h5⟩:=h
 show(decide (1<=((ls.map aC).length:Int))&&decide (((ls.map aC).length:Int)<=4)&&(ls.map aC).all (mG 12)&&(ls.map aC).all λr=>mH r == mH ((ls.map aC).headD .non))=true
 rw[List.length_map,decide_eq_true (by omega),decide_eq_true (by omega)]
 simp only[Bool.true_and,Bool.and_eq_true,List.all_eq_true]
 refine⟨λt ht=>?_,λt ht=>?_⟩
 ·obtain⟨l,hl,rfl⟩:=List.mem_map.mp ht
  exact af2 (h5 l hl).2 (by have:=(h5 l hl).1; omega) (by have:=(h5 l hl).1; omega)
 ·obtain⟨l,hl,rfl⟩:=List.mem_map.mp ht
  cases ls with
  |nil=>simp at hl
  |cons l0 r =>
   show(mH (aC l) == mH (aC l0))=true
   show(((l.map fT).length:Int) == ((l0.map fT).length:Int))=true
   rw[List.length_map,List.length_map,(h5 l hl).1,(h5 l0 (by simp)).1]
   simp
end BH
end
section
namespace L2
open PySem
@[simp] theorem al6(fa:EF)(ρ : En):ac3 fa ρ = bd (fa ρ) (λp=>bd (dr p.2 p.1) (λa=>bd (Ua a) (λz=>.ok (.v z.1 z.2,p.2)) .mk) .mk) .mk:=rfl
end L2
namespace BH
open PySem L2
theorem WD{α : Type}(xs:List α)(k:Nat):L2.cut xs none (some (k:Int))=xs.take k:=by
 unfold L2.cut HT.cG
 by_cases h:(k:Int)<0
 ·omega
 ·simp only[h,if_false,Int.toNat_natCast,Nat.sub_zero,List.drop_zero]
  by_cases z:k<=xs.length
  ·rw[Nat.min_eq_left z]
  ·rw[Nat.min_eq_right (by omega),List.take_of_length_le (by omega),List.take_of_length_le (by omega)]
def nT(ys:List Nat):Tr:=.lst (ys.map λi:Nat=>Tr.int i)
theorem Nh:∀ys:List Nat,deps (ys.map λi:Nat=>Tr.int i)=0
 | []=>rfl
 |y::ys=>by rw[List.map_cons,Gb,jJ,Nh ys]; rfl
theorem Ni{n:Nat}:∀{ts:List Tr},(∀t∈ts,dep t<=n)->deps ts<=n
 | [],_=>by rw[Wi]; omega
 |t::ts,h=>by
  rw[Gb]
  have h1:=h t (by simp)
  have h2:=Ni (ts:=ts) λu hu=>h u (by simp[hu])
  omega
theorem Al(x:Int × Int):dep (fT x)=1:=by unfold fT; rw[afN,Gb,Gb,jJ,jJ,Wi]; rfl
theorem af3(l:List (Int × Int)):dep (aC l)<=2:=by
 unfold aC
 rw[Wh]
 have:=Ni (n:=1) (ts:=l.map fT) λt ht=>by
  obtain⟨x,_,rfl⟩:=List.mem_map.mp ht
  rw[Al]; omega
 omega
theorem af4(ls:List (List (Int × Int))):dep (aN ls)<=3:=by
 unfold aN
 rw[Wh]
 have:=Ni (n:=2) (ts:=ls.map aC) λt ht=>by
  obtain⟨x,_,rfl⟩:=List.mem_map.mp ht
  exact af3 x
 omega
theorem Gh{T:Tr}(h:dep T<=40):dO T T=.ok (.bl false,false):=by
 unfold dO
 rw[if_pos ⟨h,h⟩,Cz]
 rfl
theorem af5{T:Tr}(h:dep T<=40):cj T T=.ok (.bl true,false):=by
 unfold cj
 rw[if_pos ⟨h,h⟩,Cz]
theorem WK:∀ys:List Nat,uT (ys.map λi:Nat=>Tr.int i)=some (ys.map λi:Nat=>(i:Int))
 | []=>rfl
 |n::r=>by simp[uT,WK r]
end BH
end
section
namespace BH
open PySem L2
theorem xR{i:Nat}{b:SF}{u:Tr}{us:List Tr}{ρ ρ1:En}{r:Rs (Fl × En)}(h:b (ρ.set i (.sh u))=.ok (.nx,ρ1))(h':cM (gN i) b us ρ1=r):cM (gN i) b (u::us) ρ = r:=by
 unfold cM
 show(b (ρ.set i (.sh u))).bind _=_
 rw[h]
 exact h'
theorem Nj{l:List (Int × Int)}{i:Nat}(h:i<l.length):aB (aC l) (.int i)=.ok (fT (l.getD i (0,1)),false):=jR (by simp[h])
theorem WL{α : Type}{r h : α -> Tr}{f:EF}{τ : En}:∀(xs:List α) (s:Sl),(∀x∈xs,∃fr,f (.sh (r x)::τ)=.ok (.v (h x) fr,.sh (r x)::τ))->∃s',gR (gN 0) cH f (xs.map r) (s::τ)=.ok (xs.map h,s'::τ)
 | [],s,_=>⟨s,rfl⟩
 |x::xs,s,q=>by
  obtain⟨fr,e⟩:=q x (by simp)
  obtain⟨s',e'⟩:=WL xs (.sh (r x)) λv hv=>q v (by simp[hv])
  refine⟨s',?_⟩
  rw[List.map_cons]
  unfold gR
  simp[e,mq,e']
theorem WM{α : Type}{p : α -> Bool}:∀xs:List α,ql (xs.map λx=>.bl (p x))=some (xs.map p)
 | []=>rfl
 |x::xs=>by simp[ql,WM xs]
theorem sV{α : Type}{r h : α -> Tr}{xs:List α}{ρ τ : En}{rest:List (Option Nat)}{i:IF}{fe:EF}(hl:xs.length<=100000)(hi:i ρ=.ok (xs.map r,ρ))(hτ : fV rest ρ = τ)(hs:∀s',gh (none::rest) (s'::τ) ρ = true)(hd:∀s',cU (none::rest) (s'::τ) ρ = ρ)
  (hf:∀x∈xs,∃fr,fe (.sh (r x)::τ)=.ok (.v (h x) fr,.sh (r x)::τ)):cD (none::rest) i (gN 0) cH fe ρ=.ok (.v (.lst (xs.map h)) true,ρ):=by
 obtain⟨s',e⟩:=WL xs .un hf
 have hu:fV (none::rest) ρ=.un::τ := by rw[<-hτ]; rfl
 have hl':(xs.map r).length<=100000:=by rw[List.length_map]; exact hl
 rw[Ga,hi]
 simp only[vp]
 rw[if_pos hl',hu,e]
 simp only[cV,vp]
 rw[if_pos (hs s'),hd s']
def fB(x y:Int × Int):Bool:=decide (x.1*y.2<y.1*x.2)
def at2(l:List (Int × Int))(i:Nat):Int × Int:=l.getD i (0,1)
theorem Gi(n k:Int)(h:0<k):0<=n.fmod k/\n.fmod k<k:=⟨Int.fmod_nonneg_of_pos n h,Int.fmod_lt_of_pos n h⟩
theorem WQ{i:Int}(h : -1000000000000000000<i/\i<1000000000000000000):tiny i=true:=by
 unfold tiny
 rw[Bool.and_eq_true]
 exact⟨decide_eq_true (by omega),decide_eq_true (by omega)⟩
theorem Nk{i j:Int}(h : -1000000000000000000<i/\i<1000000000000000000):cW i j=true:=by unfold cW; rw[WQ h]; simp
theorem vB{i j:Int}(h : -1000000000000000000<j/\j<1000000000000000000):cW i j=true:=by unfold cW; rw[WQ h]; simp
theorem WR:∀(n m:Nat),L2.upTo (m:Int) n=(List.range' m n).map λi:Nat=>Tr.int i
 | 0,_=>rfl
 |n+1,m=>by
  unfold L2.upTo
  rw[show((m:Int)+1)=((m+1:Nat):Int) by omega,WR n (m+1),List.range'_succ]
  rfl
theorem qR(n:Nat):L2.upTo 0 n=(List.range n).map λi:Nat=>Tr.int i:=by
 rw[List.range_eq_range']
 exact WR n 0
end BH
end
section
namespace BH
open PySem L2
def red(a b:Int):Int × Int:=(a / ((Int.gcd a b:Nat):Int),b / ((Int.gcd a b:Nat):Int))
def Fq(M:Nat)(x:Int × Int):Prop:=0<=x.1/\x.1<2 ^ M/\1<=x.2/\x.2<2 ^ M/\Int.gcd x.1 x.2=1
theorem gF(M:Nat):((2 ^ M:Nat):Int)=2 ^ M:=by push_cast; rfl
theorem xT{a b:Int}{M:Nat}(ha:0<=a)(ha2:a<2 ^ M)(hb:1<=b)(hb2:b<2 ^ M):Fq M (red a b):=by
 obtain⟨g1,g2,g3,g4,g5,g6,g7⟩:=yR (a:=a) (b:=b) (by omega)
 have d1:=Int.ediv_le_self (a:=a) ((Int.gcd a b:Nat):Int) ha
 have d2:=Int.ediv_le_self (a:=b) ((Int.gcd a b:Nat):Int) (by omega)
 exact⟨g5 ha,by unfold red; dsimp only; omega,g3,by unfold red; dsimp only; omega,g4⟩
theorem Np{a b:Int}(hb:1<=b):a*(red a b).2=(red a b).1*b/\1<=(red a b).2/\Int.gcd (red a b).1 (red a b).2=1:=by
 obtain⟨g1,g2,g3,g4,g5,g6,g7⟩:=yR (a:=a) (b:=b) (by omega)
 refine⟨?_,g3,g4⟩
 show a*(b / ((Int.gcd a b:Nat):Int))=(a / ((Int.gcd a b:Nat):Int))*b
 generalize ((Int.gcd a b:Nat):Int)=g at *
 generalize a / g=p,b / g=q at *
 rw[g6,g7]
 ac_rfl
def le2(x y:Int × Int):Prop:=x.1*y.2<=y.1*x.2
theorem sW{x y:Int × Int}:fB x y=false↔le2 y x:=by
 unfold fB le2
 rw[decide_eq_false_iff_not,Int.not_lt]
theorem af6{x y z:Int × Int}(hx:1<=x.2)(hy:1<=y.2)(hz:1<=z.2)(h1:le2 x y)(h2:le2 y z):le2 x z:=by
 unfold le2 at *
 have a1:=Int.mul_le_mul_of_nonneg_right h1 (show 0<=z.2 by omega)
 have a2:=Int.mul_le_mul_of_nonneg_right h2 (show 0<=x.2 by omega)
 have e1:x.1*y.2*z.2=(x.1*z.2)*y.2:=by ac_rfl
 have e2:y.1*x.2*z.2=y.1*z.2*x.2:=by ac_rfl
 have e3:z.1*y.2*x.2=(z.1*x.2)*y.2:=by ac_rfl
 rw[e1,e2]at a1
 rw[e3]at a2
 exact Int.le_of_mul_le_mul_right (Int.le_trans a1 a2) (by omega)
theorem WT{x y:Int × Int}(hx:1<=x.2)(hy:1<=y.2)(gx:Int.gcd x.1 x.2=1)(gy:Int.gcd y.1 y.2=1)(h1:le2 x y)(h2:le2 y x):x=y:=by
 unfold le2 at *
 have:=aaZ hx hy gx gy (Int.le_antisymm h1 h2)
 exact Prod.ext this.1 this.2
def sumF(x y:Int × Int):Int × Int:=red (x.1*y.2+y.1*x.2) (x.2*y.2)
def dH(x y:Int × Int):Int × Int:=red (x.1*y.1) (x.2*y.2)
theorem jT{a b:Int}{M N:Nat}(ha:0<=a)(ha2:a<2 ^ M)(hb:0<=b)(hb2:b<2 ^ N):a*b<2 ^ (M+N):=by
 have p1:(0:Int)<2 ^ N:=Int.pow_pos (by omega)
 have q1:a*b<=a*2 ^ N:=Int.mul_le_mul_of_nonneg_left (by omega) ha
 have q2:a*2 ^ N<2 ^ M*2 ^ N:=Int.mul_lt_mul_of_pos_right ha2 p1
 rw[Int.pow_add]
 omega
theorem nZ{x y:Int × Int}{M N:Nat}(hx:Fq M x)(hy:Fq N y):Fq (M+N) (dH x y) :=
 xT (Int.mul_nonneg hx.1 hy.1) (jT hx.1 hx.2.1 hy.1 hy.2.1) (by have:=Int.mul_pos (a:=x.2) (b:=y.2) (by have:=hx.2.2.1; omega) (by have:=hy.2.2.1; omega); omega) (jT (by have:=hx.2.2.1; omega) hx.2.2.2.1 (by have:=hy.2.2.1; omega) hy.2.2.2.1)
theorem Gj{x y:Int × Int}{M N:Nat}(hx:Fq M x)(hy:Fq N y):Fq (M+N+1) (sumF x y):=by
 obtain⟨x1,x2,x3,x4,_⟩:=hx
 obtain⟨y1,y2,y3,y4,_⟩:=hy
 have m1:=jT x1 x2 (by omega) y4
 have m2:=jT y1 y2 (by omega) x4
 have m3:=jT (by omega) x4 (by omega) y4
 rw[Nat.add_comm N M]at m2
 have p:=Int.mul_pos (a:=x.2) (b:=y.2) (by omega) (by omega)
 have n1:=Int.mul_nonneg x1 (show 0<=y.2 by omega)
 have n2:=Int.mul_nonneg y1 (show 0<=x.2 by omega)
 have e:(2:Int) ^ (M+N+1)=2 ^ (M+N)*2:=Int.pow_succ ..
 exact xT (by omega) (by rw[e]; omega) (by omega) (by rw[e]; omega)
theorem Gm{a b:Int}{M:Nat}(hb:1<=b)(hb2:b<2 ^ M)(hM:M<=8000):nH [.int a,.int b]=.ok (fT (red a b),false):=by
 obtain⟨g1,g2,_⟩:=yR (a:=a) (b:=b) (by omega)
 have e1:a.fdiv (Int.gcd a b:Nat)=a / (Int.gcd a b:Nat):=Int.fdiv_eq_ediv_of_nonneg _ (by omega)
 have e2:b.fdiv (Int.gcd a b:Nat)=b / (Int.gcd a b:Nat):=Int.fdiv_eq_ediv_of_nonneg _ (by omega)
 have hs:=Nb a b
 have np:=gF M
 unfold nH Vq aQ fT red
 generalize hg:((Int.gcd a b:Nat):Int)=g at *
 have h3:¬b<0:=by omega
 have h4:(b == 0)=false:=by simp; omega
 have c1:∀n,lV n g=true:=λn=>xP (M:=M) (by omega) (by omega) hM
 simp -dsimp[bO,dr,drs,cls,ju,cj,fU,d8,aX,jJ,nY,bA,hs,h3,h4,c1,e1,e2]
theorem WW{x y:Int × Int}{M N:Nat}(hx:Fq M x)(hy:Fq N y)(hM:M+N<=8000):qN [fT x,fT y]=.ok (fT (dH x y),false):=by
 have q:=nZ hx hy
 obtain⟨x1,x2,x3,x4,_⟩:=hx
 obtain⟨y1,y2,y3,y4,_⟩:=hy
 have nM:=gF M
 have nN:=gF N
 have c1:cW x.1 y.1=true:=iH (M:=M) (N:=N) (by omega) (by omega) (by omega) (by omega)
 have c2:cW x.2 y.2=true:=iH (M:=M) (N:=N) (by omega) (by omega) (by omega) (by omega)
 have p:=Int.mul_pos (a:=x.2) (b:=y.2) (by omega) (by omega)
 have e:=Gm (a:=x.1*y.1) (b:=x.2*y.2) (M:=M+N) (by omega) (jT (by omega) x4 (by omega) y4) hM
 unfold qN Kc aQ
 show _=Rs.ok (fT (red (x.1*y.1) (x.2*y.2)),false)
 generalize fT (red (x.1*y.1) (x.2*y.2))=R at e ⊢
 unfold fT
 simp -dsimp[dr,drs,bU,aB,aX,dX,eH,bA,c1,c2,e]
theorem af7{x y:Int × Int}{M N:Nat}(hx:Fq M x)(hy:Fq N y)(hM:M+N<=8000):xg [fT x,fT y]=.ok (fT (sumF x y),false):=by
 obtain⟨x1,x2,x3,x4,_⟩:=hx
 obtain⟨y1,y2,y3,y4,_⟩:=hy
 have nM:=gF M
 have nN:=gF N
 have c1:cW x.1 y.2=true:=iH (M:=M) (N:=N) (by omega) (by omega) (by omega) (by omega)
 have c2:cW y.1 x.2=true:=iH (M:=N) (N:=M) (by omega) (by omega) (by omega) (by omega)
 have c3:cW x.2 y.2=true:=iH (M:=M) (N:=N) (by omega) (by omega) (by omega) (by omega)
 have p:=Int.mul_pos (a:=x.2) (b:=y.2) (by omega) (by omega)
 have e:=Gm (a:=x.1*y.2+y.1*x.2) (b:=x.2*y.2) (M:=M+N) (by omega) (jT (by omega) x4 (by omega) y4) hM
 unfold xg J9 aQ
 show _=Rs.ok (fT (red (x.1*y.2+y.1*x.2) (x.2*y.2)),false)
 generalize fT (red (x.1*y.2+y.1*x.2) (x.2*y.2))=R at e ⊢
 unfold fT
 simp -dsimp[dr,drs,cB,bU,aB,aX,dX,eH,bA,c1,c2,c3,e]
end BH
end
section
namespace BH
open PySem L2
def gU(ps:List ((Int × Int) × (Int × Int)))(t:Int × Int):Int × Int:=ps.foldl (λt p=>sumF t (dH p.1 p.2)) t
def gW(xs:List (Int × Int))(t:Int × Int):Int × Int:=xs.foldl dH t
theorem WX:∀(ps:List ((Int × Int) × (Int × Int))) (t:Int × Int) (M:Nat),Fq M t->(∀p∈ps,Fq 45 p.1/\Fq 45 p.2)->Fq (M+91*ps.length) (gU ps t)
 | [],t,M,h,_=>h
 |p::ps,t,M,h,hp=>by
  have h1:=nZ (hp p (by simp)).1 (hp p (by simp)).2
  have h2:=Gj h h1
  have:=WX ps _ _ h2 λq hq=>hp q (by simp[hq])
  rw[show M+91*(p::ps).length=M+(45+45)+1+91*ps.length by rw[List.length_cons]; omega]
  exact this
theorem WY:∀(ps:List (Int × Int)) (t:Int × Int) (M:Nat),Fq M t->(∀p∈ps,Fq 45 p)->Fq (M+45*ps.length) (gW ps t)
 | [],t,M,h,_=>h
 |p::ps,t,M,h,hp=>by
  have h2:=nZ h (hp p (by simp))
  have:=WY ps _ _ h2 λq hq=>hp q (by simp[hq])
  rw[show M+45*(p::ps).length=M+45+45*ps.length by rw[List.length_cons]; omega]
  exact this
theorem Wo.fq{x:Int × Int}(h:Wo x):Fq 45 x:=by
 obtain⟨h1,h2,h3,h4,h5⟩:=h
 exact⟨h1,by omega,h3,by omega,h5⟩
def W4(B:SF):Prop:=∀(t w x:Int × Int) (M:Nat) (s0 s1:Sl) (τ : En),Fq M t->Fq 45 w->Fq 45 x->M+90<=8000->B (s0::s1 :: .sh (fT t) :: .sh (fT w) :: .sh (fT x)::τ)=.ok (.nx,s0::s1 :: .sh (fT (sumF t (dH w x))) :: .sh (fT w) :: .sh (fT x)::τ)
theorem W6{B:SF}(hB:W4 B)(s0 s1:Sl)(τ : En):∀(ps:List ((Int × Int) × (Int × Int))) (t:Int × Int) (M:Nat) (s3 s4:Sl),Fq M t->(∀p∈ps,Fq 45 p.1/\Fq 45 p.2)->M+91*ps.length<=8000 ->
  ∃t3 t4,cM (gT 2 (bL (gN 3) (bL (gN 4) dD))) B (ps.map λp=>Tr.tup [fT p.1,fT p.2]) (s0::s1 :: .sh (fT t)::s3::s4::τ)=.ok (.nx,s0::s1 :: .sh (fT (gU ps t))::t3::t4::τ)
 | [],t,M,s3,s4,_,_,_=>⟨s3,s4,rfl⟩
 |p::ps,t,M,s3,s4,h,hp,hl=>by
  rw[List.length_cons]at hl
  have h1:=nZ (hp p (by simp)).1 (hp p (by simp)).2
  have h2:=Gj h h1
  have e:=hB t p.1 p.2 M s0 s1 τ h (hp p (by simp)).1 (hp p (by simp)).2 (by omega)
  obtain⟨t3,t4,e'⟩:=W6 hB s0 s1 τ ps _ _ (.sh (fT p.1)) (.sh (fT p.2)) h2 (λq hq=>hp q (by simp[hq])) (by omega)
  refine⟨t3,t4,?_⟩
  rw[List.map_cons]
  unfold cM
  rw[show(gT 2 (bL (gN 3) (bL (gN 4) dD))) (Tr.tup [fT p.1,fT p.2]) (s0::s1 :: .sh (fT t)::s3::s4::τ)=.ok (s0::s1 :: .sh (fT t) :: .sh (fT p.1) :: .sh (fT p.2)::τ)from rfl]
  simp only[Rs.dF]
  rw[e]
  exact e'
theorem W7(ws xs:List (Int × Int)):o9 (ws.map fT) (xs.map fT)=(ws.zip xs).map λp=>Tr.tup [fT p.1,fT p.2]:=by
 unfold o9
 rw[List.zip_map,List.map_map]
 rfl
def Am:SF:=(aW (aK xg (ak (aj 2) (ak (aK qN (ak (aj 3) (ak (aj 4) au))) au))) (gN 2))
theorem af8:W4 Am:=λt w x M s0 s1 τ ht hw hx hM=>by
 have e1:=WW hw hx (by omega)
 have e2:=af7 ht (nZ hw hx) (by omega)
 generalize fT (sumF t (dH w x))=R at e2 ⊢
 generalize fT (dH w x)=P at e1 e2
 generalize fT t=T,fT w=W,fT x=Y at *
 unfold Am
 simp -dsimp[drs,dr,aX,e1,e2]
theorem vC:Fq 1 (0,1):=by unfold Fq; decide
theorem vD:Fq 1 (1,1):=by unfold Fq; decide
theorem W8{ws xs:List (Int × Int)}(hw:∀w∈ws,Fq 45 w)(hx:∀x∈xs,Fq 45 x):∀p∈ws.zip xs,Fq 45 p.1/\Fq 45 p.2:=λp hp=>⟨hw _ (List.of_mem_zip hp).1,hx _ (List.of_mem_zip hp).2⟩
theorem af9{ws xs:List (Int × Int)}(hw:∀w∈ws,Fq 45 w)(hx:∀x∈xs,Fq 45 x)(hl:xs.length<=12):Em [aC ws,aC xs]=.ok (fT (gU (ws.zip xs) (0,1)),false):=by
 have hz:(ws.zip xs).length<=12:=by rw[List.length_zip]; omega
 obtain⟨t3,t4,e⟩:=W6 af8 (.sh (aC ws)) (.sh (aC xs)) [] (ws.zip xs) (0,1) 1 .un .un vC (W8 hw hx) (by omega)
 rw[<-W7]at e
 have e1:bZ (cO (qz (ak (aj 0) (ak (aj 1) au))) (gT 2 (bL (gN 3) (bL (gN 4) dD))) Am) [.sh (aC ws),.sh (aC xs),.sh (fT (0,1)),.un,.un]=.ok (.nx,[.sh (aC ws),.sh (aC xs),.sh (fT (gU (ws.zip xs) (0,1))),t3,t4]):=by
  show cV (cM _ Am (o9 (ws.map fT) (xs.map fT)) _)=_
  rw[e]
  rfl
 show aQ 5 (aG (aW (eC (.tup [.int 0,.int 1])) (gN 2)) (aG (bZ (cO (qz (ak (aj 0) (ak (aj 1) au))) (gT 2 (bL (gN 3) (bL (gN 4) dD))) Am)) (aY (aj 2)))) [aC ws,aC xs]=_
 have e0:Tr.tup [.int 0,.int 1]=fT (0,1):=rfl
 rw[e0]
 generalize bZ _=G at e1 ⊢
 generalize fT (gU (ws.zip xs) (0,1))=R,fT (0,1)=Z,aC ws=W,aC xs=Y at *
 unfold aQ
 simp -dsimp[bA,e1]
def xU:SF:=(aW (aK qN (ak (aj 1) (ak (aj 2) au))) (gN 1))
theorem W9(s0:Sl):∀(xs:List (Int × Int)) (t:Int × Int) (M:Nat) (s2:Sl),Fq M t->(∀p∈xs,Fq 45 p)->M+45*xs.length<=8000 ->
  ∃t2,cM (gN 2) xU (xs.map fT) [s0,.sh (fT t),s2]=.ok (.nx,[s0,.sh (fT (gW xs t)),t2])
 | [],t,M,s2,_,_,_=>⟨s2,rfl⟩
 |x::xs,t,M,s2,h,hp,hl=>by
  rw[List.length_cons]at hl
  have e:=WW h (hp x (by simp)) (by omega)
  obtain⟨t2,e'⟩:=W9 s0 xs _ _ (.sh (fT x)) (nZ h (hp x (by simp))) (λq hq=>hp q (by simp[hq])) (by omega)
  refine⟨t2,?_⟩
  have e1:xU [s0,.sh (fT t),.sh (fT x)]=.ok (.nx,[s0,.sh (fT (dH t x)),.sh (fT x)]):=by
   generalize fT (dH t x)=R at e ⊢
   generalize fT t=T,fT x=Y at *
   unfold xU
   simp -dsimp[drs,dr,aX,e]
  rw[List.map_cons]
  unfold cM
  rw[show gN 2 (fT x) [s0,.sh (fT t),s2]=.ok [s0,.sh (fT t),.sh (fT x)]from rfl]
  simp only[Rs.dF]
  rw[e1]
  exact e'
theorem aga{xs:List (Int × Int)}(hx:∀x∈xs,Fq 45 x)(hl:xs.length<=12):Eo [aC xs]=.ok (fT (gW xs (1,1)),false):=by
 obtain⟨t2,e⟩:=W9 (.sh (aC xs)) xs (1,1) 1 .un vD hx (by omega)
 have e1:bZ (cO (bQ (aj 0)) (gN 2) xU) [.sh (aC xs),.sh (fT (1,1)),.un]=.ok (.nx,[.sh (aC xs),.sh (fT (gW xs (1,1))),t2]):=by
  show cV (cM _ xU (xs.map fT) _)=_
  rw[e]
  rfl
 show aQ 3 (aG (aW (eC (.tup [.int 1,.int 1])) (gN 1)) (aG (bZ (cO (bQ (aj 0)) (gN 2) xU)) (aY (aj 1)))) [aC xs]=_
 have e0:Tr.tup [.int 1,.int 1]=fT (1,1):=rfl
 rw[e0]
 generalize bZ _=G at e1 ⊢
 generalize fT (gW xs (1,1))=R,fT (1,1)=Z,aC xs=Y at *
 unfold aQ
 simp -dsimp[bA,e1]
def je(xs zs:List (Int × Int)):Prop:=zs.Perm xs/\zs.Pairwise λa b=>le2 b a
def LT(xs:List (Int × Int)):Prop:=∀x∈xs,1<=x.2/\Int.gcd x.1 x.2=1
theorem Xa:∀{l m:List (Int × Int)},LT l->l.Perm m->l.Pairwise (λa b=>le2 b a)->m.Pairwise (λa b=>le2 b a)->l=m
 | [],m,_,p,_,_=>by rw[List.nil_perm.mp p]
 |a::l,[],_,p,_,_=>by simpa using p.length_eq
 |a::l,b::m,hl,p,h1,h2=>by
  have h1':=List.pairwise_cons.mp h1
  have h2':=List.pairwise_cons.mp h2
  have e:a=b:=by
   rcases List.mem_cons.mp (p.mem_iff.mp (List.mem_cons_self ..))with z|z
   ·exact z
   ·rcases List.mem_cons.mp (p.mem_iff.mpr (List.mem_cons_self (a:=b)))with y|y
    ·exact y.symm
    ·have a1:=h1'.1 b y
     have a2:=h2'.1 a z
     have la:=hl a (by simp)
     have lb:=hl b (by simp[y])
     exact WT la.1 lb.1 la.2 lb.2 a2 a1
  subst e
  rw[Xa (λx hx=>hl x (by simp[hx])) p.cons_inv h1'.2 h2'.2]
theorem je.uniq{xs l m:List (Int × Int)}(h:LT xs)(a:je xs l)(b:je xs m):l=m:=Xa (λx hx=>h x (a.1.mem_iff.mp hx)) (a.1.trans b.1.symm) a.2 b.2
theorem agb(xs:List (Int × Int)):(List.range xs.length).map (λi=>xs.getD i (0,1))=xs:=by
 apply List.ext_getElem
 ·simp
 ·intro i h1 h2
  simp[List.getD_eq_getElem?_getD,h2]
theorem Fall.dsc{xs:List (Int × Int)}{ys:List Nat}(h:Fall xs ys):je xs (ys.map λi=>xs.getD i (0,1)):=by
 refine⟨?_,?_⟩
 ·have:=h.1.map λi=>xs.getD i (0,1)
  rw[agb]at this
  exact this
 ·rw[List.pairwise_map]
  refine h.2.imp λ{i j} hb=>?_
  unfold xQ at hb
  unfold le2
  omega
def ov(t x:Int × Int):Bool:=fB t x
end BH
end
section
namespace BH
open PySem L2
inductive Ru where
 |sh (ws:List (Int × Int))|mid (k:Nat)|least|greatest|product
def aU:Ru->Tr
 |.sh ws=>.tup [.str "shares",aC ws]
 |.mid k=>.tup [.str "middle",.int k]
 |.least=>.tup [.str "least"]
 |.greatest=>.tup [.str "greatest"]
 |.product=>.tup [.str "product"]
def fM(n:Nat):Ru->Prop
 |.sh ws=>ws.length=n/\∀w∈ws,Fq 45 w
 |.mid k=>1<=k/\k<=n
 |_=>True
theorem sEq(a:Str):cj (.str a) (.str a)=.ok (.bl true,false):=af5 (T:=.str a) (by rw[M9]; omega)
theorem sNe{a b:Str}(h:(a == b)=false):cj (.str a) (.str b)=.ok (.bl false,false):=by
 unfold cj
 rw[if_pos ⟨by rw[M9]; omega,by rw[M9]; omega⟩,afO,h]
theorem agc{α : Type}{r : α -> Tr}{xs:List α}{ρ τ : En}{rest:List (Option Nat)}{i:IF}{fe:EF}(hl:xs.length<=100000)(hi:i ρ=.ok (xs.map r,ρ))(hτ : fV rest ρ = τ)(hs:∀s',gh (none::rest) (s'::τ) ρ = true)(hd:∀s',cU (none::rest) (s'::τ) ρ = ρ)
  (hf:∀x∈xs,∃fr,fe (.sh (r x)::τ)=.ok (.v (.bl true) fr,.sh (r x)::τ)):bF (g1 gA) (ak (cD (none::rest) i (gN 0) cH fe) au) ρ=.ok (.v (.bl true) false,ρ):=by
 have e:=sV (h:=λx=>.bl ((λ_ : α=>true) x)) hl hi hτ hs hd hf
 have eg:gA (.lst (xs.map λx=>.bl ((λ_ : α=>true) x)))=.ok (.bl true,false):=by
  unfold gA
  simp only[WM]
  rw[show(xs.map λ_=>true).all id=true by simp]
 generalize cD _ _ _ _ _=G at e ⊢
 generalize Tr.lst (xs.map λx=>.bl ((λ_ : α=>true) x))=T at e eg
 simp[e,eg,drs,dr,g1]
theorem Fq.mF{M:Nat}{x:Int × Int}(h:Fq M x):mF (fT x)=true:=by
 show(decide (1<=x.2)&&(Int.gcd x.1 x.2 == 1))=true
 simp[h.2.2.1,h.2.2.2.2]
def Nq:EF:=(lC (aK sJ (ak (aj 0) au)) (aq lA (aq aB (aj 0) (eC (.int 0))) (eC (.int 0))))
theorem agd{ws:List (Int × Int)}(hw:∀w∈ws,Fq 45 w)(hl:ws.length<=12):El [aC ws,.int ws.length]=.ok (.bl true,false):=by
 have e1:=agc (r:=fT) (xs:=ws) (ρ:=[.sh (aC ws),.sh (.int ws.length)]) (rest:=[]) (i:=bQ (aj 0)) (fe:=Nq) (by omega) rfl rfl (λs'=>rfl) (λs'=>rfl) (λw hw'=>⟨false,by
  have h:=hw w hw'
  have e:=vq (fT w)
  rw[h.mF]at e
  have h0:=h.1
  unfold Nq
  dsimp only[fV,List.map]
  have g0:aB (fT w) (.int 0)=.ok (.int w.1,false):=rfl
  generalize fT w=T at *
  simp -dsimp[drs,dr,aX,e,bO,g0,lA,gB,h0]⟩)
 have el:bK (aC ws)=.ok (.int (ws.length:Int),false):=by
  show Rs.ok (Tr.int ((ws.map fT).length:Int),false)=_
  rw[List.length_map]
 have ei:iK .list (aj 0) [.sh (aC ws),.sh (.int ws.length)]=.ok (.v (.bl true) false,[.sh (aC ws),.sh (.int ws.length)]):=by
  simp[aC,iy,dr,eB]
 have en:=Gh (T:=.int (ws.length:Int)) (by rw[jJ]; omega)
 show aQ 2 (aG (bY (f9 (dU (cL (iK .list (aj 0)))) (bV (aq dO (bF (g1 bK) (ak (aj 0) au)) (aj 1)))) (aY (eC (.bl false))) bW) (aY (bF (g1 gA) (ak (cD [none] (bQ (aj 0)) (gN 0) cH Nq) au)))) [aC ws,.int ws.length]=_
 generalize bF (g1 gA) _=G at e1 ⊢
 generalize iK _ _=G2 at ei ⊢
 generalize aC ws=T,(ws.length:Int)=N at *
 unfold aQ
 simp -dsimp[bA,e1,ei,dr,drs,g1,el,en,bO,cX]
theorem agf{T:Tr}(h:T=.tup [.str "least"]∨T=.tup [.str "greatest"]∨T=.tup [.str "product"]):fQ id T (.tup [(.tup [(.str "least")]),(.tup [(.str "greatest")]),(.tup [(.str "product")])])=.ok (.bl true,false):=by
 rcases h with rfl|rfl|rfl <;> kernel_rfl
theorem Xb{r:Ru}{n:Nat}(h:fM n r)(hn:n<=12):uW [aU r,.int n]=.ok (.bl true,false):=by
 have bare:∀T:Tr,(T=.tup [.str "least"]∨T=.tup [.str "greatest"]∨T=.tup [.str "product"])→uW [T,.int n]=.ok (.bl true,false):=λT hT=>by
  have e:=agf hT
  have e1:iy T .tuple=true:=by rcases hT with rfl|rfl|rfl <;> rfl
  have e2:bK T=.ok (.int 1,false):=by rcases hT with rfl|rfl|rfl <;> rfl
  have e3:dO (.int 1) (.int 2)=.ok (.bl true,false):=rfl
  unfold uW xr aQ
  simp -dsimp[bA,eB,e1,e2,e3,e,dr,drs,g1,bO,cX]
 cases r with
 |least=>exact bare _ (.inl rfl)
 |greatest=>exact bare _ (.inr (.inl rfl))
 |product=>exact bare _ (.inr (.inr rfl))
 |sh ws =>
  obtain⟨h1,h2⟩:=h
  subst h1
  have e:=agd h2 hn
  have e2:∀N:Tr,bK (.tup [.str "shares",N])=.ok (.int 2,false):=λ_=>rfl
  have e3:dO (.int 2) (.int 2)=.ok (.bl false,false):=rfl
  have e4:=sEq "shares"
  show aQ 4 xr [.tup [.str "shares",aC ws],.int ws.length]=_
  unfold xr aQ
  generalize aC ws=T at *
  simp -dsimp[bA,eB,iy,e2,e3,e4,e,aX,dr,drs,g1,bO,cX]
 |mid k =>
  obtain⟨h1,h2⟩:=h
  have e2:∀N:Tr,bK (.tup [.str "middle",N])=.ok (.int 2,false):=λ_=>rfl
  have e3:dO (.int 2) (.int 2)=.ok (.bl false,false):=rfl
  have e4:cj (.str "middle") (.str "shares")=.ok (.bl false,false):=sNe (by decide +kernel)
  have e5:=sEq "middle"
  have e6:=Aj (.int k)
  have q1:(1:Int)<=k:=by omega
  have q2:(k:Int)<=n:=by omega
  unfold uW xr aQ aU
  simp -dsimp[bA,eB,iy,e2,e3,e4,e5,e6,isW,aX,dr,drs,g1,bO,cX,d7,gB,q1,q2]
def gY(n:Nat):Ru->Nat
 |.mid k=>k
 |.least=>n
 |.greatest=>1
 |_=>0
def Wv(r:Ru)(xs:List (Int × Int))(v:Int × Int):Prop:=match r with
 |.sh ws=>v=gU (ws.zip xs) (0,1)
 |.product=>v=gW xs (1,1)
 |r=>∃zs,je xs zs/\zs[gY xs.length r-1]?=some v
def placed:Ru->Bool
 |.mid _=>true
 |.least=>true
 |.greatest=>true
 |_=>false
theorem Gn(r:Ru):∃w:Str,aB (aU r) (.int 0)=.ok (.str w,false)∧cj (.str w) (.str "shares")=.ok (.bl (match r with|.sh _=>true|_=>false),false)∧cj (.str w) (.str "product")=.ok (.bl (match r with|.product=>true|_=>false),false) ∧
  cj (.str w) (.str "greatest")=.ok (.bl (match r with|.greatest=>true|_=>false),false)∧cj (.str w) (.str "least")=.ok (.bl (match r with|.least=>true|_=>false),false)∧cj (.str w) (.str "middle")=.ok (.bl (match r with|.mid _=>true|_=>false),false):=by
 cases r with
 |sh ws=>exact⟨"shares",rfl,sEq _,sNe (by decide +kernel),sNe (by decide +kernel),sNe (by decide +kernel),sNe (by decide +kernel)⟩
 |mid k=>exact⟨"middle",rfl,sNe (by decide +kernel),sNe (by decide +kernel),sNe (by decide +kernel),sNe (by decide +kernel),sEq _⟩
 |least=>exact⟨"least",rfl,sNe (by decide +kernel),sNe (by decide +kernel),sNe (by decide +kernel),sEq _,sNe (by decide +kernel)⟩
 |greatest=>exact⟨"greatest",rfl,sNe (by decide +kernel),sNe (by decide +kernel),sEq _,sNe (by decide +kernel),sNe (by decide +kernel)⟩
 |product=>exact⟨"product",rfl,sNe (by decide +kernel),sEq _,sNe (by decide +kernel),sNe (by decide +kernel),sNe (by decide +kernel)⟩
theorem agg{r:Ru}{n:Nat}(h:placed r=true):uX [aU r,.int n]=.ok (.int (gY n r:Nat),false):=by
 obtain⟨w,e1,_,_,e2,e3,_⟩:=Gn r
 cases r with
 |sh ws=>cases h
 |product=>cases h
 |least =>
  unfold uX zU aQ gY
  generalize aU .least=T at *
  simp -dsimp[bA,dr,e1,e2,e3,bO]
 |greatest =>
  unfold uX zU aQ gY
  generalize aU .greatest=T at *
  simp -dsimp[bA,dr,e1,e2,e3,bO]
 |mid k =>
  have e4:aB (aU (.mid k)) (.int 1)=.ok (.int k,false):=rfl
  unfold uX zU aQ gY
  generalize aU (.mid k)=T at *
  simp -dsimp[bA,dr,e1,e2,e3,e4,bO]
theorem Xc{r:Ru}{n:Nat}(h:placed r=true)(ho:fM n r)(hn:1<=n):1<=gY n r/\gY n r<=n:=by
 cases r with
 |sh ws=>cases h
 |product=>cases h
 |least=>exact⟨hn,Nat.le_refl _⟩
 |greatest=>exact⟨Nat.le_refl _,hn⟩
 |mid k=>exact ho
theorem Nr{r:Ru}{xs:List (Int × Int)}(hx:∀x∈xs,Wo x)(h1:1<=xs.length)(h2:xs.length<=12)(ho:fM xs.length r):∃v,kO [aU r,aC xs]=.ok (fT v,false)/\Wv r xs v:=by
 have hq:∀x∈xs,Fq 45 x:=λx m=>(hx x m).fq
 obtain⟨w,e1,e2,e3,_⟩:=Gn r
 have pl:placed r=true->∃v,kO [aU r,aC xs]=.ok (fT v,false)/\∃zs,je xs zs/\zs[gY xs.length r-1]?=some v:=λhp=>by
  obtain⟨ys,ef,hf⟩:=Ge (N:=40) xs (Wo.frs hx) (by omega) (by omega) (by omega)
  have pr:=Xc hp ho h1
  have ep:=agg (n:=xs.length) hp
  have ly:ys.length=xs.length:=by have:=hf.1.length_eq; simpa using this
  obtain⟨i,hi⟩:∃i,ys[gY xs.length r-1]?=some i:=⟨_,List.getElem?_eq_getElem (by omega)⟩
  have il:i<xs.length:=by simpa using hf.1.mem_iff.mp (List.mem_of_getElem? hi)
  refine⟨xs.getD i (0,1),?_,_,hf.dsc,by rw[List.getElem?_map,hi]; rfl⟩
  have Xd:aB (.lst (ys.map λi:Nat=>Tr.int i)) (.int ((gY xs.length r-1:Nat):Int))=.ok (.int (i:Int),false):=jR (by rw[List.getElem?_map,hi]; rfl)
  have g2:=Nj il
  have el:bK (aC xs)=.ok (.int (xs.length:Int),false):=by
   show Rs.ok (Tr.int ((xs.map fT).length:Int),false)=_
   rw[List.length_map]
  have sub:((gY xs.length r:Nat):Int)-1=((gY xs.length r-1:Nat):Int):=by omega
  have ef':jH [aC xs]=.ok (.lst (ys.map λi:Nat=>Tr.int i),true):=ef
  have e2:cj (.str w) (.str "shares")=.ok (.bl false,false):=by cases r <;> first|exact e2|cases hp
  have e3:cj (.str w) (.str "product")=.ok (.bl false,false):=by cases r <;> first|exact e3|cases hp
  unfold kO zV aQ
  generalize fT (xs.getD i (0,1))=R,Tr.lst (ys.map λi:Nat=>Tr.int i)=Y,aU r=T,aC xs=X at *
  rw[<-sub]at Xd
  simp -dsimp[bA,dr,drs,aX,e1,e2,e3,bO,ef',el,ep,g1,fD,gI,Xd,g2]
 cases r with
 |sh ws =>
  have es:=af9 ho.2 hq h2
  refine⟨_,?_,rfl⟩
  have e4:aB (aU (.sh ws)) (.int 1)=.ok (aC ws,false):=rfl
  unfold kO zV aQ
  generalize aU (.sh ws)=T,fT (gU (ws.zip xs) (0,1))=R,aC ws=W,aC xs=X at *
  simp -dsimp[bA,dr,drs,aX,e1,e2,bO,e4,es]
 |product =>
  have es:=aga hq h2
  refine⟨_,?_,rfl⟩
  unfold kO zV aQ
  generalize aU .product=T,fT (gW xs (1,1))=R,aC xs=X at *
  simp -dsimp[bA,dr,drs,aX,e1,e2,e3,bO,es]
 |least=>exact pl rfl
 |greatest=>exact pl rfl
 |mid k=>exact pl rfl
theorem Nt{xs:List (Int × Int)}(hx:∀x∈xs,Wo x):LT xs:=λx m=>⟨(hx x m).2.2.1,(hx x m).2.2.2.2⟩
theorem Wv.uniq{r:Ru}{xs:List (Int × Int)}{v v':Int × Int}(hx:∀x∈xs,Wo x)(a:Wv r xs v)(b:Wv r xs v'):v=v':=by
 cases r with
 |sh ws=>exact a.trans b.symm
 |product=>exact a.trans b.symm
 |least =>
  obtain⟨z,d,e⟩:=a
  obtain⟨z',d',e'⟩:=b
  rw[d.uniq (Nt hx) d',e']at e
  exact(Option.some.inj e).symm
 |greatest =>
  obtain⟨z,d,e⟩:=a
  obtain⟨z',d',e'⟩:=b
  rw[d.uniq (Nt hx) d',e']at e
  exact(Option.some.inj e).symm
 |mid k =>
  obtain⟨z,d,e⟩:=a
  obtain⟨z',d',e'⟩:=b
  rw[d.uniq (Nt hx) d',e']at e
  exact(Option.some.inj e).symm
theorem Fq.up{M N:Nat}{x:Int × Int}(h:Fq M x)(hl:M<=N):Fq N x:=by
 obtain⟨h1,h2,h3,h4,h5⟩:=h
 have:(2:Int) ^ M<=2 ^ N:=by
  have:=Nat.pow_le_pow_right (n:=2) (by omega) hl
  have a:=gF M
  have b:=gF N
  omega
 exact⟨h1,by omega,h3,by omega,h5⟩
theorem Wv.fq{r:Ru}{xs:List (Int × Int)}{v:Int × Int}(hx:∀x∈xs,Wo x)(hl:xs.length<=4)(ho:fM xs.length r)(a:Wv r xs v):Fq 400 v:=by
 have hq:∀x∈xs,Fq 45 x:=λx m=>(hx x m).fq
 have pl:(∃zs,je xs zs/\zs[gY xs.length r-1]?=some v)->Fq 400 v:=λ⟨z,d,e⟩=>(hq v (d.1.mem_iff.mp (List.mem_of_getElem? e))).up (by omega)
 cases r with
 |sh ws =>
  have a:v=gU (ws.zip xs) (0,1):=a
  rw[a]
  exact(WX _ _ 1 vC (W8 ho.2 hq)).up (by rw[List.length_zip]; omega)
 |product =>
  have a:v=gW xs (1,1):=a
  rw[a]
  exact(WY _ _ 1 vD hq).up (by omega)
 |least=>exact pl a
 |greatest=>exact pl a
 |mid k=>exact pl a
end BH
end
section
namespace K57
open PySem L2 BH
theorem Xe(a b:Int):vd [.int a,.int b]=.ok (.int (Int.gcd a b:Nat),false):=Wl a b
theorem qT(n k:Int)(h:0<k)(hk:k.natAbs<2 ^ 60):∃x m,gM [.lst [.int n],.int k]=.ok ((.int x,false),[.int m])/\0<=x/\x<k:=by
 have h0:k≠0:=by omega
 have h1:lV n k=true:=xP (M:=60) h0 hk (by omega)
 refine⟨n.fmod k,n.fdiv k,?_,Gi n k h⟩
 unfold gM Mf nq
 simp -dsimp[cV,cR,con,dr,cls,ju,fU,dR,aB,lW,dX,eH,bA,h0,h1,jx,m9]
theorem Ao{a b:Int}{M:Nat}(hb:1<=b)(hb2:b<2 ^ M)(hM:M<=8000):kW [.int a,.int b]=.ok (fT (red a b),false):=by
 obtain⟨g1,g2,_⟩:=yR (a:=a) (b:=b) (by omega)
 have e1:a.fdiv (Int.gcd a b:Nat)=a / (Int.gcd a b:Nat):=Int.fdiv_eq_ediv_of_nonneg _ (by omega)
 have e2:b.fdiv (Int.gcd a b:Nat)=b / (Int.gcd a b:Nat):=Int.fdiv_eq_ediv_of_nonneg _ (by omega)
 have hs:=Xe a b
 have np:=gF M
 unfold kW Mg aQ fT red
 generalize hg:((Int.gcd a b:Nat):Int)=g at *
 have h3:¬b<0:=by omega
 have c1:∀n,lV n g=true:=λn=>xP (M:=M) (by omega) (by omega) hM
 simp -dsimp[bO,dr,drs,cls,ju,fU,fD,d8,aX,bA,hs,h3,c1,e1,e2]
theorem Gp{x y:Int × Int}{M N:Nat}(hx:Fq M x)(hy:Fq N y)(hM:M+N<=8000):jQ [fT x,fT y]=.ok (fT (dH x y),false):=by
 obtain⟨x1,x2,x3,x4,_⟩:=hx
 obtain⟨y1,y2,y3,y4,_⟩:=hy
 have nM:=gF M
 have nN:=gF N
 have c1:cW x.1 y.1=true:=iH (M:=M) (N:=N) (by omega) (by omega) (by omega) (by omega)
 have c2:cW x.2 y.2=true:=iH (M:=M) (N:=N) (by omega) (by omega) (by omega) (by omega)
 have p:=Int.mul_pos (a:=x.2) (b:=y.2) (by omega) (by omega)
 have e:=Ao (a:=x.1*y.1) (b:=x.2*y.2) (M:=M+N) (by omega) (jT (by omega) x4 (by omega) y4) hM
 unfold jQ Mh aQ
 show _=Rs.ok (fT (red (x.1*y.1) (x.2*y.2)),false)
 generalize fT (red (x.1*y.1) (x.2*y.2))=R at e ⊢
 unfold fT
 simp -dsimp[dr,drs,bU,aB,aX,dX,eH,bA,c1,c2,e]
theorem Xf{x y:Int × Int}{M N:Nat}(hx:Fq M x)(hy:Fq N y)(hM:M+N<=8000):jP [fT x,fT y]=.ok (fT (sumF x y),false):=by
 obtain⟨x1,x2,x3,x4,_⟩:=hx
 obtain⟨y1,y2,y3,y4,_⟩:=hy
 have nM:=gF M
 have nN:=gF N
 have c1:cW x.1 y.2=true:=iH (M:=M) (N:=N) (by omega) (by omega) (by omega) (by omega)
 have c2:cW y.1 x.2=true:=iH (M:=N) (N:=M) (by omega) (by omega) (by omega) (by omega)
 have c3:cW x.2 y.2=true:=iH (M:=M) (N:=N) (by omega) (by omega) (by omega) (by omega)
 have p:=Int.mul_pos (a:=x.2) (b:=y.2) (by omega) (by omega)
 have e:=Ao (a:=x.1*y.2+y.1*x.2) (b:=x.2*y.2) (M:=M+N) (by omega) (jT (by omega) x4 (by omega) y4) hM
 unfold jP Fv aQ
 show _=Rs.ok (fT (red (x.1*y.2+y.1*x.2) (x.2*y.2)),false)
 generalize fT (red (x.1*y.2+y.1*x.2) (x.2*y.2))=R at e ⊢
 unfold fT
 simp -dsimp[dr,drs,cB,bU,aB,aX,dX,eH,bA,c1,c2,c3,e]
theorem Gq{x y:Int × Int}{M N:Nat}(hx:Fq M x)(hy:Fq N y)(hM:M+N<=8000):fY [fT x,fT y]=.ok (.bl (fB x y),false):=by
 obtain⟨x1,x2,x3,x4,_⟩:=hx
 obtain⟨y1,y2,y3,y4,_⟩:=hy
 have nM:=gF M
 have nN:=gF N
 have c1:cW x.1 y.2=true:=iH (M:=M) (N:=N) (by omega) (by omega) (by omega) (by omega)
 have c2:cW y.1 x.2=true:=iH (M:=N) (N:=M) (by omega) (by omega) (by omega) (by omega)
 unfold fY Mi aQ fT
 simp -dsimp[dr,bU,d8,aB,dX,eH,bA,c1,c2,fB]
noncomputable def xV:SF:=(aG (aW (aq dR (aq cB (aq cB (aq bU (aj 3) (aj 3)) (aq bU (eC (.int 69621)) (aj 5))) (eC (.int 7))) (eC (.int 2147483587))) (gN 3)) (aW (aq cB (aq bU (aj 4) (eC (.int 2147483563))) (aq dR (aq bU (aj 3) (aj 3)) (eC (.int 2147483563)))) (gN 4)))
theorem Xg(s0 s1 s2:Sl):∀(us:List Tr) (num sX:Int) (s5:Sl),0<=num->num<3000000000->(∀u∈us,∃j:Int,u=.int j/\0<=j/\j<1000)->∃x y t5,cM (gN 5) xV us [s0,s1,s2,.sh (.int num),.sh (.int sX),s5]=.ok (.nx,[s0,s1,s2,.sh (.int x),.sh (.int y),t5])
 | [],num,sX,s5,_,_,_=>⟨num,sX,s5,rfl⟩
 |u::us,num,sX,s5,h0,h1,h=>by
  obtain⟨j,rfl,j0,j1⟩:=h u (by simp)
  have c1:cW num num=true:=Nk (by omega)
  have c2:cW 69621 j=true:=Nk (by omega)
  have rA:=Gi (num*num+69621*j+7) 2147483587 (by omega)
  generalize hA:(num*num+69621*j+7).fmod 2147483587=A at rA
  have c3:cW A A=true:=Nk (by omega)
  have c4:cW sX 2147483563=true:=vB (by omega)
  generalize hB:(A*A).fmod 2147483563=B
  obtain⟨x,y,t5,e'⟩:=Xg s0 s1 s2 us A (sX*2147483563+B) (.sh (.int j)) rA.1 (by omega) λv hv=>h v (by simp[hv])
  have e:xV [s0,s1,s2,.sh (.int num),.sh (.int sX),.sh (.int j)]=.ok (.nx,[s0,s1,s2,.sh (.int A),.sh (.int (sX*2147483563+B)),.sh (.int j)]):=by
   unfold xV
   simp -dsimp[dr,bU,ju,c1,c2,cB,gI,dR,hA,c3,c4,hB]
  refine⟨x,y,t5,?_⟩
  unfold cM
  simp[e,e']
noncomputable def xW:SF:=(aG (bY (bV (aq lA (aj 2) (aq gJ (eC (.int 10)) (eC (.int 18))))) (aY (aq dR (aq fD (aj 2) (aq gJ (eC (.int 10)) (eC (.int 18)))) (aq gJ (eC (.int 10)) (eC (.int 60))))) bW) (aG (aW (aq dR (aq cB (aq cB (aq bU (aj 2) (eC (.int 48271))) (aq bU (aj 1) (eC (.int 69621)))) (eC (.int 11))) (eC (.int 2147483629))) (gN 3)) (aG (aW (eC (.int 0)) (gN 4)) (aG (bZ (cO (fL (ak (eC (.int 8)) au)) (gN 5) xV)) (aY (aj 4))))))
theorem agh:Ma=(aG (aW (eC (.int 0)) (gN 2)) (aG (bY (bV (aq d8 (aj 1) (bF (g1 bK) (ak (aj 0) au)))) (aW (aq aB (aj 0) (aj 1)) (gN 2)) bW) xW)):=rfl
theorem Xh(s0:Sl)(k cell:Int):∃x ρ,xW [s0,.sh (.int k),.sh (.int cell),.un,.un,.un]=.ok (.rt (.int x) false,ρ):=by
 have Xi:gJ (.int 10) (.int 18)=.ok (.int 1000000000000000000,false):=by kernel_rfl
 by_cases h:1000000000000000000<=cell
 ·have p60:gJ (.int 10) (.int 60)=.ok (.int (10 ^ 60),false):=by kernel_rfl
  have m60:dR (.int (cell-1000000000000000000)) (.int (10 ^ 60))=.ok (.int ((cell-1000000000000000000).fmod (10 ^ 60)),false):=by
   show(if decide ((10:Int) ^ 60≠0)=true then Rs.ok (Tr.int ((cell-1000000000000000000).fmod (10 ^ 60)),false)else .bad)=_
   rw[if_pos (by decide)]
  generalize (10:Int) ^ 60=P at *
  refine⟨(cell-1000000000000000000).fmod P,[s0,.sh (.int k),.sh (.int cell),.un,.un,.un],?_⟩
  unfold xW
  simp -dsimp[dr,Xi,lA,gB,h,bO,p60,fD,gI,m60]
 ·have c1:cW cell 48271=true:=vB (by omega)
  have c2:cW k 69621=true:=vB (by omega)
  have rA:=Gi (cell*48271+k*69621+11) 2147483629 (by omega)
  generalize hA:(cell*48271+k*69621+11).fmod 2147483629=A at rA
  obtain⟨x,y,t5,e⟩:=Xg s0 (.sh (.int k)) (.sh (.int cell)) (L2.upTo 0 8) A 0 .un rA.1 (by omega) λu hu=>by
   rw[qR]at hu
   obtain⟨i,hi,rfl⟩:=List.mem_map.mp hu
   have:=List.mem_range.mp hi
   exact⟨i,rfl,by omega,by omega⟩
  have e1:bZ (cO (fL (ak (eC (.int 8)) au)) (gN 5) xV) [s0,.sh (.int k),.sh (.int cell),.sh (.int A),.sh (.int 0),.un]=.ok (.nx,[s0,.sh (.int k),.sh (.int cell),.sh (.int x),.sh (.int y),t5]):=by
   show cV (cM (gN 5) xV (L2.upTo 0 8) _)=_
   rw[e]
   rfl
  refine⟨y,[s0,.sh (.int k),.sh (.int cell),.sh (.int x),.sh (.int y),t5],?_⟩
  unfold xW
  generalize bZ _=G at e1 ⊢
  simp -dsimp[dr,Xi,lA,gB,h,bO,bU,ju,c1,c2,cB,gI,dR,hA,e1]
theorem cell_eq(ns:List Int)(k:Nat):∃x:Int,jf [.lst (ns.map .int),.int k]=.ok (.int x,false):=by
 unfold jf
 rw[agh]
 have el:bK (.lst (ns.map .int))=.ok (.int (ns.length:Int),false):=by
  show Rs.ok (Tr.int ((ns.map Tr.int).length:Int),false)=_
  rw[List.length_map]
 by_cases h:k<ns.length
 ·have e:=af0 (xs:=ns.map .int) (i:=k) (T:=.int ns[k]) (by simp[h])
  obtain⟨x,ρ,e1⟩:=Xh (.sh (.lst (ns.map .int))) k ns[k]
  refine⟨x,?_⟩
  unfold aQ
  generalize xW=G at e1 ⊢
  generalize ns[k]=cell at e e1
  have q:(k:Int)<ns.length:=by omega
  generalize Tr.lst (ns.map .int)=T at *
  simp -dsimp[bA,dr,drs,g1,el,d8,gB,q,bO,e,e1]
 ·obtain⟨x,ρ,e1⟩:=Xh (.sh (.lst (ns.map .int))) k 0
  refine⟨x,?_⟩
  unfold aQ
  generalize xW=G at e1 ⊢
  have q:¬(k:Int)<ns.length:=by omega
  generalize Tr.lst (ns.map .int)=T at *
  simp -dsimp[bA,dr,drs,g1,el,d8,gB,q,bO,e1]
def Wq(y:Int × Int):Prop:=Wo y/\y.2<=120000000000
theorem agi{z b:Int}(h0:0<=z)(h1:z<=b)(h2:1<=b)(h3:b<=120000000000):Wq (red z b):=by
 obtain⟨g1,g2,g3,g4,g5,g6,g7⟩:=yR (a:=z) (b:=b) (by omega)
 have d2:=Int.ediv_le_self (a:=b) ((Int.gcd z b:Nat):Int) (by omega)
 have d3:=Int.ediv_le_ediv g1 h1
 exact⟨⟨g5 h0,d3,g3,by show b / ((Int.gcd z b:Nat):Int)<=_; omega,g4⟩,by show b / ((Int.gcd z b:Nat):Int)<=_; omega⟩
def Aq:EF:=(aK kW (ak (bF (g2 wH) (ak (eC (.int 0)) (ak (bF (g2 wG) (ak (aj 1) (ak (aj 2) au))) au))) (ak (aj 1) au)))
theorem Xj(s0:Sl){b t:Int}(hb:1<=b)(hb2:b<=120000000000):∃y,Aq [s0,.sh (.int b),.sh (.int t)]=.ok (.v (fT y) false,[s0,.sh (.int b),.sh (.int t)])/\Wq y:=by
 have mn:wG (.int b) (.int t)=.ok (.int (if t<b then t else b),false):=rfl
 generalize hm:(if t<b then t else b)=m at mn
 have hm':m<=b:=by rw[<-hm]; split <;> omega
 have mx:wH (.int 0) (.int m)=.ok (.int (if m > 0 then m else 0),false):=rfl
 generalize hz:(if m > 0 then m else 0)=z at mx
 have hz0:0<=z/\z<=b:=by rw[<-hz]; split <;> omega
 have e:=Ao (a:=z) (b:=b) (M:=60) hb (by omega) (by omega)
 refine⟨red z b,?_,agi hz0.1 hz0.2 hb hb2⟩
 generalize fT (red z b)=R at *
 unfold Aq
 simp -dsimp[dr,drs,aX,g2,mn,mx,e]
noncomputable def Ar:SF:=(aG (bY (bV (aq cj (gK 0 gM (ak (aj 0) (ak (eC (.int 8)) au))) (eC (.int 7)))) (aG (aW (aq fD (aq cB (aq bU (aj 2) (aq gJ (eC (.int 10)) (eC (.int 10)))) (gK 0 gM (ak (aj 0) (ak (eC (.int 5)) au)))) (eC (.int 2))) (gN 2)) (aW (aq bU (aj 1) (aq gJ (eC (.int 10)) (eC (.int 10)))) (gN 1))) bW) (aY Aq))
theorem agj(n b t:Int)(hb:1<=b)(hb2:b<=12)(ht:0<=t)(ht2:t<=12):∃y m ρ,Ar [.rf [.int n],.sh (.int b),.sh (.int t)]=.ok (.rt (fT y) false,.rf [.int m]::ρ)/\Wq y:=by
 obtain⟨x,n1,e1,x0,x1⟩:=qT n 8 (by omega) (by decide)
 have p10:gJ (.int 10) (.int 10)=.ok (.int 10000000000,false):=by kernel_rfl
 by_cases h:x=7
 ·subst h
  obtain⟨z,n2,e2,z0,z1⟩:=qT n1 5 (by omega) (by decide)
  have c1:cW t 10000000000=true:=vB (by omega)
  have c2:cW b 10000000000=true:=vB (by omega)
  obtain⟨y,e3,hy⟩:=Xj (.rf [.int n2]) (b:=b*10000000000) (t:=t*10000000000+z-2) (by omega) (by omega)
  refine⟨y,n2,[.sh (.int (b*10000000000)),.sh (.int (t*10000000000+z-2))],?_,hy⟩
  generalize fT y=R at *
  unfold Ar
  generalize Aq=G at e3 ⊢
  simp -dsimp[con,drs,dr,aX,others,cR,e1,cj,jJ,nY,bO,p10,bU,ju,c1,c2,e2,cB,fD,gI,e3]
 ·obtain⟨y,e3,hy⟩:=Xj (.rf [.int n1]) (b:=b) (t:=t) (by omega) (by omega)
  refine⟨y,n1,[.sh (.int b),.sh (.int t)],?_,hy⟩
  have q:(x == 7)=false:=by simp[h]
  generalize fT y=R at *
  unfold Ar
  generalize Aq=G at e3 ⊢
  simp -dsimp[con,drs,dr,aX,others,cR,e1,cj,jJ,nY,q,bO,e3]
theorem agk(n:Int):∃y m,Ad [.lst [.int n]]=.ok ((fT y,false),[.int m])/\Wq y:=by
 obtain⟨x,n1,e1,x0,x1⟩:=qT n 7 (by omega) (by decide)
 obtain⟨b,eb,b0,b1⟩:∃b:Int,aB (.lst [.int 1,.int 2,.int 3,.int 4,.int 6,.int 10,.int 12]) (.int x)=.ok (.int b,false)/\1<=b/\b<=12:=by
  rcases(show x=0\/x=1\/x=2\/x=3\/x=4\/x=5\/x=6 by omega)with rfl|rfl|rfl|rfl|rfl|rfl|rfl
  ·exact⟨1,rfl,by omega,by omega⟩
  ·exact⟨2,rfl,by omega,by omega⟩
  ·exact⟨3,rfl,by omega,by omega⟩
  ·exact⟨4,rfl,by omega,by omega⟩
  ·exact⟨6,rfl,by omega,by omega⟩
  ·exact⟨10,rfl,by omega,by omega⟩
  ·exact⟨12,rfl,by omega,by omega⟩
 obtain⟨t,n2,e2,t0,t1⟩:=qT n1 (b+1) (by omega) (by omega)
 obtain⟨y,m,ρ,e3,hy⟩:=agj n2 b t b0 b1 t0 (by omega)
 refine⟨y,m,?_,hy⟩
 show nq 3 0 (aG (aW (aq aB (nu [.int 1,.int 2,.int 3,.int 4,.int 6,.int 10,.int 12]) (gK 0 gM (ak (aj 0) (ak (eC (.int 7)) au)))) (gN 1)) (aG (aW (gK 0 gM (ak (aj 0) (ak (aq cB (aj 1) (eC (.int 1))) au))) (gN 2)) Ar)) [.lst [.int n]]=_
 generalize Ar=G at e3 ⊢
 generalize fT y=R at *
 unfold nq
 generalize ([.int 1,.int 2,.int 3,.int 4,.int 6,.int 10,.int 12]:List Tr)=L at *
 simp -dsimp[bA,con,drs,dr,aX,others,cR,cV,jx,m9,e1,eb,cB,e2,e3]
theorem Xk{f:EF}{h:Int × Int->Tr}:∀(xs:List (Int × Int)) (s0 s1:Sl),(∀x∈xs,∃fr,f [.sh (.int x.1),.sh (.int x.2)]=.ok (.v (h x) fr,[.sh (.int x.1),.sh (.int x.2)]))->∃t0 t1,gR (gT 2 (bL (gN 0) (bL (gN 1) dD))) cH f (xs.map fT) [s0,s1]=.ok (xs.map h,[t0,t1])
 | [],s0,s1,_=>⟨s0,s1,rfl⟩
 |x::xs,s0,s1,q=>by
  obtain⟨fr,e⟩:=q x (by simp)
  obtain⟨t0,t1,e'⟩:=Xk xs (.sh (.int x.1)) (.sh (.int x.2)) λv hv=>q v (by simp[hv])
  refine⟨t0,t1,?_⟩
  rw[List.map_cons]
  unfold gR
  rw[show(gT 2 (bL (gN 0) (bL (gN 1) dD))) (fT x) [s0,s1]=.ok [.sh (.int x.1),.sh (.int x.2)]from rfl]
  simp[e,mq,e']
theorem Xl{f:EF}{h:Int × Int->Tr}{i:IF}{ρ : En}{xs:List (Int × Int)}(hl:xs.length<=100000)(hi:i ρ=.ok (xs.map fT,ρ))(q:∀x∈xs,∃fr,f [.sh (.int x.1),.sh (.int x.2)]=.ok (.v (h x) fr,[.sh (.int x.1),.sh (.int x.2)])) :
  cD [none,none] i (gT 2 (bL (gN 0) (bL (gN 1) dD))) cH f ρ=.ok (.v (.lst (xs.map h)) true,ρ):=by
 obtain⟨t0,t1,e⟩:=Xk xs .un .un q
 have hl':(xs.map fT).length<=100000:=by rw[List.length_map]; exact hl
 rw[Ga,hi]
 simp only[vp]
 rw[if_pos hl',show fV [none,none] ρ=[.un,.un]from rfl,e]
 rfl
def xX:EF:=(eY (ak (gK 0 gM (ak (aj 1) (ak (eC (.int 7)) au))) (ak (aq cB (eC (.int 1)) (gK 0 gM (ak (aj 1) (ak (eC (.int 4)) au)))) au)))
def P1(p:Int × Int):Prop:=0<=p.1/\p.1<=600000000001/\1<=p.2/\p.2<=400000000000
def P0(p:Int × Int):Prop:=0<=p.1/\p.1<=6/\1<=p.2/\p.2<=4
theorem Xm:∀(us:List Tr) (s:Sl) (n:Int),∃(ws:List (Int × Int)) (s':Sl) (m:Int),gR (gN 0) cH xX us [s,.ow [.int n]]=.ok (ws.map fT,[s',.ow [.int m]])/\ws.length=us.length/\∀w∈ws,P0 w
 | [],s,n=>⟨[],s,n,rfl,rfl,by simp⟩
 |u::us,s,n=>by
  obtain⟨x,n1,e1,x0,x1⟩:=qT n 7 (by omega) (by decide)
  obtain⟨y,n2,e2,y0,y1⟩:=qT n1 4 (by omega) (by decide)
  obtain⟨ws,s',m,e',hl,hp⟩:=Xm us (.sh u) n2
  refine⟨(x,1+y)::ws,s',m,?_,by simp[hl],λw hw=>(List.mem_cons.mp hw).elim (λz=>z▸⟨x0,by show x<=6; omega,by show 1<=1+y; omega,by show 1+y<=4; omega⟩) (hp w)⟩
  have e:xX [.sh u,.ow [.int n]]=.ok (.v (fT (x,1+y)) false,[.sh u,.ow [.int n2]]):=by
   unfold xX fT
   simp -dsimp[con,drs,dr,aX,others,cR,cls,e1,cB,e2]
  generalize xX=G at e e' ⊢
  unfold gR
  simp[e,mq,e']
def Av:SF:=(aY (eY (ak (eC (.str "shares")) (ak (cD [none,none] (bQ (aj 4)) (gT 2 (bL (gN 0) (bL (gN 1) dD))) cH (aK kW (ak (aj 0) (ak (aj 1) au)))) au))))
theorem Xn(s0 s1 s2 s3:Sl){ws:List (Int × Int)}(hw:∀w∈ws,P1 w)(hl:ws.length<=4):∃vs ρ,Av [s0,s1,s2,s3,.sh (aC ws)]=.ok (.rt (aU (.sh vs)) false,ρ)/\vs.length=ws.length/\∀v∈vs,Fq 45 v:=by
 have e:=Xl (f:=aK kW (ak (aj 0) (ak (aj 1) au))) (h:=λx=>fT (red x.1 x.2)) (i:=bQ (aj 4)) (ρ:=[s0,s1,s2,s3,.sh (aC ws)]) (xs:=ws) (by omega) rfl (λx hx=>⟨false,by
  obtain⟨h1,h2,h3,h4⟩:=hw x hx
  have:=Ao (a:=x.1) (b:=x.2) (M:=60) h3 (by omega) (by omega)
  generalize fT (red x.1 x.2)=R at *
  simp -dsimp[drs,dr,aX,this]⟩)
 refine⟨ws.map λx=>red x.1 x.2,[s0,s1,s2,s3,.sh (aC ws)],?_,by simp,λv hv=>?_⟩
 ·have hr:Tr.lst (ws.map λx=>fT (red x.1 x.2))=aC (ws.map λx=>red x.1 x.2):=by unfold aC; rw[List.map_map]; rfl
  rw[hr]at e
  show _=Rs.ok (Fl.rt (.tup [.str "shares",aC (ws.map λx=>red x.1 x.2)]) false,_)
  unfold Av
  generalize cD _ _ _ _ _=G at e ⊢
  generalize aC (ws.map λx=>red x.1 x.2)=R,aC ws=T at *
  simp -dsimp[cls,e]
 ·obtain⟨x,hx,rfl⟩:=List.mem_map.mp hv
  obtain⟨h1,h2,h3,h4⟩:=hw x hx
  exact xT h1 (by omega) h3 (by omega)
noncomputable def Aw:SF:=(aG (bY (bV (aq cj (gK 0 gM (ak (aj 2) (ak (eC (.int 8)) au))) (eC (.int 7)))) (aW (cD [none,none] (bQ (aj 4)) (gT 2 (bL (gN 0) (bL (gN 1) dD))) cH (eY (ak (aq cB (aq bU (aj 0) (aq gJ (eC (.int 10)) (eC (.int 11)))) (eC (.int 1))) (ak (aq bU (aj 1) (aq gJ (eC (.int 10)) (eC (.int 11)))) au)))) (gN 4)) bW) Av)
theorem agl(s0 s1 s3:Sl)(n:Int){ws:List (Int × Int)}(hw:∀w∈ws,P0 w)(hl:ws.length<=4):∃vs ρ,Aw [s0,s1,.ow [.int n],s3,.sh (aC ws)]=.ok (.rt (aU (.sh vs)) false,ρ)/\vs.length=ws.length/\∀v∈vs,Fq 45 v:=by
 obtain⟨x,n1,e1,x0,x1⟩:=qT n 8 (by omega) (by decide)
 have p11:gJ (.int 10) (.int 11)=.ok (.int 100000000000,false):=by kernel_rfl
 by_cases h:x=7
 ·subst h
  have e:=Xl (f:=(eY (ak (aq cB (aq bU (aj 0) (aq gJ (eC (.int 10)) (eC (.int 11)))) (eC (.int 1))) (ak (aq bU (aj 1) (aq gJ (eC (.int 10)) (eC (.int 11)))) au)))) (h:=λx=>fT (x.1*100000000000+1,x.2*100000000000)) (i:=bQ (aj 4)) (ρ:=[s0,s1,.ow [.int n1],s3,.sh (aC ws)]) (xs:=ws) (by omega) rfl (λx hx=>⟨false,by
   have c1:cW x.1 100000000000=true:=vB (by omega)
   have c2:cW x.2 100000000000=true:=vB (by omega)
   unfold fT
   simp -dsimp[dr,p11,bU,ju,c1,c2,cB,cls]⟩)
  obtain⟨vs,ρ,e2,h1,h2⟩:=Xn s0 s1 (.ow [.int n1]) s3 (ws:=ws.map λx=>(x.1*100000000000+1,x.2*100000000000)) (λw hw'=>by
   obtain⟨x,hx,rfl⟩:=List.mem_map.mp hw'
   obtain⟨h1,h2,h3,h4⟩:=hw x hx
   exact⟨by show 0<=x.1*100000000000+1; omega,by show x.1*100000000000+1<=_; omega,by show 1<=x.2*100000000000; omega,by show x.2*100000000000<=_; omega⟩) (by simpa using hl)
  refine⟨vs,ρ,?_,by simpa using h1,h2⟩
  have hr:Tr.lst (ws.map λx=>fT (x.1*100000000000+1,x.2*100000000000))=aC (ws.map λx=>(x.1*100000000000+1,x.2*100000000000)):=by unfold aC; rw[List.map_map]; rfl
  rw[hr]at e
  unfold Aw
  generalize Av=G2 at e2 ⊢
  generalize cD _ _ _ _ _=G at e ⊢
  generalize aC (ws.map λx=>(x.1*100000000000+1,x.2*100000000000))=R,aC ws=T at *
  simp -dsimp[con,drs,dr,aX,others,cR,e1,cj,jJ,nY,bO,e,e2]
 ·obtain⟨vs,ρ,e2,h1,h2⟩:=Xn s0 s1 (.ow [.int n1]) s3 (ws:=ws) (λw hw'=>by
   obtain⟨h1,h2,h3,h4⟩:=hw w hw'
   exact⟨h1,by omega,h3,by omega⟩) hl
  refine⟨vs,ρ,?_,h1,h2⟩
  have q:(x == 7)=false:=by simp[h]
  unfold Aw
  generalize Av=G2 at e2 ⊢
  generalize aC ws=T at *
  simp -dsimp[con,drs,dr,aX,others,cR,e1,cj,jJ,nY,q,bO,e2]
def xY:SF:=(aG (aW (cD [none,some 2] (fL (ak (aj 1) au)) (gN 0) cH xX) (gN 4)) Aw)
theorem agm(s0 s3 s4:Sl)(n:Int)(k:Nat)(hk:k<=4):∃vs ρ,xY [s0,.sh (.int k),.ow [.int n],s3,s4]=.ok (.rt (aU (.sh vs)) false,ρ)/\vs.length=k/\∀v∈vs,Fq 45 v:=by
 obtain⟨ws,s',m,e,hl,hp⟩:=Xm (L2.upTo 0 k) .un n
 have ul:(L2.upTo 0 k).length=k:=by rw[qR]; simp
 rw[ul]at hl
 obtain⟨vs,ρ,e2,h1,h2⟩:=agl s0 (.sh (.int k)) s3 m hp (by omega)
 refine⟨vs,ρ,?_,h1.trans hl,h2⟩
 have q1:(-1000000:Int)<=k:=by omega
 have q2:(k:Int)<=1000000:=by omega
 have q3:k<=100000:=by omega
 have hrow:Tr.lst (ws.map fT)=aC ws:=rfl
 unfold xY
 generalize xX=G at e ⊢
 generalize Aw=G2 at e2 ⊢
 generalize aC ws=R,ws.map fT=L at *
 subst hrow
 simp -dsimp[cV,cR,dr,drs,okR,fV,cU,gh,o7,su,q1,q2,q3,ul,e,e2]
theorem agn:Mj=(aG (j9 2 (jk (ak (aj 0) au))) (aG (aW (gK 0 gM (ak (aj 2) (ak (eC (.int 6)) au))) (gN 3)) (aG (bY (bV (aq d8 (aj 3) (eC (.int 2)))) xY bW) (aG (bY (bV (aq cj (aj 3) (eC (.int 2)))) (aY (eY (ak (eC (.str "middle")) (ak (aq cB (eC (.int 1)) (gK 0 gM (ak (aj 2) (ak (aj 1) au)))) au)))) bW) (aY (aq aB (nu [.tup [.str "least"],.tup [.str "greatest"],.tup [.str "product"]]) (aq fD (aj 3) (eC (.int 3))))))))):=rfl
theorem ago(n:Int){k:Nat}(h1:1<=k)(h4:k<=4):∃r,vf [.int n,.int k]=.ok (aU r,false)/\fM k r:=by
 obtain⟨x,n1,e1,x0,x1⟩:=qT n 6 (by omega) (by decide)
 unfold vf
 rw[agn]
 by_cases h2:x<2
 ·obtain⟨vs,ρ,e2,a1,a2⟩:=agm (.sh (.int n)) (.sh (.int x)) .un n1 k h4
  refine⟨.sh vs,?_,a1,a2⟩
  generalize xY=G at e2 ⊢
  generalize aU (.sh vs)=R at *
  unfold aQ
  simp -dsimp[bA,con,drs,dr,aX,others,cR,cls,e1,d8,gB,h2,bO,e2]
 ·by_cases h3:x=2
  ·subst h3
   obtain⟨y,n2,e2,y0,y1⟩:=qT n1 k (by omega) (by omega)
   obtain⟨j,hj⟩:∃j:Nat,(j:Int)=1+y:=⟨(1+y).toNat,by omega⟩
   refine⟨.mid j,?_,by omega,by omega⟩
   show _=Rs.ok (Tr.tup [.str "middle",.int j],false)
   unfold aQ
   generalize xY=G
   simp -dsimp[bA,con,drs,dr,aX,others,cR,cls,e1,d8,gB,bO,cj,jJ,nY,cB,e2,hj]
  ·have q:(x == 2)=false:=by simp[h3]
   obtain⟨r,er,hr⟩:∃r,aB (.lst [.tup [.str "least"],.tup [.str "greatest"],.tup [.str "product"]]) (.int (x-3))=.ok (aU r,false)/\fM k r:=by
    rcases(show x=3\/x=4\/x=5 by omega)with rfl|rfl|rfl
    ·exact⟨.least,rfl,trivial⟩
    ·exact⟨.greatest,rfl,trivial⟩
    ·exact⟨.product,rfl,trivial⟩
   refine⟨r,?_,hr⟩
   generalize ([.tup [.str "least"],.tup [.str "greatest"],.tup [.str "product"]]:List Tr)=L at *
   generalize xY=G
   generalize aU r=R at *
   unfold aQ
   simp -dsimp[bA,con,drs,dr,aX,others,cR,cls,e1,d8,gB,h2,bO,cj,jJ,nY,q,fD,gI,er]
end K57
end
section
namespace K57
open PySem L2 BH
def vG:BF:=(oO (bV (aq d8 (aj 3) (bF (g1 bK) (ak (aj 1) au)))) (dU (cL (aK fY (ak (aq aB (aj 1) (aj 3)) (ak (aj 2) au))))))
def Ax:SF:=(aW (aq cB (aj 3) (eC (.int 1))) (gN 3))
theorem agp(s0:Sl){zs:List (Int × Int)}(w:Int × Int):vG [s0,.ow (zs.map fT),.sh (fT w),.sh (.int zs.length)]=.ok (false,[s0,.ow (zs.map fT),.sh (fT w),.sh (.int zs.length)]):=by
 have el:bK (.lst (zs.map fT))=.ok (.int (zs.length:Int),false):=by
  show Rs.ok (Tr.int ((zs.map fT).length:Int),false)=_
  rw[List.length_map]
 have q:¬(zs.length:Int)<zs.length:=by omega
 generalize zs.map fT=L,fT w=W,(zs.length:Int)=N at *
 unfold vG
 simp -dsimp[dr,drs,g1,el,d8,gB,bO]
theorem agq(s0:Sl){zs:List (Int × Int)}{w:Int × Int}(hz:∀z∈zs,Fq 3300 z)(hw:Fq 3300 w){p:Nat}(hp:p<zs.length):vG [s0,.ow (zs.map fT),.sh (fT w),.sh (.int p)]=.ok (!(fB zs[p] w),[s0,.ow (zs.map fT),.sh (fT w),.sh (.int p)]):=by
 have el:bK (.lst (zs.map fT))=.ok (.int (zs.length:Int),false):=by
  show Rs.ok (Tr.int ((zs.map fT).length:Int),false)=_
  rw[List.length_map]
 have q:(p:Int)<zs.length:=by omega
 have e:=Gq (hz _ (List.getElem_mem hp)) hw (by omega)
 have ei:aB (.lst (zs.map fT)) (.int p)=.ok (fT zs[p],false):=jR (by rw[List.getElem?_map,List.getElem?_eq_getElem hp]; rfl)
 generalize fB zs[p] w=B,fT zs[p]=Z,fT w=W,zs.map fT=L,(zs.length:Int)=N at *
 unfold vG
 simp -dsimp[dr,drs,aX,g1,el,d8,gB,q,bO,ei,e,jy,m9,cX]
theorem Xo(s0:Sl){zs:List (Int × Int)}{w:Int × Int}(hz:∀z∈zs,Fq 3300 z)(hw:Fq 3300 w):∀(n p:Nat),p<=zs.length->zs.length-p<n->(∀j (h:j<zs.length),j<p->le2 w zs[j]) ->
  ∃q,m8 vG Ax n [s0,.ow (zs.map fT),.sh (fT w),.sh (.int p)]=.ok (.nx,[s0,.ow (zs.map fT),.sh (fT w),.sh (.int (q:Nat))])/\q<=zs.length/\(∀j (h:j<zs.length),j<q->le2 w zs[j])/\∀h:q<zs.length,le2 zs[q] w
 | 0,p,_,h,_=>by omega
 |n+1,p,hp,hn,hj=>by
  unfold m8
  by_cases e:p=zs.length
  ·subst e
   refine⟨zs.length,?_,Nat.le_refl _,hj,λh=>by omega⟩
   rw[agp]
   rfl
  ·have hlt:p<zs.length:=by omega
   rw[agq s0 hz hw hlt]
   cases b:fB zs[p] w with
   |true =>
    refine⟨p,rfl,hp,hj,λ_=>?_⟩
    unfold fB at b
    have:=of_decide_eq_true b
    unfold le2
    omega
   |false =>
    obtain⟨q,e1,e2,e3,e4⟩:=Xo s0 hz hw n (p+1) (by omega) (by omega) λj h hj'=>by
     by_cases z:j=p
     ·subst z; exact sW.mp b
     ·exact hj j h (by omega)
    refine⟨q,?_,e2,e3,e4⟩
    have eb:Ax [s0,.ow (zs.map fT),.sh (fT w),.sh (.int p)]=.ok (.nx,[s0,.ow (zs.map fT),.sh (fT w),.sh (.int ((p+1:Nat):Int))]):=by
     rw[show((p+1:Nat):Int)=(p:Int)+1 by omega]
     generalize zs.map fT=L
     generalize fT w=W
     unfold Ax
     simp -dsimp[dr,cB]
    simp only[Rs.dF,Bool.not_false,if_true]
    rw[eb]
    exact e1
def xZ:SF:=(aG (aW (eC (.int 0)) (gN 3)) (aG (jE (sI 1) vG Ax) (jw (oZ 1 nG (ak (aj 3) (ak (aj 2) au))))))
theorem agr{zs:List (Int × Int)}{w:Int × Int}{q:Nat}(hz:∀z∈zs,Fq 3300 z)(hw:Fq 3300 w)(h:zs.Pairwise λa b=>le2 b a)(hq:q<=zs.length)(h1:∀j (h:j<zs.length),j<q->le2 w zs[j])(h2:∀h:q<zs.length,le2 zs[q] w):(zs.take q++w::zs.drop q).Pairwise λa b=>le2 b a:=by
 have pw:=List.pairwise_iff_getElem.mp h
 rw[List.pairwise_append]
 refine⟨h.sublist (List.take_sublist _ _),List.pairwise_cons.mpr ⟨λb hb=>?_,h.sublist (List.drop_sublist _ _)⟩,λa ha b hb=>?_⟩
 ·obtain⟨j,hj,rfl⟩:=List.getElem_of_mem hb
  rw[List.getElem_drop]
  have jl:q+j<zs.length:=by rw[List.length_drop]at hj; omega
  have a1:=h2 (by omega)
  by_cases z:j=0
  ·subst z; exact a1
  ·have a2:=pw q (q+j) (by omega) jl (by omega)
   exact af6 (hz _ (List.getElem_mem jl)).2.2.1 (hz _ (List.getElem_mem (by omega))).2.2.1 hw.2.2.1 a2 a1
 ·obtain⟨j,hj,rfl⟩:=List.getElem_of_mem ha
  rw[List.length_take]at hj
  rw[List.getElem_take]
  have a1:=h1 j (by omega) (by omega)
  rcases List.mem_cons.mp hb with rfl|hb
  ·exact a1
  ·obtain⟨i,hi,rfl⟩:=List.getElem_of_mem hb
   rw[List.length_drop]at hi
   rw[List.getElem_drop]
   exact pw j (q+i) (by omega) (by omega) (by omega)
theorem ags(s0 s3:Sl){zs:List (Int × Int)}{w:Int × Int}(hz:∀z∈zs,Fq 3300 z)(hw:Fq 3300 w)(hl:zs.length<=100)(h:zs.Pairwise λa b=>le2 b a):∃(zs':List (Int × Int)) (t3:Sl),xZ [s0,.ow (zs.map fT),.sh (fT w),s3]=.ok (.nx,[s0,.ow (zs'.map fT),.sh (fT w),t3])/\zs'.Perm (w::zs)/\zs'.Pairwise λa b=>le2 b a:=by
 obtain⟨q,e1,e2,e3,e4⟩:=Xo s0 hz hw (zs.length+1) 0 (by omega) (by omega) (λj h hj=>by omega)
 refine⟨zs.take q++w::zs.drop q,.sh (.int (q:Nat)),?_,?_,agr hz hw h e2 e3 e4⟩
 ·have ew:jE (sI 1) vG Ax [s0,.ow (zs.map fT),.sh (fT w),.sh (.int 0)]=.ok (.nx,[s0,.ow (zs.map fT),.sh (fT w),.sh (.int (q:Nat))]):=by
   unfold jE
   rw[show sI 1 [s0,.ow (zs.map fT),.sh (fT w),.sh (.int 0)]=(zs.map fT).length+1 from rfl,List.length_map]
   exact e1
  have em:nG (zs.map fT) [.int (q:Nat),fT w]=.ok ((zs.take q++w::zs.drop q).map fT,.non):=by
   show(if 0<=(q:Int)/\(q:Int).toNat<=(zs.map fT).length/\(zs.map fT).length<=100000 then Rs.ok ((zs.map fT).take (q:Int).toNat++fT w::(zs.map fT).drop (q:Int).toNat,Tr.non)else .bad)=_
   rw[List.length_map,Int.toNat_natCast,if_pos (by omega),List.map_append,List.map_cons,List.map_take,List.map_drop]
  generalize (zs.take q++w::zs.drop q).map fT=R,zs.map fT=L,fT w=W at *
  unfold xZ
  generalize jE _ _ _=G at ew ⊢
  simp -dsimp[ew,con,cls,dr,em,cR]
 ·have:(zs.take q++w::zs.drop q).Perm (w::(zs.take q++zs.drop q)):=List.perm_middle
  rw[List.take_append_drop]at this
  exact this
theorem Xp(s0:Sl):∀(xs zs:List (Int × Int)) (s2 s3:Sl),(∀x∈xs,Fq 3300 x)->(∀z∈zs,Fq 3300 z)->zs.length+xs.length<=100->zs.Pairwise (λa b=>le2 b a)->∃(zs':List (Int × Int)) (t2 t3:Sl),cM (gN 2) xZ (xs.map fT) [s0,.ow (zs.map fT),s2,s3]=.ok (.nx,[s0,.ow (zs'.map fT),t2,t3])/\zs'.Perm (zs++xs)/\zs'.Pairwise λa b=>le2 b a
 | [],zs,s2,s3,_,_,_,h=>⟨zs,s2,s3,rfl,by simp,h⟩
 |x::xs,zs,s2,s3,hx,hz,hl,h=>by
  rw[List.length_cons]at hl
  obtain⟨zs1,t3,e,p1,p2⟩:=ags s0 s3 hz (hx x (by simp)) (by omega) h
  have l1:zs1.length=zs.length+1:=by have:=p1.length_eq; simpa using this
  obtain⟨zs',r2,r3,e',q1,q2⟩:=Xp s0 xs zs1 (.sh (fT x)) t3 (λy hy=>hx y (by simp[hy])) (λz m=>by
   rcases List.mem_cons.mp (p1.mem_iff.mp m)with rfl|m
   ·exact hx _ (by simp)
   ·exact hz z m) (by omega) p2
  refine⟨zs',r2,r3,?_,?_,q2⟩
  ·exact xR e e'
  ·refine q1.trans ((p1.append_right xs).trans ?_)
   rw[List.cons_append]
   exact List.perm_middle.symm
theorem agt{xs:List (Int × Int)}(hx:∀x∈xs,Fq 3300 x)(hl:xs.length<=12):∃zs,Ae [aC xs]=.ok (aC zs,true)/\je xs zs:=by
 obtain⟨zs,t2,t3,e,p1,p2⟩:=Xp (.sh (aC xs)) xs [] .un .un hx (by simp) (by simp; omega) .nil
 refine⟨zs,?_,by simpa using p1,p2⟩
 have e1:bZ (cO (bQ (aj 0)) (gN 2) xZ) [.sh (aC xs),.ow [],.un,.un]=.ok (.nx,[.sh (aC xs),.ow (zs.map fT),t2,t3]):=by
  show cV (cM _ xZ (xs.map fT) [.sh (aC xs),.ow (([]:List (Int × Int)).map fT),.un,.un])=_
  rw[e]
  rfl
 show aQ 4 (aG (j9 1 (jk au)) (aG (bZ (cO (bQ (aj 0)) (gN 2) xZ)) (aY (aj 1)))) [aC xs]=Rs.ok (.lst (zs.map fT),true)
 generalize bZ _=G at e1 ⊢
 generalize aC xs=X,zs.map fT=Z at *
 unfold aQ
 simp -dsimp[bA,cls,e1]
def yc:SF:=(aW (aK jP (ak (aj 2) (ak (aK jQ (ak (aj 3) (ak (aj 4) au))) au))) (gN 2))
theorem agu(t w x:Int × Int)(M N:Nat)(s0 s1:Sl)(τ : En)(ht:Fq M t)(hw:Fq 45 w)(hx:Fq N x)(hM:M+(N+46)<=8000):yc (s0::s1 :: .sh (fT t) :: .sh (fT w) :: .sh (fT x)::τ)=.ok (.nx,s0::s1 :: .sh (fT (sumF t (dH w x))) :: .sh (fT w) :: .sh (fT x)::τ):=by
 have e1:=Gp hw hx (by omega)
 have e2:=Xf ht (nZ hw hx) (by omega)
 generalize fT (sumF t (dH w x))=R at e2 ⊢
 generalize fT (dH w x)=P at e1 e2
 generalize fT t=T,fT w=W,fT x=Y at *
 unfold yc
 simp -dsimp[drs,dr,aX,e1,e2]
def tot(m:Int × Int->Nat)(xs:List (Int × Int)):Nat:=(xs.map λx=>m x+46).sum
structure Bd(m:Int × Int->Nat)(xs:List (Int × Int)):Prop where
 fq:∀x∈xs,Fq (m x) x/\m x<=3300
 tt:tot m xs<=3900
theorem Nu(m:Int × Int->Nat)(s0 s1:Sl)(τ : En):∀(ws xs:List (Int × Int)) (t:Int × Int) (M:Nat) (s3 s4:Sl),Fq M t->(∀w∈ws,Fq 45 w)->(∀x∈xs,Fq (m x) x)->M+tot m xs<=8000 ->
  (∃t3 t4,cM (gT 2 (bL (gN 3) (bL (gN 4) dD))) yc ((ws.zip xs).map λp=>Tr.tup [fT p.1,fT p.2]) (s0::s1 :: .sh (fT t)::s3::s4::τ)=.ok (.nx,s0::s1 :: .sh (fT (gU (ws.zip xs) t))::t3::t4::τ))/\Fq (M+tot m xs) (gU (ws.zip xs) t)
 | [],xs,t,M,s3,s4,h,_,_,_=>⟨⟨s3,s4,by rw[List.zip_nil_left]; rfl⟩,by rw[List.zip_nil_left]; exact h.up (by omega)⟩
 |w::ws,[],t,M,s3,s4,h,_,_,_=>⟨⟨s3,s4,rfl⟩,h.up (by omega)⟩
 |w::ws,x::xs,t,M,s3,s4,h,hw,hx,hl=>by
  have et:tot m (x::xs)=m x+46+tot m xs:=rfl
  rw[et]at hl ⊢
  have f1:=hw w (by simp)
  have f2:=hx x (by simp)
  have h1:=nZ f1 f2
  have h2:=(Gj h h1).up (N:=M+(m x+46)) (by omega)
  have e:=agu t w x M (m x) s0 s1 τ h f1 f2 (by omega)
  obtain⟨⟨t3,t4,e'⟩,q⟩:=Nu m s0 s1 τ ws xs _ _ (.sh (fT w)) (.sh (fT x)) h2 (λq hq=>hw q (by simp[hq])) (λq hq=>hx q (by simp[hq])) (by omega)
  refine⟨⟨t3,t4,?_⟩,q.up (by omega)⟩
  rw[List.zip_cons_cons,List.map_cons]
  unfold cM
  rw[show(gT 2 (bL (gN 3) (bL (gN 4) dD))) (Tr.tup [fT w,fT x]) (s0::s1 :: .sh (fT t)::s3::s4::τ)=.ok (s0::s1 :: .sh (fT t) :: .sh (fT w) :: .sh (fT x)::τ)from rfl]
  simp only[Rs.dF]
  rw[e]
  exact e'
def yd:SF:=(aW (aK jQ (ak (aj 2) (ak (aj 4) au))) (gN 2))
theorem Nv(m:Int × Int->Nat)(s0 s1 s3 s5:Sl):∀(xs:List (Int × Int)) (t:Int × Int) (M:Nat) (s4:Sl),Fq M t->(∀p∈xs,Fq (m p) p)->M+tot m xs<=8000 ->
  (∃t4,cM (gN 4) yd (xs.map fT) [s0,s1,.sh (fT t),s3,s4,s5]=.ok (.nx,[s0,s1,.sh (fT (gW xs t)),s3,t4,s5]))/\Fq (M+tot m xs) (gW xs t)
 | [],t,M,s4,h,_,_=>⟨⟨s4,rfl⟩,h.up (by omega)⟩
 |x::xs,t,M,s4,h,hp,hl=>by
  have et:tot m (x::xs)=m x+46+tot m xs:=rfl
  rw[et]at hl ⊢
  have e:=Gp h (hp x (by simp)) (by omega)
  obtain⟨⟨t2,e'⟩,qq⟩:=Nv m s0 s1 s3 s5 xs _ _ (.sh (fT x)) (nZ h (hp x (by simp))) (λq hq=>hp q (by simp[hq])) (by omega)
  refine⟨⟨t2,?_⟩,qq.up (by omega)⟩
  have e1:yd [s0,s1,.sh (fT t),s3,.sh (fT x),s5]=.ok (.nx,[s0,s1,.sh (fT (dH t x)),s3,.sh (fT x),s5]):=by
   generalize fT (dH t x)=R at e ⊢
   generalize fT t=T,fT x=Y at *
   unfold yd
   simp -dsimp[drs,dr,aX,e]
  rw[List.map_cons]
  unfold cM
  rw[show gN 4 (fT x) [s0,s1,.sh (fT t),s3,s4,s5]=.ok [s0,s1,.sh (fT t),s3,.sh (fT x),s5]from rfl]
  simp only[Rs.dF]
  rw[e1]
  exact e'
def yg:SF:=(aG (aW (eC (.tup [.int 0,.int 1])) (gN 2)) (aG (bZ (cO (qz (ak (aq aB (aj 0) (eC (.int 1))) (ak (aj 1) au))) (gT 2 (bL (gN 3) (bL (gN 4) dD))) yc)) (aY (aj 2))))
def yh:SF:=(aG (aW (eC (.tup [.int 1,.int 1])) (gN 2)) (aG (bZ (cO (bQ (aj 1)) (gN 4) yd)) (aY (aj 2))))
noncomputable def sY:SF:=(aG (aW (bF (g1 bK) (ak (aj 1) au)) (gN 5)) (aG (bY (bV (aq cj (aq aB (aj 0) (eC (.int 0))) (eC (.str "greatest")))) (aW (eC (.int 1)) (gN 5)) bW) (aG (bY (bV (aq cj (aq aB (aj 0) (eC (.int 0))) (eC (.str "middle")))) (aW (aq aB (aj 0) (eC (.int 1))) (gN 5)) bW) (aY (aq aB (aK Ae (ak (aj 1) au)) (aq fD (aj 5) (eC (.int 1))))))))
theorem Nx:Ml=(aG (bY (bV (aq cj (aq aB (aj 0) (eC (.int 0))) (eC (.str "shares")))) yg bW) (aG (bY (bV (aq cj (aq aB (aj 0) (eC (.int 0))) (eC (.str "product")))) yh bW) sY)):=rfl
theorem agv{m:Int × Int->Nat}{ws xs:List (Int × Int)}(hw:∀w∈ws,Fq 45 w)(hx:Bd m xs):∃ρ,yg [.sh (aU (.sh ws)),.sh (aC xs),.un,.un,.un,.un]=.ok (.rt (fT (gU (ws.zip xs) (0,1))) false,ρ):=by
 have tt:=hx.tt
 obtain⟨⟨t3,t4,e⟩,_⟩:=Nu m (.sh (aU (.sh ws))) (.sh (aC xs)) [.un] ws xs (0,1) 1 .un .un vC hw (λx mx=>(hx.fq x mx).1) (by omega)
 rw[<-W7]at e
 have ef:qz (ak (aq aB (aj 0) (eC (.int 1))) (ak (aj 1) au)) [.sh (aU (.sh ws)),.sh (aC xs),.sh (fT (0,1)),.un,.un,.un]=.ok (o9 (ws.map fT) (xs.map fT),[.sh (aU (.sh ws)),.sh (aC xs),.sh (fT (0,1)),.un,.un,.un]):=by
  have e4:aB (aU (.sh ws)) (.int 1)=.ok (.lst (ws.map fT),false):=rfl
  have e5:aC xs=.lst (xs.map fT):=rfl
  rw[e5]
  generalize aU (.sh ws)=T,ws.map fT=W,xs.map fT=Y at *
  simp -dsimp[dr,e4]
 have e1:bZ (cO (qz (ak (aq aB (aj 0) (eC (.int 1))) (ak (aj 1) au))) (gT 2 (bL (gN 3) (bL (gN 4) dD))) yc) [.sh (aU (.sh ws)),.sh (aC xs),.sh (fT (0,1)),.un,.un,.un]=.ok (.nx,[.sh (aU (.sh ws)),.sh (aC xs),.sh (fT (gU (ws.zip xs) (0,1))),t3,t4,.un]):=by
  unfold bZ cO
  rw[ef]
  show cV (cM _ yc (o9 (ws.map fT) (xs.map fT)) _)=_
  rw[e]
  rfl
 refine⟨[.sh (aU (.sh ws)),.sh (aC xs),.sh (fT (gU (ws.zip xs) (0,1))),t3,t4,.un],?_⟩
 have e0:Tr.tup [.int 0,.int 1]=fT (0,1):=rfl
 unfold yg
 rw[e0]
 generalize bZ _=G at e1 ⊢
 generalize fT (gU (ws.zip xs) (0,1))=R,fT (0,1)=Z,aU (.sh ws)=T,aC xs=X at *
 simp -dsimp[e1]
theorem agw{m:Int × Int->Nat}(s0:Sl){xs:List (Int × Int)}(hx:Bd m xs):∃ρ,yh [s0,.sh (aC xs),.un,.un,.un,.un]=.ok (.rt (fT (gW xs (1,1))) false,ρ):=by
 have tt:=hx.tt
 obtain⟨⟨t4,e⟩,_⟩:=Nv m s0 (.sh (aC xs)) .un .un xs (1,1) 1 .un vD (λx mx=>(hx.fq x mx).1) (by omega)
 have e1:bZ (cO (bQ (aj 1)) (gN 4) yd) [s0,.sh (aC xs),.sh (fT (1,1)),.un,.un,.un]=.ok (.nx,[s0,.sh (aC xs),.sh (fT (gW xs (1,1))),.un,t4,.un]):=by
  show cV (cM _ yd (xs.map fT) _)=_
  rw[e]
  rfl
 refine⟨[s0,.sh (aC xs),.sh (fT (gW xs (1,1))),.un,t4,.un],?_⟩
 have e0:Tr.tup [.int 1,.int 1]=fT (1,1):=rfl
 unfold yh
 rw[e0]
 generalize bZ _=G at e1 ⊢
 generalize fT (gW xs (1,1))=R,fT (1,1)=Z,aC xs=X at *
 simp -dsimp[e1]
theorem Xq{m:Int × Int->Nat}{r:Ru}{xs:List (Int × Int)}(hx:Bd m xs)(h1:1<=xs.length)(h2:xs.length<=4)(ho:fM xs.length r):∃v,nU [aU r,aC xs]=.ok (fT v,false)/\Wv r xs v:=by
 have hq:∀x∈xs,Fq 3300 x:=λx mx=>(hx.fq x mx).1.up (hx.fq x mx).2
 obtain⟨w,e1,e2,e3,e4,_,e6⟩:=Gn r
 have pl:placed r=true->∃v,nU [aU r,aC xs]=.ok (fT v,false)/\∃zs,je xs zs/\zs[gY xs.length r-1]?=some v:=λhp=>by
  obtain⟨zs,ef,hf⟩:=agt hq (by omega)
  have pr:=Xc hp ho h1
  have lz:zs.length=xs.length:=hf.1.length_eq
  obtain⟨v,hv⟩:∃v,zs[gY xs.length r-1]?=some v:=⟨_,List.getElem?_eq_getElem (by omega)⟩
  refine⟨v,?_,zs,hf,hv⟩
  have gg:aB (aC zs) (.int ((gY xs.length r-1:Nat):Int))=.ok (fT v,false):=jR (by rw[List.getElem?_map,hv]; rfl)
  have sub:((gY xs.length r:Nat):Int)-1=((gY xs.length r-1:Nat):Int):=by omega
  rw[<-sub]at gg
  have el:bK (aC xs)=.ok (.int (xs.length:Int),false):=by
   show Rs.ok (Tr.int ((xs.map fT).length:Int),false)=_
   rw[List.length_map]
  have e2:cj (.str w) (.str "shares")=.ok (.bl false,false):=by cases r <;> first|exact e2|cases hp
  have e3:cj (.str w) (.str "product")=.ok (.bl false,false):=by cases r <;> first|exact e3|cases hp
  unfold nU
  rw[Nx]
  have fin:sY [.sh (aU r),.sh (aC xs),.un,.un,.un,.un]=.ok (.rt (fT v) false,[.sh (aU r),.sh (aC xs),.un,.un,.un,.sh (.int ((gY xs.length r:Nat):Int))]):=by
   cases r with
   |sh ws=>cases hp
   |product=>cases hp
   |least =>
    have gg:aB (aC zs) (.int ((xs.length:Int)-1))=.ok (fT v,false):=gg
    show _=Rs.ok (Fl.rt (fT v) false,([.sh (aU .least),.sh (aC xs),.un,.un,.un,.sh (.int (xs.length:Int))]:En))
    unfold sY
    generalize aU .least=T,fT v=V,aC zs=Z,aC xs=X,(xs.length:Int)=N at *
    simp -dsimp[dr,drs,aX,g1,el,e1,e4,e6,bO,ef,fD,gI,gg]
   |greatest =>
    have gg:aB (aC zs) (.int 0)=.ok (fT v,false):=gg
    show _=Rs.ok (Fl.rt (fT v) false,([.sh (aU .greatest),.sh (aC xs),.un,.un,.un,.sh (.int 1)]:En))
    unfold sY
    generalize aU .greatest=T,fT v=V,aC zs=Z,aC xs=X,(xs.length:Int)=N at *
    simp -dsimp[dr,drs,aX,g1,el,e1,e4,e6,bO,ef,fD,gI,gg]
   |mid k =>
    have gg:aB (aC zs) (.int ((k:Int)-1))=.ok (fT v,false):=gg
    have e7:aB (aU (.mid k)) (.int 1)=.ok (.int k,false):=rfl
    show _=Rs.ok (Fl.rt (fT v) false,([.sh (aU (.mid k)),.sh (aC xs),.un,.un,.un,.sh (.int (k:Int))]:En))
    unfold sY
    generalize aU (.mid k)=T,fT v=V,aC zs=Z,aC xs=X,(xs.length:Int)=N at *
    simp -dsimp[dr,drs,aX,g1,el,e1,e4,e6,e7,bO,ef,fD,gI,gg]
  generalize yg=G1
  generalize yh=G2
  generalize sY=G3 at fin ⊢
  generalize fT v=V,aU r=T,aC xs=X at *
  unfold aQ
  simp -dsimp[bA,dr,e1,e2,e3,bO,fin]
 cases r with
 |sh ws =>
  obtain⟨ρ,es⟩:=agv ho.2 hx
  refine⟨_,?_,rfl⟩
  unfold nU
  rw[Nx]
  generalize yg=G1 at es ⊢
  generalize yh=G2
  generalize sY=G3
  generalize fT (gU (ws.zip xs) (0,1))=R,aU (.sh ws)=T,aC xs=X at *
  unfold aQ
  simp -dsimp[bA,dr,e1,e2,bO,es]
 |product =>
  obtain⟨ρ,es⟩:=agw (.sh (aU .product)) hx
  refine⟨_,?_,rfl⟩
  unfold nU
  rw[Nx]
  generalize yg=G1
  generalize yh=G2 at es ⊢
  generalize sY=G3
  generalize fT (gW xs (1,1))=R,aU .product=T,aC xs=X at *
  unfold aQ
  simp -dsimp[bA,dr,e1,e2,e3,bO,es]
 |least=>exact pl rfl
 |greatest=>exact pl rfl
 |mid k=>exact pl rfl
theorem agx{m:Int × Int->Nat}{r:Ru}{xs:List (Int × Int)}{v:Int × Int}(hx:Bd m xs)(ho:fM xs.length r)(h:Wv r xs v):Fq 4000 v:=by
 have tt:=hx.tt
 have pl:(∃zs,je xs zs/\zs[gY xs.length r-1]?=some v)->Fq 4000 v:=λ⟨zs,hd,hv⟩=>by
  have:=hx.fq v (hd.1.mem_iff.mp (List.mem_of_getElem? hv))
  exact this.1.up (by omega)
 cases r with
 |sh ws =>
  have h:v=gU (ws.zip xs) (0,1):=h
  rw[h]
  exact(Nu m .un .un [] ws xs (0,1) 1 .un .un vC ho.2 (λx mx=>(hx.fq x mx).1) (by omega)).2.up (by omega)
 |product =>
  have h:v=gW xs (1,1):=h
  rw[h]
  exact(Nv m .un .un .un .un xs (1,1) 1 .un vD (λx mx=>(hx.fq x mx).1) (by omega)).2.up (by omega)
 |least=>exact pl h
 |greatest=>exact pl h
 |mid k=>exact pl h
end K57
end
section
namespace K57
open PySem L2 BH
def val(x:Int × Int):Rat:=(x.1:Rat) / (x.2:Rat)
theorem ipos{b:Int}(h:1<=b):(0:Rat)<(b:Rat):=by
 have:(0:Int)<b:=by omega
 exact_mod_cast this
theorem val_mul{x:Int × Int}(h:1<=x.2):val x*(x.2:Rat)=(x.1:Rat):=by
 have:=ipos h
 unfold val
 exact Rat.div_mul_cancel (by grind)
theorem jA{x y:Int × Int}(hx:1<=x.2)(hy:1<=y.2):le2 x y↔val x<=val y:=by
 have px:=ipos hx
 have py:=ipos hy
 have ex:=val_mul hx
 have ey:=val_mul hy
 unfold le2
 rw[<-Rat.intCast_le_intCast,Rat.intCast_mul,Rat.intCast_mul,<-ex,<-ey]
 have p:(0:Rat)<(x.2:Rat)*(y.2:Rat):=Rat.mul_pos px py
 constructor
 ·intro h
  refine Rat.le_of_mul_le_mul_right (c:=(x.2:Rat)*(y.2:Rat)) ?_ p
  grind
 ·intro h
  have:=Rat.mul_le_mul_of_nonneg_right h (Rat.le_of_lt p)
  grind
theorem yj{x y:Int × Int}(hx:1<=x.2)(hy:1<=y.2):fB x y=true↔val x<val y:=by
 have a:=@sW x y
 rw[jA hy hx]at a
 cases h:fB x y with
 |true =>
  rw[h]at a
  simp only[Bool.true_eq_false,false_iff]at a
  simp only[true_iff]
  grind
 |false =>
  rw[h]at a
  simp only[true_iff]at a
  simp only[Bool.false_eq_true,false_iff]
  grind
theorem Ay{a b:Int}(h:1<=b):val (red a b)=(a:Rat) / (b:Rat):=by
 obtain⟨e,p,_⟩:=Np (a:=a) h
 have q:=val_mul p
 have pb:=ipos h
 have pp:=ipos p
 have e':(a:Rat)*((red a b).2:Rat)=((red a b).1:Rat)*(b:Rat):=by exact_mod_cast e
 have z:val (red a b)*(b:Rat)=(a:Rat):=by
  have:val (red a b)*(b:Rat)*((red a b).2:Rat)=(a:Rat)*((red a b).2:Rat):=by grind
  have c0:((red a b).2:Rat)≠0:=by grind
  rw[<-Rat.mul_div_cancel (a:=val (red a b)*(b:Rat)) c0,this,Rat.mul_div_cancel c0]
 rw[<-z]
 exact(Rat.mul_div_cancel (by grind)).symm
theorem Gs{x y:Int × Int}(hx:1<=x.2)(hy:1<=y.2):val (sumF x y)=val x+val y:=by
 have px:=ipos hx
 have py:=ipos hy
 have ex:=val_mul hx
 have ey:=val_mul hy
 have hp:1<=x.2*y.2:=Int.mul_pos (by omega) (by omega)
 unfold sumF
 rw[Ay hp,Rat.intCast_add,Rat.intCast_mul,Rat.intCast_mul,Rat.intCast_mul,<-ex,<-ey]
 have p:(x.2:Rat)*(y.2:Rat)≠0:=by
  have:=Rat.mul_pos px py
  grind
 rw[show val x*(x.2:Rat)*(y.2:Rat)+val y*(y.2:Rat)*(x.2:Rat)=(val x+val y)*((x.2:Rat)*(y.2:Rat)) by grind]
 exact Rat.mul_div_cancel p
theorem sZ{x y:Int × Int}(hx:1<=x.2)(hy:1<=y.2):val (dH x y)=val x*val y:=by
 have px:=ipos hx
 have py:=ipos hy
 have ex:=val_mul hx
 have ey:=val_mul hy
 have hp:1<=x.2*y.2:=Int.mul_pos (by omega) (by omega)
 unfold dH
 rw[Ay hp,Rat.intCast_mul,Rat.intCast_mul,<-ex,<-ey]
 have p:(x.2:Rat)*(y.2:Rat)≠0:=by
  have:=Rat.mul_pos px py
  grind
 rw[show val x*(x.2:Rat)*(val y*(y.2:Rat))=(val x*val y)*((x.2:Rat)*(y.2:Rat)) by grind]
 exact Rat.mul_div_cancel p
theorem val_inj{M N:Nat}{x y:Int × Int}(hx:Fq M x)(hy:Fq N y)(h:val x=val y):x=y :=
 WT hx.2.2.1 hy.2.2.1 hx.2.2.2.2 hy.2.2.2.2 ((jA hx.2.2.1 hy.2.2.1).mpr (by rw[h]; exact Rat.le_refl)) ((jA hy.2.2.1 hx.2.2.1).mpr (by rw[h]; exact Rat.le_refl))
theorem Ny{x:Int × Int}(h0:0<=x.1)(h:1<=x.2):0<=val x:=by
 have p:=ipos h
 have e:=val_mul h
 have z:(0:Rat)<=(x.1:Rat):=by exact_mod_cast h0
 refine Rat.le_of_mul_le_mul_right (c:=(x.2:Rat)) ?_ p
 grind
theorem Nz{x y:Int × Int}(hx:1<=x.2)(hy:1<=y.2):1<=(sumF x y).2:=(Np (Int.mul_pos (by omega) (by omega))).2.1
theorem qU{x y:Int × Int}(hx:1<=x.2)(hy:1<=y.2):1<=(dH x y).2:=(Np (Int.mul_pos (by omega) (by omega))).2.1
end K57
end
section
namespace K57
open PySem L2 BH
def Po(x:Int × Int):Prop:=0<=x.1/\1<=x.2
theorem Po.nn{x:Int × Int}(h:Po x):0<=val x:=Ny h.1 h.2
theorem Xr:∀(ws xs:List (Int × Int)),(∀w∈ws,Po w)->(∀x∈xs,Po x)->∃B:Rat,∀t:Int × Int,1<=t.2->val (gU (ws.zip xs) t)=val t+B
 | [],xs,_,_=>⟨0,λt _=>by show val t=_; grind⟩
 |u::ws,[],_,_=>⟨0,λt _=>by show val t=_; grind⟩
 |u::ws,x::xs,hw,hx=>by
  obtain⟨B,hB⟩:=Xr ws xs (λw m=>hw w (by simp[m])) (λy m=>hx y (by simp[m]))
  have pu:=(hw u (by simp)).2
  have px:=(hx x (by simp)).2
  refine⟨val u*val x+B,λt ht=>?_⟩
  show val (gU (ws.zip xs) (sumF t (dH u x)))=_
  rw[hB _ (Nz ht (qU pu px)),Gs ht (qU pu px),sZ pu px]
  grind
theorem Xu:∀(ws xs:List (Int × Int)) (p:Nat),(∀w∈ws,Po w)->(∀x∈xs,Po x)->∃A c:Rat,0<=c/\∀w t:Int × Int,1<=w.2->1<=t.2->val (gU (ws.zip (xs.set p w)) t)=val t+A+c*val w
 | [],xs,p,_,_=>⟨0,0,Rat.le_refl,λw t _ _=>by rw[List.zip_nil_left]; show val t=_; grind⟩
 |u::ws,[],p,_,_=>⟨0,0,Rat.le_refl,λw t _ _=>by show val t=_; grind⟩
 |u::ws,x::xs,0,hw,hx=>by
  obtain⟨B,hB⟩:=Xr ws xs (λw m=>hw w (by simp[m])) (λy m=>hx y (by simp[m]))
  have pu:=hw u (by simp)
  refine⟨B,val u,pu.nn,λw t h1 h2=>?_⟩
  show val (gU (ws.zip xs) (sumF t (dH u w)))=_
  rw[hB _ (Nz h2 (qU pu.2 h1)),Gs h2 (qU pu.2 h1),sZ pu.2 h1]
  grind
 |u::ws,x::xs,p+1,hw,hx=>by
  obtain⟨A,c,hc,h⟩:=Xu ws xs p (λw m=>hw w (by simp[m])) (λy m=>hx y (by simp[m]))
  have pu:=(hw u (by simp)).2
  have px:=(hx x (by simp)).2
  refine⟨val u*val x+A,c,hc,λw t h1 h2=>?_⟩
  show val (gU (ws.zip (xs.set p w)) (sumF t (dH u x)))=_
  rw[h w _ h1 (Nz h2 (qU pu px)),Gs h2 (qU pu px),sZ pu px]
  grind
theorem Xv:∀(xs:List (Int × Int)),(∀x∈xs,Po x)->∃B:Rat,0<=B/\∀t:Int × Int,1<=t.2->val (gW xs t)=val t*B
 | [],_=>⟨1,by decide,λt _=>by show val t=_; grind⟩
 |x::xs,hx=>by
  obtain⟨B,h0,hB⟩:=Xv xs λy m=>hx y (by simp[m])
  have px:=hx x (by simp)
  refine⟨val x*B,Rat.mul_nonneg px.nn h0,λt ht=>?_⟩
  show val (gW xs (dH t x))=_
  rw[hB _ (qU ht px.2),sZ ht px.2]
  grind
theorem Xw:∀(xs:List (Int × Int)) (p:Nat),(∀x∈xs,Po x)->p<xs.length->∃c:Rat,0<=c/\∀w t:Int × Int,1<=w.2->1<=t.2->val (gW (xs.set p w) t)=val t*c*val w
 | [],p,_,h=>by simp at h
 |x::xs,0,hx,_=>by
  obtain⟨B,h0,hB⟩:=Xv xs λy m=>hx y (by simp[m])
  refine⟨B,h0,λw t h1 h2=>?_⟩
  show val (gW xs (dH t w))=_
  rw[hB _ (qU h2 h1),sZ h2 h1]
  grind
 |x::xs,p+1,hx,h=>by
  obtain⟨c,h0,hc⟩:=Xw xs p (λy m=>hx y (by simp[m])) (by simpa using h)
  have px:=hx x (by simp)
  refine⟨val x*c,Rat.mul_nonneg px.nn h0,λw t h1 h2=>?_⟩
  show val (gW (xs.set p w) (dH t x))=_
  rw[hc w _ h1 (qU h2 px.2),sZ h2 px.2]
  grind
theorem lJ:val (0,1)=0:=by decide +kernel
theorem iI:val (1,1)=1:=by decide +kernel
theorem NK{r:Ru}{xs:List (Int × Int)}{p:Nat}(hr:placed r=false)(ho:fM xs.length r)(hx:∀x∈xs,Po x)(hp:p<xs.length):∃A c:Rat,0<=c/\∀w v:Int × Int,1<=w.2->Wv r (xs.set p w) v->val v=A+c*val w:=by
 cases r with
 |sh ws =>
  obtain⟨A,c,hc,h⟩:=Xu ws xs p (λw m=>⟨(ho.2 w m).1,(ho.2 w m).2.2.1⟩) hx
  refine⟨A,c,hc,λw v h1 e=>?_⟩
  have e:v=gU (ws.zip (xs.set p w)) (0,1):=e
  rw[e,h w (0,1) h1 (by decide),lJ]
  grind
 |product =>
  obtain⟨c,hc,h⟩:=Xw xs p hx hp
  refine⟨0,c,hc,λw v h1 e=>?_⟩
  have e:v=gW (xs.set p w) (1,1):=e
  rw[e,h w (1,1) h1 (by decide),iI]
  grind
 |mid k=>cases hr
 |least=>cases hr
 |greatest=>cases hr
theorem kth{P:Int × Int->Bool}:∀{zs:List (Int × Int)} {k:Nat} {v:Int × Int},zs.Pairwise (λa b=>le2 b a)->(∀a∈zs,∀b∈zs,P a=true->le2 a b->P b=true)->zs[k]?=some v->(P v=true↔k+1<=zs.countP P)
 | [],k,v,_,_,h=>by simp at h
 |z::zs,k,v,hs,up,h=>by
  rw[List.pairwise_cons]at hs
  cases hz:P z with
  |true =>
   rw[List.countP_cons_of_pos hz]
   cases k with
   |zero =>
    simp at h
    subst h
    simp[hz]
   |succ k =>
    have:=kth (k:=k) hs.2 (λa ma b mb=>up a (by simp[ma]) b (by simp[mb])) (by simpa using h)
    rw[this]
    omega
  |false =>
   have no:∀y∈zs,P y=false:=λy my=>by
    cases q:P y with
    |false=>rfl
    |true =>
     have:=up y (by simp[my]) z (by simp) q (hs.1 y my)
     rw[hz]at this
     cases this
   have c0:zs.countP P=0:=List.countP_eq_zero.mpr λy my=>by rw[no y my]; simp
   rw[List.countP_cons_of_neg (by rw[hz]; simp),c0]
   have pv:P v=false:=by
    cases k with
    |zero =>
     simp at h
     subst h
     exact hz
    |succ k=>exact no v (List.mem_of_getElem? (by simpa using h))
   rw[pv]
   simp
theorem Xx{P:Int × Int->Bool}:∀(xs:List (Int × Int)) (p:Nat) (w:Int × Int),p<xs.length->(xs.set p w).countP P=(xs.eraseIdx p).countP P+if P w=true then 1 else 0
 | [],p,w,h=>by simp at h
 |x::xs,0,w,_=>by
  show(w::xs).countP P=xs.countP P+_
  rw[List.countP_cons]
 |x::xs,p+1,w,h=>by
  show(x::xs.set p w).countP P=(x::xs.eraseIdx p).countP P+_
  rw[List.countP_cons,List.countP_cons,Xx xs p w (by simpa using h)]
  omega
theorem Xy{r:Ru}{xs zs:List (Int × Int)}{p:Nat}{w v:Int × Int}{P:Int × Int->Bool}(hp:p<xs.length)(hd:je (xs.set p w) zs){k:Nat}(hk:zs[k]?=some v)(up:∀a∈xs.set p w,∀b∈xs.set p w,P a=true->le2 a b->P b=true):P v=true↔k+1<=(xs.eraseIdx p).countP P+if P w=true then 1 else 0:=by
 rw[kth hd.2 (λa ma b mb=>up a (hd.1.mem_iff.mp ma) b (hd.1.mem_iff.mp mb)) hk,hd.1.countP_eq,Xx xs p w hp]
def geq(q:Rat)(y:Int × Int):Bool:=decide (q<=val y)
def Az(q:Rat)(y:Int × Int):Bool:=decide (q<val y)
theorem Xz{xs:List (Int × Int)}{p:Nat}{w:Int × Int}(hx:∀x∈xs,Po x)(hw:Po w):∀x∈xs.set p w,Po x:=λx m=>by
 rcases List.mem_or_eq_of_mem_set m with m|rfl
 ·exact hx x m
 ·exact hw
theorem NP{r:Ru}{xs:List (Int × Int)}{p:Nat}(hr:placed r=true)(hx:∀x∈xs,Po x)(hp:p<xs.length):∃k:Nat,∃ce cg:Rat->Nat,(∀q,cg q<=ce q)/\∀w v,Po w->Wv r (xs.set p w) v->v∈xs.set p w/\∀q:Rat,(q<=val v↔k+1<=ce q+if q<=val w then 1 else 0)/\(q<val v↔k+1<=cg q+if q<val w then 1 else 0):=by
 refine⟨gY xs.length r-1,λq=>(xs.eraseIdx p).countP (geq q),λq=>(xs.eraseIdx p).countP (Az q),λq=>List.countP_mono_left λy _ h=>?_,λw v hw h=>?_⟩
 ·unfold geq Az at *
  rw[decide_eq_true_eq]at *
  exact Rat.le_of_lt h
 ·have h:∃zs,je (xs.set p w) zs/\zs[gY (xs.set p w).length r-1]?=some v:=by cases r <;> first|exact h|cases hr
  obtain⟨zs,hd,hv⟩:=h
  rw[List.length_set]at hv
  have po:=Xz (p:=p) hx hw
  refine⟨hd.1.mem_iff.mp (List.mem_of_getElem? hv),λq=>⟨?_,?_⟩⟩
  ·have:=Xy (r:=r) (P:=geq q) hp hd hv λa ma b mb h1 h2=>by
    unfold geq at *
    rw[decide_eq_true_eq]at *
    exact Rat.le_trans h1 ((jA (po a ma).2 (po b mb).2).mp h2)
   unfold geq at this
   simp only[decide_eq_true_eq]at this
   exact this
  ·have:=Xy (r:=r) (P:=Az q) hp hd hv λa ma b mb h1 h2=>by
    unfold Az at *
    rw[decide_eq_true_eq]at *
    have:=(jA (po a ma).2 (po b mb).2).mp h2
    grind
   unfold Az at this
   simp only[decide_eq_true_eq]at this
   exact this
end K57
end
section
namespace K57
open PySem L2 BH
def UF(r:Ru)(v0 v1 g u:Int × Int):Prop:=if placed r=true then u=g else val u*(val v1-val v0)=val g-val v0
theorem qW:Po (0,1):=by unfold Po; decide
theorem vH:Po (1,1):=by unfold Po; decide
theorem agy{r:Ru}{xs:List (Int × Int)}{p:Nat}{v0 v1 g u:Int × Int}(ho:fM xs.length r)(hx:∀x∈xs,Po x/\val x<=1)(hp:p<xs.length)(h0:Wv r (xs.set p (0,1)) v0)(h1:Wv r (xs.set p (1,1)) v1)(pg:Po g)(pu:Po u)(hu:UF r v0 v1 g u)(l:val v0<val g)(m:val g<=val v1) :
  (∀v,Wv r (xs.set p u) v->val v=val g)/\0<=val u/\val u<=1/\∀w v,Po w->val w<val u->Wv r (xs.set p w) v->val v<val g:=by
 have hxp:∀x∈xs,Po x:=λx m=>(hx x m).1
 unfold UF at hu
 cases hr:placed r with
 |false =>
  rw[hr,if_neg (by simp)]at hu
  obtain⟨A,c,hc,h⟩:=NK hr ho hxp hp
  have e0:=h _ _ (by decide) h0
  have e1:=h _ _ (by decide) h1
  rw[lJ]at e0
  rw[iI]at e1
  have ec:val v1-val v0=c:=by grind
  rw[ec]at hu
  have pc:0<c:=by grind
  have key:∀w:Int × Int,val w<val u->A+c*val w<val g:=λw hw=>by
   have:=Rat.mul_lt_mul_of_pos_left hw pc
   grind
  refine⟨λv hv=>?_,pu.nn,?_,λw v pw lw hv=>?_⟩
  ·rw[h _ _ pu.2 hv]
   grind
  ·refine Rat.le_of_mul_le_mul_right (c:=c) ?_ pc
   grind
  ·rw[h _ _ pw.2 hv]
   exact key w lw
 |true =>
  rw[hr,if_pos rfl]at hu
  subst hu
  obtain⟨k,ce,cg,hcg,h⟩:=NP hr hxp hp
  obtain⟨_,q0⟩:=h _ _ qW h0
  obtain⟨m1,q1⟩:=h _ _ vH h1
  have a0:=(q0 (val u)).1
  have a1:=(q1 (val u)).1
  rw[lJ]at a0
  rw[iI]at a1
  have pos:¬val u<=0:=λz=>by
   obtain⟨m0,_⟩:=h _ _ qW h0
   have:=(Xz (p:=p) hxp qW v0 m0).nn
   grind
  rw[if_neg pos]at a0
  have b0:¬k+1<=ce (val u)+0:=λz=>by
   have:=a0.mpr z
   grind
  have b1:=a1.mp m
  have le1:val u<=1:=by
   refine Rat.le_trans m ?_
   rcases List.mem_or_eq_of_mem_set m1 with z|z
   ·exact(hx _ z).2
   ·rw[z,iI]; exact Rat.le_refl
  rw[if_pos le1]at b1
  have cu:ce (val u)=k:=by omega
  refine⟨λv hv=>?_,pu.nn,le1,λw v pw lw hv=>?_⟩
  ·obtain⟨_,q⟩:=h _ _ pu hv
   have x1:=(q (val u)).1
   have x2:=(q (val u)).2
   rw[if_pos Rat.le_refl]at x1
   rw[if_neg (by grind)]at x2
   have:=hcg (val u)
   have y1:=x1.mpr (by omega)
   have y2:¬val u<val v:=λz=>by
    have:=x2.mp z
    omega
   grind
  ·obtain⟨_,q⟩:=h _ _ pw hv
   have x1:=(q (val u)).1
   rw[if_neg (by grind)]at x1
   have y1:¬val u<=val v:=λz=>by
    have:=x1.mp z
    omega
   grind
theorem agz{r:Ru}{xs:List (Int × Int)}{p:Nat}{v0 v1 g u:Int × Int}(ho:fM xs.length r)(hx:∀x∈xs,Po x/\val x<=1)(hp:p<xs.length)(h0:Wv r (xs.set p (0,1)) v0)(h1:Wv r (xs.set p (1,1)) v1)(pg:Po g)(pu:Po u)(hu:UF r v0 v1 g u)(l:val v0<=val g)(m:val g<val v1) :
  (∀v,Wv r (xs.set p u) v->val v=val g)/\0<=val u/\val u<=1/\∀w v,Po w->val u<val w->Wv r (xs.set p w) v->val g<val v:=by
 have hxp:∀x∈xs,Po x:=λx m=>(hx x m).1
 unfold UF at hu
 cases hr:placed r with
 |false =>
  rw[hr,if_neg (by simp)]at hu
  obtain⟨A,c,hc,h⟩:=NK hr ho hxp hp
  have e0:=h _ _ (by decide) h0
  have e1:=h _ _ (by decide) h1
  rw[lJ]at e0
  rw[iI]at e1
  have ec:val v1-val v0=c:=by grind
  rw[ec]at hu
  have pc:0<c:=by grind
  refine⟨λv hv=>?_,pu.nn,?_,λw v pw lw hv=>?_⟩
  ·rw[h _ _ pu.2 hv]
   grind
  ·refine Rat.le_of_mul_le_mul_right (c:=c) ?_ pc
   grind
  ·rw[h _ _ pw.2 hv]
   have:=Rat.mul_lt_mul_of_pos_left lw pc
   grind
 |true =>
  rw[hr,if_pos rfl]at hu
  subst hu
  obtain⟨k,ce,cg,hcg,h⟩:=NP hr hxp hp
  obtain⟨_,q0⟩:=h _ _ qW h0
  obtain⟨m1,q1⟩:=h _ _ vH h1
  have a0:=(q0 (val u)).2
  have a1:=(q1 (val u)).2
  rw[lJ]at a0
  rw[iI]at a1
  have nn:=pu.nn
  rw[if_neg (by grind)]at a0
  have b0:¬k+1<=cg (val u)+0:=λz=>by
   have:=a0.mpr z
   grind
  have b1:=a1.mp m
  have le1:val u<1:=by
   have:val v1<=1:=by
    rcases List.mem_or_eq_of_mem_set m1 with z|z
    ·exact(hx _ z).2
    ·rw[z,iI]; exact Rat.le_refl
   grind
  rw[if_pos le1]at b1
  have cu:cg (val u)=k:=by omega
  refine⟨λv hv=>?_,nn,Rat.le_of_lt le1,λw v pw lw hv=>?_⟩
  ·obtain⟨_,q⟩:=h _ _ pu hv
   have x1:=(q (val u)).1
   have x2:=(q (val u)).2
   rw[if_pos Rat.le_refl]at x1
   rw[if_neg (by grind)]at x2
   have:=hcg (val u)
   have y1:=x1.mpr (by omega)
   have y2:¬val u<val v:=λz=>by
    have:=x2.mp z
    omega
   grind
  ·obtain⟨_,q⟩:=h _ _ pw hv
   have x1:=(q (val u)).2
   rw[if_pos lw]at x1
   exact x1.mpr (by omega)
theorem yp{r:Ru}{xs:List (Int × Int)}{p:Nat}{w w' v v':Int × Int}(ho:fM xs.length r)(hx:∀x∈xs,Po x)(hp:p<xs.length)(pw:Po w)(pw':Po w')(h:Wv r (xs.set p w) v)(h':Wv r (xs.set p w') v')(l:val w<=val w'):val v<=val v':=by
 cases hr:placed r with
 |false =>
  obtain⟨A,c,hc,q⟩:=NK hr ho hx hp
  rw[q _ _ pw.2 h,q _ _ pw'.2 h']
  have:=Rat.mul_le_mul_of_nonneg_left l hc
  grind
 |true =>
  obtain⟨k,ce,cg,hcg,q⟩:=NP hr hx hp
  have a:=((q _ _ pw h).2 (val v)).1.mp Rat.le_refl
  refine((q _ _ pw' h').2 (val v)).1.mpr ?_
  split at a
  ·rename_i z
   rw[if_pos (Rat.le_trans z l)]
   exact a
  ·omega
end K57
end
section
namespace L2
open PySem
@[simp] theorem al7(d:Str)(fa:EF)(ρ : En):aea d fa ρ = bd (fa ρ) (λp=>bd (dr p.2 p.1) (λa=>match Vn a d with
 |some b=>.ok (eB b,p.2)
 |none=>.bad) .mk) .mk:=rfl
@[simp] theorem al8(fa:EF)(ρ : En):aeb fa ρ = bd (fa ρ) (λp=>bd (dr p.2 p.1) (λa=>match Vo a with
 |some b=>.ok (eB b,p.2)
 |none=>.bad) .mk) .mk:=rfl
@[simp] theorem al9(c:Str)(f:EF)(ρ : En):rZ c f ρ = bd (f ρ) (λ_=>.ex c) .mk:=rfl
end L2
namespace BH
open PySem L2
theorem NQ(t:Nat):∀ys:List Nat,rN (.int t) (ys.map λi:Nat=>Tr.int i)=ys.any (· == t)
 | []=>rfl
 |y::ys=>by
  have:=NQ t ys
  unfold rN at *
  rw[List.map_cons,List.any_cons,this,List.any_cons,nY]
  congr 1
  rw[Bool.eq_iff_iff]
  simp
  omega
theorem agA(t:Nat)(ys:List Nat):fQ not (.int t) (nT ys)=.ok (.bl (!(ys.any (· == t))),false):=by
 show(if deps (ys.map λi:Nat=>Tr.int i)<=40/\dep (.int t)<=40 then Rs.ok (Tr.bl (!(rN (.int t) (ys.map λi:Nat=>Tr.int i))),false)else .bad)=_
 rw[Nh,jJ,if_pos (by omega),NQ]
end BH
end
section
namespace BH
open PySem L2
end BH
end
section
namespace K57
open PySem L2 BH
def iT(i:Nat):Tr:=.int (i:Nat)
def vT(V:Nat->Int × Int)(c:Nat):Tr:=.lst ((List.range c).map λi=>fT (V i))
theorem Ba{V:Nat->Int × Int}{c i:Nat}(h:i<c):aB (vT V c) (iT i)=.ok (fT (V i),false):=jR (by simp[h])
def pJ(V:Nat->Int × Int)(i:Nat):Tr:=.tup [.int (i:Nat),fT (V i)]
def col(rows:List (List (Int × Int)))(i:Nat):List (Int × Int):=rows.map λl=>at2 l i
theorem Gu(l:List (Int × Int)):bK (aC l)=.ok (.int (l.length:Int),false):=by
 show Rs.ok (Tr.int ((l.map fT).length:Int),false)=_
 rw[List.length_map]
theorem NT(rows:List (List (Int × Int))):bK (aN rows)=.ok (.int (rows.length:Int),false):=by
 show Rs.ok (Tr.int ((rows.map aC).length:Int),false)=_
 rw[List.length_map]
def Len(c:Nat)(rows:List (List (Int × Int))):Prop:=∀l∈rows,l.length=c
def yq:EF:=(aq aB (aj 0) (aj 1))
theorem XC{l:List (Int × Int)}{i:Nat}(h:i<l.length):yq [.sh (aC l),.sh (.int i)]=.ok (.v (fT (at2 l i)) false,[.sh (aC l),.sh (.int i)]):=by
 have e:aB (aC l) (.int i)=.ok (fT (at2 l i),false):=Nj h
 generalize fT (at2 l i)=V,aC l=T at *
 unfold yq
 simp -dsimp[dr,e]
theorem XD(rows:List (List (Int × Int)))(i:Nat):Tr.lst (rows.map λl=>fT (at2 l i))=aC (col rows i):=by
 unfold aC col
 rw[List.map_map]
 rfl
theorem XF{c:Nat}{rows:List (List (Int × Int))}(h:Len c rows)(hl:rows.length<=100){i:Nat}(hi:i<c):uY [aN rows,.int i]=.ok (aC (col rows i),true):=by
 have e:=sV (r:=aC) (h:=λl=>fT (at2 l i)) (xs:=rows) (ρ:=[.sh (aN rows),.sh (.int i)]) (rest:=[some 1]) (i:=bQ (aj 0)) (fe:=yq) (by omega) rfl rfl (λs'=>rfl) (λs'=>rfl) (λl m=>⟨false,XC (by rw[h l m]; exact hi)⟩)
 rw[XD]at e
 show aQ 2 (aY (cD [none,some 1] (bQ (aj 0)) (gN 0) cH yq)) [aN rows,.int i]=_
 generalize cD _ _ _ _ _=G at e ⊢
 generalize aC (col rows i)=R,aN rows=T at *
 unfold aQ
 simp -dsimp[bA,e]
def NZ:EF:=(aK kO (ak (aj 1) (ak (aK uY (ak (aj 2) (ak (aj 0) au))) au)))
theorem N5{c:Nat}{rows:List (List (Int × Int))}{R:Tr}{V:Nat->Int × Int}(h:Len c rows)(h1:1<=rows.length)(hl:rows.length<=100)(hc:c<=12)(hV:∀i,i<c->kO [R,aC (col rows i)]=.ok (fT (V i),false)):lG [aN rows,R]=.ok (.lst ((List.range c).map λi=>fT (V i)),true):=by
 obtain⟨l,hl0⟩:∃l,rows[0]?=some l:=⟨_,List.getElem?_eq_getElem (by omega)⟩
 have e3:aB (aN rows) (.int 0)=.ok (aC l,false):=jR (i:=0) (by rw[List.getElem?_map,hl0]; rfl)
 have e4:=Gu l
 rw[h l (List.mem_of_getElem? hl0)]at e4
 have q1:(-1000000:Int)<=c:=by omega
 have q2:(c:Int)<=1000000:=by omega
 have ef:fL (ak (bF (g1 bK) (ak (aq aB (aj 0) (eC (.int 0))) au)) au) [.sh (aN rows),.sh R]=.ok ((List.range c).map λi:Nat=>Tr.int i,[.sh (aN rows),.sh R]):=by
  rw[<-qR]
  generalize aN rows=T,aC l=T2 at *
  simp -dsimp[drs,dr,okR,q1,q2,e3,e4,g1]
 have e:=sV (r:=λi:Nat=>Tr.int i) (h:=λi=>fT (V i)) (xs:=List.range c) (τ:=[.sh R,.sh (aN rows)]) (rest:=[some 1,some 0]) (fe:=NZ) (by simp; omega) ef rfl (λs'=>rfl) (λs'=>rfl) (λi hi=>⟨false,by
  have hi':i<c:=by simpa using hi
  have a1:=XF h hl hi'
  have a2:=hV i hi'
  unfold NZ
  generalize fT (V i)=Vi,aC (col rows i)=C,aN rows=T at *
  simp -dsimp[drs,dr,aX,a1,a2]⟩)
 show aQ 2 (aY (cD [none,some 1,some 0] (fL (ak (bF (g1 bK) (ak (aq aB (aj 0) (eC (.int 0))) au)) au)) (gN 0) cH NZ)) [aN rows,R]=_
 generalize cD _ _ _ _ _=G at e ⊢
 generalize Tr.lst ((List.range c).map λi=>fT (V i))=L,aN rows=T at *
 unfold aQ
 simp -dsimp[bA,e]
theorem agB{c:Nat}{rows:List (List (Int × Int))}{r:Ru}{V:Nat->Int × Int}(hb:mJ (aN rows)=true)(h:Len c rows)(h1:1<=rows.length)(hl:rows.length<=4)(hc:c<=12)(ho:fM rows.length r)(hV:∀i,i<c->kO [aU r,aC (col rows i)]=.ok (fT (V i),false)):Kq [aN rows,aU r]=.ok (.lst ((List.range c).map λi=>fT (V i)),true):=by
 have e1:=N5 h h1 (by omega) hc hV
 have e2:=Wy hb
 have e3:=Xb ho (by omega)
 have e4:=NT rows
 have e5:sO [aN rows,aU r]=.ok (.non,false):=by
  generalize aN rows=T,aU r=R,(rows.length:Int)=N at *
  unfold sO Kp aQ
  simp -dsimp[bA,drs,dr,aX,e2,e4,g1,e3,cX]
 generalize Tr.lst ((List.range c).map λi=>fT (V i))=L,aN rows=T,aU r=R at *
 unfold Kq VF aQ
 simp -dsimp[bA,drs,dr,aX,e5,e1]
def Bf(V:Nat->Int × Int)(i j:Nat):Prop:=(V j).1*(V i).2<(V i).1*(V j).2\/((V j).1*(V i).2=(V i).1*(V j).2/\i<j)
theorem falls{V:Nat->Int × Int}{c:Nat}(hV:∀i,i<c->Fq 400 (V i))(hc:c<=12){zs:List Nat}(hp:zs.Perm (List.range c))(hs:zs.Pairwise (Bf V)):jH [.lst ((List.range c).map λi=>fT (V i))]=.ok (.lst (zs.map λi:Nat=>Tr.int i),true):=by
 have nM:=gF 400
 have hr:(List.range c).map (λi=>fT (V i))=((List.range c).map V).map fT:=by rw[List.map_map]; rfl
 have hlen:((List.range c).map V).length=c:=by simp
 obtain⟨ys,e,f1,f2⟩:=Ge (N:=400) ((List.range c).map V) (λy hy=>by
  obtain⟨i,hi,rfl⟩:=List.mem_map.mp hy
  obtain⟨a1,a2,a3,a4,_⟩:=hV i (by simpa using hi)
  exact⟨a3,a4,by omega⟩) (by rw[hlen]; omega) (by omega) (by rw[hlen]; omega)
 rw[hlen]at f1
 have g:∀i,i<c->((List.range c).map V).getD i (0,1)=V i:=λi hi=>by simp[hi]
 have f3:ys.Pairwise (Bf V):=f2.imp_of_mem λ{a b} ma mb h=>by
  have ha:a<c:=by simpa using f1.mem_iff.mp ma
  have hb:b<c:=by simpa using f1.mem_iff.mp mb
  unfold xQ at h
  rw[g a ha,g b hb]at h
  exact h
 have:ys=zs:=List.Perm.eq_of_pairwise (le:=Bf V) (λa b _ _ h1 h2=>by
  unfold Bf at h1 h2
  omega) f3 hs (f1.trans hp.symm)
 rw[hr,e,this]
def N6:EF:=(eY (ak (aj 0) (ak (aq aB (aj 1) (aj 0)) au)))
theorem XH{c:Nat}{rows:List (List (Int × Int))}{r:Ru}{k:Nat}(hb:Bk c rows)(ho:fM rows.length r)(hk:k<=c):qQ [aN rows,aU r,.int (k:Nat)]=.ok (.non,false):=by
 obtain⟨h1,h2,h3,h4,h5⟩:=id hb
 obtain⟨l,hl0⟩:∃l,rows[0]?=some l:=⟨_,List.getElem?_eq_getElem (by omega)⟩
 have e3:aB (aN rows) (.int 0)=.ok (aC l,false):=jR (i:=0) (by rw[List.getElem?_map,hl0]; rfl)
 have e4:=Gu l
 rw[(h5 l (List.mem_of_getElem? hl0)).1]at e4
 have e2:=Wy hb.mJ
 have e5:=Xb ho (by omega)
 have e6:=NT rows
 have e7:sO [aN rows,aU r]=.ok (.non,false):=by
  generalize aN rows=T,aU r=R,(rows.length:Int)=N at *
  unfold sO Kp aQ
  simp -dsimp[bA,drs,dr,aX,e2,e6,g1,e5,cX]
 have e8:zW [.int (k:Nat),.int (c:Nat)]=.ok (.bl true,false):=by
  have q:(k:Int)<=c:=by omega
  unfold zW Kr aQ
  simp -dsimp[bO,dr,drs,gB,d7,aX,bA,Aj,isW,d7,q]
 have e9:zX [aN rows,.int (k:Nat)]=.ok (.non,false):=by
  generalize aN rows=T,aC l=T2,(k:Int)=N,(c:Int)=N2 at *
  unfold zX VG aQ
  simp -dsimp[bA,drs,dr,aX,e3,e4,g1,e8,cX]
 generalize aN rows=T,aU r=R,(k:Int)=N at *
 unfold qQ Ks aQ
 simp -dsimp[bA,drs,dr,aX,e7,e9]
theorem agC{c:Nat}{rows:List (List (Int × Int))}{r:Ru}{V:Nat->Int × Int}{zs:List Nat}{k:Nat}(hb:Bk c rows)(ho:fM rows.length r)(hV:∀i,i<c->Fq 400 (V i))(hw:lG [aN rows,aU r]=.ok (.lst ((List.range c).map λi=>fT (V i)),true))(hp:zs.Perm (List.range c))(hs:zs.Pairwise (Bf V))(hk:k<=c):uZ [aN rows,aU r,.int (k:Nat)]=.ok (.lst ((zs.take k).map (pJ V)),true):=by
 obtain⟨h1,h2,h3,h4,h5⟩:=id hb
 have ef:=falls hV h4 hp hs
 have e10:=XH hb ho hk
 have gi:∀i,i<c->aB (.lst ((List.range c).map λi=>fT (V i))) (.int (i:Nat))=.ok (fT (V i),false):=λi hi=>jR (by simp[hi])
 have hz:∀z∈zs,z<c:=λz m=>by simpa using hp.mem_iff.mp m
 have zl:zs.length=c:=by simpa using hp.length_eq
 have es:rT none (some (k:Int)) (.lst (zs.map λi:Nat=>Tr.int i))=.ok (.lst ((zs.take k).map λi:Nat=>Tr.int i),true):=by
  show Rs.ok (Tr.lst (L2.cut (zs.map λi:Nat=>Tr.int i) none (some (k:Int))),true)=_
  rw[WD,List.map_take]
 generalize Tr.lst ((List.range c).map λi=>fT (V i))=W at *
 have ei:bQ (ur (aK jH (ak (aj 3) au)) uo (uq (aj 2))) [.sh (aN rows),.sh (aU r),.sh (.int (k:Nat)),.sh W]=.ok ((zs.take k).map λi:Nat=>Tr.int i,[.sh (aN rows),.sh (aU r),.sh (.int (k:Nat)),.sh W]):=by
  generalize aN rows=T,aU r=R,(k:Int)=N,(zs.take k).map (λi:Nat=>Tr.int i)=Y,zs.map (λi:Nat=>Tr.int i)=Y2 at *
  simp -dsimp[drs,dr,aX,ef,lW,es,oW]
 have em:=sV (r:=λi:Nat=>Tr.int i) (h:=pJ V) (xs:=zs.take k) (τ:=[.sh W]) (rest:=[some 3]) (fe:=N6) (by rw[List.length_take]; omega) ei rfl (λs'=>rfl) (λs'=>rfl) (λi hi=>⟨false,by
  have a1:=gi i (hz i (List.mem_of_mem_take hi))
  unfold N6 pJ
  generalize fT (V i)=X at *
  simp -dsimp[drs,dr,aX,a1,cls]⟩)
 show aQ 4 (aG (jw (aK qQ (ak (aj 0) (ak (aj 1) (ak (aj 2) au))))) (aG (aW (aK lG (ak (aj 0) (ak (aj 1) au))) (gN 3)) (aY (cD [none,some 3] (bQ (ur (aK jH (ak (aj 3) au)) uo (uq (aj 2)))) (gN 0) cH N6)))) [aN rows,aU r,.int (k:Nat)]=_
 generalize cD _ _ _ _ _=G at em ⊢
 generalize (zs.take k).map (pJ V)=L,aN rows=T,aU r=R,(k:Int)=N at *
 unfold aQ
 simp -dsimp[bA,drs,dr,aX,e10,hw,em]
theorem order{V:Nat->Int × Int}{c:Nat}(hV:∀i,i<c->Fq 400 (V i))(hc:c<=12):∃zs:List Nat,zs.Perm (List.range c)/\zs.Pairwise (Bf V):=by
 have nM:=gF 400
 have hlen:((List.range c).map V).length=c:=by simp
 obtain⟨ys,e,f1,f2⟩:=Ge (N:=400) ((List.range c).map V) (λy hy=>by
  obtain⟨i,hi,rfl⟩:=List.mem_map.mp hy
  obtain⟨a1,a2,a3,a4,_⟩:=hV i (by simpa using hi)
  exact⟨a3,a4,by omega⟩) (by rw[hlen]; omega) (by omega) (by rw[hlen]; omega)
 rw[hlen]at f1
 have g:∀i,i<c->((List.range c).map V).getD i (0,1)=V i:=λi hi=>by simp[hi]
 refine⟨ys,f1,f2.imp_of_mem λ{a b} ma mb h=>?_⟩
 have ha:a<c:=by simpa using f1.mem_iff.mp ma
 have hb:b<c:=by simpa using f1.mem_iff.mp mb
 unfold xQ at h
 rw[g a ha,g b hb]at h
 exact h
structure Fd(c:Nat)(rows:List (List (Int × Int)))(r:Ru)(V:Nat->Int × Int)(zs:List Nat):Prop where
 fq:∀i,i<c->Fq 400 (V i)
 wv:∀i,i<c->Wv r (col rows i) (V i)
 tw:Kq [aN rows,aU r]=.ok (vT V c,true)
 pm:zs.Perm (List.range c)
 sr:zs.Pairwise (Bf V)
 few:∀k:Nat,k<=c->uZ [aN rows,aU r,.int (k:Nat)]=.ok (.lst ((zs.take k).map (pJ V)),true)
theorem n6{c:Nat}{rows:List (List (Int × Int))}(h5:Gg c rows){i:Nat}(hi:i<c):∀x∈col rows i,Wo x:=λx m=>by
 obtain⟨l,hl,rfl⟩:=List.mem_map.mp m
 exact(h5 l hl).2 _ (by unfold at2; simp[(h5 l hl).1,hi])
theorem pK(rows:List (List (Int × Int)))(i:Nat):(col rows i).length=rows.length:=by unfold col; simp
theorem found{c:Nat}{rows:List (List (Int × Int))}{r:Ru}(hb:Bk c rows)(ho:fM rows.length r):∃V zs,Fd c rows r V zs:=by
 obtain⟨h1,h2,h3,h4,h5⟩:=id hb
 have hlen:Len c rows:=λl m=>(h5 l m).1
 have ex:∀i,∃v,i<c->(kO [aU r,aC (col rows i)]=.ok (fT v,false)/\Wv r (col rows i) v)/\Fq 400 v:=λi=>by
  by_cases hi:i<c
  ·have ho':fM (col rows i).length r:=by rw[pK]; exact ho
   obtain⟨v,e,wv⟩:=Nr (n6 h5 hi) (by rw[pK]; exact h1) (by rw[pK]; omega) ho'
   exact⟨v,λ_=>⟨⟨e,wv⟩,wv.fq (n6 h5 hi) (by rw[pK]; omega) ho'⟩⟩
  ·exact⟨(0,1),λz=>absurd z hi⟩
 obtain⟨V,hV⟩:=Classical.skolem.mp ex
 have bw:=N5 hlen h1 (by omega) h4 λi hi=>(hV i hi).1.1
 have tw:=agB hb.mJ hlen h1 h2 h4 ho λi hi=>(hV i hi).1.1
 obtain⟨zs,p1,p2⟩:=order (λi hi=>(hV i hi).2) h4
 exact⟨V,zs,λi hi=>(hV i hi).2,λi hi=>(hV i hi).1.2,tw,p1,p2,λk hk=>agC hb ho (λi hi=>(hV i hi).2) bw p1 p2 hk⟩
end K57
end
section
namespace K57
open PySem L2 BH
def N7:EF:=(aK nU (ak (aj 1) (ak (cD [none,some 0] (bQ (aj 2)) (gN 0) cH yq) au)))
theorem XJ{c:Nat}{rows:List (List (Int × Int))}{R:Tr}{V:Nat->Int × Int}(h:Len c rows)(h1:1<=rows.length)(hl:rows.length<=100)(hc:c<=12)(hV:∀i,i<c->nU [R,aC (col rows i)]=.ok (fT (V i),false)):pG [aN rows,R]=.ok (vT V c,true):=by
 obtain⟨l,hl0⟩:∃l,rows[0]?=some l:=⟨_,List.getElem?_eq_getElem (by omega)⟩
 have e3:aB (aN rows) (.int 0)=.ok (aC l,false):=jR (i:=0) (by rw[List.getElem?_map,hl0]; rfl)
 have e4:=Gu l
 rw[h l (List.mem_of_getElem? hl0)]at e4
 have q1:(-1000000:Int)<=c:=by omega
 have q2:(c:Int)<=1000000:=by omega
 have ef:fL (ak (bF (g1 bK) (ak (aq aB (aj 0) (eC (.int 0))) au)) au) [.sh (aN rows),.sh R]=.ok ((List.range c).map λi:Nat=>Tr.int i,[.sh (aN rows),.sh R]):=by
  rw[<-qR]
  generalize aN rows=T,aC l=T2 at *
  simp -dsimp[drs,dr,okR,q1,q2,e3,e4,g1]
 have e:=sV (r:=λi:Nat=>Tr.int i) (h:=λi=>fT (V i)) (xs:=List.range c) (τ:=[.sh R,.sh (aN rows)]) (rest:=[some 1,some 0]) (fe:=N7) (by simp; omega) ef rfl (λs'=>rfl) (λs'=>rfl) (λi hi=>⟨false,by
  have hi':i<c:=by simpa using hi
  have a1:=sV (r:=aC) (h:=λl=>fT (at2 l i)) (xs:=rows) (ρ:=[.sh (.int (i:Nat)),.sh R,.sh (aN rows)]) (rest:=[some 0]) (i:=bQ (aj 2)) (fe:=yq) (by omega) rfl rfl (λs'=>rfl) (λs'=>rfl) (λl m=>⟨false,XC (by rw[h l m]; exact hi')⟩)
  rw[XD]at a1
  have a2:=hV i hi'
  unfold N7
  generalize cD _ _ _ _ _=G at a1 ⊢
  generalize fT (V i)=Vi,aC (col rows i)=C,aN rows=T at *
  simp -dsimp[drs,dr,aX,a1,a2]⟩)
 show aQ 2 (aY (cD [none,some 1,some 0] (fL (ak (bF (g1 bK) (ak (aq aB (aj 0) (eC (.int 0))) au)) au)) (gN 0) cH N7)) [aN rows,R]=_
 unfold vT
 generalize cD _ _ _ _ _=G at e ⊢
 generalize Tr.lst ((List.range c).map λi=>fT (V i))=L,aN rows=T at *
 unfold aQ
 simp -dsimp[bA,e]
def N8:BF:=(oO (bV (aq (fQ not) (aj 5) (aj 2))) (cL (aK fY (ak (aq aB (aj 3) (aj 4)) (ak (aq aB (aj 3) (aj 5)) au)))))
def tu:SF:=(bY N8 (aY (eC (.bl false))) bW)
def Oa:IF:=(fL (ak (bF (g1 bK) (ak (aj 3) au)) au))
def vI:SF:=(cO Oa (gN 5) tu)
theorem agD:Mp=(aG (aW (aK pG (ak (aj 0) (ak (aj 1) au))) (gN 3)) (aG (bZ (cO (bQ (aj 2)) (gN 4) vI)) (aY (eC (.bl true))))):=rfl
def bad(T:List Nat)(V:Nat->Int × Int)(t o:Nat):Bool := !(T.any (· == o))&&fB (V t) (V o)
theorem agE{c:Nat}{V:Nat->Int × Int}(hV:∀i,i<c->Fq 4000 (V i)){T:List Nat}{t o:Nat}(ht:t<c)(ho:o<c)(s0 s1:Sl):N8 [s0,s1,.sh (nT T),.sh (vT V c),.sh (iT t),.sh (iT o)]=.ok (bad T V t o,[s0,s1,.sh (nT T),.sh (vT V c),.sh (iT t),.sh (iT o)]):=by
 have e1:fQ not (iT o) (nT T)=.ok (.bl (!(T.any (· == o))),false):=agA o T
 have e2:=Ba (V:=V) ht
 have e3:=Ba (V:=V) ho
 have e4:=Gq (hV t ht) (hV o ho) (by omega)
 unfold bad
 generalize (T.any (· == o))=B,fB (V t) (V o)=D,fT (V t)=X,fT (V o)=Y,vT V c=L,nT T=N,iT t=I,iT o=J at *
 unfold N8
 cases B <;> simp -dsimp[dr,drs,aX,e1,e2,e3,e4,bO,cX]
theorem XM{c:Nat}{V:Nat->Int × Int}(hV:∀i,i<c->Fq 4000 (V i))(T:List Nat){t:Nat}(ht:t<c)(s0 s1:Sl):∀(os:List Nat) (s5:Sl),(∀o∈os,o<c) ->
  (os.any (bad T V t)=true->∃ρ,cM (gN 5) tu (os.map iT) [s0,s1,.sh (nT T),.sh (vT V c),.sh (iT t),s5]=.ok (.rt (.bl false) false,ρ))/\(os.any (bad T V t)=false->∃t5,cM (gN 5) tu (os.map iT) [s0,s1,.sh (nT T),.sh (vT V c),.sh (iT t),s5]=.ok (.nx,[s0,s1,.sh (nT T),.sh (vT V c),.sh (iT t),t5]))
 | [],s5,_=>⟨λz=>by simp at z,λ_=>⟨s5,rfl⟩⟩
 |o::os,s5,h=>by
  have e:=agE hV (T:=T) ht (h o (by simp)) s0 s1
  obtain⟨i1,i2⟩:=XM hV T ht s0 s1 os (.sh (iT o)) λx m=>h x (by simp[m])
  have st:cM (gN 5) tu ((o::os).map iT) [s0,s1,.sh (nT T),.sh (vT V c),.sh (iT t),s5]=(if bad T V t o=true then .ok (.rt (.bl false) false,[s0,s1,.sh (nT T),.sh (vT V c),.sh (iT t),.sh (iT o)])else cM (gN 5) tu (os.map iT) [s0,s1,.sh (nT T),.sh (vT V c),.sh (iT t),.sh (iT o)]):=by
   rw[List.map_cons]
   conv=>lhs; unfold cM
   rw[show gN 5 (iT o) [s0,s1,.sh (nT T),.sh (vT V c),.sh (iT t),s5]=.ok [s0,s1,.sh (nT T),.sh (vT V c),.sh (iT t),.sh (iT o)]from rfl]
   simp only[Rs.dF]
   rw[show tu [s0,s1,.sh (nT T),.sh (vT V c),.sh (iT t),.sh (iT o)]=(if bad T V t o=true then .ok (.rt (.bl false) false,[s0,s1,.sh (nT T),.sh (vT V c),.sh (iT t),.sh (iT o)])else .ok (.nx,[s0,s1,.sh (nT T),.sh (vT V c),.sh (iT t),.sh (iT o)])) by
    unfold tu
    rw[afL,e]
    cases bad T V t o <;> rfl]
   cases bad T V t o <;> rfl
  rw[st,List.any_cons]
  cases bad T V t o with
  |true=>exact⟨λ_=>⟨_,rfl⟩,λz=>by simp at z⟩
  |false =>
   rw[Bool.false_or]
   exact⟨i1,i2⟩
theorem agF{c:Nat}{V:Nat->Int × Int}(hc:c<=12)(s0 s1 s2 s4 s5:Sl):Oa [s0,s1,s2,.sh (vT V c),s4,s5]=.ok ((List.range c).map iT,[s0,s1,s2,.sh (vT V c),s4,s5]):=by
 have el:bK (vT V c)=.ok (.int (c:Int),false):=by
  show Rs.ok (Tr.int (((List.range c).map λi=>fT (V i)).length:Int),false)=_
  rw[List.length_map,List.length_range]
 have q1:(-1000000:Int)<=c:=by omega
 have q2:(c:Int)<=1000000:=by omega
 have:(List.range c).map iT=L2.upTo 0 c:=(qR c).symm
 rw[this]
 generalize vT V c=T at *
 unfold Oa
 simp -dsimp[drs,dr,okR,q1,q2,el,g1]
theorem XQ{c:Nat}{V:Nat->Int × Int}(hV:∀i,i<c->Fq 4000 (V i))(hc:c<=12)(T:List Nat)(s0 s1:Sl):∀(ts:List Nat) (s4 s5:Sl),(∀t∈ts,t<c) ->
  (ts.any (λt=>(List.range c).any (bad T V t))=true->∃ρ,cM (gN 4) vI (ts.map iT) [s0,s1,.sh (nT T),.sh (vT V c),s4,s5]=.ok (.rt (.bl false) false,ρ))/\(ts.any (λt=>(List.range c).any (bad T V t))=false->∃t4 t5,cM (gN 4) vI (ts.map iT) [s0,s1,.sh (nT T),.sh (vT V c),s4,s5]=.ok (.nx,[s0,s1,.sh (nT T),.sh (vT V c),t4,t5]))
 | [],s4,s5,_=>⟨λz=>by simp at z,λ_=>⟨s4,s5,rfl⟩⟩
 |t::ts,s4,s5,h=>by
  obtain⟨j1,j2⟩:=XM hV T (h t (by simp)) s0 s1 (List.range c) s5 λo m=>List.mem_range.mp m
  have er:=agF (V:=V) hc s0 s1 (.sh (nT T)) (.sh (iT t)) s5
  have eo:vI [s0,s1,.sh (nT T),.sh (vT V c),.sh (iT t),s5]=cM (gN 5) tu ((List.range c).map iT) [s0,s1,.sh (nT T),.sh (vT V c),.sh (iT t),s5]:=by
   unfold vI cO
   rw[er]
   rfl
  rw[List.map_cons,List.any_cons]
  unfold cM
  rw[show gN 4 (iT t) [s0,s1,.sh (nT T),.sh (vT V c),s4,s5]=.ok [s0,s1,.sh (nT T),.sh (vT V c),.sh (iT t),s5]from rfl]
  simp only[Rs.dF]
  rw[eo]
  cases z:(List.range c).any (bad T V t)with
  |true =>
   obtain⟨ρ,e⟩:=j1 z
   refine⟨λ_=>⟨ρ,?_⟩,λz=>by simp at z⟩
   rw[e]
   rfl
  |false =>
   obtain⟨t5,e⟩:=j2 z
   obtain⟨i1,i2⟩:=XQ hV hc T s0 s1 ts (.sh (iT t)) t5 λx m=>h x (by simp[m])
   rw[Bool.false_or,e]
   exact⟨i1,i2⟩
def yr(c:Nat)(T:List Nat)(V:Nat->Int × Int):Bool := !(T.any λt=>(List.range c).any (bad T V t))
theorem agG{c:Nat}{B R:Tr}{V:Nat->Int × Int}(hV:∀i,i<c->Fq 4000 (V i))(hc:c<=12){T:List Nat}(hT:∀t∈T,t<c)(et:pG [B,R]=.ok (vT V c,true)):jz [B,R,nT T]=.ok (.bl (yr c T V),false):=by
 obtain⟨j1,j2⟩:=XQ hV hc T (.sh B) (.sh R) T .un .un hT
 have en:nT T=.lst (T.map iT):=rfl
 unfold jz yr
 rw[agD]
 have run:∀x,cV (cM (gN 4) vI (T.map iT) [.sh B,.sh R,.sh (nT T),.sh (vT V c),.un,.un])=x->bZ (cO (bQ (aj 2)) (gN 4) vI) [.sh B,.sh R,.sh (nT T),.sh (vT V c),.un,.un]=x:=λx h=>h
 cases z:T.any (λt=>(List.range c).any (bad T V t))with
 |true =>
  obtain⟨ρ,e⟩:=j1 z
  have e1:=run _ (by rw[e])
  generalize bZ _=G at e1 ⊢
  generalize nT T=N,vT V c=L at *
  unfold aQ
  simp -dsimp[bA,drs,dr,aX,et,e1,cV]
 |false =>
  obtain⟨t4,t5,e⟩:=j2 z
  have e1:=run _ (by rw[e])
  generalize bZ _=G at e1 ⊢
  generalize nT T=N,vT V c=L at *
  unfold aQ
  simp -dsimp[bA,drs,dr,aX,et,e1,cV]
end K57
end
section
namespace K57
open PySem L2 BH
def vJ:BF:=(oO (bV (aq d8 (aj 6) (bF (g1 bK) (ak (aj 4) au)))) (dU (cL (aK fY (ak (aq aB (aj 3) (aq aB (aj 4) (aj 6))) (ak (aq aB (aj 3) (aj 5)) au))))))
def Bb:SF:=(aW (aq cB (aj 6) (eC (.int 1))) (gN 6))
def yt:SF:=(aG (aW (eC (.int 0)) (gN 6)) (aG (jE (sI 4) vJ Bb) (jw (oZ 4 nG (ak (aj 6) (ak (aj 5) au))))))
def Gv:IF:=(fL (ak (bF (g1 bK) (ak (aj 3) au)) au))
theorem agH:Mq=(aG (aW (aK pG (ak (aj 0) (ak (aj 1) au))) (gN 3)) (aG (j9 4 (jk au)) (aG (bZ (cO Gv (gN 5) yt)) (aY (ur (aj 4) uo (uq (aj 2))))))):=rfl
theorem XR(zs:List Nat):bK (.lst (zs.map iT))=.ok (.int (zs.length:Int),false):=by
 show Rs.ok (Tr.int ((zs.map iT).length:Int),false)=_
 rw[List.length_map]
theorem agI{c:Nat}{V:Nat->Int × Int}(s0 s1 s2:Sl)(zs:List Nat)(x:Nat):vJ [s0,s1,s2,.sh (vT V c),.ow (zs.map iT),.sh (iT x),.sh (.int (zs.length:Nat))]=.ok (false,[s0,s1,s2,.sh (vT V c),.ow (zs.map iT),.sh (iT x),.sh (.int (zs.length:Nat))]):=by
 have el:=XR zs
 generalize zs.map iT=L,vT V c=W,iT x=X,(zs.length:Int)=N at *
 unfold vJ
 simp -dsimp[dr,drs,g1,el,d8,gB,bO]
theorem agJ{c:Nat}{V:Nat->Int × Int}(hV:∀i,i<c->Fq 400 (V i))(s0 s1 s2:Sl){zs:List Nat}(hz:∀z∈zs,z<c){x p:Nat}(hx:x<c)(hp:p<zs.length):vJ [s0,s1,s2,.sh (vT V c),.ow (zs.map iT),.sh (iT x),.sh (.int (p:Nat))]=.ok (!(fB (V zs[p]) (V x)),[s0,s1,s2,.sh (vT V c),.ow (zs.map iT),.sh (iT x),.sh (.int (p:Nat))]):=by
 have el:=XR zs
 have q:(p:Int)<zs.length:=by omega
 have XS:=hz _ (List.getElem_mem hp)
 have e:=Gq (hV _ XS) (hV x hx) (by omega)
 have ei:aB (.lst (zs.map iT)) (.int (p:Nat))=.ok (iT zs[p],false):=jR (by rw[List.getElem?_map,List.getElem?_eq_getElem hp]; rfl)
 have e2:=Ba (V:=V) XS
 have e3:=Ba (V:=V) hx
 generalize fB (V zs[p]) (V x)=B,fT (V zs[p])=Z,fT (V x)=Y,iT zs[p]=I,iT x=X,vT V c=W,zs.map iT=L,(zs.length:Int)=N at *
 unfold vJ
 simp -dsimp[dr,drs,aX,g1,el,d8,gB,q,bO,ei,e2,e3,e,jy,m9,cX]
theorem X3{c:Nat}{V:Nat->Int × Int}(hV:∀i,i<c->Fq 400 (V i))(s0 s1 s2:Sl){zs:List Nat}(hz:∀z∈zs,z<c){x:Nat}(hx:x<c):∀(n p:Nat),p<=zs.length->zs.length-p<n->(∀j (h:j<zs.length),j<p->fB (V zs[j]) (V x)=false) ->
  ∃q,m8 vJ Bb n [s0,s1,s2,.sh (vT V c),.ow (zs.map iT),.sh (iT x),.sh (.int (p:Nat))]=.ok (.nx,[s0,s1,s2,.sh (vT V c),.ow (zs.map iT),.sh (iT x),.sh (.int (q:Nat))])/\q<=zs.length/\(∀j (h:j<zs.length),j<q->fB (V zs[j]) (V x)=false)/\∀h:q<zs.length,fB (V zs[q]) (V x)=true
 | 0,p,_,h,_=>by omega
 |n+1,p,hp,hn,hj=>by
  unfold m8
  by_cases e:p=zs.length
  ·subst e
   refine⟨zs.length,?_,Nat.le_refl _,hj,λh=>by omega⟩
   rw[agI]
   rfl
  ·have hlt:p<zs.length:=by omega
   rw[agJ hV s0 s1 s2 hz hx hlt]
   cases b:fB (V zs[p]) (V x)with
   |true=>exact⟨p,rfl,hp,hj,λ_=>b⟩
   |false =>
    obtain⟨q,e1,e2,e3,e4⟩:=X3 hV s0 s1 s2 hz hx n (p+1) (by omega) (by omega) λj h hj'=>by
     by_cases z:j=p
     ·subst z; exact b
     ·exact hj j h (by omega)
    refine⟨q,?_,e2,e3,e4⟩
    have eb:Bb [s0,s1,s2,.sh (vT V c),.ow (zs.map iT),.sh (iT x),.sh (.int (p:Nat))]=.ok (.nx,[s0,s1,s2,.sh (vT V c),.ow (zs.map iT),.sh (iT x),.sh (.int ((p+1:Nat):Int))]):=by
     rw[show((p+1:Nat):Int)=(p:Int)+1 by omega]
     generalize zs.map iT=L
     generalize vT V c=W
     generalize iT x=X
     unfold Bb
     simp -dsimp[dr,cB]
    simp only[Rs.dF,Bool.not_false,if_true]
    rw[eb]
    exact e1
theorem Gw{V:Nat->Int × Int}{i j:Nat}(hi:1<=(V i).2)(hj:1<=(V j).2):Bf V i j↔val (V j)<val (V i)\/(val (V j)=val (V i)/\i<j):=by
 have a:=yj hj hi
 have b:=jA hj hi
 have c:=jA hi hj
 unfold fB at a
 rw[decide_eq_true_eq]at a
 unfold le2 at b c
 unfold Bf
 constructor
 ·rintro(h|⟨h1,h2⟩)
  ·exact .inl (a.mp h)
  ·have x1:=b.mp (by omega)
   have x2:=c.mp (by omega)
   exact .inr ⟨by grind,h2⟩
 ·rintro(h|⟨h1,h2⟩)
  ·exact .inl (a.mpr h)
  ·have x1:=b.mpr (by rw[h1]; exact Rat.le_refl)
   have x2:=c.mpr (by rw[h1]; exact Rat.le_refl)
   exact .inr ⟨by omega,h2⟩
theorem agK{c:Nat}{V:Nat->Int × Int}(hV:∀i,i<c->1<=(V i).2){zs:List Nat}{x q:Nat}(hz:∀z∈zs,z<x)(hx:x<c)(h:zs.Pairwise (Bf V))(hq:q<=zs.length)(h1:∀j (h:j<zs.length),j<q->fB (V zs[j]) (V x)=false)(h2:∀h:q<zs.length,fB (V zs[q]) (V x)=true):(zs.take q++x::zs.drop q).Pairwise (Bf V):=by
 have pw:=List.pairwise_iff_getElem.mp h
 have hc:∀j (hj:j<zs.length),1<=(V zs[j]).2:=λj hj=>hV _ (by have:=hz _ (List.getElem_mem hj); omega)
 have px:=hV x hx
 rw[List.pairwise_append]
 refine⟨h.sublist (List.take_sublist _ _),List.pairwise_cons.mpr ⟨λb hb=>?_,h.sublist (List.drop_sublist _ _)⟩,λa ha b hb=>?_⟩
 ·obtain⟨j,hj,rfl⟩:=List.getElem_of_mem hb
  rw[List.getElem_drop]
  have jl:q+j<zs.length:=by rw[List.length_drop]at hj; omega
  have a1:=(yj (hc q (by omega)) px).mp (h2 (by omega))
  refine(Gw px (hc _ jl)).mpr (.inl ?_)
  by_cases z:j=0
  ·subst z; exact a1
  ·have a2:=(Gw (hc _ (by omega)) (hc _ jl)).mp (pw q (q+j) (by omega) jl (by omega))
   grind
 ·obtain⟨j,hj,rfl⟩:=List.getElem_of_mem ha
  rw[List.length_take]at hj
  rw[List.getElem_take]
  have jl:j<zs.length:=by omega
  rcases List.mem_cons.mp hb with rfl|hb
  ·have a1:=h1 j jl (by omega)
   have a2:=(jA px (hc j jl)).mp (sW.mp a1)
   have lx:=hz _ (List.getElem_mem jl)
   refine(Gw (hc j jl) px).mpr ?_
   grind
  ·obtain⟨i,hi,rfl⟩:=List.getElem_of_mem hb
   rw[List.length_drop]at hi
   rw[List.getElem_drop]
   exact pw j (q+i) jl (by omega) (by omega)
theorem agL{c:Nat}{V:Nat->Int × Int}(hV:∀i,i<c->Fq 400 (V i))(s0 s1 s2 s6:Sl){zs:List Nat}{x:Nat}(hz:∀z∈zs,z<x)(hx:x<c)(hl:zs.length<=100)(h:zs.Pairwise (Bf V)):∃(zs':List Nat) (t6:Sl),yt [s0,s1,s2,.sh (vT V c),.ow (zs.map iT),.sh (iT x),s6]=.ok (.nx,[s0,s1,s2,.sh (vT V c),.ow (zs'.map iT),.sh (iT x),t6])/\zs'.Perm (x::zs)/\zs'.Pairwise (Bf V):=by
 obtain⟨q,e1,e2,e3,e4⟩:=X3 hV s0 s1 s2 (λz m=>by have:=hz z m; omega) hx (zs.length+1) 0 (by omega) (by omega) (λj h hj=>by omega)
 refine⟨zs.take q++x::zs.drop q,.sh (.int (q:Nat)),?_,?_,agK (λi hi=>(hV i hi).2.2.1) hz hx h e2 e3 e4⟩
 ·have ew:jE (sI 4) vJ Bb [s0,s1,s2,.sh (vT V c),.ow (zs.map iT),.sh (iT x),.sh (.int 0)]=.ok (.nx,[s0,s1,s2,.sh (vT V c),.ow (zs.map iT),.sh (iT x),.sh (.int (q:Nat))]):=by
   unfold jE
   rw[show sI 4 [s0,s1,s2,.sh (vT V c),.ow (zs.map iT),.sh (iT x),.sh (.int 0)]=(zs.map iT).length+1 from rfl,List.length_map]
   exact e1
  have em:nG (zs.map iT) [.int (q:Nat),iT x]=.ok ((zs.take q++x::zs.drop q).map iT,.non):=by
   show(if 0<=(q:Int)/\(q:Int).toNat<=(zs.map iT).length/\(zs.map iT).length<=100000 then Rs.ok ((zs.map iT).take (q:Int).toNat++iT x::(zs.map iT).drop (q:Int).toNat,Tr.non)else .bad)=_
   rw[List.length_map,Int.toNat_natCast,if_pos (by omega),List.map_append,List.map_cons,List.map_take,List.map_drop]
  generalize (zs.take q++x::zs.drop q).map iT=R,zs.map iT=L,vT V c=W,iT x=X at *
  unfold yt
  generalize jE _ _ _=G at ew ⊢
  simp -dsimp[ew,con,cls,dr,em,cR]
 ·have:(zs.take q++x::zs.drop q).Perm (x::(zs.take q++zs.drop q)):=List.perm_middle
  rw[List.take_append_drop]at this
  exact this
theorem X4{c:Nat}{V:Nat->Int × Int}(hV:∀i,i<c->Fq 400 (V i))(hc:c<=12)(s0 s1 s2:Sl):∀(n x:Nat) (zs:List Nat) (s5 s6:Sl),x+n=c->zs.Perm (List.range x)->zs.Pairwise (Bf V)->∃(zs':List Nat) (t5 t6:Sl),cM (gN 5) yt ((List.range' x n).map iT) [s0,s1,s2,.sh (vT V c),.ow (zs.map iT),s5,s6]=.ok (.nx,[s0,s1,s2,.sh (vT V c),.ow (zs'.map iT),t5,t6])/\zs'.Perm (List.range c)/\zs'.Pairwise (Bf V)
 | 0,x,zs,s5,s6,hn,hp,hs=>by
  have:x=c:=by omega
  subst this
  exact⟨zs,s5,s6,rfl,hp,hs⟩
 |n+1,x,zs,s5,s6,hn,hp,hs=>by
  have zl:zs.length=x:=by simpa using hp.length_eq
  obtain⟨zs1,t6,e,p1,p2⟩:=agL hV s0 s1 s2 s6 (zs:=zs) (x:=x) (λz m=>List.mem_range.mp (hp.mem_iff.mp m)) (by omega) (by omega) hs
  obtain⟨zs',r5,r6,e',q1,q2⟩:=X4 hV hc s0 s1 s2 n (x+1) zs1 (.sh (iT x)) t6 (by omega) (by
   refine p1.trans ((hp.cons x).trans ?_)
   rw[List.range_succ]
   exact(List.perm_append_singleton x _).symm) p2
  refine⟨zs',r5,r6,?_,q1,q2⟩
  rw[List.range'_succ,List.map_cons]
  exact xR e e'
theorem agM{V:Nat->Int × Int}{c:Nat}{ys zs:List Nat}(p1:ys.Perm (List.range c))(h1:ys.Pairwise (Bf V))(p2:zs.Perm (List.range c))(h2:zs.Pairwise (Bf V)):ys=zs:=List.Perm.eq_of_pairwise (le:=Bf V) (λa b _ _ h1 h2=>by
  unfold Bf at h1 h2
  omega) h1 h2 (p1.trans p2.symm)
theorem agN{c k:Nat}{B R:Tr}{V:Nat->Int × Int}(hV:∀i,i<c->Fq 400 (V i))(hc:c<=12){zs:List Nat}(hp:zs.Perm (List.range c))(hs:zs.Pairwise (Bf V))(et:pG [B,R]=.ok (vT V c,true)):vg [B,R,iT k]=.ok (nT (zs.take k),true):=by
 obtain⟨zs',t5,t6,e,q1,q2⟩:=X4 hV hc (.sh B) (.sh R) (.sh (iT k)) c 0 [] .un .un (by omega) (by simp) .nil
 have:=agM q1 q2 hp hs
 subst this
 have er:Gv [.sh B,.sh R,.sh (iT k),.sh (vT V c),.ow [],.un,.un]=.ok ((List.range' 0 c).map iT,[.sh B,.sh R,.sh (iT k),.sh (vT V c),.ow [],.un,.un]):=by
  have el:bK (vT V c)=.ok (.int (c:Int),false):=by
   show Rs.ok (Tr.int (((List.range c).map λi=>fT (V i)).length:Int),false)=_
   rw[List.length_map,List.length_range]
  have q1:(-1000000:Int)<=c:=by omega
  have q2:(c:Int)<=1000000:=by omega
  have:(List.range' 0 c).map iT=L2.upTo 0 c:=by rw[<-List.range_eq_range']; exact(qR c).symm
  rw[this]
  generalize vT V c=T at *
  unfold Gv
  simp -dsimp[drs,dr,okR,q1,q2,el,g1]
 have e1:bZ (cO Gv (gN 5) yt) [.sh B,.sh R,.sh (iT k),.sh (vT V c),.ow [],.un,.un]=.ok (.nx,[.sh B,.sh R,.sh (iT k),.sh (vT V c),.ow (zs'.map iT),t5,t6]):=by
  unfold bZ cO
  rw[er]
  simp only[Rs.dF]
  have e:cM (gN 5) yt ((List.range' 0 c).map iT) [.sh B,.sh R,.sh (iT k),.sh (vT V c),.ow [],.un,.un]=_:=e
  rw[e]
  rfl
 have es:rT none (some (k:Int)) (.lst (zs'.map iT))=.ok (nT (zs'.take k),true):=by
  show Rs.ok (Tr.lst (L2.cut (zs'.map iT) none (some (k:Int))),true)=_
  rw[WD,<-List.map_take]
  rfl
 unfold vg
 rw[agH]
 generalize bZ _=G at e1 ⊢
 generalize nT (zs'.take k)=N,zs'.map iT=L,vT V c=W at *
 unfold iT at *
 unfold aQ
 simp -dsimp[bA,drs,dr,aX,cls,et,e1,lW,es]
end K57
end
section
namespace K57
open PySem L2 BH
def X5:SF:=(bY (f9 (dU (cL (iK .int (aj 1)))) (cL (iK .bool (aj 1)))) (aY (eC (.bl false))) bW)
theorem agO:Mr=(aG (bY (f9 (dU (cL (iK .tuple (aj 0)))) (bV (aq dO (bF (g1 bK) (ak (aj 0) au)) (eC (.int 2))))) (aY (eC (.bl false))) bW) (aG (bZ (cO (bQ (aj 0)) (gN 1) X5)) (aY (lC (aq wu (aq aB (aj 0) (eC (.int 1))) (eC (.int 0))) (aq cj (aK vd (ak (aq aB (aj 0) (eC (.int 0))) (ak (aq aB (aj 0) (eC (.int 1))) au))) (eC (.int 1))))))):=rfl
theorem X6{M:Nat}{x:Int × Int}(h:Fq M x):sS [fT x]=.ok (.bl true,false):=by
 obtain⟨h1,h2,h3,h4,h5⟩:=h
 have e1:bZ (cO (bQ (aj 0)) (gN 1) X5) [.sh (fT x),.un]=.ok (.nx,[.sh (fT x),.sh (.int x.2)]):=rfl
 have eg:=Xe x.1 x.2
 rw[h5]at eg
 have e0:aB (fT x) (.int 0)=.ok (.int x.1,false):=rfl
 have e2:aB (fT x) (.int 1)=.ok (.int x.2,false):=rfl
 have el:bK (fT x)=.ok (.int 2,false):=rfl
 have ei:iy (fT x) .tuple=true:=rfl
 have en:dO (.int 2) (.int 2)=.ok (.bl false,false):=rfl
 have ee:cj (.int 1) (.int 1)=.ok (.bl true,false):=rfl
 have eq:wu (.int x.2) (.int 0)=.ok (.bl true,false):=by
  show Rs.ok (Tr.bl (decide ((0:Int)<x.2)),false)=_
  rw[decide_eq_true (by omega)]
 unfold sS
 rw[agO]
 generalize bZ _=G at e1 ⊢
 generalize fT x=T,x.1=A,x.2=B at *
 unfold aQ
 simp -dsimp[bA,drs,dr,aX,eB,ei,cX,g1,el,en,bO,e1,e0,e2,eq,eg,ee]
def mv(rows:List (List (Int × Int)))(p i:Nat)(w:Int × Int):List (List (Int × Int)):=rows.set p ((rows.getD p []).set i w)
theorem X7:∀(rows:List (List (Int × Int))) (s:Sl),∃s',uM (gN 0) cH (bF (g1 lD) (ak (aj 0) au)) (rows.map aC) [s]=.ok (rows.map aC,[s'])
 | [],s=>⟨s,rfl⟩
 |l::rows,s=>by
  obtain⟨s',e⟩:=X7 rows (.sh (aC l))
  refine⟨s',?_⟩
  have e1:bF (g1 lD) (ak (aj 0) au) [.sh (aC l)]=.ok (.v (.lst (l.map fT)) true,[.sh (aC l)]):=rfl
  have er:aC l=.lst (l.map fT):=rfl
  generalize bF (g1 lD) (ak (aj 0) au)=G at e e1 ⊢
  rw[List.map_cons]
  unfold uM
  rw[er]at *
  simp[e1,DQ,e]
theorem agP{c:Nat}{rows:List (List (Int × Int))}{p i:Nat}{w:Int × Int}(hl:rows.length<=4)(h:Len c rows)(hp:p<rows.length)(hi:i<c):kY [aN rows,iT p,iT i,fT w]=.ok (aN (mv rows p i w),true):=by
 obtain⟨s',e⟩:=X7 rows .un
 have hl':(rows.map aC).length<=100000:=by rw[List.length_map]; omega
 have ec:uN 4 [none] (bQ (aj 0)) (gN 0) cH (bF (g1 lD) (ak (aj 0) au)) [.sh (aN rows),.sh (iT p),.sh (iT i),.sh (fT w),.un]=.ok (.nx,[.sh (aN rows),.sh (iT p),.sh (iT i),.sh (fT w),.dp (rows.map aC)]):=by
  have er:bQ (aj 0) [.sh (aN rows),.sh (iT p),.sh (iT i),.sh (fT w),.un]=.ok (rows.map aC,[.sh (aN rows),.sh (iT p),.sh (iT i),.sh (fT w),.un]):=rfl
  rw[afM,er]
  simp only[vp]
  rw[if_pos hl',show fV [none] [.sh (aN rows),.sh (iT p),.sh (iT i),.sh (fT w),.un]=[.un]from rfl,e]
  rfl
 have lp:(rows.getD p []).length=c:=by
  rw[List.getD_eq_getElem?_getD,List.getElem?_eq_getElem hp]
  exact h _ (List.getElem_mem hp)
 have ix:∀{n:Nat} {l:List Tr} {k:Nat} {u:Tr},l.length=n->k<n->l[k]?=some u->jd l (iT k)=.ok (k,u):=λ{n l k u} h1 h2 h3=>by
  have e:eH l.length (k:Int)=some k:=by
   unfold eH
   rw[h1,if_pos (by omega),if_pos (by omega)]
   simp
  unfold jd iT
  simp only[e,h3]
 have x1:=ix (l:=rows.map aC) (by rw[List.length_map]) hp (u:=.lst ((rows.getD p []).map fT)) (by rw[List.getElem?_map,List.getElem?_eq_getElem hp]; simp[List.getD_eq_getElem?_getD,List.getElem?_eq_getElem hp,aC])
 have x2:=ix (l:=(rows.getD p []).map fT) (by rw[List.length_map]; exact lp) hi (u:=fT ((rows.getD p [])[i]'(by omega))) (by rw[List.getElem?_map,List.getElem?_eq_getElem (by omega)]; rfl)
 have ed:(rows.map aC).set p (.lst (((rows.getD p []).map fT).set i (fT w)))=(mv rows p i w).map aC:=by
  unfold mv
  rw[List.map_set,<-List.map_set]
  rfl
 have es:uK 4 (qy 1) (qy 2) (aj 3) [.sh (aN rows),.sh (iT p),.sh (iT i),.sh (fT w),.dp (rows.map aC)]=.ok (.nx,[.sh (aN rows),.sh (iT p),.sh (iT i),.sh (fT w),.dp ((mv rows p i w).map aC)]):=by
  rw[<-ed]
  unfold uK
  show(jd (rows.map aC) (iT p)).bind _=_
  rw[x1]
  show(jd ((rows.getD p []).map fT) (iT i)).bind _=_
  rw[x2]
  rfl
 show aQ 5 (aG (uN 4 [none] (bQ (aj 0)) (gN 0) cH (bF (g1 lD) (ak (aj 0) au))) (aG (uK 4 (qy 1) (qy 2) (aj 3)) (DP 4 (aY (aj 4))))) [aN rows,iT p,iT i,fT w]=.ok (.lst ((mv rows p i w).map aC),true)
 generalize uN _ _ _ _ _ _=G at ec ⊢
 generalize uK _ _ _ _=G2 at es ⊢
 generalize (mv rows p i w).map aC=R,rows.map aC=Q,aN rows=B,iT p=P,iT i=I,fT w=W at *
 unfold aQ
 simp -dsimp[bA,ec,es,uL,cls]
theorem X8{rows:List (List (Int × Int))}{p i:Nat}{w:Int × Int}:(mv rows p i w).length=rows.length:=by unfold mv; simp
theorem agQ{c:Nat}{rows:List (List (Int × Int))}{p i:Nat}{w:Int × Int}(h:Len c rows)(hp:p<rows.length):Len c (mv rows p i w):=λl m=>by
 unfold mv at m
 rcases List.mem_or_eq_of_mem_set m with m|rfl
 ·exact h l m
 ·rw[List.length_set,List.getD_eq_getElem?_getD,List.getElem?_eq_getElem hp]
  exact h _ (List.getElem_mem hp)
theorem agR{c:Nat}{rows:List (List (Int × Int))}{p i j:Nat}{w:Int × Int}(h:Len c rows)(hp:p<rows.length)(hi:i<c):col (mv rows p i w) j=if j=i then(col rows i).set p w else col rows j:=by
 have lp:(rows.getD p []).length=c:=by
  rw[List.getD_eq_getElem?_getD,List.getElem?_eq_getElem hp]
  exact h _ (List.getElem_mem hp)
 unfold col mv
 rw[List.map_set]
 by_cases e:j=i
 ·subst e
  rw[if_pos rfl]
  congr 1
  unfold at2
  rw[List.getD_eq_getElem?_getD (l:=(rows.getD p []).set j w),List.getElem?_set_self (by rw[lp]; exact hi)]
  rfl
 ·rw[if_neg e]
  have:at2 ((rows.getD p []).set i w) j=at2 (rows.getD p []) j:=by
   unfold at2
   rw[List.getD_eq_getElem?_getD (l:=(rows.getD p []).set i w),List.getElem?_set_ne (Ne.symm e),List.getD_eq_getElem?_getD (l:=rows.getD p [])]
  rw[this]
  apply List.ext_getElem?
  intro n
  by_cases z:p=n
  ·subst z
   rw[List.getElem?_set_self (by simpa using hp),List.getElem?_map,List.getElem?_eq_getElem hp,List.getD_eq_getElem?_getD,List.getElem?_eq_getElem hp]
   rfl
  ·rw[List.getElem?_set_ne z]
end K57
end
section
namespace K57
open PySem L2 BH
theorem Yb{α : Type}{r h : α -> Tr}{c:BF}{f:EF}{p : α -> Bool}{τ : En}:∀(xs:List α) (s:Sl),(∀x∈xs,c (.sh (r x)::τ)=.ok (p x,.sh (r x)::τ))->(∀x∈xs,∃fr,f (.sh (r x)::τ)=.ok (.v (h x) fr,.sh (r x)::τ))->∃s',gR (gN 0) c f (xs.map r) (s::τ)=.ok ((xs.filter p).map h,s'::τ)
 | [],s,_,_=>⟨s,rfl⟩
 |x::xs,s,q,q2=>by
  have e:=q x (by simp)
  obtain⟨fr,e2⟩:=q2 x (by simp)
  obtain⟨s',e'⟩:=Yb xs (.sh (r x)) (λv hv=>q v (by simp[hv])) (λv hv=>q2 v (by simp[hv]))
  refine⟨s',?_⟩
  rw[List.map_cons]
  unfold gR
  cases h:p x with
  |false=>rw[h]at e; simp[e,e',h]
  |true=>rw[h]at e; simp[e,e2,e',h,mq]
theorem mfC{α : Type}{r h : α -> Tr}{p : α -> Bool}{xs:List α}{ρ τ : En}{rest:List (Option Nat)}{i:IF}{c:BF}{fe:EF}(hl:xs.length<=100000)(hi:i ρ=.ok (xs.map r,ρ))(hτ : fV rest ρ = τ)(hs:∀s',gh (none::rest) (s'::τ) ρ = true)(hd:∀s',cU (none::rest) (s'::τ) ρ = ρ)
  (hf:∀x∈xs,c (.sh (r x)::τ)=.ok (p x,.sh (r x)::τ)) (he:∀x∈xs,∃fr,fe (.sh (r x)::τ)=.ok (.v (h x) fr,.sh (r x)::τ)):cD (none::rest) i (gN 0) c fe ρ=.ok (.v (.lst ((xs.filter p).map h)) true,ρ):=by
 obtain⟨s',e⟩:=Yb xs .un hf he
 have hu:fV (none::rest) ρ=.un::τ := by rw[<-hτ]; rfl
 have hl':(xs.map r).length<=100000:=by rw[List.length_map]; exact hl
 rw[Ga,hi]
 simp only[vp]
 rw[if_pos hl',hu,e]
 simp only[cV,vp]
 rw[if_pos (hs s'),hd s']
def pL(x y:Int × Int):Int × Int:=red (x.1*y.2-y.1*x.2) (x.2*y.2)
def yu(x y:Int × Int):Int × Int:=red (x.1*y.2) (x.2*y.1)
theorem Yc{x y:Int × Int}{M N:Nat}(hx:Fq M x)(hy:Fq N y)(hM:M+N<=8000):xq [fT x,fT y]=.ok (fT (pL x y),false):=by
 obtain⟨x1,x2,x3,x4,_⟩:=hx
 obtain⟨y1,y2,y3,y4,_⟩:=hy
 have nM:=gF M
 have nN:=gF N
 have c1:cW x.1 y.2=true:=iH (M:=M) (N:=N) (by omega) (by omega) (by omega) (by omega)
 have c2:cW y.1 x.2=true:=iH (M:=N) (N:=M) (by omega) (by omega) (by omega) (by omega)
 have c3:cW x.2 y.2=true:=iH (M:=M) (N:=N) (by omega) (by omega) (by omega) (by omega)
 have p:=Int.mul_pos (a:=x.2) (b:=y.2) (by omega) (by omega)
 have e:=Gm (a:=x.1*y.2-y.1*x.2) (b:=x.2*y.2) (M:=M+N) (by omega) (jT (by omega) x4 (by omega) y4) hM
 unfold xq Ka aQ
 show _=Rs.ok (fT (red (x.1*y.2-y.1*x.2) (x.2*y.2)),false)
 generalize fT (red (x.1*y.2-y.1*x.2) (x.2*y.2))=R at e ⊢
 unfold fT
 simp -dsimp[dr,drs,gI,bU,fD,aB,aX,dX,eH,bA,c1,c2,c3,fD,gI,e]
theorem agS{x y:Int × Int}{M N:Nat}(hx:Fq M x)(hy:Fq N y)(hp:1<=y.1)(hM:M+N<=8000):zO [fT x,fT y]=.ok (fT (yu x y),false):=by
 obtain⟨x1,x2,x3,x4,_⟩:=hx
 obtain⟨y1,y2,y3,y4,_⟩:=hy
 have nM:=gF M
 have nN:=gF N
 have c1:cW x.1 y.2=true:=iH (M:=M) (N:=N) (by omega) (by omega) (by omega) (by omega)
 have c2:cW x.2 y.1=true:=iH (M:=M) (N:=N) (by omega) (by omega) (by omega) (by omega)
 have p:=Int.mul_pos (a:=x.2) (b:=y.1) (by omega) (by omega)
 have e:=Gm (a:=x.1*y.2) (b:=x.2*y.1) (M:=M+N) (by omega) (jT (by omega) x4 (by omega) y2) hM
 unfold zO Kd aQ
 show _=Rs.ok (fT (red (x.1*y.2) (x.2*y.1)),false)
 generalize fT (red (x.1*y.2) (x.2*y.1))=R at e ⊢
 unfold fT
 simp -dsimp[dr,drs,bU,aB,aX,dX,eH,bA,c1,c2,e]
theorem Yd{x y:Int × Int}{M N:Nat}(hx:Fq M x)(hy:Fq N y)(hM:M+N<=8000):pB [fT x,fT y]=.ok (.bl (fB x y),false):=by
 obtain⟨x1,x2,x3,x4,_⟩:=hx
 obtain⟨y1,y2,y3,y4,_⟩:=hy
 have nM:=gF M
 have nN:=gF N
 have c1:cW x.1 y.2=true:=iH (M:=M) (N:=N) (by omega) (by omega) (by omega) (by omega)
 have c2:cW y.1 x.2=true:=iH (M:=N) (N:=M) (by omega) (by omega) (by omega) (by omega)
 unfold pB Kf aQ fT
 simp -dsimp[dr,bU,d8,aB,dX,eH,bA,c1,c2,fB]
theorem Ye{x y:Int × Int}{M N:Nat}(hx:Fq M x)(hy:Fq N y)(h:val y<=val x):Fq (M+N) (pL x y)/\val (pL x y)=val x-val y:=by
 have l:=(jA hy.2.2.1 hx.2.2.1).mpr h
 unfold le2 at l
 have px:=ipos hx.2.2.1
 have py:=ipos hy.2.2.1
 have ex:=val_mul hx.2.2.1
 have ey:=val_mul hy.2.2.1
 obtain⟨x1,x2,x3,x4,_⟩:=hx
 obtain⟨y1,y2,y3,y4,_⟩:=hy
 have p:=Int.mul_pos (a:=x.2) (b:=y.2) (by omega) (by omega)
 have b1:=jT x1 x2 (by omega) y4
 have b2:=Int.mul_nonneg y1 (show 0<=x.2 by omega)
 refine⟨xT (by omega) (by omega) (by omega) (jT (by omega) x4 (by omega) y4),?_⟩
 unfold pL
 rw[Ay (by omega),Rat.intCast_sub,Rat.intCast_mul,Rat.intCast_mul,Rat.intCast_mul,<-ex,<-ey]
 have pp:(x.2:Rat)*(y.2:Rat)≠0:=by
  have:=Rat.mul_pos px py
  grind
 rw[show val x*(x.2:Rat)*(y.2:Rat)-val y*(y.2:Rat)*(x.2:Rat)=(val x-val y)*((x.2:Rat)*(y.2:Rat)) by grind]
 exact Rat.mul_div_cancel pp
theorem agT{x:Int × Int}{M:Nat}(hx:Fq M x)(h:0<val x):1<=x.1:=by
 refine Classical.byContradiction λz=>?_
 have e:x.1=0:=by have:=hx.1; omega
 have m:=val_mul hx.2.2.1
 have p:=ipos hx.2.2.1
 rw[e]at m
 have:=Rat.mul_pos h p
 grind
theorem agU{x y:Int × Int}{M N:Nat}(hx:Fq M x)(hy:Fq N y)(h:1<=y.1):Fq (M+N) (yu x y)/\val (yu x y)*val y=val x:=by
 have ex:=val_mul hx.2.2.1
 have ey:=val_mul hy.2.2.1
 have px:=ipos hx.2.2.1
 have py:=ipos hy.2.2.1
 have pn:=ipos h
 obtain⟨x1,x2,x3,x4,_⟩:=hx
 obtain⟨y1,y2,y3,y4,_⟩:=hy
 have p:=Int.mul_pos (a:=x.2) (b:=y.1) (by omega) (by omega)
 refine⟨xT (Int.mul_nonneg x1 (by omega)) (jT x1 x2 (by omega) y4) (by omega) (jT (by omega) x4 y1 y2),?_⟩
 unfold yu
 rw[Ay (by omega),Rat.intCast_mul,Rat.intCast_mul,<-ex]
 have vy:(0:Rat)<val y:=by
  have:=Ny y1 y3
  have:val y≠0:=λz=>by rw[z]at ey; grind
  grind
 have pp:(x.2:Rat)*(y.1:Rat)≠0:=by
  have:=Rat.mul_pos px pn
  grind
 have k:val x*(x.2:Rat)*(y.2:Rat)*val y=val x*((x.2:Rat)*(y.1:Rat)):=by
  rw[<-ey]
  grind
 have k2:val x*(x.2:Rat)*(y.2:Rat) / ((x.2:Rat)*(y.1:Rat))*val y=val x*(x.2:Rat)*(y.2:Rat)*val y / ((x.2:Rat)*(y.1:Rat)):=by
  rw[Rat.div_def,Rat.div_def]
  grind
 rw[k2,k]
 exact Rat.mul_div_cancel pp
theorem Yg{c:Nat}{rows:List (List (Int × Int))}{r:Ru}{p i:Nat}{w:Int × Int}(hb:Bk c rows)(ho:fM rows.length r)(hp:p<rows.length)(hi:i<c)(hw:Wo w):∃v,pC [aN rows,aU r,iT p,iT i,fT w]=.ok (fT v,false)/\Wv r ((col rows i).set p w) v/\Fq 400 v:=by
 obtain⟨h1,h2,h3,h4,h5⟩:=id hb
 have hlen:Len c rows:=λl m=>(h5 l m).1
 have e1:=XF hlen (by omega) hi
 have lc:=pK rows i
 have hx:∀x∈(col rows i).set p w,Wo x:=λx m=>by
  rcases List.mem_or_eq_of_mem_set m with m|rfl
  ·exact n6 h5 hi x m
  ·exact hw
 have ll:((col rows i).set p w).length=rows.length:=by rw[List.length_set,lc]
 have ho':fM ((col rows i).set p w).length r:=by rw[ll]; exact ho
 obtain⟨v,ev,wv⟩:=Nr hx (by omega) (by omega) ho'
 refine⟨v,?_,wv,wv.fq hx (by omega) ho'⟩
 have ix:eH ((col rows i).map fT).length (p:Int)=some p:=by
  rw[List.length_map,lc]
  unfold eH
  rw[if_pos (by omega),if_pos (by omega)]
  simp
 have er:aC (col rows i)=.lst ((col rows i).map fT):=rfl
 have es:aC ((col rows i).set p w)=.lst (((col rows i).map fT).set p (fT w)):=by
  unfold aC
  rw[List.map_set]
 rw[er]at e1
 rw[es]at ev
 have fl:m9 (fT v)=true:=rfl
 generalize (col rows i).map fT=L,fT v=V,fT w=W,aN rows=B,aU r=R at *
 unfold iT at *
 unfold pC Ku aQ
 simp -dsimp[bA,drs,dr,aX,cls,con,cR,lW,e1,ix,ev,jy,fl]
theorem Yh{r:Ru}{v0 v1 g:Int × Int}(h0:Fq 400 v0)(h1:Fq 400 v1)(hg:Fq 400 g)(l0:val v0<=val g)(l1:val v0<val v1):∃u,nQ [aU r,fT v0,fT v1,fT g]=.ok (fT u,false)/\UF r v0 v1 g u/\Fq 1600 u:=by
 obtain⟨w,e1,e2,e3,_⟩:=Gn r
 cases hr:placed r with
 |true =>
  refine⟨g,?_,by unfold UF; rw[hr,if_pos rfl],hg.up (by omega)⟩
  have e2:cj (.str w) (.str "shares")=.ok (.bl false,false):=by cases r <;> first|exact e2|cases hr
  have e3:cj (.str w) (.str "product")=.ok (.bl false,false):=by cases r <;> first|exact e3|cases hr
  generalize aU r=R,fT v0=X0,fT v1=X1,fT g=G at *
  unfold nQ Er aQ
  simp -dsimp[bA,dr,e1,e2,e3,bO]
 |false =>
  obtain⟨d1,d2⟩:=Ye hg h0 l0
  obtain⟨d3,d4⟩:=Ye h1 h0 (Rat.le_of_lt l1)
  have pn:=agT d3 (by rw[d4]; grind)
  obtain⟨d5,d6⟩:=agU d1 d3 pn
  refine⟨yu (pL g v0) (pL v1 v0),?_,by unfold UF; rw[hr,if_neg (by simp),<-d4,d6,d2],d5⟩
  have a1:=Yc hg h0 (by omega)
  have a2:=Yc h1 h0 (by omega)
  have a3:=agS d1 d3 pn (by omega)
  have key:cj (.str w) (.str "shares")=.ok (.bl true,false)∨(cj (.str w) (.str "shares")=.ok (.bl false,false)∧cj (.str w) (.str "product")=.ok (.bl true,false)):=by
   cases r <;> first|exact .inl e2|exact .inr ⟨e2,e3⟩|cases hr
  generalize fT (yu (pL g v0) (pL v1 v0))=D,fT (pL g v0)=D1,fT (pL v1 v0)=D2,aU r=R,fT v0=X0,fT v1=X1,fT g=G at *
  unfold nQ Er aQ
  rcases key with k|⟨k1,k2⟩
  ·simp -dsimp[bA,drs,dr,aX,e1,k,bO,a1,a2,a3]
  ·simp -dsimp[bA,drs,dr,aX,e1,k1,k2,bO,a1,a2,a3]
end K57
end
section
namespace K57
open PySem L2 BH
theorem Gx(t:Nat)(ys:List Nat):fQ id (iT t) (nT ys)=.ok (.bl (ys.any (· == t)),false):=by
 show(if deps (ys.map λi:Nat=>Tr.int i)<=40/\dep (.int t)<=40 then Rs.ok (Tr.bl (id (rN (.int t) (ys.map λi:Nat=>Tr.int i))),false)else .bad)=_
 rw[Nh,jJ,if_pos (by omega),NQ]
 rfl
def inB(T:List Nat)(o:Nat):Bool:=T.any (· == o)
theorem jB{T:List Nat}{o:Nat}:inB T o=true↔o∈T:=by unfold inB; simp
def rv(c:Nat)(T:List Nat)(i:Nat):List Nat:=(List.range c).filter λo=>inB T o != inB T i
def Ob:BF:=(bV (aq dO (aq (fQ id) (aj 0) (aj 1)) (aq (fQ id) (aj 2) (aj 1))))
def Gy:EF:=(cD [none,some 2,some 4,some 5] (fL (ak (bF (g1 bK) (ak (aj 5) au)) au)) (gN 0) Ob (aq aB (aj 3) (aj 0)))
theorem agV{c:Nat}{V:Nat->Int × Int}(hc:c<=12)(T:List Nat)(i:Nat)(s0 s1 s3 s6 s7 s8 s9 bM:Sl):Gy [s0,s1,.sh (nT T),s3,.sh (iT i),.sh (vT V c),s6,s7,s8,s9,bM]=.ok (.v (.lst ((rv c T i).map λo=>fT (V o))) true,[s0,s1,.sh (nT T),s3,.sh (iT i),.sh (vT V c),s6,s7,s8,s9,bM]):=by
 have el:bK (vT V c)=.ok (.int (c:Int),false):=by
  show Rs.ok (Tr.int (((List.range c).map λi=>fT (V i)).length:Int),false)=_
  rw[List.length_map,List.length_range]
 have q1:(-1000000:Int)<=c:=by omega
 have q2:(c:Int)<=1000000:=by omega
 have er:fL (ak (bF (g1 bK) (ak (aj 5) au)) au) [s0,s1,.sh (nT T),s3,.sh (iT i),.sh (vT V c),s6,s7,s8,s9,bM]=.ok ((List.range c).map iT,[s0,s1,.sh (nT T),s3,.sh (iT i),.sh (vT V c),s6,s7,s8,s9,bM]):=by
  have:(List.range c).map iT=L2.upTo 0 c:=(qR c).symm
  rw[this]
  generalize vT V c=W,nT T=N,iT i=I at *
  simp -dsimp[drs,dr,okR,q1,q2,el,g1]
 refine mfC (r:=iT) (h:=λo=>fT (V o)) (p:=λo=>inB T o != inB T i) (xs:=List.range c) (τ:=[.sh (nT T),.sh (iT i),.sh (vT V c)]) (rest:=[some 2,some 4,some 5]) (c:=Ob) (fe:=(aq aB (aj 3) (aj 0))) (by simp; omega) er rfl (λs'=>rfl) (λs'=>rfl) (λo mo=>?_) (λo mo=>⟨false,?_⟩)
 ·have a1:=Gx o T
  have a2:=Gx i T
  have a3:dO (.bl (inB T o)) (.bl (inB T i))=.ok (.bl (inB T o != inB T i),false):=by cases inB T o <;> cases inB T i <;> rfl
  unfold inB at *
  unfold Ob
  generalize (T.any (· == o))=A,(T.any (· == i))=B,nT T=N,iT o=O,iT i=I,vT V c=W at *
  simp -dsimp[drs,dr,aX,a1,a2,a3,bO]
 ·have a1:=Ba (V:=V) (List.mem_range.mp mo)
  generalize fT (V o)=X,nT T=N,iT o=O,iT i=I,vT V c=W at *
  simp -dsimp[drs,dr,aX,a1]
theorem agW{xs:List (Int × Int)}(hx:∀x∈xs,Fq 400 x)(h1:xs≠[])(hl:xs.length<=12):∃(ys:List Nat) (a b:Nat) (ga gb:Int × Int),jH [aC xs]=.ok (nT ys,true)/\aB (nT ys) (.int 0)=.ok (iT a,false)/\aB (nT ys) (.int (-1))=.ok (iT b,false)/\aB (aC xs) (iT a)=.ok (fT ga,false)/\aB (aC xs) (iT b)=.ok (fT gb,false)/\ga∈xs/\gb∈xs/\∀x∈xs,val x<=val ga/\val gb<=val x:=by
 have nM:=gF 400
 obtain⟨ys,e,f1,f2⟩:=Ge (N:=400) xs (λy hy=>by
  obtain⟨a1,a2,a3,a4,_⟩:=hx y hy
  exact⟨a3,a4,by omega⟩) (by omega) (by omega) (by omega)
 have lx:=List.length_pos_iff.mpr h1
 have ly:ys.length=xs.length:=by simpa using f1.length_eq
 have at_:∀j (hj:j<ys.length),ys[j]<xs.length:=λj hj=>by simpa using f1.mem_iff.mp (List.getElem_mem hj)
 have le:∀j k (hj:j<ys.length) (hk:k<ys.length),j<=k->val (xs[ys[k]]'(at_ k hk))<=val (xs[ys[j]]'(at_ j hj)):=λj k hj hk l=>by
  by_cases z:j=k
  ·subst z; exact Rat.le_refl
  ·have b:=List.pairwise_iff_getElem.mp f2 j k hj hk (by omega)
   have g:∀n (hn:n<xs.length),xs.getD n (0,1)=xs[n]:=λn hn=>by simp[hn]
   unfold xQ at b
   rw[g _ (at_ j hj),g _ (at_ k hk)]at b
   refine(jA (hx _ (List.getElem_mem _)).2.2.1 (hx _ (List.getElem_mem _)).2.2.1).mp ?_
   unfold le2
   omega
 have ix:∀n (hn:n<xs.length),aB (aC xs) (iT n)=.ok (fT xs[n],false):=λn hn=>jR (by rw[List.getElem?_map,List.getElem?_eq_getElem hn]; rfl)
 refine⟨ys,ys[0]'(by omega),ys[ys.length-1]'(by omega),xs[ys[0]'(by omega)]'(at_ _ _),xs[ys[ys.length-1]'(by omega)]'(at_ _ _),e,jR (i:=0) (by rw[List.getElem?_map,List.getElem?_eq_getElem (by omega)]; rfl),?_,ix _ _,ix _ _,List.getElem_mem _,List.getElem_mem _,λx mx=>?_⟩
 ·have:aB (.lst (ys.map λi:Nat=>Tr.int i)) (.int (-1))=.ok (iT (ys[ys.length-1]'(by omega)),false):=by
   have q:eH (ys.map λi:Nat=>Tr.int i).length (-1)=some (ys.length-1):=by
    rw[List.length_map]
    unfold eH
    rw[if_neg (by omega),if_pos (by omega)]
    congr 1
    omega
   have a:dX (ys.map λi:Nat=>Tr.int i) (-1)=some (iT (ys[ys.length-1]'(by omega))):=by
    unfold dX
    rw[q]
    show(ys.map λi:Nat=>Tr.int i)[ys.length-1]?=_
    rw[List.getElem?_map,List.getElem?_eq_getElem (show ys.length-1<ys.length by omega)]
    rfl
   show(match dX (ys.map λi:Nat=>Tr.int i) (-1)with
    |some t=>Rs.ok (t,false)
    |none=>Rs.bad)=_
   rw[a]
  exact this
 ·obtain⟨n,hn,rfl⟩:=List.getElem_of_mem mx
  obtain⟨j,hj,ej⟩:=List.getElem_of_mem (f1.mem_iff.mpr (List.mem_range.mpr hn))
  subst ej
  exact⟨le 0 j (by omega) hj (by omega),le j (ys.length-1) hj (by omega) (by omega)⟩
end K57
end
section
namespace K57
open PySem L2 BH
abbrev cA:Tr:=.tup [(.int 0),(.int 1)]
abbrev cZ:Tr:=.tup [(.int 1),(.int 1)]
def r1:SF:=(aW (aK lG (ak (aj 0) (ak (aj 1) au))) (gN 5))
def r2:SF:=(aW Gy (gN 6))
def r3:SF:=(bY (dU (cL (aj 6))) (aY (eY (ak (eC (.tup [(.int 0),(.int 1)])) (ak (eC (.tup [(.int 1),(.int 1)])) au)))) bW)
def r4:SF:=(aW (aK jH (ak (aj 6) au)) (gN 7))
def r5:SF:=(aW (aK pC (ak (aj 0) (ak (aj 1) (ak (aj 3) (ak (aj 4) (ak (eC (.tup [(.int 0),(.int 1)])) au)))))) (gN 8))
def r6:SF:=(aW (aK pC (ak (aj 0) (ak (aj 1) (ak (aj 3) (ak (aj 4) (ak (eC (.tup [(.int 1),(.int 1)])) au)))))) (gN 9))
noncomputable def r7:SF:=(bY (bV (aq (fQ id) (aj 4) (aj 2))) (aG (aW (aq aB (aj 6) (aq aB (aj 7) (eC (.int 0)))) (gN 10)) (aY (eY (ak (wC (cL (aK pB (ak (aj 8) (ak (aj 10) au)))) (aK nQ (ak (aj 1) (ak (aj 8) (ak (aj 9) (ak (aj 10) au))))) (eC (.tup [(.int 0),(.int 1)]))) (ak (eC (.tup [(.int 1),(.int 1)])) au))))) bW)
noncomputable def r8:SF:=(aG (aW (aq aB (aj 6) (aq aB (aj 7) (wB mZ (eC (.int 1))))) (gN 10)) (aY (eY (ak (eC (.tup [(.int 0),(.int 1)])) (ak (wC (cL (aK pB (ak (aj 10) (ak (aj 9) au)))) (aK nQ (ak (aj 1) (ak (aj 8) (ak (aj 9) (ak (aj 10) au))))) (eC (.tup [(.int 1),(.int 1)]))) au)))))
theorem sq{f g:SF}{ρ ρ2:En}(h:f ρ=.ok (.nx,ρ2)):aG f g ρ = g ρ2:=by
 rw[Wf,h]
 rfl
theorem Oc{f g:SF}{ρ ρ2:En}{T:Tr}{fr:Bool}(h:f ρ=.ok (.rt T fr,ρ2)):aG f g ρ=.ok (.rt T fr,ρ2):=by
 rw[Wf,h]
 rfl
theorem yw{n:Nat}{b:SF}{ts:List Tr}{T:Tr}{fr:Bool}{ρ : En}(h:b (bA n ts)=.ok (.rt T fr,ρ)):aQ n b ts=.ok (T,fr):=by
 unfold aQ
 rw[h]
 rfl
section
variable {B R N P I W L O X0 X1 J G U:Tr}
theorem agX(a1:lG [B,R]=.ok (W,true)):r1 [.sh B,.sh R,.sh N,.sh P,.sh I,.un,.un,.un,.un,.un,.un]=.ok (.nx,[.sh B,.sh R,.sh N,.sh P,.sh I,.sh W,.un,.un,.un,.un,.un]):=by
 unfold r1
 simp -dsimp[drs,dr,aX,cls,a1]
theorem agY(a2:Gy [.sh B,.sh R,.sh N,.sh P,.sh I,.sh W,.un,.un,.un,.un,.un]=.ok (.v L true,[.sh B,.sh R,.sh N,.sh P,.sh I,.sh W,.un,.un,.un,.un,.un])):r2 [.sh B,.sh R,.sh N,.sh P,.sh I,.sh W,.un,.un,.un,.un,.un]=.ok (.nx,[.sh B,.sh R,.sh N,.sh P,.sh I,.sh W,.sh L,.un,.un,.un,.un]):=by
 unfold r2
 generalize Gy=G at a2 ⊢
 simp -dsimp[drs,dr,aX,cls,a2]
theorem agZ{s0 s1 s2 s3 s4 s5 s7 s8 s9 bM:Sl}(h:cX L=.ok false):r3 [s0,s1,s2,s3,s4,s5,.sh L,s7,s8,s9,bM]=.ok (.rt (.tup [cA,cZ]) false,[s0,s1,s2,s3,s4,s5,.sh L,s7,s8,s9,bM]):=by
 unfold r3
 simp -dsimp[drs,dr,aX,cls,h]
theorem ag0{s0 s1 s2 s3 s4 s5 s7 s8 s9 bM:Sl}(h:cX L=.ok true):r3 [s0,s1,s2,s3,s4,s5,.sh L,s7,s8,s9,bM]=.ok (.nx,[s0,s1,s2,s3,s4,s5,.sh L,s7,s8,s9,bM]):=by
 unfold r3
 simp -dsimp[drs,dr,aX,cls,h]
theorem Gz{s0 s1 s2 s3 s4 s5 s7 s8 s9 bM:Sl}(h:jH [L]=.ok (O,true)):r4 [s0,s1,s2,s3,s4,s5,.sh L,s7,s8,s9,bM]=.ok (.nx,[s0,s1,s2,s3,s4,s5,.sh L,.sh O,s8,s9,bM]):=by
 unfold r4
 simp -dsimp[drs,dr,aX,cls,h]
theorem GC{s2 s5 s6 s7 s8 s9 bM:Sl}(h:pC [B,R,P,I,cA]=.ok (X0,false)):r5 [.sh B,.sh R,s2,.sh P,.sh I,s5,s6,s7,s8,s9,bM]=.ok (.nx,[.sh B,.sh R,s2,.sh P,.sh I,s5,s6,s7,.sh X0,s9,bM]):=by
 unfold r5
 simp -dsimp[drs,dr,aX,cls,h]
theorem GD{s2 s5 s6 s7 s8 s9 bM:Sl}(h:pC [B,R,P,I,cZ]=.ok (X1,false)):r6 [.sh B,.sh R,s2,.sh P,.sh I,s5,s6,s7,s8,s9,bM]=.ok (.nx,[.sh B,.sh R,s2,.sh P,.sh I,s5,s6,s7,s8,.sh X1,bM]):=by
 unfold r6
 simp -dsimp[drs,dr,aX,cls,h]
theorem Yi{b:Bool}{s0 s3 s5 bM:Sl}(h:fQ id I N=.ok (.bl true,false))(h0:aB O (.int 0)=.ok (J,false))(h1:aB L J=.ok (G,false))(h2:pB [X0,G]=.ok (.bl b,false))(h3:b=true->nQ [R,X0,X1,G]=.ok (U,false)):∃ρ,r7 [s0,.sh R,.sh N,s3,.sh I,s5,.sh L,.sh O,.sh X0,.sh X1,bM]=.ok (.rt (.tup [if b=true then U else cA,cZ]) false,ρ):=by
 refine⟨[s0,.sh R,.sh N,s3,.sh I,s5,.sh L,.sh O,.sh X0,.sh X1,.sh G],?_⟩
 unfold r7
 cases b with
 |true =>
  have h3:=h3 rfl
  simp -dsimp[drs,dr,aX,cls,h,h0,h1,h2,h3,bO,cX]
 |false=>simp -dsimp[drs,dr,aX,cls,h,h0,h1,h2,bO,cX]
theorem ag1{s0 s1 s3 s5 s6 s7 s8 s9 bM:Sl}(h:fQ id I N=.ok (.bl false,false)):r7 [s0,s1,.sh N,s3,.sh I,s5,s6,s7,s8,s9,bM]=.ok (.nx,[s0,s1,.sh N,s3,.sh I,s5,s6,s7,s8,s9,bM]):=by
 unfold r7
 simp -dsimp[drs,dr,aX,cls,h,bO]
theorem Yj{b:Bool}{s0 s2 s3 s4 s5 bM:Sl}(h0:aB O (.int (-1))=.ok (J,false))(h1:aB L J=.ok (G,false))(h2:pB [G,X1]=.ok (.bl b,false))(h3:b=true->nQ [R,X0,X1,G]=.ok (U,false)):∃ρ,r8 [s0,.sh R,s2,s3,s4,s5,.sh L,.sh O,.sh X0,.sh X1,bM]=.ok (.rt (.tup [cA,if b=true then U else cZ]) false,ρ):=by
 refine⟨[s0,.sh R,s2,s3,s4,s5,.sh L,.sh O,.sh X0,.sh X1,.sh G],?_⟩
 have hn:mZ (.int 1)=.ok (.int (-1),false):=rfl
 unfold r8
 cases b with
 |true =>
  have h3:=h3 rfl
  simp -dsimp[drs,dr,aX,cls,hn,h0,h1,h2,h3,bO,cX]
 |false=>simp -dsimp[drs,dr,aX,cls,hn,h0,h1,h2,bO,cX]
end
def gZ(c:Nat)(T:List Nat)(V:Nat->Int × Int)(i:Nat)(v:Int × Int):Prop:=if inB T i=true then ∀o∈rv c T i,val (V o)<=val v else ∀o∈rv c T i,val v<=val (V o)
structure Rm(c:Nat)(r:Ru)(xs:List (Int × Int))(p:Nat)(V:Nat->Int × Int)(T:List Nat)(i:Nat)(here lo hi:Int × Int):Prop where
 lq:Fq 1600 lo
 hq:Fq 1600 hi
 b1:val hi<=1
 h1:val lo<=val here
 h2:val here<=val hi
 Od:∀v,Wv r (xs.set p lo) v->gZ c T V i v
 Oe:∀v,Wv r (xs.set p hi) v->gZ c T V i v
 Og:lo≠(0,1)->∀w v,Po w->val w<val lo->Wv r (xs.set p w) v->¬gZ c T V i v
 Oh:hi≠(1,1)->∀w v,Po w->val hi<val w->Wv r (xs.set p w) v->¬gZ c T V i v
theorem vK{M:Nat}{x:Int × Int}(h:Fq M x):Po x:=⟨h.1,h.2.2.1⟩
theorem ag2{x:Int × Int}(h:Wo x):Po x/\val x<=1:=by
 refine⟨⟨h.1,h.2.2.1⟩,?_⟩
 have:=(jA (x:=x) (y:=(1,1)) h.2.2.1 (by decide)).mp (by unfold le2; have:=h.2.1; simp; omega)
 rw[iI]at this
 exact this
theorem ag3:Wo (0,1):=by decide
theorem ag4:Wo (1,1):=by decide
theorem Yk{xs:List (Int × Int)}{p:Nat}{x:Int × Int}(h:xs[p]?=some x):xs.set p x=xs:=by
 apply List.ext_getElem?
 intro j
 by_cases e:p=j
 ·subst e
  rw[List.getElem?_set_self (List.getElem?_eq_some_iff.mp h).1,h]
 ·rw[List.getElem?_set_ne e]
theorem ag5{c:Nat}{rows:List (List (Int × Int))}{r:Ru}{V:Nat->Int × Int}{T:List Nat}{p i:Nat}{here:Int × Int}(hb:Bk c rows)(ho:fM rows.length r)(hV:∀j,j<c->Fq 400 (V j))(Bc:∀j,j<c->Wv r (col rows j) (V j))(ew:lG [aN rows,aU r]=.ok (vT V c,true))(hp:p<rows.length)(hi:i<c)(hh:(col rows i)[p]?=some here)(hbest:gZ c T V i (V i)) :
  ∃lo hi',Es [aN rows,aU r,nT T,iT p,iT i]=.ok (.tup [fT lo,fT hi'],false)/\Rm c r (col rows i) p V T i here lo hi':=by
 obtain⟨h1,h2,h3,h4,h5⟩:=id hb
 have lc:=pK rows i
 have hpx:p<(col rows i).length:=by omega
 have hox:fM (col rows i).length r:=by rw[lc]; exact ho
 have hxw:∀x∈col rows i,Po x/\val x<=1:=λx m=>ag2 (n6 h5 hi x m)
 have hxp:∀x∈col rows i,Po x:=λx m=>(hxw x m).1
 have hw:=hxw here (List.mem_of_getElem? hh)
 have wi:Wv r ((col rows i).set p here) (V i):=by rw[Yk hh]; exact Bc i hi
 obtain⟨v0,e0,w0,f0⟩:=Yg hb ho hp hi ag3
 obtain⟨v1,e1,w1,f1⟩:=Yg hb ho hp hi ag4
 have GJ:val v0<=val (V i):=yp hox hxp hpx qW hw.1 w0 wi (by rw[lJ]; exact hw.1.nn)
 have Oi:val (V i)<=val v1:=yp hox hxp hpx hw.1 vH wi w1 (by rw[iI]; exact hw.2)
 have a2:=agV (V:=V) h4 T i (.sh (aN rows)) (.sh (aU r)) (.sh (iT p)) .un .un .un .un .un
 have vL:=agX (N:=nT T) (P:=iT p) (I:=iT i) ew
 have tB:=agY a2
 have u01:∀{x:Int × Int},Wv r ((col rows i).set p (0,1)) x->x=v0\/val x=val v0:=λ{x} hx=>.inr (by
  have a:=yp hox hxp hpx qW qW hx w0 Rat.le_refl
  have b:=yp hox hxp hpx qW qW w0 hx Rat.le_refl
  grind)
 have Oj:∀{x:Int × Int},Wv r ((col rows i).set p (0,1)) x->val x=val v0:=λhx=>by rcases u01 hx with rfl|h; rfl; exact h
 have Ol:∀{x:Int × Int},Wv r ((col rows i).set p (1,1)) x->val x=val v1:=λ{x} hx=>by
  have a:=yp hox hxp hpx vH vH hx w1 Rat.le_refl
  have b:=yp hox hxp hpx vH vH w1 hx Rat.le_refl
  grind
 have GK:Fq 1600 (0,1):=vC.up (by omega)
 have GP:Fq 1600 (1,1):=vD.up (by omega)
 have start:bA 11 [aN rows,aU r,nT T,iT p,iT i]=[.sh (aN rows),.sh (aU r),.sh (nT T),.sh (iT p),.sh (iT i),.un,.un,.un,.un,.un,.un]:=rfl
 by_cases z:rv c T i=[]
 ·refine⟨(0,1),(1,1),?_,GK,GP,by rw[iI]; exact Rat.le_refl,by rw[lJ]; exact hw.1.nn,by rw[iI]; exact hw.2,?_,?_,λn=>absurd rfl n,λn=>absurd rfl n⟩
  ·exact yw (b:=u0) (n:=11) ((sq vL).trans ((sq tB).trans (Oc (agZ (by rw[z]; rfl)))))
  ·intro v _
   unfold gZ
   rw[z]
   split <;> simp
  ·intro v _
   unfold gZ
   rw[z]
   split <;> simp
 ·have lr:(rv c T i).length<=(List.range c).length:=List.length_filter_le ..
  rw[List.length_range]at lr
  have em:Tr.lst ((rv c T i).map λo=>fT (V o))=aC ((rv c T i).map V):=by
   unfold aC
   rw[List.map_map]
   rfl
  have inr:∀o∈rv c T i,o<c:=λo m=>List.mem_range.mp (List.mem_filter.mp m).1
  obtain⟨ys,a,b,ga,gb,k1,k2,k3,k4,k5,k6,k7,k8⟩:=agW (xs:=(rv c T i).map V) (λx m=>by
   obtain⟨o,mo,rfl⟩:=List.mem_map.mp m
   exact hV o (inr o mo)) (by simpa using z) (by rw[List.length_map]; omega)
  obtain⟨oa,Yl,ea⟩:=List.mem_map.mp k6
  obtain⟨ob,Ym,eb⟩:=List.mem_map.mp k7
  have fa:Fq 400 ga:=ea▸hV oa (inr oa Yl)
  have fb:Fq 400 gb:=eb▸hV ob (inr ob Ym)
  rw[em]at tB
  have tr:cX (aC ((rv c T i).map V))=.ok true:=by
   cases h:rv c T i with
   |nil=>exact absurd h z
   |cons x l=>rfl
  have yx:=λs0 s1 s2 s3 s4 s5 s7 s8 s9 bM=>ag0 (s0:=s0) (s1:=s1) (s2:=s2) (s3:=s3) (s4:=s4) (s5:=s5) (s7:=s7) (s8:=s8) (s9:=s9) (bM:=bM) tr
  cases hin:inB T i with
  |true =>
   have hn:fQ id (iT i) (nT T)=.ok (.bl true,false):=by
    have:=Gx i T
    unfold inB at hin
    rw[hin]at this
    exact this
   have lK:∀v,gZ c T V i v↔val ga<=val v:=λv=>by
    unfold gZ
    rw[hin,if_pos rfl]
    constructor
    ·intro h
     rw[<-ea]
     exact h oa Yl
    ·intro h o mo
     exact Rat.le_trans (k8 _ (List.mem_map.mpr ⟨o,mo,rfl⟩)).1 h
   have gi:=(lK (V i)).mp hbest
   have qX:=Yd f0 fa (by omega)
   cases hl:fB v0 ga with
   |false =>
    rw[hl]at qX
    have le:=(jA fa.2.2.1 f0.2.2.1).mp (sW.mp hl)
    obtain⟨ρ,tD⟩:=Yi (s0:=.sh (aN rows)) (s3:=.sh (iT p)) (s5:=.sh (vT V c)) (bM:=.un) (X1:=fT v1) (R:=aU r) (U:=.non) hn k2 k4 qX (λz=>by cases z)
    refine⟨(0,1),(1,1),?_,GK,GP,by rw[iI]; exact Rat.le_refl,by rw[lJ]; exact hw.1.nn,by rw[iI]; exact hw.2,λv hv=>(lK v).mpr (by rw[Oj hv]; exact le),λv hv=>(lK v).mpr (by rw[Ol hv]; exact Rat.le_trans gi Oi),λn=>absurd rfl n,λn=>absurd rfl n⟩
    exact yw (b:=u0) (n:=11) ((sq vL).trans ((sq tB).trans ((sq (yx ..)).trans ((sq (Gz k1)).trans ((sq (GC e0)).trans ((sq (GD e1)).trans (Oc tD)))))))
   |true =>
    rw[hl]at qX
    have lt:=(yj f0.2.2.1 fa.2.2.1).mp hl
    have Om:val v0<val v1:=by grind
    obtain⟨u,eu,uf,fu⟩:=Yh (r:=r) f0 f1 fa (Rat.le_of_lt lt) Om
    obtain⟨ρ,tD⟩:=Yi (s0:=.sh (aN rows)) (s3:=.sh (iT p)) (s5:=.sh (vT V c)) (bM:=.un) (X1:=fT v1) (R:=aU r) hn k2 k4 qX (λ_=>eu)
    obtain⟨g1,g2,g3,g4⟩:=agy hox hxw hpx w0 w1 (vK fa) (vK fu) uf lt (Rat.le_trans gi Oi)
    have uh:val u<=val here:=by
     refine Classical.byContradiction λz=>?_
     have:=g4 here (V i) hw.1 (by grind) wi
     grind
    refine⟨u,(1,1),?_,fu,GP,by rw[iI]; exact Rat.le_refl,uh,by rw[iI]; exact hw.2,λv hv=>(lK v).mpr (by rw[g1 v hv]; exact Rat.le_refl),λv hv=>(lK v).mpr (by rw[Ol hv]; exact Rat.le_trans gi Oi),λ_ w v pw lw hv=>λz=>?_,λn=>absurd rfl n⟩
    ·exact yw (b:=u0) (n:=11) ((sq vL).trans ((sq tB).trans ((sq (yx ..)).trans ((sq (Gz k1)).trans ((sq (GC e0)).trans ((sq (GD e1)).trans (Oc tD)))))))
    ·have a:=(lK v).mp z
     have b:=g4 w v pw lw hv
     grind
  |false =>
   have hn:fQ id (iT i) (nT T)=.ok (.bl false,false):=by
    have:=Gx i T
    unfold inB at hin
    rw[hin]at this
    exact this
   have lK:∀v,gZ c T V i v↔val v<=val gb:=λv=>by
    unfold gZ
    rw[hin,if_neg (by simp)]
    constructor
    ·intro h
     rw[<-eb]
     exact h ob Ym
    ·intro h o mo
     exact Rat.le_trans h (k8 _ (List.mem_map.mpr ⟨o,mo,rfl⟩)).2
   have gi:=(lK (V i)).mp hbest
   have qX:=Yd fb f1 (by omega)
   have tD:=λs0 s1 s3 s5 s6 s7 s8 s9 bM=>ag1 (s0:=s0) (s1:=s1) (s3:=s3) (s5:=s5) (s6:=s6) (s7:=s7) (s8:=s8) (s9:=s9) (bM:=bM) hn
   cases hl:fB gb v1 with
   |false =>
    rw[hl]at qX
    have le:=(jA f1.2.2.1 fb.2.2.1).mp (sW.mp hl)
    obtain⟨ρ,Oo⟩:=Yj (s0:=.sh (aN rows)) (s2:=.sh (nT T)) (s3:=.sh (iT p)) (s4:=.sh (iT i)) (s5:=.sh (vT V c)) (bM:=.un) (X0:=fT v0) (R:=aU r) (U:=.non) k3 k5 qX (λz=>by cases z)
    refine⟨(0,1),(1,1),?_,GK,GP,by rw[iI]; exact Rat.le_refl,by rw[lJ]; exact hw.1.nn,by rw[iI]; exact hw.2,λv hv=>(lK v).mpr (by rw[Oj hv]; exact Rat.le_trans GJ gi),λv hv=>(lK v).mpr (by rw[Ol hv]; exact le),λn=>absurd rfl n,λn=>absurd rfl n⟩
    exact yw (b:=u0) (n:=11) ((sq vL).trans ((sq tB).trans ((sq (yx ..)).trans ((sq (Gz k1)).trans ((sq (GC e0)).trans ((sq (GD e1)).trans ((sq (tD ..)).trans Oo)))))))
   |true =>
    rw[hl]at qX
    have lt:=(yj fb.2.2.1 f1.2.2.1).mp hl
    have Om:val v0<val v1:=by grind
    obtain⟨u,eu,uf,fu⟩:=Yh (r:=r) f0 f1 fb (Rat.le_trans GJ gi) Om
    obtain⟨ρ,Oo⟩:=Yj (s0:=.sh (aN rows)) (s2:=.sh (nT T)) (s3:=.sh (iT p)) (s4:=.sh (iT i)) (s5:=.sh (vT V c)) (bM:=.un) (X0:=fT v0) (R:=aU r) k3 k5 qX (λ_=>eu)
    obtain⟨g1,g2,g3,g4⟩:=agz hox hxw hpx w0 w1 (vK fb) (vK fu) uf (Rat.le_trans GJ gi) lt
    have uh:val here<=val u:=by
     refine Classical.byContradiction λz=>?_
     have:=g4 here (V i) hw.1 (by grind) wi
     grind
    refine⟨(0,1),u,?_,GK,fu,g3,by rw[lJ]; exact hw.1.nn,uh,λv hv=>(lK v).mpr (by rw[Oj hv]; exact Rat.le_trans GJ gi),λv hv=>(lK v).mpr (by rw[g1 v hv]; exact Rat.le_refl),λn=>absurd rfl n,λ_ w v pw lw hv=>λz=>?_⟩
    ·exact yw (b:=u0) (n:=11) ((sq vL).trans ((sq tB).trans ((sq (yx ..)).trans ((sq (Gz k1)).trans ((sq (GC e0)).trans ((sq (GD e1)).trans ((sq (tD ..)).trans Oo)))))))
    ·have a:=(lK v).mp z
     have b:=g4 w v pw lw hv
     grind
end K57
end
section
namespace K57
open PySem L2 BH
theorem Yn(V:Nat->Int × Int):∀(zs:List Nat) (s0 s1:Sl),∃t0 t1,gR (gT 2 (bL (gN 0) (bL (gN 1) dD))) cH (aj 0) (zs.map (pJ V)) [s0,s1]=.ok (zs.map λi:Nat=>Tr.int i,[t0,t1])
 | [],s0,s1=>⟨s0,s1,rfl⟩
 |z::zs,s0,s1=>by
  obtain⟨t0,t1,e⟩:=Yn V zs (.sh (.int (z:Nat))) (.sh (fT (V z)))
  refine⟨t0,t1,?_⟩
  rw[List.map_cons,List.map_cons]
  unfold gR
  rw[show(gT 2 (bL (gN 0) (bL (gN 1) dD))) (pJ V z) [s0,s1]=.ok [.sh (.int (z:Nat)),.sh (fT (V z))]from rfl]
  simp only[Rs.dF,Wg,if_true]
  rw[show aj 0 [.sh (.int (z:Nat)),.sh (fT (V z))]=.ok (.v (.int (z:Nat)) false,[.sh (.int (z:Nat)),.sh (fT (V z))])from rfl]
  simp only[Rs.dF,mq]
  rw[e]
  rfl
theorem ag6{ys:List Nat}(h:ys.length<64):∃S:List Nat,qK (nT ys)=.ok (nT S,true)/\S.Perm ys:=by
 refine⟨ys.mergeSort (· <= ·),?_,List.mergeSort_perm ..⟩
 have p:((ys.mergeSort (· <= ·)).map λi:Nat=>(i:Int)).Perm (ys.map λi:Nat=>(i:Int)):=(List.mergeSort_perm ys (λa b=>decide (a<=b))).map _
 have s:((ys.mergeSort (· <= ·)).map λi:Nat=>(i:Int)).Pairwise (· <= ·):=by
  rw[List.pairwise_map]
  refine(List.pairwise_mergeSort (le:=λa b=>decide (a<=b)) (λa b c h1 h2=>by simp at *; omega) (λa b=>by simp; omega) ys).imp λ{a b} h=>by
   simp at h
   omega
 have e:=Vd p s
 unfold nT qK
 simp only[WK]
 rw[List.length_map,if_pos h,<-e,List.map_map]
 rfl
def GQ:EF:=(cD [none,none] (bQ (aK uZ (ak (aj 0) (ak (aj 1) (ak (aj 2) au))))) (gT 2 (bL (gN 0) (bL (gN 1) dD))) cH (aj 0))
theorem ag7{B R:Tr}{V:Nat->Int × Int}{zs:List Nat}{k:Nat}(hz:zs.length<=12)(hf:uZ [B,R,iT k]=.ok (.lst ((zs.take k).map (pJ V)),true)):∃S:List Nat,Ep [B,R,iT k]=.ok (nT S,true)/\S.Perm (zs.take k):=by
 obtain⟨t0,t1,e⟩:=Yn V (zs.take k) .un .un
 have lt:(zs.take k).length<=12:=by rw[List.length_take]; omega
 obtain⟨S,es,ps⟩:=ag6 (ys:=zs.take k) (by omega)
 refine⟨S,?_,ps⟩
 have hl:((zs.take k).map (pJ V)).length<=100000:=by rw[List.length_map]; omega
 have e3:nT (zs.take k)=.lst ((zs.take k).map λi:Nat=>Tr.int i):=rfl
 have ec:GQ [.sh B,.sh R,.sh (iT k)]=.ok (.v (nT (zs.take k)) true,[.sh B,.sh R,.sh (iT k)]):=by
  rw[e3]
  unfold GQ
  generalize (zs.take k).map (λi:Nat=>Tr.int i)=Y,(zs.take k).map (pJ V)=L,iT k=N at *
  simp -dsimp[drs,dr,aX,hf,oW,hl,fV,e,cV,gh,cU]
 show aQ 3 (aY (bF (g1 qK) (ak GQ au))) [B,R,iT k]=_
 generalize GQ=G at ec ⊢
 generalize nT (zs.take k)=Y,nT S=Z,iT k=N at *
 unfold aQ
 simp -dsimp[bA,drs,dr,aX,g1,ec,es]
theorem Gf{i n:Nat}(h:i<n):qP [iT i,.int (n:Nat)]=.ok (.bl true,false):=by
 have q:(i:Int)<n:=by omega
 unfold qP Ek aQ iT
 simp -dsimp[bO,dr,drs,gB,d8,d7,aX,bA,Aj,isW,d7,d8,gB,q]
theorem Wz{rows:List (List (Int × Int))}{p:Nat}(hp:p<rows.length):uV [aN rows,iT p]=.ok (.non,false):=by
 have e1:=NT rows
 have e2:=Gf hp
 generalize aN rows=B,iT p=P,((rows.length:Nat):Int)=N at *
 unfold uV Ko aQ
 simp -dsimp[bA,drs,dr,aX,g1,e1,e2,cX]
theorem ag8{c:Nat}{rows:List (List (Int × Int))}{i:Nat}(hb:Bk c rows)(hi:i<c):zY [aN rows,iT i]=.ok (.non,false):=by
 obtain⟨h1,h2,h3,h4,h5⟩:=id hb
 obtain⟨l,hl0⟩:∃l,rows[0]?=some l:=⟨_,List.getElem?_eq_getElem (by omega)⟩
 have e3:aB (aN rows) (.int 0)=.ok (aC l,false):=jR (i:=0) (by rw[List.getElem?_map,hl0]; rfl)
 have e4:=Gu l
 rw[(h5 l (List.mem_of_getElem? hl0)).1]at e4
 have e2:=Gf hi
 generalize aN rows=B,aC l=T,iT i=I,((c:Nat):Int)=N at *
 unfold zY VL aQ
 simp -dsimp[bA,drs,dr,aX,g1,e3,e4,e2,cX]
theorem ag9{S T:List Nat}(h:S.Perm T):inB S=inB T:=by
 funext o
 rw[Bool.eq_iff_iff,jB,jB]
 exact h.mem_iff
theorem Bg{c:Nat}{S T:List Nat}(h:S.Perm T)(V:Nat->Int × Int)(i:Nat)(v:Int × Int):gZ c S V i v=gZ c T V i v:=by
 unfold gZ rv
 rw[ag9 h]
theorem Rm.perm{c:Nat}{r:Ru}{xs:List (Int × Int)}{p:Nat}{V:Nat->Int × Int}{S T:List Nat}{i:Nat}{here lo hi:Int × Int}(h:S.Perm T)(q:Rm c r xs p V S i here lo hi):Rm c r xs p V T i here lo hi:=by
 obtain⟨a1,a2,a3,a4,a5,a6,a7,a8,a9⟩:=q
 refine⟨a1,a2,a3,a4,a5,λv hv=>?_,λv hv=>?_,λn w v pw lw hv=>?_,λn w v pw lw hv=>?_⟩
 ·rw[<-Bg h]; exact a6 v hv
 ·rw[<-Bg h]; exact a7 v hv
 ·rw[<-Bg h]; exact a8 n w v pw lw hv
 ·rw[<-Bg h]; exact a9 n w v pw lw hv
theorem Oq{c k:Nat}{V:Nat->Int × Int}(hV:∀j,j<c->Fq 400 (V j)){zs:List Nat}(hp:zs.Perm (List.range c))(hs:zs.Pairwise (Bf V)):∀t∈zs.take k,∀o,o<c->o∉zs.take k->val (V o)<=val (V t):=λt mt o ho no=>by
 have mo:o∈zs:=hp.mem_iff.mpr (List.mem_range.mpr ho)
 rw[<-List.take_append_drop k zs]at mo hs
 have md:o∈zs.drop k:=(List.mem_append.mp mo).resolve_left no
 have ht:t<c:=List.mem_range.mp (hp.mem_iff.mp (List.mem_of_mem_take mt))
 have b:=(Gw (hV t ht).2.2.1 (hV o ho).2.2.1).mp ((List.pairwise_append.mp hs).2.2 t mt o md)
 grind
theorem Yo{c:Nat}{T:List Nat}{V:Nat->Int × Int}{i:Nat}(hi:i<c)(h:∀t∈T,∀o,o<c->o∉T->val (V o)<=val (V t))(hT:∀t∈T,t<c):gZ c T V i (V i):=by
 unfold gZ
 split
 ·rename_i z
  intro o mo
  obtain⟨m1,m2⟩:=List.mem_filter.mp mo
  rw[z]at m2
  refine h i (jB.mp z) o (List.mem_range.mp m1) λq=>?_
  rw[jB.mpr q]at m2
  cases m2
 ·rename_i z
  intro o mo
  obtain⟨m1,m2⟩:=List.mem_filter.mp mo
  have zf:inB T i=false:=by simpa using z
  rw[zf]at m2
  have io:inB T o=true:=by
   cases q:inB T o with
   |true=>rfl
   |false=>rw[q]at m2; cases m2
  exact h o (jB.mp io) i hi λq=>z (jB.mpr q)
theorem aha{c k:Nat}{rows:List (List (Int × Int))}{r:Ru}{V:Nat->Int × Int}{zs:List Nat}{p i:Nat}{here:Int × Int}(hb:Bk c rows)(ho:fM rows.length r)(f:Fd c rows r V zs)(hk:k<=c)(hp:p<rows.length)(hi:i<c)(hh:(col rows i)[p]?=some here) :
  ∃lo hi',xu [aN rows,aU r,iT k,iT p,iT i]=.ok (.tup [fT lo,fT hi'],false)/\Rm c r (col rows i) p V (zs.take k) i here lo hi':=by
 obtain⟨h1,h2,h3,h4,h5⟩:=id hb
 have hlen:Len c rows:=λl m=>(h5 l m).1
 have zl:zs.length=c:=by simpa using f.pm.length_eq
 have hT:∀t∈zs.take k,t<c:=λt m=>List.mem_range.mp (f.pm.mem_iff.mp (List.mem_of_mem_take m))
 obtain⟨S,eS,pS⟩:=ag7 (V:=V) (zs:=zs) (k:=k) (by omega) (f.few k hk)
 have bw:lG [aN rows,aU r]=.ok (vT V c,true):=by
  have lc:∀j,(col rows j).length=rows.length:=pK rows
  refine N5 hlen h1 (by omega) h4 λj hj=>?_
  obtain⟨v,e,wv⟩:=Nr (r:=r) (n6 h5 hj) (by rw[lc]; exact h1) (by rw[lc]; omega) (by rw[lc]; exact ho)
  rw[e,wv.uniq (n6 h5 hj) (f.wv j hj)]
 have ok:gZ c S V i (V i):=by
  rw[Bg pS]
  exact Yo hi (Oq f.fq f.pm f.sr) hT
 obtain⟨lo,hi',er,q⟩:=ag5 hb ho f.fq f.wv bw hp hi hh ok
 refine⟨lo,hi',?_,q.perm pS⟩
 have n1:=XH hb ho hk
 have n2:=Wz hp
 have n3:=ag8 hb hi
 have n1:qQ [aN rows,aU r,iT k]=.ok (.non,false):=n1
 generalize Tr.tup [fT lo,fT hi']=X,nT S=Z,aN rows=B,aU r=R,iT k=N,iT p=P,iT i=I at *
 unfold xu Ky aQ
 simp -dsimp[bA,drs,dr,aX,n1,n2,n3,eS,er]
end K57
end
section
namespace K57
open PySem L2 BH
def mw(x:Int × Int):Nat:=if Wo x then 45 else 3300
theorem Yp(m:Int × Int->Nat):∀(xs:List (Int × Int)) (p:Nat) (w:Int × Int),tot m (xs.set p w)<=tot m xs+(m w+46)
 | [],p,w=>by show tot m []<=_; omega
 |x::xs,0,w=>by
  show m w+46+tot m xs<=m x+46+tot m xs+_
  omega
 |x::xs,p+1,w=>by
  have:=Yp m xs p w
  show m x+46+tot m (xs.set p w)<=m x+46+tot m xs+_
  omega
theorem Ot:∀(xs:List (Int × Int)),(∀x∈xs,Wo x)->tot mw xs=91*xs.length
 | [],_=>rfl
 |x::xs,h=>by
  have:=Ot xs λy m=>h y (by simp[m])
  have e:mw x=45:=if_pos (h x (by simp))
  show mw x+46+tot mw xs=_
  rw[this,e,List.length_cons]
  omega
theorem ahb{xs:List (Int × Int)}(h:∀x∈xs,Wo x)(hl:xs.length<=4):Bd mw xs:=⟨λx m=>by
 have e:mw x=45:=if_pos (h x m)
 rw[e]
 exact⟨(h x m).fq,by omega⟩,by rw[Ot xs h]; omega⟩
theorem ahc{xs:List (Int × Int)}{p:Nat}{w:Int × Int}(h:∀x∈xs,Wo x)(hl:xs.length<=4)(hw:Fq 3300 w):Bd mw (xs.set p w):=by
 have le:mw w<=3300:=by unfold mw; split <;> omega
 refine⟨λx m=>?_,?_⟩
 ·by_cases z:Wo x
  ·have e:mw x=45:=if_pos z
   rw[e]
   exact⟨z.fq,by omega⟩
  ·have e:mw x=3300:=if_neg z
   rw[e]
   refine⟨?_,by omega⟩
   rcases List.mem_or_eq_of_mem_set m with m|rfl
   ·exact absurd (h x m) z
   ·exact hw
 ·have:=Yp mw xs p w
  have:=Ot xs h
  omega
def up1(V:Nat->Int × Int)(i:Nat)(v:Int × Int):Nat->Int × Int:=λj=>if j=i then v else V j
theorem Yq{c:Nat}{rows:List (List (Int × Int))}{r:Ru}{V:Nat->Int × Int}(hb:Bk c rows)(ho:fM rows.length r)(Bc:∀j,j<c->Wv r (col rows j) (V j)):∀j,j<c->nU [aU r,aC (col rows j)]=.ok (fT (V j),false):=λj hj=>by
 obtain⟨h1,h2,h3,h4,h5⟩:=id hb
 have lc:=pK rows j
 obtain⟨v,e,wv⟩:=Xq (ahb (n6 h5 hj) (by omega)) (by omega) (by omega) (by rw[lc]; exact ho)
 rw[e,wv.uniq (n6 h5 hj) (Bc j hj)]
theorem ahd{c:Nat}{rows:List (List (Int × Int))}{r:Ru}{V:Nat->Int × Int}{T:List Nat}{p i:Nat}{w:Int × Int}(hb:Bk c rows)(ho:fM rows.length r)(hV:∀j,j<c->Fq 400 (V j))(Bc:∀j,j<c->Wv r (col rows j) (V j))(hT:∀t∈T,t<c)(hp:p<rows.length)(hi:i<c)(hw:Fq 3300 w) :
  ∃v,Wv r ((col rows i).set p w) v/\Fq 4000 v/\kY [aN rows,iT p,iT i,fT w]=.ok (aN (mv rows p i w),true)/\jz [aN (mv rows p i w),aU r,nT T]=.ok (.bl (yr c T (up1 V i v)),false):=by
 obtain⟨h1,h2,h3,h4,h5⟩:=id hb
 have hlen:Len c rows:=λl m=>(h5 l m).1
 have lc:=pK rows i
 have bd:=ahc (p:=p) (n6 h5 hi) (by omega) hw
 have ls:((col rows i).set p w).length=rows.length:=by rw[List.length_set,lc]
 have ho':fM ((col rows i).set p w).length r:=by rw[ls]; exact ho
 obtain⟨v,e,wv⟩:=Xq bd (by omega) (by omega) ho'
 have fv:=agx bd ho' wv
 refine⟨v,wv,fv,agP h2 hlen hp hi,agG (λj hj=>?_) h4 hT (XJ (agQ hlen hp) (by rw[X8]; exact h1) (by rw[X8]; omega) h4 λj hj=>?_)⟩
 ·unfold up1
  split
  ·exact fv
  ·exact(hV j hj).up (by omega)
 ·rw[agR hlen hp hi]
  unfold up1
  split
  ·exact e
  ·exact Yq hb ho Bc j hj
theorem ahe{c:Nat}{T:List Nat}{V:Nat->Int × Int}{i:Nat}{v:Int × Int}{M:Nat}(hV:∀j,j<c->Fq 400 (V j))(hv:Fq M v)(hi:i<c)(hT:∀t∈T,t<c)(h:∀t∈T,∀o,o<c->o∉T->val (V o)<=val (V t)):yr c T (up1 V i v)=true↔gZ c T V i v:=by
 have pos:∀j,j<c->1<=(up1 V i v j).2:=λj hj=>by
  unfold up1
  split
  ·exact hv.2.2.1
  ·exact(hV j hj).2.2.1
 have e1:yr c T (up1 V i v)=true↔∀t∈T,∀o,o<c->o∉T->val (up1 V i v o)<=val (up1 V i v t):=by
  unfold yr
  rw[Bool.not_eq_true',List.any_eq_false]
  constructor
  ·intro q t mt o ho no
   have q1:=q t mt
   rw[Bool.not_eq_true,List.any_eq_false]at q1
   have q2:=q1 o (List.mem_range.mpr ho)
   unfold bad at q2
   have nb:inB T o=false:=by
    cases z:inB T o with
    |false=>rfl
    |true=>exact absurd (jB.mp z) no
   unfold inB at nb
   rw[nb]at q2
   have q3:fB (up1 V i v t) (up1 V i v o)=false:=by simpa using q2
   exact(jA (pos o ho) (pos t (hT t mt))).mp (sW.mp q3)
  ·intro q t mt
   rw[Bool.not_eq_true,List.any_eq_false]
   intro o mo
   unfold bad
   cases z:inB T o with
   |true=>unfold inB at z; rw[z]; simp
   |false =>
    have no:o∉T:=λm=>by rw[jB.mpr m]at z; cases z
    have ho:=List.mem_range.mp mo
    have:=sW.mpr ((jA (pos o ho) (pos t (hT t mt))).mpr (q t mt o ho no))
    rw[this]
    simp
 rw[e1]
 have GR:up1 V i v i=v:=if_pos rfl
 have yC:∀j,j≠i->up1 V i v j=V j:=λj n=>if_neg n
 unfold gZ
 constructor
 ·intro q
  split
  ·rename_i z
   intro o mo
   obtain⟨m1,m2⟩:=List.mem_filter.mp mo
   rw[z]at m2
   have no:o∉T:=λm=>by rw[jB.mpr m]at m2; cases m2
   have ni:o≠i:=λe=>no (e▸jB.mp z)
   have:=q i (jB.mp z) o (List.mem_range.mp m1) no
   rw[GR,yC o ni]at this
   exact this
  ·rename_i z
   intro o mo
   obtain⟨m1,m2⟩:=List.mem_filter.mp mo
   have zf:inB T i=false:=by simpa using z
   rw[zf]at m2
   have io:inB T o=true:=by
    cases q:inB T o with
    |true=>rfl
    |false=>rw[q]at m2; cases m2
   have ni:o≠i:=λe=>by rw[e,zf]at io; cases io
   have:=q o (jB.mp io) i hi λm=>z (jB.mpr m)
   rw[GR,yC o ni]at this
   exact this
 ·intro q t mt o ho no
  by_cases ti:t=i
  ·subst ti
   have z:inB T t=true:=jB.mpr mt
   rw[if_pos z]at q
   have ni:o≠t:=λe=>no (e▸mt)
   rw[GR,yC o ni]
   refine q o (List.mem_filter.mpr ⟨List.mem_range.mpr ho,?_⟩)
   have:inB T o=false:=by
    cases q:inB T o with
    |false=>rfl
    |true=>exact absurd (jB.mp q) no
   rw[this,z]
   rfl
  ·by_cases oi:o=i
   ·subst oi
    have z:inB T o=false:=by
     cases q:inB T o with
     |false=>rfl
     |true=>exact absurd (jB.mp q) no
    rw[if_neg (by rw[z]; simp)]at q
    rw[GR,yC t ti]
    refine q t (List.mem_filter.mpr ⟨List.mem_range.mpr (hT t mt),?_⟩)
    rw[jB.mpr mt,z]
    rfl
   ·rw[yC o oi,yC t ti]
    exact h t mt o ho no
theorem ahf{h:Int × Int}{M:Nat}(hh:Fq M h)(hM:M<=7000)(l:val h<=1):∃d,jP [fT (1,1),fT (0-h.1,h.2)]=.ok (fT d,false)/\Fq M d/\val d=1-val h:=by
 have e:=val_mul hh.2.2.1
 have p:=ipos hh.2.2.1
 have le:=(jA (x:=h) (y:=(1,1)) hh.2.2.1 (by decide)).mpr (by rw[iI]; exact l)
 unfold le2 at le
 obtain⟨h1,h2,h3,h4,h5⟩:=hh
 have le:h.1<=h.2:=by simpa using le
 have nM:=gF M
 have q:=Ao (a:=h.2+(0-h.1)) (b:=h.2) (M:=M) h3 h4 (by omega)
 refine⟨red (h.2+(0-h.1)) h.2,?_,xT (by omega) (by omega) h3 h4,?_⟩
 ·have t1:tiny 1=true:=rfl
  have c1:∀n,cW 1 n=true:=λn=>by unfold cW; rw[t1]; simp
  have c2:∀n,cW n 1=true:=λn=>by unfold cW; rw[t1]; simp
  unfold jP Fv aQ
  generalize fT (red (h.2+(0-h.1)) h.2)=R at *
  unfold fT
  generalize 0-h.1=A at *
  simp -dsimp[dr,drs,cB,bU,aB,aX,dX,eH,bA,c1,c2,q,Int.one_mul,Int.mul_one]
 ·rw[Ay h3,Rat.intCast_add,show(0-h.1:Int) = -h.1 by omega,Rat.intCast_neg,<-e]
  have p0:(h.2:Rat)≠0:=by grind
  rw[show(h.2:Rat) + -(val h*(h.2:Rat))=(1-val h)*(h.2:Rat) by grind]
  exact Rat.mul_div_cancel p0
theorem ahg{x:Int × Int}{M:Nat}(h:Fq M x)(n:x≠(0,1)):0<val x:=by
 have a:=Ny h.1 h.2.2.1
 refine Classical.byContradiction λz=>n ?_
 have e:val x=val (0,1):=by rw[lJ]; grind
 exact val_inj h vC e
theorem ahh{x:Int × Int}{M:Nat}(h:Fq M x)(n:x≠(1,1))(l:val x<=1):val x<1:=by
 refine Classical.byContradiction λz=>n ?_
 have e:val x=val (1,1):=by rw[iI]; grind
 exact val_inj h vD e
end K57
end
section
namespace K57
open PySem L2 BH
def Ou:EF:=(cD [none] (bQ (aj 5)) (gN 0) cH (aK sS (ak (aj 0) au)))
def q1:SF:=(bY (f9 (dU (cL (iK .tuple (aj 5)))) (f9 (bV (aq dO (bF (g1 bK) (ak (aj 5) au)) (eC (.int 2)))) (dU (cL (bF (g1 gA) (ak Ou au)))))) (aY (eC (.bl false))) bW)
def q2:SF:=(aW (aj 5) (gT 2 (bL (gN 6) (bL (gN 7) dD))))
def q3:SF:=(aW (aq aB (aq aB (aj 0) (aj 3)) (aj 4)) (gN 8))
noncomputable def q4:SF:=(bY (f9 (cL (aK fY (ak (aj 6) (ak (eC (.tup [.int 0,.int 1])) au)))) (f9 (cL (aK fY (ak (eC (.tup [.int 1,.int 1])) (ak (aj 7) au)))) (f9 (cL (aK fY (ak (aj 8) (ak (aj 6) au)))) (cL (aK fY (ak (aj 7) (ak (aj 8) au))))))) (aY (eC (.bl false))) bW)
def q5:SF:=(aW (aK vg (ak (aj 0) (ak (aj 1) (ak (aj 2) au)))) (gN 9))
def b6:SF:=(bY (dU (cL (aK jz (ak (aK kY (ak (aj 0) (ak (aj 3) (ak (aj 4) (ak (aj 10) au))))) (ak (aj 1) (ak (aj 9) au)))))) (aY (eC (.bl false))) bW)
def q6:SF:=(bZ (cO (bQ (jk (ak (aj 6) (ak (aj 7) (ak (aj 8) au))))) (gN 10) b6))
def Ov:SF:=(aW (aK jQ (ak (aj 6) (ak (aj 11) au))) (gN 12))
noncomputable def Ow:SF:=(aW (aK jP (ak (aj 7) (ak (aK jQ (ak (aK jP (ak (eC (.tup [.int 1,.int 1])) (ak (eY (ak (aq fD (eC (.int 0)) (aq aB (aj 7) (eC (.int 0)))) (ak (aq aB (aj 7) (eC (.int 1))) au))) au))) (ak (eY (ak (aq fD (aq aB (aj 11) (eC (.int 1))) (aq aB (aj 11) (eC (.int 0)))) (ak (aq aB (aj 11) (eC (.int 1))) au))) au))) au))) (gN 13))
def hB:SF:=(aG (aW (aK kY (ak (aj 0) (ak (aj 3) (ak (aj 4) (ak (aj 10) au))))) (gN 16)) (bY (oO (bV (aq dO (aj 14) (aj 15))) (cL (aK jz (ak (aj 16) (ak (aj 1) (ak (aj 9) au)))))) (aY (eC (.bl false))) bW))
def GX:GF:=(gT 3 (bL (gN 14) (bL (gN 15) (bL (gN 10) dD))))
def Yr:SF:=(cO (bQ (jk (ak (eY (ak (aj 6) (ak (eC (.tup [.int 0,.int 1])) (ak (aj 12) au)))) (ak (eY (ak (aj 7) (ak (eC (.tup [.int 1,.int 1])) (ak (aj 13) au)))) au)))) GX hB)
def b7:SF:=(aG Ov (aG Ow Yr))
def q7:SF:=(bZ (cO (bQ (nu [.tup [.int 1,.int 2],.tup [.int 9,.int 10],.tup [.int 999999,.int 1000000]])) (gN 11) b7))
section
variable {B R N P I LO HI HE TH W M E Z:Tr}
theorem ahi{x y:Int × Int}{A C:Nat}(hx:Fq A x)(hy:Fq C y)(s0 s1 s2 s3 s4:Sl)(τ : En):q1 (s0::s1::s2::s3::s4 :: .sh (.tup [fT x,fT y])::τ)=.ok (.nx,s0::s1::s2::s3::s4 :: .sh (.tup [fT x,fT y])::τ):=by
 have ex:=X6 hx
 have ey:=X6 hy
 have e1:Ou (s0::s1::s2::s3::s4 :: .sh (.tup [fT x,fT y])::τ)=.ok (.v (.lst [.bl true,.bl true]) true,s0::s1::s2::s3::s4 :: .sh (.tup [fT x,fT y])::τ):=by
  have:=sV (r:=fT) (h:=λ_=>Tr.bl true) (xs:=[x,y]) (ρ := s0::s1::s2::s3::s4 :: .sh (.tup [fT x,fT y])::τ) (rest:=[]) (i:=bQ (aj 5)) (fe:=(aK sS (ak (aj 0) au))) (by simp) rfl rfl (λs'=>rfl) (λs'=>rfl) (λz m=>⟨false,by
   have ez:sS [fT z]=.ok (.bl true,false):=by
    rcases List.mem_cons.mp m with rfl|m
    ·exact ex
    ·rw[List.mem_singleton.mp m]; exact ey
   generalize fT z=Z at *
   simp -dsimp[drs,dr,aX,ez]⟩)
  exact this
 have ea:gA (.lst [.bl true,.bl true])=.ok (.bl true,false):=rfl
 have el:bK (.tup [fT x,fT y])=.ok (.int 2,false):=rfl
 have ei:iy (.tup [fT x,fT y]) .tuple=true:=rfl
 have en:dO (.int 2) (.int 2)=.ok (.bl false,false):=rfl
 unfold q1
 generalize Ou=G at e1 ⊢
 generalize Tr.tup [fT x,fT y]=T,Tr.lst [.bl true,.bl true]=L at *
 simp -dsimp[drs,dr,aX,eB,ei,cX,g1,el,en,bO,e1,ea]
theorem ahj{X Y:Tr}(h1:aB B P=.ok (X,false))(h2:aB X I=.ok (HE,false))(s1 s2 s5 s6 s7 s8:Sl)(τ : En):q3 (.sh B::s1::s2 :: .sh P :: .sh I::s5::s6::s7::s8::τ)=.ok (.nx,.sh B::s1::s2 :: .sh P :: .sh I::s5::s6::s7 :: .sh HE::τ):=by
 unfold q3
 simp -dsimp[drs,dr,aX,cls,h1,h2]
theorem ahk(h1:fY [LO,.tup [.int 0,.int 1]]=.ok (.bl false,false))(h2:fY [.tup [.int 1,.int 1],HI]=.ok (.bl false,false))(h3:fY [HE,LO]=.ok (.bl false,false))(h4:fY [HI,HE]=.ok (.bl false,false))(s0 s1 s2 s3 s4 s5:Sl)(τ : En):q4 (s0::s1::s2::s3::s4::s5 :: .sh LO :: .sh HI :: .sh HE::τ)=.ok (.nx,s0::s1::s2::s3::s4::s5 :: .sh LO :: .sh HI :: .sh HE::τ):=by
 unfold q4
 simp -dsimp[drs,dr,aX,h1,h2,h3,h4,cX]
theorem ahl(h:vg [B,R,N]=.ok (TH,true))(s3 s4 s5 s6 s7 s8 s9:Sl)(τ : En):q5 (.sh B :: .sh R :: .sh N::s3::s4::s5::s6::s7::s8::s9::τ)=.ok (.nx,.sh B :: .sh R :: .sh N::s3::s4::s5::s6::s7::s8 :: .sh TH::τ):=by
 unfold q5
 simp -dsimp[drs,dr,aX,cls,h]
theorem ahm(h1:kY [B,P,I,W]=.ok (M,true))(h2:jz [M,R,TH]=.ok (.bl true,false))(s2 s5 s6 s7 s8:Sl)(τ : En):b6 (.sh B :: .sh R::s2 :: .sh P :: .sh I::s5::s6::s7::s8 :: .sh TH :: .sh W::τ)=.ok (.nx,.sh B :: .sh R::s2 :: .sh P :: .sh I::s5::s6::s7::s8 :: .sh TH :: .sh W::τ):=by
 unfold b6
 simp -dsimp[drs,dr,aX,h1,h2,cX]
theorem Ys(s2 s5 s6 s7 s8:Sl)(τ : En):∀(ws:List Tr) (bM:Sl),(∀W∈ws,∃M,kY [B,P,I,W]=.ok (M,true)/\jz [M,R,TH]=.ok (.bl true,false))->∃t10,cM (gN 10) b6 ws (.sh B :: .sh R::s2 :: .sh P :: .sh I::s5::s6::s7::s8 :: .sh TH::bM::τ)=.ok (.nx,.sh B :: .sh R::s2 :: .sh P :: .sh I::s5::s6::s7::s8 :: .sh TH::t10::τ)
 | [],bM,_=>⟨bM,rfl⟩
 |W::ws,bM,h=>by
  obtain⟨M,h1,h2⟩:=h W (by simp)
  have e:=ahm h1 h2 s2 s5 s6 s7 s8 τ
  obtain⟨t10,e'⟩:=Ys s2 s5 s6 s7 s8 τ ws (.sh W) λX m=>h X (by simp[m])
  refine⟨t10,?_⟩
  exact xR e e'
theorem ahn{b:Bool}(h1:kY [B,P,I,W]=.ok (M,true))(h2:dO E Z=.ok (.bl b,false))(h3:b=true->jz [M,R,TH]=.ok (.bl false,false))(s2 s5 s6 s7 s8 gj s12 g8 gO:Sl):hB [.sh B,.sh R,s2,.sh P,.sh I,s5,s6,s7,s8,.sh TH,.sh W,gj,s12,g8,.sh E,.sh Z,gO]=.ok (.nx,[.sh B,.sh R,s2,.sh P,.sh I,s5,s6,s7,s8,.sh TH,.sh W,gj,s12,g8,.sh E,.sh Z,.sh M]):=by
 unfold hB
 cases b with
 |false=>simp -dsimp[drs,dr,aX,cls,h1,h2,bO]
 |true =>
  have h3:=h3 rfl
  simp -dsimp[drs,dr,aX,cls,h1,h2,h3,bO,cX]
theorem Yt{b:Bool}(h1:kY [B,P,I,W]=.ok (M,true))(h2:dO E Z=.ok (.bl b,false))(h3:b=true->jz [M,R,TH]=.ok (.bl false,false))(us:List Tr)(s2 s5 s6 s7 s8 bM gj s12 g8 iM iQ gO:Sl):cM GX hB (.tup [E,Z,W]::us) [.sh B,.sh R,s2,.sh P,.sh I,s5,s6,s7,s8,.sh TH,bM,gj,s12,g8,iM,iQ,gO]=cM GX hB us [.sh B,.sh R,s2,.sh P,.sh I,s5,s6,s7,s8,.sh TH,.sh W,gj,s12,g8,.sh E,.sh Z,.sh M]:=by
 conv=>lhs; unfold cM
 rw[show GX (.tup [E,Z,W]) [.sh B,.sh R,s2,.sh P,.sh I,s5,s6,s7,s8,.sh TH,bM,gj,s12,g8,iM,iQ,gO]=.ok [.sh B,.sh R,s2,.sh P,.sh I,s5,s6,s7,s8,.sh TH,.sh W,gj,s12,g8,.sh E,.sh Z,gO]from rfl]
 simp only[Rs.dF]
 rw[ahn h1 h2 h3]
 rfl
theorem aho{X Y:Tr}(h:jQ [LO,X]=.ok (Y,false))(s0 s1 s2 s3 s4 s5 s7 s8 s9 bM s12 g8 iM iQ gO:Sl):Ov [s0,s1,s2,s3,s4,s5,.sh LO,s7,s8,s9,bM,.sh X,s12,g8,iM,iQ,gO]=.ok (.nx,[s0,s1,s2,s3,s4,s5,.sh LO,s7,s8,s9,bM,.sh X,.sh Y,g8,iM,iQ,gO]):=by
 unfold Ov
 simp -dsimp[drs,dr,aX,cls,h]
theorem ahp{X D K L:Tr}{h1 h2 a b:Int}(e1:aB HI (.int 0)=.ok (.int h1,false))(e2:aB HI (.int 1)=.ok (.int h2,false))(e3:aB X (.int 0)=.ok (.int a,false))(e4:aB X (.int 1)=.ok (.int b,false))(e5:jP [.tup [.int 1,.int 1],.tup [.int (0-h1),.int h2]]=.ok (D,false))(e6:jQ [D,.tup [.int (b-a),.int b]]=.ok (K,false))(e7:jP [HI,K]=.ok (L,false))(s0 s1 s2 s3 s4 s5 s6 s8 s9 bM s12 g8 iM iQ gO:Sl):Ow [s0,s1,s2,s3,s4,s5,s6,.sh HI,s8,s9,bM,.sh X,s12,g8,iM,iQ,gO]=.ok (.nx,[s0,s1,s2,s3,s4,s5,s6,.sh HI,s8,s9,bM,.sh X,s12,.sh L,iM,iQ,gO]):=by
 have g1:fD (.int 0) (.int h1)=.ok (.int (0-h1),false):=rfl
 have g2:fD (.int b) (.int a)=.ok (.int (b-a),false):=rfl
 unfold Ow
 generalize 0-h1=H1,b-a=BA at *
 simp -dsimp[drs,dr,aX,cls,e1,e2,e3,e4,g1,g2,e5,e6,e7]
end
end K57
end
section
namespace K57
open PySem L2 BH
theorem Yu(x y:Int × Int):∃b,dO (fT x) (fT y)=.ok (.bl b,false):=by
 unfold dO
 rw[if_pos ⟨by rw[Al]; omega,by rw[Al]; omega⟩]
 exact⟨_,rfl⟩
structure Kn(c k:Nat)(rows:List (List (Int × Int)))(r:Ru)(V:Nat->Int × Int)(zs:List Nat)(p i:Nat)(here lo hi:Int × Int):Prop where
 hb:Bk c rows
 ho:fM rows.length r
 f:Fd c rows r V zs
 hk:k<=c
 hp:p<rows.length
 hic:i<c
 hh:(col rows i)[p]?=some here
 rm:Rm c r (col rows i) p V (zs.take k) i here lo hi
section
variable {c k:Nat}{rows:List (List (Int × Int))}{r:Ru}{V:Nat->Int × Int}{zs:List Nat}{p i:Nat}{here lo hi:Int × Int}
theorem Kn.hT(q:Kn c k rows r V zs p i here lo hi):∀t∈zs.take k,t<c:=λt m=>List.mem_range.mp (q.f.pm.mem_iff.mp (List.mem_of_mem_take m))
theorem Kn.best(q:Kn c k rows r V zs p i here lo hi){w:Int × Int}(hw:Fq 3300 w):∃M v,Wv r ((col rows i).set p w) v/\kY [aN rows,iT p,iT i,fT w]=.ok (M,true)/\∃b:Bool,jz [M,aU r,nT (zs.take k)]=.ok (.bl b,false)/\(b=true↔gZ c (zs.take k) V i v):=by
 obtain⟨v,wv,fv,e1,e2⟩:=ahd q.hb q.ho q.f.fq q.f.wv q.hT q.hp q.hic hw
 exact⟨_,v,wv,e1,_,e2,ahe q.f.fq fv q.hic q.hT (Oq q.f.fq q.f.pm q.f.sr)⟩
theorem Kn.hw(q:Kn c k rows r V zs p i here lo hi):Wo here:=n6 q.hb.2.2.2.2 q.hic here (List.mem_of_getElem? q.hh)
theorem Kn.b7(q:Kn c k rows r V zs p i here lo hi){a b:Int}(hx:Fq 20 (a,b))(hy:Fq 20 (b-a,b))(ha:1<=a)(hab:a<b)(s2 s5 s8 bM s12 g8 iM iQ gO:Sl):∃t10 Bh Bj Bl Bm Bo,b7 [.sh (aN rows),.sh (aU r),s2,.sh (iT p),.sh (iT i),s5,.sh (fT lo),.sh (fT hi),s8,.sh (nT (zs.take k)),bM,.sh (fT (a,b)),s12,g8,iM,iQ,gO]=.ok (.nx,[.sh (aN rows),.sh (aU r),s2,.sh (iT p),.sh (iT i),s5,.sh (fT lo),.sh (fT hi),s8,.sh (nT (zs.take k)),t10,.sh (fT (a,b)),Bh,Bj,Bl,Bm,Bo]):=by
 obtain⟨lq,hq,hb1,hl,hh,Od,Oe,Og,Oh⟩:=q.rm
 have pb:=ipos (b:=b) (by omega)
 have vx:val (a,b)=(a:Rat) / (b:Rat):=rfl
 have v1:val (a,b)<1:=by
  have:=(yj (x:=(a,b)) (y:=(1,1)) (by show 1<=b; omega) (by decide)).mp (by unfold fB; simp; omega)
  rw[iI]at this
  exact this
 have vy:0<val (b-a,b):=by
  have:=(yj (x:=(0,1)) (y:=(b-a,b)) (by decide) (by show 1<=b; omega)).mp (by unfold fB; simp; omega)
  rw[lJ]at this
  exact this
 have e1:=Gp lq hx (by omega)
 have lf:=nZ lq hx
 obtain⟨d,e5,df,dv⟩:=ahf hq (by omega) hb1
 have e6:=Gp df hy (by omega)
 have kf:=nZ df hy
 have e7:=Xf hq kf (by omega)
 have mf:=Gj hq kf
 obtain⟨M1,w1,wv1,m1,x1,be1,i1⟩:=q.best (lf.up (N:=3300) (by omega))
 obtain⟨M2,w2,wv2,m2,x2,be2,i2⟩:=q.best (mf.up (N:=3300) (by omega))
 obtain⟨n1,ne1⟩:=Yu lo (0,1)
 obtain⟨n2,ne2⟩:=Yu hi (1,1)
 have k1:n1=true->jz [M1,aU r,nT (zs.take k)]=.ok (.bl false,false):=λz=>by
  have nl:lo≠(0,1):=λe=>by
   rw[e,Gh (by rw[Al]; omega)]at ne1
   cases ne1
   cases z
  have vl:=ahg lq nl
  have lt:val (dH lo (a,b))<val lo:=by
   rw[sZ lq.2.2.1 (by show 1<=b; omega)]
   have:=Rat.mul_lt_mul_of_pos_left v1 vl
   grind
  cases x1 with
  |false=>exact be1
  |true=>exact absurd (i1.mp rfl) (Og nl _ _ (vK lf) lt wv1)
 have k2:n2=true->jz [M2,aU r,nT (zs.take k)]=.ok (.bl false,false):=λz=>by
  have nh:hi≠(1,1):=λe=>by
   rw[e,Gh (by rw[Al]; omega)]at ne2
   cases ne2
   cases z
  have vh:=ahh hq nh hb1
  have lt:val hi<val (sumF hi (dH d (b-a,b))):=by
   rw[Gs hq.2.2.1 kf.2.2.1,sZ df.2.2.1 (by show 1<=b; omega),dv]
   have:=Rat.mul_pos (show 0<1-val hi by grind) vy
   grind
  cases x2 with
  |false=>exact be2
  |true=>exact absurd (i2.mp rfl) (Oh nh _ _ (vK mf) lt wv2)
 have s1:=aho e1 (.sh (aN rows)) (.sh (aU r)) s2 (.sh (iT p)) (.sh (iT i)) s5 (.sh (fT hi)) s8 (.sh (nT (zs.take k))) bM s12 g8 iM iQ gO
 have s2':=ahp (HI:=fT hi) (X:=fT (a,b)) (h1:=hi.1) (h2:=hi.2) (a:=a) (b:=b) rfl rfl rfl rfl e5 e6 e7 (.sh (aN rows)) (.sh (aU r)) s2 (.sh (iT p)) (.sh (iT i)) s5 (.sh (fT lo)) s8 (.sh (nT (zs.take k))) bM (.sh (fT (dH lo (a,b)))) g8 iM iQ gO
 refine⟨.sh (fT (sumF hi (dH d (b-a,b)))),.sh (fT (dH lo (a,b))),.sh (fT (sumF hi (dH d (b-a,b)))),.sh (fT hi),.sh (fT (1,1)),.sh M2,?_⟩
 unfold K57.b7
 refine(sq s1).trans ((sq s2').trans ?_)
 unfold Yr cO
 have ei:bQ (jk (ak (eY (ak (aj 6) (ak (eC (.tup [.int 0,.int 1])) (ak (aj 12) au)))) (ak (eY (ak (aj 7) (ak (eC (.tup [.int 1,.int 1])) (ak (aj 13) au)))) au))) [.sh (aN rows),.sh (aU r),s2,.sh (iT p),.sh (iT i),s5,.sh (fT lo),.sh (fT hi),s8,.sh (nT (zs.take k)),bM,.sh (fT (a,b)),.sh (fT (dH lo (a,b))),.sh (fT (sumF hi (dH d (b-a,b)))),iM,iQ,gO]=.ok ([.tup [fT lo,fT (0,1),fT (dH lo (a,b))],.tup [fT hi,fT (1,1),fT (sumF hi (dH d (b-a,b)))]],[.sh (aN rows),.sh (aU r),s2,.sh (iT p),.sh (iT i),s5,.sh (fT lo),.sh (fT hi),s8,.sh (nT (zs.take k)),bM,.sh (fT (a,b)),.sh (fT (dH lo (a,b))),.sh (fT (sumF hi (dH d (b-a,b)))),iM,iQ,gO]):=by
  have z0:Tr.tup [.int 0,.int 1]=fT (0,1):=rfl
  have z1:Tr.tup [.int 1,.int 1]=fT (1,1):=rfl
  rw[z0,z1]
  generalize fT lo=A1
  generalize fT hi=A2
  generalize fT (dH lo (a,b))=A3
  generalize fT (sumF hi (dH d (b-a,b)))=A4
  generalize fT (a,b)=A5
  generalize fT (0,1)=A6
  generalize fT (1,1)=A7
  generalize aN rows=A8
  generalize aU r=A9
  generalize iT p=A10
  generalize iT i=A11
  generalize nT (zs.take k)=A12
  simp -dsimp[drs,dr,aX,cls,oW]
 rw[ei]
 simp only[Rs.dF]
 rw[Yt m1 ne1 k1,Yt m2 ne2 k2]
 rfl
theorem Kn.Yv(q:Kn c k rows r V zs p i here lo hi)(s2 s5 s8:Sl):∀(ps:List (Int × Int)) (bM gj s12 g8 iM iQ gO:Sl),(∀x∈ps,Fq 20 x/\Fq 20 (x.2-x.1,x.2)/\1<=x.1/\x.1<x.2)->∃t10 t11 Bh Bj Bl Bm Bo,cM (gN 11) K57.b7 (ps.map fT) [.sh (aN rows),.sh (aU r),s2,.sh (iT p),.sh (iT i),s5,.sh (fT lo),.sh (fT hi),s8,.sh (nT (zs.take k)),bM,gj,s12,g8,iM,iQ,gO]=.ok (.nx,[.sh (aN rows),.sh (aU r),s2,.sh (iT p),.sh (iT i),s5,.sh (fT lo),.sh (fT hi),s8,.sh (nT (zs.take k)),t10,t11,Bh,Bj,Bl,Bm,Bo])
 | [],bM,gj,s12,g8,iM,iQ,gO,_=>⟨bM,gj,s12,g8,iM,iQ,gO,rfl⟩
 |x::ps,bM,gj,s12,g8,iM,iQ,gO,h=>by
  obtain⟨a1,a2,a3,a4⟩:=h x (by simp)
  obtain⟨t10,Bh,Bj,Bl,Bm,Bo,e⟩:=q.b7 (a:=x.1) (b:=x.2) a1 a2 a3 a4 s2 s5 s8 bM s12 g8 iM iQ gO
  obtain⟨Bp,Bq,Ox,Oz,OD,OJ,u16,e'⟩:=Kn.Yv q s2 s5 s8 ps t10 (.sh (fT x)) Bh Bj Bl Bm Bo λy m=>h y (by simp[m])
  refine⟨Bp,Bq,Ox,Oz,OD,OJ,u16,?_⟩
  exact xR e e'
theorem Kn.good(q:Kn c k rows r V zs p i here lo hi):Af [aN rows,aU r,iT k,iT p,iT i,.tup [fT lo,fT hi]]=.ok (.bl true,false):=by
 obtain⟨lq,hq,hb1,hl,hh,Od,Oe,Og,Oh⟩:=q.rm
 obtain⟨h1,h2,h3,h4,h5⟩:=id q.hb
 have hlen:Len c rows:=λl m=>(h5 l m).1
 have wo:=q.hw
 have wq:=wo.fq
 have z0:Tr.tup [.int 0,.int 1]=fT (0,1):=rfl
 have z1:Tr.tup [.int 1,.int 1]=fT (1,1):=rfl
 have no:∀{x y:Int × Int} {A C:Nat},Fq A x->Fq C y->A+C<=8000->val y<=val x->fY [fT x,fT y]=.ok (.bl false,false):=λ{x y A C} hx hy hl h=>by
  rw[Gq hx hy hl,sW.mpr ((jA hy.2.2.1 hx.2.2.1).mpr h)]
 obtain⟨l,hl0⟩:∃l,rows[p]?=some l:=⟨_,List.getElem?_eq_getElem q.hp⟩
 have ml:=List.mem_of_getElem? hl0
 have g1:aB (aN rows) (iT p)=.ok (aC l,false):=jR (by rw[List.getElem?_map,hl0]; rfl)
 have eh:at2 l i=here:=by
  have:=q.hh
  unfold col at this
  rw[List.getElem?_map,hl0]at this
  exact Option.some.inj this
 have g2:aB (aC l) (iT i)=.ok (fT here,false):=by
  rw[<-eh]
  exact Nj (by rw[hlen l ml]; exact q.hic)
 have et:=XJ hlen h1 (by omega) h4 (Yq q.hb q.ho q.f.wv)
 have ef:=agN (k:=k) q.f.fq h4 q.f.pm q.f.sr et
 have vL:=ahi lq hq (.sh (aN rows)) (.sh (aU r)) (.sh (iT k)) (.sh (iT p)) (.sh (iT i)) [.un,.un,.un,.un,.un,.un,.un,.un,.un,.un,.un]
 have tB:q2 [.sh (aN rows),.sh (aU r),.sh (iT k),.sh (iT p),.sh (iT i),.sh (.tup [fT lo,fT hi]),.un,.un,.un,.un,.un,.un,.un,.un,.un,.un,.un]=.ok (.nx,[.sh (aN rows),.sh (aU r),.sh (iT k),.sh (iT p),.sh (iT i),.sh (.tup [fT lo,fT hi]),.sh (fT lo),.sh (fT hi),.un,.un,.un,.un,.un,.un,.un,.un,.un]):=rfl
 have yx:=ahj (Y:=.non) g1 g2 (.sh (aU r)) (.sh (iT k)) (.sh (.tup [fT lo,fT hi])) (.sh (fT lo)) (.sh (fT hi)) .un [.un,.un,.un,.un,.un,.un,.un,.un]
 have ahq:=ahk (LO:=fT lo) (HI:=fT hi) (HE:=fT here) (by rw[z0]; exact no lq vC (by omega) (by rw[lJ]; exact(vK lq).nn)) (by rw[z1]; exact no vD hq (by omega) (by rw[iI]; exact hb1)) (no wq lq (by omega) hl) (no hq wq (by omega) hh) (.sh (aN rows)) (.sh (aU r)) (.sh (iT k)) (.sh (iT p)) (.sh (iT i)) (.sh (.tup [fT lo,fT hi])) [.un,.un,.un,.un,.un,.un,.un,.un]
 have ahr:=ahl ef (.sh (iT p)) (.sh (iT i)) (.sh (.tup [fT lo,fT hi])) (.sh (fT lo)) (.sh (fT hi)) (.sh (fT here)) .un [.un,.un,.un,.un,.un,.un,.un]
 have six:∀w:Int × Int,Fq 3300 w->(∀v,Wv r ((col rows i).set p w) v->gZ c (zs.take k) V i v)->∃M,kY [aN rows,iT p,iT i,fT w]=.ok (M,true)/\jz [M,aU r,nT (zs.take k)]=.ok (.bl true,false):=λw fw h=>by
  obtain⟨M,v,wv,m,b,be,ib⟩:=q.best fw
  refine⟨M,m,?_⟩
  rw[be,ib.mpr (h v wv)]
 have okw:∀v,Wv r ((col rows i).set p here) v->gZ c (zs.take k) V i v:=λv hv=>by
  rw[Yk q.hh]at hv
  rw[hv.uniq (n6 h5 q.hic) (q.f.wv i q.hic)]
  exact Yo q.hic (Oq q.f.fq q.f.pm q.f.sr) q.hT
 obtain⟨t10,e6⟩:=Ys (B:=aN rows) (R:=aU r) (P:=iT p) (I:=iT i) (TH:=nT (zs.take k)) (.sh (iT k)) (.sh (.tup [fT lo,fT hi])) (.sh (fT lo)) (.sh (fT hi)) (.sh (fT here)) [.un,.un,.un,.un,.un,.un] [fT lo,fT hi,fT here] .un (λW m=>by
  simp only[List.mem_cons,List.not_mem_nil,or_false]at m
  rcases m with rfl|rfl|rfl
  ·exact six lo (lq.up (by omega)) Od
  ·exact six hi (hq.up (by omega)) Oe
  ·exact six here (wq.up (by omega)) okw)
 have ahs:q6 [.sh (aN rows),.sh (aU r),.sh (iT k),.sh (iT p),.sh (iT i),.sh (.tup [fT lo,fT hi]),.sh (fT lo),.sh (fT hi),.sh (fT here),.sh (nT (zs.take k)),.un,.un,.un,.un,.un,.un,.un]=.ok (.nx,[.sh (aN rows),.sh (aU r),.sh (iT k),.sh (iT p),.sh (iT i),.sh (.tup [fT lo,fT hi]),.sh (fT lo),.sh (fT hi),.sh (fT here),.sh (nT (zs.take k)),t10,.un,.un,.un,.un,.un,.un]):=by
  show cV (cM (gN 10) b6 [fT lo,fT hi,fT here] _)=_
  rw[e6]
  rfl
 obtain⟨Bp,Bq,Ox,Oz,OD,OJ,u16,e7⟩:=q.Yv (.sh (iT k)) (.sh (.tup [fT lo,fT hi])) (.sh (fT here)) [(1,2),(9,10),(999999,1000000)] t10 .un .un .un .un .un .un (λx m=>by
  simp only[List.mem_cons,List.not_mem_nil,or_false]at m
  rcases m with rfl|rfl|rfl <;> (unfold Fq; decide +kernel))
 have tD:q7 [.sh (aN rows),.sh (aU r),.sh (iT k),.sh (iT p),.sh (iT i),.sh (.tup [fT lo,fT hi]),.sh (fT lo),.sh (fT hi),.sh (fT here),.sh (nT (zs.take k)),t10,.un,.un,.un,.un,.un,.un]=.ok (.nx,[.sh (aN rows),.sh (aU r),.sh (iT k),.sh (iT p),.sh (iT i),.sh (.tup [fT lo,fT hi]),.sh (fT lo),.sh (fT hi),.sh (fT here),.sh (nT (zs.take k)),Bp,Bq,Ox,Oz,OD,OJ,u16]):=by
  show cV (cM (gN 11) K57.b7 ([(1,2),(9,10),(999999,1000000)].map fT) _)=_
  rw[e7]
  rfl
 exact yw (b:=Ms) (n:=17) ((sq vL).trans ((sq tB).trans ((sq yx).trans ((sq ahq).trans ((sq ahr).trans ((sq ahs).trans ((sq tD).trans rfl)))))))
end
end K57
end
section
namespace K57
open PySem L2 BH
theorem mod_eq(x:Int)(n:Nat)(h:1<=n):∃m:Nat,m<n/\dR (.int x) (.int (n:Nat))=.ok (.int (m:Nat),false):=by
 obtain⟨a,b⟩:=Gi x n (by omega)
 refine⟨(x.fmod n).toNat,by omega,?_⟩
 have nz:((n:Nat):Int)≠0:=by omega
 have e:(((x.fmod n).toNat:Nat):Int)=x.fmod n:=Int.toNat_of_nonneg a
 rw[e]
 show(if decide (((n:Nat):Int)≠0)=true then Rs.ok (Tr.int (x.fmod (n:Nat)),false)else .bad)=_
 rw[if_pos (decide_eq_true nz)]
theorem div_eq(x:Int)(n:Nat)(h:1<=n)(h2:n<1000):∃y:Int,fU (.int x) (.int (n:Nat))=.ok (.int y,false):=by
 refine⟨x.fdiv n,?_⟩
 have c:lV x (n:Nat)=true:=xP (M:=60) (by omega) (by omega) (by omega)
 show(if lV x (n:Nat)=true then Rs.ok (Tr.int (x.fdiv (n:Nat)),false)else .bad)=_
 rw[if_pos c]
theorem aht{ts:List Tr}{t:Tr}(h:ts.length<=100000):rY ts [t]=.ok (ts++[t],.non):=by
 show(if ts.length<=100000 then Rs.ok (ts++[t],Tr.non)else .bad)=_
 rw[if_pos h]
def wE:EF:=(gK 0 Ad (ak (aj 1) au))
theorem Yw:∀(us:List Tr) (s:Sl) (n:Int),∃(ys:List (Int × Int)) (s':Sl) (m:Int),gR (gN 0) cH wE us [s,.ow [.int n]]=.ok (ys.map fT,[s',.ow [.int m]])/\ys.length=us.length/\∀y∈ys,Wo y
 | [],s,n=>⟨[],s,n,rfl,rfl,by simp⟩
 |u::us,s,n=>by
  obtain⟨y,n1,e1,hy⟩:=agk n
  obtain⟨ys,s',m,e',hl,hp⟩:=Yw us (.sh u) n1
  refine⟨y::ys,s',m,?_,by simp[hl],λw hw=>(List.mem_cons.mp hw).elim (λz=>z▸hy.1) (hp w)⟩
  have e:wE [.sh u,.ow [.int n]]=.ok (.v (fT y) false,[.sh u,.ow [.int n1]]):=by
   unfold wE
   generalize fT y=Y at *
   simp -dsimp[con,drs,dr,aX,others,cR,cls,e1]
  generalize wE=G at e e' ⊢
  unfold gR
  simp[e,mq,e']
def yD:SF:=(aG (j9 6 (jk (ak (aK jf (ak (aj 0) (ak (aq cB (aj 1) (aj 5)) au))) au))) (jw (oZ 4 rY (ak (cD [none,some 6] (fL (ak (aj 3) au)) (gN 0) cH wE) au))))
theorem ahu(ns:List Int)(st:Nat){c j:Nat}(hc:c<=12){rows:List (List (Int × Int))}(hl:rows.length<=100)(s2 s6:Sl):∃(l:List (Int × Int)) (t6:Sl),yD [.sh (.lst (ns.map .int)),.sh (iT st),s2,.sh (iT c),.ow (rows.map aC),.sh (iT j),s6]=.ok (.nx,[.sh (.lst (ns.map .int)),.sh (iT st),s2,.sh (iT c),.ow ((rows++[l]).map aC),.sh (iT j),t6])/\l.length=c/\∀x∈l,Wo x:=by
 obtain⟨x,ex⟩:=cell_eq ns (st+j)
 obtain⟨ys,s',m,e,hy,hw⟩:=Yw ((List.range c).map iT) .un x
 rw[List.length_map,List.length_range]at hy
 refine⟨ys,.ow [.int m],?_,hy,hw⟩
 have ea:cB (iT st) (iT j)=.ok (.int ((st+j:Nat):Int),false):=by
  show Rs.ok (Tr.int ((st:Int)+(j:Int)),false)=_
  rw[show((st:Int)+(j:Int))=((st+j:Nat):Int) by omega]
 have q1:(-1000000:Int)<=c:=by omega
 have q2:(c:Int)<=1000000:=by omega
 have lr:((List.range c).map iT).length<=100000:=by simp; omega
 have er:L2.upTo 0 ((c:Nat):Int).toNat=(List.range c).map iT:=by rw[Int.toNat_natCast]; exact qR c
 have m1:=aht (ts:=rows.map aC) (t:=aC ys) (by rw[List.length_map]; omega)
 have eo:j9 6 (jk (ak (aK jf (ak (aj 0) (ak (aq cB (aj 1) (aj 5)) au))) au)) [.sh (.lst (ns.map .int)),.sh (iT st),s2,.sh (iT c),.ow (rows.map aC),.sh (iT j),s6]=.ok (.nx,[.sh (.lst (ns.map .int)),.sh (iT st),s2,.sh (iT c),.ow (rows.map aC),.sh (iT j),.ow [.int x]]):=by
  generalize Tr.lst (ns.map .int)=S,iT st=A,iT j=J,iT c=C,((st+j:Nat):Int)=N,rows.map aC=Q at *
  simp -dsimp[drs,dr,aX,cls,ea,ex]
 have ec:cD [none,some 6] (fL (ak (aj 3) au)) (gN 0) cH wE [.sh (.lst (ns.map .int)),.sh (iT st),s2,.sh (iT c),.ow (rows.map aC),.sh (iT j),.ow [.int x]]=.ok (.v (aC ys) true,[.sh (.lst (ns.map .int)),.sh (iT st),s2,.sh (iT c),.ow (rows.map aC),.sh (iT j),.ow [.int m]]):=by
  have ef:fL (ak (aj 3) au) [.sh (.lst (ns.map .int)),.sh (iT st),s2,.sh (iT c),.ow (rows.map aC),.sh (iT j),.ow [.int x]]=.ok ((List.range c).map iT,[.sh (.lst (ns.map .int)),.sh (iT st),s2,.sh (iT c),.ow (rows.map aC),.sh (iT j),.ow [.int x]]):=by
   rw[<-er]
   unfold iT
   generalize Tr.lst (ns.map .int)=S,rows.map aC=Q at *
   simp -dsimp[drs,dr,okR,q1,q2]
  rw[Ga,ef]
  simp only[vp]
  rw[if_pos lr,show fV [none,some 6] [.sh (.lst (ns.map .int)),.sh (iT st),s2,.sh (iT c),.ow (rows.map aC),.sh (iT j),.ow [.int x]]=[.un,.ow [.int x]]from rfl,e]
  rfl
 unfold yD
 refine(sq eo).trans ?_
 rw[List.map_append,List.map_singleton]
 generalize cD _ _ _ _ _=G at ec ⊢
 generalize rows.map aC++[aC ys]=R,aC ys=Y,rows.map aC=Q,Tr.lst (ns.map .int)=S,iT st=A,iT j=J,iT c=C at *
 simp -dsimp[con,drs,dr,aX,cR,cls,ec,m1]
theorem Yx(ns:List Int)(st:Nat){c:Nat}(hc:c<=12)(s2:Sl):∀(js:List Nat) (rows:List (List (Int × Int))) (s5 s6:Sl),rows.length+js.length<=100->Gg c rows->∃(Br:List (List (Int × Int))) (t5 t6:Sl),cM (gN 5) yD (js.map iT) [.sh (.lst (ns.map .int)),.sh (iT st),s2,.sh (iT c),.ow (rows.map aC),s5,s6]=.ok (.nx,[.sh (.lst (ns.map .int)),.sh (iT st),s2,.sh (iT c),.ow (Br.map aC),t5,t6])/\Br.length=rows.length+js.length/\Gg c Br
 | [],rows,s5,s6,_,h=>⟨rows,s5,s6,rfl,rfl,h⟩
 |j::js,rows,s5,s6,hl,h=>by
  rw[List.length_cons]at hl
  obtain⟨l,t6,e,l1,l2⟩:=ahu ns st (j:=j) hc (rows:=rows) (by omega) s2 s6
  obtain⟨Br,u5,u6,e',p1,p2⟩:=Yx ns st hc s2 js (rows++[l]) (.sh (iT j)) t6 (by simp; omega) (λx m=>by
   rcases List.mem_append.mp m with m|m
   ·exact h x m
   ·rw[List.mem_singleton.mp m]; exact⟨l1,l2⟩)
  refine⟨Br,u5,u6,?_,by rw[p1]; simp; omega,p2⟩
  exact xR e e'
theorem ahv(ns:List Int)(st:Nat){n c:Nat}(hn:1<=n)(hn4:n<=4)(hc1:1<=c)(hc:c<=12):∃rows:List (List (Int × Int)),xH [.lst (ns.map .int),iT st,iT n,iT c]=.ok (aN rows,true)/\rows.length=n/\Bk c rows:=by
 obtain⟨rows,t5,t6,e,p1,p2⟩:=Yx ns st hc (.sh (iT n)) (List.range n) [] .un .un (by simp; omega) (by intro l m; cases m)
 have ln:rows.length=n:=by simpa using p1
 refine⟨rows,?_,ln,by omega,by omega,hc1,hc,p2⟩
 have q1:(-1000000:Int)<=n:=by omega
 have q2:(n:Int)<=1000000:=by omega
 have er:L2.upTo 0 ((n:Nat):Int).toNat=(List.range n).map iT:=by rw[Int.toNat_natCast]; exact qR n
 have ef:fL (ak (aj 2) au) [.sh (.lst (ns.map .int)),.sh (iT st),.sh (iT n),.sh (iT c),.ow [],.un,.un]=.ok ((List.range n).map iT,[.sh (.lst (ns.map .int)),.sh (iT st),.sh (iT n),.sh (iT c),.ow [],.un,.un]):=by
  rw[<-er]
  unfold iT
  generalize Tr.lst (ns.map .int)=S at *
  simp -dsimp[drs,dr,okR,q1,q2]
 have e1:bZ (cO (fL (ak (aj 2) au)) (gN 5) yD) [.sh (.lst (ns.map .int)),.sh (iT st),.sh (iT n),.sh (iT c),.ow [],.un,.un]=.ok (.nx,[.sh (.lst (ns.map .int)),.sh (iT st),.sh (iT n),.sh (iT c),.ow (rows.map aC),t5,t6]):=by
  unfold bZ cO
  rw[ef]
  simp only[Rs.dF]
  have e:cM (gN 5) yD ((List.range n).map iT) [.sh (.lst (ns.map .int)),.sh (iT st),.sh (iT n),.sh (iT c),.ow [],.un,.un]=_:=e
  rw[e]
  rfl
 show aQ 7 (aG (j9 4 (jk au)) (aG (bZ (cO (fL (ak (aj 2) au)) (gN 5) yD)) (aY (aj 4)))) [.lst (ns.map .int),iT st,iT n,iT c]=.ok (.lst (rows.map aC),true)
 generalize bZ _=G at e1 ⊢
 generalize rows.map aC=Q,Tr.lst (ns.map .int)=S,iT st=A,iT n=N,iT c=C at *
 unfold aQ
 simp -dsimp[bA,cls,e1]
def l1:SF:=(aW (aK jf (ak (aj 0) (ak (eC (.int 0)) au))) (gN 1))
def l2:SF:=(aW (aq cB (eC (.int 1)) (aq dR (aj 1) (eC (.int 4)))) (gN 2))
def l3:SF:=(aW (aq cB (eC (.int 1)) (aq dR (aq fU (aj 1) (eC (.int 4))) (eC (.int 12)))) (gN 3))
def l4:SF:=(aW (aK xH (ak (aj 0) (ak (eC (.int 1)) (ak (aj 2) (ak (aj 3) au))))) (gN 4))
def l5:SF:=(aW (aK vf (ak (aK jf (ak (aj 0) (ak (eC (.int 5)) au))) (ak (aj 2) au))) (gN 5))
def l6:SF:=(aW (aq dR (aq fU (aj 1) (eC (.int 48))) (aq cB (aj 3) (eC (.int 1)))) (gN 6))
def l7:SF:=(aW (cD [none] (bQ (aj 4)) (gN 0) cH (bF (g1 lD) (ak (aj 0) au))) (gN 7))
def k1:SF:=(aW (aq dR (aK jf (ak (aj 0) (ak (aq cB (eC (.int 6)) (aj 8)) au))) (aj 2)) (gN 9))
def k2:SF:=(aW (aq dR (aq fU (aK jf (ak (aj 0) (ak (aq cB (eC (.int 6)) (aj 8)) au))) (eC (.int 4))) (aj 3)) (gN 10))
def k3:SF:=(aW (aK xu (ak (aj 7) (ak (aj 5) (ak (aj 6) (ak (aj 9) (ak (aj 10) au)))))) (gN 11))
def k4:SF:=(bY (f9 (dU (cL (aK Af (ak (aj 4) (ak (aj 5) (ak (aj 6) (ak (aj 9) (ak (aj 10) (ak (aj 11) au))))))))) (bV (aq dO (aj 7) (aj 4)))) (aY (eC (.bl false))) bW)
def lB:SF:=aG k1 (aG k2 (aG k3 k4))
theorem ahw:V7=aG l1 (aG l2 (aG l3 (aG l4 (aG l5 (aG l6 (aG l7 (aG (bZ (cO (bQ (nu [.int 0,.int 1,.int 2,.int 0])) (gN 8) lB)) (aY (eC (.bl true))))))))) ):=rfl
theorem ahx(ns:List Int){c k n:Nat}{rows:List (List (Int × Int))}{r:Ru}(hb:Bk c rows)(hn:rows.length=n)(ho:fM n r)(hk:k<=c)(j:Nat)(s1 s9 bM gj:Sl):∃t9 t10 t11,lB [.sh (.lst (ns.map .int)),s1,.sh (iT n),.sh (iT c),.sh (aN rows),.sh (aU r),.sh (iT k),.sh (aN rows),.sh (iT j),s9,bM,gj]=.ok (.nx,[.sh (.lst (ns.map .int)),s1,.sh (iT n),.sh (iT c),.sh (aN rows),.sh (aU r),.sh (iT k),.sh (aN rows),.sh (iT j),t9,t10,t11]):=by
 obtain⟨h1,h2,h3,h4,h5⟩:=id hb
 obtain⟨x,ex⟩:=cell_eq ns (6+j)
 obtain⟨p,hp,ep⟩:=mod_eq x n (by omega)
 obtain⟨y,ey⟩:=div_eq x 4 (by omega) (by omega)
 obtain⟨i,hi,ei⟩:=mod_eq y c (by omega)
 have ea:cB (.int 6) (iT j)=.ok (.int ((6+j:Nat):Int),false):=by
  show Rs.ok (Tr.int ((6:Int)+(j:Int)),false)=_
  rw[show((6:Int)+(j:Int))=((6+j:Nat):Int) by omega]
 subst hn
 obtain⟨V,zs,f⟩:=found hb ho
 obtain⟨here,hh⟩:∃x,(col rows i)[p]?=some x:=⟨_,List.getElem?_eq_getElem (by rw[pK]; exact hp)⟩
 obtain⟨lo,hi',er,q⟩:=aha hb ho f hk hp hi hh
 have eg:=Kn.good ⟨hb,ho,f,hk,hp,hi,hh,q⟩
 have en:=Gh (T:=aN rows) (by have:=af4 rows; omega)
 refine⟨.sh (iT p),.sh (iT i),.sh (.tup [fT lo,fT hi']),?_⟩
 have ep:dR (.int x) (iT rows.length)=.ok (iT p,false):=ep
 have ei:dR (.int y) (iT c)=.ok (iT i,false):=ei
 have ey:fU (.int x) (.int 4)=.ok (.int y,false):=ey
 have st:∀(S:Tr),jf [S,.int ((6+j:Nat):Int)]=.ok (.int x,false)->k1 [.sh S,s1,.sh (iT rows.length),.sh (iT c),.sh (aN rows),.sh (aU r),.sh (iT k),.sh (aN rows),.sh (iT j),s9,bM,gj]=.ok (.nx,[.sh S,s1,.sh (iT rows.length),.sh (iT c),.sh (aN rows),.sh (aU r),.sh (iT k),.sh (aN rows),.sh (iT j),.sh (iT p),bM,gj])/\k2 [.sh S,s1,.sh (iT rows.length),.sh (iT c),.sh (aN rows),.sh (aU r),.sh (iT k),.sh (aN rows),.sh (iT j),.sh (iT p),bM,gj]=.ok (.nx,[.sh S,s1,.sh (iT rows.length),.sh (iT c),.sh (aN rows),.sh (aU r),.sh (iT k),.sh (aN rows),.sh (iT j),.sh (iT p),.sh (iT i),gj]):=λS ex=>by
  generalize aN rows=B,aU r=R,((6+j:Nat):Int)=J,iT j=J2,iT rows.length=N,iT c=C,iT k=K,iT p=P,iT i=I at *
  unfold k1 k2
  constructor <;> simp -dsimp[drs,dr,aX,cls,ea,ex,ep,ey,ei]
 obtain⟨e1,e2⟩:=st _ ex
 have e3:k3 [.sh (.lst (ns.map .int)),s1,.sh (iT rows.length),.sh (iT c),.sh (aN rows),.sh (aU r),.sh (iT k),.sh (aN rows),.sh (iT j),.sh (iT p),.sh (iT i),gj]=.ok (.nx,[.sh (.lst (ns.map .int)),s1,.sh (iT rows.length),.sh (iT c),.sh (aN rows),.sh (aU r),.sh (iT k),.sh (aN rows),.sh (iT j),.sh (iT p),.sh (iT i),.sh (.tup [fT lo,fT hi'])]):=by
  generalize Tr.tup [fT lo,fT hi']=X,aN rows=B,aU r=R,iT j=J2,iT rows.length=N,iT c=C,iT k=K,iT p=P,iT i=I,Tr.lst (ns.map .int)=S at *
  unfold k3
  simp -dsimp[drs,dr,aX,cls,er]
 have e4:k4 [.sh (.lst (ns.map .int)),s1,.sh (iT rows.length),.sh (iT c),.sh (aN rows),.sh (aU r),.sh (iT k),.sh (aN rows),.sh (iT j),.sh (iT p),.sh (iT i),.sh (.tup [fT lo,fT hi'])]=.ok (.nx,[.sh (.lst (ns.map .int)),s1,.sh (iT rows.length),.sh (iT c),.sh (aN rows),.sh (aU r),.sh (iT k),.sh (aN rows),.sh (iT j),.sh (iT p),.sh (iT i),.sh (.tup [fT lo,fT hi'])]):=by
  generalize Tr.tup [fT lo,fT hi']=X,aN rows=B,aU r=R,iT j=J2,iT rows.length=N,iT c=C,iT k=K,iT p=P,iT i=I,Tr.lst (ns.map .int)=S at *
  unfold k4
  simp -dsimp[drs,dr,aX,cls,eg,en,cX,bO]
 exact(sq e1).trans ((sq e2).trans ((sq e3).trans e4))
theorem Yy(ns:List Int){c k n:Nat}{rows:List (List (Int × Int))}{r:Ru}(hb:Bk c rows)(hn:rows.length=n)(ho:fM n r)(hk:k<=c)(s1:Sl):∀(js:List Nat) (s8 s9 bM gj:Sl),∃t8 t9 t10 t11,cM (gN 8) lB (js.map iT) [.sh (.lst (ns.map .int)),s1,.sh (iT n),.sh (iT c),.sh (aN rows),.sh (aU r),.sh (iT k),.sh (aN rows),s8,s9,bM,gj]=.ok (.nx,[.sh (.lst (ns.map .int)),s1,.sh (iT n),.sh (iT c),.sh (aN rows),.sh (aU r),.sh (iT k),.sh (aN rows),t8,t9,t10,t11])
 | [],s8,s9,bM,gj=>⟨s8,s9,bM,gj,rfl⟩
 |j::js,s8,s9,bM,gj=>by
  obtain⟨t9,t10,t11,e⟩:=ahx ns hb hn ho hk j s1 s9 bM gj
  obtain⟨u8,u9,Bp,Bq,e'⟩:=Yy ns hb hn ho hk s1 js (.sh (iT j)) t9 t10 t11
  refine⟨u8,u9,Bp,Bq,?_⟩
  exact xR e e'
theorem ahy(ns:List Int):xJ [.lst (ns.map .int)]=.ok (.bl true,false):=by
 obtain⟨x,ex⟩:=cell_eq ns 0
 obtain⟨x5,O1⟩:=cell_eq ns 5
 obtain⟨a,ha,ea⟩:=mod_eq x 4 (by omega)
 obtain⟨y,ey⟩:=div_eq x 4 (by omega) (by omega)
 obtain⟨b,hb',eb⟩:=mod_eq y 12 (by omega)
 obtain⟨w,ew⟩:=div_eq x 48 (by omega) (by omega)
 obtain⟨k,hk,ek⟩:=mod_eq w (1+b+1) (by omega)
 obtain⟨rows,O2,ln,bk⟩:=ahv ns 1 (n:=1+a) (c:=1+b) (by omega) (by omega) (by omega) (by omega)
 obtain⟨r,er,ro⟩:=ago x5 (k:=1+a) (by omega) (by omega)
 have i1:∀m:Nat,cB (.int 1) (.int (m:Nat))=.ok (iT (1+m),false):=λm=>by
  show Rs.ok (Tr.int ((1:Int)+(m:Int)),false)=_
  unfold iT
  rw[show((1:Int)+(m:Int))=((1+m:Nat):Int) by omega]
 have i2:cB (iT (1+b)) (.int 1)=.ok (iT (1+b+1),false):=rfl
 have ec:=sV (r:=aC) (h:=aC) (xs:=rows) (ρ:=[.sh (.lst (ns.map .int)),.sh (.int x),.sh (iT (1+a)),.sh (iT (1+b)),.sh (aN rows),.sh (aU r),.sh (iT k),.un,.un,.un,.un,.un]) (rest:=[]) (i:=bQ (aj 4)) (fe:=bF (g1 lD) (ak (aj 0) au)) (by omega) rfl rfl (λs'=>rfl) (λs'=>rfl) (λl _=>⟨true,rfl⟩)
 obtain⟨t8,t9,t10,t11,e⟩:=Yy ns bk ln ro (show k<=1+b by omega) (.sh (.int x)) [0,1,2,0] .un .un .un .un
 have Yz:bZ (cO (bQ (nu [.int 0,.int 1,.int 2,.int 0])) (gN 8) lB) [.sh (.lst (ns.map .int)),.sh (.int x),.sh (iT (1+a)),.sh (iT (1+b)),.sh (aN rows),.sh (aU r),.sh (iT k),.sh (aN rows),.un,.un,.un,.un]=.ok (.nx,[.sh (.lst (ns.map .int)),.sh (.int x),.sh (iT (1+a)),.sh (iT (1+b)),.sh (aN rows),.sh (aU r),.sh (iT k),.sh (aN rows),t8,t9,t10,t11]):=by
  show cV (cM (gN 8) lB ([0,1,2,0].map iT) _)=_
  rw[e]
  rfl
 have ey:fU (.int x) (.int 4)=.ok (.int y,false):=ey
 have ew:fU (.int x) (.int 48)=.ok (.int w,false):=ew
 have ea:dR (.int x) (.int 4)=.ok (.int (a:Nat),false):=ea
 have eb:dR (.int y) (.int 12)=.ok (.int (b:Nat),false):=eb
 have ek:dR (.int w) (iT (1+b+1))=.ok (iT k,false):=ek
 have j1:=i1 a
 have j2:=i1 b
 have O2:xH [.lst (ns.map .int),.int 1,iT (1+a),iT (1+b)]=.ok (aN rows,true):=O2
 have er:vf [.int x5,iT (1+a)]=.ok (aU r,false):=er
 have ex:jf [.lst (ns.map .int),.int 0]=.ok (.int x,false):=ex
 have O1:jf [.lst (ns.map .int),.int 5]=.ok (.int x5,false):=O1
 have ec:cD [none] (bQ (aj 4)) (gN 0) cH (bF (g1 lD) (ak (aj 0) au)) [.sh (.lst (ns.map .int)),.sh (.int x),.sh (iT (1+a)),.sh (iT (1+b)),.sh (aN rows),.sh (aU r),.sh (iT k),.un,.un,.un,.un,.un]=.ok (.v (aN rows) true,[.sh (.lst (ns.map .int)),.sh (.int x),.sh (iT (1+a)),.sh (iT (1+b)),.sh (aN rows),.sh (aU r),.sh (iT k),.un,.un,.un,.un,.un]):=ec
 unfold xJ
 rw[ahw]
 unfold l7
 generalize bZ _=G at Yz ⊢
 generalize cD _ _ _ _ _=G2 at ec ⊢
 generalize Tr.lst (ns.map .int)=S,aN rows=B,aU r=R,iT (1+a)=A,iT (1+b+1)=C1,iT (1+b)=C,iT k=K,((a:Nat):Int)=a',((b:Nat):Int)=b' at *
 unfold aQ l1 l2 l3 l4 l5 l6
 simp -dsimp[bA,drs,dr,aX,cls,ex,ea,j1,ey,eb,j2,O2,O1,er,ew,i2,ek,ec,Yz]
end K57
end
section
namespace L2
open PySem PySem.Spec PyProof.Rows PySem.W
theorem ahz{P:Program}{w:World}{K:FZ}{mg mb:Str->Option Value}{CX:jY}{k:Nat}{fa a:Addr}{x:Str}{sp:Sp}{s₁ : Shared}{vs:List Value}{ns:List Int}
  (KX:K.In s₁.heap) (hns:s₁.heap.Ns mainGlobals mg) (hb:s₁.heap.Ns builtinsNs mb) (hbb:∀x:Str,x ≠ "__name__" -> mb x=bootBuiltins x) (hlim:s₁.heap.NoLimit) (hg:s₁.gens = #[])
  (ha:s₁.heap.get? a=some {cls:=.type "list",data:=.seq vs.toArray }) (hi:IntsAre vs ns) (hl:ns.length<=sizeLine) (hr:fO k callerA)
  (hT:∀x∈jj,∀c b,tabIn K x=some (c,b)->CodeHd s₁.heap c b/\s₁.heap.get? b=some (tabObj #[])) (vM:noTabs K=true) (hB:qH mg s₁.heap)
  (F:∀base:Heap,K.In base->base.Ns mainGlobals mg->(∀x∈jj,∀c b,tabIn K x=some (c,b)->CodeHd base c b)->qH mg base->∃fd:FuncData,(∀(s:Shared) (u:Value),K.In s.heap->BindsTo s fd ⟨[u],[]⟩ [(x,u)])/\lg P w K mg base CX k fa fd [x] sp)
  (hsp:∀H:Hp,fC (aJ K) H->lU K H a (ns.map V.int)->sp [.ref a] H (λv _=>v=.bl true) λ_ _ _=>False)
  (O3:∀H e s',CX [] H s₁ (λ_ _ _=>False) e s'->False) :
  codeAny (model P w) callerA (.call (.ref fa) ⟨[.ref a],[]⟩) (λr s'=>r=.ok (.ret (.bool true))/\OldK s₁.heap s'.heap/\s'.os=s₁.os/\AllBare s'.gens) s₁ := by
 have rv:=Ie hi
 have lenV:=hi.length
 -- from an abstract heap in which nothing but the script may be tracked
 have hT':∀b,Tb (aJ K) b->∃c,CodeHd s₁.heap c b/\s₁.heap.get? b=some (tabObj #[]):=λb ⟨x,hx,c,e⟩=>⟨c,hT x hx c b (U8 e)⟩
 have core:∀H:Hp,(∀b,H b=none\/(∃o xs,H b=some (.ig o (.lst xs)))\/(H b=some (.dM #[])/\Tb (aJ K) b))->fC (aJ K) H->lU K H a (ns.map V.int)->fJ P w H s₁.heap->(∀b,H b≠none->b=a\/Tb (aJ K) b)->(H a≠none->K.lookup a=none) ->
   codeAny (model P w) callerA (.call (.ref fa) ⟨[.ref a],[]⟩) (λr s'=>r=.ok (.ret (.bool true))/\OldK s₁.heap s'.heap/\s'.os=s₁.os/\AllBare s'.gens) s₁ := by
  intro H hO hTb hS hok hA hK
  have GZ:∀{b:Addr} {o:Obj},s₁.heap.get? b=some o->H b=none->(pO s₁.heap H).get? b=some o:=λe n=>Zg e n
  have yI:∀{b:Addr} {o:Obj} {es:Array DictEntry} {ep:Nat},s₁.heap.get? b=some o->o.data=.dict es ep->H b=none:=λ{b o es ep} e d=>by
   cases q:H b with
   |none=>rfl
   |some u =>
    rcases hA b (by rw[q]; simp)with e'|e'
    ·subst e'
     rw[ha]at e; cases e
     have d':Data.seq vs.toArray _=Data.dict es ep:=d
     cases d'
    ·obtain⟨c,_,z⟩:=hT' b e'
     rw[z]at e; cases e
     cases d
  have G4:∀{b:Addr} {m:Str->Option Value},s₁.heap.Ns b m->(pO s₁.heap H).Ns b m:=λ{b m} ⟨o,es,ep,e,d,r⟩=>⟨o,es,ep,GZ e (yI e d),d,r⟩
  have YB:K.In (pO s₁.heap H):=λb o e=>GZ (KX b o e) (by
   cases q:H b with
   |none=>rfl
   |some u =>
    rcases hA b (by rw[q]; simp)with e'|e'
    ·subst e'
     rw[hK (by rw[q]; simp)]at e; cases e
    ·obtain⟨c,_,z⟩:=hT' b e'
     have z2:=KX b o e
     rw[z]at z2
     cases z2
     have h2:=List.all_eq_true.mp vM (b,_) (mem_of_lookupK e)
     exact absurd (show false=true from h2) Bool.false_ne_true)
  have hM:Mod K mg (pO s₁.heap H):=⟨YB,G4 hns,⟨mb,G4 hb,hbb⟩,let⟨mc,h1,h2⟩:=hlim; ⟨mc,G4 h1,h2⟩⟩
  have e0:Cq P w K mg (pO s₁.heap H) callerA [] s₁ H:=⟨rfl,hM,λb o e=>Zh e,Nat.le_of_eq (Zf _ _),trivial,λb hb=>absurd (show b∈([]:List Addr)from hb) (by simp),hok,.of_eq hg⟩
  have free:∀{b:Addr} {o:Obj},s₁.heap.get? b=some o->o.cls ≠ .none->(∀its n,o.data ≠ .seq its n)->H b=none:=λ{b o} e n1 n2=>by
   cases q:H b with
   |none=>rfl
   |some u =>
    rcases hA b (by rw[q]; simp)with e'|e'
    ·subst e'
     rw[ha]at e; cases e
     exact(n2 _ _ rfl).elim
    ·obtain⟨c,_,z⟩:=hT' b e'
     rw[z]at e; cases e
     exact(n1 rfl).elim
  obtain⟨fd,hbind,F1⟩:=F _ YB (G4 hns) (λx hx c b e=>by
   obtain⟨o,vs',file,tf,flags,tg,inF,text,tt,e1,r1,r2,r3⟩:=(hT x hx c b e).1
   exact⟨o,vs',file,tf,flags,tg,inF,text,tt,GZ e1 (free e1 (by rw[r1]; intro z; cases z) (λ_ _ z=>by rw[r2]at z; cases z)),r1,r2,r3⟩) (by
   obtain⟨bm,ob,b1,b2,b3,b4,b5,b6,b7⟩:=hB
   exact⟨bm,ob,b1,b2,b3,GZ b4 (free b4 (by rw[b5]; intro z; cases z) (λ_ _ z=>by rw[b7]at z; cases z)),b5,b6,b7⟩)
  refine codeAny_mono (F1.run callerA [] s₁ H ⟨[.ref a],[]⟩ [.ref a] [.ref a] _ _ hr e0 (hbind s₁ (.ref a) KX) (.cons rfl .nil) (hsp H hTb hS)) λr s' h=>?_
  cases r with
  |error e=>exact(O3 H e s' h).elim
  |ok fl =>
   cases fl with
   |next=>exact False.elim h
   |brk=>exact False.elim h
   |cont=>exact False.elim h
   |ret u =>
    obtain⟨v,H',os,bare,un,hok',r',q⟩:=h
    have q':v=.bl true:=q
    subst q'
    obtain rfl:u=Value.bool true:=r'
    refine⟨rfl,⟨λb o e=>?_,λb o e=>un.there b o e (by simp)⟩,os,bare⟩
    cases q:H b with
    |none=>exact .inl (un.keep b o e q (by intro z; exact absurd (show b∈([]:List Addr)from z) (by simp)) (by simp))
    |some u =>
     rcases hO b with z|⟨ob,xs,z⟩|⟨z,zt⟩
     ·rw[q]at z; cases z
     ·have z2:=un.mK b ob _ z
      obtain⟨e1,_⟩:=hok b _ z
      obtain⟨e2,_⟩:=hok' b _ z2
      rw[e]at e1; cases e1
      exact .inl e2
     ·obtain⟨more,z2⟩:=un.mL b _ z
      have e1:s₁.heap.get? b=some (tabObj #[]):=hok b _ z
      have e2:s'.heap.get? b=some (tabObj (#[]++more)):=hok' b _ z2
      rw[e]at e1; cases e1
      obtain⟨c,hc,_⟩:=hT' b zt
      exact .inr (.inl ⟨(hc.tab e).isCodeTable,rfl,#[],more,rfl,e2⟩)
 classical
 have YC:∀H:Hp,(∀b,Tb (aJ K) b->H b=some (.dM #[]))->fC (aJ K) H:=λH h x hx c b e=>⟨#[],h b ⟨x,hx,c,e⟩,trivial,λpos v z=>by cases z⟩
 have YD:¬Tb (aJ K) a:=λz=>by
  obtain⟨c,_,e⟩:=hT' a z
  rw[ha]at e
  cases e
 cases hk:K.lookup a with
 |some o =>
  have e:=KX a o hk
  rw[ha]at e
  cases e
  refine core (λb=>if Tb (aJ K) b then some (.dM #[])else none) (λb=>?_) (YC _ λb z=>if_pos z) (.inr ⟨vs.toArray,_,hk,by rw[List.size_toArray,lenV]; exact hl,by simpa using rv⟩) (λb u z=>?_) (λb z=>?_) λz=>?_
  ·by_cases q:Tb (aJ K) b
   ·exact .inr (.inr ⟨if_pos q,q⟩)
   ·exact .inl (if_neg q)
  ·by_cases q:Tb (aJ K) b
   ·have z':=(if_pos q).symm.trans z
    cases z'
    obtain⟨c,_,e⟩:=hT' b q
    exact e
   ·have z':=(if_neg q).symm.trans z
    cases z'
  ·by_cases q:Tb (aJ K) b
   ·exact .inr q
   ·exact absurd (if_neg q) z
  ·exact absurd (if_neg YD) z
 |none =>
  refine core (λb=>if b=a then some (.ig {cls:=.type "list",data:=.seq vs.toArray } (.lst (ns.map V.int)))else if Tb (aJ K) b then some (.dM #[])else none) (λb=>?_) (YC _ λb z=>by
   have nb:¬b=a:=λq=>YD (by rw[<-q]; exact z)
   exact(if_neg nb).trans (if_pos z)) (.inl (.inr ⟨{cls:=.type "list",data:=.seq vs.toArray },if_pos rfl⟩)) (λb u z=>?_) (λb z=>?_) λ_=>hk
  ·by_cases hb:b=a
   ·exact .inr (.inl ⟨_,_,if_pos hb⟩)
   ·by_cases q:Tb (aJ K) b
    ·exact .inr (.inr ⟨(if_neg hb).trans (if_pos q),q⟩)
    ·exact .inl ((if_neg hb).trans (if_neg q))
  ·by_cases hb:b=a
   ·have z':=(if_pos hb).symm.trans z
    cases z'
    subst hb
    exact⟨ha,by rw[List.length_map]; exact hl,vs,_,rv,ha⟩
   ·have z':=(if_neg hb).symm.trans z
    by_cases q:Tb (aJ K) b
    ·have z':=(if_pos q).symm.trans z'
     cases z'
     obtain⟨c,_,e⟩:=hT' b q
     exact e
    ·have z':=(if_neg q).symm.trans z'
     cases z'
  ·by_cases hb:b=a
   ·exact .inl hb
   ·by_cases q:Tb (aJ K) b
    ·exact .inr q
    ·exact absurd ((if_neg hb).trans (if_neg q)) z
theorem ahA{l:PySem.W.OpenLaw}{n k:Nat}{q:Program}{loose:List Str}{XP:(Str->Option Value)->Heap->Prop}{YP:World->Heap->Prop}{d:DefRec}{K:Params->FZ}{CX:World->jY}{sp:World->Sp}{x:Str}
  (hn:l.most=some n) (hn2:n<=sizeLine) (hdf:d.params.defaults=[]) (hr:fO k callerA)
  (Bs:∀x∈jj,((recsOf q).find? (λe=>e.name == x)).isSome=true\/∀w:World,nsIn (K w.params) mainGlobals x=some none) (vM:∀w:World,noTabs (K w.params)=true)
  (hY:∀(w:World) (h:Heap),YP w h->(K w.params).In h)
  (F:∀(w:World) (mg:Str->Option Value) (fa:Addr) (h:Heap),(K w.params).In h->h.Ns mainGlobals mg->mg d.name=some (.ref fa) ->
   ∀base:Heap,(K w.params).In base->base.Ns mainGlobals mg->(∀x∈jj,∀c b,tabIn (K w.params) x=some (c,b)->CodeHd base c b)->qH mg base->∃fd:FuncData,(∀(s:Shared) (u:Value),(K w.params).In s.heap->BindsTo s fd ⟨[u],[]⟩ [(x,u)])/\lg l.prog w (K w.params) mg base (CX w) k fa fd [x] (sp w))
  (hsp:∀(w:World) (H:Hp) (a:Addr) (ns:List Int),ns.length<=n->fC (aJ (K w.params)) H->lU (K w.params) H a (ns.map V.int)->sp w [.ref a] H (λv _=>v=.bl true) λ_ _ _=>False)
  (O3:∀(w:World) (H:Hp) (s:Shared) (e:Value) (s':Shared),CX w [] H s (λ_ _ _=>False) e s'->False) :
  PySem.W.WalkO q loose XP YP l.row.toRowW d [] (λf vs=>PySem.call f vs):=by
 refine Rt.aaD hn hdf λw s₀ s₁ mg mb fa o pm cd doc a vs ns G Y ho hd hcd hmg hobj hints hlen hg=>?_
 have KX:=hY w _ Y
 have hT:∀x∈jj,∀c b,tabIn (K w.params) x=some (c,b)->CodeHd s₁.heap c b/\s₁.heap.get? b=some (tabObj #[]):=λx hx c b e=>by
  rcases Bs x hx with z|z
  ·obtain⟨d,z⟩:=Option.isSome_iff_exists.mp z
   exact tab_of G.T KX z e
  ·rw[Va (z w)]at e; cases e
 have hB:qH mg s₁.heap:=by
  obtain⟨bm,ob,b1,b2,b3,b4,b5,b6⟩:=G.T.bmain
  refine⟨bm,ob,b1,b2,λz=>?_,b3,b4,b5,b6⟩
  obtain⟨o,es,ep,e,hd,_⟩:=G.T.g
  rw[z,e]at b3; cases b3
  rw[hd]at b6; cases b6
 exact ahz KX G.T.g G.T.b G.T.builtins G.T.nolimit hg hobj hints (Nat.le_trans hlen hn2) hr hT (vM w) hB (F w mg fa _ KX G.T.g hmg) (λH hO hS=>hsp w H a ns hlen hO hS) λH e s'=>O3 w H s₁ e s'
end L2
end
section
namespace K57
open PySem L2 BH PySem.W
section
variable {K:Frag}{mg:Str->Option Value}{h:Heap}
theorem ahB{x:Str}{st:Stmt}(X:K.In h)(G:h.Ns mainGlobals mg){f:Addr}{od an:Option Addr}{sl:Array (Option Value)}{oc kV dc pm cd ct:Value}
  (a:nsIn K mainGlobals x=some (some (.ref f))) (l:K.lookup f=some ⟨oc,od,.func (fnOf x x (mX st) (jq st) (bx st) .none kV dc pm an cd ct),sl⟩) (c:codeIn K cd x=true) (k:keepIn K (.ref f)=true):At K mg x st :=
 ⟨f,_,Rw (st:=st) l c k,mg_of X G a⟩
theorem ahC{x:Str}{st:Stmt}(X:K.In h)(G:h.Ns mainGlobals mg){f c:Addr}{od an:Option Addr}{sl:Array (Option Value)}{oc kV dc pm ct:Value}
  (a:nsIn K mainGlobals x=some (some (.ref f))) (l:K.lookup f=some ⟨oc,od,.func (fnOf x x (mX st) (jq st) (bx st) .none kV dc pm an (.ref c) ct),sl⟩) (cc:codeIn K (.ref c) x=true) (k:keepIn K (.ref f)=true):uR K mg x st c :=
 ⟨f,_,Rw (st:=st) l cc k,mg_of X G a,rfl⟩
theorem YF{x:Str}{i:Int}{tk:Tok}(X:K.In h)(G:h.Ns mainGlobals mg)(a:nsIn K mainGlobals x=some (some (.int i tk))):Gk K mg x (.int i) (.int i):=⟨.int i tk,mg_of X G a,by first|exact rfl|exact⟨_,rfl⟩,λ_=>.int i⟩
theorem Bt{H:Hp}{a:Addr}{od:Option Addr}{its:Array Value}{n:Nat}{sl:Array (Option Value)}{xs:List V}{vs:List Value}{ts:List Tr}(l:K.lookup a=some ⟨.type "tuple",od,.seq its n,sl⟩) (e:its.toList=vs) (hl:vs.length<=1000) (r:Vals xs vs) (rr:aR (aJ K) H xs ts):Rep (aJ K) H (.ref a) (.tup ts):=by
 refine .tup (xs:=xs) (.inr ⟨_,its,n,abd l rfl,rfl,rfl,?_,by rw[e]; exact r⟩) rr
 rw[<-Array.length_toList,e]
 exact Nat.le_of_lt (Ig hl)
theorem ahD(X:K.In h)(G:h.Ns mainGlobals mg){a r1 r2 r3:Addr}{od o1 o2 o3:Option Addr}{its i1 i2 i3:Array Value}{n n1 n2 n3:Nat}{sl RN sl2 IV:Array (Option Value)}{t1 t2 t3:Tok}
  (m:nsIn K mainGlobals "BARE_RULES" = some (some (.ref a))) (l:K.lookup a=some ⟨.type "tuple",od,.seq its n,sl⟩) (e:its.toList=[.ref r1,.ref r2,.ref r3])
  (l1:K.lookup r1=some ⟨.type "tuple",o1,.seq i1 n1,RN⟩) (e1:i1.toList=[.str "least" t1]) (l2:K.lookup r2=some ⟨.type "tuple",o2,.seq i2 n2,sl2⟩) (e2:i2.toList=[.str "greatest" t2]) (l3:K.lookup r3=some ⟨.type "tuple",o3,.seq i3 n3,IV⟩) (e3:i3.toList=[.str "product" t3]):Gk K mg "BARE_RULES" (.ref a) (.tup [(.tup [(.str "least")]),(.tup [(.str "greatest")]),(.tup [(.str "product")])]):=by
 refine⟨_,mg_of X G m,rfl,λH=>Bt (xs:=[.ref r1,.ref r2,.ref r3]) l e (Nat.le_of_ble_eq_true rfl) (.cons rfl (.cons rfl (.cons rfl .nil))) ?_⟩
 exact .cons (Bt (xs:=[.str "least"]) l1 e1 (Nat.le_of_ble_eq_true rfl) (.cons ⟨_,rfl⟩ .nil) (.cons (.str _) .nil)) (.cons (Bt (xs:=[.str "greatest"]) l2 e2 (Nat.le_of_ble_eq_true rfl) (.cons ⟨_,rfl⟩ .nil) (.cons (.str _) .nil)) (.cons (Bt (xs:=[.str "product"]) l3 e3 (Nat.le_of_ble_eq_true rfl) (.cons ⟨_,rfl⟩ .nil) (.cons (.str _) .nil)) .nil))
theorem YG(X:K.In h)(G:h.Ns mainGlobals mg){x:Str}{a:Addr}{od:Option Addr}{its:Array Value}{n:Nat}{sl:Array (Option Value)}{i j:Int}{t1 t2:Tok}
  (m:nsIn K mainGlobals x=some (some (.ref a))) (l:K.lookup a=some ⟨.type "tuple",od,.seq its n,sl⟩) (e:its.toList=[.int i t1,.int j t2]):Gk K mg x (.ref a) (.tup [.int i,.int j]) :=
 ⟨_,mg_of X G m,rfl,λH=>Bt (xs:=[.int i,.int j]) l e (Nat.le_of_ble_eq_true rfl) (.cons ⟨_,rfl⟩ (.cons ⟨_,rfl⟩ .nil)) (.cons (.int _) (.cons (.int _) .nil))⟩
theorem ahE(H:Hp):aO (λ_=>False) H=H:=by
 funext b
 exact fK (λz=>z)
theorem YH{K:Frag}{H:Hp}:∀ns:List Int,aR K H (ns.map V.int) (ns.map Tr.int)
 | []=>.nil
 |n::ns=>.cons (.int n) (YH ns)
def G5(K:Frag)(n:Nat)(F:FP):Sp:=λvs H Q E=>∃Z ts,vs.length=n/\aR (aJ K) (aO Z H) vs ts/\(∀b,Z b->Lt H b)/\fC (aJ K) H/\∃p,F ts=.ok p/\∀v H',kh (aJ K) H H'->uz (aJ K) Z H H' v p.1 p.2->Q v H'
theorem ahF{K:Frag}{cl:Str->Addr}{n:Nat}{F:FP}(vs:List V)(H:Hp)(Q:VK)(E:XK)(h:G5 K n F vs H Q E):aP K cl n F vs H Q E:=by
 obtain⟨Z,ts,h1,h2,h3,h4,p,h5,h6⟩:=h
 refine⟨Z,ts,h1,h2,h3,h4,?_⟩
 rw[h5]
 exact h6
theorem ahG(X:K.In h)(G:h.Ns mainGlobals mg)(z0:nsIn K mainGlobals "abs" = some none) (z1:nsIn K mainGlobals "all" = some none) (z2:nsIn K mainGlobals "bool" = some none) (z3:nsIn K mainGlobals "int" = some none) (z4:nsIn K mainGlobals "isinstance" = some none) (z5:nsIn K mainGlobals "len" = some none) (z6:nsIn K mainGlobals "list" = some none) (z7:nsIn K mainGlobals "max" = some none) (z8:nsIn K mainGlobals "min" = some none) (z9:nsIn K mainGlobals "range" = some none) (YJ:nsIn K mainGlobals "sorted" = some none) (YK:nsIn K mainGlobals "tuple" = some none) (YL:nsIn K mainGlobals "zip" = some none):Nm mg :=
 ⟨mg_none_of X G z0,mg_none_of X G z1,mg_none_of X G z2,mg_none_of X G z3,mg_none_of X G z4,mg_none_of X G z5,mg_none_of X G z6,mg_none_of X G z7,mg_none_of X G z8,mg_none_of X G z9,mg_none_of X G YJ,mg_none_of X G YK,mg_none_of X G YL⟩
end
section
variable {P:Program}{w:World}{K:Frag}{mg:Str->Option Value}{base:Heap}
theorem ahH(M:Nm mg){O4:Addr}(Fx:PyProof.Rows.OwnCls "NoBottom" O4 mz "ValueError.__new__" mg base) {O5:Addr} (FJ:PyProof.Rows.OwnCls "NoBook" O5 mz "ValueError.__new__" mg base) {O6:Addr} (FT:PyProof.Rows.OwnCls "NoList" O6 mz "ValueError.__new__" mg base) {O7:Addr} (FW:PyProof.Rows.OwnCls "NoThing" O7 mz "ValueError.__new__" mg base) {O8:Addr} (FN:PyProof.Rows.OwnCls "NoRule" O8 mz "ValueError.__new__" mg base) {O9:Addr} (FQ:PyProof.Rows.OwnCls "NoCount" O9 mz "ValueError.__new__" mg base) (XT:mD K) (ahI:At K mg "is_whole" Kz) (ahJ:At K mg "common_divisor" KC) (ahK:At K mg "fraction_of" KD) (ahL:At K mg "frac_sum" KH) (ahM:At K mg "frac_less" KJ) (ahN:At K mg "frac_times" KN) (ahO:At K mg "frac_by" KQ) (ahP:At K mg "frac_below" KR) (ahQ:At K mg "is_fraction" KY) (ahR:At K mg "common_bottom" KZ) (ahS:At K mg "tops_on_one_bottom" Et) {YM ahT:Addr} (ahU:uR K mg "falling_places" Eu YM) (ahV:Ef K mg base "falling_places" YM ahT) (ahW:At K mg "is_worth" K1) (ahX:At K mg "are_worths" Ew) (ahY:At K mg "is_book" zZ) (ahZ:At K mg "is_place" K3) (ah0:At K mg "is_count" K4) (ah1:At K mg "need_book" K5) (ah2:At K mg "need_list" K6) (ah3:At K mg "need_thing" K7) (ah4:At K mg "are_weights" Ey) (ah5:At K mg "is_rule" K8) (ah6:At K mg "shares_worth" K9) (ah7:At K mg "product_worth" La) (ah8:At K mg "place_of" Lb) (ah9:At K mg "worth_by" Ld) (aia:At K mg "need_book_and_rule" Le) (aib:At K mg "need_count" Lf) (aic:At K mg "need_book_rule_and_count" Lg) (aie:At K mg "worths_of" Ez) (aif:At K mg "worths_by" EY) (aii:At K mg "best_few" Fb) (aij:At K mg "best_things" Fe) (aik:At K mg "worth_with" Lh) (ail:At K mg "worth_for" Li) (ain:At K mg "room_by" Fg) (aio:At K mg "few_room" Lj) (aip:At K mg "_law_cell" Lk) (aiq:At K mg "_law_take" Ln) (air:At K mg "_law_shared" Lp) (ais:At K mg "_law_frac" Lr) (ait:At K mg "_law_plus" Ls) (aiu:At K mg "_law_by" Lw) (aiv:At K mg "_law_below" Lx) (aiw:At K mg "_law_worth" Ly) (aix:At K mg "_law_book" Fi) (aiy:At K mg "_law_rule" xG) (aiz:At K mg "_law_falling" Lz) (aiA:At K mg "_law_made" LC) (aiB:At K mg "_law_of_things" Aa) (aiC:At K mg "_law_are_best" LK) (aiD:At K mg "_law_few" LQ) (aiE:At K mg "_law_is_fraction" LR) (aiF:At K mg "_law_moved" Fj) (aiG:At K mg "_law_good" Fo) (aiH:At K mg "law" Fp) {MF:V} (Fy:Gk K mg "MOST_LISTS" MF (.int 4)) {MJ:V} (Fz:Gk K mg "MOST_THINGS" MJ (.int 12)) {MK:V} (MN:Gk K mg "BARE_RULES" MK (.tup [(.tup [(.str "least")]),(.tup [(.str "greatest")]),(.tup [(.str "product")])])) {M5:V} (xM:Gk K mg "FULL" M5 (.tup [(.int 1),(.int 1)])) {M6:V} (xO:Gk K mg "NOTHING" M6 (.tup [(.int 0),(.int 1)])):aM P w K mg base 12 "law" (["_law_script"]:List Str) (G5 K 1 xJ):=by
 obtain⟨cl,aiI,aiJ,aiK,aiL,aiM,aiN⟩:∃cl:Str→Addr,cl "NoBottom" = O4∧cl "NoBook" = O5∧cl "NoList" = O6∧cl "NoThing" = O7∧cl "NoRule" = O8∧cl "NoCount" = O9:=⟨λx=>if x=("NoBottom" : Str)then O4 else if x=("NoBook" : Str)then O5 else if x=("NoList" : Str)then O6 else if x=("NoThing" : Str)then O7 else if x=("NoRule" : Str)then O8 else if x=("NoCount" : Str)then O9 else 0,if_pos rfl,(if_neg (by decide +kernel)).trans (if_pos rfl),(if_neg (by decide +kernel)).trans ((if_neg (by decide +kernel)).trans (if_pos rfl)),(if_neg (by decide +kernel)).trans ((if_neg (by decide +kernel)).trans ((if_neg (by decide +kernel)).trans (if_pos rfl))),(if_neg (by decide +kernel)).trans ((if_neg (by decide +kernel)).trans ((if_neg (by decide +kernel)).trans ((if_neg (by decide +kernel)).trans (if_pos rfl)))),(if_neg (by decide +kernel)).trans ((if_neg (by decide +kernel)).trans ((if_neg (by decide +kernel)).trans ((if_neg (by decide +kernel)).trans ((if_neg (by decide +kernel)).trans (if_pos rfl)))))⟩
 rw[<-aiI]at Fx
 rw[<-aiJ]at FJ
 rw[<-aiK]at FT
 rw[<-aiL]at FW
 rw[<-aiM]at FN
 rw[<-aiN]at FQ
 have G6:=afb (P:=P) (w:=w) (base:=base) (cl:=cl) ahI M XT
 have Pa:=aeQ (P:=P) (w:=w) (base:=base) (cl:=cl) ahJ M
 have G7:=ae3 (P:=P) (w:=w) (base:=base) (cl:=cl) ahK M Fx Pa
 have aiO:=ae1 (P:=P) (w:=w) (base:=base) (cl:=cl) ahL M G7
 have aiP:=ae0 (P:=P) (w:=w) (base:=base) (cl:=cl) ahM M G7
 have YQ:=ae2 (P:=P) (w:=w) (base:=base) (cl:=cl) ahN M G7
 have aiQ:=aeZ (P:=P) (w:=w) (base:=base) (cl:=cl) ahO M G7
 have aiR:=aeY (P:=P) (w:=w) (base:=base) (cl:=cl) ahP M
 have YS:=ae7 (P:=P) (w:=w) (base:=base) (cl:=cl) ahQ M XT G6 Pa
 have aiS:=aeP (P:=P) (w:=w) (base:=base) (cl:=cl) ahR M Pa
 have aiT:=afA (P:=P) (w:=w) (base:=base) (cl:=cl) ahS M aiS
 have Pb:=aeR (P:=P) (w:=w) (base:=base) (cl:=cl) ahU ahV M aiT
 have aiU:=afc (P:=P) (w:=w) (base:=base) (cl:=cl) ahW M YS
 have aiV:=aeK (P:=P) (w:=w) (base:=base) (cl:=cl) ahX M XT aiU
 have aiW:=ae4 (P:=P) (w:=w) (base:=base) (cl:=cl) ahY M Fy Fz XT aiV
 have YT:=ae8 (P:=P) (w:=w) (base:=base) (cl:=cl) ahZ M G6
 have aiX:=ae6 (P:=P) (w:=w) (base:=base) (cl:=cl) ah0 M G6
 have aiY:=afj (P:=P) (w:=w) (base:=base) (cl:=cl) ah1 M FJ aiW
 have aiZ:=aft (P:=P) (w:=w) (base:=base) (cl:=cl) ah2 M FT YT
 have ai0:=afu (P:=P) (w:=w) (base:=base) (cl:=cl) ah3 M FW YT
 have ai1:=aeJ (P:=P) (w:=w) (base:=base) (cl:=cl) ah4 M XT YS
 have ai2:=ae9 (P:=P) (w:=w) (base:=base) (cl:=cl) ah5 M MN XT ai1 G6
 have ai3:=afy (P:=P) (w:=w) (base:=base) (cl:=cl) ah6 M aiO YQ
 have ai4:=afw (P:=P) (w:=w) (base:=base) (cl:=cl) ah7 M YQ
 have ai5:=afv (P:=P) (w:=w) (base:=base) (cl:=cl) ah8 M
 have YW:=afC (P:=P) (w:=w) (base:=base) (cl:=cl) ah9 M ai3 ai4 Pb ai5
 have ai6:=afl (P:=P) (w:=w) (base:=base) (cl:=cl) aia M FN aiY ai2
 have ai7:=afr (P:=P) (w:=w) (base:=base) (cl:=cl) aib M FQ aiX
 have YX:=afo (P:=P) (w:=w) (base:=base) (cl:=cl) aic M ai6 ai7
 have YZ:=afK (P:=P) (w:=w) (base:=base) (cl:=cl) aie M
 have Y0:=afJ (P:=P) (w:=w) (base:=base) (cl:=cl) aif M YW YZ
 have ai8:=aeM (P:=P) (w:=w) (base:=base) (cl:=cl) aii M YX Y0 Pb
 have ai9:=aeN (P:=P) (w:=w) (base:=base) (cl:=cl) aij M ai8
 have aja:=afI (P:=P) (w:=w) (base:=base) (cl:=cl) aik M YZ YW
 have ajb:=afG (P:=P) (w:=w) (base:=base) (cl:=cl) ail M aiQ aiP
 have ajc:=afx (P:=P) (w:=w) (base:=base) (cl:=cl) ain M xM xO Y0 Pb aja aiR ajb
 have ajd:=aeT (P:=P) (w:=w) (base:=base) (cl:=cl) aio M YX aiZ ai0 ajc ai9
 have Y4:=aep (P:=P) (w:=w) (base:=base) (cl:=cl) aip M
 have Y5:=aeH (P:=P) (w:=w) (base:=base) aiq M
 have Y6:=aeG (P:=P) (w:=w) (base:=base) (cl:=cl) air M
 have G8:=aeu (P:=P) (w:=w) (base:=base) (cl:=cl) ais M Y6
 have Y7:=aeE (P:=P) (w:=w) (base:=base) (cl:=cl) ait M G8
 have g_by:=aeo (P:=P) (w:=w) (base:=base) (cl:=cl) aiu M G8
 have G9:=ael (P:=P) (w:=w) (base:=base) (cl:=cl) aiv M
 have aje:=aeI (P:=P) (w:=w) (base:=base) (cl:=cl) aiw M Y5 G8
 have ajf:=aem (P:=P) (w:=w) (base:=base) (cl:=cl) aix M Y4 aje
 have ajg:=aeF (P:=P) (w:=w) (base:=base) (cl:=cl) aiy M Y5 G8
 have ajh:=aer (P:=P) (w:=w) (base:=base) (cl:=cl) aiz M G9
 have aji:=aez (P:=P) (w:=w) (base:=base) (cl:=cl) aiA M ajh Y7 g_by
 have Y8:=aeC (P:=P) (w:=w) (base:=base) (cl:=cl) aiB M aji
 have ajj:=aek (P:=P) (w:=w) (base:=base) (cl:=cl) aiC M Y8 G9
 have ajk:=aes (P:=P) (w:=w) (base:=base) (cl:=cl) aiD M Y8 G9
 have ajl:=aey (P:=P) (w:=w) (base:=base) (cl:=cl) aiE M XT Y6
 have ajm:=aeB (P:=P) (w:=w) (base:=base) (cl:=cl) aiF M
 have ajn:=aev (P:=P) (w:=w) (base:=base) (cl:=cl) aiG M XT ajk G9 g_by Y7 ajj ajm ajl
 have ajo:=afd (P:=P) (w:=w) (base:=base) (cl:=cl) aiH M Y4 ajf ajg ajd ajn
 obtain⟨f,fd,h1,h2⟩:=ajo
 exact⟨f,fd,h1.imp ahF,h2⟩
end
theorem walk{l:OpenLaw}{q:Program}{loose:List Str}{XP:(Str->Option Value)->Heap->Prop}{YP:World->Heap->Prop}{d:DefRec}{K:Params->Frag}(hn:l.most=some 63)(hdf:d.params.defaults=[])(hd:d.name = "law")
  (Bs:∀x∈jj,((PyProof.Rows.recsOf q).find? (λe=>e.name == x)).isSome=true\/∀w:World,nsIn (K w.params) mainGlobals x=some none) (vM:∀w:World,noTabs (K w.params)=true)
  (hY:∀(w:World) (h:Heap),YP w h->(K w.params).In h)
  (F:∀(w:World) (mg:Str->Option Value) (h:Heap),(K w.params).In h->h.Ns mainGlobals mg->∀base:Heap,(K w.params).In base->base.Ns mainGlobals mg->(∀x∈jj,∀c b,tabIn (K w.params) x=some (c,b)->CodeHd base c b)->qH mg base->aM l.prog w (K w.params) mg base 12 "law" (["_law_script"]:List Str) (G5 (K w.params) 1 xJ)) :
  WalkO q loose XP YP l.row.toRowW d [] (λf vs=>PySem.call f vs) :=
 L2.ahA (n:=63) (k:=12) (x := "_law_script") (CX:=λw=>jt l.prog w) (sp:=λw=>G5 (K w.params) 1 xJ) hn (by decide) hdf ⟨rfl,by decide,by decide,rfl⟩ Bs vM hY
  (λw mg fa h KX G hm base kb gb hc bm=>by
   obtain⟨f,fd,h1,h2,_,h4⟩:=F w mg h KX G base kb gb hc bm
   rw[hd]at hm
   cases h4.symm.trans hm
   exact⟨fd,λs u ks=>h2 s [u] ks rfl,h1⟩)
  (λw H a ns hl hTb hS=>⟨λ_=>False,[.lst (ns.map .int)],rfl,.cons (.lst ((ahE H).symm▸hS.toN) (YH ns)) .nil,λb z=>z.elim,hTb,_,ahy ns,λv H' _ r=>by
   cases r
   rfl⟩)
  λw H s e s' h=>by
   obtain⟨_,_,_,_,_,_,z,_⟩:=h
   exact z
end K57
end
section
namespace PySem.W.Fast
end PySem.W.Fast
namespace PySem.W.Fast
end PySem.W.Fast
namespace PySem.W.Fast
theorem tw10263579052318843151:True:=⟨⟩
theorem tw10301176974273263279:True:=⟨⟩
theorem tw10434286850301874424:True:=⟨⟩
theorem tw10512168200931143378:True:=⟨⟩
theorem tw10809888562668097041:True:=⟨⟩
theorem tw11036991067896456358:True:=⟨⟩
theorem tw11039506516988179572:True:=⟨⟩
theorem tw11063993749071098837:True:=⟨⟩
theorem tw11082208110216338259:True:=⟨⟩
theorem tw11105980980576459395:True:=⟨⟩
theorem tw1135812284467459549:True:=⟨⟩
theorem tw11387670070542660048:True:=⟨⟩
theorem tw11399156070063423533:True:=⟨⟩
theorem tw1155242375500661061:True:=⟨⟩
theorem tw12235774667954318378:True:=⟨⟩
theorem tw12435108753390781156:True:=⟨⟩
theorem tw1253868543760818912:True:=⟨⟩
theorem tw12552959807514541681:True:=⟨⟩
theorem tw12700076179697598625:True:=⟨⟩
theorem tw12746678671711397608:True:=⟨⟩
theorem tw13101527802979223106:True:=⟨⟩
theorem tw13163471010423775854:True:=⟨⟩
theorem tw13572964011008552484:True:=⟨⟩
theorem tw13885486684323600794:True:=⟨⟩
theorem tw13937669853255438851:True:=⟨⟩
theorem tw13942417201653270926:True:=⟨⟩
theorem tw13953346970989687094:True:=⟨⟩
theorem tw13960622250114324802:True:=⟨⟩
theorem tw14076425086076143300:True:=⟨⟩
theorem tw14290729669822643552:True:=⟨⟩
theorem tw14371807351467525950:True:=⟨⟩
theorem tw14497068054550016982:True:=⟨⟩
theorem tw14568388778517199744:True:=⟨⟩
theorem tw14669463137143241921:True:=⟨⟩
theorem tw14811631274596976958:True:=⟨⟩
theorem tw15048081702233932115:True:=⟨⟩
theorem tw15226026235364696476:True:=⟨⟩
theorem tw1529604108574256915:True:=⟨⟩
theorem tw15569022745044583418:True:=⟨⟩
theorem tw15584247850645874103:True:=⟨⟩
theorem tw15695168801506689330:True:=⟨⟩
theorem tw15709598986682521387:True:=⟨⟩
theorem tw16035750939629523448:True:=⟨⟩
theorem tw16186747861826116489:True:=⟨⟩
theorem tw16364580232253683922:True:=⟨⟩
theorem tw16572700060994039269:True:=⟨⟩
theorem tw1664863268637295833:True:=⟨⟩
theorem tw1670059033978203888:True:=⟨⟩
theorem tw16785883605771848824:True:=⟨⟩
theorem tw1679130358204069232:True:=⟨⟩
theorem tw16872885815679795739:True:=⟨⟩
theorem tw17076050792943575510:True:=⟨⟩
theorem tw17428503752653710044:True:=⟨⟩
theorem tw17429666458336687571:True:=⟨⟩
theorem tw17529968838635648214:True:=⟨⟩
theorem tw17723982005726425359:True:=⟨⟩
theorem tw17755390157841047144:True:=⟨⟩
theorem tw17831640992934202763:True:=⟨⟩
theorem tw17854630221074246148:True:=⟨⟩
theorem tw17864616061491743475:True:=⟨⟩
theorem tw17886714964060015469:True:=⟨⟩
theorem tw17948250724150803577:True:=⟨⟩
theorem tw18008394805309989415:True:=⟨⟩
theorem tw18128045745025861616:True:=⟨⟩
theorem tw1814541771583388521:True:=⟨⟩
theorem tw18158224076487918570:True:=⟨⟩
theorem tw18276144233500479313:True:=⟨⟩
theorem tw1868354017465863030:True:=⟨⟩
theorem tw1890850628528865807:True:=⟨⟩
theorem tw1972310953070726541:True:=⟨⟩
theorem tw2005899299689075694:True:=⟨⟩
theorem tw2179266634143374501:True:=⟨⟩
theorem tw2268794132160151060:True:=⟨⟩
theorem tw23187562011900618:True:=⟨⟩
theorem tw236517893437751155:True:=⟨⟩
theorem tw2443541437814953192:True:=⟨⟩
theorem tw2524948515506049756:True:=⟨⟩
theorem tw2751650931167246279:True:=⟨⟩
theorem tw2810914598643024360:True:=⟨⟩
theorem tw2869293205238064639:True:=⟨⟩
theorem tw2935598381288940441:True:=⟨⟩
theorem tw3079115218413006162:True:=⟨⟩
theorem tw3138410772132254159:True:=⟨⟩
theorem tw3150995020845623551:True:=⟨⟩
theorem tw3428629288597998451:True:=⟨⟩
theorem tw3465910661682406018:True:=⟨⟩
theorem tw3468696686648215614:True:=⟨⟩
theorem tw3479234446302942273:True:=⟨⟩
theorem tw3541733432049708735:True:=⟨⟩
theorem tw3803511780423926014:True:=⟨⟩
theorem tw3965447888498912087:True:=⟨⟩
theorem tw3967994830803484917:True:=⟨⟩
theorem tw3998539372882334151:True:=⟨⟩
theorem tw4130920637635852563:True:=⟨⟩
theorem tw4192396208397034717:True:=⟨⟩
theorem tw4331370992723068953:True:=⟨⟩
theorem tw4428446901336953871:True:=⟨⟩
theorem tw4473942090737151775:True:=⟨⟩
theorem tw4624542346923696592:True:=⟨⟩
theorem tw4677669316729802256:True:=⟨⟩
theorem tw4801722645370815703:True:=⟨⟩
theorem tw4803133275873515568:True:=⟨⟩
theorem tw4853788908492430549:True:=⟨⟩
theorem tw4894431919227712333:True:=⟨⟩
theorem tw4999677704075666931:True:=⟨⟩
theorem tw4999698065569999722:True:=⟨⟩
theorem tw5007431199482283223:True:=⟨⟩
theorem tw5198968327463543431:True:=⟨⟩
theorem tw5310694531115240428:True:=⟨⟩
theorem tw5329832355412580074:True:=⟨⟩
theorem tw5566037382548005768:True:=⟨⟩
theorem tw5602616285556889561:True:=⟨⟩
theorem tw6073458882075969356:True:=⟨⟩
theorem tw6251903714453553710:True:=⟨⟩
theorem tw6323607032143487652:True:=⟨⟩
theorem tw6392185263161959326:True:=⟨⟩
theorem tw6404353580877969169:True:=⟨⟩
theorem tw6590084487447737:True:=⟨⟩
theorem tw6630413125532270886:True:=⟨⟩
theorem tw6702302037075723344:True:=⟨⟩
theorem tw6716553476169584655:True:=⟨⟩
theorem tw6721339454702243342:True:=⟨⟩
theorem tw6895567049746033158:True:=⟨⟩
theorem tw690297533825606255:True:=⟨⟩
theorem tw7088232946029210728:True:=⟨⟩
theorem tw7231891539653547694:True:=⟨⟩
theorem tw7528186739699798871:True:=⟨⟩
theorem tw7591384767406677566:True:=⟨⟩
theorem tw7697612510861964603:True:=⟨⟩
theorem tw7728634331666300176:True:=⟨⟩
theorem tw7798800414838497384:True:=⟨⟩
theorem tw7817171437874243348:True:=⟨⟩
theorem tw8391302623283437814:True:=⟨⟩
theorem tw8604084199924501159:True:=⟨⟩
theorem tw8737900396553607044:True:=⟨⟩
theorem tw8802670879254334821:True:=⟨⟩
theorem tw9005466370076869695:True:=⟨⟩
theorem tw9157040969097323842:True:=⟨⟩
theorem tw9544806170215615478:True:=⟨⟩
theorem tw9575038567744116678:True:=⟨⟩
theorem tw9657790747133362872:True:=⟨⟩
theorem tw9776364883608245610:True:=⟨⟩
theorem tw9827572769708204640:True:=⟨⟩
theorem tw9849844411173394779:True:=⟨⟩
theorem tw9872205740749653099:True:=⟨⟩
end PySem.W.Fast
open PySem PySem.W PyProof.Rows
set_option maxRecDepth 100000 in
set_option maxHeartbeats 0 in
theorem PySem.Challenge.cw_bestheads_k57_rooms_of_worths_holds : PySem.Challenge.rw_bestheads_k57_rooms_of_worths.Holds := by
 w_on; o_law; k_head; (case hw=>w_witness2)
 k_fill
 refine K57.walk (l:=PySem.Challenge.rw_bestheads_k57_rooms_of_worths) rfl rfl rfl ?Bs ?vM (λw h Y=>by first|exact PySem.W.km_in_of Y|exact PySem.W.kIn_of Y) ?F
 case Bs =>
  intro x hx
  rcases(List.mem_cons.mp hx)with rfl|hx
  ·exact .inl (by kernel_rfl)
  ·rw[List.mem_singleton.mp hx]
   exact .inr λw=>by k_is
 case vM=>intro w; kernel_rfl
 case F =>
  intro w mg h KX G base kb gb hcd hbm
  refine' K57.ahH ?qM ?ajp ?ajq ?ajr ?ajs ?ajt ?aju ?qXT ?qd1 ?qd2 ?qd3 ?qd4 ?qd5 ?qd6 ?qd7 ?qd8 ?qd9 ?ajv ?ajw ?ajx ?ajy ?ajz ?ajA ?ajB ?ajC ?ajD ?ajE ?ajF ?ajG ?ajH ?ajI ?ajJ ?ajK ?ajL ?ajM ?ajN ?ajO ?ajP ?ajQ ?ajR ?ajS ?ajT ?ajU ?ajV ?ajW ?ajX ?ajY ?ajZ ?aj0 ?aj1 ?aj2 ?aj3 ?aj4 ?aj5 ?aj6 ?aj7 ?aj8 ?aj9 ?akb ?akc ?akd ?ake ?akf ?akg ?akh ?aki ?akj ?akk ?akl ?akm
  case qM =>
   refine' K57.ahG KX G ?z0 ?z1 ?z2 ?z3 ?z4 ?z5 ?z6 ?z7 ?z8 ?z9 ?YJ ?YK ?YL
   all_goals k_is
  case qd1|qd2|qd3|qd4|qd5|qd6|qd7|qd8|qd9|ajv|ajw|ajz|ajA|ajB|ajC|ajD|ajE|ajF|ajG|ajH|ajI|ajJ|ajK|ajL|ajM|ajN|ajO|ajP|ajQ|ajR|ajS|ajT|ajU|ajV|ajW|ajX|ajY|ajZ|aj0|aj1|aj2|aj3|aj4|aj5|aj6|aj7|aj8|aj9|akb|akc|akd|ake|akf|akg|akh=>exact K57.ahB KX G (by k_is) (by k_is) (by k_is) (by k_is)
  case ajx =>
   refine' K57.ahC KX G ?akn ?ako ?akp ?akq
   (case akn=>k_is); (case ako=>k_is); (case akp=>k_is); (case akq=>k_is)
  case ajy =>
   refine' L2.ad0 (by decide) hcd hbm (L2.adZ ?akr ?aks ?akt ?aku ?akv ?akx ?aky ?akz ?akA) ?akB
   (case akr=>k_is); (case aks=>k_is); (case aku=>k_is); (case akx=>exact rfl); (case aky=>k_is); (case akt=>kernel_rfl); (case akv=>kernel_rfl); (case akz=>kernel_rfl); (case akA=>exact rfl)
   case akB =>
    intro x' hx'
    rcases(List.mem_cons.mp hx')with rfl|hx'
    ·exact .inl rfl
    ·rw[List.mem_singleton.mp hx']
     exact .inr λc' z=>(by have y:=(L2.Va (by k_is)).symm.trans z; cases y)
  case aki =>
   refine' K57.YF KX G ?akC
   (case akC=>k_is)
  case akj =>
   refine' K57.YF KX G ?akD
   (case akD=>k_is)
  case akk =>
   refine' K57.ahD KX G ?qbm ?qbl ?qbe ?akE ?akF ?akG ?akH ?akI ?akJ
   (case qbm=>k_is); (case qbl=>k_is); (case qbe=>rfl); (case akE=>k_is); (case akF=>rfl); (case akG=>k_is); (case akH=>rfl); (case akI=>k_is); (case akJ=>rfl)
  case akl =>
   refine' K57.YG KX G ?akK ?akL ?akM
   (case akK=>k_is); (case akL=>k_is); (case akM=>rfl)
  case akm =>
   refine' K57.YG KX G ?akN ?akO ?akP
   (case akN=>k_is); (case akO=>k_is); (case akP=>rfl)
  case qXT=>exact L2.mD.of (by kernel_rfl)
  case ajp =>
   refine' L2.wk kb gb ?akQ ?akR
   (case akQ=>k_is); (case akR=>k_exc)
  case ajq =>
   refine' L2.wk kb gb ?akS ?akT
   (case akS=>k_is); (case akT=>k_exc)
  case ajr =>
   refine' L2.wk kb gb ?akU ?akV
   (case akU=>k_is); (case akV=>k_exc)
  case ajs =>
   refine' L2.wk kb gb ?akW ?akX
   (case akW=>k_is); (case akX=>k_exc)
  case ajt =>
   refine' L2.wk kb gb ?akY ?akZ
   (case akY=>k_is); (case akZ=>k_exc)
  case aju =>
   refine' L2.wk kb gb ?ak0 ?ak1
   (case ak0=>k_is); (case ak1=>k_exc)
#print axioms PySem.Challenge.cw_bestheads_k57_rooms_of_worths_holds
end
end
